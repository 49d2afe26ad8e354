import Derived.Test.YtnfmjckkibdcaaaGreatDoorK15
import Derived.Test.YtnfmjckkibdcaaaGreatDoorK22
import Derived.Deep.RegionHeld3
namespace Go.Proofs.YtnfmjckkibdcaaaGreatDoor
set_option linter.all false
open Option renaming none->nn,some->sQ
set_option maxRecDepth 20000
open Go.RowKit
set_option maxHeartbeats 16000000
open Go.Value renaming int->I,slice->sL,bool->bO,pointer->pT,agg->aG
open Go.IntKind renaming i64->J
open Go.Ending renaming returned->rT
open Go.Proofs.Tryz renaming prog->Tp
variable {w:World} {B:Nat} {v:Value} {l:List Nat}
def aa.setCells {b:Nat} (h:aa w B v l) (hb:b<B) (o:Nat) (vs:List Value):aa (w.setCells b o vs) B v l:=by
 refine⟨h.1,?_⟩;rcases h.2 with⟨e,e2⟩|⟨g1,cap,cur,hv',hb1,hg,hcp,hmx,hsz,htk⟩
 .exact .inl ⟨e,e2⟩
 .exact .inr ⟨g1,cap,cur,hv',hb1,(sO _ _ om _ _ _).trans hg,hcp,hmx,hsz,htk⟩
def aa.mono {B':Nat} (h:aa w B v l) (hb:B'<=B):aa w B' v l:=by
 refine⟨h.1,?_⟩;rcases h.2 with⟨e,e2⟩|⟨g1,cap,cur,hv',hb1,hg,hcp,hmx,hsz,htk⟩
 .exact .inl ⟨e,e2⟩
 .exact .inr ⟨g1,cap,cur,hv',om,hg,hcp,hmx,hsz,htk⟩
def iV (w:World) (S:Sc) (a:Option Addr) (n cap:Nat) (h:iB w a n cap S.l) (hn:n<=1048576) :
  Calls Tp 22 #[scV S a n cap] w fun o w'=>∃ g k,o = rT (scV S (sQ ⟨g,0,nn⟩) n k)/\aa w' (w.heap.size+2) (sL (sQ ⟨g,0,nn⟩) n k) S.l/\Bl w w':=by
 have HH:Hid (iB w a n cap S.l):=h;clear h;obtain⟨f,lf,rn,lv,cr,ac,e,i,r,d,l⟩:=S;go_enter Tryz.func22,Tryz.ntmps22;go_wp2_with fail;refine (kn _ e i r d a n cap l (HH.o.below (((bW _ _).alloc (nR _) _).alloc pQ _)) hn).mono ?_;rintro o w1 ⟨g,k,rfl,ho,hb⟩;have HP:Hid (blk w1 w.heap.size ([I J f,I J lf,I J rn,I J lv,I J cr,I J ac]++[bO e,I .u32 (i:Int),bO r,I J d,sL a n cap]++[]) 49):=((blk.new w _ 49).alloc _).below hb;have HR:Hid (blk w1 (w.heap.size+1) ([]++z11++[]) 49):=by
  have:=(blk.new (w.alloc (.cells [I J f,I J lf,I J rn,I J lv,I J cr,I J ac,bO e,I .u32 (i:Int),bO r,I J d,sL a n cap].toArray 49)) z11 49).below hb;simpa[Hid] using this
 have HB:Hid (Bl w w1):=(((bW w.heap.size w).alloc (nR _) _).alloc pQ _).trans (hb.mono (by simp;omega));have HG:Hid (aa w1 (w.heap.size+2) (sL (sQ ⟨g,0,nn⟩) n k) l):=ho.mono pQ
 clear hb ho;go_wp2_with (first
  | (refine QE (P:=Tp) rfl 47 (.tmp 6) (.tmp 5) rfl w.heap.size 6 #[bO e,I .u32 (i:Int),bO r,I J d,sL (sQ ⟨g,0,nn⟩) n k] rfl rfl (HP.o.there 6 5 pQ) gp (pP _ _ _ _ _ _ _) ?_;generalize hW2:World.setCells w1 w.heap.size 6 _=w2;have HW2:Hid (World.setCells w1 w.heap.size 6 [bO e,I .u32 (i:Int),bO r,I J d,sL (sQ ⟨g,0,nn⟩) n k]=w2):=hW2;have HP2:Hid (blk w2 w.heap.size (scL ⟨f,lf,rn,lv,cr,ac,e,i,r,d,l⟩ (sQ ⟨g,0,nn⟩) n k) 49):=(hW2 ▸ blk.put [I J f,I J lf,I J rn,I J lv,I J cr,I J ac] _ [] _ HP.o rfl);have HR2:Hid (blk w2 (w.heap.size+1) ([]++z11++[]) 49):=(hW2 ▸ HR.o.other om _ _);clear hW2)
  | (refine QA (P:=Tp) rfl 49 (.tmp 1) rfl w.heap.size 0 rfl _ _ HP2.o.load Tryz.underlying49 rfl dV ?_)
  | (refine QE (P:=Tp) rfl 49 (.tmp 2) (.tmp 7) rfl (w.heap.size+1) 0 _ rfl rfl (HR2.o.there 0 11 pQ) dV (pR _ _ _ _ _ _ _ _ _ _ _ _ _) ?_;generalize hW3:World.setCells w2 (w.heap.size+1) 0 _=w3;have HW3:Hid (World.setCells w2 (w.heap.size+1) 0 (scL ⟨f,lf,rn,lv,cr,ac,e,i,r,d,l⟩ (sQ ⟨g,0,nn⟩) n k)=w3):=hW3;clear hW3))
 have e2:=HW2.o;have e3:=HW3.o;have hF:blk w3 (w.heap.size+1) (scL ⟨f,lf,rn,lv,cr,ac,e,i,r,d,l⟩ (sQ ⟨g,0,nn⟩) n k) 49:=e3 ▸ blk.put [] z11 [] _ HR2.o rfl;have hL:=QJ (P:=Tp) w3 (w.heap.size+1) 0 49 _ _ hF.load Tryz.underlying49 rfl dV;refine bC Tryz.results22 hL ?_;subst e2;subst e3;exact⟨g,k,rfl,(HG.o.setCells om _ _).setCells om _ _,sW om _ _ (sW om _ _ HB.o)⟩
def wC (w:World) (f:Int) (hf:f=2\/f=5) (e:Bool) (i:Nat) (hi:i<536870912) (r:Bool) (d:Int) (a:Option Addr) (n cap:Nat) (t:Int) (b:Nat) (hb:b<2) :
  Calls Tp 110 #[frV e i r d a n cap,I J f,I J t,I J (b:Int)] w fun o w'=>o = rT (frV e ((2*i+b) % 536870912) r d a n cap)/\Bl w w':=by
 have HE:Hid ((2*(i:Int)+(b:Int)) % 536870912=(((2*i+b) % 536870912:Nat):Int)):=by show _=_;omega
 have HI:Hid (i<536870912):=hi;have hi2:(i:Int)<1000000000:=om;clear hi;generalize (2*i+b) % 536870912=i' at *;rcases hf with rfl|rfl
 all_goals
  go_enter Tryz.func110,Tryz.ntmps110;go_wp2;refine QF (v:=frV e i' r d a n cap) (by simp[results,Tryz.results110,go_sem,HE.o]) rfl ?_;exact⟨rfl,((bW _ _).alloc (nR _) _).alloc pQ _⟩
def tm (w:World) (f:Int) (hf:f=3\/f=6) (e:Bool) (i:Nat) (r:Bool) (d:Int) (a:Option Addr) (n cap:Nat) (t:Int) (b:Nat) (hb:b<2) :
  Calls Tp 110 #[frV e i r d a n cap,I J f,I J t,I J (b:Int)] w fun o w'=>o = rT (frV e i (b == 1) d a n cap)/\Bl w w':=by
 have hb':b=0\/b=1:=om;rcases hf with rfl | rfl <;> rcases hb' with rfl | rfl
 all_goals
  go_enter Tryz.func110,Tryz.ntmps110;go_wp2;refine QF (v:=frV e i _ d a n cap) (by simp[results,Tryz.results110,go_sem];rfl) rfl ?_;exact⟨rfl,((bW _ _).alloc (nR _) _).alloc pQ _⟩
def tq (w:World) (e:Bool) (i:Nat) (r:Bool) (d:Int) (a:Option Addr) (n cap:Nat) (t:Int) (b:Nat) (hb:b<2) :
  Calls Tp 110 #[frV e i r d a n cap,I J 4,I J t,I J (b:Int)] w fun o w'=>o = rT (frV (b == 1) i (if b=1 then false else r) d a n cap)/\Bl w w':=by
 have hb':b=0\/b=1:=om;rcases hb' with rfl|rfl
 .go_enter Tryz.func110,Tryz.ntmps110;go_wp2;refine QF (v:=frV false i r d a n cap) (by simp[results,Tryz.results110,go_sem]) rfl ?_;exact⟨rfl,((bW _ _).alloc (nR _) _).alloc pQ _⟩
 .go_enter Tryz.func110,Tryz.ntmps110;go_wp2;refine QF (v:=frV true i false d a n cap) (by simp[results,Tryz.results110,go_sem]) rfl ?_;exact⟨rfl,((bW _ _).alloc (nR _) _).alloc pQ _⟩
def tr (w:World) (e:Bool) (i:Nat) (r:Bool) (d:Int) (hd:0<=d) (hd1:d<=15) (a:Option Addr) (n cap:Nat) (t:Int) (b:Nat) (hb:b<2) :
  Calls Tp 110 #[frV e i r d a n cap,I J 8,I J t,I J (b:Int)] w fun o w'=>o = rT (frV e i r ((2*d+b) % 16) a n cap)/\Bl w w':=by
 go_enter Tryz.func110,Tryz.ntmps110;go_wp2;refine QF (v:=frV e i r ((2*d+b) % 16) a n cap) (by simp[results,Tryz.results110,go_sem]) rfl ?_;exact⟨rfl,((bW _ _).alloc (nR _) _).alloc pQ _⟩
def tp (w:World) (f:Int) (h2:f≠2) (h3:f≠3) (h4:f≠4) (h5:f≠5) (h6:f≠6) (h8:f≠8) (h9:f≠9) (e:Bool) (i:Nat) (r:Bool) (d:Int) (a:Option Addr) (n cap:Nat) (t:Int) (b:Nat) :
  Calls Tp 110 #[frV e i r d a n cap,I J f,I J t,I J (b:Int)] w fun o w'=>o = rT (frV e i r d a n cap)/\Bl w w':=by
 go_enter Tryz.func110,Tryz.ntmps110;go_wp2;refine QF (v:=frV e i r d a n cap) (by simp[results,Tryz.results110,go_sem]) rfl ?_;exact⟨rfl,((bW _ _).alloc (nR _) _).alloc pQ _⟩
def ts (w:World) (B:Nat) (hB:B<=w.heap.size) (e:Bool) (i:Nat) (r:Bool) (d:Int) (g n k:Nat) (l:List Nat) (ho:aa w B (sL (sQ ⟨g,0,nn⟩) n k) l) (hn:n=l.length) (hn8:n<=8) (t:Nat) (ht:t % 8=0) (ht1:t<=100) (b:Nat) (hb:b<2) :
  Calls Tp 110 #[frV e i r d (sQ ⟨g,0,nn⟩) n k,I J 9,I J (t:Int),I J (b:Int)] w fun o w'=>∃ g' k',o = rT (frV e i r d (sQ ⟨g',0,nn⟩) (n+1) k')/\aa w' B (sL (sQ ⟨g',0,nn⟩) (n+1) k') (l++[b])/\Below B w w'/\(∀ q,q≠g->q<w.heap.size->w'.heap[q]?=w.heap[q]?)/\(g'=g\/w.heap.size<=g'):=by
 have HL:Hid (n=l.length):=hn;have hgl:=QC ho g rfl;have HGL:Hid (B<=g/\g<w.heap.size):=hgl;have HO:Hid (World.ownsRow (((w.alloc (.cells #[bO e,I .u32 (i:Int),bO r,I J d,sL (sQ ⟨g,0,nn⟩) n k] 47)).alloc (.cells #[bO false,I .u32 0,bO false,I J 0,sL nn 0 0] 47)).alloc (.cells #[I .u8 (b:Int)] 5)) B 5 1 (sL (sQ ⟨g,0,nn⟩) n k) n (bv l)):=by
  have:=ho.below ((((bW w.heap.size w).alloc (nR _) (.cells #[bO e,I .u32 (i:Int),bO r,I J d,sL (sQ ⟨g,0,nn⟩) n k] 47)).alloc pQ (.cells #[bO false,I .u32 0,bO false,I J 0,sL nn 0 0] 47)).alloc (by simp;omega) (.cells #[I .u8 (b:Int)] 5));unfold aa at this;rw[<- hn] at this;exact this
 have HP:Hid (blk (((w.alloc (.cells #[bO e,I .u32 (i:Int),bO r,I J d,sL (sQ ⟨g,0,nn⟩) n k] 47)).alloc (.cells #[bO false,I .u32 0,bO false,I J 0,sL nn 0 0] 47)).alloc (.cells #[I .u8 (b:Int)] 5)) w.heap.size [bO e,I .u32 (i:Int),bO r,I J d,sL (sQ ⟨g,0,nn⟩) n k] 47):=((blk.new w _ 47).alloc _).alloc _;have HR:Hid (blk (((w.alloc (.cells #[bO e,I .u32 (i:Int),bO r,I J d,sL (sQ ⟨g,0,nn⟩) n k] 47)).alloc (.cells #[bO false,I .u32 0,bO false,I J 0,sL nn 0 0] 47)).alloc (.cells #[I .u8 (b:Int)] 5)) (w.heap.size+1) ([]++[bO false,I .u32 0,bO false,I J 0,sL nn 0 0]++[]) 47):=by
  have:=(blk.new (w.alloc (.cells #[bO e,I .u32 (i:Int),bO r,I J d,sL (sQ ⟨g,0,nn⟩) n k] 47)) [bO false,I .u32 0,bO false,I J 0,sL nn 0 0] 47).alloc (.cells #[I .u8 (b:Int)] 5);simpa[Hid] using this
 have HX:Hid (blk (((w.alloc (.cells #[bO e,I .u32 (i:Int),bO r,I J d,sL (sQ ⟨g,0,nn⟩) n k] 47)).alloc (.cells #[bO false,I .u32 0,bO false,I J 0,sL nn 0 0] 47)).alloc (.cells #[I .u8 (b:Int)] 5)) (w.heap.size+1+1) [I .u8 (b:Int)] 5):=by
  have:=blk.new ((w.alloc (.cells #[bO e,I .u32 (i:Int),bO r,I J d,sL (sQ ⟨g,0,nn⟩) n k] 47)).alloc (.cells #[bO false,I .u32 0,bO false,I J 0,sL nn 0 0] 47)) [I .u8 (b:Int)] 5;simpa[Hid] using this
 have HBL:Hid (Bl w (((w.alloc (.cells #[bO e,I .u32 (i:Int),bO r,I J d,sL (sQ ⟨g,0,nn⟩) n k] 47)).alloc (.cells #[bO false,I .u32 0,bO false,I J 0,sL nn 0 0] 47)).alloc (.cells #[I .u8 (b:Int)] 5))):=(((bW w.heap.size w).alloc (nR _) _).alloc pQ _).alloc (by simp;omega) _;have h8:((t:Int)).tmod 8=0:=by rw[qh om];omega
 clear ho hn hgl;go_enter Tryz.func110,Tryz.ntmps110
 go_wp2_with (first
  | (at_builtin;refine oV rfl (.tmp 51) (.tmp 54) 45 5 _ 1 1 Tryz.info5 Tryz.underlying45 rfl (by decide) (by decide) rfl B g n k (bv l) rfl HO.o (w.heap.size+1+1) [I .u8 (b:Int)] rfl rfl HX.o (by intro u hu;simp at hu;subst hu;rfl) om (by simp;omega) ?_;intro g' k' w6 ho6 hg6 hg' hB6;have hgl:=HGL.o;have P6:=HP.o.kept (hg6.block _ (by simp;omega) (by intro e;cases e;omega));have R6:=HR.o.kept (hg6.block _ pQ (by intro e;cases e;omega));have x4:=P6.cell 4 _ rfl;have f4:=P6.free 4;have HP6:Hid (blk w6 w.heap.size [bO e,I .u32 (i:Int),bO r,I J d,sL (sQ ⟨g,0,nn⟩) n k] 47):=P6;have HR6:Hid (blk w6 (w.heap.size+1) ([]++[bO false,I .u32 0,bO false,I J 0,sL nn 0 0]++[]) 47):=R6;have HO6:Hid (w6.ownsRow B 5 1 (sL (sQ ⟨g',0,nn⟩) (n+1) k') (n+1) (bv l++[I .u8 (b:Int)])):=ho6;have HO66:Hid ((∀ q,q≠g->q<w.heap.size->w6.heap[q]?=w.heap[q]?)/\(g'=g\/w.heap.size<=g')):=⟨fun q h1 h2=>(hg6.block q (by simp;omega) (by intro e;cases e;exact h1 rfl)).trans (HBL.o.block q h2),Or.elim hg' (fun h=>qr h) (fun h=>qy (by rw[h];simp;omega))⟩;have HB6:Hid (Below B w w6/\(g'<w.heap.size\/w.heap.size+1<g')):=⟨(HBL.o.mono hB).grown hg6 (by simp;omega) (by intro q hq;cases hq;exact hgl.1),Or.elim hg' (fun h=>qr om) (fun h=>qy (by rw[h];simp))⟩;clear P6 R6 ho6 hg6 hgl hg' hB6)
  | (refine QA (P:=Tp) rfl 47 (.tmp 4) rfl w.heap.size 0 rfl _ _ (HP6.o.set 4 (sL (sQ ⟨g',0,nn⟩) (n+1) k')).load Tryz.underlying47 rfl gp ?_)
  | (refine QE (P:=Tp) rfl 47 (.tmp 8) (.tmp 74) rfl (w.heap.size+1) 0 #[bO e,I .u32 (i:Int),bO r,I J d,sL (sQ ⟨g',0,nn⟩) (n+1) k'] rfl rfl ((HR6.o.setOther om 4 (sL (sQ ⟨g',0,nn⟩) (n+1) k')).there 0 5 pQ) gp (pP _ _ _ _ _ _ _) ?_;generalize hW8:World.setCells (World.setCell _ _ _) (w.heap.size+1) 0 _=w8;have HW8:Hid (World.setCells (w6.setCell ⟨w.heap.size,4,nn⟩ (sL (sQ ⟨g',0,nn⟩) (n+1) k')) (w.heap.size+1) 0 [bO e,I .u32 (i:Int),bO r,I J d,sL (sQ ⟨g',0,nn⟩) (n+1) k']=w8):=hW8;clear hW8))
 have e8:=HW8.o;have hF:blk w8 (w.heap.size+1) [bO e,I .u32 (i:Int),bO r,I J d,sL (sQ ⟨g',0,nn⟩) (n+1) k'] 47:=e8 ▸ blk.put [] [bO false,I .u32 0,bO false,I J 0,sL nn 0 0] [] _ (HR6.o.setOther om 4 _) rfl;have hL:=QJ (P:=Tp) w8 (w.heap.size+1) 0 47 _ _ hF.load Tryz.underlying47 rfl gp;refine bC Tryz.results110 hL ?_;obtain⟨b1,b2⟩:=HB6.o;refine⟨g',k',rfl,?_,?_,fun q h1 h2=>?_,HO66.o.2⟩
 .have h1:=dj (w':=w8) HO6.o (by rw[<- e8,sO _ _ om,QB _ _ _ _ (by show g'≠w.heap.size;omega)]);unfold aa;rw[nu,qe,<- HL.o];exact h1
 .rw[<- e8];exact sW om _ _ (b1.setCell (by show B<=w.heap.size;omega) _)
 .rw[<- e8,sO _ _ om,QB _ _ _ _ (by show q≠w.heap.size;omega)];exact HO66.o.1 q h1 h2
structure tS (w:World) (B:Nat) (e:Bool) (i:Nat) (r:Bool) (d:Int) (g n k:Nat) (W:World):Prop where
 p:blk W w.heap.size [bO e,I .u32 (i:Int),bO r,I J d,sL (sQ ⟨g,0,nn⟩) n k] 47
 r:blk W (w.heap.size+1) ([]++[bO false,I .u32 0,bO false,I J 0,sL nn 0 0]++[]) 47
 b:Below B w W
def zc (x b:Nat):IntKind.u8.wrap (IntKind.u8.wrap (2*(x:Int))+(b:Int))=(((2*x+b) % 256:Nat):Int):=by
 rw[IntKind.wrap_u8,IntKind.wrap_u8];omega
def Ah (l:List Nat) (j x:Nat):bv (l.set j x)=(bv l).set j (I .u8 (x:Int)):=by simp[bv,List.map_set]
def rd (w:World) (B:Nat) (hB:B<=w.heap.size) (e:Bool) (i:Nat) (r:Bool) (d:Int) (g m k:Nat) (l:List Nat) (ho:aa w B (sL (sQ ⟨g,0,nn⟩) (m+1) k) l) (hn:m+1=l.length) (hn8:m<=7) (t:Nat) (ht:t % 8≠0) (ht1:t<=100) (b:Nat) (hb:b<2) :
  Calls Tp 110 #[frV e i r d (sQ ⟨g,0,nn⟩) (m+1) k,I J 9,I J (t:Int),I J (b:Int)] w fun o w'=>o = rT (frV e i r d (sQ ⟨g,0,nn⟩) (m+1) k)/\aa w' B (sL (sQ ⟨g,0,nn⟩) (m+1) k) (l.set m ((2*l.getD m 0+b) % 256))/\Below B w w'/\(∀ q,q≠g->q<w.heap.size->w'.heap[q]?=w.heap[q]?):=by
 have hgl:=QC ho g rfl;have HGL:Hid (B<=g/\g<w.heap.size):=hgl;have h1:w.ownsRow B 5 1 (sL (sQ ⟨g,0,nn⟩) (m+1) k) (m+1) (bv l):=by unfold aa at ho;rw[<- hn] at ho;exact ho
 have HC:Hid (w.cell? ⟨g,m,nn⟩=sQ (I .u8 ((l.getD m 0:Nat):Int))/\w.frozen? ⟨g,m,nn⟩=false):=by
  have h2:=QZ h1 m om;have h3:m<l.length:=om;rw[nt l m h3] at h2;simp only[List.getD,qA h3,Option.getD_some];exact⟨h2,QV h1 m⟩
 have HO:Hid (w.ownsRow B 5 1 (sL (sQ ⟨g,0,nn⟩) (m+1) k) (m+1) (bv l)):=h1;have HL:Hid (m+1=l.length):=hn;have hkk:m+1<=k:=by
  rcases h1.2 with⟨e,_⟩|⟨g1,cap,cur,hv',hb,hg,hcp,hmx,hsz,htk⟩
  .cases e
  .cases hv';exact hcp
 generalize hX:l.getD m 0=x at *;have HE:=zc x b;generalize (2*x+b) % 256=y at *;have hS0:tS w B e i r d g (m+1) k ((w.alloc (.cells #[bO e,I .u32 (i:Int),bO r,I J d,sL (sQ ⟨g,0,nn⟩) (m+1) k] 47)).alloc (.cells #[bO false,I .u32 0,bO false,I J 0,sL nn 0 0] 47)):=by
  refine⟨(blk.new w _ 47).alloc _,?_,(((bW w.heap.size w).alloc (nR _) _).alloc pQ _).mono hB⟩;have:=blk.new (w.alloc (.cells #[bO e,I .u32 (i:Int),bO r,I J d,sL (sQ ⟨g,0,nn⟩) (m+1) k] 47)) [bO false,I .u32 0,bO false,I J 0,sL nn 0 0] 47;simpa using this
 have HS0:Hid (tS w B e i r d g (m+1) k ((w.alloc (.cells #[bO e,I .u32 (i:Int),bO r,I J d,sL (sQ ⟨g,0,nn⟩) (m+1) k] 47)).alloc (.cells #[bO false,I .u32 0,bO false,I J 0,sL nn 0 0] 47))/\Bl w ((w.alloc (.cells #[bO e,I .u32 (i:Int),bO r,I J d,sL (sQ ⟨g,0,nn⟩) (m+1) k] 47)).alloc (.cells #[bO false,I .u32 0,bO false,I J 0,sL nn 0 0] 47))):=⟨hS0,((bW w.heap.size w).alloc (nR _) _).alloc pQ _⟩
 have h8:((t:Int)).tmod 8≠0:=by rw[qh om];omega
 clear ho hn hgl hS0 hX h1;go_enter Tryz.func110,Tryz.ntmps110;go_wp2_with fail;refine QK (S:=tS w B e i r d g (m+1) k) kr ?_;generalize hW2:(w.alloc (.cells #[bO e,I .u32 (i:Int),bO r,I J d,sL (sQ ⟨g,0,nn⟩) (m+1) k] 47)).alloc (.cells #[bO false,I .u32 0,bO false,I J 0,sL nn 0 0] 47)=W2 at *;obtain⟨wd,hwd⟩ : ∃ wd,wd=W2.drew:=⟨_,rfl⟩
 change wpAnyH _ _ _ _ _ _ _ _ W2.drew;rw[<- hwd];have hwb:Bl W2 wd:=hwd ▸ (bW _ _).drew;have hs:tS w B e i r d g (m+1) k wd:=⟨HS0.o.1.p.below hwb,HS0.o.1.r.below hwb,HS0.o.1.b.trans (hwb.mono (nT hB HS0.o.2.size))⟩
 have HWD:Hid (Bl w wd):=HS0.o.2.trans (hwb.mono HS0.o.2.size);have hc:=(HWD.o.cell (p:=⟨g,m,nn⟩) HGL.o.2).trans HC.o.1;have hfz:=(HWD.o.frozen (p:=⟨g,m,nn⟩) HGL.o.2).trans HC.o.2;have HO2:Hid (wd.ownsRow B 5 1 (sL (sQ ⟨g,0,nn⟩) (m+1) k) (m+1) (bv l)):=dj HO.o (HWD.o.block g HGL.o.2);clear HS0 hwb hwd hW2 HO HC;refine wV 0 (pT (sQ ⟨w.heap.size,4,nn⟩)) ?_ hs ?_
 .intro W hW;clear hs;go_simp
 simp only[Act.put,aA,aB,aC,aD,aE];refine wV 1 (sL (sQ ⟨g,0,nn⟩) (m+1) k) ?_ hs ?_
 .intro W hW;clear hs;have z4:=hW.p.cell 4 _ rfl;go_simp
 simp only[aZ];refine wV 2 (I J (m:Int)) ?_ hs ?_
 .intro W hW;clear hs;go_simp
 simp only[aZ];refine wV 3 (pT (sQ ⟨w.heap.size,4,nn⟩)) ?_ hs ?_
 .intro W hW;clear hs;go_simp
 simp only[aZ];refine wV 4 (sL (sQ ⟨g,0,nn⟩) (m+1) k) ?_ hs ?_
 .intro W hW;clear hs;have z4:=hW.p.cell 4 _ rfl;go_simp
 simp only[aZ];refine wV 5 (I J (m:Int)) ?_ hs ?_
 .intro W hW;clear hs;go_simp
 simp only[aZ];refine wV 6 (pT (sQ ⟨g,m,nn⟩)) ?_ hs ?_
 .intro W hW;clear hs;go_simp;intro h;omega
 simp only[aZ];refine wV 9 (I J (b:Int)) ?_ hs ?_
 .intro W hW;clear hs;go_simp
 simp only[aZ];refine wV 10 (I .u8 (b:Int)) ?_ hs ?_
 .intro W hW;clear hs;go_simp;rw[IntKind.wrap_u8];omega
 simp only[aZ];refine QG (rs:=[7]) kr pQ ?_;refine Q9 rfl (fun K hK=>?_) za;go_simp;refine hK.out _ _ hs (fun hs2=>?_);clear hK K hs2;refine wV 8 (I .u8 (IntKind.u8.wrap (2*(x:Int)))) ?_ hs ?_
 .intro W hW;clear hs;go_simp
 simp only[aZ];refine wV 11 (I .u8 (y:Int)) ?_ hs ?_
 .intro W hW;clear hs;go_simp
 simp only[aZ];refine wV 12 (pT (sQ ⟨g,m,nn⟩)) ?_ hs ?_
 .intro W hW;clear hs;go_simp;intro h;omega
 simp only[aZ];refine QG (rs:=[13]) kr pQ ?_;refine Q9 rfl (fun K hK=>?_) za;go_simp;have hgl:=HGL.o;have hs9:tS w B e i r d g (m+1) k (wd.setCell ⟨g,m,nn⟩ (I .u8 (y:Int))):=⟨hs.p.setOther om _ _,hs.r.setOther om _ _,hs.b.setCell (by show B<=g;omega) _⟩
 refine hK.out _ _ hs9 (fun hs2=>?_);clear hK K hs2 hs;refine QI kr ?_ _;have HS9:Hid _:=hs9;have HK9:Hid (∀ q,q≠g->q<w.heap.size->(wd.setCell ⟨g,m,nn⟩ (I .u8 (y:Int))).heap[q]?=w.heap[q]?):=fun q h1 h2=>(QB _ _ _ _ (by exact h1)).trans (HWD.o.block q h2);have HO9:Hid ((wd.setCell ⟨g,m,nn⟩ (I .u8 (y:Int))).ownsRow B 5 1 (sL (sQ ⟨g,0,nn⟩) (m+1) k) (m+1) ((bv l).set m (I .u8 (y:Int)))):=(World.ownsRow.stored HO2.o m _).1
 generalize wd.setCell ⟨g,m,nn⟩ (I .u8 (y:Int))=w9 at *;clear hs9 hc hfz;go_wp2_with (first
  | (refine QA (P:=Tp) rfl 47 (.tmp 4) rfl w.heap.size 0 rfl _ _ HS9.o.p.load Tryz.underlying47 rfl gp ?_)
  | (refine QE (P:=Tp) rfl 47 (.tmp 8) (.tmp 74) rfl (w.heap.size+1) 0 #[bO e,I .u32 (i:Int),bO r,I J d,sL (sQ ⟨g,0,nn⟩) (m+1) k] rfl rfl (HS9.o.r.there 0 5 pQ) gp (pP _ _ _ _ _ _ _) ?_;generalize hW8:World.setCells w9 (w.heap.size+1) 0 _=w8;have HW8:Hid (World.setCells w9 (w.heap.size+1) 0 [bO e,I .u32 (i:Int),bO r,I J d,sL (sQ ⟨g,0,nn⟩) (m+1) k]=w8):=hW8;clear hW8))
 have e8:=HW8.o;have hF:blk w8 (w.heap.size+1) [bO e,I .u32 (i:Int),bO r,I J d,sL (sQ ⟨g,0,nn⟩) (m+1) k] 47:=e8 ▸ blk.put [] [bO false,I .u32 0,bO false,I J 0,sL nn 0 0] [] _ HS9.o.r rfl;have hL:=QJ (P:=Tp) w8 (w.heap.size+1) 0 47 _ _ hF.load Tryz.underlying47 rfl gp;refine bC Tryz.results110 hL ?_;refine⟨rfl,?_,?_,fun q h1 h2=>?_⟩
 .have h1:=dj (w':=w8) HO9.o (by rw[<- e8,sO _ _ om]);unfold aa;rw[Ah,qK,<- HL.o];exact h1
 .rw[<- e8];exact sW om _ _ HS9.o.b
 .rw[<- e8,sO _ _ om];exact HK9.o q h1 h2
def cx (l:List Nat) (lf:Int) (b:Nat):List Nat:=if lf % 8=0 then l++[b] else l.set (l.length-1) ((2*l.getD (l.length-1) 0+b) % 256)
def ax (S:Sc) (b:Nat):Sc:=
 if S.f=2\/S.f=5 then { S with i:=(2*S.i+b) % 536870912 }
 else if S.f=3\/S.f=6 then { S with r:=b == 1 }
 else if S.f=4 then { S with e:=b == 1,r:=if b=1 then false else S.r }
 else if S.f=8 then { S with d:=(2*S.d+b) % 16 }
 else if S.f=9 then { S with l:=cx S.l S.lf b }
 else S
def tt (w:World) (B:Nat) (hB:B<=w.heap.size) (S:Sc) (hS:okS S) (g n k:Nat) (ho:aa w B (sL (sQ ⟨g,0,nn⟩) n k) S.l) (hn:n=S.l.length) (t:Int) (ht:t=bh S.f S.e S.d-S.lf) (b:Nat) (hb:b<2) :
  Calls Tp 110 #[frV S.e S.i S.r S.d (sQ ⟨g,0,nn⟩) n k,I J S.f,I J t,I J (b:Int)] w fun o w'=>∃ g' n' k',o = rT (frV (ax S b).e (ax S b).i (ax S b).r (ax S b).d (sQ ⟨g',0,nn⟩) n' k')/\aa w' B (sL (sQ ⟨g',0,nn⟩) n' k') (ax S b).l/\n'=(ax S b).l.length/\Below B w w'/\(∀ q,q≠g->q<w.heap.size->w'.heap[q]?=w.heap[q]?)/\(g'=g\/w.heap.size<=g'):=by
 have key:∀ (X:Sc),X=ax S b->X.l=S.l->(∀ (o:Ending) (w':World),o = rT (frV X.e X.i X.r X.d (sQ ⟨g,0,nn⟩) n k)/\Bl w w'->∃ g' n' k',o = rT (frV (ax S b).e (ax S b).i (ax S b).r (ax S b).d (sQ ⟨g',0,nn⟩) n' k')/\aa w' B (sL (sQ ⟨g',0,nn⟩) n' k') (ax S b).l/\n'=(ax S b).l.length/\Below B w w'/\(∀ q,q≠g->q<w.heap.size->w'.heap[q]?=w.heap[q]?)/\(g'=g\/w.heap.size<=g')):=by
  rintro X rfl hl o w' ⟨rfl,hbel⟩;exact⟨g,n,k,rfl,by rw[hl];exact ho.below hbel,by rw[hl];exact hn,hbel.mono hB,fun q _ h2=>hbel.block q h2,qr rfl⟩
 obtain⟨s1,s2,s3,s4,s5,s6,s7,s8,s9,s10,s11,s12,s13,s14,s15,s16,s17,s18,s19⟩:=hS;by_cases h1:S.f=2\/S.f=5
 .exact (wC w S.f h1 S.e S.i s3 S.r S.d _ n k t b hb).mono (key { S with i:=(2*S.i+b) % 536870912 } (by unfold ax;rw[qc h1]) rfl)
 by_cases h2:S.f=3\/S.f=6
 .exact (tm w S.f h2 S.e S.i S.r S.d _ n k t b hb).mono (key { S with r:=b == 1 } (by unfold ax;rw[qa h1,qc h2]) rfl)
 by_cases h3:S.f=4
 .have:=tq w S.e S.i S.r S.d (sQ ⟨g,0,nn⟩) n k t b hb;rw[<- h3] at this;exact this.mono (key { S with e:=b == 1,r:=if b=1 then false else S.r } (by unfold ax;rw[qa h1,qa h2,qc h3]) rfl)
 by_cases h4:S.f=8
 .have:=tr w S.e S.i S.r S.d s4 s5 (sQ ⟨g,0,nn⟩) n k t b hb;rw[<- h4] at this;exact this.mono (key { S with d:=(2*S.d+b) % 16 } (by unfold ax;rw[qa h1,qa h2,qa h3,qc h4]) rfl)
 by_cases h5:S.f=9
 .have e:ax S b = { S with l:=cx S.l S.lf b }:=by unfold ax;rw[qa h1,qa h2,qa h3,qa h4,qc h5]
  rw[e];obtain⟨r1,r2,r3⟩:=s19 h5;have hz:bh S.f S.e S.d=if S.d > 8 then 64 else 8*S.d:=by unfold bh;rw[h5];rfl
  have hz8:bh S.f S.e S.d % 8=0:=by rw[hz];split <;> omega
  have hzl:=fX S.f S.e S.d s4 s5;obtain⟨T,rfl⟩ : ∃ T:Nat,t=(T:Int):=⟨t.toNat,om⟩
  by_cases h8:S.lf % 8=0
  .have:=ts w B hB S.e S.i S.r S.d g n k S.l ho hn om T om om b hb;rw[<- h5] at this;refine this.mono ?_;rintro o w' ⟨g',k',rfl,q1,q2,q3,q4⟩;exact⟨g',n+1,k',rfl,by show aa w' B _ (cx S.l S.lf b);unfold cx;rw[qc h8];exact q1,by show n+1=(cx S.l S.lf b).length;unfold cx;rw[qc h8,qe,hn];rfl,q2,q3,q4⟩
  .obtain⟨m,rfl⟩ : ∃ m,n=m+1:=⟨n-1,om⟩
   have:=rd w B hB S.e S.i S.r S.d g m k S.l ho hn om T om om b hb;rw[<- h5] at this;refine this.mono ?_;rintro o w' ⟨rfl,q1,q2,q3⟩;have em:S.l.length-1=m:=om;exact⟨g,m+1,k,rfl,by show aa w' B _ (cx S.l S.lf b);unfold cx;rw[qa h8,em];exact q1,by show m+1=(cx S.l S.lf b).length;unfold cx;rw[qa h8,qK];exact hn,q2,q3,qr rfl⟩
 .exact (tp w S.f om om h3 om om h4 h5 S.e S.i S.r S.d _ n k t b).mono (key S (by unfold ax;rw[qa h1,qa h2,qa h3,qa h4,qa h5]) rfl)
end Go.Proofs.YtnfmjckkibdcaaaGreatDoor
