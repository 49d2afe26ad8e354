import Derived.Test.YtnfmjckkibdcaaaGreatDoorK26
import Derived.Test.YtnfmjckkibdcaaaGreatDoorK39
namespace Go.Proofs.YtnfmjckkibdcaaaGreatDoor
open Go.RowKit
set_option linter.all false
open Go.Value renaming int->I,slice->sL,bool->bO,pointer->pT,agg->aG
open Go.IntKind renaming i64->J
open Go.Ending renaming returned->rT
open Go.Proofs.Tryz renaming prog->Tp
def Aw (s:ByteArray) (q:Nat):∀ m r,r<m->PV s q m / 2 ^ (m-1-r) % 2=fb s (64*q+r)
 | 0,r,h=>Qz h (nN _)
 | m+1,r,h=>by
  show (2*PV s q m+fb s (64*q+m)) / 2 ^ (m+1-1-r) % 2=_;have hf:=CJ s (64*q+m);by_cases e:r=m
  .subst e;rw[show r+1-1-r=0 by omega,Nat.pow_zero,Nat.div_one];omega
  .have ih:=Aw s q m r om;have e2:(2:Nat) ^ (m+1-1-r)=2*2 ^ (m-1-r):=by rw[show m+1-1-r=(m-1-r)+1 by omega,qI,Qt]
   rw[e2,<- qY,show (2*PV s q m+fb s (64*q+m)) / 2=PV s q m by omega];exact ih
def yZ (o:List Nat) (ho:∀ x ∈ o,M.isL x) (i:Nat) (h:i<64*(wl o).length):lev (wl o) i=if h:i<o.length then o[i]-48 else 0:=by
 have hq:i / 64<(wl o).length:=om;have hl:=dT o;unfold lev;rw[eB _ _ hq,um];unfold wq;have hm:min 64 (o.length-64*(i / 64))<=64:=Nat.min_le_left _ _;have hm2:=Nat.min_le_right 64 (o.length-64*(i / 64));by_cases hi:i<o.length
 .rw[dif_pos hi];have hr:i % 64<min 64 (o.length-64*(i / 64)):=om;have hb:=Aw (ae o) (i / 64) (min 64 (o.length-64*(i / 64))) (i % 64) hr;rw[show 64*(i / 64)+i % 64=i by omega,jL o i hi ho] at hb;generalize min 64 (o.length-64*(i / 64))=m at *;have e:(2:Nat) ^ (63-i % 64)=2 ^ (64-m)*2 ^ (m-1-i % 64):=by rw[<- Nat.pow_add];congr 1;omega
  rw[e,<- qY,Nat.mul_div_cancel _ (qX pQ)];exact hb
 .rw[dif_neg hi];have hr:min 64 (o.length-64*(i / 64))<=i % 64:=om;generalize min 64 (o.length-64*(i / 64))=m at *;have e:(2:Nat) ^ (64-m)=2 ^ (i % 64-m)*2*2 ^ (63-i % 64):=by rw[<- qI,<- Nat.pow_add];congr 1;omega
  rw[e,<- Nat.mul_assoc,Nat.mul_div_cancel _ (qX pQ),<- Nat.mul_assoc];omega
def DB (o:List Nat) (ho:∀ x ∈ o,M.isL x) (hn:o.length<=4000):okP (o.length:Int) (wl o)=true:=by
 unfold okP;simp only[qx,qQ,Int.toNat_natCast];refine⟨⟨⟨om,om⟩,dT o⟩,kQ.2 fun i h1 h2=>?_⟩;rw[yZ o ho i h2,dif_neg om]
def FA (o:List Nat) (ho:∀ x ∈ o,M.isL x):LB (wl o) o.length=o.map (fun x=>x-48):=by
 apply List.ext_getElem
 .simp[LB]
 .intro i h1 h2;have hi:i<o.length:=by simpa[LB] using h1
  simp only[LB,Qi,List.getElem_range];rw[yZ o ho i (by have:=dT o;omega),dif_pos hi]
def zZ:M.i8=M.i8:=rfl
def D4 (o:List Nat) (ho:∀ x ∈ o,M.isL x) (hn:o.length<=2000):cpZ (o.length:Int) (wl o)=((M.i8 (o.map (fun x=>x-48)):Nat):Int):=by
 unfold cpZ;rw[zc ⟨DB o ho om,om⟩,Int.toNat_natCast,FA o ho,zZ]
def BM (w:World) (b:Nat) (n:Nat) (ao:Option Addr) (m cp:Nat) (x2 x3 x4:Value) (hh:w.heap[b]?=some (.cells #[I J (n:Int),sL ao m cp,x2,x3,x4] 268)) :
  Calls Tp 215 #[pT (some ⟨b,0,none⟩)] w fun o w'=>o = rT (pkV (n:Int) ao m cp)/\Bl w w':=by
 obtain⟨⟨c0,c1,-,-,-⟩,-,hbz⟩:=bw5 hh;clear hh;go_enter Tryz.func215,Tryz.ntmps215;go_wp2;go_region;go_wp2;refine QF (v:=pkV (n:Int) ao m cp) (by simp[results,Tryz.results215,go_sem]) rfl ?_;exact⟨rfl,qw.drew⟩
def bwS.finish {w0 w:World} {b:Nat} {o:List Nat} {st:Bool} {r:Nat × Nat} (h:bwS w0 b o st r w) :
  ∃ ao cp,(Calls Tp 215 #[pT (some ⟨b,0,none⟩)] w fun y w'=>y = rT (pkV (o.length:Int) ao (wl o).length cp)/\Bl w w')/\an w (b+1) (sL ao (wl o).length cp) (wl o):=by
 obtain⟨⟨v,hh,own⟩,hbel⟩:=h;obtain⟨ao,cp,rfl,hcp⟩:=own.slice;exact⟨ao,cp,BM w b o.length ao _ cp _ _ _ hh,own⟩
def kE (o:List Nat):∀ x ∈ wl o,x<18446744073709551616:=by
 intro x hx;obtain⟨q,hq,rfl⟩:=List.getElem_of_mem hx;rw[um];exact Ct _ _ _
open Option renaming none->nn,some->sQ
set_option maxRecDepth 20000
set_option maxHeartbeats 16000000
open Go.IntKind renaming i64->J,u32->zn
variable {w W:World} {B b:Nat} {v:Value} {S:List (Nat × Nat × Nat)}
def uw (T:List (Nat × Nat × Nat)):(spV T).length=T.length*3:=by
 induction T with
 | nil=>rfl
 | cons a T ih=>show (spV (a :: T)).length=_;simp only[spV,qJ,qe,Qb,List.length_nil] at ih ⊢;omega
def AQ (T:List (Nat × Nat × Nat)):∀ u ∈ spV T,u.oneCell'=true:=by
 intro u hu;simp only[spV,List.mem_flatMap] at hu;obtain⟨x,_,hu⟩:=hu;simp at hu;rcases hu with rfl | rfl | rfl <;> rfl
def xx {ops:Array Oper} {rest:List Oper} {o:Oper} {a:Act} {Q:Exit->Act->World->Prop} (wr:World) (hgd:o.guard=nn) (s x:Operand)
  (ho:o.op = .call { callee:=.builtin .append,args:=#[s,x],argTypes:=#[204,204] })
  (B:Nat) (v:Value) (S T:List (Nat × Nat × Nat)) (ad:Addr) (k:Nat) (hs:a.eval s=v) (hown:bB wr B v S)
  (hx:a.eval x = sL (sQ ad) T.length k) (hc:∀ j u,(spV T)[j]?=sQ u->wr.cell? (ad.add j)=sQ u) (hlen:S.length+T.length<=1000000) (hB:B<=wr.heap.size)
  (h:∀ v' w',bB w' B v' (S++T)->Below B wr w'->Lib.OthersKept 308 nn wr w'->wpList Tp ops Q rest (a.put o.dst v') w') :
  wpList Tp ops Q (o :: rest) a wr:=by
 obtain⟨i0,hi,hz0,hz1,hz2⟩:=QX Tryz.info308;refine Q2 _ hgd s x 204 ho B 308 i0 (aG #[I J 0,I J 0,I J 0]) 3 24 Tryz.underlying204 hi hz0 hz1 hz2 rfl (by decide) v S.length (spV S) hs hown ad T.length k (spV T) hx (uw T) hc (AQ T) ?_ ?_ hB ?_
 .unfold maxLen;omega
 .omega
 .intro v' w' ho' hg _;have hr:∀ k,v.ownBlock=sQ k->B<=k:=fun k hk=>(QC hown k hk).1;refine h v' w' ?_ ((bW _ _).grown hg hB hr) ((QW 308 nn wr).grown hg fun g hg'=>hown.kind g hg');unfold bB;rw[sH,qe];exact ho'
def bB.open (h:bB w B v S) (hS:S≠[]):∃ g k,v = sL (sQ ⟨g,0,nn⟩) S.length k/\∀ j u,(spV S)[j]?=sQ u->w.cell? ((⟨g,0,nn⟩ : Addr).add j)=sQ u:=by
 have h':=h;obtain⟨h1,⟨h2,h3⟩|⟨g,cap,cur,h2,h3,hh,h4⟩⟩:=h'
 .exact Qz (List.length_eq_zero_iff.mp h3) hS
 .refine⟨g,cap,h2,fun j u hj=>?_⟩;subst h2;have hjl:j<(spV S).length:=by rw[qM] at hj;exact hj.1
  have:=QZ h j (by rw[uw] at hjl;exact hjl);have ea:((⟨g,0,nn⟩ : Addr).add j)=⟨g,j,nn⟩:=by
   by_cases e0:j=0
   .subst e0;simp[Addr.add]
   .simp[Addr.add,e0]
  rw[<- hj,ea];exact this
def bB.room (h:bB w B v S) (hS:S≠[]):B<=w.heap.size:=by
 obtain⟨g,k,e,_⟩:=h.open hS;have:=QC h g (by rw[e];rfl);omega
def bB.setCellO (h:bB w B v S) (b j:Nat) (x:Value) (hb:b<B):bB (w.setCell ⟨b,j,nn⟩ x) B v S:=
 h.otherBlock fun g hg=>QB w ⟨b,j,nn⟩ g x (by have:=(QC h g hg).1;show g≠b;omega)
def bB.setCellsO (h:bB w B v S) (b j:Nat) (x:List Value) (hb:b<B):bB (w.setCells b j x) B v S:=
 h.otherBlock fun g hg=>sO b g (by have:=(QC h g hg).1;omega) x w j
def an.setCellsO {l:List Nat} (h:an w B v l) (b j:Nat) (x:List Value) (hb:b<B):an (w.setCells b j x) B v l:=
 h.otherBlock fun g hg=>sO b g (by have:=(QC h g hg).1;omega) x w j
def bB.lower {B':Nat} (h:bB w B v S) (hB:B'<=B):bB w B' v S:=by
 obtain⟨h1,⟨h2,h3⟩|⟨g,cap,cur,h2,h3,hh,h4⟩⟩:=h
 .exact⟨h1,.inl ⟨h2,h3⟩⟩
 .exact⟨h1,.inr ⟨g,cap,cur,h2,nT hB h3,hh,h4⟩⟩
def bwS.new {st:Bool} (h:blk W b [I J 0,sL nn 0 0,bO st,I .i32 0,I J 0] 268):bwS W b [] st (fY st [] (0,0)) W:=by
 refine⟨⟨sL nn 0 0,?_,?_⟩,bW _ _⟩
 .have e:fY st [] (0,0)=(0,0):=by cases st <;> rfl
  rw[e];exact h
 .have e:wl []=[]:=by simp[wl,wn]
  rw[e];exact gh _ _
def bwS.off {w0:World} {o:List Nat} {r:Nat × Nat} (h:bwS w0 b o true r W):bwS w0 b o false r (W.setCell ⟨b,2,nn⟩ (bO false)):=by
 obtain⟨⟨v,hh,own⟩,hbel⟩:=h;refine⟨⟨v,?_,own.setCellO b 2 _ om⟩,hbel.setCell (p:=⟨b,2,nn⟩) pQ _⟩;rw[QQ W b 2 _ _ (bO false) hh];simp
def xV:(Tp.info? 52).map (·.size)=sQ 2:=kr
def Dz {x:Int} {a:Option Addr} {n c:Nat}:(#[I J x,sL a n c]:Array Value).all (·.oneCell')=true:=by simp[Value.oneCell']
def Al (e:Bool) (i:Nat) (r:Bool) (d:Nat) (l:List Nat) (hl:l.length<=8):(ag e i r d l).length<=103:=by
 rw[du];split <;> omega
def ie (e:Bool) (i:Nat) (r:Bool) (d:Nat) (l:List Nat):List Nat:=M.fP (ab e i r d l)++List.replicate 10 49
def By (e:Bool) (i:Nat) (r:Bool) (d:Nat) (l:List Nat):List (Nat × Nat × Nat):=
 bp true [] (lay e i r d l (M.i8 ((ag e i r d l).map (fun x=>x-48))) 1 11)++bp false (M.fP (ab e i r d l)) (lay e i r d l (M.i8 ((ag e i r d l).map (fun x=>x-48))) 11 15)
def tg (w:World) (e:Bool) (i:Nat) (r:Bool) (d:Nat) (a:Option Addr) (n cap:Nat) (l:List Nat) (h:iB w a n cap l) (tab:w.rangeAt 0 0 bV) (hz0:0<w.heap.size) (hi:i<4294967296) (hd:d<=15) (hl:l.length=dlN r d) :
  Calls Tp 134 #[frV e i r (d:Int) a n cap] w fun y w'=>∃ ao cp sv,y = rT (.tuple #[pkV ((ie e i r d l).length:Int) ao (wl (ie e i r d l)).length cp,sv])/\an w' w.heap.size (sL ao (wl (ie e i r d l)).length cp) (wl (ie e i r d l))/\bB w' w.heap.size sv (By e i r d l)/\Bl w w':=by
 have hlen:=h.len;have hl8:l.length<=8:=by rw[hl];unfold dlN;split <;> omega
 have hn8:n<=8:=om;have hsm:=h.small;have HB:Hid (∀ W,Bl w W->iB W a n cap l/\W.rangeAt 0 0 bV/\0<W.heap.size):=by
  intro W hW;refine⟨h.below hW,fun j u hj=>?_,nL hz0 hW.size⟩;exact (hW.cell (p:=⟨0,0+j,nn⟩) hz0).trans (tab j u hj)
 have hbl:=Al e i r d l hl8;have hcrc:M.i8 ((ag e i r d l).map (fun x=>x-48))<32768:=M.BV _;have HP:Hid (ag e i r d l++M.num (M.i8 ((ag e i r d l).map (fun x=>x-48))) 15=ab e i r d l):=rfl;have HLB:=ah (fun sum=>pX e i r d l sum hl hsm);have HLP:=ah (fun sum=>wB e i r d l sum hl hsm);have HLT:=ah (fun sum=>Jj e i r d l sum);have HCP:Hid (cpZ ((ag e i r d l).length:Int) (wl (ag e i r d l))=((M.i8 ((ag e i r d l).map (fun x=>x-48)):Nat):Int)):=D4 _ (dI e i r d l) om;have HIL:Hid (ie e i r d l=M.fP (ab e i r d l)++List.replicate 10 49):=rfl;have HIS:Hid (By e i r d l=bp true [] (lay e i r d l (M.i8 ((ag e i r d l).map (fun x=>x-48))) 1 11)++bp false (M.fP (ab e i r d l)) (lay e i r d l (M.i8 ((ag e i r d l).map (fun x=>x-48))) 11 15)):=rfl;have HBI:=ah (dI e i r d l);have HPI:=ah (cQ e i r d l);have HPL:Hid ((ab e i r d l).length<=118):=by
  show _<=_;rw[ew];split <;> omega
 have HSR:=ah (M.Ek (ab e i r d l) (cQ e i r d l));have HSA:=ah (M.Em (ab e i r d l) (cQ e i r d l));have HSL:=ah (M.El (ab e i r d l))
 obtain⟨w3,hw3⟩ : ∃ w3,w3=((w.alloc (.cells [bO e,I zn (i:Int),bO r,I J (d:Int),sL a n cap].toArray 47)).alloc (.cells [I J 0,sL nn 0 0].toArray 52)).alloc (.cells [I J 0,sL nn 0 0,bO false,I .i32 0,I J 0].toArray 268):=⟨_,rfl⟩
 have H3:Hid (blk w3 w.heap.size [bO e,I zn (i:Int),bO r,I J (d:Int),sL a n cap] 47/\blk w3 (w.heap.size+1) [I J 0,sL nn 0 0] 52/\blk w3 (w.heap.size+2) [I J 0,sL nn 0 0,bO false,I .i32 0,I J 0] 268/\Bl w w3/\w3.heap.size=w.heap.size+3):=by
  subst hw3;refine⟨((blk.new w _ 47).alloc _).alloc _,?_,?_,(qw.alloc pQ _).alloc (by simp;omega) _,pQ⟩
  .have:=(blk.new (w.alloc (.cells [bO e,I zn (i:Int),bO r,I J (d:Int),sL a n cap].toArray 47)) [I J 0,sL nn 0 0] 52).alloc (.cells [I J 0,sL nn 0 0,bO false,I .i32 0,I J 0].toArray 268);simpa using this
  .have:=blk.new ((w.alloc (.cells [bO e,I zn (i:Int),bO r,I J (d:Int),sL a n cap].toArray 47)).alloc (.cells [I J 0,sL nn 0 0].toArray 52)) [I J 0,sL nn 0 0,bO false,I .i32 0,I J 0] 268;simpa using this
 clear h tab hz0 hlen;generalize hcq:M.i8 ((ag e i r d l).map (fun x=>x-48))=sum at *;clear hcq;go_enter Tryz.func134,Tryz.ntmps134;go_upto_region 2 with fail
 change Code.wp _ _ _ _ (((w.alloc (.cells [bO e,I zn (i:Int),bO r,I J (d:Int),sL a n cap].toArray 47)).alloc (.cells [I J 0,sL nn 0 0].toArray 52)).alloc (.cells [I J 0,sL nn 0 0,bO false,I .i32 0,I J 0].toArray 268));rw[<- hw3];clear hw3;have HF1:Hid (Calls Tp 213 #[pT (sQ ⟨w.heap.size+2,0,nn⟩),.agg [bO e,I zn (i:Int),bO r,I J (d:Int),sL a n cap].toArray,I J 0,I J 1,I J 10] w3 fun y w'=>∃ v,y = rT v/\bwS w3 (w.heap.size+2) (ag e i r d l) false (0,0) w'/\Below (w.heap.size+2) w3 w'):=by
  have:=i1 w3 w3 (w.heap.size+2) [] false (0,0) (bwS.new H3.o.2.2.1) (good.nil _) e i r d a n cap l 0 1 10 (fun W hW=>HB.o W (H3.o.2.2.2.1.trans (hW.mono om))) hi hd hn8 om om om (.inl rfl) (by rw[HLB.o];simp;omega) (by rw[HLB.o];exact HBI.o);refine this.mono ?_;rintro y w' ⟨v,rfl,q1,q2,q3,q4⟩;rw[HLB.o,j9] at q1;exact⟨v,rfl,q1,q4⟩
 go_wp2_with (first
  | (refine zi 47 [bO e,I zn (i:Int),bO r,I J (d:Int),sL a n cap] H3.o.1.load Tryz.underlying47 jU ?_)
  | (go_at_call 213;refine HF1.o.mono ?_;rintro y w4 ⟨v4,rfl,q4,b4⟩))
 have H4:Hid (blk w4 w.heap.size [bO e,I zn (i:Int),bO r,I J (d:Int),sL a n cap] 47/\blk w4 (w.heap.size+1) [I J 0,sL nn 0 0] 52/\Bl w w4):=⟨H3.o.1.kept (b4.block _ om),H3.o.2.1.kept (b4.block _ om),H3.o.2.2.2.1.trans (b4.mono om)⟩
 obtain⟨ao1,cp1,hfin,hown1⟩:=q4.finish;have HFI:=ah hfin;have hz4:w.heap.size+2<w4.heap.size:=by obtain⟨⟨v,hh,_⟩,_⟩:=q4;exact (bw5 hh).2.2
 have HCR:Hid (∀ X,Bl w4 X->Calls Tp 214 #[pkV ((ag e i r d l).length:Int) ao1 (wl (ag e i r d l)).length cp1] X fun y w'=>y = rT (I J (sum:Int))/\Bl X w'):=by
  intro X hX;have hw:bP X ao1 (wl (ag e i r d l)).length cp1 (wl (ag e i r d l)):=(hown1.words rfl (kE _) (hown1.cap rfl)).below hX;have:=mE X ((ag e i r d l).length:Int) ao1 _ cp1 _ hw (by rw[dT];omega);rw[HCP.o] at this;exact this
 clear q4 b4 hfin hown1 H3 HF1;go_upto_region 5 with (first
  | (go_at_call 215;refine HFI.o.mono ?_;rintro y w5 ⟨rfl,b5⟩)
  | (go_at_call 214;refine (HCR.o _ b5).mono ?_;rintro y w6 ⟨rfl,b6⟩))
 have H7:Hid (blk (w6.alloc (.cells [I J 0,sL nn 0 0,bO true,I .i32 0,I J 0].toArray 268)) w.heap.size [bO e,I zn (i:Int),bO r,I J (d:Int),sL a n cap] 47/\blk (w6.alloc (.cells [I J 0,sL nn 0 0,bO true,I .i32 0,I J 0].toArray 268)) (w.heap.size+1) [I J 0,sL nn 0 0] 52/\blk (w6.alloc (.cells [I J 0,sL nn 0 0,bO true,I .i32 0,I J 0].toArray 268)) w6.heap.size [I J 0,sL nn 0 0,bO true,I .i32 0,I J 0] 268/\Bl w (w6.alloc (.cells [I J 0,sL nn 0 0,bO true,I .i32 0,I J 0].toArray 268))/\w.heap.size+2<w6.heap.size/\(w6.alloc (.cells [I J 0,sL nn 0 0,bO true,I .i32 0,I J 0].toArray 268)).heap.size=w6.heap.size+1):=by
  have h45:=H4.o.1.below b5;have h45':=H4.o.2.1.below b5;refine⟨(h45.below b6).alloc _,(h45'.below b6).alloc _,blk.new w6 _ 268,?_,?_,pQ⟩
  .have q5:=H4.o.2.2.trans (b5.mono H4.o.2.2.size);have q6:=q5.trans (b6.mono q5.size);exact q6.alloc q6.size _
  .have:=b5.size;have:=b6.size;omega
 change Code.wp _ _ _ _ (w6.alloc (.cells [I J 0,sL nn 0 0,bO true,I .i32 0,I J 0].toArray 268));generalize w6.alloc (.cells [I J 0,sL nn 0 0,bO true,I .i32 0,I J 0].toArray 268)=w7 at *;generalize w6.heap.size=s2 at *;clear b5 b6 H4 HFI HCR hz4;have HF2:Hid (Calls Tp 213 #[pT (sQ ⟨s2,0,nn⟩),.agg [bO e,I zn (i:Int),bO r,I J (d:Int),sL a n cap].toArray,I J (sum:Int),I J 1,I J 11] w7 fun y w'=>∃ v,y = rT v/\bwS w7 s2 (M.fP (ab e i r d l)) true (M.eP (M.fP (ab e i r d l))) w'/\bB w' (w7.heap.size+1) v (bp true [] (lay e i r d l sum 1 11))/\Below s2 w7 w'):=by
  have:=i1 w7 w7 s2 [] true (0,0) (bwS.new H7.o.2.2.1) (good.nil _) e i r d a n cap l sum 1 11 (fun W hW=>HB.o W (H7.o.2.2.2.1.trans (hW.mono (by have:=H7.o.2.2.2.2.1;omega)))) hi hd hn8 hcrc om om (.inr (.inl rfl)) (by rw[HLP.o,HP.o];have:=HPL.o;simp;omega) (by rw[HLP.o,HP.o];exact HPI.o);refine this.mono ?_;rintro y w' ⟨v,rfl,q1,q2,q3,q4⟩;rw[HLP.o,HP.o,tL] at q1;exact⟨v,rfl,q1,q2,q4⟩
 go_upto_region 6 with (first
  | (refine zi 47 [bO e,I zn (i:Int),bO r,I J (d:Int),sL a n cap] H7.o.1.load Tryz.underlying47 jU ?_)
  | (go_at_call 213;refine HF2.o.mono ?_;rintro y w8 ⟨v8,rfl,q8,o8,b8⟩))
 have H8:Hid (blk w8 w.heap.size [bO e,I zn (i:Int),bO r,I J (d:Int),sL a n cap] 47/\blk w8 (w.heap.size+1) [I J 0,sL nn 0 0] 52/\Bl w w8/\bwS w7 s2 (M.fP (ab e i r d l)) true (M.eP (M.fP (ab e i r d l))) w8/\bB w8 (w7.heap.size+1) v8 (bp true [] (lay e i r d l sum 1 11))):=⟨H7.o.1.kept (b8.block _ (by have:=H7.o.2.2.2.2.1;omega)),H7.o.2.1.kept (b8.block _ (by have:=H7.o.2.2.2.2.1;omega)),H7.o.2.2.2.1.trans (b8.mono (by have:=H7.o.2.2.2.2.1;omega)),q8,o8⟩
 obtain⟨⟨⟨vv,hvv,_⟩,_⟩⟩ : Nonempty ((∃ v,w8.heap[s2]?=sQ (.cells #[I J ((M.fP (ab e i r d l)).length:Int),v,bO true,I .i32 ((M.eP (M.fP (ab e i r d l))).1:Int),I J ((M.eP (M.fP (ab e i r d l))).2:Int)] 268)/\True)/\True):=by
  obtain⟨⟨v,hh,_⟩,_⟩:=q8;exact⟨⟨⟨v,hh,trivial⟩,trivial⟩⟩
 have f2:=(bw5 hvv).2.1 2;have c2:=(bw5 hvv).1.2.2.1;clear q8 o8 b8 HF2 hvv;go_upto_region 7 with fail
 have hs2:=H7.o.2.2.2.2;have H9:Hid (blk (w8.setCell ⟨s2,2,nn⟩ (bO false)) w.heap.size [bO e,I zn (i:Int),bO r,I J (d:Int),sL a n cap] 47/\blk (w8.setCell ⟨s2,2,nn⟩ (bO false)) (w.heap.size+1) [I J 0,sL nn 0 0] 52/\Bl w (w8.setCell ⟨s2,2,nn⟩ (bO false))/\bwS w7 s2 (M.fP (ab e i r d l)) false (M.eP (M.fP (ab e i r d l))) (w8.setCell ⟨s2,2,nn⟩ (bO false))/\bB (w8.setCell ⟨s2,2,nn⟩ (bO false)) (w7.heap.size+1) v8 (bp true [] (lay e i r d l sum 1 11))):=by
  refine⟨H8.o.1.setOther om 2 _,H8.o.2.1.setOther om 2 _,H8.o.2.2.1.setCell (by show w.heap.size<=s2;omega) _,H8.o.2.2.2.1.off,H8.o.2.2.2.2.setCellO s2 2 _ om⟩
 clear H8 H7 f2 c2;generalize w8.setCell ⟨s2,2,nn⟩ (bO false)=w9 at *;have hS2:(bp false (M.fP (ab e i r d l)) (lay e i r d l sum 11 15)).length=4:=by rw[fA];simp[lay,iG,bF]
 have hS1:(bp true [] (lay e i r d l sum 1 11)).length<=16:=by rw[fA];exact lj _ _ _ _ _
 have HF3:Hid (Calls Tp 213 #[pT (sQ ⟨s2,0,nn⟩),.agg [bO e,I zn (i:Int),bO r,I J (d:Int),sL a n cap].toArray,I J (sum:Int),I J 11,I J 15] w9 fun y w'=>∃ g k,y = rT (sL (sQ ⟨g,0,nn⟩) (bp false (M.fP (ab e i r d l)) (lay e i r d l sum 11 15)).length k)/\(∀ j u,(spV (bp false (M.fP (ab e i r d l)) (lay e i r d l sum 11 15)))[j]?=sQ u->w'.cell? ((⟨g,0,nn⟩ : Addr).add j)=sQ u)/\bwS w7 s2 (ie e i r d l) false (M.eP (M.fP (ab e i r d l))) w'/\bB w' (w7.heap.size+1) v8 (bp true [] (lay e i r d l sum 1 11))/\Below s2 w9 w'):=by
  have:=i1 w7 w9 s2 (M.fP (ab e i r d l)) false (M.eP (M.fP (ab e i r d l))) H9.o.2.2.2.1 ⟨HSA.o,fun e=>by cases e⟩ e i r d a n cap l sum 11 15 (fun W hW=>HB.o W (H9.o.2.2.1.trans (hW.mono om))) hi hd hn8 hcrc om om (.inr (.inr rfl)) (by rw[HLT.o];have:=HPL.o;have:=HSL.o;simp;omega) (by rw[HLT.o];intro x hx;rw[List.mem_replicate] at hx;exact .inr hx.2);refine this.mono ?_;rintro y w' ⟨v,rfl,q1,q2,q3,q4⟩;rw[HLT.o,j9,<- HIL.o] at q1;obtain⟨g,k,rfl,hc⟩:=q2.open (by intro e;rw[e] at hS2;simp at hS2);exact⟨g,k,rfl,hc,q1,H9.o.2.2.2.2.writer om q3,q4⟩
 have HNE:Hid (bp true [] (lay e i r d l sum 1 11)≠[]):=by
  intro e0;have:=congrArg List.length e0;rw[fA] at this;simp[lay,iG] at this
 have HLN:Hid ((bp true [] (lay e i r d l sum 1 11)).length+(bp false (M.fP (ab e i r d l)) (lay e i r d l sum 11 15)).length<=1000000):=by show _<=_;omega
 clear hS1 hS2 HSR HSA HSL HPL HPI HBI HLB HLP HLT HP HCP HIL;generalize bp false (M.fP (ab e i r d l)) (lay e i r d l sum 11 15)=SB at *;generalize bp true [] (lay e i r d l sum 1 11)=SA at *;generalize M.eP (M.fP (ab e i r d l))=rr at *;go_upto_region 8 with (first
  | (refine zi 47 [bO e,I zn (i:Int),bO r,I J (d:Int),sL a n cap] H9.o.1.load Tryz.underlying47 jU ?_)
  | (go_at_call 213;refine HF3.o.mono ?_;rintro y w10 ⟨g10,k10,rfl,hc10,q10,o10,b10⟩)
  | (at_builtin;refine xx w10 rfl (.tmp 17) (.tmp 20) rfl (w7.heap.size+1) v8 SA SB ⟨g10,0,nn⟩ k10 rfl o10 rfl hc10 HLN.o (o10.room HNE.o) ?_;intro v11 w11 o11 b11 k11))
 have hw7:s2<w7.heap.size+1:=om;have q11:=q10.spans b11 hw7 k11;have H11:Hid (blk w11 (w.heap.size+1) [I J 0,sL nn 0 0] 52/\Bl w w11):=by
  have q1:=H9.o.2.1.kept (b10.block _ om);have q2:=H9.o.2.2.1.trans (b10.mono om);exact⟨q1.kept (b11.block _ om),q2.trans (b11.mono om)⟩
 obtain⟨ao,cp,hfin,hown⟩:=q11.finish;have HFI:=ah hfin;have HO:Hid (an w11 (s2+1) (sL ao (wl (ie e i r d l)).length cp) (wl (ie e i r d l))/\bB w11 (w7.heap.size+1) v11 (SA++SB)):=⟨hown,o11⟩
 clear hfin hown q11 q10 o10 o11 b10 b11 k11 hc10 H9 HF3 HB;rw[<- HIS.o] at HO;clear HIS;generalize hIL:ie e i r d l=IL at *;generalize hIS:By e i r d l=IS at *;have HIL2:=ah hIL;have HIS2:=ah hIS
 clear hIL hIS;go_wp2_with (first
  | (go_at_call 215;refine HFI.o.mono ?_;rintro y w12 ⟨rfl,b12⟩;have H12:Hid (blk w12 (w.heap.size+1) [I J 0,sL nn 0 0] 52/\Bl w w12/\an w12 (s2+1) (sL ao (wl IL).length cp) (wl IL)/\bB w12 (w7.heap.size+1) v11 IS):=⟨H11.o.1.below b12,H11.o.2.trans (b12.mono H11.o.2.size),HO.o.1.below b12,HO.o.2.below b12⟩;clear b12)
  | (refine QE (P:=Tp) rfl 52 _ _ rfl (w.heap.size+1) 0 #[I J (IL.length:Int),sL ao (wl IL).length cp] rfl rfl (H12.o.1.there 0 2 pQ) xV Dz ?_;generalize hW13:World.setCells w12 (w.heap.size+1) 0 _=w13;have HW13:Hid (_=w13):=hW13;clear hW13))
 have e13:=HW13.o;have hF:blk w13 (w.heap.size+1) [I J (IL.length:Int),sL ao (wl IL).length cp] 52:=by
  rw[<- e13];exact blk.put [] [I J 0,sL nn 0 0] [] _ H12.o.1 rfl
 have p0:=hF.cell 0 _ rfl;have p1:=hF.cell 1 _ rfl;refine QF (v:=.tuple #[pkV (IL.length:Int) ao (wl IL).length cp,v11]) (by simp[results,Tryz.results134,go_sem,p0,p1]) rfl ?_;rw[HIL2.o,HIS2.o];refine⟨ao,cp,v11,rfl,?_,?_,?_⟩
 .rw[<- e13];exact (H12.o.2.2.1.setCellsO (w.heap.size+1) 0 _ om).lower om
 .rw[<- e13];exact (H12.o.2.2.2.setCellsO (w.heap.size+1) 0 _ om).lower om
 .rw[<- e13];exact sW om 0 _ H12.o.2.1
def imZ (e:Bool) (i:Nat) (r:Bool) (d:Int) (n:Nat) (l:List Nat):List Nat:=if vB e i r d n=true then ie e i r d.toNat l else []
def pb {e:Bool} {i:Nat} {r:Bool} {d:Int} {n:Nat} {l:List Nat} (h:vB e i r d n=true) (hn:n=l.length):i<4294967296/\d.toNat<=15/\l.length=dlN r d.toNat/\d=(d.toNat:Int)/\l.length<=8:=by
 have h1:=cN h;have h2:(n:Int)=dl r d:=by
  unfold vB at h;simp only[qx,beq_iff_eq] at h;exact h.2
 refine⟨om,om,?_,om,om⟩;unfold dlN;unfold dl at h2;cases r
 .simp only[qN,if_false] at h2 ⊢;split at h2 <;> omega
 .simp only[if_true] at h2 ⊢;omega
def mn (w:World) (tab:w.rangeAt 0 0 bV) (hz0:0<w.heap.size) (e:Bool) (i:Nat) (r:Bool) (d:Int) (a:Option Addr) (n cap:Nat) (l:List Nat) (h:iB w a n cap l) :
  Calls Tp 66 #[frV e i r d a n cap] w fun y w'=>∃ ao cp,y = rT (pkV ((imZ e i r d n l).length:Int) ao (wl (imZ e i r d n l)).length cp)/\an w' w.heap.size (sL ao (wl (imZ e i r d n l)).length cp) (wl (imZ e i r d n l))/\Bl w w':=by
 have HLEN:=ah h.len;have H0:Hid (blk ((w.alloc (.cells [bO e,I zn (i:Int),bO r,I J d,sL a n cap].toArray 47)).alloc (.cells [I J 0,sL nn 0 0].toArray 52)) w.heap.size [bO e,I zn (i:Int),bO r,I J d,sL a n cap] 47/\blk ((w.alloc (.cells [bO e,I zn (i:Int),bO r,I J d,sL a n cap].toArray 47)).alloc (.cells [I J 0,sL nn 0 0].toArray 52)) (w.heap.size+1) [I J 0,sL nn 0 0] 52/\Bl w ((w.alloc (.cells [bO e,I zn (i:Int),bO r,I J d,sL a n cap].toArray 47)).alloc (.cells [I J 0,sL nn 0 0].toArray 52))/\((w.alloc (.cells [bO e,I zn (i:Int),bO r,I J d,sL a n cap].toArray 47)).alloc (.cells [I J 0,sL nn 0 0].toArray 52)).heap.size=w.heap.size+2):=by
  refine⟨(blk.new w _ 47).alloc _,?_,qw.alloc pQ _,pQ⟩;have:=blk.new (w.alloc (.cells [bO e,I zn (i:Int),bO r,I J d,sL a n cap].toArray 47)) [I J 0,sL nn 0 0] 52;simpa using this
 have HV:=ah (fun W (hW:Bl w W)=>dU W e i r d a n cap l (h.below hW));obtain⟨w2,hw2⟩ : ∃ w2,w2=((w.alloc (.cells [bO e,I zn (i:Int),bO r,I J d,sL a n cap].toArray 47)).alloc (.cells [I J 0,sL nn 0 0].toArray 52)):=⟨_,rfl⟩
 rw[<- hw2] at H0;by_cases hv:vB e i r d n=true
 .obtain⟨f1,f2,f3,f4,f5⟩:=pb hv HLEN.o;have eZ:imZ e i r d n l=ie e i r d.toNat l:=zc hv;have HLY:Hid (∀ W,Bl w W->Calls Tp 134 #[.agg [bO e,I zn (i:Int),bO r,I J d,sL a n cap].toArray] W fun y w'=>∃ ao cp sv,y = rT (.tuple #[pkV ((ie e i r d.toNat l).length:Int) ao (wl (ie e i r d.toNat l)).length cp,sv])/\an w' W.heap.size (sL ao (wl (ie e i r d.toNat l)).length cp) (wl (ie e i r d.toNat l))/\bB w' W.heap.size sv (By e i r d.toNat l)/\Bl W w'):=by
   intro W hW;have:=tg W e i r d.toNat a n cap l (h.below hW) (fun j u hj=>(hW.cell (p:=⟨0,0+j,nn⟩) hz0).trans (tab j u hj)) (nL hz0 hW.size) f1 f2 f3;rw[<- f4] at this;exact this
  rw[eZ];generalize ie e i r d.toNat l=IL at *;have HVV:Hid (∀ W,Bl w W->Calls Tp 133 #[.agg [bO e,I zn (i:Int),bO r,I J d,sL a n cap].toArray] W fun o w'=>o = rT (bO true)/\Bl W w'):=fun W hW=>by have:=HV.o W hW;rw[hv] at this;exact this
  clear HV eZ f1 f2 f3 f4 f5 hv h HLEN tab hz0;go_enter Tryz.func66,Tryz.ntmps66;go_upto_region 1 with fail
  change Code.wp _ _ _ _ ((w.alloc (.cells [bO e,I zn (i:Int),bO r,I J d,sL a n cap].toArray 47)).alloc (.cells [I J 0,sL nn 0 0].toArray 52));rw[<- hw2]
  clear hw2;go_wp2_with (first
   | (refine zi 47 [bO e,I zn (i:Int),bO r,I J d,sL a n cap] H0.o.1.load Tryz.underlying47 jU ?_)
   | (go_at_call 133;refine (HVV.o _ H0.o.2.2.1).mono ?_;rintro y w3 ⟨rfl,b3⟩;have H3:Hid (blk w3 w.heap.size [bO e,I zn (i:Int),bO r,I J d,sL a n cap] 47/\blk w3 (w.heap.size+1) [I J 0,sL nn 0 0] 52/\Bl w w3/\w.heap.size+2<=w3.heap.size):=⟨H0.o.1.below b3,H0.o.2.1.below b3,H0.o.2.2.1.trans (b3.mono H0.o.2.2.1.size),by have:=b3.size;have:=H0.o.2.2.2;omega⟩;clear b3)
   | (refine zi 47 [bO e,I zn (i:Int),bO r,I J d,sL a n cap] H3.o.1.load Tryz.underlying47 jU ?_)
   | (go_at_call 134;refine (HLY.o _ H3.o.2.2.1).mono ?_;rintro y w5 ⟨ao,cp,sv,rfl,o5,_,b5⟩;have H5:Hid (blk (w5.alloc (.cells #[I J (IL.length:Int),sL ao (wl IL).length cp] 52)) (w.heap.size+1) [I J 0,sL nn 0 0] 52/\Bl w (w5.alloc (.cells #[I J (IL.length:Int),sL ao (wl IL).length cp] 52))/\an (w5.alloc (.cells #[I J (IL.length:Int),sL ao (wl IL).length cp] 52)) (w.heap.size+2) (sL ao (wl IL).length cp) (wl IL)):=⟨(H3.o.2.1.below b5).alloc _,(H3.o.2.2.1.trans (b5.mono H3.o.2.2.1.size)).alloc (nT H3.o.2.2.1.size b5.size) _,(o5.lower H3.o.2.2.2).alloc _⟩;clear b5 o5)
   | (refine QE (P:=Tp) rfl 52 _ _ rfl (w.heap.size+1) 0 #[I J (IL.length:Int),sL ao (wl IL).length cp] rfl rfl (H5.o.1.there 0 2 pQ) xV Dz ?_;generalize hW6:World.setCells (w5.alloc _) (w.heap.size+1) 0 _=w6;have HW6:Hid (_=w6):=hW6;clear hW6))
  have e6:=HW6.o;have hF:blk w6 (w.heap.size+1) [I J (IL.length:Int),sL ao (wl IL).length cp] 52:=by
   rw[<- e6];exact blk.put [] [I J 0,sL nn 0 0] [] _ H5.o.1 rfl
  have p0:=hF.cell 0 _ rfl;have p1:=hF.cell 1 _ rfl;refine QF (v:=pkV (IL.length:Int) ao (wl IL).length cp) (by simp[results,Tryz.results66,go_sem,p0,p1]) rfl ?_;refine⟨ao,cp,rfl,?_,?_⟩
  .rw[<- e6];exact (H5.o.2.2.setCellsO (w.heap.size+1) 0 _ om).lower om
  .rw[<- e6];exact sW om 0 _ H5.o.2.1
 .have hvf:vB e i r d n=false:=by simpa using hv
  have eZ:imZ e i r d n l=[]:=zb hv;have HVV:Hid (∀ W,Bl w W->Calls Tp 133 #[.agg [bO e,I zn (i:Int),bO r,I J d,sL a n cap].toArray] W fun o w'=>o = rT (bO false)/\Bl W w'):=fun W hW=>by have:=HV.o W hW;rw[hvf] at this;exact this
  rw[eZ];clear HV hv hvf h HLEN eZ tab hz0;go_enter Tryz.func66,Tryz.ntmps66;go_upto_region 1 with fail
  change Code.wp _ _ _ _ ((w.alloc (.cells [bO e,I zn (i:Int),bO r,I J d,sL a n cap].toArray 47)).alloc (.cells [I J 0,sL nn 0 0].toArray 52));rw[<- hw2]
  clear hw2;go_wp2_with (first
   | (refine zi 47 [bO e,I zn (i:Int),bO r,I J d,sL a n cap] H0.o.1.load Tryz.underlying47 jU ?_)
   | (go_at_call 133;refine (HVV.o _ H0.o.2.2.1).mono ?_;rintro y w3 ⟨rfl,b3⟩;have H3:Hid (blk w3 (w.heap.size+1) [I J 0,sL nn 0 0] 52/\Bl w w3):=⟨H0.o.2.1.below b3,H0.o.2.2.1.trans (b3.mono H0.o.2.2.1.size)⟩;clear b3)
   | (refine QE (P:=Tp) rfl 52 _ _ rfl (w.heap.size+1) 0 #[I J 0,sL nn 0 0] rfl rfl (H3.o.1.there 0 2 pQ) xV Dz ?_;generalize hW6:World.setCells w3 (w.heap.size+1) 0 _=w6;have HW6:Hid (_=w6):=hW6;clear hW6))
  have e6:=HW6.o;have hF:blk w6 (w.heap.size+1) [I J 0,sL nn 0 0] 52:=by
   rw[<- e6];exact blk.put [] [I J 0,sL nn 0 0] [] _ H3.o.1 rfl
  have p0:=hF.cell 0 _ rfl;have p1:=hF.cell 1 _ rfl;refine QF (v:=pkV 0 nn 0 0) (by simp[results,Tryz.results66,go_sem,p0,p1]) rfl ?_;refine⟨nn,0,rfl,gh _ _,?_⟩;rw[<- e6];exact sW om 0 _ H3.o.2
end Go.Proofs.YtnfmjckkibdcaaaGreatDoor
