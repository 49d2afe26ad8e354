import Derived.Test.YtgfolecanghhhaaGreatK15
import Derived.Maps.Own
namespace Go.Proofs.YtgfolecanghhhaaGreat
open Go.Proofs.Tryz
open Option renaming none->nn,some->sQ
open Go renaming World->Wd
set_option maxRecDepth 20000
open Go.RowKit
set_option linter.all false
set_option maxHeartbeats 16000000
open Go.Value renaming int->I,slice->sL,bool->bO,pointer->pT,agg->aG
open Go.IntKind renaming i64->J
open Go.Ending renaming returned->rT
open Go.Proofs.Tryz renaming prog->Tp
section
variable {mb P k g gf n1 kf gb n2 kb gr r1 gq r3 PH:Nat} {w0 W W':Wd} {bx qu:List R8} {L HL:List Value} {p:Wd->Prop} {fs:List R3} {hs:Nat->Hd} {ff:List R5}
structure own (w0:Wd) (P mb g:Nat) (p:Wd->Prop) (W:Wd):Prop where
 lt:g<W.heap.size
 n1:g≠P
 n2:g≠mb
 k:∀ W',W'.heap[g]?=W.heap[g]?->Bl w0 W'->p W'
def own.step (h:own w0 P mb g p W) (e:W'.heap[g]?=W.heap[g]?) (hs:W.heap.size<=W'.heap.size):own w0 P mb g p W':=⟨nL h.lt hs,h.n1,h.n2,fun W2 h2=>h.k W2 (h2.trans e)⟩
def own.below (h:own w0 P mb g p W) (hb:Bl W W'):own w0 P mb g p W':=h.step (hb.block _ h.lt) hb.size
def own.put (h:own w0 P mb g p W) (o:Nat) (vs:List Value):own w0 P mb g p (W.setCells P o vs):=h.step (sO P g h.n1 vs W o) (by rw[sZ];exact nR _)
def t7 (w:Wd) (g n cap:Nat) (bs:List R3) (h:bj w (sQ ⟨g,0,nn⟩) n cap bs) (hn:n<=1048576) :
  Calls Tp 177 #[sL (sQ ⟨g,0,nn⟩) n cap] w fun e w'=>∃ g' cap',e = rT (sL (sQ ⟨g',0,nn⟩) n cap')/\w.heap.size<=g'/\g'<w'.heap.size/\(∀ W,W.heap[g']?=w'.heap[g']?->bj W (sQ ⟨g',0,nn⟩) n cap' bs)/\Bl w w':=by
 refine (nr w g n cap bs h hn).mono ?_;rintro e w' ⟨v',rfl,ho,hv,hbw⟩;rcases ho.2 with⟨e,_⟩|⟨g',cap',cur,hv',hb,hg,hcp,hmx,hsz,htk⟩
 .exact Qy e hv
 .have hcur:∀ t,t<n*3->cur[t]?=(c3 bs)[t]?:=by
   intro t ht;rw[<- htk,qT ht,qS]
  have hcell:∀ W:Wd,W.heap[g']?=w'.heap[g']?->∀ t,t<n*3->W.cell? ⟨g',t,nn⟩=(c3 bs)[t]?:=by
   intro W hW t ht;have e:W.heap[g']?=sQ (.cells cur 180 (0,0)):=hW.trans hg;rw[<- hcur t ht];simp[World.cell?,e]
  have hln:=h.len;refine⟨g',cap',by rw[hv'],hb,aJ hg,fun W hW=>⟨h.len,hcp,fun hne=>⟨g',0,rfl,fun j hj=>?_⟩⟩,hbw⟩;obtain⟨y0,y1,y2⟩:=vj bs j hj;exact⟨(by rw[qi];exact (hcell W hW _ om).trans y0),(by rw[qi];exact (hcell W hW _ om).trans y1),(by rw[qi];exact (hcell W hW _ om).trans y2)⟩
structure suS (w0:Wd) (P mb PH:Nat) (L HL:List Value) (W:Wd):Prop where
 p:blk W P L 205
 q:blk W PH HL 41
 m:W.heap[mb]?=sQ (.map #[] 0)
 b:Bl w0 W
 n1:w0.heap.size<=P
 n3:PH≠P
 n4:mb≠P
def suS.below (h:suS w0 P mb PH L HL W) (hb:Bl W W'):suS w0 P mb PH L HL W':=⟨h.p.below hb,h.q.below hb,(hb.block _ (aJ h.m)).trans h.m,h.b.trans (hb.mono h.b.size),h.n1,h.n3,h.n4⟩
def suS.put (pre old post vs:List Value) (h:suS w0 P mb PH (pre++old++post) HL W) (hl:old.length=vs.length):suS w0 P mb PH (pre++vs++post) HL (W.setCells P pre.length vs):=⟨h.p.put pre old post vs hl,h.q.other h.n3 _ _,(sO P mb h.n4 vs W _).trans h.m,sW h.n1 _ _ h.b,h.n1,h.n3,h.n4⟩
def jb {a:Int} (h0:0<=a) (h1:a<=10000):(Lit.int .i64 a).wf=true:=by
 have e1:IntKind.i64.min = -9223372036854775808:=by decide
 have e2:IntKind.i64.max=9223372036854775807:=by decide
 simp only[Lit.wf,e1,e2,qw,qP];omega
def dQ (H:Type) (bx:List R8):Nat->DataW H
 | 0=>.map []
 | k+1=>if h:k<bx.length then (if bx[k].x=0 then dQ H bx k else (dQ H bx k).put (.int .i64 bx[k].y) (.lit (.int .i64 (k:Int)))) else dQ H bx k
def sy {H:Type} (h:k<bx.length) (hx:bx[k].x=0):dQ H bx (k+1)=dQ H bx k:=by rw[dQ,dif_pos h,qc hx]
def vE {H:Type} (h:k<bx.length) (hx:bx[k].x≠0):dQ H bx (k+1)=(dQ H bx k).put (.int .i64 bx[k].y) (.lit (.int .i64 (k:Int))):=by rw[dQ,dif_pos h,qa hx]
structure lvS (H:Type) (w0:Wd) (P mb:Nat) (L:List Value) (gf n1 kf:Nat) (fs:List R3) (gb n2 kb:Nat) (bx:List R8) (hs:Nat->Hd) (gr r1:Nat) (ff:List R5) (gq r3:Nat) (qu:List R8) (k:Nat) (W:Wd):Prop where
 p:blk W P L 205
 f:own w0 P mb gf (fun W=>bj W (sQ ⟨gf,0,nn⟩) n1 kf fs) W
 x:own w0 P mb gb (fun W=>dr8 w0 0 gb n2 bx hs 0 W/\n2<=kb) W
 m:W.ownsMap (H:=H) Tp 3 (plainElem Tp 3) mb k (dQ H bx k)
 b:Bl w0 W
 n1:mb≠P
 n2:w0.heap.size<=mb
 r:own w0 P mb gr (fun W=>cE w0 W gr r1 0 ff/\cu W gr (r1*5)) W
 q:own w0 P mb gq (fun W=>cw w0 W gq r3 0 qu/\cu W gq (r3*8)) W
 d:gf<gb/\gb<gr/\gr<gq
 lo:w0.heap.size<=gf/\w0.heap.size<=P
def lvS.below {H:Type} (h:lvS H w0 P mb L gf n1 kf fs gb n2 kb bx hs gr r1 ff gq r3 qu k W) (hb:Bl W W'):lvS H w0 P mb L gf n1 kf fs gb n2 kb bx hs gr r1 ff gq r3 qu k W':=
 ⟨h.p.below hb,h.f.below hb,h.x.below hb,h.m.kept (row:=nn) ⟨hb.os,hb.tape,hb.output,hb.size,fun k hk _=>hb.block k hk⟩ pQ,h.b.trans (hb.mono h.b.size),h.n1,h.n2,h.r.below hb,h.q.below hb,h.d,h.lo⟩
def lvS.next {H:Type} {k':Nat} (h:lvS H w0 P mb L gf n1 kf fs gb n2 kb bx hs gr r1 ff gq r3 qu k W) (hg:W.grownBy W' (sQ mb)) (hm:W'.ownsMap (H:=H) Tp 3 (plainElem Tp 3) mb k' (dQ H bx k')):lvS H w0 P mb L gf n1 kf fs gb n2 kb bx hs gr r1 ff gq r3 qu k' W':=
 ⟨h.p.kept (hg.block _ h.p.lt (by simpa using fun e=>h.n1 e.symm)),h.f.step (hg.block _ h.f.lt (by simpa using h.f.n2)) hg.size,h.x.step (hg.block _ h.x.lt (by simpa using h.x.n2)) hg.size,hm,h.b.grown hg h.b.size (fun k hk=>by cases hk;exact h.n2),h.n1,h.n2,h.r.step (hg.block _ h.r.lt (by simpa using h.r.n2)) hg.size,h.q.step (hg.block _ h.q.lt (by simpa using h.q.n2)) hg.size,h.d,h.lo⟩
def lvS.skip {H:Type} (h:lvS H w0 P mb L gf n1 kf fs gb n2 kb bx hs gr r1 ff gq r3 qu k W) (hk:k<bx.length) (hx:bx[k].x=0):lvS H w0 P mb L gf n1 kf fs gb n2 kb bx hs gr r1 ff gq r3 qu (k+1) W:=
 ⟨h.p,h.f,h.x,by rw[sy hk hx];exact h.m.mono (Nat.le_succ _),h.b,h.n1,h.n2,h.r,h.q,h.d,h.lo⟩
def ua {w:Wd} (h:w.heap[mb]?=sQ (.map #[] 0)) (ty:TypeId):(Builtin.clear_ #[199] ty #[.map (sQ mb)]).run Tp w = .ok (.tuple #[]) w:=by
 have e:w.heap.setIfInBounds mb (.map #[] 0)=w.heap:=by
  apply Array.ext_getElem?;intro i;rw[Array.getElem?_setIfInBounds];split
  .rename_i hi;subst hi;simp[aJ h];exact (Array.getElem?_eq_some_iff.1 h).2.symm
  .rfl
 simp[Builtin.clear_,Q3 underlying199,MapKept.run_getObj_map h,MapKept.run_setObj_map _ h,Result.andThen];rw[e]
abbrev nS:Value:=sL nn 0 0
abbrev lkS (g n k:Nat):Value:=sL (sQ ⟨g,0,nn⟩) n k
abbrev lkA (c0:Int) (r1:Nat) (c2:Int) (r3 g1 n1 k1 g2 o2 n2 k2:Nat) (a3:Option Addr) (n3 k3:Nat) (a4:Option Addr) (n4 k4:Nat) (lo st:Int):List Value:=[I J c0,I J (r1:Int),I J c2,I J (r3:Int),sL (sQ ⟨g1,0,nn⟩) n1 k1,sL (sQ ⟨g2,o2,nn⟩) n2 k2,sL a3 n3 k3,sL a4 n4 k4,I J lo,I J st]
abbrev hB (c0:Int) (r1:Nat) (c2:Int) (r3 mb:Nat) (x y z:Value) (a b:Int) (v:Value) (c d lo st:Int):List Value:=[I J c0,I J (r1:Int),I J c2,I J (r3:Int),x,y,.map (sQ mb),z,I J a,I J b,v,I J c,I J d,I J lo,I J st]
abbrev hC (c0:Int) (r1:Nat) (c2:Int) (r3:Nat):List Value:=[I J c0,I J (r1:Int),I J c2,I J (r3:Int)]
abbrev hR (g r:Nat) (n:Int):List Value:=[lkS g r r,I J 0,I J n]
abbrev h8 (x y z:Int) (e:Bool) (i:Nat) (r:Bool) (d:Int) (ao:Option Addr) (m c:Nat):List Value:=[I J x,I J y,I J z,bO e,I .u32 (i:Int),bO r,I J d,sL ao m c]
abbrev oF (w0:Wd) (P mb gf n1 kf:Nat) (fs:List R3) (W:Wd):Prop:=own w0 P mb gf (fun W=>bj W (sQ ⟨gf,0,nn⟩) n1 kf fs) W
abbrev oB (w0:Wd) (P mb gb n2 kb:Nat) (bx:List R8) (hs:Nat->Hd) (W:Wd):Prop:=own w0 P mb gb (fun W=>dr8 w0 0 gb n2 bx hs 0 W/\n2<=kb) W
abbrev oR (w0:Wd) (P mb gr r1:Nat) (ff:List R5) (W:Wd):Prop:=own w0 P mb gr (fun W=>cE w0 W gr r1 0 ff/\cu W gr (r1*5)) W
abbrev oQ (w0:Wd) (P mb gq r3:Nat) (qu:List R8) (W:Wd):Prop:=own w0 P mb gq (fun W=>cw w0 W gq r3 0 qu/\cu W gq (r3*8)) W
abbrev lvT (H:Type) (w0:Wd) (P mb:Nat) (c0:Int) (r1:Nat) (c2:Int) (r3 gf n1 kf:Nat) (fs:List R3) (gb n2 kb:Nat) (bx:List R8) (hs:Nat->Hd) (gr:Nat) (ff:List R5) (n3 gq:Nat) (qu:List R8) (n4:Nat) (lo st:Int) (k:Nat) (W:Wd):Prop:=lvS H w0 P mb (hB c0 r1 c2 r3 mb (lkS gf n1 kf) (lkS gb n2 kb) (lkS gr r1 r1) 0 n3 (lkS gq r3 r3) 0 n4 lo st) gf n1 kf fs gb n2 kb bx hs gr r1 ff gq r3 qu k W
def vR (H:Type) (w0 w:Wd) (P mb:Nat) (c0 c2:Int) (r1 r3:Nat) (fs:List R3) (bx:List R8) (ff:List R5) (qu:List R8) (lo st:Int) (g1 n1 k1 g2 o2 n2 k2:Nat) (a3:Option Addr) (n3 k3:Nat) (a4:Option Addr) (n4 k4:Nat) (h1:bj w0 (sQ ⟨g1,0,nn⟩) n1 k1 fs) (h2:aM w0 (sQ ⟨g2,o2,nn⟩) n2 k2 bx) (h3:cl w0 a3 n3 k3 ff) (h4:aM w0 a4 n4 k4 qu) (m1:n1<=1048576) (m2:n2<=8) (hc1:1<=r1/\r1<=1000/\n3<=r1) (hc3:1<=r3/\r3<=1000/\n4<=r3) (hok:dw st bx) (hsm:∀ j (h:j<bx.length),bx[j].l.length<=1048576) (hmb0:w0.heap.size<=mb) (hb0:Bl w0 w) (hP:blk w P [I J 0,I J 0,I J 0,I J 0,sL nn 0 0,sL nn 0 0,.map (sQ mb),sL nn 0 0,I J 0,I J 0,sL nn 0 0,I J 0,I J 0,I J 0,I J 0] 205) (hm:w.heap[mb]?=sQ (.map #[] 0)) (hP0:w0.heap.size<=P) (hne:mb≠P) :
  Calls Tp 139 #[pT (sQ ⟨P,0,nn⟩),aG #[I J c0,I J (r1:Int),I J c2,I J (r3:Int),sL (sQ ⟨g1,0,nn⟩) n1 k1,sL (sQ ⟨g2,o2,nn⟩) n2 k2,sL a3 n3 k3,sL a4 n4 k4,I J lo,I J st]] w fun o w'=>∃ gf kf gb kb hs gr gq,o = rT (.tuple #[])/\lvS H w0 P mb [I J c0,I J (r1:Int),I J c2,I J (r3:Int),sL (sQ ⟨gf,0,nn⟩) n1 kf,sL (sQ ⟨gb,0,nn⟩) n2 kb,.map (sQ mb),sL (sQ ⟨gr,0,nn⟩) r1 r1,I J 0,I J (n3:Int),sL (sQ ⟨gq,0,nn⟩) r3 r3,I J 0,I J (n4:Int),I J lo,I J st] gf n1 kf fs gb n2 kb bx hs gr r1 ff gq r3 qu n2 w':=by
 have HLN:Hid (n2=bx.length):=h2.len;have HOK:Hid (dw st bx):=hok;clear hok;have HU:Hid (suS w0 P mb w.heap.size [I J 0,I J 0,I J 0,I J 0,nS,nS,.map (sQ mb),nS,I J 0,I J 0,nS,I J 0,I J 0,I J 0,I J 0] (lkA c0 r1 c2 r3 g1 n1 k1 g2 o2 n2 k2 a3 n3 k3 a4 n4 k4 lo st) (w.alloc (.cells (lkA c0 r1 c2 r3 g1 n1 k1 g2 o2 n2 k2 a3 n3 k3 a4 n4 k4 lo st).toArray 41))):=⟨hP.alloc _,blk.new w _ 41,(Below.heap_alloc _ _ _ (aJ hm)).trans hm,hb0.alloc hb0.size _,hP0,fun e=>Qy hP.lt om,hne⟩
 clear hP hm hP0 hne hb0;have HC1:Hid (∀ W,Bl w0 W->Calls Tp 177 #[sL (sQ ⟨g1,0,nn⟩) n1 k1] W fun e w'=>∃ g' cap',e = rT (sL (sQ ⟨g',0,nn⟩) n1 cap')/\W.heap.size<=g'/\g'<w'.heap.size/\(∀ W,W.heap[g']?=w'.heap[g']?->bj W (sQ ⟨g',0,nn⟩) n1 cap' fs)/\Bl W w'):=fun W hW=>t7 W g1 n1 k1 fs (h1.below hW) m1;have HC2:Hid (∀ W,Bl w0 W->Calls Tp 178 #[sL (sQ ⟨g2,o2,nn⟩) n2 k2] W fun e w'=>∃ g' cap' hs,e = rT (sL (sQ ⟨g',0,nn⟩) n2 cap')/\W.heap.size<=g'/\n2<=cap'/\dr8 w0 0 g' n2 bx hs 0 w'/\Bl W w'):=fun W hW=>ns w0 W g2 o2 n2 k2 bx h2 hW om hsm;have HR5:Hid (∀ W,Bl w0 W->Calls Tp 179 #[I J (r1:Int),sL a3 n3 k3] W fun o w'=>∃ gs,o = rT (aG #[sL (sQ ⟨gs,0,nn⟩) r1 r1,I J 0,I J (n3:Int)])/\W.heap.size<=gs/\gs<w'.heap.size/\cu w' gs (r1*5)/\cE w0 w' gs r1 0 ff/\Bl W w'):=fun W hW=>(oj w0 W hW r1 ff a3 n3 k3 h3 hc1.1 hc1.2.1 hc1.2.2)
 have HR8:Hid (∀ W,Bl w0 W->Calls Tp 180 #[I J (r3:Int),sL a4 n4 k4] W fun o w'=>∃ gs,o = rT (aG #[sL (sQ ⟨gs,0,nn⟩) r3 r3,I J 0,I J (n4:Int)])/\W.heap.size<=gs/\gs<w'.heap.size/\cu w' gs (r3*8)/\cw w0 w' gs r3 0 qu/\Bl W w'):=fun W hW=>(oh w0 W hW r3 qu a4 n4 k4 h4 hc3.1 hc3.2.1 hc3.2.2)
 clear h1 h2 h3 h4 hc1 hc3;have y6:=HU.o.p.cell 6 _ rfl;have hcl:=ua HU.o.m;go_enter func139,ntmps139;go_wp2_with fail;generalize (w.alloc (.cells (lkA c0 r1 c2 r3 g1 n1 k1 g2 o2 n2 k2 a3 n3 k3 a4 n4 k4 lo st).toArray 41))=w1 at *;generalize w.heap.size=PH at *;clear y6 hcl;refine QJ (S:=fun W=>blk W PH (lkA c0 r1 c2 r3 g1 n1 k1 g2 o2 n2 k2 a3 n3 k3 a4 n4 k4 lo st) 41) kr ?_;have hS:blk w1.drew PH (lkA c0 r1 c2 r3 g1 n1 k1 g2 o2 n2 k2 a3 n3 k3 a4 n4 k4 lo st) 41:=HU.o.q;have HU:Hid (suS w0 P mb PH [I J 0,I J 0,I J 0,I J 0,nS,nS,.map (sQ mb),nS,I J 0,I J 0,nS,I J 0,I J 0,I J 0,I J 0] (lkA c0 r1 c2 r3 g1 n1 k1 g2 o2 n2 k2 a3 n3 k3 a4 n4 k4 lo st) w1.drew):=HU.o.below (bW _ _).drew;change wpAnyH Tp _ _ _ _ _ _ _ w1.drew;generalize w1.drew=w2 at *;refine tk 0 ?_;refine tk 1 ?_;refine tk 2 ?_;refine tk 3 ?_;refine wU 4 (aG (hC c0 r1 c2 r3).toArray) rfl (QL (by rfl) 35 (.tmp 13) rfl PH 0 rfl (hC c0 r1 c2 r3) _ (fun W h=>blk.loadAt [] (hC c0 r1 c2 r3) [sL (sQ ⟨g1,0,nn⟩) n1 k1,sL (sQ ⟨g2,o2,nn⟩) n2 k2,sL a3 n3 k3,sL a4 n4 k4,I J lo,I J st] h) underlying35 rfl EB) hS ?_;simp only[aZ];refine tk 5 ?_;refine tk 6 ?_ (hy:=fun W hSw=>by (have hc:=hSw.cell 8 _ rfl;go_simp;try rfl));refine tk 7 ?_;refine tk 8 ?_ (hy:=fun W hSw=>by (have hc:=hSw.cell 9 _ rfl;go_simp;try rfl));refine tk 9 ?_;refine tk 10 ?_;refine al 11 fun K hK=>?_;rw[qc (by rfl)];refine QT (P:=Tp) 35 (.tmp 20) (.tmp 14) rfl P 0 _ rfl rfl (HU.o.p.there 0 4 pQ) EB (QK (by simp[Value.oneCell'])) ?_;simp only[Act.put,aD,aE,aF];have HU3:Hid (suS w0 P mb PH (hB c0 r1 c2 r3 mb nS nS nS 0 0 nS 0 0 0 0) (lkA c0 r1 c2 r3 g1 n1 k1 g2 o2 n2 k2 a3 n3 k3 a4 n4 k4 lo st) (w2.setCells P 0 (hC c0 r1 c2 r3))):=HU.o.put [] [I J 0,I J 0,I J 0,I J 0] [nS,nS,.map (sQ mb),nS,I J 0,I J 0,nS,I J 0,I J 0,I J 0,I J 0] (hC c0 r1 c2 r3) rfl;have hS1:blk (w2.setCells P 0 (hC c0 r1 c2 r3)) PH (lkA c0 r1 c2 r3 g1 n1 k1 g2 o2 n2 k2 a3 n3 k3 a4 n4 k4 lo st) 41:=HU3.o.q;generalize (w2.setCells P 0 (hC c0 r1 c2 r3))=w3 at *;refine hK.out _ w3 hS1 (fun hS2=>?_);clear hS hK K hS1 HU;have hS:=hS2;have HU:=HU3;clear hS2 HU3;refine tk 12 ?_;refine tk 13 ?_;refine al 14 fun K hK=>?_;have hcP:=HU.o.p.cell 13 _ rfl;have hfP:=HU.o.p.free 13;go_simp;clear hcP hfP;have HU4:Hid (suS w0 P mb PH (hB c0 r1 c2 r3 mb nS nS nS 0 0 nS 0 0 lo 0) (lkA c0 r1 c2 r3 g1 n1 k1 g2 o2 n2 k2 a3 n3 k3 a4 n4 k4 lo st) (w3.setCell ⟨P,13,nn⟩ (I J lo))):=HU.o.put [I J c0,I J (r1:Int),I J c2,I J (r3:Int),nS,nS,.map (sQ mb),nS,I J 0,I J 0,nS,I J 0,I J 0] [I J 0] [I J 0] [I J lo] rfl;have hS1:blk (w3.setCell ⟨P,13,nn⟩ (I J lo)) PH (lkA c0 r1 c2 r3 g1 n1 k1 g2 o2 n2 k2 a3 n3 k3 a4 n4 k4 lo st) 41:=HU4.o.q;generalize (w3.setCell ⟨P,13,nn⟩ (I J lo))=w4 at *;refine hK.out _ w4 hS1 (fun hS2=>?_);clear hS hK K hS1 HU;have hS:=hS2;have HU:=HU4;clear hS2 HU4;refine tk 15 ?_;refine tk 16 ?_;refine al 17 fun K hK=>?_;have hcP:=HU.o.p.cell 14 _ rfl;have hfP:=HU.o.p.free 14;go_simp;clear hcP hfP;have HU5:Hid (suS w0 P mb PH (hB c0 r1 c2 r3 mb nS nS nS 0 0 nS 0 0 lo st) (lkA c0 r1 c2 r3 g1 n1 k1 g2 o2 n2 k2 a3 n3 k3 a4 n4 k4 lo st) (w4.setCell ⟨P,14,nn⟩ (I J st))):=HU.o.put [I J c0,I J (r1:Int),I J c2,I J (r3:Int),nS,nS,.map (sQ mb),nS,I J 0,I J 0,nS,I J 0,I J 0,I J lo] [I J 0] [] [I J st] rfl;have hS1:blk (w4.setCell ⟨P,14,nn⟩ (I J st)) PH (lkA c0 r1 c2 r3 g1 n1 k1 g2 o2 n2 k2 a3 n3 k3 a4 n4 k4 lo st) 41:=HU5.o.q;generalize (w4.setCell ⟨P,14,nn⟩ (I J st))=w5 at *;refine hK.out _ w5 hS1 (fun hS2=>?_);clear hS hK K hS1 HU;have hS:=hS2;have HU:=HU5;clear hS2 HU5;refine QH kr ?_ _;clear hS;go_wp2_with fail;refine QJ (S:=fun W=>blk W PH (lkA c0 r1 c2 r3 g1 n1 k1 g2 o2 n2 k2 a3 n3 k3 a4 n4 k4 lo st) 41) kr ?_;have hS:blk w5.drew PH (lkA c0 r1 c2 r3 g1 n1 k1 g2 o2 n2 k2 a3 n3 k3 a4 n4 k4 lo st) 41:=HU.o.q;have HUd:Hid (suS w0 P mb PH (hB c0 r1 c2 r3 mb nS nS nS 0 0 nS 0 0 lo st) (lkA c0 r1 c2 r3 g1 n1 k1 g2 o2 n2 k2 a3 n3 k3 a4 n4 k4 lo st) w5.drew):=HU.o.below (bW _ _).drew;clear HU;have HU:=HUd;clear HUd;change wpAnyH Tp _ _ _ _ _ _ _ w5.drew;generalize w5.drew=w6 at *;refine tk 0 ?_;refine tk 1 ?_;refine tk 2 ?_;refine tk 3 ?_ (hy:=fun W hSw=>by (have hc:=hSw.cell 4 _ rfl;go_simp;try rfl));refine tk 5 ?_;refine tk 6 ?_ (hy:=fun W hSw=>by (have hc:=hSw.cell 5 _ rfl;go_simp;try rfl));refine al 4 fun K hK=>?_;go_simp;refine (HC1.o _ HU.o.b).mono ?_;rintro o w7 ⟨gf,kf,rfl,q1,q2,q3,b7⟩;have HGF:Hid (w0.heap.size<=gf):=nT HU.o.b.size q1;have HU7:Hid (suS w0 P mb PH (hB c0 r1 c2 r3 mb nS nS nS 0 0 nS 0 0 lo st) (lkA c0 r1 c2 r3 g1 n1 k1 g2 o2 n2 k2 a3 n3 k3 a4 n4 k4 lo st) w7):=HU.o.below b7;have HOF:Hid (oF w0 P mb gf n1 kf fs w7):=⟨q2,fun e=>Qy HU.o.p.lt om,fun e=>Qy (aJ HU.o.m) om,fun W' e _=>q3 W' e⟩
 clear q1 q2 q3 b7;go_wp2_with fail;refine hK.out _ _ HU7.o.q (fun hS2=>?_);clear hS hK K HU;have hS:=hS2;have HU:=HU7;clear hS2 HU7;refine al 7 fun K hK=>?_;go_simp;refine (HC2.o _ HU.o.b).mono ?_;rintro o w8 ⟨gb,kb,hs,rfl,q1,q3,q4,b8⟩;have HU8:Hid (suS w0 P mb PH (hB c0 r1 c2 r3 mb nS nS nS 0 0 nS 0 0 lo st) (lkA c0 r1 c2 r3 g1 n1 k1 g2 o2 n2 k2 a3 n3 k3 a4 n4 k4 lo st) w8):=HU.o.below b8;have HOF8:Hid (oF w0 P mb gf n1 kf fs w8):=HOF.o.below b8;have HOB:Hid (oB w0 P mb gb n2 kb bx hs w8):=⟨q4.hi,fun e=>Qy HU.o.p.lt om,fun e=>Qy (aJ HU.o.m) om,fun W h1 h2=>⟨q4.at0 h1 h2,q3⟩⟩
 have HGB:Hid (gf<gb):=nL HOF.o.lt q1;clear q1 q4 b8 HOF;have HOF:=HOF8;clear HOF8;go_wp2_with fail;refine hK.out _ _ HU8.o.q (fun hS2=>?_);clear hS hK K HU;have hS:=hS2;have HU:=HU8;clear hS2 HU8;refine tk 8 ?_;refine tk 9 ?_;refine al 10 fun K hK=>?_;have hcP:=HU.o.p.cell 4 _ rfl;have hfP:=HU.o.p.free 4;go_simp;clear hcP hfP;have HU9:Hid (suS w0 P mb PH (hB c0 r1 c2 r3 mb (lkS gf n1 kf) nS nS 0 0 nS 0 0 lo st) (lkA c0 r1 c2 r3 g1 n1 k1 g2 o2 n2 k2 a3 n3 k3 a4 n4 k4 lo st) (w8.setCell ⟨P,4,nn⟩ (lkS gf n1 kf))):=HU.o.put (hC c0 r1 c2 r3) [nS] [nS,.map (sQ mb),nS,I J 0,I J 0,nS,I J 0,I J 0,I J lo,I J st] [lkS gf n1 kf] rfl;have hS1:blk (w8.setCell ⟨P,4,nn⟩ (lkS gf n1 kf)) PH (lkA c0 r1 c2 r3 g1 n1 k1 g2 o2 n2 k2 a3 n3 k3 a4 n4 k4 lo st) 41:=HU9.o.q;have HOF9:Hid (oF w0 P mb gf n1 kf fs (w8.setCell ⟨P,4,nn⟩ (lkS gf n1 kf))):=HOF.o.put 4 [lkS gf n1 kf];have HOB9:Hid (oB w0 P mb gb n2 kb bx hs (w8.setCell ⟨P,4,nn⟩ (lkS gf n1 kf))):=HOB.o.put 4 [lkS gf n1 kf];generalize (w8.setCell ⟨P,4,nn⟩ (lkS gf n1 kf))=w9 at *;refine hK.out _ w9 hS1 (fun hS2=>?_);clear hS hK K hS1 HU;have hS:=hS2;have HU:=HU9;clear hS2 HU9;clear HOF HOB;have HOF:=HOF9;have HOB:=HOB9;clear HOF9 HOB9;refine tk 11 ?_;refine tk 12 ?_;refine al 13 fun K hK=>?_;have hcP:=HU.o.p.cell 5 _ rfl;have hfP:=HU.o.p.free 5;go_simp;clear hcP hfP;have HU10:Hid (suS w0 P mb PH (hB c0 r1 c2 r3 mb (lkS gf n1 kf) (lkS gb n2 kb) nS 0 0 nS 0 0 lo st) (lkA c0 r1 c2 r3 g1 n1 k1 g2 o2 n2 k2 a3 n3 k3 a4 n4 k4 lo st) (w9.setCell ⟨P,5,nn⟩ (lkS gb n2 kb))):=HU.o.put [I J c0,I J (r1:Int),I J c2,I J (r3:Int),lkS gf n1 kf] [nS] [.map (sQ mb),nS,I J 0,I J 0,nS,I J 0,I J 0,I J lo,I J st] [lkS gb n2 kb] rfl;have hS1:blk (w9.setCell ⟨P,5,nn⟩ (lkS gb n2 kb)) PH (lkA c0 r1 c2 r3 g1 n1 k1 g2 o2 n2 k2 a3 n3 k3 a4 n4 k4 lo st) 41:=HU10.o.q;have HOF10:Hid (oF w0 P mb gf n1 kf fs (w9.setCell ⟨P,5,nn⟩ (lkS gb n2 kb))):=HOF.o.put 5 [lkS gb n2 kb];have HOB10:Hid (oB w0 P mb gb n2 kb bx hs (w9.setCell ⟨P,5,nn⟩ (lkS gb n2 kb))):=HOB.o.put 5 [lkS gb n2 kb];generalize (w9.setCell ⟨P,5,nn⟩ (lkS gb n2 kb))=w10 at *;refine hK.out _ w10 hS1 (fun hS2=>?_);clear hS hK K hS1 HU;have hS:=hS2;have HU:=HU10;clear hS2 HU10;clear HOF HOB;have HOF:=HOF10;have HOB:=HOB10;clear HOF10 HOB10;refine QH kr ?_ _;clear hS;have u1:=HU.o.q.cell 1 _ rfl;have u6:=HU.o.q.cell 6 _ rfl
 go_wp2_with (first
  | (go_at_call 179;refine (HR5.o _ HU.o.b).mono ?_;rintro o w11 ⟨gr,rfl,q1,q2,q3,q4,b11⟩;have HOR11:Hid (oR w0 P mb gr r1 ff w11):=⟨q2,fun e=>Qy HU.o.p.lt om,fun e=>Qy (aJ HU.o.m) om,fun W' e _=>⟨q4.keep e,q3.up e⟩⟩;have HGR:Hid (gb<gr):=nL HOB.o.lt q1;have HU11:Hid (suS w0 P mb PH (hB c0 r1 c2 r3 mb (lkS gf n1 kf) (lkS gb n2 kb) nS 0 0 nS 0 0 lo st) (lkA c0 r1 c2 r3 g1 n1 k1 g2 o2 n2 k2 a3 n3 k3 a4 n4 k4 lo st) w11):=HU.o.below b11;have HOF11:Hid (oF w0 P mb gf n1 kf fs (w11)):=HOF.o.below b11;have HOB11:Hid (oB w0 P mb gb n2 kb bx hs (w11)):=HOB.o.below b11;clear HOF HOB;clear HU b11 q1 q2 q3 q4)
  | (refine QD (P:=Tp) rfl 201 (.tmp 45) (.tmp 43) rfl P 7 _ rfl rfl (HU11.o.p.there 7 3 pQ) xX (QK (by simp[Value.oneCell'])) ?_;have HU12:Hid (suS w0 P mb PH (hB c0 r1 c2 r3 mb (lkS gf n1 kf) (lkS gb n2 kb) (lkS gr r1 r1) 0 n3 nS 0 0 lo st) (lkA c0 r1 c2 r3 g1 n1 k1 g2 o2 n2 k2 a3 n3 k3 a4 n4 k4 lo st) (World.setCells w11 P 7 (hR gr r1 n3))):=HU11.o.put [I J c0,I J (r1:Int),I J c2,I J (r3:Int),lkS gf n1 kf,lkS gb n2 kb,.map (sQ mb)] [nS,I J 0,I J 0] [nS,I J 0,I J 0,I J lo,I J st] (hR gr r1 n3) rfl;have HOF12:Hid (oF w0 P mb gf n1 kf fs (World.setCells w11 P 7 (hR gr r1 n3))):=HOF11.o.put 7 (hR gr r1 n3);have HOB12:Hid (oB w0 P mb gb n2 kb bx hs (World.setCells w11 P 7 (hR gr r1 n3))):=HOB11.o.put 7 (hR gr r1 n3);clear HOF11 HOB11;have HOR12:Hid (oR w0 P mb gr r1 ff (World.setCells w11 P 7 (hR gr r1 n3))):=HOR11.o.put 7 (hR gr r1 n3);clear HOR11;clear HU11;generalize World.setCells w11 P 7 (hR gr r1 n3)=w12 at *;have u3:=HU12.o.q.cell 3 _ rfl;have u7:=HU12.o.q.cell 7 _ rfl)
  | (go_at_call 180;refine (HR8.o _ HU12.o.b).mono ?_;rintro o w13 ⟨gq,rfl,q1,q2,q3,q4,b11⟩;have HOQ13:Hid (oQ w0 P mb gq r3 qu w13):=⟨q2,fun e=>Qy HU12.o.p.lt om,fun e=>Qy (aJ HU12.o.m) om,fun W' e _=>⟨q4.keep e,q3.up e⟩⟩;have HGQ:Hid (gr<gq):=nL HOR12.o.lt q1;have HU13:Hid (suS w0 P mb PH (hB c0 r1 c2 r3 mb (lkS gf n1 kf) (lkS gb n2 kb) (lkS gr r1 r1) 0 n3 nS 0 0 lo st) (lkA c0 r1 c2 r3 g1 n1 k1 g2 o2 n2 k2 a3 n3 k3 a4 n4 k4 lo st) w13):=HU12.o.below b11;have HOF13:Hid (oF w0 P mb gf n1 kf fs (w13)):=HOF12.o.below b11;have HOB13:Hid (oB w0 P mb gb n2 kb bx hs (w13)):=HOB12.o.below b11;clear HOF12 HOB12;have HOR13:Hid (oR w0 P mb gr r1 ff (w13)):=HOR12.o.below b11;clear HOR12;clear HU12 b11 q1 q2 q3 q4)
  | (refine QD (P:=Tp) rfl 203 (.tmp 54) (.tmp 52) rfl P 10 _ rfl rfl (HU13.o.p.there 10 3 pQ) xW (QK (by simp[Value.oneCell'])) ?_;have HU14:Hid (suS w0 P mb PH (hB c0 r1 c2 r3 mb (lkS gf n1 kf) (lkS gb n2 kb) (lkS gr r1 r1) 0 n3 (lkS gq r3 r3) 0 n4 lo st) (lkA c0 r1 c2 r3 g1 n1 k1 g2 o2 n2 k2 a3 n3 k3 a4 n4 k4 lo st) (World.setCells w13 P 10 (hR gq r3 n4))):=HU13.o.put [I J c0,I J (r1:Int),I J c2,I J (r3:Int),lkS gf n1 kf,lkS gb n2 kb,.map (sQ mb),lkS gr r1 r1,I J 0,I J (n3:Int)] [nS,I J 0,I J 0] [I J lo,I J st] (hR gq r3 n4) rfl;have HOF14:Hid (oF w0 P mb gf n1 kf fs (World.setCells w13 P 10 (hR gq r3 n4))):=HOF13.o.put 10 (hR gq r3 n4);have HOB14:Hid (oB w0 P mb gb n2 kb bx hs (World.setCells w13 P 10 (hR gq r3 n4))):=HOB13.o.put 10 (hR gq r3 n4);clear HOF13 HOB13;have HOR14:Hid (oR w0 P mb gr r1 ff (World.setCells w13 P 10 (hR gq r3 n4))):=HOR13.o.put 10 (hR gq r3 n4);clear HOR13;have HOQ14:Hid (oQ w0 P mb gq r3 qu (World.setCells w13 P 10 (hR gq r3 n4))):=HOQ13.o.put 10 (hR gq r3 n4);clear HOQ13;clear HU13;generalize World.setCells w13 P 10 (hR gq r3 n4)=w14 at *;have v5:=HU14.o.p.cell 5 _ rfl))
 have HLV:Hid (lvT H w0 P mb c0 r1 c2 r3 gf n1 kf fs gb n2 kb bx hs gr ff n3 gq qu n4 lo st 0 w14):=⟨HU14.o.p,HOF14.o,HOB14.o,⟨#[],0,HU14.o.m,⟨pQ,MapKept.stamped_empty 0,pQ⟩,nR _,rfl⟩,HU14.o.b,HU14.o.n4,hmb0,HOR14.o,HOQ14.o,⟨HGB.o,HGR.o,HGQ.o⟩,HGF.o,HU14.o.n1⟩
 clear HU14 HOF14 HOB14 HOR14 HOQ14 HGB HGR HGQ HGF v5 u3 u7 HC1 HC2 HR5 HR8;go_loopw [60] (fun i wr=>∃ k:Nat,k<=n2/\i = I J (k:Int)/\lvT H w0 P mb c0 r1 c2 r3 gf n1 kf fs gb n2 kb bx hs gr ff n3 gq qu n4 lo st k wr) (fun i _=>n2-(intOf i).toNat);case atStart=>exact⟨0,nZ _,rfl,HLV.o⟩
 case round=>
  obtain⟨k,hk,rfl,hS⟩:=hrel;have HS:Hid (lvT H w0 P mb c0 r1 c2 r3 gf n1 kf fs gb n2 kb bx hs gr ff n3 gq qu n4 lo st k wr):=hS;clear hS HLV;by_cases hlt:k<n2
  .have hkl:k<bx.length:=by have:=HLN.o;omega
   have hkb:n2<=kb:=(HS.o.x.k wr rfl HS.o.b).2;obtain⟨ao,m,c,hx⟩ : ∃ ao m c,at8 wr gb (0+k*8) bx[k] ao m c:=⟨_,_,_,by rw[qi];exact (HS.o.x.k wr rfl HS.o.b).1.at_ k hkl⟩
   have HRG:=hx.range;have HSK:Hid (∀ W,lvT H w0 P mb c0 r1 c2 r3 gf n1 kf fs gb n2 kb bx hs gr ff n3 gq qu n4 lo st k W->bx[k].x=0->lvT H w0 P mb c0 r1 c2 r3 gf n1 kf fs gb n2 kb bx hs gr ff n3 gq qu n4 lo st (k+1) W):=fun W h hx0=>h.skip hkl hx0;have HNX:Hid (bx[k].x≠0->dQ H bx (k+1)=(dQ H bx k).put (.int .i64 bx[k].y) (.lit (.int .i64 (k:Int)))):=vE hkl;have HOKB:Hid (cZ st bx[k]):=HOK.o.1 k hkl;obtain⟨b,hb⟩ : ∃ b,bx[k]=b:=⟨_,rfl⟩
   rw[hb] at HRG HSK HNX HOKB;obtain⟨x,y,z,e,i,r,d,l⟩:=b;rw[qi] at HRG;have HRG:Hid (wr.rangeAt gb (k*8) (h8 x y z e i r d ao m c)):=HRG;simp only[] at HSK HNX;clear hx hb;have HW3:Hid (lvT H w0 P mb c0 r1 c2 r3 gf n1 kf fs gb n2 kb bx hs gr ff n3 gq qu n4 lo st k (wr.alloc (.cells (h8 x y z e i r d ao m c).toArray 116))):=HS.o.below Zw;have HP3:Hid (blk (wr.alloc (.cells (h8 x y z e i r d ao m c).toArray 116)) wr.heap.size (h8 x y z e i r d ao m c) 116):=blk.new wr _ 116;by_cases hx0:x=0
   .subst hx0;have HL4:Hid (lvT H w0 P mb c0 r1 c2 r3 gf n1 kf fs gb n2 kb bx hs gr ff n3 gq qu n4 lo st (k+1) (wr.alloc (.cells (h8 0 y z e i r d ao m c).toArray 116))):=HSK.o _ HW3.o rfl
    clear HSK HNX HOKB HW3 HP3;go_wp2_with (refine ZG 116 HRG.o underlying116 fG ?_)
    go_roundw;case rel=>exact⟨k+1,om,by go_num,HL4.o⟩
    case measure=>simp[intOf];omega
   .have hx0':(x == 0)=false:=by simpa using hx0
    have HY:Hid (0<=y/\y<=9999):=by
     have:=HOKB.o;unfold cZ at this;rw[qa hx0] at this;exact this.2.1
    have HNX2:Hid (dQ H bx (k+1)=(dQ H bx k).put (.int .i64 y) (.lit (.int .i64 (k:Int)))):=HNX.o hx0
    clear HSK HNX HOKB hx0;go_wp2_with (refine ZG 116 HRG.o underlying116 fG ?_)
    have HBM:Hid (wr.heap.size≠mb):=fun e=>Qy HS.o.m.lt om;generalize (wr.alloc (.cells (h8 x y z e i r d ao m c).toArray 116))=w3 at *;generalize wr.heap.size=PB at *;refine QJ (S:=fun W=>blk W PB (h8 x y z e i r d ao m c) 116/\blk W P (hB c0 r1 c2 r3 mb (lkS gf n1 kf) (lkS gb n2 kb) (lkS gr r1 r1) 0 n3 (lkS gq r3 r3) 0 n4 lo st) 205) kr ?_;have hS:blk w3.drew PB (h8 x y z e i r d ao m c) 116/\blk w3.drew P (hB c0 r1 c2 r3 mb (lkS gf n1 kf) (lkS gb n2 kb) (lkS gr r1 r1) 0 n3 (lkS gq r3 r3) 0 n4 lo st) 205:=⟨HP3.o,HW3.o.p⟩
    have HW4:Hid (lvT H w0 P mb c0 r1 c2 r3 gf n1 kf fs gb n2 kb bx hs gr ff n3 gq qu n4 lo st k w3.drew):=HW3.o.below (bW _ _).drew;change wpAnyH Tp _ _ _ _ _ _ _ w3.drew;have HNB:Hid (sQ PB≠sQ mb):=fun e=>HBM.o (by simpa using e);generalize w3.drew=w4 at *;refine tk 0 ?_;refine tk 1 ?_;refine tk 2 ?_;refine tk 3 ?_ (hy:=fun W hSw=>by (have hc:=hSw.2.cell 6 _ rfl;go_simp;try rfl));refine tk 4 ?_;refine tk 5 ?_ (hy:=fun W hSw=>by (have hc:=hSw.1.cell 1 _ rfl;go_simp;try rfl));refine tk 6 ?_;refine al 7 fun K hK=>?_;rw[qc (by rfl)];obtain⟨w9,hrun,s1,s2⟩:=HW4.o.m.update (Maps.int_keyed underlying3) underlying199 (by unfold maxLen;omega) (Maps.keyOf_int_mk underlying3 (a:=y) (jb (by have:=HY.o;omega) (by have:=HY.o;omega))) (plainElem_int underlying3 (a:=(k:Int)) (jb om om));have HL9:Hid (lvT H w0 P mb c0 r1 c2 r3 gf n1 kf fs gb n2 kb bx hs gr ff n3 gq qu n4 lo st (k+1) w9):=HW4.o.next s2 (by rw[HNX2.o];exact s1);have PB9:blk w9 PB (h8 x y z e i r d ao m c) 116:=hS.1.kept (s2.block _ hS.1.lt HNB.o);go_simp;refine hK.out _ w9 ⟨PB9,HL9.o.p⟩ (fun hS2=>?_);clear hS hK K hS2 hrun s1 s2;refine QH kr ?_ _;go_wp2_with fail;go_roundw;case rel=>exact⟨k+1,om,by go_num,HL9.o⟩
    case measure=>simp[intOf];omega
  .have hkn:k=n2:=om;subst hkn;go_wp2_with fail;refine bN ?_
   exact⟨gf,kf,gb,kb,hs,gr,gq,rfl,HS.o⟩
end
open Go.IntKind renaming i64->J,u32->Zk
abbrev X5:=R5 × Option Addr × Nat × Nat
def x5 (t:X5):List Value:=f5 t.1 t.2.1 t.2.2.1 t.2.2.2
def c5 (bs:List X5):List Value:=bs.flatMap x5
def EF {w0 w:World} {gs room first:Nat} {L:List R5} (h:cE w0 w gs room first L):∃ bs:List X5,bs.map (·.1)=L/\∀ j (hj:j<bs.length),w.rangeAt gs ((first+j) % room*5) (x5 bs[j])/\iB w0 bs[j].2.1 bs[j].2.2.1 bs[j].2.2.2 bs[j].1.l:=by
 have key:∀ (M:List R5) (f:Nat),(∀ j (hj:j<M.length),∃ ao m c,w.rangeAt gs ((f+j) % room*5) (f5 M[j] ao m c)/\iB w0 ao m c M[j].l)->∃ bs:List X5,bs.map (·.1)=M/\∀ j (hj:j<bs.length),w.rangeAt gs ((f+j) % room*5) (x5 bs[j])/\iB w0 bs[j].2.1 bs[j].2.2.1 bs[j].2.2.2 bs[j].1.l:=by
  intro M;induction M with
  | nil=>intro f _;exact⟨[],rfl,fun j hj=>Qy hj (nN _)⟩
  | cons b M ih=>
   intro f hM;obtain⟨ao,m,c,h0⟩:=hM 0 pQ
   obtain⟨bs,hm,hs⟩:=ih (f+1) (fun j hj=>by
    have:=hM (j+1) (by simpa using hj)
    have e:f+(j+1)=f+1+j:=om
    rw[e] at this
    simpa using this)
   refine⟨(b,ao,m,c) :: bs,by simp[hm],fun j hj=>?_⟩;cases j with
   | zero=>exact h0
   | succ j=>
    have:=hs j (by simpa using hj);have e:f+(j+1)=f+1+j:=om;rw[e];exact this
 exact key L first h
def BY (bs:List X5) (k:Nat) (h:k<bs.length):c5 (bs.take (k+1))=c5 (bs.take k)++x5 bs[k]:=by
 unfold c5;rw[qg h,List.flatMap_append];simp
def AB {o:Oper} {a:Act} {K:Act->World->Prop} {Q:Exit->Act->World->Prop} {w:World} (s x:Operand)
  (ho:o.op = .call { callee:=.builtin .append,args:=#[s,x],argTypes:=#[38,38] })
  (B n:Nat) (v:Value) (xs:List Value) (hs:a.eval s=v) (hown:w.ownsRow B 67 5 v n xs) (b:Nat) (news:List Value) (hx:a.eval x = sL (sQ ⟨b,0,nn⟩) 1 1) (hl:news.length=5) (hb:w.heap[b]?=sQ (.cells news.toArray 67)) (h1:∀ u ∈ news,u.oneCell'=true) (hn:n<=100000) (hB:B<=w.heap.size)
  (h:∀ v' w',w'.ownsRow B 67 5 v' (n+1) (xs++news)->w.grownBy w' v.ownBlock->K (a.put o.dst v') w') :
  o.wp Tp a w K Q:=by
 obtain⟨i0,hi,hz0,hz1,hz2⟩:=QW info67
 obtain⟨v',w',hr,h2,h3,h4,h5⟩:=run_append_own_at (P:=Tp) w B 38 o.type 67 i0 _ 5 48 underlying38 hi hz0 hz1 hz2 rfl (by decide) v n xs hown ⟨b,0,nn⟩ 1 1 news (by rw[hl]) (by
  intro j u hj;have:=dc hb j u hj
  rw[Addr.add_lit]
  exact this) h1 (by unfold maxLen;omega) om hB
 unfold Oper.wp execOp;simp only[ho,resolve,invoke,builtin,Q7,Sem.run_pure,Result.andThen_ok,List.map_toArray,Qx,List.map_nil,hs,hx,hr];exact h v' w' h2 h3
def yW (w0 w:World) (P o gs room first:Nat) (L:List R5) (cnt ask:Nat) (hmn:min ask cnt=L.length) (y0:w.cell? ⟨P,o,nn⟩=sQ (sL (sQ ⟨gs,0,nn⟩) room room)) (y1:w.cell? ⟨P,o+1,nn⟩=sQ (I J (first:Int))) (y2:w.cell? ⟨P,o+2,nn⟩=sQ (I J (cnt:Int))) (hr:cE w0 w gs room first L) (hfi:first<room) (h1:1<=room/\room<=1000) (hL:L.length<=room) :
  Calls Tp 201 #[pT (sQ ⟨P,o,nn⟩),I J (ask:Int)] w fun e w'=>∃ (v:Value) (bs:List X5),e = rT v/\bs.map (·.1)=L/\(∀ j (hj:j<bs.length),iB w0 bs[j].2.1 bs[j].2.2.1 bs[j].2.2.2 bs[j].1.l)/\w'.ownsRow w.heap.size 67 5 v L.length (c5 bs)/\Bl w w':=by
 have hmax:max (ask:Int) 0=(ask:Int):=om;have hmin:min (ask:Int) (cnt:Int)=(L.length:Int):=om;obtain⟨bs,hm,hbs⟩:=EF hr;have HBS:Hid (∀ j (hj:j<bs.length),w.rangeAt gs ((first+j) % room*5) (x5 bs[j])/\iB w0 bs[j].2.1 bs[j].2.2.1 bs[j].2.2.2 bs[j].1.l):=hbs;have HM:Hid (bs.map (·.1)=L):=hm;have HN:Hid (L.length=bs.length):=by show _=_;rw[<- hm];simp
 have HY:Hid (∀ W,Bl w W->W.cell? ⟨P,o,nn⟩=sQ (sL (sQ ⟨gs,0,nn⟩) room room)/\W.cell? ⟨P,o+1,nn⟩=sQ (I J (first:Int))):=fun W hW=>⟨(hW.cell (by exact QC w _ y0)).trans y0,(hW.cell (by exact QC w _ y1)).trans y1⟩
 have HRR:Hid (L.length<=room/\1<=room/\room<=1000):=⟨hL,h1⟩
 clear hr hm hbs;generalize L.length=n at *;go_enter func201,ntmps201;go_wp2_with fail;clear y0 y1 y2;go_loopw [5,14] (fun out i wr=>∃ k:Nat,k<=n/\i = I J (k:Int)/\wr.ownsRow w.heap.size 67 5 out k (c5 (bs.take k))/\Bl w wr) (fun _ i _=>n-(intOf i).toNat);case atStart=>exact⟨0,nZ _,rfl,Q5 w _ 67 5,bW _ _⟩
 case round=>
  obtain⟨k,hk,rfl,hO,hB⟩:=hrel;have HO:Hid (wr.ownsRow w.heap.size 67 5 u5 k (c5 (bs.take k))):=hO;have HB:Hid (Bl w wr):=hB;clear hO hB;by_cases hlt:k<n
  .have hkl:k<bs.length:=by have:=HN.o;omega
   have hkr:k<room:=om;have HT:=BY bs k hkl;have HRG:∀ W,Bl w W->W.rangeAt gs ((first+k) % room*5) (x5 bs[k]):=fun W hW=>lW (HBS.o k hkl).1 hW (QC w _ ((HBS.o k hkl).1 0 _ rfl));obtain⟨Q,hQ⟩ : ∃ Q,(first+k) % room=Q:=⟨_,rfl⟩
   rw[hQ] at HRG;obtain⟨t,ht⟩ : ∃ t,bs[k]=t:=⟨_,rfl⟩
   rw[ht] at HT HRG;obtain⟨⟨e,i,r,d,l⟩,ao,m,c⟩:=t;have HRG:Hid (∀ W,Bl w W->W.rangeAt gs (Q*5) [bO e,I Zk (i:Int),bO r,I J d,sL ao m c]):=HRG;have HT:Hid (c5 (bs.take (k+1))=c5 (bs.take k)++[bO e,I Zk (i:Int),bO r,I J d,sL ao m c]):=HT;clear ht;have hwk:IntKind.i64.wrap ((first:Int)+(k:Int))=((first+k:Nat):Int):=by rw[QR];omega
   have hr0:¬ room=0:=om;have htm:((first+k:Nat):Int).tmod (room:Int)=(Q:Int):=by rw[<- hQ];exact (Int.ofNat_tmod _ _).symm
   have htm2:((first:Int)+(k:Int)).tmod (room:Int)=(Q:Int):=htm;have hQr:Q<room:=by rw[<- hQ];exact Qr _ om
   clear hQ;go_wp2_with fail;refine QJ (S:=fun W=>Bl w W) kr ?_;have hS:Bl w wr.drew:=HB.o.drew;have HO1:Hid (wr.drew.ownsRow w.heap.size 67 5 u5 k (c5 (bs.take k))):=HO.o.drew;change wpAnyH Tp _ _ _ _ _ _ _ wr.drew;generalize wr.drew=w1 at *;refine tk 0 ?_;refine tk 1 ?_;refine tk 2 ?_;refine tk 3 ?_;refine tk 4 ?_ (hy:=fun W hSw=>by (have hc:=(HY.o W hSw).1;go_simp;try rfl));refine tk 5 ?_;refine tk 6 ?_;refine tk 7 ?_;refine tk 8 ?_ (hy:=fun W hSw=>by (have hc:=(HY.o W hSw).2;go_simp;try rfl));refine tk 9 ?_;refine tk 10 ?_;refine tk 11 ?_;refine tk 12 ?_;refine tk 13 ?_;refine tk 14 ?_ (hy:=fun W hSw=>by (have hc:=(HY.o W hSw).1;go_simp;try rfl));refine tk 15 ?_;refine tk 16 ?_;refine tk 17 ?_;refine wU 18 (.agg [bO e,I Zk (i:Int),bO r,I J d,sL ao m c].toArray) rfl (QL (by rfl) 67 (.tmp 34) rfl gs (Q*5) rfl [bO e,I Zk (i:Int),bO r,I J d,sL ao m c] _ (fun W h=>HRG.o W h) underlying67 rfl jc) hS ?_;simp only[aZ];refine al 19 fun K hK=>?_;go_simp;have hg:=QN w1 (.cells #[bO e,I Zk (i:Int),bO r,I J d,sL ao m c] 67);have hS1:Bl w (w1.alloc (.cells #[bO e,I Zk (i:Int),bO r,I J d,sL ao m c] 67)):=hS.alloc hS.size _;have HO2:Hid ((w1.alloc (.cells #[bO e,I Zk (i:Int),bO r,I J d,sL ao m c] 67)).ownsRow w.heap.size 67 5 u5 k (c5 (bs.take k))):=QM HO1.o _;generalize (w1.alloc (.cells #[bO e,I Zk (i:Int),bO r,I J d,sL ao m c] 67))=w2 at *;refine hK.out _ w2 hS1 (fun hS2=>?_);clear hS hK K hS1;have hS:=hS2;clear hS2;refine al 20 fun K hK=>?_;rw[qc (by rfl)];refine AB (.tmp 17) (.tmp 36) rfl w.heap.size k u5 (c5 (bs.take k)) rfl HO2.o w1.heap.size [bO e,I Zk (i:Int),bO r,I J d,sL ao m c] rfl rfl hg (by simp[Value.oneCell']) om hS.size ?_;intro v' w3 ho3 hg3;have HO3:Hid (w3.ownsRow w.heap.size 67 5 v' (k+1) (c5 (bs.take (k+1)))):=by show World.ownsRow _ _ _ _ _ _ _;rw[HT.o];exact ho3
   have hS3:Bl w w3:=hS.grown hg3 hS.size (fun q hq=>(QB HO2.o q hq).1);have HB3:Hid (Bl w w3):=hS3;refine hK.out _ w3 hS3 (fun hS2=>?_);clear hS hK K hS3 hg3 ho3 hg;have hS:=hS2;clear hS2;simp only[aZ];refine tk 21 ?_;refine QH kr ?_ _;clear hS;go_wp2_with fail;go_roundw;case rel=>exact⟨k+1,om,by go_num,HO3.o,HB3.o⟩
   case measure=>simp[intOf];omega
  .have hkn:k=n:=om;subst hkn;have HF:Hid (wr.ownsRow w.heap.size 67 5 u5 k (c5 bs)):=by
    have:=HO.o;rw[qf (by have:=HN.o;omega)] at this;exact this
   go_wp2;go_ret;exact⟨u5,bs,rfl,HM.o,fun j hj=>(HBS.o j hj).2,HF.o,HB.o⟩
def wz (w0 w:World) (P o gs room first:Nat) (L:List R5) (y0:w.cell? ⟨P,o,nn⟩=sQ (sL (sQ ⟨gs,0,nn⟩) room room)) (y1:w.cell? ⟨P,o+1,nn⟩=sQ (I J (first:Int))) (y2:w.cell? ⟨P,o+2,nn⟩=sQ (I J (L.length:Int))) (hr:cE w0 w gs room first L) (hfi:first<room) (h1:1<=room/\room<=1000) (hL:L.length<=room) :
  Calls Tp 201 #[pT (sQ ⟨P,o,nn⟩),I J (L.length:Int)] w fun e w'=>∃ (v:Value) (bs:List X5),e = rT v/\bs.map (·.1)=L/\(∀ j (hj:j<bs.length),iB w0 bs[j].2.1 bs[j].2.2.1 bs[j].2.2.2 bs[j].1.l)/\w'.ownsRow w.heap.size 67 5 v L.length (c5 bs)/\Bl w w':=yW w0 w P o gs room first L L.length L.length (Nat.min_self _) y0 y1 y2 hr hfi h1 hL
def Ds {w0 w:World} {gs room first:Nat} {L:List R8} (h:cw w0 w gs room first L):∃ bs:List X8,bs.map (·.1)=L/\∀ j (hj:j<bs.length),w.rangeAt gs ((first+j) % room*8) (x8 bs[j])/\iB w0 bs[j].2.1 bs[j].2.2.1 bs[j].2.2.2 bs[j].1.l:=by
 have key:∀ (M:List R8) (f:Nat),(∀ j (hj:j<M.length),∃ ao m c,w.rangeAt gs ((f+j) % room*8) (f8 M[j] ao m c)/\iB w0 ao m c M[j].l)->∃ bs:List X8,bs.map (·.1)=M/\∀ j (hj:j<bs.length),w.rangeAt gs ((f+j) % room*8) (x8 bs[j])/\iB w0 bs[j].2.1 bs[j].2.2.1 bs[j].2.2.2 bs[j].1.l:=by
  intro M;induction M with
  | nil=>intro f _;exact⟨[],rfl,fun j hj=>Qy hj (nN _)⟩
  | cons b M ih=>
   intro f hM;obtain⟨ao,m,c,h0⟩:=hM 0 pQ
   obtain⟨bs,hm,hs⟩:=ih (f+1) (fun j hj=>by
    have:=hM (j+1) (by simpa using hj)
    have e:f+(j+1)=f+1+j:=om
    rw[e] at this
    simpa using this)
   refine⟨(b,ao,m,c) :: bs,by simp[hm],fun j hj=>?_⟩;cases j with
   | zero=>exact h0
   | succ j=>
    have:=hs j (by simpa using hj);have e:f+(j+1)=f+1+j:=om;rw[e];exact this
 exact key L first h
def BW (bs:List X8) (k:Nat) (h:k<bs.length):c8 (bs.take (k+1))=c8 (bs.take k)++x8 bs[k]:=by
 unfold c8;rw[qg h,List.flatMap_append];simp
def Ln {o:Oper} {a:Act} {K:Act->World->Prop} {Q:Exit->Act->World->Prop} {w:World} (s x:Operand)
  (ho:o.op = .call { callee:=.builtin .append,args:=#[s,x],argTypes:=#[39,39] })
  (B n:Nat) (v:Value) (xs:List Value) (hs:a.eval s=v) (hown:w.ownsRow B 175 8 v n xs) (b:Nat) (news:List Value) (hx:a.eval x = sL (sQ ⟨b,0,nn⟩) 1 1) (hl:news.length=8) (hb:w.heap[b]?=sQ (.cells news.toArray 175)) (h1:∀ u ∈ news,u.oneCell'=true) (hn:n<=100000) (hB:B<=w.heap.size)
  (h:∀ v' w',w'.ownsRow B 175 8 v' (n+1) (xs++news)->w.grownBy w' v.ownBlock->K (a.put o.dst v') w') :
  o.wp Tp a w K Q:=by
 obtain⟨i0,hi,hz0,hz1,hz2⟩:=QW info175
 obtain⟨v',w',hr,h2,h3,h4,h5⟩:=run_append_own_at (P:=Tp) w B 39 o.type 175 i0 _ 8 72 underlying39 hi hz0 hz1 hz2 rfl (by decide) v n xs hown ⟨b,0,nn⟩ 1 1 news (by rw[hl]) (by
  intro j u hj;have:=dc hb j u hj
  rw[Addr.add_lit]
  exact this) h1 (by unfold maxLen;omega) om hB
 unfold Oper.wp execOp;simp only[ho,resolve,invoke,builtin,Q7,Sem.run_pure,Result.andThen_ok,List.map_toArray,Qx,List.map_nil,hs,hx,hr];exact h v' w' h2 h3
def yU (w0 w:World) (P o gs room first:Nat) (L:List R8) (cnt ask:Nat) (hmn:min ask cnt=L.length) (y0:w.cell? ⟨P,o,nn⟩=sQ (sL (sQ ⟨gs,0,nn⟩) room room)) (y1:w.cell? ⟨P,o+1,nn⟩=sQ (I J (first:Int))) (y2:w.cell? ⟨P,o+2,nn⟩=sQ (I J (cnt:Int))) (hr:cw w0 w gs room first L) (hfi:first<room) (h1:1<=room/\room<=1000) (hL:L.length<=room) :
  Calls Tp 202 #[pT (sQ ⟨P,o,nn⟩),I J (ask:Int)] w fun e w'=>∃ (v:Value) (bs:List X8),e = rT v/\bs.map (·.1)=L/\(∀ j (hj:j<bs.length),iB w0 bs[j].2.1 bs[j].2.2.1 bs[j].2.2.2 bs[j].1.l)/\w'.ownsRow w.heap.size 175 8 v L.length (c8 bs)/\Bl w w':=by
 have hmax:max (ask:Int) 0=(ask:Int):=om;have hmin:min (ask:Int) (cnt:Int)=(L.length:Int):=om;obtain⟨bs,hm,hbs⟩:=Ds hr;have HBS:Hid (∀ j (hj:j<bs.length),w.rangeAt gs ((first+j) % room*8) (x8 bs[j])/\iB w0 bs[j].2.1 bs[j].2.2.1 bs[j].2.2.2 bs[j].1.l):=hbs;have HM:Hid (bs.map (·.1)=L):=hm;have HN:Hid (L.length=bs.length):=by show _=_;rw[<- hm];simp
 have HY:Hid (∀ W,Bl w W->W.cell? ⟨P,o,nn⟩=sQ (sL (sQ ⟨gs,0,nn⟩) room room)/\W.cell? ⟨P,o+1,nn⟩=sQ (I J (first:Int))):=fun W hW=>⟨(hW.cell (by exact QC w _ y0)).trans y0,(hW.cell (by exact QC w _ y1)).trans y1⟩
 have HRR:Hid (L.length<=room/\1<=room/\room<=1000):=⟨hL,h1⟩
 clear hr hm hbs;generalize L.length=n at *;go_enter func202,ntmps202;go_wp2_with fail;clear y0 y1 y2;go_loopw [5,14] (fun out i wr=>∃ k:Nat,k<=n/\i = I J (k:Int)/\wr.ownsRow w.heap.size 175 8 out k (c8 (bs.take k))/\Bl w wr) (fun _ i _=>n-(intOf i).toNat);case atStart=>exact⟨0,nZ _,rfl,Q5 w _ 175 8,bW _ _⟩
 case round=>
  obtain⟨k,hk,rfl,hO,hB⟩:=hrel;have HO:Hid (wr.ownsRow w.heap.size 175 8 u5 k (c8 (bs.take k))):=hO;have HB:Hid (Bl w wr):=hB;clear hO hB;by_cases hlt:k<n
  .have hkl:k<bs.length:=by have:=HN.o;omega
   have hkr:k<room:=om;have HT:=BW bs k hkl;have HRG:∀ W,Bl w W->W.rangeAt gs ((first+k) % room*8) (x8 bs[k]):=fun W hW=>lW (HBS.o k hkl).1 hW (QC w _ ((HBS.o k hkl).1 0 _ rfl));obtain⟨Q,hQ⟩ : ∃ Q,(first+k) % room=Q:=⟨_,rfl⟩
   rw[hQ] at HRG;obtain⟨t,ht⟩ : ∃ t,bs[k]=t:=⟨_,rfl⟩
   rw[ht] at HT HRG;obtain⟨⟨x,y,z,e,i,r,d,l⟩,ao,m,c⟩:=t;have HRG:Hid (∀ W,Bl w W->W.rangeAt gs (Q*8) [I J x,I J y,I J z,bO e,I Zk (i:Int),bO r,I J d,sL ao m c]):=HRG;have HT:Hid (c8 (bs.take (k+1))=c8 (bs.take k)++[I J x,I J y,I J z,bO e,I Zk (i:Int),bO r,I J d,sL ao m c]):=HT;clear ht;have hwk:IntKind.i64.wrap ((first:Int)+(k:Int))=((first+k:Nat):Int):=by rw[QR];omega
   have hr0:¬ room=0:=om;have htm:((first+k:Nat):Int).tmod (room:Int)=(Q:Int):=by rw[<- hQ];exact (Int.ofNat_tmod _ _).symm
   have htm2:((first:Int)+(k:Int)).tmod (room:Int)=(Q:Int):=htm;have hQr:Q<room:=by rw[<- hQ];exact Qr _ om
   clear hQ;go_wp2_with fail;refine QJ (S:=fun W=>Bl w W) kr ?_;have hS:Bl w wr.drew:=HB.o.drew;have HO1:Hid (wr.drew.ownsRow w.heap.size 175 8 u5 k (c8 (bs.take k))):=HO.o.drew;change wpAnyH Tp _ _ _ _ _ _ _ wr.drew;generalize wr.drew=w1 at *;refine tk 0 ?_;refine tk 1 ?_;refine tk 2 ?_;refine tk 3 ?_;refine tk 4 ?_ (hy:=fun W hSw=>by (have hc:=(HY.o W hSw).1;go_simp;try rfl));refine tk 5 ?_;refine tk 6 ?_;refine tk 7 ?_;refine tk 8 ?_ (hy:=fun W hSw=>by (have hc:=(HY.o W hSw).2;go_simp;try rfl));refine tk 9 ?_;refine tk 10 ?_;refine tk 11 ?_;refine tk 12 ?_;refine tk 13 ?_;refine tk 14 ?_ (hy:=fun W hSw=>by (have hc:=(HY.o W hSw).1;go_simp;try rfl));refine tk 15 ?_;refine tk 16 ?_;refine tk 17 ?_;refine wU 18 (.agg [I J x,I J y,I J z,bO e,I Zk (i:Int),bO r,I J d,sL ao m c].toArray) rfl (QL (by rfl) 175 (.tmp 34) rfl gs (Q*8) rfl [I J x,I J y,I J z,bO e,I Zk (i:Int),bO r,I J d,sL ao m c] _ (fun W h=>HRG.o W h) underlying175 rfl Gl) hS ?_;simp only[aZ];refine al 19 fun K hK=>?_;go_simp;have hg:=QN w1 (.cells #[I J x,I J y,I J z,bO e,I Zk (i:Int),bO r,I J d,sL ao m c] 175);have hS1:Bl w (w1.alloc (.cells #[I J x,I J y,I J z,bO e,I Zk (i:Int),bO r,I J d,sL ao m c] 175)):=hS.alloc hS.size _;have HO2:Hid ((w1.alloc (.cells #[I J x,I J y,I J z,bO e,I Zk (i:Int),bO r,I J d,sL ao m c] 175)).ownsRow w.heap.size 175 8 u5 k (c8 (bs.take k))):=QM HO1.o _;generalize (w1.alloc (.cells #[I J x,I J y,I J z,bO e,I Zk (i:Int),bO r,I J d,sL ao m c] 175))=w2 at *;refine hK.out _ w2 hS1 (fun hS2=>?_);clear hS hK K hS1;have hS:=hS2;clear hS2;refine al 20 fun K hK=>?_;rw[qc (by rfl)];refine Ln (.tmp 17) (.tmp 36) rfl w.heap.size k u5 (c8 (bs.take k)) rfl HO2.o w1.heap.size [I J x,I J y,I J z,bO e,I Zk (i:Int),bO r,I J d,sL ao m c] rfl rfl hg (by simp[Value.oneCell']) om hS.size ?_;intro v' w3 ho3 hg3;have HO3:Hid (w3.ownsRow w.heap.size 175 8 v' (k+1) (c8 (bs.take (k+1)))):=by show World.ownsRow _ _ _ _ _ _ _;rw[HT.o];exact ho3
   have hS3:Bl w w3:=hS.grown hg3 hS.size (fun q hq=>(QB HO2.o q hq).1);have HB3:Hid (Bl w w3):=hS3;refine hK.out _ w3 hS3 (fun hS2=>?_);clear hS hK K hS3 hg3 ho3 hg;have hS:=hS2;clear hS2;simp only[aZ];refine tk 21 ?_;refine QH kr ?_ _;clear hS;go_wp2_with fail;go_roundw;case rel=>exact⟨k+1,om,by go_num,HO3.o,HB3.o⟩
   case measure=>simp[intOf];omega
  .have hkn:k=n:=om;subst hkn;have HF:Hid (wr.ownsRow w.heap.size 175 8 u5 k (c8 bs)):=by
    have:=HO.o;rw[qf (by have:=HN.o;omega)] at this;exact this
   go_wp2;go_ret;exact⟨u5,bs,rfl,HM.o,fun j hj=>(HBS.o j hj).2,HF.o,HB.o⟩
def wy (w0 w:World) (P o gs room first:Nat) (L:List R8) (y0:w.cell? ⟨P,o,nn⟩=sQ (sL (sQ ⟨gs,0,nn⟩) room room)) (y1:w.cell? ⟨P,o+1,nn⟩=sQ (I J (first:Int))) (y2:w.cell? ⟨P,o+2,nn⟩=sQ (I J (L.length:Int))) (hr:cw w0 w gs room first L) (hfi:first<room) (h1:1<=room/\room<=1000) (hL:L.length<=room) :
  Calls Tp 202 #[pT (sQ ⟨P,o,nn⟩),I J (L.length:Int)] w fun e w'=>∃ (v:Value) (bs:List X8),e = rT v/\bs.map (·.1)=L/\(∀ j (hj:j<bs.length),iB w0 bs[j].2.1 bs[j].2.2.1 bs[j].2.2.2 bs[j].1.l)/\w'.ownsRow w.heap.size 175 8 v L.length (c8 bs)/\Bl w w':=yU w0 w P o gs room first L L.length L.length (Nat.min_self _) y0 y1 y2 hr hfi h1 hL
def vY (B:Nat) (a:Option Addr) (n:Nat) (W:World):Prop:=(a=nn/\n=0)\/∃ b,a=sQ ⟨b,0,nn⟩/\B<=b/\b<W.heap.size/\az W b n
def tZ (W:World) (a:Option Addr) (n cap:Nat) (l:List Nat) (h:iB W a n cap l) (hn:n<=1048576) :
  Calls Tp 228 #[sL a n cap] W fun e w'=>∃ a' c',e = rT (sL a' n c')/\vY W.heap.size a' n w'/\(∀ W',(∀ b,a'=sQ ⟨b,0,nn⟩->W'.heap[b]?=w'.heap[b]?)->iB W' a' n c' l)/\Bl W w':=by
 have hlen:=h.len;cases a with
 | none=>
  have hl:l=[]:=by
   rcases Classical.em (l=[]) with e|e
   .exact e
   .obtain⟨g,off,e1,_⟩:=h.cells e;cases e1
  subst hl;have hn0:n=0:=hlen;subst hn0;refine (Tryz.bytes_Clone_nil 0 cap W).mono ?_;rintro e w' ⟨rfl,rfl⟩;exact⟨nn,0,rfl,qr ⟨rfl,rfl⟩,fun W' _=>⟨rfl,nR _,fun x hx=>(by cases hx),fun hne=>Qy rfl hne⟩,bW _ _⟩
 | some ad=>
  have hc:∀ i,i<n->W.cell? (ad.add i)=sQ (I .u8 ((l.map (fun x:Nat=>(x:Int))).getD i 0)):=by
   intro i hi;obtain⟨g,off,e1,hc⟩:=h.cells (by intro e;subst e;rw[hlen] at hi;cases hi);cases e1;have hil:i<l.length:=om;rw[Addr.add_lit];simp[List.getD,hc i hil,qy hil]
  refine (Tryz.bytes_Clone_at ad n cap (l.map (fun x:Nat=>(x:Int))) W (by simp[hlen]) om hc).mono ?_;rintro e w' ⟨v',rfl,ho,hv,hbw⟩;rcases ho.2 with⟨e,_⟩|⟨g',cap',cur,hv',hb,hg,hcp,hmx,hsz,htk⟩
  .exact Qy e hv
  .have hB:∀ W':World,(∀ b,(sQ ⟨g',0,nn⟩ : Option Addr)=sQ ⟨b,0,nn⟩->W'.heap[b]?=w'.heap[b]?)->iB W' (sQ ⟨g',0,nn⟩) n cap' l:=fun W' hW=>⟨hlen,hcp,h.small,fun hne=>⟨g',0,rfl,fun j hj=>by
    have e:W'.heap[g']?=sQ (.cells cur 5 (0,0)):=(hW g' rfl).trans hg
    have hj':j<n*1:=om
    have e2:cur[j]?=sQ (I .u8 (l[j]:Int)):=by
     rw[<- qS,<- qT hj',htk]
     simp[hj]
    rw[qi]
    simp[World.cell?,e,e2]⟩⟩
   refine⟨sQ ⟨g',0,nn⟩,cap',by rw[hv'],qx ⟨g',rfl,hb,aJ hg,fun t ht=>⟨?_,?_⟩⟩,hB,hbw⟩
   .obtain⟨g2,o2,e2,hc2⟩:=(hB w' (fun _ _=>rfl)).cells (by intro e;subst e;simp at hlen;omega);cases e2;have:=hc2 t om;rw[qi] at this;exact⟨_,this⟩
   .subst hv';exact QU ho t
def g8 (W:World) (g o:Nat) (a:Option Addr) (n cap:Nat) (l:List Nat) (y:W.cell? ⟨g,o+4,nn⟩=sQ (sL a n cap)) (hf:W.frozen? ⟨g,o+4,nn⟩=false) (h:iB W a n cap l) (hn:n<=1048576) :
  Calls Tp 203 #[pT (sQ ⟨g,o,nn⟩)] W fun e w'=>∃ a' c' w1,e = rT (.tuple #[])/\w'=w1.setCell ⟨g,o+4,nn⟩ (sL a' n c')/\vY W.heap.size a' n w1/\(∀ W',(∀ b,a'=sQ ⟨b,0,nn⟩->W'.heap[b]?=w1.heap[b]?)->iB W' a' n c' l)/\Bl W w1:=by
 have HC:Hid (Calls Tp 228 #[sL a n cap] W fun e w'=>∃ a' c',e = rT (sL a' n c')/\vY W.heap.size a' n w'/\(∀ W',(∀ b,a'=sQ ⟨b,0,nn⟩->W'.heap[b]?=w'.heap[b]?)->iB W' a' n c' l)/\Bl W w'):=tZ W a n cap l h hn;have hg:g<W.heap.size:=QC W _ y;clear h;go_enter func203,ntmps203
 go_wp2_with (go_at_call 228;refine (Calls.mono HC.o) ?_;rintro e w1 ⟨a',c',rfl,q1,q2,b1⟩;have HQ:Hid (vY W.heap.size a' n w1/\(∀ W',(∀ b,a'=sQ ⟨b,0,nn⟩->W'.heap[b]?=w1.heap[b]?)->iB W' a' n c' l)/\Bl W w1):=⟨q1,q2,b1⟩;have y1:w1.cell? ⟨g,o+4,nn⟩=sQ (sL a n cap):=(b1.cell (by exact hg)).trans y;have f1:w1.frozen? ⟨g,o+4,nn⟩=false:=(World.frozen?_of_block (b1.block g hg)).trans hf;clear q1 q2 b1 y hf)
 refine bN ?_
 exact⟨a',c',w1,rfl,rfl,HQ.o.1,HQ.o.2.1,HQ.o.2.2⟩
section
variable {b0 W W' w1:World} {g n U k:Nat} {hs:Nat->Hd} {bx:List R5} {fs:List R3}
structure dr3 (b0:World) (g n:Nat) (fs:List R3) (W:World):Prop where
 len:n=fs.length
 row:az W g (n*3)
 at_:∀ j (h:j<fs.length),at3 W g (j*3) fs[j]
 lo:b0.heap.size<=g
 hi:g<W.heap.size
 m:n<=1048576
def dr3.same (h:dr3 b0 g n fs W) (he:W'.heap[g]?=W.heap[g]?) (hz:W.heap.size<=W'.heap.size):dr3 b0 g n fs W':=
 ⟨h.len,h.row.up he,fun j hj=>(h.at_ j hj).up he,h.lo,nL h.hi hz,h.m⟩
def dr3.below (h:dr3 b0 g n fs W) (hb:Bl W W'):dr3 b0 g n fs W':=h.same (hb.block _ h.hi) hb.size
def xn (w:World) (b0:World) (g n cap:Nat) (bs:List R3) (h:bj w (sQ ⟨g,0,nn⟩) n cap bs) (hn:n<=1048576) (hb0:b0.heap.size<=w.heap.size) :
  Calls Tp 177 #[sL (sQ ⟨g,0,nn⟩) n cap] w fun e w'=>∃ g' cap',e = rT (sL (sQ ⟨g',0,nn⟩) n cap')/\w.heap.size<=g'/\n<=cap'/\dr3 b0 g' n bs w'/\Bl w w':=by
 refine (nr w g n cap bs h hn).mono ?_;rintro e w' ⟨v',rfl,ho,hv,hbw⟩;rcases cS ho with⟨e,_⟩|⟨g',cap',rfl,hb,hlt,hcp,hrf,hrg⟩
 .exact Qy e hv
 .refine⟨g',cap',rfl,hb,hcp,⟨h.len,hrf,fun j hj=>?_,om,hlt,hn⟩,hbw⟩;obtain⟨y0,y1,y2⟩:=vj bs j hj;have q:=fun t u hu=>hrg t u hu;simp only[qi] at q;exact⟨q _ _ y0,q _ _ y1,q _ _ y2⟩
def Fq (bs:List X5):∀ j (h:j<bs.length) t,t<5->(c5 bs)[j*5+t]?=(x5 bs[j])[t]?:=by
 induction bs with
 | nil=>intro j h;exact Qy h (nN _)
 | cons b bs ih=>
  intro j h t ht;cases j with
  | zero=>
   simp only[c5,qI,Nat.zero_mul,qi];rw[qZ (by simpa[x5,f5] using ht)];rfl
  | succ j=>
   have e:(j+1)*5+t=5+(j*5+t):=om;rw[e];simp only[c5,qI];rw[qY (by simp[x5,f5])];have:=ih j (by simpa using h) t ht;simp only[c5] at this;simpa[x5,f5] using this
def dr8.step {bx:List R8} (h:dr8 b0 U g n bx hs k W) (hk:k<bx.length) (hU:U<=W.heap.size) (hgU:g<U) (a':Option Addr) (c':Nat) (ho:vY W.heap.size a' (hs k).2.1 w1) (hi:∀ W',(∀ b,a'=sQ ⟨b,0,nn⟩->W'.heap[b]?=w1.heap[b]?)->iB W' a' (hs k).2.1 c' bx[k].l) (hb:Bl W w1):∃ hs',dr8 b0 U g n bx hs' (k+1) (w1.setCell ⟨g,k*8+7,nn⟩ (sL a' (hs k).2.1 c')):=by
 have h1:=h.below hb;have hln:=h.len;have oth:∀ x,x≠g->(w1.setCell ⟨g,k*8+7,nn⟩ (sL a' (hs k).2.1 c')).heap[x]?=w1.heap[x]?:=fun x hx=>QA w1 ⟨g,k*8+7,nn⟩ x _ hx;have hsz:(w1.setCell ⟨g,k*8+7,nn⟩ (sL a' (hs k).2.1 c')).heap.size=w1.heap.size:=pQ;have hbelow:Bl b0 (w1.setCell ⟨g,k*8+7,nn⟩ (sL a' (hs k).2.1 c')):=h1.bel.setCell (by exact h1.lo) _;refine⟨fun j=>if j=k then (a',(hs k).2.1,c') else hs j,h.len,h1.row.setCell _ _,fun j hj=>?_,fun j hj hkj=>?_,fun j hj hkj=>?_,?_,h.lo,by rw[hsz];exact h1.hi,hbelow,h.sm⟩
 .intro t u hu;have ht:t<8:=by have:=(List.getElem?_eq_some_iff.mp hu).1;simpa[x8] using this
  by_cases e:j=k
  .subst e;rw[qc rfl] at hu;by_cases e7:t=7
   .subst e7;have e8:u = sL a' (hs j).2.1 c':=by simpa[x8] using hu.symm
    rw[e8];exact QS _ _ _ (h1.rng j hj 7 _ rfl)
   .rw[QG _ _ _ _ (by intro hh;simp at hh <;> omega)];refine h1.rng j hj t u ?_;rw[<- hu];have:t=0\/t=1\/t=2\/t=3\/t=4\/t=5\/t=6:=om;rcases this with rfl | rfl | rfl | rfl | rfl | rfl | rfl <;> rfl
  .rw[qa e] at hu;rw[QG _ _ _ _ (by intro hh;simp at hh <;> omega)];exact h1.rng j hj t u hu
 .rw[qa om];exact h.old j hj om
 .by_cases e:j=k
  .subst e;rw[qc rfl];have hag:∀ b,a'=sQ ⟨b,0,nn⟩->b≠g:=by
    intro b hb';rcases ho with⟨e,_⟩|⟨b2,e,h2,_⟩
    .rw[hb'] at e;cases e
    .rw[hb'] at e;cases e;omega
   refine⟨hi _ (fun b hb'=>oth b (hag b hb')),?_⟩;rcases ho with⟨e1,e2⟩|⟨b,e1,e2,e3,e4⟩
   .exact qr ⟨e1,e2⟩
   .exact qx ⟨b,e1,om,by rw[hsz];exact e3,e4.up (oth b (hag b e1))⟩
  .rw[qa e];have hjk:j<k:=om;obtain⟨q1,q2⟩:=h1.new j hj hjk;rcases q2 with⟨e1,e2⟩|⟨b,e1,e2,e3,e4⟩
   .refine⟨⟨q1.len,q1.cap,q1.small,fun hne=>?_⟩,qr ⟨e1,e2⟩⟩;exact Qy (List.length_pos_iff.2 hne) (by have:=q1.len;omega)
   .have hbg:b≠g:=om;rw[e1] at q1 ⊢;exact⟨q1.other (oth b hbg),qx ⟨b,rfl,e2,by rw[hsz];exact e3,e4.up (oth b hbg)⟩⟩
 .intro i j hij hjk b hb';have hik:i<k:=om;simp only[qa (show i≠k by omega)] at hb';by_cases e:j=k
  .subst e;simp only[if_true];intro hb2;rcases ho with⟨e1,_⟩|⟨b2,e1,e2,_⟩
   .rw[hb2] at e1;cases e1
   .rw[hb2] at e1;cases e1;rcases (h.new i om hik).2 with⟨e3,_⟩|⟨b3,e3,_,e5,_⟩
    .rw[hb'] at e3;cases e3
    .rw[hb'] at e3;cases e3;omega
  .simp only[qa e];exact h.dst i j hij om b hb'
def dr8.sh {bx:List R8} (h:dr8 b0 U g n bx hs n W) (hgU:g<U):sh8 W g n hs/\(∀ j,j<n->∀ b,(hs j).1=sQ ⟨b,0,nn⟩->U<=b/\b<W.heap.size):=by
 have hln:=h.len;refine⟨⟨h.row,fun j hj=>⟨(h.at_ j om).cs,?_⟩⟩,?_⟩
 .have q:=h.new j om hj;have q1:=q.1.len;have q2:=h.sm j om;refine⟨om,q.1.cap,?_⟩;rcases q.2 with e|⟨b,e1,e2,e3,e4⟩
  .exact qr e
  .exact qx ⟨b,e1,om,e4⟩
 .intro j hj b hb;rcases (h.new j om hj).2 with⟨e,_⟩|⟨b2,e1,e2,e3,e4⟩
  .rw[hb] at e;cases e
  .rw[hb] at e1;cases e1;exact⟨e2,e3⟩
structure dr5 (b0:World) (U g n:Nat) (bx:List R5) (hs:Nat->Hd) (k:Nat) (W:World):Prop where
 len:n=bx.length
 row:az W g (n*5)
 rng:∀ j (h:j<bx.length),W.rangeAt g (j*5) (x5 (bx[j],hs j))
 old:∀ j (h:j<bx.length),k<=j->iB b0 (hs j).1 (hs j).2.1 (hs j).2.2 bx[j].l
 new:∀ j (h:j<bx.length),j<k->iB W (hs j).1 (hs j).2.1 (hs j).2.2 bx[j].l/\(((hs j).1=nn/\(hs j).2.1=0)\/∃ b,(hs j).1=sQ ⟨b,0,nn⟩/\U<=b/\b<W.heap.size/\az W b (hs j).2.1)
 dst:dst hs k
 lo:b0.heap.size<=g
 hi:g<W.heap.size
 bel:Bl b0 W
 sm:∀ j (h:j<bx.length),bx[j].l.length<=1048576
def dr5.same (h:dr5 b0 U g n bx hs k W) (he:∀ x,x=g\/U<=x->x<W.heap.size->W'.heap[x]?=W.heap[x]?) (hz:W.heap.size<=W'.heap.size) (hb:Bl b0 W'):dr5 b0 U g n bx hs k W':=
 ⟨h.len,h.row.up (he g (qr rfl) h.hi),fun j hj=>(rangeAt.up (h.rng j hj) (he g (qr rfl) h.hi)),h.old,fun j hj hk=>by
  obtain⟨h1,h2⟩:=h.new j hj hk
  rcases h2 with⟨e1,e2⟩|⟨b,e1,e2,e3,e4⟩
  .refine⟨⟨h1.len,h1.cap,h1.small,fun hne=>?_⟩,qr ⟨e1,e2⟩⟩
   exact Qy (List.length_pos_iff.2 hne) (by have:=h1.len;omega)
  .rw[e1] at h1 ⊢
   exact⟨h1.other (he b (qx e2) e3),qx ⟨b,rfl,e2,nL e3 hz,e4.up (he b (qx e2) e3)⟩⟩,h.dst,h.lo,nL h.hi hz,hb,h.sm⟩
def dr5.below (h:dr5 b0 U g n bx hs k W) (hb:Bl W W'):dr5 b0 U g n bx hs k W':=
 h.same (fun x _ hx=>hb.block x hx) hb.size (h.bel.trans (hb.mono h.bel.size))
def dr5.start {L:List R5} (bs:List X5) (hm:bs.map (·.1)=L) (hby:∀ j (hj:j<bs.length),iB b0 bs[j].2.1 bs[j].2.2.1 bs[j].2.2.2 bs[j].1.l) (hn:n=L.length) (hr:az W g (n*5)) (hg:W.rangeAt g 0 (c5 bs)) (hlo:b0.heap.size<=g) (hhi:g<W.heap.size) (hb:Bl b0 W) (hsm:∀ j (h:j<L.length),L[j].l.length<=1048576):dr5 b0 U g n L (fun j=>(bs.getD j (⟨false,0,false,0,[]⟩,nn,0,0)).2) 0 W:=by
 subst hm;have hl:(bs.map (·.1)).length=bs.length:=pQ;refine⟨hn,hr,fun j hj=>?_,fun j hj _=>?_,fun j hj hk=>Qy hk (nN _),fun i j _ hj=>Qy hj (nN _),hlo,hhi,hb,hsm⟩
 .have hj':j<bs.length:=om;have e:((bs.map (·.1))[j],(bs.getD j (⟨false,0,false,0,[]⟩,nn,0,0)).2)=bs[j]:=by simp[List.getD,hj']
  rw[e];intro t u hu;have ht:t<5:=by have:=(List.getElem?_eq_some_iff.mp hu).1;simpa[x5,f5] using this
  rw[<- Fq bs j hj' t ht] at hu;have:=hg _ _ hu;rw[qi] at this;exact this
 .have hj':j<bs.length:=om;have:=hby j hj';simpa[List.getD,hj'] using this
def dr5.at_ (h:dr5 b0 U g n bx hs k W) (j:Nat) (hj:j<bx.length):at5 W g (j*5) bx[j] (hs j).1 (hs j).2.1 (hs j).2.2:=by
 have hr:=h.rng j hj;refine⟨hr 0 _ rfl,hr 1 _ rfl,hr 2 _ rfl,hr 3 _ rfl,hr 4 _ rfl,?_⟩;by_cases hk:j<k
 .exact (h.new j hj hk).1
 .exact (h.old j hj om).below h.bel
def dr5.is {cap:Nat} (h:dr5 b0 U g n bx hs k W) (hc:n<=cap):cl W (sQ ⟨g,0,nn⟩) n cap bx:=
 ⟨h.len,hc,fun _=>⟨g,0,rfl,fun j hj=>⟨_,_,_,by rw[qi];exact h.at_ j hj⟩⟩⟩
def dr5.step (h:dr5 b0 U g n bx hs k W) (hk:k<bx.length) (hU:U<=W.heap.size) (hgU:g<U) (a':Option Addr) (c':Nat) (ho:vY W.heap.size a' (hs k).2.1 w1) (hi:∀ W',(∀ b,a'=sQ ⟨b,0,nn⟩->W'.heap[b]?=w1.heap[b]?)->iB W' a' (hs k).2.1 c' bx[k].l) (hb:Bl W w1):∃ hs',dr5 b0 U g n bx hs' (k+1) (w1.setCell ⟨g,k*5+4,nn⟩ (sL a' (hs k).2.1 c')):=by
 have h1:=h.below hb;have hln:=h.len;have oth:∀ x,x≠g->(w1.setCell ⟨g,k*5+4,nn⟩ (sL a' (hs k).2.1 c')).heap[x]?=w1.heap[x]?:=fun x hx=>QA w1 ⟨g,k*5+4,nn⟩ x _ hx;have hsz:(w1.setCell ⟨g,k*5+4,nn⟩ (sL a' (hs k).2.1 c')).heap.size=w1.heap.size:=pQ;have hbelow:Bl b0 (w1.setCell ⟨g,k*5+4,nn⟩ (sL a' (hs k).2.1 c')):=h1.bel.setCell (by exact h1.lo) _;refine⟨fun j=>if j=k then (a',(hs k).2.1,c') else hs j,h.len,h1.row.setCell _ _,fun j hj=>?_,fun j hj hkj=>?_,fun j hj hkj=>?_,?_,h.lo,by rw[hsz];exact h1.hi,hbelow,h.sm⟩
 .intro t u hu;have ht:t<5:=by have:=(List.getElem?_eq_some_iff.mp hu).1;simpa[x5,f5] using this
  by_cases e:j=k
  .subst e;rw[qc rfl] at hu;by_cases e7:t=4
   .subst e7;have e8:u = sL a' (hs j).2.1 c':=by simpa[x5,f5] using hu.symm
    rw[e8];exact QS _ _ _ (h1.rng j hj 4 _ rfl)
   .rw[QG _ _ _ _ (by intro hh;simp at hh <;> omega)];refine h1.rng j hj t u ?_;rw[<- hu];have:t=0\/t=1\/t=2\/t=3:=om;rcases this with rfl | rfl | rfl | rfl <;> rfl
  .rw[qa e] at hu;rw[QG _ _ _ _ (by intro hh;simp at hh <;> omega)];exact h1.rng j hj t u hu
 .rw[qa om];exact h.old j hj om
 .by_cases e:j=k
  .subst e;rw[qc rfl];have hag:∀ b,a'=sQ ⟨b,0,nn⟩->b≠g:=by
    intro b hb';rcases ho with⟨e,_⟩|⟨b2,e,h2,_⟩
    .rw[hb'] at e;cases e
    .rw[hb'] at e;cases e;omega
   refine⟨hi _ (fun b hb'=>oth b (hag b hb')),?_⟩;rcases ho with⟨e1,e2⟩|⟨b,e1,e2,e3,e4⟩
   .exact qr ⟨e1,e2⟩
   .exact qx ⟨b,e1,om,by rw[hsz];exact e3,e4.up (oth b (hag b e1))⟩
  .rw[qa e];have hjk:j<k:=om;obtain⟨q1,q2⟩:=h1.new j hj hjk;rcases q2 with⟨e1,e2⟩|⟨b,e1,e2,e3,e4⟩
   .refine⟨⟨q1.len,q1.cap,q1.small,fun hne=>?_⟩,qr ⟨e1,e2⟩⟩;exact Qy (List.length_pos_iff.2 hne) (by have:=q1.len;omega)
   .have hbg:b≠g:=om;rw[e1] at q1 ⊢;exact⟨q1.other (oth b hbg),qx ⟨b,rfl,e2,by rw[hsz];exact e3,e4.up (oth b hbg)⟩⟩
 .intro i j hij hjk b hb';have hik:i<k:=om;simp only[qa (show i≠k by omega)] at hb';by_cases e:j=k
  .subst e;simp only[if_true];intro hb2;rcases ho with⟨e1,_⟩|⟨b2,e1,e2,_⟩
   .rw[hb2] at e1;cases e1
   .rw[hb2] at e1;cases e1;rcases (h.new i om hik).2 with⟨e3,_⟩|⟨b3,e3,_,e5,_⟩
    .rw[hb'] at e3;cases e3
    .rw[hb'] at e3;cases e3;omega
  .simp only[qa e];exact h.dst i j hij om b hb'
def dr5.sh (h:dr5 b0 U g n bx hs n W) (hgU:g<U):sh5 W g n hs/\(∀ j,j<n->∀ b,(hs j).1=sQ ⟨b,0,nn⟩->U<=b/\b<W.heap.size):=by
 have hln:=h.len;refine⟨⟨h.row,fun j hj=>⟨(h.at_ j om).cs,?_⟩⟩,?_⟩
 .have q:=h.new j om hj;have q1:=q.1.len;have q2:=h.sm j om;refine⟨om,q.1.cap,?_⟩;rcases q.2 with e|⟨b,e1,e2,e3,e4⟩
  .exact qr e
  .exact qx ⟨b,e1,om,e4⟩
 .intro j hj b hb;rcases (h.new j om hj).2 with⟨e,_⟩|⟨b2,e1,e2,e3,e4⟩
  .rw[hb] at e;cases e
  .rw[hb] at e1;cases e1;exact⟨e2,e3⟩
end
def nY (n:Nat) (W:World):(Instr.makeMap 199 (sQ (I J (n:Int)))).run Tp W = .ok (.map (sQ W.heap.size)) (W.alloc (.map #[] 0)):=by
 simp[Instr.makeMap,go_sem]
def oa (H:Type) (w:World) (c0 c2:Int) (r1 r3:Nat) (fs:List R3) (bx:List R8) (ff:List R5) (qu:List R8) (lo st:Int) (g1 n1 k1 g2 o2 n2 k2:Nat) (a3:Option Addr) (n3 k3:Nat) (a4:Option Addr) (n4 k4:Nat) (h1:bj w (sQ ⟨g1,0,nn⟩) n1 k1 fs) (h2:aM w (sQ ⟨g2,o2,nn⟩) n2 k2 bx) (h3:cl w a3 n3 k3 ff) (h4:aM w a4 n4 k4 qu) (m1:n1<=1048576) (m2:n2<=8) (hc1:1<=r1/\r1<=1000/\n3<=r1) (hc3:1<=r3/\r3<=1000/\n4<=r3) (hok:dw st bx) (hsm:∀ j (h:j<bx.length),bx[j].l.length<=1048576) :
  Calls Tp 84 #[aG #[I J c0,I J (r1:Int),I J c2,I J (r3:Int),sL (sQ ⟨g1,0,nn⟩) n1 k1,sL (sQ ⟨g2,o2,nn⟩) n2 k2,sL a3 n3 k3,sL a4 n4 k4,I J lo,I J st]] w fun o w'=>∃ P mb gf kf gb kb hs gr gq,o = rT (pT (sQ ⟨P,0,nn⟩))/\lvS H w P mb [I J c0,I J (r1:Int),I J c2,I J (r3:Int),sL (sQ ⟨gf,0,nn⟩) n1 kf,sL (sQ ⟨gb,0,nn⟩) n2 kb,.map (sQ mb),sL (sQ ⟨gr,0,nn⟩) r1 r1,I J 0,I J (n3:Int),sL (sQ ⟨gq,0,nn⟩) r3 r3,I J 0,I J (n4:Int),I J lo,I J st] gf n1 kf fs gb n2 kb bx hs gr r1 ff gq r3 qu n2 w':=by
 have HSU:Hid (∀ (w1:World) (P mb:Nat) (hb0:Bl w w1) (hP:blk w1 P [I J 0,I J 0,I J 0,I J 0,sL nn 0 0,sL nn 0 0,.map (sQ mb),sL nn 0 0,I J 0,I J 0,sL nn 0 0,I J 0,I J 0,I J 0,I J 0] 205) (hm:w1.heap[mb]?=sQ (.map #[] 0)) (hP0:w.heap.size<=P) (hmb0:w.heap.size<=mb) (hne:mb≠P),Calls Tp 139 #[pT (sQ ⟨P,0,nn⟩),aG #[I J c0,I J (r1:Int),I J c2,I J (r3:Int),sL (sQ ⟨g1,0,nn⟩) n1 k1,sL (sQ ⟨g2,o2,nn⟩) n2 k2,sL a3 n3 k3,sL a4 n4 k4,I J lo,I J st]] w1 fun o w'=>∃ gf kf gb kb hs gr gq,o = rT (.tuple #[])/\lvS H w P mb [I J c0,I J (r1:Int),I J c2,I J (r3:Int),sL (sQ ⟨gf,0,nn⟩) n1 kf,sL (sQ ⟨gb,0,nn⟩) n2 kb,.map (sQ mb),sL (sQ ⟨gr,0,nn⟩) r1 r1,I J 0,I J (n3:Int),sL (sQ ⟨gq,0,nn⟩) r3 r3,I J 0,I J (n4:Int),I J lo,I J st] gf n1 kf fs gb n2 kb bx hs gr r1 ff gq r3 qu n2 w'):=fun w1 P mb hb0 hP hm hP0 hmb0 hne=>vR H w w1 P mb c0 c2 r1 r3 fs bx ff qu lo st g1 n1 k1 g2 o2 n2 k2 a3 n3 k3 a4 n4 k4 h1 h2 h3 h4 m1 m2 hc1 hc3 hok hsm hmb0 hb0 hP hm hP0 hne;have HPH:Hid (blk (w.alloc (.cells #[I J c0,I J (r1:Int),I J c2,I J (r3:Int),sL (sQ ⟨g1,0,nn⟩) n1 k1,sL (sQ ⟨g2,o2,nn⟩) n2 k2,sL a3 n3 k3,sL a4 n4 k4,I J lo,I J st] 41)) w.heap.size [I J c0,I J (r1:Int),I J c2,I J (r3:Int),sL (sQ ⟨g1,0,nn⟩) n1 k1,sL (sQ ⟨g2,o2,nn⟩) n2 k2,sL a3 n3 k3,sL a4 n4 k4,I J lo,I J st] 41/\Bl w (w.alloc (.cells #[I J c0,I J (r1:Int),I J c2,I J (r3:Int),sL (sQ ⟨g1,0,nn⟩) n1 k1,sL (sQ ⟨g2,o2,nn⟩) n2 k2,sL a3 n3 k3,sL a4 n4 k4,I J lo,I J st] 41))):=⟨blk.new w _ 41,Zw⟩
 have y5:=HPH.o.1.cell 5 _ rfl;clear h1 h2 h3 h4 m1 hc1 hc3 hok hsm;have HM2:Hid (((w.alloc (.cells #[I J c0,I J (r1:Int),I J c2,I J (r3:Int),sL (sQ ⟨g1,0,nn⟩) n1 k1,sL (sQ ⟨g2,o2,nn⟩) n2 k2,sL a3 n3 k3,sL a4 n4 k4,I J lo,I J st] 41)).alloc (.map #[] 0)).heap[w.heap.size+1]?=sQ (.map #[] 0)):=by
  have:=QN (w.alloc (.cells #[I J c0,I J (r1:Int),I J c2,I J (r3:Int),sL (sQ ⟨g1,0,nn⟩) n1 k1,sL (sQ ⟨g2,o2,nn⟩) n2 k2,sL a3 n3 k3,sL a4 n4 k4,I J lo,I J st] 41)) (.map #[] 0);have e:(w.alloc (.cells #[I J c0,I J (r1:Int),I J c2,I J (r3:Int),sL (sQ ⟨g1,0,nn⟩) n1 k1,sL (sQ ⟨g2,o2,nn⟩) n2 k2,sL a3 n3 k3,sL a4 n4 k4,I J lo,I J st] 41)).heap.size=w.heap.size+1:=pQ;rw[e] at this;exact this
 have HM3:Hid ((((w.alloc (.cells #[I J c0,I J (r1:Int),I J c2,I J (r3:Int),sL (sQ ⟨g1,0,nn⟩) n1 k1,sL (sQ ⟨g2,o2,nn⟩) n2 k2,sL a3 n3 k3,sL a4 n4 k4,I J lo,I J st] 41)).alloc (.map #[] 0)).alloc (.cells #[I J 0,I J 0,I J 0,I J 0,sL nn 0 0,sL nn 0 0,.map (sQ (w.heap.size+1)),sL nn 0 0,I J 0,I J 0,sL nn 0 0,I J 0,I J 0,I J 0,I J 0] 205)).heap[w.heap.size+1]?=sQ (.map #[] 0)):=(Below.heap_alloc _ _ _ (aJ HM2.o)).trans HM2.o;have HP3:Hid (blk (((w.alloc (.cells #[I J c0,I J (r1:Int),I J c2,I J (r3:Int),sL (sQ ⟨g1,0,nn⟩) n1 k1,sL (sQ ⟨g2,o2,nn⟩) n2 k2,sL a3 n3 k3,sL a4 n4 k4,I J lo,I J st] 41)).alloc (.map #[] 0)).alloc (.cells #[I J 0,I J 0,I J 0,I J 0,sL nn 0 0,sL nn 0 0,.map (sQ (w.heap.size+1)),sL nn 0 0,I J 0,I J 0,sL nn 0 0,I J 0,I J 0,I J 0,I J 0] 205)) (w.heap.size+1+1) [I J 0,I J 0,I J 0,I J 0,sL nn 0 0,sL nn 0 0,.map (sQ (w.heap.size+1)),sL nn 0 0,I J 0,I J 0,sL nn 0 0,I J 0,I J 0,I J 0,I J 0] 205):=by
  have:=blk.new ((w.alloc (.cells #[I J c0,I J (r1:Int),I J c2,I J (r3:Int),sL (sQ ⟨g1,0,nn⟩) n1 k1,sL (sQ ⟨g2,o2,nn⟩) n2 k2,sL a3 n3 k3,sL a4 n4 k4,I J lo,I J st] 41)).alloc (.map #[] 0)) [I J 0,I J 0,I J 0,I J 0,sL nn 0 0,sL nn 0 0,.map (sQ (w.heap.size+1)),sL nn 0 0,I J 0,I J 0,sL nn 0 0,I J 0,I J 0,I J 0,I J 0] 205;have e:((w.alloc (.cells #[I J c0,I J (r1:Int),I J c2,I J (r3:Int),sL (sQ ⟨g1,0,nn⟩) n1 k1,sL (sQ ⟨g2,o2,nn⟩) n2 k2,sL a3 n3 k3,sL a4 n4 k4,I J lo,I J st] 41)).alloc (.map #[] 0)).heap.size=w.heap.size+1+1:=pQ;rw[e] at this;exact this
 have HB3:Hid (Bl w (((w.alloc (.cells #[I J c0,I J (r1:Int),I J c2,I J (r3:Int),sL (sQ ⟨g1,0,nn⟩) n1 k1,sL (sQ ⟨g2,o2,nn⟩) n2 k2,sL a3 n3 k3,sL a4 n4 k4,I J lo,I J st] 41)).alloc (.map #[] 0)).alloc (.cells #[I J 0,I J 0,I J 0,I J 0,sL nn 0 0,sL nn 0 0,.map (sQ (w.heap.size+1)),sL nn 0 0,I J 0,I J 0,sL nn 0 0,I J 0,I J 0,I J 0,I J 0] 205))):=((HPH.o.2.alloc pQ _).alloc (by simp;omega) _)
 have hmm:∀ W:World,(Instr.makeMap 199 (sQ (I J (n2:Int)))).run Tp W = .ok (.map (sQ W.heap.size)) (W.alloc (.map #[] 0)):=fun W=>nY n2 W;go_enter func84,ntmps84;go_wp2_with fail;refine (HSU.o _ (w.heap.size+1+1) (w.heap.size+1) HB3.o HP3.o HM3.o om om om).mono ?_;rintro o w9 ⟨gf,kf,gb,kb,hs,gr,gq,rfl,hlv⟩;have HLV:Hid _:=hlv;clear hlv hmm y5 HSU HPH HM2 HM3 HP3 HB3;go_wp2;go_ret;exact⟨_,_,gf,kf,gb,kb,hs,gr,gq,rfl,HLV.o⟩
end Go.Proofs.YtgfolecanghhhaaGreat
namespace Go.Proofs.YtgfolecanghhhaaGreat
open Option renaming none->nn,some->sQ
open Go renaming World->Wd
open Go.Shelf Go.RowKit
set_option linter.all false
open Go.Value renaming int->I,slice->sL,bool->bO,pointer->pT,agg->aG
open Go.IntKind renaming i64->J
open Go.Ending renaming returned->rT
open Go.Proofs.Tryz renaming prog->Tp
section
variable {b0 W W':Wd} {U n c k:Nat} {a:Option Addr} {hs:Nat->Hd} {ff:List R5}
def dx5 (b0:Wd) (U:Nat) (a:Option Addr) (n c:Nat) (ff:List R5) (hs:Nat->Hd) (k:Nat) (W:Wd):Prop:=(a=nn/\n=0/\c=0/\ff=[])\/∃ g,a=sQ ⟨g,0,nn⟩/\n<=c/\dr5 b0 U g n ff hs k W
def dx8 (b0:Wd) (U:Nat) (a:Option Addr) (n c:Nat) (ff:List R8) (hs:Nat->Hd) (k:Nat) (W:Wd):Prop:=(a=nn/\n=0/\c=0/\ff=[])\/∃ g,a=sQ ⟨g,0,nn⟩/\n<=c/\dr8 b0 U g n ff hs k W
def dx5.below (h:dx5 b0 U a n c ff hs k W) (hb:Bl W W'):dx5 b0 U a n c ff hs k W':=by
 rcases h with h|⟨g,e,h1,h2⟩
 .exact qr h
 .exact qx ⟨g,e,h1,h2.below hb⟩
def dx8.below {ff:List R8} (h:dx8 b0 U a n c ff hs k W) (hb:Bl W W'):dx8 b0 U a n c ff hs k W':=by
 rcases h with h|⟨g,e,h1,h2⟩
 .exact qr h
 .exact qx ⟨g,e,h1,h2.below hb⟩
def dx5.hi (h:dx5 b0 U a n c ff hs k W):∀ g,a=sQ ⟨g,0,nn⟩->g<W.heap.size:=by
 rcases h with h|⟨g,e,h1,h2⟩
 .intro g hg;rw[h.1] at hg;cases hg
 .intro g' hg;rw[e] at hg;cases hg;exact h2.hi
def dx8.hi {ff:List R8} (h:dx8 b0 U a n c ff hs k W):∀ g,a=sQ ⟨g,0,nn⟩->g<W.heap.size:=by
 rcases h with h|⟨g,e,h1,h2⟩
 .intro g hg;rw[h.1] at hg;cases hg
 .intro g' hg;rw[e] at hg;cases hg;exact h2.hi
def yX (b0 w:Wd) (P o gs room first n:Nat) (L:List R5) (hn:n=L.length) (y0:w.cell? ⟨P,o,nn⟩=sQ (sL (sQ ⟨gs,0,nn⟩) room room)) (y1:w.cell? ⟨P,o+1,nn⟩=sQ (I J (first:Int))) (y2:w.cell? ⟨P,o+2,nn⟩=sQ (I J (n:Int))) (hr:cE b0 w gs room first L) (hfi:first<room) (h1:1<=room/\room<=1000) (hL:n<=room) (hb0:Bl b0 w) (hsm:∀ j (h:j<L.length),L[j].l.length<=1048576) :
  Calls Tp 201 #[pT (sQ ⟨P,o,nn⟩),I J (n:Int)] w fun e w'=>∃ a c hs,e = rT (sL a n c)/\(∀ g,a=sQ ⟨g,0,nn⟩->w.heap.size<=g)/\dx5 b0 0 a n c L hs 0 w'/\Bl w w':=by
 subst hn;refine (wz b0 w P o gs room first L y0 y1 y2 hr hfi h1 hL).mono ?_;rintro e w' ⟨v,bs,rfl,hm,hby,ho,hbw⟩;rcases cS ho with⟨e1,e2⟩|⟨g',cap',rfl,hb,hlt,hcp,hrf,hrg⟩
 .refine⟨nn,0,fun _=>(nn,0,0),by rw[e1,e2],fun g hg=>(by cases hg),qr ⟨rfl,e2,rfl,List.length_eq_zero_iff.1 e2⟩,hbw⟩
 .exact⟨sQ ⟨g',0,nn⟩,cap',_,rfl,fun g hg=>by cases hg;exact hb,qx ⟨g',rfl,hcp,dr5.start bs hm hby rfl hrf hrg (nT hb0.size hb) hlt (hb0.trans (hbw.mono hb0.size)) hsm⟩,hbw⟩
def yV (b0 w:Wd) (P o gs room first n:Nat) (L:List R8) (hn:n=L.length) (y0:w.cell? ⟨P,o,nn⟩=sQ (sL (sQ ⟨gs,0,nn⟩) room room)) (y1:w.cell? ⟨P,o+1,nn⟩=sQ (I J (first:Int))) (y2:w.cell? ⟨P,o+2,nn⟩=sQ (I J (n:Int))) (hr:cw b0 w gs room first L) (hfi:first<room) (h1:1<=room/\room<=1000) (hL:n<=room) (hb0:Bl b0 w) (hsm:∀ j (h:j<L.length),L[j].l.length<=1048576) :
  Calls Tp 202 #[pT (sQ ⟨P,o,nn⟩),I J (n:Int)] w fun e w'=>∃ a c hs,e = rT (sL a n c)/\(∀ g,a=sQ ⟨g,0,nn⟩->w.heap.size<=g)/\dx8 b0 0 a n c L hs 0 w'/\Bl w w':=by
 subst hn;refine (wy b0 w P o gs room first L y0 y1 y2 hr hfi h1 hL).mono ?_;rintro e w' ⟨v,bs,rfl,hm,hby,ho,hbw⟩;rcases cS ho with⟨e1,e2⟩|⟨g',cap',rfl,hb,hlt,hcp,hrf,hrg⟩
 .refine⟨nn,0,fun _=>(nn,0,0),by rw[e1,e2],fun g hg=>(by cases hg),qr ⟨rfl,e2,rfl,List.length_eq_zero_iff.1 e2⟩,hbw⟩
 .exact⟨sQ ⟨g',0,nn⟩,cap',_,rfl,fun g hg=>by cases hg;exact hb,qx ⟨g',rfl,hcp,dr8.start bs hm hby rfl hrf hrg (nT hb0.size hb) hlt (hb0.trans (hbw.mono hb0.size)) hsm⟩,hbw⟩
def Z10:List Value:=[I J 0,I J 0,I J 0,I J 0,sL nn 0 0,sL nn 0 0,sL nn 0 0,sL nn 0 0,I J 0,I J 0]
structure tdE (w:Wd) (n1:Nat) (fs:List R3) (n2:Nat) (bx:List R8) (n3:Nat) (ff:List R5) (n4:Nat) (qu:List R8) (g1 k1 g2 k2:Nat) (h2:Nat->Hd) (a3:Option Addr) (k3:Nat) (h3:Nat->Hd) (a4:Option Addr) (k4:Nat) (h4:Nat->Hd) (PH:Nat) (W:Wd):Prop where
 f1:dr3 w g1 n1 fs W
 c1:n1<=k1
 f2:dr8 w 0 g2 n2 bx h2 0 W
 c2:n2<=k2
 f3:dx5 w 0 a3 n3 k3 ff h3 0 W
 f4:dx8 w 0 a4 n4 k4 qu h4 0 W
 fh:blk W PH Z10 41
 fr:blk W w.heap.size Z10 41
 o1:g1<g2
 o2:∀ g,a3=sQ ⟨g,0,nn⟩->g2<g
 o3:∀ g,a4=sQ ⟨g,0,nn⟩->g2<g/\∀ g',a3=sQ ⟨g',0,nn⟩->g'<g
 p1:PH≠g1/\PH≠g2/\(∀ g,a3=sQ ⟨g,0,nn⟩->PH≠g)/\(∀ g,a4=sQ ⟨g,0,nn⟩->PH≠g)
 r1:w.heap.size<g1/\w.heap.size<PH
end
open Go.RowKit
section
variable {W W' b0:World} {n c U U' g:Nat} {hs:Nat->Hd} {a:Option Addr} {ff:List R5} {bx:List R8}
def dr8.same0 (h:dr8 b0 U g n bx hs 0 W) (he:W'.heap[g]?=W.heap[g]?) (hz:W.heap.size<=W'.heap.size) (hb:Bl b0 W'):dr8 b0 U' g n bx hs 0 W':=
 ⟨h.len,h.row.up he,fun j hj=>rangeAt.up (h.rng j hj) he,h.old,fun j hj hk=>Qy hk (nN _),h.dst,h.lo,nL h.hi hz,hb,h.sm⟩
def dx8.same0 {ff:List R8} (h:dx8 b0 U a n c ff hs 0 W) (he:∀ g,a=sQ ⟨g,0,nn⟩->W'.heap[g]?=W.heap[g]?) (hz:W.heap.size<=W'.heap.size) (hb:Bl b0 W'):dx8 b0 U' a n c ff hs 0 W':=by
 rcases h with h|⟨g,e,h1,h2⟩
 .exact qr h
 .exact qx ⟨g,e,h1,h2.same0 (he g e) hz hb⟩
def dx8.sx {ff:List R8} (h:dx8 b0 U a n c ff hs n W) (hU:∀ g,a=sQ ⟨g,0,nn⟩->g<U):sx8 W a n c hs/\aM W a n c ff/\dst hs n/\(∀ j,j<n->∀ b,(hs j).1=sQ ⟨b,0,nn⟩->U<=b/\b<W.heap.size):=by
 rcases h with⟨e1,e2,e3,e4⟩|⟨g,e,h1,h2⟩
 .subst e2;exact⟨qr ⟨e1,rfl,e3⟩,⟨by rw[e4];rfl,om,fun hne=>Qy e4 hne⟩,fun i j _ hj=>Qy hj (nN _),fun j hj=>Qy hj (nN _)⟩
 .obtain⟨q1,q2⟩:=h2.sh (hU g e);subst e;exact⟨qx ⟨g,rfl,q1,h1⟩,h2.is h1,h2.dst,q2⟩
def aM.same {ff:List R8} (h:aM W a n c ff) {hs:Nat->Hd} (hx:sx8 W a n c hs) (he:∀ x,ft a n hs x->W'.heap[x]?=W.heap[x]?):aM W' a n c ff:=by
 rcases hx with⟨e1,e2,e3⟩|⟨g,e,h1,h2⟩
 .have:ff=[]:=List.length_eq_zero_iff.1 (by have:=h.len;omega);exact⟨h.len,h.cap,fun hne=>Qy this hne⟩
 .subst e;refine⟨h.len,h.cap,fun hne=>?_⟩;obtain⟨g',off,e,hc⟩:=h.cells hne;cases e;refine⟨g,0,rfl,fun j hj=>?_⟩;obtain⟨ao,m,c',hat⟩:=hc j hj;have hj':j<n:=by have:=h.len;omega
  have hcs:=hat.cs;rw[qi,(h1.dat j hj').1] at hcs;have e1:(hs j).1=ao:=by injection hcs with q;injection q
  have e2:(hs j).2.1=m:=by injection hcs with q;injection q
  have hg:=he g (qr rfl);refine⟨ao,m,c',cU hat.c0 hg,cU hat.c1 hg,cU hat.c2 hg,cU hat.c3 hg,cU hat.c4 hg,cU hat.c5 hg,cU hat.c6 hg,cU hat.cs hg,?_⟩;have hd2:=(h1.dat j hj').2;rcases hd2.2.2 with⟨z1,z2⟩|⟨b,z1,z2,z3⟩
  .refine⟨hat.dat.len,hat.dat.cap,hat.dat.small,fun hne2=>?_⟩;exact Qy (List.length_pos_iff.2 hne2) (by have:=hat.dat.len;omega)
  .have hb:=he b (qx ⟨j,hj',z1⟩);have hdt:=hat.dat;rw[<- e1,z1] at hdt ⊢;exact hdt.other hb
def dr5.same0 {bx:List R5} (h:dr5 b0 U g n bx hs 0 W) (he:W'.heap[g]?=W.heap[g]?) (hz:W.heap.size<=W'.heap.size) (hb:Bl b0 W'):dr5 b0 U' g n bx hs 0 W':=
 ⟨h.len,h.row.up he,fun j hj=>rangeAt.up (h.rng j hj) he,h.old,fun j hj hk=>Qy hk (nN _),h.dst,h.lo,nL h.hi hz,hb,h.sm⟩
def dx5.same0 (h:dx5 b0 U a n c ff hs 0 W) (he:∀ g,a=sQ ⟨g,0,nn⟩->W'.heap[g]?=W.heap[g]?) (hz:W.heap.size<=W'.heap.size) (hb:Bl b0 W'):dx5 b0 U' a n c ff hs 0 W':=by
 rcases h with h|⟨g,e,h1,h2⟩
 .exact qr h
 .exact qx ⟨g,e,h1,h2.same0 (he g e) hz hb⟩
def dx5.same {k:Nat} (h:dx5 b0 U a n c ff hs k W) (he:∀ x,a=sQ ⟨x,0,nn⟩\/U<=x->x<W.heap.size->W'.heap[x]?=W.heap[x]?) (hz:W.heap.size<=W'.heap.size) (hb:Bl b0 W'):dx5 b0 U a n c ff hs k W':=by
 rcases h with h|⟨g,e,h1,h2⟩
 .exact qr h
 .exact qx ⟨g,e,h1,h2.same (fun x hx=>he x (by rcases hx with e2 | e2;(left;rw[e2];exact e);(right;exact e2))) hz hb⟩
def dx5.sx (h:dx5 b0 U a n c ff hs n W) (hU:∀ g,a=sQ ⟨g,0,nn⟩->g<U):sx5 W a n c hs/\cl W a n c ff/\dst hs n/\(∀ j,j<n->∀ b,(hs j).1=sQ ⟨b,0,nn⟩->U<=b/\b<W.heap.size):=by
 rcases h with⟨e1,e2,e3,e4⟩|⟨g,e,h1,h2⟩
 .subst e2;exact⟨qr ⟨e1,rfl,e3⟩,⟨by rw[e4];rfl,om,fun hne=>Qy e4 hne⟩,fun i j _ hj=>Qy hj (nN _),fun j hj=>Qy hj (nN _)⟩
 .obtain⟨q1,q2⟩:=h2.sh (hU g e);subst e;exact⟨qx ⟨g,rfl,q1,h1⟩,h2.is h1,h2.dst,q2⟩
def cl.same (h:cl W a n c ff) {hs:Nat->Hd} (hx:sx5 W a n c hs) (he:∀ x,ft a n hs x->W'.heap[x]?=W.heap[x]?):cl W' a n c ff:=by
 rcases hx with⟨e1,e2,e3⟩|⟨g,e,h1,h2⟩
 .have:ff=[]:=List.length_eq_zero_iff.1 (by have:=h.len;omega);exact⟨h.len,h.cap,fun hne=>Qy this hne⟩
 .subst e;refine⟨h.len,h.cap,fun hne=>?_⟩;obtain⟨g',off,e,hc⟩:=h.cells hne;cases e;refine⟨g,0,rfl,fun j hj=>?_⟩;obtain⟨ao,m,c',hat⟩:=hc j hj;have hj':j<n:=by have:=h.len;omega
  have hcs:=hat.cs;rw[qi,(h1.dat j hj').1] at hcs;have e1:(hs j).1=ao:=by injection hcs with q;injection q
  have e2:(hs j).2.1=m:=by injection hcs with q;injection q
  have hg:=he g (qr rfl);refine⟨ao,m,c',cU hat.c0 hg,cU hat.c1 hg,cU hat.c2 hg,cU hat.c3 hg,cU hat.cs hg,?_⟩;have hd2:=(h1.dat j hj').2;rcases hd2.2.2 with⟨z1,z2⟩|⟨b,z1,z2,z3⟩
  .refine⟨hat.dat.len,hat.dat.cap,hat.dat.small,fun hne2=>?_⟩;exact Qy (List.length_pos_iff.2 hne2) (by have:=hat.dat.len;omega)
  .have hb:=he b (qx ⟨j,hj',z1⟩);have hdt:=hat.dat;rw[<- e1,z1] at hdt ⊢;exact hdt.other hb
def bj.same {ff:List R3} (h:bj W (sQ ⟨g,0,nn⟩) n c ff) (he:W'.heap[g]?=W.heap[g]?):bj W' (sQ ⟨g,0,nn⟩) n c ff:=by
 refine⟨h.len,h.cap,fun hne=>?_⟩;obtain⟨g',off,e,hc⟩:=h.cells hne;cases e;exact⟨g,0,rfl,fun j hj=>(hc j hj).up he⟩
structure tdF (w:World) (n1:Nat) (fs:List R3) (n2:Nat) (bx:List R8) (n3:Nat) (ff:List R5) (n4:Nat) (qu:List R8) (g1 g2:Nat) (h2:Nat->Hd) (a3:Option Addr) (k3:Nat) (h3:Nat->Hd) (a4:Option Addr) (k4:Nat) (h4:Nat->Hd) (PH:Nat) (HL:List Value) (U2 i2 U3 i3 U4 i4:Nat) (W:World):Prop where
 f1:dr3 w g1 n1 fs W
 f2:dr8 w U2 g2 n2 bx h2 i2 W
 f3:dx5 w U3 a3 n3 k3 ff h3 i3 W
 f4:dx8 w U4 a4 n4 k4 qu h4 i4 W
 fh:blk W PH HL 41
 fr:blk W w.heap.size Z10 41
 b:Bl w W
structure tdO (w:World) (n1 k1 n2 k2 g1 g2:Nat) (a3 a4:Option Addr) (PH:Nat):Prop where
 c1:n1<=k1
 c2:n2<=k2
 o1:g1<g2
 o2:∀ g,a3=sQ ⟨g,0,nn⟩->g2<g
 o3:∀ g,a4=sQ ⟨g,0,nn⟩->g2<g/\∀ g',a3=sQ ⟨g',0,nn⟩->g'<g
 p1:PH≠g1/\PH≠g2/\(∀ g,a3=sQ ⟨g,0,nn⟩->PH≠g)/\(∀ g,a4=sQ ⟨g,0,nn⟩->PH≠g)
 r1:w.heap.size<g1/\w.heap.size<PH
def tdE.put {w:World} {n1:Nat} {fs:List R3} {n2 n3 n4:Nat} {qu:List R8} {g1 k1 g2 k2:Nat} {h2:Nat->Hd} {a3:Option Addr} {k3:Nat} {h3:Nat->Hd} {a4:Option Addr} {k4:Nat} {h4:Nat->Hd} {PH:Nat} (E:tdE w n1 fs n2 bx n3 ff n4 qu g1 k1 g2 k2 h2 a3 k3 h3 a4 k4 h4 PH W) (hb:Bl w W) (HL:List Value) (hl:HL.length=10) (U2 U3 U4:Nat):tdF w n1 fs n2 bx n3 ff n4 qu g1 g2 h2 a3 k3 h3 a4 k4 h4 PH HL U2 0 U3 0 U4 0 (World.setCells W PH 0 HL)/\tdO w n1 k1 n2 k2 g1 g2 a3 a4 PH:=by
 have oth:∀ x,x≠PH->(World.setCells W PH 0 HL).heap[x]?=W.heap[x]?:=fun x hx=>sO PH x hx HL W 0;have hz:W.heap.size<=(World.setCells W PH 0 HL).heap.size:=by rw[sZ];exact nR _
 have hbb:Bl w (World.setCells W PH 0 HL):=sW (by have:=E.r1.2;omega) 0 HL hb;refine⟨⟨E.f1.same (oth _ (fun e=>E.p1.1 e.symm)) hz,E.f2.same0 (oth _ (fun e=>E.p1.2.1 e.symm)) hz hbb,E.f3.same0 (fun g hg=>oth _ (fun e=>E.p1.2.2.1 g hg e.symm)) hz hbb,E.f4.same0 (fun g hg=>oth _ (fun e=>E.p1.2.2.2 g hg e.symm)) hz hbb,?_,E.fr.kept (oth _ (by have:=E.r1.2;omega)),hbb⟩,⟨E.c1,E.c2,E.o1,E.o2,E.o3,E.p1,E.r1⟩⟩;have:=blk.put [] Z10 [] HL (w:=W) (b:=PH) (T:=41) (by simpa using E.fh) (by rw[hl];rfl);simpa using this
end
section
variable {w W:World} {n1 n2 n3 n4 g1 g2 k3 k4 PH k1 k2 U U3 k U2 i2 U4:Nat} {fs:List R3} {bx qu:List R8} {ff:List R5} {h2 h3 h4:Nat->Hd} {a3 a4:Option Addr} {HL:List Value}
def tdF.own2 (h:tdF w n1 fs n2 bx n3 ff n4 qu g1 g2 h2 a3 k3 h3 a4 k4 h4 PH HL U k 0 0 0 0 W) (O:tdO w n1 k1 n2 k2 g1 g2 a3 a4 PH) (hU:g2<U) (hUz:U<=W.heap.size) (hk:k<n2) :
  Calls Tp 203 #[pT (sQ ⟨g2,k*8+3,nn⟩)] W fun e w'=>∃ h2',e = rT (.tuple #[])/\tdF w n1 fs n2 bx n3 ff n4 qu g1 g2 h2' a3 k3 h3 a4 k4 h4 PH HL U (k+1) 0 0 0 0 w'/\U<=w'.heap.size:=by
 have hkl:k<bx.length:=by have:=h.f2.len;omega
 refine (g8 W g2 (k*8+3) _ _ _ bx[k].l (h.f2.at_ k hkl).cs (h.f2.row (k*8+7) om).2 (h.f2.at_ k hkl).dat (by have:=(h.f2.at_ k hkl).dat.len;have:=h.f2.sm k hkl;omega)).mono ?_;rintro e w' ⟨a',c',w1,rfl,rfl,q1,q2,q3⟩;obtain⟨hs',d2⟩:=h.f2.step hkl hUz hU a' c' q1 q2 q3;have oth:∀ x,x≠g2->x<W.heap.size->(w1.setCell ⟨g2,k*8+3+4,nn⟩ (sL a' (h2 k).2.1 c')).heap[x]?=W.heap[x]?:=fun x hx hl=>(QA w1 ⟨g2,k*8+3+4,nn⟩ x _ hx).trans (q3.block x hl);have hz:W.heap.size<=(w1.setCell ⟨g2,k*8+3+4,nn⟩ (sL a' (h2 k).2.1 c')).heap.size:=by have:=q3.size;simpa using this
 refine⟨hs',rfl,⟨h.f1.same (oth _ (by have:=O.o1;omega) h.f1.hi) hz,d2,h.f3.same0 (fun g hg=>oth _ (by have:=O.o2 g hg;omega) (h.f3.hi g hg)) hz d2.bel,h.f4.same0 (fun g hg=>oth _ (by have:=(O.o3 g hg).1;omega) (h.f4.hi g hg)) hz d2.bel,h.fh.kept (oth _ O.p1.2.1 h.fh.lt),h.fr.kept (oth _ (by have:=O.o1;have:=O.r1.1;omega) h.fr.lt),d2.bel⟩,om⟩
def tdF.u3 {U3':Nat} (h:tdF w n1 fs n2 bx n3 ff n4 qu g1 g2 h2 a3 k3 h3 a4 k4 h4 PH HL U2 i2 0 0 0 0 W):tdF w n1 fs n2 bx n3 ff n4 qu g1 g2 h2 a3 k3 h3 a4 k4 h4 PH HL U2 i2 U3' 0 0 0 W:=⟨h.f1,h.f2,h.f3.same0 (fun _ _=>rfl) (nR _) h.b,h.f4,h.fh,h.fr,h.b⟩
def tdF.u4 {i3 U4':Nat} (h:tdF w n1 fs n2 bx n3 ff n4 qu g1 g2 h2 a3 k3 h3 a4 k4 h4 PH HL U2 i2 U3 i3 0 0 W):tdF w n1 fs n2 bx n3 ff n4 qu g1 g2 h2 a3 k3 h3 a4 k4 h4 PH HL U2 i2 U3 i3 U4' 0 W:=⟨h.f1,h.f2,h.f3,h.f4.same0 (fun _ _=>rfl) (nR _) h.b,h.fh,h.fr,h.b⟩
def tdF.own3 {g3:Nat} (h:tdF w n1 fs n2 bx n3 ff n4 qu g1 g2 h2 a3 k3 h3 a4 k4 h4 PH HL U n2 U3 k 0 0 W) (O:tdO w n1 k1 n2 k2 g1 g2 a3 a4 PH) (ha:a3=sQ ⟨g3,0,nn⟩) (hU:g3<U) (hU3:U<=U3) (hUz:U3<=W.heap.size) (hk:k<n3) :
  Calls Tp 203 #[pT (sQ ⟨g3,k*5,nn⟩)] W fun e w'=>∃ h3',e = rT (.tuple #[])/\tdF w n1 fs n2 bx n3 ff n4 qu g1 g2 h2 a3 k3 h3' a4 k4 h4 PH HL U n2 U3 (k+1) 0 0 w'/\U3<=w'.heap.size:=by
 have hf3:dr5 w U3 g3 n3 ff h3 k W/\n3<=k3:=by
  rcases h.f3 with⟨e,_⟩|⟨g,e,e1,e2⟩
  .rw[ha] at e;cases e
  .rw[ha] at e;cases e;exact⟨e2,e1⟩
 obtain⟨f3,hc3⟩:=hf3;have hkl:k<ff.length:=by have:=f3.len;omega
 have hg2:=O.o2 g3 ha;refine (g8 W g3 (k*5) _ _ _ ff[k].l (f3.at_ k hkl).cs (f3.row (k*5+4) om).2 (f3.at_ k hkl).dat (by have:=(f3.at_ k hkl).dat.len;have:=f3.sm k hkl;omega)).mono ?_;rintro e w' ⟨a',c',w1,rfl,rfl,q1,q2,q3⟩;obtain⟨hs',d3⟩:=f3.step hkl hUz om a' c' q1 q2 q3;have oth:∀ x,x≠g3->x<W.heap.size->(w1.setCell ⟨g3,k*5+4,nn⟩ (sL a' (h3 k).2.1 c')).heap[x]?=W.heap[x]?:=fun x hx hl=>(QA w1 ⟨g3,k*5+4,nn⟩ x _ hx).trans (q3.block x hl);have hz:W.heap.size<=(w1.setCell ⟨g3,k*5+4,nn⟩ (sL a' (h3 k).2.1 c')).heap.size:=by have:=q3.size;simpa using this
 refine⟨hs',rfl,⟨h.f1.same (oth _ (by have:=O.o1;omega) h.f1.hi) hz,h.f2.same (fun x hx hl=>oth x (by rcases hx with e | e <;> omega) hl) hz d3.bel,qx ⟨g3,ha,hc3,d3⟩,h.f4.same0 (fun g hg=>oth _ (by have:=(O.o3 g hg).2 g3 ha;omega) (h.f4.hi g hg)) hz d3.bel,h.fh.kept (oth _ (O.p1.2.2.1 g3 ha) h.fh.lt),h.fr.kept (oth _ (by have:=O.o1;have:=O.r1.1;omega) h.fr.lt),d3.bel⟩,om⟩
def tdF.own4 {g4:Nat} (h:tdF w n1 fs n2 bx n3 ff n4 qu g1 g2 h2 a3 k3 h3 a4 k4 h4 PH HL U n2 U3 n3 U4 k W) (O:tdO w n1 k1 n2 k2 g1 g2 a3 a4 PH) (ha:a4=sQ ⟨g4,0,nn⟩) (hU:g4<U) (hU3:U<=U3/\U3<=U4) (hUz:U4<=W.heap.size) (hk:k<n4) :
  Calls Tp 203 #[pT (sQ ⟨g4,k*8+3,nn⟩)] W fun e w'=>∃ h4',e = rT (.tuple #[])/\tdF w n1 fs n2 bx n3 ff n4 qu g1 g2 h2 a3 k3 h3 a4 k4 h4' PH HL U n2 U3 n3 U4 (k+1) w'/\U4<=w'.heap.size:=by
 have hf4:dr8 w U4 g4 n4 qu h4 k W/\n4<=k4:=by
  rcases h.f4 with⟨e,_⟩|⟨g,e,e1,e2⟩
  .rw[ha] at e;cases e
  .rw[ha] at e;cases e;exact⟨e2,e1⟩
 obtain⟨f4,hc4⟩:=hf4;have hkl:k<qu.length:=by have:=f4.len;omega
 have hg2:=O.o3 g4 ha;refine (g8 W g4 (k*8+3) _ _ _ qu[k].l (f4.at_ k hkl).cs (f4.row (k*8+7) om).2 (f4.at_ k hkl).dat (by have:=(f4.at_ k hkl).dat.len;have:=f4.sm k hkl;omega)).mono ?_;rintro e w' ⟨a',c',w1,rfl,rfl,q1,q2,q3⟩;obtain⟨hs',d4⟩:=f4.step hkl hUz om a' c' q1 q2 q3;have oth:∀ x,x≠g4->x<W.heap.size->(w1.setCell ⟨g4,k*8+3+4,nn⟩ (sL a' (h4 k).2.1 c')).heap[x]?=W.heap[x]?:=fun x hx hl=>(QA w1 ⟨g4,k*8+3+4,nn⟩ x _ hx).trans (q3.block x hl);have hz:W.heap.size<=(w1.setCell ⟨g4,k*8+3+4,nn⟩ (sL a' (h4 k).2.1 c')).heap.size:=by have:=q3.size;simpa using this
 refine⟨hs',rfl,⟨h.f1.same (oth _ (by have:=O.o1;omega) h.f1.hi) hz,h.f2.same (fun x hx hl=>oth x (by rcases hx with e | e <;> omega) hl) hz d4.bel,h.f3.same (fun x hx hl=>oth x (by rcases hx with e | e;(have:=hg2.2 x e;omega);omega) hl) hz d4.bel,qx ⟨g4,ha,hc4,d4⟩,h.fh.kept (oth _ (O.p1.2.2.2 g4 ha) h.fh.lt),h.fr.kept (oth _ (by have:=O.o1;have:=O.r1.1;omega) h.fr.lt),d4.bel⟩,om⟩
def tdF.fin {W':World} (c0 c1 c2 c3 lo st:Int) (h:tdF w n1 fs n2 bx n3 ff n4 qu g1 g2 h2 a3 k3 h3 a4 k4 h4 PH HL U n2 U3 n3 U4 n4 W) (O:tdO w n1 k1 n2 k2 g1 g2 a3 a4 PH) (hU:g1<U/\g2<U/\(∀ g,a3=sQ ⟨g,0,nn⟩->g<U)/\(∀ g,a4=sQ ⟨g,0,nn⟩->g<U)/\w.heap.size<U) (hU3:U<=U3/\U3<=U4) (D2:∀ j,j<n2->∀ b,(h2 j).1=sQ ⟨b,0,nn⟩->b<U3) (D3:∀ j,j<n3->∀ b,(h3 j).1=sQ ⟨b,0,nn⟩->b<U4) (m:n2<=1000/\n3<=1000/\n4<=1000) (oth:∀ x,x≠w.heap.size->x<W.heap.size->W'.heap[x]?=W.heap[x]?) (hz:W'.heap.size=W.heap.size) :
  ∃ s:Wh,s.sl=⟨sQ ⟨g1,0,nn⟩,n1,k1,sQ ⟨g2,0,nn⟩,n2,k2,a3,n3,k3,a4,n4,k4⟩/\St w.heap.size W' (fun W=>aK W ⟨c0,c1,c2,c3,fs,bx,ff,qu,lo,st⟩ s.sl)/\whS w.heap.size W'.heap.size W' s/\whD s/\whE s:=by
 obtain⟨q1,q2⟩:=h.f2.sh hU.2.1;obtain⟨r1,r2,r3,r4⟩:=h.f3.sx (fun g hg=>by have:=hU.2.2.1 g hg;omega);obtain⟨p1,p2,p3,p4⟩:=h.f4.sx (fun g hg=>by have:=hU.2.2.2.1 g hg;omega);have x2:sx8 W (sQ ⟨g2,0,nn⟩) n2 k2 h2:=qx ⟨g2,rfl,q1,O.c2⟩;have hr1:=O.r1.1;have ho1:=O.o1
 have I2:inn w.heap.size W.heap.size (sQ ⟨g2,0,nn⟩) n2 h2:=fun x hx=>by
  rcases hx with e|⟨j,hj,e⟩
  .cases e;exact⟨om,h.f2.hi⟩
  .have:=q2 j hj x e;omega
 have I3:inn w.heap.size W.heap.size a3 n3 h3:=fun x hx=>by
  rcases hx with e|⟨j,hj,e⟩
  .have:=O.o2 x e;exact⟨om,h.f3.hi x e⟩
  .have:=r4 j hj x e;omega
 have I4:inn w.heap.size W.heap.size a4 n4 h4:=fun x hx=>by
  rcases hx with e|⟨j,hj,e⟩
  .have:=(O.o3 x e).1;exact⟨om,h.f4.hi x e⟩
  .have:=p4 j hj x e;omega
 have n2':∀ x,ft (sQ ⟨g2,0,nn⟩) n2 h2 x->x≠w.heap.size:=fun x hx e=>by
  rcases hx with e2|⟨j,hj,e2⟩
  .cases e2;omega
  .have:=q2 j hj x e2;omega
 have n3':∀ x,ft a3 n3 h3 x->x≠w.heap.size:=fun x hx e=>by
  rcases hx with e2|⟨j,hj,e2⟩
  .have:=O.o2 x e2;omega
  .have:=r4 j hj x e2;omega
 have n4':∀ x,ft a4 n4 h4 x->x≠w.heap.size:=fun x hx e=>by
  rcases hx with e2|⟨j,hj,e2⟩
  .have:=(O.o3 x e2).1;omega
  .have:=p4 j hj x e2;omega
 have E2:∀ x,ft (sQ ⟨g2,0,nn⟩) n2 h2 x->W'.heap[x]?=W.heap[x]?:=fun x hx=>oth x (n2' x hx) (I2 x hx).2;have E3:∀ x,ft a3 n3 h3 x->W'.heap[x]?=W.heap[x]?:=fun x hx=>oth x (n3' x hx) (I3 x hx).2;have E4:∀ x,ft a4 n4 h4 x->W'.heap[x]?=W.heap[x]?:=fun x hx=>oth x (n4' x hx) (I4 x hx).2;have Eg:W'.heap[g1]?=W.heap[g1]?:=oth g1 om h.f1.hi;have b2:aM W (sQ ⟨g2,0,nn⟩) n2 k2 bx:=h.f2.is O.c2;have b1:bj W (sQ ⟨g1,0,nn⟩) n1 k1 fs:=⟨h.f1.len,O.c1,fun _=>⟨g1,0,rfl,fun j hj=>by rw[qi];exact h.f1.at_ j hj⟩⟩
 rw[<- hz] at I2 I3 I4;have hg1z:g1<W'.heap.size:=by rw[hz];exact h.f1.hi
 refine⟨(⟨g1,n1,k1,sQ ⟨g2,0,nn⟩,n2,k2,h2,a3,n3,k3,h3,a4,n4,k4,h4⟩ : Wh),rfl,fun V hV=>⟨?_,?_,?_,?_⟩,⟨h.f1.row.up Eg,O.c1,⟨by simp only;omega,hg1z⟩,x2.same E2,I2,r1.same E3,I3,p1.same E4,I4,h.f1.m,by simp only;omega,by simp only;omega,by simp only;omega⟩,⟨?_,?_,?_,?_,?_,?_⟩,⟨h.f2.dst,r3,p3⟩⟩
 .exact (b1.same Eg).same (hV g1 om hg1z)
 .exact (b2.same x2 E2).same (x2.same E2) (fun x hx=>hV x (I2 x hx).1 (I2 x hx).2)
 .exact (r2.same r1 E3).same (r1.same E3) (fun x hx=>hV x (I3 x hx).1 (I3 x hx).2)
 .exact (p2.same p1 E4).same (p1.same E4) (fun x hx=>hV x (I4 x hx).1 (I4 x hx).2)
 .rintro (e|⟨j,hj,e⟩)
  .have e2:(sQ (⟨g2,0,nn⟩ : Addr))=sQ ⟨g1,0,nn⟩:=e;injection e2 with e2
   injection e2 with e2
   omega
  .have:=q2 j hj g1 e;omega
 .rintro (e|⟨j,hj,e⟩)
  .have:=O.o2 g1 e;omega
  .have:=r4 j hj g1 e;omega
 .rintro (e|⟨j,hj,e⟩)
  .have:=(O.o3 g1 e).1;omega
  .have:=p4 j hj g1 e;omega
 .rintro x (e|⟨j,hj,e⟩) (e'|⟨j',hj',e'⟩)
  .cases e;have:=O.o2 g2 e';omega
  .cases e;have:=r4 j' hj' g2 e';omega
  .have:=q2 j hj x e;have:=hU.2.2.1 x e';omega
  .have:=D2 j hj x e;have:=r4 j' hj' x e';omega
 .rintro x (e|⟨j,hj,e⟩) (e'|⟨j',hj',e'⟩)
  .cases e;have:=(O.o3 g2 e').1;omega
  .cases e;have:=p4 j' hj' g2 e';omega
  .have:=q2 j hj x e;have:=hU.2.2.2.1 x e';omega
  .have:=D2 j hj x e;have:=p4 j' hj' x e';omega
 .rintro x (e|⟨j,hj,e⟩) (e'|⟨j',hj',e'⟩)
  .have:=(O.o3 x e').2 x e;omega
  .have:=hU.2.2.1 x e;have:=p4 j' hj' x e';omega
  .have:=r4 j hj x e;have:=hU.2.2.2.1 x e';omega
  .have:=D3 j hj x e;have:=p4 j' hj' x e';omega
end
end Go.Proofs.YtgfolecanghhhaaGreat
