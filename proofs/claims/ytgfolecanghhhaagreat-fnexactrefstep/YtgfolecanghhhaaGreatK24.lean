import Derived.Test.YtgfolecanghhhaaGreatK23
import Derived.Deep.AppendLies
import Derived.Deep.RegionLaw
namespace Go.Proofs.YtgfolecanghhhaaGreat
open Go.Proofs.Tryz
open Option renaming none->nn,some->sQ
open Go renaming World->Wd
set_option maxRecDepth 20000
open Go.RowKit
set_option linter.all false
set_option maxHeartbeats 16000000
open Go.Value renaming int->I,slice->sL,bool->bO,pointer->pT,agg->aG
open Go.IntKind renaming i64->J,u32->Zk
open Go.Ending renaming returned->rT
open Go.Proofs.Tryz renaming prog->Tp
section
variable {l p:List Nat} {B g cap off F i d R:Nat} {v v':Value} {W w0 w w1 W':Wd} {e r:Bool}
def MF {P:Prop} (h:P):Hid P:=h
def MM (L:List Nat) (i:Nat) (h:(sw L i).1=1\/(sw L i).1=2):aY (sw L i).2.1<=(sw L i).2.1.length/\cv (sw L i).2.1+24<=(sw L i).2.1.length:=by
 cases i with
 | zero=>rcases h with h | h <;> cases h
 | succ i=>
  have hs:sw L (i+1)=dW L i (sw L i):=rfl;have e2:(sw L (i+1)).1=if (sw L i).2.2=true then (if L.getD i 0=L.getD (i-1) 0 then 3 else 0) else cF (sw L i).2.1 (L.getD i 0):=by rw[hs];rfl
  have e3:(sw L (i+1)).2.1=if (sw L i).2.2=true then (sw L i).2.1 else (sw L i).2.1++[L.getD i 0]:=by rw[hs];rfl
  rw[e2] at h;rw[e3];by_cases hd:(sw L i).2.2=true
  .rw[qc hd] at h;split at h <;> omega
  .rw[qa hd] at h ⊢;have hH:=bz (sw L i).2.1;have hE:=cI (sw L i).2.1;have hf:=dG (sw L i).2.1;have hf14:=Fi (sw L i).2.1.length _ _ hH hE;rw[<- hf] at hf14;generalize (sw L i).2.1=q at *;generalize L.getD i 0=c at *;have h14:ar q=14:=by
    unfold cF at h;grind
   have hr:=hf14.1 h14;have e4:=uT (p:=q) om;have h23:cv q+23<=q.length:=by
    unfold cF at h;rw[h14,e4] at h;simp at h;grind
   rw[cT q c om,fj q c om,qe,qm];omega
def L4 (L:List Nat):∀ f i,((swF L f i).1=1\/(swF L f i).1=2)->aY (swF L f i).2.1<=(swF L f i).2.1.length/\cv (swF L f i).2.1+24<=(swF L f i).2.1.length
 | 0,i=>MM L i
 | f+1,i=>by
  rw[jd];split
  .exact L4 L f (i+1)
  .intro h;rcases h with h | h <;> cases h
def JU (s:ByteArray) (h:(swZ s).1=1\/(swZ s).1=2):aY (swZ s).2.1<=(swZ s).2.1.length/\cv (swZ s).2.1+24<=(swZ s).2.1.length:=by
 unfold swZ at h ⊢;split
 .rename_i hk;rw[qc hk] at h;exact L4 _ _ _ h
 .rename_i hk;rw[qa hk] at h;rcases h with h | h <;> cases h
def Jv (h:Below (w.alloc (.cells #[bO false,I Zk 0,bO false,I J 0,sL nn 0 0] 67)).heap.size (w.alloc (.cells #[bO false,I Zk 0,bO false,I J 0,sL nn 0 0] 67)) w1) :
  w1.heap[w.heap.size]?=sQ (.cells #[bO false,I Zk 0,bO false,I J 0,sL nn 0 0] 67 (0,0))/\Bl w w1:=by
 refine⟨(h.block _ pQ).trans (QN w _),?_⟩;exact Zw.trans (h.mono pQ)
def IP (w:Wd) {l:List Nat} (h:∀ x ∈ l,x<256) (hl:l.length<=40):Calls Tp 73 #[.string (ae l)] w fun e w'=>e = rT (I J (cJ l:Nat))/\w=w':=by
 have hz:(ae l).size<=40:=by rw[aN];omega
 have:=m6 (ae l) w hz;rw[GH _ h] at this;exact this
def iB.block {w':Wd} {n:Nat} (h:iB w (sQ ⟨g,off,nn⟩) n cap l) (hb:w'.heap[g]?=w.heap[g]?):iB w' (sQ ⟨g,off,nn⟩) n cap l:=by
 refine⟨h.len,h.cap,h.small,fun hl=>?_⟩;obtain⟨g',off',e,hc⟩:=h.cells hl;cases e;refine⟨g,off,rfl,fun j hj=>?_⟩;have:=hc j hj;simp only[World.cell?] at this ⊢;rw[hb];exact this
structure sdI (w0:Wd) (B R F g off cap:Nat) (p:List Nat) (e:Bool) (i:Nat) (r:Bool) (d:Nat) (v:Value) (l:List Nat) (W:Wd):Prop where
 fr:W.heap[F]?=sQ (.cells #[bO e,I Zk (i:Int),bO r,I J (d:Int),v] 67 (0,0))
 own:aa W B v l
 row:iB W (sQ ⟨g,off,nn⟩) p.length cap p
 res:W.heap[R]?=sQ (.cells #[bO false,I Zk 0,bO false,I J 0,sL nn 0 0] 67 (0,0))
 bel:Below B w0 W
 ne:v.ownBlock≠sQ g/\v.ownBlock≠sQ F/\v.ownBlock≠sQ R
 dis:g≠F/\F≠R/\g≠R/\B<=F/\B<=R/\B<=W.heap.size/\g<W.heap.size
def sdI.cells (h:sdI w0 B R F g off cap p e i r d v l W) :
  W.cell? ⟨F,0,nn⟩=sQ (bO e)/\W.cell? ⟨F,1,nn⟩=sQ (I Zk (i:Int))/\W.cell? ⟨F,2,nn⟩=sQ (bO r)/\W.cell? ⟨F,3,nn⟩=sQ (I J (d:Int))/\W.cell? ⟨F,4,nn⟩=sQ v /\
  W.frozen? ⟨F,0,nn⟩=false/\W.frozen? ⟨F,1,nn⟩=false/\W.frozen? ⟨F,2,nn⟩=false/\W.frozen? ⟨F,3,nn⟩=false/\W.frozen? ⟨F,4,nn⟩=false:=by
 have hr:=h.fr;refine⟨?_,?_,?_,?_,?_,?_,?_,?_,?_,?_⟩ <;> simp[World.cell?,World.frozen?,hr]
def sdI.cellsR (h:sdI w0 B R F g off cap p e i r d v l W) :
  W.cell? ⟨R,0,nn⟩=sQ (bO false)/\W.cell? ⟨R,1,nn⟩=sQ (I Zk 0)/\W.cell? ⟨R,2,nn⟩=sQ (bO false)/\W.cell? ⟨R,3,nn⟩=sQ (I J 0)/\W.cell? ⟨R,4,nn⟩=sQ (sL nn 0 0) /\
  W.frozen? ⟨R,0,nn⟩=false/\W.frozen? ⟨R,1,nn⟩=false/\W.frozen? ⟨R,2,nn⟩=false/\W.frozen? ⟨R,3,nn⟩=false/\W.frozen? ⟨R,4,nn⟩=false:=by
 have hr:=h.res;refine⟨?_,?_,?_,?_,?_,?_,?_,?_,?_,?_⟩ <;> simp[World.cell?,World.frozen?,hr]
def Dn (j:Nat) (x:Value) (h:aa W B v l) (hne:v.ownBlock≠sQ F):aa (W.setCell ⟨F,j,nn⟩ x) B v l:=by
 refine h.otherBlock (fun i hi=>QA W ⟨F,j,nn⟩ i x (fun e=>?_));have e':i=F:=e;exact hne (e' ▸ hi)
def sdI.set (h:sdI w0 B R F g off cap p e i r d v l W) (i':Nat) :
  sdI w0 B R F g off cap p e i' r d v l (W.setCell ⟨F,1,nn⟩ (I Zk (i':Int))):=by
 obtain⟨d1,d2,d3,d4,d5,d6,d7⟩:=h.dis;refine⟨?_,Dn _ _ h.own h.ne.2.1,h.row.block (QA W ⟨F,1,nn⟩ g _ (fun e=>d1 e)),(QA W ⟨F,1,nn⟩ R _ (fun e=>d2 e.symm)).trans h.res,h.bel.setCell (by exact d4) _,h.ne,d1,d2,d3,d4,d5,by simpa using d6,by simpa using d7⟩;rw[QP W F 1 _ _ _ h.fr];simp
def sdI.setr (h:sdI w0 B R F g off cap p e i r d v l W) (r':Bool) :
  sdI w0 B R F g off cap p e i r' d v l (W.setCell ⟨F,2,nn⟩ (bO r')):=by
 obtain⟨d1,d2,d3,d4,d5,d6,d7⟩:=h.dis;refine⟨?_,Dn _ _ h.own h.ne.2.1,h.row.block (QA W ⟨F,2,nn⟩ g _ (fun e=>d1 e)),(QA W ⟨F,2,nn⟩ R _ (fun e=>d2 e.symm)).trans h.res,h.bel.setCell (by exact d4) _,h.ne,d1,d2,d3,d4,d5,by simpa using d6,by simpa using d7⟩;rw[QP W F 2 _ _ _ h.fr];simp
def sdI.app {l':List Nat} (h:sdI w0 B R F g off cap p e i r d v l W)
  (ho:aa W' B v' l') (hb:Below B w0 W') (hk:∀ g,g<W.heap.size->v.ownBlock≠sQ g->W'.heap[g]?=W.heap[g]?/\v'.ownBlock≠sQ g) (hz:W.heap.size<=W'.heap.size) :
  sdI w0 B R F g off cap p e i r d v' l' (W'.setCell ⟨F,4,nn⟩ v'):=by
 obtain⟨d1,d2,d3,d4,d5,d6,d7⟩:=h.dis;have kF:=hk F (QX h.fr) h.ne.2.1;have kR:=hk R (QX h.res) h.ne.2.2;have kg:=hk g d7 h.ne.1;refine⟨?_,Dn _ _ ho kF.2,(h.row.block kg.1).block (QA W' ⟨F,4,nn⟩ g _ (fun e=>d1 e)),(QA W' ⟨F,4,nn⟩ R _ (fun e=>d2 e.symm)).trans (kR.1.trans h.res),hb.setCell (by exact d4) _,⟨kg.2,kF.2,kR.2⟩,d1,d2,d3,d4,d5,by simpa using (by omega:B<=W'.heap.size),by simpa using (by omega:g<W'.heap.size)⟩;rw[QP W' F 4 _ _ _ (kF.1.trans h.fr)];simp
def I9 {ci:Int} {ops:Array Oper} {o:Oper} {a:Act} {K:Act->Wd->Prop} {Q:Exit->Act->Wd->Prop} {E:Prop} (w0 wr W:Wd) (hW:W=wr.alloc (.cells #[I .u8 ci] 5)) (hgd:o.guard=nn) (s x:Operand)
  (ho:o.op = .call { callee:=.builtin .append,args:=#[s,x],argTypes:=#[65,65] })
  (B:Nat) (v:Value) (l:List Nat) (c:Nat) (hci:ci=(c:Int)) (hs:a.eval s=v) (hown:aa wr B v l)
  (hx:a.eval x = sL (sQ ⟨wr.heap.size,0,nn⟩) 1 1) (hlen:l.length<=100000000) (hB:B<=wr.heap.size) (hbel:Below B w0 wr)
  (h:∀ v' w',aa w' B v' (l++[c])->Below B w0 w'->(∀ g,g<wr.heap.size->v.ownBlock≠sQ g->w'.heap[g]?=wr.heap[g]?/\v'.ownBlock≠sQ g)->wr.heap.size<=w'.heap.size->K (a.put o.dst v') w') :
  if Region.wanted o (yielded ops a.tmps)=true then Oper.wp Tp o a W K Q else E:=by
 subst hci hW;obtain⟨i0,hi,hz0,hz1,hz2⟩:=QW info5;refine step_append_lies _ hgd s x 65 ho B 5 i0 (I .u8 0) 1 1 underlying65 hi hz0 hz1 hz2 rfl (by decide) v l.length (bv l) hs (QM hown _) ⟨wr.heap.size,0,nn⟩ 1 1 [I .u8 (c:Int)] hx rfl ?_ ?_ (by decide) ?_ ?_ ?_ (wr.heap.size+1) pQ ?_
 .intro j u hj;match j,hj with
  | 0,hj=>simp at hj;subst hj;simp[Addr.add]
 .intro u hu;simp at hu;subst hu;rfl
 .unfold maxLen;omega
 .omega
 .simp;omega
 .intro gg cap w' ho' hg hat hlt;have hr:∀ k,v.ownBlock=sQ k->B<=k:=fun k hk=>(QB hown k hk).1;have e1:bv (l++[c])=bv l++[I .u8 (c:Int)]:=by simp[bv]
  refine h (sL (sQ ⟨gg,0,nn⟩) (l.length+1) cap) w' ?_ ((hbel.alloc hB _).grown hg (by simp;omega) hr) (fun g hgl hne=>⟨?_,?_⟩) (nT pQ hg.size)
  .unfold aa;rw[e1,qe];exact ho'
  .exact (hg.block g (by simp;omega) (fun e=>hne e.symm)).trans (Below.heap_alloc wr _ g hgl)
  .intro e;simp[Value.ownBlock] at e;rcases hat with hat|hat
   .exact hne (e ▸ hat)
   .omega
def LZ (k:Nat) (h:k<=110):IntKind.i64.wrap ((k:Int)+8)=(k:Int)+8:=by
 simp[IntKind.wrap,IntKind.bits,IntKind.signed];omega
def JW (h:sdI w0 B R F g off cap p e i r d v l W)
  (hk:∀ g,g<W.drew.heap.size->v.ownBlock≠sQ g->W'.heap[g]?=W.drew.heap[g]?/\v'.ownBlock≠sQ g):W'.cell? ⟨F,4,nn⟩=sQ v/\W'.frozen? ⟨F,4,nn⟩=false:=by
 have h1:=(hk F (QX h.fr) h.ne.2.1).1.trans h.fr;constructor <;> simp[World.cell?,World.frozen?,h1]
def aa.shapeB (h:aa w B v l):∃ ao cap,v = sL ao l.length cap:=by
 obtain⟨_,⟨rfl,h0⟩|⟨g,cap,cur,rfl,_⟩⟩:=h
 .exact⟨nn,0,by rw[h0]⟩
 .exact⟨_,cap,rfl⟩
def eL (p:List Nat) (H j:Nat):List Nat:=(List.range j).map fun t=>cJ ((p.drop (H+8*t)).take 8)
def Iz (p:List Nat) (H j:Nat):eL p H (j+1)=eL p H j++[cJ ((p.drop (H+8*j)).take 8)]:=by
 unfold eL;rw[List.range_succ,List.map_append];rfl
def sdI.start (d:Nat) (hr:w1.heap[w.heap.size]?=sQ (.cells #[bO false,I Zk 0,bO false,I J 0,sL nn 0 0] 67 (0,0))) (hb:Bl w w1) (hp:iB w1 (sQ ⟨g,0,nn⟩) p.length cap p) (hg:w.heap.size<g) (hg2:g<w1.heap.size) (e:Bool) :
  sdI w w.heap.size w.heap.size (w1.heap.size+1) g 0 cap p e 0 false d (sL (sQ ⟨w1.heap.size,0,nn⟩) 0 0) [] ((w1.alloc (.cells #[] 5)).alloc (.cells #[bO e,I Zk 0,bO false,I J (d:Int),sL (sQ ⟨w1.heap.size,0,nn⟩) 0 0] 67)):=by
 have hz:=hb.size;have hB:Bl w1 ((w1.alloc (.cells #[] 5)).alloc (.cells #[bO e,I Zk 0,bO false,I J (d:Int),sL (sQ ⟨w1.heap.size,0,nn⟩) 0 0] 67)):=Zw.alloc pQ _;have e1:(w1.alloc (.cells #[] 5)).heap.size=w1.heap.size+1:=pQ;refine⟨?_,QM (gB w1 w.heap.size hz) _,hp.below hB,(hB.block _ om).trans hr,hb.trans (hB.mono hz),⟨?_,?_,?_⟩,om,om,om,om,nR _,by simp;omega,by simp;omega⟩
 .have:=QN (w1.alloc (.cells #[] 5)) (.cells #[bO e,I Zk 0,bO false,I J (d:Int),sL (sQ ⟨w1.heap.size,0,nn⟩) 0 0] 67);rw[e1] at this;exact this
 .simp[Value.ownBlock];omega
 .simp[Value.ownBlock]
 .simp[Value.ownBlock];omega
def Hl (l:List Nat) (m n:Nat) (h:l.length<=m) (hn:2 ^ m<=n):cJ l<n:=nL (nE l) (nT (qt (by decide) h) hn)
def GU (l:List Nat):cJ (l.take 11)<2048:=Hl _ 11 _ (by rw[qj];omega) (by decide)
def Hm (l:List Nat):cJ (l.take 8)<256:=Hl _ 8 _ (by rw[qj];omega) (by decide)
def Iq (l m:List Nat):cJ (l.take 11++m.take 18)<536870912:=Hl _ 29 _ (by rw[qe,qj,qj];omega) (by decide)
def sdI.drew (h:sdI w0 B R F g off cap p e i r d v l W):sdI w0 B R F g off cap p e i r d v l W.drew:=
 ⟨h.fr,World.ownsRow.drew h.own,h.row.below (bW _ _).drew,h.res,h.bel.drew,h.ne,h.dis⟩
def KP (h:sdI w0 B B F g off cap p e i r d v l W) (x0 x1 x2 x3 x4:Value) :
  aa (((((W.setCell ⟨B,0,nn⟩ x0).setCell ⟨B,1,nn⟩ x1).setCell ⟨B,2,nn⟩ x2).setCell ⟨B,3,nn⟩ x3).setCell ⟨B,4,nn⟩ x4) B v l/\Below B w0 (((((W.setCell ⟨B,0,nn⟩ x0).setCell ⟨B,1,nn⟩ x1).setCell ⟨B,2,nn⟩ x2).setCell ⟨B,3,nn⟩ x3).setCell ⟨B,4,nn⟩ x4):=by
 have n:=h.ne.2.2;exact⟨Dn _ _ (Dn _ _ (Dn _ _ (Dn _ _ (Dn _ _ h.own n) n) n) n) n,((((h.bel.setCell (p:=⟨B,0,nn⟩) (nR _) _).setCell (p:=⟨B,1,nn⟩) (nR _) _).setCell (p:=⟨B,2,nn⟩) (nR _) _).setCell (p:=⟨B,3,nn⟩) (nR _) _).setCell (p:=⟨B,4,nn⟩) (nR _) _⟩
def JC (v:Value):Prop:=∀ n c,v≠sL nn n c
def aa.ptr (h:aa w B v l) (hl:l≠[]):JC v:=by
 obtain⟨g,cap,rfl,_⟩:=h.open hl;intro n c e;cases e
def J5 (p:List Nat) (H j:Nat):eL p H (j+1)≠[]:=fun e=>by
 have:=congrArg List.length e;simp[eL] at this
def Ih (c:Nat) (hc:c=1\/c=2) (s:ByteArray) (w:Wd) (hs:s.size<=maxLen) (p:List Nat) (dd:Bool) (hz:swZ s=(c,p,dd)) (hH:aY p=19) :
  Calls Tp 68 #[.string s] w fun e w'=>∃ ao cap,e = rT (.tuple #[frV false (cJ ((p.drop 1).take 11)) (decide (p.getD 12 0=49)) ((cJ ((p.drop 15).take 4):Nat):Int) ao (eL p 19 (kP p)).length cap,I J (c:Int)])/\aa w' w.heap.size (sL ao (eL p 19 (kP p)).length cap) (eL p 19 (kP p))/\Bl w w'/\ao≠nn:=by
 obtain⟨cc,hcc⟩ : ∃ cc:Int,cc=(c:Int):=⟨_,rfl⟩
 rcases hc with rfl|rfl;all_goals
  have HCC:=MF hcc;clear hcc;have HS:Hid (s.size<=maxLen):=hs;clear hs;obtain⟨hpl,hps⟩:=vJ s;have h12:=JU s (by rw[hz];simp);have HW:=tv s;rw[hz] at hpl hps h12 HW;dsimp only at hpl hps h12 HW;have HW':=MF HW;clear HW hz;have hl2:=uT h12.1;go_enter func68,ntmps68;go_wp2_with fail;refine (HW'.o _ HS.o).mono ?_;rintro e w1 ⟨v,rfl,ho,hb1⟩;obtain⟨hr,hb⟩:=Jv hb1;have hsm:∀ x ∈ p,x<256:=fun x hx=>by rcases hps x hx with h | h <;> omega
  obtain⟨g,cap,rfl,hg1,hg2,-,-,-⟩:=ho.open (by intro e;rw[e] at h12;simp at h12);obtain⟨ao,cap',hv',hby⟩:=ho.bytes hsm;cases hv';have H81:Hid (Calls Tp 72 #[sL (sQ ⟨g,0,nn⟩) p.length cap] w1 fun e w'=>e = rT (.tuple #[I J ((aR p).1:Nat),I J ((aR p).2:Nat)])/\w1=w'):=iy w1 _ _ cap _ hby om;have hl1:(aR p).1=19:=by
   unfold aR;rw[qa om,qa om];exact hH
  rw[hl1,hl2] at H81;have hcap:=hby.cap;have hE:cv p=19+8*kP p:=by unfold cv;rw[hH]
  have hN:=IK p;have HV:Hid (∀ W a m,m<=40->Calls Tp 73 #[.string (ae ((p.drop a).take m))] W fun e w'=>e = rT (I J (cJ ((p.drop a).take m):Nat))/\W=w'):=fun W a m hm=>IP W (fun x hx=>hsm x (List.mem_of_mem_drop (qK hx))) (by rw[qj];omega);have hn2:=h12.2;have HST:Hid (∀ d,sdI w w.heap.size w.heap.size (w1.heap.size+1) g 0 cap p false 0 false d (sL (sQ ⟨w1.heap.size,0,nn⟩) 0 0) [] ((w1.alloc (.cells #[] 5)).alloc (.cells #[bO false,I Zk 0,bO false,I J (d:Int),sL (sQ ⟨w1.heap.size,0,nn⟩) 0 0] 67))):=fun d=>sdI.start d hr hb hby (by simp at hg1;omega) hg2 false;have HCV:Hid (∀ W a m,a+m<=p.length->0<m->iB W (sQ ⟨g,0,nn⟩) p.length cap p->(convert 65 9 (sL (sQ ⟨g,a,nn⟩) m (cap-a))).run Tp W = .ok (.string (ae ((p.drop a).take m))) W):=by
   intro W a m h1 h2 h3;have:=ka (h3.sub a m (cap-a) om h2 om);rwa [qi] at this
  have hcv1:=HCV.o w1 15 4 om (by decide) hby;clear hl1 hl2 hb1 hby ho hps hH h12 hsm hr hb;generalize hn:p.length=n at *;generalize cv p=E at *;generalize hNe:kP p=N at *;have HNE:Hid (kP p=N):=hNe;clear hNe;have hv4:cJ ((p.drop 15).take 4)<16:=uo _;have hv11:cJ ((p.drop 1).take 11)<2048:=GU _;go_wp2_with (first | (go_at_call 72;refine H81.o.mono ?_;rintro e w2 ⟨rfl,rfl⟩) | (go_at_call 73;refine (HV.o _ 15 4 (by decide)).mono ?_;rintro e w2 ⟨rfl,rfl⟩));have st:=HST.o (cJ ((p.drop 15).take 4));have hcv2:=HCV.o _ 1 11 om (by decide) (by have:=st.row;rw[hn] at this;exact this);rw[hcv2];clear hcv1 hcv2 H81 HST;generalize (w1.alloc (.cells #[] 5)).alloc (.cells #[bO false,I Zk 0,bO false,I J (cJ ((p.drop 15).take 4):Nat),sL (sQ ⟨w1.heap.size,0,nn⟩) 0 0] 67)=W2 at *;generalize w1.heap.size+1=F at *;have HV11:=HV.o W2 1 11 (by decide);generalize ht11:ae ((p.drop 1).take 11)=t11 at *;generalize hv11e:cJ ((p.drop 1).take 11)=v11 at *;generalize hv4e:cJ ((p.drop 15).take 4)=v4 at *;have HV11E:Hid (cJ ((p.drop 1).take 11)=v11):=hv11e;have HV4E:Hid (cJ ((p.drop 15).take 4)=v4):=hv4e;have HT:Hid (ae ((p.drop 1).take 11)=t11):=ht11;clear hv11e hv4e ht11;have c12:=(st.set v11).row.at 12 om;obtain⟨d0,d1,d2,d3,d4,z0,z1,z2,z3,z4⟩:=st.cells;have ST:Hid (sdI w w.heap.size w.heap.size F g 0 cap p false 0 false v4 (sL (sQ ⟨w1.heap.size,0,nn⟩) 0 0) [] W2):=st;clear st;rw[qi] at c12;generalize hx12:p.getD 12 0=x12 at *;have HX12:Hid (p.getD 12 0=x12):=hx12;clear hx12;go_wp2_with (go_at_call 73;refine HV11.mono ?_;rintro e w2 ⟨rfl,rfl⟩);have st:=(ST.o.set v11).setr ((x12:Int) == 49);generalize (W2.setCell ⟨F,1,nn⟩ (I Zk (v11:Int))).setCell ⟨F,2,nn⟩ (bO ((x12:Int) == 49))=W3 at *;generalize hr12:((x12:Int) == 49)=r12 at *;have HR:Hid (decide (p.getD 12 0=49)=r12):=by unfold Hid;rw[HX12.o,<- hr12,qk];simp;omega
  clear hr12;clear ST HV11 d0 d1 d2 d3 d4 z0 z1 z2 z3 z4 c12 hg1 hg2;go_loopw [10] (fun kk wr=>∃ j k v,j<=N/\k=19+8*j/\kk = I J ((k:Nat):Int)/\JC v/\sdI w w.heap.size w.heap.size F g 0 cap p false v11 r12 v4 v (eL p 19 j) wr) (fun kk _=>27+8*N-(intOf kk).toNat);case atStart=>exact⟨0,19,sL (sQ ⟨w1.heap.size,0,nn⟩) 0 0,nZ _,rfl,rfl,(fun n c e=>by cases e),by simpa[eL] using st⟩
  case round=>
   clear st;obtain⟨j,k,v,hj,hk,rfl,hnv,st⟩:=hrel;by_cases hlt:j<N
   .have hlt':(k:Int)+8<=19+8*(N:Int):=om;have hcv:=HCV.o wr.drew k 8 om (by decide) (by have:=st.row;rw[hn] at this;exact this.below (bW _ _).drew);have HV8:Hid (∀ W,Calls Tp 73 #[.string (ae ((p.drop k).take 8))] W fun e w'=>e = rT (I J (cJ ((p.drop k).take 8):Nat))/\W=w'):=fun W=>HV.o W k 8 (by decide);have HLN:Hid ((eL p 19 j).length<=100000000):=by unfold Hid eL;simp;omega
    have HLB:Hid (w.heap.size<=wr.drew.heap.size):=st.dis.2.2.2.2.2.1;have HD:Hid (eL p 19 (j+1)=eL p 19 j++[cJ ((p.drop k).take 8)]):=by unfold Hid;rw[hk];exact Iz p 19 j
    have hv8:cJ ((p.drop k).take 8)<256:=Hm _;generalize ae ((p.drop k).take 8)=t8 at *;generalize cJ ((p.drop k).take 8)=v8 at *;obtain⟨d0,d1,d2,d3,d4,z0,z1,z2,z3,z4⟩:=st.cells;have ST:Hid (sdI w w.heap.size w.heap.size F g 0 cap p false v11 r12 v4 v (eL p 19 j) wr):=st;clear st;have HU8:Hid (IntKind.u8.wrap (v8:Int)=(v8:Int)):=by unfold Hid;simp[IntKind.wrap,IntKind.bits,IntKind.signed];omega
    have hFl:F<wr.heap.size:=QX ST.o.fr;have d4a:(wr.alloc (.cells #[I .u8 (IntKind.u8.wrap (v8:Int))] 5)).cell? ⟨F,4,nn⟩=sQ v:=by rw[<- d4];simp only[World.cell?];rw[Below.heap_alloc wr _ F hFl]
    have hkk:k+8<=n:=om;have hkc:k+8<=cap:=om;have hk9:k<=110:=om;have HK:Hid (k=19+8*j):=hk;have HJ:Hid (j<N):=hlt;have i1:(k:Int)+8<=(cap:Int):=om;have i2:(k:Int)<=(k:Int)+8:=om;have hck:¬ cap=k:=om;have hw8:IntKind.i64.wrap ((k:Int)+8)=((k+8:Nat):Int):=by rw[LZ k hk9];omega
    have hk8:((k:Int)+8).toNat-k=8:=om;clear hk hlt hj;go_wp2_with fail;go_region_law (first | (go_simp;go_at_call 73;refine (HV8.o _).mono ?_;rintro e w2 ⟨rfl,rfl⟩) | (refine I9 w wr.drew _ rfl (by rfl) _ _ (by rfl) w.heap.size v (eL p 19 j) v8 HU8.o (by rfl) (World.ownsRow.drew ST.o.own) (by rfl) HLN.o HLB.o ST.o.bel.drew ?_;intro v' w3 ho3 hb3 hk3 hz3;obtain⟨y4,f4⟩:=JW ST.o hk3;obtain⟨ao3,cp3,rfl⟩:=ho3.shapeB));all_goals
     have st3:=ST.o.app (W':=w3) ho3 hb3 hk3 hz3;rw[show (eL p 19 j++[v8]).length=(eL p 19 j).length+1 by simp,<- HD.o] at st3;go_wp2;go_roundw;case rel=>exact⟨j+1,k+8,_,HJ.o,by have:=HK.o;omega,by go_num,st3.own.ptr (J5 _ _ _),st3⟩
     case measure=>have:=HK.o;have:=HJ.o;simp[intOf];omega
   .have hlt':¬ (k:Int)+8<=19+8*(N:Int):=om;have hjN:j=N:=om;subst hjN;obtain⟨ao3,cp3,rfl⟩:=st.own.shapeB;obtain⟨d0,d1,d2,d3,d4,z0,z1,z2,z3,z4⟩:=st.cells;obtain⟨e0,e1,e2,e3,e4,y0,y1,y2,y3,y4⟩:=st.cellsR;have ST:Hid (sdI w w.heap.size w.heap.size F g 0 cap p false v11 r12 v4 (sL ao3 (eL p 19 j).length cp3) (eL p 19 j) wr):=st;clear st;go_wp2;have he:=KP ST.o (bO false) (I Zk (v11:Int)) (bO r12) (I J (v4:Int)) (sL ao3 (eL p 19 j).length cp3);have hcc:=HCC.o;refine QE (v:=.tuple #[frV false v11 r12 (v4:Int) ao3 (eL p 19 j).length cp3,I J cc]) (by rw[hcc];simp[results,results68,go_sem,e0,e1,e2,e3,e4]) rfl ⟨ao3,cp3,?_,?_,?_⟩
    .have q1:=HV11E.o;have q2:=HR.o;rw[List.drop_one] at q1;rw[ql] at q2;rw[HNE.o,HV4E.o,q1,q2,hcc];try rfl
    .rw[HNE.o];exact he.1
    .exact⟨he.2,fun e=>by subst e;exact hnv _ _ rfl⟩
def Ig (c:Nat) (hc:c=1\/c=2) (s:ByteArray) (w:Wd) (hs:s.size<=maxLen) (p:List Nat) (dd:Bool) (hz:swZ s=(c,p,dd)) (hH:aY p=39) :
  Calls Tp 68 #[.string s] w fun e w'=>∃ ao cap,e = rT (.tuple #[frV true (cJ ((p.drop 1).take 11++(p.drop 14).take 18)) (decide (p.getD 32 0=49)) ((cJ ((p.drop 35).take 4):Nat):Int) ao (eL p 39 (kP p)).length cap,I J (c:Int)])/\aa w' w.heap.size (sL ao (eL p 39 (kP p)).length cap) (eL p 39 (kP p))/\Bl w w'/\ao≠nn:=by
 obtain⟨cc,hcc⟩ : ∃ cc:Int,cc=(c:Int):=⟨_,rfl⟩
 rcases hc with rfl|rfl;all_goals
  have HCC:=MF hcc;clear hcc;have HS:Hid (s.size<=maxLen):=hs;clear hs;obtain⟨hpl,hps⟩:=vJ s;have h12:=JU s (by rw[hz];simp);have HW:=tv s;rw[hz] at hpl hps h12 HW;dsimp only at hpl hps h12 HW;have HW':=MF HW;clear HW hz;have hl2:=uT h12.1;go_enter func68,ntmps68;go_wp2_with fail;refine (HW'.o _ HS.o).mono ?_;rintro e w1 ⟨v,rfl,ho,hb1⟩;obtain⟨hr,hb⟩:=Jv hb1;have hsm:∀ x ∈ p,x<256:=fun x hx=>by rcases hps x hx with h | h <;> omega
  obtain⟨g,cap,rfl,hg1,hg2,-,-,-⟩:=ho.open (by intro e;rw[e] at h12;simp at h12);obtain⟨ao,cap',hv',hby⟩:=ho.bytes hsm;cases hv';have H81:Hid (Calls Tp 72 #[sL (sQ ⟨g,0,nn⟩) p.length cap] w1 fun e w'=>e = rT (.tuple #[I J ((aR p).1:Nat),I J ((aR p).2:Nat)])/\w1=w'):=iy w1 _ _ cap _ hby om;have hl1:(aR p).1=39:=by
   unfold aR;rw[qa om,qa om];exact hH
  rw[hl1,hl2] at H81;have hcap:=hby.cap;have hE:cv p=39+8*kP p:=by unfold cv;rw[hH]
  have hN:=IK p;have HV:Hid (∀ W a m,m<=40->Calls Tp 73 #[.string (ae ((p.drop a).take m))] W fun e w'=>e = rT (I J (cJ ((p.drop a).take m):Nat))/\W=w'):=fun W a m hm=>IP W (fun x hx=>hsm x (List.mem_of_mem_drop (qK hx))) (by rw[qj];omega);have hn2:=h12.2;have HST:Hid (∀ d,sdI w w.heap.size w.heap.size (w1.heap.size+1) g 0 cap p true 0 false d (sL (sQ ⟨w1.heap.size,0,nn⟩) 0 0) [] ((w1.alloc (.cells #[] 5)).alloc (.cells #[bO true,I Zk 0,bO false,I J (d:Int),sL (sQ ⟨w1.heap.size,0,nn⟩) 0 0] 67))):=fun d=>sdI.start d hr hb hby (by simp at hg1;omega) hg2 true;have HCV:Hid (∀ W a m,a+m<=p.length->0<m->iB W (sQ ⟨g,0,nn⟩) p.length cap p->(convert 65 9 (sL (sQ ⟨g,a,nn⟩) m (cap-a))).run Tp W = .ok (.string (ae ((p.drop a).take m))) W):=by
   intro W a m h1 h2 h3;have:=ka (h3.sub a m (cap-a) om h2 om);rwa [qi] at this
  have hcv1:=HCV.o w1 35 4 om (by decide) hby;have HV29:Hid (∀ W,Calls Tp 73 #[.string (ae ((p.drop 1).take 11)++ae ((p.drop 14).take 18))] W fun e w'=>e = rT (I J (cJ ((p.drop 1).take 11++(p.drop 14).take 18):Nat))/\W=w'):=by
   intro W;rw[bQ];refine IP W (fun x hx=>?_) (by rw[qe,qj,qj];omega);rw[qB] at hx;rcases hx with hx | hx <;> exact hsm x (List.mem_of_mem_drop (qK hx))
  have hv29:cJ ((p.drop 1).take 11++(p.drop 14).take 18)<536870912:=Iq _ _;clear hl1 hl2 hb1 hby ho hps hH h12 hsm hr hb;generalize hn:p.length=n at *;generalize cv p=E at *;generalize hNe:kP p=N at *;have HNE:Hid (kP p=N):=hNe;clear hNe;have hv4:cJ ((p.drop 35).take 4)<16:=uo _;have hv11:cJ ((p.drop 1).take 11)<2048:=GU _;go_wp2_with (first | (go_at_call 72;refine H81.o.mono ?_;rintro e w2 ⟨rfl,rfl⟩) | (go_at_call 73;refine (HV.o _ 35 4 (by decide)).mono ?_;rintro e w2 ⟨rfl,rfl⟩));have st:=HST.o (cJ ((p.drop 35).take 4));have hcv2:=HCV.o _ 1 11 om (by decide) (by have:=st.row;rw[hn] at this;exact this);rw[hcv2];clear hcv1 hcv2 H81 HST;generalize (w1.alloc (.cells #[] 5)).alloc (.cells #[bO true,I Zk 0,bO false,I J (cJ ((p.drop 35).take 4):Nat),sL (sQ ⟨w1.heap.size,0,nn⟩) 0 0] 67)=W2 at *;generalize w1.heap.size+1=F at *;have HV11:=HV.o W2 1 11 (by decide);generalize hv29e:cJ ((p.drop 1).take 11++(p.drop 14).take 18)=v29 at *;have HV29E:Hid (cJ ((p.drop 1).take 11++(p.drop 14).take 18)=v29):=hv29e;clear hv29e;generalize ht11:ae ((p.drop 1).take 11)=t11 at *;generalize hv11e:cJ ((p.drop 1).take 11)=v11 at *;generalize hv4e:cJ ((p.drop 35).take 4)=v4 at *;have HV11E:Hid (cJ ((p.drop 1).take 11)=v11):=hv11e;have HV4E:Hid (cJ ((p.drop 35).take 4)=v4):=hv4e;have HT:Hid (ae ((p.drop 1).take 11)=t11):=ht11;clear hv11e hv4e ht11;have c12:=(st.set v11).row.at 12 om;obtain⟨d0,d1,d2,d3,d4,z0,z1,z2,z3,z4⟩:=st.cells;have ST:Hid (sdI w w.heap.size w.heap.size F g 0 cap p true 0 false v4 (sL (sQ ⟨w1.heap.size,0,nn⟩) 0 0) [] W2):=st;clear st;rw[qi] at c12;generalize hx12:p.getD 12 0=x12 at *;have HX12:Hid (p.getD 12 0=x12):=hx12;clear hx12;go_wp2_with (go_at_call 73;refine HV11.mono ?_;rintro e w2 ⟨rfl,rfl⟩);have st:=(ST.o.set v11).setr ((x12:Int) == 49);generalize (W2.setCell ⟨F,1,nn⟩ (I Zk (v11:Int))).setCell ⟨F,2,nn⟩ (bO ((x12:Int) == 49))=W3 at *;clear ST HV11 d0 d1 d2 d3 d4 z0 z1 z2 z3 z4 c12;obtain⟨d0,d1,d2,d3,d4,z0,z1,z2,z3,z4⟩:=st.cells;have hrow:iB W3.drew (sQ ⟨g,0,nn⟩) n cap p:=by have:=st.row;rw[hn] at this;exact this.below (bW _ _).drew
  have hcvA:=HCV.o W3.drew 1 11 om (by decide) hrow;have hcvB:=HCV.o W3.drew 14 18 om (by decide) hrow;rw[HT.o] at hcvA;have hs11:t11.size<=11:=by rw[<- HT.o,aN,qj];omega
  have hs18:(ae ((p.drop 14).take 18)).size<=18:=by rw[aN,qj];omega
  generalize ht18:ae ((p.drop 14).take 18)=t18 at *;have HT18:Hid (ae ((p.drop 14).take 18)=t18):=ht18;clear ht18;have c12:=(st.set v29).row.at 32 om;rw[qi] at c12;generalize hx32:p.getD 32 0=x32 at *;have HX32:Hid (p.getD 32 0=x32):=hx32;clear hx32 hrow;have ST3:Hid (sdI w w.heap.size w.heap.size F g 0 cap p true v11 ((x12:Int) == 49) v4 (sL (sQ ⟨w1.heap.size,0,nn⟩) 0 0) [] W3):=st;clear st;generalize ((x12:Int) == 49)=r0 at *;have i1:(12:Int)<=(cap:Int):=om;have i2:(32:Int)<=(cap:Int):=om;have i3:¬ cap=1:=om;have i4:¬ cap=14:=om;have i5:¬ 9223372036854775807<t11.size+t18.size:=om;have hw29:IntKind.u32.wrap (v29:Int)=(v29:Int):=by simp[IntKind.wrap,IntKind.bits,IntKind.signed];omega
  have hrow2:iB (W3.setCell ⟨F,1,nn⟩ (I Zk (v29:Int))).drew (sQ ⟨g,0,nn⟩) n cap p:=by have:=(ST3.o.set v29).row;rw[hn] at this;exact this.below (bW _ _).drew
  have HS0:Hid ((convert 65 9 (sL (sQ ⟨g,1,nn⟩) 11 (cap-1))).run Tp W3.drew = .ok (.string t11) W3.drew/\(convert 65 9 (sL (sQ ⟨g,14,nn⟩) 18 (cap-14))).run Tp W3.drew = .ok (.string t18) W3.drew):=⟨hcvA,hcvB⟩
  have HS1:Hid (∀ V,V=(W3.setCell ⟨F,1,nn⟩ (I Zk (v29:Int))).drew->(convert 65 9 (sL (sQ ⟨g,1,nn⟩) 11 (cap-1))).run Tp V = .ok (.string t11) V/\(convert 65 9 (sL (sQ ⟨g,14,nn⟩) 18 (cap-14))).run Tp V = .ok (.string t18) V):=by
   rintro V rfl;have h1:=HCV.o _ 1 11 om (by decide) hrow2;have h2:=HCV.o _ 14 18 om (by decide) hrow2;rw[HT.o] at h1;rw[HT18.o] at h2;exact⟨h1,h2⟩
  clear hrow2 hcvA hcvB;go_region_held3 (fun V=>(convert 65 9 (sL (sQ ⟨g,1,nn⟩) 11 (cap-1))).run Tp V = .ok (.string t11) V/\(convert 65 9 (sL (sQ ⟨g,14,nn⟩) 18 (cap-14))).run Tp V = .ok (.string t18) V) (first | exact HS0.o | exact HS1.o _ rfl) (first | (go_at_call 73;refine (HV29.o _).mono ?_;rintro e w2 ⟨rfl,rfl⟩));clear HS0 HS1;go_wp2;have st:=((ST3.o.set v29).setr ((x32:Int) == 49)).drew;generalize ((W3.setCell ⟨F,1,nn⟩ (I Zk (v29:Int))).setCell ⟨F,2,nn⟩ (bO ((x32:Int) == 49))).drew=W4 at *;generalize hr12:((x32:Int) == 49)=r12 at *;have HR:Hid (decide (p.getD 32 0=49)=r12):=by unfold Hid;rw[HX32.o,<- hr12,qk];simp;omega
  have ST:=ST3;have HV11:=ST3;clear hr12 ST3 i1 i2 i3 i4 i5 hw29 hs11 hs18;clear ST HV11 d0 d1 d2 d3 d4 z0 z1 z2 z3 z4 c12 hg1 hg2;go_loopw [10] (fun kk wr=>∃ j k v,j<=N/\k=39+8*j/\kk = I J ((k:Nat):Int)/\JC v/\sdI w w.heap.size w.heap.size F g 0 cap p true v29 r12 v4 v (eL p 39 j) wr) (fun kk _=>47+8*N-(intOf kk).toNat);case atStart=>exact⟨0,39,sL (sQ ⟨w1.heap.size,0,nn⟩) 0 0,nZ _,rfl,rfl,(fun n c e=>by cases e),by simpa[eL] using st⟩
  case round=>
   clear st;obtain⟨j,k,v,hj,hk,rfl,hnv,st⟩:=hrel;by_cases hlt:j<N
   .have hlt':(k:Int)+8<=39+8*(N:Int):=om;have hcv:=HCV.o wr.drew k 8 om (by decide) (by have:=st.row;rw[hn] at this;exact this.below (bW _ _).drew);have HV8:Hid (∀ W,Calls Tp 73 #[.string (ae ((p.drop k).take 8))] W fun e w'=>e = rT (I J (cJ ((p.drop k).take 8):Nat))/\W=w'):=fun W=>HV.o W k 8 (by decide);have HLN:Hid ((eL p 39 j).length<=100000000):=by unfold Hid eL;simp;omega
    have HLB:Hid (w.heap.size<=wr.drew.heap.size):=st.dis.2.2.2.2.2.1;have HD:Hid (eL p 39 (j+1)=eL p 39 j++[cJ ((p.drop k).take 8)]):=by unfold Hid;rw[hk];exact Iz p 39 j
    have hv8:cJ ((p.drop k).take 8)<256:=Hm _;generalize ae ((p.drop k).take 8)=t8 at *;generalize cJ ((p.drop k).take 8)=v8 at *;obtain⟨d0,d1,d2,d3,d4,z0,z1,z2,z3,z4⟩:=st.cells;have ST:Hid (sdI w w.heap.size w.heap.size F g 0 cap p true v29 r12 v4 v (eL p 39 j) wr):=st;clear st;have HU8:Hid (IntKind.u8.wrap (v8:Int)=(v8:Int)):=by unfold Hid;simp[IntKind.wrap,IntKind.bits,IntKind.signed];omega
    have hFl:F<wr.heap.size:=QX ST.o.fr;have d4a:(wr.alloc (.cells #[I .u8 (IntKind.u8.wrap (v8:Int))] 5)).cell? ⟨F,4,nn⟩=sQ v:=by rw[<- d4];simp only[World.cell?];rw[Below.heap_alloc wr _ F hFl]
    have hkk:k+8<=n:=om;have hkc:k+8<=cap:=om;have hk9:k<=110:=om;have HK:Hid (k=39+8*j):=hk;have HJ:Hid (j<N):=hlt;have i1:(k:Int)+8<=(cap:Int):=om;have i2:(k:Int)<=(k:Int)+8:=om;have hck:¬ cap=k:=om;have hw8:IntKind.i64.wrap ((k:Int)+8)=((k+8:Nat):Int):=by rw[LZ k hk9];omega
    have hk8:((k:Int)+8).toNat-k=8:=om;clear hk hlt hj;go_wp2_with fail;go_region_law (first | (go_simp;go_at_call 73;refine (HV8.o _).mono ?_;rintro e w2 ⟨rfl,rfl⟩) | (refine I9 w wr.drew _ rfl (by rfl) _ _ (by rfl) w.heap.size v (eL p 39 j) v8 HU8.o (by rfl) (World.ownsRow.drew ST.o.own) (by rfl) HLN.o HLB.o ST.o.bel.drew ?_;intro v' w3 ho3 hb3 hk3 hz3;obtain⟨y4,f4⟩:=JW ST.o hk3;obtain⟨ao3,cp3,rfl⟩:=ho3.shapeB));all_goals
     have st3:=ST.o.app (W':=w3) ho3 hb3 hk3 hz3;rw[show (eL p 39 j++[v8]).length=(eL p 39 j).length+1 by simp,<- HD.o] at st3;go_wp2;go_roundw;case rel=>exact⟨j+1,k+8,_,HJ.o,by have:=HK.o;omega,by go_num,st3.own.ptr (J5 _ _ _),st3⟩
     case measure=>have:=HK.o;have:=HJ.o;simp[intOf];omega
   .have hlt':¬ (k:Int)+8<=39+8*(N:Int):=om;have hjN:j=N:=om;subst hjN;obtain⟨ao3,cp3,rfl⟩:=st.own.shapeB;obtain⟨d0,d1,d2,d3,d4,z0,z1,z2,z3,z4⟩:=st.cells;obtain⟨e0,e1,e2,e3,e4,y0,y1,y2,y3,y4⟩:=st.cellsR;have ST:Hid (sdI w w.heap.size w.heap.size F g 0 cap p true v29 r12 v4 (sL ao3 (eL p 39 j).length cp3) (eL p 39 j) wr):=st;clear st;go_wp2;have he:=KP ST.o (bO true) (I Zk (v29:Int)) (bO r12) (I J (v4:Int)) (sL ao3 (eL p 39 j).length cp3);have hcc:=HCC.o;refine QE (v:=.tuple #[frV true v29 r12 (v4:Int) ao3 (eL p 39 j).length cp3,I J cc]) (by rw[hcc];simp[results,results68,go_sem,e0,e1,e2,e3,e4]) rfl ⟨ao3,cp3,?_,?_,?_⟩
    .have q1:=HV29E.o;have q2:=HR.o;rw[List.drop_one] at q1;rw[ql] at q2;rw[HNE.o,HV4E.o,q1,q2,hcc];try rfl
    .rw[HNE.o];exact he.1
    .exact⟨he.2,fun e=>by subst e;exact hnv _ _ rfl⟩
def Kz (p:List Nat) (h:cv p<=p.length):dN ((p.take (cv p)).drop (aY p))=eL p (aY p) (kP p):=by
 have hE:cv p=aY p+8*kP p:=rfl;have hl:((p.take (cv p)).drop (aY p)).length=8*kP p:=by rw[Qg,qj];omega
 unfold dN eL;rw[hl,show (8*kP p+7) / 8=kP p by omega];apply Qm;intro j hj;rw[List.mem_range] at hj;rw[List.drop_drop,List.drop_take,List.take_take,Nat.min_eq_left om]
def Ip {k:Wk} (h:Vals k p) (h1:aY p<=p.length) (h2:cv p+24<=p.length) :
  (aY p=19->k.ext=false/\k.id=cJ ((p.drop 1).take 11)/\k.rtr=decide (p.getD 12 0=49)/\k.dlc=cJ ((p.drop 15).take 4)/\k.data=eL p 19 (kP p)) /\
  (aY p=39->k.ext=true/\k.id=cJ ((p.drop 1).take 11++(p.drop 14).take 18)/\k.rtr=decide (p.getD 32 0=49)/\k.dlc=cJ ((p.drop 35).take 4)/\k.data=eL p 39 (kP p)):=by
 have hi:=jl p;have hd:k.data=eL p (aY p) (kP p):=by
  rw[h.data];unfold CL;rw[qa om,Kz p om]
 have hdl:=h.dlc;constructor
 .intro e;have hn:¬ p.getD 13 0=49:=by rw[<- hi,e];decide
  rw[e] at hd hdl;refine⟨by rw[h.ext];simpa using hn,?_,?_,hdl,hd⟩
  .rw[h.id];unfold idL;rw[qa hn,Qv]
  .rw[h.rtr,qa (fun a=>hn a.2)]
 .intro e;have hn:p.getD 13 0=49:=by rw[<- hi,e]
  rw[e] at hd hdl;refine⟨by rw[h.ext];simpa using hn,?_,?_,hdl,hd⟩
  .rw[h.id];unfold idL;rw[qc hn]
  .rw[h.rtr,qc ⟨om,hn⟩]
def vx (s:ByteArray):(bH s).code=(swZ s).1/\((swZ s).1=1\/(swZ s).1=2->Vals (bH s) (swZ s).2.1):=by
 unfold bH swZ;by_cases hk:okT s 4000=true
 .rw[qc hk,qc hk];obtain⟨h1,-,h3⟩:=o9 (lt s) (gC hk);exact⟨h1,fun a=>h3 om⟩
 .rw[qa hk,qa hk];refine⟨rfl,fun a=>?_⟩;rcases a with a | a <;> cases a
def Ic (s:ByteArray) (w:Wd) (hs:s.size<=maxLen) (hc:¬ ((swZ s).1=1\/(swZ s).1=2)) :
  Calls Tp 68 #[.string s] w fun e w'=>e = rT (.tuple #[frV false 0 false 0 nn 0 0,I J ((swZ s).1:Nat)])/\Bl w w':=by
 have HS:Hid (s.size<=maxLen):=hs;clear hs;go_enter func68,ntmps68;go_wp2_with fail;refine (tv s _ HS.o).mono ?_;rintro e w1 ⟨v,rfl,ho,hb1⟩;obtain⟨hr,hb⟩:=Jv hb1;have HO:Hid (aa w1 w.heap.size v (swZ s).2.1):=by
  have h1:(w.alloc (.cells #[bO false,I Zk 0,bO false,I J 0,sL nn 0 0] 67)).heap.size=w.heap.size+1:=pQ;exact ho.lower (by rw[h1];omega)
 obtain⟨ao,cap,rfl⟩:=ho.shapeB;clear ho hb1;generalize hcd:(swZ s).1=code at *;have HCD:Hid ((swZ s).1=code):=hcd;clear hcd;have n1:((code:Int) != 1)=true:=by simp;omega
 have n2:((code:Int) != 2)=true:=by simp;omega
 clear hc;have HB:Hid (Bl w w1):=hb;clear hb;have e0:w1.cell? ⟨w.heap.size,0,nn⟩=sQ (bO false):=by simp[World.cell?,hr]
 have e1:w1.cell? ⟨w.heap.size,1,nn⟩=sQ (I Zk 0):=by simp[World.cell?,hr]
 have e2:w1.cell? ⟨w.heap.size,2,nn⟩=sQ (bO false):=by simp[World.cell?,hr]
 have e3:w1.cell? ⟨w.heap.size,3,nn⟩=sQ (I J 0):=by simp[World.cell?,hr]
 have e4:w1.cell? ⟨w.heap.size,4,nn⟩=sQ (sL nn 0 0):=by simp[World.cell?,hr]
 have y0:w1.frozen? ⟨w.heap.size,0,nn⟩=false:=by simp[World.frozen?,hr]
 have y1:w1.frozen? ⟨w.heap.size,1,nn⟩=false:=by simp[World.frozen?,hr]
 have y2:w1.frozen? ⟨w.heap.size,2,nn⟩=false:=by simp[World.frozen?,hr]
 have y3:w1.frozen? ⟨w.heap.size,3,nn⟩=false:=by simp[World.frozen?,hr]
 have y4:w1.frozen? ⟨w.heap.size,4,nn⟩=false:=by simp[World.frozen?,hr]
 clear hr;go_wp2;refine QE (v:=.tuple #[frV false 0 false 0 nn 0 0,I J (code:Int)]) (by simp[results,results68,go_sem,e0,e1,e2,e3,e4]) rfl ⟨by rw[HCD.o],?_⟩;exact ((((HB.o.setCell (p:=⟨_,0,nn⟩) (nR _) _).setCell (p:=⟨_,1,nn⟩) (nR _) _).setCell (p:=⟨_,2,nn⟩) (nR _) _).setCell (p:=⟨_,3,nn⟩) (nR _) _).setCell (p:=⟨_,4,nn⟩) (nR _) _
def Hp (s:ByteArray) (w:Wd) (hs:s.size<=maxLen) :
  Calls Tp 68 #[.string s] w fun e w'=>∃ ao cap,e = rT (.tuple #[frV (we (bH s)).ext (we (bH s)).id (we (bH s)).rtr ((we (bH s)).dlc:Int) ao (we (bH s)).data.length cap,I J ((bH s).code:Int)])/\aa w' w.heap.size (sL ao (we (bH s)).data.length cap) (we (bH s)).data/\Bl w w'/\((bH s).code=1\/(bH s).code=2->ao≠nn):=by
 obtain⟨hcode,hvals⟩:=vx s;by_cases hc:(swZ s).1=1\/(swZ s).1=2
 .have hv:=hvals hc;have h12:=JU s hc;obtain⟨r1,r2⟩:=Ip hv h12.1 h12.2;have hk:we (bH s)=bH s:=by unfold we;rw[qc (by rw[hcode];exact hc)]
  rw[hk,hcode];have hz:swZ s=((swZ s).1,(swZ s).2.1,(swZ s).2.2):=rfl;generalize hp:(swZ s).2.1=p at *;generalize hd:(swZ s).2.2=dd at *;clear hp hd;rcases bz p with e|e
  .obtain⟨a1,a2,a3,a4,a5⟩:=r1 e;rw[a1,a2,a3,a4,a5];exact (Ih _ hc s w hs p dd hz e).mono fun o w' ⟨ao,cap,h1,h2,h3,h4⟩=>⟨ao,cap,h1,h2,h3,fun _=>h4⟩
  .obtain⟨a1,a2,a3,a4,a5⟩:=r2 e;rw[a1,a2,a3,a4,a5];exact (Ig _ hc s w hs p dd hz e).mono fun o w' ⟨ao,cap,h1,h2,h3,h4⟩=>⟨ao,cap,h1,h2,h3,fun _=>h4⟩
 .have hk:we (bH s)=Wk.zero:=by unfold we;rw[qa (by rw[hcode];exact hc)]
  rw[hk,hcode];refine (Ic s w hs hc).mono ?_;rintro e w' ⟨rfl,hb⟩;exact⟨nn,0,rfl,pL _ _,hb,fun x=>Qy x hc⟩
end
open Go.IntKind renaming i64->J
def fR (s:ByteArray):R5:=⟨(we (bH s)).ext,(we (bH s)).id,(we (bH s)).rtr,((we (bH s)).dlc:Int),(we (bH s)).data⟩
def IT (p:List Nat) (H N:Nat):(∀ x ∈ eL p H N,x<256)/\(eL p H N).length=N:=by
 unfold eL;refine⟨fun x hx=>?_,pQ⟩;obtain⟨t,_,rfl⟩:=List.mem_map.1 hx;exact Hm _
def GX (s:ByteArray):(∀ x ∈ (fR s).l,x<256)/\(fR s).l.length<=8/\((bH s).code=1\/(bH s).code=2->vB (fR s).e (fR s).i (fR s).r (fR s).d (fR s).l.length=true):=by
 obtain⟨hcode,hvals⟩:=vx s;unfold fR we;by_cases hc:(bH s).code=1\/(bH s).code=2
 .rw[qc hc];have hc':(swZ s).1=1\/(swZ s).1=2:=by rw[<- hcode];exact hc
  have h12:=JU s hc';obtain⟨r1,r2⟩:=Ip (hvals hc') h12.1 h12.2;have hN:=IK (swZ s).2.1;have hlen:=fun H=>(IT (swZ s).2.1 H (kP (swZ s).2.1)).2;rcases bz (swZ s).2.1 with e|e
  .obtain⟨a1,a2,a3,a4,a5⟩:=r1 e;have hd4:=uo ((swZ s).2.1.drop 15);have hi:=GU ((swZ s).2.1.drop 1);refine⟨by show ∀ x ∈ (bH s).data,_;rw[a5];exact (IT _ _ _).1,by show (bH s).data.length<=8;rw[a5,hlen];exact hN,fun _=>?_⟩;show vB (bH s).ext (bH s).id (bH s).rtr ((bH s).dlc:Int) (bH s).data.length=true;have h13:¬ (swZ s).2.1.getD 13 0=49:=fun x=>by unfold aY at e;rw[qc x] at e;omega
   have hlay:(kP (swZ s).2.1:Int)=dl (bH s).rtr ((bH s).dlc:Int):=by
    unfold kP kl dl;rw[qa h13,e,a3,a4];split
    .simp
    .rename_i hh;show ((min (cJ (((swZ s).2.1.drop 15).take 4)) 8:Nat):Int)=_;split <;> omega
   rw[a5,hlen];unfold vB;rw[hlay,a1,a2,a4];simp only[qM,reduceIte,qw,qP,beq_self_eq_true,and_true];exact⟨⟨hi,om⟩,om⟩
  .obtain⟨a1,a2,a3,a4,a5⟩:=r2 e;have hd4:=uo ((swZ s).2.1.drop 35);have hi:=Iq ((swZ s).2.1.drop 1) ((swZ s).2.1.drop 14);refine⟨by show ∀ x ∈ (bH s).data,_;rw[a5];exact (IT _ _ _).1,by show (bH s).data.length<=8;rw[a5,hlen];exact hN,fun _=>?_⟩;show vB (bH s).ext (bH s).id (bH s).rtr ((bH s).dlc:Int) (bH s).data.length=true;have h13:(swZ s).2.1.getD 13 0=49:=Classical.byContradiction fun x=>by unfold aY at e;rw[qa x] at e;omega
   have hlay:(kP (swZ s).2.1:Int)=dl (bH s).rtr ((bH s).dlc:Int):=by
    unfold kP kl dl;rw[qc h13,e,a3,a4];split
    .simp
    .rename_i hh;show ((min (cJ (((swZ s).2.1.drop 35).take 4)) 8:Nat):Int)=_;split <;> omega
   rw[a5,hlen];unfold vB;rw[hlay,a1,a2,a4];simp only[reduceIte,qw,qP,beq_self_eq_true,and_true];exact⟨⟨hi,om⟩,om⟩
 .rw[qa hc];exact⟨by intro x hx;simp[Wk.zero] at hx,by simp[Wk.zero],fun x=>Qy x hc⟩
def Kx (s:ByteArray) (X:World):Calls Tp 288 #[.string s] X fun o w'=>∃ fa fc,o = rT (.tuple #[frV (fR s).e (fR s).i (fR s).r (fR s).d fa (fR s).l.length fc,I J ((bH s).code:Int)])/\(iB w' fa (fR s).l.length fc (fR s).l/\((fR s).l≠[]->∀ g,fa=some g->X.heap.size<=g.block))/\Bl X w':=by
 refine (JM s X).mono ?_;rintro o w' ⟨ao,cap,rfl,ho,hb⟩;obtain⟨a,c,e,hby⟩:=ho.bytes (GX s).1;cases e;refine⟨ao,cap,rfl,⟨hby,fun hl g hg=>?_⟩,hb⟩;obtain⟨g',c',e,h1,_⟩:=ho.open hl;cases e;cases hg;exact h1
def pj (n:Nat):∀ v,cJ (M.num v n)=v % 2 ^ n:=by
 induction n with
 | zero=>intro v;show 0=v % 1;omega
 | succ n ih=>
  intro v;show cJ (M.num (v / 2) n++[48+v % 2])=_;rw[dE,ih];unfold eu;rw[qH,Qs (2 ^ n) 2,Nat.mod_mul];have:v % 2=0\/v % 2=1:=om;rcases this with h | h <;> rw[h] <;> simp <;> omega
def vK (a b:List Nat):∃ t,M.fP (a++b)=M.fP a++t:=by
 induction b using M.jf with
 | h0=>exact⟨[],pQ⟩
 | h1 b c ih=>
  obtain⟨t,ht⟩:=ih;rw[<- qp,M.GD,ht];unfold M.kL;split
  .exact⟨t++[c]++[97-c],pQ⟩
  .exact⟨t++[c],pQ⟩
structure Lay (x:List Nat):Prop where
 isl:∀ y ∈ x,M.isL y
 look:∀ m,m<x.length->cF (x.take m) (x.getD m 0)=0
 fld:∀ m,m<=x.length->ar (x.take m)<=11
def xP (x:List Nat) (m:Nat) (h:m<x.length):x.take (m+1)=x.take m++[x.getD m 0]:=cq x m h
def oI {L S:List Nat} {j:Nat} (h:L.take j=S) (i:Nat) (hi:i<S.length):L.getD i 0=S.getD i 0:=by
 subst h;have:i<L.length/\i<j:=by rw[qj] at hi;omega
 rw[ql,ql,qT this.2]
def iR (x L:List Nat) (hx:Lay x) (hL:∀ y ∈ L,M.isL y) (hS:L.take (M.fP x).length=M.fP x):∀ m,m<=x.length ->
  (∀ i,i<=(M.fP (x.take m)).length->(sw L i).1=0)/\sw L (M.fP (x.take m)).length=(0,x.take m,false)
 | 0,_=>by
  refine⟨fun i hi=>?_,rfl⟩;have:i=0:=by simpa[M.fP] using hi
  subst this;rfl
 | m+1,hm=>by
  obtain⟨h1,h2⟩:=iR x L hx hL hS m om;have hlt:m<x.length:=om;have hc:M.isL (x.getD m 0):=pM hx.isl m hlt;have htk:=xP x m hlt;have hsn:M.fP (x.take (m+1))=M.kL (M.fP (x.take m)) (x.getD m 0):=by rw[htk,M.GD]
  have hfl:=hx.fld (m+1) hm;have hlk:=hx.look m hlt;have hrun:=M.Ek (x.take m) (fun y hy=>hx.isl y (qK hy));have hpre:∃ t,M.fP x=M.kL (M.fP (x.take m)) (x.getD m 0)++t:=by
   have:=vK (x.take (m+1)) (x.drop (m+1));rw[List.take_append_drop,hsn] at this;exact this
  obtain⟨t,ht⟩:=hpre;rw[hsn];rw[htk] at hfl ⊢;generalize x.take m=q at *;generalize x.getD m 0=c at *;generalize M.fP q=out at *;have hlen:(M.fP x).length<=L.length:=by rw[<- hS,qj];omega
  have hget:=fun i hi=>oI hS i hi;rw[ht] at hlen hget
  have hLi:L.getD out.length 0=c:=by
   rw[hget out.length (by unfold M.kL;split <;> simp <;> omega)];unfold M.kL;split <;> simp
  have hil:out.length<L.length:=by
   have:(M.kL out c++t).length >= out.length+1:=by unfold M.kL;split <;> simp <;> omega
   omega
  have hout:L.take out.length=out:=by
   have h3:(L.take (M.fP x).length).take out.length=(M.fP x).take out.length:=by rw[hS]
   rw[List.take_take,ht] at h3;have e1:(M.kL out c++t).take out.length=out:=by
    unfold M.kL;split <;> simp[qp]
   have e2:out.length<=(M.kL out c++t).length:=by unfold M.kL;split <;> simp <;> omega
   rw[e1,Nat.min_eq_left e2] at h3;exact h3
  have htake:L.take (out.length+1)=out++[c]:=by rw[cq L out.length hil,hout,hLi]
  have hs1:sw L (out.length+1)=(0,q++[c],decide ((M.eP (out++[c])).2=5)):=by
   show dW L out.length (sw L out.length)=_;rw[h2];unfold dW;simp only[qM,if_false,hLi,hlk];have hd:=i6 L hL (out.length+1) hil;rw[htake] at hd;have hle:=M.eR (M.eP out) c;rw[<- M.de] at hle;congr 2;rw[qk];simp only[qw,Bool.or_eq_true,qP];rw[hd];constructor
   .rintro⟨a,b⟩;omega
   .intro a;exact⟨om,om⟩
  by_cases h5:(M.eP (out++[c])).2=5
  .have est:M.kL out c=out++[c]++[97-c]:=by unfold M.kL;rw[qc h5]
   rw[est] at ht hlen hget ⊢;have hil2:out.length+1<L.length:=by simp at hlen;omega
   have hLi2:L.getD (out.length+1) 0=97-c:=by
    rw[hget (out.length+1) pQ];simp[ql]
   have htake2:L.take (out.length+2)=out++[c]++[97-c]:=by rw[cq L (out.length+1) hil2,htake,hLi2]
   have hs2:sw L (out.length+2)=(0,q++[c],false):=by
    show dW L (out.length+1) (sw L (out.length+1))=_;rw[hs1];unfold dW;simp only[h5,decide_true,if_true,hLi2,Nat.add_sub_cancel,hLi];rw[qa (M.uV hc).2];have hd:=i6 L hL (out.length+1+1) hil2;rw[htake2,M.de] at hd;have hf1:(M.eP (out++[c])).1=c:=by rw[M.de,M.rv]
    have hh:(M.gl (M.eP (out++[c])) (97-c)).2=1:=by
     unfold M.gl;rw[hf1,qa (M.uV hc).2]
    rw[hh] at hd;have:cW (fun t=>L.getD t 0) (out.length+1+1)=false:=by
     cases hq:cW (fun t=>L.getD t 0) (out.length+1+1)
     .rfl
     .have:=hd.1 hq;omega
    rw[this];rfl
   have hl2:(out++[c]++[97-c]).length=out.length+2:=pQ;rw[hl2];refine⟨fun i hi=>?_,hs2⟩;by_cases a:i<=out.length
   .exact h1 i a
   .rcases (show i=out.length+1\/i=out.length+2 by omega) with rfl|rfl
    .rw[hs1]
    .rw[hs2]
  .have est:M.kL out c=out++[c]:=by unfold M.kL;rw[qa h5]
   rw[est];have hl2:(out++[c]).length=out.length+1:=pQ;rw[hl2];have hs2:sw L (out.length+1)=(0,q++[c],false):=by rw[hs1,qo h5]
   refine⟨fun i hi=>?_,hs2⟩;by_cases a:i<=out.length
   .exact h1 i a
   .have:i=out.length+1:=om;subst this;rw[hs2]
def Bn (q t:List Nat) (h:aY q<=q.length):aY (q++t)=aY q/\kP (q++t)=kP q/\cv (q++t)=cv q:=by
 induction t using M.jf with
 | h0=>simp
 | h1 t c ih=>
  have hH:=bz q;obtain⟨a,b,c'⟩:=ih;have hl:aY (q++t)<=(q++t).length:=by rw[a,qe];omega
  rw[<- qp,cT _ _ (by rw[qe];omega),mZ _ _ hl,fj _ _ hl];exact⟨a,b,c'⟩
def Ft (i:Nat) (r:Bool) (d:Nat) (l t:List Nat):(ag false i r d l++t).getD 13 0=48/\(ag false i r d l++t).getD 12 0=48+r.toNat/\((ag false i r d l++t).drop 15).take 4=M.num d 4/\((ag false i r d l++t).drop 1).take 11=M.num i 11/\(ag false i r d l++t).drop 19=l.flatMap (fun x=>M.num x 8)++t:=by
 have n11:=M.DD 11 i;have n4:=M.DD 4 d;have e:ag false i r d l++t=[48]++(M.num i 11++([48+r.toNat,48,48]++(M.num d 4++(l.flatMap (fun x=>M.num x 8)++t)))):=by
  unfold ag eO;rw[qa (by decide)];show _++M.num 0 1++_++_++_=_;rw[mY];simp
 rw[e];refine⟨?_,?_,?_,?_,?_⟩
 .simp[ql,List.getElem?_append,n11]
 .simp[ql,n11]
 .simp[List.drop_append,n11,qq,n4]
 .simp[n11]
 .simp[List.drop_append,n11,qq,n4]
def Fs (i:Nat) (r:Bool) (d:Nat) (l t:List Nat):(ag true i r d l++t).getD 13 0=49/\(ag true i r d l++t).getD 32 0=48+r.toNat/\((ag true i r d l++t).drop 35).take 4=M.num d 4/\((ag true i r d l++t).drop 1).take 11=M.num (i / 2 ^ 18) 11/\((ag true i r d l++t).drop 14).take 18=M.num i 18/\(ag true i r d l++t).drop 39=l.flatMap (fun x=>M.num x 8)++t:=by
 have n11:=M.DD 11 (i / 2 ^ 18);have n18:=M.DD 18 i;have n4:=M.DD 4 d;have e:ag true i r d l++t=[48]++(M.num (i / 2 ^ 18) 11++([49,49]++(M.num i 18++([48+r.toNat,48,48]++(M.num d 4++(l.flatMap (fun x=>M.num x 8)++t)))))):=by
  unfold ag eO;rw[qc rfl];show _++M.num 0 2++_++_++_=_;rw[CD];simp
 rw[e];generalize M.num (i / 2 ^ 18) 11=A at *;generalize M.num i 18=B at *;refine⟨?_,?_,?_,?_,?_,?_⟩
 .simp[ql,List.getElem?_append,n11]
 .simp[ql,List.getElem?_append,n11,n18]
 .simp[List.drop_append,n11,n18,qq,n4]
 .simp[n11]
 .simp[List.drop_append,n11,n18,qq]
 .simp[List.drop_append,n11,n18,qq,n4]
def CQ (e:Bool):Nat:=if e=true then 39 else 19
structure lG (r:Bool) (d:Nat) (l:List Nat):Prop where
 d15:d<=15
 len:l.length=if r=true then 0 else min d 8
 small:∀ x ∈ l,x<256
def rW (e:Bool) (i:Nat) (r:Bool) (d:Nat) (l t:List Nat) (h:lG r d l) :
  aY (ag e i r d l++t)=CQ e/\kP (ag e i r d l++t)=l.length/\cv (ag e i r d l++t)=(ag e i r d l).length/\CQ e<=(ag e i r d l).length:=by
 have hl:=pr e i r d l;have hd:cJ (M.num d 4)=d:=by rw[pj];have:=h.d15;omega
 have hlen:=h.len;cases e with
 | false=>
  obtain⟨a13,a12,a15,-,-⟩:=Ft i r d l t;have h1:aY (ag false i r d l++t)=19:=by unfold aY;rw[a13];rfl
  have h2:kP (ag false i r d l++t)=l.length:=by
   have hR:kl (ag false i r d l++t)=r:=by
    unfold kl;rw[qa (by rw[a13];decide),a12];cases r <;> rfl
   unfold kP;rw[hR,h1,a15,hd,hlen]
  refine⟨h1,h2,?_,?_⟩
  .unfold cv;rw[h1,h2,hl];rfl
  .rw[hl];exact nA _ _
 | true=>
  obtain⟨a13,a32,a35,-,-,-⟩:=Fs i r d l t;have h1:aY (ag true i r d l++t)=39:=by unfold aY;rw[a13];rfl
  have h2:kP (ag true i r d l++t)=l.length:=by
   have hR:kl (ag true i r d l++t)=r:=by
    unfold kl;rw[qc a13,a32];cases r <;> rfl
   unfold kP;rw[hR,h1,a35,hd,hlen]
  refine⟨h1,h2,?_,?_⟩
  .unfold cv;rw[h1,h2,hl];rfl
  .rw[hl];exact nA _ _
def CK (n H E:Nat) (h:H=19\/H=39) (hn:n<H):aq n H E<=8/\(aq n H E=1->n=0):=by unfold aq;grind (splits:=16)
def zN (n H E:Nat) (h:H=19\/H=39) (hE:H<=E) (hn:H<=n) (h2:n<E+15):aq n H E<=10/\9<=aq n H E:=by unfold aq;grind (splits:=16)
def DZ (n H E:Nat) (h:H=19\/H=39) (hE:H<=E) (hn:n=E+15):aq n H E=11:=by unfold aq;grind (splits:=16)
def CE {q:List Nat} {c:Nat} (h:ar q<=10) (h1:ar q=1->c=48):cF q c=0:=by
 unfold cF;by_cases f1:ar q=1
 .rw[qc f1,h1 f1];rfl
 .rw[qa f1,qa om,qa om,qa om]
def wB (e:Bool) (i:Nat) (r:Bool) (d:Nat) (l c:List Nat) (h:lG r d l) (hc:c.length=15) (hcl:∀ x ∈ c,M.isL x):Lay (ag e i r d l++c):=by
 obtain⟨b1,b2,b3,b4⟩:=rW e i r d l c h;have hx0:(ag e i r d l++c).getD 0 0=48:=by unfold ag;simp
 have hlen:(ag e i r d l++c).length=(ag e i r d l).length+15:=by rw[qe,hc]
 have key:∀ m,m<=(ag e i r d l++c).length->m<aY ((ag e i r d l++c).take m)\/(aY ((ag e i r d l++c).take m)<=m/\cv ((ag e i r d l++c).take m)=(ag e i r d l).length):=by
  intro m hm;by_cases a:m<aY ((ag e i r d l++c).take m)
  .exact .inl a
  .right;have hlt:((ag e i r d l++c).take m).length=m:=by rw[qj];omega
   have:=(Bn ((ag e i r d l++c).take m) ((ag e i r d l++c).drop m) om).2.2;rw[List.take_append_drop,b3] at this;exact⟨om,this.symm⟩
 refine⟨?_,?_,?_⟩
 .intro y hy;rw[qB] at hy;rcases hy with hy|hy
  .exact dI e i r d l y hy
  .exact hcl y hy
 .intro m hm;have hlt:((ag e i r d l++c).take m).length=m:=by rw[qj];omega
  have hH:=bz ((ag e i r d l++c).take m);have hE:=cI ((ag e i r d l++c).take m);have hf:=dG ((ag e i r d l++c).take m);rw[hlt] at hf;rcases key m om with a|⟨a1,a2⟩
  .have:=CK m _ (cv ((ag e i r d l++c).take m)) hH a;refine CE om (fun f1=>?_);have:m=0:=this.2 om;subst this;exact hx0
  .have:=zN m _ _ hH hE a1 om;exact CE om (fun f1=>by omega)
 .intro m hm;have hlt:((ag e i r d l++c).take m).length=m:=by rw[qj];omega
  have hH:=bz ((ag e i r d l++c).take m);have hE:=cI ((ag e i r d l++c).take m);have hf:=dG ((ag e i r d l++c).take m);rw[hlt] at hf;rcases key m hm with a|⟨a1,a2⟩
  .have:=CK m _ (cv ((ag e i r d l++c).take m)) hH a;omega
  .by_cases a3:m<cv ((ag e i r d l++c).take m)+15
   .have:=zN m _ _ hH hE a1 a3;omega
   .have:=DZ m _ _ hH hE om;omega
def df (a:Nat):List Nat:=[49,a,49,49,49,49,49,49,49,49]
def IS (k H E:Nat) (h:H=19\/H=39) (hE:H<=E) (hk:k<10):aq (E+15+k) H E=if k=0 then 11 else if k=1 then 12 else if k=2 then 13 else 14:=by unfold aq;grind (splits:=20)
def xc (H E:Nat) (h:H=19\/H=39) (hE:H<=E):aq (E+15+10) H E=15:=by unfold aq;grind (splits:=20)
def Km (p:List Nat) (E k c:Nat) (hH:aY p<=p.length) (hE:cv p=E) (hp:p.length=E+15+k) (hk:k<10) (hc:k≠1->c=49) (hok:k=2->gn p=true):cF p c=if k=9 then 2 else if k=8 then 1 else 0:=by
 have hf:=dG p;rw[hp,hE,IS k _ _ (bz p) (hE ▸ cI p) hk] at hf;have h2:=uT hH;unfold cF;rw[hf,h2,hE,hp];rcases (show k=0\/k=1\/k=2\/(3<=k/\k<8)\/k=8\/k=9 by omega) with rfl|rfl|rfl|h|rfl|rfl
 .rw[hc (by decide)];rfl
 .rfl
 .rw[hc (by decide),hok rfl];rfl
 .rw[hc om];have:¬ k=0/\¬ k=1/\¬ k=2/\¬ k=9/\¬ k=8:=om;simp[this];rw[qc om,qa om]
 .rw[hc (by decide)];simp
 .rw[hc (by decide)];simp
def gu (e:Bool) (i:Nat) (r:Bool) (d:Nat) (l:List Nat):(ab e i r d l).length=(ag e i r d l).length+15:=by
 unfold ab;rw[qe,M.DD]
def lg (e:Bool) (i:Nat) (r:Bool) (d:Nat) (l:List Nat) (h:lG r d l):Lay (ab e i r d l):=
 wB e i r d l _ h (M.DD _ _) (M.FD _ _)
def ip (a:Nat):(df a).length=10:=rfl
def xR (a k:Nat) (hk:k<10) (h:k≠1):(df a).getD k 0=49:=by
 rcases (show k=0\/k=2\/k=3\/k=4\/k=5\/k=6\/k=7\/k=8\/k=9 by omega) with rfl | rfl | rfl | rfl | rfl | rfl | rfl | rfl | rfl <;> rfl
def iq (a:Nat) (ha:M.isL a):∀ y ∈ df a,M.isL y:=by
 intro y hy;unfold df at hy;simp only[Qw,Qf,or_false] at hy;rcases hy with h | h | h | h | h | h | h | h | h | h <;> first | (rw[h];exact .inr rfl) | (rw[h];exact ha)
def jB (e:Bool) (i:Nat) (r:Bool) (d:Nat) (l t:List Nat) (h:lG r d l) :
  aY (ab e i r d l++t)<=(ab e i r d l++t).length/\cv (ab e i r d l++t)=(ag e i r d l).length:=by
 obtain⟨b1,b2,b3,b4⟩:=rW e i r d l (M.num (M.i8 ((ag e i r d l).map (fun x=>x-48))) 15++t) h;unfold ab;rw[qp,b1,b3];exact⟨by rw[qe];omega,rfl⟩
def vW (e:Bool) (i:Nat) (r:Bool) (d:Nat) (l t:List Nat) (h:lG r d l) (ht:∀ y ∈ t,M.isL y):gn (ab e i r d l++t)=true:=by
 obtain⟨h1,h2⟩:=jB e i r d l t h
 rw[rQ _ (fun y hy=>by
  rw[qB] at hy
  rcases hy with hy|hy
  .exact cQ e i r d l y hy
  .exact ht y hy)]
 unfold oT;rw[uT h1,h2];have hH:=bz (ab e i r d l++t);have hle:=cI (ab e i r d l++t);have hlen:(ab e i r d l++t).length=(ag e i r d l).length+15+t.length:=by rw[qe,gu]
 have e1:(ab e i r d l++t).take (ag e i r d l).length=ag e i r d l:=by
  unfold ab;rw[qp,List.take_left' rfl]
 have e2:((ab e i r d l++t).drop (ag e i r d l).length).take 15=M.num (M.i8 ((ag e i r d l).map (fun x=>x-48))) 15:=by
  unfold ab;rw[qp,List.drop_left' rfl,List.take_left' (M.DD _ _)]
 rw[e1,e2,pj,Qo (M.BV _)];rw[qw];refine⟨qD ?_,qD rfl⟩;omega
def AN (L:List Nat) (j:Nat) (c0:Nat) (p:List Nat) (h:sw L j=(c0,p,false)) (hf:11<ar (p++[L.getD j 0])):sw L (j+1)=(cF p (L.getD j 0),p++[L.getD j 0],false):=by
 show dW L j (sw L j)=_;rw[h];unfold dW;simp only[qM,if_false];have:(decide (ar (p++[L.getD j 0])<=10) || decide (ar (p++[L.getD j 0])=11))=false:=by rw[Bool.or_eq_false_iff];exact⟨qo om,qo om⟩
 rw[this,Bool.and_false]
def mN (e:Bool) (i:Nat) (r:Bool) (d:Nat) (l:List Nat) (a:Nat) (h:lG r d l) (ha:M.isL a):∀ k,k<=10 ->
  sw (M.fP (ab e i r d l)++df a) ((M.fP (ab e i r d l)).length+k)=(if k=10 then 2 else if k=9 then 1 else 0,ab e i r d l++(df a).take k,false)
 | 0,_=>by
  have hx:=lg e i r d l h;have hL:∀ y ∈ M.fP (ab e i r d l)++df a,M.isL y:=by
   intro y hy;rw[qB] at hy;rcases hy with hy|hy
   .exact M.Em _ hx.isl y hy
   .exact iq a ha y hy
  have:=(iR (ab e i r d l) _ hx hL (List.take_left' rfl) (ab e i r d l).length (nR _)).2;rw[List.take_length] at this;simpa using this
 | k+1,hk=>by
  have ih:=mN e i r d l a h ha k om;have hget:(M.fP (ab e i r d l)++df a).getD ((M.fP (ab e i r d l)).length+k) 0=(df a).getD k 0:=by
   rw[ql,qY om,Qp,ql]
  have htk:(df a).take (k+1)=(df a).take k++[(df a).getD k 0]:=cq _ k (by rw[ip];omega);have hl:(ab e i r d l++(df a).take k).length=(ag e i r d l).length+15+k:=by rw[qe,gu,qj,ip];omega
  obtain⟨p1,p2⟩:=jB e i r d l ((df a).take k) h;obtain⟨q1,q2⟩:=jB e i r d l ((df a).take (k+1)) h;have hfl:11<ar (ab e i r d l++(df a).take (k+1)):=by
   rw[dG,q2];have hl':(ab e i r d l++(df a).take (k+1)).length=(ag e i r d l).length+15+(k+1):=by rw[qe,gu,qj,ip];omega
   have hle:=cI (ab e i r d l++(df a).take (k+1));rw[q2] at hle;rw[hl'];by_cases h10:k+1=10
   .have:=xc _ _ (bz _) hle;rw[show (ag e i r d l).length+15+(k+1)=(ag e i r d l).length+15+10 by omega,this];decide
   .rw[IS (k+1) _ _ (bz _) hle om,qa om];split <;> (try split) <;> decide
  rw[htk,<- qp] at hfl ⊢;rw[<- hget] at hfl ⊢;rw[<- Nat.add_assoc,AN _ _ _ _ ih hfl];congr 1
  rw[hget,Km _ _ k _ p1 p2 hl om (fun hk1=>xR a k om hk1) (fun hk2=>by
   subst hk2;exact vW e i r d l _ h (fun y hy=>iq a ha y (qK hy)))]
  rcases (show k=9\/k=8\/k<8 by omega) with rfl|rfl|h8
  .rfl
  .rfl
  .rw[qa om,qa om,qa om,qa om]
def nc (e:Bool) (i:Nat) (r:Bool) (d:Nat) (l:List Nat) (a:Nat) (h:lG r d l) (ha:M.isL a) (j:Nat) (hj:j<=(M.fP (ab e i r d l)).length+10) :
  (sw (M.fP (ab e i r d l)++df a) j).1=if j=(M.fP (ab e i r d l)).length+10 then 2 else if j=(M.fP (ab e i r d l)).length+9 then 1 else 0:=by
 by_cases hs:j<=(M.fP (ab e i r d l)).length
 .have hx:=lg e i r d l h;have hL:∀ y ∈ M.fP (ab e i r d l)++df a,M.isL y:=by
   intro y hy;rw[qB] at hy;rcases hy with hy|hy
   .exact M.Em _ hx.isl y hy
   .exact iq a ha y hy
  have:=(iR (ab e i r d l) _ hx hL (List.take_left' rfl) (ab e i r d l).length (nR _)).1;rw[List.take_length] at this;rw[this j hs,qa om,qa om]
 .obtain⟨k,rfl⟩ : ∃ k,j=(M.fP (ab e i r d l)).length+k:=⟨j-(M.fP (ab e i r d l)).length,om⟩
  rw[mN e i r d l a h ha k om];show (if k=10 then 2 else if k=9 then 1 else 0)=_;rcases (show k=10\/k=9\/k<9 by omega) with rfl|rfl|h9
  .rw[qc rfl,qc rfl]
  .rw[qa (by decide),qc rfl,qa om,qc rfl]
  .rw[qa om,qa om,qa om,qa om]
def xY (L:List Nat):∀ f i,(∀ j,i<=j->j<i+f->av (sw L j).1=true)->swF L f i=sw L (i+f)
 | 0,i,_=>rfl
 | f+1,i,h=>by
  rw[jd,qc (h i (nR _) om),xY L f (i+1) (fun j a b=>h j om om)];congr 1;omega
def sD (L:List Nat) (n:Nat) (hn:n<=L.length):∀ j,j<=n->sw (L.take n) j=sw L j
 | 0,_=>rfl
 | j+1,h=>by
  show dW (L.take n) j (sw (L.take n) j)=dW L j (sw L j);rw[sD L n hn j om]
  have hg:∀ t,t<n->(L.take n).getD t 0=L.getD t 0:=fun t ht=>by
   rw[ql,ql,qT ht]
  have hd:cW (fun t=>(L.take n).getD t 0) (j+1)=cW (fun t=>L.getD t 0) (j+1):=by
   unfold cW;dsimp only;by_cases h5:5<=j+1
   .rw[hg _ om,hg _ om,hg _ om,hg _ om,hg _ om]
   .simp[h5]
  unfold dW;rw[hg j om,hg (j-1) om,hd]
def ie (e:Bool) (i:Nat) (r:Bool) (d:Nat) (l:List Nat) (a:Nat):List Nat:=M.fP (ab e i r d l)++df a
def GP (e:Bool) (i:Nat) (r:Bool) (d:Nat) (l:List Nat) (a:Nat):(ie e i r d l a).length=(M.fP (ab e i r d l)).length+10:=by unfold ie;rw[qe,ip]
def LA (e:Bool) (i:Nat) (r:Bool) (d:Nat) (l:List Nat) (a:Nat) (h:lG r d l):(ie e i r d l a).length<=300:=by
 have h1:=M.El (ab e i r d l);have h2:=pr e i r d l;have h3:=h.len;have h4:l.length<=8:=by rw[h3];split <;> omega
 rw[GP];rw[gu,h2] at h1;cases e <;> simp at h1 <;> omega
def Ji (e:Bool) (i:Nat) (r:Bool) (d:Nat) (l:List Nat) (a:Nat) (ha:M.isL a):∀ y ∈ ie e i r d l a,M.isL y:=by
 intro y hy;unfold ie at hy;rw[qB] at hy;rcases hy with hy|hy
 .exact M.Em _ (cQ e i r d l) y hy
 .exact iq a ha y hy
def Bv {l:List Nat} (h:∀ y ∈ l,M.isL y):∀ y ∈ l,y<256:=fun y hy=>by rcases h y hy with h | h <;> omega
def Bw (e:Bool) (i:Nat) (r:Bool) (d:Nat) (l:List Nat) (a:Nat) (h:lG r d l) (ha:M.isL a) (j:Nat) (hj:j<=(ie e i r d l a).length) :
  swZ (ae ((ie e i r d l a).take j))=sw (ie e i r d l a) j:=by
 have hle:=LA e i r d l a h;have hil:∀ y ∈ (ie e i r d l a).take j,M.isL y:=fun y hy=>Ji e i r d l a ha y (qK hy);have hlen:((ie e i r d l a).take j).length=j:=by rw[qj];omega
 unfold swZ;rw[qc (kS _ 4000 hil (by rw[hlen];omega)),GH _ (Bv hil),hlen,xY]
 .rw[qi,sD _ j hj j (nR _)]
 .intro m _ hm;rw[sD _ j hj m om];have:=nc e i r d l a h ha m (by rw[GP] at hj;omega);unfold ie;rw[this,qa (by rw[GP] at hj;omega)];split <;> rfl
end Go.Proofs.YtgfolecanghhhaaGreat
