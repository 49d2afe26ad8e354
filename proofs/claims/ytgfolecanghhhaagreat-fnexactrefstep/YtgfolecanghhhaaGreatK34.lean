import Derived.Test.YtgfolecanghhhaaGreatK30
import Derived.Deep.DeepCutAuto
import Derived.Deep.CutBlock
import Derived.Test.YtgfolecanghhhaaGreatK33
import Derived.Deep.RegionLaw
namespace Go.Proofs.YtgfolecanghhhaaGreat
open Go.RowKit
set_option linter.all false
section
variable {κ κ' κ0 : Nat -> Nat} {H : Ho} {s : Sl} {w W W' : World} {p r q : Nat} {FL L : List Value} {T : TypeId}
def fw.col (h:fw w κ0 p r q FL T κ H s L W) {g:Nat} (hg:g<W.heap.size) (hw:w.heap.size<=g) (h0:κ g=0) (c:Nat) (hn:g≠p/\g≠r/\g≠q):fw w κ0 p r q FL T (fun x=>if x=g then c else κ x) H s L W:=
 ⟨h.p,h.r,h.f,h.g.col hg h0 c,h.m.col hw c,by rw[qa (fun e=>hn.1 e.symm),qa (fun e=>hn.2.1 e.symm),qa (fun e=>hn.2.2 e.symm)];exact h.z⟩
end
open Go.Value renaming int->I,slice->sL,bool->bO,pointer->pT,agg->aG
open Go.IntKind renaming i64->J
open Go.Ending renaming returned->rT
section
variable {κ κ' κ0 : Nat -> Nat} {H : Ho} {s : Sl} {w W W' : World} {p r q gq off : Nat} {FL L : List Value} {T : TypeId} {f : R5} {rs : List R5}
def hG.tail (h:hG κ H s W) (e3:s.a3=some ⟨gq,off,none⟩) (hf:H.ff=f :: rs) {o' k':Nat} (hc:(s.k3=1/\o'=off/\k'=0)\/(s.k3≠1/\o'=off+5/\k'=s.k3-1)):hG κ (fHo H rs) (fSl s gq o' rs.length k') W:=by
 refine⟨h.f,h.x,?_,h.q,h.sm⟩;obtain⟨gq',off',hs,e,hk,h1,h2,h3⟩:=h.r;rw[e3] at e;cases e;rw[hf] at h2 h3;have hl:=h2.len;have hcp:=h2.cap;simp only[Qa] at hl;rcases hc with⟨c1,rfl,rfl⟩|⟨c1,rfl,rfl⟩
 .refine⟨gq,o',fun j=>hs (j+1),rfl,hk,h1.le (by show o'+0*5<=_;omega),?_,fun j b hj hb=>h3 (j+1) b (by simpa using hj) hb⟩;rw[c1] at h2;have:=h2.tail1;rw[hl] at this;exact this
 .refine⟨gq,off+5,fun j=>hs (j+1),rfl,hk,h1.le (by show off+5+(s.k3-1)*5<=_;omega),?_,fun j b hj hb=>h3 (j+1) b (by simpa using hj) hb⟩;have:=h2.tail;rw[hl] at this;exact this
def fw.tl (h:fw w κ0 p r q FL T κ H s (hoL H s) W) (e3:s.a3=some ⟨gq,off,none⟩) (hf:H.ff=f :: rs) {o' k':Nat} (hc:(s.k3=1/\o'=off/\k'=0)\/(s.k3≠1/\o'=off+5/\k'=s.k3-1)):fw w κ0 p r q FL T κ (fHo H rs) (fSl s gq o' rs.length k') (hoL (fHo H rs) (fSl s gq o' rs.length k')) (W.setCell ⟨p,6,none⟩ (sL (some ⟨gq,o',none⟩) rs.length k')):=by
 have q:=h.set 6 (sL (some ⟨gq,o',none⟩) rs.length k');exact⟨q.p,q.r,q.f,q.g.tail e3 hf hc,q.m,q.z⟩
def hG.first (h:hG κ H s W) (hf:H.ff=f :: rs):∃ gq off ao m c,s.a3=some ⟨gq,off,none⟩/\κ gq=3/\s.n3=rs.length+1/\rs.length+1<=s.k3/\W.rangeAt gq off [bO f.e,I .u32 (f.i:Int),bO f.r,I J f.d,sL ao m c]/\iB W ao m c f.l:=by
 obtain⟨gq,off,hs,e,hk,h1,h2,h3⟩:=h.r;rw[hf] at h2 h3;have hl:=h2.len;have hcp:=h2.cap;simp only[Qa] at hl;have q1:=h2.rng 0 pQ;have q2:=(h2.dat 0 pQ).1;simp only[aE,Nat.zero_mul,Nat.add_zero] at q1 q2;exact⟨gq,off,(hs 0).1,(hs 0).2.1,(hs 0).2.2,e,hk,hl,om,q1,q2⟩
end
open Go.Proofs.Tryz
open Option renaming none->nn,some->sQ
set_option maxRecDepth 20000
set_option maxHeartbeats 16000000
open Go.IntKind renaming i64->J,u32->Zk
open Go.Proofs.Tryz renaming prog->Tp
section
variable {κ κ' κ0 : Nat -> Nat} {H : Ho} {s : Sl} {w W W' : World} {p r q gq off : Nat} {FL L : List Value} {T : TypeId} {f : R5} {rs : List R5}
def mvH.bytes {g m c:Nat} {l:List Nat} (h:mvH κ W κ' W') (hb:iB W (sQ ⟨g,0,nn⟩) m c l) (hg:g<W.heap.size) (h0:κ g=0):iB W' (sQ ⟨g,0,nn⟩) m c l:=hb.other (h.k g hg h0)
def ffR.withSp {g n k:Nat} {L:List R5} {hs:Nat->Hd} {T:Nat} (h:ffR W g off n k 0 L hs T) (hr:az W g (off+k*5)):ffR W g off n k k L hs T:=
 ⟨h.len,h.cap,h.rng,fun t ht=>by obtain⟨⟨v,hv⟩,hf⟩:=hr (off+t) om;rw[hv];exact⟨rfl,hf⟩,h.dat,h.hi⟩
def hG.room (h:hG κ H s W) (e3:s.a3=sQ ⟨gq,off,nn⟩) (F:R5) {gd fm kd:Nat} (hb:iB W (sQ ⟨gd,0,nn⟩) fm kd F.l) (hgd:gd<W.heap.size/\κ gd=3/\gd≠gq) (hr:s.n3+1<=s.k3) :
  hG κ (fHo H (H.ff++[F])) (fSl s gq off (s.n3+1) s.k3) (W.setCells gq (off+s.n3*5) (x5 (F,(sQ ⟨gd,0,nn⟩,fm,kd))))/\mvH κ W κ (W.setCells gq (off+s.n3*5) (x5 (F,(sQ ⟨gd,0,nn⟩,fm,kd)))):=by
 obtain⟨gq',off',hs,e,hk,h1,h2,h3⟩:=h.r;rw[e3] at e;cases e;have hz:W.heap.size<=(W.setCells gq (off+s.n3*5) (x5 (F,(sQ ⟨gd,0,nn⟩,fm,kd)))).heap.size:=by rw[sZ];exact nR _
 have ho:∀ d,d≠3->∀ x,κ x=d->κ x=d/\(W.setCells gq (off+s.n3*5) (x5 (F,(sQ ⟨gd,0,nn⟩,fm,kd)))).heap[x]?=W.heap[x]?:=fun d hd' x hx=>⟨hx,sO _ x (by rintro rfl;omega) _ _ _⟩
 have hR:=(h2.withSp h1).room rfl hr F (sQ ⟨gd,0,nn⟩,fm,kd) hb W.heap.size (nR _) ⟨gd,rfl,hgd.2.2,hgd.1⟩;refine⟨⟨h.f_ (ho 1 om),h.x_ (ho 2 om) hz,⟨gq,off,_,rfl,hk,by rw[aU];exact h1.setRow _ _ _ _,by rw[sZ];exact hR,fun j b hj hb'=>?_⟩,h.q_ (ho 4 om) hz,fun x hx=>by rw[sZ];exact h.sm x hx⟩,(mvH.refl κ W).cells (qx om) _ _⟩;by_cases hl:j<H.ff.length
 .rw[qc hl] at hb';exact h3 j b hl hb'
 .rw[qa hl] at hb';cases hb';exact hgd.2.1
def hG.grow (h:hG κ H s W) (e3:s.a3=sQ ⟨gq,off,nn⟩) (F:R5) {gd fm kd:Nat} (hb:iB W (sQ ⟨gd,0,nn⟩) fm kd F.l) (hgd:gd<W.heap.size/\κ gd=3/\gd≠gq):∃ hs,(∀ j u,(ffC H.ff hs)[j]?=sQ u->W.cell? ⟨gq,off+j,nn⟩=sQ u)/\∀ v' w',w'.ownsRow W.heap.size 67 5 v' (s.n3+1) (ffC H.ff hs++x5 (F,(sQ ⟨gd,0,nn⟩,fm,kd)))->W.grownBy w' nn->∃ g' k',v' = sL (sQ ⟨g',0,nn⟩) (s.n3+1) k'/\hG (fun x=>if x=g' then 3 else κ x) (fHo H (H.ff++[F])) (fSl s g' 0 (s.n3+1) k') w'/\mvH κ W (fun x=>if x=g' then 3 else κ x) w':=by
 obtain⟨gq',off',hs,e,hk,h1,h2,h3⟩:=h.r;rw[e3] at e;cases e;refine⟨hs,h2.olds,fun v' w' hown hg=>?_⟩;obtain⟨g',k',rfl,hg',hR⟩:=h2.grow F (sQ ⟨gd,0,nn⟩,fm,kd) hb (nR _) ⟨gd,rfl,hgd.1⟩ v' hown hg;have old:∀ x,x<W.heap.size->w'.heap[x]?=W.heap[x]?:=fun x hx=>hg.block x hx pQ
 have hk2:∀ d,d≠0->∀ x,κ x=d->(if x=g' then 3 else κ x)=d/\w'.heap[x]?=W.heap[x]?:=fun d hd x hx=>by
  have hxl:=h.sm x om;rw[qa om];exact⟨hx,old x hxl⟩
 have hgz:=hg.size;refine⟨g',k',rfl,⟨h.f_ (hk2 1 om),h.x_ (hk2 2 om) hgz,⟨g',0,_,rfl,qc rfl,by rw[qi];exact Iw hown,hR,fun j b hj hb'=>?_⟩,h.q_ (hk2 4 om) hgz,fun x hx=>?_⟩,⟨hgz,fun x hx=>qa om,fun x hx _=>old x hx,hg.os,hg.tape,hg.output⟩⟩
 .by_cases hl:j<H.ff.length
  .rw[qc hl] at hb';exact (hk2 3 om b (h3 j b hl hb')).1
  .rw[qa hl] at hb';cases hb';exact (hk2 3 om gd hgd.2.1).1
 .by_cases e:x=g'
  .rw[e];exact hR.hi
  .rw[qa e] at hx;have:=h.sm x hx;omega
def Lm {o:Oper} {a:Act} {K:Act->World->Prop} {Q:Exit->Act->World->Prop} (h:hG κ H s W) (e3:s.a3=sQ ⟨gq,off,nn⟩) (F:R5) {gd fm kd:Nat} (hb:iB W (sQ ⟨gd,0,nn⟩) fm kd F.l) (hgd:gd<W.heap.size/\κ gd=3/\gd≠gq) (sx x:Operand) (ib:Nat) (hib:W.heap[ib]?=sQ (.cells [bO F.e,I Zk (F.i:Int),bO F.r,I J F.d,sL (sQ ⟨gd,0,nn⟩) fm kd].toArray 67)) (hn:s.n3<=100000)
  (hK:∀ g' off' k' κ' W',Hid (hG κ' (fHo H (H.ff++[F])) (fSl s g' off' (s.n3+1) k') W'/\mvH κ W κ' W')->K (a.put o.dst (sL (sQ ⟨g',off',nn⟩) (s.n3+1) k')) W')
  (ho:o.op = .call { callee:=.builtin .append,args:=#[sx,x],argTypes:=#[38,38] }:=by rfl) (hs:a.eval sx = sL (sQ ⟨gq,off,nn⟩) s.n3 s.k3:=by rfl) (hx:a.eval x = sL (sQ ⟨ib,0,nn⟩) 1 1:=by rfl):o.wp Tp a W K Q:=by
 obtain⟨hs0,hol,hgr⟩:=h.grow e3 F hb hgd;refine Jq sx x ho gq off s.n3 s.k3 (ffC H.ff hs0) hs (by rw[Hj,h.n3]) hol ib [bO F.e,I Zk (F.i:Int),bO F.r,I J F.d,sL (sQ ⟨gd,0,nn⟩) fm kd] hx rfl hib (by simp[Value.oneCell']) hn (fun hr j hj=>?_) (fun hr=>?_) (fun hr v' w' hown hg=>?_)
 .obtain⟨gq',off',hs,e,hk,h1,h2,h3⟩:=h.r;rw[e3] at e;cases e;obtain⟨⟨v,hv⟩,hf⟩:=h1 (off+s.n3*5+j) (by simp at hj;omega);rw[hv];exact⟨rfl,hf⟩
 .exact hK gq off s.k3 κ _ (h.room e3 F hb hgd hr)
 .obtain⟨g',k',rfl,hR⟩:=hgr v' w' hown hg;exact hK g' 0 k' _ w' hR
def Mn {c3:Int} {qu:List R8} {lo:Int} (h:0<=lo/\lo<=100000):0<=loP c3 qu lo/\loP c3 qu lo<=100000:=by
 unfold loP;split
 .exact h
 .split <;> omega
def KR (c3:Int) (qu:List R8) (ev:R8):(quP c3 qu ev).length<=qu.length+1:=by
 unfold quP;split <;> simp
def Kv (h:hG κ H s w) (F:R5) (fg fm fc:Nat) (hf:iB w (sQ ⟨fg,0,nn⟩) fm fc F.l) (hfg:fg<w.heap.size/\κ fg=0) (hfm:fm<=1048576) (hn1:H.fs.length<=1000) (hn3:H.ff.length<=1000) (hn:H.qu.length<=900) (hlo:0<=H.lo/\H.lo<=100000) (hsm:∀ j (h:j<H.ff.length),H.ff[j].l.length<=1048576) (hc1:1<=H.c1) :
  Calls Tp 126 #[aG (hoL H s).toArray,frV F.e F.i F.r F.d (sQ ⟨fg,0,nn⟩) fm fc] w (hA w κ (f9 H F)):=by
 have F0:Hid _:=fw.new3 h [bO F.e,I Zk (F.i:Int),bO F.r,I J F.d,sL (sQ ⟨fg,0,nn⟩) fm fc];have HN:Hid (H.qu.length<=900/\0<=H.lo/\H.lo<=100000):=⟨hn,hlo⟩
 have HFD:Hid (∀ κ1 W,mvH κ w κ1 W->iB W (sQ ⟨fg,0,nn⟩) fm fc F.l):=fun κ1 W hW=>hW.bytes hf hfg.1 hfg.2;have HSM:=eE hsm;obtain⟨va,eva⟩ : ∃ b,vB F.e F.i F.r F.d F.l.length=b:=⟨_,rfl⟩
 obtain⟨pa,epa⟩ : ∃ b,za H.fs F=b:=⟨_,rfl⟩
 have HD:Hid (f9 H F=if (va && pa)=true then (if (H.ff.length:Int)=H.c1 then (if H.c2=0 then pH H (evF 3 0 0 F) else match H.ff with | []=>H | f :: r=>pH (fHo (pH H (evF 3 0 0 f)) (r++[F])) (evF 2 0 0 F)) else pH (fHo H (H.ff++[F])) (evF 2 0 0 F)) else H):=by
  show _=_;rw[<- eva,<- epa];unfold f9;simp only[qw];rfl
 have HVC:Hid (∀ W,Calls Tp 50 #[frV F.e F.i F.r F.d (sQ ⟨fg,0,nn⟩) fm fc] W fun o w'=>o = rT (bO va)/\Bl W w'):=fun W=>by
  have:=ch W F.e F.i F.r F.d (sQ ⟨fg,0,nn⟩) fm fc;rw[hf.len,eva] at this;rw[hf.len];exact this
 have HPC:Hid (∀ W,hG κ H s W->Calls Tp 169 #[sL s.a1 s.n1 s.k1,frV F.e F.i F.r F.d (sQ ⟨fg,0,nn⟩) fm fc] W fun o w'=>o = rT (bO pa)/\Bl W w'):=fun W hW=>by
  have:=IM W s.a1 s.n1 s.k1 H.fs F (sQ ⟨fg,0,nn⟩) fm fc hW.is.fs (by rw[hW.is.fs.len];exact hn1);rw[epa] at this;exact this
 have HL3:=eE h.n3;have HC1:Hid (1<=H.c1/\H.ff.length<=1000):=⟨hc1,hn3⟩
 clear h hn hlo hsm hf hfg eva epa hn1 hn3 hc1;go_enter func126,ntmps126;go_upto_region 1 with fail
 generalize hV:World.alloc (World.alloc (World.alloc w _) _) _=v0 at *;clear hV;have F0:Hid (fw3 w κ [bO F.e,I Zk (F.i:Int),bO F.r,I J F.d,sL (sQ ⟨fg,0,nn⟩) fm fc] κ H s (hoL H s) v0):=F0;go_cut [14] (fun x wx=>x = bO (!(va && pa))/\Hid (fw3 w κ [bO F.e,I Zk (F.i:Int),bO F.r,I J F.d,sL (sQ ⟨fg,0,nn⟩) fm fc] κ H s (hoL H s) wx));case first=>
  go_wp2_with (refine Zi 67 [bO F.e,I Zk (F.i:Int),bO F.r,I J F.d,sL (sQ ⟨fg,0,nn⟩) fm fc] F0.o.f.load underlying67 jc ?_);refine (HVC.o _).mono ?_;rintro o w1 ⟨rfl,hb1⟩;have F1:=eE (F0.o.below hb1);clear hb1;cases va
  .go_wp2_with fail;go_meet;case rel=>exact⟨rfl,F1⟩
  .have x4:w1.cell? ⟨w.heap.size,4,nn⟩=sQ (sL s.a1 s.n1 s.k1):=F1.o.p.cell 4 _ rfl;go_wp2_with (refine di (by first | rfl | (simp[Region.wanted,yielded];done) | (simp[Region.wanted,yielded];omega)) 67 (.tmp 3) rfl (w.heap.size+1) 0 rfl [bO F.e,I Zk (F.i:Int),bO F.r,I J F.d,sL (sQ ⟨fg,0,nn⟩) fm fc] _ F1.o.f.load underlying67 rfl jc ?_);refine (HPC.o _ F1.o.g).mono ?_;rintro o w2 ⟨rfl,hb2⟩;have F2:=eE (F1.o.below hb2)
   clear hb2;cases pa <;> (
    go_wp2_with fail;go_meet
    case rel=>exact⟨rfl,F2⟩)
 case rest=>
 obtain⟨rfl,F1⟩:=hcut;obtain⟨vp,evp⟩ : ∃ b,(va && pa)=b:=⟨_,rfl⟩
 rw[evp] at HD;rw[evp];clear HVC HPC F0 evp;cases vp
 .have HDE:Hid (f9 H F=H):=by show _=_;rw[HD.o];rfl
  go_wp2_with (first | (refine fw.ld F1.o ?_) | (refine fw.rt F1.o ?_;intro w8 b8 G8));refine bC results126 (Ij b8) ?_;rw[HDE.o];exact⟨s,κ,rfl,G8⟩
 have HD2:Hid (f9 H F=if (H.ff.length:Int)=H.c1 then (if H.c2=0 then pH H (evF 3 0 0 F) else match H.ff with | []=>H | f :: r=>pH (fHo (pH H (evF 3 0 0 f)) (r++[F])) (evF 2 0 0 F)) else pH (fHo H (H.ff++[F])) (evF 2 0 0 F)):=by show _=_;rw[HD.o];rfl
 clear HD;obtain⟨gq0,off0,hs0,e30,_⟩:=F1.o.g.r;have x6:wc.cell? ⟨w.heap.size,6,nn⟩=sQ (sL (sQ ⟨gq0,off0,nn⟩) s.n3 s.k3):=by rw[<- e30];exact F1.o.p.cell 6 _ (by unfold hoL;rfl)
 have x1:wc.cell? ⟨w.heap.size,1,nn⟩=sQ (I J H.c1):=F1.o.p.cell 1 _ (by unfold hoL;rfl);have x2:wc.cell? ⟨w.heap.size,2,nn⟩=sQ (I J H.c2):=F1.o.p.cell 2 _ (by unfold hoL;rfl);obtain⟨fu,efu⟩ : ∃ b,((s.n3:Int) == H.c1)=b:=⟨_,rfl⟩
 have HFU:Hid (((H.ff.length:Int)=H.c1)↔fu=true):=by show _↔_;rw[<- HL3.o,<- efu];simp
 obtain⟨b0,eb0⟩ : ∃ b,(H.c2 == 0)=b:=⟨_,rfl⟩
 have HB0:Hid ((H.c2=0)↔b0=true):=by show _↔_;rw[<- eb0];simp
 clear e30;go_upto_if 22 with fail
 go_cut [] (fun wx=>∃ H1 s1 κ1,Hid (fw3 w κ [bO F.e,I Zk (F.i:Int),bO F.r,I J F.d,sL (sQ ⟨fg,0,nn⟩) fm fc] κ1 H1 s1 (hoL H1 s1) wx)/\Hid (f9 H F=pH (fHo H1 (H1.ff++[F])) (evF 2 0 0 F))/\Hid (H1.ff.length<=1000/\H1.qu.length<=1000/\0<=H1.lo/\H1.lo<=100000));case first=>
  cases fu
  .have HDE:Hid (f9 H F=pH (fHo H (H.ff++[F])) (evF 2 0 0 F)):=by show _=_;rw[HD2.o,qa (fun e=>by have:=HFU.o.1 e;cases this)]
   go_wp2_with fail;go_meet;case rel=>exact⟨H,s,κ,F1,HDE,HC1.o.2,by have:=HN.o.1;omega,HN.o.2⟩
  .have hfu:=HFU.o.2 rfl;cases b0
   .obtain⟨fE,fI,fR,fD,fL,rs,hfr⟩ : ∃ fE fI fR fD fL r,H.ff=⟨fE,fI,fR,fD,fL⟩ :: r:=by
     cases hff:H.ff with
     | nil=>rw[hff] at hfu;have:=HC1.o;simp at hfu;omega
     | cons f r=>exact⟨f.e,f.i,f.r,f.d,f.l,r,rfl⟩
    have HFR:=eE hfr;have HDE:Hid (f9 H F=pH (fHo (fHo (pH H ⟨3,0,0,fE,fI,fR,fD,fL⟩) rs) ((fHo (pH H ⟨3,0,0,fE,fI,fR,fD,fL⟩) rs).ff++[F])) (evF 2 0 0 F)):=by
     show _=_;rw[HD2.o,qc hfu,qa (fun e=>by have:=HB0.o.1 e;cases this),hfr]
    obtain⟨gq,off,ao,m,c,e3,_,hn3,_,hrg,hby⟩:=F1.o.g.first HFR.o;have x6':wc.cell? ⟨w.heap.size,6,nn⟩=sQ (sL (sQ ⟨gq,off,nn⟩) (rs.length+1) s.k3):=by rw[<- e3,<- hn3];exact F1.o.p.cell 6 _ (by unfold hoL;rfl)
    have hM:m<=1048576:=by
     have h1:=HSM.o 0 (by rw[HFR.o];simp);have h2:m=fL.length:=hby.len;have e:H.ff[0]'(by rw[HFR.o];simp)=⟨fE,fI,fR,fD,fL⟩:=by simp[HFR.o]
     rw[e] at h1;have h4:fL.length<=1048576:=h1;omega
    have HM:=eE hM;have HRG:=eE hrg;have HDT:=eE hby;clear hrg hby e3 hn3 HSM hfr HD2 hM;simp only[] at HRG HDT;go_wp2_with fail;refine wp_region_still_tail 5 kr kr ?_;change wpStill Tp _ (World.drew wc) (fun a'=>wpList Tp _ _ _ a' (World.drew wc)) _ _;have F2:=eE (F1.o.below (bW _ _).drew);have HD1:Hid (iB (World.drew wc) ao m c fL):=HDT.o.below (bW _ _).drew;have HR1:Hid ((World.drew wc).rangeAt gq off [bO fE,I Zk (fI:Int),bO fR,I J fD,sL ao m c]):=HRG.o;have x6:(World.drew wc).cell? ⟨w.heap.size,6,nn⟩=sQ (sL (sQ ⟨gq,off,nn⟩) (rs.length+1) s.k3):=x6';clear HRG HDT F1 x6' x1 x2;generalize World.drew wc=v1 at *;simp only[List.take_succ_cons,List.take_zero,List.drop_succ_cons,List.drop_zero];refine wF (by rfl) 41 _ rfl w.heap.size 0 rfl (hoL H s) _ F2.o.p.load underlying41 rfl (px H s) ?_;still_step
    still_step
    still_step
    refine wF (by rfl) 67 _ rfl gq off rfl [bO fE,I Zk (fI:Int),bO fR,I J fD,sL ao m c] _ HR1.o underlying67 rfl jc ?_;refine wpStill_nil ?_;go_wp2_with fail;refine (Hs F2.o.g ⟨3,0,0,fE,fI,fR,fD,fL⟩ ao m c (by have:=HN.o.1;omega) HN.o.2 HD1.o HM.o).mono ?_;rintro o w1 ⟨s1,κ1,rfl,G1⟩;have F3:=eE (F2.o.call G1.o);clear F2 G1 x6 HR1 HD1;have HNQ:Hid (rs.length<=1000/\(pH H ⟨3,0,0,fE,fI,fR,fD,fL⟩).qu.length<=1000/\0<=(pH H ⟨3,0,0,fE,fI,fR,fD,fL⟩).lo/\(pH H ⟨3,0,0,fE,fI,fR,fD,fL⟩).lo<=100000):=by
     have h2:=KR H.c3 H.qu ⟨3,0,0,fE,fI,fR,fD,fL⟩;have h3:=HC1.o.2;rw[HFR.o] at h3;simp only[Qa] at h3;exact⟨om,nT h2 (by have:=HN.o.1;omega),Mn HN.o.2⟩
    go_upto_region 7 with (refine fw.sv F3.o ?_;intro w2 F4)
    clear F3;obtain⟨gq',off',_,_,_,e3,_,hn3,hk3,_,_⟩:=F4.o.g.first HFR.o;have x6:w2.cell? ⟨w.heap.size,6,nn⟩=sQ (sL (sQ ⟨gq',off',nn⟩) (rs.length+1) s1.k3):=by rw[<- e3,<- hn3];exact F4.o.p.cell 6 _ (by unfold hoL;rfl)
    have f6:=F4.o.p.free 6;have HE:=eE e3;clear e3 hn3;by_cases hk1:s1.k3=1
    .have F5:=eE (F4.o.tl HE.o HFR.o (qr ⟨hk1,rfl,rfl⟩));rw[hk1] at x6;go_wp2_with fail;go_meet;case rel=>exact⟨_,_,κ1,F5,HDE,HNQ.o⟩
    .have F5:=eE (F4.o.tl HE.o HFR.o (qx ⟨hk1,rfl,rfl⟩));have hk2:(s1.k3 == 1)=false:=by simpa using hk1
     go_wp2_with fail;go_meet;case rel=>exact⟨_,_,κ1,F5,HDE,HNQ.o⟩
   .have HDE:Hid (f9 H F=pH H (evF 3 0 0 F)):=by show _=_;rw[HD2.o,qc hfu,qc (HB0.o.2 rfl)]
    clear HD2 hfu;go_wp2_with (first | (refine fw.ld F1.o ?_) | (refine Zi 67 [bO F.e,I Zk (F.i:Int),bO F.r,I J F.d,sL (sQ ⟨fg,0,nn⟩) fm fc] F1.o.f.load underlying67 jc ?_));refine (Hs F1.o.g (evF 3 0 0 F) _ fm fc (by have:=HN.o.1;omega) HN.o.2 (HFD.o _ _ F1.o.m) hfm).mono ?_;rintro o w9 ⟨s9,κ9,rfl,G9⟩;have F9:=eE (F1.o.call G9.o);clear F1 G9;go_wp2_with (refine fw.rt F9.o ?_;intro w8 b8 G8);refine bC results126 (Ij b8) ?_;rw[HDE.o];exact⟨s9,κ9,rfl,G8⟩
 case rest=>
 obtain⟨H1,s1,κ1,F2,HDE,HN1⟩:=hcut;clear HD2 F1 x6 x1 x2 HFU HB0 efu eb0 HSM HC1 HL3 HN;go_upto_region 8 with fail
 go_cut [] (fun wx=>∃ s2 κ2,Hid (fw3 w κ [bO F.e,I Zk (F.i:Int),bO F.r,I J F.d,sL (sQ ⟨fg,0,nn⟩) fm fc] κ2 (fHo H1 (H1.ff++[F])) s2 (hoL (fHo H1 (H1.ff++[F])) s2) wx));case first=>
  obtain⟨gq,off,hs,e3,kq,_⟩:=F2.o.g.r;have HE3:Hid (s1.a3=sQ ⟨gq,off,nn⟩/\gq<wc.heap.size/\s1.n3<=100000):=⟨e3,F2.o.g.sm gq om,by rw[F2.o.g.n3];have:=HN1.o.1;omega⟩
  have F3:=eE (F2.o.below (bW _ _).drew);have x6:=F2.o.p.cell 6 _ (by unfold hoL;rfl);rw[e3] at x6;have f0:=F2.o.f.cell 0 _ rfl;have f1:=F2.o.f.cell 1 _ rfl;have f2:=F2.o.f.cell 2 _ rfl;have f3:=F2.o.f.cell 3 _ rfl;have f4:=F2.o.f.cell 4 _ rfl
  clear e3 kq;go_region_law
   (first
    | (go_simp;go_at_call 118;refine (eM wc.drew F.e F.i F.r F.d (sQ ⟨fg,0,nn⟩) fm fc F.l (HFD.o _ _ F3.o.m) hfm).mono ?_;rintro o v1 ⟨gd,kd,rfl,⟨q1,q2,q3,q4⟩,hb1⟩;obtain⟨κ2,F4,hk2⟩ : ∃ κ2:Nat->Nat,Hid (fw3 w κ [bO F.e,I Zk (F.i:Int),bO F.r,I J F.d,sL (sQ ⟨fg,0,nn⟩) fm fc] κ2 H1 s1 (hoL H1 s1) v1)/\κ2 gd=3:=⟨_,(F3.o.below hb1).col q2 (nT F3.o.m.s q1) (F3.o.g.no q1) 3 ⟨by have:=F3.o.p.lt;omega,by have:=F3.o.r.lt;omega,by have:=F3.o.f.lt;omega⟩,qc rfl⟩;have F5:Hid (fw3 w κ [bO F.e,I Zk (F.i:Int),bO F.r,I J F.d,sL (sQ ⟨fg,0,nn⟩) fm fc] κ2 H1 s1 (hoL H1 s1) (v1.alloc (.cells #[bO F.e,I Zk (F.i:Int),bO F.r,I J F.d,sL (sQ ⟨gd,0,nn⟩) fm kd] 67))):=F4.o.below Zw;have HD1:Hid (iB (v1.alloc (.cells #[bO F.e,I Zk (F.i:Int),bO F.r,I J F.d,sL (sQ ⟨gd,0,nn⟩) fm kd] 67)) (sQ ⟨gd,0,nn⟩) fm kd F.l/\gd<(v1.alloc (.cells #[bO F.e,I Zk (F.i:Int),bO F.r,I J F.d,sL (sQ ⟨gd,0,nn⟩) fm kd] 67)).heap.size/\κ2 gd=3/\gd≠gq):=⟨q3.now.below Zw,(by simp;omega),hk2,(by have:=HE3.o.2.1;have h0:wc.drew.heap.size=wc.heap.size:=rfl;omega)⟩;have HNB:Hid ((v1.alloc (.cells #[bO F.e,I Zk (F.i:Int),bO F.r,I J F.d,sL (sQ ⟨gd,0,nn⟩) fm kd] 67)).heap[v1.heap.size]?=sQ (.cells #[bO F.e,I Zk (F.i:Int),bO F.r,I J F.d,sL (sQ ⟨gd,0,nn⟩) fm kd] 67)):=QN v1 _;have y6:=F4.o.p.cell 6 _ rfl;have y7:=F5.o.p.cell 6 _ rfl;rw[HE3.o.1] at y6 y7;clear q1 q2 q3 q4 hb1 hk2;go_wp2_with fail)
    | (refine Lm F5.o.g HE3.o.1 F HD1.o.1 HD1.o.2 (.tmp 41) (.tmp 44) v1.heap.size HNB.o HE3.o.2.2 ?_;intro g' off' k' κ' w6 G6;have F6:=eE (F5.o.call G6.o);have xq:=F6.o.p.cell 6 _ rfl;have fq:=F6.o.p.free 6;have F7:Hid (fw3 w κ [bO F.e,I Zk (F.i:Int),bO F.r,I J F.d,sL (sQ ⟨fg,0,nn⟩) fm fc] κ' (fHo H1 (H1.ff++[F])) (fSl s1 g' off' (s1.n3+1) k') (hoL (fHo H1 (H1.ff++[F])) (fSl s1 g' off' (s1.n3+1) k')) (w6.setCell ⟨w.heap.size,6,nn⟩ (sL (sQ ⟨g',off',nn⟩) (s1.n3+1) k'))):=F6.o.set 6 _))
  all_goals
   go_wp2_with fail;go_meet;case rel=>exact⟨_,_,F7⟩
 case rest=>
 obtain⟨s2,κ2,F3⟩:=hcut;clear F2;go_wp2_with (first | (refine fw.ld F3.o ?_) | (refine Zi 67 [bO F.e,I Zk (F.i:Int),bO F.r,I J F.d,sL (sQ ⟨fg,0,nn⟩) fm fc] F3.o.f.load underlying67 jc ?_));refine (Hs F3.o.g (evF 2 0 0 F) _ fm fc HN1.o.2.1 HN1.o.2.2 (HFD.o _ _ F3.o.m) hfm).mono ?_;rintro o w9 ⟨s9,κ9,rfl,G9⟩;have F9:=eE (F3.o.call G9.o);clear F3 G9;go_wp2_with (refine fw.rt F9.o ?_;intro w8 b8 G8);refine bC results126 (Ij b8) ?_;rw[HDE.o];exact⟨s9,κ9,rfl,G8⟩
end
end Go.Proofs.YtgfolecanghhhaaGreat
