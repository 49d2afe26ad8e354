import Derived.Test.YtbbffcolnddcdaaGreatDoorK39
import Derived.Deep.DeepCutAuto
import Derived.Deep.CutBlock
import Derived.Test.YtbbffcolnddcdaaGreatDoorK30
import Derived.Deep.RegionLaw
import Derived.Test.YtbbffcolnddcdaaGreatDoorK28
import Derived.Test.YtbbffcolnddcdaaGreatDoorK35
namespace Go.Proofs.YtbbffcolnddcdaaGreatDoor
open Go.RowKit
set_option linter.all false
section
variable{κ κ' κ0:Nat->Nat}{H:Ho}{s:Sl}{w W W':World}{p r q:Nat}{FL L:List Value}{T:TypeId}
def fw.col(h:fw w κ0 p r q FL T κ H s L W){g:Nat}(hg:g<W.heap.size)(hw:w.heap.size<=g)(h0:κ g=0)(c:Nat)(hn:g≠p/\g≠r/\g≠q):fw w κ0 p r q FL T (fun x=>if x=g then c else κ x) H s L W:=
 ⟨h.p,h.r,h.f,h.g.col hg h0 c,h.m.col hw c,by rw[QV (fun e=>hn.1 e.symm),QV (fun e=>hn.2.1 e.symm),QV (fun e=>hn.2.2 e.symm)];exact h.z⟩
end
open Go.Value renaming int->I,slice->sL,bool->bO,pointer->pT,agg->aG
open Go.IntKind renaming i64->J
open Go.Ending renaming returned->rT
section
variable{κ κ' κ0:Nat->Nat}{H:Ho}{s:Sl}{w W W':World}{p r q gq off:Nat}{FL L:List Value}{T:TypeId}{f:R5}{rs:List R5}
def hG.tail(h:hG κ H s W)(t:s.a3=some ⟨gq,off,none⟩)(v:H.ff=f::rs){c l:Nat}(u:(s.k3=1/\c=off/\l=0)\/(s.k3≠1/\c=off+5/\l=s.k3-1)):hG κ (fHo H rs) (fSl s gq c rs.length l) W:=by
 refine⟨h.f,h.x,?_,h.q,h.sm⟩;obtain⟨y,B,hs,e,n,h1,a,d⟩:=h.r;rw[t]at e;cases e;rw[v]at a d;have k:=a.len;have A:=a.cap;simp only[qV]at k;rcases u with⟨c1,rfl,rfl⟩|⟨c1,rfl,rfl⟩
 .refine⟨gq,c,fun j=>hs (j+1),rfl,n,h1.le (by show c+0*5<=_;omega),?_,fun j b i g=>d (j+1) b (by simpa using i) g⟩;rw[c1]at a;have:=a.tail1;rw[k]at this;exact this
 .refine⟨gq,off+5,fun j=>hs (j+1),rfl,n,h1.le (by show off+5+(s.k3-1)*5<=_;omega),?_,fun j b i g=>d (j+1) b (by simpa using i) g⟩;have:=a.tail;rw[k]at this;exact this
def fw.tl(h:fw w κ0 p r q FL T κ H s (hoL H s) W)(c:s.a3=some ⟨gq,off,none⟩)(e:H.ff=f::rs){b a:Nat}(d:(s.k3=1/\b=off/\a=0)\/(s.k3≠1/\b=off+5/\a=s.k3-1)):fw w κ0 p r q FL T κ (fHo H rs) (fSl s gq b rs.length a) (hoL (fHo H rs) (fSl s gq b rs.length a)) (W.setCell ⟨p,6,none⟩ (sL (some ⟨gq,b,none⟩) rs.length a)):=by
 have q:=h.set 6 (sL (some ⟨gq,b,none⟩) rs.length a);exact⟨q.p,q.r,q.f,q.g.tail c e d,q.m,q.z⟩
def hG.first(h:hG κ H s W)(t:H.ff=f::rs):∃gq off b m c,s.a3=some ⟨gq,off,none⟩/\κ gq=3/\s.n3=rs.length+1/\rs.length+1<=s.k3/\W.rangeAt gq off [bO f.e,I .u32 (f.i:Int),bO f.r,I J f.d,sL b m c]/\iB W b m c f.l:=by
 obtain⟨gq,off,hs,e,u,h1,a,n⟩:=h.r;rw[t]at a n;have g:=a.len;have v:=a.cap;simp only[qV]at g;have j:=a.rng 0 pQ;have k:=(a.dat 0 pQ).1;simp only[aE,Nat.zero_mul,Nat.add_zero]at j k;exact⟨gq,off,(hs 0).1,(hs 0).2.1,(hs 0).2.2,e,u,g,om,j,k⟩
end
open Go.Proofs.Tryz
open Option renaming none->nn,some->sQ
set_option maxRecDepth 20000
set_option maxHeartbeats 16000000
open Go.IntKind renaming i64->J,u32->Zk
open Go.Proofs.Tryz renaming prog->Tp
section
variable{κ κ' κ0:Nat->Nat}{H:Ho}{s:Sl}{w W W':World}{p r q gq off:Nat}{FL L:List Value}{T:TypeId}{f:R5}{rs:List R5}
def mvH.bytes{g m c:Nat}{l:List Nat}(h:mvH κ W κ' W')(hb:iB W (be g) m c l)(hg:g<W.heap.size)(h0:κ g=0):iB W' (be g) m c l:=hb.other (h.k g hg h0)
def ffR.withSp{g n k:Nat}{L:List R5}{hs:Nat->Hd}{T:Nat}(h:ffR W g off n k 0 L hs T)(hr:ay W g (off+k*5)):ffR W g off n k k L hs T:=
 ⟨h.len,h.cap,h.rng,fun t ht=>by obtain⟨⟨v,hv⟩,hf⟩:=hr (off+t) om;rw[hv];exact⟨rfl,hf⟩,h.dat,h.hi⟩
def hG.room(h:hG κ H s W)(v:s.a3=sQ ⟨gq,off,nn⟩)(F:R5){a c g:Nat}(B:iB W (be a) c g F.l)(k:a<W.heap.size/\κ a=3/\a≠gq)(D:s.n3+1<=s.k3):hG κ (fHo H (H.ff++[F])) (fSl s gq off (s.n3+1) s.k3) (W.setCells gq (off+s.n3*5) (x5 (F,(sQ ⟨a,0,nn⟩,c,g))))/\mvH κ W κ (W.setCells gq (off+s.n3*5) (x5 (F,(sQ ⟨a,0,nn⟩,c,g)))):=by
 obtain⟨E,M,hs,e,C,h1,y,A⟩:=h.r;rw[v]at e;cases e;have u:W.heap.size<=(W.setCells gq (off+s.n3*5) (x5 (F,(sQ ⟨a,0,nn⟩,c,g)))).heap.size:=by rw[sZ];exact nR _
 have ho:∀d,d≠3->∀x,κ x=d->κ x=d/\(W.setCells gq (off+s.n3*5) (x5 (F,(sQ ⟨a,0,nn⟩,c,g)))).heap[x]?=W.heap[x]?:=fun d G x t=>⟨t,sO _ x (by rintro rfl;omega) _ _ _⟩
 have hR:=(y.withSp h1).room rfl D F (sQ ⟨a,0,nn⟩,c,g) B W.heap.size (nR _) ⟨a,rfl,k.2.2,k.1⟩;refine⟨⟨h.f_ (ho 1 om),h.x_ (ho 2 om) u,⟨gq,off,_,rfl,C,by rw[aT];exact h1.setRow _ _ _ _,by rw[sZ];exact hR,fun j b K i=>?_⟩,h.q_ (ho 4 om) u,fun x t=>by rw[sZ];exact h.sm x t⟩,(mvH.refl κ W).cells (qt om) _ _⟩;by_cases n:j<H.ff.length
 .rw[QW n]at i;exact A j b n i
 .rw[QV n]at i;cases i;exact k.2.1
def hG.grow(h:hG κ H s W)(M:s.a3=sQ ⟨gq,off,nn⟩)(F:R5){g y C:Nat}(O:iB W (be g) y C F.l)(E:g<W.heap.size/\κ g=3/\g≠gq):∃hs,(∀j u,(ffC H.ff hs)[j]?=sQ u->W.cell? ⟨gq,off+j,nn⟩=sQ u)/\∀v w',w'.ownsRow W.heap.size 53 5 v (s.n3+1) (ffC H.ff hs++x5 (F,(sQ ⟨g,0,nn⟩,y,C)))->W.grownBy w' nn->∃a t,v=sL (be a) (s.n3+1) t/\hG (fun x=>if x=a then 3 else κ x) (fHo H (H.ff++[F])) (fSl s a 0 (s.n3+1) t) w'/\mvH κ W (fun x=>if x=a then 3 else κ x) w':=by
 obtain⟨Q,X,hs,e,U,h1,D,N⟩:=h.r;rw[M]at e;cases e;refine⟨hs,D.olds,fun v w' G i=>?_⟩;obtain⟨a,t,rfl,R,hR⟩:=D.grow F (sQ ⟨g,0,nn⟩,y,C) O (nR _) ⟨g,rfl,E.1⟩ v G i;have K:∀x,x<W.heap.size->w'.heap[x]?=W.heap[x]?:=fun x c=>i.block x c pQ
 have k:∀d,d≠0->∀x,κ x=d->(if x=a then 3 else κ x)=d/\w'.heap[x]?=W.heap[x]?:=fun d hd x c=>by
  have P:=h.sm x om;rw[QV om];exact⟨c,K x P⟩
 have A:=i.size;refine⟨a,t,rfl,⟨h.f_ (k 1 om),h.x_ (k 2 om) A,⟨a,0,_,rfl,QW rfl,by rw[qg];exact n6 G,hR,fun j b S n=>?_⟩,h.q_ (k 4 om) A,fun x c=>?_⟩,⟨A,fun x c=>QV om,fun x c _=>K x c,i.os,i.tape,i.output⟩⟩
 .by_cases B:j<H.ff.length
  .rw[QW B]at n;exact(k 3 om b (N j b B n)).1
  .rw[QV B]at n;cases n;exact(k 3 om g E.2.1).1
 .by_cases e:x=a
  .rw[e];exact hR.hi
  .rw[QV e]at c;have:=h.sm x c;omega
def Br{o:Oper}{a:Act}{K:Act->World->Prop}{Q:Exit->Act->World->Prop}(h:hG κ H s W)(k:s.a3=sQ ⟨gq,off,nn⟩)(F:R5){b n y:Nat}(C:iB W (be b) n y F.l)(D:b<W.heap.size/\κ b=3/\b≠gq)(sx x:Operand)(u:Nat)(N:W.heap[u]?=sQ (.cells [bO F.e,I Zk (F.i:Int),bO F.r,I J F.d,sL (be b) n y].toArray 53))(P:s.n3<=100000)
  (B:∀c A g κ' W',Hid (hG κ' (fHo H (H.ff++[F])) (fSl s c A (s.n3+1) g) W'/\mvH κ W κ' W')->K (a.put o.dst (sL (sQ ⟨c,A,nn⟩) (s.n3+1) g)) W')
  (ho:o.op= .call {callee:=.builtin .append,args:=#[sx,x],argTypes:=#[47,47]}:=by rfl) (hs:a.eval sx=sL (sQ ⟨gq,off,nn⟩) s.n3 s.k3:=by rfl) (Y:a.eval x=sL (be u) 1 1:=by rfl):o.wp Tp a W K Q:=by
 obtain⟨U,R,M⟩:=h.grow k F C D;refine tt sx x ho gq off s.n3 s.k3 (ffC H.ff U) hs (by rw[lp,h.n3]) R u [bO F.e,I Zk (F.i:Int),bO F.r,I J F.d,sL (be b) n y] Y rfl N (by simp[Value.oneCell']) P (fun t j O=>?_) (fun t=>?_) (fun t Z w' S G=>?_)
 .obtain⟨gq',A,hs,e,hk,h1,h2,h3⟩:=h.r;rw[k]at e;cases e;obtain⟨⟨v,X⟩,E⟩:=h1 (off+s.n3*5+j) (by simp at O;omega);rw[X];exact⟨rfl,E⟩
 .exact B gq off s.k3 κ _ (h.room k F C D t)
 .obtain⟨c,g,rfl,hR⟩:=M Z w' S G;exact B c 0 g _ w' hR
def EW{c3:Int}{qu:List R8}{lo:Int}(h:0<=lo/\lo<=100000):0<=loP c3 qu lo/\loP c3 qu lo<=100000:=by
 unfold loP;split
 .exact h
 .split<;>omega
def zt(c3:Int)(qu:List R8)(a:R8):(quP c3 qu a).length<=qu.length+1:=by
 unfold quP;split<;>simp
def xO(a7:hG κ H s w)(F:R5)(n a fc:Nat)(hf:iB w (be n) a fc F.l)(b4:n<w.heap.size/\κ n=0)(b5:a<=1048576)(br:H.fs.length<=1000)(P:H.ff.length<=1000)(hn:H.qu.length<=900)(bq:0<=H.lo/\H.lo<=100000)(bt:∀j(a7:j<H.ff.length),H.ff[j].l.length<=1048576)(bo:1<=H.c1):ce 116 #[aG (hoL H s).toArray,frV F.e F.i F.r F.d (be n) a fc] w (hA w κ (cq H F)):=by
 have Z:Hid _:=fw.new3 a7 [bO F.e,I Zk (F.i:Int),bO F.r,I J F.d,sL (be n) a fc];have K:Hid (H.qu.length<=900/\0<=H.lo/\H.lo<=100000):=⟨hn,bq⟩
 have ad:Hid (∀Q W,mvH κ w Q W->iB W (be n) a fc F.l):=fun Q W hW=>hW.bytes hf b4.1 b4.2;have ap:=cw bt;obtain⟨va,b1⟩:∃b,vB F.e F.i F.r F.d F.l.length=b:=⟨_,rfl⟩
 obtain⟨pa,aw⟩:∃b,gj H.fs F=b:=⟨_,rfl⟩
 have HD:Hid (cq H F=if(va&&pa)=true then(if(H.ff.length:Int)=H.c1 then(if H.c2=0 then pH H (evF 3 0 0 F)else match H.ff with|[]=>H|f::r=>pH (fHo (pH H (evF 3 0 0 f)) (r++[F])) (evF 2 0 0 F))else pH (fHo H (H.ff++[F])) (evF 2 0 0 F))else H):=by
  show _=_;rw[<- b1,<- aw];unfold cq;simp only[Q3];rfl
 have bg:Hid (∀W,ce 65 #[frV F.e F.i F.r F.d (be n) a fc] W fun o w'=>o=rT (bO va)/\Bl W w'):=fun W=>by
  have:=aX W F.e F.i F.r F.d (be n) a fc;rw[hf.len,b1]at this;rw[hf.len];exact this
 have bc:Hid (∀W,hG κ H s W->ce 165 #[sL s.a1 s.n1 s.k1,frV F.e F.i F.r F.d (be n) a fc] W fun o w'=>o=rT (bO pa)/\Bl W w'):=fun W hW=>by
  have:=pI W s.a1 s.n1 s.k1 H.fs F (be n) a fc hW.is.fs (by rw[hW.is.fs.len];exact br);rw[aw]at this;exact this
 have b9:=cw a7.n3;have a5:Hid (1<=H.c1/\H.ff.length<=1000):=⟨bo,P⟩
 clear a7 hn bq bt hf b4 b1 aw br P bo;go_enter func116,ntmps116;go_upto_region 1 with fail
 generalize hV:World.alloc (World.alloc (World.alloc w _) _) _=v0 at*;clear hV;have Z:=hI Z;go_cut [14] (fun x wx=>x=bO (!(va&&pa))/\Hid (fw3 w κ [bO F.e,I Zk (F.i:Int),bO F.r,I J F.d,sL (be n) a fc] κ H s (hoL H s) wx));case first=>
  go_wp2_with(refine Zi 53 [bO F.e,I Zk (F.i:Int),bO F.r,I J F.d,sL (be n) a fc] Z.o.f.load underlying53 cE ?_);refine(bg.o _).mono ?_;rintro o w1 ⟨rfl,a2⟩;have h:=cw (Z.o.below a2);clear a2;cases va
  .go_wp2_with fail;go_meet;case rel=>exact⟨rfl,h⟩
  .have x4:=h.o.p.cell 4 _ rfl;go_wp2_with(refine an (by first|rfl|(simp[Region.wanted,yielded];done)|(simp[Region.wanted,yielded];omega)) 53 (.tmp 3) rfl (w.heap.size+1) 0 rfl [bO F.e,I Zk (F.i:Int),bO F.r,I J F.d,sL (be n) a fc] _ h.o.f.load underlying53 rfl cE ?_);refine(bc.o _ h.o.g).mono ?_;rintro o w2 ⟨rfl,bn⟩;have t:=cw (h.o.below bn)
   clear bn;cases pa<;>(
    go_wp2_with fail;go_meet
    case rel=>exact⟨rfl,t⟩)
 case rest=>
 obtain⟨rfl,h⟩:=hcut;obtain⟨vp,b2⟩:∃b,(va&&pa)=b:=⟨_,rfl⟩
 rw[b2]at HD;rw[b2];clear bg bc Z b2;cases vp
 .have D:Hid (cq H F=H):=by show _=_;rw[HD.o];rfl
  go_wp2_with(first|(refine fw.ld h.o ?_)|(refine fw.rt h.o ?_;intro w8 b8 G8));refine bC results116 (mY b8) ?_;rw[D.o];exact⟨s,κ,rfl,G8⟩
 have X:Hid (cq H F=if(H.ff.length:Int)=H.c1 then(if H.c2=0 then pH H (evF 3 0 0 F)else match H.ff with|[]=>H|f::r=>pH (fHo (pH H (evF 3 0 0 f)) (r++[F])) (evF 2 0 0 F))else pH (fHo H (H.ff++[F])) (evF 2 0 0 F)):=by show _=_;rw[HD.o];rfl
 clear HD;obtain⟨bD,bE,bL,bi,_⟩:=h.o.g.r;have U:wc.cell? ⟨w.heap.size,6,nn⟩=sQ (sL (sQ ⟨bD,bE,nn⟩) s.n3 s.k3):=by rw[<- bi];exact h.o.p.cell 6 _ (by unfold hoL;rfl)
 have x1:=h.o.p.cell 1 _ (by unfold hoL;rfl);have x2:=h.o.p.cell 2 _ (by unfold hoL;rfl);obtain⟨fu,bm⟩:∃b,((s.n3:Int)==H.c1)=b:=⟨_,rfl⟩
 have af:Hid (((H.ff.length:Int)=H.c1)↔fu=true):=by show _↔_;rw[<- b9.o,<- bm];simp
 obtain⟨b0,bk⟩:∃b,(H.c2==0)=b:=⟨_,rfl⟩
 have a9:Hid ((H.c2=0)↔b0=true):=by show _↔_;rw[<- bk];simp
 clear bi;go_upto_if 22 with fail
 go_cut [] (fun wx=>∃k u Q,Hid (fw3 w κ [bO F.e,I Zk (F.i:Int),bO F.r,I J F.d,sL (be n) a fc] Q k u (hoL k u) wx)/\Hid (cq H F=pH (fHo k (k.ff++[F])) (evF 2 0 0 F))/\Hid (k.ff.length<=1000/\k.qu.length<=1000/\0<=k.lo/\k.lo<=100000));case first=>
  cases fu
  .have D:Hid (cq H F=pH (fHo H (H.ff++[F])) (evF 2 0 0 F)):=by show _=_;rw[X.o,QV (fun e=>by have:=af.o.1 e;cases this)]
   go_wp2_with fail;go_meet;case rel=>exact⟨H,s,κ,h,D,a5.o.2,by have:=K.o.1;omega,K.o.2⟩
  .have hfu:=af.o.2 rfl;cases b0
   .obtain⟨A,fI,C,y,B,rs,hfr⟩:∃A fI C y B r,H.ff=⟨A,fI,C,y,B⟩::r:=by
     cases hff:H.ff with
     |nil=>rw[hff]at hfu;have:=a5.o;simp at hfu;omega
     |cons f r=>exact⟨f.e,f.i,f.r,f.d,f.l,r,rfl⟩
    have O:=cw hfr;have D:Hid (cq H F=pH (fHo (fHo (pH H ⟨3,0,0,A,fI,C,y,B⟩) rs) ((fHo (pH H ⟨3,0,0,A,fI,C,y,B⟩) rs).ff++[F])) (evF 2 0 0 F)):=by
     show _=_;rw[X.o,QW hfu,QV (fun e=>by have:=a9.o.1 e;cases this),hfr]
    obtain⟨gq,off,ao,m,c,E,_,P,_,bs,b3⟩:=h.o.g.first O.o;have bu:wc.cell? ⟨w.heap.size,6,nn⟩=sQ (sL (sQ ⟨gq,off,nn⟩) (rs.length+1) s.k3):=by rw[<- E,<- P];exact h.o.p.cell 6 _ (by unfold hoL;rfl)
    have hM:m<=1048576:=by
     have h1:=ap.o 0 (by rw[O.o];simp);have h2:m=B.length:=b3.len;have e:H.ff[0]'(by rw[O.o];simp)=⟨A,fI,C,y,B⟩:=by simp[O.o]
     rw[e]at h1;have h4:B.length<=1048576:=h1;omega
    have HM:=cw hM;have am:=cw bs;have ac:=cw b3;clear bs b3 E P ap hfr X hM;simp only[]at am ac;go_wp2_with fail;refine wp_region_still_tail 5 kr kr ?_;change wpStill Tp _ (World.drew wc) (fun a'=>wpList Tp _ _ _ a' (World.drew wc)) _ _;have t:=cw (h.o.below (bW _ _).drew);have a0:=hI (ac.o.below (bW _ _).drew);have bf:Hid ((World.drew wc).rangeAt gq off [bO A,I Zk (fI:Int),bO C,I J y,sL ao m c]):=am.o;have U:(World.drew wc).cell? ⟨w.heap.size,6,nn⟩=sQ (sL (sQ ⟨gq,off,nn⟩) (rs.length+1) s.k3):=bu;clear am ac h bu x1 x2;generalize World.drew wc=M at*;simp only[List.take_succ_cons,List.take_zero,List.drop_succ_cons,List.drop_zero];refine dT (by rfl) 50 _ rfl w.heap.size 0 rfl (hoL H s) _ t.o.p.load underlying50 rfl (fj H s) ?_;still_step
    still_step
    still_step
    refine dT (by rfl) 53 _ rfl gq off rfl [bO A,I Zk (fI:Int),bO C,I J y,sL ao m c] _ bf.o underlying53 rfl cE ?_;refine wpStill_nil ?_;go_wp2_with fail;refine(lJ t.o.g ⟨3,0,0,A,fI,C,y,B⟩ ao m c (by have:=K.o.1;omega) K.o.2 a0.o HM.o).mono ?_;rintro o w1 ⟨u,Q,rfl,G1⟩;have v:=cw (t.o.call G1.o);clear t G1 U bf a0;have bb:Hid (rs.length<=1000/\(pH H ⟨3,0,0,A,fI,C,y,B⟩).qu.length<=1000/\0<=(pH H ⟨3,0,0,A,fI,C,y,B⟩).lo/\(pH H ⟨3,0,0,A,fI,C,y,B⟩).lo<=100000):=by
     have h2:=zt H.c3 H.qu ⟨3,0,0,A,fI,C,y,B⟩;have h3:=a5.o.2;rw[O.o]at h3;simp only[qV]at h3;exact⟨om,nT h2 (by have:=K.o.1;omega),EW K.o.2⟩
    go_upto_region 7 with(refine fw.sv v.o ?_;intro w2 N)
    clear v;obtain⟨bA,a4,_,_,_,E,_,P,bI,_,_⟩:=N.o.g.first O.o;have U:w2.cell? ⟨w.heap.size,6,nn⟩=sQ (sL (sQ ⟨bA,a4,nn⟩) (rs.length+1) u.k3):=by rw[<- E,<- P];exact N.o.p.cell 6 _ (by unfold hoL;rfl)
    have f6:=N.o.p.free 6;have HE:=cw E;clear E P;by_cases a8:u.k3=1
    .have S:=cw (N.o.tl HE.o O.o (qp ⟨a8,rfl,rfl⟩));rw[a8]at U;go_wp2_with fail;go_meet;case rel=>exact⟨_,_,Q,S,D,bb.o⟩
    .have S:=cw (N.o.tl HE.o O.o (qt ⟨a8,rfl,rfl⟩));have b6:(u.k3==1)=false:=by simpa using a8
     go_wp2_with fail;go_meet;case rel=>exact⟨_,_,Q,S,D,bb.o⟩
   .have D:Hid (cq H F=pH H (evF 3 0 0 F)):=by show _=_;rw[X.o,QW hfu,QW (a9.o.2 rfl)]
    clear X hfu;go_wp2_with(first|(refine fw.ld h.o ?_)|(refine Zi 53 [bO F.e,I Zk (F.i:Int),bO F.r,I J F.d,sL (be n) a fc] h.o.f.load underlying53 cE ?_));refine(lJ h.o.g (evF 3 0 0 F) _ a fc (by have:=K.o.1;omega) K.o.2 (ad.o _ _ h.o.m) b5).mono ?_;rintro o w9 ⟨s9,b7,rfl,G9⟩;have F9:=cw (h.o.call G9.o);clear h G9;go_wp2_with(refine fw.rt F9.o ?_;intro w8 b8 G8);refine bC results116 (mY b8) ?_;rw[D.o];exact⟨s9,b7,rfl,G8⟩
 case rest=>
 obtain⟨k,u,Q,t,D,ak⟩:=hcut;clear X h U x1 x2 af a9 bm bk ap a5 b9 K;go_upto_region 8 with fail
 go_cut [] (fun wx=>∃s2 R,Hid (fw3 w κ [bO F.e,I Zk (F.i:Int),bO F.r,I J F.d,sL (be n) a fc] R (fHo k (k.ff++[F])) s2 (hoL (fHo k (k.ff++[F])) s2) wx));case first=>
  obtain⟨gq,off,hs,E,kq,_⟩:=t.o.g.r;have a6:Hid (u.a3=sQ ⟨gq,off,nn⟩/\gq<wc.heap.size/\u.n3<=100000):=⟨E,t.o.g.sm gq om,by rw[t.o.g.n3];have:=ak.o.1;omega⟩
  have v:=cw (t.o.below (bW _ _).drew);have U:=t.o.p.cell 6 _ (by unfold hoL;rfl);rw[E]at U;have f0:=t.o.f.cell 0 _ rfl;have f1:=t.o.f.cell 1 _ rfl;have f2:=t.o.f.cell 2 _ rfl;have f3:=t.o.f.cell 3 _ rfl;have f4:=t.o.f.cell 4 _ rfl
  clear E kq;go_region_law
   (first|(go_simp;go_at_call 104;refine(cM wc.drew F.e F.i F.r F.d (be n) a fc F.l (ad.o _ _ v.o.m) b5).mono ?_;rintro o M ⟨G,Y,rfl,⟨q1,q2,q3,q4⟩,a2⟩;obtain⟨R,N,b6⟩:∃R:Nat->Nat,Hid (fw3 w κ [bO F.e,I Zk (F.i:Int),bO F.r,I J F.d,sL (be n) a fc] R k u (hoL k u) M)/\R G=3:=⟨_,(v.o.below a2).col q2 (nT v.o.m.s q1) (v.o.g.no q1) 3 ⟨by have:=v.o.p.lt;omega,by have:=v.o.r.lt;omega,by have:=v.o.f.lt;omega⟩,QW rfl⟩;have S:Hid (fw3 w κ [bO F.e,I Zk (F.i:Int),bO F.r,I J F.d,sL (be n) a fc] R k u (hoL k u) (M.alloc (.cells #[bO F.e,I Zk (F.i:Int),bO F.r,I J F.d,sL (be G) a Y] 53))):=N.o.below Zw;have a0:Hid (iB (M.alloc (.cells #[bO F.e,I Zk (F.i:Int),bO F.r,I J F.d,sL (be G) a Y] 53)) (be G) a Y F.l/\G<(M.alloc (.cells #[bO F.e,I Zk (F.i:Int),bO F.r,I J F.d,sL (be G) a Y] 53)).heap.size/\R G=3/\G≠gq):=⟨q3.now.below Zw,(by simp;omega),b6,(by have:=a6.o.2.1;have h0:wc.drew.heap.size=wc.heap.size:=rfl;omega)⟩;have bw:Hid ((M.alloc (.cells #[bO F.e,I Zk (F.i:Int),bO F.r,I J F.d,sL (be G) a Y] 53)).heap[M.heap.size]?=sQ (.cells #[bO F.e,I Zk (F.i:Int),bO F.r,I J F.d,sL (be G) a Y] 53)):=Qy M _;have y6:=N.o.p.cell 6 _ rfl;have y7:=S.o.p.cell 6 _ rfl;rw[a6.o.1]at y6 y7;clear q1 q2 q3 q4 a2 b6;go_wp2_with fail)|(refine Br S.o.g a6.o.1 F a0.o.1 a0.o.2 (.tmp 41) (.tmp 44) M.heap.size bw.o a6.o.2.2 ?_;intro g' a4 k' κ' w6 G6;have F6:=cw (S.o.call G6.o);have xq:=F6.o.p.cell 6 _ rfl;have fq:=F6.o.p.free 6;have F7:Hid (fw3 w κ [bO F.e,I Zk (F.i:Int),bO F.r,I J F.d,sL (be n) a fc] κ' (fHo k (k.ff++[F])) (fSl u g' a4 (u.n3+1) k') (hoL (fHo k (k.ff++[F])) (fSl u g' a4 (u.n3+1) k')) (w6.setCell ⟨w.heap.size,6,nn⟩ (sL (sQ ⟨g',a4,nn⟩) (u.n3+1) k'))):=F6.o.set 6 _))
  all_goals
   go_wp2_with fail;go_meet;case rel=>exact⟨_,_,F7⟩
 case rest=>
 obtain⟨s2,R,v⟩:=hcut;clear t;go_wp2_with(first|(refine fw.ld v.o ?_)|(refine Zi 53 [bO F.e,I Zk (F.i:Int),bO F.r,I J F.d,sL (be n) a fc] v.o.f.load underlying53 cE ?_));refine(lJ v.o.g (evF 2 0 0 F) _ a fc ak.o.2.1 ak.o.2.2 (ad.o _ _ v.o.m) b5).mono ?_;rintro o w9 ⟨s9,b7,rfl,G9⟩;have F9:=cw (v.o.call G9.o);clear v G9;go_wp2_with(refine fw.rt F9.o ?_;intro w8 b8 G8);refine bC results116 (mY b8) ?_;rw[D.o];exact⟨s9,b7,rfl,G8⟩
end
section
variable{w W:World}{R P:Nat}
def zn(S:Sc)(a:Option Addr)(n k:Nat)(j:Int):Value.int .u8 j∉scL S a n k:=by simp[scL]
def kG(w:World):ce 19 #[] w fun o w'=>o=rT (aG (scL sc0 none 0 0).toArray)/\Bl w w':=by
 have b:=hI (blk.new w z11 55);have f:∀W:World,(Instr.build 55 #[(0,I J 1),(1,I J 1)]).run Tp W= .ok (aG (scL sc0 none 0 0).toArray) W:=fun W=>by kernel_rfl
 go_enter func19,ntmps19
 go_wp2_with(refine Zs 55 (scL sc0 none 0 0).toArray (b.o.there 0 11 (nR _)) dh (fO _ _ _ _) ?_;generalize d:World.setCells _ w.heap.size 0 _=a;have e:Hid (_=a):=d;clear d)
 have c:=e.o;have hF:blk a w.heap.size (scL sc0 none 0 0) 55:=by rw[<- c];exact b.o.put [] z11 [] (scL sc0 none 0 0) rfl
 refine bC results19 (Qt (P:=Tp) a w.heap.size 0 55 _ _ hF.load underlying55 rfl dh) ?_;exact⟨rfl,by rw[<- c];exact sW (nR _) _ _ Zw⟩
structure l2S(w:World)(R P:Nat)(S:Sc)(W:World):Prop where
 x:∃a n c,blk W P (scL S a n c) 55/\iB W a n c S.l
 b:Below R w W
 r:blk W R z11 55
def l2S.below{S:Sc}{W':World}(h:l2S w R P S W)(hR:R<=W.heap.size)(d:Bl W W'):l2S w R P S W':=by
 obtain⟨a,n,c,h1,e⟩:=h.x;exact⟨⟨a,n,c,h1.below d,e.below d⟩,h.b.trans (d.mono hR),h.r.below d⟩
def l2S.put{S T:Sc}(h:l2S w R P S W)(hR:R<P){a:Option Addr}{n c:Nat}(f:iB W a n c T.l):l2S w R P T (W.setCells P 0 (scL T a n c)):=by
 obtain⟨d,i,e,h1,j⟩:=h.x;refine⟨⟨a,n,c,h1.put [] (scL S d i e) [] (scL T a n c) rfl,f.farL h1 (zn _ _ _ _) (fun q g=>sO P q g _ _ _)⟩,sW (Q5 hR) _ _ h.b,h.r.other om _ _⟩
def uB(w:World)(hd:ByteArray)(G:goL (hd.data.toList.map (·.toNat))):ce 47 #[.string hd] w fun o w'=>∃a n k c,o=rT (.tuple #[aG (scL (scO (hd.data.toList.map (·.toNat))) a n k).toArray,I J c])/\iB w' a n k (scO (hd.data.toList.map (·.toNat))).l/\Bl w w':=by
 obtain⟨L,E⟩:∃L,hd.data.toList.map (·.toNat)=L:=⟨_,rfl⟩
 rw[E]at G ⊢;have O:Hid (L.length=hd.size):=by show _=_;rw[<- E,qP,Array.length_toList];rfl
 have a9:Hid (∀i(h:i<hd.size)(h':i<L.length),L[i]=hd[i].toNat):=by intro i h h';subst E;simp;rfl
 have HL:=hI G;have af:hd.size<=1000:=by have:=G.2.1;rw[O.o]at this;exact this
 clear G E;have a0:Hid (ce 19 #[] (w.alloc (.cells z11.toArray 55)) fun o w'=>o=rT (aG (scL sc0 none 0 0).toArray)/\Below (w.alloc (.cells z11.toArray 55)).heap.size (w.alloc (.cells z11.toArray 55)) w'):=kG _;have D:Hid (blk (w.alloc (.cells z11.toArray 55)) w.heap.size z11 55/\Bl w (w.alloc (.cells z11.toArray 55))):=⟨blk.new w z11 55,Zw⟩
 go_enter func47,ntmps47;go_wp2_with fail;refine a0.o.mono ?_;rintro o s ⟨rfl,Y⟩;have v:=hI (qB (D.o.1.below Y) (D.o.2.trans (Y.mono D.o.2.size)));clear Y a0 D;have N:=hI (blk.new s z11 55);have HR:=hI v.o.1.lt
 go_wp2_with(refine Zs 55 (scL sc0 none 0 0).toArray (N.o.there 0 11 (nR _)) dh (fO _ _ _ _) ?_;generalize f:World.setCells _ s.heap.size 0 _=H;have j:Hid (_=H):=f;clear f)
 have Q:=j.o;have a2:blk H s.heap.size (scL sc0 none 0 0) 55:=by rw[<- Q];exact N.o.put [] z11 [] (scL sc0 none 0 0) rfl
 have X:Bl s H:=by rw[<- Q];exact sW (nR _) _ _ Zw
 have ST:l2S w w.heap.size s.heap.size (scO (L.take 0)) H:=
  ⟨⟨none,0,0,a2,⟨rfl,nR _,by simp[scO,sc0],fun h=>Qj rfl h⟩⟩,v.o.2.trans (X.mono v.o.2.size),v.o.1.below X⟩
 clear Q a2 X j N v;generalize s.heap.size=P at*;go_loopw [5,6] (fun c i wr=>∃k:Nat,∃z:Int,k<=hd.size/\i=I J (k:Int)/\c=I J z/\l2S w w.heap.size P (scO (L.take k)) wr) (fun _ i _=>hd.size-(intOf i).toNat);case atStart=>exact⟨0,0,nZ _,rfl,rfl,ST⟩
 case round=>
  clear ST;obtain⟨k,z,hk,rfl,rfl,st⟩:=hrel;have g:=hI st;clear st;by_cases Z:k<hd.size
  .have hlL:k<L.length:=by rw[O.o];exact Z
   have hA:=HL.o.at k;have a4:=hA.2.2 hlL;have f:=HL.o.1 L[k] (ql hlL);have U:=a9.o k Z hlL;obtain⟨a,n,c,t,u⟩:=g.o.x;have a1:Hid (blk wr.drew P (scL (scO (L.take k)) a n c) 55):=t;have HC:Hid (ce 18 #[aG (scL (scO (L.take k)) a n c).toArray,I J ((hd[k].toNat-48:Nat):Int)] wr.drew fun o w'=>∃y C B z,o=rT (.tuple #[aG (scL (scO (L.take (k+1))) y C B).toArray,I J z])/\(z=0\/z=1)/\blk w' P (scL (scO (L.take k)) a n c) 55/\l2S w w.heap.size P (scO (L.take (k+1))) (w'.setCells P 0 (scL (scO (L.take (k+1))) y C B))):=by
    rw[<- U];have a7:=g.o.below (Q5 g.o.r.lt) (bW wr.heap.size wr).drew;refine(jw wr.drew _ hA.1 a n c (u.below (bW _ _).drew) _ om).mono ?_;rintro o w' ⟨y,C,B,rfl,h1,h2,_⟩;rw[qe hlL,rU];exact⟨y,C,B,_,rfl,a4,a1.o.below h2,(a7.below (Q5 a7.r.lt) h2).put HR.o h1⟩
   have j:Hid (hd[k].toNat=48\/hd[k].toNat=49):=by rw[<- U];exact f
   clear a4 hA f U t u;go_wp2_with fail;rcases j.o with a3|a3
   all_goals
    rw[a3]at HC;refine Qu (S:=fun _=>True) kr ?_;have hS:True:=trivial;refine tk 1 ?_;refine tk 2 ?_;refine tk 3 ?_;refine tk 4 ?_;refine tk 5 ?_;refine al 0 fun K d=>?_;rw[QW (by rfl)];refine wp_load_mid (P:=Tp) 55 _ rfl P 0 rfl _ _ a1.o.load underlying55 rfl (dY _ _ _ _) ?_;refine d.out _ _ hS fun _=>?_;clear d K;refine al 6 fun K d=>?_;rw[QW (by rfl)];go_simp;go_at_call 18;refine HC.o.mono ?_;rintro o w5 ⟨y,C,B,z',rfl,A,a5,a6⟩;refine d.out _ _ hS fun _=>?_;clear d K;have HZ:=hI A;have ac:Hid _:=a6;have a8:=hI a5;clear A a6 a5;try simp only[aZ]
    refine tk 7 ?_;refine tk 8 ?_;refine tk 9 ?_;refine al 10 fun K d=>?_;rw[QW (by rfl)];refine QE (P:=Tp) 55 _ _ rfl P 0 _ rfl rfl (a8.o.there 0 11 (nR _)) dh (fO _ _ _ _) ?_;generalize World.setCells w5 P 0 _=w6 at*;refine d.out _ _ hS fun _=>?_;clear d K;simp only[Act.put];refine tk 11 ?_;refine Qs kr ?_ _;rcases HZ.o with A|A;all_goals
     subst A;go_wp2_with fail;go_roundw;case rel=>exact⟨k+1,_,om,by go_num,rfl,ac.o⟩
     case measure=>simp[intOf];omega
  .have hke:k=hd.size:=om;subst hke;obtain⟨a,n,c,t,u⟩:=g.o.x;have e:=QY (by rw[O.o];exact nR _);rw[e]at t u;have p:=hI (qB t (qB u (qB g.o.r g.o.b)))
   clear g t u Z e;go_wp2_with(first|(refine ZG 55 p.o.1.load underlying55 (dY _ _ _ _) ?_)|(refine Zs 55 (scL (scO L) a n c).toArray (p.o.2.2.1.there 0 11 (nR _)) dh (fO _ _ _ _) ?_;generalize f:World.setCells _ w.heap.size 0 _=M;have j:Hid (_=M):=f;clear f))
   have T:=j.o;have hF:blk M w.heap.size (scL (scO L) a n c) 55:=by rw[<- T];exact p.o.2.2.1.put [] z11 [] (scL (scO L) a n c) rfl
   have ad:=Qt (P:=Tp) M w.heap.size 0 55 _ _ hF.load underlying55 rfl (dY _ _ _ _);refine Qp (cI results47 _ M w.heap.size _ rfl ad) rfl ?_;refine⟨a,n,c,⟨z,rfl⟩,?_,by rw[<- T];exact sW (nR _) _ _ p.o.2.2.2⟩;rw[<- T];exact p.o.2.1.farL p.o.2.2.1 (zn scZ none 0 0) (fun q hq=>sO w.heap.size q hq _ _ _)
end
def o9(hd:ByteArray):ag (lt hd)=hd:=by
 have e:(lt hd).map UInt8.ofNat=hd.data.toList:=by
  unfold lt;rw[List.map_map];exact(zg (fun x _=>by simp)).trans (List.map_id _)
 unfold ag;rw[e]
end Go.Proofs.YtbbffcolnddcdaaGreatDoor
