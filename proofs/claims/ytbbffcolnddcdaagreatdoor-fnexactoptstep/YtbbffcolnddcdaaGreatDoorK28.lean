import Derived.Test.YtbbffcolnddcdaaGreatDoorK25
import Derived.Deep.CutBlock
namespace Go.Proofs.YtbbffcolnddcdaaGreatDoor
open Go.Proofs.Tryz
open Option renaming none->nn,some->sQ
open Go.RowKit
set_option linter.all false
set_option maxHeartbeats 16000000
set_option maxRecDepth 20000
open Go.Value renaming int->I,slice->sL,bool->bO,pointer->pT,agg->aG
open Go.IntKind renaming i64->J
open Go.Ending renaming returned->rT
open Go.Proofs.Tryz renaming prog->Tp
structure pS(w:World)(L:List Value)(P:Nat)(T:Sc)(g n k:Nat)(W:World):Prop where
 p:blk W w.heap.size L 55
 r:blk W (w.heap.size+1) z11 55
 q:blk W P (scL T (be g) n k) 55
 o:ae W (w.heap.size+2) (sL (be g) n k) T.l
 ne:g≠P
 l:n=T.l.length
 b:Bl w W
 z:w.heap.size+2<=P
section
variable{w:World}{L:List Value}{P:Nat}{T T':Sc}{g n k:Nat}{W W':World}
def pS.below(h:pS w L P T g n k W)(hb:Bl W W'):pS w L P T g n k W':=⟨h.p.below hb,h.r.below hb,h.q.below hb,h.o.below hb,h.ne,h.l,h.b.trans (hb.mono h.b.size),h.z⟩
def pS.put(h:pS w L P T g n k W)(o:Nat)(v:Value)(c:(scL T (be g) n k).set o v=scL T' (be g) n k)(a:T'.l=T.l:=by rfl):pS w L P T' g n k (W.setCell ⟨P,o,nn⟩ v):=by
 have:=h.z;exact⟨h.p.setOther om _ _,h.r.setOther om _ _,c ▸ h.q.set o v,by rw[a];exact h.o.keep h.l (Ql _ _ _ _ (by exact h.ne)),h.ne,by rw[a];exact h.l,h.b.setCell (by show _<=P;omega) _,h.z⟩
def pS.fr(h:pS w L P T g n k W):W.rangeAt P 6 [bO T.e,I .u32 (T.i:Int),bO T.r,I J T.d,sL (be g) n k]:=blk.loadAt [I J T.f,I J T.lf,I J T.rn,I J T.lv,I J T.cr,I J T.ac] [bO T.e,I .u32 (T.i:Int),bO T.r,I J T.d,sL (be g) n k] [] h.q
def pS.fin(e:blk W (w.heap.size+1) z11 55)(c:Bl w W)(T:Sc)(a:Option Addr)(n k:Nat)(b:W.setCells (w.heap.size+1) 0 (scL T a n k)=W'):(loadVar 55 ⟨w.heap.size+1,0,nn⟩).run Tp W'= .ok (aG (scL T a n k).toArray) W'/\Bl w W'/\∀q,q≠w.heap.size+1->W'.heap[q]?=W.heap[q]?:=by
 have hF:blk W' (w.heap.size+1) (scL T a n k) 55:=b ▸ blk.put [] z11 [] _ e rfl;exact⟨Qt (P:=Tp) W' (w.heap.size+1) 0 55 _ _ hF.load underlying55 rfl dh,b ▸ sW om _ _ c,fun q d=>b ▸ sO _ q d _ _ _⟩
def pS.gl(h:pS w L P T g n k W)(ho:∀q,q≠w.heap.size+1->W'.heap[q]?=W.heap[q]?):∃q,sQ (⟨g,0,nn⟩:Addr)=be q/\w.heap.size<=q/\q<W'.heap.size:=by
 have b:=(Qm h.o g rfl).1;obtain⟨c,a,e⟩:=h.o.kind g rfl;exact⟨g,rfl,om,av ((ho g om).trans e)⟩
def pS.bytes(h:pS w L P T g n k W)(hs:∀x∈T.l,x<256)(ho:∀q,q≠w.heap.size+1->W'.heap[q]?=W.heap[q]?):iB W' (be g) n k T.l:=by
 obtain⟨c,f,a,i,j,b⟩:=iw h.o (by intro e;cases e) hs;cases a;rw[h.l];exact b W' fun q h1 d=>ho q om
end
def scn(S:Sc)(b:Nat):Sc × Int:=
 if S.rn=5 then(if(b:Int)=S.lv then(scZ,3)else({S with rn:=1,lv:=b},0))
 else if cm S.f S.lf S.cr S.ac b=0\/cm S.f S.lf S.cr S.ac b=1 then(cB S b,cm S.f S.lf S.cr S.ac b)else(scZ,cm S.f S.lf S.cr S.ac b)
def jw(w:World)(S:Sc)(hS:okS S)(a:Option Addr)(n cap:Nat)(b2:iB w a n cap S.l)(b:Nat)(hb:b<2):ce 18 #[scV S a n cap,I J (b:Int)] w fun o w'=>∃ao U R,o=rT (.tuple #[scV (scn S b).1 ao U R,I J (scn S b).2])/\iB w' ao U R (scn S b).1.l/\Bl w w'/\((scn S b).2=0\/(scn S b).2=1->∃g,ao=be g/\w.heap.size<=g/\g<w'.heap.size):=by
 have HS:=hI hS;have HH:=hI b2;have HN:=hI b2.len;have d5:n<=8:=by have:=hS.2.2.2.2.2.1;have:=b2.len;omega
 have bD:Hid (∀W,ce 45 #[scV S a n cap] W fun o w'=>o=rT (bO true)/\Bl W w'):=fun W=>(kF W S a n cap HN.o om).mono (by rintro o w' ⟨⟨bb,rfl,h1⟩,h2⟩;rw[h1.2 hS];exact⟨rfl,h2⟩);have bs:=hI (fun W=>m7 W S a n cap b);have bX:b=0\/b=1:=om;have cc:=hI bX;have b6:Hid (∀W,ce 60 #[I J S.cr,I J (b:Int)] W fun o w'=>o=rT (I J ((M.dE S.cr.toNat b:Nat):Int))/\W=w'):=by
  intro W;have h1:=hS.2.2.2.2.2.2.2.2.2.2.2.2.2.2.1;have h2:=hS.2.2.2.2.2.2.2.2.2.2.2.2.2.2.2.1;have:=xy S.cr.toNat b W om hb;rwa [Q6 h1]at this
 have aw:=hI (fun W=>jl W S.f S.e S.i S.r S.d hS.2.2.2.1 hS.2.2.2.2.1 a n cap);obtain⟨c,hc⟩:∃c,cm S.f S.lf S.cr S.ac b=c:=⟨_,rfl⟩
 obtain⟨q5,e5⟩:∃q,(S.rn==5)=q:=⟨_,rfl⟩
 obtain⟨qv,ev⟩:∃q,((b:Int)==S.lv)=q:=⟨_,rfl⟩
 have HX:Hid (scn S b=if q5=true then(if qv=true then(scZ,3)else({S with rn:=1,lv:=b},0))else if c=0\/c=1 then(cB S b,c)else(scZ,c)):=by show _=_;rw[<- e5,<- ev,<- hc];unfold scn;simp
 rw[hc]at bs;have ci:=b2.small;clear hS b2 bX hc;generalize scn S b=X at*;obtain⟨f,lf,rn,lv,cr,ac,e,i,r,d,l⟩:=S;simp only[]at HN HH b6 aw e5 ev;go_enter func18,ntmps18;go_upto_region 1 with fail
 go_cut [18] (fun d0 B=>d0=bO false/\blk B w.heap.size (scL ⟨f,lf,rn,lv,cr,ac,e,i,r,d,l⟩ a n cap) 55/\blk B (w.heap.size+1) z11 55/\Bl w B);case first=>
  go_wp2_with fail;refine(bD.o _).mono ?_;rintro o w1 ⟨rfl,bc⟩;have H1:Hid (blk w1 w.heap.size (scL ⟨f,lf,rn,lv,cr,ac,e,i,r,d,l⟩ a n cap) 55/\blk w1 (w.heap.size+1) z11 55/\Bl w w1):=by
   refine⟨((blk.new w _ 55).alloc _).below bc,?_,(Zw.alloc pQ _).trans (bc.mono (by simp;try omega))⟩;have:=(blk.new (w.alloc (.cells (scL ⟨f,lf,rn,lv,cr,ac,e,i,r,d,l⟩ a n cap).toArray 55)) z11 55).below bc;simpa using this
  clear bc;rcases cc.o with rfl|rfl
  all_goals
   go_wp2_with fail;go_meet;exact⟨rfl,H1.o⟩
 case rest=>
 obtain⟨rfl,h1⟩:=hcut;have H1:=hI h1;clear h1 bD;go_wp2_with(refine ZG 55 H1.o.1.load underlying55 dh ?_);refine(uC wc ⟨f,lf,rn,lv,cr,ac,e,i,r,d,l⟩ a n cap (HH.o.below H1.o.2.2) om).mono ?_;rintro o w2 ⟨g,k,rfl,bw,bf⟩;have H2:=hI (qB (H1.o.1.below bf) (qB (H1.o.2.1.below bf) (H1.o.2.2.trans (bf.mono H1.o.2.2.size))));have b5:=hI (qB (bw.mono (B':=w.heap.size+2) (by have:=H1.o.2.1.lt;omega)) (Qm bw g rfl).2);have bq:=hI (blk.new w2 z11 55);clear bw bf H1 HH;go_upto_region 4 with(refine Zs 55 (scL ⟨f,lf,rn,lv,cr,ac,e,i,r,d,l⟩ (be g) n k).toArray (bq.o.there 0 11 pQ) dh (lO _ _ _ _ _ _ _ _ _ _ _ _ _) ?_;generalize bR:World.setCells (World.alloc _ _) w2.heap.size 0 _=w3;have bI:Hid (_=w3):=bR;clear bR)
 have O:Hid (pS w (scL ⟨f,lf,rn,lv,cr,ac,e,i,r,d,l⟩ a n cap) w2.heap.size ⟨f,lf,rn,lv,cr,ac,e,i,r,d,l⟩ g n k w3):=by
  have e3:=bI.o;rw[<- e3];exact⟨(H2.o.1.alloc _).other (by have:=H2.o.2.1.lt;omega) _ _,(H2.o.2.1.alloc _).other (by have:=H2.o.2.1.lt;omega) _ _,blk.put [] z11 [] _ bq.o rfl,(b5.o.1.below Zw).keep HN.o ((sO _ _ (by have:=b5.o.2;omega) _ _ _)),(by have:=b5.o.2;omega),HN.o,sW H2.o.2.2.size _ _ (H2.o.2.2.alloc H2.o.2.2.size _),H2.o.2.1.lt⟩
 clear bI bq b5 H2;generalize w2.heap.size=P at*;have ap:Hid (∀x∈l,x<256):=ci;have y2:=O.o.p.cell 2 _ rfl;have y3:=O.o.p.cell 3 _ rfl;cases q5;case true=>
  have z2:=O.o.q.cell 2 _ rfl;have z3:=O.o.q.cell 3 _ rfl;have f2:=O.o.q.free 2;have f3:=O.o.q.free 3;have HP:=hI ((O.o.put (T':=⟨f,lf,1,lv,cr,ac,e,i,r,d,l⟩) 2 (I J 1) rfl).put (T':=⟨f,lf,1,b,cr,ac,e,i,r,d,l⟩) 3 (I J (b:Int)) rfl);cases qv
  .go_wp2_with (first|(refine ZG 55 HP.o.q.load underlying55 dh ?_)|(refine Zs 55 (scL ⟨f,lf,1,b,cr,ac,e,i,r,d,l⟩ (be g) n k).toArray (HP.o.r.there 0 11 pQ) dh (lO _ _ _ _ _ _ _ _ _ _ _ _ _) ?_;generalize a4:World.setCells _ (w.heap.size+1) 0 _=w9;have ak:Hid (_=w9):=a4;clear a4))
   obtain⟨hL,am,ho⟩:=pS.fin HP.o.r HP.o.b ⟨f,lf,1,b,cr,ac,e,i,r,d,l⟩ (be g) n k ak.o;refine Qp (cI results18 _ _ (w.heap.size+1) _ rfl hL) rfl ?_;rw[HX.o];exact⟨_,n,k,rfl,HP.o.bytes ap.o ho,am,fun _=>HP.o.gl ho⟩
  .go_wp2_with (refine Zs 55 (scL scZ nn 0 0).toArray (O.o.r.there 0 11 pQ) dh (lO _ _ _ _ _ _ _ _ _ _ _ _ _) ?_;generalize a4:World.setCells _ (w.heap.size+1) 0 _=w9;have ak:Hid (_=w9):=a4;clear a4);obtain⟨hL,am,ho⟩:=pS.fin O.o.r O.o.b scZ nn 0 0 ak.o;refine Qp (cI results18 _ _ (w.heap.size+1) _ rfl hL) rfl ?_;rw[HX.o];exact⟨nn,0,0,rfl,⟨rfl,nR _,fun _ hx=>(by cases hx),fun hne=>Qj rfl hne⟩,am,fun e=>by simp at e⟩
 case false=>
 replace HX:Hid (X=if c=0\/c=1 then(cB ⟨f,lf,rn,lv,cr,ac,e,i,r,d,l⟩ b,c)else(scZ,c)):=HX.o
 go_wp2_with(refine ZG 55 O.o.p.load underlying55 dh ?_);refine(bs.o _).mono ?_;rintro o w4 ⟨rfl,bY⟩;have N:=hI (O.o.below bY);clear bY O bs y2 y3;obtain⟨c0,e0⟩:∃q,(c==0)=q:=⟨_,rfl⟩
 obtain⟨c1,e1⟩:∃q,(c==1)=q:=⟨_,rfl⟩
 have n0:(c !=0)= !c0:=by rw[<- e0];rfl
 have n1:(c !=1)= !c1:=by rw[<- e1];rfl
 have b4:Hid ((c=0\/c=1)↔(c0||c1)=true):=by show _↔_;rw[<- e0,<- e1];simp
 go_upto_region 11 with fail
 go_cut [42] (fun v B=>v=bO (!(c0||c1))/\B=w4);case first=>
  cases c0<;>cases c1;all_goals
   go_wp2_with fail;go_meet;exact⟨rfl,rfl⟩
 case rest=>
 obtain⟨rfl,rfl⟩:=hcut;obtain⟨ok,bL⟩:∃q,(c0||c1)=q:=⟨_,rfl⟩
 rw[bL]at b4 ⊢;clear e0 e1 n0 n1 bL;cases ok;case false=>
  have bu:¬(c=0\/c=1):=fun e=>by have:=b4.o.1 e;cases this
  rw[QV bu]at HX;have cf:=hI bu;clear bu;go_wp2_with(refine Zs 55 (scL scZ nn 0 0).toArray (N.o.r.there 0 11 pQ) dh (lO _ _ _ _ _ _ _ _ _ _ _ _ _) ?_;generalize a4:World.setCells _ (w.heap.size+1) 0 _=w9;have ak:Hid (_=w9):=a4;clear a4);obtain⟨hL,am,ho⟩:=pS.fin N.o.r N.o.b scZ nn 0 0 ak.o;refine Qp (cI results18 _ _ (w.heap.size+1) _ rfl hL) rfl ?_;rw[HX.o];exact⟨nn,0,0,rfl,⟨rfl,nR _,fun _ hx=>(by cases hx),fun hne=>Qj rfl hne⟩,am,fun e=>Qj e cf.o⟩
 case true=>
 rw[QW (b4.o.2 rfl)]at HX;clear b4;have cu:0<=rn/\rn<=5/\0<=ac/\ac<=32767:=by have:=HS.o;unfold okS at this;simp only[]at this;omega
 have bm:Hid (((b:Int)=lv)↔qv=true):=by show _↔_;rw[<- ev];simp
 have y0:=N.o.p.cell 0 _ rfl;have y2:=N.o.p.cell 2 _ rfl;have y3:=N.o.p.cell 3 _ rfl;have z2:=N.o.q.cell 2 _ rfl;have z3:=N.o.q.cell 3 _ rfl;have fr:=fun j=>N.o.q.free j;have hP:=N.o.z;have d2:w.heap.size≠P:=om;have d3:P≠w.heap.size:=om;go_upto_if 47 with fail
 go_cut [] (fun B=>Hid (pS w (scL ⟨f,lf,rn,lv,cr,ac,e,i,r,d,l⟩ a n cap) P (bG ⟨f,lf,rn,lv,cr,ac,e,i,r,d,l⟩ b) g n k B));case first=>
  have ca:Hid (11<=f\/(f<11/\((0<rn/\qv=true)\/(rn<=0\/(0<rn/\qv=false))))):=by show _\/_;cases qv<;>simp<;>omega
  rcases ca.o with h1|⟨h1,⟨h2,rfl⟩|h2|⟨h2,rfl⟩⟩
  all_goals
   go_wp2_with fail;go_meet
  case rel=>exact hI (by show pS _ _ _ _ _ _ _ _;rw[sR h1];exact(N.o.put (T':=⟨f,lf,0,lv,cr,ac,e,i,r,d,l⟩) 2 (I J 0) rfl).put 3 (I J 0) rfl)
  case rel=>exact hI (by show pS _ _ _ _ _ _ _ _;rw[sP h1 h2 (bm.o.2 (by trivial))];exact((N.o.put (T':=⟨f,lf,1,lv,cr,ac,e,i,r,d,l⟩) 2 (I J 1) rfl).put (T':=⟨f,lf,rn+1,lv,cr,ac,e,i,r,d,l⟩) 2 (I J (rn+1)) rfl).put 3 (I J (b:Int)) rfl)
  all_goals exact hI (by show pS _ _ _ _ _ _ _ _;rw[og h1 (fun hh=>by first|(have:=hh.1;omega)|(have:=bm.o.1 hh.2;simp at this))];exact(N.o.put (T':=⟨f,lf,1,lv,cr,ac,e,i,r,d,l⟩) 2 (I J 1) rfl).put 3 (I J (b:Int)) rfl)
 case rest=>
 have a9:=hcut;clear N bm ev y0 y2 y3 z2 z3 fr;obtain⟨K,H,b8⟩:∃K H,bG ⟨f,lf,rn,lv,cr,ac,e,i,r,d,l⟩ b=⟨f,lf,K,H,cr,ac,e,i,r,d,l⟩:=by unfold bG;split<;>exact⟨_,_,rfl⟩
 rw[b8]at a9;have y0:=a9.o.p.cell 0 _ rfl;have y4:=a9.o.p.cell 4 _ rfl;have z4:=a9.o.q.cell 4 _ rfl;have D:=a9.o.q.free 4;obtain⟨s,es⟩:∃s,(M.dE cr.toNat b)=s:=⟨_,rfl⟩
 rw[es]at b6;go_upto_if 68 with fail
 go_cut [] (fun B=>Hid (pS w (scL ⟨f,lf,rn,lv,cr,ac,e,i,r,d,l⟩ a n cap) P ⟨f,lf,K,H,if f<=9 then(s:Int)else cr,ac,e,i,r,d,l⟩ g n k B));case first=>
  have E6:f<=9\/9<f:=om;rcases E6 with h9|h9;all_goals
   go_wp2_with(go_at_call 60;refine(b6.o _).mono ?_;rintro o w1 ⟨rfl,rfl⟩);go_meet
  case rel=>exact hI (by show pS _ _ _ _ _ _ _ _;rw[QW h9];exact a9.o.put 4 (I J (s:Int)) rfl)
  exact hI (by show pS _ _ _ _ _ _ _ _;rw[QV om];exact a9.o)
 case rest=>
 have ad:=hcut;clear a9 y0 y4 z4 D b6;obtain⟨Y,bg⟩:∃x,(if f<=9 then(s:Int)else cr)=x:=⟨_,rfl⟩
 rw[bg]at ad;have y0:=ad.o.p.cell 0 _ rfl;have y5:=ad.o.p.cell 5 _ rfl;have z5:=ad.o.q.cell 5 _ rfl;have f5:=ad.o.q.free 5;go_upto_if 76 with fail
 go_cut [] (fun B=>Hid (pS w (scL ⟨f,lf,rn,lv,cr,ac,e,i,r,d,l⟩ a n cap) P ⟨f,lf,K,H,Y,if f=10 then(2*ac+b)%32768 else ac,e,i,r,d,l⟩ g n k B));case first=>
  have E7:f=10\/(f==10)=false:=by simp;omega
  rcases E7 with rfl|h9;all_goals
   go_wp2_with fail;go_meet
  case rel=>exact hI (ad.o.put 5 (I J ((2*ac+b)%32768)) rfl)
  exact hI (by show pS _ _ _ _ _ _ _ _;rw[QV (by simpa using h9)];exact ad.o)
 case rest=>
 have br:=hcut;clear ad y0 y5 z5 f5;obtain⟨a1,b9⟩:∃x,(if f=10 then(2*ac+b)%32768 else ac)=x:=⟨_,rfl⟩
 rw[b9]at br;have bk:Hid (ew (dZ (bG ⟨f,lf,rn,lv,cr,ac,e,i,r,d,l⟩ b) b) b=⟨f,lf,K,H,Y,a1,e,i,r,d,l⟩):=by
  show _=_;rw[b8,<- bg,<- b9,<- es];unfold ew dZ;by_cases h9:f<=9<;>by_cases cp:f=10<;>simp[h9,cp]
 obtain⟨E,b3⟩:∃E,aQ ⟨f,lf,rn,lv,cr,ac,e,i,r,d,l⟩ b=E:=⟨_,rfl⟩
 have bn:Hid (aQ ⟨f,lf,K,H,Y,a1,e,i,r,d,l⟩ b=ym ⟨f,lf,K,H,Y,a1,e,i,r,d,l⟩ E):=by show _=_;rw[<- b3];exact uK f lf rn lv cr ac K H Y a1 e i r d l b
 have a5:=HS.o;unfold okS at a5;simp only[]at a5;have bi:=iu f e d a5.2.2.2.1 a5.2.2.2.2.1;obtain⟨z,ez⟩:∃z,aS f e d=z:=⟨_,rfl⟩
 have bE:Hid (∀W,pS w (scL ⟨f,lf,rn,lv,cr,ac,e,i,r,d,l⟩ a n cap) P ⟨f,lf,K,H,Y,a1,e,i,r,d,l⟩ g n k W->ce 61 #[frV e i r d (be g) n k,I J f,I J (z-lf),I J (b:Int)] W fun o w'=>∃g' U R,o=rT (frV E.e E.i E.r E.d (be g') U R)/\w'.there P 6 5/\blk w' w.heap.size (scL ⟨f,lf,rn,lv,cr,ac,e,i,r,d,l⟩ a n cap) 55/\pS w (scL ⟨f,lf,rn,lv,cr,ac,e,i,r,d,l⟩ a n cap) P (aQ ⟨f,lf,K,H,Y,a1,e,i,r,d,l⟩ b) g' U R (w'.setCells P 6 [bO E.e,I .u32 (E.i:Int),bO E.r,I J E.d,sL (be g') U R])):=fun W h=>by
  refine(uA W (w.heap.size+2) (nT h.z (Q5 h.q.lt)) ⟨f,lf,rn,lv,cr,ac,e,i,r,d,l⟩ HS.o g n k h.o h.l (z-lf) (by rw[<- ez]) b hb).mono ?_;rintro o w' ⟨g',U,R,rfl,q1,q2,q3,q4,q5⟩;rw[b3]at q1 q2;have hz:=h.z;have hg:g'≠P:=by have:=h.ne;have:=h.q.lt;omega
  have hq:=h.q.kept (q4 P (Ne.symm h.ne) h.q.lt);have hp:=h.p.kept (q3.block _ om);rw[bn.o];exact⟨g',U,R,by rw[b3],hq.there 6 5 (by simp[scL]),hp,hp.other om _ _,(h.r.kept (q3.block _ om)).other om _ _,blk.put [I J f,I J lf,I J K,I J H,I J Y,I J a1] [bO e,I .u32 (i:Int),bO r,I J d,sL (be g) n k] [] _ hq rfl,q1.keep q2 (sO _ _ hg _ _ _),hg,q2,sW om _ _ (h.b.trans (q3.mono om)),hz⟩
 have HZ:Hid (0<=z/\z<=64/\1<=lf/\lf<=z):=by rw[<- ez];exact⟨bi.1,bi.2,a5.2.2.2.2.2.2.1,a5.2.2.2.2.2.2.2.1⟩
 rw[ez]at aw;go_upto_region 24 with fail
 go_cut [] (fun B=>∃g' U R,pS w (scL ⟨f,lf,rn,lv,cr,ac,e,i,r,d,l⟩ a n cap) P (aQ ⟨f,lf,K,H,Y,a1,e,i,r,d,l⟩ b) g' U R B);case first=>
  have E8:=0;clear bn b3 a5 bi HX b8 bg b9 es bk cu ez;refine Qu (S:=fun X=>blk X w.heap.size (scL ⟨f,lf,rn,lv,cr,ac,e,i,r,d,l⟩ a n cap) 55) kr ?_;have G:=br.o.below (bW _ _).drew;have hs:=G.p;change wpAnyH _ _ _ _ _ _ _ _ (World.drew _);generalize World.drew _=wd at*;refine tk 0 ?_;refine tk 2 ?_;refine tk 3 ?_ (hy:=fun X hX=>by(have y:=blk.cell hX 0 _ rfl;go_simp;try rfl));refine tk 4 ?_;refine tk 5 ?_ (hy:=fun X hX=>by(have y:=blk.cell hX 0 _ rfl;go_simp;try rfl));refine tk 6 ?_;refine tl 7 ?_ (fun X hX=>blk.loadAt [I J f,I J lf,I J rn,I J lv,I J cr,I J ac] [bO e,I .u32 (i:Int),bO r,I J d,sL a n cap] [] hX) underlying53 gc;refine tk 9 ?_;refine tk 10 ?_ (hy:=fun X hX=>by(have y:=blk.cell hX 1 _ rfl;go_simp;try rfl));refine tk 12 ?_;refine Qq (rs:=[1,8]) kr pQ (QT rfl (fun a0 C=>?qa) (QT rfl (fun a0 C=>?qb) QU));case' qa=>(rw[QW (by rfl)];refine wp_load_mid (P:=Tp) 53 (.tmp 84) rfl P 6 rfl _ _ G.fr underlying53 rfl gc ?_;refine C.out _ _ G.p (fun _=>?_);clear C a0;refine al 8 fun a0 C=>?_;go_simp;refine(aw.o _).mono ?_;rintro o we ⟨rfl,bt⟩;replace G:=G.below bt;go_wp2_with fail;refine C.out _ _ G.p (fun _=>?_);clear C a0 hs;have hs:=G.p;refine tk 11 ?_ (v:=I J (z-lf)) (hy:=fun X hX=>by(have hz:=HZ.o;go_simp;rw[QC];omega)))
  case' qb=>(go_simp;refine(aw.o _).mono ?_;rintro o we ⟨rfl,bt⟩;replace G:=G.below bt;go_wp2_with fail;refine C.out _ _ G.p (fun _=>?_);clear C a0 hs;have hs:=G.p;refine tk 11 ?_ (v:=I J (z-lf)) (hy:=fun X hX=>by(have hz:=HZ.o;go_simp;rw[QC];omega));refine al 1 fun a0 C=>?_;rw[QW (by rfl)];refine wp_load_mid (P:=Tp) 53 (.tmp 84) rfl P 6 rfl _ _ G.fr underlying53 rfl gc ?_;refine C.out _ _ G.p (fun _=>?_);clear C a0)
  all_goals
   refine al 13 fun a0 C=>?_;go_simp;refine(bE.o _ G).mono ?_;rintro o wf ⟨g',U,R,rfl,q1,q2,q3⟩;go_wp2_with fail;refine C.out _ _ q2 (fun _=>?_);clear C a0 hs G;have hs:=q2;refine tk 14 ?_;refine al 15 fun a0 C=>?_;rw[QW (by rfl)];refine QE (P:=Tp) 53 (.tmp 98) (.tmp 97) rfl P 6 #[bO E.e,I .u32 (E.i:Int),bO E.r,I J E.d,sL (be g') U R] rfl rfl q1 gc (lN _ _ _ _ _ _ _) ?_;refine C.out _ _ q3.p (fun _=>?_);have HR:=hI q3;clear C a0 hs q1 q2 q3;refine Qs kr ?_ _;go_wp2_with fail;go_meet;exact⟨g',U,R,HR.o⟩
 case rest=>
 obtain⟨g4,n4,k4,c9⟩:=hcut;have H4:=hI c9;have cs:=iH ⟨f,lf,K,H,Y,a1,e,i,r,d,l⟩ b hb a5.2.2.2.1 a5.2.2.2.2.1 ap.o;have ck:Hid (cB ⟨f,lf,rn,lv,cr,ac,e,i,r,d,l⟩ b=cT (aQ ⟨f,lf,K,H,Y,a1,e,i,r,d,l⟩ b)):=by show _=_;unfold cB;rw[bk.o]
 clear c9 bn bE br bk b3 b8 bg b9 es ap;generalize aQ ⟨f,lf,K,H,Y,a1,e,i,r,d,l⟩ b=T4 at*;obtain⟨D,a8,a7,a6,a3,a2,u,Q,A,t,l4⟩:=T4;obtain⟨rfl,rfl,c6,c7,bA⟩:=cs;have cz:=HZ.o;simp only[]at c6 c7 bA HS cz a5;have ap:=hI bA;have cb:=hI (fun W=>sI W D om om u Q A t (be g4) n4 k4);have co:=hI (fun W=>jl W (ax D u A t) u Q A t c6 c7 (be g4) n4 k4);clear bA a5 bi aw;have y1:=H4.o.p.cell 1 _ rfl;have x1:=H4.o.q.cell 1 _ rfl;have f1:=H4.o.q.free 1;go_upto_if 105 with fail
 clear y1 x1 f1;go_cut [] (fun B=>∃ao n2 k2,blk B P (scL (cT ⟨D,a8,a7,a6,a3,a2,u,Q,A,t,l4⟩) ao n2 k2) 55/\blk B (w.heap.size+1) z11 55/\Bl w B/\∀W',(∀q,q≠w.heap.size+1->W'.heap[q]?=B.heap[q]?)->iB W' ao n2 k2 (cT ⟨D,a8,a7,a6,a3,a2,u,Q,A,t,l4⟩).l/\∃g,ao=be g/\w.heap.size<=g/\g<W'.heap.size);case first=>
  obtain⟨l1,b7⟩:∃q,(a8==1)=q:=⟨_,rfl⟩
  cases l1;case false=>
   have hq:(a8-1==0)=false:=by simp at b7 ⊢;omega
   have b1:Hid (cT ⟨D,a8,a7,a6,a3,a2,u,Q,A,t,l4⟩=⟨D,a8-1,a7,a6,a3,a2,u,Q,A,t,l4⟩):=QV (by simpa using b7);have Z:=hI (H4.o.put (T':=⟨D,a8-1,a7,a6,a3,a2,u,Q,A,t,l4⟩) 1 (I J (a8-1)) rfl);clear b7;go_wp2_with fail;go_meet;rw[b1.o];exact⟨_,n4,k4,Z.o.q,Z.o.r,Z.o.b,fun W' h=>⟨Z.o.bytes ap.o h,Z.o.gl h⟩⟩
  case true=>
   obtain rfl:a8=1:=by simpa using b7
   have Z:=hI (H4.o.put (T':=⟨D,0,a7,a6,a3,a2,u,Q,A,t,l4⟩) 1 (I J (1-1)) rfl);have b1:Hid (cT ⟨D,1,a7,a6,a3,a2,u,Q,A,t,l4⟩=⟨ax D u A t,aS (ax D u A t) u t,a7,a6,a3,a2,u,Q,A,t,if(ax D u A t==9)=true then[]else l4⟩):=by show _=_;unfold cT;simp
   generalize ax D u A t=af at*;generalize aS af u t=sz at*;generalize wc.setCell ⟨P,1,nn⟩ (I J (1-1))=w5 at*;have y0:=Z.o.p.cell 0 _ rfl;have x1:=Z.o.q.cell 1 _ rfl;clear H4;go_wp2_with(refine ZG 53 Z.o.fr underlying53 gc ?_);refine(cb.o _).mono ?_;rintro o w6 ⟨rfl,bZ⟩;have H6:=hI (Z.o.below bZ);have x0:=H6.o.q.cell 0 _ rfl;have f0:=H6.o.q.free 0;have H7:=hI (H6.o.put (T':=⟨af,0,a7,a6,a3,a2,u,Q,A,t,l4⟩) 0 (I J af) rfl);clear bZ Z y0 x1;go_wp2_with(refine ZG 53 H7.o.fr underlying53 gc ?_);refine(co.o _).mono ?_;rintro o w8 ⟨rfl,c5⟩;have H8:=hI (H7.o.below c5);clear c5 H6 H7 x0 f0;have x1:=H8.o.q.cell 1 _ rfl;have f1:=H8.o.q.free 1;have x0:=H8.o.q.cell 0 _ rfl;have H9:=hI (H8.o.put (T':=⟨af,sz,a7,a6,a3,a2,u,Q,A,t,l4⟩) 1 (I J sz) rfl);obtain⟨q9,e9⟩:∃q,(af==9)=q:=⟨_,rfl⟩
   rw[e9]at b1;cases q9
   .go_wp2_with fail;go_meet;rw[b1.o];exact⟨_,n4,k4,H9.o.q,H9.o.r,H9.o.b,fun W' h=>⟨H9.o.bytes ap.o h,H9.o.gl h⟩⟩
   .have HA:=hI (H9.o.below ((bW _ _).alloc (nR _) (.cells #[] 5)));have d6:=HA.o.q.cell 10 _ rfl;have d1:=HA.o.q.free 10;have hP:=HA.o.z;have bo:Hid (w.heap.size<=w8.heap.size/\P<w8.heap.size/\blk ((w8.setCell ⟨P,1,nn⟩ (I J sz)).alloc (.cells #[] 5)) w8.heap.size [] 5):=⟨H8.o.b.size,H8.o.q.lt,by have:=blk.new (w8.setCell ⟨P,1,nn⟩ (I J sz)) [] 5;rwa [show(w8.setCell ⟨P,1,nn⟩ (I J sz)).heap.size=w8.heap.size by simp]at this⟩
    go_wp2_with fail;go_meet;rw[b1.o];have d4:=bo.o.2.1;refine⟨_,0,0,HA.o.q.set 10 (sL (be w8.heap.size) 0 0),HA.o.r.setOther om _ _,HA.o.b.setCell (by show _<=P;omega) _,fun W' h=>⟨⟨rfl,nR _,fun _ hx=>(by cases hx),fun hne=>Qj rfl hne⟩,_,rfl,bo.o.1,((bo.o.2.2.setOther om _ _).kept (h _ om)).lt⟩⟩
 case rest=>
 obtain⟨ao,n2,k2,h1,h2,h3,h4⟩:=hcut;have HQ:=hI h1;have HF:=hI (qB h2 (qB h3 h4));rw[ck.o]at HX
 clear h1 h2 h3 h4 H4;go_wp2_with(first|(refine ZG 55 HQ.o.load underlying55 dh ?_)|(refine Zs 55 (scL (cT ⟨D,a8,a7,a6,a3,a2,u,Q,A,t,l4⟩) ao n2 k2).toArray (HF.o.1.there 0 11 pQ) dh (lO _ _ _ _ _ _ _ _ _ _ _ _ _) ?_;generalize a4:World.setCells _ (w.heap.size+1) 0 _=w9;have ak:Hid (_=w9):=a4;clear a4))
 obtain⟨hL,am,ho⟩:=pS.fin HF.o.1 HF.o.2.1 _ ao n2 k2 ak.o;refine Qp (cI results18 _ _ (w.heap.size+1) _ rfl hL) rfl ?_;rw[HX.o];obtain⟨hv,hg⟩:=HF.o.2.2 _ ho;exact⟨ao,n2,k2,rfl,hv,am,fun _=>hg⟩
section
variable{n:Nat}{e r:Bool}
def sc0:Sc:=⟨1,1,0,0,0,0,false,0,false,0,[]⟩
def scO(l:List Nat):Sc:=l.foldl (fun S c=>(scn S (c-48)).1) sc0
def rU(l:List Nat)(c:Nat):scO (l++[c])=(scn (scO l) (c-48)).1:=by simp[scO]
def goR:Sc->List Nat->Prop
 |_,[]=>True
 |S,c::L=>((scn S (c-48)).2=0\/(scn S (c-48)).2=1)/\goR (scn S (c-48)).1 L
def ik(S:Sc)(L:List Nat):Sc:=L.foldl (fun S c=>(scn S (c-48)).1) S
def jH:∀(A B:List Nat)(S:Sc),goR S (A++B)↔goR S A/\goR (ik S A) B
 |[],B,S=>by simp[goR,ik]
 |c::A,B,S=>by
  show _/\goR _ (A++B)↔(_/\goR _ A)/\goR (ik _ A) B;rw[jH A B,and_assoc]
def mu(S:Sc)(A B:List Nat):ik S (A++B)=ik (ik S A) B:=List.foldl_append ..
structure Pl where
 f:Int
 lf:Int
 cr:Int
 ac:Int
 e:Bool
 r:Bool
 d:Int
def plS(S:Sc):Pl:=⟨S.f,S.lf,S.cr,S.ac,S.e,S.r,S.d⟩
def eF(f:Int)(e:Bool)(b:Nat):Bool:=if f=4 then b==1 else e
def rF(f:Int)(r:Bool)(b:Nat):Bool:=if f=3\/f=6 then b==1 else if f=4/\b=1 then false else r
def dF(f d:Int)(b:Nat):Int:=if f=8 then(2*d+b)%16 else d
def crF(f c:Int)(b:Nat):Int:=if f<=9 then((M.dE c.toNat b:Nat):Int)else c
def acF(f a:Int)(b:Nat):Int:=if f=10 then(2*a+b)%32768 else a
def plN(q:Pl)(b:Nat):Pl:=
 ⟨if q.lf=1 then ax q.f (eF q.f q.e b) (rF q.f q.r b) (dF q.f q.d b)else q.f,if q.lf=1 then aS (ax q.f (eF q.f q.e b) (rF q.f q.r b) (dF q.f q.d b)) (eF q.f q.e b) (dF q.f q.d b)else q.lf-1,crF q.f q.cr b,acF q.f q.ac b,eF q.f q.e b,rF q.f q.r b,dF q.f q.d b⟩
def zx(T:Sc):plS (cT T)=⟨if T.lf=1 then ax T.f T.e T.r T.d else T.f,if T.lf=1 then aS (ax T.f T.e T.r T.d) T.e T.d else T.lf-1,T.cr,T.ac,T.e,T.r,T.d⟩:=by
 unfold cT plS;split<;>rfl
def BL(S:Sc)(b:Nat):plS (cB S b)=plN (plS S) b/\(cB S b).rn=(bG S b).rn/\(cB S b).lv=(bG S b).lv:=by
 have h:∃x y,bG S b={S with rn:=x,lv:=y}:=by unfold bG;split<;>exact⟨_,_,rfl⟩
 obtain⟨x,y,h⟩:=h;obtain⟨f,lf,rn,lv,cr,ac,e,i,r,d,l⟩:=S;have n1:∀T:Sc,(cT T).rn=T.rn/\(cT T).lv=T.lv:=fun T=>by unfold cT;split<;>exact⟨rfl,rfl⟩
 unfold cB;rw[zx,(n1 _).1,(n1 _).2,h];simp only[];clear h n1;unfold plN plS aQ ew dZ eF rF dF crF acF;by_cases a:f=2
 .subst a;simp
 by_cases c:f=3
 .subst c;simp
 by_cases g:f=4
 .subst g;by_cases s:b=1<;>simp[s]
 by_cases j:f=5
 .subst j;simp
 by_cases k:f=6
 .subst k;simp
 by_cases h8:f=8
 .subst h8;simp
 by_cases p:f=9
 .subst p;simp
 by_cases h0:f=10
 .subst h0;simp
 by_cases h:f<=9<;>simp[a,c,g,j,k,h8,p,h0,h]
def gp:Pl->List Nat->Prop
 |_,[]=>True
 |q,c::L=>(1<=q.f/\q.f<=10/\(q.f=1->c=48))/\gp (plN q (c-48)) L
def plE(q:Pl)(L:List Nat):Pl:=L.foldl (fun q c=>plN q (c-48)) q
def mi:∀(A B:List Nat)(q:Pl),gp q (A++B)↔gp q A/\gp (plE q A) B
 |[],B,q=>by simp[gp,plE]
 |c::A,B,q=>by
  show _/\gp _ (A++B)↔(_/\gp _ A)/\gp (plE _ A) B;rw[mi A B];exact and_assoc.symm
def kW(q:Pl)(A B:List Nat):plE q (A++B)=plE (plE q A) B:=List.foldl_append ..
def yO(p:List Nat)(y:∀c∈p,M.isL c)(k:gp (plS sc0) p):goR sc0 (M.fV p)/\plS (ik sc0 (M.fV p))=plE (plS sc0) p/\(ik sc0 (M.fV p)).rn=((M.ga (M.fV p)).2:Int)/\((ik sc0 (M.fV p)).rn=0->p=[])/\(p≠[]->(ik sc0 (M.fV p)).lv+48=((M.ga (M.fV p)).1:Int)):=by
 induction p using M.jz with
 |h0=>exact⟨trivial,rfl,rfl,fun _=>rfl,fun h=>Qj rfl h⟩
 |h1 p c ih=>
  have K:=y c pQ;have A:∀c∈p,M.isL c:=fun x d=>y x (by simp[d]);rw[mi]at k;obtain⟨R,s,B,C,D⟩:=ih A k.1;obtain⟨⟨g,i,j⟩,-⟩:=k.2;have N:=M.FM p A;rw[M.ip,kW,<- s];rw[<- s]at g i j;have a:=M.dV (M.fV p) c;have P:p=[]->M.ga (M.fV p)=(0,0):=fun e=>by rw[e];rfl
  unfold M.lD;generalize M.ga (M.fV p)=t at*;obtain⟨x,m⟩:=t;obtain⟨S,hS⟩:∃S,ik sc0 (M.fV p)=S:=⟨_,rfl⟩
  rw[hS]at s B C D g i j ⊢;obtain⟨b,rfl,Z⟩:∃b,c=48+b/\(b=0\/b=1):=by rcases K with rfl|rfl;exact⟨0,rfl,.inl rfl⟩;exact⟨1,rfl,.inr rfl⟩
  have a0:1<=S.f:=g;have a1:S.f<=10:=i;have O:S.rn=(m:Int):=B;have Y:m<=4:=N;have Q:cm S.f S.lf S.cr S.ac b=0:=by
   unfold cm;by_cases h:S.f=1
   .have hb0:b=0:=by have:=j h;omega
    rw[QW h,hb0];rfl
   .rw[QV h,QV om,QV om,QV om]
  have hs:scn S (48+b-48)=(cB S b,0):=by
   rw[Qa];unfold scn;rw[QV om,Q,QW (.inl rfl)]
  obtain⟨W,s2,H⟩:=BL S b;have E:goR sc0 (M.fV p++[48+b]):=(jH _ _ _).2 ⟨R,.inl (by rw[hS,hs]),trivial⟩;have u:ik sc0 (M.fV p++[48+b])=cB S b:=by rw[mu,hS];show(scn S (48+b-48)).1=_;rw[hs]
  have L:bG S b={S with rn:=if 0<S.rn/\(b:Int)=S.lv then S.rn+1 else 1,lv:=b}:=QV om;have v:plE (plS S) [48+b]=plS (cB S b):=by rw[W];show plN _ (48+b-48)=_;rw[Qa]
  rw[L]at s2 H;have T:(cB S b).rn=((M.ij (x,m) (48+b)).2:Int):=by
   rw[s2];unfold M.ij;by_cases l:p=[]
   .have a:=P l;simp only[Prod.mk.injEq]at a;obtain⟨rfl,rfl⟩:=a;rw[QV om,QV (by show¬48+b=0;omega)];rfl
   .have h5:=D l;have h0:¬S.rn=0:=fun e=>l (C e);by_cases d:48+b=x
    .rw[QW (by constructor<;>(simp only[]at h5;omega)),QW d,O];rfl
    .rw[QV (by simp only[]at h5;omega),QV d];rfl
  have U:(cB S b).lv=(b:Int):=H;have G:(M.ij (x,m) (48+b)).1=48+b:=M.sN _ _;have q6:=M.Ay (x,m) (48+b);rw[a];split
  .rename_i hz;have w:scn (cB S b) (97-(48+b)-48)=({cB S b with rn:=1,lv:=((1-b:Nat):Int)},0):=by
    have:97-(48+b)-48=1-b:=om;rw[this];unfold scn;rw[QW om,QV om]
   have X:M.ga (M.fV p++[48+b]++[97-(48+b)])=(97-(48+b),1):=by
    rw[M.dV,a];unfold M.ij;rw[QV (by rw[show(if 48+b=(x,m).1 then((x,m).1,(x,m).2+1)else(48+b,1)).1=48+b from G];omega)]
   rw[X,mu,u,v];refine⟨(jH _ _ _).2 ⟨E,by rw[u];exact⟨.inl (by rw[w]),trivial⟩⟩,?_⟩;show plS (scn (cB S b) (97-(48+b)-48)).1=_/\(scn (cB S b) (97-(48+b)-48)).1.rn=_/\((scn (cB S b) (97-(48+b)-48)).1.rn=0->_)/\(_->(scn (cB S b) (97-(48+b)-48)).1.lv+48=_)
   rw[w];exact⟨rfl,rfl,fun e=>by simp at e,fun _=>by show((1-b:Nat):Int)+48=((97-(48+b):Nat):Int);omega⟩
  .rw[u,a,v];exact⟨E,rfl,T,fun e=>by omega,fun _=>by rw[U,G];push_cast;omega⟩
def mn(f:Int->Nat->Int)(K:Nat)(d:∀a b,f a b=(2*a+b)%K):∀n v,v<2 ^ n->2 ^ n<=K->(M.num v n).foldl (fun a c=>f a (c-48)) 0=(v:Int)
 |0,v,h,_=>by
  have:v=0:=by simpa using h
  subst this;rfl
 |n+1,v,h,hK=>by
  have g:2 ^ (n+1)=2*2 ^ n:=by rw[qC,Qd]
  show List.foldl _ _ (M.num (v / 2) n++[48+v%2])=_;rw[List.foldl_append,mn f K d n (v / 2) om om];show f _ (48+v%2-48)=_;rw[d,Qa,Int.emod_eq_of_lt om om];omega
def fld:∀(A:List Nat)(f lf cr ac:Int)(e r:Bool)(d:Int),2<=f->f<=10->lf=(A.length:Int)->A≠[]->(f=4->A.length=1)->gp ⟨f,lf,cr,ac,e,r,d⟩ A/\∃g j b,plE ⟨f,lf,cr,ac,e,r,d⟩ A=⟨ax f g j b,aS (ax f g j b) g b,A.foldl (fun a c=>crF f a (c-48)) cr,A.foldl (fun a c=>acF f a (c-48)) ac,g,j,b⟩/\g=A.foldl (fun a c=>eF f a (c-48)) e/\j=A.foldl (fun a c=>rF f a (c-48)) r/\b=A.foldl (fun a c=>dF f a (c-48)) d
 |[],_,_,_,_,_,_,_,_,_,_,h,_=>Qj rfl h
 |[c],f,lf,cr,ac,e,r,d,h1,h2,i,_,_=>by
  have i:lf=1:=i;subst i;refine⟨⟨⟨by show 1<=f;omega,h2,fun e=>by have:f=1:=e;omega⟩,trivial⟩,_,_,_,?_,rfl,rfl,rfl⟩;show plN _ _=_;simp[plN]
 |c::k::A,f,lf,cr,ac,e,r,d,h1,h2,i,_,h4=>by
  have p:lf=(A.length:Int)+1+1:=by rw[i];simp
  have l:plN ⟨f,lf,cr,ac,e,r,d⟩ (c-48)=⟨f,lf-1,crF f cr (c-48),acF f ac (c-48),eF f e (c-48),rF f r (c-48),dF f d (c-48)⟩:=by
   unfold plN;simp only[];rw[QV om,QV om]
  obtain⟨s,t⟩:=fld (k::A) f (lf-1) (crF f cr (c-48)) (acF f ac (c-48)) (eF f e (c-48)) (rF f r (c-48)) (dF f d (c-48)) h1 h2 (by rw[p];simp) pQ (fun e=>by have:=h4 e;simp at this);refine⟨⟨⟨by show 1<=f;omega,h2,fun e=>by have:f=1:=e;omega⟩,by rw[l];exact s⟩,?_⟩;show ∃g j b,plE (plN _ (c-48)) (k::A)=_/\_;rw[l];exact t
def jI(g:Int->Nat->Int)(h:∀a b,g a b=a):∀(A:List Nat)(a:Int),A.foldl (fun a c=>g a (c-48)) a=a
 |[],_=>rfl
 |c::A,a=>by show List.foldl _ (g a _) A=a;rw[h];exact jI g h A a
def iG(g:Bool->Nat->Bool)(h:∀a b,g a b=a):∀(A:List Nat)(a:Bool),A.foldl (fun a c=>g a (c-48)) a=a
 |[],_=>rfl
 |c::A,a=>by show List.foldl _ (g a _) A=a;rw[h];exact iG g h A a
def pV(f:Int)(h:f<=9):∀(A:List Nat)(n:Nat),A.foldl (fun a c=>crF f a (c-48)) (n:Int)=(((A.map (fun x=>x-48)).foldl M.dE n:Nat):Int)
 |[],_=>rfl
 |c::A,n=>by
  have e:crF f (n:Int) (c-48)=((M.dE n (c-48):Nat):Int):=by unfold crF;rw[QW h,Int.toNat_natCast]
  show List.foldl _ (crF f n (c-48)) A=_;rw[e,pV f h A];rfl
def AE{A:List Nat}{f lf d:Int}(l:f=2\/f=5\/f=7\/f=9)(c:lf=(A.length:Int))(hA:A≠[]):gp ⟨f,lf,n,0,e,r,d⟩ A/\plE ⟨f,lf,n,0,e,r,d⟩ A=⟨f+1,aS (f+1) e d,((A.map (fun x=>x-48)).foldl M.dE n:Nat),0,e,r,d⟩:=by
 obtain⟨g,k,p,j,h,rfl,rfl,rfl⟩:=fld A f lf n 0 e r d om om c hA (fun e=>by omega);rw[pV f om,jI (acF f) (fun a b=>by unfold acF;rw[QV om]),iG (eF f) (fun a b=>by unfold eF;rw[QV om]),iG (rF f) (fun a b=>by unfold rF;rw[QV om,QV om]),jI (dF f) (fun a b=>by unfold dF;rw[QV om])]at h;have i:ax f e r d=f+1:=by unfold ax;rw[QV om,QV om]
 rw[i]at h;exact⟨g,h⟩
def Io{d:Nat}(hd:d<=15):gp ⟨8,4,n,0,e,r,0⟩ (M.num d 4)/\plE ⟨8,4,n,0,e,r,0⟩ (M.num d 4)=⟨if r=true\/d=0 then 10 else 9,if r=true\/d=0 then 15 else if d > 8 then 64 else 8*d,(((M.num d 4).map (fun x=>x-48)).foldl M.dE n:Nat),0,e,r,d⟩:=by
 obtain⟨g,f,i,c,h,rfl,rfl,rfl⟩:=fld (M.num d 4) 8 4 n 0 e r 0 om om (by rw[M.EI];rfl) (by intro e;have:=M.EI 4 d;rw[e]at this;cases this) (fun e=>by omega);rw[pV 8 om,jI (acF 8) (fun a b=>rfl),mn (dF 8) 16 (fun a b=>rfl) 4 d om om]at h;refine⟨g,h.trans ?_⟩;have:∀e r,ax 8 e r (d:Int)=if r=true\/d=0 then 10 else 9:=fun e r=>by unfold ax;simp
 rw[this];split
 .rfl
 .congr 1;unfold aS;simp;omega
def tO{S:Sc}(h:okS S)(hs:∀x∈S.l,x<256)(b:Nat)(s:b=0\/b=1)(a:(scn S b).2=0\/(scn S b).2=1):okS (scn S b).1/\∀x∈(scn S b).1.l,x<256:=by
 obtain⟨f,lf,rn,lv,cr,ac,e,i,r,d,l⟩:=S;obtain⟨h1,y,A,B,C,E,G,h8,R,N,j,O,P,Q,t,u,v,w,p⟩:=h;simp only[]at h1 y A B C E G h8 R N j O P Q t u v w p hs;unfold scn at a ⊢;simp only[]at a ⊢;by_cases D:rn=5
 .rw[QW D]at a ⊢;split at a
  .rcases a with a|a<;>cases a
  .rename_i hne;rw[QV hne];exact⟨⟨h1,y,A,B,C,E,G,h8,pQ,pQ,by show(0:Int)<=b;omega,by show(b:Int)<=1;omega,fun e=>by simp at e,by show(f=1\/11<f)↔(1:Int)=0;omega,t,u,v,w,p⟩,hs⟩
 rw[QV D]at a ⊢;have k:cm f lf cr ac b=0\/cm f lf cr ac b=1:=by
  split at a
  .assumption
  .exact a
 rw[QW k];have U:f=14->lf≠1:=by
  rintro rfl rfl;unfold cm at k;rcases s with rfl|rfl<;>simp at k
 clear a k;have Y:=M.iq cr.toNat b;have L:∀(c g:Int),0<=c/\c<=5/\0<=g/\g<=1/\¬(c=0/\g=1)->(11<=f↔c=0)->bG ⟨f,lf,rn,lv,cr,ac,e,i,r,d,l⟩ b=⟨f,lf,c,g,cr,ac,e,i,r,d,l⟩->okS (cB ⟨f,lf,rn,lv,cr,ac,e,i,r,d,l⟩ b)/\∀x∈(cB ⟨f,lf,rn,lv,cr,ac,e,i,r,d,l⟩ b).l,x<256:=by
  intro c g Z a0 H;unfold cB;rw[H];clear H;refine⟨?_,fun x X=>?_⟩;rotate_left
  .have e1:∀T:Sc,x∈(cT T).l->x∈T.l:=fun T h=>by
    unfold cT at h;split at h
    .simp only[]at h;split at h
     .cases h
     .exact h
    .exact h
   refine(iH (ew (dZ ⟨f,lf,c,g,cr,ac,e,i,r,d,l⟩ b) b) b om ?_ ?_ ?_).2.2.2.2 x (e1 _ X)<;>unfold ew dZ<;>(repeat' split)<;>assumption
  have W:f=1\/f=2\/f=3\/f=4\/f=5\/f=6\/f=7\/f=8\/f=9\/f=10\/f=11\/f=12\/f=13\/f=14:=om;rcases W with rfl|rfl|rfl|rfl|rfl|rfl|rfl|rfl|rfl|rfl|rfl|rfl|rfl|rfl;all_goals
   simp[aS]at h8 p U;unfold okS;by_cases K:lf=1
   .rcases s with rfl|rfl<;>simp[aQ,ew,dZ,cT,ax,aS,eu,K]<;>(repeat' split)<;>(try simp_all)<;>omega
   .rcases s with rfl|rfl<;>simp[aQ,ew,dZ,cT,aS,eu,K]<;>(repeat' split)<;>(try simp_all)<;>omega
 by_cases j:11<=f
 .exact L 0 0 pQ om (QW j)
 .refine L _ _ ?_ ?_ (QV j)
  .simp only[];split<;>omega
  .simp only[];split<;>omega
def zw(e:Bool)(i:Nat)(r:Bool)(d:Nat)(l:List Nat)(hd:d<=15)(p:(l.length:Int)=dl r d):gp (plS sc0) (aj e i r d l)/\∃c q,plE (plS sc0) (aj e i r d l)=⟨11,1,c,c,e,r,q⟩:=by
 have C:(l.flatMap (fun x=>M.num x 8)).length=8*l.length:=by
  rw[List.length_flatMap];simp only[M.EI,List.map_const',List.sum_replicate_nat];omega
 obtain⟨D,s⟩:∃D,l.flatMap (fun x=>M.num x 8)=D:=⟨_,rfl⟩
 have P:gp (plS sc0) (aK e i r d l)/\plE (plS sc0) (aK e i r d l)=⟨10,15,(M.js ((aK e i r d l).map (fun x=>x-48)):Nat),0,e,r,d⟩:=by
  have H:∀v,M.num v 11≠[]:=fun v e=>by have:=M.EI 11 v;rw[e]at this;cases this
  have Q:∀v,M.num v 18≠[]:=fun v e=>by have:=M.EI 18 v;rw[e]at this;cases this
  have t:∀b:Bool,(48+b.toNat-48:Nat)=b.toNat:=fun b=>Qa ..;have E:(r.toNat==1)=r:=by cases r<;>rfl
  have tail:∀n:Nat,gp ⟨8,4,n,0,e,r,0⟩ (M.num d 4++D)/\plE ⟨8,4,n,0,e,r,0⟩ (M.num d 4++D)=⟨10,15,(((M.num d 4++D).map (fun x=>x-48)).foldl M.dE n:Nat),0,e,r,d⟩:=by
   intro n;obtain⟨B,h1⟩:=Io (n:=n) (e:=e) (r:=r) hd;rw[mi,kW,h1,List.map_append,List.foldl_append];by_cases h0:r=true\/d=0
   .have:D=[]:=by
     refine List.length_eq_zero_iff.1 ?_;rw[<- s,C];unfold dl at p;rcases h0 with h0|h0
     .rw[QW h0]at p;omega
     .subst h0;split at p<;>omega
    subst this;rw[QW h0,QW h0];exact⟨⟨B,trivial⟩,rfl⟩
   .have u:r=false:=by cases r<;>simp_all
    subst u;have w:(if(d:Int) > 8 then 64 else 8*(d:Int))=(D.length:Int):=by
     rw[<- s,C];unfold dl at p;rw[QV (by decide)]at p;split<;>split at p<;>omega
    have O:(if false=true\/d=0 then(15:Int)else if d > 8 then 64 else 8*d)=(D.length:Int):=by rw[QV h0,<- w];split<;>split<;>omega
    rw[QV h0,O]
    obtain⟨N,y⟩:=AE (n:=((M.num d 4).map (fun x=>x-48)).foldl M.dE n) (e:=e) (r:=false) (d:=(d:Int)) (.inr (.inr (.inr rfl))) rfl (show D≠[]by
     intro e;rw[e]at w
     have:d≠0:=fun q=>h0 (.inr q)
     split at w<;>simp at w<;>omega)
    exact⟨⟨B,N⟩,y⟩
  have one:∀(q:Pl)(c:Nat)(L:List Nat)(k:Pl)(z:Pl),(1<=q.f/\q.f<=10/\(q.f=1->c=48))->plN q (c-48)=k->(gp k L/\plE k L=z)->gp q (c::L)/\plE q (c::L)=z:=fun q c L k z h1 y h=>by
   subst y;exact⟨⟨h1,h.1⟩,h.2⟩
  have two:∀(q:Pl)(A L:List Nat)(k:Pl)(z:Pl),(gp q A/\plE q A=k)->(gp k L/\plE k L=z)->gp q (A++L)/\plE q (A++L)=z:=fun q A L k z h1 h=>by
   obtain⟨h1,rfl⟩:=h1;exact⟨(mi _ _ _).2 ⟨h1,h.1⟩,(kW _ _ _).trans h.2⟩
  cases e
  .have hB:aK false i r d l=48::(M.num i 11++((48+r.toNat)::48::48::(M.num d 4++D))):=by
    unfold aK fK;rw[s];simp[M.num]
   rw[hB];refine one _ _ _ ⟨2,11,(M.dE 0 0:Nat),0,false,false,0⟩ _ (by decide) (by rfl) ?_;refine two _ _ _ _ _ (AE (.inl rfl) (by rw[M.EI];rfl) (H _)) ?_;refine one _ _ _ ⟨4,1,_,0,false,r,0⟩ _ pQ (by rw[t];simp[plN,crF,acF,eF,rF,dF,ax,aS,E];rfl) ?_;refine one _ _ _ ⟨7,1,_,0,false,r,0⟩ _ pQ (by simp[plN,crF,acF,eF,rF,dF,ax,aS];rfl) ?_;refine one _ _ _ ⟨8,4,_,0,false,r,0⟩ _ pQ (by simp[plN,crF,acF,eF,rF,dF,ax,aS];rfl) ?_;refine⟨(tail _).1,(tail _).2.trans ?_⟩;simp[M.js,t]
  .have hB:aK true i r d l=48::(M.num (i / 2 ^ 18) 11++(49::49::(M.num i 18++((48+r.toNat)::([48,48]++(M.num d 4++D)))))):=by
    unfold aK fK;rw[s];simp[M.num]
   rw[hB];clear hB;generalize i / 2 ^ 18=j;refine one _ _ _ ⟨2,11,(M.dE 0 0:Nat),0,false,false,0⟩ _ (by decide) (by rfl) ?_;refine two _ _ _ _ _ (AE (.inl rfl) (by rw[M.EI];rfl) (H _)) ?_;refine one _ _ _ ⟨4,1,_,0,false,true,0⟩ _ pQ (by simp[plN,crF,acF,eF,rF,dF,ax,aS];rfl) ?_;refine one _ _ _ ⟨5,18,_,0,true,false,0⟩ _ pQ (by simp[plN,crF,acF,eF,rF,dF,ax,aS];rfl) ?_;refine two _ _ _ _ _ (AE (.inr (.inl rfl)) (by rw[M.EI];rfl) (Q _)) ?_;refine one _ _ _ ⟨7,2,_,0,true,r,0⟩ _ pQ (by rw[t];simp[plN,crF,acF,eF,rF,dF,ax,aS,E];rfl) ?_;refine two _ _ _ _ _ (AE (.inr (.inr (.inl rfl))) rfl (by decide)) ?_;refine⟨(tail _).1,(tail _).2.trans ?_⟩;simp[M.js,t]
 obtain⟨k1,k2⟩:=P;unfold aj;rw[mi,kW,k2];have S:=M.CU ((aK e i r d l).map (fun x=>x-48));generalize M.js ((aK e i r d l).map (fun x=>x-48))=c at*;obtain⟨g,R,U,K,h,G,u,T⟩:=fld (M.num c 15) 10 15 c 0 e r d om om (by rw[M.EI];rfl) (by intro e;have:=M.EI 15 c;rw[e]at this;cases this) (fun e=>by omega);rw[jI (crF 10) (fun a b=>rfl),mn (acF 10) 32768 (fun a b=>rfl) 15 c om om]at h;rw[iG (eF 10) (fun a b=>rfl)]at G;rw[iG (rF 10) (fun a b=>rfl)]at u;subst G u;exact⟨⟨k1,g⟩,c,K,h⟩
def goL(L:List Nat):Prop:=(∀c∈L,c=48\/c=49)/\L.length<=1000/\goR sc0 L
def goL.at{L:List Nat}(h:goL L)(i:Nat):okS (scO (L.take i))/\(∀x∈(scO (L.take i)).l,x<256)/\∀g:i<L.length,(scn (scO (L.take i)) (L[i]-48)).2=0\/(scn (scO (L.take i)) (L[i]-48)).2=1:=by
 have j:∀(A B:List Nat)(S:Sc),(∀c∈A,c=48\/c=49)->okS S->(∀x∈S.l,x<256)->goR S (A++B)->okS (ik S A)/\(∀x∈(ik S A).l,x<256)/\goR (ik S A) B:=by
  intro A;induction A with
  |nil=>intro B S _ h1 d a;exact⟨h1,d,a⟩
  |cons c A ih=>
   intro B S b h1 d a;have:=tO h1 d (c-48) (by have:=b c pQ;omega) a.1;exact ih B _ (fun x f=>b x (by simp[f])) this.1 this.2 a.2
 obtain⟨k1,k2,k3⟩:=j (L.take i) (L.drop i) sc0 (fun c b=>h.1 c (qF b)) (by unfold okS sc0;decide) (by intro x f;cases f) (by rw[List.take_append_drop];exact h.2.2);refine⟨k1,k2,fun g=>?_⟩;rw[List.drop_eq_getElem_cons g]at k3;exact k3.1
def Cx(e:Bool)(i:Nat)(r:Bool)(d:Nat)(l:List Nat)(hd:d<=15)(s:(l.length:Int)=dl r d):goR sc0 (M.fV (aj e i r d l)++List.replicate 9 49)/\(ik sc0 (M.fV (aj e i r d l)++List.replicate 9 49)).f=14:=by
 have g:=cZ e i r d l;obtain⟨h,c,q,j⟩:=zw e i r d l hd s;obtain⟨h1,b,k,-,-⟩:=yO _ g h;have p:=M.FM _ g;rw[jH,mu];generalize ik sc0 (M.fV (aj e i r d l))=S at*;rw[j]at b;have a:S.rn≠5:=om;clear k p h j g;obtain⟨f,lf,rn,lv,cr,ac,u,v,w,t,l'⟩:=S;simp only[plS,Pl.mk.injEq]at b;obtain⟨rfl,rfl,rfl,rfl,rfl,rfl,rfl⟩:=b;have a:rn≠5:=a;refine⟨⟨h1,?_⟩,?_⟩
 .simp[List.replicate,goR,scn,a,cm,cB,bG,dZ,ew,aQ,cT,ax,aS]
 .simp[List.replicate,ik,scn,a,cm,cB,bG,dZ,ew,aQ,cT,ax,aS]
end
def zL(S:Sc)(hS:okS S)(hs:∀x∈S.l,x<256):bd S:=by
 obtain⟨h1,n,p,a,b,r,s,h8,B,t,u,v,w,y,g,h,i,j,k⟩:=hS;have D:=iu S.f S.e S.d a b;refine⟨h1,n,p,a,b,r,s,om,g,h,i,j,hs,fun c A=>?_⟩;obtain⟨E,G,H⟩:=k c;have C:aS S.f S.e S.d%8=0:=by rw[c];unfold aS;simp;split<;>omega
 omega
def fF(S:Sc)(b:Nat):dX S b=(scn S b).2/\((scn S b).2=0\/(scn S b).2=1->aI S b=(scn S b).1):=by
 unfold dX aI scn
 (repeat' split)<;>simp_all
def yD{c:cx}{w:World}{B:Nat}{S:Sc}{a:Option Addr}{n k:Nat}(h:sK c w w B S a n k)(hS:okS S)(hs:∀x∈S.l,x<256)(b:Nat)(g:b<2):ce 193 #[pT (some ⟨c.P,c.o,none⟩),I J (b:Int)] w fun o w'=>o=rT (I J (scn S b).2)/\∃T d f e,((scn S b).2=0\/(scn S b).2=1->T=(scn S b).1)/\sK c w w' B T d f e:=by
 refine(yB h (zL S hS hs) ⟨hS.2.2.2.2.2.2.2.2.1,hS.2.2.2.2.2.2.2.2.2.1⟩ b g).mono fun o w' j=>?_;obtain⟨rfl,d,f,e,i⟩:=j;rw[(fF S b).1];exact⟨rfl,_,d,f,e,(fF S b).2,i⟩
def fO(S:Sc)(a:Option Addr)(n k:Nat):(scL S a n k).toArray.all (·.oneCell')=true:=Qv (by simp[scL,Value.oneCell'])
def dY(S:Sc)(a:Option Addr)(n k:Nat):(Tp.info? 55).map (·.size)=sQ (scL S a n k).length:=dh
def jb(w:World):ce 192 #[] w fun o w'=>o=rT (aG (scL sc0 nn 0 0).toArray)/\Bl w w':=by
 have b:Hid (blk (w.alloc (.cells z11.toArray 55)) w.heap.size z11 55):=blk.new w z11 55;have f:∀W:World,(Instr.build 55 #[(0,I J 1),(1,I J 1)]).run Tp W= .ok (aG (scL sc0 nn 0 0).toArray) W:=fun W=>by kernel_rfl
 go_enter func192,ntmps192
 go_wp2_with(refine Zs 55 (scL sc0 nn 0 0).toArray (b.o.there 0 11 (nR _)) dh (fO _ _ _ _) ?_;generalize d:World.setCells _ w.heap.size 0 _=a;have e:Hid (_=a):=d;clear d)
 have c:=e.o;have hF:blk a w.heap.size (scL sc0 nn 0 0) 55:=by rw[<- c];exact b.o.put [] z11 [] (scL sc0 nn 0 0) rfl
 refine bC results192 (Qt (P:=Tp) a w.heap.size 0 55 _ _ hF.load underlying55 rfl dh) ?_;exact⟨rfl,by rw[<- c];exact sW (nR _) _ _ Zw⟩
structure soS(w:World)(R P:Nat)(hd:ByteArray)(i:Nat)(S:Sc)(W:World):Prop where
 x:∃g n c,blk W P (scL S g n c) 55/\ae W (P+2) (sL g n c) S.l/\n=S.l.length
 it:W.heap[P+1]?=sQ (.stringIter hd i)
 b:Below R w W
 r:blk W R z11 55
 z:P+2<=W.heap.size
def soS.next{w:World}{R P:Nat}{hd:ByteArray}{i:Nat}{S:Sc}{W:World}(h:soS w R P hd i S W)(hR:R<P)(j:Nat):soS w R P hd j S (W.iterAt (P+1) hd j):=by
 obtain⟨g,n,c,h1,a,d⟩:=h.x;refine⟨⟨g,n,c,(QN W (P+1) P hd j om).trans h1,a.otherBlock fun q e=>QN W (P+1) q hd j (by have:=(Qm a q e).1;omega),d⟩,Lib.iterAt_heap W (P+1) hd i j h.it,Lib.below_iterAt h.b om hd j,(QN W (P+1) R hd j om).trans h.r,?_⟩;exact nT h.z (Lib.below_iterAt (bW 0 W) (nZ _) hd j).size
def pd(w:World)(hg:w.rangeAt 0 0 cQ)(hz:0<w.heap.size)(hd:ByteArray)(hL:goL (hd.data.toList.map (·.toNat))):ce 137 #[.string hd] w fun o w'=>∃a n k,o=rT (aG (scL (scO (hd.data.toList.map (·.toNat))) a n k).toArray)/\ae w' w.heap.size (sL a n k) (scO (hd.data.toList.map (·.toNat))).l/\n=(scO (hd.data.toList.map (·.toNat))).l.length/\Bl w w':=by
 obtain⟨L,O⟩:∃L,hd.data.toList.map (·.toNat)=L:=⟨_,rfl⟩
 rw[O]at hL ⊢;have a4:Hid (L.length=hd.size):=by show _=_;rw[<- O,qP,Array.length_toList];rfl
 have a3:Hid (∀i(h:i<hd.size)(h':i<L.length),L[i]=hd[i].toNat):=by intro i h h';subst O;simp;rfl
 have HL:Hid (goL L):=hL;clear hL O;have HT:Hid (∀W,Bl w W->W.rangeAt 0 0 cQ):=fun W hW j v d=>(hW.cell (p:=⟨0,0+j,nn⟩) (by exact hz)).trans (hg j v d);have a2:Hid (ce 192 #[] (w.alloc (.cells z11.toArray 55)) fun o w'=>o=rT (aG (scL sc0 nn 0 0).toArray)/\Below (w.alloc (.cells z11.toArray 55)).heap.size (w.alloc (.cells z11.toArray 55)) w'):=jb _;have K:Hid (blk (w.alloc (.cells z11.toArray 55)) w.heap.size z11 55/\Bl w (w.alloc (.cells z11.toArray 55))):=⟨blk.new w z11 55,Zw⟩
 clear hg;go_enter func137,ntmps137;go_wp2_with fail;refine a2.o.mono ?_;rintro o f ⟨rfl,a0⟩;have C:Hid (blk f w.heap.size z11 55/\Bl w f):=⟨K.o.1.below a0,K.o.2.trans (a0.mono K.o.2.size)⟩
 clear a0 a2 K;have S:Hid (blk (f.alloc (.cells z11.toArray 55)) f.heap.size z11 55):=blk.new f z11 55;have t:Hid (w.heap.size<f.heap.size):=C.o.1.lt
 go_wp2_with(refine Zs 55 (scL sc0 nn 0 0).toArray (S.o.there 0 11 (nR _)) dh (fO _ _ _ _) ?_;generalize d:World.setCells _ f.heap.size 0 _=s;have M:Hid (_=s):=d;clear d)
 have N:=M.o;have Z:s.heap.size=f.heap.size+1:=by rw[<- N,sZ];simp
 have a6:blk s f.heap.size (scL sc0 nn 0 0) 55:=by rw[<- N];exact S.o.put [] z11 [] (scL sc0 nn 0 0) rfl
 have Y:Bl f s:=by rw[<- N];exact sW (nR _) _ _ Zw
 have Q:Bl s (s.iter hd 0):=Zw;have R:=World.iter_heap s hd 0;rw[Z]at R;have ST:soS w w.heap.size f.heap.size hd 0 (scO (L.take 0)) (s.iter hd 0):=
  ⟨⟨nn,0,0,a6.below Q,iO _ _,rfl⟩,R,(C.o.2.trans (Y.mono C.o.2.size)).trans (Q.mono (by have:=t.o;omega)),(C.o.1.below Y).below Q,av R⟩
 clear N a6 Y Q R M S C;rw[Z];clear Z;generalize f.heap.size=P at*;go_loopw [5] (fun _ wr=>∃k:Nat,k<=hd.size/\soS w w.heap.size P hd k (scO (L.take k)) wr) (fun _ wr=>hd.size-wr.iterPos (P+1));case atStart=>exact⟨0,nZ _,ST⟩
 case round=>
  clear ST;obtain⟨k,hk,st⟩:=hrel;by_cases B:k<hd.size
  .have hlL:k<L.length:=by rw[a4.o];exact B
   have hA:=HL.o.at k;have a8:=hA.2.2 hlL;have d:=HL.o.1 L[k] (ql hlL);have a1:=d;rw[a3.o k B hlL]at a1;have a9:=fun D=>Lib.run_next_ascii_at (P:=Tp) wr (P+1) hd k D st.it B (by rcases a1 with h|h<;>omega);have y:=st.next t.o (k+1);have HP:Hid (wr.iterPos (P+1)=k):=iterPos_of st.it;clear st;generalize wr.iterAt (P+1) hd (k+1)=ad at*;have U:Hid (ce 193 #[ap P,I J ((L[k]-48:Nat):Int)] ad fun o w'=>(∃v,o=rT v)/\soS w w.heap.size P hd (k+1) (scO (L.take (k+1))) w'):=by
    obtain⟨g,n,c,E,G,H⟩:=y.x;refine(yD (c:=⟨P,0,55,[],[]⟩) ⟨rfl,E,G,H,bW _ _,fun _ _ _=>rfl,⟨y.z,by show P<P+2;omega,by show 0<P;have:=t.o;omega⟩,HT.o ad y.b⟩ hA.1 hA.2.1 _ om).mono ?_;rintro o w' ⟨d,T,g',n',c',hT,u⟩;rw[qe hlL,rU,<- hT a8];exact⟨⟨_,d⟩,⟨g',n',c',u.q,u.o,u.l⟩,(u.r _ (by show P+1≠P;omega) (.inl om)).trans y.it,y.b.trans (u.b.mono (Q5 t.o)),(u.r _ (by have:=t.o;show _≠P;omega) (.inl (by have:=t.o;omega))).trans y.r,u.z.1⟩
   have a5:L[k]-48=hd[k].toNat-48:=by rw[a3.o k B hlL]
   rw[a5]at U;clear y a8 hA d a5;rcases a1 with a7|a7
   all_goals
    rw[a7]at a9 U;go_wp2_with(go_at_call 193;refine U.o.mono ?_;rintro o s ⟨⟨v,rfl⟩,ac⟩);go_roundw;case rel=>exact⟨k+1,om,ac⟩
    case measure=>rw[iterPos_of ac.it,HP.o];omega
  .have hke:k=hd.size:=om;subst hke;have a9:∀D,(Instr.next (ap (P+1)) true D).run Tp wr=_:=fun D=>Lib.run_next_end_at wr (P+1) hd hd.size D st.it B;obtain⟨g,n,c,E,G,H⟩:=st.x;have e:L.take hd.size=L:=QY (by rw[a4.o];exact nR _);rw[e]at E G H;have A:Hid (blk wr P (scL (scO L) g n c) 55/\ae wr (P+2) (sL g n c) (scO L).l/\n=(scO L).l.length/\blk wr w.heap.size z11 55/\Bl w wr):=⟨E,G,H,st.r,st.b⟩
   clear st E G H B e;go_wp2_with(first|(refine ZG 55 A.o.1.load underlying55 (dY _ _ _ _) ?_)|(refine Zs 55 (scL (scO L) g n c).toArray (A.o.2.2.2.1.there 0 11 (nR _)) dh (fO _ _ _ _) ?_;generalize d:World.setCells _ w.heap.size 0 _=w3;have M:Hid (_=w3):=d;clear d))
   have X:=M.o;have hF:blk w3 w.heap.size (scL (scO L) g n c) 55:=by rw[<- X];exact A.o.2.2.2.1.put [] z11 [] (scL (scO L) g n c) rfl
   refine bC results137 (Qt (P:=Tp) w3 w.heap.size 0 55 _ _ hF.load underlying55 rfl (dY _ _ _ _)) ?_;refine⟨g,n,c,rfl,?_,A.o.2.2.1,by rw[<- X];exact sW (nR _) _ _ A.o.2.2.2.2⟩;rw[<- X];exact(A.o.2.1.setCells (by have:=t.o;omega) 0 _).mono (by have:=t.o;omega)
end Go.Proofs.YtbbffcolnddcdaaGreatDoor
