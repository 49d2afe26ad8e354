import Derived.Test.YtbbffcolnddcdaaGreatDoorK48
namespace Go.Proofs.YtbbffcolnddcdaaGreatDoor
open Go.Proofs.Tryz
set_option maxRecDepth 20000
open Go.RowKit
set_option linter.all false
set_option maxHeartbeats 16000000
open Go.Value renaming int->I,slice->sL,bool->bO,pointer->pT,agg->aG
open Go.IntKind renaming i64->J
open Go.Ending renaming returned->rT
open Go.Proofs.Tryz renaming prog->Tp
def zz(E:ByteArray)(f:okT E 4000=true)(h:E.size<=4000)(V:World):ce 20 #[.string E] V fun o w'=>∃b n cap,o=rT (pkV (E.size:Int) b n cap)/\ah w' b n cap (wl (lt E))/\(∀p,b=some p->V.heap.size<=p.block)/\Bl V w':=by
 refine(kv E V f h).mono ?_;rintro o w' ⟨b,cap,rfl,c,g⟩;rw[Dw]at c;have d:(E.size+63) / 64=(wl (lt E)).length:=by rw[cD,aN]
 exact⟨b,_,cap,rfl,c.words d (im _) (c.cap d),fun p e=>by have:=(Qm c p.block (lK c p e)).1;omega,g⟩
def tP{S:Sc}{a:Option Addr}{n k:Nat}(V:World)(hS:okS S)(h:iB V a n k S.l)(b:Nat)(L:b=0\/b=1):ce 18 #[aG (scL S a n k).toArray,I J (b:Int)] V fun o w'=>∃c f d,o=rT (.tuple #[aG (scL (scn S b).1 c f d).toArray,I J (scn S b).2])/\(∀i:Nat->Nat,(∀{x},V.heap.size<=x->i x=0)->byP i w' c f d (scn S b).1.l)/\((scn S b).2=1->∃g,c=be g/\V.heap.size<=g/\g<w'.heap.size)/\Bl V w':=by
 refine(jw V S hS a n k h b om).mono fun o w' K=>?_;obtain⟨c,f,d,u,v,y,j⟩:=K;refine⟨c,f,d,u,fun i h1=>⟨v,fun D p G=>?_⟩,fun e=>j (.inr e),y⟩
 have C:(scn S b).2=0\/(scn S b).2=1:=Classical.byContradiction fun E=>D (by
  unfold scn at E ⊢
  (repeat' split)<;>simp_all [scZ])
 obtain⟨g,t,B,_⟩:=j C;rw[G]at t;cases t;exact h1 B
section
variable{κ κ' κ0:Nat->Nat}{A T:Ov}{q0 q q':Os}{H H':Ho}{s s':Sl}{w W W':World}{p r P:Nat}{S:Sc}{a:Option Addr}{n k:Nat}{l:List Nat}
structure svP(κ:Nat->Nat)(P:Nat)(S:Sc)(a:Option Addr)(n k:Nat)(W:World):Prop where
 q:blk W P (scL S a n k) 55
 z:κ P=0
 d:byP κ W a n k S.l
def svP.mv(h:svP κ P S a n k W)(m:mvH κ W κ' W'):svP κ' P S a n k W':=⟨m.blk h.q h.z,by rw[m.c _ h.q.lt];exact h.z,h.d.mv m⟩
def svP.ne(h:svP κ P S a n k W)(f:fo w κ0 A q0 κ H s W):P≠w.heap.size+1:=fun e=>by
 have h1:=h.q;have h2:=f.r;unfold blk at h1 h2;rw[e,h2]at h1;injection h1 with h1
 injection h1 with _ h1 _
 exact Qj h1 (by decide)
def sdO(A:Ov)(b:Nat)(d:Nat):Ov:=
 if d≠b/\(d=0\/A.s.f≠12)then
  (if d=0\/¬(2<=A.s.f/\A.s.f<=6)then bh (au A.c (ba A.c 1))else if A.s.rn=5 then bh (au A.c (ba A.c 6))else⟨au A.c (aU A.c 5 zF5),(scn A.s b).1,0,0,[]⟩)
 else if d=b/\A.s.f=12 then bh (au A.c (ba A.c 5))
 else if A.u+1=A.n then bh (au A.c (aU A.c 1 zF5))
 else⟨A.c,(scn A.s b).1,A.n,A.u+1,A.w⟩
def A5(w:World)(C:Co)(s:Sl)(S:Sc)(a:Option Addr)(n k:Nat):(Instr.build 58 #[(0,aG (coL C s).toArray),(1,aG (scL S a n k).toArray)]).run Tp w= .ok (aG (oL ⟨C,S,0,0,[]⟩ ⟨s,a,n,k,none,0,0⟩).toArray) w:=kr
def su(b6:oP κ A q0 w)(ap:cH A.c)(hp:A.c.p=1)(hn:A.c.ho.le 1048576)(hS:okS A.s)(b:Nat)(Z:b=0\/b=1)(hu:0<=A.u/\A.u<64*(A.w.length:Int))(N:A.w.length<=1048576)(bm:A.u<=1000)(a1:ByteArray)(uE:unZ A.n A.w=a1)(oE:okT a1 4000=true)(zE:a1.size<=4000)(nE:A.n=(a1.size:Int))(wE:A.w=wl (lt a1)):ce 23 #[aG (oL A q0).toArray,I J (b:Int)] w (oA w κ (sdO A b (lev A.w A.u.toNat))):=by
 have F0:Hid _:=fo.new2 b6;have be:A.c.p≠7:=by rw[hp];decide
 have a3:Hid (∀k W,hG κ A.c.ho q0.s W->ce 52 #[aG (coL A.c q0.s).toArray,I J k] W (cA W κ (au A.c (ba A.c k)))):=fun k W hW=>iD hW k ap be hn;have a4:Hid (∀k W,k≠2->hG κ A.c.ho q0.s W->ce 73 #[aG (coL A.c q0.s).toArray,I J k,frV false 0 false 0 none 0 0] W (cA W κ (au A.c (aU A.c k zF5)))):=fun k W hk hW=>gU hW k zF5 none 0 0 ap hp hn (fun e=>Qj e hk) (by decide);have a2:Hid (∀V C s,ce 16 #[aG (coL C s).toArray] V fun o w'=>o=rT (aG (oL (bh C) (opZ s)).toArray)/\Bl V w'):=fun V C s=>jk V C s
 have b3:Hid (∀V,wdP κ V q0.aw q0.nw q0.kw A.w->ce 71 #[pkV A.n q0.aw q0.nw q0.kw,I J A.u] V fun o w'=>o=rT (I J (lev A.w A.u.toNat:Int))/\Bl V w'):=fun V hV=>by
  have:=dc (F:=71) V A.n q0.aw q0.nw q0.kw A.w hV.1 A.u.toNat (by have:=hV.1.len;omega) (by have:=hV.1.len;omega);rw[Q6 hu.1]at this;exact this.mono fun o w' ⟨e,e2⟩=>⟨e,e2 ▸ Zw⟩
 have b4:=hI (fun V(hV:byP κ V q0.a q0.n q0.k A.s.l)=>tP V hS hV.1 b Z)
 have a7:Hid (∀V,wdP κ V q0.aw q0.nw q0.kw A.w->ce 74 #[pkV A.n q0.aw q0.nw q0.kw] V fun o w'=>o=rT (.string a1)/\Bl V w'):=fun V hV=>by
  have:=lF V A.n q0.aw q0.nw q0.kw A.w hV.1;rw[uE]at this;exact this
 have a6:Hid (∀V,ce 20 #[.string a1] V fun o w'=>∃t n cap,o=rT (pkV A.n t n cap)/\ah w' t n cap A.w/\(∀p,t=some p->V.heap.size<=p.block)/\Bl V w'):=fun V=>by rw[nE,wE];exact zz a1 oE zE V
 have b2:=hI (fun V=>xu V A.s.f);have hd:lev A.w A.u.toNat=0\/lev A.w A.u.toNat=1:=by have:=lU A.w A.u.toNat;omega
 generalize lev A.w A.u.toNat=d at*;have HD:=hI hd;have HB:=hI Z;obtain⟨a8,bi,br,bn⟩:=eqB A.s.f 12;obtain⟨q5,e5,_,f5⟩:=eqB A.s.rn 5;obtain⟨la,bk,_,bo⟩:=eqB (A.u+1) A.n;obtain⟨am,ac⟩:∃am,(decide (2<=A.s.f)&&decide (A.s.f<=6))=am:=⟨_,rfl⟩
 rw[ac]at b2;obtain⟨c1,ad⟩:∃c,((!(d==b))&&((d==0)|| !a8))=c:=⟨_,rfl⟩
 obtain⟨c2,af⟩:∃c,((d==0)|| !am)=c:=⟨_,rfl⟩
 obtain⟨c3,ak⟩:∃c,((d==b)&&a8)=c:=⟨_,rfl⟩
 have HR:Hid (sdO A b d=if c1=true then(if c2=true then bh (au A.c (ba A.c 1))else if q5=true then bh (au A.c (ba A.c 6))else⟨au A.c (aU A.c 5 zF5),(scn A.s b).1,0,0,[]⟩)else if c3=true then bh (au A.c (ba A.c 5))else if la=true then bh (au A.c (aU A.c 1 zF5))else⟨A.c,(scn A.s b).1,A.n,A.u+1,A.w⟩):=by
  show _=_;unfold sdO;rw[<- ad,<- af,<- ak,<- ac,<- bi,<- e5,<- bk];have:(2<=A.s.f->6<A.s.f)↔(A.s.f<2\/6<A.s.f):=om;simp[this]
 have HC:=hI (qB ad (qB af ak));have bq:IntKind.i64.wrap (A.u+1)=A.u+1:=by rw[QC];omega
 clear b6 ap hp be hn hS Z hu N bm uE oE zE nE wE hd ac ad af ak;obtain⟨v0,b1⟩:∃v0,v0=(w.alloc (.cells (oL A q0).toArray 58)).alloc (.cells Z35.toArray 58):=⟨_,rfl⟩
 rw[<- b1]at F0;have bg:=F0.o.p.cell 34 (I J A.u) rfl;go_enter func23,ntmps23;go_upto_region 1 with fail
 change Code.wp _ _ _ _ ((w.alloc (.cells (oL A q0).toArray 58)).alloc (.cells Z35.toArray 58));rw[<- b1];clear b1;go_wp2_with(refine fo.li F0.o ?_);refine(b3.o _ F0.o.x).mono ?_;rintro o w1 ⟨rfl,b8⟩;have F1:Hid _:=F0.o.below b8;clear b8 b3 bg F0;go_wp2_with(refine fo.ls F1.o ?_);refine(b4.o _ F1.o.d).mono ?_;rintro o w2 ⟨t,D,B,rfl,bb,_,b9⟩;have F2:Hid (fo w κ A q0 κ A.c.ho q0.s w2/\byP κ w2 t D B (scn A.s b).1.l):=⟨F1.o.below b9,bb κ fun hx=>F1.o.g.no hx⟩
 clear b9 bb F1 b4;generalize (scn A.s b).1=G at*;generalize (scn A.s b).2=sc at*;have a9:=hI (blk.new w2 z11 55);go_upto_region 3 with(refine Zs 55 (scL G t D B).toArray (a9.o.there 0 11 pQ) dh (fO _ _ _ _) ?_;generalize b7:World.setCells (World.alloc _ _) w2.heap.size 0 _=E;have b5:Hid (_=E):=b7;clear b7)
 have i:Hid (fo w κ A q0 κ A.c.ho q0.s E/\svP κ w2.heap.size G t D B E):=by
  have e3:=b5.o;have Z:Bl w2 E:=by rw[<- e3];exact sW (nR _) _ _ Zw
  exact⟨F2.o.1.below Z,by rw[<- e3];exact blk.put [] z11 [] _ a9.o rfl,F2.o.1.g.no (nR _),F2.o.2.mv (mvH.of Z)⟩
 clear b5 a9 F2;generalize w2.heap.size=P at*;have bs:=i.o.1.p.cell 21 (I J A.s.f) rfl;go_upto_region 4 with fail
 go_cut [34] (fun v wx=>v=bO c1/\wx=E);case first=>
  have hd:=HD.o;have Z:=HB.o;clear HR a7 a6 a3 a4 a2;rcases hd with rfl|rfl<;>rcases Z with rfl|rfl<;>cases a8
  all_goals
   go_wp2_with fail;go_meet;case rel=>exact⟨by rw[<- HC.o.1];rfl,rfl⟩
 case rest=>
 obtain⟨rfl,N⟩:=hcut;have N:=N.symm;subst N;cases c1;case true=>
  go_upto_region 5 with fail
  go_cut [41] (fun v wx=>v=bO c2/\wx=E);case first=>
   have hd:=HD.o;clear HR a7 a6 a3 a4 a2;rcases hd with rfl|rfl
   all_goals
    go_wp2_with(go_at_call 72;refine(b2.o _).mono ?_;rintro o O ⟨rfl,rfl⟩);go_meet;case rel=>exact⟨by rw[<- HC.o.2.1];rfl,rfl⟩
  case rest=>
  obtain⟨rfl,N⟩:=hcut;have N:=N.symm;subst N;cases c2;case true=>
   have HX:=hI (fun V=>a3.o 1 V);have HS:Hid (sdO A b d=bh (au A.c (ba A.c 1))):=HR.o;go_wp2_with(first|(refine fo.lc i.o.1 ?_)|(refine aY rfl 53 _ rfl _ (by simp[go_sem]) _ (dd _) ?_));refine(HX.o _ i.o.1.g).mono ?_;rintro o w4 ⟨s4,a5,rfl,K⟩;have h:Hid _:=i.o.1.call K.o;clear K;go_wp2_with fail;refine(a2.o _ _ _).mono ?_;rintro o O ⟨rfl,Y⟩;have j:Hid _:=h.o.below Y;go_wp2_with(refine fo.rt j.o ?_;intro w8 R Q);refine bC results23 (lvO R) ?_;rw[HS.o];exact⟨_,_,rfl,Q (oP.onlyC j.o.g)⟩
  case false=>
  have bt:=i.o.1.p.cell 23 (I J A.s.rn) rfl;cases q5;case true=>
   have HX:=hI (fun V=>a3.o 6 V);have HS:Hid (sdO A b d=bh (au A.c (ba A.c 6))):=HR.o;go_wp2_with(first|(refine fo.lc i.o.1 ?_)|(refine aY rfl 53 _ rfl _ (by simp[go_sem]) _ (dd _) ?_));refine(HX.o _ i.o.1.g).mono ?_;rintro o w4 ⟨s4,a5,rfl,K⟩;have h:Hid _:=i.o.1.call K.o;clear K;go_wp2_with fail;refine(a2.o _ _ _).mono ?_;rintro o O ⟨rfl,Y⟩;have j:Hid _:=h.o.below Y;go_wp2_with(refine fo.rt j.o ?_;intro w8 R Q);refine bC results23 (lvO R) ?_;rw[HS.o];exact⟨_,_,rfl,Q (oP.onlyC j.o.g)⟩
  case false=>
  go_upto_region 9 with fail
  refine Qu (S:=fun X=>blk X w.heap.size (oL A q0) 58/\blk X P (scL G t D B) 55) kr ?_;have M:Hid (fo w κ A q0 κ A.c.ho q0.s (World.drew E)/\svP κ P G t D B (World.drew E)):=⟨i.o.1.below (bW _ _).drew,i.o.2.mv (mvH.of (bW _ _).drew)⟩
  have hS:(fun X=>blk X w.heap.size (oL A q0) 58/\blk X P (scL G t D B) 55) (World.drew E):=⟨M.o.1.p,M.o.2.q⟩
  change wpAnyH Tp _ _ _ _ _ _ _ (World.drew E);clear i;generalize World.drew E=v3 at*;refine tk 0 ?_;refine tl 1 ?_ (fun X U=>bJ U.1) underlying52 (aV _ _);refine tk 2 ?_ (v:=frV false 0 false 0 none 0 0) (hy:=fun W hW=>by kernel_rfl);refine tl 4 ?_ (fun X U=>U.2.load) underlying55 (dY _ _ _ _);refine al 3 fun a0 L=>?_;go_simp;refine(a4.o 5 _ (by decide) M.o.1.g).mono ?_;rintro o w4 ⟨s4,a5,rfl,K⟩;have h:Hid _:=qB (M.o.1.call K.o) (M.o.2.mv K.o.2);clear K M;go_wp2_with fail;refine L.out _ _ ⟨h.o.1.p,h.o.2.q⟩ (fun _=>?_);clear hS L a0;have hS:(fun X=>blk X w.heap.size (oL A q0) 58/\blk X P (scL G t D B) 55) w4:=⟨h.o.1.p,h.o.2.q⟩
  refine tk 5 ?_ (v:=aG (oL ⟨au A.c (aU A.c 5 zF5),G,0,0,[]⟩ ⟨s4,t,D,B,none,0,0⟩).toArray) (hy:=fun W hW=>by kernel_rfl);refine al 6 fun a0 L=>?_;rw[QW (by rfl)];have hq:oP a5 ⟨au A.c (aU A.c 5 zF5),G,0,0,[]⟩ ⟨s4,t,D,B,none,0,0⟩ w4:=⟨h.o.1.g,h.o.2.d,wdP.nil⟩
  refine QE (P:=Tp) 58 _ _ rfl (w.heap.size+1) 0 (oL _ _).toArray rfl rfl (h.o.1.r.there 0 35 (nR _)) (cX _ _ _ _ _) (cC _ _ _ _ _) ?_;obtain⟨R,Q⟩:=h.o.1.ans hq;refine L.out _ _ ⟨h.o.1.p.other om _ _,h.o.2.q.other (by have:=h.o;exact this.2.ne this.1) _ _⟩ (fun _=>?_);refine Qs kr ?_ _;simp only[Act.put];generalize World.setCells _ (w.heap.size+1) 0 _=w8 at*;clear hS L a0;go_wp2_with fail;refine bC results23 (lvO R) ?_;rw[HR.o];exact⟨_,_,rfl,Q⟩
 case false=>
 go_upto_region 10 with fail
 go_cut [66] (fun v wx=>v=bO c3/\wx=E);case first=>
  have hd:=HD.o;have Z:=HB.o;clear HR a7 a6 a3 a4 a2;rcases hd with rfl|rfl<;>rcases Z with rfl|rfl<;>cases a8
  all_goals
   go_wp2_with fail;go_meet;case rel=>exact⟨by rw[<- HC.o.2.2];rfl,rfl⟩
 case rest=>
 obtain⟨rfl,N⟩:=hcut;have N:=N.symm;subst N;cases c3;case true=>
  have HX:=hI (fun V=>a3.o 5 V);have HS:Hid (sdO A b d=bh (au A.c (ba A.c 5))):=HR.o;go_wp2_with(first|(refine fo.lc i.o.1 ?_)|(refine aY rfl 53 _ rfl _ (by simp[go_sem]) _ (dd _) ?_));refine(HX.o _ i.o.1.g).mono ?_;rintro o w4 ⟨s4,a5,rfl,K⟩;have h:Hid _:=i.o.1.call K.o;clear K;go_wp2_with fail;refine(a2.o _ _ _).mono ?_;rintro o O ⟨rfl,Y⟩;have j:Hid _:=h.o.below Y;go_wp2_with(refine fo.rt j.o ?_;intro w8 R Q);refine bC results23 (lvO R) ?_;rw[HS.o];exact⟨_,_,rfl,Q (oP.onlyC j.o.g)⟩
 case false=>
 have bg:=i.o.1.p.cell 34 (I J A.u) rfl;have bu:=i.o.1.p.cell 32 (I J A.n) rfl;cases la;case true=>
  have HX:=hI (fun V=>a4.o 1 V (by decide));have HS:Hid (sdO A b d=bh (au A.c (aU A.c 1 zF5))):=HR.o;go_wp2_with(first|(refine fo.lc i.o.1 ?_)|(refine aY rfl 53 _ rfl _ (by simp[go_sem]) _ (dd _) ?_));refine(HX.o _ i.o.1.g).mono ?_;rintro o w4 ⟨s4,a5,rfl,K⟩;have h:Hid _:=i.o.1.call K.o;clear K;go_wp2_with fail;refine(a2.o _ _ _).mono ?_;rintro o O ⟨rfl,Y⟩;have j:Hid _:=h.o.below Y;go_wp2_with(refine fo.rt j.o ?_;intro w8 R Q);refine bC results23 (lvO R) ?_;rw[HS.o];exact⟨_,_,rfl,Q (oP.onlyC j.o.g)⟩
 case false=>
 go_upto_region 14 with fail
 refine Qu (S:=fun X=>blk X w.heap.size (oL A q0) 58/\blk X P (scL G t D B) 55) kr ?_;have M:Hid (fo w κ A q0 κ A.c.ho q0.s (World.drew E)/\svP κ P G t D B (World.drew E)):=⟨i.o.1.below (bW _ _).drew,i.o.2.mv (mvH.of (bW _ _).drew)⟩
 have hS:(fun X=>blk X w.heap.size (oL A q0) 58/\blk X P (scL G t D B) 55) (World.drew E):=⟨M.o.1.p,M.o.2.q⟩
 change wpAnyH Tp _ _ _ _ _ _ _ (World.drew E);clear i;generalize World.drew E=v3 at*;refine tk 0 ?_;refine tl 1 ?_ (fun X U=>bJ U.1) underlying52 (aV _ _);refine tl 2 ?_ (fun X U=>U.2.load) underlying55 (dY _ _ _ _);refine tk 3 ?_;refine tl 4 ?_ (fun X U=>eC U.1) underlying56 (eH _ _ _ _);refine tk 7 ?_;refine tk 8 ?_ (hy:=fun X U=>by(have y:=blk.cell U.1 34 (I J A.u) rfl;go_simp;try rfl));refine tk 9 ?_ (v:=I J (A.u+1));refine al 5 fun a0 L=>?_;go_simp;refine(a7.o _ M.o.1.x).mono ?_;rintro o w4 ⟨rfl,ao⟩;have h:Hid _:=qB (M.o.1.below ao) (M.o.2.mv (mvH.of ao));clear ao M;go_wp2_with fail;refine L.out _ _ ⟨h.o.1.p,h.o.2.q⟩ (fun _=>?_);clear hS L a0;refine al 6 fun a0 L=>?_;go_simp;refine(a6.o _).mono ?_;rintro o O ⟨aw,nw,kw,rfl,bf,bc,Y⟩;have j:Hid (fo w κ A q0 κ A.c.ho q0.s O/\svP κ P G t D B O/\wdP κ O aw nw kw A.w):=⟨h.o.1.below Y,h.o.2.mv (mvH.of Y),bf,fun _ p hp=>h.o.1.g.no (bc p hp)⟩
 clear Y bf bc h;go_wp2_with fail;refine L.out _ _ ⟨j.o.1.p,j.o.2.1.q⟩ (fun _=>?_);clear L a0;have hS:(fun X=>blk X w.heap.size (oL A q0) 58/\blk X P (scL G t D B) 55) O:=⟨j.o.1.p,j.o.2.1.q⟩
 refine tk 10 ?_ (v:=aG (oL ⟨A.c,G,A.n,A.u+1,A.w⟩ ⟨q0.s,t,D,B,aw,nw,kw⟩).toArray) (hy:=fun W hW=>by kernel_rfl);refine al 11 fun a0 L=>?_;rw[QW (by rfl)];have h:Hid (fo w κ A q0 κ A.c.ho q0.s O/\svP κ P G t D B O):=qB j.o.1 j.o.2.1;have hq:oP κ ⟨A.c,G,A.n,A.u+1,A.w⟩ ⟨q0.s,t,D,B,aw,nw,kw⟩ O:=⟨j.o.1.g,j.o.2.1.d,j.o.2.2⟩
 clear j;refine QE (P:=Tp) 58 _ _ rfl (w.heap.size+1) 0 (oL _ _).toArray rfl rfl (h.o.1.r.there 0 35 (nR _)) (cX _ _ _ _ _) (cC _ _ _ _ _) ?_;obtain⟨R,Q⟩:=h.o.1.ans hq;refine L.out _ _ ⟨h.o.1.p.other om _ _,h.o.2.q.other (by have:=h.o;exact this.2.ne this.1) _ _⟩ (fun _=>?_);refine Qs kr ?_ _;simp only[Act.put];generalize World.setCells _ (w.heap.size+1) 0 _=w8 at*;clear hS L a0;go_wp2_with fail;refine bC results23 (lvO R) ?_;rw[HR.o];exact⟨_,_,rfl,Q⟩
end
open Option renaming none->nn,some->sQ
section
variable{κ κ' κ0:Nat->Nat}{A T:Ov}{q0 q q':Os}{H H':Ho}{s s':Sl}{w W W':World}{p r P:Nat}{S:Sc}{a:Option Addr}{n k:Nat}{l:List Nat}
def Dr(h:blk W P (scL S a n k) 55):W.rangeAt P 6 (kS S a n k):=blk.loadAt [I J S.f,I J S.lf,I J S.rn,I J S.lv,I J S.cr,I J S.ac] (kS S a n k) [] h
def zm(S:Sc)(b:Nat):(scn S b).2=0\/(scn S b).2=1\/(scn S b).2=2\/(scn S b).2=3\/(scn S b).2=4\/(scn S b).2=5\/(scn S b).2=6:=by
 unfold scn cm
 (repeat' split)<;>simp
def hdO(A:Ov)(b:Nat):Ov:=
 if olZ A.c A.s A.u A.w=0/\b=1 then bh (au A.c (ba A.c 1))
 else if(scn A.s b).2=1 then(if vB (scn A.s b).1.e (scn A.s b).1.i (scn A.s b).1.r (scn A.s b).1.d (scn A.s b).1.l.length=true then⟨au A.c (aU A.c 2 (frS (scn A.s b).1)),(scn A.s b).1,0,0,[]⟩else bh (au A.c (ba A.c 3)))
 else if(scn A.s b).2=2 then bh (au A.c (aU A.c 3 zF5))
 else if(scn A.s b).2=6 then bh (au A.c (aU A.c 4 zF5))
 else if(scn A.s b).2=3 then bh (au A.c (ba A.c 2))
 else if(scn A.s b).2=4 then bh (au A.c (ba A.c 3))
 else if(scn A.s b).2=5 then bh (au A.c (ba A.c 4))
 else⟨A.c,(scn A.s b).1,0,0,[]⟩
def sy(ac:oP κ A q0 w)(a4:cH A.c)(hp:A.c.p=1)(ht:A.c.tx=false)(hn:A.c.ho.le 1048576)(hS:okS A.s)(b:Nat)(hb:b=0\/b=1)(hw:A.w.length<=1048576):ce 24 #[aG (oL A q0).toArray,I J (b:Int)] w (oA w κ (hdO A b)):=by
 have O:Hid _:=fo.new2 ac;have b8:A.c.p≠7:=by rw[hp];decide
 have a1:Hid (∀k W,hG κ A.c.ho q0.s W->ce 52 #[aG (coL A.c q0.s).toArray,I J k] W (cA W κ (au A.c (ba A.c k)))):=fun k W hW=>iD hW k a4 b8 hn;have am:Hid (∀k W,k≠2->hG κ A.c.ho q0.s W->ce 73 #[aG (coL A.c q0.s).toArray,I J k,frV false 0 false 0 nn 0 0] W (cA W κ (au A.c (aU A.c k zF5)))):=fun k W hk hW=>gU hW k zF5 nn 0 0 a4 hp hn (fun e=>Qj e hk) (by decide);have ak:Hid (∀W g m fc,hG κ A.c.ho q0.s W->iB W (be g) m fc (scn A.s b).1.l->g<W.heap.size->κ g=0->m<=1048576->ce 73 #[aG (coL A.c q0.s).toArray,I J 2,frV (scn A.s b).1.e (scn A.s b).1.i (scn A.s b).1.r (scn A.s b).1.d (be g) m fc] W (cA W κ (au A.c (aU A.c 2 (frS (scn A.s b).1))))):=fun W g m fc hW h1 h2 h3 h4=>gU hW 2 (frS (scn A.s b).1) (be g) m fc a4 hp hn (fun _=>⟨g,rfl,h1,h2,h3⟩) h4;have a2:Hid (∀V C s,ce 16 #[aG (coL C s).toArray] V fun o w'=>o=rT (aG (oL (bh C) (opZ s)).toArray)/\Bl V w'):=fun V C s=>jk V C s;have a6:Hid (∀V,fo w κ A q0 κ A.c.ho q0.s V->ce 75 #[aG (oL A q0).toArray] V fun o w'=>o=rT (I J (olZ A.c A.s A.u A.w))/\Bl V w'):=fun V hV=>Cr V A.c A.s A.n A.u A.w q0 ⟨hV.g.is,hV.d.1,hV.x.1⟩ hw fun _ e=>by rw[ht]at e;cases e
 have ao:=hI (fun V(hV:byP κ V q0.a q0.n q0.k A.s.l)=>tP V hS hV.1 b hb);have ap:=hI (fun V a n k=>aX V (scn A.s b).1.e (scn A.s b).1.i (scn A.s b).1.r (scn A.s b).1.d a n k);have ad:=zm A.s b
 have bb:Hid ((scn A.s b).2=1->(scn A.s b).1.l.length<=1048576):=fun e=>by
  have:=(tO hS ac.d.1.small b hb (.inr e)).1.2.2.2.2.2.1;omega
 obtain⟨ov,a3⟩:∃q,((olZ A.c A.s A.u A.w==0)&&((b:Int)==1))=q:=⟨_,rfl⟩
 obtain⟨vb,a9⟩:∃q,vB (scn A.s b).1.e (scn A.s b).1.i (scn A.s b).1.r (scn A.s b).1.d (scn A.s b).1.l.length=q:=⟨_,rfl⟩
 have b9:=hI a9;have HR:Hid (hdO A b=if ov=true then bh (au A.c (ba A.c 1))else if(scn A.s b).2=1 then(if vb=true then⟨au A.c (aU A.c 2 (frS (scn A.s b).1)),(scn A.s b).1,0,0,[]⟩else bh (au A.c (ba A.c 3)))else if(scn A.s b).2=2 then bh (au A.c (aU A.c 3 zF5))else if(scn A.s b).2=6 then bh (au A.c (aU A.c 4 zF5))else if(scn A.s b).2=3 then bh (au A.c (ba A.c 2))else if(scn A.s b).2=4 then bh (au A.c (ba A.c 3))else if(scn A.s b).2=5 then bh (au A.c (ba A.c 4))else⟨A.c,(scn A.s b).1,0,0,[]⟩):=by
  show _=_;unfold hdO;rw[<- a3,a9];have:(olZ A.c A.s A.u A.w=0/\b=1)↔((olZ A.c A.s A.u A.w==0)&&((b:Int)==1))=true:=by simp;omega
  simp only[this]
 clear ac a4 hp b8 ht hn hS hb hw a9;generalize scn A.s b=X at*;obtain⟨h,c⟩:=X;simp only[]at*;obtain⟨v0,af⟩:∃v0,v0=(w.alloc (.cells (oL A q0).toArray 58)).alloc (.cells Z35.toArray 58):=⟨_,rfl⟩
 rw[<- af]at O;go_enter func24,ntmps24;go_upto_region 1 with fail
 change Code.wp _ _ _ _ ((w.alloc (.cells (oL A q0).toArray 58)).alloc (.cells Z35.toArray 58));rw[<- af];clear af;go_wp2_with(refine fo.ls O.o ?_);refine(ao.o _ O.o.d).mono ?_;rintro o N ⟨B,j,t,rfl,b4,b5,b3⟩;have F2:Hid (fo w κ A q0 κ A.c.ho q0.s N/\byP κ N B j t h.l/\(c=1->∃g,B=be g/\κ g=0/\g<N.heap.size)):=⟨O.o.below b3,b4 κ fun hx=>O.o.g.no hx,fun e=>by obtain⟨g,U,Y,Z⟩:=b5 e;exact⟨g,U,O.o.g.no Y,Z⟩⟩
 clear b3 b4 b5 O ao;have a7:=hI (blk.new N z11 55);go_upto_region 2 with(refine Zs 55 (scL h B j t).toArray (a7.o.there 0 11 pQ) dh (fO _ _ _ _) ?_;generalize b2:World.setCells (World.alloc _ _) N.heap.size 0 _=w3;have aw:Hid (_=w3):=b2;clear b2)
 have Q:Hid (fo w κ A q0 κ A.c.ho q0.s w3/\svP κ N.heap.size h B j t w3/\(c=1->∃g,B=be g/\κ g=0/\g<w3.heap.size)):=by
  have e3:=aw.o;have hb:Bl N w3:=by rw[<- e3];exact sW (nR _) _ _ Zw
  exact⟨F2.o.1.below hb,⟨by rw[<- e3];exact blk.put [] z11 [] _ a7.o rfl,F2.o.1.g.no (nR _),F2.o.2.1.mv (mvH.of hb)⟩,fun e=>by obtain⟨g,U,Y,Z⟩:=F2.o.2.2 e;exact⟨g,U,Y,nL Z hb.size⟩⟩
 clear aw a7 F2;generalize N.heap.size=P at*;go_cut [20] (fun v wx=>v=bO ov/\Hid (fo w κ A q0 κ A.c.ho q0.s wx/\svP κ P h B j t wx/\(c=1->∃g,B=be g/\κ g=0/\g<wx.heap.size)));case first=>
  go_wp2_with(refine fo.ld Q.o.1 ?_);refine(a6.o _ Q.o.1).mono ?_;rintro o y ⟨rfl,M⟩;have f:Hid (fo w κ A q0 κ A.c.ho q0.s y/\svP κ P h B j t y/\(c=1->∃g,B=be g/\κ g=0/\g<y.heap.size)):=⟨Q.o.1.below M,Q.o.2.1.mv (mvH.of M),fun e=>by obtain⟨g,U,Y,Z⟩:=Q.o.2.2 e;exact⟨g,U,Y,nL Z M.size⟩⟩
  clear M Q HR a1 am ak a2 a6 ap;obtain⟨z0,ez⟩:∃q,(olZ A.c A.s A.u A.w==0)=q:=⟨_,rfl⟩
  obtain⟨b1,eb⟩:∃q,((b:Int)==1)=q:=⟨_,rfl⟩
  rw[ez,eb]at a3;cases z0<;>cases b1;all_goals
   go_wp2_with fail;go_meet;case rel=>exact⟨by rw[<- a3];rfl,f.o⟩
 case rest=>
 obtain⟨rfl,f⟩:=hcut;clear Q a3 a6;cases ov;case true=>
  have HS:Hid (hdO A b=bh (au A.c (ba A.c 1))):=HR.o;go_wp2_with(refine fo.lc f.o.1 ?_);refine(a1.o 1 _ f.o.1.g).mono ?_;rintro o y ⟨s4,a5,rfl,D⟩;have E:Hid _:=f.o.1.call D.o;clear D;go_wp2_with fail;refine(a2.o _ _ _).mono ?_;rintro o w5 ⟨rfl,a0⟩;have R:Hid _:=E.o.below a0;go_wp2_with(refine fo.rt R.o ?_;intro w8 L K);refine bC results24 (lvO L) ?_;rw[HS.o];exact⟨_,_,rfl,K (oP.onlyC R.o.g)⟩
 case false=>
 rcases ad with rfl|rfl|ad
 .go_wp2_with (first|(refine fo.lc f.o.1 ?_)|(refine ZG 55 f.o.2.1.q.load underlying55 (dY _ _ _ _) ?_)|(refine aY rfl 58 _ rfl _ (by simp[go_sem]) _ (A5 _ A.c q0.s h B j t) ?_)|(refine fo.rt (T:=⟨A.c,h,0,0,[]⟩) (q:=⟨q0.s,B,j,t,nn,0,0⟩) f.o.1 ?_;intro w8 L K))
  refine bC results24 (lvO L) ?_;rw[HR.o];exact⟨_,_,rfl,K ⟨f.o.1.g,f.o.2.1.d,wdP.nil⟩⟩
 .go_wp2_with (refine ZG 53 (Dr f.o.2.1.q) underlying53 gc ?_);have hv:vB h.e h.i h.r h.d j=vb:=by rw[f.o.2.1.d.1.len];exact b9.o
  have HV:=ap.o wc B j t;rw[hv]at HV;refine(Calls.mono HV) ?_;rintro o y ⟨rfl,M⟩;have E:Hid (fo w κ A q0 κ A.c.ho q0.s y/\svP κ P h B j t y/\∃g,B=be g/\κ g=0/\g<y.heap.size):=⟨f.o.1.below M,f.o.2.1.mv (mvH.of M),by obtain⟨g,U,Y,Z⟩:=f.o.2.2 trivial;exact⟨g,U,Y,nL Z M.size⟩⟩
  clear M f hv HV;cases vb;case false=>
   go_wp2_with(first|(refine fo.lc E.o.1 ?_)|(refine aY rfl 53 _ rfl _ (by simp[go_sem]) _ (dd _) ?_));refine(a1.o 3 _ E.o.1.g).mono ?_;rintro o w5 ⟨s4,a5,rfl,D⟩;have R:Hid _:=E.o.1.call D.o;clear D;go_wp2_with fail;refine(a2.o _ _ _).mono ?_;rintro o w6 ⟨rfl,a0⟩;have F7:Hid _:=R.o.below a0;go_wp2_with(refine fo.rt F7.o ?_;intro w8 L K);refine bC results24 (lvO L) ?_;rw[HR.o];exact⟨_,_,rfl,K (oP.onlyC F7.o.g)⟩
  case true=>
   go_upto_region 8 with fail
   obtain⟨g,rfl,b6,b7⟩:=E.o.2.2;refine Qu (S:=fun X=>blk X w.heap.size (oL A q0) 58/\blk X P (scL h (be g) j t) 55) kr ?_;have G:Hid ((fo w κ A q0 κ A.c.ho q0.s (World.drew y)/\svP κ P h (be g) j t (World.drew y))/\κ g=0/\g<(World.drew y).heap.size):=⟨⟨E.o.1.below (bW _ _).drew,E.o.2.1.mv (mvH.of (bW _ _).drew)⟩,b6,b7⟩
   have hS:(fun X=>blk X w.heap.size (oL A q0) 58/\blk X P (scL h (be g) j t) 55) (World.drew y):=⟨G.o.1.1.p,G.o.1.2.q⟩
   change wpAnyH Tp _ _ _ _ _ _ _ (World.drew y);clear E b6 b7;generalize World.drew y=v3 at*;refine tk 0 ?_;refine tl 1 ?_ (fun X hX=>bJ hX.1) underlying52 (aV _ _);refine tk 2 ?_;refine tl 3 ?_ (fun X hX=>Dr hX.2) underlying53 gc;refine tl 5 ?_ (fun X hX=>hX.2.load) underlying55 (dY _ _ _ _);refine al 4 fun a8 hK=>?_;go_simp;refine(ak.o _ g j t G.o.1.1.g G.o.1.2.d.1 G.o.2.2 G.o.2.1 (by have:=bb.o trivial;have:=G.o.1.2.d.1.len;omega)).mono ?_;rintro o w5 ⟨s4,a5,rfl,D⟩;have f:Hid _:=qB (G.o.1.1.call D.o) (G.o.1.2.mv D.o.2);clear D G;go_wp2_with fail;refine hK.out _ _ ⟨f.o.1.p,f.o.2.q⟩ (fun _=>?_);clear hS hK a8;have hS:(fun X=>blk X w.heap.size (oL A q0) 58/\blk X P (scL h (be g) j t) 55) w5:=⟨f.o.1.p,f.o.2.q⟩
   refine tk 6 ?_ (v:=aG (oL ⟨au A.c (aU A.c 2 (frS h)),h,0,0,[]⟩ ⟨s4,be g,j,t,nn,0,0⟩).toArray) (hy:=fun W hW=>by kernel_rfl);refine al 7 fun a8 hK=>?_;rw[QW (by rfl)];have hq:oP a5 ⟨au A.c (aU A.c 2 (frS h)),h,0,0,[]⟩ ⟨s4,be g,j,t,nn,0,0⟩ w5:=⟨f.o.1.g,f.o.2.d,wdP.nil⟩
   refine QE (P:=Tp) 58 _ _ rfl (w.heap.size+1) 0 (oL _ _).toArray rfl rfl (f.o.1.r.there 0 35 (nR _)) (cX _ _ _ _ _) (cC _ _ _ _ _) ?_;obtain⟨L,K⟩:=f.o.1.ans hq;refine hK.out _ _ ⟨f.o.1.p.other om _ _,f.o.2.q.other (by have:=f.o;exact this.2.ne this.1) _ _⟩ (fun _=>?_);refine Qs kr ?_ _;simp only[Act.put];generalize World.setCells _ (w.heap.size+1) 0 _=w8 at*;clear hS hK a8;go_wp2_with fail;refine bC results24 (lvO L) ?_;rw[HR.o];exact⟨_,_,rfl,K⟩
 .rcases ad with rfl|rfl|rfl|rfl|rfl;all_goals
   go_wp2_with(first|(refine fo.lc f.o.1 ?_)|(refine aY rfl 53 _ rfl _ (by simp[go_sem]) _ (dd _) ?_));first|refine(a1.o _ _ f.o.1.g).mono ?_|refine(am.o _ _ (by decide) f.o.1.g).mono ?_
   rintro o y ⟨s4,a5,rfl,D⟩;have E:Hid _:=f.o.1.call D.o;clear D;go_wp2_with fail;refine(a2.o _ _ _).mono ?_;rintro o w5 ⟨rfl,a0⟩;have R:Hid _:=E.o.below a0;go_wp2_with(refine fo.rt R.o ?_;intro w8 L K);refine bC results24 (lvO L) ?_;rw[HR.o];exact⟨_,_,rfl,K (oP.onlyC R.o.g)⟩
end
section
variable{A:Ov}{r:Int}{b:Nat}
def t7(h:¬(osT A r b).p=1):osV A r b=bh (osT A r b):=by
 unfold osV bh;rw[QV h,QV (fun x=>h x.1),QV (fun x=>h x.1),QV (fun x=>h x.1)]
def sa(h:(osT A r b).p=1)(a:(osT A r b).tx=false):osV A r b=⟨osT A r b,aI (iz A) b,0,0,[]⟩:=by
 have:¬((osT A r b).p=1/\(osT A r b).tx=true):=fun x=>by rw[a]at x;cases x.2
 unfold osV;rw[QW h,QV this,QV this,QV this]
def BV{w:World}{q:Os}(h:oI w A q)(a:gA A.c A.s A.n A.u A.w)(f:A.c.p=1)(j:A.c.tx=true)(C:A.u+1≠A.n):(scn A.s (lev A.w A.u.toNat)).2=0\/(scn A.s (lev A.w A.u.toNat)).2=1:=by
 have hs:=a.s f j;have l:=a.c.s.1 ⟨f,j⟩;have h0:=hs.c0;have h1:=hs.c1;have D:=hs.n;obtain⟨_,_,B⟩:=eU A.c a.c l;have v:A.u.toNat<(lt (aq A.c)).length:=by rw[aN];omega
 have g:=(pO h.h a.c l (k:=A.u.toNat+1) om).1
 have t:∀x∈lt (aq A.c),M.isL x:=fun x y=>by
  obtain⟨i,hi,rfl⟩:=List.getElem_of_mem y;have:=B i (by rw[<- aN];exact hi);rw[CE]at this;simpa[lt,M.isL]using this
 have d:=(g.at A.u.toNat).2.2 (by rw[qh];omega);rw[List.take_take,Nat.min_eq_left (Nat.le_succ _),<- hs.s,List.getElem_take]at d;have e:lev A.w A.u.toNat=(lt (aq A.c))[A.u.toNat]-48:=by
  rw[hs.w,pF _ t _ (by rw[cD];omega),dif_pos v]
 rw[e];exact d
def GV{w:World}{q:Os}(h:oI w A q)(g:gA A.c A.s A.n A.u A.w)(a:A.c.p=1)(j:A.c.tx=true)(S:b=0\/b=1):sdO A b (lev A.w A.u.toNat)=osV A r b:=by
 obtain⟨L,_,M⟩:=lM h g a;have P:=BV h g a j;have N:=M j;have K:A.n≠0:=by
  have:=(g.s a j).n;have:=(eU A.c g.c (g.c.s.1 ⟨a,j⟩)).1;omega
 have hd:lev A.w A.u.toNat=0\/lev A.w A.u.toNat=1:=by have:=lU A.w A.u.toNat;omega
 have i:osT A r b=au A.c (iR A.c A.s.f (A.s.rn==5) (A.u+1==A.n) (lev A.w A.u.toNat:Int) b):=by
  unfold osT osA iz olZ;rw[QW a,QW a,QW j,QV (fun x=>by omega),QW a,QW j]
 have hS:iz A=A.s:=QW a;have R:=jO g.c a
 generalize lev A.w A.u.toNat=d at*;have v:∀X,iR A.c A.s.f (A.s.rn==5) (A.u+1==A.n) (d:Int) b=X->¬(au A.c X).p=1->osV A r b=bh (au A.c X):=fun X e t=>by
  rw[e]at i;rw[<- i]at t ⊢;exact t7 t
 have Q:(scn A.s b).2=0\/(scn A.s b).2=1->iR A.c A.s.f (A.s.rn==5) (A.u+1==A.n) (d:Int) b=A.c->osV A r b=⟨A.c,(scn A.s b).1,A.n,A.u+1,A.w⟩:=fun O e=>by
  rw[e,R]at i;unfold osV;have y:A.c.p=1/\A.c.tx=true:=⟨a,j⟩
  rw[i,hS,QW a,QW y,QW y,QW y,QV K,QV K,(fF A.s b).2 O]
 have B:∀k,¬(au A.c (ba A.c k)).p=1:=uI A.c;unfold sdO;by_cases c1:d≠b/\(d=0\/A.s.f≠12)
 .rw[QW c1];by_cases c2:d=0\/¬(2<=A.s.f/\A.s.f<=6)
  .rw[QW c2];refine(v _ ?_ (B 1)).symm;unfold iR;rw[QV (by simp;omega),QV (by simp;omega),QW (by simp;omega)]
  .rw[QV c2];have D:((((d:Int)==1&&(b:Int)==0))&&(decide (2<=A.s.f)&&decide (A.s.f<=6)))=true:=by simp;omega
   by_cases l:A.s.rn=5
   .rw[QW l];refine(v _ ?_ (B 6)).symm;unfold iR;rw[QW D,QW (by simpa using l)]
   .rw[QV l];have t:iR A.c A.s.f (A.s.rn==5) (A.u+1==A.n) (d:Int) b=aU A.c 5 zF5:=by
     unfold iR;rw[QW D,QV (by simpa using l)]
    rw[t]at i;obtain⟨E,G⟩:=(mq g.c a 5 zF5).2 (.inr rfl);rw[<- i]at E G;rw[sa E G,i,hS,(fF A.s b).2];left;unfold scn cm;rw[QV l];have:¬A.s.f=1/\¬A.s.f=11/\¬A.s.f=13/\¬A.s.f=14:=om;simp[this]
 .rw[QV c1];by_cases c3:d=b/\A.s.f=12
  .rw[QW c3];refine(v _ ?_ (B 5)).symm;unfold iR;rw[QV (by simp;omega),QV (by simp;omega),QV (by simp;omega),QW (by simp;omega)]
  .rw[QV c3];by_cases c4:A.u+1=A.n
   .rw[QW c4];have H:¬A.s.f=12:=fun e=>N e c4;refine(v _ ?_ ((mq g.c a 1 zF5).1 (.inl rfl))).symm;unfold iR;rw[QV (by simp;omega),QV (by simp;omega),QV (by simp;omega),QV (by simp;omega),QW (by simpa using c4)]
   .rw[QV c4];refine(Q ?_ ?_).symm
    .by_cases C:d=b
     .rw[<- C];exact P c4
     .have H:A.s.f=12:=om;left;have h0:=L.2.2.2.2.2.2.2.2.2.2.2.2.2.1.1 (.inr om);unfold scn cm;rw[QV om,H];simp
    .unfold iR;by_cases C:d=b
     .rw[QV (by simp;omega),QV (by simp;omega),QV (by simp;omega),QV (by simp;omega),QV (by simpa using c4)]
     .rw[QV (by simp;omega),QW (by simp;omega)]
def GX(v:gA A.c A.s A.n A.u A.w)(h:A.c.p=1)(y:A.c.tx=false)(N:b=0\/b=1):hdO A b=osV A r b:=by
 have hS:iz A=A.s:=QW h;have a:osT A r b=au A.c (hrC A.c (olZ A.c A.s A.u A.w) (scn A.s b).2 (frS (aI A.s b)) (vB (aI A.s b).e (aI A.s b).i (aI A.s b).r (aI A.s b).d (aI A.s b).l.length) b):=by
  unfold osT osA;rw[QW h,QV (by rw[y];decide),hS,(fF A.s b).1]
 have x:=jO v.c h;have B:=(fF A.s b).2
 have g:∀X,osT A r b=au A.c X->¬(au A.c X).p=1->osV A r b=bh (au A.c X):=fun X e D=>by
  rw[<- e]at D ⊢;exact t7 D
 have j:∀k,¬(au A.c (ba A.c k)).p=1:=uI A.c;have H:=fun k=>(mq v.c h k zF5).1;unfold hdO;generalize olZ A.c A.s A.u A.w=z at*;obtain⟨c,E⟩:∃c,(scn A.s b).2=c:=⟨_,rfl⟩
 have G:=zm A.s b
 have hy:∀X,osT A r b=au A.c X->(au A.c X).p=1->(au A.c X).tx=false->(c=0\/c=1)->osV A r b=⟨au A.c X,(scn A.s b).1,0,0,[]⟩:=fun X e h1 C M=>by
  rw[<- e]at h1 C ⊢;rw[sa h1 C,hS,B (by rw[E];exact M)]
 rw[E]at a G B ⊢;by_cases c1:z=0/\b=1
 .rw[QW c1];refine(g _ (a.trans ?_) (j 1)).symm;unfold hrC;rw[QW (by simp;omega)]
 rw[QV c1];have f:¬((z==0&&(b:Int)==1)=true):=by simp;omega
 rcases G with rfl|rfl|rfl|rfl|rfl|rfl|rfl
 .have e:osT A r b=au A.c A.c:=a.trans (by unfold hrC;rw[QV f];simp);have:=hy _ e (by rw[x];exact h) (by rw[x];exact y) (.inl rfl);rw[x]at this;simpa using this.symm
 .rw[QW rfl];rw[B (.inr rfl)]at a;by_cases t:vB (scn A.s b).1.e (scn A.s b).1.i (scn A.s b).1.r (scn A.s b).1.d (scn A.s b).1.l.length=true
  .rw[QW t];obtain⟨K,L⟩:=(mq v.c h 2 (frS (scn A.s b).1)).2 (.inl rfl);refine(hy _ (a.trans ?_) K (L.trans (by rw[QW rfl];exact y)) (.inr rfl)).symm;unfold hrC;rw[QV f,QW (by decide),QW t]
  .rw[QV t];refine(g _ (a.trans ?_) (j 3)).symm;unfold hrC;rw[QV f,QW (by decide),QV t]
 .exact (g _ (a.trans (by unfold hrC;rw[QV f];simp)) (H 3 (.inr (.inl rfl)))).symm
 .exact (g _ (a.trans (by unfold hrC;rw[QV f];simp)) (j 2)).symm
 .exact (g _ (a.trans (by unfold hrC;rw[QV f];simp)) (j 3)).symm
 .exact (g _ (a.trans (by unfold hrC;rw[QV f];simp)) (j 4)).symm
 .exact (g _ (a.trans (by unfold hrC;rw[QV f];simp)) (H 4 (.inr (.inr rfl)))).symm
def rsO(C:Co)(r:Int)(b:Nat):Ov:=
 if(au C (aJ C b r)).p=1 then⟨au C (aJ C b r),(scn sc0 0).1,if(au C (aJ C b r)).tx=true then((aq (au C (aJ C b r))).size:Int)else 0,if(au C (aJ C b r)).tx=true then 1 else 0,if(au C (aJ C b r)).tx=true then wl (lt (aq (au C (aJ C b r))))else[]⟩else bh (au C (aJ C b r))
def GW(f:gA A.c A.s A.n A.u A.w)(a:A.c.p≠1)(k:b=0\/b=1):rsO A.c r b=osV A r b:=by
 have e:osT A r b=au A.c (aJ A.c b r):=by unfold osT osA;rw[QV a]
 have hS:iz A=sc0:=QV a;obtain⟨⟨h1,g,j⟩,_⟩:=f.i a;unfold rsO;rw[<- e];by_cases h:(osT A r b).p=1
 .have h0:b=0:=by
   have d:=h;rw[e]at d;have:=(yR f.c a b r om (mG d).1).1;omega
  subst h0;rw[QW h];unfold osV;rw[QW h,hS,h1,g,j];cases ht:(osT A r 0).tx
  .simp[h];rfl
  .simp[h];rfl
 .rw[QV h,t7 h]
end
set_option maxHeartbeats 8000000
def okO(A:Ov)(bi:Int):Prop:=gA A.c A.s A.n A.u A.w/\(bi=0\/bi=1)
def zOv:Ov:=⟨zCo,scZ,0,0,[]⟩
def zD(A:Ov)(r bi:Int)(T:Ov):Prop:=(okO A bi/\T=osV A r bi.toNat)\/(¬okO A bi/\T=zOv)
def CN(w:World)(T:Ov)(s:Sl)(o:Os):(Instr.field 87 (aG (acO T.c s T.s T.n T.u o).toArray) 1).run Tp w= .ok (aG (oL T (osS o s)).toArray) w:=kr
def Fc(w:World)(b1:w.rangeAt 0 0 cQ)(hz:0<w.heap.size)(A:Ov)(q:Os)(h:oI w A q)(hs:eB q.s)(ha:q.aw=none\/∃g,q.aw=be g)(H:leO A)(r:Int)(hr:dN A.c.ho.bx r)(a:Int)(T:Ov)(hR:zD A r a T):ce 7 #[aG (oL A q).toArray,I J a] w fun o w'=>∃q',o=rT (aG (oL T q').toArray)/\(okO A a->rZ w.heap.size T.c T.s T.w q' w')/\(¬okO A a->q'=zOs)/\Bl w w':=by
 have d:Hid (blk ((w.alloc (.cells (oL A q).toArray 58)).alloc (.cells Z35.toArray 58)) w.heap.size (oL A q) 58/\blk ((w.alloc (.cells (oL A q).toArray 58)).alloc (.cells Z35.toArray 58)) (w.heap.size+1) Z35 58/\Bl w ((w.alloc (.cells (oL A q).toArray 58)).alloc (.cells Z35.toArray 58))):=by
  refine⟨(blk.new w _ 58).alloc _,?_,Zw.alloc pQ _⟩;have:=blk.new (w.alloc (.cells (oL A q).toArray 58)) Z35 58;simpa using this
 obtain⟨C,a8⟩:∃C,C=(w.alloc (.cells (oL A q).toArray 58)).alloc (.cells Z35.toArray 58):=⟨_,rfl⟩
 rw[<- a8]at d;have Q:=d.o.2.2;have ac:C.rangeAt 0 0 cQ:=fun j v hv=>(Q.cell (p:=⟨0,0+j,none⟩) (by exact hz)).trans (b1 j v hv);have U:0<C.heap.size:=nL hz Q.size;have HO:=aa (ua C A.c A.s A.n A.u A.w q (h.below Q) hs ha H.1 H.2.1 H.2.2 ac U)
 have a0:Hid (okO A a->∀R w0 M ad W B o a3,opO C A.c A.s A.n A.u A.w R w0 M ad W B o a3->ce 30 #[.iface 80 (ap R),I J a] a3 fun q w'=>∃s' o',q=rT (aG (acO T.c s' T.s T.n T.u o').toArray)/\rZ B T.c T.s T.w (osS o' s') w'/\Bl C w'):=fun f R w0 M ad W B o a3 hW=>by
  rcases hR with⟨_,rfl⟩|⟨S,_⟩
  .obtain⟨b,rfl⟩:∃b:Nat,a=(b:Int):=⟨a.toNat,by have:=f.2;omega⟩
   have O:b=0\/b=1:=by have:=f.2;omega
   refine yT hW b fun X hX=>BR hX f.1 (fun hp=>⟨(lM h f.1 hp).1,(lM h f.1 hp).2.1⟩) r hr ?_ ?_ h.w.small H.2.2 b O
   .exact fun j v hv=>(hX.b0.cell (p:=⟨0,0+j,none⟩) (by exact U)).trans (ac j v hv)
   .exact nL U hX.b0.size
  .exact Qj f S
 have a1:Hid (¬okO A a->T=zOv):=fun S=>by
  rcases hR with⟨k,_⟩|⟨_,k⟩
  .exact Qj k S
  .exact k
 obtain⟨l,a4⟩:∃l,decide (a=0\/a=1)=l:=⟨_,rfl⟩
 have ak:Hid (l=true↔(a=0\/a=1)):=by show _↔_;rw[<- a4,qQ]
 have af:Hid (∀X,ce 29 #[I J a] X fun o w'=>o=rT (bO l)/\X=w'):=fun X=>by rw[<- a4];exact kH X a
 clear h hs ha H hr hR b1 hz ac U Q a4;go_enter func7,ntmps7;go_upto_region 1 with fail
 change Code.wp _ _ _ _ ((w.alloc (.cells (oL A q).toArray 58)).alloc (.cells Z35.toArray 58));rw[<- a8];clear a8;go_wp2_with(refine ZG 58 d.o.1.load underlying58 (dj _ _ _ _ _) ?_);refine HO.o.mono ?_;rintro ox E ⟨p,b,rfl,O,hR,a5⟩;have HB:=aa O;have HR:=aa hR;have L:Hid (blk E (w.heap.size+1) Z35 58/\Bl w E):=⟨d.o.2.1.below a5,d.o.2.2.trans (a5.mono d.o.2.2.size)⟩
 clear O hR a5 HO;go_upto_region 2 with fail
 go_cut [18] (fun v wx=>v=bO (!b|| !l)/\wx=E);case first=>
  cases b<;>cases l;all_goals
   go_wp2_with(go_at_call 29;refine(af.o _).mono ?_;rintro o w5 ⟨rfl,rfl⟩);go_meet;case rel=>exact⟨rfl,rfl⟩
 case rest=>
 obtain⟨rfl,hw⟩:=hcut;have hw:=hw.symm;subst hw;obtain⟨c,N⟩:∃c,(!b|| !l)=c:=⟨_,rfl⟩
 have K:Hid (c=false↔okO A a):=by show _↔_;unfold okO;rw[<- N,<- ak.o,<- HB.o];cases b<;>cases l<;>simp
 have Z:Hid (c=false->b=true):=by show _->_;rw[<- N];cases b<;>simp
 rw[N];clear N af HB ak;cases c;case true=>
  have a7:¬okO A a:=fun x=>by have:=K.o.2 x;cases this
  have HN:=aa a7;obtain rfl:=a1.o a7
  clear HR a0 a7 a1 Z K;go_wp2_with(refine Zs 58 Z35.toArray (L.o.1.there 0 _ (by decide)) (cX zCo scZ 0 0 zOs) (cC zCo scZ 0 0 zOs) ?_;generalize G:World.setCells _ (w.heap.size+1) 0 _=i;have a2:Hid (_=i):=G;clear G)
  have y:=a2.o;have hF:blk i (w.heap.size+1) Z35 58:=by rw[<- y];exact L.o.1.put [] Z35 [] Z35 rfl
  have hL:=Qt (P:=Tp) i (w.heap.size+1) 0 58 _ _ hF.load underlying58 rfl (dj zCo scZ 0 0 zOs);refine bC results7 hL ?_;refine⟨zOs,rfl,fun x=>Qj x HN.o,fun _=>rfl,?_⟩;rw[<- y];exact sW om 0 _ L.o.2
 case false=>
 have f:=K.o.1 rfl;obtain⟨R,w0,M,G0,W,B,o1,rfl,h1⟩:=HR.o (Z.o rfl);have b2:=aa f;have am:Hid (w.heap.size+1<B):=by
  have:=d.o.2.1.lt;have:=h1.n.2.2.2.2;show _<_;omega
 have HD:=aa (a0.o f R w0 M G0 W B o1 E h1);clear HR f h1 a0 a1 L Z K;have b3:(Instr.makeInterface 80 (ap R)).run Tp E= .ok (.iface 80 (ap R)) E:=kr;go_wp2_with fail;refine HD.o.mono ?_;rintro ox t ⟨s2,D,rfl,ao,a6⟩;have H2:Hid (rZ B T.c T.s T.w (osS D s2) t):=ao;have Y:Hid (Bl w t/\blk t (w.heap.size+1) Z35 58):=⟨d.o.2.2.trans (a6.mono d.o.2.2.size),d.o.2.1.below a6⟩
 clear ao a6 HD b3 d;have b4:=CN t T s2 D
 go_wp2_with(refine Zs 58 (oL T (osS D s2)).toArray (Y.o.2.there 0 35 (nR _)) (cX _ _ _ _ _) (cC _ _ _ _ _) ?_;generalize G:World.setCells _ (w.heap.size+1) 0 _=i;have a2:Hid (_=i):=G;clear G)
 have y:t.setCells (w.heap.size+1) 0 (oL T (osS D s2))=i:=a2.o;have hF:blk i (w.heap.size+1) (oL T (osS D s2)) 58:=by rw[<- y];exact Y.o.2.put [] Z35 [] _ rfl
 have hL:=Qt (P:=Tp) i (w.heap.size+1) 0 58 _ _ hF.load underlying58 rfl (dj _ _ _ _ _);refine bC results7 hL ?_
 have a9:∀k,B<=k->k<t.heap.size->i.heap[k]?=t.heap[k]?:=fun k h1 h2=>by
  rw[<- y];exact sO _ k (by have:=am.o;omega) _ _ _
 refine⟨osS D s2,rfl,fun _=>?_,fun x=>Qj b2.o x,?_⟩
 .obtain⟨u1,u2,u3,u4,B3,T3,u5,u6,u7,u8,u9⟩:=H2.o;have S:=am.o;have b5:i.heap.size=t.heap.size:=by rw[<- y,sZ]
  exact⟨fun e=>ae.mono ((u1 e).otherBlock fun g hg=>a9 g (Qm (u1 e) g hg).1 (Qm (u1 e) g hg).2) om,u2,(u3.keep a9).lower om,u4,B3,T3,u5.keep fun k h1 h2=>a9 k om om,om,om,u8,u9⟩
 .rw[<- y];exact sW om 0 _ Y.o.1
def Au{C:Co}(h:wvP C.ho.bx):okT (aq C) 4000=true/\(aq C).size<=1000:=by
 have a:=lu h.1;have b:=h.2 a;rw[jG C a];obtain⟨e,c,d⟩:=sY _ _ _ _ _ b (cW b).2.2.2.2;exact⟨(Cq _ c d).1,c⟩
def Dx{w:World}{A:Ov}{q:Os}(h:oI w A q)(a:gA A.c A.s A.n A.u A.w)(d:leO A)(r:Int)(j:dN A.c.ho.bx r)(b:Nat)(i:b=0\/b=1):leO (osV A r b)/\(∀x∈(osV A r b).s.l,x<256)/\∀x∈(osV A r b).w,x<18446744073709551616:=by
 have h1:okS (iz A)/\∀x∈(iz A).l,x<256:=by
  unfold iz;split
  .exact⟨(lM h a ‹_›).1,(lM h a ‹_›).2.1⟩
  .exact tQ
 have g:=rG h1.1 h1.2 b i;have h8:=g.1.2.2.2.2.2.1;refine⟨⟨?_,?_,?_⟩,?_,?_⟩
 .show (osT A r b).ho.le 1048576;unfold osT osA;have hF:=fun k=>Fl k a.c d.1;have f:=fun k F(e:F.l.length<=1048576)=>Fm (t:=k) (F:=F) a.c d.1 e;split
  .have hC:=jO a.c ‹_›;split
   .unfold iR
    (repeat' split)<;>first|exact hF _|exact f _ _ (by decide)|(rw[hC];exact d.1)
   .unfold hrC
    (repeat' split)<;>first|exact hF _|exact f _ _ (by show(aI (iz A) b).l.length<=_;omega)|exact f _ zF5 (by decide)|(rw[hC];exact d.1)
  .exact Ej b r a.c d.1
 .dsimp only[osV];split
  .omega
  .exact nZ _
 .dsimp only[osV];split
  .rename_i hc;split
   .rename_i hn;have:=(Au (po a r j b i hc.1 hc.2 hn).1).2;rw[cD,aN];omega
   .exact d.2.2
  .exact nZ _
 .dsimp only[osV];split
  .exact g.2
  .intro x hx;cases hx
 .dsimp only[osV];split
  .split
   .exact im _
   .exact h.w.small
  .intro x hx;cases hx
section
variable{κ κ' κ0:Nat->Nat}{A T T':Ov}{q q' t t':Os}{H H':Ho}{s s':Sl}{w W W':World}{P:Nat}
structure gV(w:World)(A:Ov)(q:Os)(P:Nat)(κ:Nat->Nat)(T:Ov)(t:Os)(H:Ho)(s:Sl)(W:World):Prop where
 p:blk W w.heap.size (oL A q) 58
 r:blk W (w.heap.size+1) Z35 58
 g:blk W P (oL T t) 58
 h:hG κ H s W
 d:byP κ W t.a t.n t.k T.s.l
 x:wdP κ W t.aw t.nw t.kw T.w
 z:κ w.heap.size=0/\κ (w.heap.size+1)=0/\κ P=0/\w.heap.size+1<P/\∀x,x<w.heap.size->κ x=0
 b:Bl w W
def gV.call(h:gV w A q P κ T t H s W)(e:hG κ' H' s' W'/\mvH κ W κ' W'):gV w A q P κ' T t H' s' W':=by
 obtain⟨f,i,j,l,z5⟩:=h.z;have m:=e.2;refine⟨m.blk h.p f,m.blk h.r i,m.blk h.g j,e.1,h.d.mv m,h.x.mv m,?_,⟨m.o.1.trans h.b.os,m.o.2.1.trans h.b.tape,m.o.2.2.trans h.b.output,nT h.b.size m.s,fun x a=>(m.k x (nL a h.b.size) (z5 x a)).trans (h.b.block x a)⟩⟩;rw[m.c _ h.p.lt,m.c _ h.r.lt,m.c _ h.g.lt];exact⟨f,i,j,l,fun x a=>by rw[m.c x (nL a h.b.size)];exact z5 x a⟩
def gV.below(h:gV w A q P κ T t H s W)(hb:Bl W W'):gV w A q P κ T t H s W':=h.call ⟨h.h.below hb,mvH.of hb⟩
def gV.put(h:gV w A q P κ T t H s W)(o:Nat)(d:List Value)(e:blk (W.setCells P o d) P (oL T' t') 58)(hd:byP κ W t'.a t'.n t'.k T'.s.l)(f:wdP κ W t'.aw t'.nw t'.kw T'.w):gV w A q P κ T' t' H s (W.setCells P o d):=by
 obtain⟨j,u,i,v,z5⟩:=h.z;exact⟨h.p.other om _ _,h.r.other om _ _,e,h.h.cells i _ _,hd.far h.g (EC _ _ _ _ _) fun q c=>sO _ q c _ _ _,f.far h.g (BW _ _ _ _ _) fun q c=>sO _ q c _ _ _,h.z,sW om _ _ h.b⟩
def gV.putA(h:gV w A q P κ T t H s W)(hd:byP κ W t'.a t'.n t'.k T'.s.l)(hx:wdP κ W t'.aw t'.nw t'.kw T'.w):gV w A q P κ T' t' H s (W.setCells P 0 (oL T' t')):=h.put 0 _ (h.g.put [] (oL T t) [] (oL T' t') rfl) hd hx
def byP.of(h:iB W t.a t.n t.k T.s.l)(k:∀x,x<W.heap.size->κ x=0):byP κ W t.a t.n t.k T.s.l:=⟨h,fun hl p hp=>by
 obtain⟨g,off,e,hc⟩:=h.cells hl
 rw[hp]at e
 cases e
 exact k _ (Qn W _ (hc 0 (List.length_pos_iff.2 hl)))⟩
def wdP.of(h:ah W t.aw t.nw t.kw T.w)(k:∀x,x<W.heap.size->κ x=0):wdP κ W t.aw t.nw t.kw T.w:=⟨h,fun hl p hp=>by
 obtain⟨g,off,e,hc⟩:=h.cells hl
 rw[hp]at e
 cases e
 exact k _ (Qn W _ (hc 0 (List.length_pos_iff.2 hl)))⟩
def gV.re(h:gV w A q P κ T t H s W)(G:(hG κ' H' s' W'/\mvH κ' W κ' W')/\∀x,x<W.heap.size->κ' x=0):gV w A q P κ' T t H' s' W':=by
 have hd:=(byP.of h.d.1 G.2).mv G.1.2;have a:=(wdP.of h.x.1 G.2).mv G.1.2;have c:Bl W W':=⟨G.1.2.o.1,G.1.2.o.2.1,G.1.2.o.2.2,G.1.2.s,fun x a=>G.1.2.k x a (G.2 x a)⟩
 have e:=h.b.size;exact⟨h.p.below c,h.r.below c,h.g.below c,G.1.1,hd,a,⟨G.2 _ h.p.lt,G.2 _ h.r.lt,G.2 _ h.g.lt,h.z.2.2.2.1,fun x a=>G.2 x om⟩,h.b.trans (c.mono e)⟩
end
def El(w:World)(A:Ov)(q:Os)(ao:oI w A q)(hm:leO A)(r:Int)(hr:dN A.c.ho.bx r)(Q:Int)(T:Ov)(hR:zD A r Q T):ce 5 #[aG (oL A q).toArray,I J Q] w fun o w'=>∃q',o=rT (aG (oL T q').toArray)/\oI w' T q'/\Bl w w':=by
 have H0:Hid (blk ((w.alloc (.cells (oL A q).toArray 58)).alloc (.cells Z35.toArray 58)) w.heap.size (oL A q) 58/\blk ((w.alloc (.cells (oL A q).toArray 58)).alloc (.cells Z35.toArray 58)) (w.heap.size+1) Z35 58/\Bl w ((w.alloc (.cells (oL A q).toArray 58)).alloc (.cells Z35.toArray 58))):=by
  refine⟨(blk.new w _ 58).alloc _,?_,Zw.alloc pQ _⟩;have:=blk.new (w.alloc (.cells (oL A q).toArray 58)) Z35 58;simpa using this
 obtain⟨v0,b1⟩:∃v0,v0=(w.alloc (.cells (oL A q).toArray 58)).alloc (.cells Z35.toArray 58):=⟨_,rfl⟩
 rw[<- b1]at H0;have HO:=hI (EY v0 A.c A.s A.n A.u A.w q (ao.below H0.o.2.2) hm.1 hm.2.1 hm.2.2);have h:=hI (qB ao (qB hm (qB hr hR)));obtain⟨x0,n0⟩:∃q,(Q !=0)=q:=⟨_,rfl⟩
 obtain⟨x1,n1⟩:∃q,(Q !=1)=q:=⟨_,rfl⟩
 have bc:Hid ((x0&&x1)=false↔(Q=0\/Q=1)):=by
  show _↔_;rw[<- n0,<- n1,Bool.and_eq_false_iff];simp
 clear ao hm hr hR;go_enter func5,ntmps5;go_upto_region 1 with fail
 change Code.wp _ _ _ _ ((w.alloc (.cells (oL A q).toArray 58)).alloc (.cells Z35.toArray 58));rw[<- b1];clear b1;go_cut [16] (fun v wx=>∃b,v=bO (!b||(x0&&x1))/\Hid ((b=true↔gA A.c A.s A.n A.u A.w)/\Bl v0 wx));case first=>
  go_wp2_with(refine ZG 58 H0.o.1.load underlying58 (dj _ _ _ _ _) ?_);refine HO.o.mono ?_;rintro o w1 ⟨⟨b,rfl,H⟩,bk⟩;obtain⟨bb,am⟩:∃bb,bb=b:=⟨b,rfl⟩
  rw[<- am]at H;have G:=hI (qB H bk);have b7:=hI am;clear H bk am;cases b<;>cases x0<;>cases x1;all_goals
   go_wp2_with fail;go_meet;case rel=>exact⟨bb,by first|rw[b7.o];rfl|(have e:=b7.o;simp at e;rw[e];rfl),G.o⟩
 case rest=>
 obtain⟨b,rfl,G⟩:=hcut;obtain⟨c,ec⟩:∃c,(!b||(x0&&x1))=c:=⟨_,rfl⟩
 have a7:Hid (c=false↔okO A Q):=by show _↔_;unfold okO;rw[<- ec,<- bc.o,<- G.o.1];cases b<;>cases x0<;>cases x1<;>simp
 have W:Hid (blk wc w.heap.size (oL A q) 58/\blk wc (w.heap.size+1) Z35 58/\Bl w wc):=⟨H0.o.1.below G.o.2,H0.o.2.1.below G.o.2,H0.o.2.2.trans (G.o.2.mono H0.o.2.2.size)⟩
 rw[ec];clear ec G bc HO H0 n0 n1;cases c;case true=>
  have bA:¬okO A Q:=fun x=>by have:=a7.o.2 x;cases this
  obtain rfl:T=zOv:=by
   rcases h.o.2.2.2 with⟨k,_⟩|⟨_,k⟩
   .exact Qj k bA
   .exact k
  clear a7 bA h;go_wp2_with(refine Zs 58 Z35.toArray (W.o.2.1.there 0 _ (by decide)) (cX zCo scZ 0 0 zOs) (cC zCo scZ 0 0 zOs) ?_;generalize a6:World.setCells _ (w.heap.size+1) 0 _=w8;have ak:Hid (_=w8):=a6;clear a6)
  have e8:=ak.o;refine bC results5 (lvO (T:=zOv) (q:=zOs) (by rw[<- e8];exact W.o.2.1.put [] Z35 [] Z35 rfl)) ?_;refine⟨zOs,rfl,yh _,?_⟩;rw[<- e8];exact sW om 0 _ W.o.2.2
 case false=>
 have E:Hid (okO A Q):=a7.o.1 rfl;obtain⟨b,rfl⟩:∃b:Nat,Q=(b:Int):=⟨Q.toNat,by have:=E.o.2;omega⟩
 have H:b=0\/b=1:=by have:=E.o.2;omega
 have G:=hI H;obtain rfl:T=osV A r b:=by
  rcases h.o.2.2.2 with⟨_,k⟩|⟨k,_⟩
  .exact k
  .exact Qj E.o k
 have af:=hI (Dx h.o.1 E.o.1 h.o.2.1 r h.o.2.2.1 b H);clear a7 H;have HP:=hI (blk.new wc Z35 58);have HC:=hI (fun X(hX:Bl w X)=>sD X A.c q.s (h.o.1.h.below hX) h.o.2.1.1)
 go_upto_region 4 with(first|(refine ZG 58 W.o.1.load underlying58 (dj _ _ _ _ _) ?_)|(refine Zs 58 (oL A q).toArray (HP.o.there 0 35 (nR _)) (cX _ _ _ _ _) (cC _ _ _ _ _) ?_;generalize y:World.setCells _ wc.heap.size 0 _=w3;have B:Hid (_=w3):=y;clear y))
 have H3:Hid (blk w3 w.heap.size (oL A q) 58/\blk w3 (w.heap.size+1) Z35 58/\blk w3 wc.heap.size (oL A q) 58/\Bl w w3/\w.heap.size+1<wc.heap.size):=by
  have K:=B.o;have H:Bl wc w3:=by rw[<- K];exact sW (nR _) _ _ Zw
  exact⟨W.o.1.below H,W.o.2.1.below H,by rw[<- K];exact HP.o.put [] Z35 [] _ rfl,W.o.2.2.trans (H.mono W.o.2.2.size),W.o.2.1.lt⟩
 clear B HP W;generalize wc.heap.size=P at*;go_wp2_with(refine ZG 52 (bJ H3.o.1) underlying52 (aV _ _) ?_);refine(HC.o _ H3.o.2.2.2.1).mono ?_;rintro o w4 ⟨s4,N,rfl,U⟩;have F4:Hid (gV w A q P N A q A.c.ho s4 w4):=by
  obtain⟨h1,h2,h3,h4,h5⟩:=H3.o;have a2:=U.o.1.2;have H:Bl w3 w4:=⟨a2.o.1,a2.o.2.1,a2.o.2.2,a2.s,fun x hx=>a2.k x hx (U.o.2 x hx)⟩
  have hz:=h4.size;exact⟨h1.below H,h2.below H,h3.below H,U.o.1.1,(byP.of (t:=q) (T:=A) (h.o.1.d.below h4) U.o.2).mv a2,(wdP.of (t:=q) (T:=A) (h.o.1.w.below h4) U.o.2).mv a2,⟨U.o.2 _ h1.lt,U.o.2 _ h2.lt,U.o.2 _ h3.lt,h5,fun x hx=>U.o.2 x om⟩,h4.trans (H.mono hz)⟩
 clear U H3 HC;go_upto_region 5 with(refine Zs 52 (coL A.c s4).toArray (F4.o.g.there 0 21 (by show 21<=(opL _ _ _ _ _).length;rw[gP];decide)) (eY _ _) (cO _ _) ?_;generalize y:World.setCells _ P 0 _=w5;have B:Hid (_=w5):=y;clear y)
 have L:Hid (gV w A q P N A ⟨s4,q.a,q.n,q.k,q.aw,q.nw,q.kw⟩ A.c.ho s4 w5):=by
  have K:w4.setCells P 0 (coL A.c s4)=w5:=B.o;rw[<- K];exact F4.o.put (T':=A) (t':=⟨s4,q.a,q.n,q.k,q.aw,q.nw,q.kw⟩) 0 _ (iA F4.o.g) F4.o.d F4.o.x
 clear B F4;obtain⟨t,ht⟩:∃t:Os,t=⟨s4,q.a,q.n,q.k,q.aw,q.nw,q.kw⟩:=⟨_,rfl⟩
 have bD:s4=t.s:=by rw[ht]
 rw[<- ht,bD]at L;clear ht bD;have y0:=L.o.p.cell 0 (I J A.c.p) rfl;obtain⟨p1,ep,np,fp⟩:=eqB A.c.p 1;go_upto_if 26 with fail
 go_cut [] (fun wx=>∃t N,Hid (gV w A q P N (osV A r b) t (osV A r b).c.ho t.s wx));case first=>
  cases p1;case false=>
   have f:A.c.p≠1:=fun e=>by have:=fp.o.2 e;cases this
   have HX:=hI (fun V N s(hV:hG N A.c.ho s V)=>uo V A.c s (b:Int) r (by have:=G.o;omega) E.o.1.c f h.o.2.1.1 h.o.2.2.1 hV);have HE:Hid (osV A r b=rsO A.c r b):=(GW E.o.1 f G.o).symm
   have HJ:Hid ((au A.c (aJ A.c b r)).p=1->(au A.c (aJ A.c b r)).tx=true->wvP (au A.c (aJ A.c b r)).ho.bx/\(au A.c (aJ A.c b r)).ho.bx.length<=8):=fun e1 e2=>by
    have e0:osT A r b=au A.c (aJ A.c b r):=by unfold osT osA;rw[QV f]
    have:=po E.o.1 r h.o.2.2.1 b G.o (by rw[e0];exact e1) (by rw[e0];exact e2) (E.o.1.i f).1.1;rw[e0]at this;exact⟨this.1,this.2.2.2⟩
   unfold rsO at HE;generalize au A.c (aJ A.c b r)=X at*;clear f fp af h E ep np y0;go_wp2_with(refine ZG 52 (bJ L.o.g) underlying52 (aV _ _) ?_);refine(HX.o _ N t.s L.o.h).mono ?_;rintro o w6 ⟨C,M,rfl,G6⟩;have F6:Hid _:=L.o.call G6.o;clear G6 L HX;go_wp2_with fail;refine(jk _ X C).mono ?_;rintro o w7 ⟨rfl,br⟩;have F7:Hid _:=F6.o.below br;clear br F6;go_upto_region 7 with(refine Zs 58 (oL (bh X) (opZ C)).toArray (F7.o.g.there 0 35 (nR _)) (cX _ _ _ _ _) (cC _ _ _ _ _) ?_;generalize y:World.setCells _ P 0 _=w8;have B:Hid (_=w8):=y;clear y)
   have F8:Hid (gV w A q P M (bh X) (opZ C) X.ho C w8):=by
    have K:w7.setCells P 0 (oL (bh X) (opZ C))=w8:=B.o;rw[<- K];exact F7.o.putA byP.nil wdP.nil
   clear B F7;have y0:=F8.o.g.cell 0 (I J X.p) rfl;obtain⟨xp,c0,_,a9⟩:=eqB X.p 1;cases xp;case false=>
    have f:¬X.p=1:=fun e=>by have:=a9.o.2 e;cases this
    have bR:Hid (osV A r b=bh X):=HE.o.trans (QV f);clear HE f a9;go_wp2_with fail;go_meet;case rel=>exact⟨opZ C,M,by rw[bR.o];exact F8.o⟩
   case true=>
   have f:X.p=1:=a9.o.1 rfl;replace HE:Hid (osV A r b=⟨X,(scn sc0 0).1,if X.tx=true then((aq X).size:Int)else 0,if X.tx=true then 1 else 0,if X.tx=true then wl (lt (aq X))else[]⟩):=HE.o.trans (QW f)
   have a8:=hI (HJ.o f);clear f a9 HJ;go_wp2_with fail;refine(kG _).mono ?_;rintro o w9 ⟨rfl,bs⟩;have R:Hid _:=F8.o.below bs;clear bs F8 y0;go_wp2_with fail;have bg:Hid _:=tP (S:=sc0) (a:=none) (n:=0) (k:=0) w9 tQ.1 ⟨rfl,nR _,(fun x hx=>by cases hx),fun e=>Qj rfl e⟩ 0 (.inl rfl);refine(Calls.mono bg.o) ?_;rintro o b3 ⟨Y,n',Z,rfl,bt,_,bm⟩;have a5:Hid (gV w A q P M (bh X) (opZ C) X.ho C b3/\byP M b3 Y n' Z (scn sc0 0).1.l):=⟨R.o.below bm,bt M fun hx=>R.o.h.no hx⟩
   clear bg bt bm R;generalize (scn sc0 0).1=S1 at*;go_upto_region 9 with(refine Zs 55 (scL S1 Y n' Z).toArray (a5.o.1.g.there 21 11 (by show 32<=(opL _ _ _ _ _).length;rw[gP];decide)) dh (fO _ _ _ _) ?_;generalize y:World.setCells _ P 21 _=ac;have B:Hid (_=ac):=y;clear y)
   have a1:Hid (gV w A q P M ⟨X,S1,0,0,[]⟩ ⟨C,Y,n',Z,none,0,0⟩ X.ho C ac):=by
    have K:b3.setCells P 21 (scL S1 Y n' Z)=ac:=B.o;rw[<- K];exact a5.o.1.put (T':=⟨X,S1,0,0,[]⟩) (t':=⟨C,Y,n',Z,none,0,0⟩) 21 _ (kD a5.o.1.g) a5.o.2 wdP.nil
   clear B a5;have y6:=a1.o.g.cell 6 (bO X.tx) rfl;obtain⟨tx,a0⟩:∃q,X.tx=q:=⟨_,rfl⟩
   rw[a0]at y6 HE a8;cases tx;case false=>
    go_wp2_with fail;go_meet;case rel=>exact⟨_,M,by rw[HE.o];exact a1.o⟩
   case true=>
   have b2:=(a8.o rfl).1;have ap:=Au b2;have b9:=hI (od ac X C a1.o.h.is (by have:=a1.o.h.is.bx.len;have:=(a8.o rfl).2;omega) b2.1);have bf:=hI (fun V=>zz (aq X) ap.1 (by have:=ap.2;omega) V);clear b2 ap a8;go_wp2_with(refine ZG 52 (bJ a1.o.g) underlying52 (aV _ _) ?_);refine b9.o.mono ?_;rintro o c6 ⟨fe,fi,fr,fd,fa,fm,fc,_,rfl,bn,bu⟩;have b8:=hI bu;have b6:Hid _:=a1.o.below bn;clear bn bu b9 a1;go_wp2_with fail;refine b8.o.mono ?_;rintro o c7 ⟨rfl,bo⟩;have ad:Hid _:=b6.o.below bo;clear bo b8 b6;go_wp2_with fail;refine(bf.o _).mono ?_;rintro o b4 ⟨aw,nw,kw,rfl,bE,bw,bq⟩;have a3:Hid (gV w A q P M ⟨X,S1,0,0,[]⟩ ⟨C,Y,n',Z,none,0,0⟩ X.ho C b4/\wdP M b4 aw nw kw (wl (lt (aq X)))):=⟨ad.o.below bq,bE,fun _ p f=>ad.o.h.no (bw p f)⟩
   clear bE bw bq ad bf;go_upto_region 11 with(refine Zs 56 #[I J ((aq X).size:Int),sL aw nw kw] (a3.o.1.g.there 32 2 (by show 34<=(opL _ _ _ _ _).length;rw[gP];decide)) (eH _ _ _ _) (sb _ _ _ _) ?_;generalize y:World.setCells _ P 32 _=b5;have B:Hid (_=b5):=y;clear y)
   have a4:Hid (gV w A q P M ⟨X,S1,((aq X).size:Int),0,wl (lt (aq X))⟩ ⟨C,Y,n',Z,aw,nw,kw⟩ X.ho C b5):=by
    have K:b4.setCells P 32 [I J ((aq X).size:Int),sL aw nw kw]=b5:=B.o;rw[<- K];exact a3.o.1.put (T':=⟨X,S1,((aq X).size:Int),0,wl (lt (aq X))⟩) (t':=⟨C,Y,n',Z,aw,nw,kw⟩) 32 _ (lL a3.o.1.g) a3.o.1.d a3.o.2
   clear B a3;have c9:=a4.o.g.cell 34 (I J 0) rfl;have c5:=a4.o.g.free 34;go_wp2_with fail;go_meet;case rel=>exact⟨⟨C,Y,n',Z,aw,nw,kw⟩,M,by rw[HE.o];exact a4.o.put (T':=⟨X,S1,((aq X).size:Int),1,wl (lt (aq X))⟩) (t':=⟨C,Y,n',Z,aw,nw,kw⟩) 34 [I J 1] (a4.o.g.set 34 (I J 1)) a4.o.d a4.o.x⟩
  case true=>
   have f:A.c.p=1:=fp.o.1 rfl;have y6:=L.o.p.cell 6 (bO A.c.tx) rfl;obtain⟨bL,uE,oE,zE,nE,wE⟩:=FX E.o.1;obtain⟨c1,c2⟩:=Dy E.o.1;obtain⟨tx,a0⟩:∃x,A.c.tx=x:=⟨_,rfl⟩
   have bX:Hid (∀V N t,oP N A t V->ce (if tx=true then 23 else 24) #[aG (oL A t).toArray,I J (b:Int)] V (oA V N (osV A r b))):=fun V N t hV=>by
    cases tx
    .rw[QV (by decide),<- GX E.o.1 f a0 G.o];exact sy hV E.o.1.c f a0 h.o.2.1.1 (lM h.o.1 E.o.1 f).1 b G.o h.o.2.1.2.2
    .rw[QW rfl,<- GV h.o.1 E.o.1 f a0 G.o];exact su hV E.o.1.c f h.o.2.1.1 (lM h.o.1 E.o.1 f).1 b G.o (c2 f a0) h.o.2.1.2.2 c1.2 bL uE oE zE nE wE
   rw[a0]at y6;clear f fp af h E G ep np y0 uE oE zE nE wE c1 c2 a0;cases tx;all_goals
    go_wp2_with(refine ZG 58 L.o.g.load underlying58 (dj _ _ _ _ _) ?_);refine(bX.o _ N t ⟨L.o.h,L.o.d,L.o.x⟩).mono ?_;rintro o w6 ⟨q',M,rfl,G6⟩;have F6:Hid _:=L.o.call ⟨G6.o.1.g,G6.o.2⟩;go_wp2_with(refine Zs 58 (oL (osV A r b) q').toArray (F6.o.g.there 0 35 (nR _)) (cX _ _ _ _ _) (cC _ _ _ _ _) ?_;generalize y:World.setCells _ P 0 _=w7;have B:Hid (_=w7):=y;clear y);go_meet;case rel=>
     have K:w6.setCells P 0 (oL (osV A r b) q')=w7:=B.o;refine⟨q',M,?_⟩;rw[<- K];exact F6.o.putA (T':=osV A r b) (t':=q') G6.o.1.d G6.o.1.x
 case rest=>
 obtain⟨D,ca,F7⟩:=hcut;clear L y0 ep np fp G;have be:=af.o.1.1;obtain⟨T,hT⟩:∃T,osV A r b=T:=⟨_,rfl⟩
 rw[hT]at F7 be;have HT:=hI hT;clear hT;go_wp2_with(refine ZG 52 (bJ F7.o.g) underlying52 (aV _ _) ?_);refine(sD _ T.c D.s F7.o.h.is be).mono ?_;rintro o w8 ⟨s9,bZ,rfl,G9⟩;have R:Hid _:=F7.o.re G9.o;clear G9 F7;go_upto_region 16 with(refine Zs 52 (coL T.c s9).toArray (R.o.g.there 0 21 (by show 21<=(opL _ _ _ _ _).length;rw[gP];decide)) (eY _ _) (cO _ _) ?_;generalize y:World.setCells _ P 0 _=w9;have B:Hid (_=w9):=y;clear y)
 have O:Hid (gV w A q P bZ T ⟨s9,D.a,D.n,D.k,D.aw,D.nw,D.kw⟩ T.c.ho s9 w9):=by
  have K:w8.setCells P 0 (coL T.c s9)=w9:=B.o;rw[<- K];exact R.o.put (T':=T) (t':=⟨s9,D.a,D.n,D.k,D.aw,D.nw,D.kw⟩) 0 _ (iA R.o.g) R.o.d R.o.x
 clear B R;obtain⟨t6,h6⟩:∃t:Os,t=⟨s9,D.a,D.n,D.k,D.aw,D.nw,D.kw⟩:=⟨_,rfl⟩
 have bi:s9=t6.s:=by rw[h6]
 rw[<- h6,bi]at O
 clear h6 bi;go_wp2_with(first|(refine ZG 58 O.o.g.load underlying58 (dj _ _ _ _ _) ?_)|(refine Zs 58 (oL T t6).toArray (O.o.r.there 0 35 (nR _)) (cX _ _ _ _ _) (cC _ _ _ _ _) ?_;generalize a6:World.setCells _ (w.heap.size+1) 0 _=wz;have ak:Hid (_=wz):=a6;clear a6))
 have e8:w9.setCells (w.heap.size+1) 0 (oL T t6)=wz:=ak.o;refine bC results5 (lvO (by rw[<- e8];exact O.o.r.put [] Z35 [] _ rfl)) ?_;have bI:∀x,x≠w.heap.size+1->(w9.setCells (w.heap.size+1) 0 (oL T t6)).heap[x]?=w9.heap[x]?:=fun x hx=>sO _ x hx _ _ _;have n8:∀j,Value.int .u8 j∉Z35:=fun j=>by simp[Z35]
 have bY:∀j,Value.int .u64 j∉Z35:=fun j=>by simp[Z35]
 rw[HT.o];refine⟨t6,rfl,?_,?_⟩
 .rw[<- e8];exact⟨(O.o.h.cells O.o.z.2.1 _ _).is,O.o.d.1.farL O.o.r n8 bI,O.o.x.1.farL O.o.r bY bI⟩
 .rw[<- e8];exact sW om 0 _ O.o.b
def zC(A:Ov)(r a:Int):∃T,zD A r a T:=by
 by_cases h:okO A a
 .exact⟨_,.inl ⟨h,rfl⟩⟩
 .exact⟨_,.inr ⟨h,rfl⟩⟩
def uk(A:Ov)(u:Os)(P:Int)(w:World)(db:w.rangeAt 0 0 cQ)(bs:0<w.heap.size)(h:oI w A u)(hn:A.c.ho.le 9223372036854775807)(hl:A.s.l.length<=9223372036854775807)(hw:A.w.length<=9223372036854775807):ce 3 #[aG (oL A u).toArray,I J P] w fun o w'=>o=rT (bO true)/\Bl w w':=by
 obtain⟨r,hr⟩:=Be A.c.ho.bx;obtain⟨T,hR⟩:=zC A r P;have HS:Hid (∀X,Bl w X->ce 4 #[aG (oL A u).toArray,I J 1048576] X fun o w'=>∃z:Int,o=rT (I J z)/\Bl X w'/\(z= -1\/∃m':Nat,z=(m':Int)/\leO A)):=fun X Q=>yF X A.c A.s A.n A.u A.w u (h.below Q) hn hl hw;have HT:Hid (leO A->∀X,oI X A u->ce 6 #[aG (oL A u).toArray] X fun o w'=>∃a:Os,o=rT (aG (oL A a).toArray)/\St X.heap.size w' (fun W=>oI W A a)/\cpE X.heap.size w'.heap.size A.w a w'/\okA a/\Bl X w'):=fun e X Q=>(yz X A.c A.s A.n A.u A.w u Q e.1 e.2.1 e.2.2).mono (by rintro o w' ⟨a,rfl,q1,q2,q3,q4,q5⟩;exact⟨a,rfl,q1,q2,⟨q3,q4⟩,q5⟩);have HE:Hid (leO A->∀X a,oI X A a->ce 5 #[aG (oL A a).toArray,I J P] X fun o w'=>∃s2,o=rT (aG (oL T s2).toArray)/\oI w' T s2/\Bl X w'):=fun e X a h'=>El X A a h' e r hr P T hR
 have R:leO A->leO T/\(∀x∈T.s.l,x<256)/\∀x∈T.w,x<18446744073709551616:=fun e=>by
  rcases hR with⟨k,rfl⟩|⟨_,rfl⟩
  .exact Dx h k.1 e r hr P.toNat (by have:=k.2;omega)
  .exact⟨⟨DQ,nZ _,nZ _⟩,(fun x hx=>by cases hx),fun x hx=>by cases hx⟩
 have HI:Hid (leO A->∀X,Bl w X->∀a,oI X A a->okA a->ce 7 #[aG (oL A a).toArray,I J P] X fun o w'=>∃i,o=rT (aG (oL T i).toArray)/\St X.heap.size w' (fun W=>oI W T i)/\MKO X.heap.size T.c T.s T.n T.u i w'/\Bl X w'):=fun e X Q a h' d7=>(Fc X (fun j v hv=>(Q.cell (p:=⟨0,0+j,none⟩) (by exact bs)).trans (db j v hv)) (nL bs Q.size) A a h' d7.1 (qt d7.2) e r hr P T hR).mono (by
  rintro o w' ⟨q1,rfl,a2,a3,a4⟩;obtain⟨⟨l1,l2,l3⟩,l4,l5⟩:=R e
  by_cases bb:okO A P
  .exact⟨q1,rfl,(a2 bb).st l4 l5,(a2 bb).mko l2 l3,a4⟩
  .obtain rfl:=a3 bb
   rcases hR with⟨k,_⟩|⟨_,rfl⟩
   .exact Qj k bb
   .exact⟨zOs,rfl,fun W _=>yh W,Bn _ _ a4.size,a4⟩)
 have HQ:Hid (leO A->∀X N s2,oI X T N->oI X T s2->ce 8 #[aG (oL T N).toArray,aG (oL T s2).toArray] X fun o w'=>o=rT (bO true)/\Bl X w'):=fun e X N s2 h1 U=>oj X T.c T.s T.n T.u T.w N s2 h1 U (R e).1.1 (R e).1.2.1 (R e).1.2.2;have dt:Hid (leO A->∀X N s2,oI X A N->oI X A s2->ce 8 #[aG (oL A N).toArray,aG (oL A s2).toArray] X fun o w'=>o=rT (bO true)/\Bl X w'):=fun e X N s2 h1 U=>oj X A.c A.s A.n A.u A.w N s2 h1 U e.1 e.2.1 e.2.2;have ds:Hid (leO A->∀X B bx a,oI X A a->cpE B bx A.w a X->bx<=X.heap.size->ce 9 #[aG (oL A a).toArray,I J 1] X fun o w1=>∃k:Nat,o=rT (I J (k:Int))/\(∀x,bx<=x->x<X.heap.size->w1.heap[x]?=X.heap[x]?)/\Below B X w1):=fun e X B bx a h1 ⟨_,_,_,_,U⟩ h3=>U.mark h3 (by have:=h1.d.len;have:=e.2.1;omega) e.2.2;have P0:blk (w.alloc (.cells (oL A u).toArray 42)) w.heap.size (oL A u) 42:=blk.new w _ 42;have HA:Hid (Bl w (w.alloc (.cells (oL A u).toArray 42))):=Zw;have HH:Hid (∀X,Bl w X->oI X A u):=fun X Q=>h.below Q;have bm:=hI P0;clear h hn hl hw P0 hR hr R db bs;go_enter func3,ntmps3;go_wp2_with(refine ZG 42 bm.o.load underlying42 (rI _ _ _ _ _) ?_);refine(HS.o _ HA.o).mono ?_;rintro o w1 ⟨z,rfl,b1,h1⟩;have bn:=hI (bm.o.below b1);have a7:=hI (HA.o.trans (b1.mono pQ));clear b1 bm HA HS;rcases h1 with rfl|⟨m',rfl,R⟩
 .go_wp2_with fail;go_ret;exact⟨rfl,a7.o⟩
 have G:=hI R;clear R;go_wp2_with(refine ZG 42 bn.o.load underlying42 (rI _ _ _ _ _) ?_);refine(HT.o G.o _ (HH.o _ a7.o)).mono ?_;rintro o w2 ⟨s2,rfl,S2,_,_,b2⟩;have bR:=hI S2.now;have bX:=hI (bn.o.below b2);have be:=hI (a7.o.trans (b2.mono a7.o.size));clear S2 b2 bn a7;go_wp2_with fail;refine(HE.o G.o w2 s2 bR.o).mono ?_;rintro o E ⟨sw,rfl,d1,b3⟩;have bY:=hI (bX.o.below b3);have a8:=hI (be.o.trans (b3.mono be.o.size));have bZ:=hI d1;clear d1 b3 bX be bR HE;have a1:Hid (blk (World.setCells (E.alloc (.cells Z35.toArray 58)) E.heap.size 0 (oL T sw)) E.heap.size (oL T sw) 58/\Bl E (World.setCells (E.alloc (.cells Z35.toArray 58)) E.heap.size 0 (oL T sw))):=lg Z35 _ _ rfl;have bD:Hid (blk (E.alloc (.cells Z35.toArray 58)) E.heap.size Z35 58):=blk.new E _ 58;go_wp2_with(first|(refine Zs 58 (oL T sw).toArray (bD.o.there 0 _ (nR _)) (cX _ _ _ _ _) (cC _ _ _ _ _) ?_;generalize d3:World.setCells (E.alloc _) E.heap.size 0 _=K;have O:Hid (ldS w A u T E.heap.size sw K):=(by rw[<- d3];exact⟨bY.o.below a1.o.2,a1.o.1,bZ.o.below a1.o.2,HH.o _ (a8.o.trans (a1.o.2.mono a8.o.size)),a8.o.trans (a1.o.2.mono a8.o.size)⟩);clear d3 a1 bD)|(refine ZG 42 O.o.p.load underlying42 (rI _ _ _ _ _) ?_));clear bY a8 bZ;generalize E.heap.size=D at*;refine(HT.o G.o _ O.o.h).mono ?_;rintro o C ⟨y,rfl,S5,cf,cc,b5⟩;have b6:=hI (qB (O.o.below b5) (qB S5.now cf));have dp:=hI cc;have bf:=hI b5;have bi:=hI (qB O.o.t O.o.h);have b8:=hI (qB O.o.q.lt (qB O.o.p.lt b5.size));clear S5 cf cc b5;have a0:Hid (blk (World.setCells (C.alloc (.cells Z35.toArray 58)) C.heap.size 0 (oL A y)) C.heap.size (oL A y) 58/\Bl C (World.setCells (C.alloc (.cells Z35.toArray 58)) C.heap.size 0 (oL A y))):=lg Z35 _ _ rfl;have bE:Hid (blk (C.alloc (.cells Z35.toArray 58)) C.heap.size Z35 58):=blk.new C _ 58;go_wp2_with(first|(refine Zs 58 (oL A y).toArray (bE.o.there 0 _ (nR _)) (cX _ _ _ _ _) (cC _ _ _ _ _) ?_;generalize d4:World.setCells (C.alloc _) C.heap.size 0 _=w6;have a6:Hid (ldX w A u T D sw K C.heap.size C.heap.size y w6):=(by rw[<- d4];exact⟨b6.o.1.below a0.o.2,a0.o.1,b6.o.2.1.below a0.o.2,b6.o.2.2.same (fun x _ hx=>a0.o.2.block x hx),⟨b8.o.1,b8.o.2.1,b8.o.2.2,nR _⟩,bf.o.trans (a0.o.2.mono bf.o.size)⟩);clear d4 a0 bE)|(refine ZG 58 a6.o.x.load underlying58 (dj _ _ _ _ _) ?_));clear b6 b8 O bf;generalize du:C.heap.size=bx at*;clear du;refine(HI.o G.o w6 a6.o.l.b y a6.o.xh dp.o).mono ?_;rintro o f ⟨i,rfl,S7,M7,b7⟩;have c5:=hI (a6.o.below b7);have a9:=hI (qB S7 (qB M7 (qB b7.size a6.o.x.lt)));clear S7 M7 b7 a6;have ap:Hid (blk (World.setCells (f.alloc (.cells Z35.toArray 58)) f.heap.size 0 (oL T i)) f.heap.size (oL T i) 58/\Bl f (World.setCells (f.alloc (.cells Z35.toArray 58)) f.heap.size 0 (oL T i))):=lg Z35 _ _ rfl;have bI:Hid (blk (f.alloc (.cells Z35.toArray 58)) f.heap.size Z35 58):=blk.new f _ 58
 go_wp2_with(first|(refine Zs 58 (oL T i).toArray (bI.o.there 0 _ (nR _)) (cX _ _ _ _ _) (cC _ _ _ _ _) ?_;generalize d5:World.setCells (f.alloc _) f.heap.size 0 _=w8;have L:Hid (ldX w A u T D sw K bx bx y w8/\blk w8 f.heap.size (oL T i) 58/\Bl f w8):=(by rw[<- d5];exact⟨c5.o.below ap.o.2,ap.o.1,ap.o.2⟩);clear d5 ap bI)|(refine ZG 58 L.o.2.1.load underlying58 (dj _ _ _ _ _) ?_)|(refine ZG 58 L.o.1.l.q.load underlying58 (dj _ _ _ _ _) ?_))
 have ak:Hid (ldG w A u T D sw K bx w6.heap.size f f.heap.size i w8):=⟨L.o.1.l,L.o.2.1,fun x h1 U=>L.o.2.2.block x U,⟨a9.o.2.2.2,a9.o.2.2.1,nR _⟩,⟨L.o.1.z.1,L.o.1.z.2.1,by have:=L.o.1.z;omega⟩,L.o.1.b4⟩
 have c6:=hI L.o.1;have aw:=hI (qB a9.o.1 a9.o.2.1);clear L a9 c5;generalize w6.heap.size=B6 at*;refine(HQ.o G.o w8 i sw (aw.o.1 w8 ak.o.k) ak.o.l.t).mono ?_;rintro o w9 ⟨rfl,b9⟩;have bo:=hI (qB (c6.o.below b9) (ak.o.below b9));clear b9 c6 ak;generalize d6:f.heap.size=bg at*;have e3:=hI d6;clear d6;go_wp2_with fail;refine Qu (S:=fun W=>ldX w A u T D sw K bx bx y W/\ldG w A u T D sw K bx B6 f bg i W) kr ?_;have hS:ldX w A u T D sw K bx bx y w9.drew/\ldG w A u T D sw K bx B6 f bg i w9.drew:=⟨bo.o.1.below (bW _ _).drew,bo.o.2.below (bW _ _).drew⟩
 clear bo;change wpAnyH Tp _ _ _ _ _ _ _ w9.drew;generalize w9.drew=e5 at*;refine wU 0 (aG (oL A y).toArray) rfl (Qw (by rfl) 58 _ rfl bx 0 rfl (oL A y) _ (fun W h=>h.1.x.load) underlying58 rfl (dj _ _ _ _ _)) hS ?_;simp only[Act.put,aA,aB,aC,aD,aE];refine wU 1 (aG (oL A u).toArray) rfl (Qw (by rfl) 42 _ rfl w.heap.size 0 rfl (oL A u) _ (fun W h=>h.1.l.p.load) underlying42 rfl (rI _ _ _ _ _)) hS ?_;simp only[aZ];refine Qq (rs:=[2]) kr pQ ?_;refine QT rfl (fun K2 ad=>?_) QU;go_simp;refine(HT.o G.o _ hS.1.l.h).mono ?_;rintro o dg ⟨dx,rfl,c7,_,_,bq⟩;have bL:=hI c7.now;have cz:ldX w A u T D sw K bx bx y dg/\ldG w A u T D sw K bx B6 f bg i dg:=⟨hS.1.below bq,hS.2.below bq⟩
 clear c7 bq;go_wp2_with fail;refine ad.out _ _ cz (fun af=>?_);clear hS ad K2 cz;have hS:=af;clear af;refine Qq (rs:=[3]) kr pQ ?_;refine QT rfl (fun K2 ad=>?_) QU;go_simp;refine(dt.o G.o _ y dx hS.1.xh bL.o).mono ?_;rintro o dk ⟨rfl,br⟩;have d0:ldX w A u T D sw K bx bx y dk/\ldG w A u T D sw K bx B6 f bg i dk:=⟨hS.1.below br,hS.2.below br⟩
 clear br bL;go_wp2_with fail;refine ad.out _ _ d0 (fun af=>?_);clear hS ad K2 d0;have hS:=af;clear af;refine wV 4 (bO false) ?_ hS ?_
 .intro W hSw;clear hS;go_simp
 simp only[aZ];refine Qs kr ?_ _;have a5:=hI hS;clear hS;go_wp2_with(refine ZG 58 a5.o.1.x.load underlying58 (dj _ _ _ _ _) ?_);have bw:=hI (ds.o G.o _ _ _ _ a5.o.1.xh a5.o.1.xw (Q5 a5.o.1.x.lt));refine(Calls.mono bw.o) ?_;rintro o dm ⟨k,rfl,q1,q2⟩;have Y:=hI (a5.o.2.xmark bi.o q2 q1);clear q1 q2 a5 bw;have dv:decide ((k:Int)<0)=false:=pQ
 go_wp2_with(first|(refine an (by first|rfl|(simp[Region.wanted,yielded];done)|(simp[Region.wanted,yielded];omega)) 58 _ rfl bg 0 rfl (oL T i) _ Y.o.g.load underlying58 rfl (dj _ _ _ _ _) ?_)|(refine an (by first|rfl|(simp[Region.wanted,yielded];done)|(simp[Region.wanted,yielded];omega)) 58 _ rfl D 0 rfl (oL T sw) _ Y.o.l.q.load underlying58 rfl (dj _ _ _ _ _) ?_))
 refine(HQ.o G.o dm i sw (aw.o.1 dm Y.o.k) Y.o.l.t).mono ?_;rintro o dn ⟨rfl,ci⟩;have M:=hI (Y.o.below ci);clear ci Y dv;go_wp2_with(refine ZG 58 M.o.g.load underlying58 (dj _ _ _ _ _) ?_);have d8:f.heap.size<=dn.heap.size:=by have:=M.o.g.lt;have:=M.o.z;omega
 refine(aw.o.2 dn M.o.k d8).mono ?_;rintro o e1 ⟨m,rfl,ck,d9,cu⟩;have bu:=hI (M.o.gmark bi.o ck);have c0:=hI (M.o.g.kept (d9 _ M.o.z.2.2 M.o.g.lt));have bt:=hI (cu e1 (bW _ _));clear ck d9 cu M aw d8 bi;go_wp2_with(refine ZG 58 c0.o.load underlying58 (dj _ _ _ _ _) ?_);refine(Calls.mono bt.o) ?_;rintro o e6 ⟨rfl,co⟩;have am:=hI (bu.o.below co);clear co bu c0 bt;have e4:¬(m:Int)<0:=om;go_wp2_with(refine ZG 42 am.o.p.load underlying42 (rI _ _ _ _ _) ?_);refine(HT.o G.o _ am.o.h).mono ?_;rintro o e2 ⟨e0,rfl,c9,_,ca,cp⟩;have ac:=hI (qB (am.o.below cp) (qB c9.now ca));clear c9 ca cp am;go_wp2_with fail;refine(HI.o G.o e2 ac.o.1.b e0 ac.o.2.1 ac.o.2.2).mono ?_;rintro o H ⟨sh,rfl,cb,_,cr⟩;have bk:=hI (qB (ac.o.1.below cr) cb.now);clear cb cr ac;have ao:Hid (blk (World.setCells (H.alloc (.cells Z35.toArray 58)) H.heap.size 0 (oL T sh)) H.heap.size (oL T sh) 58/\Bl H (World.setCells (H.alloc (.cells Z35.toArray 58)) H.heap.size 0 (oL T sh))):=lg Z35 _ _ rfl;have bA:Hid (blk (H.alloc (.cells Z35.toArray 58)) H.heap.size Z35 58):=blk.new H _ 58
 go_wp2_with(first|(refine Zs 58 (oL T sh).toArray (bA.o.there 0 _ (nR _)) (cX _ _ _ _ _) (cC _ _ _ _ _) ?_;generalize d2:World.setCells (H.alloc _) H.heap.size 0 _=bc;have Z:Hid (ldS w A u T D sw bc/\oI bc T sh/\blk bc H.heap.size (oL T sh) 58):=(by rw[<- d2];exact⟨bk.o.1.below ao.o.2,bk.o.2.below ao.o.2,ao.o.1⟩);clear d2 ao bA)|(refine ZG 58 Z.o.1.q.load underlying58 (dj _ _ _ _ _) ?_)|(refine ZG 58 Z.o.2.2.load underlying58 (dj _ _ _ _ _) ?_))
 refine(HQ.o G.o bc sh sw Z.o.2.1 Z.o.1.t).mono ?_;rintro o e7 ⟨rfl,cs⟩;have dr:=hI ((Z.o.1.below cs).b);clear cs Z bk;go_wp2_with fail;go_ret;exact⟨rfl,dr.o⟩
end Go.Proofs.YtbbffcolnddcdaaGreatDoor
