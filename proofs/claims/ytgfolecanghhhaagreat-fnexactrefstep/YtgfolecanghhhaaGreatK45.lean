import Derived.Test.YtgfolecanghhhaaGreatK44
import Derived.Test.YtgfolecanghhhaaGreatK41
namespace Go.Proofs.YtgfolecanghhhaaGreat
open Option renaming none->nn,some->sQ
open Go.RowKit
set_option linter.all false
open Go.Value renaming int->I,slice->sL,bool->bO,pointer->pT,agg->aG
open Go.IntKind renaming i64->J
open Go.Ending renaming returned->rT
open Go.Proofs.Tryz renaming prog->Tp
section
variable {w0 : World} {M : Nat} {G : Lg} {nm : Nat} {C : Co} {W : World} {hd : ByteArray} {vc : Nat}
def xD (C:Co) (hd:ByteArray):Nat:=if h:hd.size<(dq C).size then (dq C)[hd.size].toNat-48 else 0
def LY (h:fH C hd vc) (hp:C.p=1) (ht:C.tx=true):wrP C.ho.bx/\(∃ h:hd.size<(dq C).size,(dq C)[hd.size].toNat=xD C hd+48)/\(xD C hd=0\/xD C hd=1)/\(dq C).size<=1000:=by
 have hw:=h.1.s.1 ⟨hp,ht⟩;have hs:=iA C h.1 hw;have hk:=h.2;unfold hkP at hk;rw[qc hp,qc ht] at hk;have h2:=hs.2.2 _ hk.1;have hk1:=hk.1;have e:xD C hd=(dq C)[hd.size].toNat-48:=by unfold xD;rw[dif_pos hk1]
 exact⟨hw,⟨hk.1,om⟩,om,hs.2.1⟩
def rsA (C:Co) (hd:ByteArray) (vf:Nat) (vd vo:Bool) (r:Int) (b:Nat):Co:=
 if C.p=1 then
  (if C.tx=true then Ii C vf vd ((((hd++da b).size:Nat):Int) == ((dq C).size:Int)) (xD C hd) b
   else hrC C (if (((vf:Int) == 12) && vo)=true then 0 else 1) ((bH (hd++da b)).code:Int) (fR (hd++da b)) (vB (fR (hd++da b)).e (fR (hd++da b)).i (fR (hd++da b)).r (fR (hd++da b)).d (fR (hd++da b)).l.length) b)
 else aP C b r
def rsH (T:Co) (hd:ByteArray) (b:Nat):ByteArray:=if (T.p == 1)=true then hd++da b else ⟨#[]⟩
def Jc (lvl vf:Int) (vd la:Bool) (c:Int) (F:R5) (fa:Option Addr) (fm fc:Nat):∀ v ∈ sgV lvl vf vd la c F fa fm fc,v.oneCell'=true:=by simp[sgV,Value.oneCell']
def mx.lvs {f1 f3:Nat} (h:mx w0 M G f1 f3 nm C W) {q:Nat} (hq:W.heap.size<=q):lv M G q=false:=by
 have h1:=h.m.lt;obtain⟨_,_,hc⟩:=h;obtain⟨b1,b2,b3,b4,b5,b6,b7⟩:=hc.h.lts;exact KV om ⟨om,om,om,om,om⟩
def MD (hok:fH C hd vc) (vf:Nat) (vd vo:Bool) (r:Int) (hr:wv C.ho.bx r) (hj:∀ W,Calls Tp 92 #[.string hd] W fun o w'=>o = rT (aG #[I J (vc:Int),I J (vf:Int),bO vd,bO vo])/\Bl W w') (hsz:hd.size<=1048576) (h:mx w0 M G 0 0 nm C W) (R:Nat) (hR:blk W R [pT (sQ ⟨M,0,nn⟩),.string hd] 95) (hn:R≠M) (hU:lhU G R) (b:Nat) (hb:b=0\/b=1) :
  Calls Tp 284 #[pT (sQ ⟨R,0,nn⟩),I J (b:Int)] W fun o w'=>o = rT (.tuple #[])/\rsP w0 W G M 0 nm (af C (rsA C hd vf vd vo r b)) R (rsH (af C (rsA C hd vf vd vo r b)) hd b) w':=by
 have hc2:=hok.1.h.dl.2.2.2.2;have hte:=hok.1.m.te;have hre:=hok.1.m.re;have hwf:=hok.1.h.bx.wf;have y0:=hR.cell 0 (pT (sQ ⟨M,0,nn⟩)) rfl;have y1:=hR.cell 1 (.string hd) rfl;have x0:=h.m.cell 0 (pT (sQ ⟨G.P,0,nn⟩)) rfl;have y3:=h.m.cell 3 (I J C.p) rfl;have y9:=h.m.cell 9 (bO C.tx) rfl;by_cases hp:C.p=1
 .cases ht:C.tx
  ·
   have eA:rsA C hd vf vd vo r b=hrC C (if (((vf:Int) == 12) && vo)=true then 0 else 1) ((bH (hd++da b)).code:Int) (fR (hd++da b)) (vB (fR (hd++da b)).e (fR (hd++da b)).i (fR (hd++da b)).r (fR (hd++da b)).d (fR (hd++da b)).l.length) b:=by
    unfold rsA;rw[qc hp,qa (by rw[ht];decide)]
   generalize hmo:hd++da b=more at *;generalize hdv:(if (((vf:Int) == 12) && vo)=true then (0:Int) else 1)=dv at *;refine Hr h R hd more b hb hmo.symm hsz hR hn hU _ true (by rw[hp];rfl) (fun S X=>S 0 = I J dv/\S 4 = I J ((bH more).code:Int)/\∃ fa fc,[S 5,S 6,S 7,S 8,S 9]=frL (fR more) fa (fR more).l.length fc/\iB (bln X (lv M G)) fa (fR more).l.length fc (fR more).l) (fun _ X hX=>?_) (fun S X Y hK hY=>?_) _ rfl _ (by unfold rsH;rw[hmo])
   .have hl:∀ Y,Bl X Y->Calls Tp 287 #[pT (sQ ⟨R,0,nn⟩)] Y fun o w'=>o = rT (I J dv)/\Bl Y w':=fun Y hY=>by
     have hb2:=hX.trans (hY.mono hX.size);have c:=fun (p:Addr) (v:Value) (h:W.cell? p=sQ v)=>(hb2.cell (QC W _ h)).trans h;rw[hp] at y3;rw[ht] at y9;have:=LP Y M R hd vc vf vd vo _ hj rfl (c _ _ y0) (c _ _ y1) (c _ _ y3) (c _ _ y9);rw[hdv] at this;exact this
    have c:=fun (p:Addr) (v:Value) (h:W.cell? p=sQ v)=>(hX.cell (QC W _ h)).trans h;refine (Ko X M R G.P hd more vc vf vd vo dv ((bH more).code:Int) (fR more) (hR.below hX) hj hl (by rw[<- ht];exact c _ _ y9) (c _ _ x0) (fun Y=>Kx more Y)).mono ?_;rintro o w' ⟨fa,fc,rfl,⟨q1,q2⟩,q3⟩;refine⟨fun k=>(sgV dv vf vd false ((bH more).code:Int) (fR more) fa (fR more).l.length fc).getD k (bO false),rfl,⟨⟨rfl,rfl,fa,fc,rfl,q1.at_ fun hl g hg=>?_⟩,fun v hv=>Jc _ _ _ _ _ _ _ _ _ v hv⟩,q3⟩;exact GF (h.lvs (nT hX.size (q2 hl g hg)))
   .obtain⟨k0,k4,fa,fc,k5,k6⟩:=hK rfl;rw[eA];refine Gv hY b _ 141 (by simp[hp]) fun Z hZ=>Hy hZ b _ (fun e=>Qy e (by rw[ht];decide)) fun _ Z hZ=>?_;exact Kt hZ dv _ b (fR more) fa _ fc _ rfl k0 k4 k5 k6 (by have:=(GX more).2.1;omega) hc2 hte hre hwf
  ·
   obtain⟨hw,⟨hlt,hx⟩,hx2,hz⟩:=LY hok hp ht;have eA:rsA C hd vf vd vo r b=Ii C vf vd ((((hd++da b).size:Nat):Int) == ((dq C).size:Int)) (xD C hd) b:=by
    unfold rsA;rw[qc hp,qc ht]
   generalize hmo:hd++da b=more at *;obtain⟨la,hla⟩ : ∃ la,((more.size:Int) == ((dq C).size:Int))=la:=⟨_,rfl⟩
   rw[hla] at eA;have hk:=kC hw
   have hsd:∀ Y,Bl W Y->Calls Tp 89 #[pT (sQ ⟨G.P,0,nn⟩)] Y fun o w'=>∃ ao m c,o = rT (frV C.ho.bx[onI C.ho.bx].e C.ho.bx[onI C.ho.bx].i C.ho.bx[onI C.ho.bx].r C.ho.bx[onI C.ho.bx].d ao m c)/\iB w' ao m c C.ho.bx[onI C.ho.bx].l/\Bl Y w':=fun Y hY=>by
    obtain⟨hs,D,hc⟩:=h.below hY;exact jZ Y G.P G.gb G.n2 G.kb C.ho.bx _ hk (hc.h.p.cell 5 _ rfl) (hc.h.x.is hc.h.bd.nk) hc.h.bd.m2 (fun z hz=>(oU hz hw).1)
   refine Hr h R hd more b hb hmo.symm hsz hR hn hU _ true (by rw[hp];rfl) (fun S X=>S 0 = I J (xD C hd:Int)/\S 1 = I J (vf:Int)/\S 2 = bO vd/\S 3 = bO la) (fun _ X hX=>?_) (fun S X Y hK hY=>?_) _ rfl _ (by unfold rsH;rw[hmo])
   .have hl:∀ Y,Bl X Y->Calls Tp 287 #[pT (sQ ⟨R,0,nn⟩)] Y fun o w'=>o = rT (I J (xD C hd:Int))/\Bl Y w':=fun Y hY=>by
     have hb2:=hX.trans (hY.mono hX.size);have c:=fun (p:Addr) (v:Value) (h:W.cell? p=sQ v)=>(hb2.cell (QC W _ h)).trans h;rw[hp] at y3;rw[ht] at y9
     have:=LO Y M R G.P hd _ _ _ _ _ (dq C) (jq C hk).symm (xD C hd+48) om (fun w=>by
      rw[run_index_string w 9 (dq C) .i64 (hd.size:Int) kr,dif_pos om]
      simp only[Int.toNat_natCast,hx]) (c _ _ y0) (c _ _ y1) (c _ _ x0) (c _ _ y3) (c _ _ y9) (fun Z hZ=>hsd Z (hb2.trans (hZ.mono hb2.size)))
     rwa [show (((xD C hd+48:Nat):Int)-48)=(xD C hd:Int) by omega] at this
    have c:=fun (p:Addr) (v:Value) (h:W.cell? p=sQ v)=>(hX.cell (QC W _ h)).trans h;refine (Kn X M R G.P hd more (dq C) vc vf vd vo la (xD C hd) (hR.below hX) hj hl (by rw[<- ht];exact c _ _ y9) (c _ _ x0) (fun Y hY=>?_) hla).mono ?_
    .refine (hsd Y (hX.trans (hY.mono hX.size))).mono ?_;rintro o w1 ⟨ao,m,cc,rfl,hby,hb1⟩;refine⟨_,rfl,hb1,?_⟩;have:=tT w1 C.ho.bx[onI C.ho.bx].e C.ho.bx[onI C.ho.bx].i C.ho.bx[onI C.ho.bx].r C.ho.bx[onI C.ho.bx].d ao m cc C.ho.bx[onI C.ho.bx].l hby;rw[hby.len,<- jq C hk] at this;rw[hby.len];exact this
    .rintro o w' ⟨rfl,q3⟩;exact⟨fun k=>(sgV (xD C hd) vf vd la 0 zF5 nn 0 0).getD k (bO false),rfl,⟨⟨rfl,rfl,rfl,rfl⟩,fun v hv=>Jc _ _ _ _ _ _ _ _ _ v hv⟩,q3⟩
   .obtain⟨k0,k1,k2,k3⟩:=hK rfl;rw[eA];refine Gv hY b _ 141 (by simp[hp]) fun Z hZ=>Hy hZ b _ (fun _ Z hZ=>?_) (fun e=>Qy e (by rw[ht];decide));exact Kg hZ (xD C hd) vf b vd la k0 k1 k2 k3 hc2 hte hre hwf
 .have eA:rsA C hd vf vd vo r b=aP C b r:=by unfold rsA;rw[qa hp]
  refine Hr h R hd (hd++da b) b hb rfl hsz hR hn hU _ false (by simpa using hp) (fun _ _=>True) (fun e=>by cases e) (fun S X Y hK hY=>?_) _ rfl _ rfl;rw[eA];exact (Kc hY b r hok.1 hp hr).mono fun o w' ⟨a,c⟩=>⟨a,0,c⟩
end
section
variable {C : Co} {hd : ByteArray} {vc : Nat}
def IZ (C A:Co):(af C A).p=if A.te=256/\A.p≠7 then 7 else A.p:=by
 unfold af;split
 .unfold tS;split <;> rfl
 .unfold tS;split <;> rfl
def MV.t1 (hok:MV C) (hp:C.p=1):C.te≠256:=fun e=>by have:=hok.m.of.2 e;omega
def Ib (hok:MV C) (hp:C.p=1):af C C=C:=by
 unfold af;rw[qa (fun x=>hok.t1 hp x.1)];unfold tS;rw[qc rfl]
def Lb (C:Co) (k:Int):((af C (aS C k)).p == 1)=false:=by
 rw[IZ];split
 .rfl
 .rfl
def JK (hok:MV C) (hp:C.p=1) (k:Int) (F:R5) (hk:k=1\/k=3\/k=4):((af C (aw C k F)).p == 1)=false:=by
 rw[IZ];split
 .rfl
 .rcases hk with rfl | rfl | rfl <;> rfl
def Ld (hok:MV C) (hp:C.p=1) (k:Int) (F:R5) (hk:k=2\/k=5):((af C (aw C k F)).p == 1)=true:=by
 have ht:=hok.t1 hp;have e1:(aw C k F).p=1/\(aw C k F).te=C.te:=by
  rcases hk with rfl|rfl
  .exact⟨hp,rfl⟩
  .exact⟨hp,rfl⟩
 rw[IZ,qa (fun x=>ht (by rw[<- e1.2];exact x.1)),e1.1];rfl
def Me (h:C.p≠1) (b r:Int) (hb:b=0\/b=1) (hh:(aP C b r).p=1):b=0:=by
 rcases hb with rfl|rfl
 .rfl
 .exfalso;have a1:(idC C 1).p≠1:=by unfold idC;rw[qa (by decide)];exact h
  have a2:(flC C 1).p≠1:=by
   unfold flC;split
   .have e:wfO C 1=C:=by unfold wfO;rw[qa (fun x=>Qy x.2 (by decide))]
    rw[e];unfold wfX;split
    .split
     .show (3:Int)≠1;decide
     .exact h
    .exact h
   .rw[qc rfl];show (2:Int)≠1;decide
  have a3:(waC C 1).p≠1:=by unfold waC;rw[qc rfl];show (4:Int)≠1;decide
  have a4:(dlC C 1).p≠1:=by
   unfold dlC;rw[qa (by decide)];split
   .show (5:Int)≠1;decide
   .exact h
  have a5:(gpC C 1 r).p≠1:=by
   unfold gpC;rw[qa (by decide)];split
   .unfold lgC;split
    .show (6:Int)≠1;decide
    .show (0:Int)≠1;decide
   .exact h
  have a6:(suC C 1).p≠1:=by
   unfold suC;rw[qa (by decide)];split
   .show (0:Int)≠1;decide
   .exact h
  have a7:(ofC C 1).p≠1:=by
   unfold ofC;split
   .rw[qa (by decide)];split
    .split
     .show (0:Int)≠1;decide
     .exact h
    .exact h
   .exact h
  revert hh
  unfold aP;split
  .exact a1
  split
  .exact a2
  split
  .exact a3
  split
  .exact a4
  split
  .exact a5
  split
  .exact a6
  split
  .exact a7
  .exact h
def Mx {A:Co} (h:(af C A).p=1):A.p=1:=by
 rw[IZ] at h;split at h
 .omega
 .exact h
def LM (hd0:hd.size=0) (h:C.p≠1) (r:Int) (b:Nat) (hb:b=0\/b=1):(if ((af C (aP C b r)).p == 1)=true then (⟨#[48]⟩ : ByteArray) else hd)=rsH (af C (aP C b r)) hd b:=by
 have he:hd=⟨#[]⟩:=by
  obtain⟨a⟩:=hd;have:a.size=0:=hd0;rw[Array.size_eq_zero_iff] at this;rw[this]
 unfold rsH;split
 .rename_i c;have hp:(af C (aP C b r)).p=1:=by simpa using c
  have h0:=Me h b r om (Mx hp);have h1:b=0:=om;subst h1;rw[he];rfl
 .exact he
def LL (hok:MV C) (hp:C.p=1) (vf:Nat) (vd la:Bool) (x b:Nat) (hx:x=0\/x=1) (hb:b=0\/b=1) (hack:vf=12->la=false):uS C (hd++da b) la vf vd x b=(af C (Ii C vf vd la x b),rsH (af C (Ii C vf vd la x b)) hd b):=by
 have h1:=fun k=>Lb C k;have h2:=Ld hok hp 5 zF5 (qx rfl);have h3:=JK hok hp 1 zF5 (qr rfl);have h4:=Ib hok hp;have h5:(C.p == 1)=true:=by rw[hp];rfl
 unfold uS Ii rsH;by_cases h12:vf=12
 .have hl:=hack h12;subst h12 hl;rcases hx with rfl | rfl <;> rcases hb with rfl | rfl <;> simp[h1,h4,h5]
 .have h12':¬ (vf:Int)=12:=om;have h12b:((vf:Int) == 12)=false:=by simpa using h12'
  rw[h12b];generalize hq:(decide (2<=(vf:Int)) && decide ((vf:Int)<=6))=am;rcases hx with rfl | rfl <;> rcases hb with rfl | rfl <;> cases am <;> cases vd <;> cases la <;> simp[h1,h2,h3,h4,h5,h12']
def LN (hok:MV C) (hp:C.p=1) (vf:Nat) (vo:Bool) (c:Int) (F:R5) (vb:Bool) (b:Nat) (hb:b=0\/b=1) (hv:c=1->vb=true):hrP C (hd++da b) ((((vf:Int) == 12) && vo) && ((b:Int) == 1)) c F=(af C (hrC C (if (((vf:Int) == 12) && vo)=true then 0 else 1) c F vb b),rsH (af C (hrC C (if (((vf:Int) == 12) && vo)=true then 0 else 1) c F vb b)) hd b):=by
 have h1:=fun k=>Lb C k;have h2:=Ld hok hp 2 F (qr rfl);have h3:=JK hok hp 3 zF5 (qx (qr rfl));have h6:=JK hok hp 4 zF5 (qx (qx rfl));have h4:=Ib hok hp;have h5:(C.p == 1)=true:=by rw[hp];rfl
 unfold hrP hrC rsH;generalize (((vf:Int) == 12) && vo)=q;have hv':(c == 1)=true->vb=true:=fun e=>hv (by simpa using e);generalize (c == 1)=k1 at *;generalize (c == 2)=k2 at *;generalize (c == 6)=k6 at *;generalize (c == 3)=k3 at *;generalize (c == 4)=k4 at *;generalize (c == 5)=k5 at *;rcases hb with rfl | rfl <;> cases q <;> cases k1 <;> cases k2 <;> cases k6 <;> cases k3 <;> cases k4 <;> cases k5 <;> simp_all
end
section
variable {C : Co} {hd : ByteArray} {vc : Nat}
def Ie (s:ByteArray) (hs:s.size<=maxLen) (X:World):Calls Tp 68 #[.string s] X fun o w'=>∃ fa fc,o = rT (.tuple #[frV (fR s).e (fR s).i (fR s).r (fR s).d fa (fR s).l.length fc,I J ((bH s).code:Int)])/\(((bH s).code:Int)=1->∃ g,fa=some ⟨g,0,none⟩/\X.heap.size<=g/\g<w'.heap.size/\iB w' fa (fR s).l.length fc (fR s).l)/\Bl X w':=by
 refine (Hp s X hs).mono ?_;rintro o w' ⟨ao,cap,rfl,ho,hb,hne⟩;refine⟨ao,cap,rfl,fun hc=>?_,hb⟩;have hn:=hne om;obtain⟨g,k,e,h1,h2,h3⟩:=eI ho (fun e=>by injection e with e1;exact hn e1) (GX s).1;cases e;exact⟨g,rfl,h1,h2,h3 w' (fun _ _ _=>rfl)⟩
def IA (b:Nat) (hb:b=0\/b=1):(da b).size=1:=by rcases hb with rfl | rfl <;> rfl
def Ke (hok:fH C hd vc) (vf:Nat) (vd vo:Bool) (r:Int) (hr:wv C.ho.bx r) (hsz:hd.size<=1048576) (hn:C.ho.le 1048576) (b:Nat) (hb:b=0\/b=1) (hack:C.p=1->C.tx=true->vf=12->(hd++da b).size≠(dq C).size) (κ:Nat->Nat) (s:Sl) (W:World) (img:ByteArray) (h:hG κ C.ho s W) (hi:C.p=1/\C.tx=true->img=dq C) :
  Calls Tp 14 #[aG (rfL C s hd).toArray,.string img,aG #[I J (vc:Int),I J (vf:Int),bO vd,bO vo],I J (b:Int)] W (rA W κ (af C (rsA C hd vf vd vo r b)) (rsH (af C (rsA C hd vf vd vo r b)) hd b)):=by
 refine KX h hd img vc vf vd vo b _ _ (C.p == 1) rfl (fun e=>?_) (fun e ht V hV=>?_) (fun e ht V hV=>?_)
 .have hp:C.p≠1:=by simpa using e
  have eA:rsA C hd vf vd vo r b=aP C b r:=by unfold rsA;rw[qa hp]
  have h0:hd.size=0:=by have:=hok.2;unfold hkP at this;rwa [qa hp] at this
  rw[eA];exact⟨fun V hV=>JG V C s b r om hok.1 hp hn hr hV,LM h0 hp r b hb⟩
 .have hp:C.p=1:=by simpa using e
  obtain⟨hw,hx,hx2,hz⟩:=LY hok hp ht;have eA:rsA C hd vf vd vo r b=Ii C vf vd ((((hd++da b).size:Nat):Int) == ((dq C).size:Int)) (xD C hd) b:=by
   unfold rsA;rw[qc hp,qc ht]
  obtain rfl:=hi ⟨hp,ht⟩;have el:((((hd++da b).size:Nat):Int) == ((dq C).size:Int))=decide ((hd++da b).size=(dq C).size):=by rw[qk];simp only[beq_iff_eq,qP];omega
  have:=KY hV hd (dq C) vc vf vd vo (xD C hd) b hb hx hx2 om hok.1 hp hn;rw[LL hok.1 hp vf vd _ (xD C hd) b hx2 hb (fun e=>qo (hack hp ht e)),<- el,<- eA] at this;exact this
 .have hp:C.p=1:=by simpa using e
  have eA:rsA C hd vf vd vo r b=hrC C (if (((vf:Int) == 12) && vo)=true then 0 else 1) ((bH (hd++da b)).code:Int) (fR (hd++da b)) (vB (fR (hd++da b)).e (fR (hd++da b)).i (fR (hd++da b)).r (fR (hd++da b)).d (fR (hd++da b)).l.length) b:=by
   unfold rsA;rw[qc hp,qa (by rw[ht];decide)]
  have hs:(hd++da b).size<=maxLen:=by
   have:=IA b hb;rw[ByteArray.size_append,this];show _<=maxLen;unfold maxLen;omega
  have:=KZ hV hd vc vf vd vo b hb hsz hok.1 hp hn ((bH (hd++da b)).code:Int) (fR (hd++da b)) (GX _).2.1 (fun X=>Ie _ hs X);rw[LN hok.1 hp vf vo _ _ (vB (fR (hd++da b)).e (fR (hd++da b)).i (fR (hd++da b)).r (fR (hd++da b)).d (fR (hd++da b)).l.length) b hb (fun e=>(GX _).2.2 (qr om)),<- eA] at this;exact this
def L6 (hok:fH C hd vc) (vf:Nat) (vd vo:Bool) (r:Int) (hn:C.ho.le 1048576) (b:Nat):(af C (rsA C hd vf vd vo r b)).ho.le 1048576:=by
 have h1:=fun k=>Mt k hok.1 hn;have h2:=fun k=>Le (t:=k) (F:=zF5) hok.1 hn (nZ _);have h3:=fun k s=>Le (t:=k) (F:=fR s) hok.1 hn (by have:=(GX s).2.1;omega);unfold rsA;split
 .rename_i hp;have h4:(af C C).ho.le 1048576:=by rw[Ib hok.1 hp];exact hn
  split
  .unfold Ii;split
   .split
    .exact h1 6
    .exact h2 5
   split
   .exact h4
   split
   .exact h1 1
   split
   .exact h1 5
   split
   .exact h2 1
   .exact h4
  .generalize hd++da b=more;generalize (if (((vf:Int) == 12) && vo)=true then (0:Int) else 1)=dv;unfold hrC;split
   .exact h1 1
   split
   .split
    .exact h3 2 more
    .exact h1 3
   split
   .exact h2 3
   split
   .exact h2 4
   split
   .exact h1 2
   split
   .exact h1 3
   split
   .exact h1 4
   .exact h4
 .exact Mg b r hok.1 hn
end
def LD {C:Co} {hd:ByteArray} {vc vf:Nat} {vd vo:Bool} (hok:fH C hd vc) (hj:sjV (swZ hd).1 (swZ hd).2.1 (swZ hd).2.2 = aG #[I J (vc:Int),I J (vf:Int),bO vd,bO vo]) (hs:∀ j (h:j<C.ho.bx.length),∀ x ∈ C.ho.bx[j].l,x<256) (b:Nat) (hb:b=0\/b=1) (hp:C.p=1) (ht:C.tx=true) (h12:vf=12):(hd++da b).size≠(dq C).size:=by
 intro hz;have hw:=hok.1.s.1 ⟨hp,ht⟩;have hk:=kC hw;have h2:=hok.2;unfold hkP at h2;rw[qc hp,qc ht,jq C hk] at h2;rw[jq C hk,ByteArray.size_append,IA b hb] at hz;have h1:=hok.1.h.bx.1 (onI C.ho.bx) hk;have hx:C.ho.bx[onI C.ho.bx].x≠0:=by
  have:=List.findIdx_getElem (xs:=C.ho.bx) (p:=fun b:R8=>b.x == 2 || b.x == 3) (w:=hk);intro e;have h2:(C.ho.bx[onI C.ho.bx].x == 2 || C.ho.bx[onI C.ho.bx].x == 3)=true:=this;rw[e] at h2;simp at h2
 unfold cZ at h1;rw[qa hx] at h1;exact JF _ _ _ _ _ h1.2.2.2 (hs _ hk) hd h2 hz vc vf vd vo hj h12
end Go.Proofs.YtgfolecanghhhaaGreat
