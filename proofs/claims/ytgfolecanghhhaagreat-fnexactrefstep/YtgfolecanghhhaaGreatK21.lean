import Derived.Test.YtgfolecanghhhaaGreatK20
import Derived.Test.YtgfolecanghhhaaGreatK09
import Derived.Test.YtgfolecanghhhaaGreatK17
namespace Go.Proofs.YtgfolecanghhhaaGreat
open Go.RowKit
set_option linter.all false
def dz (s:Sl):Prop:=(∃ g,s.a1=some ⟨g,0,none⟩)/\(∃ g,s.a2=some ⟨g,0,none⟩)
def dP.n2 {H:Ho} (h:dP H):H.bx.length<=8:=by
 have h1:=qO h.cf;have h2:=h.nb;omega
open Go.Proofs.Tryz
set_option maxRecDepth 20000
set_option maxHeartbeats 16000000
open Go.Value renaming int->I,slice->sL,bool->bO,pointer->pT,agg->aG
open Go.IntKind renaming i64->J
open Go.Ending renaming returned->rT
open Go.Proofs.Tryz renaming prog->Tp
def onW (b:R8):Prop:=b.x=2\/b.x=3
def bsy (bx:List R8) (r:Int):Prop:=(∃ (k:Nat) (h:k<bx.length),onW bx[k]/\(∀ j (hj:j<bx.length),j<k->¬ onW bx[j])/\r=(k:Int))\/((∀ k (h:k<bx.length),¬ onW bx[k])/\r = -1)
def Cc {bx:List R8} {r:Int} (h:bsy bx r):r<0↔∀ k (h:k<bx.length),¬ onW bx[k]:=by
 rcases h with⟨k,hk,h1,_,rfl⟩|⟨h1,rfl⟩
 .exact⟨fun e=>by omega,fun e=>Qy h1 (e k hk)⟩
 .exact⟨fun _=>h1,fun _=>by omega⟩
def ln (w:World) (H:Ho) (s:Sl) (h:aM w s.a2 s.n2 s.k2 H.bx) (hn:s.n2<=1000) :
  Calls Tp 49 #[aG (hoL H s).toArray] w fun o w'=>∃ r:Int,o = rT (I J r)/\bsy H.bx r/\Bl w w':=by
 have H0:Hid (obS w H s (w.alloc (.cells (hoL H s).toArray 41))):=⟨blk.new w _ 41,Zw⟩
 have hcp:=h.cap;obtain⟨c0,c1,c2,c3,fs,bx,ff,qu,lo,st⟩:=H;obtain⟨a1,n1,k1,a2,n2,k2,a3,n3,k3,a4,n4,k4⟩:=s;simp only[] at h hcp hn ⊢;have HL:Hid (n2=bx.length):=h.len;by_cases hl:bx=[]
 .subst hl;have hn0:n2=0:=HL.o;subst hn0;clear h;go_enter func49,ntmps49;go_wp2_with fail;go_loopw [3] (fun i wr=>i = I J 0/\obS w ⟨c0,c1,c2,c3,fs,[],ff,qu,lo,st⟩ ⟨a1,n1,k1,a2,0,k2,a3,n3,k3,a4,n4,k4⟩ wr) (fun _ _=>0);case atStart=>exact⟨rfl,H0.o⟩
  case round=>
   obtain⟨rfl,hS⟩:=hrel;have p5:=hS.p.cell 5 _ rfl;have HS:=hS.b;go_wp2;go_ret;exact⟨-1,rfl,qx ⟨fun k hk=>(by cases hk),rfl⟩,HS⟩
 obtain⟨g,off,rfl,hc⟩:=h.cells hl;have HC:Hid (∀ j (h:j<bx.length),∃ ao m c,at8 w g (off+j*8) bx[j] ao m c):=hc;clear hc h hl;go_enter func49,ntmps49;go_wp2_with fail;go_loopw [3] (fun i wr=>∃ k:Nat,k<=n2/\i = I J (k:Int)/\(∀ j (hj:j<bx.length),j<k->¬ onW bx[j])/\obS w ⟨c0,c1,c2,c3,fs,bx,ff,qu,lo,st⟩ ⟨a1,n1,k1,some ⟨g,off,none⟩,n2,k2,a3,n3,k3,a4,n4,k4⟩ wr) (fun i _=>n2-(intOf i).toNat);case atStart=>exact⟨0,nZ _,rfl,fun j _ h=>Qy h (nN _),H0.o⟩
 case round=>
  obtain⟨k,hk,rfl,hA,hS⟩:=hrel;have HA:Hid (∀ j (hj:j<bx.length),j<k->¬ onW bx[j]):=hA;have HS:Hid (obS w ⟨c0,c1,c2,c3,fs,bx,ff,qu,lo,st⟩ ⟨a1,n1,k1,some ⟨g,off,none⟩,n2,k2,a3,n3,k3,a4,n4,k4⟩ wr):=hS;have x5:=hS.p.cell 5 _ rfl;clear hA hS;by_cases hlt:k<n2
  .have hkl:k<bx.length:=by have:=HL.o;omega
   obtain⟨ao,m,c,hx⟩:=HC.o k hkl;have u0:=(hx.below HS.o.b).c0;clear hx;have HX:Hid (bx[k].x=bx[k].x):=rfl;have HON:Hid (onW bx[k]↔(bx[k].x=2\/bx[k].x=3)):=Iff.rfl;generalize bx[k].x=x at *;by_cases h2:x=2
   .subst h2;go_wp2_with fail;go_ret;exact⟨k,rfl,qr ⟨k,hkl,HON.o.2 pQ,HA.o,rfl⟩,HS.o.b⟩
   .have h2':(x == 2)=false:=by simpa using h2
    by_cases h3:x=3
    .subst h3;go_wp2_with fail;go_ret;exact⟨k,rfl,qr ⟨k,hkl,HON.o.2 pQ,HA.o,rfl⟩,HS.o.b⟩
    .have h3':(x == 3)=false:=by simpa using h3
     have HNO:Hid (¬ onW bx[k]):=fun e=>by rcases HON.o.1 e with e | e <;> contradiction
     clear h2 h3;go_wp2_with fail;go_roundw;case rel=>
      refine⟨k+1,om,by go_num,fun j hj hjk=>?_,HS.o⟩;by_cases e:j=k
      .subst e;exact HNO.o
      .exact HA.o j hj om
     case measure=>simp[intOf];omega
  .have hkn:n2=k:=om;subst hkn;go_wp2_with fail;go_ret;exact⟨-1,rfl,qx ⟨fun j hj=>HA.o j hj (by have:=HL.o;omega),rfl⟩,HS.o.b⟩
open Go.IntKind renaming i64->J,u32->Zk
def at8.rg {w:World} {g o:Nat} {b:R8} {ao:Option Addr} {m c:Nat} (h:at8 w g o b ao m c):w.rangeAt g o [I J b.x,I J b.y,I J b.z,bO b.e,I Zk (b.i:Int),bO b.r,I J b.d,sL ao m c]:=by
 intro j v hv;match j,hv with
 | 0,hv=>cases hv;exact h.c0
 | 1,hv=>cases hv;exact h.c1
 | 2,hv=>cases hv;exact h.c2
 | 3,hv=>cases hv;exact h.c3
 | 4,hv=>cases hv;exact h.c4
 | 5,hv=>cases hv;exact h.c5
 | 6,hv=>cases hv;exact h.c6
 | 7,hv=>cases hv;exact h.cs
 | j+8,hv=>simp at hv
def wrP (bx:List R8):Prop:=¬ ∀ k (h:k<bx.length),¬ onW bx[k]
def ml (w:World) (C:Co) (s:Sl) (h:aM w s.a2 s.n2 s.k2 C.ho.bx) (hn:s.n2<=1000) :
  Calls Tp 83 #[aG (coL C s).toArray] w fun o w'=>cK o (wrP C.ho.bx)/\Bl w w':=by
 have H0:Hid (ctS w w.heap.size C s (w.alloc (.cells (coL C s).toArray 43))):=ctS.new w C s;have hcp:=h.cap;have HL:Hid (s.n2=C.ho.bx.length):=h.len;have HH:Hid (aM w s.a2 s.n2 s.k2 C.ho.bx):=h;obtain⟨n2,e2⟩ : ∃ n2,s.n2=n2:=⟨_,rfl⟩
 obtain⟨a2,ea⟩ : ∃ a2,s.a2=a2:=⟨_,rfl⟩
 obtain⟨k2,ek⟩ : ∃ k2,s.k2=k2:=⟨_,rfl⟩
 obtain⟨bx,eb⟩ : ∃ bx,C.ho.bx=bx:=⟨_,rfl⟩
 have HY:Hid (∀ X,ctS w w.heap.size C s X->X.cell? ⟨w.heap.size,16,none⟩=some (sL a2 n2 k2)):=fun X hX=>by
  have:=hX.p.cell 16 (sL s.a2 s.n2 s.k2) rfl;rw[e2,ea,ek] at this;exact this
 rw[e2,ea,ek,eb] at HH;rw[e2,eb] at HL;rw[e2,ek] at hcp;rw[e2] at hn;rw[eb];have y16:=HY.o _ H0.o;clear h e2 ea ek eb;go_enter func83,ntmps83;generalize hW0:w.alloc (.cells (coL C s).toArray 43)=W0 at *;go_wp2_with fail;clear y16;go_loopw [9] (fun i wr=>∃ k:Nat,k<=n2/\i = I J (k:Int)/\(∀ j (hj:j<bx.length),j<k->¬ onW bx[j])/\Bl w wr) (fun i _=>n2-(intOf i).toNat);case atStart=>exact⟨0,nZ _,rfl,fun j hj h=>Qy h (nN _),H0.o.b⟩
 case round=>
  obtain⟨k,hk,rfl,hA,hb⟩:=hrel;have HB:Hid (Bl w wr):=hb;have HA:Hid (∀ j (hj:j<bx.length),j<k->¬ onW bx[j]):=hA;clear hb hA H0;by_cases hlt:k<n2
  .have hkl:k<bx.length:=by have:=HL.o;omega
   obtain⟨g,off,rfl,hc⟩:=HH.o.cells (by intro e;rw[e] at hkl;cases hkl);obtain⟨ao,m,c,hx⟩:=hc k hkl;have HR:Hid (wr.rangeAt g (off+k*8) [I J bx[k].x,I J bx[k].y,I J bx[k].z,bO bx[k].e,I Zk (bx[k].i:Int),bO bx[k].r,I J bx[k].d,sL ao m c]):=(hx.below HB.o).rg;have HON:Hid (∀ W,Calls Tp 138 #[bxV bx[k].x bx[k].y bx[k].z bx[k].e bx[k].i bx[k].r bx[k].d ao m c] W fun o w'=>o = rT (bO (bx[k].x == 2 || bx[k].x == 3))/\Bl W w'):=fun W=>gJ W bx[k] ao m c;have HW:Hid (onW bx[k]↔(bx[k].x == 2 || bx[k].x == 3)=true):=by unfold Hid onW;simp
   have HNX:Hid (¬ onW bx[k]->∀ j (hj:j<bx.length),j<k+1->¬ onW bx[j]):=fun hx j hj hjk=>by
    by_cases e:j=k
    .subst e;exact hx
    .exact HA.o j hj om
   have HYS:Hid (onW bx[k]->wrP bx):=fun h hall=>hall k hkl h;clear hc hx HA;generalize onW bx[k]=ON at *;generalize bx[k]=b at *;obtain⟨bX,bY,bZ,bE,bI,bR,bD,bl⟩:=b;simp only[] at *;have HZ:Hid (blk (wr.alloc (.cells ([I J 0,I J 0,I J 0,bO false,I Zk 0,bO false,I J 0,sL none 0 0]:List Value).toArray 116)) wr.heap.size ([I J 0,I J 0,I J 0,bO false,I Zk 0,bO false,I J 0,sL none 0 0]:List Value) 116/\Bl wr (wr.alloc (.cells ([I J 0,I J 0,I J 0,bO false,I Zk 0,bO false,I J 0,sL none 0 0]:List Value).toArray 116))):=⟨blk.new wr _ 116,Zw⟩
   go_wp2_with (first
    | (refine Zi 116 [I J bX,I J bY,I J bZ,bO bE,I Zk (bI:Int),bO bR,I J bD,sL ao m c] HR.o underlying116 fG ?_)
    | (refine Zs 116 #[I J bX,I J bY,I J bZ,bO bE,I Zk (bI:Int),bO bR,I J bD,sL ao m c] (HZ.o.1.there 0 8 pQ) fG (sT _ _ _ _ _ _ _ _ _ _) ?_;generalize hW6:World.setCells (wr.alloc _) wr.heap.size 0 _=w6;have HP6:Hid (blk w6 wr.heap.size [I J bX,I J bY,I J bZ,bO bE,I Zk (bI:Int),bO bR,I J bD,sL ao m c] 116/\Bl wr w6):=(by rw[<- hW6];exact⟨(by have:=blk.put [] ([I J 0,I J 0,I J 0,bO false,I Zk 0,bO false,I J 0,sL none 0 0]:List Value) [] [I J bX,I J bY,I J bZ,bO bE,I Zk (bI:Int),bO bR,I J bD,sL ao m c] (w:=wr.alloc (.cells ([I J 0,I J 0,I J 0,bO false,I Zk 0,bO false,I J 0,sL none 0 0]:List Value).toArray 116)) (b:=wr.heap.size) (T:=116) (by simpa using HZ.o.1) rfl;simpa using this),sW (nR _) 0 _ HZ.o.2⟩);clear hW6 HZ)
    | (refine Zi 116 [I J bX,I J bY,I J bZ,bO bE,I Zk (bI:Int),bO bR,I J bD,sL ao m c] HP6.o.1.load underlying116 fG ?_))
   refine (HON.o _).mono ?_;rintro o w7 ⟨rfl,hb7⟩;have HB7:Hid (Bl w w7):=HB.o.trans ((HP6.o.2.trans (hb7.mono HP6.o.2.size)).mono HB.o.size);clear hb7 HP6 HON HR HB;have HWo:=HW;generalize (bX == 2 || bX == 3)=q at *;cases q
   .have HN:Hid (∀ j (hj:j<bx.length),j<k+1->¬ onW bx[j]):=HNX.o (fun h=>by have:=HW.o.1 h;simp at this);go_wp2_with fail;go_roundw;case rel=>exact⟨k+1,om,by go_num,HN.o,HB7.o⟩
    case measure=>simp[intOf];omega
   .go_wp2_with fail;go_ret;exact⟨⟨true,rfl,by simp;exact HYS.o (HW.o.2 trivial)⟩,HB7.o⟩
  .have hkn:k=n2:=om;subst hkn;go_wp2_with fail;go_ret;exact⟨⟨false,rfl,by simp only[qM,false_iff];exact fun h=>h (fun j hj=>HA.o j hj (by have:=HL.o;omega))⟩,HB.o⟩
section
variable {bx:List R8} {i:Int} {k:Nat}
def pd (bx:List R8) (i:Int):List R8:=if h:0<=i/\i<(bx.length:Int) then (if (bx[i.toNat]'om).x=1/\(∀ b ∈ bx,¬ (b.x=2\/b.x=3)) then bx.set i.toNat { (bx[i.toNat]'om) with x:=2 } else bx) else bx
def eQ (H:Ho) (i:Int):Ho:={ H with bx:=pd H.bx i }
def GV (h:i<0\/(bx.length:Int)<=i):pd bx i=bx:=by unfold pd;rw[dif_neg om]
def I6 (hk:k<bx.length) (h:bx[k].x≠1):pd bx (k:Int)=bx:=by
 unfold pd;rw[dif_pos om,qa];rintro⟨h1,_⟩;simp only[Int.toNat_natCast] at h1;exact h h1
def Hn {r:Int} (h:bsy bx r) (hr:0<=r):pd bx i=bx:=by
 unfold pd;by_cases hi:0<=i/\i<(bx.length:Int)
 .rw[dif_pos hi,qa];rintro⟨_,h2⟩;have:=(Cc h).2 (fun k hk=>h2 _ (qn hk));omega
 .rw[dif_neg hi]
def Ir (hk:k<bx.length) (h:bx[k].x=1) {r:Int} (hb:bsy bx r) (hr:r<0):pd bx (k:Int)=bx.set k { bx[k] with x:=2 }:=by
 unfold pd;rw[dif_pos om,qc]
 .simp
 .refine⟨by simpa using h,fun b hbm=>?_⟩;obtain⟨j,hj,rfl⟩:=List.getElem_of_mem hbm;exact (Cc hb).1 hr j hj
def Is (bx:List R8) (i:Int):(pd bx i).length=bx.length:=by
 unfold pd;split
 .split
  .simp
  .rfl
 .rfl
def Lp (bx:List R8) (i:Int) (j:Nat) (h:j<(pd bx i).length) (h':j<bx.length):(pd bx i)[j].l=bx[j].l:=by
 unfold pd;split
 .split
  .simp only[List.getElem_set];split
   .rename_i e;subst e;rfl
   .rfl
  .rfl
 .rfl
end
def MX (w:World) (a:Option Addr) (n cap:Nat) (bs:List R8) (h:aM w a n cap bs) (hn:n<=1048576) :
  Calls Tp 199 #[sL a n cap,.func (.func 138) #[] #[]] w fun o w'=>∃ z:Int,o = rT (I J z)/\bsy bs z/\Bl w w':=by
 have hlen:=h.len;have hcp:=h.cap;by_cases hl:bs=[]
 .subst hl;have hn0:n=0:=hlen;subst hn0;clear hlen h;go_enter func199,ntmps199;go_wp2;go_loopw [8] (fun i wr=>i = I J 0/\wr=w) (fun _ _=>0);case atStart=>exact⟨rfl,rfl⟩
  case round=>
   obtain⟨rfl,rfl⟩:=hrel;go_wp2;go_ret;exact⟨-1,rfl,qx ⟨fun k hk=>(by cases hk),rfl⟩,bW _ _⟩
 .obtain⟨g,off,rfl,hc⟩:=h.cells hl;have HL:Hid (n=bs.length):=hlen;have HC:Hid (∀ j (h:j<bs.length),∃ ao m c,at8 w g (off+j*8) bs[j] ao m c):=hc;clear h hlen hc;go_enter func199,ntmps199;go_wp2;go_loopw [8] (fun i wr=>∃ k:Nat,k<=n/\i = I J (k:Int)/\(∀ j (hj:j<bs.length),j<k->¬ onW bs[j])/\Bl w wr) (fun i _=>n-(intOf i).toNat);case atStart=>exact⟨0,nZ _,rfl,fun j hj h=>Qy h (nN _),bW _ _⟩
  case round=>
   obtain⟨k,hk,rfl,hdone,hb⟩:=hrel;by_cases hlt:k<n
   .have hkl:k<bs.length:=by have:=HL.o;omega
    obtain⟨ao,m,c,hx⟩:=HC.o k hkl;have hx':=hx.below hb;have HRG:=hx'.range;have HW:Hid (Calls Tp 138 #[bxV bs[k].x bs[k].y bs[k].z bs[k].e bs[k].i bs[k].r bs[k].d ao m c] wr fun o w'=>o = rT (bO (bs[k].x == 2 || bs[k].x == 3))/\Bl wr w'):=gJ wr bs[k] ao m c;have HB:Hid (Bl w wr):=hb;have HD:Hid (∀ j (hj:j<bs.length),j<k->¬ onW bs[j]):=hdone;clear hx hx' hb hdone;have HON:Hid ((bs[k].x == 2 || bs[k].x == 3)=true↔onW bs[k]):=by show _↔_;unfold onW;simp
    generalize (bs[k].x == 2 || bs[k].x == 3)=q at *;have HRG:Hid (wr.rangeAt g (off+k*8) [I J bs[k].x,I J bs[k].y,I J bs[k].z,bO bs[k].e,I .u32 (bs[k].i:Int),bO bs[k].r,I J bs[k].d,sL ao m c]):=HRG;cases q
    .have HN:Hid (∀ j (hj:j<bs.length),j<k+1->¬ onW bs[j]):=fun j hj hjk=>by
      by_cases e:j=k
      .subst e;exact fun h=>Qy (HON.o.2 h) pQ
      .exact HD.o j hj om
     clear HON;generalize bs[k].x=x0 at *;generalize bs[k].y=y0 at *;generalize bs[k].z=z0 at *;generalize bs[k].e=e0 at *;generalize bs[k].i=i0 at *;generalize bs[k].r=r0 at *;generalize bs[k].d=d0 at *;go_wp2_with (first
      | (refine ZG 116 HRG.o underlying116 fG ?_)
      | (go_at_call 138;refine HW.o.mono ?_;rintro o w5 ⟨rfl,hb5⟩))
     go_roundw;case rel=>exact⟨k+1,om,by go_num,HN.o,HB.o.trans (hb5.mono HB.o.size)⟩
     case measure=>simp[intOf];omega
    .have HN:Hid (bsy bs (k:Int)):=qr ⟨k,hkl,HON.o.1 rfl,HD.o,rfl⟩
     clear HON;generalize bs[k].x=x0 at *;generalize bs[k].y=y0 at *;generalize bs[k].z=z0 at *;generalize bs[k].e=e0 at *;generalize bs[k].i=i0 at *;generalize bs[k].r=r0 at *;generalize bs[k].d=d0 at *;go_wp2_with (first
      | (refine ZG 116 HRG.o underlying116 fG ?_)
      | (go_at_call 138;refine HW.o.mono ?_;rintro o w5 ⟨rfl,hb5⟩))
     go_ret;exact⟨k,rfl,HN.o,HB.o.trans (hb5.mono HB.o.size)⟩
   .have hkn:n=k:=om;subst hkn;go_wp2;go_ret;exact⟨-1,rfl,qx ⟨fun j hj=>hdone j hj (by have:=HL.o;omega),rfl⟩,hb⟩
open Option renaming none->nn,some->sQ
def sU (w:World) (P:Nat) (a:Option Addr) (n cap:Nat) (bx:List R8) (y5:w.cell? ⟨P,5,nn⟩=sQ (sL a n cap)) (h:aM w a n cap bx) (hn:n<=1048576) :
  Calls Tp 153 #[pT (sQ ⟨P,0,nn⟩)] w fun o w'=>∃ z:Int,o = rT (I J z)/\bsy bx z/\Bl w w':=by
 have HI:Hid (Calls Tp 199 #[sL a n cap,.func (.func 138) #[] #[]] w fun o w'=>∃ z:Int,o = rT (I J z)/\bsy bx z/\Bl w w'):=MX w a n cap bx h hn;clear h;go_enter func153,ntmps153;go_wp2_with (go_at_call 199;refine HI.o.mono ?_;rintro o w5 ⟨z,rfl,hz,hb5⟩;have HZ:Hid (bsy bx z/\Bl w w5):=⟨hz,hb5⟩;clear hz hb5);go_ret;exact⟨z,rfl,HZ.o.1,HZ.o.2⟩
def MC (W:World) (gb:Nat) (bx:List R8) (i:Int) (w':World):Prop:=∃ W1,Bl W W1/\((w'=W1/\pd bx i=bx)\/∃ (k:Nat) (hk:k<bx.length),w'=W1.setCell ⟨gb,k*8,nn⟩ (I J 2)/\pd bx i=bx.set k { bx[k] with x:=2 }/\bx[k].x=1)
def KO (W:World) (P gb n kb:Nat) (bx:List R8) (i:Int) (y5:W.cell? ⟨P,5,nn⟩=sQ (sL (sQ ⟨gb,0,nn⟩) n kb)) (h:aM W (sQ ⟨gb,0,nn⟩) n kb bx) (hrf:az W gb (n*8)) (hn:n<=8) :
  Calls Tp 221 #[pT (sQ ⟨P,0,nn⟩),I J i] W fun o w'=>o = rT (.tuple #[])/\MC W gb bx i w':=by
 have hln:=h.len;have hcp:=h.cap;by_cases hi:0<=i/\i<=(n:Int)-1
 .obtain⟨k,rfl⟩ : ∃ k:Nat,i=(k:Int):=⟨i.toNat,om⟩
  have hk:k<bx.length:=om;have hkn:k<n:=om;have HIR:Hid (∀ X,Calls Tp 79 #[I J (k:Int),I J 0,I J ((n:Int)-1)] X fun o w'=>o = rT (bO true)/\w'=X):=fun X=>(dh X _ _ _).mono (by rintro o w' ⟨rfl,rfl⟩;exact⟨by simp;omega,rfl⟩);obtain⟨ao,m,c,q⟩ : ∃ ao m c,at8 W gb (k*8) bx[k] ao m c:=by
   obtain⟨g',off,e,hc⟩:=h.cells (by intro e;rw[e] at hk;cases hk);cases e;have:=hc k hk;rw[qi] at this;exact this
  have y0:=q.c0;have HOW:Hid (Calls Tp 153 #[pT (sQ ⟨P,0,nn⟩)] W fun o w'=>∃ z:Int,o = rT (I J z)/\bsy bx z/\Bl W w'):=sU W P _ n kb bx y5 h om;have HRF:Hid (az W gb (n*8)):=hrf;have HP:Hid (P<W.heap.size/\gb<W.heap.size):=⟨QC W _ y5,QC W _ y0⟩
  clear h hrf q hi hln;by_cases hx:bx[k].x=1
  .rw[hx] at y0;have HX:Hid (bx[k].x=1):=hx;clear hx;go_enter func221,ntmps221;go_wp2_with (go_at_call 79;refine (HIR.o _).mono ?_;rintro o w1 ⟨rfl,rfl⟩);refine HOW.o.mono ?_;rintro o w5 ⟨z,rfl,hz,hb5⟩;have y5':=(hb5.cell (p:=⟨P,5,nn⟩) (by exact HP.o.1)).trans y5;have y0':=(hb5.cell (p:=⟨gb,k*8,nn⟩) (by exact HP.o.2)).trans y0;have f0:w5.frozen? ⟨gb,k*8,nn⟩=false:=by
    rw[World.frozen?_of_block (hb5.block gb HP.o.2)];exact (HRF.o (k*8) om).2
   have HB5:Hid (Bl w1 w5):=hb5;have HZ:Hid (bsy bx z):=hz;clear hz hb5 y5 y0;by_cases hz0:z<0
   .have HT:Hid (pd bx (k:Int)=bx.set k { bx[k] with x:=2 }):=Ir hk HX.o HZ.o hz0;go_wp2_with fail;refine bN ?_
    exact⟨rfl,w5,HB5.o,qx ⟨k,hk,rfl,HT.o,HX.o⟩⟩
   .have HT:Hid (pd bx (k:Int)=bx):=Hn HZ.o om;go_wp2_with fail;refine bN ?_
    exact⟨rfl,w5,HB5.o,qr ⟨rfl,HT.o⟩⟩
  .have hx':(bx[k].x == 1)=false:=by simpa using hx
   have HT:Hid (pd bx (k:Int)=bx):=I6 hk hx;generalize bx[k].x=x at *;go_enter func221,ntmps221;go_wp2_with (go_at_call 79;refine (HIR.o _).mono ?_;rintro o w1 ⟨rfl,rfl⟩);refine bN ?_
   exact⟨rfl,w1,bW _ _,qr ⟨rfl,HT.o⟩⟩
 .have HIR:Hid (∀ X,Calls Tp 79 #[I J i,I J 0,I J ((n:Int)-1)] X fun o w'=>o = rT (bO false)/\w'=X):=fun X=>(dh X _ _ _).mono (by rintro o w' ⟨rfl,rfl⟩;exact⟨by simp;omega,rfl⟩);have HT:Hid (pd bx i=bx):=GV om;clear h hrf hi hcp hln;go_enter func221,ntmps221;go_wp2_with (go_at_call 79;refine (HIR.o _).mono ?_;rintro o w1 ⟨rfl,rfl⟩);refine bN ?_
  exact⟨rfl,w1,bW _ _,qr ⟨rfl,HT.o⟩⟩
def ah {P:Prop} (h:P):Hid P:=h
def pZ (w:World) (C:Co) (s:Sl) (k:Nat) (hk:k<C.ho.bx.length) (h:aK w C.ho s) (hn:s.n2<=8) (hz:∀ z,bsy C.ho.bx z->z=(k:Int)) :
  Calls Tp 27 #[aG (coL C s).toArray] w fun o w'=>∃ ao m c,o = rT (frV C.ho.bx[k].e C.ho.bx[k].i C.ho.bx[k].r C.ho.bx[k].d ao m c)/\iB w' ao m c C.ho.bx[k].l/\Bl w w':=by
 have hln:=h.bx.len;have hcp:=h.bx.cap;obtain⟨gb,off,ea,hc⟩:=h.bx.cells (by intro e;rw[e] at hk;cases hk);obtain⟨ao,m,c,q⟩:=hc k hk;have H0:Hid (blk ((w.alloc (.cells (coL C s).toArray 43)).alloc (.cells [bO false,I Zk 0,bO false,I J 0,sL nn 0 0].toArray 67)) w.heap.size (coL C s) 43/\blk ((w.alloc (.cells (coL C s).toArray 43)).alloc (.cells [bO false,I Zk 0,bO false,I J 0,sL nn 0 0].toArray 67)) (w.heap.size+1) [bO false,I Zk 0,bO false,I J 0,sL nn 0 0] 67/\Bl w ((w.alloc (.cells (coL C s).toArray 43)).alloc (.cells [bO false,I Zk 0,bO false,I J 0,sL nn 0 0].toArray 67))):=by
  refine⟨(blk.new w _ 43).alloc _,?_,Zw.alloc pQ _⟩;have:=blk.new (w.alloc (.cells (coL C s).toArray 43)) [bO false,I Zk 0,bO false,I J 0,sL nn 0 0] 67;simpa using this
 have HBZ:Hid (∀ V,Bl w V->Calls Tp 49 #[aG (hoL C.ho s).toArray] V fun o w'=>o = rT (I J (k:Int))/\Bl V w'):=fun V hV=>(ln V C.ho s (h.below hV).bx om).mono fun o w' ⟨z,h1,h2,h3⟩=>⟨by rw[h1,hz z h2],h3⟩
 have HQ:Hid (∀ V,Bl w V->at8 V gb (off+k*8) C.ho.bx[k] ao m c):=fun V hV=>q.below hV;have hkn:k<s.n2:=om;have HEA:=ah ea;clear h hz hln q hc ea;generalize C.ho.bx[k]=b at *;obtain⟨v0,hv0⟩ : ∃ v0,v0=(w.alloc (.cells (coL C s).toArray 43)).alloc (.cells [bO false,I Zk 0,bO false,I J 0,sL nn 0 0].toArray 67):=⟨_,rfl⟩
 rw[<- hv0] at H0;go_enter func27,ntmps27;go_upto_region 1 with fail
 rw[<- hv0];clear hv0;refine QJ (S:=fun X=>blk X w.heap.size (coL C s) 43/\Bl w X) kr ?_;have hS:blk (World.drew v0) w.heap.size (coL C s) 43/\Bl w (World.drew v0):=⟨H0.o.1.below (bW _ _).drew,H0.o.2.2.drew⟩
 have HR:Hid (blk (World.drew v0) (w.heap.size+1) [bO false,I Zk 0,bO false,I J 0,sL nn 0 0] 67):=H0.o.2.1.below (bW _ _).drew;clear H0;change wpAnyH Tp _ _ _ _ _ _ _ (World.drew v0);generalize World.drew v0=v1 at *;refine wV 0 (pT (sQ ⟨w.heap.size,11,nn⟩)) ?_ hS ?_
 .intro W hSw;clear hS;go_simp
 simp only[Act.put,aA,aB,aC,aD,aE];refine wV 1 (pT (sQ ⟨w.heap.size,16,nn⟩)) ?_ hS ?_
 .intro W hSw;clear hS;go_simp
 simp only[aZ];refine wV 2 (sL (sQ ⟨gb,off,nn⟩) s.n2 s.k2) ?_ hS ?_
 .intro W hSw;clear hS;have y:=hSw.1.cell 16 (sL s.a2 s.n2 s.k2) rfl;rw[HEA.o] at y;go_simp
 simp only[aZ];refine wV 3 (pT (sQ ⟨w.heap.size,11,nn⟩)) ?_ hS ?_
 .intro W hSw;clear hS;go_simp
 simp only[aZ];refine wU 4 (aG (hoL C.ho s).toArray) rfl (QL (by rfl) 41 _ rfl w.heap.size 11 rfl (hoL C.ho s) _ (fun X h=>h.1.hostAt) underlying41 rfl (px C.ho s)) hS ?_;simp only[aZ];refine QF (rs:=[5]) kr pQ ?_;refine Q8 rfl (fun K2 hK2=>?_) Q9;go_simp;refine (HBZ.o v1 hS.2).mono ?_;rintro o w2 ⟨rfl,hb2⟩;have hS2:blk w2 w.heap.size (coL C s) 43/\Bl w w2:=⟨hS.1.below hb2,hS.2.trans (hb2.mono hS.2.size)⟩
 have HR2:=ah (HR.o.below hb2);clear hb2 HR;go_wp2_with fail;refine hK2.out _ _ hS2 (fun hS3=>?_);clear hK2 K2 hS2 hS;have hS:=hS3;clear hS3;refine wV 6 (pT (sQ ⟨gb,off+k*8,nn⟩)) ?_ hS ?_
 .intro W hSw;clear hS;go_simp
 simp only[aZ];refine wV 7 (pT (sQ ⟨gb,off+k*8+3,nn⟩)) ?_ hS ?_
 .intro W hSw;clear hS;go_simp
 simp only[aZ];refine wV 8 (aG #[bO b.e,I Zk (b.i:Int),bO b.r,I J b.d,sL ao m c]) ?_ hS ?_
 .intro W hSw;clear hS;have hq:=HQ.o W hSw.2;have c3:=hq.c3;have c4:=hq.c4;have c5:=hq.c5;have c6:=hq.c6;have c7:=hq.cs;clear hq;go_simp
 simp only[aZ];refine QF (rs:=[9]) kr pQ ?_;refine Q8 rfl (fun K2 hK2=>?_) Q9;rw[qc (by rfl)];refine QT 67 _ _ rfl (w.heap.size+1) 0 #[bO b.e,I Zk (b.i:Int),bO b.r,I J b.d,sL ao m c] rfl rfl (HR2.o.there 0 5 pQ) jc (QK (by simp[Value.oneCell'])) ?_;have HF:Hid (blk (w2.setCells (w.heap.size+1) 0 [bO b.e,I Zk (b.i:Int),bO b.r,I J b.d,sL ao m c]) (w.heap.size+1) [bO b.e,I Zk (b.i:Int),bO b.r,I J b.d,sL ao m c] 67):=by
  have:=blk.put [] [bO false,I Zk 0,bO false,I J 0,sL nn 0 0] [] [bO b.e,I Zk (b.i:Int),bO b.r,I J b.d,sL ao m c] (w:=w2) (b:=w.heap.size+1) (T:=67) (by simpa using HR2.o) rfl;have e:blk (w2.setCells (w.heap.size+1) 0 [bO b.e,I Zk (b.i:Int),bO b.r,I J b.d,sL ao m c]) (w.heap.size+1) [bO b.e,I Zk (b.i:Int),bO b.r,I J b.d,sL ao m c] 67:=by simpa using this
  exact e
 have hS5:blk (w2.setCells (w.heap.size+1) 0 [bO b.e,I Zk (b.i:Int),bO b.r,I J b.d,sL ao m c]) w.heap.size (coL C s) 43/\Bl w (w2.setCells (w.heap.size+1) 0 [bO b.e,I Zk (b.i:Int),bO b.r,I J b.d,sL ao m c]):=⟨hS.1.other om _ _,sW om 0 _ hS.2⟩
 refine hK2.out _ _ hS5 (fun hS3=>?_);have HB:=ah hS3.2;clear hK2 K2 hS5 hS hS3;refine QH kr ?_ _;simp only[Act.put];go_wp2_with fail;refine bC results27 (QI (P:=Tp) _ (w.heap.size+1) 0 67 _ _ HF.o.load underlying67 rfl jc) ?_;exact⟨ao,m,c,rfl,(HQ.o _ HB.o).dat,HB.o⟩
def pn (w:World) (H:Ho) (e:Ending) (w':World):Prop:=∃ s:Wh,e = rT (aG (hoL H s.sl).toArray)/\St w.heap.size w' (fun W=>aK W H s.sl)/\whS w.heap.size w'.heap.size w' s/\whD s/\whE s/\Bl w w'
end Go.Proofs.YtgfolecanghhhaaGreat
