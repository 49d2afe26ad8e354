import Derived.Test.YtgfolecanghhhaaGreatK15
import Derived.Test.YtgfolecanghhhaaGreatK19
namespace Go.Proofs.YtgfolecanghhhaaGreat
open Go.Proofs.Tryz
open Option renaming none->nn,some->sQ
set_option maxRecDepth 20000
open Go.RowKit
set_option linter.all false
set_option maxHeartbeats 16000000
open Go.Value renaming int->I,slice->sL,bool->bO,pointer->pT,agg->aG
open Go.IntKind renaming i64->J
open Go.Ending renaming returned->rT
open Go.Proofs.Tryz renaming prog->Tp
def pg (b:R8):ByteArray:=GA b.e b.i b.r b.d b.l.length
def rS (a b:R8):Bool:=if pg a=pg b then decide (a.z<b.z) else Op.bytesLess (pg a).toList (pg b).toList
def at8.frame {w:World} {g o:Nat} {b:R8} {ao:Option Addr} {m c:Nat} (h:at8 w g o b ao m c):w.rangeAt g (o+3) [bO b.e,I .u32 (b.i:Int),bO b.r,I J b.d,sL ao m c]:=by
 intro j v hv;match j,hv with
 | 0,hv=>cases hv;exact h.c3
 | 1,hv=>cases hv;exact h.c4
 | 2,hv=>cases hv;exact h.c5
 | 3,hv=>cases hv;exact h.c6
 | 4,hv=>cases hv;exact h.cs
def IN (w:World) (H:Ho) (s:Sl) (h:aM w s.a2 s.n2 s.k2 H.bx) (hn:s.n2<=8) (i j:Nat) (hi:i<H.bx.length) (hj:j<H.bx.length) :
  Calls Tp 168 #[hoV H s,I J i,I J j] w fun o w'=>o = rT (bO (rS H.bx[i] H.bx[j]))/\Bl w w':=by
 have hln:=h.len;have hcp:=h.cap;have H0:Hid (obS w H s (w.alloc (.cells (hoL H s).toArray 41))):=⟨blk.new w _ 41,Zw⟩
 obtain⟨c0,c1,c2,c3,fs,bx,ff,qu,lo,st⟩:=H;obtain⟨a1,n1,k1,a2,n2,k2,a3,n3,k3,a4,n4,k4⟩:=s;simp only[] at h hln hcp hn hi hj ⊢;obtain⟨g,off,rfl,hc⟩:=h.cells (by intro e;subst e;cases hi);obtain⟨ao,m,c,hx⟩:=hc i hi;obtain⟨ao',m',c',hx'⟩:=hc j hj;have hin:i<n2:=om;have hjn:j<n2:=om;clear hc h hln;have e1:=hx.dat.len;have e2:=hx'.dat.len;obtain⟨b,hb⟩ : ∃ b,bx[i]=b:=⟨_,rfl⟩
 obtain⟨b',hb'⟩ : ∃ b,bx[j]=b:=⟨_,rfl⟩
 rw[hb] at hx e1;rw[hb'] at hx' e2;rw[hb,hb'];have HBF:Hid (rS b b'=if GA b.e b.i b.r b.d m=GA b'.e b'.i b'.r b'.d m' then decide (b.z<b'.z) else Op.bytesLess (GA b.e b.i b.r b.d m).toList (GA b'.e b'.i b'.r b'.d m').toList):=by
  show rS b b'=_;unfold rS pg;rw[e1,e2]
 clear hb hb' e1 e2 hi hj;have HX:Hid (∀ W,obS w ⟨c0,c1,c2,c3,fs,bx,ff,qu,lo,st⟩ ⟨a1,n1,k1,sQ ⟨g,off,nn⟩,n2,k2,a3,n3,k3,a4,n4,k4⟩ W->at8 W g (off+i*8) b ao m c/\at8 W g (off+j*8) b' ao' m' c'):=fun W hW=>⟨hx.below hW.b,hx'.below hW.b⟩
 clear hx hx';obtain⟨x,y,z,e,id,r,d,l⟩:=b;obtain⟨x',y',z',e',id',r',d',l'⟩:=b';simp only[] at HBF HX ⊢;have p5:=H0.o.p.cell 5 _ rfl;obtain⟨A,hA⟩ : ∃ A,GA e id r d m=A:=⟨_,rfl⟩
 obtain⟨B,hB⟩ : ∃ B,GA e' id' r' d' m'=B:=⟨_,rfl⟩
 rw[hA,hB] at HBF;have HA1:Hid (∀ W,obS w ⟨c0,c1,c2,c3,fs,bx,ff,qu,lo,st⟩ ⟨a1,n1,k1,sQ ⟨g,off,nn⟩,n2,k2,a3,n3,k3,a4,n4,k4⟩ W->Calls Tp 205 #[frV e id r d ao m c] W fun o w'=>o = rT (.string A)/\Bl W w'):=fun W hW=>hA ▸ Hb W e id r d ao m c l (HX.o _ hW).1.dat;have HA2:Hid (∀ W,obS w ⟨c0,c1,c2,c3,fs,bx,ff,qu,lo,st⟩ ⟨a1,n1,k1,sQ ⟨g,off,nn⟩,n2,k2,a3,n3,k3,a4,n4,k4⟩ W->Calls Tp 205 #[frV e' id' r' d' ao' m' c'] W fun o w'=>o = rT (.string B)/\Bl W w'):=fun W hW=>hB ▸ Hb W e' id' r' d' ao' m' c' l' (HX.o _ hW).2.dat;clear hA hB;by_cases hAB:A=B
 .have HBF2:Hid (rS ⟨x,y,z,e,id,r,d,l⟩ ⟨x',y',z',e',id',r',d',l'⟩=decide (z<z')):=by have:=HBF.o;rw[qc hAB] at this;exact this
  clear HBF;subst hAB;go_enter func168,ntmps168
  go_wp2_with (first
   | (refine ZG 67 (HX.o _ H0.o).1.frame underlying67 jc ?_)
   | (go_at_call 205;refine (HA1.o _ H0.o).mono ?_;rintro o w1 ⟨rfl,hb1⟩;have H1:Hid (obS w ⟨c0,c1,c2,c3,fs,bx,ff,qu,lo,st⟩ ⟨a1,n1,k1,sQ ⟨g,off,nn⟩,n2,k2,a3,n3,k3,a4,n4,k4⟩ w1):=H0.o.below hb1;have q5:=H1.o.p.cell 5 _ rfl;clear HA1 p5 hb1)
   | (refine ZG 67 (HX.o _ H1.o).2.frame underlying67 jc ?_)
   | (go_at_call 205;refine (HA2.o _ H1.o).mono ?_;rintro o w2 ⟨rfl,hb2⟩;have H2:Hid (obS w ⟨c0,c1,c2,c3,fs,bx,ff,qu,lo,st⟩ ⟨a1,n1,k1,sQ ⟨g,off,nn⟩,n2,k2,a3,n3,k3,a4,n4,k4⟩ w2):=H1.o.below hb2;have r5:=H2.o.p.cell 5 _ rfl;have r2:=(HX.o _ H2.o).1.c2;have s2:=(HX.o _ H2.o).2.c2;clear HA2 q5 hb2))
  refine QJ (S:=(fun W=>W.cell? ⟨w.heap.size,5,nn⟩=sQ (sL (sQ ⟨g,off,nn⟩) n2 k2)/\W.cell? ⟨g,off+i*8+2,nn⟩=sQ (I J z)/\W.cell? ⟨g,off+j*8+2,nn⟩=sQ (I J z')/\Bl w W)) kr ?_;have hS:(fun W:World=>W.cell? ⟨w.heap.size,5,nn⟩=sQ (sL (sQ ⟨g,off,nn⟩) n2 k2)/\W.cell? ⟨g,off+i*8+2,nn⟩=sQ (I J z)/\W.cell? ⟨g,off+j*8+2,nn⟩=sQ (I J z')/\Bl w W) w2.drew:=⟨(Q6 _ _).trans r5,(Q6 _ _).trans r2,(Q6 _ _).trans s2,H2.o.b.drew⟩
  simp only[] at hS;refine tk 0 ?_;refine tk 1 ?_;refine tk 2 ?_;refine tk 3 ?_;refine tk 4 ?_;refine tk 5 ?_;refine tk 6 ?_;refine tk 7 ?_;refine tk 8 ?_;refine tk 9 ?_;refine tk 10 ?_;refine tk 11 ?_;refine tk 12 ?_;refine tk 13 ?_;refine QH kr ?_ _;have HBJ:Hid (Bl w w2.drew):=hS.2.2.2;clear hS;go_wp2;go_ret;exact⟨aj HBF2.o.symm,HBJ.o⟩
 .have HBF2:Hid (rS ⟨x,y,z,e,id,r,d,l⟩ ⟨x',y',z',e',id',r',d',l'⟩=Op.bytesLess A.toList B.toList):=by have:=HBF.o;rw[qa hAB] at this;exact this
  clear HBF;have hne:(A.toList == B.toList)=false:=by
   rw[beq_eq_false_iff_ne,ByteArray.toList_eq,ByteArray.toList_eq];exact fun h=>hAB (ByteArray.ext (Array.toList_inj.1 h))
  go_enter func168,ntmps168
  go_wp2_with (first
   | (refine ZG 67 (HX.o _ H0.o).1.frame underlying67 jc ?_)
   | (go_at_call 205;refine (HA1.o _ H0.o).mono ?_;rintro o w1 ⟨rfl,hb1⟩;have H1:Hid (obS w ⟨c0,c1,c2,c3,fs,bx,ff,qu,lo,st⟩ ⟨a1,n1,k1,sQ ⟨g,off,nn⟩,n2,k2,a3,n3,k3,a4,n4,k4⟩ w1):=H0.o.below hb1;have q5:=H1.o.p.cell 5 _ rfl;clear HA1 p5 hb1)
   | (refine ZG 67 (HX.o _ H1.o).2.frame underlying67 jc ?_)
   | (go_at_call 205;refine (HA2.o _ H1.o).mono ?_;rintro o w2 ⟨rfl,hb2⟩;have H2:Hid (obS w ⟨c0,c1,c2,c3,fs,bx,ff,qu,lo,st⟩ ⟨a1,n1,k1,sQ ⟨g,off,nn⟩,n2,k2,a3,n3,k3,a4,n4,k4⟩ w2):=H1.o.below hb2;clear HA2 q5 hb2))
  go_ret;exact⟨aj HBF2.o.symm,H2.o.b⟩
section
variable {bx:List R8} {k i:Nat} {a b:R8} {r:Int}
def Gr (x y:List UInt8):Op.bytesLess x y=decide (x<y):=by
 induction x generalizing y with
 | nil=>cases y <;> simp[Op.bytesLess]
 | cons a x ih=>
  cases y with
  | nil=>simp[Op.bytesLess]
  | cons b y=>
   rw[Op.bytesLess,ih];by_cases e:a=b <;> simp[List.cons_lt_cons_iff,e]
def LQ (x y:List UInt8):(Lib.compareBytes x y=0↔x=y)/\(Lib.compareBytes x y<0↔Op.bytesLess x y=true):=by
 induction x generalizing y with
 | nil=>cases y <;> simp[Lib.compareBytes,Op.bytesLess]
 | cons a x ih=>
  cases y with
  | nil=>simp[Lib.compareBytes,Op.bytesLess]
  | cons b y=>
   have h1:=ih y;rw[Lib.compareBytes,Op.bytesLess];by_cases hab:a<b
   .have hne:a≠b:=fun h=>by subst h;exact Qy hab (UInt8.lt_irrefl a)
    simp[hab,hne]
   .by_cases hba:b<a
    .have hne:a≠b:=fun h=>by subst h;exact Qy hba (UInt8.lt_irrefl a)
     simp[hab,hba,hne]
    .have he:a=b:=UInt8.le_antisymm (UInt8.not_lt.1 hba) (UInt8.not_lt.1 hab);subst he;simp[hab,h1.1,h1.2]
def MQ (x y:Int):(Lib.compareInt x y<0↔x<y):=by
 unfold Lib.compareInt;split
 .simp_all
 .split <;> simp_all
def JQ (h:rS a b=true) (h':rS b a=true):False:=by
 unfold rS at h h';by_cases e:pg a=pg b
 .rw[qc e] at h;rw[qc e.symm] at h';simp at h h';omega
 .rw[qa e,Gr] at h;rw[qa (fun x=>e x.symm),Gr] at h';exact Qy (qO h') (List.lt_asymm (qO h))
def Jt {a b:ByteArray} (h:a.toList=b.toList):a=b:=by
 rw[ByteArray.toList_eq,ByteArray.toList_eq] at h;exact ByteArray.ext (Array.toList_inj.1 h)
def JO {c:R8} (h:rS a b=true) (h':rS b c=true):rS a c=true:=by
 unfold rS at h h' ⊢;by_cases e:pg a=pg b
 .rw[qc e] at h;by_cases e':pg b=pg c
  .rw[qc e'] at h';rw[qc (e.trans e')];simp at h h' ⊢;omega
  .rw[qa e'] at h';rw[e,qa e'];exact h'
 .rw[qa e,Gr] at h;by_cases e':pg b=pg c
  .rw[<- e',qa e,Gr];exact h
  .rw[qa e',Gr] at h';have h3:=List.lt_trans (qO h) (qO h');have hne:pg a≠pg c:=fun x=>by rw[x] at h3;exact Qy h3 (List.lt_irrefl _)
   rw[qa hne,Gr];exact qD h3
def JP (hz:a.z≠b.z) (h:rS a b=false):rS b a=true:=by
 unfold rS at h ⊢;by_cases e:pg a=pg b
 .rw[qc e] at h;rw[qc e.symm];simp at h ⊢;omega
 .rw[qa e,Gr] at h;rw[qa (fun x=>e x.symm),Gr];have h1:=of_decide_eq_false h;by_cases h2:(pg b).toList<(pg a).toList
  .exact qD h2
  .exact Qy (Jt (List.le_antisymm (List.not_lt.1 h2) (List.not_lt.1 h1))) e
def Gg (bx:List R8) (i:Nat):Prop:=∃ hi:i<bx.length,bx[i].x=1/\∀ j (hj:j<bx.length),j≠i->bx[j].x=1->rS bx[i] bx[j]=true
def wv (bx:List R8) (r:Int):Prop:=(r = -1/\∀ i,¬ Gg bx i)\/∃ i:Nat,r=i/\Gg bx i
def JJ {j:Nat} (h:Gg bx i) (h':Gg bx j):i=j:=by
 obtain⟨hi,h1,h2⟩:=h;obtain⟨hj,h3,h4⟩:=h';by_cases e:i=j
 .exact e
 .exact Qy (JQ (h2 j hj (fun x=>e x.symm) h3) (h4 i hi e h1)) id
def IB {r':Int} (h:wv bx r) (h':wv bx r'):r=r':=by
 rcases h with⟨rfl,h⟩|⟨i,rfl,h⟩
 .rcases h' with⟨rfl,h'⟩|⟨i,rfl,h'⟩
  .rfl
  .exact Qy h' (h i)
 .rcases h' with⟨rfl,h'⟩|⟨j,rfl,h'⟩
  .exact Qy h (h' i)
  .rw[JJ h h']
def sP (bx:List R8) (k:Nat) (r:Int):Prop:=(r = -1/\∀ j (hj:j<bx.length),j<k->bx[j].x≠1)\/∃ i:Nat,r=i/\i<k/\∃ hi:i<bx.length,bx[i].x=1/\∀ j (hj:j<bx.length),j<k->j≠i->bx[j].x=1->rS bx[i] bx[j]=true
def KA (h:sP bx k r) (hk:bx.length<=k):wv bx r:=by
 rcases h with⟨rfl,h⟩|⟨i,rfl,hik,hi,h1,h2⟩
 .exact qr ⟨rfl,fun i hb=>by obtain⟨hi,h1,_⟩:=hb;exact h i hi om h1⟩
 .exact qx ⟨i,rfl,hi,h1,fun j hj hne hw=>h2 j hj om hne hw⟩
def JN (h:sP bx k r) (hk:k<bx.length) (hx:bx[k].x≠1):sP bx (k+1) r:=by
 rcases h with⟨rfl,h⟩|⟨i,rfl,hik,hi,h1,h2⟩
 .refine qr ⟨rfl,fun j hj hjk=>?_⟩;by_cases e:j=k
  .subst e;exact hx
  .exact h j hj om
 .refine qx ⟨i,rfl,om,hi,h1,fun j hj hjk hne hw=>?_⟩;by_cases e:j=k
  .subst e;exact Qy hw hx
  .exact h2 j hj om hne hw
def Jl (h:sP bx k (-1)) (hk:k<bx.length) (hx:bx[k].x=1):sP bx (k+1) k:=by
 rcases h with⟨_,h⟩|⟨i,h0,_⟩
 .refine qx ⟨k,rfl,om,hk,hx,fun j hj hjk hne hw=>Qy hw (h j hj om)⟩
 .omega
def Jm (h:sP bx k (i:Int)) (hk:k<bx.length) (hi:i<bx.length) (hx:bx[k].x=1) (hb:rS bx[k] bx[i]=true):sP bx (k+1) k:=by
 rcases h with⟨h0,_⟩|⟨i',h0,hik,hi',h1,h2⟩
 .omega
 .have:i'=i:=om;subst this;refine qx ⟨k,rfl,om,hk,hx,fun j hj hjk hne hw=>?_⟩;by_cases e:j=i'
  .subst e;exact hb
  .exact JO hb (h2 j hj om e hw)
def IX {st:Int} (hok:dw st bx) (h:sP bx k (i:Int)) (hk:k<bx.length) (hi:i<bx.length) (hx:bx[k].x=1) (hb:rS bx[k] bx[i]=false):sP bx (k+1) i:=by
 rcases h with⟨h0,_⟩|⟨i',h0,hik,hi',h1,h2⟩
 .omega
 .have:i'=i:=om;subst this;refine qx ⟨i',rfl,om,hi,h1,fun j hj hjk hne hw=>?_⟩;by_cases e:j=k
  .subst e;exact JP (fun hz=>(hok.2.1 i' j hi hj hik (by rw[h1];decide) (by rw[hx];decide)).2 hz.symm) hb
  .exact h2 j hj om hne hw
end
open Go.IntKind renaming i64->J,u32->Zk
def Lu (w:World) (g:Nat) (a b:Int) (h:w.heap[g]?=some (.cells #[I J a,I J b] 3)) :
  Calls Tp 255 #[sL (some ⟨g,0,none⟩) 2 2] w fun o w'=>o = rT (I J (if a=0 then b else a))/\w=w':=by
 have c0:w.cell? ⟨g,0,none⟩=some (I J a):=by simp[World.cell?,h]
 have c1:w.cell? ⟨g,1,none⟩=some (I J b):=by simp[World.cell?,h]
 clear h;by_cases ha:a=0
 .subst ha;by_cases hb:b=0
  .subst hb;go_enter func255,ntmps255;go_wp2_with fail;go_loopw [8] (fun i wr=>∃ k:Nat,k<=2/\i = I J (k:Int)/\wr=w) (fun i _=>2-(intOf i).toNat);case atStart=>exact⟨0,nZ _,rfl,rfl⟩
   case round=>
    obtain⟨k,hk,rfl,rfl⟩:=hrel;match k,hk with
    | 0,_=>
     go_wp2;go_roundw;case rel=>exact⟨1,om,rfl,trivial⟩
     case measure=>simp[intOf]
    | 1,_=>
     go_wp2;go_roundw;case rel=>exact⟨2,om,rfl,trivial⟩
     case measure=>simp[intOf]
    | 2,_=>
     go_wp2;go_ret;exact⟨rfl,rfl⟩
  .have hb':(b == 0)=false:=by simpa using hb
   go_enter func255,ntmps255;go_wp2_with fail;go_loopw [8] (fun i wr=>∃ k:Nat,k<=1/\i = I J (k:Int)/\wr=w) (fun i _=>2-(intOf i).toNat);case atStart=>exact⟨0,nZ _,rfl,rfl⟩
   case round=>
    obtain⟨k,hk,rfl,rfl⟩:=hrel;match k,hk with
    | 0,_=>
     go_wp2;go_roundw;case rel=>exact⟨1,om,rfl,trivial⟩
     case measure=>simp[intOf]
    | 1,_=>
     go_wp2;go_ret;exact⟨rfl,rfl⟩
 .have ha':(a == 0)=false:=by simpa using ha
  rw[qa ha];go_enter func255,ntmps255;go_wp2_with fail;go_loopw [8] (fun i wr=>i = I J 0/\wr=w) (fun i _=>0);case atStart=>exact⟨rfl,rfl⟩
  case round=>
   obtain⟨rfl,rfl⟩:=hrel;go_wp2;go_ret;exact⟨rfl,rfl⟩
structure gaS (w:World) (L1 L2:List Value) (W:World):Prop where
 p:blk W w.heap.size L1 116
 q:blk W (w.heap.size+1) L2 116
 b:Bl w W
def gaS.below {w:World} {L1 L2:List Value} {W W':World} (h:gaS w L1 L2 W) (hb:Bl W W'):gaS w L1 L2 W':=⟨h.p.below hb,h.q.below hb,h.b.trans (hb.mono h.b.size)⟩
def KB (A B:R8):decide ((if Lib.compareBytes (pg A).data.toList (pg B).data.toList=0 then Lib.compareInt A.z B.z else Lib.compareBytes (pg A).data.toList (pg B).data.toList)<0)=rS A B:=by
 have h:=LQ (pg A).data.toList (pg B).data.toList;unfold rS;rw[ByteArray.toList_eq,ByteArray.toList_eq];by_cases e:pg A=pg B
 .rw[qc e,qc (h.1.2 (by rw[e]))];exact decide_eq_decide.2 (MQ _ _)
 .rw[qa e,qa (fun x=>e (ByteArray.ext (Array.toList_inj.1 (h.1.1 x))))];rw[qk,qV];exact h.2
def Il (w:World) (A B:R8) (ao:Option Addr) (m c:Nat) (ao':Option Addr) (m' c':Nat) (h:iB w ao m c A.l) (h':iB w ao' m' c' B.l) :
  Calls Tp 237 #[bxV A.x A.y A.z A.e A.i A.r A.d ao m c,bxV B.x B.y B.z B.e B.i B.r B.d ao' m' c'] w fun o w'=>o = rT (bO (rS A B))/\Bl w w':=by
 have HV:=KB A B;have e1:pg A=GA A.e A.i A.r A.d m:=by unfold pg;rw[h.len]
 have e2:pg B=GA B.e B.i B.r B.d m':=by unfold pg;rw[h'.len]
 have HA1:Hid (∀ W,Bl w W->Calls Tp 257 #[frV A.e A.i A.r A.d ao m c] W fun o w'=>o = rT (.string (pg A))/\Bl W w'):=fun W hW=>e1 ▸ J7 W _ _ _ _ ao m c A.l (h.below hW);have HA2:Hid (∀ W,Bl w W->Calls Tp 257 #[frV B.e B.i B.r B.d ao' m' c'] W fun o w'=>o = rT (.string (pg B))/\Bl W w'):=fun W hW=>e2 ▸ J7 W _ _ _ _ ao' m' c' B.l (h'.below hW);clear e1 e2 h h';rw[<- HV];clear HV;generalize pg A=AA at *;generalize pg B=BB at *;obtain⟨x,y,z,e,id,r,d,l⟩:=A;obtain⟨x',y',z',e',id',r',d',l'⟩:=B;simp only[] at HA1 HA2 ⊢;have HC1:Hid (∀ W,Calls Tp 256 #[.string AA,.string BB] W fun o w'=>o = rT (I J (Lib.compareBytes AA.data.toList BB.data.toList))/\w'=W):=Tryz.strings_Compare AA BB;have HC2:Hid (∀ W,Calls Tp 258 #[I J z,I J z'] W fun o w'=>o = rT (I J (Lib.compareInt z z'))/\w'=W):=Tryz.cmp_Compare_int z z';generalize Lib.compareBytes AA.data.toList BB.data.toList=ca at *;generalize Lib.compareInt z z'=cb at *;have HC3:Hid (∀ W g,W.heap[g]?=some (.cells #[I J ca,I J cb] 3)->Calls Tp 255 #[sL (some ⟨g,0,none⟩) 2 2] W fun o w'=>o = rT (I J (if ca=0 then cb else ca))/\W=w'):=fun W g h=>Lu W g ca cb h;generalize (if ca=0 then cb else ca)=cc at *;have HS0:Hid (gaS w [I J x,I J y,I J z,bO e,I Zk (id:Int),bO r,I J d,sL ao m c] [I J x',I J y',I J z',bO e',I Zk (id':Int),bO r',I J d',sL ao' m' c'] ((w.alloc (.cells [I J x,I J y,I J z,bO e,I Zk (id:Int),bO r,I J d,sL ao m c].toArray 116)).alloc (.cells [I J x',I J y',I J z',bO e',I Zk (id':Int),bO r',I J d',sL ao' m' c'].toArray 116))):=⟨(blk.new w _ 116).alloc _,by have:=blk.new (w.alloc (.cells [I J x,I J y,I J z,bO e,I Zk (id:Int),bO r,I J d,sL ao m c].toArray 116)) [I J x',I J y',I J z',bO e',I Zk (id':Int),bO r',I J d',sL ao' m' c'] 116;simpa using this,Zw.alloc pQ _⟩
 go_enter func237,ntmps237;go_wp2_with fail;have hS0:gaS w [I J x,I J y,I J z,bO e,I Zk (id:Int),bO r,I J d,sL ao m c] [I J x',I J y',I J z',bO e',I Zk (id':Int),bO r',I J d',sL ao' m' c'] ((w.alloc (.cells #[I J x,I J y,I J z,bO e,I Zk (id:Int),bO r,I J d,sL ao m c] 116)).alloc (.cells #[I J x',I J y',I J z',bO e',I Zk (id':Int),bO r',I J d',sL ao' m' c'] 116)):=HS0.o;clear HS0;generalize ((w.alloc (.cells #[I J x,I J y,I J z,bO e,I Zk (id:Int),bO r,I J d,sL ao m c] 116)).alloc (.cells #[I J x',I J y',I J z',bO e',I Zk (id':Int),bO r',I J d',sL ao' m' c'] 116))=w0 at *;refine QJ (S:=gaS w [I J x,I J y,I J z,bO e,I Zk (id:Int),bO r,I J d,sL ao m c] [I J x',I J y',I J z',bO e',I Zk (id':Int),bO r',I J d',sL ao' m' c']) kr ?_;have hS:=hS0.below (W':=w0.drew) (bW _ _).drew;clear hS0;refine tk 0 ?_;refine wU 1 (.agg [bO e,I Zk (id:Int),bO r,I J d,sL ao m c].toArray) rfl (QL (by rfl) 67 (.tmp 5) rfl w.heap.size 3 rfl [bO e,I Zk (id:Int),bO r,I J d,sL ao m c] _ (fun W h=>blk.loadAt [I J x,I J y,I J z] [bO e,I Zk (id:Int),bO r,I J d,sL ao m c] [] h.p) underlying67 rfl jc) hS ?_;simp only[aZ];refine tk 3 ?_;refine wU 4 (.agg [bO e',I Zk (id':Int),bO r',I J d',sL ao' m' c'].toArray) rfl (QL (by rfl) 67 (.tmp 8) rfl (w.heap.size+1) 3 rfl [bO e',I Zk (id':Int),bO r',I J d',sL ao' m' c'] _ (fun W h=>blk.loadAt [I J x',I J y',I J z'] [bO e',I Zk (id':Int),bO r',I J d',sL ao' m' c'] [] h.q) underlying67 rfl jc) hS ?_;simp only[aZ];refine tk 7 ?_;refine tk 8 ?_ (hy:=fun W hSw=>by (have hc:=hSw.p.cell 2 _ rfl;go_simp;try rfl));refine tk 9 ?_;refine tk 10 ?_ (hy:=fun W hSw=>by (have hc:=hSw.q.cell 2 _ rfl;go_simp;try rfl));refine al 2 fun K hK=>?_;go_simp;refine (HA1.o _ hS.b).mono ?_;rintro o w1 ⟨rfl,hb1⟩;have hS1:=hS.below hb1;go_wp2_with fail;refine hK.out _ _ hS1 (fun hS2=>?_);clear hS hK K;have hS:=hS2;clear hS2;clear hS1 hb1;refine al 5 fun K hK=>?_;go_simp;refine (HA2.o _ hS.b).mono ?_;rintro o w2 ⟨rfl,hb2⟩;have hS1:=hS.below hb2;go_wp2_with fail;refine hK.out _ _ hS1 (fun hS2=>?_);clear hS hK K;have hS:=hS2;clear hS2;clear hS1 hb2;refine al 6 fun K hK=>?_;go_simp;refine (HC1.o _).mono ?_;rintro o w3 ⟨rfl,rfl⟩;go_wp2_with fail;refine hK.out _ _ hS (fun hS2=>?_);clear hS hK K;have hS:=hS2;clear hS2;refine al 11 fun K hK=>?_;go_simp;refine (HC2.o _).mono ?_;rintro o w4 ⟨rfl,rfl⟩;go_wp2_with fail;refine hK.out _ _ hS (fun hS2=>?_);clear hS hK K;have hS:=hS2;clear hS2;refine al 12 fun K hK=>?_;go_simp;have hg:=QN w4 (.cells #[I J ca,I J cb] 3);have hS1:=hS.below ((bW _ w4).alloc (nR _) (.cells #[I J ca,I J cb] 3));generalize (w4.alloc (.cells #[I J ca,I J cb] 3))=w5 at *;refine hK.out _ _ hS1 (fun hS2=>?_);clear hS hK K hS1;have hS:=hS2;clear hS2;refine al 13 fun K hK=>?_;go_simp;refine (HC3.o _ _ hg).mono ?_;rintro o w6 ⟨rfl,rfl⟩;go_wp2_with fail;refine hK.out _ _ hS (fun hS2=>?_);clear hS hK K;have hS:=hS2;clear hS2;refine tk 14 ?_;refine tk 15 ?_;refine QH kr ?_ _;have HBJ:Hid (Bl w _):=hS.b;clear hS;go_wp2;go_ret;exact⟨rfl,HBJ.o⟩
section
variable {bx:List R8} {k v:Nat}
def Gq (bx:List R8) (k v:Nat):Prop:=∀ (hk:k<bx.length) j (hj:j<bx.length),j<v->j≠k->bx[j].x=1->rS bx[k] bx[j]=true
def Jn (hk:k<bx.length) (hv:v<bx.length):Gq bx k (v+1)↔(Gq bx k v/\(v≠k->bx[v].x=1->rS bx[k] bx[v]=true)):=by
 constructor
 .intro h;exact⟨fun hk j hj hjv=>h hk j hj om,h hk v hv om⟩
 .rintro⟨h1,h2⟩ hk j hj hjv;by_cases e:j=v
  .subst e;exact h2
  .exact h1 hk j hj om
def JR (hk:k<bx.length) (hv:bx.length<=v) (hx:bx[k].x=1):Gq bx k v↔Gg bx k:=
 ⟨fun h=>⟨hk,hx,fun j hj hne hw=>h hk j hj om hne hw⟩,fun ⟨_,_,h⟩ hk j hj _ hne hw=>h j hj hne hw⟩
def JI (w:World) (H:Ho) (s:Sl) (h:aM w s.a2 s.n2 s.k2 H.bx) (hn:s.n2<=8) :
  Calls Tp 124 #[hoV H s] w fun o w'=>∃ r:Int,o = rT (I J r)/\wv H.bx r/\Bl w w':=by
 have H0:Hid (obS w H s (w.alloc (.cells (hoL H s).toArray 41))):=⟨blk.new w _ 41,Zw⟩
 have hcp:=h.cap;have HB:=fun W (hW:Bl w W) i j hi hj=>IN W H s (h.below hW) hn i j hi hj;obtain⟨c0,c1,c2,c3,fs,bx,ff,qu,lo,st⟩:=H;obtain⟨a1,n1,k1,a2,n2,k2,a3,n3,k3,a4,n4,k4⟩:=s;simp only[] at h hcp hn HB ⊢;have HB:Hid _:=HB;have HL:Hid (n2=bx.length):=h.len;by_cases hl:bx=[]
 .subst hl;have hn0:n2=0:=HL.o;subst hn0;clear h HB;go_enter func124,ntmps124;go_wp2_with fail;go_loopw [3] (fun i wr=>i = I J 0/\obS w ⟨c0,c1,c2,c3,fs,[],ff,qu,lo,st⟩ ⟨a1,n1,k1,a2,0,k2,a3,n3,k3,a4,n4,k4⟩ wr) (fun _ _=>0);case atStart=>exact⟨rfl,H0.o⟩
  case round=>
   obtain⟨rfl,hS⟩:=hrel;have p5:=hS.p.cell 5 _ rfl;have HS:=hS.b;go_wp2;go_ret;exact⟨-1,rfl,qr ⟨rfl,fun i hb=>by obtain⟨hi,_⟩:=hb;cases hi⟩,HS⟩
 obtain⟨g,off,rfl,hc⟩:=h.cells hl;have HC:Hid (∀ j (h:j<bx.length),∃ ao m c,at8 w g (off+j*8) bx[j] ao m c):=hc;clear hc h hl;go_enter func124,ntmps124;go_wp2_with fail;go_loopw [3] (fun i wr=>∃ k:Nat,k<=n2/\i = I J (k:Int)/\(∀ j,j<k->¬ Gg bx j)/\obS w ⟨c0,c1,c2,c3,fs,bx,ff,qu,lo,st⟩ ⟨a1,n1,k1,sQ ⟨g,off,nn⟩,n2,k2,a3,n3,k3,a4,n4,k4⟩ wr) (fun i _=>n2-(intOf i).toNat);case atStart=>exact⟨0,nZ _,rfl,fun j h=>Qy h (nN _),H0.o⟩
 case round=>
  obtain⟨k,hk,rfl,hA,hS⟩:=hrel;have HA:Hid (∀ j,j<k->¬ Gg bx j):=hA;have HS:Hid (obS w ⟨c0,c1,c2,c3,fs,bx,ff,qu,lo,st⟩ ⟨a1,n1,k1,sQ ⟨g,off,nn⟩,n2,k2,a3,n3,k3,a4,n4,k4⟩ wr):=hS;have x5:=hS.p.cell 5 _ rfl;clear hA hS;by_cases hlt:k<n2
  .have hkl:k<bx.length:=by have:=HL.o;omega
   obtain⟨ao,m,c,hx⟩:=HC.o k hkl;have u0:=(hx.below HS.o.b).c0;clear hx;by_cases hx1:bx[k].x=1
   .rw[hx1] at u0;have HX1:Hid (bx[k].x=1):=hx1;clear hx1;go_wp2_with fail;clear x5 u0;go_loopw [4,5] (fun q j wi=>∃ (v:Nat) (b:Bool),v<=n2/\q = bO b/\j = I J (v:Int)/\(b=true↔Gq bx k v)/\obS w ⟨c0,c1,c2,c3,fs,bx,ff,qu,lo,st⟩ ⟨a1,n1,k1,sQ ⟨g,off,nn⟩,n2,k2,a3,n3,k3,a4,n4,k4⟩ wi) (fun _ j _=>n2-(intOf j).toNat);case atStart=>exact⟨0,true,nZ _,rfl,rfl,⟨fun _ _ j hj h=>Qy h (nN _),fun _=>rfl⟩,HS.o⟩
    case round=>
     obtain⟨v,b,hv,rfl,rfl,hq,hS⟩:=hrel;have HQ:Hid (b=true↔Gq bx k v):=hq;clear HS;have HS:Hid (obS w ⟨c0,c1,c2,c3,fs,bx,ff,qu,lo,st⟩ ⟨a1,n1,k1,sQ ⟨g,off,nn⟩,n2,k2,a3,n3,k3,a4,n4,k4⟩ wr):=hS;have x5:=hS.p.cell 5 _ rfl;clear hq hS;by_cases hvn:v<n2
     .have hvl:v<bx.length:=by have:=HL.o;omega
      have HSU:Hid (Gq bx k (v+1)↔(Gq bx k v/\(v≠k->bx[v].x=1->rS bx[k] bx[v]=true))):=Jn hkl hvl;have HCB:Hid (Calls Tp 168 #[aG (hoL ⟨c0,c1,c2,c3,fs,bx,ff,qu,lo,st⟩ ⟨a1,n1,k1,sQ ⟨g,off,nn⟩,n2,k2,a3,n3,k3,a4,n4,k4⟩).toArray,I J (k:Int),I J (v:Int)] wr fun o w'=>o = rT (bO (rS bx[k] bx[v]))/\Bl wr w'):=HB.o wr HS.o.b k v hkl hvl;obtain⟨ao,m,c,hx⟩:=HC.o v hvl;have u0:=(hx.below HS.o.b).c0;clear hx;generalize bx[v].x=xv at *;generalize rS bx[k] bx[v]=bf at *;by_cases hvk:v=k
      .have HQ2:Hid (b=true↔Gq bx k (v+1)):=HQ.o.trans (HSU.o.trans ⟨fun h=>h.1,fun h=>⟨h,fun hne=>Qy hvk hne⟩⟩).symm;have hvk':((v:Int) == (k:Int))=true:=by simp;omega
       subst hvk;clear HCB HSU HQ;go_wp2_with fail;go_roundw;case rel=>exact⟨v+1,b,om,rfl,by go_num,HQ2.o,HS.o⟩
       case measure=>simp[intOf];omega
      .have hvk':((v:Int) == (k:Int))=false:=by simp;omega
       by_cases hxv:xv=1
       .subst hxv;have HR0:=HS.o.p.load;have HR0:Hid (wr.rangeAt w.heap.size 0 (hoL ⟨c0,c1,c2,c3,fs,bx,ff,qu,lo,st⟩ ⟨a1,n1,k1,sQ ⟨g,off,nn⟩,n2,k2,a3,n3,k3,a4,n4,k4⟩)):=HR0;cases bf with
        | true=>
         have HQ2:Hid (b=true↔Gq bx k (v+1)):=HQ.o.trans (HSU.o.trans ⟨fun h=>h.1,fun h=>⟨h,fun _ _=>rfl⟩⟩).symm
         clear HSU HQ;go_wp2_with (first
          | (refine di (by simp[Region.wanted,yielded];omega) 41 _ rfl w.heap.size 0 rfl _ _ HR0.o underlying41 rfl (px _ _) ?_)
          | (go_at_call 168;refine HCB.o.mono ?_;rintro o w4 ⟨rfl,hb4⟩))
         have HS4:=HS.o.below hb4;go_roundw;case rel=>exact⟨v+1,b,om,rfl,by go_num,HQ2.o,HS4⟩
         case measure=>simp[intOf];omega
        | false=>
         have HQ2:Hid (false=true↔Gq bx k (v+1)):=⟨fun h=>Qy h (by decide),fun h=>(HSU.o.1 h).2 hvk rfl⟩
         clear HSU HQ;go_wp2_with (first
          | (refine di (by simp[Region.wanted,yielded];omega) 41 _ rfl w.heap.size 0 rfl _ _ HR0.o underlying41 rfl (px _ _) ?_)
          | (go_at_call 168;refine HCB.o.mono ?_;rintro o w4 ⟨rfl,hb4⟩))
         have HS4:=HS.o.below hb4;go_roundw;case rel=>exact⟨v+1,false,om,rfl,by go_num,HQ2.o,HS4⟩
         case measure=>simp[intOf];omega
       .have HQ2:Hid (b=true↔Gq bx k (v+1)):=HQ.o.trans (HSU.o.trans ⟨fun h=>h.1,fun h=>⟨h,fun _ hw=>Qy hw hxv⟩⟩).symm;have hxv':(xv == 1)=false:=by simpa using hxv
        clear HCB HSU HQ;go_wp2_with fail;go_roundw;case rel=>exact⟨v+1,b,om,rfl,by go_num,HQ2.o,HS.o⟩
        case measure=>simp[intOf];omega
     .have HF:Hid (b=true↔Gg bx k):=HQ.o.trans (JR hkl (by have:=HL.o;omega) HX1.o);cases b with
      | true=>
       go_wp2;go_ret;exact⟨k,rfl,qx ⟨k,rfl,HF.o.1 (by trivial)⟩,HS.o.b⟩
      | false=>
       have HA2:Hid (∀ j,j<k+1->¬ Gg bx j):=fun j hj hb=>by
        by_cases e:j=k
        .subst e;exact Qy (HF.o.2 hb) (by decide)
        .exact HA.o j om hb
       go_wp2;go_roundw;case rel=>exact⟨k+1,om,by go_num,HA2.o,HS.o⟩
       case measure=>simp[intOf];omega
   .have HA2:Hid (∀ j,j<k+1->¬ Gg bx j):=fun j hj hb=>by
     by_cases e:j=k
     .subst e;obtain⟨_,h1,_⟩:=hb;exact hx1 h1
     .exact HA.o j om hb
    have hx1':(bx[k].x == 1)=false:=by simpa using hx1
    generalize bx[k].x=xk at *;clear hx1;go_wp2;go_roundw;case rel=>exact⟨k+1,om,by go_num,HA2.o,HS.o⟩
    case measure=>simp[intOf];omega
  .have HF:Hid (∀ i,¬ Gg bx i):=fun i hb=>HA.o i (by obtain⟨hi,_⟩:=hb;have:=HL.o;omega) hb;go_wp2;go_ret;exact⟨-1,rfl,qr ⟨rfl,HF.o⟩,HS.o.b⟩
end
structure beS (w:World) (PB:Nat) (L:List Value) (W:World):Prop where
 p:blk W PB L 116
 b:Bl w W
def beS.below {w:World} {PB:Nat} {L:List Value} {W W':World} (h:beS w PB L W) (hb:Bl W W'):beS w PB L W':=⟨h.p.below hb,h.b.trans (hb.mono h.b.size)⟩
def Jk (w:World) (LB:Nat) (a:Option Addr) (n cap:Nat) (bx:List R8) (st:Int) (hc5:w.cell? ⟨LB,5,none⟩=some (sL a n cap)) (h:aM w a n cap bx) (hn:n<=8) (hok:dw st bx) :
  Calls Tp 219 #[pT (some ⟨LB,0,none⟩)] w fun o w'=>∃ r:Int,o = rT (I J r)/\wv bx r/\Bl w w':=by
 have hcp:=h.cap;have HL:Hid (n=bx.length):=h.len;have HOK:Hid (dw st bx):=hok;have HC5:Hid (∀ W,Bl w W->W.cell? ⟨LB,5,none⟩=some (sL a n cap)):=fun W hW=>(hW.cell (by exact QC w _ hc5)).trans hc5;clear hok;by_cases hl:bx=[]
 .subst hl;have hn0:n=0:=HL.o;subst hn0;clear h;go_enter func219,ntmps219;go_wp2_with fail;go_loopw [3,11] (fun b i wr=>b = I J (-1)/\i = I J 0/\w=wr) (fun _ _ _=>0);case atStart=>exact⟨rfl,rfl,rfl⟩
  case round=>
   obtain⟨rfl,rfl,rfl⟩:=hrel;go_wp2;go_ret;exact⟨-1,rfl,qr ⟨rfl,fun i hb=>by obtain⟨hi,_⟩:=hb;cases hi⟩,bW _ _⟩
 obtain⟨g,off,rfl,hc⟩:=h.cells hl;have HC:Hid (∀ j (h:j<bx.length),∃ ao m c,at8 w g (off+j*8) bx[j] ao m c):=hc;clear hc h hl;go_enter func219,ntmps219;go_wp2_with fail;clear hc5;go_loopw [3,11] (fun b i wr=>∃ (k:Nat) (rr:Int),k<=n/\i = I J (k:Int)/\b = I J rr/\sP bx k rr/\Bl w wr) (fun _ i _=>n-(intOf i).toNat);case atStart=>exact⟨0,-1,nZ _,rfl,rfl,qr ⟨rfl,fun j hj h=>Qy h (nN _)⟩,bW _ _⟩
 case round=>
  obtain⟨k,rr,hk,rfl,rfl,hbk,hbw⟩:=hrel;have HBK:Hid (sP bx k rr):=hbk;have HBW:Hid (Bl w wr):=hbw;clear hbk hbw;by_cases hlt:k<n
  .have hkl:k<bx.length:=by have:=HL.o;omega
   obtain⟨ao,m,c,hx⟩:=HC.o k hkl;have HRG:=(hx.below HBW.o).range;have HDK:Hid (iB w ao m c bx[k].l):=hx.dat;have HSK0:Hid (bx[k].x≠1->sP bx (k+1) rr):=JN HBK.o hkl;have HFI0:Hid (rr = -1->bx[k].x=1->sP bx (k+1) k):=fun e hx1=>Jl (e ▸ HBK.o) hkl hx1;have HAH0:Hid (∀ q:Nat,rr=q->∀ hq:q<bx.length,bx[k].x=1->rS bx[k] bx[q]=true->sP bx (k+1) k):=fun q e hq hx1 hb=>Jm (e ▸ HBK.o) hkl hq hx1 hb;have HBE0:Hid (∀ q:Nat,rr=q->∀ hq:q<bx.length,bx[k].x=1->rS bx[k] bx[q]=false->sP bx (k+1) q):=fun q e hq hx1 hb=>IX HOK.o (e ▸ HBK.o) hkl hq hx1 hb;obtain⟨b,hb⟩ : ∃ b,bx[k]=b:=⟨_,rfl⟩
   rw[hb] at HRG HDK HSK0 HFI0 HAH0 HBE0;obtain⟨x,y,z,e,i,r,d,l⟩:=b;have HRG:Hid (wr.rangeAt g (off+k*8) [I J x,I J y,I J z,bO e,I Zk (i:Int),bO r,I J d,sL ao m c]):=HRG;simp only[] at HDK HSK0 HFI0 HAH0 HBE0;clear hx hb;by_cases hx1:x=1
   .subst hx1;have HRC:Hid (rr = -1\/∃ q:Nat,rr=q/\q<n):=by
     rcases HBK.o with⟨h,_⟩|⟨q,h,hqk,_⟩
     .exact qr h
     .exact qx ⟨q,h,om⟩
    clear HSK0;by_cases hr1:rr = -1
    .have HFI:Hid (sP bx (k+1) (k:Int)):=HFI0.o hr1 rfl;subst hr1;clear HFI0 HAH0 HBE0 HBK HRC HDK;have HS0:Hid (beS w wr.heap.size [I J 1,I J y,I J z,bO e,I Zk (i:Int),bO r,I J d,sL ao m c] (wr.alloc (.cells #[I J 1,I J y,I J z,bO e,I Zk (i:Int),bO r,I J d,sL ao m c] 116))):=⟨blk.new wr _ 116,HBW.o.trans (((bW _ wr).alloc (nR _) _).mono HBW.o.size)⟩
     go_wp2_with (refine ZG 116 HRG.o underlying116 fG ?_)
     generalize (wr.alloc (.cells #[I J 1,I J y,I J z,bO e,I Zk (i:Int),bO r,I J d,sL ao m c] 116))=w3 at *;generalize wr.heap.size=PB at *;refine QJ (S:=beS w PB [I J 1,I J y,I J z,bO e,I Zk (i:Int),bO r,I J d,sL ao m c]) kr ?_;have hS:beS w PB [I J 1,I J y,I J z,bO e,I Zk (i:Int),bO r,I J d,sL ao m c] w3.drew:=HS0.o.below (bW _ _).drew;refine tk 0 ?_;refine tk 1 ?_ (hy:=fun W hSw=>by (have hc:=hSw.p.cell 0 _ rfl;go_simp;try rfl));refine tk 2 ?_;refine tk 3 ?_;refine tk 4 ?_;refine tk 5 ?_;refine tk 6 ?_;refine tn 7 ?_;refine tn 8 ?_;refine tn 9 ?_;refine tn 10 ?_;refine tn 11 ?_;refine tn 12 ?_;refine tn 13 ?_;refine tn 14 ?_;refine tn 15 ?_;refine tk 16 ?_;refine tk 17 ?_;refine QH kr ?_ _;have HB9:Hid (Bl w _):=hS.b;clear hS;go_wp2;go_roundw;case rel=>exact⟨k+1,(k:Int),om,by go_num,rfl,HFI.o,HB9.o⟩
     case measure=>simp[intOf];omega
    .obtain⟨q,hrq,hqn⟩ : ∃ q:Nat,rr=q/\q<n:=HRC.o.resolve_left hr1;subst hrq;have hql:q<bx.length:=by have:=HL.o;omega
     obtain⟨ao',m',c',hxq⟩:=HC.o q hql;have HAH:Hid (rS ⟨1,y,z,e,i,r,d,l⟩ bx[q]=true->sP bx (k+1) (k:Int)):=HAH0.o q rfl hql rfl;have HBE:Hid (rS ⟨1,y,z,e,i,r,d,l⟩ bx[q]=false->sP bx (k+1) (q:Int)):=HBE0.o q rfl hql rfl;have HRQ:=fun W (hW:Bl w W)=>(hxq.below hW).range;have HGA:=fun W (hW:Bl w W)=>Il W ⟨1,y,z,e,i,r,d,l⟩ bx[q] ao m c ao' m' c' (HDK.o.below hW) (hxq.dat.below hW);obtain⟨b',hb'⟩ : ∃ b,bx[q]=b:=⟨_,rfl⟩
     rw[hb'] at HAH HBE HRQ HGA;obtain⟨x',y',z',e',i',r',d',l'⟩:=b';have HRQ:Hid (∀ W,Bl w W->W.rangeAt g (off+q*8) [I J x',I J y',I J z',bO e',I Zk (i':Int),bO r',I J d',sL ao' m' c']):=HRQ;have HGA:Hid (∀ W,Bl w W->Calls Tp 237 #[aG #[I J 1,I J y,I J z,bO e,I Zk (i:Int),bO r,I J d,sL ao m c],aG #[I J x',I J y',I J z',bO e',I Zk (i':Int),bO r',I J d',sL ao' m' c']] W fun o w'=>o = rT (bO (rS ⟨1,y,z,e,i,r,d,l⟩ ⟨x',y',z',e',i',r',d',l'⟩))/\Bl W w'):=HGA;have hq0:decide ((q:Int)<0)=false:=pQ;clear HFI0 HAH0 HBE0 HBK HRC HDK hxq hb' hr1;generalize rS ⟨1,y,z,e,i,r,d,l⟩ ⟨x',y',z',e',i',r',d',l'⟩=bf at *;cases bf with
     | true=>
      have HAH2:Hid (sP bx (k+1) (k:Int)):=HAH.o rfl;clear HAH HBE;have HS0:Hid (beS w wr.heap.size [I J 1,I J y,I J z,bO e,I Zk (i:Int),bO r,I J d,sL ao m c] (wr.alloc (.cells #[I J 1,I J y,I J z,bO e,I Zk (i:Int),bO r,I J d,sL ao m c] 116))):=⟨blk.new wr _ 116,HBW.o.trans (((bW _ wr).alloc (nR _) _).mono HBW.o.size)⟩
      go_wp2_with (refine ZG 116 HRG.o underlying116 fG ?_)
      generalize (wr.alloc (.cells #[I J 1,I J y,I J z,bO e,I Zk (i:Int),bO r,I J d,sL ao m c] 116))=w3 at *;generalize wr.heap.size=PB at *;refine QJ (S:=beS w PB [I J 1,I J y,I J z,bO e,I Zk (i:Int),bO r,I J d,sL ao m c]) kr ?_;have hS:beS w PB [I J 1,I J y,I J z,bO e,I Zk (i:Int),bO r,I J d,sL ao m c] w3.drew:=HS0.o.below (bW _ _).drew;refine tk 0 ?_;refine tk 1 ?_ (hy:=fun W hSw=>by (have hc:=hSw.p.cell 0 _ rfl;go_simp;try rfl));refine tk 2 ?_;refine tk 3 ?_;refine tk 4 ?_;refine tk 5 ?_;refine tk 6 ?_;refine wU 7 (.agg [I J 1,I J y,I J z,bO e,I Zk (i:Int),bO r,I J d,sL ao m c].toArray) rfl (QL (by rfl) 116 (.tmp 5) rfl PB 0 rfl [I J 1,I J y,I J z,bO e,I Zk (i:Int),bO r,I J d,sL ao m c] _ (fun W h=>h.p.load) underlying116 rfl fG) hS ?_;simp only[aZ];refine tk 8 ?_;refine tk 9 ?_;refine tk 10 ?_;refine tk 11 ?_ (hy:=fun W hSw=>by (have hc:=HC5.o W hSw.b;go_simp;try rfl));refine tk 12 ?_;refine tk 13 ?_;refine wU 14 (.agg [I J x',I J y',I J z',bO e',I Zk (i':Int),bO r',I J d',sL ao' m' c'].toArray) rfl (QL (by rfl) 116 (.tmp 29) rfl g (off+q*8) rfl [I J x',I J y',I J z',bO e',I Zk (i':Int),bO r',I J d',sL ao' m' c'] _ (fun W h=>HRQ.o W h.b) underlying116 rfl fG) hS ?_;simp only[aZ];refine al 15 fun K hK=>?_;go_simp;refine (HGA.o _ hS.b).mono ?_;rintro o w6 ⟨rfl,hb6⟩;have hS1:=hS.below hb6;go_wp2_with fail;refine hK.out _ _ hS1 (fun hS2=>?_);clear hS hK K hS1 hb6;have hS:=hS2;clear hS2;refine tk 16 ?_;refine tk 17 ?_;refine QH kr ?_ _;have HB9:Hid (Bl w _):=hS.b;clear hS;go_wp2;go_roundw;case rel=>exact⟨k+1,(k:Int),om,by go_num,rfl,HAH2.o,HB9.o⟩
      case measure=>simp[intOf];omega
     | false=>
      have HBE2:Hid (sP bx (k+1) (q:Int)):=HBE.o rfl;clear HAH HBE;have HS0:Hid (beS w wr.heap.size [I J 1,I J y,I J z,bO e,I Zk (i:Int),bO r,I J d,sL ao m c] (wr.alloc (.cells #[I J 1,I J y,I J z,bO e,I Zk (i:Int),bO r,I J d,sL ao m c] 116))):=⟨blk.new wr _ 116,HBW.o.trans (((bW _ wr).alloc (nR _) _).mono HBW.o.size)⟩
      go_wp2_with (refine ZG 116 HRG.o underlying116 fG ?_)
      generalize (wr.alloc (.cells #[I J 1,I J y,I J z,bO e,I Zk (i:Int),bO r,I J d,sL ao m c] 116))=w3 at *;generalize wr.heap.size=PB at *;refine QJ (S:=beS w PB [I J 1,I J y,I J z,bO e,I Zk (i:Int),bO r,I J d,sL ao m c]) kr ?_;have hS:beS w PB [I J 1,I J y,I J z,bO e,I Zk (i:Int),bO r,I J d,sL ao m c] w3.drew:=HS0.o.below (bW _ _).drew;refine tk 0 ?_;refine tk 1 ?_ (hy:=fun W hSw=>by (have hc:=hSw.p.cell 0 _ rfl;go_simp;try rfl));refine tk 2 ?_;refine tk 3 ?_;refine tk 4 ?_;refine tk 5 ?_;refine tk 6 ?_;refine wU 7 (.agg [I J 1,I J y,I J z,bO e,I Zk (i:Int),bO r,I J d,sL ao m c].toArray) rfl (QL (by rfl) 116 (.tmp 5) rfl PB 0 rfl [I J 1,I J y,I J z,bO e,I Zk (i:Int),bO r,I J d,sL ao m c] _ (fun W h=>h.p.load) underlying116 rfl fG) hS ?_;simp only[aZ];refine tk 8 ?_;refine tk 9 ?_;refine tk 10 ?_;refine tk 11 ?_ (hy:=fun W hSw=>by (have hc:=HC5.o W hSw.b;go_simp;try rfl));refine tk 12 ?_;refine tk 13 ?_;refine wU 14 (.agg [I J x',I J y',I J z',bO e',I Zk (i':Int),bO r',I J d',sL ao' m' c'].toArray) rfl (QL (by rfl) 116 (.tmp 29) rfl g (off+q*8) rfl [I J x',I J y',I J z',bO e',I Zk (i':Int),bO r',I J d',sL ao' m' c'] _ (fun W h=>HRQ.o W h.b) underlying116 rfl fG) hS ?_;simp only[aZ];refine al 15 fun K hK=>?_;go_simp;refine (HGA.o _ hS.b).mono ?_;rintro o w6 ⟨rfl,hb6⟩;have hS1:=hS.below hb6;go_wp2_with fail;refine hK.out _ _ hS1 (fun hS2=>?_);clear hS hK K hS1 hb6;have hS:=hS2;clear hS2;refine tk 16 ?_;refine tk 17 ?_;refine QH kr ?_ _;have HB9:Hid (Bl w _):=hS.b;clear hS;go_wp2;go_roundw;case rel=>exact⟨k+1,(q:Int),om,by go_num,rfl,HBE2.o,HB9.o⟩
      case measure=>simp[intOf];omega
   .have HSK:Hid (sP bx (k+1) rr):=HSK0.o hx1;have hx1':(x == 1)=false:=by simpa using hx1
    clear HSK0 HFI0 HAH0 HBE0 HBK HDK hx1;have HS0:Hid (beS w wr.heap.size [I J x,I J y,I J z,bO e,I Zk (i:Int),bO r,I J d,sL ao m c] (wr.alloc (.cells #[I J x,I J y,I J z,bO e,I Zk (i:Int),bO r,I J d,sL ao m c] 116))):=⟨blk.new wr _ 116,HBW.o.trans (((bW _ wr).alloc (nR _) _).mono HBW.o.size)⟩
    go_wp2_with (refine ZG 116 HRG.o underlying116 fG ?_)
    generalize (wr.alloc (.cells #[I J x,I J y,I J z,bO e,I Zk (i:Int),bO r,I J d,sL ao m c] 116))=w3 at *;generalize wr.heap.size=PB at *;refine QJ (S:=beS w PB [I J x,I J y,I J z,bO e,I Zk (i:Int),bO r,I J d,sL ao m c]) kr ?_;have hS:beS w PB [I J x,I J y,I J z,bO e,I Zk (i:Int),bO r,I J d,sL ao m c] w3.drew:=HS0.o.below (bW _ _).drew;refine tk 0 ?_;refine tk 1 ?_ (hy:=fun W hSw=>by (have hc:=hSw.p.cell 0 _ rfl;go_simp;try rfl));refine tk 2 ?_;refine tk 3 ?_;refine tn 4 ?_;refine tn 5 ?_;refine tn 6 ?_;refine tn 7 ?_;refine tn 8 ?_;refine tn 9 ?_;refine tn 10 ?_;refine tn 11 ?_;refine tn 12 ?_;refine tn 13 ?_;refine tn 14 ?_;refine tn 15 ?_;refine tn 16 ?_;refine tk 17 ?_;refine QH kr ?_ _;have HB9:Hid (Bl w _):=hS.b;clear hS;go_wp2;go_roundw;case rel=>exact⟨k+1,rr,om,by go_num,rfl,HSK.o,HB9.o⟩
    case measure=>simp[intOf];omega
  .have HF:Hid (wv bx rr):=KA HBK.o (by have:=HL.o;omega);go_wp2;go_ret;exact⟨rr,rfl,HF.o,HBW.o⟩
end Go.Proofs.YtgfolecanghhhaaGreat
