import Derived.Test.YtaamahohdnbpiaaGreatG11
import Derived.Test.YtaamahohdnbpiaaGreatVB
namespace Go.Proofs.YtaamahohdnbpiaaGreat
open Go.RowKit
set_option linter.unusedVariables false
def arbA (b:R8):ByteArray:=arbZ b.e b.i b.r b.d b.l.length
def befS (a b:R8):Bool:=if arbA a=arbA b then decide (a.z<b.z) else Op.bytesLess (arbA a).toList (arbA b).toList
theorem at8.frame {w:World} {g o:Nat} {b:R8} {ao:Option Addr} {m c:Nat} (h:at8 w g o b ao m c):w.rangeAt g (o+3) [.bool b.e,.int .u32 (b.i:Int),.bool b.r,.int .i64 b.d,.slice ao m c]:=by
 intro j v hv;match j,hv with
 | 0,hv=>cases hv;exact h.c3
 | 1,hv=>cases hv;exact h.c4
 | 2,hv=>cases hv;exact h.c5
 | 3,hv=>cases hv;exact h.c6
 | 4,hv=>cases hv;exact h.cs
set_option maxHeartbeats 4000000 in
set_option maxRecDepth 20000 in
theorem l3before_any (w:World) (H:Ho) (s:Sl) (h:isR8s w s.a2 s.n2 s.k2 H.bx) (hn:s.n2≤8) (i j:Nat) (hi:i<H.bx.length) (hj:j<H.bx.length) :
  Calls Tryz.prog 141 #[hoV H s,.int .i64 i,.int .i64 j] w fun o w'=>o = .returned (.bool (befS H.bx[i] H.bx[j]))∧Below w.heap.size w w':=by
 have hln:=h.len
 have hcp:=h.cap
 have H0:Hid (obS w H s (w.alloc (.cells (hoL H s).toArray 35))):=⟨blk.new w _ 35,(Below.refl _ _).alloc (Nat.le_refl _) _⟩
 obtain⟨c0,c1,c2,c3,fs,bx,ff,qu,lo,st⟩:=H
 obtain⟨a1,n1,k1,a2,n2,k2,a3,n3,k3,a4,n4,k4⟩:=s
 simp only[] at h hln hcp hn hi hj ⊢
 obtain⟨g,off,rfl,hc⟩:=h.cells (by intro e;subst e;cases hi)
 obtain⟨ao,m,c,hx⟩:=hc i hi
 obtain⟨ao',m',c',hx'⟩:=hc j hj
 have hin:i<n2:=by omega
 have hjn:j<n2:=by omega
 clear hc h hln;have e1:=hx.dat.len
 have e2:=hx'.dat.len
 obtain⟨b,hb⟩ : ∃ b,bx[i]=b:=⟨_,rfl⟩
 obtain⟨b',hb'⟩ : ∃ b,bx[j]=b:=⟨_,rfl⟩
 rw[hb] at hx e1
 rw[hb'] at hx' e2
 rw[hb,hb']
 have HBF:Hid (befS b b'=if arbZ b.e b.i b.r b.d m=arbZ b'.e b'.i b'.r b'.d m' then decide (b.z<b'.z) else Op.bytesLess (arbZ b.e b.i b.r b.d m).toList (arbZ b'.e b'.i b'.r b'.d m').toList):=by
  show befS b b'=_
  unfold befS arbA
  rw[e1,e2]
 clear hb hb' e1 e2 hi hj;have HX:Hid (∀ W,obS w ⟨c0,c1,c2,c3,fs,bx,ff,qu,lo,st⟩ ⟨a1,n1,k1,some ⟨g,off,none⟩,n2,k2,a3,n3,k3,a4,n4,k4⟩ W→at8 W g (off+i*8) b ao m c∧at8 W g (off+j*8) b' ao' m' c'):=fun W hW=>⟨hx.below hW.b,hx'.below hW.b⟩
 clear hx hx';obtain⟨x,y,z,e,id,r,d,l⟩:=b
 obtain⟨x',y',z',e',id',r',d',l'⟩:=b'
 simp only[] at HBF HX ⊢
 have p5:=H0.out.p.cell 5 _ rfl
 obtain⟨A,hA⟩ : ∃ A,arbZ e id r d m=A:=⟨_,rfl⟩
 obtain⟨B,hB⟩ : ∃ B,arbZ e' id' r' d' m'=B:=⟨_,rfl⟩
 rw[hA,hB] at HBF
 have HA1:Hid (∀ W,obS w ⟨c0,c1,c2,c3,fs,bx,ff,qu,lo,st⟩ ⟨a1,n1,k1,some ⟨g,off,none⟩,n2,k2,a3,n3,k3,a4,n4,k4⟩ W→Calls Tryz.prog 16 #[frV e id r d ao m c] W fun o w'=>o = .returned (.string A)∧Below W.heap.size W w'):=fun W hW=>hA ▸ specArb_any W e id r d ao m c l (HX.out _ hW).1.dat
 have HA2:Hid (∀ W,obS w ⟨c0,c1,c2,c3,fs,bx,ff,qu,lo,st⟩ ⟨a1,n1,k1,some ⟨g,off,none⟩,n2,k2,a3,n3,k3,a4,n4,k4⟩ W→Calls Tryz.prog 16 #[frV e' id' r' d' ao' m' c'] W fun o w'=>o = .returned (.string B)∧Below W.heap.size W w'):=fun W hW=>hB ▸ specArb_any W e' id' r' d' ao' m' c' l' (HX.out _ hW).2.dat
 clear hA hB;by_cases hAB:A=B
 ·have HBF2:Hid (befS ⟨x,y,z,e,id,r,d,l⟩ ⟨x',y',z',e',id',r',d',l'⟩=decide (z<z')):=by have:=HBF.out;rw[if_pos hAB] at this;exact this
  clear HBF;subst hAB;go_enter Tryz.func141,Tryz.ntmps141
  go_wp2_with (first
   | (refine wpList_load_mid (P:=Tryz.prog) rfl 25 _ rfl g (off+i*8+3) rfl _ _ (HX.out _ H0.out).1.frame Tryz.underlying25 rfl sz93 ?_)
   | (go_at_call 16;refine (HA1.out _ H0.out).mono ?_;rintro o w1 ⟨rfl,hb1⟩;have H1:Hid (obS w ⟨c0,c1,c2,c3,fs,bx,ff,qu,lo,st⟩ ⟨a1,n1,k1,some ⟨g,off,none⟩,n2,k2,a3,n3,k3,a4,n4,k4⟩ w1):=H0.out.below hb1;have q5:=H1.out.p.cell 5 _ rfl;clear HA1 p5 hb1)
   | (refine wpList_load_mid (P:=Tryz.prog) rfl 25 _ rfl g (off+j*8+3) rfl _ _ (HX.out _ H1.out).2.frame Tryz.underlying25 rfl sz93 ?_)
   | (go_at_call 16;refine (HA2.out _ H1.out).mono ?_;rintro o w2 ⟨rfl,hb2⟩;have H2:Hid (obS w ⟨c0,c1,c2,c3,fs,bx,ff,qu,lo,st⟩ ⟨a1,n1,k1,some ⟨g,off,none⟩,n2,k2,a3,n3,k3,a4,n4,k4⟩ w2):=H1.out.below hb2;have r5:=H2.out.p.cell 5 _ rfl;have r2:=(HX.out _ H2.out).1.c2;have s2:=(HX.out _ H2.out).2.c2;clear HA2 q5 hb2))
  refine wp_region_held (S:=(fun W=>W.cell? ⟨w.heap.size,5,none⟩=some (.slice (some ⟨g,off,none⟩) n2 k2)∧W.cell? ⟨g,off+i*8+2,none⟩=some (.int .i64 z)∧W.cell? ⟨g,off+j*8+2,none⟩=some (.int .i64 z')∧Below w.heap.size w W)) (by kernel_rfl) ?_
  have hS:(fun W:World=>W.cell? ⟨w.heap.size,5,none⟩=some (.slice (some ⟨g,off,none⟩) n2 k2)∧W.cell? ⟨g,off+i*8+2,none⟩=some (.int .i64 z)∧W.cell? ⟨g,off+j*8+2,none⟩=some (.int .i64 z')∧Below w.heap.size w W) w2.drew:=⟨(World.cell?_drew _ _).trans r5,(World.cell?_drew _ _).trans r2,(World.cell?_drew _ _).trans s2,H2.out.b.drew⟩
  simp only[] at hS
  refine wT (i:=0) (v:=.pointer (some ⟨w.heap.size,5,none⟩)) rfl (by kernel_rfl) (by kernel_rfl) (by kernel_rfl) (fun _ _ _ h=>h) (Or.inl ⟨by rfl,?_⟩) hS ?_
  ·intro W hSw;clear hS;go_simp
  simp only[Act.put,aA,aB,aC,aD,aE]
  refine wT (i:=1) (v:=.slice (some ⟨g,off,none⟩) n2 k2) rfl (by kernel_rfl) (by kernel_rfl) (by kernel_rfl) (fun _ _ _ h=>h) (Or.inl ⟨by rfl,?_⟩) hS ?_
  ·intro W hSw;clear hS;go_simp
  simp only[Act.put,aA,aB,aC,aD,aE,aF];refine wT (i:=2) (v:=.int .i64 (i:Int)) rfl (by kernel_rfl) (by kernel_rfl) (by kernel_rfl) (fun _ _ _ h=>h) (Or.inl ⟨by rfl,?_⟩) hS ?_
  ·intro W hSw;clear hS;go_simp
  simp only[Act.put,aA,aB,aC,aD,aE,aF];refine wT (i:=3) (v:=.pointer (some ⟨g,off+i*8,none⟩)) rfl (by kernel_rfl) (by kernel_rfl) (by kernel_rfl) (fun _ _ _ h=>h) (Or.inl ⟨by rfl,?_⟩) hS ?_
  ·intro W hSw;clear hS;go_simp
  simp only[Act.put,aA,aB,aC,aD,aE,aF];refine wT (i:=4) (v:=.pointer (some ⟨g,off+i*8+2,none⟩)) rfl (by kernel_rfl) (by kernel_rfl) (by kernel_rfl) (fun _ _ _ h=>h) (Or.inl ⟨by rfl,?_⟩) hS ?_
  ·intro W hSw;clear hS;go_simp
  simp only[Act.put,aA,aB,aC,aD,aE,aF];refine wT (i:=5) (v:=.int .i64 z) rfl (by kernel_rfl) (by kernel_rfl) (by kernel_rfl) (fun _ _ _ h=>h) (Or.inl ⟨by rfl,?_⟩) hS ?_
  ·intro W hSw;clear hS;go_simp
  simp only[Act.put,aA,aB,aC,aD,aE,aF];refine wT (i:=6) (v:=.pointer (some ⟨w.heap.size,5,none⟩)) rfl (by kernel_rfl) (by kernel_rfl) (by kernel_rfl) (fun _ _ _ h=>h) (Or.inl ⟨by rfl,?_⟩) hS ?_
  ·intro W hSw;clear hS;go_simp
  simp only[Act.put,aA,aB,aC,aD,aE,aF];refine wT (i:=7) (v:=.slice (some ⟨g,off,none⟩) n2 k2) rfl (by kernel_rfl) (by kernel_rfl) (by kernel_rfl) (fun _ _ _ h=>h) (Or.inl ⟨by rfl,?_⟩) hS ?_
  ·intro W hSw;clear hS;go_simp
  simp only[Act.put,aA,aB,aC,aD,aE,aF];refine wT (i:=8) (v:=.int .i64 (j:Int)) rfl (by kernel_rfl) (by kernel_rfl) (by kernel_rfl) (fun _ _ _ h=>h) (Or.inl ⟨by rfl,?_⟩) hS ?_
  ·intro W hSw;clear hS;go_simp
  simp only[Act.put,aA,aB,aC,aD,aE,aF];refine wT (i:=9) (v:=.pointer (some ⟨g,off+j*8,none⟩)) rfl (by kernel_rfl) (by kernel_rfl) (by kernel_rfl) (fun _ _ _ h=>h) (Or.inl ⟨by rfl,?_⟩) hS ?_
  ·intro W hSw;clear hS;go_simp
  simp only[Act.put,aA,aB,aC,aD,aE,aF];refine wT (i:=10) (v:=.pointer (some ⟨g,off+j*8+2,none⟩)) rfl (by kernel_rfl) (by kernel_rfl) (by kernel_rfl) (fun _ _ _ h=>h) (Or.inl ⟨by rfl,?_⟩) hS ?_
  ·intro W hSw;clear hS;go_simp
  simp only[Act.put,aA,aB,aC,aD,aE,aF];refine wT (i:=11) (v:=.int .i64 z') rfl (by kernel_rfl) (by kernel_rfl) (by kernel_rfl) (fun _ _ _ h=>h) (Or.inl ⟨by rfl,?_⟩) hS ?_
  ·intro W hSw;clear hS;go_simp
  simp only[Act.put,aA,aB,aC,aD,aE,aF];refine wT (i:=12) (v:=.bool (decide (z<z'))) rfl (by kernel_rfl) (by kernel_rfl) (by kernel_rfl) (fun _ _ _ h=>h) (Or.inl ⟨by rfl,?_⟩) hS ?_
  ·intro W hSw;clear hS;go_simp
  simp only[Act.put,aA,aB,aC,aD,aE,aF];refine wT (i:=13) (v:=.bool (decide (z<z'))) rfl (by kernel_rfl) (by kernel_rfl) (by kernel_rfl) (fun _ _ _ h=>h) (Or.inl ⟨by rfl,?_⟩) hS ?_
  ·intro W hSw;clear hS;go_simp
  simp only[Act.put,aA,aB,aC,aD,aE,aF];refine wpAnyH_done (by kernel_rfl) ?_ _
  have HBJ:Hid (Below w.heap.size w w2.drew):=hS.2.2.2
  clear hS;go_wp2
  go_ret;exact⟨ret_bool HBF2.out.symm,HBJ.out⟩
 ·have HBF2:Hid (befS ⟨x,y,z,e,id,r,d,l⟩ ⟨x',y',z',e',id',r',d',l'⟩=Op.bytesLess A.toList B.toList):=by have:=HBF.out;rw[if_neg hAB] at this;exact this
  clear HBF;have hne:(A.toList == B.toList)=false:=by
   rw[beq_eq_false_iff_ne,ByteArray.toList_eq,ByteArray.toList_eq]
   exact fun h=>hAB (ByteArray.ext (Array.toList_inj.1 h))
  go_enter Tryz.func141,Tryz.ntmps141
  go_wp2_with (first
   | (refine wpList_load_mid (P:=Tryz.prog) rfl 25 _ rfl g (off+i*8+3) rfl _ _ (HX.out _ H0.out).1.frame Tryz.underlying25 rfl sz93 ?_)
   | (go_at_call 16;refine (HA1.out _ H0.out).mono ?_;rintro o w1 ⟨rfl,hb1⟩;have H1:Hid (obS w ⟨c0,c1,c2,c3,fs,bx,ff,qu,lo,st⟩ ⟨a1,n1,k1,some ⟨g,off,none⟩,n2,k2,a3,n3,k3,a4,n4,k4⟩ w1):=H0.out.below hb1;have q5:=H1.out.p.cell 5 _ rfl;clear HA1 p5 hb1)
   | (refine wpList_load_mid (P:=Tryz.prog) rfl 25 _ rfl g (off+j*8+3) rfl _ _ (HX.out _ H1.out).2.frame Tryz.underlying25 rfl sz93 ?_)
   | (go_at_call 16;refine (HA2.out _ H1.out).mono ?_;rintro o w2 ⟨rfl,hb2⟩;have H2:Hid (obS w ⟨c0,c1,c2,c3,fs,bx,ff,qu,lo,st⟩ ⟨a1,n1,k1,some ⟨g,off,none⟩,n2,k2,a3,n3,k3,a4,n4,k4⟩ w2):=H1.out.below hb2;clear HA2 q5 hb2))
  go_ret;exact⟨ret_bool HBF2.out.symm,H2.out.b⟩
theorem less_lt (x y:List UInt8):Op.bytesLess x y=decide (x<y):=by
 induction x generalizing y with
 | nil=>cases y <;> simp[Op.bytesLess]
 | cons a x ih=>
  cases y with
  | nil=>simp[Op.bytesLess]
  | cons b y=>
   rw[Op.bytesLess,ih]
   by_cases e:a=b <;> simp[List.cons_lt_cons_iff,e]
theorem cmpB_lt (x y:List UInt8):(Lib.compareBytes x y=0↔x=y)∧(Lib.compareBytes x y<0↔Op.bytesLess x y=true):=by
 induction x generalizing y with
 | nil=>cases y <;> simp[Lib.compareBytes,Op.bytesLess]
 | cons a x ih=>
  cases y with
  | nil=>simp[Lib.compareBytes,Op.bytesLess]
  | cons b y=>
   have h1:=ih y
   rw[Lib.compareBytes,Op.bytesLess]
   by_cases hab:a<b
   ·have hne:a≠b:=fun h=>by subst h;exact absurd hab (UInt8.lt_irrefl a)
    simp[hab,hne]
   ·by_cases hba:b<a
    ·have hne:a≠b:=fun h=>by subst h;exact absurd hba (UInt8.lt_irrefl a)
     simp[hab,hba,hne]
    ·have he:a=b:=UInt8.le_antisymm (UInt8.not_lt.1 hba) (UInt8.not_lt.1 hab)
     subst he;simp[hab,h1.1,h1.2]
theorem cmpI (x y:Int):(Lib.compareInt x y<0↔x<y):=by
 unfold Lib.compareInt
 split
 ·simp_all
 ·split <;> simp_all
theorem befS_asymm {a b:R8} (h:befS a b=true) (h':befS b a=true):False:=by
 unfold befS at h h'
 by_cases e:arbA a=arbA b
 ·rw[if_pos e] at h;rw[if_pos e.symm] at h';simp at h h';omega
 ·rw[if_neg e,less_lt] at h
  rw[if_neg (fun x=>e x.symm),less_lt] at h'
  exact absurd (of_decide_eq_true h') (List.lt_asymm (of_decide_eq_true h))
theorem toList_ext {a b:ByteArray} (h:a.toList=b.toList):a=b:=by
 rw[ByteArray.toList_eq,ByteArray.toList_eq] at h
 exact ByteArray.ext (Array.toList_inj.1 h)
theorem befS_trans {a b c:R8} (h:befS a b=true) (h':befS b c=true):befS a c=true:=by
 unfold befS at h h' ⊢
 by_cases e:arbA a=arbA b
 ·rw[if_pos e] at h
  by_cases e':arbA b=arbA c
  ·rw[if_pos e'] at h';rw[if_pos (e.trans e')];simp at h h' ⊢;omega
  ·rw[if_neg e'] at h';rw[e,if_neg e'];exact h'
 ·rw[if_neg e,less_lt] at h
  by_cases e':arbA b=arbA c
  ·rw[← e',if_neg e,less_lt];exact h
  ·rw[if_neg e',less_lt] at h'
   have h3:=List.lt_trans (of_decide_eq_true h) (of_decide_eq_true h')
   have hne:arbA a≠arbA c:=fun x=>by rw[x] at h3;exact absurd h3 (List.lt_irrefl _)
   rw[if_neg hne,less_lt]
   exact decide_eq_true h3
theorem befS_total {a b:R8} (hz:a.z≠b.z) (h:befS a b=false):befS b a=true:=by
 unfold befS at h ⊢
 by_cases e:arbA a=arbA b
 ·rw[if_pos e] at h;rw[if_pos e.symm];simp at h ⊢;omega
 ·rw[if_neg e,less_lt] at h
  rw[if_neg (fun x=>e x.symm),less_lt]
  have h1:=of_decide_eq_false h
  by_cases h2:(arbA b).toList<(arbA a).toList
  ·exact decide_eq_true h2
  ·exact absurd (toList_ext (List.le_antisymm (List.not_lt.1 h2) (List.not_lt.1 h1))) e
def isBest (bx:List R8) (i:Nat):Prop:=∃ hi:i<bx.length,bx[i].x=1∧∀ j (hj:j<bx.length),j≠i→bx[j].x=1→befS bx[i] bx[j]=true
def bestR (bx:List R8) (r:Int):Prop:=(r = -1∧∀ i,¬ isBest bx i)∨∃ i:Nat,r=i∧isBest bx i
theorem isBest_one {bx:List R8} {i j:Nat} (h:isBest bx i) (h':isBest bx j):i=j:=by
 obtain⟨hi,h1,h2⟩:=h
 obtain⟨hj,h3,h4⟩:=h'
 by_cases e:i=j
 ·exact e
 ·exact absurd (befS_asymm (h2 j hj (fun x=>e x.symm) h3) (h4 i hi e h1)) id
theorem bestR_one {bx:List R8} {r r':Int} (h:bestR bx r) (h':bestR bx r'):r=r':=by
 rcases h with⟨rfl,h⟩|⟨i,rfl,h⟩
 ·rcases h' with⟨rfl,h'⟩|⟨i,rfl,h'⟩
  ·rfl
  ·exact absurd h' (h i)
 ·rcases h' with⟨rfl,h'⟩|⟨j,rfl,h'⟩
  ·exact absurd h (h' i)
  ·rw[isBest_one h h']
def bestK (bx:List R8) (k:Nat) (r:Int):Prop:=(r = -1∧∀ j (hj:j<bx.length),j<k→bx[j].x≠1)∨∃ i:Nat,r=i∧i<k∧∃ hi:i<bx.length,bx[i].x=1∧∀ j (hj:j<bx.length),j<k→j≠i→bx[j].x=1→befS bx[i] bx[j]=true
theorem bestK_end {bx:List R8} {k:Nat} {r:Int} (h:bestK bx k r) (hk:bx.length≤k):bestR bx r:=by
 rcases h with⟨rfl,h⟩|⟨i,rfl,hik,hi,h1,h2⟩
 ·exact Or.inl ⟨rfl,fun i hb=>by obtain⟨hi,h1,_⟩:=hb;exact h i hi (by omega) h1⟩
 ·exact Or.inr ⟨i,rfl,hi,h1,fun j hj hne hw=>h2 j hj (by omega) hne hw⟩
theorem bestK_skip {bx:List R8} {k:Nat} {r:Int} (h:bestK bx k r) (hk:k<bx.length) (hx:bx[k].x≠1):bestK bx (k+1) r:=by
 rcases h with⟨rfl,h⟩|⟨i,rfl,hik,hi,h1,h2⟩
 ·refine Or.inl ⟨rfl,fun j hj hjk=>?_⟩
  by_cases e:j=k
  ·subst e;exact hx
  ·exact h j hj (by omega)
 ·refine Or.inr ⟨i,rfl,by omega,hi,h1,fun j hj hjk hne hw=>?_⟩
  by_cases e:j=k
  ·subst e;exact absurd hw hx
  ·exact h2 j hj (by omega) hne hw
theorem bestK_first {bx:List R8} {k:Nat} (h:bestK bx k (-1)) (hk:k<bx.length) (hx:bx[k].x=1):bestK bx (k+1) k:=by
 rcases h with⟨_,h⟩|⟨i,h0,_⟩
 ·refine Or.inr ⟨k,rfl,by omega,hk,hx,fun j hj hjk hne hw=>absurd hw (h j hj (by omega))⟩
 ·omega
theorem bestK_ahead {bx:List R8} {k i:Nat} (h:bestK bx k (i:Int)) (hk:k<bx.length) (hi:i<bx.length) (hx:bx[k].x=1) (hb:befS bx[k] bx[i]=true):bestK bx (k+1) k:=by
 rcases h with⟨h0,_⟩|⟨i',h0,hik,hi',h1,h2⟩
 ·omega
 ·have:i'=i:=by omega
  subst this;refine Or.inr ⟨k,rfl,by omega,hk,hx,fun j hj hjk hne hw=>?_⟩
  by_cases e:j=i'
  ·subst e;exact hb
  ·exact befS_trans hb (h2 j hj (by omega) e hw)
theorem bestK_behind {st:Int} {bx:List R8} {k i:Nat} (hok:okBxs st bx) (h:bestK bx k (i:Int)) (hk:k<bx.length) (hi:i<bx.length) (hx:bx[k].x=1) (hb:befS bx[k] bx[i]=false):bestK bx (k+1) i:=by
 rcases h with⟨h0,_⟩|⟨i',h0,hik,hi',h1,h2⟩
 ·omega
 ·have:i'=i:=by omega
  subst this;refine Or.inr ⟨i',rfl,by omega,hi,h1,fun j hj hjk hne hw=>?_⟩
  by_cases e:j=k
  ·subst e;exact befS_total (fun hz=>(hok.2.1 i' j hi hj hik (by rw[h1];decide) (by rw[hx];decide)).2 hz.symm) hb
  ·exact h2 j hj (by omega) hne hw
set_option maxHeartbeats 4000000 in
theorem or2_any (w:World) (g:Nat) (a b:Int) (h:w.heap[g]?=some (.cells #[.int .i64 a,.int .i64 b] 3)) :
  Calls Tryz.prog 173 #[.slice (some ⟨g,0,none⟩) 2 2] w fun o w'=>o = .returned (.int .i64 (if a=0 then b else a))∧w=w':=by
 have c0:w.cell? ⟨g,0,none⟩=some (.int .i64 a):=by simp[World.cell?,h]
 have c1:w.cell? ⟨g,1,none⟩=some (.int .i64 b):=by simp[World.cell?,h]
 clear h;by_cases ha:a=0
 ·subst ha;by_cases hb:b=0
  ·subst hb;go_enter Tryz.func173,Tryz.ntmps173
   go_wp2_with fail;go_loopw [8] (fun i wr=>∃ k:Nat,k≤2∧i = .int .i64 (k:Int)∧wr=w) (fun i _=>2-(intOf i).toNat)
   case atStart=>exact⟨0,Nat.zero_le _,rfl,rfl⟩
   case round=>
    obtain⟨k,hk,rfl,rfl⟩:=hrel
    match k,hk with
    | 0,_=>
     go_wp2
     go_roundw
     case rel=>exact⟨1,by omega,rfl,trivial⟩
     case measure=>simp[intOf]
    | 1,_=>
     go_wp2
     go_roundw
     case rel=>exact⟨2,by omega,rfl,trivial⟩
     case measure=>simp[intOf]
    | 2,_=>
     go_wp2
     go_ret;exact⟨rfl,rfl⟩
  ·have hb':(b == 0)=false:=by simpa using hb
   go_enter Tryz.func173,Tryz.ntmps173
   go_wp2_with fail;go_loopw [8] (fun i wr=>∃ k:Nat,k≤1∧i = .int .i64 (k:Int)∧wr=w) (fun i _=>2-(intOf i).toNat)
   case atStart=>exact⟨0,Nat.zero_le _,rfl,rfl⟩
   case round=>
    obtain⟨k,hk,rfl,rfl⟩:=hrel
    match k,hk with
    | 0,_=>
     go_wp2
     go_roundw
     case rel=>exact⟨1,by omega,rfl,trivial⟩
     case measure=>simp[intOf]
    | 1,_=>
     go_wp2
     go_ret;exact⟨rfl,rfl⟩
 ·have ha':(a == 0)=false:=by simpa using ha
  rw[if_neg ha]
  go_enter Tryz.func173,Tryz.ntmps173
  go_wp2_with fail;go_loopw [8] (fun i wr=>i = .int .i64 0∧wr=w) (fun i _=>0)
  case atStart=>exact⟨rfl,rfl⟩
  case round=>
   obtain⟨rfl,rfl⟩:=hrel
   go_wp2
   go_ret;exact⟨rfl,rfl⟩
structure gaS (w:World) (L1 L2:List Value) (W:World):Prop where
 p:blk W w.heap.size L1 97
 q:blk W (w.heap.size+1) L2 97
 b:Below w.heap.size w W
theorem gaS.below {w:World} {L1 L2:List Value} {W W':World} (h:gaS w L1 L2 W) (hb:Below W.heap.size W W'):gaS w L1 L2 W':=⟨h.p.below hb,h.q.below hb,h.b.trans (hb.mono h.b.size)⟩
theorem ahead_val (A B:R8):decide ((if Lib.compareBytes (arbA A).data.toList (arbA B).data.toList=0 then Lib.compareInt A.z B.z else Lib.compareBytes (arbA A).data.toList (arbA B).data.toList)<0)=befS A B:=by
 have h:=cmpB_lt (arbA A).data.toList (arbA B).data.toList
 unfold befS
 rw[ByteArray.toList_eq,ByteArray.toList_eq]
 by_cases e:arbA A=arbA B
 ·rw[if_pos e,if_pos (h.1.2 (by rw[e]))]
  exact decide_eq_decide.2 (cmpI _ _)
 ·rw[if_neg e,if_neg (fun x=>e (ByteArray.ext (Array.toList_inj.1 (h.1.1 x))))]
  rw[Bool.eq_iff_iff,decide_eq_true_iff]
  exact h.2
set_option maxHeartbeats 4000000 in
set_option maxRecDepth 20000 in
theorem goesAhead_any (w:World) (A B:R8) (ao:Option Addr) (m c:Nat) (ao':Option Addr) (m' c':Nat) (h:isBytes w ao m c A.l) (h':isBytes w ao' m' c' B.l) :
  Calls Tryz.prog 130 #[bxV A.x A.y A.z A.e A.i A.r A.d ao m c,bxV B.x B.y B.z B.e B.i B.r B.d ao' m' c'] w fun o w'=>o = .returned (.bool (befS A B))∧Below w.heap.size w w':=by
 have HV:=ahead_val A B
 have e1:arbA A=arbZ A.e A.i A.r A.d m:=by unfold arbA;rw[h.len]
 have e2:arbA B=arbZ B.e B.i B.r B.d m':=by unfold arbA;rw[h'.len]
 have HA1:Hid (∀ W,Below w.heap.size w W→Calls Tryz.prog 175 #[frV A.e A.i A.r A.d ao m c] W fun o w'=>o = .returned (.string (arbA A))∧Below W.heap.size W w'):=fun W hW=>e1 ▸ arb_any W _ _ _ _ ao m c A.l (h.below hW)
 have HA2:Hid (∀ W,Below w.heap.size w W→Calls Tryz.prog 175 #[frV B.e B.i B.r B.d ao' m' c'] W fun o w'=>o = .returned (.string (arbA B))∧Below W.heap.size W w'):=fun W hW=>e2 ▸ arb_any W _ _ _ _ ao' m' c' B.l (h'.below hW)
 clear e1 e2 h h';rw[← HV]
 clear HV;generalize arbA A=AA at *;generalize arbA B=BB at *;obtain⟨x,y,z,e,id,r,d,l⟩:=A
 obtain⟨x',y',z',e',id',r',d',l'⟩:=B
 simp only[] at HA1 HA2 ⊢
 have HC1:Hid (∀ W,Calls Tryz.prog 174 #[.string AA,.string BB] W fun o w'=>o = .returned (.int .i64 (Lib.compareBytes AA.data.toList BB.data.toList))∧w'=W):=Tryz.strings_Compare AA BB
 have HC2:Hid (∀ W,Calls Tryz.prog 176 #[.int .i64 z,.int .i64 z'] W fun o w'=>o = .returned (.int .i64 (Lib.compareInt z z'))∧w'=W):=Tryz.cmp_Compare_int z z'
 generalize Lib.compareBytes AA.data.toList BB.data.toList=ca at *;generalize Lib.compareInt z z'=cb at *;have HC3:Hid (∀ W g,W.heap[g]?=some (.cells #[.int .i64 ca,.int .i64 cb] 3)→Calls Tryz.prog 173 #[.slice (some ⟨g,0,none⟩) 2 2] W fun o w'=>o = .returned (.int .i64 (if ca=0 then cb else ca))∧W=w'):=fun W g h=>or2_any W g ca cb h
 generalize (if ca=0 then cb else ca)=cc at *;have HS0:Hid (gaS w [.int .i64 x,.int .i64 y,.int .i64 z,.bool e,.int .u32 (id:Int),.bool r,.int .i64 d,.slice ao m c] [.int .i64 x',.int .i64 y',.int .i64 z',.bool e',.int .u32 (id':Int),.bool r',.int .i64 d',.slice ao' m' c'] ((w.alloc (.cells [.int .i64 x,.int .i64 y,.int .i64 z,.bool e,.int .u32 (id:Int),.bool r,.int .i64 d,.slice ao m c].toArray 97)).alloc (.cells [.int .i64 x',.int .i64 y',.int .i64 z',.bool e',.int .u32 (id':Int),.bool r',.int .i64 d',.slice ao' m' c'].toArray 97))):=⟨(blk.new w _ 97).alloc _,by have:=blk.new (w.alloc (.cells [.int .i64 x,.int .i64 y,.int .i64 z,.bool e,.int .u32 (id:Int),.bool r,.int .i64 d,.slice ao m c].toArray 97)) [.int .i64 x',.int .i64 y',.int .i64 z',.bool e',.int .u32 (id':Int),.bool r',.int .i64 d',.slice ao' m' c'] 97;simpa using this,((Below.refl _ _).alloc (Nat.le_refl _) _).alloc (by simp) _⟩
 go_enter Tryz.func130,Tryz.ntmps130
 go_wp2_with fail;have hS0:gaS w [.int .i64 x,.int .i64 y,.int .i64 z,.bool e,.int .u32 (id:Int),.bool r,.int .i64 d,.slice ao m c] [.int .i64 x',.int .i64 y',.int .i64 z',.bool e',.int .u32 (id':Int),.bool r',.int .i64 d',.slice ao' m' c'] ((w.alloc (.cells #[.int .i64 x,.int .i64 y,.int .i64 z,.bool e,.int .u32 (id:Int),.bool r,.int .i64 d,.slice ao m c] 97)).alloc (.cells #[.int .i64 x',.int .i64 y',.int .i64 z',.bool e',.int .u32 (id':Int),.bool r',.int .i64 d',.slice ao' m' c'] 97)):=HS0.out
 clear HS0;generalize ((w.alloc (.cells #[.int .i64 x,.int .i64 y,.int .i64 z,.bool e,.int .u32 (id:Int),.bool r,.int .i64 d,.slice ao m c] 97)).alloc (.cells #[.int .i64 x',.int .i64 y',.int .i64 z',.bool e',.int .u32 (id':Int),.bool r',.int .i64 d',.slice ao' m' c'] 97))=w0 at *;refine wp_region_held (S:=gaS w [.int .i64 x,.int .i64 y,.int .i64 z,.bool e,.int .u32 (id:Int),.bool r,.int .i64 d,.slice ao m c] [.int .i64 x',.int .i64 y',.int .i64 z',.bool e',.int .u32 (id':Int),.bool r',.int .i64 d',.slice ao' m' c']) (by kernel_rfl) ?_
 have hS:=hS0.below (W':=w0.drew) (Below.refl _ _).drew
 clear hS0;refine wT (i:=0) (v:=.pointer (some ⟨w.heap.size,3,none⟩)) rfl (by kernel_rfl) (by kernel_rfl) (by kernel_rfl) (fun _ _ _ h=>h) (Or.inl ⟨by rfl,?_⟩) hS ?_
 ·intro W hSw;clear hS;go_simp
 simp only[Act.put,aA,aB,aC,aD,aE]
 refine wT (i:=1) (v:=.agg [.bool e,.int .u32 (id:Int),.bool r,.int .i64 d,.slice ao m c].toArray) rfl (by kernel_rfl) (by kernel_rfl) (by kernel_rfl) (fun _ _ _ h=>h) (yieldsIf_load_mid (by rfl) 25 (.tmp 5) rfl w.heap.size 3 rfl [.bool e,.int .u32 (id:Int),.bool r,.int .i64 d,.slice ao m c] _ (fun W h=>blk.loadAt [.int .i64 x,.int .i64 y,.int .i64 z] [.bool e,.int .u32 (id:Int),.bool r,.int .i64 d,.slice ao m c] [] h.p) Tryz.underlying25 rfl sz93) hS ?_
 simp only[Act.put,aA,aB,aC,aD,aE,aF];refine wT (i:=3) (v:=.pointer (some ⟨w.heap.size+1,3,none⟩)) rfl (by kernel_rfl) (by kernel_rfl) (by kernel_rfl) (fun _ _ _ h=>h) (Or.inl ⟨by rfl,?_⟩) hS ?_
 ·intro W hSw;clear hS;go_simp
 simp only[Act.put,aA,aB,aC,aD,aE,aF];refine wT (i:=4) (v:=.agg [.bool e',.int .u32 (id':Int),.bool r',.int .i64 d',.slice ao' m' c'].toArray) rfl (by kernel_rfl) (by kernel_rfl) (by kernel_rfl) (fun _ _ _ h=>h) (yieldsIf_load_mid (by rfl) 25 (.tmp 8) rfl (w.heap.size+1) 3 rfl [.bool e',.int .u32 (id':Int),.bool r',.int .i64 d',.slice ao' m' c'] _ (fun W h=>blk.loadAt [.int .i64 x',.int .i64 y',.int .i64 z'] [.bool e',.int .u32 (id':Int),.bool r',.int .i64 d',.slice ao' m' c'] [] h.q) Tryz.underlying25 rfl sz93) hS ?_
 simp only[Act.put,aA,aB,aC,aD,aE,aF];refine wT (i:=7) (v:=.pointer (some ⟨w.heap.size,2,none⟩)) rfl (by kernel_rfl) (by kernel_rfl) (by kernel_rfl) (fun _ _ _ h=>h) (Or.inl ⟨by rfl,?_⟩) hS ?_
 ·intro W hSw;clear hS;go_simp
 simp only[Act.put,aA,aB,aC,aD,aE,aF];refine wT (i:=8) (v:=.int .i64 z) rfl (by kernel_rfl) (by kernel_rfl) (by kernel_rfl) (fun _ _ _ h=>h) (Or.inl ⟨by rfl,?_⟩) hS ?_
 ·intro W hSw;have hc:=hSw.p.cell 2 _ rfl
  clear hS;go_simp
 simp only[Act.put,aA,aB,aC,aD,aE,aF];refine wT (i:=9) (v:=.pointer (some ⟨w.heap.size+1,2,none⟩)) rfl (by kernel_rfl) (by kernel_rfl) (by kernel_rfl) (fun _ _ _ h=>h) (Or.inl ⟨by rfl,?_⟩) hS ?_
 ·intro W hSw;clear hS;go_simp
 simp only[Act.put,aA,aB,aC,aD,aE,aF];refine wT (i:=10) (v:=.int .i64 z') rfl (by kernel_rfl) (by kernel_rfl) (by kernel_rfl) (fun _ _ _ h=>h) (Or.inl ⟨by rfl,?_⟩) hS ?_
 ·intro W hSw;have hc:=hSw.q.cell 2 _ rfl
  clear hS;go_simp
 simp only[Act.put,aA,aB,aC,aD,aE,aF];refine wpAnyH_all (rs:=[2]) (by kernel_rfl) (by simp) ?_
 refine AllReadyH.cons rfl (fun K hK=>?_) AllReadyH.nil
 go_simp;refine (HA1.out _ hS.b).mono ?_
 rintro o w1 ⟨rfl,hb1⟩;have hS1:=hS.below hb1
 go_wp2_with fail;refine hK.out _ _ hS1 (fun hS2=>?_)
 clear hS hK K;have hS:=hS2
 clear hS2;clear hS1 hb1;refine wpAnyH_all (rs:=[5]) (by kernel_rfl) (by simp) ?_
 refine AllReadyH.cons rfl (fun K hK=>?_) AllReadyH.nil
 go_simp;refine (HA2.out _ hS.b).mono ?_
 rintro o w2 ⟨rfl,hb2⟩;have hS1:=hS.below hb2
 go_wp2_with fail;refine hK.out _ _ hS1 (fun hS2=>?_)
 clear hS hK K;have hS:=hS2
 clear hS2;clear hS1 hb2;refine wpAnyH_all (rs:=[6]) (by kernel_rfl) (by simp) ?_
 refine AllReadyH.cons rfl (fun K hK=>?_) AllReadyH.nil
 go_simp;refine (HC1.out _).mono ?_
 rintro o w3 ⟨rfl,rfl⟩;go_wp2_with fail;refine hK.out _ _ hS (fun hS2=>?_)
 clear hS hK K;have hS:=hS2
 clear hS2;refine wpAnyH_all (rs:=[11]) (by kernel_rfl) (by simp) ?_
 refine AllReadyH.cons rfl (fun K hK=>?_) AllReadyH.nil
 go_simp;refine (HC2.out _).mono ?_
 rintro o w4 ⟨rfl,rfl⟩;go_wp2_with fail;refine hK.out _ _ hS (fun hS2=>?_)
 clear hS hK K;have hS:=hS2
 clear hS2;refine wpAnyH_all (rs:=[12]) (by kernel_rfl) (by simp) ?_
 refine AllReadyH.cons rfl (fun K hK=>?_) AllReadyH.nil
 go_simp;have hg:=heap_alloc_new w4 (.cells #[.int .i64 ca,.int .i64 cb] 3)
 have hS1:=hS.below ((Below.refl _ w4).alloc (Nat.le_refl _) (.cells #[.int .i64 ca,.int .i64 cb] 3))
 generalize (w4.alloc (.cells #[.int .i64 ca,.int .i64 cb] 3))=w5 at *;refine hK.out _ _ hS1 (fun hS2=>?_)
 clear hS hK K hS1;have hS:=hS2
 clear hS2;refine wpAnyH_all (rs:=[13]) (by kernel_rfl) (by simp) ?_
 refine AllReadyH.cons rfl (fun K hK=>?_) AllReadyH.nil
 go_simp;refine (HC3.out _ _ hg).mono ?_
 rintro o w6 ⟨rfl,rfl⟩;go_wp2_with fail;refine hK.out _ _ hS (fun hS2=>?_)
 clear hS hK K;have hS:=hS2
 clear hS2;refine wT (i:=14) (v:=.bool (decide (cc<0))) rfl (by kernel_rfl) (by kernel_rfl) (by kernel_rfl) (fun _ _ _ h=>h) (Or.inl ⟨by rfl,?_⟩) hS ?_
 ·intro W hSw;clear hS;go_simp
 simp only[Act.put,aA,aB,aC,aD,aE,aF];refine wT (i:=15) (v:=.bool (decide (cc<0))) rfl (by kernel_rfl) (by kernel_rfl) (by kernel_rfl) (fun _ _ _ h=>h) (Or.inl ⟨by rfl,?_⟩) hS ?_
 ·intro W hSw;clear hS;go_simp
 simp only[Act.put,aA,aB,aC,aD,aE,aF];refine wpAnyH_done (by kernel_rfl) ?_ _
 have HBJ:Hid (Below w.heap.size w _):=hS.b
 clear hS;go_wp2
 go_ret;exact⟨rfl,HBJ.out⟩
def aheadK (bx:List R8) (k v:Nat):Prop:=∀ (hk:k<bx.length) j (hj:j<bx.length),j<v→j≠k→bx[j].x=1→befS bx[k] bx[j]=true
theorem aheadK_succ {bx:List R8} {k v:Nat} (hk:k<bx.length) (hv:v<bx.length):aheadK bx k (v+1)↔(aheadK bx k v∧(v≠k→bx[v].x=1→befS bx[k] bx[v]=true)):=by
 constructor
 ·intro h;exact⟨fun hk j hj hjv=>h hk j hj (by omega),h hk v hv (by omega)⟩
 ·rintro⟨h1,h2⟩ hk j hj hjv;by_cases e:j=v
  ·subst e;exact h2
  ·exact h1 hk j hj (by omega)
theorem aheadK_end {bx:List R8} {k v:Nat} (hk:k<bx.length) (hv:bx.length≤v) (hx:bx[k].x=1):aheadK bx k v↔isBest bx k:=
 ⟨fun h=>⟨hk,hx,fun j hj hne hw=>h hk j hj (by omega) hne hw⟩,fun ⟨_,_,h⟩ hk j hj _ hne hw=>h j hj hne hw⟩
set_option maxHeartbeats 4000000 in
set_option maxRecDepth 20000 in
theorem l3best_any (w:World) (H:Ho) (s:Sl) (h:isR8s w s.a2 s.n2 s.k2 H.bx) (hn:s.n2≤8) :
  Calls Tryz.prog 77 #[hoV H s] w fun o w'=>∃ r:Int,o = .returned (.int .i64 r)∧bestR H.bx r∧Below w.heap.size w w':=by
 have H0:Hid (obS w H s (w.alloc (.cells (hoL H s).toArray 35))):=⟨blk.new w _ 35,(Below.refl _ _).alloc (Nat.le_refl _) _⟩
 have hcp:=h.cap
 have HB:=fun W (hW:Below w.heap.size w W) i j hi hj=>l3before_any W H s (h.below hW) hn i j hi hj
 obtain⟨c0,c1,c2,c3,fs,bx,ff,qu,lo,st⟩:=H
 obtain⟨a1,n1,k1,a2,n2,k2,a3,n3,k3,a4,n4,k4⟩:=s
 simp only[] at h hcp hn HB ⊢
 have HB:Hid _:=HB
 have HL:Hid (n2=bx.length):=h.len
 by_cases hl:bx=[]
 ·subst hl;have hn0:n2=0:=HL.out
  subst hn0;clear h HB;go_enter Tryz.func77,Tryz.ntmps77
  go_wp2_with fail;go_loopw [3] (fun i wr=>i = .int .i64 0∧obS w ⟨c0,c1,c2,c3,fs,[],ff,qu,lo,st⟩ ⟨a1,n1,k1,a2,0,k2,a3,n3,k3,a4,n4,k4⟩ wr) (fun _ _=>0)
  case atStart=>exact⟨rfl,H0.out⟩
  case round=>
   obtain⟨rfl,hS⟩:=hrel
   have p5:=hS.p.cell 5 _ rfl
   have HS:=hS.b
   go_wp2
   go_ret;exact⟨-1,rfl,Or.inl ⟨rfl,fun i hb=>by obtain⟨hi,_⟩:=hb;cases hi⟩,HS⟩
 obtain⟨g,off,rfl,hc⟩:=h.cells hl
 have HC:Hid (∀ j (h:j<bx.length),∃ ao m c,at8 w g (off+j*8) bx[j] ao m c):=hc
 clear hc h hl;go_enter Tryz.func77,Tryz.ntmps77
 go_wp2_with fail;go_loopw [3] (fun i wr=>∃ k:Nat,k≤n2∧i = .int .i64 (k:Int)∧(∀ j,j<k→¬ isBest bx j)∧obS w ⟨c0,c1,c2,c3,fs,bx,ff,qu,lo,st⟩ ⟨a1,n1,k1,some ⟨g,off,none⟩,n2,k2,a3,n3,k3,a4,n4,k4⟩ wr) (fun i _=>n2-(intOf i).toNat)
 case atStart=>exact⟨0,Nat.zero_le _,rfl,fun j h=>absurd h (Nat.not_lt_zero _),H0.out⟩
 case round=>
  obtain⟨k,hk,rfl,hA,hS⟩:=hrel
  have HA:Hid (∀ j,j<k→¬ isBest bx j):=hA
  have HS:Hid (obS w ⟨c0,c1,c2,c3,fs,bx,ff,qu,lo,st⟩ ⟨a1,n1,k1,some ⟨g,off,none⟩,n2,k2,a3,n3,k3,a4,n4,k4⟩ wr):=hS
  have x5:=hS.p.cell 5 _ rfl
  clear hA hS;by_cases hlt:k<n2
  ·have hkl:k<bx.length:=by have:=HL.out;omega
   obtain⟨ao,m,c,hx⟩:=HC.out k hkl
   have u0:=(hx.below HS.out.b).c0
   clear hx;by_cases hx1:bx[k].x=1
   ·rw[hx1] at u0
    have HX1:Hid (bx[k].x=1):=hx1
    clear hx1;go_wp2_with fail;clear x5 u0;go_loopw [4,5] (fun q j wi=>∃ (v:Nat) (b:Bool),v≤n2∧q = .bool b∧j = .int .i64 (v:Int)∧(b=true↔aheadK bx k v)∧obS w ⟨c0,c1,c2,c3,fs,bx,ff,qu,lo,st⟩ ⟨a1,n1,k1,some ⟨g,off,none⟩,n2,k2,a3,n3,k3,a4,n4,k4⟩ wi) (fun _ j _=>n2-(intOf j).toNat)
    case atStart=>exact⟨0,true,Nat.zero_le _,rfl,rfl,⟨fun _ _ j hj h=>absurd h (Nat.not_lt_zero _),fun _=>rfl⟩,HS.out⟩
    case round=>
     obtain⟨v,b,hv,rfl,rfl,hq,hS⟩:=hrel
     have HQ:Hid (b=true↔aheadK bx k v):=hq
     clear HS;have HS:Hid (obS w ⟨c0,c1,c2,c3,fs,bx,ff,qu,lo,st⟩ ⟨a1,n1,k1,some ⟨g,off,none⟩,n2,k2,a3,n3,k3,a4,n4,k4⟩ wr):=hS
     have x5:=hS.p.cell 5 _ rfl
     clear hq hS;by_cases hvn:v<n2
     ·have hvl:v<bx.length:=by have:=HL.out;omega
      have HSU:Hid (aheadK bx k (v+1)↔(aheadK bx k v∧(v≠k→bx[v].x=1→befS bx[k] bx[v]=true))):=aheadK_succ hkl hvl
      have HCB:Hid (Calls Tryz.prog 141 #[.agg (hoL ⟨c0,c1,c2,c3,fs,bx,ff,qu,lo,st⟩ ⟨a1,n1,k1,some ⟨g,off,none⟩,n2,k2,a3,n3,k3,a4,n4,k4⟩).toArray,.int .i64 (k:Int),.int .i64 (v:Int)] wr fun o w'=>o = .returned (.bool (befS bx[k] bx[v]))∧Below wr.heap.size wr w'):=HB.out wr HS.out.b k v hkl hvl
      obtain⟨ao,m,c,hx⟩:=HC.out v hvl
      have u0:=(hx.below HS.out.b).c0
      clear hx;generalize bx[v].x=xv at *;generalize befS bx[k] bx[v]=bf at *;by_cases hvk:v=k
      ·have HQ2:Hid (b=true↔aheadK bx k (v+1)):=HQ.out.trans (HSU.out.trans ⟨fun h=>h.1,fun h=>⟨h,fun hne=>absurd hvk hne⟩⟩).symm
       have hvk':((v:Int) == (k:Int))=true:=by simp;omega
       subst hvk;clear HCB HSU HQ;go_wp2_with fail;go_roundw
       case rel=>exact⟨v+1,b,by omega,rfl,by go_num,HQ2.out,HS.out⟩
       case measure=>simp[intOf];omega
      ·have hvk':((v:Int) == (k:Int))=false:=by simp;omega
       by_cases hxv:xv=1
       ·subst hxv;have HR0:=HS.out.p.load
        have HR0:Hid (wr.rangeAt w.heap.size 0 (hoL ⟨c0,c1,c2,c3,fs,bx,ff,qu,lo,st⟩ ⟨a1,n1,k1,some ⟨g,off,none⟩,n2,k2,a3,n3,k3,a4,n4,k4⟩)):=HR0
        cases bf with
        | true=>
         have HQ2:Hid (b=true↔aheadK bx k (v+1)):=HQ.out.trans (HSU.out.trans ⟨fun h=>h.1,fun h=>⟨h,fun _ _=>rfl⟩⟩).symm
         clear HSU HQ;go_wp2_with (first
          | (refine wpList_load_midG (by simp[Region.wanted,yielded];omega) 35 _ rfl w.heap.size 0 rfl _ _ HR0.out Tryz.underlying35 rfl (sz41L _ _) ?_)
          | (go_at_call 141;refine HCB.out.mono ?_;rintro o w4 ⟨rfl,hb4⟩))
         have HS4:=HS.out.below hb4
         go_roundw
         case rel=>exact⟨v+1,b,by omega,rfl,by go_num,HQ2.out,HS4⟩
         case measure=>simp[intOf];omega
        | false=>
         have HQ2:Hid (false=true↔aheadK bx k (v+1)):=⟨fun h=>absurd h (by decide),fun h=>(HSU.out.1 h).2 hvk rfl⟩
         clear HSU HQ;go_wp2_with (first
          | (refine wpList_load_midG (by simp[Region.wanted,yielded];omega) 35 _ rfl w.heap.size 0 rfl _ _ HR0.out Tryz.underlying35 rfl (sz41L _ _) ?_)
          | (go_at_call 141;refine HCB.out.mono ?_;rintro o w4 ⟨rfl,hb4⟩))
         have HS4:=HS.out.below hb4
         go_roundw
         case rel=>exact⟨v+1,false,by omega,rfl,by go_num,HQ2.out,HS4⟩
         case measure=>simp[intOf];omega
       ·have HQ2:Hid (b=true↔aheadK bx k (v+1)):=HQ.out.trans (HSU.out.trans ⟨fun h=>h.1,fun h=>⟨h,fun _ hw=>absurd hw hxv⟩⟩).symm
        have hxv':(xv == 1)=false:=by simpa using hxv
        clear HCB HSU HQ;go_wp2_with fail;go_roundw
        case rel=>exact⟨v+1,b,by omega,rfl,by go_num,HQ2.out,HS.out⟩
        case measure=>simp[intOf];omega
     ·have HF:Hid (b=true↔isBest bx k):=HQ.out.trans (aheadK_end hkl (by have:=HL.out;omega) HX1.out)
      cases b with
      | true=>
       go_wp2
       go_ret;exact⟨k,rfl,Or.inr ⟨k,rfl,HF.out.1 (by trivial)⟩,HS.out.b⟩
      | false=>
       have HA2:Hid (∀ j,j<k+1→¬ isBest bx j):=fun j hj hb=>by
        by_cases e:j=k
        ·subst e;exact absurd (HF.out.2 hb) (by decide)
        ·exact HA.out j (by omega) hb
       go_wp2
       go_roundw
       case rel=>exact⟨k+1,by omega,by go_num,HA2.out,HS.out⟩
       case measure=>simp[intOf];omega
   ·have HA2:Hid (∀ j,j<k+1→¬ isBest bx j):=fun j hj hb=>by
     by_cases e:j=k
     ·subst e;obtain⟨_,h1,_⟩:=hb;exact hx1 h1
     ·exact HA.out j (by omega) hb
    have hx1':(bx[k].x == 1)=false:=by simpa using hx1
    generalize bx[k].x=xk at *;clear hx1;go_wp2
    go_roundw
    case rel=>exact⟨k+1,by omega,by go_num,HA2.out,HS.out⟩
    case measure=>simp[intOf];omega
  ·have HF:Hid (∀ i,¬ isBest bx i):=fun i hb=>HA.out i (by obtain⟨hi,_⟩:=hb;have:=HL.out;omega) hb
   go_wp2
   go_ret;exact⟨-1,rfl,Or.inl ⟨rfl,HF.out⟩,HS.out.b⟩
end Go.Proofs.YtaamahohdnbpiaaGreat
