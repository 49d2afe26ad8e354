import Derived.Test.YtaamahohdnbpiaaGreatG06
namespace Go.Proofs.YtaamahohdnbpiaaGreat
open Go.RowKit
set_option linter.unusedVariables false
def okBx (st:Int) (b:R8):Prop:=if b.x=0 then (b.y=0∧b.z=0∧zFr b.e b.i b.r b.d b.l.length) else ((1≤b.x∧b.x≤3)∧(0≤b.y∧b.y≤9999)∧(0≤b.z∧b.z<st)∧validB b.e b.i b.r b.d b.l.length=true)
def far (a b:R8):Prop:=a.x≠0→b.x≠0→a.y≠b.y∧a.z≠b.z
def busyN (bx:List R8):Nat:=bx.countP (fun b=>b.x != 0 && b.x != 1)
def okBxs (st:Int) (bx:List R8):Prop:=(∀ j (h:j<bx.length),okBx st bx[j])∧(∀ i j (hi:i<bx.length) (hj:j<bx.length),i<j→far bx[i] bx[j])∧busyN bx≤1
structure obS (w:World) (H:Ho) (s:Sl) (W:World):Prop where
 p:blk W w.heap.size (hoL H s) 35
 b:Below w.heap.size w W
theorem obS.below {w:World} {H:Ho} {s:Sl} {W W':World} (h:obS w H s W) (hb:Below W.heap.size W W'):obS w H s W':=⟨h.p.below hb,h.b.trans (hb.mono h.b.size)⟩
theorem busyN_take (bx:List R8) (k:Nat) (h:k<bx.length):busyN (bx.take (k+1))=busyN (bx.take k)+(if (bx[k].x != 0 && bx[k].x != 1)=true then 1 else 0):=by
 unfold busyN
 rw[List.take_succ_eq_append_getElem h,List.countP_append]
 simp[List.countP_cons]
theorem wpList_load_midG {ops:Array Oper} {rest:List Oper} {op:Oper} {a:Act} {w:World} {Q:Exit→Act→World→Prop} (hw:Region.wanted op (yielded ops a.tmps)=true) (ty:TypeId) (x:Operand) (ho:op.op = .load ty x)
  (b o:Nat) (hx:a.eval x = .pointer (some ⟨b,o,none⟩)) (cs:List Value) (d:TypeDesc) (hc:w.rangeAt b o cs)
  (hu:Tryz.prog.underlying ty=some d) (hd:d.isRow=true) (hi:(Tryz.prog.info? ty).map (·.size)=some cs.length)
  (h:wpList Tryz.prog ops Q rest (a.put op.dst (.agg cs.toArray)) w):wpList Tryz.prog ops Q (op :: rest) a w:=
 wpList_step fun K hK=>by
  simp only[hw,if_true]
  exact wp_load_mid ty x ho b o hx cs d hc hu hd hi (hK _ _ h)
theorem okBxs_bad {st:Int} {bx:List R8} {k:Nat} (hk:k<bx.length) (h:¬ okBx st bx[k]):¬ okBxs st bx:=fun hh=>h (hh.1 k hk)
theorem okBxs_far {st:Int} {bx:List R8} {i k:Nat} (hi:i<bx.length) (hk:k<bx.length) (hik:i<k) (h:¬ far bx[i] bx[k]):¬ okBxs st bx:=fun hh=>h (hh.2.1 i k hi hk hik)
theorem far_snoc {bx:List R8} {k:Nat} (hD:∀ i j (hi:i<bx.length) (hj:j<bx.length),i<j→j<k→far bx[i] bx[j]) (hk:k<bx.length) (h:∀ i (hi:i<bx.length),i<k→far bx[i] bx[k]):∀ i j (hi:i<bx.length) (hj:j<bx.length),i<j→j<k+1→far bx[i] bx[j]:=by
 intro i j hi hj hij hjk;by_cases e:j=k
 ·subst e;exact h i hi hij
 ·exact hD i j hi hj hij (by omega)
theorem ok_snocP {α:Type} {p:α→Prop} {bs:List α} {k:Nat} (hk:k<bs.length) (h:∀ j (hj:j<bs.length),j<k→p bs[j]) (h1:p bs[k]):∀ j (hj:j<bs.length),j<k+1→p bs[j]:=by
 intro j hj h2;by_cases e:j=k
 ·subst e;exact h1
 ·exact h j hj (by omega)
structure rbS (st:Int) (bx:List R8) (k:Nat) (b:R8):Prop where
 bad:¬ okBx st b→¬ okBxs st bx
 good:okBx st b→∀ j (hj:j<bx.length),j<k+1→okBx st bx[j]
 fars:(∀ i (hi:i<bx.length),i<k→far bx[i] b)→∀ i j (hi:i<bx.length) (hj:j<bx.length),i<j→j<k+1→far bx[i] bx[j]
 bf:∀ i (hi:i<bx.length),i<k→¬ far bx[i] b→¬ okBxs st bx
 bn:busyN (bx.take (k+1))=busyN (bx.take k)+(if (b.x != 0 && b.x != 1)=true then 1 else 0)
theorem rbS.of {st:Int} {bx:List R8} {k:Nat} (hk:k<bx.length) (hA:∀ j (hj:j<bx.length),j<k→okBx st bx[j]) (hD:∀ i j (hi:i<bx.length) (hj:j<bx.length),i<j→j<k→far bx[i] bx[j]):rbS st bx k bx[k]:=
 ⟨okBxs_bad hk,fun ho=>ok_snocP hk hA ho,fun ho=>far_snoc hD hk ho,fun i hi hik hf=>okBxs_far hi hk hik hf,busyN_take bx k hk⟩
set_option maxHeartbeats 16000000 in
set_option maxRecDepth 20000 in
theorem l3okBoxes_any (w:World) (H:Ho) (s:Sl) (h:isR8s w s.a2 s.n2 s.k2 H.bx) (hn:s.n2≤8) :
  Calls Tryz.prog 138 #[hoV H s] w fun o w'=>retB o (okBxs H.st H.bx)∧Below w.heap.size w w':=by
 have HH:Hid (isR8s w s.a2 s.n2 s.k2 H.bx):=h
 have HL:Hid (s.n2=H.bx.length):=h.len
 have hcp:=h.cap
 have H0:Hid (obS w H s (w.alloc (.cells (hoL H s).toArray 35))):=⟨blk.new w _ 35,(Below.refl _ _).alloc (Nat.le_refl _) _⟩
 clear h;obtain⟨c0,c1,c2,c3,fs,bx,ff,qu,lo,st⟩:=H
 obtain⟨a1,n1,k1,a2,n2,k2,a3,n3,k3,a4,n4,k4⟩:=s
 simp only[] at HH HL hcp hn ⊢
 by_cases hl:bx=[]
 ·subst hl;have hn0:n2=0:=HL.out
  subst hn0;go_enter Tryz.func138,Tryz.ntmps138
  go_wp2_with fail;go_loopw [3,4] (fun b i wr=>b = .int .i64 0∧i = .int .i64 0∧obS w ⟨c0,c1,c2,c3,fs,[],ff,qu,lo,st⟩ ⟨a1,n1,k1,a2,0,k2,a3,n3,k3,a4,n4,k4⟩ wr) (fun _ _ _=>0)
  case atStart=>exact⟨rfl,rfl,H0.out⟩
  case round=>
   obtain⟨rfl,rfl,hS⟩:=hrel
   have p5:=hS.p.cell 5 _ rfl
   have HS:=hS.b
   go_wp2
   go_ret;exact⟨⟨true,rfl,by simp[okBxs,busyN]⟩,HS⟩
 obtain⟨g,off,rfl,hc⟩:=HH.out.cells hl
 have HC:Hid (∀ j (h:j<bx.length),∃ ao m c,at8 w g (off+j*8) bx[j] ao m c):=hc
 clear hc;go_enter Tryz.func138,Tryz.ntmps138
 go_wp2_with fail;go_loopw [3,4] (fun b i wr=>∃ k q:Nat,k≤n2∧i = .int .i64 (k:Int)∧b = .int .i64 (q:Int)∧q≤k∧q=busyN (bx.take k)∧(∀ j (hj:j<bx.length),j<k→okBx st bx[j])∧(∀ i j (hi:i<bx.length) (hj:j<bx.length),i<j→j<k→far bx[i] bx[j])∧obS w ⟨c0,c1,c2,c3,fs,bx,ff,qu,lo,st⟩ ⟨a1,n1,k1,some ⟨g,off,none⟩,n2,k2,a3,n3,k3,a4,n4,k4⟩ wr) (fun _ i _=>n2-(intOf i).toNat)
 case atStart=>exact⟨0,0,Nat.zero_le _,rfl,rfl,Nat.le_refl _,by simp[busyN],fun j hj h=>absurd h (Nat.not_lt_zero _),fun i j hi hj h1 h2=>absurd h2 (Nat.not_lt_zero _),H0.out⟩
 case round=>
  obtain⟨k,q,hk,rfl,rfl,hqk,hq,hA,hD,hS⟩:=hrel
  have HQQ:Hid (q=busyN (bx.take k)):=hq
  have HA:Hid (∀ j (hj:j<bx.length),j<k→okBx st bx[j]):=hA
  have HD:Hid (∀ i j (hi:i<bx.length) (hj:j<bx.length),i<j→j<k→far bx[i] bx[j]):=hD
  have HS:Hid (obS w ⟨c0,c1,c2,c3,fs,bx,ff,qu,lo,st⟩ ⟨a1,n1,k1,some ⟨g,off,none⟩,n2,k2,a3,n3,k3,a4,n4,k4⟩ wr):=hS
  have x5:=hS.p.cell 5 _ rfl
  have hwz:=hS.p.lt
  clear hq hA hD hS;by_cases hlt:k<n2
  ·have hkl:k<bx.length:=by have:=HL.out;omega
   obtain⟨ao,m,c,hx⟩:=HC.out k hkl
   have hx':=hx.below HS.out.b
   have hlm:=hx'.dat.len
   have HRB0:=rbS.of hkl HA.out HD.out
   have HRG:=hx'.range
   obtain⟨b,hb⟩ : ∃ b,bx[k]=b:=⟨_,rfl⟩
   rw[hb] at HRB0 HRG hlm
   obtain⟨x,y,z,e,i,r,d,l⟩:=b
   have HR:Hid (rbS st bx k ⟨x,y,z,e,i,r,d,l⟩):=HRB0
   have HRG:Hid (wr.rangeAt g (off+k*8) [.int .i64 x,.int .i64 y,.int .i64 z,.bool e,.int .u32 (i:Int),.bool r,.int .i64 d,.slice ao m c]):=HRG
   have HLM:Hid (m=l.length):=hlm
   clear hx hx' hb hlm HRB0;have HBAD0:Hid (¬ okBx st ⟨x,y,z,e,i,r,d,l⟩→¬ okBxs st bx):=HR.out.bad
   by_cases hx0:x=0
   ·subst hx0;by_cases hy0:y=0
    ·subst hy0;by_cases hz0:z=0
     ·subst hz0;by_cases hzf:zFr e i r d m
      ·have HOK:Hid (okBx st ⟨0,0,0,e,i,r,d,l⟩):=by
        show okBx st ⟨0,0,0,e,i,r,d,l⟩
        unfold okBx
        rw[if_pos rfl]
        exact⟨rfl,rfl,HLM.out ▸ hzf⟩
       have HZF:Hid (∀ W,Calls Tryz.prog 137 #[frV e i r d ao m c] W fun o w'=>o = .returned (.bool true)∧Below W.heap.size W w'):=fun W=>(l3zeroFrame_any W e i r d ao m c).mono (by rintro o w' ⟨⟨bb,rfl,h1⟩,h2⟩;rw[h1.2 hzf];exact⟨rfl,h2⟩)
       clear hzf;have HW3:Hid (obS w ⟨c0,c1,c2,c3,fs,bx,ff,qu,lo,st⟩ ⟨a1,n1,k1,some ⟨g,off,none⟩,n2,k2,a3,n3,k3,a4,n4,k4⟩ (wr.alloc (.cells #[.int .i64 0,.int .i64 0,.int .i64 0,.bool e,.int .u32 (i:Int),.bool r,.int .i64 d,.slice ao m c] 97))):=HS.out.below ((Below.refl _ _).alloc (Nat.le_refl _) _)
       have p9:=HW3.out.p.cell 9 _ rfl
       have p5:=HW3.out.p.cell 5 _ rfl
       go_wp2_with (first
        | (refine wpList_load_mid (P:=Tryz.prog) rfl 97 _ rfl g (off+k*8) rfl _ _ HRG.out Tryz.underlying97 rfl sz95 ?_)
        | (go_at_call 137;refine (HZF.out _).mono ?_;rintro o w4 ⟨rfl,hb4⟩))
       go_roundw
       case rel=>
        refine⟨k+1,q,by omega,by go_num,rfl,by omega,?_,HR.out.good HOK.out,HR.out.fars (fun i hi hik _ h=>absurd rfl h),HW3.out.below hb4⟩
        rw[HR.out.bn,← HQQ.out]
        simp
       case measure=>simp[intOf];omega
      ·have HBAD:Hid (¬ okBxs st bx):=HBAD0.out (by unfold okBx;rw[if_pos rfl];exact fun h=>hzf (HLM.out ▸ h.2.2))
       have HZF:Hid (∀ W,Calls Tryz.prog 137 #[frV e i r d ao m c] W fun o w'=>o = .returned (.bool false)∧Below W.heap.size W w'):=fun W=>(l3zeroFrame_any W e i r d ao m c).mono (by rintro o w' ⟨⟨bb,rfl,h1⟩,h2⟩;cases bb;exact⟨rfl,h2⟩;exact absurd (h1.1 rfl) hzf)
       clear hzf;have HW3:Hid (obS w ⟨c0,c1,c2,c3,fs,bx,ff,qu,lo,st⟩ ⟨a1,n1,k1,some ⟨g,off,none⟩,n2,k2,a3,n3,k3,a4,n4,k4⟩ (wr.alloc (.cells #[.int .i64 0,.int .i64 0,.int .i64 0,.bool e,.int .u32 (i:Int),.bool r,.int .i64 d,.slice ao m c] 97))):=HS.out.below ((Below.refl _ _).alloc (Nat.le_refl _) _)
       have p9:=HW3.out.p.cell 9 _ rfl
       have p5:=HW3.out.p.cell 5 _ rfl
       clear HR HD HA HQQ;go_wp2_with (first
        | (refine wpList_load_mid (P:=Tryz.prog) rfl 97 _ rfl g (off+k*8) rfl _ _ HRG.out Tryz.underlying97 rfl sz95 ?_)
        | (go_at_call 137;refine (HZF.out _).mono ?_;rintro o w4 ⟨rfl,hb4⟩))
       go_ret;exact⟨⟨false,rfl,by simpa using HBAD.out⟩,(HW3.out.below hb4).b⟩
     ·have HBAD:Hid (¬ okBxs st bx):=HBAD0.out (by unfold okBx;rw[if_pos rfl];exact fun h=>hz0 h.2.1)
      have hz0':(z != 0)=true:=by simpa using hz0
      clear hz0;have HW3:Hid (obS w ⟨c0,c1,c2,c3,fs,bx,ff,qu,lo,st⟩ ⟨a1,n1,k1,some ⟨g,off,none⟩,n2,k2,a3,n3,k3,a4,n4,k4⟩ (wr.alloc (.cells #[.int .i64 0,.int .i64 0,.int .i64 z,.bool e,.int .u32 (i:Int),.bool r,.int .i64 d,.slice ao m c] 97))):=HS.out.below ((Below.refl _ _).alloc (Nat.le_refl _) _)
      have p9:=HW3.out.p.cell 9 _ rfl
      have p5:=HW3.out.p.cell 5 _ rfl
      clear HR HD HA HQQ;go_wp2_with (first
       | (refine wpList_load_mid (P:=Tryz.prog) rfl 97 _ rfl g (off+k*8) rfl _ _ HRG.out Tryz.underlying97 rfl sz95 ?_))
      go_ret;exact⟨⟨false,rfl,by simpa using HBAD.out⟩,HW3.out.b⟩
    ·have HBAD:Hid (¬ okBxs st bx):=HBAD0.out (by unfold okBx;rw[if_pos rfl];exact fun h=>hy0 h.1)
     have hy0':(y != 0)=true:=by simpa using hy0
     clear hy0;have HW3:Hid (obS w ⟨c0,c1,c2,c3,fs,bx,ff,qu,lo,st⟩ ⟨a1,n1,k1,some ⟨g,off,none⟩,n2,k2,a3,n3,k3,a4,n4,k4⟩ (wr.alloc (.cells #[.int .i64 0,.int .i64 y,.int .i64 z,.bool e,.int .u32 (i:Int),.bool r,.int .i64 d,.slice ao m c] 97))):=HS.out.below ((Below.refl _ _).alloc (Nat.le_refl _) _)
     have p9:=HW3.out.p.cell 9 _ rfl
     have p5:=HW3.out.p.cell 5 _ rfl
     clear HR HD HA HQQ;go_wp2_with (first
      | (refine wpList_load_mid (P:=Tryz.prog) rfl 97 _ rfl g (off+k*8) rfl _ _ HRG.out Tryz.underlying97 rfl sz95 ?_))
     go_ret;exact⟨⟨false,rfl,by simpa using HBAD.out⟩,HW3.out.b⟩
   have hx0':(x == 0)=false:=by simpa using hx0
   by_cases h1:x<0
   ·have HBAD:Hid (¬ okBxs st bx):=HBAD0.out (by unfold okBx;rw[if_neg hx0];exact fun h=>by dsimp only at h;omega)
    clear hx0;have HW3:Hid (obS w ⟨c0,c1,c2,c3,fs,bx,ff,qu,lo,st⟩ ⟨a1,n1,k1,some ⟨g,off,none⟩,n2,k2,a3,n3,k3,a4,n4,k4⟩ (wr.alloc (.cells #[.int .i64 x,.int .i64 y,.int .i64 z,.bool e,.int .u32 (i:Int),.bool r,.int .i64 d,.slice ao m c] 97))):=HS.out.below ((Below.refl _ _).alloc (Nat.le_refl _) _)
    have p9:=HW3.out.p.cell 9 _ rfl
    have p5:=HW3.out.p.cell 5 _ rfl
    clear HR HD HA HQQ;go_wp2_with (first
     | (refine wpList_load_mid (P:=Tryz.prog) rfl 97 _ rfl g (off+k*8) rfl _ _ HRG.out Tryz.underlying97 rfl sz95 ?_))
    go_ret;exact⟨⟨false,rfl,by simpa using HBAD.out⟩,HW3.out.b⟩
   by_cases h2:3<x
   ·have HBAD:Hid (¬ okBxs st bx):=HBAD0.out (by unfold okBx;rw[if_neg hx0];exact fun h=>by dsimp only at h;omega)
    clear hx0;have HW3:Hid (obS w ⟨c0,c1,c2,c3,fs,bx,ff,qu,lo,st⟩ ⟨a1,n1,k1,some ⟨g,off,none⟩,n2,k2,a3,n3,k3,a4,n4,k4⟩ (wr.alloc (.cells #[.int .i64 x,.int .i64 y,.int .i64 z,.bool e,.int .u32 (i:Int),.bool r,.int .i64 d,.slice ao m c] 97))):=HS.out.below ((Below.refl _ _).alloc (Nat.le_refl _) _)
    have p9:=HW3.out.p.cell 9 _ rfl
    have p5:=HW3.out.p.cell 5 _ rfl
    clear HR HD HA HQQ;go_wp2_with (first
     | (refine wpList_load_mid (P:=Tryz.prog) rfl 97 _ rfl g (off+k*8) rfl _ _ HRG.out Tryz.underlying97 rfl sz95 ?_))
    go_ret;exact⟨⟨false,rfl,by simpa using HBAD.out⟩,HW3.out.b⟩
   by_cases h3:y<0
   ·have HBAD:Hid (¬ okBxs st bx):=HBAD0.out (by unfold okBx;rw[if_neg hx0];exact fun h=>by dsimp only at h;omega)
    clear hx0;have HW3:Hid (obS w ⟨c0,c1,c2,c3,fs,bx,ff,qu,lo,st⟩ ⟨a1,n1,k1,some ⟨g,off,none⟩,n2,k2,a3,n3,k3,a4,n4,k4⟩ (wr.alloc (.cells #[.int .i64 x,.int .i64 y,.int .i64 z,.bool e,.int .u32 (i:Int),.bool r,.int .i64 d,.slice ao m c] 97))):=HS.out.below ((Below.refl _ _).alloc (Nat.le_refl _) _)
    have p9:=HW3.out.p.cell 9 _ rfl
    have p5:=HW3.out.p.cell 5 _ rfl
    clear HR HD HA HQQ;go_wp2_with (first
     | (refine wpList_load_mid (P:=Tryz.prog) rfl 97 _ rfl g (off+k*8) rfl _ _ HRG.out Tryz.underlying97 rfl sz95 ?_))
    go_ret;exact⟨⟨false,rfl,by simpa using HBAD.out⟩,HW3.out.b⟩
   by_cases h4:9999<y
   ·have HBAD:Hid (¬ okBxs st bx):=HBAD0.out (by unfold okBx;rw[if_neg hx0];exact fun h=>by dsimp only at h;omega)
    clear hx0;have HW3:Hid (obS w ⟨c0,c1,c2,c3,fs,bx,ff,qu,lo,st⟩ ⟨a1,n1,k1,some ⟨g,off,none⟩,n2,k2,a3,n3,k3,a4,n4,k4⟩ (wr.alloc (.cells #[.int .i64 x,.int .i64 y,.int .i64 z,.bool e,.int .u32 (i:Int),.bool r,.int .i64 d,.slice ao m c] 97))):=HS.out.below ((Below.refl _ _).alloc (Nat.le_refl _) _)
    have p9:=HW3.out.p.cell 9 _ rfl
    have p5:=HW3.out.p.cell 5 _ rfl
    clear HR HD HA HQQ;go_wp2_with (first
     | (refine wpList_load_mid (P:=Tryz.prog) rfl 97 _ rfl g (off+k*8) rfl _ _ HRG.out Tryz.underlying97 rfl sz95 ?_))
    go_ret;exact⟨⟨false,rfl,by simpa using HBAD.out⟩,HW3.out.b⟩
   by_cases h5:z<0
   ·have HBAD:Hid (¬ okBxs st bx):=HBAD0.out (by unfold okBx;rw[if_neg hx0];exact fun h=>by dsimp only at h;omega)
    clear hx0;have HW3:Hid (obS w ⟨c0,c1,c2,c3,fs,bx,ff,qu,lo,st⟩ ⟨a1,n1,k1,some ⟨g,off,none⟩,n2,k2,a3,n3,k3,a4,n4,k4⟩ (wr.alloc (.cells #[.int .i64 x,.int .i64 y,.int .i64 z,.bool e,.int .u32 (i:Int),.bool r,.int .i64 d,.slice ao m c] 97))):=HS.out.below ((Below.refl _ _).alloc (Nat.le_refl _) _)
    have p9:=HW3.out.p.cell 9 _ rfl
    have p5:=HW3.out.p.cell 5 _ rfl
    clear HR HD HA HQQ;go_wp2_with (first
     | (refine wpList_load_mid (P:=Tryz.prog) rfl 97 _ rfl g (off+k*8) rfl _ _ HRG.out Tryz.underlying97 rfl sz95 ?_))
    go_ret;exact⟨⟨false,rfl,by simpa using HBAD.out⟩,HW3.out.b⟩
   by_cases h6:st≤z
   ·have HBAD:Hid (¬ okBxs st bx):=HBAD0.out (by unfold okBx;rw[if_neg hx0];exact fun h=>by dsimp only at h;omega)
    clear hx0;have HW3:Hid (obS w ⟨c0,c1,c2,c3,fs,bx,ff,qu,lo,st⟩ ⟨a1,n1,k1,some ⟨g,off,none⟩,n2,k2,a3,n3,k3,a4,n4,k4⟩ (wr.alloc (.cells #[.int .i64 x,.int .i64 y,.int .i64 z,.bool e,.int .u32 (i:Int),.bool r,.int .i64 d,.slice ao m c] 97))):=HS.out.below ((Below.refl _ _).alloc (Nat.le_refl _) _)
    have p9:=HW3.out.p.cell 9 _ rfl
    have p5:=HW3.out.p.cell 5 _ rfl
    clear HR HD HA HQQ;go_wp2_with (first
     | (refine wpList_load_mid (P:=Tryz.prog) rfl 97 _ rfl g (off+k*8) rfl _ _ HRG.out Tryz.underlying97 rfl sz95 ?_))
    go_ret;exact⟨⟨false,rfl,by simpa using HBAD.out⟩,HW3.out.b⟩
   cases hv:validB e i r d m
   ·have HBAD:Hid (¬ okBxs st bx):=HBAD0.out (by unfold okBx;rw[if_neg hx0];exact fun h=>by have:=h.2.2.2;rw[← HLM.out] at this;simp only[] at this;rw[hv] at this;cases this)
    have HVF:Hid (∀ W,Calls Tryz.prog 52 #[frV e i r d ao m c] W fun o w'=>o = .returned (.bool false)∧Below W.heap.size W w'):=fun W=>hv ▸ specValid_any W e i r d ao m c
    clear hx0 hv;have HW3:Hid (obS w ⟨c0,c1,c2,c3,fs,bx,ff,qu,lo,st⟩ ⟨a1,n1,k1,some ⟨g,off,none⟩,n2,k2,a3,n3,k3,a4,n4,k4⟩ (wr.alloc (.cells #[.int .i64 x,.int .i64 y,.int .i64 z,.bool e,.int .u32 (i:Int),.bool r,.int .i64 d,.slice ao m c] 97))):=HS.out.below ((Below.refl _ _).alloc (Nat.le_refl _) _)
    have p9:=HW3.out.p.cell 9 _ rfl
    have p5:=HW3.out.p.cell 5 _ rfl
    clear HR HD HA HQQ;go_wp2_with (first
     | (refine wpList_load_mid (P:=Tryz.prog) rfl 97 _ rfl g (off+k*8) rfl _ _ HRG.out Tryz.underlying97 rfl sz95 ?_)
     | (go_at_call 52;refine (HVF.out _).mono ?_;rintro o w4 ⟨rfl,hb4⟩))
    go_ret;exact⟨⟨false,rfl,by simpa using HBAD.out⟩,(HW3.out.below hb4).b⟩
   have HOK:Hid (okBx st ⟨x,y,z,e,i,r,d,l⟩):=by
    show okBx st ⟨x,y,z,e,i,r,d,l⟩
    unfold okBx
    rw[if_neg hx0]
    exact⟨⟨by simp only[];omega,by simp only[];omega⟩,⟨by simp only[];omega,by simp only[];omega⟩,⟨by simp only[];omega,by simp only[];omega⟩,by rw[← HLM.out];exact hv⟩
   have HVF:Hid (∀ W,Calls Tryz.prog 52 #[frV e i r d ao m c] W fun o w'=>o = .returned (.bool true)∧Below W.heap.size W w'):=fun W=>hv ▸ specValid_any W e i r d ao m c
   have HX0:Hid (x≠0):=hx0
   clear hv hx0;by_cases hx1:x=1
   ·subst hx1;have HW3:Hid (obS w ⟨c0,c1,c2,c3,fs,bx,ff,qu,lo,st⟩ ⟨a1,n1,k1,some ⟨g,off,none⟩,n2,k2,a3,n3,k3,a4,n4,k4⟩ (wr.alloc (.cells #[.int .i64 1,.int .i64 y,.int .i64 z,.bool e,.int .u32 (i:Int),.bool r,.int .i64 d,.slice ao m c] 97))):=HS.out.below ((Below.refl _ _).alloc (Nat.le_refl _) _)
    have p9:=HW3.out.p.cell 9 _ rfl
    have p5:=HW3.out.p.cell 5 _ rfl
    go_wp2_with (first
     | (refine wpList_load_mid (P:=Tryz.prog) rfl 97 _ rfl g (off+k*8) rfl _ _ HRG.out Tryz.underlying97 rfl sz95 ?_)
     | (go_at_call 52;refine (HVF.out _).mono ?_;rintro o w4 ⟨rfl,hb4⟩;have HB4:Hid (blk w4 wr.heap.size [.int .i64 1,.int .i64 y,.int .i64 z,.bool e,.int .u32 (i:Int),.bool r,.int .i64 d,.slice ao m c] 97∧obS w ⟨c0,c1,c2,c3,fs,bx,ff,qu,lo,st⟩ ⟨a1,n1,k1,some ⟨g,off,none⟩,n2,k2,a3,n3,k3,a4,n4,k4⟩ w4):=⟨(blk.new wr [.int .i64 1,.int .i64 y,.int .i64 z,.bool e,.int .u32 (i:Int),.bool r,.int .i64 d,.slice ao m c] 97).below hb4,HW3.out.below hb4⟩;have y0:=HB4.out.1.cell 0 _ rfl;have y1:=HB4.out.1.cell 1 _ rfl;have y2:=HB4.out.1.cell 2 _ rfl;have o5:=HB4.out.2.p.cell 5 _ rfl;clear hb4 p5 p9))
    clear y0 y1 y2 o5 HRG HS x5 hwz HW3 HBAD0;generalize wr.heap.size=PB at *;go_loopw [6] (fun j wr=>∃ v:Nat,v≤k∧j = .int .i64 (v:Int)∧(∀ i' (hi:i'<bx.length),i'<v→far bx[i'] ⟨1,y,z,e,i,r,d,l⟩)∧Below w4.heap.size w4 wr) (fun j _=>k-(intOf j).toNat)
    case atStart=>exact⟨0,Nat.zero_le _,rfl,fun i hi h=>absurd h (Nat.not_lt_zero _),Below.refl _ _⟩
    case round=>
     obtain⟨v,hvk0,rfl,hF,hbi⟩:=hrel
     have HBI:Hid (Below w4.heap.size w4 wr):=hbi
     have HF:Hid (∀ i' (hi:i'<bx.length),i'<v→far bx[i'] ⟨1,y,z,e,i,r,d,l⟩):=hF
     have y1:=(HB4.out.1.below hbi).cell 1 _ rfl
     have y2:=(HB4.out.1.below hbi).cell 2 _ rfl
     have o5:=(HB4.out.2.below hbi).p.cell 5 _ rfl
     clear hF hbi;by_cases hvk:v<k
     ·have hvl:v<bx.length:=by have:=HL.out;omega
      have hvn:v<n2:=by omega
      obtain⟨ao',m',c',hx⟩:=HC.out v hvl
      have hx':=hx.below (HB4.out.2.below HBI.out).b
      have u0:=hx'.c0
      have u1:=hx'.c1
      have u2:=hx'.c2
      have HFS:Hid (far bx[v] ⟨1,y,z,e,i,r,d,l⟩→∀ i' (hi:i'<bx.length),i'<v+1→far bx[i'] ⟨1,y,z,e,i,r,d,l⟩):=fun h1=>ok_snocP (p:=fun t=>far t ⟨1,y,z,e,i,r,d,l⟩) hvl HF.out h1
      have HNF:Hid (¬ far bx[v] ⟨1,y,z,e,i,r,d,l⟩→¬ okBxs st bx):=HR.out.bf v hvl hvk
      obtain⟨b',hb'⟩ : ∃ b',bx[v]=b':=⟨_,rfl⟩
      rw[hb'] at u0 u1 u2 HFS HNF
      obtain⟨x',y',z',e',i',r',d',l'⟩:=b'
      simp only[] at u0 u1 u2
      clear hx hx' hb';by_cases hx'0:x'=0
      ·have FAR:Hid (∀ i' (hi:i'<bx.length),i'<v+1→far bx[i'] ⟨1,y,z,e,i,r,d,l⟩):=HFS.out (fun h=>absurd hx'0 h)
       subst hx'0;clear HFS HNF;go_wp2
       refine wp_region_held (S:=(fun W=>W.cell? ⟨w.heap.size,5,none⟩=some (.slice (some ⟨g,off,none⟩) n2 k2)∧W.cell? ⟨g,off+v*8,none⟩=some (.int .i64 0)∧W.cell? ⟨g,off+v*8+1,none⟩=some (.int .i64 y')∧W.cell? ⟨g,off+v*8+2,none⟩=some (.int .i64 z')∧W.cell? ⟨PB,1,none⟩=some (.int .i64 y)∧W.cell? ⟨PB,2,none⟩=some (.int .i64 z)∧Below w4.heap.size w4 W)) (by kernel_rfl) ?_
       have hS:(fun W=>W.cell? ⟨w.heap.size,5,none⟩=some (.slice (some ⟨g,off,none⟩) n2 k2)∧W.cell? ⟨g,off+v*8,none⟩=some (.int .i64 0)∧W.cell? ⟨g,off+v*8+1,none⟩=some (.int .i64 y')∧W.cell? ⟨g,off+v*8+2,none⟩=some (.int .i64 z')∧W.cell? ⟨PB,1,none⟩=some (.int .i64 y)∧W.cell? ⟨PB,2,none⟩=some (.int .i64 z)∧Below w4.heap.size w4 W) wr.drew:=⟨(World.cell?_drew _ _).trans o5,(World.cell?_drew _ _).trans u0,(World.cell?_drew _ _).trans u1,(World.cell?_drew _ _).trans u2,(World.cell?_drew _ _).trans y1,(World.cell?_drew _ _).trans y2,HBI.out.drew⟩
       simp only[] at hS
       refine wT (i:=0) (v:=.pointer (some ⟨w.heap.size,5,none⟩)) rfl (by kernel_rfl) (by kernel_rfl) (by kernel_rfl) (fun _ _ _ h=>h) (Or.inl ⟨by rfl,?_⟩) hS ?_
       ·intro W hSw;clear hS;go_simp
       simp only[Act.put,aA,aB,aC,aD,aE]
       refine wT (i:=1) (v:=.slice (some ⟨g,off,none⟩) n2 k2) rfl (by kernel_rfl) (by kernel_rfl) (by kernel_rfl) (fun _ _ _ h=>h) (Or.inl ⟨by rfl,?_⟩) hS ?_
       ·intro W hSw;clear hS;go_simp
       simp only[Act.put,aA,aB,aC,aD,aE,aF];refine wT (i:=2) (v:=.int .i64 (v:Int)) rfl (by kernel_rfl) (by kernel_rfl) (by kernel_rfl) (fun _ _ _ h=>h) (Or.inl ⟨by rfl,?_⟩) hS ?_
       ·intro W hSw;clear hS;go_simp
       simp only[Act.put,aA,aB,aC,aD,aE,aF];refine wT (i:=3) (v:=.pointer (some ⟨g,off+v*8,none⟩)) rfl (by kernel_rfl) (by kernel_rfl) (by kernel_rfl) (fun _ _ _ h=>h) (Or.inl ⟨by rfl,?_⟩) hS ?_
       ·intro W hSw;clear hS;go_simp
       simp only[Act.put,aA,aB,aC,aD,aE,aF];refine wT (i:=4) (v:=.pointer (some ⟨g,off+v*8,none⟩)) rfl (by kernel_rfl) (by kernel_rfl) (by kernel_rfl) (fun _ _ _ h=>h) (Or.inl ⟨by rfl,?_⟩) hS ?_
       ·intro W hSw;clear hS;go_simp
       simp only[Act.put,aA,aB,aC,aD,aE,aF];refine wT (i:=5) (v:=.int .i64 0) rfl (by kernel_rfl) (by kernel_rfl) (by kernel_rfl) (fun _ _ _ h=>h) (Or.inl ⟨by rfl,?_⟩) hS ?_
       ·intro W hSw;clear hS;go_simp
       simp only[Act.put,aA,aB,aC,aD,aE,aF];refine wT (i:=6) (v:=.bool false) rfl (by kernel_rfl) (by kernel_rfl) (by kernel_rfl) (fun _ _ _ h=>h) (Or.inl ⟨by rfl,?_⟩) hS ?_
       ·intro W hSw;clear hS;go_simp
       simp only[Act.put,aA,aB,aC,aD,aE,aF];refine wT (i:=7) (v:=.bool false) rfl (by kernel_rfl) (by kernel_rfl) (by kernel_rfl) (fun _ _ _ h=>h) (Or.inl ⟨by rfl,?_⟩) hS ?_
       ·intro W hSw;clear hS;go_simp
       simp only[Act.put,aA,aB,aC,aD,aE,aF];refine wT (i:=8) (v:=undef) rfl (by kernel_rfl) (by kernel_rfl) (by kernel_rfl) (fun _ _ _ h=>h) (Or.inr ⟨by rfl,rfl⟩) hS ?_
       simp only[Act.put,aA,aB,aC,aD,aE,aF];refine wT (i:=9) (v:=undef) rfl (by kernel_rfl) (by kernel_rfl) (by kernel_rfl) (fun _ _ _ h=>h) (Or.inr ⟨by rfl,rfl⟩) hS ?_
       simp only[Act.put,aA,aB,aC,aD,aE,aF];refine wT (i:=10) (v:=undef) rfl (by kernel_rfl) (by kernel_rfl) (by kernel_rfl) (fun _ _ _ h=>h) (Or.inr ⟨by rfl,rfl⟩) hS ?_
       simp only[Act.put,aA,aB,aC,aD,aE,aF];refine wT (i:=11) (v:=undef) rfl (by kernel_rfl) (by kernel_rfl) (by kernel_rfl) (fun _ _ _ h=>h) (Or.inr ⟨by rfl,rfl⟩) hS ?_
       simp only[Act.put,aA,aB,aC,aD,aE,aF];refine wT (i:=12) (v:=undef) rfl (by kernel_rfl) (by kernel_rfl) (by kernel_rfl) (fun _ _ _ h=>h) (Or.inr ⟨by rfl,rfl⟩) hS ?_
       simp only[Act.put,aA,aB,aC,aD,aE,aF];refine wT (i:=13) (v:=undef) rfl (by kernel_rfl) (by kernel_rfl) (by kernel_rfl) (fun _ _ _ h=>h) (Or.inr ⟨by rfl,rfl⟩) hS ?_
       simp only[Act.put,aA,aB,aC,aD,aE,aF];refine wT (i:=14) (v:=undef) rfl (by kernel_rfl) (by kernel_rfl) (by kernel_rfl) (fun _ _ _ h=>h) (Or.inr ⟨by rfl,rfl⟩) hS ?_
       simp only[Act.put,aA,aB,aC,aD,aE,aF];refine wT (i:=15) (v:=undef) rfl (by kernel_rfl) (by kernel_rfl) (by kernel_rfl) (fun _ _ _ h=>h) (Or.inr ⟨by rfl,rfl⟩) hS ?_
       simp only[Act.put,aA,aB,aC,aD,aE,aF];refine wT (i:=16) (v:=undef) rfl (by kernel_rfl) (by kernel_rfl) (by kernel_rfl) (fun _ _ _ h=>h) (Or.inr ⟨by rfl,rfl⟩) hS ?_
       simp only[Act.put,aA,aB,aC,aD,aE,aF];refine wT (i:=17) (v:=undef) rfl (by kernel_rfl) (by kernel_rfl) (by kernel_rfl) (fun _ _ _ h=>h) (Or.inr ⟨by rfl,rfl⟩) hS ?_
       simp only[Act.put,aA,aB,aC,aD,aE,aF];refine wT (i:=18) (v:=undef) rfl (by kernel_rfl) (by kernel_rfl) (by kernel_rfl) (fun _ _ _ h=>h) (Or.inr ⟨by rfl,rfl⟩) hS ?_
       simp only[Act.put,aA,aB,aC,aD,aE,aF];refine wT (i:=19) (v:=undef) rfl (by kernel_rfl) (by kernel_rfl) (by kernel_rfl) (fun _ _ _ h=>h) (Or.inr ⟨by rfl,rfl⟩) hS ?_
       simp only[Act.put,aA,aB,aC,aD,aE,aF];refine wT (i:=20) (v:=undef) rfl (by kernel_rfl) (by kernel_rfl) (by kernel_rfl) (fun _ _ _ h=>h) (Or.inr ⟨by rfl,rfl⟩) hS ?_
       simp only[Act.put,aA,aB,aC,aD,aE,aF];refine wT (i:=21) (v:=undef) rfl (by kernel_rfl) (by kernel_rfl) (by kernel_rfl) (fun _ _ _ h=>h) (Or.inr ⟨by rfl,rfl⟩) hS ?_
       simp only[Act.put,aA,aB,aC,aD,aE,aF];refine wT (i:=22) (v:=undef) rfl (by kernel_rfl) (by kernel_rfl) (by kernel_rfl) (fun _ _ _ h=>h) (Or.inr ⟨by rfl,rfl⟩) hS ?_
       simp only[Act.put,aA,aB,aC,aD,aE,aF];refine wT (i:=23) (v:=undef) rfl (by kernel_rfl) (by kernel_rfl) (by kernel_rfl) (fun _ _ _ h=>h) (Or.inr ⟨by rfl,rfl⟩) hS ?_
       simp only[Act.put,aA,aB,aC,aD,aE,aF];refine wT (i:=24) (v:=undef) rfl (by kernel_rfl) (by kernel_rfl) (by kernel_rfl) (fun _ _ _ h=>h) (Or.inr ⟨by rfl,rfl⟩) hS ?_
       simp only[Act.put,aA,aB,aC,aD,aE,aF];refine wT (i:=25) (v:=undef) rfl (by kernel_rfl) (by kernel_rfl) (by kernel_rfl) (fun _ _ _ h=>h) (Or.inr ⟨by rfl,rfl⟩) hS ?_
       simp only[Act.put,aA,aB,aC,aD,aE,aF];refine wT (i:=26) (v:=undef) rfl (by kernel_rfl) (by kernel_rfl) (by kernel_rfl) (fun _ _ _ h=>h) (Or.inr ⟨by rfl,rfl⟩) hS ?_
       simp only[Act.put,aA,aB,aC,aD,aE,aF];refine wT (i:=27) (v:=undef) rfl (by kernel_rfl) (by kernel_rfl) (by kernel_rfl) (fun _ _ _ h=>h) (Or.inr ⟨by rfl,rfl⟩) hS ?_
       simp only[Act.put,aA,aB,aC,aD,aE,aF];refine wT (i:=28) (v:=.bool false) rfl (by kernel_rfl) (by kernel_rfl) (by kernel_rfl) (fun _ _ _ h=>h) (Or.inl ⟨by rfl,?_⟩) hS ?_
       ·intro W hSw;clear hS;go_simp
       simp only[Act.put,aA,aB,aC,aD,aE,aF];have HBJ:Hid (Below w4.heap.size w4 wr.drew):=hS.2.2.2.2.2.2
       refine wpAnyH_done (by kernel_rfl) ?_ _
       clear hS;go_wp2
       go_roundw
       case rel=>exact⟨v+1,by omega,by go_num,FAR.out,HBJ.out⟩
       case measure=>simp[intOf];omega
      ·have hx'1:(x' != 0)=true:=by simpa using hx'0
       by_cases hyy:y'=y
       ·have HBAD:Hid (¬ okBxs st bx):=HNF.out (fun h=>(h hx'0 HX0.out).1 hyy)
        subst hyy;clear HFS HNF hx'0;go_wp2
        refine wp_region_held (S:=(fun W=>W.cell? ⟨w.heap.size,5,none⟩=some (.slice (some ⟨g,off,none⟩) n2 k2)∧W.cell? ⟨g,off+v*8,none⟩=some (.int .i64 x')∧W.cell? ⟨g,off+v*8+1,none⟩=some (.int .i64 y')∧W.cell? ⟨g,off+v*8+2,none⟩=some (.int .i64 z')∧W.cell? ⟨PB,1,none⟩=some (.int .i64 y')∧W.cell? ⟨PB,2,none⟩=some (.int .i64 z)∧Below w4.heap.size w4 W)) (by kernel_rfl) ?_
        have hS:(fun W=>W.cell? ⟨w.heap.size,5,none⟩=some (.slice (some ⟨g,off,none⟩) n2 k2)∧W.cell? ⟨g,off+v*8,none⟩=some (.int .i64 x')∧W.cell? ⟨g,off+v*8+1,none⟩=some (.int .i64 y')∧W.cell? ⟨g,off+v*8+2,none⟩=some (.int .i64 z')∧W.cell? ⟨PB,1,none⟩=some (.int .i64 y')∧W.cell? ⟨PB,2,none⟩=some (.int .i64 z)∧Below w4.heap.size w4 W) wr.drew:=⟨(World.cell?_drew _ _).trans o5,(World.cell?_drew _ _).trans u0,(World.cell?_drew _ _).trans u1,(World.cell?_drew _ _).trans u2,(World.cell?_drew _ _).trans y1,(World.cell?_drew _ _).trans y2,HBI.out.drew⟩
        simp only[] at hS
        refine wT (i:=0) (v:=.pointer (some ⟨w.heap.size,5,none⟩)) rfl (by kernel_rfl) (by kernel_rfl) (by kernel_rfl) (fun _ _ _ h=>h) (Or.inl ⟨by rfl,?_⟩) hS ?_
        ·intro W hSw;clear hS;go_simp
        simp only[Act.put,aA,aB,aC,aD,aE]
        refine wT (i:=1) (v:=.slice (some ⟨g,off,none⟩) n2 k2) rfl (by kernel_rfl) (by kernel_rfl) (by kernel_rfl) (fun _ _ _ h=>h) (Or.inl ⟨by rfl,?_⟩) hS ?_
        ·intro W hSw;clear hS;go_simp
        simp only[Act.put,aA,aB,aC,aD,aE,aF];refine wT (i:=2) (v:=.int .i64 (v:Int)) rfl (by kernel_rfl) (by kernel_rfl) (by kernel_rfl) (fun _ _ _ h=>h) (Or.inl ⟨by rfl,?_⟩) hS ?_
        ·intro W hSw;clear hS;go_simp
        simp only[Act.put,aA,aB,aC,aD,aE,aF];refine wT (i:=3) (v:=.pointer (some ⟨g,off+v*8,none⟩)) rfl (by kernel_rfl) (by kernel_rfl) (by kernel_rfl) (fun _ _ _ h=>h) (Or.inl ⟨by rfl,?_⟩) hS ?_
        ·intro W hSw;clear hS;go_simp
        simp only[Act.put,aA,aB,aC,aD,aE,aF];refine wT (i:=4) (v:=.pointer (some ⟨g,off+v*8,none⟩)) rfl (by kernel_rfl) (by kernel_rfl) (by kernel_rfl) (fun _ _ _ h=>h) (Or.inl ⟨by rfl,?_⟩) hS ?_
        ·intro W hSw;clear hS;go_simp
        simp only[Act.put,aA,aB,aC,aD,aE,aF];refine wT (i:=5) (v:=.int .i64 x') rfl (by kernel_rfl) (by kernel_rfl) (by kernel_rfl) (fun _ _ _ h=>h) (Or.inl ⟨by rfl,?_⟩) hS ?_
        ·intro W hSw;clear hS;go_simp
        simp only[Act.put,aA,aB,aC,aD,aE,aF];refine wT (i:=6) (v:=.bool true) rfl (by kernel_rfl) (by kernel_rfl) (by kernel_rfl) (fun _ _ _ h=>h) (Or.inl ⟨by rfl,?_⟩) hS ?_
        ·intro W hSw;clear hS;go_simp
        simp only[Act.put,aA,aB,aC,aD,aE,aF];refine wT (i:=7) (v:=.bool true) rfl (by kernel_rfl) (by kernel_rfl) (by kernel_rfl) (fun _ _ _ h=>h) (Or.inl ⟨by rfl,?_⟩) hS ?_
        ·intro W hSw;clear hS;go_simp
        simp only[Act.put,aA,aB,aC,aD,aE,aF];refine wT (i:=8) (v:=.pointer (some ⟨w.heap.size,5,none⟩)) rfl (by kernel_rfl) (by kernel_rfl) (by kernel_rfl) (fun _ _ _ h=>h) (Or.inl ⟨by rfl,?_⟩) hS ?_
        ·intro W hSw;clear hS;go_simp
        simp only[Act.put,aA,aB,aC,aD,aE,aF];refine wT (i:=9) (v:=.slice (some ⟨g,off,none⟩) n2 k2) rfl (by kernel_rfl) (by kernel_rfl) (by kernel_rfl) (fun _ _ _ h=>h) (Or.inl ⟨by rfl,?_⟩) hS ?_
        ·intro W hSw;clear hS;go_simp
        simp only[Act.put,aA,aB,aC,aD,aE,aF];refine wT (i:=10) (v:=.int .i64 (v:Int)) rfl (by kernel_rfl) (by kernel_rfl) (by kernel_rfl) (fun _ _ _ h=>h) (Or.inl ⟨by rfl,?_⟩) hS ?_
        ·intro W hSw;clear hS;go_simp
        simp only[Act.put,aA,aB,aC,aD,aE,aF];refine wT (i:=11) (v:=.pointer (some ⟨g,off+v*8,none⟩)) rfl (by kernel_rfl) (by kernel_rfl) (by kernel_rfl) (fun _ _ _ h=>h) (Or.inl ⟨by rfl,?_⟩) hS ?_
        ·intro W hSw;clear hS;go_simp
        simp only[Act.put,aA,aB,aC,aD,aE,aF];refine wT (i:=12) (v:=.pointer (some ⟨g,off+v*8+1,none⟩)) rfl (by kernel_rfl) (by kernel_rfl) (by kernel_rfl) (fun _ _ _ h=>h) (Or.inl ⟨by rfl,?_⟩) hS ?_
        ·intro W hSw;clear hS;go_simp
        simp only[Act.put,aA,aB,aC,aD,aE,aF];refine wT (i:=13) (v:=.int .i64 y') rfl (by kernel_rfl) (by kernel_rfl) (by kernel_rfl) (fun _ _ _ h=>h) (Or.inl ⟨by rfl,?_⟩) hS ?_
        ·intro W hSw;clear hS;go_simp
        simp only[Act.put,aA,aB,aC,aD,aE,aF];refine wT (i:=14) (v:=.pointer (some ⟨PB,1,none⟩)) rfl (by kernel_rfl) (by kernel_rfl) (by kernel_rfl) (fun _ _ _ h=>h) (Or.inl ⟨by rfl,?_⟩) hS ?_
        ·intro W hSw;clear hS;go_simp
        simp only[Act.put,aA,aB,aC,aD,aE,aF];refine wT (i:=15) (v:=.int .i64 y') rfl (by kernel_rfl) (by kernel_rfl) (by kernel_rfl) (fun _ _ _ h=>h) (Or.inl ⟨by rfl,?_⟩) hS ?_
        ·intro W hSw;clear hS;go_simp
        simp only[Act.put,aA,aB,aC,aD,aE,aF];refine wT (i:=16) (v:=.bool true) rfl (by kernel_rfl) (by kernel_rfl) (by kernel_rfl) (fun _ _ _ h=>h) (Or.inl ⟨by rfl,?_⟩) hS ?_
        ·intro W hSw;clear hS;go_simp
        simp only[Act.put,aA,aB,aC,aD,aE,aF];refine wT (i:=17) (v:=.bool true) rfl (by kernel_rfl) (by kernel_rfl) (by kernel_rfl) (fun _ _ _ h=>h) (Or.inl ⟨by rfl,?_⟩) hS ?_
        ·intro W hSw;clear hS;go_simp
        simp only[Act.put,aA,aB,aC,aD,aE,aF];refine wT (i:=18) (v:=undef) rfl (by kernel_rfl) (by kernel_rfl) (by kernel_rfl) (fun _ _ _ h=>h) (Or.inr ⟨by rfl,rfl⟩) hS ?_
        simp only[Act.put,aA,aB,aC,aD,aE,aF];refine wT (i:=19) (v:=undef) rfl (by kernel_rfl) (by kernel_rfl) (by kernel_rfl) (fun _ _ _ h=>h) (Or.inr ⟨by rfl,rfl⟩) hS ?_
        simp only[Act.put,aA,aB,aC,aD,aE,aF];refine wT (i:=20) (v:=undef) rfl (by kernel_rfl) (by kernel_rfl) (by kernel_rfl) (fun _ _ _ h=>h) (Or.inr ⟨by rfl,rfl⟩) hS ?_
        simp only[Act.put,aA,aB,aC,aD,aE,aF];refine wT (i:=21) (v:=undef) rfl (by kernel_rfl) (by kernel_rfl) (by kernel_rfl) (fun _ _ _ h=>h) (Or.inr ⟨by rfl,rfl⟩) hS ?_
        simp only[Act.put,aA,aB,aC,aD,aE,aF];refine wT (i:=22) (v:=undef) rfl (by kernel_rfl) (by kernel_rfl) (by kernel_rfl) (fun _ _ _ h=>h) (Or.inr ⟨by rfl,rfl⟩) hS ?_
        simp only[Act.put,aA,aB,aC,aD,aE,aF];refine wT (i:=23) (v:=undef) rfl (by kernel_rfl) (by kernel_rfl) (by kernel_rfl) (fun _ _ _ h=>h) (Or.inr ⟨by rfl,rfl⟩) hS ?_
        simp only[Act.put,aA,aB,aC,aD,aE,aF];refine wT (i:=24) (v:=undef) rfl (by kernel_rfl) (by kernel_rfl) (by kernel_rfl) (fun _ _ _ h=>h) (Or.inr ⟨by rfl,rfl⟩) hS ?_
        simp only[Act.put,aA,aB,aC,aD,aE,aF];refine wT (i:=25) (v:=undef) rfl (by kernel_rfl) (by kernel_rfl) (by kernel_rfl) (fun _ _ _ h=>h) (Or.inr ⟨by rfl,rfl⟩) hS ?_
        simp only[Act.put,aA,aB,aC,aD,aE,aF];refine wT (i:=26) (v:=undef) rfl (by kernel_rfl) (by kernel_rfl) (by kernel_rfl) (fun _ _ _ h=>h) (Or.inr ⟨by rfl,rfl⟩) hS ?_
        simp only[Act.put,aA,aB,aC,aD,aE,aF];refine wT (i:=27) (v:=.bool true) rfl (by kernel_rfl) (by kernel_rfl) (by kernel_rfl) (fun _ _ _ h=>h) (Or.inl ⟨by rfl,?_⟩) hS ?_
        ·intro W hSw;clear hS;go_simp
        simp only[Act.put,aA,aB,aC,aD,aE,aF];refine wT (i:=28) (v:=.bool true) rfl (by kernel_rfl) (by kernel_rfl) (by kernel_rfl) (fun _ _ _ h=>h) (Or.inl ⟨by rfl,?_⟩) hS ?_
        ·intro W hSw;clear hS;go_simp
        simp only[Act.put,aA,aB,aC,aD,aE,aF];have HBJ:Hid (Below w4.heap.size w4 wr.drew):=hS.2.2.2.2.2.2
        refine wpAnyH_done (by kernel_rfl) ?_ _
        clear hS;go_wp2
        go_ret;exact⟨⟨false,rfl,by simpa using HBAD.out⟩,(HB4.out.2.below HBJ.out).b⟩
       ·have hyy':(y' == y)=false:=by simpa using hyy
        by_cases hzz:z'=z
        ·have HBAD:Hid (¬ okBxs st bx):=HNF.out (fun h=>(h hx'0 HX0.out).2 hzz)
         subst hzz;clear HFS HNF hx'0 hyy;go_wp2
         refine wp_region_held (S:=(fun W=>W.cell? ⟨w.heap.size,5,none⟩=some (.slice (some ⟨g,off,none⟩) n2 k2)∧W.cell? ⟨g,off+v*8,none⟩=some (.int .i64 x')∧W.cell? ⟨g,off+v*8+1,none⟩=some (.int .i64 y')∧W.cell? ⟨g,off+v*8+2,none⟩=some (.int .i64 z')∧W.cell? ⟨PB,1,none⟩=some (.int .i64 y)∧W.cell? ⟨PB,2,none⟩=some (.int .i64 z')∧Below w4.heap.size w4 W)) (by kernel_rfl) ?_
         have hS:(fun W=>W.cell? ⟨w.heap.size,5,none⟩=some (.slice (some ⟨g,off,none⟩) n2 k2)∧W.cell? ⟨g,off+v*8,none⟩=some (.int .i64 x')∧W.cell? ⟨g,off+v*8+1,none⟩=some (.int .i64 y')∧W.cell? ⟨g,off+v*8+2,none⟩=some (.int .i64 z')∧W.cell? ⟨PB,1,none⟩=some (.int .i64 y)∧W.cell? ⟨PB,2,none⟩=some (.int .i64 z')∧Below w4.heap.size w4 W) wr.drew:=⟨(World.cell?_drew _ _).trans o5,(World.cell?_drew _ _).trans u0,(World.cell?_drew _ _).trans u1,(World.cell?_drew _ _).trans u2,(World.cell?_drew _ _).trans y1,(World.cell?_drew _ _).trans y2,HBI.out.drew⟩
         simp only[] at hS
         refine wT (i:=0) (v:=.pointer (some ⟨w.heap.size,5,none⟩)) rfl (by kernel_rfl) (by kernel_rfl) (by kernel_rfl) (fun _ _ _ h=>h) (Or.inl ⟨by rfl,?_⟩) hS ?_
         ·intro W hSw;clear hS;go_simp
         simp only[Act.put,aA,aB,aC,aD,aE]
         refine wT (i:=1) (v:=.slice (some ⟨g,off,none⟩) n2 k2) rfl (by kernel_rfl) (by kernel_rfl) (by kernel_rfl) (fun _ _ _ h=>h) (Or.inl ⟨by rfl,?_⟩) hS ?_
         ·intro W hSw;clear hS;go_simp
         simp only[Act.put,aA,aB,aC,aD,aE,aF];refine wT (i:=2) (v:=.int .i64 (v:Int)) rfl (by kernel_rfl) (by kernel_rfl) (by kernel_rfl) (fun _ _ _ h=>h) (Or.inl ⟨by rfl,?_⟩) hS ?_
         ·intro W hSw;clear hS;go_simp
         simp only[Act.put,aA,aB,aC,aD,aE,aF];refine wT (i:=3) (v:=.pointer (some ⟨g,off+v*8,none⟩)) rfl (by kernel_rfl) (by kernel_rfl) (by kernel_rfl) (fun _ _ _ h=>h) (Or.inl ⟨by rfl,?_⟩) hS ?_
         ·intro W hSw;clear hS;go_simp
         simp only[Act.put,aA,aB,aC,aD,aE,aF];refine wT (i:=4) (v:=.pointer (some ⟨g,off+v*8,none⟩)) rfl (by kernel_rfl) (by kernel_rfl) (by kernel_rfl) (fun _ _ _ h=>h) (Or.inl ⟨by rfl,?_⟩) hS ?_
         ·intro W hSw;clear hS;go_simp
         simp only[Act.put,aA,aB,aC,aD,aE,aF];refine wT (i:=5) (v:=.int .i64 x') rfl (by kernel_rfl) (by kernel_rfl) (by kernel_rfl) (fun _ _ _ h=>h) (Or.inl ⟨by rfl,?_⟩) hS ?_
         ·intro W hSw;clear hS;go_simp
         simp only[Act.put,aA,aB,aC,aD,aE,aF];refine wT (i:=6) (v:=.bool true) rfl (by kernel_rfl) (by kernel_rfl) (by kernel_rfl) (fun _ _ _ h=>h) (Or.inl ⟨by rfl,?_⟩) hS ?_
         ·intro W hSw;clear hS;go_simp
         simp only[Act.put,aA,aB,aC,aD,aE,aF];refine wT (i:=7) (v:=.bool true) rfl (by kernel_rfl) (by kernel_rfl) (by kernel_rfl) (fun _ _ _ h=>h) (Or.inl ⟨by rfl,?_⟩) hS ?_
         ·intro W hSw;clear hS;go_simp
         simp only[Act.put,aA,aB,aC,aD,aE,aF];refine wT (i:=8) (v:=.pointer (some ⟨w.heap.size,5,none⟩)) rfl (by kernel_rfl) (by kernel_rfl) (by kernel_rfl) (fun _ _ _ h=>h) (Or.inl ⟨by rfl,?_⟩) hS ?_
         ·intro W hSw;clear hS;go_simp
         simp only[Act.put,aA,aB,aC,aD,aE,aF];refine wT (i:=9) (v:=.slice (some ⟨g,off,none⟩) n2 k2) rfl (by kernel_rfl) (by kernel_rfl) (by kernel_rfl) (fun _ _ _ h=>h) (Or.inl ⟨by rfl,?_⟩) hS ?_
         ·intro W hSw;clear hS;go_simp
         simp only[Act.put,aA,aB,aC,aD,aE,aF];refine wT (i:=10) (v:=.int .i64 (v:Int)) rfl (by kernel_rfl) (by kernel_rfl) (by kernel_rfl) (fun _ _ _ h=>h) (Or.inl ⟨by rfl,?_⟩) hS ?_
         ·intro W hSw;clear hS;go_simp
         simp only[Act.put,aA,aB,aC,aD,aE,aF];refine wT (i:=11) (v:=.pointer (some ⟨g,off+v*8,none⟩)) rfl (by kernel_rfl) (by kernel_rfl) (by kernel_rfl) (fun _ _ _ h=>h) (Or.inl ⟨by rfl,?_⟩) hS ?_
         ·intro W hSw;clear hS;go_simp
         simp only[Act.put,aA,aB,aC,aD,aE,aF];refine wT (i:=12) (v:=.pointer (some ⟨g,off+v*8+1,none⟩)) rfl (by kernel_rfl) (by kernel_rfl) (by kernel_rfl) (fun _ _ _ h=>h) (Or.inl ⟨by rfl,?_⟩) hS ?_
         ·intro W hSw;clear hS;go_simp
         simp only[Act.put,aA,aB,aC,aD,aE,aF];refine wT (i:=13) (v:=.int .i64 y') rfl (by kernel_rfl) (by kernel_rfl) (by kernel_rfl) (fun _ _ _ h=>h) (Or.inl ⟨by rfl,?_⟩) hS ?_
         ·intro W hSw;clear hS;go_simp
         simp only[Act.put,aA,aB,aC,aD,aE,aF];refine wT (i:=14) (v:=.pointer (some ⟨PB,1,none⟩)) rfl (by kernel_rfl) (by kernel_rfl) (by kernel_rfl) (fun _ _ _ h=>h) (Or.inl ⟨by rfl,?_⟩) hS ?_
         ·intro W hSw;clear hS;go_simp
         simp only[Act.put,aA,aB,aC,aD,aE,aF];refine wT (i:=15) (v:=.int .i64 y) rfl (by kernel_rfl) (by kernel_rfl) (by kernel_rfl) (fun _ _ _ h=>h) (Or.inl ⟨by rfl,?_⟩) hS ?_
         ·intro W hSw;clear hS;go_simp
         simp only[Act.put,aA,aB,aC,aD,aE,aF];refine wT (i:=16) (v:=.bool false) rfl (by kernel_rfl) (by kernel_rfl) (by kernel_rfl) (fun _ _ _ h=>h) (Or.inl ⟨by rfl,?_⟩) hS ?_
         ·intro W hSw;clear hS;go_simp
         simp only[Act.put,aA,aB,aC,aD,aE,aF];refine wT (i:=17) (v:=.bool false) rfl (by kernel_rfl) (by kernel_rfl) (by kernel_rfl) (fun _ _ _ h=>h) (Or.inl ⟨by rfl,?_⟩) hS ?_
         ·intro W hSw;clear hS;go_simp
         simp only[Act.put,aA,aB,aC,aD,aE,aF];refine wT (i:=18) (v:=.pointer (some ⟨w.heap.size,5,none⟩)) rfl (by kernel_rfl) (by kernel_rfl) (by kernel_rfl) (fun _ _ _ h=>h) (Or.inl ⟨by rfl,?_⟩) hS ?_
         ·intro W hSw;clear hS;go_simp
         simp only[Act.put,aA,aB,aC,aD,aE,aF];refine wT (i:=19) (v:=.slice (some ⟨g,off,none⟩) n2 k2) rfl (by kernel_rfl) (by kernel_rfl) (by kernel_rfl) (fun _ _ _ h=>h) (Or.inl ⟨by rfl,?_⟩) hS ?_
         ·intro W hSw;clear hS;go_simp
         simp only[Act.put,aA,aB,aC,aD,aE,aF];refine wT (i:=20) (v:=.int .i64 (v:Int)) rfl (by kernel_rfl) (by kernel_rfl) (by kernel_rfl) (fun _ _ _ h=>h) (Or.inl ⟨by rfl,?_⟩) hS ?_
         ·intro W hSw;clear hS;go_simp
         simp only[Act.put,aA,aB,aC,aD,aE,aF];refine wT (i:=21) (v:=.pointer (some ⟨g,off+v*8,none⟩)) rfl (by kernel_rfl) (by kernel_rfl) (by kernel_rfl) (fun _ _ _ h=>h) (Or.inl ⟨by rfl,?_⟩) hS ?_
         ·intro W hSw;clear hS;go_simp
         simp only[Act.put,aA,aB,aC,aD,aE,aF];refine wT (i:=22) (v:=.pointer (some ⟨g,off+v*8+2,none⟩)) rfl (by kernel_rfl) (by kernel_rfl) (by kernel_rfl) (fun _ _ _ h=>h) (Or.inl ⟨by rfl,?_⟩) hS ?_
         ·intro W hSw;clear hS;go_simp
         simp only[Act.put,aA,aB,aC,aD,aE,aF];refine wT (i:=23) (v:=.int .i64 z') rfl (by kernel_rfl) (by kernel_rfl) (by kernel_rfl) (fun _ _ _ h=>h) (Or.inl ⟨by rfl,?_⟩) hS ?_
         ·intro W hSw;clear hS;go_simp
         simp only[Act.put,aA,aB,aC,aD,aE,aF];refine wT (i:=24) (v:=.pointer (some ⟨PB,2,none⟩)) rfl (by kernel_rfl) (by kernel_rfl) (by kernel_rfl) (fun _ _ _ h=>h) (Or.inl ⟨by rfl,?_⟩) hS ?_
         ·intro W hSw;clear hS;go_simp
         simp only[Act.put,aA,aB,aC,aD,aE,aF];refine wT (i:=25) (v:=.int .i64 z') rfl (by kernel_rfl) (by kernel_rfl) (by kernel_rfl) (fun _ _ _ h=>h) (Or.inl ⟨by rfl,?_⟩) hS ?_
         ·intro W hSw;clear hS;go_simp
         simp only[Act.put,aA,aB,aC,aD,aE,aF];refine wT (i:=26) (v:=.bool true) rfl (by kernel_rfl) (by kernel_rfl) (by kernel_rfl) (fun _ _ _ h=>h) (Or.inl ⟨by rfl,?_⟩) hS ?_
         ·intro W hSw;clear hS;go_simp
         simp only[Act.put,aA,aB,aC,aD,aE,aF];refine wT (i:=27) (v:=.bool true) rfl (by kernel_rfl) (by kernel_rfl) (by kernel_rfl) (fun _ _ _ h=>h) (Or.inl ⟨by rfl,?_⟩) hS ?_
         ·intro W hSw;clear hS;go_simp
         simp only[Act.put,aA,aB,aC,aD,aE,aF];refine wT (i:=28) (v:=.bool true) rfl (by kernel_rfl) (by kernel_rfl) (by kernel_rfl) (fun _ _ _ h=>h) (Or.inl ⟨by rfl,?_⟩) hS ?_
         ·intro W hSw;clear hS;go_simp
         simp only[Act.put,aA,aB,aC,aD,aE,aF];have HBJ:Hid (Below w4.heap.size w4 wr.drew):=hS.2.2.2.2.2.2
         refine wpAnyH_done (by kernel_rfl) ?_ _
         clear hS;go_wp2
         go_ret;exact⟨⟨false,rfl,by simpa using HBAD.out⟩,(HB4.out.2.below HBJ.out).b⟩
        ·have hzz':(z' == z)=false:=by simpa using hzz
         have FAR:Hid (∀ i' (hi:i'<bx.length),i'<v+1→far bx[i'] ⟨1,y,z,e,i,r,d,l⟩):=HFS.out (fun _ _=>⟨hyy,hzz⟩)
         clear HFS HNF hx'0 hyy hzz;go_wp2
         refine wp_region_held (S:=(fun W=>W.cell? ⟨w.heap.size,5,none⟩=some (.slice (some ⟨g,off,none⟩) n2 k2)∧W.cell? ⟨g,off+v*8,none⟩=some (.int .i64 x')∧W.cell? ⟨g,off+v*8+1,none⟩=some (.int .i64 y')∧W.cell? ⟨g,off+v*8+2,none⟩=some (.int .i64 z')∧W.cell? ⟨PB,1,none⟩=some (.int .i64 y)∧W.cell? ⟨PB,2,none⟩=some (.int .i64 z)∧Below w4.heap.size w4 W)) (by kernel_rfl) ?_
         have hS:(fun W=>W.cell? ⟨w.heap.size,5,none⟩=some (.slice (some ⟨g,off,none⟩) n2 k2)∧W.cell? ⟨g,off+v*8,none⟩=some (.int .i64 x')∧W.cell? ⟨g,off+v*8+1,none⟩=some (.int .i64 y')∧W.cell? ⟨g,off+v*8+2,none⟩=some (.int .i64 z')∧W.cell? ⟨PB,1,none⟩=some (.int .i64 y)∧W.cell? ⟨PB,2,none⟩=some (.int .i64 z)∧Below w4.heap.size w4 W) wr.drew:=⟨(World.cell?_drew _ _).trans o5,(World.cell?_drew _ _).trans u0,(World.cell?_drew _ _).trans u1,(World.cell?_drew _ _).trans u2,(World.cell?_drew _ _).trans y1,(World.cell?_drew _ _).trans y2,HBI.out.drew⟩
         simp only[] at hS
         refine wT (i:=0) (v:=.pointer (some ⟨w.heap.size,5,none⟩)) rfl (by kernel_rfl) (by kernel_rfl) (by kernel_rfl) (fun _ _ _ h=>h) (Or.inl ⟨by rfl,?_⟩) hS ?_
         ·intro W hSw;clear hS;go_simp
         simp only[Act.put,aA,aB,aC,aD,aE]
         refine wT (i:=1) (v:=.slice (some ⟨g,off,none⟩) n2 k2) rfl (by kernel_rfl) (by kernel_rfl) (by kernel_rfl) (fun _ _ _ h=>h) (Or.inl ⟨by rfl,?_⟩) hS ?_
         ·intro W hSw;clear hS;go_simp
         simp only[Act.put,aA,aB,aC,aD,aE,aF];refine wT (i:=2) (v:=.int .i64 (v:Int)) rfl (by kernel_rfl) (by kernel_rfl) (by kernel_rfl) (fun _ _ _ h=>h) (Or.inl ⟨by rfl,?_⟩) hS ?_
         ·intro W hSw;clear hS;go_simp
         simp only[Act.put,aA,aB,aC,aD,aE,aF];refine wT (i:=3) (v:=.pointer (some ⟨g,off+v*8,none⟩)) rfl (by kernel_rfl) (by kernel_rfl) (by kernel_rfl) (fun _ _ _ h=>h) (Or.inl ⟨by rfl,?_⟩) hS ?_
         ·intro W hSw;clear hS;go_simp
         simp only[Act.put,aA,aB,aC,aD,aE,aF];refine wT (i:=4) (v:=.pointer (some ⟨g,off+v*8,none⟩)) rfl (by kernel_rfl) (by kernel_rfl) (by kernel_rfl) (fun _ _ _ h=>h) (Or.inl ⟨by rfl,?_⟩) hS ?_
         ·intro W hSw;clear hS;go_simp
         simp only[Act.put,aA,aB,aC,aD,aE,aF];refine wT (i:=5) (v:=.int .i64 x') rfl (by kernel_rfl) (by kernel_rfl) (by kernel_rfl) (fun _ _ _ h=>h) (Or.inl ⟨by rfl,?_⟩) hS ?_
         ·intro W hSw;clear hS;go_simp
         simp only[Act.put,aA,aB,aC,aD,aE,aF];refine wT (i:=6) (v:=.bool true) rfl (by kernel_rfl) (by kernel_rfl) (by kernel_rfl) (fun _ _ _ h=>h) (Or.inl ⟨by rfl,?_⟩) hS ?_
         ·intro W hSw;clear hS;go_simp
         simp only[Act.put,aA,aB,aC,aD,aE,aF];refine wT (i:=7) (v:=.bool true) rfl (by kernel_rfl) (by kernel_rfl) (by kernel_rfl) (fun _ _ _ h=>h) (Or.inl ⟨by rfl,?_⟩) hS ?_
         ·intro W hSw;clear hS;go_simp
         simp only[Act.put,aA,aB,aC,aD,aE,aF];refine wT (i:=8) (v:=.pointer (some ⟨w.heap.size,5,none⟩)) rfl (by kernel_rfl) (by kernel_rfl) (by kernel_rfl) (fun _ _ _ h=>h) (Or.inl ⟨by rfl,?_⟩) hS ?_
         ·intro W hSw;clear hS;go_simp
         simp only[Act.put,aA,aB,aC,aD,aE,aF];refine wT (i:=9) (v:=.slice (some ⟨g,off,none⟩) n2 k2) rfl (by kernel_rfl) (by kernel_rfl) (by kernel_rfl) (fun _ _ _ h=>h) (Or.inl ⟨by rfl,?_⟩) hS ?_
         ·intro W hSw;clear hS;go_simp
         simp only[Act.put,aA,aB,aC,aD,aE,aF];refine wT (i:=10) (v:=.int .i64 (v:Int)) rfl (by kernel_rfl) (by kernel_rfl) (by kernel_rfl) (fun _ _ _ h=>h) (Or.inl ⟨by rfl,?_⟩) hS ?_
         ·intro W hSw;clear hS;go_simp
         simp only[Act.put,aA,aB,aC,aD,aE,aF];refine wT (i:=11) (v:=.pointer (some ⟨g,off+v*8,none⟩)) rfl (by kernel_rfl) (by kernel_rfl) (by kernel_rfl) (fun _ _ _ h=>h) (Or.inl ⟨by rfl,?_⟩) hS ?_
         ·intro W hSw;clear hS;go_simp
         simp only[Act.put,aA,aB,aC,aD,aE,aF];refine wT (i:=12) (v:=.pointer (some ⟨g,off+v*8+1,none⟩)) rfl (by kernel_rfl) (by kernel_rfl) (by kernel_rfl) (fun _ _ _ h=>h) (Or.inl ⟨by rfl,?_⟩) hS ?_
         ·intro W hSw;clear hS;go_simp
         simp only[Act.put,aA,aB,aC,aD,aE,aF];refine wT (i:=13) (v:=.int .i64 y') rfl (by kernel_rfl) (by kernel_rfl) (by kernel_rfl) (fun _ _ _ h=>h) (Or.inl ⟨by rfl,?_⟩) hS ?_
         ·intro W hSw;clear hS;go_simp
         simp only[Act.put,aA,aB,aC,aD,aE,aF];refine wT (i:=14) (v:=.pointer (some ⟨PB,1,none⟩)) rfl (by kernel_rfl) (by kernel_rfl) (by kernel_rfl) (fun _ _ _ h=>h) (Or.inl ⟨by rfl,?_⟩) hS ?_
         ·intro W hSw;clear hS;go_simp
         simp only[Act.put,aA,aB,aC,aD,aE,aF];refine wT (i:=15) (v:=.int .i64 y) rfl (by kernel_rfl) (by kernel_rfl) (by kernel_rfl) (fun _ _ _ h=>h) (Or.inl ⟨by rfl,?_⟩) hS ?_
         ·intro W hSw;clear hS;go_simp
         simp only[Act.put,aA,aB,aC,aD,aE,aF];refine wT (i:=16) (v:=.bool false) rfl (by kernel_rfl) (by kernel_rfl) (by kernel_rfl) (fun _ _ _ h=>h) (Or.inl ⟨by rfl,?_⟩) hS ?_
         ·intro W hSw;clear hS;go_simp
         simp only[Act.put,aA,aB,aC,aD,aE,aF];refine wT (i:=17) (v:=.bool false) rfl (by kernel_rfl) (by kernel_rfl) (by kernel_rfl) (fun _ _ _ h=>h) (Or.inl ⟨by rfl,?_⟩) hS ?_
         ·intro W hSw;clear hS;go_simp
         simp only[Act.put,aA,aB,aC,aD,aE,aF];refine wT (i:=18) (v:=.pointer (some ⟨w.heap.size,5,none⟩)) rfl (by kernel_rfl) (by kernel_rfl) (by kernel_rfl) (fun _ _ _ h=>h) (Or.inl ⟨by rfl,?_⟩) hS ?_
         ·intro W hSw;clear hS;go_simp
         simp only[Act.put,aA,aB,aC,aD,aE,aF];refine wT (i:=19) (v:=.slice (some ⟨g,off,none⟩) n2 k2) rfl (by kernel_rfl) (by kernel_rfl) (by kernel_rfl) (fun _ _ _ h=>h) (Or.inl ⟨by rfl,?_⟩) hS ?_
         ·intro W hSw;clear hS;go_simp
         simp only[Act.put,aA,aB,aC,aD,aE,aF];refine wT (i:=20) (v:=.int .i64 (v:Int)) rfl (by kernel_rfl) (by kernel_rfl) (by kernel_rfl) (fun _ _ _ h=>h) (Or.inl ⟨by rfl,?_⟩) hS ?_
         ·intro W hSw;clear hS;go_simp
         simp only[Act.put,aA,aB,aC,aD,aE,aF];refine wT (i:=21) (v:=.pointer (some ⟨g,off+v*8,none⟩)) rfl (by kernel_rfl) (by kernel_rfl) (by kernel_rfl) (fun _ _ _ h=>h) (Or.inl ⟨by rfl,?_⟩) hS ?_
         ·intro W hSw;clear hS;go_simp
         simp only[Act.put,aA,aB,aC,aD,aE,aF];refine wT (i:=22) (v:=.pointer (some ⟨g,off+v*8+2,none⟩)) rfl (by kernel_rfl) (by kernel_rfl) (by kernel_rfl) (fun _ _ _ h=>h) (Or.inl ⟨by rfl,?_⟩) hS ?_
         ·intro W hSw;clear hS;go_simp
         simp only[Act.put,aA,aB,aC,aD,aE,aF];refine wT (i:=23) (v:=.int .i64 z') rfl (by kernel_rfl) (by kernel_rfl) (by kernel_rfl) (fun _ _ _ h=>h) (Or.inl ⟨by rfl,?_⟩) hS ?_
         ·intro W hSw;clear hS;go_simp
         simp only[Act.put,aA,aB,aC,aD,aE,aF];refine wT (i:=24) (v:=.pointer (some ⟨PB,2,none⟩)) rfl (by kernel_rfl) (by kernel_rfl) (by kernel_rfl) (fun _ _ _ h=>h) (Or.inl ⟨by rfl,?_⟩) hS ?_
         ·intro W hSw;clear hS;go_simp
         simp only[Act.put,aA,aB,aC,aD,aE,aF];refine wT (i:=25) (v:=.int .i64 z) rfl (by kernel_rfl) (by kernel_rfl) (by kernel_rfl) (fun _ _ _ h=>h) (Or.inl ⟨by rfl,?_⟩) hS ?_
         ·intro W hSw;clear hS;go_simp
         simp only[Act.put,aA,aB,aC,aD,aE,aF];refine wT (i:=26) (v:=.bool false) rfl (by kernel_rfl) (by kernel_rfl) (by kernel_rfl) (fun _ _ _ h=>h) (Or.inl ⟨by rfl,?_⟩) hS ?_
         ·intro W hSw;clear hS;go_simp
         simp only[Act.put,aA,aB,aC,aD,aE,aF];refine wT (i:=27) (v:=.bool false) rfl (by kernel_rfl) (by kernel_rfl) (by kernel_rfl) (fun _ _ _ h=>h) (Or.inl ⟨by rfl,?_⟩) hS ?_
         ·intro W hSw;clear hS;go_simp
         simp only[Act.put,aA,aB,aC,aD,aE,aF];refine wT (i:=28) (v:=.bool false) rfl (by kernel_rfl) (by kernel_rfl) (by kernel_rfl) (fun _ _ _ h=>h) (Or.inl ⟨by rfl,?_⟩) hS ?_
         ·intro W hSw;clear hS;go_simp
         simp only[Act.put,aA,aB,aC,aD,aE,aF];have HBJ:Hid (Below w4.heap.size w4 wr.drew):=hS.2.2.2.2.2.2
         refine wpAnyH_done (by kernel_rfl) ?_ _
         clear hS;go_wp2
         go_roundw
         case rel=>exact⟨v+1,by omega,by go_num,FAR.out,HBJ.out⟩
         case measure=>simp[intOf];omega
     ·have hve:v=k:=by omega
      subst hve;go_wp2
      go_roundw
      case rel=>
       refine⟨v+1,q,by omega,by go_num,by go_num,by omega,?_,HR.out.good HOK.out,HR.out.fars HF.out,HB4.out.2.below HBI.out⟩
       rw[HR.out.bn,← HQQ.out]
       simp
      case measure=>simp[intOf];omega
   ·have hx1':(x != 1)=true:=by simpa using hx1
    have HX1:Hid (x≠1):=hx1
    clear hx1;have HW3:Hid (obS w ⟨c0,c1,c2,c3,fs,bx,ff,qu,lo,st⟩ ⟨a1,n1,k1,some ⟨g,off,none⟩,n2,k2,a3,n3,k3,a4,n4,k4⟩ (wr.alloc (.cells #[.int .i64 x,.int .i64 y,.int .i64 z,.bool e,.int .u32 (i:Int),.bool r,.int .i64 d,.slice ao m c] 97))):=HS.out.below ((Below.refl _ _).alloc (Nat.le_refl _) _)
    have p9:=HW3.out.p.cell 9 _ rfl
    have p5:=HW3.out.p.cell 5 _ rfl
    go_wp2_with (first
     | (refine wpList_load_mid (P:=Tryz.prog) rfl 97 _ rfl g (off+k*8) rfl _ _ HRG.out Tryz.underlying97 rfl sz95 ?_)
     | (go_at_call 52;refine (HVF.out _).mono ?_;rintro o w4 ⟨rfl,hb4⟩;have HB4:Hid (blk w4 wr.heap.size [.int .i64 x,.int .i64 y,.int .i64 z,.bool e,.int .u32 (i:Int),.bool r,.int .i64 d,.slice ao m c] 97∧obS w ⟨c0,c1,c2,c3,fs,bx,ff,qu,lo,st⟩ ⟨a1,n1,k1,some ⟨g,off,none⟩,n2,k2,a3,n3,k3,a4,n4,k4⟩ w4):=⟨(blk.new wr [.int .i64 x,.int .i64 y,.int .i64 z,.bool e,.int .u32 (i:Int),.bool r,.int .i64 d,.slice ao m c] 97).below hb4,HW3.out.below hb4⟩;have y0:=HB4.out.1.cell 0 _ rfl;have y1:=HB4.out.1.cell 1 _ rfl;have y2:=HB4.out.1.cell 2 _ rfl;have o5:=HB4.out.2.p.cell 5 _ rfl;clear hb4 p5 p9))
    clear y0 y1 y2 o5 HRG HS x5 hwz HW3 HBAD0;generalize wr.heap.size=PB at *;go_loopw [6] (fun j wr=>∃ v:Nat,v≤k∧j = .int .i64 (v:Int)∧(∀ i' (hi:i'<bx.length),i'<v→far bx[i'] ⟨x,y,z,e,i,r,d,l⟩)∧Below w4.heap.size w4 wr) (fun j _=>k-(intOf j).toNat)
    case atStart=>exact⟨0,Nat.zero_le _,rfl,fun i hi h=>absurd h (Nat.not_lt_zero _),Below.refl _ _⟩
    case round=>
     obtain⟨v,hvk0,rfl,hF,hbi⟩:=hrel
     have HBI:Hid (Below w4.heap.size w4 wr):=hbi
     have HF:Hid (∀ i' (hi:i'<bx.length),i'<v→far bx[i'] ⟨x,y,z,e,i,r,d,l⟩):=hF
     have y1:=(HB4.out.1.below hbi).cell 1 _ rfl
     have y2:=(HB4.out.1.below hbi).cell 2 _ rfl
     have o5:=(HB4.out.2.below hbi).p.cell 5 _ rfl
     clear hF hbi;by_cases hvk:v<k
     ·have hvl:v<bx.length:=by have:=HL.out;omega
      have hvn:v<n2:=by omega
      obtain⟨ao',m',c',hx⟩:=HC.out v hvl
      have hx':=hx.below (HB4.out.2.below HBI.out).b
      have u0:=hx'.c0
      have u1:=hx'.c1
      have u2:=hx'.c2
      have HFS:Hid (far bx[v] ⟨x,y,z,e,i,r,d,l⟩→∀ i' (hi:i'<bx.length),i'<v+1→far bx[i'] ⟨x,y,z,e,i,r,d,l⟩):=fun h1=>ok_snocP (p:=fun t=>far t ⟨x,y,z,e,i,r,d,l⟩) hvl HF.out h1
      have HNF:Hid (¬ far bx[v] ⟨x,y,z,e,i,r,d,l⟩→¬ okBxs st bx):=HR.out.bf v hvl hvk
      obtain⟨b',hb'⟩ : ∃ b',bx[v]=b':=⟨_,rfl⟩
      rw[hb'] at u0 u1 u2 HFS HNF
      obtain⟨x',y',z',e',i',r',d',l'⟩:=b'
      simp only[] at u0 u1 u2
      clear hx hx' hb';by_cases hx'0:x'=0
      ·have FAR:Hid (∀ i' (hi:i'<bx.length),i'<v+1→far bx[i'] ⟨x,y,z,e,i,r,d,l⟩):=HFS.out (fun h=>absurd hx'0 h)
       subst hx'0;clear HFS HNF;go_wp2
       refine wp_region_held (S:=(fun W=>W.cell? ⟨w.heap.size,5,none⟩=some (.slice (some ⟨g,off,none⟩) n2 k2)∧W.cell? ⟨g,off+v*8,none⟩=some (.int .i64 0)∧W.cell? ⟨g,off+v*8+1,none⟩=some (.int .i64 y')∧W.cell? ⟨g,off+v*8+2,none⟩=some (.int .i64 z')∧W.cell? ⟨PB,1,none⟩=some (.int .i64 y)∧W.cell? ⟨PB,2,none⟩=some (.int .i64 z)∧Below w4.heap.size w4 W)) (by kernel_rfl) ?_
       have hS:(fun W=>W.cell? ⟨w.heap.size,5,none⟩=some (.slice (some ⟨g,off,none⟩) n2 k2)∧W.cell? ⟨g,off+v*8,none⟩=some (.int .i64 0)∧W.cell? ⟨g,off+v*8+1,none⟩=some (.int .i64 y')∧W.cell? ⟨g,off+v*8+2,none⟩=some (.int .i64 z')∧W.cell? ⟨PB,1,none⟩=some (.int .i64 y)∧W.cell? ⟨PB,2,none⟩=some (.int .i64 z)∧Below w4.heap.size w4 W) wr.drew:=⟨(World.cell?_drew _ _).trans o5,(World.cell?_drew _ _).trans u0,(World.cell?_drew _ _).trans u1,(World.cell?_drew _ _).trans u2,(World.cell?_drew _ _).trans y1,(World.cell?_drew _ _).trans y2,HBI.out.drew⟩
       simp only[] at hS
       refine wT (i:=0) (v:=.pointer (some ⟨w.heap.size,5,none⟩)) rfl (by kernel_rfl) (by kernel_rfl) (by kernel_rfl) (fun _ _ _ h=>h) (Or.inl ⟨by rfl,?_⟩) hS ?_
       ·intro W hSw;clear hS;go_simp
       simp only[Act.put,aA,aB,aC,aD,aE]
       refine wT (i:=1) (v:=.slice (some ⟨g,off,none⟩) n2 k2) rfl (by kernel_rfl) (by kernel_rfl) (by kernel_rfl) (fun _ _ _ h=>h) (Or.inl ⟨by rfl,?_⟩) hS ?_
       ·intro W hSw;clear hS;go_simp
       simp only[Act.put,aA,aB,aC,aD,aE,aF];refine wT (i:=2) (v:=.int .i64 (v:Int)) rfl (by kernel_rfl) (by kernel_rfl) (by kernel_rfl) (fun _ _ _ h=>h) (Or.inl ⟨by rfl,?_⟩) hS ?_
       ·intro W hSw;clear hS;go_simp
       simp only[Act.put,aA,aB,aC,aD,aE,aF];refine wT (i:=3) (v:=.pointer (some ⟨g,off+v*8,none⟩)) rfl (by kernel_rfl) (by kernel_rfl) (by kernel_rfl) (fun _ _ _ h=>h) (Or.inl ⟨by rfl,?_⟩) hS ?_
       ·intro W hSw;clear hS;go_simp
       simp only[Act.put,aA,aB,aC,aD,aE,aF];refine wT (i:=4) (v:=.pointer (some ⟨g,off+v*8,none⟩)) rfl (by kernel_rfl) (by kernel_rfl) (by kernel_rfl) (fun _ _ _ h=>h) (Or.inl ⟨by rfl,?_⟩) hS ?_
       ·intro W hSw;clear hS;go_simp
       simp only[Act.put,aA,aB,aC,aD,aE,aF];refine wT (i:=5) (v:=.int .i64 0) rfl (by kernel_rfl) (by kernel_rfl) (by kernel_rfl) (fun _ _ _ h=>h) (Or.inl ⟨by rfl,?_⟩) hS ?_
       ·intro W hSw;clear hS;go_simp
       simp only[Act.put,aA,aB,aC,aD,aE,aF];refine wT (i:=6) (v:=.bool false) rfl (by kernel_rfl) (by kernel_rfl) (by kernel_rfl) (fun _ _ _ h=>h) (Or.inl ⟨by rfl,?_⟩) hS ?_
       ·intro W hSw;clear hS;go_simp
       simp only[Act.put,aA,aB,aC,aD,aE,aF];refine wT (i:=7) (v:=.bool false) rfl (by kernel_rfl) (by kernel_rfl) (by kernel_rfl) (fun _ _ _ h=>h) (Or.inl ⟨by rfl,?_⟩) hS ?_
       ·intro W hSw;clear hS;go_simp
       simp only[Act.put,aA,aB,aC,aD,aE,aF];refine wT (i:=8) (v:=undef) rfl (by kernel_rfl) (by kernel_rfl) (by kernel_rfl) (fun _ _ _ h=>h) (Or.inr ⟨by rfl,rfl⟩) hS ?_
       simp only[Act.put,aA,aB,aC,aD,aE,aF];refine wT (i:=9) (v:=undef) rfl (by kernel_rfl) (by kernel_rfl) (by kernel_rfl) (fun _ _ _ h=>h) (Or.inr ⟨by rfl,rfl⟩) hS ?_
       simp only[Act.put,aA,aB,aC,aD,aE,aF];refine wT (i:=10) (v:=undef) rfl (by kernel_rfl) (by kernel_rfl) (by kernel_rfl) (fun _ _ _ h=>h) (Or.inr ⟨by rfl,rfl⟩) hS ?_
       simp only[Act.put,aA,aB,aC,aD,aE,aF];refine wT (i:=11) (v:=undef) rfl (by kernel_rfl) (by kernel_rfl) (by kernel_rfl) (fun _ _ _ h=>h) (Or.inr ⟨by rfl,rfl⟩) hS ?_
       simp only[Act.put,aA,aB,aC,aD,aE,aF];refine wT (i:=12) (v:=undef) rfl (by kernel_rfl) (by kernel_rfl) (by kernel_rfl) (fun _ _ _ h=>h) (Or.inr ⟨by rfl,rfl⟩) hS ?_
       simp only[Act.put,aA,aB,aC,aD,aE,aF];refine wT (i:=13) (v:=undef) rfl (by kernel_rfl) (by kernel_rfl) (by kernel_rfl) (fun _ _ _ h=>h) (Or.inr ⟨by rfl,rfl⟩) hS ?_
       simp only[Act.put,aA,aB,aC,aD,aE,aF];refine wT (i:=14) (v:=undef) rfl (by kernel_rfl) (by kernel_rfl) (by kernel_rfl) (fun _ _ _ h=>h) (Or.inr ⟨by rfl,rfl⟩) hS ?_
       simp only[Act.put,aA,aB,aC,aD,aE,aF];refine wT (i:=15) (v:=undef) rfl (by kernel_rfl) (by kernel_rfl) (by kernel_rfl) (fun _ _ _ h=>h) (Or.inr ⟨by rfl,rfl⟩) hS ?_
       simp only[Act.put,aA,aB,aC,aD,aE,aF];refine wT (i:=16) (v:=undef) rfl (by kernel_rfl) (by kernel_rfl) (by kernel_rfl) (fun _ _ _ h=>h) (Or.inr ⟨by rfl,rfl⟩) hS ?_
       simp only[Act.put,aA,aB,aC,aD,aE,aF];refine wT (i:=17) (v:=undef) rfl (by kernel_rfl) (by kernel_rfl) (by kernel_rfl) (fun _ _ _ h=>h) (Or.inr ⟨by rfl,rfl⟩) hS ?_
       simp only[Act.put,aA,aB,aC,aD,aE,aF];refine wT (i:=18) (v:=undef) rfl (by kernel_rfl) (by kernel_rfl) (by kernel_rfl) (fun _ _ _ h=>h) (Or.inr ⟨by rfl,rfl⟩) hS ?_
       simp only[Act.put,aA,aB,aC,aD,aE,aF];refine wT (i:=19) (v:=undef) rfl (by kernel_rfl) (by kernel_rfl) (by kernel_rfl) (fun _ _ _ h=>h) (Or.inr ⟨by rfl,rfl⟩) hS ?_
       simp only[Act.put,aA,aB,aC,aD,aE,aF];refine wT (i:=20) (v:=undef) rfl (by kernel_rfl) (by kernel_rfl) (by kernel_rfl) (fun _ _ _ h=>h) (Or.inr ⟨by rfl,rfl⟩) hS ?_
       simp only[Act.put,aA,aB,aC,aD,aE,aF];refine wT (i:=21) (v:=undef) rfl (by kernel_rfl) (by kernel_rfl) (by kernel_rfl) (fun _ _ _ h=>h) (Or.inr ⟨by rfl,rfl⟩) hS ?_
       simp only[Act.put,aA,aB,aC,aD,aE,aF];refine wT (i:=22) (v:=undef) rfl (by kernel_rfl) (by kernel_rfl) (by kernel_rfl) (fun _ _ _ h=>h) (Or.inr ⟨by rfl,rfl⟩) hS ?_
       simp only[Act.put,aA,aB,aC,aD,aE,aF];refine wT (i:=23) (v:=undef) rfl (by kernel_rfl) (by kernel_rfl) (by kernel_rfl) (fun _ _ _ h=>h) (Or.inr ⟨by rfl,rfl⟩) hS ?_
       simp only[Act.put,aA,aB,aC,aD,aE,aF];refine wT (i:=24) (v:=undef) rfl (by kernel_rfl) (by kernel_rfl) (by kernel_rfl) (fun _ _ _ h=>h) (Or.inr ⟨by rfl,rfl⟩) hS ?_
       simp only[Act.put,aA,aB,aC,aD,aE,aF];refine wT (i:=25) (v:=undef) rfl (by kernel_rfl) (by kernel_rfl) (by kernel_rfl) (fun _ _ _ h=>h) (Or.inr ⟨by rfl,rfl⟩) hS ?_
       simp only[Act.put,aA,aB,aC,aD,aE,aF];refine wT (i:=26) (v:=undef) rfl (by kernel_rfl) (by kernel_rfl) (by kernel_rfl) (fun _ _ _ h=>h) (Or.inr ⟨by rfl,rfl⟩) hS ?_
       simp only[Act.put,aA,aB,aC,aD,aE,aF];refine wT (i:=27) (v:=undef) rfl (by kernel_rfl) (by kernel_rfl) (by kernel_rfl) (fun _ _ _ h=>h) (Or.inr ⟨by rfl,rfl⟩) hS ?_
       simp only[Act.put,aA,aB,aC,aD,aE,aF];refine wT (i:=28) (v:=.bool false) rfl (by kernel_rfl) (by kernel_rfl) (by kernel_rfl) (fun _ _ _ h=>h) (Or.inl ⟨by rfl,?_⟩) hS ?_
       ·intro W hSw;clear hS;go_simp
       simp only[Act.put,aA,aB,aC,aD,aE,aF];have HBJ:Hid (Below w4.heap.size w4 wr.drew):=hS.2.2.2.2.2.2
       refine wpAnyH_done (by kernel_rfl) ?_ _
       clear hS;go_wp2
       go_roundw
       case rel=>exact⟨v+1,by omega,by go_num,FAR.out,HBJ.out⟩
       case measure=>simp[intOf];omega
      ·have hx'1:(x' != 0)=true:=by simpa using hx'0
       by_cases hyy:y'=y
       ·have HBAD:Hid (¬ okBxs st bx):=HNF.out (fun h=>(h hx'0 HX0.out).1 hyy)
        subst hyy;clear HFS HNF hx'0;go_wp2
        refine wp_region_held (S:=(fun W=>W.cell? ⟨w.heap.size,5,none⟩=some (.slice (some ⟨g,off,none⟩) n2 k2)∧W.cell? ⟨g,off+v*8,none⟩=some (.int .i64 x')∧W.cell? ⟨g,off+v*8+1,none⟩=some (.int .i64 y')∧W.cell? ⟨g,off+v*8+2,none⟩=some (.int .i64 z')∧W.cell? ⟨PB,1,none⟩=some (.int .i64 y')∧W.cell? ⟨PB,2,none⟩=some (.int .i64 z)∧Below w4.heap.size w4 W)) (by kernel_rfl) ?_
        have hS:(fun W=>W.cell? ⟨w.heap.size,5,none⟩=some (.slice (some ⟨g,off,none⟩) n2 k2)∧W.cell? ⟨g,off+v*8,none⟩=some (.int .i64 x')∧W.cell? ⟨g,off+v*8+1,none⟩=some (.int .i64 y')∧W.cell? ⟨g,off+v*8+2,none⟩=some (.int .i64 z')∧W.cell? ⟨PB,1,none⟩=some (.int .i64 y')∧W.cell? ⟨PB,2,none⟩=some (.int .i64 z)∧Below w4.heap.size w4 W) wr.drew:=⟨(World.cell?_drew _ _).trans o5,(World.cell?_drew _ _).trans u0,(World.cell?_drew _ _).trans u1,(World.cell?_drew _ _).trans u2,(World.cell?_drew _ _).trans y1,(World.cell?_drew _ _).trans y2,HBI.out.drew⟩
        simp only[] at hS
        refine wT (i:=0) (v:=.pointer (some ⟨w.heap.size,5,none⟩)) rfl (by kernel_rfl) (by kernel_rfl) (by kernel_rfl) (fun _ _ _ h=>h) (Or.inl ⟨by rfl,?_⟩) hS ?_
        ·intro W hSw;clear hS;go_simp
        simp only[Act.put,aA,aB,aC,aD,aE]
        refine wT (i:=1) (v:=.slice (some ⟨g,off,none⟩) n2 k2) rfl (by kernel_rfl) (by kernel_rfl) (by kernel_rfl) (fun _ _ _ h=>h) (Or.inl ⟨by rfl,?_⟩) hS ?_
        ·intro W hSw;clear hS;go_simp
        simp only[Act.put,aA,aB,aC,aD,aE,aF];refine wT (i:=2) (v:=.int .i64 (v:Int)) rfl (by kernel_rfl) (by kernel_rfl) (by kernel_rfl) (fun _ _ _ h=>h) (Or.inl ⟨by rfl,?_⟩) hS ?_
        ·intro W hSw;clear hS;go_simp
        simp only[Act.put,aA,aB,aC,aD,aE,aF];refine wT (i:=3) (v:=.pointer (some ⟨g,off+v*8,none⟩)) rfl (by kernel_rfl) (by kernel_rfl) (by kernel_rfl) (fun _ _ _ h=>h) (Or.inl ⟨by rfl,?_⟩) hS ?_
        ·intro W hSw;clear hS;go_simp
        simp only[Act.put,aA,aB,aC,aD,aE,aF];refine wT (i:=4) (v:=.pointer (some ⟨g,off+v*8,none⟩)) rfl (by kernel_rfl) (by kernel_rfl) (by kernel_rfl) (fun _ _ _ h=>h) (Or.inl ⟨by rfl,?_⟩) hS ?_
        ·intro W hSw;clear hS;go_simp
        simp only[Act.put,aA,aB,aC,aD,aE,aF];refine wT (i:=5) (v:=.int .i64 x') rfl (by kernel_rfl) (by kernel_rfl) (by kernel_rfl) (fun _ _ _ h=>h) (Or.inl ⟨by rfl,?_⟩) hS ?_
        ·intro W hSw;clear hS;go_simp
        simp only[Act.put,aA,aB,aC,aD,aE,aF];refine wT (i:=6) (v:=.bool true) rfl (by kernel_rfl) (by kernel_rfl) (by kernel_rfl) (fun _ _ _ h=>h) (Or.inl ⟨by rfl,?_⟩) hS ?_
        ·intro W hSw;clear hS;go_simp
        simp only[Act.put,aA,aB,aC,aD,aE,aF];refine wT (i:=7) (v:=.bool true) rfl (by kernel_rfl) (by kernel_rfl) (by kernel_rfl) (fun _ _ _ h=>h) (Or.inl ⟨by rfl,?_⟩) hS ?_
        ·intro W hSw;clear hS;go_simp
        simp only[Act.put,aA,aB,aC,aD,aE,aF];refine wT (i:=8) (v:=.pointer (some ⟨w.heap.size,5,none⟩)) rfl (by kernel_rfl) (by kernel_rfl) (by kernel_rfl) (fun _ _ _ h=>h) (Or.inl ⟨by rfl,?_⟩) hS ?_
        ·intro W hSw;clear hS;go_simp
        simp only[Act.put,aA,aB,aC,aD,aE,aF];refine wT (i:=9) (v:=.slice (some ⟨g,off,none⟩) n2 k2) rfl (by kernel_rfl) (by kernel_rfl) (by kernel_rfl) (fun _ _ _ h=>h) (Or.inl ⟨by rfl,?_⟩) hS ?_
        ·intro W hSw;clear hS;go_simp
        simp only[Act.put,aA,aB,aC,aD,aE,aF];refine wT (i:=10) (v:=.int .i64 (v:Int)) rfl (by kernel_rfl) (by kernel_rfl) (by kernel_rfl) (fun _ _ _ h=>h) (Or.inl ⟨by rfl,?_⟩) hS ?_
        ·intro W hSw;clear hS;go_simp
        simp only[Act.put,aA,aB,aC,aD,aE,aF];refine wT (i:=11) (v:=.pointer (some ⟨g,off+v*8,none⟩)) rfl (by kernel_rfl) (by kernel_rfl) (by kernel_rfl) (fun _ _ _ h=>h) (Or.inl ⟨by rfl,?_⟩) hS ?_
        ·intro W hSw;clear hS;go_simp
        simp only[Act.put,aA,aB,aC,aD,aE,aF];refine wT (i:=12) (v:=.pointer (some ⟨g,off+v*8+1,none⟩)) rfl (by kernel_rfl) (by kernel_rfl) (by kernel_rfl) (fun _ _ _ h=>h) (Or.inl ⟨by rfl,?_⟩) hS ?_
        ·intro W hSw;clear hS;go_simp
        simp only[Act.put,aA,aB,aC,aD,aE,aF];refine wT (i:=13) (v:=.int .i64 y') rfl (by kernel_rfl) (by kernel_rfl) (by kernel_rfl) (fun _ _ _ h=>h) (Or.inl ⟨by rfl,?_⟩) hS ?_
        ·intro W hSw;clear hS;go_simp
        simp only[Act.put,aA,aB,aC,aD,aE,aF];refine wT (i:=14) (v:=.pointer (some ⟨PB,1,none⟩)) rfl (by kernel_rfl) (by kernel_rfl) (by kernel_rfl) (fun _ _ _ h=>h) (Or.inl ⟨by rfl,?_⟩) hS ?_
        ·intro W hSw;clear hS;go_simp
        simp only[Act.put,aA,aB,aC,aD,aE,aF];refine wT (i:=15) (v:=.int .i64 y') rfl (by kernel_rfl) (by kernel_rfl) (by kernel_rfl) (fun _ _ _ h=>h) (Or.inl ⟨by rfl,?_⟩) hS ?_
        ·intro W hSw;clear hS;go_simp
        simp only[Act.put,aA,aB,aC,aD,aE,aF];refine wT (i:=16) (v:=.bool true) rfl (by kernel_rfl) (by kernel_rfl) (by kernel_rfl) (fun _ _ _ h=>h) (Or.inl ⟨by rfl,?_⟩) hS ?_
        ·intro W hSw;clear hS;go_simp
        simp only[Act.put,aA,aB,aC,aD,aE,aF];refine wT (i:=17) (v:=.bool true) rfl (by kernel_rfl) (by kernel_rfl) (by kernel_rfl) (fun _ _ _ h=>h) (Or.inl ⟨by rfl,?_⟩) hS ?_
        ·intro W hSw;clear hS;go_simp
        simp only[Act.put,aA,aB,aC,aD,aE,aF];refine wT (i:=18) (v:=undef) rfl (by kernel_rfl) (by kernel_rfl) (by kernel_rfl) (fun _ _ _ h=>h) (Or.inr ⟨by rfl,rfl⟩) hS ?_
        simp only[Act.put,aA,aB,aC,aD,aE,aF];refine wT (i:=19) (v:=undef) rfl (by kernel_rfl) (by kernel_rfl) (by kernel_rfl) (fun _ _ _ h=>h) (Or.inr ⟨by rfl,rfl⟩) hS ?_
        simp only[Act.put,aA,aB,aC,aD,aE,aF];refine wT (i:=20) (v:=undef) rfl (by kernel_rfl) (by kernel_rfl) (by kernel_rfl) (fun _ _ _ h=>h) (Or.inr ⟨by rfl,rfl⟩) hS ?_
        simp only[Act.put,aA,aB,aC,aD,aE,aF];refine wT (i:=21) (v:=undef) rfl (by kernel_rfl) (by kernel_rfl) (by kernel_rfl) (fun _ _ _ h=>h) (Or.inr ⟨by rfl,rfl⟩) hS ?_
        simp only[Act.put,aA,aB,aC,aD,aE,aF];refine wT (i:=22) (v:=undef) rfl (by kernel_rfl) (by kernel_rfl) (by kernel_rfl) (fun _ _ _ h=>h) (Or.inr ⟨by rfl,rfl⟩) hS ?_
        simp only[Act.put,aA,aB,aC,aD,aE,aF];refine wT (i:=23) (v:=undef) rfl (by kernel_rfl) (by kernel_rfl) (by kernel_rfl) (fun _ _ _ h=>h) (Or.inr ⟨by rfl,rfl⟩) hS ?_
        simp only[Act.put,aA,aB,aC,aD,aE,aF];refine wT (i:=24) (v:=undef) rfl (by kernel_rfl) (by kernel_rfl) (by kernel_rfl) (fun _ _ _ h=>h) (Or.inr ⟨by rfl,rfl⟩) hS ?_
        simp only[Act.put,aA,aB,aC,aD,aE,aF];refine wT (i:=25) (v:=undef) rfl (by kernel_rfl) (by kernel_rfl) (by kernel_rfl) (fun _ _ _ h=>h) (Or.inr ⟨by rfl,rfl⟩) hS ?_
        simp only[Act.put,aA,aB,aC,aD,aE,aF];refine wT (i:=26) (v:=undef) rfl (by kernel_rfl) (by kernel_rfl) (by kernel_rfl) (fun _ _ _ h=>h) (Or.inr ⟨by rfl,rfl⟩) hS ?_
        simp only[Act.put,aA,aB,aC,aD,aE,aF];refine wT (i:=27) (v:=.bool true) rfl (by kernel_rfl) (by kernel_rfl) (by kernel_rfl) (fun _ _ _ h=>h) (Or.inl ⟨by rfl,?_⟩) hS ?_
        ·intro W hSw;clear hS;go_simp
        simp only[Act.put,aA,aB,aC,aD,aE,aF];refine wT (i:=28) (v:=.bool true) rfl (by kernel_rfl) (by kernel_rfl) (by kernel_rfl) (fun _ _ _ h=>h) (Or.inl ⟨by rfl,?_⟩) hS ?_
        ·intro W hSw;clear hS;go_simp
        simp only[Act.put,aA,aB,aC,aD,aE,aF];have HBJ:Hid (Below w4.heap.size w4 wr.drew):=hS.2.2.2.2.2.2
        refine wpAnyH_done (by kernel_rfl) ?_ _
        clear hS;go_wp2
        go_ret;exact⟨⟨false,rfl,by simpa using HBAD.out⟩,(HB4.out.2.below HBJ.out).b⟩
       ·have hyy':(y' == y)=false:=by simpa using hyy
        by_cases hzz:z'=z
        ·have HBAD:Hid (¬ okBxs st bx):=HNF.out (fun h=>(h hx'0 HX0.out).2 hzz)
         subst hzz;clear HFS HNF hx'0 hyy;go_wp2
         refine wp_region_held (S:=(fun W=>W.cell? ⟨w.heap.size,5,none⟩=some (.slice (some ⟨g,off,none⟩) n2 k2)∧W.cell? ⟨g,off+v*8,none⟩=some (.int .i64 x')∧W.cell? ⟨g,off+v*8+1,none⟩=some (.int .i64 y')∧W.cell? ⟨g,off+v*8+2,none⟩=some (.int .i64 z')∧W.cell? ⟨PB,1,none⟩=some (.int .i64 y)∧W.cell? ⟨PB,2,none⟩=some (.int .i64 z')∧Below w4.heap.size w4 W)) (by kernel_rfl) ?_
         have hS:(fun W=>W.cell? ⟨w.heap.size,5,none⟩=some (.slice (some ⟨g,off,none⟩) n2 k2)∧W.cell? ⟨g,off+v*8,none⟩=some (.int .i64 x')∧W.cell? ⟨g,off+v*8+1,none⟩=some (.int .i64 y')∧W.cell? ⟨g,off+v*8+2,none⟩=some (.int .i64 z')∧W.cell? ⟨PB,1,none⟩=some (.int .i64 y)∧W.cell? ⟨PB,2,none⟩=some (.int .i64 z')∧Below w4.heap.size w4 W) wr.drew:=⟨(World.cell?_drew _ _).trans o5,(World.cell?_drew _ _).trans u0,(World.cell?_drew _ _).trans u1,(World.cell?_drew _ _).trans u2,(World.cell?_drew _ _).trans y1,(World.cell?_drew _ _).trans y2,HBI.out.drew⟩
         simp only[] at hS
         refine wT (i:=0) (v:=.pointer (some ⟨w.heap.size,5,none⟩)) rfl (by kernel_rfl) (by kernel_rfl) (by kernel_rfl) (fun _ _ _ h=>h) (Or.inl ⟨by rfl,?_⟩) hS ?_
         ·intro W hSw;clear hS;go_simp
         simp only[Act.put,aA,aB,aC,aD,aE]
         refine wT (i:=1) (v:=.slice (some ⟨g,off,none⟩) n2 k2) rfl (by kernel_rfl) (by kernel_rfl) (by kernel_rfl) (fun _ _ _ h=>h) (Or.inl ⟨by rfl,?_⟩) hS ?_
         ·intro W hSw;clear hS;go_simp
         simp only[Act.put,aA,aB,aC,aD,aE,aF];refine wT (i:=2) (v:=.int .i64 (v:Int)) rfl (by kernel_rfl) (by kernel_rfl) (by kernel_rfl) (fun _ _ _ h=>h) (Or.inl ⟨by rfl,?_⟩) hS ?_
         ·intro W hSw;clear hS;go_simp
         simp only[Act.put,aA,aB,aC,aD,aE,aF];refine wT (i:=3) (v:=.pointer (some ⟨g,off+v*8,none⟩)) rfl (by kernel_rfl) (by kernel_rfl) (by kernel_rfl) (fun _ _ _ h=>h) (Or.inl ⟨by rfl,?_⟩) hS ?_
         ·intro W hSw;clear hS;go_simp
         simp only[Act.put,aA,aB,aC,aD,aE,aF];refine wT (i:=4) (v:=.pointer (some ⟨g,off+v*8,none⟩)) rfl (by kernel_rfl) (by kernel_rfl) (by kernel_rfl) (fun _ _ _ h=>h) (Or.inl ⟨by rfl,?_⟩) hS ?_
         ·intro W hSw;clear hS;go_simp
         simp only[Act.put,aA,aB,aC,aD,aE,aF];refine wT (i:=5) (v:=.int .i64 x') rfl (by kernel_rfl) (by kernel_rfl) (by kernel_rfl) (fun _ _ _ h=>h) (Or.inl ⟨by rfl,?_⟩) hS ?_
         ·intro W hSw;clear hS;go_simp
         simp only[Act.put,aA,aB,aC,aD,aE,aF];refine wT (i:=6) (v:=.bool true) rfl (by kernel_rfl) (by kernel_rfl) (by kernel_rfl) (fun _ _ _ h=>h) (Or.inl ⟨by rfl,?_⟩) hS ?_
         ·intro W hSw;clear hS;go_simp
         simp only[Act.put,aA,aB,aC,aD,aE,aF];refine wT (i:=7) (v:=.bool true) rfl (by kernel_rfl) (by kernel_rfl) (by kernel_rfl) (fun _ _ _ h=>h) (Or.inl ⟨by rfl,?_⟩) hS ?_
         ·intro W hSw;clear hS;go_simp
         simp only[Act.put,aA,aB,aC,aD,aE,aF];refine wT (i:=8) (v:=.pointer (some ⟨w.heap.size,5,none⟩)) rfl (by kernel_rfl) (by kernel_rfl) (by kernel_rfl) (fun _ _ _ h=>h) (Or.inl ⟨by rfl,?_⟩) hS ?_
         ·intro W hSw;clear hS;go_simp
         simp only[Act.put,aA,aB,aC,aD,aE,aF];refine wT (i:=9) (v:=.slice (some ⟨g,off,none⟩) n2 k2) rfl (by kernel_rfl) (by kernel_rfl) (by kernel_rfl) (fun _ _ _ h=>h) (Or.inl ⟨by rfl,?_⟩) hS ?_
         ·intro W hSw;clear hS;go_simp
         simp only[Act.put,aA,aB,aC,aD,aE,aF];refine wT (i:=10) (v:=.int .i64 (v:Int)) rfl (by kernel_rfl) (by kernel_rfl) (by kernel_rfl) (fun _ _ _ h=>h) (Or.inl ⟨by rfl,?_⟩) hS ?_
         ·intro W hSw;clear hS;go_simp
         simp only[Act.put,aA,aB,aC,aD,aE,aF];refine wT (i:=11) (v:=.pointer (some ⟨g,off+v*8,none⟩)) rfl (by kernel_rfl) (by kernel_rfl) (by kernel_rfl) (fun _ _ _ h=>h) (Or.inl ⟨by rfl,?_⟩) hS ?_
         ·intro W hSw;clear hS;go_simp
         simp only[Act.put,aA,aB,aC,aD,aE,aF];refine wT (i:=12) (v:=.pointer (some ⟨g,off+v*8+1,none⟩)) rfl (by kernel_rfl) (by kernel_rfl) (by kernel_rfl) (fun _ _ _ h=>h) (Or.inl ⟨by rfl,?_⟩) hS ?_
         ·intro W hSw;clear hS;go_simp
         simp only[Act.put,aA,aB,aC,aD,aE,aF];refine wT (i:=13) (v:=.int .i64 y') rfl (by kernel_rfl) (by kernel_rfl) (by kernel_rfl) (fun _ _ _ h=>h) (Or.inl ⟨by rfl,?_⟩) hS ?_
         ·intro W hSw;clear hS;go_simp
         simp only[Act.put,aA,aB,aC,aD,aE,aF];refine wT (i:=14) (v:=.pointer (some ⟨PB,1,none⟩)) rfl (by kernel_rfl) (by kernel_rfl) (by kernel_rfl) (fun _ _ _ h=>h) (Or.inl ⟨by rfl,?_⟩) hS ?_
         ·intro W hSw;clear hS;go_simp
         simp only[Act.put,aA,aB,aC,aD,aE,aF];refine wT (i:=15) (v:=.int .i64 y) rfl (by kernel_rfl) (by kernel_rfl) (by kernel_rfl) (fun _ _ _ h=>h) (Or.inl ⟨by rfl,?_⟩) hS ?_
         ·intro W hSw;clear hS;go_simp
         simp only[Act.put,aA,aB,aC,aD,aE,aF];refine wT (i:=16) (v:=.bool false) rfl (by kernel_rfl) (by kernel_rfl) (by kernel_rfl) (fun _ _ _ h=>h) (Or.inl ⟨by rfl,?_⟩) hS ?_
         ·intro W hSw;clear hS;go_simp
         simp only[Act.put,aA,aB,aC,aD,aE,aF];refine wT (i:=17) (v:=.bool false) rfl (by kernel_rfl) (by kernel_rfl) (by kernel_rfl) (fun _ _ _ h=>h) (Or.inl ⟨by rfl,?_⟩) hS ?_
         ·intro W hSw;clear hS;go_simp
         simp only[Act.put,aA,aB,aC,aD,aE,aF];refine wT (i:=18) (v:=.pointer (some ⟨w.heap.size,5,none⟩)) rfl (by kernel_rfl) (by kernel_rfl) (by kernel_rfl) (fun _ _ _ h=>h) (Or.inl ⟨by rfl,?_⟩) hS ?_
         ·intro W hSw;clear hS;go_simp
         simp only[Act.put,aA,aB,aC,aD,aE,aF];refine wT (i:=19) (v:=.slice (some ⟨g,off,none⟩) n2 k2) rfl (by kernel_rfl) (by kernel_rfl) (by kernel_rfl) (fun _ _ _ h=>h) (Or.inl ⟨by rfl,?_⟩) hS ?_
         ·intro W hSw;clear hS;go_simp
         simp only[Act.put,aA,aB,aC,aD,aE,aF];refine wT (i:=20) (v:=.int .i64 (v:Int)) rfl (by kernel_rfl) (by kernel_rfl) (by kernel_rfl) (fun _ _ _ h=>h) (Or.inl ⟨by rfl,?_⟩) hS ?_
         ·intro W hSw;clear hS;go_simp
         simp only[Act.put,aA,aB,aC,aD,aE,aF];refine wT (i:=21) (v:=.pointer (some ⟨g,off+v*8,none⟩)) rfl (by kernel_rfl) (by kernel_rfl) (by kernel_rfl) (fun _ _ _ h=>h) (Or.inl ⟨by rfl,?_⟩) hS ?_
         ·intro W hSw;clear hS;go_simp
         simp only[Act.put,aA,aB,aC,aD,aE,aF];refine wT (i:=22) (v:=.pointer (some ⟨g,off+v*8+2,none⟩)) rfl (by kernel_rfl) (by kernel_rfl) (by kernel_rfl) (fun _ _ _ h=>h) (Or.inl ⟨by rfl,?_⟩) hS ?_
         ·intro W hSw;clear hS;go_simp
         simp only[Act.put,aA,aB,aC,aD,aE,aF];refine wT (i:=23) (v:=.int .i64 z') rfl (by kernel_rfl) (by kernel_rfl) (by kernel_rfl) (fun _ _ _ h=>h) (Or.inl ⟨by rfl,?_⟩) hS ?_
         ·intro W hSw;clear hS;go_simp
         simp only[Act.put,aA,aB,aC,aD,aE,aF];refine wT (i:=24) (v:=.pointer (some ⟨PB,2,none⟩)) rfl (by kernel_rfl) (by kernel_rfl) (by kernel_rfl) (fun _ _ _ h=>h) (Or.inl ⟨by rfl,?_⟩) hS ?_
         ·intro W hSw;clear hS;go_simp
         simp only[Act.put,aA,aB,aC,aD,aE,aF];refine wT (i:=25) (v:=.int .i64 z') rfl (by kernel_rfl) (by kernel_rfl) (by kernel_rfl) (fun _ _ _ h=>h) (Or.inl ⟨by rfl,?_⟩) hS ?_
         ·intro W hSw;clear hS;go_simp
         simp only[Act.put,aA,aB,aC,aD,aE,aF];refine wT (i:=26) (v:=.bool true) rfl (by kernel_rfl) (by kernel_rfl) (by kernel_rfl) (fun _ _ _ h=>h) (Or.inl ⟨by rfl,?_⟩) hS ?_
         ·intro W hSw;clear hS;go_simp
         simp only[Act.put,aA,aB,aC,aD,aE,aF];refine wT (i:=27) (v:=.bool true) rfl (by kernel_rfl) (by kernel_rfl) (by kernel_rfl) (fun _ _ _ h=>h) (Or.inl ⟨by rfl,?_⟩) hS ?_
         ·intro W hSw;clear hS;go_simp
         simp only[Act.put,aA,aB,aC,aD,aE,aF];refine wT (i:=28) (v:=.bool true) rfl (by kernel_rfl) (by kernel_rfl) (by kernel_rfl) (fun _ _ _ h=>h) (Or.inl ⟨by rfl,?_⟩) hS ?_
         ·intro W hSw;clear hS;go_simp
         simp only[Act.put,aA,aB,aC,aD,aE,aF];have HBJ:Hid (Below w4.heap.size w4 wr.drew):=hS.2.2.2.2.2.2
         refine wpAnyH_done (by kernel_rfl) ?_ _
         clear hS;go_wp2
         go_ret;exact⟨⟨false,rfl,by simpa using HBAD.out⟩,(HB4.out.2.below HBJ.out).b⟩
        ·have hzz':(z' == z)=false:=by simpa using hzz
         have FAR:Hid (∀ i' (hi:i'<bx.length),i'<v+1→far bx[i'] ⟨x,y,z,e,i,r,d,l⟩):=HFS.out (fun _ _=>⟨hyy,hzz⟩)
         clear HFS HNF hx'0 hyy hzz;go_wp2
         refine wp_region_held (S:=(fun W=>W.cell? ⟨w.heap.size,5,none⟩=some (.slice (some ⟨g,off,none⟩) n2 k2)∧W.cell? ⟨g,off+v*8,none⟩=some (.int .i64 x')∧W.cell? ⟨g,off+v*8+1,none⟩=some (.int .i64 y')∧W.cell? ⟨g,off+v*8+2,none⟩=some (.int .i64 z')∧W.cell? ⟨PB,1,none⟩=some (.int .i64 y)∧W.cell? ⟨PB,2,none⟩=some (.int .i64 z)∧Below w4.heap.size w4 W)) (by kernel_rfl) ?_
         have hS:(fun W=>W.cell? ⟨w.heap.size,5,none⟩=some (.slice (some ⟨g,off,none⟩) n2 k2)∧W.cell? ⟨g,off+v*8,none⟩=some (.int .i64 x')∧W.cell? ⟨g,off+v*8+1,none⟩=some (.int .i64 y')∧W.cell? ⟨g,off+v*8+2,none⟩=some (.int .i64 z')∧W.cell? ⟨PB,1,none⟩=some (.int .i64 y)∧W.cell? ⟨PB,2,none⟩=some (.int .i64 z)∧Below w4.heap.size w4 W) wr.drew:=⟨(World.cell?_drew _ _).trans o5,(World.cell?_drew _ _).trans u0,(World.cell?_drew _ _).trans u1,(World.cell?_drew _ _).trans u2,(World.cell?_drew _ _).trans y1,(World.cell?_drew _ _).trans y2,HBI.out.drew⟩
         simp only[] at hS
         refine wT (i:=0) (v:=.pointer (some ⟨w.heap.size,5,none⟩)) rfl (by kernel_rfl) (by kernel_rfl) (by kernel_rfl) (fun _ _ _ h=>h) (Or.inl ⟨by rfl,?_⟩) hS ?_
         ·intro W hSw;clear hS;go_simp
         simp only[Act.put,aA,aB,aC,aD,aE]
         refine wT (i:=1) (v:=.slice (some ⟨g,off,none⟩) n2 k2) rfl (by kernel_rfl) (by kernel_rfl) (by kernel_rfl) (fun _ _ _ h=>h) (Or.inl ⟨by rfl,?_⟩) hS ?_
         ·intro W hSw;clear hS;go_simp
         simp only[Act.put,aA,aB,aC,aD,aE,aF];refine wT (i:=2) (v:=.int .i64 (v:Int)) rfl (by kernel_rfl) (by kernel_rfl) (by kernel_rfl) (fun _ _ _ h=>h) (Or.inl ⟨by rfl,?_⟩) hS ?_
         ·intro W hSw;clear hS;go_simp
         simp only[Act.put,aA,aB,aC,aD,aE,aF];refine wT (i:=3) (v:=.pointer (some ⟨g,off+v*8,none⟩)) rfl (by kernel_rfl) (by kernel_rfl) (by kernel_rfl) (fun _ _ _ h=>h) (Or.inl ⟨by rfl,?_⟩) hS ?_
         ·intro W hSw;clear hS;go_simp
         simp only[Act.put,aA,aB,aC,aD,aE,aF];refine wT (i:=4) (v:=.pointer (some ⟨g,off+v*8,none⟩)) rfl (by kernel_rfl) (by kernel_rfl) (by kernel_rfl) (fun _ _ _ h=>h) (Or.inl ⟨by rfl,?_⟩) hS ?_
         ·intro W hSw;clear hS;go_simp
         simp only[Act.put,aA,aB,aC,aD,aE,aF];refine wT (i:=5) (v:=.int .i64 x') rfl (by kernel_rfl) (by kernel_rfl) (by kernel_rfl) (fun _ _ _ h=>h) (Or.inl ⟨by rfl,?_⟩) hS ?_
         ·intro W hSw;clear hS;go_simp
         simp only[Act.put,aA,aB,aC,aD,aE,aF];refine wT (i:=6) (v:=.bool true) rfl (by kernel_rfl) (by kernel_rfl) (by kernel_rfl) (fun _ _ _ h=>h) (Or.inl ⟨by rfl,?_⟩) hS ?_
         ·intro W hSw;clear hS;go_simp
         simp only[Act.put,aA,aB,aC,aD,aE,aF];refine wT (i:=7) (v:=.bool true) rfl (by kernel_rfl) (by kernel_rfl) (by kernel_rfl) (fun _ _ _ h=>h) (Or.inl ⟨by rfl,?_⟩) hS ?_
         ·intro W hSw;clear hS;go_simp
         simp only[Act.put,aA,aB,aC,aD,aE,aF];refine wT (i:=8) (v:=.pointer (some ⟨w.heap.size,5,none⟩)) rfl (by kernel_rfl) (by kernel_rfl) (by kernel_rfl) (fun _ _ _ h=>h) (Or.inl ⟨by rfl,?_⟩) hS ?_
         ·intro W hSw;clear hS;go_simp
         simp only[Act.put,aA,aB,aC,aD,aE,aF];refine wT (i:=9) (v:=.slice (some ⟨g,off,none⟩) n2 k2) rfl (by kernel_rfl) (by kernel_rfl) (by kernel_rfl) (fun _ _ _ h=>h) (Or.inl ⟨by rfl,?_⟩) hS ?_
         ·intro W hSw;clear hS;go_simp
         simp only[Act.put,aA,aB,aC,aD,aE,aF];refine wT (i:=10) (v:=.int .i64 (v:Int)) rfl (by kernel_rfl) (by kernel_rfl) (by kernel_rfl) (fun _ _ _ h=>h) (Or.inl ⟨by rfl,?_⟩) hS ?_
         ·intro W hSw;clear hS;go_simp
         simp only[Act.put,aA,aB,aC,aD,aE,aF];refine wT (i:=11) (v:=.pointer (some ⟨g,off+v*8,none⟩)) rfl (by kernel_rfl) (by kernel_rfl) (by kernel_rfl) (fun _ _ _ h=>h) (Or.inl ⟨by rfl,?_⟩) hS ?_
         ·intro W hSw;clear hS;go_simp
         simp only[Act.put,aA,aB,aC,aD,aE,aF];refine wT (i:=12) (v:=.pointer (some ⟨g,off+v*8+1,none⟩)) rfl (by kernel_rfl) (by kernel_rfl) (by kernel_rfl) (fun _ _ _ h=>h) (Or.inl ⟨by rfl,?_⟩) hS ?_
         ·intro W hSw;clear hS;go_simp
         simp only[Act.put,aA,aB,aC,aD,aE,aF];refine wT (i:=13) (v:=.int .i64 y') rfl (by kernel_rfl) (by kernel_rfl) (by kernel_rfl) (fun _ _ _ h=>h) (Or.inl ⟨by rfl,?_⟩) hS ?_
         ·intro W hSw;clear hS;go_simp
         simp only[Act.put,aA,aB,aC,aD,aE,aF];refine wT (i:=14) (v:=.pointer (some ⟨PB,1,none⟩)) rfl (by kernel_rfl) (by kernel_rfl) (by kernel_rfl) (fun _ _ _ h=>h) (Or.inl ⟨by rfl,?_⟩) hS ?_
         ·intro W hSw;clear hS;go_simp
         simp only[Act.put,aA,aB,aC,aD,aE,aF];refine wT (i:=15) (v:=.int .i64 y) rfl (by kernel_rfl) (by kernel_rfl) (by kernel_rfl) (fun _ _ _ h=>h) (Or.inl ⟨by rfl,?_⟩) hS ?_
         ·intro W hSw;clear hS;go_simp
         simp only[Act.put,aA,aB,aC,aD,aE,aF];refine wT (i:=16) (v:=.bool false) rfl (by kernel_rfl) (by kernel_rfl) (by kernel_rfl) (fun _ _ _ h=>h) (Or.inl ⟨by rfl,?_⟩) hS ?_
         ·intro W hSw;clear hS;go_simp
         simp only[Act.put,aA,aB,aC,aD,aE,aF];refine wT (i:=17) (v:=.bool false) rfl (by kernel_rfl) (by kernel_rfl) (by kernel_rfl) (fun _ _ _ h=>h) (Or.inl ⟨by rfl,?_⟩) hS ?_
         ·intro W hSw;clear hS;go_simp
         simp only[Act.put,aA,aB,aC,aD,aE,aF];refine wT (i:=18) (v:=.pointer (some ⟨w.heap.size,5,none⟩)) rfl (by kernel_rfl) (by kernel_rfl) (by kernel_rfl) (fun _ _ _ h=>h) (Or.inl ⟨by rfl,?_⟩) hS ?_
         ·intro W hSw;clear hS;go_simp
         simp only[Act.put,aA,aB,aC,aD,aE,aF];refine wT (i:=19) (v:=.slice (some ⟨g,off,none⟩) n2 k2) rfl (by kernel_rfl) (by kernel_rfl) (by kernel_rfl) (fun _ _ _ h=>h) (Or.inl ⟨by rfl,?_⟩) hS ?_
         ·intro W hSw;clear hS;go_simp
         simp only[Act.put,aA,aB,aC,aD,aE,aF];refine wT (i:=20) (v:=.int .i64 (v:Int)) rfl (by kernel_rfl) (by kernel_rfl) (by kernel_rfl) (fun _ _ _ h=>h) (Or.inl ⟨by rfl,?_⟩) hS ?_
         ·intro W hSw;clear hS;go_simp
         simp only[Act.put,aA,aB,aC,aD,aE,aF];refine wT (i:=21) (v:=.pointer (some ⟨g,off+v*8,none⟩)) rfl (by kernel_rfl) (by kernel_rfl) (by kernel_rfl) (fun _ _ _ h=>h) (Or.inl ⟨by rfl,?_⟩) hS ?_
         ·intro W hSw;clear hS;go_simp
         simp only[Act.put,aA,aB,aC,aD,aE,aF];refine wT (i:=22) (v:=.pointer (some ⟨g,off+v*8+2,none⟩)) rfl (by kernel_rfl) (by kernel_rfl) (by kernel_rfl) (fun _ _ _ h=>h) (Or.inl ⟨by rfl,?_⟩) hS ?_
         ·intro W hSw;clear hS;go_simp
         simp only[Act.put,aA,aB,aC,aD,aE,aF];refine wT (i:=23) (v:=.int .i64 z') rfl (by kernel_rfl) (by kernel_rfl) (by kernel_rfl) (fun _ _ _ h=>h) (Or.inl ⟨by rfl,?_⟩) hS ?_
         ·intro W hSw;clear hS;go_simp
         simp only[Act.put,aA,aB,aC,aD,aE,aF];refine wT (i:=24) (v:=.pointer (some ⟨PB,2,none⟩)) rfl (by kernel_rfl) (by kernel_rfl) (by kernel_rfl) (fun _ _ _ h=>h) (Or.inl ⟨by rfl,?_⟩) hS ?_
         ·intro W hSw;clear hS;go_simp
         simp only[Act.put,aA,aB,aC,aD,aE,aF];refine wT (i:=25) (v:=.int .i64 z) rfl (by kernel_rfl) (by kernel_rfl) (by kernel_rfl) (fun _ _ _ h=>h) (Or.inl ⟨by rfl,?_⟩) hS ?_
         ·intro W hSw;clear hS;go_simp
         simp only[Act.put,aA,aB,aC,aD,aE,aF];refine wT (i:=26) (v:=.bool false) rfl (by kernel_rfl) (by kernel_rfl) (by kernel_rfl) (fun _ _ _ h=>h) (Or.inl ⟨by rfl,?_⟩) hS ?_
         ·intro W hSw;clear hS;go_simp
         simp only[Act.put,aA,aB,aC,aD,aE,aF];refine wT (i:=27) (v:=.bool false) rfl (by kernel_rfl) (by kernel_rfl) (by kernel_rfl) (fun _ _ _ h=>h) (Or.inl ⟨by rfl,?_⟩) hS ?_
         ·intro W hSw;clear hS;go_simp
         simp only[Act.put,aA,aB,aC,aD,aE,aF];refine wT (i:=28) (v:=.bool false) rfl (by kernel_rfl) (by kernel_rfl) (by kernel_rfl) (fun _ _ _ h=>h) (Or.inl ⟨by rfl,?_⟩) hS ?_
         ·intro W hSw;clear hS;go_simp
         simp only[Act.put,aA,aB,aC,aD,aE,aF];have HBJ:Hid (Below w4.heap.size w4 wr.drew):=hS.2.2.2.2.2.2
         refine wpAnyH_done (by kernel_rfl) ?_ _
         clear hS;go_wp2
         go_roundw
         case rel=>exact⟨v+1,by omega,by go_num,FAR.out,HBJ.out⟩
         case measure=>simp[intOf];omega
     ·have hve:v=k:=by omega
      subst hve;go_wp2
      go_roundw
      case rel=>
       refine⟨v+1,q+1,by omega,by go_num,by go_num,by omega,?_,HR.out.good HOK.out,HR.out.fars HF.out,HB4.out.2.below HBI.out⟩
       rw[HR.out.bn,← HQQ.out]
       rw[if_pos (by simp[HX0.out,HX1.out])]
      case measure=>simp[intOf];omega
  ·have hkn:k=n2:=by omega
   have HFIN:Hid (okBxs st bx↔q≤1):=by
    have e0:bx.take k=bx:=List.take_of_length_le (by have:=HL.out;omega)
    have e1:=HQQ.out
    rw[e0] at e1
    refine⟨fun h=>by have:=h.2.2;omega,fun h=>⟨fun j hj=>HA.out j hj (by have:=HL.out;omega),fun i j hi hj hij=>HD.out i j hi hj hij (by have:=HL.out;omega),by omega⟩⟩
   clear hkn;by_cases hq1:q≤1
   ·have hq1':decide ((q:Int)≤1)=true:=by simp;omega
    go_wp2
    go_ret;exact⟨⟨true,rfl,by simpa using HFIN.out.2 hq1⟩,HS.out.b⟩
   ·have hq1':decide ((q:Int)≤1)=false:=by simp;omega
    go_wp2
    go_ret;exact⟨⟨false,rfl,by simpa using fun h=>hq1 (HFIN.out.1 h)⟩,HS.out.b⟩
end Go.Proofs.YtaamahohdnbpiaaGreat
