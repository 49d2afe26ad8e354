import Derived.Test.YtbllefckefhpoaaGreatK07
import Derived.Test.YtbllefckefhpoaaGreatK08
import Derived.Deep.RegionHeld3
namespace Go.Proofs.YtbllefckefhpoaaGreat
open Go.RowKit
set_option linter.unusedVariables false
set_option maxHeartbeats 16000000
open Go.Value renaming int→I,slice→sL,bool→bO,pointer→pT,agg→aG
open Go.IntKind renaming i64→J
open Go.Ending renaming returned→rT
open Go.Proofs.Tryz renaming prog→Tp
def okBx (st:Int) (b:R8):Prop:=if b.x=0 then (b.y=0∧b.z=0∧zFr b.e b.i b.r b.d b.l.length) else ((1≤b.x∧b.x≤3)∧(0≤b.y∧b.y≤9999)∧(0≤b.z∧b.z<st)∧validB b.e b.i b.r b.d b.l.length=true)
def far (a b:R8):Prop:=a.x≠0→b.x≠0→a.y≠b.y∧a.z≠b.z
def busyN (bx:List R8):Nat:=bx.countP (fun b=>b.x != 0 && b.x != 1)
def okBxs (st:Int) (bx:List R8):Prop:=(∀ j (h:j<bx.length),okBx st bx[j])∧(∀ i j (hi:i<bx.length) (hj:j<bx.length),i<j→far bx[i] bx[j])∧busyN bx≤1
structure obS (w:World) (H:Ho) (s:Sl) (W:World):Prop where
 p:blk W w.heap.size (hoL H s) 41
 b:Below w.heap.size w W
theorem obS.below {w:World} {H:Ho} {s:Sl} {W W':World} (h:obS w H s W) (hb:Below W.heap.size W W'):obS w H s W':=⟨h.p.below hb,h.b.trans (hb.mono h.b.size)⟩
theorem busyN_take (bx:List R8) (k:Nat) (h:k<bx.length):busyN (bx.take (k+1))=busyN (bx.take k)+(if (bx[k].x != 0 && bx[k].x != 1)=true then 1 else 0):=by
 unfold busyN
 rw[List.take_succ_eq_append_getElem h,List.countP_append]
 simp[List.countP_cons]
theorem wpList_load_midG {ops:Array Oper} {rest:List Oper} {op:Oper} {a:Act} {w:World} {Q:Exit→Act→World→Prop} (hw:Region.wanted op (yielded ops a.tmps)=true) (ty:TypeId) (x:Operand) (ho:op.op = .load ty x)
  (b o:Nat) (hx:a.eval x = pT (some ⟨b,o,none⟩)) (cs:List Value) (d:TypeDesc) (hc:w.rangeAt b o cs)
  (hu:Tp.underlying ty=some d) (hd:d.isRow=true) (hi:(Tp.info? ty).map (·.size)=some cs.length)
  (h:wpList Tp ops Q rest (a.put op.dst (aG cs.toArray)) w):wpList Tp ops Q (op :: rest) a w:=
 wpList_step fun K hK=>by
  simp only[hw,if_true]
  exact wp_load_mid ty x ho b o hx cs d hc hu hd hi (hK _ _ h)
theorem okBxs_bad {st:Int} {bx:List R8} {k:Nat} (hk:k<bx.length) (h:¬ okBx st bx[k]):¬ okBxs st bx:=fun hh=>h (hh.1 k hk)
theorem okBxs_far {st:Int} {bx:List R8} {i k:Nat} (hi:i<bx.length) (hk:k<bx.length) (hik:i<k) (h:¬ far bx[i] bx[k]):¬ okBxs st bx:=fun hh=>h (hh.2.1 i k hi hk hik)
theorem far_snoc {bx:List R8} {k:Nat} (hD:∀ i j (hi:i<bx.length) (hj:j<bx.length),i<j→j<k→far bx[i] bx[j]) (hk:k<bx.length) (h:∀ i (hi:i<bx.length),i<k→far bx[i] bx[k]):∀ i j (hi:i<bx.length) (hj:j<bx.length),i<j→j<k+1→far bx[i] bx[j]:=by
 intro i j hi hj hij hjk;by_cases e:j=k
 ·subst e;exact h i hi hij
 ·exact hD i j hi hj hij (by omega)
theorem ok_snocP {α:Type} {p:α→Prop} {bs:List α} {k:Nat} (hk:k<bs.length) (h:∀ j (hj:j<bs.length),j<k→p bs[j]) (h1:p bs[k]):∀ j (hj:j<bs.length),j<k+1→p bs[j]:=by
 intro j hj h2;by_cases e:j=k
 ·subst e;exact h1
 ·exact h j hj (by omega)
structure rbS (st:Int) (bx:List R8) (k:Nat) (b:R8):Prop where
 bad:¬ okBx st b→¬ okBxs st bx
 good:okBx st b→∀ j (hj:j<bx.length),j<k+1→okBx st bx[j]
 fars:(∀ i (hi:i<bx.length),i<k→far bx[i] b)→∀ i j (hi:i<bx.length) (hj:j<bx.length),i<j→j<k+1→far bx[i] bx[j]
 bf:∀ i (hi:i<bx.length),i<k→¬ far bx[i] b→¬ okBxs st bx
 bn:busyN (bx.take (k+1))=busyN (bx.take k)+(if (b.x != 0 && b.x != 1)=true then 1 else 0)
theorem rbS.of {st:Int} {bx:List R8} {k:Nat} (hk:k<bx.length) (hA:∀ j (hj:j<bx.length),j<k→okBx st bx[j]) (hD:∀ i j (hi:i<bx.length) (hj:j<bx.length),i<j→j<k→far bx[i] bx[j]):rbS st bx k bx[k]:=
 ⟨okBxs_bad hk,fun ho=>ok_snocP hk hA ho,fun ho=>far_snoc hD hk ho,fun i hi hik hf=>okBxs_far hi hk hik hf,busyN_take bx k hk⟩
set_option maxRecDepth 20000 in
theorem l3okBoxes_any (w:World) (H:Ho) (s:Sl) (h:isR8s w s.a2 s.n2 s.k2 H.bx) (hn:s.n2≤8) :
  Calls Tp 100 #[hoV H s] w fun o w'=>retB o (okBxs H.st H.bx)∧Below w.heap.size w w':=by
 have HH:Hid (isR8s w s.a2 s.n2 s.k2 H.bx):=h
 have HL:Hid (s.n2=H.bx.length):=h.len
 have hcp:=h.cap
 have H0:Hid (obS w H s (w.alloc (.cells (hoL H s).toArray 41))):=⟨blk.new w _ 41,(Below.refl _ _).alloc (Nat.le_refl _) _⟩
 clear h;obtain⟨c0,c1,c2,c3,fs,bx,ff,qu,lo,st⟩:=H
 obtain⟨a1,n1,k1,a2,n2,k2,a3,n3,k3,a4,n4,k4⟩:=s
 simp only[] at HH HL hcp hn ⊢
 by_cases hl:bx=[]
 ·subst hl;have hn0:n2=0:=HL.out
  subst hn0;go_enter Tryz.func100,Tryz.ntmps100
  go_wp2_with fail;go_loopw [3,4] (fun b i wr=>b = I J 0∧i = I J 0∧obS w ⟨c0,c1,c2,c3,fs,[],ff,qu,lo,st⟩ ⟨a1,n1,k1,a2,0,k2,a3,n3,k3,a4,n4,k4⟩ wr) (fun _ _ _=>0)
  case atStart=>exact⟨rfl,rfl,H0.out⟩
  case round=>
   obtain⟨rfl,rfl,hS⟩:=hrel
   have p5:=hS.p.cell 5 _ rfl
   have HS:=hS.b
   go_wp2
   go_ret;exact⟨⟨true,rfl,by simp[okBxs,busyN]⟩,HS⟩
 obtain⟨g,off,rfl,hc⟩:=HH.out.cells hl
 have HC:Hid (∀ j (h:j<bx.length),∃ ao m c,at8 w g (off+j*8) bx[j] ao m c):=hc
 clear hc;go_enter Tryz.func100,Tryz.ntmps100
 go_wp2_with fail;go_loopw [3,4] (fun b i wr=>∃ k q:Nat,k≤n2∧i = I J (k:Int)∧b = I J (q:Int)∧q≤k∧q=busyN (bx.take k)∧(∀ j (hj:j<bx.length),j<k→okBx st bx[j])∧(∀ i j (hi:i<bx.length) (hj:j<bx.length),i<j→j<k→far bx[i] bx[j])∧obS w ⟨c0,c1,c2,c3,fs,bx,ff,qu,lo,st⟩ ⟨a1,n1,k1,some ⟨g,off,none⟩,n2,k2,a3,n3,k3,a4,n4,k4⟩ wr) (fun _ i _=>n2-(intOf i).toNat)
 case atStart=>exact⟨0,0,Nat.zero_le _,rfl,rfl,Nat.le_refl _,by simp[busyN],fun j hj h=>absurd h (Nat.not_lt_zero _),fun i j hi hj h1 h2=>absurd h2 (Nat.not_lt_zero _),H0.out⟩
 case round=>
  obtain⟨k,q,hk,rfl,rfl,hqk,hq,hA,hD,hS⟩:=hrel
  have HQQ:Hid (q=busyN (bx.take k)):=hq
  have HA:Hid (∀ j (hj:j<bx.length),j<k→okBx st bx[j]):=hA
  have HD:Hid (∀ i j (hi:i<bx.length) (hj:j<bx.length),i<j→j<k→far bx[i] bx[j]):=hD
  have HS:Hid (obS w ⟨c0,c1,c2,c3,fs,bx,ff,qu,lo,st⟩ ⟨a1,n1,k1,some ⟨g,off,none⟩,n2,k2,a3,n3,k3,a4,n4,k4⟩ wr):=hS
  have x5:=hS.p.cell 5 _ rfl
  have hwz:=hS.p.lt
  clear hq hA hD hS;by_cases hlt:k<n2
  ·have hkl:k<bx.length:=by have:=HL.out;omega
   obtain⟨ao,m,c,hx⟩:=HC.out k hkl
   have hx':=hx.below HS.out.b
   have hlm:=hx'.dat.len
   have HRB0:=rbS.of hkl HA.out HD.out
   have HRG:=hx'.range
   obtain⟨b,hb⟩ : ∃ b,bx[k]=b:=⟨_,rfl⟩
   rw[hb] at HRB0 HRG hlm
   obtain⟨x,y,z,e,i,r,d,l⟩:=b
   have HR:Hid (rbS st bx k ⟨x,y,z,e,i,r,d,l⟩):=HRB0
   have HRG:Hid (wr.rangeAt g (off+k*8) [I J x,I J y,I J z,bO e,I .u32 (i:Int),bO r,I J d,sL ao m c]):=HRG
   have HLM:Hid (m=l.length):=hlm
   clear hx hx' hb hlm HRB0;have HBAD0:Hid (¬ okBx st ⟨x,y,z,e,i,r,d,l⟩→¬ okBxs st bx):=HR.out.bad
   by_cases hx0:x=0
   ·subst hx0;by_cases hy0:y=0
    ·subst hy0;by_cases hz0:z=0
     ·subst hz0;by_cases hzf:zFr e i r d m
      ·have HOK:Hid (okBx st ⟨0,0,0,e,i,r,d,l⟩):=by
        show okBx st ⟨0,0,0,e,i,r,d,l⟩
        unfold okBx
        rw[if_pos rfl]
        exact⟨rfl,rfl,HLM.out ▸ hzf⟩
       have HZF:Hid (∀ W,Calls Tp 99 #[frV e i r d ao m c] W fun o w'=>o = rT (bO true)∧Below W.heap.size W w'):=fun W=>(l3zeroFrame_any W e i r d ao m c).mono (by rintro o w' ⟨⟨bb,rfl,h1⟩,h2⟩;rw[h1.2 hzf];exact⟨rfl,h2⟩)
       clear hzf;have HW3:Hid (obS w ⟨c0,c1,c2,c3,fs,bx,ff,qu,lo,st⟩ ⟨a1,n1,k1,some ⟨g,off,none⟩,n2,k2,a3,n3,k3,a4,n4,k4⟩ (wr.alloc (.cells #[I J 0,I J 0,I J 0,bO e,I .u32 (i:Int),bO r,I J d,sL ao m c] 116))):=HS.out.below ((Below.refl _ _).alloc (Nat.le_refl _) _)
       have p9:=HW3.out.p.cell 9 _ rfl
       have p5:=HW3.out.p.cell 5 _ rfl
       go_wp2_with (first
        | (refine wpList_load_mid (P:=Tp) rfl 116 _ rfl g (off+k*8) rfl _ _ HRG.out Tryz.underlying116 rfl sz95 ?_)
        | (go_at_call 99;refine (HZF.out _).mono ?_;rintro o w4 ⟨rfl,hb4⟩))
       go_roundw
       case rel=>
        refine⟨k+1,q,by omega,by go_num,rfl,by omega,?_,HR.out.good HOK.out,HR.out.fars (fun i hi hik _ h=>absurd rfl h),HW3.out.below hb4⟩
        rw[HR.out.bn,← HQQ.out]
        simp
       case measure=>simp[intOf];omega
      ·have HBAD:Hid (¬ okBxs st bx):=HBAD0.out (by unfold okBx;rw[if_pos rfl];exact fun h=>hzf (HLM.out ▸ h.2.2))
       have HZF:Hid (∀ W,Calls Tp 99 #[frV e i r d ao m c] W fun o w'=>o = rT (bO false)∧Below W.heap.size W w'):=fun W=>(l3zeroFrame_any W e i r d ao m c).mono (by rintro o w' ⟨⟨bb,rfl,h1⟩,h2⟩;cases bb;exact⟨rfl,h2⟩;exact absurd (h1.1 rfl) hzf)
       clear hzf;have HW3:Hid (obS w ⟨c0,c1,c2,c3,fs,bx,ff,qu,lo,st⟩ ⟨a1,n1,k1,some ⟨g,off,none⟩,n2,k2,a3,n3,k3,a4,n4,k4⟩ (wr.alloc (.cells #[I J 0,I J 0,I J 0,bO e,I .u32 (i:Int),bO r,I J d,sL ao m c] 116))):=HS.out.below ((Below.refl _ _).alloc (Nat.le_refl _) _)
       have p9:=HW3.out.p.cell 9 _ rfl
       have p5:=HW3.out.p.cell 5 _ rfl
       clear HR HD HA HQQ;go_wp2_with (first
        | (refine wpList_load_mid (P:=Tp) rfl 116 _ rfl g (off+k*8) rfl _ _ HRG.out Tryz.underlying116 rfl sz95 ?_)
        | (go_at_call 99;refine (HZF.out _).mono ?_;rintro o w4 ⟨rfl,hb4⟩))
       go_ret;exact⟨⟨false,rfl,by simpa using HBAD.out⟩,(HW3.out.below hb4).b⟩
     ·have HBAD:Hid (¬ okBxs st bx):=HBAD0.out (by unfold okBx;rw[if_pos rfl];exact fun h=>hz0 h.2.1)
      have hz0':(z != 0)=true:=by simpa using hz0
      clear hz0;have HW3:Hid (obS w ⟨c0,c1,c2,c3,fs,bx,ff,qu,lo,st⟩ ⟨a1,n1,k1,some ⟨g,off,none⟩,n2,k2,a3,n3,k3,a4,n4,k4⟩ (wr.alloc (.cells #[I J 0,I J 0,I J z,bO e,I .u32 (i:Int),bO r,I J d,sL ao m c] 116))):=HS.out.below ((Below.refl _ _).alloc (Nat.le_refl _) _)
      have p9:=HW3.out.p.cell 9 _ rfl
      have p5:=HW3.out.p.cell 5 _ rfl
      clear HR HD HA HQQ;go_wp2_with (first
       | (refine wpList_load_mid (P:=Tp) rfl 116 _ rfl g (off+k*8) rfl _ _ HRG.out Tryz.underlying116 rfl sz95 ?_))
      go_ret;exact⟨⟨false,rfl,by simpa using HBAD.out⟩,HW3.out.b⟩
    ·have HBAD:Hid (¬ okBxs st bx):=HBAD0.out (by unfold okBx;rw[if_pos rfl];exact fun h=>hy0 h.1)
     have hy0':(y != 0)=true:=by simpa using hy0
     clear hy0;have HW3:Hid (obS w ⟨c0,c1,c2,c3,fs,bx,ff,qu,lo,st⟩ ⟨a1,n1,k1,some ⟨g,off,none⟩,n2,k2,a3,n3,k3,a4,n4,k4⟩ (wr.alloc (.cells #[I J 0,I J y,I J z,bO e,I .u32 (i:Int),bO r,I J d,sL ao m c] 116))):=HS.out.below ((Below.refl _ _).alloc (Nat.le_refl _) _)
     have p9:=HW3.out.p.cell 9 _ rfl
     have p5:=HW3.out.p.cell 5 _ rfl
     clear HR HD HA HQQ;go_wp2_with (first
      | (refine wpList_load_mid (P:=Tp) rfl 116 _ rfl g (off+k*8) rfl _ _ HRG.out Tryz.underlying116 rfl sz95 ?_))
     go_ret;exact⟨⟨false,rfl,by simpa using HBAD.out⟩,HW3.out.b⟩
   have hx0':(x == 0)=false:=by simpa using hx0
   by_cases h1:x<0
   ·have HBAD:Hid (¬ okBxs st bx):=HBAD0.out (by unfold okBx;rw[if_neg hx0];exact fun h=>by dsimp only at h;omega)
    clear hx0;have HW3:Hid (obS w ⟨c0,c1,c2,c3,fs,bx,ff,qu,lo,st⟩ ⟨a1,n1,k1,some ⟨g,off,none⟩,n2,k2,a3,n3,k3,a4,n4,k4⟩ (wr.alloc (.cells #[I J x,I J y,I J z,bO e,I .u32 (i:Int),bO r,I J d,sL ao m c] 116))):=HS.out.below ((Below.refl _ _).alloc (Nat.le_refl _) _)
    have p9:=HW3.out.p.cell 9 _ rfl
    have p5:=HW3.out.p.cell 5 _ rfl
    clear HR HD HA HQQ;go_wp2_with (first
     | (refine wpList_load_mid (P:=Tp) rfl 116 _ rfl g (off+k*8) rfl _ _ HRG.out Tryz.underlying116 rfl sz95 ?_))
    go_ret;exact⟨⟨false,rfl,by simpa using HBAD.out⟩,HW3.out.b⟩
   by_cases h2:3<x
   ·have HBAD:Hid (¬ okBxs st bx):=HBAD0.out (by unfold okBx;rw[if_neg hx0];exact fun h=>by dsimp only at h;omega)
    clear hx0;have HW3:Hid (obS w ⟨c0,c1,c2,c3,fs,bx,ff,qu,lo,st⟩ ⟨a1,n1,k1,some ⟨g,off,none⟩,n2,k2,a3,n3,k3,a4,n4,k4⟩ (wr.alloc (.cells #[I J x,I J y,I J z,bO e,I .u32 (i:Int),bO r,I J d,sL ao m c] 116))):=HS.out.below ((Below.refl _ _).alloc (Nat.le_refl _) _)
    have p9:=HW3.out.p.cell 9 _ rfl
    have p5:=HW3.out.p.cell 5 _ rfl
    clear HR HD HA HQQ;go_wp2_with (first
     | (refine wpList_load_mid (P:=Tp) rfl 116 _ rfl g (off+k*8) rfl _ _ HRG.out Tryz.underlying116 rfl sz95 ?_))
    go_ret;exact⟨⟨false,rfl,by simpa using HBAD.out⟩,HW3.out.b⟩
   by_cases h3:y<0
   ·have HBAD:Hid (¬ okBxs st bx):=HBAD0.out (by unfold okBx;rw[if_neg hx0];exact fun h=>by dsimp only at h;omega)
    clear hx0;have HW3:Hid (obS w ⟨c0,c1,c2,c3,fs,bx,ff,qu,lo,st⟩ ⟨a1,n1,k1,some ⟨g,off,none⟩,n2,k2,a3,n3,k3,a4,n4,k4⟩ (wr.alloc (.cells #[I J x,I J y,I J z,bO e,I .u32 (i:Int),bO r,I J d,sL ao m c] 116))):=HS.out.below ((Below.refl _ _).alloc (Nat.le_refl _) _)
    have p9:=HW3.out.p.cell 9 _ rfl
    have p5:=HW3.out.p.cell 5 _ rfl
    clear HR HD HA HQQ;go_wp2_with (first
     | (refine wpList_load_mid (P:=Tp) rfl 116 _ rfl g (off+k*8) rfl _ _ HRG.out Tryz.underlying116 rfl sz95 ?_))
    go_ret;exact⟨⟨false,rfl,by simpa using HBAD.out⟩,HW3.out.b⟩
   by_cases h4:9999<y
   ·have HBAD:Hid (¬ okBxs st bx):=HBAD0.out (by unfold okBx;rw[if_neg hx0];exact fun h=>by dsimp only at h;omega)
    clear hx0;have HW3:Hid (obS w ⟨c0,c1,c2,c3,fs,bx,ff,qu,lo,st⟩ ⟨a1,n1,k1,some ⟨g,off,none⟩,n2,k2,a3,n3,k3,a4,n4,k4⟩ (wr.alloc (.cells #[I J x,I J y,I J z,bO e,I .u32 (i:Int),bO r,I J d,sL ao m c] 116))):=HS.out.below ((Below.refl _ _).alloc (Nat.le_refl _) _)
    have p9:=HW3.out.p.cell 9 _ rfl
    have p5:=HW3.out.p.cell 5 _ rfl
    clear HR HD HA HQQ;go_wp2_with (first
     | (refine wpList_load_mid (P:=Tp) rfl 116 _ rfl g (off+k*8) rfl _ _ HRG.out Tryz.underlying116 rfl sz95 ?_))
    go_ret;exact⟨⟨false,rfl,by simpa using HBAD.out⟩,HW3.out.b⟩
   by_cases h5:z<0
   ·have HBAD:Hid (¬ okBxs st bx):=HBAD0.out (by unfold okBx;rw[if_neg hx0];exact fun h=>by dsimp only at h;omega)
    clear hx0;have HW3:Hid (obS w ⟨c0,c1,c2,c3,fs,bx,ff,qu,lo,st⟩ ⟨a1,n1,k1,some ⟨g,off,none⟩,n2,k2,a3,n3,k3,a4,n4,k4⟩ (wr.alloc (.cells #[I J x,I J y,I J z,bO e,I .u32 (i:Int),bO r,I J d,sL ao m c] 116))):=HS.out.below ((Below.refl _ _).alloc (Nat.le_refl _) _)
    have p9:=HW3.out.p.cell 9 _ rfl
    have p5:=HW3.out.p.cell 5 _ rfl
    clear HR HD HA HQQ;go_wp2_with (first
     | (refine wpList_load_mid (P:=Tp) rfl 116 _ rfl g (off+k*8) rfl _ _ HRG.out Tryz.underlying116 rfl sz95 ?_))
    go_ret;exact⟨⟨false,rfl,by simpa using HBAD.out⟩,HW3.out.b⟩
   by_cases h6:st≤z
   ·have HBAD:Hid (¬ okBxs st bx):=HBAD0.out (by unfold okBx;rw[if_neg hx0];exact fun h=>by dsimp only at h;omega)
    clear hx0;have HW3:Hid (obS w ⟨c0,c1,c2,c3,fs,bx,ff,qu,lo,st⟩ ⟨a1,n1,k1,some ⟨g,off,none⟩,n2,k2,a3,n3,k3,a4,n4,k4⟩ (wr.alloc (.cells #[I J x,I J y,I J z,bO e,I .u32 (i:Int),bO r,I J d,sL ao m c] 116))):=HS.out.below ((Below.refl _ _).alloc (Nat.le_refl _) _)
    have p9:=HW3.out.p.cell 9 _ rfl
    have p5:=HW3.out.p.cell 5 _ rfl
    clear HR HD HA HQQ;go_wp2_with (first
     | (refine wpList_load_mid (P:=Tp) rfl 116 _ rfl g (off+k*8) rfl _ _ HRG.out Tryz.underlying116 rfl sz95 ?_))
    go_ret;exact⟨⟨false,rfl,by simpa using HBAD.out⟩,HW3.out.b⟩
   cases hv:validB e i r d m
   ·have HBAD:Hid (¬ okBxs st bx):=HBAD0.out (by unfold okBx;rw[if_neg hx0];exact fun h=>by have:=h.2.2.2;rw[← HLM.out] at this;simp only[] at this;rw[hv] at this;cases this)
    have HVF:Hid (∀ W,Calls Tp 49 #[frV e i r d ao m c] W fun o w'=>o = rT (bO false)∧Below W.heap.size W w'):=fun W=>hv ▸ specValid_any W e i r d ao m c
    clear hx0 hv;have HW3:Hid (obS w ⟨c0,c1,c2,c3,fs,bx,ff,qu,lo,st⟩ ⟨a1,n1,k1,some ⟨g,off,none⟩,n2,k2,a3,n3,k3,a4,n4,k4⟩ (wr.alloc (.cells #[I J x,I J y,I J z,bO e,I .u32 (i:Int),bO r,I J d,sL ao m c] 116))):=HS.out.below ((Below.refl _ _).alloc (Nat.le_refl _) _)
    have p9:=HW3.out.p.cell 9 _ rfl
    have p5:=HW3.out.p.cell 5 _ rfl
    clear HR HD HA HQQ;go_wp2_with (first
     | (refine wpList_load_mid (P:=Tp) rfl 116 _ rfl g (off+k*8) rfl _ _ HRG.out Tryz.underlying116 rfl sz95 ?_)
     | (go_at_call 49;refine (HVF.out _).mono ?_;rintro o w4 ⟨rfl,hb4⟩))
    go_ret;exact⟨⟨false,rfl,by simpa using HBAD.out⟩,(HW3.out.below hb4).b⟩
   have HOK:Hid (okBx st ⟨x,y,z,e,i,r,d,l⟩):=by
    show okBx st ⟨x,y,z,e,i,r,d,l⟩
    unfold okBx
    rw[if_neg hx0]
    exact⟨⟨by simp only[];omega,by simp only[];omega⟩,⟨by simp only[];omega,by simp only[];omega⟩,⟨by simp only[];omega,by simp only[];omega⟩,by rw[← HLM.out];exact hv⟩
   have HVF:Hid (∀ W,Calls Tp 49 #[frV e i r d ao m c] W fun o w'=>o = rT (bO true)∧Below W.heap.size W w'):=fun W=>hv ▸ specValid_any W e i r d ao m c
   have HX0:Hid (x≠0):=hx0
   clear hv hx0;by_cases hx1:x=1
   ·subst hx1;have HW3:Hid (obS w ⟨c0,c1,c2,c3,fs,bx,ff,qu,lo,st⟩ ⟨a1,n1,k1,some ⟨g,off,none⟩,n2,k2,a3,n3,k3,a4,n4,k4⟩ (wr.alloc (.cells #[I J 1,I J y,I J z,bO e,I .u32 (i:Int),bO r,I J d,sL ao m c] 116))):=HS.out.below ((Below.refl _ _).alloc (Nat.le_refl _) _)
    have p9:=HW3.out.p.cell 9 _ rfl
    have p5:=HW3.out.p.cell 5 _ rfl
    go_wp2_with (first
     | (refine wpList_load_mid (P:=Tp) rfl 116 _ rfl g (off+k*8) rfl _ _ HRG.out Tryz.underlying116 rfl sz95 ?_)
     | (go_at_call 49;refine (HVF.out _).mono ?_;rintro o w4 ⟨rfl,hb4⟩;have HB4:Hid (blk w4 wr.heap.size [I J 1,I J y,I J z,bO e,I .u32 (i:Int),bO r,I J d,sL ao m c] 116∧obS w ⟨c0,c1,c2,c3,fs,bx,ff,qu,lo,st⟩ ⟨a1,n1,k1,some ⟨g,off,none⟩,n2,k2,a3,n3,k3,a4,n4,k4⟩ w4):=⟨(blk.new wr [I J 1,I J y,I J z,bO e,I .u32 (i:Int),bO r,I J d,sL ao m c] 116).below hb4,HW3.out.below hb4⟩;have y0:=HB4.out.1.cell 0 _ rfl;have y1:=HB4.out.1.cell 1 _ rfl;have y2:=HB4.out.1.cell 2 _ rfl;have o5:=HB4.out.2.p.cell 5 _ rfl;clear hb4 p5 p9))
    clear y0 y1 y2 o5 HRG HS x5 hwz HW3 HBAD0;generalize wr.heap.size=PB at *;go_loopw [6] (fun j wr=>∃ v:Nat,v≤k∧j = I J (v:Int)∧(∀ i' (hi:i'<bx.length),i'<v→far bx[i'] ⟨1,y,z,e,i,r,d,l⟩)∧Below w4.heap.size w4 wr) (fun j _=>k-(intOf j).toNat)
    case atStart=>exact⟨0,Nat.zero_le _,rfl,fun i hi h=>absurd h (Nat.not_lt_zero _),Below.refl _ _⟩
    case round=>
     obtain⟨v,hvk0,rfl,hF,hbi⟩:=hrel
     have HBI:Hid (Below w4.heap.size w4 wr):=hbi
     have HF:Hid (∀ i' (hi:i'<bx.length),i'<v→far bx[i'] ⟨1,y,z,e,i,r,d,l⟩):=hF
     have y1:=(HB4.out.1.below hbi).cell 1 _ rfl
     have y2:=(HB4.out.1.below hbi).cell 2 _ rfl
     have o5:=(HB4.out.2.below hbi).p.cell 5 _ rfl
     clear hF hbi;by_cases hvk:v<k
     ·have hvl:v<bx.length:=by have:=HL.out;omega
      have hvn:v<n2:=by omega
      obtain⟨ao',m',c',hx⟩:=HC.out v hvl
      have hx':=hx.below (HB4.out.2.below HBI.out).b
      have u0:=hx'.c0
      have u1:=hx'.c1
      have u2:=hx'.c2
      have HFS:Hid (far bx[v] ⟨1,y,z,e,i,r,d,l⟩→∀ i' (hi:i'<bx.length),i'<v+1→far bx[i'] ⟨1,y,z,e,i,r,d,l⟩):=fun h1=>ok_snocP (p:=fun t=>far t ⟨1,y,z,e,i,r,d,l⟩) hvl HF.out h1
      have HNF:Hid (¬ far bx[v] ⟨1,y,z,e,i,r,d,l⟩→¬ okBxs st bx):=HR.out.bf v hvl hvk
      obtain⟨b',hb'⟩ : ∃ b',bx[v]=b':=⟨_,rfl⟩
      rw[hb'] at u0 u1 u2 HFS HNF
      obtain⟨x',y',z',e',i',r',d',l'⟩:=b'
      simp only[] at u0 u1 u2
      clear hx hx' hb';by_cases hx'0:x'=0
      ·have FAR:Hid (∀ i' (hi:i'<bx.length),i'<v+1→far bx[i'] ⟨1,y,z,e,i,r,d,l⟩):=HFS.out (fun h=>absurd hx'0 h)
       subst hx'0;clear HFS HNF;go_wp2
       go_quiet (fail)
       have HBJ:Hid (Below w4.heap.size w4 (wr.drewN nq)):=below_drewN HBI.out nq
       go_wp2
       go_roundw
       case rel=>exact⟨v+1,by omega,by go_num,FAR.out,HBJ.out⟩
       case measure=>simp[intOf];omega
      ·have hx'1:(x' != 0)=true:=by simpa using hx'0
       by_cases hyy:y'=y
       ·have HBAD:Hid (¬ okBxs st bx):=HNF.out (fun h=>(h hx'0 HX0.out).1 hyy)
        subst hyy;clear HFS HNF hx'0;go_wp2
        go_quiet (fail)
        have HBJ:Hid (Below w4.heap.size w4 (wr.drewN nq)):=below_drewN HBI.out nq
        go_wp2
        go_ret;exact⟨⟨false,rfl,by simpa using HBAD.out⟩,(HB4.out.2.below HBJ.out).b⟩
       ·have hyy':(y' == y)=false:=by simpa using hyy
        by_cases hzz:z'=z
        ·have HBAD:Hid (¬ okBxs st bx):=HNF.out (fun h=>(h hx'0 HX0.out).2 hzz)
         subst hzz;clear HFS HNF hx'0 hyy;go_wp2
         go_quiet (fail)
         have HBJ:Hid (Below w4.heap.size w4 (wr.drewN nq)):=below_drewN HBI.out nq
         go_wp2
         go_ret;exact⟨⟨false,rfl,by simpa using HBAD.out⟩,(HB4.out.2.below HBJ.out).b⟩
        ·have hzz':(z' == z)=false:=by simpa using hzz
         have FAR:Hid (∀ i' (hi:i'<bx.length),i'<v+1→far bx[i'] ⟨1,y,z,e,i,r,d,l⟩):=HFS.out (fun _ _=>⟨hyy,hzz⟩)
         clear HFS HNF hx'0 hyy hzz;go_wp2
         go_quiet (fail)
         have HBJ:Hid (Below w4.heap.size w4 (wr.drewN nq)):=below_drewN HBI.out nq
         go_wp2
         go_roundw
         case rel=>exact⟨v+1,by omega,by go_num,FAR.out,HBJ.out⟩
         case measure=>simp[intOf];omega
     ·have hve:v=k:=by omega
      subst hve;go_wp2
      go_roundw
      case rel=>
       refine⟨v+1,q,by omega,by go_num,by go_num,by omega,?_,HR.out.good HOK.out,HR.out.fars HF.out,HB4.out.2.below HBI.out⟩
       rw[HR.out.bn,← HQQ.out]
       simp
      case measure=>simp[intOf];omega
   ·have hx1':(x != 1)=true:=by simpa using hx1
    have HX1:Hid (x≠1):=hx1
    clear hx1;have HW3:Hid (obS w ⟨c0,c1,c2,c3,fs,bx,ff,qu,lo,st⟩ ⟨a1,n1,k1,some ⟨g,off,none⟩,n2,k2,a3,n3,k3,a4,n4,k4⟩ (wr.alloc (.cells #[I J x,I J y,I J z,bO e,I .u32 (i:Int),bO r,I J d,sL ao m c] 116))):=HS.out.below ((Below.refl _ _).alloc (Nat.le_refl _) _)
    have p9:=HW3.out.p.cell 9 _ rfl
    have p5:=HW3.out.p.cell 5 _ rfl
    go_wp2_with (first
     | (refine wpList_load_mid (P:=Tp) rfl 116 _ rfl g (off+k*8) rfl _ _ HRG.out Tryz.underlying116 rfl sz95 ?_)
     | (go_at_call 49;refine (HVF.out _).mono ?_;rintro o w4 ⟨rfl,hb4⟩;have HB4:Hid (blk w4 wr.heap.size [I J x,I J y,I J z,bO e,I .u32 (i:Int),bO r,I J d,sL ao m c] 116∧obS w ⟨c0,c1,c2,c3,fs,bx,ff,qu,lo,st⟩ ⟨a1,n1,k1,some ⟨g,off,none⟩,n2,k2,a3,n3,k3,a4,n4,k4⟩ w4):=⟨(blk.new wr [I J x,I J y,I J z,bO e,I .u32 (i:Int),bO r,I J d,sL ao m c] 116).below hb4,HW3.out.below hb4⟩;have y0:=HB4.out.1.cell 0 _ rfl;have y1:=HB4.out.1.cell 1 _ rfl;have y2:=HB4.out.1.cell 2 _ rfl;have o5:=HB4.out.2.p.cell 5 _ rfl;clear hb4 p5 p9))
    clear y0 y1 y2 o5 HRG HS x5 hwz HW3 HBAD0;generalize wr.heap.size=PB at *;go_loopw [6] (fun j wr=>∃ v:Nat,v≤k∧j = I J (v:Int)∧(∀ i' (hi:i'<bx.length),i'<v→far bx[i'] ⟨x,y,z,e,i,r,d,l⟩)∧Below w4.heap.size w4 wr) (fun j _=>k-(intOf j).toNat)
    case atStart=>exact⟨0,Nat.zero_le _,rfl,fun i hi h=>absurd h (Nat.not_lt_zero _),Below.refl _ _⟩
    case round=>
     obtain⟨v,hvk0,rfl,hF,hbi⟩:=hrel
     have HBI:Hid (Below w4.heap.size w4 wr):=hbi
     have HF:Hid (∀ i' (hi:i'<bx.length),i'<v→far bx[i'] ⟨x,y,z,e,i,r,d,l⟩):=hF
     have y1:=(HB4.out.1.below hbi).cell 1 _ rfl
     have y2:=(HB4.out.1.below hbi).cell 2 _ rfl
     have o5:=(HB4.out.2.below hbi).p.cell 5 _ rfl
     clear hF hbi;by_cases hvk:v<k
     ·have hvl:v<bx.length:=by have:=HL.out;omega
      have hvn:v<n2:=by omega
      obtain⟨ao',m',c',hx⟩:=HC.out v hvl
      have hx':=hx.below (HB4.out.2.below HBI.out).b
      have u0:=hx'.c0
      have u1:=hx'.c1
      have u2:=hx'.c2
      have HFS:Hid (far bx[v] ⟨x,y,z,e,i,r,d,l⟩→∀ i' (hi:i'<bx.length),i'<v+1→far bx[i'] ⟨x,y,z,e,i,r,d,l⟩):=fun h1=>ok_snocP (p:=fun t=>far t ⟨x,y,z,e,i,r,d,l⟩) hvl HF.out h1
      have HNF:Hid (¬ far bx[v] ⟨x,y,z,e,i,r,d,l⟩→¬ okBxs st bx):=HR.out.bf v hvl hvk
      obtain⟨b',hb'⟩ : ∃ b',bx[v]=b':=⟨_,rfl⟩
      rw[hb'] at u0 u1 u2 HFS HNF
      obtain⟨x',y',z',e',i',r',d',l'⟩:=b'
      simp only[] at u0 u1 u2
      clear hx hx' hb';by_cases hx'0:x'=0
      ·have FAR:Hid (∀ i' (hi:i'<bx.length),i'<v+1→far bx[i'] ⟨x,y,z,e,i,r,d,l⟩):=HFS.out (fun h=>absurd hx'0 h)
       subst hx'0;clear HFS HNF;go_wp2
       go_quiet (fail)
       have HBJ:Hid (Below w4.heap.size w4 (wr.drewN nq)):=below_drewN HBI.out nq
       go_wp2
       go_roundw
       case rel=>exact⟨v+1,by omega,by go_num,FAR.out,HBJ.out⟩
       case measure=>simp[intOf];omega
      ·have hx'1:(x' != 0)=true:=by simpa using hx'0
       by_cases hyy:y'=y
       ·have HBAD:Hid (¬ okBxs st bx):=HNF.out (fun h=>(h hx'0 HX0.out).1 hyy)
        subst hyy;clear HFS HNF hx'0;go_wp2
        go_quiet (fail)
        have HBJ:Hid (Below w4.heap.size w4 (wr.drewN nq)):=below_drewN HBI.out nq
        go_wp2
        go_ret;exact⟨⟨false,rfl,by simpa using HBAD.out⟩,(HB4.out.2.below HBJ.out).b⟩
       ·have hyy':(y' == y)=false:=by simpa using hyy
        by_cases hzz:z'=z
        ·have HBAD:Hid (¬ okBxs st bx):=HNF.out (fun h=>(h hx'0 HX0.out).2 hzz)
         subst hzz;clear HFS HNF hx'0 hyy;go_wp2
         go_quiet (fail)
         have HBJ:Hid (Below w4.heap.size w4 (wr.drewN nq)):=below_drewN HBI.out nq
         go_wp2
         go_ret;exact⟨⟨false,rfl,by simpa using HBAD.out⟩,(HB4.out.2.below HBJ.out).b⟩
        ·have hzz':(z' == z)=false:=by simpa using hzz
         have FAR:Hid (∀ i' (hi:i'<bx.length),i'<v+1→far bx[i'] ⟨x,y,z,e,i,r,d,l⟩):=HFS.out (fun _ _=>⟨hyy,hzz⟩)
         clear HFS HNF hx'0 hyy hzz;go_wp2
         go_quiet (fail)
         have HBJ:Hid (Below w4.heap.size w4 (wr.drewN nq)):=below_drewN HBI.out nq
         go_wp2
         go_roundw
         case rel=>exact⟨v+1,by omega,by go_num,FAR.out,HBJ.out⟩
         case measure=>simp[intOf];omega
     ·have hve:v=k:=by omega
      subst hve;go_wp2
      go_roundw
      case rel=>
       refine⟨v+1,q+1,by omega,by go_num,by go_num,by omega,?_,HR.out.good HOK.out,HR.out.fars HF.out,HB4.out.2.below HBI.out⟩
       rw[HR.out.bn,← HQQ.out]
       rw[if_pos (by simp[HX0.out,HX1.out])]
      case measure=>simp[intOf];omega
  ·have hkn:k=n2:=by omega
   have HFIN:Hid (okBxs st bx↔q≤1):=by
    have e0:bx.take k=bx:=List.take_of_length_le (by have:=HL.out;omega)
    have e1:=HQQ.out
    rw[e0] at e1
    refine⟨fun h=>by have:=h.2.2;omega,fun h=>⟨fun j hj=>HA.out j hj (by have:=HL.out;omega),fun i j hi hj hij=>HD.out i j hi hj hij (by have:=HL.out;omega),by omega⟩⟩
   clear hkn;by_cases hq1:q≤1
   ·have hq1':decide ((q:Int)≤1)=true:=by simp;omega
    go_wp2
    go_ret;exact⟨⟨true,rfl,by simpa using HFIN.out.2 hq1⟩,HS.out.b⟩
   ·have hq1':decide ((q:Int)≤1)=false:=by simp;omega
    go_wp2
    go_ret;exact⟨⟨false,rfl,by simpa using fun h=>hq1 (HFIN.out.1 h)⟩,HS.out.b⟩
theorem isOnWire_any (w:World) (b:R8) (a:Option Addr) (n cap:Nat) :
  Calls Tp 120 #[bxV b.x b.y b.z b.e b.i b.r b.d a n cap] w fun o w'=>o = rT (bO (b.x == 2 || b.x == 3))∧Below w.heap.size w w':=by
 obtain⟨x,y,z,e,i,r,d,l⟩:=b
 have HA:Hid (Below w.heap.size w (w.alloc (.cells #[I J x,I J y,I J z,bO e,I .u32 (i:Int),bO r,I J d,sL a n cap] 116))):=(Below.refl _ _).alloc (Nat.le_refl _) _
 by_cases h2:x=2
 ·subst h2;go_enter Tryz.func120,Tryz.ntmps120
  go_wp2
  go_ret;exact⟨rfl,HA.out⟩
 ·have h2':(x == 2)=false:=by simpa using h2
  go_enter Tryz.func120,Tryz.ntmps120
  go_wp2
  go_ret;exact⟨ret_bool (by simp[h2']),HA.out⟩
set_option maxRecDepth 20000 in
theorem validBox_any (w:World) (b:R8) (st:Int) (a:Option Addr) (n cap:Nat) (h:isBytes w a n cap b.l) (hst:0≤st∧st≤1000000) :
  Calls Tp 151 #[bxV b.x b.y b.z b.e b.i b.r b.d a n cap,I J st] w fun o w'=>retB o (okBx st b)∧Below w.heap.size w w':=by
 have hlen:=h.len
 obtain⟨x,y,z,e,i,r,d,l⟩:=b
 simp only[] at hlen h ⊢
 have HA:Hid (Below w.heap.size w (w.alloc (.cells #[I J x,I J y,I J z,bO e,I .u32 (i:Int),bO r,I J d,sL a n cap] 116))):=(Below.refl _ _).alloc (Nat.le_refl _) _
 have HV:Hid (∀ W,Below w.heap.size w W→Calls Tp 130 #[frV e i r d a n cap] W fun o w'=>o = rT (bO (validB e i r d n))∧Below W.heap.size W w'):=fun W hW=>valid_any W e i r d a n cap l (h.below hW)
 have HZ:Hid (∀ W,Below w.heap.size w W→Calls Tp 168 #[frV e i r d a n cap,frV false 0 false 0 none 0 0] W fun o w'=>o = rT (bO ((e == false) && (r == false) && ((i:Int) == ((0:Nat):Int)) && (d == 0) && decide (l=[])))∧Below W.heap.size W w'):=fun W hW=>same_any W e i r d a n cap l (h.below hW) false 0 false 0 none 0 0 [] ⟨rfl,Nat.le_refl _,fun _ hx=>(by cases hx),fun hne=>absurd rfl hne⟩
 have HLN:Hid (n=l.length):=hlen
 clear h hlen;by_cases hx0:x=0
 ·subst hx0;have HOK:Hid (okBx st ⟨0,y,z,e,i,r,d,l⟩↔(y=0∧z=0∧zFr e i r d l.length)):=by show _↔_;unfold okBx;rw[if_pos rfl]
  by_cases hy0:y=0
  ·subst hy0;by_cases hz0:z=0
   ·subst hz0;go_enter Tryz.func151,Tryz.ntmps151
    go_wp2_with (first
     | (go_at_call 168;refine (HZ.out _ HA.out).mono ?_;rintro o w1 ⟨rfl,hb1⟩))
    go_ret;refine⟨⟨_,rfl,?_⟩,HA.out.trans (hb1.mono HA.out.size)⟩
    rw[HOK.out]
    unfold zFr
    simp
    cases e <;> cases r <;> simp
    constructor
    ·rintro⟨⟨h1,h2⟩,h3⟩;exact⟨h1,h2,by rw[h3]⟩
    ·rintro⟨h1,h2,h3⟩;exact⟨⟨h1,h2⟩,by simpa using h3⟩
   ·have hz':(z == 0)=false:=by simpa using hz0
    go_enter Tryz.func151,Tryz.ntmps151
    go_wp2
    go_ret;exact⟨⟨false,rfl,by rw[HOK.out];simp[hz0]⟩,HA.out⟩
  ·have hy':(y == 0)=false:=by simpa using hy0
   go_enter Tryz.func151,Tryz.ntmps151
   go_wp2
   go_ret;exact⟨⟨false,rfl,by rw[HOK.out];simp[hy0]⟩,HA.out⟩
 ·have HOK:Hid (okBx st ⟨x,y,z,e,i,r,d,l⟩↔((1≤x∧x≤3)∧(0≤y∧y≤9999)∧(0≤z∧z<st)∧validB e i r d n=true)):=by show _↔_;unfold okBx;rw[if_neg hx0,HLN.out]
  have hx':(x == 0)=false:=by simpa using hx0
  have HIR:Hid (∀ (W:World) (v l m:Int) (bb:Bool),decide (l≤v∧v≤m)=bb→Calls Tp 66 #[I J v,I J l,I J m] W fun o w'=>o = rT (bO bb)∧W=w'):=fun W v l m bb hbb=>hbb ▸ inRange_any W v l m
  have hs1:IntKind.i64.wrap (st-1)=st-1:=by rw[IntKind.wrap_i64];omega
  clear hx0;by_cases h1:1≤x∧x≤3
  ·have J1:Hid (∀ W,Calls Tp 66 #[I J x,I J 1,I J 3] W fun o w'=>o = rT (bO true)∧W=w'):=fun W=>HIR.out W x 1 3 true (decide_eq_true h1)
   by_cases h2:0≤y∧y≤9999
   ·have J2:Hid (∀ W,Calls Tp 66 #[I J y,I J 0,I J 9999] W fun o w'=>o = rT (bO true)∧W=w'):=fun W=>HIR.out W y 0 9999 true (decide_eq_true h2)
    by_cases h3:0≤z∧z≤st-1
    ·have J3:Hid (∀ W,Calls Tp 66 #[I J z,I J 0,I J (st-1)] W fun o w'=>o = rT (bO true)∧W=w'):=fun W=>HIR.out W z 0 (st-1) true (decide_eq_true h3)
     have HF:Hid (okBx st ⟨x,y,z,e,i,r,d,l⟩↔validB e i r d n=true):=HOK.out.trans ⟨fun h=>h.2.2.2,fun h=>⟨h1,h2,⟨h3.1,by omega⟩,h⟩⟩
     clear h1 h2 h3 HIR HOK HZ;go_enter Tryz.func151,Tryz.ntmps151
     go_wp2_with (first
      | (go_at_call 66;first | (refine (J1.out _).mono ?_;rintro o w1 ⟨rfl,rfl⟩;clear J1) | (refine (J2.out _).mono ?_;rintro o w1 ⟨rfl,rfl⟩;clear J2) | (refine (J3.out _).mono ?_;rintro o w1 ⟨rfl,rfl⟩;clear J3))
      | (go_at_call 130;refine (HV.out _ HA.out).mono ?_;rintro o w1 ⟨rfl,hb1⟩))
     go_ret;exact⟨⟨_,rfl,HF.out.symm⟩,HA.out.trans (hb1.mono HA.out.size)⟩
    ·have J3:Hid (∀ W,Calls Tp 66 #[I J z,I J 0,I J (st-1)] W fun o w'=>o = rT (bO false)∧W=w'):=fun W=>HIR.out W z 0 (st-1) false (decide_eq_false h3)
     have HF:Hid (¬ okBx st ⟨x,y,z,e,i,r,d,l⟩):=fun h=>h3 (by have:=(HOK.out.1 h).2.2.1;omega)
     clear h1 h2 h3 HIR HOK HZ HV;go_enter Tryz.func151,Tryz.ntmps151
     go_wp2_with (first
      | (go_at_call 66;first | (refine (J1.out _).mono ?_;rintro o w1 ⟨rfl,rfl⟩;clear J1) | (refine (J2.out _).mono ?_;rintro o w1 ⟨rfl,rfl⟩;clear J2) | (refine (J3.out _).mono ?_;rintro o w1 ⟨rfl,rfl⟩;clear J3)))
     go_ret;exact⟨⟨false,rfl,by simpa using HF.out⟩,HA.out⟩
   ·have J2:Hid (∀ W,Calls Tp 66 #[I J y,I J 0,I J 9999] W fun o w'=>o = rT (bO false)∧W=w'):=fun W=>HIR.out W y 0 9999 false (decide_eq_false h2)
    have HF:Hid (¬ okBx st ⟨x,y,z,e,i,r,d,l⟩):=fun h=>h2 (HOK.out.1 h).2.1
    clear h1 h2 HIR HOK HZ HV;go_enter Tryz.func151,Tryz.ntmps151
    go_wp2_with (first
     | (go_at_call 66;first | (refine (J1.out _).mono ?_;rintro o w1 ⟨rfl,rfl⟩;clear J1) | (refine (J2.out _).mono ?_;rintro o w1 ⟨rfl,rfl⟩;clear J2)))
    go_ret;exact⟨⟨false,rfl,by simpa using HF.out⟩,HA.out⟩
  ·have J1:Hid (∀ W,Calls Tp 66 #[I J x,I J 1,I J 3] W fun o w'=>o = rT (bO false)∧W=w'):=fun W=>HIR.out W x 1 3 false (decide_eq_false h1)
   have HF:Hid (¬ okBx st ⟨x,y,z,e,i,r,d,l⟩):=fun h=>h1 (HOK.out.1 h).1
   clear h1 HIR HOK HZ HV;go_enter Tryz.func151,Tryz.ntmps151
   go_wp2_with (first
    | (go_at_call 66;refine (J1.out _).mono ?_;rintro o w1 ⟨rfl,rfl⟩;clear J1))
   go_ret;exact⟨⟨false,rfl,by simpa using HF.out⟩,HA.out⟩
def prL:List Value:=[I J 0,I J 0,.func (.func 122) #[] #[],I J 0,I J 0,.func (.func 123) #[] #[],I J 0,I J 5,.func (.func 124) #[] #[],I J 0,I J 15,.func (.func 125) #[] #[],I J 1,I J 7,.func (.func 126) #[] #[],I J 0,I J 2,.func (.func 127) #[] #[],I J 0,I J 7,.func (.func 128) #[] #[],I J 0,I J 10,.func (.func 129) #[] #[]]
theorem prL_len:prL.length=24:=rfl
theorem prL_one:prL.toArray.all (·.oneCell')=true:=all_oneCell_toArray (by simp[prL,Value.oneCell'])
theorem sz123:(Tp.info? 139).map (·.size)=some 24:=by kernel_rfl
theorem sz123A:(Tp.info? 139).map (·.size)=some prL.toArray.size:=sz123
theorem sz123L:(Tp.info? 139).map (·.size)=some prL.length:=sz123
def prZ:List Value:=[I J 0,I J 0,.nilFunc,I J 0,I J 0,.nilFunc,I J 0,I J 0,.nilFunc,I J 0,I J 0,.nilFunc,I J 0,I J 0,.nilFunc,I J 0,I J 0,.nilFunc,I J 0,I J 0,.nilFunc,I J 0,I J 0,.nilFunc]
set_option maxRecDepth 20000 in
theorem phaseRows_any (w:World):Calls Tp 72 #[] w fun o w'=>o = rT (aG prL.toArray)∧Below w.heap.size w w':=by
 have HN:Hid (blk (w.alloc (.cells prZ.toArray 139)) w.heap.size prZ 139):=blk.new w _ 139
 go_enter Tryz.func72,Tryz.ntmps72
 go_wp2_with (first
  | (refine wpList_store_mid (P:=Tp) rfl 139 _ _ rfl w.heap.size 0 prL.toArray rfl rfl (HN.out.there 0 _ (by rw[List.size_toArray,prL_len];decide)) sz123A prL_one ?_;generalize hW8:World.setCells _ w.heap.size 0 _=w8;have HW8:Hid (_=w8):=hW8;clear hW8))
 have e8:=HW8.out
 have hF:blk w8 w.heap.size prL 139:=by
  rw[← e8]
  have:=blk.put [] prZ [] prL (w:=w.alloc (.cells prZ.toArray 139)) (b:=w.heap.size) (T:=139) (by simpa using HN.out) rfl
  have t2:blk ((w.alloc (.cells prZ.toArray 139)).setCells w.heap.size 0 prL) w.heap.size prL 139:=by simpa using this
  exact t2
 have hL:=run_loadVar_mid (P:=Tp) w8 w.heap.size 0 139 _ _ hF.load Tryz.underlying139 rfl sz123L
 refine bodyPost_ret (v:=aG prL.toArray) (results_cell Tryz.results72 _ w8 w.heap.size _ rfl hL) rfl ?_
 refine⟨rfl,?_⟩
 rw[← e8]
 exact setCells_below (Nat.le_refl _) 0 _ ((Below.refl _ _).alloc (Nat.le_refl _) _)
def sgL:List Value:=[I J 0,I J 0,bO false,bO false,I J 0,bO false,I .u32 0,bO false,I J 0,sL none 0 0]
def mcH (P:Nat) (C:Co):List Value:=[pT (some ⟨P,0,none⟩),I J C.te,I J C.re,I J C.p,I J C.ct,I J C.lv,bO C.wk,bO C.ov,bO C.ow,bO C.tx,bO C.ak,I J C.rn]
def mcL (P:Nat) (C:Co):List Value:=mcH P C++(sgL++prL)
set_option maxRecDepth 20000 in
theorem openCore_gen {R:Nat→World→Prop} (hR:∀ P W W',R P W→Below W.heap.size W W'→R P W') (w:World) (C:Co) (s:Sl) (ho:∀ W,Below w.heap.size w W→Calls Tp 71 #[aG (hoL C.ho s).toArray] W fun o w'=>∃ P,o = rT (pT (some ⟨P,0,none⟩))∧R P w'∧Below W.heap.size W w') :
  Calls Tp 36 #[aG (coL C s).toArray] w fun o w'=>∃ P w5,o = rT (pT (some ⟨w5.heap.size,0,none⟩))∧w'=w5.alloc (.cells (mcL P C).toArray 144)∧R P w5∧Below w.heap.size w w5:=by
 have HO:Hid (∀ W,Below w.heap.size w W→Calls Tp 71 #[aG (hoL C.ho s).toArray] W fun o w'=>∃ P,o = rT (pT (some ⟨P,0,none⟩))∧R P w'∧Below W.heap.size W w'):=ho
 have HR:Hid (∀ P W W',R P W→Below W.heap.size W W'→R P W'):=hR
 have HP:Hid (∀ W,Calls Tp 72 #[] W fun o w'=>o = rT (aG prL.toArray)∧Below W.heap.size W w'):=fun W=>phaseRows_any W
 have H0:Hid (ctS w w.heap.size C s (w.alloc (.cells (coL C s).toArray 43))):=ctS.new w C s
 clear ho hR;go_enter Tryz.func36,Tryz.ntmps36
 go_wp2_with fail;refine wp_region_held (S:=fun X=>ctS w w.heap.size C s X) (by kernel_rfl) ?_
 have hS:ctS w w.heap.size C s (World.drew (w.alloc (.cells (coL C s).toArray 43))):=H0.out.below (Below.refl _ _).drew
 clear H0;change wpAnyH Tp _ _ _ _ _ _ _ (World.drew (w.alloc (.cells (coL C s).toArray 43)))
 generalize World.drew (w.alloc (.cells (coL C s).toArray 43))=v0 at *;refine wV 0 (pT (some ⟨w.heap.size,11,none⟩)) ?_ hS ?_
 ·intro W hSw;clear hS;go_simp
 simp only[Act.put,aA,aB,aC,aD,aE]
 refine wU 1 (aG (hoL C.ho s).toArray) rfl (yieldsIf_load_mid (by rfl) 41 (.tmp 3) rfl w.heap.size 11 rfl (hoL C.ho s) _ (fun X h=>h.p.hostAt) Tryz.underlying41 rfl (sz39h C.ho s)) hS ?_
 simp only[aZ];refine wV 3 (pT (some ⟨w.heap.size,9,none⟩)) ?_ hS ?_
 ·intro W hSw;clear hS;go_simp
 simp only[aZ];refine wV 4 (I J C.te) ?_ hS ?_
 ·intro W hSw;clear hS;have y:=hSw.p.cell 9 (I J C.te) rfl
  go_simp
 simp only[aZ];refine wV 5 (pT (some ⟨w.heap.size,10,none⟩)) ?_ hS ?_
 ·intro W hSw;clear hS;go_simp
 simp only[aZ];refine wV 6 (I J C.re) ?_ hS ?_
 ·intro W hSw;clear hS;have y:=hSw.p.cell 10 (I J C.re) rfl
  go_simp
 simp only[aZ];refine wV 8 (pT (some ⟨w.heap.size,0,none⟩)) ?_ hS ?_
 ·intro W hSw;clear hS;go_simp
 simp only[aZ];refine wV 9 (I J C.p) ?_ hS ?_
 ·intro W hSw;clear hS;have y:=hSw.p.cell 0 (I J C.p) rfl
  go_simp
 simp only[aZ];refine wV 10 (pT (some ⟨w.heap.size,1,none⟩)) ?_ hS ?_
 ·intro W hSw;clear hS;go_simp
 simp only[aZ];refine wV 11 (I J C.ct) ?_ hS ?_
 ·intro W hSw;clear hS;have y:=hSw.p.cell 1 (I J C.ct) rfl
  go_simp
 simp only[aZ];refine wV 12 (pT (some ⟨w.heap.size,2,none⟩)) ?_ hS ?_
 ·intro W hSw;clear hS;go_simp
 simp only[aZ];refine wV 13 (I J C.lv) ?_ hS ?_
 ·intro W hSw;clear hS;have y:=hSw.p.cell 2 (I J C.lv) rfl
  go_simp
 simp only[aZ];refine wV 14 (pT (some ⟨w.heap.size,3,none⟩)) ?_ hS ?_
 ·intro W hSw;clear hS;go_simp
 simp only[aZ];refine wV 15 (bO C.wk) ?_ hS ?_
 ·intro W hSw;clear hS;have y:=hSw.p.cell 3 (bO C.wk) rfl
  go_simp
 simp only[aZ];refine wV 16 (pT (some ⟨w.heap.size,4,none⟩)) ?_ hS ?_
 ·intro W hSw;clear hS;go_simp
 simp only[aZ];refine wV 17 (bO C.ov) ?_ hS ?_
 ·intro W hSw;clear hS;have y:=hSw.p.cell 4 (bO C.ov) rfl
  go_simp
 simp only[aZ];refine wV 18 (pT (some ⟨w.heap.size,5,none⟩)) ?_ hS ?_
 ·intro W hSw;clear hS;go_simp
 simp only[aZ];refine wV 19 (bO C.ow) ?_ hS ?_
 ·intro W hSw;clear hS;have y:=hSw.p.cell 5 (bO C.ow) rfl
  go_simp
 simp only[aZ];refine wV 20 (pT (some ⟨w.heap.size,6,none⟩)) ?_ hS ?_
 ·intro W hSw;clear hS;go_simp
 simp only[aZ];refine wV 21 (bO C.tx) ?_ hS ?_
 ·intro W hSw;clear hS;have y:=hSw.p.cell 6 (bO C.tx) rfl
  go_simp
 simp only[aZ];refine wV 22 (pT (some ⟨w.heap.size,7,none⟩)) ?_ hS ?_
 ·intro W hSw;clear hS;go_simp
 simp only[aZ];refine wV 23 (bO C.ak) ?_ hS ?_
 ·intro W hSw;clear hS;have y:=hSw.p.cell 7 (bO C.ak) rfl
  go_simp
 simp only[aZ];refine wV 24 (pT (some ⟨w.heap.size,8,none⟩)) ?_ hS ?_
 ·intro W hSw;clear hS;go_simp
 simp only[aZ];refine wV 25 (I J C.rn) ?_ hS ?_
 ·intro W hSw;clear hS;have y:=hSw.p.cell 8 (I J C.rn) rfl
  go_simp
 simp only[aZ];refine wV 26 (aG #[I J C.p,I J C.ct,I J C.lv,bO C.wk,bO C.ov,bO C.ow,bO C.tx,bO C.ak,I J C.rn]) ?_ hS ?_
 ·intro W hSw;clear hS;go_simp
 simp only[aZ];refine wpAnyH_all (rs:=[2]) (by kernel_rfl) (by simp) ?_
 refine AllReadyH.cons rfl (fun K2 hK2=>?_) AllReadyH.nil
 go_simp;refine (HO.out _ hS.b).mono ?_
 rintro o w2 ⟨P,rfl,hr,hb⟩;have hS2:=hS.below hb
 have HR2:Hid (R P w2):=hr
 clear hr hb;go_wp2_with fail;refine hK2.out _ _ hS2 (fun hS3=>?_)
 clear hK2 K2 hS2 hS;have hS:=hS3
 clear hS3;refine wV 7 (aG #[pT (some ⟨P,0,none⟩),I J C.te,I J C.re]) ?_ hS ?_
 ·intro W hSw;clear hS;go_simp
 simp only[aZ];refine wpAnyH_all (rs:=[27]) (by kernel_rfl) (by simp) ?_
 refine AllReadyH.cons rfl (fun K2 hK2=>?_) AllReadyH.nil
 go_simp;refine (HP.out _).mono ?_
 rintro o w3 ⟨rfl,hb⟩;have hS2:=hS.below hb
 have HR3:Hid (R P w3):=HR.out _ _ _ HR2.out hb
 clear hb HR2;go_wp2_with fail;refine hK2.out _ _ hS2 (fun hS3=>?_)
 clear hK2 K2 hS2 hS;have hS:=hS3
 clear hS3;refine wV 28 (aG (mcL P C).toArray) ?_ hS ?_
 ·intro W hSw;clear hS;simp only[prL,mcL,mcH,sgL,List.cons_append,List.nil_append]
  go_simp
 simp only[aZ];refine wpAnyH_all (rs:=[29]) (by kernel_rfl) (by simp) ?_
 refine AllReadyH.cons rfl (fun K2 hK2=>?_) AllReadyH.nil
 go_simp;have hS2:ctS w w.heap.size C s (w3.alloc (.cells (mcL P C).toArray 144)):=hS.below ((Below.refl _ _).alloc (Nat.le_refl _) _)
 have HB3:Hid (Below w.heap.size w w3):=hS.b
 refine hK2.out _ _ hS2 (fun hS3=>?_)
 clear hK2 K2 hS2 hS;have hS:=hS3
 clear hS3;refine wV 30 (pT (some ⟨w3.heap.size,0,none⟩)) ?_ hS ?_
 ·intro W hSw;clear hS;go_simp
 simp only[aZ];refine wpAnyH_done (by kernel_rfl) ?_ _
 go_wp2_with fail;go_ret;exact⟨P,w3,rfl,rfl,HR3.out,HB3.out⟩
structure okM (C:Co):Prop where
 p:0≤C.p∧C.p≤7
 te:0≤C.te∧C.te≤256
 re:0≤C.re∧C.re≤255
 of:C.p=7↔C.te=256
 ct:rLo C.p≤C.ct∧C.ct≤rHi C.p
 lv:0≤C.lv∧C.lv≤1
 l1:C.lv=1→C.p=2∧C.wk=true∧0<C.ct
 wk:C.wk=true→C.p=2∧C.ov=false
 ov:C.ov=true→C.p=2∨C.p=3∨C.p=4
 ow:C.ow=true→C.wk=true∧C.tx=true
 tx:C.tx=true→C.p≠7∧C.p≠0
 t6:C.p=6→C.tx=true
 ak:C.ak=true→C.p=7
 rn:0≤C.rn∧C.rn<128
 na:C.ak=false→C.rn=0∧(C.p=7→C.ct=0)
end Go.Proofs.YtbllefckefhpoaaGreat
