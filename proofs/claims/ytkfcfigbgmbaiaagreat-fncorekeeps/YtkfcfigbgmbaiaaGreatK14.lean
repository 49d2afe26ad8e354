import Derived.Test.YtkfcfigbgmbaiaaGreatK11
import Derived.Test.YtkfcfigbgmbaiaaGreatK02
namespace Go.Proofs.YtkfcfigbgmbaiaaGreat
set_option maxRecDepth 20000
open Go.RowKit
set_option linter.unusedVariables false
set_option maxHeartbeats 16000000
open Go.Value renaming int→I,slice→sL,bool→bO,pointer→pT,agg→aG
open Go.IntKind renaming i64→J
open Go.Ending renaming returned→rT
open Go.Proofs.Tryz renaming prog→Tp
abbrev l8 (b:R8) (a:Option Addr) (m c:Nat):List Value:=[I J b.x,I J b.y,I J b.z,bO b.e,I .u32 (b.i:Int),bO b.r,I J b.d,sL a m c]
theorem wEvent_same (w:World) (b:R8) (a a':Option Addr) (m c c':Nat) (h:iB w a m c b.l) (h':iB w a' m c' b.l) (hm:m≤1048576) :
  Calls Tp 134 #[aG (l8 b a m c).toArray,aG (l8 b a' m c').toArray] w fun o w'=>o = rT (bO true)∧Below w.heap.size w w':=by
 have HB:Hid (Below w.heap.size w ((w.alloc (.cells (l8 b a m c).toArray 67)).alloc (.cells (l8 b a' m c').toArray 67))):=((bW _ _).alloc (nR _) _).alloc (by simp) _
 have HP:Hid (blk ((w.alloc (.cells (l8 b a m c).toArray 67)).alloc (.cells (l8 b a' m c').toArray 67)) w.heap.size (l8 b a m c) 67∧blk ((w.alloc (.cells (l8 b a m c).toArray 67)).alloc (.cells (l8 b a' m c').toArray 67)) (w.heap.size+1) (l8 b a' m c') 67):=by
  refine⟨(blk.new w _ 67).alloc _,?_⟩
  have:=blk.new (w.alloc (.cells (l8 b a m c).toArray 67)) (l8 b a' m c') 67
  have e:(w.alloc (.cells (l8 b a m c).toArray 67)).heap.size=w.heap.size+1:=by simp
  rw[e] at this
  exact this
 have HW:Hid (∀ X,Below w.heap.size w X→Calls Tp 133 #[frV b.e b.i b.r b.d a m c,frV b.e b.i b.r b.d a' m c'] X fun o w'=>o = rT (bO true)∧Below X.heap.size X w'):=fun X hX=>wFrame_same X _ _ _ _ _ _ _ _ (h.below hX) _ _ (h'.below hX) hm
 have y0:=HP.out.1.cell 0 _ rfl
 have y1:=HP.out.1.cell 1 _ rfl
 have y2:=HP.out.1.cell 2 _ rfl
 have z0:=HP.out.2.cell 0 _ rfl
 have z1:=HP.out.2.cell 1 _ rfl
 have z2:=HP.out.2.cell 2 _ rfl
 clear h h' hm;go_enter Tryz.func134,Tryz.ntmps134
 go_wp2_with fail;refine (HW.out _ HB.out).mono ?_
 rintro o w2 ⟨rfl,hb2⟩;have HE:Hid (Below w.heap.size w w2):=HB.out.trans (hb2.mono HB.out.size)
 clear hb2 HP y0 y1 y2 z0 z1 z2;go_wp2_with fail;go_ret;exact⟨rfl,HE.out⟩
theorem at8.m {w:World} {g o:Nat} {b:R8} {ao:Option Addr} {m c:Nat} (h:at8 w g o b ao m c):at8 w g o b ao b.l.length c:=by
 have e:m=b.l.length:=h.dat.len
 subst e;exact h
end Go.Proofs.YtkfcfigbgmbaiaaGreat
