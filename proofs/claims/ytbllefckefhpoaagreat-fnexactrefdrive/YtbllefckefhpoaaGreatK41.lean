import Derived.Test.YtbllefckefhpoaaGreatK39
import Derived.Test.YtbllefckefhpoaaGreatK29
import Derived.Test.YtbllefckefhpoaaGreatK14
namespace Go.Proofs.YtbllefckefhpoaaGreat
open Go.RowKit
set_option linter.unusedVariables false
set_option maxHeartbeats 16000000
open Go.Value renaming int→I,slice→sL,bool→bO,pointer→pT,agg→aG
open Go.IntKind renaming i64→J
open Go.Ending renaming returned→rT
open Go.Proofs.Tryz renaming prog→Tp
theorem hidXX {P:Prop} (h:P):Hid P:=h
set_option maxRecDepth 20000 in
theorem sending_any (W:World) (P gb n kb:Nat) (bx:List R8) (k:Nat) (hk:k<bx.length) (y5:W.cell? ⟨P,5,none⟩=some (sL (some ⟨gb,0,none⟩) n kb)) (h:isR8s W (some ⟨gb,0,none⟩) n kb bx) (hn:n≤8) (hz:∀ z,bsy bx z→z=(k:Int)) :
  Calls Tp 76 #[pT (some ⟨P,0,none⟩)] W fun o w'=>∃ ao m c,o = rT (frV bx[k].e bx[k].i bx[k].r bx[k].d ao m c)∧isBytes w' ao m c bx[k].l∧Below W.heap.size W w':=by
 have hln:=h.len
 have hcp:=h.cap
 obtain⟨ao,m,c,q⟩ : ∃ ao m c,at8 W gb (k*8) bx[k] ao m c:=by
  obtain⟨g',off,e,hc⟩:=h.cells (by intro e;rw[e] at hk;cases hk)
  cases e
  have:=hc k hk
  rw[Nat.zero_add] at this
  exact this
 have HOW:Hid (∀ V,Below W.heap.size W V→Calls Tp 135 #[pT (some ⟨P,0,none⟩)] V fun o w'=>o = rT (I J (k:Int))∧Below V.heap.size V w'):=fun V hV=>(onWire_any V P _ n kb bx ((hV.cell (by exact World.block_lt_of_cell? W _ y5)).trans y5) (h.below hV) (by omega)).mono fun o w' ⟨z,h1,h2,h3⟩=>⟨by rw[h1,hz z h2],h3⟩
 have hkn:k<n:=by omega
 have HA:Hid (Below W.heap.size W (W.alloc (.cells [bO false,I .u32 0,bO false,I J 0,sL none 0 0].toArray 67))):=(Below.refl _ _).alloc (Nat.le_refl _) _
 have HQ:Hid (∀ V,Below W.heap.size W V→V.cell? ⟨P,5,none⟩=some (sL (some ⟨gb,0,none⟩) n kb)∧at8 V gb (k*8) bx[k] ao m c):=fun V hV=>⟨(hV.cell (by exact World.block_lt_of_cell? W _ y5)).trans y5,q.below hV⟩
 have HR:Hid (blk (W.alloc (.cells [bO false,I .u32 0,bO false,I J 0,sL none 0 0].toArray 67)) W.heap.size [bO false,I .u32 0,bO false,I J 0,sL none 0 0] 67):=blk.new W _ 67
 clear h hz hln q y5;generalize bx[k]=b at *;go_enter Tryz.func76,Tryz.ntmps76
 have y5:=(HQ.out _ HA.out).1
 go_upto_region 1 with fail
 go_region_with (go_at_call 135;refine (HOW.out _ HA.out.drew).mono ?_;rintro o w1 ⟨rfl,hb1⟩;have HB1:Hid (Below W.heap.size W w1):=HA.out.drew.trans (hb1.mono HA.out.drew.size);have HR1:Hid (blk w1 W.heap.size [bO false,I .u32 0,bO false,I J 0,sL none 0 0] 67):=(HR.out.below (Below.refl _ _).drew).below hb1;have y5':=(HQ.out w1 HB1.out).1;have c3:=(HQ.out w1 HB1.out).2.c3;have c4:=(HQ.out w1 HB1.out).2.c4;have c5:=(HQ.out w1 HB1.out).2.c5;have c6:=(HQ.out w1 HB1.out).2.c6;have c7:=(HQ.out w1 HB1.out).2.cs;have d0:=HR1.out.cell 0 _ rfl;have d1:=HR1.out.cell 1 _ rfl;have d2:=HR1.out.cell 2 _ rfl;have d3:=HR1.out.cell 3 _ rfl;have d4:=HR1.out.cell 4 _ rfl;have z0:=HR1.out.free 0;have z1:=HR1.out.free 1;have z2:=HR1.out.free 2;have z3:=HR1.out.free 3;have z4:=HR1.out.free 4;clear hb1)
 all_goals
  have HF:=hidXX (((((HB1.out.setCell (p:=⟨W.heap.size,0,none⟩) (Nat.le_refl _) (bO b.e)).setCell (p:=⟨W.heap.size,1,none⟩) (Nat.le_refl _) (I .u32 (b.i:Int))).setCell (p:=⟨W.heap.size,2,none⟩) (Nat.le_refl _) (bO b.r)).setCell (p:=⟨W.heap.size,3,none⟩) (Nat.le_refl _) (I J b.d)).setCell (p:=⟨W.heap.size,4,none⟩) (Nat.le_refl _) (sL ao m c))
  have HK:Hid (blk _ W.heap.size [bO b.e,I .u32 (b.i:Int),bO b.r,I J b.d,sL ao m c] 67):=((((HR1.out.set 0 (bO b.e)).set 1 (I .u32 (b.i:Int))).set 2 (bO b.r)).set 3 (I J b.d)).set 4 (sL ao m c)
  go_wp2_with fail;refine bodyPost_ret (v:=frV b.e b.i b.r b.d ao m c) (results_cell Tryz.results76 _ _ W.heap.size _ rfl (run_loadVar_mid (P:=Tp) _ W.heap.size 0 67 _ _ HK.out.load Tryz.underlying67 rfl sz93)) rfl ?_
  exact⟨ao,m,c,rfl,(HQ.out _ HF.out).2.dat,HF.out⟩
end Go.Proofs.YtbllefckefhpoaaGreat
