import Derived.Test.YtgkkcpgocbcbaaaGreatK12
import Derived.Test.YtgkkcpgocbcbaaaGreatK21
import Derived.Test.YtgkkcpgocbcbaaaGreatK11
namespace Go.Proofs.YtgkkcpgocbcbaaaGreat
open Go.RowKit
set_option linter.unusedVariables false
theorem hidXX {P:Prop} (h:P):Hid P:=h
set_option maxHeartbeats 8000000 in
set_option maxRecDepth 20000 in
theorem sending_any (W:World) (P gb n kb:Nat) (bx:List R8) (k:Nat) (hk:k<bx.length) (y5:W.cell? ⟨P,5,none⟩=some (.slice (some ⟨gb,0,none⟩) n kb)) (h:isR8s W (some ⟨gb,0,none⟩) n kb bx) (hn:n≤8) (hz:∀ z,bsy bx z→z=(k:Int)) :
  Calls Tryz.prog 62 #[.pointer (some ⟨P,0,none⟩)] W fun o w'=>∃ ao m c,o = .returned (frV bx[k].e bx[k].i bx[k].r bx[k].d ao m c)∧isBytes w' ao m c bx[k].l∧Below W.heap.size W w':=by
 have hln:=h.len
 have hcp:=h.cap
 obtain⟨ao,m,c,q⟩ : ∃ ao m c,at8 W gb (k*8) bx[k] ao m c:=by
  obtain⟨g',off,e,hc⟩:=h.cells (by intro e;rw[e] at hk;cases hk)
  cases e
  have:=hc k hk
  rw[Nat.zero_add] at this
  exact this
 have HOW:Hid (∀ V,Below W.heap.size W V→Calls Tryz.prog 94 #[.pointer (some ⟨P,0,none⟩)] V fun o w'=>o = .returned (.int .i64 (k:Int))∧Below V.heap.size V w'):=fun V hV=>(onWire_any V P _ n kb bx ((hV.cell (by exact World.block_lt_of_cell? W _ y5)).trans y5) (h.below hV) (by omega)).mono fun o w' ⟨z,h1,h2,h3⟩=>⟨by rw[h1,hz z h2],h3⟩
 have hkn:k<n:=by omega
 have HA:Hid (Below W.heap.size W (W.alloc (.cells [.bool false,.int .u32 0,.bool false,.int .i64 0,.slice none 0 0].toArray 37))):=(Below.refl _ _).alloc (Nat.le_refl _) _
 have HQ:Hid (∀ V,Below W.heap.size W V→V.cell? ⟨P,5,none⟩=some (.slice (some ⟨gb,0,none⟩) n kb)∧at8 V gb (k*8) bx[k] ao m c):=fun V hV=>⟨(hV.cell (by exact World.block_lt_of_cell? W _ y5)).trans y5,q.below hV⟩
 have HR:Hid (blk (W.alloc (.cells [.bool false,.int .u32 0,.bool false,.int .i64 0,.slice none 0 0].toArray 37)) W.heap.size [.bool false,.int .u32 0,.bool false,.int .i64 0,.slice none 0 0] 37):=blk.new W _ 37
 clear h hz hln q y5
 generalize bx[k]=b at *
 go_enter Tryz.func62,Tryz.ntmps62
 have y5:=(HQ.out _ HA.out).1
 go_upto_region 1 with fail
 go_region_with (go_at_call 94;refine (HOW.out _ HA.out.drew).mono ?_;rintro o w1 ⟨rfl,hb1⟩;have HB1:Hid (Below W.heap.size W w1):=HA.out.drew.trans (hb1.mono HA.out.drew.size);have HR1:Hid (blk w1 W.heap.size [.bool false,.int .u32 0,.bool false,.int .i64 0,.slice none 0 0] 37):=(HR.out.below (Below.refl _ _).drew).below hb1;have y5':=(HQ.out w1 HB1.out).1;have c3:=(HQ.out w1 HB1.out).2.c3;have c4:=(HQ.out w1 HB1.out).2.c4;have c5:=(HQ.out w1 HB1.out).2.c5;have c6:=(HQ.out w1 HB1.out).2.c6;have c7:=(HQ.out w1 HB1.out).2.cs;have d0:=HR1.out.cell 0 _ rfl;have d1:=HR1.out.cell 1 _ rfl;have d2:=HR1.out.cell 2 _ rfl;have d3:=HR1.out.cell 3 _ rfl;have d4:=HR1.out.cell 4 _ rfl;have z0:=HR1.out.free 0;have z1:=HR1.out.free 1;have z2:=HR1.out.free 2;have z3:=HR1.out.free 3;have z4:=HR1.out.free 4;clear hb1)
 all_goals
  have HF:=hidXX (((((HB1.out.setCell (p:=⟨W.heap.size,0,none⟩) (Nat.le_refl _) (.bool b.e)).setCell (p:=⟨W.heap.size,1,none⟩) (Nat.le_refl _) (.int .u32 (b.i:Int))).setCell (p:=⟨W.heap.size,2,none⟩) (Nat.le_refl _) (.bool b.r)).setCell (p:=⟨W.heap.size,3,none⟩) (Nat.le_refl _) (.int .i64 b.d)).setCell (p:=⟨W.heap.size,4,none⟩) (Nat.le_refl _) (.slice ao m c))
  have HK:Hid (blk _ W.heap.size [.bool b.e,.int .u32 (b.i:Int),.bool b.r,.int .i64 b.d,.slice ao m c] 37):=((((HR1.out.set 0 (.bool b.e)).set 1 (.int .u32 (b.i:Int))).set 2 (.bool b.r)).set 3 (.int .i64 b.d)).set 4 (.slice ao m c)
  go_wp2_with fail
  refine bodyPost_ret (v:=frV b.e b.i b.r b.d ao m c) (results_cell Tryz.results62 _ _ W.heap.size _ rfl (run_loadVar_mid (P:=Tryz.prog) _ W.heap.size 0 37 _ _ HK.out.load Tryz.underlying37 rfl sz93)) rfl ?_
  exact⟨ao,m,c,rfl,(HQ.out _ HF.out).2.dat,HF.out⟩
set_option maxHeartbeats 8000000 in
set_option maxRecDepth 20000 in
theorem level_send (W:World) (M R P:Nat) (e:Bool) (i:Nat) (r:Bool) (d:Int) (l:List Nat) (E:ByteArray) (hE:encZ e i r d l.length l=E) (hix:∀ w,(Instr.index 9 (.string E) (.int .i64 0)).run Tryz.prog w = .ok (.int .u8 48) w)
  (y0:W.cell? ⟨R,0,none⟩=some (.pointer (some ⟨M,0,none⟩))) (y1:W.cell? ⟨R,1,none⟩=some (.string ⟨#[]⟩)) (x0:W.cell? ⟨M,0,none⟩=some (.pointer (some ⟨P,0,none⟩))) (y3:W.cell? ⟨M,3,none⟩=some (.int .i64 1)) (y9:W.cell? ⟨M,9,none⟩=some (.bool true))
  (hs:∀ V,Below W.heap.size W V→Calls Tryz.prog 62 #[.pointer (some ⟨P,0,none⟩)] V fun o w'=>∃ ao m c,o = .returned (frV e i r d ao m c)∧isBytes w' ao m c l∧Below V.heap.size V w') :
  Calls Tryz.prog 200 #[.pointer (some ⟨R,0,none⟩)] W fun o w'=>o = .returned (.int .i64 0)∧Below W.heap.size W w':=by
 have HS:Hid (Calls Tryz.prog 59 #[.pointer (some ⟨M,0,none⟩)] W fun o w'=>o = .returned (.bool true)∧w'=W):=sends_any W M true true 1 rfl y3 y9
 have HC:Hid (∀ V,Below W.heap.size W V→V.cell? ⟨R,1,none⟩=some (.string ⟨#[]⟩)):=fun V hV=>(hV.cell (by exact World.block_lt_of_cell? W _ y1)).trans y1
 have HSD:=hidXX hs
 have HEN:Hid (∀ V ao m c,isBytes V ao m c l→Calls Tryz.prog 61 #[frV e i r d ao m c] V fun o w'=>o = .returned (.string E)∧Below V.heap.size V w'):=fun V ao m c hV=>by
  have:=encode_any V e i r d ao m c l hV
  rw[hV.len,hE] at this
  rw[hV.len]
  exact this
 clear hs y3 y9 hE
 go_enter Tryz.func200,Tryz.ntmps200
 go_wp2_with fail
 refine HS.out.mono ?_
 rintro o w1 ⟨rfl,rfl⟩
 clear HS
 go_upto_region 2 with fail
 go_region_with (first
  | (go_at_call 62;refine (HSD.out _ (Below.refl _ _).drew).mono ?_;rintro o w2 ⟨ao,m,c,rfl,hq,hb2⟩;have H2:=hidXX (And.intro hq ((Below.refl w1.heap.size w1).drew.trans hb2));have y1':=HC.out w2 H2.out.2;clear hq hb2)
  | (go_at_call 61;refine (HEN.out _ _ _ _ H2.out.1).mono ?_;rintro o w3 ⟨rfl,hb3⟩;have H3:=hidXX (H2.out.2.trans (hb3.mono H2.out.2.size));have y1'':=HC.out w3 H3.out;clear hb3))
 all_goals
  go_wp2_with fail
  go_ret
  exact⟨rfl,H3.out⟩
end Go.Proofs.YtgkkcpgocbcbaaaGreat
