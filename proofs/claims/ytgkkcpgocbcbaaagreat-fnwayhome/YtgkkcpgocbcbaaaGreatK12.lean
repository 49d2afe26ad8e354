import Derived.Test.YtgkkcpgocbcbaaaGreatK07
import Derived.StillTailTactics
namespace Go.Proofs.YtgkkcpgocbcbaaaGreat
open Go.RowKit
set_option linter.unusedVariables false
set_option maxHeartbeats 8000000 in
set_option maxRecDepth 20000 in
theorem meth_drive (w : World) (a : Addr) : (method 397 63 (.pointer (some a)) "loop.example/s01647/impl.drive").run Tryz.prog w = .ok (198, .pointer (some a)) w := by kernel_rfl
set_option maxHeartbeats 8000000 in
set_option maxRecDepth 20000 in
theorem meth_core0 (w : World) (R : Nat) : (method 397 63 (.pointer (some ⟨R, 0, none⟩)) "loop.example/s01647/impl.core").run Tryz.prog w = (do let v ← loadVar 60 ⟨R, 0, none⟩; pure ((197 : FuncId), v) : Sem (FuncId × Value)).run Tryz.prog w := by kernel_rfl
theorem meth_core (w : World) (M R : Nat) (y0 : w.cell? ⟨R, 0, none⟩ = some (.pointer (some ⟨M, 0, none⟩))) : (method 397 63 (.pointer (some ⟨R, 0, none⟩)) "loop.example/s01647/impl.core").run Tryz.prog w = .ok (197, .pointer (some ⟨M, 0, none⟩)) w := by
 rw[meth_core0]
 have:(loadVar 60 ⟨R,0,none⟩).run Tryz.prog w = .ok (.pointer (some ⟨M,0,none⟩)) w:=by go_simp
 rw[Sem.run_bind,this]
 rfl
theorem wpStill_load_midX {ops:Array Oper} {rest:List Oper} {op:Oper} {a:Act} {w:World} {Q:Act→Prop} (hw:Region.wanted op (yielded ops a.tmps)=true) (ty:TypeId) (x:Operand) (ho:op.op = .load ty x)
  (b o:Nat) (hx:a.eval x = .pointer (some ⟨b,o,none⟩)) (cs:List Value) (d:TypeDesc) (hc:w.rangeAt b o cs)
  (hu:Tryz.prog.underlying ty=some d) (hd:d.isRow=true) (hi:(Tryz.prog.info? ty).map (·.size)=some cs.length)
  (h:wpStill Tryz.prog ops w Q rest (a.put op.dst (.agg cs.toArray))):wpStill Tryz.prog ops w Q (op :: rest) a:=
 wpStill_step fun K hK=>by
  simp only[hw,if_true]
  unfold Oper.still execOp
  simp only[ho,hx,Instr.loadAt,Instr.sureAddr,Sem.run_bind,Sem.run_pure,Result.andThen_ok,run_loadVar_mid w b o ty cs d hc hu hd hi]
  exact⟨rfl,hK _ h⟩
theorem wpStill_build {ops:Array Oper} {rest:List Oper} {op:Oper} {a:Act} {w:World} {Q:Act→Prop} (hw:Region.wanted op (yielded ops a.tmps)=true) (ty:TypeId) (ps:Array (Nat × Operand)) (ho:op.op = .build ty ps)
  (pv:Array (Nat × Value)) (hp:(ps.map fun p=>(p.1,a.eval p.2))=pv) (v:Value) (hr:(Instr.build ty pv).run Tryz.prog w = .ok v w)
  (h:wpStill Tryz.prog ops w Q rest (a.put op.dst v)):wpStill Tryz.prog ops w Q (op :: rest) a:=
 wpStill_step fun K hK=>by
  simp only[hw,if_true]
  unfold Oper.still execOp
  simp only[ho,hp,Sem.run_bind,hr,Result.andThen_ok,Sem.run_pure]
  exact⟨rfl,hK _ h⟩
theorem ta63 (w:World) (a:Addr):(Instr.typeAssert (.iface 63 (.pointer (some a))) 114 63 true).run Tryz.prog w = .ok (.tuple #[.pointer (some a),.bool true]) w:=by kernel_rfl
def Z35:List Value:=[.int .i64 0,.int .i64 0,.int .i64 0,.bool false,.bool false,.bool false,.bool false,.bool false,.int .i64 0,.int .i64 0,.int .i64 0,.int .i64 0,.int .i64 0,.int .i64 0,.int .i64 0,.slice none 0 0,.slice none 0 0,.slice none 0 0,.slice none 0 0,.int .i64 0,.int .i64 0,.int .i64 0,.int .i64 0,.int .i64 0,.int .i64 0,.int .i64 0,.int .i64 0,.bool false,.int .u32 0,.bool false,.int .i64 0,.slice none 0 0,.int .i64 0,.slice none 0 0,.int .i64 0]
def acL (C:Co) (s:Sl) (hd:ByteArray):List Value:=(coL C s++[.string hd])++Z35
def rfL (C:Co) (s:Sl) (hd:ByteArray):List Value:=coL C s++[.string hd]
def Z57:List Value:=[.int .i64 0,.int .i64 0,.int .i64 0,.bool false,.bool false,.bool false,.bool false,.bool false,.int .i64 0,.int .i64 0,.int .i64 0,.int .i64 0,.int .i64 0,.int .i64 0,.int .i64 0,.slice none 0 0,.slice none 0 0,.slice none 0 0,.slice none 0 0,.int .i64 0,.int .i64 0,.string ⟨#[]⟩,.int .i64 0,.int .i64 0,.int .i64 0,.bool false,.bool false,.bool false,.bool false,.bool false,.int .i64 0,.int .i64 0,.int .i64 0,.int .i64 0,.int .i64 0,.int .i64 0,.int .i64 0,.slice none 0 0,.slice none 0 0,.slice none 0 0,.slice none 0 0,.int .i64 0,.int .i64 0,.int .i64 0,.int .i64 0,.int .i64 0,.int .i64 0,.int .i64 0,.int .i64 0,.bool false,.int .u32 0,.bool false,.int .i64 0,.slice none 0 0,.int .i64 0,.slice none 0 0,.int .i64 0]
set_option maxHeartbeats 8000000 in
set_option maxRecDepth 20000 in
theorem core_any (W:World) (M:Nat):Calls Tryz.prog 197 #[.pointer (some ⟨M,0,none⟩)] W fun o w'=>o = .returned (.pointer (some ⟨M,0,none⟩))∧w'=W:=by
 go_enter Tryz.func197,Tryz.ntmps197
 go_wp2_with fail
 go_ret
 exact⟨rfl,rfl⟩
theorem build43 (w:World) (C:Co) (s:Sl) (hd:ByteArray):(Instr.build 43 #[(0,.agg (coL C s).toArray),(1,.string hd)]).run Tryz.prog w = .ok (.agg (rfL C s hd).toArray) w:=by kernel_rfl
theorem build74 (w:World) (C:Co) (s:Sl) (hd:ByteArray):(Instr.build 74 #[(0,.agg (rfL C s hd).toArray)]).run Tryz.prog w = .ok (.agg (acL C s hd).toArray) w:=by kernel_rfl
theorem sz74:(Tryz.prog.info? 74).map (·.size)=some 57:=by kernel_rfl
theorem sz43:(Tryz.prog.info? 43).map (·.size)=some 22:=by kernel_rfl
theorem acL_len (C:Co) (s:Sl) (hd:ByteArray):(acL C s hd).length=57:=rfl
theorem rfL_len (C:Co) (s:Sl) (hd:ByteArray):(rfL C s hd).length=22:=rfl
theorem acL_one (C:Co) (s:Sl) (hd:ByteArray):(acL C s hd).toArray.all (·.oneCell')=true:=all_oneCell_toArray (by simp[acL,coL,Z35,Value.oneCell'])
theorem rfL_one (C:Co) (s:Sl) (hd:ByteArray):(rfL C s hd).toArray.all (·.oneCell')=true:=all_oneCell_toArray (by simp[rfL,coL,Value.oneCell'])
set_option maxHeartbeats 8000000 in
set_option maxRecDepth 20000 in
theorem account_any (W:World) (M R:Nat) (hd:ByteArray) (C:Co) (hr:blk W R [.pointer (some ⟨M,0,none⟩),.string hd] 111) (ht:∀ X,Below W.heap.size W X→Calls Tryz.prog 39 #[.pointer (some ⟨M,0,none⟩)] X fun o w'=>∃ s',o = .returned (.agg (coL C s').toArray)∧Below X.heap.size X w') :
  Calls Tryz.prog 43 #[.iface 63 (.pointer (some ⟨R,0,none⟩))] W fun o w'=>∃ s',o = .returned (.agg (acL C s' hd).toArray)∧Below W.heap.size W w':=by
 have HR:Hid (blk W R [.pointer (some ⟨M,0,none⟩),.string hd] 111):=hr
 have HT:Hid (∀ X,Below W.heap.size W X→Calls Tryz.prog 39 #[.pointer (some ⟨M,0,none⟩)] X fun o w'=>∃ s',o = .returned (.agg (coL C s').toArray)∧Below X.heap.size X w'):=ht
 have HA:Hid (Below W.heap.size W (W.alloc (.cells Z57.toArray 74))∧blk (W.alloc (.cells Z57.toArray 74)) W.heap.size Z57 74):=⟨(Below.refl _ _).alloc (Nat.le_refl _) _,blk.new W _ 74⟩
 obtain⟨V0,hV0⟩ : ∃ V0,V0=W.alloc (.cells Z57.toArray 74):=⟨_,rfl⟩
 rw[← hV0] at HA
 have y0:=(hr.below HA.out.1).cell 0 (.pointer (some ⟨M,0,none⟩)) rfl
 have hm:=meth_core V0 M R y0
 clear hr ht y0
 go_enter Tryz.func43,Tryz.ntmps43
 go_upto_region 1 with fail
 change Code.wp _ _ _ _ (W.alloc (.cells Z57.toArray 74))
 rw[← hV0]
 clear hV0
 go_wp2_with (first | (go_at_call 197;refine (core_any _ _).mono ?_;rintro o w1 ⟨rfl,rfl⟩))
 refine (HT.out _ HA.out.1).mono ?_
 rintro o w1 ⟨s1,rfl,hb1⟩
 have H1:=(show Hid _ from And.intro (HA.out.1.trans (hb1.mono HA.out.1.size)) (HA.out.2.below hb1))
 clear hb1 HA HT hm
 have H2:Hid (Below W.heap.size W (w1.alloc (.cells [.int .i64 0,.int .i64 0,.int .i64 0,.bool false,.bool false,.bool false,.bool false,.bool false,.int .i64 0,.int .i64 0,.int .i64 0,.int .i64 0,.int .i64 0,.int .i64 0,.int .i64 0,.slice none 0 0,.slice none 0 0,.slice none 0 0,.slice none 0 0,.int .i64 0,.int .i64 0].toArray 39))∧blk (w1.alloc (.cells [.int .i64 0,.int .i64 0,.int .i64 0,.bool false,.bool false,.bool false,.bool false,.bool false,.int .i64 0,.int .i64 0,.int .i64 0,.int .i64 0,.int .i64 0,.int .i64 0,.int .i64 0,.slice none 0 0,.slice none 0 0,.slice none 0 0,.slice none 0 0,.int .i64 0,.int .i64 0].toArray 39)) W.heap.size Z57 74∧blk (w1.alloc (.cells [.int .i64 0,.int .i64 0,.int .i64 0,.bool false,.bool false,.bool false,.bool false,.bool false,.int .i64 0,.int .i64 0,.int .i64 0,.int .i64 0,.int .i64 0,.int .i64 0,.int .i64 0,.slice none 0 0,.slice none 0 0,.slice none 0 0,.slice none 0 0,.int .i64 0,.int .i64 0].toArray 39)) w1.heap.size Z21 39∧W.heap.size<w1.heap.size):=⟨H1.out.1.alloc H1.out.1.size _,H1.out.2.alloc _,blk.new w1 _ 39,H1.out.2.lt⟩
 clear H1
 go_upto_region 2 with (first
  | (refine wpList_store_mid (P:=Tryz.prog) rfl 39 _ _ rfl w1.heap.size 0 (coL C s1).toArray rfl rfl (H2.out.2.2.1.there 0 _ (by rw[List.size_toArray,coL_len];decide)) (szC41A C s1) (coL_one C s1) ?_;generalize hW2:World.setCells _ w1.heap.size 0 _=w2;have HW2:Hid (_=w2):=hW2;clear hW2))
 have H3:Hid (Below W.heap.size W w2∧blk w2 W.heap.size Z57 74∧blk w2 w1.heap.size (coL C s1) 39∧W.heap.size<w1.heap.size∧blk w2 R [.pointer (some ⟨M,0,none⟩),.string hd] 111):=by
  have e:=HW2.out
  have hb:Below W.heap.size W w2:=by rw[← e];exact setCells_below (by have:=H2.out.2.2.2;omega) 0 _ H2.out.1
  refine⟨hb,?_,?_,H2.out.2.2.2,HR.out.below hb⟩
  ·rw[← e];exact H2.out.2.1.other (by have:=H2.out.2.2.2;omega) _ _
  ·rw[← e]
   have:=blk.put [] Z21 [] (coL C s1) (w:=w1.alloc (.cells [.int .i64 0,.int .i64 0,.int .i64 0,.bool false,.bool false,.bool false,.bool false,.bool false,.int .i64 0,.int .i64 0,.int .i64 0,.int .i64 0,.int .i64 0,.int .i64 0,.int .i64 0,.slice none 0 0,.slice none 0 0,.slice none 0 0,.slice none 0 0,.int .i64 0,.int .i64 0].toArray 39)) (b:=w1.heap.size) (T:=39) (by simpa using H2.out.2.2.1) (by rw[coL_len];rfl)
   simpa using this
 clear H2 HW2 HR
 have y1:=H3.out.2.2.2.2.cell 1 (.string hd) rfl
 have hta:=ta63 w2 ⟨R,0,none⟩
 go_wp2_with fail
 refine wp_region_still_tail 7 (by kernel_rfl) (by kernel_rfl) ?_
 change wpStill Tryz.prog _ (World.drew w2) (fun a'=>wpList Tryz.prog _ _ _ a' (World.drew w2)) _ _
 have H4:Hid (Below W.heap.size W (World.drew w2)∧blk (World.drew w2) W.heap.size Z57 74∧blk (World.drew w2) w1.heap.size (coL C s1) 39):=⟨H3.out.1.drew,H3.out.2.1,H3.out.2.2.1⟩
 have y1:(World.drew w2).cell? ⟨R,1,none⟩=some (.string hd):=y1
 clear hta H3
 generalize World.drew w2=w3 at *
 simp only[List.take_succ_cons,List.take_zero,List.drop_succ_cons,List.drop_zero]
 refine wpStill_load_midX (by rfl) 39 _ rfl w1.heap.size 0 rfl (coL C s1) _ H4.out.2.2.load Tryz.underlying39 rfl (szC41L C s1) ?_
 simp only[Act.put]
 still_step
 still_step
 still_step
 still_step
 refine wpStill_build (by rfl) 43 _ rfl _ (by simp[go_sem]) _ (build43 w3 C s1 hd) ?_
 simp only[Act.put]
 refine wpStill_build (by rfl) 74 _ rfl _ (by simp[go_sem]) _ (build74 w3 C s1 hd) ?_
 simp only[Act.put]
 refine wpStill_nil ?_
 go_wp2_with (first
  | (refine wpList_store_mid (P:=Tryz.prog) rfl 74 _ _ rfl W.heap.size 0 (acL C s1 hd).toArray rfl rfl (H4.out.2.1.there 0 _ (by rw[List.size_toArray,acL_len];decide)) sz74 (acL_one C s1 hd) ?_;generalize hW8:World.setCells _ W.heap.size 0 _=w8;have HW8:Hid (_=w8):=hW8;clear hW8))
 have e8:=HW8.out
 have hF:blk w8 W.heap.size (acL C s1 hd) 74:=by
  rw[← e8]
  have:=blk.put [] Z57 [] (acL C s1 hd) (w:=w3) (b:=W.heap.size) (T:=74) (by simpa using H4.out.2.1) (by rw[acL_len];rfl)
  simpa using this
 have hL:=run_loadVar_mid (P:=Tryz.prog) w8 W.heap.size 0 74 _ _ hF.load Tryz.underlying74 rfl sz74
 refine bodyPost_ret (v:=.agg (acL C s1 hd).toArray) (results_cell Tryz.results43 _ w8 W.heap.size _ rfl hL) rfl ?_
 refine⟨⟨s1,rfl⟩,?_⟩
 rw[← e8]
 exact setCells_below (by omega) 0 _ H4.out.1
end Go.Proofs.YtgkkcpgocbcbaaaGreat
