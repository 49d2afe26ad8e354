import Derived.Test.YtkfcfigbgmbaiaaGreatCC
namespace Go.Proofs.YtkfcfigbgmbaiaaGreat
open Go.RowKit
set_option linter.unusedVariables false
theorem isLevel_any (w:World) (v:Int):Calls Tryz.prog 56 #[.int .i64 v] w fun o w'=>o = .returned (.bool (decide (v=0∨v=1)))∧w=w':=by
 by_cases h0:v=0
 ·subst h0;go_enter Tryz.func56,Tryz.ntmps56
  go_wp2
  go_ret;exact⟨by simp,rfl⟩
 ·have d0:(v == 0)=false:=by simpa using h0
  by_cases h1:v=1
  ·subst h1;go_enter Tryz.func56,Tryz.ntmps56
   go_wp2
   go_ret;exact⟨by simp,rfl⟩
  ·have d1:(v == 1)=false:=by simpa using h1
   go_enter Tryz.func56,Tryz.ntmps56
   go_wp2
   go_ret;exact⟨by simp[h0,h1],rfl⟩
set_option maxHeartbeats 16000000 in
set_option maxRecDepth 20000 in
theorem vm_0 (w:World) (ct lv kw ko kq kt ka rn te re:Int) (H:Ho) (s:Sl) :
  Calls Tryz.prog 142 #[.agg (coL (coI 0 ct lv kw ko kq kt ka rn te re H) s).toArray] w fun o w'=>retB o ((lv=0)∧(¬ kw=1)∧(¬ ko=1)∧(¬ kq=1∨(kw=1∧kt=1))∧(¬ kt=1)∧(¬ ka=1))∧Below w.heap.size w w':=by
 obtain⟨X,HX⟩ : ∃ X:Prop,Hid (X↔((lv=0)∧(¬ kw=1)∧(¬ ko=1)∧(¬ kq=1∨(kw=1∧kt=1))∧(¬ kt=1)∧(¬ ka=1))):=⟨_,Iff.rfl⟩
 rw[← HX.out]
 have H0:Hid (ctS w w.heap.size (coI 0 ct lv kw ko kq kt ka rn te re H) s (w.alloc (.cells (coL (coI 0 ct lv kw ko kq kt ka rn te re H) s).toArray 41))):=ctS.new w _ s
 have HIL:Hid (∀ W v,Calls Tryz.prog 56 #[.int .i64 v] W fun o w'=>o = .returned (.bool (decide (v=0∨v=1)))∧W=w'):=isLevel_any
 show Calls Tryz.prog 142 #[.agg #[.int .i64 0,.int .i64 ct,.int .i64 lv,.bool (decide (kw=1)),.bool (decide (ko=1)),.bool (decide (kq=1)),.bool (decide (kt=1)),.bool (decide (ka=1)),.int .i64 rn,.int .i64 te,.int .i64 re,.int .i64 H.c0,.int .i64 H.c1,.int .i64 H.c2,.int .i64 H.c3,.slice s.a1 s.n1 s.k1,.slice s.a2 s.n2 s.k2,.slice s.a3 s.n3 s.k3,.slice s.a4 s.n4 s.k4,.int .i64 H.lo,.int .i64 H.st]] w _
 go_enter Tryz.func142,Tryz.ntmps142
 by_cases hl1:lv=1
 ·have dhl1:(lv == 1)=true:=by simpa using hl1
  have dhlv:decide (lv=0∨lv=1)=true:=by simp[hl1]
  go_wp2_with (first
   | (go_at_call 56;refine (HIL.out _ _).mono ?_;rintro o w2 ⟨rfl,rfl⟩))
  all_goals first
   | (go_ret;refine⟨⟨_,rfl,?_⟩,(Below.refl _ _).alloc (Nat.le_refl _) _⟩;first | (simp only[Bool.false_eq_true,false_iff];intro hx;have hm:=HX.out.1 hx;omega) | (refine⟨fun _=>HX.out.2 (by omega),fun _=>rfl⟩) | (refine⟨fun h=>HX.out.2 (by simp at h <;> omega),fun hx=>?_⟩;have hm:=HX.out.1 hx;simp;omega))
 ·have dhl1:(lv == 1)=false:=by simpa using hl1
  by_cases hlv:lv=0∨lv=1
  ·have dhlv:decide (lv=0∨lv=1)=true:=by simpa using hlv
   go_wp2_with (first
    | (go_at_call 56;refine (HIL.out _ _).mono ?_;rintro o w2 ⟨rfl,rfl⟩))
   all_goals first
    | (go_ret;refine⟨⟨_,rfl,?_⟩,(Below.refl _ _).alloc (Nat.le_refl _) _⟩;first | (simp only[Bool.false_eq_true,false_iff];intro hx;have hm:=HX.out.1 hx;omega) | (refine⟨fun _=>HX.out.2 (by omega),fun _=>rfl⟩) | (refine⟨fun h=>HX.out.2 (by simp at h <;> omega),fun hx=>?_⟩;have hm:=HX.out.1 hx;simp;omega))
  ·have dhlv:decide (lv=0∨lv=1)=false:=by simpa using hlv
   go_wp2_with (first
    | (go_at_call 56;refine (HIL.out _ _).mono ?_;rintro o w2 ⟨rfl,rfl⟩))
   all_goals first
    | (go_ret;refine⟨⟨_,rfl,?_⟩,(Below.refl _ _).alloc (Nat.le_refl _) _⟩;first | (simp only[Bool.false_eq_true,false_iff];intro hx;have hm:=HX.out.1 hx;omega) | (refine⟨fun _=>HX.out.2 (by omega),fun _=>rfl⟩) | (refine⟨fun h=>HX.out.2 (by simp at h <;> omega),fun hx=>?_⟩;have hm:=HX.out.1 hx;simp;omega))
set_option maxHeartbeats 16000000 in
set_option maxRecDepth 20000 in
theorem vm_1 (w:World) (ct lv kw ko kq kt ka rn te re:Int) (H:Ho) (s:Sl) :
  Calls Tryz.prog 142 #[.agg (coL (coI 1 ct lv kw ko kq kt ka rn te re H) s).toArray] w fun o w'=>retB o ((lv=0)∧(¬ kw=1)∧(¬ ko=1)∧(¬ kq=1∨(kw=1∧kt=1))∧(¬ ka=1))∧Below w.heap.size w w':=by
 obtain⟨X,HX⟩ : ∃ X:Prop,Hid (X↔((lv=0)∧(¬ kw=1)∧(¬ ko=1)∧(¬ kq=1∨(kw=1∧kt=1))∧(¬ ka=1))):=⟨_,Iff.rfl⟩
 rw[← HX.out]
 have H0:Hid (ctS w w.heap.size (coI 1 ct lv kw ko kq kt ka rn te re H) s (w.alloc (.cells (coL (coI 1 ct lv kw ko kq kt ka rn te re H) s).toArray 41))):=ctS.new w _ s
 have HIL:Hid (∀ W v,Calls Tryz.prog 56 #[.int .i64 v] W fun o w'=>o = .returned (.bool (decide (v=0∨v=1)))∧W=w'):=isLevel_any
 show Calls Tryz.prog 142 #[.agg #[.int .i64 1,.int .i64 ct,.int .i64 lv,.bool (decide (kw=1)),.bool (decide (ko=1)),.bool (decide (kq=1)),.bool (decide (kt=1)),.bool (decide (ka=1)),.int .i64 rn,.int .i64 te,.int .i64 re,.int .i64 H.c0,.int .i64 H.c1,.int .i64 H.c2,.int .i64 H.c3,.slice s.a1 s.n1 s.k1,.slice s.a2 s.n2 s.k2,.slice s.a3 s.n3 s.k3,.slice s.a4 s.n4 s.k4,.int .i64 H.lo,.int .i64 H.st]] w _
 go_enter Tryz.func142,Tryz.ntmps142
 by_cases hl1:lv=1
 ·have dhl1:(lv == 1)=true:=by simpa using hl1
  have dhlv:decide (lv=0∨lv=1)=true:=by simp[hl1]
  go_wp2_with (first
   | (go_at_call 56;refine (HIL.out _ _).mono ?_;rintro o w2 ⟨rfl,rfl⟩))
  all_goals first
   | (go_ret;refine⟨⟨_,rfl,?_⟩,(Below.refl _ _).alloc (Nat.le_refl _) _⟩;first | (simp only[Bool.false_eq_true,false_iff];intro hx;have hm:=HX.out.1 hx;omega) | (refine⟨fun _=>HX.out.2 (by omega),fun _=>rfl⟩) | (refine⟨fun h=>HX.out.2 (by simp at h <;> omega),fun hx=>?_⟩;have hm:=HX.out.1 hx;simp;omega))
 ·have dhl1:(lv == 1)=false:=by simpa using hl1
  by_cases hlv:lv=0∨lv=1
  ·have dhlv:decide (lv=0∨lv=1)=true:=by simpa using hlv
   go_wp2_with (first
    | (go_at_call 56;refine (HIL.out _ _).mono ?_;rintro o w2 ⟨rfl,rfl⟩))
   all_goals first
    | (go_ret;refine⟨⟨_,rfl,?_⟩,(Below.refl _ _).alloc (Nat.le_refl _) _⟩;first | (simp only[Bool.false_eq_true,false_iff];intro hx;have hm:=HX.out.1 hx;omega) | (refine⟨fun _=>HX.out.2 (by omega),fun _=>rfl⟩) | (refine⟨fun h=>HX.out.2 (by simp at h <;> omega),fun hx=>?_⟩;have hm:=HX.out.1 hx;simp;omega))
  ·have dhlv:decide (lv=0∨lv=1)=false:=by simpa using hlv
   go_wp2_with (first
    | (go_at_call 56;refine (HIL.out _ _).mono ?_;rintro o w2 ⟨rfl,rfl⟩))
   all_goals first
    | (go_ret;refine⟨⟨_,rfl,?_⟩,(Below.refl _ _).alloc (Nat.le_refl _) _⟩;first | (simp only[Bool.false_eq_true,false_iff];intro hx;have hm:=HX.out.1 hx;omega) | (refine⟨fun _=>HX.out.2 (by omega),fun _=>rfl⟩) | (refine⟨fun h=>HX.out.2 (by simp at h <;> omega),fun hx=>?_⟩;have hm:=HX.out.1 hx;simp;omega))
set_option maxHeartbeats 16000000 in
set_option maxRecDepth 20000 in
theorem vm_2 (w:World) (ct lv kw ko kq kt ka rn te re:Int) (H:Ho) (s:Sl) :
  Calls Tryz.prog 142 #[.agg (coL (coI 2 ct lv kw ko kq kt ka rn te re H) s).toArray] w fun o w'=>retB o ((0≤lv∧lv≤1)∧(lv=0∨(kw=1∧0<ct))∧(¬ kw=1∨¬ ko=1)∧(¬ kq=1∨(kw=1∧kt=1))∧(¬ ka=1))∧Below w.heap.size w w':=by
 obtain⟨X,HX⟩ : ∃ X:Prop,Hid (X↔((0≤lv∧lv≤1)∧(lv=0∨(kw=1∧0<ct))∧(¬ kw=1∨¬ ko=1)∧(¬ kq=1∨(kw=1∧kt=1))∧(¬ ka=1))):=⟨_,Iff.rfl⟩
 rw[← HX.out]
 have H0:Hid (ctS w w.heap.size (coI 2 ct lv kw ko kq kt ka rn te re H) s (w.alloc (.cells (coL (coI 2 ct lv kw ko kq kt ka rn te re H) s).toArray 41))):=ctS.new w _ s
 have HIL:Hid (∀ W v,Calls Tryz.prog 56 #[.int .i64 v] W fun o w'=>o = .returned (.bool (decide (v=0∨v=1)))∧W=w'):=isLevel_any
 show Calls Tryz.prog 142 #[.agg #[.int .i64 2,.int .i64 ct,.int .i64 lv,.bool (decide (kw=1)),.bool (decide (ko=1)),.bool (decide (kq=1)),.bool (decide (kt=1)),.bool (decide (ka=1)),.int .i64 rn,.int .i64 te,.int .i64 re,.int .i64 H.c0,.int .i64 H.c1,.int .i64 H.c2,.int .i64 H.c3,.slice s.a1 s.n1 s.k1,.slice s.a2 s.n2 s.k2,.slice s.a3 s.n3 s.k3,.slice s.a4 s.n4 s.k4,.int .i64 H.lo,.int .i64 H.st]] w _
 go_enter Tryz.func142,Tryz.ntmps142
 by_cases hl1:lv=1
 ·have dhl1:(lv == 1)=true:=by simpa using hl1
  have dhlv:decide (lv=0∨lv=1)=true:=by simp[hl1]
  by_cases hc0:0<ct
  ·have dhc0:decide (0<ct)=true:=by simpa using hc0
   by_cases hq:kq=1
   ·have dq:decide (kq=1)=true:=by simpa using hq
    by_cases hw:kw=1
    ·have dhw:decide (kw=1)=true:=by simpa using hw
     by_cases ht:kt=1
     ·have dht:decide (kt=1)=true:=by simpa using ht
      go_wp2_with (first
       | (go_at_call 56;refine (HIL.out _ _).mono ?_;rintro o w2 ⟨rfl,rfl⟩))
      all_goals first
       | (go_ret;refine⟨⟨_,rfl,?_⟩,(Below.refl _ _).alloc (Nat.le_refl _) _⟩;first | (simp only[Bool.false_eq_true,false_iff];intro hx;have hm:=HX.out.1 hx;omega) | (refine⟨fun _=>HX.out.2 (by omega),fun _=>rfl⟩) | (refine⟨fun h=>HX.out.2 (by simp at h <;> omega),fun hx=>?_⟩;have hm:=HX.out.1 hx;simp;omega))
     ·have dht:decide (kt=1)=false:=by simpa using ht
      go_wp2_with (first
       | (go_at_call 56;refine (HIL.out _ _).mono ?_;rintro o w2 ⟨rfl,rfl⟩))
      all_goals first
       | (go_ret;refine⟨⟨_,rfl,?_⟩,(Below.refl _ _).alloc (Nat.le_refl _) _⟩;first | (simp only[Bool.false_eq_true,false_iff];intro hx;have hm:=HX.out.1 hx;omega) | (refine⟨fun _=>HX.out.2 (by omega),fun _=>rfl⟩) | (refine⟨fun h=>HX.out.2 (by simp at h <;> omega),fun hx=>?_⟩;have hm:=HX.out.1 hx;simp;omega))
    ·have dhw:decide (kw=1)=false:=by simpa using hw
     by_cases ht:kt=1
     ·have dht:decide (kt=1)=true:=by simpa using ht
      go_wp2_with (first
       | (go_at_call 56;refine (HIL.out _ _).mono ?_;rintro o w2 ⟨rfl,rfl⟩))
      all_goals first
       | (go_ret;refine⟨⟨_,rfl,?_⟩,(Below.refl _ _).alloc (Nat.le_refl _) _⟩;first | (simp only[Bool.false_eq_true,false_iff];intro hx;have hm:=HX.out.1 hx;omega) | (refine⟨fun _=>HX.out.2 (by omega),fun _=>rfl⟩) | (refine⟨fun h=>HX.out.2 (by simp at h <;> omega),fun hx=>?_⟩;have hm:=HX.out.1 hx;simp;omega))
     ·have dht:decide (kt=1)=false:=by simpa using ht
      go_wp2_with (first
       | (go_at_call 56;refine (HIL.out _ _).mono ?_;rintro o w2 ⟨rfl,rfl⟩))
      all_goals first
       | (go_ret;refine⟨⟨_,rfl,?_⟩,(Below.refl _ _).alloc (Nat.le_refl _) _⟩;first | (simp only[Bool.false_eq_true,false_iff];intro hx;have hm:=HX.out.1 hx;omega) | (refine⟨fun _=>HX.out.2 (by omega),fun _=>rfl⟩) | (refine⟨fun h=>HX.out.2 (by simp at h <;> omega),fun hx=>?_⟩;have hm:=HX.out.1 hx;simp;omega))
   ·have dq:decide (kq=1)=false:=by simpa using hq
    go_wp2_with (first
     | (go_at_call 56;refine (HIL.out _ _).mono ?_;rintro o w2 ⟨rfl,rfl⟩))
    all_goals first
     | (go_ret;refine⟨⟨_,rfl,?_⟩,(Below.refl _ _).alloc (Nat.le_refl _) _⟩;first | (simp only[Bool.false_eq_true,false_iff];intro hx;have hm:=HX.out.1 hx;omega) | (refine⟨fun _=>HX.out.2 (by omega),fun _=>rfl⟩) | (refine⟨fun h=>HX.out.2 (by simp at h <;> omega),fun hx=>?_⟩;have hm:=HX.out.1 hx;simp;omega))
  ·have dhc0:decide (0<ct)=false:=by simpa using hc0
   by_cases hq:kq=1
   ·have dq:decide (kq=1)=true:=by simpa using hq
    by_cases hw:kw=1
    ·have dhw:decide (kw=1)=true:=by simpa using hw
     by_cases ht:kt=1
     ·have dht:decide (kt=1)=true:=by simpa using ht
      go_wp2_with (first
       | (go_at_call 56;refine (HIL.out _ _).mono ?_;rintro o w2 ⟨rfl,rfl⟩))
      all_goals first
       | (go_ret;refine⟨⟨_,rfl,?_⟩,(Below.refl _ _).alloc (Nat.le_refl _) _⟩;first | (simp only[Bool.false_eq_true,false_iff];intro hx;have hm:=HX.out.1 hx;omega) | (refine⟨fun _=>HX.out.2 (by omega),fun _=>rfl⟩) | (refine⟨fun h=>HX.out.2 (by simp at h <;> omega),fun hx=>?_⟩;have hm:=HX.out.1 hx;simp;omega))
     ·have dht:decide (kt=1)=false:=by simpa using ht
      go_wp2_with (first
       | (go_at_call 56;refine (HIL.out _ _).mono ?_;rintro o w2 ⟨rfl,rfl⟩))
      all_goals first
       | (go_ret;refine⟨⟨_,rfl,?_⟩,(Below.refl _ _).alloc (Nat.le_refl _) _⟩;first | (simp only[Bool.false_eq_true,false_iff];intro hx;have hm:=HX.out.1 hx;omega) | (refine⟨fun _=>HX.out.2 (by omega),fun _=>rfl⟩) | (refine⟨fun h=>HX.out.2 (by simp at h <;> omega),fun hx=>?_⟩;have hm:=HX.out.1 hx;simp;omega))
    ·have dhw:decide (kw=1)=false:=by simpa using hw
     by_cases ht:kt=1
     ·have dht:decide (kt=1)=true:=by simpa using ht
      go_wp2_with (first
       | (go_at_call 56;refine (HIL.out _ _).mono ?_;rintro o w2 ⟨rfl,rfl⟩))
      all_goals first
       | (go_ret;refine⟨⟨_,rfl,?_⟩,(Below.refl _ _).alloc (Nat.le_refl _) _⟩;first | (simp only[Bool.false_eq_true,false_iff];intro hx;have hm:=HX.out.1 hx;omega) | (refine⟨fun _=>HX.out.2 (by omega),fun _=>rfl⟩) | (refine⟨fun h=>HX.out.2 (by simp at h <;> omega),fun hx=>?_⟩;have hm:=HX.out.1 hx;simp;omega))
     ·have dht:decide (kt=1)=false:=by simpa using ht
      go_wp2_with (first
       | (go_at_call 56;refine (HIL.out _ _).mono ?_;rintro o w2 ⟨rfl,rfl⟩))
      all_goals first
       | (go_ret;refine⟨⟨_,rfl,?_⟩,(Below.refl _ _).alloc (Nat.le_refl _) _⟩;first | (simp only[Bool.false_eq_true,false_iff];intro hx;have hm:=HX.out.1 hx;omega) | (refine⟨fun _=>HX.out.2 (by omega),fun _=>rfl⟩) | (refine⟨fun h=>HX.out.2 (by simp at h <;> omega),fun hx=>?_⟩;have hm:=HX.out.1 hx;simp;omega))
   ·have dq:decide (kq=1)=false:=by simpa using hq
    go_wp2_with (first
     | (go_at_call 56;refine (HIL.out _ _).mono ?_;rintro o w2 ⟨rfl,rfl⟩))
    all_goals first
     | (go_ret;refine⟨⟨_,rfl,?_⟩,(Below.refl _ _).alloc (Nat.le_refl _) _⟩;first | (simp only[Bool.false_eq_true,false_iff];intro hx;have hm:=HX.out.1 hx;omega) | (refine⟨fun _=>HX.out.2 (by omega),fun _=>rfl⟩) | (refine⟨fun h=>HX.out.2 (by simp at h <;> omega),fun hx=>?_⟩;have hm:=HX.out.1 hx;simp;omega))
 ·have dhl1:(lv == 1)=false:=by simpa using hl1
  by_cases hlv:lv=0∨lv=1
  ·have dhlv:decide (lv=0∨lv=1)=true:=by simpa using hlv
   by_cases hq:kq=1
   ·have dq:decide (kq=1)=true:=by simpa using hq
    by_cases hw:kw=1
    ·have dhw:decide (kw=1)=true:=by simpa using hw
     by_cases ht:kt=1
     ·have dht:decide (kt=1)=true:=by simpa using ht
      go_wp2_with (first
       | (go_at_call 56;refine (HIL.out _ _).mono ?_;rintro o w2 ⟨rfl,rfl⟩))
      all_goals first
       | (go_ret;refine⟨⟨_,rfl,?_⟩,(Below.refl _ _).alloc (Nat.le_refl _) _⟩;first | (simp only[Bool.false_eq_true,false_iff];intro hx;have hm:=HX.out.1 hx;omega) | (refine⟨fun _=>HX.out.2 (by omega),fun _=>rfl⟩) | (refine⟨fun h=>HX.out.2 (by simp at h <;> omega),fun hx=>?_⟩;have hm:=HX.out.1 hx;simp;omega))
     ·have dht:decide (kt=1)=false:=by simpa using ht
      go_wp2_with (first
       | (go_at_call 56;refine (HIL.out _ _).mono ?_;rintro o w2 ⟨rfl,rfl⟩))
      all_goals first
       | (go_ret;refine⟨⟨_,rfl,?_⟩,(Below.refl _ _).alloc (Nat.le_refl _) _⟩;first | (simp only[Bool.false_eq_true,false_iff];intro hx;have hm:=HX.out.1 hx;omega) | (refine⟨fun _=>HX.out.2 (by omega),fun _=>rfl⟩) | (refine⟨fun h=>HX.out.2 (by simp at h <;> omega),fun hx=>?_⟩;have hm:=HX.out.1 hx;simp;omega))
    ·have dhw:decide (kw=1)=false:=by simpa using hw
     by_cases ht:kt=1
     ·have dht:decide (kt=1)=true:=by simpa using ht
      go_wp2_with (first
       | (go_at_call 56;refine (HIL.out _ _).mono ?_;rintro o w2 ⟨rfl,rfl⟩))
      all_goals first
       | (go_ret;refine⟨⟨_,rfl,?_⟩,(Below.refl _ _).alloc (Nat.le_refl _) _⟩;first | (simp only[Bool.false_eq_true,false_iff];intro hx;have hm:=HX.out.1 hx;omega) | (refine⟨fun _=>HX.out.2 (by omega),fun _=>rfl⟩) | (refine⟨fun h=>HX.out.2 (by simp at h <;> omega),fun hx=>?_⟩;have hm:=HX.out.1 hx;simp;omega))
     ·have dht:decide (kt=1)=false:=by simpa using ht
      go_wp2_with (first
       | (go_at_call 56;refine (HIL.out _ _).mono ?_;rintro o w2 ⟨rfl,rfl⟩))
      all_goals first
       | (go_ret;refine⟨⟨_,rfl,?_⟩,(Below.refl _ _).alloc (Nat.le_refl _) _⟩;first | (simp only[Bool.false_eq_true,false_iff];intro hx;have hm:=HX.out.1 hx;omega) | (refine⟨fun _=>HX.out.2 (by omega),fun _=>rfl⟩) | (refine⟨fun h=>HX.out.2 (by simp at h <;> omega),fun hx=>?_⟩;have hm:=HX.out.1 hx;simp;omega))
   ·have dq:decide (kq=1)=false:=by simpa using hq
    go_wp2_with (first
     | (go_at_call 56;refine (HIL.out _ _).mono ?_;rintro o w2 ⟨rfl,rfl⟩))
    all_goals first
     | (go_ret;refine⟨⟨_,rfl,?_⟩,(Below.refl _ _).alloc (Nat.le_refl _) _⟩;first | (simp only[Bool.false_eq_true,false_iff];intro hx;have hm:=HX.out.1 hx;omega) | (refine⟨fun _=>HX.out.2 (by omega),fun _=>rfl⟩) | (refine⟨fun h=>HX.out.2 (by simp at h <;> omega),fun hx=>?_⟩;have hm:=HX.out.1 hx;simp;omega))
  ·have dhlv:decide (lv=0∨lv=1)=false:=by simpa using hlv
   by_cases hq:kq=1
   ·have dq:decide (kq=1)=true:=by simpa using hq
    by_cases hw:kw=1
    ·have dhw:decide (kw=1)=true:=by simpa using hw
     by_cases ht:kt=1
     ·have dht:decide (kt=1)=true:=by simpa using ht
      go_wp2_with (first
       | (go_at_call 56;refine (HIL.out _ _).mono ?_;rintro o w2 ⟨rfl,rfl⟩))
      all_goals first
       | (go_ret;refine⟨⟨_,rfl,?_⟩,(Below.refl _ _).alloc (Nat.le_refl _) _⟩;first | (simp only[Bool.false_eq_true,false_iff];intro hx;have hm:=HX.out.1 hx;omega) | (refine⟨fun _=>HX.out.2 (by omega),fun _=>rfl⟩) | (refine⟨fun h=>HX.out.2 (by simp at h <;> omega),fun hx=>?_⟩;have hm:=HX.out.1 hx;simp;omega))
     ·have dht:decide (kt=1)=false:=by simpa using ht
      go_wp2_with (first
       | (go_at_call 56;refine (HIL.out _ _).mono ?_;rintro o w2 ⟨rfl,rfl⟩))
      all_goals first
       | (go_ret;refine⟨⟨_,rfl,?_⟩,(Below.refl _ _).alloc (Nat.le_refl _) _⟩;first | (simp only[Bool.false_eq_true,false_iff];intro hx;have hm:=HX.out.1 hx;omega) | (refine⟨fun _=>HX.out.2 (by omega),fun _=>rfl⟩) | (refine⟨fun h=>HX.out.2 (by simp at h <;> omega),fun hx=>?_⟩;have hm:=HX.out.1 hx;simp;omega))
    ·have dhw:decide (kw=1)=false:=by simpa using hw
     by_cases ht:kt=1
     ·have dht:decide (kt=1)=true:=by simpa using ht
      go_wp2_with (first
       | (go_at_call 56;refine (HIL.out _ _).mono ?_;rintro o w2 ⟨rfl,rfl⟩))
      all_goals first
       | (go_ret;refine⟨⟨_,rfl,?_⟩,(Below.refl _ _).alloc (Nat.le_refl _) _⟩;first | (simp only[Bool.false_eq_true,false_iff];intro hx;have hm:=HX.out.1 hx;omega) | (refine⟨fun _=>HX.out.2 (by omega),fun _=>rfl⟩) | (refine⟨fun h=>HX.out.2 (by simp at h <;> omega),fun hx=>?_⟩;have hm:=HX.out.1 hx;simp;omega))
     ·have dht:decide (kt=1)=false:=by simpa using ht
      go_wp2_with (first
       | (go_at_call 56;refine (HIL.out _ _).mono ?_;rintro o w2 ⟨rfl,rfl⟩))
      all_goals first
       | (go_ret;refine⟨⟨_,rfl,?_⟩,(Below.refl _ _).alloc (Nat.le_refl _) _⟩;first | (simp only[Bool.false_eq_true,false_iff];intro hx;have hm:=HX.out.1 hx;omega) | (refine⟨fun _=>HX.out.2 (by omega),fun _=>rfl⟩) | (refine⟨fun h=>HX.out.2 (by simp at h <;> omega),fun hx=>?_⟩;have hm:=HX.out.1 hx;simp;omega))
   ·have dq:decide (kq=1)=false:=by simpa using hq
    go_wp2_with (first
     | (go_at_call 56;refine (HIL.out _ _).mono ?_;rintro o w2 ⟨rfl,rfl⟩))
    all_goals first
     | (go_ret;refine⟨⟨_,rfl,?_⟩,(Below.refl _ _).alloc (Nat.le_refl _) _⟩;first | (simp only[Bool.false_eq_true,false_iff];intro hx;have hm:=HX.out.1 hx;omega) | (refine⟨fun _=>HX.out.2 (by omega),fun _=>rfl⟩) | (refine⟨fun h=>HX.out.2 (by simp at h <;> omega),fun hx=>?_⟩;have hm:=HX.out.1 hx;simp;omega))
set_option maxHeartbeats 16000000 in
set_option maxRecDepth 20000 in
theorem vm_3 (w:World) (ct lv kw ko kq kt ka rn te re:Int) (H:Ho) (s:Sl) :
  Calls Tryz.prog 142 #[.agg (coL (coI 3 ct lv kw ko kq kt ka rn te re H) s).toArray] w fun o w'=>retB o ((lv=0)∧(¬ kw=1)∧(¬ kq=1∨(kw=1∧kt=1))∧(¬ ka=1))∧Below w.heap.size w w':=by
 obtain⟨X,HX⟩ : ∃ X:Prop,Hid (X↔((lv=0)∧(¬ kw=1)∧(¬ kq=1∨(kw=1∧kt=1))∧(¬ ka=1))):=⟨_,Iff.rfl⟩
 rw[← HX.out]
 have H0:Hid (ctS w w.heap.size (coI 3 ct lv kw ko kq kt ka rn te re H) s (w.alloc (.cells (coL (coI 3 ct lv kw ko kq kt ka rn te re H) s).toArray 41))):=ctS.new w _ s
 have HIL:Hid (∀ W v,Calls Tryz.prog 56 #[.int .i64 v] W fun o w'=>o = .returned (.bool (decide (v=0∨v=1)))∧W=w'):=isLevel_any
 show Calls Tryz.prog 142 #[.agg #[.int .i64 3,.int .i64 ct,.int .i64 lv,.bool (decide (kw=1)),.bool (decide (ko=1)),.bool (decide (kq=1)),.bool (decide (kt=1)),.bool (decide (ka=1)),.int .i64 rn,.int .i64 te,.int .i64 re,.int .i64 H.c0,.int .i64 H.c1,.int .i64 H.c2,.int .i64 H.c3,.slice s.a1 s.n1 s.k1,.slice s.a2 s.n2 s.k2,.slice s.a3 s.n3 s.k3,.slice s.a4 s.n4 s.k4,.int .i64 H.lo,.int .i64 H.st]] w _
 go_enter Tryz.func142,Tryz.ntmps142
 by_cases hl1:lv=1
 ·have dhl1:(lv == 1)=true:=by simpa using hl1
  have dhlv:decide (lv=0∨lv=1)=true:=by simp[hl1]
  go_wp2_with (first
   | (go_at_call 56;refine (HIL.out _ _).mono ?_;rintro o w2 ⟨rfl,rfl⟩))
  all_goals first
   | (go_ret;refine⟨⟨_,rfl,?_⟩,(Below.refl _ _).alloc (Nat.le_refl _) _⟩;first | (simp only[Bool.false_eq_true,false_iff];intro hx;have hm:=HX.out.1 hx;omega) | (refine⟨fun _=>HX.out.2 (by omega),fun _=>rfl⟩) | (refine⟨fun h=>HX.out.2 (by simp at h <;> omega),fun hx=>?_⟩;have hm:=HX.out.1 hx;simp;omega))
 ·have dhl1:(lv == 1)=false:=by simpa using hl1
  by_cases hlv:lv=0∨lv=1
  ·have dhlv:decide (lv=0∨lv=1)=true:=by simpa using hlv
   go_wp2_with (first
    | (go_at_call 56;refine (HIL.out _ _).mono ?_;rintro o w2 ⟨rfl,rfl⟩))
   all_goals first
    | (go_ret;refine⟨⟨_,rfl,?_⟩,(Below.refl _ _).alloc (Nat.le_refl _) _⟩;first | (simp only[Bool.false_eq_true,false_iff];intro hx;have hm:=HX.out.1 hx;omega) | (refine⟨fun _=>HX.out.2 (by omega),fun _=>rfl⟩) | (refine⟨fun h=>HX.out.2 (by simp at h <;> omega),fun hx=>?_⟩;have hm:=HX.out.1 hx;simp;omega))
  ·have dhlv:decide (lv=0∨lv=1)=false:=by simpa using hlv
   go_wp2_with (first
    | (go_at_call 56;refine (HIL.out _ _).mono ?_;rintro o w2 ⟨rfl,rfl⟩))
   all_goals first
    | (go_ret;refine⟨⟨_,rfl,?_⟩,(Below.refl _ _).alloc (Nat.le_refl _) _⟩;first | (simp only[Bool.false_eq_true,false_iff];intro hx;have hm:=HX.out.1 hx;omega) | (refine⟨fun _=>HX.out.2 (by omega),fun _=>rfl⟩) | (refine⟨fun h=>HX.out.2 (by simp at h <;> omega),fun hx=>?_⟩;have hm:=HX.out.1 hx;simp;omega))
set_option maxHeartbeats 16000000 in
set_option maxRecDepth 20000 in
theorem vm_4 (w:World) (ct lv kw ko kq kt ka rn te re:Int) (H:Ho) (s:Sl) :
  Calls Tryz.prog 142 #[.agg (coL (coI 4 ct lv kw ko kq kt ka rn te re H) s).toArray] w fun o w'=>retB o ((lv=0)∧(¬ kw=1)∧(¬ kq=1∨(kw=1∧kt=1))∧(¬ ka=1))∧Below w.heap.size w w':=by
 obtain⟨X,HX⟩ : ∃ X:Prop,Hid (X↔((lv=0)∧(¬ kw=1)∧(¬ kq=1∨(kw=1∧kt=1))∧(¬ ka=1))):=⟨_,Iff.rfl⟩
 rw[← HX.out]
 have H0:Hid (ctS w w.heap.size (coI 4 ct lv kw ko kq kt ka rn te re H) s (w.alloc (.cells (coL (coI 4 ct lv kw ko kq kt ka rn te re H) s).toArray 41))):=ctS.new w _ s
 have HIL:Hid (∀ W v,Calls Tryz.prog 56 #[.int .i64 v] W fun o w'=>o = .returned (.bool (decide (v=0∨v=1)))∧W=w'):=isLevel_any
 show Calls Tryz.prog 142 #[.agg #[.int .i64 4,.int .i64 ct,.int .i64 lv,.bool (decide (kw=1)),.bool (decide (ko=1)),.bool (decide (kq=1)),.bool (decide (kt=1)),.bool (decide (ka=1)),.int .i64 rn,.int .i64 te,.int .i64 re,.int .i64 H.c0,.int .i64 H.c1,.int .i64 H.c2,.int .i64 H.c3,.slice s.a1 s.n1 s.k1,.slice s.a2 s.n2 s.k2,.slice s.a3 s.n3 s.k3,.slice s.a4 s.n4 s.k4,.int .i64 H.lo,.int .i64 H.st]] w _
 go_enter Tryz.func142,Tryz.ntmps142
 by_cases hl1:lv=1
 ·have dhl1:(lv == 1)=true:=by simpa using hl1
  have dhlv:decide (lv=0∨lv=1)=true:=by simp[hl1]
  go_wp2_with (first
   | (go_at_call 56;refine (HIL.out _ _).mono ?_;rintro o w2 ⟨rfl,rfl⟩))
  all_goals first
   | (go_ret;refine⟨⟨_,rfl,?_⟩,(Below.refl _ _).alloc (Nat.le_refl _) _⟩;first | (simp only[Bool.false_eq_true,false_iff];intro hx;have hm:=HX.out.1 hx;omega) | (refine⟨fun _=>HX.out.2 (by omega),fun _=>rfl⟩) | (refine⟨fun h=>HX.out.2 (by simp at h <;> omega),fun hx=>?_⟩;have hm:=HX.out.1 hx;simp;omega))
 ·have dhl1:(lv == 1)=false:=by simpa using hl1
  by_cases hlv:lv=0∨lv=1
  ·have dhlv:decide (lv=0∨lv=1)=true:=by simpa using hlv
   go_wp2_with (first
    | (go_at_call 56;refine (HIL.out _ _).mono ?_;rintro o w2 ⟨rfl,rfl⟩))
   all_goals first
    | (go_ret;refine⟨⟨_,rfl,?_⟩,(Below.refl _ _).alloc (Nat.le_refl _) _⟩;first | (simp only[Bool.false_eq_true,false_iff];intro hx;have hm:=HX.out.1 hx;omega) | (refine⟨fun _=>HX.out.2 (by omega),fun _=>rfl⟩) | (refine⟨fun h=>HX.out.2 (by simp at h <;> omega),fun hx=>?_⟩;have hm:=HX.out.1 hx;simp;omega))
  ·have dhlv:decide (lv=0∨lv=1)=false:=by simpa using hlv
   go_wp2_with (first
    | (go_at_call 56;refine (HIL.out _ _).mono ?_;rintro o w2 ⟨rfl,rfl⟩))
   all_goals first
    | (go_ret;refine⟨⟨_,rfl,?_⟩,(Below.refl _ _).alloc (Nat.le_refl _) _⟩;first | (simp only[Bool.false_eq_true,false_iff];intro hx;have hm:=HX.out.1 hx;omega) | (refine⟨fun _=>HX.out.2 (by omega),fun _=>rfl⟩) | (refine⟨fun h=>HX.out.2 (by simp at h <;> omega),fun hx=>?_⟩;have hm:=HX.out.1 hx;simp;omega))
set_option maxHeartbeats 16000000 in
set_option maxRecDepth 20000 in
theorem vm_5 (w:World) (ct lv kw ko kq kt ka rn te re:Int) (H:Ho) (s:Sl) :
  Calls Tryz.prog 142 #[.agg (coL (coI 5 ct lv kw ko kq kt ka rn te re H) s).toArray] w fun o w'=>retB o ((lv=0)∧(¬ kw=1)∧(¬ ko=1)∧(¬ kq=1∨(kw=1∧kt=1))∧(¬ ka=1))∧Below w.heap.size w w':=by
 obtain⟨X,HX⟩ : ∃ X:Prop,Hid (X↔((lv=0)∧(¬ kw=1)∧(¬ ko=1)∧(¬ kq=1∨(kw=1∧kt=1))∧(¬ ka=1))):=⟨_,Iff.rfl⟩
 rw[← HX.out]
 have H0:Hid (ctS w w.heap.size (coI 5 ct lv kw ko kq kt ka rn te re H) s (w.alloc (.cells (coL (coI 5 ct lv kw ko kq kt ka rn te re H) s).toArray 41))):=ctS.new w _ s
 have HIL:Hid (∀ W v,Calls Tryz.prog 56 #[.int .i64 v] W fun o w'=>o = .returned (.bool (decide (v=0∨v=1)))∧W=w'):=isLevel_any
 show Calls Tryz.prog 142 #[.agg #[.int .i64 5,.int .i64 ct,.int .i64 lv,.bool (decide (kw=1)),.bool (decide (ko=1)),.bool (decide (kq=1)),.bool (decide (kt=1)),.bool (decide (ka=1)),.int .i64 rn,.int .i64 te,.int .i64 re,.int .i64 H.c0,.int .i64 H.c1,.int .i64 H.c2,.int .i64 H.c3,.slice s.a1 s.n1 s.k1,.slice s.a2 s.n2 s.k2,.slice s.a3 s.n3 s.k3,.slice s.a4 s.n4 s.k4,.int .i64 H.lo,.int .i64 H.st]] w _
 go_enter Tryz.func142,Tryz.ntmps142
 by_cases hl1:lv=1
 ·have dhl1:(lv == 1)=true:=by simpa using hl1
  have dhlv:decide (lv=0∨lv=1)=true:=by simp[hl1]
  go_wp2_with (first
   | (go_at_call 56;refine (HIL.out _ _).mono ?_;rintro o w2 ⟨rfl,rfl⟩))
  all_goals first
   | (go_ret;refine⟨⟨_,rfl,?_⟩,(Below.refl _ _).alloc (Nat.le_refl _) _⟩;first | (simp only[Bool.false_eq_true,false_iff];intro hx;have hm:=HX.out.1 hx;omega) | (refine⟨fun _=>HX.out.2 (by omega),fun _=>rfl⟩) | (refine⟨fun h=>HX.out.2 (by simp at h <;> omega),fun hx=>?_⟩;have hm:=HX.out.1 hx;simp;omega))
 ·have dhl1:(lv == 1)=false:=by simpa using hl1
  by_cases hlv:lv=0∨lv=1
  ·have dhlv:decide (lv=0∨lv=1)=true:=by simpa using hlv
   go_wp2_with (first
    | (go_at_call 56;refine (HIL.out _ _).mono ?_;rintro o w2 ⟨rfl,rfl⟩))
   all_goals first
    | (go_ret;refine⟨⟨_,rfl,?_⟩,(Below.refl _ _).alloc (Nat.le_refl _) _⟩;first | (simp only[Bool.false_eq_true,false_iff];intro hx;have hm:=HX.out.1 hx;omega) | (refine⟨fun _=>HX.out.2 (by omega),fun _=>rfl⟩) | (refine⟨fun h=>HX.out.2 (by simp at h <;> omega),fun hx=>?_⟩;have hm:=HX.out.1 hx;simp;omega))
  ·have dhlv:decide (lv=0∨lv=1)=false:=by simpa using hlv
   go_wp2_with (first
    | (go_at_call 56;refine (HIL.out _ _).mono ?_;rintro o w2 ⟨rfl,rfl⟩))
   all_goals first
    | (go_ret;refine⟨⟨_,rfl,?_⟩,(Below.refl _ _).alloc (Nat.le_refl _) _⟩;first | (simp only[Bool.false_eq_true,false_iff];intro hx;have hm:=HX.out.1 hx;omega) | (refine⟨fun _=>HX.out.2 (by omega),fun _=>rfl⟩) | (refine⟨fun h=>HX.out.2 (by simp at h <;> omega),fun hx=>?_⟩;have hm:=HX.out.1 hx;simp;omega))
set_option maxHeartbeats 16000000 in
set_option maxRecDepth 20000 in
theorem vm_6 (w:World) (ct lv kw ko kq kt ka rn te re:Int) (H:Ho) (s:Sl) :
  Calls Tryz.prog 142 #[.agg (coL (coI 6 ct lv kw ko kq kt ka rn te re H) s).toArray] w fun o w'=>retB o ((lv=0)∧(¬ kw=1)∧(¬ ko=1)∧(¬ kq=1∨(kw=1∧kt=1))∧(kt=1)∧(¬ ka=1))∧Below w.heap.size w w':=by
 obtain⟨X,HX⟩ : ∃ X:Prop,Hid (X↔((lv=0)∧(¬ kw=1)∧(¬ ko=1)∧(¬ kq=1∨(kw=1∧kt=1))∧(kt=1)∧(¬ ka=1))):=⟨_,Iff.rfl⟩
 rw[← HX.out]
 have H0:Hid (ctS w w.heap.size (coI 6 ct lv kw ko kq kt ka rn te re H) s (w.alloc (.cells (coL (coI 6 ct lv kw ko kq kt ka rn te re H) s).toArray 41))):=ctS.new w _ s
 have HIL:Hid (∀ W v,Calls Tryz.prog 56 #[.int .i64 v] W fun o w'=>o = .returned (.bool (decide (v=0∨v=1)))∧W=w'):=isLevel_any
 show Calls Tryz.prog 142 #[.agg #[.int .i64 6,.int .i64 ct,.int .i64 lv,.bool (decide (kw=1)),.bool (decide (ko=1)),.bool (decide (kq=1)),.bool (decide (kt=1)),.bool (decide (ka=1)),.int .i64 rn,.int .i64 te,.int .i64 re,.int .i64 H.c0,.int .i64 H.c1,.int .i64 H.c2,.int .i64 H.c3,.slice s.a1 s.n1 s.k1,.slice s.a2 s.n2 s.k2,.slice s.a3 s.n3 s.k3,.slice s.a4 s.n4 s.k4,.int .i64 H.lo,.int .i64 H.st]] w _
 go_enter Tryz.func142,Tryz.ntmps142
 by_cases hl1:lv=1
 ·have dhl1:(lv == 1)=true:=by simpa using hl1
  have dhlv:decide (lv=0∨lv=1)=true:=by simp[hl1]
  go_wp2_with (first
   | (go_at_call 56;refine (HIL.out _ _).mono ?_;rintro o w2 ⟨rfl,rfl⟩))
  all_goals first
   | (go_ret;refine⟨⟨_,rfl,?_⟩,(Below.refl _ _).alloc (Nat.le_refl _) _⟩;first | (simp only[Bool.false_eq_true,false_iff];intro hx;have hm:=HX.out.1 hx;omega) | (refine⟨fun _=>HX.out.2 (by omega),fun _=>rfl⟩) | (refine⟨fun h=>HX.out.2 (by simp at h <;> omega),fun hx=>?_⟩;have hm:=HX.out.1 hx;simp;omega))
 ·have dhl1:(lv == 1)=false:=by simpa using hl1
  by_cases hlv:lv=0∨lv=1
  ·have dhlv:decide (lv=0∨lv=1)=true:=by simpa using hlv
   go_wp2_with (first
    | (go_at_call 56;refine (HIL.out _ _).mono ?_;rintro o w2 ⟨rfl,rfl⟩))
   all_goals first
    | (go_ret;refine⟨⟨_,rfl,?_⟩,(Below.refl _ _).alloc (Nat.le_refl _) _⟩;first | (simp only[Bool.false_eq_true,false_iff];intro hx;have hm:=HX.out.1 hx;omega) | (refine⟨fun _=>HX.out.2 (by omega),fun _=>rfl⟩) | (refine⟨fun h=>HX.out.2 (by simp at h <;> omega),fun hx=>?_⟩;have hm:=HX.out.1 hx;simp;omega))
  ·have dhlv:decide (lv=0∨lv=1)=false:=by simpa using hlv
   go_wp2_with (first
    | (go_at_call 56;refine (HIL.out _ _).mono ?_;rintro o w2 ⟨rfl,rfl⟩))
   all_goals first
    | (go_ret;refine⟨⟨_,rfl,?_⟩,(Below.refl _ _).alloc (Nat.le_refl _) _⟩;first | (simp only[Bool.false_eq_true,false_iff];intro hx;have hm:=HX.out.1 hx;omega) | (refine⟨fun _=>HX.out.2 (by omega),fun _=>rfl⟩) | (refine⟨fun h=>HX.out.2 (by simp at h <;> omega),fun hx=>?_⟩;have hm:=HX.out.1 hx;simp;omega))
set_option maxHeartbeats 16000000 in
set_option maxRecDepth 20000 in
theorem vm_7 (w:World) (ct lv kw ko kq kt ka rn te re:Int) (H:Ho) (s:Sl) :
  Calls Tryz.prog 142 #[.agg (coL (coI 7 ct lv kw ko kq kt ka rn te re H) s).toArray] w fun o w'=>retB o ((lv=0)∧(¬ kw=1)∧(¬ ko=1)∧(¬ kq=1∨(kw=1∧kt=1))∧(¬ kt=1))∧Below w.heap.size w w':=by
 obtain⟨X,HX⟩ : ∃ X:Prop,Hid (X↔((lv=0)∧(¬ kw=1)∧(¬ ko=1)∧(¬ kq=1∨(kw=1∧kt=1))∧(¬ kt=1))):=⟨_,Iff.rfl⟩
 rw[← HX.out]
 have H0:Hid (ctS w w.heap.size (coI 7 ct lv kw ko kq kt ka rn te re H) s (w.alloc (.cells (coL (coI 7 ct lv kw ko kq kt ka rn te re H) s).toArray 41))):=ctS.new w _ s
 have HIL:Hid (∀ W v,Calls Tryz.prog 56 #[.int .i64 v] W fun o w'=>o = .returned (.bool (decide (v=0∨v=1)))∧W=w'):=isLevel_any
 show Calls Tryz.prog 142 #[.agg #[.int .i64 7,.int .i64 ct,.int .i64 lv,.bool (decide (kw=1)),.bool (decide (ko=1)),.bool (decide (kq=1)),.bool (decide (kt=1)),.bool (decide (ka=1)),.int .i64 rn,.int .i64 te,.int .i64 re,.int .i64 H.c0,.int .i64 H.c1,.int .i64 H.c2,.int .i64 H.c3,.slice s.a1 s.n1 s.k1,.slice s.a2 s.n2 s.k2,.slice s.a3 s.n3 s.k3,.slice s.a4 s.n4 s.k4,.int .i64 H.lo,.int .i64 H.st]] w _
 go_enter Tryz.func142,Tryz.ntmps142
 by_cases hl1:lv=1
 ·have dhl1:(lv == 1)=true:=by simpa using hl1
  have dhlv:decide (lv=0∨lv=1)=true:=by simp[hl1]
  go_wp2_with (first
   | (go_at_call 56;refine (HIL.out _ _).mono ?_;rintro o w2 ⟨rfl,rfl⟩))
  all_goals first
   | (go_ret;refine⟨⟨_,rfl,?_⟩,(Below.refl _ _).alloc (Nat.le_refl _) _⟩;first | (simp only[Bool.false_eq_true,false_iff];intro hx;have hm:=HX.out.1 hx;omega) | (refine⟨fun _=>HX.out.2 (by omega),fun _=>rfl⟩) | (refine⟨fun h=>HX.out.2 (by simp at h <;> omega),fun hx=>?_⟩;have hm:=HX.out.1 hx;simp;omega))
 ·have dhl1:(lv == 1)=false:=by simpa using hl1
  by_cases hlv:lv=0∨lv=1
  ·have dhlv:decide (lv=0∨lv=1)=true:=by simpa using hlv
   go_wp2_with (first
    | (go_at_call 56;refine (HIL.out _ _).mono ?_;rintro o w2 ⟨rfl,rfl⟩))
   all_goals first
    | (go_ret;refine⟨⟨_,rfl,?_⟩,(Below.refl _ _).alloc (Nat.le_refl _) _⟩;first | (simp only[Bool.false_eq_true,false_iff];intro hx;have hm:=HX.out.1 hx;omega) | (refine⟨fun _=>HX.out.2 (by omega),fun _=>rfl⟩) | (refine⟨fun h=>HX.out.2 (by simp at h <;> omega),fun hx=>?_⟩;have hm:=HX.out.1 hx;simp;omega))
  ·have dhlv:decide (lv=0∨lv=1)=false:=by simpa using hlv
   go_wp2_with (first
    | (go_at_call 56;refine (HIL.out _ _).mono ?_;rintro o w2 ⟨rfl,rfl⟩))
   all_goals first
    | (go_ret;refine⟨⟨_,rfl,?_⟩,(Below.refl _ _).alloc (Nat.le_refl _) _⟩;first | (simp only[Bool.false_eq_true,false_iff];intro hx;have hm:=HX.out.1 hx;omega) | (refine⟨fun _=>HX.out.2 (by omega),fun _=>rfl⟩) | (refine⟨fun h=>HX.out.2 (by simp at h <;> omega),fun hx=>?_⟩;have hm:=HX.out.1 hx;simp;omega))
end Go.Proofs.YtkfcfigbgmbaiaaGreat
