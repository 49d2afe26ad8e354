import Derived.Test.YtaamahohdnbpiaaGreatNO
namespace Go.Proofs.YtaamahohdnbpiaaGreat
open Go.RowKit
set_option linter.unusedVariables false

theorem okHo.n4 {H : Ho} (h : okHo H) : H.qu.length ≤ 1000 := by
  have h1 := of_decide_eq_true h.cf
  have h2 := h.nq
  omega
end Go.Proofs.YtaamahohdnbpiaaGreat
