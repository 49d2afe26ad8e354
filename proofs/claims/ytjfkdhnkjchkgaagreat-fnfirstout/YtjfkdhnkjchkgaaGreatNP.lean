import Derived.Test.YtjfkdhnkjchkgaaGreatNO
namespace Go.Proofs.YtjfkdhnkjchkgaaGreat
open Go.RowKit
set_option linter.unusedVariables false

theorem okHo.n4 {H : Ho} (h : okHo H) : H.qu.length ≤ 1000 := by
  have h1 := of_decide_eq_true h.cf
  have h2 := h.nq
  omega
end Go.Proofs.YtjfkdhnkjchkgaaGreat
