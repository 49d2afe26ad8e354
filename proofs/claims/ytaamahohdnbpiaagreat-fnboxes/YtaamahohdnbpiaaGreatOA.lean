import Derived.Test.YtaamahohdnbpiaaGreatNQ
import Derived.Test.YtaamahohdnbpiaaGreatNP
namespace Go.Proofs.YtaamahohdnbpiaaGreat
open Go.RowKit
set_option linter.unusedVariables false
theorem Ho.le.post {H:Ho} {ev:R8} (h:H.le 1048576) (hq:H.qu.length≤1000) (hl:ev.l.length≤1048576):(postHo H ev).le 1048576:=by
 refine⟨h.fs,h.bx,h.ff,?_,h.bd,h.fd,quP_small h.qd hl⟩
 show (quP H.c3 H.qu ev).length≤_
 unfold quP
 split
 ·rw[List.length_append,List.length_singleton]
  omega
 ·exact h.qu
theorem Ho.le.set {H:Ho} (h:H.le 1048576) (k:Nat) (b:R8) (hb:b.l.length≤1048576):Ho.le { H with bx:=H.bx.set k b } 1048576:=by
 refine⟨h.fs,by show (H.bx.set k b).length≤_;rw[List.length_set];exact h.bx,h.ff,h.qu,fun j hj=>?_,h.fd,h.qd⟩
 have hj':j<H.bx.length:=by simpa using hj
 show (H.bx.set k b)[j].l.length≤_
 by_cases e:j=k
 ·subst e;rw[List.getElem_set_self]
  exact hb
 ·rw[List.getElem_set_ne (fun x=>e x.symm)]
  exact h.bd j hj'
theorem Ho.le.free {H:Ho} (h:H.le 1048576) (k:Nat):(freeHo H k).le 1048576:=h.set k z8 (Nat.zero_le _)
theorem Ho.le.state {H:Ho} (h:H.le 1048576) (k:Nat) (v:Int):(stHo H k v).le 1048576:=by
 unfold stHo
 split
 ·rename_i hk
  exact h.set k _ (h.bd k hk)
 ·exact h
end Go.Proofs.YtaamahohdnbpiaaGreat
