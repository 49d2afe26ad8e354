import Derived.Test.YtkfcfigbgmbaiaaGreatG16
namespace Go.Proofs.YtkfcfigbgmbaiaaGreat
open Go.RowKit
set_option linter.unusedVariables false
set_option maxHeartbeats 16000000
set_option maxRecDepth 20000 in
theorem heldBoxS_gen (w:World) (g n cap c:Nat) (hs:Nat→Hd) (h:sh8 w g n hs) (hm:∀ j,j<n→mk8 w g (j*8) (cn8 c hs j) (hs j)) (hcp:n≤cap) (hn:n≤1048576) (hc:c≤20000000000000) :
  Calls Tryz.prog 99 #[.slice (some ⟨g,0,none⟩) n cap,.int .i64 (c:Int)] w fun o w'=>o = .returned (.int .i64 (cn8 c hs n:Int))∧w'=w:=by
 have HSH:Hid (sh8 w g n hs):=h
 have HM:Hid (∀ j,j<n→mk8 w g (j*8) (cn8 c hs j) (hs j)):=hm
 have HLE:Hid (∀ j,j≤n→cn8 c hs j≤c+j*1048583):=cn8_le c n hs (fun j hj=>(h.dat j hj).2.1)
 clear h hm;go_enter Tryz.func99,Tryz.ntmps99
 go_wp2
 go_loopw [1,5] (fun kk i wr=>∃ k:Nat,k≤n∧i = .int .i64 (k:Int)∧kk = .int .i64 (cn8 c hs k:Int)∧wr=w) (fun _ i _=>n-(intOf i).toNat)
 case atStart=>exact⟨0,Nat.zero_le _,rfl,rfl,rfl⟩
 case round=>
  obtain⟨k,hk,rfl,rfl,rfl⟩:=hrel
  by_cases hlt:k<n
  ·have hx:=HM.out k hlt
   obtain⟨zd,hh⟩:=HSH.out.dat k hlt
   have HCN:Hid (cn8 c hs (k+1)=cn8 c hs k+7+(hs k).2.1):=rfl
   have hC1:cn8 c hs k≤30000000000000:=by have:=HLE.out k hk;omega
   generalize hC:cn8 c hs k=C at *;have HC:Hid (cn8 c hs k=C):=hC
   clear hC;obtain⟨t,ht⟩ : ∃ t,hs k=t:=⟨_,rfl⟩
   rw[ht] at zd hh HCN hx
   clear ht;obtain⟨a,m,cc⟩:=t
   simp only at zd
   have hm:m≤1048576:=hh.1
   have x0:wr.cell? ⟨g,k*8,none⟩=some (.int .i64 (C:Int)):=hx.row 0 (by omega)
   have x1:wr.cell? ⟨g,k*8+1,none⟩=some (.int .i64 ((C:Int)+1)):=hx.row 1 (by omega)
   have x2:wr.cell? ⟨g,k*8+2,none⟩=some (.int .i64 ((C:Int)+1+1)):=hx.row 2 (by omega)
   have x3:wr.cell? ⟨g,k*8+3,none⟩=some (.bool ((C:Int) % 3 == 0)):=hx.row 3 (by omega)
   have x4:wr.cell? ⟨g,k*8+4,none⟩=some (.int .u32 (((C:Int)+1+1+1+1) % 4294967296)):=hx.row 4 (by omega)
   have x5:wr.cell? ⟨g,k*8+5,none⟩=some (.bool (((C:Int)+5) % 3 == 0)):=hx.row 5 (by omega)
   have x6:wr.cell? ⟨g,k*8+6,none⟩=some (.int .i64 ((C:Int)+1+1+1+1+1+1)):=hx.row 6 (by omega)
   have hdat:=hx.dat
   have e3:((C:Int)+1+1+1).tmod 3=(((C+3) % 3:Nat):Int):=by rw[Int.tmod_eq_emod_of_nonneg (by omega)];omega
   have e5:((C:Int)+1+1+1+1+1).tmod 3=(((C+5) % 3:Nat):Int):=by rw[Int.tmod_eq_emod_of_nonneg (by omega)];omega
   have HB:Hid (Calls Tryz.prog 150 #[.slice a m cc,.int .i64 ((C:Int)+1+1+1+1+1+1+1)] wr fun o w'=>o = .returned (.int .i64 ((C:Int)+7+(m:Int)))∧w'=wr):=by
    have:=heldHd wr g a m cc (C+7) hh hdat (by omega)
    have e:(((C+7:Nat)):Int)=(C:Int)+1+1+1+1+1+1+1:=by omega
    have e2:(((C+7+m:Nat)):Int)=(C:Int)+7+(m:Int):=by omega
    rw[e,e2] at this
    exact this
   clear hx hh hdat;have hnz:¬ (C:Int)+7+(m:Int)<0:=by omega
   go_wp2_with (first | (go_at_call 150;refine HB.out.mono ?_;rintro o w5 ⟨rfl,rfl⟩))
   refine⟨⟨k+1,by omega,by go_num,by rw[HCN.out];congr 1,trivial⟩,by simp[intOf];omega⟩
  ·have hkn:k=n:=by omega
   subst hkn;go_wp2
   go_ret;exact⟨rfl,rfl⟩
set_option maxRecDepth 20000 in
theorem heldEventS_gen (w:World) (g n cap c:Nat) (hs:Nat→Hd) (h:sh8 w g n hs) (hm:∀ j,j<n→mk8 w g (j*8) (cn8 c hs j) (hs j)) (hcp:n≤cap) (hn:n≤1048576) (hc:c≤20000000000000) :
  Calls Tryz.prog 101 #[.slice (some ⟨g,0,none⟩) n cap,.int .i64 (c:Int)] w fun o w'=>o = .returned (.int .i64 (cn8 c hs n:Int))∧w'=w:=by
 have HSH:Hid (sh8 w g n hs):=h
 have HM:Hid (∀ j,j<n→mk8 w g (j*8) (cn8 c hs j) (hs j)):=hm
 have HLE:Hid (∀ j,j≤n→cn8 c hs j≤c+j*1048583):=cn8_le c n hs (fun j hj=>(h.dat j hj).2.1)
 clear h hm;go_enter Tryz.func101,Tryz.ntmps101
 go_wp2
 go_loopw [1,5] (fun kk i wr=>∃ k:Nat,k≤n∧i = .int .i64 (k:Int)∧kk = .int .i64 (cn8 c hs k:Int)∧wr=w) (fun _ i _=>n-(intOf i).toNat)
 case atStart=>exact⟨0,Nat.zero_le _,rfl,rfl,rfl⟩
 case round=>
  obtain⟨k,hk,rfl,rfl,rfl⟩:=hrel
  by_cases hlt:k<n
  ·have hx:=HM.out k hlt
   obtain⟨zd,hh⟩:=HSH.out.dat k hlt
   have HCN:Hid (cn8 c hs (k+1)=cn8 c hs k+7+(hs k).2.1):=rfl
   have hC1:cn8 c hs k≤30000000000000:=by have:=HLE.out k hk;omega
   generalize hC:cn8 c hs k=C at *;have HC:Hid (cn8 c hs k=C):=hC
   clear hC;obtain⟨t,ht⟩ : ∃ t,hs k=t:=⟨_,rfl⟩
   rw[ht] at zd hh HCN hx
   clear ht;obtain⟨a,m,cc⟩:=t
   simp only at zd
   have hm:m≤1048576:=hh.1
   have x0:wr.cell? ⟨g,k*8,none⟩=some (.int .i64 (C:Int)):=hx.row 0 (by omega)
   have x1:wr.cell? ⟨g,k*8+1,none⟩=some (.int .i64 ((C:Int)+1)):=hx.row 1 (by omega)
   have x2:wr.cell? ⟨g,k*8+2,none⟩=some (.int .i64 ((C:Int)+1+1)):=hx.row 2 (by omega)
   have x3:wr.cell? ⟨g,k*8+3,none⟩=some (.bool ((C:Int) % 3 == 0)):=hx.row 3 (by omega)
   have x4:wr.cell? ⟨g,k*8+4,none⟩=some (.int .u32 (((C:Int)+1+1+1+1) % 4294967296)):=hx.row 4 (by omega)
   have x5:wr.cell? ⟨g,k*8+5,none⟩=some (.bool (((C:Int)+5) % 3 == 0)):=hx.row 5 (by omega)
   have x6:wr.cell? ⟨g,k*8+6,none⟩=some (.int .i64 ((C:Int)+1+1+1+1+1+1)):=hx.row 6 (by omega)
   have hdat:=hx.dat
   have e3:((C:Int)+1+1+1).tmod 3=(((C+3) % 3:Nat):Int):=by rw[Int.tmod_eq_emod_of_nonneg (by omega)];omega
   have e5:((C:Int)+1+1+1+1+1).tmod 3=(((C+5) % 3:Nat):Int):=by rw[Int.tmod_eq_emod_of_nonneg (by omega)];omega
   have HB:Hid (Calls Tryz.prog 150 #[.slice a m cc,.int .i64 ((C:Int)+1+1+1+1+1+1+1)] wr fun o w'=>o = .returned (.int .i64 ((C:Int)+7+(m:Int)))∧w'=wr):=by
    have:=heldHd wr g a m cc (C+7) hh hdat (by omega)
    have e:(((C+7:Nat)):Int)=(C:Int)+1+1+1+1+1+1+1:=by omega
    have e2:(((C+7+m:Nat)):Int)=(C:Int)+7+(m:Int):=by omega
    rw[e,e2] at this
    exact this
   clear hx hh hdat;have hnz:¬ (C:Int)+7+(m:Int)<0:=by omega
   go_wp2_with (first | (go_at_call 150;refine HB.out.mono ?_;rintro o w5 ⟨rfl,rfl⟩))
   refine⟨⟨k+1,by omega,by go_num,by rw[HCN.out];congr 1,trivial⟩,by simp[intOf];omega⟩
  ·have hkn:k=n:=by omega
   subst hkn;go_wp2
   go_ret;exact⟨rfl,rfl⟩
set_option maxRecDepth 20000 in
theorem heldFrameS_gen (w:World) (g n cap c:Nat) (hs:Nat→Hd) (h:sh5 w g n hs) (hm:∀ j,j<n→mk5 w g (j*5) (cn5 c hs j) (hs j)) (hcp:n≤cap) (hn:n≤1048576) (hc:c≤20000000000000) :
  Calls Tryz.prog 100 #[.slice (some ⟨g,0,none⟩) n cap,.int .i64 (c:Int)] w fun o w'=>o = .returned (.int .i64 (cn5 c hs n:Int))∧w'=w:=by
 have HSH:Hid (sh5 w g n hs):=h
 have HM:Hid (∀ j,j<n→mk5 w g (j*5) (cn5 c hs j) (hs j)):=hm
 have HLE:Hid (∀ j,j≤n→cn5 c hs j≤c+j*1048583):=cn5_le c n hs (fun j hj=>(h.dat j hj).2.1)
 clear h hm;go_enter Tryz.func100,Tryz.ntmps100
 go_wp2
 go_loopw [1,5] (fun kk i wr=>∃ k:Nat,k≤n∧i = .int .i64 (k:Int)∧kk = .int .i64 (cn5 c hs k:Int)∧wr=w) (fun _ i _=>n-(intOf i).toNat)
 case atStart=>exact⟨0,Nat.zero_le _,rfl,rfl,rfl⟩
 case round=>
  obtain⟨k,hk,rfl,rfl,rfl⟩:=hrel
  by_cases hlt:k<n
  ·have hx:=HM.out k hlt
   obtain⟨zd,hh⟩:=HSH.out.dat k hlt
   have HCN:Hid (cn5 c hs (k+1)=cn5 c hs k+4+(hs k).2.1):=rfl
   have hC1:cn5 c hs k≤30000000000000:=by have:=HLE.out k hk;omega
   generalize hC:cn5 c hs k=C at *;have HC:Hid (cn5 c hs k=C):=hC
   clear hC;obtain⟨t,ht⟩ : ∃ t,hs k=t:=⟨_,rfl⟩
   rw[ht] at zd hh HCN hx
   clear ht;obtain⟨a,m,cc⟩:=t
   simp only at zd
   have hm:m≤1048576:=hh.1
   have x0:wr.cell? ⟨g,k*5,none⟩=some (.bool ((C:Int) % 3 == 0)):=hx.row 0 (by omega)
   have x1:wr.cell? ⟨g,k*5+1,none⟩=some (.int .u32 (((C:Int)+1) % 4294967296)):=hx.row 1 (by omega)
   have x2:wr.cell? ⟨g,k*5+2,none⟩=some (.bool (((C:Int)+2) % 3 == 0)):=hx.row 2 (by omega)
   have x3:wr.cell? ⟨g,k*5+3,none⟩=some (.int .i64 ((C:Int)+1+1+1)):=hx.row 3 (by omega)
   have hdat:=hx.dat
   have e0:((C:Int)).tmod 3=(((C+0) % 3:Nat):Int):=by rw[Int.tmod_eq_emod_of_nonneg (by omega)];omega
   have e2:((C:Int)+1+1).tmod 3=(((C+2) % 3:Nat):Int):=by rw[Int.tmod_eq_emod_of_nonneg (by omega)];omega
   have HB:Hid (Calls Tryz.prog 150 #[.slice a m cc,.int .i64 ((C:Int)+1+1+1+1)] wr fun o w'=>o = .returned (.int .i64 ((C:Int)+4+(m:Int)))∧w'=wr):=by
    have:=heldHd wr g a m cc (C+4) hh hdat (by omega)
    have e:(((C+4:Nat)):Int)=(C:Int)+1+1+1+1:=by omega
    have e2:(((C+4+m:Nat)):Int)=(C:Int)+4+(m:Int):=by omega
    rw[e,e2] at this
    exact this
   clear hx hh hdat;have hnz:¬ (C:Int)+4+(m:Int)<0:=by omega
   go_wp2_with (first | (go_at_call 150;refine HB.out.mono ?_;rintro o w5 ⟨rfl,rfl⟩))
   refine⟨⟨k+1,by omega,by go_num,by rw[HCN.out];congr 1,trivial⟩,by simp[intOf];omega⟩
  ·have hkn:k=n:=by omega
   subst hkn;go_wp2
   go_ret;exact⟨rfl,rfl⟩
end Go.Proofs.YtkfcfigbgmbaiaaGreat
