import Derived.Test.YtaamahohdnbpiaaGreatLK
namespace Go.Proofs.YtaamahohdnbpiaaGreat
open Go.RowKit
set_option linter.unusedVariables false
abbrev X5:=R5 × Option Addr × Nat × Nat
def x5 (t:X5):List Value:=f5 t.1 t.2.1 t.2.2.1 t.2.2.2
def c5 (bs:List X5):List Value:=bs.flatMap x5
theorem rows5 {w0 w:World} {gs room first:Nat} {L:List R5} (h:ring5 w0 w gs room first L):∃ bs:List X5,bs.map (·.1)=L∧∀ j (hj:j<bs.length),w.rangeAt gs ((first+j) % room*5) (x5 bs[j])∧isBytes w0 bs[j].2.1 bs[j].2.2.1 bs[j].2.2.2 bs[j].1.l:=by
 have key:∀ (M:List R5) (f:Nat),(∀ j (hj:j<M.length),∃ ao m c,w.rangeAt gs ((f+j) % room*5) (f5 M[j] ao m c)∧isBytes w0 ao m c M[j].l)→∃ bs:List X5,bs.map (·.1)=M∧∀ j (hj:j<bs.length),w.rangeAt gs ((f+j) % room*5) (x5 bs[j])∧isBytes w0 bs[j].2.1 bs[j].2.2.1 bs[j].2.2.2 bs[j].1.l:=by
  intro M;induction M with
  | nil=>intro f _;exact⟨[],rfl,fun j hj=>absurd hj (Nat.not_lt_zero _)⟩
  | cons b M ih=>
   intro f hM;obtain⟨ao,m,c,h0⟩:=hM 0 (by simp)
   obtain⟨bs,hm,hs⟩:=ih (f+1) (fun j hj=>by
    have:=hM (j+1) (by simpa using hj)
    have e:f+(j+1)=f+1+j:=by omega
    rw[e] at this
    simpa using this)
   refine⟨(b,ao,m,c) :: bs,by simp[hm],fun j hj=>?_⟩
   cases j with
   | zero=>exact h0
   | succ j=>
    have:=hs j (by simpa using hj)
    have e:f+(j+1)=f+1+j:=by omega
    rw[e]
    exact this
 exact key L first h
theorem c5_take (bs:List X5) (k:Nat) (h:k<bs.length):c5 (bs.take (k+1))=c5 (bs.take k)++x5 bs[k]:=by
 unfold c5
 rw[List.take_succ_eq_append_getElem h,List.flatMap_append]
 simp
theorem wp_app5 {o:Oper} {a:Act} {K:Act→World→Prop} {Q:Exit→Act→World→Prop} {w:World} (s x:Operand)
  (ho:o.op = .call { callee:=.builtin .append,args:=#[s,x],argTypes:=#[32,32] })
  (B n:Nat) (v:Value) (xs:List Value) (hs:a.eval s=v) (hown:w.ownsRow B 25 5 v n xs) (b:Nat) (news:List Value) (hx:a.eval x = .slice (some ⟨b,0,none⟩) 1 1) (hl:news.length=5) (hb:w.heap[b]?=some (.cells news.toArray 25)) (h1:∀ u ∈ news,u.oneCell'=true) (hn:n≤100000) (hB:B≤w.heap.size)
  (h:∀ v' w',w'.ownsRow B 25 5 v' (n+1) (xs++news)→w.grownBy w' v.ownBlock→K (a.put o.dst v') w') :
  o.wp Tryz.prog a w K Q:=by
 obtain⟨i0,hi,hz0,hz1,hz2⟩:=info_parts Tryz.info25
 obtain⟨v',w',hr,h2,h3,h4,h5⟩:=run_append_own_at (P:=Tryz.prog) w B 32 o.type 25 i0 _ 5 48 Tryz.underlying32 hi hz0 hz1 hz2 rfl (by decide) v n xs hown ⟨b,0,none⟩ 1 1 news (by rw[hl]) (by
  intro j u hj;have:=range_block hb j u hj
  rw[Addr.add_lit]
  exact this) h1 (by unfold maxLen;omega) (by omega) hB
 unfold Oper.wp execOp
 simp only[ho,resolve,invoke,builtin,Sem.run_bind,Sem.run_pure,Result.andThen_ok,List.map_toArray,List.map_cons,List.map_nil,hs,hx,hr]
 exact h v' w' h2 h3
set_option maxHeartbeats 4000000 in
set_option maxRecDepth 20000 in
theorem look5_of (w0 w:World) (P o gs room first:Nat) (L:List R5) (cnt ask:Nat) (hmn:min ask cnt=L.length) (y0:w.cell? ⟨P,o,none⟩=some (.slice (some ⟨gs,0,none⟩) room room)) (y1:w.cell? ⟨P,o+1,none⟩=some (.int .i64 (first:Int))) (y2:w.cell? ⟨P,o+2,none⟩=some (.int .i64 (cnt:Int))) (hr:ring5 w0 w gs room first L) (hfi:first<room) (h1:1≤room∧room≤1000) (hL:L.length≤room) :
  Calls Tryz.prog 161 #[.pointer (some ⟨P,o,none⟩),.int .i64 (ask:Int)] w fun e w'=>∃ (v:Value) (bs:List X5),e = .returned v∧bs.map (·.1)=L∧(∀ j (hj:j<bs.length),isBytes w0 bs[j].2.1 bs[j].2.2.1 bs[j].2.2.2 bs[j].1.l)∧w'.ownsRow w.heap.size 25 5 v L.length (c5 bs)∧Below w.heap.size w w':=by
 have hmax:max (ask:Int) 0=(ask:Int):=by omega
 have hmin:min (ask:Int) (cnt:Int)=(L.length:Int):=by omega
 obtain⟨bs,hm,hbs⟩:=rows5 hr
 have HBS:Hid (∀ j (hj:j<bs.length),w.rangeAt gs ((first+j) % room*5) (x5 bs[j])∧isBytes w0 bs[j].2.1 bs[j].2.2.1 bs[j].2.2.2 bs[j].1.l):=hbs
 have HM:Hid (bs.map (·.1)=L):=hm
 have HN:Hid (L.length=bs.length):=by show _=_;rw[← hm];simp
 have HY:Hid (∀ W,Below w.heap.size w W→W.cell? ⟨P,o,none⟩=some (.slice (some ⟨gs,0,none⟩) room room)∧W.cell? ⟨P,o+1,none⟩=some (.int .i64 (first:Int))):=fun W hW=>⟨(hW.cell (by exact World.block_lt_of_cell? w _ y0)).trans y0,(hW.cell (by exact World.block_lt_of_cell? w _ y1)).trans y1⟩
 have HRR:Hid (L.length≤room∧1≤room∧room≤1000):=⟨hL,h1⟩
 clear hr hm hbs;generalize L.length=n at *;go_enter Tryz.func161,Tryz.ntmps161
 go_wp2_with fail;clear y0 y1 y2;go_loopw [5,14] (fun out i wr=>∃ k:Nat,k≤n∧i = .int .i64 (k:Int)∧wr.ownsRow w.heap.size 25 5 out k (c5 (bs.take k))∧Below w.heap.size w wr) (fun _ i _=>n-(intOf i).toNat)
 case atStart=>exact⟨0,Nat.zero_le _,rfl,World.ownsRow_nil w _ 25 5,Below.refl _ _⟩
 case round=>
  obtain⟨k,hk,rfl,hO,hB⟩:=hrel
  have HO:Hid (wr.ownsRow w.heap.size 25 5 u5 k (c5 (bs.take k))):=hO
  have HB:Hid (Below w.heap.size w wr):=hB
  clear hO hB;by_cases hlt:k<n
  ·have hkl:k<bs.length:=by have:=HN.out;omega
   have hkr:k<room:=by omega
   have HT:=c5_take bs k hkl
   have HRG:∀ W,Below w.heap.size w W→W.rangeAt gs ((first+k) % room*5) (x5 bs[k]):=fun W hW=>range_below (HBS.out k hkl).1 hW (World.block_lt_of_cell? w _ ((HBS.out k hkl).1 0 _ rfl))
   obtain⟨Q,hQ⟩ : ∃ Q,(first+k) % room=Q:=⟨_,rfl⟩
   rw[hQ] at HRG
   obtain⟨t,ht⟩ : ∃ t,bs[k]=t:=⟨_,rfl⟩
   rw[ht] at HT HRG
   obtain⟨⟨e,i,r,d,l⟩,ao,m,c⟩:=t
   have HRG:Hid (∀ W,Below w.heap.size w W→W.rangeAt gs (Q*5) [.bool e,.int .u32 (i:Int),.bool r,.int .i64 d,.slice ao m c]):=HRG
   have HT:Hid (c5 (bs.take (k+1))=c5 (bs.take k)++[.bool e,.int .u32 (i:Int),.bool r,.int .i64 d,.slice ao m c]):=HT
   clear ht;have hwk:IntKind.i64.wrap ((first:Int)+(k:Int))=((first+k:Nat):Int):=by rw[IntKind.wrap_i64];omega
   have hr0:¬ room=0:=by omega
   have htm:((first+k:Nat):Int).tmod (room:Int)=(Q:Int):=by rw[← hQ];exact (Int.ofNat_tmod _ _).symm
   have htm2:((first:Int)+(k:Int)).tmod (room:Int)=(Q:Int):=htm
   have hQr:Q<room:=by rw[← hQ];exact Nat.mod_lt _ (by omega)
   clear hQ;go_wp2_with fail;refine wp_region_held (S:=fun W=>Below w.heap.size w W) (by kernel_rfl) ?_
   have hS:Below w.heap.size w wr.drew:=HB.out.drew
   have HO1:Hid (wr.drew.ownsRow w.heap.size 25 5 u5 k (c5 (bs.take k))):=HO.out.drew
   change wpAnyH Tryz.prog _ _ _ _ _ _ _ wr.drew
   generalize wr.drew=w1 at *;refine wT (i:=0) (v:=u5) rfl (by kernel_rfl) (by kernel_rfl) (by kernel_rfl) (fun _ _ _ h=>h) (Or.inl ⟨by rfl,?_⟩) hS ?_
   ·intro W hSw;clear hS;go_simp
   simp only[Act.put,aA,aB,aC,aD,aE]
   refine wT (i:=1) (v:=.pointer (some ⟨P,o,none⟩)) rfl (by kernel_rfl) (by kernel_rfl) (by kernel_rfl) (fun _ _ _ h=>h) (Or.inl ⟨by rfl,?_⟩) hS ?_
   ·intro W hSw;clear hS;go_simp
   simp only[Act.put,aA,aB,aC,aD,aE,aF];refine wT (i:=2) (v:=.pointer (some ⟨P,o,none⟩)) rfl (by kernel_rfl) (by kernel_rfl) (by kernel_rfl) (fun _ _ _ h=>h) (Or.inl ⟨by rfl,?_⟩) hS ?_
   ·intro W hSw;clear hS;go_simp
   simp only[Act.put,aA,aB,aC,aD,aE,aF];refine wT (i:=3) (v:=.pointer (some ⟨P,o,none⟩)) rfl (by kernel_rfl) (by kernel_rfl) (by kernel_rfl) (fun _ _ _ h=>h) (Or.inl ⟨by rfl,?_⟩) hS ?_
   ·intro W hSw;clear hS;go_simp
   simp only[Act.put,aA,aB,aC,aD,aE,aF];refine wT (i:=4) (v:=.slice (some ⟨gs,0,none⟩) room room) rfl (by kernel_rfl) (by kernel_rfl) (by kernel_rfl) (fun _ _ _ h=>h) (Or.inl ⟨by rfl,?_⟩) hS ?_
   ·intro W hSw;have hc:=(HY.out W hSw).1
    clear hS;go_simp
   simp only[Act.put,aA,aB,aC,aD,aE,aF];refine wT (i:=5) (v:=.pointer (some ⟨P,o,none⟩)) rfl (by kernel_rfl) (by kernel_rfl) (by kernel_rfl) (fun _ _ _ h=>h) (Or.inl ⟨by rfl,?_⟩) hS ?_
   ·intro W hSw;clear hS;go_simp
   simp only[Act.put,aA,aB,aC,aD,aE,aF];refine wT (i:=6) (v:=.pointer (some ⟨P,o,none⟩)) rfl (by kernel_rfl) (by kernel_rfl) (by kernel_rfl) (fun _ _ _ h=>h) (Or.inl ⟨by rfl,?_⟩) hS ?_
   ·intro W hSw;clear hS;go_simp
   simp only[Act.put,aA,aB,aC,aD,aE,aF];refine wT (i:=7) (v:=.pointer (some ⟨P,o+1,none⟩)) rfl (by kernel_rfl) (by kernel_rfl) (by kernel_rfl) (fun _ _ _ h=>h) (Or.inl ⟨by rfl,?_⟩) hS ?_
   ·intro W hSw;clear hS;go_simp
   simp only[Act.put,aA,aB,aC,aD,aE,aF];refine wT (i:=8) (v:=.int .i64 (first:Int)) rfl (by kernel_rfl) (by kernel_rfl) (by kernel_rfl) (fun _ _ _ h=>h) (Or.inl ⟨by rfl,?_⟩) hS ?_
   ·intro W hSw;have hc:=(HY.out W hSw).2
    clear hS;go_simp
   simp only[Act.put,aA,aB,aC,aD,aE,aF];refine wT (i:=9) (v:=.int .i64 (k:Int)) rfl (by kernel_rfl) (by kernel_rfl) (by kernel_rfl) (fun _ _ _ h=>h) (Or.inl ⟨by rfl,?_⟩) hS ?_
   ·intro W hSw;clear hS;go_simp
   simp only[Act.put,aA,aB,aC,aD,aE,aF];refine wT (i:=10) (v:=.int .i64 ((first+k:Nat):Int)) rfl (by kernel_rfl) (by kernel_rfl) (by kernel_rfl) (fun _ _ _ h=>h) (Or.inl ⟨by rfl,?_⟩) hS ?_
   ·intro W hSw;clear hS;go_simp
   simp only[Act.put,aA,aB,aC,aD,aE,aF];refine wT (i:=11) (v:=.pointer (some ⟨P,o,none⟩)) rfl (by kernel_rfl) (by kernel_rfl) (by kernel_rfl) (fun _ _ _ h=>h) (Or.inl ⟨by rfl,?_⟩) hS ?_
   ·intro W hSw;clear hS;go_simp
   simp only[Act.put,aA,aB,aC,aD,aE,aF];refine wT (i:=12) (v:=.pointer (some ⟨P,o,none⟩)) rfl (by kernel_rfl) (by kernel_rfl) (by kernel_rfl) (fun _ _ _ h=>h) (Or.inl ⟨by rfl,?_⟩) hS ?_
   ·intro W hSw;clear hS;go_simp
   simp only[Act.put,aA,aB,aC,aD,aE,aF];refine wT (i:=13) (v:=.pointer (some ⟨P,o,none⟩)) rfl (by kernel_rfl) (by kernel_rfl) (by kernel_rfl) (fun _ _ _ h=>h) (Or.inl ⟨by rfl,?_⟩) hS ?_
   ·intro W hSw;clear hS;go_simp
   simp only[Act.put,aA,aB,aC,aD,aE,aF];refine wT (i:=14) (v:=.slice (some ⟨gs,0,none⟩) room room) rfl (by kernel_rfl) (by kernel_rfl) (by kernel_rfl) (fun _ _ _ h=>h) (Or.inl ⟨by rfl,?_⟩) hS ?_
   ·intro W hSw;have hc:=(HY.out W hSw).1
    clear hS;go_simp
   simp only[Act.put,aA,aB,aC,aD,aE,aF];refine wT (i:=15) (v:=.int .i64 (room:Int)) rfl (by kernel_rfl) (by kernel_rfl) (by kernel_rfl) (fun _ _ _ h=>h) (Or.inl ⟨by rfl,?_⟩) hS ?_
   ·intro W hSw;clear hS;go_simp
   simp only[Act.put,aA,aB,aC,aD,aE,aF];refine wT (i:=16) (v:=.int .i64 (Q:Int)) rfl (by kernel_rfl) (by kernel_rfl) (by kernel_rfl) (fun _ _ _ h=>h) (Or.inl ⟨by rfl,?_⟩) hS ?_
   ·intro W hSw;clear hS;go_simp
   simp only[Act.put,aA,aB,aC,aD,aE,aF];refine wT (i:=17) (v:=.pointer (some ⟨gs,Q*5,none⟩)) rfl (by kernel_rfl) (by kernel_rfl) (by kernel_rfl) (fun _ _ _ h=>h) (Or.inl ⟨by rfl,?_⟩) hS ?_
   ·intro W hSw;clear hS;go_simp
   simp only[Act.put,aA,aB,aC,aD,aE,aF];refine wT (i:=18) (v:=.agg [.bool e,.int .u32 (i:Int),.bool r,.int .i64 d,.slice ao m c].toArray) rfl (by kernel_rfl) (by kernel_rfl) (by kernel_rfl) (fun _ _ _ h=>h) (yieldsIf_load_mid (by rfl) 25 (.tmp 34) rfl gs (Q*5) rfl [.bool e,.int .u32 (i:Int),.bool r,.int .i64 d,.slice ao m c] _ (fun W h=>HRG.out W h) Tryz.underlying25 rfl sz93) hS ?_
   simp only[Act.put,aA,aB,aC,aD,aE,aF];refine wpAnyH_all (rs:=[19]) (by kernel_rfl) (by simp) ?_
   refine AllReadyH.cons rfl (fun K hK=>?_) AllReadyH.nil
   go_simp;have hg:=heap_alloc_new w1 (.cells #[.bool e,.int .u32 (i:Int),.bool r,.int .i64 d,.slice ao m c] 25)
   have hS1:Below w.heap.size w (w1.alloc (.cells #[.bool e,.int .u32 (i:Int),.bool r,.int .i64 d,.slice ao m c] 25)):=hS.alloc hS.size _
   have HO2:Hid ((w1.alloc (.cells #[.bool e,.int .u32 (i:Int),.bool r,.int .i64 d,.slice ao m c] 25)).ownsRow w.heap.size 25 5 u5 k (c5 (bs.take k))):=World.ownsRow.alloc HO1.out _
   generalize (w1.alloc (.cells #[.bool e,.int .u32 (i:Int),.bool r,.int .i64 d,.slice ao m c] 25))=w2 at *;refine hK.out _ w2 hS1 (fun hS2=>?_)
   clear hS hK K hS1;have hS:=hS2
   clear hS2;refine wpAnyH_all (rs:=[20]) (by kernel_rfl) (by simp) ?_
   refine AllReadyH.cons rfl (fun K hK=>?_) AllReadyH.nil
   rw[if_pos (by rfl)]
   refine wp_app5 (.tmp 17) (.tmp 36) rfl w.heap.size k u5 (c5 (bs.take k)) rfl HO2.out w1.heap.size [.bool e,.int .u32 (i:Int),.bool r,.int .i64 d,.slice ao m c] rfl rfl hg (by simp[Value.oneCell']) (by omega) hS.size ?_
   intro v' w3 ho3 hg3;have HO3:Hid (w3.ownsRow w.heap.size 25 5 v' (k+1) (c5 (bs.take (k+1)))):=by show World.ownsRow _ _ _ _ _ _ _;rw[HT.out];exact ho3
   have hS3:Below w.heap.size w w3:=hS.grown hg3 hS.size (fun q hq=>(World.ownsRow.lt HO2.out q hq).1)
   have HB3:Hid (Below w.heap.size w w3):=hS3
   refine hK.out _ w3 hS3 (fun hS2=>?_)
   clear hS hK K hS3 hg3 ho3 hg;have hS:=hS2
   clear hS2;simp only[Act.put,aA,aB,aC,aD,aE,aF];refine wT (i:=21) (v:=v') rfl (by kernel_rfl) (by kernel_rfl) (by kernel_rfl) (fun _ _ _ h=>h) (Or.inl ⟨by rfl,?_⟩) hS ?_
   ·intro W hSw;clear hS;go_simp
   simp only[Act.put,aA,aB,aC,aD,aE,aF];refine wpAnyH_done (by kernel_rfl) ?_ _
   clear hS;go_wp2_with fail;go_roundw
   case rel=>exact⟨k+1,by omega,by go_num,HO3.out,HB3.out⟩
   case measure=>simp[intOf];omega
  ·have hkn:k=n:=by omega
   subst hkn;have HF:Hid (wr.ownsRow w.heap.size 25 5 u5 k (c5 bs)):=by
    have:=HO.out
    rw[List.take_of_length_le (by have:=HN.out;omega)] at this
    exact this
   go_wp2
   go_ret;exact⟨u5,bs,rfl,HM.out,fun j hj=>(HBS.out j hj).2,HF.out,HB.out⟩
theorem look5_any (w0 w:World) (P o gs room first:Nat) (L:List R5) (y0:w.cell? ⟨P,o,none⟩=some (.slice (some ⟨gs,0,none⟩) room room)) (y1:w.cell? ⟨P,o+1,none⟩=some (.int .i64 (first:Int))) (y2:w.cell? ⟨P,o+2,none⟩=some (.int .i64 (L.length:Int))) (hr:ring5 w0 w gs room first L) (hfi:first<room) (h1:1≤room∧room≤1000) (hL:L.length≤room) :
  Calls Tryz.prog 161 #[.pointer (some ⟨P,o,none⟩),.int .i64 (L.length:Int)] w fun e w'=>∃ (v:Value) (bs:List X5),e = .returned v∧bs.map (·.1)=L∧(∀ j (hj:j<bs.length),isBytes w0 bs[j].2.1 bs[j].2.2.1 bs[j].2.2.2 bs[j].1.l)∧w'.ownsRow w.heap.size 25 5 v L.length (c5 bs)∧Below w.heap.size w w':=look5_of w0 w P o gs room first L L.length L.length (Nat.min_self _) y0 y1 y2 hr hfi h1 hL
theorem rowsR8 {w0 w:World} {gs room first:Nat} {L:List R8} (h:ring8 w0 w gs room first L):∃ bs:List X8,bs.map (·.1)=L∧∀ j (hj:j<bs.length),w.rangeAt gs ((first+j) % room*8) (x8 bs[j])∧isBytes w0 bs[j].2.1 bs[j].2.2.1 bs[j].2.2.2 bs[j].1.l:=by
 have key:∀ (M:List R8) (f:Nat),(∀ j (hj:j<M.length),∃ ao m c,w.rangeAt gs ((f+j) % room*8) (f8 M[j] ao m c)∧isBytes w0 ao m c M[j].l)→∃ bs:List X8,bs.map (·.1)=M∧∀ j (hj:j<bs.length),w.rangeAt gs ((f+j) % room*8) (x8 bs[j])∧isBytes w0 bs[j].2.1 bs[j].2.2.1 bs[j].2.2.2 bs[j].1.l:=by
  intro M;induction M with
  | nil=>intro f _;exact⟨[],rfl,fun j hj=>absurd hj (Nat.not_lt_zero _)⟩
  | cons b M ih=>
   intro f hM;obtain⟨ao,m,c,h0⟩:=hM 0 (by simp)
   obtain⟨bs,hm,hs⟩:=ih (f+1) (fun j hj=>by
    have:=hM (j+1) (by simpa using hj)
    have e:f+(j+1)=f+1+j:=by omega
    rw[e] at this
    simpa using this)
   refine⟨(b,ao,m,c) :: bs,by simp[hm],fun j hj=>?_⟩
   cases j with
   | zero=>exact h0
   | succ j=>
    have:=hs j (by simpa using hj)
    have e:f+(j+1)=f+1+j:=by omega
    rw[e]
    exact this
 exact key L first h
theorem c8_take (bs:List X8) (k:Nat) (h:k<bs.length):c8 (bs.take (k+1))=c8 (bs.take k)++x8 bs[k]:=by
 unfold c8
 rw[List.take_succ_eq_append_getElem h,List.flatMap_append]
 simp
theorem wp_app8 {o:Oper} {a:Act} {K:Act→World→Prop} {Q:Exit→Act→World→Prop} {w:World} (s x:Operand)
  (ho:o.op = .call { callee:=.builtin .append,args:=#[s,x],argTypes:=#[33,33] })
  (B n:Nat) (v:Value) (xs:List Value) (hs:a.eval s=v) (hown:w.ownsRow B 46 8 v n xs) (b:Nat) (news:List Value) (hx:a.eval x = .slice (some ⟨b,0,none⟩) 1 1) (hl:news.length=8) (hb:w.heap[b]?=some (.cells news.toArray 46)) (h1:∀ u ∈ news,u.oneCell'=true) (hn:n≤100000) (hB:B≤w.heap.size)
  (h:∀ v' w',w'.ownsRow B 46 8 v' (n+1) (xs++news)→w.grownBy w' v.ownBlock→K (a.put o.dst v') w') :
  o.wp Tryz.prog a w K Q:=by
 obtain⟨i0,hi,hz0,hz1,hz2⟩:=info_parts Tryz.info46
 obtain⟨v',w',hr,h2,h3,h4,h5⟩:=run_append_own_at (P:=Tryz.prog) w B 33 o.type 46 i0 _ 8 72 Tryz.underlying33 hi hz0 hz1 hz2 rfl (by decide) v n xs hown ⟨b,0,none⟩ 1 1 news (by rw[hl]) (by
  intro j u hj;have:=range_block hb j u hj
  rw[Addr.add_lit]
  exact this) h1 (by unfold maxLen;omega) (by omega) hB
 unfold Oper.wp execOp
 simp only[ho,resolve,invoke,builtin,Sem.run_bind,Sem.run_pure,Result.andThen_ok,List.map_toArray,List.map_cons,List.map_nil,hs,hx,hr]
 exact h v' w' h2 h3
set_option maxHeartbeats 4000000 in
set_option maxRecDepth 20000 in
theorem look8_of (w0 w:World) (P o gs room first:Nat) (L:List R8) (cnt ask:Nat) (hmn:min ask cnt=L.length) (y0:w.cell? ⟨P,o,none⟩=some (.slice (some ⟨gs,0,none⟩) room room)) (y1:w.cell? ⟨P,o+1,none⟩=some (.int .i64 (first:Int))) (y2:w.cell? ⟨P,o+2,none⟩=some (.int .i64 (cnt:Int))) (hr:ring8 w0 w gs room first L) (hfi:first<room) (h1:1≤room∧room≤1000) (hL:L.length≤room) :
  Calls Tryz.prog 162 #[.pointer (some ⟨P,o,none⟩),.int .i64 (ask:Int)] w fun e w'=>∃ (v:Value) (bs:List X8),e = .returned v∧bs.map (·.1)=L∧(∀ j (hj:j<bs.length),isBytes w0 bs[j].2.1 bs[j].2.2.1 bs[j].2.2.2 bs[j].1.l)∧w'.ownsRow w.heap.size 46 8 v L.length (c8 bs)∧Below w.heap.size w w':=by
 have hmax:max (ask:Int) 0=(ask:Int):=by omega
 have hmin:min (ask:Int) (cnt:Int)=(L.length:Int):=by omega
 obtain⟨bs,hm,hbs⟩:=rowsR8 hr
 have HBS:Hid (∀ j (hj:j<bs.length),w.rangeAt gs ((first+j) % room*8) (x8 bs[j])∧isBytes w0 bs[j].2.1 bs[j].2.2.1 bs[j].2.2.2 bs[j].1.l):=hbs
 have HM:Hid (bs.map (·.1)=L):=hm
 have HN:Hid (L.length=bs.length):=by show _=_;rw[← hm];simp
 have HY:Hid (∀ W,Below w.heap.size w W→W.cell? ⟨P,o,none⟩=some (.slice (some ⟨gs,0,none⟩) room room)∧W.cell? ⟨P,o+1,none⟩=some (.int .i64 (first:Int))):=fun W hW=>⟨(hW.cell (by exact World.block_lt_of_cell? w _ y0)).trans y0,(hW.cell (by exact World.block_lt_of_cell? w _ y1)).trans y1⟩
 have HRR:Hid (L.length≤room∧1≤room∧room≤1000):=⟨hL,h1⟩
 clear hr hm hbs;generalize L.length=n at *;go_enter Tryz.func162,Tryz.ntmps162
 go_wp2_with fail;clear y0 y1 y2;go_loopw [5,14] (fun out i wr=>∃ k:Nat,k≤n∧i = .int .i64 (k:Int)∧wr.ownsRow w.heap.size 46 8 out k (c8 (bs.take k))∧Below w.heap.size w wr) (fun _ i _=>n-(intOf i).toNat)
 case atStart=>exact⟨0,Nat.zero_le _,rfl,World.ownsRow_nil w _ 46 8,Below.refl _ _⟩
 case round=>
  obtain⟨k,hk,rfl,hO,hB⟩:=hrel
  have HO:Hid (wr.ownsRow w.heap.size 46 8 u5 k (c8 (bs.take k))):=hO
  have HB:Hid (Below w.heap.size w wr):=hB
  clear hO hB;by_cases hlt:k<n
  ·have hkl:k<bs.length:=by have:=HN.out;omega
   have hkr:k<room:=by omega
   have HT:=c8_take bs k hkl
   have HRG:∀ W,Below w.heap.size w W→W.rangeAt gs ((first+k) % room*8) (x8 bs[k]):=fun W hW=>range_below (HBS.out k hkl).1 hW (World.block_lt_of_cell? w _ ((HBS.out k hkl).1 0 _ rfl))
   obtain⟨Q,hQ⟩ : ∃ Q,(first+k) % room=Q:=⟨_,rfl⟩
   rw[hQ] at HRG
   obtain⟨t,ht⟩ : ∃ t,bs[k]=t:=⟨_,rfl⟩
   rw[ht] at HT HRG
   obtain⟨⟨x,y,z,e,i,r,d,l⟩,ao,m,c⟩:=t
   have HRG:Hid (∀ W,Below w.heap.size w W→W.rangeAt gs (Q*8) [.int .i64 x,.int .i64 y,.int .i64 z,.bool e,.int .u32 (i:Int),.bool r,.int .i64 d,.slice ao m c]):=HRG
   have HT:Hid (c8 (bs.take (k+1))=c8 (bs.take k)++[.int .i64 x,.int .i64 y,.int .i64 z,.bool e,.int .u32 (i:Int),.bool r,.int .i64 d,.slice ao m c]):=HT
   clear ht;have hwk:IntKind.i64.wrap ((first:Int)+(k:Int))=((first+k:Nat):Int):=by rw[IntKind.wrap_i64];omega
   have hr0:¬ room=0:=by omega
   have htm:((first+k:Nat):Int).tmod (room:Int)=(Q:Int):=by rw[← hQ];exact (Int.ofNat_tmod _ _).symm
   have htm2:((first:Int)+(k:Int)).tmod (room:Int)=(Q:Int):=htm
   have hQr:Q<room:=by rw[← hQ];exact Nat.mod_lt _ (by omega)
   clear hQ;go_wp2_with fail;refine wp_region_held (S:=fun W=>Below w.heap.size w W) (by kernel_rfl) ?_
   have hS:Below w.heap.size w wr.drew:=HB.out.drew
   have HO1:Hid (wr.drew.ownsRow w.heap.size 46 8 u5 k (c8 (bs.take k))):=HO.out.drew
   change wpAnyH Tryz.prog _ _ _ _ _ _ _ wr.drew
   generalize wr.drew=w1 at *;refine wT (i:=0) (v:=u5) rfl (by kernel_rfl) (by kernel_rfl) (by kernel_rfl) (fun _ _ _ h=>h) (Or.inl ⟨by rfl,?_⟩) hS ?_
   ·intro W hSw;clear hS;go_simp
   simp only[Act.put,aA,aB,aC,aD,aE]
   refine wT (i:=1) (v:=.pointer (some ⟨P,o,none⟩)) rfl (by kernel_rfl) (by kernel_rfl) (by kernel_rfl) (fun _ _ _ h=>h) (Or.inl ⟨by rfl,?_⟩) hS ?_
   ·intro W hSw;clear hS;go_simp
   simp only[Act.put,aA,aB,aC,aD,aE,aF];refine wT (i:=2) (v:=.pointer (some ⟨P,o,none⟩)) rfl (by kernel_rfl) (by kernel_rfl) (by kernel_rfl) (fun _ _ _ h=>h) (Or.inl ⟨by rfl,?_⟩) hS ?_
   ·intro W hSw;clear hS;go_simp
   simp only[Act.put,aA,aB,aC,aD,aE,aF];refine wT (i:=3) (v:=.pointer (some ⟨P,o,none⟩)) rfl (by kernel_rfl) (by kernel_rfl) (by kernel_rfl) (fun _ _ _ h=>h) (Or.inl ⟨by rfl,?_⟩) hS ?_
   ·intro W hSw;clear hS;go_simp
   simp only[Act.put,aA,aB,aC,aD,aE,aF];refine wT (i:=4) (v:=.slice (some ⟨gs,0,none⟩) room room) rfl (by kernel_rfl) (by kernel_rfl) (by kernel_rfl) (fun _ _ _ h=>h) (Or.inl ⟨by rfl,?_⟩) hS ?_
   ·intro W hSw;have hc:=(HY.out W hSw).1
    clear hS;go_simp
   simp only[Act.put,aA,aB,aC,aD,aE,aF];refine wT (i:=5) (v:=.pointer (some ⟨P,o,none⟩)) rfl (by kernel_rfl) (by kernel_rfl) (by kernel_rfl) (fun _ _ _ h=>h) (Or.inl ⟨by rfl,?_⟩) hS ?_
   ·intro W hSw;clear hS;go_simp
   simp only[Act.put,aA,aB,aC,aD,aE,aF];refine wT (i:=6) (v:=.pointer (some ⟨P,o,none⟩)) rfl (by kernel_rfl) (by kernel_rfl) (by kernel_rfl) (fun _ _ _ h=>h) (Or.inl ⟨by rfl,?_⟩) hS ?_
   ·intro W hSw;clear hS;go_simp
   simp only[Act.put,aA,aB,aC,aD,aE,aF];refine wT (i:=7) (v:=.pointer (some ⟨P,o+1,none⟩)) rfl (by kernel_rfl) (by kernel_rfl) (by kernel_rfl) (fun _ _ _ h=>h) (Or.inl ⟨by rfl,?_⟩) hS ?_
   ·intro W hSw;clear hS;go_simp
   simp only[Act.put,aA,aB,aC,aD,aE,aF];refine wT (i:=8) (v:=.int .i64 (first:Int)) rfl (by kernel_rfl) (by kernel_rfl) (by kernel_rfl) (fun _ _ _ h=>h) (Or.inl ⟨by rfl,?_⟩) hS ?_
   ·intro W hSw;have hc:=(HY.out W hSw).2
    clear hS;go_simp
   simp only[Act.put,aA,aB,aC,aD,aE,aF];refine wT (i:=9) (v:=.int .i64 (k:Int)) rfl (by kernel_rfl) (by kernel_rfl) (by kernel_rfl) (fun _ _ _ h=>h) (Or.inl ⟨by rfl,?_⟩) hS ?_
   ·intro W hSw;clear hS;go_simp
   simp only[Act.put,aA,aB,aC,aD,aE,aF];refine wT (i:=10) (v:=.int .i64 ((first+k:Nat):Int)) rfl (by kernel_rfl) (by kernel_rfl) (by kernel_rfl) (fun _ _ _ h=>h) (Or.inl ⟨by rfl,?_⟩) hS ?_
   ·intro W hSw;clear hS;go_simp
   simp only[Act.put,aA,aB,aC,aD,aE,aF];refine wT (i:=11) (v:=.pointer (some ⟨P,o,none⟩)) rfl (by kernel_rfl) (by kernel_rfl) (by kernel_rfl) (fun _ _ _ h=>h) (Or.inl ⟨by rfl,?_⟩) hS ?_
   ·intro W hSw;clear hS;go_simp
   simp only[Act.put,aA,aB,aC,aD,aE,aF];refine wT (i:=12) (v:=.pointer (some ⟨P,o,none⟩)) rfl (by kernel_rfl) (by kernel_rfl) (by kernel_rfl) (fun _ _ _ h=>h) (Or.inl ⟨by rfl,?_⟩) hS ?_
   ·intro W hSw;clear hS;go_simp
   simp only[Act.put,aA,aB,aC,aD,aE,aF];refine wT (i:=13) (v:=.pointer (some ⟨P,o,none⟩)) rfl (by kernel_rfl) (by kernel_rfl) (by kernel_rfl) (fun _ _ _ h=>h) (Or.inl ⟨by rfl,?_⟩) hS ?_
   ·intro W hSw;clear hS;go_simp
   simp only[Act.put,aA,aB,aC,aD,aE,aF];refine wT (i:=14) (v:=.slice (some ⟨gs,0,none⟩) room room) rfl (by kernel_rfl) (by kernel_rfl) (by kernel_rfl) (fun _ _ _ h=>h) (Or.inl ⟨by rfl,?_⟩) hS ?_
   ·intro W hSw;have hc:=(HY.out W hSw).1
    clear hS;go_simp
   simp only[Act.put,aA,aB,aC,aD,aE,aF];refine wT (i:=15) (v:=.int .i64 (room:Int)) rfl (by kernel_rfl) (by kernel_rfl) (by kernel_rfl) (fun _ _ _ h=>h) (Or.inl ⟨by rfl,?_⟩) hS ?_
   ·intro W hSw;clear hS;go_simp
   simp only[Act.put,aA,aB,aC,aD,aE,aF];refine wT (i:=16) (v:=.int .i64 (Q:Int)) rfl (by kernel_rfl) (by kernel_rfl) (by kernel_rfl) (fun _ _ _ h=>h) (Or.inl ⟨by rfl,?_⟩) hS ?_
   ·intro W hSw;clear hS;go_simp
   simp only[Act.put,aA,aB,aC,aD,aE,aF];refine wT (i:=17) (v:=.pointer (some ⟨gs,Q*8,none⟩)) rfl (by kernel_rfl) (by kernel_rfl) (by kernel_rfl) (fun _ _ _ h=>h) (Or.inl ⟨by rfl,?_⟩) hS ?_
   ·intro W hSw;clear hS;go_simp
   simp only[Act.put,aA,aB,aC,aD,aE,aF];refine wT (i:=18) (v:=.agg [.int .i64 x,.int .i64 y,.int .i64 z,.bool e,.int .u32 (i:Int),.bool r,.int .i64 d,.slice ao m c].toArray) rfl (by kernel_rfl) (by kernel_rfl) (by kernel_rfl) (fun _ _ _ h=>h) (yieldsIf_load_mid (by rfl) 46 (.tmp 34) rfl gs (Q*8) rfl [.int .i64 x,.int .i64 y,.int .i64 z,.bool e,.int .u32 (i:Int),.bool r,.int .i64 d,.slice ao m c] _ (fun W h=>HRG.out W h) Tryz.underlying46 rfl sz129) hS ?_
   simp only[Act.put,aA,aB,aC,aD,aE,aF];refine wpAnyH_all (rs:=[19]) (by kernel_rfl) (by simp) ?_
   refine AllReadyH.cons rfl (fun K hK=>?_) AllReadyH.nil
   go_simp;have hg:=heap_alloc_new w1 (.cells #[.int .i64 x,.int .i64 y,.int .i64 z,.bool e,.int .u32 (i:Int),.bool r,.int .i64 d,.slice ao m c] 46)
   have hS1:Below w.heap.size w (w1.alloc (.cells #[.int .i64 x,.int .i64 y,.int .i64 z,.bool e,.int .u32 (i:Int),.bool r,.int .i64 d,.slice ao m c] 46)):=hS.alloc hS.size _
   have HO2:Hid ((w1.alloc (.cells #[.int .i64 x,.int .i64 y,.int .i64 z,.bool e,.int .u32 (i:Int),.bool r,.int .i64 d,.slice ao m c] 46)).ownsRow w.heap.size 46 8 u5 k (c8 (bs.take k))):=World.ownsRow.alloc HO1.out _
   generalize (w1.alloc (.cells #[.int .i64 x,.int .i64 y,.int .i64 z,.bool e,.int .u32 (i:Int),.bool r,.int .i64 d,.slice ao m c] 46))=w2 at *;refine hK.out _ w2 hS1 (fun hS2=>?_)
   clear hS hK K hS1;have hS:=hS2
   clear hS2;refine wpAnyH_all (rs:=[20]) (by kernel_rfl) (by simp) ?_
   refine AllReadyH.cons rfl (fun K hK=>?_) AllReadyH.nil
   rw[if_pos (by rfl)]
   refine wp_app8 (.tmp 17) (.tmp 36) rfl w.heap.size k u5 (c8 (bs.take k)) rfl HO2.out w1.heap.size [.int .i64 x,.int .i64 y,.int .i64 z,.bool e,.int .u32 (i:Int),.bool r,.int .i64 d,.slice ao m c] rfl rfl hg (by simp[Value.oneCell']) (by omega) hS.size ?_
   intro v' w3 ho3 hg3;have HO3:Hid (w3.ownsRow w.heap.size 46 8 v' (k+1) (c8 (bs.take (k+1)))):=by show World.ownsRow _ _ _ _ _ _ _;rw[HT.out];exact ho3
   have hS3:Below w.heap.size w w3:=hS.grown hg3 hS.size (fun q hq=>(World.ownsRow.lt HO2.out q hq).1)
   have HB3:Hid (Below w.heap.size w w3):=hS3
   refine hK.out _ w3 hS3 (fun hS2=>?_)
   clear hS hK K hS3 hg3 ho3 hg;have hS:=hS2
   clear hS2;simp only[Act.put,aA,aB,aC,aD,aE,aF];refine wT (i:=21) (v:=v') rfl (by kernel_rfl) (by kernel_rfl) (by kernel_rfl) (fun _ _ _ h=>h) (Or.inl ⟨by rfl,?_⟩) hS ?_
   ·intro W hSw;clear hS;go_simp
   simp only[Act.put,aA,aB,aC,aD,aE,aF];refine wpAnyH_done (by kernel_rfl) ?_ _
   clear hS;go_wp2_with fail;go_roundw
   case rel=>exact⟨k+1,by omega,by go_num,HO3.out,HB3.out⟩
   case measure=>simp[intOf];omega
  ·have hkn:k=n:=by omega
   subst hkn;have HF:Hid (wr.ownsRow w.heap.size 46 8 u5 k (c8 bs)):=by
    have:=HO.out
    rw[List.take_of_length_le (by have:=HN.out;omega)] at this
    exact this
   go_wp2
   go_ret;exact⟨u5,bs,rfl,HM.out,fun j hj=>(HBS.out j hj).2,HF.out,HB.out⟩
theorem look8_any (w0 w:World) (P o gs room first:Nat) (L:List R8) (y0:w.cell? ⟨P,o,none⟩=some (.slice (some ⟨gs,0,none⟩) room room)) (y1:w.cell? ⟨P,o+1,none⟩=some (.int .i64 (first:Int))) (y2:w.cell? ⟨P,o+2,none⟩=some (.int .i64 (L.length:Int))) (hr:ring8 w0 w gs room first L) (hfi:first<room) (h1:1≤room∧room≤1000) (hL:L.length≤room) :
  Calls Tryz.prog 162 #[.pointer (some ⟨P,o,none⟩),.int .i64 (L.length:Int)] w fun e w'=>∃ (v:Value) (bs:List X8),e = .returned v∧bs.map (·.1)=L∧(∀ j (hj:j<bs.length),isBytes w0 bs[j].2.1 bs[j].2.2.1 bs[j].2.2.2 bs[j].1.l)∧w'.ownsRow w.heap.size 46 8 v L.length (c8 bs)∧Below w.heap.size w w':=look8_of w0 w P o gs room first L L.length L.length (Nat.min_self _) y0 y1 y2 hr hfi h1 hL
def ownA (B:Nat) (a:Option Addr) (n:Nat) (W:World):Prop:=(a=none∧n=0)∨∃ b,a=some ⟨b,0,none⟩∧B≤b∧b<W.heap.size∧rowF W b n
theorem cloneB_any (W:World) (a:Option Addr) (n cap:Nat) (l:List Nat) (h:isBytes W a n cap l) (hn:n≤1048576) :
  Calls Tryz.prog 177 #[.slice a n cap] W fun e w'=>∃ a' c',e = .returned (.slice a' n c')∧ownA W.heap.size a' n w'∧(∀ W',(∀ b,a'=some ⟨b,0,none⟩→W'.heap[b]?=w'.heap[b]?)→isBytes W' a' n c' l)∧Below W.heap.size W w':=by
 have hlen:=h.len
 cases a with
 | none=>
  have hl:l=[]:=by
   rcases Classical.em (l=[]) with e|e
   ·exact e
   ·obtain⟨g,off,e1,_⟩:=h.cells e;cases e1
  subst hl;have hn0:n=0:=hlen
  subst hn0;refine (Tryz.bytes_Clone_nil 0 cap W).mono ?_
  rintro e w' ⟨rfl,rfl⟩;exact⟨none,0,rfl,Or.inl ⟨rfl,rfl⟩,fun W' _=>⟨rfl,Nat.le_refl _,fun x hx=>(by cases hx),fun hne=>absurd rfl hne⟩,Below.refl _ _⟩
 | some ad=>
  have hc:∀ i,i<n→W.cell? (ad.add i)=some (.int .u8 ((l.map (fun x:Nat=>(x:Int))).getD i 0)):=by
   intro i hi;obtain⟨g,off,e1,hc⟩:=h.cells (by intro e;subst e;rw[hlen] at hi;cases hi)
   cases e1
   have hil:i<l.length:=by omega
   rw[Addr.add_lit]
   simp[List.getD,hc i hil,List.getElem?_eq_getElem hil]
  refine (Tryz.bytes_Clone_at ad n cap (l.map (fun x:Nat=>(x:Int))) W (by simp[hlen]) (by omega) hc).mono ?_
  rintro e w' ⟨v',rfl,ho,hv,hbw⟩;rcases ho.2 with⟨e,_⟩|⟨g',cap',cur,hv',hb,hg,hcp,hmx,hsz,htk⟩
  ·exact absurd e hv
  ·have hB:∀ W':World,(∀ b,(some ⟨g',0,none⟩ : Option Addr)=some ⟨b,0,none⟩→W'.heap[b]?=w'.heap[b]?)→isBytes W' (some ⟨g',0,none⟩) n cap' l:=fun W' hW=>⟨hlen,hcp,h.small,fun hne=>⟨g',0,rfl,fun j hj=>by
    have e:W'.heap[g']?=some (.cells cur 5 (0,0)):=(hW g' rfl).trans hg
    have hj':j<n*1:=by omega
    have e2:cur[j]?=some (.int .u8 (l[j]:Int)):=by
     rw[← Array.getElem?_toList,← List.getElem?_take_of_lt hj',htk]
     simp[hj]
    rw[Nat.zero_add]
    simp[World.cell?,e,e2]⟩⟩
   refine⟨some ⟨g',0,none⟩,cap',by rw[hv'],Or.inr ⟨g',rfl,hb,lt_of_some hg,fun t ht=>⟨?_,?_⟩⟩,hB,hbw⟩
   ·obtain⟨g2,o2,e2,hc2⟩:=(hB w' (fun _ _=>rfl)).cells (by intro e;subst e;simp at hlen;omega)
    cases e2
    have:=hc2 t (by omega)
    rw[Nat.zero_add] at this
    exact⟨_,this⟩
   ·subst hv';exact World.ownsRow.frozenAt ho t
set_option maxHeartbeats 4000000 in
set_option maxRecDepth 20000 in
theorem ownData_any (W:World) (g o:Nat) (a:Option Addr) (n cap:Nat) (l:List Nat) (y:W.cell? ⟨g,o+4,none⟩=some (.slice a n cap)) (hf:W.frozen? ⟨g,o+4,none⟩=false) (h:isBytes W a n cap l) (hn:n≤1048576) :
  Calls Tryz.prog 134 #[.pointer (some ⟨g,o,none⟩)] W fun e w'=>∃ a' c' w1,e = .returned (.tuple #[])∧w'=w1.setCell ⟨g,o+4,none⟩ (.slice a' n c')∧ownA W.heap.size a' n w1∧(∀ W',(∀ b,a'=some ⟨b,0,none⟩→W'.heap[b]?=w1.heap[b]?)→isBytes W' a' n c' l)∧Below W.heap.size W w1:=by
 have HC:Hid (Calls Tryz.prog 177 #[.slice a n cap] W fun e w'=>∃ a' c',e = .returned (.slice a' n c')∧ownA W.heap.size a' n w'∧(∀ W',(∀ b,a'=some ⟨b,0,none⟩→W'.heap[b]?=w'.heap[b]?)→isBytes W' a' n c' l)∧Below W.heap.size W w'):=cloneB_any W a n cap l h hn
 have hg:g<W.heap.size:=World.block_lt_of_cell? W _ y
 clear h;go_enter Tryz.func134,Tryz.ntmps134
 go_wp2_with (first
  | (go_at_call 177;refine (Calls.mono HC.out) ?_;rintro e w1 ⟨a',c',rfl,q1,q2,b1⟩;have HQ:Hid (ownA W.heap.size a' n w1∧(∀ W',(∀ b,a'=some ⟨b,0,none⟩→W'.heap[b]?=w1.heap[b]?)→isBytes W' a' n c' l)∧Below W.heap.size W w1):=⟨q1,q2,b1⟩;have y1:w1.cell? ⟨g,o+4,none⟩=some (.slice a n cap):=(b1.cell (by exact hg)).trans y;have f1:w1.frozen? ⟨g,o+4,none⟩=false:=(World.frozen?_of_block (b1.block g hg)).trans hf;clear q1 q2 b1 y hf))
 first | go_end0 | (simp only[Exit.inBlock,Exit.then];refine bodyPost_ret (results_none rfl _ _ _) rfl ?_) | refine bodyPost_ret (results_none rfl _ _ _) rfl ?_
 exact⟨a',c',w1,rfl,rfl,HQ.out.1,HQ.out.2.1,HQ.out.2.2⟩
end Go.Proofs.YtaamahohdnbpiaaGreat
