import Derived.Test.YtbllefckefhpoaaGreatK27
import Derived.Test.YtbllefckefhpoaaGreatK08
namespace Go.Proofs.YtbllefckefhpoaaGreat
open Go.RowKit
set_option linter.unusedVariables false
set_option maxHeartbeats 16000000
open Go.Value renaming int→I,slice→sL,bool→bO,pointer→pT,agg→aG
open Go.IntKind renaming i64→J
open Go.Ending renaming returned→rT
open Go.Proofs.Tryz renaming prog→Tp
abbrev X5:=R5 × Option Addr × Nat × Nat
def x5 (t:X5):List Value:=f5 t.1 t.2.1 t.2.2.1 t.2.2.2
def c5 (bs:List X5):List Value:=bs.flatMap x5
theorem rows5 {w0 w:World} {gs room first:Nat} {L:List R5} (h:ring5 w0 w gs room first L):∃ bs:List X5,bs.map (·.1)=L∧∀ j (hj:j<bs.length),w.rangeAt gs ((first+j) % room*5) (x5 bs[j])∧isBytes w0 bs[j].2.1 bs[j].2.2.1 bs[j].2.2.2 bs[j].1.l:=by
 have key:∀ (M:List R5) (f:Nat),(∀ j (hj:j<M.length),∃ ao m c,w.rangeAt gs ((f+j) % room*5) (f5 M[j] ao m c)∧isBytes w0 ao m c M[j].l)→∃ bs:List X5,bs.map (·.1)=M∧∀ j (hj:j<bs.length),w.rangeAt gs ((f+j) % room*5) (x5 bs[j])∧isBytes w0 bs[j].2.1 bs[j].2.2.1 bs[j].2.2.2 bs[j].1.l:=by
  intro M;induction M with
  | nil=>intro f _;exact⟨[],rfl,fun j hj=>absurd hj (Nat.not_lt_zero _)⟩
  | cons b M ih=>
   intro f hM;obtain⟨ao,m,c,h0⟩:=hM 0 (by simp)
   obtain⟨bs,hm,hs⟩:=ih (f+1) (fun j hj=>by
    have:=hM (j+1) (by simpa using hj)
    have e:f+(j+1)=f+1+j:=by omega
    rw[e] at this
    simpa using this)
   refine⟨(b,ao,m,c) :: bs,by simp[hm],fun j hj=>?_⟩
   cases j with
   | zero=>exact h0
   | succ j=>
    have:=hs j (by simpa using hj)
    have e:f+(j+1)=f+1+j:=by omega
    rw[e]
    exact this
 exact key L first h
theorem c5_take (bs:List X5) (k:Nat) (h:k<bs.length):c5 (bs.take (k+1))=c5 (bs.take k)++x5 bs[k]:=by
 unfold c5
 rw[List.take_succ_eq_append_getElem h,List.flatMap_append]
 simp
theorem wp_app5 {o:Oper} {a:Act} {K:Act→World→Prop} {Q:Exit→Act→World→Prop} {w:World} (s x:Operand)
  (ho:o.op = .call { callee:=.builtin .append,args:=#[s,x],argTypes:=#[38,38] })
  (B n:Nat) (v:Value) (xs:List Value) (hs:a.eval s=v) (hown:w.ownsRow B 67 5 v n xs) (b:Nat) (news:List Value) (hx:a.eval x = sL (some ⟨b,0,none⟩) 1 1) (hl:news.length=5) (hb:w.heap[b]?=some (.cells news.toArray 67)) (h1:∀ u ∈ news,u.oneCell'=true) (hn:n≤100000) (hB:B≤w.heap.size)
  (h:∀ v' w',w'.ownsRow B 67 5 v' (n+1) (xs++news)→w.grownBy w' v.ownBlock→K (a.put o.dst v') w') :
  o.wp Tp a w K Q:=by
 obtain⟨i0,hi,hz0,hz1,hz2⟩:=info_parts Tryz.info67
 obtain⟨v',w',hr,h2,h3,h4,h5⟩:=run_append_own_at (P:=Tp) w B 38 o.type 67 i0 _ 5 48 Tryz.underlying38 hi hz0 hz1 hz2 rfl (by decide) v n xs hown ⟨b,0,none⟩ 1 1 news (by rw[hl]) (by
  intro j u hj;have:=range_block hb j u hj
  rw[Addr.add_lit]
  exact this) h1 (by unfold maxLen;omega) (by omega) hB
 unfold Oper.wp execOp
 simp only[ho,resolve,invoke,builtin,Sem.run_bind,Sem.run_pure,Result.andThen_ok,List.map_toArray,List.map_cons,List.map_nil,hs,hx,hr]
 exact h v' w' h2 h3
set_option maxRecDepth 20000 in
theorem look5_of (w0 w:World) (P o gs room first:Nat) (L:List R5) (cnt ask:Nat) (hmn:min ask cnt=L.length) (y0:w.cell? ⟨P,o,none⟩=some (sL (some ⟨gs,0,none⟩) room room)) (y1:w.cell? ⟨P,o+1,none⟩=some (I J (first:Int))) (y2:w.cell? ⟨P,o+2,none⟩=some (I J (cnt:Int))) (hr:ring5 w0 w gs room first L) (hfi:first<room) (h1:1≤room∧room≤1000) (hL:L.length≤room) :
  Calls Tp 179 #[pT (some ⟨P,o,none⟩),I J (ask:Int)] w fun e w'=>∃ (v:Value) (bs:List X5),e = rT v∧bs.map (·.1)=L∧(∀ j (hj:j<bs.length),isBytes w0 bs[j].2.1 bs[j].2.2.1 bs[j].2.2.2 bs[j].1.l)∧w'.ownsRow w.heap.size 67 5 v L.length (c5 bs)∧Below w.heap.size w w':=by
 have hmax:max (ask:Int) 0=(ask:Int):=by omega
 have hmin:min (ask:Int) (cnt:Int)=(L.length:Int):=by omega
 obtain⟨bs,hm,hbs⟩:=rows5 hr
 have HBS:Hid (∀ j (hj:j<bs.length),w.rangeAt gs ((first+j) % room*5) (x5 bs[j])∧isBytes w0 bs[j].2.1 bs[j].2.2.1 bs[j].2.2.2 bs[j].1.l):=hbs
 have HM:Hid (bs.map (·.1)=L):=hm
 have HN:Hid (L.length=bs.length):=by show _=_;rw[← hm];simp
 have HY:Hid (∀ W,Below w.heap.size w W→W.cell? ⟨P,o,none⟩=some (sL (some ⟨gs,0,none⟩) room room)∧W.cell? ⟨P,o+1,none⟩=some (I J (first:Int))):=fun W hW=>⟨(hW.cell (by exact World.block_lt_of_cell? w _ y0)).trans y0,(hW.cell (by exact World.block_lt_of_cell? w _ y1)).trans y1⟩
 have HRR:Hid (L.length≤room∧1≤room∧room≤1000):=⟨hL,h1⟩
 clear hr hm hbs;generalize L.length=n at *;go_enter Tryz.func179,Tryz.ntmps179
 go_wp2_with fail;clear y0 y1 y2;go_loopw [5,14] (fun out i wr=>∃ k:Nat,k≤n∧i = I J (k:Int)∧wr.ownsRow w.heap.size 67 5 out k (c5 (bs.take k))∧Below w.heap.size w wr) (fun _ i _=>n-(intOf i).toNat)
 case atStart=>exact⟨0,Nat.zero_le _,rfl,World.ownsRow_nil w _ 67 5,Below.refl _ _⟩
 case round=>
  obtain⟨k,hk,rfl,hO,hB⟩:=hrel
  have HO:Hid (wr.ownsRow w.heap.size 67 5 u5 k (c5 (bs.take k))):=hO
  have HB:Hid (Below w.heap.size w wr):=hB
  clear hO hB;by_cases hlt:k<n
  ·have hkl:k<bs.length:=by have:=HN.out;omega
   have hkr:k<room:=by omega
   have HT:=c5_take bs k hkl
   have HRG:∀ W,Below w.heap.size w W→W.rangeAt gs ((first+k) % room*5) (x5 bs[k]):=fun W hW=>range_below (HBS.out k hkl).1 hW (World.block_lt_of_cell? w _ ((HBS.out k hkl).1 0 _ rfl))
   obtain⟨Q,hQ⟩ : ∃ Q,(first+k) % room=Q:=⟨_,rfl⟩
   rw[hQ] at HRG
   obtain⟨t,ht⟩ : ∃ t,bs[k]=t:=⟨_,rfl⟩
   rw[ht] at HT HRG
   obtain⟨⟨e,i,r,d,l⟩,ao,m,c⟩:=t
   have HRG:Hid (∀ W,Below w.heap.size w W→W.rangeAt gs (Q*5) [bO e,I .u32 (i:Int),bO r,I J d,sL ao m c]):=HRG
   have HT:Hid (c5 (bs.take (k+1))=c5 (bs.take k)++[bO e,I .u32 (i:Int),bO r,I J d,sL ao m c]):=HT
   clear ht;have hwk:IntKind.i64.wrap ((first:Int)+(k:Int))=((first+k:Nat):Int):=by rw[IntKind.wrap_i64];omega
   have hr0:¬ room=0:=by omega
   have htm:((first+k:Nat):Int).tmod (room:Int)=(Q:Int):=by rw[← hQ];exact (Int.ofNat_tmod _ _).symm
   have htm2:((first:Int)+(k:Int)).tmod (room:Int)=(Q:Int):=htm
   have hQr:Q<room:=by rw[← hQ];exact Nat.mod_lt _ (by omega)
   clear hQ;go_wp2_with fail;refine wp_region_held (S:=fun W=>Below w.heap.size w W) (by kernel_rfl) ?_
   have hS:Below w.heap.size w wr.drew:=HB.out.drew
   have HO1:Hid (wr.drew.ownsRow w.heap.size 67 5 u5 k (c5 (bs.take k))):=HO.out.drew
   change wpAnyH Tp _ _ _ _ _ _ _ wr.drew
   generalize wr.drew=w1 at *;refine wV 0 u5 ?_ hS ?_
   ·intro W hSw;clear hS;go_simp
   simp only[Act.put,aA,aB,aC,aD,aE]
   refine wV 1 (pT (some ⟨P,o,none⟩)) ?_ hS ?_
   ·intro W hSw;clear hS;go_simp
   simp only[aZ];refine wV 2 (pT (some ⟨P,o,none⟩)) ?_ hS ?_
   ·intro W hSw;clear hS;go_simp
   simp only[aZ];refine wV 3 (pT (some ⟨P,o,none⟩)) ?_ hS ?_
   ·intro W hSw;clear hS;go_simp
   simp only[aZ];refine wV 4 (sL (some ⟨gs,0,none⟩) room room) ?_ hS ?_
   ·intro W hSw;have hc:=(HY.out W hSw).1
    clear hS;go_simp
   simp only[aZ];refine wV 5 (pT (some ⟨P,o,none⟩)) ?_ hS ?_
   ·intro W hSw;clear hS;go_simp
   simp only[aZ];refine wV 6 (pT (some ⟨P,o,none⟩)) ?_ hS ?_
   ·intro W hSw;clear hS;go_simp
   simp only[aZ];refine wV 7 (pT (some ⟨P,o+1,none⟩)) ?_ hS ?_
   ·intro W hSw;clear hS;go_simp
   simp only[aZ];refine wV 8 (I J (first:Int)) ?_ hS ?_
   ·intro W hSw;have hc:=(HY.out W hSw).2
    clear hS;go_simp
   simp only[aZ];refine wV 9 (I J (k:Int)) ?_ hS ?_
   ·intro W hSw;clear hS;go_simp
   simp only[aZ];refine wV 10 (I J ((first+k:Nat):Int)) ?_ hS ?_
   ·intro W hSw;clear hS;go_simp
   simp only[aZ];refine wV 11 (pT (some ⟨P,o,none⟩)) ?_ hS ?_
   ·intro W hSw;clear hS;go_simp
   simp only[aZ];refine wV 12 (pT (some ⟨P,o,none⟩)) ?_ hS ?_
   ·intro W hSw;clear hS;go_simp
   simp only[aZ];refine wV 13 (pT (some ⟨P,o,none⟩)) ?_ hS ?_
   ·intro W hSw;clear hS;go_simp
   simp only[aZ];refine wV 14 (sL (some ⟨gs,0,none⟩) room room) ?_ hS ?_
   ·intro W hSw;have hc:=(HY.out W hSw).1
    clear hS;go_simp
   simp only[aZ];refine wV 15 (I J (room:Int)) ?_ hS ?_
   ·intro W hSw;clear hS;go_simp
   simp only[aZ];refine wV 16 (I J (Q:Int)) ?_ hS ?_
   ·intro W hSw;clear hS;go_simp
   simp only[aZ];refine wV 17 (pT (some ⟨gs,Q*5,none⟩)) ?_ hS ?_
   ·intro W hSw;clear hS;go_simp
   simp only[aZ];refine wU 18 (.agg [bO e,I .u32 (i:Int),bO r,I J d,sL ao m c].toArray) rfl (yieldsIf_load_mid (by rfl) 67 (.tmp 34) rfl gs (Q*5) rfl [bO e,I .u32 (i:Int),bO r,I J d,sL ao m c] _ (fun W h=>HRG.out W h) Tryz.underlying67 rfl sz93) hS ?_
   simp only[aZ];refine wpAnyH_all (rs:=[19]) (by kernel_rfl) (by simp) ?_
   refine AllReadyH.cons rfl (fun K hK=>?_) AllReadyH.nil
   go_simp;have hg:=heap_alloc_new w1 (.cells #[bO e,I .u32 (i:Int),bO r,I J d,sL ao m c] 67)
   have hS1:Below w.heap.size w (w1.alloc (.cells #[bO e,I .u32 (i:Int),bO r,I J d,sL ao m c] 67)):=hS.alloc hS.size _
   have HO2:Hid ((w1.alloc (.cells #[bO e,I .u32 (i:Int),bO r,I J d,sL ao m c] 67)).ownsRow w.heap.size 67 5 u5 k (c5 (bs.take k))):=World.ownsRow.alloc HO1.out _
   generalize (w1.alloc (.cells #[bO e,I .u32 (i:Int),bO r,I J d,sL ao m c] 67))=w2 at *;refine hK.out _ w2 hS1 (fun hS2=>?_)
   clear hS hK K hS1;have hS:=hS2
   clear hS2;refine wpAnyH_all (rs:=[20]) (by kernel_rfl) (by simp) ?_
   refine AllReadyH.cons rfl (fun K hK=>?_) AllReadyH.nil
   rw[if_pos (by rfl)]
   refine wp_app5 (.tmp 17) (.tmp 36) rfl w.heap.size k u5 (c5 (bs.take k)) rfl HO2.out w1.heap.size [bO e,I .u32 (i:Int),bO r,I J d,sL ao m c] rfl rfl hg (by simp[Value.oneCell']) (by omega) hS.size ?_
   intro v' w3 ho3 hg3;have HO3:Hid (w3.ownsRow w.heap.size 67 5 v' (k+1) (c5 (bs.take (k+1)))):=by show World.ownsRow _ _ _ _ _ _ _;rw[HT.out];exact ho3
   have hS3:Below w.heap.size w w3:=hS.grown hg3 hS.size (fun q hq=>(World.ownsRow.lt HO2.out q hq).1)
   have HB3:Hid (Below w.heap.size w w3):=hS3
   refine hK.out _ w3 hS3 (fun hS2=>?_)
   clear hS hK K hS3 hg3 ho3 hg;have hS:=hS2
   clear hS2;simp only[aZ];refine wV 21 v' ?_ hS ?_
   ·intro W hSw;clear hS;go_simp
   simp only[aZ];refine wpAnyH_done (by kernel_rfl) ?_ _
   clear hS;go_wp2_with fail;go_roundw
   case rel=>exact⟨k+1,by omega,by go_num,HO3.out,HB3.out⟩
   case measure=>simp[intOf];omega
  ·have hkn:k=n:=by omega
   subst hkn;have HF:Hid (wr.ownsRow w.heap.size 67 5 u5 k (c5 bs)):=by
    have:=HO.out
    rw[List.take_of_length_le (by have:=HN.out;omega)] at this
    exact this
   go_wp2
   go_ret;exact⟨u5,bs,rfl,HM.out,fun j hj=>(HBS.out j hj).2,HF.out,HB.out⟩
theorem look5_any (w0 w:World) (P o gs room first:Nat) (L:List R5) (y0:w.cell? ⟨P,o,none⟩=some (sL (some ⟨gs,0,none⟩) room room)) (y1:w.cell? ⟨P,o+1,none⟩=some (I J (first:Int))) (y2:w.cell? ⟨P,o+2,none⟩=some (I J (L.length:Int))) (hr:ring5 w0 w gs room first L) (hfi:first<room) (h1:1≤room∧room≤1000) (hL:L.length≤room) :
  Calls Tp 179 #[pT (some ⟨P,o,none⟩),I J (L.length:Int)] w fun e w'=>∃ (v:Value) (bs:List X5),e = rT v∧bs.map (·.1)=L∧(∀ j (hj:j<bs.length),isBytes w0 bs[j].2.1 bs[j].2.2.1 bs[j].2.2.2 bs[j].1.l)∧w'.ownsRow w.heap.size 67 5 v L.length (c5 bs)∧Below w.heap.size w w':=look5_of w0 w P o gs room first L L.length L.length (Nat.min_self _) y0 y1 y2 hr hfi h1 hL
theorem rowsR8 {w0 w:World} {gs room first:Nat} {L:List R8} (h:ring8 w0 w gs room first L):∃ bs:List X8,bs.map (·.1)=L∧∀ j (hj:j<bs.length),w.rangeAt gs ((first+j) % room*8) (x8 bs[j])∧isBytes w0 bs[j].2.1 bs[j].2.2.1 bs[j].2.2.2 bs[j].1.l:=by
 have key:∀ (M:List R8) (f:Nat),(∀ j (hj:j<M.length),∃ ao m c,w.rangeAt gs ((f+j) % room*8) (f8 M[j] ao m c)∧isBytes w0 ao m c M[j].l)→∃ bs:List X8,bs.map (·.1)=M∧∀ j (hj:j<bs.length),w.rangeAt gs ((f+j) % room*8) (x8 bs[j])∧isBytes w0 bs[j].2.1 bs[j].2.2.1 bs[j].2.2.2 bs[j].1.l:=by
  intro M;induction M with
  | nil=>intro f _;exact⟨[],rfl,fun j hj=>absurd hj (Nat.not_lt_zero _)⟩
  | cons b M ih=>
   intro f hM;obtain⟨ao,m,c,h0⟩:=hM 0 (by simp)
   obtain⟨bs,hm,hs⟩:=ih (f+1) (fun j hj=>by
    have:=hM (j+1) (by simpa using hj)
    have e:f+(j+1)=f+1+j:=by omega
    rw[e] at this
    simpa using this)
   refine⟨(b,ao,m,c) :: bs,by simp[hm],fun j hj=>?_⟩
   cases j with
   | zero=>exact h0
   | succ j=>
    have:=hs j (by simpa using hj)
    have e:f+(j+1)=f+1+j:=by omega
    rw[e]
    exact this
 exact key L first h
theorem c8_take (bs:List X8) (k:Nat) (h:k<bs.length):c8 (bs.take (k+1))=c8 (bs.take k)++x8 bs[k]:=by
 unfold c8
 rw[List.take_succ_eq_append_getElem h,List.flatMap_append]
 simp
theorem wp_app8 {o:Oper} {a:Act} {K:Act→World→Prop} {Q:Exit→Act→World→Prop} {w:World} (s x:Operand)
  (ho:o.op = .call { callee:=.builtin .append,args:=#[s,x],argTypes:=#[39,39] })
  (B n:Nat) (v:Value) (xs:List Value) (hs:a.eval s=v) (hown:w.ownsRow B 173 8 v n xs) (b:Nat) (news:List Value) (hx:a.eval x = sL (some ⟨b,0,none⟩) 1 1) (hl:news.length=8) (hb:w.heap[b]?=some (.cells news.toArray 173)) (h1:∀ u ∈ news,u.oneCell'=true) (hn:n≤100000) (hB:B≤w.heap.size)
  (h:∀ v' w',w'.ownsRow B 173 8 v' (n+1) (xs++news)→w.grownBy w' v.ownBlock→K (a.put o.dst v') w') :
  o.wp Tp a w K Q:=by
 obtain⟨i0,hi,hz0,hz1,hz2⟩:=info_parts Tryz.info173
 obtain⟨v',w',hr,h2,h3,h4,h5⟩:=run_append_own_at (P:=Tp) w B 39 o.type 173 i0 _ 8 72 Tryz.underlying39 hi hz0 hz1 hz2 rfl (by decide) v n xs hown ⟨b,0,none⟩ 1 1 news (by rw[hl]) (by
  intro j u hj;have:=range_block hb j u hj
  rw[Addr.add_lit]
  exact this) h1 (by unfold maxLen;omega) (by omega) hB
 unfold Oper.wp execOp
 simp only[ho,resolve,invoke,builtin,Sem.run_bind,Sem.run_pure,Result.andThen_ok,List.map_toArray,List.map_cons,List.map_nil,hs,hx,hr]
 exact h v' w' h2 h3
set_option maxRecDepth 20000 in
theorem look8_of (w0 w:World) (P o gs room first:Nat) (L:List R8) (cnt ask:Nat) (hmn:min ask cnt=L.length) (y0:w.cell? ⟨P,o,none⟩=some (sL (some ⟨gs,0,none⟩) room room)) (y1:w.cell? ⟨P,o+1,none⟩=some (I J (first:Int))) (y2:w.cell? ⟨P,o+2,none⟩=some (I J (cnt:Int))) (hr:ring8 w0 w gs room first L) (hfi:first<room) (h1:1≤room∧room≤1000) (hL:L.length≤room) :
  Calls Tp 180 #[pT (some ⟨P,o,none⟩),I J (ask:Int)] w fun e w'=>∃ (v:Value) (bs:List X8),e = rT v∧bs.map (·.1)=L∧(∀ j (hj:j<bs.length),isBytes w0 bs[j].2.1 bs[j].2.2.1 bs[j].2.2.2 bs[j].1.l)∧w'.ownsRow w.heap.size 173 8 v L.length (c8 bs)∧Below w.heap.size w w':=by
 have hmax:max (ask:Int) 0=(ask:Int):=by omega
 have hmin:min (ask:Int) (cnt:Int)=(L.length:Int):=by omega
 obtain⟨bs,hm,hbs⟩:=rowsR8 hr
 have HBS:Hid (∀ j (hj:j<bs.length),w.rangeAt gs ((first+j) % room*8) (x8 bs[j])∧isBytes w0 bs[j].2.1 bs[j].2.2.1 bs[j].2.2.2 bs[j].1.l):=hbs
 have HM:Hid (bs.map (·.1)=L):=hm
 have HN:Hid (L.length=bs.length):=by show _=_;rw[← hm];simp
 have HY:Hid (∀ W,Below w.heap.size w W→W.cell? ⟨P,o,none⟩=some (sL (some ⟨gs,0,none⟩) room room)∧W.cell? ⟨P,o+1,none⟩=some (I J (first:Int))):=fun W hW=>⟨(hW.cell (by exact World.block_lt_of_cell? w _ y0)).trans y0,(hW.cell (by exact World.block_lt_of_cell? w _ y1)).trans y1⟩
 have HRR:Hid (L.length≤room∧1≤room∧room≤1000):=⟨hL,h1⟩
 clear hr hm hbs;generalize L.length=n at *;go_enter Tryz.func180,Tryz.ntmps180
 go_wp2_with fail;clear y0 y1 y2;go_loopw [5,14] (fun out i wr=>∃ k:Nat,k≤n∧i = I J (k:Int)∧wr.ownsRow w.heap.size 173 8 out k (c8 (bs.take k))∧Below w.heap.size w wr) (fun _ i _=>n-(intOf i).toNat)
 case atStart=>exact⟨0,Nat.zero_le _,rfl,World.ownsRow_nil w _ 173 8,Below.refl _ _⟩
 case round=>
  obtain⟨k,hk,rfl,hO,hB⟩:=hrel
  have HO:Hid (wr.ownsRow w.heap.size 173 8 u5 k (c8 (bs.take k))):=hO
  have HB:Hid (Below w.heap.size w wr):=hB
  clear hO hB;by_cases hlt:k<n
  ·have hkl:k<bs.length:=by have:=HN.out;omega
   have hkr:k<room:=by omega
   have HT:=c8_take bs k hkl
   have HRG:∀ W,Below w.heap.size w W→W.rangeAt gs ((first+k) % room*8) (x8 bs[k]):=fun W hW=>range_below (HBS.out k hkl).1 hW (World.block_lt_of_cell? w _ ((HBS.out k hkl).1 0 _ rfl))
   obtain⟨Q,hQ⟩ : ∃ Q,(first+k) % room=Q:=⟨_,rfl⟩
   rw[hQ] at HRG
   obtain⟨t,ht⟩ : ∃ t,bs[k]=t:=⟨_,rfl⟩
   rw[ht] at HT HRG
   obtain⟨⟨x,y,z,e,i,r,d,l⟩,ao,m,c⟩:=t
   have HRG:Hid (∀ W,Below w.heap.size w W→W.rangeAt gs (Q*8) [I J x,I J y,I J z,bO e,I .u32 (i:Int),bO r,I J d,sL ao m c]):=HRG
   have HT:Hid (c8 (bs.take (k+1))=c8 (bs.take k)++[I J x,I J y,I J z,bO e,I .u32 (i:Int),bO r,I J d,sL ao m c]):=HT
   clear ht;have hwk:IntKind.i64.wrap ((first:Int)+(k:Int))=((first+k:Nat):Int):=by rw[IntKind.wrap_i64];omega
   have hr0:¬ room=0:=by omega
   have htm:((first+k:Nat):Int).tmod (room:Int)=(Q:Int):=by rw[← hQ];exact (Int.ofNat_tmod _ _).symm
   have htm2:((first:Int)+(k:Int)).tmod (room:Int)=(Q:Int):=htm
   have hQr:Q<room:=by rw[← hQ];exact Nat.mod_lt _ (by omega)
   clear hQ;go_wp2_with fail;refine wp_region_held (S:=fun W=>Below w.heap.size w W) (by kernel_rfl) ?_
   have hS:Below w.heap.size w wr.drew:=HB.out.drew
   have HO1:Hid (wr.drew.ownsRow w.heap.size 173 8 u5 k (c8 (bs.take k))):=HO.out.drew
   change wpAnyH Tp _ _ _ _ _ _ _ wr.drew
   generalize wr.drew=w1 at *;refine wV 0 u5 ?_ hS ?_
   ·intro W hSw;clear hS;go_simp
   simp only[Act.put,aA,aB,aC,aD,aE]
   refine wV 1 (pT (some ⟨P,o,none⟩)) ?_ hS ?_
   ·intro W hSw;clear hS;go_simp
   simp only[aZ];refine wV 2 (pT (some ⟨P,o,none⟩)) ?_ hS ?_
   ·intro W hSw;clear hS;go_simp
   simp only[aZ];refine wV 3 (pT (some ⟨P,o,none⟩)) ?_ hS ?_
   ·intro W hSw;clear hS;go_simp
   simp only[aZ];refine wV 4 (sL (some ⟨gs,0,none⟩) room room) ?_ hS ?_
   ·intro W hSw;have hc:=(HY.out W hSw).1
    clear hS;go_simp
   simp only[aZ];refine wV 5 (pT (some ⟨P,o,none⟩)) ?_ hS ?_
   ·intro W hSw;clear hS;go_simp
   simp only[aZ];refine wV 6 (pT (some ⟨P,o,none⟩)) ?_ hS ?_
   ·intro W hSw;clear hS;go_simp
   simp only[aZ];refine wV 7 (pT (some ⟨P,o+1,none⟩)) ?_ hS ?_
   ·intro W hSw;clear hS;go_simp
   simp only[aZ];refine wV 8 (I J (first:Int)) ?_ hS ?_
   ·intro W hSw;have hc:=(HY.out W hSw).2
    clear hS;go_simp
   simp only[aZ];refine wV 9 (I J (k:Int)) ?_ hS ?_
   ·intro W hSw;clear hS;go_simp
   simp only[aZ];refine wV 10 (I J ((first+k:Nat):Int)) ?_ hS ?_
   ·intro W hSw;clear hS;go_simp
   simp only[aZ];refine wV 11 (pT (some ⟨P,o,none⟩)) ?_ hS ?_
   ·intro W hSw;clear hS;go_simp
   simp only[aZ];refine wV 12 (pT (some ⟨P,o,none⟩)) ?_ hS ?_
   ·intro W hSw;clear hS;go_simp
   simp only[aZ];refine wV 13 (pT (some ⟨P,o,none⟩)) ?_ hS ?_
   ·intro W hSw;clear hS;go_simp
   simp only[aZ];refine wV 14 (sL (some ⟨gs,0,none⟩) room room) ?_ hS ?_
   ·intro W hSw;have hc:=(HY.out W hSw).1
    clear hS;go_simp
   simp only[aZ];refine wV 15 (I J (room:Int)) ?_ hS ?_
   ·intro W hSw;clear hS;go_simp
   simp only[aZ];refine wV 16 (I J (Q:Int)) ?_ hS ?_
   ·intro W hSw;clear hS;go_simp
   simp only[aZ];refine wV 17 (pT (some ⟨gs,Q*8,none⟩)) ?_ hS ?_
   ·intro W hSw;clear hS;go_simp
   simp only[aZ];refine wU 18 (.agg [I J x,I J y,I J z,bO e,I .u32 (i:Int),bO r,I J d,sL ao m c].toArray) rfl (yieldsIf_load_mid (by rfl) 173 (.tmp 34) rfl gs (Q*8) rfl [I J x,I J y,I J z,bO e,I .u32 (i:Int),bO r,I J d,sL ao m c] _ (fun W h=>HRG.out W h) Tryz.underlying173 rfl sz129) hS ?_
   simp only[aZ];refine wpAnyH_all (rs:=[19]) (by kernel_rfl) (by simp) ?_
   refine AllReadyH.cons rfl (fun K hK=>?_) AllReadyH.nil
   go_simp;have hg:=heap_alloc_new w1 (.cells #[I J x,I J y,I J z,bO e,I .u32 (i:Int),bO r,I J d,sL ao m c] 173)
   have hS1:Below w.heap.size w (w1.alloc (.cells #[I J x,I J y,I J z,bO e,I .u32 (i:Int),bO r,I J d,sL ao m c] 173)):=hS.alloc hS.size _
   have HO2:Hid ((w1.alloc (.cells #[I J x,I J y,I J z,bO e,I .u32 (i:Int),bO r,I J d,sL ao m c] 173)).ownsRow w.heap.size 173 8 u5 k (c8 (bs.take k))):=World.ownsRow.alloc HO1.out _
   generalize (w1.alloc (.cells #[I J x,I J y,I J z,bO e,I .u32 (i:Int),bO r,I J d,sL ao m c] 173))=w2 at *;refine hK.out _ w2 hS1 (fun hS2=>?_)
   clear hS hK K hS1;have hS:=hS2
   clear hS2;refine wpAnyH_all (rs:=[20]) (by kernel_rfl) (by simp) ?_
   refine AllReadyH.cons rfl (fun K hK=>?_) AllReadyH.nil
   rw[if_pos (by rfl)]
   refine wp_app8 (.tmp 17) (.tmp 36) rfl w.heap.size k u5 (c8 (bs.take k)) rfl HO2.out w1.heap.size [I J x,I J y,I J z,bO e,I .u32 (i:Int),bO r,I J d,sL ao m c] rfl rfl hg (by simp[Value.oneCell']) (by omega) hS.size ?_
   intro v' w3 ho3 hg3;have HO3:Hid (w3.ownsRow w.heap.size 173 8 v' (k+1) (c8 (bs.take (k+1)))):=by show World.ownsRow _ _ _ _ _ _ _;rw[HT.out];exact ho3
   have hS3:Below w.heap.size w w3:=hS.grown hg3 hS.size (fun q hq=>(World.ownsRow.lt HO2.out q hq).1)
   have HB3:Hid (Below w.heap.size w w3):=hS3
   refine hK.out _ w3 hS3 (fun hS2=>?_)
   clear hS hK K hS3 hg3 ho3 hg;have hS:=hS2
   clear hS2;simp only[aZ];refine wV 21 v' ?_ hS ?_
   ·intro W hSw;clear hS;go_simp
   simp only[aZ];refine wpAnyH_done (by kernel_rfl) ?_ _
   clear hS;go_wp2_with fail;go_roundw
   case rel=>exact⟨k+1,by omega,by go_num,HO3.out,HB3.out⟩
   case measure=>simp[intOf];omega
  ·have hkn:k=n:=by omega
   subst hkn;have HF:Hid (wr.ownsRow w.heap.size 173 8 u5 k (c8 bs)):=by
    have:=HO.out
    rw[List.take_of_length_le (by have:=HN.out;omega)] at this
    exact this
   go_wp2
   go_ret;exact⟨u5,bs,rfl,HM.out,fun j hj=>(HBS.out j hj).2,HF.out,HB.out⟩
theorem look8_any (w0 w:World) (P o gs room first:Nat) (L:List R8) (y0:w.cell? ⟨P,o,none⟩=some (sL (some ⟨gs,0,none⟩) room room)) (y1:w.cell? ⟨P,o+1,none⟩=some (I J (first:Int))) (y2:w.cell? ⟨P,o+2,none⟩=some (I J (L.length:Int))) (hr:ring8 w0 w gs room first L) (hfi:first<room) (h1:1≤room∧room≤1000) (hL:L.length≤room) :
  Calls Tp 180 #[pT (some ⟨P,o,none⟩),I J (L.length:Int)] w fun e w'=>∃ (v:Value) (bs:List X8),e = rT v∧bs.map (·.1)=L∧(∀ j (hj:j<bs.length),isBytes w0 bs[j].2.1 bs[j].2.2.1 bs[j].2.2.2 bs[j].1.l)∧w'.ownsRow w.heap.size 173 8 v L.length (c8 bs)∧Below w.heap.size w w':=look8_of w0 w P o gs room first L L.length L.length (Nat.min_self _) y0 y1 y2 hr hfi h1 hL
def ownA (B:Nat) (a:Option Addr) (n:Nat) (W:World):Prop:=(a=none∧n=0)∨∃ b,a=some ⟨b,0,none⟩∧B≤b∧b<W.heap.size∧rowF W b n
theorem cloneB_any (W:World) (a:Option Addr) (n cap:Nat) (l:List Nat) (h:isBytes W a n cap l) (hn:n≤1048576) :
  Calls Tp 205 #[sL a n cap] W fun e w'=>∃ a' c',e = rT (sL a' n c')∧ownA W.heap.size a' n w'∧(∀ W',(∀ b,a'=some ⟨b,0,none⟩→W'.heap[b]?=w'.heap[b]?)→isBytes W' a' n c' l)∧Below W.heap.size W w':=by
 have hlen:=h.len
 cases a with
 | none=>
  have hl:l=[]:=by
   rcases Classical.em (l=[]) with e|e
   ·exact e
   ·obtain⟨g,off,e1,_⟩:=h.cells e;cases e1
  subst hl;have hn0:n=0:=hlen
  subst hn0;refine (Tryz.bytes_Clone_nil 0 cap W).mono ?_
  rintro e w' ⟨rfl,rfl⟩;exact⟨none,0,rfl,Or.inl ⟨rfl,rfl⟩,fun W' _=>⟨rfl,Nat.le_refl _,fun x hx=>(by cases hx),fun hne=>absurd rfl hne⟩,Below.refl _ _⟩
 | some ad=>
  have hc:∀ i,i<n→W.cell? (ad.add i)=some (I .u8 ((l.map (fun x:Nat=>(x:Int))).getD i 0)):=by
   intro i hi;obtain⟨g,off,e1,hc⟩:=h.cells (by intro e;subst e;rw[hlen] at hi;cases hi)
   cases e1
   have hil:i<l.length:=by omega
   rw[Addr.add_lit]
   simp[List.getD,hc i hil,List.getElem?_eq_getElem hil]
  refine (Tryz.bytes_Clone_at ad n cap (l.map (fun x:Nat=>(x:Int))) W (by simp[hlen]) (by omega) hc).mono ?_
  rintro e w' ⟨v',rfl,ho,hv,hbw⟩;rcases ho.2 with⟨e,_⟩|⟨g',cap',cur,hv',hb,hg,hcp,hmx,hsz,htk⟩
  ·exact absurd e hv
  ·have hB:∀ W':World,(∀ b,(some ⟨g',0,none⟩ : Option Addr)=some ⟨b,0,none⟩→W'.heap[b]?=w'.heap[b]?)→isBytes W' (some ⟨g',0,none⟩) n cap' l:=fun W' hW=>⟨hlen,hcp,h.small,fun hne=>⟨g',0,rfl,fun j hj=>by
    have e:W'.heap[g']?=some (.cells cur 5 (0,0)):=(hW g' rfl).trans hg
    have hj':j<n*1:=by omega
    have e2:cur[j]?=some (I .u8 (l[j]:Int)):=by
     rw[← Array.getElem?_toList,← List.getElem?_take_of_lt hj',htk]
     simp[hj]
    rw[Nat.zero_add]
    simp[World.cell?,e,e2]⟩⟩
   refine⟨some ⟨g',0,none⟩,cap',by rw[hv'],Or.inr ⟨g',rfl,hb,lt_of_some hg,fun t ht=>⟨?_,?_⟩⟩,hB,hbw⟩
   ·obtain⟨g2,o2,e2,hc2⟩:=(hB w' (fun _ _=>rfl)).cells (by intro e;subst e;simp at hlen;omega)
    cases e2
    have:=hc2 t (by omega)
    rw[Nat.zero_add] at this
    exact⟨_,this⟩
   ·subst hv';exact World.ownsRow.frozenAt ho t
set_option maxRecDepth 20000 in
theorem ownData_any (W:World) (g o:Nat) (a:Option Addr) (n cap:Nat) (l:List Nat) (y:W.cell? ⟨g,o+4,none⟩=some (sL a n cap)) (hf:W.frozen? ⟨g,o+4,none⟩=false) (h:isBytes W a n cap l) (hn:n≤1048576) :
  Calls Tp 181 #[pT (some ⟨g,o,none⟩)] W fun e w'=>∃ a' c' w1,e = rT (.tuple #[])∧w'=w1.setCell ⟨g,o+4,none⟩ (sL a' n c')∧ownA W.heap.size a' n w1∧(∀ W',(∀ b,a'=some ⟨b,0,none⟩→W'.heap[b]?=w1.heap[b]?)→isBytes W' a' n c' l)∧Below W.heap.size W w1:=by
 have HC:Hid (Calls Tp 205 #[sL a n cap] W fun e w'=>∃ a' c',e = rT (sL a' n c')∧ownA W.heap.size a' n w'∧(∀ W',(∀ b,a'=some ⟨b,0,none⟩→W'.heap[b]?=w'.heap[b]?)→isBytes W' a' n c' l)∧Below W.heap.size W w'):=cloneB_any W a n cap l h hn
 have hg:g<W.heap.size:=World.block_lt_of_cell? W _ y
 clear h;go_enter Tryz.func181,Tryz.ntmps181
 go_wp2_with (first
  | (go_at_call 205;refine (Calls.mono HC.out) ?_;rintro e w1 ⟨a',c',rfl,q1,q2,b1⟩;have HQ:Hid (ownA W.heap.size a' n w1∧(∀ W',(∀ b,a'=some ⟨b,0,none⟩→W'.heap[b]?=w1.heap[b]?)→isBytes W' a' n c' l)∧Below W.heap.size W w1):=⟨q1,q2,b1⟩;have y1:w1.cell? ⟨g,o+4,none⟩=some (sL a n cap):=(b1.cell (by exact hg)).trans y;have f1:w1.frozen? ⟨g,o+4,none⟩=false:=(World.frozen?_of_block (b1.block g hg)).trans hf;clear q1 q2 b1 y hf))
 first | go_end0 | (try simp only[Exit.inBlock,Exit.then]);refine bodyPost_ret (results_none rfl _ _ _) rfl ?_
 exact⟨a',c',w1,rfl,rfl,HQ.out.1,HQ.out.2.1,HQ.out.2.2⟩
structure dr3 (b0:World) (g n:Nat) (fs:List R3) (W:World):Prop where
 len:n=fs.length
 row:rowF W g (n*3)
 at_:∀ j (h:j<fs.length),at3 W g (j*3) fs[j]
 lo:b0.heap.size≤g
 hi:g<W.heap.size
 m:n≤1048576
theorem dr3.same {b0 W W':World} {g n:Nat} {fs:List R3} (h:dr3 b0 g n fs W) (he:W'.heap[g]?=W.heap[g]?) (hz:W.heap.size≤W'.heap.size):dr3 b0 g n fs W':=
 ⟨h.len,h.row.up he,fun j hj=>(h.at_ j hj).up he,h.lo,Nat.lt_of_lt_of_le h.hi hz,h.m⟩
theorem dr3.below {b0 W W':World} {g n:Nat} {fs:List R3} (h:dr3 b0 g n fs W) (hb:Below W.heap.size W W'):dr3 b0 g n fs W':=h.same (hb.block _ h.hi) hb.size
theorem clone3_dr (w:World) (b0:World) (g n cap:Nat) (bs:List R3) (h:isR3s w (some ⟨g,0,none⟩) n cap bs) (hn:n≤1048576) (hb0:b0.heap.size≤w.heap.size) :
  Calls Tp 155 #[sL (some ⟨g,0,none⟩) n cap] w fun e w'=>∃ g' cap',e = rT (sL (some ⟨g',0,none⟩) n cap')∧w.heap.size≤g'∧n≤cap'∧dr3 b0 g' n bs w'∧Below w.heap.size w w':=by
 refine (clone_any w g n cap bs h hn).mono ?_
 rintro e w' ⟨v',rfl,ho,hv,hbw⟩;rcases ownsRow_split ho with⟨e,_⟩|⟨g',cap',rfl,hb,hlt,hcp,hrf,hrg⟩
 ·exact absurd e hv
 ·refine⟨g',cap',rfl,hb,hcp,⟨h.len,hrf,fun j hj=>?_,by omega,hlt,hn⟩,hbw⟩
  obtain⟨y0,y1,y2⟩:=c3_at bs j hj
  have q:=fun t u hu=>hrg t u hu
  simp only[Nat.zero_add] at q
  exact⟨q _ _ y0,q _ _ y1,q _ _ y2⟩
theorem c5_at (bs:List X5):∀ j (h:j<bs.length) t,t<5→(c5 bs)[j*5+t]?=(x5 bs[j])[t]?:=by
 induction bs with
 | nil=>intro j h;exact absurd h (Nat.not_lt_zero _)
 | cons b bs ih=>
  intro j h t ht;cases j with
  | zero=>
   simp only[c5,List.flatMap_cons,Nat.zero_mul,Nat.zero_add]
   rw[List.getElem?_append_left (by simpa[x5,f5] using ht)]
   rfl
  | succ j=>
   have e:(j+1)*5+t=5+(j*5+t):=by omega
   rw[e]
   simp only[c5,List.flatMap_cons]
   rw[List.getElem?_append_right (by simp[x5,f5])]
   have:=ih j (by simpa using h) t ht
   simp only[c5] at this
   simpa[x5,f5] using this
theorem dr8.step {b0 W w1:World} {U g n:Nat} {bx:List R8} {hs:Nat→Hd} {k:Nat} (h:dr8 b0 U g n bx hs k W) (hk:k<bx.length) (hU:U≤W.heap.size) (hgU:g<U) (a':Option Addr) (c':Nat) (ho:ownA W.heap.size a' (hs k).2.1 w1) (hi:∀ W',(∀ b,a'=some ⟨b,0,none⟩→W'.heap[b]?=w1.heap[b]?)→isBytes W' a' (hs k).2.1 c' bx[k].l) (hb:Below W.heap.size W w1):∃ hs',dr8 b0 U g n bx hs' (k+1) (w1.setCell ⟨g,k*8+7,none⟩ (sL a' (hs k).2.1 c')):=by
 have h1:=h.below hb
 have hln:=h.len
 have oth:∀ x,x≠g→(w1.setCell ⟨g,k*8+7,none⟩ (sL a' (hs k).2.1 c')).heap[x]?=w1.heap[x]?:=fun x hx=>heap_setCell_other w1 ⟨g,k*8+7,none⟩ x _ hx
 have hsz:(w1.setCell ⟨g,k*8+7,none⟩ (sL a' (hs k).2.1 c')).heap.size=w1.heap.size:=by simp
 have hbelow:Below b0.heap.size b0 (w1.setCell ⟨g,k*8+7,none⟩ (sL a' (hs k).2.1 c')):=h1.bel.setCell (by exact h1.lo) _
 refine⟨fun j=>if j=k then (a',(hs k).2.1,c') else hs j,h.len,h1.row.setCell _ _,fun j hj=>?_,fun j hj hkj=>?_,fun j hj hkj=>?_,?_,h.lo,by rw[hsz];exact h1.hi,hbelow,h.sm⟩
 ·intro t u hu;have ht:t<8:=by have:=(List.getElem?_eq_some_iff.mp hu).1;simpa[x8] using this
  by_cases e:j=k
  ·subst e;rw[if_pos rfl] at hu
   by_cases e7:t=7
   ·subst e7;have e8:u = sL a' (hs j).2.1 c':=by simpa[x8] using hu.symm
    rw[e8]
    exact World.cell?_setCell_same _ _ _ (h1.rng j hj 7 _ rfl)
   ·rw[World.cell?_setCell_other _ _ _ _ (by intro hh;simp at hh <;> omega)]
    refine h1.rng j hj t u ?_
    rw[← hu]
    have:t=0∨t=1∨t=2∨t=3∨t=4∨t=5∨t=6:=by omega
    rcases this with rfl | rfl | rfl | rfl | rfl | rfl | rfl <;> rfl
  ·rw[if_neg e] at hu
   rw[World.cell?_setCell_other _ _ _ _ (by intro hh;simp at hh <;> omega)]
   exact h1.rng j hj t u hu
 ·rw[if_neg (by omega)]
  exact h.old j hj (by omega)
 ·by_cases e:j=k
  ·subst e;rw[if_pos rfl]
   have hag:∀ b,a'=some ⟨b,0,none⟩→b≠g:=by
    intro b hb';rcases ho with⟨e,_⟩|⟨b2,e,h2,_⟩
    ·rw[hb'] at e;cases e
    ·rw[hb'] at e;cases e;omega
   refine⟨hi _ (fun b hb'=>oth b (hag b hb')),?_⟩
   rcases ho with⟨e1,e2⟩|⟨b,e1,e2,e3,e4⟩
   ·exact Or.inl ⟨e1,e2⟩
   ·exact Or.inr ⟨b,e1,by omega,by rw[hsz];exact e3,e4.up (oth b (hag b e1))⟩
  ·rw[if_neg e]
   have hjk:j<k:=by omega
   obtain⟨q1,q2⟩:=h1.new j hj hjk
   rcases q2 with⟨e1,e2⟩|⟨b,e1,e2,e3,e4⟩
   ·refine⟨⟨q1.len,q1.cap,q1.small,fun hne=>?_⟩,Or.inl ⟨e1,e2⟩⟩
    exact absurd (List.length_pos_iff.2 hne) (by have:=q1.len;omega)
   ·have hbg:b≠g:=by omega
    rw[e1] at q1 ⊢
    exact⟨q1.other (oth b hbg),Or.inr ⟨b,rfl,e2,by rw[hsz];exact e3,e4.up (oth b hbg)⟩⟩
 ·intro i j hij hjk b hb';have hik:i<k:=by omega
  simp only[if_neg (show i≠k by omega)] at hb'
  by_cases e:j=k
  ·subst e;simp only[if_true]
   intro hb2;rcases ho with⟨e1,_⟩|⟨b2,e1,e2,_⟩
   ·rw[hb2] at e1;cases e1
   ·rw[hb2] at e1
    cases e1
    rcases (h.new i (by omega) hik).2 with⟨e3,_⟩|⟨b3,e3,_,e5,_⟩
    ·rw[hb'] at e3;cases e3
    ·rw[hb'] at e3;cases e3;omega
  ·simp only[if_neg e]
   exact h.dst i j hij (by omega) b hb'
theorem dr8.sh {b0 W:World} {U g n:Nat} {bx:List R8} {hs:Nat→Hd} (h:dr8 b0 U g n bx hs n W) (hgU:g<U):sh8 W g n hs∧(∀ j,j<n→∀ b,(hs j).1=some ⟨b,0,none⟩→U≤b∧b<W.heap.size):=by
 have hln:=h.len
 refine⟨⟨h.row,fun j hj=>⟨(h.at_ j (by omega)).cs,?_⟩⟩,?_⟩
 ·have q:=h.new j (by omega) hj
  have q1:=q.1.len
  have q2:=h.sm j (by omega)
  refine⟨by omega,q.1.cap,?_⟩
  rcases q.2 with e|⟨b,e1,e2,e3,e4⟩
  ·exact Or.inl e
  ·exact Or.inr ⟨b,e1,by omega,e4⟩
 ·intro j hj b hb;rcases (h.new j (by omega) hj).2 with⟨e,_⟩|⟨b2,e1,e2,e3,e4⟩
  ·rw[hb] at e;cases e
  ·rw[hb] at e1;cases e1;exact⟨e2,e3⟩
structure dr5 (b0:World) (U g n:Nat) (bx:List R5) (hs:Nat→Hd) (k:Nat) (W:World):Prop where
 len:n=bx.length
 row:rowF W g (n*5)
 rng:∀ j (h:j<bx.length),W.rangeAt g (j*5) (x5 (bx[j],hs j))
 old:∀ j (h:j<bx.length),k≤j→isBytes b0 (hs j).1 (hs j).2.1 (hs j).2.2 bx[j].l
 new:∀ j (h:j<bx.length),j<k→isBytes W (hs j).1 (hs j).2.1 (hs j).2.2 bx[j].l∧(((hs j).1=none∧(hs j).2.1=0)∨∃ b,(hs j).1=some ⟨b,0,none⟩∧U≤b∧b<W.heap.size∧rowF W b (hs j).2.1)
 dst:dst hs k
 lo:b0.heap.size≤g
 hi:g<W.heap.size
 bel:Below b0.heap.size b0 W
 sm:∀ j (h:j<bx.length),bx[j].l.length≤1048576
theorem dr5.same {b0 W W':World} {U g n:Nat} {bx:List R5} {hs:Nat→Hd} {k:Nat} (h:dr5 b0 U g n bx hs k W) (he:∀ x,x=g∨U≤x→x<W.heap.size→W'.heap[x]?=W.heap[x]?) (hz:W.heap.size≤W'.heap.size) (hb:Below b0.heap.size b0 W'):dr5 b0 U g n bx hs k W':=
 ⟨h.len,h.row.up (he g (Or.inl rfl) h.hi),fun j hj=>(rangeAt.up (h.rng j hj) (he g (Or.inl rfl) h.hi)),h.old,fun j hj hk=>by
  obtain⟨h1,h2⟩:=h.new j hj hk
  rcases h2 with⟨e1,e2⟩|⟨b,e1,e2,e3,e4⟩
  ·refine⟨⟨h1.len,h1.cap,h1.small,fun hne=>?_⟩,Or.inl ⟨e1,e2⟩⟩
   exact absurd (List.length_pos_iff.2 hne) (by have:=h1.len;omega)
  ·rw[e1] at h1 ⊢
   exact⟨h1.other (he b (Or.inr e2) e3),Or.inr ⟨b,rfl,e2,Nat.lt_of_lt_of_le e3 hz,e4.up (he b (Or.inr e2) e3)⟩⟩,h.dst,h.lo,Nat.lt_of_lt_of_le h.hi hz,hb,h.sm⟩
theorem dr5.below {b0 W W':World} {U g n:Nat} {bx:List R5} {hs:Nat→Hd} {k:Nat} (h:dr5 b0 U g n bx hs k W) (hb:Below W.heap.size W W'):dr5 b0 U g n bx hs k W':=
 h.same (fun x _ hx=>hb.block x hx) hb.size (h.bel.trans (hb.mono h.bel.size))
theorem dr5.start {b0 W:World} {B U g n:Nat} {L:List R5} (bs:List X5) (hm:bs.map (·.1)=L) (hby:∀ j (hj:j<bs.length),isBytes b0 bs[j].2.1 bs[j].2.2.1 bs[j].2.2.2 bs[j].1.l) (hn:n=L.length) (hr:rowF W g (n*5)) (hg:W.rangeAt g 0 (c5 bs)) (hlo:b0.heap.size≤g) (hhi:g<W.heap.size) (hb:Below b0.heap.size b0 W) (hsm:∀ j (h:j<L.length),L[j].l.length≤1048576):dr5 b0 U g n L (fun j=>(bs.getD j (⟨false,0,false,0,[]⟩,none,0,0)).2) 0 W:=by
 subst hm;have hl:(bs.map (·.1)).length=bs.length:=by simp
 refine⟨hn,hr,fun j hj=>?_,fun j hj _=>?_,fun j hj hk=>absurd hk (Nat.not_lt_zero _),fun i j _ hj=>absurd hj (Nat.not_lt_zero _),hlo,hhi,hb,hsm⟩
 ·have hj':j<bs.length:=by omega
  have e:((bs.map (·.1))[j],(bs.getD j (⟨false,0,false,0,[]⟩,none,0,0)).2)=bs[j]:=by simp[List.getD,hj']
  rw[e]
  intro t u hu;have ht:t<5:=by have:=(List.getElem?_eq_some_iff.mp hu).1;simpa[x5,f5] using this
  rw[← c5_at bs j hj' t ht] at hu
  have:=hg _ _ hu
  rw[Nat.zero_add] at this
  exact this
 ·have hj':j<bs.length:=by omega
  have:=hby j hj'
  simpa[List.getD,hj'] using this
theorem dr5.at_ {b0 W:World} {U g n:Nat} {bx:List R5} {hs:Nat→Hd} {k:Nat} (h:dr5 b0 U g n bx hs k W) (j:Nat) (hj:j<bx.length):at5 W g (j*5) bx[j] (hs j).1 (hs j).2.1 (hs j).2.2:=by
 have hr:=h.rng j hj
 refine⟨hr 0 _ rfl,hr 1 _ rfl,hr 2 _ rfl,hr 3 _ rfl,hr 4 _ rfl,?_⟩
 by_cases hk:j<k
 ·exact (h.new j hj hk).1
 ·exact (h.old j hj (by omega)).below h.bel
theorem dr5.is {b0 W:World} {U g n:Nat} {bx:List R5} {hs:Nat→Hd} {k cap:Nat} (h:dr5 b0 U g n bx hs k W) (hc:n≤cap):isR5s W (some ⟨g,0,none⟩) n cap bx:=
 ⟨h.len,hc,fun _=>⟨g,0,rfl,fun j hj=>⟨_,_,_,by rw[Nat.zero_add];exact h.at_ j hj⟩⟩⟩
theorem dr5.step {b0 W w1:World} {U g n:Nat} {bx:List R5} {hs:Nat→Hd} {k:Nat} (h:dr5 b0 U g n bx hs k W) (hk:k<bx.length) (hU:U≤W.heap.size) (hgU:g<U) (a':Option Addr) (c':Nat) (ho:ownA W.heap.size a' (hs k).2.1 w1) (hi:∀ W',(∀ b,a'=some ⟨b,0,none⟩→W'.heap[b]?=w1.heap[b]?)→isBytes W' a' (hs k).2.1 c' bx[k].l) (hb:Below W.heap.size W w1):∃ hs',dr5 b0 U g n bx hs' (k+1) (w1.setCell ⟨g,k*5+4,none⟩ (sL a' (hs k).2.1 c')):=by
 have h1:=h.below hb
 have hln:=h.len
 have oth:∀ x,x≠g→(w1.setCell ⟨g,k*5+4,none⟩ (sL a' (hs k).2.1 c')).heap[x]?=w1.heap[x]?:=fun x hx=>heap_setCell_other w1 ⟨g,k*5+4,none⟩ x _ hx
 have hsz:(w1.setCell ⟨g,k*5+4,none⟩ (sL a' (hs k).2.1 c')).heap.size=w1.heap.size:=by simp
 have hbelow:Below b0.heap.size b0 (w1.setCell ⟨g,k*5+4,none⟩ (sL a' (hs k).2.1 c')):=h1.bel.setCell (by exact h1.lo) _
 refine⟨fun j=>if j=k then (a',(hs k).2.1,c') else hs j,h.len,h1.row.setCell _ _,fun j hj=>?_,fun j hj hkj=>?_,fun j hj hkj=>?_,?_,h.lo,by rw[hsz];exact h1.hi,hbelow,h.sm⟩
 ·intro t u hu;have ht:t<5:=by have:=(List.getElem?_eq_some_iff.mp hu).1;simpa[x5,f5] using this
  by_cases e:j=k
  ·subst e;rw[if_pos rfl] at hu
   by_cases e7:t=4
   ·subst e7;have e8:u = sL a' (hs j).2.1 c':=by simpa[x5,f5] using hu.symm
    rw[e8]
    exact World.cell?_setCell_same _ _ _ (h1.rng j hj 4 _ rfl)
   ·rw[World.cell?_setCell_other _ _ _ _ (by intro hh;simp at hh <;> omega)]
    refine h1.rng j hj t u ?_
    rw[← hu]
    have:t=0∨t=1∨t=2∨t=3:=by omega
    rcases this with rfl | rfl | rfl | rfl <;> rfl
  ·rw[if_neg e] at hu
   rw[World.cell?_setCell_other _ _ _ _ (by intro hh;simp at hh <;> omega)]
   exact h1.rng j hj t u hu
 ·rw[if_neg (by omega)]
  exact h.old j hj (by omega)
 ·by_cases e:j=k
  ·subst e;rw[if_pos rfl]
   have hag:∀ b,a'=some ⟨b,0,none⟩→b≠g:=by
    intro b hb';rcases ho with⟨e,_⟩|⟨b2,e,h2,_⟩
    ·rw[hb'] at e;cases e
    ·rw[hb'] at e;cases e;omega
   refine⟨hi _ (fun b hb'=>oth b (hag b hb')),?_⟩
   rcases ho with⟨e1,e2⟩|⟨b,e1,e2,e3,e4⟩
   ·exact Or.inl ⟨e1,e2⟩
   ·exact Or.inr ⟨b,e1,by omega,by rw[hsz];exact e3,e4.up (oth b (hag b e1))⟩
  ·rw[if_neg e]
   have hjk:j<k:=by omega
   obtain⟨q1,q2⟩:=h1.new j hj hjk
   rcases q2 with⟨e1,e2⟩|⟨b,e1,e2,e3,e4⟩
   ·refine⟨⟨q1.len,q1.cap,q1.small,fun hne=>?_⟩,Or.inl ⟨e1,e2⟩⟩
    exact absurd (List.length_pos_iff.2 hne) (by have:=q1.len;omega)
   ·have hbg:b≠g:=by omega
    rw[e1] at q1 ⊢
    exact⟨q1.other (oth b hbg),Or.inr ⟨b,rfl,e2,by rw[hsz];exact e3,e4.up (oth b hbg)⟩⟩
 ·intro i j hij hjk b hb';have hik:i<k:=by omega
  simp only[if_neg (show i≠k by omega)] at hb'
  by_cases e:j=k
  ·subst e;simp only[if_true]
   intro hb2;rcases ho with⟨e1,_⟩|⟨b2,e1,e2,_⟩
   ·rw[hb2] at e1;cases e1
   ·rw[hb2] at e1
    cases e1
    rcases (h.new i (by omega) hik).2 with⟨e3,_⟩|⟨b3,e3,_,e5,_⟩
    ·rw[hb'] at e3;cases e3
    ·rw[hb'] at e3;cases e3;omega
  ·simp only[if_neg e]
   exact h.dst i j hij (by omega) b hb'
theorem dr5.sh {b0 W:World} {U g n:Nat} {bx:List R5} {hs:Nat→Hd} (h:dr5 b0 U g n bx hs n W) (hgU:g<U):sh5 W g n hs∧(∀ j,j<n→∀ b,(hs j).1=some ⟨b,0,none⟩→U≤b∧b<W.heap.size):=by
 have hln:=h.len
 refine⟨⟨h.row,fun j hj=>⟨(h.at_ j (by omega)).cs,?_⟩⟩,?_⟩
 ·have q:=h.new j (by omega) hj
  have q1:=q.1.len
  have q2:=h.sm j (by omega)
  refine⟨by omega,q.1.cap,?_⟩
  rcases q.2 with e|⟨b,e1,e2,e3,e4⟩
  ·exact Or.inl e
  ·exact Or.inr ⟨b,e1,by omega,e4⟩
 ·intro j hj b hb;rcases (h.new j (by omega) hj).2 with⟨e,_⟩|⟨b2,e1,e2,e3,e4⟩
  ·rw[hb] at e;cases e
  ·rw[hb] at e1;cases e1;exact⟨e2,e3⟩
end Go.Proofs.YtbllefckefhpoaaGreat
namespace Go.Proofs.YtbllefckefhpoaaGreat
open Go.Shelf Go.RowKit
set_option linter.unusedVariables false
open Go.Value renaming int→I,slice→sL,bool→bO,pointer→pT,agg→aG
open Go.IntKind renaming i64→J
open Go.Ending renaming returned→rT
open Go.Proofs.Tryz renaming prog→Tp
def dx5 (b0:World) (U:Nat) (a:Option Addr) (n c:Nat) (ff:List R5) (hs:Nat→Hd) (k:Nat) (W:World):Prop:=(a=none∧n=0∧c=0∧ff=[])∨∃ g,a=some ⟨g,0,none⟩∧n≤c∧dr5 b0 U g n ff hs k W
def dx8 (b0:World) (U:Nat) (a:Option Addr) (n c:Nat) (ff:List R8) (hs:Nat→Hd) (k:Nat) (W:World):Prop:=(a=none∧n=0∧c=0∧ff=[])∨∃ g,a=some ⟨g,0,none⟩∧n≤c∧dr8 b0 U g n ff hs k W
theorem dx5.below {b0 W W':World} {U:Nat} {a:Option Addr} {n c:Nat} {ff:List R5} {hs:Nat→Hd} {k:Nat} (h:dx5 b0 U a n c ff hs k W) (hb:Below W.heap.size W W'):dx5 b0 U a n c ff hs k W':=by
 rcases h with h|⟨g,e,h1,h2⟩
 ·exact Or.inl h
 ·exact Or.inr ⟨g,e,h1,h2.below hb⟩
theorem dx8.below {b0 W W':World} {U:Nat} {a:Option Addr} {n c:Nat} {ff:List R8} {hs:Nat→Hd} {k:Nat} (h:dx8 b0 U a n c ff hs k W) (hb:Below W.heap.size W W'):dx8 b0 U a n c ff hs k W':=by
 rcases h with h|⟨g,e,h1,h2⟩
 ·exact Or.inl h
 ·exact Or.inr ⟨g,e,h1,h2.below hb⟩
theorem dx5.hi {b0 W:World} {U:Nat} {a:Option Addr} {n c:Nat} {ff:List R5} {hs:Nat→Hd} {k:Nat} (h:dx5 b0 U a n c ff hs k W):∀ g,a=some ⟨g,0,none⟩→g<W.heap.size:=by
 rcases h with h|⟨g,e,h1,h2⟩
 ·intro g hg;rw[h.1] at hg;cases hg
 ·intro g' hg;rw[e] at hg;cases hg;exact h2.hi
theorem dx8.hi {b0 W:World} {U:Nat} {a:Option Addr} {n c:Nat} {ff:List R8} {hs:Nat→Hd} {k:Nat} (h:dx8 b0 U a n c ff hs k W):∀ g,a=some ⟨g,0,none⟩→g<W.heap.size:=by
 rcases h with h|⟨g,e,h1,h2⟩
 ·intro g hg;rw[h.1] at hg;cases hg
 ·intro g' hg;rw[e] at hg;cases hg;exact h2.hi
theorem look5_dr (b0 w:World) (P o gs room first n:Nat) (L:List R5) (hn:n=L.length) (y0:w.cell? ⟨P,o,none⟩=some (sL (some ⟨gs,0,none⟩) room room)) (y1:w.cell? ⟨P,o+1,none⟩=some (I J (first:Int))) (y2:w.cell? ⟨P,o+2,none⟩=some (I J (n:Int))) (hr:ring5 b0 w gs room first L) (hfi:first<room) (h1:1≤room∧room≤1000) (hL:n≤room) (hb0:Below b0.heap.size b0 w) (hsm:∀ j (h:j<L.length),L[j].l.length≤1048576) :
  Calls Tp 179 #[pT (some ⟨P,o,none⟩),I J (n:Int)] w fun e w'=>∃ a c hs,e = rT (sL a n c)∧(∀ g,a=some ⟨g,0,none⟩→w.heap.size≤g)∧dx5 b0 0 a n c L hs 0 w'∧Below w.heap.size w w':=by
 subst hn;refine (look5_any b0 w P o gs room first L y0 y1 y2 hr hfi h1 hL).mono ?_
 rintro e w' ⟨v,bs,rfl,hm,hby,ho,hbw⟩;rcases ownsRow_split ho with⟨e1,e2⟩|⟨g',cap',rfl,hb,hlt,hcp,hrf,hrg⟩
 ·refine⟨none,0,fun _=>(none,0,0),by rw[e1,e2],fun g hg=>(by cases hg),Or.inl ⟨rfl,e2,rfl,List.length_eq_zero_iff.1 e2⟩,hbw⟩
 ·exact⟨some ⟨g',0,none⟩,cap',_,rfl,fun g hg=>by cases hg;exact hb,Or.inr ⟨g',rfl,hcp,dr5.start (B:=0) bs hm hby rfl hrf hrg (Nat.le_trans hb0.size hb) hlt (hb0.trans (hbw.mono hb0.size)) hsm⟩,hbw⟩
theorem look8_dr (b0 w:World) (P o gs room first n:Nat) (L:List R8) (hn:n=L.length) (y0:w.cell? ⟨P,o,none⟩=some (sL (some ⟨gs,0,none⟩) room room)) (y1:w.cell? ⟨P,o+1,none⟩=some (I J (first:Int))) (y2:w.cell? ⟨P,o+2,none⟩=some (I J (n:Int))) (hr:ring8 b0 w gs room first L) (hfi:first<room) (h1:1≤room∧room≤1000) (hL:n≤room) (hb0:Below b0.heap.size b0 w) (hsm:∀ j (h:j<L.length),L[j].l.length≤1048576) :
  Calls Tp 180 #[pT (some ⟨P,o,none⟩),I J (n:Int)] w fun e w'=>∃ a c hs,e = rT (sL a n c)∧(∀ g,a=some ⟨g,0,none⟩→w.heap.size≤g)∧dx8 b0 0 a n c L hs 0 w'∧Below w.heap.size w w':=by
 subst hn;refine (look8_any b0 w P o gs room first L y0 y1 y2 hr hfi h1 hL).mono ?_
 rintro e w' ⟨v,bs,rfl,hm,hby,ho,hbw⟩;rcases ownsRow_split ho with⟨e1,e2⟩|⟨g',cap',rfl,hb,hlt,hcp,hrf,hrg⟩
 ·refine⟨none,0,fun _=>(none,0,0),by rw[e1,e2],fun g hg=>(by cases hg),Or.inl ⟨rfl,e2,rfl,List.length_eq_zero_iff.1 e2⟩,hbw⟩
 ·exact⟨some ⟨g',0,none⟩,cap',_,rfl,fun g hg=>by cases hg;exact hb,Or.inr ⟨g',rfl,hcp,dr8.start (B:=0) bs hm hby rfl hrf hrg (Nat.le_trans hb0.size hb) hlt (hb0.trans (hbw.mono hb0.size)) hsm⟩,hbw⟩
def Z10:List Value:=[I J 0,I J 0,I J 0,I J 0,sL none 0 0,sL none 0 0,sL none 0 0,sL none 0 0,I J 0,I J 0]
structure tdE (w:World) (n1:Nat) (fs:List R3) (n2:Nat) (bx:List R8) (n3:Nat) (ff:List R5) (n4:Nat) (qu:List R8) (g1 k1 g2 k2:Nat) (h2:Nat→Hd) (a3:Option Addr) (k3:Nat) (h3:Nat→Hd) (a4:Option Addr) (k4:Nat) (h4:Nat→Hd) (PH:Nat) (W:World):Prop where
 f1:dr3 w g1 n1 fs W
 c1:n1≤k1
 f2:dr8 w 0 g2 n2 bx h2 0 W
 c2:n2≤k2
 f3:dx5 w 0 a3 n3 k3 ff h3 0 W
 f4:dx8 w 0 a4 n4 k4 qu h4 0 W
 fh:blk W PH Z10 41
 fr:blk W w.heap.size Z10 41
 o1:g1<g2
 o2:∀ g,a3=some ⟨g,0,none⟩→g2<g
 o3:∀ g,a4=some ⟨g,0,none⟩→g2<g∧∀ g',a3=some ⟨g',0,none⟩→g'<g
 p1:PH≠g1∧PH≠g2∧(∀ g,a3=some ⟨g,0,none⟩→PH≠g)∧(∀ g,a4=some ⟨g,0,none⟩→PH≠g)
 r1:w.heap.size<g1∧w.heap.size<PH
end Go.Proofs.YtbllefckefhpoaaGreat
