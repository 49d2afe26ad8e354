import Derived.Test.YtaamahohdnbpiaaGreatG08
import Derived.Test.YtaamahohdnbpiaaGreatSH
namespace Go.Proofs.YtaamahohdnbpiaaGreat
open Go.RowKit
set_option linter.unusedVariables false
open Go.Sort in
theorem sorted_world {w w':World} {g off:Nat} {d:Array Int} {n:Nat} {os:Array Obj} (hg:g<w.heap.size) (h:w'=grow (putRow (Value.int .i64) (Sort.ahead w n) g off d) os) :
  (∀ b,b≠g→b<w.heap.size→w'.heap[b]?=w.heap[b]?)∧Below g w w':=by
 subst h;have key:∀ b,b≠g→b<w.heap.size→(grow (putRow (Value.int .i64) (Sort.ahead w n) g off d) os).heap[b]?=w.heap[b]?:=by
  intro b hb hl;show ((w.heap.modify g _)++os)[b]?=_
  rw[Array.getElem?_append_left (by simpa using hl),Array.getElem?_modify,if_neg (fun e=>hb e.symm)]
 refine⟨key,rfl,rfl,rfl,?_,fun k hk=>key k (by omega) (by omega)⟩
 show w.heap.size≤((w.heap.modify g _)++os).size
 simp
theorem strict_of_adj (s:List Int) (hs:∀ i j (hi:i<s.length) (hj:j<s.length),i<j→s[i]≤s[j]) (ha:∀ j (hj:j<s.length),0<j→s[j]'hj≠s[j-1]'(by omega)) :
  ∀ j (hj:j<s.length) i (hi:i<s.length),i<j→s[i]<s[j]:=by
 intro j;induction j with
 | zero=>intro hj i hi h;exact absurd h (Nat.not_lt_zero _)
 | succ j ih=>
  intro hj i hi h;have h1:s[j]'(by omega)≤s[j+1]:=hs j (j+1) (by omega) hj (by omega)
  have h2:=ha (j+1) hj (by omega)
  have e:s[j+1-1]'(by omega)=s[j]'(by omega):=rfl
  rw[e] at h2
  have h3:s[j]'(by omega)<s[j+1]:=by omega
  by_cases hij:i=j
  ·subst hij;exact h3
  ·have:=ih (by omega) i hi (by omega)
   omega
theorem compact_nodup (zs:List Int):((Lib.compact (zs.mergeSort fun x y=>decide (x≤y))).length=zs.length)↔zs.Nodup:=by
 have hp:(zs.mergeSort fun x y=>decide (x≤y)).Perm zs:=List.mergeSort_perm _ _
 have hpw:=List.pairwise_mergeSort (le:=fun x y:Int=>decide (x≤y)) (fun a b c h1 h2=>by simp at *;omega) (fun a b=>by simp;omega) zs
 generalize (zs.mergeSort fun x y=>decide (x≤y))=s at *;rw[← hp.nodup_iff,← hp.length_eq]
 have hs:∀ i j (hi:i<s.length) (hj:j<s.length),i<j→s[i]≤s[j]:=by
  intro i j hi hj hij;have:=List.pairwise_iff_getElem.1 hpw i j hi hj hij
  simpa using this
 have hget:∀ j (hj:j<s.length),s.toArray[j]! = s[j]:=by
  intro j hj;rw[getElem!_pos s.toArray j (by simpa using hj)]
  simp
 have hlen:(Lib.compact s).length=((List.range s.length).filter (Lib.keeps s.toArray)).length:=by
  unfold Lib.compact Lib.compactUpTo
  rw[List.length_map]
 rw[hlen]
 have hr:s.length=(List.range s.length).length:=by simp
 conv=>lhs;rhs;rw[hr]
 rw[List.length_filter_eq_length_iff]
 constructor
 ·intro h;have ha:∀ j (hj:j<s.length),0<j→s[j]'hj≠s[j-1]'(by omega):=by
   intro j hj h0;have:=h j (by simpa using hj)
   unfold Lib.keeps at this
   rw[decide_eq_true_iff] at this
   rcases this with e|e
   ·omega
   ·rw[hget j hj,hget (j-1) (by omega)] at e
    exact e
  have hst:=strict_of_adj s hs ha
  rw[List.nodup_iff_pairwise_ne,List.pairwise_iff_getElem]
  intro i j hi hj hij;have:=hst j hj i hi hij
  omega
 ·intro h j hj;have hj':j<s.length:=by simpa using hj
  unfold Lib.keeps
  rw[decide_eq_true_iff]
  by_cases h0:j=0
  ·exact Or.inl h0
  ·refine Or.inr ?_
   rw[hget j hj',hget (j-1) (by omega)]
   intro e;rw[List.nodup_iff_pairwise_ne,List.pairwise_iff_getElem] at h
   exact h (j-1) j (by omega) hj' (by omega) e.symm
open Go.Sort in
set_option maxHeartbeats 2000000 in
theorem allDiffer_any (w:World) (g cap:Nat) (zs:List Int) (hH:Holds (Value.int .i64) w g 0 zs.toArray) (hg:g<w.heap.size) (hcap:zs.length≤cap) (hn:zs.length≤100) :
  Calls Tryz.prog 168 #[.slice (some ⟨g,0,none⟩) zs.length cap] w fun o w'=>retB o zs.Nodup∧(∀ b,b≠g→b<w.heap.size→w'.heap[b]?=w.heap[b]?)∧Below g w w':=by
 have HS:Hid (Calls Tryz.prog 183 #[.slice (some ⟨g,0,none⟩) zs.length cap] w fun e w'=>e = .returned (.tuple #[])∧Holds (Value.int .i64) w' g 0 (zs.mergeSort fun x y=>decide (x≤y)).toArray∧(∀ b,b≠g→b<w.heap.size→w'.heap[b]?=w.heap[b]?)∧Below g w w'):=by
  refine (Go.Proofs.Tryz.slices_Sort_int g 0 cap zs w hH hg (by omega)).mono ?_
  rintro e w' ⟨rfl,n,os,e1⟩;have hsw:=sorted_world hg e1
  refine⟨rfl,?_,hsw.1,hsw.2⟩
  subst e1;have h1:=holds_putRow (Value.int .i64) (Sort.ahead w n) g 0 zs.toArray (zs.mergeSort fun x y=>decide (x≤y)).toArray (holds_ahead _ _ _ _ _ _ hH) (by simp)
  intro j hj;have h2:=h1 j hj
  rw[cell?_grow _ _ _ (by simpa using hg),frozen?_grow _ _ _ (by simpa using hg)]
  exact h2
 have HC:Hid (∀ W,Holds (Value.int .i64) W g 0 (zs.mergeSort fun x y=>decide (x≤y)).toArray→g<W.heap.size→Calls Tryz.prog 184 #[.slice (some ⟨g,0,none⟩) zs.length cap] W fun e w'=>(∃ m:Nat,e = .returned (.slice (some ⟨g,0,none⟩) m cap)∧(m=zs.length↔zs.Nodup))∧(∀ b,b≠g→b<W.heap.size→w'.heap[b]?=W.heap[b]?)∧Below g W w'):=by
  intro W hW hgW;have hl:(zs.mergeSort fun x y=>decide (x≤y)).length=zs.length:=List.length_mergeSort _
  have h1:=Go.Proofs.Tryz.slices_Compact_int g 0 cap (zs.mergeSort fun x y=>decide (x≤y)) W hW (by omega) (by omega)
  rw[hl] at h1
  refine h1.mono ?_
  rintro e w' ⟨rfl,q,e1⟩;have e1':w'=grow (putRow (Value.int .i64) (Sort.ahead W q) g 0 (Lib.compact (zs.mergeSort fun x y=>decide (x≤y))++List.replicate (zs.length-(Lib.compact (zs.mergeSort fun x y=>decide (x≤y))).length) 0).toArray) #[]:=by rw[grow_empty];exact e1
  have hsw:=sorted_world hgW e1'
  exact⟨⟨_,rfl,compact_nodup zs⟩,hsw.1,hsw.2⟩
 have HN:Hid (zs.length≤100):=hn
 have HG:Hid (g<w.heap.size):=hg
 clear hH hcap hn hg;generalize zs.length=n at *;go_enter Tryz.func168,Tryz.ntmps168
 go_wp2_with fail;refine HS.out.mono ?_
 rintro o w1 ⟨rfl,h1,h2,h3⟩;have H1:Hid (Holds (Value.int .i64) w1 g 0 (zs.mergeSort fun x y=>decide (x≤y)).toArray∧(∀ b,b≠g→b<w.heap.size→w1.heap[b]?=w.heap[b]?)∧Below g w w1):=⟨h1,h2,h3⟩
 clear h1 h2 h3;go_wp2_with fail;refine (HC.out w1 H1.out.1 (Nat.lt_of_lt_of_le HG.out H1.out.2.2.size)).mono ?_
 rintro o w2 ⟨⟨m,rfl,hm⟩,h2,h3⟩;have H2:Hid ((m=n↔zs.Nodup)∧(∀ b,b≠g→b<w.heap.size→w2.heap[b]?=w.heap[b]?)∧Below g w w2):=⟨hm,fun b hb hl=>(h2 b hb (Nat.lt_of_lt_of_le hl H1.out.2.2.size)).trans (H1.out.2.1 b hb hl),H1.out.2.2.trans h3⟩
 clear h2 h3 hm;go_wp2_with fail;go_ret;refine⟨⟨_,rfl,?_⟩,H2.out.2⟩
 rw[← H2.out.1]
 simp
 try omega
theorem allDiffer_nil (w:World):Calls Tryz.prog 168 #[.slice none 0 0] w fun o w'=>o = .returned (.bool true)∧w'=w:=by
 have HS:Hid (∀ W,Calls Tryz.prog 183 #[.slice none 0 0] W fun e w'=>e = .returned (.tuple #[])∧w'=W):=fun W=>Go.Proofs.Tryz.slices_Sort_int_none none 0 W
 have HC:Hid (∀ W,Calls Tryz.prog 184 #[.slice none 0 0] W fun e w'=>e = .returned (.slice none 0 0)∧w'=W):=fun W=>Go.Proofs.Tryz.slices_Compact_int_empty none 0 W
 go_enter Tryz.func168,Tryz.ntmps168
 go_wp2_with (first
  | (go_at_call 183;refine (HS.out _).mono ?_;rintro o w1 ⟨rfl,rfl⟩)
  | (go_at_call 184;refine (HC.out _).mono ?_;rintro o w1 ⟨rfl,rfl⟩))
 go_ret;exact⟨rfl,rfl⟩
theorem pw_turn {α:Type} {R S:α→α→Prop} (H:∀ a b,R a b→S a b):∀ {l:List α},l.Pairwise R→l.Pairwise S:=by
 intro l;induction l with
 | nil=>intro _;exact List.Pairwise.nil
 | cons a l ih=>
  intro h;have h':=List.pairwise_cons.1 h
  exact List.pairwise_cons.2 ⟨fun b hb=>H a b (h'.1 b hb),ih h'.2⟩
theorem Tryz.info3:(Tryz.prog.info? 3).map (fun i=>(i.zero,i.size,i.bytes))=some (some (.int .i64 0),1,8):=by kernel_rfl
def ownsI (w:World) (B:Nat) (v:Value) (l:List Int):Prop:=w.ownsRow B 3 1 v l.length (l.map (Value.int .i64))
structure twoI (w0 W:World) (B:Nat) (v1 v2:Value) (l1 l2:List Int):Prop where
 o1:ownsI W B v1 l1
 o2:ownsI W B v2 l2
 ne:∀ g,v1.ownBlock=some g→v2.ownBlock≠some g
 b:Below B w0 W
 s:B≤W.heap.size
def wireN (bx:List R8):Nat:=bx.countP (fun b=>b.x == 2 || b.x == 3)
def nfY (bx:List R8):List Int:=(bx.filter (fun b=>b.x != 0)).map (·.y)
def nfZ (bx:List R8):List Int:=(bx.filter (fun b=>b.x != 0)).map (·.z)
theorem app1 {W:World} {B:Nat} {v:Value} {l:List Int} (ho:ownsI W B v l) (z:Int) (b:Nat) (hb:W.heap[b]?=some (.cells #[.int .i64 z] 3)) (hl:l.length≤100) (hB:B≤W.heap.size) (R:TypeId) :
  ∃ v' W',(Builtin.append_ #[50,50] R #[v,.slice (some ⟨b,0,none⟩) 1 1]).run Tryz.prog W = .ok v' W'∧ownsI W' B v' (l++[z])∧W.grownBy W' v.ownBlock∧(v'.ownBlock=v.ownBlock∨v'.ownBlock=some W.heap.size):=by
 obtain⟨i0,hi,hz0,hz1,hz2⟩:=info_parts Tryz.info3
 obtain⟨v',w',hr,h2,h3,_,h5⟩:=run_append_own_at (P:=Tryz.prog) W B 50 R 3 i0 (.int .i64 0) 1 8 Tryz.underlying50 hi hz0 hz1 hz2 rfl (by decide) v l.length (l.map (Value.int .i64)) ho ⟨b,0,none⟩ 1 1 [.int .i64 z] rfl (by
  intro j u hj;match j,hj with
  | 0,hj=>simp at hj;subst hj;simp[Addr.add,World.cell?,hb]) (by intro u hu;simp at hu;subst hu;rfl) (by unfold maxLen;omega) (by omega) hB
 refine⟨v',w',hr,?_,h3,h5⟩
 unfold ownsI
 rw[List.length_append,List.map_append]
 exact h2
theorem ownsI.kept {W W':World} {B:Nat} {v:Value} {l:List Int} {row:Option Nat} (h:ownsI W B v l) (hg:W.grownBy W' row) (hne:v.ownBlock=none∨v.ownBlock≠row):ownsI W' B v l:=World.ownsRow.kept h hg hne
theorem ownsI.alloc {W:World} {B:Nat} {v:Value} {l:List Int} (h:ownsI W B v l) (o:Obj):ownsI (W.alloc o) B v l:=World.ownsRow.alloc h o
theorem ownsI.drew {W:World} {B:Nat} {v:Value} {l:List Int} (h:ownsI W B v l):ownsI W.drew B v l:=h
theorem ownsI.lt {W:World} {B:Nat} {v:Value} {l:List Int} (h:ownsI W B v l) (g:Nat) (hg:v.ownBlock=some g):B≤g∧g<W.heap.size:=World.ownsRow.lt h g hg
theorem take_map_snoc {α:Type} (f:List R8→List α) (g:R8→List α) (hf:∀ l b,f (l++[b])=f l++g b) (bx:List R8) (k:Nat) (h:k<bx.length):f (bx.take (k+1))=f (bx.take k)++g bx[k]:=by
 rw[List.take_succ_eq_append_getElem h,hf]
theorem nfY_take (bx:List R8) (k:Nat) (h:k<bx.length):nfY (bx.take (k+1))=nfY (bx.take k)++(if (bx[k].x != 0)=true then [bx[k].y] else []):=
 take_map_snoc nfY (fun b=>if (b.x != 0)=true then [b.y] else []) (fun l b=>by unfold nfY;rw[List.filter_append,List.map_append];congr 1;by_cases hb:(b.x != 0)=true <;> simp[hb]) bx k h
theorem nfZ_take (bx:List R8) (k:Nat) (h:k<bx.length):nfZ (bx.take (k+1))=nfZ (bx.take k)++(if (bx[k].x != 0)=true then [bx[k].z] else []):=
 take_map_snoc nfZ (fun b=>if (b.x != 0)=true then [b.z] else []) (fun l b=>by unfold nfZ;rw[List.filter_append,List.map_append];congr 1;by_cases hb:(b.x != 0)=true <;> simp[hb]) bx k h
theorem wireN_take (bx:List R8) (k:Nat) (h:k<bx.length):wireN (bx.take (k+1))=wireN (bx.take k)+(if (bx[k].x == 2 || bx[k].x == 3)=true then 1 else 0):=by
 unfold wireN
 rw[List.take_succ_eq_append_getElem h,List.countP_append]
 simp[List.countP_cons]
theorem nfY_len (bx:List R8):(nfY bx).length≤bx.length∧(nfZ bx).length≤bx.length:=by
 unfold nfY nfZ
 rw[List.length_map,List.length_map]
 exact⟨List.length_filter_le _ _,List.length_filter_le _ _⟩
theorem okBxs_iff (st:Int) (bx:List R8) (hA:∀ j (hj:j<bx.length),okBx st bx[j]):okBxs st bx↔(wireN bx≤1∧(nfY bx).Nodup∧(nfZ bx).Nodup):=by
 have hb:busyN bx=wireN bx:=by
  unfold busyN wireN
  apply List.countP_congr
  intro b hb;obtain⟨j,hj,rfl⟩:=List.getElem_of_mem hb
  have:=hA j hj
  unfold okBx at this
  split at this
  ·rename_i h0;simp[h0]
  ·rename_i h0
   simp[h0]
   omega
 have hf:(∀ i j (hi:i<bx.length) (hj:j<bx.length),i<j→far bx[i] bx[j])↔((nfY bx).Nodup∧(nfZ bx).Nodup):=by
  have e1:(∀ i j (hi:i<bx.length) (hj:j<bx.length),i<j→far bx[i] bx[j])↔bx.Pairwise far:=List.pairwise_iff_getElem.symm
  have e2:(nfY bx).Nodup↔bx.Pairwise (fun a b=>a.x≠0→b.x≠0→a.y≠b.y):=by
   unfold nfY
   rw[List.nodup_iff_pairwise_ne,List.pairwise_map,List.pairwise_filter]
   simp
  have e3:(nfZ bx).Nodup↔bx.Pairwise (fun a b=>a.x≠0→b.x≠0→a.z≠b.z):=by
   unfold nfZ
   rw[List.nodup_iff_pairwise_ne,List.pairwise_map,List.pairwise_filter]
   simp
  rw[e1,e2,e3,← List.pairwise_and_iff]
  constructor
  ·exact fun h=>pw_turn (fun a b hh=>⟨fun h1 h2=>(hh h1 h2).1,fun h1 h2=>(hh h1 h2).2⟩) h
  ·exact fun h=>pw_turn (fun a b hh h1 h2=>⟨hh.1 h1 h2,hh.2 h1 h2⟩) h
 unfold okBxs
 rw[hf,hb]
 exact⟨fun h=>⟨h.2.2,h.2.1.1,h.2.1.2⟩,fun h=>⟨hA,⟨h.2.1,h.2.2⟩,h.1⟩⟩
theorem twoI.below {w0 W W':World} {B:Nat} {v1 v2:Value} {l1 l2:List Int} (h:twoI w0 W B v1 v2 l1 l2) (hb:Below W.heap.size W W'):twoI w0 W' B v1 v2 l1 l2:=by
 have hg:W.grownBy W' none:=⟨hb.os,hb.tape,hb.output,hb.size,fun k hk _=>hb.block k hk⟩
 have hne:∀ v:Value,v.ownBlock=none∨v.ownBlock≠none:=fun v=>by cases v.ownBlock <;> simp
 exact⟨h.o1.kept hg (hne v1),h.o2.kept hg (hne v2),h.ne,h.b.trans (hb.mono h.s),Nat.le_trans h.s hb.size⟩
open Go.Sort in
theorem differ_own {W:World} {B:Nat} {v:Value} {l:List Int} (h:ownsI W B v l) (hl:l.length≤100) (hB:B≤W.heap.size) :
  Calls Tryz.prog 168 #[v] W fun o W'=>retB o l.Nodup∧W.grownBy W' v.ownBlock∧Below B W W':=by
 by_cases hv:v = .slice none 0 0
 ·subst hv;have hl0:l=[]:=by
   rcases h.2 with⟨_,hn⟩|⟨g,cap,cur,e,_⟩
   ·exact List.length_eq_zero_iff.1 hn
   ·cases e
  subst hl0;refine (allDiffer_nil W).mono ?_
  rintro o W' ⟨rfl,rfl⟩;exact⟨⟨true,rfl,by simp⟩,⟨rfl,rfl,rfl,Nat.le_refl _,fun _ _ _=>rfl⟩,Below.refl _ _⟩
 ·have h':=h
  obtain⟨g,cap,rfl,h1,h2,h3,h4⟩:=own_slice h hv
  have hH:Holds (Value.int .i64) W g 0 l.toArray:=by
   intro j hj;have hj':j<l.length:=by simpa using hj
   refine⟨?_,by rw[Nat.zero_add];exact World.ownsRow.frozenAt h' j⟩
   rw[Nat.zero_add,h4 W rfl j (by omega),List.getElem?_map,getElem!_pos l.toArray j hj]
   simp[List.getElem?_eq_getElem hj']
  refine (allDiffer_any W g cap l hH h2 h3 hl).mono ?_
  rintro o W' ⟨hr,hk,hb⟩;exact⟨hr,⟨hb.os,hb.tape,hb.output,hb.size,fun k hk1 hk2=>hk k (fun e=>hk2 (by rw[e];rfl)) hk1⟩,hb.mono h1⟩
theorem step_appI {ops:Array Oper} {o:Oper} {a:Act} {K:Act→World→Prop} {Q:Exit→Act→World→Prop} {E:Prop} (hgd:o.guard=none) (s x:Operand)
  (ho:o.op = .call { callee:=.builtin .append,args:=#[s,x],argTypes:=#[50,50] }) (v:Value) (hs:a.eval s=v) (b:Nat) (hx:a.eval x = .slice (some ⟨b,0,none⟩) 1 1) (v':Value) (W W':World)
  (hr:(Builtin.append_ #[50,50] o.type #[v,.slice (some ⟨b,0,none⟩) 1 1]).run Tryz.prog W = .ok v' W') (h:K (a.put o.dst v') W') :
  if Region.wanted o (yielded ops a.tmps)=true then Oper.wp Tryz.prog o a W K Q else E:=by
 have hw:Region.wanted o (yielded ops a.tmps)=true:=by simp[Region.wanted,hgd]
 rw[if_pos hw]
 unfold Oper.wp execOp
 simp only[ho,resolve,invoke,builtin,Sem.run_bind,Sem.run_pure,Result.andThen_ok,List.map_toArray,List.map_cons,List.map_nil,hs,hx,hr]
 exact h
theorem twoI.alloc {w0 W:World} {B:Nat} {v1 v2:Value} {l1 l2:List Int} (h:twoI w0 W B v1 v2 l1 l2) (o:Obj):twoI w0 (W.alloc o).drew B v1 v2 l1 l2:=⟨(h.o1.alloc o).drew,(h.o2.alloc o).drew,h.ne,(h.b.alloc h.s o).drew,by show B≤(W.alloc o).heap.size;have:=h.s;simp;omega⟩
theorem appT1 {w0 W:World} {B:Nat} {v1 v2:Value} {l1 l2:List Int} (h:twoI w0 W B v1 v2 l1 l2) (y:Int) (b:Nat) (hb:W.heap[b]?=some (.cells #[.int .i64 y] 3)) (hl:l1.length≤100) (R:TypeId) :
  ∃ v' W',(Builtin.append_ #[50,50] R #[v1,.slice (some ⟨b,0,none⟩) 1 1]).run Tryz.prog W = .ok v' W'∧twoI w0 W' B v' v2 (l1++[y]) l2∧(∀ k,k<W.heap.size→v1.ownBlock≠some k→W'.heap[k]?=W.heap[k]?)∧W.heap.size≤W'.heap.size∧(v'.ownBlock=v1.ownBlock∨v'.ownBlock=some W.heap.size):=by
 obtain⟨v',W',hr,ho,hg,hat⟩:=app1 h.o1 y b hb hl h.s R
 have hn:∀ g,v'.ownBlock=some g→v2.ownBlock≠some g:=by
  intro g hg' e2;rcases hat with e|e
  ·exact h.ne g (e ▸ hg') e2
  ·rw[e] at hg'
   cases hg'
   exact absurd (h.o2.lt _ e2).2 (Nat.lt_irrefl _)
 have hk:v2.ownBlock=none∨v2.ownBlock≠v1.ownBlock:=by
  cases e:v2.ownBlock with
  | none=>exact Or.inl rfl
  | some g=>exact Or.inr fun e2=>h.ne g e2.symm e
 refine⟨v',W',hr,⟨ho,h.o2.kept hg hk,hn,h.b.grown hg h.s (fun k hk=>(h.o1.lt k hk).1),Nat.le_trans h.s hg.size⟩,fun k h1 h2=>hg.block k h1 (fun e=>h2 e.symm),hg.size,hat⟩
theorem twoI.symm {w0 W:World} {B:Nat} {v1 v2:Value} {l1 l2:List Int} (h:twoI w0 W B v1 v2 l1 l2):twoI w0 W B v2 v1 l2 l1:=⟨h.o2,h.o1,fun g h1 h2=>h.ne g h2 h1,h.b,h.s⟩
theorem appT2 {w0 W:World} {B:Nat} {v1 v2:Value} {l1 l2:List Int} (h:twoI w0 W B v1 v2 l1 l2) (y:Int) (b:Nat) (hb:W.heap[b]?=some (.cells #[.int .i64 y] 3)) (hl:l2.length≤100) (R:TypeId) :
  ∃ v' W',(Builtin.append_ #[50,50] R #[v2,.slice (some ⟨b,0,none⟩) 1 1]).run Tryz.prog W = .ok v' W'∧twoI w0 W' B v1 v' l1 (l2++[y])∧(∀ k,k<W.heap.size→v2.ownBlock≠some k→W'.heap[k]?=W.heap[k]?)∧W.heap.size≤W'.heap.size∧(v'.ownBlock=v2.ownBlock∨v'.ownBlock=some W.heap.size):=by
 obtain⟨v',W',hr,h1,h2,h3,h4⟩:=appT1 h.symm y b hb hl R
 exact⟨v',W',hr,h1.symm,h2,h3,h4⟩
structure rg (w0 W:World) (B PB:Nat) (L:List Value) (v1 v2:Value) (l1 l2:List Int):Prop where
 t:twoI w0 W B v1 v2 l1 l2
 p:blk W PB L 97
 n1:v1.ownBlock≠some PB
 n2:v2.ownBlock≠some PB
theorem rg.alloc {w0 W:World} {B PB:Nat} {L:List Value} {v1 v2:Value} {l1 l2:List Int} (h:rg w0 W B PB L v1 v2 l1 l2) (o:Obj):rg w0 (W.alloc o).drew B PB L v1 v2 l1 l2:=⟨h.t.alloc o,h.p.alloc o,h.n1,h.n2⟩
theorem rg.alloc' {w0 W:World} {B PB:Nat} {L:List Value} {v1 v2:Value} {l1 l2:List Int} (h:rg w0 W B PB L v1 v2 l1 l2) (o:Obj):rg w0 (W.alloc o) B PB L v1 v2 l1 l2:=⟨⟨h.t.o1.alloc o,h.t.o2.alloc o,h.t.ne,h.t.b.alloc h.t.s o,by have:=h.t.s;simp;omega⟩,h.p.alloc o,h.n1,h.n2⟩
theorem heap_new_drew (W:World) (o:Obj):(W.alloc o).drew.heap[W.heap.size]?=some o:=heap_alloc_new W o
theorem rg.app1 {w0 W:World} {B PB:Nat} {L:List Value} {v1 v2:Value} {l1 l2:List Int} (h:rg w0 W B PB L v1 v2 l1 l2) (y:Int) (b:Nat) (hb:W.heap[b]?=some (.cells #[.int .i64 y] 3)) (hl:l1.length≤100) (R:TypeId) :
  ∃ v' W',(Builtin.append_ #[50,50] R #[v1,.slice (some ⟨b,0,none⟩) 1 1]).run Tryz.prog W = .ok v' W'∧rg w0 W' B PB L v' v2 (l1++[y]) l2∧(∀ k x,v1.ownBlock≠some k→W.heap[k]?=some x→W'.heap[k]?=some x):=by
 obtain⟨v',W',hr,h1,h2,h3,h4⟩:=appT1 h.t y b hb hl R
 refine⟨v',W',hr,⟨h1,(h2 PB h.p.lt h.n1).trans h.p,?_,h.n2⟩,fun k x hk hx=>(h2 k (lt_of_some hx) hk).trans hx⟩
 rcases h4 with e|e
 ·rw[e];exact h.n1
 ·rw[e]
  intro e2;cases e2
  exact absurd h.p.lt (Nat.lt_irrefl _)
theorem rg.app2 {w0 W:World} {B PB:Nat} {L:List Value} {v1 v2:Value} {l1 l2:List Int} (h:rg w0 W B PB L v1 v2 l1 l2) (y:Int) (b:Nat) (hb:W.heap[b]?=some (.cells #[.int .i64 y] 3)) (hl:l2.length≤100) (R:TypeId) :
  ∃ v' W',(Builtin.append_ #[50,50] R #[v2,.slice (some ⟨b,0,none⟩) 1 1]).run Tryz.prog W = .ok v' W'∧rg w0 W' B PB L v1 v' l1 (l2++[y])∧(∀ k x,v2.ownBlock≠some k→W.heap[k]?=some x→W'.heap[k]?=some x):=by
 obtain⟨v',W',hr,h1,h2,h3,h4⟩:=appT2 h.t y b hb hl R
 refine⟨v',W',hr,⟨h1,(h2 PB h.p.lt h.n2).trans h.p,h.n1,?_⟩,fun k x hk hx=>(h2 k (lt_of_some hx) hk).trans hx⟩
 rcases h4 with e|e
 ·rw[e];exact h.n2
 ·rw[e]
  intro e2;cases e2
  exact absurd h.p.lt (Nat.lt_irrefl _)
set_option maxHeartbeats 4000000 in
set_option maxRecDepth 20000 in
theorem validBoxes_any (w:World) (a:Option Addr) (n cap:Nat) (bx:List R8) (st:Int) (h:isR8s w a n cap bx) (hn:n≤8) (hst:0≤st∧st≤1000000) :
  Calls Tryz.prog 124 #[.slice a n cap,.int .i64 st] w fun o w'=>retB o (okBxs st bx)∧Below w.heap.size w w':=by
 have HH:Hid (isR8s w a n cap bx):=h
 have HL:Hid (n=bx.length):=h.len
 have hcp:=h.cap
 have HST:Hid (0≤st∧st≤1000000):=hst
 clear h hst;go_enter Tryz.func124,Tryz.ntmps124
 go_wp2_with fail;go_loopw [5,6,7,12] (fun v1 v2 q i wr=>∃ k m:Nat,k≤n∧i = .int .i64 (k:Int)∧q = .int .i64 (m:Int)∧m≤k∧m=wireN (bx.take k)∧(∀ j (hj:j<bx.length),j<k→okBx st bx[j])∧twoI w wr w.heap.size v1 v2 (nfY (bx.take k)) (nfZ (bx.take k))) (fun _ _ _ i _=>n-(intOf i).toNat)
 case atStart=>exact⟨0,0,Nat.zero_le _,rfl,rfl,Nat.le_refl _,(by simp[wireN]),fun j hj h=>absurd h (Nat.not_lt_zero _),⟨World.ownsRow_nil w _ 3 1,World.ownsRow_nil w _ 3 1,(fun g h=>(by cases h)),Below.refl _ _,Nat.le_refl _⟩⟩
 case round=>
  obtain⟨k,q,hk,rfl,rfl,hqk,hq,hA,hT⟩:=hrel
  have HQ:Hid (q=wireN (bx.take k)):=hq
  have HA:Hid (∀ j (hj:j<bx.length),j<k→okBx st bx[j]):=hA
  have HT:Hid (twoI w wr w.heap.size u5 u6 (nfY (bx.take k)) (nfZ (bx.take k))):=hT
  clear hq hA hT;by_cases hlt:k<n
  ·have hkl:k<bx.length:=by have:=HL.out;omega
   obtain⟨g,off,rfl,hc⟩:=HH.out.cells (fun e=>by rw[e] at hkl;cases hkl)
   obtain⟨ao,m,c,hx⟩:=hc k hkl
   have hx':=hx.below HT.out.b
   have HRG0:=hx'.range
   have hY:=nfY_take bx k hkl
   have hZ:=nfZ_take bx k hkl
   have hW:=wireN_take bx k hkl
   have HV0:=validBox_any (wr.alloc (.cells #[.int .i64 bx[k].x,.int .i64 bx[k].y,.int .i64 bx[k].z,.bool bx[k].e,.int .u32 (bx[k].i:Int),.bool bx[k].r,.int .i64 bx[k].d,.slice ao m c] 97)) bx[k] st ao m c (hx'.dat.below ((Below.refl _ _).alloc (Nat.le_refl _) _)) HST.out
   have HBAD0:Hid (¬ okBx st bx[k]→¬ okBxs st bx):=okBxs_bad hkl
   have HAS:Hid (okBx st bx[k]→∀ j (hj:j<bx.length),j<k+1→okBx st bx[j]):=fun h=>ok_snocP hkl HA.out h
   have hLY:=nfY_len (bx.take k)
   rw[List.length_take] at hLY
   have HLY:Hid ((nfY (bx.take k)).length≤100∧(nfZ (bx.take k)).length≤100):=⟨by omega,by omega⟩
   obtain⟨b,hb⟩ : ∃ b,bx[k]=b:=⟨_,rfl⟩
   rw[hb] at HRG0 hY hZ hW HV0 HBAD0 HAS
   obtain⟨x,y,z,e,i,r,d,l⟩:=b
   simp only[] at HV0 hY hZ hW
   have HRG:Hid (wr.rangeAt g (off+k*8) [.int .i64 x,.int .i64 y,.int .i64 z,.bool e,.int .u32 (i:Int),.bool r,.int .i64 d,.slice ao m c]):=HRG0
   have HY:Hid (nfY (bx.take (k+1))=nfY (bx.take k)++(if (x != 0)=true then [y] else [])):=hY
   have HZ:Hid (nfZ (bx.take (k+1))=nfZ (bx.take k)++(if (x != 0)=true then [z] else [])):=hZ
   have HW:Hid (wireN (bx.take (k+1))=wireN (bx.take k)+(if (x == 2 || x == 3)=true then 1 else 0)):=hW
   have HT3:Hid (twoI w (wr.alloc (.cells #[.int .i64 x,.int .i64 y,.int .i64 z,.bool e,.int .u32 (i:Int),.bool r,.int .i64 d,.slice ao m c] 97)) w.heap.size u5 u6 (nfY (bx.take k)) (nfZ (bx.take k))):=HT.out.below ((Below.refl _ _).alloc (Nat.le_refl _) _)
   by_cases hok:¬ okBx st ⟨x,y,z,e,i,r,d,l⟩
   ·have HBAD:Hid (¬ okBxs st bx):=HBAD0.out hok
    have HV:Hid (Calls Tryz.prog 166 #[bxV x y z e i r d ao m c,.int .i64 st] (wr.alloc (.cells #[.int .i64 x,.int .i64 y,.int .i64 z,.bool e,.int .u32 (i:Int),.bool r,.int .i64 d,.slice ao m c] 97)) fun o w'=>o = .returned (.bool false)∧Below (wr.alloc (.cells #[.int .i64 x,.int .i64 y,.int .i64 z,.bool e,.int .u32 (i:Int),.bool r,.int .i64 d,.slice ao m c] 97)).heap.size (wr.alloc (.cells #[.int .i64 x,.int .i64 y,.int .i64 z,.bool e,.int .u32 (i:Int),.bool r,.int .i64 d,.slice ao m c] 97)) w'):=HV0.mono (by rintro o w' ⟨⟨bb,rfl,h1⟩,h2⟩;cases bb;exact⟨rfl,h2⟩;exact absurd (h1.1 rfl) hok)
    clear hx hx' hb HRG0 hY hZ hW HV0 HBAD0 HAS hLY hok hc;go_wp2_with (first
     | (refine wpList_load_mid (P:=Tryz.prog) rfl 97 _ rfl g (off+k*8) rfl _ _ HRG.out Tryz.underlying97 rfl sz95 ?_)
     | (go_at_call 166;refine HV.out.mono ?_;rintro o w4 ⟨rfl,hb4⟩))
    go_ret;exact⟨⟨false,rfl,by simpa using HBAD.out⟩,(HT3.out.below hb4).b⟩
   have hok:okBx st ⟨x,y,z,e,i,r,d,l⟩:=Classical.not_not.1 hok
   have HAL:Hid (∀ j (hj:j<bx.length),j<k+1→okBx st bx[j]):=HAS.out hok
   have HV:Hid (Calls Tryz.prog 166 #[bxV x y z e i r d ao m c,.int .i64 st] (wr.alloc (.cells #[.int .i64 x,.int .i64 y,.int .i64 z,.bool e,.int .u32 (i:Int),.bool r,.int .i64 d,.slice ao m c] 97)) fun o w'=>o = .returned (.bool true)∧Below (wr.alloc (.cells #[.int .i64 x,.int .i64 y,.int .i64 z,.bool e,.int .u32 (i:Int),.bool r,.int .i64 d,.slice ao m c] 97)).heap.size (wr.alloc (.cells #[.int .i64 x,.int .i64 y,.int .i64 z,.bool e,.int .u32 (i:Int),.bool r,.int .i64 d,.slice ao m c] 97)) w'):=HV0.mono (by rintro o w' ⟨⟨bb,rfl,h1⟩,h2⟩;rw[h1.2 hok];exact⟨rfl,h2⟩)
   have HWI:Hid (∀ W,Calls Tryz.prog 167 #[bxV x y z e i r d ao m c] W fun o w'=>o = .returned (.bool (x == 2 || x == 3))∧Below W.heap.size W w'):=fun W=>isOnWire_any W ⟨x,y,z,e,i,r,d,l⟩ ao m c
   clear hx hx' hb HRG0 hY hZ hW HV0 HBAD0 HAS hLY hok hc;by_cases hx0:x=0
   ·subst hx0;go_wp2_with (first
     | (refine wpList_load_mid (P:=Tryz.prog) rfl 97 _ rfl g (off+k*8) rfl _ _ HRG.out Tryz.underlying97 rfl sz95 ?_)
     | (go_at_call 166;refine HV.out.mono ?_;rintro o w4 ⟨rfl,hb4⟩;have HB4:Hid (blk w4 wr.heap.size [.int .i64 0,.int .i64 y,.int .i64 z,.bool e,.int .u32 (i:Int),.bool r,.int .i64 d,.slice ao m c] 97∧twoI w w4 w.heap.size u5 u6 (nfY (bx.take k)) (nfZ (bx.take k))):=⟨(blk.new wr [.int .i64 0,.int .i64 y,.int .i64 z,.bool e,.int .u32 (i:Int),.bool r,.int .i64 d,.slice ao m c] 97).below hb4,HT3.out.below hb4⟩;have y0:=HB4.out.1.cell 0 _ rfl;clear hb4)
     | (refine wpList_load_mid (P:=Tryz.prog) rfl 97 _ rfl wr.heap.size 0 rfl _ _ HB4.out.1.load Tryz.underlying97 rfl sz95 ?_)
     | (go_at_call 167;refine (HWI.out _).mono ?_;rintro o w5 ⟨rfl,hb5⟩))
    go_roundw
    case rel=>
     refine⟨k+1,q,by omega,by go_num,rfl,by omega,?_,HAL.out,?_⟩
     ·rw[HW.out,← HQ.out];simp
     ·rw[HY.out,HZ.out]
      simpa using HB4.out.2.below hb5
    case measure=>simp[intOf];omega
   ·have hx0':(x != 0)=true:=by simpa using hx0
    have HYY:Hid (nfY (bx.take (k+1))=nfY (bx.take k)++[y]):=by have:=HY.out;rw[if_pos hx0'] at this;exact this
    have HZZ:Hid (nfZ (bx.take (k+1))=nfZ (bx.take k)++[z]):=by have:=HZ.out;rw[if_pos hx0'] at this;exact this
    clear hx0 HY HZ;go_wp2_with (first
     | (refine wpList_load_mid (P:=Tryz.prog) rfl 97 _ rfl g (off+k*8) rfl _ _ HRG.out Tryz.underlying97 rfl sz95 ?_)
     | (go_at_call 166;refine HV.out.mono ?_;rintro o w4 ⟨rfl,hb4⟩;have HB4:Hid (blk w4 wr.heap.size [.int .i64 x,.int .i64 y,.int .i64 z,.bool e,.int .u32 (i:Int),.bool r,.int .i64 d,.slice ao m c] 97∧twoI w w4 w.heap.size u5 u6 (nfY (bx.take k)) (nfZ (bx.take k))∧w.heap.size≤wr.heap.size):=⟨(blk.new wr [.int .i64 x,.int .i64 y,.int .i64 z,.bool e,.int .u32 (i:Int),.bool r,.int .i64 d,.slice ao m c] 97).below hb4,HT3.out.below hb4,HT.out.s⟩;have y0:=HB4.out.1.cell 0 _ rfl;clear hb4))
    have y1:=HB4.out.1.cell 1 _ rfl
    have y2:=HB4.out.1.cell 2 _ rfl
    clear y0;have hg0:(∀ g,u5.ownBlock=some g→g<wr.heap.size)∧(∀ g,u6.ownBlock=some g→g<wr.heap.size):=⟨fun g hg=>(HT.out.o1.lt g hg).2,fun g hg=>(HT.out.o2.lt g hg).2⟩
    have HG0:Hid ((∀ g,u5.ownBlock=some g→g<wr.heap.size)∧(∀ g,u6.ownBlock=some g→g<wr.heap.size)):=hg0
    clear hg0 HT HT3 HV HRG;generalize wr.heap.size=PB at *;generalize nfY (bx.take k)=L1 at *;generalize nfZ (bx.take k)=L2 at *;refine wp_region_held (S:=(fun W=>W.cell? ⟨PB,1,none⟩=some (.int .i64 y)∧W.cell? ⟨PB,2,none⟩=some (.int .i64 z))) (by kernel_rfl) ?_
    have hS:(fun W=>W.cell? ⟨PB,1,none⟩=some (.int .i64 y)∧W.cell? ⟨PB,2,none⟩=some (.int .i64 z)) w4.drew:=⟨(World.cell?_drew _ _).trans y1,(World.cell?_drew _ _).trans y2⟩
    simp only[] at hS
    refine wT (i:=0) (v:=u5) rfl (by kernel_rfl) (by kernel_rfl) (by kernel_rfl) (fun _ _ _ h=>h) (Or.inl ⟨by rfl,?_⟩) hS ?_
    ·intro W hSw;clear hS;go_simp
    simp only[Act.put,aA,aB,aC,aD,aE]
    refine wT (i:=1) (v:=.pointer (some ⟨PB,1,none⟩)) rfl (by kernel_rfl) (by kernel_rfl) (by kernel_rfl) (fun _ _ _ h=>h) (Or.inl ⟨by rfl,?_⟩) hS ?_
    ·intro W hSw;clear hS;go_simp
    simp only[Act.put,aA,aB,aC,aD,aE,aF];refine wT (i:=2) (v:=.int .i64 y) rfl (by kernel_rfl) (by kernel_rfl) (by kernel_rfl) (fun _ _ _ h=>h) (Or.inl ⟨by rfl,?_⟩) hS ?_
    ·intro W hSw;clear hS;go_simp
    simp only[Act.put,aA,aB,aC,aD,aE,aF];refine wT (i:=5) (v:=u6) rfl (by kernel_rfl) (by kernel_rfl) (by kernel_rfl) (fun _ _ _ h=>h) (Or.inl ⟨by rfl,?_⟩) hS ?_
    ·intro W hSw;clear hS;go_simp
    simp only[Act.put,aA,aB,aC,aD,aE,aF];refine wT (i:=6) (v:=.pointer (some ⟨PB,2,none⟩)) rfl (by kernel_rfl) (by kernel_rfl) (by kernel_rfl) (fun _ _ _ h=>h) (Or.inl ⟨by rfl,?_⟩) hS ?_
    ·intro W hSw;clear hS;go_simp
    simp only[Act.put,aA,aB,aC,aD,aE,aF];refine wT (i:=7) (v:=.int .i64 z) rfl (by kernel_rfl) (by kernel_rfl) (by kernel_rfl) (fun _ _ _ h=>h) (Or.inl ⟨by rfl,?_⟩) hS ?_
    ·intro W hSw;clear hS;go_simp
    simp only[Act.put,aA,aB,aC,aD,aE,aF];have R0:Hid (rg w w4 w.heap.size PB [.int .i64 x,.int .i64 y,.int .i64 z,.bool e,.int .u32 (i:Int),.bool r,.int .i64 d,.slice ao m c] u5 u6 L1 L2):=⟨HB4.out.2.1,HB4.out.1,fun e=>Nat.lt_irrefl _ (HG0.out.1 _ e),fun e=>Nat.lt_irrefl _ (HG0.out.2 _ e)⟩
    have HLT:Hid ((∀ g,u5.ownBlock=some g→g<w4.heap.size)∧(∀ g,u6.ownBlock=some g→g<w4.heap.size)):=⟨fun g hg=>(HB4.out.2.1.o1.lt g hg).2,fun g hg=>(HB4.out.2.1.o2.lt g hg).2⟩
    clear y1 y2;refine wpAnyH_all (rs:=[3,8]) (by kernel_rfl) (by simp) ?_
    refine AllReadyH.cons rfl (fun K hK=>?_) (AllReadyH.cons rfl (fun K hK=>?_) AllReadyH.nil)
    ·go_simp;have R1:Hid (rg w (w4.alloc (.cells #[.int .i64 y] 3)).drew w.heap.size PB [.int .i64 x,.int .i64 y,.int .i64 z,.bool e,.int .u32 (i:Int),.bool r,.int .i64 d,.slice ao m c] u5 u6 L1 L2∧(w4.alloc (.cells #[.int .i64 y] 3)).drew.heap[w4.heap.size]?=some (.cells #[.int .i64 y] 3)):=⟨R0.out.alloc _,heap_new_drew w4 _⟩
     have N5:Hid (u5.ownBlock≠some w4.heap.size∧u6.ownBlock≠some w4.heap.size):=⟨fun e=>Nat.lt_irrefl _ (HLT.out.1 _ e),fun e=>Nat.lt_irrefl _ (HLT.out.2 _ e)⟩
     refine hK.out _ _ ⟨R1.out.1.p.cell 1 _ rfl,R1.out.1.p.cell 2 _ rfl⟩ (fun hS2=>?_)
     clear hS hK K;have hS:=hS2
     clear hS2;have HLT1:Hid ((∀ g,u5.ownBlock=some g→g<(w4.alloc (.cells #[.int .i64 y] 3)).drew.heap.size)∧(∀ g,u6.ownBlock=some g→g<(w4.alloc (.cells #[.int .i64 y] 3)).drew.heap.size)):=⟨fun g hg=>(R1.out.1.t.o1.lt g hg).2,fun g hg=>(R1.out.1.t.o2.lt g hg).2⟩
     generalize w4.heap.size=b3 at *;generalize hW1:(w4.alloc (.cells #[.int .i64 y] 3)).drew=W1 at *;clear hW1 HLT;refine wpAnyH_all (rs:=[4,8]) (by kernel_rfl) (by simp) ?_
     refine AllReadyH.cons rfl (fun K hK=>?_) (AllReadyH.cons rfl (fun K hK=>?_) AllReadyH.nil)
     ·obtain⟨v1,W2,hr,h2,hkp⟩:=R1.out.1.app1 y b3 R1.out.2 HLY.out.1 50
      refine step_appI rfl (.tmp 23) (.tmp 26) rfl u5 rfl b3 rfl v1 W1 W2 hr ?_
      simp only[Act.put,aA,aB,aC,aD,aE,aF];clear hr;have R2:Hid (rg w W2 w.heap.size PB [.int .i64 x,.int .i64 y,.int .i64 z,.bool e,.int .u32 (i:Int),.bool r,.int .i64 d,.slice ao m c] v1 u6 (L1++[y]) L2):=h2
      clear h2 hkp;refine hK.out _ _ ⟨R2.out.p.cell 1 _ rfl,R2.out.p.cell 2 _ rfl⟩ (fun hS2=>?_)
      clear hS hK K;have hS:=hS2
      clear hS2;refine wpAnyH_all (rs:=[8]) (by kernel_rfl) (by simp) ?_
      refine AllReadyH.cons rfl (fun K hK=>?_) AllReadyH.nil
      go_simp;have R3:Hid (rg w (W2.alloc (.cells #[.int .i64 z] 3)) w.heap.size PB [.int .i64 x,.int .i64 y,.int .i64 z,.bool e,.int .u32 (i:Int),.bool r,.int .i64 d,.slice ao m c] v1 u6 (L1++[y]) L2∧(W2.alloc (.cells #[.int .i64 z] 3)).heap[W2.heap.size]?=some (.cells #[.int .i64 z] 3)):=⟨R2.out.alloc' _,heap_alloc_new W2 _⟩
      refine hK.out _ _ ⟨R3.out.1.p.cell 1 _ rfl,R3.out.1.p.cell 2 _ rfl⟩ (fun hS2=>?_)
      clear hS hK K;have hS:=hS2
      clear hS2;generalize W2.heap.size=b8 at *;generalize hW3:(W2.alloc (.cells #[.int .i64 z] 3))=W3 at *;clear hW3;refine wpAnyH_all (rs:=[9]) (by kernel_rfl) (by simp) ?_
      refine AllReadyH.cons rfl (fun K hK=>?_) AllReadyH.nil
      obtain⟨v2,W4,hr,h2,hkp⟩:=R3.out.1.app2 z b8 R3.out.2 HLY.out.2 50
      refine step_appI rfl (.tmp 28) (.tmp 31) rfl u6 rfl b8 rfl v2 W3 W4 hr ?_
      simp only[Act.put,aA,aB,aC,aD,aE,aF];clear hr;have R4:Hid (rg w W4 w.heap.size PB [.int .i64 x,.int .i64 y,.int .i64 z,.bool e,.int .u32 (i:Int),.bool r,.int .i64 d,.slice ao m c] v1 v2 (L1++[y]) (L2++[z])):=h2
      clear h2 hkp;refine hK.out _ _ ⟨R4.out.p.cell 1 _ rfl,R4.out.p.cell 2 _ rfl⟩ (fun hS2=>?_)
      clear hS hK K;have hS:=hS2
      clear hS2;refine wT (i:=10) (v:=v1) rfl (by kernel_rfl) (by kernel_rfl) (by kernel_rfl) (fun _ _ _ h=>h) (Or.inl ⟨by rfl,?_⟩) hS ?_
      ·intro W hSw;clear hS;go_simp
      simp only[Act.put,aA,aB,aC,aD,aE,aF];refine wT (i:=11) (v:=v2) rfl (by kernel_rfl) (by kernel_rfl) (by kernel_rfl) (fun _ _ _ h=>h) (Or.inl ⟨by rfl,?_⟩) hS ?_
      ·intro W hSw;clear hS;go_simp
      simp only[Act.put,aA,aB,aC,aD,aE,aF];refine wpAnyH_done (by kernel_rfl) ?_ _
      clear hS;have FT:Hid (rg w W4 w.heap.size PB [.int .i64 x,.int .i64 y,.int .i64 z,.bool e,.int .u32 (i:Int),.bool r,.int .i64 d,.slice ao m c] v1 v2 (L1++[y]) (L2++[z])):=R4.out
      by_cases hw:(x == 2 || x == 3)=true
      ·have HWJ:Hid (∀ W,Calls Tryz.prog 167 #[bxV x y z e i r d ao m c] W fun o w'=>o = .returned (.bool true)∧Below W.heap.size W w'):=fun W=>hw ▸ HWI.out W
       have HWT:Hid ((x == 2 || x == 3)=true):=hw
       clear hw HWI;go_wp2_with (first
        | (refine wpList_load_mid (P:=Tryz.prog) rfl 97 _ rfl PB 0 rfl _ _ FT.out.p.load Tryz.underlying97 rfl sz95 ?_)
        | (go_at_call 167;refine (HWJ.out _).mono ?_;rintro o w5 ⟨rfl,hb5⟩))
       go_roundw
       case rel=>
        refine⟨k+1,q+1,by omega,by go_num,by go_num,by omega,?_,HAL.out,?_⟩
        ·rw[HW.out,← HQ.out,if_pos HWT.out]
        ·rw[HYY.out,HZZ.out]
         exact FT.out.t.below hb5
       case measure=>simp[intOf];omega
      ·have hw':(x == 2 || x == 3)=false:=by simpa using hw
       have HWJ:Hid (∀ W,Calls Tryz.prog 167 #[bxV x y z e i r d ao m c] W fun o w'=>o = .returned (.bool false)∧Below W.heap.size W w'):=fun W=>hw' ▸ HWI.out W
       have HWT:Hid (¬ (x == 2 || x == 3)=true):=hw
       clear hw hw' HWI;go_wp2_with (first
        | (refine wpList_load_mid (P:=Tryz.prog) rfl 97 _ rfl PB 0 rfl _ _ FT.out.p.load Tryz.underlying97 rfl sz95 ?_)
        | (go_at_call 167;refine (HWJ.out _).mono ?_;rintro o w5 ⟨rfl,hb5⟩))
       go_roundw
       case rel=>
        refine⟨k+1,q,by omega,by go_num,rfl,by omega,?_,HAL.out,?_⟩
        ·rw[HW.out,← HQ.out,if_neg HWT.out];rfl
        ·rw[HYY.out,HZZ.out]
         exact FT.out.t.below hb5
       case measure=>simp[intOf];omega
     ·go_simp;have R2:Hid (rg w (W1.alloc (.cells #[.int .i64 z] 3)) w.heap.size PB [.int .i64 x,.int .i64 y,.int .i64 z,.bool e,.int .u32 (i:Int),.bool r,.int .i64 d,.slice ao m c] u5 u6 L1 L2∧(W1.alloc (.cells #[.int .i64 z] 3)).heap[b3]?=some (.cells #[.int .i64 y] 3)∧(W1.alloc (.cells #[.int .i64 z] 3)).heap[W1.heap.size]?=some (.cells #[.int .i64 z] 3)):=⟨R1.out.1.alloc' _,(Below.heap_alloc _ _ _ (lt_of_some R1.out.2)).trans R1.out.2,heap_alloc_new W1 _⟩
      have N8:Hid (u5.ownBlock≠some W1.heap.size):=fun e=>Nat.lt_irrefl _ (HLT1.out.1 _ e)
      refine hK.out _ _ ⟨R2.out.1.p.cell 1 _ rfl,R2.out.1.p.cell 2 _ rfl⟩ (fun hS2=>?_)
      clear hS hK K;have hS:=hS2
      clear hS2;generalize W1.heap.size=b8 at *;generalize hW2:(W1.alloc (.cells #[.int .i64 z] 3))=W2 at *;clear hW2;refine wpAnyH_all (rs:=[4]) (by kernel_rfl) (by simp) ?_
      refine AllReadyH.cons rfl (fun K hK=>?_) AllReadyH.nil
      obtain⟨v1,W3,hr,h2,hkp⟩:=R2.out.1.app1 y b3 R2.out.2.1 HLY.out.1 50
      refine step_appI rfl (.tmp 23) (.tmp 26) rfl u5 rfl b3 rfl v1 W2 W3 hr ?_
      simp only[Act.put,aA,aB,aC,aD,aE,aF];clear hr;have R3:Hid (rg w W3 w.heap.size PB [.int .i64 x,.int .i64 y,.int .i64 z,.bool e,.int .u32 (i:Int),.bool r,.int .i64 d,.slice ao m c] v1 u6 (L1++[y]) L2∧W3.heap[b8]?=some (.cells #[.int .i64 z] 3)):=⟨h2,hkp _ _ N8.out R2.out.2.2⟩
      clear h2 hkp;refine hK.out _ _ ⟨R3.out.1.p.cell 1 _ rfl,R3.out.1.p.cell 2 _ rfl⟩ (fun hS2=>?_)
      clear hS hK K;have hS:=hS2
      clear hS2;refine wpAnyH_all (rs:=[9]) (by kernel_rfl) (by simp) ?_
      refine AllReadyH.cons rfl (fun K hK=>?_) AllReadyH.nil
      obtain⟨v2,W4,hr,h2,hkp⟩:=R3.out.1.app2 z b8 R3.out.2 HLY.out.2 50
      refine step_appI rfl (.tmp 28) (.tmp 31) rfl u6 rfl b8 rfl v2 W3 W4 hr ?_
      simp only[Act.put,aA,aB,aC,aD,aE,aF];clear hr;have R4:Hid (rg w W4 w.heap.size PB [.int .i64 x,.int .i64 y,.int .i64 z,.bool e,.int .u32 (i:Int),.bool r,.int .i64 d,.slice ao m c] v1 v2 (L1++[y]) (L2++[z])):=h2
      clear h2 hkp;refine hK.out _ _ ⟨R4.out.p.cell 1 _ rfl,R4.out.p.cell 2 _ rfl⟩ (fun hS2=>?_)
      clear hS hK K;have hS:=hS2
      clear hS2;refine wT (i:=10) (v:=v1) rfl (by kernel_rfl) (by kernel_rfl) (by kernel_rfl) (fun _ _ _ h=>h) (Or.inl ⟨by rfl,?_⟩) hS ?_
      ·intro W hSw;clear hS;go_simp
      simp only[Act.put,aA,aB,aC,aD,aE,aF];refine wT (i:=11) (v:=v2) rfl (by kernel_rfl) (by kernel_rfl) (by kernel_rfl) (fun _ _ _ h=>h) (Or.inl ⟨by rfl,?_⟩) hS ?_
      ·intro W hSw;clear hS;go_simp
      simp only[Act.put,aA,aB,aC,aD,aE,aF];refine wpAnyH_done (by kernel_rfl) ?_ _
      clear hS;have FT:Hid (rg w W4 w.heap.size PB [.int .i64 x,.int .i64 y,.int .i64 z,.bool e,.int .u32 (i:Int),.bool r,.int .i64 d,.slice ao m c] v1 v2 (L1++[y]) (L2++[z])):=R4.out
      by_cases hw:(x == 2 || x == 3)=true
      ·have HWJ:Hid (∀ W,Calls Tryz.prog 167 #[bxV x y z e i r d ao m c] W fun o w'=>o = .returned (.bool true)∧Below W.heap.size W w'):=fun W=>hw ▸ HWI.out W
       have HWT:Hid ((x == 2 || x == 3)=true):=hw
       clear hw HWI;go_wp2_with (first
        | (refine wpList_load_mid (P:=Tryz.prog) rfl 97 _ rfl PB 0 rfl _ _ FT.out.p.load Tryz.underlying97 rfl sz95 ?_)
        | (go_at_call 167;refine (HWJ.out _).mono ?_;rintro o w5 ⟨rfl,hb5⟩))
       go_roundw
       case rel=>
        refine⟨k+1,q+1,by omega,by go_num,by go_num,by omega,?_,HAL.out,?_⟩
        ·rw[HW.out,← HQ.out,if_pos HWT.out]
        ·rw[HYY.out,HZZ.out]
         exact FT.out.t.below hb5
       case measure=>simp[intOf];omega
      ·have hw':(x == 2 || x == 3)=false:=by simpa using hw
       have HWJ:Hid (∀ W,Calls Tryz.prog 167 #[bxV x y z e i r d ao m c] W fun o w'=>o = .returned (.bool false)∧Below W.heap.size W w'):=fun W=>hw' ▸ HWI.out W
       have HWT:Hid (¬ (x == 2 || x == 3)=true):=hw
       clear hw hw' HWI;go_wp2_with (first
        | (refine wpList_load_mid (P:=Tryz.prog) rfl 97 _ rfl PB 0 rfl _ _ FT.out.p.load Tryz.underlying97 rfl sz95 ?_)
        | (go_at_call 167;refine (HWJ.out _).mono ?_;rintro o w5 ⟨rfl,hb5⟩))
       go_roundw
       case rel=>
        refine⟨k+1,q,by omega,by go_num,rfl,by omega,?_,HAL.out,?_⟩
        ·rw[HW.out,← HQ.out,if_neg HWT.out];rfl
        ·rw[HYY.out,HZZ.out]
         exact FT.out.t.below hb5
       case measure=>simp[intOf];omega
    ·go_simp;have R1:Hid (rg w (w4.alloc (.cells #[.int .i64 z] 3)).drew w.heap.size PB [.int .i64 x,.int .i64 y,.int .i64 z,.bool e,.int .u32 (i:Int),.bool r,.int .i64 d,.slice ao m c] u5 u6 L1 L2∧(w4.alloc (.cells #[.int .i64 z] 3)).drew.heap[w4.heap.size]?=some (.cells #[.int .i64 z] 3)):=⟨R0.out.alloc _,heap_new_drew w4 _⟩
     have N5:Hid (u5.ownBlock≠some w4.heap.size):=fun e=>Nat.lt_irrefl _ (HLT.out.1 _ e)
     refine hK.out _ _ ⟨R1.out.1.p.cell 1 _ rfl,R1.out.1.p.cell 2 _ rfl⟩ (fun hS2=>?_)
     clear hS hK K;have hS:=hS2
     clear hS2;generalize w4.heap.size=b8 at *;generalize hW1:(w4.alloc (.cells #[.int .i64 z] 3)).drew=W1 at *;clear hW1 HLT;refine wpAnyH_all (rs:=[3]) (by kernel_rfl) (by simp) ?_
     refine AllReadyH.cons rfl (fun K hK=>?_) AllReadyH.nil
     go_simp;have R2:Hid (rg w (W1.alloc (.cells #[.int .i64 y] 3)) w.heap.size PB [.int .i64 x,.int .i64 y,.int .i64 z,.bool e,.int .u32 (i:Int),.bool r,.int .i64 d,.slice ao m c] u5 u6 L1 L2∧(W1.alloc (.cells #[.int .i64 y] 3)).heap[b8]?=some (.cells #[.int .i64 z] 3)∧(W1.alloc (.cells #[.int .i64 y] 3)).heap[W1.heap.size]?=some (.cells #[.int .i64 y] 3)):=⟨R1.out.1.alloc' _,(Below.heap_alloc _ _ _ (lt_of_some R1.out.2)).trans R1.out.2,heap_alloc_new W1 _⟩
     refine hK.out _ _ ⟨R2.out.1.p.cell 1 _ rfl,R2.out.1.p.cell 2 _ rfl⟩ (fun hS2=>?_)
     clear hS hK K;have hS:=hS2
     clear hS2;generalize W1.heap.size=b3 at *;generalize hW2:(W1.alloc (.cells #[.int .i64 y] 3))=W2 at *;clear hW2;refine wpAnyH_all (rs:=[4]) (by kernel_rfl) (by simp) ?_
     refine AllReadyH.cons rfl (fun K hK=>?_) AllReadyH.nil
     obtain⟨v1,W3,hr,h2,hkp⟩:=R2.out.1.app1 y b3 R2.out.2.2 HLY.out.1 50
     refine step_appI rfl (.tmp 23) (.tmp 26) rfl u5 rfl b3 rfl v1 W2 W3 hr ?_
     simp only[Act.put,aA,aB,aC,aD,aE,aF];clear hr;have R3:Hid (rg w W3 w.heap.size PB [.int .i64 x,.int .i64 y,.int .i64 z,.bool e,.int .u32 (i:Int),.bool r,.int .i64 d,.slice ao m c] v1 u6 (L1++[y]) L2∧W3.heap[b8]?=some (.cells #[.int .i64 z] 3)):=⟨h2,hkp _ _ N5.out R2.out.2.1⟩
     clear h2 hkp;refine hK.out _ _ ⟨R3.out.1.p.cell 1 _ rfl,R3.out.1.p.cell 2 _ rfl⟩ (fun hS2=>?_)
     clear hS hK K;have hS:=hS2
     clear hS2;refine wpAnyH_all (rs:=[9]) (by kernel_rfl) (by simp) ?_
     refine AllReadyH.cons rfl (fun K hK=>?_) AllReadyH.nil
     obtain⟨v2,W4,hr,h2,hkp⟩:=R3.out.1.app2 z b8 R3.out.2 HLY.out.2 50
     refine step_appI rfl (.tmp 28) (.tmp 31) rfl u6 rfl b8 rfl v2 W3 W4 hr ?_
     simp only[Act.put,aA,aB,aC,aD,aE,aF];clear hr;have R4:Hid (rg w W4 w.heap.size PB [.int .i64 x,.int .i64 y,.int .i64 z,.bool e,.int .u32 (i:Int),.bool r,.int .i64 d,.slice ao m c] v1 v2 (L1++[y]) (L2++[z])):=h2
     clear h2 hkp;refine hK.out _ _ ⟨R4.out.p.cell 1 _ rfl,R4.out.p.cell 2 _ rfl⟩ (fun hS2=>?_)
     clear hS hK K;have hS:=hS2
     clear hS2;refine wT (i:=10) (v:=v1) rfl (by kernel_rfl) (by kernel_rfl) (by kernel_rfl) (fun _ _ _ h=>h) (Or.inl ⟨by rfl,?_⟩) hS ?_
     ·intro W hSw;clear hS;go_simp
     simp only[Act.put,aA,aB,aC,aD,aE,aF];refine wT (i:=11) (v:=v2) rfl (by kernel_rfl) (by kernel_rfl) (by kernel_rfl) (fun _ _ _ h=>h) (Or.inl ⟨by rfl,?_⟩) hS ?_
     ·intro W hSw;clear hS;go_simp
     simp only[Act.put,aA,aB,aC,aD,aE,aF];refine wpAnyH_done (by kernel_rfl) ?_ _
     clear hS;have FT:Hid (rg w W4 w.heap.size PB [.int .i64 x,.int .i64 y,.int .i64 z,.bool e,.int .u32 (i:Int),.bool r,.int .i64 d,.slice ao m c] v1 v2 (L1++[y]) (L2++[z])):=R4.out
     by_cases hw:(x == 2 || x == 3)=true
     ·have HWJ:Hid (∀ W,Calls Tryz.prog 167 #[bxV x y z e i r d ao m c] W fun o w'=>o = .returned (.bool true)∧Below W.heap.size W w'):=fun W=>hw ▸ HWI.out W
      have HWT:Hid ((x == 2 || x == 3)=true):=hw
      clear hw HWI;go_wp2_with (first
       | (refine wpList_load_mid (P:=Tryz.prog) rfl 97 _ rfl PB 0 rfl _ _ FT.out.p.load Tryz.underlying97 rfl sz95 ?_)
       | (go_at_call 167;refine (HWJ.out _).mono ?_;rintro o w5 ⟨rfl,hb5⟩))
      go_roundw
      case rel=>
       refine⟨k+1,q+1,by omega,by go_num,by go_num,by omega,?_,HAL.out,?_⟩
       ·rw[HW.out,← HQ.out,if_pos HWT.out]
       ·rw[HYY.out,HZZ.out]
        exact FT.out.t.below hb5
      case measure=>simp[intOf];omega
     ·have hw':(x == 2 || x == 3)=false:=by simpa using hw
      have HWJ:Hid (∀ W,Calls Tryz.prog 167 #[bxV x y z e i r d ao m c] W fun o w'=>o = .returned (.bool false)∧Below W.heap.size W w'):=fun W=>hw' ▸ HWI.out W
      have HWT:Hid (¬ (x == 2 || x == 3)=true):=hw
      clear hw hw' HWI;go_wp2_with (first
       | (refine wpList_load_mid (P:=Tryz.prog) rfl 97 _ rfl PB 0 rfl _ _ FT.out.p.load Tryz.underlying97 rfl sz95 ?_)
       | (go_at_call 167;refine (HWJ.out _).mono ?_;rintro o w5 ⟨rfl,hb5⟩))
      go_roundw
      case rel=>
       refine⟨k+1,q,by omega,by go_num,rfl,by omega,?_,HAL.out,?_⟩
       ·rw[HW.out,← HQ.out,if_neg HWT.out];rfl
       ·rw[HYY.out,HZZ.out]
        exact FT.out.t.below hb5
      case measure=>simp[intOf];omega
  ·have hkn:bx.take k=bx:=List.take_of_length_le (by have:=HL.out;omega)
   have hT:=HT.out
   have hq:=HQ.out
   rw[hkn] at hT hq
   have HIF:Hid (okBxs st bx↔(q≤1∧(nfY bx).Nodup∧(nfZ bx).Nodup)):=by
    have:=okBxs_iff st bx (fun j hj=>HA.out j hj (by have:=HL.out;omega))
    rw[← hq] at this
    exact this
   have HTT:Hid (twoI w wr w.heap.size u5 u6 (nfY bx) (nfZ bx)):=hT
   have hln:=nfY_len bx
   have HLN:Hid ((nfY bx).length≤100∧(nfZ bx).length≤100):=⟨by have:=HL.out;omega,by have:=HL.out;omega⟩
   clear hkn hT hq hln HT HQ HA;by_cases hq1:q≤1
   ·have hq1':decide ((q:Int)≤1)=true:=by simp;omega
    have HQ1:Hid (q≤1):=hq1
    clear hq1;go_wp2_with fail;refine (differ_own HTT.out.o1 HLN.out.1 HTT.out.s).mono ?_
    rintro o w1 ⟨⟨b1,rfl,h1⟩,hg1,hb1⟩;have H1:Hid ((b1=true↔(nfY bx).Nodup)∧ownsI w1 w.heap.size u6 (nfZ bx)∧Below w.heap.size w w1∧w.heap.size≤w1.heap.size):=by
     refine⟨h1,HTT.out.o2.kept hg1 ?_,HTT.out.b.trans hb1,Nat.le_trans HTT.out.s hg1.size⟩
     cases e:u6.ownBlock with
     | none=>exact Or.inl rfl
     | some g=>exact Or.inr fun e2=>HTT.out.ne g e2.symm e
    clear h1 hg1 hb1;cases b1
    ·go_wp2_with fail;go_ret;refine⟨⟨false,rfl,?_⟩,H1.out.2.2.1⟩
     rw[HIF.out]
     have:=H1.out.1
     simp at this
     simp[this]
    ·go_wp2_with fail;refine (differ_own H1.out.2.1 HLN.out.2 H1.out.2.2.2).mono ?_
     rintro o w2 ⟨⟨b2,rfl,h2⟩,hg2,hb2⟩;have H2:Hid ((b2=true↔(nfZ bx).Nodup)∧Below w.heap.size w w2):=⟨h2,H1.out.2.2.1.trans hb2⟩
     clear h2 hg2 hb2;go_wp2_with fail;go_ret;refine⟨⟨b2,rfl,?_⟩,H2.out.2⟩
     rw[HIF.out,H2.out.1]
     exact⟨fun h=>⟨HQ1.out,(by have:=H1.out.1;simpa using this),h⟩,fun h=>h.2.2⟩
   ·have hq1':decide ((q:Int)≤1)=false:=by simp;omega
    go_wp2_with fail;go_ret;refine⟨⟨false,rfl,?_⟩,HTT.out.b⟩
    rw[HIF.out]
    simp[hq1]
end Go.Proofs.YtaamahohdnbpiaaGreat
