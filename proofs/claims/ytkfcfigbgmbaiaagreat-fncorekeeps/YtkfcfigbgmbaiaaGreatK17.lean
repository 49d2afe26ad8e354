import Derived.Test.YtkfcfigbgmbaiaaGreatK10
import Derived.Test.YtkfcfigbgmbaiaaGreatK16
import Derived.Test.YtkfcfigbgmbaiaaGreatK11
namespace Go.Proofs.YtkfcfigbgmbaiaaGreat
open Go.RowKit
set_option linter.unusedVariables false
set_option maxHeartbeats 16000000
open Go.Value renaming int→I,slice→sL,bool→bO,pointer→pT,agg→aG
open Go.IntKind renaming i64→J
open Go.Ending renaming returned→rT
open Go.Proofs.Tryz renaming prog→Tp
open Go.Sort in
theorem sorted_world {w w':World} {g off:Nat} {d:Array Int} {n:Nat} {os:Array Obj} (hg:g<w.heap.size) (h:w'=grow (putRow (Value.int .i64) (Sort.ahead w n) g off d) os) :
  (∀ b,b≠g→b<w.heap.size→w'.heap[b]?=w.heap[b]?)∧Below g w w':=by
 subst h;have key:∀ b,b≠g→b<w.heap.size→(grow (putRow (Value.int .i64) (Sort.ahead w n) g off d) os).heap[b]?=w.heap[b]?:=by
  intro b hb hl;show ((w.heap.modify g _)++os)[b]?=_
  rw[Array.getElem?_append_left (by simpa using hl),Array.getElem?_modify,if_neg (fun e=>hb e.symm)]
 refine⟨key,rfl,rfl,rfl,?_,fun k hk=>key k (by omega) (by omega)⟩
 show w.heap.size≤((w.heap.modify g _)++os).size
 simp
theorem strict_of_adj (s:List Int) (hs:∀ i j (hi:i<s.length) (hj:j<s.length),i<j→s[i]≤s[j]) (ha:∀ j (hj:j<s.length),0<j→s[j]'hj≠s[j-1]'(by omega)) :
  ∀ j (hj:j<s.length) i (hi:i<s.length),i<j→s[i]<s[j]:=by
 intro j;induction j with
 | zero=>intro hj i hi h;exact absurd h (nN _)
 | succ j ih=>
  intro hj i hi h;have h1:s[j]'(by omega)≤s[j+1]:=hs j (j+1) (by omega) hj (by omega)
  have h2:=ha (j+1) hj (by omega)
  have e:s[j+1-1]'(by omega)=s[j]'(by omega):=rfl
  rw[e] at h2
  have h3:s[j]'(by omega)<s[j+1]:=by omega
  by_cases hij:i=j
  ·subst hij;exact h3
  ·have:=ih (by omega) i hi (by omega)
   omega
theorem compact_nodup (zs:List Int):((Lib.compact (zs.mergeSort fun x y=>decide (x≤y))).length=zs.length)↔zs.Nodup:=by
 have hp:(zs.mergeSort fun x y=>decide (x≤y)).Perm zs:=List.mergeSort_perm _ _
 have hpw:=List.pairwise_mergeSort (le:=fun x y:Int=>decide (x≤y)) (fun a b c h1 h2=>by simp at *;omega) (fun a b=>by simp;omega) zs
 generalize (zs.mergeSort fun x y=>decide (x≤y))=s at *;rw[← hp.nodup_iff,← hp.length_eq]
 have hs:∀ i j (hi:i<s.length) (hj:j<s.length),i<j→s[i]≤s[j]:=by
  intro i j hi hj hij;have:=List.pairwise_iff_getElem.1 hpw i j hi hj hij
  simpa using this
 have hget:∀ j (hj:j<s.length),s.toArray[j]! = s[j]:=by
  intro j hj;rw[getElem!_pos s.toArray j (by simpa using hj)]
  simp
 have hlen:(Lib.compact s).length=((List.range s.length).filter (Lib.keeps s.toArray)).length:=by
  unfold Lib.compact Lib.compactUpTo
  rw[List.length_map]
 rw[hlen]
 have hr:s.length=(List.range s.length).length:=by simp
 conv=>lhs;rhs;rw[hr]
 rw[List.length_filter_eq_length_iff]
 constructor
 ·intro h;have ha:∀ j (hj:j<s.length),0<j→s[j]'hj≠s[j-1]'(by omega):=by
   intro j hj h0;have:=h j (by simpa using hj)
   unfold Lib.keeps at this
   rw[decide_eq_true_iff] at this
   rcases this with e|e
   ·omega
   ·rw[hget j hj,hget (j-1) (by omega)] at e
    exact e
  have hst:=strict_of_adj s hs ha
  rw[List.nodup_iff_pairwise_ne,List.pairwise_iff_getElem]
  intro i j hi hj hij;have:=hst j hj i hi hij
  omega
 ·intro h j hj;have hj':j<s.length:=by simpa using hj
  unfold Lib.keeps
  rw[decide_eq_true_iff]
  by_cases h0:j=0
  ·exact Or.inl h0
  ·refine Or.inr ?_
   rw[hget j hj',hget (j-1) (by omega)]
   intro e;rw[List.nodup_iff_pairwise_ne,List.pairwise_iff_getElem] at h
   exact h (j-1) j (by omega) hj' (by omega) e.symm
open Go.Sort in
theorem allDiffer_any (w:World) (g cap:Nat) (zs:List Int) (hH:Holds (Value.int .i64) w g 0 zs.toArray) (hg:g<w.heap.size) (hcap:zs.length≤cap) (hn:zs.length≤100) :
  Calls Tp 209 #[sL (some ⟨g,0,none⟩) zs.length cap] w fun o w'=>retB o zs.Nodup∧(∀ b,b≠g→b<w.heap.size→w'.heap[b]?=w.heap[b]?)∧Below g w w':=by
 have HS:Hid (Calls Tp 225 #[sL (some ⟨g,0,none⟩) zs.length cap] w fun e w'=>e = rT (.tuple #[])∧Holds (Value.int .i64) w' g 0 (zs.mergeSort fun x y=>decide (x≤y)).toArray∧(∀ b,b≠g→b<w.heap.size→w'.heap[b]?=w.heap[b]?)∧Below g w w'):=by
  refine (Go.Proofs.Tryz.slices_Sort_int g 0 cap zs w hH hg (by omega)).mono ?_
  rintro e w' ⟨rfl,n,os,e1⟩;have hsw:=sorted_world hg e1
  refine⟨rfl,?_,hsw.1,hsw.2⟩
  subst e1;have h1:=holds_putRow (Value.int .i64) (Sort.ahead w n) g 0 zs.toArray (zs.mergeSort fun x y=>decide (x≤y)).toArray (holds_ahead _ _ _ _ _ _ hH) (by simp)
  intro j hj;have h2:=h1 j hj
  rw[cell?_grow _ _ _ (by simpa using hg),frozen?_grow _ _ _ (by simpa using hg)]
  exact h2
 have HC:Hid (∀ W,Holds (Value.int .i64) W g 0 (zs.mergeSort fun x y=>decide (x≤y)).toArray→g<W.heap.size→Calls Tp 226 #[sL (some ⟨g,0,none⟩) zs.length cap] W fun e w'=>(∃ m:Nat,e = rT (sL (some ⟨g,0,none⟩) m cap)∧(m=zs.length↔zs.Nodup))∧(∀ b,b≠g→b<W.heap.size→w'.heap[b]?=W.heap[b]?)∧Below g W w'):=by
  intro W hW hgW;have hl:(zs.mergeSort fun x y=>decide (x≤y)).length=zs.length:=List.length_mergeSort _
  have h1:=Go.Proofs.Tryz.slices_Compact_int g 0 cap (zs.mergeSort fun x y=>decide (x≤y)) W hW (by omega) (by omega)
  rw[hl] at h1
  refine h1.mono ?_
  rintro e w' ⟨rfl,q,e1⟩;have e1':w'=grow (putRow (Value.int .i64) (Sort.ahead W q) g 0 (Lib.compact (zs.mergeSort fun x y=>decide (x≤y))++List.replicate (zs.length-(Lib.compact (zs.mergeSort fun x y=>decide (x≤y))).length) 0).toArray) #[]:=by rw[grow_empty];exact e1
  have hsw:=sorted_world hgW e1'
  exact⟨⟨_,rfl,compact_nodup zs⟩,hsw.1,hsw.2⟩
 have HN:Hid (zs.length≤100):=hn
 have HG:Hid (g<w.heap.size):=hg
 clear hH hcap hn hg;generalize zs.length=n at *;go_enter Tryz.func209,Tryz.ntmps209
 go_wp2_with fail;refine HS.out.mono ?_
 rintro o w1 ⟨rfl,h1,h2,h3⟩;have H1:Hid (Holds (Value.int .i64) w1 g 0 (zs.mergeSort fun x y=>decide (x≤y)).toArray∧(∀ b,b≠g→b<w.heap.size→w1.heap[b]?=w.heap[b]?)∧Below g w w1):=⟨h1,h2,h3⟩
 clear h1 h2 h3;go_wp2_with fail;refine (HC.out w1 H1.out.1 (nL HG.out H1.out.2.2.size)).mono ?_
 rintro o w2 ⟨⟨m,rfl,hm⟩,h2,h3⟩;have H2:Hid ((m=n↔zs.Nodup)∧(∀ b,b≠g→b<w.heap.size→w2.heap[b]?=w.heap[b]?)∧Below g w w2):=⟨hm,fun b hb hl=>(h2 b hb (nL hl H1.out.2.2.size)).trans (H1.out.2.1 b hb hl),H1.out.2.2.trans h3⟩
 clear h2 h3 hm;go_wp2_with fail;go_ret;refine⟨⟨_,rfl,?_⟩,H2.out.2⟩
 rw[← H2.out.1]
 simp
 try omega
theorem allDiffer_nil (w:World):Calls Tp 209 #[sL none 0 0] w fun o w'=>o = rT (bO true)∧w'=w:=by
 have HS:Hid (∀ W,Calls Tp 225 #[sL none 0 0] W fun e w'=>e = rT (.tuple #[])∧w'=W):=fun W=>Go.Proofs.Tryz.slices_Sort_int_none none 0 W
 have HC:Hid (∀ W,Calls Tp 226 #[sL none 0 0] W fun e w'=>e = rT (sL none 0 0)∧w'=W):=fun W=>Go.Proofs.Tryz.slices_Compact_int_empty none 0 W
 go_enter Tryz.func209,Tryz.ntmps209
 go_wp2_with (first
  | (go_at_call 225;refine (HS.out _).mono ?_;rintro o w1 ⟨rfl,rfl⟩)
  | (go_at_call 226;refine (HC.out _).mono ?_;rintro o w1 ⟨rfl,rfl⟩))
 go_ret;exact⟨rfl,rfl⟩
set_option maxRecDepth 20000
variable {W w0 W':World} {B PB:Nat} {v1 v2 v:Value} {l1 l2 l:List Int} {L:List Value}
theorem pw_turn {α:Type} {R S:α→α→Prop} (H:∀ a b,R a b→S a b):∀ {l:List α},l.Pairwise R→l.Pairwise S:=by
 intro l;induction l with
 | nil=>intro _;exact List.Pairwise.nil
 | cons a l ih=>
  intro h;have h':=List.pairwise_cons.1 h
  exact List.pairwise_cons.2 ⟨fun b hb=>H a b (h'.1 b hb),ih h'.2⟩
theorem Tryz.info3:(Tp.info? 3).map (fun i=>(i.zero,i.size,i.bytes))=some (some (I J 0),1,8):=by kernel_rfl
def ownsI (w:World) (B:Nat) (v:Value) (l:List Int):Prop:=w.ownsRow B 3 1 v l.length (l.map (Value.int .i64))
structure twoI (w0 W:World) (B:Nat) (v1 v2:Value) (l1 l2:List Int):Prop where
 o1:ownsI W B v1 l1
 o2:ownsI W B v2 l2
 ne:∀ g,v1.ownBlock=some g→v2.ownBlock≠some g
 b:Below B w0 W
 s:B≤W.heap.size
def wireN (bx:List R8):Nat:=bx.countP (fun b=>b.x == 2 || b.x == 3)
def nfY (bx:List R8):List Int:=(bx.filter (fun b=>b.x != 0)).map (·.y)
def nfZ (bx:List R8):List Int:=(bx.filter (fun b=>b.x != 0)).map (·.z)
theorem app1 (ho:ownsI W B v l) (z:Int) (b:Nat) (hb:W.heap[b]?=some (.cells #[I J z] 3)) (hl:l.length≤100) (hB:B≤W.heap.size) (R:TypeId) :
  ∃ v' W',(Builtin.append_ #[218,218] R #[v,sL (some ⟨b,0,none⟩) 1 1]).run Tp W = .ok v' W'∧ownsI W' B v' (l++[z])∧W.grownBy W' v.ownBlock∧(v'.ownBlock=v.ownBlock∨v'.ownBlock=some W.heap.size):=by
 obtain⟨i0,hi,hz0,hz1,hz2⟩:=info_parts Tryz.info3
 obtain⟨v',w',hr,h2,h3,_,h5⟩:=run_append_own_at (P:=Tp) W B 218 R 3 i0 (I J 0) 1 8 Tryz.underlying218 hi hz0 hz1 hz2 rfl (by decide) v l.length (l.map (Value.int .i64)) ho ⟨b,0,none⟩ 1 1 [I J z] rfl (by
  intro j u hj;match j,hj with
  | 0,hj=>simp at hj;subst hj;simp[Addr.add,World.cell?,hb]) (by intro u hu;simp at hu;subst hu;rfl) (by unfold maxLen;omega) (by omega) hB
 refine⟨v',w',hr,?_,h3,h5⟩
 unfold ownsI
 rw[List.length_append,List.map_append]
 exact h2
theorem ownsI.kept {row:Option Nat} (h:ownsI W B v l) (hg:W.grownBy W' row) (hne:v.ownBlock=none∨v.ownBlock≠row):ownsI W' B v l:=World.ownsRow.kept h hg hne
theorem ownsI.alloc (h:ownsI W B v l) (o:Obj):ownsI (W.alloc o) B v l:=World.ownsRow.alloc h o
theorem ownsI.drew (h:ownsI W B v l):ownsI W.drew B v l:=h
theorem ownsI.lt (h:ownsI W B v l) (g:Nat) (hg:v.ownBlock=some g):B≤g∧g<W.heap.size:=World.ownsRow.lt h g hg
theorem take_map_snoc {α:Type} (f:List R8→List α) (g:R8→List α) (hf:∀ l b,f (l++[b])=f l++g b) (bx:List R8) (k:Nat) (h:k<bx.length):f (bx.take (k+1))=f (bx.take k)++g bx[k]:=by
 rw[List.take_succ_eq_append_getElem h,hf]
theorem nfY_take (bx:List R8) (k:Nat) (h:k<bx.length):nfY (bx.take (k+1))=nfY (bx.take k)++(if (bx[k].x != 0)=true then [bx[k].y] else []):=
 take_map_snoc nfY (fun b=>if (b.x != 0)=true then [b.y] else []) (fun l b=>by unfold nfY;rw[List.filter_append,List.map_append];congr 1;by_cases hb:(b.x != 0)=true <;> simp[hb]) bx k h
theorem nfZ_take (bx:List R8) (k:Nat) (h:k<bx.length):nfZ (bx.take (k+1))=nfZ (bx.take k)++(if (bx[k].x != 0)=true then [bx[k].z] else []):=
 take_map_snoc nfZ (fun b=>if (b.x != 0)=true then [b.z] else []) (fun l b=>by unfold nfZ;rw[List.filter_append,List.map_append];congr 1;by_cases hb:(b.x != 0)=true <;> simp[hb]) bx k h
theorem wireN_take (bx:List R8) (k:Nat) (h:k<bx.length):wireN (bx.take (k+1))=wireN (bx.take k)+(if (bx[k].x == 2 || bx[k].x == 3)=true then 1 else 0):=by
 unfold wireN
 rw[List.take_succ_eq_append_getElem h,List.countP_append]
 simp[List.countP_cons]
theorem nfY_len (bx:List R8):(nfY bx).length≤bx.length∧(nfZ bx).length≤bx.length:=by
 unfold nfY nfZ
 rw[List.length_map,List.length_map]
 exact⟨List.length_filter_le _ _,List.length_filter_le _ _⟩
theorem okBxs_iff (st:Int) (bx:List R8) (hA:∀ j (hj:j<bx.length),okBx st bx[j]):okBxs st bx↔(wireN bx≤1∧(nfY bx).Nodup∧(nfZ bx).Nodup):=by
 have hb:busyN bx=wireN bx:=by
  unfold busyN wireN
  apply List.countP_congr
  intro b hb;obtain⟨j,hj,rfl⟩:=List.getElem_of_mem hb
  have:=hA j hj
  unfold okBx at this
  split at this
  ·rename_i h0;simp[h0]
  ·rename_i h0
   simp[h0]
   omega
 have hf:(∀ i j (hi:i<bx.length) (hj:j<bx.length),i<j→far bx[i] bx[j])↔((nfY bx).Nodup∧(nfZ bx).Nodup):=by
  have e1:(∀ i j (hi:i<bx.length) (hj:j<bx.length),i<j→far bx[i] bx[j])↔bx.Pairwise far:=List.pairwise_iff_getElem.symm
  have e2:(nfY bx).Nodup↔bx.Pairwise (fun a b=>a.x≠0→b.x≠0→a.y≠b.y):=by
   unfold nfY
   rw[List.nodup_iff_pairwise_ne,List.pairwise_map,List.pairwise_filter]
   simp
  have e3:(nfZ bx).Nodup↔bx.Pairwise (fun a b=>a.x≠0→b.x≠0→a.z≠b.z):=by
   unfold nfZ
   rw[List.nodup_iff_pairwise_ne,List.pairwise_map,List.pairwise_filter]
   simp
  rw[e1,e2,e3,← List.pairwise_and_iff]
  constructor
  ·exact fun h=>pw_turn (fun a b hh=>⟨fun h1 h2=>(hh h1 h2).1,fun h1 h2=>(hh h1 h2).2⟩) h
  ·exact fun h=>pw_turn (fun a b hh h1 h2=>⟨hh.1 h1 h2,hh.2 h1 h2⟩) h
 unfold okBxs
 rw[hf,hb]
 exact⟨fun h=>⟨h.2.2,h.2.1.1,h.2.1.2⟩,fun h=>⟨hA,⟨h.2.1,h.2.2⟩,h.1⟩⟩
theorem twoI.below (h:twoI w0 W B v1 v2 l1 l2) (hb:Below W.heap.size W W'):twoI w0 W' B v1 v2 l1 l2:=by
 have hg:W.grownBy W' none:=⟨hb.os,hb.tape,hb.output,hb.size,fun k hk _=>hb.block k hk⟩
 have hne:∀ v:Value,v.ownBlock=none∨v.ownBlock≠none:=fun v=>by cases v.ownBlock <;> simp
 exact⟨h.o1.kept hg (hne v1),h.o2.kept hg (hne v2),h.ne,h.b.trans (hb.mono h.s),nT h.s hb.size⟩
open Go.Sort in
theorem differ_own (h:ownsI W B v l) (hl:l.length≤100) (hB:B≤W.heap.size) :
  Calls Tp 209 #[v] W fun o W'=>retB o l.Nodup∧W.grownBy W' v.ownBlock∧Below B W W':=by
 by_cases hv:v = sL none 0 0
 ·subst hv;have hl0:l=[]:=by
   rcases h.2 with⟨_,hn⟩|⟨g,cap,cur,e,_⟩
   ·exact List.length_eq_zero_iff.1 hn
   ·cases e
  subst hl0;refine (allDiffer_nil W).mono ?_
  rintro o W' ⟨rfl,rfl⟩;exact⟨⟨true,rfl,by simp⟩,⟨rfl,rfl,rfl,nR _,fun _ _ _=>rfl⟩,bW _ _⟩
 ·have h':=h
  obtain⟨g,cap,rfl,h1,h2,h3,h4⟩:=own_slice h hv
  have hH:Holds (Value.int .i64) W g 0 l.toArray:=by
   intro j hj;have hj':j<l.length:=by simpa using hj
   refine⟨?_,by rw[Nat.zero_add];exact World.ownsRow.frozenAt h' j⟩
   rw[Nat.zero_add,h4 W rfl j (by omega),List.getElem?_map,getElem!_pos l.toArray j hj]
   simp[List.getElem?_eq_getElem hj']
  refine (allDiffer_any W g cap l hH h2 h3 hl).mono ?_
  rintro o W' ⟨hr,hk,hb⟩;exact⟨hr,⟨hb.os,hb.tape,hb.output,hb.size,fun k hk1 hk2=>hk k (fun e=>hk2 (by rw[e];rfl)) hk1⟩,hb.mono h1⟩
theorem step_appI {ops:Array Oper} {o:Oper} {a:Act} {K:Act→World→Prop} {Q:Exit→Act→World→Prop} {E:Prop} (hgd:o.guard=none) (s x:Operand)
  (ho:o.op = .call { callee:=.builtin .append,args:=#[s,x],argTypes:=#[218,218] }) (v:Value) (hs:a.eval s=v) (b:Nat) (hx:a.eval x = sL (some ⟨b,0,none⟩) 1 1) (v':Value) (W W':World)
  (hr:(Builtin.append_ #[218,218] o.type #[v,sL (some ⟨b,0,none⟩) 1 1]).run Tp W = .ok v' W') (h:K (a.put o.dst v') W') :
  if Region.wanted o (yielded ops a.tmps)=true then Oper.wp Tp o a W K Q else E:=by
 have hw:Region.wanted o (yielded ops a.tmps)=true:=by simp[Region.wanted,hgd]
 rw[if_pos hw]
 unfold Oper.wp execOp
 simp only[ho,resolve,invoke,builtin,Sem.run_bind,Sem.run_pure,Result.andThen_ok,List.map_toArray,List.map_cons,List.map_nil,hs,hx,hr]
 exact h
theorem twoI.alloc (h:twoI w0 W B v1 v2 l1 l2) (o:Obj):twoI w0 (W.alloc o).drew B v1 v2 l1 l2:=⟨(h.o1.alloc o).drew,(h.o2.alloc o).drew,h.ne,(h.b.alloc h.s o).drew,by show B≤(W.alloc o).heap.size;have:=h.s;simp;omega⟩
theorem appT1 (h:twoI w0 W B v1 v2 l1 l2) (y:Int) (b:Nat) (hb:W.heap[b]?=some (.cells #[I J y] 3)) (hl:l1.length≤100) (R:TypeId) :
  ∃ v' W',(Builtin.append_ #[218,218] R #[v1,sL (some ⟨b,0,none⟩) 1 1]).run Tp W = .ok v' W'∧twoI w0 W' B v' v2 (l1++[y]) l2∧(∀ k,k<W.heap.size→v1.ownBlock≠some k→W'.heap[k]?=W.heap[k]?)∧W.heap.size≤W'.heap.size∧(v'.ownBlock=v1.ownBlock∨v'.ownBlock=some W.heap.size):=by
 obtain⟨v',W',hr,ho,hg,hat⟩:=app1 h.o1 y b hb hl h.s R
 have hn:∀ g,v'.ownBlock=some g→v2.ownBlock≠some g:=by
  intro g hg' e2;rcases hat with e|e
  ·exact h.ne g (e ▸ hg') e2
  ·rw[e] at hg'
   cases hg'
   exact absurd (h.o2.lt _ e2).2 (Nat.lt_irrefl _)
 have hk:v2.ownBlock=none∨v2.ownBlock≠v1.ownBlock:=by
  cases e:v2.ownBlock with
  | none=>exact Or.inl rfl
  | some g=>exact Or.inr fun e2=>h.ne g e2.symm e
 refine⟨v',W',hr,⟨ho,h.o2.kept hg hk,hn,h.b.grown hg h.s (fun k hk=>(h.o1.lt k hk).1),nT h.s hg.size⟩,fun k h1 h2=>hg.block k h1 (fun e=>h2 e.symm),hg.size,hat⟩
theorem twoI.symm (h:twoI w0 W B v1 v2 l1 l2):twoI w0 W B v2 v1 l2 l1:=⟨h.o2,h.o1,fun g h1 h2=>h.ne g h2 h1,h.b,h.s⟩
theorem appT2 (h:twoI w0 W B v1 v2 l1 l2) (y:Int) (b:Nat) (hb:W.heap[b]?=some (.cells #[I J y] 3)) (hl:l2.length≤100) (R:TypeId) :
  ∃ v' W',(Builtin.append_ #[218,218] R #[v2,sL (some ⟨b,0,none⟩) 1 1]).run Tp W = .ok v' W'∧twoI w0 W' B v1 v' l1 (l2++[y])∧(∀ k,k<W.heap.size→v2.ownBlock≠some k→W'.heap[k]?=W.heap[k]?)∧W.heap.size≤W'.heap.size∧(v'.ownBlock=v2.ownBlock∨v'.ownBlock=some W.heap.size):=by
 obtain⟨v',W',hr,h1,h2,h3,h4⟩:=appT1 h.symm y b hb hl R
 exact⟨v',W',hr,h1.symm,h2,h3,h4⟩
structure rg (w0 W:World) (B PB:Nat) (L:List Value) (v1 v2:Value) (l1 l2:List Int):Prop where
 t:twoI w0 W B v1 v2 l1 l2
 p:blk W PB L 166
 n1:v1.ownBlock≠some PB
 n2:v2.ownBlock≠some PB
theorem rg.alloc (h:rg w0 W B PB L v1 v2 l1 l2) (o:Obj):rg w0 (W.alloc o).drew B PB L v1 v2 l1 l2:=⟨h.t.alloc o,h.p.alloc o,h.n1,h.n2⟩
theorem rg.alloc' (h:rg w0 W B PB L v1 v2 l1 l2) (o:Obj):rg w0 (W.alloc o) B PB L v1 v2 l1 l2:=⟨⟨h.t.o1.alloc o,h.t.o2.alloc o,h.t.ne,h.t.b.alloc h.t.s o,by have:=h.t.s;simp;omega⟩,h.p.alloc o,h.n1,h.n2⟩
theorem heap_new_drew (W:World) (o:Obj):(W.alloc o).drew.heap[W.heap.size]?=some o:=heap_alloc_new W o
theorem rg.app1 (h:rg w0 W B PB L v1 v2 l1 l2) (y:Int) (b:Nat) (hb:W.heap[b]?=some (.cells #[I J y] 3)) (hl:l1.length≤100) (R:TypeId) :
  ∃ v' W',(Builtin.append_ #[218,218] R #[v1,sL (some ⟨b,0,none⟩) 1 1]).run Tp W = .ok v' W'∧rg w0 W' B PB L v' v2 (l1++[y]) l2∧(∀ k x,v1.ownBlock≠some k→W.heap[k]?=some x→W'.heap[k]?=some x):=by
 obtain⟨v',W',hr,h1,h2,h3,h4⟩:=appT1 h.t y b hb hl R
 refine⟨v',W',hr,⟨h1,(h2 PB h.p.lt h.n1).trans h.p,?_,h.n2⟩,fun k x hk hx=>(h2 k (lt_of_some hx) hk).trans hx⟩
 rcases h4 with e|e
 ·rw[e];exact h.n1
 ·rw[e]
  intro e2;cases e2
  exact absurd h.p.lt (Nat.lt_irrefl _)
theorem rg.app2 (h:rg w0 W B PB L v1 v2 l1 l2) (y:Int) (b:Nat) (hb:W.heap[b]?=some (.cells #[I J y] 3)) (hl:l2.length≤100) (R:TypeId) :
  ∃ v' W',(Builtin.append_ #[218,218] R #[v2,sL (some ⟨b,0,none⟩) 1 1]).run Tp W = .ok v' W'∧rg w0 W' B PB L v1 v' l1 (l2++[y])∧(∀ k x,v2.ownBlock≠some k→W.heap[k]?=some x→W'.heap[k]?=some x):=by
 obtain⟨v',W',hr,h1,h2,h3,h4⟩:=appT2 h.t y b hb hl R
 refine⟨v',W',hr,⟨h1,(h2 PB h.p.lt h.n2).trans h.p,h.n1,?_⟩,fun k x hk hx=>(h2 k (lt_of_some hx) hk).trans hx⟩
 rcases h4 with e|e
 ·rw[e];exact h.n2
 ·rw[e]
  intro e2;cases e2
  exact absurd h.p.lt (Nat.lt_irrefl _)
theorem validBoxes_any (w:World) (a:Option Addr) (n cap:Nat) (bx:List R8) (st:Int) (h:isR8s w a n cap bx) (hn:n≤8) (hst:0≤st∧st≤1000000) :
  Calls Tp 171 #[sL a n cap,I J st] w fun o w'=>retB o (okBxs st bx)∧Below w.heap.size w w':=by
 have HH:Hid (isR8s w a n cap bx):=h
 have HL:Hid (n=bx.length):=h.len
 have hcp:=h.cap
 have HST:Hid (0≤st∧st≤1000000):=hst
 clear h hst;go_enter Tryz.func171,Tryz.ntmps171
 go_wp2_with fail;go_loopw [5,6,7,12] (fun v1 v2 q i wr=>∃ k m:Nat,k≤n∧i = I J (k:Int)∧q = I J (m:Int)∧m≤k∧m=wireN (bx.take k)∧(∀ j (hj:j<bx.length),j<k→okBx st bx[j])∧twoI w wr w.heap.size v1 v2 (nfY (bx.take k)) (nfZ (bx.take k))) (fun _ _ _ i _=>n-(intOf i).toNat)
 case atStart=>exact⟨0,0,nZ _,rfl,rfl,nR _,(by simp[wireN]),fun j hj h=>absurd h (nN _),⟨World.ownsRow_nil w _ 3 1,World.ownsRow_nil w _ 3 1,(fun g h=>(by cases h)),bW _ _,nR _⟩⟩
 case round=>
  obtain⟨k,q,hk,rfl,rfl,hqk,hq,hA,hT⟩:=hrel
  have HQ:Hid (q=wireN (bx.take k)):=hq
  have HA:Hid (∀ j (hj:j<bx.length),j<k→okBx st bx[j]):=hA
  have HT:Hid (twoI w wr w.heap.size u5 u6 (nfY (bx.take k)) (nfZ (bx.take k))):=hT
  clear hq hA hT;by_cases hlt:k<n
  ·have hkl:k<bx.length:=by have:=HL.out;omega
   obtain⟨g,off,rfl,hc⟩:=HH.out.cells (fun e=>by rw[e] at hkl;cases hkl)
   obtain⟨ao,m,c,hx⟩:=hc k hkl
   have hx':=hx.below HT.out.b
   have HRG0:=hx'.range
   have hY:=nfY_take bx k hkl
   have hZ:=nfZ_take bx k hkl
   have hW:=wireN_take bx k hkl
   have HV0:=validBox_any (wr.alloc (.cells #[I J bx[k].x,I J bx[k].y,I J bx[k].z,bO bx[k].e,I .u32 (bx[k].i:Int),bO bx[k].r,I J bx[k].d,sL ao m c] 166)) bx[k] st ao m c (hx'.dat.below ((bW _ _).alloc (nR _) _)) HST.out
   have HBAD0:Hid (¬ okBx st bx[k]→¬ okBxs st bx):=okBxs_bad hkl
   have HAS:Hid (okBx st bx[k]→∀ j (hj:j<bx.length),j<k+1→okBx st bx[j]):=fun h=>ok_snocP hkl HA.out h
   have hLY:=nfY_len (bx.take k)
   rw[List.length_take] at hLY
   have HLY:Hid ((nfY (bx.take k)).length≤100∧(nfZ (bx.take k)).length≤100):=⟨by omega,by omega⟩
   obtain⟨b,hb⟩ : ∃ b,bx[k]=b:=⟨_,rfl⟩
   rw[hb] at HRG0 hY hZ hW HV0 HBAD0 HAS
   obtain⟨x,y,z,e,i,r,d,l⟩:=b
   simp only[] at HV0 hY hZ hW
   have HRG:Hid (wr.rangeAt g (off+k*8) [I J x,I J y,I J z,bO e,I .u32 (i:Int),bO r,I J d,sL ao m c]):=HRG0
   have HY:Hid (nfY (bx.take (k+1))=nfY (bx.take k)++(if (x != 0)=true then [y] else [])):=hY
   have HZ:Hid (nfZ (bx.take (k+1))=nfZ (bx.take k)++(if (x != 0)=true then [z] else [])):=hZ
   have HW:Hid (wireN (bx.take (k+1))=wireN (bx.take k)+(if (x == 2 || x == 3)=true then 1 else 0)):=hW
   have HT3:Hid (twoI w (wr.alloc (.cells #[I J x,I J y,I J z,bO e,I .u32 (i:Int),bO r,I J d,sL ao m c] 166)) w.heap.size u5 u6 (nfY (bx.take k)) (nfZ (bx.take k))):=HT.out.below ((bW _ _).alloc (nR _) _)
   by_cases hok:¬ okBx st ⟨x,y,z,e,i,r,d,l⟩
   ·have HBAD:Hid (¬ okBxs st bx):=HBAD0.out hok
    have HV:Hid (Calls Tp 208 #[bxV x y z e i r d ao m c,I J st] (wr.alloc (.cells #[I J x,I J y,I J z,bO e,I .u32 (i:Int),bO r,I J d,sL ao m c] 166)) fun o w'=>o = rT (bO false)∧Below (wr.alloc (.cells #[I J x,I J y,I J z,bO e,I .u32 (i:Int),bO r,I J d,sL ao m c] 166)).heap.size (wr.alloc (.cells #[I J x,I J y,I J z,bO e,I .u32 (i:Int),bO r,I J d,sL ao m c] 166)) w'):=HV0.mono (by rintro o w' ⟨⟨bb,rfl,h1⟩,h2⟩;cases bb;exact⟨rfl,h2⟩;exact absurd (h1.1 rfl) hok)
    clear hx hx' hb HRG0 hY hZ hW HV0 HBAD0 HAS hLY hok hc;go_wp2_with (first
     | (refine lq166 HRG.out ?_)
     | (go_at_call 208;refine HV.out.mono ?_;rintro o w4 ⟨rfl,hb4⟩))
    go_ret;exact⟨⟨false,rfl,by simpa using HBAD.out⟩,(HT3.out.below hb4).b⟩
   have hok:okBx st ⟨x,y,z,e,i,r,d,l⟩:=Classical.not_not.1 hok
   have HAL:Hid (∀ j (hj:j<bx.length),j<k+1→okBx st bx[j]):=HAS.out hok
   have HV:Hid (Calls Tp 208 #[bxV x y z e i r d ao m c,I J st] (wr.alloc (.cells #[I J x,I J y,I J z,bO e,I .u32 (i:Int),bO r,I J d,sL ao m c] 166)) fun o w'=>o = rT (bO true)∧Below (wr.alloc (.cells #[I J x,I J y,I J z,bO e,I .u32 (i:Int),bO r,I J d,sL ao m c] 166)).heap.size (wr.alloc (.cells #[I J x,I J y,I J z,bO e,I .u32 (i:Int),bO r,I J d,sL ao m c] 166)) w'):=HV0.mono (by rintro o w' ⟨⟨bb,rfl,h1⟩,h2⟩;rw[h1.2 hok];exact⟨rfl,h2⟩)
   have HWI:Hid (∀ W,Calls Tp 182 #[bxV x y z e i r d ao m c] W fun o w'=>o = rT (bO (x == 2 || x == 3))∧Below W.heap.size W w'):=fun W=>isOnWire_any W ⟨x,y,z,e,i,r,d,l⟩ ao m c
   clear hx hx' hb HRG0 hY hZ hW HV0 HBAD0 HAS hLY hok hc;by_cases hx0:x=0
   ·subst hx0;go_wp2_with (first
     | (refine lq166 HRG.out ?_)
     | (go_at_call 208;refine HV.out.mono ?_;rintro o w4 ⟨rfl,hb4⟩;have HB4:Hid (blk w4 wr.heap.size [I J 0,I J y,I J z,bO e,I .u32 (i:Int),bO r,I J d,sL ao m c] 166∧twoI w w4 w.heap.size u5 u6 (nfY (bx.take k)) (nfZ (bx.take k))):=⟨(blk.new wr [I J 0,I J y,I J z,bO e,I .u32 (i:Int),bO r,I J d,sL ao m c] 166).below hb4,HT3.out.below hb4⟩;have y0:=HB4.out.1.cell 0 _ rfl;clear hb4)
     | (refine lq166 HB4.out.1.load ?_)
     | (go_at_call 182;refine (HWI.out _).mono ?_;rintro o w5 ⟨rfl,hb5⟩))
    go_roundw
    case rel=>
     refine⟨k+1,q,by omega,by go_num,rfl,by omega,?_,HAL.out,?_⟩
     ·rw[HW.out,← HQ.out];simp
     ·rw[HY.out,HZ.out]
      simpa using HB4.out.2.below hb5
    case measure=>simp[intOf];omega
   ·have hx0':(x != 0)=true:=by simpa using hx0
    have HYY:Hid (nfY (bx.take (k+1))=nfY (bx.take k)++[y]):=by have:=HY.out;rw[if_pos hx0'] at this;exact this
    have HZZ:Hid (nfZ (bx.take (k+1))=nfZ (bx.take k)++[z]):=by have:=HZ.out;rw[if_pos hx0'] at this;exact this
    clear hx0 HY HZ;go_wp2_with (first
     | (refine lq166 HRG.out ?_)
     | (go_at_call 208;refine HV.out.mono ?_;rintro o w4 ⟨rfl,hb4⟩;have HB4:Hid (blk w4 wr.heap.size [I J x,I J y,I J z,bO e,I .u32 (i:Int),bO r,I J d,sL ao m c] 166∧twoI w w4 w.heap.size u5 u6 (nfY (bx.take k)) (nfZ (bx.take k))∧w.heap.size≤wr.heap.size):=⟨(blk.new wr [I J x,I J y,I J z,bO e,I .u32 (i:Int),bO r,I J d,sL ao m c] 166).below hb4,HT3.out.below hb4,HT.out.s⟩;have y0:=HB4.out.1.cell 0 _ rfl;clear hb4))
    have y1:=HB4.out.1.cell 1 _ rfl
    have y2:=HB4.out.1.cell 2 _ rfl
    clear y0;have hg0:(∀ g,u5.ownBlock=some g→g<wr.heap.size)∧(∀ g,u6.ownBlock=some g→g<wr.heap.size):=⟨fun g hg=>(HT.out.o1.lt g hg).2,fun g hg=>(HT.out.o2.lt g hg).2⟩
    have HG0:Hid ((∀ g,u5.ownBlock=some g→g<wr.heap.size)∧(∀ g,u6.ownBlock=some g→g<wr.heap.size)):=hg0
    clear hg0 HT HT3 HV HRG;generalize wr.heap.size=PB at *;generalize nfY (bx.take k)=L1 at *;generalize nfZ (bx.take k)=L2 at *;refine wp_region_held (S:=(fun W=>W.cell? ⟨PB,1,none⟩=some (I J y)∧W.cell? ⟨PB,2,none⟩=some (I J z))) (by kernel_rfl) ?_
    have hS:(fun W=>W.cell? ⟨PB,1,none⟩=some (I J y)∧W.cell? ⟨PB,2,none⟩=some (I J z)) w4.drew:=⟨(World.cell?_drew _ _).trans y1,(World.cell?_drew _ _).trans y2⟩
    simp only[] at hS
    refine tk 0 ?_
    refine tk 1 ?_
    refine tk 2 ?_
    refine tk 5 ?_
    refine tk 6 ?_
    refine tk 7 ?_
    have R0:Hid (rg w w4 w.heap.size PB [I J x,I J y,I J z,bO e,I .u32 (i:Int),bO r,I J d,sL ao m c] u5 u6 L1 L2):=⟨HB4.out.2.1,HB4.out.1,fun e=>Nat.lt_irrefl _ (HG0.out.1 _ e),fun e=>Nat.lt_irrefl _ (HG0.out.2 _ e)⟩
    have HLT:Hid ((∀ g,u5.ownBlock=some g→g<w4.heap.size)∧(∀ g,u6.ownBlock=some g→g<w4.heap.size)):=⟨fun g hg=>(HB4.out.2.1.o1.lt g hg).2,fun g hg=>(HB4.out.2.1.o2.lt g hg).2⟩
    clear y1 y2;refine wpAnyH_all (rs:=[3,8]) (by kernel_rfl) (by simp) ?_
    refine AllReadyH.cons rfl (fun K hK=>?_) (AllReadyH.cons rfl (fun K hK=>?_) AllReadyH.nil)
    ·go_simp;have R1:Hid (rg w (w4.alloc (.cells #[I J y] 3)).drew w.heap.size PB [I J x,I J y,I J z,bO e,I .u32 (i:Int),bO r,I J d,sL ao m c] u5 u6 L1 L2∧(w4.alloc (.cells #[I J y] 3)).drew.heap[w4.heap.size]?=some (.cells #[I J y] 3)):=⟨R0.out.alloc _,heap_new_drew w4 _⟩
     have N5:Hid (u5.ownBlock≠some w4.heap.size∧u6.ownBlock≠some w4.heap.size):=⟨fun e=>Nat.lt_irrefl _ (HLT.out.1 _ e),fun e=>Nat.lt_irrefl _ (HLT.out.2 _ e)⟩
     refine hK.out _ _ ⟨R1.out.1.p.cell 1 _ rfl,R1.out.1.p.cell 2 _ rfl⟩ (fun hS2=>?_)
     clear hS hK K;have hS:=hS2
     clear hS2;have HLT1:Hid ((∀ g,u5.ownBlock=some g→g<(w4.alloc (.cells #[I J y] 3)).drew.heap.size)∧(∀ g,u6.ownBlock=some g→g<(w4.alloc (.cells #[I J y] 3)).drew.heap.size)):=⟨fun g hg=>(R1.out.1.t.o1.lt g hg).2,fun g hg=>(R1.out.1.t.o2.lt g hg).2⟩
     generalize w4.heap.size=b3 at *;generalize hW1:(w4.alloc (.cells #[I J y] 3)).drew=W1 at *;clear hW1 HLT;refine wpAnyH_all (rs:=[4,8]) (by kernel_rfl) (by simp) ?_
     refine AllReadyH.cons rfl (fun K hK=>?_) (AllReadyH.cons rfl (fun K hK=>?_) AllReadyH.nil)
     ·obtain⟨v1,W2,hr,h2,hkp⟩:=R1.out.1.app1 y b3 R1.out.2 HLY.out.1 218
      refine step_appI rfl (.tmp 23) (.tmp 26) rfl u5 rfl b3 rfl v1 W1 W2 hr ?_
      simp only[aZ];clear hr;have R2:Hid (rg w W2 w.heap.size PB [I J x,I J y,I J z,bO e,I .u32 (i:Int),bO r,I J d,sL ao m c] v1 u6 (L1++[y]) L2):=h2
      clear h2 hkp;refine hK.out _ _ ⟨R2.out.p.cell 1 _ rfl,R2.out.p.cell 2 _ rfl⟩ (fun hS2=>?_)
      clear hS hK K;have hS:=hS2
      clear hS2;refine al 8 fun K hK=>?_
      go_simp;have R3:Hid (rg w (W2.alloc (.cells #[I J z] 3)) w.heap.size PB [I J x,I J y,I J z,bO e,I .u32 (i:Int),bO r,I J d,sL ao m c] v1 u6 (L1++[y]) L2∧(W2.alloc (.cells #[I J z] 3)).heap[W2.heap.size]?=some (.cells #[I J z] 3)):=⟨R2.out.alloc' _,heap_alloc_new W2 _⟩
      refine hK.out _ _ ⟨R3.out.1.p.cell 1 _ rfl,R3.out.1.p.cell 2 _ rfl⟩ (fun hS2=>?_)
      clear hS hK K;have hS:=hS2
      clear hS2;generalize W2.heap.size=b8 at *;generalize hW3:(W2.alloc (.cells #[I J z] 3))=W3 at *;clear hW3;refine al 9 fun K hK=>?_
      obtain⟨v2,W4,hr,h2,hkp⟩:=R3.out.1.app2 z b8 R3.out.2 HLY.out.2 218
      refine step_appI rfl (.tmp 28) (.tmp 31) rfl u6 rfl b8 rfl v2 W3 W4 hr ?_
      simp only[aZ];clear hr;have R4:Hid (rg w W4 w.heap.size PB [I J x,I J y,I J z,bO e,I .u32 (i:Int),bO r,I J d,sL ao m c] v1 v2 (L1++[y]) (L2++[z])):=h2
      clear h2 hkp;refine hK.out _ _ ⟨R4.out.p.cell 1 _ rfl,R4.out.p.cell 2 _ rfl⟩ (fun hS2=>?_)
      clear hS hK K;have hS:=hS2
      clear hS2;refine tk 10 ?_
      refine tk 11 ?_
      refine wpAnyH_done (by kernel_rfl) ?_ _
      clear hS;have FT:Hid (rg w W4 w.heap.size PB [I J x,I J y,I J z,bO e,I .u32 (i:Int),bO r,I J d,sL ao m c] v1 v2 (L1++[y]) (L2++[z])):=R4.out
      by_cases hw:(x == 2 || x == 3)=true
      ·have HWJ:Hid (∀ W,Calls Tp 182 #[bxV x y z e i r d ao m c] W fun o w'=>o = rT (bO true)∧Below W.heap.size W w'):=fun W=>hw ▸ HWI.out W
       have HWT:Hid ((x == 2 || x == 3)=true):=hw
       clear hw HWI;go_wp2_with (first
        | (refine lq166 FT.out.p.load ?_)
        | (go_at_call 182;refine (HWJ.out _).mono ?_;rintro o w5 ⟨rfl,hb5⟩))
       go_roundw
       case rel=>
        refine⟨k+1,q+1,by omega,by go_num,by go_num,by omega,?_,HAL.out,?_⟩
        ·rw[HW.out,← HQ.out,if_pos HWT.out]
        ·rw[HYY.out,HZZ.out]
         exact FT.out.t.below hb5
       case measure=>simp[intOf];omega
      ·have hw':(x == 2 || x == 3)=false:=by simpa using hw
       have HWJ:Hid (∀ W,Calls Tp 182 #[bxV x y z e i r d ao m c] W fun o w'=>o = rT (bO false)∧Below W.heap.size W w'):=fun W=>hw' ▸ HWI.out W
       have HWT:Hid (¬ (x == 2 || x == 3)=true):=hw
       clear hw hw' HWI;go_wp2_with (first
        | (refine lq166 FT.out.p.load ?_)
        | (go_at_call 182;refine (HWJ.out _).mono ?_;rintro o w5 ⟨rfl,hb5⟩))
       go_roundw
       case rel=>
        refine⟨k+1,q,by omega,by go_num,rfl,by omega,?_,HAL.out,?_⟩
        ·rw[HW.out,← HQ.out,if_neg HWT.out];rfl
        ·rw[HYY.out,HZZ.out]
         exact FT.out.t.below hb5
       case measure=>simp[intOf];omega
     ·go_simp;have R2:Hid (rg w (W1.alloc (.cells #[I J z] 3)) w.heap.size PB [I J x,I J y,I J z,bO e,I .u32 (i:Int),bO r,I J d,sL ao m c] u5 u6 L1 L2∧(W1.alloc (.cells #[I J z] 3)).heap[b3]?=some (.cells #[I J y] 3)∧(W1.alloc (.cells #[I J z] 3)).heap[W1.heap.size]?=some (.cells #[I J z] 3)):=⟨R1.out.1.alloc' _,(Below.heap_alloc _ _ _ (lt_of_some R1.out.2)).trans R1.out.2,heap_alloc_new W1 _⟩
      have N8:Hid (u5.ownBlock≠some W1.heap.size):=fun e=>Nat.lt_irrefl _ (HLT1.out.1 _ e)
      refine hK.out _ _ ⟨R2.out.1.p.cell 1 _ rfl,R2.out.1.p.cell 2 _ rfl⟩ (fun hS2=>?_)
      clear hS hK K;have hS:=hS2
      clear hS2;generalize W1.heap.size=b8 at *;generalize hW2:(W1.alloc (.cells #[I J z] 3))=W2 at *;clear hW2;refine al 4 fun K hK=>?_
      obtain⟨v1,W3,hr,h2,hkp⟩:=R2.out.1.app1 y b3 R2.out.2.1 HLY.out.1 218
      refine step_appI rfl (.tmp 23) (.tmp 26) rfl u5 rfl b3 rfl v1 W2 W3 hr ?_
      simp only[aZ];clear hr;have R3:Hid (rg w W3 w.heap.size PB [I J x,I J y,I J z,bO e,I .u32 (i:Int),bO r,I J d,sL ao m c] v1 u6 (L1++[y]) L2∧W3.heap[b8]?=some (.cells #[I J z] 3)):=⟨h2,hkp _ _ N8.out R2.out.2.2⟩
      clear h2 hkp;refine hK.out _ _ ⟨R3.out.1.p.cell 1 _ rfl,R3.out.1.p.cell 2 _ rfl⟩ (fun hS2=>?_)
      clear hS hK K;have hS:=hS2
      clear hS2;refine al 9 fun K hK=>?_
      obtain⟨v2,W4,hr,h2,hkp⟩:=R3.out.1.app2 z b8 R3.out.2 HLY.out.2 218
      refine step_appI rfl (.tmp 28) (.tmp 31) rfl u6 rfl b8 rfl v2 W3 W4 hr ?_
      simp only[aZ];clear hr;have R4:Hid (rg w W4 w.heap.size PB [I J x,I J y,I J z,bO e,I .u32 (i:Int),bO r,I J d,sL ao m c] v1 v2 (L1++[y]) (L2++[z])):=h2
      clear h2 hkp;refine hK.out _ _ ⟨R4.out.p.cell 1 _ rfl,R4.out.p.cell 2 _ rfl⟩ (fun hS2=>?_)
      clear hS hK K;have hS:=hS2
      clear hS2;refine tk 10 ?_
      refine tk 11 ?_
      refine wpAnyH_done (by kernel_rfl) ?_ _
      clear hS;have FT:Hid (rg w W4 w.heap.size PB [I J x,I J y,I J z,bO e,I .u32 (i:Int),bO r,I J d,sL ao m c] v1 v2 (L1++[y]) (L2++[z])):=R4.out
      by_cases hw:(x == 2 || x == 3)=true
      ·have HWJ:Hid (∀ W,Calls Tp 182 #[bxV x y z e i r d ao m c] W fun o w'=>o = rT (bO true)∧Below W.heap.size W w'):=fun W=>hw ▸ HWI.out W
       have HWT:Hid ((x == 2 || x == 3)=true):=hw
       clear hw HWI;go_wp2_with (first
        | (refine lq166 FT.out.p.load ?_)
        | (go_at_call 182;refine (HWJ.out _).mono ?_;rintro o w5 ⟨rfl,hb5⟩))
       go_roundw
       case rel=>
        refine⟨k+1,q+1,by omega,by go_num,by go_num,by omega,?_,HAL.out,?_⟩
        ·rw[HW.out,← HQ.out,if_pos HWT.out]
        ·rw[HYY.out,HZZ.out]
         exact FT.out.t.below hb5
       case measure=>simp[intOf];omega
      ·have hw':(x == 2 || x == 3)=false:=by simpa using hw
       have HWJ:Hid (∀ W,Calls Tp 182 #[bxV x y z e i r d ao m c] W fun o w'=>o = rT (bO false)∧Below W.heap.size W w'):=fun W=>hw' ▸ HWI.out W
       have HWT:Hid (¬ (x == 2 || x == 3)=true):=hw
       clear hw hw' HWI;go_wp2_with (first
        | (refine lq166 FT.out.p.load ?_)
        | (go_at_call 182;refine (HWJ.out _).mono ?_;rintro o w5 ⟨rfl,hb5⟩))
       go_roundw
       case rel=>
        refine⟨k+1,q,by omega,by go_num,rfl,by omega,?_,HAL.out,?_⟩
        ·rw[HW.out,← HQ.out,if_neg HWT.out];rfl
        ·rw[HYY.out,HZZ.out]
         exact FT.out.t.below hb5
       case measure=>simp[intOf];omega
    ·go_simp;have R1:Hid (rg w (w4.alloc (.cells #[I J z] 3)).drew w.heap.size PB [I J x,I J y,I J z,bO e,I .u32 (i:Int),bO r,I J d,sL ao m c] u5 u6 L1 L2∧(w4.alloc (.cells #[I J z] 3)).drew.heap[w4.heap.size]?=some (.cells #[I J z] 3)):=⟨R0.out.alloc _,heap_new_drew w4 _⟩
     have N5:Hid (u5.ownBlock≠some w4.heap.size):=fun e=>Nat.lt_irrefl _ (HLT.out.1 _ e)
     refine hK.out _ _ ⟨R1.out.1.p.cell 1 _ rfl,R1.out.1.p.cell 2 _ rfl⟩ (fun hS2=>?_)
     clear hS hK K;have hS:=hS2
     clear hS2;generalize w4.heap.size=b8 at *;generalize hW1:(w4.alloc (.cells #[I J z] 3)).drew=W1 at *;clear hW1 HLT;refine al 3 fun K hK=>?_
     go_simp;have R2:Hid (rg w (W1.alloc (.cells #[I J y] 3)) w.heap.size PB [I J x,I J y,I J z,bO e,I .u32 (i:Int),bO r,I J d,sL ao m c] u5 u6 L1 L2∧(W1.alloc (.cells #[I J y] 3)).heap[b8]?=some (.cells #[I J z] 3)∧(W1.alloc (.cells #[I J y] 3)).heap[W1.heap.size]?=some (.cells #[I J y] 3)):=⟨R1.out.1.alloc' _,(Below.heap_alloc _ _ _ (lt_of_some R1.out.2)).trans R1.out.2,heap_alloc_new W1 _⟩
     refine hK.out _ _ ⟨R2.out.1.p.cell 1 _ rfl,R2.out.1.p.cell 2 _ rfl⟩ (fun hS2=>?_)
     clear hS hK K;have hS:=hS2
     clear hS2;generalize W1.heap.size=b3 at *;generalize hW2:(W1.alloc (.cells #[I J y] 3))=W2 at *;clear hW2;refine al 4 fun K hK=>?_
     obtain⟨v1,W3,hr,h2,hkp⟩:=R2.out.1.app1 y b3 R2.out.2.2 HLY.out.1 218
     refine step_appI rfl (.tmp 23) (.tmp 26) rfl u5 rfl b3 rfl v1 W2 W3 hr ?_
     simp only[aZ];clear hr;have R3:Hid (rg w W3 w.heap.size PB [I J x,I J y,I J z,bO e,I .u32 (i:Int),bO r,I J d,sL ao m c] v1 u6 (L1++[y]) L2∧W3.heap[b8]?=some (.cells #[I J z] 3)):=⟨h2,hkp _ _ N5.out R2.out.2.1⟩
     clear h2 hkp;refine hK.out _ _ ⟨R3.out.1.p.cell 1 _ rfl,R3.out.1.p.cell 2 _ rfl⟩ (fun hS2=>?_)
     clear hS hK K;have hS:=hS2
     clear hS2;refine al 9 fun K hK=>?_
     obtain⟨v2,W4,hr,h2,hkp⟩:=R3.out.1.app2 z b8 R3.out.2 HLY.out.2 218
     refine step_appI rfl (.tmp 28) (.tmp 31) rfl u6 rfl b8 rfl v2 W3 W4 hr ?_
     simp only[aZ];clear hr;have R4:Hid (rg w W4 w.heap.size PB [I J x,I J y,I J z,bO e,I .u32 (i:Int),bO r,I J d,sL ao m c] v1 v2 (L1++[y]) (L2++[z])):=h2
     clear h2 hkp;refine hK.out _ _ ⟨R4.out.p.cell 1 _ rfl,R4.out.p.cell 2 _ rfl⟩ (fun hS2=>?_)
     clear hS hK K;have hS:=hS2
     clear hS2;refine tk 10 ?_
     refine tk 11 ?_
     refine wpAnyH_done (by kernel_rfl) ?_ _
     clear hS;have FT:Hid (rg w W4 w.heap.size PB [I J x,I J y,I J z,bO e,I .u32 (i:Int),bO r,I J d,sL ao m c] v1 v2 (L1++[y]) (L2++[z])):=R4.out
     by_cases hw:(x == 2 || x == 3)=true
     ·have HWJ:Hid (∀ W,Calls Tp 182 #[bxV x y z e i r d ao m c] W fun o w'=>o = rT (bO true)∧Below W.heap.size W w'):=fun W=>hw ▸ HWI.out W
      have HWT:Hid ((x == 2 || x == 3)=true):=hw
      clear hw HWI;go_wp2_with (first
       | (refine lq166 FT.out.p.load ?_)
       | (go_at_call 182;refine (HWJ.out _).mono ?_;rintro o w5 ⟨rfl,hb5⟩))
      go_roundw
      case rel=>
       refine⟨k+1,q+1,by omega,by go_num,by go_num,by omega,?_,HAL.out,?_⟩
       ·rw[HW.out,← HQ.out,if_pos HWT.out]
       ·rw[HYY.out,HZZ.out]
        exact FT.out.t.below hb5
      case measure=>simp[intOf];omega
     ·have hw':(x == 2 || x == 3)=false:=by simpa using hw
      have HWJ:Hid (∀ W,Calls Tp 182 #[bxV x y z e i r d ao m c] W fun o w'=>o = rT (bO false)∧Below W.heap.size W w'):=fun W=>hw' ▸ HWI.out W
      have HWT:Hid (¬ (x == 2 || x == 3)=true):=hw
      clear hw hw' HWI;go_wp2_with (first
       | (refine lq166 FT.out.p.load ?_)
       | (go_at_call 182;refine (HWJ.out _).mono ?_;rintro o w5 ⟨rfl,hb5⟩))
      go_roundw
      case rel=>
       refine⟨k+1,q,by omega,by go_num,rfl,by omega,?_,HAL.out,?_⟩
       ·rw[HW.out,← HQ.out,if_neg HWT.out];rfl
       ·rw[HYY.out,HZZ.out]
        exact FT.out.t.below hb5
      case measure=>simp[intOf];omega
  ·have hkn:bx.take k=bx:=List.take_of_length_le (by have:=HL.out;omega)
   have hT:=HT.out
   have hq:=HQ.out
   rw[hkn] at hT hq
   have HIF:Hid (okBxs st bx↔(q≤1∧(nfY bx).Nodup∧(nfZ bx).Nodup)):=by
    have:=okBxs_iff st bx (fun j hj=>HA.out j hj (by have:=HL.out;omega))
    rw[← hq] at this
    exact this
   have HTT:Hid (twoI w wr w.heap.size u5 u6 (nfY bx) (nfZ bx)):=hT
   have hln:=nfY_len bx
   have HLN:Hid ((nfY bx).length≤100∧(nfZ bx).length≤100):=⟨by have:=HL.out;omega,by have:=HL.out;omega⟩
   clear hkn hT hq hln HT HQ HA;by_cases hq1:q≤1
   ·have hq1':decide ((q:Int)≤1)=true:=by simp;omega
    have HQ1:Hid (q≤1):=hq1
    clear hq1;go_wp2_with fail;refine (differ_own HTT.out.o1 HLN.out.1 HTT.out.s).mono ?_
    rintro o w1 ⟨⟨b1,rfl,h1⟩,hg1,hb1⟩;have H1:Hid ((b1=true↔(nfY bx).Nodup)∧ownsI w1 w.heap.size u6 (nfZ bx)∧Below w.heap.size w w1∧w.heap.size≤w1.heap.size):=by
     refine⟨h1,HTT.out.o2.kept hg1 ?_,HTT.out.b.trans hb1,nT HTT.out.s hg1.size⟩
     cases e:u6.ownBlock with
     | none=>exact Or.inl rfl
     | some g=>exact Or.inr fun e2=>HTT.out.ne g e2.symm e
    clear h1 hg1 hb1;cases b1
    ·go_wp2_with fail;go_ret;refine⟨⟨false,rfl,?_⟩,H1.out.2.2.1⟩
     rw[HIF.out]
     have:=H1.out.1
     simp at this
     simp[this]
    ·go_wp2_with fail;refine (differ_own H1.out.2.1 HLN.out.2 H1.out.2.2.2).mono ?_
     rintro o w2 ⟨⟨b2,rfl,h2⟩,hg2,hb2⟩;have H2:Hid ((b2=true↔(nfZ bx).Nodup)∧Below w.heap.size w w2):=⟨h2,H1.out.2.2.1.trans hb2⟩
     clear h2 hg2 hb2;go_wp2_with fail;go_ret;refine⟨⟨b2,rfl,?_⟩,H2.out.2⟩
     rw[HIF.out,H2.out.1]
     exact⟨fun h=>⟨HQ1.out,(by have:=H1.out.1;simpa using this),h⟩,fun h=>h.2.2⟩
   ·have hq1':decide ((q:Int)≤1)=false:=by simp;omega
    go_wp2_with fail;go_ret;refine⟨⟨false,rfl,?_⟩,HTT.out.b⟩
    rw[HIF.out]
    simp[hq1]
theorem validHost_any (w:World) (H:Ho) (s:Sl) (h:isHo w H s) (hn:H.le 1048576) :
  Calls Tp 122 #[hoV H s] w fun o w'=>retB o (okHo H)∧Below w.heap.size w w':=by
 have H0:Hid (obS w H s (w.alloc (.cells (hoL H s).toArray 39))):=⟨blk.new w _ 39,(bW _ _).alloc (nR _) _⟩
 have HLB:Hid (s.n2=H.bx.length∧s.n3=H.ff.length∧s.n4=H.qu.length):=⟨h.bx.len,h.ff.len,h.qu.len⟩
 have HFS:Hid (∀ W,Below w.heap.size w W→Calls Tp 170 #[sL s.a1 s.n1 s.k1] W fun o w'=>o = rT (bO (okFs H.fs))∧Below W.heap.size W w'):=fun W hW=>validFilters_any W _ _ _ _ (h.fs.below hW) (by rw[h.fs.len];exact hn.fs)
 have HFF:Hid (∀ W,Below w.heap.size w W→Calls Tp 172 #[sL s.a3 s.n3 s.k3,.func (.func 173) #[] #[]] W fun o w'=>o = rT (bO (!H.ff.all okFr))∧Below W.heap.size W w'):=fun W hW=>containsFrame_any W _ _ _ _ (h.ff.below hW) (by rw[h.ff.len];exact hn.ff)
 have HQU:Hid (∀ W,Below w.heap.size w W→Calls Tp 174 #[sL s.a4 s.n4 s.k4,.func (.func 175) #[] #[]] W fun o w'=>o = rT (bO (!H.qu.all okEv))∧Below W.heap.size W w'):=fun W hW=>containsEvent_any W _ _ _ _ (h.qu.below hW) (by rw[h.qu.len];exact hn.qu)
 have HBX:Hid (s.n2≤8→0≤H.st∧H.st≤1000000→∀ W,Below w.heap.size w W→Calls Tp 171 #[sL s.a2 s.n2 s.k2,I J H.st] W fun o w'=>retB o (okBxs H.st H.bx)∧Below W.heap.size W w'):=fun h8 hst W hW=>validBoxes_any W _ _ _ _ _ (h.bx.below hW) h8 hst
 have hmf:∀ (fn:Fn) (first cap:Array Value) (w:World),(Instr.makeFunc fn first cap).run Tp w = .ok (.func fn first cap) w:=fun _ _ _ _=>rfl
 have q0:=H0.out.p.cell 0 _ rfl
 have q1:=H0.out.p.cell 1 _ rfl
 have q2:=H0.out.p.cell 2 _ rfl
 have q3:=H0.out.p.cell 3 _ rfl
 clear h hn;rw[hoV_L]
 go_enter Tryz.func122,Tryz.ntmps122
 go_wp2_with fail;refine (validConfig_any _ H.c0 H.c1 H.c2 H.c3).mono ?_
 rintro o w1 ⟨rfl,hb1⟩;have O1:Hid (obS w H s w1):=H0.out.below hb1
 obtain⟨b,hb⟩ : ∃ b,okCf H.c0 H.c1 H.c2 H.c3=b:=⟨_,rfl⟩
 have HCE:Hid (okCf H.c0 H.c1 H.c2 H.c3=b):=hb
 rw[hb]
 clear q0 q1 q2 q3 hb1 H0 hb;cases b
 ·go_wp2_with fail;go_ret;exact⟨⟨false,rfl,iff_of_false Bool.false_ne_true (fun h=>by have:=h.cf;rw[HCE.out] at this;cases this)⟩,O1.out.b⟩
 have q4:=O1.out.p.cell 4 _ rfl
 go_wp2_with fail;refine (HFS.out _ O1.out.b).mono ?_
 rintro o w2 ⟨rfl,hb2⟩;have O2:Hid (obS w H s w2):=O1.out.below hb2
 obtain⟨b,hb⟩ : ∃ b,okFs H.fs=b:=⟨_,rfl⟩
 have HFE:Hid (okFs H.fs=b):=hb
 rw[hb]
 clear q4 hb2 O1 hb;cases b
 ·go_wp2_with fail;go_ret;exact⟨⟨false,rfl,iff_of_false Bool.false_ne_true (fun h=>by have:=h.fs;rw[HFE.out] at this;cases this)⟩,O2.out.b⟩
 have q0:=O2.out.p.cell 0 _ rfl
 have q1:=O2.out.p.cell 1 _ rfl
 have q3:=O2.out.p.cell 3 _ rfl
 have q5:=O2.out.p.cell 5 _ rfl
 have q6:=O2.out.p.cell 6 _ rfl
 have q7:=O2.out.p.cell 7 _ rfl
 have q8:=O2.out.p.cell 8 _ rfl
 have q9:=O2.out.p.cell 9 _ rfl
 go_wp2_with fail;refine (inRange_any w2 H.lo 0 100000).mono ?_
 rintro o w3 ⟨rfl,rfl⟩;by_cases hl:¬ (0≤H.lo∧H.lo≤100000)
 ·rw[decide_eq_false hl]
  go_wp2_with fail;go_ret;exact⟨⟨false,rfl,iff_of_false Bool.false_ne_true (fun h=>by have:=h.l0;have:=h.l1;omega)⟩,O2.out.b⟩
 have hl:=Classical.not_not.1 hl
 rw[decide_eq_true hl]
 go_wp2_with fail;refine (inRange_any w2 H.st 0 1000000).mono ?_
 rintro o w3 ⟨rfl,rfl⟩;by_cases hs:¬ (0≤H.st∧H.st≤1000000)
 ·rw[decide_eq_false hs]
  go_wp2_with fail;go_ret;exact⟨⟨false,rfl,iff_of_false Bool.false_ne_true (fun h=>by have:=h.s0;have:=h.s1;omega)⟩,O2.out.b⟩
 have hs:=Classical.not_not.1 hs
 rw[decide_eq_true hs]
 have HNB:Hid (¬ ((s.n2:Int)=H.c0∧(s.n3:Int)≤H.c1∧(s.n4:Int)≤H.c3)→¬ okHo H):=fun h hh=>h (by have:=HLB.out;have:=hh.nb;have:=hh.nf;have:=hh.nq;omega)
 go_wp2_with fail
 all_goals try
  go_ret;exact⟨⟨false,rfl,by simpa using HNB.out (fun hh=>by first | omega | (have h9:=hh.1;simp_all))⟩,O2.out.b⟩
 have hb:(s.n2:Int)=H.c0:=by simp_all
 have HCB:1≤H.c0∧H.c0≤8∧1≤H.c1∧H.c1≤16∧0≤H.c2∧H.c2≤1∧1≤H.c3∧H.c3≤32:=of_decide_eq_true HCE.out
 have HNUM:Hid ((H.bx.length:Int)=H.c0∧(H.ff.length:Int)≤H.c1∧(H.qu.length:Int)≤H.c3∧0≤H.lo∧H.lo≤100000∧0≤H.st∧H.st≤1000000):=by have:=HLB.out;exact⟨by omega,by omega,by omega,by omega,by omega,by omega,by omega⟩
 refine (HBX.out (by omega) hs _ O2.out.b).mono ?_
 rintro o w3 ⟨⟨bb,rfl,hbb⟩,hb3⟩;have O3:Hid (obS w H s w3):=O2.out.below hb3
 have HB:Hid (bb=true↔okBxs H.st H.bx):=hbb
 clear q0 q1 q3 q5 q6 q7 q8 q9 hb HCB HNB hb3 hbb O2;cases bb
 ·go_wp2_with fail;go_ret;exact⟨⟨false,rfl,iff_of_false Bool.false_ne_true (fun h=>by have:=HB.out.2 h.bx;simp at this)⟩,O3.out.b⟩
 have q6:=O3.out.p.cell 6 _ rfl
 go_wp2_with fail;refine (HFF.out _ O3.out.b).mono ?_
 rintro o w4 ⟨rfl,hb4⟩;have O4:Hid (obS w H s w4):=O3.out.below hb4
 obtain⟨b,hb⟩ : ∃ b,H.ff.all okFr=b:=⟨_,rfl⟩
 have HFA:Hid (H.ff.all okFr=b):=hb
 rw[hb]
 clear q6 hb4 O3 hb;cases b
 ·go_wp2_with fail;go_ret;exact⟨⟨false,rfl,iff_of_false Bool.false_ne_true (fun h=>by have:=h.ff;rw[HFA.out] at this;cases this)⟩,O4.out.b⟩
 have q7:=O4.out.p.cell 7 _ rfl
 go_wp2_with fail;refine (HQU.out _ O4.out.b).mono ?_
 rintro o w5 ⟨rfl,hb5⟩;have O5:Hid (obS w H s w5):=O4.out.below hb5
 obtain⟨b,hb⟩ : ∃ b,H.qu.all okEv=b:=⟨_,rfl⟩
 have HFIN:Hid (b=true↔okHo H):=⟨fun e=>⟨HCE.out,HFE.out,HNUM.out.1,HNUM.out.2.1,HNUM.out.2.2.1,HNUM.out.2.2.2.1,HNUM.out.2.2.2.2.1,HNUM.out.2.2.2.2.2.1,HNUM.out.2.2.2.2.2.2,HFA.out,hb.trans e,HB.out.1 (by trivial)⟩,fun h=>hb.symm.trans h.qu⟩
 rw[hb]
 clear q7 hb5 O4 hb;cases b
 all_goals
  go_wp2_with fail;go_ret;exact⟨⟨_,rfl,by simpa using HFIN.out⟩,O5.out.b⟩
end Go.Proofs.YtkfcfigbgmbaiaaGreat
namespace Go.Proofs.YtkfcfigbgmbaiaaGreat
open Go.Shelf Go.RowKit
set_option linter.unusedVariables false
open Go.Value renaming int→I,slice→sL,bool→bO,pointer→pT,agg→aG
open Go.IntKind renaming i64→J
open Go.Ending renaming returned→rT
open Go.Proofs.Tryz renaming prog→Tp
variable {w:World} {g off:Nat}
def Tryz.laysE160_ren:Go.Shelf.Ren:=⟨fun | 41=>178 | n=>n,fun | 22=>35 | 23=>166 | n=>n,fun | n=>n⟩
theorem Tryz.laysE160:Go.Proofs.SlLaysE0.n41 Tp Tryz.laysE160_ren:={
 mixed:=by kernel_rfl
 f41:=⟨Tryz.f178.name,by kernel_rfl,Tryz.func178.trans (congrArg some (by kernel_rfl))⟩
 t4:=Tryz.underlying4
 a4:=Tryz.isAgg4
 z4:=Tryz.sizeOf4
 v4:=Tryz.zeroValue4
 t22:=Tryz.underlying35
 a22:=Tryz.isAgg35
 z22:=Tryz.sizeOf35
 v22:=Tryz.zeroValue35 }
abbrev X8:=R8 × Option Addr × Nat × Nat
def x8 (t:X8):List Value:=[I J t.1.x,I J t.1.y,I J t.1.z,bO t.1.e,I .u32 (t.1.i:Int),bO t.1.r,I J t.1.d,sL t.2.1 t.2.2.1 t.2.2.2]
def c8 (bs:List X8):List Value:=bs.flatMap x8
theorem c8_len (bs:List X8):(c8 bs).length=bs.length*8:=by
 induction bs with
 | nil=>rfl
 | cons b bs ih=>simp only[c8,List.flatMap_cons,List.length_append] at ih ⊢;rw[ih];simp only[x8,List.length_cons,List.length_nil];omega
theorem c8_at (bs:List X8):∀ j (h:j<bs.length) t,t<8→(c8 bs)[j*8+t]?=(x8 bs[j])[t]?:=by
 induction bs with
 | nil=>intro j h;exact absurd h (nN _)
 | cons b bs ih=>
  intro j h t ht;cases j with
  | zero=>
   simp only[c8,List.flatMap_cons,Nat.zero_mul,Nat.zero_add]
   rw[List.getElem?_append_left (by simpa[x8] using ht)]
   rfl
  | succ j=>
   have e:(j+1)*8+t=8+(j*8+t):=by omega
   rw[e]
   simp only[c8,List.flatMap_cons]
   rw[List.getElem?_append_right (by simp[x8])]
   have:=ih j (by simpa using h) t ht
   simp only[c8] at this
   simpa[x8] using this
theorem rows8 {n cap:Nat} {bx:List R8} (h:isR8s w (some ⟨g,off,none⟩) n cap bx):∃ bs:List X8,bs.map (·.1)=bx∧∀ j (hj:j<bs.length),at8 w g (off+j*8) bs[j].1 bs[j].2.1 bs[j].2.2.1 bs[j].2.2.2:=by
 have hc:∀ j (hj:j<bx.length),∃ ao m c,at8 w g (off+j*8) bx[j] ao m c:=by
  intro j hj;obtain⟨g',off',ha,hc⟩:=h.cells (by intro e;subst e;cases hj)
  cases ha
  exact hc j hj
 clear h;induction bx generalizing off with
 | nil=>exact⟨[],rfl,fun j hj=>absurd hj (nN _)⟩
 | cons b bx ih=>
  obtain⟨ao,m,c,h0⟩:=hc 0 (by simp)
  obtain⟨bs,hm,hs⟩:=ih (off:=off+8) (fun j hj=>by
   have:=hc (j+1) (by simpa using hj)
   have e:off+(j+1)*8=off+8+j*8:=by omega
   rw[e] at this
   simpa using this)
  refine⟨(b,ao,m,c) :: bs,by simp[hm],fun j hj=>?_⟩
  cases j with
  | zero=>exact h0
  | succ j=>
   have:=hs j (by simpa using hj)
   have e:off+(j+1)*8=off+8+j*8:=by omega
   rw[e]
   exact this
theorem c8_cell {bs:List X8} (h:∀ j (hj:j<bs.length),at8 w g (off+j*8) bs[j].1 bs[j].2.1 bs[j].2.2.1 bs[j].2.2.2) (t:Nat) (u:Value) (hu:(c8 bs)[t]?=some u):w.cell? ⟨g,off+t,none⟩=some u:=by
 have ht:t<bs.length*8:=by
  have:=(List.getElem?_eq_some_iff.mp hu).1
  rwa [c8_len] at this
 have hj:t / 8<bs.length:=by omega
 have e:t=t / 8*8+t % 8:=by omega
 rw[e,c8_at bs (t / 8) hj (t % 8) (by omega)] at hu
 have:=(h (t / 8) hj).range (t % 8) u hu
 rw[e,← Nat.add_assoc]
 exact this
theorem c8_one (bs:List X8):∀ u ∈ c8 bs,u.oneCell'=true:=by
 intro u hu;simp only[c8,x8,List.mem_flatMap,List.mem_cons,List.not_mem_nil,or_false] at hu
 obtain⟨b,_,rfl | rfl | rfl | rfl | rfl | rfl | rfl | rfl⟩:=hu <;> rfl
variable {W b0 W':World} {n g U k:Nat} {bx:List R8} {hs:Nat→Hd}
theorem ownsRow_split {B:Nat} {T:TypeId} {sz:Nat} {v:Value} {xs:List Value} (ho:W.ownsRow B T sz v n xs):(v = sL none 0 0∧n=0)∨∃ g cap,v = sL (some ⟨g,0,none⟩) n cap∧B≤g∧g<W.heap.size∧n≤cap∧rowF W g (n*sz)∧W.rangeAt g 0 xs:=by
 have ho':=ho
 rcases ho.2 with⟨e,e2⟩|⟨g',cap',cur,hv',hb,hg,hcp,hmx,hsz,htk⟩
 ·exact Or.inl ⟨e,by simpa using e2⟩
 ·right
  have hl:=ho.1
  have hcur:∀ t,t<n*sz→cur[t]?=xs[t]?:=by
   intro t ht;rw[← htk,List.getElem?_take_of_lt ht,Array.getElem?_toList]
  have hcell:∀ t,t<n*sz→W.cell? ⟨g',t,none⟩=xs[t]?:=by
   intro t ht;rw[← hcur t ht]
   simp[World.cell?,hg]
  refine⟨g',cap',hv',hb,lt_of_some hg,hcp,fun t ht=>⟨?_,?_⟩,fun j u hu=>?_⟩
  ·rw[hcell t ht]
   exact⟨_,List.getElem?_eq_getElem (by omega)⟩
  ·subst hv';exact World.ownsRow.frozenAt ho' t
  ·have hj:j<xs.length:=(List.getElem?_eq_some_iff.mp hu).1
   rw[Nat.zero_add,hcell j (by omega)]
   exact hu
theorem rangeAt.up {o:Nat} {l:List Value} (h:W.rangeAt g o l) (he:W'.heap[g]?=W.heap[g]?):W'.rangeAt g o l:=fun j v hv=>cU (h j v hv) he
structure dr8 (b0:World) (U g n:Nat) (bx:List R8) (hs:Nat→Hd) (k:Nat) (W:World):Prop where
 len:n=bx.length
 row:rowF W g (n*8)
 rng:∀ j (h:j<bx.length),W.rangeAt g (j*8) (x8 (bx[j],hs j))
 old:∀ j (h:j<bx.length),k≤j→iB b0 (hs j).1 (hs j).2.1 (hs j).2.2 bx[j].l
 new:∀ j (h:j<bx.length),j<k→iB W (hs j).1 (hs j).2.1 (hs j).2.2 bx[j].l∧(((hs j).1=none∧(hs j).2.1=0)∨∃ b,(hs j).1=some ⟨b,0,none⟩∧U≤b∧b<W.heap.size∧rowF W b (hs j).2.1)
 dst:dst hs k
 lo:b0.heap.size≤g
 hi:g<W.heap.size
 bel:Below b0.heap.size b0 W
 sm:∀ j (h:j<bx.length),bx[j].l.length≤1048576
theorem dr8.same (h:dr8 b0 U g n bx hs k W) (he:∀ x,x=g∨U≤x→x<W.heap.size→W'.heap[x]?=W.heap[x]?) (hz:W.heap.size≤W'.heap.size) (hb:Below b0.heap.size b0 W'):dr8 b0 U g n bx hs k W':=
 ⟨h.len,h.row.up (he g (Or.inl rfl) h.hi),fun j hj=>(rangeAt.up (h.rng j hj) (he g (Or.inl rfl) h.hi)),h.old,fun j hj hk=>by
  obtain⟨h1,h2⟩:=h.new j hj hk
  rcases h2 with⟨e1,e2⟩|⟨b,e1,e2,e3,e4⟩
  ·refine⟨⟨h1.len,h1.cap,h1.small,fun hne=>?_⟩,Or.inl ⟨e1,e2⟩⟩
   exact absurd (List.length_pos_iff.2 hne) (by have:=h1.len;omega)
  ·rw[e1] at h1 ⊢
   exact⟨h1.other (he b (Or.inr e2) e3),Or.inr ⟨b,rfl,e2,nL e3 hz,e4.up (he b (Or.inr e2) e3)⟩⟩,h.dst,h.lo,nL h.hi hz,hb,h.sm⟩
theorem dr8.below (h:dr8 b0 U g n bx hs k W) (hb:Below W.heap.size W W'):dr8 b0 U g n bx hs k W':=
 h.same (fun x _ hx=>hb.block x hx) hb.size (h.bel.trans (hb.mono h.bel.size))
theorem dr8.start {L:List R8} (bs:List X8) (hm:bs.map (·.1)=L) (hby:∀ j (hj:j<bs.length),iB b0 bs[j].2.1 bs[j].2.2.1 bs[j].2.2.2 bs[j].1.l) (hn:n=L.length) (hr:rowF W g (n*8)) (hg:W.rangeAt g 0 (c8 bs)) (hlo:b0.heap.size≤g) (hhi:g<W.heap.size) (hb:Below b0.heap.size b0 W) (hsm:∀ j (h:j<L.length),L[j].l.length≤1048576):dr8 b0 U g n L (fun j=>(bs.getD j (⟨0,0,0,false,0,false,0,[]⟩,none,0,0)).2) 0 W:=by
 subst hm;have hl:(bs.map (·.1)).length=bs.length:=by simp
 refine⟨hn,hr,fun j hj=>?_,fun j hj _=>?_,fun j hj hk=>absurd hk (nN _),fun i j _ hj=>absurd hj (nN _),hlo,hhi,hb,hsm⟩
 ·have hj':j<bs.length:=by omega
  have e:((bs.map (·.1))[j],(bs.getD j (⟨0,0,0,false,0,false,0,[]⟩,none,0,0)).2)=bs[j]:=by simp[List.getD,hj']
  rw[e]
  intro t u hu;have ht:t<8:=by have:=(List.getElem?_eq_some_iff.mp hu).1;simpa[x8] using this
  rw[← c8_at bs j hj' t ht] at hu
  have:=hg _ _ hu
  rw[Nat.zero_add] at this
  exact this
 ·have hj':j<bs.length:=by omega
  have:=hby j hj'
  simpa[List.getD,hj'] using this
theorem dr8.at_ (h:dr8 b0 U g n bx hs k W) (j:Nat) (hj:j<bx.length):at8 W g (j*8) bx[j] (hs j).1 (hs j).2.1 (hs j).2.2:=by
 have hr:=h.rng j hj
 refine⟨hr 0 _ rfl,hr 1 _ rfl,hr 2 _ rfl,hr 3 _ rfl,hr 4 _ rfl,hr 5 _ rfl,hr 6 _ rfl,hr 7 _ rfl,?_⟩
 by_cases hk:j<k
 ·exact (h.new j hj hk).1
 ·exact (h.old j hj (by omega)).below h.bel
theorem dr8.is {cap:Nat} (h:dr8 b0 U g n bx hs k W) (hc:n≤cap):isR8s W (some ⟨g,0,none⟩) n cap bx:=
 ⟨h.len,hc,fun _=>⟨g,0,rfl,fun j hj=>⟨_,_,_,by rw[Nat.zero_add];exact h.at_ j hj⟩⟩⟩
theorem clone8_dr (b0 w:World) (g off n cap:Nat) (bx:List R8) (h:isR8s b0 (some ⟨g,off,none⟩) n cap bx) (hb0:Below b0.heap.size b0 w) (hn:n≤1048576) (hsm:∀ j (h:j<bx.length),bx[j].l.length≤1048576) :
  Calls Tp 178 #[sL (some ⟨g,off,none⟩) n cap] w fun e w'=>∃ g' cap' hs,e = rT (sL (some ⟨g',0,none⟩) n cap')∧w.heap.size≤g'∧n≤cap'∧dr8 b0 0 g' n bx hs 0 w'∧Below w.heap.size w w':=by
 obtain⟨bs,hm,hs⟩:=rows8 h
 have hlen:n=bs.length:=by rw[h.len,← hm];simp
 obtain⟨i0,hi,hz0,hz1,hz2⟩:=info_parts Tryz.info166
 refine (AnyE.slices_Clone Tryz.laysE160 i0 _ 8 72 hi hz0 hz1 hz2 rfl (by omega) Tryz.sizeOf166 g off n cap (c8 bs) w (by rw[c8_len,hlen]) (by unfold maxLen;omega) (by omega) (fun j u hj=>c8_cell (fun j hj=>(hs j hj).below hb0) j u hj) (c8_one bs)).mono ?_
 rintro e w' ⟨v',rfl,ho,hv,hbw⟩;rcases ownsRow_split ho with⟨e,_⟩|⟨g',cap',rfl,hb,hlt,hcp,hrf,hrg⟩
 ·exact absurd e hv
 ·exact⟨g',cap',_,rfl,hb,hcp,dr8.start bs hm (fun j hj=>(hs j hj).dat) h.len hrf hrg (nT hb0.size hb) hlt (hb0.trans (hbw.mono hb0.size)) hsm,hbw⟩
theorem dr8.at0 (h:dr8 b0 U g n bx hs 0 W) (he:W'.heap[g]?=W.heap[g]?) (hb:Below b0.heap.size b0 W'):dr8 b0 U g n bx hs 0 W':=by
 refine⟨h.len,h.row.up he,fun j hj=>rangeAt.up (h.rng j hj) he,h.old,fun j hj hk=>absurd hk (nN _),h.dst,h.lo,?_,hb,h.sm⟩
 have h1:=h.hi
 rw[Array.getElem?_eq_getElem h1] at he
 exact lt_of_some he
set_option maxRecDepth 20000
open Go.RowKit
set_option maxHeartbeats 16000000
def arbA (b:R8):ByteArray:=arbZ b.e b.i b.r b.d b.l.length
def befS (a b:R8):Bool:=if arbA a=arbA b then decide (a.z<b.z) else Op.bytesLess (arbA a).toList (arbA b).toList
theorem at8.frame {w:World} {g o:Nat} {b:R8} {ao:Option Addr} {m c:Nat} (h:at8 w g o b ao m c):w.rangeAt g (o+3) [bO b.e,I .u32 (b.i:Int),bO b.r,I J b.d,sL ao m c]:=by
 intro j v hv;match j,hv with
 | 0,hv=>cases hv;exact h.c3
 | 1,hv=>cases hv;exact h.c4
 | 2,hv=>cases hv;exact h.c5
 | 3,hv=>cases hv;exact h.c6
 | 4,hv=>cases hv;exact h.cs
theorem l3before_any (w:World) (H:Ho) (s:Sl) (h:isR8s w s.a2 s.n2 s.k2 H.bx) (hn:s.n2≤8) (i j:Nat) (hi:i<H.bx.length) (hj:j<H.bx.length) :
  Calls Tp 196 #[hoV H s,I J i,I J j] w fun o w'=>o = rT (bO (befS H.bx[i] H.bx[j]))∧Below w.heap.size w w':=by
 have hln:=h.len
 have hcp:=h.cap
 have H0:Hid (obS w H s (w.alloc (.cells (hoL H s).toArray 39))):=⟨blk.new w _ 39,(bW _ _).alloc (nR _) _⟩
 obtain⟨c0,c1,c2,c3,fs,bx,ff,qu,lo,st⟩:=H
 obtain⟨a1,n1,k1,a2,n2,k2,a3,n3,k3,a4,n4,k4⟩:=s
 simp only[] at h hln hcp hn hi hj ⊢
 obtain⟨g,off,rfl,hc⟩:=h.cells (by intro e;subst e;cases hi)
 obtain⟨ao,m,c,hx⟩:=hc i hi
 obtain⟨ao',m',c',hx'⟩:=hc j hj
 have hin:i<n2:=by omega
 have hjn:j<n2:=by omega
 clear hc h hln;have e1:=hx.dat.len
 have e2:=hx'.dat.len
 obtain⟨b,hb⟩ : ∃ b,bx[i]=b:=⟨_,rfl⟩
 obtain⟨b',hb'⟩ : ∃ b,bx[j]=b:=⟨_,rfl⟩
 rw[hb] at hx e1
 rw[hb'] at hx' e2
 rw[hb,hb']
 have HBF:Hid (befS b b'=if arbZ b.e b.i b.r b.d m=arbZ b'.e b'.i b'.r b'.d m' then decide (b.z<b'.z) else Op.bytesLess (arbZ b.e b.i b.r b.d m).toList (arbZ b'.e b'.i b'.r b'.d m').toList):=by
  show befS b b'=_
  unfold befS arbA
  rw[e1,e2]
 clear hb hb' e1 e2 hi hj;have HX:Hid (∀ W,obS w ⟨c0,c1,c2,c3,fs,bx,ff,qu,lo,st⟩ ⟨a1,n1,k1,some ⟨g,off,none⟩,n2,k2,a3,n3,k3,a4,n4,k4⟩ W→at8 W g (off+i*8) b ao m c∧at8 W g (off+j*8) b' ao' m' c'):=fun W hW=>⟨hx.below hW.b,hx'.below hW.b⟩
 clear hx hx';obtain⟨x,y,z,e,id,r,d,l⟩:=b
 obtain⟨x',y',z',e',id',r',d',l'⟩:=b'
 simp only[] at HBF HX ⊢
 have p5:=H0.out.p.cell 5 _ rfl
 obtain⟨A,hA⟩ : ∃ A,arbZ e id r d m=A:=⟨_,rfl⟩
 obtain⟨B,hB⟩ : ∃ B,arbZ e' id' r' d' m'=B:=⟨_,rfl⟩
 rw[hA,hB] at HBF
 have HA1:Hid (∀ W,obS w ⟨c0,c1,c2,c3,fs,bx,ff,qu,lo,st⟩ ⟨a1,n1,k1,some ⟨g,off,none⟩,n2,k2,a3,n3,k3,a4,n4,k4⟩ W→Calls Tp 220 #[frV e id r d ao m c] W fun o w'=>o = rT (.string A)∧Below W.heap.size W w'):=fun W hW=>hA ▸ specArb_any W e id r d ao m c l (HX.out _ hW).1.dat
 have HA2:Hid (∀ W,obS w ⟨c0,c1,c2,c3,fs,bx,ff,qu,lo,st⟩ ⟨a1,n1,k1,some ⟨g,off,none⟩,n2,k2,a3,n3,k3,a4,n4,k4⟩ W→Calls Tp 220 #[frV e' id' r' d' ao' m' c'] W fun o w'=>o = rT (.string B)∧Below W.heap.size W w'):=fun W hW=>hB ▸ specArb_any W e' id' r' d' ao' m' c' l' (HX.out _ hW).2.dat
 clear hA hB;by_cases hAB:A=B
 ·have HBF2:Hid (befS ⟨x,y,z,e,id,r,d,l⟩ ⟨x',y',z',e',id',r',d',l'⟩=decide (z<z')):=by have:=HBF.out;rw[if_pos hAB] at this;exact this
  clear HBF;subst hAB;go_enter Tryz.func196,Tryz.ntmps196
  go_wp2_with (first
   | (refine wpList_load_mid (P:=Tp) rfl 55 _ rfl g (off+i*8+3) rfl _ _ (HX.out _ H0.out).1.frame Tryz.underlying55 rfl sz93 ?_)
   | (go_at_call 220;refine (HA1.out _ H0.out).mono ?_;rintro o w1 ⟨rfl,hb1⟩;have H1:Hid (obS w ⟨c0,c1,c2,c3,fs,bx,ff,qu,lo,st⟩ ⟨a1,n1,k1,some ⟨g,off,none⟩,n2,k2,a3,n3,k3,a4,n4,k4⟩ w1):=H0.out.below hb1;have q5:=H1.out.p.cell 5 _ rfl;clear HA1 p5 hb1)
   | (refine wpList_load_mid (P:=Tp) rfl 55 _ rfl g (off+j*8+3) rfl _ _ (HX.out _ H1.out).2.frame Tryz.underlying55 rfl sz93 ?_)
   | (go_at_call 220;refine (HA2.out _ H1.out).mono ?_;rintro o w2 ⟨rfl,hb2⟩;have H2:Hid (obS w ⟨c0,c1,c2,c3,fs,bx,ff,qu,lo,st⟩ ⟨a1,n1,k1,some ⟨g,off,none⟩,n2,k2,a3,n3,k3,a4,n4,k4⟩ w2):=H1.out.below hb2;have r5:=H2.out.p.cell 5 _ rfl;have r2:=(HX.out _ H2.out).1.c2;have s2:=(HX.out _ H2.out).2.c2;clear HA2 q5 hb2))
  refine wp_region_held (S:=(fun W=>W.cell? ⟨w.heap.size,5,none⟩=some (sL (some ⟨g,off,none⟩) n2 k2)∧W.cell? ⟨g,off+i*8+2,none⟩=some (I J z)∧W.cell? ⟨g,off+j*8+2,none⟩=some (I J z')∧Below w.heap.size w W)) (by kernel_rfl) ?_
  have hS:(fun W:World=>W.cell? ⟨w.heap.size,5,none⟩=some (sL (some ⟨g,off,none⟩) n2 k2)∧W.cell? ⟨g,off+i*8+2,none⟩=some (I J z)∧W.cell? ⟨g,off+j*8+2,none⟩=some (I J z')∧Below w.heap.size w W) w2.drew:=⟨(World.cell?_drew _ _).trans r5,(World.cell?_drew _ _).trans r2,(World.cell?_drew _ _).trans s2,H2.out.b.drew⟩
  simp only[] at hS
  refine tk 0 ?_
  refine tk 1 ?_
  refine tk 2 ?_
  refine tk 3 ?_
  refine tk 4 ?_
  refine tk 5 ?_
  refine tk 6 ?_
  refine tk 7 ?_
  refine tk 8 ?_
  refine tk 9 ?_
  refine tk 10 ?_
  refine tk 11 ?_
  refine tk 12 ?_
  refine tk 13 ?_
  refine wpAnyH_done (by kernel_rfl) ?_ _
  have HBJ:Hid (Below w.heap.size w w2.drew):=hS.2.2.2
  clear hS;go_wp2
  go_ret;exact⟨ret_bool HBF2.out.symm,HBJ.out⟩
 ·have HBF2:Hid (befS ⟨x,y,z,e,id,r,d,l⟩ ⟨x',y',z',e',id',r',d',l'⟩=Op.bytesLess A.toList B.toList):=by have:=HBF.out;rw[if_neg hAB] at this;exact this
  clear HBF;have hne:(A.toList == B.toList)=false:=by
   rw[beq_eq_false_iff_ne,ByteArray.toList_eq,ByteArray.toList_eq]
   exact fun h=>hAB (ByteArray.ext (Array.toList_inj.1 h))
  go_enter Tryz.func196,Tryz.ntmps196
  go_wp2_with (first
   | (refine wpList_load_mid (P:=Tp) rfl 55 _ rfl g (off+i*8+3) rfl _ _ (HX.out _ H0.out).1.frame Tryz.underlying55 rfl sz93 ?_)
   | (go_at_call 220;refine (HA1.out _ H0.out).mono ?_;rintro o w1 ⟨rfl,hb1⟩;have H1:Hid (obS w ⟨c0,c1,c2,c3,fs,bx,ff,qu,lo,st⟩ ⟨a1,n1,k1,some ⟨g,off,none⟩,n2,k2,a3,n3,k3,a4,n4,k4⟩ w1):=H0.out.below hb1;have q5:=H1.out.p.cell 5 _ rfl;clear HA1 p5 hb1)
   | (refine wpList_load_mid (P:=Tp) rfl 55 _ rfl g (off+j*8+3) rfl _ _ (HX.out _ H1.out).2.frame Tryz.underlying55 rfl sz93 ?_)
   | (go_at_call 220;refine (HA2.out _ H1.out).mono ?_;rintro o w2 ⟨rfl,hb2⟩;have H2:Hid (obS w ⟨c0,c1,c2,c3,fs,bx,ff,qu,lo,st⟩ ⟨a1,n1,k1,some ⟨g,off,none⟩,n2,k2,a3,n3,k3,a4,n4,k4⟩ w2):=H1.out.below hb2;clear HA2 q5 hb2))
  go_ret;exact⟨ret_bool HBF2.out.symm,H2.out.b⟩
variable {bx:List R8} {k i:Nat} {a b:R8} {r:Int}
theorem less_lt (x y:List UInt8):Op.bytesLess x y=decide (x<y):=by
 induction x generalizing y with
 | nil=>cases y <;> simp[Op.bytesLess]
 | cons a x ih=>
  cases y with
  | nil=>simp[Op.bytesLess]
  | cons b y=>
   rw[Op.bytesLess,ih]
   by_cases e:a=b <;> simp[List.cons_lt_cons_iff,e]
theorem cmpB_lt (x y:List UInt8):(Lib.compareBytes x y=0↔x=y)∧(Lib.compareBytes x y<0↔Op.bytesLess x y=true):=by
 induction x generalizing y with
 | nil=>cases y <;> simp[Lib.compareBytes,Op.bytesLess]
 | cons a x ih=>
  cases y with
  | nil=>simp[Lib.compareBytes,Op.bytesLess]
  | cons b y=>
   have h1:=ih y
   rw[Lib.compareBytes,Op.bytesLess]
   by_cases hab:a<b
   ·have hne:a≠b:=fun h=>by subst h;exact absurd hab (UInt8.lt_irrefl a)
    simp[hab,hne]
   ·by_cases hba:b<a
    ·have hne:a≠b:=fun h=>by subst h;exact absurd hba (UInt8.lt_irrefl a)
     simp[hab,hba,hne]
    ·have he:a=b:=UInt8.le_antisymm (UInt8.not_lt.1 hba) (UInt8.not_lt.1 hab)
     subst he;simp[hab,h1.1,h1.2]
theorem cmpI (x y:Int):(Lib.compareInt x y<0↔x<y):=by
 unfold Lib.compareInt
 split
 ·simp_all
 ·split <;> simp_all
theorem befS_asymm (h:befS a b=true) (h':befS b a=true):False:=by
 unfold befS at h h'
 by_cases e:arbA a=arbA b
 ·rw[if_pos e] at h;rw[if_pos e.symm] at h';simp at h h';omega
 ·rw[if_neg e,less_lt] at h
  rw[if_neg (fun x=>e x.symm),less_lt] at h'
  exact absurd (of_decide_eq_true h') (List.lt_asymm (of_decide_eq_true h))
theorem toList_ext {a b:ByteArray} (h:a.toList=b.toList):a=b:=by
 rw[ByteArray.toList_eq,ByteArray.toList_eq] at h
 exact ByteArray.ext (Array.toList_inj.1 h)
theorem befS_trans {c:R8} (h:befS a b=true) (h':befS b c=true):befS a c=true:=by
 unfold befS at h h' ⊢
 by_cases e:arbA a=arbA b
 ·rw[if_pos e] at h
  by_cases e':arbA b=arbA c
  ·rw[if_pos e'] at h';rw[if_pos (e.trans e')];simp at h h' ⊢;omega
  ·rw[if_neg e'] at h';rw[e,if_neg e'];exact h'
 ·rw[if_neg e,less_lt] at h
  by_cases e':arbA b=arbA c
  ·rw[← e',if_neg e,less_lt];exact h
  ·rw[if_neg e',less_lt] at h'
   have h3:=List.lt_trans (of_decide_eq_true h) (of_decide_eq_true h')
   have hne:arbA a≠arbA c:=fun x=>by rw[x] at h3;exact absurd h3 (List.lt_irrefl _)
   rw[if_neg hne,less_lt]
   exact decide_eq_true h3
theorem befS_total (hz:a.z≠b.z) (h:befS a b=false):befS b a=true:=by
 unfold befS at h ⊢
 by_cases e:arbA a=arbA b
 ·rw[if_pos e] at h;rw[if_pos e.symm];simp at h ⊢;omega
 ·rw[if_neg e,less_lt] at h
  rw[if_neg (fun x=>e x.symm),less_lt]
  have h1:=of_decide_eq_false h
  by_cases h2:(arbA b).toList<(arbA a).toList
  ·exact decide_eq_true h2
  ·exact absurd (toList_ext (List.le_antisymm (List.not_lt.1 h2) (List.not_lt.1 h1))) e
def isBest (bx:List R8) (i:Nat):Prop:=∃ hi:i<bx.length,bx[i].x=1∧∀ j (hj:j<bx.length),j≠i→bx[j].x=1→befS bx[i] bx[j]=true
def bestR (bx:List R8) (r:Int):Prop:=(r = -1∧∀ i,¬ isBest bx i)∨∃ i:Nat,r=i∧isBest bx i
theorem isBest_one {j:Nat} (h:isBest bx i) (h':isBest bx j):i=j:=by
 obtain⟨hi,h1,h2⟩:=h
 obtain⟨hj,h3,h4⟩:=h'
 by_cases e:i=j
 ·exact e
 ·exact absurd (befS_asymm (h2 j hj (fun x=>e x.symm) h3) (h4 i hi e h1)) id
theorem bestR_one {r':Int} (h:bestR bx r) (h':bestR bx r'):r=r':=by
 rcases h with⟨rfl,h⟩|⟨i,rfl,h⟩
 ·rcases h' with⟨rfl,h'⟩|⟨i,rfl,h'⟩
  ·rfl
  ·exact absurd h' (h i)
 ·rcases h' with⟨rfl,h'⟩|⟨j,rfl,h'⟩
  ·exact absurd h (h' i)
  ·rw[isBest_one h h']
def bestK (bx:List R8) (k:Nat) (r:Int):Prop:=(r = -1∧∀ j (hj:j<bx.length),j<k→bx[j].x≠1)∨∃ i:Nat,r=i∧i<k∧∃ hi:i<bx.length,bx[i].x=1∧∀ j (hj:j<bx.length),j<k→j≠i→bx[j].x=1→befS bx[i] bx[j]=true
theorem bestK_end (h:bestK bx k r) (hk:bx.length≤k):bestR bx r:=by
 rcases h with⟨rfl,h⟩|⟨i,rfl,hik,hi,h1,h2⟩
 ·exact Or.inl ⟨rfl,fun i hb=>by obtain⟨hi,h1,_⟩:=hb;exact h i hi (by omega) h1⟩
 ·exact Or.inr ⟨i,rfl,hi,h1,fun j hj hne hw=>h2 j hj (by omega) hne hw⟩
theorem bestK_skip (h:bestK bx k r) (hk:k<bx.length) (hx:bx[k].x≠1):bestK bx (k+1) r:=by
 rcases h with⟨rfl,h⟩|⟨i,rfl,hik,hi,h1,h2⟩
 ·refine Or.inl ⟨rfl,fun j hj hjk=>?_⟩
  by_cases e:j=k
  ·subst e;exact hx
  ·exact h j hj (by omega)
 ·refine Or.inr ⟨i,rfl,by omega,hi,h1,fun j hj hjk hne hw=>?_⟩
  by_cases e:j=k
  ·subst e;exact absurd hw hx
  ·exact h2 j hj (by omega) hne hw
theorem bestK_first (h:bestK bx k (-1)) (hk:k<bx.length) (hx:bx[k].x=1):bestK bx (k+1) k:=by
 rcases h with⟨_,h⟩|⟨i,h0,_⟩
 ·refine Or.inr ⟨k,rfl,by omega,hk,hx,fun j hj hjk hne hw=>absurd hw (h j hj (by omega))⟩
 ·omega
theorem bestK_ahead (h:bestK bx k (i:Int)) (hk:k<bx.length) (hi:i<bx.length) (hx:bx[k].x=1) (hb:befS bx[k] bx[i]=true):bestK bx (k+1) k:=by
 rcases h with⟨h0,_⟩|⟨i',h0,hik,hi',h1,h2⟩
 ·omega
 ·have:i'=i:=by omega
  subst this;refine Or.inr ⟨k,rfl,by omega,hk,hx,fun j hj hjk hne hw=>?_⟩
  by_cases e:j=i'
  ·subst e;exact hb
  ·exact befS_trans hb (h2 j hj (by omega) e hw)
theorem bestK_behind {st:Int} (hok:okBxs st bx) (h:bestK bx k (i:Int)) (hk:k<bx.length) (hi:i<bx.length) (hx:bx[k].x=1) (hb:befS bx[k] bx[i]=false):bestK bx (k+1) i:=by
 rcases h with⟨h0,_⟩|⟨i',h0,hik,hi',h1,h2⟩
 ·omega
 ·have:i'=i:=by omega
  subst this;refine Or.inr ⟨i',rfl,by omega,hi,h1,fun j hj hjk hne hw=>?_⟩
  by_cases e:j=k
  ·subst e;exact befS_total (fun hz=>(hok.2.1 i' j hi hj hik (by rw[h1];decide) (by rw[hx];decide)).2 hz.symm) hb
  ·exact h2 j hj (by omega) hne hw
end Go.Proofs.YtkfcfigbgmbaiaaGreat
