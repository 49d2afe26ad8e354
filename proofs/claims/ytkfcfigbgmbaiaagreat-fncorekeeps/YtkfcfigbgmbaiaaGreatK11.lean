import Derived.Test.YtkfcfigbgmbaiaaGreatK06
namespace Go.Proofs.YtkfcfigbgmbaiaaGreat
set_option maxRecDepth 20000
open Go.RowKit
set_option linter.unusedVariables false
set_option maxHeartbeats 16000000
open Go.Value renaming int→I,slice→sL,bool→bO,pointer→pT,agg→aG
open Go.IntKind renaming i64→J
open Go.Ending renaming returned→rT
open Go.Proofs.Tryz renaming prog→Tp
variable {W W':World} {b i n:Nat} {e r:Bool} {d:Int}
namespace M
def num (v:Nat):Nat→List Nat
 | 0=>[]
 | n+1=>num (v / 2) n++[48+v % 2]
end M
namespace M
theorem num_length (n v:Nat):(num v n).length=n:=by
 induction n generalizing v with
 | zero=>rfl
 | succ n ih=>simp[num,ih]
end M
namespace M
theorem num_isL (n v:Nat):∀ x ∈ num v n,isL x:=by
 induction n generalizing v with
 | zero=>intro x hx;cases hx
 | succ n ih=>
  intro x hx;simp only[num,List.mem_append,List.mem_singleton] at hx
  rcases hx with hx|rfl
  ·exact ih _ x hx
  ·unfold isL;omega
end M
namespace M
theorem num_split (b v:Nat):∀ a,num v (a+b)=num (v / 2 ^ b) a++num v b:=by
 induction b generalizing v with
 | zero=>intro a;simp[num]
 | succ b ih=>
  intro a;have e1:a+(b+1)=(a+b)+1:=by omega
  have e2:v / 2 ^ (b+1)=v / 2 / 2 ^ b:=by rw[Nat.pow_succ,Nat.mul_comm,Nat.div_div_eq_div_mul]
  rw[e1,num,ih,num,e2,List.append_assoc]
end M
theorem strN_append (l m:List Nat):strN l++strN m=strN (l++m):=by
 unfold strN
 apply ByteArray.ext
 simp
theorem strN_size (l:List Nat):(strN l).size=l.length:=by
 unfold strN;simp[ByteArray.size]
theorem num_any (n:Nat):∀ (v:Nat) (w:World),n≤64→v<4611686018427387904 →
  Calls Tp 235 #[I J v,I J n] w fun o w'=>o = rT (.string (strN (M.num v n)))∧w=w':=by
 induction n with
 | zero=>
  intro v w _ hv;go_enter Tryz.func235,Tryz.ntmps235
  go_wp2
  go_ret;exact⟨rfl,rfl⟩
 | succ n ih=>
  intro v w hn hv;have IH:Hid (∀ (v:Nat) (w:World),n≤64→v<4611686018427387904→Calls Tp 235 #[I J v,I J n] w fun o w'=>o = rT (.string (strN (M.num v n)))∧w=w'):=ih
  clear ih;have hl:(strN (M.num (v / 2) n)).size≤64:=by rw[strN_size,M.num_length];omega
  by_cases hb:v % 2=1
  ·have hb':(((v:Int) % 2) == 1)=true:=by simp;omega
   have HE:Hid (strN (M.num v (n+1))=strN (M.num (v / 2) n)++strN [49]):=by rw[strN_append,M.num,hb];exact rfl
   clear hb;go_enter Tryz.func235,Tryz.ntmps235
   go_wp2_with fail;refine (IH.out (v / 2) _ (by omega) (by omega)).mono ?_
   rintro o w1 ⟨rfl,rfl⟩;go_wp2
   go_ret;exact⟨ret_str HE.out.symm,rfl⟩
  ·have hb':(((v:Int) % 2) == 1)=false:=by simp;omega
   have hb0:v % 2=0:=by omega
   have HE:Hid (strN (M.num v (n+1))=strN (M.num (v / 2) n)++strN [48]):=by rw[strN_append,M.num,hb0];exact rfl
   clear hb hb0;go_enter Tryz.func235,Tryz.ntmps235
   go_wp2_with fail;refine (IH.out (v / 2) _ (by omega) (by omega)).mono ?_
   rintro o w1 ⟨rfl,rfl⟩;go_wp2
   go_ret;exact⟨ret_str HE.out.symm,rfl⟩
theorem flag_any (r:Bool) (w:World):Calls Tp 236 #[bO r] w fun o w'=>o = rT (.string (strN [48+r.toNat]))∧w=w':=by
 cases r
 ·go_enter Tryz.func236,Tryz.ntmps236
  go_wp2
  go_ret;exact⟨rfl,rfl⟩
 ·go_enter Tryz.func236,Tryz.ntmps236
  go_wp2
  go_ret;exact⟨rfl,rfl⟩
theorem num_step (v c m:Nat) (h:m<c):M.num (v / 2 ^ m) (c-m)=M.num (v / 2 ^ (m+1)) (c-(m+1))++[48+v / 2 ^ m % 2]:=by
 have e:v / 2 ^ m / 2=v / 2 ^ (m+1):=by
  rw[Nat.div_div_eq_div_mul,← Nat.pow_succ]
 have e2:c-m=(c-(m+1))+1:=by omega
 rw[e2,M.num,e]
theorem bit_at (x m:Nat) (hx:x<4294967296):(48+bits BinOp.and IntKind.u32 ((x:Int) / 2 ^ m) 1) % 256=((48+x / 2 ^ m % 2:Nat):Int):=by
 have e:(x:Int) / 2 ^ m=((x / 2 ^ m:Nat):Int):=by simp
 have hy:x / 2 ^ m<4294967296:=Nat.lt_of_le_of_lt (Nat.div_le_self _ _) hx
 rw[e,show (1:Int)=((1:Nat):Int) from rfl,u32_and_nat _ _ hy (by omega),nat_mask1]
 omega
theorem appendBits_any (w:World) (B:Nat) (v:Value) (l:List Nat) (x c:Nat) (hown:ownsB w B v l) (hB:B≤w.heap.size) (hl:l.length≤10000) (hx:x<4294967296) (hc:c≤32) :
  Calls Tp 262 #[v,I .u32 x,I J c] w fun o w'=>∃ v',o = rT v'∧ownsB w' B v' (l++M.num x c)∧Below B w w'∧Lib.OthersKept 5 none w w':=by
 go_enter Tryz.func262,Tryz.ntmps262
 go_wp2
 go_loopw [0,7] (fun v i wr=>∃ q:Nat,q≤c∧i = I J ((q:Int)-1)∧ownsB wr B v (l++M.num (x / 2 ^ q) (c-q))∧Below B w wr∧Lib.OthersKept 5 none w wr∧B≤wr.heap.size) (fun _ i _=>(intOf i+1).toNat)
 case atStart=>exact⟨c,nR _,rfl,by simpa[M.num] using hown,bW _ _,Lib.OthersKept.refl _ _ _,hB⟩
 case round=>
  have hB0:=hB
  clear hown hB;obtain⟨q,hq,rfl,hown,hbel,hok,hB⟩:=hrel
  by_cases hq0:q=0
  ·subst hq0;rw[Nat.sub_zero,Nat.pow_zero,Nat.div_one] at hown
   go_wp2
   go_ret;exact⟨_,rfl,hown,hbel,hok⟩
  ·obtain⟨m,rfl⟩ : ∃ m,q=m+1:=⟨q-1,by omega⟩
   have hll:(l++M.num (x / 2 ^ (m+1)) (c-(m+1))).length≤20000:=by rw[List.length_append,M.num_length];omega
   have HN:Hid (l++M.num (x / 2 ^ m) (c-m)=(l++M.num (x / 2 ^ (m+1)) (c-(m+1)))++[48+x / 2 ^ m % 2]):=by rw[num_step x c m (by omega),List.append_assoc];exact rfl
   generalize l++M.num (x / 2 ^ (m+1)) (c-(m+1))=l1 at *;go_wp2_with (first | (at_builtin;refine app_byte2 w wr rfl (.tmp 14) (.tmp 21) rfl B _ l1 (48+x / 2 ^ m % 2) _ (bit_at x m hx) rfl hown rfl (by omega) hB hbel ?_))
   intro v3 w3 ho3 hb3 hk3;have hz3:B≤w3.heap.size:=nT hB0 hb3.size
   clear hown hbel hB;go_wp2
   go_roundw
   case rel=>exact⟨m,by omega,by go_num,by rw[HN.out];exact ho3,hb3,hok.trans hk3,hz3⟩
   case measure=>simp[intOf]
def arbL (e:Bool) (i:Nat) (r:Bool):List Nat:=
 if e=true then M.num (i / 2 ^ 18) 11++[49,49]++M.num i 18++[48+r.toNat] else M.num i 11++[48+r.toNat]++[48]
theorem num01:M.num 0 1=[48]:=rfl
theorem num11:M.num 1 1=[49]:=rfl
theorem app_two {ops:Array Oper} {rest:List Oper} {o:Oper} {a:Act} {Q:Exit→Act→World→Prop} (w0 wr:World) (hgd:o.guard=none) (s x:Operand)
  (ho:o.op = .call { callee:=.builtin .append,args:=#[s,x],argTypes:=#[50,50] })
  (B:Nat) (v:Value) (l:List Nat) (c d:Nat) (hs:a.eval s=v) (hown:ownsB wr B v l)
  (hx:a.eval x = sL (some ⟨wr.heap.size,0,none⟩) 2 2) (hlen:l.length≤100000000) (hB:B≤wr.heap.size) (hbel:Below B w0 wr)
  (h:∀ v' w',ownsB w' B v' (l++[c,d])→Below B w0 w'→Lib.OthersKept 5 none wr w'→wpList Tp ops Q rest (a.put o.dst v') w') :
  wpList Tp ops Q (o :: rest) a (wr.alloc (.cells #[I .u8 (c:Int),I .u8 (d:Int)] 5)):=by
 obtain⟨i0,hi,hz0,hz1,hz2⟩:=info_parts Tryz.info5
 refine wpList_append_own _ hgd s x 50 ho B 5 i0 (I .u8 0) 1 1 Tryz.underlying50 hi hz0 hz1 hz2 rfl (by decide) v l.length (bv l) hs (World.ownsRow.alloc hown _) ⟨wr.heap.size,0,none⟩ 2 2 [I .u8 (c:Int),I .u8 (d:Int)] hx rfl ?_ ?_ ?_ ?_ ?_ ?_
 ·exact cell_two_new wr (I .u8 (c:Int)) (I .u8 (d:Int)) 5
 ·intro u hu;simp at hu;rcases hu with rfl | rfl <;> rfl
 ·unfold maxLen;omega
 ·omega
 ·simp;omega
 ·intro v' w' ho' hg _;have hr:∀ k,v.ownBlock=some k→B≤k:=fun k hk=>(World.ownsRow.lt hown k hk).1
  refine h v' w' ?_ ((hbel.alloc hB _).grown hg (by simp;omega) hr) (((Lib.OthersKept.refl 5 none wr).alloc _).grown hg ?_)
  ·have e1:bv (l++[c,d])=bv l++[I .u8 (c:Int),I .u8 (d:Int)]:=by simp[bv]
   unfold ownsB
   rw[e1,List.length_append]
   exact ho'
  ·intro g hg';exact ownsB.kind (B:=B) (l:=l) (World.ownsRow.alloc hown _) g hg'
theorem box_kept {o:Obj} (h:W.heap[b]?=some o) (hk:Lib.OthersKept 5 none W W') (ho:∀ c fz,o≠.cells c 5 fz):W'.heap[b]?=some o:=hk b o h (by simp) ho
theorem frC_ne (e:Bool) (i:Nat) (r:Bool) (d:Int) (a:Option Addr) (n cap:Nat):∀ c fz,frC e i r d a n cap 55≠.cells c 5 fz:=by
 intro c fz h;cases h
theorem frC_cells {a:Option Addr} {cap:Nat} (h:W.heap[b]?=some (frC e i r d a n cap 55)) :
  W.cell? ⟨b,0,none⟩=some (bO e)∧W.cell? ⟨b,1,none⟩=some (I .u32 (i:Int))∧W.cell? ⟨b,2,none⟩=some (bO r)∧W.cell? ⟨b,3,none⟩=some (I J d)∧W.cell? ⟨b,4,none⟩=some (sL a n cap):=by
 refine⟨?_,?_,?_,?_,?_⟩ <;> simp[World.cell?,h]
theorem appendArb_any (w:World) (B:Nat) (v:Value) (l:List Nat) (hown:ownsB w B v l) (hB:B≤w.heap.size) (hl:l.length≤1000)
  (e:Bool) (i:Nat) (r:Bool) (d:Int) (a:Option Addr) (n cap:Nat) (hi:i<4294967296) :
  Calls Tp 259 #[v,frV e i r d a n cap] w fun o w'=>∃ v',o = rT v'∧ownsB w' B v' (l++arbL e i r)∧Below B w w'∧Lib.OthersKept 5 none w w':=by
 have hown1:ownsB (w.alloc (frC e i r d a n cap 55)) B v l:=World.ownsRow.alloc hown _
 have hbox:=heap_alloc_new w (frC e i r d a n cap 55)
 have hbel1:Below B w (w.alloc (frC e i r d a n cap 55)):=(bW _ _).alloc hB _
 have hok1:Lib.OthersKept 5 none w (w.alloc (frC e i r d a n cap 55)):=(Lib.OthersKept.refl 5 none w).alloc _
 have hz1:B≤(w.alloc (frC e i r d a n cap 55)).heap.size:=by simp;omega
 have HALL:Hid (ownsB (w.alloc (frC e i r d a n cap 55)) B v l∧(w.alloc (frC e i r d a n cap 55)).heap[w.heap.size]?=some (frC e i r d a n cap 55)∧Below B w (w.alloc (frC e i r d a n cap 55))∧Lib.OthersKept 5 none w (w.alloc (frC e i r d a n cap 55))∧B≤(w.alloc (frC e i r d a n cap 55)).heap.size):=⟨hown1,hbox,hbel1,hok1,hz1⟩
 clear hown1 hbox hbel1 hok1 hz1 hown;cases e
 ·cases r
  ·go_enter Tryz.func259,Tryz.ntmps259
   go_wp2_with fail;refine (appendBits_any _ B v l i 11 HALL.out.1 HALL.out.2.2.2.2 (by omega) hi (by omega)).mono ?_
   rintro o w2 ⟨v2,rfl,ho2,hb2,hk2⟩;go_wp2_with fail;have hz2:B≤w2.heap.size:=nT HALL.out.2.2.2.2 hb2.size
   refine (appendBits_any _ B v2 _ 0 1 ho2 hz2 (by simp[M.num_length];omega) (by omega) (by omega)).mono ?_
   rintro o w3 ⟨v3,rfl,ho3,hb3,hk3⟩;have hz3:B≤w3.heap.size:=nT hz2 hb3.size
   go_wp2_with (first | (at_builtin;refine app_byte2 w3 w3 rfl (.tmp 18) (.tmp 19) rfl B _ _ 48 _ rfl rfl ho3 rfl (by simp[M.num_length];omega) hz3 (bW _ _) ?_))
   intro v4 w4 ho4 hb4 hk4;go_wp2
   go_ret;refine⟨_,rfl,?_,HALL.out.2.2.1.trans (hb2.trans (hb3.trans hb4)),HALL.out.2.2.2.1.trans (hk2.trans (hk3.trans hk4))⟩
   have hfin:ownsB w4 B v4 (l++arbL false i false):=by simpa[arbL,num01,num11] using ho4
   exact hfin
  ·go_enter Tryz.func259,Tryz.ntmps259
   go_wp2_with fail;refine (appendBits_any _ B v l i 11 HALL.out.1 HALL.out.2.2.2.2 (by omega) hi (by omega)).mono ?_
   rintro o w2 ⟨v2,rfl,ho2,hb2,hk2⟩;go_wp2_with fail;have hz2:B≤w2.heap.size:=nT HALL.out.2.2.2.2 hb2.size
   refine (appendBits_any _ B v2 _ 1 1 ho2 hz2 (by simp[M.num_length];omega) (by omega) (by omega)).mono ?_
   rintro o w3 ⟨v3,rfl,ho3,hb3,hk3⟩;have hz3:B≤w3.heap.size:=nT hz2 hb3.size
   go_wp2_with (first | (at_builtin;refine app_byte2 w3 w3 rfl (.tmp 18) (.tmp 19) rfl B _ _ 48 _ rfl rfl ho3 rfl (by simp[M.num_length];omega) hz3 (bW _ _) ?_))
   intro v4 w4 ho4 hb4 hk4;go_wp2
   go_ret;refine⟨_,rfl,?_,HALL.out.2.2.1.trans (hb2.trans (hb3.trans hb4)),HALL.out.2.2.2.1.trans (hk2.trans (hk3.trans hk4))⟩
   have hfin:ownsB w4 B v4 (l++arbL false i true):=by simpa[arbL,num01,num11] using ho4
   exact hfin
 ·cases r
  ·have hdv:((i:Int) / 262144)=((i / 2 ^ 18:Nat):Int):=by omega
   have HDV:Hid (((i:Int) / 262144)=((i / 2 ^ 18:Nat):Int)):=hdv
   clear hdv;go_enter Tryz.func259,Tryz.ntmps259
   go_wp2_with fail;rw[HDV.out]
   refine (appendBits_any _ B v l (i / 2 ^ 18) 11 HALL.out.1 HALL.out.2.2.2.2 (by omega) (by omega) (by omega)).mono ?_
   rintro o w2 ⟨v2,rfl,ho2,hb2,hk2⟩;have hz2:B≤w2.heap.size:=nT HALL.out.2.2.2.2 hb2.size
   have hx2:=box_kept HALL.out.2.1 hk2 (frC_ne _ _ _ _ _ _ _)
   go_wp2_with (first | (at_builtin;refine app_two w2 w2 rfl (.tmp 26) (.tmp 27) rfl B _ _ 49 49 rfl ho2 rfl (by simp[M.num_length];omega) hz2 (bW _ _) ?_))
   intro v3 w3 ho3 hb3 hk3;have hz3:B≤w3.heap.size:=nT hz2 hb3.size
   have hx3:=frC_cells (box_kept hx2 hk3 (frC_ne _ _ _ _ _ _ _))
   have HX2:Hid True:=trivial
   clear hx2 HX2;go_wp2_with fail;refine (appendBits_any _ B v3 _ i 18 ho3 hz3 (by simp[M.num_length];omega) hi (by omega)).mono ?_
   rintro o w4 ⟨v4,rfl,ho4,hb4,hk4⟩;have hz4:B≤w4.heap.size:=nT hz3 hb4.size
   clear hx3;go_wp2_with fail;refine (appendBits_any _ B v4 _ 0 1 ho4 hz4 (by simp[M.num_length];omega) (by omega) (by omega)).mono ?_
   rintro o w5 ⟨v5,rfl,ho5,hb5,hk5⟩;go_wp2
   go_ret;refine⟨_,rfl,?_,HALL.out.2.2.1.trans (hb2.trans (hb3.trans (hb4.trans hb5))),HALL.out.2.2.2.1.trans (hk2.trans (hk3.trans (hk4.trans hk5)))⟩
   have hfin:ownsB w5 B v5 (l++arbL true i false):=by simpa[arbL,num01,num11] using ho5
   exact hfin
  ·have hdv:((i:Int) / 262144)=((i / 2 ^ 18:Nat):Int):=by omega
   have HDV:Hid (((i:Int) / 262144)=((i / 2 ^ 18:Nat):Int)):=hdv
   clear hdv;go_enter Tryz.func259,Tryz.ntmps259
   go_wp2_with fail;rw[HDV.out]
   refine (appendBits_any _ B v l (i / 2 ^ 18) 11 HALL.out.1 HALL.out.2.2.2.2 (by omega) (by omega) (by omega)).mono ?_
   rintro o w2 ⟨v2,rfl,ho2,hb2,hk2⟩;have hz2:B≤w2.heap.size:=nT HALL.out.2.2.2.2 hb2.size
   have hx2:=box_kept HALL.out.2.1 hk2 (frC_ne _ _ _ _ _ _ _)
   go_wp2_with (first | (at_builtin;refine app_two w2 w2 rfl (.tmp 26) (.tmp 27) rfl B _ _ 49 49 rfl ho2 rfl (by simp[M.num_length];omega) hz2 (bW _ _) ?_))
   intro v3 w3 ho3 hb3 hk3;have hz3:B≤w3.heap.size:=nT hz2 hb3.size
   have hx3:=frC_cells (box_kept hx2 hk3 (frC_ne _ _ _ _ _ _ _))
   have HX2:Hid True:=trivial
   clear hx2 HX2;go_wp2_with fail;refine (appendBits_any _ B v3 _ i 18 ho3 hz3 (by simp[M.num_length];omega) hi (by omega)).mono ?_
   rintro o w4 ⟨v4,rfl,ho4,hb4,hk4⟩;have hz4:B≤w4.heap.size:=nT hz3 hb4.size
   clear hx3;go_wp2_with fail;refine (appendBits_any _ B v4 _ 1 1 ho4 hz4 (by simp[M.num_length];omega) (by omega) (by omega)).mono ?_
   rintro o w5 ⟨v5,rfl,ho5,hb5,hk5⟩;go_wp2
   go_ret;refine⟨_,rfl,?_,HALL.out.2.2.1.trans (hb2.trans (hb3.trans (hb4.trans hb5))),HALL.out.2.2.2.1.trans (hk2.trans (hk3.trans (hk4.trans hk5)))⟩
   have hfin:ownsB w5 B v5 (l++arbL true i true):=by simpa[arbL,num01,num11] using ho5
   exact hfin
def bodyL (e:Bool) (i:Nat) (r:Bool) (d:Nat) (l:List Nat):List Nat:=
 [48]++arbL e i r++M.num 0 (1+e.toNat)++M.num d 4++l.flatMap (fun x=>M.num x 8)
theorem bodyL_length (e:Bool) (i:Nat) (r:Bool) (d:Nat) (l:List Nat):(bodyL e i r d l).length=(if e=true then 39 else 19)+8*l.length:=by
 have h8:(l.flatMap (fun x=>M.num x 8)).length=8*l.length:=by
  induction l with
  | nil=>rfl
  | cons a l ih=>rw[List.flatMap_cons,List.length_append,ih,M.num_length,List.length_cons];omega
 cases e <;> simp[bodyL,arbL,M.num_length,h8] <;> omega
theorem bodyL_isL (e:Bool) (i:Nat) (r:Bool) (d:Nat) (l:List Nat):∀ x ∈ bodyL e i r d l,M.isL x:=by
 have hf:∀ x,x=48+r.toNat→M.isL x:=by intro x hx;subst hx;cases r;exact .inl rfl;exact .inr rfl
 have h0:M.isL 48:=.inl rfl
 have h1:M.isL 49:=.inr rfl
 intro x hx;cases e
 ·simp only[bodyL,arbL,List.mem_append,List.mem_flatMap,List.mem_singleton,Bool.false_eq_true,if_false] at hx
  rcases hx with (((rfl|(hx|hx)|hx)|hx)|hx)|⟨y,_,hx⟩
  ·exact h0
  ·exact M.num_isL _ _ x hx
  ·exact hf x hx
  ·subst hx;exact h0
  ·exact M.num_isL _ _ x hx
  ·exact M.num_isL _ _ x hx
  ·exact M.num_isL _ _ x hx
 ·simp only[bodyL,arbL,List.mem_append,List.mem_flatMap,List.mem_cons,List.not_mem_nil,or_false,if_true] at hx
  rcases hx with (((rfl|(((hx|hx)|hx)|hx))|hx)|hx)|⟨y,_,hx⟩
  ·exact h0
  ·exact M.num_isL _ _ x hx
  ·rcases hx with rfl | rfl <;> exact h1
  ·exact M.num_isL _ _ x hx
  ·exact hf x hx
  ·exact M.num_isL _ _ x hx
  ·exact M.num_isL _ _ x hx
  ·exact M.num_isL _ _ x hx
theorem box_below {B:Nat} {o:Obj} (h:W.heap[b]?=some o) (hb:Below B W W') (hB:b<B):W'.heap[b]?=some o:=(hb.block b hB).trans h
def bodyZ (e:Bool) (i:Nat) (r:Bool) (d:Int) (n:Nat) (l:List Nat):ByteArray:=if vB e i r d n=true then strN (bodyL e i r d.toNat l) else ⟨#[]⟩
theorem validB_true (h:vB e i r d n=true):i<536870912∧(e=false→i<2048)∧0≤d∧d≤15∧n≤8:=by
 unfold vB at h
 simp only[Bool.and_eq_true,decide_eq_true_iff,beq_iff_eq] at h
 obtain⟨⟨⟨h1,h2⟩,h3⟩,h4⟩:=h
 have h5:=dl_bounds r d h2
 refine⟨?_,?_,h2,h3,by omega⟩
 ·cases e <;> simp at h1 <;> omega
 ·intro he;subst he;simpa using h1
theorem flat_snoc (l:List Nat) (k:Nat) (h:k<l.length) (p:List Nat):p++(l.take (k+1)).flatMap (fun x=>M.num x 8)=p++(l.take k).flatMap (fun x=>M.num x 8)++M.num l[k] 8:=by
 rw[M.take_at l k h,List.flatMap_append,List.append_assoc];simp
theorem flat_lenB (l:List Nat):(l.flatMap (fun x=>M.num x 8)).length=8*l.length:=by
 induction l with
 | nil=>rfl
 | cons a l ih=>rw[List.flatMap_cons,List.length_append,ih,M.num_length,List.length_cons];omega
theorem num_quiet (v n:Nat) (w:World) (hn:n≤64) (hv:v<4611686018427387904):Calls Tp 235 #[I J v,I J n] w fun o w'=>o = rT (.string (strN (M.num v n)))∧w'=w:=
 (num_any n v w hn hv).mono fun _ _ h=>⟨h.1,h.2.symm⟩
theorem flag_quiet (r:Bool) (w:World):Calls Tp 236 #[bO r] w fun o w'=>o = rT (.string (strN [48+r.toNat]))∧w'=w:=
 (flag_any r w).mono fun _ _ h=>⟨h.1,h.2.symm⟩
theorem strN_take (l:List Nat) (k:Nat):(strN l).extract 0 k=strN (l.take k):=by
 unfold strN
 apply ByteArray.ext
 simp[ByteArray.data_extract]
theorem strN_drop (l:List Nat) (k m:Nat) (h:m=l.length):(strN l).extract k m=strN (l.drop k):=by
 subst h;unfold strN
 apply ByteArray.ext
 simp[ByteArray.data_extract]
 exact List.take_of_length_le (by simp)
theorem num_q4 (v:Nat) (w:World) (hv:v<4611686018427387904):Calls Tp 235 #[I J (v:Int),I J 4] w fun o w'=>o = rT (.string (strN (M.num v 4)))∧w'=w:=num_quiet v 4 w (by omega) hv
theorem num_q8 (v:Nat) (w:World) (hv:v<4611686018427387904):Calls Tp 235 #[I J (v:Int),I J 8] w fun o w'=>o = rT (.string (strN (M.num v 8)))∧w'=w:=num_quiet v 8 w (by omega) hv
theorem num_q11 (v:Nat) (w:World) (hv:v<4611686018427387904):Calls Tp 235 #[I J (v:Int),I J 11] w fun o w'=>o = rT (.string (strN (M.num v 11)))∧w'=w:=num_quiet v 11 w (by omega) hv
theorem num_e29 (v:Nat) (w:World) (hv:v<4611686018427387904):Calls Tp 235 #[I J (v:Int),I J 29] w fun o w'=>o = rT (.string (strN (M.num v 29)))∧w=w':=num_any 29 v w (by omega) hv
theorem num02:M.num 0 2=[48,48]:=rfl
theorem num29_take (i:Nat):(M.num i 29).take 11=M.num (i / 2 ^ 18) 11:=by
 rw[show (29:Nat)=11+18 from rfl,M.num_split 18 i 11,List.take_append_of_le_length (by rw[M.num_length];omega),List.take_of_length_le (by rw[M.num_length];omega)]
theorem num29_drop (i:Nat):(M.num i 29).drop 11=M.num i 18:=by
 rw[show (29:Nat)=11+18 from rfl,M.num_split 18 i 11,List.drop_append_of_le_length (by rw[M.num_length];omega),List.drop_eq_nil_of_le (by rw[M.num_length];omega),List.nil_append]
theorem b48:({ data:=#[48] }:ByteArray)=strN [48]:=rfl
theorem b49:({ data:=#[49] }:ByteArray)=strN [49]:=rfl
theorem b4848:({ data:=#[48,48] }:ByteArray)=strN [48,48]:=rfl
theorem specBody_ok (w:World) (e:Bool) (i:Nat) (r:Bool) (dn:Nat) (a:Option Addr) (n cap:Nat) (l:List Nat) (h:iB w a n cap l) (hv:vB e i r (dn:Int) n=true) :
  Calls Tp 231 #[frV e i r (dn:Int) a n cap] w fun o w'=>o = rT (.string (strN (bodyL e i r dn l)))∧Below w.heap.size w w':=by
 obtain⟨hi,hi2,_,hd15,hn8⟩:=validB_true hv
 have HV:Hid (vB e i r (dn:Int) n=true):=hv
 have HH:Hid (iB w a n cap l):=h
 have hW:Below w.heap.size w (w.alloc (frC e i r (dn:Int) a n cap 55)):=(bW _ _).alloc (nR _) _
 have HW:Hid (Below w.heap.size w (w.alloc (frC e i r (dn:Int) a n cap 55))∧(w.alloc (frC e i r (dn:Int) a n cap 55)).heap[w.heap.size]?=some (frC e i r (dn:Int) a n cap 55)):=⟨hW,heap_alloc_new w _⟩
 clear hv h hW hi2;cases e
 ·go_enter Tryz.func231,Tryz.ntmps231
  go_wp2_with fail;refine (specValid_any _ _ i r (dn:Int) a n cap).mono ?_
  rw[HV.out]
  rintro o w1 ⟨rfl,hb1⟩;have hB1:Below w.heap.size w w1:=HW.out.1.trans (hb1.mono (by simp))
  have hx1:=box_below HW.out.2 hb1 (by simp)
  have hc1:=frC_cells hx1
  have HY1:Hid (iB w1 a n cap l):=HH.out.below hB1
  clear hb1 hx1;have hs1:(strN (M.num i 11)).size≤11:=by rw[strN_size,M.num_length];omega
  have hs2:(strN [48+r.toNat]).size≤1:=by rw[strN_size];simp
  go_wp2_with fail;go_quiet (first | (go_at_call 235;exact Calls.quiet_of_same (num_q11 i _ (by omega))) | (go_at_call 236;exact Calls.quiet_of_same (flag_quiet r _)))
  go_wp2_with fail;have hEq:({ data:=#[48] }++strN (M.num i 11)++strN [48+r.toNat]++{ data:=#[48] }++{ data:=#[48] }:ByteArray)=strN ([48]++M.num i 11++[48+r.toNat]++[48]++[48]):=by
   rw[b48]
   simp only[strN_append]
  rw[hEq]
  have HBD:Hid (bodyL false i r dn l=[48]++M.num i 11++[48+r.toNat]++[48]++[48]++M.num dn 4++l.flatMap (fun x=>M.num x 8)):=by
   simp[Hid,bodyL,arbL,num01]
  have hpl:([48]++M.num i 11++[48+r.toNat]++[48]++[48]++M.num dn 4).length≤100:=by simp[M.num_length]
  have hs3:(strN ([48]++M.num i 11++[48+r.toNat]++[48]++[48])).size≤100:=by rw[strN_size];simp[M.num_length]
  have hs4:(strN (M.num dn 4)).size≤4:=by rw[strN_size,M.num_length];omega
  have HAP:Hid (strN ([48]++M.num i 11++[48+r.toNat]++[48]++[48])++strN (M.num dn 4)=strN ([48]++M.num i 11++[48+r.toNat]++[48]++[48]++M.num dn 4)):=strN_append _ _
  clear hEq hs1 hs2;generalize [48]++M.num i 11++[48+r.toNat]++[48]++[48]++M.num dn 4=pre at *;generalize strN ([48]++M.num i 11++[48+r.toNat]++[48]++[48])=sp at *;refine (num_q4 dn _ (by omega)).mono ?_
  rintro o w2 ⟨rfl,rfl⟩;go_wp2_with fail;rw[HAP.out]
  by_cases hl:l=[]
  ·have hn0:n=0:=by have:=HY1.out.len;rw[hl] at this;simpa using this
   subst hn0 hl;go_loopw [3,5] (fun s idx wr=>idx = I J 0∧s = .string (strN pre)∧wr=w1.drewN nq) (fun _ _ _=>0)
   case atStart=>exact⟨rfl,rfl,rfl⟩
   case round=>
    obtain⟨rfl,rfl,rfl⟩:=hrel
    go_wp2
    go_ret;exact⟨ret_str (by rw[HBD.out];simp),below_drewN hB1 nq⟩
  ·obtain⟨g,off,rfl,hcl⟩:=HY1.out.cells hl
   have hlen:=HY1.out.len
   have hn1:n≤l.length:=by omega
   have hn2:l.length≤n:=by omega
   have HSM:Hid (∀ x ∈ l,x<256):=HY1.out.small
   clear hlen;go_loopw [3,5] (fun s idx wr=>∃ k:Nat,k≤n∧idx = I J k∧s = .string (strN (pre++(l.take k).flatMap (fun x=>M.num x 8)))∧wr=w1.drewN nq) (fun _ idx _=>n-(intOf idx).toNat)
   case atStart=>exact⟨0,nZ _,rfl,by simp,rfl⟩
   case round=>
    obtain⟨k,hk,rfl,rfl,rfl⟩:=hrel
    by_cases hlt:k<n
    ·have hc:=hcl k (by omega)
     have hx256:=HSM.out l[k] (List.getElem_mem _)
     have HF:Hid (strN (pre++(l.take k).flatMap (fun x=>M.num x 8))++strN (M.num l[k] 8)=strN (pre++(l.take (k+1)).flatMap (fun x=>M.num x 8))):=by rw[flat_snoc l k (by omega) pre,strN_append];exact rfl
     have hpl2:(strN (pre++(l.take k).flatMap (fun x=>M.num x 8))).size≤1000:=by rw[strN_size,List.length_append,flat_lenB,List.length_take];omega
     generalize l[k]=x at *;have hs8:(strN (M.num x 8)).size≤8:=by rw[strN_size,M.num_length];omega
     generalize strN (pre++(l.take k).flatMap (fun x=>M.num x 8))=sp at *;go_wp2_with (first | (go_at_call 235;refine (num_q8 x _ (by omega)).mono ?_;rintro o w7 ⟨rfl,rfl⟩))
     go_roundw
     case rel=>exact⟨k+1,by omega,by go_num,by rw[← HF.out],by first | rfl | trivial⟩
     case measure=>simp[intOf];omega
    ·have hke:l.take k=l:=List.take_of_length_le (by omega)
     have HKE:Hid (l.take k=l):=hke
     clear hke;go_wp2
     go_ret;exact⟨ret_str (by rw[HBD.out,HKE.out]),below_drewN hB1 nq⟩
 ·go_enter Tryz.func231,Tryz.ntmps231
  go_wp2_with fail;refine (specValid_any _ _ i r (dn:Int) a n cap).mono ?_
  rw[HV.out]
  rintro o w1 ⟨rfl,hb1⟩;have hB1:Below w.heap.size w w1:=HW.out.1.trans (hb1.mono (by simp))
  have hx1:=box_below HW.out.2 hb1 (by simp)
  have hc1:=frC_cells hx1
  have HY1:Hid (iB w1 a n cap l):=HH.out.below hB1
  clear hb1 hx1;have hs29:(strN (M.num i 29)).size=29:=by rw[strN_size,M.num_length]
  have hs2:(strN [48+r.toNat]).size≤1:=by rw[strN_size];simp
  go_wp2_with (first | (go_at_call 235;refine (num_e29 i _ (by omega)).mono ?_;rintro o w7 ⟨rfl,rfl⟩))
  go_quiet (first | (go_at_call 236;exact Calls.quiet_of_same (flag_quiet r _)))
  go_wp2_with fail;have hEq:({ data:=#[48] }++(strN (M.num i 29)).extract 0 11++{ data:=#[49] }++{ data:=#[49] }++(strN (M.num i 29)).extract 11 29++strN [48+r.toNat]++{ data:=#[48,48] }:ByteArray)=strN ([48]++M.num (i / 2 ^ 18) 11++[49]++[49]++M.num i 18++[48+r.toNat]++[48,48]):=by
   rw[b48,b49,b4848,strN_take,strN_drop _ 11 29 (by rw[M.num_length]),num29_take,num29_drop]
   simp only[strN_append]
  rw[hEq]
  have HBD:Hid (bodyL true i r dn l=[48]++M.num (i / 2 ^ 18) 11++[49]++[49]++M.num i 18++[48+r.toNat]++[48,48]++M.num dn 4++l.flatMap (fun x=>M.num x 8)):=by
   simp[Hid,bodyL,arbL,num02]
  have hpl:([48]++M.num (i / 2 ^ 18) 11++[49]++[49]++M.num i 18++[48+r.toNat]++[48,48]++M.num dn 4).length≤100:=by simp[M.num_length]
  have hs3:(strN ([48]++M.num (i / 2 ^ 18) 11++[49]++[49]++M.num i 18++[48+r.toNat]++[48,48])).size≤100:=by rw[strN_size];simp[M.num_length]
  have hs4:(strN (M.num dn 4)).size≤4:=by rw[strN_size,M.num_length];omega
  have HAP:Hid (strN ([48]++M.num (i / 2 ^ 18) 11++[49]++[49]++M.num i 18++[48+r.toNat]++[48,48])++strN (M.num dn 4)=strN ([48]++M.num (i / 2 ^ 18) 11++[49]++[49]++M.num i 18++[48+r.toNat]++[48,48]++M.num dn 4)):=strN_append _ _
  clear hEq hs29 hs2;generalize [48]++M.num (i / 2 ^ 18) 11++[49]++[49]++M.num i 18++[48+r.toNat]++[48,48]++M.num dn 4=pre at *;generalize strN ([48]++M.num (i / 2 ^ 18) 11++[49]++[49]++M.num i 18++[48+r.toNat]++[48,48])=sp at *;refine (num_q4 dn _ (by omega)).mono ?_
  rintro o w2 ⟨rfl,rfl⟩;go_wp2_with fail;rw[HAP.out]
  by_cases hl:l=[]
  ·have hn0:n=0:=by have:=HY1.out.len;rw[hl] at this;simpa using this
   subst hn0 hl;go_loopw [3,5] (fun s idx wr=>idx = I J 0∧s = .string (strN pre)∧wr=w1.drewN nq) (fun _ _ _=>0)
   case atStart=>exact⟨rfl,rfl,rfl⟩
   case round=>
    obtain⟨rfl,rfl,rfl⟩:=hrel
    go_wp2
    go_ret;exact⟨ret_str (by rw[HBD.out];simp),below_drewN hB1 nq⟩
  ·obtain⟨g,off,rfl,hcl⟩:=HY1.out.cells hl
   have hlen:=HY1.out.len
   have hn1:n≤l.length:=by omega
   have hn2:l.length≤n:=by omega
   have HSM:Hid (∀ x ∈ l,x<256):=HY1.out.small
   clear hlen;go_loopw [3,5] (fun s idx wr=>∃ k:Nat,k≤n∧idx = I J k∧s = .string (strN (pre++(l.take k).flatMap (fun x=>M.num x 8)))∧wr=w1.drewN nq) (fun _ idx _=>n-(intOf idx).toNat)
   case atStart=>exact⟨0,nZ _,rfl,by simp,rfl⟩
   case round=>
    obtain⟨k,hk,rfl,rfl,rfl⟩:=hrel
    by_cases hlt:k<n
    ·have hc:=hcl k (by omega)
     have hx256:=HSM.out l[k] (List.getElem_mem _)
     have HF:Hid (strN (pre++(l.take k).flatMap (fun x=>M.num x 8))++strN (M.num l[k] 8)=strN (pre++(l.take (k+1)).flatMap (fun x=>M.num x 8))):=by rw[flat_snoc l k (by omega) pre,strN_append];exact rfl
     have hpl2:(strN (pre++(l.take k).flatMap (fun x=>M.num x 8))).size≤1000:=by rw[strN_size,List.length_append,flat_lenB,List.length_take];omega
     generalize l[k]=x at *;have hs8:(strN (M.num x 8)).size≤8:=by rw[strN_size,M.num_length];omega
     generalize strN (pre++(l.take k).flatMap (fun x=>M.num x 8))=sp at *;go_wp2_with (first | (go_at_call 235;refine (num_q8 x _ (by omega)).mono ?_;rintro o w7 ⟨rfl,rfl⟩))
     go_roundw
     case rel=>exact⟨k+1,by omega,by go_num,by rw[← HF.out],by first | rfl | trivial⟩
     case measure=>simp[intOf];omega
    ·have hke:l.take k=l:=List.take_of_length_le (by omega)
     have HKE:Hid (l.take k=l):=hke
     clear hke;go_wp2
     go_ret;exact⟨ret_str (by rw[HBD.out,HKE.out]),below_drewN hB1 nq⟩
theorem specBody_any (w:World) (e:Bool) (i:Nat) (r:Bool) (d:Int) (a:Option Addr) (n cap:Nat) (l:List Nat) (h:iB w a n cap l) :
  Calls Tp 231 #[frV e i r d a n cap] w fun o w'=>o = rT (.string (bodyZ e i r d n l))∧Below w.heap.size w w':=by
 by_cases hv:vB e i r d n=true
 ·obtain⟨_,_,hd0,_,_⟩:=validB_true hv
  obtain⟨dn,rfl⟩:=Int.eq_ofNat_of_zero_le hd0
  refine (specBody_ok w e i r dn a n cap l h hv).mono ?_
  rintro o w' ⟨rfl,hb⟩;exact⟨ret_str (by simp[bodyZ,hv]),hb⟩
 ·have hv':vB e i r d n=false:=by simpa using hv
  have HZ:Hid (bodyZ e i r d n l=⟨#[]⟩):=by simp[bodyZ,hv',Hid]
  have HV:Hid (vB e i r d n=false):=hv'
  clear hv hv' h;go_enter Tryz.func231,Tryz.ntmps231
  go_wp2_with (first | (go_at_call 47;refine (specValid_any _ e i r d a n cap).mono ?_;rw[HV.out];rintro o w1 ⟨rfl,hb1⟩))
  go_ret;exact⟨ret_str HZ.out.symm,((bW w.heap.size w).alloc (nR _) _).trans (hb1.mono (by simp))⟩
def arbZ (e:Bool) (i:Nat) (r:Bool) (d:Int) (n:Nat):ByteArray:=if vB e i r d n=true then strN (arbL e i r) else ⟨#[]⟩
theorem arbL_isL (e:Bool) (i:Nat) (r:Bool):∀ x ∈ arbL e i r,M.isL x:=fun x hx=>bodyL_isL e i r 0 [] x (by unfold bodyL;simp[hx])
theorem ownsB_nil (w:World) (B:Nat):ownsB w B (sL none 0 0) []:=World.ownsRow_nil w B 5 1
theorem strN_mid (l:List Nat) (a b:Nat):(strN l).extract a b=strN ((l.drop a).take (b-a)):=by
 unfold strN
 apply ByteArray.ext
 simp[ByteArray.data_extract,List.map_drop,List.map_take]
theorem body_arb (e:Bool) (i:Nat) (r:Bool) (d:Nat) (l:List Nat):((bodyL e i r d l).drop 1).take (if e=true then 32 else 13)=arbL e i r:=by
 have hl:(arbL e i r).length=if e=true then 32 else 13:=by cases e <;> simp[arbL,M.num_length]
 have hb:bodyL e i r d l=[48]++(arbL e i r++(M.num 0 (1+e.toNat)++M.num d 4++l.flatMap (fun x=>M.num x 8))):=by simp[bodyL]
 rw[hb,← hl]
 simp
theorem arb_any (w:World) (e:Bool) (i:Nat) (r:Bool) (d:Int) (a:Option Addr) (n cap:Nat) (l:List Nat) (h:iB w a n cap l) :
  Calls Tp 250 #[frV e i r d a n cap] w fun o w'=>o = rT (.string (arbZ e i r d n))∧Below w.heap.size w w':=by
 have HH:Hid (iB w a n cap l):=h
 have HW:Hid (Below w.heap.size w (w.alloc (frC e i r d a n cap 55))∧(w.alloc (frC e i r d a n cap 55)).heap[w.heap.size]?=some (frC e i r d a n cap 55)):=⟨(bW _ _).alloc (nR _) _,heap_alloc_new w _⟩
 clear h;by_cases hv:vB e i r d n=true
 ·have hi:=(validB_true hv).1
  have HZ:Hid (arbZ e i r d n=strN (arbL e i r)):=by simp[arbZ,hv,Hid]
  have HV:Hid (vB e i r d n=true):=hv
  clear hv;go_enter Tryz.func250,Tryz.ntmps250
  go_wp2_with fail;refine (valid_any _ e i r d a n cap l (HH.out.below HW.out.1)).mono ?_
  rw[HV.out]
  rintro o w1 ⟨rfl,hb1⟩;have hB1:Below w.heap.size w w1:=HW.out.1.trans (hb1.mono (by simp))
  have hx1:=box_below HW.out.2 hb1 (by simp)
  have hz1:w.heap.size<w1.heap.size:=lt_of_block hx1
  have hc1:=frC_cells hx1
  clear hb1 hx1;go_wp2_with fail;refine (appendArb_any _ w1.heap.size _ [] (ownsB_nil w1 _) (nR _) (by simp) e i r d a n cap (by omega)).mono ?_
  rintro o w2 ⟨v2,rfl,ho2,hb2,_⟩;rw[List.nil_append] at ho2
  have hcv:=conv_own ho2 (isL_lt (arbL_isL e i r))
  generalize arbL e i r=al at *;go_wp2
  go_ret;exact⟨ret_str HZ.out.symm,hB1.trans (hb2.mono (by omega))⟩
 ·have hv':vB e i r d n=false:=by simpa using hv
  have HZ:Hid (arbZ e i r d n=⟨#[]⟩):=by simp[arbZ,hv',Hid]
  have HV:Hid (vB e i r d n=false):=hv'
  clear hv hv';go_enter Tryz.func250,Tryz.ntmps250
  go_wp2_with (first | (go_at_call 112;refine (valid_any _ e i r d a n cap l (HH.out.below HW.out.1)).mono ?_;rw[HV.out];rintro o w1 ⟨rfl,hb1⟩))
  go_ret;exact⟨ret_str HZ.out.symm,HW.out.1.trans (hb1.mono (by simp))⟩
theorem specArb_any (w:World) (e:Bool) (i:Nat) (r:Bool) (d:Int) (a:Option Addr) (n cap:Nat) (l:List Nat) (h:iB w a n cap l) :
  Calls Tp 220 #[frV e i r d a n cap] w fun o w'=>o = rT (.string (arbZ e i r d n))∧Below w.heap.size w w':=by
 have HH:Hid (iB w a n cap l):=h
 have HW:Hid (Below w.heap.size w (w.alloc (frC e i r d a n cap 55))∧(w.alloc (frC e i r d a n cap 55)).heap[w.heap.size]?=some (frC e i r d a n cap 55)):=⟨(bW _ _).alloc (nR _) _,heap_alloc_new w _⟩
 clear h;by_cases hv:vB e i r d n=true
 ·have HZ:Hid (arbZ e i r d n=strN (arbL e i r)):=by simp[arbZ,hv,Hid]
  have HBZ:Hid (bodyZ e i r d n l=strN (bodyL e i r d.toNat l)):=by simp[bodyZ,hv,Hid]
  have HV:Hid (vB e i r d n=true):=hv
  clear hv;have hsz:(strN (bodyL e i r d.toNat l)).size=(if e=true then 39 else 19)+8*l.length:=by rw[strN_size,bodyL_length]
  cases e
  ·have h33:14≤(strN (bodyL false i r d.toNat l)).size:=by rw[hsz];simp;omega
   have HA:Hid ((strN (bodyL false i r d.toNat l)).extract 1 14=strN (arbL false i r)):=by
    rw[strN_mid];exact congrArg strN (body_arb false i r d.toNat l)
   clear hsz;generalize strN (bodyL false i r d.toNat l)=bs at *;go_enter Tryz.func220,Tryz.ntmps220
   go_wp2_with fail;refine (specValid_any _ _ i r d a n cap).mono ?_
   rw[HV.out]
   rintro o w1 ⟨rfl,hb1⟩;have hB1:Below w.heap.size w w1:=HW.out.1.trans (hb1.mono (by simp))
   have hx1:=box_below HW.out.2 hb1 (by simp)
   have hz1:w.heap.size<w1.heap.size:=lt_of_block hx1
   have HX1:Hid (w1.heap[w.heap.size]?=some (frC false i r d a n cap 55)):=hx1
   have hc1:=frC_cells hx1
   clear hb1 hx1;go_wp2_with fail;refine (specBody_any _ _ i r d a n cap l (HH.out.below hB1)).mono ?_
   rw[HBZ.out]
   rintro o w2 ⟨rfl,hb2⟩;have hc2:=frC_cells (box_below HX1.out hb2 hz1)
   clear hc1;go_wp2
   go_ret;exact⟨ret_str (by rw[HZ.out,HA.out]),hB1.trans (hb2.mono (by omega))⟩
  ·have h33:33≤(strN (bodyL true i r d.toNat l)).size:=by rw[hsz];simp;omega
   have HA:Hid ((strN (bodyL true i r d.toNat l)).extract 1 33=strN (arbL true i r)):=by
    rw[strN_mid];exact congrArg strN (body_arb true i r d.toNat l)
   clear hsz;generalize strN (bodyL true i r d.toNat l)=bs at *;go_enter Tryz.func220,Tryz.ntmps220
   go_wp2_with fail;refine (specValid_any _ _ i r d a n cap).mono ?_
   rw[HV.out]
   rintro o w1 ⟨rfl,hb1⟩;have hB1:Below w.heap.size w w1:=HW.out.1.trans (hb1.mono (by simp))
   have hx1:=box_below HW.out.2 hb1 (by simp)
   have hz1:w.heap.size<w1.heap.size:=lt_of_block hx1
   have HX1:Hid (w1.heap[w.heap.size]?=some (frC true i r d a n cap 55)):=hx1
   have hc1:=frC_cells hx1
   clear hb1 hx1;go_wp2_with fail;refine (specBody_any _ _ i r d a n cap l (HH.out.below hB1)).mono ?_
   rw[HBZ.out]
   rintro o w2 ⟨rfl,hb2⟩;have hc2:=frC_cells (box_below HX1.out hb2 hz1)
   clear hc1;go_wp2
   go_ret;exact⟨ret_str (by rw[HZ.out,HA.out]),hB1.trans (hb2.mono (by omega))⟩
 ·have hv':vB e i r d n=false:=by simpa using hv
  have HZ:Hid (arbZ e i r d n=⟨#[]⟩):=by simp[arbZ,hv',Hid]
  have HV:Hid (vB e i r d n=false):=hv'
  clear hv hv';go_enter Tryz.func220,Tryz.ntmps220
  go_wp2_with (first | (go_at_call 47;refine (specValid_any _ e i r d a n cap).mono ?_;rw[HV.out];rintro o w1 ⟨rfl,hb1⟩))
  go_ret;exact⟨ret_str HZ.out.symm,HW.out.1.trans (hb1.mono (by simp))⟩
theorem wFrame_same (w:World) (e:Bool) (i:Nat) (r:Bool) (d:Int) (a:Option Addr) (n cap:Nat) (l:List Nat) (h:iB w a n cap l) (a':Option Addr) (cap':Nat) (h':iB w a' n cap' l) (hn:n≤1048576) :
  Calls Tp 133 #[frV e i r d a n cap,frV e i r d a' n cap'] w fun o w'=>o = rT (bO true)∧Below w.heap.size w w':=by
 have hE:(e != e)=false:=by simp
 have hR:(r != r)=false:=by simp
 have hD:(d != d)=false:=by simp
 have hI:((i:Int) != (i:Int))=false:=by simp
 have hbl:Below w.heap.size w ((w.alloc (frC e i r d a n cap 55)).alloc (frC e i r d a' n cap' 55)):=((bW _ _).alloc (nR _) _).alloc (by simp) _
 have HB:Hid (Below w.heap.size w ((w.alloc (frC e i r d a n cap 55)).alloc (frC e i r d a' n cap' 55))):=hbl
 have HY:Hid (iB ((w.alloc (frC e i r d a n cap 55)).alloc (frC e i r d a' n cap' 55)) a n cap l):=h.below hbl
 have HY':Hid (iB ((w.alloc (frC e i r d a n cap 55)).alloc (frC e i r d a' n cap' 55)) a' n cap' l):=h'.below hbl
 clear hbl h h';go_enter Tryz.func133,Tryz.ntmps133
 go_wp2
 go_loopw [5] (fun ii wr=>∃ k:Nat,k≤n∧ii = I J (k:Int)∧∃ q,wr=((w.alloc (frC e i r d a n cap 55)).alloc (frC e i r d a' n cap' 55)).drewN q) (fun ii _=>n-(intOf ii).toNat)
 case atStart=>exact⟨0,nZ _,rfl,0,rfl⟩
 case round=>
  obtain⟨k,hk,rfl,q,rfl⟩:=hrel
  by_cases hlt:k<n
  ·have hl:l≠[]:=by intro e;have:=HY.out.len;rw[e] at this;simp at this;omega
   obtain⟨g1,o1,rfl,k1⟩:=HY.out.cells hl
   obtain⟨g2,o2,rfl,k2⟩:=HY'.out.cells hl
   have hkl:k<l.length:=by have:=HY.out.len;omega
   have c1:=k1 k hkl
   have c2:=k2 k hkl
   have hx:(((l[k]:Nat):Int) != ((l[k]:Nat):Int))=false:=by simp
   have b0:((w.alloc (frC e i r d (some ⟨g1,o1,none⟩) n cap 55)).alloc (frC e i r d (some ⟨g2,o2,none⟩) n cap' 55)).cell? ⟨w.heap.size,4,none⟩=some (sL (some ⟨g1,o1,none⟩) n cap):=by go_simp
   have b1:((w.alloc (frC e i r d (some ⟨g1,o1,none⟩) n cap 55)).alloc (frC e i r d (some ⟨g2,o2,none⟩) n cap' 55)).cell? ⟨w.heap.size+1,4,none⟩=some (sL (some ⟨g2,o2,none⟩) n cap'):=by go_simp
   generalize l[k]=x at *;clear k1 k2 hkl hl;generalize (w.alloc (frC e i r d (some ⟨g1,o1,none⟩) n cap 55)).alloc (frC e i r d (some ⟨g2,o2,none⟩) n cap' 55)=W at *;go_wp2
   go_quiet (fail)
   go_wp2
   go_roundw
   case rel=>exact⟨k+1,by omega,by go_num,_,rfl⟩
   case measure=>simp[intOf];omega
  ·go_wp2
   go_ret;exact⟨rfl,below_drewN HB.out q⟩
theorem wByte_any (w:World) (a:Option Addr) (n cap:Nat) (l:List Nat) (i:Nat) (h:iB w a n cap l) (hn:n≤1048576) (hi:i≤100) :
  Calls Tp 26 #[sL a n cap,I J (i:Int)] w fun o w'=>∃ x:Nat,o = rT (I J (x:Int))∧x<256∧Below w.heap.size w w':=by
 by_cases hl:l=[]
 ·subst hl;have hn0:n=0:=h.len
  subst hn0;clear h;have hm:IntKind.i64.wrap (7*(i:Int))=7*(i:Int):=by simp[IntKind.wrap,IntKind.bits,IntKind.signed];omega
  go_enter Tryz.func26,Tryz.ntmps26
  go_wp2
  go_ret;exact⟨7*i % 256,by congr 2,by omega,bW _ _⟩
 ·obtain⟨g,off,rfl,hc⟩:=h.cells hl
  have hlen:=h.len
  have hpos:0<l.length:=List.length_pos_iff.2 hl
  have hm:i % n<l.length:=by rw[hlen];exact Nat.mod_lt _ hpos
  have hcell:=hc (i % n) hm
  have hx:l[i % n]<256:=h.small _ (List.getElem_mem hm)
  generalize l[i % n]=x at *;have hn0:¬ (n:Int)=0:=by omega
  have hmod:(i:Int).tmod (n:Int)=((i % n:Nat):Int):=by rw[Int.tmod_eq_emod_of_nonneg (by omega)];omega
  have hmod2:((i % n:Nat):Int)<(n:Int):=by omega
  have HX:Hid (x<256):=hx
  clear h hc hl hx;subst hlen;generalize hk:i % l.length=k at *;clear hk;go_enter Tryz.func26,Tryz.ntmps26
  go_wp2
  go_ret;exact⟨x,by rw[show wrap64 (x:Int)=(x:Int) by unfold wrap64;have:=HX.out;omega];rfl,HX.out,bW _ _⟩
end Go.Proofs.YtkfcfigbgmbaiaaGreat
