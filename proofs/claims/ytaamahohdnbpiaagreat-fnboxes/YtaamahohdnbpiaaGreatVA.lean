import Derived.Test.YtaamahohdnbpiaaGreatG00
import Derived.Deep.RegionHeld3
namespace Go.Proofs.YtaamahohdnbpiaaGreat
open Go.RowKit
set_option linter.unusedVariables false
namespace M
def isL (c:Nat):Prop:=c=48∨c=49
end M
theorem ret_str {a b:ByteArray} (h:a=b):Ending.returned (.string a) = .returned (.string b):=by rw[h]
def strN (l:List Nat):ByteArray:=⟨(l.map UInt8.ofNat).toArray⟩
theorem isL_lt {l:List Nat} (h:∀ x ∈ l,M.isL x):∀ x ∈ l,x<256:=by
 intro x hx;rcases h x hx with rfl | rfl <;> decide
theorem conv_own {w:World} {B:Nat} {v:Value} {l:List Nat} (h:ownsB w B v l) (hl:∀ x ∈ l,x<256):(convert 22 9 v).run Tryz.prog w = .ok (.string (strN l)) w:=by
 have h':=h
 obtain⟨_,⟨rfl,h1⟩|⟨g,cap,cur,rfl,hb,hh,hc,hm,hsz,htk⟩⟩:=h
 ·have:l=[]:=List.length_eq_zero_iff.1 h1
  subst this;rw[run_convert_bytes_string w 22 9 5 none 0 0 Tryz.underlying22 Tryz.underlying5 Tryz.underlying9]
  rfl
 ·have:=run_convert_bytes_back (P:=Tryz.prog) w 22 9 5 ⟨g,0,none⟩ cap (l.map UInt8.ofNat) Tryz.underlying22 Tryz.underlying5 Tryz.underlying9 (by
   intro j hj;have hj':j<l.length:=by simpa using hj
   have hc:=World.ownsRow.cellAt h' j (by omega)
   rw[bv_at l j hj'] at hc
   have hx:=hl l[j] (List.getElem_mem hj')
   have e:(UInt8.ofNat l[j]).toNat=l[j]:=by simp;omega
   have e2:(⟨g,0,none⟩ : Addr).add j=⟨g,j,none⟩:=by simp only[Addr.add];split <;> simp_all
   rw[e2,List.getElem_map,e]
   exact hc)
  rw[List.length_map] at this
  exact this
theorem ownsB.drewN {w:World} {B:Nat} {v:Value} {l:List Nat} (h:ownsB w B v l) (q:Nat):ownsB (w.drewN q) B v l:=by
 induction q generalizing w with
 | zero=>exact h
 | succ q ih=>exact ih (World.ownsRow.drew h)
theorem ownsB.kind {w:World} {B:Nat} {v:Value} {l:List Nat} (h:ownsB w B v l):∀ g,v.ownBlock=some g→∃ c fz,w.heap[g]?=some (.cells c 5 fz):=by
 intro g hg;obtain⟨_,⟨rfl,_⟩|⟨g',cap,cur,rfl,_,hh,_⟩⟩:=h
 ·simp[Value.ownBlock] at hg
 ·simp[Value.ownBlock] at hg
  subst hg;exact⟨cur,_,hh⟩
theorem app_byte2 {ops:Array Oper} {rest:List Oper} {o:Oper} {a:Act} {Q:Exit→Act→World→Prop} (w0 wr:World) (hgd:o.guard=none) (s x:Operand)
  (ho:o.op = .call { callee:=.builtin .append,args:=#[s,x],argTypes:=#[22,22] })
  (B:Nat) (v:Value) (l:List Nat) (c:Nat) (ci:Int) (hci:ci=(c:Int)) (hs:a.eval s=v) (hown:ownsB wr B v l)
  (hx:a.eval x = .slice (some ⟨wr.heap.size,0,none⟩) 1 1) (hlen:l.length≤100000000) (hB:B≤wr.heap.size) (hbel:Below B w0 wr)
  (h:∀ v' w',ownsB w' B v' (l++[c])→Below B w0 w'→Lib.OthersKept 5 none wr w'→wpList Tryz.prog ops Q rest (a.put o.dst v') w') :
  wpList Tryz.prog ops Q (o :: rest) a (wr.alloc (.cells #[.int .u8 ci] 5)):=by
 subst hci;obtain⟨i0,hi,hz0,hz1,hz2⟩:=info_parts Tryz.info5
 refine wpList_append_own _ hgd s x 22 ho B 5 i0 (.int .u8 0) 1 1 Tryz.underlying22 hi hz0 hz1 hz2 rfl (by decide) v l.length (bv l) hs (World.ownsRow.alloc hown _) ⟨wr.heap.size,0,none⟩ 1 1 [.int .u8 (c:Int)] hx rfl ?_ ?_ ?_ ?_ ?_ ?_
 ·intro j u hj;match j,hj with
  | 0,hj=>simp at hj;subst hj;simp[Addr.add]
 ·intro u hu;simp at hu;subst hu;rfl
 ·unfold maxLen;omega
 ·omega
 ·simp;omega
 ·intro v' w' ho' hg _;have hr:∀ k,v.ownBlock=some k→B≤k:=fun k hk=>(World.ownsRow.lt hown k hk).1
  refine h v' w' ?_ ((hbel.alloc hB _).grown hg (by simp;omega) hr) (((Lib.OthersKept.refl 5 none wr).alloc _).grown hg ?_)
  ·have e1:bv (l++[c])=bv l++[.int .u8 (c:Int)]:=by simp[bv]
   unfold ownsB
   rw[e1,List.length_append]
   exact ho'
  ·intro g hg';exact ownsB.kind (B:=B) (l:=l) (World.ownsRow.alloc hown _) g hg'
def runAt (w:World) (b:Nat) (r:Nat × Nat):Prop:=w.heap[b]?=some (.cells #[.int .i32 (r.1:Int),.int .i64 (r.2:Int)] 60 (0,0))
structure stI (w0:World) (B b1 b2:Nat) (s:ByteArray) (k:Nat) (v:Value) (l:List Nat) (r:Nat × Nat) (w:World):Prop where
 own:ownsB w B v l
 run:runAt w b1 r
 it:w.heap[b2]?=some (.stringIter s k)
 bel:Below B w0 w
 B1:B≤b1
 B2:B≤b2
theorem stI.size {w0:World} {B b1 b2:Nat} {s:ByteArray} {k:Nat} {v:Value} {l:List Nat} {r:Nat × Nat} {w:World} (h:stI w0 B b1 b2 s k v l r w):B≤w.heap.size:=
 Nat.le_of_lt (Nat.lt_of_le_of_lt h.B1 (lt_of_block h.run))
namespace M
theorem take_at (l:List Nat) (k:Nat) (h:k<l.length):l.take (k+1)=l.take k++[l[k]]:=List.take_succ_eq_append_getElem h
end M
theorem rowB.below {B:Nat} {w w':World} {g n:Nat} {f:Nat→Nat} (h:rowB w g n f) (hb:Below B w w') (hg:g<B):rowB w' g n f:=
 ⟨fun t ht=>(hb.cell (by exact hg)).trans (h.cell t ht),fun t ht=>(hb.frozen (by exact hg)).trans (h.free t ht)⟩
def dl (r:Bool) (d:Int):Int:=if r=true then 0 else if 8<d then 8 else d
theorem specDataLen_any (w:World) (e:Bool) (i:Nat) (r:Bool) (d:Int) (a:Option Addr) (n cap:Nat) :
  Calls Tryz.prog 114 #[frV e i r d a n cap] w fun o w'=>o = .returned (.int .i64 (dl r d))∧w.alloc (frC e i r d a n cap 25)=w':=by
 cases r
 ·by_cases h8:8<d
  ·have HD:Hid (dl false d=8):=by simp[dl,h8,Hid]
   go_enter Tryz.func114,Tryz.ntmps114
   go_wp2
   go_ret;exact⟨ret_int HD.out.symm,rfl⟩
  ·have HD:Hid (dl false d=d):=by simp[dl,h8,Hid]
   go_enter Tryz.func114,Tryz.ntmps114
   go_wp2
   go_ret;exact⟨ret_int HD.out.symm,rfl⟩
 ·go_enter Tryz.func114,Tryz.ntmps114
  go_wp2
  go_ret;exact⟨rfl,rfl⟩
theorem dataLen_any (w:World) (e:Bool) (i:Nat) (r:Bool) (d:Int) (a:Option Addr) (n cap:Nat) :
  Calls Tryz.prog 190 #[frV e i r d a n cap] w fun o w'=>o = .returned (.int .i64 (dl r d))∧w.alloc (frC e i r d a n cap 25)=w':=by
 cases r
 ·by_cases h8:8<d
  ·have HD:Hid (dl false d=8):=by simp[dl,h8,Hid]
   go_enter Tryz.func190,Tryz.ntmps190
   go_wp2
   go_ret;exact⟨ret_int HD.out.symm,rfl⟩
  ·have HD:Hid (dl false d=d):=by simp[dl,h8,Hid]
   go_enter Tryz.func190,Tryz.ntmps190
   go_wp2
   go_ret;exact⟨ret_int HD.out.symm,rfl⟩
 ·go_enter Tryz.func190,Tryz.ntmps190
  go_wp2
  go_ret;exact⟨rfl,rfl⟩
def validB (e:Bool) (i:Nat) (r:Bool) (d:Int) (n:Nat):Bool:=
 (if e=true then decide (i<536870912) else decide (i<2048)) && decide (0≤d) && decide (d≤15) && ((n:Int) == dl r d)
theorem validB_id (e:Bool) (i:Nat) (r:Bool) (d:Int) (n:Nat) (h:(if e=true then decide (i<536870912) else decide (i<2048))=false):validB e i r d n=false:=by
 unfold validB;rw[h];rfl
theorem validB_d (e:Bool) (i:Nat) (r:Bool) (d:Int) (n:Nat) (h:¬ (0≤d∧d≤15)):validB e i r d n=false:=by
 unfold validB
 by_cases h1:0≤d
 ·have h2:¬ d≤15:=by omega
  simp[h2]
 ·simp[h1]
theorem validB_n (e:Bool) (i:Nat) (r:Bool) (d:Int) (n:Nat) (h:(if e=true then decide (i<536870912) else decide (i<2048))=true) (h0:0≤d) (h1:d≤15):validB e i r d n=((n:Int) == dl r d):=by
 unfold validB;rw[h];simp[h0,h1]
set_option maxHeartbeats 1000000 in
set_option maxRecDepth 100000 in
theorem specValid_any (w:World) (e:Bool) (i:Nat) (r:Bool) (d:Int) (a:Option Addr) (n cap:Nat) :
  Calls Tryz.prog 52 #[frV e i r d a n cap] w fun o w'=>o = .returned (.bool (validB e i r d n))∧Below w.heap.size w w':=by
 by_cases hid:(if e=true then decide (i<536870912) else decide (i<2048))=true
 ·by_cases h0:0≤d
  ·by_cases h1:d≤15
   ·have HV:Hid (validB e i r d n=((n:Int) == dl r d)):=validB_n e i r d n hid h0 h1
    cases e
    ·have hid':(i:Int)<2048:=by simp at hid;omega
     clear hid;go_enter Tryz.func52,Tryz.ntmps52
     go_wp2
     go_region_with (go_at_call 114;refine (specDataLen_any _ _ _ _ _ _ _ _).mono ?_;rintro o w1 ⟨rfl,rfl⟩)
     all_goals
      go_wp2
      go_ret;exact⟨ret_bool HV.out.symm,(((Below.refl _ _).alloc (Nat.le_refl _) _).alloc (by simp) _).drew⟩
    ·have hid':decide ((536870912:Int)≤(i:Int))=false:=by simp at hid;simp;omega
     clear hid;go_enter Tryz.func52,Tryz.ntmps52
     go_wp2
     go_region_with (go_at_call 114;refine (specDataLen_any _ _ _ _ _ _ _ _).mono ?_;rintro o w1 ⟨rfl,rfl⟩)
     all_goals
      go_wp2
      go_ret;exact⟨ret_bool HV.out.symm,(((Below.refl _ _).alloc (Nat.le_refl _) _).alloc (by simp) _).drew⟩
   ·have HV:Hid (validB e i r d n=false):=validB_d e i r d n (by omega)
    cases e
    ·have hid':(i:Int)<2048:=by simp at hid;omega
     clear hid;go_enter Tryz.func52,Tryz.ntmps52
     go_wp2
     go_ret;exact⟨ret_bool HV.out.symm,(Below.refl _ _).alloc (Nat.le_refl _) _⟩
    ·have hid':decide ((536870912:Int)≤(i:Int))=false:=by simp at hid;simp;omega
     clear hid;go_enter Tryz.func52,Tryz.ntmps52
     go_wp2
     go_ret;exact⟨ret_bool HV.out.symm,(Below.refl _ _).alloc (Nat.le_refl _) _⟩
  ·have HV:Hid (validB e i r d n=false):=validB_d e i r d n (by omega)
   cases e
   ·have hid':(i:Int)<2048:=by simp at hid;omega
    clear hid;go_enter Tryz.func52,Tryz.ntmps52
    go_wp2
    go_ret;exact⟨ret_bool HV.out.symm,(Below.refl _ _).alloc (Nat.le_refl _) _⟩
   ·have hid':decide ((536870912:Int)≤(i:Int))=false:=by simp at hid;simp;omega
    clear hid;go_enter Tryz.func52,Tryz.ntmps52
    go_wp2
    go_ret;exact⟨ret_bool HV.out.symm,(Below.refl _ _).alloc (Nat.le_refl _) _⟩
 ·have HV:Hid (validB e i r d n=false):=validB_id e i r d n (by rw[← Bool.not_eq_true];exact hid)
  cases e
  ·have hid':(2048:Int)≤(i:Int):=by simp at hid;omega
   clear hid;go_enter Tryz.func52,Tryz.ntmps52
   go_wp2
   go_ret;exact⟨ret_bool HV.out.symm,(Below.refl _ _).alloc (Nat.le_refl _) _⟩
  ·have hid':decide ((536870912:Int)≤(i:Int))=true:=by simp at hid;simp;omega
   clear hid;go_enter Tryz.func52,Tryz.ntmps52
   go_wp2
   go_ret;exact⟨ret_bool HV.out.symm,(Below.refl _ _).alloc (Nat.le_refl _) _⟩
theorem convB {w:World} {a:Option Addr} {n cap:Nat} {l:List Nat} (h:isBytes w a n cap l):(convert 22 9 (.slice a n cap)).run Tryz.prog w = .ok (.string (strN l)) w:=by
 obtain⟨rfl,hcap,hsm,hc⟩:=h
 by_cases hl:l=[]
 ·subst hl;cases a with
  | none=>
   rw[run_convert_bytes_string w 22 9 5 none _ cap Tryz.underlying22 Tryz.underlying5 Tryz.underlying9]
   rfl
  | some a=>
   have:=run_convert_bytes_back (P:=Tryz.prog) w 22 9 5 a cap [] Tryz.underlying22 Tryz.underlying5 Tryz.underlying9 (by intro j hj;simp at hj)
   exact this
 ·obtain⟨g,off,rfl,hcc⟩:=hc hl
  have:=run_convert_bytes_back (P:=Tryz.prog) w 22 9 5 ⟨g,off,none⟩ cap (l.map UInt8.ofNat) Tryz.underlying22 Tryz.underlying5 Tryz.underlying9 (by
   intro j hj;have hj':j<l.length:=by simpa using hj
   have hc:=hcc j hj'
   have hx:=hsm l[j] (List.getElem_mem hj')
   have e:(UInt8.ofNat l[j]).toNat=l[j]:=by simp;omega
   have e2:(⟨g,off,none⟩ : Addr).add j=⟨g,off+j,none⟩:=by simp only[Addr.add];split <;> simp_all
   rw[e2,List.getElem_map,e]
   exact hc)
  rw[List.length_map] at this
  exact this
theorem strN_inj {l m:List Nat} (hl:∀ x ∈ l,x<256) (hm:∀ x ∈ m,x<256) (h:l.map UInt8.ofNat=m.map UInt8.ofNat):l=m:=by
 have key:∀ l:List Nat,(∀ x ∈ l,x<256)→(l.map UInt8.ofNat).map UInt8.toNat=l:=by
  intro l hl;rw[List.map_map]
  conv=>rhs;rw[← List.map_id l]
  apply List.map_congr_left
  intro x hx;have:=hl x hx
  simp;omega
 rw[← key l hl,← key m hm,h]
theorem equal_any (w:World) (a1 a2:Option Addr) (n1 c1 n2 c2:Nat) (l1 l2:List Nat) (h1:isBytes w a1 n1 c1 l1) (h2:isBytes w a2 n2 c2 l2) :
  Calls Tryz.prog 189 #[.slice a1 n1 c1,.slice a2 n2 c2] w fun o w'=>o = .returned (.bool (decide (l1=l2)))∧w=w':=by
 have k1:=convB h1
 have k2:=convB h2
 have HE:Hid ((l1.map UInt8.ofNat == l2.map UInt8.ofNat)=decide (l1=l2)):=by
  unfold Hid
  rw[Bool.eq_iff_iff,beq_iff_eq,decide_eq_true_iff]
  exact⟨strN_inj h1.small h2.small,fun e=>by rw[e]⟩
 clear h1 h2;go_enter Tryz.func189,Tryz.ntmps189
 go_wp2
 go_ret;exact⟨ret_bool (by rw[← HE.out];simp[strN]),rfl⟩
theorem headOf_any (w:World) (e:Bool) (i:Nat) (r:Bool) (d:Int) (a:Option Addr) (n cap:Nat) :
  Calls Tryz.prog 188 #[frV e i r d a n cap] w fun o w'=>o = .returned (.agg #[.bool e,.bool r])∧(w.alloc (frC e i r d a n cap 25)).alloc (.cells #[.bool e,.bool r] 194)=w':=by
 go_enter Tryz.func188,Tryz.ntmps188
 go_wp2
 exact bodyPost_ret (v:=.agg #[.bool e,.bool r]) (by simp[results,Tryz.results188,go_sem]) rfl ⟨rfl,rfl⟩
def zeroRow (k:Nat):Array Value:=madeCells #[.int .u8 0] k
theorem zeroRow_at (k t:Nat) (h:t<k):(zeroRow k)[t]?=some (.int .u8 0):=by
 have:=toList_madeCells_one (.int .u8 0) k
 unfold zeroRow
 rw[← Array.getElem?_toList,this,List.getElem?_replicate,if_pos h]
theorem mkz (w:World) (k:Nat) (hk:k≤100000000):(Instr.makeSlice 22 (.int .i64 (k:Int)) (.int .i64 (k:Int))).run Tryz.prog w = .ok (.slice (some ⟨w.heap.size,0,none⟩) k k) (w.alloc (.cells (zeroRow k) 5)):=by
 obtain⟨i0,hi,hz0,hz1,hz2⟩:=info_parts Tryz.info5
 have hr:=run_make (P:=Tryz.prog) w 22 5 i0 (.int .u8 0) Tryz.underlying22 hi hz0 .i64 .i64 k k (by omega) (Int.le_refl _) (by rw[hz2];omega) (by omega)
 simp only[Int.toNat_natCast,hz1,Nat.mul_one] at hr
 exact hr
theorem isBytes_zero (w:World) (k:Nat):isBytes (w.alloc (.cells (zeroRow k) 5)) (some ⟨w.heap.size,0,none⟩) k k (List.replicate k 0):=by
 refine⟨by simp,Nat.le_refl _,fun x hx=>by rw[List.mem_replicate] at hx;rw[hx.2];decide,fun _=>⟨_,0,rfl,fun j hj=>?_⟩⟩
 have hj':j<k:=by simpa using hj
 have h1:(w.alloc (.cells (zeroRow k) 5)).cell? ⟨w.heap.size,0+j,none⟩=(zeroRow k)[0+j]?:=World.cell?_alloc_mark w (zeroRow k) 5 (0,0) (0+j)
 rw[h1,Nat.zero_add,zeroRow_at k j hj']
 simp
theorem isBytes_zero' (w:World) (k b:Nat) (hb:w.heap.size=b):isBytes (w.alloc (.cells (zeroRow k) 5)) (some ⟨b,0,none⟩) k k (List.replicate k 0):=by
 subst hb;exact isBytes_zero w k
theorem dl_bounds (r:Bool) (d:Int) (h0:0≤d):0≤dl r d∧dl r d≤8:=by
 unfold dl;split
 ·omega
 ·split <;> omega
set_option maxHeartbeats 2000000 in
set_option maxRecDepth 20000 in
theorem fitted_any (w:World) (e:Bool) (i:Nat) (r:Bool) (d:Int) (a:Option Addr) (n cap:Nat) (l:List Nat) (h:isBytes w a n cap l) (i':Nat) (d':Int) (k:Nat)
  (hi':(if (536870911:Int)<(i:Int) then (536870911:Int) else (i:Int))=(i':Int)) (hd':(if (15:Int)<(if d<0 then 0 else d) then (15:Int) else (if d<0 then 0 else d))=d') (hk:dl (r && ((n:Int) == 0)) d'=(k:Int)) (hk8:k≤8) :
  Calls Tryz.prog 179 #[frV e i r d a n cap] w fun o w'=>∃ a' n' cap' l',o = .returned (frV (e || decide ((2047:Int)<(i:Int))) i' (r && ((n:Int) == 0)) d' a' n' cap')∧isBytes w' a' n' cap' l'∧Below w.heap.size w w'∧(n=k→l'=l)∧(n≠k→l'≠l):=by
 cases e
 ·cases r
  ·have HH:Hid (isBytes w a n cap l):=h
   have hlen:=h.len
   have HK:Hid (dl false d'=(k:Int)):=hk
   clear h hk;by_cases hnk:n=k
   ·have hb:((n:Int) != (k:Int))=false:=by simp;omega
    have HN:Hid (n=k):=hnk
    clear hnk hlen;go_enter Tryz.func179,Tryz.ntmps179
    go_wp2_with (first | (go_at_call 190;refine (dataLen_any _ _ _ _ _ _ _ _).mono ?_;rw[HK.out];rintro o w1 ⟨rfl,rfl⟩))
    all_goals
     refine bodyPost_ret (v:=frV (decide ((2047:Int)<(i:Int))) i' false d' a n cap) (by simp[results,Tryz.results179,go_sem]) rfl ?_
     have hbl:=(((Below.refl w.heap.size w).alloc (Nat.le_refl _) (frC (decide ((2047:Int)<(i:Int))) i' false d' a n cap 25)).alloc (by simp) (frC (decide ((2047:Int)<(i:Int))) i' false d' a n cap 25)).alloc (by simp;omega) (frC (decide ((2047:Int)<(i:Int))) i' false d' a n cap 25)
     exact⟨_,_,_,rfl,l,HH.out.below hbl,hbl,fun _=>rfl,fun hh=>absurd HN.out hh⟩
   ·have hb:((n:Int) != (k:Int))=true:=by simp;omega
    have hne:List.replicate k 0≠l:=by intro e;apply hnk;rw[hlen,← e];simp
    have HN:Hid (¬ n=k):=hnk
    have HE:Hid (List.replicate k 0≠l):=hne
    have hmk:=fun w=>mkz w k (by omega)
    clear hnk hlen hne;go_enter Tryz.func179,Tryz.ntmps179
    go_wp2_with (first | (go_at_call 190;refine (dataLen_any _ _ _ _ _ _ _ _).mono ?_;rw[HK.out];rintro o w1 ⟨rfl,rfl⟩))
    all_goals
     refine bodyPost_ret (v:=frV (decide ((2047:Int)<(i:Int))) i' false d' (some ⟨w.heap.size+3,0,none⟩) k k) (by simp[results,Tryz.results179,go_sem]) rfl ?_
     exact⟨_,_,_,rfl,List.replicate k 0,isBytes_zero' _ k _ (by simp),((((Below.refl w.heap.size w).alloc (Nat.le_refl _) _).alloc (by simp) _).alloc (by simp;omega) _).alloc (by simp;omega) _,fun hh=>absurd hh HN.out,fun _=>HE.out⟩
  ·have HH:Hid (isBytes w a n cap l):=h
   have hlen:=h.len
   have HK:Hid (dl ((n:Int) == 0) d'=(k:Int)):=hk
   clear h hk;by_cases hnk:n=k
   ·have hb:((n:Int) != (k:Int))=false:=by simp;omega
    have HN:Hid (n=k):=hnk
    clear hnk hlen;go_enter Tryz.func179,Tryz.ntmps179
    go_wp2_with (first | (go_at_call 190;refine (dataLen_any _ _ _ _ _ _ _ _).mono ?_;rw[HK.out];rintro o w1 ⟨rfl,rfl⟩))
    all_goals
     refine bodyPost_ret (v:=frV (decide ((2047:Int)<(i:Int))) i' ((n:Int) == 0) d' a n cap) (by simp[results,Tryz.results179,go_sem]) rfl ?_
     have hbl:=(((Below.refl w.heap.size w).alloc (Nat.le_refl _) (frC (decide ((2047:Int)<(i:Int))) i' ((n:Int) == 0) d' a n cap 25)).alloc (by simp) (frC (decide ((2047:Int)<(i:Int))) i' ((n:Int) == 0) d' a n cap 25)).alloc (by simp;omega) (frC (decide ((2047:Int)<(i:Int))) i' ((n:Int) == 0) d' a n cap 25)
     exact⟨_,_,_,rfl,l,HH.out.below hbl,hbl,fun _=>rfl,fun hh=>absurd HN.out hh⟩
   ·have hb:((n:Int) != (k:Int))=true:=by simp;omega
    have hne:List.replicate k 0≠l:=by intro e;apply hnk;rw[hlen,← e];simp
    have HN:Hid (¬ n=k):=hnk
    have HE:Hid (List.replicate k 0≠l):=hne
    have hmk:=fun w=>mkz w k (by omega)
    clear hnk hlen hne;go_enter Tryz.func179,Tryz.ntmps179
    go_wp2_with (first | (go_at_call 190;refine (dataLen_any _ _ _ _ _ _ _ _).mono ?_;rw[HK.out];rintro o w1 ⟨rfl,rfl⟩))
    all_goals
     refine bodyPost_ret (v:=frV (decide ((2047:Int)<(i:Int))) i' ((n:Int) == 0) d' (some ⟨w.heap.size+3,0,none⟩) k k) (by simp[results,Tryz.results179,go_sem]) rfl ?_
     exact⟨_,_,_,rfl,List.replicate k 0,isBytes_zero' _ k _ (by simp),((((Below.refl w.heap.size w).alloc (Nat.le_refl _) _).alloc (by simp) _).alloc (by simp;omega) _).alloc (by simp;omega) _,fun hh=>absurd hh HN.out,fun _=>HE.out⟩
 ·cases r
  ·have HH:Hid (isBytes w a n cap l):=h
   have hlen:=h.len
   have HK:Hid (dl false d'=(k:Int)):=hk
   clear h hk;by_cases hnk:n=k
   ·have hb:((n:Int) != (k:Int))=false:=by simp;omega
    have HN:Hid (n=k):=hnk
    clear hnk hlen;go_enter Tryz.func179,Tryz.ntmps179
    go_wp2_with (first | (go_at_call 190;refine (dataLen_any _ _ _ _ _ _ _ _).mono ?_;rw[HK.out];rintro o w1 ⟨rfl,rfl⟩))
    all_goals
     refine bodyPost_ret (v:=frV true i' false d' a n cap) (by simp[results,Tryz.results179,go_sem]) rfl ?_
     have hbl:=(((Below.refl w.heap.size w).alloc (Nat.le_refl _) (frC true i' false d' a n cap 25)).alloc (by simp) (frC true i' false d' a n cap 25)).alloc (by simp;omega) (frC true i' false d' a n cap 25)
     exact⟨_,_,_,rfl,l,HH.out.below hbl,hbl,fun _=>rfl,fun hh=>absurd HN.out hh⟩
   ·have hb:((n:Int) != (k:Int))=true:=by simp;omega
    have hne:List.replicate k 0≠l:=by intro e;apply hnk;rw[hlen,← e];simp
    have HN:Hid (¬ n=k):=hnk
    have HE:Hid (List.replicate k 0≠l):=hne
    have hmk:=fun w=>mkz w k (by omega)
    clear hnk hlen hne;go_enter Tryz.func179,Tryz.ntmps179
    go_wp2_with (first | (go_at_call 190;refine (dataLen_any _ _ _ _ _ _ _ _).mono ?_;rw[HK.out];rintro o w1 ⟨rfl,rfl⟩))
    all_goals
     refine bodyPost_ret (v:=frV true i' false d' (some ⟨w.heap.size+3,0,none⟩) k k) (by simp[results,Tryz.results179,go_sem]) rfl ?_
     exact⟨_,_,_,rfl,List.replicate k 0,isBytes_zero' _ k _ (by simp),((((Below.refl w.heap.size w).alloc (Nat.le_refl _) _).alloc (by simp) _).alloc (by simp;omega) _).alloc (by simp;omega) _,fun hh=>absurd hh HN.out,fun _=>HE.out⟩
  ·have HH:Hid (isBytes w a n cap l):=h
   have hlen:=h.len
   have HK:Hid (dl ((n:Int) == 0) d'=(k:Int)):=hk
   clear h hk;by_cases hnk:n=k
   ·have hb:((n:Int) != (k:Int))=false:=by simp;omega
    have HN:Hid (n=k):=hnk
    clear hnk hlen;go_enter Tryz.func179,Tryz.ntmps179
    go_wp2_with (first | (go_at_call 190;refine (dataLen_any _ _ _ _ _ _ _ _).mono ?_;rw[HK.out];rintro o w1 ⟨rfl,rfl⟩))
    all_goals
     refine bodyPost_ret (v:=frV true i' ((n:Int) == 0) d' a n cap) (by simp[results,Tryz.results179,go_sem]) rfl ?_
     have hbl:=(((Below.refl w.heap.size w).alloc (Nat.le_refl _) (frC true i' ((n:Int) == 0) d' a n cap 25)).alloc (by simp) (frC true i' ((n:Int) == 0) d' a n cap 25)).alloc (by simp;omega) (frC true i' ((n:Int) == 0) d' a n cap 25)
     exact⟨_,_,_,rfl,l,HH.out.below hbl,hbl,fun _=>rfl,fun hh=>absurd HN.out hh⟩
   ·have hb:((n:Int) != (k:Int))=true:=by simp;omega
    have hne:List.replicate k 0≠l:=by intro e;apply hnk;rw[hlen,← e];simp
    have HN:Hid (¬ n=k):=hnk
    have HE:Hid (List.replicate k 0≠l):=hne
    have hmk:=fun w=>mkz w k (by omega)
    clear hnk hlen hne;go_enter Tryz.func179,Tryz.ntmps179
    go_wp2_with (first | (go_at_call 190;refine (dataLen_any _ _ _ _ _ _ _ _).mono ?_;rw[HK.out];rintro o w1 ⟨rfl,rfl⟩))
    all_goals
     refine bodyPost_ret (v:=frV true i' ((n:Int) == 0) d' (some ⟨w.heap.size+3,0,none⟩) k k) (by simp[results,Tryz.results179,go_sem]) rfl ?_
     exact⟨_,_,_,rfl,List.replicate k 0,isBytes_zero' _ k _ (by simp),((((Below.refl w.heap.size w).alloc (Nat.le_refl _) _).alloc (by simp) _).alloc (by simp;omega) _).alloc (by simp;omega) _,fun hh=>absurd hh HN.out,fun _=>HE.out⟩
theorem eqHead (w:World) (e r e' r':Bool):(Op.equalIn 10000 194 (.agg #[.bool e,.bool r]) (.agg #[.bool e',.bool r'])).run Tryz.prog w = .ok ((e == e') && (r == r')) w:=by
 cases e <;> cases r <;> cases e' <;> cases r' <;> kernel_rfl
theorem guardHead:Tryz.prog.eqGuardType Tryz.prog.depth 194=false:=by kernel_rfl
theorem cell_al (W:World) (o:Obj) (b j:Nat) (v:Value) (hb:b<W.heap.size) (h:W.cell? ⟨b,j,none⟩=some v):(W.alloc o).cell? ⟨b,j,none⟩=some v:=
 (World.cell?_alloc_lt _ _ _ (by exact hb)).trans h
theorem sf_al (w W:World) (o:Obj) (e:Bool) (i:Nat) (r:Bool) (d:Int) (a:Option Addr) (n cap:Nat) (e':Bool) (i':Nat) (r':Bool) (d':Int) (a':Option Addr) (n' cap':Nat)
  (h:W.cell? ⟨w.heap.size,0,none⟩=some (.bool e)∧W.cell? ⟨w.heap.size,1,none⟩=some (.int .u32 (i:Int))∧W.cell? ⟨w.heap.size,2,none⟩=some (.bool r)∧W.cell? ⟨w.heap.size,3,none⟩=some (.int .i64 d)∧W.cell? ⟨w.heap.size,4,none⟩=some (.slice a n cap)∧W.cell? ⟨w.heap.size+1,0,none⟩=some (.bool e')∧W.cell? ⟨w.heap.size+1,1,none⟩=some (.int .u32 (i':Int))∧W.cell? ⟨w.heap.size+1,2,none⟩=some (.bool r')∧W.cell? ⟨w.heap.size+1,3,none⟩=some (.int .i64 d')∧W.cell? ⟨w.heap.size+1,4,none⟩=some (.slice a' n' cap')∧Below w.heap.size w W∧w.heap.size+1<W.heap.size):(fun W=>W.cell? ⟨w.heap.size,0,none⟩=some (.bool e)∧W.cell? ⟨w.heap.size,1,none⟩=some (.int .u32 (i:Int))∧W.cell? ⟨w.heap.size,2,none⟩=some (.bool r)∧W.cell? ⟨w.heap.size,3,none⟩=some (.int .i64 d)∧W.cell? ⟨w.heap.size,4,none⟩=some (.slice a n cap)∧W.cell? ⟨w.heap.size+1,0,none⟩=some (.bool e')∧W.cell? ⟨w.heap.size+1,1,none⟩=some (.int .u32 (i':Int))∧W.cell? ⟨w.heap.size+1,2,none⟩=some (.bool r')∧W.cell? ⟨w.heap.size+1,3,none⟩=some (.int .i64 d')∧W.cell? ⟨w.heap.size+1,4,none⟩=some (.slice a' n' cap')∧Below w.heap.size w W∧w.heap.size+1<W.heap.size) (W.alloc o):=by
 obtain⟨h0,h1,h2,h3,h4,k0,k1,k2,k3,k4,hb,hz⟩:=h
 have z0:w.heap.size<W.heap.size:=by omega
 exact⟨cell_al _ _ _ _ _ z0 h0,cell_al _ _ _ _ _ z0 h1,cell_al _ _ _ _ _ z0 h2,cell_al _ _ _ _ _ z0 h3,cell_al _ _ _ _ _ z0 h4,cell_al _ _ _ _ _ hz k0,cell_al _ _ _ _ _ hz k1,cell_al _ _ _ _ _ hz k2,cell_al _ _ _ _ _ hz k3,cell_al _ _ _ _ _ hz k4,hb.alloc (by omega) _,by simp;omega⟩
theorem sf_0 (w:World) (e:Bool) (i:Nat) (r:Bool) (d:Int) (a:Option Addr) (n cap:Nat) (e':Bool) (i':Nat) (r':Bool) (d':Int) (a':Option Addr) (n' cap':Nat) :
  (fun W=>W.cell? ⟨w.heap.size,0,none⟩=some (.bool e)∧W.cell? ⟨w.heap.size,1,none⟩=some (.int .u32 (i:Int))∧W.cell? ⟨w.heap.size,2,none⟩=some (.bool r)∧W.cell? ⟨w.heap.size,3,none⟩=some (.int .i64 d)∧W.cell? ⟨w.heap.size,4,none⟩=some (.slice a n cap)∧W.cell? ⟨w.heap.size+1,0,none⟩=some (.bool e')∧W.cell? ⟨w.heap.size+1,1,none⟩=some (.int .u32 (i':Int))∧W.cell? ⟨w.heap.size+1,2,none⟩=some (.bool r')∧W.cell? ⟨w.heap.size+1,3,none⟩=some (.int .i64 d')∧W.cell? ⟨w.heap.size+1,4,none⟩=some (.slice a' n' cap')∧Below w.heap.size w W∧w.heap.size+1<W.heap.size) ((w.alloc (frC e i r d a n cap 25)).alloc (frC e' i' r' d' a' n' cap' 25)).drew:=by
 refine⟨?_,?_,?_,?_,?_,?_,?_,?_,?_,?_,(((Below.refl _ _).alloc (Nat.le_refl _) _).alloc (by simp) _).drew,by simp⟩ <;> go_simp
theorem below_of {w W:World} {e:Bool} {i:Nat} {r:Bool} {d:Int} {a:Option Addr} {n cap:Nat} {e':Bool} {i':Nat} {r':Bool} {d':Int} {a':Option Addr} {n' cap':Nat}
  (h:W.cell? ⟨w.heap.size,0,none⟩=some (.bool e)∧W.cell? ⟨w.heap.size,1,none⟩=some (.int .u32 (i:Int))∧W.cell? ⟨w.heap.size,2,none⟩=some (.bool r)∧W.cell? ⟨w.heap.size,3,none⟩=some (.int .i64 d)∧W.cell? ⟨w.heap.size,4,none⟩=some (.slice a n cap)∧W.cell? ⟨w.heap.size+1,0,none⟩=some (.bool e')∧W.cell? ⟨w.heap.size+1,1,none⟩=some (.int .u32 (i':Int))∧W.cell? ⟨w.heap.size+1,2,none⟩=some (.bool r')∧W.cell? ⟨w.heap.size+1,3,none⟩=some (.int .i64 d')∧W.cell? ⟨w.heap.size+1,4,none⟩=some (.slice a' n' cap')∧Below w.heap.size w W∧w.heap.size+1<W.heap.size):Below w.heap.size w W:=h.2.2.2.2.2.2.2.2.2.2.1
set_option maxHeartbeats 2000000 in
set_option maxRecDepth 20000 in
theorem same_A (w:World) (e:Bool) (i:Nat) (r:Bool) (d:Int) (a:Option Addr) (n cap:Nat) (e':Bool) (i':Nat) (r':Bool) (d':Int) (a':Option Addr) (n' cap':Nat) (hh:((e == e') && (r == r'))=false) :
  Calls Tryz.prog 178 #[frV e i r d a n cap,frV e' i' r' d' a' n' cap'] w fun o w'=>o = .returned (.bool false)∧Below w.heap.size w w':=by
 have hq:=fun w=>eqHead w e r e' r'
 rw[hh] at hq
 clear hh;have hgd:=guardHead
 go_enter Tryz.func178,Tryz.ntmps178
 go_wp2
 refine wp_region_held (S:=(fun W=>W.cell? ⟨w.heap.size,0,none⟩=some (.bool e)∧W.cell? ⟨w.heap.size,1,none⟩=some (.int .u32 (i:Int))∧W.cell? ⟨w.heap.size,2,none⟩=some (.bool r)∧W.cell? ⟨w.heap.size,3,none⟩=some (.int .i64 d)∧W.cell? ⟨w.heap.size,4,none⟩=some (.slice a n cap)∧W.cell? ⟨w.heap.size+1,0,none⟩=some (.bool e')∧W.cell? ⟨w.heap.size+1,1,none⟩=some (.int .u32 (i':Int))∧W.cell? ⟨w.heap.size+1,2,none⟩=some (.bool r')∧W.cell? ⟨w.heap.size+1,3,none⟩=some (.int .i64 d')∧W.cell? ⟨w.heap.size+1,4,none⟩=some (.slice a' n' cap')∧Below w.heap.size w W∧w.heap.size+1<W.heap.size)) (by kernel_rfl) ?_
 have hS:=sf_0 w e i r d a n cap e' i' r' d' a' n' cap'
 refine wT (i:=0) (v:=.agg #[.bool e,.int .u32 (i:Int),.bool r,.int .i64 d,.slice a n cap]) rfl (by kernel_rfl) (by kernel_rfl) (by kernel_rfl) (fun _ _ _ h=>h) (Or.inl ⟨by rfl,?_⟩) hS ?_
 ·intro W hSw;clear hS;go_simp
 simp only[Act.put,aA,aB,aC,aD,aE]
 refine wT (i:=2) (v:=.agg #[.bool e',.int .u32 (i':Int),.bool r',.int .i64 d',.slice a' n' cap']) rfl (by kernel_rfl) (by kernel_rfl) (by kernel_rfl) (fun _ _ _ h=>h) (Or.inl ⟨by rfl,?_⟩) hS ?_
 ·intro W hSw;clear hS;go_simp
 simp only[Act.put,aA,aB,aC,aD,aE,aF];refine wpAnyH_all (rs:=[1]) (by kernel_rfl) (by simp) ?_
 refine AllReadyH.cons rfl (fun K hK=>?_) AllReadyH.nil
 go_simp;refine (headOf_any _ _ _ _ _ _ _ _).mono ?_
 rintro o w1 ⟨rfl,rfl⟩;go_wp2_with fail;refine hK.out _ _ (sf_al _ _ _ _ _ _ _ _ _ _ _ _ _ _ _ _ _ (sf_al _ _ _ _ _ _ _ _ _ _ _ _ _ _ _ _ _ hS)) (fun hS2=>?_)
 clear hS hK K;have hS:=hS2
 clear hS2;refine wpAnyH_all (rs:=[3]) (by kernel_rfl) (by simp) ?_
 refine AllReadyH.cons rfl (fun K hK=>?_) AllReadyH.nil
 go_simp;refine (headOf_any _ _ _ _ _ _ _ _).mono ?_
 rintro o w1 ⟨rfl,rfl⟩;go_wp2_with fail;refine hK.out _ _ (sf_al _ _ _ _ _ _ _ _ _ _ _ _ _ _ _ _ _ (sf_al _ _ _ _ _ _ _ _ _ _ _ _ _ _ _ _ _ hS)) (fun hS2=>?_)
 clear hS hK K;have hS:=hS2
 clear hS2;refine wT (i:=4) (v:=.bool false) rfl (by kernel_rfl) (by kernel_rfl) (by kernel_rfl) (fun _ _ _ h=>h) (Or.inl ⟨by rfl,?_⟩) hS ?_
 ·intro W hSw;clear hS;go_simp
 simp only[Act.put,aA,aB,aC,aD,aE,aF];refine wT (i:=5) (v:=.bool false) rfl (by kernel_rfl) (by kernel_rfl) (by kernel_rfl) (fun _ _ _ h=>h) (Or.inl ⟨by rfl,?_⟩) hS ?_
 ·intro W hSw;clear hS;go_simp
 simp only[Act.put,aA,aB,aC,aD,aE,aF];refine wT (i:=6) (v:=undef) rfl (by kernel_rfl) (by kernel_rfl) (by kernel_rfl) (fun _ _ _ h=>h) (Or.inr ⟨by rfl,rfl⟩) hS ?_
 simp only[Act.put,aA,aB,aC,aD,aE,aF];refine wT (i:=7) (v:=undef) rfl (by kernel_rfl) (by kernel_rfl) (by kernel_rfl) (fun _ _ _ h=>h) (Or.inr ⟨by rfl,rfl⟩) hS ?_
 simp only[Act.put,aA,aB,aC,aD,aE,aF];refine wT (i:=8) (v:=undef) rfl (by kernel_rfl) (by kernel_rfl) (by kernel_rfl) (fun _ _ _ h=>h) (Or.inr ⟨by rfl,rfl⟩) hS ?_
 simp only[Act.put,aA,aB,aC,aD,aE,aF];refine wT (i:=9) (v:=undef) rfl (by kernel_rfl) (by kernel_rfl) (by kernel_rfl) (fun _ _ _ h=>h) (Or.inr ⟨by rfl,rfl⟩) hS ?_
 simp only[Act.put,aA,aB,aC,aD,aE,aF];refine wT (i:=10) (v:=undef) rfl (by kernel_rfl) (by kernel_rfl) (by kernel_rfl) (fun _ _ _ h=>h) (Or.inr ⟨by rfl,rfl⟩) hS ?_
 simp only[Act.put,aA,aB,aC,aD,aE,aF];refine wT (i:=11) (v:=.bool false) rfl (by kernel_rfl) (by kernel_rfl) (by kernel_rfl) (fun _ _ _ h=>h) (Or.inl ⟨by rfl,?_⟩) hS ?_
 ·intro W hSw;clear hS;go_simp
 simp only[Act.put,aA,aB,aC,aD,aE,aF];refine wT (i:=12) (v:=.bool false) rfl (by kernel_rfl) (by kernel_rfl) (by kernel_rfl) (fun _ _ _ h=>h) (Or.inl ⟨by rfl,?_⟩) hS ?_
 ·intro W hSw;clear hS;go_simp
 simp only[Act.put,aA,aB,aC,aD,aE,aF];refine wT (i:=13) (v:=undef) rfl (by kernel_rfl) (by kernel_rfl) (by kernel_rfl) (fun _ _ _ h=>h) (Or.inr ⟨by rfl,rfl⟩) hS ?_
 simp only[Act.put,aA,aB,aC,aD,aE,aF];refine wT (i:=14) (v:=undef) rfl (by kernel_rfl) (by kernel_rfl) (by kernel_rfl) (fun _ _ _ h=>h) (Or.inr ⟨by rfl,rfl⟩) hS ?_
 simp only[Act.put,aA,aB,aC,aD,aE,aF];refine wT (i:=15) (v:=undef) rfl (by kernel_rfl) (by kernel_rfl) (by kernel_rfl) (fun _ _ _ h=>h) (Or.inr ⟨by rfl,rfl⟩) hS ?_
 simp only[Act.put,aA,aB,aC,aD,aE,aF];refine wT (i:=16) (v:=undef) rfl (by kernel_rfl) (by kernel_rfl) (by kernel_rfl) (fun _ _ _ h=>h) (Or.inr ⟨by rfl,rfl⟩) hS ?_
 simp only[Act.put,aA,aB,aC,aD,aE,aF];refine wT (i:=17) (v:=undef) rfl (by kernel_rfl) (by kernel_rfl) (by kernel_rfl) (fun _ _ _ h=>h) (Or.inr ⟨by rfl,rfl⟩) hS ?_
 simp only[Act.put,aA,aB,aC,aD,aE,aF];refine wT (i:=18) (v:=.bool false) rfl (by kernel_rfl) (by kernel_rfl) (by kernel_rfl) (fun _ _ _ h=>h) (Or.inl ⟨by rfl,?_⟩) hS ?_
 ·intro W hSw;clear hS;go_simp
 simp only[Act.put,aA,aB,aC,aD,aE,aF];refine wT (i:=19) (v:=.bool false) rfl (by kernel_rfl) (by kernel_rfl) (by kernel_rfl) (fun _ _ _ h=>h) (Or.inl ⟨by rfl,?_⟩) hS ?_
 ·intro W hSw;clear hS;go_simp
 simp only[Act.put,aA,aB,aC,aD,aE,aF];refine wT (i:=20) (v:=undef) rfl (by kernel_rfl) (by kernel_rfl) (by kernel_rfl) (fun _ _ _ h=>h) (Or.inr ⟨by rfl,rfl⟩) hS ?_
 simp only[Act.put,aA,aB,aC,aD,aE,aF];refine wT (i:=21) (v:=undef) rfl (by kernel_rfl) (by kernel_rfl) (by kernel_rfl) (fun _ _ _ h=>h) (Or.inr ⟨by rfl,rfl⟩) hS ?_
 simp only[Act.put,aA,aB,aC,aD,aE,aF];refine wT (i:=22) (v:=undef) rfl (by kernel_rfl) (by kernel_rfl) (by kernel_rfl) (fun _ _ _ h=>h) (Or.inr ⟨by rfl,rfl⟩) hS ?_
 simp only[Act.put,aA,aB,aC,aD,aE,aF];refine wT (i:=23) (v:=undef) rfl (by kernel_rfl) (by kernel_rfl) (by kernel_rfl) (fun _ _ _ h=>h) (Or.inr ⟨by rfl,rfl⟩) hS ?_
 simp only[Act.put,aA,aB,aC,aD,aE,aF];refine wT (i:=24) (v:=undef) rfl (by kernel_rfl) (by kernel_rfl) (by kernel_rfl) (fun _ _ _ h=>h) (Or.inr ⟨by rfl,rfl⟩) hS ?_
 simp only[Act.put,aA,aB,aC,aD,aE,aF];refine wT (i:=25) (v:=.bool false) rfl (by kernel_rfl) (by kernel_rfl) (by kernel_rfl) (fun _ _ _ h=>h) (Or.inl ⟨by rfl,?_⟩) hS ?_
 ·intro W hSw;clear hS;go_simp
 simp only[Act.put,aA,aB,aC,aD,aE,aF];refine wT (i:=26) (v:=.bool false) rfl (by kernel_rfl) (by kernel_rfl) (by kernel_rfl) (fun _ _ _ h=>h) (Or.inl ⟨by rfl,?_⟩) hS ?_
 ·intro W hSw;clear hS;go_simp
 simp only[Act.put,aA,aB,aC,aD,aE,aF];have hbl:=hS.2.2.2.2.2.2.2.2.2.2.1
 refine wpAnyH_done (by kernel_rfl) ?_ _
 clear hS;go_wp2
 go_ret;exact⟨rfl,hbl⟩
set_option maxHeartbeats 2000000 in
set_option maxRecDepth 20000 in
theorem same_B (w:World) (e:Bool) (i:Nat) (r:Bool) (d:Int) (a:Option Addr) (n cap:Nat) (e':Bool) (i':Nat) (r':Bool) (d':Int) (a':Option Addr) (n' cap':Nat) (hh:((e == e') && (r == r'))=true) (hi:((i:Int) == (i':Int))=false) :
  Calls Tryz.prog 178 #[frV e i r d a n cap,frV e' i' r' d' a' n' cap'] w fun o w'=>o = .returned (.bool false)∧Below w.heap.size w w':=by
 have hq:=fun w=>eqHead w e r e' r'
 rw[hh] at hq
 clear hh;have hgd:=guardHead
 go_enter Tryz.func178,Tryz.ntmps178
 go_wp2
 refine wp_region_held (S:=(fun W=>W.cell? ⟨w.heap.size,0,none⟩=some (.bool e)∧W.cell? ⟨w.heap.size,1,none⟩=some (.int .u32 (i:Int))∧W.cell? ⟨w.heap.size,2,none⟩=some (.bool r)∧W.cell? ⟨w.heap.size,3,none⟩=some (.int .i64 d)∧W.cell? ⟨w.heap.size,4,none⟩=some (.slice a n cap)∧W.cell? ⟨w.heap.size+1,0,none⟩=some (.bool e')∧W.cell? ⟨w.heap.size+1,1,none⟩=some (.int .u32 (i':Int))∧W.cell? ⟨w.heap.size+1,2,none⟩=some (.bool r')∧W.cell? ⟨w.heap.size+1,3,none⟩=some (.int .i64 d')∧W.cell? ⟨w.heap.size+1,4,none⟩=some (.slice a' n' cap')∧Below w.heap.size w W∧w.heap.size+1<W.heap.size)) (by kernel_rfl) ?_
 have hS:=sf_0 w e i r d a n cap e' i' r' d' a' n' cap'
 refine wT (i:=0) (v:=.agg #[.bool e,.int .u32 (i:Int),.bool r,.int .i64 d,.slice a n cap]) rfl (by kernel_rfl) (by kernel_rfl) (by kernel_rfl) (fun _ _ _ h=>h) (Or.inl ⟨by rfl,?_⟩) hS ?_
 ·intro W hSw;clear hS;go_simp
 simp only[Act.put,aA,aB,aC,aD,aE]
 refine wT (i:=2) (v:=.agg #[.bool e',.int .u32 (i':Int),.bool r',.int .i64 d',.slice a' n' cap']) rfl (by kernel_rfl) (by kernel_rfl) (by kernel_rfl) (fun _ _ _ h=>h) (Or.inl ⟨by rfl,?_⟩) hS ?_
 ·intro W hSw;clear hS;go_simp
 simp only[Act.put,aA,aB,aC,aD,aE,aF];refine wpAnyH_all (rs:=[1]) (by kernel_rfl) (by simp) ?_
 refine AllReadyH.cons rfl (fun K hK=>?_) AllReadyH.nil
 go_simp;refine (headOf_any _ _ _ _ _ _ _ _).mono ?_
 rintro o w1 ⟨rfl,rfl⟩;go_wp2_with fail;refine hK.out _ _ (sf_al _ _ _ _ _ _ _ _ _ _ _ _ _ _ _ _ _ (sf_al _ _ _ _ _ _ _ _ _ _ _ _ _ _ _ _ _ hS)) (fun hS2=>?_)
 clear hS hK K;have hS:=hS2
 clear hS2;refine wpAnyH_all (rs:=[3]) (by kernel_rfl) (by simp) ?_
 refine AllReadyH.cons rfl (fun K hK=>?_) AllReadyH.nil
 go_simp;refine (headOf_any _ _ _ _ _ _ _ _).mono ?_
 rintro o w1 ⟨rfl,rfl⟩;go_wp2_with fail;refine hK.out _ _ (sf_al _ _ _ _ _ _ _ _ _ _ _ _ _ _ _ _ _ (sf_al _ _ _ _ _ _ _ _ _ _ _ _ _ _ _ _ _ hS)) (fun hS2=>?_)
 clear hS hK K;have hS:=hS2
 clear hS2;refine wT (i:=4) (v:=.bool true) rfl (by kernel_rfl) (by kernel_rfl) (by kernel_rfl) (fun _ _ _ h=>h) (Or.inl ⟨by rfl,?_⟩) hS ?_
 ·intro W hSw;clear hS;go_simp
 simp only[Act.put,aA,aB,aC,aD,aE,aF];refine wT (i:=5) (v:=.bool true) rfl (by kernel_rfl) (by kernel_rfl) (by kernel_rfl) (fun _ _ _ h=>h) (Or.inl ⟨by rfl,?_⟩) hS ?_
 ·intro W hSw;clear hS;go_simp
 simp only[Act.put,aA,aB,aC,aD,aE,aF];refine wT (i:=6) (v:=.pointer (some ⟨w.heap.size,1,none⟩)) rfl (by kernel_rfl) (by kernel_rfl) (by kernel_rfl) (fun _ _ _ h=>h) (Or.inl ⟨by rfl,?_⟩) hS ?_
 ·intro W hSw;clear hS;go_simp
 simp only[Act.put,aA,aB,aC,aD,aE,aF];refine wT (i:=7) (v:=.int .u32 (i:Int)) rfl (by kernel_rfl) (by kernel_rfl) (by kernel_rfl) (fun _ _ _ h=>h) (Or.inl ⟨by rfl,?_⟩) hS ?_
 ·intro W hSw;clear hS;go_simp
 simp only[Act.put,aA,aB,aC,aD,aE,aF];refine wT (i:=8) (v:=.pointer (some ⟨w.heap.size+1,1,none⟩)) rfl (by kernel_rfl) (by kernel_rfl) (by kernel_rfl) (fun _ _ _ h=>h) (Or.inl ⟨by rfl,?_⟩) hS ?_
 ·intro W hSw;clear hS;go_simp
 simp only[Act.put,aA,aB,aC,aD,aE,aF];refine wT (i:=9) (v:=.int .u32 (i':Int)) rfl (by kernel_rfl) (by kernel_rfl) (by kernel_rfl) (fun _ _ _ h=>h) (Or.inl ⟨by rfl,?_⟩) hS ?_
 ·intro W hSw;clear hS;go_simp
 simp only[Act.put,aA,aB,aC,aD,aE,aF];refine wT (i:=10) (v:=.bool false) rfl (by kernel_rfl) (by kernel_rfl) (by kernel_rfl) (fun _ _ _ h=>h) (Or.inl ⟨by rfl,?_⟩) hS ?_
 ·intro W hSw;clear hS;go_simp
 simp only[Act.put,aA,aB,aC,aD,aE,aF];refine wT (i:=11) (v:=.bool false) rfl (by kernel_rfl) (by kernel_rfl) (by kernel_rfl) (fun _ _ _ h=>h) (Or.inl ⟨by rfl,?_⟩) hS ?_
 ·intro W hSw;clear hS;go_simp
 simp only[Act.put,aA,aB,aC,aD,aE,aF];refine wT (i:=12) (v:=.bool false) rfl (by kernel_rfl) (by kernel_rfl) (by kernel_rfl) (fun _ _ _ h=>h) (Or.inl ⟨by rfl,?_⟩) hS ?_
 ·intro W hSw;clear hS;go_simp
 simp only[Act.put,aA,aB,aC,aD,aE,aF];refine wT (i:=13) (v:=undef) rfl (by kernel_rfl) (by kernel_rfl) (by kernel_rfl) (fun _ _ _ h=>h) (Or.inr ⟨by rfl,rfl⟩) hS ?_
 simp only[Act.put,aA,aB,aC,aD,aE,aF];refine wT (i:=14) (v:=undef) rfl (by kernel_rfl) (by kernel_rfl) (by kernel_rfl) (fun _ _ _ h=>h) (Or.inr ⟨by rfl,rfl⟩) hS ?_
 simp only[Act.put,aA,aB,aC,aD,aE,aF];refine wT (i:=15) (v:=undef) rfl (by kernel_rfl) (by kernel_rfl) (by kernel_rfl) (fun _ _ _ h=>h) (Or.inr ⟨by rfl,rfl⟩) hS ?_
 simp only[Act.put,aA,aB,aC,aD,aE,aF];refine wT (i:=16) (v:=undef) rfl (by kernel_rfl) (by kernel_rfl) (by kernel_rfl) (fun _ _ _ h=>h) (Or.inr ⟨by rfl,rfl⟩) hS ?_
 simp only[Act.put,aA,aB,aC,aD,aE,aF];refine wT (i:=17) (v:=undef) rfl (by kernel_rfl) (by kernel_rfl) (by kernel_rfl) (fun _ _ _ h=>h) (Or.inr ⟨by rfl,rfl⟩) hS ?_
 simp only[Act.put,aA,aB,aC,aD,aE,aF];refine wT (i:=18) (v:=.bool false) rfl (by kernel_rfl) (by kernel_rfl) (by kernel_rfl) (fun _ _ _ h=>h) (Or.inl ⟨by rfl,?_⟩) hS ?_
 ·intro W hSw;clear hS;go_simp
 simp only[Act.put,aA,aB,aC,aD,aE,aF];refine wT (i:=19) (v:=.bool false) rfl (by kernel_rfl) (by kernel_rfl) (by kernel_rfl) (fun _ _ _ h=>h) (Or.inl ⟨by rfl,?_⟩) hS ?_
 ·intro W hSw;clear hS;go_simp
 simp only[Act.put,aA,aB,aC,aD,aE,aF];refine wT (i:=20) (v:=undef) rfl (by kernel_rfl) (by kernel_rfl) (by kernel_rfl) (fun _ _ _ h=>h) (Or.inr ⟨by rfl,rfl⟩) hS ?_
 simp only[Act.put,aA,aB,aC,aD,aE,aF];refine wT (i:=21) (v:=undef) rfl (by kernel_rfl) (by kernel_rfl) (by kernel_rfl) (fun _ _ _ h=>h) (Or.inr ⟨by rfl,rfl⟩) hS ?_
 simp only[Act.put,aA,aB,aC,aD,aE,aF];refine wT (i:=22) (v:=undef) rfl (by kernel_rfl) (by kernel_rfl) (by kernel_rfl) (fun _ _ _ h=>h) (Or.inr ⟨by rfl,rfl⟩) hS ?_
 simp only[Act.put,aA,aB,aC,aD,aE,aF];refine wT (i:=23) (v:=undef) rfl (by kernel_rfl) (by kernel_rfl) (by kernel_rfl) (fun _ _ _ h=>h) (Or.inr ⟨by rfl,rfl⟩) hS ?_
 simp only[Act.put,aA,aB,aC,aD,aE,aF];refine wT (i:=24) (v:=undef) rfl (by kernel_rfl) (by kernel_rfl) (by kernel_rfl) (fun _ _ _ h=>h) (Or.inr ⟨by rfl,rfl⟩) hS ?_
 simp only[Act.put,aA,aB,aC,aD,aE,aF];refine wT (i:=25) (v:=.bool false) rfl (by kernel_rfl) (by kernel_rfl) (by kernel_rfl) (fun _ _ _ h=>h) (Or.inl ⟨by rfl,?_⟩) hS ?_
 ·intro W hSw;clear hS;go_simp
 simp only[Act.put,aA,aB,aC,aD,aE,aF];refine wT (i:=26) (v:=.bool false) rfl (by kernel_rfl) (by kernel_rfl) (by kernel_rfl) (fun _ _ _ h=>h) (Or.inl ⟨by rfl,?_⟩) hS ?_
 ·intro W hSw;clear hS;go_simp
 simp only[Act.put,aA,aB,aC,aD,aE,aF];have hbl:=hS.2.2.2.2.2.2.2.2.2.2.1
 refine wpAnyH_done (by kernel_rfl) ?_ _
 clear hS;go_wp2
 go_ret;exact⟨rfl,hbl⟩
set_option maxHeartbeats 2000000 in
set_option maxRecDepth 20000 in
theorem same_C (w:World) (e:Bool) (i:Nat) (r:Bool) (d:Int) (a:Option Addr) (n cap:Nat) (e':Bool) (i':Nat) (r':Bool) (d':Int) (a':Option Addr) (n' cap':Nat) (hh:((e == e') && (r == r'))=true) (hi:((i:Int) == (i':Int))=true) (hd:(d == d')=false) :
  Calls Tryz.prog 178 #[frV e i r d a n cap,frV e' i' r' d' a' n' cap'] w fun o w'=>o = .returned (.bool false)∧Below w.heap.size w w':=by
 have hq:=fun w=>eqHead w e r e' r'
 rw[hh] at hq
 clear hh;have hgd:=guardHead
 go_enter Tryz.func178,Tryz.ntmps178
 go_wp2
 refine wp_region_held (S:=(fun W=>W.cell? ⟨w.heap.size,0,none⟩=some (.bool e)∧W.cell? ⟨w.heap.size,1,none⟩=some (.int .u32 (i:Int))∧W.cell? ⟨w.heap.size,2,none⟩=some (.bool r)∧W.cell? ⟨w.heap.size,3,none⟩=some (.int .i64 d)∧W.cell? ⟨w.heap.size,4,none⟩=some (.slice a n cap)∧W.cell? ⟨w.heap.size+1,0,none⟩=some (.bool e')∧W.cell? ⟨w.heap.size+1,1,none⟩=some (.int .u32 (i':Int))∧W.cell? ⟨w.heap.size+1,2,none⟩=some (.bool r')∧W.cell? ⟨w.heap.size+1,3,none⟩=some (.int .i64 d')∧W.cell? ⟨w.heap.size+1,4,none⟩=some (.slice a' n' cap')∧Below w.heap.size w W∧w.heap.size+1<W.heap.size)) (by kernel_rfl) ?_
 have hS:=sf_0 w e i r d a n cap e' i' r' d' a' n' cap'
 refine wT (i:=0) (v:=.agg #[.bool e,.int .u32 (i:Int),.bool r,.int .i64 d,.slice a n cap]) rfl (by kernel_rfl) (by kernel_rfl) (by kernel_rfl) (fun _ _ _ h=>h) (Or.inl ⟨by rfl,?_⟩) hS ?_
 ·intro W hSw;clear hS;go_simp
 simp only[Act.put,aA,aB,aC,aD,aE]
 refine wT (i:=2) (v:=.agg #[.bool e',.int .u32 (i':Int),.bool r',.int .i64 d',.slice a' n' cap']) rfl (by kernel_rfl) (by kernel_rfl) (by kernel_rfl) (fun _ _ _ h=>h) (Or.inl ⟨by rfl,?_⟩) hS ?_
 ·intro W hSw;clear hS;go_simp
 simp only[Act.put,aA,aB,aC,aD,aE,aF];refine wpAnyH_all (rs:=[1]) (by kernel_rfl) (by simp) ?_
 refine AllReadyH.cons rfl (fun K hK=>?_) AllReadyH.nil
 go_simp;refine (headOf_any _ _ _ _ _ _ _ _).mono ?_
 rintro o w1 ⟨rfl,rfl⟩;go_wp2_with fail;refine hK.out _ _ (sf_al _ _ _ _ _ _ _ _ _ _ _ _ _ _ _ _ _ (sf_al _ _ _ _ _ _ _ _ _ _ _ _ _ _ _ _ _ hS)) (fun hS2=>?_)
 clear hS hK K;have hS:=hS2
 clear hS2;refine wpAnyH_all (rs:=[3]) (by kernel_rfl) (by simp) ?_
 refine AllReadyH.cons rfl (fun K hK=>?_) AllReadyH.nil
 go_simp;refine (headOf_any _ _ _ _ _ _ _ _).mono ?_
 rintro o w1 ⟨rfl,rfl⟩;go_wp2_with fail;refine hK.out _ _ (sf_al _ _ _ _ _ _ _ _ _ _ _ _ _ _ _ _ _ (sf_al _ _ _ _ _ _ _ _ _ _ _ _ _ _ _ _ _ hS)) (fun hS2=>?_)
 clear hS hK K;have hS:=hS2
 clear hS2;refine wT (i:=4) (v:=.bool true) rfl (by kernel_rfl) (by kernel_rfl) (by kernel_rfl) (fun _ _ _ h=>h) (Or.inl ⟨by rfl,?_⟩) hS ?_
 ·intro W hSw;clear hS;go_simp
 simp only[Act.put,aA,aB,aC,aD,aE,aF];refine wT (i:=5) (v:=.bool true) rfl (by kernel_rfl) (by kernel_rfl) (by kernel_rfl) (fun _ _ _ h=>h) (Or.inl ⟨by rfl,?_⟩) hS ?_
 ·intro W hSw;clear hS;go_simp
 simp only[Act.put,aA,aB,aC,aD,aE,aF];refine wT (i:=6) (v:=.pointer (some ⟨w.heap.size,1,none⟩)) rfl (by kernel_rfl) (by kernel_rfl) (by kernel_rfl) (fun _ _ _ h=>h) (Or.inl ⟨by rfl,?_⟩) hS ?_
 ·intro W hSw;clear hS;go_simp
 simp only[Act.put,aA,aB,aC,aD,aE,aF];refine wT (i:=7) (v:=.int .u32 (i:Int)) rfl (by kernel_rfl) (by kernel_rfl) (by kernel_rfl) (fun _ _ _ h=>h) (Or.inl ⟨by rfl,?_⟩) hS ?_
 ·intro W hSw;clear hS;go_simp
 simp only[Act.put,aA,aB,aC,aD,aE,aF];refine wT (i:=8) (v:=.pointer (some ⟨w.heap.size+1,1,none⟩)) rfl (by kernel_rfl) (by kernel_rfl) (by kernel_rfl) (fun _ _ _ h=>h) (Or.inl ⟨by rfl,?_⟩) hS ?_
 ·intro W hSw;clear hS;go_simp
 simp only[Act.put,aA,aB,aC,aD,aE,aF];refine wT (i:=9) (v:=.int .u32 (i':Int)) rfl (by kernel_rfl) (by kernel_rfl) (by kernel_rfl) (fun _ _ _ h=>h) (Or.inl ⟨by rfl,?_⟩) hS ?_
 ·intro W hSw;clear hS;go_simp
 simp only[Act.put,aA,aB,aC,aD,aE,aF];refine wT (i:=10) (v:=.bool true) rfl (by kernel_rfl) (by kernel_rfl) (by kernel_rfl) (fun _ _ _ h=>h) (Or.inl ⟨by rfl,?_⟩) hS ?_
 ·intro W hSw;clear hS;go_simp
 simp only[Act.put,aA,aB,aC,aD,aE,aF];refine wT (i:=11) (v:=.bool true) rfl (by kernel_rfl) (by kernel_rfl) (by kernel_rfl) (fun _ _ _ h=>h) (Or.inl ⟨by rfl,?_⟩) hS ?_
 ·intro W hSw;clear hS;go_simp
 simp only[Act.put,aA,aB,aC,aD,aE,aF];refine wT (i:=12) (v:=.bool true) rfl (by kernel_rfl) (by kernel_rfl) (by kernel_rfl) (fun _ _ _ h=>h) (Or.inl ⟨by rfl,?_⟩) hS ?_
 ·intro W hSw;clear hS;go_simp
 simp only[Act.put,aA,aB,aC,aD,aE,aF];refine wT (i:=13) (v:=.pointer (some ⟨w.heap.size,3,none⟩)) rfl (by kernel_rfl) (by kernel_rfl) (by kernel_rfl) (fun _ _ _ h=>h) (Or.inl ⟨by rfl,?_⟩) hS ?_
 ·intro W hSw;clear hS;go_simp
 simp only[Act.put,aA,aB,aC,aD,aE,aF];refine wT (i:=14) (v:=.int .i64 d) rfl (by kernel_rfl) (by kernel_rfl) (by kernel_rfl) (fun _ _ _ h=>h) (Or.inl ⟨by rfl,?_⟩) hS ?_
 ·intro W hSw;clear hS;go_simp
 simp only[Act.put,aA,aB,aC,aD,aE,aF];refine wT (i:=15) (v:=.pointer (some ⟨w.heap.size+1,3,none⟩)) rfl (by kernel_rfl) (by kernel_rfl) (by kernel_rfl) (fun _ _ _ h=>h) (Or.inl ⟨by rfl,?_⟩) hS ?_
 ·intro W hSw;clear hS;go_simp
 simp only[Act.put,aA,aB,aC,aD,aE,aF];refine wT (i:=16) (v:=.int .i64 d') rfl (by kernel_rfl) (by kernel_rfl) (by kernel_rfl) (fun _ _ _ h=>h) (Or.inl ⟨by rfl,?_⟩) hS ?_
 ·intro W hSw;clear hS;go_simp
 simp only[Act.put,aA,aB,aC,aD,aE,aF];refine wT (i:=17) (v:=.bool false) rfl (by kernel_rfl) (by kernel_rfl) (by kernel_rfl) (fun _ _ _ h=>h) (Or.inl ⟨by rfl,?_⟩) hS ?_
 ·intro W hSw;clear hS;go_simp
 simp only[Act.put,aA,aB,aC,aD,aE,aF];refine wT (i:=18) (v:=.bool false) rfl (by kernel_rfl) (by kernel_rfl) (by kernel_rfl) (fun _ _ _ h=>h) (Or.inl ⟨by rfl,?_⟩) hS ?_
 ·intro W hSw;clear hS;go_simp
 simp only[Act.put,aA,aB,aC,aD,aE,aF];refine wT (i:=19) (v:=.bool false) rfl (by kernel_rfl) (by kernel_rfl) (by kernel_rfl) (fun _ _ _ h=>h) (Or.inl ⟨by rfl,?_⟩) hS ?_
 ·intro W hSw;clear hS;go_simp
 simp only[Act.put,aA,aB,aC,aD,aE,aF];refine wT (i:=20) (v:=undef) rfl (by kernel_rfl) (by kernel_rfl) (by kernel_rfl) (fun _ _ _ h=>h) (Or.inr ⟨by rfl,rfl⟩) hS ?_
 simp only[Act.put,aA,aB,aC,aD,aE,aF];refine wT (i:=21) (v:=undef) rfl (by kernel_rfl) (by kernel_rfl) (by kernel_rfl) (fun _ _ _ h=>h) (Or.inr ⟨by rfl,rfl⟩) hS ?_
 simp only[Act.put,aA,aB,aC,aD,aE,aF];refine wT (i:=22) (v:=undef) rfl (by kernel_rfl) (by kernel_rfl) (by kernel_rfl) (fun _ _ _ h=>h) (Or.inr ⟨by rfl,rfl⟩) hS ?_
 simp only[Act.put,aA,aB,aC,aD,aE,aF];refine wT (i:=23) (v:=undef) rfl (by kernel_rfl) (by kernel_rfl) (by kernel_rfl) (fun _ _ _ h=>h) (Or.inr ⟨by rfl,rfl⟩) hS ?_
 simp only[Act.put,aA,aB,aC,aD,aE,aF];refine wT (i:=24) (v:=undef) rfl (by kernel_rfl) (by kernel_rfl) (by kernel_rfl) (fun _ _ _ h=>h) (Or.inr ⟨by rfl,rfl⟩) hS ?_
 simp only[Act.put,aA,aB,aC,aD,aE,aF];refine wT (i:=25) (v:=.bool false) rfl (by kernel_rfl) (by kernel_rfl) (by kernel_rfl) (fun _ _ _ h=>h) (Or.inl ⟨by rfl,?_⟩) hS ?_
 ·intro W hSw;clear hS;go_simp
 simp only[Act.put,aA,aB,aC,aD,aE,aF];refine wT (i:=26) (v:=.bool false) rfl (by kernel_rfl) (by kernel_rfl) (by kernel_rfl) (fun _ _ _ h=>h) (Or.inl ⟨by rfl,?_⟩) hS ?_
 ·intro W hSw;clear hS;go_simp
 simp only[Act.put,aA,aB,aC,aD,aE,aF];have hbl:=hS.2.2.2.2.2.2.2.2.2.2.1
 refine wpAnyH_done (by kernel_rfl) ?_ _
 clear hS;go_wp2
 go_ret;exact⟨rfl,hbl⟩
set_option maxHeartbeats 2000000 in
set_option maxRecDepth 20000 in
theorem same_D (w:World) (e:Bool) (i:Nat) (r:Bool) (d:Int) (a:Option Addr) (n cap:Nat) (l:List Nat) (h:isBytes w a n cap l)
  (a':Option Addr) (n' cap':Nat) (l':List Nat) (h':isBytes w a' n' cap' l') :
  Calls Tryz.prog 178 #[frV e i r d a n cap,frV e i r d a' n' cap'] w fun o w'=>o = .returned (.bool (decide (l=l')))∧Below w.heap.size w w':=by
 have HH:Hid (isBytes w a n cap l):=h
 have HH':Hid (isBytes w a' n' cap' l'):=h'
 clear h h';have hd:(d == d)=true:=by simp
 have hi:((i:Int) == (i:Int))=true:=by simp
 have hq:=fun w=>eqHead w e r e r
 have hqq:((e == e) && (r == r))=true:=by simp
 rw[hqq] at hq
 have hgd:=guardHead
 go_enter Tryz.func178,Tryz.ntmps178
 go_wp2
 go_region_held3 (fun W=>W.cell? ⟨w.heap.size,0,none⟩=some (.bool e)∧W.cell? ⟨w.heap.size,1,none⟩=some (.int .u32 (i:Int))∧W.cell? ⟨w.heap.size,2,none⟩=some (.bool r)∧W.cell? ⟨w.heap.size,3,none⟩=some (.int .i64 d)∧W.cell? ⟨w.heap.size,4,none⟩=some (.slice a n cap)∧W.cell? ⟨w.heap.size+1,0,none⟩=some (.bool e)∧W.cell? ⟨w.heap.size+1,1,none⟩=some (.int .u32 (i:Int))∧W.cell? ⟨w.heap.size+1,2,none⟩=some (.bool r)∧W.cell? ⟨w.heap.size+1,3,none⟩=some (.int .i64 d)∧W.cell? ⟨w.heap.size+1,4,none⟩=some (.slice a' n' cap')∧Below w.heap.size w W∧w.heap.size+1<W.heap.size) (first | exact sf_0 w e i r d a n cap e i r d a' n' cap' | exact sf_al _ _ _ _ _ _ _ _ _ _ _ _ _ _ _ _ _ (sf_al _ _ _ _ _ _ _ _ _ _ _ _ _ _ _ _ _ (by assumption)) | assumption) (first | (go_at_call 188;refine (headOf_any _ _ _ _ _ _ _ _).mono ?_;rintro o w1 ⟨rfl,rfl⟩) | (go_at_call 189;refine (equal_any _ _ _ _ _ _ _ l l' ?_ ?_).mono ?_;exact HH.out.below (below_of (by assumption));exact HH'.out.below (below_of (by assumption));rintro o w1 ⟨rfl,rfl⟩))
 rename_i hS
 have hbl:=below_of hS
 clear hS;go_wp2
 go_ret;exact⟨rfl,hbl⟩
theorem same_any (w:World) (e:Bool) (i:Nat) (r:Bool) (d:Int) (a:Option Addr) (n cap:Nat) (l:List Nat) (h:isBytes w a n cap l)
  (e':Bool) (i':Nat) (r':Bool) (d':Int) (a':Option Addr) (n' cap':Nat) (l':List Nat) (h':isBytes w a' n' cap' l') :
  Calls Tryz.prog 178 #[frV e i r d a n cap,frV e' i' r' d' a' n' cap'] w fun o w'=>o = .returned (.bool ((e == e') && (r == r') && ((i:Int) == (i':Int)) && (d == d') && decide (l=l')))∧Below w.heap.size w w':=by
 cases hh:((e == e') && (r == r'))
 ·refine (same_A w e i r d a n cap e' i' r' d' a' n' cap' hh).mono ?_
  rintro o w' ⟨rfl,hb⟩;exact⟨rfl,hb⟩
 ·cases hi:((i:Int) == (i':Int))
  ·refine (same_B w e i r d a n cap e' i' r' d' a' n' cap' hh hi).mono ?_
   rintro o w' ⟨rfl,hb⟩;exact⟨rfl,hb⟩
  ·cases hd:(d == d')
   ·refine (same_C w e i r d a n cap e' i' r' d' a' n' cap' hh hi hd).mono ?_
    rintro o w' ⟨rfl,hb⟩;exact⟨rfl,hb⟩
   ·have e1:e=e':=by simp at hh;exact hh.1
    have e2:r=r':=by simp at hh;exact hh.2
    have e3:i=i':=by simp at hi;omega
    have e4:d=d':=by simpa using hd
    subst e1 e2 e3 e4;refine (same_D w e i r d a n cap l h a' n' cap' l' h').mono ?_
    rintro o w' ⟨rfl,hb⟩;exact⟨by simp,hb⟩
theorem valid_eq (e:Bool) (i:Nat) (r:Bool) (d:Int) (n:Nat) (i':Nat) (d':Int) (k:Nat) (l l':List Nat)
  (hi':(if (536870911:Int)<(i:Int) then (536870911:Int) else (i:Int))=(i':Int)) (hd':(if (15:Int)<(if d<0 then 0 else d) then (15:Int) else (if d<0 then 0 else d))=d') (hk:dl (r && ((n:Int) == 0)) d'=(k:Int))
  (h1:n=k→l'=l) (h2:n≠k→l'≠l) :
  ((e == (e || decide ((2047:Int)<(i:Int)))) && (r == (r && ((n:Int) == 0))) && ((i:Int) == (i':Int)) && (d == d') && decide (l=l'))=validB e i r d n:=by
 have hl:decide (l=l')=decide (n=k):=by
  by_cases h:n=k
  ·rw[h1 h];simp[h]
  ·have:=h2 h
   simp only[h,decide_false,decide_eq_false_iff_not]
   exact fun e=>this e.symm
 rw[hl]
 unfold validB
 rw[Bool.eq_iff_iff]
 simp only[Bool.and_eq_true,beq_iff_eq,decide_eq_true_iff]
 by_cases hd:0≤d∧d≤15
 ·have hdd:d'=d:=by
   rw[← hd']
   have a1:¬ d<0:=by omega
   have a2:¬ (15:Int)<d:=by omega
   simp[a1,a2]
  rw[hdd] at hk
  rw[hdd]
  by_cases hi:(536870911:Int)<(i:Int)
  ·rw[if_pos hi] at hi'
   constructor
   ·rintro⟨⟨⟨⟨_,_⟩,h3⟩,_⟩,_⟩;omega
   ·rintro⟨⟨⟨h3,_⟩,_⟩,_⟩;exfalso
    cases e
    ·simp at h3;omega
    ·simp at h3;omega
  ·rw[if_neg hi] at hi'
   cases e
   ·cases r
    ·have hkk:dl false d=(k:Int):=hk
     simp
     rw[hkk]
     omega
    ·have hkk:dl ((n:Int) == 0) d=(k:Int):=by simpa using hk
     by_cases hn:n=0
     ·subst hn;have hz:dl true d=0:=by simp[dl]
      have hk0:dl true d=(k:Int):=by simpa using hkk
      simp[hz]
      omega
     ·have hz:dl true d=0:=by simp[dl]
      simp[hz,hn]
   ·cases r
    ·have hkk:dl false d=(k:Int):=hk
     simp
     rw[hkk]
     omega
    ·have hkk:dl ((n:Int) == 0) d=(k:Int):=by simpa using hk
     by_cases hn:n=0
     ·subst hn;have hz:dl true d=0:=by simp[dl]
      have hk0:dl true d=(k:Int):=by simpa using hkk
      simp[hz]
      omega
     ·have hz:dl true d=0:=by simp[dl]
      simp[hz,hn]
 ·constructor
  ·rintro⟨⟨_,h4⟩,_⟩;exfalso
   rw[← hd'] at h4
   split at h4
   ·omega
   ·split at h4 <;> omega
  ·rintro⟨⟨⟨_,h4⟩,h5⟩,_⟩;exact absurd ⟨h4,h5⟩ hd
theorem vf_be (w W W':World) (e:Bool) (i:Nat) (r:Bool) (d:Int) (a:Option Addr) (n cap:Nat) (h:W.cell? ⟨w.heap.size,0,none⟩=some (.bool e)∧W.cell? ⟨w.heap.size,1,none⟩=some (.int .u32 (i:Int))∧W.cell? ⟨w.heap.size,2,none⟩=some (.bool r)∧W.cell? ⟨w.heap.size,3,none⟩=some (.int .i64 d)∧W.cell? ⟨w.heap.size,4,none⟩=some (.slice a n cap)∧Below w.heap.size w W∧w.heap.size<W.heap.size) (hb:Below W.heap.size W W'):(fun W=>W.cell? ⟨w.heap.size,0,none⟩=some (.bool e)∧W.cell? ⟨w.heap.size,1,none⟩=some (.int .u32 (i:Int))∧W.cell? ⟨w.heap.size,2,none⟩=some (.bool r)∧W.cell? ⟨w.heap.size,3,none⟩=some (.int .i64 d)∧W.cell? ⟨w.heap.size,4,none⟩=some (.slice a n cap)∧Below w.heap.size w W∧w.heap.size<W.heap.size) W':=by
 obtain⟨h0,h1,h2,h3,h4,hbl,hz⟩:=h
 exact⟨(hb.cell (by exact hz)).trans h0,(hb.cell (by exact hz)).trans h1,(hb.cell (by exact hz)).trans h2,(hb.cell (by exact hz)).trans h3,(hb.cell (by exact hz)).trans h4,hbl.trans (hb.mono (by omega)),Nat.lt_of_lt_of_le hz hb.size⟩
theorem vf_0 (w:World) (e:Bool) (i:Nat) (r:Bool) (d:Int) (a:Option Addr) (n cap:Nat):(fun W=>W.cell? ⟨w.heap.size,0,none⟩=some (.bool e)∧W.cell? ⟨w.heap.size,1,none⟩=some (.int .u32 (i:Int))∧W.cell? ⟨w.heap.size,2,none⟩=some (.bool r)∧W.cell? ⟨w.heap.size,3,none⟩=some (.int .i64 d)∧W.cell? ⟨w.heap.size,4,none⟩=some (.slice a n cap)∧Below w.heap.size w W∧w.heap.size<W.heap.size) (w.alloc (frC e i r d a n cap 25)).drew:=by
 refine⟨?_,?_,?_,?_,?_,((Below.refl _ _).alloc (Nat.le_refl _) _).drew,by simp⟩ <;> go_simp
theorem vf_below {w W:World} {e:Bool} {i:Nat} {r:Bool} {d:Int} {a:Option Addr} {n cap:Nat} (h:W.cell? ⟨w.heap.size,0,none⟩=some (.bool e)∧W.cell? ⟨w.heap.size,1,none⟩=some (.int .u32 (i:Int))∧W.cell? ⟨w.heap.size,2,none⟩=some (.bool r)∧W.cell? ⟨w.heap.size,3,none⟩=some (.int .i64 d)∧W.cell? ⟨w.heap.size,4,none⟩=some (.slice a n cap)∧Below w.heap.size w W∧w.heap.size<W.heap.size):Below w.heap.size w W:=h.2.2.2.2.2.1
set_option maxHeartbeats 2000000 in
set_option maxRecDepth 20000 in
theorem valid_any (w:World) (e:Bool) (i:Nat) (r:Bool) (d:Int) (a:Option Addr) (n cap:Nat) (l:List Nat) (h:isBytes w a n cap l) :
  Calls Tryz.prog 153 #[frV e i r d a n cap] w fun o w'=>o = .returned (.bool (validB e i r d n))∧Below w.heap.size w w':=by
 obtain⟨i',hi'⟩ : ∃ i':Nat,(if (536870911:Int)<(i:Int) then (536870911:Int) else (i:Int))=(i':Int):=by
  split
  ·exact⟨536870911,rfl⟩
  ·exact⟨i,rfl⟩
 obtain⟨d',hd'⟩ : ∃ d':Int,(if (15:Int)<(if d<0 then 0 else d) then (15:Int) else (if d<0 then 0 else d))=d':=⟨_,rfl⟩
 have hd0:0≤d':=by rw[← hd'];split <;> (try split) <;> omega
 have hdb:=dl_bounds (r && ((n:Int) == 0)) d' hd0
 obtain⟨k,hk⟩ : ∃ k:Nat,dl (r && ((n:Int) == 0)) d'=(k:Int):=⟨(dl (r && ((n:Int) == 0)) d').toNat,by omega⟩
 have hk8:k≤8:=by omega
 have HF:Hid (∀ W:World,isBytes W a n cap l→Calls Tryz.prog 179 #[frV e i r d a n cap] W fun o w'=>∃ a' n' cap' l',o = .returned (frV (e || decide ((2047:Int)<(i:Int))) i' (r && ((n:Int) == 0)) d' a' n' cap')∧isBytes w' a' n' cap' l'∧Below W.heap.size W w'∧(n=k→l'=l)∧(n≠k→l'≠l)):=
  fun W hW=>fitted_any W e i r d a n cap l hW i' d' k hi' hd' hk hk8
 have HV:Hid (∀ l',(n=k→l'=l)→(n≠k→l'≠l)→((e == (e || decide ((2047:Int)<(i:Int)))) && (r == (r && ((n:Int) == 0))) && ((i:Int) == (i':Int)) && (d == d') && decide (l=l'))=validB e i r d n):=
  fun l' h1 h2=>valid_eq e i r d n i' d' k l l' hi' hd' hk h1 h2
 have HH:Hid (isBytes w a n cap l):=h
 clear h hi' hd' hk hk8 hdb hd0;generalize (e || decide ((2047:Int)<(i:Int)))=e1 at *;generalize (r && ((n:Int) == 0))=r1 at *;go_enter Tryz.func153,Tryz.ntmps153
 go_wp2
 go_region_held3 (fun W=>W.cell? ⟨w.heap.size,0,none⟩=some (.bool e)∧W.cell? ⟨w.heap.size,1,none⟩=some (.int .u32 (i:Int))∧W.cell? ⟨w.heap.size,2,none⟩=some (.bool r)∧W.cell? ⟨w.heap.size,3,none⟩=some (.int .i64 d)∧W.cell? ⟨w.heap.size,4,none⟩=some (.slice a n cap)∧Below w.heap.size w W∧w.heap.size<W.heap.size) (first | exact vf_0 w e i r d a n cap | exact vf_be _ _ _ _ _ _ _ _ _ _ (by assumption) (by assumption) | assumption) (first | (go_at_call 179;refine (HF.out _ (HH.out.below (vf_below (by assumption)))).mono ?_;rintro o w1 ⟨a',n',cap',l',rfl,hby,hbel,hc1,hc2⟩;have HC:Hid ((n=k→l'=l)∧(n≠k→l'≠l)):=⟨hc1,hc2⟩;clear hc1 hc2) | (go_at_call 178;refine (same_any _ _ _ _ _ _ _ _ l (HH.out.below (vf_below (by assumption))) _ _ _ _ _ _ _ l' hby).mono ?_;rw[HV.out l' HC.out.1 HC.out.2];rintro o w2 ⟨rfl,hbel2⟩))
 rename_i hS
 have hbl:=vf_below hS
 clear hS;go_wp2
 go_ret;exact⟨rfl,hbl⟩
end Go.Proofs.YtaamahohdnbpiaaGreat
