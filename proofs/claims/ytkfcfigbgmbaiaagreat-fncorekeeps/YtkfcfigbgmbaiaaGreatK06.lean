import Derived.Test.YtkfcfigbgmbaiaaGreatK05
import Derived.Deep.RegionHeld3
namespace Go.Proofs.YtkfcfigbgmbaiaaGreat
set_option maxRecDepth 100000
open Go.RowKit
set_option linter.unusedVariables false
set_option maxHeartbeats 16000000
open Go.Value renaming int→I,slice→sL,bool→bO,pointer→pT,agg→aG
open Go.IntKind renaming i64→J
open Go.Ending renaming returned→rT
open Go.Proofs.Tryz renaming prog→Tp
variable {w W:World} {l:List Nat} {B n cap i:Nat} {v:Value} {a:Option Addr} {e r:Bool} {d:Int}
namespace M
def isL (c:Nat):Prop:=c=48∨c=49
end M
theorem ret_str {a b:ByteArray} (h:a=b):Ending.returned (.string a) = rT (.string b):=by rw[h]
def strN (l:List Nat):ByteArray:=⟨(l.map UInt8.ofNat).toArray⟩
theorem isL_lt (h:∀ x ∈ l,M.isL x):∀ x ∈ l,x<256:=by
 intro x hx;rcases h x hx with rfl | rfl <;> decide
theorem conv_own (h:ownsB w B v l) (hl:∀ x ∈ l,x<256):(convert 50 9 v).run Tp w = .ok (.string (strN l)) w:=by
 have h':=h
 obtain⟨_,⟨rfl,h1⟩|⟨g,cap,cur,rfl,hb,hh,hc,hm,hsz,htk⟩⟩:=h
 ·have:l=[]:=List.length_eq_zero_iff.1 h1
  subst this;rw[run_convert_bytes_string w 50 9 5 none 0 0 Tryz.underlying50 Tryz.underlying5 Tryz.underlying9]
  rfl
 ·have:=run_convert_bytes_back (P:=Tp) w 50 9 5 ⟨g,0,none⟩ cap (l.map UInt8.ofNat) Tryz.underlying50 Tryz.underlying5 Tryz.underlying9 (by
   intro j hj;have hj':j<l.length:=by simpa using hj
   have hc:=World.ownsRow.cellAt h' j (by omega)
   rw[bv_at l j hj'] at hc
   have hx:=hl l[j] (List.getElem_mem hj')
   have e:(UInt8.ofNat l[j]).toNat=l[j]:=by simp;omega
   have e2:(⟨g,0,none⟩ : Addr).add j=⟨g,j,none⟩:=by simp only[Addr.add];split <;> simp_all
   rw[e2,List.getElem_map,e]
   exact hc)
  rw[List.length_map] at this
  exact this
theorem ownsB.drewN (h:ownsB w B v l) (q:Nat):ownsB (w.drewN q) B v l:=by
 induction q generalizing w with
 | zero=>exact h
 | succ q ih=>exact ih (World.ownsRow.drew h)
theorem ownsB.kind (h:ownsB w B v l):∀ g,v.ownBlock=some g→∃ c fz,w.heap[g]?=some (.cells c 5 fz):=by
 intro g hg;obtain⟨_,⟨rfl,_⟩|⟨g',cap,cur,rfl,_,hh,_⟩⟩:=h
 ·simp[Value.ownBlock] at hg
 ·simp[Value.ownBlock] at hg
  subst hg;exact⟨cur,_,hh⟩
theorem app_byte2 {ops:Array Oper} {rest:List Oper} {o:Oper} {a:Act} {Q:Exit→Act→World→Prop} (w0 wr:World) (hgd:o.guard=none) (s x:Operand)
  (ho:o.op = .call { callee:=.builtin .append,args:=#[s,x],argTypes:=#[50,50] })
  (B:Nat) (v:Value) (l:List Nat) (c:Nat) (ci:Int) (hci:ci=(c:Int)) (hs:a.eval s=v) (hown:ownsB wr B v l)
  (hx:a.eval x = sL (some ⟨wr.heap.size,0,none⟩) 1 1) (hlen:l.length≤100000000) (hB:B≤wr.heap.size) (hbel:Below B w0 wr)
  (h:∀ v' w',ownsB w' B v' (l++[c])→Below B w0 w'→Lib.OthersKept 5 none wr w'→wpList Tp ops Q rest (a.put o.dst v') w') :
  wpList Tp ops Q (o :: rest) a (wr.alloc (.cells #[I .u8 ci] 5)):=by
 subst hci;obtain⟨i0,hi,hz0,hz1,hz2⟩:=info_parts Tryz.info5
 refine wpList_append_own _ hgd s x 50 ho B 5 i0 (I .u8 0) 1 1 Tryz.underlying50 hi hz0 hz1 hz2 rfl (by decide) v l.length (bv l) hs (World.ownsRow.alloc hown _) ⟨wr.heap.size,0,none⟩ 1 1 [I .u8 (c:Int)] hx rfl ?_ ?_ ?_ ?_ ?_ ?_
 ·intro j u hj;match j,hj with
  | 0,hj=>simp at hj;subst hj;simp[Addr.add]
 ·intro u hu;simp at hu;subst hu;rfl
 ·unfold maxLen;omega
 ·omega
 ·simp;omega
 ·intro v' w' ho' hg _;have hr:∀ k,v.ownBlock=some k→B≤k:=fun k hk=>(World.ownsRow.lt hown k hk).1
  refine h v' w' ?_ ((hbel.alloc hB _).grown hg (by simp;omega) hr) (((Lib.OthersKept.refl 5 none wr).alloc _).grown hg ?_)
  ·have e1:bv (l++[c])=bv l++[I .u8 (c:Int)]:=by simp[bv]
   unfold ownsB
   rw[e1,List.length_append]
   exact ho'
  ·intro g hg';exact ownsB.kind (B:=B) (l:=l) (World.ownsRow.alloc hown _) g hg'
def runAt (w:World) (b:Nat) (r:Nat × Nat):Prop:=w.heap[b]?=some (.cells #[I .i32 (r.1:Int),I J (r.2:Int)] 60 (0,0))
structure stI (w0:World) (B b1 b2:Nat) (s:ByteArray) (k:Nat) (v:Value) (l:List Nat) (r:Nat × Nat) (w:World):Prop where
 own:ownsB w B v l
 run:runAt w b1 r
 it:w.heap[b2]?=some (.stringIter s k)
 bel:Below B w0 w
 B1:B≤b1
 B2:B≤b2
theorem stI.size {w0:World} {b1 b2:Nat} {s:ByteArray} {k:Nat} {r:Nat × Nat} (h:stI w0 B b1 b2 s k v l r w):B≤w.heap.size:=
 Nat.le_of_lt (Nat.lt_of_le_of_lt h.B1 (lt_of_block h.run))
namespace M
theorem take_at (l:List Nat) (k:Nat) (h:k<l.length):l.take (k+1)=l.take k++[l[k]]:=List.take_succ_eq_append_getElem h
end M
theorem rowB.below {w':World} {g:Nat} {f:Nat→Nat} (h:rowB w g n f) (hb:Below B w w') (hg:g<B):rowB w' g n f:=
 ⟨fun t ht=>(hb.cell (by exact hg)).trans (h.cell t ht),fun t ht=>(hb.frozen (by exact hg)).trans (h.free t ht)⟩
def dl (r:Bool) (d:Int):Int:=if r=true then 0 else if 8<d then 8 else d
theorem specDataLen_any (w:World) (e:Bool) (i:Nat) (r:Bool) (d:Int) (a:Option Addr) (n cap:Nat) :
  Calls Tp 109 #[frV e i r d a n cap] w fun o w'=>o = rT (I J (dl r d))∧w.alloc (frC e i r d a n cap 55)=w':=by
 cases r
 ·by_cases h8:8<d
  ·have HD:Hid (dl false d=8):=by simp[dl,h8,Hid]
   go_enter Tryz.func109,Tryz.ntmps109
   go_wp2
   go_ret;exact⟨ret_int HD.out.symm,rfl⟩
  ·have HD:Hid (dl false d=d):=by simp[dl,h8,Hid]
   go_enter Tryz.func109,Tryz.ntmps109
   go_wp2
   go_ret;exact⟨ret_int HD.out.symm,rfl⟩
 ·go_enter Tryz.func109,Tryz.ntmps109
  go_wp2
  go_ret;exact⟨rfl,rfl⟩
theorem dataLen_any (w:World) (e:Bool) (i:Nat) (r:Bool) (d:Int) (a:Option Addr) (n cap:Nat) :
  Calls Tp 195 #[frV e i r d a n cap] w fun o w'=>o = rT (I J (dl r d))∧w.alloc (frC e i r d a n cap 55)=w':=by
 cases r
 ·by_cases h8:8<d
  ·have HD:Hid (dl false d=8):=by simp[dl,h8,Hid]
   go_enter Tryz.func195,Tryz.ntmps195
   go_wp2
   go_ret;exact⟨ret_int HD.out.symm,rfl⟩
  ·have HD:Hid (dl false d=d):=by simp[dl,h8,Hid]
   go_enter Tryz.func195,Tryz.ntmps195
   go_wp2
   go_ret;exact⟨ret_int HD.out.symm,rfl⟩
 ·go_enter Tryz.func195,Tryz.ntmps195
  go_wp2
  go_ret;exact⟨rfl,rfl⟩
def vB (e:Bool) (i:Nat) (r:Bool) (d:Int) (n:Nat):Bool:=
 (if e=true then decide (i<536870912) else decide (i<2048)) && decide (0≤d) && decide (d≤15) && ((n:Int) == dl r d)
theorem validB_id (e:Bool) (i:Nat) (r:Bool) (d:Int) (n:Nat) (h:(if e=true then decide (i<536870912) else decide (i<2048))=false):vB e i r d n=false:=by
 unfold vB;rw[h];rfl
theorem validB_d (e:Bool) (i:Nat) (r:Bool) (d:Int) (n:Nat) (h:¬ (0≤d∧d≤15)):vB e i r d n=false:=by
 unfold vB
 by_cases h1:0≤d
 ·have h2:¬ d≤15:=by omega
  simp[h2]
 ·simp[h1]
theorem validB_n (e:Bool) (i:Nat) (r:Bool) (d:Int) (n:Nat) (h:(if e=true then decide (i<536870912) else decide (i<2048))=true) (h0:0≤d) (h1:d≤15):vB e i r d n=((n:Int) == dl r d):=by
 unfold vB;rw[h];simp[h0,h1]
theorem specValid_any (w:World) (e:Bool) (i:Nat) (r:Bool) (d:Int) (a:Option Addr) (n cap:Nat) :
  Calls Tp 47 #[frV e i r d a n cap] w fun o w'=>o = rT (bO (vB e i r d n))∧Below w.heap.size w w':=by
 by_cases hid:(if e=true then decide (i<536870912) else decide (i<2048))=true
 ·by_cases h0:0≤d
  ·by_cases h1:d≤15
   ·have HV:Hid (vB e i r d n=((n:Int) == dl r d)):=validB_n e i r d n hid h0 h1
    cases e
    ·have hid':(i:Int)<2048:=by simp at hid;omega
     clear hid;go_enter Tryz.func47,Tryz.ntmps47
     go_wp2
     go_region_with (go_at_call 109;refine (specDataLen_any _ _ _ _ _ _ _ _).mono ?_;rintro o w1 ⟨rfl,rfl⟩)
     all_goals
      go_wp2
      go_ret;exact⟨ret_bool HV.out.symm,(((bW _ _).alloc (nR _) _).alloc (by simp) _).drew⟩
    ·have hid':decide ((536870912:Int)≤(i:Int))=false:=by simp at hid;simp;omega
     clear hid;go_enter Tryz.func47,Tryz.ntmps47
     go_wp2
     go_region_with (go_at_call 109;refine (specDataLen_any _ _ _ _ _ _ _ _).mono ?_;rintro o w1 ⟨rfl,rfl⟩)
     all_goals
      go_wp2
      go_ret;exact⟨ret_bool HV.out.symm,(((bW _ _).alloc (nR _) _).alloc (by simp) _).drew⟩
   ·have HV:Hid (vB e i r d n=false):=validB_d e i r d n (by omega)
    cases e
    ·have hid':(i:Int)<2048:=by simp at hid;omega
     clear hid;go_enter Tryz.func47,Tryz.ntmps47
     go_wp2
     go_ret;exact⟨ret_bool HV.out.symm,(bW _ _).alloc (nR _) _⟩
    ·have hid':decide ((536870912:Int)≤(i:Int))=false:=by simp at hid;simp;omega
     clear hid;go_enter Tryz.func47,Tryz.ntmps47
     go_wp2
     go_ret;exact⟨ret_bool HV.out.symm,(bW _ _).alloc (nR _) _⟩
  ·have HV:Hid (vB e i r d n=false):=validB_d e i r d n (by omega)
   cases e
   ·have hid':(i:Int)<2048:=by simp at hid;omega
    clear hid;go_enter Tryz.func47,Tryz.ntmps47
    go_wp2
    go_ret;exact⟨ret_bool HV.out.symm,(bW _ _).alloc (nR _) _⟩
   ·have hid':decide ((536870912:Int)≤(i:Int))=false:=by simp at hid;simp;omega
    clear hid;go_enter Tryz.func47,Tryz.ntmps47
    go_wp2
    go_ret;exact⟨ret_bool HV.out.symm,(bW _ _).alloc (nR _) _⟩
 ·have HV:Hid (vB e i r d n=false):=validB_id e i r d n (by rw[← Bool.not_eq_true];exact hid)
  cases e
  ·have hid':(2048:Int)≤(i:Int):=by simp at hid;omega
   clear hid;go_enter Tryz.func47,Tryz.ntmps47
   go_wp2
   go_ret;exact⟨ret_bool HV.out.symm,(bW _ _).alloc (nR _) _⟩
  ·have hid':decide ((536870912:Int)≤(i:Int))=true:=by simp at hid;simp;omega
   clear hid;go_enter Tryz.func47,Tryz.ntmps47
   go_wp2
   go_ret;exact⟨ret_bool HV.out.symm,(bW _ _).alloc (nR _) _⟩
theorem convB (h:iB w a n cap l):(convert 50 9 (sL a n cap)).run Tp w = .ok (.string (strN l)) w:=by
 obtain⟨rfl,hcap,hsm,hc⟩:=h
 by_cases hl:l=[]
 ·subst hl;cases a with
  | none=>
   rw[run_convert_bytes_string w 50 9 5 none _ cap Tryz.underlying50 Tryz.underlying5 Tryz.underlying9]
   rfl
  | some a=>
   have:=run_convert_bytes_back (P:=Tp) w 50 9 5 a cap [] Tryz.underlying50 Tryz.underlying5 Tryz.underlying9 (by intro j hj;simp at hj)
   exact this
 ·obtain⟨g,off,rfl,hcc⟩:=hc hl
  have:=run_convert_bytes_back (P:=Tp) w 50 9 5 ⟨g,off,none⟩ cap (l.map UInt8.ofNat) Tryz.underlying50 Tryz.underlying5 Tryz.underlying9 (by
   intro j hj;have hj':j<l.length:=by simpa using hj
   have hc:=hcc j hj'
   have hx:=hsm l[j] (List.getElem_mem hj')
   have e:(UInt8.ofNat l[j]).toNat=l[j]:=by simp;omega
   have e2:(⟨g,off,none⟩ : Addr).add j=⟨g,off+j,none⟩:=by simp only[Addr.add];split <;> simp_all
   rw[e2,List.getElem_map,e]
   exact hc)
  rw[List.length_map] at this
  exact this
theorem strN_inj {m:List Nat} (hl:∀ x ∈ l,x<256) (hm:∀ x ∈ m,x<256) (h:l.map UInt8.ofNat=m.map UInt8.ofNat):l=m:=by
 have key:∀ l:List Nat,(∀ x ∈ l,x<256)→(l.map UInt8.ofNat).map UInt8.toNat=l:=by
  intro l hl;rw[List.map_map]
  conv=>rhs;rw[← List.map_id l]
  apply List.map_congr_left
  intro x hx;have:=hl x hx
  simp;omega
 rw[← key l hl,← key m hm,h]
theorem equal_any (w:World) (a1 a2:Option Addr) (n1 c1 n2 c2:Nat) (l1 l2:List Nat) (h1:iB w a1 n1 c1 l1) (h2:iB w a2 n2 c2 l2) :
  Calls Tp 194 #[sL a1 n1 c1,sL a2 n2 c2] w fun o w'=>o = rT (bO (decide (l1=l2)))∧w=w':=by
 have k1:=convB h1
 have k2:=convB h2
 have HE:Hid ((l1.map UInt8.ofNat == l2.map UInt8.ofNat)=decide (l1=l2)):=by
  unfold Hid
  rw[Bool.eq_iff_iff,beq_iff_eq,decide_eq_true_iff]
  exact⟨strN_inj h1.small h2.small,fun e=>by rw[e]⟩
 clear h1 h2;go_enter Tryz.func194,Tryz.ntmps194
 go_wp2
 go_ret;exact⟨ret_bool (by rw[← HE.out];simp[strN]),rfl⟩
theorem headOf_any (w:World) (e:Bool) (i:Nat) (r:Bool) (d:Int) (a:Option Addr) (n cap:Nat) :
  Calls Tp 193 #[frV e i r d a n cap] w fun o w'=>o = rT (aG #[bO e,bO r])∧(w.alloc (frC e i r d a n cap 55)).alloc (.cells #[bO e,bO r] 208)=w':=by
 go_enter Tryz.func193,Tryz.ntmps193
 go_wp2
 exact bodyPost_ret (v:=aG #[bO e,bO r]) (by simp[results,Tryz.results193,go_sem]) rfl ⟨rfl,rfl⟩
def zeroRow (k:Nat):Array Value:=madeCells #[I .u8 0] k
theorem zeroRow_at (k t:Nat) (h:t<k):(zeroRow k)[t]?=some (I .u8 0):=by
 have:=toList_madeCells_one (I .u8 0) k
 unfold zeroRow
 rw[← Array.getElem?_toList,this,List.getElem?_replicate,if_pos h]
theorem mkz (w:World) (k:Nat) (hk:k≤100000000):(Instr.makeSlice 50 (I J (k:Int)) (I J (k:Int))).run Tp w = .ok (sL (some ⟨w.heap.size,0,none⟩) k k) (w.alloc (.cells (zeroRow k) 5)):=by
 obtain⟨i0,hi,hz0,hz1,hz2⟩:=info_parts Tryz.info5
 have hr:=run_make (P:=Tp) w 50 5 i0 (I .u8 0) Tryz.underlying50 hi hz0 .i64 .i64 k k (by omega) (Int.le_refl _) (by rw[hz2];omega) (by omega)
 simp only[Int.toNat_natCast,hz1,Nat.mul_one] at hr
 exact hr
theorem isBytes_zero (w:World) (k:Nat):iB (w.alloc (.cells (zeroRow k) 5)) (some ⟨w.heap.size,0,none⟩) k k (List.replicate k 0):=by
 refine⟨by simp,nR _,fun x hx=>by rw[List.mem_replicate] at hx;rw[hx.2];decide,fun _=>⟨_,0,rfl,fun j hj=>?_⟩⟩
 have hj':j<k:=by simpa using hj
 have h1:(w.alloc (.cells (zeroRow k) 5)).cell? ⟨w.heap.size,0+j,none⟩=(zeroRow k)[0+j]?:=World.cell?_alloc_mark w (zeroRow k) 5 (0,0) (0+j)
 rw[h1,Nat.zero_add,zeroRow_at k j hj']
 simp
theorem isBytes_zero' (w:World) (k b:Nat) (hb:w.heap.size=b):iB (w.alloc (.cells (zeroRow k) 5)) (some ⟨b,0,none⟩) k k (List.replicate k 0):=by
 subst hb;exact isBytes_zero w k
theorem dl_bounds (r:Bool) (d:Int) (h0:0≤d):0≤dl r d∧dl r d≤8:=by
 unfold dl;split
 ·omega
 ·split <;> omega
theorem fitted_any (w:World) (e:Bool) (i:Nat) (r:Bool) (d:Int) (a:Option Addr) (n cap:Nat) (l:List Nat) (h:iB w a n cap l) (i':Nat) (d':Int) (k:Nat)
  (hi':(if (536870911:Int)<(i:Int) then (536870911:Int) else (i:Int))=(i':Int)) (hd':(if (15:Int)<(if d<0 then 0 else d) then (15:Int) else (if d<0 then 0 else d))=d') (hk:dl (r && ((n:Int) == 0)) d'=(k:Int)) (hk8:k≤8) :
  Calls Tp 157 #[frV e i r d a n cap] w fun o w'=>∃ a' n' cap' l',o = rT (frV (e || decide ((2047:Int)<(i:Int))) i' (r && ((n:Int) == 0)) d' a' n' cap')∧iB w' a' n' cap' l'∧Below w.heap.size w w'∧(n=k→l'=l)∧(n≠k→l'≠l):=by
 cases e
 ·cases r
  ·have HH:Hid (iB w a n cap l):=h
   have hlen:=h.len
   have HK:Hid (dl false d'=(k:Int)):=hk
   clear h hk;by_cases hnk:n=k
   ·have hb:((n:Int) != (k:Int))=false:=by simp;omega
    have HN:Hid (n=k):=hnk
    clear hnk hlen;go_enter Tryz.func157,Tryz.ntmps157
    go_wp2_with (first | (go_at_call 195;refine (dataLen_any _ _ _ _ _ _ _ _).mono ?_;rw[HK.out];rintro o w1 ⟨rfl,rfl⟩))
    all_goals
     refine bodyPost_ret (v:=frV (decide ((2047:Int)<(i:Int))) i' false d' a n cap) (by simp[results,Tryz.results157,go_sem]) rfl ?_
     have hbl:=(((bW w.heap.size w).alloc (nR _) (frC (decide ((2047:Int)<(i:Int))) i' false d' a n cap 55)).alloc (by simp) (frC (decide ((2047:Int)<(i:Int))) i' false d' a n cap 55)).alloc (by simp;omega) (frC (decide ((2047:Int)<(i:Int))) i' false d' a n cap 55)
     exact⟨_,_,_,rfl,l,HH.out.below hbl,hbl,fun _=>rfl,fun hh=>absurd HN.out hh⟩
   ·have hb:((n:Int) != (k:Int))=true:=by simp;omega
    have hne:List.replicate k 0≠l:=by intro e;apply hnk;rw[hlen,← e];simp
    have HN:Hid (¬ n=k):=hnk
    have HE:Hid (List.replicate k 0≠l):=hne
    have hmk:=fun w=>mkz w k (by omega)
    clear hnk hlen hne;go_enter Tryz.func157,Tryz.ntmps157
    go_wp2_with (first | (go_at_call 195;refine (dataLen_any _ _ _ _ _ _ _ _).mono ?_;rw[HK.out];rintro o w1 ⟨rfl,rfl⟩))
    all_goals
     refine bodyPost_ret (v:=frV (decide ((2047:Int)<(i:Int))) i' false d' (some ⟨w.heap.size+3,0,none⟩) k k) (by simp[results,Tryz.results157,go_sem]) rfl ?_
     exact⟨_,_,_,rfl,List.replicate k 0,isBytes_zero' _ k _ (by simp),((((bW w.heap.size w).alloc (nR _) _).alloc (by simp) _).alloc (by simp;omega) _).alloc (by simp;omega) _,fun hh=>absurd hh HN.out,fun _=>HE.out⟩
  ·have HH:Hid (iB w a n cap l):=h
   have hlen:=h.len
   have HK:Hid (dl ((n:Int) == 0) d'=(k:Int)):=hk
   clear h hk;by_cases hnk:n=k
   ·have hb:((n:Int) != (k:Int))=false:=by simp;omega
    have HN:Hid (n=k):=hnk
    clear hnk hlen;go_enter Tryz.func157,Tryz.ntmps157
    go_wp2_with (first | (go_at_call 195;refine (dataLen_any _ _ _ _ _ _ _ _).mono ?_;rw[HK.out];rintro o w1 ⟨rfl,rfl⟩))
    all_goals
     refine bodyPost_ret (v:=frV (decide ((2047:Int)<(i:Int))) i' ((n:Int) == 0) d' a n cap) (by simp[results,Tryz.results157,go_sem]) rfl ?_
     have hbl:=(((bW w.heap.size w).alloc (nR _) (frC (decide ((2047:Int)<(i:Int))) i' ((n:Int) == 0) d' a n cap 55)).alloc (by simp) (frC (decide ((2047:Int)<(i:Int))) i' ((n:Int) == 0) d' a n cap 55)).alloc (by simp;omega) (frC (decide ((2047:Int)<(i:Int))) i' ((n:Int) == 0) d' a n cap 55)
     exact⟨_,_,_,rfl,l,HH.out.below hbl,hbl,fun _=>rfl,fun hh=>absurd HN.out hh⟩
   ·have hb:((n:Int) != (k:Int))=true:=by simp;omega
    have hne:List.replicate k 0≠l:=by intro e;apply hnk;rw[hlen,← e];simp
    have HN:Hid (¬ n=k):=hnk
    have HE:Hid (List.replicate k 0≠l):=hne
    have hmk:=fun w=>mkz w k (by omega)
    clear hnk hlen hne;go_enter Tryz.func157,Tryz.ntmps157
    go_wp2_with (first | (go_at_call 195;refine (dataLen_any _ _ _ _ _ _ _ _).mono ?_;rw[HK.out];rintro o w1 ⟨rfl,rfl⟩))
    all_goals
     refine bodyPost_ret (v:=frV (decide ((2047:Int)<(i:Int))) i' ((n:Int) == 0) d' (some ⟨w.heap.size+3,0,none⟩) k k) (by simp[results,Tryz.results157,go_sem]) rfl ?_
     exact⟨_,_,_,rfl,List.replicate k 0,isBytes_zero' _ k _ (by simp),((((bW w.heap.size w).alloc (nR _) _).alloc (by simp) _).alloc (by simp;omega) _).alloc (by simp;omega) _,fun hh=>absurd hh HN.out,fun _=>HE.out⟩
 ·cases r
  ·have HH:Hid (iB w a n cap l):=h
   have hlen:=h.len
   have HK:Hid (dl false d'=(k:Int)):=hk
   clear h hk;by_cases hnk:n=k
   ·have hb:((n:Int) != (k:Int))=false:=by simp;omega
    have HN:Hid (n=k):=hnk
    clear hnk hlen;go_enter Tryz.func157,Tryz.ntmps157
    go_wp2_with (first | (go_at_call 195;refine (dataLen_any _ _ _ _ _ _ _ _).mono ?_;rw[HK.out];rintro o w1 ⟨rfl,rfl⟩))
    all_goals
     refine bodyPost_ret (v:=frV true i' false d' a n cap) (by simp[results,Tryz.results157,go_sem]) rfl ?_
     have hbl:=(((bW w.heap.size w).alloc (nR _) (frC true i' false d' a n cap 55)).alloc (by simp) (frC true i' false d' a n cap 55)).alloc (by simp;omega) (frC true i' false d' a n cap 55)
     exact⟨_,_,_,rfl,l,HH.out.below hbl,hbl,fun _=>rfl,fun hh=>absurd HN.out hh⟩
   ·have hb:((n:Int) != (k:Int))=true:=by simp;omega
    have hne:List.replicate k 0≠l:=by intro e;apply hnk;rw[hlen,← e];simp
    have HN:Hid (¬ n=k):=hnk
    have HE:Hid (List.replicate k 0≠l):=hne
    have hmk:=fun w=>mkz w k (by omega)
    clear hnk hlen hne;go_enter Tryz.func157,Tryz.ntmps157
    go_wp2_with (first | (go_at_call 195;refine (dataLen_any _ _ _ _ _ _ _ _).mono ?_;rw[HK.out];rintro o w1 ⟨rfl,rfl⟩))
    all_goals
     refine bodyPost_ret (v:=frV true i' false d' (some ⟨w.heap.size+3,0,none⟩) k k) (by simp[results,Tryz.results157,go_sem]) rfl ?_
     exact⟨_,_,_,rfl,List.replicate k 0,isBytes_zero' _ k _ (by simp),((((bW w.heap.size w).alloc (nR _) _).alloc (by simp) _).alloc (by simp;omega) _).alloc (by simp;omega) _,fun hh=>absurd hh HN.out,fun _=>HE.out⟩
  ·have HH:Hid (iB w a n cap l):=h
   have hlen:=h.len
   have HK:Hid (dl ((n:Int) == 0) d'=(k:Int)):=hk
   clear h hk;by_cases hnk:n=k
   ·have hb:((n:Int) != (k:Int))=false:=by simp;omega
    have HN:Hid (n=k):=hnk
    clear hnk hlen;go_enter Tryz.func157,Tryz.ntmps157
    go_wp2_with (first | (go_at_call 195;refine (dataLen_any _ _ _ _ _ _ _ _).mono ?_;rw[HK.out];rintro o w1 ⟨rfl,rfl⟩))
    all_goals
     refine bodyPost_ret (v:=frV true i' ((n:Int) == 0) d' a n cap) (by simp[results,Tryz.results157,go_sem]) rfl ?_
     have hbl:=(((bW w.heap.size w).alloc (nR _) (frC true i' ((n:Int) == 0) d' a n cap 55)).alloc (by simp) (frC true i' ((n:Int) == 0) d' a n cap 55)).alloc (by simp;omega) (frC true i' ((n:Int) == 0) d' a n cap 55)
     exact⟨_,_,_,rfl,l,HH.out.below hbl,hbl,fun _=>rfl,fun hh=>absurd HN.out hh⟩
   ·have hb:((n:Int) != (k:Int))=true:=by simp;omega
    have hne:List.replicate k 0≠l:=by intro e;apply hnk;rw[hlen,← e];simp
    have HN:Hid (¬ n=k):=hnk
    have HE:Hid (List.replicate k 0≠l):=hne
    have hmk:=fun w=>mkz w k (by omega)
    clear hnk hlen hne;go_enter Tryz.func157,Tryz.ntmps157
    go_wp2_with (first | (go_at_call 195;refine (dataLen_any _ _ _ _ _ _ _ _).mono ?_;rw[HK.out];rintro o w1 ⟨rfl,rfl⟩))
    all_goals
     refine bodyPost_ret (v:=frV true i' ((n:Int) == 0) d' (some ⟨w.heap.size+3,0,none⟩) k k) (by simp[results,Tryz.results157,go_sem]) rfl ?_
     exact⟨_,_,_,rfl,List.replicate k 0,isBytes_zero' _ k _ (by simp),((((bW w.heap.size w).alloc (nR _) _).alloc (by simp) _).alloc (by simp;omega) _).alloc (by simp;omega) _,fun hh=>absurd hh HN.out,fun _=>HE.out⟩
theorem eqHead (w:World) (e r e' r':Bool):(Op.equalIn 10000 208 (aG #[bO e,bO r]) (aG #[bO e',bO r'])).run Tp w = .ok ((e == e') && (r == r')) w:=by
 cases e <;> cases r <;> cases e' <;> cases r' <;> kernel_rfl
theorem guardHead:Tp.eqGuardType Tp.depth 208=false:=by kernel_rfl
theorem cell_al (W:World) (o:Obj) (b j:Nat) (v:Value) (hb:b<W.heap.size) (h:W.cell? ⟨b,j,none⟩=some v):(W.alloc o).cell? ⟨b,j,none⟩=some v:=
 (World.cell?_alloc_lt _ _ _ (by exact hb)).trans h
theorem sf_al (w W:World) (o:Obj) (e:Bool) (i:Nat) (r:Bool) (d:Int) (a:Option Addr) (n cap:Nat) (e':Bool) (i':Nat) (r':Bool) (d':Int) (a':Option Addr) (n' cap':Nat)
  (h:W.cell? ⟨w.heap.size,0,none⟩=some (bO e)∧W.cell? ⟨w.heap.size,1,none⟩=some (I .u32 (i:Int))∧W.cell? ⟨w.heap.size,2,none⟩=some (bO r)∧W.cell? ⟨w.heap.size,3,none⟩=some (I J d)∧W.cell? ⟨w.heap.size,4,none⟩=some (sL a n cap)∧W.cell? ⟨w.heap.size+1,0,none⟩=some (bO e')∧W.cell? ⟨w.heap.size+1,1,none⟩=some (I .u32 (i':Int))∧W.cell? ⟨w.heap.size+1,2,none⟩=some (bO r')∧W.cell? ⟨w.heap.size+1,3,none⟩=some (I J d')∧W.cell? ⟨w.heap.size+1,4,none⟩=some (sL a' n' cap')∧Below w.heap.size w W∧w.heap.size+1<W.heap.size):(fun W=>W.cell? ⟨w.heap.size,0,none⟩=some (bO e)∧W.cell? ⟨w.heap.size,1,none⟩=some (I .u32 (i:Int))∧W.cell? ⟨w.heap.size,2,none⟩=some (bO r)∧W.cell? ⟨w.heap.size,3,none⟩=some (I J d)∧W.cell? ⟨w.heap.size,4,none⟩=some (sL a n cap)∧W.cell? ⟨w.heap.size+1,0,none⟩=some (bO e')∧W.cell? ⟨w.heap.size+1,1,none⟩=some (I .u32 (i':Int))∧W.cell? ⟨w.heap.size+1,2,none⟩=some (bO r')∧W.cell? ⟨w.heap.size+1,3,none⟩=some (I J d')∧W.cell? ⟨w.heap.size+1,4,none⟩=some (sL a' n' cap')∧Below w.heap.size w W∧w.heap.size+1<W.heap.size) (W.alloc o):=by
 obtain⟨h0,h1,h2,h3,h4,k0,k1,k2,k3,k4,hb,hz⟩:=h
 have z0:w.heap.size<W.heap.size:=by omega
 exact⟨cell_al _ _ _ _ _ z0 h0,cell_al _ _ _ _ _ z0 h1,cell_al _ _ _ _ _ z0 h2,cell_al _ _ _ _ _ z0 h3,cell_al _ _ _ _ _ z0 h4,cell_al _ _ _ _ _ hz k0,cell_al _ _ _ _ _ hz k1,cell_al _ _ _ _ _ hz k2,cell_al _ _ _ _ _ hz k3,cell_al _ _ _ _ _ hz k4,hb.alloc (by omega) _,by simp;omega⟩
theorem sf_0 (w:World) (e:Bool) (i:Nat) (r:Bool) (d:Int) (a:Option Addr) (n cap:Nat) (e':Bool) (i':Nat) (r':Bool) (d':Int) (a':Option Addr) (n' cap':Nat) :
  (fun W=>W.cell? ⟨w.heap.size,0,none⟩=some (bO e)∧W.cell? ⟨w.heap.size,1,none⟩=some (I .u32 (i:Int))∧W.cell? ⟨w.heap.size,2,none⟩=some (bO r)∧W.cell? ⟨w.heap.size,3,none⟩=some (I J d)∧W.cell? ⟨w.heap.size,4,none⟩=some (sL a n cap)∧W.cell? ⟨w.heap.size+1,0,none⟩=some (bO e')∧W.cell? ⟨w.heap.size+1,1,none⟩=some (I .u32 (i':Int))∧W.cell? ⟨w.heap.size+1,2,none⟩=some (bO r')∧W.cell? ⟨w.heap.size+1,3,none⟩=some (I J d')∧W.cell? ⟨w.heap.size+1,4,none⟩=some (sL a' n' cap')∧Below w.heap.size w W∧w.heap.size+1<W.heap.size) ((w.alloc (frC e i r d a n cap 55)).alloc (frC e' i' r' d' a' n' cap' 55)).drew:=by
 refine⟨?_,?_,?_,?_,?_,?_,?_,?_,?_,?_,(((bW _ _).alloc (nR _) _).alloc (by simp) _).drew,by simp⟩ <;> go_simp
theorem below_of {e':Bool} {i':Nat} {r':Bool} {d':Int} {a':Option Addr} {n' cap':Nat}
  (h:W.cell? ⟨w.heap.size,0,none⟩=some (bO e)∧W.cell? ⟨w.heap.size,1,none⟩=some (I .u32 (i:Int))∧W.cell? ⟨w.heap.size,2,none⟩=some (bO r)∧W.cell? ⟨w.heap.size,3,none⟩=some (I J d)∧W.cell? ⟨w.heap.size,4,none⟩=some (sL a n cap)∧W.cell? ⟨w.heap.size+1,0,none⟩=some (bO e')∧W.cell? ⟨w.heap.size+1,1,none⟩=some (I .u32 (i':Int))∧W.cell? ⟨w.heap.size+1,2,none⟩=some (bO r')∧W.cell? ⟨w.heap.size+1,3,none⟩=some (I J d')∧W.cell? ⟨w.heap.size+1,4,none⟩=some (sL a' n' cap')∧Below w.heap.size w W∧w.heap.size+1<W.heap.size):Below w.heap.size w W:=h.2.2.2.2.2.2.2.2.2.2.1
theorem same_no (w:World) (e:Bool) (i:Nat) (r:Bool) (d:Int) (a:Option Addr) (n cap:Nat) (e':Bool) (i':Nat) (r':Bool) (d':Int) (a':Option Addr) (n' cap':Nat) (hh:((e == e') && (r == r'))=false∨((e == e') && (r == r'))=true∧((i:Int) == (i':Int))=false∨((e == e') && (r == r'))=true∧((i:Int) == (i':Int))=true∧(d == d')=false) :
  Calls Tp 156 #[frV e i r d a n cap,frV e' i' r' d' a' n' cap'] w fun o w'=>o = rT (bO false)∧Below w.heap.size w w':=by
 rcases hh with hh|⟨hh,hi⟩|⟨hh,hi,hd⟩
 all_goals
  have hq:=fun w=>eqHead w e r e' r'
  rw[hh] at hq
  clear hh;have hgd:=guardHead
  go_enter Tryz.func156,Tryz.ntmps156
  go_wp2
  refine wp_region_held (S:=(fun W=>W.cell? ⟨w.heap.size,0,none⟩=some (bO e)∧W.cell? ⟨w.heap.size,1,none⟩=some (I .u32 (i:Int))∧W.cell? ⟨w.heap.size,2,none⟩=some (bO r)∧W.cell? ⟨w.heap.size,3,none⟩=some (I J d)∧W.cell? ⟨w.heap.size,4,none⟩=some (sL a n cap)∧W.cell? ⟨w.heap.size+1,0,none⟩=some (bO e')∧W.cell? ⟨w.heap.size+1,1,none⟩=some (I .u32 (i':Int))∧W.cell? ⟨w.heap.size+1,2,none⟩=some (bO r')∧W.cell? ⟨w.heap.size+1,3,none⟩=some (I J d')∧W.cell? ⟨w.heap.size+1,4,none⟩=some (sL a' n' cap')∧Below w.heap.size w W∧w.heap.size+1<W.heap.size)) (by kernel_rfl) ?_
  have hS:=sf_0 w e i r d a n cap e' i' r' d' a' n' cap'
  refine tk 0 ?_
  refine tk 2 ?_
  refine al 1 fun K hK=>?_
  go_simp;refine (headOf_any _ _ _ _ _ _ _ _).mono ?_
  rintro o w1 ⟨rfl,rfl⟩;go_wp2_with fail;refine hK.out _ _ (sf_al _ _ _ _ _ _ _ _ _ _ _ _ _ _ _ _ _ (sf_al _ _ _ _ _ _ _ _ _ _ _ _ _ _ _ _ _ hS)) (fun hS2=>?_)
  clear hS hK K;have hS:=hS2
  clear hS2;refine al 3 fun K hK=>?_
  go_simp;refine (headOf_any _ _ _ _ _ _ _ _).mono ?_
  rintro o w1 ⟨rfl,rfl⟩;go_wp2_with fail;refine hK.out _ _ (sf_al _ _ _ _ _ _ _ _ _ _ _ _ _ _ _ _ _ (sf_al _ _ _ _ _ _ _ _ _ _ _ _ _ _ _ _ _ hS)) (fun hS2=>?_)
  clear hS hK K;have hS:=hS2
  clear hS2;refine tk 4 ?_
  refine tk 5 ?_
  first | refine tk 6 ?_ | refine tn 6 ?_
  first | refine tk 7 ?_ | refine tn 7 ?_
  first | refine tk 8 ?_ | refine tn 8 ?_
  first | refine tk 9 ?_ | refine tn 9 ?_
  first | refine tk 10 ?_ | refine tn 10 ?_
  refine tk 11 ?_
  refine tk 12 ?_
  first | refine tk 13 ?_ | refine tn 13 ?_
  first | refine tk 14 ?_ | refine tn 14 ?_
  first | refine tk 15 ?_ | refine tn 15 ?_
  first | refine tk 16 ?_ | refine tn 16 ?_
  first | refine tk 17 ?_ | refine tn 17 ?_
  refine tk 18 ?_
  refine tk 19 ?_
  refine tn 20 ?_
  refine tn 21 ?_
  refine tn 22 ?_
  refine tn 23 ?_
  refine tn 24 ?_
  refine tk 25 ?_
  refine tk 26 ?_
  have hbl:=hS.2.2.2.2.2.2.2.2.2.2.1
  refine wpAnyH_done (by kernel_rfl) ?_ _
  clear hS;go_wp2
  go_ret;exact⟨rfl,hbl⟩
theorem same_D (w:World) (e:Bool) (i:Nat) (r:Bool) (d:Int) (a:Option Addr) (n cap:Nat) (l:List Nat) (h:iB w a n cap l)
  (a':Option Addr) (n' cap':Nat) (l':List Nat) (h':iB w a' n' cap' l') :
  Calls Tp 156 #[frV e i r d a n cap,frV e i r d a' n' cap'] w fun o w'=>o = rT (bO (decide (l=l')))∧Below w.heap.size w w':=by
 have HH:Hid (iB w a n cap l):=h
 have HH':Hid (iB w a' n' cap' l'):=h'
 clear h h';have hd:(d == d)=true:=by simp
 have hi:((i:Int) == (i:Int))=true:=by simp
 have hq:=fun w=>eqHead w e r e r
 have hqq:((e == e) && (r == r))=true:=by simp
 rw[hqq] at hq
 have hgd:=guardHead
 go_enter Tryz.func156,Tryz.ntmps156
 go_wp2
 go_region_held3 (fun W=>W.cell? ⟨w.heap.size,0,none⟩=some (bO e)∧W.cell? ⟨w.heap.size,1,none⟩=some (I .u32 (i:Int))∧W.cell? ⟨w.heap.size,2,none⟩=some (bO r)∧W.cell? ⟨w.heap.size,3,none⟩=some (I J d)∧W.cell? ⟨w.heap.size,4,none⟩=some (sL a n cap)∧W.cell? ⟨w.heap.size+1,0,none⟩=some (bO e)∧W.cell? ⟨w.heap.size+1,1,none⟩=some (I .u32 (i:Int))∧W.cell? ⟨w.heap.size+1,2,none⟩=some (bO r)∧W.cell? ⟨w.heap.size+1,3,none⟩=some (I J d)∧W.cell? ⟨w.heap.size+1,4,none⟩=some (sL a' n' cap')∧Below w.heap.size w W∧w.heap.size+1<W.heap.size) (first | exact sf_0 w e i r d a n cap e i r d a' n' cap' | exact sf_al _ _ _ _ _ _ _ _ _ _ _ _ _ _ _ _ _ (sf_al _ _ _ _ _ _ _ _ _ _ _ _ _ _ _ _ _ (by assumption)) | assumption) (first | (go_at_call 193;refine (headOf_any _ _ _ _ _ _ _ _).mono ?_;rintro o w1 ⟨rfl,rfl⟩) | (go_at_call 194;refine (equal_any _ _ _ _ _ _ _ l l' ?_ ?_).mono ?_;exact HH.out.below (below_of (by assumption));exact HH'.out.below (below_of (by assumption));rintro o w1 ⟨rfl,rfl⟩))
 rename_i hS
 have hbl:=below_of hS
 clear hS;go_wp2
 go_ret;exact⟨rfl,hbl⟩
theorem same_any (w:World) (e:Bool) (i:Nat) (r:Bool) (d:Int) (a:Option Addr) (n cap:Nat) (l:List Nat) (h:iB w a n cap l)
  (e':Bool) (i':Nat) (r':Bool) (d':Int) (a':Option Addr) (n' cap':Nat) (l':List Nat) (h':iB w a' n' cap' l') :
  Calls Tp 156 #[frV e i r d a n cap,frV e' i' r' d' a' n' cap'] w fun o w'=>o = rT (bO ((e == e') && (r == r') && ((i:Int) == (i':Int)) && (d == d') && decide (l=l')))∧Below w.heap.size w w':=by
 cases hh:((e == e') && (r == r'))
 ·refine (same_no w e i r d a n cap e' i' r' d' a' n' cap' (Or.inl hh)).mono ?_
  rintro o w' ⟨rfl,hb⟩;exact⟨rfl,hb⟩
 ·cases hi:((i:Int) == (i':Int))
  ·refine (same_no w e i r d a n cap e' i' r' d' a' n' cap' (Or.inr (Or.inl ⟨hh,hi⟩))).mono ?_
   rintro o w' ⟨rfl,hb⟩;exact⟨rfl,hb⟩
  ·cases hd:(d == d')
   ·refine (same_no w e i r d a n cap e' i' r' d' a' n' cap' (Or.inr (Or.inr ⟨hh,hi,hd⟩))).mono ?_
    rintro o w' ⟨rfl,hb⟩;exact⟨rfl,hb⟩
   ·have e1:e=e':=by simp at hh;exact hh.1
    have e2:r=r':=by simp at hh;exact hh.2
    have e3:i=i':=by simp at hi;omega
    have e4:d=d':=by simpa using hd
    subst e1 e2 e3 e4;refine (same_D w e i r d a n cap l h a' n' cap' l' h').mono ?_
    rintro o w' ⟨rfl,hb⟩;exact⟨by simp,hb⟩
theorem valid_eq (e:Bool) (i:Nat) (r:Bool) (d:Int) (n:Nat) (i':Nat) (d':Int) (k:Nat) (l l':List Nat)
  (hi':(if (536870911:Int)<(i:Int) then (536870911:Int) else (i:Int))=(i':Int)) (hd':(if (15:Int)<(if d<0 then 0 else d) then (15:Int) else (if d<0 then 0 else d))=d') (hk:dl (r && ((n:Int) == 0)) d'=(k:Int))
  (h1:n=k→l'=l) (h2:n≠k→l'≠l) :
  ((e == (e || decide ((2047:Int)<(i:Int)))) && (r == (r && ((n:Int) == 0))) && ((i:Int) == (i':Int)) && (d == d') && decide (l=l'))=vB e i r d n:=by
 have hl:decide (l=l')=decide (n=k):=by
  by_cases h:n=k
  ·rw[h1 h];simp[h]
  ·have:=h2 h
   simp only[h,decide_false,decide_eq_false_iff_not]
   exact fun e=>this e.symm
 rw[hl]
 unfold vB
 rw[Bool.eq_iff_iff]
 simp only[Bool.and_eq_true,beq_iff_eq,decide_eq_true_iff]
 by_cases hd:0≤d∧d≤15
 ·have hdd:d'=d:=by
   rw[← hd']
   have a1:¬ d<0:=by omega
   have a2:¬ (15:Int)<d:=by omega
   simp[a1,a2]
  rw[hdd] at hk
  rw[hdd]
  by_cases hi:(536870911:Int)<(i:Int)
  ·rw[if_pos hi] at hi'
   constructor
   ·rintro⟨⟨⟨⟨_,_⟩,h3⟩,_⟩,_⟩;omega
   ·rintro⟨⟨⟨h3,_⟩,_⟩,_⟩;exfalso
    cases e
    ·simp at h3;omega
    ·simp at h3;omega
  ·rw[if_neg hi] at hi'
   cases e
   ·cases r
    ·have hkk:dl false d=(k:Int):=hk
     simp
     rw[hkk]
     omega
    ·have hkk:dl ((n:Int) == 0) d=(k:Int):=by simpa using hk
     by_cases hn:n=0
     ·subst hn;have hz:dl true d=0:=by simp[dl]
      have hk0:dl true d=(k:Int):=by simpa using hkk
      simp[hz]
      omega
     ·have hz:dl true d=0:=by simp[dl]
      simp[hz,hn]
   ·cases r
    ·have hkk:dl false d=(k:Int):=hk
     simp
     rw[hkk]
     omega
    ·have hkk:dl ((n:Int) == 0) d=(k:Int):=by simpa using hk
     by_cases hn:n=0
     ·subst hn;have hz:dl true d=0:=by simp[dl]
      have hk0:dl true d=(k:Int):=by simpa using hkk
      simp[hz]
      omega
     ·have hz:dl true d=0:=by simp[dl]
      simp[hz,hn]
 ·constructor
  ·rintro⟨⟨_,h4⟩,_⟩;exfalso
   rw[← hd'] at h4
   split at h4
   ·omega
   ·split at h4 <;> omega
  ·rintro⟨⟨⟨_,h4⟩,h5⟩,_⟩;exact absurd ⟨h4,h5⟩ hd
theorem vf_be (w W W':World) (e:Bool) (i:Nat) (r:Bool) (d:Int) (a:Option Addr) (n cap:Nat) (h:W.cell? ⟨w.heap.size,0,none⟩=some (bO e)∧W.cell? ⟨w.heap.size,1,none⟩=some (I .u32 (i:Int))∧W.cell? ⟨w.heap.size,2,none⟩=some (bO r)∧W.cell? ⟨w.heap.size,3,none⟩=some (I J d)∧W.cell? ⟨w.heap.size,4,none⟩=some (sL a n cap)∧Below w.heap.size w W∧w.heap.size<W.heap.size) (hb:Below W.heap.size W W'):(fun W=>W.cell? ⟨w.heap.size,0,none⟩=some (bO e)∧W.cell? ⟨w.heap.size,1,none⟩=some (I .u32 (i:Int))∧W.cell? ⟨w.heap.size,2,none⟩=some (bO r)∧W.cell? ⟨w.heap.size,3,none⟩=some (I J d)∧W.cell? ⟨w.heap.size,4,none⟩=some (sL a n cap)∧Below w.heap.size w W∧w.heap.size<W.heap.size) W':=by
 obtain⟨h0,h1,h2,h3,h4,hbl,hz⟩:=h
 exact⟨(hb.cell (by exact hz)).trans h0,(hb.cell (by exact hz)).trans h1,(hb.cell (by exact hz)).trans h2,(hb.cell (by exact hz)).trans h3,(hb.cell (by exact hz)).trans h4,hbl.trans (hb.mono (by omega)),nL hz hb.size⟩
theorem vf_0 (w:World) (e:Bool) (i:Nat) (r:Bool) (d:Int) (a:Option Addr) (n cap:Nat):(fun W=>W.cell? ⟨w.heap.size,0,none⟩=some (bO e)∧W.cell? ⟨w.heap.size,1,none⟩=some (I .u32 (i:Int))∧W.cell? ⟨w.heap.size,2,none⟩=some (bO r)∧W.cell? ⟨w.heap.size,3,none⟩=some (I J d)∧W.cell? ⟨w.heap.size,4,none⟩=some (sL a n cap)∧Below w.heap.size w W∧w.heap.size<W.heap.size) (w.alloc (frC e i r d a n cap 55)).drew:=by
 refine⟨?_,?_,?_,?_,?_,((bW _ _).alloc (nR _) _).drew,by simp⟩ <;> go_simp
theorem vf_below (h:W.cell? ⟨w.heap.size,0,none⟩=some (bO e)∧W.cell? ⟨w.heap.size,1,none⟩=some (I .u32 (i:Int))∧W.cell? ⟨w.heap.size,2,none⟩=some (bO r)∧W.cell? ⟨w.heap.size,3,none⟩=some (I J d)∧W.cell? ⟨w.heap.size,4,none⟩=some (sL a n cap)∧Below w.heap.size w W∧w.heap.size<W.heap.size):Below w.heap.size w W:=h.2.2.2.2.2.1
theorem valid_any (w:World) (e:Bool) (i:Nat) (r:Bool) (d:Int) (a:Option Addr) (n cap:Nat) (l:List Nat) (h:iB w a n cap l) :
  Calls Tp 112 #[frV e i r d a n cap] w fun o w'=>o = rT (bO (vB e i r d n))∧Below w.heap.size w w':=by
 obtain⟨i',hi'⟩ : ∃ i':Nat,(if (536870911:Int)<(i:Int) then (536870911:Int) else (i:Int))=(i':Int):=by
  split
  ·exact⟨536870911,rfl⟩
  ·exact⟨i,rfl⟩
 obtain⟨d',hd'⟩ : ∃ d':Int,(if (15:Int)<(if d<0 then 0 else d) then (15:Int) else (if d<0 then 0 else d))=d':=⟨_,rfl⟩
 have hd0:0≤d':=by rw[← hd'];split <;> (try split) <;> omega
 have hdb:=dl_bounds (r && ((n:Int) == 0)) d' hd0
 obtain⟨k,hk⟩ : ∃ k:Nat,dl (r && ((n:Int) == 0)) d'=(k:Int):=⟨(dl (r && ((n:Int) == 0)) d').toNat,by omega⟩
 have hk8:k≤8:=by omega
 have HF:Hid (∀ W:World,iB W a n cap l→Calls Tp 157 #[frV e i r d a n cap] W fun o w'=>∃ a' n' cap' l',o = rT (frV (e || decide ((2047:Int)<(i:Int))) i' (r && ((n:Int) == 0)) d' a' n' cap')∧iB w' a' n' cap' l'∧Below W.heap.size W w'∧(n=k→l'=l)∧(n≠k→l'≠l)):=
  fun W hW=>fitted_any W e i r d a n cap l hW i' d' k hi' hd' hk hk8
 have HV:Hid (∀ l',(n=k→l'=l)→(n≠k→l'≠l)→((e == (e || decide ((2047:Int)<(i:Int)))) && (r == (r && ((n:Int) == 0))) && ((i:Int) == (i':Int)) && (d == d') && decide (l=l'))=vB e i r d n):=
  fun l' h1 h2=>valid_eq e i r d n i' d' k l l' hi' hd' hk h1 h2
 have HH:Hid (iB w a n cap l):=h
 clear h hi' hd' hk hk8 hdb hd0;generalize (e || decide ((2047:Int)<(i:Int)))=e1 at *;generalize (r && ((n:Int) == 0))=r1 at *;go_enter Tryz.func112,Tryz.ntmps112
 go_wp2
 go_region_held3 (fun W=>W.cell? ⟨w.heap.size,0,none⟩=some (bO e)∧W.cell? ⟨w.heap.size,1,none⟩=some (I .u32 (i:Int))∧W.cell? ⟨w.heap.size,2,none⟩=some (bO r)∧W.cell? ⟨w.heap.size,3,none⟩=some (I J d)∧W.cell? ⟨w.heap.size,4,none⟩=some (sL a n cap)∧Below w.heap.size w W∧w.heap.size<W.heap.size) (first | exact vf_0 w e i r d a n cap | exact vf_be _ _ _ _ _ _ _ _ _ _ (by assumption) (by assumption) | assumption) (first | (go_at_call 157;refine (HF.out _ (HH.out.below (vf_below (by assumption)))).mono ?_;rintro o w1 ⟨a',n',cap',l',rfl,hby,hbel,hc1,hc2⟩;have HC:Hid ((n=k→l'=l)∧(n≠k→l'≠l)):=⟨hc1,hc2⟩;clear hc1 hc2) | (go_at_call 156;refine (same_any _ _ _ _ _ _ _ _ l (HH.out.below (vf_below (by assumption))) _ _ _ _ _ _ _ l' hby).mono ?_;rw[HV.out l' HC.out.1 HC.out.2];rintro o w2 ⟨rfl,hbel2⟩))
 rename_i hS
 have hbl:=vf_below hS
 clear hS;go_wp2
 go_ret;exact⟨rfl,hbl⟩
end Go.Proofs.YtkfcfigbgmbaiaaGreat
