import Derived.Test.YtbllefckefhpoaaGreatK13
namespace Go.Proofs.YtbllefckefhpoaaGreat
open Go.RowKit
set_option linter.unusedVariables false
set_option maxHeartbeats 16000000
open Go.Value renaming int→I,slice→sL,bool→bO,pointer→pT,agg→aG
open Go.IntKind renaming i64→J
open Go.Ending renaming returned→rT
open Go.Proofs.Tryz renaming prog→Tp
namespace M
def stepN (r b:Nat):Nat:=if b≠r / 16384 then ((2*r) % 32768) ^^^ 17817 else (2*r) % 32768
end M
namespace M
def crcN (l:List Nat):Nat:=l.foldl stepN 0
end M
namespace M
theorem stepN_lt (r b:Nat):stepN r b<32768:=by
 unfold stepN
 split
 ·exact Nat.xor_lt_two_pow (n:=15) (by omega) (by decide)
 ·omega
end M
namespace M
theorem crcN_lt (l:List Nat):crcN l<32768:=by
 unfold crcN
 rcases List.eq_nil_or_concat l with rfl|⟨a,b,rfl⟩
 ·decide
 ·rw[List.concat_eq_append,List.foldl_append];exact stepN_lt _ _
end M
namespace M
theorem crcN_snoc (l:List Nat) (b:Nat):crcN (l++[b])=stepN (crcN l) b:=by
 simp[crcN,List.foldl_append]
end M
namespace M
def mb (l:List Nat) (j:Nat):Bool:=l.getD j 0 == 1
end M
namespace M
def gbit (k:Nat):Bool:=Nat.testBit 50585 (15-k)
end M
namespace M
def V (l:List Nat) (i j:Nat):Bool:=if j<i then false else mb l j ^^ (decide (j<i+15) && (crcN (l.take i)).testBit (14-(j-i)))
end M
namespace M
theorem dbl_testBit (r k:Nat):((2*r) % 32768).testBit k=(decide (k<15) && decide (1≤k) && r.testBit (k-1)):=by
 rw[show (32768:Nat)=2 ^ 15 from rfl,Nat.testBit_mod_two_pow]
 cases k with
 | zero=>simp[Nat.testBit_zero]
 | succ k=>
  have:(2*r).testBit (k+1)=r.testBit k:=by rw[Nat.testBit_succ];congr 1;omega
  rw[this];simp
end M
namespace M
theorem poly_bit (k:Nat) (h:k<15):Nat.testBit 17817 k=gbit (15-k):=by
 revert k h;decide
end M
namespace M
theorem top_bit (r:Nat) (h:r<32768):r.testBit 14=decide (r / 16384=1):=by
 rw[Nat.testBit_eq_decide_div_mod_eq]
 congr 1
 have:r / 2 ^ 14 % 2=r / 16384:=by
  rw[show (2:Nat) ^ 14=16384 from rfl];omega
 rw[this]
end M
namespace M
theorem V_self (l:List Nat) (i:Nat) (hb:∀ x ∈ l,x<2) (hi:i<l.length):V l i i=decide (l[i]≠crcN (l.take i) / 16384):=by
 have hr:=crcN_lt (l.take i)
 have h1:l[i]<2:=hb _ (List.getElem_mem hi)
 have hg:l.getD i 0=l[i]:=by simp[List.getD,hi]
 simp only[V,Nat.lt_irrefl,if_false,Nat.sub_self,Nat.sub_zero,top_bit _ hr,mb,hg]
 generalize crcN (l.take i)=r at *;generalize l[i]=x at *;have:r / 16384<2:=by omega
 generalize r / 16384=y at *;have hx:x=0∨x=1:=by omega
 have hy:y=0∨y=1:=by omega
 rcases hx with rfl | rfl <;> rcases hy with rfl | rfl <;> simp
end M
namespace M
theorem take_snoc' {α:Type} (l:List α) (i:Nat) (h:i<l.length):l.take (i+1)=l.take i++[l[i]]:=by
 rw[List.take_succ_eq_append_getElem h]
end M
namespace M
theorem V_step (l:List Nat) (i j:Nat) (hb:∀ x ∈ l,x<2) (hi:i<l.length) :
  V l (i+1) j=(V l i j ^^ (V l i i && (decide (i≤j∧j<i+16) && gbit (j-i)))):=by
 have hs:=V_self l i hb hi
 have hc:crcN (l.take (i+1))=stepN (crcN (l.take i)) l[i]:=by rw[take_snoc' l i hi,crcN_snoc]
 by_cases h1:j<i
 ·have h2:j<i+1:=by omega
  have h3:¬ i≤j:=by omega
  simp[V,h1,h2,h3]
 ·by_cases h2:j=i
  ·subst h2;have hg:gbit 0=true:=by decide
   have hv:V l (j+1) j=false:=by simp[V]
   rw[hv]
   simp[hg]
  ·have h3:¬ j<i+1:=by omega
   have h4:i≤j:=by omega
   rw[hs]
   by_cases h5:j<i+16
   ·have h6:14-(j-(i+1))<15:=by omega
    have e1:(decide (j<i+1+15))=true:=by simp;omega
    have hV1:V l (i+1) j=(mb l j ^^ (stepN (crcN (l.take i)) l[i]).testBit (14-(j-(i+1)))):=by
     simp only[V,h3,if_false,e1,Bool.true_and,hc]
    have hpg:Nat.testBit 17817 (14-(j-(i+1)))=gbit (j-i):=by rw[poly_bit _ h6];congr 1;omega
    have hV0:V l i j=(mb l j ^^ ((2*crcN (l.take i)) % 32768).testBit (14-(j-(i+1)))):=by
     rw[dbl_testBit]
     simp only[V,h1,if_false]
     congr 1
     by_cases h7:j<i+15
     ·have a1:(14-(j-(i+1)))<15:=h6
      have a2:1≤14-(j-(i+1)):=by omega
      have a3:14-(j-(i+1))-1=14-(j-i):=by omega
      simp only[h7,a1,a2,a3,decide_true,Bool.true_and]
     ·have a2:¬ 1≤14-(j-(i+1)):=by omega
      simp only[h7,a2,decide_false,Bool.and_false,Bool.false_and]
    rw[hV1,hV0]
    unfold stepN
    by_cases h8:l[i]≠crcN (l.take i) / 16384
    ·simp only[if_pos h8,Nat.testBit_xor,hpg,h4,h5,decide_true,and_self,Bool.true_and,Bool.xor_assoc]
     simp[h8]
    ·simp only[if_neg h8]
     simp[h8]
   ·have e2:(decide (j<i+15))=false:=by simp;omega
    simp[V,h1,h3,e2,h5]
end M
namespace M
theorem V_zero (l:List Nat) (j:Nat):V l 0 j=mb l j:=by simp[V,crcN]
end M
namespace M
theorem V_end (l:List Nat) (k:Nat) (hk:k<15):V l l.length (l.length+k)=(crcN l).testBit (14-k):=by
 have h1:¬ l.length+k<l.length:=by omega
 have h2:l.length+k<l.length+15:=by omega
 have h3:l.length+k-l.length=k:=by omega
 have h4:l.getD (l.length+k) 0=0:=by simp[List.getD]
 simp only[V,h1,if_false,mb,h4,h2,h3,decide_true,Bool.true_and,List.take_length]
 simp
end M
namespace M
def topv (r k:Nat):Nat:=r / 2 ^ (15-k)
end M
namespace M
theorem topv_zero (r:Nat) (h:r<32768):topv r 0=0:=by unfold topv;exact Nat.div_eq_of_lt h
end M
namespace M
theorem topv_succ (r k:Nat) (hk:k<15):topv r (k+1)=2*topv r k+(r.testBit (14-k)).toNat:=by
 unfold topv
 have e:15-k=(14-k)+1:=by omega
 have e':15-(k+1)=14-k:=by omega
 rw[e,e',Nat.pow_succ,← Nat.div_div_eq_div_mul,Nat.testBit_eq_decide_div_mod_eq]
 generalize r / 2 ^ (14-k)=y
 by_cases h:y % 2=1
 ·simp[h];omega
 ·have:y % 2=0:=by omega
  simp[this];omega
end M
namespace M
theorem topv_end (r:Nat):topv r 15=r:=by simp[topv]
end M
namespace M
theorem topv_le (r k:Nat) (h:r<32768):topv r k<32768:=Nat.lt_of_le_of_lt (Nat.div_le_self _ _) h
end M
def okC (c:UInt8):Bool:=c == 48 || c == 49
def okT (s:ByteArray) (m:Int):Bool:=decide ((s.size:Int)≤m) && s.data.toList.all okC
theorem take_snocV (s:ByteArray) (k:Nat) (h:k<s.size):s.data.toList.take (k+1)=s.data.toList.take k++[s[k]]:=by
 rw[List.take_succ_eq_append_getElem (by simpa using h)];rfl
theorem okT_long {s:ByteArray} {m:Int} (h:¬ (s.size:Int)≤m):okT s m=false:=by simp[okT,h]
theorem okT_all {s:ByteArray} {m:Int} (h:(s.size:Int)≤m) (k:Nat) (hk:s.size≤k) (ha:(s.data.toList.take k).all okC=true):okT s m=true:=by
 rw[List.take_of_length_le (by simpa using hk)] at ha
 simp[okT,h,ha]
theorem okT_bad {s:ByteArray} {m:Int} (k:Nat) (hk:k<s.size) (hb:okC s[k]=false):okT s m=false:=by
 have:s.data.toList.all okC=false:=by
  rw[List.all_eq_false]
  exact⟨s[k],by rw[Array.mem_toList_iff];exact Array.getElem_mem (xs:=s.data) (i:=k) hk,by simpa using hb⟩
 simp[okT,this]
theorem ok_snoc {s:ByteArray} {k:Nat} (hk:k<s.size) (ha:(s.data.toList.take k).all okC=true) (hc:okC s[k]=true):(s.data.toList.take (k+1)).all okC=true:=by
 rw[take_snocV s k hk,List.all_append,ha];simp[hc]
theorem okC_of (c:UInt8) (h:(c.toNat:Int)=48∨(c.toNat:Int)=49):okC c=true:=by
 unfold okC
 rcases h with h|h
 ·have:c=48:=UInt8.toNat_inj.1 (by simpa using (by omega:c.toNat=48))
  simp[this]
 ·have:c=49:=UInt8.toNat_inj.1 (by simpa using (by omega:c.toNat=49))
  simp[this]
theorem okC_not (c:UInt8) (h:¬ (c.toNat:Int)=48) (h':¬ (c.toNat:Int)=49):okC c=false:=by
 unfold okC
 have a:(c == 48)=false:=by
  rw[beq_eq_false_iff_ne];intro e;subst e;exact h rfl
 have b:(c == 49)=false:=by
  rw[beq_eq_false_iff_ne];intro e;subst e;exact h' rfl
 simp[a,b]
theorem okC_val {c:UInt8} (h:okC c=true):c.toNat=48∨c.toNat=49:=by
 unfold okC at h
 simp at h
 rcases h with h | h <;> subst h
 ·exact .inl rfl
 ·exact .inr rfl
theorem okBits_any (s:ByteArray) (m:Int) (w:World) (hs:s.size≤maxLen) :
  Calls Tp 56 #[.string s,I J m] w fun e w'=>e = rT (bO (okT s m))∧w=w':=by
 unfold maxLen at hs
 by_cases hm:(s.size:Int)≤m
 ·go_enter Tryz.func56,Tryz.ntmps56
  go_wp2
  go_loop [5] (fun i=>∃ k:Nat,k≤s.size∧i = I J k∧(s.data.toList.take k).all okC=true) (fun i=>s.size-(intOf i).toNat)
  case atStart=>exact⟨0,Nat.zero_le _,rfl,rfl⟩
  case round=>
   obtain⟨k,hk,rfl,ha⟩:=hrel
   have HA:Hid ((s.data.toList.take k).all okC=true):=ha
   clear ha;by_cases hlt:k<s.size
   ·by_cases h0:(s[k].toNat:Int)=48
    ·go_wp2
     go_round
     case rel=>exact⟨k+1,by omega,by go_num,ok_snoc hlt HA.out (okC_of _ (.inl h0))⟩
     case measure=>simp[intOf];omega
    ·by_cases h1:(s[k].toNat:Int)=49
     ·go_wp2
      go_round
      case rel=>exact⟨k+1,by omega,by go_num,ok_snoc hlt HA.out (okC_of _ (.inr h1))⟩
      case measure=>simp[intOf];omega
     ·have hb:=okT_bad (m:=m) k hlt (okC_not _ h0 h1)
      have b0:((s[k].toNat:Int) != 48)=true:=by simpa using h0
      have b1:((s[k].toNat:Int) != 49)=true:=by simpa using h1
      have HB:Hid (okT s m=false):=hb
      clear hb h0 h1;go_wp2
      go_ret;exact⟨ret_bool HB.out.symm,rfl⟩
   ·go_wp2
    go_ret;exact⟨ret_bool (okT_all hm k (by omega) HA.out).symm,rfl⟩
 ·go_enter Tryz.func56,Tryz.ntmps56
  go_wp2
  go_ret;exact⟨ret_bool (okT_long (by omega)).symm,rfl⟩
theorem isBitText_any (s:ByteArray) (m:Int) (w:World) :
  Calls Tp 172 #[.string s,I J m] w fun e w'=>e = rT (bO (okT s m))∧Below w.heap.size w w':=by
 by_cases hm:(s.size:Int)≤m
 ·go_enter Tryz.func172,Tryz.ntmps172
  go_wp2
  go_loopw [6] (fun _ w'=>∃ k:Nat,k≤s.size∧w'=w.iter s k∧(s.data.toList.take k).all okC=true) (fun _ w'=>s.size-w'.iterPos w.heap.size)
  case atStart=>exact⟨0,Nat.zero_le _,rfl,rfl⟩
  case round=>
   obtain⟨k,hk,rfl,ha⟩:=hrel
   have HA:Hid ((s.data.toList.take k).all okC=true):=ha
   clear ha;by_cases hlt:k<s.size
   ·by_cases hc:okC s[k]=true
    ·have hv:=okC_val hc
     have hnx:=fun ty=>run_next_ascii (P:=Tp) w s k ty hlt (by omega)
     have HC:Hid (okC s[k]=true):=hc
     clear hc;rcases hv with hv|hv
     ·rw[hv] at hnx
      clear hv;go_wp2
      go_roundw
      case rel=>exact⟨k+1,by omega,rfl,ok_snoc hlt HA.out HC.out⟩
      case measure=>simp;omega
     ·rw[hv] at hnx
      clear hv;go_wp2
      go_roundw
      case rel=>exact⟨k+1,by omega,rfl,ok_snoc hlt HA.out HC.out⟩
      case measure=>simp;omega
    ·have hb:=okT_bad (m:=m) k hlt (by simpa using hc)
     have hd:(((Utf8.decode s k).1:Int) != 48)=true∧(((Utf8.decode s k).1:Int) != 49)=true:=by
      by_cases hx:(s[k]'hlt).toNat<128
      ·rw[decode_ascii s k hlt hx]
       simp only[bne_iff_ne]
       refine⟨fun e=>hc (okC_of _ (.inl (by exact_mod_cast e))),fun e=>hc (okC_of _ (.inr (by exact_mod_cast e)))⟩
      ·have:=(decode_high s k hlt (by omega)).1
       simp only[bne_iff_ne]
       constructor <;> omega
     obtain⟨b0,b1⟩:=hd
     have hnx:∀ ty,(Instr.next (pT (some ⟨w.heap.size,0,none⟩)) true ty).run Tp (w.iter s k)=_:=fun ty=>run_next_any w s k ty hlt
     have HB:Hid (okT s m=false):=hb
     clear hb hc;go_wp2
     go_ret;exact⟨ret_bool HB.out.symm,(Below.refl _ _).alloc (Nat.le_refl _) _⟩
   ·have hnx:∀ ty,(Instr.next (pT (some ⟨w.heap.size,0,none⟩)) true ty).run Tp (w.iter s k)=_:=fun ty=>run_next_end w s k ty hlt
    go_wp2
    go_ret;exact⟨ret_bool (okT_all hm k (by omega) HA.out).symm,(Below.refl _ _).alloc (Nat.le_refl _) _⟩
 ·go_enter Tryz.func172,Tryz.ntmps172
  go_wp2
  go_ret;exact⟨ret_bool (okT_long (by omega)).symm,Below.refl _ _⟩
theorem wraps_i64 (n:Int) (h0:0≤n) (h1:n<2 ^ 62):IntKind.i64.wrap n=n:=by rw[IntKind.wrap_i64];omega
theorem i64_mask15 (n:Int) (h0:0≤n) (h1:n<2 ^ 62):bits .and .i64 n 32767=n % 32768:=
 bits_mask .i64 62 (by decide) wraps_i64 15 (by decide) n h0 h1
theorem i64_xor_nat (a b:Nat) (ha:a<2 ^ 62) (hb:b<2 ^ 62):bits .xor .i64 (a:Int) (b:Int)=((a ^^^ b:Nat):Int):=
 by
 have hx:a ^^^ b<2 ^ 62:=Nat.xor_lt_two_pow ha hb
 show IntKind.i64.wrap ((BitVec.ofInt 64 (a:Int) ^^^ BitVec.ofInt 64 (b:Int)).toNat:Int)=_
 rw[BitVec.toNat_xor,ofInt_u64 a (by omega),ofInt_u64 b (by omega),wraps_i64 _ (by omega) (by omega)]
theorem crcStep_yes (r b:Nat) (h1:r<32768) (h:((b:Int) != (r:Int) / 16384)=true) :
  bits BinOp.xor IntKind.i64 (bits BinOp.and IntKind.i64 ((r:Int)*2) 32767) 17817=((M.stepN r b:Nat):Int):=by
 have h':b≠r / 16384:=by
  intro e;rw[bne_iff_ne] at h
  exact h (by omega)
 rw[i64_mask15 _ (by omega) (by omega)]
 have e:((r:Int)*2) % 32768=((2*r % 32768:Nat):Int):=by omega
 rw[e,show (17817:Int)=((17817:Nat):Int) from rfl,i64_xor_nat _ _ (by omega) (by decide)]
 simp[M.stepN,h']
theorem crcStep_no (r b:Nat) (h1:r<32768) (h:((b:Int) != (r:Int) / 16384)=false) :
  bits BinOp.and IntKind.i64 ((r:Int)*2) 32767=((M.stepN r b:Nat):Int):=by
 have h':¬ b≠r / 16384:=by
  intro e;rw[bne_eq_false_iff_eq] at h
  exact e (by omega)
 rw[i64_mask15 _ (by omega) (by omega)]
 unfold M.stepN
 rw[if_neg h']
 omega
theorem crcStep_any (r b:Nat) (w:World) (h1:r<32768) :
  Calls Tp 173 #[I J r,I J b] w fun e w'=>e = rT (I J (M.stepN r b:Nat))∧w=w':=by
 go_enter Tryz.func173,Tryz.ntmps173
 go_wp2
 ·have hc:((b:Int) != (r:Int) / 16384)=true:=by assumption
  go_ret;exact⟨ret_int (crcStep_yes r b h1 hc),rfl⟩
 ·have hc:((b:Int) != (r:Int) / 16384)=false:=by assumption
  go_ret;exact⟨ret_int (crcStep_no r b h1 hc),rfl⟩
def bl (s:ByteArray):List Nat:=s.data.toList.map (fun c=>c.toNat-48)
theorem bl_length (s:ByteArray):(bl s).length=s.size:=by simp[bl]
theorem bl_snoc (s:ByteArray) (k:Nat) (h:k<s.size):(bl s).take (k+1)=(bl s).take k++[s[k].toNat-48]:=by
 unfold bl;rw[← List.map_take,take_snocV s k h];simp[List.map_take]
theorem okT_size {s:ByteArray} {m:Int} (h:okT s m=true):(s.size:Int)≤m:=by
 unfold okT at h;rw[Bool.and_eq_true,decide_eq_true_iff] at h;exact h.1
theorem okT_at {s:ByteArray} {m:Int} (h:okT s m=true) (k:Nat) (hk:k<s.size):s[k].toNat=48∨s[k].toNat=49:=by
 unfold okT at h;rw[Bool.and_eq_true] at h
 exact okC_val (List.all_eq_true.1 h.2 _ (by rw[Array.mem_toList_iff];exact Array.getElem_mem (xs:=s.data) (i:=k) hk))
theorem bl_bits {s:ByteArray} {m:Int} (h:okT s m=true):∀ x ∈ bl s,x<2:=by
 intro x hx;unfold okT at h;rw[Bool.and_eq_true] at h
 unfold bl at hx
 rw[List.mem_map] at hx
 obtain⟨c,hc,rfl⟩:=hx
 have:=okC_val (List.all_eq_true.1 h.2 c hc)
 omega
def crcZ (s:ByteArray):Int:=if okT s 2000=true then (M.crcN (bl s):Nat) else -1
theorem crc15_any (s:ByteArray) (w:World) :
  Calls Tp 133 #[.string s] w fun e w'=>e = rT (I J (crcZ s))∧Below w.heap.size w w':=by
 by_cases hk:okT s 2000=true
 ·have HZ:Hid (crcZ s=(M.crcN (bl s):Nat)):=by simp[crcZ,hk,Hid]
  go_enter Tryz.func133,Tryz.ntmps133
  go_wp2_with (go_at_call 172;refine (isBitText_any _ _ _).mono ?_;rintro e w1 ⟨rfl,hb1⟩)
  have HK:Hid (okT s 2000=true):=hk
  clear hk;go_loopw [3,5] (fun r _ w'=>∃ k:Nat,k≤s.size∧w'=w1.iter s k∧r = I J ((M.crcN ((bl s).take k):Nat):Int)) (fun _ _ w'=>s.size-w'.iterPos w1.heap.size)
  case atStart=>exact⟨0,Nat.zero_le _,rfl,rfl⟩
  case round=>
   obtain⟨k,hk,rfl,rfl⟩:=hrel
   by_cases hlt:k<s.size
   ·have hv:=okT_at HK.out k hlt
    have hnx:=fun ty=>run_next_ascii (P:=Tp) w1 s k ty hlt (by omega)
    have hr:=M.crcN_lt ((bl s).take k)
    have HS:Hid (M.crcN ((bl s).take (k+1))=M.stepN (M.crcN ((bl s).take k)) (s[k].toNat-48)):=by
     rw[bl_snoc s k hlt,M.crcN_snoc];exact rfl
    generalize hR:M.crcN ((bl s).take k)=r at *;clear hR;rcases hv with hv|hv
    ·rw[hv] at hnx
     have HS':Hid (M.crcN ((bl s).take (k+1))=M.stepN r 0):=by rw[HS.out,hv];exact rfl
     clear hv HS;go_wp2_with (go_at_call 173;refine (crcStep_any r 0 _ hr).mono ?_;rintro e w2 ⟨rfl,rfl⟩)
     go_roundw
     case rel=>exact⟨k+1,by omega,rfl,by rw[HS'.out]⟩
     case measure=>simp;omega
    ·rw[hv] at hnx
     have HS':Hid (M.crcN ((bl s).take (k+1))=M.stepN r 1):=by rw[HS.out,hv];exact rfl
     clear hv HS;go_wp2_with (go_at_call 173;refine (crcStep_any r 1 _ hr).mono ?_;rintro e w2 ⟨rfl,rfl⟩)
     go_roundw
     case rel=>exact⟨k+1,by omega,rfl,by rw[HS'.out]⟩
     case measure=>simp;omega
   ·have hnx:∀ ty,(Instr.next (pT (some ⟨w1.heap.size,0,none⟩)) true ty).run Tp (w1.iter s k)=_:=fun ty=>run_next_end w1 s k ty hlt
    have HE:Hid ((bl s).take k=bl s):=List.take_of_length_le (by rw[bl_length];omega)
    go_wp2
    go_ret;exact⟨ret_int (by rw[HE.out,HZ.out]),hb1.alloc (by exact hb1.size) _⟩
 ·have hk':okT s 2000=false:=by simpa using hk
  have HZ:Hid (crcZ s = -1):=by simp[crcZ,hk',Hid]
  clear hk;go_enter Tryz.func133,Tryz.ntmps133
  go_wp2_with (go_at_call 172;refine (isBitText_any _ _ _).mono ?_;rintro e w1 ⟨rfl,hb1⟩)
  go_ret;exact⟨ret_int HZ.out.symm,hb1⟩
theorem ownsB.open {w:World} {B:Nat} {v:Value} {l:List Nat} (h:ownsB w B v l) (hl:l≠[]) :
  ∃ g cap,v = sL (some ⟨g,0,none⟩) l.length cap∧B≤g∧g<w.heap.size∧l.length≤cap∧cap≤maxLen∧rowB w g l.length (fun t=>l.getD t 0):=by
 have h':=h
 obtain⟨_,h1|⟨g,cap,cur,rfl,hb,hh,hc,hm,hsz,htk⟩⟩:=h
 ·exact absurd (List.length_eq_zero_iff.1 h1.2) hl
 ·refine⟨g,cap,rfl,hb,(World.ownsRow.lt h' g rfl).2,hc,hm,fun t ht=>?_,fun t ht=>?_⟩
  ·rw[World.ownsRow.cellAt h' t (by omega),bv_at l t ht];simp[List.getD,ht]
  ·exact World.ownsRow.frozenAt h' t
theorem g_at (j:Nat) (hj:j<16) (h:j<(ByteArray.mk #[49,49,48,48,48,49,48,49,49,48,48,49,49,48,48,49]).size):(((ByteArray.mk #[49,49,48,48,48,49,48,49,49,48,48,49,49,48,48,49])[j]'h).toNat:Int)=48+((M.gbit j).toNat:Int):=by
 have:∀ j:Fin 16,(((ByteArray.mk #[49,49,48,48,48,49,48,49,49,48,48,49,49,48,48,49])[j.val]'(j.isLt)).toNat:Int)=48+((M.gbit j.val).toNat:Int):=by decide
 exact this ⟨j,hj⟩
theorem xor_bits (a b:Bool):bits BinOp.xor IntKind.u8 (a.toNat:Int) (b.toNat:Int)=((a ^^ b).toNat:Int):=by
 rw[u8_xor_nat _ _ (by cases a <;> decide) (by cases b <;> decide)]
 cases a <;> cases b <;> rfl
theorem xor_cell (a:Bool) (j:Nat) (hj:j<16) (h:j<(ByteArray.mk #[49,49,48,48,48,49,48,49,49,48,48,49,49,48,48,49]).size) :
  bits BinOp.xor IntKind.u8 (a.toNat:Int) ((((ByteArray.mk #[49,49,48,48,48,49,48,49,49,48,48,49,49,48,48,49])[j]'h).toNat-48:Int) % 256)=((a ^^ M.gbit j).toNat:Int):=by
 rw[g_at j hj h,← xor_bits]
 congr 1
 have:(M.gbit j).toNat<2:=by cases M.gbit j <;> decide
 omega
theorem V0_at (l:List Nat) (hb:∀ x ∈ l,x<2) (t:Nat) (_:t<(l++List.replicate 15 0).length):(l++List.replicate 15 0).getD t 0=(M.V l 0 t).toNat:=by
 rw[M.V_zero]
 unfold M.mb
 by_cases h:t<l.length
 ·have hx:=hb l[t] (List.getElem_mem h)
  have e1:(l++List.replicate 15 0).getD t 0=l[t]:=by simp[List.getD,List.getElem?_append_left h,h]
  have e2:l.getD t 0=l[t]:=by simp[List.getD,h]
  rw[e1,e2]
  generalize l[t]=x at *;have:x=0∨x=1:=by omega
  rcases this with rfl | rfl <;> rfl
 ·have e2:l.getD t 0=0:=by simp[List.getD,List.getElem?_eq_none (Nat.le_of_not_lt h)]
  have e1:(l++List.replicate 15 0).getD t 0=0:=by
   unfold List.getD
   rw[List.getElem?_append_right (Nat.le_of_not_lt h),List.getElem?_replicate]
   split <;> rfl
  rw[e1,e2];rfl
theorem specCrc_ok (s:ByteArray) (w:World) (hs:s.size≤maxLen) (hk:okT s 2000=true) :
  Calls Tp 53 #[.string s] w fun e w'=>e = rT (I J (crcZ s))∧Below w.heap.size w w':=by
  have hsz:=okT_size hk
  go_enter Tryz.func53,Tryz.ntmps53
  go_wp2_with (go_at_call 56;refine (okBits_any _ _ _ hs).mono ?_;rintro e w1 ⟨rfl,rfl⟩)
  have HK:Hid (okT s 2000=true):=hk
  clear hk;go_loopw [3,4] (fun v i wr=>∃ k:Nat,k≤s.size∧i = I J k∧ownsB wr w.heap.size v ((bl s).take k)∧Below w.heap.size w wr∧w.heap.size≤wr.heap.size) (fun _ i _=>s.size-(intOf i).toNat)
  case atStart=>exact⟨0,Nat.zero_le _,rfl,own_nil _ _ (Nat.le_refl _),(Below.refl _ _).alloc (Nat.le_refl _) _,by simp⟩
  case round=>
   obtain⟨k,hk,rfl,hown,hbel,hz⟩:=hrel
   by_cases hlt:k<s.size
   ·have hv:=okT_at HK.out k hlt
    have hll:((bl s).take k).length≤100000000:=by rw[List.length_take,bl_length];omega
    have HS:Hid ((bl s).take (k+1)=(bl s).take k++[s[k].toNat-48]):=bl_snoc s k hlt
    generalize (bl s).take k=l at *;rcases hv with hv|hv
    ·have HS':Hid ((bl s).take (k+1)=l++[0]):=by rw[HS.out,hv];exact rfl
     clear HS;go_wp2_with (at_builtin;refine app_byte w wr rfl (.tmp 21) (.tmp 26) rfl w.heap.size _ l 0 _ rfl rfl hown rfl hll hz hbel ?_)
     intro v' w' hown' hbel' hz';clear hown hbel hz;go_wp2
     go_roundw
     case rel=>exact⟨k+1,by omega,by go_num,by rw[HS'.out];exact hown',hbel',hz'⟩
     case measure=>simp[intOf];omega
    ·have HS':Hid ((bl s).take (k+1)=l++[1]):=by rw[HS.out,hv];exact rfl
     clear HS;go_wp2_with (at_builtin;refine app_byte w wr rfl (.tmp 21) (.tmp 26) rfl w.heap.size _ l 1 _ rfl rfl hown rfl hll hz hbel ?_)
     intro v' w' hown' hbel' hz';clear hown hbel hz;go_wp2
     go_roundw
     case rel=>exact⟨k+1,by omega,by go_num,by rw[HS'.out];exact hown',hbel',hz'⟩
     case measure=>simp[intOf];omega
   ·have hke:(bl s).take k=bl s:=List.take_of_length_le (by rw[bl_length];omega)
    rw[hke] at hown
    have hbn:=bl_length s
    clear hke;go_wp2
    have hB0:∀ x ∈ bl s,x<2:=bl_bits HK.out
    generalize hL:bl s=l at *;have HL:Hid (bl s=l):=hL
    clear hL;go_loopw [3,5] (fun v i wr=>∃ j:Nat,j≤15∧i = I J j∧ownsB wr w.heap.size v (l++List.replicate j 0)∧Below w.heap.size w wr∧w.heap.size≤wr.heap.size) (fun _ i _=>15-(intOf i).toNat)
    case atStart=>exact⟨0,Nat.zero_le _,rfl,by simpa using hown,hbel,hz⟩
    case round=>
     clear hown hbel hz;obtain⟨j,hj,rfl,hown,hbel,hz⟩:=hrel
     by_cases hlt:j<15
     ·have hll:(l++List.replicate j 0).length≤100000000:=by rw[List.length_append,List.length_replicate];omega
      have HS:Hid (l++List.replicate (j+1) 0=(l++List.replicate j 0)++[0]):=by rw[List.append_assoc,List.replicate_succ'];exact rfl
      generalize l++List.replicate j 0=l' at *;go_wp2_with (at_builtin;refine app_byte w _ rfl (.tmp 32) (.tmp 33) rfl w.heap.size _ l' 0 _ rfl rfl hown rfl hll hz hbel ?_)
      intro v' w' hown' hbel' hz';clear hown hbel hz;go_wp2
      go_roundw
      case rel=>exact⟨j+1,by omega,by go_num,by rw[HS.out];exact hown',hbel',hz'⟩
      case measure=>simp[intOf];omega
     ·have hj':j=15:=by omega
      subst hj';have hown3:∃ g cap n,u3 = sL (some ⟨g,0,none⟩) n cap∧w.heap.size≤g∧g<wr.heap.size∧n≤cap∧cap≤maxLen∧l.length+15≤n∧n≤l.length+15∧rowB wr g n (fun t=>(M.V l 0 t).toNat):=by
       obtain⟨g,cap,hv,h1,h2,h3,h4,h5⟩:=hown.open (by simp)
       exact⟨g,cap,_,hv,h1,h2,h3,h4,by simp,by simp,h5.of (V0_at l hB0)⟩
      clear hown;obtain⟨g,cap,n,rfl,hgB,hgz,hcap,hcm,hn1,hn2,hrow⟩:=hown3
      unfold maxLen at hcm
      have hbn1:l.length≤2000:=by omega
      have HBN:Hid (l.length=s.size):=hbn
      clear hbn;go_wp2
      go_loopw [7,8] (fun i _ wr=>∃ k:Nat,k≤l.length∧i = I J k∧rowB wr g n (fun t=>(M.V l k t).toNat)∧Below w.heap.size w wr∧g<wr.heap.size) (fun i _ _=>l.length-(intOf i).toNat)
      case atStart=>exact⟨0,Nat.zero_le _,rfl,hrow,hbel,hgz⟩
      case round=>
       clear hrow hbel hgz hz;obtain⟨i,hi,rfl,hrow,hbel,hgz⟩:=hrel
       by_cases hil:i<l.length
       ·have hc:=hrow.cell i (by omega)
        have HST:Hid (∀ j,M.V l (i+1) j=(M.V l i j ^^ (M.V l i i && (decide (i≤j∧j<i+16) && M.gbit (j-i))))):=fun j=>M.V_step l i j hB0 hil
        cases hb:M.V l i i
        ·simp only[hb,Bool.toNat_false] at hc
         have HB:Hid (M.V l i i=false):=hb
         clear hb;go_wp2
         go_roundw
         case rel=>exact⟨i+1,by omega,by go_num,hrow.of (fun t _=>by rw[HST.out t,HB.out];simp),hbel,hgz⟩
         case measure=>simp[intOf];omega
        ·simp only[hb,Bool.toNat_true] at hc
         have HB:Hid (M.V l i i=true):=hb
         clear hb;go_wp2
         go_loopw [8] (fun jj wr=>∃ j:Nat,j≤16∧jj = I J j∧rowB wr g n (fun t=>(M.V l i t ^^ (decide (i≤t∧t<i+j) && M.gbit (t-i))).toNat)∧Below w.heap.size w wr∧g<wr.heap.size) (fun jj _=>16-(intOf jj).toNat)
         case atStart=>exact⟨0,Nat.zero_le _,rfl,hrow.of (fun t _=>by rw[show decide (i≤t∧t<i+0)=false from decide_eq_false (by omega)];simp),hbel,hgz⟩
         case round=>
          clear hrow hbel hgz hc;obtain⟨j,hj,rfl,hrow,hbel,hgz⟩:=hrel
          by_cases hjl:j<16
          ·have hc:=hrow.cell (i+j) (by omega)
           have hf:=hrow.free (i+j) (by omega)
           go_wp2
           go_region
           go_wp2
           refine⟨⟨j+1,by omega,by go_num,hrow.set (i+j) (by omega) _ ?_ ?_,(hbel.setCell (by exact hgB) _).drew,by simpa using hgz⟩,by simp[intOf];omega⟩
           ·rw[xor_cell _ j hjl,show decide (i≤i+j∧i+j<i+(j+1))=true from decide_eq_true (by omega),show i+j-i=j from by omega]
            simp
           ·intro t ht hne;have e:decide (i≤t∧t<i+j)=decide (i≤t∧t<i+(j+1)):=by
             rw[Bool.eq_iff_iff];simp;omega
            simp only[e]
          ·have hj16:j=16:=by omega
           subst hj16;have hrow':rowB wr g n (fun t=>(M.V l (i+1) t).toNat):=hrow.of (fun t _=>by rw[HST.out t,HB.out];simp)
           clear hrow;go_wp2
           go_roundw
           case rel=>exact⟨i+1,by omega,by go_num,hrow',hbel,hgz⟩
           case measure=>simp[intOf];omega
       ·have hil':i=l.length:=by omega
        subst hil';have hr:=M.crcN_lt l
        have HV:Hid (∀ k,k<15→M.V l l.length (l.length+k)=(M.crcN l).testBit (14-k)):=M.V_end l
        have HZ:Hid (crcZ s=(M.crcN (bl s):Nat)):=by simp[crcZ,HK.out,Hid]
        go_wp2
        go_loopw [9,10] (fun c i wr=>∃ q:Nat,q≤15∧i = I J ((l.length+q:Nat):Int)∧c = I J ((M.topv (M.crcN l) q:Nat):Int)∧rowB wr g n (fun t=>(M.V l l.length t).toNat)∧Below w.heap.size w wr∧g<wr.heap.size) (fun _ i _=>l.length+15-(intOf i).toNat)
        case atStart=>exact⟨0,by omega,by go_num,by rw[M.topv_zero _ hr];rfl,hrow,hbel,hgz⟩
        case round=>
         clear hrow hbel hgz;obtain⟨q,hq,rfl,rfl,hrow,hbel,hgz⟩:=hrel
         have htp:=M.topv_le (M.crcN l) q hr
         by_cases hql:q<15
         ·have hc:=hrow.cell (l.length+q) (by omega)
          rw[HV.out q hql] at hc
          have HT:Hid (M.topv (M.crcN l) (q+1)=2*M.topv (M.crcN l) q+((M.crcN l).testBit (14-q)).toNat):=M.topv_succ _ q hql
          have hbb:((M.crcN l).testBit (14-q)).toNat<2:=by cases (M.crcN l).testBit (14-q) <;> decide
          generalize ((M.crcN l).testBit (14-q)).toNat=y at *;generalize hx:M.topv (M.crcN l) q=x at *;clear hx;go_wp2
          go_roundw
          case rel=>exact⟨q+1,by omega,by go_num,by rw[HT.out];go_num,hrow,hbel,hgz⟩
          case measure=>simp[intOf];omega
         ·have hq':q=15:=by omega
          subst hq';rw[M.topv_end] at htp ⊢
          go_wp2
          go_ret;exact⟨ret_int (by rw[HZ.out,HL.out]),hbel⟩
theorem specCrc_any (s:ByteArray) (w:World) (hs:s.size≤maxLen) :
  Calls Tp 53 #[.string s] w fun e w'=>e = rT (I J (crcZ s))∧Below w.heap.size w w':=by
 by_cases hk:okT s 2000=true
 ·exact specCrc_ok s w hs hk
 ·have hk':okT s 2000=false:=by simpa using hk
  have HZ:Hid (crcZ s = -1):=by simp[crcZ,hk',Hid]
  clear hk;go_enter Tryz.func53,Tryz.ntmps53
  go_wp2_with (go_at_call 56;refine (okBits_any _ _ _ hs).mono ?_;rintro e w1 ⟨rfl,rfl⟩)
  go_ret;exact⟨ret_int HZ.out.symm,Below.refl _ _⟩
def dueF (f:Nat→Nat) (i:Nat):Bool:=
 decide (5≤i) && (f (i-1) == f (i-2) && f (i-2) == f (i-3) && f (i-3) == f (i-4) && f (i-4) == f (i-5))
theorem due_any (w:World) (g n cap i:Nat) (f:Nat→Nat) (hrow:rowB w g n f) (hi:i≤n) (hn:n≤100000000) :
  Calls Tp 58 #[sL (some ⟨g,0,none⟩) n cap,I J i] w fun e w'=>e = rT (bO (dueF f i))∧∃ q,w'=w.drewN q:=by
 by_cases h5:i<5
 ·have HD:Hid (dueF f i=false):=by simp[dueF,Hid];omega
  go_enter Tryz.func58,Tryz.ntmps58
  go_wp2
  go_ret;exact⟨ret_bool HD.out.symm,0,rfl⟩
 ·obtain⟨k,rfl⟩ : ∃ k,i=k+5:=⟨i-5,by omega⟩
  have c1:=hrow.cell (k+4) (by omega)
  have c2:=hrow.cell (k+3) (by omega)
  have c3:=hrow.cell (k+2) (by omega)
  have c4:=hrow.cell (k+1) (by omega)
  have c5:=hrow.cell k (by omega)
  have HD:Hid (dueF f (k+5)=(f (k+4) == f (k+3) && f (k+3) == f (k+2) && f (k+2) == f (k+1) && f (k+1) == f k)):=by
   simp[dueF,Hid]
  generalize f (k+4)=x1 at *;generalize f (k+3)=x2 at *;generalize f (k+2)=x3 at *;generalize f (k+1)=x4 at *;generalize f k=x5 at *;clear hrow;by_cases e1:x1=x2
  ·have b1:((x1:Int) == (x2:Int))=true:=by simp;omega
   have E1:Hid (x1=x2):=e1
   clear e1;by_cases e2:x2=x3
   ·have b2:((x2:Int) == (x3:Int))=true:=by simp;omega
    have E2:Hid (x2=x3):=e2
    clear e2;by_cases e3:x3=x4
    ·have b3:((x3:Int) == (x4:Int))=true:=by simp;omega
     have E3:Hid (x3=x4):=e3
     clear e3;by_cases e4:x4=x5
     ·have b4:((x4:Int) == (x5:Int))=true:=by simp;omega
      have E4:Hid (x4=x5):=e4
      clear e4;go_enter Tryz.func58,Tryz.ntmps58
      go_wp2
      go_quiet (fail)
      go_wp2
      go_ret;exact⟨ret_bool (by rw[HD.out];simp[E1.out,E2.out,E3.out,E4.out]),_,rfl⟩
     ·have b4:((x4:Int) == (x5:Int))=false:=by simp;omega
      have E4:Hid (¬ x4=x5):=e4
      clear e4;go_enter Tryz.func58,Tryz.ntmps58
      go_wp2
      go_quiet (fail)
      go_wp2
      go_ret;exact⟨ret_bool (by rw[HD.out];simp[E4.out]),_,rfl⟩
    ·have b3:((x3:Int) == (x4:Int))=false:=by simp;omega
     have E3:Hid (¬ x3=x4):=e3
     clear e3;go_enter Tryz.func58,Tryz.ntmps58
     go_wp2
     go_quiet (fail)
     go_wp2
     go_ret;exact⟨ret_bool (by rw[HD.out];simp[E3.out]),_,rfl⟩
   ·have b2:((x2:Int) == (x3:Int))=false:=by simp;omega
    have E2:Hid (¬ x2=x3):=e2
    clear e2;go_enter Tryz.func58,Tryz.ntmps58
    go_wp2
    go_quiet (fail)
    go_wp2
    go_ret;exact⟨ret_bool (by rw[HD.out];simp[E2.out]),_,rfl⟩
  ·have b1:((x1:Int) == (x2:Int))=false:=by simp;omega
   have E1:Hid (¬ x1=x2):=e1
   clear e1;go_enter Tryz.func58,Tryz.ntmps58
   go_wp2
   go_quiet (fail)
   go_wp2
   go_ret;exact⟨ret_bool (by rw[HD.out];simp[E1.out]),_,rfl⟩
namespace M
def hear (r:Nat × Nat) (c:Nat):Nat × Nat:=if c=r.1 then (r.1,r.2+1) else (c,1)
end M
namespace M
def trail (l:List Nat):Nat × Nat:=l.foldl hear (0,0)
end M
namespace M
def stStep (out:List Nat) (c:Nat):List Nat:=if (trail (out++[c])).2=5 then out++[c]++[97-c] else out++[c]
end M
namespace M
def stuffL (l:List Nat):List Nat:=l.foldl stStep []
end M
namespace M
theorem trail_snoc (l:List Nat) (c:Nat):trail (l++[c])=hear (trail l) c:=by simp[trail]
end M
namespace M
theorem stuffL_snoc (l:List Nat) (c:Nat):stuffL (l++[c])=stStep (stuffL l) c:=by simp[stuffL]
end M
namespace M
theorem hear_fst (r:Nat × Nat) (c:Nat):(hear r c).1=c:=by
 unfold hear;split
 ·rename_i h;exact h.symm
 ·rfl
end M
namespace M
theorem hear_pos (r:Nat × Nat) (c:Nat):1≤(hear r c).2:=by
 unfold hear;split
 ·exact Nat.succ_le_succ (Nat.zero_le _)
 ·exact Nat.le_refl _
end M
namespace M
theorem hear_le (r:Nat × Nat) (c:Nat):(hear r c).2≤r.2+1:=by
 unfold hear;split
 ·exact Nat.le_refl _
 ·exact Nat.succ_le_succ (Nat.zero_le _)
end M
namespace M
theorem snoc_cases {α:Type} (l:List α) (h:l≠[]):∃ l' a,l=l'++[a]:=by
 rcases List.eq_nil_or_concat l with e|⟨a,b,e⟩
 ·exact absurd e h
 ·exact⟨a,b,by rw[e,List.concat_eq_append]⟩
end M
namespace M
theorem snoc_ind {α:Type} {P:List α→Prop} (h0:P []) (h1:∀ l a,P l→P (l++[a])) (l:List α):P l:=by
 have:∀ n,∀ l:List α,l.length=n→P l:=by
  intro n;induction n with
  | zero=>intro l hl;rw[List.length_eq_zero_iff.1 hl];exact h0
  | succ n ih=>
   intro l hl;obtain⟨l',a,rfl⟩:=snoc_cases l (by intro e;simp[e] at hl)
   exact h1 l' a (ih l' (by simpa using hl))
 exact this _ l rfl
end M
namespace M
theorem trail_le (l:List Nat):(trail l).2≤l.length:=by
 induction l using snoc_ind with
 | h0=>exact Nat.le_refl _
 | h1 l a ih=>rw[trail_snoc,List.length_append];exact Nat.le_trans (hear_le _ _) (by simpa using ih)
end M
namespace M
theorem hear_same (a m:Nat):hear (a,m) a=(a,m+1):=by simp[hear]
end M
namespace M
theorem hear_other (a m b:Nat) (h:¬ b=a):hear (a,m) b=(b,1):=by simp[hear,h]
end M
namespace M
theorem trail5 (l:List Nat) (a b c d e:Nat):(5≤(trail (l++[a]++[b]++[c]++[d]++[e])).2)↔(e=d∧d=c∧c=b∧b=a):=by
 simp only[trail_snoc]
 have h1:=hear_fst (trail l) a
 have h2:=hear_pos (trail l) a
 generalize hear (trail l) a=r at *;obtain⟨x,m⟩:=r
 simp only at h1 h2
 subst h1;by_cases hb:b=x
 ·subst hb;rw[hear_same]
  by_cases hc:c=b
  ·subst hc;rw[hear_same]
   by_cases hd:d=c
   ·subst hd;rw[hear_same]
    by_cases he:e=d
    ·subst he;rw[hear_same]
     simp;omega
    ·rw[hear_other _ _ _ he];simp[he]
   ·rw[hear_other _ _ _ hd]
    have:=hear_le (d,1) e
    simp[hd];simp at this;omega
  ·rw[hear_other _ _ _ hc]
   have h3:=hear_le (c,1) d
   have h4:=hear_le (hear (c,1) d) e
   simp[hc];simp at h3;omega
 ·rw[hear_other _ _ _ hb]
  have h2:=hear_le (b,1) c
  have h3:=hear_le (hear (b,1) c) d
  have h4:=hear_le (hear (hear (b,1) c) d) e
  simp[hb];simp at h2;omega
end M
namespace M
theorem isL_opp {c:Nat} (h:isL c):isL (97-c)∧¬ 97-c=c:=by
 rcases h with rfl|rfl
 ·exact⟨.inr rfl,by decide⟩
 ·exact⟨.inl rfl,by decide⟩
end M
namespace M
theorem stuff_all (l:List Nat) (h:∀ x ∈ l,isL x):∀ x ∈ stuffL l,isL x:=by
 induction l using snoc_ind with
 | h0=>intro x hx;simp[stuffL] at hx
 | h1 l a ih=>
  have ha:isL a:=h a (by simp)
  have hl:=ih (fun x hx=>h x (by simp[hx]))
  rw[stuffL_snoc]
  intro x hx;unfold stStep at hx
  split at hx
  ·simp at hx
   rcases hx with hx|rfl|rfl
   ·exact hl x hx
   ·exact ha
   ·exact (isL_opp ha).1
  ·simp at hx
   rcases hx with hx|rfl
   ·exact hl x hx
   ·exact ha
end M
namespace M
theorem stuff_run (l:List Nat) (h:∀ x ∈ l,isL x):(trail (stuffL l)).2≤4:=by
 induction l using snoc_ind with
 | h0=>decide
 | h1 l a ih=>
  have ha:isL a:=h a (by simp)
  have hl:=ih (fun x hx=>h x (by simp[hx]))
  rw[stuffL_snoc]
  unfold stStep
  rw[trail_snoc]
  have h1:=hear_le (trail (stuffL l)) a
  split
  ·rename_i h5
   rw[trail_snoc,trail_snoc]
   have hf:=hear_fst (trail (stuffL l)) a
   generalize hear (trail (stuffL l)) a=r at *;obtain⟨x,m⟩:=r
   simp only at hf
   subst hf;rw[hear_other _ _ _ (isL_opp ha).2]
   exact (by decide:1≤4)
  ·rw[trail_snoc];omega
end M
namespace M
theorem stuff_len (l:List Nat):(stuffL l).length≤2*l.length:=by
 induction l using snoc_ind with
 | h0=>decide
 | h1 l a ih=>
  rw[stuffL_snoc];unfold stStep
  split <;> simp <;> omega
end M
def lt (s:ByteArray):List Nat:=s.data.toList.map UInt8.toNat
theorem lt_length (s:ByteArray):(lt s).length=s.size:=by simp[lt]
theorem lt_snoc (s:ByteArray) (k:Nat) (h:k<s.size):(lt s).take (k+1)=(lt s).take k++[s[k].toNat]:=by
 unfold lt;rw[← List.map_take,take_snocV s k h];simp[List.map_take]
theorem lt_isL {s:ByteArray} {m:Int} (h:okT s m=true):∀ x ∈ lt s,M.isL x:=by
 intro x hx;unfold okT at h;rw[Bool.and_eq_true] at h
 unfold lt at hx
 rw[List.mem_map] at hx
 obtain⟨c,hc,rfl⟩:=hx
 exact okC_val (List.all_eq_true.1 h.2 c hc)
theorem getD_snoc_lt (l:List Nat) (a j:Nat) (h:j<l.length):(l++[a]).getD j 0=l.getD j 0:=by simp[List.getD,List.getElem?_append_left h]
theorem getD_snoc_eq (l:List Nat) (a j:Nat) (h:j=l.length):(l++[a]).getD j 0=a:=by subst h;simp[List.getD]
theorem due_trail (l:List Nat):dueF (fun t=>l.getD t 0) l.length=decide (5≤(M.trail l).2):=by
 by_cases h5:5≤l.length
 ·have ne:∀ l:List Nat,1≤l.length→l≠[]:=by intro l h e;simp[e] at h
  obtain⟨l1,e,rfl⟩:=M.snoc_cases l (ne _ (by omega))
  simp only[List.length_append,List.length_singleton] at h5
  obtain⟨l2,d,rfl⟩:=M.snoc_cases l1 (ne _ (by omega))
  simp only[List.length_append,List.length_singleton] at h5
  obtain⟨l3,c,rfl⟩:=M.snoc_cases l2 (ne _ (by omega))
  simp only[List.length_append,List.length_singleton] at h5
  obtain⟨l4,b,rfl⟩:=M.snoc_cases l3 (ne _ (by omega))
  simp only[List.length_append,List.length_singleton] at h5
  obtain⟨l5,a,rfl⟩:=M.snoc_cases l4 (ne _ (by omega))
  rw[Bool.eq_iff_iff,decide_eq_true_iff,M.trail5]
  simp only[dueF,List.length_append,List.length_singleton]
  have g1:(l5++[a]++[b]++[c]++[d]++[e]).getD (l5.length+1+1+1+1+1-1) 0=e:=getD_snoc_eq _ _ _ (by simp)
  have g2:(l5++[a]++[b]++[c]++[d]++[e]).getD (l5.length+1+1+1+1+1-2) 0=d:=by
   rw[getD_snoc_lt _ _ _ (by simp)];exact getD_snoc_eq _ _ _ (by simp)
  have g3:(l5++[a]++[b]++[c]++[d]++[e]).getD (l5.length+1+1+1+1+1-3) 0=c:=by
   rw[getD_snoc_lt _ _ _ (by simp),getD_snoc_lt _ _ _ (by simp)];exact getD_snoc_eq _ _ _ (by simp)
  have g4:(l5++[a]++[b]++[c]++[d]++[e]).getD (l5.length+1+1+1+1+1-4) 0=b:=by
   rw[getD_snoc_lt _ _ _ (by simp),getD_snoc_lt _ _ _ (by simp),getD_snoc_lt _ _ _ (by simp)];exact getD_snoc_eq _ _ _ (by simp)
  have g5:(l5++[a]++[b]++[c]++[d]++[e]).getD (l5.length+1+1+1+1+1-5) 0=a:=by
   rw[getD_snoc_lt _ _ _ (by simp),getD_snoc_lt _ _ _ (by simp),getD_snoc_lt _ _ _ (by simp),getD_snoc_lt _ _ _ (by simp)];exact getD_snoc_eq _ _ _ (by simp)
  rw[g1,g2,g3,g4,g5]
  simp[and_assoc]
 ·have:=M.trail_le l
  rw[Bool.eq_iff_iff,decide_eq_true_iff]
  simp[dueF];omega
theorem other_any (c:Nat) (w:World) (h:M.isL c) :
  Calls Tp 103 #[I .u8 c] w fun e w'=>e = rT (I .u8 ((97-c:Nat):Int))∧w=w':=by
 rcases h with rfl|rfl
 ·go_enter Tryz.func103,Tryz.ntmps103
  go_wp2
  go_ret;exact⟨rfl,rfl⟩
 ·go_enter Tryz.func103,Tryz.ntmps103
  go_wp2
  go_ret;exact⟨rfl,rfl⟩
def stuffZ (s:ByteArray):ByteArray:=if okT s 2000=true then strN (M.stuffL (lt s)) else ⟨#[]⟩
theorem stStep_due {l:List Nat} {c:Nat} (hr:(M.trail l).2≤4):decide (5≤(M.trail (l++[c])).2)=decide ((M.trail (l++[c])).2=5):=by
 have:=M.hear_le (M.trail l) c
 rw[M.trail_snoc]
 rw[Bool.eq_iff_iff];simp;omega
theorem specStuff_ok (s:ByteArray) (w:World) (hs:s.size≤maxLen) (hk:okT s 2000=true) :
  Calls Tp 51 #[.string s] w fun e w'=>e = rT (.string (stuffZ s))∧Below w.heap.size w w':=by
  have hsz:=okT_size hk
  go_enter Tryz.func51,Tryz.ntmps51
  go_wp2_with (go_at_call 56;refine (okBits_any _ _ _ hs).mono ?_;rintro e w1 ⟨rfl,rfl⟩)
  have HK:Hid (okT s 2000=true):=hk
  clear hk;go_loopw [3,4] (fun v i wr=>∃ k:Nat,k≤s.size∧i = I J k∧ownsB wr w.heap.size v (M.stuffL ((lt s).take k))∧Below w.heap.size w wr∧w.heap.size≤wr.heap.size) (fun _ i _=>s.size-(intOf i).toNat)
  case atStart=>exact⟨0,Nat.zero_le _,rfl,own_nil _ _ (Nat.le_refl _),(Below.refl _ _).alloc (Nat.le_refl _) _,by simp⟩
  case round=>
   obtain⟨k,hk,rfl,hown,hbel,hz⟩:=hrel
   by_cases hlt:k<s.size
   ·have hv:M.isL s[k].toNat:=okT_at HK.out k hlt
    have hL:∀ x ∈ (lt s).take k,M.isL x:=fun x hx=>lt_isL HK.out x (List.mem_of_mem_take hx)
    have hrun:=M.stuff_run _ hL
    have hll:(M.stuffL ((lt s).take k)).length≤4000:=by
     have:=M.stuff_len ((lt s).take k)
     rw[List.length_take,lt_length] at this
     omega
    have HS:Hid (M.stuffL ((lt s).take (k+1))=M.stStep (M.stuffL ((lt s).take k)) s[k].toNat):=by rw[lt_snoc s k hlt,M.stuffL_snoc];exact rfl
    clear hL;generalize M.stuffL ((lt s).take k)=l at *;go_wp2_with (at_builtin;refine app_byte w wr rfl (.tmp 15) (.tmp 19) rfl w.heap.size _ l s[k].toNat _ rfl rfl hown rfl (by omega) hz hbel ?_)
    intro v1 w1 hown1 hbel1 hz1;clear hown hbel hz;obtain⟨g,cap,hv1,hgB,hgz,hcap,hcm,hrow⟩:=hown1.open (by simp)
    subst hv1;have hdt:=due_trail (l++[s[k].toNat])
    rw[stStep_due hrun] at hdt
    have hle:(l++[s[k].toNat]).length≤4001:=by simp;omega
    unfold M.stStep at HS
    generalize hl1:l++[s[k].toNat]=l1 at *;have HD:Hid (dueF (fun t=>l1.getD t 0) l1.length=decide ((M.trail l1).2=5)):=hdt
    clear hdt hl1;by_cases h5:(M.trail l1).2=5
    ·rw[if_pos h5] at HS
     have HD':Hid (dueF (fun t=>l1.getD t 0) l1.length=true):=by rw[HD.out,h5];exact rfl
     clear HD h5 hrun;go_wp2_with (go_at_call 58;refine (due_any _ g l1.length cap l1.length _ hrow (Nat.le_refl _) (by omega)).mono ?_;rw[HD'.out];rintro e w2 ⟨rfl,q,rfl⟩)
     have hown2:=hown1.drewN q
     have hbel2:=below_drewN hbel1 q
     have hz2:w.heap.size≤(w1.drewN q).heap.size:=by simpa using hz1
     refine (other_any _ _ hv).mono ?_
     rintro e w2 ⟨rfl,rfl⟩;clear hown1 hbel1 hz1 hrow;go_wp2_with (at_builtin;refine app_byte w (w1.drewN q) rfl (.tmp 25) (.tmp 30) rfl w.heap.size _ l1 (97-s[k].toNat) _ rfl rfl hown2 rfl (by omega) hz2 hbel2 ?_)
     intro v3 w3 hown3 hbel3 hz3;clear hown2 hbel2 hz2;go_wp2
     go_roundw
     case rel=>exact⟨k+1,by omega,by go_num,by rw[HS.out];exact hown3,hbel3,hz3⟩
     case measure=>simp[intOf];omega
    ·rw[if_neg h5] at HS
     have HD':Hid (dueF (fun t=>l1.getD t 0) l1.length=false):=by rw[HD.out];exact decide_eq_false h5
     clear HD h5 hrun;go_wp2_with (go_at_call 58;refine (due_any _ g l1.length cap l1.length _ hrow (Nat.le_refl _) (by omega)).mono ?_;rw[HD'.out];rintro e w2 ⟨rfl,q,rfl⟩)
     go_roundw
     case rel=>exact⟨k+1,by omega,by go_num,by rw[HS.out];exact hown1.drewN q,below_drewN hbel1 q,by simpa using hz1⟩
     case measure=>simp[intOf];omega
   ·have hke:(lt s).take k=lt s:=List.take_of_length_le (by rw[lt_length];omega)
    rw[hke] at hown
    have hcv:=conv_own hown (isL_lt (M.stuff_all _ (lt_isL HK.out)))
    have HZ:Hid (stuffZ s=strN (M.stuffL (lt s))):=by simp[stuffZ,HK.out,Hid]
    generalize M.stuffL (lt s)=l at *;clear hke;go_wp2
    go_ret;exact⟨ret_str HZ.out.symm,hbel⟩
theorem specStuff_any (s:ByteArray) (w:World) (hs:s.size≤maxLen) :
  Calls Tp 51 #[.string s] w fun e w'=>e = rT (.string (stuffZ s))∧Below w.heap.size w w':=by
 by_cases hk:okT s 2000=true
 ·exact specStuff_ok s w hs hk
 ·have hk':okT s 2000=false:=by simpa using hk
  have HZ:Hid (stuffZ s=⟨#[]⟩):=by simp[stuffZ,hk',Hid]
  clear hk;go_enter Tryz.func51,Tryz.ntmps51
  go_wp2_with (go_at_call 56;refine (okBits_any _ _ _ hs).mono ?_;rintro e w1 ⟨rfl,rfl⟩)
  go_ret;exact⟨ret_str HZ.out.symm,Below.refl _ _⟩
theorem runAt.c0 {w:World} {b:Nat} {r:Nat × Nat} (h:runAt w b r):w.cell? ⟨b,0,none⟩=some (I .i32 (r.1:Int)):=by unfold runAt at h;simp[World.cell?,h]
theorem runAt.c1 {w:World} {b:Nat} {r:Nat × Nat} (h:runAt w b r):w.cell? ⟨b,1,none⟩=some (I J (r.2:Int)):=by unfold runAt at h;simp[World.cell?,h]
theorem runAt.f0 {w:World} {b:Nat} {r:Nat × Nat} (h:runAt w b r) (i:Nat):w.frozen? ⟨b,i,none⟩=false:=by unfold runAt at h;simp[World.frozen?,h]
theorem gb_refl (w:World) (b:Option Nat):w.grownBy w b:=⟨rfl,rfl,rfl,Nat.le_refl _,fun _ _ _=>rfl⟩
theorem gb_set {w w1:World} {b:Nat} (h:w.grownBy w1 (some b)) (i:Nat) (v:Value):w.grownBy (w1.setCell ⟨b,i,none⟩ v) (some b):=
 ⟨h.os,h.tape,h.output,by simpa using h.size,fun k hk hne=>(heap_setCell_other w1 ⟨b,i,none⟩ k v (fun e=>hne (by simp[e]))).trans (h.block k hk hne)⟩
theorem full_any (w:World) (b:Nat) (r:Nat × Nat) (h:runAt w b r) :
  Calls Tp 175 #[pT (some ⟨b,0,none⟩)] w fun e w'=>e = rT (bO (decide (r.2=5)))∧w=w':=by
 have c1:=h.c1
 have hb:((r.2:Int) == 5)=decide (r.2=5):=by rw[Bool.eq_iff_iff];simp;omega
 go_enter Tryz.func175,Tryz.ntmps175
 go_wp2
 go_ret;exact⟨rfl,rfl⟩
theorem hear_any (w:World) (b:Nat) (r:Nat × Nat) (c:Nat) (h:runAt w b r) (hr:r.2≤100000) :
  Calls Tp 174 #[pT (some ⟨b,0,none⟩),I .i32 c] w fun e w'=>e = rT (.tuple #[])∧runAt w' b (M.hear r c)∧w.grownBy w' (some b):=by
 have c0:=h.c0
 have c1:=h.c1
 have f0:=h.f0 0
 have f1:=h.f0 1
 by_cases hc:c=r.1
 ·have hb:((c:Int) != (r.1:Int))=false:=by simp;omega
  go_enter Tryz.func174,Tryz.ntmps174
  go_wp2
  go_end0
  refine⟨rfl,?_,gb_set (gb_refl _ _) _ _⟩
  have h1:=heap_setCell_same w b 1 _ _ (Value.int IntKind.i64 ((r.2:Int)+1)) h
  unfold runAt
  rw[h1,M.hear,if_pos hc]
  simp
 ·have hb:((c:Int) != (r.1:Int))=true:=by simp;omega
  go_enter Tryz.func174,Tryz.ntmps174
  go_wp2
  go_end0
  refine⟨rfl,?_,gb_set (gb_set (gb_set (gb_refl _ _) _ _) _ _) _ _⟩
  have h1:=heap_setCell_same w b 0 _ _ (Value.int IntKind.i32 (c:Int)) h
  have h2:=heap_setCell_same _ b 1 _ _ (Value.int IntKind.i64 0) h1
  have h3:=heap_setCell_same _ b 1 _ _ (Value.int IntKind.i64 1) h2
  unfold runAt
  rw[h3,M.hear,if_neg hc]
  simp
theorem opp_any (c:Nat) (w:World) (h:M.isL c) :
  Calls Tp 176 #[I .i32 c] w fun e w'=>e = rT (I .i32 ((97-c:Nat):Int))∧w=w':=by
 rcases h with rfl|rfl
 ·go_enter Tryz.func176,Tryz.ntmps176
  go_wp2
  go_ret;exact⟨rfl,rfl⟩
 ·go_enter Tryz.func176,Tryz.ntmps176
  go_wp2
  go_ret;exact⟨rfl,rfl⟩
theorem stI.ne {w0:World} {B b1 b2:Nat} {s:ByteArray} {k:Nat} {v:Value} {l:List Nat} {r:Nat × Nat} {w:World} (h:stI w0 B b1 b2 s k v l r w):b1≠b2:=by
 intro e;have h1:=h.run
 have h2:=h.it
 rw[← e,h1] at h2
 cases h2
theorem ownsB.otherBlock {w w':World} {B:Nat} {v:Value} {l:List Nat} (h:ownsB w B v l) (hk:∀ g,v.ownBlock=some g→w'.heap[g]?=w.heap[g]?):ownsB w' B v l:=by
 obtain⟨h1,h2|⟨g,cap,cur,rfl,hb,hh,rest⟩⟩:=h
 ·exact⟨h1,.inl h2⟩
 ·exact⟨h1,.inr ⟨g,cap,cur,rfl,hb,(hk g rfl).trans hh,rest⟩⟩
theorem stI.next {w0:World} {B b1 b2:Nat} {s:ByteArray} {k:Nat} {v:Value} {l:List Nat} {r:Nat × Nat} {w:World} (h:stI w0 B b1 b2 s k v l r w) (k':Nat):stI w0 B b1 b2 s k' v l r (w.iterAt b2 s k'):=by
 refine⟨h.own.otherBlock (fun g hg=>?_),(Lib.iterAt_other w b2 b1 s k' h.ne).trans h.run,Lib.iterAt_heap w b2 s k k' h.it,Lib.below_iterAt h.bel h.B2 s k',h.B1,h.B2⟩
 obtain⟨c,fz,hc⟩:=h.own.kind g hg
 refine Lib.iterAt_other w b2 g s k' (fun e=>?_)
 rw[e,h.it] at hc
 cases hc
theorem stI.hear {w0:World} {B b1 b2:Nat} {s:ByteArray} {k:Nat} {v:Value} {l:List Nat} {r r':Nat × Nat} {w w':World} (h:stI w0 B b1 b2 s k v l r w) (hr:runAt w' b1 r') (hg:w.grownBy w' (some b1)):stI w0 B b1 b2 s k v l r' w':=by
 refine⟨h.own.otherBlock (fun g hgv=>?_),hr,?_,h.bel.grown hg h.size (fun k e=>by cases e;exact h.B1),h.B1,h.B2⟩
 ·obtain⟨c,fz,hc⟩:=h.own.kind g hgv
  refine hg.block g (lt_of_block hc) (fun e=>?_)
  cases e
  rw[h.run] at hc
  cases hc
 ·rw[hg.block b2 (lt_of_block h.it) (fun e=>h.ne (by cases e;rfl))]
  exact h.it
theorem stI.app {w0:World} {B b1 b2:Nat} {s:ByteArray} {k:Nat} {v v':Value} {l l':List Nat} {r:Nat × Nat} {w w':World} (h:stI w0 B b1 b2 s k v l r w) (ho:ownsB w' B v' l') (hb:Below B w0 w') (hk:Lib.OthersKept 5 none w w'):stI w0 B b1 b2 s k v' l' r w':=
 ⟨ho,hk _ _ h.run (by simp) (by intro c fz e;cases e),hk _ _ h.it (by simp) (by intro c fz e;cases e),hb,h.B1,h.B2⟩
theorem make_bytes {ops:Array Oper} {rest:List Oper} {o:Oper} {a:Act} {Q:Exit→Act→World→Prop} (w:World)
  (hg:o.guard=none) (l c:Operand) (hop:o.op=Op.makeSlice 65 l c) (B:Nat) (C:Int) (n:Nat) (hl:a.eval l = I J 0) (hc:a.eval c = I J C) (hC:C=(n:Int)) (hn:n≤100000000) (hB:B≤w.heap.size)
  (hK:∀ w',ownsB w' B (sL (some ⟨w.heap.size,0,none⟩) 0 n) []→w.grownBy w' none→wpList Tp ops Q rest (a.put o.dst (sL (some ⟨w.heap.size,0,none⟩) 0 n)) w') :
  wpList Tp ops Q (o :: rest) a w:=by
 obtain⟨i0,hi,hz0,hz1,hz2⟩:=info_parts Tryz.info5
 exact wpList_make_own w hg l c 65 hop B 5 i0 (I .u8 0) 1 Tryz.underlying65 hi hz0 hz1 .i64 .i64 C n hl hc hC (by rw[hz2];omega) (by unfold maxLen;omega) hB hK
theorem stuff_ok (s:ByteArray) (w:World) (hk:okT s 2000=true) :
  Calls Tp 134 #[.string s] w fun e w'=>e = rT (.string (stuffZ s))∧Below w.heap.size w w':=by
  have hsz:=okT_size hk
  go_enter Tryz.func134,Tryz.ntmps134
  go_wp2_with (first | (go_at_call 172;refine (isBitText_any _ _ _).mono ?_;rintro e w1 ⟨rfl,hb1⟩) | (at_make;refine make_bytes _ rfl (.const (I J 0)) (.tmp 16) rfl w.heap.size _ (s.size+s.size / 4+1) rfl rfl (by omega) (by omega) hb1.size ?_;intro w2 hown2 hg2))
  have HK:Hid (okT s 2000=true):=hk
  clear hk;have hB2:=Nat.le_trans hb1.size hg2.size
  have st0:stI w w.heap.size w2.heap.size (w2.heap.size+1) s 0 (sL (some ⟨w1.heap.size,0,none⟩) 0 (s.size+s.size / 4+1)) [] (0,0) ((w2.alloc (.cells #[I .i32 0,I J 0] 205)).iter s 0):=by
   refine⟨World.ownsRow.alloc (World.ownsRow.alloc hown2 _) _,?_,?_,((hb1.grown hg2 hb1.size (by intro k e;cases e)).alloc hB2 _).alloc (by simp;omega) _,hB2,by omega⟩
   ·unfold runAt World.iter
    rw[Below.heap_alloc _ _ _ (by simp)]
    exact heap_alloc_new w2 _
   ·have:=World.iter_heap (w2.alloc (.cells #[I .i32 0,I J 0] 205)) s 0
    simpa using this
  clear hown2 hg2;generalize hb2:w2.heap.size=b1 at *;clear hb2;go_loopw [3,6] (fun v _ wr=>∃ k:Nat,k≤s.size∧stI w w.heap.size b1 (b1+1) s k v (M.stuffL ((lt s).take k)) (M.trail (M.stuffL ((lt s).take k))) wr) (fun _ _ wr=>s.size-wr.iterPos (b1+1))
  case atStart=>exact⟨0,Nat.zero_le _,st0⟩
  case round=>
   clear st0;obtain⟨k,hk,st⟩:=hrel
   by_cases hlt:k<s.size
   ·have hv:M.isL s[k].toNat:=okT_at HK.out k hlt
    have hv256:(s[k].toNat:Int)<256:=by rcases hv with h | h <;> omega
    have hL:∀ x ∈ (lt s).take k,M.isL x:=fun x hx=>lt_isL HK.out x (List.mem_of_mem_take hx)
    have hrun:=M.stuff_run _ hL
    have hll:(M.stuffL ((lt s).take k)).length≤4000:=by
     have:=M.stuff_len ((lt s).take k)
     rw[List.length_take,lt_length] at this
     omega
    have HS:Hid (M.stuffL ((lt s).take (k+1))=M.stStep (M.stuffL ((lt s).take k)) s[k].toNat):=by rw[lt_snoc s k hlt,M.stuffL_snoc];exact rfl
    clear hL;generalize M.stuffL ((lt s).take k)=l at *;have hnx:=fun ty=>Lib.run_next_ascii_at (P:=Tp) wr (b1+1) s k ty st.it hlt (by rcases hv with h | h <;> omega)
    have st1:=st.next (k+1)
    have HP:Hid (wr.iterPos (b1+1)=k):=iterPos_of st.it
    clear st;generalize wr.iterAt (b1+1) s (k+1)=wr1 at *;go_wp2_with (first | (at_builtin;(refine app_byte2 w wr1 rfl (.tmp 23) (.tmp 26) rfl w.heap.size _ l s[k].toNat _ (by omega) rfl st1.own rfl (by omega) st1.size st1.bel ?_)))
    intro v2 w2 ho2 hb2 hk2;have st2:=st1.app ho2 hb2 hk2
    clear st1 ho2 hb2 hk2;have HT:Hid (M.hear (M.trail l) s[k].toNat=M.trail (l++[s[k].toNat])):=(M.trail_snoc _ _).symm
    have hle:(l++[s[k].toNat]).length≤4001:=by simp;omega
    have hr5:(M.trail (l++[s[k].toNat])).2≤5:=by
     rw[M.trail_snoc];exact Nat.le_trans (M.hear_le _ _) (by omega)
    unfold M.stStep at HS
    generalize hl1:l++[s[k].toNat]=l1 at *;clear hl1;by_cases h5:(M.trail l1).2=5
    ·have HS':Hid (M.stuffL (List.take (k+1) (lt s))=l1++[97-s[k].toNat]):=by have:=HS.out;rw[if_pos h5] at this;exact this
     have hd5:decide ((M.trail l1).2=5)=true:=decide_eq_true h5
     have HT2:Hid (M.hear (M.trail l1) (97-s[k].toNat)=M.trail (l1++[97-s[k].toNat])):=(M.trail_snoc _ _).symm
     clear HS h5;go_wp2_with (first | (go_at_call 174;refine (hear_any _ b1 _ s[k].toNat st2.run (by omega)).mono ?_;rw[HT.out];rintro e w3 ⟨rfl,hr3,hg3⟩))
     have st3:=st2.hear hr3 hg3
     clear st2 hr3 hg3;go_wp2_with (first | (go_at_call 175;refine (full_any _ b1 _ st3.run).mono ?_;rw[hd5];rintro e w4 ⟨rfl,rfl⟩))
     have hv97:((97-s[k].toNat:Nat):Int)<256:=by omega
     have HO:Hid (∀ w,Calls Tp 176 #[I .i32 (s[k].toNat:Int)] w fun e w'=>e = rT (I .i32 ((97-s[k].toNat:Nat):Int))∧w=w'):=fun w=>opp_any _ w hv
     generalize 97-s[k].toNat=c' at *;refine (HO.out _).mono ?_
     rintro e w4 ⟨rfl,rfl⟩;go_wp2_with (first | (at_builtin;(refine app_byte2 w w3 rfl (.tmp 31) (.tmp 35) rfl w.heap.size _ l1 c' _ (by omega) rfl st3.own rfl (by omega) st3.size st3.bel ?_)))
     intro v5 w5 ho5 hb5 hk5;have st5:=st3.app ho5 hb5 hk5
     clear st3 ho5 hb5 hk5;go_wp2_with fail;refine (HO.out _).mono ?_
     rintro e w6 ⟨rfl,rfl⟩;go_wp2_with (first | (go_at_call 174;refine (hear_any _ b1 _ c' st5.run (by omega)).mono ?_;rw[HT2.out];rintro e w7 ⟨rfl,hr7,hg7⟩))
     have st7:=st5.hear hr7 hg7
     clear st5 hr7 hg7;go_roundw
     case rel=>exact⟨k+1,by omega,by rw[HS'.out];exact st7⟩
     case measure=>rw[iterPos_of st7.it,HP.out];omega
    ·have HS':Hid (M.stuffL (List.take (k+1) (lt s))=l1):=by have:=HS.out;rw[if_neg h5] at this;exact this
     have hd5:decide ((M.trail l1).2=5)=false:=decide_eq_false h5
     clear HS h5;go_wp2_with (first | (go_at_call 174;refine (hear_any _ b1 _ s[k].toNat st2.run (by omega)).mono ?_;rw[HT.out];rintro e w3 ⟨rfl,hr3,hg3⟩))
     have st3:=st2.hear hr3 hg3
     clear st2 hr3 hg3;go_wp2_with (first | (go_at_call 175;refine (full_any _ b1 _ st3.run).mono ?_;rw[hd5];rintro e w4 ⟨rfl,rfl⟩))
     go_roundw
     case rel=>exact⟨k+1,by omega,by rw[HS'.out];exact st3⟩
     case measure=>rw[iterPos_of st3.it,HP.out];omega
   ·have hke:(lt s).take k=lt s:=List.take_of_length_le (by rw[lt_length];omega)
    rw[hke] at st
    have hcv:=conv_own st.own (isL_lt (M.stuff_all _ (lt_isL HK.out)))
    have HZ:Hid (stuffZ s=strN (M.stuffL (lt s))):=by simp[stuffZ,HK.out,Hid]
    have hnx:∀ ty,(Instr.next (pT (some ⟨b1+1,0,none⟩)) true ty).run Tp wr=_:=fun ty=>Lib.run_next_end_at wr (b1+1) s k ty st.it hlt
    have hbel:=st.bel
    clear st;generalize M.stuffL (lt s)=l at *;clear hke;go_wp2
    go_ret;exact⟨ret_str HZ.out.symm,hbel⟩
theorem stuff_any (s:ByteArray) (w:World) :
  Calls Tp 134 #[.string s] w fun e w'=>e = rT (.string (stuffZ s))∧Below w.heap.size w w':=by
 by_cases hk:okT s 2000=true
 ·exact stuff_ok s w hk
 ·have hk':okT s 2000=false:=by simpa using hk
  have HZ:Hid (stuffZ s=⟨#[]⟩):=by simp[stuffZ,hk',Hid]
  clear hk;go_enter Tryz.func134,Tryz.ntmps134
  go_wp2_with (go_at_call 172;refine (isBitText_any _ _ _).mono ?_;rintro e w1 ⟨rfl,hb1⟩)
  go_ret;exact⟨ret_str HZ.out.symm,hb1⟩
theorem bytesRow_at (s:ByteArray) (cap t:Nat) (h:t<s.size):(bytesRow s cap)[t]?=some (I .u8 ((lt s).getD t 0:Int)):=by
 have hd:t<s.data.size:=h
 unfold bytesRow
 rw[Array.getElem?_append_left (by simpa using hd)]
 simp only[lt,List.getD,List.getElem?_map,Array.getElem?_map,Array.getElem?_toList]
 rw[Array.getElem?_eq_getElem hd]
 rfl
theorem rowB_bytes (w:World) (s:ByteArray) (cap:Nat):rowB (w.alloc (.cells (bytesRow s cap) 5 ((bytesRow s cap).size,(bytesRow s cap).size+1))) w.heap.size s.size (fun t=>(lt s).getD t 0):=by
 refine⟨fun t ht=>?_,fun t ht=>?_⟩
 ·rw[World.cell?_alloc_mark,bytesRow_at s cap t ht]
 ·have h1:(w.alloc (.cells (bytesRow s cap) 5 ((bytesRow s cap).size,(bytesRow s cap).size+1))).heap[w.heap.size]?=_:=heap_alloc_new w _
  have h2:s.size≤(bytesRow s cap).size:=by unfold bytesRow;simp
  simp only[World.frozen?,h1]
  simp
  omega
theorem arbL_length (e:Bool) (i:Nat) (r:Bool):(arbL e i r).length≤32:=by
 cases e <;> simp[arbL,M.num_length]
theorem sizeRes_any (w:World) (e:Bool) (i:Nat) (r:Bool) (d:Int) (a:Option Addr) (n cap:Nat) :
  Calls Tp 171 #[I J 7,frV e i r d a n cap] w fun o w'=>o = rT (I J ((1+e.toNat:Nat):Int))∧w.alloc (frC e i r d a n cap 67)=w':=by
 cases e
 ·go_enter Tryz.func171,Tryz.ntmps171
  go_wp2
  go_ret;exact⟨rfl,rfl⟩
 ·go_enter Tryz.func171,Tryz.ntmps171
  go_wp2
  go_ret;exact⟨rfl,rfl⟩
theorem own_one (w:World) (c:Nat) (B:Nat) (hB:B≤w.heap.size):ownsB (w.alloc (.cells #[I .u8 (c:Int)] 5)) B (sL (some ⟨w.heap.size,0,none⟩) 1 1) [c]:=
 World.ownsRow_lit w #[I .u8 (c:Int)] 1 hB (by decide) rfl
theorem flat_lenV (l:List Nat):(l.flatMap (fun x=>M.num x 8)).length=8*l.length:=by
 induction l with
 | nil=>rfl
 | cons a l ih=>rw[List.flatMap_cons,List.length_append,ih,M.num_length,List.length_cons];omega
set_option maxRecDepth 20000 in
theorem body_ok (w:World) (e:Bool) (i:Nat) (r:Bool) (dn:Nat) (a:Option Addr) (n cap:Nat) (l:List Nat) (h:isBytes w a n cap l) (hv:validB e i r (dn:Int) n=true) :
  Calls Tp 131 #[frV e i r (dn:Int) a n cap] w fun o w'=>o = rT (.string (strN (bodyL e i r dn l)))∧Below w.heap.size w w':=by
 obtain⟨hi,_,_,hd15,hn8⟩:=validB_true hv
 have HV:Hid (validB e i r (dn:Int) n=true):=hv
 have HH:Hid (isBytes w a n cap l):=h
 have hW:Below w.heap.size w (w.alloc (frC e i r (dn:Int) a n cap 67)):=(Below.refl _ _).alloc (Nat.le_refl _) _
 have HW:Hid (Below w.heap.size w (w.alloc (frC e i r (dn:Int) a n cap 67))∧(w.alloc (frC e i r (dn:Int) a n cap 67)).heap[w.heap.size]?=some (frC e i r (dn:Int) a n cap 67)):=⟨hW,heap_alloc_new w _⟩
 clear hv h hW;go_enter Tryz.func131,Tryz.ntmps131
 go_wp2_with fail;refine (valid_any _ e i r (dn:Int) a n cap l (HH.out.below HW.out.1)).mono ?_
 rw[HV.out]
 rintro o w1 ⟨rfl,hb1⟩;have hB1:Below w.heap.size w w1:=HW.out.1.trans (hb1.mono (by simp))
 have hx1:=box_below HW.out.2 hb1 (by simp)
 have hz1:w.heap.size<w1.heap.size:=lt_of_block hx1
 have HX1:Hid (w1.heap[w.heap.size]?=some (frC e i r (dn:Int) a n cap 67)):=hx1
 have hc1:=frC_cells hx1
 clear hb1 hx1;have hy1:=HH.out.below hB1
 have HY1:Hid (isBytes w1 a n cap l):=hy1
 clear hy1;go_wp2_with fail;have hWb:Below w1.heap.size w1 (w1.alloc (.cells #[I .u8 48] 5)):=(Below.refl _ _).alloc (Nat.le_refl _) _
 have hWz:w1.heap.size≤(w1.alloc (.cells #[I .u8 48] 5)).heap.size:=by simp
 refine (appendArb_any _ w1.heap.size _ [48] (own_one w1 48 w1.heap.size (Nat.le_refl _)) hWz (by simp) e i r (dn:Int) a n cap (by omega)).mono ?_
 rintro o w2 ⟨v2,rfl,ho2,hb2,_⟩;have hB2:=hWb.trans hb2
 have hx2:=box_below HX1.out hB2 hz1
 have hc2:=frC_cells hx2
 have hz2:w1.heap.size≤w2.heap.size:=hB2.size
 clear hb2 hWb hWz hc1 hx2;go_wp2_with (first | (go_at_call 171;refine (sizeRes_any _ _ _ _ _ _ _ _).mono ?_;rintro o w3 ⟨rfl,rfl⟩))
 have ho2':ownsB (w2.alloc (frC e i r (dn:Int) a n cap 67)) w1.heap.size v2 ([48]++arbL e i r):=World.ownsRow.alloc ho2 _
 have hB3:Below w1.heap.size w1 (w2.alloc (frC e i r (dn:Int) a n cap 67)):=hB2.alloc hz2 _
 have hal:=arbL_length e i r
 refine (appendBits_any _ w1.heap.size v2 _ 0 (1+e.toNat) ho2' (by simp;omega) (by simp;omega) (by omega) (by cases e <;> simp)).mono ?_
 rintro o w4 ⟨v4,rfl,ho4,hb4,_⟩;have hB4:=hB3.trans hb4
 have hx4:=box_below HX1.out hB4 hz1
 have hc4:=frC_cells hx4
 have hz4:w1.heap.size≤w4.heap.size:=hB4.size
 clear hb4 hB3 hB2 hc2 hx4 ho2 ho2' hz2;go_wp2_with fail;refine (appendBits_any _ w1.heap.size v4 _ dn 4 ho4 hz4 (by simp[M.num_length];cases e <;> simp <;> omega) (by omega) (by omega)).mono ?_
 rintro o w5 ⟨v5,rfl,ho5,hb5,_⟩;have hB5:=hB4.trans hb5
 have hx5:=box_below HX1.out hB5 hz1
 have hc5:=frC_cells hx5
 have hz5:w1.heap.size≤w5.heap.size:=hB5.size
 clear hb5 hB4 hc4 hx5 ho4 hz4;have hpl:([48]++arbL e i r++M.num 0 (1+e.toNat)++M.num dn 4).length≤100:=by simp[M.num_length];cases e <;> simp <;> omega
 have HBD:Hid (bodyL e i r dn l=[48]++arbL e i r++M.num 0 (1+e.toNat)++M.num dn 4++l.flatMap (fun x=>M.num x 8)):=rfl
 generalize [48]++arbL e i r++M.num 0 (1+e.toNat)++M.num dn 4=pre at *;go_wp2_with fail;by_cases hl:l=[]
 ·have hn0:n=0:=by have:=HY1.out.len;rw[hl] at this;simpa using this
  subst hn0 hl;have hz0:¬ (0:Int)<((0:Nat):Int):=by omega
  go_loopw [3,5,24] (fun v _ idx wr=>idx = I J 0∧ownsB wr w1.heap.size v pre∧Below w1.heap.size w1 wr) (fun _ _ _ _=>0)
  case atStart=>exact⟨rfl,ho5,hB5⟩
  case round=>
   clear ho5 hB5 hc5;obtain⟨rfl,ho,hb⟩:=hrel
   have hall:∀ x ∈ pre,M.isL x:=fun x hx=>bodyL_isL e i r dn [] x (by rw[HBD.out];simp[hx])
   have hcv:=conv_own ho (isL_lt hall)
   clear hall;go_wp2
   go_ret;exact⟨ret_str (by rw[HBD.out];simp),hB1.trans (hb.mono (by omega))⟩
 ·obtain⟨g,off,rfl,hcl⟩:=HY1.out.cells hl
  have hlen:=HY1.out.len
  have hn1:n≤l.length:=by omega
  have hn2:l.length≤n:=by omega
  have hsm:=HY1.out.small
  have HSM:Hid (∀ x ∈ l,x<256):=hsm
  clear hlen hsm;have hgz:g<w1.heap.size:=World.block_lt_of_cell? w1 _ (hcl 0 (by have:=List.length_pos_iff.2 hl;omega))
  go_loopw [3,5,24] (fun v _ idx wr=>∃ k:Nat,k≤n∧idx = I J k∧ownsB wr w1.heap.size v (pre++(l.take k).flatMap (fun x=>M.num x 8))∧Below w1.heap.size w1 wr∧w1.heap.size≤wr.heap.size) (fun _ _ idx _=>n-(intOf idx).toNat)
  case atStart=>exact⟨0,Nat.zero_le _,rfl,by simpa using ho5,hB5,hz5⟩
  case round=>
   clear ho5 hB5 hz5 hc5;obtain⟨k,hk,rfl,ho,hb,hz⟩:=hrel
   by_cases hlt:k<n
   ·have hc:wr.cell? ⟨g,off+k,none⟩=some (I .u8 (l[k]:Int)):=(hb.cell (by exact hgz)).trans (hcl k (by omega))
    have hx256:=HSM.out l[k] (List.getElem_mem _)
    have HF:Hid (pre++(l.take (k+1)).flatMap (fun x=>M.num x 8)=pre++(l.take k).flatMap (fun x=>M.num x 8)++M.num l[k] 8):=flat_snoc l k (by omega) pre
    have hpl2:(pre++(l.take k).flatMap (fun x=>M.num x 8)).length≤1000:=by rw[List.length_append,flat_lenV,List.length_take];omega
    generalize l[k]=x at *;generalize pre++(l.take k).flatMap (fun x=>M.num x 8)=p1 at *;go_wp2_with (first | (go_at_call 132;refine (appendBits_any _ w1.heap.size _ p1 x 8 ho hz (by omega) (by omega) (by omega)).mono ?_;rintro o w7 ⟨v7,rfl,ho7,hb7,_⟩))
    have hb8:=hb.trans hb7
    have hz7:w1.heap.size≤w7.heap.size:=hb8.size
    clear ho hb hz hb7;go_roundw
    case rel=>exact⟨k+1,by omega,by go_num,by rw[HF.out];exact ho7,hb8,hz7⟩
    case measure=>simp[intOf];omega
   ·have hke:l.take k=l:=List.take_of_length_le (by omega)
    rw[hke] at ho
    have hall:∀ x ∈ pre++l.flatMap (fun x=>M.num x 8),M.isL x:=fun x hx=>bodyL_isL e i r dn l x (by rw[HBD.out];exact hx)
    have hcv:=conv_own ho (isL_lt hall)
    clear hall hke;generalize pre++l.flatMap (fun x=>M.num x 8)=p1 at *;go_wp2
    go_ret;exact⟨ret_str (by rw[HBD.out]),hB1.trans (hb.mono (by omega))⟩
theorem body_any (w:World) (e:Bool) (i:Nat) (r:Bool) (d:Int) (a:Option Addr) (n cap:Nat) (l:List Nat) (h:isBytes w a n cap l) :
  Calls Tp 131 #[frV e i r d a n cap] w fun o w'=>o = rT (.string (bodyZ e i r d n l))∧Below w.heap.size w w':=by
 by_cases hv:validB e i r d n=true
 ·obtain⟨_,_,hd0,_,_⟩:=validB_true hv
  obtain⟨dn,rfl⟩:=Int.eq_ofNat_of_zero_le hd0
  refine (body_ok w e i r dn a n cap l h hv).mono ?_
  rintro o w' ⟨rfl,hb⟩;exact⟨ret_str (by simp[bodyZ,hv]),hb⟩
 ·have hv':validB e i r d n=false:=by simpa using hv
  have HZ:Hid (bodyZ e i r d n l=⟨#[]⟩):=by simp[bodyZ,hv',Hid]
  have HV:Hid (validB e i r d n=false):=hv'
  have HH:Hid (isBytes w a n cap l):=h
  clear hv hv' h;go_enter Tryz.func131,Tryz.ntmps131
  go_wp2_with (first | (go_at_call 130;refine (valid_any _ e i r d a n cap l (HH.out.below ((Below.refl _ _).alloc (Nat.le_refl _) _))).mono ?_;rw[HV.out];rintro o w1 ⟨rfl,hb1⟩))
  go_ret;exact⟨ret_str HZ.out.symm,((Below.refl w.heap.size w).alloc (Nat.le_refl _) _).trans (hb1.mono (by simp))⟩
theorem lt_strN (l:List Nat) (h:∀ x ∈ l,x<256):lt (strN l)=l:=by
 unfold lt strN
 simp only[List.map_map]
 conv=>rhs;rw[← List.map_id l]
 apply List.map_congr_left
 intro x hx;have:=h x hx
 simp;omega
theorem bl_strN (l:List Nat) (h:∀ x ∈ l,x<256):bl (strN l)=l.map (fun x=>x-48):=by
 have:bl (strN l)=(lt (strN l)).map (fun x=>x-48):=by unfold bl lt;simp
 rw[this,lt_strN l h]
theorem okT_strN (l:List Nat) (m:Int) (h:∀ x ∈ l,M.isL x) (hm:(l.length:Int)≤m):okT (strN l) m=true:=by
 unfold okT
 rw[Bool.and_eq_true,decide_eq_true_iff,strN_size]
 refine⟨hm,?_⟩
 rw[List.all_eq_true]
 intro c hc;unfold strN at hc
 simp at hc
 obtain⟨x,hx,rfl⟩:=hc
 rcases h x hx with rfl | rfl <;> rfl
theorem stuffZ_strN (l:List Nat) (h:∀ x ∈ l,M.isL x) (hm:l.length≤2000):stuffZ (strN l)=strN (M.stuffL l):=by
 unfold stuffZ
 rw[if_pos (okT_strN l 2000 h (by omega)),lt_strN l (isL_lt h)]
theorem crcZ_strN (l:List Nat) (h:∀ x ∈ l,M.isL x) (hm:l.length≤2000):crcZ (strN l)=((M.crcN (l.map (fun x=>x-48)):Nat):Int):=by
 unfold crcZ
 rw[if_pos (okT_strN l 2000 h (by omega)),bl_strN l (isL_lt h)]
def plainL (e:Bool) (i:Nat) (r:Bool) (d:Nat) (l:List Nat):List Nat:=
 bodyL e i r d l++M.num (M.crcN ((bodyL e i r d l).map (fun x=>x-48))) 15
def encZ (e:Bool) (i:Nat) (r:Bool) (d:Int) (n:Nat) (l:List Nat):ByteArray:=
 if validB e i r d n=true then strN (M.stuffL (plainL e i r d.toNat l)++List.replicate 10 49) else ⟨#[]⟩
theorem plainL_isL (e:Bool) (i:Nat) (r:Bool) (d:Nat) (l:List Nat):∀ x ∈ plainL e i r d l,M.isL x:=by
 intro x hx;unfold plainL at hx
 rw[List.mem_append] at hx
 rcases hx with hx|hx
 ·exact bodyL_isL e i r d l x hx
 ·exact M.num_isL _ _ x hx
theorem plainL_length (e:Bool) (i:Nat) (r:Bool) (d:Nat) (l:List Nat):(plainL e i r d l).length=(if e=true then 54 else 34)+8*l.length:=by
 unfold plainL
 rw[List.length_append,bodyL_length,M.num_length]
 cases e <;> simp <;> omega
set_option maxRecDepth 20000 in
theorem encode_any (w:World) (e:Bool) (i:Nat) (r:Bool) (d:Int) (a:Option Addr) (n cap:Nat) (l:List Nat) (h:isBytes w a n cap l) :
  Calls Tp 75 #[frV e i r d a n cap] w fun o w'=>o = rT (.string (encZ e i r d n l))∧Below w.heap.size w w':=by
 have HH:Hid (isBytes w a n cap l):=h
 have HW:Hid (Below w.heap.size w (w.alloc (frC e i r d a n cap 67))∧(w.alloc (frC e i r d a n cap 67)).heap[w.heap.size]?=some (frC e i r d a n cap 67)):=⟨(Below.refl _ _).alloc (Nat.le_refl _) _,heap_alloc_new w _⟩
 have hlen:=h.len
 clear h;by_cases hv:validB e i r d n=true
 ·have hn8:=(validB_true hv).2.2.2.2
  have HZ:Hid (encZ e i r d n l=strN (M.stuffL (plainL e i r d.toNat l)++List.replicate 10 49)):=by simp[encZ,hv,Hid]
  have HBZ:Hid (bodyZ e i r d n l=strN (bodyL e i r d.toNat l)):=by simp[bodyZ,hv,Hid]
  have HV:Hid (validB e i r d n=true):=hv
  have hbl:=bodyL_length e i r d.toNat l
  have hbl':(bodyL e i r d.toNat l).length≤200:=by rw[hbl];split <;> omega
  have HC:Hid (crcZ (strN (bodyL e i r d.toNat l))=((M.crcN ((bodyL e i r d.toNat l).map (fun x=>x-48)):Nat):Int)):=crcZ_strN _ (bodyL_isL _ _ _ _ _) (by omega)
  have hc:=M.crcN_lt ((bodyL e i r d.toNat l).map (fun x=>x-48))
  have HP:Hid (strN (bodyL e i r d.toNat l)++strN (M.num (M.crcN ((bodyL e i r d.toNat l).map (fun x=>x-48))) 15)=strN (plainL e i r d.toNat l)):=by rw[strN_append];exact rfl
  have hpl:=plainL_length e i r d.toNat l
  have hpl':(plainL e i r d.toNat l).length≤200:=by rw[hpl];split <;> omega
  have HS:Hid (stuffZ (strN (plainL e i r d.toNat l))=strN (M.stuffL (plainL e i r d.toNat l))):=stuffZ_strN _ (plainL_isL _ _ _ _ _) (by omega)
  have hst:(strN (M.stuffL (plainL e i r d.toNat l))).size≤400:=by rw[strN_size];have:=M.stuff_len (plainL e i r d.toNat l);omega
  have HT:Hid (strN (M.stuffL (plainL e i r d.toNat l))++strN (List.replicate 10 49)=strN (M.stuffL (plainL e i r d.toNat l)++List.replicate 10 49)):=strN_append _ _
  have hbs:(strN (bodyL e i r d.toNat l)).size≤200:=by rw[strN_size];exact hbl'
  clear hv hbl hbl' hpl hpl' hlen;generalize M.crcN ((bodyL e i r d.toNat l).map (fun x=>x-48))=c at *;generalize strN (M.stuffL (plainL e i r d.toNat l))=ss at *;generalize strN (plainL e i r d.toNat l)=ps at *;generalize strN (bodyL e i r d.toNat l)=bs at *;go_enter Tryz.func75,Tryz.ntmps75
  go_wp2_with fail;refine (valid_any _ e i r d a n cap l (HH.out.below HW.out.1)).mono ?_
  rw[HV.out]
  rintro o w1 ⟨rfl,hb1⟩;have hB1:Below w.heap.size w w1:=HW.out.1.trans (hb1.mono (by simp))
  have hx1:=box_below HW.out.2 hb1 (by simp)
  have hc1:=frC_cells hx1
  clear hb1 hx1;go_wp2_with fail;refine (body_any _ e i r d a n cap l (HH.out.below hB1)).mono ?_
  rw[HBZ.out]
  rintro o w2 ⟨rfl,hb2⟩;have hB2:=hB1.trans (hb2.mono hB1.size)
  clear hb2 hB1 hc1;go_wp2_with fail;refine (crc15_any _ _).mono ?_
  rw[HC.out]
  rintro o w3 ⟨rfl,hb3⟩;have hB3:=hB2.trans (hb3.mono hB2.size)
  clear hb3 hB2;go_wp2_with fail;refine (appendBits_any _ w3.heap.size _ [] c 15 (ownsB_nil w3 _) (Nat.le_refl _) (by simp) (by omega) (by omega)).mono ?_
  rintro o w4 ⟨v4,rfl,ho4,hb4,_⟩;rw[List.nil_append] at ho4
  have hB4:=hB3.trans (hb4.mono hB3.size)
  have hcv:=conv_own ho4 (isL_lt (M.num_isL _ _))
  have hs15:(strN (M.num c 15)).size≤15:=by rw[strN_size,M.num_length];omega
  clear hb4 hB3 ho4;go_wp2_with fail;rw[HP.out]
  refine (stuff_any _ _).mono ?_
  rw[HS.out]
  rintro o w5 ⟨rfl,hb5⟩;have hB5:=hB4.trans (hb5.mono hB4.size)
  clear hcv;go_wp2
  go_ret;exact⟨ret_str (by rw[HZ.out,← HT.out];rfl),hB5⟩
 ·have hv':validB e i r d n=false:=by simpa using hv
  have HZ:Hid (encZ e i r d n l=⟨#[]⟩):=by simp[encZ,hv',Hid]
  have HV:Hid (validB e i r d n=false):=hv'
  clear hv hv' hlen;go_enter Tryz.func75,Tryz.ntmps75
  go_wp2_with (first | (go_at_call 130;refine (valid_any _ e i r d a n cap l (HH.out.below HW.out.1)).mono ?_;rw[HV.out];rintro o w1 ⟨rfl,hb1⟩))
  go_ret;exact⟨ret_str HZ.out.symm,HW.out.1.trans (hb1.mono (by simp))⟩
theorem num_e15 (v:Nat) (w:World) (hv:v<4611686018427387904):Calls Tp 52 #[I J (v:Int),I J 15] w fun o w'=>o = rT (.string (strN (M.num v 15)))∧w=w':=num_any 15 v w (by omega) hv
theorem tail_eq (s:ByteArray):s++{ data:=#[49] }++{ data:=#[49] }++{ data:=#[49] }++{ data:=#[49,49,49,49,49,49,49] }=s++strN (List.replicate 10 49):=by
 apply ByteArray.ext
 simp[strN]
set_option maxRecDepth 20000 in
theorem specEncode_any (w:World) (e:Bool) (i:Nat) (r:Bool) (d:Int) (a:Option Addr) (n cap:Nat) (l:List Nat) (h:isBytes w a n cap l) :
  Calls Tp 26 #[frV e i r d a n cap] w fun o w'=>o = rT (.string (encZ e i r d n l))∧Below w.heap.size w w':=by
 have HH:Hid (isBytes w a n cap l):=h
 have HW:Hid (Below w.heap.size w (w.alloc (frC e i r d a n cap 67))∧(w.alloc (frC e i r d a n cap 67)).heap[w.heap.size]?=some (frC e i r d a n cap 67)):=⟨(Below.refl _ _).alloc (Nat.le_refl _) _,heap_alloc_new w _⟩
 have hlen:=h.len
 clear h;by_cases hv:validB e i r d n=true
 ·have hn8:=(validB_true hv).2.2.2.2
  have HZ:Hid (encZ e i r d n l=strN (M.stuffL (plainL e i r d.toNat l)++List.replicate 10 49)):=by simp[encZ,hv,Hid]
  have HBZ:Hid (bodyZ e i r d n l=strN (bodyL e i r d.toNat l)):=by simp[bodyZ,hv,Hid]
  have HV:Hid (validB e i r d n=true):=hv
  have hbl:=bodyL_length e i r d.toNat l
  have hbl':(bodyL e i r d.toNat l).length≤200:=by rw[hbl];split <;> omega
  have HC:Hid (crcZ (strN (bodyL e i r d.toNat l))=((M.crcN ((bodyL e i r d.toNat l).map (fun x=>x-48)):Nat):Int)):=crcZ_strN _ (bodyL_isL _ _ _ _ _) (by omega)
  have hc:=M.crcN_lt ((bodyL e i r d.toNat l).map (fun x=>x-48))
  have HP:Hid (strN (bodyL e i r d.toNat l)++strN (M.num (M.crcN ((bodyL e i r d.toNat l).map (fun x=>x-48))) 15)=strN (plainL e i r d.toNat l)):=by rw[strN_append];exact rfl
  have hpl:=plainL_length e i r d.toNat l
  have hpl':(plainL e i r d.toNat l).length≤200:=by rw[hpl];split <;> omega
  have HS:Hid (stuffZ (strN (plainL e i r d.toNat l))=strN (M.stuffL (plainL e i r d.toNat l))):=stuffZ_strN _ (plainL_isL _ _ _ _ _) (by omega)
  have hst:(strN (M.stuffL (plainL e i r d.toNat l))).size≤400:=by rw[strN_size];have:=M.stuff_len (plainL e i r d.toNat l);omega
  have HT:Hid (strN (M.stuffL (plainL e i r d.toNat l))++strN (List.replicate 10 49)=strN (M.stuffL (plainL e i r d.toNat l)++List.replicate 10 49)):=strN_append _ _
  have hbs:(strN (bodyL e i r d.toNat l)).size≤200:=by rw[strN_size];exact hbl'
  have hps:(strN (plainL e i r d.toNat l)).size≤200:=by rw[strN_size];exact hpl'
  clear hv hbl hbl' hpl hpl' hlen;generalize M.crcN ((bodyL e i r d.toNat l).map (fun x=>x-48))=c at *;generalize strN (M.stuffL (plainL e i r d.toNat l))=ss at *;generalize strN (plainL e i r d.toNat l)=ps at *;generalize strN (bodyL e i r d.toNat l)=bs at *;go_enter Tryz.func26,Tryz.ntmps26
  go_wp2_with fail;refine (specValid_any _ e i r d a n cap).mono ?_
  rw[HV.out]
  rintro o w1 ⟨rfl,hb1⟩;have hB1:Below w.heap.size w w1:=HW.out.1.trans (hb1.mono (by simp))
  have hx1:=box_below HW.out.2 hb1 (by simp)
  have hc1:=frC_cells hx1
  clear hb1 hx1;go_wp2_with fail;refine (specBody_any _ e i r d a n cap l (HH.out.below hB1)).mono ?_
  rw[HBZ.out]
  rintro o w2 ⟨rfl,hb2⟩;have hB2:=hB1.trans (hb2.mono hB1.size)
  clear hb2 hB1 hc1;go_wp2_with fail;refine (specCrc_any _ _ (by unfold maxLen;omega)).mono ?_
  rw[HC.out]
  rintro o w3 ⟨rfl,hb3⟩;have hB3:=hB2.trans (hb3.mono hB2.size)
  clear hb3 hB2;have hs15:(strN (M.num c 15)).size≤15:=by rw[strN_size,M.num_length];omega
  go_wp2_with fail;refine (num_e15 c _ (by omega)).mono ?_
  rintro o w4 ⟨rfl,rfl⟩;go_wp2_with fail;rw[HP.out]
  refine (specStuff_any _ _ (by unfold maxLen;omega)).mono ?_
  rw[HS.out]
  rintro o w5 ⟨rfl,hb5⟩;have hB5:=hB3.trans (hb5.mono hB3.size)
  go_wp2
  go_ret;exact⟨ret_str (by rw[HZ.out,← HT.out,← tail_eq]),hB5⟩
 ·have hv':validB e i r d n=false:=by simpa using hv
  have HZ:Hid (encZ e i r d n l=⟨#[]⟩):=by simp[encZ,hv',Hid]
  have HV:Hid (validB e i r d n=false):=hv'
  clear hv hv' hlen;go_enter Tryz.func26,Tryz.ntmps26
  go_wp2_with (first | (go_at_call 49;refine (specValid_any _ e i r d a n cap).mono ?_;rw[HV.out];rintro o w1 ⟨rfl,hb1⟩))
  go_ret;exact⟨ret_str HZ.out.symm,HW.out.1.trans (hb1.mono (by simp))⟩
end Go.Proofs.YtbllefckefhpoaaGreat
