import Derived.Test.YtgkkcpgocbcbaaaGreatK10
namespace Go.Proofs.YtgkkcpgocbcbaaaGreat
open Go.RowKit
set_option linter.unusedVariables false
namespace M
def stepN (r b:Nat):Nat:=if b≠r / 16384 then ((2*r) % 32768) ^^^ 17817 else (2*r) % 32768
end M
namespace M
def crcN (l:List Nat):Nat:=l.foldl stepN 0
end M
namespace M
theorem stepN_lt (r b:Nat):stepN r b<32768:=by
 unfold stepN
 split
 ·exact Nat.xor_lt_two_pow (n:=15) (by omega) (by decide)
 ·omega
end M
namespace M
theorem crcN_lt (l:List Nat):crcN l<32768:=by
 unfold crcN
 rcases List.eq_nil_or_concat l with rfl|⟨a,b,rfl⟩
 ·decide
 ·rw[List.concat_eq_append,List.foldl_append];exact stepN_lt _ _
end M
namespace M
theorem crcN_snoc (l:List Nat) (b:Nat):crcN (l++[b])=stepN (crcN l) b:=by
 simp[crcN,List.foldl_append]
end M
def okC (c:UInt8):Bool:=c == 48 || c == 49
def okT (s:ByteArray) (m:Int):Bool:=decide ((s.size:Int)≤m) && s.data.toList.all okC
theorem take_snocV (s:ByteArray) (k:Nat) (h:k<s.size):s.data.toList.take (k+1)=s.data.toList.take k++[s[k]]:=by
 rw[List.take_succ_eq_append_getElem (by simpa using h)];rfl
theorem okT_long {s:ByteArray} {m:Int} (h:¬ (s.size:Int)≤m):okT s m=false:=by simp[okT,h]
theorem okT_all {s:ByteArray} {m:Int} (h:(s.size:Int)≤m) (k:Nat) (hk:s.size≤k) (ha:(s.data.toList.take k).all okC=true):okT s m=true:=by
 rw[List.take_of_length_le (by simpa using hk)] at ha
 simp[okT,h,ha]
theorem okT_bad {s:ByteArray} {m:Int} (k:Nat) (hk:k<s.size) (hb:okC s[k]=false):okT s m=false:=by
 have:s.data.toList.all okC=false:=by
  rw[List.all_eq_false]
  exact⟨s[k],by rw[Array.mem_toList_iff];exact Array.getElem_mem (xs:=s.data) (i:=k) hk,by simpa using hb⟩
 simp[okT,this]
theorem ok_snoc {s:ByteArray} {k:Nat} (hk:k<s.size) (ha:(s.data.toList.take k).all okC=true) (hc:okC s[k]=true):(s.data.toList.take (k+1)).all okC=true:=by
 rw[take_snocV s k hk,List.all_append,ha];simp[hc]
theorem okC_of (c:UInt8) (h:(c.toNat:Int)=48∨(c.toNat:Int)=49):okC c=true:=by
 unfold okC
 rcases h with h|h
 ·have:c=48:=UInt8.toNat_inj.1 (by simpa using (by omega:c.toNat=48))
  simp[this]
 ·have:c=49:=UInt8.toNat_inj.1 (by simpa using (by omega:c.toNat=49))
  simp[this]
theorem okC_val {c:UInt8} (h:okC c=true):c.toNat=48∨c.toNat=49:=by
 unfold okC at h
 simp at h
 rcases h with h | h <;> subst h
 ·exact .inl rfl
 ·exact .inr rfl
set_option maxHeartbeats 400000 in
theorem isBitText_any (s:ByteArray) (m:Int) (w:World) :
  Calls Tryz.prog 120 #[.string s,.int .i64 m] w fun e w'=>e = .returned (.bool (okT s m))∧Below w.heap.size w w':=by
 by_cases hm:(s.size:Int)≤m
 ·go_enter Tryz.func120,Tryz.ntmps120
  go_wp2
  go_loopw [6] (fun _ w'=>∃ k:Nat,k≤s.size∧w'=w.iter s k∧(s.data.toList.take k).all okC=true) (fun _ w'=>s.size-w'.iterPos w.heap.size)
  case atStart=>exact⟨0,Nat.zero_le _,rfl,rfl⟩
  case round=>
   obtain⟨k,hk,rfl,ha⟩:=hrel
   have HA:Hid ((s.data.toList.take k).all okC=true):=ha
   clear ha
   by_cases hlt:k<s.size
   ·by_cases hc:okC s[k]=true
    ·have hv:=okC_val hc
     have hnx:=fun ty=>run_next_ascii (P:=Tryz.prog) w s k ty hlt (by omega)
     have HC:Hid (okC s[k]=true):=hc
     clear hc
     rcases hv with hv|hv
     ·rw[hv] at hnx
      clear hv
      go_wp2
      go_roundw
      case rel=>exact⟨k+1,by omega,rfl,ok_snoc hlt HA.out HC.out⟩
      case measure=>simp;omega
     ·rw[hv] at hnx
      clear hv
      go_wp2
      go_roundw
      case rel=>exact⟨k+1,by omega,rfl,ok_snoc hlt HA.out HC.out⟩
      case measure=>simp;omega
    ·have hb:=okT_bad (m:=m) k hlt (by simpa using hc)
     have hd:(((Utf8.decode s k).1:Int) != 48)=true∧(((Utf8.decode s k).1:Int) != 49)=true:=by
      by_cases hx:(s[k]'hlt).toNat<128
      ·rw[decode_ascii s k hlt hx]
       simp only[bne_iff_ne]
       refine⟨fun e=>hc (okC_of _ (.inl (by exact_mod_cast e))),fun e=>hc (okC_of _ (.inr (by exact_mod_cast e)))⟩
      ·have:=(decode_high s k hlt (by omega)).1
       simp only[bne_iff_ne]
       constructor <;> omega
     obtain⟨b0,b1⟩:=hd
     have hnx:∀ ty,(Instr.next (.pointer (some ⟨w.heap.size,0,none⟩)) true ty).run Tryz.prog (w.iter s k)=_:=fun ty=>run_next_any w s k ty hlt
     have HB:Hid (okT s m=false):=hb
     clear hb hc
     go_wp2
     go_ret
     exact⟨ret_bool HB.out.symm,(Below.refl _ _).alloc (Nat.le_refl _) _⟩
   ·have hnx:∀ ty,(Instr.next (.pointer (some ⟨w.heap.size,0,none⟩)) true ty).run Tryz.prog (w.iter s k)=_:=fun ty=>run_next_end w s k ty hlt
    go_wp2
    go_ret
    exact⟨ret_bool (okT_all hm k (by omega) HA.out).symm,(Below.refl _ _).alloc (Nat.le_refl _) _⟩
 ·go_enter Tryz.func120,Tryz.ntmps120
  go_wp2
  go_ret
  exact⟨ret_bool (okT_long (by omega)).symm,Below.refl _ _⟩
theorem wraps_i64 (n:Int) (h0:0≤n) (h1:n<2 ^ 62):IntKind.i64.wrap n=n:=by rw[IntKind.wrap_i64];omega
theorem i64_mask15 (n:Int) (h0:0≤n) (h1:n<2 ^ 62):bits .and .i64 n 32767=n % 32768:=
 bits_mask .i64 62 (by decide) wraps_i64 15 (by decide) n h0 h1
theorem i64_xor_nat (a b:Nat) (ha:a<2 ^ 62) (hb:b<2 ^ 62):bits .xor .i64 (a:Int) (b:Int)=((a ^^^ b:Nat):Int):=
 by
 have hx:a ^^^ b<2 ^ 62:=Nat.xor_lt_two_pow ha hb
 show IntKind.i64.wrap ((BitVec.ofInt 64 (a:Int) ^^^ BitVec.ofInt 64 (b:Int)).toNat:Int)=_
 rw[BitVec.toNat_xor,ofInt_u64 a (by omega),ofInt_u64 b (by omega),wraps_i64 _ (by omega) (by omega)]
theorem crcStep_yes (r b:Nat) (h1:r<32768) (h:((b:Int) != (r:Int) / 16384)=true) :
  bits BinOp.xor IntKind.i64 (bits BinOp.and IntKind.i64 ((r:Int)*2) 32767) 17817=((M.stepN r b:Nat):Int):=by
 have h':b≠r / 16384:=by
  intro e
  rw[bne_iff_ne] at h
  exact h (by omega)
 rw[i64_mask15 _ (by omega) (by omega)]
 have e:((r:Int)*2) % 32768=((2*r % 32768:Nat):Int):=by omega
 rw[e,show (17817:Int)=((17817:Nat):Int) from rfl,i64_xor_nat _ _ (by omega) (by decide)]
 simp[M.stepN,h']
theorem crcStep_no (r b:Nat) (h1:r<32768) (h:((b:Int) != (r:Int) / 16384)=false) :
  bits BinOp.and IntKind.i64 ((r:Int)*2) 32767=((M.stepN r b:Nat):Int):=by
 have h':¬ b≠r / 16384:=by
  intro e
  rw[bne_eq_false_iff_eq] at h
  exact e (by omega)
 rw[i64_mask15 _ (by omega) (by omega)]
 unfold M.stepN
 rw[if_neg h']
 omega
set_option maxHeartbeats 400000 in
theorem crcStep_any (r b:Nat) (w:World) (h1:r<32768) :
  Calls Tryz.prog 121 #[.int .i64 r,.int .i64 b] w fun e w'=>e = .returned (.int .i64 (M.stepN r b:Nat))∧w=w':=by
 go_enter Tryz.func121,Tryz.ntmps121
 go_wp2
 ·have hc:((b:Int) != (r:Int) / 16384)=true:=by assumption
  go_ret
  exact⟨ret_int (crcStep_yes r b h1 hc),rfl⟩
 ·have hc:((b:Int) != (r:Int) / 16384)=false:=by assumption
  go_ret
  exact⟨ret_int (crcStep_no r b h1 hc),rfl⟩
def bl (s:ByteArray):List Nat:=s.data.toList.map (fun c=>c.toNat-48)
theorem bl_length (s:ByteArray):(bl s).length=s.size:=by simp[bl]
theorem bl_snoc (s:ByteArray) (k:Nat) (h:k<s.size):(bl s).take (k+1)=(bl s).take k++[s[k].toNat-48]:=by
 unfold bl;rw[← List.map_take,take_snocV s k h];simp[List.map_take]
theorem okT_size {s:ByteArray} {m:Int} (h:okT s m=true):(s.size:Int)≤m:=by
 unfold okT at h;rw[Bool.and_eq_true,decide_eq_true_iff] at h;exact h.1
theorem okT_at {s:ByteArray} {m:Int} (h:okT s m=true) (k:Nat) (hk:k<s.size):s[k].toNat=48∨s[k].toNat=49:=by
 unfold okT at h;rw[Bool.and_eq_true] at h
 exact okC_val (List.all_eq_true.1 h.2 _ (by rw[Array.mem_toList_iff];exact Array.getElem_mem (xs:=s.data) (i:=k) hk))
def crcZ (s:ByteArray):Int:=if okT s 2000=true then (M.crcN (bl s):Nat) else -1
set_option maxHeartbeats 400000 in
theorem crc15_any (s:ByteArray) (w:World) :
  Calls Tryz.prog 92 #[.string s] w fun e w'=>e = .returned (.int .i64 (crcZ s))∧Below w.heap.size w w':=by
 by_cases hk:okT s 2000=true
 ·have HZ:Hid (crcZ s=(M.crcN (bl s):Nat)):=by simp[crcZ,hk,Hid]
  go_enter Tryz.func92,Tryz.ntmps92
  go_wp2_with (go_at_call 120;refine (isBitText_any _ _ _).mono ?_;rintro e w1 ⟨rfl,hb1⟩)
  have HK:Hid (okT s 2000=true):=hk
  clear hk
  go_loopw [3,5] (fun r _ w'=>∃ k:Nat,k≤s.size∧w'=w1.iter s k∧r = .int .i64 ((M.crcN ((bl s).take k):Nat):Int)) (fun _ _ w'=>s.size-w'.iterPos w1.heap.size)
  case atStart=>exact⟨0,Nat.zero_le _,rfl,rfl⟩
  case round=>
   obtain⟨k,hk,rfl,rfl⟩:=hrel
   by_cases hlt:k<s.size
   ·have hv:=okT_at HK.out k hlt
    have hnx:=fun ty=>run_next_ascii (P:=Tryz.prog) w1 s k ty hlt (by omega)
    have hr:=M.crcN_lt ((bl s).take k)
    have HS:Hid (M.crcN ((bl s).take (k+1))=M.stepN (M.crcN ((bl s).take k)) (s[k].toNat-48)):=by
     rw[bl_snoc s k hlt,M.crcN_snoc];exact rfl
    generalize hR:M.crcN ((bl s).take k)=r at *
    clear hR
    rcases hv with hv|hv
    ·rw[hv] at hnx
     have HS':Hid (M.crcN ((bl s).take (k+1))=M.stepN r 0):=by rw[HS.out,hv];exact rfl
     clear hv HS
     go_wp2_with (go_at_call 121;refine (crcStep_any r 0 _ hr).mono ?_;rintro e w2 ⟨rfl,rfl⟩)
     go_roundw
     case rel=>exact⟨k+1,by omega,rfl,by rw[HS'.out]⟩
     case measure=>simp;omega
    ·rw[hv] at hnx
     have HS':Hid (M.crcN ((bl s).take (k+1))=M.stepN r 1):=by rw[HS.out,hv];exact rfl
     clear hv HS
     go_wp2_with (go_at_call 121;refine (crcStep_any r 1 _ hr).mono ?_;rintro e w2 ⟨rfl,rfl⟩)
     go_roundw
     case rel=>exact⟨k+1,by omega,rfl,by rw[HS'.out]⟩
     case measure=>simp;omega
   ·have hnx:∀ ty,(Instr.next (.pointer (some ⟨w1.heap.size,0,none⟩)) true ty).run Tryz.prog (w1.iter s k)=_:=fun ty=>run_next_end w1 s k ty hlt
    have HE:Hid ((bl s).take k=bl s):=List.take_of_length_le (by rw[bl_length];omega)
    go_wp2
    go_ret
    exact⟨ret_int (by rw[HE.out,HZ.out]),hb1.alloc (by exact hb1.size) _⟩
 ·have hk':okT s 2000=false:=by simpa using hk
  have HZ:Hid (crcZ s = -1):=by simp[crcZ,hk',Hid]
  clear hk
  go_enter Tryz.func92,Tryz.ntmps92
  go_wp2_with (go_at_call 120;refine (isBitText_any _ _ _).mono ?_;rintro e w1 ⟨rfl,hb1⟩)
  go_ret
  exact⟨ret_int HZ.out.symm,hb1⟩
namespace M
def hear (r:Nat × Nat) (c:Nat):Nat × Nat:=if c=r.1 then (r.1,r.2+1) else (c,1)
end M
namespace M
def trail (l:List Nat):Nat × Nat:=l.foldl hear (0,0)
end M
namespace M
def stStep (out:List Nat) (c:Nat):List Nat:=if (trail (out++[c])).2=5 then out++[c]++[97-c] else out++[c]
end M
namespace M
def stuffL (l:List Nat):List Nat:=l.foldl stStep []
end M
namespace M
theorem trail_snoc (l:List Nat) (c:Nat):trail (l++[c])=hear (trail l) c:=by simp[trail]
end M
namespace M
theorem stuffL_snoc (l:List Nat) (c:Nat):stuffL (l++[c])=stStep (stuffL l) c:=by simp[stuffL]
end M
namespace M
theorem hear_fst (r:Nat × Nat) (c:Nat):(hear r c).1=c:=by
 unfold hear;split
 ·rename_i h;exact h.symm
 ·rfl
end M
namespace M
theorem hear_le (r:Nat × Nat) (c:Nat):(hear r c).2≤r.2+1:=by
 unfold hear;split
 ·exact Nat.le_refl _
 ·exact Nat.succ_le_succ (Nat.zero_le _)
end M
namespace M
theorem snoc_cases {α:Type} (l:List α) (h:l≠[]):∃ l' a,l=l'++[a]:=by
 rcases List.eq_nil_or_concat l with e|⟨a,b,e⟩
 ·exact absurd e h
 ·exact⟨a,b,by rw[e,List.concat_eq_append]⟩
end M
namespace M
theorem snoc_ind {α:Type} {P:List α→Prop} (h0:P []) (h1:∀ l a,P l→P (l++[a])) (l:List α):P l:=by
 have:∀ n,∀ l:List α,l.length=n→P l:=by
  intro n
  induction n with
  | zero=>intro l hl;rw[List.length_eq_zero_iff.1 hl];exact h0
  | succ n ih=>
   intro l hl
   obtain⟨l',a,rfl⟩:=snoc_cases l (by intro e;simp[e] at hl)
   exact h1 l' a (ih l' (by simpa using hl))
 exact this _ l rfl
end M
namespace M
theorem hear_other (a m b:Nat) (h:¬ b=a):hear (a,m) b=(b,1):=by simp[hear,h]
end M
namespace M
theorem isL_opp {c:Nat} (h:isL c):isL (97-c)∧¬ 97-c=c:=by
 rcases h with rfl|rfl
 ·exact⟨.inr rfl,by decide⟩
 ·exact⟨.inl rfl,by decide⟩
end M
namespace M
theorem stuff_all (l:List Nat) (h:∀ x ∈ l,isL x):∀ x ∈ stuffL l,isL x:=by
 induction l using snoc_ind with
 | h0=>intro x hx;simp[stuffL] at hx
 | h1 l a ih=>
  have ha:isL a:=h a (by simp)
  have hl:=ih (fun x hx=>h x (by simp[hx]))
  rw[stuffL_snoc]
  intro x hx
  unfold stStep at hx
  split at hx
  ·simp at hx
   rcases hx with hx|rfl|rfl
   ·exact hl x hx
   ·exact ha
   ·exact (isL_opp ha).1
  ·simp at hx
   rcases hx with hx|rfl
   ·exact hl x hx
   ·exact ha
end M
namespace M
theorem stuff_run (l:List Nat) (h:∀ x ∈ l,isL x):(trail (stuffL l)).2≤4:=by
 induction l using snoc_ind with
 | h0=>decide
 | h1 l a ih=>
  have ha:isL a:=h a (by simp)
  have hl:=ih (fun x hx=>h x (by simp[hx]))
  rw[stuffL_snoc]
  unfold stStep
  rw[trail_snoc]
  have h1:=hear_le (trail (stuffL l)) a
  split
  ·rename_i h5
   rw[trail_snoc,trail_snoc]
   have hf:=hear_fst (trail (stuffL l)) a
   generalize hear (trail (stuffL l)) a=r at *
   obtain⟨x,m⟩:=r
   simp only at hf
   subst hf
   rw[hear_other _ _ _ (isL_opp ha).2]
   exact (by decide:1≤4)
  ·rw[trail_snoc];omega
end M
namespace M
theorem stuff_len (l:List Nat):(stuffL l).length≤2*l.length:=by
 induction l using snoc_ind with
 | h0=>decide
 | h1 l a ih=>
  rw[stuffL_snoc];unfold stStep
  split <;> simp <;> omega
end M
def lt (s:ByteArray):List Nat:=s.data.toList.map UInt8.toNat
theorem lt_length (s:ByteArray):(lt s).length=s.size:=by simp[lt]
theorem lt_snoc (s:ByteArray) (k:Nat) (h:k<s.size):(lt s).take (k+1)=(lt s).take k++[s[k].toNat]:=by
 unfold lt;rw[← List.map_take,take_snocV s k h];simp[List.map_take]
theorem lt_isL {s:ByteArray} {m:Int} (h:okT s m=true):∀ x ∈ lt s,M.isL x:=by
 intro x hx
 unfold okT at h;rw[Bool.and_eq_true] at h
 unfold lt at hx
 rw[List.mem_map] at hx
 obtain⟨c,hc,rfl⟩:=hx
 exact okC_val (List.all_eq_true.1 h.2 c hc)
def stuffZ (s:ByteArray):ByteArray:=if okT s 2000=true then strN (M.stuffL (lt s)) else ⟨#[]⟩
theorem runAt.c0 {w:World} {b:Nat} {r:Nat × Nat} (h:runAt w b r):w.cell? ⟨b,0,none⟩=some (.int .i32 (r.1:Int)):=by unfold runAt at h;simp[World.cell?,h]
theorem runAt.c1 {w:World} {b:Nat} {r:Nat × Nat} (h:runAt w b r):w.cell? ⟨b,1,none⟩=some (.int .i64 (r.2:Int)):=by unfold runAt at h;simp[World.cell?,h]
theorem runAt.f0 {w:World} {b:Nat} {r:Nat × Nat} (h:runAt w b r) (i:Nat):w.frozen? ⟨b,i,none⟩=false:=by unfold runAt at h;simp[World.frozen?,h]
theorem gb_refl (w:World) (b:Option Nat):w.grownBy w b:=⟨rfl,rfl,rfl,Nat.le_refl _,fun _ _ _=>rfl⟩
theorem gb_set {w w1:World} {b:Nat} (h:w.grownBy w1 (some b)) (i:Nat) (v:Value):w.grownBy (w1.setCell ⟨b,i,none⟩ v) (some b):=
 ⟨h.os,h.tape,h.output,by simpa using h.size,fun k hk hne=>(heap_setCell_other w1 ⟨b,i,none⟩ k v (fun e=>hne (by simp[e]))).trans (h.block k hk hne)⟩
theorem full_any (w:World) (b:Nat) (r:Nat × Nat) (h:runAt w b r) :
  Calls Tryz.prog 123 #[.pointer (some ⟨b,0,none⟩)] w fun e w'=>e = .returned (.bool (decide (r.2=5)))∧w=w':=by
 have c1:=h.c1
 have hb:((r.2:Int) == 5)=decide (r.2=5):=by rw[Bool.eq_iff_iff];simp;omega
 go_enter Tryz.func123,Tryz.ntmps123
 go_wp2
 go_ret
 exact⟨rfl,rfl⟩
theorem hear_any (w:World) (b:Nat) (r:Nat × Nat) (c:Nat) (h:runAt w b r) (hr:r.2≤100000) :
  Calls Tryz.prog 122 #[.pointer (some ⟨b,0,none⟩),.int .i32 c] w fun e w'=>e = .returned (.tuple #[])∧runAt w' b (M.hear r c)∧w.grownBy w' (some b):=by
 have c0:=h.c0
 have c1:=h.c1
 have f0:=h.f0 0
 have f1:=h.f0 1
 by_cases hc:c=r.1
 ·have hb:((c:Int) != (r.1:Int))=false:=by simp;omega
  go_enter Tryz.func122,Tryz.ntmps122
  go_wp2
  go_end0
  refine⟨rfl,?_,gb_set (gb_refl _ _) _ _⟩
  have h1:=heap_setCell_same w b 1 _ _ (Value.int IntKind.i64 ((r.2:Int)+1)) h
  unfold runAt
  rw[h1,M.hear,if_pos hc]
  simp
 ·have hb:((c:Int) != (r.1:Int))=true:=by simp;omega
  go_enter Tryz.func122,Tryz.ntmps122
  go_wp2
  go_end0
  refine⟨rfl,?_,gb_set (gb_set (gb_set (gb_refl _ _) _ _) _ _) _ _⟩
  have h1:=heap_setCell_same w b 0 _ _ (Value.int IntKind.i32 (c:Int)) h
  have h2:=heap_setCell_same _ b 1 _ _ (Value.int IntKind.i64 0) h1
  have h3:=heap_setCell_same _ b 1 _ _ (Value.int IntKind.i64 1) h2
  unfold runAt
  rw[h3,M.hear,if_neg hc]
  simp
theorem opp_any (c:Nat) (w:World) (h:M.isL c) :
  Calls Tryz.prog 124 #[.int .i32 c] w fun e w'=>e = .returned (.int .i32 ((97-c:Nat):Int))∧w=w':=by
 rcases h with rfl|rfl
 ·go_enter Tryz.func124,Tryz.ntmps124
  go_wp2
  go_ret
  exact⟨rfl,rfl⟩
 ·go_enter Tryz.func124,Tryz.ntmps124
  go_wp2
  go_ret
  exact⟨rfl,rfl⟩
theorem stI.ne {w0:World} {B b1 b2:Nat} {s:ByteArray} {k:Nat} {v:Value} {l:List Nat} {r:Nat × Nat} {w:World} (h:stI w0 B b1 b2 s k v l r w):b1≠b2:=by
 intro e
 have h1:=h.run
 have h2:=h.it
 rw[← e,h1] at h2
 cases h2
theorem ownsB.otherBlock {w w':World} {B:Nat} {v:Value} {l:List Nat} (h:ownsB w B v l) (hk:∀ g,v.ownBlock=some g→w'.heap[g]?=w.heap[g]?):ownsB w' B v l:=by
 obtain⟨h1,h2|⟨g,cap,cur,rfl,hb,hh,rest⟩⟩:=h
 ·exact⟨h1,.inl h2⟩
 ·exact⟨h1,.inr ⟨g,cap,cur,rfl,hb,(hk g rfl).trans hh,rest⟩⟩
theorem stI.next {w0:World} {B b1 b2:Nat} {s:ByteArray} {k:Nat} {v:Value} {l:List Nat} {r:Nat × Nat} {w:World} (h:stI w0 B b1 b2 s k v l r w) (k':Nat):stI w0 B b1 b2 s k' v l r (w.iterAt b2 s k'):=by
 refine⟨h.own.otherBlock (fun g hg=>?_),(Lib.iterAt_other w b2 b1 s k' h.ne).trans h.run,Lib.iterAt_heap w b2 s k k' h.it,Lib.below_iterAt h.bel h.B2 s k',h.B1,h.B2⟩
 obtain⟨c,fz,hc⟩:=h.own.kind g hg
 refine Lib.iterAt_other w b2 g s k' (fun e=>?_)
 rw[e,h.it] at hc
 cases hc
theorem stI.hear {w0:World} {B b1 b2:Nat} {s:ByteArray} {k:Nat} {v:Value} {l:List Nat} {r r':Nat × Nat} {w w':World} (h:stI w0 B b1 b2 s k v l r w) (hr:runAt w' b1 r') (hg:w.grownBy w' (some b1)):stI w0 B b1 b2 s k v l r' w':=by
 refine⟨h.own.otherBlock (fun g hgv=>?_),hr,?_,h.bel.grown hg h.size (fun k e=>by cases e;exact h.B1),h.B1,h.B2⟩
 ·obtain⟨c,fz,hc⟩:=h.own.kind g hgv
  refine hg.block g (lt_of_block hc) (fun e=>?_)
  cases e
  rw[h.run] at hc
  cases hc
 ·rw[hg.block b2 (lt_of_block h.it) (fun e=>h.ne (by cases e;rfl))]
  exact h.it
theorem stI.app {w0:World} {B b1 b2:Nat} {s:ByteArray} {k:Nat} {v v':Value} {l l':List Nat} {r:Nat × Nat} {w w':World} (h:stI w0 B b1 b2 s k v l r w) (ho:ownsB w' B v' l') (hb:Below B w0 w') (hk:Lib.OthersKept 5 none w w'):stI w0 B b1 b2 s k v' l' r w':=
 ⟨ho,hk _ _ h.run (by simp) (by intro c fz e;cases e),hk _ _ h.it (by simp) (by intro c fz e;cases e),hb,h.B1,h.B2⟩
theorem make_bytes {ops:Array Oper} {rest:List Oper} {o:Oper} {a:Act} {Q:Exit→Act→World→Prop} (w:World)
  (hg:o.guard=none) (l c:Operand) (hop:o.op=Op.makeSlice 22 l c) (B:Nat) (C:Int) (n:Nat) (hl:a.eval l = .int .i64 0) (hc:a.eval c = .int .i64 C) (hC:C=(n:Int)) (hn:n≤100000000) (hB:B≤w.heap.size)
  (hK:∀ w',ownsB w' B (.slice (some ⟨w.heap.size,0,none⟩) 0 n) []→w.grownBy w' none→wpList Tryz.prog ops Q rest (a.put o.dst (.slice (some ⟨w.heap.size,0,none⟩) 0 n)) w') :
  wpList Tryz.prog ops Q (o :: rest) a w:=by
 obtain⟨i0,hi,hz0,hz1,hz2⟩:=info_parts Tryz.info5
 exact wpList_make_own w hg l c 22 hop B 5 i0 (.int .u8 0) 1 Tryz.underlying22 hi hz0 hz1 .i64 .i64 C n hl hc hC (by rw[hz2];omega) (by unfold maxLen;omega) hB hK
set_option maxHeartbeats 1000000 in
theorem stuff_ok (s:ByteArray) (w:World) (hk:okT s 2000=true) :
  Calls Tryz.prog 93 #[.string s] w fun e w'=>e = .returned (.string (stuffZ s))∧Below w.heap.size w w':=by
  have hsz:=okT_size hk
  go_enter Tryz.func93,Tryz.ntmps93
  go_wp2_with (first | (go_at_call 120;refine (isBitText_any _ _ _).mono ?_;rintro e w1 ⟨rfl,hb1⟩) | (at_make;refine make_bytes _ rfl (.const (.int .i64 0)) (.tmp 16) rfl w.heap.size _ (s.size+s.size / 4+1) rfl rfl (by omega) (by omega) hb1.size ?_;intro w2 hown2 hg2))
  have HK:Hid (okT s 2000=true):=hk
  clear hk
  have hB2:=Nat.le_trans hb1.size hg2.size
  have st0:stI w w.heap.size w2.heap.size (w2.heap.size+1) s 0 (.slice (some ⟨w1.heap.size,0,none⟩) 0 (s.size+s.size / 4+1)) [] (0,0) ((w2.alloc (.cells #[.int .i32 0,.int .i64 0] 162)).iter s 0):=by
   refine⟨World.ownsRow.alloc (World.ownsRow.alloc hown2 _) _,?_,?_,((hb1.grown hg2 hb1.size (by intro k e;cases e)).alloc hB2 _).alloc (by simp;omega) _,hB2,by omega⟩
   ·unfold runAt World.iter
    rw[Below.heap_alloc _ _ _ (by simp)]
    exact heap_alloc_new w2 _
   ·have:=World.iter_heap (w2.alloc (.cells #[.int .i32 0,.int .i64 0] 162)) s 0
    simpa using this
  clear hown2 hg2
  generalize hb2:w2.heap.size=b1 at *
  clear hb2
  go_loopw [3,6] (fun v _ wr=>∃ k:Nat,k≤s.size∧stI w w.heap.size b1 (b1+1) s k v (M.stuffL ((lt s).take k)) (M.trail (M.stuffL ((lt s).take k))) wr) (fun _ _ wr=>s.size-wr.iterPos (b1+1))
  case atStart=>exact⟨0,Nat.zero_le _,st0⟩
  case round=>
   clear st0
   obtain⟨k,hk,st⟩:=hrel
   by_cases hlt:k<s.size
   ·have hv:M.isL s[k].toNat:=okT_at HK.out k hlt
    have hv256:(s[k].toNat:Int)<256:=by rcases hv with h | h <;> omega
    have hL:∀ x ∈ (lt s).take k,M.isL x:=fun x hx=>lt_isL HK.out x (List.mem_of_mem_take hx)
    have hrun:=M.stuff_run _ hL
    have hll:(M.stuffL ((lt s).take k)).length≤4000:=by
     have:=M.stuff_len ((lt s).take k)
     rw[List.length_take,lt_length] at this
     omega
    have HS:Hid (M.stuffL ((lt s).take (k+1))=M.stStep (M.stuffL ((lt s).take k)) s[k].toNat):=by rw[lt_snoc s k hlt,M.stuffL_snoc];exact rfl
    clear hL
    generalize M.stuffL ((lt s).take k)=l at *
    have hnx:=fun ty=>Lib.run_next_ascii_at (P:=Tryz.prog) wr (b1+1) s k ty st.it hlt (by rcases hv with h | h <;> omega)
    have st1:=st.next (k+1)
    have HP:Hid (wr.iterPos (b1+1)=k):=iterPos_of st.it
    clear st
    generalize wr.iterAt (b1+1) s (k+1)=wr1 at *
    go_wp2_with (first | (at_builtin;(refine app_byte2 w wr1 rfl (.tmp 23) (.tmp 26) rfl w.heap.size _ l s[k].toNat _ (by omega) rfl st1.own rfl (by omega) st1.size st1.bel ?_)))
    intro v2 w2 ho2 hb2 hk2
    have st2:=st1.app ho2 hb2 hk2
    clear st1 ho2 hb2 hk2
    have HT:Hid (M.hear (M.trail l) s[k].toNat=M.trail (l++[s[k].toNat])):=(M.trail_snoc _ _).symm
    have hle:(l++[s[k].toNat]).length≤4001:=by simp;omega
    have hr5:(M.trail (l++[s[k].toNat])).2≤5:=by
     rw[M.trail_snoc];exact Nat.le_trans (M.hear_le _ _) (by omega)
    unfold M.stStep at HS
    generalize hl1:l++[s[k].toNat]=l1 at *
    clear hl1
    by_cases h5:(M.trail l1).2=5
    ·have HS':Hid (M.stuffL (List.take (k+1) (lt s))=l1++[97-s[k].toNat]):=by have:=HS.out;rw[if_pos h5] at this;exact this
     have hd5:decide ((M.trail l1).2=5)=true:=decide_eq_true h5
     have HT2:Hid (M.hear (M.trail l1) (97-s[k].toNat)=M.trail (l1++[97-s[k].toNat])):=(M.trail_snoc _ _).symm
     clear HS h5
     go_wp2_with (first | (go_at_call 122;refine (hear_any _ b1 _ s[k].toNat st2.run (by omega)).mono ?_;rw[HT.out];rintro e w3 ⟨rfl,hr3,hg3⟩))
     have st3:=st2.hear hr3 hg3
     clear st2 hr3 hg3
     go_wp2_with (first | (go_at_call 123;refine (full_any _ b1 _ st3.run).mono ?_;rw[hd5];rintro e w4 ⟨rfl,rfl⟩))
     have hv97:((97-s[k].toNat:Nat):Int)<256:=by omega
     have HO:Hid (∀ w,Calls Tryz.prog 124 #[.int .i32 (s[k].toNat:Int)] w fun e w'=>e = .returned (.int .i32 ((97-s[k].toNat:Nat):Int))∧w=w'):=fun w=>opp_any _ w hv
     generalize 97-s[k].toNat=c' at *
     refine (HO.out _).mono ?_
     rintro e w4 ⟨rfl,rfl⟩
     go_wp2_with (first | (at_builtin;(refine app_byte2 w w3 rfl (.tmp 31) (.tmp 35) rfl w.heap.size _ l1 c' _ (by omega) rfl st3.own rfl (by omega) st3.size st3.bel ?_)))
     intro v5 w5 ho5 hb5 hk5
     have st5:=st3.app ho5 hb5 hk5
     clear st3 ho5 hb5 hk5
     go_wp2_with fail
     refine (HO.out _).mono ?_
     rintro e w6 ⟨rfl,rfl⟩
     go_wp2_with (first | (go_at_call 122;refine (hear_any _ b1 _ c' st5.run (by omega)).mono ?_;rw[HT2.out];rintro e w7 ⟨rfl,hr7,hg7⟩))
     have st7:=st5.hear hr7 hg7
     clear st5 hr7 hg7
     go_roundw
     case rel=>exact⟨k+1,by omega,by rw[HS'.out];exact st7⟩
     case measure=>rw[iterPos_of st7.it,HP.out];omega
    ·have HS':Hid (M.stuffL (List.take (k+1) (lt s))=l1):=by have:=HS.out;rw[if_neg h5] at this;exact this
     have hd5:decide ((M.trail l1).2=5)=false:=decide_eq_false h5
     clear HS h5
     go_wp2_with (first | (go_at_call 122;refine (hear_any _ b1 _ s[k].toNat st2.run (by omega)).mono ?_;rw[HT.out];rintro e w3 ⟨rfl,hr3,hg3⟩))
     have st3:=st2.hear hr3 hg3
     clear st2 hr3 hg3
     go_wp2_with (first | (go_at_call 123;refine (full_any _ b1 _ st3.run).mono ?_;rw[hd5];rintro e w4 ⟨rfl,rfl⟩))
     go_roundw
     case rel=>exact⟨k+1,by omega,by rw[HS'.out];exact st3⟩
     case measure=>rw[iterPos_of st3.it,HP.out];omega
   ·have hke:(lt s).take k=lt s:=List.take_of_length_le (by rw[lt_length];omega)
    rw[hke] at st
    have hcv:=conv_own st.own (isL_lt (M.stuff_all _ (lt_isL HK.out)))
    have HZ:Hid (stuffZ s=strN (M.stuffL (lt s))):=by simp[stuffZ,HK.out,Hid]
    have hnx:∀ ty,(Instr.next (.pointer (some ⟨b1+1,0,none⟩)) true ty).run Tryz.prog wr=_:=fun ty=>Lib.run_next_end_at wr (b1+1) s k ty st.it hlt
    have hbel:=st.bel
    clear st
    generalize M.stuffL (lt s)=l at *
    clear hke
    go_wp2
    go_ret
    exact⟨ret_str HZ.out.symm,hbel⟩
theorem stuff_any (s:ByteArray) (w:World) :
  Calls Tryz.prog 93 #[.string s] w fun e w'=>e = .returned (.string (stuffZ s))∧Below w.heap.size w w':=by
 by_cases hk:okT s 2000=true
 ·exact stuff_ok s w hk
 ·have hk':okT s 2000=false:=by simpa using hk
  have HZ:Hid (stuffZ s=⟨#[]⟩):=by simp[stuffZ,hk',Hid]
  clear hk
  go_enter Tryz.func93,Tryz.ntmps93
  go_wp2_with (go_at_call 120;refine (isBitText_any _ _ _).mono ?_;rintro e w1 ⟨rfl,hb1⟩)
  go_ret
  exact⟨ret_str HZ.out.symm,hb1⟩
theorem arbL_length (e:Bool) (i:Nat) (r:Bool):(arbL e i r).length≤32:=by
 cases e <;> simp[arbL,M.num_length]
theorem sizeRes_any (w:World) (e:Bool) (i:Nat) (r:Bool) (d:Int) (a:Option Addr) (n cap:Nat) :
  Calls Tryz.prog 119 #[.int .i64 7,frV e i r d a n cap] w fun o w'=>o = .returned (.int .i64 ((1+e.toNat:Nat):Int))∧w.alloc (frC e i r d a n cap 37)=w':=by
 cases e
 ·go_enter Tryz.func119,Tryz.ntmps119
  go_wp2
  go_ret
  exact⟨rfl,rfl⟩
 ·go_enter Tryz.func119,Tryz.ntmps119
  go_wp2
  go_ret
  exact⟨rfl,rfl⟩
theorem own_one (w:World) (c:Nat) (B:Nat) (hB:B≤w.heap.size):ownsB (w.alloc (.cells #[.int .u8 (c:Int)] 5)) B (.slice (some ⟨w.heap.size,0,none⟩) 1 1) [c]:=
 World.ownsRow_lit w #[.int .u8 (c:Int)] 1 hB (by decide) rfl
theorem flat_lenV (l:List Nat):(l.flatMap (fun x=>M.num x 8)).length=8*l.length:=by
 induction l with
 | nil=>rfl
 | cons a l ih=>rw[List.flatMap_cons,List.length_append,ih,M.num_length,List.length_cons];omega
set_option maxHeartbeats 2000000 in
set_option maxRecDepth 20000 in
theorem body_ok (w:World) (e:Bool) (i:Nat) (r:Bool) (dn:Nat) (a:Option Addr) (n cap:Nat) (l:List Nat) (h:isBytes w a n cap l) (hv:validB e i r (dn:Int) n=true) :
  Calls Tryz.prog 90 #[frV e i r (dn:Int) a n cap] w fun o w'=>o = .returned (.string (strN (bodyL e i r dn l)))∧Below w.heap.size w w':=by
 obtain⟨hi,_,_,hd15,hn8⟩:=validB_true hv
 have HV:Hid (validB e i r (dn:Int) n=true):=hv
 have HH:Hid (isBytes w a n cap l):=h
 have hW:Below w.heap.size w (w.alloc (frC e i r (dn:Int) a n cap 37)):=(Below.refl _ _).alloc (Nat.le_refl _) _
 have HW:Hid (Below w.heap.size w (w.alloc (frC e i r (dn:Int) a n cap 37))∧(w.alloc (frC e i r (dn:Int) a n cap 37)).heap[w.heap.size]?=some (frC e i r (dn:Int) a n cap 37)):=⟨hW,heap_alloc_new w _⟩
 clear hv h hW
 go_enter Tryz.func90,Tryz.ntmps90
 go_wp2_with fail
 refine (valid_any _ e i r (dn:Int) a n cap l (HH.out.below HW.out.1)).mono ?_
 rw[HV.out]
 rintro o w1 ⟨rfl,hb1⟩
 have hB1:Below w.heap.size w w1:=HW.out.1.trans (hb1.mono (by simp))
 have hx1:=box_below HW.out.2 hb1 (by simp)
 have hz1:w.heap.size<w1.heap.size:=lt_of_block hx1
 have HX1:Hid (w1.heap[w.heap.size]?=some (frC e i r (dn:Int) a n cap 37)):=hx1
 have hc1:=frC_cells hx1
 clear hb1 hx1
 have hy1:=HH.out.below hB1
 have HY1:Hid (isBytes w1 a n cap l):=hy1
 clear hy1
 go_wp2_with fail
 have hWb:Below w1.heap.size w1 (w1.alloc (.cells #[.int .u8 48] 5)):=(Below.refl _ _).alloc (Nat.le_refl _) _
 have hWz:w1.heap.size≤(w1.alloc (.cells #[.int .u8 48] 5)).heap.size:=by simp
 refine (appendArb_any _ w1.heap.size _ [48] (own_one w1 48 w1.heap.size (Nat.le_refl _)) hWz (by simp) e i r (dn:Int) a n cap (by omega)).mono ?_
 rintro o w2 ⟨v2,rfl,ho2,hb2,_⟩
 have hB2:=hWb.trans hb2
 have hx2:=box_below HX1.out hB2 hz1
 have hc2:=frC_cells hx2
 have hz2:w1.heap.size≤w2.heap.size:=hB2.size
 clear hb2 hWb hWz hc1 hx2
 go_wp2_with (first | (go_at_call 119;refine (sizeRes_any _ _ _ _ _ _ _ _).mono ?_;rintro o w3 ⟨rfl,rfl⟩))
 have ho2':ownsB (w2.alloc (frC e i r (dn:Int) a n cap 37)) w1.heap.size v2 ([48]++arbL e i r):=World.ownsRow.alloc ho2 _
 have hB3:Below w1.heap.size w1 (w2.alloc (frC e i r (dn:Int) a n cap 37)):=hB2.alloc hz2 _
 have hal:=arbL_length e i r
 refine (appendBits_any _ w1.heap.size v2 _ 0 (1+e.toNat) ho2' (by simp;omega) (by simp;omega) (by omega) (by cases e <;> simp)).mono ?_
 rintro o w4 ⟨v4,rfl,ho4,hb4,_⟩
 have hB4:=hB3.trans hb4
 have hx4:=box_below HX1.out hB4 hz1
 have hc4:=frC_cells hx4
 have hz4:w1.heap.size≤w4.heap.size:=hB4.size
 clear hb4 hB3 hB2 hc2 hx4 ho2 ho2' hz2
 go_wp2_with fail
 refine (appendBits_any _ w1.heap.size v4 _ dn 4 ho4 hz4 (by simp[M.num_length];cases e <;> simp <;> omega) (by omega) (by omega)).mono ?_
 rintro o w5 ⟨v5,rfl,ho5,hb5,_⟩
 have hB5:=hB4.trans hb5
 have hx5:=box_below HX1.out hB5 hz1
 have hc5:=frC_cells hx5
 have hz5:w1.heap.size≤w5.heap.size:=hB5.size
 clear hb5 hB4 hc4 hx5 ho4 hz4
 have hpl:([48]++arbL e i r++M.num 0 (1+e.toNat)++M.num dn 4).length≤100:=by simp[M.num_length];cases e <;> simp <;> omega
 have HBD:Hid (bodyL e i r dn l=[48]++arbL e i r++M.num 0 (1+e.toNat)++M.num dn 4++l.flatMap (fun x=>M.num x 8)):=rfl
 generalize [48]++arbL e i r++M.num 0 (1+e.toNat)++M.num dn 4=pre at *
 go_wp2_with fail
 by_cases hl:l=[]
 ·have hn0:n=0:=by have:=HY1.out.len;rw[hl] at this;simpa using this
  subst hn0 hl
  have hz0:¬ (0:Int)<((0:Nat):Int):=by omega
  go_loopw [3,5,24] (fun v _ idx wr=>idx = .int .i64 0∧ownsB wr w1.heap.size v pre∧Below w1.heap.size w1 wr) (fun _ _ _ _=>0)
  case atStart=>exact⟨rfl,ho5,hB5⟩
  case round=>
   clear ho5 hB5 hc5
   obtain⟨rfl,ho,hb⟩:=hrel
   have hall:∀ x ∈ pre,M.isL x:=fun x hx=>bodyL_isL e i r dn [] x (by rw[HBD.out];simp[hx])
   have hcv:=conv_own ho (isL_lt hall)
   clear hall
   go_wp2
   go_ret
   exact⟨ret_str (by rw[HBD.out];simp),hB1.trans (hb.mono (by omega))⟩
 ·obtain⟨g,off,rfl,hcl⟩:=HY1.out.cells hl
  have hlen:=HY1.out.len
  have hn1:n≤l.length:=by omega
  have hn2:l.length≤n:=by omega
  have hsm:=HY1.out.small
  have HSM:Hid (∀ x ∈ l,x<256):=hsm
  clear hlen hsm
  have hgz:g<w1.heap.size:=World.block_lt_of_cell? w1 _ (hcl 0 (by have:=List.length_pos_iff.2 hl;omega))
  go_loopw [3,5,24] (fun v _ idx wr=>∃ k:Nat,k≤n∧idx = .int .i64 k∧ownsB wr w1.heap.size v (pre++(l.take k).flatMap (fun x=>M.num x 8))∧Below w1.heap.size w1 wr∧w1.heap.size≤wr.heap.size) (fun _ _ idx _=>n-(intOf idx).toNat)
  case atStart=>exact⟨0,Nat.zero_le _,rfl,by simpa using ho5,hB5,hz5⟩
  case round=>
   clear ho5 hB5 hz5 hc5
   obtain⟨k,hk,rfl,ho,hb,hz⟩:=hrel
   by_cases hlt:k<n
   ·have hc:wr.cell? ⟨g,off+k,none⟩=some (.int .u8 (l[k]:Int)):=(hb.cell (by exact hgz)).trans (hcl k (by omega))
    have hx256:=HSM.out l[k] (List.getElem_mem _)
    have HF:Hid (pre++(l.take (k+1)).flatMap (fun x=>M.num x 8)=pre++(l.take k).flatMap (fun x=>M.num x 8)++M.num l[k] 8):=flat_snoc l k (by omega) pre
    have hpl2:(pre++(l.take k).flatMap (fun x=>M.num x 8)).length≤1000:=by rw[List.length_append,flat_lenV,List.length_take];omega
    generalize l[k]=x at *
    generalize pre++(l.take k).flatMap (fun x=>M.num x 8)=p1 at *
    go_wp2_with (first | (go_at_call 91;refine (appendBits_any _ w1.heap.size _ p1 x 8 ho hz (by omega) (by omega) (by omega)).mono ?_;rintro o w7 ⟨v7,rfl,ho7,hb7,_⟩))
    have hb8:=hb.trans hb7
    have hz7:w1.heap.size≤w7.heap.size:=hb8.size
    clear ho hb hz hb7
    go_roundw
    case rel=>exact⟨k+1,by omega,by go_num,by rw[HF.out];exact ho7,hb8,hz7⟩
    case measure=>simp[intOf];omega
   ·have hke:l.take k=l:=List.take_of_length_le (by omega)
    rw[hke] at ho
    have hall:∀ x ∈ pre++l.flatMap (fun x=>M.num x 8),M.isL x:=fun x hx=>bodyL_isL e i r dn l x (by rw[HBD.out];exact hx)
    have hcv:=conv_own ho (isL_lt hall)
    clear hall hke
    generalize pre++l.flatMap (fun x=>M.num x 8)=p1 at *
    go_wp2
    go_ret
    exact⟨ret_str (by rw[HBD.out]),hB1.trans (hb.mono (by omega))⟩
set_option maxHeartbeats 1000000 in
theorem body_any (w:World) (e:Bool) (i:Nat) (r:Bool) (d:Int) (a:Option Addr) (n cap:Nat) (l:List Nat) (h:isBytes w a n cap l) :
  Calls Tryz.prog 90 #[frV e i r d a n cap] w fun o w'=>o = .returned (.string (bodyZ e i r d n l))∧Below w.heap.size w w':=by
 by_cases hv:validB e i r d n=true
 ·obtain⟨_,_,hd0,_,_⟩:=validB_true hv
  obtain⟨dn,rfl⟩:=Int.eq_ofNat_of_zero_le hd0
  refine (body_ok w e i r dn a n cap l h hv).mono ?_
  rintro o w' ⟨rfl,hb⟩
  exact⟨ret_str (by simp[bodyZ,hv]),hb⟩
 ·have hv':validB e i r d n=false:=by simpa using hv
  have HZ:Hid (bodyZ e i r d n l=⟨#[]⟩):=by simp[bodyZ,hv',Hid]
  have HV:Hid (validB e i r d n=false):=hv'
  have HH:Hid (isBytes w a n cap l):=h
  clear hv hv' h
  go_enter Tryz.func90,Tryz.ntmps90
  go_wp2_with (first | (go_at_call 89;refine (valid_any _ e i r d a n cap l (HH.out.below ((Below.refl _ _).alloc (Nat.le_refl _) _))).mono ?_;rw[HV.out];rintro o w1 ⟨rfl,hb1⟩))
  go_ret
  exact⟨ret_str HZ.out.symm,((Below.refl w.heap.size w).alloc (Nat.le_refl _) _).trans (hb1.mono (by simp))⟩
theorem lt_strN (l:List Nat) (h:∀ x ∈ l,x<256):lt (strN l)=l:=by
 unfold lt strN
 simp only[List.map_map]
 conv=>rhs;rw[← List.map_id l]
 apply List.map_congr_left
 intro x hx
 have:=h x hx
 simp;omega
theorem bl_strN (l:List Nat) (h:∀ x ∈ l,x<256):bl (strN l)=l.map (fun x=>x-48):=by
 have:bl (strN l)=(lt (strN l)).map (fun x=>x-48):=by unfold bl lt;simp
 rw[this,lt_strN l h]
theorem okT_strN (l:List Nat) (m:Int) (h:∀ x ∈ l,M.isL x) (hm:(l.length:Int)≤m):okT (strN l) m=true:=by
 unfold okT
 rw[Bool.and_eq_true,decide_eq_true_iff,strN_size]
 refine⟨hm,?_⟩
 rw[List.all_eq_true]
 intro c hc
 unfold strN at hc
 simp at hc
 obtain⟨x,hx,rfl⟩:=hc
 rcases h x hx with rfl | rfl <;> rfl
theorem stuffZ_strN (l:List Nat) (h:∀ x ∈ l,M.isL x) (hm:l.length≤2000):stuffZ (strN l)=strN (M.stuffL l):=by
 unfold stuffZ
 rw[if_pos (okT_strN l 2000 h (by omega)),lt_strN l (isL_lt h)]
theorem crcZ_strN (l:List Nat) (h:∀ x ∈ l,M.isL x) (hm:l.length≤2000):crcZ (strN l)=((M.crcN (l.map (fun x=>x-48)):Nat):Int):=by
 unfold crcZ
 rw[if_pos (okT_strN l 2000 h (by omega)),bl_strN l (isL_lt h)]
def plainL (e:Bool) (i:Nat) (r:Bool) (d:Nat) (l:List Nat):List Nat:=
 bodyL e i r d l++M.num (M.crcN ((bodyL e i r d l).map (fun x=>x-48))) 15
def encZ (e:Bool) (i:Nat) (r:Bool) (d:Int) (n:Nat) (l:List Nat):ByteArray:=
 if validB e i r d n=true then strN (M.stuffL (plainL e i r d.toNat l)++List.replicate 10 49) else ⟨#[]⟩
theorem plainL_isL (e:Bool) (i:Nat) (r:Bool) (d:Nat) (l:List Nat):∀ x ∈ plainL e i r d l,M.isL x:=by
 intro x hx
 unfold plainL at hx
 rw[List.mem_append] at hx
 rcases hx with hx|hx
 ·exact bodyL_isL e i r d l x hx
 ·exact M.num_isL _ _ x hx
theorem plainL_length (e:Bool) (i:Nat) (r:Bool) (d:Nat) (l:List Nat):(plainL e i r d l).length=(if e=true then 54 else 34)+8*l.length:=by
 unfold plainL
 rw[List.length_append,bodyL_length,M.num_length]
 cases e <;> simp <;> omega
set_option maxHeartbeats 1000000 in
set_option maxRecDepth 20000 in
theorem encode_any (w:World) (e:Bool) (i:Nat) (r:Bool) (d:Int) (a:Option Addr) (n cap:Nat) (l:List Nat) (h:isBytes w a n cap l) :
  Calls Tryz.prog 61 #[frV e i r d a n cap] w fun o w'=>o = .returned (.string (encZ e i r d n l))∧Below w.heap.size w w':=by
 have HH:Hid (isBytes w a n cap l):=h
 have HW:Hid (Below w.heap.size w (w.alloc (frC e i r d a n cap 37))∧(w.alloc (frC e i r d a n cap 37)).heap[w.heap.size]?=some (frC e i r d a n cap 37)):=⟨(Below.refl _ _).alloc (Nat.le_refl _) _,heap_alloc_new w _⟩
 have hlen:=h.len
 clear h
 by_cases hv:validB e i r d n=true
 ·have hn8:=(validB_true hv).2.2.2.2
  have HZ:Hid (encZ e i r d n l=strN (M.stuffL (plainL e i r d.toNat l)++List.replicate 10 49)):=by simp[encZ,hv,Hid]
  have HBZ:Hid (bodyZ e i r d n l=strN (bodyL e i r d.toNat l)):=by simp[bodyZ,hv,Hid]
  have HV:Hid (validB e i r d n=true):=hv
  have hbl:=bodyL_length e i r d.toNat l
  have hbl':(bodyL e i r d.toNat l).length≤200:=by rw[hbl];split <;> omega
  have HC:Hid (crcZ (strN (bodyL e i r d.toNat l))=((M.crcN ((bodyL e i r d.toNat l).map (fun x=>x-48)):Nat):Int)):=crcZ_strN _ (bodyL_isL _ _ _ _ _) (by omega)
  have hc:=M.crcN_lt ((bodyL e i r d.toNat l).map (fun x=>x-48))
  have HP:Hid (strN (bodyL e i r d.toNat l)++strN (M.num (M.crcN ((bodyL e i r d.toNat l).map (fun x=>x-48))) 15)=strN (plainL e i r d.toNat l)):=by rw[strN_append];exact rfl
  have hpl:=plainL_length e i r d.toNat l
  have hpl':(plainL e i r d.toNat l).length≤200:=by rw[hpl];split <;> omega
  have HS:Hid (stuffZ (strN (plainL e i r d.toNat l))=strN (M.stuffL (plainL e i r d.toNat l))):=stuffZ_strN _ (plainL_isL _ _ _ _ _) (by omega)
  have hst:(strN (M.stuffL (plainL e i r d.toNat l))).size≤400:=by rw[strN_size];have:=M.stuff_len (plainL e i r d.toNat l);omega
  have HT:Hid (strN (M.stuffL (plainL e i r d.toNat l))++strN (List.replicate 10 49)=strN (M.stuffL (plainL e i r d.toNat l)++List.replicate 10 49)):=strN_append _ _
  have hbs:(strN (bodyL e i r d.toNat l)).size≤200:=by rw[strN_size];exact hbl'
  clear hv hbl hbl' hpl hpl' hlen
  generalize M.crcN ((bodyL e i r d.toNat l).map (fun x=>x-48))=c at *
  generalize strN (M.stuffL (plainL e i r d.toNat l))=ss at *
  generalize strN (plainL e i r d.toNat l)=ps at *
  generalize strN (bodyL e i r d.toNat l)=bs at *
  go_enter Tryz.func61,Tryz.ntmps61
  go_wp2_with fail
  refine (valid_any _ e i r d a n cap l (HH.out.below HW.out.1)).mono ?_
  rw[HV.out]
  rintro o w1 ⟨rfl,hb1⟩
  have hB1:Below w.heap.size w w1:=HW.out.1.trans (hb1.mono (by simp))
  have hx1:=box_below HW.out.2 hb1 (by simp)
  have hc1:=frC_cells hx1
  clear hb1 hx1
  go_wp2_with fail
  refine (body_any _ e i r d a n cap l (HH.out.below hB1)).mono ?_
  rw[HBZ.out]
  rintro o w2 ⟨rfl,hb2⟩
  have hB2:=hB1.trans (hb2.mono hB1.size)
  clear hb2 hB1 hc1
  go_wp2_with fail
  refine (crc15_any _ _).mono ?_
  rw[HC.out]
  rintro o w3 ⟨rfl,hb3⟩
  have hB3:=hB2.trans (hb3.mono hB2.size)
  clear hb3 hB2
  go_wp2_with fail
  refine (appendBits_any _ w3.heap.size _ [] c 15 (ownsB_nil w3 _) (Nat.le_refl _) (by simp) (by omega) (by omega)).mono ?_
  rintro o w4 ⟨v4,rfl,ho4,hb4,_⟩
  rw[List.nil_append] at ho4
  have hB4:=hB3.trans (hb4.mono hB3.size)
  have hcv:=conv_own ho4 (isL_lt (M.num_isL _ _))
  have hs15:(strN (M.num c 15)).size≤15:=by rw[strN_size,M.num_length];omega
  clear hb4 hB3 ho4
  go_wp2_with fail
  rw[HP.out]
  refine (stuff_any _ _).mono ?_
  rw[HS.out]
  rintro o w5 ⟨rfl,hb5⟩
  have hB5:=hB4.trans (hb5.mono hB4.size)
  clear hcv
  go_wp2
  go_ret
  exact⟨ret_str (by rw[HZ.out,← HT.out];rfl),hB5⟩
 ·have hv':validB e i r d n=false:=by simpa using hv
  have HZ:Hid (encZ e i r d n l=⟨#[]⟩):=by simp[encZ,hv',Hid]
  have HV:Hid (validB e i r d n=false):=hv'
  clear hv hv' hlen
  go_enter Tryz.func61,Tryz.ntmps61
  go_wp2_with (first | (go_at_call 89;refine (valid_any _ e i r d a n cap l (HH.out.below HW.out.1)).mono ?_;rw[HV.out];rintro o w1 ⟨rfl,hb1⟩))
  go_ret
  exact⟨ret_str HZ.out.symm,HW.out.1.trans (hb1.mono (by simp))⟩
end Go.Proofs.YtgkkcpgocbcbaaaGreat
