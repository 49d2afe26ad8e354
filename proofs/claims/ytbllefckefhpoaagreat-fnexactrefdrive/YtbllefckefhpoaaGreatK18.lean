import Derived.Test.YtbllefckefhpoaaGreatK17
namespace Go.Proofs.YtbllefckefhpoaaGreat
open Go.RowKit
set_option linter.unusedVariables false
set_option maxHeartbeats 16000000
open Go.Value renaming int→I,slice→sL,bool→bO,pointer→pT,agg→aG
open Go.IntKind renaming i64→J
open Go.Ending renaming returned→rT
open Go.Proofs.Tryz renaming prog→Tp
def swZ (s:ByteArray):Nat × List Nat × Bool:=if okT s 4000=true then swF (lt s) (lt s).length 0 else (8,[],false)
structure wlI (w0:World) (B ga:Nat) (L:List Nat) (v:Value) (p:List Nat) (w:World):Prop where
 own:ownsB w B v p
 row:rowB w ga L.length (fun t=>L.getD t 0)
 lt:ga<w.heap.size
 ne:v.ownBlock≠some ga
 bel:Below B w0 w
 le:B≤w.heap.size
theorem rowB.block {w w':World} {g n:Nat} {f:Nat→Nat} (h:rowB w g n f) (hb:w'.heap[g]?=w.heap[g]?):rowB w' g n f:=
 ⟨fun t ht=>by rw[← h.cell t ht];simp only[World.cell?,hb],fun t ht=>by rw[← h.free t ht];simp only[World.frozen?,hb]⟩
theorem wlI.below {w0:World} {B ga:Nat} {L:List Nat} {v:Value} {p:List Nat} {w w':World} (h:wlI w0 B ga L v p w) (hb:Below w.heap.size w w'):wlI w0 B ga L v p w':=
 ⟨h.own.below hb,h.row.block (hb.block ga h.lt),Nat.lt_of_lt_of_le h.lt hb.size,h.ne,h.bel.trans (hb.mono h.le),Nat.le_trans h.le hb.size⟩
theorem wlI.app {w0:World} {B ga:Nat} {L:List Nat} {v v':Value} {p p':List Nat} {w w':World} (h:wlI w0 B ga L v p w) (ho:ownsB w' B v' p') (hb:Below B w0 w') (hk:∀ g,g<w.heap.size→v.ownBlock≠some g→w'.heap[g]?=w.heap[g]?∧v'.ownBlock≠some g) (hz:w.heap.size≤w'.heap.size):wlI w0 B ga L v' p' w':=
 ⟨ho,h.row.block (hk ga h.lt h.ne).1,Nat.lt_of_lt_of_le h.lt hz,(hk ga h.lt h.ne).2,hb,Nat.le_trans h.le hz⟩
theorem convS (s:ByteArray) (w:World):∃ cap w',(convert 9 65 (.string s)).run Tp w = .ok (sL (some ⟨w.heap.size,0,none⟩) s.size cap) w'∧rowB w' w.heap.size s.size (fun t=>(lt s).getD t 0)∧Below w.heap.size w w'∧w'.heap.size=w.heap.size+1:=by
 refine⟨_,_,run_bytes_of_string w 9 65 5 s Tryz.underlying9 Tryz.underlying65 Tryz.underlying5,rowB_bytes w.drew s _,(Below.refl w.heap.size w).drew.alloc (Nat.le_refl _) _,by simp⟩
theorem swF_succ (L:List Nat) (f i:Nat):swF L (f+1) i=if goesOnB (sw L i).1=true then swF L f (i+1) else (7,(sw L i).2.1,false):=rfl
theorem sw_due0 (L:List Nat) (k:Nat) (h:(sw L k).2.2=true):∃ m,k=m+1:=by
 cases k with
 | zero=>cases h
 | succ m=>exact⟨m,rfl⟩
set_option maxRecDepth 20000 in
theorem l1walk_ok (s:ByteArray) (w:World) (hs:s.size≤maxLen) (hk:okT s 4000=true) :
  Calls Tp 31 #[.string s] w fun e w'=>∃ v,e = rT (.tuple #[I J ((swZ s).1:Nat),v,bO (swZ s).2.2])∧ownsB w' w.heap.size v (swZ s).2.1∧Below w.heap.size w w':=by
 have hsz:=okT_size hk
 have HZ:Hid (swZ s=swF (lt s) s.size 0):=by unfold Hid swZ;rw[if_pos hk,lt_length]
 have HK:Hid (∀ x ∈ lt s,M.isL x):=lt_isL hk
 have HKK:Hid (okT s 4000=true):=hk
 clear hk;have hs':s.size≤100000:=by omega
 have HS:Hid (s.size≤maxLen):=hs
 clear hs;obtain⟨cap,wc,hcv,hrow,hbc,hzc⟩:=convS s (w.alloc (.cells #[] 5))
 go_enter Tryz.func31,Tryz.ntmps31
 go_wp2_with (go_at_call 56;refine (okBits_any _ _ _ HS.out).mono ?_;rw[HKK.out];rintro e w1 ⟨rfl,rfl⟩)
 have st0:wlI w w.heap.size (w.heap.size+1) (lt s) (sL (some ⟨w.heap.size,0,none⟩) 0 0) [] wc:=by
  have e:(w.alloc (.cells #[] 5)).heap.size=w.heap.size+1:=by simp
  rw[e] at hrow hbc hzc
  refine⟨(own_nil w w.heap.size (Nat.le_refl _)).below (by rw[e];exact hbc),by rw[lt_length];exact hrow,by omega,by simp[Value.ownBlock],((Below.refl w.heap.size w).alloc (Nat.le_refl _) _).trans (hbc.mono (by omega)),by omega⟩
 clear hcv hrow hbc hzc;generalize hga:w.heap.size+1=ga at *;have HLen:Hid ((lt s).length=s.size):=lt_length s
 generalize hLs:lt s=L at *;clear hLs;go_loopw [5,7,8,9] (fun v c d i wr=>∃ k:Nat,k≤s.size∧i = I J k∧c = I J ((sw L k).1:Nat)∧d = bO (sw L k).2.2∧wlI w w.heap.size ga L v (sw L k).2.1 wr∧swF L s.size 0=swF L (s.size-k) k) (fun _ _ _ i _=>s.size-(intOf i).toNat)
 case atStart=>exact⟨0,Nat.zero_le _,rfl,rfl,rfl,st0,rfl⟩
 case round=>
  clear st0;obtain⟨k,hk,rfl,rfl,rfl,st,hsw⟩:=hrel
  by_cases hlt:k<s.size
  ·have hnk:s.size-k=(s.size-(k+1))+1:=by omega
   rw[hnk] at hsw
   rw[swF_succ] at hsw
   by_cases hgo:goesOnB (sw L k).1=true
   ·rw[if_pos hgo] at hsw
    have hL:k<L.length:=by rw[HLen.out];exact hlt
    have hv:M.isL (L.getD k 0):=by
     have e:L.getD k 0=L[k]:=by simp[hL]
     rw[e];exact HK.out _ (List.getElem_mem hL)
    have hpl:=sw_len L k
    have hps:∀ x ∈ (sw L k).2.1,x<256:=fun x hx=>by rcases sw_small L HK.out k (by rw[HLen.out];exact hk) x hx with h | h <;> omega
    have ck:=st.row.cell k hL
    have HST:Hid (sw L (k+1)=swStep L k (sw L k)):=rfl
    have HSW:Hid (swF L s.size 0=swF L (s.size-(k+1)) (k+1)):=hsw
    have HD0:Hid ((sw L k).2.2=true→∃ m,k=m+1):=sw_due0 L k
    have hcode:(sw L k).1=0∨(sw L k).1=1:=by simpa[goesOnB] using hgo
    have hvx:L.getD k 0<256:=by rcases hv with h | h <;> omega
    clear hsw hgo hnk;unfold swStep at HST
    generalize (sw L k).1=code at *;generalize (sw L k).2.1=p at *;generalize (sw L k).2.2=d at *;have ST:Hid (wlI w w.heap.size ga L u5 p wr):=st
    have HV:Hid (M.isL (L.getD k 0)):=hv
    have hl1:(lt s).length=(lt s).length:=rfl
    clear st hv hl1;rcases hcode with rfl|rfl
    ·cases d
     ·-- a plain letter
      have HR2:Hid (sw L (k+1)=(lookL p (L.getD k 0),p++[L.getD k 0],dueF (fun t=>L.getD t 0) (k+1) && (decide (fieldL (p++[L.getD k 0])≤10) || decide (fieldL (p++[L.getD k 0])=11)))):=HST.out
      clear HST HD0;have HK1:Hid ((k:Int)+1=((k+1:Nat):Int)):=by unfold Hid;omega
      have hps3:∀ x ∈ p++[L.getD k 0],x<256:=by
       intro x hx;rw[List.mem_append,List.mem_singleton] at hx
       rcases hx with hx|rfl
       ·exact hps x hx
       ·exact hvx
      obtain⟨ao,cp,rfl,hby⟩:=ST.out.own.bytes hps
      have HC:Hid (∀ w',Below wr.heap.size wr w'→w'.cell? ⟨ga,k,none⟩=some (I .u8 (L.getD k 0:Nat))):=fun w' hb=>(ST.out.below hb).row.cell k hL
      have HL90:Hid (Calls Tp 57 #[sL ao p.length cp,I .u8 (L.getD k 0:Nat)] wr fun e w'=>e = rT (I J (lookL p (L.getD k 0):Nat))∧Below wr.heap.size wr w'):=l1look_any wr ao _ cp p (L.getD k 0) HV.out hby (by omega)
      clear hby hps;generalize L.getD k 0=c at *;go_wp2_with fail;refine HL90.out.mono ?_
      rintro e w2 ⟨rfl,hb2⟩;have st2:=ST.out.below hb2
      have ck2:=HC.out w2 hb2
      clear ck HC HL90 ST hb2;generalize lookL p c=code2 at *;go_wp2_with (at_builtin;refine app_byte3 w w2 rfl (.tmp 47) (.tmp 52) rfl w.heap.size _ p c _ rfl rfl st2.own rfl (by omega) st2.le st2.bel ?_)
      intro v3 w3 ho3 hb3 hk3 hz3;have st3:=st2.app ho3 hb3 hk3 hz3
      clear st2 ho3 hb3 hk3 hz3 ck2;have row3:rowB w3 ga s.size (fun t=>L.getD t 0):=by rw[← HLen.out];exact st3.row
      go_wp2_with fail;rw[HK1.out]
      refine (due_any _ ga s.size cap (k+1) _ row3 (by omega) (by omega)).mono ?_
      rintro e w4 ⟨rfl,q,rfl⟩;have st4:wlI w w.heap.size ga L _ (p++[c]) (w3.drewN q):=st3.below (below_drewN (Below.refl _ _) q)
      clear row3;cases hD:dueF (fun t=>L.getD t 0) (k+1)
      ·have HR3:Hid (sw L (k+1)=(code2,(p++[c]),false)):=by unfold Hid;rw[HR2.out,hD];rfl
       clear HR2 hD;go_wp2
       go_roundw
       case rel=>exact⟨k+1,by omega,by go_num,by rw[HR3.out] <;> rfl,by rw[HR3.out],by rw[HR3.out];exact st4,HSW.out⟩
       case measure=>simp[intOf];omega
      ·have HR3:Hid (sw L (k+1)=(code2,(p++[c]),decide (fieldL ((p++[c]))≤10) || decide (fieldL ((p++[c]))=11))):=by unfold Hid;rw[HR2.out,hD];rfl
       clear HR2 hD;obtain⟨ao3,cp3,rfl,hby3⟩:=st4.own.bytes hps3
       have H68:Hid (Calls Tp 32 #[sL ao3 ((p++[c])).length cp3] (w3.drewN q) fun e w'=>e = rT (I J (fieldL ((p++[c])):Nat))∧w3.drewN q=w'):=l1field_any _ ao3 _ cp3 _ hby3 (by first | omega | (simp;omega))
       have ST4:Hid (wlI w w.heap.size ga L (sL ao3 ((p++[c])).length cp3) ((p++[c])) (w3.drewN q)):=st4
       clear st4 hby3;generalize fieldL ((p++[c]))=F at *;generalize (p++[c])=p3 at *;by_cases hF:F≤10
       ·have hF':(F:Int)≤10:=by omega
        have HR4:Hid (sw L (k+1)=(code2,p3,true)):=by unfold Hid;rw[HR3.out,decide_eq_true hF];rfl
        clear HR3 hF;go_wp2_with (go_at_call 32;refine H68.out.mono ?_;rintro e w5 ⟨rfl,rfl⟩)
        go_roundw
        case rel=>exact⟨k+1,by omega,by go_num,by rw[HR4.out] <;> rfl,by rw[HR4.out],by rw[HR4.out];exact ST4.out,HSW.out⟩
        case measure=>simp[intOf];omega
       ·have hF':¬ (F:Int)≤10:=by omega
        have HR4:Hid (sw L (k+1)=(code2,p3,((F:Int) == 11))):=by
         unfold Hid;rw[HR3.out,decide_eq_false hF,Bool.false_or]
         congr 2
         rw[Bool.eq_iff_iff];simp;omega
        have HFn:Hid (decide ((F:Int)≤10)=false):=decide_eq_false hF'
        clear HR3 hF;go_wp2_with (go_at_call 32;refine H68.out.mono ?_;rintro e w5 ⟨rfl,rfl⟩)
        go_roundw
        case rel=>exact⟨k+1,by omega,by go_num,by rw[HR4.out] <;> rfl,by rw[HR4.out,HFn.out] <;> rfl,by rw[HR4.out];exact ST4.out,HSW.out⟩
        case measure=>simp[intOf];omega
     ·-- a stuff letter is due
      obtain⟨m,hm⟩:=HD0.out rfl
      have HR2:Hid (sw L (k+1)=(if L.getD k 0=L.getD m 0 then 3 else 0,p,dueF (fun t=>L.getD t 0) (k+1) && (decide (fieldL p≤10) || decide (fieldL p=11)))):=by have:=HST.out;rw[show k-1=m by omega] at this;exact this
      clear HST HD0;have HK1:Hid ((k:Int)+1=((k+1:Nat):Int)):=by unfold Hid;omega
      have hps3:=hps
      have hkm:(k:Int)-1=(m:Int):=by omega
      have cm:wr.cell? ⟨ga,m,none⟩=some (I .u8 (L.getD m 0:Nat)):=ST.out.row.cell m (by omega)
      have st3:=ST.out.below (Below.refl wr.heap.size wr).drew
      clear ST hps HV;have hmlt:(m:Int)<(s.size:Int):=by omega
      have hm0:(0:Int)≤(m:Int):=by omega
      clear hm;by_cases hc:L.getD k 0=L.getD m 0
      ·have hc':((L.getD k 0:Int) == (L.getD m 0:Int))=true:=by rw[hc];exact beq_self_eq_true _
       have HR2':Hid (sw L (k+1)=(3,p,dueF (fun t=>L.getD t 0) (k+1) && (decide (fieldL p≤10) || decide (fieldL p=11)))):=by unfold Hid;rw[HR2.out,if_pos hc]
       clear HR2 hc;have HR2:=HR2'
       clear HR2';generalize L.getD k 0=c at *;generalize L.getD m 0=c1 at *;go_wp2
       go_region
       all_goals
        go_wp2_with fail;generalize wr.drew=wd at *;have row3:rowB wd ga s.size (fun t=>L.getD t 0):=by rw[← HLen.out];exact st3.row
        go_wp2_with fail;rw[HK1.out]
        refine (due_any _ ga s.size cap (k+1) _ row3 (by omega) (by omega)).mono ?_
        rintro e w4 ⟨rfl,q,rfl⟩;have st4:wlI w w.heap.size ga L _ p (wd.drewN q):=st3.below (below_drewN (Below.refl _ _) q)
        clear row3;cases hD:dueF (fun t=>L.getD t 0) (k+1)
        ·have HR3:Hid (sw L (k+1)=(3,p,false)):=by unfold Hid;rw[HR2.out,hD];rfl
         clear HR2 hD;go_wp2
         go_roundw
         case rel=>exact⟨k+1,by omega,by go_num,by rw[HR3.out] <;> rfl,by rw[HR3.out],by rw[HR3.out];exact st4,HSW.out⟩
         case measure=>simp[intOf];omega
        ·have HR3:Hid (sw L (k+1)=(3,p,decide (fieldL (p)≤10) || decide (fieldL (p)=11))):=by unfold Hid;rw[HR2.out,hD];rfl
         clear HR2 hD;obtain⟨ao3,cp3,rfl,hby3⟩:=st4.own.bytes hps3
         have H68:Hid (Calls Tp 32 #[sL ao3 (p).length cp3] (wd.drewN q) fun e w'=>e = rT (I J (fieldL (p):Nat))∧wd.drewN q=w'):=l1field_any _ ao3 _ cp3 _ hby3 (by first | omega | (simp;omega))
         have ST4:Hid (wlI w w.heap.size ga L (sL ao3 (p).length cp3) (p) (wd.drewN q)):=st4
         clear st4 hby3;generalize fieldL (p)=F at *;generalize p=p3 at *;by_cases hF:F≤10
         ·have hF':(F:Int)≤10:=by omega
          have HR4:Hid (sw L (k+1)=(3,p3,true)):=by unfold Hid;rw[HR3.out,decide_eq_true hF];rfl
          clear HR3 hF;go_wp2_with (go_at_call 32;refine H68.out.mono ?_;rintro e w5 ⟨rfl,rfl⟩)
          go_roundw
          case rel=>exact⟨k+1,by omega,by go_num,by rw[HR4.out] <;> rfl,by rw[HR4.out],by rw[HR4.out];exact ST4.out,HSW.out⟩
          case measure=>simp[intOf];omega
         ·have hF':¬ (F:Int)≤10:=by omega
          have HR4:Hid (sw L (k+1)=(3,p3,((F:Int) == 11))):=by
           unfold Hid;rw[HR3.out,decide_eq_false hF,Bool.false_or]
           congr 2
           rw[Bool.eq_iff_iff];simp;omega
          have HFn:Hid (decide ((F:Int)≤10)=false):=decide_eq_false hF'
          clear HR3 hF;go_wp2_with (go_at_call 32;refine H68.out.mono ?_;rintro e w5 ⟨rfl,rfl⟩)
          go_roundw
          case rel=>exact⟨k+1,by omega,by go_num,by rw[HR4.out] <;> rfl,by rw[HR4.out,HFn.out] <;> rfl,by rw[HR4.out];exact ST4.out,HSW.out⟩
          case measure=>simp[intOf];omega
      ·have hc':((L.getD k 0:Int) == (L.getD m 0:Int))=false:=by rw[beq_eq_false_iff_ne];omega
       have HR2':Hid (sw L (k+1)=(0,p,dueF (fun t=>L.getD t 0) (k+1) && (decide (fieldL p≤10) || decide (fieldL p=11)))):=by unfold Hid;rw[HR2.out,if_neg hc]
       clear HR2 hc;have HR2:=HR2'
       clear HR2';generalize L.getD k 0=c at *;generalize L.getD m 0=c1 at *;go_wp2
       go_region
       all_goals
        go_wp2_with fail;generalize wr.drew=wd at *;have row3:rowB wd ga s.size (fun t=>L.getD t 0):=by rw[← HLen.out];exact st3.row
        go_wp2_with fail;rw[HK1.out]
        refine (due_any _ ga s.size cap (k+1) _ row3 (by omega) (by omega)).mono ?_
        rintro e w4 ⟨rfl,q,rfl⟩;have st4:wlI w w.heap.size ga L _ p (wd.drewN q):=st3.below (below_drewN (Below.refl _ _) q)
        clear row3;cases hD:dueF (fun t=>L.getD t 0) (k+1)
        ·have HR3:Hid (sw L (k+1)=(0,p,false)):=by unfold Hid;rw[HR2.out,hD];rfl
         clear HR2 hD;go_wp2
         go_roundw
         case rel=>exact⟨k+1,by omega,by go_num,by rw[HR3.out] <;> rfl,by rw[HR3.out],by rw[HR3.out];exact st4,HSW.out⟩
         case measure=>simp[intOf];omega
        ·have HR3:Hid (sw L (k+1)=(0,p,decide (fieldL (p)≤10) || decide (fieldL (p)=11))):=by unfold Hid;rw[HR2.out,hD];rfl
         clear HR2 hD;obtain⟨ao3,cp3,rfl,hby3⟩:=st4.own.bytes hps3
         have H68:Hid (Calls Tp 32 #[sL ao3 (p).length cp3] (wd.drewN q) fun e w'=>e = rT (I J (fieldL (p):Nat))∧wd.drewN q=w'):=l1field_any _ ao3 _ cp3 _ hby3 (by first | omega | (simp;omega))
         have ST4:Hid (wlI w w.heap.size ga L (sL ao3 (p).length cp3) (p) (wd.drewN q)):=st4
         clear st4 hby3;generalize fieldL (p)=F at *;generalize p=p3 at *;by_cases hF:F≤10
         ·have hF':(F:Int)≤10:=by omega
          have HR4:Hid (sw L (k+1)=(0,p3,true)):=by unfold Hid;rw[HR3.out,decide_eq_true hF];rfl
          clear HR3 hF;go_wp2_with (go_at_call 32;refine H68.out.mono ?_;rintro e w5 ⟨rfl,rfl⟩)
          go_roundw
          case rel=>exact⟨k+1,by omega,by go_num,by rw[HR4.out] <;> rfl,by rw[HR4.out],by rw[HR4.out];exact ST4.out,HSW.out⟩
          case measure=>simp[intOf];omega
         ·have hF':¬ (F:Int)≤10:=by omega
          have HR4:Hid (sw L (k+1)=(0,p3,((F:Int) == 11))):=by
           unfold Hid;rw[HR3.out,decide_eq_false hF,Bool.false_or]
           congr 2
           rw[Bool.eq_iff_iff];simp;omega
          have HFn:Hid (decide ((F:Int)≤10)=false):=decide_eq_false hF'
          clear HR3 hF;go_wp2_with (go_at_call 32;refine H68.out.mono ?_;rintro e w5 ⟨rfl,rfl⟩)
          go_roundw
          case rel=>exact⟨k+1,by omega,by go_num,by rw[HR4.out] <;> rfl,by rw[HR4.out,HFn.out] <;> rfl,by rw[HR4.out];exact ST4.out,HSW.out⟩
          case measure=>simp[intOf];omega
    ·cases d
     ·-- a plain letter
      have HR2:Hid (sw L (k+1)=(lookL p (L.getD k 0),p++[L.getD k 0],dueF (fun t=>L.getD t 0) (k+1) && (decide (fieldL (p++[L.getD k 0])≤10) || decide (fieldL (p++[L.getD k 0])=11)))):=HST.out
      clear HST HD0;have HK1:Hid ((k:Int)+1=((k+1:Nat):Int)):=by unfold Hid;omega
      have hps3:∀ x ∈ p++[L.getD k 0],x<256:=by
       intro x hx;rw[List.mem_append,List.mem_singleton] at hx
       rcases hx with hx|rfl
       ·exact hps x hx
       ·exact hvx
      obtain⟨ao,cp,rfl,hby⟩:=ST.out.own.bytes hps
      have HC:Hid (∀ w',Below wr.heap.size wr w'→w'.cell? ⟨ga,k,none⟩=some (I .u8 (L.getD k 0:Nat))):=fun w' hb=>(ST.out.below hb).row.cell k hL
      have HL90:Hid (Calls Tp 57 #[sL ao p.length cp,I .u8 (L.getD k 0:Nat)] wr fun e w'=>e = rT (I J (lookL p (L.getD k 0):Nat))∧Below wr.heap.size wr w'):=l1look_any wr ao _ cp p (L.getD k 0) HV.out hby (by omega)
      clear hby hps;generalize L.getD k 0=c at *;go_wp2_with fail;refine HL90.out.mono ?_
      rintro e w2 ⟨rfl,hb2⟩;have st2:=ST.out.below hb2
      have ck2:=HC.out w2 hb2
      clear ck HC HL90 ST hb2;generalize lookL p c=code2 at *;go_wp2_with (at_builtin;refine app_byte3 w w2 rfl (.tmp 47) (.tmp 52) rfl w.heap.size _ p c _ rfl rfl st2.own rfl (by omega) st2.le st2.bel ?_)
      intro v3 w3 ho3 hb3 hk3 hz3;have st3:=st2.app ho3 hb3 hk3 hz3
      clear st2 ho3 hb3 hk3 hz3 ck2;have row3:rowB w3 ga s.size (fun t=>L.getD t 0):=by rw[← HLen.out];exact st3.row
      go_wp2_with fail;rw[HK1.out]
      refine (due_any _ ga s.size cap (k+1) _ row3 (by omega) (by omega)).mono ?_
      rintro e w4 ⟨rfl,q,rfl⟩;have st4:wlI w w.heap.size ga L _ (p++[c]) (w3.drewN q):=st3.below (below_drewN (Below.refl _ _) q)
      clear row3;cases hD:dueF (fun t=>L.getD t 0) (k+1)
      ·have HR3:Hid (sw L (k+1)=(code2,(p++[c]),false)):=by unfold Hid;rw[HR2.out,hD];rfl
       clear HR2 hD;go_wp2
       go_roundw
       case rel=>exact⟨k+1,by omega,by go_num,by rw[HR3.out] <;> rfl,by rw[HR3.out],by rw[HR3.out];exact st4,HSW.out⟩
       case measure=>simp[intOf];omega
      ·have HR3:Hid (sw L (k+1)=(code2,(p++[c]),decide (fieldL ((p++[c]))≤10) || decide (fieldL ((p++[c]))=11))):=by unfold Hid;rw[HR2.out,hD];rfl
       clear HR2 hD;obtain⟨ao3,cp3,rfl,hby3⟩:=st4.own.bytes hps3
       have H68:Hid (Calls Tp 32 #[sL ao3 ((p++[c])).length cp3] (w3.drewN q) fun e w'=>e = rT (I J (fieldL ((p++[c])):Nat))∧w3.drewN q=w'):=l1field_any _ ao3 _ cp3 _ hby3 (by first | omega | (simp;omega))
       have ST4:Hid (wlI w w.heap.size ga L (sL ao3 ((p++[c])).length cp3) ((p++[c])) (w3.drewN q)):=st4
       clear st4 hby3;generalize fieldL ((p++[c]))=F at *;generalize (p++[c])=p3 at *;by_cases hF:F≤10
       ·have hF':(F:Int)≤10:=by omega
        have HR4:Hid (sw L (k+1)=(code2,p3,true)):=by unfold Hid;rw[HR3.out,decide_eq_true hF];rfl
        clear HR3 hF;go_wp2_with (go_at_call 32;refine H68.out.mono ?_;rintro e w5 ⟨rfl,rfl⟩)
        go_roundw
        case rel=>exact⟨k+1,by omega,by go_num,by rw[HR4.out] <;> rfl,by rw[HR4.out],by rw[HR4.out];exact ST4.out,HSW.out⟩
        case measure=>simp[intOf];omega
       ·have hF':¬ (F:Int)≤10:=by omega
        have HR4:Hid (sw L (k+1)=(code2,p3,((F:Int) == 11))):=by
         unfold Hid;rw[HR3.out,decide_eq_false hF,Bool.false_or]
         congr 2
         rw[Bool.eq_iff_iff];simp;omega
        have HFn:Hid (decide ((F:Int)≤10)=false):=decide_eq_false hF'
        clear HR3 hF;go_wp2_with (go_at_call 32;refine H68.out.mono ?_;rintro e w5 ⟨rfl,rfl⟩)
        go_roundw
        case rel=>exact⟨k+1,by omega,by go_num,by rw[HR4.out] <;> rfl,by rw[HR4.out,HFn.out] <;> rfl,by rw[HR4.out];exact ST4.out,HSW.out⟩
        case measure=>simp[intOf];omega
     ·-- a stuff letter is due
      obtain⟨m,hm⟩:=HD0.out rfl
      have HR2:Hid (sw L (k+1)=(if L.getD k 0=L.getD m 0 then 3 else 0,p,dueF (fun t=>L.getD t 0) (k+1) && (decide (fieldL p≤10) || decide (fieldL p=11)))):=by have:=HST.out;rw[show k-1=m by omega] at this;exact this
      clear HST HD0;have HK1:Hid ((k:Int)+1=((k+1:Nat):Int)):=by unfold Hid;omega
      have hps3:=hps
      have hkm:(k:Int)-1=(m:Int):=by omega
      have cm:wr.cell? ⟨ga,m,none⟩=some (I .u8 (L.getD m 0:Nat)):=ST.out.row.cell m (by omega)
      have st3:=ST.out.below (Below.refl wr.heap.size wr).drew
      clear ST hps HV;have hmlt:(m:Int)<(s.size:Int):=by omega
      have hm0:(0:Int)≤(m:Int):=by omega
      clear hm;by_cases hc:L.getD k 0=L.getD m 0
      ·have hc':((L.getD k 0:Int) == (L.getD m 0:Int))=true:=by rw[hc];exact beq_self_eq_true _
       have HR2':Hid (sw L (k+1)=(3,p,dueF (fun t=>L.getD t 0) (k+1) && (decide (fieldL p≤10) || decide (fieldL p=11)))):=by unfold Hid;rw[HR2.out,if_pos hc]
       clear HR2 hc;have HR2:=HR2'
       clear HR2';generalize L.getD k 0=c at *;generalize L.getD m 0=c1 at *;go_wp2
       go_region
       all_goals
        go_wp2_with fail;generalize wr.drew=wd at *;have row3:rowB wd ga s.size (fun t=>L.getD t 0):=by rw[← HLen.out];exact st3.row
        go_wp2_with fail;rw[HK1.out]
        refine (due_any _ ga s.size cap (k+1) _ row3 (by omega) (by omega)).mono ?_
        rintro e w4 ⟨rfl,q,rfl⟩;have st4:wlI w w.heap.size ga L _ p (wd.drewN q):=st3.below (below_drewN (Below.refl _ _) q)
        clear row3;cases hD:dueF (fun t=>L.getD t 0) (k+1)
        ·have HR3:Hid (sw L (k+1)=(3,p,false)):=by unfold Hid;rw[HR2.out,hD];rfl
         clear HR2 hD;go_wp2
         go_roundw
         case rel=>exact⟨k+1,by omega,by go_num,by rw[HR3.out] <;> rfl,by rw[HR3.out],by rw[HR3.out];exact st4,HSW.out⟩
         case measure=>simp[intOf];omega
        ·have HR3:Hid (sw L (k+1)=(3,p,decide (fieldL (p)≤10) || decide (fieldL (p)=11))):=by unfold Hid;rw[HR2.out,hD];rfl
         clear HR2 hD;obtain⟨ao3,cp3,rfl,hby3⟩:=st4.own.bytes hps3
         have H68:Hid (Calls Tp 32 #[sL ao3 (p).length cp3] (wd.drewN q) fun e w'=>e = rT (I J (fieldL (p):Nat))∧wd.drewN q=w'):=l1field_any _ ao3 _ cp3 _ hby3 (by first | omega | (simp;omega))
         have ST4:Hid (wlI w w.heap.size ga L (sL ao3 (p).length cp3) (p) (wd.drewN q)):=st4
         clear st4 hby3;generalize fieldL (p)=F at *;generalize p=p3 at *;by_cases hF:F≤10
         ·have hF':(F:Int)≤10:=by omega
          have HR4:Hid (sw L (k+1)=(3,p3,true)):=by unfold Hid;rw[HR3.out,decide_eq_true hF];rfl
          clear HR3 hF;go_wp2_with (go_at_call 32;refine H68.out.mono ?_;rintro e w5 ⟨rfl,rfl⟩)
          go_roundw
          case rel=>exact⟨k+1,by omega,by go_num,by rw[HR4.out] <;> rfl,by rw[HR4.out],by rw[HR4.out];exact ST4.out,HSW.out⟩
          case measure=>simp[intOf];omega
         ·have hF':¬ (F:Int)≤10:=by omega
          have HR4:Hid (sw L (k+1)=(3,p3,((F:Int) == 11))):=by
           unfold Hid;rw[HR3.out,decide_eq_false hF,Bool.false_or]
           congr 2
           rw[Bool.eq_iff_iff];simp;omega
          have HFn:Hid (decide ((F:Int)≤10)=false):=decide_eq_false hF'
          clear HR3 hF;go_wp2_with (go_at_call 32;refine H68.out.mono ?_;rintro e w5 ⟨rfl,rfl⟩)
          go_roundw
          case rel=>exact⟨k+1,by omega,by go_num,by rw[HR4.out] <;> rfl,by rw[HR4.out,HFn.out] <;> rfl,by rw[HR4.out];exact ST4.out,HSW.out⟩
          case measure=>simp[intOf];omega
      ·have hc':((L.getD k 0:Int) == (L.getD m 0:Int))=false:=by rw[beq_eq_false_iff_ne];omega
       have HR2':Hid (sw L (k+1)=(0,p,dueF (fun t=>L.getD t 0) (k+1) && (decide (fieldL p≤10) || decide (fieldL p=11)))):=by unfold Hid;rw[HR2.out,if_neg hc]
       clear HR2 hc;have HR2:=HR2'
       clear HR2';generalize L.getD k 0=c at *;generalize L.getD m 0=c1 at *;go_wp2
       go_region
       all_goals
        go_wp2_with fail;generalize wr.drew=wd at *;have row3:rowB wd ga s.size (fun t=>L.getD t 0):=by rw[← HLen.out];exact st3.row
        go_wp2_with fail;rw[HK1.out]
        refine (due_any _ ga s.size cap (k+1) _ row3 (by omega) (by omega)).mono ?_
        rintro e w4 ⟨rfl,q,rfl⟩;have st4:wlI w w.heap.size ga L _ p (wd.drewN q):=st3.below (below_drewN (Below.refl _ _) q)
        clear row3;cases hD:dueF (fun t=>L.getD t 0) (k+1)
        ·have HR3:Hid (sw L (k+1)=(0,p,false)):=by unfold Hid;rw[HR2.out,hD];rfl
         clear HR2 hD;go_wp2
         go_roundw
         case rel=>exact⟨k+1,by omega,by go_num,by rw[HR3.out] <;> rfl,by rw[HR3.out],by rw[HR3.out];exact st4,HSW.out⟩
         case measure=>simp[intOf];omega
        ·have HR3:Hid (sw L (k+1)=(0,p,decide (fieldL (p)≤10) || decide (fieldL (p)=11))):=by unfold Hid;rw[HR2.out,hD];rfl
         clear HR2 hD;obtain⟨ao3,cp3,rfl,hby3⟩:=st4.own.bytes hps3
         have H68:Hid (Calls Tp 32 #[sL ao3 (p).length cp3] (wd.drewN q) fun e w'=>e = rT (I J (fieldL (p):Nat))∧wd.drewN q=w'):=l1field_any _ ao3 _ cp3 _ hby3 (by first | omega | (simp;omega))
         have ST4:Hid (wlI w w.heap.size ga L (sL ao3 (p).length cp3) (p) (wd.drewN q)):=st4
         clear st4 hby3;generalize fieldL (p)=F at *;generalize p=p3 at *;by_cases hF:F≤10
         ·have hF':(F:Int)≤10:=by omega
          have HR4:Hid (sw L (k+1)=(0,p3,true)):=by unfold Hid;rw[HR3.out,decide_eq_true hF];rfl
          clear HR3 hF;go_wp2_with (go_at_call 32;refine H68.out.mono ?_;rintro e w5 ⟨rfl,rfl⟩)
          go_roundw
          case rel=>exact⟨k+1,by omega,by go_num,by rw[HR4.out] <;> rfl,by rw[HR4.out],by rw[HR4.out];exact ST4.out,HSW.out⟩
          case measure=>simp[intOf];omega
         ·have hF':¬ (F:Int)≤10:=by omega
          have HR4:Hid (sw L (k+1)=(0,p3,((F:Int) == 11))):=by
           unfold Hid;rw[HR3.out,decide_eq_false hF,Bool.false_or]
           congr 2
           rw[Bool.eq_iff_iff];simp;omega
          have HFn:Hid (decide ((F:Int)≤10)=false):=decide_eq_false hF'
          clear HR3 hF;go_wp2_with (go_at_call 32;refine H68.out.mono ?_;rintro e w5 ⟨rfl,rfl⟩)
          go_roundw
          case rel=>exact⟨k+1,by omega,by go_num,by rw[HR4.out] <;> rfl,by rw[HR4.out,HFn.out] <;> rfl,by rw[HR4.out];exact ST4.out,HSW.out⟩
          case measure=>simp[intOf];omega
   ·rw[if_neg hgo] at hsw
    have HR:Hid (swZ s=(7,(sw L k).2.1,false)):=by unfold Hid;rw[HZ.out];exact hsw
    have n0:(((sw L k).1:Int) != 0)=true:=by simp[goesOnB] at hgo;simp;omega
    have n1:(((sw L k).1:Int) != 1)=true:=by simp[goesOnB] at hgo;simp;omega
    have ho:=st.own
    have hb:=st.bel
    clear hsw hgo st hnk;generalize (sw L k).1=code at *;generalize (sw L k).2.1=p at *;generalize (sw L k).2.2=d at *;go_wp2
    refine bodyPost_ret (v:=.tuple #[I J 7,u5,bO false]) (by simp[results,Tryz.results31,go_sem]) rfl ⟨u5,by rw[HR.out];rfl,by rw[HR.out];exact ho,hb⟩
  ·have hke:s.size-k=0:=by omega
   rw[hke] at hsw
   have HR:Hid (swZ s=sw L k):=by unfold Hid;rw[HZ.out];exact hsw
   have ho:=st.own
   have hb:=st.bel
   clear hsw st hke;generalize sw L k=r at *;go_wp2
   refine bodyPost_ret (v:=.tuple #[I J (r.1:Nat),u5,bO r.2.2]) (by simp[results,Tryz.results31,go_sem]) rfl ⟨u5,by rw[HR.out],by rw[HR.out];exact ho,hb⟩
set_option maxRecDepth 20000 in
theorem l1walk_any (s:ByteArray) (w:World) (hs:s.size≤maxLen) :
  Calls Tp 31 #[.string s] w fun e w'=>∃ v,e = rT (.tuple #[I J ((swZ s).1:Nat),v,bO (swZ s).2.2])∧ownsB w' w.heap.size v (swZ s).2.1∧Below w.heap.size w w':=by
 by_cases hk:okT s 4000=true
 ·exact l1walk_ok s w hs hk
 ·have hk':okT s 4000=false:=by simpa using hk
  have HZ:Hid (swZ s=(8,[],false)):=by unfold Hid swZ;rw[if_neg hk]
  have HS:Hid (s.size≤maxLen):=hs
  clear hk hs;go_enter Tryz.func31,Tryz.ntmps31
  go_wp2_with (go_at_call 56;refine (okBits_any _ _ _ HS.out).mono ?_;rw[hk'];rintro e w1 ⟨rfl,rfl⟩)
  refine bodyPost_ret (v:=.tuple #[I J 8,sL (some ⟨w.heap.size,0,none⟩) 0 0,bO false]) (by simp[results,Tryz.results31,go_sem]) rfl ⟨_,by rw[HZ.out];rfl,by rw[HZ.out];exact own_nil w w.heap.size (Nat.le_refl _),(Below.refl _ _).alloc (Nat.le_refl _) _⟩
def sjV (code:Nat) (p:List Nat) (d:Bool):Value:=if goesOnB code=true then aG #[I J (code:Int),I J (fieldL p:Nat),bO d,bO (crcOkL p)] else aG #[I J (code:Int),I J 0,bO false,bO false]
theorem swF_len (L:List Nat):∀ f i,(swF L f i).2.1.length≤f+i
 | 0,i=>by have:=sw_len L i;show (sw L i).2.1.length≤_;omega
 | f+1,i=>by
  rw[swF_succ]
  split
  ·have:=swF_len L f (i+1);omega
  ·have:=sw_len L i;show (sw L i).2.1.length≤_;omega
theorem swF_small (L:List Nat) (h:∀ x ∈ L,M.isL x):∀ f i,f+i≤L.length→∀ x ∈ (swF L f i).2.1,M.isL x
 | 0,i,hi=>sw_small L h i (by omega)
 | f+1,i,hi=>by
  rw[swF_succ]
  split
  ·exact swF_small L h f (i+1) (by omega)
  ·exact sw_small L h i (by omega)
theorem swZ_bytes (s:ByteArray):(swZ s).2.1.length≤4000∧∀ x ∈ (swZ s).2.1,M.isL x:=by
 unfold swZ
 split
 ·rename_i hk
  have:=okT_size hk
  have h1:=swF_len (lt s) (lt s).length 0
  refine⟨?_,swF_small (lt s) (lt_isL hk) _ 0 (by omega)⟩
  rw[lt_length] at h1 ⊢
  omega
 ·exact⟨by simp,by simp⟩
set_option maxRecDepth 20000 in
theorem specJudge_any (s:ByteArray) (w:World) (hs:s.size≤maxLen) :
  Calls Tp 17 #[.string s] w fun e w'=>e = rT (sjV (swZ s).1 (swZ s).2.1 (swZ s).2.2)∧Below w.heap.size w w':=by
 have HS:Hid (s.size≤maxLen):=hs
 clear hs;obtain⟨hpl,hps⟩:=swZ_bytes s
 go_enter Tryz.func17,Tryz.ntmps17
 go_wp2_with fail;refine (l1walk_any s _ HS.out).mono ?_
 rintro e w1 ⟨v,rfl,ho,hb1⟩;obtain⟨hr,hb⟩:=ju_res hb1
 obtain⟨ao,cap,rfl,hby⟩:=ho.bytes (fun x hx=>by rcases hps x hx with h | h <;> omega)
 have H68:Hid (Calls Tp 32 #[sL ao (swZ s).2.1.length cap] w1 fun e w'=>e = rT (I J (fieldL (swZ s).2.1:Nat))∧w1=w'):=l1field_any w1 ao _ cap _ hby (by omega)
 have H69:Hid (Calls Tp 33 #[sL ao (swZ s).2.1.length cap] w1 fun e w'=>e = rT (bO (crcOkL (swZ s).2.1))∧Below w1.heap.size w1 w'):=l1crcOk_any w1 ao _ cap _ hby (by omega)
 clear hb1 ho hby hps;have HZ:Hid (swZ s=((swZ s).1,(swZ s).2.1,(swZ s).2.2)):=rfl
 generalize hp:(swZ s).2.1=p at *;generalize hcd:(swZ s).1=code at *;generalize hdd:(swZ s).2.2=d at *;clear hp hcd hdd;by_cases hgo:goesOnB code=true
 ·have hc2:code=0∨code=1:=by simpa[goesOnB] using hgo
  clear hgo;rcases hc2 with rfl|rfl
  ·go_wp2_with (first | (go_at_call 32;refine H68.out.mono ?_;rintro e w2 ⟨rfl,rfl⟩) | (go_at_call 33;refine H69.out.mono ?_;rintro e w2 ⟨rfl,hb2⟩;obtain⟨x0,x1,x2,x3,d0,d1,d2,d3,z0,z1,z2,z3⟩:=ju_d ⟨_,_,_,_,(hb2.block _ (lt_of_block hr)).trans hr⟩))
   refine bodyPost_ret (v:=sjV 0 p d) ?_ rfl ⟨by rw[HZ.out],?_⟩
   ·simp[results,Tryz.results17,go_sem,sjV,goesOnB,d0,d1,d2,d3]
   ·exact be4 _ _ _ _ (hb.trans (hb2.mono hb.size)) (Nat.le_refl _)
  ·go_wp2_with (first | (go_at_call 32;refine H68.out.mono ?_;rintro e w2 ⟨rfl,rfl⟩) | (go_at_call 33;refine H69.out.mono ?_;rintro e w2 ⟨rfl,hb2⟩;obtain⟨x0,x1,x2,x3,d0,d1,d2,d3,z0,z1,z2,z3⟩:=ju_d ⟨_,_,_,_,(hb2.block _ (lt_of_block hr)).trans hr⟩))
   refine bodyPost_ret (v:=sjV 1 p d) ?_ rfl ⟨by rw[HZ.out],?_⟩
   ·simp[results,Tryz.results17,go_sem,sjV,goesOnB,d0,d1,d2,d3]
   ·exact be4 _ _ _ _ (hb.trans (hb2.mono hb.size)) (Nat.le_refl _)
 ·have n0:((code:Int) != 0)=true:=by simp[goesOnB] at hgo;simp;omega
  have n1:((code:Int) != 1)=true:=by simp[goesOnB] at hgo;simp;omega
  obtain⟨x0,x1,x2,x3,d0,d1,d2,d3,z0,z1,z2,z3⟩:=ju_d ⟨_,_,_,_,hr⟩
  have HG:Hid (¬ goesOnB code=true):=hgo
  clear hgo;go_wp2
  refine bodyPost_ret (v:=sjV code p d) ?_ rfl ⟨by rw[HZ.out],?_⟩
  ·simp[results,Tryz.results17,go_sem,sjV,HG.out,d0,d1,d2,d3]
  ·exact be4 _ _ _ _ hb (Nat.le_refl _)
end Go.Proofs.YtbllefckefhpoaaGreat
