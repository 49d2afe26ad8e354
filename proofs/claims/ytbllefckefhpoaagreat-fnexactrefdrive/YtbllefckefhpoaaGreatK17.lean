import Derived.Test.YtbllefckefhpoaaGreatK16
namespace Go.Proofs.YtbllefckefhpoaaGreat
open Go.RowKit
set_option linter.unusedVariables false
set_option maxHeartbeats 16000000
open Go.Value renaming int→I,slice→sL,bool→bO,pointer→pT,agg→aG
open Go.IntKind renaming i64→J
open Go.Ending renaming returned→rT
open Go.Proofs.Tryz renaming prog→Tp
def valStep (v c:Nat):Nat:=2*v+(if c=49 then 1 else 0)
def valL (l:List Nat):Nat:=l.foldl valStep 0
theorem valL_snoc (l:List Nat) (c:Nat):valL (l++[c])=valStep (valL l) c:=by unfold valL;rw[List.foldl_append];rfl
theorem valL_lt (l:List Nat):valL l<2 ^ l.length:=by
 induction l using M.snoc_ind with
 | h0=>decide
 | h1 l a ih=>
  rw[valL_snoc,List.length_append,List.length_singleton,Nat.pow_succ]
  unfold valStep
  split <;> omega
theorem l1val_any (s:ByteArray) (w:World) (hs:s.size≤40) :
  Calls Tp 60 #[.string s] w fun e w'=>e = rT (I J (valL (lt s):Nat))∧w=w':=by
 have hs':s.size≤maxLen:=by unfold maxLen;omega
 go_enter Tryz.func60,Tryz.ntmps60
 go_wp2
 go_loopw [3,4] (fun v i wr=>∃ k:Nat,k≤s.size∧i = I J k∧v = I J (valL ((lt s).take k):Nat)∧wr=w) (fun _ i _=>s.size-(intOf i).toNat)
 case atStart=>exact⟨0,Nat.zero_le _,rfl,rfl,rfl⟩
 case round=>
  obtain⟨k,hk,rfl,rfl,rfl⟩:=hrel
  by_cases hlt:k<s.size
  ·have hb:valL ((lt s).take k)<1099511627776:=by
    have h1:=valL_lt ((lt s).take k)
    rw[List.length_take,lt_length] at h1
    exact Nat.lt_of_lt_of_le h1 (Nat.le_trans (Nat.pow_le_pow_right (by decide) (show min k s.size≤40 by omega)) (by decide))
   have HS:Hid (valL ((lt s).take (k+1))=valStep (valL ((lt s).take k)) s[k].toNat):=by rw[lt_snoc s k hlt,valL_snoc];exact rfl
   generalize valL ((lt s).take k)=v at *;by_cases hc:s[k].toNat=49
   ·have HS':Hid (valL ((lt s).take (k+1))=2*v+1):=by rw[HS.out];unfold valStep;rw[if_pos hc];exact rfl
    have hc':((s[k].toNat:Int) == 49)=true:=by simp;omega
    clear HS hc;go_wp2
    go_roundw
    case rel=>exact⟨k+1,by omega,by go_num,by rw[HS'.out];go_num,trivial⟩
    case measure=>simp[intOf];omega
   ·have HS':Hid (valL ((lt s).take (k+1))=2*v):=by rw[HS.out];unfold valStep;rw[if_neg hc];exact rfl
    have hc':((s[k].toNat:Int) == 49)=false:=by simp;omega
    clear HS hc;go_wp2
    go_roundw
    case rel=>exact⟨k+1,by omega,by go_num,by rw[HS'.out];go_num,trivial⟩
    case measure=>simp[intOf];omega
  ·have hke:(lt s).take k=lt s:=List.take_of_length_le (by rw[lt_length];omega)
   rw[hke]
   generalize hv:valL (lt s)=v at *;have HV:Hid (valL (lt s)=v):=hv
   clear hv hke;go_wp2
   go_ret;exact⟨by rw[HV.out];rfl,rfl⟩
def layH (l:List Nat):Nat:=if l.getD 13 0=49 then 39 else 19
def layR (l:List Nat):Bool:=if l.getD 13 0=49 then decide (l.getD 32 0=49) else decide (l.getD 12 0=49)
def layN (l:List Nat):Nat:=if layR l=true then 0 else min (valL ((l.drop (layH l-4)).take 4)) 8
def layL (l:List Nat):Nat × Nat:=
 if l.length<14 then (0,0) else if l.length<layH l then (layH l,0) else (layH l,layH l+8*layN l)
theorem isBytes.sub {w:World} {g off n cap:Nat} {l:List Nat} (h:isBytes w (some ⟨g,off,none⟩) n cap l) (i m c:Nat) (him:i+m≤l.length) (hm:0<m) (hc:m≤c):isBytes w (some ⟨g,off+i,none⟩) m c ((l.drop i).take m):=by
 have hl:((l.drop i).take m).length=m:=by rw[List.length_take,List.length_drop];omega
 refine⟨hl.symm,hc,fun x hx=>h.small x (List.mem_of_mem_drop (List.mem_of_mem_take hx)),fun _=>⟨g,off+i,rfl,fun j hj=>?_⟩⟩
 rw[hl] at hj
 obtain⟨g',off',e,hcc⟩:=h.cells (by intro e;rw[e] at him;simp at him;omega)
 cases e
 rw[List.getElem_take,List.getElem_drop,Nat.add_assoc]
 exact hcc (i+j) (by omega)
theorem isBytes.at {w:World} {g off n cap:Nat} {l:List Nat} (h:isBytes w (some ⟨g,off,none⟩) n cap l) (i:Nat) (hi:i<l.length):w.cell? ⟨g,off+i,none⟩=some (I .u8 (l.getD i 0:Nat)):=by
 obtain⟨g',off',e,hcc⟩:=h.cells (by intro e;rw[e] at hi;simp at hi)
 cases e
 have e:l.getD i 0=l[i]:=by simp[hi]
 rw[e]
 exact hcc i hi
theorem val4_lt (l:List Nat):valL (l.take 4)<16:=by
 have h1:=valL_lt (l.take 4)
 have h2:(l.take 4).length≤4:=by rw[List.length_take];omega
 exact Nat.lt_of_lt_of_le h1 (Nat.le_trans (Nat.pow_le_pow_right (by decide) h2) (by decide))
theorem l1val4 (w:World) {l:List Nat} (h:∀ x ∈ l,x<256) (i:Nat):Calls Tp 60 #[.string (strN ((l.drop i).take 4))] w fun e w'=>e = rT (I J (valL ((l.drop i).take 4):Nat))∧w=w':=by
 have hs:∀ x ∈ (l.drop i).take 4,x<256:=fun x hx=>h x (List.mem_of_mem_drop (List.mem_of_mem_take hx))
 have hz:(strN ((l.drop i).take 4)).size≤40:=by
  have e:(strN ((l.drop i).take 4)).size=((l.drop i).take 4).length:=by simp[strN,ByteArray.size]
  rw[e,List.length_take];omega
 have:=l1val_any (strN ((l.drop i).take 4)) w hz
 rw[lt_strN _ hs] at this
 exact this
set_option maxRecDepth 20000 in
theorem l1lay_19 (w:World) (g off n cap:Nat) (l:List Nat) (h:isBytes w (some ⟨g,off,none⟩) n cap l) (hn:l.length≤100000) (h14:¬ l.length<14) (h13:layH l=19) :
  Calls Tp 59 #[sL (some ⟨g,off,none⟩) n cap] w fun e w'=>e = rT (.tuple #[I J ((layL l).1:Nat),I J ((layL l).2:Nat)])∧w=w':=by
 have hlen:=h.len
 have hcap:=h.cap
 subst hlen;have c13:=h.at 13 (by omega)
 have c12:=h.at 12 (by omega)
 have e13:((l.getD 13 0:Int) == 49)=false:=by
  unfold layH at h13
  split at h13 <;> simp_all <;> omega
 have h14':¬ (l.length:Int)<14:=by omega
 by_cases hh:l.length<19
 ·have hh':(l.length:Int)<19:=by omega
  have HL:Hid (layL l=(19,0)):=by unfold Hid layL;rw[if_neg h14,h13,if_pos hh]
  clear h h13 hh h14 c12 hn;generalize l.getD 13 0=x13 at *;generalize l.length=n at *;go_enter Tryz.func59,Tryz.ntmps59
  go_wp2
  go_ret2
  exact⟨by rw[HL.out];rfl,rfl⟩
 ·have hh':¬ (l.length:Int)<19:=by omega
  have c32:=h.at 12 (by omega)
  have hcv:=convB (h.sub 15 4 (cap-15) (by omega) (by decide) (by omega))
  have HV:Hid (∀ w,Calls Tp 60 #[.string (strN ((l.drop 15).take 4))] w fun e w'=>e = rT (I J (valL ((l.drop 15).take 4):Nat))∧w=w'):=fun w=>l1val4 w h.small 15
  have hv16:=val4_lt (l.drop 15)
  have HL:Hid (layL l=(19,19+8*(if l.getD 12 0=49 then 0 else min (valL ((l.drop 15).take 4)) 8))):=by
   unfold Hid layL layN layR
   rw[if_neg h14,h13,if_neg hh]
   unfold layH at h13
   split at h13 <;> simp_all
  clear h h13 hh h14 hn;generalize l.drop 15=l4 at *;generalize l.getD 13 0=x13 at *;generalize strN (l4.take 4)=t4 at *;generalize valL (l4.take 4)=v4 at *;generalize l.getD 12 0=xr at *;by_cases hr:xr=49
  ·have hr':((xr:Int) == 49)=true:=by simp;omega
   have HL':Hid (layL l=(19,19)):=by unfold Hid;rw[HL.out,if_pos hr]
   clear HL hr;generalize l.length=n at *;by_cases h8:(v4:Int) > 8
   ·go_enter Tryz.func59,Tryz.ntmps59
    go_wp2_with (go_at_call 60;refine (HV.out _).mono ?_;rintro e w1 ⟨rfl,rfl⟩)
    go_ret2
    exact⟨by rw[HL'.out];rfl,rfl⟩
   ·go_enter Tryz.func59,Tryz.ntmps59
    go_wp2_with (go_at_call 60;refine (HV.out _).mono ?_;rintro e w1 ⟨rfl,rfl⟩)
    go_ret2
    exact⟨by rw[HL'.out];rfl,rfl⟩
  ·have hr':((xr:Int) == 49)=false:=by simp;omega
   by_cases h8:(v4:Int) > 8
   ·have HL':Hid (layL l=(19,19+64)):=by unfold Hid;rw[HL.out,if_neg hr,Nat.min_eq_right (by omega)]
    clear HL hr;generalize l.length=n at *;go_enter Tryz.func59,Tryz.ntmps59
    go_wp2_with (go_at_call 60;refine (HV.out _).mono ?_;rintro e w1 ⟨rfl,rfl⟩)
    go_ret2
    exact⟨by rw[HL'.out];rfl,rfl⟩
   ·have HL':Hid (layL l=(19,19+8*v4)):=by unfold Hid;rw[HL.out,if_neg hr,Nat.min_eq_left (by omega)]
    clear HL hr;generalize l.length=n at *;go_enter Tryz.func59,Tryz.ntmps59
    go_wp2_with (go_at_call 60;refine (HV.out _).mono ?_;rintro e w1 ⟨rfl,rfl⟩)
    go_ret2
    exact⟨by rw[HL'.out];simp,rfl⟩
set_option maxRecDepth 20000 in
theorem l1lay_39 (w:World) (g off n cap:Nat) (l:List Nat) (h:isBytes w (some ⟨g,off,none⟩) n cap l) (hn:l.length≤100000) (h14:¬ l.length<14) (h13:layH l=39) :
  Calls Tp 59 #[sL (some ⟨g,off,none⟩) n cap] w fun e w'=>e = rT (.tuple #[I J ((layL l).1:Nat),I J ((layL l).2:Nat)])∧w=w':=by
 have hlen:=h.len
 have hcap:=h.cap
 subst hlen;have c13:=h.at 13 (by omega)
 have c12:=h.at 12 (by omega)
 have e13:((l.getD 13 0:Int) == 49)=true:=by
  unfold layH at h13
  split at h13 <;> simp_all <;> omega
 have h14':¬ (l.length:Int)<14:=by omega
 by_cases hh:l.length<39
 ·have hh':(l.length:Int)<39:=by omega
  have HL:Hid (layL l=(39,0)):=by unfold Hid layL;rw[if_neg h14,h13,if_pos hh]
  clear h h13 hh h14 c12 hn;generalize l.getD 13 0=x13 at *;generalize l.length=n at *;go_enter Tryz.func59,Tryz.ntmps59
  go_wp2
  go_ret2
  exact⟨by rw[HL.out];rfl,rfl⟩
 ·have hh':¬ (l.length:Int)<39:=by omega
  have c32:=h.at 32 (by omega)
  have hcv:=convB (h.sub 35 4 (cap-35) (by omega) (by decide) (by omega))
  have HV:Hid (∀ w,Calls Tp 60 #[.string (strN ((l.drop 35).take 4))] w fun e w'=>e = rT (I J (valL ((l.drop 35).take 4):Nat))∧w=w'):=fun w=>l1val4 w h.small 35
  have hv16:=val4_lt (l.drop 35)
  have HL:Hid (layL l=(39,39+8*(if l.getD 32 0=49 then 0 else min (valL ((l.drop 35).take 4)) 8))):=by
   unfold Hid layL layN layR
   rw[if_neg h14,h13,if_neg hh]
   unfold layH at h13
   split at h13 <;> simp_all
  clear h h13 hh h14 hn;generalize l.drop 35=l4 at *;generalize l.getD 13 0=x13 at *;generalize strN (l4.take 4)=t4 at *;generalize valL (l4.take 4)=v4 at *;generalize l.getD 32 0=xr at *;generalize l.getD 12 0=x12 at *;by_cases hr:xr=49
  ·have hr':((xr:Int) == 49)=true:=by simp;omega
   have HL':Hid (layL l=(39,39)):=by unfold Hid;rw[HL.out,if_pos hr]
   clear HL hr;generalize l.length=n at *;by_cases h8:(v4:Int) > 8
   ·go_enter Tryz.func59,Tryz.ntmps59
    go_wp2_with (go_at_call 60;refine (HV.out _).mono ?_;rintro e w1 ⟨rfl,rfl⟩)
    go_ret2
    exact⟨by rw[HL'.out];rfl,rfl⟩
   ·go_enter Tryz.func59,Tryz.ntmps59
    go_wp2_with (go_at_call 60;refine (HV.out _).mono ?_;rintro e w1 ⟨rfl,rfl⟩)
    go_ret2
    exact⟨by rw[HL'.out];rfl,rfl⟩
  ·have hr':((xr:Int) == 49)=false:=by simp;omega
   by_cases h8:(v4:Int) > 8
   ·have HL':Hid (layL l=(39,39+64)):=by unfold Hid;rw[HL.out,if_neg hr,Nat.min_eq_right (by omega)]
    clear HL hr;generalize l.length=n at *;go_enter Tryz.func59,Tryz.ntmps59
    go_wp2_with (go_at_call 60;refine (HV.out _).mono ?_;rintro e w1 ⟨rfl,rfl⟩)
    go_ret2
    exact⟨by rw[HL'.out];rfl,rfl⟩
   ·have HL':Hid (layL l=(39,39+8*v4)):=by unfold Hid;rw[HL.out,if_neg hr,Nat.min_eq_left (by omega)]
    clear HL hr;generalize l.length=n at *;go_enter Tryz.func59,Tryz.ntmps59
    go_wp2_with (go_at_call 60;refine (HV.out _).mono ?_;rintro e w1 ⟨rfl,rfl⟩)
    go_ret2
    exact⟨by rw[HL'.out];simp,rfl⟩
theorem l1lay_any (w:World) (a:Option Addr) (n cap:Nat) (l:List Nat) (h:isBytes w a n cap l) (hn:l.length≤100000) :
  Calls Tp 59 #[sL a n cap] w fun e w'=>e = rT (.tuple #[I J ((layL l).1:Nat),I J ((layL l).2:Nat)])∧w=w':=by
 by_cases h14:l.length<14
 ·have hlen:=h.len
  subst hlen;have h14':(l.length:Int)<14:=by omega
  have HL:Hid (layL l=(0,0)):=by unfold Hid layL;rw[if_pos h14]
  clear h hn h14;generalize l.length=n at *;go_enter Tryz.func59,Tryz.ntmps59
  go_wp2
  go_ret2
  exact⟨by rw[HL.out];rfl,rfl⟩
 ·obtain⟨g,off,rfl,-⟩:=h.cells (by intro e;rw[e] at h14;simp at h14)
  by_cases h13:l.getD 13 0=49
  ·exact l1lay_39 w g off n cap l h hn h14 (by unfold layH;rw[if_pos h13])
  ·exact l1lay_19 w g off n cap l h hn h14 (by unfold layH;rw[if_neg h13])
def fieldL (l:List Nat):Nat:=
 if l.length=0 then 1 else if l.length<12 then 2 else if l.length=12 then 3 else if l.length=13 then 4
 else if l.length<(layL l).1 then
  (if (layL l).1≤l.length+4 then 8 else if (layL l).1=19 then 7 else if l.length<32 then 5 else if l.length=32 then 6 else 7)
 else if l.length<(layL l).2 then 9 else if l.length<(layL l).2+15 then 10 else if l.length<(layL l).2+18 then l.length-(layL l).2-4
 else if l.length<(layL l).2+25 then 14 else 15
theorem layL_le (l:List Nat):(layL l).1≤39∧(layL l).2≤103:=by
 have:layH l≤39:=by unfold layH;split <;> omega
 have h2:layN l≤8:=by unfold layN;split <;> omega
 unfold layL
 split
 ·exact⟨by simp,by simp⟩
 ·split
  ·exact⟨this,by simp⟩
  ·exact⟨this,by show _+_≤_;omega⟩
theorem ret_i64 {a b:Int} (h:a=b):Ending.returned (I J a) = rT (I J b):=by rw[h]
set_option maxRecDepth 20000 in
theorem l1field_any (w:World) (a:Option Addr) (n cap:Nat) (l:List Nat) (h:isBytes w a n cap l) (hn:l.length≤100000) :
  Calls Tp 32 #[sL a n cap] w fun e w'=>e = rT (I J (fieldL l:Nat))∧w=w':=by
 have HC:Hid (Calls Tp 59 #[sL a n cap] w fun e w'=>e = rT (.tuple #[I J ((layL l).1:Nat),I J ((layL l).2:Nat)])∧w=w'):=l1lay_any w a n cap l h hn
 have hlen:=h.len
 subst hlen;obtain⟨hh1,hh2⟩:=layL_le l
 have HF:Hid (fieldL l=_):=(show fieldL l=_ from by unfold fieldL;rfl)
 clear h;generalize (layL l).1=H at *;generalize (layL l).2=E at *;generalize fieldL l=F at *;generalize l.length=n at *;by_cases p0:n=0
 ·have ip0:((n:Int) == 0)=true:=by first | omega | (simp;omega)
  have HF':Hid (F=1):=by unfold Hid;rw[HF.out,if_pos p0]
  clear HF p0;go_enter Tryz.func32,Tryz.ntmps32
  go_wp2_with (go_at_call 59;refine HC.out.mono ?_;rintro e w1 ⟨rfl,rfl⟩)
  go_ret;exact⟨by rw[HF'.out];rfl,rfl⟩
 ·have ip0:((n:Int) == 0)=false:=by first | omega | (simp;omega)
  by_cases p1:n<12
  ·have ip1:(n:Int)<12:=by first | omega | (simp;omega)
   have HF':Hid (F=2):=by unfold Hid;rw[HF.out,if_neg p0,if_pos p1]
   clear HF p0 p1;go_enter Tryz.func32,Tryz.ntmps32
   go_wp2_with (go_at_call 59;refine HC.out.mono ?_;rintro e w1 ⟨rfl,rfl⟩)
   go_ret;exact⟨by rw[HF'.out];rfl,rfl⟩
  ·have ip1:¬ (n:Int)<12:=by first | omega | (simp;omega)
   by_cases p2:n=12
   ·have ip2:((n:Int) == 12)=true:=by first | omega | (simp;omega)
    have HF':Hid (F=3):=by unfold Hid;rw[HF.out,if_neg p0,if_neg p1,if_pos p2]
    clear HF p0 p1 p2;go_enter Tryz.func32,Tryz.ntmps32
    go_wp2_with (go_at_call 59;refine HC.out.mono ?_;rintro e w1 ⟨rfl,rfl⟩)
    go_ret;exact⟨by rw[HF'.out];rfl,rfl⟩
   ·have ip2:((n:Int) == 12)=false:=by first | omega | (simp;omega)
    by_cases p3:n=13
    ·have ip3:((n:Int) == 13)=true:=by first | omega | (simp;omega)
     have HF':Hid (F=4):=by unfold Hid;rw[HF.out,if_neg p0,if_neg p1,if_neg p2,if_pos p3]
     clear HF p0 p1 p2 p3;go_enter Tryz.func32,Tryz.ntmps32
     go_wp2_with (go_at_call 59;refine HC.out.mono ?_;rintro e w1 ⟨rfl,rfl⟩)
     go_ret;exact⟨by rw[HF'.out];rfl,rfl⟩
    ·have ip3:((n:Int) == 13)=false:=by first | omega | (simp;omega)
     by_cases p4:n<H
     ·have ip4:(n:Int)<(H:Int):=by first | omega | (simp;omega)
      by_cases p5:H≤n+4
      ·have ip5:(n:Int) ≥ (H:Int)-4:=by first | omega | (simp;omega)
       have HF':Hid (F=8):=by unfold Hid;rw[HF.out,if_neg p0,if_neg p1,if_neg p2,if_neg p3,if_pos p4,if_pos p5]
       clear HF p0 p1 p2 p3 p4 p5;go_enter Tryz.func32,Tryz.ntmps32
       go_wp2_with (go_at_call 59;refine HC.out.mono ?_;rintro e w1 ⟨rfl,rfl⟩)
       go_ret;exact⟨by rw[HF'.out];rfl,rfl⟩
      ·have ip5:¬ (n:Int) ≥ (H:Int)-4:=by first | omega | (simp;omega)
       by_cases p6:H=19
       ·have ip6:((H:Int) == 19)=true:=by first | omega | (simp;omega)
        have HF':Hid (F=7):=by unfold Hid;rw[HF.out,if_neg p0,if_neg p1,if_neg p2,if_neg p3,if_pos p4,if_neg p5,if_pos p6]
        clear HF p0 p1 p2 p3 p4 p5 p6;go_enter Tryz.func32,Tryz.ntmps32
        go_wp2_with (go_at_call 59;refine HC.out.mono ?_;rintro e w1 ⟨rfl,rfl⟩)
        go_ret;exact⟨by rw[HF'.out];rfl,rfl⟩
       ·have ip6:((H:Int) == 19)=false:=by first | omega | (simp;omega)
        by_cases p7:n<32
        ·have ip7:(n:Int)<32:=by first | omega | (simp;omega)
         have HF':Hid (F=5):=by unfold Hid;rw[HF.out,if_neg p0,if_neg p1,if_neg p2,if_neg p3,if_pos p4,if_neg p5,if_neg p6,if_pos p7]
         clear HF p0 p1 p2 p3 p4 p5 p6 p7;go_enter Tryz.func32,Tryz.ntmps32
         go_wp2_with (go_at_call 59;refine HC.out.mono ?_;rintro e w1 ⟨rfl,rfl⟩)
         go_ret;exact⟨by rw[HF'.out];rfl,rfl⟩
        ·have ip7:¬ (n:Int)<32:=by first | omega | (simp;omega)
         by_cases p8:n=32
         ·have ip8:((n:Int) == 32)=true:=by first | omega | (simp;omega)
          have HF':Hid (F=6):=by unfold Hid;rw[HF.out,if_neg p0,if_neg p1,if_neg p2,if_neg p3,if_pos p4,if_neg p5,if_neg p6,if_neg p7,if_pos p8]
          clear HF p0 p1 p2 p3 p4 p5 p6 p7 p8;go_enter Tryz.func32,Tryz.ntmps32
          go_wp2_with (go_at_call 59;refine HC.out.mono ?_;rintro e w1 ⟨rfl,rfl⟩)
          go_ret;exact⟨by rw[HF'.out];rfl,rfl⟩
         ·have ip8:((n:Int) == 32)=false:=by first | omega | (simp;omega)
          have HF':Hid (F=7):=by unfold Hid;rw[HF.out,if_neg p0,if_neg p1,if_neg p2,if_neg p3,if_pos p4,if_neg p5,if_neg p6,if_neg p7,if_neg p8]
          clear HF p0 p1 p2 p3 p4 p5 p6 p7 p8;go_enter Tryz.func32,Tryz.ntmps32
          go_wp2_with (go_at_call 59;refine HC.out.mono ?_;rintro e w1 ⟨rfl,rfl⟩)
          go_ret;exact⟨by rw[HF'.out];rfl,rfl⟩
     ·have ip4:¬ (n:Int)<(H:Int):=by first | omega | (simp;omega)
      by_cases p9:n<E
      ·have ip9:(n:Int)<(E:Int):=by first | omega | (simp;omega)
       have HF':Hid (F=9):=by unfold Hid;rw[HF.out,if_neg p0,if_neg p1,if_neg p2,if_neg p3,if_neg p4,if_pos p9]
       clear HF p0 p1 p2 p3 p4 p9;go_enter Tryz.func32,Tryz.ntmps32
       go_wp2_with (go_at_call 59;refine HC.out.mono ?_;rintro e w1 ⟨rfl,rfl⟩)
       go_ret;exact⟨by rw[HF'.out];rfl,rfl⟩
      ·have ip9:¬ (n:Int)<(E:Int):=by first | omega | (simp;omega)
       by_cases p10:n<E+15
       ·have ip10:(n:Int)<(E:Int)+15:=by first | omega | (simp;omega)
        have HF':Hid (F=10):=by unfold Hid;rw[HF.out,if_neg p0,if_neg p1,if_neg p2,if_neg p3,if_neg p4,if_neg p9,if_pos p10]
        clear HF p0 p1 p2 p3 p4 p9 p10;go_enter Tryz.func32,Tryz.ntmps32
        go_wp2_with (go_at_call 59;refine HC.out.mono ?_;rintro e w1 ⟨rfl,rfl⟩)
        go_ret;exact⟨by rw[HF'.out];rfl,rfl⟩
       ·have ip10:¬ (n:Int)<(E:Int)+15:=by first | omega | (simp;omega)
        by_cases p11:n<E+18
        ·have ip11:(n:Int)<(E:Int)+18:=by first | omega | (simp;omega)
         have HF':Hid (F=n-E-4):=by unfold Hid;rw[HF.out,if_neg p0,if_neg p1,if_neg p2,if_neg p3,if_neg p4,if_neg p9,if_neg p10,if_pos p11]
         clear HF p0 p1 p2 p3 p4 p9 p10 p11;go_enter Tryz.func32,Tryz.ntmps32
         go_wp2_with (go_at_call 59;refine HC.out.mono ?_;rintro e w1 ⟨rfl,rfl⟩)
         go_ret;exact⟨by rw[HF'.out];exact ret_i64 (by omega),rfl⟩
        ·have ip11:¬ (n:Int)<(E:Int)+18:=by first | omega | (simp;omega)
         by_cases p12:n<E+25
         ·have ip12:(n:Int)<(E:Int)+25:=by first | omega | (simp;omega)
          have HF':Hid (F=14):=by unfold Hid;rw[HF.out,if_neg p0,if_neg p1,if_neg p2,if_neg p3,if_neg p4,if_neg p9,if_neg p10,if_neg p11,if_pos p12]
          clear HF p0 p1 p2 p3 p4 p9 p10 p11 p12;go_enter Tryz.func32,Tryz.ntmps32
          go_wp2_with (go_at_call 59;refine HC.out.mono ?_;rintro e w1 ⟨rfl,rfl⟩)
          go_ret;exact⟨by rw[HF'.out];rfl,rfl⟩
         ·have ip12:¬ (n:Int)<(E:Int)+25:=by first | omega | (simp;omega)
          have HF':Hid (F=15):=by unfold Hid;rw[HF.out,if_neg p0,if_neg p1,if_neg p2,if_neg p3,if_neg p4,if_neg p9,if_neg p10,if_neg p11,if_neg p12]
          clear HF p0 p1 p2 p3 p4 p9 p10 p11 p12;go_enter Tryz.func32,Tryz.ntmps32
          go_wp2_with (go_at_call 59;refine HC.out.mono ?_;rintro e w1 ⟨rfl,rfl⟩)
          go_ret;exact⟨by rw[HF'.out];rfl,rfl⟩
def crcOkL (l:List Nat):Bool:=decide (¬ ((layL l).2=0∨l.length<(layL l).2+15)) && decide (crcZ (strN (l.take (layL l).2))=(valL ((l.drop (layL l).2).take 15):Nat))
theorem ck_S {w V V':World} {g off E cap:Nat} {t1 t2:ByteArray} {l1 l2:List Nat} (e1:strN l1=t1) (e2:strN l2=t2) (h:(convert 65 9 (sL (some ⟨g,off,none⟩) E cap)).run Tp V = .ok (.string t1) V∧(convert 65 9 (sL (some ⟨g,off+E,none⟩) 15 (cap-E))).run Tp V = .ok (.string t2) V∧isBytes V (some ⟨g,off,none⟩) E cap l1∧isBytes V (some ⟨g,off+E,none⟩) 15 (cap-E) l2∧Below w.heap.size w V) (hb:Below V.heap.size V V') (hz:w.heap.size≤V.heap.size):(convert 65 9 (sL (some ⟨g,off,none⟩) E cap)).run Tp V' = .ok (.string t1) V'∧(convert 65 9 (sL (some ⟨g,off+E,none⟩) 15 (cap-E))).run Tp V' = .ok (.string t2) V'∧isBytes V' (some ⟨g,off,none⟩) E cap l1∧isBytes V' (some ⟨g,off+E,none⟩) 15 (cap-E) l2∧Below w.heap.size w V':=by
 obtain⟨-,-,b1,b2,b3⟩:=h
 have b1':=b1.below hb
 have b2':=b2.below hb
 subst e1 e2;exact⟨convB b1',convB b2',b1',b2',b3.trans (hb.mono hz)⟩
theorem ck_be {w V:World} {g off E cap:Nat} {t1 t2:ByteArray} {l1 l2:List Nat} (h:(convert 65 9 (sL (some ⟨g,off,none⟩) E cap)).run Tp V = .ok (.string t1) V∧(convert 65 9 (sL (some ⟨g,off+E,none⟩) 15 (cap-E))).run Tp V = .ok (.string t2) V∧isBytes V (some ⟨g,off,none⟩) E cap l1∧isBytes V (some ⟨g,off+E,none⟩) 15 (cap-E) l2∧Below w.heap.size w V):Below w.heap.size w V:=h.2.2.2.2
theorem ck_S0 {w:World} {g off E cap:Nat} {t1 t2:ByteArray} {l1 l2:List Nat} (e1:strN l1=t1) (e2:strN l2=t2) (b1:isBytes w (some ⟨g,off,none⟩) E cap l1) (b2:isBytes w (some ⟨g,off+E,none⟩) 15 (cap-E) l2):(convert 65 9 (sL (some ⟨g,off,none⟩) E cap)).run Tp w.drew = .ok (.string t1) w.drew∧(convert 65 9 (sL (some ⟨g,off+E,none⟩) 15 (cap-E))).run Tp w.drew = .ok (.string t2) w.drew∧isBytes w.drew (some ⟨g,off,none⟩) E cap l1∧isBytes w.drew (some ⟨g,off+E,none⟩) 15 (cap-E) l2∧Below w.heap.size w w.drew:=by
 have b1':isBytes w.drew (some ⟨g,off,none⟩) E cap l1:=b1.below (Below.refl _ _).drew
 have b2':isBytes w.drew (some ⟨g,off+E,none⟩) 15 (cap-E) l2:=b2.below (Below.refl _ _).drew
 subst e1 e2;exact⟨convB b1',convB b2',b1',b2',(Below.refl _ _).drew⟩
theorem wrap15 (E:Nat) (h:E≤103):IntKind.i64.wrap ((E:Int)+15)=(E:Int)+15:=by
 simp[IntKind.wrap,IntKind.bits,IntKind.signed]
 omega
theorem l1val15 (w:World) {l:List Nat} (h:∀ x ∈ l,x<256) (hl:l.length≤15):Calls Tp 60 #[.string (strN l)] w fun e w'=>e = rT (I J (valL l:Nat))∧w=w':=by
 have hz:(strN l).size≤40:=by rw[strN_size];omega
 have:=l1val_any (strN l) w hz
 rw[lt_strN _ h] at this
 exact this
set_option maxRecDepth 20000 in
theorem l1crcOk_any (w:World) (a:Option Addr) (n cap:Nat) (l:List Nat) (h:isBytes w a n cap l) (hn:l.length≤100000) :
  Calls Tp 33 #[sL a n cap] w fun e w'=>e = rT (bO (crcOkL l))∧Below w.heap.size w w':=by
 have HC:Hid (Calls Tp 59 #[sL a n cap] w fun e w'=>e = rT (.tuple #[I J ((layL l).1:Nat),I J ((layL l).2:Nat)])∧w=w'):=l1lay_any w a n cap l h hn
 have hlen:=h.len
 have hcap:=h.cap
 subst hlen;obtain⟨hh1,hh2⟩:=layL_le l
 by_cases h0:(layL l).2=0
 ·have HF:Hid (crcOkL l=false):=by unfold Hid crcOkL;rw[decide_eq_false (by simp[h0])];rfl
  have h0':(((layL l).2:Int) == 0)=true:=by simp;omega
  clear h h0;generalize (layL l).1=H at *;generalize (layL l).2=E at *;generalize l.length=n at *;go_enter Tryz.func33,Tryz.ntmps33
  go_wp2_with (go_at_call 59;refine HC.out.mono ?_;rintro e w1 ⟨rfl,rfl⟩)
  go_ret;exact⟨ret_bool HF.out.symm,Below.refl _ _⟩
 ·have h0':(((layL l).2:Int) == 0)=false:=by simp;omega
  by_cases h15:l.length<(layL l).2+15
  ·have HF:Hid (crcOkL l=false):=by unfold Hid crcOkL;rw[decide_eq_false (by simp[h15])];rfl
   have h15':(l.length:Int)<((layL l).2:Int)+15:=by omega
   clear h h0 h15;generalize (layL l).1=H at *;generalize (layL l).2=E at *;generalize l.length=n at *;go_enter Tryz.func33,Tryz.ntmps33
   go_wp2_with (go_at_call 59;refine HC.out.mono ?_;rintro e w1 ⟨rfl,rfl⟩)
   go_ret;exact⟨ret_bool HF.out.symm,Below.refl _ _⟩
  ·have h15':¬ (l.length:Int)<((layL l).2:Int)+15:=by omega
   obtain⟨g,off,rfl,-⟩:=h.cells (by intro e;rw[e] at h15;simp at h15)
   have b1:isBytes w (some ⟨g,off,none⟩) (layL l).2 cap (l.take (layL l).2):=by
    have:=h.sub 0 (layL l).2 cap (by omega) (by omega) (by omega)
    rwa [List.drop_zero,Nat.add_zero] at this
   have b2:=h.sub (layL l).2 15 (cap-(layL l).2) (by omega) (by decide) (by omega)
   have HF:Hid (crcOkL l=decide (crcZ (strN (l.take (layL l).2))=(valL ((l.drop (layL l).2).take 15):Nat))):=by unfold Hid crcOkL;rw[decide_eq_true (p:=¬ _) (by omega)];simp
   have HV:Hid (∀ w,Calls Tp 60 #[.string (strN ((l.drop (layL l).2).take 15))] w fun e w'=>e = rT (I J (valL ((l.drop (layL l).2).take 15):Nat))∧w=w'):=fun w=>l1val15 w b2.small (by rw[List.length_take];omega)
   have hz1:(strN (l.take (layL l).2)).size≤maxLen:=by rw[strN_size,List.length_take];unfold maxLen;omega
   have HK:Hid (∀ w,Calls Tp 53 #[.string (strN (l.take (layL l).2))] w fun e w'=>e = rT (I J (crcZ (strN (l.take (layL l).2))))∧Below w.heap.size w w'):=fun w=>specCrc_any _ w hz1
   clear h h0 h15 hz1;generalize (layL l).1=H at *;generalize (layL l).2=E at *;generalize l.take E=l1 at *;generalize (l.drop E).take 15=l2 at *;generalize e1:strN l1=t1 at *;generalize e2:strN l2=t2 at *;generalize l.length=n at *;generalize valL l2=v2 at *;generalize crcZ t1=z1 at *;have hS0:=ck_S0 e1 e2 b1 b2
   have k1:(0:Int)≤(E:Int):=by omega
   have k2:(E:Int)≤(cap:Int):=by omega
   have k3:(E:Int)+15≤(cap:Int):=by omega
   have k4:(E:Int)≤(E:Int)+15:=by omega
   have k5:(0:Int)≤(E:Int)+15:=by omega
   have k6:¬ cap=E:=by omega
   have k10:¬ cap-E=0:=by omega
   have k11:IntKind.i64.wrap ((E:Int)+15)=(E:Int)+15:=wrap15 E hh2
   have k7:((E:Int)+15-(E:Int)).toNat=15:=by omega
   have k8:((E:Int)+15).toNat=E+15:=by omega
   have k9:E+15-E=15:=by omega
   have E12:Hid (strN l1=t1∧strN l2=t2):=⟨e1,e2⟩
   clear e1 e2;go_enter Tryz.func33,Tryz.ntmps33
   go_wp2_with (go_at_call 59;refine HC.out.mono ?_;rintro e w1 ⟨rfl,rfl⟩)
   go_region_held3 (fun V=>(convert 65 9 (sL (some ⟨g,off,none⟩) E cap)).run Tp V = .ok (.string t1) V∧(convert 65 9 (sL (some ⟨g,off+E,none⟩) 15 (cap-E))).run Tp V = .ok (.string t2) V∧isBytes V (some ⟨g,off,none⟩) E cap l1∧isBytes V (some ⟨g,off+E,none⟩) 15 (cap-E) l2∧Below w.heap.size w V) (first | exact hS0 | assumption | exact ck_S E12.out.1 E12.out.2 (by assumption) (by assumption) (ck_be (by assumption)).size) (first | (go_at_call 53;refine (HK.out _).mono ?_;rintro o w2 ⟨rfl,hb2⟩) | (go_at_call 60;refine (HV.out _).mono ?_;rintro o w3 ⟨rfl,rfl⟩))
   all_goals
    go_wp2
    go_ret;exact⟨ret_bool (by rw[HF.out,Bool.eq_iff_iff];simp),(Below.refl _ _).drew.trans (hb2.mono (by simp))⟩
def lookL (l:List Nat) (c:Nat):Nat:=
 if fieldL l=1 then (if c=49 then 4 else 0) else if fieldL l=11 then (if c=48 then 4 else 0)
 else if fieldL l=13 then (if c=48 then 4 else if crcOkL l=false then 5 else 0)
 else if fieldL l=14 then (if l.length<(layL l).2+24 then (if c=48 then 4 else if l.length=(layL l).2+23 then 1 else 0)
  else if l.length=(layL l).2+24 then (if c=48 then 6 else 2) else 0)
 else 0
set_option maxRecDepth 20000 in
theorem l1look_48 (w:World) (a:Option Addr) (n cap:Nat) (l:List Nat) (h:isBytes w a n cap l) (hn:l.length≤100000) :
  Calls Tp 57 #[sL a n cap,I .u8 48] w fun e w'=>e = rT (I J (lookL l 48:Nat))∧Below w.heap.size w w':=by
 have H81:Hid (Calls Tp 59 #[sL a n cap] w fun e w'=>e = rT (.tuple #[I J ((layL l).1:Nat),I J ((layL l).2:Nat)])∧w=w'):=l1lay_any w a n cap l h hn
 have H68:Hid (Calls Tp 32 #[sL a n cap] w fun e w'=>e = rT (I J (fieldL l:Nat))∧w=w'):=l1field_any w a n cap l h hn
 have H69:Hid (Calls Tp 33 #[sL a n cap] w fun e w'=>e = rT (bO (crcOkL l))∧Below w.heap.size w w'):=l1crcOk_any w a n cap l h hn
 have hlen:=h.len
 subst hlen;obtain⟨hh1,hh2⟩:=layL_le l
 have HF:Hid (lookL l 48=_):=(show lookL l 48=_ from by unfold lookL;rfl)
 clear h;generalize (layL l).1=H at *;generalize (layL l).2=E at *;generalize lookL l 48=L at *;generalize fieldL l=F at *;generalize crcOkL l=ck at *;generalize l.length=n at *;by_cases p1:F=1
 ·have ip1:((F:Int) == 1)=true:=by first | omega | (simp;omega) | simpa using p1
  have q49:¬ (48:Nat)=49:=by decide
  have HF':Hid (L=0):=by unfold Hid;rw[HF.out,if_pos p1,if_neg q49]
  clear HF p1;go_enter Tryz.func57,Tryz.ntmps57
  go_wp2_with (first | (go_at_call 32;refine H68.out.mono ?_;rintro e w1 ⟨rfl,rfl⟩) | (go_at_call 33;refine H69.out.mono ?_;rintro e w2 ⟨rfl,hb2⟩) | (go_at_call 59;refine H81.out.mono ?_;rintro e w3 ⟨rfl,rfl⟩))
  go_ret;exact⟨by rw[HF'.out];rfl,by first | exact hb2 | exact Below.refl _ _⟩
 ·have ip1:((F:Int) == 1)=false:=by first | omega | (simp;omega) | simpa using p1
  by_cases p11:F=11
  ·have ip11:((F:Int) == 11)=true:=by first | omega | (simp;omega) | simpa using p11
   have q48:(48:Nat)=48:=by decide
   have HF':Hid (L=4):=by unfold Hid;rw[HF.out,if_neg p1,if_pos p11,if_pos q48]
   clear HF p1 p11;go_enter Tryz.func57,Tryz.ntmps57
   go_wp2_with (first | (go_at_call 32;refine H68.out.mono ?_;rintro e w1 ⟨rfl,rfl⟩) | (go_at_call 33;refine H69.out.mono ?_;rintro e w2 ⟨rfl,hb2⟩) | (go_at_call 59;refine H81.out.mono ?_;rintro e w3 ⟨rfl,rfl⟩))
   go_ret;exact⟨by rw[HF'.out];rfl,by first | exact hb2 | exact Below.refl _ _⟩
  ·have ip11:((F:Int) == 11)=false:=by first | omega | (simp;omega) | simpa using p11
   by_cases p13:F=13
   ·have ip13:((F:Int) == 13)=true:=by first | omega | (simp;omega) | simpa using p13
    have q48:(48:Nat)=48:=by decide
    have HF':Hid (L=4):=by unfold Hid;rw[HF.out,if_neg p1,if_neg p11,if_pos p13,if_pos q48]
    clear HF p1 p11 p13;go_enter Tryz.func57,Tryz.ntmps57
    go_wp2_with (first | (go_at_call 32;refine H68.out.mono ?_;rintro e w1 ⟨rfl,rfl⟩) | (go_at_call 33;refine H69.out.mono ?_;rintro e w2 ⟨rfl,hb2⟩) | (go_at_call 59;refine H81.out.mono ?_;rintro e w3 ⟨rfl,rfl⟩))
    go_ret;exact⟨by rw[HF'.out];rfl,by first | exact hb2 | exact Below.refl _ _⟩
   ·have ip13:((F:Int) == 13)=false:=by first | omega | (simp;omega) | simpa using p13
    by_cases p14:F=14
    ·have ip14:((F:Int) == 14)=true:=by first | omega | (simp;omega) | simpa using p14
     by_cases pk6:n<E+24
     ·have ipk6:(n:Int)-(E:Int)-18<6:=by first | omega | (simp;omega) | simpa using pk6
      have q48:(48:Nat)=48:=by decide
      have HF':Hid (L=4):=by unfold Hid;rw[HF.out,if_neg p1,if_neg p11,if_neg p13,if_pos p14,if_pos pk6,if_pos q48]
      clear HF p1 p11 p13 p14 pk6;go_enter Tryz.func57,Tryz.ntmps57
      go_wp2_with (first | (go_at_call 32;refine H68.out.mono ?_;rintro e w1 ⟨rfl,rfl⟩) | (go_at_call 33;refine H69.out.mono ?_;rintro e w2 ⟨rfl,hb2⟩) | (go_at_call 59;refine H81.out.mono ?_;rintro e w3 ⟨rfl,rfl⟩))
      go_ret;exact⟨by rw[HF'.out];rfl,by first | exact hb2 | exact Below.refl _ _⟩
     ·have ipk6:¬ (n:Int)-(E:Int)-18<6:=by first | omega | (simp;omega) | simpa using pk6
      by_cases pk7:n=E+24
      ·have ipk7:(((n:Int)-(E:Int)-18) == 6)=true:=by first | omega | (simp;omega) | simpa using pk7
       have q48:(48:Nat)=48:=by decide
       have HF':Hid (L=6):=by unfold Hid;rw[HF.out,if_neg p1,if_neg p11,if_neg p13,if_pos p14,if_neg pk6,if_pos pk7,if_pos q48]
       clear HF p1 p11 p13 p14 pk6 pk7;go_enter Tryz.func57,Tryz.ntmps57
       go_wp2_with (first | (go_at_call 32;refine H68.out.mono ?_;rintro e w1 ⟨rfl,rfl⟩) | (go_at_call 33;refine H69.out.mono ?_;rintro e w2 ⟨rfl,hb2⟩) | (go_at_call 59;refine H81.out.mono ?_;rintro e w3 ⟨rfl,rfl⟩))
       go_ret;exact⟨by rw[HF'.out];rfl,by first | exact hb2 | exact Below.refl _ _⟩
      ·have ipk7:(((n:Int)-(E:Int)-18) == 6)=false:=by first | omega | (simp;omega) | simpa using pk7
       have HF':Hid (L=0):=by unfold Hid;rw[HF.out,if_neg p1,if_neg p11,if_neg p13,if_pos p14,if_neg pk6,if_neg pk7]
       clear HF p1 p11 p13 p14 pk6 pk7;go_enter Tryz.func57,Tryz.ntmps57
       go_wp2_with (first | (go_at_call 32;refine H68.out.mono ?_;rintro e w1 ⟨rfl,rfl⟩) | (go_at_call 33;refine H69.out.mono ?_;rintro e w2 ⟨rfl,hb2⟩) | (go_at_call 59;refine H81.out.mono ?_;rintro e w3 ⟨rfl,rfl⟩))
       go_ret;exact⟨by rw[HF'.out];rfl,by first | exact hb2 | exact Below.refl _ _⟩
    ·have ip14:((F:Int) == 14)=false:=by first | omega | (simp;omega) | simpa using p14
     have HF':Hid (L=0):=by unfold Hid;rw[HF.out,if_neg p1,if_neg p11,if_neg p13,if_neg p14]
     clear HF p1 p11 p13 p14;go_enter Tryz.func57,Tryz.ntmps57
     go_wp2_with (first | (go_at_call 32;refine H68.out.mono ?_;rintro e w1 ⟨rfl,rfl⟩) | (go_at_call 33;refine H69.out.mono ?_;rintro e w2 ⟨rfl,hb2⟩) | (go_at_call 59;refine H81.out.mono ?_;rintro e w3 ⟨rfl,rfl⟩))
     go_ret;exact⟨by rw[HF'.out];rfl,by first | exact hb2 | exact Below.refl _ _⟩
set_option maxRecDepth 20000 in
theorem l1look_49 (w:World) (a:Option Addr) (n cap:Nat) (l:List Nat) (h:isBytes w a n cap l) (hn:l.length≤100000) :
  Calls Tp 57 #[sL a n cap,I .u8 49] w fun e w'=>e = rT (I J (lookL l 49:Nat))∧Below w.heap.size w w':=by
 have H81:Hid (Calls Tp 59 #[sL a n cap] w fun e w'=>e = rT (.tuple #[I J ((layL l).1:Nat),I J ((layL l).2:Nat)])∧w=w'):=l1lay_any w a n cap l h hn
 have H68:Hid (Calls Tp 32 #[sL a n cap] w fun e w'=>e = rT (I J (fieldL l:Nat))∧w=w'):=l1field_any w a n cap l h hn
 have H69:Hid (Calls Tp 33 #[sL a n cap] w fun e w'=>e = rT (bO (crcOkL l))∧Below w.heap.size w w'):=l1crcOk_any w a n cap l h hn
 have hlen:=h.len
 subst hlen;obtain⟨hh1,hh2⟩:=layL_le l
 have HF:Hid (lookL l 49=_):=(show lookL l 49=_ from by unfold lookL;rfl)
 clear h;generalize (layL l).1=H at *;generalize (layL l).2=E at *;generalize lookL l 49=L at *;generalize fieldL l=F at *;generalize crcOkL l=ck at *;generalize l.length=n at *;by_cases p1:F=1
 ·have ip1:((F:Int) == 1)=true:=by first | omega | (simp;omega) | simpa using p1
  have q49:(49:Nat)=49:=by decide
  have HF':Hid (L=4):=by unfold Hid;rw[HF.out,if_pos p1,if_pos q49]
  clear HF p1;go_enter Tryz.func57,Tryz.ntmps57
  go_wp2_with (first | (go_at_call 32;refine H68.out.mono ?_;rintro e w1 ⟨rfl,rfl⟩) | (go_at_call 33;refine H69.out.mono ?_;rintro e w2 ⟨rfl,hb2⟩) | (go_at_call 59;refine H81.out.mono ?_;rintro e w3 ⟨rfl,rfl⟩))
  go_ret;exact⟨by rw[HF'.out];rfl,by first | exact hb2 | exact Below.refl _ _⟩
 ·have ip1:((F:Int) == 1)=false:=by first | omega | (simp;omega) | simpa using p1
  by_cases p11:F=11
  ·have ip11:((F:Int) == 11)=true:=by first | omega | (simp;omega) | simpa using p11
   have q48:¬ (49:Nat)=48:=by decide
   have HF':Hid (L=0):=by unfold Hid;rw[HF.out,if_neg p1,if_pos p11,if_neg q48]
   clear HF p1 p11;go_enter Tryz.func57,Tryz.ntmps57
   go_wp2_with (first | (go_at_call 32;refine H68.out.mono ?_;rintro e w1 ⟨rfl,rfl⟩) | (go_at_call 33;refine H69.out.mono ?_;rintro e w2 ⟨rfl,hb2⟩) | (go_at_call 59;refine H81.out.mono ?_;rintro e w3 ⟨rfl,rfl⟩))
   go_ret;exact⟨by rw[HF'.out];rfl,by first | exact hb2 | exact Below.refl _ _⟩
  ·have ip11:((F:Int) == 11)=false:=by first | omega | (simp;omega) | simpa using p11
   by_cases p13:F=13
   ·have ip13:((F:Int) == 13)=true:=by first | omega | (simp;omega) | simpa using p13
    have q48:¬ (49:Nat)=48:=by decide
    by_cases pc:ck=false
    ·have ipc:ck=false:=by first | omega | (simp;omega) | simpa using pc
     have HF':Hid (L=5):=by unfold Hid;rw[HF.out,if_neg p1,if_neg p11,if_pos p13,if_neg q48,if_pos pc]
     clear HF p1 p11 p13 pc;go_enter Tryz.func57,Tryz.ntmps57
     go_wp2_with (first | (go_at_call 32;refine H68.out.mono ?_;rintro e w1 ⟨rfl,rfl⟩) | (go_at_call 33;refine H69.out.mono ?_;rintro e w2 ⟨rfl,hb2⟩) | (go_at_call 59;refine H81.out.mono ?_;rintro e w3 ⟨rfl,rfl⟩))
     go_ret;exact⟨by rw[HF'.out];rfl,by first | exact hb2 | exact Below.refl _ _⟩
    ·have ipc:ck=true:=by first | omega | (simp;omega) | simpa using pc
     have HF':Hid (L=0):=by unfold Hid;rw[HF.out,if_neg p1,if_neg p11,if_pos p13,if_neg q48,if_neg pc]
     clear HF p1 p11 p13 pc;go_enter Tryz.func57,Tryz.ntmps57
     go_wp2_with (first | (go_at_call 32;refine H68.out.mono ?_;rintro e w1 ⟨rfl,rfl⟩) | (go_at_call 33;refine H69.out.mono ?_;rintro e w2 ⟨rfl,hb2⟩) | (go_at_call 59;refine H81.out.mono ?_;rintro e w3 ⟨rfl,rfl⟩))
     go_ret;exact⟨by rw[HF'.out];rfl,by first | exact hb2 | exact Below.refl _ _⟩
   ·have ip13:((F:Int) == 13)=false:=by first | omega | (simp;omega) | simpa using p13
    by_cases p14:F=14
    ·have ip14:((F:Int) == 14)=true:=by first | omega | (simp;omega) | simpa using p14
     by_cases pk6:n<E+24
     ·have ipk6:(n:Int)-(E:Int)-18<6:=by first | omega | (simp;omega) | simpa using pk6
      have q48:¬ (49:Nat)=48:=by decide
      by_cases pk5:n=E+23
      ·have ipk5:(((n:Int)-(E:Int)-18) == 5)=true:=by first | omega | (simp;omega) | simpa using pk5
       have HF':Hid (L=1):=by unfold Hid;rw[HF.out,if_neg p1,if_neg p11,if_neg p13,if_pos p14,if_pos pk6,if_neg q48,if_pos pk5]
       clear HF p1 p11 p13 p14 pk6 pk5;go_enter Tryz.func57,Tryz.ntmps57
       go_wp2_with (first | (go_at_call 32;refine H68.out.mono ?_;rintro e w1 ⟨rfl,rfl⟩) | (go_at_call 33;refine H69.out.mono ?_;rintro e w2 ⟨rfl,hb2⟩) | (go_at_call 59;refine H81.out.mono ?_;rintro e w3 ⟨rfl,rfl⟩))
       go_ret;exact⟨by rw[HF'.out];rfl,by first | exact hb2 | exact Below.refl _ _⟩
      ·have ipk5:(((n:Int)-(E:Int)-18) == 5)=false:=by first | omega | (simp;omega) | simpa using pk5
       have HF':Hid (L=0):=by unfold Hid;rw[HF.out,if_neg p1,if_neg p11,if_neg p13,if_pos p14,if_pos pk6,if_neg q48,if_neg pk5]
       clear HF p1 p11 p13 p14 pk6 pk5;go_enter Tryz.func57,Tryz.ntmps57
       go_wp2_with (first | (go_at_call 32;refine H68.out.mono ?_;rintro e w1 ⟨rfl,rfl⟩) | (go_at_call 33;refine H69.out.mono ?_;rintro e w2 ⟨rfl,hb2⟩) | (go_at_call 59;refine H81.out.mono ?_;rintro e w3 ⟨rfl,rfl⟩))
       go_ret;exact⟨by rw[HF'.out];rfl,by first | exact hb2 | exact Below.refl _ _⟩
     ·have ipk6:¬ (n:Int)-(E:Int)-18<6:=by first | omega | (simp;omega) | simpa using pk6
      by_cases pk7:n=E+24
      ·have ipk7:(((n:Int)-(E:Int)-18) == 6)=true:=by first | omega | (simp;omega) | simpa using pk7
       have q48:¬ (49:Nat)=48:=by decide
       have HF':Hid (L=2):=by unfold Hid;rw[HF.out,if_neg p1,if_neg p11,if_neg p13,if_pos p14,if_neg pk6,if_pos pk7,if_neg q48]
       clear HF p1 p11 p13 p14 pk6 pk7;go_enter Tryz.func57,Tryz.ntmps57
       go_wp2_with (first | (go_at_call 32;refine H68.out.mono ?_;rintro e w1 ⟨rfl,rfl⟩) | (go_at_call 33;refine H69.out.mono ?_;rintro e w2 ⟨rfl,hb2⟩) | (go_at_call 59;refine H81.out.mono ?_;rintro e w3 ⟨rfl,rfl⟩))
       go_ret;exact⟨by rw[HF'.out];rfl,by first | exact hb2 | exact Below.refl _ _⟩
      ·have ipk7:(((n:Int)-(E:Int)-18) == 6)=false:=by first | omega | (simp;omega) | simpa using pk7
       have HF':Hid (L=0):=by unfold Hid;rw[HF.out,if_neg p1,if_neg p11,if_neg p13,if_pos p14,if_neg pk6,if_neg pk7]
       clear HF p1 p11 p13 p14 pk6 pk7;go_enter Tryz.func57,Tryz.ntmps57
       go_wp2_with (first | (go_at_call 32;refine H68.out.mono ?_;rintro e w1 ⟨rfl,rfl⟩) | (go_at_call 33;refine H69.out.mono ?_;rintro e w2 ⟨rfl,hb2⟩) | (go_at_call 59;refine H81.out.mono ?_;rintro e w3 ⟨rfl,rfl⟩))
       go_ret;exact⟨by rw[HF'.out];rfl,by first | exact hb2 | exact Below.refl _ _⟩
    ·have ip14:((F:Int) == 14)=false:=by first | omega | (simp;omega) | simpa using p14
     have HF':Hid (L=0):=by unfold Hid;rw[HF.out,if_neg p1,if_neg p11,if_neg p13,if_neg p14]
     clear HF p1 p11 p13 p14;go_enter Tryz.func57,Tryz.ntmps57
     go_wp2_with (first | (go_at_call 32;refine H68.out.mono ?_;rintro e w1 ⟨rfl,rfl⟩) | (go_at_call 33;refine H69.out.mono ?_;rintro e w2 ⟨rfl,hb2⟩) | (go_at_call 59;refine H81.out.mono ?_;rintro e w3 ⟨rfl,rfl⟩))
     go_ret;exact⟨by rw[HF'.out];rfl,by first | exact hb2 | exact Below.refl _ _⟩
theorem l1look_any (w:World) (a:Option Addr) (n cap:Nat) (l:List Nat) (c:Nat) (hc:M.isL c) (h:isBytes w a n cap l) (hn:l.length≤100000) :
  Calls Tp 57 #[sL a n cap,I .u8 (c:Int)] w fun e w'=>e = rT (I J (lookL l c:Nat))∧Below w.heap.size w w':=by
 rcases hc with rfl|rfl
 ·exact l1look_48 w a n cap l h hn
 ·exact l1look_49 w a n cap l h hn
theorem app_byte3 {ops:Array Oper} {rest:List Oper} {o:Oper} {a:Act} {Q:Exit→Act→World→Prop} (w0 wr:World) (hgd:o.guard=none) (s x:Operand)
  (ho:o.op = .call { callee:=.builtin .append,args:=#[s,x],argTypes:=#[65,65] })
  (B:Nat) (v:Value) (l:List Nat) (c:Nat) (ci:Int) (hci:ci=(c:Int)) (hs:a.eval s=v) (hown:ownsB wr B v l)
  (hx:a.eval x = sL (some ⟨wr.heap.size,0,none⟩) 1 1) (hlen:l.length≤100000000) (hB:B≤wr.heap.size) (hbel:Below B w0 wr)
  (h:∀ v' w',ownsB w' B v' (l++[c])→Below B w0 w'→(∀ g,g<wr.heap.size→v.ownBlock≠some g→w'.heap[g]?=wr.heap[g]?∧v'.ownBlock≠some g)→wr.heap.size≤w'.heap.size→wpList Tp ops Q rest (a.put o.dst v') w') :
  wpList Tp ops Q (o :: rest) a (wr.alloc (.cells #[I .u8 ci] 5)):=by
 subst hci;obtain⟨i0,hi,hz0,hz1,hz2⟩:=info_parts Tryz.info5
 refine wpList_append_own_at _ hgd s x 65 ho B 5 i0 (I .u8 0) 1 1 Tryz.underlying65 hi hz0 hz1 hz2 rfl (by decide) v l.length (bv l) hs (World.ownsRow.alloc hown _) ⟨wr.heap.size,0,none⟩ 1 1 [I .u8 (c:Int)] hx rfl ?_ ?_ ?_ ?_ ?_ ?_
 ·intro j u hj;match j,hj with
  | 0,hj=>simp at hj;subst hj;simp[Addr.add]
 ·intro u hu;simp at hu;subst hu;rfl
 ·unfold maxLen;omega
 ·omega
 ·simp;omega
 ·intro v' w' ho' hg _ hor;have hr:∀ k,v.ownBlock=some k→B≤k:=fun k hk=>(World.ownsRow.lt hown k hk).1
  have e1:bv (l++[c])=bv l++[I .u8 (c:Int)]:=by simp[bv]
  refine h v' w' ?_ ((hbel.alloc hB _).grown hg (by simp;omega) hr) (fun g hgl hne=>⟨?_,?_⟩) (Nat.le_trans (by simp) hg.size)
  ·unfold ownsB
   rw[e1,List.length_append]
   exact ho'
  ·exact (hg.block g (by simp;omega) (fun e=>hne e.symm)).trans (Below.heap_alloc wr _ g hgl)
  ·rcases hor with hor | hor <;> rw[hor]
   ·exact hne
   ·intro e;simp at e
    omega
theorem ownsB.bytes {w:World} {B:Nat} {v:Value} {l:List Nat} (h:ownsB w B v l) (hl:∀ x ∈ l,x<256):∃ ao cap,v = sL ao l.length cap∧isBytes w ao l.length cap l:=by
 by_cases he:l=[]
 ·subst he;obtain⟨_,⟨rfl,_⟩|⟨g,cap,cur,rfl,_⟩⟩:=h
  ·exact⟨none,0,rfl,rfl,Nat.le_refl _,hl,fun h=>absurd rfl h⟩
  ·exact⟨_,cap,rfl,rfl,Nat.zero_le _,hl,fun h=>absurd rfl h⟩
 ·obtain⟨g,cap,hv,h1,h2,h3,h4,h5⟩:=h.open he
  refine⟨some ⟨g,0,none⟩,cap,hv,rfl,h3,hl,fun _=>⟨g,0,rfl,fun j hj=>?_⟩⟩
  have:=h5.cell j hj
  rw[Nat.zero_add,this]
  simp[hj]
def swStep (L:List Nat) (i:Nat) (st:Nat × List Nat × Bool):Nat × List Nat × Bool:=
 let c:=L.getD i 0
 let p:=if st.2.2=true then st.2.1 else st.2.1++[c]
 (if st.2.2=true then (if c=L.getD (i-1) 0 then 3 else 0) else lookL st.2.1 c,p,
  dueF (fun t=>L.getD t 0) (i+1) && (decide (fieldL p≤10) || decide (fieldL p=11)))
def sw (L:List Nat):Nat→Nat × List Nat × Bool
 | 0=>(0,[],false)
 | i+1=>swStep L i (sw L i)
def swF (L:List Nat):Nat→Nat→Nat × List Nat × Bool
 | 0,i=>sw L i
 | f+1,i=>if goesOnB (sw L i).1=true then swF L f (i+1) else (7,(sw L i).2.1,false)
theorem sw_len (L:List Nat) (i:Nat):(sw L i).2.1.length≤i:=by
 induction i with
 | zero=>exact Nat.le_refl _
 | succ i ih=>
  show (if (sw L i).2.2=true then (sw L i).2.1 else (sw L i).2.1++[L.getD i 0]).length≤i+1
  split
  ·omega
  ·rw[List.length_append,List.length_singleton];omega
theorem sw_small (L:List Nat) (h:∀ x ∈ L,M.isL x) (i:Nat) (hi:i≤L.length):∀ x ∈ (sw L i).2.1,M.isL x:=by
 induction i with
 | zero=>intro x hx;cases hx
 | succ i ih=>
  have ih:=ih (by omega)
  show ∀ x ∈ (if (sw L i).2.2=true then (sw L i).2.1 else (sw L i).2.1++[L.getD i 0]),M.isL x
  split
  ·exact ih
  ·intro x hx;rw[List.mem_append,List.mem_singleton] at hx
   rcases hx with hx|rfl
   ·exact ih x hx
   ·have hi':i<L.length:=by omega
    have e:L.getD i 0=L[i]:=by simp[hi']
    rw[e]
    exact h _ (List.getElem_mem hi')
end Go.Proofs.YtbllefckefhpoaaGreat
