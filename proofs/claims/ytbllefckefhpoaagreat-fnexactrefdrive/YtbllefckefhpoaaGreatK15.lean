import Derived.Test.YtbllefckefhpoaaGreatK14
namespace Go.Proofs.YtbllefckefhpoaaGreat
open Go.RowKit
set_option linter.unusedVariables false
set_option maxHeartbeats 16000000
open Go.Value renaming int→I,slice→sL,bool→bO,pointer→pT,agg→aG
open Go.IntKind renaming i64→J
open Go.Ending renaming returned→rT
open Go.Proofs.Tryz renaming prog→Tp
structure Wk where
 field:Nat
 taken:Nat
 last:Nat × Nat
 sum:Nat
 crc:Nat
 ext:Bool
 id:Nat
 rtr:Bool
 dlc:Nat
 data:List Nat
 code:Nat
namespace Wk
def due (k:Wk):Bool:=decide (k.field≤11) && decide (k.last.2=5)
end Wk
namespace Wk
def crcOk (k:Wk):Bool:=decide (10<k.field) && decide (k.crc=k.sum)
end Wk
namespace Wk
def form (good:Bool):Nat:=if good=true then 0 else 4
end Wk
namespace Wk
def eofCode (k:Wk) (bit:Nat):Nat:=
 if k.field=14∧k.taken=6 then (if bit=0 then 6 else 2)
 else if k.field=14∧k.taken=5∧bit=1 then 1 else form (decide (bit=1))
end Wk
namespace Wk
def plainCode (k:Wk) (bit:Nat):Nat:=
 if k.field=1 then form (decide (bit=0))
 else if k.field=11 then form (decide (bit=1))
 else if k.field=13 then (if bit=1∧k.crcOk=false then 5 else form (decide (bit=1)))
 else if k.field=14 then k.eofCode bit else 0
end Wk
namespace Wk
def dlen (k:Wk):Nat:=if k.rtr=true then 0 else min k.dlc 8
end Wk
namespace Wk
def fsize (k:Wk) (f:Nat):Nat:=
 if f=2 then 11 else if f=5 then 18 else if f=7 then (if k.ext=true then 2 else 1) else if f=8 then 4 else if f=9 then 8*k.dlen else if f=10 then 15 else if f=14 then 7 else 1
end Wk
namespace Wk
def fafter (k:Wk) (f:Nat):Nat:=
 if f=4∧k.ext=false then 7 else if f=8∧k.dlen=0 then 10 else f+1
end Wk
def wkAt (W:World) (b:Nat) (k:Wk) (v:Value):Prop:=
 W.heap[b]?=some (.cells #[I J (k.field:Int),I J (k.taken:Int),I .i32 (k.last.1:Int),I J (k.last.2:Int),I J (k.sum:Int),I J (k.crc:Int),bO k.ext,I .u32 (k.id:Int),bO k.rtr,I J (k.dlc:Int),v,I J (k.code:Int)] 207 (0,0))
theorem wkAt.cells {W:World} {b:Nat} {k:Wk} {v:Value} (h:wkAt W b k v) :
  W.cell? ⟨b,0,none⟩=some (I J (k.field:Int))∧W.cell? ⟨b,1,none⟩=some (I J (k.taken:Int))∧W.cell? ⟨b,2,none⟩=some (I .i32 (k.last.1:Int))∧W.cell? ⟨b,3,none⟩=some (I J (k.last.2:Int)) ∧
  W.cell? ⟨b,4,none⟩=some (I J (k.sum:Int))∧W.cell? ⟨b,5,none⟩=some (I J (k.crc:Int))∧W.cell? ⟨b,6,none⟩=some (bO k.ext)∧W.cell? ⟨b,7,none⟩=some (I .u32 (k.id:Int)) ∧
  W.cell? ⟨b,8,none⟩=some (bO k.rtr)∧W.cell? ⟨b,9,none⟩=some (I J (k.dlc:Int))∧W.cell? ⟨b,10,none⟩=some v∧W.cell? ⟨b,11,none⟩=some (I J (k.code:Int)):=by
 unfold wkAt at h
 refine⟨?_,?_,?_,?_,?_,?_,?_,?_,?_,?_,?_,?_⟩ <;> simp[World.cell?,h]
theorem wkAt.free {W:World} {b:Nat} {k:Wk} {v:Value} (h:wkAt W b k v) (i:Nat):W.frozen? ⟨b,i,none⟩=false:=by
 unfold wkAt at h;simp[World.frozen?,h]
theorem full2_any (w:World) (b off n:Nat) (h:w.cell? ⟨b,off+1,none⟩=some (I J (n:Int))) :
  Calls Tp 175 #[pT (some ⟨b,off,none⟩)] w fun e w'=>e = rT (bO (decide (n=5)))∧w=w':=by
 have hb:((n:Int) == 5)=decide (n=5):=by rw[Bool.eq_iff_iff];simp;omega
 go_enter Tryz.func175,Tryz.ntmps175
 go_wp2
 go_ret;exact⟨rfl,rfl⟩
theorem due_wk (w:World) (b:Nat) (k:Wk) (v:Value) (h:wkAt w b k v) :
  Calls Tp 138 #[pT (some ⟨b,0,none⟩)] w fun e w'=>e = rT (bO k.due)∧w=w':=by
 obtain⟨c0,-,-,c3,-⟩:=h.cells
 clear h;by_cases hf:k.field≤11
 ·have hf':(k.field:Int)≤11:=by omega
  have HD:Hid (k.due=decide (k.last.2=5)):=by simp[Wk.due,hf,Hid]
  clear hf;go_enter Tryz.func138,Tryz.ntmps138
  go_wp2_with (first | (go_at_call 175;refine (full2_any w b 2 k.last.2 c3).mono ?_;rintro o w1 ⟨rfl,rfl⟩))
  go_ret;exact⟨ret_bool HD.out.symm,rfl⟩
 ·have hf':¬ (k.field:Int)≤11:=by omega
  have HD:Hid (k.due=false):=by simp[Wk.due,hf,Hid]
  clear hf;go_enter Tryz.func138,Tryz.ntmps138
  go_wp2
  go_ret;exact⟨ret_bool HD.out.symm,rfl⟩
theorem crcOk_wk (w:World) (b:Nat) (k:Wk) (v:Value) (h:wkAt w b k v) :
  Calls Tp 139 #[pT (some ⟨b,0,none⟩)] w fun e w'=>e = rT (bO k.crcOk)∧∃ q,w'=w.drewN q:=by
 obtain⟨c0,-,-,-,c4,c5,-⟩:=h.cells
 clear h;by_cases hf:10<k.field
 ·have hf':(10:Int)<(k.field:Int):=by omega
  have hb:((k.crc:Int) == (k.sum:Int))=decide (k.crc=k.sum):=by rw[Bool.eq_iff_iff];simp;omega
  have HD:Hid (k.crcOk=decide (k.crc=k.sum)):=by simp[Wk.crcOk,hf,Hid]
  clear hf;go_enter Tryz.func139,Tryz.ntmps139
  go_wp2
  go_quiet (fail)
  go_wp2
  go_ret;exact⟨ret_bool HD.out.symm,_,rfl⟩
 ·have hf':decide ((10:Int)<(k.field:Int))=false:=by simp;omega
  have HD:Hid (k.crcOk=false):=by simp[Wk.crcOk,hf,Hid]
  clear hf;go_enter Tryz.func139,Tryz.ntmps139
  go_wp2
  go_quiet (fail)
  go_wp2
  go_ret;exact⟨ret_bool HD.out.symm,_,rfl⟩
theorem form_any (g:Bool) (w:World):Calls Tp 215 #[bO g] w fun e w'=>e = rT (I J (Wk.form g:Nat))∧w=w':=by
 cases g
 ·go_enter Tryz.func215,Tryz.ntmps215
  go_wp2
  go_ret;exact⟨rfl,rfl⟩
 ·go_enter Tryz.func215,Tryz.ntmps215
  go_wp2
  go_ret;exact⟨rfl,rfl⟩
theorem goesOn_any (c:Nat) (w:World):Calls Tp 78 #[I J (c:Int)] w fun e w'=>e = rT (bO (decide (c=0∨c=1)))∧w=w':=by
 by_cases h0:c=0
 ·subst h0;go_enter Tryz.func78,Tryz.ntmps78
  go_wp2
  go_ret;exact⟨rfl,rfl⟩
 ·have h0':((c:Int) == 0)=false:=by simp;omega
  have hb:((c:Int) == 1)=decide (c=0∨c=1):=by rw[Bool.eq_iff_iff];simp;omega
  clear h0;go_enter Tryz.func78,Tryz.ntmps78
  go_wp2
  go_ret;exact⟨ret_bool (by simp),rfl⟩
theorem eofCode_wk (w:World) (b:Nat) (k:Wk) (v:Value) (bit:Nat) (h:wkAt w b k v) (hbit:bit<2) :
  Calls Tp 216 #[pT (some ⟨b,0,none⟩),I J (bit:Int)] w fun e w'=>e = rT (I J (k.eofCode bit:Nat))∧w=w':=by
 obtain⟨c0,c1,-⟩:=h.cells
 clear h;have hgd:Tp.eqGuardType Tp.depth 76=false:=by kernel_rfl
 by_cases h6:k.field=14∧k.taken=6
 ·have e1:((k.field:Int) == 14)=true:=by simp;omega
  have e2:((k.taken:Int) == 6)=true:=by simp;omega
  have e3:((k.taken:Int) == 5)=false:=by simp;omega
  rcases (show bit=0∨bit=1 from by omega) with rfl|rfl
  ·have HE:Hid (k.eofCode 0=6):=by simp[Wk.eofCode,h6,Hid]
   clear h6;go_enter Tryz.func216,Tryz.ntmps216
   go_wp2
   go_ret;exact⟨ret_int (by rw[HE.out];rfl),rfl⟩
  ·have HE:Hid (k.eofCode 1=2):=by simp[Wk.eofCode,h6,Hid]
   clear h6;go_enter Tryz.func216,Tryz.ntmps216
   go_wp2
   go_ret;exact⟨ret_int (by rw[HE.out];rfl),rfl⟩
 ·by_cases h5:k.field=14∧k.taken=5
  ·have e1:((k.field:Int) == 14)=true:=by simp;omega
   have e2:((k.taken:Int) == 6)=false:=by simp;omega
   have e3:((k.taken:Int) == 5)=true:=by simp;omega
   rcases (show bit=0∨bit=1 from by omega) with rfl|rfl
   ·have HE:Hid (k.eofCode 0=4):=by simp[Wk.eofCode,h5,Wk.form,Hid]
    clear h5 h6;go_enter Tryz.func216,Tryz.ntmps216
    go_wp2_with (first | (go_at_call 215;refine (form_any _ _).mono ?_;rintro o w1 ⟨rfl,rfl⟩))
    go_ret;exact⟨ret_int (by rw[HE.out];rfl),rfl⟩
   ·have HE:Hid (k.eofCode 1=1):=by simp[Wk.eofCode,h5,Hid]
    clear h5 h6;go_enter Tryz.func216,Tryz.ntmps216
    go_wp2
    go_ret;exact⟨ret_int (by rw[HE.out];rfl),rfl⟩
  ·have e4:(((k.field:Int) == 14) && ((k.taken:Int) == 6))=false:=by simp;omega
   have e5:(((k.field:Int) == 14) && ((k.taken:Int) == 5))=false:=by simp;omega
   have HE:Hid (k.eofCode bit=Wk.form (decide (bit=1))):=by
    unfold Wk.eofCode Hid
    rw[if_neg h6,if_neg (fun hh=>h5 ⟨hh.1,hh.2.1⟩)]
   have hbb:((bit:Int) == 1)=decide (bit=1):=by rw[Bool.eq_iff_iff];simp;omega
   by_cases hf14:k.field=14
   ·have g1:((k.field:Int) == 14)=true:=by simp;omega
    have g2:((k.taken:Int) == 6)=false:=by simp;omega
    have g3:((k.taken:Int) == 5)=false:=by simp;omega
    clear h5 h6 e4 e5 hf14;go_enter Tryz.func216,Tryz.ntmps216
    go_wp2_with (first | (go_at_call 215;refine (form_any _ _).mono ?_;rintro o w1 ⟨rfl,rfl⟩))
    go_ret;exact⟨ret_int (by rw[HE.out]),rfl⟩
   ·have g1:((k.field:Int) == 14)=false:=by simp;omega
    clear h5 h6 e4 e5 hf14;go_enter Tryz.func216,Tryz.ntmps216
    go_wp2_with (first | (go_at_call 215;refine (form_any _ _).mono ?_;rintro o w1 ⟨rfl,rfl⟩))
    go_ret;exact⟨ret_int (by rw[HE.out]),rfl⟩
theorem plainCode_wk (w:World) (b:Nat) (k:Wk) (v:Value) (bit:Nat) (h:wkAt w b k v) (hbit:bit<2) :
  Calls Tp 202 #[pT (some ⟨b,0,none⟩),I J (bit:Int)] w fun e w'=>e = rT (I J (k.plainCode bit:Nat))∧∃ q,w'=w.drewN q:=by
 obtain⟨c0,-⟩:=h.cells
 have HK:Hid (wkAt w b k v):=h
 clear h;have hb0:((bit:Int) == 0)=decide (bit=0):=by rw[Bool.eq_iff_iff];simp
 have hb1:((bit:Int) == 1)=decide (bit=1):=by rw[Bool.eq_iff_iff];simp;omega
 by_cases h1:k.field=1
 ·have e1:((k.field:Int) == 1)=true:=by simp;omega
  have HE:Hid (k.plainCode bit=Wk.form (decide (bit=0))):=by simp[Wk.plainCode,h1,Hid]
  clear h1 hb1;go_enter Tryz.func202,Tryz.ntmps202
  go_wp2_with (first | (go_at_call 215;refine (form_any _ _).mono ?_;rintro o w1 ⟨rfl,rfl⟩))
  go_ret;exact⟨ret_int (by rw[HE.out]),0,rfl⟩
 ·have e1:((k.field:Int) == 1)=false:=by simp;omega
  by_cases h11:k.field=11
  ·have e2:((k.field:Int) == 11)=true:=by simp;omega
   have HE:Hid (k.plainCode bit=Wk.form (decide (bit=1))):=by simp[Wk.plainCode,h11,Hid]
   clear h1 h11 hb0;go_enter Tryz.func202,Tryz.ntmps202
   go_wp2_with (first | (go_at_call 215;refine (form_any _ _).mono ?_;rintro o w1 ⟨rfl,rfl⟩))
   go_ret;exact⟨ret_int (by rw[HE.out]),0,rfl⟩
  ·have e2:((k.field:Int) == 11)=false:=by simp;omega
   by_cases h13:k.field=13
   ·have e3:((k.field:Int) == 13)=true:=by simp;omega
    rcases (show bit=0∨bit=1 from by omega) with rfl|rfl
    ·have HE:Hid (k.plainCode 0=4):=by simp[Wk.plainCode,h13,Wk.form,Hid]
     clear h1 h11 h13 hb0 hb1;go_enter Tryz.func202,Tryz.ntmps202
     go_wp2_with (first | (go_at_call 215;refine (form_any _ _).mono ?_;rintro o w1 ⟨rfl,rfl⟩))
     go_ret;exact⟨ret_int (by rw[HE.out];rfl),0,rfl⟩
    ·cases hc:k.crcOk
     ·have HE:Hid (k.plainCode 1=5):=by simp[Wk.plainCode,h13,hc,Hid]
      have HC:Hid (k.crcOk=false):=hc
      clear h1 h11 h13 hb0 hb1 hc;go_enter Tryz.func202,Tryz.ntmps202
      go_wp2_with (first | (go_at_call 139;refine (crcOk_wk _ b k v HK.out).mono ?_;rw[HC.out];rintro o w1 ⟨rfl,q,rfl⟩) | (go_at_call 215;refine (form_any _ _).mono ?_;rintro o w1 ⟨rfl,rfl⟩))
      go_ret;exact⟨ret_int (by rw[HE.out];rfl),_,rfl⟩
     ·have HE:Hid (k.plainCode 1=0):=by simp[Wk.plainCode,h13,hc,Wk.form,Hid]
      have HC:Hid (k.crcOk=true):=hc
      clear h1 h11 h13 hb0 hb1 hc;go_enter Tryz.func202,Tryz.ntmps202
      go_wp2_with (first | (go_at_call 139;refine (crcOk_wk _ b k v HK.out).mono ?_;rw[HC.out];rintro o w1 ⟨rfl,q,rfl⟩) | (go_at_call 215;refine (form_any _ _).mono ?_;rintro o w2 ⟨rfl,rfl⟩))
      go_ret;exact⟨ret_int (by rw[HE.out];rfl),_,rfl⟩
   ·have e3:((k.field:Int) == 13)=false:=by simp;omega
    by_cases h14:k.field=14
    ·have e4:((k.field:Int) == 14)=true:=by simp;omega
     have HE:Hid (k.plainCode bit=k.eofCode bit):=by simp[Wk.plainCode,h14,Hid]
     clear h1 h11 h13 h14 hb0 hb1;go_enter Tryz.func202,Tryz.ntmps202
     go_wp2_with (first | (go_at_call 216;refine (eofCode_wk _ b k v bit HK.out hbit).mono ?_;rintro o w1 ⟨rfl,rfl⟩))
     go_ret;exact⟨ret_int (by rw[HE.out]),0,rfl⟩
    ·have e4:((k.field:Int) == 14)=false:=by simp;omega
     have HE:Hid (k.plainCode bit=0):=by simp[Wk.plainCode,h1,h11,h13,h14,Hid]
     clear h1 h11 h13 h14 hb0 hb1;go_enter Tryz.func202,Tryz.ntmps202
     go_wp2
     go_ret;exact⟨ret_int (by rw[HE.out];rfl),0,rfl⟩
theorem dl_dlen (k:Wk):dl k.rtr (k.dlc:Int)=(k.dlen:Int):=by
 unfold dl Wk.dlen
 split
 ·rfl
 ·split
  ·rw[Nat.min_eq_right (by omega)];rfl
  ·rw[Nat.min_eq_left (by omega)]
theorem fsize_any (w:World) (f:Nat) (k:Wk) (i:Nat) (a:Option Addr) (n cap:Nat) (hk:k.dlc≤1000) :
  Calls Tp 171 #[I J (f:Int),frV k.ext i k.rtr (k.dlc:Int) a n cap] w fun o w'=>o = rT (I J (k.fsize f:Nat))∧Below w.heap.size w w':=by
 have hdl:=dl_dlen k
 have hd8:k.dlen≤8:=by unfold Wk.dlen;split <;> omega
 by_cases h2:f=2
 ·subst h2;have HE:Hid (k.fsize 2=11):=by simp[Wk.fsize,Hid]
  go_enter Tryz.func171,Tryz.ntmps171
  go_wp2
  go_ret;exact⟨ret_int (by rw[HE.out];rfl),(Below.refl _ _).alloc (Nat.le_refl _) _⟩
 ·have e2:((f:Int) == 2)=false:=by simp;omega
  by_cases h5:f=5
  ·subst h5;have HE:Hid (k.fsize 5=18):=by simp[Wk.fsize,Hid]
   go_enter Tryz.func171,Tryz.ntmps171
   go_wp2
   go_ret;exact⟨ret_int (by rw[HE.out];rfl),(Below.refl _ _).alloc (Nat.le_refl _) _⟩
  ·have e5:((f:Int) == 5)=false:=by simp;omega
   by_cases h7:f=7
   ·subst h7;cases he:k.ext
    ·have HE:Hid (k.fsize 7=1):=by simp[Wk.fsize,he,Hid]
     go_enter Tryz.func171,Tryz.ntmps171
     go_wp2
     go_ret;exact⟨ret_int (by rw[HE.out];rfl),(Below.refl _ _).alloc (Nat.le_refl _) _⟩
    ·have HE:Hid (k.fsize 7=2):=by simp[Wk.fsize,he,Hid]
     go_enter Tryz.func171,Tryz.ntmps171
     go_wp2
     go_ret;exact⟨ret_int (by rw[HE.out];rfl),(Below.refl _ _).alloc (Nat.le_refl _) _⟩
   ·have e7:((f:Int) == 7)=false:=by simp;omega
    by_cases h8:f=8
    ·subst h8;have HE:Hid (k.fsize 8=4):=by simp[Wk.fsize,Hid]
     go_enter Tryz.func171,Tryz.ntmps171
     go_wp2
     go_ret;exact⟨ret_int (by rw[HE.out];rfl),(Below.refl _ _).alloc (Nat.le_refl _) _⟩
    ·have e8:((f:Int) == 8)=false:=by simp;omega
     by_cases h9:f=9
     ·subst h9;have HE:Hid (k.fsize 9=8*k.dlen):=by simp[Wk.fsize,Hid]
      have HD:Hid (dl k.rtr (k.dlc:Int)=(k.dlen:Int)):=hdl
      clear hdl;go_enter Tryz.func171,Tryz.ntmps171
      go_wp2_with (first | (go_at_call 201;refine (dataLen_any _ _ _ _ _ _ _ _).mono ?_;rw[HD.out];rintro o w1 ⟨rfl,rfl⟩))
      go_ret;exact⟨ret_int (by rw[HE.out];omega),((Below.refl _ _).alloc (Nat.le_refl _) _).alloc (by simp) _⟩
     ·have e9:((f:Int) == 9)=false:=by simp;omega
      by_cases h10:f=10
      ·subst h10;have HE:Hid (k.fsize 10=15):=by simp[Wk.fsize,Hid]
       go_enter Tryz.func171,Tryz.ntmps171
       go_wp2
       go_ret;exact⟨ret_int (by rw[HE.out];rfl),(Below.refl _ _).alloc (Nat.le_refl _) _⟩
      ·have e10:((f:Int) == 10)=false:=by simp;omega
       by_cases h14:f=14
       ·subst h14;have HE:Hid (k.fsize 14=7):=by simp[Wk.fsize,Hid]
        go_enter Tryz.func171,Tryz.ntmps171
        go_wp2
        go_ret;exact⟨ret_int (by rw[HE.out];rfl),(Below.refl _ _).alloc (Nat.le_refl _) _⟩
       ·have e14:((f:Int) == 14)=false:=by simp;omega
        have HE:Hid (k.fsize f=1):=by simp[Wk.fsize,h2,h5,h7,h8,h9,h10,h14,Hid]
        clear h2 h5 h7 h8 h9 h10 h14;go_enter Tryz.func171,Tryz.ntmps171
        go_wp2
        go_ret;exact⟨ret_int (by rw[HE.out];rfl),(Below.refl _ _).alloc (Nat.le_refl _) _⟩
theorem fafter_any (w:World) (f:Nat) (k:Wk) (i:Nat) (a:Option Addr) (n cap:Nat) (hf:f≤1000) :
  Calls Tp 218 #[I J (f:Int),frV k.ext i k.rtr (k.dlc:Int) a n cap] w fun o w'=>o = rT (I J (k.fafter f:Nat))∧Below w.heap.size w w':=by
 have hdl:=dl_dlen k
 have HD:Hid (dl k.rtr (k.dlc:Int)=(k.dlen:Int)):=hdl
 clear hdl;by_cases h4:f=4
 ·subst h4;cases he:k.ext
  ·have HE:Hid (k.fafter 4=7):=by simp[Wk.fafter,he,Hid]
   go_enter Tryz.func218,Tryz.ntmps218
   go_wp2
   go_ret;exact⟨ret_int (by rw[HE.out];rfl),(Below.refl _ _).alloc (Nat.le_refl _) _⟩
  ·have HE:Hid (k.fafter 4=5):=by simp[Wk.fafter,he,Hid]
   go_enter Tryz.func218,Tryz.ntmps218
   go_wp2
   go_ret;exact⟨ret_int (by rw[HE.out];rfl),(Below.refl _ _).alloc (Nat.le_refl _) _⟩
 ·have e4:((f:Int) == 4)=false:=by simp;omega
  by_cases h8:f=8
  ·subst h8;by_cases hz:k.dlen=0
   ·have HE:Hid (k.fafter 8=10):=by simp[Wk.fafter,hz,Hid]
    have hz':((k.dlen:Int) == 0)=true:=by simp;omega
    clear hz;go_enter Tryz.func218,Tryz.ntmps218
    go_wp2_with (first | (go_at_call 201;refine (dataLen_any _ _ _ _ _ _ _ _).mono ?_;rw[HD.out];rintro o w1 ⟨rfl,rfl⟩))
    go_ret;exact⟨ret_int (by rw[HE.out];rfl),((Below.refl _ _).alloc (Nat.le_refl _) _).alloc (by simp) _⟩
   ·have HE:Hid (k.fafter 8=9):=by simp[Wk.fafter,hz,Hid]
    have hz':((k.dlen:Int) == 0)=false:=by simp;omega
    clear hz;go_enter Tryz.func218,Tryz.ntmps218
    go_wp2_with (first | (go_at_call 201;refine (dataLen_any _ _ _ _ _ _ _ _).mono ?_;rw[HD.out];rintro o w1 ⟨rfl,rfl⟩))
    go_ret;exact⟨ret_int (by rw[HE.out];rfl),((Below.refl _ _).alloc (Nat.le_refl _) _).alloc (by simp) _⟩
  ·have e8:((f:Int) == 8)=false:=by simp;omega
   have HE:Hid (k.fafter f=f+1):=by simp[Wk.fafter,h4,h8,Hid]
   clear h4 h8;go_enter Tryz.func218,Tryz.ntmps218
   go_wp2
   go_ret;exact⟨ret_int (by rw[HE.out];rfl),(Below.refl _ _).alloc (Nat.le_refl _) _⟩
structure wkI (B b:Nat) (k:Wk) (w:World):Prop where
 ex:∃ v,wkAt w b k v∧ownsB w B v k.data
 le:B≤b
structure kept (B b:Nat) (w w':World):Prop where
 bel:Below B w w'
 oth:Lib.OthersKept 5 (some b) w w'
theorem kept.refl (B b:Nat) (w:World):kept B b w w:=⟨Below.refl _ _,Lib.OthersKept.refl _ _ _⟩
theorem kept.trans {B b:Nat} {w w1 w2:World} (h:kept B b w w1) (k:kept B b w1 w2):kept B b w w2:=⟨h.bel.trans k.bel,h.oth.trans k.oth⟩
theorem kept.set {B b:Nat} {w w1:World} (h:kept B b w w1) (hB:B≤b) (j:Nat) (x:Value):kept B b w (w1.setCell ⟨b,j,none⟩ x):=
 ⟨h.bel.setCell (by exact hB) x,h.oth.setCell ⟨b,j,none⟩ rfl x⟩
theorem kept.drewN {B b:Nat} {w w1:World} (h:kept B b w w1) (q:Nat):kept B b w (w1.drewN q):=⟨below_drewN h.bel q,h.oth⟩
theorem kept.alloc {B b:Nat} {w w1:World} (h:kept B b w w1) (hB:B≤w1.heap.size) (o:Obj):kept B b w (w1.alloc o):=⟨h.bel.alloc hB o,h.oth.alloc o⟩
theorem ownsB.setB {w:World} {B b:Nat} {v:Value} {l:List Nat} {cs:Array Value} (h:ownsB w B v l) (hb:w.heap[b]?=some (.cells cs 207 (0,0))) (j:Nat) (x:Value):ownsB (w.setCell ⟨b,j,none⟩ x) B v l:=
 h.otherBlock (fun g hg=>heap_setCell_other w ⟨b,j,none⟩ g x (fun e=>by
  obtain⟨c,fz,hc⟩:=h.kind g hg
  have e':g=b:=e
  rw[e',hb] at hc
  cases hc))
theorem wk_set {w:World} {B b:Nat} {k k':Wk} {v:Value} (h:wkAt w b k v) (ho:ownsB w B v k.data) (hB:B≤b) (j:Nat) (x:Value) (hd:k'.data=k.data)
  (hc:(#[I J (k.field:Int),I J (k.taken:Int),I .i32 (k.last.1:Int),I J (k.last.2:Int),I J (k.sum:Int),I J (k.crc:Int),bO k.ext,I .u32 (k.id:Int),bO k.rtr,I J (k.dlc:Int),v,I J (k.code:Int)]:Array Value).setIfInBounds j x = #[I J (k'.field:Int),I J (k'.taken:Int),I .i32 (k'.last.1:Int),I J (k'.last.2:Int),I J (k'.sum:Int),I J (k'.crc:Int),bO k'.ext,I .u32 (k'.id:Int),bO k'.rtr,I J (k'.dlc:Int),v,I J (k'.code:Int)]) :
  wkAt (w.setCell ⟨b,j,none⟩ x) b k' v∧ownsB (w.setCell ⟨b,j,none⟩ x) B v k'.data∧kept B b w (w.setCell ⟨b,j,none⟩ x):=by
 refine⟨?_,by rw[hd];exact ho.setB h j x,(kept.refl B b w).set hB j x⟩
 unfold wkAt
 rw[heap_setCell_same w b j _ _ x h,hc]
theorem hear_wk (w:World) (B b:Nat) (k:Wk) (c:Nat) (h:wkI B b k w) (hr:k.last.2≤100000) :
  Calls Tp 174 #[pT (some ⟨b,2,none⟩),I .i32 (c:Int)] w fun e w'=>e = rT (.tuple #[])∧wkI B b { k with last:=M.hear k.last c } w'∧kept B b w w':=by
 obtain⟨⟨v,hw,ho⟩,hB⟩:=h
 obtain⟨-,-,c2,c3,-⟩:=hw.cells
 have f2:=hw.free 2
 have f3:=hw.free 3
 have HW:Hid (wkAt w b k v∧ownsB w B v k.data):=⟨hw,ho⟩
 clear hw ho;by_cases hc:c=k.last.1
 ·have hb:((c:Int) != (k.last.1:Int))=false:=by simp;omega
  go_enter Tryz.func174,Tryz.ntmps174
  go_wp2
  go_end0
  have h1:=wk_set (k':={ k with last:=M.hear k.last c }) HW.out.1 HW.out.2 hB 3 (I J ((k.last.2:Int)+1)) rfl (by simp[M.hear,hc])
  exact⟨rfl,⟨⟨v,h1.1,h1.2.1⟩,hB⟩,h1.2.2⟩
 ·have hb:((c:Int) != (k.last.1:Int))=true:=by simp;omega
  go_enter Tryz.func174,Tryz.ntmps174
  go_wp2
  go_end0
  have h1:=wk_set (k':={ k with last:=(c,k.last.2) }) HW.out.1 HW.out.2 hB 2 (I .i32 (c:Int)) rfl (by simp)
  have h2:=wk_set (k':={ k with last:=(c,0) }) h1.1 h1.2.1 hB 3 (I J 0) rfl (by simp)
  have h3:=wk_set (k':={ k with last:=M.hear k.last c }) h2.1 h2.2.1 hB 3 (I J 1) rfl (by simp[M.hear,hc])
  exact⟨rfl,⟨⟨v,h3.1,h3.2.1⟩,hB⟩,(h1.2.2.trans h2.2.2).trans h3.2.2⟩
def keepD (data:List Nat) (taken bit:Nat):List Nat:=
 if taken % 8=0 then data++[bit] else data.set (data.length-1) (2*data.getD (data.length-1) 0 % 256+bit)
theorem shl_or (x bit:Nat) (hb:bit<2):bits BinOp.or IntKind.u8 ((x:Int)*2 % 256) (bit:Int)=((2*x % 256+bit:Nat):Int):=by
 have e:(x:Int)*2 % 256=((2*x % 256:Nat):Int):=by omega
 rw[e,u8_or_nat _ _ (by omega) (by omega),nat_join 1 _ _ (by omega) (by omega)]
theorem wk_setV {w:World} {b:Nat} {k:Wk} {v v':Value} (h:wkAt w b k v):wkAt (w.setCell ⟨b,10,none⟩ v') b k v':=by
 unfold wkAt
 rw[heap_setCell_same w b 10 _ _ v' h]
 simp
theorem ownsB.stored {w:World} {B g cap:Nat} {l:List Nat} (h:ownsB w B (sL (some ⟨g,0,none⟩) l.length cap) l) (j x:Nat):ownsB (w.setCell ⟨g,j,none⟩ (I .u8 (x:Int))) B (sL (some ⟨g,0,none⟩) l.length cap) (l.set j x):=by
 have:=(World.ownsRow.stored h j (I .u8 (x:Int))).1
 unfold ownsB
 have e:bv (l.set j x)=(bv l).set j (I .u8 (x:Int)):=by simp[bv,List.map_set]
 rw[e,List.length_set]
 exact this
theorem oth_some {b:Nat} {w w1:World} (h:Lib.OthersKept 5 none w w1):Lib.OthersKept 5 (some b) w w1:=fun k o hk _ ho=>h k o hk (by simp) ho
theorem kept.row {B b g:Nat} {w w1:World} (h:kept B b w w1) (hB:B≤g) (hg:∃ c fz,w1.heap[g]?=some (.cells c 5 fz)) (j:Nat) (x:Value):kept B b w (w1.setCell ⟨g,j,none⟩ x):=by
 refine⟨h.bel.setCell (by exact hB) x,fun i o hi hb ho=>?_⟩
 have h1:=h.oth i o hi hb ho
 rw[heap_setCell_other w1 ⟨g,j,none⟩ i x (fun e=>?_)]
 ·exact h1
 ·obtain⟨c,fz,hc⟩:=hg
  have e':i=g:=e
  rw[e',hc] at h1
  exact ho c fz (Option.some.inj h1).symm
theorem or_zero (bit:Nat) (hb:bit<2):bits BinOp.or IntKind.u8 0 (bit:Int)=((bit:Nat):Int):=by
 have:=shl_or 0 bit hb
 simpa using this
theorem keepData_end {w w1:World} {B b g cap m:Nat} {k:Wk} {v:Value} {l:List Nat} {x:Nat} {X:Int} (hX:X=(x:Int)) (hw:wkAt w1 b k v) (ho:ownsB w1 B (sL (some ⟨g,0,none⟩) l.length cap) l) (hk:kept B b w w1) (hB:B≤b) (hgB:B≤g) (hgb:¬ b=g) (l':List Nat) (hl':l.set m x=l') :
  wkI B b { k with data:=l' } ((w1.setCell ⟨b,10,none⟩ (sL (some ⟨g,0,none⟩) l.length cap)).setCell ⟨g,m,none⟩ (I .u8 X)).drew∧kept B b w ((w1.setCell ⟨b,10,none⟩ (sL (some ⟨g,0,none⟩) l.length cap)).setCell ⟨g,m,none⟩ (I .u8 X)).drew:=by
 subst hX hl';have h1:=wk_setV (v':=sL (some ⟨g,0,none⟩) l.length cap) hw
 have h2:=ho.setB hw 10 (sL (some ⟨g,0,none⟩) l.length cap)
 have h3:=h2.stored m x
 have hk1:=hk.set hB 10 (sL (some ⟨g,0,none⟩) l.length cap)
 have hk2:=hk1.row hgB (h2.kind g rfl) m (I .u8 (x:Int))
 refine⟨⟨⟨sL (some ⟨g,0,none⟩) l.length cap,?_,?_⟩,hB⟩,⟨hk2.bel.drew,hk2.oth⟩⟩
 ·exact (heap_setCell_other (w1.setCell ⟨b,10,none⟩ (sL (some ⟨g,0,none⟩) l.length cap)) ⟨g,m,none⟩ b (I .u8 (x:Int)) hgb).trans h1
 ·exact World.ownsRow.drew h3
theorem keepData_end2 {w w1:World} {B b g cap m:Nat} {k:Wk} {l:List Nat} {x:Nat} {X:Int} (hX:X=(x:Int)) (hw:wkAt w1 b k (sL (some ⟨g,0,none⟩) l.length cap)) (ho:ownsB w1 B (sL (some ⟨g,0,none⟩) l.length cap) l) (hk:kept B b w w1) (hB:B≤b) (hgB:B≤g) (hgb:¬ b=g) (l':List Nat) (hl':l.set m x=l') :
  wkI B b { k with data:=l' } (w1.setCell ⟨g,m,none⟩ (I .u8 X)).drew∧kept B b w (w1.setCell ⟨g,m,none⟩ (I .u8 X)).drew:=by
 subst hX hl';have h3:=ho.stored m x
 have hk2:=hk.row hgB (ho.kind g rfl) m (I .u8 (x:Int))
 refine⟨⟨⟨sL (some ⟨g,0,none⟩) l.length cap,?_,?_⟩,hB⟩,⟨hk2.bel.drew,hk2.oth⟩⟩
 ·exact (heap_setCell_other w1 ⟨g,m,none⟩ b (I .u8 (x:Int)) hgb).trans hw
 ·exact World.ownsRow.drew h3
theorem keepData_wk (w:World) (B b:Nat) (k:Wk) (bit:Nat) (h:wkI B b k w) (hbit:bit<2) (hl:k.data.length≤1000) (hne:¬ k.taken % 8=0→k.data≠[]) (hsm:∀ x ∈ k.data,x<256) (ht:k.taken≤1000000) :
  Calls Tp 217 #[pT (some ⟨b,0,none⟩),I .u8 (bit:Int)] w fun e w'=>e = rT (.tuple #[])∧wkI B b { k with data:=keepD k.data k.taken bit } w'∧kept B b w w':=by
 obtain⟨⟨v,hw,ho⟩,hB⟩:=h
 have hbz:b<w.heap.size:=lt_of_block hw
 obtain⟨-,c1,-,-,-,-,-,-,-,-,c10,-⟩:=hw.cells
 have f10:=hw.free 10
 by_cases h8:k.taken % 8=0
 ·have h8':(((k.taken:Int) % 8) == 0)=true:=by simp;omega
  have HW:Hid (wkAt w b k v):=hw
  clear hw;go_enter Tryz.func217,Tryz.ntmps217
  go_wp2_with (first | (at_builtin;refine app_byte2 w w rfl (.tmp 17) (.tmp 18) rfl B _ k.data 0 _ rfl rfl ho rfl (by omega) (by omega) (Below.refl _ _) ?_))
  intro v1 w1 ho1 hb1 hk1;have hw1:wkAt w1 b k v:=hk1 b _ HW.out (by simp) (by intro c fz e;cases e)
  have f10':=hw1.free 10
  have c10':=hw1.cells.2.2.2.2.2.2.2.2.2.2.1
  obtain⟨g,cap,rfl,hgB,hgz,hcap,hcm,hrow⟩:=ho1.open (by simp)
  have hrc:=hrow.cell k.data.length (by simp)
  have hrf:=hrow.free k.data.length (by simp)
  have hg0:(k.data++[0]).getD k.data.length 0=0:=getD_snoc_eq _ _ _ rfl
  simp only[hg0] at hrc
  have hgb:¬ b=g:=by
   intro e;obtain⟨c,fz,hc⟩:=ho1.kind g rfl
   rw[← e,hw1] at hc
   cases hc
  have HO:Hid (ownsB w1 B (sL (some ⟨g,0,none⟩) (k.data++[0]).length cap) (k.data++[0])):=ho1
  have HB1:Hid (Below B w w1∧Lib.OthersKept 5 none w w1):=⟨hb1,hk1⟩
  have HW1:Hid (wkAt w1 b k v):=hw1
  clear hrow hw1 ho1 hb1 hk1 c1 c10 f10 ho HW hg0 hne hsm;go_wp2
  go_region
  go_wp2
  go_end0
  have hd:(k.data++[0]).set k.data.length bit=keepD k.data k.taken bit:=by unfold keepD;rw[if_pos h8];simp
  have hfin:=keepData_end (m:=k.data.length) (w:=w) (or_zero bit hbit) HW1.out HO.out ⟨HB1.out.1,oth_some HB1.out.2⟩ hB hgB hgb _ hd
  have hln:(k.data++[0]).length=k.data.length+1:=by simp
  rw[hln] at hfin
  exact⟨rfl,hfin.1,hfin.2⟩
 ·have h8':(((k.taken:Int) % 8) == 0)=false:=by simp;omega
  have hne':=hne h8
  obtain⟨g,cap,rfl,hgB,hgz,hcap,hcm,hrow⟩:=ho.open hne'
  obtain⟨m,hm⟩ : ∃ m,k.data.length=m+1:=⟨k.data.length-1,by have:=List.length_pos_iff.2 hne';omega⟩
  have hrc:=hrow.cell m (by omega)
  have hrf:=hrow.free m (by omega)
  have hx256:k.data.getD m 0<256:=by rw[getD_at k.data m (by omega)];exact hsm _ (List.getElem_mem _)
  have hgb:¬ b=g:=by
   intro e;obtain⟨c,fz,hc⟩:=ho.kind g rfl
   rw[← e,hw] at hc
   cases hc
  have hd:k.data.set m (2*k.data.getD m 0 % 256+bit)=keepD k.data k.taken bit:=by unfold keepD;rw[if_neg h8,hm];rfl
  have hfin:=fun (X:Int) hX=>keepData_end2 (w:=w) (X:=X) (m:=m) hX hw ho (kept.refl B b w) hB hgB hgb _ hd
  have HF:Hid (∀ (X:Int),X=((2*k.data.getD m 0 % 256+bit:Nat):Int)→wkI B b { k with data:=keepD k.data k.taken bit } (w.setCell ⟨g,m,none⟩ (I .u8 X)).drew∧kept B b w (w.setCell ⟨g,m,none⟩ (I .u8 X)).drew):=hfin
  have HSL:Hid (k.data.length=m+1):=hm
  clear hfin hd hrow ho hw hne hsm hne';rw[HSL.out] at c10 hl hcap
  clear HSL hm;generalize k.data.getD m 0=x at *;go_enter Tryz.func217,Tryz.ntmps217
  go_wp2
  go_region
  go_wp2
  go_end0
  exact⟨rfl,(HF.out _ (shl_or x bit hbit)).1,(HF.out _ (shl_or x bit hbit)).2⟩
def Wk.keep1 (k:Wk) (bit:Nat):Wk:=if k.field≤9 then { k with sum:=M.stepN k.sum bit } else k
def Wk.keep (k:Wk) (bit:Nat):Wk:=
 if k.field=2∨k.field=5 then { k.keep1 bit with id:=2*k.id+bit }
 else if k.field=3∨k.field=6 then { k.keep1 bit with rtr:=decide (bit=1) }
 else if k.field=4 then { k.keep1 bit with ext:=decide (bit=1) }
 else if k.field=8 then { k.keep1 bit with dlc:=2*k.dlc+bit }
 else if k.field=9 then { k.keep1 bit with data:=keepD k.data k.taken bit }
 else if k.field=10 then { k.keep1 bit with crc:=2*k.crc+bit }
 else k.keep1 bit
theorem or_i64 (x bit:Nat) (hx:x<1000000) (hb:bit<2):bits BinOp.or IntKind.i64 ((x:Int)*2) (bit:Int)=((2*x+bit:Nat):Int):=by
 have e:(x:Int)*2=((2*x:Nat):Int):=by omega
 rw[e,(bits_nat .i64 62 (by decide) wraps_i64 (2*x) bit (by omega) (by omega)).2,nat_join 1 _ _ (by omega) (by omega)]
theorem or_u32 (x bit:Nat) (hx:x<1073741824) (hb:bit<2):bits BinOp.or IntKind.u32 ((x:Int)*2) (bit:Int)=((2*x+bit:Nat):Int):=by
 have e:(x:Int)*2=((2*x:Nat):Int):=by omega
 rw[e,u32_or_nat _ _ (by omega) (by omega),nat_join 1 _ _ (by omega) (by omega)]
theorem keep_wk (w:World) (B b:Nat) (k:Wk) (bit:Nat) (h:wkI B b k w) (hbit:bit<2) (hs:k.sum<32768) (hi:k.id<1073741824) (hdl:k.dlc<1000000) (hcr:k.crc<1000000) (ht:k.taken≤1000000)
  (hdata:k.field=9→k.data.length≤1000∧(¬ k.taken % 8=0→k.data≠[])∧(∀ x ∈ k.data,x<256)) :
  Calls Tp 203 #[pT (some ⟨b,0,none⟩),I J (bit:Int)] w fun e w'=>e = rT (.tuple #[])∧wkI B b (k.keep bit) w'∧kept B b w w':=by
 obtain⟨⟨v,hw,ho⟩,hB⟩:=h
 obtain⟨c0,c1,-,-,c4,c5,c6,c7,c8,c9,c10,-⟩:=hw.cells
 have hfr:=fun j=>hw.free j
 have hb1:((bit:Int) == 1)=decide (bit=1):=by rw[Bool.eq_iff_iff];simp;omega
 have HW:Hid (wkAt w b k v∧ownsB w B v k.data):=⟨hw,ho⟩
 have hs1:=fun (hf:k.field≤9)=>wk_set (k':={ k with sum:=M.stepN k.sum bit }) hw ho hB 4 (I J ((M.stepN k.sum bit:Nat):Int)) rfl (by simp)
 have HS1:Hid (k.field≤9→wkAt (w.setCell ⟨b,4,none⟩ (I J ((M.stepN k.sum bit:Nat):Int))) b { k with sum:=M.stepN k.sum bit } v∧ownsB (w.setCell ⟨b,4,none⟩ (I J ((M.stepN k.sum bit:Nat):Int))) B v k.data∧kept B b w (w.setCell ⟨b,4,none⟩ (I J ((M.stepN k.sum bit:Nat):Int)))):=hs1
 clear hs1 hw ho;rcases (show k.field=0∨k.field=1∨k.field=2∨k.field=3∨k.field=4∨k.field=5∨k.field=6∨k.field=7∨k.field=8∨k.field=9∨k.field=10∨11≤k.field from by omega) with hf|hf|hf|hf|hf|hf|hf|hf|hf|hf|hf|hf
 ·have hF:(k.field:Int)=0:=by omega
  rw[hF] at c0
  have h9:k.field≤9:=by omega
  clear hF;have HE:Hid (k.keep bit = { k with sum:=M.stepN k.sum bit }):=by unfold Hid Wk.keep Wk.keep1;rw[hf];simp
  clear hf hdata;go_enter Tryz.func203,Tryz.ntmps203
  go_wp2_with (first | (go_at_call 173;refine (crcStep_any k.sum bit _ hs).mono ?_;rintro o w2 ⟨rfl,rfl⟩))
  go_end0
  have h1:=HS1.out h9
  rw[HE.out]
  exact⟨rfl,⟨⟨v,h1.1,h1.2.1⟩,hB⟩,h1.2.2⟩
 ·have hF:(k.field:Int)=1:=by omega
  rw[hF] at c0
  have h9:k.field≤9:=by omega
  clear hF;have HE:Hid (k.keep bit = { k with sum:=M.stepN k.sum bit }):=by unfold Hid Wk.keep Wk.keep1;rw[hf];simp
  clear hf hdata;go_enter Tryz.func203,Tryz.ntmps203
  go_wp2_with (first | (go_at_call 173;refine (crcStep_any k.sum bit _ hs).mono ?_;rintro o w2 ⟨rfl,rfl⟩))
  go_end0
  have h1:=HS1.out h9
  rw[HE.out]
  exact⟨rfl,⟨⟨v,h1.1,h1.2.1⟩,hB⟩,h1.2.2⟩
 ·have hF:(k.field:Int)=2:=by omega
  rw[hF] at c0
  have h9:k.field≤9:=by omega
  clear hF;have HE:Hid (k.keep bit = { k with sum:=M.stepN k.sum bit,id:=2*k.id+bit }):=by unfold Hid Wk.keep Wk.keep1;rw[hf];simp
  clear hf hdata;have hor:=or_u32 k.id bit hi hbit
  go_enter Tryz.func203,Tryz.ntmps203
  go_wp2_with (first | (go_at_call 173;refine (crcStep_any k.sum bit _ hs).mono ?_;rintro o w2 ⟨rfl,rfl⟩))
  go_end0
  have h1:=HS1.out h9
  have h2:=wk_set (k':={ k with sum:=M.stepN k.sum bit,id:=2*k.id+bit }) h1.1 h1.2.1 hB 7 (I .u32 ((2*k.id+bit:Nat):Int)) rfl (by simp)
  rw[HE.out]
  exact⟨rfl,⟨⟨v,h2.1,h2.2.1⟩,hB⟩,h1.2.2.trans h2.2.2⟩
 ·have hF:(k.field:Int)=3:=by omega
  rw[hF] at c0
  have h9:k.field≤9:=by omega
  clear hF;have HE:Hid (k.keep bit = { k with sum:=M.stepN k.sum bit,rtr:=decide (bit=1) }):=by unfold Hid Wk.keep Wk.keep1;rw[hf];simp
  clear hf hdata;go_enter Tryz.func203,Tryz.ntmps203
  go_wp2_with (first | (go_at_call 173;refine (crcStep_any k.sum bit _ hs).mono ?_;rintro o w2 ⟨rfl,rfl⟩))
  go_end0
  have h1:=HS1.out h9
  have h2:=wk_set (k':={ k with sum:=M.stepN k.sum bit,rtr:=decide (bit=1) }) h1.1 h1.2.1 hB 8 (bO (decide (bit=1))) rfl (by simp)
  rw[HE.out]
  exact⟨rfl,⟨⟨v,h2.1,h2.2.1⟩,hB⟩,h1.2.2.trans h2.2.2⟩
 ·have hF:(k.field:Int)=4:=by omega
  rw[hF] at c0
  have h9:k.field≤9:=by omega
  clear hF;have HE:Hid (k.keep bit = { k with sum:=M.stepN k.sum bit,ext:=decide (bit=1) }):=by unfold Hid Wk.keep Wk.keep1;rw[hf];simp
  clear hf hdata;go_enter Tryz.func203,Tryz.ntmps203
  go_wp2_with (first | (go_at_call 173;refine (crcStep_any k.sum bit _ hs).mono ?_;rintro o w2 ⟨rfl,rfl⟩))
  go_end0
  have h1:=HS1.out h9
  have h2:=wk_set (k':={ k with sum:=M.stepN k.sum bit,ext:=decide (bit=1) }) h1.1 h1.2.1 hB 6 (bO (decide (bit=1))) rfl (by simp)
  rw[HE.out]
  exact⟨rfl,⟨⟨v,h2.1,h2.2.1⟩,hB⟩,h1.2.2.trans h2.2.2⟩
 ·have hF:(k.field:Int)=5:=by omega
  rw[hF] at c0
  have h9:k.field≤9:=by omega
  clear hF;have HE:Hid (k.keep bit = { k with sum:=M.stepN k.sum bit,id:=2*k.id+bit }):=by unfold Hid Wk.keep Wk.keep1;rw[hf];simp
  clear hf hdata;have hor:=or_u32 k.id bit hi hbit
  go_enter Tryz.func203,Tryz.ntmps203
  go_wp2_with (first | (go_at_call 173;refine (crcStep_any k.sum bit _ hs).mono ?_;rintro o w2 ⟨rfl,rfl⟩))
  go_end0
  have h1:=HS1.out h9
  have h2:=wk_set (k':={ k with sum:=M.stepN k.sum bit,id:=2*k.id+bit }) h1.1 h1.2.1 hB 7 (I .u32 ((2*k.id+bit:Nat):Int)) rfl (by simp)
  rw[HE.out]
  exact⟨rfl,⟨⟨v,h2.1,h2.2.1⟩,hB⟩,h1.2.2.trans h2.2.2⟩
 ·have hF:(k.field:Int)=6:=by omega
  rw[hF] at c0
  have h9:k.field≤9:=by omega
  clear hF;have HE:Hid (k.keep bit = { k with sum:=M.stepN k.sum bit,rtr:=decide (bit=1) }):=by unfold Hid Wk.keep Wk.keep1;rw[hf];simp
  clear hf hdata;go_enter Tryz.func203,Tryz.ntmps203
  go_wp2_with (first | (go_at_call 173;refine (crcStep_any k.sum bit _ hs).mono ?_;rintro o w2 ⟨rfl,rfl⟩))
  go_end0
  have h1:=HS1.out h9
  have h2:=wk_set (k':={ k with sum:=M.stepN k.sum bit,rtr:=decide (bit=1) }) h1.1 h1.2.1 hB 8 (bO (decide (bit=1))) rfl (by simp)
  rw[HE.out]
  exact⟨rfl,⟨⟨v,h2.1,h2.2.1⟩,hB⟩,h1.2.2.trans h2.2.2⟩
 ·have hF:(k.field:Int)=7:=by omega
  rw[hF] at c0
  have h9:k.field≤9:=by omega
  clear hF;have HE:Hid (k.keep bit = { k with sum:=M.stepN k.sum bit }):=by unfold Hid Wk.keep Wk.keep1;rw[hf];simp
  clear hf hdata;go_enter Tryz.func203,Tryz.ntmps203
  go_wp2_with (first | (go_at_call 173;refine (crcStep_any k.sum bit _ hs).mono ?_;rintro o w2 ⟨rfl,rfl⟩))
  go_end0
  have h1:=HS1.out h9
  rw[HE.out]
  exact⟨rfl,⟨⟨v,h1.1,h1.2.1⟩,hB⟩,h1.2.2⟩
 ·have hF:(k.field:Int)=8:=by omega
  rw[hF] at c0
  have h9:k.field≤9:=by omega
  clear hF;have HE:Hid (k.keep bit = { k with sum:=M.stepN k.sum bit,dlc:=2*k.dlc+bit }):=by unfold Hid Wk.keep Wk.keep1;rw[hf];simp
  clear hf hdata;have hor:=or_i64 k.dlc bit hdl hbit
  go_enter Tryz.func203,Tryz.ntmps203
  go_wp2_with (first | (go_at_call 173;refine (crcStep_any k.sum bit _ hs).mono ?_;rintro o w2 ⟨rfl,rfl⟩))
  go_end0
  have h1:=HS1.out h9
  have h2:=wk_set (k':={ k with sum:=M.stepN k.sum bit,dlc:=2*k.dlc+bit }) h1.1 h1.2.1 hB 9 (I J ((2*k.dlc+bit:Nat):Int)) rfl (by simp)
  rw[HE.out]
  exact⟨rfl,⟨⟨v,h2.1,h2.2.1⟩,hB⟩,h1.2.2.trans h2.2.2⟩
 ·have hF:(k.field:Int)=9:=by omega
  rw[hF] at c0
  have h9:k.field≤9:=by omega
  clear hF;have HE:Hid (k.keep bit = { k with sum:=M.stepN k.sum bit,data:=keepD k.data k.taken bit }):=by unfold Hid Wk.keep Wk.keep1;rw[hf];simp
  have hdd:=hdata hf
  have HDD:Hid (k.data.length≤1000∧(¬ k.taken % 8=0→k.data≠[])∧(∀ x ∈ k.data,x<256)):=hdd
  clear hf hdata hdd;have h1:=HS1.out h9
  have HI:Hid (wkI B b { k with sum:=M.stepN k.sum bit } (w.setCell ⟨b,4,none⟩ (I J ((M.stepN k.sum bit:Nat):Int)))):=⟨⟨v,h1.1,h1.2.1⟩,hB⟩
  clear h1;go_enter Tryz.func203,Tryz.ntmps203
  go_wp2_with (first | (go_at_call 173;refine (crcStep_any k.sum bit _ hs).mono ?_;rintro o w2 ⟨rfl,rfl⟩) | (go_at_call 217;refine (keepData_wk _ B b _ bit HI.out hbit HDD.out.1 HDD.out.2.1 HDD.out.2.2 ht).mono ?_;rintro o w5 ⟨rfl,hI5,hk5⟩))
  go_end0
  rw[HE.out]
  exact⟨rfl,hI5,(HS1.out h9).2.2.trans hk5⟩
 ·have hF:(k.field:Int)=10:=by omega
  rw[hF] at c0
  clear hF;have HE:Hid (k.keep bit = { k with crc:=2*k.crc+bit }):=by unfold Hid Wk.keep Wk.keep1;simp[hf]
  clear hf hdata;have hor:=or_i64 k.crc bit hcr hbit
  go_enter Tryz.func203,Tryz.ntmps203
  go_wp2
  go_end0
  have h2:=wk_set (k':={ k with crc:=2*k.crc+bit }) HW.out.1 HW.out.2 hB 5 (I J ((2*k.crc+bit:Nat):Int)) rfl (by simp)
  rw[HE.out]
  exact⟨rfl,⟨⟨v,h2.1,h2.2.1⟩,hB⟩,h2.2.2⟩
 ·have HE:Hid (k.keep bit=k):=by
   unfold Hid Wk.keep Wk.keep1
   simp only[show ¬ (k.field=2∨k.field=5) by omega,show ¬ (k.field=3∨k.field=6) by omega,show ¬ k.field=4 by omega,show ¬ k.field=8 by omega,show ¬ k.field=9 by omega,show ¬ k.field=10 by omega,show ¬ k.field≤9 by omega,if_false]
  have hF:(11:Int)≤(k.field:Int):=by omega
  have e2:((k.field:Int) == 2)=false:=by simp;omega
  have e3:((k.field:Int) == 3)=false:=by simp;omega
  have e4:((k.field:Int) == 4)=false:=by simp;omega
  have e5:((k.field:Int) == 5)=false:=by simp;omega
  have e6:((k.field:Int) == 6)=false:=by simp;omega
  have e8:((k.field:Int) == 8)=false:=by simp;omega
  have e9:((k.field:Int) == 9)=false:=by simp;omega
  have e10:((k.field:Int) == 10)=false:=by simp;omega
  clear hf hdata;go_enter Tryz.func203,Tryz.ntmps203
  go_wp2
  go_end0
  rw[HE.out]
  exact⟨rfl,⟨⟨v,HW.out.1,HW.out.2⟩,hB⟩,kept.refl _ _ _⟩
def Wk.adv (k:Wk):Wk:=if k.taken+1=k.fsize k.field then { k with field:=k.fafter k.field,taken:=0 } else { k with taken:=k.taken+1 }
theorem kept.of_below {B b:Nat} {w w1 w2:World} (h:kept B b w w1) (hb:Below w1.heap.size w1 w2) (hB:B≤w1.heap.size):kept B b w w2:=
 h.trans ⟨hb.mono hB,fun k _ hk _ _=>(hb.block k (lt_of_block hk)).trans hk⟩
theorem wkAt.below {w w1:World} {b:Nat} {k:Wk} {v:Value} (h:wkAt w b k v) (hb:Below w.heap.size w w1):wkAt w1 b k v:=(hb.block b (lt_of_block h)).trans h
theorem ownsB.below {w w1:World} {B:Nat} {v:Value} {l:List Nat} (h:ownsB w B v l) (hb:Below w.heap.size w w1):ownsB w1 B v l:=
 h.otherBlock (fun g hg=>hb.block g (World.ownsRow.lt h g hg).2)
theorem ownsB.sliced {w:World} {B:Nat} {v:Value} {l:List Nat} (h:ownsB w B v l):∃ ao cap,v = sL ao l.length cap:=by
 obtain⟨_,⟨rfl,h1⟩|⟨g,cap,cur,rfl,_⟩⟩:=h
 ·exact⟨none,0,by rw[h1]⟩
 ·exact⟨_,cap,rfl⟩
theorem adv_be (W V V':World) (b:Nat) (k:Wk) (ao:Option Addr) (cap:Nat) (h:V.cell? ⟨b,0,none⟩=some (I J (k.field:Int))∧V.cell? ⟨b,1,none⟩=some (I J ((k.taken+1:Nat):Int))∧V.cell? ⟨b,6,none⟩=some (bO k.ext)∧V.cell? ⟨b,7,none⟩=some (I .u32 (k.id:Int))∧V.cell? ⟨b,8,none⟩=some (bO k.rtr)∧V.cell? ⟨b,9,none⟩=some (I J (k.dlc:Int))∧V.cell? ⟨b,10,none⟩=some (sL ao k.data.length cap)∧Below W.heap.size W V) (hz:b<W.heap.size) (hb:Below V.heap.size V V'):(fun V=>V.cell? ⟨b,0,none⟩=some (I J (k.field:Int))∧V.cell? ⟨b,1,none⟩=some (I J ((k.taken+1:Nat):Int))∧V.cell? ⟨b,6,none⟩=some (bO k.ext)∧V.cell? ⟨b,7,none⟩=some (I .u32 (k.id:Int))∧V.cell? ⟨b,8,none⟩=some (bO k.rtr)∧V.cell? ⟨b,9,none⟩=some (I J (k.dlc:Int))∧V.cell? ⟨b,10,none⟩=some (sL ao k.data.length cap)∧Below W.heap.size W V) V':=by
 obtain⟨h0,h1,h2,h3,h4,h5,h6,hbl⟩:=h
 have z:b<V.heap.size:=Nat.lt_of_lt_of_le hz hbl.size
 exact⟨(hb.cell (by exact z)).trans h0,(hb.cell (by exact z)).trans h1,(hb.cell (by exact z)).trans h2,(hb.cell (by exact z)).trans h3,(hb.cell (by exact z)).trans h4,(hb.cell (by exact z)).trans h5,(hb.cell (by exact z)).trans h6,hbl.trans (hb.mono hbl.size)⟩
theorem adv_bel {W V:World} {b:Nat} {k:Wk} {ao:Option Addr} {cap:Nat} (h:V.cell? ⟨b,0,none⟩=some (I J (k.field:Int))∧V.cell? ⟨b,1,none⟩=some (I J ((k.taken+1:Nat):Int))∧V.cell? ⟨b,6,none⟩=some (bO k.ext)∧V.cell? ⟨b,7,none⟩=some (I .u32 (k.id:Int))∧V.cell? ⟨b,8,none⟩=some (bO k.rtr)∧V.cell? ⟨b,9,none⟩=some (I J (k.dlc:Int))∧V.cell? ⟨b,10,none⟩=some (sL ao k.data.length cap)∧Below W.heap.size W V):Below W.heap.size W V:=h.2.2.2.2.2.2.2
theorem advance_wk (w:World) (B b:Nat) (k:Wk) (h:wkI B b k w) (hdl:k.dlc≤1000) (ht:k.taken≤1000000) (hf:k.field≤1000) :
  Calls Tp 204 #[pT (some ⟨b,0,none⟩)] w fun e w'=>e = rT (.tuple #[])∧wkI B b k.adv w'∧kept B b w w':=by
 obtain⟨⟨v,hw,ho⟩,hB⟩:=h
 obtain⟨ao,cap,rfl⟩:=ho.sliced
 have hbz:b<w.heap.size:=lt_of_block hw
 obtain⟨c0,c1,-,-,-,-,c6,c7,c8,c9,c10,-⟩:=hw.cells
 have f0:=hw.free 0
 have f1:=hw.free 1
 have h1:=wk_set (k':={ k with taken:=k.taken+1 }) hw ho hB 1 (I J ((k.taken:Int)+1)) rfl (by simp)
 have H1:Hid (wkAt (w.setCell ⟨b,1,none⟩ (I J ((k.taken:Int)+1))) b { k with taken:=k.taken+1 } (sL ao k.data.length cap)∧ownsB (w.setCell ⟨b,1,none⟩ (I J ((k.taken:Int)+1))) B (sL ao k.data.length cap) k.data∧kept B b w (w.setCell ⟨b,1,none⟩ (I J ((k.taken:Int)+1)))):=h1
 clear h1 hw ho;by_cases hEq:k.taken+1=k.fsize k.field
 ·have hq:(((k.taken+1:Nat):Int) == ((k.fsize k.field:Nat):Int))=true:=by simp;omega
  have HA:Hid (k.adv = { k with field:=k.fafter k.field,taken:=0 }):=by unfold Hid Wk.adv;rw[if_pos hEq]
  clear hEq;go_enter Tryz.func204,Tryz.ntmps204
  go_wp2
  have hz1:b<(w.setCell ⟨b,1,none⟩ (I J ((k.taken:Int)+1))).heap.size:=by simpa using hbz
  obtain⟨d0,d1,-,-,-,-,d6,d7,d8,d9,d10,-⟩:=H1.out.1.cells
  clear c0 c1 c6 c7 c8 c9 c10 f0 f1;generalize w.setCell ⟨b,1,none⟩ (I J ((k.taken:Int)+1))=W at *;go_region_held3 (fun V=>V.cell? ⟨b,0,none⟩=some (I J (k.field:Int))∧V.cell? ⟨b,1,none⟩=some (I J ((k.taken+1:Nat):Int))∧V.cell? ⟨b,6,none⟩=some (bO k.ext)∧V.cell? ⟨b,7,none⟩=some (I .u32 (k.id:Int))∧V.cell? ⟨b,8,none⟩=some (bO k.rtr)∧V.cell? ⟨b,9,none⟩=some (I J (k.dlc:Int))∧V.cell? ⟨b,10,none⟩=some (sL ao k.data.length cap)∧Below W.heap.size W V) (first | exact⟨d0,d1,d6,d7,d8,d9,d10,(Below.refl _ _).drew⟩ | exact adv_be _ _ _ _ _ _ _ (by assumption) hz1 (by assumption)) (first | (go_at_call 171;refine (fsize_any _ k.field k k.id ao k.data.length cap hdl).mono ?_;rintro o w2 ⟨rfl,hb2⟩))
  rename_i hS
  have hbel:=adv_bel hS
  have hw2:=H1.out.1.below hbel
  have ho2:=H1.out.2.1.below hbel
  have hk2:kept B b w w2:=H1.out.2.2.of_below hbel (by omega)
  have hz2:b<w2.heap.size:=lt_of_block hw2
  clear hS d0 d1 d6 d7 d8 d9 d10 hb2 hbel;obtain⟨e0,e1,-,-,-,-,e6,e7,e8,e9,e10,-⟩:=hw2.cells
  have HW2:Hid (wkAt w2 b { k with taken:=k.taken+1 } (sL ao k.data.length cap)):=hw2
  clear hw2;go_wp2
  go_region_with (first | (go_at_call 218;refine (fafter_any _ k.field k k.id ao k.data.length cap hf).mono ?_;rintro o w3 ⟨rfl,hb3⟩;obtain⟨p0,p1,-⟩:=(wkAt.below (w:=w2.drew) HW2.out hb3).cells;have p2:=(wkAt.below (w:=w2.drew) HW2.out hb3).free 0;have p3:=(wkAt.below (w:=w2.drew) HW2.out hb3).free 1))
  all_goals
   go_wp2
   go_end0
   rw[HA.out]
   have hw3:=wkAt.below (w:=w2.drew) HW2.out hb3
   have ho3:=ownsB.below (w:=w2.drew) ho2 hb3
   have hk3:kept B b w w3:=kept.of_below (w1:=w2.drew) ⟨hk2.bel.drew,hk2.oth⟩ hb3 (by simp;omega)
   have h4:=wk_set (k':={ k with taken:=k.taken+1,field:=k.fafter k.field }) hw3 ho3 hB 0 (I J ((k.fafter k.field:Nat):Int)) rfl (by simp)
   have h5:=wk_set (k':={ k with field:=k.fafter k.field,taken:=0 }) h4.1 h4.2.1 hB 1 (I J 0) rfl (by simp)
   exact⟨rfl,⟨⟨_,h5.1,h5.2.1⟩,hB⟩,(hk3.trans h4.2.2).trans h5.2.2⟩
 ·have hq:(((k.taken+1:Nat):Int) == ((k.fsize k.field:Nat):Int))=false:=by simp;omega
  have HA:Hid (k.adv = { k with taken:=k.taken+1 }):=by unfold Hid Wk.adv;rw[if_neg hEq]
  clear hEq;go_enter Tryz.func204,Tryz.ntmps204
  go_wp2
  have hz1:b<(w.setCell ⟨b,1,none⟩ (I J ((k.taken:Int)+1))).heap.size:=by simpa using hbz
  obtain⟨d0,d1,-,-,-,-,d6,d7,d8,d9,d10,-⟩:=H1.out.1.cells
  clear c0 c1 c6 c7 c8 c9 c10 f0 f1;generalize w.setCell ⟨b,1,none⟩ (I J ((k.taken:Int)+1))=W at *;go_region_held3 (fun V=>V.cell? ⟨b,0,none⟩=some (I J (k.field:Int))∧V.cell? ⟨b,1,none⟩=some (I J ((k.taken+1:Nat):Int))∧V.cell? ⟨b,6,none⟩=some (bO k.ext)∧V.cell? ⟨b,7,none⟩=some (I .u32 (k.id:Int))∧V.cell? ⟨b,8,none⟩=some (bO k.rtr)∧V.cell? ⟨b,9,none⟩=some (I J (k.dlc:Int))∧V.cell? ⟨b,10,none⟩=some (sL ao k.data.length cap)∧Below W.heap.size W V) (first | exact⟨d0,d1,d6,d7,d8,d9,d10,(Below.refl _ _).drew⟩ | exact adv_be _ _ _ _ _ _ _ (by assumption) hz1 (by assumption)) (first | (go_at_call 171;refine (fsize_any _ k.field k k.id ao k.data.length cap hdl).mono ?_;rintro o w2 ⟨rfl,hb2⟩))
  rename_i hS
  have hbel:=adv_bel hS
  have hw2:=H1.out.1.below hbel
  have ho2:=H1.out.2.1.below hbel
  have hk2:kept B b w w2:=H1.out.2.2.of_below hbel (by omega)
  have hz2:b<w2.heap.size:=lt_of_block hw2
  clear hS d0 d1 d6 d7 d8 d9 d10 hb2 hbel;go_wp2
  go_end0
  rw[HA.out]
  exact⟨rfl,⟨⟨_,hw2,ho2⟩,hB⟩,hk2⟩
structure wkOk (k:Wk):Prop where
 run:k.last.2≤50000
 sum:k.sum<32768
 id:k.id<1073741824
 dlc:k.dlc≤400
 crc:k.crc<400000
 taken:k.taken≤1000
 field:k.field≤100
 data:k.field=9→k.data.length≤1000∧(¬ k.taken % 8=0→k.data≠[])∧(∀ x ∈ k.data,x<256)
def Wk.heard (k:Wk) (c:Nat):Wk:={ k with last:=M.hear k.last c }
def Wk.take (k:Wk) (c:Nat):Wk × Nat:=
 if k.due=true∧c=k.last.1 then (k,3)
 else if k.due=true then (k.heard c,0)
 else (((k.heard c).keep (c-48)).adv,(k.heard c).plainCode (c-48))
theorem keep_dlc (k:Wk) (bit:Nat) (hb:bit<2) (h:k.dlc≤400):(k.keep bit).dlc≤1000:=by
 unfold Wk.keep Wk.keep1
 (repeat' split) <;> ((try dsimp only);omega)
theorem keep_taken (k:Wk) (bit:Nat):(k.keep bit).taken=k.taken:=by
 unfold Wk.keep Wk.keep1
 (repeat' split) <;> rfl
theorem keep_field (k:Wk) (bit:Nat):(k.keep bit).field=k.field:=by
 unfold Wk.keep Wk.keep1
 (repeat' split) <;> rfl
theorem take_wk (w:World) (B b:Nat) (k:Wk) (c:Nat) (h:wkI B b k w) (hok:wkOk k) (hc:M.isL c) :
  Calls Tp 178 #[pT (some ⟨b,0,none⟩),I .i32 (c:Int)] w fun e w'=>e = rT (I J ((k.take c).2:Nat))∧wkI B b (k.take c).1 w'∧kept B b w w':=by
 have h':=h
 obtain⟨⟨v,hw,ho⟩,hB⟩:=h'
 have c2:=hw.cells.2.2.1
 have HI:Hid (wkI B b k w):=h
 have HW:Hid (wkAt w b k v):=hw
 clear h hw ho;cases hdue:k.due
 ·-- a plain bit
  have HE:Hid (k.take c=(((k.heard c).keep (c-48)).adv,(k.heard c).plainCode (c-48))):=by unfold Hid Wk.take;simp[hdue]
  have HD:Hid (k.due=false):=hdue
  have hbit:c-48<2:=by rcases hc with rfl | rfl <;> decide
  have hcb:(c:Int)-48=((c-48:Nat):Int):=by rcases hc with rfl | rfl <;> rfl
  have HCB:Hid ((c:Int)-48=((c-48:Nat):Int)):=hcb
  have hc1:(48:Int)≤(c:Int):=by rcases hc with rfl | rfl <;> decide
  have hc2:(c:Int)≤49:=by rcases hc with rfl | rfl <;> decide
  have HOK:Hid (wkOk k):=hok
  clear hdue hcb hok hc;go_enter Tryz.func178,Tryz.ntmps178
  go_wp2_with fail;refine (due_wk w b k v HW.out).mono ?_
  rw[HD.out]
  rintro o w1 ⟨rfl,rfl⟩;go_wp2_with fail;refine (hear_wk w B b k c HI.out (by have:=HOK.out.run;omega)).mono ?_
  rintro o w1 ⟨rfl,hI1,hk1⟩;have HI1:Hid (wkI B b (k.heard c) w1):=hI1
  clear hI1;obtain⟨⟨v1,hw1,_⟩,_⟩:=HI1.out
  go_wp2_with fail;rw[HCB.out]
  refine (plainCode_wk w1 b (k.heard c) v1 (c-48) hw1 hbit).mono ?_
  rintro o w2 ⟨rfl,q,rfl⟩;have hI2:wkI B b (k.heard c) (w1.drewN q):=by
   obtain⟨⟨v2,a2,b2⟩,l2⟩:=HI1.out
   exact⟨⟨v2,a2,b2.drewN q⟩,l2⟩
  have hk2:kept B b w (w1.drewN q):=hk1.drewN q
  clear hw1 hk1;go_wp2_with fail;refine (keep_wk (w1.drewN q) B b (k.heard c) (c-48) hI2 hbit HOK.out.sum HOK.out.id (by have:=HOK.out.dlc;show k.dlc<1000000;omega) (by have:=HOK.out.crc;show k.crc<1000000;omega) (by have:=HOK.out.taken;show k.taken≤1000000;omega) HOK.out.data).mono ?_
  rintro o w3 ⟨rfl,hI3,hk3⟩;go_wp2_with fail;refine (advance_wk w3 B b ((k.heard c).keep (c-48)) hI3 (keep_dlc _ _ hbit HOK.out.dlc) (by rw[keep_taken];have:=HOK.out.taken;show k.taken≤1000000;omega) (by rw[keep_field];have:=HOK.out.field;show k.field≤1000;omega)).mono ?_
  rintro o w4 ⟨rfl,hI4,hk4⟩;go_wp2
  go_ret;rw[HE.out]
  exact⟨rfl,hI4,hk2.trans (hk3.trans hk4)⟩
 ·by_cases hl:c=k.last.1
  ·have HE:Hid (k.take c=(k,3)):=by unfold Hid Wk.take;rw[if_pos ⟨hdue,hl⟩]
   have hq:((c:Int) == (k.last.1:Int))=true:=by simp;omega
   have HD:Hid (k.due=true):=hdue
   clear hdue hl hok hc;go_enter Tryz.func178,Tryz.ntmps178
   go_wp2_with (first | (go_at_call 138;refine (due_wk w b k v HW.out).mono ?_;rw[HD.out];rintro o w1 ⟨rfl,rfl⟩))
   go_ret;rw[HE.out]
   exact⟨rfl,HI.out,kept.refl _ _ _⟩
  ·have HE:Hid (k.take c=(k.heard c,0)):=by unfold Hid Wk.take;rw[if_neg (fun hh=>hl hh.2),if_pos hdue]
   have hq:((c:Int) == (k.last.1:Int))=false:=by simp;omega
   have HD:Hid (k.due=true):=hdue
   have HR:Hid (k.last.2≤100000):=by have:=hok.run;unfold Hid;omega
   clear hdue hl hok hc;go_enter Tryz.func178,Tryz.ntmps178
   go_wp2_with (first | (go_at_call 138;refine (due_wk w b k v HW.out).mono ?_;rw[HD.out];rintro o w1 ⟨rfl,rfl⟩))
   refine (hear_wk w B b k c HI.out HR.out).mono ?_
   rintro o w1 ⟨rfl,hI1,hk1⟩;go_wp2
   go_ret;rw[HE.out]
   exact⟨rfl,hI1,hk1⟩
structure Wk.Inv (k:Wk):Prop where
 f1:1≤k.field
 f2:k.field≤14
 tk:k.taken<k.fsize k.field
 sm:k.sum<32768
 idb:k.id<2 ^ (if k.field=1 then 0 else if k.field=2 then k.taken else if k.field≤4 then 11 else if k.field=5 then 11+k.taken else 29)
 dlb:k.dlc<2 ^ (if k.field<8 then 0 else if k.field=8 then k.taken else 4)
 crb:k.crc<2 ^ (if k.field<10 then 0 else if k.field=10 then k.taken else 15)
 dan:k.field<9→k.data=[]
 dat:k.field=9→k.data.length=(k.taken+7) / 8
 dal:k.data.length≤8
 das:∀ x ∈ k.data,x<256
theorem dlen_le (k:Wk):k.dlen≤8:=by unfold Wk.dlen;split <;> omega
theorem fsize_le (k:Wk) (f:Nat):k.fsize f≤64:=by
 have:=dlen_le k
 unfold Wk.fsize
 (repeat' split) <;> omega
theorem pow_le29 (n:Nat) (h:n≤29):2 ^ n≤536870912:=Nat.le_trans (Nat.pow_le_pow_right (by decide) h) (by decide)
theorem Wk.Inv.ok {k:Wk} (h:k.Inv) (hr:k.last.2≤50000):wkOk k:=by
 have ht:=fsize_le k k.field
 have ht2:=h.tk
 refine⟨hr,h.sm,?_,?_,?_,by omega,by have:=h.f2;omega,fun h9=>⟨by have:=h.dal;omega,?_,h.das⟩⟩
 ·refine Nat.lt_of_lt_of_le h.idb (Nat.le_trans (pow_le29 _ ?_) (by decide))
  have h3:=h.f2
  split
  ·omega
  ·split
   ·rename_i h2
    rw[h2] at ht2
    have:k.fsize 2=11:=rfl
    omega
   ·split
    ·omega
    ·split
     ·rename_i h5
      rw[h5] at ht2
      have:k.fsize 5=18:=rfl
      omega
     ·omega
 ·have hb:=h.dlb
  refine Nat.le_of_lt_succ (Nat.lt_of_lt_of_le hb ?_)
  split
  ·decide
  ·split
   ·rename_i h8
    rw[h8] at ht2
    have:k.fsize 8=4:=rfl
    exact Nat.le_trans (Nat.pow_le_pow_right (by decide) (show k.taken≤4 by omega)) (by decide)
   ·decide
 ·have hb:=h.crb
  refine Nat.lt_of_lt_of_le hb ?_
  split
  ·decide
  ·split
   ·rename_i h10
    rw[h10] at ht2
    have:k.fsize 10=15:=rfl
    exact Nat.le_trans (Nat.pow_le_pow_right (by decide) (show k.taken≤15 by omega)) (by decide)
   ·decide
 ·intro h8 e;have:=h.dat h9
  rw[e] at this
  simp at this
  omega
theorem keepD_len (data:List Nat) (taken bit:Nat) (h:data.length=(taken+7) / 8):(keepD data taken bit).length=(taken+1+7) / 8:=by
 unfold keepD
 split
 ·rw[List.length_append,List.length_singleton];omega
 ·rw[List.length_set];omega
theorem keepD_small (data:List Nat) (taken bit:Nat) (hb:bit<2) (h:∀ x ∈ data,x<256):∀ x ∈ keepD data taken bit,x<256:=by
 unfold keepD
 intro x hx;split at hx
 ·rw[List.mem_append,List.mem_singleton] at hx
  rcases hx with hx|rfl
  ·exact h x hx
  ·omega
 ·rcases List.mem_or_eq_of_mem_set hx with hx|rfl
  ·exact h x hx
  ·omega
theorem pow_step (x bit n:Nat) (h:x<2 ^ n) (hb:bit<2):2*x+bit<2 ^ (n+1):=by
 rw[Nat.pow_succ];omega
theorem inv_adv (k:Wk) (bit:Nat) (hb:bit<2) (h:k.Inv) (hg:k.plainCode bit=0∨k.plainCode bit=1):((k.keep bit).adv).Inv:=by
 obtain⟨f1,f2,tk,sm,idb,dlb,crb,dan,dat,dal,das⟩:=h
 obtain⟨field,taken,⟨la,lb⟩,sum,crc,ext,id,rtr,dlc,data,code⟩:=k
 simp only at f1 f2 tk sm idb dlb crb dan dat dal das
 have hst:=M.stepN_lt sum bit
 rcases (show field=1∨field=2∨field=3∨field=4∨field=5∨field=6∨field=7∨field=8∨field=9∨field=10∨field=11∨field=12∨field=13∨field=14 from by omega) with rfl|rfl|rfl|rfl|rfl|rfl|rfl|rfl|rfl|rfl|rfl|rfl|rfl|rfl
 ·-- Sof
  have t0:taken=0:=by simp[Wk.fsize] at tk;omega
  subst t0;simp at idb dlb crb dan
  subst idb dlb crb dan;simp[Wk.keep,Wk.keep1,Wk.adv,Wk.fsize,Wk.fafter]
  constructor <;> (try dsimp only) <;> (try simp[Wk.fsize]) <;> (try omega)
 ·-- IdA
  simp[Wk.fsize] at tk
  simp at idb dlb crb dan
  subst dlb crb dan;have hid:=pow_step id bit taken idb hb
  by_cases hT:taken+1=11
  ·have t10:taken=10:=by omega
   subst t10;simp[Wk.keep,Wk.keep1,Wk.adv,Wk.fsize,Wk.fafter]
   constructor <;> (try dsimp only) <;> (try simp[Wk.fsize]) <;> (try omega)
  ·simp[Wk.keep,Wk.keep1,Wk.adv,Wk.fsize,hT]
   constructor <;> (try dsimp only) <;> (try simp[Wk.fsize]) <;> (try omega)
 ·-- Rtr
  have t0:taken=0:=by simp[Wk.fsize] at tk;omega
  subst t0;simp at idb dlb crb dan
  subst dlb crb dan;simp[Wk.keep,Wk.keep1,Wk.adv,Wk.fsize,Wk.fafter]
  constructor <;> (try dsimp only) <;> (try simp[Wk.fsize]) <;> (try omega)
 ·-- Ide
  have t0:taken=0:=by simp[Wk.fsize] at tk;omega
  subst t0;simp at idb dlb crb dan
  subst dlb crb dan;rcases (show bit=0∨bit=1 from by omega) with rfl|rfl
  ·simp[Wk.keep,Wk.keep1,Wk.adv,Wk.fsize,Wk.fafter]
   constructor <;> (try dsimp only) <;> (try simp[Wk.fsize]) <;> (try omega)
  ·simp[Wk.keep,Wk.keep1,Wk.adv,Wk.fsize,Wk.fafter]
   constructor <;> (try dsimp only) <;> (try simp[Wk.fsize]) <;> (try omega)
 ·-- IdB
  simp[Wk.fsize] at tk
  simp at idb dlb crb dan
  subst dlb crb dan;have hid:=pow_step id bit (11+taken) idb hb
  by_cases hT:taken+1=18
  ·have t10:taken=17:=by omega
   subst t10;simp[Wk.keep,Wk.keep1,Wk.adv,Wk.fsize,Wk.fafter]
   constructor <;> (try dsimp only) <;> (try simp[Wk.fsize]) <;> (try omega)
  ·simp[Wk.keep,Wk.keep1,Wk.adv,Wk.fsize,hT]
   constructor <;> (try dsimp only) <;> (try simp[Wk.fsize]) <;> (try omega)
 ·-- RtrX
  have t0:taken=0:=by simp[Wk.fsize] at tk;omega
  subst t0;simp at idb dlb crb dan
  subst dlb crb dan;simp[Wk.keep,Wk.keep1,Wk.adv,Wk.fsize,Wk.fafter]
  constructor <;> (try dsimp only) <;> (try simp[Wk.fsize]) <;> (try omega)
  cases ext <;> simp
 ·-- Res
  simp at idb dlb crb dan
  subst dlb crb dan;cases ext
  ·have t0:taken=0:=by simp[Wk.fsize] at tk;omega
   subst t0;simp[Wk.keep,Wk.keep1,Wk.adv,Wk.fsize,Wk.fafter]
   constructor <;> (try dsimp only) <;> (try simp[Wk.fsize]) <;> (try omega)
  ·have t0:taken=0∨taken=1:=by simp[Wk.fsize] at tk;omega
   rcases t0 with rfl|rfl
   ·simp[Wk.keep,Wk.keep1,Wk.adv,Wk.fsize]
    constructor <;> (try dsimp only) <;> (try simp[Wk.fsize]) <;> (try omega)
   ·simp[Wk.keep,Wk.keep1,Wk.adv,Wk.fsize,Wk.fafter]
    constructor <;> (try dsimp only) <;> (try simp[Wk.fsize]) <;> (try omega)
 ·-- Dlc
  simp[Wk.fsize] at tk
  simp at idb dlb crb dan
  subst crb dan;have hid:=pow_step dlc bit taken dlb hb
  by_cases hT:taken+1=4
  ·have t10:taken=3:=by omega
   subst t10;by_cases hz:(Wk.dlen ⟨8,3,(la,lb),M.stepN sum bit,0,ext,id,rtr,2*dlc+bit,[],code⟩)=0
   ·have e:(Wk.keep ⟨8,3,(la,lb),sum,0,ext,id,rtr,dlc,[],code⟩ bit).adv=⟨10,0,(la,lb),M.stepN sum bit,0,ext,id,rtr,2*dlc+bit,[],code⟩:=by
     simp[Wk.keep,Wk.keep1,Wk.adv,Wk.fsize,Wk.fafter,hz]
    rw[e]
    constructor <;> (try dsimp only) <;> (try simp[Wk.fsize]) <;> (try omega)
   ·have e:(Wk.keep ⟨8,3,(la,lb),sum,0,ext,id,rtr,dlc,[],code⟩ bit).adv=⟨9,0,(la,lb),M.stepN sum bit,0,ext,id,rtr,2*dlc+bit,[],code⟩:=by
     simp[Wk.keep,Wk.keep1,Wk.adv,Wk.fsize,Wk.fafter,hz]
    rw[e]
    have hz':0<Wk.dlen ⟨9,0,(la,lb),M.stepN sum bit,0,ext,id,rtr,2*dlc+bit,[],code⟩:=Nat.pos_of_ne_zero hz
    constructor <;> (try dsimp only) <;> (try simp[Wk.fsize]) <;> (try omega)
  ·simp[Wk.keep,Wk.keep1,Wk.adv,Wk.fsize,hT]
   constructor <;> (try dsimp only) <;> (try simp[Wk.fsize]) <;> (try omega)
 ·-- Data
  simp at idb dlb crb dat
  subst crb;have hd8:=dlen_le ⟨9,taken,(la,lb),M.stepN sum bit,0,ext,id,rtr,dlc,keepD data taken bit,code⟩
  have tk':taken<8*Wk.dlen ⟨9,taken,(la,lb),M.stepN sum bit,0,ext,id,rtr,dlc,keepD data taken bit,code⟩:=by simpa[Wk.fsize,Wk.dlen] using tk
  have hkl:=keepD_len data taken bit dat
  have hks:=keepD_small data taken bit hb das
  by_cases hT:taken+1=8*Wk.dlen ⟨9,taken,(la,lb),M.stepN sum bit,0,ext,id,rtr,dlc,keepD data taken bit,code⟩
  ·have e:(Wk.keep ⟨9,taken,(la,lb),sum,0,ext,id,rtr,dlc,data,code⟩ bit).adv=⟨10,0,(la,lb),M.stepN sum bit,0,ext,id,rtr,dlc,keepD data taken bit,code⟩:=by
    simp[Wk.keep,Wk.keep1,Wk.adv,Wk.fsize,Wk.fafter,hT]
   rw[e]
   constructor <;> (try dsimp only) <;> (try simp[Wk.fsize]) <;> (try omega)
  ·have e:(Wk.keep ⟨9,taken,(la,lb),sum,0,ext,id,rtr,dlc,data,code⟩ bit).adv=⟨9,taken+1,(la,lb),M.stepN sum bit,0,ext,id,rtr,dlc,keepD data taken bit,code⟩:=by
    simp[Wk.keep,Wk.keep1,Wk.adv,Wk.fsize,hT]
   rw[e]
   have hd':Wk.dlen ⟨9,taken+1,(la,lb),M.stepN sum bit,0,ext,id,rtr,dlc,keepD data taken bit,code⟩=Wk.dlen ⟨9,taken,(la,lb),M.stepN sum bit,0,ext,id,rtr,dlc,keepD data taken bit,code⟩:=rfl
   constructor <;> (try dsimp only) <;> (try simp[Wk.fsize]) <;> (try omega)
 ·-- Crc
  simp[Wk.fsize] at tk
  simp at idb dlb crb
  have hid:=pow_step crc bit taken crb hb
  by_cases hT:taken+1=15
  ·have t10:taken=14:=by omega
   subst t10;simp[Wk.keep,Wk.keep1,Wk.adv,Wk.fsize,Wk.fafter]
   constructor <;> (try dsimp only) <;> (try simp[Wk.fsize]) <;> (try omega)
  ·simp[Wk.keep,Wk.keep1,Wk.adv,Wk.fsize,hT]
   constructor <;> (try dsimp only) <;> (try simp[Wk.fsize]) <;> (try omega)
 ·-- CrcDel
  have t0:taken=0:=by simp[Wk.fsize] at tk;omega
  subst t0;simp at idb dlb crb
  simp[Wk.keep,Wk.keep1,Wk.adv,Wk.fsize,Wk.fafter]
  constructor <;> (try dsimp only) <;> (try simp[Wk.fsize]) <;> (try omega)
 ·-- Ack
  have t0:taken=0:=by simp[Wk.fsize] at tk;omega
  subst t0;simp at idb dlb crb
  simp[Wk.keep,Wk.keep1,Wk.adv,Wk.fsize,Wk.fafter]
  constructor <;> (try dsimp only) <;> (try simp[Wk.fsize]) <;> (try omega)
 ·-- AckDel
  have t0:taken=0:=by simp[Wk.fsize] at tk;omega
  subst t0;simp at idb dlb crb
  simp[Wk.keep,Wk.keep1,Wk.adv,Wk.fsize,Wk.fafter]
  constructor <;> (try dsimp only) <;> (try simp[Wk.fsize]) <;> (try omega)
 ·-- Eof
  simp[Wk.fsize] at tk
  simp at idb dlb crb
  have hT:¬ taken=6:=by
   intro e;subst e;rcases (show bit=0∨bit=1 from by omega) with rfl | rfl <;> simp[Wk.plainCode,Wk.eofCode] at hg
  have hT':¬ taken+1=7:=by omega
  simp[Wk.keep,Wk.keep1,Wk.adv,Wk.fsize,hT]
  constructor <;> (try dsimp only) <;> (try simp[Wk.fsize]) <;> (try omega)
end Go.Proofs.YtbllefckefhpoaaGreat
