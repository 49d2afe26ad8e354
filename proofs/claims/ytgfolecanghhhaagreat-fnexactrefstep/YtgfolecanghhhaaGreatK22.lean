import Derived.Test.YtgfolecanghhhaaGreatK19
namespace Go.Proofs.YtgfolecanghhhaaGreat
open Go.Proofs.Tryz
open Option renaming none->nn,some->sQ
open Go renaming World->Wd
open Go.RowKit
set_option linter.all false
set_option maxHeartbeats 16000000
open Go.Value renaming int->I,slice->sL,bool->bO,pointer->pT,agg->aG
open Go.IntKind renaming i64->J,u32->Zk
open Go.Ending renaming returned->rT
open Go.Proofs.Tryz renaming prog->Tp
section
variable {b B g cap m x:Nat} {w w1 W w2:Wd} {v:Value} {l:List Nat} {X:Int}
structure Wk where
 field:Nat
 taken:Nat
 last:Nat × Nat
 sum:Nat
 crc:Nat
 ext:Bool
 id:Nat
 rtr:Bool
 dlc:Nat
 data:List Nat
 code:Nat
namespace Wk
def due (k:Wk):Bool:=decide (k.field<=11) && decide (k.last.2=5)
def crcOk (k:Wk):Bool:=decide (10<k.field) && decide (k.crc=k.sum)
def form (good:Bool):Nat:=if good=true then 0 else 4
def eofCode (k:Wk) (bit:Nat):Nat:=
 if k.field=14/\k.taken=6 then (if bit=0 then 6 else 2)
 else if k.field=14/\k.taken=5/\bit=1 then 1 else form (decide (bit=1))
def plainCode (k:Wk) (bit:Nat):Nat:=
 if k.field=1 then form (decide (bit=0))
 else if k.field=11 then form (decide (bit=1))
 else if k.field=13 then (if bit=1/\k.crcOk=false then 5 else form (decide (bit=1)))
 else if k.field=14 then k.eofCode bit else 0
def dlen (k:Wk):Nat:=if k.rtr=true then 0 else min k.dlc 8
def fsize (k:Wk) (f:Nat):Nat:=
 if f=2 then 11 else if f=5 then 18 else if f=7 then (if k.ext=true then 2 else 1) else if f=8 then 4 else if f=9 then 8*k.dlen else if f=10 then 15 else if f=14 then 7 else 1
def fafter (k:Wk) (f:Nat):Nat:=
 if f=4/\k.ext=false then 7 else if f=8/\k.dlen=0 then 10 else f+1
end Wk
def bG (W:Wd) (b:Nat) (k:Wk) (v:Value):Prop:=
 W.heap[b]?=sQ (.cells #[I J (k.field:Int),I J (k.taken:Int),I .i32 (k.last.1:Int),I J (k.last.2:Int),I J (k.sum:Int),I J (k.crc:Int),bO k.ext,I Zk (k.id:Int),bO k.rtr,I J (k.dlc:Int),v,I J (k.code:Int)] 214 (0,0))
def bG.cells {k:Wk} (h:bG W b k v) :
  W.cell? ⟨b,0,nn⟩=sQ (I J (k.field:Int))/\W.cell? ⟨b,1,nn⟩=sQ (I J (k.taken:Int))/\W.cell? ⟨b,2,nn⟩=sQ (I .i32 (k.last.1:Int))/\W.cell? ⟨b,3,nn⟩=sQ (I J (k.last.2:Int)) /\
  W.cell? ⟨b,4,nn⟩=sQ (I J (k.sum:Int))/\W.cell? ⟨b,5,nn⟩=sQ (I J (k.crc:Int))/\W.cell? ⟨b,6,nn⟩=sQ (bO k.ext)/\W.cell? ⟨b,7,nn⟩=sQ (I Zk (k.id:Int)) /\
  W.cell? ⟨b,8,nn⟩=sQ (bO k.rtr)/\W.cell? ⟨b,9,nn⟩=sQ (I J (k.dlc:Int))/\W.cell? ⟨b,10,nn⟩=sQ v/\W.cell? ⟨b,11,nn⟩=sQ (I J (k.code:Int)):=by
 unfold bG at h;refine⟨?_,?_,?_,?_,?_,?_,?_,?_,?_,?_,?_,?_⟩ <;> simp[World.cell?,h]
def bG.free {k:Wk} (h:bG W b k v) (i:Nat):W.frozen? ⟨b,i,nn⟩=false:=by
 unfold bG at h;simp[World.frozen?,h]
def wS (w:Wd) (b off n:Nat) (h:w.cell? ⟨b,off+1,nn⟩=sQ (I J (n:Int))) :
  Calls Tp 197 #[pT (sQ ⟨b,off,nn⟩)] w fun e w'=>e = rT (bO (decide (n=5)))/\w=w':=by
 have hb:((n:Int) == 5)=decide (n=5):=by rw[qk];simp;omega
 go_enter func197,ntmps197;go_wp2;go_ret;exact⟨rfl,rfl⟩
def M0 (w:Wd) (b:Nat) (k:Wk) (v:Value) (h:bG w b k v) :
  Calls Tp 156 #[pT (sQ ⟨b,0,nn⟩)] w fun e w'=>e = rT (bO k.due)/\w=w':=by
 obtain⟨c0,-,-,c3,-⟩:=h.cells;clear h;by_cases hf:k.field<=11
 .have hf':(k.field:Int)<=11:=om;have HD:Hid (k.due=decide (k.last.2=5)):=by simp[Wk.due,hf,Hid]
  clear hf;go_enter func156,ntmps156;go_wp2_with (go_at_call 197;refine (wS w b 2 k.last.2 c3).mono ?_;rintro o w1 ⟨rfl,rfl⟩);go_ret;exact⟨aj HD.o.symm,rfl⟩
 .have hf':¬ (k.field:Int)<=11:=om;have HD:Hid (k.due=false):=by simp[Wk.due,hf,Hid]
  clear hf;go_enter func156,ntmps156;go_wp2;go_ret;exact⟨aj HD.o.symm,rfl⟩
def lK (w:Wd) (b:Nat) (k:Wk) (v:Value) (h:bG w b k v) :
  Calls Tp 157 #[pT (sQ ⟨b,0,nn⟩)] w fun e w'=>e = rT (bO k.crcOk)/\∃ q,w'=w.drewN q:=by
 obtain⟨c0,-,-,-,c4,c5,-⟩:=h.cells;clear h;by_cases hf:10<k.field
 .have hf':(10:Int)<(k.field:Int):=om;have hb:((k.crc:Int) == (k.sum:Int))=decide (k.crc=k.sum):=by rw[qk];simp;omega
  have HD:Hid (k.crcOk=decide (k.crc=k.sum)):=by simp[Wk.crcOk,hf,Hid]
  clear hf;go_enter func157,ntmps157;go_wp2;go_quiet (fail);go_wp2;go_ret;exact⟨aj HD.o.symm,_,rfl⟩
 .have hf':decide ((10:Int)<(k.field:Int))=false:=by simp;omega
  have HD:Hid (k.crcOk=false):=by simp[Wk.crcOk,hf,Hid]
  clear hf;go_enter func157,ntmps157;go_wp2;go_quiet (fail);go_wp2;go_ret;exact⟨aj HD.o.symm,_,rfl⟩
def eK (g:Bool) (w:Wd):Calls Tp 238 #[bO g] w fun e w'=>e = rT (I J (Wk.form g:Nat))/\w=w':=by
 cases g
 .go_enter func238,ntmps238;go_wp2;go_ret;exact⟨rfl,rfl⟩
 .go_enter func238,ntmps238;go_wp2;go_ret;exact⟨rfl,rfl⟩
def iZ (c:Nat) (w:Wd):Calls Tp 91 #[I J (c:Int)] w fun e w'=>e = rT (bO (decide (c=0\/c=1)))/\w=w':=by
 by_cases h0:c=0
 .subst h0;go_enter func91,ntmps91;go_wp2;go_ret;exact⟨rfl,rfl⟩
 .have h0':((c:Int) == 0)=false:=by simp;omega
  have hb:((c:Int) == 1)=decide (c=0\/c=1):=by rw[qk];simp;omega
  clear h0;go_enter func91,ntmps91;go_wp2;go_ret;exact⟨aj pQ,rfl⟩
def tR (w:Wd) (b:Nat) (k:Wk) (v:Value) (bit:Nat) (h:bG w b k v) (hbit:bit<2) :
  Calls Tp 239 #[pT (sQ ⟨b,0,nn⟩),I J (bit:Int)] w fun e w'=>e = rT (I J (k.eofCode bit:Nat))/\w=w':=by
 obtain⟨c0,c1,-⟩:=h.cells;clear h;have hgd:Tp.eqGuardType Tp.depth 76=false:=kr;by_cases h6:k.field=14/\k.taken=6
 .have e1:((k.field:Int) == 14)=true:=by simp;omega
  have e2:((k.taken:Int) == 6)=true:=by simp;omega
  have e3:((k.taken:Int) == 5)=false:=by simp;omega
  rcases (show bit=0\/bit=1 from by omega) with rfl|rfl
  .have HE:Hid (k.eofCode 0=6):=by simp[Wk.eofCode,h6,Hid]
   clear h6;go_enter func239,ntmps239;go_wp2;go_ret;exact⟨au (by rw[HE.o];rfl),rfl⟩
  .have HE:Hid (k.eofCode 1=2):=by simp[Wk.eofCode,h6,Hid]
   clear h6;go_enter func239,ntmps239;go_wp2;go_ret;exact⟨au (by rw[HE.o];rfl),rfl⟩
 .by_cases h5:k.field=14/\k.taken=5
  .have e1:((k.field:Int) == 14)=true:=by simp;omega
   have e2:((k.taken:Int) == 6)=false:=by simp;omega
   have e3:((k.taken:Int) == 5)=true:=by simp;omega
   rcases (show bit=0\/bit=1 from by omega) with rfl|rfl
   .have HE:Hid (k.eofCode 0=4):=by simp[Wk.eofCode,h5,Wk.form,Hid]
    clear h5 h6;go_enter func239,ntmps239;go_wp2_with (go_at_call 238;refine (eK _ _).mono ?_;rintro o w1 ⟨rfl,rfl⟩);go_ret;exact⟨au (by rw[HE.o];rfl),rfl⟩
   .have HE:Hid (k.eofCode 1=1):=by simp[Wk.eofCode,h5,Hid]
    clear h5 h6;go_enter func239,ntmps239;go_wp2;go_ret;exact⟨au (by rw[HE.o];rfl),rfl⟩
  .have e4:(((k.field:Int) == 14) && ((k.taken:Int) == 6))=false:=by simp;omega
   have e5:(((k.field:Int) == 14) && ((k.taken:Int) == 5))=false:=by simp;omega
   have HE:Hid (k.eofCode bit=Wk.form (decide (bit=1))):=by
    unfold Wk.eofCode Hid;rw[qa h6,qa (fun hh=>h5 ⟨hh.1,hh.2.1⟩)]
   have hbb:((bit:Int) == 1)=decide (bit=1):=by rw[qk];simp;omega
   by_cases hf14:k.field=14
   .have g1:((k.field:Int) == 14)=true:=by simp;omega
    have g2:((k.taken:Int) == 6)=false:=by simp;omega
    have g3:((k.taken:Int) == 5)=false:=by simp;omega
    clear h5 h6 e4 e5 hf14;go_enter func239,ntmps239;go_wp2_with (go_at_call 238;refine (eK _ _).mono ?_;rintro o w1 ⟨rfl,rfl⟩);go_ret;exact⟨au (by rw[HE.o]),rfl⟩
   .have g1:((k.field:Int) == 14)=false:=by simp;omega
    clear h5 h6 e4 e5 hf14;go_enter func239,ntmps239;go_wp2_with (go_at_call 238;refine (eK _ _).mono ?_;rintro o w1 ⟨rfl,rfl⟩);go_ret;exact⟨au (by rw[HE.o]),rfl⟩
def n6 (w:Wd) (b:Nat) (k:Wk) (v:Value) (bit:Nat) (h:bG w b k v) (hbit:bit<2) :
  Calls Tp 225 #[pT (sQ ⟨b,0,nn⟩),I J (bit:Int)] w fun e w'=>e = rT (I J (k.plainCode bit:Nat))/\∃ q,w'=w.drewN q:=by
 obtain⟨c0,-⟩:=h.cells;have HK:Hid (bG w b k v):=h;clear h;have hb0:((bit:Int) == 0)=decide (bit=0):=by rw[qk];simp
 have hb1:((bit:Int) == 1)=decide (bit=1):=by rw[qk];simp;omega
 by_cases h1:k.field=1
 .have e1:((k.field:Int) == 1)=true:=by simp;omega
  have HE:Hid (k.plainCode bit=Wk.form (decide (bit=0))):=by simp[Wk.plainCode,h1,Hid]
  clear h1 hb1;go_enter func225,ntmps225;go_wp2_with (go_at_call 238;refine (eK _ _).mono ?_;rintro o w1 ⟨rfl,rfl⟩);go_ret;exact⟨au (by rw[HE.o]),0,rfl⟩
 .have e1:((k.field:Int) == 1)=false:=by simp;omega
  by_cases h11:k.field=11
  .have e2:((k.field:Int) == 11)=true:=by simp;omega
   have HE:Hid (k.plainCode bit=Wk.form (decide (bit=1))):=by simp[Wk.plainCode,h11,Hid]
   clear h1 h11 hb0;go_enter func225,ntmps225;go_wp2_with (go_at_call 238;refine (eK _ _).mono ?_;rintro o w1 ⟨rfl,rfl⟩);go_ret;exact⟨au (by rw[HE.o]),0,rfl⟩
  .have e2:((k.field:Int) == 11)=false:=by simp;omega
   by_cases h13:k.field=13
   .have e3:((k.field:Int) == 13)=true:=by simp;omega
    rcases (show bit=0\/bit=1 from by omega) with rfl|rfl
    .have HE:Hid (k.plainCode 0=4):=by simp[Wk.plainCode,h13,Wk.form,Hid]
     clear h1 h11 h13 hb0 hb1;go_enter func225,ntmps225;go_wp2_with (go_at_call 238;refine (eK _ _).mono ?_;rintro o w1 ⟨rfl,rfl⟩);go_ret;exact⟨au (by rw[HE.o];rfl),0,rfl⟩
    .cases hc:k.crcOk
     .have HE:Hid (k.plainCode 1=5):=by simp[Wk.plainCode,h13,hc,Hid]
      have HC:Hid (k.crcOk=false):=hc;clear h1 h11 h13 hb0 hb1 hc;go_enter func225,ntmps225;go_wp2_with (first | (go_at_call 157;refine (lK _ b k v HK.o).mono ?_;rw[HC.o];rintro o w1 ⟨rfl,q,rfl⟩) | (go_at_call 238;refine (eK _ _).mono ?_;rintro o w1 ⟨rfl,rfl⟩));go_ret;exact⟨au (by rw[HE.o];rfl),_,rfl⟩
     .have HE:Hid (k.plainCode 1=0):=by simp[Wk.plainCode,h13,hc,Wk.form,Hid]
      have HC:Hid (k.crcOk=true):=hc;clear h1 h11 h13 hb0 hb1 hc;go_enter func225,ntmps225;go_wp2_with (first | (go_at_call 157;refine (lK _ b k v HK.o).mono ?_;rw[HC.o];rintro o w1 ⟨rfl,q,rfl⟩) | (go_at_call 238;refine (eK _ _).mono ?_;rintro o w2 ⟨rfl,rfl⟩));go_ret;exact⟨au (by rw[HE.o];rfl),_,rfl⟩
   .have e3:((k.field:Int) == 13)=false:=by simp;omega
    by_cases h14:k.field=14
    .have e4:((k.field:Int) == 14)=true:=by simp;omega
     have HE:Hid (k.plainCode bit=k.eofCode bit):=by simp[Wk.plainCode,h14,Hid]
     clear h1 h11 h13 h14 hb0 hb1;go_enter func225,ntmps225;go_wp2_with (go_at_call 239;refine (tR _ b k v bit HK.o hbit).mono ?_;rintro o w1 ⟨rfl,rfl⟩);go_ret;exact⟨au (by rw[HE.o]),0,rfl⟩
    .have e4:((k.field:Int) == 14)=false:=by simp;omega
     have HE:Hid (k.plainCode bit=0):=by simp[Wk.plainCode,h1,h11,h13,h14,Hid]
     clear h1 h11 h13 h14 hb0 hb1;go_enter func225,ntmps225;go_wp2;go_ret;exact⟨au (by rw[HE.o];rfl),0,rfl⟩
def vh (k:Wk):dl k.rtr (k.dlc:Int)=(k.dlen:Int):=by
 unfold dl Wk.dlen;split
 .rfl
 .split
  .rw[Nat.min_eq_right om];rfl
  .rw[Nat.min_eq_left om]
def nh (w:Wd) (f:Nat) (k:Wk) (i:Nat) (a:Option Addr) (n cap:Nat) (hk:k.dlc<=1000) :
  Calls Tp 193 #[I J (f:Int),frV k.ext i k.rtr (k.dlc:Int) a n cap] w fun o w'=>o = rT (I J (k.fsize f:Nat))/\Bl w w':=by
 have hdl:=vh k;have hd8:k.dlen<=8:=by unfold Wk.dlen;split <;> omega
 by_cases h2:f=2
 .subst h2;have HE:Hid (k.fsize 2=11):=by simp[Wk.fsize,Hid]
  go_enter func193,ntmps193;go_wp2;go_ret;exact⟨au (by rw[HE.o];rfl),Zw⟩
 .have e2:((f:Int) == 2)=false:=by simp;omega
  by_cases h5:f=5
  .subst h5;have HE:Hid (k.fsize 5=18):=by simp[Wk.fsize,Hid]
   go_enter func193,ntmps193;go_wp2;go_ret;exact⟨au (by rw[HE.o];rfl),Zw⟩
  .have e5:((f:Int) == 5)=false:=by simp;omega
   by_cases h7:f=7
   .subst h7;cases he:k.ext
    .have HE:Hid (k.fsize 7=1):=by simp[Wk.fsize,he,Hid]
     go_enter func193,ntmps193;go_wp2;go_ret;exact⟨au (by rw[HE.o];rfl),Zw⟩
    .have HE:Hid (k.fsize 7=2):=by simp[Wk.fsize,he,Hid]
     go_enter func193,ntmps193;go_wp2;go_ret;exact⟨au (by rw[HE.o];rfl),Zw⟩
   .have e7:((f:Int) == 7)=false:=by simp;omega
    by_cases h8:f=8
    .subst h8;have HE:Hid (k.fsize 8=4):=by simp[Wk.fsize,Hid]
     go_enter func193,ntmps193;go_wp2;go_ret;exact⟨au (by rw[HE.o];rfl),Zw⟩
    .have e8:((f:Int) == 8)=false:=by simp;omega
     by_cases h9:f=9
     .subst h9;have HE:Hid (k.fsize 9=8*k.dlen):=by simp[Wk.fsize,Hid]
      have HD:Hid (dl k.rtr (k.dlc:Int)=(k.dlen:Int)):=hdl;clear hdl;go_enter func193,ntmps193;go_wp2_with (go_at_call 224;refine (cd _ _ _ _ _ _ _ _).mono ?_;rw[HD.o];rintro o w1 ⟨rfl,rfl⟩);go_ret;exact⟨au (by rw[HE.o];omega),Zw.alloc pQ _⟩
     .have e9:((f:Int) == 9)=false:=by simp;omega
      by_cases h10:f=10
      .subst h10;have HE:Hid (k.fsize 10=15):=by simp[Wk.fsize,Hid]
       go_enter func193,ntmps193;go_wp2;go_ret;exact⟨au (by rw[HE.o];rfl),Zw⟩
      .have e10:((f:Int) == 10)=false:=by simp;omega
       by_cases h14:f=14
       .subst h14;have HE:Hid (k.fsize 14=7):=by simp[Wk.fsize,Hid]
        go_enter func193,ntmps193;go_wp2;go_ret;exact⟨au (by rw[HE.o];rfl),Zw⟩
       .have e14:((f:Int) == 14)=false:=by simp;omega
        have HE:Hid (k.fsize f=1):=by simp[Wk.fsize,h2,h5,h7,h8,h9,h10,h14,Hid]
        clear h2 h5 h7 h8 h9 h10 h14;go_enter func193,ntmps193;go_wp2;go_ret;exact⟨au (by rw[HE.o];rfl),Zw⟩
def tN (w:Wd) (f:Nat) (k:Wk) (i:Nat) (a:Option Addr) (n cap:Nat) (hf:f<=1000) :
  Calls Tp 241 #[I J (f:Int),frV k.ext i k.rtr (k.dlc:Int) a n cap] w fun o w'=>o = rT (I J (k.fafter f:Nat))/\Bl w w':=by
 have hdl:=vh k;have HD:Hid (dl k.rtr (k.dlc:Int)=(k.dlen:Int)):=hdl;clear hdl;by_cases h4:f=4
 .subst h4;cases he:k.ext
  .have HE:Hid (k.fafter 4=7):=by simp[Wk.fafter,he,Hid]
   go_enter func241,ntmps241;go_wp2;go_ret;exact⟨au (by rw[HE.o];rfl),Zw⟩
  .have HE:Hid (k.fafter 4=5):=by simp[Wk.fafter,he,Hid]
   go_enter func241,ntmps241;go_wp2;go_ret;exact⟨au (by rw[HE.o];rfl),Zw⟩
 .have e4:((f:Int) == 4)=false:=by simp;omega
  by_cases h8:f=8
  .subst h8;by_cases hz:k.dlen=0
   .have HE:Hid (k.fafter 8=10):=by simp[Wk.fafter,hz,Hid]
    have hz':((k.dlen:Int) == 0)=true:=by simp;omega
    clear hz;go_enter func241,ntmps241;go_wp2_with (go_at_call 224;refine (cd _ _ _ _ _ _ _ _).mono ?_;rw[HD.o];rintro o w1 ⟨rfl,rfl⟩);go_ret;exact⟨au (by rw[HE.o];rfl),Zw.alloc pQ _⟩
   .have HE:Hid (k.fafter 8=9):=by simp[Wk.fafter,hz,Hid]
    have hz':((k.dlen:Int) == 0)=false:=by simp;omega
    clear hz;go_enter func241,ntmps241;go_wp2_with (go_at_call 224;refine (cd _ _ _ _ _ _ _ _).mono ?_;rw[HD.o];rintro o w1 ⟨rfl,rfl⟩);go_ret;exact⟨au (by rw[HE.o];rfl),Zw.alloc pQ _⟩
  .have e8:((f:Int) == 8)=false:=by simp;omega
   have HE:Hid (k.fafter f=f+1):=by simp[Wk.fafter,h4,h8,Hid]
   clear h4 h8;go_enter func241,ntmps241;go_wp2;go_ret;exact⟨au (by rw[HE.o];rfl),Zw⟩
structure wkI (B b:Nat) (k:Wk) (w:Wd):Prop where
 ex:∃ v,bG w b k v/\aa w B v k.data
 le:B<=b
structure cD (B b:Nat) (w w':Wd):Prop where
 bel:Below B w w'
 oth:Lib.OthersKept 5 (sQ b) w w'
def cD.refl (B b:Nat) (w:Wd):cD B b w w:=⟨bW _ _,QV _ _ _⟩
def cD.trans (h:cD B b w w1) (k:cD B b w1 w2):cD B b w w2:=⟨h.bel.trans k.bel,h.oth.trans k.oth⟩
def cD.set (h:cD B b w w1) (hB:B<=b) (j:Nat) (x:Value):cD B b w (w1.setCell ⟨b,j,nn⟩ x):=
 ⟨h.bel.setCell (by exact hB) x,h.oth.setCell ⟨b,j,nn⟩ rfl x⟩
def cD.drewN (h:cD B b w w1) (q:Nat):cD B b w (w1.drewN q):=⟨QQ h.bel q,h.oth⟩
def aa.setB {cs:Array Value} (h:aa w B v l) (hb:w.heap[b]?=sQ (.cells cs 214 (0,0))) (j:Nat) (x:Value):aa (w.setCell ⟨b,j,nn⟩ x) B v l:=
 h.otherBlock (fun g hg=>QA w ⟨b,j,nn⟩ g x (fun e=>by
  obtain⟨c,fz,hc⟩:=h.kind g hg
  have e':g=b:=e
  rw[e',hb] at hc
  cases hc))
def sf {k k':Wk} (h:bG w b k v) (ho:aa w B v k.data) (hB:B<=b) (j:Nat) (x:Value) (hd:k'.data=k.data)
  (hc:(#[I J (k.field:Int),I J (k.taken:Int),I .i32 (k.last.1:Int),I J (k.last.2:Int),I J (k.sum:Int),I J (k.crc:Int),bO k.ext,I Zk (k.id:Int),bO k.rtr,I J (k.dlc:Int),v,I J (k.code:Int)]:Array Value).setIfInBounds j x = #[I J (k'.field:Int),I J (k'.taken:Int),I .i32 (k'.last.1:Int),I J (k'.last.2:Int),I J (k'.sum:Int),I J (k'.crc:Int),bO k'.ext,I Zk (k'.id:Int),bO k'.rtr,I J (k'.dlc:Int),v,I J (k'.code:Int)]) :
  bG (w.setCell ⟨b,j,nn⟩ x) b k' v/\aa (w.setCell ⟨b,j,nn⟩ x) B v k'.data/\cD B b w (w.setCell ⟨b,j,nn⟩ x):=by
 refine⟨?_,by rw[hd];exact ho.setB h j x,(cD.refl B b w).set hB j x⟩;unfold bG;rw[QP w b j _ _ x h,hc]
def uX (w:Wd) (B b:Nat) (k:Wk) (c:Nat) (h:wkI B b k w) (hr:k.last.2<=100000) :
  Calls Tp 196 #[pT (sQ ⟨b,2,nn⟩),I .i32 (c:Int)] w fun e w'=>e = rT (.tuple #[])/\wkI B b { k with last:=M.gl k.last c } w'/\cD B b w w':=by
 obtain⟨⟨v,hw,ho⟩,hB⟩:=h;obtain⟨-,-,c2,c3,-⟩:=hw.cells;have f2:=hw.free 2;have f3:=hw.free 3;have HW:Hid (bG w b k v/\aa w B v k.data):=⟨hw,ho⟩
 clear hw ho;by_cases hc:c=k.last.1
 .have hb:((c:Int) != (k.last.1:Int))=false:=by simp;omega
  go_enter func196,ntmps196;go_wp2;go_end0;have h1:=sf (k':={ k with last:=M.gl k.last c }) HW.o.1 HW.o.2 hB 3 (I J ((k.last.2:Int)+1)) rfl (by simp[M.gl,hc]);exact⟨rfl,⟨⟨v,h1.1,h1.2.1⟩,hB⟩,h1.2.2⟩
 .have hb:((c:Int) != (k.last.1:Int))=true:=by simp;omega
  go_enter func196,ntmps196;go_wp2;go_end0;have h1:=sf (k':={ k with last:=(c,k.last.2) }) HW.o.1 HW.o.2 hB 2 (I .i32 (c:Int)) rfl pQ;have h2:=sf (k':={ k with last:=(c,0) }) h1.1 h1.2.1 hB 3 (I J 0) rfl pQ;have h3:=sf (k':={ k with last:=M.gl k.last c }) h2.1 h2.2.1 hB 3 (I J 1) rfl (by simp[M.gl,hc]);exact⟨rfl,⟨⟨v,h3.1,h3.2.1⟩,hB⟩,(h1.2.2.trans h2.2.2).trans h3.2.2⟩
def cY (data:List Nat) (taken bit:Nat):List Nat:=
 if taken % 8=0 then data++[bit] else data.set (data.length-1) (2*data.getD (data.length-1) 0 % 256+bit)
def sJ (x bit:Nat) (hb:bit<2):bits BinOp.or IntKind.u8 ((x:Int)*2 % 256) (bit:Int)=((2*x % 256+bit:Nat):Int):=by
 have e:(x:Int)*2 % 256=((2*x % 256:Nat):Int):=om;rw[e,u8_or_nat _ _ om om,nat_join 1 _ _ om om]
def AD {k:Wk} {v':Value} (h:bG w b k v):bG (w.setCell ⟨b,10,nn⟩ v') b k v':=by
 unfold bG;rw[QP w b 10 _ _ v' h];simp
def aa.stored (h:aa w B (sL (sQ ⟨g,0,nn⟩) l.length cap) l) (j x:Nat):aa (w.setCell ⟨g,j,nn⟩ (I .u8 (x:Int))) B (sL (sQ ⟨g,0,nn⟩) l.length cap) (l.set j x):=by
 have:=(World.ownsRow.stored h j (I .u8 (x:Int))).1;unfold aa;have e:bv (l.set j x)=(bv l).set j (I .u8 (x:Int)):=by simp[bv,List.map_set]
 rw[e,qJ];exact this
def yB (h:Lib.OthersKept 5 nn w w1):Lib.OthersKept 5 (sQ b) w w1:=fun k o hk _ ho=>h k o hk pQ ho
def cD.row (h:cD B b w w1) (hB:B<=g) (hg:∃ c fz,w1.heap[g]?=sQ (.cells c 5 fz)) (j:Nat) (x:Value):cD B b w (w1.setCell ⟨g,j,nn⟩ x):=by
 refine⟨h.bel.setCell (by exact hB) x,fun i o hi hb ho=>?_⟩;have h1:=h.oth i o hi hb ho;rw[QA w1 ⟨g,j,nn⟩ i x (fun e=>?_)]
 .exact h1
 .obtain⟨c,fz,hc⟩:=hg;have e':i=g:=e;rw[e',hc] at h1;exact ho c fz (Qc h1).symm
def AY (bit:Nat) (hb:bit<2):bits BinOp.or IntKind.u8 0 (bit:Int)=((bit:Nat):Int):=by
 have:=sJ 0 bit hb;simpa using this
def oz {k:Wk} (hX:X=(x:Int)) (hw:bG w1 b k v) (ho:aa w1 B (sL (sQ ⟨g,0,nn⟩) l.length cap) l) (hk:cD B b w w1) (hB:B<=b) (hgB:B<=g) (hgb:¬ b=g) (l':List Nat) (hl':l.set m x=l') :
  wkI B b { k with data:=l' } ((w1.setCell ⟨b,10,nn⟩ (sL (sQ ⟨g,0,nn⟩) l.length cap)).setCell ⟨g,m,nn⟩ (I .u8 X)).drew/\cD B b w ((w1.setCell ⟨b,10,nn⟩ (sL (sQ ⟨g,0,nn⟩) l.length cap)).setCell ⟨g,m,nn⟩ (I .u8 X)).drew:=by
 subst hX hl';have h1:=AD (v':=sL (sQ ⟨g,0,nn⟩) l.length cap) hw;have h2:=ho.setB hw 10 (sL (sQ ⟨g,0,nn⟩) l.length cap);have h3:=h2.stored m x;have hk1:=hk.set hB 10 (sL (sQ ⟨g,0,nn⟩) l.length cap);have hk2:=hk1.row hgB (h2.kind g rfl) m (I .u8 (x:Int));refine⟨⟨⟨sL (sQ ⟨g,0,nn⟩) l.length cap,?_,?_⟩,hB⟩,⟨hk2.bel.drew,hk2.oth⟩⟩
 .exact (QA (w1.setCell ⟨b,10,nn⟩ (sL (sQ ⟨g,0,nn⟩) l.length cap)) ⟨g,m,nn⟩ b (I .u8 (x:Int)) hgb).trans h1
 .exact World.ownsRow.drew h3
def mj {k:Wk} (hX:X=(x:Int)) (hw:bG w1 b k (sL (sQ ⟨g,0,nn⟩) l.length cap)) (ho:aa w1 B (sL (sQ ⟨g,0,nn⟩) l.length cap) l) (hk:cD B b w w1) (hB:B<=b) (hgB:B<=g) (hgb:¬ b=g) (l':List Nat) (hl':l.set m x=l') :
  wkI B b { k with data:=l' } (w1.setCell ⟨g,m,nn⟩ (I .u8 X)).drew/\cD B b w (w1.setCell ⟨g,m,nn⟩ (I .u8 X)).drew:=by
 subst hX hl';have h3:=ho.stored m x;have hk2:=hk.row hgB (ho.kind g rfl) m (I .u8 (x:Int));refine⟨⟨⟨sL (sQ ⟨g,0,nn⟩) l.length cap,?_,?_⟩,hB⟩,⟨hk2.bel.drew,hk2.oth⟩⟩
 .exact (QA w1 ⟨g,m,nn⟩ b (I .u8 (x:Int)) hgb).trans hw
 .exact World.ownsRow.drew h3
def ri (w:Wd) (B b:Nat) (k:Wk) (bit:Nat) (h:wkI B b k w) (hbit:bit<2) (hl:k.data.length<=1000) (hne:¬ k.taken % 8=0->k.data≠[]) (hsm:∀ x ∈ k.data,x<256) (ht:k.taken<=1000000) :
  Calls Tp 240 #[pT (sQ ⟨b,0,nn⟩),I .u8 (bit:Int)] w fun e w'=>e = rT (.tuple #[])/\wkI B b { k with data:=cY k.data k.taken bit } w'/\cD B b w w':=by
 obtain⟨⟨v,hw,ho⟩,hB⟩:=h;have hbz:b<w.heap.size:=QX hw;obtain⟨-,c1,-,-,-,-,-,-,-,-,c10,-⟩:=hw.cells;have f10:=hw.free 10;by_cases h8:k.taken % 8=0
 .have h8':(((k.taken:Int) % 8) == 0)=true:=by simp;omega
  have HW:Hid (bG w b k v):=hw;clear hw;go_enter func240,ntmps240;go_wp2_with (at_builtin;refine Gk w w rfl (.tmp 17) (.tmp 18) rfl B _ k.data 0 _ rfl rfl ho rfl om om (bW _ _) ?_);intro v1 w1 ho1 hb1 hk1;have hw1:bG w1 b k v:=hk1 b _ HW.o pQ (by intro c fz e;cases e);have f10':=hw1.free 10;have c10':=hw1.cells.2.2.2.2.2.2.2.2.2.2.1;obtain⟨g,cap,rfl,hgB,hgz,hcap,hcm,hrow⟩:=ho1.open pQ;have hrc:=hrow.cell k.data.length pQ;have hrf:=hrow.free k.data.length pQ;have hg0:(k.data++[0]).getD k.data.length 0=0:=pl _ _ _ rfl;simp only[hg0] at hrc;have hgb:¬ b=g:=by
   intro e;obtain⟨c,fz,hc⟩:=ho1.kind g rfl;rw[<- e,hw1] at hc;cases hc
  have HO:Hid (aa w1 B (sL (sQ ⟨g,0,nn⟩) (k.data++[0]).length cap) (k.data++[0])):=ho1;have HB1:Hid (Below B w w1/\Lib.OthersKept 5 nn w w1):=⟨hb1,hk1⟩
  have HW1:Hid (bG w1 b k v):=hw1;clear hrow hw1 ho1 hb1 hk1 c1 c10 f10 ho HW hg0 hne hsm;go_wp2;go_region;go_wp2;go_end0;have hd:(k.data++[0]).set k.data.length bit=cY k.data k.taken bit:=by unfold cY;rw[qc h8];simp
  have hfin:=oz (m:=k.data.length) (w:=w) (AY bit hbit) HW1.o HO.o ⟨HB1.o.1,yB HB1.o.2⟩ hB hgB hgb _ hd;have hln:(k.data++[0]).length=k.data.length+1:=pQ;rw[hln] at hfin;exact⟨rfl,hfin.1,hfin.2⟩
 .have h8':(((k.taken:Int) % 8) == 0)=false:=by simp;omega
  have hne':=hne h8;obtain⟨g,cap,rfl,hgB,hgz,hcap,hcm,hrow⟩:=ho.open hne';obtain⟨m,hm⟩ : ∃ m,k.data.length=m+1:=⟨k.data.length-1,by have:=List.length_pos_iff.2 hne';omega⟩
  have hrc:=hrow.cell m om;have hrf:=hrow.free m om;have hx256:k.data.getD m 0<256:=by rw[eB k.data m om];exact hsm _ (qn _)
  have hgb:¬ b=g:=by
   intro e;obtain⟨c,fz,hc⟩:=ho.kind g rfl;rw[<- e,hw] at hc;cases hc
  have hd:k.data.set m (2*k.data.getD m 0 % 256+bit)=cY k.data k.taken bit:=by unfold cY;rw[qa h8,hm];rfl
  have hfin:=fun (X:Int) hX=>mj (w:=w) (X:=X) (m:=m) hX hw ho (cD.refl B b w) hB hgB hgb _ hd;have HF:Hid (∀ (X:Int),X=((2*k.data.getD m 0 % 256+bit:Nat):Int)->wkI B b { k with data:=cY k.data k.taken bit } (w.setCell ⟨g,m,nn⟩ (I .u8 X)).drew/\cD B b w (w.setCell ⟨g,m,nn⟩ (I .u8 X)).drew):=hfin;have HSL:Hid (k.data.length=m+1):=hm;clear hfin hd hrow ho hw hne hsm hne';rw[HSL.o] at c10 hl hcap;clear HSL hm;generalize k.data.getD m 0=x at *;go_enter func240,ntmps240;go_wp2;go_region;go_wp2;go_end0;exact⟨rfl,(HF.o _ (sJ x bit hbit)).1,(HF.o _ (sJ x bit hbit)).2⟩
def Wk.keep1 (k:Wk) (bit:Nat):Wk:=if k.field<=9 then { k with sum:=M.dM k.sum bit } else k
def Wk.keep (k:Wk) (bit:Nat):Wk:=
 if k.field=2\/k.field=5 then { k.keep1 bit with id:=2*k.id+bit }
 else if k.field=3\/k.field=6 then { k.keep1 bit with rtr:=decide (bit=1) }
 else if k.field=4 then { k.keep1 bit with ext:=decide (bit=1) }
 else if k.field=8 then { k.keep1 bit with dlc:=2*k.dlc+bit }
 else if k.field=9 then { k.keep1 bit with data:=cY k.data k.taken bit }
 else if k.field=10 then { k.keep1 bit with crc:=2*k.crc+bit }
 else k.keep1 bit
def n9 (x bit:Nat) (hx:x<1000000) (hb:bit<2):bits BinOp.or IntKind.i64 ((x:Int)*2) (bit:Int)=((2*x+bit:Nat):Int):=by
 have e:(x:Int)*2=((2*x:Nat):Int):=om;rw[e,(bits_nat .i64 62 (by decide) fT (2*x) bit om om).2,nat_join 1 _ _ om om]
def sN (x bit:Nat) (hx:x<1073741824) (hb:bit<2):bits BinOp.or IntKind.u32 ((x:Int)*2) (bit:Int)=((2*x+bit:Nat):Int):=by
 have e:(x:Int)*2=((2*x:Nat):Int):=om;rw[e,u32_or_nat _ _ om om,nat_join 1 _ _ om om]
def Bp (w:Wd) (B b:Nat) (k:Wk) (bit:Nat) (h:wkI B b k w) (hbit:bit<2) (hs:k.sum<32768) (hi:k.id<1073741824) (hdl:k.dlc<1000000) (hcr:k.crc<1000000) (ht:k.taken<=1000000)
  (hdata:k.field=9->k.data.length<=1000/\(¬ k.taken % 8=0->k.data≠[])/\(∀ x ∈ k.data,x<256)) :
  Calls Tp 226 #[pT (sQ ⟨b,0,nn⟩),I J (bit:Int)] w fun e w'=>e = rT (.tuple #[])/\wkI B b (k.keep bit) w'/\cD B b w w':=by
 obtain⟨⟨v,hw,ho⟩,hB⟩:=h;obtain⟨c0,c1,-,-,c4,c5,c6,c7,c8,c9,c10,-⟩:=hw.cells;have hfr:=fun j=>hw.free j;have hb1:((bit:Int) == 1)=decide (bit=1):=by rw[qk];simp;omega
 have HW:Hid (bG w b k v/\aa w B v k.data):=⟨hw,ho⟩
 have hs1:=fun (hf:k.field<=9)=>sf (k':={ k with sum:=M.dM k.sum bit }) hw ho hB 4 (I J ((M.dM k.sum bit:Nat):Int)) rfl pQ;have HS1:Hid (k.field<=9->bG (w.setCell ⟨b,4,nn⟩ (I J ((M.dM k.sum bit:Nat):Int))) b { k with sum:=M.dM k.sum bit } v/\aa (w.setCell ⟨b,4,nn⟩ (I J ((M.dM k.sum bit:Nat):Int))) B v k.data/\cD B b w (w.setCell ⟨b,4,nn⟩ (I J ((M.dM k.sum bit:Nat):Int)))):=hs1;clear hs1 hw ho;rcases (show k.field=0\/k.field=1\/k.field=2\/k.field=3\/k.field=4\/k.field=5\/k.field=6\/k.field=7\/k.field=8\/k.field=9\/k.field=10\/11<=k.field from by omega) with hf|hf|hf|hf|hf|hf|hf|hf|hf|hf|hf|hf
 .have hF:(k.field:Int)=0:=om;rw[hF] at c0;have h9:k.field<=9:=om;clear hF;have HE:Hid (k.keep bit = { k with sum:=M.dM k.sum bit }):=by unfold Hid Wk.keep Wk.keep1;rw[hf];simp
  clear hf hdata;go_enter func226,ntmps226;go_wp2_with (go_at_call 195;refine (aH k.sum bit _ hs).mono ?_;rintro o w2 ⟨rfl,rfl⟩);go_end0;have h1:=HS1.o h9;rw[HE.o];exact⟨rfl,⟨⟨v,h1.1,h1.2.1⟩,hB⟩,h1.2.2⟩
 .have hF:(k.field:Int)=1:=om;rw[hF] at c0;have h9:k.field<=9:=om;clear hF;have HE:Hid (k.keep bit = { k with sum:=M.dM k.sum bit }):=by unfold Hid Wk.keep Wk.keep1;rw[hf];simp
  clear hf hdata;go_enter func226,ntmps226;go_wp2_with (go_at_call 195;refine (aH k.sum bit _ hs).mono ?_;rintro o w2 ⟨rfl,rfl⟩);go_end0;have h1:=HS1.o h9;rw[HE.o];exact⟨rfl,⟨⟨v,h1.1,h1.2.1⟩,hB⟩,h1.2.2⟩
 .have hF:(k.field:Int)=2:=om;rw[hF] at c0;have h9:k.field<=9:=om;clear hF;have HE:Hid (k.keep bit = { k with sum:=M.dM k.sum bit,id:=2*k.id+bit }):=by unfold Hid Wk.keep Wk.keep1;rw[hf];simp
  clear hf hdata;have hor:=sN k.id bit hi hbit;go_enter func226,ntmps226;go_wp2_with (go_at_call 195;refine (aH k.sum bit _ hs).mono ?_;rintro o w2 ⟨rfl,rfl⟩);go_end0;have h1:=HS1.o h9;have h2:=sf (k':={ k with sum:=M.dM k.sum bit,id:=2*k.id+bit }) h1.1 h1.2.1 hB 7 (I Zk ((2*k.id+bit:Nat):Int)) rfl pQ;rw[HE.o];exact⟨rfl,⟨⟨v,h2.1,h2.2.1⟩,hB⟩,h1.2.2.trans h2.2.2⟩
 .have hF:(k.field:Int)=3:=om;rw[hF] at c0;have h9:k.field<=9:=om;clear hF;have HE:Hid (k.keep bit = { k with sum:=M.dM k.sum bit,rtr:=decide (bit=1) }):=by unfold Hid Wk.keep Wk.keep1;rw[hf];simp
  clear hf hdata;go_enter func226,ntmps226;go_wp2_with (go_at_call 195;refine (aH k.sum bit _ hs).mono ?_;rintro o w2 ⟨rfl,rfl⟩);go_end0;have h1:=HS1.o h9;have h2:=sf (k':={ k with sum:=M.dM k.sum bit,rtr:=decide (bit=1) }) h1.1 h1.2.1 hB 8 (bO (decide (bit=1))) rfl pQ;rw[HE.o];exact⟨rfl,⟨⟨v,h2.1,h2.2.1⟩,hB⟩,h1.2.2.trans h2.2.2⟩
 .have hF:(k.field:Int)=4:=om;rw[hF] at c0;have h9:k.field<=9:=om;clear hF;have HE:Hid (k.keep bit = { k with sum:=M.dM k.sum bit,ext:=decide (bit=1) }):=by unfold Hid Wk.keep Wk.keep1;rw[hf];simp
  clear hf hdata;go_enter func226,ntmps226;go_wp2_with (go_at_call 195;refine (aH k.sum bit _ hs).mono ?_;rintro o w2 ⟨rfl,rfl⟩);go_end0;have h1:=HS1.o h9;have h2:=sf (k':={ k with sum:=M.dM k.sum bit,ext:=decide (bit=1) }) h1.1 h1.2.1 hB 6 (bO (decide (bit=1))) rfl pQ;rw[HE.o];exact⟨rfl,⟨⟨v,h2.1,h2.2.1⟩,hB⟩,h1.2.2.trans h2.2.2⟩
 .have hF:(k.field:Int)=5:=om;rw[hF] at c0;have h9:k.field<=9:=om;clear hF;have HE:Hid (k.keep bit = { k with sum:=M.dM k.sum bit,id:=2*k.id+bit }):=by unfold Hid Wk.keep Wk.keep1;rw[hf];simp
  clear hf hdata;have hor:=sN k.id bit hi hbit;go_enter func226,ntmps226;go_wp2_with (go_at_call 195;refine (aH k.sum bit _ hs).mono ?_;rintro o w2 ⟨rfl,rfl⟩);go_end0;have h1:=HS1.o h9;have h2:=sf (k':={ k with sum:=M.dM k.sum bit,id:=2*k.id+bit }) h1.1 h1.2.1 hB 7 (I Zk ((2*k.id+bit:Nat):Int)) rfl pQ;rw[HE.o];exact⟨rfl,⟨⟨v,h2.1,h2.2.1⟩,hB⟩,h1.2.2.trans h2.2.2⟩
 .have hF:(k.field:Int)=6:=om;rw[hF] at c0;have h9:k.field<=9:=om;clear hF;have HE:Hid (k.keep bit = { k with sum:=M.dM k.sum bit,rtr:=decide (bit=1) }):=by unfold Hid Wk.keep Wk.keep1;rw[hf];simp
  clear hf hdata;go_enter func226,ntmps226;go_wp2_with (go_at_call 195;refine (aH k.sum bit _ hs).mono ?_;rintro o w2 ⟨rfl,rfl⟩);go_end0;have h1:=HS1.o h9;have h2:=sf (k':={ k with sum:=M.dM k.sum bit,rtr:=decide (bit=1) }) h1.1 h1.2.1 hB 8 (bO (decide (bit=1))) rfl pQ;rw[HE.o];exact⟨rfl,⟨⟨v,h2.1,h2.2.1⟩,hB⟩,h1.2.2.trans h2.2.2⟩
 .have hF:(k.field:Int)=7:=om;rw[hF] at c0;have h9:k.field<=9:=om;clear hF;have HE:Hid (k.keep bit = { k with sum:=M.dM k.sum bit }):=by unfold Hid Wk.keep Wk.keep1;rw[hf];simp
  clear hf hdata;go_enter func226,ntmps226;go_wp2_with (go_at_call 195;refine (aH k.sum bit _ hs).mono ?_;rintro o w2 ⟨rfl,rfl⟩);go_end0;have h1:=HS1.o h9;rw[HE.o];exact⟨rfl,⟨⟨v,h1.1,h1.2.1⟩,hB⟩,h1.2.2⟩
 .have hF:(k.field:Int)=8:=om;rw[hF] at c0;have h9:k.field<=9:=om;clear hF;have HE:Hid (k.keep bit = { k with sum:=M.dM k.sum bit,dlc:=2*k.dlc+bit }):=by unfold Hid Wk.keep Wk.keep1;rw[hf];simp
  clear hf hdata;have hor:=n9 k.dlc bit hdl hbit;go_enter func226,ntmps226;go_wp2_with (go_at_call 195;refine (aH k.sum bit _ hs).mono ?_;rintro o w2 ⟨rfl,rfl⟩);go_end0;have h1:=HS1.o h9;have h2:=sf (k':={ k with sum:=M.dM k.sum bit,dlc:=2*k.dlc+bit }) h1.1 h1.2.1 hB 9 (I J ((2*k.dlc+bit:Nat):Int)) rfl pQ;rw[HE.o];exact⟨rfl,⟨⟨v,h2.1,h2.2.1⟩,hB⟩,h1.2.2.trans h2.2.2⟩
 .have hF:(k.field:Int)=9:=om;rw[hF] at c0;have h9:k.field<=9:=om;clear hF;have HE:Hid (k.keep bit = { k with sum:=M.dM k.sum bit,data:=cY k.data k.taken bit }):=by unfold Hid Wk.keep Wk.keep1;rw[hf];simp
  have hdd:=hdata hf;have HDD:Hid (k.data.length<=1000/\(¬ k.taken % 8=0->k.data≠[])/\(∀ x ∈ k.data,x<256)):=hdd;clear hf hdata hdd;have h1:=HS1.o h9;have HI:Hid (wkI B b { k with sum:=M.dM k.sum bit } (w.setCell ⟨b,4,nn⟩ (I J ((M.dM k.sum bit:Nat):Int)))):=⟨⟨v,h1.1,h1.2.1⟩,hB⟩
  clear h1;go_enter func226,ntmps226;go_wp2_with (first | (go_at_call 195;refine (aH k.sum bit _ hs).mono ?_;rintro o w2 ⟨rfl,rfl⟩) | (go_at_call 240;refine (ri _ B b _ bit HI.o hbit HDD.o.1 HDD.o.2.1 HDD.o.2.2 ht).mono ?_;rintro o w5 ⟨rfl,hI5,hk5⟩));go_end0;rw[HE.o];exact⟨rfl,hI5,(HS1.o h9).2.2.trans hk5⟩
 .have hF:(k.field:Int)=10:=om;rw[hF] at c0;clear hF;have HE:Hid (k.keep bit = { k with crc:=2*k.crc+bit }):=by unfold Hid Wk.keep Wk.keep1;simp[hf]
  clear hf hdata;have hor:=n9 k.crc bit hcr hbit;go_enter func226,ntmps226;go_wp2;go_end0;have h2:=sf (k':={ k with crc:=2*k.crc+bit }) HW.o.1 HW.o.2 hB 5 (I J ((2*k.crc+bit:Nat):Int)) rfl pQ;rw[HE.o];exact⟨rfl,⟨⟨v,h2.1,h2.2.1⟩,hB⟩,h2.2.2⟩
 .have HE:Hid (k.keep bit=k):=by
   unfold Hid Wk.keep Wk.keep1;simp only[show ¬ (k.field=2\/k.field=5) by omega,show ¬ (k.field=3\/k.field=6) by omega,show ¬ k.field=4 by omega,show ¬ k.field=8 by omega,show ¬ k.field=9 by omega,show ¬ k.field=10 by omega,show ¬ k.field<=9 by omega,if_false]
  have hF:(11:Int)<=(k.field:Int):=om;have e2:((k.field:Int) == 2)=false:=by simp;omega
  have e3:((k.field:Int) == 3)=false:=by simp;omega
  have e4:((k.field:Int) == 4)=false:=by simp;omega
  have e5:((k.field:Int) == 5)=false:=by simp;omega
  have e6:((k.field:Int) == 6)=false:=by simp;omega
  have e8:((k.field:Int) == 8)=false:=by simp;omega
  have e9:((k.field:Int) == 9)=false:=by simp;omega
  have e10:((k.field:Int) == 10)=false:=by simp;omega
  clear hf hdata;go_enter func226,ntmps226;go_wp2;go_end0;rw[HE.o];exact⟨rfl,⟨⟨v,HW.o.1,HW.o.2⟩,hB⟩,cD.refl _ _ _⟩
def Wk.adv (k:Wk):Wk:=if k.taken+1=k.fsize k.field then { k with field:=k.fafter k.field,taken:=0 } else { k with taken:=k.taken+1 }
def cD.of_below (h:cD B b w w1) (hb:Bl w1 w2) (hB:B<=w1.heap.size):cD B b w w2:=
 h.trans ⟨hb.mono hB,fun k _ hk _ _=>(hb.block k (QX hk)).trans hk⟩
def bG.below {k:Wk} (h:bG w b k v) (hb:Bl w w1):bG w1 b k v:=(hb.block b (QX h)).trans h
def aa.below (h:aa w B v l) (hb:Bl w w1):aa w1 B v l:=
 h.otherBlock (fun g hg=>hb.block g (QB h g hg).2)
def aa.sliced (h:aa w B v l):∃ ao cap,v = sL ao l.length cap:=by
 obtain⟨_,⟨rfl,h1⟩|⟨g,cap,cur,rfl,_⟩⟩:=h
 .exact⟨nn,0,by rw[h1]⟩
 .exact⟨_,cap,rfl⟩
def Av (W V V':Wd) (b:Nat) (k:Wk) (ao:Option Addr) (cap:Nat) (h:V.cell? ⟨b,0,nn⟩=sQ (I J (k.field:Int))/\V.cell? ⟨b,1,nn⟩=sQ (I J ((k.taken+1:Nat):Int))/\V.cell? ⟨b,6,nn⟩=sQ (bO k.ext)/\V.cell? ⟨b,7,nn⟩=sQ (I Zk (k.id:Int))/\V.cell? ⟨b,8,nn⟩=sQ (bO k.rtr)/\V.cell? ⟨b,9,nn⟩=sQ (I J (k.dlc:Int))/\V.cell? ⟨b,10,nn⟩=sQ (sL ao k.data.length cap)/\Bl W V) (hz:b<W.heap.size) (hb:Bl V V'):(fun V=>V.cell? ⟨b,0,nn⟩=sQ (I J (k.field:Int))/\V.cell? ⟨b,1,nn⟩=sQ (I J ((k.taken+1:Nat):Int))/\V.cell? ⟨b,6,nn⟩=sQ (bO k.ext)/\V.cell? ⟨b,7,nn⟩=sQ (I Zk (k.id:Int))/\V.cell? ⟨b,8,nn⟩=sQ (bO k.rtr)/\V.cell? ⟨b,9,nn⟩=sQ (I J (k.dlc:Int))/\V.cell? ⟨b,10,nn⟩=sQ (sL ao k.data.length cap)/\Bl W V) V':=by
 obtain⟨h0,h1,h2,h3,h4,h5,h6,hbl⟩:=h;have z:b<V.heap.size:=nL hz hbl.size;exact⟨(hb.cell (by exact z)).trans h0,(hb.cell (by exact z)).trans h1,(hb.cell (by exact z)).trans h2,(hb.cell (by exact z)).trans h3,(hb.cell (by exact z)).trans h4,(hb.cell (by exact z)).trans h5,(hb.cell (by exact z)).trans h6,hbl.trans (hb.mono hbl.size)⟩
def J8 {V:Wd} {k:Wk} {ao:Option Addr} (h:V.cell? ⟨b,0,nn⟩=sQ (I J (k.field:Int))/\V.cell? ⟨b,1,nn⟩=sQ (I J ((k.taken+1:Nat):Int))/\V.cell? ⟨b,6,nn⟩=sQ (bO k.ext)/\V.cell? ⟨b,7,nn⟩=sQ (I Zk (k.id:Int))/\V.cell? ⟨b,8,nn⟩=sQ (bO k.rtr)/\V.cell? ⟨b,9,nn⟩=sQ (I J (k.dlc:Int))/\V.cell? ⟨b,10,nn⟩=sQ (sL ao k.data.length cap)/\Bl W V):Bl W V:=h.2.2.2.2.2.2.2
def uh (w:Wd) (B b:Nat) (k:Wk) (h:wkI B b k w) (hdl:k.dlc<=1000) (ht:k.taken<=1000000) (hf:k.field<=1000) :
  Calls Tp 227 #[pT (sQ ⟨b,0,nn⟩)] w fun e w'=>e = rT (.tuple #[])/\wkI B b k.adv w'/\cD B b w w':=by
 obtain⟨⟨v,hw,ho⟩,hB⟩:=h;obtain⟨ao,cap,rfl⟩:=ho.sliced;have hbz:b<w.heap.size:=QX hw;obtain⟨c0,c1,-,-,-,-,c6,c7,c8,c9,c10,-⟩:=hw.cells;have f0:=hw.free 0;have f1:=hw.free 1;have h1:=sf (k':={ k with taken:=k.taken+1 }) hw ho hB 1 (I J ((k.taken:Int)+1)) rfl pQ;have H1:Hid (bG (w.setCell ⟨b,1,nn⟩ (I J ((k.taken:Int)+1))) b { k with taken:=k.taken+1 } (sL ao k.data.length cap)/\aa (w.setCell ⟨b,1,nn⟩ (I J ((k.taken:Int)+1))) B (sL ao k.data.length cap) k.data/\cD B b w (w.setCell ⟨b,1,nn⟩ (I J ((k.taken:Int)+1)))):=h1;clear h1 hw ho;by_cases hEq:k.taken+1=k.fsize k.field
 .have hq:(((k.taken+1:Nat):Int) == ((k.fsize k.field:Nat):Int))=true:=by simp;omega
  have HA:Hid (k.adv = { k with field:=k.fafter k.field,taken:=0 }):=by unfold Hid Wk.adv;rw[qc hEq]
  clear hEq;go_enter func227,ntmps227;go_wp2;have hz1:b<(w.setCell ⟨b,1,nn⟩ (I J ((k.taken:Int)+1))).heap.size:=by simpa using hbz
  obtain⟨d0,d1,-,-,-,-,d6,d7,d8,d9,d10,-⟩:=H1.o.1.cells;clear c0 c1 c6 c7 c8 c9 c10 f0 f1;generalize w.setCell ⟨b,1,nn⟩ (I J ((k.taken:Int)+1))=W at *;go_region_held3 (fun V=>V.cell? ⟨b,0,nn⟩=sQ (I J (k.field:Int))/\V.cell? ⟨b,1,nn⟩=sQ (I J ((k.taken+1:Nat):Int))/\V.cell? ⟨b,6,nn⟩=sQ (bO k.ext)/\V.cell? ⟨b,7,nn⟩=sQ (I Zk (k.id:Int))/\V.cell? ⟨b,8,nn⟩=sQ (bO k.rtr)/\V.cell? ⟨b,9,nn⟩=sQ (I J (k.dlc:Int))/\V.cell? ⟨b,10,nn⟩=sQ (sL ao k.data.length cap)/\Bl W V) (first | exact⟨d0,d1,d6,d7,d8,d9,d10,(bW _ _).drew⟩ | exact Av _ _ _ _ _ _ _ (by assumption) hz1 (by assumption)) (first | (go_at_call 193;refine (nh _ k.field k k.id ao k.data.length cap hdl).mono ?_;rintro o w2 ⟨rfl,hb2⟩));rename_i hS;have hbel:=J8 hS;have hw2:=H1.o.1.below hbel;have ho2:=H1.o.2.1.below hbel;have hk2:cD B b w w2:=H1.o.2.2.of_below hbel om;have hz2:b<w2.heap.size:=QX hw2;clear hS d0 d1 d6 d7 d8 d9 d10 hb2 hbel;obtain⟨e0,e1,-,-,-,-,e6,e7,e8,e9,e10,-⟩:=hw2.cells;have HW2:Hid (bG w2 b { k with taken:=k.taken+1 } (sL ao k.data.length cap)):=hw2;clear hw2;go_wp2;go_region_with (first | (go_at_call 241;refine (tN _ k.field k k.id ao k.data.length cap hf).mono ?_;rintro o w3 ⟨rfl,hb3⟩;obtain⟨p0,p1,-⟩:=(bG.below (w:=w2.drew) HW2.o hb3).cells;have p2:=(bG.below (w:=w2.drew) HW2.o hb3).free 0;have p3:=(bG.below (w:=w2.drew) HW2.o hb3).free 1));all_goals
   go_wp2;go_end0;rw[HA.o];have hw3:=bG.below (w:=w2.drew) HW2.o hb3;have ho3:=aa.below (w:=w2.drew) ho2 hb3;have hk3:cD B b w w3:=cD.of_below (w1:=w2.drew) ⟨hk2.bel.drew,hk2.oth⟩ hb3 (by simp;omega);have h4:=sf (k':={ k with taken:=k.taken+1,field:=k.fafter k.field }) hw3 ho3 hB 0 (I J ((k.fafter k.field:Nat):Int)) rfl pQ;have h5:=sf (k':={ k with field:=k.fafter k.field,taken:=0 }) h4.1 h4.2.1 hB 1 (I J 0) rfl pQ;exact⟨rfl,⟨⟨_,h5.1,h5.2.1⟩,hB⟩,(hk3.trans h4.2.2).trans h5.2.2⟩
 .have hq:(((k.taken+1:Nat):Int) == ((k.fsize k.field:Nat):Int))=false:=by simp;omega
  have HA:Hid (k.adv = { k with taken:=k.taken+1 }):=by unfold Hid Wk.adv;rw[qa hEq]
  clear hEq;go_enter func227,ntmps227;go_wp2;have hz1:b<(w.setCell ⟨b,1,nn⟩ (I J ((k.taken:Int)+1))).heap.size:=by simpa using hbz
  obtain⟨d0,d1,-,-,-,-,d6,d7,d8,d9,d10,-⟩:=H1.o.1.cells;clear c0 c1 c6 c7 c8 c9 c10 f0 f1;generalize w.setCell ⟨b,1,nn⟩ (I J ((k.taken:Int)+1))=W at *;go_region_held3 (fun V=>V.cell? ⟨b,0,nn⟩=sQ (I J (k.field:Int))/\V.cell? ⟨b,1,nn⟩=sQ (I J ((k.taken+1:Nat):Int))/\V.cell? ⟨b,6,nn⟩=sQ (bO k.ext)/\V.cell? ⟨b,7,nn⟩=sQ (I Zk (k.id:Int))/\V.cell? ⟨b,8,nn⟩=sQ (bO k.rtr)/\V.cell? ⟨b,9,nn⟩=sQ (I J (k.dlc:Int))/\V.cell? ⟨b,10,nn⟩=sQ (sL ao k.data.length cap)/\Bl W V) (first | exact⟨d0,d1,d6,d7,d8,d9,d10,(bW _ _).drew⟩ | exact Av _ _ _ _ _ _ _ (by assumption) hz1 (by assumption)) (first | (go_at_call 193;refine (nh _ k.field k k.id ao k.data.length cap hdl).mono ?_;rintro o w2 ⟨rfl,hb2⟩));rename_i hS;have hbel:=J8 hS;have hw2:=H1.o.1.below hbel;have ho2:=H1.o.2.1.below hbel;have hk2:cD B b w w2:=H1.o.2.2.of_below hbel om;have hz2:b<w2.heap.size:=QX hw2;clear hS d0 d1 d6 d7 d8 d9 d10 hb2 hbel;go_wp2;go_end0;rw[HA.o];exact⟨rfl,⟨⟨_,hw2,ho2⟩,hB⟩,hk2⟩
structure C7 (k:Wk):Prop where
 run:k.last.2<=50000
 sum:k.sum<32768
 id:k.id<1073741824
 dlc:k.dlc<=400
 crc:k.crc<400000
 taken:k.taken<=1000
 field:k.field<=100
 data:k.field=9->k.data.length<=1000/\(¬ k.taken % 8=0->k.data≠[])/\(∀ x ∈ k.data,x<256)
def Wk.heard (k:Wk) (c:Nat):Wk:={ k with last:=M.gl k.last c }
def Wk.take (k:Wk) (c:Nat):Wk × Nat:=
 if k.due=true/\c=k.last.1 then (k,3)
 else if k.due=true then (k.heard c,0)
 else (((k.heard c).keep (c-48)).adv,(k.heard c).plainCode (c-48))
def zn (k:Wk) (bit:Nat) (hb:bit<2) (h:k.dlc<=400):(k.keep bit).dlc<=1000:=by
 unfold Wk.keep Wk.keep1
 (repeat' split) <;> ((try dsimp only);omega)
def Hw (k:Wk) (bit:Nat):(k.keep bit).taken=k.taken:=by
 unfold Wk.keep Wk.keep1
 (repeat' split) <;> rfl
def fC (k:Wk) (bit:Nat):(k.keep bit).field=k.field:=by
 unfold Wk.keep Wk.keep1
 (repeat' split) <;> rfl
def AI (w:Wd) (B b:Nat) (k:Wk) (c:Nat) (h:wkI B b k w) (hok:C7 k) (hc:M.isL c) :
  Calls Tp 200 #[pT (sQ ⟨b,0,nn⟩),I .i32 (c:Int)] w fun e w'=>e = rT (I J ((k.take c).2:Nat))/\wkI B b (k.take c).1 w'/\cD B b w w':=by
 have h':=h;obtain⟨⟨v,hw,ho⟩,hB⟩:=h';have c2:=hw.cells.2.2.1;have HI:Hid (wkI B b k w):=h;have HW:Hid (bG w b k v):=hw;clear h hw ho;cases hdue:k.due
 ·
  have HE:Hid (k.take c=(((k.heard c).keep (c-48)).adv,(k.heard c).plainCode (c-48))):=by unfold Hid Wk.take;simp[hdue]
  have HD:Hid (k.due=false):=hdue;have hbit:c-48<2:=by rcases hc with rfl | rfl <;> decide
  have hcb:(c:Int)-48=((c-48:Nat):Int):=by rcases hc with rfl | rfl <;> rfl
  have HCB:Hid ((c:Int)-48=((c-48:Nat):Int)):=hcb;have hc1:(48:Int)<=(c:Int):=by rcases hc with rfl | rfl <;> decide
  have hc2:(c:Int)<=49:=by rcases hc with rfl | rfl <;> decide
  have HOK:Hid (C7 k):=hok;clear hdue hcb hok hc;go_enter func200,ntmps200;go_wp2_with fail;refine (M0 w b k v HW.o).mono ?_;rw[HD.o];rintro o w1 ⟨rfl,rfl⟩;go_wp2_with fail;refine (uX w B b k c HI.o (by have:=HOK.o.run;omega)).mono ?_;rintro o w1 ⟨rfl,hI1,hk1⟩;have HI1:Hid (wkI B b (k.heard c) w1):=hI1;clear hI1;obtain⟨⟨v1,hw1,_⟩,_⟩:=HI1.o;go_wp2_with fail;rw[HCB.o];refine (n6 w1 b (k.heard c) v1 (c-48) hw1 hbit).mono ?_;rintro o w2 ⟨rfl,q,rfl⟩;have hI2:wkI B b (k.heard c) (w1.drewN q):=by
   obtain⟨⟨v2,a2,b2⟩,l2⟩:=HI1.o;exact⟨⟨v2,a2,b2.drewN q⟩,l2⟩
  have hk2:cD B b w (w1.drewN q):=hk1.drewN q;clear hw1 hk1;go_wp2_with fail;refine (Bp (w1.drewN q) B b (k.heard c) (c-48) hI2 hbit HOK.o.sum HOK.o.id (by have:=HOK.o.dlc;show k.dlc<1000000;omega) (by have:=HOK.o.crc;show k.crc<1000000;omega) (by have:=HOK.o.taken;show k.taken<=1000000;omega) HOK.o.data).mono ?_;rintro o w3 ⟨rfl,hI3,hk3⟩;go_wp2_with fail;refine (uh w3 B b ((k.heard c).keep (c-48)) hI3 (zn _ _ hbit HOK.o.dlc) (by rw[Hw];have:=HOK.o.taken;show k.taken<=1000000;omega) (by rw[fC];have:=HOK.o.field;show k.field<=1000;omega)).mono ?_;rintro o w4 ⟨rfl,hI4,hk4⟩;go_wp2;go_ret;rw[HE.o];exact⟨rfl,hI4,hk2.trans (hk3.trans hk4)⟩
 .by_cases hl:c=k.last.1
  .have HE:Hid (k.take c=(k,3)):=by unfold Hid Wk.take;rw[qc ⟨hdue,hl⟩]
   have hq:((c:Int) == (k.last.1:Int))=true:=by simp;omega
   have HD:Hid (k.due=true):=hdue;clear hdue hl hok hc;go_enter func200,ntmps200;go_wp2_with (go_at_call 156;refine (M0 w b k v HW.o).mono ?_;rw[HD.o];rintro o w1 ⟨rfl,rfl⟩);go_ret;rw[HE.o];exact⟨rfl,HI.o,cD.refl _ _ _⟩
  .have HE:Hid (k.take c=(k.heard c,0)):=by unfold Hid Wk.take;rw[qa (fun hh=>hl hh.2),qc hdue]
   have hq:((c:Int) == (k.last.1:Int))=false:=by simp;omega
   have HD:Hid (k.due=true):=hdue;have HR:Hid (k.last.2<=100000):=by have:=hok.run;unfold Hid;omega
   clear hdue hl hok hc;go_enter func200,ntmps200;go_wp2_with (go_at_call 156;refine (M0 w b k v HW.o).mono ?_;rw[HD.o];rintro o w1 ⟨rfl,rfl⟩);refine (uX w B b k c HI.o HR.o).mono ?_;rintro o w1 ⟨rfl,hI1,hk1⟩;go_wp2;go_ret;rw[HE.o];exact⟨rfl,hI1,hk1⟩
structure Wk.Inv (k:Wk):Prop where
 f1:1<=k.field
 f2:k.field<=14
 tk:k.taken<k.fsize k.field
 sm:k.sum<32768
 idb:k.id<2 ^ (if k.field=1 then 0 else if k.field=2 then k.taken else if k.field<=4 then 11 else if k.field=5 then 11+k.taken else 29)
 dlb:k.dlc<2 ^ (if k.field<8 then 0 else if k.field=8 then k.taken else 4)
 crb:k.crc<2 ^ (if k.field<10 then 0 else if k.field=10 then k.taken else 15)
 dan:k.field<9->k.data=[]
 dat:k.field=9->k.data.length=(k.taken+7) / 8
 dal:k.data.length<=8
 das:∀ x ∈ k.data,x<256
def J4 (k:Wk):k.dlen<=8:=by unfold Wk.dlen;split <;> omega
def rD (k:Wk) (f:Nat):k.fsize f<=64:=by
 have:=J4 k;unfold Wk.fsize
 (repeat' split) <;> omega
def pK (n:Nat) (h:n<=29):2 ^ n<=536870912:=nT (qt (by decide) h) (by decide)
def Wk.Inv.ok {k:Wk} (h:k.Inv) (hr:k.last.2<=50000):C7 k:=by
 have ht:=rD k k.field;have ht2:=h.tk;refine⟨hr,h.sm,?_,?_,?_,om,by have:=h.f2;omega,fun h9=>⟨by have:=h.dal;omega,?_,h.das⟩⟩
 .refine nL h.idb (nT (pK _ ?_) (by decide));have h3:=h.f2;split
  .omega
  .split
   .rename_i h2;rw[h2] at ht2;have:k.fsize 2=11:=rfl;omega
   .split
    .omega
    .split
     .rename_i h5;rw[h5] at ht2;have:k.fsize 5=18:=rfl;omega
     .omega
 .have hb:=h.dlb;refine Nat.le_of_lt_succ (nL hb ?_);split
  .decide
  .split
   .rename_i h8;rw[h8] at ht2;have:k.fsize 8=4:=rfl;exact nT (qt (by decide) (show k.taken<=4 by omega)) (by decide)
   .decide
 .have hb:=h.crb;refine nL hb ?_;split
  .decide
  .split
   .rename_i h10;rw[h10] at ht2;have:k.fsize 10=15:=rfl;exact nT (qt (by decide) (show k.taken<=15 by omega)) (by decide)
   .decide
 .intro h8 e;have:=h.dat h9;rw[e] at this;simp at this;omega
def wN (data:List Nat) (taken bit:Nat) (h:data.length=(taken+7) / 8):(cY data taken bit).length=(taken+1+7) / 8:=by
 unfold cY;split
 .rw[qe,qm];omega
 .rw[qJ];omega
def rj (data:List Nat) (taken bit:Nat) (hb:bit<2) (h:∀ x ∈ data,x<256):∀ x ∈ cY data taken bit,x<256:=by
 unfold cY;intro x hx;split at hx
 .rw[qB,Qt] at hx;rcases hx with hx|rfl
  .exact h x hx
  .omega
 .rcases List.mem_or_eq_of_mem_set hx with hx|rfl
  .exact h x hx
  .omega
def jh (x bit n:Nat) (h:x<2 ^ n) (hb:bit<2):2*x+bit<2 ^ (n+1):=by
 rw[qH];omega
def uW (k:Wk) (bit:Nat) (hb:bit<2) (h:k.Inv) (hg:k.plainCode bit=0\/k.plainCode bit=1):((k.keep bit).adv).Inv:=by
 obtain⟨f1,f2,tk,sm,idb,dlb,crb,dan,dat,dal,das⟩:=h;obtain⟨field,taken,⟨la,lb⟩,sum,crc,ext,id,rtr,dlc,data,code⟩:=k;simp only at f1 f2 tk sm idb dlb crb dan dat dal das;have hst:=M.fW sum bit;rcases (show field=1\/field=2\/field=3\/field=4\/field=5\/field=6\/field=7\/field=8\/field=9\/field=10\/field=11\/field=12\/field=13\/field=14 from by omega) with rfl|rfl|rfl|rfl|rfl|rfl|rfl|rfl|rfl|rfl|rfl|rfl|rfl|rfl
 ·
  have t0:taken=0:=by simp[Wk.fsize] at tk;omega
  subst t0;simp at idb dlb crb dan;subst idb dlb crb dan;simp[Wk.keep,Wk.keep1,Wk.adv,Wk.fsize,Wk.fafter];constructor <;> (try dsimp only) <;> (try simp[Wk.fsize]) <;> (try omega)
 ·
  simp[Wk.fsize] at tk;simp at idb dlb crb dan;subst dlb crb dan;have hid:=jh id bit taken idb hb;by_cases hT:taken+1=11
  .have t10:taken=10:=om;subst t10;simp[Wk.keep,Wk.keep1,Wk.adv,Wk.fsize,Wk.fafter];constructor <;> (try dsimp only) <;> (try simp[Wk.fsize]) <;> (try omega)
  .simp[Wk.keep,Wk.keep1,Wk.adv,Wk.fsize,hT];constructor <;> (try dsimp only) <;> (try simp[Wk.fsize]) <;> (try omega)
 ·
  have t0:taken=0:=by simp[Wk.fsize] at tk;omega
  subst t0;simp at idb dlb crb dan;subst dlb crb dan;simp[Wk.keep,Wk.keep1,Wk.adv,Wk.fsize,Wk.fafter];constructor <;> (try dsimp only) <;> (try simp[Wk.fsize]) <;> (try omega)
 ·
  have t0:taken=0:=by simp[Wk.fsize] at tk;omega
  subst t0;simp at idb dlb crb dan;subst dlb crb dan;rcases (show bit=0\/bit=1 from by omega) with rfl|rfl
  .simp[Wk.keep,Wk.keep1,Wk.adv,Wk.fsize,Wk.fafter];constructor <;> (try dsimp only) <;> (try simp[Wk.fsize]) <;> (try omega)
  .simp[Wk.keep,Wk.keep1,Wk.adv,Wk.fsize,Wk.fafter];constructor <;> (try dsimp only) <;> (try simp[Wk.fsize]) <;> (try omega)
 ·
  simp[Wk.fsize] at tk;simp at idb dlb crb dan;subst dlb crb dan;have hid:=jh id bit (11+taken) idb hb;by_cases hT:taken+1=18
  .have t10:taken=17:=om;subst t10;simp[Wk.keep,Wk.keep1,Wk.adv,Wk.fsize,Wk.fafter];constructor <;> (try dsimp only) <;> (try simp[Wk.fsize]) <;> (try omega)
  .simp[Wk.keep,Wk.keep1,Wk.adv,Wk.fsize,hT];constructor <;> (try dsimp only) <;> (try simp[Wk.fsize]) <;> (try omega)
 ·
  have t0:taken=0:=by simp[Wk.fsize] at tk;omega
  subst t0;simp at idb dlb crb dan;subst dlb crb dan;simp[Wk.keep,Wk.keep1,Wk.adv,Wk.fsize,Wk.fafter];constructor <;> (try dsimp only) <;> (try simp[Wk.fsize]) <;> (try omega)
  cases ext <;> simp
 ·
  simp at idb dlb crb dan;subst dlb crb dan;cases ext
  .have t0:taken=0:=by simp[Wk.fsize] at tk;omega
   subst t0;simp[Wk.keep,Wk.keep1,Wk.adv,Wk.fsize,Wk.fafter];constructor <;> (try dsimp only) <;> (try simp[Wk.fsize]) <;> (try omega)
  .have t0:taken=0\/taken=1:=by simp[Wk.fsize] at tk;omega
   rcases t0 with rfl|rfl
   .simp[Wk.keep,Wk.keep1,Wk.adv,Wk.fsize];constructor <;> (try dsimp only) <;> (try simp[Wk.fsize]) <;> (try omega)
   .simp[Wk.keep,Wk.keep1,Wk.adv,Wk.fsize,Wk.fafter];constructor <;> (try dsimp only) <;> (try simp[Wk.fsize]) <;> (try omega)
 ·
  simp[Wk.fsize] at tk;simp at idb dlb crb dan;subst crb dan;have hid:=jh dlc bit taken dlb hb;by_cases hT:taken+1=4
  .have t10:taken=3:=om;subst t10;by_cases hz:(Wk.dlen ⟨8,3,(la,lb),M.dM sum bit,0,ext,id,rtr,2*dlc+bit,[],code⟩)=0
   .have e:(Wk.keep ⟨8,3,(la,lb),sum,0,ext,id,rtr,dlc,[],code⟩ bit).adv=⟨10,0,(la,lb),M.dM sum bit,0,ext,id,rtr,2*dlc+bit,[],code⟩:=by
     simp[Wk.keep,Wk.keep1,Wk.adv,Wk.fsize,Wk.fafter,hz]
    rw[e];constructor <;> (try dsimp only) <;> (try simp[Wk.fsize]) <;> (try omega)
   .have e:(Wk.keep ⟨8,3,(la,lb),sum,0,ext,id,rtr,dlc,[],code⟩ bit).adv=⟨9,0,(la,lb),M.dM sum bit,0,ext,id,rtr,2*dlc+bit,[],code⟩:=by
     simp[Wk.keep,Wk.keep1,Wk.adv,Wk.fsize,Wk.fafter,hz]
    rw[e];have hz':0<Wk.dlen ⟨9,0,(la,lb),M.dM sum bit,0,ext,id,rtr,2*dlc+bit,[],code⟩:=qW hz;constructor <;> (try dsimp only) <;> (try simp[Wk.fsize]) <;> (try omega)
  .simp[Wk.keep,Wk.keep1,Wk.adv,Wk.fsize,hT];constructor <;> (try dsimp only) <;> (try simp[Wk.fsize]) <;> (try omega)
 ·
  simp at idb dlb crb dat;subst crb;have hd8:=J4 ⟨9,taken,(la,lb),M.dM sum bit,0,ext,id,rtr,dlc,cY data taken bit,code⟩;have tk':taken<8*Wk.dlen ⟨9,taken,(la,lb),M.dM sum bit,0,ext,id,rtr,dlc,cY data taken bit,code⟩:=by simpa[Wk.fsize,Wk.dlen] using tk
  have hkl:=wN data taken bit dat;have hks:=rj data taken bit hb das;by_cases hT:taken+1=8*Wk.dlen ⟨9,taken,(la,lb),M.dM sum bit,0,ext,id,rtr,dlc,cY data taken bit,code⟩
  .have e:(Wk.keep ⟨9,taken,(la,lb),sum,0,ext,id,rtr,dlc,data,code⟩ bit).adv=⟨10,0,(la,lb),M.dM sum bit,0,ext,id,rtr,dlc,cY data taken bit,code⟩:=by
    simp[Wk.keep,Wk.keep1,Wk.adv,Wk.fsize,Wk.fafter,hT]
   rw[e];constructor <;> (try dsimp only) <;> (try simp[Wk.fsize]) <;> (try omega)
  .have e:(Wk.keep ⟨9,taken,(la,lb),sum,0,ext,id,rtr,dlc,data,code⟩ bit).adv=⟨9,taken+1,(la,lb),M.dM sum bit,0,ext,id,rtr,dlc,cY data taken bit,code⟩:=by
    simp[Wk.keep,Wk.keep1,Wk.adv,Wk.fsize,hT]
   rw[e];have hd':Wk.dlen ⟨9,taken+1,(la,lb),M.dM sum bit,0,ext,id,rtr,dlc,cY data taken bit,code⟩=Wk.dlen ⟨9,taken,(la,lb),M.dM sum bit,0,ext,id,rtr,dlc,cY data taken bit,code⟩:=rfl;constructor <;> (try dsimp only) <;> (try simp[Wk.fsize]) <;> (try omega)
 ·
  simp[Wk.fsize] at tk;simp at idb dlb crb;have hid:=jh crc bit taken crb hb;by_cases hT:taken+1=15
  .have t10:taken=14:=om;subst t10;simp[Wk.keep,Wk.keep1,Wk.adv,Wk.fsize,Wk.fafter];constructor <;> (try dsimp only) <;> (try simp[Wk.fsize]) <;> (try omega)
  .simp[Wk.keep,Wk.keep1,Wk.adv,Wk.fsize,hT];constructor <;> (try dsimp only) <;> (try simp[Wk.fsize]) <;> (try omega)
 ·
  have t0:taken=0:=by simp[Wk.fsize] at tk;omega
  subst t0;simp at idb dlb crb;simp[Wk.keep,Wk.keep1,Wk.adv,Wk.fsize,Wk.fafter];constructor <;> (try dsimp only) <;> (try simp[Wk.fsize]) <;> (try omega)
 ·
  have t0:taken=0:=by simp[Wk.fsize] at tk;omega
  subst t0;simp at idb dlb crb;simp[Wk.keep,Wk.keep1,Wk.adv,Wk.fsize,Wk.fafter];constructor <;> (try dsimp only) <;> (try simp[Wk.fsize]) <;> (try omega)
 ·
  have t0:taken=0:=by simp[Wk.fsize] at tk;omega
  subst t0;simp at idb dlb crb;simp[Wk.keep,Wk.keep1,Wk.adv,Wk.fsize,Wk.fafter];constructor <;> (try dsimp only) <;> (try simp[Wk.fsize]) <;> (try omega)
 ·
  simp[Wk.fsize] at tk;simp at idb dlb crb;have hT:¬ taken=6:=by
   intro e;subst e;rcases (show bit=0\/bit=1 from by omega) with rfl | rfl <;> simp[Wk.plainCode,Wk.eofCode] at hg
  have hT':¬ taken+1=7:=om;simp[Wk.keep,Wk.keep1,Wk.adv,Wk.fsize,hT];constructor <;> (try dsimp only) <;> (try simp[Wk.fsize]) <;> (try omega)
end
section
variable {w w0 V W w1:Wd} {B g b b2 j:Nat} {v:Value} {l:List Nat}
def av (c:Nat):Bool:=decide (c=0\/c=1)
def rp {k:Wk} (h:k.Inv) (c:Nat):({ k with code:=c }:Wk).Inv:=⟨h.f1,h.f2,h.tk,h.sm,h.idb,h.dlb,h.crb,h.dan,h.dat,h.dal,h.das⟩
def iz {k:Wk} (h:k.Inv) (c:Nat):(k.heard c).Inv:=⟨h.f1,h.f2,h.tk,h.sm,h.idb,h.dlb,h.crb,h.dan,h.dat,h.dal,h.das⟩
def jI (k:Wk) (bit:Nat):(k.keep bit).last=k.last:=by
 unfold Wk.keep Wk.keep1
 (repeat' split) <;> rfl
def Jo (k:Wk):k.adv.last=k.last:=by
 unfold Wk.adv
 (repeat' split) <;> rfl
def xO {k:Wk} (h:k.Inv) (c:Nat) (hc:M.isL c) (hg:av (k.take c).2=true):(k.take c).1.Inv:=by
 unfold Wk.take at hg ⊢;by_cases h1:k.due=true/\c=k.last.1
 .rw[qc h1];exact h
 .rw[qa h1] at hg ⊢;by_cases h2:k.due=true
  .rw[qc h2];exact iz h c
  .rw[qa h2] at hg ⊢;refine uW (k.heard c) (c-48) (by rcases hc with rfl | rfl <;> decide) (iz h c) ?_;simpa[av] using hg
def xN (k:Wk) (c:Nat):(k.take c).1.last.2<=k.last.2+1:=by
 unfold Wk.take;split
 .show k.last.2<=_;omega
 .split
  .exact M.eR _ _
  .show ((((k.heard c).keep (c-48)).adv).last.2)<=_;rw[Jo,jI];exact M.eR _ _
def Wk.over:Wk->List Nat->Wk
 | k,[]=>k
 | k,c :: cs=>if av (k.take c).2=true then Wk.over { (k.take c).1 with code:=(k.take c).2 } cs
   else if cs=[] then { (k.take c).1 with code:=(k.take c).2 } else { (k.take c).1 with code:=7 }
def Wk.init:Wk:=⟨1,0,(0,0),0,0,false,0,false,0,[],0⟩
def ro:Wk.init.Inv:=by
 constructor <;> simp[Wk.init,Wk.fsize]
def Wk.val (k:Wk) (v:Value):Value:=
 aG #[I J (k.field:Int),I J (k.taken:Int),I .i32 (k.last.1:Int),I J (k.last.2:Int),I J (k.sum:Int),I J (k.crc:Int),bO k.ext,I Zk (k.id:Int),bO k.rtr,I J (k.dlc:Int),v,I J (k.code:Int)]
def Bi (s:ByteArray) (k:Nat) (h:k<s.size):(lt s).drop k=s[k].toNat :: (lt s).drop (k+1):=by
 rw[List.drop_eq_getElem_cons (by rw[ba];exact h)];simp[lt];rfl
def Wk.zero:Wk:=⟨0,0,(0,0),0,0,false,0,false,0,[],0⟩
def oZ (h:Below ((w.alloc (.cells #[I J 0,I J 0,I .i32 0,I J 0,I J 0,I J 0,bO false,I Zk 0,bO false,I J 0,sL nn 0 0,I J 0] 214)).alloc (.cells #[I J 1,I J 0,I .i32 0,I J 0,I J 0,I J 0,bO false,I Zk 0,bO false,I J 0,sL nn 0 0,I J 0] 214)).heap.size ((w.alloc (.cells #[I J 0,I J 0,I .i32 0,I J 0,I J 0,I J 0,bO false,I Zk 0,bO false,I J 0,sL nn 0 0,I J 0] 214)).alloc (.cells #[I J 1,I J 0,I .i32 0,I J 0,I J 0,I J 0,bO false,I Zk 0,bO false,I J 0,sL nn 0 0,I J 0] 214)) w1) :
  bG w1 w.heap.size Wk.zero (sL nn 0 0)/\bG w1 (w.heap.size+1) Wk.init (sL nn 0 0)/\Bl w w1:=by
 refine⟨bG.below (k:=Wk.zero) ?_ h,bG.below (k:=Wk.init) ?_ h,?_⟩
 .unfold bG;rw[Below.heap_alloc _ _ _ pQ];exact QN w _
 .unfold bG;have:=QN (w.alloc (.cells #[I J 0,I J 0,I .i32 0,I J 0,I J 0,I J 0,bO false,I Zk 0,bO false,I J 0,sL nn 0 0,I J 0] 214)) (.cells #[I J 1,I J 0,I .i32 0,I J 0,I J 0,I J 0,bO false,I Zk 0,bO false,I J 0,sL nn 0 0,I J 0] 214);have e:∀ o:Obj,(w.alloc o).heap.size=w.heap.size+1:=fun o=>by simp
  rw[e] at this;exact this
 .exact (Zw.alloc pQ _).trans (h.mono (by simp;omega))
structure lI (w0:Wd) (B b:Nat) (v:Value) (l:List Nat) (W:Wd):Prop where
 own:aa W B v l
 blk:∃ cs,W.heap[b]?=sQ (.cells cs 214 (0,0))
 bel:Below B w0 W
 le:B<=b
def lI.set (h:lI w0 B b v l W) (j:Nat) (x:Value):lI w0 B b v l (W.setCell ⟨b,j,nn⟩ x):=by
 obtain⟨cs,hc⟩:=h.blk;exact⟨h.own.setB hc j x,⟨_,QP W b j _ _ x hc⟩,h.bel.setCell (by exact h.le) x,h.le⟩
def lI.set12 (h:lI w0 B b v l W) (x0 x1 x2 x3 x4 x5 x6 x7 x8 x9 x10 x11:Value):lI w0 B b v l ((((((((((((W.setCell ⟨b,0,nn⟩ x0).setCell ⟨b,1,nn⟩ x1).setCell ⟨b,2,nn⟩ x2).setCell ⟨b,3,nn⟩ x3).setCell ⟨b,4,nn⟩ x4).setCell ⟨b,5,nn⟩ x5).setCell ⟨b,6,nn⟩ x6).setCell ⟨b,7,nn⟩ x7).setCell ⟨b,8,nn⟩ x8).setCell ⟨b,9,nn⟩ x9).setCell ⟨b,10,nn⟩ x10).setCell ⟨b,11,nn⟩ x11):=
 (((((((((((h.set 0 x0).set 1 x1).set 2 x2).set 3 x3).set 4 x4).set 5 x5).set 6 x6).set 7 x7).set 8 x8).set 9 x9).set 10 x10).set 11 x11
def pL (w:Wd) (B:Nat):aa w B (sL nn 0 0) []:=⟨rfl,.inl ⟨rfl,rfl⟩⟩
def nB (s:ByteArray) (w:Wd) (hk:okT s 4000=false) :
  Calls Tp 155 #[.string s] w fun e w'=>∃ v,e = rT (Wk.val { Wk.init with code:=8 } v)/\aa w' w.heap.size v []/\Bl w w':=by
 go_enter func155,ntmps155;go_wp2;go_step3
 go_wp2_with fail;refine (cV _ _ _).mono ?_;rw[hk];rintro e w1 ⟨rfl,hb1⟩;obtain⟨hz,hw,hb⟩:=oZ hb1;clear hb1;obtain⟨c0,c1,c2,c3,c4,c5,c6,c7,c8,c9,c10,c11⟩:=hw.cells;have f11:=hw.free 11;obtain⟨d0,d1,d2,d3,d4,d5,d6,d7,d8,d9,d10,d11⟩:=hz.cells;have z0:=hz.free 0;have z1:=hz.free 1;have z2:=hz.free 2;have z3:=hz.free 3;have z4:=hz.free 4;have z5:=hz.free 5;have z6:=hz.free 6;have z7:=hz.free 7;have z8:=hz.free 8;have z9:=hz.free 9;have z10:=hz.free 10;have z11:=hz.free 11;have HE:Hid (lI w w.heap.size w.heap.size (sL nn 0 0) [] (w1.setCell ⟨w.heap.size+1,11,nn⟩ (I J 8))):=⟨(pL _ _),⟨_,(QA w1 ⟨w.heap.size+1,11,nn⟩ w.heap.size _ pQ).trans hz⟩,hb.setCell pQ _,nR _⟩
 clear hz hw hb;dsimp only[Wk.init] at c0 c1 c2 c3 c4 c5 c6 c7 c8 c9 c10 c11;go_wp2;rw[Exit.noGoto_ret];refine QE (v:=Wk.val { Wk.init with code:=8 } (sL nn 0 0)) ?_ rfl ⟨sL nn 0 0,rfl,?_⟩
 .simp[results,results155,go_sem,Wk.val,Wk.init,d0,d1,d2,d3,d4,d5,d6,d7,d8,d9,d10,d11]
 .have:=HE.o.set12 (I J 1) (I J 0) (I .i32 0) (I J 0) (I J 0) (I J 0) (bO false) (I Zk 0) (bO false) (I J 0) (sL nn 0 0) (I J 8);exact⟨this.own,this.bel⟩
structure woI (w0:Wd) (b2:Nat) (s:ByteArray) (j:Nat) (k:Wk) (w:Wd):Prop where
 wk:wkI w0.heap.size (w0.heap.size+1) k w
 res:bG w w0.heap.size Wk.zero (sL nn 0 0)
 it:w.heap[b2]?=sQ (.stringIter s j)
 bel:Bl w0 w
 le:w0.heap.size<=b2
def woI.next {s:ByteArray} {k:Wk} (h:woI w0 b2 s j k w) (j':Nat):woI w0 b2 s j' k (w.iterAt b2 s j'):=by
 obtain⟨⟨⟨v,hw,ho⟩,hB⟩,hr,hi,hb,hl⟩:=h;have n1:w0.heap.size+1≠b2:=by
  intro e;unfold bG at hw;rw[e,hi] at hw;cases hw
 have n0:w0.heap.size≠b2:=by
  intro e;unfold bG at hr;rw[e,hi] at hr;cases hr
 refine⟨⟨⟨v,(Q2 w b2 _ s j' n1).trans hw,ho.otherBlock (fun g hg=>?_)⟩,hB⟩,(Q2 w b2 _ s j' n0).trans hr,Lib.iterAt_heap w b2 s j j' hi,Lib.below_iterAt hb hl s j',hl⟩;obtain⟨c,fz,hc⟩:=ho.kind g hg;refine Q2 w b2 g s j' (fun e=>?_);rw[e,hi] at hc;cases hc
def woI.step {s:ByteArray} {k k':Wk} {w':Wd} (h:woI w0 b2 s j k w) (hk:wkI w0.heap.size (w0.heap.size+1) k' w') (ht:cD w0.heap.size (w0.heap.size+1) w w'):woI w0 b2 s j k' w':=by
 obtain⟨⟨⟨v,hw,ho⟩,hB⟩,hr,hi,hb,hl⟩:=h;refine⟨hk,ht.oth _ _ hr pQ (by intro c fz e;cases e),ht.oth _ _ hi (by intro e;cases e;unfold bG at hw;rw[hi] at hw;cases hw) (by intro c fz e;cases e),hb.trans ht.bel,hl⟩
def woI.code {s:ByteArray} {k:Wk} (h:woI w0 b2 s j k w) (c:Nat):woI w0 b2 s j { k with code:=c } (w.setCell ⟨w0.heap.size+1,11,nn⟩ (I J (c:Int))):=by
 obtain⟨⟨v,hw,ho⟩,hB⟩:=h.wk;have h1:=sf (k':={ k with code:=c }) hw ho hB 11 (I J (c:Int)) rfl pQ;exact h.step ⟨⟨v,h1.1,h1.2.1⟩,hB⟩ h1.2.2
def woI.ends {s:ByteArray} {k:Wk} (h:woI w0 b2 s j k w):∃ v,bG w (w0.heap.size+1) k v/\lI w0 w0.heap.size w0.heap.size v k.data w:=by
 obtain⟨⟨⟨v,hw,ho⟩,hB⟩,hr,hi,hb,hl⟩:=h;exact⟨v,hw,ho,⟨_,hr⟩,hb,nR _⟩
def I5 (s:ByteArray) (w:Wd) (hk:okT s 4000=true) :
  Calls Tp 155 #[.string s] w fun e w'=>∃ v,e = rT (Wk.val (Wk.init.over (lt s)) v)/\aa w' w.heap.size v (Wk.init.over (lt s)).data/\Bl w w':=by
 have hsz:=gj hk;have HK:Hid (okT s 4000=true):=hk;go_enter func155,ntmps155;go_wp2;go_step3
 go_wp2_with fail;refine (cV _ _ _).mono ?_;rw[hk];rintro e w1 ⟨rfl,hb1⟩;obtain⟨hz,hw,hb⟩:=oZ hb1;clear hb1 hk;go_wp2;go_step3
 go_wp2;have st0:woI w w1.heap.size s 0 Wk.init (w1.iter s 0):=by
  refine⟨⟨⟨_,(Below.heap_alloc _ _ _ (QX hw)).trans hw,pL _ _⟩,om⟩,(Below.heap_alloc _ _ _ (QX hz)).trans hz,World.iter_heap w1 s 0,hb.alloc hb.size _,hb.size⟩
 clear hz hw hb;generalize w1.heap.size=b2 at *;go_loopw [4,5] (fun _ _ wr=>∃ (j:Nat) (k:Wk),j<=s.size/\k.Inv/\k.last.2<=j/\Wk.init.over (lt s)=k.over ((lt s).drop j)/\woI w b2 s j k wr) (fun _ _ wr=>s.size-wr.iterPos b2);case atStart=>exact⟨0,Wk.init,nZ _,ro,nZ _,rfl,st0⟩
 case round=>
  clear st0;obtain⟨j,k,hj,hin,hr,hov,st⟩:=hrel;by_cases hlt:j<s.size
  .have hv:M.isL s[j].toNat:=kT HK.o j hlt;have hnx:=fun ty=>Lib.run_next_ascii_at (P:=Tp) wr b2 s j ty st.it hlt (by rcases hv with h | h <;> omega);have st1:=st.next (j+1);have HP:Hid (wr.iterPos b2=j):=iterPos_of st.it;clear st;generalize wr.iterAt b2 s (j+1)=wr1 at *;rw[Bi s j hlt] at hov;have HI:Hid (k.Inv/\k.last.2<=j):=⟨hin,hr⟩
   have HO:Hid (Wk.init.over (lt s)=k.over (s[j].toNat :: (lt s).drop (j+1))):=hov;have HV:Hid (M.isL s[j].toNat):=hv;clear hin hr hov hv;generalize hc:s[j].toNat=c at *;clear hc;go_wp2_with fail;refine (AI wr1 _ _ k c st1.wk (HI.o.1.ok (by have:=HI.o.2;omega)) HV.o).mono ?_;rintro e w2 ⟨rfl,hi2,hk2⟩;have st2:=st1.step hi2 hk2;have st3:=st2.code (k.take c).2;obtain⟨⟨v2,hw2,ho2⟩,le⟩:=st2.wk;have f11:=hw2.free 11;obtain⟨-,-,-,-,-,-,-,-,-,-,-,c11⟩:=hw2.cells;clear st1 hi2 hk2 hw2 ho2 st2;have HT:Hid (av (k.take c).2=true->({ (k.take c).1 with code:=(k.take c).2 }:Wk).Inv):=fun hg=>rp (xO HI.o.1 c HV.o hg) _;have HR:Hid ((k.take c).1.last.2<=j+1):=nT (xN k c) (by have:=HI.o.2;omega);have HO2:Hid (Wk.init.over (lt s)=if av (k.take c).2=true then Wk.over { (k.take c).1 with code:=(k.take c).2 } ((lt s).drop (j+1)) else if (lt s).drop (j+1)=[] then { (k.take c).1 with code:=(k.take c).2 } else { (k.take c).1 with code:=7 }):=HO.o;clear HO HI HV le;generalize k.take c=r at *;go_wp2_with fail;have HW:Hid (∃ kc:Wk,kc = { r.1 with code:=r.2 }/\woI w b2 s (j+1) kc (w2.setCell ⟨w.heap.size+1,11,nn⟩ (I J (r.2:Int)))):=⟨_,rfl,st3⟩
   clear st3 c11 f11;generalize w2.setCell ⟨w.heap.size+1,11,nn⟩ (I J (r.2:Int))=W at *;obtain⟨kc,hkc,st⟩:=HW.o;have HKC:Hid (kc = { r.1 with code:=r.2 }):=hkc;clear hkc;clear HW;have ST:Hid (woI w b2 s (j+1) kc W):=st;clear st;refine (iZ _ _).mono ?_;by_cases hgo:av r.2=true
   .have hgo':=hgo;unfold av at hgo';rw[hgo'];rintro e w4 ⟨rfl,rfl⟩;go_wp2;go_roundw;case rel=>exact⟨j+1,kc,om,by rw[HKC.o];exact HT.o hgo,by rw[HKC.o];exact HR.o,by rw[HO2.o,qc hgo,HKC.o],ST.o⟩
    case measure=>rw[iterPos_of ST.o.it,HP.o];omega
   .have hgo':av r.2=false:=by simpa using hgo
    unfold av at hgo';rw[hgo'];rintro e w4 ⟨rfl,rfl⟩;obtain⟨v,hw,he⟩:=ST.o.ends;obtain⟨ao,cap,rfl⟩:=he.own.sliced;obtain⟨c0,c1,c2,c3,c4,c5,c6,c7,c8,c9,c10,c11⟩:=hw.cells;have f11:=hw.free 11;have hz:=ST.o.res;obtain⟨d0,d1,d2,d3,d4,d5,d6,d7,d8,d9,d10,d11⟩:=hz.cells;have z0:=hz.free 0;have z1:=hz.free 1;have z2:=hz.free 2;have z3:=hz.free 3;have z4:=hz.free 4;have z5:=hz.free 5;have z6:=hz.free 6;have z7:=hz.free 7;have z8:=hz.free 8;have z9:=hz.free 9;have z10:=hz.free 10;have z11:=hz.free 11;by_cases hl:(j:Int)+1<(s.size:Int)
    .have HF:Hid (Wk.init.over (lt s) = { kc with code:=7 }):=by
      unfold Hid;rw[HO2.o,qa hgo,qa (by intro e;have:=congrArg List.length e;rw[Qg,ba] at this;simp at this;omega),HKC.o]
     have HE:Hid (lI w w.heap.size w.heap.size (sL ao kc.data.length cap) kc.data (W.setCell ⟨w.heap.size+1,11,nn⟩ (I J 7))):=by
      obtain⟨⟨v',hw',ho'⟩,hB⟩:=ST.o.wk;obtain⟨cs,hcs⟩:=he.blk;exact⟨he.own.setB hw 11 _,⟨_,(QA W ⟨w.heap.size+1,11,nn⟩ w.heap.size _ pQ).trans hcs⟩,he.bel.setCell pQ _,nR _⟩
     clear hz hw he hgo hgo' HO2 HT HR ST HP;go_wp2;rw[Exit.noGoto_ret];refine QE (v:=Wk.val { kc with code:=7 } (sL ao kc.data.length cap)) ?_ rfl ⟨sL ao kc.data.length cap,by rw[HF.o],?_⟩
     .simp[results,results155,go_sem,Wk.val,d0,d1,d2,d3,d4,d5,d6,d7,d8,d9,d10,d11]
     .have:=HE.o.set12 (I J (kc.field:Int)) (I J (kc.taken:Int)) (I .i32 (kc.last.1:Int)) (I J (kc.last.2:Int)) (I J (kc.sum:Int)) (I J (kc.crc:Int)) (bO kc.ext) (I Zk (kc.id:Int)) (bO kc.rtr) (I J (kc.dlc:Int)) (sL ao kc.data.length cap) (I J 7);rw[HF.o];exact⟨this.own,this.bel⟩
    .have HF:Hid (Wk.init.over (lt s)=kc):=by
      unfold Hid;rw[HO2.o,qa hgo,qc (by rw[List.drop_eq_nil_iff,ba];omega),HKC.o]
     have HE:Hid (lI w w.heap.size w.heap.size (sL ao kc.data.length cap) kc.data W):=he;clear hz hw he hgo hgo' HO2 HT HR ST HP;go_wp2;rw[Exit.noGoto_ret];refine QE (v:=Wk.val kc (sL ao kc.data.length cap)) ?_ rfl ⟨sL ao kc.data.length cap,by rw[HF.o],?_⟩
     .simp[results,results155,go_sem,Wk.val,d0,d1,d2,d3,d4,d5,d6,d7,d8,d9,d10,d11]
     .have:=HE.o.set12 (I J (kc.field:Int)) (I J (kc.taken:Int)) (I .i32 (kc.last.1:Int)) (I J (kc.last.2:Int)) (I J (kc.sum:Int)) (I J (kc.crc:Int)) (bO kc.ext) (I Zk (kc.id:Int)) (bO kc.rtr) (I J (kc.dlc:Int)) (sL ao kc.data.length cap) (I J (kc.code:Int));rw[HF.o];exact⟨this.own,this.bel⟩
  .have hd:(lt s).drop j=[]:=by rw[List.drop_eq_nil_iff,ba];omega
   rw[hd] at hov;have hnx:∀ ty,(Instr.next (pT (sQ ⟨b2,0,nn⟩)) true ty).run Tp wr=_:=fun ty=>Lib.run_next_end_at wr b2 s j ty st.it hlt;have HF:Hid (Wk.init.over (lt s)=k):=hov;have ST:Hid (woI w b2 s j k wr):=st;clear hov hd hin hr st;obtain⟨v,hw,he⟩:=ST.o.ends;obtain⟨ao,cap,rfl⟩:=he.own.sliced;obtain⟨c0,c1,c2,c3,c4,c5,c6,c7,c8,c9,c10,c11⟩:=hw.cells;have f11:=hw.free 11;have hz:=ST.o.res;obtain⟨d0,d1,d2,d3,d4,d5,d6,d7,d8,d9,d10,d11⟩:=hz.cells;have z0:=hz.free 0;have z1:=hz.free 1;have z2:=hz.free 2;have z3:=hz.free 3;have z4:=hz.free 4;have z5:=hz.free 5;have z6:=hz.free 6;have z7:=hz.free 7;have z8:=hz.free 8;have z9:=hz.free 9;have z10:=hz.free 10;have z11:=hz.free 11;have HE:Hid (lI w w.heap.size w.heap.size (sL ao k.data.length cap) k.data wr):=he;clear hz hw he ST;go_wp2;rw[Exit.noGoto_ret];refine QE (v:=Wk.val k (sL ao k.data.length cap)) ?_ rfl ⟨sL ao k.data.length cap,by rw[HF.o],?_⟩
   .simp[results,results155,go_sem,Wk.val,d0,d1,d2,d3,d4,d5,d6,d7,d8,d9,d10,d11]
   .have:=HE.o.set12 (I J (k.field:Int)) (I J (k.taken:Int)) (I .i32 (k.last.1:Int)) (I J (k.last.2:Int)) (I J (k.sum:Int)) (I J (k.crc:Int)) (bO k.ext) (I Zk (k.id:Int)) (bO k.rtr) (I J (k.dlc:Int)) (sL ao k.data.length cap) (I J (k.code:Int));rw[HF.o];exact⟨this.own,this.bel⟩
def nC (s:ByteArray) (w:Wd) :
  Calls Tp 155 #[.string s] w fun e w'=>∃ v,e = rT (Wk.val (if okT s 4000=true then Wk.init.over (lt s) else { Wk.init with code:=8 }) v)/\aa w' w.heap.size v (if okT s 4000=true then Wk.init.over (lt s) else { Wk.init with code:=8 }).data/\Bl w w':=by
 cases hk:okT s 4000
 .exact nB s w hk
 .exact I5 s w hk
def bH (s:ByteArray):Wk:=if okT s 4000=true then Wk.init.over (lt s) else { Wk.init with code:=8 }
def sk (s:ByteArray) (w:Wd) :
  Calls Tp 155 #[.string s] w fun e w'=>∃ ao cap,e = rT (Wk.val (bH s) (sL ao (bH s).data.length cap))/\aa w' w.heap.size (sL ao (bH s).data.length cap) (bH s).data/\Bl w w':=by
 refine (nC s w).mono ?_;rintro e w' ⟨v,he,ho,hb⟩;obtain⟨ao,cap,rfl⟩:=ho.sliced;exact⟨ao,cap,he,ho,hb⟩
def gH (k:Wk):Value:=if av k.code=true then aG #[I J (k.code:Int),I J (k.field:Int),bO k.due,bO k.crcOk] else aG #[I J (k.code:Int),I J 0,bO false,bO false]
def zt (h:Below (w.alloc (.cells #[I J 0,I J 0,bO false,bO false] 57)).heap.size (w.alloc (.cells #[I J 0,I J 0,bO false,bO false] 57)) w1) :
  w1.heap[w.heap.size]?=sQ (.cells #[I J 0,I J 0,bO false,bO false] 57 (0,0))/\Bl w w1:=by
 refine⟨(h.block _ pQ).trans (QN w _),?_⟩;exact Zw.trans (h.mono pQ)
def EW {k:Wk} (q:Nat) (he:V=W.drewN q) (hw:bG W b k v) (hr:W.heap[g]?=sQ (.cells #[I J 0,I J 0,bO false,bO false] 57 (0,0))) (hb:Below B w W) (hg:B<=g):V.cell? ⟨b,0,nn⟩=sQ (I J (k.field:Int))/\V.cell? ⟨b,11,nn⟩=sQ (I J (k.code:Int))/\bG V b k v/\(∃ x0 x1 x2 x3,V.heap[g]?=sQ (.cells #[x0,x1,x2,x3] 57 (0,0)))/\Below B w V/\B<=g:=by
 have hw':bG V b k v:=by rw[he];exact hw
 have hr':V.heap[g]?=sQ (.cells #[I J 0,I J 0,bO false,bO false] 57 (0,0)):=by rw[he];exact hr
 have hb':Below B w V:=by rw[he];exact QQ hb q
 obtain⟨c0,-,-,-,-,-,-,-,-,-,-,c11⟩:=hw'.cells;exact⟨c0,c11,hw',⟨_,_,_,_,hr'⟩,hb',hg⟩
def CG {k:Wk} {V':Wd} (h:V.cell? ⟨b,0,nn⟩=sQ (I J (k.field:Int))/\V.cell? ⟨b,11,nn⟩=sQ (I J (k.code:Int))/\bG V b k v/\(∃ x0 x1 x2 x3,V.heap[g]?=sQ (.cells #[x0,x1,x2,x3] 57 (0,0)))/\Below B w V/\B<=g) (he:∃ q,V'=V.drewN q):V'.cell? ⟨b,0,nn⟩=sQ (I J (k.field:Int))/\V'.cell? ⟨b,11,nn⟩=sQ (I J (k.code:Int))/\bG V' b k v/\(∃ x0 x1 x2 x3,V'.heap[g]?=sQ (.cells #[x0,x1,x2,x3] 57 (0,0)))/\Below B w V'/\B<=g:=by
 obtain⟨q,rfl⟩:=he;obtain⟨h0,h1,h2,h3,h4,h5⟩:=h;exact⟨h0,h1,h2,h3,QQ h4 q,h5⟩
def uU {k:Wk} (h:V.cell? ⟨b,0,nn⟩=sQ (I J (k.field:Int))/\V.cell? ⟨b,11,nn⟩=sQ (I J (k.code:Int))/\bG V b k v/\(∃ x0 x1 x2 x3,V.heap[g]?=sQ (.cells #[x0,x1,x2,x3] 57 (0,0)))/\Below B w V/\B<=g) (j:Nat) (x:Value) (hj:j<4):(V.setCell ⟨g,j,nn⟩ x).cell? ⟨b,0,nn⟩=sQ (I J (k.field:Int))/\(V.setCell ⟨g,j,nn⟩ x).cell? ⟨b,11,nn⟩=sQ (I J (k.code:Int))/\bG (V.setCell ⟨g,j,nn⟩ x) b k v/\(∃ x0 x1 x2 x3,(V.setCell ⟨g,j,nn⟩ x).heap[g]?=sQ (.cells #[x0,x1,x2,x3] 57 (0,0)))/\Below B w (V.setCell ⟨g,j,nn⟩ x)/\B<=g:=by
 obtain⟨h0,h1,h2,⟨x0,x1,x2,x3,h3⟩,h4,h5⟩:=h;have hne:¬ b=g:=by intro e;unfold bG at h2;rw[e,h3] at h2;cases h2
 have h2':bG (V.setCell ⟨g,j,nn⟩ x) b k v:=(QA V ⟨g,j,nn⟩ b x (by exact hne)).trans h2;have h3':=QP V g j _ _ x h3;obtain⟨c0,-,-,-,-,-,-,-,-,-,-,c11⟩:=h2'.cells;refine⟨c0,c11,h2',?_,h4.setCell (by exact h5) x,h5⟩;rcases (show j=0\/j=1\/j=2\/j=3 from by omega) with rfl | rfl | rfl | rfl <;> exact⟨_,_,_,_,h3'⟩
def zu (h:∃ x0 x1 x2 x3,V.heap[g]?=sQ (.cells #[x0,x1,x2,x3] 57 (0,0))):∃ x0 x1 x2 x3,V.cell? ⟨g,0,nn⟩=sQ x0/\V.cell? ⟨g,1,nn⟩=sQ x1/\V.cell? ⟨g,2,nn⟩=sQ x2/\V.cell? ⟨g,3,nn⟩=sQ x3/\V.frozen? ⟨g,0,nn⟩=false/\V.frozen? ⟨g,1,nn⟩=false/\V.frozen? ⟨g,2,nn⟩=false/\V.frozen? ⟨g,3,nn⟩=false:=by
 obtain⟨x0,x1,x2,x3,hr⟩:=h;refine⟨x0,x1,x2,x3,?_,?_,?_,?_,?_,?_,?_,?_⟩ <;> simp[World.cell?,World.frozen?,hr]
def CF {k:Wk} (h:V.cell? ⟨b,0,nn⟩=sQ (I J (k.field:Int))/\V.cell? ⟨b,11,nn⟩=sQ (I J (k.code:Int))/\bG V b k v/\(∃ x0 x1 x2 x3,V.heap[g]?=sQ (.cells #[x0,x1,x2,x3] 57 (0,0)))/\Below B w V/\B<=g):bG V b k v:=h.2.2.1
def be4 (x0 x1 x2 x3:Value) (h:Below B w V) (hg:B<=g):Below B w ((((V.setCell ⟨g,0,nn⟩ x0).setCell ⟨g,1,nn⟩ x1).setCell ⟨g,2,nn⟩ x2).setCell ⟨g,3,nn⟩ x3):=
 (((h.setCell (by exact hg) x0).setCell (by exact hg) x1).setCell (by exact hg) x2).setCell (by exact hg) x3
def wO (s:ByteArray) (w:Wd) :
  Calls Tp 92 #[.string s] w fun e w'=>e = rT (gH (bH s))/\Bl w w':=by
 go_enter func92,ntmps92;go_wp2_with fail;refine (sk s _).mono ?_;rintro e w1 ⟨ao,cap,rfl,ho,hb1⟩;obtain⟨hr,hb⟩:=zt hb1;clear hb1 ho;generalize hz:bH s=k at *;have HZ:Hid (bH s=k):=hz;clear hz;unfold Wk.val;go_wp2_with fail;have hw:bG (w1.alloc (.cells #[I J (k.field:Int),I J (k.taken:Int),I .i32 (k.last.1:Int),I J (k.last.2:Int),I J (k.sum:Int),I J (k.crc:Int),bO k.ext,I Zk (k.id:Int),bO k.rtr,I J (k.dlc:Int),sL ao k.data.length cap,I J (k.code:Int)] 214)) w1.heap.size k (sL ao k.data.length cap):=QN w1 _;have hr2:=(Below.heap_alloc w1 (.cells #[I J (k.field:Int),I J (k.taken:Int),I .i32 (k.last.1:Int),I J (k.last.2:Int),I J (k.sum:Int),I J (k.crc:Int),bO k.ext,I Zk (k.id:Int),bO k.rtr,I J (k.dlc:Int),sL ao k.data.length cap,I J (k.code:Int)] 214) w.heap.size (QX hr)).trans hr;have hb2:=hb.alloc hb.size (.cells #[I J (k.field:Int),I J (k.taken:Int),I .i32 (k.last.1:Int),I J (k.last.2:Int),I J (k.sum:Int),I J (k.crc:Int),bO k.ext,I Zk (k.id:Int),bO k.rtr,I J (k.dlc:Int),sL ao k.data.length cap,I J (k.code:Int)] 214);generalize w1.alloc (.cells #[I J (k.field:Int),I J (k.taken:Int),I .i32 (k.last.1:Int),I J (k.last.2:Int),I J (k.sum:Int),I J (k.crc:Int),bO k.ext,I Zk (k.id:Int),bO k.rtr,I J (k.dlc:Int),sL ao k.data.length cap,I J (k.code:Int)] 214)=W at *;clear hr hb;generalize w1.heap.size=b at *;have HW:Hid (bG W b k (sL ao k.data.length cap)/\W.heap[w.heap.size]?=sQ (.cells #[I J 0,I J 0,bO false,bO false] 57 (0,0))/\Bl w W):=⟨hw,hr2,hb2⟩
 clear hw hr2 hb2;refine (iZ _ _).mono ?_;by_cases hg:av k.code=true
 .have hg':=hg;unfold av at hg';rw[hg'];rintro e w2 ⟨rfl,rfl⟩;have HG:Hid (av k.code=true):=hg;clear hg hg';go_wp2_with fail;go_region_held3 (fun V=>V.cell? ⟨b,0,nn⟩=sQ (I J (k.field:Int))/\V.cell? ⟨b,11,nn⟩=sQ (I J (k.code:Int))/\bG V b k (sL ao k.data.length cap)/\(∃ x0 x1 x2 x3,V.heap[w.heap.size]?=sQ (.cells #[x0,x1,x2,x3] 57 (0,0)))/\Bl w V/\w.heap.size<=w.heap.size) (first | exact EW 1 rfl HW.o.1 HW.o.2.1 HW.o.2.2 (nR _) | exact CG (by assumption) (by assumption) | assumption | exact uU (uU (uU (uU (by assumption) 0 _ (by decide)) 1 _ (by decide)) 2 _ (by decide)) 3 _ (by decide)) (first | (go_at_call 156;refine (M0 _ b k _ (CF (by assumption))).mono ?_;rintro o w3 ⟨rfl,rfl⟩) | (go_at_call 157;refine (lK _ b k _ (CF (by assumption))).mono ?_;rintro o w4 ⟨rfl,hq4⟩;obtain⟨x0,x1,x2,x3,d0,d1,d2,d3,z0,z1,z2,z3⟩:=zu (V:=w4) (CG (by assumption) hq4).2.2.2.1));go_wp2;refine QE (v:=gH k) ?_ rfl ⟨by rw[HZ.o],?_⟩
  .simp[results,results92,go_sem,gH,HG.o,d0,d1,d2,d3]
  .obtain⟨q,rfl⟩:=hq4;exact be4 _ _ _ _ (QQ HW.o.2.2.drew q) (nR _)
 .have hg':av k.code=false:=by simpa using hg
  unfold av at hg';rw[hg'];rintro e w2 ⟨rfl,rfl⟩;obtain⟨c0,-,-,-,-,-,-,-,-,-,-,c11⟩:=HW.o.1.cells;obtain⟨x0,x1,x2,x3,d0,d1,d2,d3,z0,z1,z2,z3⟩:=zu ⟨_,_,_,_,HW.o.2.1⟩;have HG:Hid (¬ av k.code=true):=hg;clear hg hg';go_wp2;refine QE (v:=gH k) ?_ rfl ⟨by rw[HZ.o],?_⟩
  .simp[results,results92,go_sem,gH,HG.o,d0,d1,d2,d3]
  .exact be4 _ _ _ _ HW.o.2.2 (nR _)
structure xf (w0:Wd) (B g:Nat) (v:Value) (l:List Nat) (W:Wd):Prop where
 own:aa W B v l
 blk:∃ cs,W.heap[g]?=sQ (.cells cs 67 (0,0))
 bel:Below B w0 W
 le:B<=g
def xf.set (h:xf w0 B g v l W) (j:Nat) (x:Value):xf w0 B g v l (W.setCell ⟨g,j,nn⟩ x):=by
 obtain⟨cs,hc⟩:=h.blk;refine⟨h.own.otherBlock (fun i hi=>QA W ⟨g,j,nn⟩ i x (fun e=>?_)),⟨_,QP W g j _ _ x hc⟩,h.bel.setCell (by exact h.le) x,h.le⟩;obtain⟨c,fz,hc2⟩:=h.own.kind i hi;have e':i=g:=e;rw[e',hc] at hc2;cases hc2
def xf.drew (h:xf w0 B g v l W):xf w0 B g v l W.drew:=by
 obtain⟨cs,hc⟩:=h.blk;exact⟨h.own.otherBlock (fun _ _=>rfl),⟨cs,hc⟩,h.bel.drew,h.le⟩
end
set_option maxRecDepth 20000
open Go.IntKind renaming i64->J
section
variable {w V:Wd} {g off cap E n:Nat} {l l1 l2:List Nat}
def eu (v c:Nat):Nat:=2*v+(if c=49 then 1 else 0)
def cJ (l:List Nat):Nat:=l.foldl eu 0
def dE (l:List Nat) (c:Nat):cJ (l++[c])=eu (cJ l) c:=by unfold cJ;rw[List.foldl_append];rfl
def nE (l:List Nat):cJ l<2 ^ l.length:=by
 induction l using M.jf with
 | h0=>decide
 | h1 l a ih=>
  rw[dE,qe,qm,qH];unfold eu;split <;> omega
def m6 (s:ByteArray) (w:Wd) (hs:s.size<=40) :
  Calls Tp 73 #[.string s] w fun e w'=>e = rT (I J (cJ (lt s):Nat))/\w=w':=by
 have hs':s.size<=maxLen:=by unfold maxLen;omega
 go_enter func73,ntmps73;go_wp2;go_loopw [3,4] (fun v i wr=>∃ k:Nat,k<=s.size/\i = I J k/\v = I J (cJ ((lt s).take k):Nat)/\wr=w) (fun _ i _=>s.size-(intOf i).toNat);case atStart=>exact⟨0,nZ _,rfl,rfl,rfl⟩
 case round=>
  obtain⟨k,hk,rfl,rfl,rfl⟩:=hrel;by_cases hlt:k<s.size
  .have hb:cJ ((lt s).take k)<1099511627776:=by
    have h1:=nE ((lt s).take k);rw[qj,ba] at h1;exact nL h1 (nT (qt (by decide) (show min k s.size<=40 by omega)) (by decide))
   have HS:Hid (cJ ((lt s).take (k+1))=eu (cJ ((lt s).take k)) s[k].toNat):=by rw[ox s k hlt,dE];exact rfl
   generalize cJ ((lt s).take k)=v at *;by_cases hc:s[k].toNat=49
   .have HS':Hid (cJ ((lt s).take (k+1))=2*v+1):=by rw[HS.o];unfold eu;rw[qc hc];exact rfl
    have hc':((s[k].toNat:Int) == 49)=true:=by simp;omega
    clear HS hc;go_wp2;go_roundw;case rel=>exact⟨k+1,om,by go_num,by rw[HS'.o];go_num,trivial⟩
    case measure=>simp[intOf];omega
   .have HS':Hid (cJ ((lt s).take (k+1))=2*v):=by rw[HS.o];unfold eu;rw[qa hc];exact rfl
    have hc':((s[k].toNat:Int) == 49)=false:=by simp;omega
    clear HS hc;go_wp2;go_roundw;case rel=>exact⟨k+1,om,by go_num,by rw[HS'.o];go_num,trivial⟩
    case measure=>simp[intOf];omega
  .have hke:(lt s).take k=lt s:=qf (by rw[ba];omega);rw[hke];generalize hv:cJ (lt s)=v at *;have HV:Hid (cJ (lt s)=v):=hv;clear hv hke;go_wp2;go_ret;exact⟨by rw[HV.o];rfl,rfl⟩
def aY (l:List Nat):Nat:=if l.getD 13 0=49 then 39 else 19
def kl (l:List Nat):Bool:=if l.getD 13 0=49 then decide (l.getD 32 0=49) else decide (l.getD 12 0=49)
def kP (l:List Nat):Nat:=if kl l=true then 0 else min (cJ ((l.drop (aY l-4)).take 4)) 8
def aR (l:List Nat):Nat × Nat:=
 if l.length<14 then (0,0) else if l.length<aY l then (aY l,0) else (aY l,aY l+8*kP l)
def iB.sub (h:iB w (sQ ⟨g,off,nn⟩) n cap l) (i m c:Nat) (him:i+m<=l.length) (hm:0<m) (hc:m<=c):iB w (sQ ⟨g,off+i,nn⟩) m c ((l.drop i).take m):=by
 have hl:((l.drop i).take m).length=m:=by rw[qj,Qg];omega
 refine⟨hl.symm,hc,fun x hx=>h.small x (List.mem_of_mem_drop (qK hx)),fun _=>⟨g,off+i,rfl,fun j hj=>?_⟩⟩;rw[hl] at hj;obtain⟨g',off',e,hcc⟩:=h.cells (by intro e;rw[e] at him;simp at him;omega);cases e;rw[List.getElem_take,List.getElem_drop,Nat.add_assoc];exact hcc (i+j) om
def iB.at (h:iB w (sQ ⟨g,off,nn⟩) n cap l) (i:Nat) (hi:i<l.length):w.cell? ⟨g,off+i,nn⟩=sQ (I .u8 (l.getD i 0:Nat)):=by
 obtain⟨g',off',e,hcc⟩:=h.cells (by intro e;rw[e] at hi;simp at hi);cases e;have e:l.getD i 0=l[i]:=by simp[hi]
 rw[e];exact hcc i hi
def uo (l:List Nat):cJ (l.take 4)<16:=by
 have h1:=nE (l.take 4);have h2:(l.take 4).length<=4:=by rw[qj];omega
 exact nL h1 (nT (qt (by decide) h2) (by decide))
def zg (w:Wd) {l:List Nat} (h:∀ x ∈ l,x<256) (i:Nat):Calls Tp 73 #[.string (ae ((l.drop i).take 4))] w fun e w'=>e = rT (I J (cJ ((l.drop i).take 4):Nat))/\w=w':=by
 have hs:∀ x ∈ (l.drop i).take 4,x<256:=fun x hx=>h x (List.mem_of_mem_drop (qK hx));have hz:(ae ((l.drop i).take 4)).size<=40:=by
  have e:(ae ((l.drop i).take 4)).size=((l.drop i).take 4).length:=by simp[ae,ByteArray.size]
  rw[e,qj];omega
 have:=m6 (ae ((l.drop i).take 4)) w hz;rw[GH _ hs] at this;exact this
def zi (w:Wd) (g off n cap:Nat) (l:List Nat) (h:iB w (sQ ⟨g,off,nn⟩) n cap l) (hn:l.length<=100000) (h14:¬ l.length<14) (h13:aY l=19) :
  Calls Tp 72 #[sL (sQ ⟨g,off,nn⟩) n cap] w fun e w'=>e = rT (.tuple #[I J ((aR l).1:Nat),I J ((aR l).2:Nat)])/\w=w':=by
 have hlen:=h.len;have hcap:=h.cap;subst hlen;have c13:=h.at 13 om;have c12:=h.at 12 om;have e13:((l.getD 13 0:Int) == 49)=false:=by
  unfold aY at h13;split at h13 <;> simp_all <;> omega
 have h14':¬ (l.length:Int)<14:=om;by_cases hh:l.length<19
 .have hh':(l.length:Int)<19:=om;have HL:Hid (aR l=(19,0)):=by unfold Hid aR;rw[qa h14,h13,qc hh]
  clear h h13 hh h14 c12 hn;generalize l.getD 13 0=x13 at *;generalize l.length=n at *;go_enter func72,ntmps72;go_wp2;go_ret2
  exact⟨by rw[HL.o];rfl,rfl⟩
 .have hh':¬ (l.length:Int)<19:=om;have c32:=h.at 12 om;have hcv:=ka (h.sub 15 4 (cap-15) om (by decide) om);have HV:Hid (∀ w,Calls Tp 73 #[.string (ae ((l.drop 15).take 4))] w fun e w'=>e = rT (I J (cJ ((l.drop 15).take 4):Nat))/\w=w'):=fun w=>zg w h.small 15;have hv16:=uo (l.drop 15);have HL:Hid (aR l=(19,19+8*(if l.getD 12 0=49 then 0 else min (cJ ((l.drop 15).take 4)) 8))):=by
   unfold Hid aR kP kl;rw[qa h14,h13,qa hh];unfold aY at h13;split at h13 <;> simp_all
  clear h h13 hh h14 hn;generalize l.drop 15=l4 at *;generalize l.getD 13 0=x13 at *;generalize ae (l4.take 4)=t4 at *;generalize cJ (l4.take 4)=v4 at *;generalize l.getD 12 0=xr at *;by_cases hr:xr=49
  .have hr':((xr:Int) == 49)=true:=by simp;omega
   have HL':Hid (aR l=(19,19)):=by unfold Hid;rw[HL.o,qc hr]
   clear HL hr;generalize l.length=n at *;by_cases h8:(v4:Int) > 8
   .go_enter func72,ntmps72;go_wp2_with (go_at_call 73;refine (HV.o _).mono ?_;rintro e w1 ⟨rfl,rfl⟩);go_ret2
    exact⟨by rw[HL'.o];rfl,rfl⟩
   .go_enter func72,ntmps72;go_wp2_with (go_at_call 73;refine (HV.o _).mono ?_;rintro e w1 ⟨rfl,rfl⟩);go_ret2
    exact⟨by rw[HL'.o];rfl,rfl⟩
  .have hr':((xr:Int) == 49)=false:=by simp;omega
   by_cases h8:(v4:Int) > 8
   .have HL':Hid (aR l=(19,19+64)):=by unfold Hid;rw[HL.o,qa hr,Nat.min_eq_right om]
    clear HL hr;generalize l.length=n at *;go_enter func72,ntmps72;go_wp2_with (go_at_call 73;refine (HV.o _).mono ?_;rintro e w1 ⟨rfl,rfl⟩);go_ret2
    exact⟨by rw[HL'.o];rfl,rfl⟩
   .have HL':Hid (aR l=(19,19+8*v4)):=by unfold Hid;rw[HL.o,qa hr,Nat.min_eq_left om]
    clear HL hr;generalize l.length=n at *;go_enter func72,ntmps72;go_wp2_with (go_at_call 73;refine (HV.o _).mono ?_;rintro e w1 ⟨rfl,rfl⟩);go_ret2
    exact⟨by rw[HL'.o];simp,rfl⟩
def zh (w:Wd) (g off n cap:Nat) (l:List Nat) (h:iB w (sQ ⟨g,off,nn⟩) n cap l) (hn:l.length<=100000) (h14:¬ l.length<14) (h13:aY l=39) :
  Calls Tp 72 #[sL (sQ ⟨g,off,nn⟩) n cap] w fun e w'=>e = rT (.tuple #[I J ((aR l).1:Nat),I J ((aR l).2:Nat)])/\w=w':=by
 have hlen:=h.len;have hcap:=h.cap;subst hlen;have c13:=h.at 13 om;have c12:=h.at 12 om;have e13:((l.getD 13 0:Int) == 49)=true:=by
  unfold aY at h13;split at h13 <;> simp_all <;> omega
 have h14':¬ (l.length:Int)<14:=om;by_cases hh:l.length<39
 .have hh':(l.length:Int)<39:=om;have HL:Hid (aR l=(39,0)):=by unfold Hid aR;rw[qa h14,h13,qc hh]
  clear h h13 hh h14 c12 hn;generalize l.getD 13 0=x13 at *;generalize l.length=n at *;go_enter func72,ntmps72;go_wp2;go_ret2
  exact⟨by rw[HL.o];rfl,rfl⟩
 .have hh':¬ (l.length:Int)<39:=om;have c32:=h.at 32 om;have hcv:=ka (h.sub 35 4 (cap-35) om (by decide) om);have HV:Hid (∀ w,Calls Tp 73 #[.string (ae ((l.drop 35).take 4))] w fun e w'=>e = rT (I J (cJ ((l.drop 35).take 4):Nat))/\w=w'):=fun w=>zg w h.small 35;have hv16:=uo (l.drop 35);have HL:Hid (aR l=(39,39+8*(if l.getD 32 0=49 then 0 else min (cJ ((l.drop 35).take 4)) 8))):=by
   unfold Hid aR kP kl;rw[qa h14,h13,qa hh];unfold aY at h13;split at h13 <;> simp_all
  clear h h13 hh h14 hn;generalize l.drop 35=l4 at *;generalize l.getD 13 0=x13 at *;generalize ae (l4.take 4)=t4 at *;generalize cJ (l4.take 4)=v4 at *;generalize l.getD 32 0=xr at *;generalize l.getD 12 0=x12 at *;by_cases hr:xr=49
  .have hr':((xr:Int) == 49)=true:=by simp;omega
   have HL':Hid (aR l=(39,39)):=by unfold Hid;rw[HL.o,qc hr]
   clear HL hr;generalize l.length=n at *;by_cases h8:(v4:Int) > 8
   .go_enter func72,ntmps72;go_wp2_with (go_at_call 73;refine (HV.o _).mono ?_;rintro e w1 ⟨rfl,rfl⟩);go_ret2
    exact⟨by rw[HL'.o];rfl,rfl⟩
   .go_enter func72,ntmps72;go_wp2_with (go_at_call 73;refine (HV.o _).mono ?_;rintro e w1 ⟨rfl,rfl⟩);go_ret2
    exact⟨by rw[HL'.o];rfl,rfl⟩
  .have hr':((xr:Int) == 49)=false:=by simp;omega
   by_cases h8:(v4:Int) > 8
   .have HL':Hid (aR l=(39,39+64)):=by unfold Hid;rw[HL.o,qa hr,Nat.min_eq_right om]
    clear HL hr;generalize l.length=n at *;go_enter func72,ntmps72;go_wp2_with (go_at_call 73;refine (HV.o _).mono ?_;rintro e w1 ⟨rfl,rfl⟩);go_ret2
    exact⟨by rw[HL'.o];rfl,rfl⟩
   .have HL':Hid (aR l=(39,39+8*v4)):=by unfold Hid;rw[HL.o,qa hr,Nat.min_eq_left om]
    clear HL hr;generalize l.length=n at *;go_enter func72,ntmps72;go_wp2_with (go_at_call 73;refine (HV.o _).mono ?_;rintro e w1 ⟨rfl,rfl⟩);go_ret2
    exact⟨by rw[HL'.o];simp,rfl⟩
def iy (w:Wd) (a:Option Addr) (n cap:Nat) (l:List Nat) (h:iB w a n cap l) (hn:l.length<=100000) :
  Calls Tp 72 #[sL a n cap] w fun e w'=>e = rT (.tuple #[I J ((aR l).1:Nat),I J ((aR l).2:Nat)])/\w=w':=by
 by_cases h14:l.length<14
 .have hlen:=h.len;subst hlen;have h14':(l.length:Int)<14:=om;have HL:Hid (aR l=(0,0)):=by unfold Hid aR;rw[qc h14]
  clear h hn h14;generalize l.length=n at *;go_enter func72,ntmps72;go_wp2;go_ret2
  exact⟨by rw[HL.o];rfl,rfl⟩
 .obtain⟨g,off,rfl,-⟩:=h.cells (by intro e;rw[e] at h14;simp at h14);by_cases h13:l.getD 13 0=49
  .exact zh w g off n cap l h hn h14 (by unfold aY;rw[qc h13])
  .exact zi w g off n cap l h hn h14 (by unfold aY;rw[qa h13])
def ar (l:List Nat):Nat:=
 if l.length=0 then 1 else if l.length<12 then 2 else if l.length=12 then 3 else if l.length=13 then 4
 else if l.length<(aR l).1 then
  (if (aR l).1<=l.length+4 then 8 else if (aR l).1=19 then 7 else if l.length<32 then 5 else if l.length=32 then 6 else 7)
 else if l.length<(aR l).2 then 9 else if l.length<(aR l).2+15 then 10 else if l.length<(aR l).2+18 then l.length-(aR l).2-4
 else if l.length<(aR l).2+25 then 14 else 15
def jk (l:List Nat):(aR l).1<=39/\(aR l).2<=103:=by
 have:aY l<=39:=by unfold aY;split <;> omega
 have h2:kP l<=8:=by unfold kP;split <;> omega
 unfold aR;split
 .exact⟨pQ,pQ⟩
 .split
  .exact⟨this,pQ⟩
  .exact⟨this,by show _+_<=_;omega⟩
def AR {a b:Int} (h:a=b):Ending.returned (I J a) = rT (I J b):=by rw[h]
def cC (w:Wd) (a:Option Addr) (n cap:Nat) (l:List Nat) (h:iB w a n cap l) (hn:l.length<=100000) :
  Calls Tp 33 #[sL a n cap] w fun e w'=>e = rT (I J (ar l:Nat))/\w=w':=by
 have HC:Hid (Calls Tp 72 #[sL a n cap] w fun e w'=>e = rT (.tuple #[I J ((aR l).1:Nat),I J ((aR l).2:Nat)])/\w=w'):=iy w a n cap l h hn;have hlen:=h.len;subst hlen;obtain⟨hh1,hh2⟩:=jk l;have HF:Hid (ar l=_):=(show ar l=_ from by unfold ar;rfl)
 clear h;generalize (aR l).1=H at *;generalize (aR l).2=E at *;generalize ar l=F at *;generalize l.length=n at *;by_cases p0:n=0;case' pos=>
  have ip0:((n:Int) == 0)=true:=by first | omega | (simp;omega)
  have HF':Hid (F=1):=by unfold Hid;rw[HF.o,qc p0]
  clear HF p0
 case' neg=>
  have ip0:((n:Int) == 0)=false:=by first | omega | (simp;omega)
  by_cases p1:n<12
  case' pos=>
   have ip1:(n:Int)<12:=by first | omega | (simp;omega)
   have HF':Hid (F=2):=by unfold Hid;rw[HF.o,qa p0,qc p1]
   clear HF p0 p1
  case' neg=>
   have ip1:¬ (n:Int)<12:=by first | omega | (simp;omega)
   by_cases p2:n=12
   case' pos=>
    have ip2:((n:Int) == 12)=true:=by first | omega | (simp;omega)
    have HF':Hid (F=3):=by unfold Hid;rw[HF.o,qa p0,qa p1,qc p2]
    clear HF p0 p1 p2
   case' neg=>
    have ip2:((n:Int) == 12)=false:=by first | omega | (simp;omega)
    by_cases p3:n=13
    case' pos=>
     have ip3:((n:Int) == 13)=true:=by first | omega | (simp;omega)
     have HF':Hid (F=4):=by unfold Hid;rw[HF.o,qa p0,qa p1,qa p2,qc p3]
     clear HF p0 p1 p2 p3
    case' neg=>
     have ip3:((n:Int) == 13)=false:=by first | omega | (simp;omega)
     refine (Decidable.em (n<H)).elim (fun p4=>?x1) (fun p4=>?y1);case' x1=>
      have ip4:(n:Int)<(H:Int):=by first | omega | (simp;omega)
      by_cases p5:H<=n+4
      case' pos=>
       have ip5:(n:Int) >= (H:Int)-4:=by first | omega | (simp;omega)
       have HF':Hid (F=8):=by unfold Hid;rw[HF.o,qa p0,qa p1,qa p2,qa p3,qc p4,qc p5]
       clear HF p0 p1 p2 p3 p4 p5
      case' neg=>
       have ip5:¬ (n:Int) >= (H:Int)-4:=by first | omega | (simp;omega)
       by_cases p6:H=19
       case' pos=>
        have ip6:((H:Int) == 19)=true:=by first | omega | (simp;omega)
        have HF':Hid (F=7):=by unfold Hid;rw[HF.o,qa p0,qa p1,qa p2,qa p3,qc p4,qa p5,qc p6]
        clear HF p0 p1 p2 p3 p4 p5 p6
       case' neg=>
        have ip6:((H:Int) == 19)=false:=by first | omega | (simp;omega)
        by_cases p7:n<32
        case' pos=>
         have ip7:(n:Int)<32:=by first | omega | (simp;omega)
         have HF':Hid (F=5):=by unfold Hid;rw[HF.o,qa p0,qa p1,qa p2,qa p3,qc p4,qa p5,qa p6,qc p7]
         clear HF p0 p1 p2 p3 p4 p5 p6 p7
        case' neg=>
         have ip7:¬ (n:Int)<32:=by first | omega | (simp;omega)
         by_cases p8:n=32
         case' pos=>
          have ip8:((n:Int) == 32)=true:=by first | omega | (simp;omega)
          have HF':Hid (F=6):=by unfold Hid;rw[HF.o,qa p0,qa p1,qa p2,qa p3,qc p4,qa p5,qa p6,qa p7,qc p8]
          clear HF p0 p1 p2 p3 p4 p5 p6 p7 p8
         case' neg=>
          have ip8:((n:Int) == 32)=false:=by first | omega | (simp;omega)
          have HF':Hid (F=7):=by unfold Hid;rw[HF.o,qa p0,qa p1,qa p2,qa p3,qc p4,qa p5,qa p6,qa p7,qa p8]
          clear HF p0 p1 p2 p3 p4 p5 p6 p7 p8
     case' y1=>
      have ip4:¬ (n:Int)<(H:Int):=by first | omega | (simp;omega)
      by_cases p9:n<E
      case' pos=>
       have ip9:(n:Int)<(E:Int):=by first | omega | (simp;omega)
       have HF':Hid (F=9):=by unfold Hid;rw[HF.o,qa p0,qa p1,qa p2,qa p3,qa p4,qc p9]
       clear HF p0 p1 p2 p3 p4 p9
      case' neg=>
       have ip9:¬ (n:Int)<(E:Int):=by first | omega | (simp;omega)
       by_cases p10:n<E+15
       case' pos=>
        have ip10:(n:Int)<(E:Int)+15:=by first | omega | (simp;omega)
        have HF':Hid (F=10):=by unfold Hid;rw[HF.o,qa p0,qa p1,qa p2,qa p3,qa p4,qa p9,qc p10]
        clear HF p0 p1 p2 p3 p4 p9 p10
       case' neg=>
        have ip10:¬ (n:Int)<(E:Int)+15:=by first | omega | (simp;omega)
        by_cases p11:n<E+18
        case' pos=>
         have ip11:(n:Int)<(E:Int)+18:=by first | omega | (simp;omega)
         have HF':Hid (F=n-E-4):=by unfold Hid;rw[HF.o,qa p0,qa p1,qa p2,qa p3,qa p4,qa p9,qa p10,qc p11]
         clear HF p0 p1 p2 p3 p4 p9 p10 p11;go_enter func33,ntmps33;go_wp2_with (go_at_call 72;refine HC.o.mono ?_;rintro e w1 ⟨rfl,rfl⟩);go_ret;exact⟨by rw[HF'.o];exact AR om,rfl⟩
        case' neg=>
         have ip11:¬ (n:Int)<(E:Int)+18:=by first | omega | (simp;omega)
         by_cases p12:n<E+25
         case' pos=>
          have ip12:(n:Int)<(E:Int)+25:=by first | omega | (simp;omega)
          have HF':Hid (F=14):=by unfold Hid;rw[HF.o,qa p0,qa p1,qa p2,qa p3,qa p4,qa p9,qa p10,qa p11,qc p12]
          clear HF p0 p1 p2 p3 p4 p9 p10 p11 p12
         case' neg=>
          have ip12:¬ (n:Int)<(E:Int)+25:=by first | omega | (simp;omega)
          have HF':Hid (F=15):=by unfold Hid;rw[HF.o,qa p0,qa p1,qa p2,qa p3,qa p4,qa p9,qa p10,qa p11,qa p12]
          clear HF p0 p1 p2 p3 p4 p9 p10 p11 p12
 all_goals
  go_enter func33,ntmps33;go_wp2_with (go_at_call 72;refine HC.o.mono ?_;rintro e w1 ⟨rfl,rfl⟩);go_ret;exact⟨by rw[HF'.o];rfl,rfl⟩
def gn (l:List Nat):Bool:=decide (¬ ((aR l).2=0\/l.length<(aR l).2+15)) && decide (Gz (ae (l.take (aR l).2))=(cJ ((l.drop (aR l).2).take 15):Nat))
def MR {V':Wd} {t1 t2:ByteArray} (e1:ae l1=t1) (e2:ae l2=t2) (h:(convert 65 9 (sL (sQ ⟨g,off,nn⟩) E cap)).run Tp V = .ok (.string t1) V/\(convert 65 9 (sL (sQ ⟨g,off+E,nn⟩) 15 (cap-E))).run Tp V = .ok (.string t2) V/\iB V (sQ ⟨g,off,nn⟩) E cap l1/\iB V (sQ ⟨g,off+E,nn⟩) 15 (cap-E) l2/\Bl w V) (hb:Bl V V') (hz:w.heap.size<=V.heap.size):(convert 65 9 (sL (sQ ⟨g,off,nn⟩) E cap)).run Tp V' = .ok (.string t1) V'/\(convert 65 9 (sL (sQ ⟨g,off+E,nn⟩) 15 (cap-E))).run Tp V' = .ok (.string t2) V'/\iB V' (sQ ⟨g,off,nn⟩) E cap l1/\iB V' (sQ ⟨g,off+E,nn⟩) 15 (cap-E) l2/\Bl w V':=by
 obtain⟨-,-,b1,b2,b3⟩:=h;have b1':=b1.below hb;have b2':=b2.below hb;subst e1 e2;exact⟨ka b1',ka b2',b1',b2',b3.trans (hb.mono hz)⟩
def Fo {t1 t2:ByteArray} (h:(convert 65 9 (sL (sQ ⟨g,off,nn⟩) E cap)).run Tp V = .ok (.string t1) V/\(convert 65 9 (sL (sQ ⟨g,off+E,nn⟩) 15 (cap-E))).run Tp V = .ok (.string t2) V/\iB V (sQ ⟨g,off,nn⟩) E cap l1/\iB V (sQ ⟨g,off+E,nn⟩) 15 (cap-E) l2/\Bl w V):Bl w V:=h.2.2.2.2
def Fp {t1 t2:ByteArray} (e1:ae l1=t1) (e2:ae l2=t2) (b1:iB w (sQ ⟨g,off,nn⟩) E cap l1) (b2:iB w (sQ ⟨g,off+E,nn⟩) 15 (cap-E) l2):(convert 65 9 (sL (sQ ⟨g,off,nn⟩) E cap)).run Tp w.drew = .ok (.string t1) w.drew/\(convert 65 9 (sL (sQ ⟨g,off+E,nn⟩) 15 (cap-E))).run Tp w.drew = .ok (.string t2) w.drew/\iB w.drew (sQ ⟨g,off,nn⟩) E cap l1/\iB w.drew (sQ ⟨g,off+E,nn⟩) 15 (cap-E) l2/\Bl w w.drew:=by
 have b1':iB w.drew (sQ ⟨g,off,nn⟩) E cap l1:=b1.below (bW _ _).drew;have b2':iB w.drew (sQ ⟨g,off+E,nn⟩) 15 (cap-E) l2:=b2.below (bW _ _).drew;subst e1 e2;exact⟨ka b1',ka b2',b1',b2',(bW _ _).drew⟩
def CZ (E:Nat) (h:E<=103):IntKind.i64.wrap ((E:Int)+15)=(E:Int)+15:=by
 simp[IntKind.wrap,IntKind.bits,IntKind.signed];omega
def Bo (w:Wd) {l:List Nat} (h:∀ x ∈ l,x<256) (hl:l.length<=15):Calls Tp 73 #[.string (ae l)] w fun e w'=>e = rT (I J (cJ l:Nat))/\w=w':=by
 have hz:(ae l).size<=40:=by rw[aN];omega
 have:=m6 (ae l) w hz;rw[GH _ h] at this;exact this
def ia (w:Wd) (a:Option Addr) (n cap:Nat) (l:List Nat) (h:iB w a n cap l) (hn:l.length<=100000) :
  Calls Tp 34 #[sL a n cap] w fun e w'=>e = rT (bO (gn l))/\Bl w w':=by
 have HC:Hid (Calls Tp 72 #[sL a n cap] w fun e w'=>e = rT (.tuple #[I J ((aR l).1:Nat),I J ((aR l).2:Nat)])/\w=w'):=iy w a n cap l h hn;have hlen:=h.len;have hcap:=h.cap;subst hlen;obtain⟨hh1,hh2⟩:=jk l;by_cases h0:(aR l).2=0
 .have HF:Hid (gn l=false):=by unfold Hid gn;rw[qo (by simp[h0])];rfl
  have h0':(((aR l).2:Int) == 0)=true:=by simp;omega
  clear h h0;generalize (aR l).1=H at *;generalize (aR l).2=E at *;generalize l.length=n at *;go_enter func34,ntmps34;go_wp2_with (go_at_call 72;refine HC.o.mono ?_;rintro e w1 ⟨rfl,rfl⟩);go_ret;exact⟨aj HF.o.symm,bW _ _⟩
 .have h0':(((aR l).2:Int) == 0)=false:=by simp;omega
  by_cases h15:l.length<(aR l).2+15
  .have HF:Hid (gn l=false):=by unfold Hid gn;rw[qo (by simp[h15])];rfl
   have h15':(l.length:Int)<((aR l).2:Int)+15:=om;clear h h0 h15;generalize (aR l).1=H at *;generalize (aR l).2=E at *;generalize l.length=n at *;go_enter func34,ntmps34;go_wp2_with (go_at_call 72;refine HC.o.mono ?_;rintro e w1 ⟨rfl,rfl⟩);go_ret;exact⟨aj HF.o.symm,bW _ _⟩
  .have h15':¬ (l.length:Int)<((aR l).2:Int)+15:=om;obtain⟨g,off,rfl,-⟩:=h.cells (by intro e;rw[e] at h15;simp at h15);have b1:iB w (sQ ⟨g,off,nn⟩) (aR l).2 cap (l.take (aR l).2):=by
    have:=h.sub 0 (aR l).2 cap om om om;rwa [List.drop_zero,Nat.add_zero] at this
   have b2:=h.sub (aR l).2 15 (cap-(aR l).2) om (by decide) om;have HF:Hid (gn l=decide (Gz (ae (l.take (aR l).2))=(cJ ((l.drop (aR l).2).take 15):Nat))):=by unfold Hid gn;rw[qD (p:=¬ _) om];simp
   have HV:Hid (∀ w,Calls Tp 73 #[.string (ae ((l.drop (aR l).2).take 15))] w fun e w'=>e = rT (I J (cJ ((l.drop (aR l).2).take 15):Nat))/\w=w'):=fun w=>Bo w b2.small (by rw[qj];omega);have hz1:(ae (l.take (aR l).2)).size<=maxLen:=by rw[aN,qj];unfold maxLen;omega
   have HK:Hid (∀ w,Calls Tp 54 #[.string (ae (l.take (aR l).2))] w fun e w'=>e = rT (I J (Gz (ae (l.take (aR l).2))))/\Bl w w'):=fun w=>jX _ w hz1;clear h h0 h15 hz1;generalize (aR l).1=H at *;generalize (aR l).2=E at *;generalize l.take E=l1 at *;generalize (l.drop E).take 15=l2 at *;generalize e1:ae l1=t1 at *;generalize e2:ae l2=t2 at *;generalize l.length=n at *;generalize cJ l2=v2 at *;generalize Gz t1=z1 at *;have hS0:=Fp e1 e2 b1 b2;have k1:(0:Int)<=(E:Int):=om;have k2:(E:Int)<=(cap:Int):=om;have k3:(E:Int)+15<=(cap:Int):=om;have k4:(E:Int)<=(E:Int)+15:=om;have k5:(0:Int)<=(E:Int)+15:=om;have k6:¬ cap=E:=om;have k10:¬ cap-E=0:=om;have k11:IntKind.i64.wrap ((E:Int)+15)=(E:Int)+15:=CZ E hh2;have k7:((E:Int)+15-(E:Int)).toNat=15:=om;have k8:((E:Int)+15).toNat=E+15:=om;have k9:E+15-E=15:=om;have E12:Hid (ae l1=t1/\ae l2=t2):=⟨e1,e2⟩
   clear e1 e2;go_enter func34,ntmps34;go_wp2_with (go_at_call 72;refine HC.o.mono ?_;rintro e w1 ⟨rfl,rfl⟩);go_region_held3 (fun V=>(convert 65 9 (sL (sQ ⟨g,off,nn⟩) E cap)).run Tp V = .ok (.string t1) V/\(convert 65 9 (sL (sQ ⟨g,off+E,nn⟩) 15 (cap-E))).run Tp V = .ok (.string t2) V/\iB V (sQ ⟨g,off,nn⟩) E cap l1/\iB V (sQ ⟨g,off+E,nn⟩) 15 (cap-E) l2/\Bl w V) (first | exact hS0 | assumption | exact MR E12.o.1 E12.o.2 (by assumption) (by assumption) (Fo (by assumption)).size) (first | (go_at_call 54;refine (HK.o _).mono ?_;rintro o w2 ⟨rfl,hb2⟩) | (go_at_call 73;refine (HV.o _).mono ?_;rintro o w3 ⟨rfl,rfl⟩))
   all_goals
    go_wp2;go_ret;exact⟨aj (by rw[HF.o,qk];simp),(bW _ _).drew.trans (hb2.mono pQ)⟩
def cF (l:List Nat) (c:Nat):Nat:=
 if ar l=1 then (if c=49 then 4 else 0) else if ar l=11 then (if c=48 then 4 else 0)
 else if ar l=13 then (if c=48 then 4 else if gn l=false then 5 else 0)
 else if ar l=14 then (if l.length<(aR l).2+24 then (if c=48 then 4 else if l.length=(aR l).2+23 then 1 else 0)
  else if l.length=(aR l).2+24 then (if c=48 then 6 else 2) else 0)
 else 0
def wH (w:Wd) (a:Option Addr) (n cap:Nat) (l:List Nat) (h:iB w a n cap l) (hn:l.length<=100000) :
  Calls Tp 70 #[sL a n cap,I .u8 48] w fun e w'=>e = rT (I J (cF l 48:Nat))/\Bl w w':=by
 have H81:Hid (Calls Tp 72 #[sL a n cap] w fun e w'=>e = rT (.tuple #[I J ((aR l).1:Nat),I J ((aR l).2:Nat)])/\w=w'):=iy w a n cap l h hn;have H68:Hid (Calls Tp 33 #[sL a n cap] w fun e w'=>e = rT (I J (ar l:Nat))/\w=w'):=cC w a n cap l h hn;have H69:Hid (Calls Tp 34 #[sL a n cap] w fun e w'=>e = rT (bO (gn l))/\Bl w w'):=ia w a n cap l h hn;have hlen:=h.len;subst hlen;obtain⟨hh1,hh2⟩:=jk l;have HF:Hid (cF l 48=_):=(show cF l 48=_ from by unfold cF;rfl)
 clear h;generalize (aR l).1=H at *;generalize (aR l).2=E at *;generalize cF l 48=L at *;generalize ar l=F at *;generalize gn l=ck at *;generalize l.length=n at *;by_cases p1:F=1;case' pos=>
  have ip1:((F:Int) == 1)=true:=by first | omega | (simp;omega) | simpa using p1
  have q49:¬ (48:Nat)=49:=by decide
  have HF':Hid (L=0):=by unfold Hid;rw[HF.o,qc p1,qa q49]
  clear HF p1
 case' neg=>
  have ip1:((F:Int) == 1)=false:=by first | omega | (simp;omega) | simpa using p1
  by_cases p11:F=11
  case' pos=>
   have ip11:((F:Int) == 11)=true:=by first | omega | (simp;omega) | simpa using p11
   have q48:(48:Nat)=48:=by decide
   have HF':Hid (L=4):=by unfold Hid;rw[HF.o,qa p1,qc p11,qc q48]
   clear HF p1 p11
  case' neg=>
   have ip11:((F:Int) == 11)=false:=by first | omega | (simp;omega) | simpa using p11
   by_cases p13:F=13
   case' pos=>
    have ip13:((F:Int) == 13)=true:=by first | omega | (simp;omega) | simpa using p13
    have q48:(48:Nat)=48:=by decide
    have HF':Hid (L=4):=by unfold Hid;rw[HF.o,qa p1,qa p11,qc p13,qc q48]
    clear HF p1 p11 p13
   case' neg=>
    have ip13:((F:Int) == 13)=false:=by first | omega | (simp;omega) | simpa using p13
    refine (Decidable.em (F=14)).elim (fun p14=>?x1) (fun p14=>?y1);case' x1=>
     have ip14:((F:Int) == 14)=true:=by first | omega | (simp;omega) | simpa using p14
     by_cases pk6:n<E+24
     case' pos=>
      have ipk6:(n:Int)-(E:Int)-18<6:=by first | omega | (simp;omega) | simpa using pk6
      have q48:(48:Nat)=48:=by decide
      have HF':Hid (L=4):=by unfold Hid;rw[HF.o,qa p1,qa p11,qa p13,qc p14,qc pk6,qc q48]
      clear HF p1 p11 p13 p14 pk6
     case' neg=>
      have ipk6:¬ (n:Int)-(E:Int)-18<6:=by first | omega | (simp;omega) | simpa using pk6
      by_cases pk7:n=E+24
      case' pos=>
       have ipk7:(((n:Int)-(E:Int)-18) == 6)=true:=by first | omega | (simp;omega) | simpa using pk7
       have q48:(48:Nat)=48:=by decide
       have HF':Hid (L=6):=by unfold Hid;rw[HF.o,qa p1,qa p11,qa p13,qc p14,qa pk6,qc pk7,qc q48]
       clear HF p1 p11 p13 p14 pk6 pk7
      case' neg=>
       have ipk7:(((n:Int)-(E:Int)-18) == 6)=false:=by first | omega | (simp;omega) | simpa using pk7
       have HF':Hid (L=0):=by unfold Hid;rw[HF.o,qa p1,qa p11,qa p13,qc p14,qa pk6,qa pk7]
       clear HF p1 p11 p13 p14 pk6 pk7
    case' y1=>
     have ip14:((F:Int) == 14)=false:=by first | omega | (simp;omega) | simpa using p14
     have HF':Hid (L=0):=by unfold Hid;rw[HF.o,qa p1,qa p11,qa p13,qa p14]
     clear HF p1 p11 p13 p14
 all_goals
  go_enter func70,ntmps70;go_wp2_with (first | (go_at_call 33;refine H68.o.mono ?_;rintro e w1 ⟨rfl,rfl⟩) | (go_at_call 34;refine H69.o.mono ?_;rintro e w2 ⟨rfl,hb2⟩) | (go_at_call 72;refine H81.o.mono ?_;rintro e w3 ⟨rfl,rfl⟩));go_ret;exact⟨by rw[HF'.o];rfl,by first | exact hb2 | exact bW _ _⟩
def wG (w:Wd) (a:Option Addr) (n cap:Nat) (l:List Nat) (h:iB w a n cap l) (hn:l.length<=100000) :
  Calls Tp 70 #[sL a n cap,I .u8 49] w fun e w'=>e = rT (I J (cF l 49:Nat))/\Bl w w':=by
 have H81:Hid (Calls Tp 72 #[sL a n cap] w fun e w'=>e = rT (.tuple #[I J ((aR l).1:Nat),I J ((aR l).2:Nat)])/\w=w'):=iy w a n cap l h hn;have H68:Hid (Calls Tp 33 #[sL a n cap] w fun e w'=>e = rT (I J (ar l:Nat))/\w=w'):=cC w a n cap l h hn;have H69:Hid (Calls Tp 34 #[sL a n cap] w fun e w'=>e = rT (bO (gn l))/\Bl w w'):=ia w a n cap l h hn;have hlen:=h.len;subst hlen;obtain⟨hh1,hh2⟩:=jk l;have HF:Hid (cF l 49=_):=(show cF l 49=_ from by unfold cF;rfl)
 clear h;generalize (aR l).1=H at *;generalize (aR l).2=E at *;generalize cF l 49=L at *;generalize ar l=F at *;generalize gn l=ck at *;generalize l.length=n at *;by_cases p1:F=1;case' pos=>
  have ip1:((F:Int) == 1)=true:=by first | omega | (simp;omega) | simpa using p1
  have q49:(49:Nat)=49:=by decide
  have HF':Hid (L=4):=by unfold Hid;rw[HF.o,qc p1,qc q49]
  clear HF p1
 case' neg=>
  have ip1:((F:Int) == 1)=false:=by first | omega | (simp;omega) | simpa using p1
  by_cases p11:F=11
  case' pos=>
   have ip11:((F:Int) == 11)=true:=by first | omega | (simp;omega) | simpa using p11
   have q48:¬ (49:Nat)=48:=by decide
   have HF':Hid (L=0):=by unfold Hid;rw[HF.o,qa p1,qc p11,qa q48]
   clear HF p1 p11
  case' neg=>
   have ip11:((F:Int) == 11)=false:=by first | omega | (simp;omega) | simpa using p11
   refine (Decidable.em (F=13)).elim (fun p13=>?x1) (fun p13=>?y1);case' x1=>
    have ip13:((F:Int) == 13)=true:=by first | omega | (simp;omega) | simpa using p13
    have q48:¬ (49:Nat)=48:=by decide
    by_cases pc:ck=false
    case' pos=>
     have ipc:ck=false:=by first | omega | (simp;omega) | simpa using pc
     have HF':Hid (L=5):=by unfold Hid;rw[HF.o,qa p1,qa p11,qc p13,qa q48,qc pc]
     clear HF p1 p11 p13 pc
    case' neg=>
     have ipc:ck=true:=by first | omega | (simp;omega) | simpa using pc
     have HF':Hid (L=0):=by unfold Hid;rw[HF.o,qa p1,qa p11,qc p13,qa q48,qa pc]
     clear HF p1 p11 p13 pc
   case' y1=>
    have ip13:((F:Int) == 13)=false:=by first | omega | (simp;omega) | simpa using p13
    refine (Decidable.em (F=14)).elim (fun p14=>?x2) (fun p14=>?y2);case' x2=>
     have ip14:((F:Int) == 14)=true:=by first | omega | (simp;omega) | simpa using p14
     refine (Decidable.em (n<E+24)).elim (fun pk6=>?x3) (fun pk6=>?y3);case' x3=>
      have ipk6:(n:Int)-(E:Int)-18<6:=by first | omega | (simp;omega) | simpa using pk6
      have q48:¬ (49:Nat)=48:=by decide
      by_cases pk5:n=E+23
      case' pos=>
       have ipk5:(((n:Int)-(E:Int)-18) == 5)=true:=by first | omega | (simp;omega) | simpa using pk5
       have HF':Hid (L=1):=by unfold Hid;rw[HF.o,qa p1,qa p11,qa p13,qc p14,qc pk6,qa q48,qc pk5]
       clear HF p1 p11 p13 p14 pk6 pk5
      case' neg=>
       have ipk5:(((n:Int)-(E:Int)-18) == 5)=false:=by first | omega | (simp;omega) | simpa using pk5
       have HF':Hid (L=0):=by unfold Hid;rw[HF.o,qa p1,qa p11,qa p13,qc p14,qc pk6,qa q48,qa pk5]
       clear HF p1 p11 p13 p14 pk6 pk5
     case' y3=>
      have ipk6:¬ (n:Int)-(E:Int)-18<6:=by first | omega | (simp;omega) | simpa using pk6
      by_cases pk7:n=E+24
      case' pos=>
       have ipk7:(((n:Int)-(E:Int)-18) == 6)=true:=by first | omega | (simp;omega) | simpa using pk7
       have q48:¬ (49:Nat)=48:=by decide
       have HF':Hid (L=2):=by unfold Hid;rw[HF.o,qa p1,qa p11,qa p13,qc p14,qa pk6,qc pk7,qa q48]
       clear HF p1 p11 p13 p14 pk6 pk7
      case' neg=>
       have ipk7:(((n:Int)-(E:Int)-18) == 6)=false:=by first | omega | (simp;omega) | simpa using pk7
       have HF':Hid (L=0):=by unfold Hid;rw[HF.o,qa p1,qa p11,qa p13,qc p14,qa pk6,qa pk7]
       clear HF p1 p11 p13 p14 pk6 pk7
    case' y2=>
     have ip14:((F:Int) == 14)=false:=by first | omega | (simp;omega) | simpa using p14
     have HF':Hid (L=0):=by unfold Hid;rw[HF.o,qa p1,qa p11,qa p13,qa p14]
     clear HF p1 p11 p13 p14
 all_goals
  go_enter func70,ntmps70;go_wp2_with (first | (go_at_call 33;refine H68.o.mono ?_;rintro e w1 ⟨rfl,rfl⟩) | (go_at_call 34;refine H69.o.mono ?_;rintro e w2 ⟨rfl,hb2⟩) | (go_at_call 72;refine H81.o.mono ?_;rintro e w3 ⟨rfl,rfl⟩));go_ret;exact⟨by rw[HF'.o];rfl,by first | exact hb2 | exact bW _ _⟩
def lp (w:Wd) (a:Option Addr) (n cap:Nat) (l:List Nat) (c:Nat) (hc:M.isL c) (h:iB w a n cap l) (hn:l.length<=100000) :
  Calls Tp 70 #[sL a n cap,I .u8 (c:Int)] w fun e w'=>e = rT (I J (cF l c:Nat))/\Bl w w':=by
 rcases hc with rfl|rfl
 .exact wH w a n cap l h hn
 .exact wG w a n cap l h hn
def ny {ops:Array Oper} {rest:List Oper} {o:Oper} {a:Act} {Q:Exit->Act->Wd->Prop} (w0 wr:Wd) (hgd:o.guard=nn) (s x:Operand)
  (ho:o.op = .call { callee:=.builtin .append,args:=#[s,x],argTypes:=#[65,65] })
  (B:Nat) (v:Value) (l:List Nat) (c:Nat) (ci:Int) (hci:ci=(c:Int)) (hs:a.eval s=v) (hown:aa wr B v l)
  (hx:a.eval x = sL (sQ ⟨wr.heap.size,0,nn⟩) 1 1) (hlen:l.length<=100000000) (hB:B<=wr.heap.size) (hbel:Below B w0 wr)
  (h:∀ v' w',aa w' B v' (l++[c])->Below B w0 w'->(∀ g,g<wr.heap.size->v.ownBlock≠sQ g->w'.heap[g]?=wr.heap[g]?/\v'.ownBlock≠sQ g)->wr.heap.size<=w'.heap.size->wpList Tp ops Q rest (a.put o.dst v') w') :
  wpList Tp ops Q (o :: rest) a (wr.alloc (.cells #[I .u8 ci] 5)):=by
 subst hci;obtain⟨i0,hi,hz0,hz1,hz2⟩:=QW info5;refine wpList_append_own_at _ hgd s x 65 ho B 5 i0 (I .u8 0) 1 1 underlying65 hi hz0 hz1 hz2 rfl (by decide) v l.length (bv l) hs (QM hown _) ⟨wr.heap.size,0,nn⟩ 1 1 [I .u8 (c:Int)] hx rfl ?_ ?_ ?_ ?_ ?_ ?_
 .intro j u hj;match j,hj with
  | 0,hj=>simp at hj;subst hj;simp[Addr.add]
 .intro u hu;simp at hu;subst hu;rfl
 .unfold maxLen;omega
 .omega
 .simp;omega
 .intro v' w' ho' hg _ hor;have hr:∀ k,v.ownBlock=sQ k->B<=k:=fun k hk=>(QB hown k hk).1;have e1:bv (l++[c])=bv l++[I .u8 (c:Int)]:=by simp[bv]
  refine h v' w' ?_ ((hbel.alloc hB _).grown hg (by simp;omega) hr) (fun g hgl hne=>⟨?_,?_⟩) (nT pQ hg.size)
  .unfold aa;rw[e1,qe];exact ho'
  .exact (hg.block g (by simp;omega) (fun e=>hne e.symm)).trans (Below.heap_alloc wr _ g hgl)
  .rcases hor with hor | hor <;> rw[hor]
   .exact hne
   .intro e;simp at e;omega
def aa.bytes {B:Nat} {v:Value} (h:aa w B v l) (hl:∀ x ∈ l,x<256):∃ ao cap,v = sL ao l.length cap/\iB w ao l.length cap l:=by
 by_cases he:l=[]
 .subst he;obtain⟨_,⟨rfl,_⟩|⟨g,cap,cur,rfl,_⟩⟩:=h
  .exact⟨nn,0,rfl,rfl,nR _,hl,fun h=>Qy rfl h⟩
  .exact⟨_,cap,rfl,rfl,nZ _,hl,fun h=>Qy rfl h⟩
 .obtain⟨g,cap,hv,h1,h2,h3,h4,h5⟩:=h.open he;refine⟨sQ ⟨g,0,nn⟩,cap,hv,rfl,h3,hl,fun _=>⟨g,0,rfl,fun j hj=>?_⟩⟩;have:=h5.cell j hj;rw[qi,this];simp[hj]
def dW (L:List Nat) (i:Nat) (st:Nat × List Nat × Bool):Nat × List Nat × Bool:=
 let c:=L.getD i 0
 let p:=if st.2.2=true then st.2.1 else st.2.1++[c]
 (if st.2.2=true then (if c=L.getD (i-1) 0 then 3 else 0) else cF st.2.1 c,p,
  cW (fun t=>L.getD t 0) (i+1) && (decide (ar p<=10) || decide (ar p=11)))
def sw (L:List Nat):Nat->Nat × List Nat × Bool
 | 0=>(0,[],false)
 | i+1=>dW L i (sw L i)
def swF (L:List Nat):Nat->Nat->Nat × List Nat × Bool
 | 0,i=>sw L i
 | f+1,i=>if av (sw L i).1=true then swF L f (i+1) else (7,(sw L i).2.1,false)
def sE (L:List Nat) (i:Nat):(sw L i).2.1.length<=i:=by
 induction i with
 | zero=>exact nR _
 | succ i ih=>
  show (if (sw L i).2.2=true then (sw L i).2.1 else (sw L i).2.1++[L.getD i 0]).length<=i+1;split
  .omega
  .rw[qe,qm];omega
def gZ (L:List Nat) (h:∀ x ∈ L,M.isL x) (i:Nat) (hi:i<=L.length):∀ x ∈ (sw L i).2.1,M.isL x:=by
 induction i with
 | zero=>intro x hx;cases hx
 | succ i ih=>
  have ih:=ih om;show ∀ x ∈ (if (sw L i).2.2=true then (sw L i).2.1 else (sw L i).2.1++[L.getD i 0]),M.isL x;split
  .exact ih
  .intro x hx;rw[qB,Qt] at hx;rcases hx with hx|rfl
   .exact ih x hx
   .have hi':i<L.length:=om;have e:L.getD i 0=L[i]:=by simp[hi']
    rw[e];exact h _ (qn hi')
end
end Go.Proofs.YtgfolecanghhhaaGreat
