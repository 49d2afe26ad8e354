import Derived.Test.YtgfolecanghhhaaGreatK10
import Derived.Deep.RegionHeld3
namespace Go.Proofs.YtgfolecanghhhaaGreat
open Go.Proofs.Tryz
open Option renaming none->nn,some->sQ
open Go renaming World->Wd
set_option maxRecDepth 100000
open Go.RowKit
set_option linter.all false
set_option maxHeartbeats 16000000
open Go.Value renaming int->I,slice->sL,bool->bO,pointer->pT,agg->aG
open Go.IntKind renaming i64->J,u32->Zk
open Go.Ending renaming returned->rT
open Go.Proofs.Tryz renaming prog->Tp
section
variable {l:List Nat} {w W:Wd} {B n cap i:Nat} {v:Value} {a:Option Addr} {e r:Bool} {d:Int}
namespace M
def isL (c:Nat):Prop:=c=48\/c=49
end M
def cg {a b:ByteArray} (h:a=b):Ending.returned (.string a) = rT (.string b):=by rw[h]
def ae (l:List Nat):ByteArray:=⟨(l.map UInt8.ofNat).toArray⟩
def iX (h:∀ x ∈ l,M.isL x):∀ x ∈ l,x<256:=by
 intro x hx;rcases h x hx with rfl | rfl <;> decide
def ik (h:aa w B v l) (hl:∀ x ∈ l,x<256):(convert 65 9 v).run Tp w = .ok (.string (ae l)) w:=by
 have h':=h;obtain⟨_,⟨rfl,h1⟩|⟨g,cap,cur,rfl,hb,hh,hc,hm,hsz,htk⟩⟩:=h
 .have:l=[]:=List.length_eq_zero_iff.1 h1;subst this;rw[run_convert_bytes_string w 65 9 5 nn 0 0 underlying65 underlying5 underlying9];rfl
 .have:=run_convert_bytes_back (P:=Tp) w 65 9 5 ⟨g,0,nn⟩ cap (l.map UInt8.ofNat) underlying65 underlying5 underlying9 (by
   intro j hj;have hj':j<l.length:=by simpa using hj
   have hc:=QY h' j om
   rw[nt l j hj'] at hc
   have hx:=hl l[j] (qn hj')
   have e:(UInt8.ofNat l[j]).toNat=l[j]:=by simp;omega
   have e2:(⟨g,0,nn⟩ : Addr).add j=⟨g,j,nn⟩:=by simp only[Addr.add];split <;> simp_all
   rw[e2,Qh,e]
   exact hc)
  rw[qU] at this;exact this
def aa.drewN (h:aa w B v l) (q:Nat):aa (w.drewN q) B v l:=by
 induction q generalizing w with
 | zero=>exact h
 | succ q ih=>exact ih (World.ownsRow.drew h)
def aa.kind (h:aa w B v l):∀ g,v.ownBlock=sQ g->∃ c fz,w.heap[g]?=sQ (.cells c 5 fz):=by
 intro g hg;obtain⟨_,⟨rfl,_⟩|⟨g',cap,cur,rfl,_,hh,_⟩⟩:=h
 .simp[Value.ownBlock] at hg
 .simp[Value.ownBlock] at hg;subst hg;exact⟨cur,_,hh⟩
def Gk {ops:Array Oper} {rest:List Oper} {o:Oper} {a:Act} {Q:Exit->Act->Wd->Prop} (w0 wr:Wd) (hgd:o.guard=nn) (s x:Operand)
  (ho:o.op = .call { callee:=.builtin .append,args:=#[s,x],argTypes:=#[65,65] })
  (B:Nat) (v:Value) (l:List Nat) (c:Nat) (ci:Int) (hci:ci=(c:Int)) (hs:a.eval s=v) (hown:aa wr B v l)
  (hx:a.eval x = sL (sQ ⟨wr.heap.size,0,nn⟩) 1 1) (hlen:l.length<=100000000) (hB:B<=wr.heap.size) (hbel:Below B w0 wr)
  (h:∀ v' w',aa w' B v' (l++[c])->Below B w0 w'->Lib.OthersKept 5 nn wr w'->wpList Tp ops Q rest (a.put o.dst v') w') :
  wpList Tp ops Q (o :: rest) a (wr.alloc (.cells #[I .u8 ci] 5)):=by
 subst hci;obtain⟨i0,hi,hz0,hz1,hz2⟩:=QW info5;refine Q1 _ hgd s x 65 ho B 5 i0 (I .u8 0) 1 1 underlying65 hi hz0 hz1 hz2 rfl (by decide) v l.length (bv l) hs (QM hown _) ⟨wr.heap.size,0,nn⟩ 1 1 [I .u8 (c:Int)] hx rfl ?_ ?_ ?_ ?_ ?_ ?_
 .intro j u hj;match j,hj with
  | 0,hj=>simp at hj;subst hj;simp[Addr.add]
 .intro u hu;simp at hu;subst hu;rfl
 .unfold maxLen;omega
 .omega
 .simp;omega
 .intro v' w' ho' hg _;have hr:∀ k,v.ownBlock=sQ k->B<=k:=fun k hk=>(QB hown k hk).1;refine h v' w' ?_ ((hbel.alloc hB _).grown hg (by simp;omega) hr) (((QV 5 nn wr).alloc _).grown hg ?_)
  .have e1:bv (l++[c])=bv l++[I .u8 (c:Int)]:=by simp[bv]
   unfold aa;rw[e1,qe];exact ho'
  .intro g hg';exact aa.kind (B:=B) (l:=l) (QM hown _) g hg'
def eG (w:Wd) (b:Nat) (r:Nat × Nat):Prop:=w.heap[b]?=sQ (.cells #[I .i32 (r.1:Int),I J (r.2:Int)] 212 (0,0))
structure stI (w0:Wd) (B b1 b2:Nat) (s:ByteArray) (k:Nat) (v:Value) (l:List Nat) (r:Nat × Nat) (w:Wd):Prop where
 own:aa w B v l
 run:eG w b1 r
 it:w.heap[b2]?=sQ (.stringIter s k)
 bel:Below B w0 w
 B1:B<=b1
 B2:B<=b2
def stI.size {w0:Wd} {b1 b2:Nat} {s:ByteArray} {k:Nat} {r:Nat × Nat} (h:stI w0 B b1 b2 s k v l r w):B<=w.heap.size:=
 qA (Qi h.B1 (QX h.run))
namespace M
def uq (l:List Nat) (k:Nat) (h:k<l.length):l.take (k+1)=l.take k++[l[k]]:=qg h
end M
def dl (r:Bool) (d:Int):Int:=if r=true then 0 else if 8<d then 8 else d
def gP (w:Wd) (e:Bool) (i:Nat) (r:Bool) (d:Int) (a:Option Addr) (n cap:Nat) :
  Calls Tp 114 #[frV e i r d a n cap] w fun o w'=>o = rT (I J (dl r d))/\w.alloc (frC e i r d a n cap 67)=w':=by
 cases r
 .by_cases h8:8<d
  .have HD:Hid (dl false d=8):=by simp[dl,h8,Hid]
   go_enter func114,ntmps114;go_wp2;go_ret;exact⟨au HD.o.symm,rfl⟩
  .have HD:Hid (dl false d=d):=by simp[dl,h8,Hid]
   go_enter func114,ntmps114;go_wp2;go_ret;exact⟨au HD.o.symm,rfl⟩
 .go_enter func114,ntmps114;go_wp2;go_ret;exact⟨rfl,rfl⟩
def cd (w:Wd) (e:Bool) (i:Nat) (r:Bool) (d:Int) (a:Option Addr) (n cap:Nat) :
  Calls Tp 224 #[frV e i r d a n cap] w fun o w'=>o = rT (I J (dl r d))/\w.alloc (frC e i r d a n cap 67)=w':=by
 cases r
 .by_cases h8:8<d
  .have HD:Hid (dl false d=8):=by simp[dl,h8,Hid]
   go_enter func224,ntmps224;go_wp2;go_ret;exact⟨au HD.o.symm,rfl⟩
  .have HD:Hid (dl false d=d):=by simp[dl,h8,Hid]
   go_enter func224,ntmps224;go_wp2;go_ret;exact⟨au HD.o.symm,rfl⟩
 .go_enter func224,ntmps224;go_wp2;go_ret;exact⟨rfl,rfl⟩
def vB (e:Bool) (i:Nat) (r:Bool) (d:Int) (n:Nat):Bool:=
 (if e=true then decide (i<536870912) else decide (i<2048)) && decide (0<=d) && decide (d<=15) && ((n:Int) == dl r d)
def vz (e:Bool) (i:Nat) (r:Bool) (d:Int) (n:Nat) (h:(if e=true then decide (i<536870912) else decide (i<2048))=false):vB e i r d n=false:=by
 unfold vB;rw[h];rfl
def ph (e:Bool) (i:Nat) (r:Bool) (d:Int) (n:Nat) (h:¬ (0<=d/\d<=15)):vB e i r d n=false:=by
 unfold vB;by_cases h1:0<=d
 .have h2:¬ d<=15:=om;simp[h2]
 .simp[h1]
def xI (e:Bool) (i:Nat) (r:Bool) (d:Int) (n:Nat) (h:(if e=true then decide (i<536870912) else decide (i<2048))=true) (h0:0<=d) (h1:d<=15):vB e i r d n=((n:Int) == dl r d):=by
 unfold vB;rw[h];simp[h0,h1]
def ch (w:Wd) (e:Bool) (i:Nat) (r:Bool) (d:Int) (a:Option Addr) (n cap:Nat) :
  Calls Tp 50 #[frV e i r d a n cap] w fun o w'=>o = rT (bO (vB e i r d n))/\Bl w w':=by
 by_cases hid:(if e=true then decide (i<536870912) else decide (i<2048))=true
 .by_cases h0:0<=d
  .by_cases h1:d<=15
   .have HV:Hid (vB e i r d n=((n:Int) == dl r d)):=xI e i r d n hid h0 h1;cases e
    .have hid':(i:Int)<2048:=by simp at hid;omega
     clear hid;go_enter func50,ntmps50;go_wp2;go_region_with (go_at_call 114;refine (gP _ _ _ _ _ _ _ _).mono ?_;rintro o w1 ⟨rfl,rfl⟩);all_goals
      go_wp2;go_ret;exact⟨aj HV.o.symm,(Zw.alloc pQ _).drew⟩
    .have hid':decide ((536870912:Int)<=(i:Int))=false:=by simp at hid;simp;omega
     clear hid;go_enter func50,ntmps50;go_wp2;go_region_with (go_at_call 114;refine (gP _ _ _ _ _ _ _ _).mono ?_;rintro o w1 ⟨rfl,rfl⟩);all_goals
      go_wp2;go_ret;exact⟨aj HV.o.symm,(Zw.alloc pQ _).drew⟩
   .have HV:Hid (vB e i r d n=false):=ph e i r d n om;cases e
    .have hid':(i:Int)<2048:=by simp at hid;omega
     clear hid;go_enter func50,ntmps50;go_wp2;go_ret;exact⟨aj HV.o.symm,Zw⟩
    .have hid':decide ((536870912:Int)<=(i:Int))=false:=by simp at hid;simp;omega
     clear hid;go_enter func50,ntmps50;go_wp2;go_ret;exact⟨aj HV.o.symm,Zw⟩
  .have HV:Hid (vB e i r d n=false):=ph e i r d n om;cases e
   .have hid':(i:Int)<2048:=by simp at hid;omega
    clear hid;go_enter func50,ntmps50;go_wp2;go_ret;exact⟨aj HV.o.symm,Zw⟩
   .have hid':decide ((536870912:Int)<=(i:Int))=false:=by simp at hid;simp;omega
    clear hid;go_enter func50,ntmps50;go_wp2;go_ret;exact⟨aj HV.o.symm,Zw⟩
 .have HV:Hid (vB e i r d n=false):=vz e i r d n (by rw[<- Bool.not_eq_true];exact hid);cases e
  .have hid':(2048:Int)<=(i:Int):=by simp at hid;omega
   clear hid;go_enter func50,ntmps50;go_wp2;go_ret;exact⟨aj HV.o.symm,Zw⟩
  .have hid':decide ((536870912:Int)<=(i:Int))=true:=by simp at hid;simp;omega
   clear hid;go_enter func50,ntmps50;go_wp2;go_ret;exact⟨aj HV.o.symm,Zw⟩
def ka (h:iB w a n cap l):(convert 65 9 (sL a n cap)).run Tp w = .ok (.string (ae l)) w:=by
 obtain⟨rfl,hcap,hsm,hc⟩:=h;by_cases hl:l=[]
 .subst hl;cases a with
  | none=>
   rw[run_convert_bytes_string w 65 9 5 nn _ cap underlying65 underlying5 underlying9];rfl
  | some a=>
   have:=run_convert_bytes_back (P:=Tp) w 65 9 5 a cap [] underlying65 underlying5 underlying9 (by intro j hj;simp at hj);exact this
 .obtain⟨g,off,rfl,hcc⟩:=hc hl
  have:=run_convert_bytes_back (P:=Tp) w 65 9 5 ⟨g,off,nn⟩ cap (l.map UInt8.ofNat) underlying65 underlying5 underlying9 (by
   intro j hj;have hj':j<l.length:=by simpa using hj
   have hc:=hcc j hj'
   have hx:=hsm l[j] (qn hj')
   have e:(UInt8.ofNat l[j]).toNat=l[j]:=by simp;omega
   have e2:(⟨g,off,nn⟩ : Addr).add j=⟨g,off+j,nn⟩:=by simp only[Addr.add];split <;> simp_all
   rw[e2,Qh,e]
   exact hc)
  rw[qU] at this;exact this
def KK {m:List Nat} (hl:∀ x ∈ l,x<256) (hm:∀ x ∈ m,x<256) (h:l.map UInt8.ofNat=m.map UInt8.ofNat):l=m:=by
 have key:∀ l:List Nat,(∀ x ∈ l,x<256)->(l.map UInt8.ofNat).map UInt8.toNat=l:=by
  intro l hl;rw[List.map_map];conv=>rhs;rw[<- List.map_id l]
  apply Qm;intro x hx;have:=hl x hx;simp;omega
 rw[<- key l hl,<- key m hm,h]
def xd (w:Wd) (a1 a2:Option Addr) (n1 c1 n2 c2:Nat) (l1 l2:List Nat) (h1:iB w a1 n1 c1 l1) (h2:iB w a2 n2 c2 l2) :
  Calls Tp 223 #[sL a1 n1 c1,sL a2 n2 c2] w fun o w'=>o = rT (bO (decide (l1=l2)))/\w=w':=by
 have k1:=ka h1;have k2:=ka h2;have HE:Hid ((l1.map UInt8.ofNat == l2.map UInt8.ofNat)=decide (l1=l2)):=by
  unfold Hid;rw[qk,beq_iff_eq,qV];exact⟨KK h1.small h2.small,fun e=>by rw[e]⟩
 clear h1 h2;go_enter func223,ntmps223;go_wp2;go_ret;exact⟨aj (by rw[<- HE.o];simp[ae]),rfl⟩
def iY (w:Wd) (e:Bool) (i:Nat) (r:Bool) (d:Int) (a:Option Addr) (n cap:Nat) :
  Calls Tp 222 #[frV e i r d a n cap] w fun o w'=>o = rT (aG #[bO e,bO r])/\(w.alloc (frC e i r d a n cap 67)).alloc (.cells #[bO e,bO r] 266)=w':=by
 go_enter func222,ntmps222;go_wp2;exact QE (v:=aG #[bO e,bO r]) (by simp[results,results222,go_sem]) rfl ⟨rfl,rfl⟩
def fJ (k:Nat):Array Value:=madeCells #[I .u8 0] k
def se (k t:Nat) (h:t<k):(fJ k)[t]?=sQ (I .u8 0):=by
 have:=toList_madeCells_one (I .u8 0) k;unfold fJ;rw[<- qS,this,List.getElem?_replicate,qc h]
def mkz (w:Wd) (k:Nat) (hk:k<=100000000):(Instr.makeSlice 65 (I J (k:Int)) (I J (k:Int))).run Tp w = .ok (sL (sQ ⟨w.heap.size,0,nn⟩) k k) (w.alloc (.cells (fJ k) 5)):=by
 obtain⟨i0,hi,hz0,hz1,hz2⟩:=QW info5;have hr:=run_make (P:=Tp) w 65 5 i0 (I .u8 0) underlying65 hi hz0 .i64 .i64 k k om (Int.le_refl _) (by rw[hz2];omega) om;simp only[Int.toNat_natCast,hz1,Nat.mul_one] at hr;exact hr
def oA (w:Wd) (k:Nat):iB (w.alloc (.cells (fJ k) 5)) (sQ ⟨w.heap.size,0,nn⟩) k k (List.replicate k 0):=by
 refine⟨pQ,nR _,fun x hx=>by rw[List.mem_replicate] at hx;rw[hx.2];decide,fun _=>⟨_,0,rfl,fun j hj=>?_⟩⟩;have hj':j<k:=by simpa using hj
 have h1:(w.alloc (.cells (fJ k) 5)).cell? ⟨w.heap.size,0+j,nn⟩=(fJ k)[0+j]?:=World.cell?_alloc_mark w (fJ k) 5 (0,0) (0+j);rw[h1,qi,se k j hj'];simp
def yq (w:Wd) (k b:Nat) (hb:w.heap.size=b):iB (w.alloc (.cells (fJ k) 5)) (sQ ⟨b,0,nn⟩) k k (List.replicate k 0):=by
 subst hb;exact oA w k
def nj (r:Bool) (d:Int) (h0:0<=d):0<=dl r d/\dl r d<=8:=by
 unfold dl;split
 .omega
 .split <;> omega
def tJ (w:Wd) (e:Bool) (i:Nat) (r:Bool) (d:Int) (a:Option Addr) (n cap:Nat) (l:List Nat) (h:iB w a n cap l) (i':Nat) (d':Int) (k:Nat)
  (hi':(if (536870911:Int)<(i:Int) then (536870911:Int) else (i:Int))=(i':Int)) (hd':(if (15:Int)<(if d<0 then 0 else d) then (15:Int) else (if d<0 then 0 else d))=d') (hk:dl (r && ((n:Int) == 0)) d'=(k:Int)) (hk8:k<=8) :
  Calls Tp 191 #[frV e i r d a n cap] w fun o w'=>∃ a' n' cap' l',o = rT (frV (e || decide ((2047:Int)<(i:Int))) i' (r && ((n:Int) == 0)) d' a' n' cap')/\iB w' a' n' cap' l'/\Bl w w'/\(n=k->l'=l)/\(n≠k->l'≠l):=by
 cases e
 .cases r
  .have HH:Hid (iB w a n cap l):=h;have hlen:=h.len;have HK:Hid (dl false d'=(k:Int)):=hk;clear h hk;by_cases hnk:n=k
   .have hb:((n:Int) != (k:Int))=false:=by simp;omega
    have HN:Hid (n=k):=hnk;clear hnk hlen;go_enter func191,ntmps191;go_wp2_with (go_at_call 224;refine (cd _ _ _ _ _ _ _ _).mono ?_;rw[HK.o];rintro o w1 ⟨rfl,rfl⟩);all_goals
     refine QE (v:=frV (decide ((2047:Int)<(i:Int))) i' false d' a n cap) (by simp[results,results191,go_sem]) rfl ?_;have hbl:=(((bW w.heap.size w).alloc (nR _) (frC (decide ((2047:Int)<(i:Int))) i' false d' a n cap 67)).alloc pQ (frC (decide ((2047:Int)<(i:Int))) i' false d' a n cap 67)).alloc (by simp;omega) (frC (decide ((2047:Int)<(i:Int))) i' false d' a n cap 67);exact⟨_,_,_,rfl,l,HH.o.below hbl,hbl,fun _=>rfl,fun hh=>Qy HN.o hh⟩
   .have hb:((n:Int) != (k:Int))=true:=by simp;omega
    have hne:List.replicate k 0≠l:=by intro e;apply hnk;rw[hlen,<- e];simp
    have HN:Hid (¬ n=k):=hnk;have HE:Hid (List.replicate k 0≠l):=hne;have hmk:=fun w=>mkz w k om;clear hnk hlen hne;go_enter func191,ntmps191;go_wp2_with (go_at_call 224;refine (cd _ _ _ _ _ _ _ _).mono ?_;rw[HK.o];rintro o w1 ⟨rfl,rfl⟩);all_goals
     refine QE (v:=frV (decide ((2047:Int)<(i:Int))) i' false d' (sQ ⟨w.heap.size+3,0,nn⟩) k k) (by simp[results,results191,go_sem]) rfl ?_;exact⟨_,_,_,rfl,List.replicate k 0,yq _ k _ pQ,((Zw.alloc pQ _).alloc (by simp;omega) _).alloc (by simp;omega) _,fun hh=>Qy hh HN.o,fun _=>HE.o⟩
  .have HH:Hid (iB w a n cap l):=h;have hlen:=h.len;have HK:Hid (dl ((n:Int) == 0) d'=(k:Int)):=hk;clear h hk;by_cases hnk:n=k
   .have hb:((n:Int) != (k:Int))=false:=by simp;omega
    have HN:Hid (n=k):=hnk;clear hnk hlen;go_enter func191,ntmps191;go_wp2_with (go_at_call 224;refine (cd _ _ _ _ _ _ _ _).mono ?_;rw[HK.o];rintro o w1 ⟨rfl,rfl⟩);all_goals
     refine QE (v:=frV (decide ((2047:Int)<(i:Int))) i' ((n:Int) == 0) d' a n cap) (by simp[results,results191,go_sem]) rfl ?_;have hbl:=(((bW w.heap.size w).alloc (nR _) (frC (decide ((2047:Int)<(i:Int))) i' ((n:Int) == 0) d' a n cap 67)).alloc pQ (frC (decide ((2047:Int)<(i:Int))) i' ((n:Int) == 0) d' a n cap 67)).alloc (by simp;omega) (frC (decide ((2047:Int)<(i:Int))) i' ((n:Int) == 0) d' a n cap 67);exact⟨_,_,_,rfl,l,HH.o.below hbl,hbl,fun _=>rfl,fun hh=>Qy HN.o hh⟩
   .have hb:((n:Int) != (k:Int))=true:=by simp;omega
    have hne:List.replicate k 0≠l:=by intro e;apply hnk;rw[hlen,<- e];simp
    have HN:Hid (¬ n=k):=hnk;have HE:Hid (List.replicate k 0≠l):=hne;have hmk:=fun w=>mkz w k om;clear hnk hlen hne;go_enter func191,ntmps191;go_wp2_with (go_at_call 224;refine (cd _ _ _ _ _ _ _ _).mono ?_;rw[HK.o];rintro o w1 ⟨rfl,rfl⟩);all_goals
     refine QE (v:=frV (decide ((2047:Int)<(i:Int))) i' ((n:Int) == 0) d' (sQ ⟨w.heap.size+3,0,nn⟩) k k) (by simp[results,results191,go_sem]) rfl ?_;exact⟨_,_,_,rfl,List.replicate k 0,yq _ k _ pQ,((Zw.alloc pQ _).alloc (by simp;omega) _).alloc (by simp;omega) _,fun hh=>Qy hh HN.o,fun _=>HE.o⟩
 .cases r
  .have HH:Hid (iB w a n cap l):=h;have hlen:=h.len;have HK:Hid (dl false d'=(k:Int)):=hk;clear h hk;by_cases hnk:n=k
   .have hb:((n:Int) != (k:Int))=false:=by simp;omega
    have HN:Hid (n=k):=hnk;clear hnk hlen;go_enter func191,ntmps191;go_wp2_with (go_at_call 224;refine (cd _ _ _ _ _ _ _ _).mono ?_;rw[HK.o];rintro o w1 ⟨rfl,rfl⟩);all_goals
     refine QE (v:=frV true i' false d' a n cap) (by simp[results,results191,go_sem]) rfl ?_;have hbl:=(((bW w.heap.size w).alloc (nR _) (frC true i' false d' a n cap 67)).alloc pQ (frC true i' false d' a n cap 67)).alloc (by simp;omega) (frC true i' false d' a n cap 67);exact⟨_,_,_,rfl,l,HH.o.below hbl,hbl,fun _=>rfl,fun hh=>Qy HN.o hh⟩
   .have hb:((n:Int) != (k:Int))=true:=by simp;omega
    have hne:List.replicate k 0≠l:=by intro e;apply hnk;rw[hlen,<- e];simp
    have HN:Hid (¬ n=k):=hnk;have HE:Hid (List.replicate k 0≠l):=hne;have hmk:=fun w=>mkz w k om;clear hnk hlen hne;go_enter func191,ntmps191;go_wp2_with (go_at_call 224;refine (cd _ _ _ _ _ _ _ _).mono ?_;rw[HK.o];rintro o w1 ⟨rfl,rfl⟩);all_goals
     refine QE (v:=frV true i' false d' (sQ ⟨w.heap.size+3,0,nn⟩) k k) (by simp[results,results191,go_sem]) rfl ?_;exact⟨_,_,_,rfl,List.replicate k 0,yq _ k _ pQ,((Zw.alloc pQ _).alloc (by simp;omega) _).alloc (by simp;omega) _,fun hh=>Qy hh HN.o,fun _=>HE.o⟩
  .have HH:Hid (iB w a n cap l):=h;have hlen:=h.len;have HK:Hid (dl ((n:Int) == 0) d'=(k:Int)):=hk;clear h hk;by_cases hnk:n=k
   .have hb:((n:Int) != (k:Int))=false:=by simp;omega
    have HN:Hid (n=k):=hnk;clear hnk hlen;go_enter func191,ntmps191;go_wp2_with (go_at_call 224;refine (cd _ _ _ _ _ _ _ _).mono ?_;rw[HK.o];rintro o w1 ⟨rfl,rfl⟩);all_goals
     refine QE (v:=frV true i' ((n:Int) == 0) d' a n cap) (by simp[results,results191,go_sem]) rfl ?_;have hbl:=(((bW w.heap.size w).alloc (nR _) (frC true i' ((n:Int) == 0) d' a n cap 67)).alloc pQ (frC true i' ((n:Int) == 0) d' a n cap 67)).alloc (by simp;omega) (frC true i' ((n:Int) == 0) d' a n cap 67);exact⟨_,_,_,rfl,l,HH.o.below hbl,hbl,fun _=>rfl,fun hh=>Qy HN.o hh⟩
   .have hb:((n:Int) != (k:Int))=true:=by simp;omega
    have hne:List.replicate k 0≠l:=by intro e;apply hnk;rw[hlen,<- e];simp
    have HN:Hid (¬ n=k):=hnk;have HE:Hid (List.replicate k 0≠l):=hne;have hmk:=fun w=>mkz w k om;clear hnk hlen hne;go_enter func191,ntmps191;go_wp2_with (go_at_call 224;refine (cd _ _ _ _ _ _ _ _).mono ?_;rw[HK.o];rintro o w1 ⟨rfl,rfl⟩);all_goals
     refine QE (v:=frV true i' ((n:Int) == 0) d' (sQ ⟨w.heap.size+3,0,nn⟩) k k) (by simp[results,results191,go_sem]) rfl ?_;exact⟨_,_,_,rfl,List.replicate k 0,yq _ k _ pQ,((Zw.alloc pQ _).alloc (by simp;omega) _).alloc (by simp;omega) _,fun hh=>Qy hh HN.o,fun _=>HE.o⟩
def zO (w:Wd) (e r e' r':Bool):(Op.equalIn 10000 266 (aG #[bO e,bO r]) (aG #[bO e',bO r'])).run Tp w = .ok ((e == e') && (r == r')) w:=by
 cases e <;> cases r <;> cases e' <;> cases r' <;> kernel_rfl
def ng:Tp.eqGuardType Tp.depth 266=false:=kr
def eC (W:Wd) (o:Obj) (b j:Nat) (v:Value) (hb:b<W.heap.size) (h:W.cell? ⟨b,j,nn⟩=sQ v):(W.alloc o).cell? ⟨b,j,nn⟩=sQ v:=
 (World.cell?_alloc_lt _ _ _ (by exact hb)).trans h
def mQ (w W:Wd) (o:Obj) (e:Bool) (i:Nat) (r:Bool) (d:Int) (a:Option Addr) (n cap:Nat) (e':Bool) (i':Nat) (r':Bool) (d':Int) (a':Option Addr) (n' cap':Nat)
  (h:W.cell? ⟨w.heap.size,0,nn⟩=sQ (bO e)/\W.cell? ⟨w.heap.size,1,nn⟩=sQ (I Zk (i:Int))/\W.cell? ⟨w.heap.size,2,nn⟩=sQ (bO r)/\W.cell? ⟨w.heap.size,3,nn⟩=sQ (I J d)/\W.cell? ⟨w.heap.size,4,nn⟩=sQ (sL a n cap)/\W.cell? ⟨w.heap.size+1,0,nn⟩=sQ (bO e')/\W.cell? ⟨w.heap.size+1,1,nn⟩=sQ (I Zk (i':Int))/\W.cell? ⟨w.heap.size+1,2,nn⟩=sQ (bO r')/\W.cell? ⟨w.heap.size+1,3,nn⟩=sQ (I J d')/\W.cell? ⟨w.heap.size+1,4,nn⟩=sQ (sL a' n' cap')/\Bl w W/\w.heap.size+1<W.heap.size):(fun W=>W.cell? ⟨w.heap.size,0,nn⟩=sQ (bO e)/\W.cell? ⟨w.heap.size,1,nn⟩=sQ (I Zk (i:Int))/\W.cell? ⟨w.heap.size,2,nn⟩=sQ (bO r)/\W.cell? ⟨w.heap.size,3,nn⟩=sQ (I J d)/\W.cell? ⟨w.heap.size,4,nn⟩=sQ (sL a n cap)/\W.cell? ⟨w.heap.size+1,0,nn⟩=sQ (bO e')/\W.cell? ⟨w.heap.size+1,1,nn⟩=sQ (I Zk (i':Int))/\W.cell? ⟨w.heap.size+1,2,nn⟩=sQ (bO r')/\W.cell? ⟨w.heap.size+1,3,nn⟩=sQ (I J d')/\W.cell? ⟨w.heap.size+1,4,nn⟩=sQ (sL a' n' cap')/\Bl w W/\w.heap.size+1<W.heap.size) (W.alloc o):=by
 obtain⟨h0,h1,h2,h3,h4,k0,k1,k2,k3,k4,hb,hz⟩:=h;have z0:w.heap.size<W.heap.size:=om;exact⟨eC _ _ _ _ _ z0 h0,eC _ _ _ _ _ z0 h1,eC _ _ _ _ _ z0 h2,eC _ _ _ _ _ z0 h3,eC _ _ _ _ _ z0 h4,eC _ _ _ _ _ hz k0,eC _ _ _ _ _ hz k1,eC _ _ _ _ _ hz k2,eC _ _ _ _ _ hz k3,eC _ _ _ _ _ hz k4,hb.alloc om _,by simp;omega⟩
def ED (w:Wd) (e:Bool) (i:Nat) (r:Bool) (d:Int) (a:Option Addr) (n cap:Nat) (e':Bool) (i':Nat) (r':Bool) (d':Int) (a':Option Addr) (n' cap':Nat) :
  (fun W=>W.cell? ⟨w.heap.size,0,nn⟩=sQ (bO e)/\W.cell? ⟨w.heap.size,1,nn⟩=sQ (I Zk (i:Int))/\W.cell? ⟨w.heap.size,2,nn⟩=sQ (bO r)/\W.cell? ⟨w.heap.size,3,nn⟩=sQ (I J d)/\W.cell? ⟨w.heap.size,4,nn⟩=sQ (sL a n cap)/\W.cell? ⟨w.heap.size+1,0,nn⟩=sQ (bO e')/\W.cell? ⟨w.heap.size+1,1,nn⟩=sQ (I Zk (i':Int))/\W.cell? ⟨w.heap.size+1,2,nn⟩=sQ (bO r')/\W.cell? ⟨w.heap.size+1,3,nn⟩=sQ (I J d')/\W.cell? ⟨w.heap.size+1,4,nn⟩=sQ (sL a' n' cap')/\Bl w W/\w.heap.size+1<W.heap.size) ((w.alloc (frC e i r d a n cap 67)).alloc (frC e' i' r' d' a' n' cap' 67)).drew:=by
 refine⟨?_,?_,?_,?_,?_,?_,?_,?_,?_,?_,(Zw.alloc pQ _).drew,pQ⟩ <;> go_simp
def lM {e':Bool} {i':Nat} {r':Bool} {d':Int} {a':Option Addr} {n' cap':Nat}
  (h:W.cell? ⟨w.heap.size,0,nn⟩=sQ (bO e)/\W.cell? ⟨w.heap.size,1,nn⟩=sQ (I Zk (i:Int))/\W.cell? ⟨w.heap.size,2,nn⟩=sQ (bO r)/\W.cell? ⟨w.heap.size,3,nn⟩=sQ (I J d)/\W.cell? ⟨w.heap.size,4,nn⟩=sQ (sL a n cap)/\W.cell? ⟨w.heap.size+1,0,nn⟩=sQ (bO e')/\W.cell? ⟨w.heap.size+1,1,nn⟩=sQ (I Zk (i':Int))/\W.cell? ⟨w.heap.size+1,2,nn⟩=sQ (bO r')/\W.cell? ⟨w.heap.size+1,3,nn⟩=sQ (I J d')/\W.cell? ⟨w.heap.size+1,4,nn⟩=sQ (sL a' n' cap')/\Bl w W/\w.heap.size+1<W.heap.size):Bl w W:=h.2.2.2.2.2.2.2.2.2.2.1
def nX (w:Wd) (e:Bool) (i:Nat) (r:Bool) (d:Int) (a:Option Addr) (n cap:Nat) (e':Bool) (i':Nat) (r':Bool) (d':Int) (a':Option Addr) (n' cap':Nat) (hh:((e == e') && (r == r'))=false\/((e == e') && (r == r'))=true/\((i:Int) == (i':Int))=false\/((e == e') && (r == r'))=true/\((i:Int) == (i':Int))=true/\(d == d')=false) :
  Calls Tp 190 #[frV e i r d a n cap,frV e' i' r' d' a' n' cap'] w fun o w'=>o = rT (bO false)/\Bl w w':=by
 rcases hh with hh|⟨hh,hi⟩|⟨hh,hi,hd⟩
 all_goals
  have hq:=fun w=>zO w e r e' r';rw[hh] at hq;clear hh;have hgd:=ng;go_enter func190,ntmps190;go_wp2;refine QJ (S:=(fun W=>W.cell? ⟨w.heap.size,0,nn⟩=sQ (bO e)/\W.cell? ⟨w.heap.size,1,nn⟩=sQ (I Zk (i:Int))/\W.cell? ⟨w.heap.size,2,nn⟩=sQ (bO r)/\W.cell? ⟨w.heap.size,3,nn⟩=sQ (I J d)/\W.cell? ⟨w.heap.size,4,nn⟩=sQ (sL a n cap)/\W.cell? ⟨w.heap.size+1,0,nn⟩=sQ (bO e')/\W.cell? ⟨w.heap.size+1,1,nn⟩=sQ (I Zk (i':Int))/\W.cell? ⟨w.heap.size+1,2,nn⟩=sQ (bO r')/\W.cell? ⟨w.heap.size+1,3,nn⟩=sQ (I J d')/\W.cell? ⟨w.heap.size+1,4,nn⟩=sQ (sL a' n' cap')/\Bl w W/\w.heap.size+1<W.heap.size)) kr ?_;have hS:=ED w e i r d a n cap e' i' r' d' a' n' cap';refine tk 0 ?_;refine tk 2 ?_;refine al 1 fun K hK=>?_;go_simp;refine (iY _ _ _ _ _ _ _ _).mono ?_;rintro o w1 ⟨rfl,rfl⟩;go_wp2_with fail;refine hK.out _ _ (mQ _ _ _ _ _ _ _ _ _ _ _ _ _ _ _ _ _ (mQ _ _ _ _ _ _ _ _ _ _ _ _ _ _ _ _ _ hS)) (fun hS2=>?_);clear hS hK K;have hS:=hS2;clear hS2;refine al 3 fun K hK=>?_;go_simp;refine (iY _ _ _ _ _ _ _ _).mono ?_;rintro o w1 ⟨rfl,rfl⟩;go_wp2_with fail;refine hK.out _ _ (mQ _ _ _ _ _ _ _ _ _ _ _ _ _ _ _ _ _ (mQ _ _ _ _ _ _ _ _ _ _ _ _ _ _ _ _ _ hS)) (fun hS2=>?_);clear hS hK K;have hS:=hS2;clear hS2;refine tk 4 ?_;refine tk 5 ?_;first | refine tk 6 ?_ | refine tn 6 ?_
  first | refine tk 7 ?_ | refine tn 7 ?_
  first | refine tk 8 ?_ | refine tn 8 ?_
  first | refine tk 9 ?_ | refine tn 9 ?_
  first | refine tk 10 ?_ | refine tn 10 ?_
  refine tk 11 ?_;refine tk 12 ?_;first | refine tk 13 ?_ | refine tn 13 ?_
  first | refine tk 14 ?_ | refine tn 14 ?_
  first | refine tk 15 ?_ | refine tn 15 ?_
  first | refine tk 16 ?_ | refine tn 16 ?_
  first | refine tk 17 ?_ | refine tn 17 ?_
  refine tk 18 ?_;refine tk 19 ?_;refine tn 20 ?_;refine tn 21 ?_;refine tn 22 ?_;refine tn 23 ?_;refine tn 24 ?_;refine tk 25 ?_;refine tk 26 ?_;have hbl:=hS.2.2.2.2.2.2.2.2.2.2.1;refine QH kr ?_ _;clear hS;go_wp2;go_ret;exact⟨rfl,hbl⟩
def Dq (w:Wd) (e:Bool) (i:Nat) (r:Bool) (d:Int) (a:Option Addr) (n cap:Nat) (l:List Nat) (h:iB w a n cap l)
  (a':Option Addr) (n' cap':Nat) (l':List Nat) (h':iB w a' n' cap' l') :
  Calls Tp 190 #[frV e i r d a n cap,frV e i r d a' n' cap'] w fun o w'=>o = rT (bO (decide (l=l')))/\Bl w w':=by
 have HH:Hid (iB w a n cap l):=h;have HH':Hid (iB w a' n' cap' l'):=h';clear h h';have hd:(d == d)=true:=pQ;have hi:((i:Int) == (i:Int))=true:=pQ;have hq:=fun w=>zO w e r e r;have hqq:((e == e) && (r == r))=true:=pQ;rw[hqq] at hq;have hgd:=ng;go_enter func190,ntmps190;go_wp2;go_region_held3 (fun W=>W.cell? ⟨w.heap.size,0,nn⟩=sQ (bO e)/\W.cell? ⟨w.heap.size,1,nn⟩=sQ (I Zk (i:Int))/\W.cell? ⟨w.heap.size,2,nn⟩=sQ (bO r)/\W.cell? ⟨w.heap.size,3,nn⟩=sQ (I J d)/\W.cell? ⟨w.heap.size,4,nn⟩=sQ (sL a n cap)/\W.cell? ⟨w.heap.size+1,0,nn⟩=sQ (bO e)/\W.cell? ⟨w.heap.size+1,1,nn⟩=sQ (I Zk (i:Int))/\W.cell? ⟨w.heap.size+1,2,nn⟩=sQ (bO r)/\W.cell? ⟨w.heap.size+1,3,nn⟩=sQ (I J d)/\W.cell? ⟨w.heap.size+1,4,nn⟩=sQ (sL a' n' cap')/\Bl w W/\w.heap.size+1<W.heap.size) (first | exact ED w e i r d a n cap e i r d a' n' cap' | exact mQ _ _ _ _ _ _ _ _ _ _ _ _ _ _ _ _ _ (mQ _ _ _ _ _ _ _ _ _ _ _ _ _ _ _ _ _ (by assumption)) | assumption) (first | (go_at_call 222;refine (iY _ _ _ _ _ _ _ _).mono ?_;rintro o w1 ⟨rfl,rfl⟩) | (go_at_call 223;refine (xd _ _ _ _ _ _ _ l l' ?_ ?_).mono ?_;exact HH.o.below (lM (by assumption));exact HH'.o.below (lM (by assumption));rintro o w1 ⟨rfl,rfl⟩))
 rename_i hS;have hbl:=lM hS;clear hS;go_wp2;go_ret;exact⟨rfl,hbl⟩
def pC (w:Wd) (e:Bool) (i:Nat) (r:Bool) (d:Int) (a:Option Addr) (n cap:Nat) (l:List Nat) (h:iB w a n cap l)
  (e':Bool) (i':Nat) (r':Bool) (d':Int) (a':Option Addr) (n' cap':Nat) (l':List Nat) (h':iB w a' n' cap' l') :
  Calls Tp 190 #[frV e i r d a n cap,frV e' i' r' d' a' n' cap'] w fun o w'=>o = rT (bO ((e == e') && (r == r') && ((i:Int) == (i':Int)) && (d == d') && decide (l=l')))/\Bl w w':=by
 cases hh:((e == e') && (r == r'))
 .refine (nX w e i r d a n cap e' i' r' d' a' n' cap' (qr hh)).mono ?_;rintro o w' ⟨rfl,hb⟩;exact⟨rfl,hb⟩
 .cases hi:((i:Int) == (i':Int))
  .refine (nX w e i r d a n cap e' i' r' d' a' n' cap' (qx (qr ⟨hh,hi⟩))).mono ?_;rintro o w' ⟨rfl,hb⟩;exact⟨rfl,hb⟩
  .cases hd:(d == d')
   .refine (nX w e i r d a n cap e' i' r' d' a' n' cap' (qx (qx ⟨hh,hi,hd⟩))).mono ?_;rintro o w' ⟨rfl,hb⟩;exact⟨rfl,hb⟩
   .have e1:e=e':=by simp at hh;exact hh.1
    have e2:r=r':=by simp at hh;exact hh.2
    have e3:i=i':=by simp at hi;omega
    have e4:d=d':=by simpa using hd
    subst e1 e2 e3 e4;refine (Dq w e i r d a n cap l h a' n' cap' l' h').mono ?_;rintro o w' ⟨rfl,hb⟩;exact⟨pQ,hb⟩
def xH (e:Bool) (i:Nat) (r:Bool) (d:Int) (n:Nat) (i':Nat) (d':Int) (k:Nat) (l l':List Nat)
  (hi':(if (536870911:Int)<(i:Int) then (536870911:Int) else (i:Int))=(i':Int)) (hd':(if (15:Int)<(if d<0 then 0 else d) then (15:Int) else (if d<0 then 0 else d))=d') (hk:dl (r && ((n:Int) == 0)) d'=(k:Int))
  (h1:n=k->l'=l) (h2:n≠k->l'≠l) :
  ((e == (e || decide ((2047:Int)<(i:Int)))) && (r == (r && ((n:Int) == 0))) && ((i:Int) == (i':Int)) && (d == d') && decide (l=l'))=vB e i r d n:=by
 have hl:decide (l=l')=decide (n=k):=by
  by_cases h:n=k
  .rw[h1 h];simp[h]
  .have:=h2 h;simp only[h,decide_false,decide_eq_false_iff_not];exact fun e=>this e.symm
 rw[hl];unfold vB;rw[qk];simp only[qw,beq_iff_eq,qV];by_cases hd:0<=d/\d<=15
 .have hdd:d'=d:=by
   rw[<- hd'];have a1:¬ d<0:=om;have a2:¬ (15:Int)<d:=om;simp[a1,a2]
  rw[hdd] at hk;rw[hdd];by_cases hi:(536870911:Int)<(i:Int)
  .rw[qc hi] at hi';constructor
   .rintro⟨⟨⟨⟨_,_⟩,h3⟩,_⟩,_⟩;omega
   .rintro⟨⟨⟨h3,_⟩,_⟩,_⟩;exfalso;cases e
    .simp at h3;omega
    .simp at h3;omega
  .rw[qa hi] at hi';cases e
   .cases r
    .have hkk:dl false d=(k:Int):=hk;simp;rw[hkk];omega
    .have hkk:dl ((n:Int) == 0) d=(k:Int):=by simpa using hk
     by_cases hn:n=0
     .subst hn;have hz:dl true d=0:=by simp[dl]
      have hk0:dl true d=(k:Int):=by simpa using hkk
      simp[hz];omega
     .have hz:dl true d=0:=by simp[dl]
      simp[hz,hn]
   .cases r
    .have hkk:dl false d=(k:Int):=hk;simp;rw[hkk];omega
    .have hkk:dl ((n:Int) == 0) d=(k:Int):=by simpa using hk
     by_cases hn:n=0
     .subst hn;have hz:dl true d=0:=by simp[dl]
      have hk0:dl true d=(k:Int):=by simpa using hkk
      simp[hz];omega
     .have hz:dl true d=0:=by simp[dl]
      simp[hz,hn]
 .constructor
  .rintro⟨⟨_,h4⟩,_⟩;exfalso;rw[<- hd'] at h4;split at h4
   .omega
   .split at h4 <;> omega
  .rintro⟨⟨⟨_,h4⟩,h5⟩,_⟩;exact Qy ⟨h4,h5⟩ hd
def Es (w W W':Wd) (e:Bool) (i:Nat) (r:Bool) (d:Int) (a:Option Addr) (n cap:Nat) (h:W.cell? ⟨w.heap.size,0,nn⟩=sQ (bO e)/\W.cell? ⟨w.heap.size,1,nn⟩=sQ (I Zk (i:Int))/\W.cell? ⟨w.heap.size,2,nn⟩=sQ (bO r)/\W.cell? ⟨w.heap.size,3,nn⟩=sQ (I J d)/\W.cell? ⟨w.heap.size,4,nn⟩=sQ (sL a n cap)/\Bl w W/\w.heap.size<W.heap.size) (hb:Bl W W'):(fun W=>W.cell? ⟨w.heap.size,0,nn⟩=sQ (bO e)/\W.cell? ⟨w.heap.size,1,nn⟩=sQ (I Zk (i:Int))/\W.cell? ⟨w.heap.size,2,nn⟩=sQ (bO r)/\W.cell? ⟨w.heap.size,3,nn⟩=sQ (I J d)/\W.cell? ⟨w.heap.size,4,nn⟩=sQ (sL a n cap)/\Bl w W/\w.heap.size<W.heap.size) W':=by
 obtain⟨h0,h1,h2,h3,h4,hbl,hz⟩:=h;exact⟨(hb.cell (by exact hz)).trans h0,(hb.cell (by exact hz)).trans h1,(hb.cell (by exact hz)).trans h2,(hb.cell (by exact hz)).trans h3,(hb.cell (by exact hz)).trans h4,hbl.trans (hb.mono om),nL hz hb.size⟩
def FF (w:Wd) (e:Bool) (i:Nat) (r:Bool) (d:Int) (a:Option Addr) (n cap:Nat):(fun W=>W.cell? ⟨w.heap.size,0,nn⟩=sQ (bO e)/\W.cell? ⟨w.heap.size,1,nn⟩=sQ (I Zk (i:Int))/\W.cell? ⟨w.heap.size,2,nn⟩=sQ (bO r)/\W.cell? ⟨w.heap.size,3,nn⟩=sQ (I J d)/\W.cell? ⟨w.heap.size,4,nn⟩=sQ (sL a n cap)/\Bl w W/\w.heap.size<W.heap.size) (w.alloc (frC e i r d a n cap 67)).drew:=by
 refine⟨?_,?_,?_,?_,?_,Zw.drew,pQ⟩ <;> go_simp
def kH (h:W.cell? ⟨w.heap.size,0,nn⟩=sQ (bO e)/\W.cell? ⟨w.heap.size,1,nn⟩=sQ (I Zk (i:Int))/\W.cell? ⟨w.heap.size,2,nn⟩=sQ (bO r)/\W.cell? ⟨w.heap.size,3,nn⟩=sQ (I J d)/\W.cell? ⟨w.heap.size,4,nn⟩=sQ (sL a n cap)/\Bl w W/\w.heap.size<W.heap.size):Bl w W:=h.2.2.2.2.2.1
def dU (w:Wd) (e:Bool) (i:Nat) (r:Bool) (d:Int) (a:Option Addr) (n cap:Nat) (l:List Nat) (h:iB w a n cap l) :
  Calls Tp 148 #[frV e i r d a n cap] w fun o w'=>o = rT (bO (vB e i r d n))/\Bl w w':=by
 obtain⟨i',hi'⟩ : ∃ i':Nat,(if (536870911:Int)<(i:Int) then (536870911:Int) else (i:Int))=(i':Int):=by
  split
  .exact⟨536870911,rfl⟩
  .exact⟨i,rfl⟩
 obtain⟨d',hd'⟩ : ∃ d':Int,(if (15:Int)<(if d<0 then 0 else d) then (15:Int) else (if d<0 then 0 else d))=d':=⟨_,rfl⟩
 have hd0:0<=d':=by rw[<- hd'];split <;> (try split) <;> omega
 have hdb:=nj (r && ((n:Int) == 0)) d' hd0;obtain⟨k,hk⟩ : ∃ k:Nat,dl (r && ((n:Int) == 0)) d'=(k:Int):=⟨(dl (r && ((n:Int) == 0)) d').toNat,om⟩
 have hk8:k<=8:=om;have HF:Hid (∀ W:Wd,iB W a n cap l->Calls Tp 191 #[frV e i r d a n cap] W fun o w'=>∃ a' n' cap' l',o = rT (frV (e || decide ((2047:Int)<(i:Int))) i' (r && ((n:Int) == 0)) d' a' n' cap')/\iB w' a' n' cap' l'/\Bl W w'/\(n=k->l'=l)/\(n≠k->l'≠l)):=
  fun W hW=>tJ W e i r d a n cap l hW i' d' k hi' hd' hk hk8
 have HV:Hid (∀ l',(n=k->l'=l)->(n≠k->l'≠l)->((e == (e || decide ((2047:Int)<(i:Int)))) && (r == (r && ((n:Int) == 0))) && ((i:Int) == (i':Int)) && (d == d') && decide (l=l'))=vB e i r d n):=
  fun l' h1 h2=>xH e i r d n i' d' k l l' hi' hd' hk h1 h2
 have HH:Hid (iB w a n cap l):=h;clear h hi' hd' hk hk8 hdb hd0;generalize (e || decide ((2047:Int)<(i:Int)))=e1 at *;generalize (r && ((n:Int) == 0))=r1 at *;go_enter func148,ntmps148;go_wp2;go_region_held3 (fun W=>W.cell? ⟨w.heap.size,0,nn⟩=sQ (bO e)/\W.cell? ⟨w.heap.size,1,nn⟩=sQ (I Zk (i:Int))/\W.cell? ⟨w.heap.size,2,nn⟩=sQ (bO r)/\W.cell? ⟨w.heap.size,3,nn⟩=sQ (I J d)/\W.cell? ⟨w.heap.size,4,nn⟩=sQ (sL a n cap)/\Bl w W/\w.heap.size<W.heap.size) (first | exact FF w e i r d a n cap | exact Es _ _ _ _ _ _ _ _ _ _ (by assumption) (by assumption) | assumption) (first | (go_at_call 191;refine (HF.o _ (HH.o.below (kH (by assumption)))).mono ?_;rintro o w1 ⟨a',n',cap',l',rfl,hby,hbel,hc1,hc2⟩;have HC:Hid ((n=k->l'=l)/\(n≠k->l'≠l)):=⟨hc1,hc2⟩;clear hc1 hc2) | (go_at_call 190;refine (pC _ _ _ _ _ _ _ _ l (HH.o.below (kH (by assumption))) _ _ _ _ _ _ _ l' hby).mono ?_;rw[HV.o l' HC.o.1 HC.o.2];rintro o w2 ⟨rfl,hbel2⟩))
 rename_i hS;have hbl:=kH hS;clear hS;go_wp2;go_ret;exact⟨rfl,hbl⟩
end
end Go.Proofs.YtgfolecanghhhaaGreat
