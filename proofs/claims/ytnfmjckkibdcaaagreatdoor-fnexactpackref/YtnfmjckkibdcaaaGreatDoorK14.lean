import Derived.Test.YtnfmjckkibdcaaaGreatDoorK13
import Derived.Lib.OthersKept
import Derived.Laws.IdiomStrings
import Derived.Deep.RegionWith
import Derived.Deep.RegionHeld3
namespace Go.Proofs.YtnfmjckkibdcaaaGreatDoor
set_option linter.all false
open Go.RowKit
namespace M
end M
namespace M
end M
set_option linter.unusedSimpArgs false
namespace M
end M
open Option renaming none->nn,some->sQ
open Go.Value renaming int->I,slice->sL,bool->bO,pointer->pT,agg->aG
open Go.IntKind renaming i64->J
open Go.Ending renaming returned->rT
open Go.Proofs.Tryz renaming prog->Tp
variable {w:World} {B:Nat} {l:List Nat} {ops:Array Oper} {rest:List Oper} {o:Oper} {a:Act} {Q:Exit->Act->World->Prop} {v:Value}
def wv (l:List Nat):List Value:=l.map (fun x:Nat=>Value.int .u64 (x:Int))
def Ep (l:List Nat) (j:Nat) (h:j<l.length):(wv l)[j]?=sQ (Value.int .u64 (l[j]:Int)):=by simp[wv,h]
def an (w:World) (B:Nat) (v:Value) (l:List Nat):Prop:=w.ownsRow B 125 1 v l.length (wv l)
def Aq (w0 wr:World) (hgd:o.guard=nn) (s x:Operand)
  (ho:o.op = .call { callee:=.builtin .append,args:=#[s,x],argTypes:=#[50,50] })
  (B:Nat) (v:Value) (l:List Nat) (c:Nat) (ci:Int) (hci:ci=(c:Int)) (hs:a.eval s=v) (hown:an wr B v l)
  (hx:a.eval x = sL (sQ ⟨wr.heap.size,0,nn⟩) 1 1) (hlen:l.length<=1000000) (hB:B<=wr.heap.size) (hbel:Below B w0 wr)
  (h:∀ v' w',an w' B v' (l++[c])->Below B w0 w'->B<=w'.heap.size->wpList Tp ops Q rest (a.put o.dst v') w') :
  wpList Tp ops Q (o :: rest) a (wr.alloc (.cells #[I .u64 ci] 125)):=by
 subst hci;obtain⟨i0,hi,hz0,hz1,hz2⟩:=QX Tryz.info125;refine Q2 _ hgd s x 50 ho B 125 i0 (I .u64 0) 1 8 Tryz.underlying50 hi hz0 hz1 hz2 rfl (by decide) v l.length (wv l) hs (QN hown _) ⟨wr.heap.size,0,nn⟩ 1 1 [I .u64 (c:Int)] hx rfl ?_ ?_ ?_ ?_ ?_ ?_
 .intro j u hj;match j,hj with
  | 0,hj=>simp at hj;subst hj;simp[Addr.add]
 .intro u hu;simp at hu;subst hu;rfl
 .unfold maxLen;omega
 .omega
 .simp;omega
 .intro v' w' ho' hg _;have hr:∀ k,v.ownBlock=sQ k->B<=k:=fun k hk=>(QC hown k hk).1;refine h v' w' ?_ ((hbel.alloc hB _).grown hg (by simp;omega) hr) (nT (by simp;omega) hg.size);have e1:wv (l++[c])=wv l++[I .u64 (c:Int)]:=by simp[wv]
  unfold an;rw[e1,qe];exact ho'
def an.kind (h:an w B v l):∀ g,v.ownBlock=sQ g->∃ c fz,w.heap[g]?=sQ (.cells c 125 fz):=by
 intro g hg;obtain⟨_,⟨rfl,_⟩|⟨g',cap,cur,rfl,_,hh,_⟩⟩:=h
 .simp[Value.ownBlock] at hg
 .simp[Value.ownBlock] at hg;subst hg;exact⟨cur,_,hh⟩
def nv (w0 wr:World) (hgd:o.guard=nn) (s x:Operand)
  (ho:o.op = .call { callee:=.builtin .append,args:=#[s,x],argTypes:=#[50,50] })
  (B:Nat) (v:Value) (l:List Nat) (c:Nat) (ci:Int) (hci:ci=(c:Int)) (hs:a.eval s=v) (hown:an wr B v l)
  (hx:a.eval x = sL (sQ ⟨wr.heap.size,0,nn⟩) 1 1) (hlen:l.length<=1000000) (hB:B<=wr.heap.size) (hbel:Below B w0 wr)
  (h:∀ v' w',an w' B v' (l++[c])->Below B w0 w'->Lib.OthersKept 125 nn wr w'->B<=w'.heap.size->wpList Tp ops Q rest (a.put o.dst v') w') :
  wpList Tp ops Q (o :: rest) a (wr.alloc (.cells #[I .u64 ci] 125)):=by
 subst hci;obtain⟨i0,hi,hz0,hz1,hz2⟩:=QX Tryz.info125;refine Q2 _ hgd s x 50 ho B 125 i0 (I .u64 0) 1 8 Tryz.underlying50 hi hz0 hz1 hz2 rfl (by decide) v l.length (wv l) hs (QN hown _) ⟨wr.heap.size,0,nn⟩ 1 1 [I .u64 (c:Int)] hx rfl ?_ ?_ ?_ ?_ ?_ ?_
 .intro j u hj;match j,hj with
  | 0,hj=>simp at hj;subst hj;simp[Addr.add]
 .intro u hu;simp at hu;subst hu;rfl
 .unfold maxLen;omega
 .omega
 .simp;omega
 .intro v' w' ho' hg _;have hr:∀ k,v.ownBlock=sQ k->B<=k:=fun k hk=>(QC hown k hk).1;refine h v' w' ?_ ((hbel.alloc hB _).grown hg (by simp;omega) hr) (((QW 125 nn wr).alloc _).grown hg ?_) (nT (by simp;omega) hg.size)
  .have e1:wv (l++[c])=wv l++[I .u64 (c:Int)]:=by simp[wv]
   unfold an;rw[e1,qe];exact ho'
  .intro g hg';exact an.kind (B:=B) (l:=l) (QN hown _) g hg'
def yy (w:World) (B:Nat) (hB:B<=w.heap.size):an (w.alloc (.cells #[] 125)) B (sL (sQ ⟨w.heap.size,0,nn⟩) 0 0) []:=
 World.ownsRow_made w #[] 0 hB (by decide) rfl
def an.open (h:an w B v l) (hl:l≠[]) :
  ∃ g cap,v = sL (sQ ⟨g,0,nn⟩) l.length cap/\B<=g/\g<w.heap.size/\l.length<=cap/\cap<=maxLen/\yl w g l.length (fun t=>l.getD t 0):=by
 have h':=h;obtain⟨_,h1|⟨g,cap,cur,rfl,hb,hh,hc,hm,hsz,htk⟩⟩:=h
 .exact Qz (List.length_eq_zero_iff.1 h1.2) hl
 .refine⟨g,cap,rfl,hb,(QC h' g rfl).2,hc,hm,fun t ht=>?_,fun t ht=>?_⟩
  .rw[QZ h' t om,Ep l t ht];simp[List.getD,ht]
  .exact QV h' t
def an.stored {g cap:Nat} (h:an w B (sL (sQ ⟨g,0,nn⟩) l.length cap) l) (j x:Nat):an (w.setCell ⟨g,j,nn⟩ (I .u64 (x:Int))) B (sL (sQ ⟨g,0,nn⟩) l.length cap) (l.set j x):=by
 have:=(World.ownsRow.stored h j (I .u64 (x:Int))).1;unfold an;have e:wv (l.set j x)=(wv l).set j (I .u64 (x:Int)):=by simp[wv,List.map_set]
 rw[e,qK];exact this
set_option maxRecDepth 20000
set_option maxHeartbeats 16000000
variable {w:World} {B i:Nat} {l:List Nat} {v:Value}
def fb (s:ByteArray) (i:Nat):Nat:=if h:i<s.size then (if s[i].toNat=49 then 1 else 0) else 0
def PV (s:ByteArray) (q:Nat):Nat->Nat
 | 0=>0
 | j+1=>2*PV s q j+fb s (64*q+j)
def CJ (s:ByteArray) (i:Nat):fb s i<2:=by
 unfold fb;split
 .split <;> decide
 .decide
def CS (s:ByteArray) (q j:Nat):PV s q j<2 ^ j:=by
 induction j with
 | zero=>simp[PV]
 | succ j ih=>
  have:=CJ s (64*q+j);simp only[PV,qI];omega
def pkL (s:ByteArray) (m:Nat):List Nat:=(List.range m).map fun q=>PV s q 64
def yx (s:ByteArray) (m:Nat):pkL s (m+1)=pkL s m++[PV s m 64]:=by simp[pkL,List.range_succ]
def n8 (s:ByteArray) (m:Nat):(pkL s m).length=m:=by simp[pkL]
def an.words {ao:Option Addr} {n cap:Nat} (h:an w B (sL ao n cap) l) (hn:n=l.length) (hs:∀ x ∈ l,x<18446744073709551616) (hc:n<=cap):bP w ao n cap l:=by
 refine⟨hn,hc,hs,fun hl=>?_⟩;obtain⟨g,cap',e,_,_,_,_,hr⟩:=h.open hl;cases e;refine⟨g,0,rfl,fun j hj=>?_⟩;rw[qi,hr.cell j hj,eB l j hj]
def xv {ops:Array Oper} {rest:List Oper} {o:Oper} {a:Act} {Q:Exit->Act->World->Prop} (w0 wr:World) (hgd:o.guard=nn) (s x:Operand)
  (ho:o.op = .call { callee:=.builtin .append,args:=#[s,x],argTypes:=#[50,50] })
  (B:Nat) (v:Value) (l:List Nat) (c:Nat) (ci:Int) (hci:ci=(c:Int)) (hs:a.eval s=v) (hown:an wr B v l)
  (hx:a.eval x = sL (sQ ⟨wr.heap.size,0,nn⟩) 1 1) (hlen:l.length<=1000000) (hB:B<=wr.heap.size) (hbel:Below B w0 wr)
  (h:∀ v' w',an w' B v' (l++[c])->Below B w0 w'->B<=w'.heap.size->wpList Tp ops Q rest (a.put o.dst v') w') :
  wpList Tp ops Q (o :: rest) a (wr.alloc (.cells #[I .u64 ci] 125)):=
 Aq w0 wr hgd s x ho B v l c ci hci hs hown hx hlen hB hbel h
def an.otherBlock {w':World} (h:an w B v l) (hk:∀ g,v.ownBlock=sQ g->w'.heap[g]?=w.heap[g]?):an w' B v l:=by
 obtain⟨h1,h2|⟨g,cap,cur,rfl,hb,hh,rest⟩⟩:=h
 .exact⟨h1,.inl h2⟩
 .exact⟨h1,.inr ⟨g,cap,cur,rfl,hb,(hk g (by simp[Value.ownBlock])).trans hh,rest⟩⟩
def an.setCellO (h:an w B v l) (b j:Nat) (x:Value) (hb:b<B):an (w.setCell ⟨b,j,nn⟩ x) B v l:=
 h.otherBlock fun g hg=>QB w ⟨b,j,nn⟩ g x (by have:=(QC h g hg).1;show g≠b;omega)
def Cr (s:ByteArray) (q j:Nat) (h:j<64):PV s q j<9223372036854775808:=
 nL (CS s q j) (qt (by decide) (by omega:j<=63))
def DY {s:ByteArray} (h:i<s.size) (hh:(s[i].toNat:Int)=49):fb s i=1:=by
 unfold fb;rw[dif_pos h,qc om]
def BO {s:ByteArray} (h:i<s.size) (hh:¬ (s[i].toNat:Int)=49):fb s i=0:=by
 unfold fb;rw[dif_pos h,qa om]
def zL {s:ByteArray} (h:¬ i<s.size):fb s i=0:=by
 unfold fb;rw[dif_neg h]
def Dv {wr:World} (hb:Below (w.heap.size+1) (w.alloc (pkC 0 nn 0 0 52)) wr) :
  wr.cell? ⟨w.heap.size,0,nn⟩=sQ (I J 0)/\wr.cell? ⟨w.heap.size,1,nn⟩=sQ (sL nn 0 0)/\wr.frozen? ⟨w.heap.size,0,nn⟩=false/\wr.frozen? ⟨w.heap.size,1,nn⟩=false/\Bl w wr:=by
 refine⟨(hb.cell (p:=⟨w.heap.size,0,nn⟩) pQ).trans pQ,(hb.cell (p:=⟨w.heap.size,1,nn⟩) pQ).trans pQ,(hb.frozen (p:=⟨w.heap.size,0,nn⟩) pQ).trans pQ,(hb.frozen (p:=⟨w.heap.size,1,nn⟩) pQ).trans pQ,?_⟩;exact ((bW _ _).alloc (nR _) _).trans (hb.mono om)
def py (s:ByteArray) (w:World) (hs:okT s 4000=true) (hz:s.size<=4000) :
  Calls Tp 23 #[.string s] w fun o w'=>∃ ao cap,o = rT (pkV (s.size:Int) ao ((s.size+63) / 64) cap)/\an w' (w.heap.size+1) (sL ao ((s.size+63) / 64) cap) (pkL s ((s.size+63) / 64))/\Bl w w':=by
 have HS:Hid (okT s 4000=true):=hs;clear hs;go_enter Tryz.func23,Tryz.ntmps23;go_wp2_with (first | (go_at_call 58;refine (dD _ _ _ (by unfold maxLen;omega)).mono ?_;rw[HS.o];rintro o w1 ⟨rfl,rfl⟩));have hown:an ((w.alloc (pkC 0 nn 0 0 52)).alloc (.cells #[] 125)) (w.heap.size+1) (sL (sQ ⟨w.heap.size+1,0,nn⟩) 0 0) (pkL s 0):=by
  have:=yy (w.alloc (pkC 0 nn 0 0 52)) (w.heap.size+1) pQ;simpa[pkL] using this
 have hb0:Below (w.heap.size+1) (w.alloc (pkC 0 nn 0 0 52)) ((w.alloc (pkC 0 nn 0 0 52)).alloc (.cells #[] 125)):=(bW _ _).alloc pQ _;go_loopw [3,4] (fun v i wr=>∃ (k:Nat) (ao:Option Addr) (cp:Nat),v = sL ao k cp/\k<=(s.size+63) / 64/\i = I J (k:Int)/\an wr (w.heap.size+1) v (pkL s k)/\Below (w.heap.size+1) (w.alloc (pkC 0 nn 0 0 52)) wr/\w.heap.size+1<=wr.heap.size) (fun _ i _=>(s.size+63) / 64-(intOf i).toNat);case atStart=>exact⟨0,_,_,rfl,nZ _,rfl,hown,hb0,pQ⟩
 case round=>
  clear hown hb0;obtain⟨k,ao,cp,rfl,hk,rfl,hown,hb,hzz⟩:=hrel;have HZ:Hid (Below (w.heap.size+1) (w.alloc (pkC 0 nn 0 0 52)) wr/\an wr (w.heap.size+1) (sL ao k cp) (pkL s k)):=⟨hb,hown⟩
  clear hb hown;by_cases hlt:64*k<s.size
  .have hd:decide (64*(k:Int)<(s.size:Int))=true:=by simp;omega
   go_wp2;go_loopw [5,6] (fun v i V=>∃ j:Nat,j<=64/\i = I J (j:Int)/\v = I .u64 (PV s k j:Int)/\V=wr) (fun _ i _=>64-(intOf i).toNat);case atStart=>exact⟨0,by decide,rfl,rfl,rfl⟩
   case round=>
    obtain⟨j,hj,rfl,rfl,rfl⟩:=hrel;by_cases hj2:j<64
    .have hx:=Cr s k j hj2;have HP:Hid (PV s k (j+1)=2*PV s k j+fb s (64*k+j)):=rfl;generalize PV s k j=x at *;by_cases hi:64*k+j<s.size
     .by_cases h1:(s[64*k+j].toNat:Int)=49
      .have HF:Hid (fb s (64*k+j)=1):=DY hi h1;go_wp2;go_roundw;case rel=>exact⟨j+1,om,by go_num,by rw[HP.o,HF.o];go_num,trivial⟩
       case measure=>simp[intOf];omega
      .have HF:Hid (fb s (64*k+j)=0):=BO hi h1;have h1':((s[64*k+j].toNat:Int) == 49)=false:=by simpa using h1
       clear h1;go_wp2;go_roundw;case rel=>exact⟨j+1,om,by go_num,by rw[HP.o,HF.o];go_num,trivial⟩
       case measure=>simp[intOf];omega
     .have HF:Hid (fb s (64*k+j)=0):=zL hi;go_wp2;go_roundw;case rel=>exact⟨j+1,om,by go_num,by rw[HP.o,HF.o];go_num,trivial⟩
      case measure=>simp[intOf];omega
    .have hj3:j=64:=om;subst hj3;have HL:Hid (pkL s (k+1)=pkL s k++[PV s k 64]/\(pkL s k).length=k):=⟨yx s k,n8 s k⟩
     generalize PV s k 64=x at *;go_wp2_with (first | (at_builtin;refine xv (w.alloc (pkC 0 nn 0 0 52)) wr rfl (.tmp 43) (.tmp 45) rfl (w.heap.size+1) _ (pkL s k) x _ rfl rfl HZ.o.2 rfl (by have:=HL.o.2;omega) hzz HZ.o.1 ?_));intro v2 w2 ho2 hb2 hz2;have ho3:an w2 (w.heap.size+1) v2 (pkL s (k+1)):=by rw[HL.o.1];exact ho2
     obtain⟨g5,cp5,e5,-,-,-,-,-⟩:=ho3.open (by intro e;have:=n8 s (k+1);rw[e] at this;simp at this);rw[n8] at e5;subst e5;go_wp2;go_roundw;case rel=>exact⟨k+1,_,_,rfl,om,by go_num,ho3,hb2,hz2⟩
     case measure=>simp[intOf];omega
  .have hkk:k=(s.size+63) / 64:=om;subst hkk;obtain⟨c0,c1,f0,f1,hB⟩:=Dv HZ.o.1;go_wp2;refine QF (v:=pkV (s.size:Int) ao ((s.size+63) / 64) cp) (by simp[results,Tryz.results23,go_sem,c0,c1]) rfl ?_;have H2:=(HZ.o.2.setCellO w.heap.size 0 (I J (s.size:Int)) om).setCellO w.heap.size 1 (sL ao ((s.size+63) / 64) cp) om;exact⟨ao,cp,rfl,H2,(hB.setCell (p:=⟨_,0,nn⟩) pQ _).setCell (p:=⟨_,1,nn⟩) pQ _⟩
def Ch (w:World) (b g cap m n q r x:Nat) (L:Nat) (hL:L<2) (hn:n<=4000)
  (c0:w.cell? ⟨b,0,nn⟩=sQ (I J (n:Int))) (c1:w.cell? ⟨b,1,nn⟩=sQ (sL (sQ ⟨g,0,nn⟩) m cap)) (c2:w.cell? ⟨b,2,nn⟩=sQ (bO false))
  (f0:w.frozen? ⟨b,0,nn⟩=false) (hgb:¬ b=g)
  (e3:(n:Int).tdiv 64=(q:Int)) (e4:(n:Int).tmod 64=(r:Int)) (hr:((r:Int) == 0)=false) (hr2:r<64) (hq:q<m) (hq3:q<=1000) (hc:w.cell? ⟨g,q,nn⟩=sQ (I .u64 (x:Int))) (hf:w.frozen? ⟨g,q,nn⟩=false) :
  Calls Tp 281 #[pT (sQ ⟨b,0,nn⟩),I J (L:Int)] w fun o w'=>o = rT (.tuple #[])/\w'=((w.setCell ⟨g,q,nn⟩ (I .u64 (bits BinOp.or IntKind.u64 (x:Int) (IntKind.u64.wrap ((L:Int)*2 ^ (63-r)))))).setCell ⟨b,0,nn⟩ (I J ((n:Int)+1))).drew:=by
 go_enter Tryz.func281,Tryz.ntmps281;go_wp2;go_region;go_wp2;refine bN ?_;exact⟨rfl,rfl⟩
def Dx (x L r:Nat) (hL:L<2) (hr:r<64) (hx:x<18446744073709551616) (hd:x % 2 ^ (64-r)=0) :
  bits BinOp.or IntKind.u64 (x:Int) (IntKind.u64.wrap ((L:Int)*2 ^ (63-r)))=((x+L*2 ^ (63-r):Nat):Int):=by
 have hp:L*2 ^ (63-r)<2 ^ (64-r):=by
  have e:64-r=(63-r)+1:=om;rw[e,qI];have:0<2 ^ (63-r):=qX pQ;have:L*2 ^ (63-r)<=1*2 ^ (63-r):=qD _ om;omega
 have h64:(2:Nat) ^ (64-r)<=2 ^ 64:=qt (by decide) om;have hy:L*2 ^ (63-r)<18446744073709551616:=nL hp h64;rw[oY,Qp om,u64_or_nat _ _ hx hy];congr 1;obtain⟨k,hk⟩ : ∃ k,x=2 ^ (64-r)*k:=Nat.dvd_of_mod_eq_zero hd;subst hk;rw[Qe hp]
def Cg (w:World) (b n q:Nat) (v:Value) (l:List Nat) (L:Nat) (hL:L<2) (hn:n<=4000) (hl:l.length=q) (hbz:b<w.heap.size) (own:an w (b+1) v l)
  (c0:w.cell? ⟨b,0,nn⟩=sQ (I J (n:Int))) (c1:w.cell? ⟨b,1,nn⟩=sQ v) (c2:w.cell? ⟨b,2,nn⟩=sQ (bO false))
  (f0:w.frozen? ⟨b,0,nn⟩=false) (f1:w.frozen? ⟨b,1,nn⟩=false)
  (e3:(n:Int).tdiv 64=(q:Int)) (e4:(n:Int).tmod 64=0) (hq3:q<=1000) :
  Calls Tp 281 #[pT (sQ ⟨b,0,nn⟩),I J (L:Int)] w fun o w'=>∃ w1 g cp,an w1 (b+1) (sL (sQ ⟨g,0,nn⟩) (q+1) cp) (l++[0])/\Below (b+1) w w1/\Lib.OthersKept 125 nn w w1/\o = rT (.tuple #[])/\w'=(((w1.setCell ⟨b,1,nn⟩ (sL (sQ ⟨g,0,nn⟩) (q+1) cp)).setCell ⟨g,q,nn⟩ (I .u64 (bits BinOp.or IntKind.u64 0 ((L:Int)*9223372036854775808)))).setCell ⟨b,0,nn⟩ (I J ((n:Int)+1))).drew:=by
 have HO:Hid (an w (b+1) v l):=own;have HL:Hid (l.length=q):=hl;clear own hl;go_enter Tryz.func281,Tryz.ntmps281;go_wp2_with (first | (at_builtin;refine nv w w rfl (.tmp 14) (.tmp 15) rfl (b+1) _ l 0 _ rfl rfl HO.o rfl (by have:=HL.o;omega) om (bW _ _) ?_));intro v1 w1 ho1 hb1 hk1 hz1;obtain⟨g,cp,e,hgB,hgz,hcp,hcm,hrow⟩:=ho1.open pQ;have hlen:(l++[0]).length=q+1:=by simp[HL.o]
 rw[hlen] at e hcp hrow;subst e;have hc:w1.cell? ⟨g,q,nn⟩=sQ (I .u64 0):=by
  rw[hrow.cell q om];have:=HL.o;subst this;simp[List.getD]
 have hf:=hrow.free q om;have d0:=(hb1.cell (p:=⟨b,0,nn⟩) pQ).trans c0;have d2:=(hb1.cell (p:=⟨b,2,nn⟩) pQ).trans c2;have d1:=(hb1.cell (p:=⟨b,1,nn⟩) pQ).trans c1;have g0:=(hb1.frozen (p:=⟨b,0,nn⟩) pQ).trans f0;have g1:=(hb1.frozen (p:=⟨b,1,nn⟩) pQ).trans f1;have HR:Hid (an w1 (b+1) (sL (sQ ⟨g,0,nn⟩) (q+1) cp) (l++[0])/\Below (b+1) w w1/\Lib.OthersKept 125 nn w w1):=⟨ho1,hb1,hk1⟩
 have hgb:¬ b=g:=om;clear ho1 hb1 hk1 hrow hlen c0 c1 c2 f0 f1 hcm;go_wp2;go_region;go_wp2;refine bN ?_;exact⟨w1,g,cp,HR.o.1,HR.o.2.1,HR.o.2.2,rfl,rfl⟩
variable {w:World} {b:Option Nat}
def wq (s:ByteArray) (n q:Nat):Nat:=PV s q (min 64 (n-64*q))*2 ^ (64-min 64 (n-64*q))
def wn (s:ByteArray) (n:Nat):List Nat:=(List.range ((n+63) / 64)).map (wq s n)
def jy (s:ByteArray) (n:Nat):(wn s n).length=(n+63) / 64:=by simp[wn]
def Ct (s:ByteArray) (n q:Nat):wq s n q<18446744073709551616:=by
 unfold wq;have h:=CS s q (min 64 (n-64*q));have hm:min 64 (n-64*q)<=64:=Nat.min_le_left _ _;generalize min 64 (n-64*q)=r at *;have e:(2:Nat) ^ r*2 ^ (64-r)=18446744073709551616:=by rw[<- Nat.pow_add,show r+(64-r)=64 by omega]
 rw[<- e];exact Nat.mul_lt_mul_of_pos_right h (qX pQ)
def uk (s:ByteArray) (n q:Nat) (h:64*q+64<=n):wq s (n+1) q=wq s n q:=by
 unfold wq;rw[show min 64 (n+1-64*q)=64 by omega,show min 64 (n-64*q)=64 by omega]
def uj (s:ByteArray) (q r:Nat) (h:r<64):wq s (64*q+r+1) q=wq s (64*q+r) q+fb s (64*q+r)*2 ^ (63-r):=by
 unfold wq;rw[show min 64 (64*q+r+1-64*q)=r+1 by omega,show min 64 (64*q+r-64*q)=r by omega];show (2*PV s q r+fb s (64*q+r))*_=_;have e:64-r=(63-r)+1:=om;rw[show 64-(r+1)=63-r by omega,e,qI,Nat.add_mul];congr 1;rw[Qt 2 (PV s q r),Nat.mul_assoc,Qt 2]
def C1 (s:ByteArray) (q r:Nat) (h:r<64):wq s (64*q+r) q % 2 ^ (64-r)=0:=by
 unfold wq;rw[show min 64 (64*q+r-64*q)=r by omega];exact Nat.mul_mod_left _ _
def Az (s:ByteArray) (q:Nat):wq s (64*q) q=0:=by
 unfold wq;rw[show min 64 (64*q-64*q)=0 by omega];simp[PV]
def o7 (s:ByteArray) (n q:Nat) (h:q<(wn s n).length):(wn s n)[q]=wq s n q:=by simp[wn]
def C3 (s:ByteArray) (q r:Nat) (h0:0<r) (h:r<64):wn s (64*q+r+1)=(wn s (64*q+r)).set q (wq s (64*q+r) q+fb s (64*q+r)*2 ^ (63-r)):=by
 apply List.ext_getElem
 .simp only[qK,jy];omega
 .intro i h1 h2;rw[o7,List.getElem_set];split
  .subst i;exact uj s q r h
  .rw[o7];rw[jy] at h1;exact uk s _ _ om
def C2 (s:ByteArray) (q:Nat):wn s (64*q+1)=(wn s (64*q)++[0]).set q (fb s (64*q)*2 ^ 63):=by
 apply List.ext_getElem
 .simp only[qK,qe,qm,jy];omega
 .intro i h1 h2;have hl:=jy s (64*q);rw[o7,List.getElem_set];split
  .subst i;have:=uj s q 0 (by decide);simp only[Nat.add_zero,Az,qi] at this;exact this
  .rw[jy] at h1;rw[qO om,o7];exact uk s _ _ om
def Ef (s:ByteArray) (q r:Nat) (h:s.size<=64*q+r) (d:Nat):PV s q (r+d)=PV s q r*2 ^ d:=by
 induction d with
 | zero=>simp
 | succ d ih=>
  show 2*PV s q (r+d)+fb s (64*q+(r+d))=_;rw[ih,zL om,qI,Nat.add_zero,Qt 2,Nat.mul_assoc]
def C4 (s:ByteArray):wn s s.size=pkL s ((s.size+63) / 64):=by
 unfold wn pkL;apply Qn;intro q hq;rw[List.mem_range] at hq;unfold wq;by_cases h:64*q+64<=s.size
 .rw[show min 64 (s.size-64*q)=64 by omega];simp
 .have hm:min 64 (s.size-64*q)=s.size-64*q:=om;rw[hm];have:=Ef s q (s.size-64*q) om (64-(s.size-64*q));rw[show s.size-64*q+(64-(s.size-64*q))=64 by omega] at this;exact this.symm
def DO (L:Nat) (hL:L<2):bits BinOp.or IntKind.u64 0 ((L:Int)*9223372036854775808)=((L*2 ^ 63:Nat):Int):=by
 have:=u64_or_nat 0 (L*2 ^ 63) (by decide) om;rw[Nat.zero_or] at this;rw[<- this];congr 1
def m7 {a:World} (h:Lib.OthersKept 125 b a w) {g:Nat} (hg:∃ c fz,w.heap[g]?=sQ (.cells c 125 fz)) (j:Nat) (x:Value):Lib.OthersKept 125 b a (w.setCell ⟨g,j,nn⟩ x):=by
 intro k o hk hb ho;have h1:=h k o hk hb ho;rw[QB w ⟨g,j,nn⟩ k x (fun e=>?_)]
 .exact h1
 .obtain⟨c,fz,hc⟩:=hg;have e':k=g:=e;subst e';rw[h1] at hc;exact ho c fz (Qd hc)
def wJ {w':World} (h:Lib.OthersKept 125 nn w w'):Lib.OthersKept 125 b w w':=fun k o hk _ ho=>h k o hk pQ ho
def zj {w1:World} {b g q n:Nat} (hk:Lib.OthersKept 125 nn w w1) (hg:∃ c fz,w1.heap[g]?=sQ (.cells c 125 fz)) (e:g≠b) {X:Int} {v:Value} :
  Lib.OthersKept 125 (sQ b) w (((w1.setCell ⟨b,1,nn⟩ v).setCell ⟨g,q,nn⟩ (I .u64 X)).setCell ⟨b,0,nn⟩ (I J ((n:Int)+1))).drew:=by
 refine ((m7 ((wJ hk).setCell ⟨b,1,nn⟩ rfl v) ?_ q _).setCell ⟨b,0,nn⟩ rfl _).drew;obtain⟨c,fz,hc⟩:=hg;exact⟨c,fz,(QB w1 ⟨b,1,nn⟩ g v e).trans hc⟩
variable {w:World} {B:Nat} {l:List Nat} {v:Value}
def gh (w:World) (B:Nat):an w B (sL none 0 0) []:=⟨by simp[wv],.inl ⟨rfl,rfl⟩⟩
def an.slice (h:an w B v l):∃ ao cp,v = sL ao l.length cp/\l.length<=cp:=by
 obtain⟨_,⟨rfl,h2⟩|⟨g,cap,cur,rfl,hb,hh,hc,_⟩⟩:=h
 .exact⟨none,0,by rw[h2],om⟩
 .exact⟨_,cap,rfl,hc⟩
def an.lower {B':Nat} (h:an w B v l) (hB:B'<=B):an w B' v l:=by
 obtain⟨h1,h2|⟨g,cap,cur,rfl,hb,rest⟩⟩:=h
 .exact⟨h1,.inl h2⟩
 .exact⟨h1,.inr ⟨g,cap,cur,rfl,om,rest⟩⟩
def an.cap {ao:Option Addr} {n cp:Nat} (h:an w B (sL ao n cp) l) (hn:n=l.length):n<=cp:=by
 obtain⟨ao',cp',e,h2⟩:=h.slice;cases e;omega
variable {q n b:Nat} {x2 x3 x4:Value}
def lN {s t:ByteArray}:∀ j,(∀ i,i<j->fb s (64*q+i)=fb t (64*q+i))->PV s q j=PV t q j
 | 0,_=>rfl
 | j+1,h=>by
  show 2*PV s q j+fb s (64*q+j)=2*PV t q j+fb t (64*q+j);rw[lN j (fun i hi=>h i om),h j om]
def xF {s t:ByteArray} (h:∀ i,i<n->fb s i=fb t i):wn s n=wn t n:=by
 unfold wn;apply Qn;intro q hq;unfold wq;rw[lN _ (fun i hi=>h _ (by have:=Nat.min_le_right 64 (n-64*q);omega))]
def jL (l:List Nat) (i:Nat) (h:i<l.length) (hl:∀ x ∈ l,M.isL x):fb (ae l) i=l[i]-48:=by
 have hs:(ae l).size=l.length:=by simp[ae,ByteArray.size]
 have hx:=hl l[i] (qn h);unfold fb;rw[dif_pos om];have e:((ae l)[i]'om).toNat=l[i]:=by
  show (UInt8.toNat ((l.map UInt8.ofNat).toArray[i]'(by simp;omega)))=_;simp;rcases hx with hx | hx <;> omega
 rw[e];rcases hx with hx | hx <;> rw[hx] <;> rfl
def wl (o:List Nat):List Nat:=wn (ae o) o.length
def kD (o:List Nat) (c:Nat) (ho:∀ x ∈ o,M.isL x) (hc:M.isL c):wn (ae (o++[c])) o.length=wl o:=by
 refine xF fun i hi=>?_;rw[jL (o++[c]) i (by simp;omega) (by intro x hx;rw[qC] at hx;rcases hx with hx | hx;exact ho x hx;simp at hx;subst hx;exact hc),jL o i hi ho,qO hi]
def va (o:List Nat) (c:Nat) (ho:∀ x ∈ o,M.isL x) (hc:M.isL c):fb (ae (o++[c])) o.length=c-48:=by
 rw[jL (o++[c]) o.length pQ (by intro x hx;rw[qC] at hx;rcases hx with hx | hx;exact ho x hx;simp at hx;subst hx;exact hc)];simp
def C5 (o:List Nat) (c:Nat) (ho:∀ x ∈ o,M.isL x) (hc:M.isL c) (hr:o.length % 64=0):wl (o++[c])=(wl o++[0]).set (o.length / 64) ((c-48)*2 ^ 63):=by
 have:=C2 (ae (o++[c])) (o.length / 64);rw[show 64*(o.length / 64)=o.length by omega,kD o c ho hc,va o c ho hc] at this;unfold wl at this ⊢;rw[qe];exact this
def C6 (o:List Nat) (c:Nat) (ho:∀ x ∈ o,M.isL x) (hc:M.isL c) (hr:¬ o.length % 64=0):wl (o++[c])=(wl o).set (o.length / 64) (wq (ae o) o.length (o.length / 64)+(c-48)*2 ^ (63-o.length % 64)):=by
 have e:=kD o c ho hc;have:=C3 (ae (o++[c])) (o.length / 64) (o.length % 64) om om;rw[show 64*(o.length / 64)+o.length % 64=o.length by omega,e,va o c ho hc] at this;have e2:wq (ae (o++[c])) o.length (o.length / 64)=wq (ae o) o.length (o.length / 64):=by
  unfold wq;rw[lN _ (fun i hi=>?_)];have hi':64*(o.length / 64)+i<o.length:=by have:=Nat.min_le_right 64 (o.length-64*(o.length / 64));omega
  rw[jL (o++[c]) _ (by simp;omega) (by intro x hx;rw[qC] at hx;rcases hx with hx | hx;exact ho x hx;simp at hx;subst hx;exact hc),jL o _ hi' ho,qO hi']
 rw[e2] at this;unfold wl at this ⊢;rw[qe];exact this
def dT (o:List Nat):(wl o).length=(o.length+63) / 64:=jy _ _
structure bwS (w0:World) (b:Nat) (o:List Nat) (st:Bool) (r:Nat × Nat) (W:World):Prop where
 row:∃ v,W.heap[b]?=sQ (.cells #[I J (o.length:Int),v,bO st,I .i32 (r.1:Int),I J (r.2:Int)] 268)/\an W (b+1) v (wl o)
 bel:Below b w0 W
def bw5 {W:World} {x0 x1:Value} (h:W.heap[b]?=sQ (.cells #[x0,x1,x2,x3,x4] 268)) :
  (W.cell? ⟨b,0,nn⟩=sQ x0/\W.cell? ⟨b,1,nn⟩=sQ x1/\W.cell? ⟨b,2,nn⟩=sQ x2/\W.cell? ⟨b,3,nn⟩=sQ x3/\W.cell? ⟨b,4,nn⟩=sQ x4)/\(∀ j,W.frozen? ⟨b,j,nn⟩=false)/\b<W.heap.size:=by
 refine⟨⟨?_,?_,?_,?_,?_⟩,fun j=>?_,?_⟩;iterate 5 simp[World.cell?,h]
 .simp[World.frozen?,h]
 .rw[qR] at h;exact h.1
def B9 {w0 w1:World} {g cp:Nat} {v:Value} {l l':List Nat} {x:Nat} {X:Int} (hX:X=(x:Int)) (hh:w1.heap[b]?=sQ (.cells #[I J (n:Int),v,x2,x3,x4] 268))
  (ho:an w1 (b+1) (sL (sQ ⟨g,0,nn⟩) l.length cp) l) (hgb:¬ b=g) (hb:Below b w0 w1) (hbg:b<=g) (hl':l'=l.set q x) :
  (((w1.setCell ⟨b,1,nn⟩ (sL (sQ ⟨g,0,nn⟩) l.length cp)).setCell ⟨g,q,nn⟩ (I .u64 X)).setCell ⟨b,0,nn⟩ (I J ((n:Int)+1))).drew.heap[b]?=sQ (.cells #[I J ((n+1:Nat):Int),sL (sQ ⟨g,0,nn⟩) l.length cp,x2,x3,x4] 268) /\
  an (((w1.setCell ⟨b,1,nn⟩ (sL (sQ ⟨g,0,nn⟩) l.length cp)).setCell ⟨g,q,nn⟩ (I .u64 X)).setCell ⟨b,0,nn⟩ (I J ((n:Int)+1))).drew (b+1) (sL (sQ ⟨g,0,nn⟩) l.length cp) l' /\
  Below b w0 (((w1.setCell ⟨b,1,nn⟩ (sL (sQ ⟨g,0,nn⟩) l.length cp)).setCell ⟨g,q,nn⟩ (I .u64 X)).setCell ⟨b,0,nn⟩ (I J ((n:Int)+1))).drew:=by
 subst hX hl';refine⟨?_,?_,?_⟩
 .show (((w1.setCell ⟨b,1,nn⟩ _).setCell ⟨g,q,nn⟩ _).setCell ⟨b,0,nn⟩ _).heap[b]?=_;have h1:=QQ w1 b 1 _ _ (sL (sQ ⟨g,0,nn⟩) l.length cp) hh;have h2:=(QB (w1.setCell ⟨b,1,nn⟩ (sL (sQ ⟨g,0,nn⟩) l.length cp)) ⟨g,q,nn⟩ b (I .u64 (x:Int)) (by show b≠g;exact hgb)).trans h1;rw[QQ _ b 0 _ _ (I J ((n:Int)+1)) h2];simp
 .have h3:=((ho.setCellO b 1 (sL (sQ ⟨g,0,nn⟩) l.length cp) om).stored q x).setCellO b 0 (I J ((n:Int)+1)) om;exact h3.otherBlock fun _ _=>rfl
 .exact (((hb.setCell (p:=⟨b,1,nn⟩) pQ _).setCell (p:=⟨g,q,nn⟩) (by simpa using hbg) _).setCell (p:=⟨b,0,nn⟩) pQ _).drew
def BH (w:World) (b:Nat) (x0 x1 x2:Value) (a k c:Nat) (hc:c<=49) (ha:a<=49) (hk:k<=100000) (h:w.heap[b]?=sQ (.cells #[x0,x1,x2,I .i32 (a:Int),I J (k:Int)] 268)) :
  Calls Tp 248 #[pT (sQ ⟨b,3,nn⟩),I .i32 (c:Int)] w fun o w'=>o = rT (.tuple #[])/\w'.heap[b]?=sQ (.cells #[x0,x1,x2,I .i32 ((M.gl (a,k) c).1:Int),I J ((M.gl (a,k) c).2:Int)] 268)/\(∀ q,q≠b->w'.heap[q]?=w.heap[q]?)/\Below b w w':=by
 obtain⟨⟨c0,c1,c2,c3,c4⟩,fz,hz⟩:=bw5 h;have f3:=fz 3;have f4:=fz 4;have HH:Hid (w.heap[b]?=sQ (.cells #[x0,x1,x2,I .i32 (a:Int),I J (k:Int)] 268)):=h;clear h c0 c1 c2 fz;by_cases e:c=a
 .subst e;have hb:((c:Int) != (c:Int))=false:=by simp
  go_enter Tryz.func248,Tryz.ntmps248;go_wp2;go_end0;refine⟨rfl,?_,fun q hq=>QB w ⟨b,4,nn⟩ q _ hq,(bW _ _).setCell (p:=⟨b,4,nn⟩) pQ _⟩;rw[QQ _ b 4 _ _ _ HH.o,M.iC];simp
 .have hb:((c:Int) != (a:Int))=true:=by simp;omega
  go_enter Tryz.func248,Tryz.ntmps248;go_wp2;go_end0;have h1:=QQ w b 3 _ _ (Value.int IntKind.i32 (c:Int)) HH.o;have h2:=QQ _ b 4 _ _ (Value.int IntKind.i64 0) h1;have h3:=QQ _ b 4 _ _ (Value.int IntKind.i64 1) h2;refine⟨rfl,?_,fun q hq=>?_,?_⟩
  .rw[h3,M.fD a k c e];simp
  .exact ((QB _ ⟨b,4,nn⟩ q _ hq).trans (QB _ ⟨b,4,nn⟩ q _ hq)).trans (QB w ⟨b,3,nn⟩ q _ hq)
  .exact (((bW b w).setCell (p:=⟨b,3,nn⟩) pQ _).setCell (p:=⟨b,4,nn⟩) pQ _).setCell (p:=⟨b,4,nn⟩) pQ _
def BK (w:World) (b:Nat) (x0 x1 x2:Value) (a k:Nat) (h:w.heap[b]?=sQ (.cells #[x0,x1,x2,I .i32 (a:Int),I J (k:Int)] 268)) :
  Calls Tp 249 #[pT (sQ ⟨b,3,nn⟩)] w fun o w'=>o = rT (bO (decide (k=5)))/\w'=w:=by
 obtain⟨⟨c0,c1,c2,c3,c4⟩,fz,hz⟩:=bw5 h;clear h c0 c1 c2 c3 fz hz;have e:((k:Int) == 5)=decide (k=5):=by
  by_cases hk:k=5
  .simp[hk]
  .have:¬ (k:Int)=5:=om;simp[hk,this]
 go_enter Tryz.func249,Tryz.ntmps249;go_wp2;go_ret;first | exact⟨rfl,rfl⟩ | exact⟨by rw[e],rfl⟩
namespace M
end M
variable {w:World} {B:Nat} {v:Value} {l:List Nat}
def an.alloc (h:an w B v l) (o:Obj):an (w.alloc o) B v l:=by
 unfold an at h ⊢;exact QN h o
def an.below {w':World} (h:an w B v l) (hb:Bl w w'):an w' B v l:=
 h.otherBlock fun g hg=>hb.block g (QC h g hg).2
def mkL (k:Nat):Nat->List Nat->List Nat
 | 0,l=>l
 | j+1,l=>(mkL k j l).set j (k+j)
def fM (k j:Nat) (l:List Nat):(mkL k j l).length=l.length:=by
 induction j with
 | zero=>rfl
 | succ j ih=>show ((mkL k j l).set j (k+j)).length=_;rw[qK,ih]
def DP (k j:Nat) (l:List Nat) (i:Nat) (hi:i<j) (hj:j<=l.length):(mkL k j l).getD i 0=k+i:=by
 induction j with
 | zero=>omega
 | succ j ih=>
  show ((mkL k j l).set j (k+j)).getD i 0=_;have hl:=fM k j l;by_cases e:i=j
  .subst e;have h2:i<l.length:=om;simp[ql,hl,h2]
  .have:=ih om om;rw[ql] at this ⊢;rw[List.getElem?_set_ne om];exact this
def xu {w0 w:World} {B g:Nat} (h:Below B w0 w) (hg:B<=g) (j:Nat) (x:Value):Below B w0 (w.setCell ⟨g,j,nn⟩ x):=h.setCell (by exact hg) x
def lY (w:World) (B:Nat) (ao:Option Addr) (n cap k:Nat) (l:List Nat) (h:an w B (sL ao n cap) l) (hn:n=l.length) (hk:k+n<=10000000000000000) :
  Calls Tp 73 #[sL ao n cap,I J (k:Int)] w fun e w'=>e = rT (I J ((k+n:Nat):Int))/\an w' B (sL ao n cap) (mkL k n l)/\Below B w w'/\∀ b,(∀ a,ao=sQ a->a.block≠b)->w'.heap[b]?=w.heap[b]?:=by
 by_cases hl:l=[]
 .subst hl;have hn':n=0:=hn;subst hn';have H:Hid (an w B (sL ao 0 cap) []):=h;clear h hn;go_enter Tryz.func73,Tryz.ntmps73;go_wp2;go_loopw [1,5] (fun kk i wr=>i = I J 0/\kk = I J (k:Int)/\wr=w) (fun _ _ _=>0);case atStart=>exact⟨rfl,rfl,rfl⟩
  case round=>
   obtain⟨rfl,rfl,rfl⟩:=hrel;go_wp2;go_ret;exact⟨rfl,H.o,bW _ _,fun _ _=>rfl⟩
 .obtain⟨g,cap',hv,hgB,hgz,hcap,-,-⟩:=h.open hl;cases hv;have H:Hid (an w B (sL (sQ ⟨g,0,nn⟩) l.length cap) l):=h;clear h;go_enter Tryz.func73,Tryz.ntmps73;go_wp2;go_loopw [1,5] (fun kk i wr=>∃ j:Nat,j<=l.length/\i = I J (j:Int)/\kk = I J ((k+j:Nat):Int)/\an wr B (sL (sQ ⟨g,0,nn⟩) l.length cap) (mkL k j l)/\Below B w wr/\∀ b,g≠b->wr.heap[b]?=w.heap[b]?) (fun _ i _=>l.length-(intOf i).toNat);case atStart=>exact⟨0,nZ _,rfl,rfl,H.o,bW _ _,fun _ _=>rfl⟩
  case round=>
   obtain⟨j,hj,rfl,rfl,ho,hb,hoth⟩:=hrel;by_cases hlt:j<l.length
   .have hrow:yl wr g l.length (fun t=>(mkL k j l).getD t 0):=by
     have ho':=ho;rw[<- fM k j l] at ho';obtain⟨g',c',e,-,-,-,-,hr⟩:=ho'.open (by intro e;have:=fM k j l;rw[e] at this;simp at this;omega);cases e;rw[fM k j l] at hr;exact hr
    have hc:=hrow.cell j hlt;have hf:=hrow.free j hlt;have st:an (wr.setCell ⟨g,j,nn⟩ (I .u64 ((k+j:Nat):Int))) B (sL (sQ ⟨g,0,nn⟩) l.length cap) (mkL k (j+1) l):=by
     have ho':=ho;rw[<- fM k j l] at ho';have:=ho'.stored j (k+j);rw[fM k j l] at this;exact this
    have hb2:=xu hb hgB j (I .u64 ((k+j:Nat):Int));have HST:Hid (an (wr.setCell ⟨g,j,nn⟩ (I .u64 ((k+j:Nat):Int))) B (sL (sQ ⟨g,0,nn⟩) l.length cap) (mkL k (j+1) l)/\Below B w (wr.setCell ⟨g,j,nn⟩ (I .u64 ((k+j:Nat):Int)))/\∀ b,g≠b->(wr.setCell ⟨g,j,nn⟩ (I .u64 ((k+j:Nat):Int))).heap[b]?=w.heap[b]?):=⟨st,hb2,fun b hb'=>(QB wr ⟨g,j,nn⟩ b _ (fun e=>hb' e.symm)).trans (hoth b hb')⟩
    have hkj:k+j<=10000000000000000:=om;have hu:IntKind.u64.wrap ((k:Int)+(j:Int))=(k:Int)+(j:Int):=by simp[IntKind.wrap,IntKind.bits,IntKind.signed];omega
    clear st hb2 hrow ho hb hoth;go_wp2;go_roundw;case rel=>exact⟨j+1,om,by go_num,by go_num,HST.o.1,HST.o.2.1,HST.o.2.2⟩
    case measure=>simp[intOf];omega
   .have:j=l.length:=om;subst this;have HST:Hid (an wr B (sL (sQ ⟨g,0,nn⟩) l.length cap) (mkL k l.length l)/\Below B w wr/\∀ b,g≠b->wr.heap[b]?=w.heap[b]?):=⟨ho,hb,hoth⟩
    clear ho hb hoth;go_wp2;go_ret;exact⟨rfl,HST.o.1,HST.o.2.1,fun b hb'=>HST.o.2.2 b (hb' _ rfl)⟩
def mo (w:World) (B:Nat) (ao:Option Addr) (n cap k:Nat) (l:List Nat) (h:an w B (sL ao n cap) (mkL k n l)) (hn:n=l.length) (hk:k+n<=10000000000000000) :
  Calls Tp 76 #[sL ao n cap,I J (k:Int)] w fun e w'=>e = rT (I J ((k+n:Nat):Int))/\∃ q,w'=w.drewN q:=by
 by_cases hl:l=[]
 .subst hl;have hn':n=0:=hn;subst hn';clear h hn;go_enter Tryz.func76,Tryz.ntmps76;go_wp2;go_loopw [1,5] (fun kk i wr=>i = I J 0/\kk = I J (k:Int)/\wr=w) (fun _ _ _=>0);case atStart=>exact⟨rfl,rfl,rfl⟩
  case round=>
   obtain⟨rfl,rfl,rfl⟩:=hrel;go_wp2;go_ret;exact⟨rfl,0,rfl⟩
 .subst hn;have hl':mkL k l.length l≠[]:=by intro e;have:=fM k l.length l;rw[e] at this;simp at this;exact hl (List.eq_nil_of_length_eq_zero this.symm)
  obtain⟨g,cap',hv,hgB,hgz,hcap,-,hrow⟩:=h.open hl';rw[fM] at hv hrow;cases hv;have HR:Hid (∀ q j,j<l.length->(w.drewN q).cell? ⟨g,j,nn⟩=sQ (I .u64 ((k+j:Nat):Int))):=by
   intro q j hj;have:=hrow.cell j hj;rw[DP k l.length l j hj (nR _)] at this;exact (QR (bW w.heap.size w) q).cell (by exact hgz) |>.trans this
  clear h hrow;go_enter Tryz.func76,Tryz.ntmps76;go_wp2;go_loopw [1,5] (fun kk i wr=>∃ j q:Nat,j<=l.length/\i = I J (j:Int)/\kk = I J ((k+j:Nat):Int)/\wr=w.drewN q) (fun _ i _=>l.length-(intOf i).toNat);case atStart=>exact⟨0,0,nZ _,rfl,rfl,rfl⟩
  case round=>
   obtain⟨j,q,hj,rfl,rfl,rfl⟩:=hrel;by_cases hlt:j<l.length
   .have hc:=HR.o q j hlt;have hkj:k+j<=10000000000000000:=om;have hu:IntKind.u64.wrap ((k:Int)+(j:Int))=(k:Int)+(j:Int):=by simp[IntKind.wrap,IntKind.bits,IntKind.signed];omega
    generalize hW:w.drewN q=W at *;have HW:Hid (W=w.drewN q):=hW.symm;clear hW;go_wp2;go_roundw;case rel=>exact⟨j+1,q,om,by go_num,by go_num,HW.o⟩
    case measure=>simp[intOf];omega
   .have:j=l.length:=om;subst this;go_wp2;go_ret;exact⟨rfl,q,rfl⟩
def kV (w:World) (B:Nat) (N:Int) (ao:Option Addr) (n cap k:Nat) (l:List Nat) (h:an w B (sL ao n cap) l) (hn:n=l.length) (hk:k+n<=10000000000000000) (hB:B<=w.heap.size) :
  Calls Tp 34 #[pkV N ao n cap,I J (k:Int)] w fun e w'=>e = rT (I J ((k+n:Nat):Int))/\an w' B (sL ao n cap) (mkL k n l)/\Below B w w'/\∀ b,b<w.heap.size->(∀ a,ao=some a->a.block≠b)->w'.heap[b]?=w.heap[b]?:=by
 have H:Hid (∀ x,Calls Tp 73 #[sL ao n cap,I J (k:Int)] (w.alloc x) fun e w'=>e = rT (I J ((k+n:Nat):Int))/\an w' B (sL ao n cap) (mkL k n l)/\Below B (w.alloc x) w'/\∀ b,(∀ a,ao=some a->a.block≠b)->w'.heap[b]?=(w.alloc x).heap[b]?):=fun x=>lY (w.alloc x) B ao n cap k l (h.alloc x) hn hk;have HB:Hid (B<=w.heap.size):=hB;clear h hB hn;go_enter Tryz.func34,Tryz.ntmps34;go_wp2_with (first | (go_at_call 73;refine (H.o _).mono ?_;rintro o w1 ⟨rfl,ho,hb,hoth⟩));go_ret;exact⟨rfl,ho,((bW B w).alloc HB.o _).trans hb,fun b hb1 hb2=>(hoth b hb2).trans (Below.heap_alloc w _ b hb1)⟩
def lz (w:World) (B:Nat) (N:Int) (ao:Option Addr) (n cap k:Nat) (l:List Nat) (h:an w B (sL ao n cap) (mkL k n l)) (hn:n=l.length) (hk:k+n<=10000000000000000) :
  Calls Tp 37 #[pkV N ao n cap,I J (k:Int)] w fun e w'=>e = rT (I J ((k+n:Nat):Int))/\Bl w w':=by
 have H:Hid (∀ x,Calls Tp 76 #[sL ao n cap,I J (k:Int)] (w.alloc x) fun e w'=>e = rT (I J ((k+n:Nat):Int))/\∃ q,w'=(w.alloc x).drewN q):=fun x=>mo (w.alloc x) B ao n cap k l (h.alloc x) hn hk;have hk0:¬ ((k:Int)+(n:Int))<0:=om;clear h hn;go_enter Tryz.func37,Tryz.ntmps37;go_wp2_with (first | (go_at_call 76;refine (H.o _).mono ?_;rintro o w1 ⟨rfl,q,rfl⟩));go_ret;exact⟨rfl,QR ((bW _ _).alloc (nR _) _) q⟩
end Go.Proofs.YtnfmjckkibdcaaaGreatDoor
