import Derived.Laws.IdiomStrings
import Derived.Lib.OthersKept
import Derived.Test.YtnfmjckkibdcaaaGreatDoorK12
import Derived.Deep.RegionWith
import Derived.Laws.BitsAllLaws
import Derived.Below
namespace Go.Proofs.YtnfmjckkibdcaaaGreatDoor
set_option linter.all false
open Option renaming none->nn,some->sQ
open Go.RowKit
open Go.Value renaming int->I,slice->sL,bool->bO,pointer->pT,agg->aG
open Go.IntKind renaming i64->J
open Go.Ending renaming returned->rT
open Go.Proofs.Tryz renaming prog->Tp
variable {w:World} {B:Nat} {l:List Nat} {ops:Array Oper} {rest:List Oper} {o:Oper} {a:Act} {Q:Exit->Act->World->Prop} {v:Value}
def wv (l:List Nat):List Value:=l.map (fun x:Nat=>Value.int .u64 (x:Int))
def Ep (l:List Nat) (j:Nat) (h:j<l.length):(wv l)[j]?=sQ (Value.int .u64 (l[j]:Int)):=by simp[wv,h]
def an (w:World) (B:Nat) (v:Value) (l:List Nat):Prop:=w.ownsRow B 125 1 v l.length (wv l)
def Aq (w0 wr:World) (hgd:o.guard=nn) (s x:Operand)
  (ho:o.op = .call { callee:=.builtin .append,args:=#[s,x],argTypes:=#[50,50] })
  (B:Nat) (v:Value) (l:List Nat) (c:Nat) (ci:Int) (hci:ci=(c:Int)) (hs:a.eval s=v) (hown:an wr B v l)
  (hx:a.eval x = sL (sQ ⟨wr.heap.size,0,nn⟩) 1 1) (hlen:l.length<=1000000) (hB:B<=wr.heap.size) (hbel:Below B w0 wr)
  (h:∀ v' w',an w' B v' (l++[c])->Below B w0 w'->B<=w'.heap.size->wpList Tp ops Q rest (a.put o.dst v') w') :
  wpList Tp ops Q (o :: rest) a (wr.alloc (.cells #[I .u64 ci] 125)):=by
 subst hci;obtain⟨i0,hi,hz0,hz1,hz2⟩:=QX Tryz.info125;refine Q2 _ hgd s x 50 ho B 125 i0 (I .u64 0) 1 8 Tryz.underlying50 hi hz0 hz1 hz2 rfl (by decide) v l.length (wv l) hs (QN hown _) ⟨wr.heap.size,0,nn⟩ 1 1 [I .u64 (c:Int)] hx rfl ?_ ?_ ?_ ?_ ?_ ?_
 .intro j u hj;match j,hj with
  | 0,hj=>simp at hj;subst hj;simp[Addr.add]
 .intro u hu;simp at hu;subst hu;rfl
 .unfold maxLen;omega
 .omega
 .simp;omega
 .intro v' w' ho' hg _;have hr:∀ k,v.ownBlock=sQ k->B<=k:=fun k hk=>(QC hown k hk).1;refine h v' w' ?_ ((hbel.alloc hB _).grown hg (by simp;omega) hr) (nT (by simp;omega) hg.size);have e1:wv (l++[c])=wv l++[I .u64 (c:Int)]:=by simp[wv]
  unfold an;rw[e1,qe];exact ho'
def an.kind (h:an w B v l):∀ g,v.ownBlock=sQ g->∃ c fz,w.heap[g]?=sQ (.cells c 125 fz):=by
 intro g hg;obtain⟨_,⟨rfl,_⟩|⟨g',cap,cur,rfl,_,hh,_⟩⟩:=h
 .simp[Value.ownBlock] at hg
 .simp[Value.ownBlock] at hg;subst hg;exact⟨cur,_,hh⟩
def nv (w0 wr:World) (hgd:o.guard=nn) (s x:Operand)
  (ho:o.op = .call { callee:=.builtin .append,args:=#[s,x],argTypes:=#[50,50] })
  (B:Nat) (v:Value) (l:List Nat) (c:Nat) (ci:Int) (hci:ci=(c:Int)) (hs:a.eval s=v) (hown:an wr B v l)
  (hx:a.eval x = sL (sQ ⟨wr.heap.size,0,nn⟩) 1 1) (hlen:l.length<=1000000) (hB:B<=wr.heap.size) (hbel:Below B w0 wr)
  (h:∀ v' w',an w' B v' (l++[c])->Below B w0 w'->Lib.OthersKept 125 nn wr w'->B<=w'.heap.size->wpList Tp ops Q rest (a.put o.dst v') w') :
  wpList Tp ops Q (o :: rest) a (wr.alloc (.cells #[I .u64 ci] 125)):=by
 subst hci;obtain⟨i0,hi,hz0,hz1,hz2⟩:=QX Tryz.info125;refine Q2 _ hgd s x 50 ho B 125 i0 (I .u64 0) 1 8 Tryz.underlying50 hi hz0 hz1 hz2 rfl (by decide) v l.length (wv l) hs (QN hown _) ⟨wr.heap.size,0,nn⟩ 1 1 [I .u64 (c:Int)] hx rfl ?_ ?_ ?_ ?_ ?_ ?_
 .intro j u hj;match j,hj with
  | 0,hj=>simp at hj;subst hj;simp[Addr.add]
 .intro u hu;simp at hu;subst hu;rfl
 .unfold maxLen;omega
 .omega
 .simp;omega
 .intro v' w' ho' hg _;have hr:∀ k,v.ownBlock=sQ k->B<=k:=fun k hk=>(QC hown k hk).1;refine h v' w' ?_ ((hbel.alloc hB _).grown hg (by simp;omega) hr) (((QW 125 nn wr).alloc _).grown hg ?_) (nT (by simp;omega) hg.size)
  .have e1:wv (l++[c])=wv l++[I .u64 (c:Int)]:=by simp[wv]
   unfold an;rw[e1,qe];exact ho'
  .intro g hg';exact an.kind (B:=B) (l:=l) (QN hown _) g hg'
def yy (w:World) (B:Nat) (hB:B<=w.heap.size):an (w.alloc (.cells #[] 125)) B (sL (sQ ⟨w.heap.size,0,nn⟩) 0 0) []:=
 World.ownsRow_made w #[] 0 hB (by decide) rfl
def an.open (h:an w B v l) (hl:l≠[]) :
  ∃ g cap,v = sL (sQ ⟨g,0,nn⟩) l.length cap/\B<=g/\g<w.heap.size/\l.length<=cap/\cap<=maxLen/\yl w g l.length (fun t=>l.getD t 0):=by
 have h':=h;obtain⟨_,h1|⟨g,cap,cur,rfl,hb,hh,hc,hm,hsz,htk⟩⟩:=h
 .exact Qz (List.length_eq_zero_iff.1 h1.2) hl
 .refine⟨g,cap,rfl,hb,(QC h' g rfl).2,hc,hm,fun t ht=>?_,fun t ht=>?_⟩
  .rw[QZ h' t om,Ep l t ht];simp[List.getD,ht]
  .exact QV h' t
def an.stored {g cap:Nat} (h:an w B (sL (sQ ⟨g,0,nn⟩) l.length cap) l) (j x:Nat):an (w.setCell ⟨g,j,nn⟩ (I .u64 (x:Int))) B (sL (sQ ⟨g,0,nn⟩) l.length cap) (l.set j x):=by
 have:=(World.ownsRow.stored h j (I .u64 (x:Int))).1;unfold an;have e:wv (l.set j x)=(wv l).set j (I .u64 (x:Int)):=by simp[wv,List.map_set]
 rw[e,qK];exact this
set_option maxRecDepth 20000
set_option maxHeartbeats 16000000
variable {w:World} {B i:Nat} {l:List Nat} {v:Value}
def fb (s:ByteArray) (i:Nat):Nat:=if h:i<s.size then (if s[i].toNat=49 then 1 else 0) else 0
def PV (s:ByteArray) (q:Nat):Nat->Nat
 | 0=>0
 | j+1=>2*PV s q j+fb s (64*q+j)
def CJ (s:ByteArray) (i:Nat):fb s i<2:=by
 unfold fb;split
 .split <;> decide
 .decide
def CS (s:ByteArray) (q j:Nat):PV s q j<2 ^ j:=by
 induction j with
 | zero=>simp[PV]
 | succ j ih=>
  have:=CJ s (64*q+j);simp only[PV,qI];omega
def pkL (s:ByteArray) (m:Nat):List Nat:=(List.range m).map fun q=>PV s q 64
def yx (s:ByteArray) (m:Nat):pkL s (m+1)=pkL s m++[PV s m 64]:=by simp[pkL,List.range_succ]
def GQ (s:ByteArray) (m:Nat):(pkL s m).length=m:=by simp[pkL]
def an.words {ao:Option Addr} {n cap:Nat} (h:an w B (sL ao n cap) l) (hn:n=l.length) (hs:∀ x ∈ l,x<18446744073709551616) (hc:n<=cap):bP w ao n cap l:=by
 refine⟨hn,hc,hs,fun hl=>?_⟩;obtain⟨g,cap',e,_,_,_,_,hr⟩:=h.open hl;cases e;refine⟨g,0,rfl,fun j hj=>?_⟩;rw[zf,hr.cell j hj,eB l j hj]
def IT {ops:Array Oper} {rest:List Oper} {o:Oper} {a:Act} {Q:Exit->Act->World->Prop} (w0 wr:World) (hgd:o.guard=nn) (s x:Operand)
  (ho:o.op = .call { callee:=.builtin .append,args:=#[s,x],argTypes:=#[50,50] })
  (B:Nat) (v:Value) (l:List Nat) (c:Nat) (ci:Int) (hci:ci=(c:Int)) (hs:a.eval s=v) (hown:an wr B v l)
  (hx:a.eval x = sL (sQ ⟨wr.heap.size,0,nn⟩) 1 1) (hlen:l.length<=1000000) (hB:B<=wr.heap.size) (hbel:Below B w0 wr)
  (h:∀ v' w',an w' B v' (l++[c])->Below B w0 w'->B<=w'.heap.size->wpList Tp ops Q rest (a.put o.dst v') w') :
  wpList Tp ops Q (o :: rest) a (wr.alloc (.cells #[I .u64 ci] 125)):=
 Aq w0 wr hgd s x ho B v l c ci hci hs hown hx hlen hB hbel h
def an.otherBlock {w':World} (h:an w B v l) (hk:∀ g,v.ownBlock=sQ g->w'.heap[g]?=w.heap[g]?):an w' B v l:=by
 obtain⟨h1,h2|⟨g,cap,cur,rfl,hb,hh,rest⟩⟩:=h
 .exact⟨h1,.inl h2⟩
 .exact⟨h1,.inr ⟨g,cap,cur,rfl,hb,(hk g (by simp[Value.ownBlock])).trans hh,rest⟩⟩
def an.setCellO (h:an w B v l) (b j:Nat) (x:Value) (hb:b<B):an (w.setCell ⟨b,j,nn⟩ x) B v l:=
 h.otherBlock fun g hg=>QB w ⟨b,j,nn⟩ g x (by have:=(QC h g hg).1;show g≠b;omega)
def Cr (s:ByteArray) (q j:Nat) (h:j<64):PV s q j<9223372036854775808:=
 nL (CS s q j) (qt (by decide) (by omega:j<=63))
def DY {s:ByteArray} (h:i<s.size) (hh:(s[i].toNat:Int)=49):fb s i=1:=by
 unfold fb;rw[dif_pos h,zc om]
def BO {s:ByteArray} (h:i<s.size) (hh:¬ (s[i].toNat:Int)=49):fb s i=0:=by
 unfold fb;rw[dif_pos h,zb om]
def zL {s:ByteArray} (h:¬ i<s.size):fb s i=0:=by
 unfold fb;rw[dif_neg h]
def Dv {wr:World} (hb:Below (w.heap.size+1) (w.alloc (pkC 0 nn 0 0 52)) wr) :
  wr.cell? ⟨w.heap.size,0,nn⟩=sQ (I J 0)/\wr.cell? ⟨w.heap.size,1,nn⟩=sQ (sL nn 0 0)/\wr.frozen? ⟨w.heap.size,0,nn⟩=false/\wr.frozen? ⟨w.heap.size,1,nn⟩=false/\Bl w wr:=by
 refine⟨(hb.cell (p:=⟨w.heap.size,0,nn⟩) pQ).trans pQ,(hb.cell (p:=⟨w.heap.size,1,nn⟩) pQ).trans pQ,(hb.frozen (p:=⟨w.heap.size,0,nn⟩) pQ).trans pQ,(hb.frozen (p:=⟨w.heap.size,1,nn⟩) pQ).trans pQ,?_⟩;exact qw.trans (hb.mono om)
def py (s:ByteArray) (w:World) (hs:okT s 4000=true) (hz:s.size<=4000) :
  Calls Tp 23 #[.string s] w fun o w'=>∃ ao cap,o = rT (pkV (s.size:Int) ao ((s.size+63) / 64) cap)/\an w' (w.heap.size+1) (sL ao ((s.size+63) / 64) cap) (pkL s ((s.size+63) / 64))/\Bl w w':=by
 have HS:Hid (okT s 4000=true):=hs;clear hs;go_enter Tryz.func23,Tryz.ntmps23;go_wp2_with (go_at_call 58;refine (dD _ _ _ (by unfold maxLen;omega)).mono ?_;rw[HS.o];rintro o w1 ⟨rfl,rfl⟩);have hown:an ((w.alloc (pkC 0 nn 0 0 52)).alloc (.cells #[] 125)) (w.heap.size+1) (sL (sQ ⟨w.heap.size+1,0,nn⟩) 0 0) (pkL s 0):=by
  have:=yy (w.alloc (pkC 0 nn 0 0 52)) (w.heap.size+1) pQ;simpa[pkL] using this
 have hb0:Below (w.heap.size+1) (w.alloc (pkC 0 nn 0 0 52)) ((w.alloc (pkC 0 nn 0 0 52)).alloc (.cells #[] 125)):=(bW _ _).alloc pQ _;go_loopw [3,4] (fun v i wr=>∃ (k:Nat) (ao:Option Addr) (cp:Nat),v = sL ao k cp/\k<=(s.size+63) / 64/\i = I J (k:Int)/\an wr (w.heap.size+1) v (pkL s k)/\Below (w.heap.size+1) (w.alloc (pkC 0 nn 0 0 52)) wr/\w.heap.size+1<=wr.heap.size) (fun _ i _=>(s.size+63) / 64-(intOf i).toNat);case atStart=>exact⟨0,_,_,rfl,nZ _,rfl,hown,hb0,pQ⟩
 case round=>
  clear hown hb0;obtain⟨k,ao,cp,rfl,hk,rfl,hown,hb,hzz⟩:=hrel;have HZ:Hid (Below (w.heap.size+1) (w.alloc (pkC 0 nn 0 0 52)) wr/\an wr (w.heap.size+1) (sL ao k cp) (pkL s k)):=⟨hb,hown⟩
  clear hb hown;by_cases hlt:64*k<s.size
  .have hd:decide (64*(k:Int)<(s.size:Int))=true:=by simp;omega
   go_wp2;go_loopw [5,6] (fun v i V=>∃ j:Nat,j<=64/\i = I J (j:Int)/\v = I .u64 (PV s k j:Int)/\V=wr) (fun _ i _=>64-(intOf i).toNat);case atStart=>exact⟨0,by decide,rfl,rfl,rfl⟩
   case round=>
    obtain⟨j,hj,rfl,rfl,rfl⟩:=hrel;by_cases hj2:j<64
    .have hx:=Cr s k j hj2;have HP:Hid (PV s k (j+1)=2*PV s k j+fb s (64*k+j)):=rfl;generalize PV s k j=x at *;by_cases hi:64*k+j<s.size
     .by_cases h1:(s[64*k+j].toNat:Int)=49
      .have HF:Hid (fb s (64*k+j)=1):=DY hi h1;go_wp2;go_roundw;case rel=>exact⟨j+1,om,by go_num,by rw[HP.o,HF.o];go_num,trivial⟩
       case measure=>simp[intOf];omega
      .have HF:Hid (fb s (64*k+j)=0):=BO hi h1;have h1':((s[64*k+j].toNat:Int) == 49)=false:=by simpa using h1
       clear h1;go_wp2;go_roundw;case rel=>exact⟨j+1,om,by go_num,by rw[HP.o,HF.o];go_num,trivial⟩
       case measure=>simp[intOf];omega
     .have HF:Hid (fb s (64*k+j)=0):=zL hi;go_wp2;go_roundw;case rel=>exact⟨j+1,om,by go_num,by rw[HP.o,HF.o];go_num,trivial⟩
      case measure=>simp[intOf];omega
    .have hj3:j=64:=om;subst hj3;have HL:Hid (pkL s (k+1)=pkL s k++[PV s k 64]/\(pkL s k).length=k):=⟨yx s k,GQ s k⟩
     generalize PV s k 64=x at *;go_wp2_with (at_builtin;refine IT (w.alloc (pkC 0 nn 0 0 52)) wr rfl (.tmp 43) (.tmp 45) rfl (w.heap.size+1) _ (pkL s k) x _ rfl rfl HZ.o.2 rfl (by have:=HL.o.2;omega) hzz HZ.o.1 ?_);intro v2 w2 ho2 hb2 hz2;have ho3:an w2 (w.heap.size+1) v2 (pkL s (k+1)):=by rw[HL.o.1];exact ho2
     obtain⟨g5,cp5,e5,-,-,-,-,-⟩:=ho3.open (by intro e;have:=GQ s (k+1);rw[e] at this;simp at this);rw[GQ] at e5;subst e5;go_wp2;go_roundw;case rel=>exact⟨k+1,_,_,rfl,om,by go_num,ho3,hb2,hz2⟩
     case measure=>simp[intOf];omega
  .have hkk:k=(s.size+63) / 64:=om;subst hkk;obtain⟨c0,c1,f0,f1,hB⟩:=Dv HZ.o.1;go_wp2;refine QF (v:=pkV (s.size:Int) ao ((s.size+63) / 64) cp) (by simp[results,Tryz.results23,go_sem,c0,c1]) rfl ?_;have H2:=(HZ.o.2.setCellO w.heap.size 0 (I J (s.size:Int)) om).setCellO w.heap.size 1 (sL ao ((s.size+63) / 64) cp) om;exact⟨ao,cp,rfl,H2,(hB.setCell (p:=⟨_,0,nn⟩) pQ _).setCell (p:=⟨_,1,nn⟩) pQ _⟩
def Ch (w:World) (b g cap m n q r x:Nat) (L:Nat) (hL:L<2) (hn:n<=4000)
  (c0:w.cell? ⟨b,0,nn⟩=sQ (I J (n:Int))) (c1:w.cell? ⟨b,1,nn⟩=sQ (sL (sQ ⟨g,0,nn⟩) m cap)) (c2:w.cell? ⟨b,2,nn⟩=sQ (bO false))
  (f0:w.frozen? ⟨b,0,nn⟩=false) (hgb:¬ b=g)
  (e3:(n:Int).tdiv 64=(q:Int)) (e4:(n:Int).tmod 64=(r:Int)) (hr:((r:Int) == 0)=false) (hr2:r<64) (hq:q<m) (hq3:q<=1000) (hc:w.cell? ⟨g,q,nn⟩=sQ (I .u64 (x:Int))) (hf:w.frozen? ⟨g,q,nn⟩=false) :
  Calls Tp 281 #[pT (sQ ⟨b,0,nn⟩),I J (L:Int)] w fun o w'=>o = rT (.tuple #[])/\w'=((w.setCell ⟨g,q,nn⟩ (I .u64 (bits BinOp.or IntKind.u64 (x:Int) (IntKind.u64.wrap ((L:Int)*2 ^ (63-r)))))).setCell ⟨b,0,nn⟩ (I J ((n:Int)+1))).drew:=by
 go_enter Tryz.func281,Tryz.ntmps281;go_wp2;go_region;go_wp2;refine bN ?_;exact⟨rfl,rfl⟩
def Dx (x L r:Nat) (hL:L<2) (hr:r<64) (hx:x<18446744073709551616) (hd:x % 2 ^ (64-r)=0) :
  bits BinOp.or IntKind.u64 (x:Int) (IntKind.u64.wrap ((L:Int)*2 ^ (63-r)))=((x+L*2 ^ (63-r):Nat):Int):=by
 have hp:L*2 ^ (63-r)<2 ^ (64-r):=by
  have e:64-r=(63-r)+1:=om;rw[e,qI];have:0<2 ^ (63-r):=qX pQ;have:L*2 ^ (63-r)<=1*2 ^ (63-r):=qD _ om;omega
 have h64:(2:Nat) ^ (64-r)<=2 ^ 64:=qt (by decide) om;have hy:L*2 ^ (63-r)<18446744073709551616:=nL hp h64;rw[oY,Qp om,u64_or_nat _ _ hx hy];congr 1;obtain⟨k,hk⟩ : ∃ k,x=2 ^ (64-r)*k:=Nat.dvd_of_mod_eq_zero hd;subst hk;rw[Qe hp]
def Cg (w:World) (b n q:Nat) (v:Value) (l:List Nat) (L:Nat) (hL:L<2) (hn:n<=4000) (hl:l.length=q) (hbz:b<w.heap.size) (own:an w (b+1) v l)
  (c0:w.cell? ⟨b,0,nn⟩=sQ (I J (n:Int))) (c1:w.cell? ⟨b,1,nn⟩=sQ v) (c2:w.cell? ⟨b,2,nn⟩=sQ (bO false))
  (f0:w.frozen? ⟨b,0,nn⟩=false) (f1:w.frozen? ⟨b,1,nn⟩=false)
  (e3:(n:Int).tdiv 64=(q:Int)) (e4:(n:Int).tmod 64=0) (hq3:q<=1000) :
  Calls Tp 281 #[pT (sQ ⟨b,0,nn⟩),I J (L:Int)] w fun o w'=>∃ w1 g cp,an w1 (b+1) (sL (sQ ⟨g,0,nn⟩) (q+1) cp) (l++[0])/\Below (b+1) w w1/\Lib.OthersKept 125 nn w w1/\o = rT (.tuple #[])/\w'=(((w1.setCell ⟨b,1,nn⟩ (sL (sQ ⟨g,0,nn⟩) (q+1) cp)).setCell ⟨g,q,nn⟩ (I .u64 (bits BinOp.or IntKind.u64 0 ((L:Int)*9223372036854775808)))).setCell ⟨b,0,nn⟩ (I J ((n:Int)+1))).drew:=by
 have HO:Hid (an w (b+1) v l):=own;have HL:Hid (l.length=q):=hl;clear own hl;go_enter Tryz.func281,Tryz.ntmps281;go_wp2_with (at_builtin;refine nv w w rfl (.tmp 14) (.tmp 15) rfl (b+1) _ l 0 _ rfl rfl HO.o rfl (by have:=HL.o;omega) om (bW _ _) ?_);intro v1 w1 ho1 hb1 hk1 hz1;obtain⟨g,cp,e,hgB,hgz,hcp,hcm,hrow⟩:=ho1.open pQ;have hlen:(l++[0]).length=q+1:=by simp[HL.o]
 rw[hlen] at e hcp hrow;subst e;have hc:w1.cell? ⟨g,q,nn⟩=sQ (I .u64 0):=by
  rw[hrow.cell q om];have:=HL.o;subst this;simp[List.getD]
 have hf:=hrow.free q om;have d0:=(hb1.cell (p:=⟨b,0,nn⟩) pQ).trans c0;have d2:=(hb1.cell (p:=⟨b,2,nn⟩) pQ).trans c2;have d1:=(hb1.cell (p:=⟨b,1,nn⟩) pQ).trans c1;have g0:=(hb1.frozen (p:=⟨b,0,nn⟩) pQ).trans f0;have g1:=(hb1.frozen (p:=⟨b,1,nn⟩) pQ).trans f1;have HR:Hid (an w1 (b+1) (sL (sQ ⟨g,0,nn⟩) (q+1) cp) (l++[0])/\Below (b+1) w w1/\Lib.OthersKept 125 nn w w1):=⟨ho1,hb1,hk1⟩
 have hgb:¬ b=g:=om;clear ho1 hb1 hk1 hrow hlen c0 c1 c2 f0 f1 hcm;go_wp2;go_region;go_wp2;refine bN ?_;exact⟨w1,g,cp,HR.o.1,HR.o.2.1,HR.o.2.2,rfl,rfl⟩
variable {w:World} {b:Option Nat}
def wq (s:ByteArray) (n q:Nat):Nat:=PV s q (min 64 (n-64*q))*2 ^ (64-min 64 (n-64*q))
def wn (s:ByteArray) (n:Nat):List Nat:=(List.range ((n+63) / 64)).map (wq s n)
def jy (s:ByteArray) (n:Nat):(wn s n).length=(n+63) / 64:=by simp[wn]
def Ct (s:ByteArray) (n q:Nat):wq s n q<18446744073709551616:=by
 unfold wq;have h:=CS s q (min 64 (n-64*q));have hm:min 64 (n-64*q)<=64:=Nat.min_le_left _ _;generalize min 64 (n-64*q)=r at *;have e:(2:Nat) ^ r*2 ^ (64-r)=18446744073709551616:=by rw[<- Nat.pow_add,show r+(64-r)=64 by omega]
 rw[<- e];exact Nat.mul_lt_mul_of_pos_right h (qX pQ)
def uk (s:ByteArray) (n q:Nat) (h:64*q+64<=n):wq s (n+1) q=wq s n q:=by
 unfold wq;rw[show min 64 (n+1-64*q)=64 by omega,show min 64 (n-64*q)=64 by omega]
def uj (s:ByteArray) (q r:Nat) (h:r<64):wq s (64*q+r+1) q=wq s (64*q+r) q+fb s (64*q+r)*2 ^ (63-r):=by
 unfold wq;rw[show min 64 (64*q+r+1-64*q)=r+1 by omega,show min 64 (64*q+r-64*q)=r by omega];show (2*PV s q r+fb s (64*q+r))*_=_;have e:64-r=(63-r)+1:=om;rw[show 64-(r+1)=63-r by omega,e,qI,Nat.add_mul];congr 1;rw[Qt 2 (PV s q r),Nat.mul_assoc,Qt 2]
def C1 (s:ByteArray) (q r:Nat) (h:r<64):wq s (64*q+r) q % 2 ^ (64-r)=0:=by
 unfold wq;rw[show min 64 (64*q+r-64*q)=r by omega];exact Nat.mul_mod_left _ _
def Az (s:ByteArray) (q:Nat):wq s (64*q) q=0:=by
 unfold wq;rw[show min 64 (64*q-64*q)=0 by omega];simp[PV]
def Hb (s:ByteArray) (n q:Nat) (h:q<(wn s n).length):(wn s n)[q]=wq s n q:=by simp[wn]
def C3 (s:ByteArray) (q r:Nat) (h0:0<r) (h:r<64):wn s (64*q+r+1)=(wn s (64*q+r)).set q (wq s (64*q+r) q+fb s (64*q+r)*2 ^ (63-r)):=by
 apply List.ext_getElem
 .simp only[qK,jy];omega
 .intro i h1 h2;rw[Hb,List.getElem_set];split
  .subst i;exact uj s q r h
  .rw[Hb];rw[jy] at h1;exact uk s _ _ om
def C2 (s:ByteArray) (q:Nat):wn s (64*q+1)=(wn s (64*q)++[0]).set q (fb s (64*q)*2 ^ 63):=by
 apply List.ext_getElem
 .simp only[qK,qe,qm,jy];omega
 .intro i h1 h2;have hl:=jy s (64*q);rw[Hb,List.getElem_set];split
  .subst i;have:=uj s q 0 (by decide);simp only[Nat.add_zero,Az,zf] at this;exact this
  .rw[jy] at h1;rw[qO om,Hb];exact uk s _ _ om
def Ef (s:ByteArray) (q r:Nat) (h:s.size<=64*q+r) (d:Nat):PV s q (r+d)=PV s q r*2 ^ d:=by
 induction d with
 | zero=>simp
 | succ d ih=>
  show 2*PV s q (r+d)+fb s (64*q+(r+d))=_;rw[ih,zL om,qI,Nat.add_zero,Qt 2,Nat.mul_assoc]
def C4 (s:ByteArray):wn s s.size=pkL s ((s.size+63) / 64):=by
 unfold wn pkL;apply Qn;intro q hq;rw[List.mem_range] at hq;unfold wq;by_cases h:64*q+64<=s.size
 .rw[show min 64 (s.size-64*q)=64 by omega];simp
 .have hm:min 64 (s.size-64*q)=s.size-64*q:=om;rw[hm];have:=Ef s q (s.size-64*q) om (64-(s.size-64*q));rw[show s.size-64*q+(64-(s.size-64*q))=64 by omega] at this;exact this.symm
def DO (L:Nat) (hL:L<2):bits BinOp.or IntKind.u64 0 ((L:Int)*9223372036854775808)=((L*2 ^ 63:Nat):Int):=by
 have:=u64_or_nat 0 (L*2 ^ 63) (by decide) om;rw[Nat.zero_or] at this;rw[<- this];congr 1
def m7 {a:World} (h:Lib.OthersKept 125 b a w) {g:Nat} (hg:∃ c fz,w.heap[g]?=sQ (.cells c 125 fz)) (j:Nat) (x:Value):Lib.OthersKept 125 b a (w.setCell ⟨g,j,nn⟩ x):=by
 intro k o hk hb ho;have h1:=h k o hk hb ho;rw[QB w ⟨g,j,nn⟩ k x (fun e=>?_)]
 .exact h1
 .obtain⟨c,fz,hc⟩:=hg;have e':k=g:=e;subst e';rw[h1] at hc;exact ho c fz (Qd hc)
def wJ {w':World} (h:Lib.OthersKept 125 nn w w'):Lib.OthersKept 125 b w w':=fun k o hk _ ho=>h k o hk pQ ho
def zj {w1:World} {b g q n:Nat} (hk:Lib.OthersKept 125 nn w w1) (hg:∃ c fz,w1.heap[g]?=sQ (.cells c 125 fz)) (e:g≠b) {X:Int} {v:Value} :
  Lib.OthersKept 125 (sQ b) w (((w1.setCell ⟨b,1,nn⟩ v).setCell ⟨g,q,nn⟩ (I .u64 X)).setCell ⟨b,0,nn⟩ (I J ((n:Int)+1))).drew:=by
 refine ((m7 ((wJ hk).setCell ⟨b,1,nn⟩ rfl v) ?_ q _).setCell ⟨b,0,nn⟩ rfl _).drew;obtain⟨c,fz,hc⟩:=hg;exact⟨c,fz,(QB w1 ⟨b,1,nn⟩ g v e).trans hc⟩
variable {w:World} {B:Nat} {l:List Nat} {v:Value}
def gh (w:World) (B:Nat):an w B (sL none 0 0) []:=⟨by simp[wv],.inl ⟨rfl,rfl⟩⟩
def an.slice (h:an w B v l):∃ ao cp,v = sL ao l.length cp/\l.length<=cp:=by
 obtain⟨_,⟨rfl,h2⟩|⟨g,cap,cur,rfl,hb,hh,hc,_⟩⟩:=h
 .exact⟨none,0,by rw[h2],om⟩
 .exact⟨_,cap,rfl,hc⟩
def an.lower {B':Nat} (h:an w B v l) (hB:B'<=B):an w B' v l:=by
 obtain⟨h1,h2|⟨g,cap,cur,rfl,hb,rest⟩⟩:=h
 .exact⟨h1,.inl h2⟩
 .exact⟨h1,.inr ⟨g,cap,cur,rfl,om,rest⟩⟩
def an.cap {ao:Option Addr} {n cp:Nat} (h:an w B (sL ao n cp) l) (hn:n=l.length):n<=cp:=by
 obtain⟨ao',cp',e,h2⟩:=h.slice;cases e;omega
variable {q n b:Nat} {x2 x3 x4:Value}
def lN {s t:ByteArray}:∀ j,(∀ i,i<j->fb s (64*q+i)=fb t (64*q+i))->PV s q j=PV t q j
 | 0,_=>rfl
 | j+1,h=>by
  show 2*PV s q j+fb s (64*q+j)=2*PV t q j+fb t (64*q+j);rw[lN j (fun i hi=>h i om),h j om]
def xF {s t:ByteArray} (h:∀ i,i<n->fb s i=fb t i):wn s n=wn t n:=by
 unfold wn;apply Qn;intro q hq;unfold wq;rw[lN _ (fun i hi=>h _ (by have:=Nat.min_le_right 64 (n-64*q);omega))]
def jL (l:List Nat) (i:Nat) (h:i<l.length) (hl:∀ x ∈ l,M.isL x):fb (ae l) i=l[i]-48:=by
 have hs:(ae l).size=l.length:=by simp[ae,ByteArray.size]
 have hx:=hl l[i] (zh h);unfold fb;rw[dif_pos om];have e:((ae l)[i]'om).toNat=l[i]:=by
  show (UInt8.toNat ((l.map UInt8.ofNat).toArray[i]'(by simp;omega)))=_;simp;rcases hx with hx | hx <;> omega
 rw[e];rcases hx with hx | hx <;> rw[hx] <;> rfl
def wl (o:List Nat):List Nat:=wn (ae o) o.length
def kD (o:List Nat) (c:Nat) (ho:∀ x ∈ o,M.isL x) (hc:M.isL c):wn (ae (o++[c])) o.length=wl o:=by
 refine xF fun i hi=>?_;rw[jL (o++[c]) i (by simp;omega) (by intro x hx;rw[qC] at hx;rcases hx with hx | hx;exact ho x hx;simp at hx;subst hx;exact hc),jL o i hi ho,qO hi]
def va (o:List Nat) (c:Nat) (ho:∀ x ∈ o,M.isL x) (hc:M.isL c):fb (ae (o++[c])) o.length=c-48:=by
 rw[jL (o++[c]) o.length pQ (by intro x hx;rw[qC] at hx;rcases hx with hx | hx;exact ho x hx;simp at hx;subst hx;exact hc)];simp
def C5 (o:List Nat) (c:Nat) (ho:∀ x ∈ o,M.isL x) (hc:M.isL c) (hr:o.length % 64=0):wl (o++[c])=(wl o++[0]).set (o.length / 64) ((c-48)*2 ^ 63):=by
 have:=C2 (ae (o++[c])) (o.length / 64);rw[show 64*(o.length / 64)=o.length by omega,kD o c ho hc,va o c ho hc] at this;unfold wl at this ⊢;rw[qe];exact this
def C6 (o:List Nat) (c:Nat) (ho:∀ x ∈ o,M.isL x) (hc:M.isL c) (hr:¬ o.length % 64=0):wl (o++[c])=(wl o).set (o.length / 64) (wq (ae o) o.length (o.length / 64)+(c-48)*2 ^ (63-o.length % 64)):=by
 have e:=kD o c ho hc;have:=C3 (ae (o++[c])) (o.length / 64) (o.length % 64) om om;rw[show 64*(o.length / 64)+o.length % 64=o.length by omega,e,va o c ho hc] at this;have e2:wq (ae (o++[c])) o.length (o.length / 64)=wq (ae o) o.length (o.length / 64):=by
  unfold wq;rw[lN _ (fun i hi=>?_)];have hi':64*(o.length / 64)+i<o.length:=by have:=Nat.min_le_right 64 (o.length-64*(o.length / 64));omega
  rw[jL (o++[c]) _ (by simp;omega) (by intro x hx;rw[qC] at hx;rcases hx with hx | hx;exact ho x hx;simp at hx;subst hx;exact hc),jL o _ hi' ho,qO hi']
 rw[e2] at this;unfold wl at this ⊢;rw[qe];exact this
def dT (o:List Nat):(wl o).length=(o.length+63) / 64:=jy _ _
structure bwS (w0:World) (b:Nat) (o:List Nat) (st:Bool) (r:Nat × Nat) (W:World):Prop where
 row:∃ v,W.heap[b]?=sQ (.cells #[I J (o.length:Int),v,bO st,I .i32 (r.1:Int),I J (r.2:Int)] 268)/\an W (b+1) v (wl o)
 bel:Below b w0 W
def bw5 {W:World} {x0 x1:Value} (h:W.heap[b]?=sQ (.cells #[x0,x1,x2,x3,x4] 268)) :
  (W.cell? ⟨b,0,nn⟩=sQ x0/\W.cell? ⟨b,1,nn⟩=sQ x1/\W.cell? ⟨b,2,nn⟩=sQ x2/\W.cell? ⟨b,3,nn⟩=sQ x3/\W.cell? ⟨b,4,nn⟩=sQ x4)/\(∀ j,W.frozen? ⟨b,j,nn⟩=false)/\b<W.heap.size:=by
 refine⟨⟨?_,?_,?_,?_,?_⟩,fun j=>?_,?_⟩;iterate 5 simp[World.cell?,h]
 .simp[World.frozen?,h]
 .rw[qR] at h;exact h.1
def B9 {w0 w1:World} {g cp:Nat} {v:Value} {l l':List Nat} {x:Nat} {X:Int} (hX:X=(x:Int)) (hh:w1.heap[b]?=sQ (.cells #[I J (n:Int),v,x2,x3,x4] 268))
  (ho:an w1 (b+1) (sL (sQ ⟨g,0,nn⟩) l.length cp) l) (hgb:¬ b=g) (hb:Below b w0 w1) (hbg:b<=g) (hl':l'=l.set q x) :
  (((w1.setCell ⟨b,1,nn⟩ (sL (sQ ⟨g,0,nn⟩) l.length cp)).setCell ⟨g,q,nn⟩ (I .u64 X)).setCell ⟨b,0,nn⟩ (I J ((n:Int)+1))).drew.heap[b]?=sQ (.cells #[I J ((n+1:Nat):Int),sL (sQ ⟨g,0,nn⟩) l.length cp,x2,x3,x4] 268) /\
  an (((w1.setCell ⟨b,1,nn⟩ (sL (sQ ⟨g,0,nn⟩) l.length cp)).setCell ⟨g,q,nn⟩ (I .u64 X)).setCell ⟨b,0,nn⟩ (I J ((n:Int)+1))).drew (b+1) (sL (sQ ⟨g,0,nn⟩) l.length cp) l' /\
  Below b w0 (((w1.setCell ⟨b,1,nn⟩ (sL (sQ ⟨g,0,nn⟩) l.length cp)).setCell ⟨g,q,nn⟩ (I .u64 X)).setCell ⟨b,0,nn⟩ (I J ((n:Int)+1))).drew:=by
 subst hX hl';refine⟨?_,?_,?_⟩
 .show (((w1.setCell ⟨b,1,nn⟩ _).setCell ⟨g,q,nn⟩ _).setCell ⟨b,0,nn⟩ _).heap[b]?=_;have h1:=QQ w1 b 1 _ _ (sL (sQ ⟨g,0,nn⟩) l.length cp) hh;have h2:=(QB (w1.setCell ⟨b,1,nn⟩ (sL (sQ ⟨g,0,nn⟩) l.length cp)) ⟨g,q,nn⟩ b (I .u64 (x:Int)) (by show b≠g;exact hgb)).trans h1;rw[QQ _ b 0 _ _ (I J ((n:Int)+1)) h2];simp
 .have h3:=((ho.setCellO b 1 (sL (sQ ⟨g,0,nn⟩) l.length cp) om).stored q x).setCellO b 0 (I J ((n:Int)+1)) om;exact h3.otherBlock fun _ _=>rfl
 .exact (((hb.setCell (p:=⟨b,1,nn⟩) pQ _).setCell (p:=⟨g,q,nn⟩) (by simpa using hbg) _).setCell (p:=⟨b,0,nn⟩) pQ _).drew
def BH (w:World) (b:Nat) (x0 x1 x2:Value) (a k c:Nat) (hc:c<=49) (ha:a<=49) (hk:k<=100000) (h:w.heap[b]?=sQ (.cells #[x0,x1,x2,I .i32 (a:Int),I J (k:Int)] 268)) :
  Calls Tp 248 #[pT (sQ ⟨b,3,nn⟩),I .i32 (c:Int)] w fun o w'=>o = rT (.tuple #[])/\w'.heap[b]?=sQ (.cells #[x0,x1,x2,I .i32 ((M.C0 (a,k) c).1:Int),I J ((M.C0 (a,k) c).2:Int)] 268)/\(∀ q,q≠b->w'.heap[q]?=w.heap[q]?)/\Below b w w':=by
 obtain⟨⟨c0,c1,c2,c3,c4⟩,fz,hz⟩:=bw5 h;have f3:=fz 3;have f4:=fz 4;have HH:Hid (w.heap[b]?=sQ (.cells #[x0,x1,x2,I .i32 (a:Int),I J (k:Int)] 268)):=h;clear h c0 c1 c2 fz;by_cases e:c=a
 .subst e;have hb:((c:Int) != (c:Int))=false:=by simp
  go_enter Tryz.func248,Tryz.ntmps248;go_wp2;go_end0;refine⟨rfl,?_,fun q hq=>QB w ⟨b,4,nn⟩ q _ hq,(bW _ _).setCell (p:=⟨b,4,nn⟩) pQ _⟩;rw[QQ _ b 4 _ _ _ HH.o,M.iC];simp
 .have hb:((c:Int) != (a:Int))=true:=by simp;omega
  go_enter Tryz.func248,Tryz.ntmps248;go_wp2;go_end0;have h1:=QQ w b 3 _ _ (Value.int IntKind.i32 (c:Int)) HH.o;have h2:=QQ _ b 4 _ _ (Value.int IntKind.i64 0) h1;have h3:=QQ _ b 4 _ _ (Value.int IntKind.i64 1) h2;refine⟨rfl,?_,fun q hq=>?_,?_⟩
  .rw[h3,M.fD a k c e];simp
  .exact ((QB _ ⟨b,4,nn⟩ q _ hq).trans (QB _ ⟨b,4,nn⟩ q _ hq)).trans (QB w ⟨b,3,nn⟩ q _ hq)
  .exact (((bW b w).setCell (p:=⟨b,3,nn⟩) pQ _).setCell (p:=⟨b,4,nn⟩) pQ _).setCell (p:=⟨b,4,nn⟩) pQ _
def BK (w:World) (b:Nat) (x0 x1 x2:Value) (a k:Nat) (h:w.heap[b]?=sQ (.cells #[x0,x1,x2,I .i32 (a:Int),I J (k:Int)] 268)) :
  Calls Tp 249 #[pT (sQ ⟨b,3,nn⟩)] w fun o w'=>o = rT (bO (decide (k=5)))/\w'=w:=by
 obtain⟨⟨c0,c1,c2,c3,c4⟩,fz,hz⟩:=bw5 h;clear h c0 c1 c2 c3 fz hz;have e:((k:Int) == 5)=decide (k=5):=by
  by_cases hk:k=5
  .simp[hk]
  .have:¬ (k:Int)=5:=om;simp[hk,this]
 go_enter Tryz.func249,Tryz.ntmps249;go_wp2;go_ret;first | exact⟨rfl,rfl⟩ | exact⟨by rw[e],rfl⟩
variable {w:World} {B:Nat} {v:Value} {l:List Nat}
def an.alloc (h:an w B v l) (o:Obj):an (w.alloc o) B v l:=by
 unfold an at h ⊢;exact QN h o
def an.below {w':World} (h:an w B v l) (hb:Bl w w'):an w' B v l:=
 h.otherBlock fun g hg=>hb.block g (QC h g hg).2
def mkL (k:Nat):Nat->List Nat->List Nat
 | 0,l=>l
 | j+1,l=>(mkL k j l).set j (k+j)
def fM (k j:Nat) (l:List Nat):(mkL k j l).length=l.length:=by
 induction j with
 | zero=>rfl
 | succ j ih=>show ((mkL k j l).set j (k+j)).length=_;rw[qK,ih]
def DP (k j:Nat) (l:List Nat) (i:Nat) (hi:i<j) (hj:j<=l.length):(mkL k j l).getD i 0=k+i:=by
 induction j with
 | zero=>omega
 | succ j ih=>
  show ((mkL k j l).set j (k+j)).getD i 0=_;have hl:=fM k j l;by_cases e:i=j
  .subst e;have h2:i<l.length:=om;simp[ql,hl,h2]
  .have:=ih om om;rw[ql] at this ⊢;rw[List.getElem?_set_ne om];exact this
def xu {w0 w:World} {B g:Nat} (h:Below B w0 w) (hg:B<=g) (j:Nat) (x:Value):Below B w0 (w.setCell ⟨g,j,nn⟩ x):=h.setCell (by exact hg) x
def lY (w:World) (B:Nat) (ao:Option Addr) (n cap k:Nat) (l:List Nat) (h:an w B (sL ao n cap) l) (hn:n=l.length) (hk:k+n<=10000000000000000) :
  Calls Tp 73 #[sL ao n cap,I J (k:Int)] w fun e w'=>e = rT (I J ((k+n:Nat):Int))/\an w' B (sL ao n cap) (mkL k n l)/\Below B w w'/\∀ b,(∀ a,ao=sQ a->a.block≠b)->w'.heap[b]?=w.heap[b]?:=by
 by_cases hl:l=[]
 .subst hl;have hn':n=0:=hn;subst hn';have H:Hid (an w B (sL ao 0 cap) []):=h;clear h hn;go_enter Tryz.func73,Tryz.ntmps73;go_wp2;go_loopw [1,5] (fun kk i wr=>i = I J 0/\kk = I J (k:Int)/\wr=w) (fun _ _ _=>0);case atStart=>exact⟨rfl,rfl,rfl⟩
  case round=>
   obtain⟨rfl,rfl,rfl⟩:=hrel;go_wp2;go_ret;exact⟨rfl,H.o,bW _ _,fun _ _=>rfl⟩
 .obtain⟨g,cap',hv,hgB,hgz,hcap,-,-⟩:=h.open hl;cases hv;have H:Hid (an w B (sL (sQ ⟨g,0,nn⟩) l.length cap) l):=h;clear h;go_enter Tryz.func73,Tryz.ntmps73;go_wp2;go_loopw [1,5] (fun kk i wr=>∃ j:Nat,j<=l.length/\i = I J (j:Int)/\kk = I J ((k+j:Nat):Int)/\an wr B (sL (sQ ⟨g,0,nn⟩) l.length cap) (mkL k j l)/\Below B w wr/\∀ b,g≠b->wr.heap[b]?=w.heap[b]?) (fun _ i _=>l.length-(intOf i).toNat);case atStart=>exact⟨0,nZ _,rfl,rfl,H.o,bW _ _,fun _ _=>rfl⟩
  case round=>
   obtain⟨j,hj,rfl,rfl,ho,hb,hoth⟩:=hrel;by_cases hlt:j<l.length
   .have hrow:yl wr g l.length (fun t=>(mkL k j l).getD t 0):=by
     have ho':=ho;rw[<- fM k j l] at ho';obtain⟨g',c',e,-,-,-,-,hr⟩:=ho'.open (by intro e;have:=fM k j l;rw[e] at this;simp at this;omega);cases e;rw[fM k j l] at hr;exact hr
    have hc:=hrow.cell j hlt;have hf:=hrow.free j hlt;have st:an (wr.setCell ⟨g,j,nn⟩ (I .u64 ((k+j:Nat):Int))) B (sL (sQ ⟨g,0,nn⟩) l.length cap) (mkL k (j+1) l):=by
     have ho':=ho;rw[<- fM k j l] at ho';have:=ho'.stored j (k+j);rw[fM k j l] at this;exact this
    have hb2:=xu hb hgB j (I .u64 ((k+j:Nat):Int));have HST:Hid (an (wr.setCell ⟨g,j,nn⟩ (I .u64 ((k+j:Nat):Int))) B (sL (sQ ⟨g,0,nn⟩) l.length cap) (mkL k (j+1) l)/\Below B w (wr.setCell ⟨g,j,nn⟩ (I .u64 ((k+j:Nat):Int)))/\∀ b,g≠b->(wr.setCell ⟨g,j,nn⟩ (I .u64 ((k+j:Nat):Int))).heap[b]?=w.heap[b]?):=⟨st,hb2,fun b hb'=>(QB wr ⟨g,j,nn⟩ b _ (fun e=>hb' e.symm)).trans (hoth b hb')⟩
    have hkj:k+j<=10000000000000000:=om;have hu:IntKind.u64.wrap ((k:Int)+(j:Int))=(k:Int)+(j:Int):=by simp[IntKind.wrap,IntKind.bits,IntKind.signed];omega
    clear st hb2 hrow ho hb hoth;go_wp2;go_roundw;case rel=>exact⟨j+1,om,by go_num,by go_num,HST.o.1,HST.o.2.1,HST.o.2.2⟩
    case measure=>simp[intOf];omega
   .have:j=l.length:=om;subst this;have HST:Hid (an wr B (sL (sQ ⟨g,0,nn⟩) l.length cap) (mkL k l.length l)/\Below B w wr/\∀ b,g≠b->wr.heap[b]?=w.heap[b]?):=⟨ho,hb,hoth⟩
    clear ho hb hoth;go_wp2;go_ret;exact⟨rfl,HST.o.1,HST.o.2.1,fun b hb'=>HST.o.2.2 b (hb' _ rfl)⟩
def mo (w:World) (B:Nat) (ao:Option Addr) (n cap k:Nat) (l:List Nat) (h:an w B (sL ao n cap) (mkL k n l)) (hn:n=l.length) (hk:k+n<=10000000000000000) :
  Calls Tp 76 #[sL ao n cap,I J (k:Int)] w fun e w'=>e = rT (I J ((k+n:Nat):Int))/\∃ q,w'=w.drewN q:=by
 by_cases hl:l=[]
 .subst hl;have hn':n=0:=hn;subst hn';clear h hn;go_enter Tryz.func76,Tryz.ntmps76;go_wp2;go_loopw [1,5] (fun kk i wr=>i = I J 0/\kk = I J (k:Int)/\wr=w) (fun _ _ _=>0);case atStart=>exact⟨rfl,rfl,rfl⟩
  case round=>
   obtain⟨rfl,rfl,rfl⟩:=hrel;go_wp2;go_ret;exact⟨rfl,0,rfl⟩
 .subst hn;have hl':mkL k l.length l≠[]:=by intro e;have:=fM k l.length l;rw[e] at this;simp at this;exact hl (List.eq_nil_of_length_eq_zero this.symm)
  obtain⟨g,cap',hv,hgB,hgz,hcap,-,hrow⟩:=h.open hl';rw[fM] at hv hrow;cases hv;have HR:Hid (∀ q j,j<l.length->(w.drewN q).cell? ⟨g,j,nn⟩=sQ (I .u64 ((k+j:Nat):Int))):=by
   intro q j hj;have:=hrow.cell j hj;rw[DP k l.length l j hj (nR _)] at this;exact (QR (bW w.heap.size w) q).cell (by exact hgz) |>.trans this
  clear h hrow;go_enter Tryz.func76,Tryz.ntmps76;go_wp2;go_loopw [1,5] (fun kk i wr=>∃ j q:Nat,j<=l.length/\i = I J (j:Int)/\kk = I J ((k+j:Nat):Int)/\wr=w.drewN q) (fun _ i _=>l.length-(intOf i).toNat);case atStart=>exact⟨0,0,nZ _,rfl,rfl,rfl⟩
  case round=>
   obtain⟨j,q,hj,rfl,rfl,rfl⟩:=hrel;by_cases hlt:j<l.length
   .have hc:=HR.o q j hlt;have hkj:k+j<=10000000000000000:=om;have hu:IntKind.u64.wrap ((k:Int)+(j:Int))=(k:Int)+(j:Int):=by simp[IntKind.wrap,IntKind.bits,IntKind.signed];omega
    generalize hW:w.drewN q=W at *;have HW:Hid (W=w.drewN q):=hW.symm;clear hW;go_wp2;go_roundw;case rel=>exact⟨j+1,q,om,by go_num,by go_num,HW.o⟩
    case measure=>simp[intOf];omega
   .have:j=l.length:=om;subst this;go_wp2;go_ret;exact⟨rfl,q,rfl⟩
def kV (w:World) (B:Nat) (N:Int) (ao:Option Addr) (n cap k:Nat) (l:List Nat) (h:an w B (sL ao n cap) l) (hn:n=l.length) (hk:k+n<=10000000000000000) (hB:B<=w.heap.size) :
  Calls Tp 34 #[pkV N ao n cap,I J (k:Int)] w fun e w'=>e = rT (I J ((k+n:Nat):Int))/\an w' B (sL ao n cap) (mkL k n l)/\Below B w w'/\∀ b,b<w.heap.size->(∀ a,ao=some a->a.block≠b)->w'.heap[b]?=w.heap[b]?:=by
 have H:Hid (∀ x,Calls Tp 73 #[sL ao n cap,I J (k:Int)] (w.alloc x) fun e w'=>e = rT (I J ((k+n:Nat):Int))/\an w' B (sL ao n cap) (mkL k n l)/\Below B (w.alloc x) w'/\∀ b,(∀ a,ao=some a->a.block≠b)->w'.heap[b]?=(w.alloc x).heap[b]?):=fun x=>lY (w.alloc x) B ao n cap k l (h.alloc x) hn hk;have HB:Hid (B<=w.heap.size):=hB;clear h hB hn;go_enter Tryz.func34,Tryz.ntmps34;go_wp2_with (go_at_call 73;refine (H.o _).mono ?_;rintro o w1 ⟨rfl,ho,hb,hoth⟩);go_ret;exact⟨rfl,ho,((bW B w).alloc HB.o _).trans hb,fun b hb1 hb2=>(hoth b hb2).trans (Below.heap_alloc w _ b hb1)⟩
def lz (w:World) (B:Nat) (N:Int) (ao:Option Addr) (n cap k:Nat) (l:List Nat) (h:an w B (sL ao n cap) (mkL k n l)) (hn:n=l.length) (hk:k+n<=10000000000000000) :
  Calls Tp 37 #[pkV N ao n cap,I J (k:Int)] w fun e w'=>e = rT (I J ((k+n:Nat):Int))/\Bl w w':=by
 have H:Hid (∀ x,Calls Tp 76 #[sL ao n cap,I J (k:Int)] (w.alloc x) fun e w'=>e = rT (I J ((k+n:Nat):Int))/\∃ q,w'=(w.alloc x).drewN q):=fun x=>mo (w.alloc x) B ao n cap k l (h.alloc x) hn hk;have hk0:¬ ((k:Int)+(n:Int))<0:=om;clear h hn;go_enter Tryz.func37,Tryz.ntmps37;go_wp2_with (go_at_call 76;refine (H.o _).mono ?_;rintro o w1 ⟨rfl,q,rfl⟩);go_ret;exact⟨rfl,QR qw q⟩
open Go renaming World->Wd
variable {ops:Array Oper} {rest:List Oper} {o:Oper} {a:Act} {Q:Exit->Act->Wd->Prop}
def Ih (w:Wd)
  (hg:o.guard=nn) (l c:Operand) (hop:o.op=Op.makeSlice 50 l c) (C:Int) (n:Nat) (hl:a.eval l = I J C) (hc:a.eval c = I J C) (hC:C=(n:Int)) (hn:n<=100000000)
  (hK:∀ w',an w' w.heap.size (sL (sQ ⟨w.heap.size,0,nn⟩) n n) (List.replicate n 0)->w.grownBy w' nn->wpList Tp ops Q rest (a.put o.dst (sL (sQ ⟨w.heap.size,0,nn⟩) n n)) w') :
  wpList Tp ops Q (o :: rest) a w:=by
 obtain⟨i0,hi,hz0,hz1,hz2⟩:=QX Tryz.info125;refine wpList_make_full w hg l c 50 hop w.heap.size 125 i0 (I .u64 0) 1 Tryz.underlying50 hi hz0 hz1 .i64 .i64 C C n hl hc hC hC (by rw[hz2];omega) (by unfold maxLen;omega) (nR _) ?_;intro w' ho hgr;refine hK w' ?_ hgr;have e:(madeCells (Value.int IntKind.u64 0).cells (n*1)).toList=List.replicate (n*1) (I .u64 0):=toList_madeCells_one _ _;rw[e,Nat.mul_one] at ho;unfold an wv;rw[List.length_replicate,List.map_replicate];exact ho
def Hc (w:Wd) (a:Option Addr) (n cap:Nat) (l:List Nat) (h:bP w a n cap l) (hn:n<=1048576) :
  Calls Tp 93 #[sL a n cap] w fun e w'=>∃ g,e = rT (sL (sQ ⟨g,0,nn⟩) n n)/\an w' w.heap.size (sL (sQ ⟨g,0,nn⟩) n n) l/\Bl w w':=by
 have hlen:=h.len;have hcp:=h.cap;have HL:Hid (n=l.length):=hlen
 have HC:Hid (∀ k (hk:k<l.length),∃ g off,a=sQ ⟨g,off,nn⟩/\g<w.heap.size/\w.cell? ⟨g,off+k,nn⟩=sQ (I .u64 (l[k]:Int))):=fun k hk=>by
  obtain⟨g,off,e,hc⟩:=h.cells (by intro e;subst e;simp at hk);exact⟨g,off,e,QD w _ (hc k hk),hc k hk⟩
 clear h hlen;go_enter Tryz.func93,Tryz.ntmps93;go_wp2_with (at_make;refine Ih _ rfl (.tmp 6) (.tmp 6) rfl _ n rfl rfl rfl om ?_;intro w1 ho1 hg1);go_loopw [4] (fun i wr=>∃ (k:Nat) (X:List Nat),k<=n/\i = I J k/\X.length=n/\(∀ t,t<k->X[t]?=l[t]?)/\an wr w.heap.size (sL (sQ ⟨w.heap.size,0,nn⟩) n n) X/\Bl w wr) (fun i _=>n-(intOf i).toNat);case atStart=>exact⟨0,List.replicate n 0,nZ _,rfl,List.length_replicate ..,(fun t ht=>Qz ht (nN t)),ho1,(bW _ _).grown hg1 (nR _) (by intro k e;cases e)⟩
 case round=>
  clear ho1 hg1;obtain⟨k,X,hk,rfl,hX,hp,ho,hb⟩:=hrel;by_cases hlt:k<n
  .obtain⟨g,off,rfl,hgz,hc⟩:=HC.o k (by have:=HL.o;omega);have hcx:wr.cell? ⟨g,off+k,nn⟩=sQ (I .u64 (l[k]'(by have:=HL.o;omega):Int)):=(hb.cell (by exact hgz)).trans hc;have HG:Hid (l[k]?=sQ (l[k]'(by have:=HL.o;omega))):=qA _;have hrow:yl wr w.heap.size n (fun t=>X.getD t 0):=by
    obtain⟨g',c',e',-,-,-,-,hr⟩:=ho.open (by intro e;subst e;simp at hX;omega);cases e';exact hr
   have hcy:=hrow.cell k om;have hfy:=hrow.free k om;generalize l[k]'(by have:=HL.o;omega)=x at *;have HS:Hid (∃ X',X'.length=n/\(∀ t,t<k+1->X'[t]?=l[t]?)/\an (wr.setCell ⟨w.heap.size,k,nn⟩ (I .u64 (x:Int))) w.heap.size (sL (sQ ⟨w.heap.size,0,nn⟩) n n) X'/\Bl w (wr.setCell ⟨w.heap.size,k,nn⟩ (I .u64 (x:Int)))):=by
    refine⟨X.set k x,by rw[qK,hX],fun t ht=>?_,?_,hb.setCell (by exact nR _) _⟩
    .rw[List.getElem?_set];by_cases e:k=t
     .subst e;rw[zc rfl,zc om,HG.o]
     .rw[zb e];exact hp t om
    .have ho':=ho;rw[<- hX] at ho' ⊢;exact ho'.stored k x
   have hne:¬ w.heap.size=g:=om;clear hrow ho hb hp hX;go_wp2;go_roundw;case rel=>
    obtain⟨X',q1,q2,q3,q4⟩:=HS.o;exact⟨k+1,X',om,by go_num,q1,q2,q3,q4⟩
   case measure=>simp[intOf];omega
  .have e:X=l:=List.ext_getElem? fun t=>by
    have:=HL.o;by_cases ht:t<k
    .exact hp t ht
    .rw[List.getElem?_eq_none om,List.getElem?_eq_none om]
   rw[e] at ho;have HO:=(show Hid _ from qH ho hb)
   clear ho hb hp e hX;go_wp2;go_ret;exact⟨_,rfl,HO.o⟩
def Gk (w:Wd) (a:Option Addr) (n cap:Nat) (m:Nat) (hn:n<=9223372036854775807) (hm:m<=1048576) :
  Calls Tp 78 #[sL a n cap,I J m] w fun o w'=>o = rT (I J (if (n:Int)<=(m:Int) then (m:Int)-(n:Int) else -1))/\w=w':=by
 by_cases h:(n:Int)<=(m:Int)
 .rw[zc h];go_enter Tryz.func78,Tryz.ntmps78;go_wp2;go_ret;exact⟨rfl,rfl⟩
 .rw[zb h];go_enter Tryz.func78,Tryz.ntmps78;go_wp2;go_ret;exact⟨rfl,rfl⟩
def GN (w:Wd) (N:Int) (a:Option Addr) (n cap:Nat) (m:Nat) (hn:n<=9223372036854775807) (hm:m<=1048576) :
  Calls Tp 39 #[pkV N a n cap,I J m] w fun o w'=>o = rT (I J (if (n:Int)<=(m:Int) then (m:Int)-(n:Int) else -1))/\w.alloc (pkC N a n cap 67)=w':=by
 by_cases h:(n:Int)<=(m:Int)
 .have HC:Hid (∀ W,Calls Tp 78 #[sL a n cap,I J m] W fun o w'=>o = rT (I J ((m:Int)-(n:Int)))/\W=w'):=by
   intro W;have:=Gk W a n cap m hn hm;rw[zc h] at this;exact this
  rw[zc h];go_enter Tryz.func39,Tryz.ntmps39;go_wp2_with (go_at_call 78;refine (HC.o _).mono ?_;rintro o w1 ⟨rfl,rfl⟩);go_ret;exact⟨rfl,rfl⟩
 .have HC:Hid (∀ W,Calls Tp 78 #[sL a n cap,I J m] W fun o w'=>o = rT (I J (-1))/\W=w'):=by
   intro W;have:=Gk W a n cap m hn hm;rw[zb h] at this;exact this
  rw[zb h];go_enter Tryz.func39,Tryz.ntmps39;go_wp2_with (go_at_call 78;refine (HC.o _).mono ?_;rintro o w1 ⟨rfl,rfl⟩);go_ret;exact⟨rfl,rfl⟩
def GM (w:Wd) (N:Int) (a:Option Addr) (n cap:Nat) (l:List Nat) (h:bP w a n cap l) (hn:n<=1048576) :
  Calls Tp 48 #[pkV N a n cap] w fun o w'=>∃ g,o = rT (pkV N (sQ ⟨g,0,nn⟩) n n)/\an w' w.heap.size (sL (sQ ⟨g,0,nn⟩) n n) l/\Bl w w':=by
 have HH:Hid (bP w a n cap l):=h;clear h;go_enter Tryz.func48,Tryz.ntmps48;go_wp2_with (go_at_call 93;refine (Hc _ a n cap l (HH.o.below ?_) hn).mono ?_)
 .first | exact qw.alloc pQ _ | exact ((qw.alloc pQ _).alloc (by simp;omega) _) | exact (((qw.alloc pQ _).alloc (by simp;omega) _).setCell pQ _)
 .rintro o w1 ⟨g,rfl,hby,hb⟩;obtain⟨hc,hf⟩:=vl hb;have hB:Bl w w1:=by
   refine Below.trans ?_ (hb.mono (by simp;try omega));first | exact qw.alloc pQ _ | exact ((qw.alloc pQ _).alloc (by simp;omega) _) | exact (((qw.alloc pQ _).alloc (by simp;omega) _).setCell pQ _)
  have HG:Hid (w.heap.size+1+1+1<=g):=by unfold Hid;simpa using (QC hby g rfl).1
  have HY:Hid (an w1 w.heap.size (sL (sQ ⟨g,0,nn⟩) n n) l):=hby.lower (by simp;try omega);clear hb hby;go_wp2;refine QF (v:=pkV N (sQ ⟨g,0,nn⟩) n n) (by simp[results,Tryz.results48,go_sem,hc]) rfl ?_;have hg':=HG.o;refine⟨g,rfl,?_,?_⟩
  .refine HY.o.otherBlock fun g' e=>?_;cases e;rw[QB _ _ _ _ (by dsimp only;omega),QB _ _ _ _ (by dsimp only;omega),QB _ _ _ _ (by dsimp only;omega)]
  .exact ((hB.setCell (p:=⟨_,1,nn⟩) (by simp;omega) _).setCell (p:=⟨_,0,nn⟩) pQ _).setCell (p:=⟨_,1,nn⟩) pQ _
def Gh (w:Wd) (N:Int) (a:Option Addr) (n cap:Nat) (l:List Nat) (h:bP w a n cap l) (i:Nat) (hi:i<64*n) (hn:n<=1048576) :
  Calls Tp 84 #[pkV N a n cap,I J (i:Int)] w fun o w'=>o = rT (I J (lev l i:Int))/\w'=w.alloc (pkC N a n cap 52):=by
 have hl:l≠[]:=by intro e;subst e;have:=h.len;simp at this;omega
 obtain⟨g,off,rfl,hc⟩:=h.cells hl;have hgz:g<w.heap.size:=QD w _ (hc 0 (by have:=List.length_pos_iff.2 hl;omega));have hll:i / 64<l.length:=by have:=h.len;omega
 have hcx:=hc (i / 64) hll;have hlt:i / 64<n:=om;have hr:i % 64<64:=om;have HL:Hid (l.getD (i / 64) 0=l[i / 64]'hll):=eB l _ hll;have HX0:=h.small _ (zh (l:=l) (n:=i / 64) hll);have hx:Hid (l[i / 64]'(hll)<18446744073709551616):=HX0;clear HX0 h hc;generalize hxx:l[i / 64]'hll=x at *;have HV:Hid (lev l i=x / 2 ^ (63-i % 64) % 2):=by unfold Hid lev;rw[HL.o]
 have e3:(i:Int).tdiv 64=((i / 64:Nat):Int):=by rw[Qk om];omega
 have e4:(i:Int).tmod 64=((i % 64:Nat):Int):=by rw[qh om];omega
 generalize lev l i=L at *;clear HL;clear hxx;clear hll;generalize i / 64=q at *;generalize i % 64=r at *;go_enter Tryz.func84,Tryz.ntmps84;go_wp2;go_ret;exact⟨au (by rw[HV.o];exact Bk x r hx.o),rfl⟩
def JT (w:Wd) (N:Int) (a:Option Addr) (n cap:Nat) (h:N<0) :
  Calls Tp 83 #[pkV N a n cap] w fun o w'=>o = rT (bO false)/\w'=w.alloc (pkC N a n cap 52):=by
 go_enter Tryz.func83,Tryz.ntmps83;go_wp2;go_ret;exact⟨rfl,rfl⟩
def JV (w:Wd) (N:Int) (a:Option Addr) (n cap:Nat) (h0:0<=N) (h:4000<N) :
  Calls Tp 83 #[pkV N a n cap] w fun o w'=>o = rT (bO false)/\w'=w.alloc (pkC N a n cap 52):=by
 go_enter Tryz.func83,Tryz.ntmps83;go_wp2;go_ret;exact⟨rfl,rfl⟩
def JU (w:Wd) (N:Nat) (a:Option Addr) (n cap:Nat) (h:N<=4000) (m:Nat) (hm:m<=1048576) (hq:((N:Int)+63).tdiv 64=(m:Int)) (hne:((n:Int) != (m:Int))=true) :
  Calls Tp 83 #[pkV (N:Int) a n cap] w fun o w'=>o = rT (bO false)/\w'=w.alloc (pkC (N:Int) a n cap 52):=by
 go_enter Tryz.func83,Tryz.ntmps83;go_wp2;go_ret;exact⟨rfl,rfl⟩
def JB (w:Wd) (N:Nat) (a:Option Addr) (n cap:Nat) (l:List Nat) (h:bP w a n cap l) (hN:N<=4000) (hn:n<=1000) (hq:((N:Int)+63).tdiv 64=(n:Int)) (hNn:N<=64*n) :
  Calls Tp 83 #[pkV (N:Int) a n cap] w fun o w'=>o = rT (bO (AW l N n))/\Bl w w':=by
 have HH:Hid (bP w a n cap l):=h;clear h;go_enter Tryz.func83,Tryz.ntmps83;go_wp2;go_loopw [3] (fun i wr=>∃ k:Nat,N<=k/\k<=64*n/\i = I J (k:Int)/\(∀ j,N<=j->j<k->lev l j=0)/\Below (w.heap.size+1) (w.alloc (pkC (N:Int) a n cap 52)) wr) (fun i _=>64*n-(intOf i).toNat);case atStart=>exact⟨N,nR _,hNn,rfl,fun j h1 h2=>Qz h1 om,bW _ _⟩
 case round=>
  obtain⟨k,hk1,hk2,rfl,hz,hb⟩:=hrel;obtain⟨c0,c1,hB⟩:=EI hb;have hsz:=hB.size;have HZ:Hid ((∀ j,N<=j->j<k->lev l j=0)/\Below (w.heap.size+1) (w.alloc (pkC (N:Int) a n cap 52)) wr/\Bl w wr/\N<=k):=⟨hz,hb,hB,hk1⟩
  clear hz hb hB hk1;by_cases hlt:k<64*n
  .have hL:lev l k=0\/lev l k=1:=by unfold lev;omega
   rcases hL with hL|hL
   .have HL:Hid (lev l k=0):=hL;go_wp2_with (go_at_call 84;refine (Gh _ (N:Int) a n cap l (HH.o.below HZ.o.2.2.1) k hlt om).mono ?_;rintro o w1 ⟨rfl,rfl⟩;rw[HL.o]);go_roundw;case rel=>
     refine⟨k+1,by have:=HZ.o.2.2.2;omega,om,by go_num,?_,?_⟩
     .intro j h1 h2;by_cases e:j=k
      .subst e;exact HL.o
      .exact HZ.o.1 j h1 om
     .exact HZ.o.2.1.alloc (by have:=HZ.o.2.1.size;simp at this;omega) _
    case measure=>simp[intOf];omega
   .have HL:Hid (lev l k=1):=hL;go_wp2_with (go_at_call 84;refine (Gh _ (N:Int) a n cap l (HH.o.below HZ.o.2.2.1) k hlt om).mono ?_;rintro o w1 ⟨rfl,rfl⟩;rw[HL.o]);go_ret;refine⟨aj ?_,HZ.o.2.2.1.alloc hsz _⟩;symm
    rw[Bool.eq_false_iff];intro hp;have:=kQ.1 hp k HZ.o.2.2.2 hlt;rw[HL.o] at this;cases this
  .go_wp2;go_ret;refine⟨aj (kQ.2 fun i h1 h2=>HZ.o.1 i h1 om).symm,HZ.o.2.2.1⟩
def Ht (w:Wd) (N:Int) (a:Option Addr) (n cap:Nat) (l:List Nat) (h:bP w a n cap l) :
  Calls Tp 83 #[pkV N a n cap] w fun o w'=>o = rT (bO (okP N l))/\Bl w w':=by
 have hb1:Bl w (w.alloc (pkC N a n cap 52)):=qw;have hl:=h.len;by_cases h0:0<=N
 case neg=>
  refine (JT w N a n cap om).mono ?_;rintro o w' ⟨rfl,rfl⟩;exact⟨aj (by simp[okP,h0]),hb1⟩
 by_cases h1:N<=4000
 case neg=>
  refine (JV w N a n cap h0 om).mono ?_;rintro o w' ⟨rfl,rfl⟩;exact⟨aj (by simp[okP,h1]),hb1⟩
 obtain⟨M,rfl⟩ : ∃ M:Nat,N=(M:Int):=⟨N.toNat,om⟩
 have hq:((M:Int)+63).tdiv 64=(((M+63) / 64:Nat):Int):=by rw[Qk om];omega
 by_cases h2:n=(M+63) / 64
 case neg=>
  refine (JU w M a n cap om ((M+63) / 64) om hq (by simp;omega)).mono ?_;rintro o w' ⟨rfl,rfl⟩;refine⟨aj ?_,hb1⟩;have:¬ l.length=(M+63) / 64:=om;simp[okP,this]
 have e2:l.length=(M+63) / 64:=om;have hok:okP (M:Int) l=AW l M l.length:=by
  simp[okP,<- e2];omega
 rw[hok,<- hl];exact JB w M a n cap l h om om (by rw[hq,h2]) om
def unL (l:List Nat) (N:Nat):List Nat:=(List.range N).map fun i=>48+lev l i
def Gs (l:List Nat) (N:Nat):(unL l N).length=N:=by simp[unL]
def IY (l:List Nat) (k:Nat):unL l (k+1)=unL l k++[48+lev l k]:=by simp[unL,List.range_succ]
def Ii (l:List Nat) (i:Nat):lev l i<2:=by unfold lev;omega
def GI (l:List Nat) (N:Nat):∀ x ∈ unL l N,x<256:=by
 intro x hx;simp only[unL,List.mem_map] at hx;obtain⟨i,_,rfl⟩:=hx;have:=Ii l i;omega
def unZ (N:Int) (l:List Nat):ByteArray:=if okP N l=true then ae (unL l N.toNat) else ⟨#[]⟩
def IU (w0 wr:Wd) (hgd:o.guard=nn) (s x:Operand)
  (ho:o.op = .call { callee:=.builtin .append,args:=#[s,x],argTypes:=#[45,45] })
  (B:Nat) (v:Value) (l:List Nat) (c:Nat) (ci:Int) (hci:ci=(c:Int)) (hs:a.eval s=v) (hown:aa wr B v l)
  (b:Nat) (hbz:b=wr.heap.size) (hx:a.eval x = sL (sQ ⟨b,0,nn⟩) 1 1) (hlen:l.length<=100000000) (hB:B<=wr.heap.size) (hbel:Below B w0 wr)
  (h:∀ v' w',aa w' B v' (l++[c])->Below B w0 w'->B<=w'.heap.size->wpList Tp ops Q rest (a.put o.dst v') w') :
  wpList Tp ops Q (o :: rest) a (wr.alloc (.cells #[I .u8 ci] 5)):=by
 subst hbz;exact fE w0 wr hgd s x ho B v l c ci hci hs hown hx hlen hB hbel h
def Jt {w:Wd} {g:Nat} {l:List Nat} (h:∀ t (ht:t<l.length),w.cell? ⟨g,t,nn⟩=sQ (I .u8 (l[t]:Int))) (hl:∀ x ∈ l,x<256):(convert 45 9 (sL (sQ ⟨g,0,nn⟩) l.length l.length)).run Tp w = .ok (.string (ae l)) w:=by
 have:=run_convert_bytes_back (P:=Tp) w 45 9 5 ⟨g,0,nn⟩ l.length (l.map UInt8.ofNat) Tryz.underlying45 Tryz.underlying5 Tryz.underlying9 (by
  intro j hj;have hj':j<l.length:=by simpa using hj
  have hc:=h j hj'
  have hx:=hl l[j] (zh hj')
  have e:(UInt8.ofNat l[j]).toNat=l[j]:=by simp;omega
  have e2:(⟨g,0,nn⟩ : Addr).add j=⟨g,j,nn⟩:=by simp only[Addr.add];split <;> simp_all
  rw[e2,Qi,e]
  exact hc)
 rw[qV] at this;exact this
def GA (w:Wd) (N:Nat) (a:Option Addr) (n cap:Nat) (l:List Nat) (h:bP w a n cap l) (hok:okP (N:Int) l=true) :
  Calls Tp 41 #[pkV (N:Int) a n cap] w fun o w'=>o = rT (.string (ae (unL l N)))/\Bl w w':=by
 obtain⟨hN,hNl,hln⟩:=wg hok;have hl:=h.len;have hNn:N<=64*n:=om;have hn:n<=1000:=om;have HH:Hid (bP w a n cap l):=h;have HO:Hid (okP (N:Int) l=true):=hok;clear h hok hl hNl hln;go_enter Tryz.func41,Tryz.ntmps41;go_wp2_with (go_at_call 83;refine (Ht _ (N:Int) a n cap l (HH.o.below qw)).mono ?_;rintro o w1 ⟨rfl,hb0⟩;rw[HO.o];have hb1:Below (w.heap.size+1) (w.alloc (pkC (N:Int) a n cap 52)) w1:=hb0.mono pQ;obtain⟨c0,c1,hB⟩:=EI hb1);have hz1:w.heap.size+1<=w1.heap.size:=by have:=hb1.size;simpa using this
 have hown:=gB w1 (w.heap.size+1) hz1;have hb2:=hb1.alloc hz1 (.cells #[] 5);go_loopw [3,4] (fun v i wr=>∃ k:Nat,k<=N/\i = I J (k:Int)/\aa wr (w.heap.size+1) v (unL l k)/\Below (w.heap.size+1) (w.alloc (pkC (N:Int) a n cap 52)) wr/\w.heap.size+1<=wr.heap.size) (fun _ i _=>N-(intOf i).toNat);case atStart=>exact⟨0,nZ _,rfl,hown,hb2,by simp;omega⟩
 case round=>
  clear hown hb2 hz1 c0 c1 hB hb1 hb0;obtain⟨k,hk,rfl,hown,hb,hz⟩:=hrel;obtain⟨c0,c1,hB⟩:=EI hb;by_cases hlt:k<N
  .have HZ:Hid (Below (w.heap.size+1) (w.alloc (pkC (N:Int) a n cap 52)) wr/\Bl w wr/\aa wr (w.heap.size+1) u3 (unL l k)):=⟨hb,hB,hown⟩
   have HV:Hid (lev l k<2):=Ii l k;have HU:Hid (unL l (k+1)=unL l k++[48+lev l k]/\(unL l k).length=k):=⟨IY l k,Gs l k⟩
   clear hb hB hown;have hlv:=HV.o;have HC:Hid (∀ W,bP W a n cap l->Calls Tp 84 #[pkV (N:Int) a n cap,I J (k:Int)] W fun o w'=>o = rT (I J (lev l k:Int))/\w'=W.alloc (pkC (N:Int) a n cap 52)):=fun W hW=>Gh W (N:Int) a n cap l hW k om om;generalize lev l k=L at *;go_wp2_with (first | (go_at_call 84;refine (HC.o _ (HH.o.below HZ.o.2.1)).mono ?_;rintro o w1 ⟨rfl,rfl⟩) | (at_builtin;refine IU (w.alloc (pkC (N:Int) a n cap 52)) (wr.alloc (pkC (N:Int) a n cap 52)) rfl (.tmp 15) (.tmp 21) rfl (w.heap.size+1) _ (unL l k) (48+L) _ ?_ rfl (QN HZ.o.2.2 _) (wr.heap.size+1) pQ rfl ?_ ?_ (HZ.o.1.alloc hz _) ?_))
   .push_cast;rfl
   .have:=HU.o.2;omega
   .simp;omega
   .intro v2 w2 ho2 hb2 hz2;have ho3:aa w2 (w.heap.size+1) v2 (unL l (k+1)):=by rw[HU.o.1];exact ho2
    go_wp2;go_roundw;case rel=>exact⟨k+1,om,by go_num,ho3,hb2,hz2⟩
    case measure=>simp[intOf];omega
  .have hkN:k=N:=om;subst hkN;have hcv:=ik hown (GI l k);go_wp2;go_ret;exact⟨rfl,hB⟩
def IB (w:Wd) (N:Nat) (a:Option Addr) (n cap:Nat) (l:List Nat) (h:bP w a n cap l) (hok:okP (N:Int) l=true) :
  Calls Tp 164 #[pkV (N:Int) a n cap] w fun o w'=>o = rT (.string (ae (unL l N)))/\Bl w w':=by
 obtain⟨hN,hNl,hln⟩:=wg hok;have hl:=h.len;have hNn:N<=64*n:=om;have hn:n<=1000:=om;have HH:Hid (bP w a n cap l):=h;have HO:Hid (okP (N:Int) l=true):=hok;clear h hok hl hNl hln;go_enter Tryz.func164,Tryz.ntmps164;go_wp2_with (first | (go_at_call 222;refine (ib _ (N:Int) a n cap l (HH.o.below qw) om).mono ?_;rintro o w1 ⟨rfl,hb0⟩;rw[HO.o];have hb1:Below (w.heap.size+1) (w.alloc (pkC (N:Int) a n cap 52)) w1:=hb0.mono pQ;obtain⟨c0,c1,hB⟩:=EI hb1) | (at_make;refine kY _ rfl (.tmp 9) (.tmp 9) rfl _ N rfl rfl rfl om ?_;intro w2 hrow hg2 hz2));have hz1:w.heap.size+1<=w1.heap.size:=by have:=hb1.size;simpa using this
 have hb2:Below (w.heap.size+1) (w.alloc (pkC (N:Int) a n cap 52)) w2:=hb1.grown hg2 hz1 (by intro k e;cases e);clear hb0 hB c0 c1 hg2 hb1;generalize hg:w1.heap.size=g at *;clear hg;go_loopw [13] (fun i wr=>∃ k:Nat,k<=N/\i = I J (k:Int)/\cm wr g N (fun t=>if t<k then 48+lev l t else 0)/\Below (w.heap.size+1) (w.alloc (pkC (N:Int) a n cap 52)) wr/\g<wr.heap.size) (fun i _=>N-(intOf i).toNat);case atStart=>exact⟨0,nZ _,rfl,hrow.of (fun t _=>by simp),hb2,hz2⟩
 case round=>
  clear hrow hb2 hz2;obtain⟨k,hk,rfl,hrow,hb,hz⟩:=hrel;obtain⟨c0,c1,hB⟩:=EI hb;by_cases hlt:k<N
  .have HZ:Hid (Below (w.heap.size+1) (w.alloc (pkC (N:Int) a n cap 52)) wr/\Bl w wr/\cm wr g N (fun t=>if t<k then 48+lev l t else 0)):=⟨hb,hB,hrow⟩
   have hcy:(wr.alloc (pkC (N:Int) a n cap 52)).cell? ⟨g,k,nn⟩=sQ (I .u8 _):=(((bW (g+1) wr).alloc om _).cell (p:=⟨g,k,nn⟩) pQ).trans (hrow.cell k hlt);have hfy:(wr.alloc (pkC (N:Int) a n cap 52)).frozen? ⟨g,k,nn⟩=false:=(((bW (g+1) wr).alloc om _).frozen (p:=⟨g,k,nn⟩) pQ).trans (hrow.free k hlt);have HR:Hid (cm (wr.alloc (pkC (N:Int) a n cap 52)) g N (fun t=>if t<k then 48+lev l t else 0)):=by
    refine⟨fun t ht=>?_,fun t ht=>?_⟩
    .exact (((bW (g+1) wr).alloc om _).cell (p:=⟨g,t,nn⟩) pQ).trans (hrow.cell t ht)
    .exact (((bW (g+1) wr).alloc om _).frozen (p:=⟨g,t,nn⟩) pQ).trans (hrow.free t ht)
   have HB2:Hid (Below (w.heap.size+1) (w.alloc (pkC (N:Int) a n cap 52)) (wr.alloc (pkC (N:Int) a n cap 52))/\g<(wr.alloc (pkC (N:Int) a n cap 52)).heap.size):=⟨hb.alloc om _,by simp;omega⟩
   have hlv:=Ii l k;have HC:Hid (∀ W,bP W a n cap l->Calls Tp 223 #[pkV (N:Int) a n cap,I J (k:Int)] W fun o w'=>o = rT (I J (lev l k:Int))/\w'=W.alloc (pkC (N:Int) a n cap 52)):=fun W hW=>td W (N:Int) a n cap l hW k om om;have HL:Hid (∀ t,t<N->t≠k->(if t<k then 48+lev l t else 0)=(if t<k+1 then 48+lev l t else 0)):=by
    intro t _ hne;by_cases h1:t<k
    .rw[zc h1,zc om]
    .rw[zb h1,zb om]
   have HK:Hid (((48+lev l k:Nat):Int)=((if k<k+1 then 48+lev l k else 0:Nat):Int)):=by unfold Hid;rw[zc (Nat.lt_succ_self k)]
   clear hb hB hrow;generalize hLL:lev l k=L at *;have HLL:Hid (lev l k=L):=hLL;clear hLL;generalize hWW:wr.alloc (pkC (N:Int) a n cap 52)=W3 at *;go_wp2_with (go_at_call 223;refine (HC.o _ (HH.o.below HZ.o.2.1)).mono ?_;rintro o w3 ⟨rfl,rfl⟩;rw[hWW]);go_roundw;case rel=>
    refine⟨k+1,om,by go_num,HR.o.set' k hlt _ ?_ HL.o,HB2.o.1.setCell (by simp;omega) _,by simpa using HB2.o.2⟩;have:=HK.o;rw[HLL.o];push_cast at this ⊢
    exact this
   case measure=>simp[intOf];omega
  .have hkN:k=N:=om
   subst hkN;have hcv:=Jt (w:=wr) (g:=g) (l:=unL l k) (fun t ht=>by
    rw[Gs] at ht
    rw[hrow.cell t ht,zc ht]
    simp[unL]) (GI l k)
   rw[Gs] at hcv;go_wp2;go_ret;exact⟨rfl,hB⟩
def Gw (w:Wd) (N:Int) (a:Option Addr) (n cap:Nat) (l:List Nat) (h:bP w a n cap l) :
  Calls Tp 41 #[pkV N a n cap] w fun o w'=>o = rT (.string (unZ N l))/\Bl w w':=by
 cases hok:okP N l
 .have HH:Hid (bP w a n cap l):=h;have HO:Hid (okP N l=false):=hok;have HU:Hid (unZ N l=⟨#[]⟩):=by unfold Hid unZ;rw[hok];rfl
  clear h hok;go_enter Tryz.func41,Tryz.ntmps41;go_wp2_with (go_at_call 83;refine (Ht _ N a n cap l (HH.o.below qw)).mono ?_;rintro o w1 ⟨rfl,hb0⟩;rw[HO.o]);go_ret;exact⟨cg HU.o.symm,qw.trans (hb0.mono pQ)⟩
 .obtain⟨M,rfl⟩ : ∃ M:Nat,N=(M:Int):=⟨N.toNat,by
   simp only[okP,qx,qQ] at hok
   omega⟩
  have HU:unZ (M:Int) l=ae (unL l M):=by unfold unZ;rw[zc hok];rfl
  rw[HU];exact GA w M a n cap l h hok
end Go.Proofs.YtnfmjckkibdcaaaGreatDoor
