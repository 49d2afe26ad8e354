import Derived.Test.YtnfmjckkibdcaaaGreatDoorK38
import Derived.Laws.NewBlocks
namespace Go.Proofs.YtnfmjckkibdcaaaGreatDoor
set_option linter.all false
open Option renaming none->nn,some->sQ
open Go renaming World->Wd
set_option maxRecDepth 100000
open Go.RowKit
set_option maxHeartbeats 16000000
open Go.Value renaming int->I,slice->sL,bool->bO,pointer->pT,agg->aG
open Go.IntKind renaming i64->J,u32->zn
open Go.Ending renaming returned->rT
open Go.Proofs.Tryz renaming prog->Tp
structure kZ (b:Nat) (w w':Wd):Prop where
 done:w'.cell? ⟨b,0,nn⟩=sQ (I zn 1)
 tab:fF w' b 256
 bel:Below b w w'
 oth:∀ k,k≠b->w'.heap[k]?=w.heap[k]?
def fF.low {w:Wd} {b m:Nat} (h:fF w b m) (j:Nat) (hj:j<3) (v:Value):fF (w.setCell ⟨b,j,nn⟩ v) b m:=by
 refine⟨fun i hi=>?_,fun i=>by rw[Q1];exact h.free i⟩;rw[QH _ _ _ _ (by intro e;simp at e;try omega)];exact h.cell i hi
def An (a:Addr) (d:Int) (w:Wd) (h:w.cell? a=sQ (I zn d)) :
  Calls Tp 297 #[pT (sQ a)] w fun e w'=>e = rT (bO (d != 0))/\w=w':=by
 have hl:=run_call_load (P:=Tp) Tryz.func316 kr kr kr zn kr h;go_enter Tryz.func297,Tryz.ntmps297;go_wp2;go_ret;exact⟨rfl,rfl⟩
def yh (b:Nat) (w:Wd) (h0:w.cell? ⟨b,0,nn⟩=sQ (I zn 0)) (h1:w.cell? ⟨b,1,nn⟩=sQ (I .i32 0)) (ht:fF w b 1) :
  Calls Tp 298 #[pT (sQ ⟨b,0,nn⟩),.func (.func 284) #[pT (sQ ⟨b,0,nn⟩)] #[]] w fun e w'=>e = rT (.tuple #[])/\kZ b w w':=by
 have f0:=ht.free 0;have f1:=ht.free 1;have hc1:(w.setCell ⟨b,1,nn⟩ (I .i32 1)).cell? ⟨b,0,nn⟩=sQ (I zn 0):=(QH _ ⟨b,1,nn⟩ ⟨b,0,nn⟩ _ pQ).trans h0;have HL:Hid (Calls Tp 297 #[pT (sQ ⟨b,0,nn⟩)] (w.setCell ⟨b,1,nn⟩ (I .i32 1)) fun e w'=>e = rT (bO false)/\(w.setCell ⟨b,1,nn⟩ (I .i32 1))=w'):=An _ 0 _ hc1;have hnot:∀ (x:Bool) (w:Wd),(Op.unary .not (bO x)).run Tp w = .ok (bO (!x)) w:=fun _ _=>rfl;have HF:Hid (Calls Tp 284 #[pT (sQ ⟨b,0,nn⟩)] (w.setCell ⟨b,1,nn⟩ (I .i32 1)) fun o w'=>o = rT (.tuple #[])/\fF w' b 256/\iT b (w.setCell ⟨b,1,nn⟩ (I .i32 1)) w'):=zI _ b (ht.low 1 (by decide) _);have HT:Hid (fF w b 1):=ht;clear ht;go_enter_defers Tryz.func298,Tryz.ntmps298;go_wp2_with (first | (go_at_call 297;refine HL.o.mono ?_;rintro e w' ⟨rfl,rfl⟩) | (go_at_call 317;refine (wA ⟨b,1,nn⟩ _ (by go_simp) (by go_simp)).mono ?_;rintro e w' ⟨rfl,rfl⟩) | (go_at_call 284;refine HF.o.mono ?_;rintro e w2 ⟨rfl,t2,o2⟩));have c0:w2.cell? ⟨b,0,nn⟩=sQ (I zn 0):=(o2.low 0 (by decide)).trans hc1;have c1:w2.cell? ⟨b,1,nn⟩=sQ (I .i32 1):=(o2.low 1 (by decide)).trans (QT w _ _ h1);refine leaves_cons (f:=319) (args:=#[pT (sQ ⟨b,0,nn⟩),bO true]) pQ (by simp[go_sem]) ?_;refine (kK ⟨b,0,nn⟩ (I zn 0) .returning _ c0 (t2.free 0)).mono ?_;rintro e u' w3 ⟨rfl,rfl,rfl⟩;refine leaves_cons (f:=318) (args:=#[pT (sQ ⟨b,1,nn⟩)]) (by simp[settle]) (by simp[go_sem]) ?_;refine (ki ⟨b,1,nn⟩ _ _ ?_ (by simp[t2.free 1])).mono ?_
 .refine (QH _ ⟨b,0,nn⟩ ⟨b,1,nn⟩ _ pQ).trans ?_;rw[Q7];exact c1
 rintro e u' w4 ⟨rfl,rfl,rfl⟩;have hm:kZ b w ((w2.drew.setCell ⟨b,0,nn⟩ (I zn 1)).setCell ⟨b,1,nn⟩ (I .i32 0)):=by
  refine⟨?_,(t2.drew.low 0 (by decide) _).low 1 (by decide) _,?_,fun k hk=>?_⟩
  .rw[QH _ ⟨b,1,nn⟩ ⟨b,0,nn⟩ _ pQ];exact QT _ _ _ (by rw[Q7];exact c0)
  .exact ((((bW b w).setCell (p:=⟨b,1,nn⟩) pQ _).trans o2.bel).drew.setCell (p:=⟨b,0,nn⟩) pQ _).setCell (p:=⟨b,1,nn⟩) pQ _
  .exact (QB _ ⟨b,1,nn⟩ k _ hk).trans ((QB _ ⟨b,0,nn⟩ k _ hk).trans ((o2.oth k hk).trans (QB w ⟨b,1,nn⟩ k _ hk)))
 simp[Leaves,settle,results,Tryz.results298];exact hm
def zU (b:Nat) (w:Wd) (h0:w.cell? ⟨b,0,nn⟩=sQ (I zn 0)) (h1:w.cell? ⟨b,1,nn⟩=sQ (I .i32 0)) (ht:fF w b 1) :
  Calls Tp 283 #[pT (sQ ⟨b,0,nn⟩),.func (.func 284) #[pT (sQ ⟨b,0,nn⟩)] #[]] w fun e w'=>e = rT (.tuple #[])/\kZ b w w':=by
 have hnot:∀ (x:Bool) (w:Wd),(Op.unary .not (bO x)).run Tp w = .ok (bO (!x)) w:=fun _ _=>rfl;have HL:Hid (Calls Tp 297 #[pT (sQ ⟨b,0,nn⟩)] w fun e w'=>e = rT (bO false)/\w=w'):=An _ 0 _ h0;have HS:=yh b w h0 h1 ht;clear ht;go_enter Tryz.func283,Tryz.ntmps283;go_wp2_with (first | (go_at_call 297;refine HL.o.mono ?_;rintro e w' ⟨rfl,rfl⟩) | (go_at_call 298;refine HS.mono ?_;rintro e w' ⟨rfl,hm⟩));go_end0;exact⟨rfl,hm⟩
def BQ (b:Nat) (fv:Value) (w:Wd) (h0:w.cell? ⟨b,0,nn⟩=sQ (I zn 1)) :
  Calls Tp 283 #[pT (sQ ⟨b,0,nn⟩),fv] w fun e w'=>e = rT (.tuple #[])/\w'=w:=by
 have hnot:∀ (x:Bool) (w:Wd),(Op.unary .not (bO x)).run Tp w = .ok (bO (!x)) w:=fun _ _=>rfl;have HL:Hid (Calls Tp 297 #[pT (sQ ⟨b,0,nn⟩)] w fun e w'=>e = rT (bO true)/\w=w'):=An _ 1 _ h0;go_enter Tryz.func283,Tryz.ntmps283;go_wp2_with (go_at_call 297;refine HL.o.mono ?_;rintro e w' ⟨rfl,rfl⟩);go_end0;exact⟨rfl,rfl⟩
open Go.IntKind renaming i64->J
def lQ (w:World) (b:Nat):Prop:=(w.cell? ⟨b,0,nn⟩=sQ (I .u32 0)/\w.cell? ⟨b,1,nn⟩=sQ (I .i32 0)/\fF w b 1)\/(w.cell? ⟨b,0,nn⟩=sQ (I .u32 1)/\fF w b 256)
def D0 (b:Nat) (w:World) (h:lQ w b) :
  Calls Tp 283 #[pT (sQ ⟨b,0,nn⟩),.func (.func 284) #[pT (sQ ⟨b,0,nn⟩)] #[]] w fun e w'=>e = rT (.tuple #[])/\kZ b w w':=by
 rcases h with⟨h0,h1,ht⟩|⟨h0,ht⟩
 .exact zU b w h0 h1 ht
 .refine (BQ b _ w h0).mono ?_;rintro e w' ⟨rfl,rfl⟩;exact⟨rfl,h0,ht,bW _ _,fun _ _=>rfl⟩
def kZ.q {b:Nat} {w w':World} (h:kZ b w w'):lQ w' b:=.inr ⟨h.done,h.tab⟩
def ye (r o:Nat) (hr:r<32768) (ho:o<256):bits BinOp.xor IntKind.i64 ((r:Int) / 128) (o:Int)=((r / 128 ^^^ o:Nat):Int):=by
 have:((r:Int) / 128)=((r / 128:Nat):Int):=om;rw[this,eJ _ _ om om]
def uv (r o:Nat) (hr:r<32768) (ho:o<256):r / 128 ^^^ o<256:=Nat.xor_lt_two_pow (n:=8) om ho
def yc (r o:Nat) (hr:r<32768) (ho:o<256):bits BinOp.xor IntKind.i64 (bits BinOp.and IntKind.i64 ((r:Int)*256) 32767) (M.kj (r / 128 ^^^ o):Int)=(M.S8 r o:Int):=by
 have hb:=M.FI _ (uv r o hr ho);rw[gK _ om om,M.Gb r o hr ho];have e:((r:Int)*256) % 32768=((r*256 % 32768:Nat):Int):=om;rw[e,eJ _ _ om om]
def yf (b:Nat) (w:World) (r o:Nat) (h:lQ w b) (hr:r<32768) (ho:o<256) :
  Calls Tp 260 #[pT (sQ ⟨b,0,nn⟩),I J (r:Int),I J (o:Int)] w fun e w'=>e = rT (I J (M.S8 r o:Int))/\lQ w' b/\Below b w w'/\∀ k,k≠b->w'.heap[k]?=w.heap[k]?:=by
 have hmf:∀ (fn:Fn) (first cap:Array Value) (w:World),(Instr.makeFunc fn first cap).run Tp w = .ok (.func fn first cap) w:=fun _ _ _ _=>rfl;have HD:Hid (Calls Tp 283 #[pT (sQ ⟨b,0,nn⟩),.func (.func 284) #[pT (sQ ⟨b,0,nn⟩)] #[]] w fun e w'=>e = rT (.tuple #[])/\kZ b w w'):=D0 b w h;have hix:=ye r o hr ho;have hlt:=uv r o hr ho;have HV:Hid (bits BinOp.xor IntKind.i64 (bits BinOp.and IntKind.i64 ((r:Int)*256) 32767) (M.kj (r / 128 ^^^ o):Int)=(M.S8 r o:Int)):=yc r o hr ho;have htl:=M.FI _ hlt;clear h;generalize hk:r / 128 ^^^ o=k at *;clear hk;generalize M.S8 r o=z at *;go_enter Tryz.func260,Tryz.ntmps260;go_wp2_with (go_at_call 283;refine HD.o.mono ?_;rintro e w1 ⟨rfl,hm⟩;have hcell:=hm.tab.cell k hlt;rw[zc hlt] at hcell;generalize M.kj k=y at *);go_ret;exact⟨au HV.o,hm.q,hm.bel,hm.oth⟩
set_option maxRecDepth 20000
def LB (l:List Nat) (k:Nat):List Nat:=(List.range k).map (lev l)
def jD (l:List Nat) (i:Nat):Nat:=l.getD (i / 8) 0 / 2 ^ (56-8*(i % 8)) % 256
def vt (l:List Nat) (k:Nat):LB l (k+1)=LB l k++[lev l k]:=by simp[LB,List.range_succ]
def Bm (l:List Nat) (i k:Nat) (hk:k<8):lev l (8*i+k)=jD l i / 2 ^ (7-k) % 2:=by
 unfold lev jD;have e1:(8*i+k) / 64=i / 8:=om;have e2:63-(8*i+k) % 64=(56-8*(i % 8))+(7-k):=om;rw[e1,e2,Nat.pow_add,<- qY];generalize l.getD (i / 8) 0 / 2 ^ (56-8*(i % 8))=y;have hk':k=0\/k=1\/k=2\/k=3\/k=4\/k=5\/k=6\/k=7:=om;rcases hk' with rfl | rfl | rfl | rfl | rfl | rfl | rfl | rfl <;> simp only[Nat.reduceSub,Nat.reducePow] <;> omega
def Eh (l:List Nat) (i:Nat):LB l (8*(i+1))=LB l (8*i)++M.oct (jD l i):=by
 have h:=fun k hk=>Bm l i k hk;rw[show 8*(i+1)=8*i+1+1+1+1+1+1+1+1 by omega];simp only[vt,qp,List.cons_append,List.nil_append,M.oct];have h0:=h 0 (by decide);have h1:=h 1 (by decide);have h2:=h 2 (by decide);have h3:=h 3 (by decide);have h4:=h 4 (by decide);have h5:=h 5 (by decide);have h6:=h 6 (by decide);have h7:=h 7 (by decide);simp only[Nat.reduceSub,Nat.reducePow,Nat.add_zero,Nat.div_one] at h0 h1 h2 h3 h4 h5 h6 h7;rw[show 8*i+1+1=8*i+2 by omega,show 8*i+2+1=8*i+3 by omega,show 8*i+3+1=8*i+4 by omega,show 8*i+4+1=8*i+5 by omega,show 8*i+5+1=8*i+6 by omega,show 8*i+6+1=8*i+7 by omega];rw[h0,h1,h2,h3,h4,h5,h6,h7]
def BU (l:List Nat) (i:Nat):M.i8 (LB l (8*(i+1)))=M.S8 (M.i8 (LB l (8*i))) (jD l i):=by
 rw[Eh];unfold M.i8 M.S8;rw[List.foldl_append]
def A6 (l:List Nat) (i:Nat):jD l i<256:=by unfold jD;omega
def A5 (x d:Nat) (hx:x<18446744073709551616):wrap64 (bits BinOp.and IntKind.u64 ((x:Int) / 2 ^ d) 255)=((x / 2 ^ d % 256:Nat):Int):=by
 have e:(x:Int) / 2 ^ d=((x / 2 ^ d:Nat):Int):=by push_cast;rfl
 have hy:x / 2 ^ d<18446744073709551616:=Qj (Nat.div_le_self _ _) hx;rw[e];generalize x / 2 ^ d=y at *;have:=u64_and_nat y 255 hy (by decide);rw[show ((255:Nat):Int)=255 from rfl] at this;rw[this,Nat.and_two_pow_sub_one_eq_mod (n:=8)];unfold wrap64;omega
def sV (w:World) (N:Int) (a:Option Addr) (n cap:Nat) (l:List Nat) (h:bP w a n cap l) (i:Nat) (hi:i<8*n) (hn:n<=1048576) :
  Calls Tp 261 #[pkV N a n cap,I J (i:Int)] w fun o w'=>o = rT (I J (jD l i:Int))/\w'=w.alloc (pkC N a n cap 52):=by
 have hl:l≠[]:=by intro e;subst e;have:=h.len;simp at this;omega
 obtain⟨g,off,rfl,hc⟩:=h.cells hl;have hgz:g<w.heap.size:=QD w _ (hc 0 (by have:=List.length_pos_iff.2 hl;omega));have hll:i / 8<l.length:=by have:=h.len;omega
 have hcx:=hc (i / 8) hll;have hlt:i / 8<n:=om;have hr:i % 8<8:=om;have HL:Hid (l.getD (i / 8) 0=l[i / 8]'hll):=eB l _ hll;have HX0:=h.small _ (zh (l:=l) (n:=i / 8) hll);have hx:Hid (l[i / 8]'(hll)<18446744073709551616):=HX0;clear HX0 h hc;generalize hxx:l[i / 8]'hll=x at *;have HV:Hid (jD l i=x / 2 ^ (56-8*(i % 8)) % 256):=by unfold Hid jD;rw[HL.o]
 have e3:(i:Int).tdiv 8=((i / 8:Nat):Int):=by rw[Qk om];omega
 have e4:(i:Int).tmod 8=((i % 8:Nat):Int):=by rw[qh om];omega
 generalize jD l i=L at *;clear HL;clear hxx;clear hll;generalize i / 8=q at *;generalize i % 8=r at *;go_enter Tryz.func261,Tryz.ntmps261;go_wp2;go_ret;exact⟨au (by rw[HV.o,Qt 8 r];exact A5 x _ hx.o),rfl⟩
variable {w w1 W W':World} {b n cap:Nat} {N:Int} {a:Option Addr}
def nJ:Array Value:=(Value.int .u32 0 :: Value.int .i32 0 :: Value.int .u32 0 :: List.replicate 256 (Value.int .u16 0)).toArray
def xA:Tryz.zeroCells323=nJ:=kr
def AM (j:Nat) (hj:j<256):nJ[3+j]?=sQ (I .u16 0):=by
 unfold nJ;rw[List.getElem?_toArray,show 3+j=j+1+1+1 by omega];simp only[List.getElem?_cons_succ];rw[List.getElem?_replicate,zc hj]
def Df:nJ[0]?=sQ (I .u32 0):=by unfold nJ;rw[List.getElem?_toArray];exact List.getElem?_cons_zero
def De:nJ[1]?=sQ (I .i32 0):=by unfold nJ;rw[List.getElem?_toArray,show (1:Nat)=0+1 from rfl,List.getElem?_cons_succ];exact List.getElem?_cons_zero
def Bb (w:World):lQ (w.alloc (.cells Tryz.zeroCells323 323)) w.heap.size:=by
 rw[xA];have hh:(w.alloc (.cells nJ 323)).heap[w.heap.size]?=sQ (.cells nJ 323):=QO w _;refine .inl ⟨?_,?_,?_,?_⟩
 .simp only[World.cell?,hh];exact Df
 .simp only[World.cell?,hh];exact De
 .intro j hj;have e:(if j<1 then M.kj j else 0:Nat)=0:=by
   split
   .rw[show j=0 by omega];exact M.Ew
   .rfl
  rw[e];simp only[World.cell?,hh];exact AM j hj
 .intro j;simp only[World.frozen?,hh];simp
def lQ.other {w':World} (h:lQ w b) (hb:w'.heap[b]?=w.heap[b]?):lQ w' b:=by
 have hc:∀ j,w'.cell? ⟨b,j,nn⟩=w.cell? ⟨b,j,nn⟩:=fun j=>by simp only[World.cell?,hb]
 have hf:∀ j,w'.frozen? ⟨b,j,nn⟩=w.frozen? ⟨b,j,nn⟩:=fun j=>by simp only[World.frozen?,hb]
 rcases h with⟨h0,h1,ht⟩|⟨h0,ht⟩
 .exact .inl ⟨(hc 0).trans h0,(hc 1).trans h1,fun j hj=>(hc _).trans (ht.cell j hj),fun j=>(hf j).trans (ht.free j)⟩
 .exact .inr ⟨(hc 0).trans h0,fun j hj=>(hc _).trans (ht.cell j hj),fun j=>(hf j).trans (ht.free j)⟩
structure crI (w w1:World) (b:Nat) (N:Int) (a:Option Addr) (n cap:Nat) (W:World):Prop where
 tab:lQ W b
 bel:Below b w1 W
 lt:b<W.heap.size
 fst:Below (w.heap.size+1) (w.alloc (pkC N a n cap 52)) w1
 le:w.heap.size+1<=b
def crI.inn (h:crI w w1 b N a n cap W) :
  W.cell? ⟨w.heap.size,0,nn⟩=sQ (I J N)/\W.cell? ⟨w.heap.size,1,nn⟩=sQ (sL a n cap)/\Bl w W:=by
 exact EI (h.fst.trans (h.bel.mono h.le))
def crI.below (h:crI w w1 b N a n cap W) (hb:Bl W W'):crI w w1 b N a n cap W':=
 ⟨h.tab.other (hb.block b h.lt),h.bel.trans (hb.mono (qB h.lt)),nL h.lt hb.size,h.fst,h.le⟩
def crI.step (h:crI w w1 b N a n cap W) (ht:lQ W' b) (hb:Below b W W'):crI w w1 b N a n cap W':=
 ⟨ht,h.bel.trans hb,nL h.lt hb.size,h.fst,h.le⟩
def oS (w:World) (N:Nat) (a:Option Addr) (n cap:Nat) (l:List Nat) (h:bP w a n cap l) (hok:okP (N:Int) l=true) (hN:N<=2000) :
  Calls Tp 214 #[pkV (N:Int) a n cap] w fun o w'=>o = rT (I J (M.i8 (LB l N):Int))/\Bl w w':=by
 obtain⟨-,hNl,hll⟩:=wg hok;have hnl:=h.len;rw[<- hnl] at hNl hll;clear hnl;have HO:Hid (okP (N:Int) l=true):=hok;have HH:Hid (bP w a n cap l):=h;clear h hok;have hgt:decide ((2000:Int)<(N:Int))=false:=by simp;omega
 have e3:(N:Int).tdiv 8=((N / 8:Nat):Int):=by rw[Qk om];omega
 go_enter Tryz.func214,Tryz.ntmps214;go_wp2_with fail;refine (ib _ (N:Int) a n cap l (HH.o.below qw) om).mono ?_;rintro o w1 ⟨rfl,hb0⟩;rw[HO.o];have hb1:Below (w.heap.size+1) (w.alloc (pkC (N:Int) a n cap 52)) w1:=hb0.mono pQ;have st:crI w w1 w1.heap.size (N:Int) a n cap (w1.alloc (.cells Tryz.zeroCells323 323)):=⟨Bb w1,qw,pQ,hb1,by have:=hb1.size;simpa using this⟩
 clear hb0 hb1;have hNd:decide ((N:Int)<0)=false:=pQ;go_wp2_with fail;obtain⟨c0,c1,hB⟩:=st.inn;have ST:Hid (crI w w1 w1.heap.size (N:Int) a n cap (w1.alloc (.cells Tryz.zeroCells323 323))):=st;clear st;generalize w1.alloc (.cells Tryz.zeroCells323 323)=w2 at *;generalize w1.heap.size=b at *;go_quiet (fail);have eq8:(N:Int) / 8=((N / 8:Nat):Int):=om;rw[eq8];have hq1:8*(N / 8)<=N:=om;have hq2:N<8*(N / 8)+8:=om;clear eq8 e3;generalize N / 8=q at *;have st:=ST.o.below (dv w2 nq);clear ST c0 c1 hB;generalize w2.drewN nq=w3 at *;have ST:Hid (crI w w1 b (N:Int) a n cap w3):=st;clear st;go_wp2_with fail;go_loopw [4,20] (fun r i W=>∃ k:Nat,k<=q/\i = I J (k:Int)/\r = I J (M.i8 (LB l (8*k)):Int)/\crI w w1 b (N:Int) a n cap W) (fun _ i _=>q-(intOf i).toNat);case atStart=>exact⟨0,nZ _,rfl,rfl,ST.o⟩
 case round=>
  clear ST;obtain⟨k,hk,rfl,rfl,st⟩:=hrel;obtain⟨c0,c1,hB⟩:=st.inn;have hr:=M.BV (LB l (8*k));by_cases hkq:k<q
  .have ho:=A6 l k;have HS:Hid (M.i8 (LB l (8*(k+1)))=M.S8 (M.i8 (LB l (8*k))) (jD l k)):=BU l k;have HA:Hid (Calls Tp 261 #[pkV (N:Int) a n cap,I J (k:Int)] wr fun o w'=>o = rT (I J (jD l k:Int))/\crI w w1 b (N:Int) a n cap w'):=by
    refine (sV wr (N:Int) a n cap l (HH.o.below hB) k om om).mono ?_;rintro o w' ⟨rfl,rfl⟩;exact⟨rfl,st.below qw⟩
   clear st hB;generalize hx:M.i8 (LB l (8*k))=x at *;clear hx;generalize jD l k=y at *;go_wp2_with (first | (go_at_call 261;refine HA.o.mono ?_;rintro o w4 ⟨rfl,st⟩) | (go_at_call 260;refine (yf b w4 x y st.tab hr ho).mono ?_;rintro o w5 ⟨rfl,t5,b5,-⟩));go_roundw;case rel=>exact⟨k+1,om,by go_num,by rw[HS.o],st.step t5 b5⟩
   case measure=>simp[intOf];omega
  .have hkk:k=q:=om;subst hkk;have ST:Hid (crI w w1 b (N:Int) a n cap wr):=st;clear st hB c0 c1;go_wp2_with fail;go_loopw [4,7] (fun r i W=>∃ j:Nat,8*k<=j/\j<=N/\i = I J (j:Int)/\r = I J (M.i8 (LB l j):Int)/\crI w w1 b (N:Int) a n cap W) (fun _ i _=>N-(intOf i).toNat);case atStart=>exact⟨8*k,nR _,om,by go_num,rfl,ST.o⟩
   case round=>
    clear ST hr;obtain⟨j,hj1,hj2,rfl,rfl,st⟩:=hrel;obtain⟨c0,c1,hB⟩:=st.inn;have hr:=M.BV (LB l j);by_cases hjN:j<N
    .have HS:Hid (M.i8 (LB l (j+1))=M.dM (M.i8 (LB l j)) (lev l j)):=by rw[vt,M.xl];exact rfl
     have HA:Hid (Calls Tp 223 #[pkV (N:Int) a n cap,I J (j:Int)] wr fun o w'=>o = rT (I J (lev l j:Int))/\crI w w1 b (N:Int) a n cap w'):=by
      refine (td wr (N:Int) a n cap l (HH.o.below hB) j om om).mono ?_;rintro o w' ⟨rfl,rfl⟩;exact⟨rfl,st.below qw⟩
     clear st hB;generalize hx:M.i8 (LB l j)=x at *;clear hx;generalize lev l j=y at *;go_wp2_with (first | (go_at_call 223;refine HA.o.mono ?_;rintro o w4 ⟨rfl,st⟩) | (go_at_call 247;refine (aH x y _ hr).mono ?_;rintro o w5 ⟨rfl,rfl⟩));go_roundw;case rel=>exact⟨j+1,om,om,by go_num,by rw[HS.o],st⟩
     case measure=>simp[intOf];omega
    .have hjj:j=N:=om;subst hjj;clear st;generalize hx:M.i8 (LB l j)=x at *;have HX:Hid (x=M.i8 (LB l j)):=hx.symm;clear hx;go_wp2;go_ret;exact⟨au (by rw[HX.o]),hB⟩
def cpZ (N:Int) (l:List Nat):Int:=if okP N l=true/\N<=2000 then (M.i8 (LB l N.toNat):Int) else -1
def A3 {l:List Nat} (hok:okP N l=true):∃ M:Nat,N=(M:Int):=⟨N.toNat,by
 simp only[okP,qx,qQ] at hok
 omega⟩
def mE (w:World) (N:Int) (a:Option Addr) (n cap:Nat) (l:List Nat) (h:bP w a n cap l) (hn:n<=1048576) :
  Calls Tp 214 #[pkV N a n cap] w fun o w'=>o = rT (I J (cpZ N l))/\Bl w w':=by
 by_cases h2:N<=2000
 .cases hok:okP N l
  .have HZ:Hid (cpZ N l = -1):=by unfold Hid cpZ;rw[zb (by simp[hok])]
   have HH:Hid (bP w a n cap l):=h;have HO:Hid (okP N l=false):=hok;have hgt:decide ((2000:Int)<N)=false:=by simp;omega
   clear h hok;go_enter Tryz.func214,Tryz.ntmps214;go_wp2_with (go_at_call 222;refine (ib _ N a n cap l (HH.o.below qw) hn).mono ?_;rintro o w1 ⟨rfl,hb0⟩;rw[HO.o]);go_ret;exact⟨au HZ.o.symm,qw.trans (hb0.mono pQ)⟩
  .obtain⟨K,rfl⟩:=A3 hok;have e:cpZ (K:Int) l=(M.i8 (LB l K):Int):=by unfold cpZ;rw[zc ⟨hok,h2⟩];rfl
   rw[e];exact oS w K a n cap l h hok om
 .have HZ:Hid (cpZ N l = -1):=by unfold Hid cpZ;rw[zb (by intro h;exact h2 h.2)]
  have hgt:decide ((2000:Int)<N)=true:=by simp;omega
  clear h;go_enter Tryz.func214,Tryz.ntmps214;go_wp2;go_ret;exact⟨au HZ.o.symm,qw⟩
end Go.Proofs.YtnfmjckkibdcaaaGreatDoor
