import Derived.Laws.NewBlocks
import Derived.Test.YtbbffcolnddcdaaGreatDoorK31
namespace Go.Proofs.YtbbffcolnddcdaaGreatDoor
open Go.Proofs.Tryz
set_option linter.all false
open Option renaming none->nn,some->sQ
open Go renaming World->Wd
set_option maxRecDepth 100000
open Go.RowKit
set_option maxHeartbeats 16000000
open Go.Value renaming int->I,slice->sL,bool->bO,pointer->pT,agg->aG
open Go.IntKind renaming i64->J,u32->Zk
open Go.Ending renaming returned->rT
open Go.Proofs.Tryz renaming prog->Tp
structure lT(b:Nat)(w w':Wd):Prop where
 done:w'.cell? ⟨b,0,nn⟩=sQ (I Zk 1)
 tab:fU w' b 256
 bel:Below b w w'
 oth:∀k,k≠b->w'.heap[k]?=w.heap[k]?
def fU.low{w:Wd}{b m:Nat}(h:fU w b m)(j:Nat)(a:j<3)(v:Value):fU (w.setCell ⟨b,j,nn⟩ v) b m:=by
 refine⟨fun i hi=>?_,fun i=>by rw[QL];exact h.free i⟩;rw[Qr _ _ _ _ (by intro e;simp at e;try omega)];exact h.cell i hi
def A9(a:Addr)(d:Int)(w:Wd)(h:w.cell? a=sQ (I Zk d)):ce 294 #[pT (sQ a)] w fun e w'=>e=rT (bO (d !=0))/\w=w':=by
 have b:=run_call_load (P:=Tp) func304 kr kr kr Zk kr h;go_enter func294,ntmps294;go_wp2;go_ret;exact⟨rfl,rfl⟩
def yY(b:Nat)(w:Wd)(h0:w.cell? ⟨b,0,nn⟩=sQ (I Zk 0))(h1:w.cell? ⟨b,1,nn⟩=sQ (I .i32 0))(a:fU w b 1):ce 295 #[ap b,.func (.func 274) #[ap b] #[]] w fun e w'=>e=rT (.tuple #[])/\lT b w w':=by
 have u:=a.free 0;have v:=a.free 1;have i:(w.setCell ⟨b,1,nn⟩ (I .i32 1)).cell? ⟨b,0,nn⟩=sQ (I Zk 0):=(Qr _ ⟨b,1,nn⟩ ⟨b,0,nn⟩ _ pQ).trans h0;have l:=hI (A9 _ 0 _ i);have y:∀(x:Bool)(w:Wd),(Op.unary .not (bO x)).run Tp w= .ok (bO (!x)) w:=fun _ _=>rfl;have j:Hid (ce 274 #[ap b] (w.setCell ⟨b,1,nn⟩ (I .i32 1)) fun o w'=>o=rT (.tuple #[])/\fU w' b 256/\je b (w.setCell ⟨b,1,nn⟩ (I .i32 1)) w'):=AI _ b (a.low 1 (by decide) _);have t:=hI a;clear a;go_enter_defers func295,ntmps295;go_wp2_with(first|(go_at_call 294;refine l.o.mono ?_;rintro e w' ⟨rfl,rfl⟩)|(go_at_call 305;refine(xo ⟨b,1,nn⟩ _ (by go_simp) (by go_simp)).mono ?_;rintro e w' ⟨rfl,rfl⟩)|(go_at_call 274;refine j.o.mono ?_;rintro e s ⟨rfl,g,d⟩));have h:=(d.low 0 (by decide)).trans i;have c1:=(d.low 1 (by decide)).trans (QD w _ _ h1);refine leaves_cons (f:=307) (args:=#[ap b,bO true]) pQ (by simp[go_sem]) ?_;refine(lC ⟨b,0,nn⟩ (I Zk 0) .returning _ h (g.free 0)).mono ?_;rintro e r A ⟨rfl,rfl,rfl⟩;refine leaves_cons (f:=306) (args:=#[pT (sQ ⟨b,1,nn⟩)]) (by simp[settle]) (by simp[go_sem]) ?_;refine(kN ⟨b,1,nn⟩ _ _ ?_ (by simp[g.free 1])).mono ?_
 .refine (Qr _ ⟨b,0,nn⟩ ⟨b,1,nn⟩ _ pQ).trans ?_;rw[QR];exact c1
 rintro e r B ⟨rfl,rfl,rfl⟩;have n:lT b w ((s.drew.setCell ⟨b,0,nn⟩ (I Zk 1)).setCell ⟨b,1,nn⟩ (I .i32 0)):=by
  refine⟨?_,(g.drew.low 0 (by decide) _).low 1 (by decide) _,?_,fun k c=>?_⟩
  .rw[Qr _ ⟨b,1,nn⟩ ⟨b,0,nn⟩ _ pQ];exact QD _ _ _ (by rw[QR];exact h)
  .exact ((((bW b w).setCell (p:=⟨b,1,nn⟩) pQ _).trans d.bel).drew.setCell (p:=⟨b,0,nn⟩) pQ _).setCell (p:=⟨b,1,nn⟩) pQ _
  .exact (Ql _ ⟨b,1,nn⟩ k _ c).trans ((Ql _ ⟨b,0,nn⟩ k _ c).trans ((d.oth k c).trans (Ql w ⟨b,1,nn⟩ k _ c)))
 simp[Leaves,settle,results,results295];exact n
def AQ(b:Nat)(w:Wd)(h0:w.cell? ⟨b,0,nn⟩=sQ (I Zk 0))(h1:w.cell? ⟨b,1,nn⟩=sQ (I .i32 0))(a:fU w b 1):ce 273 #[ap b,.func (.func 274) #[ap b] #[]] w fun e w'=>e=rT (.tuple #[])/\lT b w w':=by
 have g:∀(x:Bool)(w:Wd),(Op.unary .not (bO x)).run Tp w= .ok (bO (!x)) w:=fun _ _=>rfl;have c:=hI (A9 _ 0 _ h0);have d:=yY b w h0 h1 a;clear a;go_enter func273,ntmps273;go_wp2_with(first|(go_at_call 294;refine c.o.mono ?_;rintro e w' ⟨rfl,rfl⟩)|(go_at_call 295;refine d.mono ?_;rintro e w' ⟨rfl,f⟩));go_end0;exact⟨rfl,f⟩
def CR(b:Nat)(c:Value)(w:Wd)(h0:w.cell? ⟨b,0,nn⟩=sQ (I Zk 1)):ce 273 #[ap b,c] w fun e w'=>e=rT (.tuple #[])/\w'=w:=by
 have d:∀(x:Bool)(w:Wd),(Op.unary .not (bO x)).run Tp w= .ok (bO (!x)) w:=fun _ _=>rfl;have a:=hI (A9 _ 1 _ h0);go_enter func273,ntmps273;go_wp2_with(go_at_call 294;refine a.o.mono ?_;rintro e w' ⟨rfl,rfl⟩);go_end0;exact⟨rfl,rfl⟩
open Go.IntKind renaming i64->J
def mK(w:World)(b:Nat):Prop:=(w.cell? ⟨b,0,nn⟩=sQ (I .u32 0)/\w.cell? ⟨b,1,nn⟩=sQ (I .i32 0)/\fU w b 1)\/(w.cell? ⟨b,0,nn⟩=sQ (I .u32 1)/\fU w b 256)
def Fq(b:Nat)(w:World)(h:mK w b):ce 273 #[ap b,.func (.func 274) #[ap b] #[]] w fun e w'=>e=rT (.tuple #[])/\lT b w w':=by
 rcases h with⟨h0,h1,a⟩|⟨h0,a⟩
 .exact AQ b w h0 h1 a
 .refine (CR b _ w h0).mono ?_;rintro e w' ⟨rfl,rfl⟩;exact⟨rfl,h0,a,bW _ _,fun _ _=>rfl⟩
def lT.q{b:Nat}{w w':World}(h:lT b w w'):mK w' b:=.inr ⟨h.done,h.tab⟩
def yV(r o:Nat)(a:r<32768)(ho:o<256):bits BinOp.xor IntKind.i64 ((r:Int) / 128) (o:Int)=((r / 128 ^^^ o:Nat):Int):=by
 have:((r:Int) / 128)=((r / 128:Nat):Int):=om;rw[this,eo _ _ om om]
def vo(r o:Nat)(hr:r<32768)(ho:o<256):r / 128 ^^^ o<256:=Nat.xor_lt_two_pow (n:=8) om ho
def yU(r o:Nat)(a:r<32768)(ho:o<256):bits BinOp.xor IntKind.i64 (bits BinOp.and IntKind.i64 ((r:Int)*256) 32767) (M.kO (r / 128 ^^^ o):Int)=(M.S8 r o:Int):=by
 have b:=M.Hw _ (vo r o a ho);rw[gY _ om om,M.Iu r o a ho];have e:((r:Int)*256)%32768=((r*256%32768:Nat):Int):=om;rw[e,eo _ _ om om]
def yW(b:Nat)(w:World)(r o:Nat)(h:mK w b)(d:r<32768)(ho:o<256):ce 257 #[ap b,I J (r:Int),I J (o:Int)] w fun e w'=>e=rT (I J (M.S8 r o:Int))/\mK w' b/\Below b w w'/\∀k,k≠b->w'.heap[k]?=w.heap[k]?:=by
 have p:∀(f:Fn)(first cap:Array Value)(w:World),(Instr.makeFunc f first cap).run Tp w= .ok (.func f first cap) w:=fun _ _ _ _=>rfl;have g:Hid (ce 273 #[ap b,.func (.func 274) #[ap b] #[]] w fun e w'=>e=rT (.tuple #[])/\lT b w w'):=Fq b w h;have n:=yV r o d ho;have c:=vo r o d ho;have i:Hid (bits BinOp.xor IntKind.i64 (bits BinOp.and IntKind.i64 ((r:Int)*256) 32767) (M.kO (r / 128 ^^^ o):Int)=(M.S8 r o:Int)):=yU r o d ho;have s:=M.Hw _ c;clear h;generalize l:r / 128 ^^^ o=k at*;clear l;generalize M.S8 r o=z at*;go_enter func257,ntmps257;go_wp2_with(go_at_call 273;refine g.o.mono ?_;rintro e t ⟨rfl,a⟩;have j:=a.tab.cell k c;rw[QW c]at j;generalize M.kO k=y at*);go_ret;exact⟨aL i.o,a.q,a.bel,a.oth⟩
set_option maxRecDepth 20000
def LB(l:List Nat)(k:Nat):List Nat:=(List.range k).map (lev l)
def j0(l:List Nat)(i:Nat):Nat:=l.getD (i / 8) 0 / 2 ^ (56-8*(i%8))%256
def wo(l:List Nat)(k:Nat):LB l (k+1)=LB l k++[lev l k]:=by simp[LB,List.range_succ]
def Cp(l:List Nat)(i k:Nat)(d:k<8):lev l (8*i+k)=j0 l i / 2 ^ (7-k)%2:=by
 unfold lev j0;have a:(8*i+k) / 64=i / 8:=om;have b:63-(8*i+k)%64=(56-8*(i%8))+(7-k):=om;rw[a,b,Nat.pow_add,<- qS];generalize l.getD (i / 8) 0 / 2 ^ (56-8*(i%8))=y;have c:k=0\/k=1\/k=2\/k=3\/k=4\/k=5\/k=6\/k=7:=om;rcases c with rfl|rfl|rfl|rfl|rfl|rfl|rfl|rfl<;>simp only[Nat.reduceSub,Nat.reducePow]<;>omega
def FI(l:List Nat)(i:Nat):LB l (8*(i+1))=LB l (8*i)++M.oct (j0 l i):=by
 have h:=fun k g=>Cp l i k g;rw[show 8*(i+1)=8*i+1+1+1+1+1+1+1+1 by omega];simp only[wo,Q2,List.cons_append,List.nil_append,M.oct];have h0:=h 0 (by decide);have h1:=h 1 (by decide);have a:=h 2 (by decide);have b:=h 3 (by decide);have c:=h 4 (by decide);have d:=h 5 (by decide);have e:=h 6 (by decide);have f:=h 7 (by decide);simp only[Nat.reduceSub,Nat.reducePow,Nat.add_zero,Nat.div_one]at h0 h1 a b c d e f;rw[show 8*i+1+1=8*i+2 by omega,show 8*i+2+1=8*i+3 by omega,show 8*i+3+1=8*i+4 by omega,show 8*i+4+1=8*i+5 by omega,show 8*i+5+1=8*i+6 by omega,show 8*i+6+1=8*i+7 by omega];rw[h0,h1,a,b,c,d,e,f]
def CT(l:List Nat)(i:Nat):M.js (LB l (8*(i+1)))=M.S8 (M.js (LB l (8*i))) (j0 l i):=by
 rw[FI];unfold M.js M.S8;rw[List.foldl_append]
def Cc(l:List Nat)(i:Nat):j0 l i<256:=by unfold j0;omega
def Cb(x d:Nat)(a:x<18446744073709551616):wrap64 (bits BinOp.and IntKind.u64 ((x:Int) / 2 ^ d) 255)=((x / 2 ^ d%256:Nat):Int):=by
 have e:(x:Int) / 2 ^ d=((x / 2 ^ d:Nat):Int):=by push_cast;rfl
 have hy:x / 2 ^ d<18446744073709551616:=zb (Nat.div_le_self _ _) a;rw[e];generalize x / 2 ^ d=y at*;have:=u64_and_nat y 255 hy (by decide);rw[show((255:Nat):Int)=255 from rfl]at this;rw[this,Nat.and_two_pow_sub_one_eq_mod (n:=8)];unfold wrap64;omega
def uc(w:World)(N:Int)(a:Option Addr)(n cap:Nat)(l:List Nat)(h:ah w a n cap l)(i:Nat)(hi:i<8*n)(hn:n<=1048576):ce 258 #[pkV N a n cap,I J (i:Int)] w fun o w'=>o=rT (I J (j0 l i:Int))/\w'=w.alloc (pkC N a n cap 56):=by
 have hl:l≠[]:=by intro e;subst e;have:=h.len;simp at this;omega
 obtain⟨g,off,rfl,hc⟩:=h.cells hl;have hgz:g<w.heap.size:=Qn w _ (hc 0 (by have:=List.length_pos_iff.2 hl;omega));have hll:i / 8<l.length:=by have:=h.len;omega
 have hcx:=hc (i / 8) hll;have hlt:i / 8<n:=om;have hr:i%8<8:=om;have HL:Hid (l.getD (i / 8) 0=l[i / 8]'hll):=eK l _ hll;have HX0:=h.small _ (ql (l:=l) (n:=i / 8) hll);have hx:Hid (l[i / 8]'(hll)<18446744073709551616):=HX0;clear HX0 h hc;generalize hxx:l[i / 8]'hll=x at*;have HV:Hid (j0 l i=x / 2 ^ (56-8*(i%8))%256):=by unfold Hid j0;rw[HL.o]
 have e3:(i:Int).tdiv 8=((i / 8:Nat):Int):=by rw[zc om];omega
 have e4:(i:Int).tmod 8=((i%8:Nat):Int):=by rw[QZ om];omega
 generalize j0 l i=L at*;clear HL;clear hxx;clear hll;generalize i / 8=q at*;generalize i%8=r at*;go_enter func258,ntmps258;go_wp2;go_ret;exact⟨aL (by rw[HV.o,Qd 8 r];exact Cb x _ hx.o),rfl⟩
section
variable{w w1 W W':World}{b n cap:Nat}{N:Int}{a:Option Addr}
def oX:Array Value:=(Value.int .u32 0::Value.int .i32 0::Value.int .u32 0::List.replicate 256 (Value.int .u16 0)).toArray
def yf:zeroCells305=oX:=kr
def BG(j:Nat)(c:j<256):oX[3+j]?=sQ (I .u16 0):=by
 unfold oX;rw[List.getElem?_toArray,show 3+j=j+1+1+1 by omega];simp only[List.getElem?_cons_succ];rw[List.getElem?_replicate,QW c]
def Ed:oX[0]?=sQ (I .u32 0):=by unfold oX;rw[List.getElem?_toArray];exact List.getElem?_cons_zero
def Ec:oX[1]?=sQ (I .i32 0):=by unfold oX;rw[List.getElem?_toArray,show(1:Nat)=0+1 from rfl,List.getElem?_cons_succ];exact List.getElem?_cons_zero
def Ch(w:World):mK (w.alloc (.cells zeroCells305 305)) w.heap.size:=by
 rw[yf];have c:(w.alloc (.cells oX 305)).heap[w.heap.size]?=sQ (.cells oX 305):=Qy w _;refine .inl ⟨?_,?_,?_,?_⟩
 .simp only[World.cell?,c];exact Ed
 .simp only[World.cell?,c];exact Ec
 .intro j hj;have e:(if j<1 then M.kO j else 0:Nat)=0:=by
   split
   .rw[show j=0 by omega];exact M.Gb
   .rfl
  rw[e];simp only[World.cell?,c];exact BG j hj
 .intro j;simp only[World.frozen?,c];simp
def mK.other{w':World}(h:mK w b)(f:w'.heap[b]?=w.heap[b]?):mK w' b:=by
 have c:∀j,w'.cell? ⟨b,j,nn⟩=w.cell? ⟨b,j,nn⟩:=fun j=>by simp only[World.cell?,f]
 have g:∀j,w'.frozen? ⟨b,j,nn⟩=w.frozen? ⟨b,j,nn⟩:=fun j=>by simp only[World.frozen?,f]
 rcases h with⟨h0,h1,d⟩|⟨h0,d⟩
 .exact .inl ⟨(c 0).trans h0,(c 1).trans h1,fun j e=>(c _).trans (d.cell j e),fun j=>(g j).trans (d.free j)⟩
 .exact .inr ⟨(c 0).trans h0,fun j e=>(c _).trans (d.cell j e),fun j=>(g j).trans (d.free j)⟩
structure crI(w w1:World)(b:Nat)(N:Int)(a:Option Addr)(n cap:Nat)(W:World):Prop where
 tab:mK W b
 bel:Below b w1 W
 lt:b<W.heap.size
 fst:Below (w.heap.size+1) (w.alloc (pkC N a n cap 56)) w1
 le:w.heap.size+1<=b
def crI.inn(h:crI w w1 b N a n cap W):W.cell? ⟨w.heap.size,0,nn⟩=sQ (I J N)/\W.cell? ⟨w.heap.size,1,nn⟩=sQ (sL a n cap)/\Bl w W:=by
 exact nX (h.fst.trans (h.bel.mono h.le))
def crI.below(h:crI w w1 b N a n cap W)(hb:Bl W W'):crI w w1 b N a n cap W':=
 ⟨h.tab.other (hb.block b h.lt),h.bel.trans (hb.mono (Q5 h.lt)),nL h.lt hb.size,h.fst,h.le⟩
def crI.step(h:crI w w1 b N a n cap W)(ht:mK W' b)(hb:Below b W W'):crI w w1 b N a n cap W':=
 ⟨ht,h.bel.trans hb,nL h.lt hb.size,h.fst,h.le⟩
def rf(w:World)(N:Nat)(a:Option Addr)(n cap:Nat)(l:List Nat)(h:ah w a n cap l)(u:okP (N:Int) l=true)(S:N<=2000):ce 225 #[pkV (N:Int) a n cap] w fun o w'=>o=rT (I J (M.js (LB l N):Int))/\Bl w w':=by
 obtain⟨-,L,O⟩:=jZ u;have B:=h.len;rw[<- B]at L O;clear B;have E:Hid (okP (N:Int) l=true):=u;have p:Hid (ah w a n cap l):=h;clear h u;have U:decide ((2000:Int)<(N:Int))=false:=by simp;omega
 have K:(N:Int).tdiv 8=((N / 8:Nat):Int):=by rw[zc om];omega
 go_enter func225,ntmps225;go_wp2_with fail;refine(ey _ (N:Int) a n cap l (p.o.below Zw) om).mono ?_;rintro o w1 ⟨rfl,A⟩;rw[E.o];have t:Below (w.heap.size+1) (w.alloc (pkC (N:Int) a n cap 56)) w1:=A.mono pQ;have st:crI w w1 w1.heap.size (N:Int) a n cap (w1.alloc (.cells zeroCells305 305)):=⟨Ch w1,Zw,pQ,t,by have:=t.size;simpa using this⟩
 clear A t;have T:decide ((N:Int)<0)=false:=pQ;go_wp2_with fail;obtain⟨e,c1,hB⟩:=st.inn;have c:Hid (crI w w1 w1.heap.size (N:Int) a n cap (w1.alloc (.cells zeroCells305 305))):=st;clear st;generalize w1.alloc (.cells zeroCells305 305)=C at*;generalize w1.heap.size=b at*;go_quiet (fail);have v:(N:Int) / 8=((N / 8:Nat):Int):=om;rw[v];have a1:8*(N / 8)<=N:=om;have a2:N<8*(N / 8)+8:=om;clear v K;generalize N / 8=q at*;have st:=c.o.below (di C nq);clear c e c1 hB;generalize C.drewN nq=Q at*;have c:Hid (crI w w1 b (N:Int) a n cap Q):=st;clear st;go_wp2_with fail;go_loopw [4,20] (fun r i W=>∃k:Nat,k<=q/\i=I J (k:Int)/\r=I J (M.js (LB l (8*k)):Int)/\crI w w1 b (N:Int) a n cap W) (fun _ i _=>q-(intOf i).toNat);case atStart=>exact⟨0,nZ _,rfl,rfl,c.o⟩
 case round=>
  clear c;obtain⟨k,hk,rfl,rfl,st⟩:=hrel;obtain⟨e,c1,hB⟩:=st.inn;have f:=M.CU (LB l (8*k));by_cases a0:k<q
  .have ho:=Cc l k;have s:Hid (M.js (LB l (8*(k+1)))=M.S8 (M.js (LB l (8*k))) (j0 l k)):=CT l k;have g:Hid (ce 258 #[pkV (N:Int) a n cap,I J (k:Int)] wr fun o w'=>o=rT (I J (j0 l k:Int))/\crI w w1 b (N:Int) a n cap w'):=by
    refine(uc wr (N:Int) a n cap l (p.o.below hB) k om om).mono ?_;rintro o w' ⟨rfl,rfl⟩;exact⟨rfl,st.below Zw⟩
   clear st hB;generalize d:M.js (LB l (8*k))=x at*;clear d;generalize j0 l k=y at*;go_wp2_with(first|(go_at_call 258;refine g.o.mono ?_;rintro o D ⟨rfl,st⟩)|(go_at_call 257;refine(yW b D x y st.tab f ho).mono ?_;rintro o R ⟨rfl,P,H,-⟩));go_roundw;case rel=>exact⟨k+1,om,by go_num,by rw[s.o],st.step P H⟩
   case measure=>simp[intOf];omega
  .have hkk:k=q:=om;subst hkk;have c:Hid (crI w w1 b (N:Int) a n cap wr):=st;clear st hB e c1;go_wp2_with fail;go_loopw [4,7] (fun r i W=>∃j:Nat,8*k<=j/\j<=N/\i=I J (j:Int)/\r=I J (M.js (LB l j):Int)/\crI w w1 b (N:Int) a n cap W) (fun _ i _=>N-(intOf i).toNat);case atStart=>exact⟨8*k,nR _,om,by go_num,rfl,c.o⟩
   case round=>
    clear c f;obtain⟨j,X,Y,rfl,rfl,st⟩:=hrel;obtain⟨e,c1,hB⟩:=st.inn;have f:=M.CU (LB l j);by_cases Z:j<N
    .have s:Hid (M.js (LB l (j+1))=M.dE (M.js (LB l j)) (lev l j)):=by rw[wo,M.xR];exact rfl
     have g:Hid (ce 195 #[pkV (N:Int) a n cap,I J (j:Int)] wr fun o w'=>o=rT (I J (lev l j:Int))/\crI w w1 b (N:Int) a n cap w'):=by
      refine(dc wr (N:Int) a n cap l (p.o.below hB) j om om).mono ?_;rintro o w' ⟨rfl,rfl⟩;exact⟨rfl,st.below Zw⟩
     clear st hB;generalize d:M.js (LB l j)=x at*;clear d;generalize lev l j=y at*;go_wp2_with(first|(go_at_call 195;refine g.o.mono ?_;rintro o D ⟨rfl,st⟩)|(go_at_call 259;refine(iI x y _ f).mono ?_;rintro o R ⟨rfl,rfl⟩));go_roundw;case rel=>exact⟨j+1,om,om,by go_num,by rw[s.o],st⟩
     case measure=>simp[intOf];omega
    .have hjj:j=N:=om;subst hjj;clear st;generalize d:M.js (LB l j)=x at*;have G:Hid (x=M.js (LB l j)):=d.symm;clear d;go_wp2;go_ret;exact⟨aL (by rw[G.o]),hB⟩
def cpZ(N:Int)(l:List Nat):Int:=if okP N l=true/\N<=2000 then(M.js (LB l N.toNat):Int)else -1
def B7{l:List Nat}(hok:okP N l=true):∃M:Nat,N=(M:Int):=⟨N.toNat,by
 simp only[okP,Q3,qK]at hok
 omega⟩
def nC(w:World)(N:Int)(a:Option Addr)(n cap:Nat)(l:List Nat)(h:ah w a n cap l)(j:n<=1048576):ce 225 #[pkV N a n cap] w fun o w'=>o=rT (I J (cpZ N l))/\Bl w w':=by
 by_cases c:N<=2000
 .cases hok:okP N l
  .have HZ:Hid (cpZ N l= -1):=by unfold Hid cpZ;rw[QV (by simp[hok])]
   have d:Hid (ah w a n cap l):=h;have f:Hid (okP N l=false):=hok;have i:decide ((2000:Int)<N)=false:=by simp;omega
   clear h hok;go_enter func225,ntmps225;go_wp2_with(go_at_call 194;refine(ey _ N a n cap l (d.o.below Zw) j).mono ?_;rintro o w1 ⟨rfl,g⟩;rw[f.o]);go_ret;exact⟨aL HZ.o.symm,Zw.trans (g.mono pQ)⟩
  .obtain⟨K,rfl⟩:=B7 hok;have e:cpZ (K:Int) l=(M.js (LB l K):Int):=by unfold cpZ;rw[QW ⟨hok,c⟩];rfl
   rw[e];exact rf w K a n cap l h hok om
 .have HZ:Hid (cpZ N l= -1):=by unfold Hid cpZ;rw[QV (by intro h;exact c h.2)]
  have i:decide ((2000:Int)<N)=true:=by simp;omega
  clear h;go_enter func225,ntmps225;go_wp2;go_ret;exact⟨aL HZ.o.symm,Zw⟩
end
end Go.Proofs.YtbbffcolnddcdaaGreatDoor
