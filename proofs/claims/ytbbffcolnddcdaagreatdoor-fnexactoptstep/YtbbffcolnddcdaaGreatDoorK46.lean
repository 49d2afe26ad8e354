import Derived.Test.YtbbffcolnddcdaaGreatDoorK32
import Derived.Test.YtbbffcolnddcdaaGreatDoorK45
namespace Go.Proofs.YtbbffcolnddcdaaGreatDoor
open Go.Proofs.Tryz
open Go.RowKit
set_option linter.all false
open Go.Value renaming int->I,slice->sL,bool->bO,pointer->pT,agg->aG
open Go.IntKind renaming i64->J
open Go.Ending renaming returned->rT
open Go.Proofs.Tryz renaming prog->Tp
def Bm(s:ByteArray)(q:Nat):∀m r,r<m->PV s q m / 2 ^ (m-1-r)%2=fb s (64*q+r)
 |0,r,h=>Qj h (nN _)
 |m+1,r,h=>by
  show(2*PV s q m+fb s (64*q+m)) / 2 ^ (m+1-1-r)%2=_;have b:=DI s (64*q+m);by_cases e:r=m
  .subst e;rw[show r+1-1-r=0 by omega,Nat.pow_zero,Nat.div_one];omega
  .have ih:=Bm s q m r om;have a:(2:Nat) ^ (m+1-1-r)=2*2 ^ (m-1-r):=by rw[show m+1-1-r=(m-1-r)+1 by omega,qC,Qd]
   rw[a,<- qS,show(2*PV s q m+fb s (64*q+m)) / 2=PV s q m by omega];exact ih
def pF(o:List Nat)(ho:∀x∈o,M.isL x)(i:Nat)(h:i<64*(wl o).length):lev (wl o) i=if h:i<o.length then o[i]-48 else 0:=by
 have c:i / 64<(wl o).length:=om;have d:=cD o;unfold lev;rw[eK _ _ c,vm];unfold wq;have f:min 64 (o.length-64*(i / 64))<=64:=Nat.min_le_left _ _;have g:=Nat.min_le_right 64 (o.length-64*(i / 64));by_cases hi:i<o.length
 .rw[dif_pos hi];have b:i%64<min 64 (o.length-64*(i / 64)):=om;have a:=Bm (ag o) (i / 64) (min 64 (o.length-64*(i / 64))) (i%64) b;rw[show 64*(i / 64)+i%64=i by omega,ka o i hi ho]at a;generalize min 64 (o.length-64*(i / 64))=m at*;have e:(2:Nat) ^ (63-i%64)=2 ^ (64-m)*2 ^ (m-1-i%64):=by rw[<- Nat.pow_add];congr 1;omega
  rw[e,<- qS,Nat.mul_div_cancel _ (qR pQ)];exact a
 .rw[dif_neg hi];have b:min 64 (o.length-64*(i / 64))<=i%64:=om;generalize min 64 (o.length-64*(i / 64))=m at*;have e:(2:Nat) ^ (64-m)=2 ^ (i%64-m)*2*2 ^ (63-i%64):=by rw[<- qC,<- Nat.pow_add];congr 1;omega
  rw[e,<- Nat.mul_assoc,Nat.mul_div_cancel _ (qR pQ),<- Nat.mul_assoc];omega
def ub(o:List Nat)(ho:∀x∈o,M.isL x)(b:o.length<=4000):okP (o.length:Int) (wl o)=true:=by
 unfold okP;simp only[Q3,qK,Int.toNat_natCast];refine⟨⟨⟨om,om⟩,cD o⟩,iv.2 fun i h1 a=>?_⟩;rw[pF o ho i a,dif_neg om]
def Hm(o:List Nat)(ho:∀x∈o,M.isL x):LB (wl o) o.length=o.map (fun x=>x-48):=by
 apply List.ext_getElem
 .simp[LB]
 .intro i h1 h2;have hi:i<o.length:=by simpa[LB]using h1
  simp only[LB,za,List.getElem_range];rw[pF o ho i (by have:=cD o;omega),dif_pos hi]
def AV:M.js=M.js:=rfl
def Fs(o:List Nat)(ho:∀x∈o,M.isL x)(a:o.length<=2000):cpZ (o.length:Int) (wl o)=((M.js (o.map (fun x=>x-48)):Nat):Int):=by
 unfold cpZ;rw[QW ⟨ub o ho om,om⟩,Int.toNat_natCast,Hm o ho,AV]
def CK(w:World)(b:Nat)(n:Nat)(a:Option Addr)(m c:Nat)(e f g:Value)(d:w.heap[b]?=some (.cells #[I J (n:Int),sL a m c,e,f,g] 261)):ce 226 #[ap b] w fun o w'=>o=rT (pkV (n:Int) a m c)/\Bl w w':=by
 obtain⟨⟨h,c1,-,-,-⟩,-,i⟩:=bw5 d;clear d;go_enter func226,ntmps226;go_wp2;go_region;go_wp2;refine Qp (v:=pkV (n:Int) a m c) (by simp[results,results226,go_sem]) rfl ?_;exact⟨rfl,Zw.drew⟩
def bwS.finish{w0 w:World}{b:Nat}{o:List Nat}{st:Bool}{r:Nat × Nat}(h:bwS w0 b o st r w):∃a c,(ce 226 #[ap b] w fun y w'=>y=rT (pkV (o.length:Int) a (wl o).length c)/\Bl w w')/\ab w (b+1) (sL a (wl o).length c) (wl o):=by
 obtain⟨⟨v,d,own⟩,e⟩:=h;obtain⟨a,c,rfl,f⟩:=own.slice;exact⟨a,c,CK w b o.length a _ c _ _ _ d,own⟩
def im(o:List Nat):∀x∈wl o,x<18446744073709551616:=by
 intro x a;obtain⟨q,b,rfl⟩:=List.getElem_of_mem a;rw[vm];exact Dk _ _ _
open Option renaming none->nn,some->sQ
set_option maxRecDepth 20000
set_option maxHeartbeats 16000000
open Go.IntKind renaming i64->J,u32->Zk
section
variable{w W:World}{B b:Nat}{v:Value}{S:List (Nat × Nat × Nat)}
def vt(T:List (Nat × Nat × Nat)):(spV T).length=T.length*3:=by
 induction T with
 |nil=>rfl
 |cons a T ih=>show(spV (a::T)).length=_;simp only[spV,qD,QX,qV,List.length_nil]at ih ⊢;omega
def BM(T:List (Nat × Nat × Nat)):∀u∈spV T,u.oneCell'=true:=by
 intro u a;simp only[spV,List.mem_flatMap]at a;obtain⟨x,_,a⟩:=a;simp at a;rcases a with rfl|rfl|rfl<;>rfl
def xZ{f:Array Oper}{rest:List Oper}{o:Oper}{a:Act}{Q:Exit->Act->World->Prop}(wr:World)(n:o.guard=nn)(s x:Operand)
  (ho:o.op= .call {callee:=.builtin .append,args:=#[s,x],argTypes:=#[234,234]})
  (B:Nat) (v:Value) (S T:List (Nat × Nat × Nat)) (d:Addr) (k:Nat) (hs:a.eval s=v) (e:bF wr B v S)
  (t:a.eval x=sL (sQ d) T.length k) (i:∀j u,(spV T)[j]?=sQ u->wr.cell? (d.add j)=sQ u) (E:S.length+T.length<=1000000) (hB:B<=wr.heap.size)
  (h:∀c w',bF w' B c (S++T)->Below B wr w'->Lib.OthersKept 290 nn wr w'->wpList Tp f Q rest (a.put o.dst c) w') :
  wpList Tp f Q (o::rest) a wr:=by
 obtain⟨D,hi,y,A,C⟩:=QH info290;refine QM _ n s x 234 ho B 290 D (aG #[I J 0,I J 0,I J 0]) 3 24 underlying234 hi y A C rfl (by decide) v S.length (spV S) hs e d T.length k (spV T) t (vt T) i (BM T) ?_ ?_ hB ?_
 .unfold maxLen;omega
 .omega
 .intro c w' ho' hg _;have r:∀k,v.ownBlock=sQ k->B<=k:=fun k p=>(Qm e k p).1;refine h c w' ?_ ((bW _ _).grown hg hB r) ((QG 290 nn wr).grown hg fun g l=>e.kind g l);unfold bF;rw[tM,QX];exact ho'
def bF.open(h:bF w B v S)(hS:S≠[]):∃g k,v=sL (be g) S.length k/\∀j u,(spV S)[j]?=sQ u->w.cell? ((⟨g,0,nn⟩:Addr).add j)=sQ u:=by
 have l:=h;obtain⟨h1,⟨a,e⟩|⟨g,cap,cur,a,e,p,n⟩⟩:=l
 .exact Qj (List.length_eq_zero_iff.mp e) hS
 .refine⟨g,cap,a,fun j u c=>?_⟩;subst a;have f:j<(spV S).length:=by rw[qG]at c;exact c.1
  have:=QJ h j (by rw[vt]at f;exact f);have i:((⟨g,0,nn⟩:Addr).add j)=⟨g,j,nn⟩:=by
   by_cases d:j=0
   .subst d;simp[Addr.add]
   .simp[Addr.add,d]
  rw[<- c,i];exact this
def bF.room(h:bF w B v S)(hS:S≠[]):B<=w.heap.size:=by
 obtain⟨g,k,e,_⟩:=h.open hS;have:=Qm h g (by rw[e];rfl);omega
def bF.setCellO(h:bF w B v S)(b j:Nat)(x:Value)(hb:b<B):bF (w.setCell ⟨b,j,nn⟩ x) B v S:=
 h.otherBlock fun g hg=>Ql w ⟨b,j,nn⟩ g x (by have:=(Qm h g hg).1;show g≠b;omega)
def bF.setCellsO(h:bF w B v S)(b j:Nat)(x:List Value)(hb:b<B):bF (w.setCells b j x) B v S:=
 h.otherBlock fun g hg=>sO b g (by have:=(Qm h g hg).1;omega) x w j
def ab.setCellsO{l:List Nat}(h:ab w B v l)(b j:Nat)(x:List Value)(hb:b<B):ab (w.setCells b j x) B v l:=
 h.otherBlock fun g hg=>sO b g (by have:=(Qm h g hg).1;omega) x w j
def bF.lower{B':Nat}(h:bF w B v S)(hB:B'<=B):bF w B' v S:=by
 obtain⟨h1,⟨a,c⟩|⟨g,cap,cur,a,c,e,d⟩⟩:=h
 .exact⟨h1,.inl ⟨a,c⟩⟩
 .exact⟨h1,.inr ⟨g,cap,cur,a,nT hB c,e,d⟩⟩
def bwS.new{st:Bool}(h:blk W b [I J 0,sL nn 0 0,bO st,I .i32 0,I J 0] 261):bwS W b [] st (gh st [] (0,0)) W:=by
 refine⟨⟨sL nn 0 0,?_,?_⟩,bW _ _⟩
 .have e:gh st [] (0,0)=(0,0):=by cases st<;>rfl
  rw[e];exact h
 .have e:wl []=[]:=by simp[wl,wn]
  rw[e];exact gu _ _
def bwS.off{w0:World}{o:List Nat}{r:Nat × Nat}(h:bwS w0 b o true r W):bwS w0 b o false r (W.setCell ⟨b,2,nn⟩ (bO false)):=by
 obtain⟨⟨v,c,own⟩,a⟩:=h;refine⟨⟨v,?_,own.setCellO b 2 _ om⟩,a.setCell (p:=⟨b,2,nn⟩) pQ _⟩;rw[QA W b 2 _ _ (bO false) c];simp
def yK:(Tp.info? 56).map (·.size)=sQ 2:=kr
def ED{x:Int}{a:Option Addr}{n c:Nat}:(#[I J x,sL a n c]:Array Value).all (·.oneCell')=true:=by simp[Value.oneCell']
def A8(e:Bool)(i:Nat)(r:Bool)(d:Nat)(l:List Nat)(a:l.length<=8):(aK e i r d l).length<=103:=by
 rw[dM];split<;>omega
def jm(e:Bool)(i:Nat)(r:Bool)(d:Nat)(l:List Nat):List Nat:=M.fV (aj e i r d l)++List.replicate 10 49
def Cy(e:Bool)(i:Nat)(r:Bool)(d:Nat)(l:List Nat):List (Nat × Nat × Nat):=
 bp true [] (lay e i r d l (M.js ((aK e i r d l).map (fun x=>x-48))) 1 11)++bp false (M.fV (aj e i r d l)) (lay e i r d l (M.js ((aK e i r d l).map (fun x=>x-48))) 11 15)
def uj(w:World)(e:Bool)(i:Nat)(r:Bool)(d:Nat)(a:Option Addr)(n cap:Nat)(l:List Nat)(a7:iB w a n cap l)(bI:w.rangeAt 0 0 cQ)(aw:0<w.heap.size)(hi:i<4294967296)(hd:d<=15)(hl:l.length=dlN r d):ce 187 #[frV e i r (d:Int) a n cap] w fun y w'=>∃G H sv,y=rT (.tuple #[pkV ((jm e i r d l).length:Int) G (wl (jm e i r d l)).length H,sv])/\ab w' w.heap.size (sL G (wl (jm e i r d l)).length H) (wl (jm e i r d l))/\bF w' w.heap.size sv (Cy e i r d l)/\Bl w w':=by
 have ci:=a7.len;have cf:l.length<=8:=by rw[hl];unfold dlN;split<;>omega
 have af:n<=8:=om;have bw:=a7.small;have HB:Hid (∀W,Bl w W->iB W a n cap l/\W.rangeAt 0 0 cQ/\0<W.heap.size):=by
  intro W C;refine⟨a7.below C,fun j u hj=>?_,nL aw C.size⟩;exact(C.cell (p:=⟨0,0+j,nn⟩) aw).trans (bI j u hj)
 have cr:=A8 e i r d l cf;have bt:M.js ((aK e i r d l).map (fun x=>x-48))<32768:=M.CU _;have HP:Hid (aK e i r d l++M.num (M.js ((aK e i r d l).map (fun x=>x-48))) 15=aj e i r d l):=rfl;have a2:=aa (fun c=>sr e i r d l c hl bw);have a3:=aa (fun c=>xt e i r d l c hl bw);have a4:=aa (fun c=>Ah e i r d l c);have b5:=hI (Fs _ (gG e i r d l) om);have bc:Hid (jm e i r d l=M.fV (aj e i r d l)++List.replicate 10 49):=rfl;have bf:Hid (Cy e i r d l=bp true [] (lay e i r d l (M.js ((aK e i r d l).map (fun x=>x-48))) 1 11)++bp false (M.fV (aj e i r d l)) (lay e i r d l (M.js ((aK e i r d l).map (fun x=>x-48))) 11 15)):=rfl;have b3:=aa (gG e i r d l);have bg:=aa (cZ e i r d l);have a9:Hid ((aj e i r d l).length<=118):=by
  show _<=_;rw[fW];split<;>omega
 have c5:=aa (M.FM (aj e i r d l) (cZ e i r d l));have bi:=aa (M.FO (aj e i r d l) (cZ e i r d l));have bk:=aa (M.FN (aj e i r d l))
 obtain⟨s,ao⟩:∃s,s=((w.alloc (.cells [bO e,I Zk (i:Int),bO r,I J (d:Int),sL a n cap].toArray 53)).alloc (.cells [I J 0,sL nn 0 0].toArray 56)).alloc (.cells [I J 0,sL nn 0 0,bO false,I .i32 0,I J 0].toArray 261):=⟨_,rfl⟩
 have K:Hid (blk s w.heap.size [bO e,I Zk (i:Int),bO r,I J (d:Int),sL a n cap] 53/\blk s (w.heap.size+1) [I J 0,sL nn 0 0] 56/\blk s (w.heap.size+2) [I J 0,sL nn 0 0,bO false,I .i32 0,I J 0] 261/\Bl w s/\s.heap.size=w.heap.size+3):=by
  subst ao;refine⟨((blk.new w _ 53).alloc _).alloc _,?_,?_,(Zw.alloc pQ _).alloc (by simp;omega) _,pQ⟩
  .have:=(blk.new (w.alloc (.cells [bO e,I Zk (i:Int),bO r,I J (d:Int),sL a n cap].toArray 53)) [I J 0,sL nn 0 0] 56).alloc (.cells [I J 0,sL nn 0 0,bO false,I .i32 0,I J 0].toArray 261);simpa using this
  .have:=blk.new ((w.alloc (.cells [bO e,I Zk (i:Int),bO r,I J (d:Int),sL a n cap].toArray 53)).alloc (.cells [I J 0,sL nn 0 0].toArray 56)) [I J 0,sL nn 0 0,bO false,I .i32 0,I J 0] 261;simpa using this
 clear a7 bI aw ci;generalize cc:M.js ((aK e i r d l).map (fun x=>x-48))=c at*;clear cc;go_enter func187,ntmps187;go_upto_region 2 with fail
 change Code.wp _ _ _ _ (((w.alloc (.cells [bO e,I Zk (i:Int),bO r,I J (d:Int),sL a n cap].toArray 53)).alloc (.cells [I J 0,sL nn 0 0].toArray 56)).alloc (.cells [I J 0,sL nn 0 0,bO false,I .i32 0,I J 0].toArray 261));rw[<- ao];clear ao;have b7:Hid (ce 224 #[ap (w.heap.size+2),.agg [bO e,I Zk (i:Int),bO r,I J (d:Int),sL a n cap].toArray,I J 0,I J 1,I J 10] s fun y w'=>∃v,y=rT v/\bwS s (w.heap.size+2) (aK e i r d l) false (0,0) w'/\Below (w.heap.size+2) s w'):=by
  have:=jq s s (w.heap.size+2) [] false (0,0) (bwS.new K.o.2.2.1) (good.nil _) e i r d a n cap l 0 1 10 (fun W C=>HB.o W (K.o.2.2.2.1.trans (C.mono om))) hi hd af om om om (.inl rfl) (by rw[a2.o];simp;omega) (by rw[a2.o];exact b3.o);refine this.mono ?_;rintro y w' ⟨v,rfl,A,Q,q3,D⟩;rw[a2.o,kJ]at A;exact⟨v,rfl,A,D⟩
 go_wp2_with(first|(refine Zi 53 [bO e,I Zk (i:Int),bO r,I J (d:Int),sL a n cap] K.o.1.load underlying53 ku ?_)|(go_at_call 224;refine b7.o.mono ?_;rintro y w4 ⟨v4,rfl,D,b4⟩))
 have T:=hI (qB (K.o.1.kept (b4.block _ om)) (qB (K.o.2.1.kept (b4.block _ om)) (K.o.2.2.2.1.trans (b4.mono om))));obtain⟨bm,bn,Z,ak⟩:=D.finish;have a1:=aa Z;have co:w.heap.size+2<w4.heap.size:=by obtain⟨⟨v,hh,_⟩,_⟩:=D;exact(bw5 hh).2.2
 have b6:Hid (∀X,Bl w4 X->ce 225 #[pkV ((aK e i r d l).length:Int) bm (wl (aK e i r d l)).length bn] X fun y w'=>y=rT (I J (c:Int))/\Bl X w'):=by
  intro X hX;have hw:=(ak.words rfl (im _) (ak.cap rfl)).below hX;have:=nC X ((aK e i r d l).length:Int) bm _ bn _ hw (by rw[cD];omega);rw[b5.o]at this;exact this
 clear D b4 Z ak K b7;go_upto_region 5 with(first|(go_at_call 226;refine a1.o.mono ?_;rintro y w5 ⟨rfl,P⟩)|(go_at_call 225;refine(b6.o _ P).mono ?_;rintro y t ⟨rfl,Y⟩))
 have h:Hid (blk (t.alloc (.cells [I J 0,sL nn 0 0,bO true,I .i32 0,I J 0].toArray 261)) w.heap.size [bO e,I Zk (i:Int),bO r,I J (d:Int),sL a n cap] 53/\blk (t.alloc (.cells [I J 0,sL nn 0 0,bO true,I .i32 0,I J 0].toArray 261)) (w.heap.size+1) [I J 0,sL nn 0 0] 56/\blk (t.alloc (.cells [I J 0,sL nn 0 0,bO true,I .i32 0,I J 0].toArray 261)) t.heap.size [I J 0,sL nn 0 0,bO true,I .i32 0,I J 0] 261/\Bl w (t.alloc (.cells [I J 0,sL nn 0 0,bO true,I .i32 0,I J 0].toArray 261))/\w.heap.size+2<t.heap.size/\(t.alloc (.cells [I J 0,sL nn 0 0,bO true,I .i32 0,I J 0].toArray 261)).heap.size=t.heap.size+1):=by
  have c9:=T.o.1.below P;have ca:=T.o.2.1.below P;refine⟨(c9.below Y).alloc _,(ca.below Y).alloc _,blk.new t _ 261,?_,?_,pQ⟩
  .have q5:=T.o.2.2.trans (P.mono T.o.2.2.size);have q6:=q5.trans (Y.mono q5.size);exact q6.alloc q6.size _
  .have:=P.size;have:=Y.size;omega
 change Code.wp _ _ _ _ (t.alloc (.cells [I J 0,sL nn 0 0,bO true,I .i32 0,I J 0].toArray 261));generalize t.alloc (.cells [I J 0,sL nn 0 0,bO true,I .i32 0,I J 0].toArray 261)=f at*;generalize t.heap.size=s2 at*;clear P Y T a1 b6 co;have b9:Hid (ce 224 #[ap s2,.agg [bO e,I Zk (i:Int),bO r,I J (d:Int),sL a n cap].toArray,I J (c:Int),I J 1,I J 11] f fun y w'=>∃v,y=rT v/\bwS f s2 (M.fV (aj e i r d l)) true (M.ga (M.fV (aj e i r d l))) w'/\bF w' (f.heap.size+1) v (bp true [] (lay e i r d l c 1 11))/\Below s2 f w'):=by
  have:=jq f f s2 [] true (0,0) (bwS.new h.o.2.2.1) (good.nil _) e i r d a n cap l c 1 11 (fun W C=>HB.o W (h.o.2.2.2.1.trans (C.mono (by have:=h.o.2.2.2.2.1;omega)))) hi hd af bt om om (.inr (.inl rfl)) (by rw[a3.o,HP.o];have:=a9.o;simp;omega) (by rw[a3.o,HP.o];exact bg.o);refine this.mono ?_;rintro y w' ⟨v,rfl,A,Q,q3,D⟩;rw[a3.o,HP.o,uL]at A;exact⟨v,rfl,A,Q,D⟩
 go_upto_region 6 with(first|(refine Zi 53 [bO e,I Zk (i:Int),bO r,I J (d:Int),sL a n cap] h.o.1.load underlying53 ku ?_)|(go_at_call 224;refine b9.o.mono ?_;rintro y N ⟨v8,rfl,q8,o8,b8⟩))
 have O:=hI (qB (h.o.1.kept (b8.block _ (by have:=h.o.2.2.2.2.1;omega))) (qB (h.o.2.1.kept (b8.block _ (by have:=h.o.2.2.2.2.1;omega))) (qB (h.o.2.2.2.1.trans (b8.mono (by have:=h.o.2.2.2.2.1;omega))) (qB q8 o8))));obtain⟨⟨⟨vv,am,_⟩,_⟩⟩:Nonempty ((∃v,N.heap[s2]?=sQ (.cells #[I J ((M.fV (aj e i r d l)).length:Int),v,bO true,I .i32 ((M.ga (M.fV (aj e i r d l))).1:Int),I J ((M.ga (M.fV (aj e i r d l))).2:Int)] 261)/\True)/\True):=by
  obtain⟨⟨v,hh,_⟩,_⟩:=q8;exact⟨⟨⟨v,hh,trivial⟩,trivial⟩⟩
 have f2:=(bw5 am).2.1 2;have c2:=(bw5 am).1.2.2.1;clear q8 o8 b8 b9 am;go_upto_region 7 with fail
 have cs:=h.o.2.2.2.2;have L:Hid (blk (N.setCell ⟨s2,2,nn⟩ (bO false)) w.heap.size [bO e,I Zk (i:Int),bO r,I J (d:Int),sL a n cap] 53/\blk (N.setCell ⟨s2,2,nn⟩ (bO false)) (w.heap.size+1) [I J 0,sL nn 0 0] 56/\Bl w (N.setCell ⟨s2,2,nn⟩ (bO false))/\bwS f s2 (M.fV (aj e i r d l)) false (M.ga (M.fV (aj e i r d l))) (N.setCell ⟨s2,2,nn⟩ (bO false))/\bF (N.setCell ⟨s2,2,nn⟩ (bO false)) (f.heap.size+1) v8 (bp true [] (lay e i r d l c 1 11))):=by
  refine⟨O.o.1.setOther om 2 _,O.o.2.1.setOther om 2 _,O.o.2.2.1.setCell (by show w.heap.size<=s2;omega) _,O.o.2.2.2.1.off,O.o.2.2.2.2.setCellO s2 2 _ om⟩
 clear O h f2 c2;generalize N.setCell ⟨s2,2,nn⟩ (bO false)=w9 at*;have ad:(bp false (M.fV (aj e i r d l)) (lay e i r d l c 11 15)).length=4:=by rw[fB];simp[lay,iT,bK]
 have cb:(bp true [] (lay e i r d l c 1 11)).length<=16:=by rw[fB];exact lV _ _ _ _ _
 have bb:Hid (ce 224 #[ap s2,.agg [bO e,I Zk (i:Int),bO r,I J (d:Int),sL a n cap].toArray,I J (c:Int),I J 11,I J 15] w9 fun y w'=>∃g k,y=rT (sL (be g) (bp false (M.fV (aj e i r d l)) (lay e i r d l c 11 15)).length k)/\(∀j u,(spV (bp false (M.fV (aj e i r d l)) (lay e i r d l c 11 15)))[j]?=sQ u->w'.cell? ((⟨g,0,nn⟩:Addr).add j)=sQ u)/\bwS f s2 (jm e i r d l) false (M.ga (M.fV (aj e i r d l))) w'/\bF w' (f.heap.size+1) v8 (bp true [] (lay e i r d l c 1 11))/\Below s2 w9 w'):=by
  have:=jq f w9 s2 (M.fV (aj e i r d l)) false (M.ga (M.fV (aj e i r d l))) L.o.2.2.2.1 ⟨bi.o,fun e=>by cases e⟩ e i r d a n cap l c 11 15 (fun W C=>HB.o W (L.o.2.2.1.trans (C.mono om))) hi hd af bt om om (.inr (.inr rfl)) (by rw[a4.o];have:=a9.o;have:=bk.o;simp;omega) (by rw[a4.o];intro x hx;rw[List.mem_replicate]at hx;exact .inr hx.2);refine this.mono ?_;rintro y w' ⟨v,rfl,A,Q,q3,D⟩;rw[a4.o,kJ,<- bc.o]at A;obtain⟨g,k,rfl,hc⟩:=Q.open (by intro e;rw[e]at ad;simp at ad);exact⟨g,k,rfl,hc,A,L.o.2.2.2.2.writer om q3,D⟩
 have c0:Hid (bp true [] (lay e i r d l c 1 11)≠[]):=by
  intro e0;have:=congrArg List.length e0;rw[fB]at this;simp[lay,iT]at this
 have bZ:Hid ((bp true [] (lay e i r d l c 1 11)).length+(bp false (M.fV (aj e i r d l)) (lay e i r d l c 11 15)).length<=1000000):=by show _<=_;omega
 clear cb ad c5 bi bk a9 bg b3 a2 a3 a4 HP b5 bc;generalize bp false (M.fV (aj e i r d l)) (lay e i r d l c 11 15)=SB at*;generalize bp true [] (lay e i r d l c 1 11)=SA at*;generalize M.ga (M.fV (aj e i r d l))=rr at*;go_upto_region 8 with(first|(refine Zi 53 [bO e,I Zk (i:Int),bO r,I J (d:Int),sL a n cap] L.o.1.load underlying53 ku ?_)|(go_at_call 224;refine bb.o.mono ?_;rintro y cp ⟨c7,k10,rfl,bs,bD,b1,ac⟩)|(at_builtin;refine xZ cp rfl (.tmp 17) (.tmp 20) rfl (f.heap.size+1) v8 SA SB ⟨c7,0,nn⟩ k10 rfl b1 rfl bs bZ.o (b1.room c0.o) ?_;intro b2 bL bA a5 k11))
 have ck:s2<f.heap.size+1:=om;have bE:=bD.spans a5 ck k11;have a8:Hid (blk bL (w.heap.size+1) [I J 0,sL nn 0 0] 56/\Bl w bL):=by
  have A:=L.o.2.1.kept (ac.block _ om);have Q:=L.o.2.2.1.trans (ac.mono om);exact⟨A.kept (a5.block _ om),Q.trans (a5.mono om)⟩
 obtain⟨G,H,Z,bu⟩:=bE.finish;have a1:=aa Z;have HO:=hI (qB bu bA);clear Z bu bE bD b1 bA ac a5 k11 bs L bb HB;rw[<- bf.o]at HO;clear bf;generalize bo:jm e i r d l=E at*;generalize bq:Cy e i r d l=IS at*;have bX:=aa bo;have bY:=aa bq
 clear bo bq;go_wp2_with(first|(go_at_call 226;refine a1.o.mono ?_;rintro y a0 ⟨rfl,U⟩;have R:Hid (blk a0 (w.heap.size+1) [I J 0,sL nn 0 0] 56/\Bl w a0/\ab a0 (s2+1) (sL G (wl E).length H) (wl E)/\bF a0 (f.heap.size+1) b2 IS):=⟨a8.o.1.below U,a8.o.2.trans (U.mono a8.o.2.size),HO.o.1.below U,HO.o.2.below U⟩;clear U)|(refine Zs 56 #[I J (E.length:Int),sL G (wl E).length H] (R.o.1.there 0 2 pQ) yK ED ?_;generalize br:World.setCells a0 (w.heap.size+1) 0 _=bR;have c6:Hid (_=bR):=br;clear br))
 have a6:=c6.o;have hF:blk bR (w.heap.size+1) [I J (E.length:Int),sL G (wl E).length H] 56:=by
  rw[<- a6];exact blk.put [] [I J 0,sL nn 0 0] [] _ R.o.1 rfl
 have p0:=hF.cell 0 _ rfl;have p1:=hF.cell 1 _ rfl;refine Qp (v:=.tuple #[pkV (E.length:Int) G (wl E).length H,b2]) (by simp[results,results187,go_sem,p0,p1]) rfl ?_;rw[bX.o,bY.o];refine⟨G,H,b2,rfl,?_,?_,?_⟩
 .rw[<- a6];exact(R.o.2.2.1.setCellsO (w.heap.size+1) 0 _ om).lower om
 .rw[<- a6];exact(R.o.2.2.2.setCellsO (w.heap.size+1) 0 _ om).lower om
 .rw[<- a6];exact sW om 0 _ R.o.2.1
end
def imZ(e:Bool)(i:Nat)(r:Bool)(d:Int)(n:Nat)(l:List Nat):List Nat:=if vB e i r d n=true then jm e i r d.toNat l else[]
def ry{e:Bool}{i:Nat}{r:Bool}{d:Int}{n:Nat}{l:List Nat}(h:vB e i r d n=true)(b:n=l.length):i<4294967296/\d.toNat<=15/\l.length=dlN r d.toNat/\d=(d.toNat:Int)/\l.length<=8:=by
 have h1:=cW h;have a:(n:Int)=dl r d:=by
  unfold vB at h;simp only[Q3,beq_iff_eq]at h;exact h.2
 refine⟨om,om,?_,om,om⟩;unfold dlN;unfold dl at a;cases r
 .simp only[qH,if_false]at a ⊢;split at a<;>omega
 .simp only[if_true]at a ⊢;omega
def nd(w:World)(T:w.rangeAt 0 0 cQ)(M:0<w.heap.size)(e:Bool)(i:Nat)(r:Bool)(d:Int)(a:Option Addr)(n cap:Nat)(l:List Nat)(h:iB w a n cap l):ce 133 #[frV e i r d a n cap] w fun y w'=>∃c f,y=rT (pkV ((imZ e i r d n l).length:Int) c (wl (imZ e i r d n l)).length f)/\ab w' w.heap.size (sL c (wl (imZ e i r d n l)).length f) (wl (imZ e i r d n l))/\Bl w w':=by
 have O:=aa h.len;have g:Hid (blk ((w.alloc (.cells [bO e,I Zk (i:Int),bO r,I J d,sL a n cap].toArray 53)).alloc (.cells [I J 0,sL nn 0 0].toArray 56)) w.heap.size [bO e,I Zk (i:Int),bO r,I J d,sL a n cap] 53/\blk ((w.alloc (.cells [bO e,I Zk (i:Int),bO r,I J d,sL a n cap].toArray 53)).alloc (.cells [I J 0,sL nn 0 0].toArray 56)) (w.heap.size+1) [I J 0,sL nn 0 0] 56/\Bl w ((w.alloc (.cells [bO e,I Zk (i:Int),bO r,I J d,sL a n cap].toArray 53)).alloc (.cells [I J 0,sL nn 0 0].toArray 56))/\((w.alloc (.cells [bO e,I Zk (i:Int),bO r,I J d,sL a n cap].toArray 53)).alloc (.cells [I J 0,sL nn 0 0].toArray 56)).heap.size=w.heap.size+2):=by
  refine⟨(blk.new w _ 53).alloc _,?_,Zw.alloc pQ _,pQ⟩;have:=blk.new (w.alloc (.cells [bO e,I Zk (i:Int),bO r,I J d,sL a n cap].toArray 53)) [I J 0,sL nn 0 0] 56;simpa using this
 have K:=aa (fun W(t:Bl w W)=>dU W e i r d a n cap l (h.below t));obtain⟨X,E⟩:∃X,X=((w.alloc (.cells [bO e,I Zk (i:Int),bO r,I J d,sL a n cap].toArray 53)).alloc (.cells [I J 0,sL nn 0 0].toArray 56)):=⟨_,rfl⟩
 rw[<- E]at g;by_cases A:vB e i r d n=true
 .obtain⟨f1,f2,f3,f4,f5⟩:=ry A O.o;have C:imZ e i r d n l=jm e i r d.toNat l:=QW A;have Y:Hid (∀W,Bl w W->ce 187 #[.agg [bO e,I Zk (i:Int),bO r,I J d,sL a n cap].toArray] W fun y w'=>∃c f sv,y=rT (.tuple #[pkV ((jm e i r d.toNat l).length:Int) c (wl (jm e i r d.toNat l)).length f,sv])/\ab w' W.heap.size (sL c (wl (jm e i r d.toNat l)).length f) (wl (jm e i r d.toNat l))/\bF w' W.heap.size sv (Cy e i r d.toNat l)/\Bl W w'):=by
   intro W t;have:=uj W e i r d.toNat a n cap l (h.below t) (fun j u Z=>(t.cell (p:=⟨0,0+j,nn⟩) M).trans (T j u Z)) (nL M t.size) f1 f2 f3;rw[<- f4]at this;exact this
  rw[C];generalize jm e i r d.toNat l=b at*;have P:Hid (∀W,Bl w W->ce 186 #[.agg [bO e,I Zk (i:Int),bO r,I J d,sL a n cap].toArray] W fun o w'=>o=rT (bO true)/\Bl W w'):=fun W t=>by have:=K.o W t;rw[A]at this;exact this
  clear K C f1 f2 f3 f4 f5 A h O T M;go_enter func133,ntmps133;go_upto_region 1 with fail
  change Code.wp _ _ _ _ ((w.alloc (.cells [bO e,I Zk (i:Int),bO r,I J d,sL a n cap].toArray 53)).alloc (.cells [I J 0,sL nn 0 0].toArray 56));rw[<- E]
  clear E;go_wp2_with(first|(refine Zi 53 [bO e,I Zk (i:Int),bO r,I J d,sL a n cap] g.o.1.load underlying53 ku ?_)|(go_at_call 186;refine(P.o _ g.o.2.2.1).mono ?_;rintro y x ⟨rfl,s⟩;have k:Hid (blk x w.heap.size [bO e,I Zk (i:Int),bO r,I J d,sL a n cap] 53/\blk x (w.heap.size+1) [I J 0,sL nn 0 0] 56/\Bl w x/\w.heap.size+2<=x.heap.size):=⟨g.o.1.below s,g.o.2.1.below s,g.o.2.2.1.trans (s.mono g.o.2.2.1.size),by have:=s.size;have:=g.o.2.2.2;omega⟩;clear s)|(refine Zi 53 [bO e,I Zk (i:Int),bO r,I J d,sL a n cap] k.o.1.load underlying53 ku ?_)|(go_at_call 187;refine(Y.o _ k.o.2.2.1).mono ?_;rintro y N ⟨c,f,sv,rfl,U,_,L⟩;have H:Hid (blk (N.alloc (.cells #[I J (b.length:Int),sL c (wl b).length f] 56)) (w.heap.size+1) [I J 0,sL nn 0 0] 56/\Bl w (N.alloc (.cells #[I J (b.length:Int),sL c (wl b).length f] 56))/\ab (N.alloc (.cells #[I J (b.length:Int),sL c (wl b).length f] 56)) (w.heap.size+2) (sL c (wl b).length f) (wl b)):=⟨(k.o.2.1.below L).alloc _,(k.o.2.2.1.trans (L.mono k.o.2.2.1.size)).alloc (nT k.o.2.2.1.size L.size) _,(U.lower k.o.2.2.2).alloc _⟩;clear L U)|(refine Zs 56 #[I J (b.length:Int),sL c (wl b).length f] (H.o.1.there 0 2 pQ) yK ED ?_;generalize D:World.setCells (N.alloc _) (w.heap.size+1) 0 _=G;have Q:Hid (_=G):=D;clear D))
  have B:=Q.o;have hF:blk G (w.heap.size+1) [I J (b.length:Int),sL c (wl b).length f] 56:=by
   rw[<- B];exact blk.put [] [I J 0,sL nn 0 0] [] _ H.o.1 rfl
  have R:=hF.cell 0 _ rfl;have S:=hF.cell 1 _ rfl;refine Qp (v:=pkV (b.length:Int) c (wl b).length f) (by simp[results,results133,go_sem,R,S]) rfl ?_;refine⟨c,f,rfl,?_,?_⟩
  .rw[<- B];exact(H.o.2.2.setCellsO (w.heap.size+1) 0 _ om).lower om
  .rw[<- B];exact sW om 0 _ H.o.2.1
 .have hvf:vB e i r d n=false:=by simpa using A
  have C:imZ e i r d n l=[]:=QV A;have P:Hid (∀W,Bl w W->ce 186 #[.agg [bO e,I Zk (i:Int),bO r,I J d,sL a n cap].toArray] W fun o w'=>o=rT (bO false)/\Bl W w'):=fun W t=>by have:=K.o W t;rw[hvf]at this;exact this
  rw[C];clear K A hvf h O C T M;go_enter func133,ntmps133;go_upto_region 1 with fail
  change Code.wp _ _ _ _ ((w.alloc (.cells [bO e,I Zk (i:Int),bO r,I J d,sL a n cap].toArray 53)).alloc (.cells [I J 0,sL nn 0 0].toArray 56));rw[<- E]
  clear E;go_wp2_with(first|(refine Zi 53 [bO e,I Zk (i:Int),bO r,I J d,sL a n cap] g.o.1.load underlying53 ku ?_)|(go_at_call 186;refine(P.o _ g.o.2.2.1).mono ?_;rintro y x ⟨rfl,s⟩;have k:Hid (blk x (w.heap.size+1) [I J 0,sL nn 0 0] 56/\Bl w x):=⟨g.o.2.1.below s,g.o.2.2.1.trans (s.mono g.o.2.2.1.size)⟩;clear s)|(refine Zs 56 #[I J 0,sL nn 0 0] (k.o.1.there 0 2 pQ) yK ED ?_;generalize D:World.setCells x (w.heap.size+1) 0 _=G;have Q:Hid (_=G):=D;clear D))
  have B:=Q.o;have hF:blk G (w.heap.size+1) [I J 0,sL nn 0 0] 56:=by
   rw[<- B];exact blk.put [] [I J 0,sL nn 0 0] [] _ k.o.1 rfl
  have R:=hF.cell 0 _ rfl;have S:=hF.cell 1 _ rfl;refine Qp (v:=pkV 0 nn 0 0) (by simp[results,results133,go_sem,R,S]) rfl ?_;refine⟨nn,0,rfl,gu _ _,?_⟩;rw[<- B];exact sW om 0 _ k.o.2
end Go.Proofs.YtbbffcolnddcdaaGreatDoor
