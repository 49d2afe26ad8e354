import Derived.Test.YtbbffcolnddcdaaGreatDoorK10
import Derived.Deep.RegionHeld3
namespace Go.Proofs.YtbbffcolnddcdaaGreatDoor
open Go.Proofs.Tryz
open Option renaming none->nn,some->sQ
open Go renaming World->Wd
set_option maxRecDepth 100000
open Go.RowKit
set_option linter.all false
set_option maxHeartbeats 16000000
open Go.Value renaming int->I,slice->sL,bool->bO,pointer->pT,agg->aG
open Go.IntKind renaming i64->J,u32->Zk
open Go.Ending renaming returned->rT
open Go.Proofs.Tryz renaming prog->Tp
section
variable{w W:Wd}{l:List Nat}{B n cap i:Nat}{v:Value}{a:Option Addr}{e r:Bool}{d:Int}
namespace M
def isL(c:Nat):Prop:=c=48\/c=49
end M
def cS{a b:ByteArray}(h:a=b):Ending.returned (.string a)=rT (.string b):=by rw[h]
def ag(l:List Nat):ByteArray:=⟨(l.map UInt8.ofNat).toArray⟩
def pK(h:∀x∈l,M.isL x):∀x∈l,x<256:=by
 intro x b;rcases h x b with rfl|rfl<;>decide
def mB(h:ae w B v l)(s:∀x∈l,x<256):(convert 33 9 v).run Tp w= .ok (.string (ag l)) w:=by
 have k:=h;obtain⟨_,⟨rfl,h1⟩|⟨g,cap,cur,rfl,t,u,b,y,A,C⟩⟩:=h
 .have:l=[]:=List.length_eq_zero_iff.1 h1;subst this;rw[run_convert_bytes_string w 33 9 5 nn 0 0 underlying33 underlying5 underlying9];rfl
 .have:=run_convert_bytes_back (P:=Tp) w 33 9 5 ⟨g,0,nn⟩ cap (l.map UInt8.ofNat) underlying33 underlying5 underlying9 (by
   intro j p;have c:j<l.length:=by simpa using p
   have b:=QJ k j om
   rw[oz l j c]at b
   have D:=s l[j] (ql c)
   have e:(UInt8.ofNat l[j]).toNat=l[j]:=by simp;omega
   have f:(⟨g,0,nn⟩:Addr).add j=⟨g,j,nn⟩:=by simp only[Addr.add];split<;>simp_all
   rw[f,za,e]
   exact b)
  rw[qP]at this;exact this
def ae.drewN(h:ae w B v l)(q:Nat):ae (w.drewN q) B v l:=by
 induction q generalizing w with
 |zero=>exact h
 |succ q ih=>exact ih (World.ownsRow.drew h)
def ae.kind(h:ae w B v l):∀g,v.ownBlock=sQ g->∃c f,w.heap[g]?=sQ (.cells c 5 f):=by
 intro g b;obtain⟨_,⟨rfl,_⟩|⟨k,cap,cur,rfl,_,j,_⟩⟩:=h
 .simp[Value.ownBlock]at b
 .simp[Value.ownBlock]at b;subst b;exact⟨cur,_,j⟩
def oH{t:Array Oper}{rest:List Oper}{o:Oper}{a:Act}{Q:Exit->Act->Wd->Prop}(w0 wr:Wd)(C:o.guard=nn)(s x:Operand)
  (ho:o.op= .call {callee:=.builtin .append,args:=#[s,x],argTypes:=#[33,33]})
  (B:Nat) (v:Value) (l:List Nat) (c:Nat) (p:Int) (A:p=(c:Int)) (hs:a.eval s=v) (f:ae wr B v l)
  (G:a.eval x=sL (be wr.heap.size) 1 1) (N:l.length<=100000000) (hB:B<=wr.heap.size) (y:Below B w0 wr)
  (h:∀b w',ae w' B b (l++[c])->Below B w0 w'->Lib.OthersKept 5 nn wr w'->wpList Tp t Q rest (a.put o.dst b) w') :
  wpList Tp t Q (o::rest) a (wr.alloc (.cells #[I .u8 p] 5)):=by
 subst A;obtain⟨M,hi,H,K,L⟩:=QH info5;refine QM _ C s x 33 ho B 5 M (I .u8 0) 1 1 underlying33 hi H K L rfl (by decide) v l.length (bv l) hs (Qx f _) ⟨wr.heap.size,0,nn⟩ 1 1 [I .u8 (c:Int)] G rfl ?_ ?_ ?_ ?_ ?_ ?_
 .intro j u hj;match j,hj with
  |0,hj=>simp at hj;subst hj;simp[Addr.add]
 .intro u hu;simp at hu;subst hu;rfl
 .unfold maxLen;omega
 .omega
 .simp;omega
 .intro b w' ho' hg _;have E:∀k,v.ownBlock=sQ k->B<=k:=fun k D=>(Qm f k D).1;refine h b w' ?_ ((y.alloc hB _).grown hg (by simp;omega) E) (((QG 5 nn wr).alloc _).grown hg ?_)
  .have e1:bv (l++[c])=bv l++[I .u8 (c:Int)]:=by simp[bv]
   unfold ae;rw[e1,QX];exact ho'
  .intro g hg';exact ae.kind (B:=B) (l:=l) (Qx f _) g hg'
namespace M
def Hp(l:List Nat)(k:Nat)(h:k<l.length):l.take (k+1)=l.take k++[l[k]]:=qe h
end M
def bV.below{w':Wd}{g:Nat}{f:Nat->Nat}(h:bV w g n f)(hb:Below B w w')(hg:g<B):bV w' g n f:=
 ⟨fun t ht=>(hb.cell (by exact hg)).trans (h.cell t ht),fun t ht=>(hb.frozen (by exact hg)).trans (h.free t ht)⟩
def dl(r:Bool)(d:Int):Int:=if r=true then 0 else if 8<d then 8 else d
def AS{F:FuncId}(hF:F=112\/F=254)(w:Wd)(e:Bool)(i:Nat)(r:Bool)(d:Int)(a:Option Addr)(n cap:Nat):ce F #[frV e i r d a n cap] w fun o w'=>o=rT (I J (dl r d))/\w.alloc (frC e i r d a n cap 53)=w':=by
 rcases hF with rfl|rfl<;>cases r<;>by_cases h8:8<d
 all_goals
  first|go_enter func112,ntmps112|go_enter func254,ntmps254
  go_wp2;go_ret;exact⟨aL (by simp[dl]<;>omega),rfl⟩
set_option linter.defProp false in
def kP:=@AS 112 (.inl rfl)
set_option linter.defProp false in
def tc:=@AS 254 (.inr rfl)
def vB(e:Bool)(i:Nat)(r:Bool)(d:Int)(n:Nat):Bool:=
 (if e=true then decide (i<536870912)else decide (i<2048))&&decide (0<=d)&&decide (d<=15)&&((n:Int)==dl r d)
def aX(w:Wd)(e:Bool)(i:Nat)(r:Bool)(d:Int)(a:Option Addr)(n cap:Nat):ce 65 #[frV e i r d a n cap] w fun o w'=>o=rT (bO (vB e i r d n))/\Bl w w':=by
 obtain⟨b,c⟩:∃b,(if e=true then decide (i<536870912)else decide (i<2048))=b:=⟨_,rfl⟩
 have f:Hid (vB e i r d n=(b&&decide (0<=d)&&decide (d<=15)&&((n:Int)==dl r d))):=by show _=_;unfold vB;rw[c]
 generalize vB e i r d n=V at*;have g:(if e=true then decide ((536870912:Int)<=(i:Int))else decide ((2048:Int)<=(i:Int)))= !b:=by
  rw[<- c];cases e<;>simp<;>rw[Q0]<;>simp<;>omega
 clear c;cases e<;>cases b<;>simp only[if_true,if_false,qH]at g;all_goals
  go_enter func65,ntmps65;go_wp2
  all_goals first
   |(go_ret;exact⟨ai (by rw[f.o];simp<;>omega),Zw⟩)
   |(go_region_with (go_at_call 112;refine(kP _ _ _ _ _ _ _ _).mono ?_;rintro o h ⟨rfl,rfl⟩)
     all_goals(go_wp2;go_ret;exact⟨ai (by rw[f.o];simp<;>omega),(Zw.alloc pQ _).drew⟩))
def DJ(h:iB w a n cap l):(convert 33 9 (sL a n cap)).run Tp w= .ok (.string (ag l)) w:=by
 obtain⟨rfl,t,s,b⟩:=h;by_cases k:l=[]
 .subst k;cases a with
  |none=>
   rw[run_convert_bytes_string w 33 9 5 nn _ cap underlying33 underlying5 underlying9];rfl
  |some a=>
   have:=run_convert_bytes_back (P:=Tp) w 33 9 5 a cap [] underlying33 underlying5 underlying9 (by intro j c;simp at c);exact this
 .obtain⟨g,off,rfl,hcc⟩:=b k
  have:=run_convert_bytes_back (P:=Tp) w 33 9 5 ⟨g,off,nn⟩ cap (l.map UInt8.ofNat) underlying33 underlying5 underlying9 (by
   intro j c;have f:j<l.length:=by simpa using c
   have b:=hcc j f
   have u:=s l[j] (ql f)
   have e:(UInt8.ofNat l[j]).toNat=l[j]:=by simp;omega
   have p:(⟨g,off,nn⟩:Addr).add j=⟨g,off+j,nn⟩:=by simp only[Addr.add];split<;>simp_all
   rw[p,za,e]
   exact b)
  rw[qP]at this;exact this
def yQ{m:List Nat}(b:∀x∈l,x<256)(f:∀x∈m,x<256)(h:l.map UInt8.ofNat=m.map UInt8.ofNat):l=m:=by
 have c:∀l:List Nat,(∀x∈l,x<256)->(l.map UInt8.ofNat).map UInt8.toNat=l:=by
  intro l b;rw[List.map_map];conv=>rhs;rw[<- List.map_id l]
  apply zg;intro x g;have:=b x g;simp;omega
 rw[<- c l b,<- c m f,h]
def xK(w:Wd)(a1 a2:Option Addr)(n1 c1 n2 c2:Nat)(b c:List Nat)(h1:iB w a1 n1 c1 b)(f:iB w a2 n2 c2 c):ce 229 #[sL a1 n1 c1,sL a2 n2 c2] w fun o w'=>o=rT (bO (decide (b=c)))/\w=w':=by
 have k1:=DJ h1;have k2:=DJ f;have g:Hid ((b.map UInt8.ofNat==c.map UInt8.ofNat)=decide (b=c)):=by
  unfold Hid;rw[Q0,beq_iff_eq,qQ];exact⟨yQ h1.small f.small,fun e=>by rw[e]⟩
 clear h1 f;go_enter func229,ntmps229;go_wp2;go_ret;exact⟨ai (by rw[<- g.o];simp[ag]),rfl⟩
def jn(w:Wd)(e:Bool)(i:Nat)(r:Bool)(d:Int)(a:Option Addr)(n cap:Nat):ce 228 #[frV e i r d a n cap] w fun o w'=>o=rT (aG #[bO e,bO r])/\(w.alloc (frC e i r d a n cap 53)).alloc (.cells #[bO e,bO r] 267)=w':=by
 go_enter func228,ntmps228;go_wp2;exact Qp (v:=aG #[bO e,bO r]) (by simp[results,results228,go_sem]) rfl ⟨rfl,rfl⟩
def iL(k:Nat):Array Value:=madeCells #[I .u8 0] k
def ts(k t:Nat)(h:t<k):(iL k)[t]?=sQ (I .u8 0):=by
 have:=toList_madeCells_one (I .u8 0) k;unfold iL;rw[<- qN,this,List.getElem?_replicate,QW h]
def mkz(w:Wd)(k:Nat)(j:k<=100000000):(Instr.makeSlice 33 (I J (k:Int)) (I J (k:Int))).run Tp w= .ok (sL (be w.heap.size) k k) (w.alloc (.cells (iL k) 5)):=by
 obtain⟨h,hi,c,f,g⟩:=QH info5;have b:=run_make (P:=Tp) w 33 5 h (I .u8 0) underlying33 hi c .i64 .i64 k k om (Int.le_refl _) (by rw[g];omega) om;simp only[Int.toNat_natCast,f,Nat.mul_one]at b;exact b
def pL(w:Wd)(k:Nat):iB (w.alloc (.cells (iL k) 5)) (be w.heap.size) k k (List.replicate k 0):=by
 refine⟨pQ,nR _,fun x b=>by rw[List.mem_replicate]at b;rw[b.2];decide,fun _=>⟨_,0,rfl,fun j c=>?_⟩⟩;have f:j<k:=by simpa using c
 have h1:=World.cell?_alloc_mark w (iL k) 5 (0,0) (0+j);rw[h1,qg,ts k j f];simp
def m9(w:Wd)(k b:Nat)(c:w.heap.size=b):iB (w.alloc (.cells (iL k) 5)) (be b) k k (List.replicate k 0):=by
 subst c;exact pL w k
def oo(r:Bool)(d:Int)(h0:0<=d):0<=dl r d/\dl r d<=8:=by
 unfold dl;split
 .omega
 .split<;>omega
def uJ(w:Wd)(e:Bool)(i:Nat)(r:Bool)(d:Int)(a:Option Addr)(n cap:Nat)(l:List Nat)(h:iB w a n cap l)(f:Nat)(c:Int)(k:Nat)
  (Q:(if(536870911:Int)<(i:Int)then(536870911:Int)else(i:Int))=(f:Int)) (P:(if(15:Int)<(if d<0 then 0 else d)then(15:Int)else(if d<0 then 0 else d))=c) (D:dl (r&&((n:Int)==0)) c=(k:Int)) (S:k<=8) :
  ce 223 #[frV e i r d a n cap] w fun o w'=>∃A E C l',o=rT (frV (e||decide ((2047:Int)<(i:Int))) f (r&&((n:Int)==0)) c A E C)/\iB w' A E C l'/\Bl w w'/\(n=k->l'=l)/\(n≠k->l'≠l):=by
 have H:=hI h;have y:Hid (∀V R,R=(r&&((n:Int)==0))->ce 254 #[frV (e||decide ((2047:Int)<(i:Int))) f R c a n cap] V fun o w'=>o=rT (I J (k:Int))/\V.alloc (frC (e||decide ((2047:Int)<(i:Int))) f R c a n cap 53)=w'):=fun V R hR=>(tc V _ f R c a n cap).mono fun o w' ⟨K,L⟩=>⟨by rw[K,hR,D],L⟩
 have T:=fun w=>mkz w k om;obtain⟨b,M⟩:∃b,((n:Int) !=(k:Int))=b:=⟨_,rfl⟩
 have x:Hid (b=false↔n=k):=by show _↔_;rw[<- M];simp;omega
 have G:Hid (n≠k->List.replicate k 0≠l):=fun N e=>N (by rw[h.len,<- e];simp)
 have s:Hid (∀g j p,Bl w (((w.alloc g).alloc j).alloc p)/\∀u,Bl w ((((w.alloc g).alloc j).alloc p).alloc u)):=fun g j p=>by
  have:=(((bW w.heap.size w).alloc (nR _) g).alloc pQ j).alloc (by simp;omega) p;exact⟨this,fun u=>this.alloc (by simp;omega) u⟩
 clear h D;cases b
 .have HN:Hid (n=k):=x.o.1 rfl;cases e<;>cases r;all_goals
   go_enter func223,ntmps223;go_wp2_with(go_at_call 254;refine(y.o _ _ rfl).mono ?_;rintro o O ⟨rfl,rfl⟩);all_goals
    refine Qp (v:=frV _ f _ c _ _ _) (by simp[results,results223,go_sem];exact⟨rfl,rfl,rfl,rfl,rfl⟩) rfl ?_;exact⟨_,_,_,rfl,l,H.o.below (s.o _ _ _).1,(s.o _ _ _).1,fun _=>rfl,fun t=>Qj HN.o t⟩
 .have HN:Hid (¬n=k):=fun e=>by have:=x.o.2 e;cases this
  cases e<;>cases r;all_goals
   go_enter func223,ntmps223;go_wp2_with(go_at_call 254;refine(y.o _ _ rfl).mono ?_;rintro o O ⟨rfl,rfl⟩);all_goals
    refine Qp (v:=frV _ f _ c _ _ _) (by simp[results,results223,go_sem];exact⟨rfl,rfl,rfl,rfl,rfl⟩) rfl ?_;exact⟨_,_,_,rfl,List.replicate k 0,m9 _ k _ pQ,(s.o _ _ _).2 _,fun t=>Qj t HN.o,fun _=>G.o HN.o⟩
def AN(w:Wd)(e r b c:Bool):(Op.equalIn 10000 267 (aG #[bO e,bO r]) (aG #[bO b,bO c])).run Tp w= .ok ((e==b)&&(r==c)) w:=by
 cases e<;>cases r<;>cases b<;>cases c<;>kernel_rfl
def oh:Tp.eqGuardType Tp.depth 267=false:=kr
def dW(W:Wd)(o:Obj)(b j:Nat)(v:Value)(hb:b<W.heap.size)(h:W.cell? ⟨b,j,nn⟩=sQ v):(W.alloc o).cell? ⟨b,j,nn⟩=sQ v:=
 (World.cell?_alloc_lt _ _ _ (by exact hb)).trans h
abbrev sfP(w:Wd)(e:Bool)(i:Nat)(r:Bool)(d:Int)(a:Option Addr)(n cap:Nat)(e':Bool)(i':Nat)(r':Bool)(d':Int)(a':Option Addr)(n' cap':Nat)(W:Wd):Prop:=W.cell? ⟨w.heap.size,0,nn⟩=sQ (bO e)/\W.cell? ⟨w.heap.size,1,nn⟩=sQ (I Zk (i:Int))/\W.cell? ⟨w.heap.size,2,nn⟩=sQ (bO r)/\W.cell? ⟨w.heap.size,3,nn⟩=sQ (I J d)/\W.cell? ⟨w.heap.size,4,nn⟩=sQ (sL a n cap)/\W.cell? ⟨w.heap.size+1,0,nn⟩=sQ (bO e')/\W.cell? ⟨w.heap.size+1,1,nn⟩=sQ (I Zk (i':Int))/\W.cell? ⟨w.heap.size+1,2,nn⟩=sQ (bO r')/\W.cell? ⟨w.heap.size+1,3,nn⟩=sQ (I J d')/\W.cell? ⟨w.heap.size+1,4,nn⟩=sQ (sL a' n' cap')/\Bl w W/\w.heap.size+1<W.heap.size
def nU(w W:Wd)(o:Obj)(e:Bool)(i:Nat)(r:Bool)(d:Int)(a:Option Addr)(n cap:Nat)(k:Bool)(p:Nat)(t:Bool)(j:Int)(f:Option Addr)(s g:Nat)
  (h:sfP w e i r d a n cap k p t j f s g W):(sfP w e i r d a n cap k p t j f s g) (W.alloc o):=by
 obtain⟨h0,h1,u,x,y,k0,k1,k2,k3,k4,A,b⟩:=h;have c:w.heap.size<W.heap.size:=om;exact⟨dW _ _ _ _ _ c h0,dW _ _ _ _ _ c h1,dW _ _ _ _ _ c u,dW _ _ _ _ _ c x,dW _ _ _ _ _ c y,dW _ _ _ _ _ b k0,dW _ _ _ _ _ b k1,dW _ _ _ _ _ b k2,dW _ _ _ _ _ b k3,dW _ _ _ _ _ b k4,A.alloc om _,by simp;omega⟩
def Gl(w:Wd)(e:Bool)(i:Nat)(r:Bool)(d:Int)(a:Option Addr)(n cap:Nat)(g:Bool)(h:Nat)(k:Bool)(f:Int)(b:Option Addr)(j c:Nat):(sfP w e i r d a n cap g h k f b j c) ((w.alloc (frC e i r d a n cap 53)).alloc (frC g h k f b j c 53)).drew:=by
 refine⟨?_,?_,?_,?_,?_,?_,?_,?_,?_,?_,(Zw.alloc pQ _).drew,pQ⟩<;>go_simp
def mD{e':Bool}{i':Nat}{r':Bool}{d':Int}{a':Option Addr}{n' cap':Nat}
  (h:sfP w e i r d a n cap e' i' r' d' a' n' cap' W):Bl w W:=h.2.2.2.2.2.2.2.2.2.2.1
def pf(w:Wd)(e:Bool)(i:Nat)(r:Bool)(d:Int)(a:Option Addr)(n cap:Nat)(b:Bool)(j:Nat)(c:Bool)(k:Int)(p:Option Addr)(t s:Nat)(f:((e==b)&&(r==c))=false\/((e==b)&&(r==c))=true/\((i:Int)==(j:Int))=false\/((e==b)&&(r==c))=true/\((i:Int)==(j:Int))=true/\(d==k)=false):ce 191 #[frV e i r d a n cap,frV b j c k p t s] w fun o w'=>o=rT (bO false)/\Bl w w':=by
 rcases f with f|⟨f,hi⟩|⟨f,hi,hd⟩
 all_goals
  have x:=fun w=>AN w e r b c;rw[f]at x;clear f;have A:=oh;go_enter func191,ntmps191;go_wp2;refine Qu (S:=(sfP w e i r d a n cap b j c k p t s)) kr ?_;have hS:=Gl w e i r d a n cap b j c k p t s;refine tk 0 ?_;refine tk 2 ?_;refine al 1 fun K g=>?_;go_simp;refine(jn _ _ _ _ _ _ _ _).mono ?_;rintro o y ⟨rfl,rfl⟩;go_wp2_with fail;refine g.out _ _ (nU _ _ _ _ _ _ _ _ _ _ _ _ _ _ _ _ _ (nU _ _ _ _ _ _ _ _ _ _ _ _ _ _ _ _ _ hS)) (fun h=>?_);clear hS g K;have hS:=h;clear h;refine al 3 fun K g=>?_;go_simp;refine(jn _ _ _ _ _ _ _ _).mono ?_;rintro o y ⟨rfl,rfl⟩;go_wp2_with fail;refine g.out _ _ (nU _ _ _ _ _ _ _ _ _ _ _ _ _ _ _ _ _ (nU _ _ _ _ _ _ _ _ _ _ _ _ _ _ _ _ _ hS)) (fun h=>?_);clear hS g K;have hS:=h;clear h;refine tk 4 ?_;refine tk 5 ?_;first|refine tk 6 ?_|refine tn 6 ?_
  first|refine tk 7 ?_|refine tn 7 ?_
  first|refine tk 8 ?_|refine tn 8 ?_
  first|refine tk 9 ?_|refine tn 9 ?_
  first|refine tk 10 ?_|refine tn 10 ?_
  refine tk 11 ?_;refine tk 12 ?_;first|refine tk 13 ?_|refine tn 13 ?_
  first|refine tk 14 ?_|refine tn 14 ?_
  first|refine tk 15 ?_|refine tn 15 ?_
  first|refine tk 16 ?_|refine tn 16 ?_
  first|refine tk 17 ?_|refine tn 17 ?_
  refine tk 18 ?_;refine tk 19 ?_;refine tn 20 ?_;refine tn 21 ?_;refine tn 22 ?_;refine tn 23 ?_;refine tn 24 ?_;refine tk 25 ?_;refine tk 26 ?_;have u:=hS.2.2.2.2.2.2.2.2.2.2.1;refine Qs kr ?_ _;clear hS;go_wp2;go_ret;exact⟨rfl,u⟩
def Eo(w:Wd)(e:Bool)(i:Nat)(r:Bool)(d:Int)(a:Option Addr)(n cap:Nat)(l:List Nat)(h:iB w a n cap l)
  (b:Option Addr) (f c:Nat) (l':List Nat) (g:iB w b f c l') :
  ce 191 #[frV e i r d a n cap,frV e i r d b f c] w fun o w'=>o=rT (bO (decide (l=l')))/\Bl w w':=by
 have j:=hI h;have k:=hI g;clear h g;have hd:(d==d)=true:=pQ;have hi:((i:Int)==(i:Int))=true:=pQ;have s:=fun w=>AN w e r e r;have t:((e==e)&&(r==r))=true:=pQ;rw[t]at s;have x:=oh;go_enter func191,ntmps191;go_wp2;go_region_held3 (sfP w e i r d a n cap e i r d b f c) (first|exact Gl w e i r d a n cap e i r d b f c|exact nU _ _ _ _ _ _ _ _ _ _ _ _ _ _ _ _ _ (nU _ _ _ _ _ _ _ _ _ _ _ _ _ _ _ _ _ (by assumption))|assumption) (first|(go_at_call 228;refine(jn _ _ _ _ _ _ _ _).mono ?_;rintro o u ⟨rfl,rfl⟩)|(go_at_call 229;refine(xK _ _ _ _ _ _ _ l l' ?_ ?_).mono ?_;exact j.o.below (mD (by assumption));exact k.o.below (mD (by assumption));rintro o u ⟨rfl,rfl⟩))
 rename_i hS;have p:=mD hS;clear hS;go_wp2;go_ret;exact⟨rfl,p⟩
def lH(w:Wd)(e:Bool)(i:Nat)(r:Bool)(d:Int)(a:Option Addr)(n cap:Nat)(l:List Nat)(h:iB w a n cap l)
  (c:Bool) (g:Nat) (j:Bool) (b:Int) (k:Option Addr) (s p:Nat) (l':List Nat) (y:iB w k s p l') :
  ce 191 #[frV e i r d a n cap,frV c g j b k s p] w fun o w'=>o=rT (bO ((e==c)&&(r==j)&&((i:Int)==(g:Int))&&(d==b)&&decide (l=l')))/\Bl w w':=by
 cases hh:((e==c)&&(r==j))
 .refine (pf w e i r d a n cap c g j b k s p (qp hh)).mono ?_;rintro o w' ⟨rfl,f⟩;exact⟨rfl,f⟩
 .cases hi:((i:Int)==(g:Int))
  .refine (pf w e i r d a n cap c g j b k s p (qt (qp ⟨hh,hi⟩))).mono ?_;rintro o w' ⟨rfl,f⟩;exact⟨rfl,f⟩
  .cases hd:(d==b)
   .refine (pf w e i r d a n cap c g j b k s p (qt (qt ⟨hh,hi,hd⟩))).mono ?_;rintro o w' ⟨rfl,f⟩;exact⟨rfl,f⟩
   .have e1:e=c:=by simp at hh;exact hh.1
    have t:r=j:=by simp at hh;exact hh.2
    have u:i=g:=by simp at hi;omega
    have x:d=b:=by simpa using hd
    subst e1 t u x;refine(Eo w e i r d a n cap l h k s p l' y).mono ?_;rintro o w' ⟨rfl,f⟩;exact⟨pQ,f⟩
def yu(e:Bool)(i:Nat)(r:Bool)(d:Int)(n:Nat)(s:Nat)(g:Int)(k:Nat)(l l':List Nat)
  (p:(if(536870911:Int)<(i:Int)then(536870911:Int)else(i:Int))=(s:Int)) (j:(if(15:Int)<(if d<0 then 0 else d)then(15:Int)else(if d<0 then 0 else d))=g) (c:dl (r&&((n:Int)==0)) g=(k:Int))
  (h1:n=k->l'=l) (t:n≠k->l'≠l) :
  ((e==(e||decide ((2047:Int)<(i:Int))))&&(r==(r&&((n:Int)==0)))&&((i:Int)==(s:Int))&&(d==g)&&decide (l=l'))=vB e i r d n:=by
 have x:decide (l=l')=decide (n=k):=by
  by_cases h:n=k
  .rw[h1 h];simp[h]
  .have:=t h;simp only[h,decide_false,decide_eq_false_iff_not];exact fun e=>this e.symm
 rw[x];unfold vB;rw[Q0];simp only[Q3,beq_iff_eq,qQ];by_cases hd:0<=d/\d<=15
 .have hdd:g=d:=by
   rw[<- j];have a1:¬d<0:=om;have a2:¬(15:Int)<d:=om;simp[a1,a2]
  rw[hdd]at c;rw[hdd];by_cases hi:(536870911:Int)<(i:Int)
  .rw[QW hi]at p;constructor
   .rintro⟨⟨⟨⟨_,_⟩,h3⟩,_⟩,_⟩;omega
   .rintro⟨⟨⟨h3,_⟩,_⟩,_⟩;exfalso;cases e
    .simp at h3;omega
    .simp at h3;omega
  .rw[QV hi]at p;cases e
   .cases r
    .have hkk:dl false d=(k:Int):=c;simp;rw[hkk];omega
    .have hkk:dl ((n:Int)==0) d=(k:Int):=by simpa using c
     by_cases f:n=0
     .subst f;have b:dl true d=0:=by simp[dl]
      have u:dl true d=(k:Int):=by simpa using hkk
      simp[b];omega
     .have b:dl true d=0:=by simp[dl]
      simp[b,f]
   .cases r
    .have hkk:dl false d=(k:Int):=c;simp;rw[hkk];omega
    .have hkk:dl ((n:Int)==0) d=(k:Int):=by simpa using c
     by_cases f:n=0
     .subst f;have b:dl true d=0:=by simp[dl]
      have u:dl true d=(k:Int):=by simpa using hkk
      simp[b];omega
     .have b:dl true d=0:=by simp[dl]
      simp[b,f]
 .constructor
  .rintro⟨⟨_,h4⟩,_⟩;exfalso;rw[<- j]at h4;split at h4
   .omega
   .split at h4<;>omega
  .rintro⟨⟨⟨_,h4⟩,h5⟩,_⟩;exact Qj ⟨h4,h5⟩ hd
def FU(w W W':Wd)(e:Bool)(i:Nat)(r:Bool)(d:Int)(a:Option Addr)(n cap:Nat)(h:W.cell? ⟨w.heap.size,0,nn⟩=sQ (bO e)/\W.cell? ⟨w.heap.size,1,nn⟩=sQ (I Zk (i:Int))/\W.cell? ⟨w.heap.size,2,nn⟩=sQ (bO r)/\W.cell? ⟨w.heap.size,3,nn⟩=sQ (I J d)/\W.cell? ⟨w.heap.size,4,nn⟩=sQ (sL a n cap)/\Bl w W/\w.heap.size<W.heap.size)(b:Bl W W'):(fun W=>W.cell? ⟨w.heap.size,0,nn⟩=sQ (bO e)/\W.cell? ⟨w.heap.size,1,nn⟩=sQ (I Zk (i:Int))/\W.cell? ⟨w.heap.size,2,nn⟩=sQ (bO r)/\W.cell? ⟨w.heap.size,3,nn⟩=sQ (I J d)/\W.cell? ⟨w.heap.size,4,nn⟩=sQ (sL a n cap)/\Bl w W/\w.heap.size<W.heap.size) W':=by
 obtain⟨h0,h1,f,g,j,k,c⟩:=h;exact⟨(b.cell (by exact c)).trans h0,(b.cell (by exact c)).trans h1,(b.cell (by exact c)).trans f,(b.cell (by exact c)).trans g,(b.cell (by exact c)).trans j,k.trans (b.mono om),nL c b.size⟩
def Hs(w:Wd)(e:Bool)(i:Nat)(r:Bool)(d:Int)(a:Option Addr)(n cap:Nat):(fun W=>W.cell? ⟨w.heap.size,0,nn⟩=sQ (bO e)/\W.cell? ⟨w.heap.size,1,nn⟩=sQ (I Zk (i:Int))/\W.cell? ⟨w.heap.size,2,nn⟩=sQ (bO r)/\W.cell? ⟨w.heap.size,3,nn⟩=sQ (I J d)/\W.cell? ⟨w.heap.size,4,nn⟩=sQ (sL a n cap)/\Bl w W/\w.heap.size<W.heap.size) (w.alloc (frC e i r d a n cap 53)).drew:=by
 refine⟨?_,?_,?_,?_,?_,Zw.drew,pQ⟩<;>go_simp
def lz(h:W.cell? ⟨w.heap.size,0,nn⟩=sQ (bO e)/\W.cell? ⟨w.heap.size,1,nn⟩=sQ (I Zk (i:Int))/\W.cell? ⟨w.heap.size,2,nn⟩=sQ (bO r)/\W.cell? ⟨w.heap.size,3,nn⟩=sQ (I J d)/\W.cell? ⟨w.heap.size,4,nn⟩=sQ (sL a n cap)/\Bl w W/\w.heap.size<W.heap.size):Bl w W:=h.2.2.2.2.2.1
def dU(w:Wd)(e:Bool)(i:Nat)(r:Bool)(d:Int)(a:Option Addr)(n cap:Nat)(l:List Nat)(h:iB w a n cap l):ce 186 #[frV e i r d a n cap] w fun o w'=>o=rT (bO (vB e i r d n))/\Bl w w':=by
 obtain⟨c,p⟩:∃c:Nat,(if(536870911:Int)<(i:Int)then(536870911:Int)else(i:Int))=(c:Int):=by
  split
  .exact⟨536870911,rfl⟩
  .exact⟨i,rfl⟩
 obtain⟨b,f⟩:∃b:Int,(if(15:Int)<(if d<0 then 0 else d)then(15:Int)else(if d<0 then 0 else d))=b:=⟨_,rfl⟩
 have C:0<=b:=by rw[<- f];split<;>(try split)<;>omega
 have N:=oo (r&&((n:Int)==0)) b C;obtain⟨k,s⟩:∃k:Nat,dl (r&&((n:Int)==0)) b=(k:Int):=⟨(dl (r&&((n:Int)==0)) b).toNat,om⟩
 have D:k<=8:=om;have E:Hid (∀W:Wd,iB W a n cap l->ce 223 #[frV e i r d a n cap] W fun o w'=>∃g t j l',o=rT (frV (e||decide ((2047:Int)<(i:Int))) c (r&&((n:Int)==0)) b g t j)/\iB w' g t j l'/\Bl W w'/\(n=k->l'=l)/\(n≠k->l'≠l)):=
  fun W K=>uJ W e i r d a n cap l K c b k p f s D
 have G:Hid (∀l',(n=k->l'=l)->(n≠k->l'≠l)->((e==(e||decide ((2047:Int)<(i:Int))))&&(r==(r&&((n:Int)==0)))&&((i:Int)==(c:Int))&&(d==b)&&decide (l=l'))=vB e i r d n):=
  fun l' h1 H=>yu e i r d n c b k l l' p f s h1 H
 have x:=hI h;clear h p f s D N C;generalize (e||decide ((2047:Int)<(i:Int)))=O at*;generalize (r&&((n:Int)==0))=R at*;go_enter func186,ntmps186;go_wp2;go_region_held3 (fun W=>W.cell? ⟨w.heap.size,0,nn⟩=sQ (bO e)/\W.cell? ⟨w.heap.size,1,nn⟩=sQ (I Zk (i:Int))/\W.cell? ⟨w.heap.size,2,nn⟩=sQ (bO r)/\W.cell? ⟨w.heap.size,3,nn⟩=sQ (I J d)/\W.cell? ⟨w.heap.size,4,nn⟩=sQ (sL a n cap)/\Bl w W/\w.heap.size<W.heap.size) (first|exact Hs w e i r d a n cap|exact FU _ _ _ _ _ _ _ _ _ _ (by assumption) (by assumption)|assumption) (first|(go_at_call 223;refine(E.o _ (x.o.below (lz (by assumption)))).mono ?_;rintro o S ⟨g,t,j,l',rfl,M,P,y,A⟩;have u:Hid ((n=k->l'=l)/\(n≠k->l'≠l)):=⟨y,A⟩;clear y A)|(go_at_call 191;refine(lH _ _ _ _ _ _ _ _ l (x.o.below (lz (by assumption))) _ _ _ _ _ _ _ l' M).mono ?_;rw[G.o l' u.o.1 u.o.2];rintro o T ⟨rfl,Q⟩))
 rename_i hS;have L:=lz hS;clear hS;go_wp2;go_ret;exact⟨rfl,L⟩
end
end Go.Proofs.YtbbffcolnddcdaaGreatDoor
