import Derived.Test.YtbbffcolnddcdaaGreatDoorK11
import Derived.Laws.IdiomStrings
import Derived.Test.YtbbffcolnddcdaaGreatDoorK05
import Derived.Deep.RegionWith
namespace Go.Proofs.YtbbffcolnddcdaaGreatDoor
open Go.Proofs.Tryz
open Option renaming none->nn,some->sQ
open Go renaming World->Wd
set_option maxRecDepth 20000
open Go.RowKit
set_option linter.all false
set_option maxHeartbeats 16000000
open Go.Value renaming int->I,slice->sL,bool->bO,pointer->pT,agg->aG
open Go.IntKind renaming i64->J
open Go.Ending renaming returned->rT
open Go.Proofs.Tryz renaming prog->Tp
section
variable{W W':Wd}{b i n:Nat}{e r:Bool}{d:Int}
namespace M
def num(v:Nat):Nat->List Nat
 |0=>[]
 |n+1=>num (v / 2) n++[48+v%2]
def EI(n v:Nat):(num v n).length=n:=by
 induction n generalizing v with
 |zero=>rfl
 |succ n ih=>simp[num,ih]
def Hr(n v:Nat):∀x∈num v n,isL x:=by
 induction n generalizing v with
 |zero=>intro x a;cases a
 |succ n ih=>
  intro x a;simp only[num,qw,Qe]at a;rcases a with a|rfl
  .exact ih _ x a
  .unfold isL;omega
def FP(b v:Nat):∀a,num v (a+b)=num (v / 2 ^ b) a++num v b:=by
 induction b generalizing v with
 |zero=>intro a;simp[num]
 |succ b ih=>
  intro a;have c:a+(b+1)=(a+b)+1:=om;have f:v / 2 ^ (b+1)=v / 2 / 2 ^ b:=by rw[qC,Qd,qS]
  rw[c,num,ih,num,f,Q2]
end M
def cy(l m:List Nat):ag l++ag m=ag (l++m):=by
 unfold ag;apply ByteArray.ext;simp
def aW(l:List Nat):(ag l).size=l.length:=by
 unfold ag;simp[ByteArray.size]
def px(n:Nat):∀(v:Nat)(w:Wd),n<=64->v<4611686018427387904 ->
  ce 68 #[I J v,I J n] w fun o w'=>o=rT (.string (ag (M.num v n)))/\w=w':=by
 induction n with
 |zero=>
  intro v w _ j;go_enter func68,ntmps68;go_wp2;go_ret;exact⟨rfl,rfl⟩
 |succ n ih=>
  intro v w p j;have f:=hI ih;clear ih;have l:(ag (M.num (v / 2) n)).size<=64:=by rw[aW,M.EI];omega
  obtain⟨c,g,k,a⟩:∃c:Bool,v%2=c.toNat/\(((v:Int)%2)==1)=c/\Hid (ag (M.num v (n+1))=ag (M.num (v / 2) n)++ag [48+c.toNat]):=by
   rcases Nat.mod_two_eq_zero_or_one v with h|h
   .exact⟨false,h,by simp;omega,by rw[cy,M.num,h];exact rfl⟩
   .exact⟨true,h,by simp;omega,by rw[cy,M.num,h];exact rfl⟩
  clear g;cases c;all_goals
   go_enter func68,ntmps68;go_wp2_with fail;refine(f.o (v / 2) _ om om).mono ?_;rintro o s ⟨rfl,rfl⟩;go_wp2;go_ret;exact⟨cS a.o.symm,rfl⟩
def AG(r:Bool)(w:Wd):ce 113 #[bO r] w fun o w'=>o=rT (.string (ag [48+r.toNat]))/\w=w':=by
 cases r;all_goals
  go_enter func113,ntmps113;go_wp2;go_ret;exact⟨rfl,rfl⟩
def zT(v c m:Nat)(h:m<c):M.num (v / 2 ^ m) (c-m)=M.num (v / 2 ^ (m+1)) (c-(m+1))++[48+v / 2 ^ m%2]:=by
 have e:v / 2 ^ m / 2=v / 2 ^ (m+1):=by
  rw[qS,<- qC]
 have a:c-m=(c-(m+1))+1:=om;rw[a,M.num,e]
def Fy(x m:Nat)(a:x<4294967296):(48+bits BinOp.and IntKind.u32 ((x:Int) / 2 ^ m) 1)%256=((48+x / 2 ^ m%2:Nat):Int):=by
 have e:(x:Int) / 2 ^ m=((x / 2 ^ m:Nat):Int):=pQ;have hy:x / 2 ^ m<4294967296:=zb (Nat.div_le_self _ _) a;rw[e,show(1:Int)=((1:Nat):Int)from rfl,u32_and_nat _ _ hy om,nat_mask1];omega
def df(w:Wd)(B:Nat)(v:Value)(l:List Nat)(x c:Nat)(a:ae w B v l)(hB:B<=w.heap.size)(E:l.length<=10000)(y:x<4294967296)(D:c<=32):ce 310 #[v,I .u32 x,I J c] w fun o w'=>∃j,o=rT j/\ae w' B j (l++M.num x c)/\Below B w w'/\Lib.OthersKept 5 nn w w':=by
 go_enter func310,ntmps310;go_wp2;go_loopw [0,7] (fun v i wr=>∃q:Nat,q<=c/\i=I J ((q:Int)-1)/\ae wr B v (l++M.num (x / 2 ^ q) (c-q))/\Below B w wr/\Lib.OthersKept 5 nn w wr/\B<=wr.heap.size) (fun _ i _=>(intOf i+1).toNat);case atStart=>exact⟨c,nR _,rfl,by simpa[M.num]using a,bW _ _,QG _ _ _,hB⟩
 case round=>
  have p:=hB;clear a hB;obtain⟨q,H,rfl,a,f,h,hB⟩:=hrel;by_cases u:q=0
  .subst u;rw[Nat.sub_zero,Nat.pow_zero,Nat.div_one]at a;go_wp2;go_ret;exact⟨_,rfl,a,f,h⟩
  .obtain⟨m,rfl⟩:∃m,q=m+1:=⟨q-1,om⟩
   have G:(l++M.num (x / 2 ^ (m+1)) (c-(m+1))).length<=20000:=by rw[QX,M.EI];omega
   have k:Hid (l++M.num (x / 2 ^ m) (c-m)=(l++M.num (x / 2 ^ (m+1)) (c-(m+1)))++[48+x / 2 ^ m%2]):=by rw[zT x c m om,Q2];exact rfl
   generalize l++M.num (x / 2 ^ (m+1)) (c-(m+1))=C at*;go_wp2_with(at_builtin;refine oH w wr rfl (.tmp 14) (.tmp 21) rfl B _ C (48+x / 2 ^ m%2) _ (Fy x m y) rfl a rfl om hB f ?_);intro K L t g s;have A:=nT p g.size;clear a f hB;go_wp2;go_roundw;case rel=>exact⟨m,om,by go_num,by rw[k.o];exact t,g,h.trans s,A⟩
   case measure=>simp[intOf]
def fK(e:Bool)(i:Nat)(r:Bool):List Nat:=
 if e=true then M.num (i / 2 ^ 18) 11++[49,49]++M.num i 18++[48+r.toNat]else M.num i 11++[48+r.toNat]++[48]
def zV:M.num 0 1=[48]:=rfl
def DB:M.num 1 1=[49]:=rfl
def Da{p:Array Oper}{rest:List Oper}{o:Oper}{a:Act}{Q:Exit->Act->Wd->Prop}(w0 wr:Wd)(w:o.guard=nn)(s x:Operand)
  (ho:o.op= .call {callee:=.builtin .append,args:=#[s,x],argTypes:=#[33,33]})
  (B:Nat) (v:Value) (l:List Nat) (c d:Nat) (hs:a.eval s=v) (j:ae wr B v l)
  (C:a.eval x=sL (be wr.heap.size) 2 2) (K:l.length<=100000000) (hB:B<=wr.heap.size) (t:Below B w0 wr)
  (h:∀f w',ae w' B f (l++[c,d])->Below B w0 w'->Lib.OthersKept 5 nn wr w'->wpList Tp p Q rest (a.put o.dst f) w') :
  wpList Tp p Q (o::rest) a (wr.alloc (.cells #[I .u8 (c:Int),I .u8 (d:Int)] 5)):=by
 obtain⟨H,hi,D,E,G⟩:=QH info5;refine QM _ w s x 33 ho B 5 H (I .u8 0) 1 1 underlying33 hi D E G rfl (by decide) v l.length (bv l) hs (Qx j _) ⟨wr.heap.size,0,nn⟩ 2 2 [I .u8 (c:Int),I .u8 (d:Int)] C rfl ?_ ?_ ?_ ?_ ?_ ?_
 .exact cell_two_new wr (I .u8 (c:Int)) (I .u8 (d:Int)) 5
 .intro u hu;simp at hu;rcases hu with rfl|rfl<;>rfl
 .unfold maxLen;omega
 .omega
 .simp;omega
 .intro f w' ho' hg _;have A:∀k,v.ownBlock=sQ k->B<=k:=fun k y=>(Qm j k y).1;refine h f w' ?_ ((t.alloc hB _).grown hg (by simp;omega) A) (((QG 5 nn wr).alloc _).grown hg ?_)
  .have e1:bv (l++[c,d])=bv l++[I .u8 (c:Int),I .u8 (d:Int)]:=by simp[bv]
   unfold ae;rw[e1,QX];exact ho'
  .intro g hg';exact ae.kind (B:=B) (l:=l) (Qx j _) g hg'
def tf{o:Obj}(h:W.heap[b]?=sQ o)(hk:Lib.OthersKept 5 nn W W')(ho:∀c fz,o≠.cells c 5 fz):W'.heap[b]?=sQ o:=hk b o h pQ ho
def AB(e:Bool)(i:Nat)(r:Bool)(d:Int)(a:Option Addr)(n cap:Nat):∀c f,frC e i r d a n cap 53≠.cells c 5 f:=by
 intro c f h;cases h
def cP{a:Option Addr}{cap:Nat}(h:W.heap[b]?=sQ (frC e i r d a n cap 53)):W.cell? ⟨b,0,nn⟩=sQ (bO e)/\W.cell? ⟨b,1,nn⟩=sQ (I .u32 (i:Int))/\W.cell? ⟨b,2,nn⟩=sQ (bO r)/\W.cell? ⟨b,3,nn⟩=sQ (I J d)/\W.cell? ⟨b,4,nn⟩=sQ (sL a n cap):=by
 refine⟨?_,?_,?_,?_,?_⟩<;>simp[World.cell?,h]
def nF(w:Wd)(B:Nat)(v:Value)(l:List Nat)(K:ae w B v l)(hB:B<=w.heap.size)(hl:l.length<=1000)
  (e:Bool) (i:Nat) (r:Bool) (d:Int) (a:Option Addr) (n cap:Nat) (hi:i<4294967296) :
  ce 303 #[v,frV e i r d a n cap] w fun o w'=>∃P,o=rT P/\ae w' B P (l++fK e i r)/\Below B w w'/\Lib.OthersKept 5 nn w w':=by
 have L:ae (w.alloc (frC e i r d a n cap 53)) B v l:=Qx K _;have E:=Qy w (frC e i r d a n cap 53);have D:Below B w (w.alloc (frC e i r d a n cap 53)):=(bW _ _).alloc hB _;have H:Lib.OthersKept 5 nn w (w.alloc (frC e i r d a n cap 53)):=(QG 5 nn w).alloc _;have O:B<=(w.alloc (frC e i r d a n cap 53)).heap.size:=by simp;omega
 have c:=hI (qB L (qB E (qB D (qB H O))));clear L E D H O K;cases e
 .cases r;all_goals
   go_enter func303,ntmps303;go_wp2_with fail;refine(df _ B v l i 11 c.o.1 c.o.2.2.2.2 om hi om).mono ?_;rintro o A ⟨Q,rfl,u,f,k⟩;go_wp2_with fail;have h:=nT c.o.2.2.2.2 f.size;refine(df _ B Q _ _ 1 u h (by simp[M.EI];omega) (by decide) om).mono ?_;rintro o C ⟨R,rfl,x,g,p⟩;have s:=nT h g.size;go_wp2_with(at_builtin;refine oH C C rfl (.tmp 18) (.tmp 19) rfl B _ _ 48 _ rfl rfl x rfl (by simp[M.EI];omega) s (bW _ _) ?_);intro S w4 y j t;go_wp2;go_ret;refine⟨_,rfl,?_,c.o.2.2.1.trans (f.trans (g.trans j)),c.o.2.2.2.1.trans (k.trans (p.trans t))⟩;simpa[fK,zV,DB]using y
 .cases r;all_goals
   have G:((i:Int) / 262144)=((i / 2 ^ 18:Nat):Int):=om;have T:=hI G;clear G;go_enter func303,ntmps303;go_wp2_with fail;rw[T.o];refine(df _ B v l (i / 2 ^ 18) 11 c.o.1 c.o.2.2.2.2 om om om).mono ?_;rintro o A ⟨Q,rfl,u,f,k⟩;have h:=nT c.o.2.2.2.2 f.size;have N:=tf c.o.2.1 k (AB _ _ _ _ _ _ _);go_wp2_with(at_builtin;refine Da A A rfl (.tmp 26) (.tmp 27) rfl B _ _ 49 49 rfl u rfl (by simp[M.EI];omega) h (bW _ _) ?_);intro R C x g p;have s:=nT h g.size;have Z:=cP (tf N p (AB _ _ _ _ _ _ _));clear N;go_wp2_with fail;refine(df _ B R _ i 18 x s (by simp[M.EI];omega) hi om).mono ?_;rintro o w4 ⟨S,rfl,y,j,t⟩;have a0:=nT s j.size;clear Z;go_wp2_with fail;refine(df _ B S _ _ 1 y a0 (by simp[M.EI];omega) (by decide) om).mono ?_;rintro o w5 ⟨v5,rfl,Y,U,X⟩;go_wp2;go_ret;refine⟨_,rfl,?_,c.o.2.2.1.trans (f.trans (g.trans (j.trans U))),c.o.2.2.2.1.trans (k.trans (p.trans (t.trans X)))⟩;simpa[fK,zV,DB]using Y
def aK(e:Bool)(i:Nat)(r:Bool)(d:Nat)(l:List Nat):List Nat:=
 [48]++fK e i r++M.num 0 (1+e.toNat)++M.num d 4++l.flatMap (fun x=>M.num x 8)
def dM(e:Bool)(i:Nat)(r:Bool)(d:Nat)(l:List Nat):(aK e i r d l).length=(if e=true then 39 else 19)+8*l.length:=by
 have h8:(l.flatMap (fun x=>M.num x 8)).length=8*l.length:=by
  induction l with
  |nil=>rfl
  |cons a l ih=>rw[qD,QX,ih,M.EI,qV];omega
 cases e<;>simp[aK,fK,M.EI,h8]<;>omega
def gG(e:Bool)(i:Nat)(r:Bool)(d:Nat)(l:List Nat):∀x∈aK e i r d l,M.isL x:=by
 have c:∀x,x=48+r.toNat->M.isL x:=by intro x a;subst a;cases r;exact .inl rfl;exact .inr rfl
 have h0:M.isL 48:=.inl rfl;have h1:M.isL 49:=.inr rfl;intro x a;cases e
 .simp only[aK,fK,qw,List.mem_flatMap,Qe,qH,if_false]at a;rcases a with(((rfl|(a|a)|a)|a)|a)|⟨y,_,a⟩
  .exact h0
  .exact M.Hr _ _ x a
  .exact c x a
  .subst a;exact h0
  .exact M.Hr _ _ x a
  .exact M.Hr _ _ x a
  .exact M.Hr _ _ x a
 .simp only[aK,fK,qw,List.mem_flatMap,Qh,Q8,or_false,if_true]at a;rcases a with(((rfl|(((a|a)|a)|a))|a)|a)|⟨y,_,a⟩
  .exact h0
  .exact M.Hr _ _ x a
  .rcases a with rfl|rfl<;>exact h1
  .exact M.Hr _ _ x a
  .exact c x a
  .exact M.Hr _ _ x a
  .exact M.Hr _ _ x a
  .exact M.Hr _ _ x a
def eW{B:Nat}{o:Obj}(h:W.heap[b]?=sQ o)(hb:Below B W W')(hB:b<B):W'.heap[b]?=sQ o:=(hb.block b hB).trans h
def kK(e:Bool)(i:Nat)(r:Bool)(d:Int)(n:Nat)(l:List Nat):ByteArray:=if vB e i r d n=true then ag (aK e i r d.toNat l)else⟨#[]⟩
def cW(h:vB e i r d n=true):i<536870912/\(e=false->i<2048)/\0<=d/\d<=15/\n<=8:=by
 unfold vB at h;simp only[Q3,qQ,beq_iff_eq]at h;obtain⟨⟨⟨h1,a⟩,c⟩,f⟩:=h;have g:=oo r d a;refine⟨?_,?_,a,c,om⟩
 .cases e<;>simp at h1<;>omega
 .intro he;subst he;simpa using h1
def xE(l:List Nat)(k:Nat)(h:k<l.length)(p:List Nat):p++(l.take (k+1)).flatMap (fun x=>M.num x 8)=p++(l.take k).flatMap (fun x=>M.num x 8)++M.num l[k] 8:=by
 rw[M.Hp l k h,List.flatMap_append,Q2];simp
def xG(l:List Nat):(l.flatMap (fun x=>M.num x 8)).length=8*l.length:=by
 induction l with
 |nil=>rfl
 |cons a l ih=>rw[qD,QX,ih,M.EI,qV];omega
def j3(v n:Nat)(w:Wd)(hn:n<=64)(hv:v<4611686018427387904):ce 68 #[I J v,I J n] w fun o w'=>o=rT (.string (ag (M.num v n)))/\w'=w:=
 (px n v w hn hv).mono fun _ _ h=>⟨h.1,h.2.symm⟩
def mo(r:Bool)(w:Wd):ce 113 #[bO r] w fun o w'=>o=rT (.string (ag [48+r.toNat]))/\w'=w:=
 (AG r w).mono fun _ _ h=>⟨h.1,h.2.symm⟩
def nP(l:List Nat)(k:Nat):(ag l).extract 0 k=ag (l.take k):=by
 unfold ag;apply ByteArray.ext;simp[ByteArray.data_extract]
def wH(l:List Nat)(k m:Nat)(h:m=l.length):(ag l).extract k m=ag (l.drop k):=by
 subst h;unfold ag;apply ByteArray.ext;simp[ByteArray.data_extract];exact QY pQ
def EH(v:Nat)(w:Wd)(hv:v<4611686018427387904):ce 68 #[I J (v:Int),I J 4] w fun o w'=>o=rT (.string (ag (M.num v 4)))/\w'=w:=j3 v 4 w om hv
def EG(v:Nat)(w:Wd)(hv:v<4611686018427387904):ce 68 #[I J (v:Int),I J 8] w fun o w'=>o=rT (.string (ag (M.num v 8)))/\w'=w:=j3 v 8 w om hv
def Cd(v:Nat)(w:Wd)(hv:v<4611686018427387904):ce 68 #[I J (v:Int),I J 11] w fun o w'=>o=rT (.string (ag (M.num v 11)))/\w'=w:=j3 v 11 w om hv
def Ce(v:Nat)(w:Wd)(hv:v<4611686018427387904):ce 68 #[I J (v:Int),I J 29] w fun o w'=>o=rT (.string (ag (M.num v 29)))/\w=w':=px 29 v w om hv
def GB:M.num 0 2=[48,48]:=rfl
def ud(i:Nat):(M.num i 29).take 11=M.num (i / 2 ^ 18) 11:=by
 rw[show(29:Nat)=11+18 from rfl,M.FP 18 i 11,Qb (by rw[M.EI];omega),QY (by rw[M.EI];omega)]
def ue(i:Nat):(M.num i 29).drop 11=M.num i 18:=by
 rw[show(29:Nat)=11+18 from rfl,M.FP 18 i 11,List.drop_append_of_le_length (by rw[M.EI];omega),qo (by rw[M.EI];omega),List.nil_append]
def b48:({data:=#[48]}:ByteArray)=ag [48]:=rfl
def b49:({data:=#[49]}:ByteArray)=ag [49]:=rfl
def Hi:({data:=#[48,48]}:ByteArray)=ag [48,48]:=rfl
def rP(w:Wd)(e:Bool)(i:Nat)(r:Bool)(c:Nat)(a:Option Addr)(n cap:Nat)(l:List Nat)(h:iB w a n cap l)(D:vB e i r (c:Int) n=true):ce 66 #[frV e i r (c:Int) a n cap] w fun o w'=>o=rT (.string (ag (aK e i r c l)))/\Bl w w':=by
 obtain⟨hi,S,_,a1,a5⟩:=cW D;have K:=hI D;have H:=hI h;have L:Bl w (w.alloc (frC e i r (c:Int) a n cap 53)):=Zw;have y:Hid (Bl w (w.alloc (frC e i r (c:Int) a n cap 53))/\(w.alloc (frC e i r (c:Int) a n cap 53)).heap[w.heap.size]?=sQ (frC e i r (c:Int) a n cap 53)):=⟨L,Qy w _⟩
 clear D h L S;cases e;case' false=>
  go_enter func66,ntmps66;go_wp2_with fail;refine(aX _ _ i r (c:Int) a n cap).mono ?_;rw[K.o];rintro o E ⟨rfl,j⟩;have t:=y.o.1.trans (j.mono pQ);have v:=eW y.o.2 j pQ;have R:=cP v;have p:=hI (H.o.below t);clear j v;have X:(ag (M.num i 11)).size<=11:=by rw[aW,M.EI];omega
  have C:(ag [48+r.toNat]).size<=1:=by rw[aW];simp
  go_wp2_with fail;go_quiet (first|(go_at_call 68;exact Calls.quiet_of_same (Cd i _ om))|(go_at_call 113;exact Calls.quiet_of_same (mo r _)));go_wp2_with fail;have u:({data:=#[48]}++ag (M.num i 11)++ag [48+r.toNat]++{data:=#[48]}++{data:=#[48]}:ByteArray)=ag ([48]++M.num i 11++[48+r.toNat]++[48]++[48]):=by
   rw[b48];simp only[cy]
  rw[u];have A:Hid (aK false i r c l=[48]++M.num i 11++[48+r.toNat]++[48]++[48]++M.num c 4++l.flatMap (fun x=>M.num x 8)):=by
   simp[Hid,aK,fK,zV]
  have U:([48]++M.num i 11++[48+r.toNat]++[48]++[48]++M.num c 4).length<=100:=by simp[M.EI]
  have Z:(ag ([48]++M.num i 11++[48+r.toNat]++[48]++[48])).size<=100:=by rw[aW];simp[M.EI]
  have a0:(ag (M.num c 4)).size<=4:=by rw[aW,M.EI];omega
  have G:Hid (ag ([48]++M.num i 11++[48+r.toNat]++[48]++[48])++ag (M.num c 4)=ag ([48]++M.num i 11++[48+r.toNat]++[48]++[48]++M.num c 4)):=cy _ _;clear u X C;generalize [48]++M.num i 11++[48+r.toNat]++[48]++[48]++M.num c 4=f at*;generalize ag ([48]++M.num i 11++[48+r.toNat]++[48]++[48])=N at*
 case' true=>
  go_enter func66,ntmps66;go_wp2_with fail;refine(aX _ _ i r (c:Int) a n cap).mono ?_;rw[K.o];rintro o E ⟨rfl,j⟩;have t:=y.o.1.trans (j.mono pQ);have v:=eW y.o.2 j pQ;have R:=cP v;have p:=hI (H.o.below t);clear j v;have Y:(ag (M.num i 29)).size=29:=by rw[aW,M.EI]
  have C:(ag [48+r.toNat]).size<=1:=by rw[aW];simp
  go_wp2_with(go_at_call 68;refine(Ce i _ om).mono ?_;rintro o w7 ⟨rfl,rfl⟩);go_quiet (first|(go_at_call 113;exact Calls.quiet_of_same (mo r _)));go_wp2_with fail;have u:({data:=#[48]}++(ag (M.num i 29)).extract 0 11++{data:=#[49]}++{data:=#[49]}++(ag (M.num i 29)).extract 11 29++ag [48+r.toNat]++{data:=#[48,48]}:ByteArray)=ag ([48]++M.num (i / 2 ^ 18) 11++[49]++[49]++M.num i 18++[48+r.toNat]++[48,48]):=by
   rw[b48,b49,Hi,nP,wH _ 11 29 (by rw[M.EI]),ud,ue];simp only[cy]
  rw[u];have A:Hid (aK true i r c l=[48]++M.num (i / 2 ^ 18) 11++[49]++[49]++M.num i 18++[48+r.toNat]++[48,48]++M.num c 4++l.flatMap (fun x=>M.num x 8)):=by
   simp[Hid,aK,fK,GB]
  have U:([48]++M.num (i / 2 ^ 18) 11++[49]++[49]++M.num i 18++[48+r.toNat]++[48,48]++M.num c 4).length<=100:=by simp[M.EI]
  have Z:(ag ([48]++M.num (i / 2 ^ 18) 11++[49]++[49]++M.num i 18++[48+r.toNat]++[48,48])).size<=100:=by rw[aW];simp[M.EI]
  have a0:(ag (M.num c 4)).size<=4:=by rw[aW,M.EI];omega
  have G:Hid (ag ([48]++M.num (i / 2 ^ 18) 11++[49]++[49]++M.num i 18++[48+r.toNat]++[48,48])++ag (M.num c 4)=ag ([48]++M.num (i / 2 ^ 18) 11++[49]++[49]++M.num i 18++[48+r.toNat]++[48,48]++M.num c 4)):=cy _ _;clear u Y C;generalize [48]++M.num (i / 2 ^ 18) 11++[49]++[49]++M.num i 18++[48+r.toNat]++[48,48]++M.num c 4=f at*;generalize ag ([48]++M.num (i / 2 ^ 18) 11++[49]++[49]++M.num i 18++[48+r.toNat]++[48,48])=N at*
 all_goals
  refine(EH c _ om).mono ?_;rintro o w2 ⟨rfl,rfl⟩;go_wp2_with fail;rw[G.o];by_cases B:l=[]
  .have hn0:n=0:=by have:=p.o.len;rw[B]at this;simpa using this
   subst hn0 B;go_loopw [3,5] (fun s idx wr=>idx=I J 0/\s= .string (ag f)/\wr=E.drewN nq) (fun _ _ _=>0);case atStart=>exact⟨rfl,rfl,rfl⟩
   case round=>
    obtain⟨rfl,rfl,rfl⟩:=hrel;go_wp2;go_ret;exact⟨cS (by rw[A.o];simp),QB t nq⟩
  .obtain⟨g,off,rfl,hcl⟩:=p.o.cells B;have T:=p.o.len;have a3:n<=l.length:=om;have a4:l.length<=n:=om;have Q:=hI p.o.small;clear T;go_loopw [3,5] (fun s idx wr=>∃k:Nat,k<=n/\idx=I J k/\s= .string (ag (f++(l.take k).flatMap (fun x=>M.num x 8)))/\wr=E.drewN nq) (fun _ idx _=>n-(intOf idx).toNat);case atStart=>exact⟨0,nZ _,rfl,pQ,rfl⟩
   case round=>
    obtain⟨k,hk,rfl,rfl,rfl⟩:=hrel;by_cases a2:k<n
    .have hc:=hcl k om;have a8:=Q.o l[k] (ql _);have O:Hid (ag (f++(l.take k).flatMap (fun x=>M.num x 8))++ag (M.num l[k] 8)=ag (f++(l.take (k+1)).flatMap (fun x=>M.num x 8))):=by rw[xE l k om f,cy];exact rfl
     have a6:(ag (f++(l.take k).flatMap (fun x=>M.num x 8))).size<=1000:=by rw[aW,QX,xG,qh];omega
     generalize l[k]=x at*;have a7:(ag (M.num x 8)).size<=8:=by rw[aW,M.EI];omega
     generalize ag (f++(l.take k).flatMap (fun x=>M.num x 8))=N at*;go_wp2_with(go_at_call 68;refine(EG x _ om).mono ?_;rintro o w7 ⟨rfl,rfl⟩);go_roundw;case rel=>exact⟨k+1,om,by go_num,by rw[<- O.o],by first|rfl|trivial⟩
     case measure=>simp[intOf];omega
    .have hke:l.take k=l:=QY om;have P:=hI hke;clear hke;go_wp2;go_ret;exact⟨cS (by rw[A.o,P.o]),QB t nq⟩
def jx(w:Wd)(e:Bool)(i:Nat)(r:Bool)(d:Int)(a:Option Addr)(n cap:Nat)(l:List Nat)(h:iB w a n cap l):ce 66 #[frV e i r d a n cap] w fun o w'=>o=rT (.string (kK e i r d n l))/\Bl w w':=by
 by_cases c:vB e i r d n=true
 .obtain⟨_,_,hd0,_,_⟩:=cW c;obtain⟨j,rfl⟩:=Int.eq_ofNat_of_zero_le hd0;refine(rP w e i r j a n cap l h c).mono ?_;rintro o w' ⟨rfl,k⟩;exact⟨cS (by simp[kK,c]),k⟩
 .have hv':vB e i r d n=false:=by simpa using c
  have g:Hid (kK e i r d n l=⟨#[]⟩):=by simp[kK,hv',Hid]
  have f:=hI hv';clear c hv' h;go_enter func66,ntmps66;go_wp2_with(go_at_call 65;refine(aX _ e i r d a n cap).mono ?_;rw[f.o];rintro o s ⟨rfl,p⟩);go_ret;exact⟨cS g.o.symm,Zw.trans (p.mono pQ)⟩
def ia(e:Bool)(i:Nat)(r:Bool)(d:Int)(n:Nat):ByteArray:=if vB e i r d n=true then ag (fK e i r)else⟨#[]⟩
def Bf(e:Bool)(i:Nat)(r:Bool):∀x∈fK e i r,M.isL x:=fun x hx=>gG e i r 0 [] x (by unfold aK;simp[hx])
def iO(w:Wd)(B:Nat):ae w B (sL nn 0 0) []:=QQ w B 5 1
def yP(l:List Nat)(a b:Nat):(ag l).extract a b=ag ((l.drop a).take (b-a)):=by
 unfold ag;apply ByteArray.ext;simp[ByteArray.data_extract,List.map_drop,List.map_take]
def tg(e:Bool)(i:Nat)(r:Bool)(d:Nat)(l:List Nat):((aK e i r d l).drop 1).take (if e=true then 32 else 13)=fK e i r:=by
 have c:(fK e i r).length=if e=true then 32 else 13:=by cases e<;>simp[fK,M.EI]
 have a:aK e i r d l=[48]++(fK e i r++(M.num 0 (1+e.toNat)++M.num d 4++l.flatMap (fun x=>M.num x 8))):=by simp[aK]
 rw[a,<- c];simp
def vZ(w:Wd)(e:Bool)(i:Nat)(r:Bool)(d:Int)(a:Option Addr)(n cap:Nat)(l:List Nat)(h:iB w a n cap l):ce 290 #[frV e i r d a n cap] w fun o w'=>o=rT (.string (ia e i r d n))/\Bl w w':=by
 have t:=hI h;have f:Hid (Bl w (w.alloc (frC e i r d a n cap 53))/\(w.alloc (frC e i r d a n cap 53)).heap[w.heap.size]?=sQ (frC e i r d a n cap 53)):=⟨Zw,Qy w _⟩
 clear h;by_cases c:vB e i r d n=true
 .have hi:=(cW c).1;have k:Hid (ia e i r d n=ag (fK e i r)):=by simp[ia,c,Hid]
  have j:=hI c;clear c;go_enter func290,ntmps290;go_wp2_with fail;refine(dU _ e i r d a n cap l (t.o.below f.o.1)).mono ?_;rw[j.o];rintro o s ⟨rfl,g⟩;have v:=f.o.1.trans (g.mono pQ);have p:=eW f.o.2 g pQ;have B:=QI p;have y:=cP p;clear g p;go_wp2_with fail;refine(nF _ s.heap.size _ [] (iO s _) (nR _) pQ e i r d a n cap om).mono ?_;rintro o D ⟨C,rfl,u,x,_⟩;rw[List.nil_append]at u;have A:=mB u (pK (Bf e i r));generalize fK e i r=al at*;go_wp2;go_ret;exact⟨cS k.o.symm,v.trans (x.mono om)⟩
 .have hv':vB e i r d n=false:=by simpa using c
  have k:Hid (ia e i r d n=⟨#[]⟩):=by simp[ia,hv',Hid]
  have j:=hI hv';clear c hv';go_enter func290,ntmps290;go_wp2_with(go_at_call 186;refine(dU _ e i r d a n cap l (t.o.below f.o.1)).mono ?_;rw[j.o];rintro o s ⟨rfl,g⟩);go_ret;exact⟨cS k.o.symm,f.o.1.trans (g.mono pQ)⟩
def ky(w:Wd)(e:Bool)(i:Nat)(r:Bool)(d:Int)(a:Option Addr)(n cap:Nat)(l:List Nat)(h:iB w a n cap l):ce 203 #[frV e i r d a n cap] w fun o w'=>o=rT (.string (ia e i r d n))/\Bl w w':=by
 have x:=hI h;have k:Hid (Bl w (w.alloc (frC e i r d a n cap 53))/\(w.alloc (frC e i r d a n cap 53)).heap[w.heap.size]?=sQ (frC e i r d a n cap 53)):=⟨Zw,Qy w _⟩
 clear h;by_cases c:vB e i r d n=true
 .have p:Hid (ia e i r d n=ag (fK e i r)):=by simp[ia,c,Hid]
  have v:Hid (kK e i r d n l=ag (aK e i r d.toNat l)):=by simp[kK,c,Hid]
  have j:=hI c;clear c;have A:(if e=true then 33 else 14)<=(ag (aK e i r d.toNat l)).size:=by rw[aW,dM];cases e<;>simp<;>omega
  have s:Hid ((ag (aK e i r d.toNat l)).extract 1 (if e=true then 33 else 14)=ag (fK e i r)):=by
   rw[yP];exact congrArg ag (by cases e;exact tg false i r d.toNat l;exact tg true i r d.toNat l)
  generalize ag (aK e i r d.toNat l)=E at*;cases e;all_goals
   simp only[if_true,qH,if_false]at s A;go_enter func203,ntmps203;go_wp2_with fail;refine(aX _ _ i r d a n cap).mono ?_;rw[j.o];rintro o D ⟨rfl,f⟩;have t:=k.o.1.trans (f.mono pQ);have g:=eW k.o.2 f pQ;have C:=QI g;have y:=hI g;have B:=cP g;clear f g;go_wp2_with fail;refine(jx _ _ i r d a n cap l (x.o.below t)).mono ?_;rw[v.o];rintro o H ⟨rfl,u⟩;have G:=cP (eW y.o u C);clear B;go_wp2;go_ret;exact⟨cS (by rw[p.o,s.o]),t.trans (u.mono om)⟩
 .have hv':vB e i r d n=false:=by simpa using c
  have p:Hid (ia e i r d n=⟨#[]⟩):=by simp[ia,hv',Hid]
  have j:=hI hv';clear c hv';go_enter func203,ntmps203;go_wp2_with(go_at_call 65;refine(aX _ e i r d a n cap).mono ?_;rw[j.o];rintro o D ⟨rfl,f⟩);go_ret;exact⟨cS p.o.symm,k.o.1.trans (f.mono pQ)⟩
end
section
variable{m:Int}{l:List Nat}{w:Wd}{B c:Nat}{v:Value}
namespace M
def dE(r b:Nat):Nat:=if b≠r / 16384 then((2*r)%32768) ^^^ 17817 else(2*r)%32768
def js(l:List Nat):Nat:=l.foldl dE 0
def iq(r b:Nat):dE r b<32768:=by
 unfold dE;split
 .exact Nat.xor_lt_two_pow (n:=15) om (by decide)
 .omega
def CU(l:List Nat):js l<32768:=by
 unfold js;rcases List.eq_nil_or_concat l with rfl|⟨a,b,rfl⟩
 .decide
 .rw[List.concat_eq_append,List.foldl_append];exact iq _ _
def xR(l:List Nat)(b:Nat):js (l++[b])=dE (js l) b:=by
 simp[js,List.foldl_append]
def mb(l:List Nat)(j:Nat):Bool:=l.getD j 0==1
def CF(k:Nat):Bool:=Nat.testBit 50585 (15-k)
def V(l:List Nat)(i j:Nat):Bool:=if j<i then false else mb l j ^^ (decide (j<i+15)&&(js (l.take i)).testBit (14-(j-i)))
def ta(r k:Nat):((2*r)%32768).testBit k=(decide (k<15)&&decide (1<=k)&&r.testBit (k-1)):=by
 rw[show(32768:Nat)=2 ^ 15 from rfl,Nat.testBit_mod_two_pow];cases k with
 |zero=>simp[Nat.testBit_zero]
 |succ k=>
  have:(2*r).testBit (k+1)=r.testBit k:=by rw[Nat.testBit_succ];congr 1;omega
  rw[this];simp
def zv(k:Nat)(h:k<15):Nat.testBit 17817 k=CF (15-k):=by
 revert k h;decide
def Bz(r:Nat)(h:r<32768):r.testBit 14=decide (r / 16384=1):=by
 rw[Nat.testBit_eq_decide_div_mod_eq];congr 1;have:r / 2 ^ 14%2=r / 16384:=by
  rw[show(2:Nat) ^ 14=16384 from rfl];omega
 rw[this]
def FF(l:List Nat)(i:Nat)(a:∀x∈l,x<2)(hi:i<l.length):V l i i=decide (l[i]≠js (l.take i) / 16384):=by
 have d:=CU (l.take i);have h1:l[i]<2:=a _ (ql hi);have b:l.getD i 0=l[i]:=by simp[List.getD,hi]
 simp only[V,qZ,if_false,Nat.sub_self,Nat.sub_zero,Bz _ d,mb,b];generalize js (l.take i)=r at*;generalize l[i]=x at*;have:r / 16384<2:=om;generalize r / 16384=y at*;have e:x=0\/x=1:=om;have hy:y=0\/y=1:=om;rcases e with rfl|rfl<;>rcases hy with rfl|rfl<;>simp
def tE{a:Type}(l:List a)(i:Nat)(h:i<l.length):l.take (i+1)=l.take i++[l[i]]:=by
 rw[qe h]
def It(l:List Nat)(i j:Nat)(n:∀x∈l,x<2)(hi:i<l.length):V l (i+1) j=(V l i j ^^ (V l i i&&(decide (i<=j/\j<i+16)&&CF (j-i)))):=by
 have hs:=FF l i n hi;have p:js (l.take (i+1))=dE (js (l.take i)) l[i]:=by rw[tE l i hi,xR]
 by_cases h1:j<i
 .have b:j<i+1:=om;have a:¬i<=j:=om;simp[V,h1,b,a]
 .by_cases b:j=i
  .subst b;have r:CF 0=true:=by decide
   have t:V l (j+1) j=false:=by simp[V]
   rw[t];simp[r]
  .have a:¬j<i+1:=om;have g:i<=j:=om;rw[hs];by_cases d:j<i+16
   .have h6:14-(j-(i+1))<15:=om;have f:(decide (j<i+1+15))=true:=by simp;omega
    have k:V l (i+1) j=(mb l j ^^ (dE (js (l.take i)) l[i]).testBit (14-(j-(i+1)))):=by
     simp only[V,a,if_false,f,Bool.true_and,p]
    have s:Nat.testBit 17817 (14-(j-(i+1)))=CF (j-i):=by rw[zv _ h6];congr 1;omega
    have h:V l i j=(mb l j ^^ ((2*js (l.take i))%32768).testBit (14-(j-(i+1)))):=by
     rw[ta];simp only[V,h1,if_false];congr 1;by_cases e:j<i+15
     .have a1:=h6;have a2:1<=14-(j-(i+1)):=om;have a3:14-(j-(i+1))-1=14-(j-i):=om;simp only[e,a1,a2,a3,decide_true,Bool.true_and]
     .have a2:¬1<=14-(j-(i+1)):=om;simp only[e,a2,decide_false,Bool.and_false,Bool.false_and]
    rw[k,h];unfold dE;by_cases h8:l[i]≠js (l.take i) / 16384
    .simp only[QW h8,Nat.testBit_xor,s,g,d,decide_true,and_self,Bool.true_and,Bool.xor_assoc];simp[h8]
    .simp only[QV h8];simp[h8]
   .have e2:(decide (j<i+15))=false:=by simp;omega
    simp[V,h1,a,e2,d]
def Is(l:List Nat)(j:Nat):V l 0 j=mb l j:=by simp[V,js]
def Iv(l:List Nat)(k:Nat)(e:k<15):V l l.length (l.length+k)=(js l).testBit (14-k):=by
 have h1:¬l.length+k<l.length:=om;have a:l.length+k<l.length+15:=om;have b:l.length+k-l.length=k:=om;have d:l.getD (l.length+k) 0=0:=by simp[List.getD]
 simp only[V,h1,if_false,mb,d,a,b,decide_true,Bool.true_and,List.take_length];simp
def rA(r k:Nat):Nat:=r / 2 ^ (15-k)
def FJ(r:Nat)(h:r<32768):rA r 0=0:=by unfold rA;exact Nat.div_eq_of_lt h
def FK(r k:Nat)(b:k<15):rA r (k+1)=2*rA r k+(r.testBit (14-k)).toNat:=by
 unfold rA;have e:15-k=(14-k)+1:=om;have a:15-(k+1)=14-k:=om;rw[e,a,qC,<- qS,Nat.testBit_eq_decide_div_mod_eq];generalize r / 2 ^ (14-k)=y;by_cases h:y%2=1
 .simp[h];omega
 .have:y%2=0:=om;simp[this];omega
def FZ(r:Nat):rA r 15=r:=by simp[rA]
def Hn(r k:Nat)(h:r<32768):rA r k<32768:=zb (Nat.div_le_self _ _) h
end M
def okC(c:UInt8):Bool:=c==48||c==49
def okT(s:ByteArray)(m:Int):Bool:=decide ((s.size:Int)<=m)&&s.data.toList.all okC
def jd(s:ByteArray)(k:Nat)(h:k<s.size):s.data.toList.take (k+1)=s.data.toList.take k++[s[k]]:=by
 rw[qe (by simpa using h)];rfl
def zJ{s:ByteArray}(h:¬(s.size:Int)<=m):okT s m=false:=by simp[okT,h]
def BY{s:ByteArray}(h:(s.size:Int)<=m)(k:Nat)(b:s.size<=k)(a:(s.data.toList.take k).all okC=true):okT s m=true:=by
 rw[QY (by simpa using b)]at a;simp[okT,h,a]
def BX{s:ByteArray}(k:Nat)(b:k<s.size)(a:okC s[k]=false):okT s m=false:=by
 have:s.data.toList.all okC=false:=by
  rw[List.all_eq_false];exact⟨s[k],by rw[Array.mem_toList_iff];exact Array.getElem_mem (xs:=s.data) (i:=k) b,by simpa using a⟩
 simp[okT,this]
def vH{s:ByteArray}{k:Nat}(d:k<s.size)(a:(s.data.toList.take k).all okC=true)(b:okC s[k]=true):(s.data.toList.take (k+1)).all okC=true:=by
 rw[jd s k d,List.all_append,a];simp[b]
def zQ(c:UInt8)(h:(c.toNat:Int)=48\/(c.toNat:Int)=49):okC c=true:=by
 unfold okC;rcases h with h|h
 .have:c=48:=UInt8.toNat_inj.1 (by simpa using(by omega:c.toNat=48));simp[this]
 .have:c=49:=UInt8.toNat_inj.1 (by simpa using(by omega:c.toNat=49));simp[this]
def B8(c:UInt8)(h:¬(c.toNat:Int)=48)(d:¬(c.toNat:Int)=49):okC c=false:=by
 unfold okC;have a:(c==48)=false:=by
  rw[beq_eq_false_iff_ne];intro e;subst e;exact h rfl
 have b:(c==49)=false:=by
  rw[beq_eq_false_iff_ne];intro e;subst e;exact d rfl
 simp[a,b]
def pt{c:UInt8}(h:okC c=true):c.toNat=48\/c.toNat=49:=by
 unfold okC at h;simp at h;rcases h with h|h<;>subst h
 .exact .inl rfl
 .exact .inr rfl
def fG(s:ByteArray)(m:Int)(w:Wd)(hs:s.size<=maxLen):ce 64 #[.string s,I J m] w fun e w'=>e=rT (bO (okT s m))/\w=w':=by
 unfold maxLen at hs;by_cases g:(s.size:Int)<=m
 .go_enter func64,ntmps64;go_wp2;go_loop [5] (fun i=>∃k:Nat,k<=s.size/\i=I J k/\(s.data.toList.take k).all okC=true) (fun i=>s.size-(intOf i).toNat)
  case atStart=>exact⟨0,nZ _,rfl,rfl⟩
  case round=>
   obtain⟨k,j,rfl,d⟩:=hrel;have a:=hI d;clear d;by_cases b:k<s.size
   .by_cases h0:(s[k].toNat:Int)=48
    .go_wp2;go_round
     case rel=>exact⟨k+1,om,by go_num,vH b a.o (zQ _ (.inl h0))⟩
     case measure=>simp[intOf];omega
    .by_cases h1:(s[k].toNat:Int)=49
     .go_wp2;go_round
      case rel=>exact⟨k+1,om,by go_num,vH b a.o (zQ _ (.inr h1))⟩
      case measure=>simp[intOf];omega
     .have hb:=BX (m:=m) k b (B8 _ h0 h1);have b0:((s[k].toNat:Int) !=48)=true:=by simpa using h0
      have h:((s[k].toNat:Int) !=49)=true:=by simpa using h1
      have f:=hI hb;clear hb h0 h1;go_wp2;go_ret;exact⟨ai f.o.symm,rfl⟩
   .go_wp2;go_ret;exact⟨ai (BY g k om a.o).symm,rfl⟩
 .go_enter func64,ntmps64;go_wp2;go_ret;exact⟨ai (zJ om).symm,rfl⟩
def f9(n:Int)(h0:0<=n)(h1:n<2 ^ 62):IntKind.i64.wrap n=n:=by rw[QC];omega
def gY(n:Int)(h0:0<=n)(h1:n<2 ^ 62):bits .and .i64 n 32767=n%32768:=
 bits_mask .i64 62 (by decide) f9 15 (by decide) n h0 h1
def eo(a b:Nat)(ha:a<2 ^ 62)(hb:b<2 ^ 62):bits .xor .i64 (a:Int) (b:Int)=((a ^^^ b:Nat):Int):=
 by
 have hx:=Nat.xor_lt_two_pow ha hb;show IntKind.i64.wrap ((BitVec.ofInt 64 (a:Int) ^^^ BitVec.ofInt 64 (b:Int)).toNat:Int)=_;rw[BitVec.toNat_xor,ofInt_u64 a om,ofInt_u64 b om,f9 _ om om]
def td(r b:Nat)(h1:r<32768)(h:((b:Int) !=(r:Int) / 16384)=true):bits BinOp.xor IntKind.i64 (bits BinOp.and IntKind.i64 ((r:Int)*2) 32767) 17817=((M.dE r b:Nat):Int):=by
 have a:b≠r / 16384:=by
  intro e;rw[bne_iff_ne]at h;exact h om
 rw[gY _ om om];have e:((r:Int)*2)%32768=((2*r%32768:Nat):Int):=om;rw[e,show(17817:Int)=((17817:Nat):Int)from rfl,eo _ _ om (by decide)];simp[M.dE,a]
def uO(r b:Nat)(h1:r<32768)(h:((b:Int) !=(r:Int) / 16384)=false):bits BinOp.and IntKind.i64 ((r:Int)*2) 32767=((M.dE r b:Nat):Int):=by
 have a:¬b≠r / 16384:=by
  intro e;rw[bne_eq_false_iff_eq]at h;exact e om
 rw[gY _ om om];unfold M.dE;rw[QV a];omega
def iI(r b:Nat)(w:Wd)(h1:r<32768):ce 259 #[I J r,I J b] w fun e w'=>e=rT (I J (M.dE r b:Nat))/\w=w':=by
 go_enter func259,ntmps259;go_wp2
 .have hc:((b:Int) !=(r:Int) / 16384)=true:=by assumption
  go_ret;exact⟨aL (td r b h1 hc),rfl⟩
 .have hc:((b:Int) !=(r:Int) / 16384)=false:=by assumption
  go_ret;exact⟨aL (uO r b h1 hc),rfl⟩
def bl(s:ByteArray):List Nat:=s.data.toList.map (fun c=>c.toNat-48)
def ki(s:ByteArray):(bl s).length=s.size:=by simp[bl]
def C5(s:ByteArray)(k:Nat)(h:k<s.size):(bl s).take (k+1)=(bl s).take k++[s[k].toNat-48]:=by
 unfold bl;rw[<- List.map_take,jd s k h];simp[List.map_take]
def se{s:ByteArray}(h:okT s m=true):(s.size:Int)<=m:=by
 unfold okT at h;rw[Q3,qQ]at h;exact h.1
def zK{s:ByteArray}(h:okT s m=true)(k:Nat)(a:k<s.size):s[k].toNat=48\/s[k].toNat=49:=by
 unfold okT at h;rw[Q3]at h;exact pt (List.all_eq_true.1 h.2 _ (by rw[Array.mem_toList_iff];exact Array.getElem_mem (xs:=s.data) (i:=k) a))
def C6{s:ByteArray}(h:okT s m=true):∀x∈bl s,x<2:=by
 intro x a;unfold okT at h;rw[Q3]at h;unfold bl at a;rw[List.mem_map]at a;obtain⟨c,b,rfl⟩:=a;have:=pt (List.all_eq_true.1 h.2 c b);omega
def nB(s:ByteArray):Int:=if okT s 2000=true then(M.js (bl s):Nat)else -1
def ae.open(h:ae w B v l)(f:l≠[]):∃g cap,v=sL (be g) l.length cap/\B<=g/\g<w.heap.size/\l.length<=cap/\cap<=maxLen/\bV w g l.length (fun t=>l.getD t 0):=by
 have a:=h;obtain⟨_,h1|⟨g,cap,cur,rfl,d,j,e,i,k,n⟩⟩:=h
 .exact Qj (List.length_eq_zero_iff.1 h1.2) f
 .refine⟨g,cap,rfl,d,(Qm a g rfl).2,e,i,fun t b=>?_,fun t b=>?_⟩
  .rw[QJ a t om,oz l t b];simp[List.getD,b]
  .exact QF a t
def Im(j:Nat)(a:j<16)(h:j<(ByteArray.mk #[49,49,48,48,48,49,48,49,49,48,48,49,49,48,48,49]).size):(((ByteArray.mk #[49,49,48,48,48,49,48,49,49,48,48,49,49,48,48,49])[j]'h).toNat:Int)=48+((M.CF j).toNat:Int):=by
 have:∀j:Fin 16,(((ByteArray.mk #[49,49,48,48,48,49,48,49,49,48,48,49,49,48,48,49])[j.val]'(j.isLt)).toNat:Int)=48+((M.CF j.val).toNat:Int):=by decide
 exact this ⟨j,a⟩
def yk(a b:Bool):bits BinOp.xor IntKind.u8 (a.toNat:Int) (b.toNat:Int)=((a ^^ b).toNat:Int):=by
 rw[u8_xor_nat _ _ (by cases a<;>decide) (by cases b<;>decide)];cases a<;>cases b<;>rfl
def yj(a:Bool)(j:Nat)(b:j<16)(h:j<(ByteArray.mk #[49,49,48,48,48,49,48,49,49,48,48,49,49,48,48,49]).size):bits BinOp.xor IntKind.u8 (a.toNat:Int) ((((ByteArray.mk #[49,49,48,48,48,49,48,49,49,48,48,49,49,48,48,49])[j]'h).toNat-48:Int)%256)=((a ^^ M.CF j).toNat:Int):=by
 rw[Im j b h,<- yk];congr 1;have:(M.CF j).toNat<2:=by cases M.CF j<;>decide
 omega
def Hk(l:List Nat)(d:∀x∈l,x<2)(t:Nat)(_:t<(l++List.replicate 15 0).length):(l++List.replicate 15 0).getD t 0=(M.V l 0 t).toNat:=by
 rw[M.Is];unfold M.mb;by_cases h:t<l.length
 .have hx:=d l[t] (ql h);have a:(l++List.replicate 15 0).getD t 0=l[t]:=by simp[List.getD,qU h,h]
  have b:l.getD t 0=l[t]:=by simp[List.getD,h]
  rw[a,b];generalize l[t]=x at*;have:x=0\/x=1:=om;rcases this with rfl|rfl<;>rfl
 .have b:l.getD t 0=0:=by simp[List.getD,List.getElem?_eq_none (Nat.le_of_not_lt h)]
  have a:(l++List.replicate 15 0).getD t 0=0:=by
   unfold List.getD;rw[qT (Nat.le_of_not_lt h),List.getElem?_replicate];split<;>rfl
  rw[a,b];rfl
def tL(s:ByteArray)(w:Wd)(hs:s.size<=maxLen)(D:okT s 2000=true):ce 69 #[.string s] w fun e w'=>e=rT (I J (nB s))/\Bl w w':=by
  have ak:=se D;go_enter func69,ntmps69;go_wp2_with(go_at_call 64;refine(fG _ _ _ hs).mono ?_;rintro e w1 ⟨rfl,rfl⟩);have H:=hI D;clear D;go_loopw [3,4] (fun v i wr=>∃k:Nat,k<=s.size/\i=I J k/\ae wr w.heap.size v ((bl s).take k)/\Bl w wr/\w.heap.size<=wr.heap.size) (fun _ i _=>s.size-(intOf i).toNat);case atStart=>exact⟨0,nZ _,rfl,kX _ _ (nR _),Zw,pQ⟩
  case round=>
   obtain⟨k,D,rfl,f,a,h⟩:=hrel;by_cases K:k<s.size
   .have p:=zK H.o k K;have E:((bl s).take k).length<=100000000:=by rw[qh,ki];omega
    have r:=hI (C5 s k K);generalize (bl s).take k=l at*;rcases p with p|p
    .have HS':Hid ((bl s).take (k+1)=l++[0]):=by rw[r.o,p];exact rfl
     clear r;go_wp2_with(at_builtin;refine fM w wr rfl (.tmp 21) (.tmp 26) rfl w.heap.size _ l 0 _ rfl rfl f rfl E h a ?_);intro T w' A u C;clear f a h;go_wp2;go_roundw;case rel=>exact⟨k+1,om,by go_num,by rw[HS'.o];exact A,u,C⟩
     case measure=>simp[intOf];omega
    .have HS':Hid ((bl s).take (k+1)=l++[1]):=by rw[r.o,p];exact rfl
     clear r;go_wp2_with(at_builtin;refine fM w wr rfl (.tmp 21) (.tmp 26) rfl w.heap.size _ l 1 _ rfl rfl f rfl E h a ?_);intro T w' A u C;clear f a h;go_wp2;go_roundw;case rel=>exact⟨k+1,om,by go_num,by rw[HS'.o];exact A,u,C⟩
     case measure=>simp[intOf];omega
   .have hke:(bl s).take k=bl s:=QY (by rw[ki];omega);rw[hke]at f;have Q:=ki s;clear hke;go_wp2;have O:=C6 H.o;generalize P:bl s=l at*;have U:=hI P;clear P;go_loopw [3,5] (fun v i wr=>∃j:Nat,j<=15/\i=I J j/\ae wr w.heap.size v (l++List.replicate j 0)/\Bl w wr/\w.heap.size<=wr.heap.size) (fun _ i _=>15-(intOf i).toNat);case atStart=>exact⟨0,nZ _,rfl,by simpa using f,a,h⟩
    case round=>
     clear f a h;obtain⟨j,hj,rfl,f,a,h⟩:=hrel;by_cases K:j<15
     .have E:(l++List.replicate j 0).length<=100000000:=by rw[QX,List.length_replicate];omega
      have r:Hid (l++List.replicate (j+1) 0=(l++List.replicate j 0)++[0]):=by rw[Q2,List.replicate_succ'];exact rfl
      generalize l++List.replicate j 0=l' at*;go_wp2_with(at_builtin;refine fM w _ rfl (.tmp 32) (.tmp 33) rfl w.heap.size _ l' 0 _ rfl rfl f rfl E h a ?_);intro T w' A u C;clear f a h;go_wp2;go_roundw;case rel=>exact⟨j+1,om,by go_num,by rw[r.o];exact A,u,C⟩
      case measure=>simp[intOf];omega
     .have hj':j=15:=om;subst hj';have a4:∃g cap n,u3=sL (be g) n cap/\w.heap.size<=g/\g<wr.heap.size/\n<=cap/\cap<=maxLen/\l.length+15<=n/\n<=l.length+15/\bV wr g n (fun t=>(M.V l 0 t).toNat):=by
       obtain⟨g,cap,p,h1,Z,h3,h4,h5⟩:=f.open pQ;exact⟨g,cap,_,p,h1,Z,h3,h4,pQ,pQ,h5.of (Hk l O)⟩
      clear f;obtain⟨g,cap,n,rfl,a1,d,ac,a0,ad,af,b⟩:=a4;unfold maxLen at a0;have a9:l.length<=2000:=om;have a7:=hI Q;clear Q;go_wp2;go_loopw [7,8] (fun i _ wr=>∃k:Nat,k<=l.length/\i=I J k/\bV wr g n (fun t=>(M.V l k t).toNat)/\Bl w wr/\g<wr.heap.size) (fun i _ _=>l.length-(intOf i).toNat);case atStart=>exact⟨0,nZ _,rfl,b,a,d⟩
      case round=>
       clear b a d h;obtain⟨i,hi,rfl,b,a,d⟩:=hrel;by_cases a2:i<l.length
       .have hc:=b.cell i om;have N:Hid (∀j,M.V l (i+1) j=(M.V l i j ^^ (M.V l i i&&(decide (i<=j/\j<i+16)&&M.CF (j-i))))):=fun j=>M.It l i j O a2;cases hb:M.V l i i
        .simp only[hb,Bool.toNat_false]at hc;have G:=hI hb;clear hb;go_wp2;go_roundw;case rel=>exact⟨i+1,om,by go_num,b.of (fun t _=>by rw[N.o t,G.o];simp),a,d⟩
         case measure=>simp[intOf];omega
        .simp only[hb,Bool.toNat_true]at hc;have G:=hI hb;clear hb;go_wp2;go_loopw [8] (fun L wr=>∃j:Nat,j<=16/\L=I J j/\bV wr g n (fun t=>(M.V l i t ^^ (decide (i<=t/\t<i+j)&&M.CF (t-i))).toNat)/\Bl w wr/\g<wr.heap.size) (fun L _=>16-(intOf L).toNat);case atStart=>exact⟨0,nZ _,rfl,b.of (fun t _=>by rw[show decide (i<=t/\t<i+0)=false from qm om];simp),a,d⟩
         case round=>
          clear b a d hc;obtain⟨j,hj,rfl,b,a,d⟩:=hrel;by_cases a3:j<16
          .have hc:=b.cell (i+j) om;have hf:=b.free (i+j) om;go_wp2;go_region;go_wp2;refine⟨⟨j+1,om,by go_num,b.set (i+j) om _ ?_ ?_,(a.setCell (by exact a1) _).drew,by simpa using d⟩,by simp[intOf];omega⟩
           .rw[yj _ j a3,show decide (i<=i+j/\i+j<i+(j+1))=true from qy om,show i+j-i=j from by omega];simp
           .intro t ht hne;have e:decide (i<=t/\t<i+j)=decide (i<=t/\t<i+(j+1)):=by
             rw[Q0];simp;omega
            simp only[e]
          .have hj16:j=16:=om;subst hj16;have a5:bV wr g n (fun t=>(M.V l (i+1) t).toNat):=b.of (fun t _=>by rw[N.o t,G.o];simp);clear b;go_wp2;go_roundw;case rel=>exact⟨i+1,om,by go_num,a5,a,d⟩
           case measure=>simp[intOf];omega
       .have hil':i=l.length:=om;subst hil';have S:=M.CU l;have X:=hI (M.Iv l);have Y:Hid (nB s=(M.js (bl s):Nat)):=by simp[nB,H.o,Hid]
        go_wp2;go_loopw [9,10] (fun c i wr=>∃q:Nat,q<=15/\i=I J ((l.length+q:Nat):Int)/\c=I J ((M.rA (M.js l) q:Nat):Int)/\bV wr g n (fun t=>(M.V l l.length t).toNat)/\Bl w wr/\g<wr.heap.size) (fun _ i _=>l.length+15-(intOf i).toNat);case atStart=>exact⟨0,om,by go_num,by rw[M.FJ _ S];rfl,b,a,d⟩
        case round=>
         clear b a d;obtain⟨q,hq,rfl,rfl,b,a,d⟩:=hrel;have a6:=M.Hn (M.js l) q S;by_cases R:q<15
         .have hc:=b.cell (l.length+q) om;rw[X.o q R]at hc;have W:Hid (M.rA (M.js l) (q+1)=2*M.rA (M.js l) q+((M.js l).testBit (14-q)).toNat):=M.FK _ q R;have a8:((M.js l).testBit (14-q)).toNat<2:=by cases (M.js l).testBit (14-q)<;>decide
          generalize ((M.js l).testBit (14-q)).toNat=y at*;generalize hx:M.rA (M.js l) q=x at*;clear hx;go_wp2;go_roundw;case rel=>exact⟨q+1,om,by go_num,by rw[W.o];go_num,b,a,d⟩
          case measure=>simp[intOf];omega
         .have hq':q=15:=om;subst hq';rw[M.FZ]at a6 ⊢;go_wp2;go_ret;exact⟨aL (by rw[Y.o,U.o]),a⟩
def rN(s:ByteArray)(w:Wd)(hs:s.size<=maxLen):ce 69 #[.string s] w fun e w'=>e=rT (I J (nB s))/\Bl w w':=by
 by_cases a:okT s 2000=true
 .exact tL s w hs a
 .have hk':okT s 2000=false:=by simpa using a
  have b:Hid (nB s= -1):=by simp[nB,hk',Hid]
  clear a;go_enter func69,ntmps69;go_wp2_with(go_at_call 64;refine(fG _ _ _ hs).mono ?_;rintro e d ⟨rfl,rfl⟩);go_ret;exact⟨aL b.o.symm,bW _ _⟩
def mz(f:Nat->Nat)(i:Nat):Bool:=
 decide (5<=i)&&(f (i-1)==f (i-2)&&f (i-2)==f (i-3)&&f (i-3)==f (i-4)&&f (i-4)==f (i-5))
def vU(w:Wd)(g n cap i:Nat)(f:Nat->Nat)(b:bV w g n f)(hi:i<=n)(G:n<=100000000):ce 114 #[sL (be g) n cap,I J i] w fun e w'=>e=rT (bO (mz f i))/\∃q,w'=w.drewN q:=by
 by_cases E:i<5
 .have a:Hid (mz f i=false):=by simp[mz,Hid];omega
  go_enter func114,ntmps114;go_wp2;go_ret;exact⟨ai a.o.symm,0,rfl⟩
 .obtain⟨k,rfl⟩:∃k,i=k+5:=⟨i-5,om⟩
  have c1:=b.cell (k+4) om;have c2:=b.cell (k+3) om;have c3:=b.cell (k+2) om;have c4:=b.cell (k+1) om;have D:=b.cell k om;have a:Hid (mz f (k+5)=(f (k+4)==f (k+3)&&f (k+3)==f (k+2)&&f (k+2)==f (k+1)&&f (k+1)==f k)):=by
   simp[mz,Hid]
  generalize f (k+4)=C at*;generalize f (k+3)=d at*;generalize f (k+2)=h at*;generalize f (k+1)=j at*;generalize f k=x5 at*;clear b;by_cases p:C=d
  .have b1:((C:Int)==(d:Int))=true:=by simp;omega
   have u:=hI p;clear p;by_cases r:d=h
   .have b2:((d:Int)==(h:Int))=true:=by simp;omega
    have x:=hI r;clear r;by_cases s:h=j
    .have b3:((h:Int)==(j:Int))=true:=by simp;omega
     have y:=hI s;clear s;by_cases t:j=x5
     .have b4:((j:Int)==(x5:Int))=true:=by simp;omega
      have A:=hI t;clear t;go_enter func114,ntmps114;go_wp2;go_quiet (fail);go_wp2;go_ret;exact⟨ai (by rw[a.o];simp[u.o,x.o,y.o,A.o]),_,rfl⟩
     .have b4:((j:Int)==(x5:Int))=false:=by simp;omega
      have A:=hI t;clear t;go_enter func114,ntmps114;go_wp2;go_quiet (fail);go_wp2;go_ret;exact⟨ai (by rw[a.o];simp[A.o]),_,rfl⟩
    .have b3:((h:Int)==(j:Int))=false:=by simp;omega
     have y:=hI s;clear s;go_enter func114,ntmps114;go_wp2;go_quiet (fail);go_wp2;go_ret;exact⟨ai (by rw[a.o];simp[y.o]),_,rfl⟩
   .have b2:((d:Int)==(h:Int))=false:=by simp;omega
    have x:=hI r;clear r;go_enter func114,ntmps114;go_wp2;go_quiet (fail);go_wp2;go_ret;exact⟨ai (by rw[a.o];simp[x.o]),_,rfl⟩
  .have b1:((C:Int)==(d:Int))=false:=by simp;omega
   have u:=hI p;clear p;go_enter func114,ntmps114;go_wp2;go_quiet (fail);go_wp2;go_ret;exact⟨ai (by rw[a.o];simp[u.o]),_,rfl⟩
namespace M
def ij(r:Nat × Nat)(c:Nat):Nat × Nat:=if c=r.1 then(r.1,r.2+1)else(c,1)
def ga(l:List Nat):Nat × Nat:=l.foldl ij (0,0)
def lD(out:List Nat)(c:Nat):List Nat:=if(ga (out++[c])).2=5 then out++[c]++[97-c]else out++[c]
def fV(l:List Nat):List Nat:=l.foldl lD []
def dV(l:List Nat)(c:Nat):ga (l++[c])=ij (ga l) c:=by simp[ga]
def ip(l:List Nat)(c:Nat):fV (l++[c])=lD (fV l) c:=by simp[fV]
def sN(r:Nat × Nat)(c:Nat):(ij r c).1=c:=by
 unfold ij;split
 .rename_i h;exact h.symm
 .rfl
def Ay(r:Nat × Nat)(c:Nat):1<=(ij r c).2:=by
 unfold ij;split
 .exact Nat.succ_le_succ (nZ _)
 .exact nR _
def fT(r:Nat × Nat)(c:Nat):(ij r c).2<=r.2+1:=by
 unfold ij;split
 .exact nR _
 .exact Nat.succ_le_succ (nZ _)
def tN{d:Type}(l:List d)(h:l≠[]):∃l' a,l=l'++[a]:=by
 rcases List.eq_nil_or_concat l with e|⟨a,b,e⟩
 .exact Qj e h
 .exact⟨a,b,by rw[e,List.concat_eq_append]⟩
def jz{d:Type}{P:List d->Prop}(h0:P [])(h1:∀l a,P l->P (l++[a]))(l:List d):P l:=by
 have:∀n,∀l:List d,l.length=n->P l:=by
  intro n;induction n with
  |zero=>intro l b;rw[List.length_eq_zero_iff.1 b];exact h0
  |succ n ih=>
   intro l b;obtain⟨l',a,rfl⟩:=tN l (by intro e;simp[e]at b);exact h1 l' a (ih l' (by simpa using b))
 exact this _ l rfl
def FY(l:List Nat):(ga l).2<=l.length:=by
 induction l using jz with
 |h0=>exact nR _
 |h1 l a ih=>rw[dV,QX];exact nT (fT _ _) (by simpa using ih)
def iP(a m:Nat):ij (a,m) a=(a,m+1):=by simp[ij]
def fH(a m b:Nat)(h:¬b=a):ij (a,m) b=(b,1):=by simp[ij,h]
def Hu(l:List Nat)(a b c d e:Nat):(5<=(ga (l++[a]++[b]++[c]++[d]++[e])).2)↔(e=d/\d=c/\c=b/\b=a):=by
 simp only[dV];have h1:=sN (ga l) a;have f:=Ay (ga l) a;generalize ij (ga l) a=r at*;obtain⟨x,m⟩:=r;simp only at h1 f;subst h1;by_cases g:b=x
 .subst g;rw[iP];by_cases h:c=b
  .subst h;rw[iP];by_cases hd:d=c
   .subst hd;rw[iP];by_cases i:e=d
    .subst i;rw[iP];simp;omega
    .rw[fH _ _ _ i];simp[i]
   .rw[fH _ _ _ hd];have:=fT (d,1) e;simp[hd];simp at this;omega
  .rw[fH _ _ _ h];have j:=fT (c,1) d;have k:=fT (ij (c,1) d) e;simp[h];simp at j;omega
 .rw[fH _ _ _ g];have f:=fT (b,1) c;have j:=fT (ij (b,1) c) d;have k:=fT (ij (ij (b,1) c) d) e;simp[g];simp at f;omega
def vQ(h:isL c):isL (97-c)/\¬97-c=c:=by
 rcases h with rfl|rfl
 .exact⟨.inr rfl,by decide⟩
 .exact⟨.inl rfl,by decide⟩
def FO(l:List Nat)(h:∀x∈l,isL x):∀x∈fV l,isL x:=by
 induction l using jz with
 |h0=>intro x b;simp[fV]at b
 |h1 l a ih=>
  have d:isL a:=h a pQ;have e:=ih (fun x b=>h x (by simp[b]));rw[ip];intro x b;unfold lD at b;split at b
  .simp at b;rcases b with b|rfl|rfl
   .exact e x b
   .exact d
   .exact (vQ d).1
  .simp at b;rcases b with b|rfl
   .exact e x b
   .exact d
def FM(l:List Nat)(h:∀x∈l,isL x):(ga (fV l)).2<=4:=by
 induction l using jz with
 |h0=>decide
 |h1 l a ih=>
  have d:isL a:=h a pQ;have f:=ih (fun x e=>h x (by simp[e]));rw[ip];unfold lD;rw[dV];have h1:=fT (ga (fV l)) a;split
  .rename_i h5;rw[dV,dV];have b:=sN (ga (fV l)) a;generalize ij (ga (fV l)) a=r at*;obtain⟨x,m⟩:=r;simp only at b;subst b;rw[fH _ _ _ (vQ d).2];exact(by decide:1<=4)
  .rw[dV];omega
def FN(l:List Nat):(fV l).length<=2*l.length:=by
 induction l using jz with
 |h0=>decide
 |h1 l a ih=>
  rw[ip];unfold lD;split<;>simp<;>omega
end M
def lt(s:ByteArray):List Nat:=s.data.toList.map UInt8.toNat
def aN(s:ByteArray):(lt s).length=s.size:=by simp[lt]
def Cm(s:ByteArray)(k:Nat)(h:k<s.size):(lt s).take (k+1)=(lt s).take k++[s[k].toNat]:=by
 unfold lt;rw[<- List.map_take,jd s k h];simp[List.map_take]
def pE{s:ByteArray}(h:okT s m=true):∀x∈lt s,M.isL x:=by
 intro x a;unfold okT at h;rw[Q3]at h;unfold lt at a;rw[List.mem_map]at a;obtain⟨c,b,rfl⟩:=a;exact pt (List.all_eq_true.1 h.2 c b)
def bP(l:List Nat)(a j:Nat)(h:j<l.length):(l++[a]).getD j 0=l.getD j 0:=by simp[List.getD,qU h]
def dJ(l:List Nat)(a j:Nat)(h:j=l.length):(l++[a]).getD j 0=a:=by subst h;simp[List.getD]
def xN(l:List Nat):mz (fun t=>l.getD t 0) l.length=decide (5<=(M.ga l).2):=by
 by_cases g:5<=l.length
 .have ne:∀l:List Nat,1<=l.length->l≠[]:=by intro l h e;simp[e]at h
  obtain⟨r,e,rfl⟩:=M.tN l (ne _ om);simp only[QX,Q1]at g;obtain⟨s,d,rfl⟩:=M.tN r (ne _ om);simp only[QX,Q1]at g;obtain⟨u,c,rfl⟩:=M.tN s (ne _ om);simp only[QX,Q1]at g;obtain⟨x,b,rfl⟩:=M.tN u (ne _ om);simp only[QX,Q1]at g;obtain⟨f,a,rfl⟩:=M.tN x (ne _ om);rw[Q0,qQ,M.Hu];simp only[mz,QX,Q1];have i:(f++[a]++[b]++[c]++[d]++[e]).getD (f.length+1+1+1+1+1-1) 0=e:=dJ _ _ _ pQ;have j:(f++[a]++[b]++[c]++[d]++[e]).getD (f.length+1+1+1+1+1-2) 0=d:=by
   rw[bP _ _ _ pQ];exact dJ _ _ _ pQ
  have k:(f++[a]++[b]++[c]++[d]++[e]).getD (f.length+1+1+1+1+1-3) 0=c:=by
   rw[bP _ _ _ pQ,bP _ _ _ pQ];exact dJ _ _ _ pQ
  have n:(f++[a]++[b]++[c]++[d]++[e]).getD (f.length+1+1+1+1+1-4) 0=b:=by
   rw[bP _ _ _ pQ,bP _ _ _ pQ,bP _ _ _ pQ];exact dJ _ _ _ pQ
  have p:(f++[a]++[b]++[c]++[d]++[e]).getD (f.length+1+1+1+1+1-5) 0=a:=by
   rw[bP _ _ _ pQ,bP _ _ _ pQ,bP _ _ _ pQ,bP _ _ _ pQ];exact dJ _ _ _ pQ
  rw[i,j,k,n,p];simp[and_assoc]
 .have:=M.FY l;rw[Q0,qQ];simp[mz];omega
def xe(c:Nat)(w:Wd)(h:M.isL c):ce 115 #[I .u8 c] w fun e w'=>e=rT (I .u8 ((97-c:Nat):Int))/\w=w':=by
 rcases h with rfl|rfl
 .go_enter func115,ntmps115;go_wp2;go_ret;exact⟨rfl,rfl⟩
 .go_enter func115,ntmps115;go_wp2;go_ret;exact⟨rfl,rfl⟩
def gM(s:ByteArray):ByteArray:=if okT s 2000=true then ag (M.fV (lt s))else⟨#[]⟩
def tK(a:(M.ga l).2<=4):decide (5<=(M.ga (l++[c])).2)=decide ((M.ga (l++[c])).2=5):=by
 have:=M.fT (M.ga l) c;rw[M.dV];rw[Q0];simp;omega
def pb(s:ByteArray)(w:Wd)(hs:s.size<=maxLen)(j:okT s 2000=true):ce 67 #[.string s] w fun e w'=>e=rT (.string (gM s))/\Bl w w':=by
  have a6:=se j;go_enter func67,ntmps67;go_wp2_with(go_at_call 64;refine(fG _ _ _ hs).mono ?_;rintro e G ⟨rfl,rfl⟩);have h:=hI j;clear j;go_loopw [3,4] (fun v i wr=>∃k:Nat,k<=s.size/\i=I J k/\ae wr w.heap.size v (M.fV ((lt s).take k))/\Bl w wr/\w.heap.size<=wr.heap.size) (fun _ i _=>s.size-(intOf i).toNat);case atStart=>exact⟨0,nZ _,rfl,kX _ _ (nR _),Zw,pQ⟩
  case round=>
   obtain⟨k,j,rfl,n,u,O⟩:=hrel;by_cases L:k<s.size
   .have hv:=zK h.o k L;have H:∀x∈(lt s).take k,M.isL x:=fun x X=>pE h.o x (qF X);have D:=M.FM _ H;have a5:(M.fV ((lt s).take k)).length<=4000:=by
     have:=M.FN ((lt s).take k);rw[qh,aN]at this;omega
    have d:Hid (M.fV ((lt s).take (k+1))=M.lD (M.fV ((lt s).take k)) s[k].toNat):=by rw[Cm s k L,M.ip];exact rfl
    clear H;generalize M.fV ((lt s).take k)=l at*;go_wp2_with(at_builtin;refine fM w wr rfl (.tmp 15) (.tmp 19) rfl w.heap.size _ l s[k].toNat _ rfl rfl n rfl om O u ?_);intro v1 G p y E;clear n u O;obtain⟨g,cap,W,a2,a3,Z,a0,C⟩:=p.open pQ;subst W;have A:=xN (l++[s[k].toNat]);rw[tK D]at A;have a4:(l++[s[k].toNat]).length<=4001:=by simp;omega
    unfold M.lD at d;generalize T:l++[s[k].toNat]=a at*;have f:=hI A;clear A T;by_cases b:(M.ga a).2=5
    .rw[QW b]at d;have r:Hid (mz (fun t=>a.getD t 0) a.length=true):=by rw[f.o,b];exact rfl
     clear f b D;go_wp2_with(go_at_call 114;refine(vU _ g a.length cap a.length _ C (nR _) om).mono ?_;rw[r.o];rintro e Q ⟨rfl,q,rfl⟩);have N:=p.drewN q;have K:=QB y q;have P:w.heap.size<=(G.drewN q).heap.size:=by simpa using E
     refine(xe _ _ hv).mono ?_;rintro e Q ⟨rfl,rfl⟩;clear p y E C;go_wp2_with(at_builtin;refine fM w (G.drewN q) rfl (.tmp 25) (.tmp 30) rfl w.heap.size _ a (97-s[k].toNat) _ rfl rfl N rfl om P K ?_);intro v3 w3 U S Y;clear N K P;go_wp2;go_roundw;case rel=>exact⟨k+1,om,by go_num,by rw[d.o];exact U,S,Y⟩
     case measure=>simp[intOf];omega
    .rw[QV b]at d;have r:Hid (mz (fun t=>a.getD t 0) a.length=false):=by rw[f.o];exact qm b
     clear f b D;go_wp2_with(go_at_call 114;refine(vU _ g a.length cap a.length _ C (nR _) om).mono ?_;rw[r.o];rintro e Q ⟨rfl,q,rfl⟩);go_roundw;case rel=>exact⟨k+1,om,by go_num,by rw[d.o];exact p.drewN q,QB y q,by simpa using E⟩
     case measure=>simp[intOf];omega
   .have hke:(lt s).take k=lt s:=QY (by rw[aN];omega);rw[hke]at n;have a1:=mB n (pK (M.FO _ (pE h.o)));have R:Hid (gM s=ag (M.fV (lt s))):=by simp[gM,h.o,Hid]
    generalize M.fV (lt s)=l at*;clear hke;go_wp2;go_ret;exact⟨cS R.o.symm,u⟩
def mN(s:ByteArray)(w:Wd)(hs:s.size<=maxLen):ce 67 #[.string s] w fun e w'=>e=rT (.string (gM s))/\Bl w w':=by
 by_cases a:okT s 2000=true
 .exact pb s w hs a
 .have hk':okT s 2000=false:=by simpa using a
  have b:Hid (gM s=⟨#[]⟩):=by simp[gM,hk',Hid]
  clear a;go_enter func67,ntmps67;go_wp2_with(go_at_call 64;refine(fG _ _ _ hs).mono ?_;rintro e d ⟨rfl,rfl⟩);go_ret;exact⟨cS b.o.symm,bW _ _⟩
def ae.otherBlock{w':Wd}(h:ae w B v l)(e:∀g,v.ownBlock=some g->w'.heap[g]?=w.heap[g]?):ae w' B v l:=by
 obtain⟨h1,a|⟨g,cap,cur,rfl,b,d,rest⟩⟩:=h
 .exact⟨h1,.inl a⟩
 .exact⟨h1,.inr ⟨g,cap,cur,rfl,b,(e g rfl).trans d,rest⟩⟩
def jD(l:List Nat)(h:∀x∈l,x<256):lt (ag l)=l:=by
 unfold lt ag;simp only[List.map_map];conv=>rhs;rw[<- List.map_id l]
 apply zg;intro x a;have:=h x a;simp;omega
def C4(l:List Nat)(h:∀x∈l,x<256):bl (ag l)=l.map (fun x=>x-48):=by
 have:bl (ag l)=(lt (ag l)).map (fun x=>x-48):=by unfold bl lt;simp
 rw[this,jD l h]
def sd(l:List Nat)(m:Int)(h:∀x∈l,M.isL x)(b:(l.length:Int)<=m):okT (ag l) m=true:=by
 unfold okT;rw[Q3,qQ,aW];refine⟨b,?_⟩;rw[qW];intro c a;unfold ag at a;simp at a;obtain⟨x,d,rfl⟩:=a;rcases h x d with rfl|rfl<;>rfl
def rL(l:List Nat)(h:∀x∈l,M.isL x)(a:l.length<=2000):gM (ag l)=ag (M.fV l):=by
 unfold gM;rw[QW (sd l 2000 h om),jD l (pK h)]
def xQ(l:List Nat)(h:∀x∈l,M.isL x)(a:l.length<=2000):nB (ag l)=((M.js (l.map (fun x=>x-48)):Nat):Int):=by
 unfold nB;rw[QW (sd l 2000 h om),C4 l (pK h)]
def aj(e:Bool)(i:Nat)(r:Bool)(d:Nat)(l:List Nat):List Nat:=
 aK e i r d l++M.num (M.js ((aK e i r d l).map (fun x=>x-48))) 15
def eP(e:Bool)(i:Nat)(r:Bool)(d:Int)(n:Nat)(l:List Nat):ByteArray:=
 if vB e i r d n=true then ag (M.fV (aj e i r d.toNat l)++List.replicate 10 49)else⟨#[]⟩
def cZ(e:Bool)(i:Nat)(r:Bool)(d:Nat)(l:List Nat):∀x∈aj e i r d l,M.isL x:=by
 intro x a;unfold aj at a;rw[qw]at a;rcases a with a|a
 .exact gG e i r d l x a
 .exact M.Hr _ _ x a
def fW(e:Bool)(i:Nat)(r:Bool)(d:Nat)(l:List Nat):(aj e i r d l).length=(if e=true then 54 else 34)+8*l.length:=by
 unfold aj;rw[QX,dM,M.EI];cases e<;>simp<;>omega
def Cf(v:Nat)(w:Wd)(hv:v<4611686018427387904):ce 68 #[I J (v:Int),I J 15] w fun o w'=>o=rT (.string (ag (M.num v 15)))/\w=w':=px 15 v w om hv
def BE(s:ByteArray):s++{data:=#[49]}++{data:=#[49]}++{data:=#[49]}++{data:=#[49,49,49,49,49,49,49]}=s++ag (List.replicate 10 49):=by
 apply ByteArray.ext;simp[ag]
def lG(w:Wd)(e:Bool)(i:Nat)(r:Bool)(d:Int)(a:Option Addr)(n cap:Nat)(l:List Nat)(h:iB w a n cap l):ce 21 #[frV e i r d a n cap] w fun o w'=>o=rT (.string (eP e i r d n l))/\Bl w w':=by
 have N:=hI h;have k:Hid (Bl w (w.alloc (frC e i r d a n cap 53))/\(w.alloc (frC e i r d a n cap 53)).heap[w.heap.size]?=some (frC e i r d a n cap 53)):=⟨Zw,Qy w _⟩
 have D:=h.len;clear h;by_cases b:vB e i r d n=true
 .have hn8:=(cW b).2.2.2.2;have p:Hid (eP e i r d n l=ag (M.fV (aj e i r d.toNat l)++List.replicate 10 49)):=by simp[eP,b,Hid]
  have K:Hid (kK e i r d n l=ag (aK e i r d.toNat l)):=by simp[kK,b,Hid]
  have j:=hI b;have A:=dM e i r d.toNat l;have C:(aK e i r d.toNat l).length<=200:=by rw[A];split<;>omega
  have L:Hid (nB (ag (aK e i r d.toNat l))=((M.js ((aK e i r d.toNat l).map (fun x=>x-48)):Nat):Int)):=xQ _ (gG _ _ _ _ _) om;have Y:=M.CU ((aK e i r d.toNat l).map (fun x=>x-48));have O:Hid (ag (aK e i r d.toNat l)++ag (M.num (M.js ((aK e i r d.toNat l).map (fun x=>x-48))) 15)=ag (aj e i r d.toNat l)):=by rw[cy];exact rfl
  have E:=fW e i r d.toNat l;have G:(aj e i r d.toNat l).length<=200:=by rw[E];split<;>omega
  have P:Hid (gM (ag (aj e i r d.toNat l))=ag (M.fV (aj e i r d.toNat l))):=rL _ (cZ _ _ _ _ _) om;have a1:(ag (M.fV (aj e i r d.toNat l))).size<=400:=by rw[aW];have:=M.FN (aj e i r d.toNat l);omega
  have Q:Hid (ag (M.fV (aj e i r d.toNat l))++ag (List.replicate 10 49)=ag (M.fV (aj e i r d.toNat l)++List.replicate 10 49)):=cy _ _;have X:(ag (aK e i r d.toNat l)).size<=200:=by rw[aW];exact C
  have Z:(ag (aj e i r d.toNat l)).size<=200:=by rw[aW];exact G
  clear b A C E G D;generalize M.js ((aK e i r d.toNat l).map (fun x=>x-48))=c at*;generalize ag (M.fV (aj e i r d.toNat l))=ss at*;generalize ag (aj e i r d.toNat l)=ps at*;generalize ag (aK e i r d.toNat l)=W at*;go_enter func21,ntmps21;go_wp2_with fail;refine(aX _ e i r d a n cap).mono ?_;rw[j.o];rintro o U ⟨rfl,f⟩;have g:=k.o.1.trans (f.mono pQ);have H:=eW k.o.2 f pQ;have T:=cP H;clear f H;go_wp2_with fail;refine(jx _ e i r d a n cap l (N.o.below g)).mono ?_;rw[K.o];rintro o w2 ⟨rfl,u⟩;have s:=g.trans (u.mono g.size);clear u g T;go_wp2_with fail;refine(rN _ _ (by unfold maxLen;omega)).mono ?_;rw[L.o];rintro o w3 ⟨rfl,y⟩;have t:=s.trans (y.mono s.size);clear y s;have a0:(ag (M.num c 15)).size<=15:=by rw[aW,M.EI];omega
  go_wp2_with fail;refine(Cf c _ om).mono ?_;rintro o w4 ⟨rfl,rfl⟩;go_wp2_with fail;rw[O.o];refine(mN _ _ (by unfold maxLen;omega)).mono ?_;rw[P.o];rintro o w5 ⟨rfl,S⟩;have R:=t.trans (S.mono t.size);go_wp2;go_ret;exact⟨cS (by rw[p.o,<- Q.o,<- BE]),R⟩
 .have hv':vB e i r d n=false:=by simpa using b
  have p:Hid (eP e i r d n l=⟨#[]⟩):=by simp[eP,hv',Hid]
  have j:=hI hv';clear b hv' D;go_enter func21,ntmps21;go_wp2_with(go_at_call 65;refine(aX _ e i r d a n cap).mono ?_;rw[j.o];rintro o U ⟨rfl,f⟩);go_ret;exact⟨cS p.o.symm,k.o.1.trans (f.mono pQ)⟩
end
namespace Wk
end Wk
structure Iw(B b:Nat)(w w':World):Prop where
 bel:Below B w w'
 oth:Lib.OthersKept 5 (some b) w w'
def EB(x bit:Nat)(b:x<1000000)(a:bit<2):bits BinOp.or IntKind.i64 ((x:Int)*2) (bit:Int)=((2*x+bit:Nat):Int):=by
 have e:(x:Int)*2=((2*x:Nat):Int):=om;rw[e,(bits_nat .i64 62 (by decide) f9 (2*x) bit om om).2,nat_join 1 _ _ om om]
def Ey(x bit:Nat)(b:x<1073741824)(a:bit<2):bits BinOp.or IntKind.u32 ((x:Int)*2) (bit:Int)=((2*x+bit:Nat):Int):=by
 have e:(x:Int)*2=((2*x:Nat):Int):=om;rw[e,u32_or_nat _ _ om om,nat_join 1 _ _ om om]
def ae.below{w w1:World}{B:Nat}{v:Value}{l:List Nat}(h:ae w B v l)(hb:Bl w w1):ae w1 B v l:=
 h.otherBlock (fun g hg=>hb.block g (Qm h g hg).2)
def Bv(v c:Nat):Nat:=2*v+(if c=49 then 1 else 0)
def FV(l:List Nat):Nat:=l.foldl Bv 0
def Ai(l:List Nat):Nat:=if l.getD 13 0=49 then 39 else 19
def Ig(l:List Nat):Bool:=if l.getD 13 0=49 then decide (l.getD 32 0=49)else decide (l.getD 12 0=49)
def Ih(l:List Nat):Nat:=if Ig l=true then 0 else min (FV ((l.drop (Ai l-4)).take 4)) 8
def ji(l:List Nat):Nat × Nat:=
 if l.length<14 then(0,0)else if l.length<Ai l then(Ai l,0)else(Ai l,Ai l+8*Ih l)
def j9(l:List Nat):Nat:=
 if l.length=0 then 1 else if l.length<12 then 2 else if l.length=12 then 3 else if l.length=13 then 4
 else if l.length<(ji l).1 then
  (if(ji l).1<=l.length+4 then 8 else if(ji l).1=19 then 7 else if l.length<32 then 5 else if l.length=32 then 6 else 7)
 else if l.length<(ji l).2 then 9 else if l.length<(ji l).2+15 then 10 else if l.length<(ji l).2+18 then l.length-(ji l).2-4
 else if l.length<(ji l).2+25 then 14 else 15
def Fr(l:List Nat):Bool:=decide (¬((ji l).2=0\/l.length<(ji l).2+15))&&decide (nB (ag (l.take (ji l).2))=(FV ((l.drop (ji l).2).take 15):Nat))
def GD(l:List Nat)(c:Nat):Nat:=
 if j9 l=1 then(if c=49 then 4 else 0)else if j9 l=11 then(if c=48 then 4 else 0)
 else if j9 l=13 then(if c=48 then 4 else if Fr l=false then 5 else 0)
 else if j9 l=14 then(if l.length<(ji l).2+24 then(if c=48 then 4 else if l.length=(ji l).2+23 then 1 else 0)
  else if l.length=(ji l).2+24 then(if c=48 then 6 else 2)else 0)
 else 0
def ae.bytes{w:World}{B:Nat}{v:Value}{l:List Nat}(h:ae w B v l)(a:∀x∈l,x<256):∃b cap,v=sL b l.length cap/\iB w b l.length cap l:=by
 by_cases c:l=[]
 .subst c;obtain⟨_,⟨rfl,_⟩|⟨g,cap,cur,rfl,_⟩⟩:=h
  .exact⟨none,0,rfl,rfl,nR _,a,fun h=>Qj rfl h⟩
  .exact⟨_,cap,rfl,rfl,nZ _,a,fun h=>Qj rfl h⟩
 .obtain⟨g,cap,hv,h1,h2,h3,h4,h5⟩:=h.open c;refine⟨some ⟨g,0,none⟩,cap,hv,rfl,h3,a,fun _=>⟨g,0,rfl,fun j d=>?_⟩⟩;have:=h5.cell j d;rw[qg,this];simp[d]
def Eh(L:List Nat)(i:Nat)(st:Nat × List Nat × Bool):Nat × List Nat × Bool:=
 let c:=L.getD i 0
 let p:=if st.2.2=true then st.2.1 else st.2.1++[c]
 (if st.2.2=true then(if c=L.getD (i-1) 0 then 3 else 0)else GD st.2.1 c,p,
  mz (fun t=>L.getD t 0) (i+1)&&(decide (j9 p<=10)||decide (j9 p=11)))
def sw(L:List Nat):Nat->Nat × List Nat × Bool
 |0=>(0,[],false)
 |i+1=>Eh L i (sw L i)
def jZ{N:Nat}{l:List Nat}(h:okP (N:Int) l=true):N<=4000/\N<=64*l.length/\l.length<=1000:=by
 simp only[okP,Q3,qK]at h;omega
end Go.Proofs.YtbbffcolnddcdaaGreatDoor
namespace Go.Proofs.YtbbffcolnddcdaaGreatDoor.M
set_option linter.all false
def CS(r s:Nat):(2*(r ^^^ s))%32768=((2*r)%32768) ^^^ ((2*s)%32768):=by
 have e:2*(r ^^^ s)=(2*r) ^^^ (2*s):=by
  apply Nat.eq_of_testBit_eq;intro i;cases i with
  |zero=>simp
  |succ i=>rw[Nat.testBit_xor,Nat.testBit_succ,Nat.testBit_succ,Nat.testBit_succ];simp[Nat.testBit_xor]
 rw[e];exact Nat.xor_mod_two_pow (n:=15)
def By(r s:Nat)(d:r<32768)(hs:s<32768):(r ^^^ s) / 16384=(r / 16384+s / 16384)%2:=by
 have h1:(r ^^^ s) / 16384=(r / 16384) ^^^ (s / 16384):=by
  rw[show(16384:Nat)=2 ^ 14 from rfl,<- Nat.shiftRight_eq_div_pow,<- Nat.shiftRight_eq_div_pow,<- Nat.shiftRight_eq_div_pow,Nat.shiftRight_xor_distrib]
 rw[h1];have b:r / 16384=0\/r / 16384=1:=om;have c:s / 16384=0\/s / 16384=1:=om;rcases b with h|h<;>rcases c with a|a<;>rw[h,a]<;>rfl
def wJ(r s b:Nat)(c:r<32768)(hs:s<32768)(g:b<2):dE (r ^^^ s) b=dE r b ^^^ dE s 0:=by
 have d:r / 16384=0\/r / 16384=1:=om;have e:s / 16384=0\/s / 16384=1:=om;have f:=By r s c hs;have hd:=CS r s
 have c1:∀x y:Nat,x ^^^ 17817 ^^^ (y ^^^ 17817)=x ^^^ y:=fun x y=>by
  rw[Nat.xor_comm y,<- Nat.xor_assoc,Nat.xor_assoc x,Nat.xor_self,Nat.xor_zero]
 have c2:∀x y:Nat,x ^^^ 17817 ^^^ y=x ^^^ y ^^^ 17817:=fun x y=>by rw[Nat.xor_assoc,Nat.xor_comm 17817,Nat.xor_assoc]
 have c3:∀x y:Nat,x ^^^ (y ^^^ 17817)=x ^^^ y ^^^ 17817:=fun x y=>by rw[Nat.xor_assoc]
 unfold dE;rw[f,hd];rcases(show b=0\/b=1 by omega)with rfl|rfl<;>rcases d with h|h<;>rcases e with a|a<;>rw[h,a]<;>simp[c1,c2,c3]
def oct(o:Nat):List Nat:=[o / 128%2,o / 64%2,o / 32%2,o / 16%2,o / 8%2,o / 4%2,o / 2%2,o%2]
def S8(r o:Nat):Nat:=(oct o).foldl dE r
def kO(k:Nat):Nat:=S8 (128*k) 0
def AD(a:List Nat):∀r,r<32768->a.foldl dE r<32768:=by
 induction a with
 |nil=>intro r h;exact h
 |cons b a ih=>intro r h;exact ih _ (iq _ _)
def xD(a:List Nat)(c:∀x∈a,x<2):∀r s,r<32768->s<32768->a.foldl dE (r ^^^ s)=a.foldl dE r ^^^ (a.map fun _=>0).foldl dE s:=by
 induction a with
 |nil=>intro r s _ _;rfl
 |cons b a ih=>
  intro r s d hs;show a.foldl dE (dE (r ^^^ s) b)=_;rw[wJ r s b d hs (c b pQ)];exact ih (fun x e=>c x (by simp[e])) _ _ (iq _ _) (iq _ _)
def zS(o:Nat):∀x∈oct o,x<2:=by
 intro x a;simp only[oct,Qh,Q8,or_false]at a;omega
def Hl(r o:Nat)(h:r<32768):S8 r o<32768:=AD _ _ h
def vj(r s o:Nat)(hr:r<32768)(hs:s<32768):S8 (r ^^^ s) o=S8 r o ^^^ S8 s 0:=xD (oct o) (zS o) r s hr hs
set_option maxRecDepth 100000 in
def Dh:∀o,o<256->S8 0 o=kO o:=by decide
set_option maxRecDepth 100000 in
def FG:∀l,l<128->S8 l 0=256*l:=by decide
set_option maxRecDepth 100000 in
def Hw(k:Nat)(h:k<256):kO k<32768:=Hl _ _ om
def Ci(a b:Nat):128*(a ^^^ b)=(128*a) ^^^ (128*b):=by
 have e:∀x:Nat,128*x=x <<< 7:=fun x=>by rw[Nat.shiftLeft_eq];omega
 rw[e,e,e,Nat.shiftLeft_xor_distrib]
def BF(h o:Nat)(a:h<256)(ho:o<256):kO (h ^^^ o)=kO h ^^^ kO o:=by
 unfold kO;rw[Ci];exact vj (128*h) (128*o) 0 om om
def wM(r:Nat):r=(128*(r / 128)) ^^^ (r%128):=by
 have h:=qY (i:=7) (b:=r%128) om (r / 128);have a:2 ^ 7*(r / 128) ||| r%128=(2 ^ 7*(r / 128)) ^^^ (r%128):=by
  apply Nat.eq_of_testBit_eq;intro i;rw[Nat.testBit_or,Nat.testBit_xor];by_cases hi:i<7
  .have:(2 ^ 7*(r / 128)).testBit i=false:=by
    rw[Nat.testBit_two_pow_mul];simp;omega
   rw[this];simp
  .have:(r%128).testBit i=false:=by
    rw[show(128:Nat)=2 ^ 7 from rfl,Nat.testBit_mod_two_pow];simp;omega
   rw[this];simp
 have c:2 ^ 7*(r / 128)+r%128=r:=om;rw[c,a]at h;exact h
def Iu(r o:Nat)(d:r<32768)(ho:o<256):S8 r o=(r*256%32768) ^^^ kO ((r / 128) ^^^ o):=by
 have a:S8 r o=S8 0 o ^^^ S8 r 0:=by
  have:=vj 0 r o (by decide) d;rw[Nat.zero_xor]at this;exact this
 have b:S8 r 0=kO (r / 128) ^^^ 256*(r%128):=by
  have h1:=vj (128*(r / 128)) (r%128) 0 om om;rw[<- wM r,FG (r%128) om]at h1;exact h1
 have c:r*256%32768=256*(r%128):=om;rw[a,b,c,Dh o ho,BF _ _ om ho,Nat.xor_comm,Nat.xor_comm (kO (r / 128)) (256*(r%128)),Nat.xor_assoc]
def Es:Nat->Nat
 |0=>16384
 |j+1=>dE (Es j) 0
def Hq(j:Nat):Es j<32768:=by
 cases j with
 |zero=>decide
 |succ j=>exact iq _ _
set_option maxRecDepth 100000 in
def Gc:∀j,j<8->∀rest,rest<128->rest<2 ^ j->kO (2 ^ j ||| rest)=Es (j+1) ^^^ kO rest:=by decide
def Gb:kO 0=0:=by decide
end Go.Proofs.YtbbffcolnddcdaaGreatDoor.M
namespace Go.Proofs.YtbbffcolnddcdaaGreatDoor
open Go.Proofs.Tryz
set_option linter.all false
open Option renaming none->nn,some->sQ
set_option maxRecDepth 20000
open Go.RowKit
set_option maxHeartbeats 16000000
open Go.Value renaming int->I,slice->sL,bool->bO,pointer->pT,agg->aG
open Go.IntKind renaming i64->J
open Go.Ending renaming returned->rT
open Go.Proofs.Tryz renaming prog->Tp
section
variable{b m:Nat}{w w':World}
structure fU(w:World)(b m:Nat):Prop where
 cell:∀j,j<256->w.cell? ⟨b,3+j,nn⟩=sQ (I .u16 ((if j<m then M.kO j else 0:Nat):Int))
 free:∀j,w.frozen? ⟨b,j,nn⟩=false
structure je(b:Nat)(w w':World):Prop where
 bel:Below b w w'
 oth:∀k,k≠b->w'.heap[k]?=w.heap[k]?
 low:∀j,j<3->w'.cell? ⟨b,j,nn⟩=w.cell? ⟨b,j,nn⟩
def je.refl(b:Nat)(w:World):je b w w:=⟨bW _ _,fun _ _=>rfl,fun _ _=>rfl⟩
def je.set(h:je b w w')(j:Nat)(v:Value):je b w (w'.setCell ⟨b,3+j,nn⟩ v):=
 ⟨h.bel.setCell (p:=⟨b,3+j,nn⟩) pQ v,fun k hk=>(Ql w' ⟨b,3+j,nn⟩ k v hk).trans (h.oth k hk),fun i hi=>(Qr _ _ _ _ (by intro e;simp at e;try omega)).trans (h.low i hi)⟩
def je.drew(h:je b w w'):je b w w'.drew:=⟨h.bel.drew,h.oth,h.low⟩
def fU.drew(h:fU w b m):fU w.drew b m:=⟨h.cell,h.free⟩
def fU.put(h:fU w b m)(g:m<256)(x:Int)(f:x=(M.kO m:Int)):fU (w.setCell ⟨b,3+m,nn⟩ (I .u16 x)) b (m+1):=by
 refine⟨fun j c=>?_,fun j=>by rw[QL];exact h.free j⟩;by_cases e:j=m
 .subst e;rw[QD _ _ _ (h.cell j c),QW om,f]
 .rw[Qr _ _ _ _ (by intro d;simp at d;try omega),h.cell j c];by_cases a:j<m
  .rw[QW a,QW om]
  .rw[QV a,QV om]
def EA(j r:Nat)(d:j<8)(c:r<2 ^ j):bits BinOp.or IntKind.i64 ((2 ^ j:Nat):Int) (r:Int)=((2 ^ j+r:Nat):Int):=by
 have h1:(2:Nat) ^ j<=2 ^ 7:=qq (by decide) om;have a:2 ^ j ||| r=2 ^ j+r:=by
  have:=qY c 1;rw[Nat.mul_one]at this;exact this.symm
 show IntKind.i64.wrap ((BitVec.ofInt 64 ((2 ^ j:Nat):Int) ||| BitVec.ofInt 64 (r:Int)).toNat:Int)=_;rw[BitVec.toNat_or,ofInt_u64 _ om,ofInt_u64 r om,a,f9 _ om om]
def AH(j r:Nat)(g:j<8)(c:r<2 ^ j):bits BinOp.xor IntKind.u16 (M.Es (j+1):Int) (M.kO r:Int)=(M.kO (2 ^ j+r):Int):=by
 have h1:(2:Nat) ^ j<=2 ^ 7:=qq (by decide) om;have d:2 ^ j ||| r=2 ^ j+r:=by
  have:=qY c 1;rw[Nat.mul_one]at this;exact this.symm
 have a:=M.Gc j g r om c;rw[d]at a;rw[a];have e:=M.Hq (j+1);have f:=M.Hw r om;generalize M.Es (j+1)=x at*;generalize M.kO r=y at*;show IntKind.u16.wrap ((BitVec.ofInt 16 (x:Int) ^^^ BitVec.ofInt 16 (y:Int)).toNat:Int)=_;have h:(BitVec.ofInt 16 (x:Int)).toNat=x:=by simp;omega
 have hy:(BitVec.ofInt 16 (y:Int)).toNat=y:=by simp;omega
 have i:x ^^^ y<2 ^ 15:=Nat.xor_lt_two_pow e f;rw[BitVec.toNat_xor,h,hy];simp[IntKind.wrap,IntKind.bits,IntKind.signed];omega
def AI(w:World)(b:Nat)(h:fU w b 1):ce 274 #[ap b] w fun o w'=>o=rT (.tuple #[])/\fU w' b 256/\je b w w':=by
 go_enter func274,ntmps274;go_wp2;go_loopw [2,3] (fun r i wr=>∃j:Nat,j<=8/\r=I J (M.Es j:Int)/\i=I J ((2 ^ j:Nat):Int)/\fU wr b (2 ^ j)/\je b w wr) (fun _ i _=>256-(intOf i).toNat);case atStart=>exact⟨0,by decide,rfl,rfl,h,je.refl _ _⟩
 case round=>
  clear h;obtain⟨j,D,rfl,rfl,a,ho⟩:=hrel;by_cases g:j<8
  .have hp:(2:Nat) ^ j<=2 ^ 7:=qq (by decide) om;have H:0<(2:Nat) ^ j:=qR pQ;have v:=M.Hq j;have K:=M.Hq (j+1);have p:Hid (M.dE (M.Es j) 0=M.Es (j+1)):=rfl;have n:Hid (∀r:Nat,r<2 ^ j->bits BinOp.or IntKind.i64 ((2 ^ j:Nat):Int) (r:Int)=((2 ^ j+r:Nat):Int)):=fun r c=>EA j r g c;have s:Hid (∀r:Nat,r<2 ^ j->bits BinOp.xor IntKind.u16 (M.Es (j+1):Int) (M.kO r:Int)=(M.kO (2 ^ j+r):Int)):=fun r c=>AH j r g c;have f:Hid (2 ^ (j+1)=2 ^ j+2 ^ j):=by show(2:Nat) ^ (j+1)=_;rw[qC];omega
   have d:Hid (fU wr b (2 ^ j)/\je b w wr):=⟨a,ho⟩
   clear a ho;generalize k:(2:Nat) ^ j=q at*;have A:Hid ((2:Nat) ^ j=q):=k;clear k;have G:q<=128:=hp;clear hp;have E:decide ((q:Int)<256)=true:=by simp;omega
   generalize M.Es j=x at*;generalize hy:M.Es (j+1)=y at*;have t:Hid (M.Es (j+1)=y):=hy;clear hy;go_wp2_with(go_at_call 259;refine(iI x 0 _ v).mono ?_;rw[p.o];rintro o L ⟨rfl,rfl⟩);go_loopw [12] (fun i wr=>∃r:Nat,r<=q/\i=I J (r:Int)/\fU wr b (q+r)/\je b w wr) (fun i _=>q-(intOf i).toNat);case atStart=>exact⟨0,nZ _,rfl,d.o.1,d.o.2⟩
   case round=>
    clear d;obtain⟨r,c,rfl,a,ho⟩:=hrel;by_cases l:r<q
    .have hor:=n.o r l;have u:=a.cell r om;rw[QW om]at u;have B:=a.cell (q+r) om;have C:=a.free (3+(q+r));have e:Hid (fU (wr.setCell ⟨b,3+(q+r),nn⟩ (I .u16 (bits BinOp.xor IntKind.u16 (y:Int) (M.kO r:Int)))) b (q+r+1)/\je b w (wr.setCell ⟨b,3+(q+r),nn⟩ (I .u16 (bits BinOp.xor IntKind.u16 (y:Int) (M.kO r:Int))))):=⟨a.put om _ (s.o r l),ho.set _ _⟩
     clear a ho;generalize M.kO r=z at*;go_wp2;go_region;go_wp2;refine⟨⟨r+1,om,by go_num,e.o.1.drew,e.o.2.drew⟩,by simp[intOf];omega⟩
    .have hrr:r=q:=om;subst hrr;go_wp2;go_roundw;case rel=>exact⟨j+1,om,by rw[t.o],by rw[f.o];go_num,by rw[f.o];exact a,ho⟩
     case measure=>simp[intOf];omega
  .have hj9:j=8:=om;subst hj9;go_wp2;go_end0;exact⟨rfl,a,ho⟩
end
end Go.Proofs.YtbbffcolnddcdaaGreatDoor
