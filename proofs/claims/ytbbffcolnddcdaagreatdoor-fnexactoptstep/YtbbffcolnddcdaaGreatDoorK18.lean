import Derived.Test.YtbbffcolnddcdaaGreatDoorK17
import Derived.Test.YtbbffcolnddcdaaGreatDoorK00
namespace Go.Proofs.YtbbffcolnddcdaaGreatDoor
open Go.Proofs.Tryz
open Option renaming none->nn,some->sQ
open Go.RowKit
set_option linter.all false
set_option maxHeartbeats 16000000
open Go.Value renaming int->I,slice->sL,bool->bO,pointer->pT,agg->aG
open Go.IntKind renaming i64->J
open Go.Ending renaming returned->rT
open Go.Proofs.Tryz renaming prog->Tp
open Go.Sort in
def jy{w w':World}{g off:Nat}{d:Array Int}{n:Nat}{a:Array Obj}(j:g<w.heap.size)(h:w'=grow (putRow (Value.int .i64) (Sort.ahead w n) g off d) a):(∀b,b≠g->b<w.heap.size->w'.heap[b]?=w.heap[b]?)/\Below g w w':=by
 subst h;have c:∀b,b≠g->b<w.heap.size->(grow (putRow (Value.int .i64) (Sort.ahead w n) g off d) a).heap[b]?=w.heap[b]?:=by
  intro b f i;show((w.heap.modify g _)++a)[b]?=_;rw[Array.getElem?_append_left (by simpa using i),Array.getElem?_modify,QV (fun e=>f e.symm)]
 refine⟨c,rfl,rfl,rfl,?_,fun k l=>c k om om⟩;show w.heap.size<=((w.heap.modify g _)++a).size;simp
def mL(s:List Int)(hs:∀i j(hi:i<s.length)(hj:j<s.length),i<j->s[i]<=s[j])(ha:∀j(hj:j<s.length),0<j->s[j]'hj≠s[j-1]'om):∀j(hj:j<s.length)i(hi:i<s.length),i<j->s[i]<s[j]:=by
 intro j;induction j with
 |zero=>intro hj i hi h;exact Qj h (nN _)
 |succ j ih=>
  intro hj i hi h;have h1:s[j]'om<=s[j+1]:=hs j (j+1) om hj om;have h2:=ha (j+1) hj om;have e:s[j+1-1]'om=s[j]'om:=rfl;rw[e]at h2;have h3:s[j]'om<s[j+1]:=om;by_cases hij:i=j
  .subst hij;exact h3
  .have:=ih om i hi om;omega
def nD(zs:List Int):((Lib.compact (zs.mergeSort fun x y=>decide (x<=y))).length=zs.length)↔zs.Nodup:=by
 have hp:(zs.mergeSort fun x y=>decide (x<=y)).Perm zs:=List.mergeSort_perm _ _;have hpw:=List.pairwise_mergeSort (le:=fun x y:Int=>decide (x<=y)) (fun a b c h1 h2=>by simp at*;omega) (fun a b=>by simp;omega) zs;generalize (zs.mergeSort fun x y=>decide (x<=y))=s at*;rw[<- hp.nodup_iff,<- hp.length_eq];have hs:∀i j(hi:i<s.length)(hj:j<s.length),i<j->s[i]<=s[j]:=by
  intro i j hi hj hij;have:=List.pairwise_iff_getElem.1 hpw i j hi hj hij;simpa using this
 have hget:∀j(hj:j<s.length),s.toArray[j]! = s[j]:=by
  intro j hj;rw[getElem!_pos s.toArray j (by simpa using hj)];simp
 have hlen:(Lib.compact s).length=((List.range s.length).filter (Lib.keeps s.toArray)).length:=by
  unfold Lib.compact Lib.compactUpTo;rw[qP]
 rw[hlen];have hr:s.length=(List.range s.length).length:=pQ;conv=>lhs;rhs;rw[hr]
 rw[List.length_filter_eq_length_iff];constructor
 .intro h;have ha:∀j(hj:j<s.length),0<j->s[j]'hj≠s[j-1]'om:=by
   intro j hj h0;have:=h j (by simpa using hj);unfold Lib.keeps at this;rw[qQ]at this;rcases this with e|e
   .omega
   .rw[hget j hj,hget (j-1) om]at e;exact e
  have hst:=mL s hs ha;rw[List.nodup_iff_pairwise_ne,List.pairwise_iff_getElem];intro i j hi hj hij;have:=hst j hj i hi hij;omega
 .intro h j hj;have hj':j<s.length:=by simpa using hj
  unfold Lib.keeps;rw[qQ];by_cases h0:j=0
  .exact qp h0
  .refine qt ?_;rw[hget j hj',hget (j-1) om];intro e;rw[List.nodup_iff_pairwise_ne,List.pairwise_iff_getElem]at h;exact h (j-1) j om hj' om e.symm
open Go.Sort in
def nH(w:World)(g cap:Nat)(zs:List Int)(p:Holds (Value.int .i64) w g 0 zs.toArray)(c:g<w.heap.size)(E:zs.length<=cap)(t:zs.length<=100):ce 207 #[sL (be g) zs.length cap] w fun o w'=>bH o zs.Nodup/\(∀b,b≠g->b<w.heap.size->w'.heap[b]?=w.heap[b]?)/\Below g w w':=by
 have B:Hid (ce 239 #[sL (be g) zs.length cap] w fun e w'=>e=rT (.tuple #[])/\Holds (Value.int .i64) w' g 0 (zs.mergeSort fun x y=>decide (x<=y)).toArray/\(∀b,b≠g->b<w.heap.size->w'.heap[b]?=w.heap[b]?)/\Below g w w'):=by
  refine(Go.Proofs.Tryz.slices_Sort_int g 0 cap zs w p c om).mono ?_;rintro e w' ⟨rfl,n,L,i⟩;have h:=jy c i;refine⟨rfl,?_,h.1,h.2⟩;subst i;have h1:=holds_putRow (Value.int .i64) (Sort.ahead w n) g 0 zs.toArray (zs.mergeSort fun x y=>decide (x<=y)).toArray (holds_ahead _ _ _ _ _ _ p) pQ;intro j H;have a:=h1 j H;rw[cell?_grow _ _ _ (by simpa using c),frozen?_grow _ _ _ (by simpa using c)];exact a
 have v:Hid (∀W,Holds (Value.int .i64) W g 0 (zs.mergeSort fun x y=>decide (x<=y)).toArray->g<W.heap.size->ce 240 #[sL (be g) zs.length cap] W fun e w'=>(∃m:Nat,e=rT (sL (be g) m cap)/\(m=zs.length↔zs.Nodup))/\(∀b,b≠g->b<W.heap.size->w'.heap[b]?=W.heap[b]?)/\Below g W w'):=by
  intro W D G;have k:(zs.mergeSort fun x y=>decide (x<=y)).length=zs.length:=List.length_mergeSort _;have h1:=Go.Proofs.Tryz.slices_Compact_int g 0 cap (zs.mergeSort fun x y=>decide (x<=y)) W D om om;rw[k]at h1;refine h1.mono ?_;rintro e w' ⟨rfl,q,i⟩;have C:w'=grow (putRow (Value.int .i64) (Sort.ahead W q) g 0 (Lib.compact (zs.mergeSort fun x y=>decide (x<=y))++List.replicate (zs.length-(Lib.compact (zs.mergeSort fun x y=>decide (x<=y))).length) 0).toArray) #[]:=by rw[grow_empty];exact i
  have h:=jy G C;exact⟨⟨_,rfl,nD zs⟩,h.1,h.2⟩
 have K:Hid (zs.length<=100):=t;have A:Hid (g<w.heap.size):=c;clear p E t c;generalize zs.length=n at*;go_enter func207,ntmps207;go_wp2_with fail;refine B.o.mono ?_;rintro o l ⟨rfl,h1,a,f⟩;have d:Hid (Holds (Value.int .i64) l g 0 (zs.mergeSort fun x y=>decide (x<=y)).toArray/\(∀b,b≠g->b<w.heap.size->l.heap[b]?=w.heap[b]?)/\Below g w l):=⟨h1,a,f⟩
 clear h1 a f;go_wp2_with fail;refine(v.o l d.o.1 (nL A.o d.o.2.2.size)).mono ?_;rintro o u ⟨⟨m,rfl,s⟩,a,f⟩;have H2:Hid ((m=n↔zs.Nodup)/\(∀b,b≠g->b<w.heap.size->u.heap[b]?=w.heap[b]?)/\Below g w u):=⟨s,fun b r k=>(a b r (nL k d.o.2.2.size)).trans (d.o.2.1 b r k),d.o.2.2.trans f⟩
 clear a f s;go_wp2_with fail;go_ret;refine⟨⟨_,rfl,?_⟩,H2.o.2⟩;rw[<- H2.o.1];simp;try omega
def nG(w:World):ce 207 #[sL nn 0 0] w fun o w'=>o=rT (bO true)/\w'=w:=by
 have b:Hid (∀W,ce 239 #[sL nn 0 0] W fun e w'=>e=rT (.tuple #[])/\w'=W):=fun W=>Go.Proofs.Tryz.slices_Sort_int_none nn 0 W;have a:Hid (∀W,ce 240 #[sL nn 0 0] W fun e w'=>e=rT (sL nn 0 0)/\w'=W):=fun W=>Go.Proofs.Tryz.slices_Compact_int_empty nn 0 W;go_enter func207,ntmps207
 go_wp2_with(first|(go_at_call 239;refine(b.o _).mono ?_;rintro o c ⟨rfl,rfl⟩)|(go_at_call 240;refine(a.o _).mono ?_;rintro o c ⟨rfl,rfl⟩))
 go_ret;exact⟨rfl,rfl⟩
open Go renaming World->Wd
set_option maxRecDepth 20000
open Go.IntKind renaming i64->J,u32->Zk
section
variable{W w0 W':Wd}{B PB:Nat}{v1 v2 v:Value}{l1 l2 l:List Int}{L:List Value}
def vF{c:Type}{R S:c->c->Prop}(H:∀a b,R a b->S a b):∀{l:List c},l.Pairwise R->l.Pairwise S:=by
 intro l;induction l with
 |nil=>intro _;exact List.Pairwise.nil
 |cons a l ih=>
  intro h;have d:=List.pairwise_cons.1 h;exact List.pairwise_cons.2 ⟨fun b e=>H a b (d.1 b e),ih d.2⟩
def info3:(Tp.info? 3).map (fun i=>(i.zero,i.size,i.bytes))=sQ (sQ (I J 0),1,8):=kr
def dS(w:Wd)(B:Nat)(v:Value)(l:List Int):Prop:=w.ownsRow B 3 1 v l.length (l.map (Value.int .i64))
structure ie(w0 W:Wd)(B:Nat)(v1 v2:Value)(l1 l2:List Int):Prop where
 o1:dS W B v1 l1
 o2:dS W B v2 l2
 ne:∀g,v1.ownBlock=sQ g->v2.ownBlock≠sQ g
 b:Below B w0 W
 s:B<=W.heap.size
def kj(bx:List R8):Nat:=bx.countP (fun b=>b.x==2||b.x==3)
def nfY(bx:List R8):List Int:=(bx.filter (fun b=>b.x !=0)).map (·.y)
def nfZ(bx:List R8):List Int:=(bx.filter (fun b=>b.x !=0)).map (·.z)
def Ir(ho:dS W B v l)(z:Int)(b:Nat)(h:W.heap[b]?=sQ (.cells #[I J z] 3))(s:l.length<=100)(hB:B<=W.heap.size)(R:TypeId):∃a W',(Builtin.append_ #[248,248] R #[v,sL (be b) 1 1]).run Tp W= .ok a W'/\dS W' B a (l++[z])/\W.grownBy W' v.ownBlock/\(a.ownBlock=v.ownBlock\/a.ownBlock=sQ W.heap.size):=by
 obtain⟨r,hi,k,n,p⟩:=QH info3
 obtain⟨a,w',i,e,f,_,g⟩:=run_append_own_at (P:=Tp) W B 248 R 3 r (I J 0) 1 8 underlying248 hi k n p rfl (by decide) v l.length (l.map (Value.int .i64)) ho ⟨b,0,nn⟩ 1 1 [I J z] rfl (by
  intro j u c;match j,c with
  |0,c=>simp at c;subst c;simp[Addr.add,World.cell?,h]) (by intro u d;simp at d;subst d;rfl) (by unfold maxLen;omega) om hB
 refine⟨a,w',i,?_,f,g⟩;unfold dS;rw[QX,List.map_append];exact e
def dS.kept{row:Option Nat}(h:dS W B v l)(hg:W.grownBy W' row)(hne:v.ownBlock=nn\/v.ownBlock≠row):dS W' B v l:=World.ownsRow.kept h hg hne
def dS.alloc(h:dS W B v l)(o:Obj):dS (W.alloc o) B v l:=Qx h o
def dS.drew(h:dS W B v l):dS W.drew B v l:=h
def dS.lt(h:dS W B v l)(g:Nat)(hg:v.ownBlock=sQ g):B<=g/\g<W.heap.size:=Qm h g hg
def iZ{a:Type}(f:List R8->List a)(g:R8->List a)(c:∀l b,f (l++[b])=f l++g b)(bx:List R8)(k:Nat)(h:k<bx.length):f (bx.take (k+1))=f (bx.take k)++g bx[k]:=by
 rw[qe h,c]
def zZ(bx:List R8)(k:Nat)(h:k<bx.length):nfY (bx.take (k+1))=nfY (bx.take k)++(if(bx[k].x !=0)=true then[bx[k].y]else[]):=
 iZ nfY (fun b=>if(b.x !=0)=true then[b.y]else[]) (fun l b=>by unfold nfY;rw[List.filter_append,List.map_append];congr 1;by_cases hb:(b.x !=0)=true<;>simp[hb]) bx k h
def zW(bx:List R8)(k:Nat)(h:k<bx.length):nfZ (bx.take (k+1))=nfZ (bx.take k)++(if(bx[k].x !=0)=true then[bx[k].z]else[]):=
 iZ nfZ (fun b=>if(b.x !=0)=true then[b.z]else[]) (fun l b=>by unfold nfZ;rw[List.filter_append,List.map_append];congr 1;by_cases hb:(b.x !=0)=true<;>simp[hb]) bx k h
def tw(bx:List R8)(k:Nat)(h:k<bx.length):kj (bx.take (k+1))=kj (bx.take k)+(if(bx[k].x==2||bx[k].x==3)=true then 1 else 0):=by
 unfold kj;rw[qe h,List.countP_append];simp[List.countP_cons]
def vK(bx:List R8):(nfY bx).length<=bx.length/\(nfZ bx).length<=bx.length:=by
 unfold nfY nfZ;rw[qP,qP];exact⟨List.length_filter_le _ _,List.length_filter_le _ _⟩
def xi(st:Int)(bx:List R8)(hA:∀j(e:j<bx.length),cV st bx[j]):da st bx↔(kj bx<=1/\(nfY bx).Nodup/\(nfZ bx).Nodup):=by
 have f:iJ bx=kj bx:=by
  unfold iJ kj;apply List.countP_congr;intro b f;obtain⟨j,e,rfl⟩:=List.getElem_of_mem f;have:=hA j e;unfold cV at this;split at this
  .rename_i h0;simp[h0]
  .rename_i h0;simp[h0];omega
 have p:(∀i j(hi:i<bx.length)(e:j<bx.length),i<j->far bx[i] bx[j])↔((nfY bx).Nodup/\(nfZ bx).Nodup):=by
  have g:(∀i j(hi:i<bx.length)(e:j<bx.length),i<j->far bx[i] bx[j])↔bx.Pairwise far:=List.pairwise_iff_getElem.symm;have k:(nfY bx).Nodup↔bx.Pairwise (fun a b=>a.x≠0->b.x≠0->a.y≠b.y):=by
   unfold nfY;rw[List.nodup_iff_pairwise_ne,List.pairwise_map,List.pairwise_filter];simp
  have n:(nfZ bx).Nodup↔bx.Pairwise (fun a b=>a.x≠0->b.x≠0->a.z≠b.z):=by
   unfold nfZ;rw[List.nodup_iff_pairwise_ne,List.pairwise_map,List.pairwise_filter];simp
  rw[g,k,n,<- List.pairwise_and_iff];constructor
  .exact fun h=>vF (fun a b d=>⟨fun h1 c=>(d h1 c).1,fun h1 c=>(d h1 c).2⟩) h
  .exact fun h=>vF (fun a b d h1 c=>⟨d.1 h1 c,d.2 h1 c⟩) h
 unfold da;rw[p,f];exact⟨fun h=>⟨h.2.2,h.2.1.1,h.2.1.2⟩,fun h=>⟨hA,⟨h.2.1,h.2.2⟩,h.1⟩⟩
def ie.below(h:ie w0 W B v1 v2 l1 l2)(a:Bl W W'):ie w0 W' B v1 v2 l1 l2:=by
 have c:W.grownBy W' nn:=⟨a.os,a.tape,a.output,a.size,fun k d _=>a.block k d⟩
 have hne:∀v:Value,v.ownBlock=nn\/v.ownBlock≠nn:=fun v=>by cases v.ownBlock<;>simp
 exact⟨h.o1.kept c (hne v1),h.o2.kept c (hne v2),h.ne,h.b.trans (a.mono h.s),nT h.s a.size⟩
open Go.Sort in
def mA(h:dS W B v l)(u:l.length<=100)(hB:B<=W.heap.size):ce 207 #[v] W fun o W'=>bH o l.Nodup/\W.grownBy W' v.ownBlock/\Below B W W':=by
 by_cases c:v=sL nn 0 0
 .subst c;have w:l=[]:=by
   rcases h.2 with⟨_,x⟩|⟨g,cap,cur,e,_⟩
   .exact List.length_eq_zero_iff.1 x
   .cases e
  subst w;refine(nG W).mono ?_;rintro o W' ⟨rfl,rfl⟩;exact⟨⟨true,rfl,pQ⟩,⟨rfl,rfl,rfl,nR _,fun _ _ _=>rfl⟩,bW _ _⟩
 .have h':=h;obtain⟨g,cap,rfl,h1,d,f,i⟩:=gn h c;have n:Holds (Value.int .i64) W g 0 l.toArray:=by
   intro j b;have p:j<l.length:=by simpa using b
   refine⟨?_,by rw[qg];exact QF h' j⟩;rw[qg,i W rfl j om,List.getElem?_map,getElem!_pos l.toArray j b];simp[Q4 p]
  refine(nH W g cap l n d f u).mono ?_;rintro o W' ⟨y,r,a⟩;exact⟨y,⟨a.os,a.tape,a.output,a.size,fun k s t=>r k (fun e=>t (by rw[e];rfl)) s⟩,a.mono h1⟩
def eQ{c:Array Oper}{o:Oper}{a:Act}{K:Act->Wd->Prop}{Q:Exit->Act->Wd->Prop}{E:Prop}(e:o.guard=nn)(s x:Operand)
  (ho:o.op= .call {callee:=.builtin .append,args:=#[s,x],argTypes:=#[248,248]}) (v:Value) (hs:a.eval s=v) (b:Nat) (i:a.eval x=sL (be b) 1 1) (d:Value) (W W':Wd)
  (f:(Builtin.append_ #[248,248] o.type #[v,sL (be b) 1 1]).run Tp W= .ok d W') (h:K (a.put o.dst d) W') :
  if Region.wanted o (yielded c a.tmps)=true then Oper.wp Tp o a W K Q else E:=by
 have g:Region.wanted o (yielded c a.tmps)=true:=by simp[Region.wanted,e]
 rw[QW g];unfold Oper.wp execOp;simp only[ho,resolve,invoke,builtin,QS,Sem.run_pure,Result.andThen_ok,List.map_toArray,Qi,List.map_nil,hs,i,f];exact h
def ie.alloc(h:ie w0 W B v1 v2 l1 l2)(o:Obj):ie w0 (W.alloc o).drew B v1 v2 l1 l2:=⟨(h.o1.alloc o).drew,(h.o2.alloc o).drew,h.ne,(h.b.alloc h.s o).drew,by show B<=(W.alloc o).heap.size;have:=h.s;simp;omega⟩
def DN(h:ie w0 W B v1 v2 l1 l2)(y:Int)(b:Nat)(p:W.heap[b]?=sQ (.cells #[I J y] 3))(r:l1.length<=100)(R:TypeId):∃a W',(Builtin.append_ #[248,248] R #[v1,sL (be b) 1 1]).run Tp W= .ok a W'/\ie w0 W' B a v2 (l1++[y]) l2/\(∀k,k<W.heap.size->v1.ownBlock≠sQ k->W'.heap[k]?=W.heap[k]?)/\W.heap.size<=W'.heap.size/\(a.ownBlock=v1.ownBlock\/a.ownBlock=sQ W.heap.size):=by
 obtain⟨a,W',u,ho,c,j⟩:=Ir h.o1 y b p r h.s R;have t:∀g,a.ownBlock=sQ g->v2.ownBlock≠sQ g:=by
  intro g f d;rcases j with e|e
  .exact h.ne g (e ▸ f) d
  .rw[e]at f;cases f;exact Qj (h.o2.lt _ d).2 (qZ _)
 have i:v2.ownBlock=nn\/v2.ownBlock≠v1.ownBlock:=by
  cases e:v2.ownBlock with
  |none=>exact qp rfl
  |some g=>exact qt fun d=>h.ne g d.symm e
 refine⟨a,W',u,⟨ho,h.o2.kept c i,t,h.b.grown c h.s (fun k i=>(h.o1.lt k i).1),nT h.s c.size⟩,fun k h1 n=>c.block k h1 (fun e=>n e.symm),c.size,j⟩
def ie.symm(h:ie w0 W B v1 v2 l1 l2):ie w0 W B v2 v1 l2 l1:=⟨h.o2,h.o1,fun g h1 h2=>h.ne g h2 h1,h.b,h.s⟩
def Hj(h:ie w0 W B v1 v2 l1 l2)(y:Int)(b:Nat)(f:W.heap[b]?=sQ (.cells #[I J y] 3))(g:l2.length<=100)(R:TypeId):∃a W',(Builtin.append_ #[248,248] R #[v2,sL (be b) 1 1]).run Tp W= .ok a W'/\ie w0 W' B v1 a l1 (l2++[y])/\(∀k,k<W.heap.size->v2.ownBlock≠sQ k->W'.heap[k]?=W.heap[k]?)/\W.heap.size<=W'.heap.size/\(a.ownBlock=v2.ownBlock\/a.ownBlock=sQ W.heap.size):=by
 obtain⟨a,W',i,h1,c,d,e⟩:=DN h.symm y b f g R;exact⟨a,W',i,h1.symm,c,d,e⟩
structure rg(w0 W:Wd)(B PB:Nat)(L:List Value)(v1 v2:Value)(l1 l2:List Int):Prop where
 t:ie w0 W B v1 v2 l1 l2
 p:blk W PB L 114
 n1:v1.ownBlock≠sQ PB
 n2:v2.ownBlock≠sQ PB
def rg.alloc(h:rg w0 W B PB L v1 v2 l1 l2)(o:Obj):rg w0 (W.alloc o).drew B PB L v1 v2 l1 l2:=⟨h.t.alloc o,h.p.alloc o,h.n1,h.n2⟩
def rg.alloc'(h:rg w0 W B PB L v1 v2 l1 l2)(o:Obj):rg w0 (W.alloc o) B PB L v1 v2 l1 l2:=⟨⟨h.t.o1.alloc o,h.t.o2.alloc o,h.t.ne,h.t.b.alloc h.t.s o,by have:=h.t.s;simp;omega⟩,h.p.alloc o,h.n1,h.n2⟩
def ja(W:Wd)(o:Obj):(W.alloc o).drew.heap[W.heap.size]?=sQ o:=Qy W o
def rg.app1(h:rg w0 W B PB L v1 v2 l1 l2)(y:Int)(b:Nat)(i:W.heap[b]?=sQ (.cells #[I J y] 3))(n:l1.length<=100)(R:TypeId):∃a W',(Builtin.append_ #[248,248] R #[v1,sL (be b) 1 1]).run Tp W= .ok a W'/\rg w0 W' B PB L a v2 (l1++[y]) l2/\(∀k x,v1.ownBlock≠sQ k->W.heap[k]?=sQ x->W'.heap[k]?=sQ x):=by
 obtain⟨a,W',r,h1,c,s,g⟩:=DN h.t y b i n R;refine⟨a,W',r,⟨h1,(c PB h.p.lt h.n1).trans h.p,?_,h.n2⟩,fun k x j d=>(c k (av d) j).trans d⟩;rcases g with e|e
 .rw[e];exact h.n1
 .rw[e];intro f;cases f;exact Qj h.p.lt (qZ _)
def rg.app2(h:rg w0 W B PB L v1 v2 l1 l2)(y:Int)(b:Nat)(i:W.heap[b]?=sQ (.cells #[I J y] 3))(n:l2.length<=100)(R:TypeId):∃a W',(Builtin.append_ #[248,248] R #[v2,sL (be b) 1 1]).run Tp W= .ok a W'/\rg w0 W' B PB L v1 a l1 (l2++[y])/\(∀k x,v2.ownBlock≠sQ k->W.heap[k]?=sQ x->W'.heap[k]?=sQ x):=by
 obtain⟨a,W',r,h1,c,s,g⟩:=Hj h.t y b i n R;refine⟨a,W',r,⟨h1,(c PB h.p.lt h.n2).trans h.p,h.n1,?_⟩,fun k x j d=>(c k (av d) j).trans d⟩;rcases g with e|e
 .rw[e];exact h.n2
 .rw[e];intro f;cases f;exact Qj h.p.lt (qZ _)
def lA(w:Wd)(a:Option Addr)(n cap:Nat)(bx:List R8)(st:Int)(h:aP w a n cap bx)(hn:n<=8)(bi:0<=st/\st<=1000000):ce 171 #[sL a n cap,I J st] w fun o w'=>bH o (da st bx)/\Bl w w':=by
 have HH:=hI h;have HL:=hI h.len;have bs:=h.cap;have bn:=hI bi;clear h bi;go_enter func171,ntmps171;go_wp2_with fail;go_loopw [5,6,7,12] (fun v1 v2 q i wr=>∃k m:Nat,k<=n/\i=I J (k:Int)/\q=I J (m:Int)/\m<=k/\m=kj (bx.take k)/\(∀j(hj:j<bx.length),j<k->cV st bx[j])/\ie w wr w.heap.size v1 v2 (nfY (bx.take k)) (nfZ (bx.take k))) (fun _ _ _ i _=>n-(intOf i).toNat);case atStart=>exact⟨0,0,nZ _,rfl,rfl,nR _,(by simp[kj]),fun j hj h=>Qj h (nN _),⟨QQ w _ 3 1,QQ w _ 3 1,(fun g h=>(by cases h)),bW _ _,nR _⟩⟩
 case round=>
  obtain⟨k,q,hk,rfl,rfl,bu,hq,hA,hT⟩:=hrel;have HQ:=hI hq;have HA:=hI hA;have HT:=hI hT;clear hq hA hT;by_cases bt:k<n
  .have hkl:k<bx.length:=by have:=HL.o;omega
   obtain⟨g,off,rfl,hc⟩:=HH.o.cells (fun e=>by rw[e]at hkl;cases hkl);obtain⟨A,m,c,hx⟩:=hc k hkl;have am:=hx.below HT.o.b;have af:=am.range;have hY:=zZ bx k hkl;have hZ:=zW bx k hkl;have hW:=tw bx k hkl;have a5:=oS (wr.alloc (.cells #[I J bx[k].x,I J bx[k].y,I J bx[k].z,bO bx[k].e,I Zk (bx[k].i:Int),bO bx[k].r,I J bx[k].d,sL A m c] 114)) bx[k] st A m c (am.dat.below Zw) bn.o;have ac:Hid (¬cV st bx[k]->¬da st bx):=n9 hkl;have a9:Hid (cV st bx[k]->∀j(hj:j<bx.length),j<k+1->cV st bx[j]):=fun h=>lP hkl HA.o h;have ap:=vK (bx.take k);rw[qh]at ap;have a4:Hid ((nfY (bx.take k)).length<=100/\(nfZ (bx.take k)).length<=100):=⟨om,om⟩
   obtain⟨b,hb⟩:∃b,bx[k]=b:=⟨_,rfl⟩
   rw[hb]at af hY hZ hW a5 ac a9;obtain⟨x,y,z,e,i,r,d,l⟩:=b;simp only[]at a5 hY hZ hW;have ad:=hI af;have HY:=hI hY;have HZ:=hI hZ;have HW:=hI hW;have ak:Hid (ie w (wr.alloc (.cells #[I J x,I J y,I J z,bO e,I Zk (i:Int),bO r,I J d,sL A m c] 114)) w.heap.size u5 u6 (nfY (bx.take k)) (nfZ (bx.take k))):=HT.o.below Zw;by_cases a1:¬cV st ⟨x,y,z,e,i,r,d,l⟩
   .have HBAD:=hI (ac.o a1);have HV:Hid (ce 206 #[bxV x y z e i r d A m c,I J st] (wr.alloc (.cells #[I J x,I J y,I J z,bO e,I Zk (i:Int),bO r,I J d,sL A m c] 114)) fun o w'=>o=rT (bO false)/\Below (wr.alloc (.cells #[I J x,I J y,I J z,bO e,I Zk (i:Int),bO r,I J d,sL A m c] 114)).heap.size (wr.alloc (.cells #[I J x,I J y,I J z,bO e,I Zk (i:Int),bO r,I J d,sL A m c] 114)) w'):=a5.mono (by rintro o w' ⟨⟨bb,rfl,h1⟩,D⟩;cases bb;exact⟨rfl,D⟩;exact Qj (h1.1 rfl) a1)
    clear hx am hb af hY hZ hW a5 ac a9 ap a1 hc;go_wp2_with(first|(refine ZG 114 ad.o underlying114 cK ?_)|(go_at_call 206;refine HV.o.mono ?_;rintro o C ⟨rfl,a0⟩))
    go_ret;exact⟨⟨false,rfl,by simpa using HBAD.o⟩,(ak.o.below a0).b⟩
   have a1:=Classical.not_not.1 a1;have a2:=hI (a9.o a1);have HV:Hid (ce 206 #[bxV x y z e i r d A m c,I J st] (wr.alloc (.cells #[I J x,I J y,I J z,bO e,I Zk (i:Int),bO r,I J d,sL A m c] 114)) fun o w'=>o=rT (bO true)/\Below (wr.alloc (.cells #[I J x,I J y,I J z,bO e,I Zk (i:Int),bO r,I J d,sL A m c] 114)).heap.size (wr.alloc (.cells #[I J x,I J y,I J z,bO e,I Zk (i:Int),bO r,I J d,sL A m c] 114)) w'):=a5.mono (by rintro o w' ⟨⟨bb,rfl,h1⟩,D⟩;rw[h1.2 a1];exact⟨rfl,D⟩);have P:Hid (∀W,ce 176 #[bxV x y z e i r d A m c] W fun o w'=>o=rT (bO (x==2||x==3))/\Bl W w'):=fun W=>gX W ⟨x,y,z,e,i,r,d,l⟩ A m c;clear hx am hb af hY hZ hW a5 ac a9 ap a1 hc;by_cases b7:x=0
   .subst b7;go_wp2_with(first|(refine ZG 114 ad.o underlying114 cK ?_)|(go_at_call 206;refine HV.o.mono ?_;rintro o C ⟨rfl,a0⟩;have T:Hid (blk C wr.heap.size [I J 0,I J y,I J z,bO e,I Zk (i:Int),bO r,I J d,sL A m c] 114/\ie w C w.heap.size u5 u6 (nfY (bx.take k)) (nfZ (bx.take k))):=⟨(blk.new wr [I J 0,I J y,I J z,bO e,I Zk (i:Int),bO r,I J d,sL A m c] 114).below a0,ak.o.below a0⟩;have y0:=T.o.1.cell 0 _ rfl;clear a0)|(refine ZG 114 T.o.1.load underlying114 cK ?_)|(go_at_call 176;refine(P.o _).mono ?_;rintro o w5 ⟨rfl,Q⟩))
    go_roundw;case rel=>
     refine⟨k+1,q,om,by go_num,rfl,om,?_,a2.o,?_⟩
     .rw[HW.o,<- HQ.o];simp
     .rw[HY.o,HZ.o];simpa using T.o.2.below Q
    case measure=>simp[intOf];omega
   .have hx0':(x !=0)=true:=by simpa using b7
    have a6:Hid (nfY (bx.take (k+1))=nfY (bx.take k)++[y]):=by have:=HY.o;rw[QW hx0']at this;exact this
    have a7:Hid (nfZ (bx.take (k+1))=nfZ (bx.take k)++[z]):=by have:=HZ.o;rw[QW hx0']at this;exact this
    clear b7 HY HZ;go_wp2_with(first|(refine ZG 114 ad.o underlying114 cK ?_)|(go_at_call 206;refine HV.o.mono ?_;rintro o C ⟨rfl,a0⟩;have T:Hid (blk C wr.heap.size [I J x,I J y,I J z,bO e,I Zk (i:Int),bO r,I J d,sL A m c] 114/\ie w C w.heap.size u5 u6 (nfY (bx.take k)) (nfZ (bx.take k))/\w.heap.size<=wr.heap.size):=⟨(blk.new wr [I J x,I J y,I J z,bO e,I Zk (i:Int),bO r,I J d,sL A m c] 114).below a0,ak.o.below a0,HT.o.s⟩;have y0:=T.o.1.cell 0 _ rfl;clear a0))
    have y1:=T.o.1.cell 1 _ rfl;have y2:=T.o.1.cell 2 _ rfl;clear y0;have bg:(∀g,u5.ownBlock=sQ g->g<wr.heap.size)/\(∀g,u6.ownBlock=sQ g->g<wr.heap.size):=⟨fun g hg=>(HT.o.o1.lt g hg).2,fun g hg=>(HT.o.o2.lt g hg).2⟩
    have b9:=hI bg;clear bg HT ak HV ad;generalize wr.heap.size=PB at*;generalize nfY (bx.take k)=L1 at*;generalize nfZ (bx.take k)=L2 at*;refine Qu (S:=(fun W=>W.cell? ⟨PB,1,nn⟩=sQ (I J y)/\W.cell? ⟨PB,2,nn⟩=sQ (I J z))) kr ?_;have hS:(fun W=>W.cell? ⟨PB,1,nn⟩=sQ (I J y)/\W.cell? ⟨PB,2,nn⟩=sQ (I J z)) C.drew:=⟨(QR _ _).trans y1,(QR _ _).trans y2⟩
    simp only[]at hS;refine tk 0 ?_;refine tk 1 ?_;refine tk 2 ?_;refine tk 5 ?_;refine tk 6 ?_;refine tk 7 ?_;have R0:Hid (rg w C w.heap.size PB [I J x,I J y,I J z,bO e,I Zk (i:Int),bO r,I J d,sL A m c] u5 u6 L1 L2):=⟨T.o.2.1,T.o.1,fun e=>qZ _ (b9.o.1 _ e),fun e=>qZ _ (b9.o.2 _ e)⟩
    have a8:Hid ((∀g,u5.ownBlock=sQ g->g<C.heap.size)/\(∀g,u6.ownBlock=sQ g->g<C.heap.size)):=⟨fun g hg=>(T.o.2.1.o1.lt g hg).2,fun g hg=>(T.o.2.1.o2.lt g hg).2⟩
    clear y1 y2;refine Qq (rs:=[3,8]) kr pQ ?_;refine QT rfl (fun K f=>?_) (QT rfl (fun K f=>?_) QU)
    .go_simp;have M:Hid (rg w (C.alloc (.cells #[I J y] 3)).drew w.heap.size PB [I J x,I J y,I J z,bO e,I Zk (i:Int),bO r,I J d,sL A m c] u5 u6 L1 L2/\(C.alloc (.cells #[I J y] 3)).drew.heap[C.heap.size]?=sQ (.cells #[I J y] 3)):=⟨R0.o.alloc _,ja C _⟩
     have N5:Hid (u5.ownBlock≠sQ C.heap.size/\u6.ownBlock≠sQ C.heap.size):=⟨fun e=>qZ _ (a8.o.1 _ e),fun e=>qZ _ (a8.o.2 _ e)⟩
     refine f.out _ _ ⟨M.o.1.p.cell 1 _ rfl,M.o.1.p.cell 2 _ rfl⟩ (fun u=>?_);clear hS f K;have hS:=u;clear u;have bk:Hid ((∀g,u5.ownBlock=sQ g->g<(C.alloc (.cells #[I J y] 3)).drew.heap.size)/\(∀g,u6.ownBlock=sQ g->g<(C.alloc (.cells #[I J y] 3)).drew.heap.size)):=⟨fun g hg=>(M.o.1.t.o1.lt g hg).2,fun g hg=>(M.o.1.t.o2.lt g hg).2⟩
     generalize C.heap.size=b3 at*;generalize aw:(C.alloc (.cells #[I J y] 3)).drew=G at*;clear aw a8;refine Qq (rs:=[4,8]) kr pQ ?_;refine QT rfl (fun K f=>?_) (QT rfl (fun K f=>?_) QU)
     .obtain⟨v1,Z,H,D,R⟩:=M.o.1.app1 y b3 M.o.2 a4.o.1 248;refine eQ rfl (.tmp 23) (.tmp 26) rfl u5 rfl b3 rfl v1 G Z H ?_;simp only[aZ];clear H;have N:=hI D;clear D R;refine f.out _ _ ⟨N.o.p.cell 1 _ rfl,N.o.p.cell 2 _ rfl⟩ (fun u=>?_);clear hS f K;have hS:=u;clear u;refine al 8 fun K f=>?_;go_simp;have R3:Hid (rg w (Z.alloc (.cells #[I J z] 3)) w.heap.size PB [I J x,I J y,I J z,bO e,I Zk (i:Int),bO r,I J d,sL A m c] v1 u6 (L1++[y]) L2/\(Z.alloc (.cells #[I J z] 3)).heap[Z.heap.size]?=sQ (.cells #[I J z] 3)):=⟨N.o.alloc' _,Qy Z _⟩
      refine f.out _ _ ⟨R3.o.1.p.cell 1 _ rfl,R3.o.1.p.cell 2 _ rfl⟩ (fun u=>?_);clear hS f K;have hS:=u;clear u;generalize Z.heap.size=b8 at*;generalize bo:(Z.alloc (.cells #[I J z] 3))=W3 at*;clear bo;refine al 9 fun K f=>?_;obtain⟨v2,W4,H,D,R⟩:=R3.o.1.app2 z b8 R3.o.2 a4.o.2 248;refine eQ rfl (.tmp 28) (.tmp 31) rfl u6 rfl b8 rfl v2 W3 W4 H ?_;simp only[aZ];clear H;have Y:=hI D;clear D R;refine f.out _ _ ⟨Y.o.p.cell 1 _ rfl,Y.o.p.cell 2 _ rfl⟩ (fun u=>?_);clear hS f K;have hS:=u;clear u;refine tk 10 ?_;refine tk 11 ?_;refine Qs kr ?_ _;clear hS;have O:=hI Y.o;by_cases E:(x==2||x==3)=true
      .have U:Hid (∀W,ce 176 #[bxV x y z e i r d A m c] W fun o w'=>o=rT (bO true)/\Bl W w'):=fun W=>E ▸ P.o W;have X:=hI E
       clear E P;go_wp2_with(first|(refine ZG 114 O.o.p.load underlying114 cK ?_)|(go_at_call 176;refine(U.o _).mono ?_;rintro o w5 ⟨rfl,Q⟩))
       go_roundw;case rel=>
        refine⟨k+1,q+1,om,by go_num,by go_num,om,?_,a2.o,?_⟩
        .rw[HW.o,<- HQ.o,QW X.o]
        .rw[a6.o,a7.o];exact O.o.t.below Q
       case measure=>simp[intOf];omega
      .have hw':(x==2||x==3)=false:=by simpa using E
       have U:Hid (∀W,ce 176 #[bxV x y z e i r d A m c] W fun o w'=>o=rT (bO false)/\Bl W w'):=fun W=>hw' ▸ P.o W;have X:=hI E
       clear E hw' P;go_wp2_with(first|(refine ZG 114 O.o.p.load underlying114 cK ?_)|(go_at_call 176;refine(U.o _).mono ?_;rintro o w5 ⟨rfl,Q⟩))
       go_roundw;case rel=>
        refine⟨k+1,q,om,by go_num,rfl,om,?_,a2.o,?_⟩
        .rw[HW.o,<- HQ.o,QV X.o];rfl
        .rw[a6.o,a7.o];exact O.o.t.below Q
       case measure=>simp[intOf];omega
     .go_simp;have N:Hid (rg w (G.alloc (.cells #[I J z] 3)) w.heap.size PB [I J x,I J y,I J z,bO e,I Zk (i:Int),bO r,I J d,sL A m c] u5 u6 L1 L2/\(G.alloc (.cells #[I J z] 3)).heap[b3]?=sQ (.cells #[I J y] 3)/\(G.alloc (.cells #[I J z] 3)).heap[G.heap.size]?=sQ (.cells #[I J z] 3)):=⟨M.o.1.alloc' _,(Below.heap_alloc _ _ _ (av M.o.2)).trans M.o.2,Qy G _⟩
      have N8:Hid (u5.ownBlock≠sQ G.heap.size):=fun e=>qZ _ (bk.o.1 _ e);refine f.out _ _ ⟨N.o.1.p.cell 1 _ rfl,N.o.1.p.cell 2 _ rfl⟩ (fun u=>?_);clear hS f K;have hS:=u;clear u;generalize G.heap.size=b8 at*;generalize b4:(G.alloc (.cells #[I J z] 3))=Z at*;clear b4;refine al 4 fun K f=>?_;obtain⟨v1,W3,H,D,R⟩:=N.o.1.app1 y b3 N.o.2.1 a4.o.1 248;refine eQ rfl (.tmp 23) (.tmp 26) rfl u5 rfl b3 rfl v1 Z W3 H ?_;simp only[aZ];clear H;have R3:=hI (qB D (R _ _ N8.o N.o.2.2));clear D R;refine f.out _ _ ⟨R3.o.1.p.cell 1 _ rfl,R3.o.1.p.cell 2 _ rfl⟩ (fun u=>?_);clear hS f K;have hS:=u;clear u;refine al 9 fun K f=>?_;obtain⟨v2,W4,H,D,R⟩:=R3.o.1.app2 z b8 R3.o.2 a4.o.2 248;refine eQ rfl (.tmp 28) (.tmp 31) rfl u6 rfl b8 rfl v2 W3 W4 H ?_;simp only[aZ];clear H;have Y:=hI D;clear D R;refine f.out _ _ ⟨Y.o.p.cell 1 _ rfl,Y.o.p.cell 2 _ rfl⟩ (fun u=>?_);clear hS f K;have hS:=u;clear u;refine tk 10 ?_;refine tk 11 ?_;refine Qs kr ?_ _;clear hS;have O:=hI Y.o;by_cases E:(x==2||x==3)=true
      .have U:Hid (∀W,ce 176 #[bxV x y z e i r d A m c] W fun o w'=>o=rT (bO true)/\Bl W w'):=fun W=>E ▸ P.o W;have X:=hI E
       clear E P;go_wp2_with(first|(refine ZG 114 O.o.p.load underlying114 cK ?_)|(go_at_call 176;refine(U.o _).mono ?_;rintro o w5 ⟨rfl,Q⟩))
       go_roundw;case rel=>
        refine⟨k+1,q+1,om,by go_num,by go_num,om,?_,a2.o,?_⟩
        .rw[HW.o,<- HQ.o,QW X.o]
        .rw[a6.o,a7.o];exact O.o.t.below Q
       case measure=>simp[intOf];omega
      .have hw':(x==2||x==3)=false:=by simpa using E
       have U:Hid (∀W,ce 176 #[bxV x y z e i r d A m c] W fun o w'=>o=rT (bO false)/\Bl W w'):=fun W=>hw' ▸ P.o W;have X:=hI E
       clear E hw' P;go_wp2_with(first|(refine ZG 114 O.o.p.load underlying114 cK ?_)|(go_at_call 176;refine(U.o _).mono ?_;rintro o w5 ⟨rfl,Q⟩))
       go_roundw;case rel=>
        refine⟨k+1,q,om,by go_num,rfl,om,?_,a2.o,?_⟩
        .rw[HW.o,<- HQ.o,QV X.o];rfl
        .rw[a6.o,a7.o];exact O.o.t.below Q
       case measure=>simp[intOf];omega
    .go_simp;have M:Hid (rg w (C.alloc (.cells #[I J z] 3)).drew w.heap.size PB [I J x,I J y,I J z,bO e,I Zk (i:Int),bO r,I J d,sL A m c] u5 u6 L1 L2/\(C.alloc (.cells #[I J z] 3)).drew.heap[C.heap.size]?=sQ (.cells #[I J z] 3)):=⟨R0.o.alloc _,ja C _⟩
     have N5:Hid (u5.ownBlock≠sQ C.heap.size):=fun e=>qZ _ (a8.o.1 _ e);refine f.out _ _ ⟨M.o.1.p.cell 1 _ rfl,M.o.1.p.cell 2 _ rfl⟩ (fun u=>?_);clear hS f K;have hS:=u;clear u;generalize C.heap.size=b8 at*;generalize aw:(C.alloc (.cells #[I J z] 3)).drew=G at*;clear aw a8;refine al 3 fun K f=>?_;go_simp;have N:Hid (rg w (G.alloc (.cells #[I J y] 3)) w.heap.size PB [I J x,I J y,I J z,bO e,I Zk (i:Int),bO r,I J d,sL A m c] u5 u6 L1 L2/\(G.alloc (.cells #[I J y] 3)).heap[b8]?=sQ (.cells #[I J z] 3)/\(G.alloc (.cells #[I J y] 3)).heap[G.heap.size]?=sQ (.cells #[I J y] 3)):=⟨M.o.1.alloc' _,(Below.heap_alloc _ _ _ (av M.o.2)).trans M.o.2,Qy G _⟩
     refine f.out _ _ ⟨N.o.1.p.cell 1 _ rfl,N.o.1.p.cell 2 _ rfl⟩ (fun u=>?_);clear hS f K;have hS:=u;clear u;generalize G.heap.size=b3 at*;generalize b4:(G.alloc (.cells #[I J y] 3))=Z at*;clear b4;refine al 4 fun K f=>?_;obtain⟨v1,W3,H,D,R⟩:=N.o.1.app1 y b3 N.o.2.2 a4.o.1 248;refine eQ rfl (.tmp 23) (.tmp 26) rfl u5 rfl b3 rfl v1 Z W3 H ?_;simp only[aZ];clear H;have R3:=hI (qB D (R _ _ N5.o N.o.2.1));clear D R;refine f.out _ _ ⟨R3.o.1.p.cell 1 _ rfl,R3.o.1.p.cell 2 _ rfl⟩ (fun u=>?_);clear hS f K;have hS:=u;clear u;refine al 9 fun K f=>?_;obtain⟨v2,W4,H,D,R⟩:=R3.o.1.app2 z b8 R3.o.2 a4.o.2 248;refine eQ rfl (.tmp 28) (.tmp 31) rfl u6 rfl b8 rfl v2 W3 W4 H ?_;simp only[aZ];clear H;have Y:=hI D;clear D R;refine f.out _ _ ⟨Y.o.p.cell 1 _ rfl,Y.o.p.cell 2 _ rfl⟩ (fun u=>?_);clear hS f K;have hS:=u;clear u;refine tk 10 ?_;refine tk 11 ?_;refine Qs kr ?_ _;clear hS;have O:=hI Y.o;by_cases E:(x==2||x==3)=true
     .have U:Hid (∀W,ce 176 #[bxV x y z e i r d A m c] W fun o w'=>o=rT (bO true)/\Bl W w'):=fun W=>E ▸ P.o W;have X:=hI E
      clear E P;go_wp2_with(first|(refine ZG 114 O.o.p.load underlying114 cK ?_)|(go_at_call 176;refine(U.o _).mono ?_;rintro o w5 ⟨rfl,Q⟩))
      go_roundw;case rel=>
       refine⟨k+1,q+1,om,by go_num,by go_num,om,?_,a2.o,?_⟩
       .rw[HW.o,<- HQ.o,QW X.o]
       .rw[a6.o,a7.o];exact O.o.t.below Q
      case measure=>simp[intOf];omega
     .have hw':(x==2||x==3)=false:=by simpa using E
      have U:Hid (∀W,ce 176 #[bxV x y z e i r d A m c] W fun o w'=>o=rT (bO false)/\Bl W w'):=fun W=>hw' ▸ P.o W;have X:=hI E
      clear E hw' P;go_wp2_with(first|(refine ZG 114 O.o.p.load underlying114 cK ?_)|(go_at_call 176;refine(U.o _).mono ?_;rintro o w5 ⟨rfl,Q⟩))
      go_roundw;case rel=>
       refine⟨k+1,q,om,by go_num,rfl,om,?_,a2.o,?_⟩
       .rw[HW.o,<- HQ.o,QV X.o];rfl
       .rw[a6.o,a7.o];exact O.o.t.below Q
      case measure=>simp[intOf];omega
  .have hkn:bx.take k=bx:=QY (by have:=HL.o;omega);have hT:=HT.o;have hq:=HQ.o;rw[hkn]at hT hq;have ao:Hid (da st bx↔(q<=1/\(nfY bx).Nodup/\(nfZ bx).Nodup)):=by
    have:=xi st bx (fun j hj=>HA.o j hj (by have:=HL.o;omega));rw[<- hq]at this;exact this
   have a3:=hI hT;have br:=vK bx;have bc:Hid ((nfY bx).length<=100/\(nfZ bx).length<=100):=⟨by have:=HL.o;omega,by have:=HL.o;omega⟩
   clear hkn hT hq br HT HQ HA;by_cases b6:q<=1
   .have hq1':decide ((q:Int)<=1)=true:=by simp;omega
    have bm:=hI b6;clear b6;go_wp2_with fail;refine(mA a3.o.o1 bc.o.1 a3.o.s).mono ?_;rintro o w1 ⟨⟨b1,rfl,h1⟩,b5,be⟩;have H1:Hid ((b1=true↔(nfY bx).Nodup)/\dS w1 w.heap.size u6 (nfZ bx)/\Bl w w1/\w.heap.size<=w1.heap.size):=by
     refine⟨h1,a3.o.o2.kept b5 ?_,a3.o.b.trans be,nT a3.o.s b5.size⟩;cases e:u6.ownBlock with
     |none=>exact qp rfl
     |some g=>exact qt fun e2=>a3.o.ne g e2.symm e
    clear h1 b5 be;cases b1
    .go_wp2_with fail;go_ret;refine⟨⟨false,rfl,?_⟩,H1.o.2.2.1⟩;rw[ao.o];have:=H1.o.1;simp at this;simp[this]
    .go_wp2_with fail;refine(mA H1.o.2.1 bc.o.2 H1.o.2.2.2).mono ?_;rintro o w2 ⟨⟨b2,rfl,D⟩,bq,bf⟩;have H2:=hI (qB D (H1.o.2.2.1.trans bf));clear D bq bf;go_wp2_with fail;go_ret;refine⟨⟨b2,rfl,?_⟩,H2.o.2⟩;rw[ao.o,H2.o.1];exact⟨fun h=>⟨bm.o,(by have:=H1.o.1;simpa using this),h⟩,fun h=>h.2.2⟩
   .have hq1':decide ((q:Int)<=1)=false:=by simp;omega
    go_wp2_with fail;go_ret;refine⟨⟨false,rfl,?_⟩,a3.o.b⟩;rw[ao.o];simp[b6]
end
def mI(w:World)(H:Ho)(s:Sl)(h:bj w H s)(r:H.le 1048576):ce 125 #[hoV H s] w fun o w'=>bH o (dP H)/\Bl w w':=by
 have g:Hid (obS w H s (w.alloc (.cells (hoL H s).toArray 50))):=⟨blk.new w _ 50,Zw⟩
 have E:Hid (s.n2=H.bx.length/\s.n3=H.ff.length/\s.n4=H.qu.length):=⟨h.bx.len,h.ff.len,h.qu.len⟩
 have Z:Hid (∀W,Bl w W->ce 170 #[sL s.a1 s.n1 s.k1] W fun o w'=>o=rT (bO (ig H.fs))/\Bl W w'):=fun W f=>jR W _ _ _ _ (h.fs.below f) (by rw[h.fs.len];exact r.fs);have X:Hid (∀W,Bl w W->ce 172 #[sL s.a3 s.n3 s.k3,.func (.func 173) #[] #[]] W fun o w'=>o=rT (bO (!H.ff.all gQ))/\Bl W w'):=fun W f=>jL W _ _ _ _ (h.ff.below f) (by rw[h.ff.len];exact r.ff);have a0:Hid (∀W,Bl w W->ce 174 #[sL s.a4 s.n4 s.k4,.func (.func 175) #[] #[]] W fun o w'=>o=rT (bO (!H.qu.all gB))/\Bl W w'):=fun W f=>jM W _ _ _ _ (h.qu.below f) (by rw[h.qu.len];exact r.qu);have T:Hid (s.n2<=8->0<=H.st/\H.st<=1000000->∀W,Bl w W->ce 171 #[sL s.a2 s.n2 s.k2,I J H.st] W fun o w'=>bH o (da H.st H.bx)/\Bl W w'):=fun h8 a5 W f=>lA W _ _ _ _ _ (h.bx.below f) h8 a5;have a6:∀(K:Fn)(first cap:Array Value)(w:World),(Instr.makeFunc K first cap).run Tp w= .ok (.func K first cap) w:=fun _ _ _ _=>rfl;have u:=g.o.p.cell 0 _ rfl;have v:=g.o.p.cell 1 _ rfl;have q2:=g.o.p.cell 2 _ rfl;have x:=g.o.p.cell 3 _ rfl;clear h r;rw[gC];go_enter func125,ntmps125;go_wp2_with fail;refine(kM _ H.c0 H.c1 H.c2 H.c3).mono ?_;rintro o w1 ⟨rfl,L⟩;have i:=hI (g.o.below L);obtain⟨b,a⟩:∃b,mT H.c0 H.c1 H.c2 H.c3=b:=⟨_,rfl⟩
 have t:=hI a;rw[a];clear u v q2 x L g a;cases b
 .go_wp2_with fail;go_ret;exact⟨⟨false,rfl,iff_of_false Qf (fun h=>by have:=h.cf;rw[t.o]at this;cases this)⟩,i.o.b⟩
 have q4:=i.o.p.cell 4 _ rfl;go_wp2_with fail;refine(Z.o _ i.o.b).mono ?_;rintro o R ⟨rfl,M⟩;have c:=hI (i.o.below M);obtain⟨b,a⟩:∃b,ig H.fs=b:=⟨_,rfl⟩
 have D:=hI a;rw[a];clear q4 M i a;cases b
 .go_wp2_with fail;go_ret;exact⟨⟨false,rfl,iff_of_false Qf (fun h=>by have:=h.fs;rw[D.o]at this;cases this)⟩,c.o.b⟩
 have u:=c.o.p.cell 0 _ rfl;have v:=c.o.p.cell 1 _ rfl;have x:=c.o.p.cell 3 _ rfl;have q5:=c.o.p.cell 5 _ rfl;have y:=c.o.p.cell 6 _ rfl;have A:=c.o.p.cell 7 _ rfl;have q8:=c.o.p.cell 8 _ rfl;have q9:=c.o.p.cell 9 _ rfl;go_wp2_with fail;refine(bT R H.lo 0 100000).mono ?_;rintro o S ⟨rfl,rfl⟩;by_cases n:¬(0<=H.lo/\H.lo<=100000)
 .rw[qm n];go_wp2_with fail;go_ret;exact⟨⟨false,rfl,iff_of_false Qf (fun h=>by have:=h.l0;have:=h.l1;omega)⟩,c.o.b⟩
 have n:=Classical.not_not.1 n;rw[qy n];go_wp2_with fail;refine(bT R H.st 0 1000000).mono ?_;rintro o S ⟨rfl,rfl⟩;by_cases hs:¬(0<=H.st/\H.st<=1000000)
 .rw[qm hs];go_wp2_with fail;go_ret;exact⟨⟨false,rfl,iff_of_false Qf (fun h=>by have:=h.s0;have:=h.s1;omega)⟩,c.o.b⟩
 have hs:=Classical.not_not.1 hs;rw[qy hs];have G:Hid (¬((s.n2:Int)=H.c0/\(s.n3:Int)<=H.c1/\(s.n4:Int)<=H.c3)->¬dP H):=fun h l=>h (by have:=E.o;have:=l.nb;have:=l.nf;have:=l.nq;omega);go_wp2_with fail
 all_goals try
  go_ret;exact⟨⟨false,rfl,by simpa using G.o (fun l=>by first|omega|(have h9:=l.1;simp_all))⟩,c.o.b⟩
 have a:(s.n2:Int)=H.c0:=by simp_all
 have U:=qJ t.o;have d:Hid ((H.bx.length:Int)=H.c0/\(H.ff.length:Int)<=H.c1/\(H.qu.length:Int)<=H.c3/\0<=H.lo/\H.lo<=100000/\0<=H.st/\H.st<=1000000):=by have:=E.o;exact⟨om,om,om,om,om,om,om⟩
 refine(T.o om hs _ c.o.b).mono ?_;rintro o S ⟨⟨bb,rfl,Q⟩,N⟩;have j:=hI (c.o.below N);have B:=hI Q;clear u v x q5 y A q8 q9 a U G N Q c;cases bb
 .go_wp2_with fail;go_ret;exact⟨⟨false,rfl,iff_of_false Qf (fun h=>by have:=B.o.2 h.bx;simp at this)⟩,j.o.b⟩
 have y:=j.o.p.cell 6 _ rfl;go_wp2_with fail;refine(X.o _ j.o.b).mono ?_;rintro o w4 ⟨rfl,O⟩;have k:=hI (j.o.below O);obtain⟨b,a⟩:∃b,H.ff.all gQ=b:=⟨_,rfl⟩
 have C:=hI a;rw[a];clear y O j a;cases b
 .go_wp2_with fail;go_ret;exact⟨⟨false,rfl,iff_of_false Qf (fun h=>by have:=h.ff;rw[C.o]at this;cases this)⟩,k.o.b⟩
 have A:=k.o.p.cell 7 _ rfl;go_wp2_with fail;refine(a0.o _ k.o.b).mono ?_;rintro o w5 ⟨rfl,P⟩;have O5:=hI (k.o.below P);obtain⟨b,a⟩:∃b,H.qu.all gB=b:=⟨_,rfl⟩
 have Y:Hid (b=true↔dP H):=⟨fun e=>⟨t.o,D.o,d.o.1,d.o.2.1,d.o.2.2.1,d.o.2.2.2.1,d.o.2.2.2.2.1,d.o.2.2.2.2.2.1,d.o.2.2.2.2.2.2,C.o,a.trans e,B.o.1 (by trivial)⟩,fun h=>a.symm.trans h.qu⟩
 rw[a];clear A P k a;cases b;all_goals
  go_wp2_with fail;go_ret;exact⟨⟨_,rfl,by simpa using Y.o⟩,O5.o.b⟩
end Go.Proofs.YtbbffcolnddcdaaGreatDoor
namespace Go.Proofs.YtbbffcolnddcdaaGreatDoor
open Go.Proofs.Tryz
open Go.Shelf Go.RowKit
set_option linter.all false
open Go.Value renaming int->I,slice->sL,bool->bO,pointer->pT,agg->aG
open Go.IntKind renaming i64->J
open Go.Ending renaming returned->rT
open Go.Proofs.Tryz renaming prog->Tp
section
variable{w:World}{g off:Nat}
def Tryz.laysE160_ren:Go.Shelf.Ren:=⟨fun|41=>211|n=>n,fun|22=>46|23=>114|n=>n,fun|n=>n⟩
def Tryz.laysE160:Go.Proofs.SlLaysE0.n41 Tp Tryz.laysE160_ren:={
 mixed:=kr
 f41:=⟨Tryz.f211.name,by kernel_rfl,func211.trans (congrArg some kr)⟩
 t4:=underlying4
 a4:=isAgg4
 z4:=sizeOf4
 v4:=zeroValue4
 t22:=underlying46
 a22:=isAgg46
 z22:=sizeOf46
 v22:=zeroValue46}
abbrev X8:=R8 × Option Addr × Nat × Nat
def x8(t:X8):List Value:=[I J t.1.x,I J t.1.y,I J t.1.z,bO t.1.e,I .u32 (t.1.i:Int),bO t.1.r,I J t.1.d,sL t.2.1 t.2.2.1 t.2.2.2]
def c8(bs:List X8):List Value:=bs.flatMap x8
def A3(a:List X8):(c8 a).length=a.length*8:=by
 induction a with
 |nil=>rfl
 |cons b a ih=>simp only[c8,qD,QX]at ih ⊢;rw[ih];simp only[x8,qV,List.length_nil];omega
def He(a:List X8):∀j(h:j<a.length)t,t<8->(c8 a)[j*8+t]?=(x8 a[j])[t]?:=by
 induction a with
 |nil=>intro j h;exact Qj h (nN _)
 |cons b a ih=>
  intro j h t c;cases j with
  |zero=>
   simp only[c8,qD,Nat.zero_mul,qg];rw[qU (by simpa[x8]using c)];rfl
  |succ j=>
   have e:(j+1)*8+t=8+(j*8+t):=om;rw[e];simp only[c8,qD];rw[qT (by simp[x8])];have:=ih j (by simpa using h) t c;simp only[c8]at this;simpa[x8]using this
def Gp{n cap:Nat}{bx:List R8}(h:aP w (some ⟨g,off,none⟩) n cap bx):∃d:List X8,d.map (·.1)=bx/\∀j(a:j<d.length),at8 w g (off+j*8) d[j].1 d[j].2.1 d[j].2.2.1 d[j].2.2.2:=by
 have f:∀j(a:j<bx.length),∃i m c,at8 w g (off+j*8) bx[j] i m c:=by
  intro j a;obtain⟨p,r,k,f⟩:=h.cells (by intro e;subst e;cases a);cases k;exact f j a
 clear h;induction bx generalizing off with
 |nil=>exact⟨[],rfl,fun j a=>Qj a (nN _)⟩
 |cons b bx ih=>
  obtain⟨i,m,c,h0⟩:=f 0 pQ
  obtain⟨d,l,hs⟩:=ih (off:=off+8) (fun j a=>by
   have:=f (j+1) (by simpa using a)
   have e:off+(j+1)*8=off+8+j*8:=om
   rw[e]at this
   simpa using this)
  refine⟨(b,i,m,c)::d,by simp[l],fun j a=>?_⟩;cases j with
  |zero=>exact h0
  |succ j=>
   have:=hs j (by simpa using a);have e:off+(j+1)*8=off+8+j*8:=om;rw[e];exact this
def CW{a:List X8}(h:∀j(b:j<a.length),at8 w g (off+j*8) a[j].1 a[j].2.1 a[j].2.2.1 a[j].2.2.2)(t:Nat)(u:Value)(c:(c8 a)[t]?=some u):w.cell? ⟨g,off+t,none⟩=some u:=by
 have d:t<a.length*8:=by
  have:=(List.getElem?_eq_some_iff.mp c).1;rwa [A3]at this
 have b:t / 8<a.length:=om;have e:t=t / 8*8+t%8:=om;rw[e,He a (t / 8) b (t%8) om]at c;have:=(h (t / 8) b).range (t%8) u c;rw[e,<- Nat.add_assoc];exact this
def Fw(c:List X8):∀u∈c8 c,u.oneCell'=true:=by
 intro u a;simp only[c8,x8,List.mem_flatMap,Qh,Q8,or_false]at a;obtain⟨b,_,rfl|rfl|rfl|rfl|rfl|rfl|rfl|rfl⟩:=a<;>rfl
end
end Go.Proofs.YtbbffcolnddcdaaGreatDoor
namespace Go.Proofs.YtbbffcolnddcdaaGreatDoor
open Go.Proofs.Tryz
open Option renaming none->nn,some->sQ
open Go renaming World->Wd
open Go.Shelf Go.RowKit
set_option linter.all false
open Go.Value renaming int->I,slice->sL,bool->bO,pointer->pT,agg->aG
open Go.IntKind renaming i64->J
open Go.Ending renaming returned->rT
open Go.Proofs.Tryz renaming prog->Tp
def cg{W:Wd}{B:Nat}{T:TypeId}{b:Nat}{v:Value}{n:Nat}{xs:List Value}(ho:W.ownsRow B T b v n xs):(v=sL nn 0 0/\n=0)\/∃g cap,v=sL (be g) n cap/\B<=g/\g<W.heap.size/\n<=cap/\ay W g (n*b)/\W.rangeAt g 0 xs:=by
 have A:=ho;rcases ho.2 with⟨e,s⟩|⟨c,r,cur,l,w,h,x,E,G,C⟩
 .exact qp ⟨e,by simpa using s⟩
 .right;have D:=ho.1;have y:∀t,t<n*b->cur[t]?=xs[t]?:=by
   intro t a;rw[<- C,qO a,qN]
  have d:∀t,t<n*b->W.cell? ⟨c,t,nn⟩=xs[t]?:=by
   intro t a;rw[<- y t a];simp[World.cell?,h]
  refine⟨c,r,l,w,av h,x,fun t a=>⟨?_,?_⟩,fun j u i=>?_⟩
  .rw[d t a];exact⟨_,Q4 om⟩
  .subst l;exact QF A t
  .have hj:j<xs.length:=(List.getElem?_eq_some_iff.mp i).1;rw[qg,d j om];exact i
def rangeAt.up{W W':Wd}{g o:Nat}{l:List Value}(h:W.rangeAt g o l)(he:W'.heap[g]?=W.heap[g]?):W'.rangeAt g o l:=fun j v hv=>cU (h j v hv) he
structure fOk{R:Type}(f:R->Option Addr->Nat->Nat->List Value)(q p:Nat):Prop where
 len:∀b ao m c,(f b ao m c).length=q
 last:∀b ao m c,(f b ao m c)[p]?=sQ (sL ao m c)
 rest:∀b ao m c ao' m' c' t,t≠p->(f b ao m c)[t]?=(f b ao' m' c')[t]?
def ok8:fOk f8 8 7:=⟨fun _ _ _ _=>rfl,fun _ _ _ _=>rfl,fun b ao m c ao' m' c' t ht=>by
 rcases t with _|_|_|_|_|_|_|_|t<;>first|rfl|exact Qj rfl ht⟩
def ok5:fOk f5 5 4:=⟨fun _ _ _ _=>rfl,fun _ _ _ _=>rfl,fun b ao m c ao' m' c' t ht=>by
 rcases t with _|_|_|_|_|t<;>first|rfl|exact Qj rfl ht⟩
def xF{R:Type}(f:R->Option Addr->Nat->Nat->List Value)(t:R × Option Addr × Nat × Nat):List Value:=f t.1 t.2.1 t.2.2.1 t.2.2.2
def Hc{R:Type}{f:R->Option Addr->Nat->Nat->List Value}{q p:Nat}(c:fOk f q p)(a:List (R × Option Addr × Nat × Nat)):∀j(h:j<a.length)t,t<q->(a.flatMap (xF f))[j*q+t]?=(xF f a[j])[t]?:=by
 induction a with
 |nil=>intro j h;exact Qj h (nN _)
 |cons b a ih=>
  have d:(xF f b).length=q:=c.len _ _ _ _;intro j h t e;rw[qD];cases j with
  |zero=>
   rw[Nat.zero_mul,qg,qU om];rfl
  |succ j=>
   rw[show(j+1)*q+t=q+(j*q+t)by rw[Nat.succ_mul];omega,qT om,d,Qa];exact ih j (by simpa using h) t e
section
variable{R:Type}{f:R->Option Addr->Nat->Nat->List Value}{dt:R->List Nat}{q p:Nat}{b0 W W':Wd}{U U' g n k:Nat}{bx:List R}{hs:Nat->Hd}
structure drF{R:Type}(f:R->Option Addr->Nat->Nat->List Value)(dt:R->List Nat)(q:Nat)(b0:Wd)(U g n:Nat)(bx:List R)(hs:Nat->Hd)(k:Nat)(W:Wd):Prop where
 len:n=bx.length
 row:ay W g (n*q)
 rng:∀j(h:j<bx.length),W.rangeAt g (j*q) (f bx[j] (hs j).1 (hs j).2.1 (hs j).2.2)
 old:∀j(h:j<bx.length),k<=j->iB b0 (hs j).1 (hs j).2.1 (hs j).2.2 (dt bx[j])
 new:∀j(h:j<bx.length),j<k->iB W (hs j).1 (hs j).2.1 (hs j).2.2 (dt bx[j])/\(((hs j).1=nn/\(hs j).2.1=0)\/∃b,(hs j).1=be b/\U<=b/\b<W.heap.size/\ay W b (hs j).2.1)
 dst:dst hs k
 lo:b0.heap.size<=g
 hi:g<W.heap.size
 bel:Bl b0 W
 sm:∀j(h:j<bx.length),(dt bx[j]).length<=1048576
abbrev dr8(b0:Wd)(U g n:Nat)(bx:List R8)(hs:Nat->Hd)(k:Nat)(W:Wd):Prop:=drF f8 R8.l 8 b0 U g n bx hs k W
abbrev dr5(b0:Wd)(U g n:Nat)(bx:List R5)(hs:Nat->Hd)(k:Nat)(W:Wd):Prop:=drF f5 R5.l 5 b0 U g n bx hs k W
def drF.same(h:drF f dt q b0 U g n bx hs k W)(he:∀x,x=g\/U<=x->x<W.heap.size->W'.heap[x]?=W.heap[x]?)(hz:W.heap.size<=W'.heap.size)(hb:Bl b0 W'):drF f dt q b0 U g n bx hs k W':=
 ⟨h.len,h.row.up (he g (qp rfl) h.hi),fun j hj=>(rangeAt.up (h.rng j hj) (he g (qp rfl) h.hi)),h.old,fun j hj hk=>by
  obtain⟨h1,h2⟩:=h.new j hj hk
  rcases h2 with⟨e1,e2⟩|⟨b,e1,e2,e3,e4⟩
  .refine⟨⟨h1.len,h1.cap,h1.small,fun hne=>?_⟩,qp ⟨e1,e2⟩⟩
   exact Qj (List.length_pos_iff.2 hne) (by have:=h1.len;omega)
  .rw[e1]at h1 ⊢
   exact⟨h1.other (he b (qt e2) e3),qt ⟨b,rfl,e2,nL e3 hz,e4.up (he b (qt e2) e3)⟩⟩,h.dst,h.lo,nL h.hi hz,hb,h.sm⟩
def drF.below(h:drF f dt q b0 U g n bx hs k W)(hb:Bl W W'):drF f dt q b0 U g n bx hs k W':=
 h.same (fun x _ hx=>hb.block x hx) hb.size (h.bel.trans (hb.mono h.bel.size))
def drF.start(c:fOk f q p){L:List R}(a:List (R × Option Addr × Nat × Nat))(x:a.map (·.1)=L)(l:∀j(b:j<a.length),iB b0 a[j].2.1 a[j].2.2.1 a[j].2.2.2 (dt a[j].1))(y:n=L.length)(A:ay W g (n*q))(r:W.rangeAt g 0 (a.flatMap (xF f)))(w:b0.heap.size<=g)(s:g<W.heap.size)(e:Bl b0 W)(B:∀j(h:j<L.length),(dt L[j]).length<=1048576):drF f dt q b0 U g n L (fun j=>if h:j<a.length then a[j].2 else(nn,0,0)) 0 W:=by
 subst x;have D:(a.map (·.1)).length=a.length:=pQ;refine⟨y,A,fun j b=>?_,fun j b _=>?_,fun j b v=>Qj v (nN _),fun i j _ b=>Qj b (nN _),w,s,e,B⟩
 .have hj':j<a.length:=om;simp only[dif_pos hj',za];intro t u d;have C:t<q:=by have:=(List.getElem?_eq_some_iff.mp d).1;rwa [c.len]at this
  have:=r _ _ ((Hc c a j hj' t C).trans d);rwa [qg]at this
 .have hj':j<a.length:=om;simp only[dif_pos hj',za];exact l j hj'
def drF.dat(h:drF f dt q b0 U g n bx hs k W)(j:Nat)(a:j<bx.length):iB W (hs j).1 (hs j).2.1 (hs j).2.2 (dt bx[j]):=by
 by_cases b:j<k
 .exact (h.new j a b).1
 .exact (h.old j a om).below h.bel
def drF.at0(h:drF f dt q b0 U g n bx hs 0 W)(a:W'.heap[g]?=W.heap[g]?)(c:Bl b0 W'):drF f dt q b0 U g n bx hs 0 W':=by
 refine⟨h.len,h.row.up a,fun j b=>rangeAt.up (h.rng j b) a,h.old,fun j b d=>Qj d (nN _),h.dst,h.lo,?_,c,h.sm⟩;have h1:=h.hi;rw[zf h1]at a;exact av a
end
def dr8.at_{b0 W:Wd}{U g n:Nat}{bx:List R8}{hs:Nat->Hd}{k:Nat}(h:dr8 b0 U g n bx hs k W)(j:Nat)(b:j<bx.length):at8 W g (j*8) bx[j] (hs j).1 (hs j).2.1 (hs j).2.2:=by
 have a:=h.rng j b;exact⟨a 0 _ rfl,a 1 _ rfl,a 2 _ rfl,a 3 _ rfl,a 4 _ rfl,a 5 _ rfl,a 6 _ rfl,a 7 _ rfl,h.dat j b⟩
def dr8.is{b0 W:Wd}{U g n:Nat}{bx:List R8}{hs:Nat->Hd}{k cap:Nat}(h:dr8 b0 U g n bx hs k W)(hc:n<=cap):aP W (be g) n cap bx:=
 ⟨h.len,hc,fun _=>⟨g,0,rfl,fun j hj=>⟨_,_,_,by rw[qg];exact h.at_ j hj⟩⟩⟩
def oy(b0 w:Wd)(g off n cap:Nat)(bx:List R8)(h:aP b0 (sQ ⟨g,off,nn⟩) n cap bx)(i:Bl b0 w)(L:n<=1048576)(C:∀j(h:j<bx.length),bx[j].l.length<=1048576):ce 211 #[sL (sQ ⟨g,off,nn⟩) n cap] w fun e w'=>∃a d hs,e=rT (sL (be a) n d)/\w.heap.size<=a/\n<=d/\dr8 b0 0 a n bx hs 0 w'/\Bl w w':=by
 obtain⟨c,t,hs⟩:=Gp h;have x:n=c.length:=by rw[h.len,<- t];simp
 obtain⟨K,hi,E,G,H⟩:=QH info114;refine(AnyE.slices_Clone Tryz.laysE160 K _ 8 72 hi E G H rfl om sizeOf114 g off n cap (c8 c) w (by rw[A3,x]) (by unfold maxLen;omega) om (fun j u b=>CW (fun j b=>(hs j b).below i) j u b) (Fw c)).mono ?_;rintro e w' ⟨M,rfl,ho,D,s⟩;rcases cg ho with⟨e,_⟩|⟨a,d,rfl,r,y,v,A,B⟩
 .exact Qj e D
 .exact⟨a,d,_,rfl,r,v,drF.start ok8 c t (fun j b=>(hs j b).dat) h.len A B (nT i.size r) y (i.trans (s.mono i.size)) C,s⟩
set_option maxRecDepth 20000
open Go.RowKit
set_option maxHeartbeats 16000000
def de(b:R8):ByteArray:=ia b.e b.i b.r b.d b.l.length
def dO(a b:R8):Bool:=if de a=de b then decide (a.z<b.z)else Op.bytesLess (de a).toList (de b).toList
def at8.frame{w:World}{g o:Nat}{b:R8}{f:Option Addr}{m c:Nat}(h:at8 w g o b f m c):w.rangeAt g (o+3) [bO b.e,I .u32 (b.i:Int),bO b.r,I J b.d,sL f m c]:=by
 intro j v a;match j,a with
 |0,a=>cases a;exact h.c3
 |1,a=>cases a;exact h.c4
 |2,a=>cases a;exact h.c5
 |3,a=>cases a;exact h.c6
 |4,a=>cases a;exact h.cs
def pJ(w:World)(H:Ho)(s:Sl)(h:aP w s.a2 s.n2 s.k2 H.bx)(hn:s.n2<=8)(i j:Nat)(hi:i<H.bx.length)(hj:j<H.bx.length):ce 164 #[hoV H s,I J i,I J j] w fun o w'=>o=rT (bO (dO H.bx[i] H.bx[j]))/\Bl w w':=by
 have a6:=h.len;have a8:=h.cap;have n:Hid (obS w H s (w.alloc (.cells (hoL H s).toArray 50))):=⟨blk.new w _ 50,Zw⟩
 obtain⟨t,c1,c2,c3,u,bx,ff,qu,lo,st⟩:=H;obtain⟨a1,n1,k1,a2,n2,k2,a3,n3,k3,a4,n4,k4⟩:=s;simp only[]at h a6 a8 hn hi hj ⊢;obtain⟨g,off,rfl,hc⟩:=h.cells (by intro e;subst e;cases hi);obtain⟨Z,m,c,U⟩:=hc i hi;obtain⟨a0,D,c',X⟩:=hc j hj;have a9:i<n2:=om;have ac:j<n2:=om;clear hc h a6;have e1:=U.dat.len;have e2:=X.dat.len;obtain⟨b,hb⟩:∃b,bx[i]=b:=⟨_,rfl⟩
 obtain⟨a,a5⟩:∃b,bx[j]=b:=⟨_,rfl⟩
 rw[hb]at U e1;rw[a5]at X e2;rw[hb,a5];have v:Hid (dO b a=if ia b.e b.i b.r b.d m=ia a.e a.i a.r a.d D then decide (b.z<a.z)else Op.bytesLess (ia b.e b.i b.r b.d m).toList (ia a.e a.i a.r a.d D).toList):=by
  show dO b a=_;unfold dO de;rw[e1,e2]
 clear hb a5 e1 e2 hi hj;have k:Hid (∀W,obS w ⟨t,c1,c2,c3,u,bx,ff,qu,lo,st⟩ ⟨a1,n1,k1,sQ ⟨g,off,nn⟩,n2,k2,a3,n3,k3,a4,n4,k4⟩ W->at8 W g (off+i*8) b Z m c/\at8 W g (off+j*8) a a0 D c'):=fun W C=>⟨U.below C.b,X.below C.b⟩
 clear U X;obtain⟨x,y,z,e,M,r,d,l⟩:=b;obtain⟨x',y',P,G,N,O,E,l'⟩:=a;simp only[]at v k ⊢;have p5:=n.o.p.cell 5 _ rfl;obtain⟨A,hA⟩:∃A,ia e M r d m=A:=⟨_,rfl⟩
 obtain⟨B,hB⟩:∃B,ia G N O E D=B:=⟨_,rfl⟩
 rw[hA,hB]at v;have Q:Hid (∀W,obS w ⟨t,c1,c2,c3,u,bx,ff,qu,lo,st⟩ ⟨a1,n1,k1,sQ ⟨g,off,nn⟩,n2,k2,a3,n3,k3,a4,n4,k4⟩ W->ce 203 #[frV e M r d Z m c] W fun o w'=>o=rT (.string A)/\Bl W w'):=fun W C=>hA ▸ ky W e M r d Z m c l (k.o _ C).1.dat;have R:Hid (∀W,obS w ⟨t,c1,c2,c3,u,bx,ff,qu,lo,st⟩ ⟨a1,n1,k1,sQ ⟨g,off,nn⟩,n2,k2,a3,n3,k3,a4,n4,k4⟩ W->ce 203 #[frV G N O E a0 D c'] W fun o w'=>o=rT (.string B)/\Bl W w'):=fun W C=>hB ▸ ky W G N O E a0 D c' l' (k.o _ C).2.dat;clear hA hB;by_cases T:A=B
 .have HBF2:Hid (dO ⟨x,y,z,e,M,r,d,l⟩ ⟨x',y',P,G,N,O,E,l'⟩=decide (z<P)):=by have:=v.o;rw[QW T]at this;exact this
  clear v;subst T;go_enter func164,ntmps164
  go_wp2_with(first|(refine ZG 53 (k.o _ n.o).1.frame underlying53 cE ?_)|(go_at_call 203;refine(Q.o _ n.o).mono ?_;rintro o w1 ⟨rfl,K⟩;have f:Hid (obS w ⟨t,c1,c2,c3,u,bx,ff,qu,lo,st⟩ ⟨a1,n1,k1,sQ ⟨g,off,nn⟩,n2,k2,a3,n3,k3,a4,n4,k4⟩ w1):=n.o.below K;have q5:=f.o.p.cell 5 _ rfl;clear Q p5 K)|(refine ZG 53 (k.o _ f.o).2.frame underlying53 cE ?_)|(go_at_call 203;refine(R.o _ f.o).mono ?_;rintro o Y ⟨rfl,L⟩;have H2:Hid (obS w ⟨t,c1,c2,c3,u,bx,ff,qu,lo,st⟩ ⟨a1,n1,k1,sQ ⟨g,off,nn⟩,n2,k2,a3,n3,k3,a4,n4,k4⟩ Y):=f.o.below L;have r5:=H2.o.p.cell 5 _ rfl;have r2:=(k.o _ H2.o).1.c2;have s2:=(k.o _ H2.o).2.c2;clear R q5 L))
  refine Qu (S:=(fun W=>W.cell? ⟨w.heap.size,5,nn⟩=sQ (sL (sQ ⟨g,off,nn⟩) n2 k2)/\W.cell? ⟨g,off+i*8+2,nn⟩=sQ (I J z)/\W.cell? ⟨g,off+j*8+2,nn⟩=sQ (I J P)/\Bl w W)) kr ?_;have hS:(fun W:World=>W.cell? ⟨w.heap.size,5,nn⟩=sQ (sL (sQ ⟨g,off,nn⟩) n2 k2)/\W.cell? ⟨g,off+i*8+2,nn⟩=sQ (I J z)/\W.cell? ⟨g,off+j*8+2,nn⟩=sQ (I J P)/\Bl w W) Y.drew:=⟨(QR _ _).trans r5,(QR _ _).trans r2,(QR _ _).trans s2,H2.o.b.drew⟩
  simp only[]at hS;refine tk 0 ?_;refine tk 1 ?_;refine tk 2 ?_;refine tk 3 ?_;refine tk 4 ?_;refine tk 5 ?_;refine tk 6 ?_;refine tk 7 ?_;refine tk 8 ?_;refine tk 9 ?_;refine tk 10 ?_;refine tk 11 ?_;refine tk 12 ?_;refine tk 13 ?_;refine Qs kr ?_ _;have a7:=hI hS.2.2.2;clear hS;go_wp2;go_ret;exact⟨ai HBF2.o.symm,a7.o⟩
 .have HBF2:Hid (dO ⟨x,y,z,e,M,r,d,l⟩ ⟨x',y',P,G,N,O,E,l'⟩=Op.bytesLess A.toList B.toList):=by have:=v.o;rw[QV T]at this;exact this
  clear v;have hne:(A.toList==B.toList)=false:=by
   rw[beq_eq_false_iff_ne,ByteArray.toList_eq,ByteArray.toList_eq];exact fun h=>T (ByteArray.ext (Array.toList_inj.1 h))
  go_enter func164,ntmps164
  go_wp2_with(first|(refine ZG 53 (k.o _ n.o).1.frame underlying53 cE ?_)|(go_at_call 203;refine(Q.o _ n.o).mono ?_;rintro o w1 ⟨rfl,K⟩;have f:Hid (obS w ⟨t,c1,c2,c3,u,bx,ff,qu,lo,st⟩ ⟨a1,n1,k1,sQ ⟨g,off,nn⟩,n2,k2,a3,n3,k3,a4,n4,k4⟩ w1):=n.o.below K;have q5:=f.o.p.cell 5 _ rfl;clear Q p5 K)|(refine ZG 53 (k.o _ f.o).2.frame underlying53 cE ?_)|(go_at_call 203;refine(R.o _ f.o).mono ?_;rintro o Y ⟨rfl,L⟩;have H2:Hid (obS w ⟨t,c1,c2,c3,u,bx,ff,qu,lo,st⟩ ⟨a1,n1,k1,sQ ⟨g,off,nn⟩,n2,k2,a3,n3,k3,a4,n4,k4⟩ Y):=f.o.below L;clear R q5 L))
  go_ret;exact⟨ai HBF2.o.symm,H2.o.b⟩
section
variable{bx:List R8}{k i:Nat}{a b:R8}{r:Int}
def fQ(x y:List UInt8):Op.bytesLess x y=decide (x<y):=by
 induction x generalizing y with
 |nil=>cases y<;>simp[Op.bytesLess]
 |cons a x ih=>
  cases y with
  |nil=>simp[Op.bytesLess]
  |cons b y=>
   rw[Op.bytesLess,ih];by_cases e:a=b<;>simp[List.cons_lt_cons_iff,e]
def CV(x y:List UInt8):(Lib.compareBytes x y=0↔x=y)/\(Lib.compareBytes x y<0↔Op.bytesLess x y=true):=by
 induction x generalizing y with
 |nil=>cases y<;>simp[Lib.compareBytes,Op.bytesLess]
 |cons a x ih=>
  cases y with
  |nil=>simp[Lib.compareBytes,Op.bytesLess]
  |cons b y=>
   have h1:=ih y;rw[Lib.compareBytes,Op.bytesLess];by_cases c:a<b
   .have hne:a≠b:=fun h=>by subst h;exact Qj c (UInt8.lt_irrefl a)
    simp[c,hne]
   .by_cases d:b<a
    .have hne:a≠b:=fun h=>by subst h;exact Qj d (UInt8.lt_irrefl a)
     simp[c,d,hne]
    .have he:a=b:=UInt8.le_antisymm (UInt8.not_lt.1 d) (UInt8.not_lt.1 c);subst he;simp[c,h1.1,h1.2]
def Iq(x y:Int):(Lib.compareInt x y<0↔x<y):=by
 unfold Lib.compareInt;split
 .simp_all
 .split<;>simp_all
def vg(h:dO a b=true)(c:dO b a=true):False:=by
 unfold dO at h c;by_cases e:de a=de b
 .rw[QW e]at h;rw[QW e.symm]at c;simp at h c;omega
 .rw[QV e,fQ]at h;rw[QV (fun x=>e x.symm),fQ]at c;exact Qj (qJ c) (List.lt_asymm (qJ h))
def tD{a b:ByteArray}(h:a.toList=b.toList):a=b:=by
 rw[ByteArray.toList_eq,ByteArray.toList_eq]at h;exact ByteArray.ext (Array.toList_inj.1 h)
def uZ{c:R8}(h:dO a b=true)(f:dO b c=true):dO a c=true:=by
 unfold dO at h f ⊢;by_cases e:de a=de b
 .rw[QW e]at h;by_cases d:de b=de c
  .rw[QW d]at f;rw[QW (e.trans d)];simp at h f ⊢;omega
  .rw[QV d]at f;rw[e,QV d];exact f
 .rw[QV e,fQ]at h;by_cases d:de b=de c
  .rw[<- d,QV e,fQ];exact h
  .rw[QV d,fQ]at f;have g:=List.lt_trans (qJ h) (qJ f);have hne:de a≠de c:=fun x=>by rw[x]at g;exact Qj g (List.lt_irrefl _)
   rw[QV hne,fQ];exact qy g
def ve(d:a.z≠b.z)(h:dO a b=false):dO b a=true:=by
 unfold dO at h ⊢;by_cases e:de a=de b
 .rw[QW e]at h;rw[QW e.symm];simp at h ⊢;omega
 .rw[QV e,fQ]at h;rw[QV (fun x=>e x.symm),fQ];have h1:=of_decide_eq_false h;by_cases c:(de b).toList<(de a).toList
  .exact qy c
  .exact Qj (tD (List.le_antisymm (List.not_lt.1 c) (List.not_lt.1 h1))) e
def fZ(bx:List R8)(i:Nat):Prop:=∃hi:i<bx.length,bx[i].x=1/\∀j(hj:j<bx.length),j≠i->bx[j].x=1->dO bx[i] bx[j]=true
def dN(bx:List R8)(r:Int):Prop:=(r= -1/\∀i,¬fZ bx i)\/∃i:Nat,r=i/\fZ bx i
def uD{j:Nat}(h:fZ bx i)(c:fZ bx j):i=j:=by
 obtain⟨hi,h1,d⟩:=h;obtain⟨l,f,g⟩:=c;by_cases e:i=j
 .exact e
 .exact Qj (vg (d j l (fun x=>e x.symm) f) (g i hi e h1)) id
def oD{d:Int}(h:dN bx r)(c:dN bx d):r=d:=by
 rcases h with⟨rfl,h⟩|⟨i,rfl,h⟩
 .rcases c with⟨rfl,c⟩|⟨i,rfl,c⟩
  .rfl
  .exact Qj c (h i)
 .rcases c with⟨rfl,c⟩|⟨j,rfl,c⟩
  .exact Qj h (c i)
  .rw[uD h c]
def gH(bx:List R8)(k:Nat)(r:Int):Prop:=(r= -1/\∀j(hj:j<bx.length),j<k->bx[j].x≠1)\/∃i:Nat,r=i/\i<k/\∃hi:i<bx.length,bx[i].x=1/\∀j(hj:j<bx.length),j<k->j≠i->bx[j].x=1->dO bx[i] bx[j]=true
def xW(h:gH bx k r)(l:bx.length<=k):dN bx r:=by
 rcases h with⟨rfl,h⟩|⟨i,rfl,g,hi,h1,c⟩
 .exact qp ⟨rfl,fun i d=>by obtain⟨hi,h1,_⟩:=d;exact h i hi om h1⟩
 .exact qt ⟨i,rfl,hi,h1,fun j e hne f=>c j e om hne f⟩
def uY(h:gH bx k r)(p:k<bx.length)(f:bx[k].x≠1):gH bx (k+1) r:=by
 rcases h with⟨rfl,h⟩|⟨i,rfl,n,hi,h1,g⟩
 .refine qp ⟨rfl,fun j c l=>?_⟩;by_cases e:j=k
  .subst e;exact f
  .exact h j c om
 .refine qt ⟨i,rfl,om,hi,h1,fun j c l hne d=>?_⟩;by_cases e:j=k
  .subst e;exact Qj d f
  .exact g j c om hne d
def ti(h:gH bx k (-1))(d:k<bx.length)(f:bx[k].x=1):gH bx (k+1) k:=by
 rcases h with⟨_,h⟩|⟨i,h0,_⟩
 .refine qt ⟨k,rfl,om,d,f,fun j c g hne e=>Qj e (h j c om)⟩
 .omega
def tj(h:gH bx k (i:Int))(l:k<bx.length)(hi:i<bx.length)(p:bx[k].x=1)(c:dO bx[k] bx[i]=true):gH bx (k+1) k:=by
 rcases h with⟨h0,_⟩|⟨d,h0,t,s,h1,f⟩
 .omega
 .have:d=i:=om;subst this;refine qt ⟨k,rfl,om,l,p,fun j g u hne n=>?_⟩;by_cases e:j=d
  .subst e;exact c
  .exact uZ c (f j g om e n)
def rl{st:Int}(n:da st bx)(h:gH bx k (i:Int))(w:k<bx.length)(hi:i<bx.length)(s:bx[k].x=1)(g:dO bx[k] bx[i]=false):gH bx (k+1) i:=by
 rcases h with⟨h0,_⟩|⟨c,h0,l,u,h1,f⟩
 .omega
 .have:c=i:=om;subst this;refine qt ⟨c,rfl,om,hi,h1,fun j d v hne p=>?_⟩;by_cases e:j=k
  .subst e;exact ve (fun t=>(n.2.1 c j hi d l (by rw[h1];decide) (by rw[s];decide)).2 t.symm) g
  .exact f j d om hne p
end
open Go.IntKind renaming i64->J,u32->Zk
def BT(w:World)(g:Nat)(a b:Int)(h:w.heap[g]?=some (.cells #[I J a,I J b] 3)):ce 288 #[sL (be g) 2 2] w fun o w'=>o=rT (I J (if a=0 then b else a))/\w=w':=by
 have f:w.cell? ⟨g,0,none⟩=some (I J a):=by simp[World.cell?,h]
 have c1:w.cell? ⟨g,1,none⟩=some (I J b):=by simp[World.cell?,h]
 clear h;by_cases c:a=0
 .subst c;by_cases e:b=0
  .subst e;go_enter func288,ntmps288;go_wp2_with fail;go_loopw [8] (fun i wr=>∃k:Nat,k<=2/\i=I J (k:Int)/\wr=w) (fun i _=>2-(intOf i).toNat);case atStart=>exact⟨0,nZ _,rfl,rfl⟩
   case round=>
    obtain⟨k,d,rfl,rfl⟩:=hrel;match k,d with
    |0,_=>
     go_wp2;go_roundw;case rel=>exact⟨1,om,rfl,trivial⟩
     case measure=>simp[intOf]
    |1,_=>
     go_wp2;go_roundw;case rel=>exact⟨2,om,rfl,trivial⟩
     case measure=>simp[intOf]
    |2,_=>
     go_wp2;go_ret;exact⟨rfl,rfl⟩
  .have hb':(b==0)=false:=by simpa using e
   go_enter func288,ntmps288;go_wp2_with fail;go_loopw [8] (fun i wr=>∃k:Nat,k<=1/\i=I J (k:Int)/\wr=w) (fun i _=>2-(intOf i).toNat);case atStart=>exact⟨0,nZ _,rfl,rfl⟩
   case round=>
    obtain⟨k,d,rfl,rfl⟩:=hrel;match k,d with
    |0,_=>
     go_wp2;go_roundw;case rel=>exact⟨1,om,rfl,trivial⟩
     case measure=>simp[intOf]
    |1,_=>
     go_wp2;go_ret;exact⟨rfl,rfl⟩
 .have ha':(a==0)=false:=by simpa using c
  rw[QV c];go_enter func288,ntmps288;go_wp2_with fail;go_loopw [8] (fun i wr=>i=I J 0/\wr=w) (fun i _=>0);case atStart=>exact⟨rfl,rfl⟩
  case round=>
   obtain⟨rfl,rfl⟩:=hrel;go_wp2;go_ret;exact⟨rfl,rfl⟩
structure gaS(w:World)(L1 L2:List Value)(W:World):Prop where
 p:blk W w.heap.size L1 114
 q:blk W (w.heap.size+1) L2 114
 b:Bl w W
def gaS.below{w:World}{L1 L2:List Value}{W W':World}(h:gaS w L1 L2 W)(hb:Bl W W'):gaS w L1 L2 W':=⟨h.p.below hb,h.q.below hb,h.b.trans (hb.mono h.b.size)⟩
def yc(A B:R8):decide ((if Lib.compareBytes (de A).data.toList (de B).data.toList=0 then Lib.compareInt A.z B.z else Lib.compareBytes (de A).data.toList (de B).data.toList)<0)=dO A B:=by
 have h:=CV (de A).data.toList (de B).data.toList;unfold dO;rw[ByteArray.toList_eq,ByteArray.toList_eq];by_cases e:de A=de B
 .rw[QW e,QW (h.1.2 (by rw[e]))];exact decide_eq_decide.2 (Iq _ _)
 .rw[QV e,QV (fun x=>e (ByteArray.ext (Array.toList_inj.1 (h.1.1 x))))];rw[Q0,qQ];exact h.2
def nr(w:World)(A B:R8)(k:Option Addr)(m c:Nat)(n:Option Addr)(j s:Nat)(h:iB w k m c A.l)(O:iB w n j s B.l):ce 270 #[bxV A.x A.y A.z A.e A.i A.r A.d k m c,bxV B.x B.y B.z B.e B.i B.r B.d n j s] w fun o w'=>o=rT (bO (dO A B))/\Bl w w':=by
 have HV:=yc A B;have e1:de A=ia A.e A.i A.r A.d m:=by unfold de;rw[h.len]
 have e2:de B=ia B.e B.i B.r B.d j:=by unfold de;rw[O.len]
 have X:Hid (∀W,Bl w W->ce 290 #[frV A.e A.i A.r A.d k m c] W fun o w'=>o=rT (.string (de A))/\Bl W w'):=fun W Q=>e1 ▸ vZ W _ _ _ _ k m c A.l (h.below Q);have Y:Hid (∀W,Bl w W->ce 290 #[frV B.e B.i B.r B.d n j s] W fun o w'=>o=rT (.string (de B))/\Bl W w'):=fun W Q=>e2 ▸ vZ W _ _ _ _ n j s B.l (O.below Q);clear e1 e2 h O;rw[<- HV];clear HV;generalize de A=T at*;generalize de B=U at*;obtain⟨x,y,z,e,D,r,d,l⟩:=A;obtain⟨M,N,H,v,E,G,u,l'⟩:=B;simp only[]at X Y ⊢;have a4:=hI (Tryz.strings_Compare T U);have a5:=hI (Tryz.cmp_Compare_int z H);generalize Lib.compareBytes T.data.toList U.data.toList=t at*;generalize Lib.compareInt z H=L at*;have a6:Hid (∀W g,W.heap[g]?=some (.cells #[I J t,I J L] 3)->ce 288 #[sL (be g) 2 2] W fun o w'=>o=rT (I J (if t=0 then L else t))/\W=w'):=fun W g h=>BT W g t L h;generalize (if t=0 then L else t)=cc at*;have Z:Hid (gaS w [I J x,I J y,I J z,bO e,I Zk (D:Int),bO r,I J d,sL k m c] [I J M,I J N,I J H,bO v,I Zk (E:Int),bO G,I J u,sL n j s] ((w.alloc (.cells [I J x,I J y,I J z,bO e,I Zk (D:Int),bO r,I J d,sL k m c].toArray 114)).alloc (.cells [I J M,I J N,I J H,bO v,I Zk (E:Int),bO G,I J u,sL n j s].toArray 114))):=⟨(blk.new w _ 114).alloc _,by have:=blk.new (w.alloc (.cells [I J x,I J y,I J z,bO e,I Zk (D:Int),bO r,I J d,sL k m c].toArray 114)) [I J M,I J N,I J H,bO v,I Zk (E:Int),bO G,I J u,sL n j s] 114;simpa using this,Zw.alloc pQ _⟩
 go_enter func270,ntmps270;go_wp2_with fail;have a0:=Z.o;clear Z;generalize ((w.alloc (.cells #[I J x,I J y,I J z,bO e,I Zk (D:Int),bO r,I J d,sL k m c] 114)).alloc (.cells #[I J M,I J N,I J H,bO v,I Zk (E:Int),bO G,I J u,sL n j s] 114))=w0 at*;refine Qu (S:=gaS w [I J x,I J y,I J z,bO e,I Zk (D:Int),bO r,I J d,sL k m c] [I J M,I J N,I J H,bO v,I Zk (E:Int),bO G,I J u,sL n j s]) kr ?_;have hS:=a0.below (W':=w0.drew) (bW _ _).drew;clear a0;refine tk 0 ?_;refine wU 1 (.agg [bO e,I Zk (D:Int),bO r,I J d,sL k m c].toArray) rfl (Qw (by rfl) 53 (.tmp 5) rfl w.heap.size 3 rfl [bO e,I Zk (D:Int),bO r,I J d,sL k m c] _ (fun W h=>blk.loadAt [I J x,I J y,I J z] [bO e,I Zk (D:Int),bO r,I J d,sL k m c] [] h.p) underlying53 rfl cE) hS ?_;simp only[aZ];refine tk 3 ?_;refine wU 4 (.agg [bO v,I Zk (E:Int),bO G,I J u,sL n j s].toArray) rfl (Qw (by rfl) 53 (.tmp 8) rfl (w.heap.size+1) 3 rfl [bO v,I Zk (E:Int),bO G,I J u,sL n j s] _ (fun W h=>blk.loadAt [I J M,I J N,I J H] [bO v,I Zk (E:Int),bO G,I J u,sL n j s] [] h.q) underlying53 rfl cE) hS ?_;simp only[aZ];refine tk 7 ?_;refine tk 8 ?_ (hy:=fun W P=>by(have hc:=P.p.cell 2 _ rfl;go_simp;try rfl));refine tk 9 ?_;refine tk 10 ?_ (hy:=fun W P=>by(have hc:=P.q.cell 2 _ rfl;go_simp;try rfl));refine al 2 fun K a=>?_;go_simp;refine(X.o _ hS.b).mono ?_;rintro o w1 ⟨rfl,a1⟩;have C:=hS.below a1;go_wp2_with fail;refine a.out _ _ C (fun f=>?_);clear hS a K;have hS:=f;clear f;clear C a1;refine al 5 fun K a=>?_;go_simp;refine(Y.o _ hS.b).mono ?_;rintro o w2 ⟨rfl,a2⟩;have C:=hS.below a2;go_wp2_with fail;refine a.out _ _ C (fun f=>?_);clear hS a K;have hS:=f;clear f;clear C a2;refine al 6 fun K a=>?_;go_simp;refine(a4.o _).mono ?_;rintro o w3 ⟨rfl,rfl⟩;go_wp2_with fail;refine a.out _ _ hS (fun f=>?_);clear hS a K;have hS:=f;clear f;refine al 11 fun K a=>?_;go_simp;refine(a5.o _).mono ?_;rintro o R ⟨rfl,rfl⟩;go_wp2_with fail;refine a.out _ _ hS (fun f=>?_);clear hS a K;have hS:=f;clear f;refine al 12 fun K a=>?_;go_simp;have hg:=Qy R (.cells #[I J t,I J L] 3);have C:=hS.below ((bW _ R).alloc (nR _) (.cells #[I J t,I J L] 3));generalize (R.alloc (.cells #[I J t,I J L] 3))=w5 at*;refine a.out _ _ C (fun f=>?_);clear hS a K C;have hS:=f;clear f;refine al 13 fun K a=>?_;go_simp;refine(a6.o _ _ hg).mono ?_;rintro o w6 ⟨rfl,rfl⟩;go_wp2_with fail;refine a.out _ _ hS (fun f=>?_);clear hS a K;have hS:=f;clear f;refine tk 14 ?_;refine tk 15 ?_;refine Qs kr ?_ _;have a3:=hI hS.b;clear hS;go_wp2;go_ret;exact⟨rfl,a3.o⟩
section
variable{bx:List R8}{k v:Nat}
def mE(bx:List R8)(k v:Nat):Prop:=∀(hk:k<bx.length)j(hj:j<bx.length),j<v->j≠k->bx[j].x=1->dO bx[k] bx[j]=true
def tp(a:k<bx.length)(d:v<bx.length):mE bx k (v+1)↔(mE bx k v/\(v≠k->bx[v].x=1->dO bx[k] bx[v]=true)):=by
 constructor
 .intro h;exact⟨fun a j b c=>h a j b om,h a v d om⟩
 .rintro⟨h1,h2⟩ a j b c;by_cases e:j=v
  .subst e;exact h2
  .exact h1 a j b om
def vh(hk:k<bx.length)(hv:bx.length<=v)(hx:bx[k].x=1):mE bx k v↔fZ bx k:=
 ⟨fun h=>⟨hk,hx,fun j hj hne hw=>h hk j hj om hne hw⟩,fun⟨_,_,h⟩ hk j hj _ hne hw=>h j hj hne hw⟩
def ur(w:World)(H:Ho)(s:Sl)(h:aP w s.a2 s.n2 s.k2 H.bx)(U:s.n2<=8):ce 110 #[hoV H s] w fun o w'=>∃r:Int,o=rT (I J r)/\dN H.bx r/\Bl w w':=by
 have R:Hid (obS w H s (w.alloc (.cells (hoL H s).toArray 50))):=⟨blk.new w _ 50,Zw⟩
 have a0:=h.cap;have u:=fun W(hW:Bl w W)i j hi D=>pJ W H s (h.below hW) U i j hi D;obtain⟨L,c1,c2,c3,M,bx,ff,qu,lo,st⟩:=H;obtain⟨a1,n1,k1,a2,n2,k2,a3,n3,k3,a4,n4,k4⟩:=s;simp only[]at h a0 U u ⊢;have u:Hid _:=u;have y:=hI h.len;by_cases O:bx=[]
 .subst O;have a5:n2=0:=y.o;subst a5;clear h u;go_enter func110,ntmps110;go_wp2_with fail;go_loopw [3] (fun i wr=>i=I J 0/\obS w ⟨L,c1,c2,c3,M,[],ff,qu,lo,st⟩ ⟨a1,n1,k1,a2,0,k2,a3,n3,k3,a4,n4,k4⟩ wr) (fun _ _=>0);case atStart=>exact⟨rfl,R.o⟩
  case round=>
   obtain⟨rfl,hS⟩:=hrel;have p5:=hS.p.cell 5 _ rfl;have a:=hS.b;go_wp2;go_ret;exact⟨-1,rfl,qp ⟨rfl,fun i d=>by obtain⟨hi,_⟩:=d;cases hi⟩,a⟩
 obtain⟨g,off,rfl,T⟩:=h.cells O;have S:=hI T;clear T h O;go_enter func110,ntmps110;go_wp2_with fail;go_loopw [3] (fun i wr=>∃k:Nat,k<=n2/\i=I J (k:Int)/\(∀j,j<k->¬fZ bx j)/\obS w ⟨L,c1,c2,c3,M,bx,ff,qu,lo,st⟩ ⟨a1,n1,k1,some ⟨g,off,none⟩,n2,k2,a3,n3,k3,a4,n4,k4⟩ wr) (fun i _=>n2-(intOf i).toNat);case atStart=>exact⟨0,nZ _,rfl,fun j h=>Qj h (nN _),R.o⟩
 case round=>
  obtain⟨k,hk,rfl,hA,hS⟩:=hrel;have E:=hI hA;have a:=hI hS;have x5:=hS.p.cell 5 _ rfl;clear hA hS;by_cases a7:k<n2
  .have hkl:k<bx.length:=by have:=y.o;omega
   obtain⟨ao,m,c,A⟩:=S.o k hkl;have u0:=(A.below a.o.b).c0;clear A;by_cases t:bx[k].x=1
   .rw[t]at u0;have Z:=hI t;clear t;go_wp2_with fail;clear x5 u0;go_loopw [4,5] (fun q j wi=>∃(v:Nat)(b:Bool),v<=n2/\q=bO b/\j=I J (v:Int)/\(b=true↔mE bx k v)/\obS w ⟨L,c1,c2,c3,M,bx,ff,qu,lo,st⟩ ⟨a1,n1,k1,some ⟨g,off,none⟩,n2,k2,a3,n3,k3,a4,n4,k4⟩ wi) (fun _ j _=>n2-(intOf j).toNat);case atStart=>exact⟨0,true,nZ _,rfl,rfl,⟨fun _ _ j D h=>Qj h (nN _),fun _=>rfl⟩,a.o⟩
    case round=>
     obtain⟨v,b,hv,rfl,rfl,X,hS⟩:=hrel;have f:=hI X;clear a;have a:=hI hS;have x5:=hS.p.cell 5 _ rfl;clear X hS;by_cases a8:v<n2
     .have hvl:v<bx.length:=by have:=y.o;omega
      have l:=hI (tp hkl hvl);have B:=hI (u.o wr a.o.b k v hkl hvl);obtain⟨ao,m,c,A⟩:=S.o v hvl;have u0:=(A.below a.o.b).c0;clear A;generalize bx[v].x=Y at*;generalize dO bx[k] bx[v]=bf at*;by_cases P:v=k
      .have n:=hI (f.o.trans (l.o.trans ⟨fun h=>h.1,fun h=>⟨h,fun hne=>Qj P hne⟩⟩).symm);have a6:((v:Int)==(k:Int))=true:=by simp;omega
       subst P;clear B l f;go_wp2_with fail;go_roundw;case rel=>exact⟨v+1,b,om,rfl,by go_num,n.o,a.o⟩
       case measure=>simp[intOf];omega
      .have a6:((v:Int)==(k:Int))=false:=by simp;omega
       by_cases Q:Y=1
       .subst Q;have C:=a.o.p.load;have C:=hI C;cases bf with
        |true=>
         have n:=hI (f.o.trans (l.o.trans ⟨fun h=>h.1,fun h=>⟨h,fun _ _=>rfl⟩⟩).symm)
         clear l f;go_wp2_with(first|(refine an (by simp[Region.wanted,yielded];omega) 50 _ rfl w.heap.size 0 rfl _ _ C.o underlying50 rfl (fj _ _) ?_)|(go_at_call 164;refine B.o.mono ?_;rintro o w4 ⟨rfl,N⟩))
         have K:=a.o.below N;go_roundw;case rel=>exact⟨v+1,b,om,rfl,by go_num,n.o,K⟩
         case measure=>simp[intOf];omega
        |false=>
         have n:Hid (false=true↔mE bx k (v+1)):=⟨fun h=>Qj h (by decide),fun h=>(l.o.1 h).2 P rfl⟩
         clear l f;go_wp2_with(first|(refine an (by simp[Region.wanted,yielded];omega) 50 _ rfl w.heap.size 0 rfl _ _ C.o underlying50 rfl (fj _ _) ?_)|(go_at_call 164;refine B.o.mono ?_;rintro o w4 ⟨rfl,N⟩))
         have K:=a.o.below N;go_roundw;case rel=>exact⟨v+1,false,om,rfl,by go_num,n.o,K⟩
         case measure=>simp[intOf];omega
       .have n:=hI (f.o.trans (l.o.trans ⟨fun h=>h.1,fun h=>⟨h,fun _ hw=>Qj hw Q⟩⟩).symm);have ac:(Y==1)=false:=by simpa using Q
        clear B l f;go_wp2_with fail;go_roundw;case rel=>exact⟨v+1,b,om,rfl,by go_num,n.o,a.o⟩
        case measure=>simp[intOf];omega
     .have HF:=hI (f.o.trans (vh hkl (by have:=y.o;omega) Z.o));cases b with
      |true=>
       go_wp2;go_ret;exact⟨k,rfl,qt ⟨k,rfl,HF.o.1 (by trivial)⟩,a.o.b⟩
      |false=>
       have G:Hid (∀j,j<k+1->¬fZ bx j):=fun j D d=>by
        by_cases e:j=k
        .subst e;exact Qj (HF.o.2 d) (by decide)
        .exact E.o j om d
       go_wp2;go_roundw;case rel=>exact⟨k+1,om,by go_num,G.o,a.o⟩
       case measure=>simp[intOf];omega
   .have G:Hid (∀j,j<k+1->¬fZ bx j):=fun j D d=>by
     by_cases e:j=k
     .subst e;obtain⟨_,h1,_⟩:=d;exact t h1
     .exact E.o j om d
    have a9:(bx[k].x==1)=false:=by simpa using t
    generalize bx[k].x=xk at*;clear t;go_wp2;go_roundw;case rel=>exact⟨k+1,om,by go_num,G.o,a.o⟩
    case measure=>simp[intOf];omega
  .have HF:Hid (∀i,¬fZ bx i):=fun i d=>E.o i (by obtain⟨hi,_⟩:=d;have:=y.o;omega) d;go_wp2;go_ret;exact⟨-1,rfl,qp ⟨rfl,HF.o⟩,a.o.b⟩
end
structure beS(w:World)(PB:Nat)(L:List Value)(W:World):Prop where
 p:blk W PB L 114
 b:Bl w W
def beS.below{w:World}{PB:Nat}{L:List Value}{W W':World}(h:beS w PB L W)(hb:Bl W W'):beS w PB L W':=⟨h.p.below hb,h.b.trans (hb.mono h.b.size)⟩
def Bd(w:World)(LB:Nat)(a:Option Addr)(n cap:Nat)(bx:List R8)(st:Int)(a8:w.cell? ⟨LB,5,none⟩=some (sL a n cap))(h:aP w a n cap bx)(hn:n<=8)(ao:da st bx):ce 251 #[ap LB] w fun o w'=>∃r:Int,o=rT (I J r)/\dN bx r/\Bl w w':=by
 have b4:=h.cap;have HL:=hI h.len;have b2:=hI ao;have ad:Hid (∀W,Bl w W->W.cell? ⟨LB,5,none⟩=some (sL a n cap)):=fun W O=>(O.cell (by exact Qn w _ a8)).trans a8;clear ao;by_cases hl:bx=[]
 .subst hl;have b3:n=0:=HL.o;subst b3;clear h;go_enter func251,ntmps251;go_wp2_with fail;go_loopw [3,11] (fun b i wr=>b=I J (-1)/\i=I J 0/\w=wr) (fun _ _ _=>0);case atStart=>exact⟨rfl,rfl,rfl⟩
  case round=>
   obtain⟨rfl,rfl,rfl⟩:=hrel;go_wp2;go_ret;exact⟨-1,rfl,qp ⟨rfl,fun i C=>by obtain⟨hi,_⟩:=C;cases hi⟩,bW _ _⟩
 obtain⟨g,off,rfl,D⟩:=h.cells hl;have HC:=hI D;clear D h hl;go_enter func251,ntmps251;go_wp2_with fail;clear a8;go_loopw [3,11] (fun b i wr=>∃(k:Nat)(s:Int),k<=n/\i=I J (k:Int)/\b=I J s/\gH bx k s/\Bl w wr) (fun _ i _=>n-(intOf i).toNat);case atStart=>exact⟨0,-1,nZ _,rfl,rfl,qp ⟨rfl,fun j hj h=>Qj h (nN _)⟩,bW _ _⟩
 case round=>
  obtain⟨k,s,hk,rfl,rfl,ak,am⟩:=hrel;have A:=hI ak;have u:=hI am;clear ak am;by_cases b5:k<n
  .have hkl:k<bx.length:=by have:=HL.o;omega
   obtain⟨f,m,c,hx⟩:=HC.o k hkl;have G:=(hx.below u.o).range;have M:=hI hx.dat;have R:=hI (uY A.o hkl);have N:Hid (s= -1->bx[k].x=1->gH bx (k+1) k):=fun e v=>ti (e ▸ A.o) hkl v;have K:Hid (∀q:Nat,s=q->∀hq:q<bx.length,bx[k].x=1->dO bx[k] bx[q]=true->gH bx (k+1) k):=fun q e hq v C=>tj (e ▸ A.o) hkl hq v C;have L:Hid (∀q:Nat,s=q->∀hq:q<bx.length,bx[k].x=1->dO bx[k] bx[q]=false->gH bx (k+1) q):=fun q e hq v C=>rl b2.o (e ▸ A.o) hkl hq v C;obtain⟨b,C⟩:∃b,bx[k]=b:=⟨_,rfl⟩
   rw[C]at G M R N K L;obtain⟨x,y,z,e,i,r,d,l⟩:=b;have G:=hI G;simp only[]at M R N K L;clear hx C;by_cases v:x=1
   .subst v;have a6:Hid (s= -1\/∃q:Nat,s=q/\q<n):=by
     rcases A.o with⟨h,_⟩|⟨q,h,b7,_⟩
     .exact qp h
     .exact qt ⟨q,h,om⟩
    clear R;by_cases a5:s= -1
    .have HFI:=hI (N.o a5 rfl);subst a5;clear N K L A a6 M;have H:Hid (beS w wr.heap.size [I J 1,I J y,I J z,bO e,I Zk (i:Int),bO r,I J d,sL f m c] (wr.alloc (.cells #[I J 1,I J y,I J z,bO e,I Zk (i:Int),bO r,I J d,sL f m c] 114))):=⟨blk.new wr _ 114,u.o.trans (((bW _ wr).alloc (nR _) _).mono u.o.size)⟩
     go_wp2_with(refine ZG 114 G.o underlying114 cK ?_)
     generalize (wr.alloc (.cells #[I J 1,I J y,I J z,bO e,I Zk (i:Int),bO r,I J d,sL f m c] 114))=w3 at*;generalize wr.heap.size=B at*;refine Qu (S:=beS w B [I J 1,I J y,I J z,bO e,I Zk (i:Int),bO r,I J d,sL f m c]) kr ?_;have hS:=H.o.below (bW _ _).drew;refine tk 0 ?_;refine tk 1 ?_ (hy:=fun W t=>by(have D:=t.p.cell 0 _ rfl;go_simp;try rfl));refine tk 2 ?_;refine tk 3 ?_;refine tk 4 ?_;refine tk 5 ?_;refine tk 6 ?_;refine tn 7 ?_;refine tn 8 ?_;refine tn 9 ?_;refine tn 10 ?_;refine tn 11 ?_;refine tn 12 ?_;refine tn 13 ?_;refine tn 14 ?_;refine tn 15 ?_;refine tk 16 ?_;refine tk 17 ?_;refine Qs kr ?_ _;have E:=hI hS.b;clear hS;go_wp2;go_roundw;case rel=>exact⟨k+1,(k:Int),om,by go_num,rfl,HFI.o,E.o⟩
     case measure=>simp[intOf];omega
    .obtain⟨q,hrq,hqn⟩:∃q:Nat,s=q/\q<n:=a6.o.resolve_left a5;subst hrq;have a9:q<bx.length:=by have:=HL.o;omega
     obtain⟨T,m',U,ac⟩:=HC.o q a9;have a3:=hI (K.o q rfl a9 rfl);have a4:=hI (L.o q rfl a9 rfl);have Q:=fun W(O:Bl w W)=>(ac.below O).range;have P:=fun W(O:Bl w W)=>nr W ⟨1,y,z,e,i,r,d,l⟩ bx[q] f m c T m' U (M.o.below O) (ac.dat.below O);obtain⟨b',af⟩:∃b,bx[q]=b:=⟨_,rfl⟩
     rw[af]at a3 a4 Q P;obtain⟨x',y',z',Y,i',r',X,l'⟩:=b';have Q:=hI Q;have P:=hI P;have b6:decide ((q:Int)<0)=false:=pQ;clear N K L A a6 M ac af a5;generalize dO ⟨1,y,z,e,i,r,d,l⟩ ⟨x',y',z',Y,i',r',X,l'⟩=bf at*;cases bf with
     |true=>
      have aw:=hI (a3.o rfl);clear a3 a4;have H:Hid (beS w wr.heap.size [I J 1,I J y,I J z,bO e,I Zk (i:Int),bO r,I J d,sL f m c] (wr.alloc (.cells #[I J 1,I J y,I J z,bO e,I Zk (i:Int),bO r,I J d,sL f m c] 114))):=⟨blk.new wr _ 114,u.o.trans (((bW _ wr).alloc (nR _) _).mono u.o.size)⟩
      go_wp2_with(refine ZG 114 G.o underlying114 cK ?_)
      generalize (wr.alloc (.cells #[I J 1,I J y,I J z,bO e,I Zk (i:Int),bO r,I J d,sL f m c] 114))=w3 at*;generalize wr.heap.size=B at*;refine Qu (S:=beS w B [I J 1,I J y,I J z,bO e,I Zk (i:Int),bO r,I J d,sL f m c]) kr ?_;have hS:=H.o.below (bW _ _).drew;refine tk 0 ?_;refine tk 1 ?_ (hy:=fun W t=>by(have D:=t.p.cell 0 _ rfl;go_simp;try rfl));refine tk 2 ?_;refine tk 3 ?_;refine tk 4 ?_;refine tk 5 ?_;refine tk 6 ?_;refine wU 7 (.agg [I J 1,I J y,I J z,bO e,I Zk (i:Int),bO r,I J d,sL f m c].toArray) rfl (Qw (by rfl) 114 (.tmp 5) rfl B 0 rfl [I J 1,I J y,I J z,bO e,I Zk (i:Int),bO r,I J d,sL f m c] _ (fun W h=>h.p.load) underlying114 rfl cK) hS ?_;simp only[aZ];refine tk 8 ?_;refine tk 9 ?_;refine tk 10 ?_;refine tk 11 ?_ (hy:=fun W t=>by(have D:=ad.o W t.b;go_simp;try rfl));refine tk 12 ?_;refine tk 13 ?_;refine wU 14 (.agg [I J x',I J y',I J z',bO Y,I Zk (i':Int),bO r',I J X,sL T m' U].toArray) rfl (Qw (by rfl) 114 (.tmp 29) rfl g (off+q*8) rfl [I J x',I J y',I J z',bO Y,I Zk (i':Int),bO r',I J X,sL T m' U] _ (fun W h=>Q.o W h.b) underlying114 rfl cK) hS ?_;simp only[aZ];refine al 15 fun a7 Z=>?_;go_simp;refine(P.o _ hS.b).mono ?_;rintro o w6 ⟨rfl,a2⟩;have a0:=hS.below a2;go_wp2_with fail;refine Z.out _ _ a0 (fun a1=>?_);clear hS Z a7 a0 a2;have hS:=a1;clear a1;refine tk 16 ?_;refine tk 17 ?_;refine Qs kr ?_ _;have E:=hI hS.b;clear hS;go_wp2;go_roundw;case rel=>exact⟨k+1,(k:Int),om,by go_num,rfl,aw.o,E.o⟩
      case measure=>simp[intOf];omega
     |false=>
      have b1:=hI (a4.o rfl);clear a3 a4;have H:Hid (beS w wr.heap.size [I J 1,I J y,I J z,bO e,I Zk (i:Int),bO r,I J d,sL f m c] (wr.alloc (.cells #[I J 1,I J y,I J z,bO e,I Zk (i:Int),bO r,I J d,sL f m c] 114))):=⟨blk.new wr _ 114,u.o.trans (((bW _ wr).alloc (nR _) _).mono u.o.size)⟩
      go_wp2_with(refine ZG 114 G.o underlying114 cK ?_)
      generalize (wr.alloc (.cells #[I J 1,I J y,I J z,bO e,I Zk (i:Int),bO r,I J d,sL f m c] 114))=w3 at*;generalize wr.heap.size=B at*;refine Qu (S:=beS w B [I J 1,I J y,I J z,bO e,I Zk (i:Int),bO r,I J d,sL f m c]) kr ?_;have hS:=H.o.below (bW _ _).drew;refine tk 0 ?_;refine tk 1 ?_ (hy:=fun W t=>by(have D:=t.p.cell 0 _ rfl;go_simp;try rfl));refine tk 2 ?_;refine tk 3 ?_;refine tk 4 ?_;refine tk 5 ?_;refine tk 6 ?_;refine wU 7 (.agg [I J 1,I J y,I J z,bO e,I Zk (i:Int),bO r,I J d,sL f m c].toArray) rfl (Qw (by rfl) 114 (.tmp 5) rfl B 0 rfl [I J 1,I J y,I J z,bO e,I Zk (i:Int),bO r,I J d,sL f m c] _ (fun W h=>h.p.load) underlying114 rfl cK) hS ?_;simp only[aZ];refine tk 8 ?_;refine tk 9 ?_;refine tk 10 ?_;refine tk 11 ?_ (hy:=fun W t=>by(have D:=ad.o W t.b;go_simp;try rfl));refine tk 12 ?_;refine tk 13 ?_;refine wU 14 (.agg [I J x',I J y',I J z',bO Y,I Zk (i':Int),bO r',I J X,sL T m' U].toArray) rfl (Qw (by rfl) 114 (.tmp 29) rfl g (off+q*8) rfl [I J x',I J y',I J z',bO Y,I Zk (i':Int),bO r',I J X,sL T m' U] _ (fun W h=>Q.o W h.b) underlying114 rfl cK) hS ?_;simp only[aZ];refine al 15 fun a7 Z=>?_;go_simp;refine(P.o _ hS.b).mono ?_;rintro o w6 ⟨rfl,a2⟩;have a0:=hS.below a2;go_wp2_with fail;refine Z.out _ _ a0 (fun a1=>?_);clear hS Z a7 a0 a2;have hS:=a1;clear a1;refine tk 16 ?_;refine tk 17 ?_;refine Qs kr ?_ _;have E:=hI hS.b;clear hS;go_wp2;go_roundw;case rel=>exact⟨k+1,(q:Int),om,by go_num,rfl,b1.o,E.o⟩
      case measure=>simp[intOf];omega
   .have HSK:=hI (R.o v);have b8:(x==1)=false:=by simpa using v
    clear R N K L A M v;have H:Hid (beS w wr.heap.size [I J x,I J y,I J z,bO e,I Zk (i:Int),bO r,I J d,sL f m c] (wr.alloc (.cells #[I J x,I J y,I J z,bO e,I Zk (i:Int),bO r,I J d,sL f m c] 114))):=⟨blk.new wr _ 114,u.o.trans (((bW _ wr).alloc (nR _) _).mono u.o.size)⟩
    go_wp2_with(refine ZG 114 G.o underlying114 cK ?_)
    generalize (wr.alloc (.cells #[I J x,I J y,I J z,bO e,I Zk (i:Int),bO r,I J d,sL f m c] 114))=w3 at*;generalize wr.heap.size=B at*;refine Qu (S:=beS w B [I J x,I J y,I J z,bO e,I Zk (i:Int),bO r,I J d,sL f m c]) kr ?_;have hS:=H.o.below (bW _ _).drew;refine tk 0 ?_;refine tk 1 ?_ (hy:=fun W t=>by(have D:=t.p.cell 0 _ rfl;go_simp;try rfl));refine tk 2 ?_;refine tk 3 ?_;refine tn 4 ?_;refine tn 5 ?_;refine tn 6 ?_;refine tn 7 ?_;refine tn 8 ?_;refine tn 9 ?_;refine tn 10 ?_;refine tn 11 ?_;refine tn 12 ?_;refine tn 13 ?_;refine tn 14 ?_;refine tn 15 ?_;refine tn 16 ?_;refine tk 17 ?_;refine Qs kr ?_ _;have E:=hI hS.b;clear hS;go_wp2;go_roundw;case rel=>exact⟨k+1,s,om,by go_num,rfl,HSK.o,E.o⟩
    case measure=>simp[intOf];omega
  .have HF:=hI (xW A.o (by have:=HL.o;omega));go_wp2;go_ret;exact⟨s,rfl,HF.o,u.o⟩
end Go.Proofs.YtbbffcolnddcdaaGreatDoor
