import Derived.Test.YtbbffcolnddcdaaGreatDoorK19
import Derived.Great.BuildSlice
import Derived.Test.YtbbffcolnddcdaaGreatDoorK07
namespace Go.Proofs.YtbbffcolnddcdaaGreatDoor
open Go.Proofs.Tryz
open Option renaming none->nn,some->sQ
open Go renaming World->Wd
set_option maxRecDepth 20000
open Go.RowKit
set_option linter.all false
set_option maxHeartbeats 16000000
open Go.Value renaming int->I,slice->sL,bool->bO,pointer->pT,agg->aG
open Go.IntKind renaming i64->J
open Go.Ending renaming returned->rT
open Go.Proofs.Tryz renaming prog->Tp
section
variable{w:Wd}{q:Nat}{o:Oper}{a:Act}{K:Act->Wd->Prop}{Q:Exit->Act->Wd->Prop}
def Gn{R:Type}{f:R->Option Addr->Nat->Nat->List Value}{g:R->List Nat}{w0:Wd}{gs room first:Nat}{L:List R}(h:iS f g q w0 w gs room first L):∃d:List (R × Option Addr × Nat × Nat),d.map (·.1)=L/\∀j(e:j<d.length),w.rangeAt gs ((first+j)%room*q) (xF f d[j])/\iB w0 d[j].2.1 d[j].2.2.1 d[j].2.2.2 (g d[j].1):=by
 unfold iS at h;revert first
 induction L with
 |nil=>intro first _;exact⟨[],rfl,fun j e=>Qj e (nN _)⟩
 |cons b M ih=>
  intro f i;obtain⟨k,m,c,h0⟩:=i 0 pQ
  obtain⟨d,l,hs⟩:=ih (first:=f+1) (fun j e=>by
   have:=i (j+1) (by simpa using e)
   rw[show f+(j+1)=f+1+j by omega]at this
   simpa using this)
  refine⟨(b,k,m,c)::d,by simp[l],fun j e=>?_⟩;cases j with
  |zero=>exact h0
  |succ j=>
   have:=hs j (by simpa using e);rw[show f+(j+1)=f+1+j by omega];exact this
def Bs(s x:Operand){t e q f:Nat}{z:Value}(D:Tp.underlying t=sQ (.slice e))(hi:(Tp.info? e).map (fun i=>(i.zero,i.size,i.bytes))=sQ (sQ z,q,f))(G:z.cells.size=q)(g:0<q/\f<=100)
  (ho:o.op= .call {callee:=.builtin .append,args:=#[s,x],argTypes:=#[t,t]})
  (B n:Nat) (v:Value) (xs:List Value) (hs:a.eval s=v) (A:w.ownsRow B e q v n xs) (b:Nat) (c:List Value) (E:a.eval x=sL (be b) 1 1) (y:c.length=q) (p:w.heap[b]?=sQ (.cells c.toArray e)) (h1:c.toArray.all (·.oneCell')=true) (S:n<=100000) (hB:B<=w.heap.size)
  (h:∀d w',w'.ownsRow B e q d (n+1) (xs++c)->w.grownBy w' v.ownBlock->K (a.put o.dst d) w') :
  o.wp Tp a w K Q:=by
 obtain⟨N,hi,H,L,M⟩:=QH hi
 obtain⟨d,w',C,k,l,O,R⟩:=run_append_own_at (P:=Tp) w B t o.type e N _ q f D hi H L M G g.1 v n xs A ⟨b,0,nn⟩ 1 1 c (by rw[y,Nat.one_mul]) (by
  intro j u r;have:=cd p j u r
  rw[Addr.add_lit]
  exact this) (by simpa using h1) (by unfold maxLen;omega) (nT (Nat.mul_le_mul (show n+1<=100001 by omega) g.2) om) hB
 unfold Oper.wp execOp;simp only[ho,resolve,invoke,builtin,QS,Sem.run_pure,Result.andThen_ok,List.map_toArray,Qi,List.map_nil,hs,E,C];exact h d w' k l
def DW{t e:Nat}(g:t=47/\e=53/\q=5\/t=48/\e=212/\q=8)(x:Operand)(ho:o.op= .buildSlice t 1 #[(0,x)])(b:List Value)(d:b.length=q)(f:a.eval x=aG b.toArray)
  (h:∀c:Wd,c.heap[w.heap.size]?=sQ (.cells b.toArray e)->(∀{B t q v n xs},w.ownsRow B t q v n xs->c.ownsRow B t q v n xs)->(∀{B w0},Below B w0 w->B<=w.heap.size->Below B w0 c)->K (a.put o.dst (sL (be w.heap.size) 1 1)) c):o.wp Tp a w K Q:=by
 have h:=h (w.alloc (.cells b.toArray e)) (Qy w _) (fun h=>Qx h _) (fun h hs=>h.alloc hs _);rcases g with⟨rfl,rfl,rfl⟩|⟨rfl,rfl,rfl⟩
 .obtain⟨i0,hi,hz0,hz1,hz2⟩:=QH info53;refine wp_buildSlice 47 53 1 _ ho _ i0 _ underlying47 hi hz0 (by rw[hz1];decide) (by rw[hz1];decide) ?_ h;simp only[List.map_toArray,Qi,List.map_nil,f,hz1];match b,d with
  |[_,_,_,_,_],_=>go_simp
 .obtain⟨i0,hi,hz0,hz1,hz2⟩:=QH info212;refine wp_buildSlice 48 212 1 _ ho _ i0 _ underlying48 hi hz0 (by rw[hz1];decide) (by rw[hz1];decide) ?_ h;simp only[List.map_toArray,Qi,List.map_nil,f,hz1];match b,d with
  |[_,_,_,_,_,_,_,_],_=>go_simp
def DD{R:Type}(f:R->Option Addr->Nat->Nat->List Value)(dt:R->List Nat)(q:Nat)(t:TypeId)(O:FuncId)(g:O=236/\t=53/\q=5\/O=237/\t=212/\q=8)(B:∀b h m c,(f b h m c).length=q)(a6:∀b h m c,(f b h m c).toArray.all (·.oneCell')=true)
  (w0 w:Wd) (P o gs room first:Nat) (L:List R) (N p:Nat) (b4:min p N=L.length) (Y:w.cell? ⟨P,o,nn⟩=sQ (sL (be gs) room room)) (Z:w.cell? ⟨P,o+1,nn⟩=sQ (I J (first:Int))) (y2:w.cell? ⟨P,o+2,nn⟩=sQ (I J (N:Int))) (hr:iS f dt q w0 w gs room first L) (ap:first<room) (h1:1<=room/\room<=1000) (hL:L.length<=room) :
  ce O #[pT (sQ ⟨P,o,nn⟩),I J (p:Int)] w fun e w'=>∃(v:Value)(d:List (R × Option Addr × Nat × Nat)),e=rT v/\d.map (·.1)=L/\(∀j(hj:j<d.length),iB w0 d[j].2.1 d[j].2.2.1 d[j].2.2.2 (dt d[j].1))/\w'.ownsRow w.heap.size t q v L.length (d.flatMap (xF f))/\Bl w w':=by
 have b2:max (p:Int) 0=(p:Int):=om;have b3:min (p:Int) (N:Int)=(L.length:Int):=om;obtain⟨d,U,a4⟩:=Gn hr;have D:=hI a4;have HM:Hid (d.map (·.1)=L):=U;have HN:Hid (L.length=d.length):=by show _=_;rw[<- U];simp
 have H:Hid (∀W,Bl w W->W.cell? ⟨P,o,nn⟩=sQ (sL (be gs) room room)/\W.cell? ⟨P,o+1,nn⟩=sQ (I J (first:Int))):=fun W A=>⟨(A.cell (by exact Qn w _ Y)).trans Y,(A.cell (by exact Qn w _ Z)).trans Z⟩
 have am:Hid (L.length<=room/\1<=room/\room<=1000):=⟨hL,h1⟩
 have G:Hid ((∀b h m c,(f b h m c).length=q)/\(∀b h m c,(f b h m c).toArray.all (·.oneCell')=true)/\0<q):=⟨B,a6,by rcases g with⟨_,_,rfl⟩|⟨_,_,rfl⟩<;>decide⟩
 have ac:Hid ((Tp.info? t).map (·.size)=sQ q):=by rcases g with⟨_,rfl,rfl⟩|⟨_,rfl,rfl⟩;exact cE;exact i7
 obtain⟨M,a3⟩:∃M:Wd->Value->Nat->List Value->Prop,∀W v k xs,M W v k xs↔W.ownsRow w.heap.size t q v k xs:=⟨_,fun _ _ _ _=>Iff.rfl⟩
 have E:=hI a3;clear hr U a4 B a6 a3;generalize L.length=n at*;rcases g with⟨rfl,rfl,rfl⟩|⟨rfl,rfl,rfl⟩
 all_goals
  first|go_enter func236,ntmps236|go_enter func237,ntmps237
  go_wp2_with fail;clear Y Z y2;go_loopw [5,14] (fun ak i wr=>∃k:Nat,k<=n/\i=I J (k:Int)/\M wr ak k ((d.take k).flatMap (xF f))/\Bl w wr) (fun _ i _=>n-(intOf i).toNat);case atStart=>exact⟨0,nZ _,rfl,(E.o _ _ _ _).2 (QQ w _ _ _),bW _ _⟩
  case round=>
   obtain⟨k,hk,rfl,hO,hB⟩:=hrel;have HO:=hI ((E.o _ _ _ _).1 hO);have HB:=hI hB;clear hO hB;by_cases b1:k<n
   .have hkl:k<d.length:=by have:=HN.o;omega
    have aw:k<room:=om;have HT:Hid ((d.take (k+1)).flatMap (xF f)=(d.take k).flatMap (xF f)++xF f d[k]):=by show _=_;rw[qe hkl,List.flatMap_append];simp
    have l:=hI (G.o.1 d[k].1 d[k].2.1 d[k].2.2.1 d[k].2.2.2);have a1:=hI (G.o.2.1 d[k].1 d[k].2.1 d[k].2.2.1 d[k].2.2.2);have a2:=hI (fun W(A:Bl w W)=>cY (D.o k hkl).1 A (by have h1:=l.o;have h2:=G.o.2.2;exact Qn w _ ((D.o k hkl).1 0 _ (Q4 (by rw[xF,h1];exact h2)))));change Hid ((xF f d[k]).length=_)at l;change Hid ((xF f d[k]).toArray.all _=_)at a1;generalize xF f d[k]=C at*;obtain⟨Q,x⟩:∃Q,(first+k)%room=Q:=⟨_,rfl⟩
    rw[x]at a2;have b7:IntKind.i64.wrap ((first:Int)+(k:Int))=((first+k:Nat):Int):=by rw[QC];omega
    have b5:¬room=0:=om;have af:((first+k:Nat):Int).tmod (room:Int)=(Q:Int):=by rw[<- x];exact(Int.ofNat_tmod _ _).symm
    have b6:((first:Int)+(k:Int)).tmod (room:Int)=(Q:Int):=af;have ao:Q<room:=by rw[<- x];exact Qc _ om
    clear x;go_wp2_with fail;refine Qu (S:=fun W=>Bl w W) kr ?_;have hS:Bl w wr.drew:=HB.o.drew;have a8:=hI HO.o.drew;change wpAnyH Tp _ _ _ _ _ _ _ wr.drew;generalize wr.drew=w1 at*;refine tk 0 ?_;refine tk 1 ?_;refine tk 2 ?_;refine tk 3 ?_;refine tk 4 ?_ (hy:=fun W s=>by(have hc:=(H.o W s).1;go_simp;try rfl));refine tk 5 ?_;refine tk 6 ?_;refine tk 7 ?_;refine tk 8 ?_ (hy:=fun W s=>by(have hc:=(H.o W s).2;go_simp;try rfl));refine tk 9 ?_;refine tk 10 ?_;refine tk 11 ?_;refine tk 12 ?_;refine tk 13 ?_;refine tk 14 ?_ (hy:=fun W s=>by(have hc:=(H.o W s).1;go_simp;try rfl));refine tk 15 ?_;refine tk 16 ?_;refine tk 17 ?_;refine wU 18 (aG C.toArray) rfl (Qw (by rfl) _ (.tmp 34) rfl gs (Q*_) rfl C _ (fun W ad=>a2.o W ad) (by first|exact underlying53|exact underlying212) rfl (by rw[l.o];exact ac.o)) hS ?_;simp only[aZ];refine al 19 fun K g=>?_;rw[QW (by rfl)];refine DW (by first|exact .inl ⟨rfl,rfl,rfl⟩|exact .inr ⟨rfl,rfl,rfl⟩) (.tmp 35) rfl C l.o rfl ?_;intro w2 hg hA y;have y:=y hS hS.size;have a0:=hI (hA a8.o);clear hA;refine g.out _ w2 y (fun r=>?_);clear hS g K y;have hS:=r;clear r;simp only[aZ];refine al 20 fun K g=>?_;rw[QW (by rfl)];refine Bs (.tmp 17) (.tmp 36) (by first|exact underlying47|exact underlying48) (by first|exact info53|exact info212) (by rfl) (by decide) rfl w.heap.size k u5 _ rfl a0.o w1.heap.size C rfl l.o hg a1.o om hS.size ?_;intro v' w3 X a5;rw[<- HT.o]at X;have a9:=hI ((E.o _ _ _ _).2 X);have T:Bl w w3:=hS.grown a5 hS.size (fun q B=>(Qm a0.o q B).1);have a7:=hI T;refine g.out _ w3 T (fun r=>?_);clear hS g K T a5 X hg;have hS:=r;clear r;simp only[aZ];refine tk 21 ?_;refine Qs kr ?_ _;clear hS;go_wp2_with fail;go_roundw;case rel=>exact⟨k+1,om,by go_num,a9.o,a7.o⟩
    case measure=>simp[intOf];omega
   .have hkn:k=n:=om;subst hkn;have u:=HO.o;rw[QY (by have:=HN.o;omega)]at u;have u:=hI u;go_wp2;go_ret;exact⟨u5,d,rfl,HM.o,fun j hj=>(D.o j hj).2,u.o,HB.o⟩
def Af(w0 w:Wd)(P o gs room first:Nat)(L:List R5)(cnt ask:Nat)(hmn:min ask cnt=L.length)(y0:w.cell? ⟨P,o,nn⟩=sQ (sL (be gs) room room))(y1:w.cell? ⟨P,o+1,nn⟩=sQ (I J (first:Int)))(y2:w.cell? ⟨P,o+2,nn⟩=sQ (I J (cnt:Int)))(hr:dq w0 w gs room first L)(hfi:first<room)(h1:1<=room/\room<=1000)(hL:L.length<=room):ce 236 #[pT (sQ ⟨P,o,nn⟩),I J (ask:Int)] w fun e w'=>∃(v:Value)(bs:List (R5 × Option Addr × Nat × Nat)),e=rT v/\bs.map (·.1)=L/\(∀j(hj:j<bs.length),iB w0 bs[j].2.1 bs[j].2.2.1 bs[j].2.2.2 bs[j].1.l)/\w'.ownsRow w.heap.size 53 5 v L.length (bs.flatMap (xF f5))/\Bl w w':=
 DD f5 R5.l 5 53 236 (.inl ⟨rfl,rfl,rfl⟩) (fun _ _ _ _=>rfl) (fun _ _ _ _=>lN _ _ _ _ _ _ _) w0 w P o gs room first L cnt ask hmn y0 y1 y2 hr hfi h1 hL
end
def Gs(B:Nat)(a:Option Addr)(n:Nat)(W:World):Prop:=(a=nn/\n=0)\/∃b,a=be b/\B<=b/\b<W.heap.size/\ay W b n
def uQ(W:World)(a:Option Addr)(n cap:Nat)(l:List Nat)(h:iB W a n cap l)(A:n<=1048576):ce 131 #[sL a n cap] W fun e w'=>∃f j,e=rT (sL f n j)/\ae w' W.heap.size (sL f n j) l/\Bl W w':=by
 have b:=h.len;cases a with
 |none=>
  have s:l=[]:=Classical.byContradiction fun e=>by obtain⟨g,off,c,_⟩:=h.cells e;cases c
  subst s;have t:n=0:=b;subst t;refine(Tryz.bytes_Clone_nil 0 cap W).mono ?_;rintro e w' ⟨rfl,rfl⟩;exact⟨nn,0,rfl,QQ _ _ 5 1,bW _ _⟩
 |some ad=>
  have d:∀i,i<n->W.cell? (ad.add i)=sQ (I .u8 ((l.map (fun x:Nat=>(x:Int))).getD i 0)):=by
   intro i hi;obtain⟨g,off,c,d⟩:=h.cells (by intro e;subst e;rw[b]at hi;cases hi);cases c;have k:i<l.length:=om;rw[Addr.add_lit];simp[List.getD,d i k,Q4 k]
  refine(Tryz.bytes_Clone_at ad n cap (l.map (fun x:Nat=>(x:Int))) W (by simp[b]) om d).mono ?_;rintro e w' ⟨B,rfl,ho,v,r⟩;have u:=ho.2;rcases u with⟨e,_⟩|⟨y,p,cur,w,_⟩
  .exact Qj e v
  .subst w;refine⟨_,p,rfl,?_,r⟩;unfold ae bv;rw[<- b];simpa[List.map_map,Function.comp_def]using ho
def r9(W:World)(g o:Nat)(a:Option Addr)(n cap:Nat)(l:List Nat)(y:W.cell? ⟨g,o+4,nn⟩=sQ (sL a n cap))(s:W.frozen? ⟨g,o+4,nn⟩=false)(h:iB W a n cap l)(t:n<=1048576):ce 82 #[pT (sQ ⟨g,o,nn⟩)] W fun e w'=>∃b c d,e=rT (.tuple #[])/\w'=d.setCell ⟨g,o+4,nn⟩ (sL b n c)/\ae d W.heap.size (sL b n c) l/\Bl W d:=by
 have k:Hid (ce 131 #[sL a n cap] W fun e w'=>∃b c,e=rT (sL b n c)/\ae w' W.heap.size (sL b n c) l/\Bl W w'):=uQ W a n cap l h t;have i:g<W.heap.size:=Qn W _ y;clear h;go_enter func82,ntmps82;go_wp2_with fail;refine k.o.mono ?_;rintro e d ⟨b,c,rfl,ho,f⟩;have v:=(f.cell (p:=⟨g,o+4,nn⟩) i).trans y;have u:=(f.frozen (p:=⟨g,o+4,nn⟩) i).trans s;have r:=hI ho;have j:=hI f;clear ho f;go_wp2;first|go_ret|go_end0
 exact⟨b,c,d,rfl,rfl,r.o,j.o⟩
def iy(W:World)(g o:Nat)(a:Option Addr)(n cap:Nat)(l:List Nat)(y:W.cell? ⟨g,o+4,nn⟩=sQ (sL a n cap))(A:W.frozen? ⟨g,o+4,nn⟩=false)(h:iB W a n cap l)(D:n<=1048576):ce 82 #[pT (sQ ⟨g,o,nn⟩)] W fun e w'=>∃f i d,e=rT (.tuple #[])/\w'=d.setCell ⟨g,o+4,nn⟩ (sL f n i)/\Gs W.heap.size f n d/\(∀W',(∀b,f=be b->W'.heap[b]?=d.heap[b]?)->iB W' f n i l)/\Bl W d:=by
 refine(r9 W g o a n cap l y A h D).mono ?_;rintro e w' ⟨f,i,d,rfl,rfl,ho,k⟩;have C:=h.len;subst C;rcases cg ho with⟨e,s⟩|⟨b,c,e,h1,t,u,v,w⟩
 .injection e with p q r
  subst p r;exact⟨nn,0,d,rfl,rfl,qp ⟨rfl,s⟩,fun W' _=>⟨rfl,om,h.small,fun hne=>Qj (List.length_pos_iff.2 hne) om⟩,k⟩
 .cases e;refine⟨_,_,d,rfl,rfl,qt ⟨b,rfl,h1,t,by simpa using v⟩,fun W' x=>⟨rfl,u,h.small,fun _=>⟨b,0,rfl,fun j B=>?_⟩⟩,k⟩;have:=w j (I .u8 (l[j]:Int)) (by simp[bv,B]);simp only[World.cell?,x b rfl]at this ⊢;exact this
structure dr3(b0:Wd)(g n:Nat)(fs:List R3)(W:Wd):Prop where
 len:n=fs.length
 row:ay W g (n*3)
 at_:∀j(h:j<fs.length),at3 W g (j*3) fs[j]
 lo:b0.heap.size<=g
 hi:g<W.heap.size
 m:n<=1048576
def dr3.same{b0 W W':Wd}{g n:Nat}{fs:List R3}(h:dr3 b0 g n fs W)(he:W'.heap[g]?=W.heap[g]?)(hz:W.heap.size<=W'.heap.size):dr3 b0 g n fs W':=
 ⟨h.len,h.row.up he,fun j hj=>(h.at_ j hj).up he,h.lo,nL h.hi hz,h.m⟩
def dr3.below{b0 W W':Wd}{g n:Nat}{fs:List R3}(h:dr3 b0 g n fs W)(hb:Bl W W'):dr3 b0 g n fs W':=h.same (hb.block _ h.hi) hb.size
def xT(w:Wd)(b0:Wd)(g n cap:Nat)(b:List R3)(h:bB w (be g) n cap b)(d:n<=1048576)(G:b0.heap.size<=w.heap.size):ce 210 #[sL (be g) n cap] w fun e w'=>∃a c,e=rT (sL (be a) n c)/\w.heap.size<=a/\n<=c/\dr3 b0 a n b w'/\Bl w w':=by
 refine(ou w g n cap b h d).mono ?_;rintro e w' ⟨H,rfl,ho,B,l⟩;rcases cg ho with⟨e,_⟩|⟨a,c,rfl,i,v,r,x,y⟩
 .exact Qj e B
 .refine⟨a,c,rfl,i,r,⟨h.len,x,fun j s=>?_,om,v,d⟩,l⟩;obtain⟨C,D,E⟩:=vW b j s;have q:=fun t u A=>y t u A;simp only[qg]at q;exact⟨q _ _ C,q _ _ D,q _ _ E⟩
section
variable{R:Type}{f:R->Option Addr->Nat->Nat->List Value}{dt:R->List Nat}{q p:Nat}{b0 W:Wd}{U g n k:Nat}{bx:List R}{hs:Nat->Hd}
def Gq{j k q t p:Nat}(e:j≠k)(b:t<q)(a:p<q)(h:j*q+t=k*q+p):False:=by
 rcases Nat.lt_or_gt_of_ne e with h1|h1
 .have:=qx q h1;rw[Nat.succ_mul]at this;omega
 .have:=qx q h1;rw[Nat.succ_mul]at this;omega
def drF.step{c:Wd}(h:drF f dt q b0 U g n bx hs k W)(y:fOk f q p)(hk:k<bx.length)(hU:U<=W.heap.size)(a0:g<U)(d:Option Addr)(w:Nat)(ho:Gs W.heap.size d (hs k).2.1 c)(hi:∀W',(∀b,d=be b->W'.heap[b]?=c.heap[b]?)->iB W' d (hs k).2.1 w (dt bx[k]))(N:Bl W c):∃T,drF f dt q b0 U g n bx T (k+1) (c.setCell ⟨g,k*q+p,nn⟩ (sL d (hs k).2.1 w)):=by
 have h1:=h.below N;have a1:=h.len;have S:p<q:=by have:=(List.getElem?_eq_some_iff.mp (y.last bx[k] nn 0 0)).1;rwa [y.len]at this
 have C:∀x,x≠g->(c.setCell ⟨g,k*q+p,nn⟩ (sL d (hs k).2.1 w)).heap[x]?=c.heap[x]?:=fun x Y=>Ql c ⟨g,k*q+p,nn⟩ x _ Y;have E:(c.setCell ⟨g,k*q+p,nn⟩ (sL d (hs k).2.1 w)).heap.size=c.heap.size:=pQ;have O:Bl b0 (c.setCell ⟨g,k*q+p,nn⟩ (sL d (hs k).2.1 w)):=h1.bel.setCell (by exact h1.lo) _;refine⟨fun j=>if j=k then(d,(hs k).2.1,w)else hs j,h.len,h1.row.setCell _ _,fun j v=>?_,fun j v Q=>?_,fun j v Q=>?_,?_,h.lo,by rw[E];exact h1.hi,O,h.sm⟩
 .intro t u hu;have X:t<q:=by have:=(List.getElem?_eq_some_iff.mp hu).1;rwa [y.len]at this
  by_cases e:j=k
  .subst e;rw[QW rfl]at hu;by_cases G:t=p
   .subst G;rw[y.last]at hu;cases hu;exact QD _ _ _ (h1.rng j v _ _ (y.last _ _ _ _))
   .rw[Qr _ _ _ _ (by intro B;simp at B<;>omega)];exact h1.rng j v t u ((y.rest _ _ _ _ _ _ _ t G).trans hu)
  .rw[QV e]at hu;rw[Qr _ _ _ _ (by intro B;simp at B;exact Gq e X S B.symm)];exact h1.rng j v t u hu
 .rw[QV om];exact h.old j v om
 .by_cases e:j=k
  .subst e;rw[QW rfl];have H:∀b,d=be b->b≠g:=by
    intro b r;rcases ho with⟨e,_⟩|⟨M,e,h2,_⟩
    .rw[r]at e;cases e
    .rw[r]at e;cases e;omega
   refine⟨hi _ (fun b r=>C b (H b r)),?_⟩;rcases ho with⟨a,s⟩|⟨b,a,s,l,D⟩
   .exact qp ⟨a,s⟩
   .exact qt ⟨b,a,om,by rw[E];exact l,D.up (C b (H b a))⟩
  .rw[QV e];have L:j<k:=om;obtain⟨A,Z⟩:=h1.new j v L;rcases Z with⟨a,s⟩|⟨b,a,s,l,D⟩
   .refine⟨⟨A.len,A.cap,A.small,fun hne=>?_⟩,qp ⟨a,s⟩⟩;exact Qj (List.length_pos_iff.2 hne) (by have:=A.len;omega)
   .have hbg:b≠g:=om;rw[a]at A ⊢;exact⟨A.other (C b hbg),qt ⟨b,rfl,s,by rw[E];exact l,D.up (C b hbg)⟩⟩
 .intro i j hij L b r;have P:i<k:=om;simp only[QV (show i≠k by omega)]at r;by_cases e:j=k
  .subst e;simp only[if_true];intro K;rcases ho with⟨a,_⟩|⟨M,a,s,_⟩
   .rw[K]at a;cases a
   .rw[K]at a;cases a;rcases(h.new i om P).2 with⟨l,_⟩|⟨b3,l,_,e5,_⟩
    .rw[r]at l;cases l
    .rw[r]at l;cases l;omega
  .simp only[QV e];exact h.dst i j hij om b r
def drF.sh(h:drF f dt q b0 U g n bx hs n W)(r:fOk f q p)(t:g<U):(∀j,j<n->W.cell? ⟨g,j*q+p,nn⟩=sQ (sL (hs j).1 (hs j).2.1 (hs j).2.2)/\hd W g (hs j))/\(∀j,j<n->∀b,(hs j).1=be b->U<=b/\b<W.heap.size):=by
 have u:=h.len;refine⟨fun j c=>⟨h.rng j om _ _ (r.last _ _ _ _),?_⟩,?_⟩
 .have z:=h.new j om c;have v:=z.1.len;have w:=h.sm j om;refine⟨om,z.1.cap,?_⟩;rcases z.2 with e|⟨b,a,d,i,l⟩
  .exact qp e
  .exact qt ⟨b,a,om,l⟩
 .intro j c b hb;rcases(h.new j om c).2 with⟨e,_⟩|⟨s,a,d,i,l⟩
  .rw[hb]at e;cases e
  .rw[hb]at a;cases a;exact⟨d,i⟩
end
def dr5.at_{b0 W:Wd}{U g n:Nat}{bx:List R5}{hs:Nat->Hd}{k:Nat}(h:dr5 b0 U g n bx hs k W)(j:Nat)(b:j<bx.length):at5 W g (j*5) bx[j] (hs j).1 (hs j).2.1 (hs j).2.2:=by
 have a:=h.rng j b;exact⟨a 0 _ rfl,a 1 _ rfl,a 2 _ rfl,a 3 _ rfl,a 4 _ rfl,h.dat j b⟩
def dr5.is{b0 W:Wd}{U g n:Nat}{bx:List R5}{hs:Nat->Hd}{k cap:Nat}(h:dr5 b0 U g n bx hs k W)(hc:n<=cap):cn W (be g) n cap bx:=
 ⟨h.len,hc,fun _=>⟨g,0,rfl,fun j hj=>⟨_,_,_,by rw[qg];exact h.at_ j hj⟩⟩⟩
end Go.Proofs.YtbbffcolnddcdaaGreatDoor
namespace Go.Proofs.YtbbffcolnddcdaaGreatDoor
open Option renaming none->nn,some->sQ
open Go renaming World->Wd
open Go.Shelf Go.RowKit
set_option linter.all false
open Go.Value renaming int->I,slice->sL,bool->bO,pointer->pT,agg->aG
open Go.IntKind renaming i64->J
open Go.Ending renaming returned->rT
open Go.Proofs.Tryz renaming prog->Tp
section
variable{R:Type}{f:R->Option Addr->Nat->Nat->List Value}{dt:R->List Nat}{q p:Nat}{b0 W W':Wd}{U U' n c k:Nat}{a:Option Addr}{ff:List R}{hs:Nat->Hd}
def dxF{R:Type}(f:R->Option Addr->Nat->Nat->List Value)(dt:R->List Nat)(q:Nat)(b0:Wd)(U:Nat)(a:Option Addr)(n c:Nat)(ff:List R)(hs:Nat->Hd)(k:Nat)(W:Wd):Prop:=(a=nn/\n=0/\c=0/\ff=[])\/∃g,a=be g/\n<=c/\drF f dt q b0 U g n ff hs k W
abbrev dx5(b0:Wd)(U:Nat)(a:Option Addr)(n c:Nat)(ff:List R5)(hs:Nat->Hd)(k:Nat)(W:Wd):Prop:=dxF f5 R5.l 5 b0 U a n c ff hs k W
abbrev dx8(b0:Wd)(U:Nat)(a:Option Addr)(n c:Nat)(ff:List R8)(hs:Nat->Hd)(k:Nat)(W:Wd):Prop:=dxF f8 R8.l 8 b0 U a n c ff hs k W
def dxF.below(h:dxF f dt q b0 U a n c ff hs k W)(d:Bl W W'):dxF f dt q b0 U a n c ff hs k W':=by
 rcases h with h|⟨g,e,h1,b⟩
 .exact qp h
 .exact qt ⟨g,e,h1,b.below d⟩
def dxF.hi(h:dxF f dt q b0 U a n c ff hs k W):∀g,a=be g->g<W.heap.size:=by
 rcases h with h|⟨g,e,h1,b⟩
 .intro g hg;rw[h.1]at hg;cases hg
 .intro g' hg;rw[e]at hg;cases hg;exact b.hi
end
def sq{R:Type}{f:R->Option Addr->Nat->Nat->List Value}{dt:R->List Nat}{q p s:Nat}{d:FuncId}(x:fOk f q p)(D:d=236/\s=53/\q=5\/d=237/\s=212/\q=8)(Q:∀b y m c,(f b y m c).toArray.all (·.oneCell')=true)(b0 w:Wd)(P o gs room first n:Nat)(L:List R)(O:n=L.length)(Z:w.cell? ⟨P,o,nn⟩=sQ (sL (be gs) room room))(y1:w.cell? ⟨P,o+1,nn⟩=sQ (I J (first:Int)))(y2:w.cell? ⟨P,o+2,nn⟩=sQ (I J (n:Int)))(S:iS f dt q b0 w gs room first L)(K:first<room)(h1:1<=room/\room<=1000)(E:n<=room)(i:Bl b0 w)(Y:∀j(a0:j<L.length),(dt L[j]).length<=1048576):ce d #[pT (sQ ⟨P,o,nn⟩),I J (n:Int)] w fun e w'=>∃a c hs,e=rT (sL a n c)/\(∀g,a=be g->w.heap.size<=g)/\dxF f dt q b0 0 a n c L hs 0 w'/\Bl w w':=by
 subst O;refine(DD f dt q s d D x.len Q b0 w P o gs room first L L.length L.length (Nat.min_self _) Z y1 y2 S K h1 E).mono ?_;rintro e w' ⟨v,A,rfl,N,G,ho,l⟩;rcases cg ho with⟨C,h⟩|⟨t,B,rfl,u,M,H,T,X⟩
 .refine⟨nn,0,fun _=>(nn,0,0),by rw[C,h],fun g r=>(by cases r),qp ⟨rfl,h,rfl,List.length_eq_zero_iff.1 h⟩,l⟩
 .exact⟨sQ ⟨t,0,nn⟩,B,_,rfl,fun g r=>by cases r;exact u,qt ⟨t,rfl,H,drF.start x A N G rfl T X (nT i.size u) M (i.trans (l.mono i.size)) Y⟩,l⟩
def Z10:List Value:=[I J 0,I J 0,I J 0,I J 0,sL nn 0 0,sL nn 0 0,sL nn 0 0,sL nn 0 0,I J 0,I J 0]
structure tdE(w:Wd)(n1:Nat)(fs:List R3)(n2:Nat)(bx:List R8)(n3:Nat)(ff:List R5)(n4:Nat)(qu:List R8)(g1 k1 g2 k2:Nat)(h2:Nat->Hd)(a3:Option Addr)(k3:Nat)(h3:Nat->Hd)(a4:Option Addr)(k4:Nat)(h4:Nat->Hd)(PH:Nat)(W:Wd):Prop where
 f1:dr3 w g1 n1 fs W
 c1:n1<=k1
 f2:dr8 w 0 g2 n2 bx h2 0 W
 c2:n2<=k2
 f3:dx5 w 0 a3 n3 k3 ff h3 0 W
 f4:dx8 w 0 a4 n4 k4 qu h4 0 W
 fh:blk W PH Z10 50
 fr:blk W w.heap.size Z10 50
 o1:g1<g2
 o2:∀g,a3=be g->g2<g
 o3:∀g,a4=be g->g2<g/\∀g',a3=be g'->g'<g
 p1:PH≠g1/\PH≠g2/\(∀g,a3=be g->PH≠g)/\(∀g,a4=be g->PH≠g)
 r1:w.heap.size<g1/\w.heap.size<PH
open Go.RowKit
section
variable{R:Type}{f:R->Option Addr->Nat->Nat->List Value}{dt:R->List Nat}{q p:Nat}{b0 W W':Wd}{U U' g n c k:Nat}{a:Option Addr}{bx ff:List R}{hs:Nat->Hd}
def drF.same0(h:drF f dt q b0 U g n bx hs 0 W)(he:W'.heap[g]?=W.heap[g]?)(hz:W.heap.size<=W'.heap.size)(hb:Bl b0 W'):drF f dt q b0 U' g n bx hs 0 W':=
 ⟨h.len,h.row.up he,fun j hj=>rangeAt.up (h.rng j hj) he,h.old,fun j hj hk=>Qj hk (nN _),h.dst,h.lo,nL h.hi hz,hb,h.sm⟩
def dxF.same0(h:dxF f dt q b0 U a n c ff hs 0 W)(i:∀g,a=be g->W'.heap[g]?=W.heap[g]?)(j:W.heap.size<=W'.heap.size)(d:Bl b0 W'):dxF f dt q b0 U' a n c ff hs 0 W':=by
 rcases h with h|⟨g,e,h1,b⟩
 .exact qp h
 .exact qt ⟨g,e,h1,b.same0 (i g e) j d⟩
def dxF.same(h:dxF f dt q b0 U a n c ff hs k W)(j:∀x,a=be x\/U<=x->x<W.heap.size->W'.heap[x]?=W.heap[x]?)(r:W.heap.size<=W'.heap.size)(i:Bl b0 W'):dxF f dt q b0 U a n c ff hs k W':=by
 rcases h with h|⟨g,e,h1,d⟩
 .exact qp h
 .exact qt ⟨g,e,h1,d.same (fun x l=>j x (by rcases l with b|b;(left;rw[b];exact e);(right;exact b))) r i⟩
end
def dx8.sx{b0 W:Wd}{U:Nat}{a:Option Addr}{n c:Nat}{ff:List R8}{hs:Nat->Hd}(h:dx8 b0 U a n c ff hs n W)(v:∀g,a=be g->g<U):sx8 W a n c hs/\aP W a n c ff/\dst hs n/\(∀j,j<n->∀b,(hs j).1=be b->U<=b/\b<W.heap.size):=by
 rcases h with⟨s,t,u,r⟩|⟨g,e,h1,d⟩
 .subst t;exact⟨qp ⟨s,rfl,u⟩,⟨by rw[r];rfl,om,fun hne=>Qj r hne⟩,fun i j _ l=>Qj l (nN _),fun j l=>Qj l (nN _)⟩
 .obtain⟨q1,q2⟩:=d.sh ok8 (v g e);subst e;exact⟨qt ⟨g,rfl,⟨d.row,q1⟩,h1⟩,dr8.is d h1,d.dst,q2⟩
def aP.same{W W':Wd}{a:Option Addr}{n c:Nat}{ff:List R8}(h:aP W a n c ff){hs:Nat->Hd}(G:sx8 W a n c hs)(w:∀x,ft a n hs x->W'.heap[x]?=W.heap[x]?):aP W' a n c ff:=by
 rcases G with⟨u,A,K⟩|⟨g,e,h1,M⟩
 .have:ff=[]:=List.length_eq_zero_iff.1 (by have:=h.len;omega);exact⟨h.len,h.cap,fun hne=>Qj this hne⟩
 .subst e;refine⟨h.len,h.cap,fun hne=>?_⟩;obtain⟨L,off,e,B⟩:=h.cells hne;cases e;refine⟨g,0,rfl,fun j D=>?_⟩;obtain⟨t,m,y,d⟩:=B j D;have r:j<n:=by have:=h.len;omega
  have l:=d.cs;rw[qg,(h1.dat j r).1]at l;have u:(hs j).1=t:=by injection l with q;injection q
  have A:(hs j).2.1=m:=by injection l with q;injection q
  have i:=w g (qp rfl);refine⟨t,m,y,cU d.c0 i,cU d.c1 i,cU d.c2 i,cU d.c3 i,cU d.c4 i,cU d.c5 i,cU d.c6 i,cU d.cs i,?_⟩;have C:=(h1.dat j r).2;rcases C.2.2 with⟨s,H⟩|⟨b,s,H,N⟩
  .refine⟨d.dat.len,d.dat.cap,d.dat.small,fun E=>?_⟩;exact Qj (List.length_pos_iff.2 E) (by have:=d.dat.len;omega)
  .have hb:=w b (qt ⟨j,r,s⟩);have v:=d.dat;rw[<- u,s]at v ⊢;exact v.other hb
def dx5.sx{b0 W:Wd}{U:Nat}{a:Option Addr}{n c:Nat}{ff:List R5}{hs:Nat->Hd}(h:dx5 b0 U a n c ff hs n W)(v:∀g,a=be g->g<U):sx5 W a n c hs/\cn W a n c ff/\dst hs n/\(∀j,j<n->∀b,(hs j).1=be b->U<=b/\b<W.heap.size):=by
 rcases h with⟨s,t,u,r⟩|⟨g,e,h1,d⟩
 .subst t;exact⟨qp ⟨s,rfl,u⟩,⟨by rw[r];rfl,om,fun hne=>Qj r hne⟩,fun i j _ l=>Qj l (nN _),fun j l=>Qj l (nN _)⟩
 .obtain⟨q1,q2⟩:=d.sh ok5 (v g e);subst e;exact⟨qt ⟨g,rfl,⟨d.row,q1⟩,h1⟩,dr5.is d h1,d.dst,q2⟩
def cn.same{W W':Wd}{a:Option Addr}{n c:Nat}{ff:List R5}(h:cn W a n c ff){hs:Nat->Hd}(G:sx5 W a n c hs)(w:∀x,ft a n hs x->W'.heap[x]?=W.heap[x]?):cn W' a n c ff:=by
 rcases G with⟨u,A,K⟩|⟨g,e,h1,M⟩
 .have:ff=[]:=List.length_eq_zero_iff.1 (by have:=h.len;omega);exact⟨h.len,h.cap,fun hne=>Qj this hne⟩
 .subst e;refine⟨h.len,h.cap,fun hne=>?_⟩;obtain⟨L,off,e,B⟩:=h.cells hne;cases e;refine⟨g,0,rfl,fun j D=>?_⟩;obtain⟨t,m,y,d⟩:=B j D;have r:j<n:=by have:=h.len;omega
  have l:=d.cs;rw[qg,(h1.dat j r).1]at l;have u:(hs j).1=t:=by injection l with q;injection q
  have A:(hs j).2.1=m:=by injection l with q;injection q
  have i:=w g (qp rfl);refine⟨t,m,y,cU d.c0 i,cU d.c1 i,cU d.c2 i,cU d.c3 i,cU d.cs i,?_⟩;have C:=(h1.dat j r).2;rcases C.2.2 with⟨s,H⟩|⟨b,s,H,N⟩
  .refine⟨d.dat.len,d.dat.cap,d.dat.small,fun E=>?_⟩;exact Qj (List.length_pos_iff.2 E) (by have:=d.dat.len;omega)
  .have hb:=w b (qt ⟨j,r,s⟩);have v:=d.dat;rw[<- u,s]at v ⊢;exact v.other hb
def bB.same{W W':Wd}{g n c:Nat}{ff:List R3}(h:bB W (be g) n c ff)(d:W'.heap[g]?=W.heap[g]?):bB W' (be g) n c ff:=by
 refine⟨h.len,h.cap,fun hne=>?_⟩;obtain⟨l,off,e,b⟩:=h.cells hne;cases e;exact⟨g,0,rfl,fun j i=>(b j i).up d⟩
structure tdF(w:Wd)(n1:Nat)(fs:List R3)(n2:Nat)(bx:List R8)(n3:Nat)(ff:List R5)(n4:Nat)(qu:List R8)(g1 g2:Nat)(h2:Nat->Hd)(a3:Option Addr)(k3:Nat)(h3:Nat->Hd)(a4:Option Addr)(k4:Nat)(h4:Nat->Hd)(PH:Nat)(HL:List Value)(U2 i2 U3 i3 U4 i4:Nat)(W:Wd):Prop where
 f1:dr3 w g1 n1 fs W
 f2:dr8 w U2 g2 n2 bx h2 i2 W
 f3:dx5 w U3 a3 n3 k3 ff h3 i3 W
 f4:dx8 w U4 a4 n4 k4 qu h4 i4 W
 fh:blk W PH HL 50
 fr:blk W w.heap.size Z10 50
 b:Bl w W
structure tdO(w:Wd)(n1 k1 n2 k2 g1 g2:Nat)(a3 a4:Option Addr)(PH:Nat):Prop where
 c1:n1<=k1
 c2:n2<=k2
 o1:g1<g2
 o2:∀g,a3=be g->g2<g
 o3:∀g,a4=be g->g2<g/\∀g',a3=be g'->g'<g
 p1:PH≠g1/\PH≠g2/\(∀g,a3=be g->PH≠g)/\(∀g,a4=be g->PH≠g)
 r1:w.heap.size<g1/\w.heap.size<PH
def tdE.put{w:Wd}{n1:Nat}{u:List R3}{n2:Nat}{bx:List R8}{n3:Nat}{ff:List R5}{n4:Nat}{qu:List R8}{r k1 s k2:Nat}{v:Nat->Hd}{a3:Option Addr}{k3:Nat}{y:Nat->Hd}{a4:Option Addr}{k4:Nat}{A:Nat->Hd}{d:Nat}{W:Wd}(E:tdE w n1 u n2 bx n3 ff n4 qu r k1 s k2 v a3 k3 y a4 k4 A d W)(G:Bl w W)(h:List Value)(H:h.length=10)(B C D:Nat):tdF w n1 u n2 bx n3 ff n4 qu r s v a3 k3 y a4 k4 A d h B 0 C 0 D 0 (World.setCells W d 0 h)/\tdO w n1 k1 n2 k2 r s a3 a4 d:=by
 have i:∀x,x≠d->(World.setCells W d 0 h).heap[x]?=W.heap[x]?:=fun x K=>sO d x K h W 0;have l:W.heap.size<=(World.setCells W d 0 h).heap.size:=by rw[sZ];exact nR _
 have j:Bl w (World.setCells W d 0 h):=sW (by have:=E.r1.2;omega) 0 h G;refine⟨⟨E.f1.same (i _ (fun e=>E.p1.1 e.symm)) l,E.f2.same0 (i _ (fun e=>E.p1.2.1 e.symm)) l j,E.f3.same0 (fun g t=>i _ (fun e=>E.p1.2.2.1 g t e.symm)) l j,E.f4.same0 (fun g t=>i _ (fun e=>E.p1.2.2.2 g t e.symm)) l j,?_,E.fr.kept (i _ (by have:=E.r1.2;omega)),j⟩,⟨E.c1,E.c2,E.o1,E.o2,E.o3,E.p1,E.r1⟩⟩;have:=blk.put [] Z10 [] h (w:=W) (b:=d) (T:=50) (by simpa using E.fh) (by rw[H];rfl);simpa using this
section
variable{w W:World}{n1 n2 n3 n4 g1 g2 k3 k4 PH k1 k2 U U3 k U2 i2 U4:Nat}{fs:List R3}{bx qu:List R8}{ff:List R5}{h2 h3 h4:Nat->Hd}{a3 a4:Option Addr}{HL:List Value}
def tdF.own2(h:tdF w n1 fs n2 bx n3 ff n4 qu g1 g2 h2 a3 k3 h3 a4 k4 h4 PH HL U k 0 0 0 0 W)(O:tdO w n1 k1 n2 k2 g1 g2 a3 a4 PH)(s:g2<U)(t:U<=W.heap.size)(C:k<n2):ce 82 #[pT (sQ ⟨g2,k*8+3,nn⟩)] W fun e w'=>∃r,e=rT (.tuple #[])/\tdF w n1 fs n2 bx n3 ff n4 qu g1 g2 r a3 k3 h3 a4 k4 h4 PH HL U (k+1) 0 0 0 0 w'/\U<=w'.heap.size:=by
 have b:k<bx.length:=by have:=h.f2.len;omega
 refine(iy W g2 (k*8+3) _ _ _ bx[k].l (h.f2.at_ k b).cs (h.f2.row (k*8+7) om).2 (h.f2.at_ k b).dat (by have:=(h.f2.at_ k b).dat.len;have:=h.f2.sm k b;omega)).mono ?_;rintro e w' ⟨f,i,p,rfl,rfl,A,B,n⟩;obtain⟨v,d⟩:=h.f2.step ok8 b t s f i A B n;have c:∀x,x≠g2->x<W.heap.size->(p.setCell ⟨g2,k*8+3+4,nn⟩ (sL f (h2 k).2.1 i)).heap[x]?=W.heap[x]?:=fun x y u=>(Ql p ⟨g2,k*8+3+4,nn⟩ x _ y).trans (n.block x u);have j:W.heap.size<=(p.setCell ⟨g2,k*8+3+4,nn⟩ (sL f (h2 k).2.1 i)).heap.size:=by have:=n.size;simpa using this
 refine⟨v,rfl,⟨h.f1.same (c _ (by have:=O.o1;omega) h.f1.hi) j,d,h.f3.same0 (fun g a=>c _ (by have:=O.o2 g a;omega) (h.f3.hi g a)) j d.bel,h.f4.same0 (fun g a=>c _ (by have:=(O.o3 g a).1;omega) (h.f4.hi g a)) j d.bel,h.fh.kept (c _ O.p1.2.1 h.fh.lt),h.fr.kept (c _ (by have:=O.o1;have:=O.r1.1;omega) h.fr.lt),d.bel⟩,om⟩
def tdF.u3{U3':Nat}(h:tdF w n1 fs n2 bx n3 ff n4 qu g1 g2 h2 a3 k3 h3 a4 k4 h4 PH HL U2 i2 0 0 0 0 W):tdF w n1 fs n2 bx n3 ff n4 qu g1 g2 h2 a3 k3 h3 a4 k4 h4 PH HL U2 i2 U3' 0 0 0 W:=⟨h.f1,h.f2,h.f3.same0 (fun _ _=>rfl) (nR _) h.b,h.f4,h.fh,h.fr,h.b⟩
def tdF.u4{i3 U4':Nat}(h:tdF w n1 fs n2 bx n3 ff n4 qu g1 g2 h2 a3 k3 h3 a4 k4 h4 PH HL U2 i2 U3 i3 0 0 W):tdF w n1 fs n2 bx n3 ff n4 qu g1 g2 h2 a3 k3 h3 a4 k4 h4 PH HL U2 i2 U3 i3 U4' 0 W:=⟨h.f1,h.f2,h.f3,h.f4.same0 (fun _ _=>rfl) (nR _) h.b,h.fh,h.fr,h.b⟩
def tdF.own3{a:Nat}(h:tdF w n1 fs n2 bx n3 ff n4 qu g1 g2 h2 a3 k3 h3 a4 k4 h4 PH HL U n2 U3 k 0 0 W)(O:tdO w n1 k1 n2 k2 g1 g2 a3 a4 PH)(c:a3=be a)(L:a<U)(M:U<=U3)(C:U3<=W.heap.size)(P:k<n3):ce 82 #[pT (sQ ⟨a,k*5,nn⟩)] W fun e w'=>∃B,e=rT (.tuple #[])/\tdF w n1 fs n2 bx n3 ff n4 qu g1 g2 h2 a3 k3 B a4 k4 h4 PH HL U n2 U3 (k+1) 0 0 w'/\U3<=w'.heap.size:=by
 have E:dr5 w U3 a n3 ff h3 k W/\n3<=k3:=by
  rcases h.f3 with⟨e,_⟩|⟨g,e,y,A⟩
  .rw[c]at e;cases e
  .rw[c]at e;cases e;exact⟨A,y⟩
 obtain⟨b,D⟩:=E;have d:k<ff.length:=by have:=b.len;omega
 have N:=O.o2 a c;refine(iy W a (k*5) _ _ _ ff[k].l (b.at_ k d).cs (b.row (k*5+4) om).2 (b.at_ k d).dat (by have:=(b.at_ k d).dat.len;have:=b.sm k d;omega)).mono ?_;rintro e w' ⟨j,n,u,rfl,rfl,H,K,t⟩;obtain⟨G,i⟩:=b.step ok5 d C om j n H K t;have f:∀x,x≠a->x<W.heap.size->(u.setCell ⟨a,k*5+4,nn⟩ (sL j (h3 k).2.1 n)).heap[x]?=W.heap[x]?:=fun x r p=>(Ql u ⟨a,k*5+4,nn⟩ x _ r).trans (t.block x p);have s:W.heap.size<=(u.setCell ⟨a,k*5+4,nn⟩ (sL j (h3 k).2.1 n)).heap.size:=by have:=t.size;simpa using this
 refine⟨G,rfl,⟨h.f1.same (f _ (by have:=O.o1;omega) h.f1.hi) s,h.f2.same (fun x r p=>f x (by rcases r with e|e<;>omega) p) s i.bel,qt ⟨a,c,D,i⟩,h.f4.same0 (fun g v=>f _ (by have:=(O.o3 g v).2 a c;omega) (h.f4.hi g v)) s i.bel,h.fh.kept (f _ (O.p1.2.2.1 a c) h.fh.lt),h.fr.kept (f _ (by have:=O.o1;have:=O.r1.1;omega) h.fr.lt),i.bel⟩,om⟩
def tdF.own4{a:Nat}(h:tdF w n1 fs n2 bx n3 ff n4 qu g1 g2 h2 a3 k3 h3 a4 k4 h4 PH HL U n2 U3 n3 U4 k W)(O:tdO w n1 k1 n2 k2 g1 g2 a3 a4 PH)(c:a4=be a)(L:a<U)(M:U<=U3/\U3<=U4)(B:U4<=W.heap.size)(N:k<n4):ce 82 #[pT (sQ ⟨a,k*8+3,nn⟩)] W fun e w'=>∃A,e=rT (.tuple #[])/\tdF w n1 fs n2 bx n3 ff n4 qu g1 g2 h2 a3 k3 h3 a4 k4 A PH HL U n2 U3 n3 U4 (k+1) w'/\U4<=w'.heap.size:=by
 have D:dr8 w U4 a n4 qu h4 k W/\n4<=k4:=by
  rcases h.f4 with⟨e,_⟩|⟨g,e,v,y⟩
  .rw[c]at e;cases e
  .rw[c]at e;cases e;exact⟨y,v⟩
 obtain⟨b,C⟩:=D;have d:k<qu.length:=by have:=b.len;omega
 have E:=O.o3 a c;refine(iy W a (k*8+3) _ _ _ qu[k].l (b.at_ k d).cs (b.row (k*8+7) om).2 (b.at_ k d).dat (by have:=(b.at_ k d).dat.len;have:=b.sm k d;omega)).mono ?_;rintro e w' ⟨p,r,u,rfl,rfl,H,K,t⟩;obtain⟨G,n⟩:=b.step ok8 d B om p r H K t;have j:∀x,x≠a->x<W.heap.size->(u.setCell ⟨a,k*8+3+4,nn⟩ (sL p (h4 k).2.1 r)).heap[x]?=W.heap[x]?:=fun x i f=>(Ql u ⟨a,k*8+3+4,nn⟩ x _ i).trans (t.block x f);have s:W.heap.size<=(u.setCell ⟨a,k*8+3+4,nn⟩ (sL p (h4 k).2.1 r)).heap.size:=by have:=t.size;simpa using this
 refine⟨G,rfl,⟨h.f1.same (j _ (by have:=O.o1;omega) h.f1.hi) s,h.f2.same (fun x i f=>j x (by rcases i with e|e<;>omega) f) s n.bel,h.f3.same (fun x i f=>j x (by rcases i with e|e;(have:=E.2 x e;omega);omega) f) s n.bel,qt ⟨a,c,C,n⟩,h.fh.kept (j _ (O.p1.2.2.2 a c) h.fh.lt),h.fr.kept (j _ (by have:=O.o1;have:=O.r1.1;omega) h.fr.lt),n.bel⟩,om⟩
def tdF.fin{W':World}(R c1 c2 c3 lo st:Int)(h:tdF w n1 fs n2 bx n3 ff n4 qu g1 g2 h2 a3 k3 h3 a4 k4 h4 PH HL U n2 U3 n3 U4 n4 W)(O:tdO w n1 k1 n2 k2 g1 g2 a3 a4 PH)(f:g1<U/\g2<U/\(∀g,a3=be g->g<U)/\(∀g,a4=be g->g<U)/\w.heap.size<U)(a0:U<=U3/\U3<=U4)(H:∀j,j<n2->∀b,(h2 j).1=be b->b<U3)(N:∀j,j<n3->∀b,(h3 j).1=be b->b<U4)(m:n2<=1000/\n3<=1000/\n4<=1000)(v:∀x,x≠w.heap.size->x<W.heap.size->W'.heap[x]?=W.heap[x]?)(M:W'.heap.size=W.heap.size):∃s:Wh,s.sl=⟨sQ ⟨g1,0,nn⟩,n1,k1,be g2,n2,k2,a3,n3,k3,a4,n4,k4⟩/\St w.heap.size W' (fun W=>bj W ⟨R,c1,c2,c3,fs,bx,ff,qu,lo,st⟩ s.sl)/\whS w.heap.size W'.heap.size W' s/\whD s/\whE s:=by
 obtain⟨q1,t⟩:=h.f2.sh ok8 f.2.1;obtain⟨E,r2,r3,l⟩:=h.f3.sx (fun g C=>by have:=f.2.2.1 g C;omega);obtain⟨D,Y,Z,i⟩:=h.f4.sx (fun g C=>by have:=f.2.2.2.1 g C;omega);have G:sx8 W (be g2) n2 k2 h2:=qt ⟨g2,rfl,⟨h.f2.row,q1⟩,O.c2⟩;have a2:=O.r1.1;have a1:=O.o1
 have n:inn w.heap.size W.heap.size (be g2) n2 h2:=fun x a=>by
  rcases a with e|⟨j,c,e⟩
  .cases e;exact⟨om,h.f2.hi⟩
  .have:=t j c x e;omega
 have p:inn w.heap.size W.heap.size a3 n3 h3:=fun x a=>by
  rcases a with e|⟨j,c,e⟩
  .have:=O.o2 x e;exact⟨om,h.f3.hi x e⟩
  .have:=l j c x e;omega
 have r:inn w.heap.size W.heap.size a4 n4 h4:=fun x a=>by
  rcases a with e|⟨j,c,e⟩
  .have:=(O.o3 x e).1;exact⟨om,h.f4.hi x e⟩
  .have:=i j c x e;omega
 have S:∀x,ft (be g2) n2 h2 x->x≠w.heap.size:=fun x a e=>by
  rcases a with d|⟨j,c,d⟩
  .cases d;omega
  .have:=t j c x d;omega
 have T:∀x,ft a3 n3 h3 x->x≠w.heap.size:=fun x a e=>by
  rcases a with d|⟨j,c,d⟩
  .have:=O.o2 x d;omega
  .have:=l j c x d;omega
 have X:∀x,ft a4 n4 h4 x->x≠w.heap.size:=fun x a e=>by
  rcases a with d|⟨j,c,d⟩
  .have:=(O.o3 x d).1;omega
  .have:=i j c x d;omega
 have y:∀x,ft (be g2) n2 h2 x->W'.heap[x]?=W.heap[x]?:=fun x a=>v x (S x a) (n x a).2;have A:∀x,ft a3 n3 h3 x->W'.heap[x]?=W.heap[x]?:=fun x a=>v x (T x a) (p x a).2;have B:∀x,ft a4 n4 h4 x->W'.heap[x]?=W.heap[x]?:=fun x a=>v x (X x a) (r x a).2;have K:W'.heap[g1]?=W.heap[g1]?:=v g1 om h.f1.hi;have Q:aP W (be g2) n2 k2 bx:=h.f2.is O.c2;have P:bB W (be g1) n1 k1 fs:=⟨h.f1.len,O.c1,fun _=>⟨g1,0,rfl,fun j c=>by rw[qg];exact h.f1.at_ j c⟩⟩
 rw[<- M]at n p r;have L:g1<W'.heap.size:=by rw[M];exact h.f1.hi
 refine⟨(⟨g1,n1,k1,be g2,n2,k2,h2,a3,n3,k3,h3,a4,n4,k4,h4⟩:Wh),rfl,fun V u=>⟨?_,?_,?_,?_⟩,⟨h.f1.row.up K,O.c1,⟨by simp only;omega,L⟩,G.same y,n,E.same A,p,D.same B,r,h.f1.m,by simp only;omega,by simp only;omega,by simp only;omega⟩,⟨?_,?_,?_,?_,?_,?_⟩,⟨h.f2.dst,r3,Z⟩⟩
 .exact (P.same K).same (u g1 om L)
 .exact (Q.same G y).same (G.same y) (fun x a=>u x (n x a).1 (n x a).2)
 .exact (r2.same E A).same (E.same A) (fun x a=>u x (p x a).1 (p x a).2)
 .exact (Y.same D B).same (D.same B) (fun x a=>u x (r x a).1 (r x a).2)
 .rintro (e|⟨j,c,e⟩)
  .have d:(sQ (⟨g2,0,nn⟩:Addr))=be g1:=e;injection d with d
   injection d with d
   omega
  .have:=t j c g1 e;omega
 .rintro (e|⟨j,c,e⟩)
  .have:=O.o2 g1 e;omega
  .have:=l j c g1 e;omega
 .rintro (e|⟨j,c,e⟩)
  .have:=(O.o3 g1 e).1;omega
  .have:=i j c g1 e;omega
 .rintro x (e|⟨j,c,e⟩) (e'|⟨j',hj',e'⟩)
  .cases e;have:=O.o2 g2 e';omega
  .cases e;have:=l j' hj' g2 e';omega
  .have:=t j c x e;have:=f.2.2.1 x e';omega
  .have:=H j c x e;have:=l j' hj' x e';omega
 .rintro x (e|⟨j,c,e⟩) (e'|⟨j',hj',e'⟩)
  .cases e;have:=(O.o3 g2 e').1;omega
  .cases e;have:=i j' hj' g2 e';omega
  .have:=t j c x e;have:=f.2.2.2.1 x e';omega
  .have:=H j c x e;have:=i j' hj' x e';omega
 .rintro x (e|⟨j,c,e⟩) (e'|⟨j',hj',e'⟩)
  .have:=(O.o3 x e').2 x e;omega
  .have:=f.2.2.1 x e;have:=i j' hj' x e';omega
  .have:=l j c x e;have:=f.2.2.2.1 x e';omega
  .have:=N j c x e;have:=i j' hj' x e';omega
end
open Go.Proofs.Tryz
set_option maxRecDepth 20000
set_option maxHeartbeats 16000000
def onW(b:R8):Prop:=b.x=2\/b.x=3
def bsy(bx:List R8)(r:Int):Prop:=(∃(k:Nat)(h:k<bx.length),onW bx[k]/\(∀j(hj:j<bx.length),j<k->¬onW bx[j])/\r=(k:Int))\/((∀k(h:k<bx.length),¬onW bx[k])/\r= -1)
def rk{bx:List R8}{r:Int}(h:bsy bx r):r<0↔∀k(h:k<bx.length),¬onW bx[k]:=by
 rcases h with⟨k,a,h1,_,rfl⟩|⟨h1,rfl⟩
 .exact⟨fun e=>by omega,fun e=>Qj h1 (e k a)⟩
 .exact⟨fun _=>h1,fun _=>by omega⟩
def gW(w:World)(H:Ho)(s:Sl)(h:aP w s.a2 s.n2 s.k2 H.bx)(N:s.n2<=1000):ce 70 #[aG (hoL H s).toArray] w fun o w'=>∃r:Int,o=rT (I J r)/\bsy H.bx r/\Bl w w':=by
 have B:Hid (obS w H s (w.alloc (.cells (hoL H s).toArray 50))):=⟨blk.new w _ 50,Zw⟩
 have M:=h.cap;obtain⟨t,c1,c2,c3,u,bx,ff,qu,lo,st⟩:=H;obtain⟨a1,n1,k1,a2,n2,k2,a3,n3,k3,a4,n4,k4⟩:=s;simp only[]at h M N ⊢;have l:Hid (n2=bx.length):=h.len;by_cases A:bx=[]
 .subst A;have O:n2=0:=l.o;subst O;clear h;go_enter func70,ntmps70;go_wp2_with fail;go_loopw [3] (fun i wr=>i=I J 0/\obS w ⟨t,c1,c2,c3,u,[],ff,qu,lo,st⟩ ⟨a1,n1,k1,a2,0,k2,a3,n3,k3,a4,n4,k4⟩ wr) (fun _ _=>0);case atStart=>exact⟨rfl,B.o⟩
  case round=>
   obtain⟨rfl,hS⟩:=hrel;have S:=hS.p.cell 5 _ rfl;have a:=hS.b;go_wp2;go_ret;exact⟨-1,rfl,qt ⟨fun k E=>(by cases E),rfl⟩,a⟩
 obtain⟨g,off,rfl,D⟩:=h.cells A;have K:Hid (∀j(h:j<bx.length),∃C m c,at8 w g (off+j*8) bx[j] C m c):=D;clear D h A;go_enter func70,ntmps70;go_wp2_with fail;go_loopw [3] (fun i wr=>∃k:Nat,k<=n2/\i=I J (k:Int)/\(∀j(d:j<bx.length),j<k->¬onW bx[j])/\obS w ⟨t,c1,c2,c3,u,bx,ff,qu,lo,st⟩ ⟨a1,n1,k1,some ⟨g,off,none⟩,n2,k2,a3,n3,k3,a4,n4,k4⟩ wr) (fun i _=>n2-(intOf i).toNat);case atStart=>exact⟨0,nZ _,rfl,fun j _ h=>Qj h (nN _),B.o⟩
 case round=>
  obtain⟨k,E,rfl,hA,hS⟩:=hrel;have f:Hid (∀j(d:j<bx.length),j<k->¬onW bx[j]):=hA;have a:Hid (obS w ⟨t,c1,c2,c3,u,bx,ff,qu,lo,st⟩ ⟨a1,n1,k1,some ⟨g,off,none⟩,n2,k2,a3,n3,k3,a4,n4,k4⟩ wr):=hS;have x5:=hS.p.cell 5 _ rfl;clear hA hS;by_cases R:k<n2
  .have hkl:k<bx.length:=by have:=l.o;omega
   obtain⟨C,m,c,G⟩:=K.o k hkl;have u0:=(G.below a.o.b).c0;clear G;have P:Hid (bx[k].x=bx[k].x):=rfl;have n:Hid (onW bx[k]↔(bx[k].x=2\/bx[k].x=3)):=Iff.rfl;generalize bx[k].x=x at*;by_cases v:x=2
   .subst v;go_wp2_with fail;go_ret;exact⟨k,rfl,qp ⟨k,hkl,n.o.2 pQ,f.o,rfl⟩,a.o.b⟩
   .have h2':(x==2)=false:=by simpa using v
    by_cases y:x=3
    .subst y;go_wp2_with fail;go_ret;exact⟨k,rfl,qp ⟨k,hkl,n.o.2 pQ,f.o,rfl⟩,a.o.b⟩
    .have h3':(x==3)=false:=by simpa using y
     have L:Hid (¬onW bx[k]):=fun e=>by rcases n.o.1 e with e|e<;>contradiction
     clear v y;go_wp2_with fail;go_roundw;case rel=>
      refine⟨k+1,om,by go_num,fun j d Q=>?_,a.o⟩;by_cases e:j=k
      .subst e;exact L.o
      .exact f.o j d om
     case measure=>simp[intOf];omega
  .have hkn:n2=k:=om;subst hkn;go_wp2_with fail;go_ret;exact⟨-1,rfl,qt ⟨fun j d=>f.o j d (by have:=l.o;omega),rfl⟩,a.o.b⟩
section
variable{bx:List R8}{i:Int}{k:Nat}
def cF(bx:List R8)(i:Int):List R8:=if h:0<=i/\i<(bx.length:Int)then(if(bx[i.toNat]'om).x=1/\(∀b∈bx,¬(b.x=2\/b.x=3))then bx.set i.toNat {(bx[i.toNat]'om)with x:=2}else bx)else bx
def cv(H:Ho)(i:Int):Ho:={H with bx:=cF H.bx i}
def jT(h:i<0\/(bx.length:Int)<=i):cF bx i=bx:=by unfold cF;rw[dif_neg om]
def rH(a:k<bx.length)(h:bx[k].x≠1):cF bx (k:Int)=bx:=by
 unfold cF;rw[dif_pos om,QV];rintro⟨h1,_⟩;simp only[Int.toNat_natCast]at h1;exact h h1
def lB{r:Int}(h:bsy bx r)(c:0<=r):cF bx i=bx:=by
 unfold cF;by_cases hi:0<=i/\i<(bx.length:Int)
 .rw[dif_pos hi,QV];rintro⟨_,a⟩;have:=(rk h).2 (fun k b=>a _ (ql b));omega
 .rw[dif_neg hi]
def jS(f:k<bx.length)(h:bx[k].x=1){r:Int}(a:bsy bx r)(e:r<0):cF bx (k:Int)=bx.set k {bx[k]with x:=2}:=by
 unfold cF;rw[dif_pos om,QW]
 .simp
 .refine⟨by simpa using h,fun b c=>?_⟩;obtain⟨j,d,rfl⟩:=List.getElem_of_mem c;exact(rk a).1 e j d
def jU(bx:List R8)(i:Int):(cF bx i).length=bx.length:=by
 unfold cF;split
 .split
  .simp
  .rfl
 .rfl
def BD(bx:List R8)(i:Int)(j:Nat)(h:j<(cF bx i).length)(a:j<bx.length):(cF bx i)[j].l=bx[j].l:=by
 unfold cF;split
 .split
  .simp only[List.getElem_set];split
   .rename_i e;subst e;rfl
   .rfl
  .rfl
 .rfl
end
def pM(w:World)(a:Option Addr)(n cap:Nat)(b:List R8)(h:aP w a n cap b)(hn:n<=1048576):ce 227 #[sL a n cap,.func (.func 176) #[] #[]] w fun o w'=>∃z:Int,o=rT (I J z)/\bsy b z/\Bl w w':=by
 have u:=h.len;have X:=h.cap;by_cases G:b=[]
 .subst G;have P:n=0:=u;subst P;clear u h;go_enter func227,ntmps227;go_wp2;go_loopw [8] (fun i wr=>i=I J 0/\wr=w) (fun _ _=>0);case atStart=>exact⟨rfl,rfl⟩
  case round=>
   obtain⟨rfl,rfl⟩:=hrel;go_wp2;go_ret;exact⟨-1,rfl,qt ⟨fun k E=>(by cases E),rfl⟩,bW _ _⟩
 .obtain⟨g,off,rfl,hc⟩:=h.cells G;have C:=hI u;have L:=hI hc;clear h u hc;go_enter func227,ntmps227;go_wp2;go_loopw [8] (fun i wr=>∃k:Nat,k<=n/\i=I J (k:Int)/\(∀j(f:j<b.length),j<k->¬onW b[j])/\Bl w wr) (fun i _=>n-(intOf i).toNat);case atStart=>exact⟨0,nZ _,rfl,fun j f h=>Qj h (nN _),bW _ _⟩
  case round=>
   obtain⟨k,E,rfl,A,t⟩:=hrel;by_cases Z:k<n
   .have hkl:k<b.length:=by have:=C.o;omega
    obtain⟨M,m,c,H⟩:=L.o k hkl;have K:=H.below t;have s:=K.range;have D:=hI (gX wr b[k] M m c);have l:=hI t;have B:=hI A;clear H K t A;have p:Hid ((b[k].x==2||b[k].x==3)=true↔onW b[k]):=by show _↔_;unfold onW;simp
    generalize (b[k].x==2||b[k].x==3)=q at*;have s:=hI s;cases q
    .have HN:Hid (∀j(f:j<b.length),j<k+1->¬onW b[j]):=fun j f Y=>by
      by_cases e:j=k
      .subst e;exact fun h=>Qj (p.o.2 h) pQ
      .exact B.o j f om
     clear p;generalize b[k].x=T at*;generalize b[k].y=U at*;generalize b[k].z=W at*;generalize b[k].e=O at*;generalize b[k].i=Q at*;generalize b[k].r=R at*;generalize b[k].d=N at*;go_wp2_with(first|(refine ZG 114 s.o underlying114 cK ?_)|(go_at_call 176;refine D.o.mono ?_;rintro o S ⟨rfl,v⟩))
     go_roundw;case rel=>exact⟨k+1,om,by go_num,HN.o,l.o.trans (v.mono l.o.size)⟩
     case measure=>simp[intOf];omega
    .have HN:Hid (bsy b (k:Int)):=qp ⟨k,hkl,p.o.1 rfl,B.o,rfl⟩
     clear p;generalize b[k].x=T at*;generalize b[k].y=U at*;generalize b[k].z=W at*;generalize b[k].e=O at*;generalize b[k].i=Q at*;generalize b[k].r=R at*;generalize b[k].d=N at*;go_wp2_with(first|(refine ZG 114 s.o underlying114 cK ?_)|(go_at_call 176;refine D.o.mono ?_;rintro o S ⟨rfl,v⟩))
     go_ret;exact⟨k,rfl,HN.o,l.o.trans (v.mono l.o.size)⟩
   .have hkn:n=k:=om;subst hkn;go_wp2;go_ret;exact⟨-1,rfl,qt ⟨fun j f=>A j f (by have:=C.o;omega),rfl⟩,t⟩
def jg(w:World)(P:Nat)(a:Option Addr)(n cap:Nat)(bx:List R8)(i:w.cell? ⟨P,5,nn⟩=sQ (sL a n cap))(h:aP w a n cap bx)(f:n<=1048576):ce 188 #[ap P] w fun o w'=>∃z:Int,o=rT (I J z)/\bsy bx z/\Bl w w':=by
 have e:=hI (pM w a n cap bx h f);clear h;go_enter func188,ntmps188;go_wp2_with(go_at_call 227;refine e.o.mono ?_;rintro o g ⟨z,rfl,d,c⟩;have b:Hid (bsy bx z/\Bl w g):=⟨d,c⟩;clear d c);go_ret;exact⟨z,rfl,b.o.1,b.o.2⟩
def Gm(W:World)(gb:Nat)(bx:List R8)(i:Int)(w':World):Prop:=∃W1,Bl W W1/\((w'=W1/\cF bx i=bx)\/∃(k:Nat)(hk:k<bx.length),w'=W1.setCell ⟨gb,k*8,nn⟩ (I J 2)/\cF bx i=bx.set k {bx[k]with x:=2}/\bx[k].x=1)
def zl(W:World)(P a n w:Nat)(bx:List R8)(i:Int)(t:W.cell? ⟨P,5,nn⟩=sQ (sL (be a) n w))(h:aP W (be a) n w bx)(v:ay W a (n*8))(R:n<=8):ce 253 #[ap P,I J i] W fun o w'=>o=rT (.tuple #[])/\Gm W a bx i w':=by
 have D:=h.len;have L:=h.cap;by_cases hi:0<=i/\i<=(n:Int)-1
 .obtain⟨k,rfl⟩:∃k:Nat,i=(k:Int):=⟨i.toNat,om⟩
  have d:k<bx.length:=om;have Q:k<n:=om;have l:Hid (∀X,ce 124 #[I J (k:Int),I J 0,I J ((n:Int)-1)] X fun o w'=>o=rT (bO true)/\w'=X):=fun X=>(bT X _ _ _).mono (by rintro o w' ⟨rfl,rfl⟩;exact⟨by simp;omega,rfl⟩);obtain⟨C,m,c,q⟩:∃C m c,at8 W a (k*8) bx[k] C m c:=by
   obtain⟨O,off,e,K⟩:=h.cells (by intro e;rw[e]at d;cases d);cases e;have:=K k d;rw[qg]at this;exact this
  have s:=q.c0;have G:Hid (ce 188 #[ap P] W fun o w'=>∃z:Int,o=rT (I J z)/\bsy bx z/\Bl W w'):=jg W P _ n w bx t h om;have H:Hid (ay W a (n*8)):=v;have u:Hid (P<W.heap.size/\a<W.heap.size):=⟨Qn W _ t,Qn W _ s⟩
  clear h v q hi D;by_cases g:bx[k].x=1
  .rw[g]at s;have A:Hid (bx[k].x=1):=g;clear g;go_enter func253,ntmps253;go_wp2_with(go_at_call 124;refine(l.o _).mono ?_;rintro o j ⟨rfl,rfl⟩);refine G.o.mono ?_;rintro o r ⟨z,rfl,E,f⟩;have T:=(f.cell (p:=⟨P,5,nn⟩) (by exact u.o.1)).trans t;have S:=(f.cell (p:=⟨a,k*8,nn⟩) (by exact u.o.2)).trans s;have N:r.frozen? ⟨a,k*8,nn⟩=false:=by
    rw[World.frozen?_of_block (f.block a u.o.2)];exact(H.o (k*8) om).2
   have y:Hid (Bl j r):=f;have B:Hid (bsy bx z):=E;clear E f t s;by_cases M:z<0
   .have b:Hid (cF bx (k:Int)=bx.set k {bx[k]with x:=2}):=jS d A.o B.o M;go_wp2_with fail;refine bN ?_
    exact⟨rfl,r,y.o,qt ⟨k,d,rfl,b.o,A.o⟩⟩
   .have b:Hid (cF bx (k:Int)=bx):=lB B.o om;go_wp2_with fail;refine bN ?_
    exact⟨rfl,r,y.o,qp ⟨rfl,b.o⟩⟩
  .have hx':(bx[k].x==1)=false:=by simpa using g
   have b:=hI (rH d g);generalize bx[k].x=x at*;go_enter func253,ntmps253;go_wp2_with(go_at_call 124;refine(l.o _).mono ?_;rintro o j ⟨rfl,rfl⟩);refine bN ?_
   exact⟨rfl,j,bW _ _,qp ⟨rfl,b.o⟩⟩
 .have l:Hid (∀X,ce 124 #[I J i,I J 0,I J ((n:Int)-1)] X fun o w'=>o=rT (bO false)/\w'=X):=fun X=>(bT X _ _ _).mono (by rintro o w' ⟨rfl,rfl⟩;exact⟨by simp;omega,rfl⟩);have b:Hid (cF bx i=bx):=jT om;clear h v hi L D;go_enter func253,ntmps253;go_wp2_with(go_at_call 124;refine(l.o _).mono ?_;rintro o j ⟨rfl,rfl⟩);refine bN ?_
  exact⟨rfl,j,bW _ _,qp ⟨rfl,b.o⟩⟩
open Go.IntKind renaming i64->J,u32->Zk
def at8.rg{w:World}{g o:Nat}{b:R8}{f:Option Addr}{m c:Nat}(h:at8 w g o b f m c):w.rangeAt g o [I J b.x,I J b.y,I J b.z,bO b.e,I Zk (b.i:Int),bO b.r,I J b.d,sL f m c]:=by
 intro j v a;match j,a with
 |0,a=>cases a;exact h.c0
 |1,a=>cases a;exact h.c1
 |2,a=>cases a;exact h.c2
 |3,a=>cases a;exact h.c3
 |4,a=>cases a;exact h.c4
 |5,a=>cases a;exact h.c5
 |6,a=>cases a;exact h.c6
 |7,a=>cases a;exact h.cs
 |j+8,a=>simp at a
def wrP(bx:List R8):Prop:=¬ ∀k(h:k<bx.length),¬onW bx[k]
def m8(w:World)(C:Co)(s:Sl)(h:aP w s.a2 s.n2 s.k2 C.ho.bx)(hn:s.n2<=1000):ce 128 #[aG (coL C s).toArray] w fun o w'=>bH o (wrP C.ho.bx)/\Bl w w':=by
 have N:=hI (ctS.new w C s);have a6:=h.cap;have P:=hI h.len;have U:=hI h;obtain⟨n2,l⟩:∃n2,s.n2=n2:=⟨_,rfl⟩
 obtain⟨a2,R⟩:∃a2,s.a2=a2:=⟨_,rfl⟩
 obtain⟨k2,L⟩:∃k2,s.k2=k2:=⟨_,rfl⟩
 obtain⟨bx,K⟩:∃bx,C.ho.bx=bx:=⟨_,rfl⟩
 have HY:Hid (∀X,ctS w w.heap.size C s X->X.cell? ⟨w.heap.size,16,none⟩=some (sL a2 n2 k2)):=fun X hX=>by
  have:=hX.p.cell 16 (sL s.a2 s.n2 s.k2) rfl;rw[l,R,L]at this;exact this
 rw[l,R,L,K]at U;rw[l,K]at P;rw[l,L]at a6;rw[l]at hn;rw[K];have a7:=HY.o _ N.o;clear h l R L K;go_enter func128,ntmps128;generalize a9:w.alloc (.cells (coL C s).toArray 52)=W0 at*;go_wp2_with fail;clear a7;go_loopw [9] (fun i wr=>∃k:Nat,k<=n2/\i=I J (k:Int)/\(∀j(n:j<bx.length),j<k->¬onW bx[j])/\Bl w wr) (fun i _=>n2-(intOf i).toNat);case atStart=>exact⟨0,nZ _,rfl,fun j n h=>Qj h (nN _),N.o.b⟩
 case round=>
  obtain⟨k,hk,rfl,hA,hb⟩:=hrel;have t:=hI hb;have O:=hI hA;clear hb hA N;by_cases ad:k<n2
  .have hkl:k<bx.length:=by have:=P.o;omega
   obtain⟨g,off,rfl,hc⟩:=U.o.cells (by intro e;rw[e]at hkl;cases hkl);obtain⟨a,m,c,M⟩:=hc k hkl;have Z:=hI ((M.below t.o).rg);have Y:Hid (∀W,ce 176 #[bxV bx[k].x bx[k].y bx[k].z bx[k].e bx[k].i bx[k].r bx[k].d a m c] W fun o w'=>o=rT (bO (bx[k].x==2||bx[k].x==3))/\Bl W w'):=fun W=>gX W bx[k] a m c;have Q:Hid (onW bx[k]↔(bx[k].x==2||bx[k].x==3)=true):=by unfold Hid onW;simp
   have a3:Hid (¬onW bx[k]->∀j(n:j<bx.length),j<k+1->¬onW bx[j]):=fun M j n ac=>by
    by_cases e:j=k
    .subst e;exact M
    .exact O.o j n om
   have a4:Hid (onW bx[k]->wrP bx):=fun h a5=>a5 k hkl h;clear hc M O;generalize onW bx[k]=ON at*;generalize bx[k]=b at*;obtain⟨f,D,E,v,A,B,u,bl⟩:=b;simp only[]at*;have H:Hid (blk (wr.alloc (.cells ([I J 0,I J 0,I J 0,bO false,I Zk 0,bO false,I J 0,sL none 0 0]:List Value).toArray 114)) wr.heap.size ([I J 0,I J 0,I J 0,bO false,I Zk 0,bO false,I J 0,sL none 0 0]:List Value) 114/\Bl wr (wr.alloc (.cells ([I J 0,I J 0,I J 0,bO false,I Zk 0,bO false,I J 0,sL none 0 0]:List Value).toArray 114))):=⟨blk.new wr _ 114,Zw⟩
   go_wp2_with(first|(refine Zi 114 [I J f,I J D,I J E,bO v,I Zk (A:Int),bO B,I J u,sL a m c] Z.o underlying114 cK ?_)|(refine Zs 114 #[I J f,I J D,I J E,bO v,I Zk (A:Int),bO B,I J u,sL a m c] (H.o.1.there 0 8 pQ) cK (mS _ _ _ _ _ _ _ _ _ _) ?_;generalize a0:World.setCells (wr.alloc _) wr.heap.size 0 _=w6;have G:Hid (blk w6 wr.heap.size [I J f,I J D,I J E,bO v,I Zk (A:Int),bO B,I J u,sL a m c] 114/\Bl wr w6):=(by rw[<- a0];exact⟨(by have:=blk.put [] ([I J 0,I J 0,I J 0,bO false,I Zk 0,bO false,I J 0,sL none 0 0]:List Value) [] [I J f,I J D,I J E,bO v,I Zk (A:Int),bO B,I J u,sL a m c] (w:=wr.alloc (.cells ([I J 0,I J 0,I J 0,bO false,I Zk 0,bO false,I J 0,sL none 0 0]:List Value).toArray 114)) (b:=wr.heap.size) (T:=114) (by simpa using H.o.1) rfl;simpa using this),sW (nR _) 0 _ H.o.2⟩);clear a0 H)|(refine Zi 114 [I J f,I J D,I J E,bO v,I Zk (A:Int),bO B,I J u,sL a m c] G.o.1.load underlying114 cK ?_))
   refine(Y.o _).mono ?_;rintro o w7 ⟨rfl,a1⟩;have S:=hI (t.o.trans ((G.o.2.trans (a1.mono G.o.2.size)).mono t.o.size));clear a1 G Y Z t;have a8:=Q;generalize (f==2||f==3)=q at*;cases q
   .have HN:=hI (a3.o (fun h=>by have:=Q.o.1 h;simp at this));go_wp2_with fail;go_roundw;case rel=>exact⟨k+1,om,by go_num,HN.o,S.o⟩
    case measure=>simp[intOf];omega
   .go_wp2_with fail;go_ret;exact⟨⟨true,rfl,by simp;exact a4.o (Q.o.2 trivial)⟩,S.o⟩
  .have hkn:k=n2:=om;subst hkn;go_wp2_with fail;go_ret;exact⟨⟨false,rfl,by simp only[qH,false_iff];exact fun h=>h (fun j n=>O.o j n (by have:=P.o;omega))⟩,t.o⟩
def aa{P:Prop}(h:P):Hid P:=h
def sA(w:World)(C:Co)(s:Sl)(k:Nat)(B:k<C.ho.bx.length)(h:bj w C.ho s)(hn:s.n2<=8)(Q:∀z,bsy C.ho.bx z->z=(k:Int)):ce 22 #[aG (coL C s).toArray] w fun o w'=>∃a m c,o=rT (frV C.ho.bx[k].e C.ho.bx[k].i C.ho.bx[k].r C.ho.bx[k].d a m c)/\iB w' a m c C.ho.bx[k].l/\Bl w w':=by
 have a0:=h.bx.len;have a1:=h.bx.cap;obtain⟨u,off,L,O⟩:=h.bx.cells (by intro e;rw[e]at B;cases B);obtain⟨a,m,c,q⟩:=O k B;have n:Hid (blk ((w.alloc (.cells (coL C s).toArray 52)).alloc (.cells [bO false,I Zk 0,bO false,I J 0,sL nn 0 0].toArray 53)) w.heap.size (coL C s) 52/\blk ((w.alloc (.cells (coL C s).toArray 52)).alloc (.cells [bO false,I Zk 0,bO false,I J 0,sL nn 0 0].toArray 53)) (w.heap.size+1) [bO false,I Zk 0,bO false,I J 0,sL nn 0 0] 53/\Bl w ((w.alloc (.cells (coL C s).toArray 52)).alloc (.cells [bO false,I Zk 0,bO false,I J 0,sL nn 0 0].toArray 53))):=by
  refine⟨(blk.new w _ 52).alloc _,?_,Zw.alloc pQ _⟩;have:=blk.new (w.alloc (.cells (coL C s).toArray 52)) [bO false,I Zk 0,bO false,I J 0,sL nn 0 0] 53;simpa using this
 have R:Hid (∀V,Bl w V->ce 70 #[aG (hoL C.ho s).toArray] V fun o w'=>o=rT (I J (k:Int))/\Bl V w'):=fun V A=>(gW V C.ho s (h.below A).bx om).mono fun o w' ⟨z,h1,Z,h3⟩=>⟨by rw[h1,Q z Z],h3⟩
 have G:Hid (∀V,Bl w V->at8 V u (off+k*8) C.ho.bx[k] a m c):=fun V A=>q.below A;have a3:k<s.n2:=om;have U:=aa L;clear h Q a0 q O L;generalize C.ho.bx[k]=b at*;obtain⟨j,D⟩:∃j,j=(w.alloc (.cells (coL C s).toArray 52)).alloc (.cells [bO false,I Zk 0,bO false,I J 0,sL nn 0 0].toArray 53):=⟨_,rfl⟩
 rw[<- D]at n;go_enter func22,ntmps22;go_upto_region 1 with fail
 rw[<- D];clear D;refine Qu (S:=fun X=>blk X w.heap.size (coL C s) 52/\Bl w X) kr ?_;have hS:blk (World.drew j) w.heap.size (coL C s) 52/\Bl w (World.drew j):=⟨n.o.1.below (bW _ _).drew,n.o.2.2.drew⟩
 have H:=hI (n.o.2.1.below (bW _ _).drew);clear n;change wpAnyH Tp _ _ _ _ _ _ _ (World.drew j);generalize World.drew j=v1 at*;refine wV 0 (pT (sQ ⟨w.heap.size,11,nn⟩)) ?_ hS ?_
 .intro W hSw;clear hS;go_simp
 simp only[Act.put,aA,aB,aC,aD,aE];refine wV 1 (pT (sQ ⟨w.heap.size,16,nn⟩)) ?_ hS ?_
 .intro W hSw;clear hS;go_simp
 simp only[aZ];refine wV 2 (sL (sQ ⟨u,off,nn⟩) s.n2 s.k2) ?_ hS ?_
 .intro W hSw;clear hS;have y:=hSw.1.cell 16 (sL s.a2 s.n2 s.k2) rfl;rw[U.o]at y;go_simp
 simp only[aZ];refine wV 3 (pT (sQ ⟨w.heap.size,11,nn⟩)) ?_ hS ?_
 .intro W hSw;clear hS;go_simp
 simp only[aZ];refine wU 4 (aG (hoL C.ho s).toArray) rfl (Qw (by rfl) 50 _ rfl w.heap.size 11 rfl (hoL C.ho s) _ (fun X h=>h.1.hostAt) underlying50 rfl (fj C.ho s)) hS ?_;simp only[aZ];refine Qq (rs:=[5]) kr pQ ?_;refine QT rfl (fun x p=>?_) QU;go_simp;refine(R.o v1 hS.2).mono ?_;rintro o f ⟨rfl,v⟩;have M:blk f w.heap.size (coL C s) 52/\Bl w f:=⟨hS.1.below v,hS.2.trans (v.mono hS.2.size)⟩
 have K:=aa (H.o.below v);clear v H;go_wp2_with fail;refine p.out _ _ M (fun t=>?_);clear p x M hS;have hS:=t;clear t;refine wV 6 (pT (sQ ⟨u,off+k*8,nn⟩)) ?_ hS ?_
 .intro W hSw;clear hS;go_simp
 simp only[aZ];refine wV 7 (pT (sQ ⟨u,off+k*8+3,nn⟩)) ?_ hS ?_
 .intro W hSw;clear hS;go_simp
 simp only[aZ];refine wV 8 (aG #[bO b.e,I Zk (b.i:Int),bO b.r,I J b.d,sL a m c]) ?_ hS ?_
 .intro W hSw;clear hS;have g:=G.o W hSw.2;have c3:=g.c3;have c4:=g.c4;have c5:=g.c5;have c6:=g.c6;have c7:=g.cs;clear g;go_simp
 simp only[aZ];refine Qq (rs:=[9]) kr pQ ?_;refine QT rfl (fun x p=>?_) QU;rw[QW (by rfl)];refine QE 53 _ _ rfl (w.heap.size+1) 0 #[bO b.e,I Zk (b.i:Int),bO b.r,I J b.d,sL a m c] rfl rfl (K.o.there 0 5 pQ) cE (Qv (by simp[Value.oneCell'])) ?_;have Y:Hid (blk (f.setCells (w.heap.size+1) 0 [bO b.e,I Zk (b.i:Int),bO b.r,I J b.d,sL a m c]) (w.heap.size+1) [bO b.e,I Zk (b.i:Int),bO b.r,I J b.d,sL a m c] 53):=by
  have:=blk.put [] [bO false,I Zk 0,bO false,I J 0,sL nn 0 0] [] [bO b.e,I Zk (b.i:Int),bO b.r,I J b.d,sL a m c] (w:=f) (b:=w.heap.size+1) (T:=53) (by simpa using K.o) rfl;have e:blk (f.setCells (w.heap.size+1) 0 [bO b.e,I Zk (b.i:Int),bO b.r,I J b.d,sL a m c]) (w.heap.size+1) [bO b.e,I Zk (b.i:Int),bO b.r,I J b.d,sL a m c] 53:=by simpa using this
  exact e
 have N:blk (f.setCells (w.heap.size+1) 0 [bO b.e,I Zk (b.i:Int),bO b.r,I J b.d,sL a m c]) w.heap.size (coL C s) 52/\Bl w (f.setCells (w.heap.size+1) 0 [bO b.e,I Zk (b.i:Int),bO b.r,I J b.d,sL a m c]):=⟨hS.1.other om _ _,sW om 0 _ hS.2⟩
 refine p.out _ _ N (fun t=>?_);have E:=aa t.2;clear p x N hS t;refine Qs kr ?_ _;simp only[Act.put];go_wp2_with fail;refine bC results22 (Qt (P:=Tp) _ (w.heap.size+1) 0 53 _ _ Y.o.load underlying53 rfl cE) ?_;exact⟨a,m,c,rfl,(G.o _ E.o).dat,E.o⟩
end Go.Proofs.YtbbffcolnddcdaaGreatDoor
