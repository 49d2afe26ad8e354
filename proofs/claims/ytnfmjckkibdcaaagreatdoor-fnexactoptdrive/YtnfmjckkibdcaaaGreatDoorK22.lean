import Derived.Maps.AppendAt
import Derived.Test.YtnfmjckkibdcaaaGreatDoorK12
import Derived.Deep.AppendLies
import Derived.Deep.RegionLaw
import Derived.Test.YtnfmjckkibdcaaaGreatDoorProg
import Derived.WalkKit
import Derived.WalkSpells
import Derived.WalkLawsBesides
import Derived.Deep.QuietTactic
import Derived.BigQuiet
import Derived.Lib.OthersKept
import Derived.Laws.IdiomStrings
import Derived.Deep.RegionWith
import Derived.Deep.RegionHeld3
namespace Go.Proofs.YtnfmjckkibdcaaaGreatDoor
set_option linter.all false
open Go.RowKit
def vx (s:ByteArray):(bH s).code=(swZ s).1/\((swZ s).1=1\/(swZ s).1=2->Vals (bH s) (swZ s).2.1):=by
 unfold bH swZ;by_cases hk:okT s 4000=true
 .rw[zc hk,zc hk];obtain⟨h1,-,h3⟩:=IW (lt s) (gC hk);exact⟨h1,fun a=>h3 om⟩
 .rw[zb hk,zb hk];refine⟨rfl,fun a=>?_⟩;rcases a with a | a <;> cases a
def pj (n:Nat):∀ v,cJ (M.num v n)=v % 2 ^ n:=by
 induction n with
 | zero=>intro v;show 0=v % 1;omega
 | succ n ih=>
  intro v;show cJ (M.num (v / 2) n++[48+v % 2])=_;rw[dE,ih];unfold eu;rw[qI,Qt (2 ^ n) 2,Nat.mod_mul];have:v % 2=0\/v % 2=1:=om;rcases this with h | h <;> rw[h] <;> simp <;> omega
def vK (a b:List Nat):∃ t,M.fP (a++b)=M.fP a++t:=by
 induction b using M.jf with
 | h0=>exact⟨[],pQ⟩
 | h1 b c ih=>
  obtain⟨t,ht⟩:=ih;rw[<- qp,M.Gg,ht];unfold M.kL;split
  .exact⟨t++[c]++[97-c],pQ⟩
  .exact⟨t++[c],pQ⟩
structure Lay (x:List Nat):Prop where
 isl:∀ y ∈ x,M.isL y
 look:∀ m,m<x.length->cF (x.take m) (x.getD m 0)=0
 fld:∀ m,m<=x.length->ar (x.take m)<=11
def xP (x:List Nat) (m:Nat) (h:m<x.length):x.take (m+1)=x.take m++[x.getD m 0]:=cq x m h
def GX {L S:List Nat} {j:Nat} (h:L.take j=S) (i:Nat) (hi:i<S.length):L.getD i 0=S.getD i 0:=by
 subst h;have:i<L.length/\i<j:=by rw[qj] at hi;omega
 rw[ql,ql,qU this.2]
def iR (x L:List Nat) (hx:Lay x) (hL:∀ y ∈ L,M.isL y) (hS:L.take (M.fP x).length=M.fP x):∀ m,m<=x.length ->
  (∀ i,i<=(M.fP (x.take m)).length->(sw L i).1=0)/\sw L (M.fP (x.take m)).length=(0,x.take m,false)
 | 0,_=>by
  refine⟨fun i hi=>?_,rfl⟩;have:i=0:=by simpa[M.fP] using hi
  subst this;rfl
 | m+1,hm=>by
  obtain⟨h1,h2⟩:=iR x L hx hL hS m om;have hlt:m<x.length:=om;have hc:M.isL (x.getD m 0):=pM hx.isl m hlt;have htk:=xP x m hlt;have hsn:M.fP (x.take (m+1))=M.kL (M.fP (x.take m)) (x.getD m 0):=by rw[htk,M.Gg]
  have hfl:=hx.fld (m+1) hm;have hlk:=hx.look m hlt;have hrun:=M.Ek (x.take m) (fun y hy=>hx.isl y (qL hy));have hpre:∃ t,M.fP x=M.kL (M.fP (x.take m)) (x.getD m 0)++t:=by
   have:=vK (x.take (m+1)) (x.drop (m+1));rw[List.take_append_drop,hsn] at this;exact this
  obtain⟨t,ht⟩:=hpre;rw[hsn];rw[htk] at hfl ⊢;generalize x.take m=q at *;generalize x.getD m 0=c at *;generalize M.fP q=out at *;have hlen:(M.fP x).length<=L.length:=by rw[<- hS,qj];omega
  have hget:=fun i hi=>GX hS i hi;rw[ht] at hlen hget
  have hLi:L.getD out.length 0=c:=by
   rw[hget out.length (by unfold M.kL;split <;> simp <;> omega)];unfold M.kL;split <;> simp
  have hil:out.length<L.length:=by
   have:(M.kL out c++t).length >= out.length+1:=by unfold M.kL;split <;> simp <;> omega
   omega
  have hout:L.take out.length=out:=by
   have h3:(L.take (M.fP x).length).take out.length=(M.fP x).take out.length:=by rw[hS]
   rw[List.take_take,ht] at h3;have e1:(M.kL out c++t).take out.length=out:=by
    unfold M.kL;split <;> simp[qp]
   have e2:out.length<=(M.kL out c++t).length:=by unfold M.kL;split <;> simp <;> omega
   rw[e1,Nat.min_eq_left e2] at h3;exact h3
  have htake:L.take (out.length+1)=out++[c]:=by rw[cq L out.length hil,hout,hLi]
  have hs1:sw L (out.length+1)=(0,q++[c],decide ((M.eP (out++[c])).2=5)):=by
   show dW L out.length (sw L out.length)=_;rw[h2];unfold dW;simp only[qN,if_false,hLi,hlk];have hd:=i6 L hL (out.length+1) hil;rw[htake] at hd;have hle:=M.vd (M.eP out) c;rw[<- M.de] at hle;congr 2;rw[zg];simp only[qx,Bool.or_eq_true,qQ];rw[hd];constructor
   .rintro⟨a,b⟩;omega
   .intro a;exact⟨om,om⟩
  by_cases h5:(M.eP (out++[c])).2=5
  .have est:M.kL out c=out++[c]++[97-c]:=by unfold M.kL;rw[zc h5]
   rw[est] at ht hlen hget ⊢;have hil2:out.length+1<L.length:=by simp at hlen;omega
   have hLi2:L.getD (out.length+1) 0=97-c:=by
    rw[hget (out.length+1) pQ];simp[ql]
   have htake2:L.take (out.length+2)=out++[c]++[97-c]:=by rw[cq L (out.length+1) hil2,htake,hLi2]
   have hs2:sw L (out.length+2)=(0,q++[c],false):=by
    show dW L (out.length+1) (sw L (out.length+1))=_;rw[hs1];unfold dW;simp only[h5,decide_true,if_true,hLi2,Nat.add_sub_cancel,hLi];rw[zb (M.uV hc).2];have hd:=i6 L hL (out.length+1+1) hil2;rw[htake2,M.de] at hd;have hf1:(M.eP (out++[c])).1=c:=by rw[M.de,M.rv]
    have hh:(M.C0 (M.eP (out++[c])) (97-c)).2=1:=by
     unfold M.C0;rw[hf1,zb (M.uV hc).2]
    rw[hh] at hd;have:cW (fun t=>L.getD t 0) (out.length+1+1)=false:=by
     cases hq:cW (fun t=>L.getD t 0) (out.length+1+1)
     .rfl
     .have:=hd.1 hq;omega
    rw[this];rfl
   have hl2:(out++[c]++[97-c]).length=out.length+2:=pQ;rw[hl2];refine⟨fun i hi=>?_,hs2⟩;by_cases a:i<=out.length
   .exact h1 i a
   .rcases (show i=out.length+1\/i=out.length+2 by omega) with rfl|rfl
    .rw[hs1]
    .rw[hs2]
  .have est:M.kL out c=out++[c]:=by unfold M.kL;rw[zb h5]
   rw[est];have hl2:(out++[c]).length=out.length+1:=pQ;rw[hl2];have hs2:sw L (out.length+1)=(0,q++[c],false):=by rw[hs1,qo h5]
   refine⟨fun i hi=>?_,hs2⟩;by_cases a:i<=out.length
   .exact h1 i a
   .have:i=out.length+1:=om;subst this;rw[hs2]
def Bn (q t:List Nat) (h:aY q<=q.length):aY (q++t)=aY q/\gD (q++t)=gD q/\cv (q++t)=cv q:=by
 induction t using M.jf with
 | h0=>simp
 | h1 t c ih=>
  have hH:=bz q;obtain⟨a,b,c'⟩:=ih;have hl:aY (q++t)<=(q++t).length:=by rw[a,qe];omega
  rw[<- qp,cT _ _ (by rw[qe];omega),mZ _ _ hl,fj _ _ hl];exact⟨a,b,c'⟩
def Ft (i:Nat) (r:Bool) (d:Nat) (l t:List Nat):(ag false i r d l++t).getD 13 0=48/\(ag false i r d l++t).getD 12 0=48+r.toNat/\((ag false i r d l++t).drop 15).take 4=M.num d 4/\((ag false i r d l++t).drop 1).take 11=M.num i 11/\(ag false i r d l++t).drop 19=l.flatMap (fun x=>M.num x 8)++t:=by
 have n11:=M.DD 11 i;have n4:=M.DD 4 d;have e:ag false i r d l++t=[48]++(M.num i 11++([48+r.toNat,48,48]++(M.num d 4++(l.flatMap (fun x=>M.num x 8)++t)))):=by
  unfold ag eO;rw[zb (by decide)];show _++M.num 0 1++_++_++_=_;rw[mY];simp
 rw[e];refine⟨?_,?_,?_,?_,?_⟩
 .simp[ql,List.getElem?_append,n11]
 .simp[ql,n11]
 .simp[List.drop_append,n11,qq,n4]
 .simp[n11]
 .simp[List.drop_append,n11,qq,n4]
def Fs (i:Nat) (r:Bool) (d:Nat) (l t:List Nat):(ag true i r d l++t).getD 13 0=49/\(ag true i r d l++t).getD 32 0=48+r.toNat/\((ag true i r d l++t).drop 35).take 4=M.num d 4/\((ag true i r d l++t).drop 1).take 11=M.num (i / 2 ^ 18) 11/\((ag true i r d l++t).drop 14).take 18=M.num i 18/\(ag true i r d l++t).drop 39=l.flatMap (fun x=>M.num x 8)++t:=by
 have n11:=M.DD 11 (i / 2 ^ 18);have n18:=M.DD 18 i;have n4:=M.DD 4 d;have e:ag true i r d l++t=[48]++(M.num (i / 2 ^ 18) 11++([49,49]++(M.num i 18++([48+r.toNat,48,48]++(M.num d 4++(l.flatMap (fun x=>M.num x 8)++t)))))):=by
  unfold ag eO;rw[zc rfl];show _++M.num 0 2++_++_++_=_;rw[CD];simp
 rw[e];generalize M.num (i / 2 ^ 18) 11=A at *;generalize M.num i 18=B at *;refine⟨?_,?_,?_,?_,?_,?_⟩
 .simp[ql,List.getElem?_append,n11]
 .simp[ql,List.getElem?_append,n11,n18]
 .simp[List.drop_append,n11,n18,qq,n4]
 .simp[n11]
 .simp[List.drop_append,n11,n18,qq]
 .simp[List.drop_append,n11,n18,qq,n4]
def CQ (e:Bool):Nat:=if e=true then 39 else 19
structure lG (r:Bool) (d:Nat) (l:List Nat):Prop where
 d15:d<=15
 len:l.length=if r=true then 0 else min d 8
 small:∀ x ∈ l,x<256
def rW (e:Bool) (i:Nat) (r:Bool) (d:Nat) (l t:List Nat) (h:lG r d l) :
  aY (ag e i r d l++t)=CQ e/\gD (ag e i r d l++t)=l.length/\cv (ag e i r d l++t)=(ag e i r d l).length/\CQ e<=(ag e i r d l).length:=by
 have hl:=du e i r d l;have hd:cJ (M.num d 4)=d:=by rw[pj];have:=h.d15;omega
 have hlen:=h.len;cases e with
 | false=>
  obtain⟨a13,a12,a15,-,-⟩:=Ft i r d l t;have h1:aY (ag false i r d l++t)=19:=by unfold aY;rw[a13];rfl
  have h2:gD (ag false i r d l++t)=l.length:=by
   have hR:kl (ag false i r d l++t)=r:=by
    unfold kl;rw[zb (by rw[a13];decide),a12];cases r <;> rfl
   unfold gD;rw[hR,h1,a15,hd,hlen]
  refine⟨h1,h2,?_,?_⟩
  .unfold cv;rw[h1,h2,hl];rfl
  .rw[hl];exact nA _ _
 | true=>
  obtain⟨a13,a32,a35,-,-,-⟩:=Fs i r d l t;have h1:aY (ag true i r d l++t)=39:=by unfold aY;rw[a13];rfl
  have h2:gD (ag true i r d l++t)=l.length:=by
   have hR:kl (ag true i r d l++t)=r:=by
    unfold kl;rw[zc a13,a32];cases r <;> rfl
   unfold gD;rw[hR,h1,a35,hd,hlen]
  refine⟨h1,h2,?_,?_⟩
  .unfold cv;rw[h1,h2,hl];rfl
  .rw[hl];exact nA _ _
def CK (n H E:Nat) (h:H=19\/H=39) (hn:n<H):aq n H E<=8/\(aq n H E=1->n=0):=by unfold aq;grind (splits:=16)
def zN (n H E:Nat) (h:H=19\/H=39) (hE:H<=E) (hn:H<=n) (h2:n<E+15):aq n H E<=10/\9<=aq n H E:=by unfold aq;grind (splits:=16)
def DZ (n H E:Nat) (h:H=19\/H=39) (hE:H<=E) (hn:n=E+15):aq n H E=11:=by unfold aq;grind (splits:=16)
def CE {q:List Nat} {c:Nat} (h:ar q<=10) (h1:ar q=1->c=48):cF q c=0:=by
 unfold cF;by_cases f1:ar q=1
 .rw[zc f1,h1 f1];rfl
 .rw[zb f1,zb om,zb om,zb om]
def tf (e:Bool) (i:Nat) (r:Bool) (d:Nat) (l c:List Nat) (h:lG r d l) (hc:c.length=15) (hcl:∀ x ∈ c,M.isL x):Lay (ag e i r d l++c):=by
 obtain⟨b1,b2,b3,b4⟩:=rW e i r d l c h;have hx0:(ag e i r d l++c).getD 0 0=48:=by unfold ag;simp
 have hlen:(ag e i r d l++c).length=(ag e i r d l).length+15:=by rw[qe,hc]
 have key:∀ m,m<=(ag e i r d l++c).length->m<aY ((ag e i r d l++c).take m)\/(aY ((ag e i r d l++c).take m)<=m/\cv ((ag e i r d l++c).take m)=(ag e i r d l).length):=by
  intro m hm;by_cases a:m<aY ((ag e i r d l++c).take m)
  .exact .inl a
  .right;have hlt:((ag e i r d l++c).take m).length=m:=by rw[qj];omega
   have:=(Bn ((ag e i r d l++c).take m) ((ag e i r d l++c).drop m) om).2.2;rw[List.take_append_drop,b3] at this;exact⟨om,this.symm⟩
 refine⟨?_,?_,?_⟩
 .intro y hy;rw[qC] at hy;rcases hy with hy|hy
  .exact dI e i r d l y hy
  .exact hcl y hy
 .intro m hm;have hlt:((ag e i r d l++c).take m).length=m:=by rw[qj];omega
  have hH:=bz ((ag e i r d l++c).take m);have hE:=cI ((ag e i r d l++c).take m);have hf:=eS ((ag e i r d l++c).take m);rw[hlt] at hf;rcases key m om with a|⟨a1,a2⟩
  .have:=CK m _ (cv ((ag e i r d l++c).take m)) hH a;refine CE om (fun f1=>?_);have:m=0:=this.2 om;subst this;exact hx0
  .have:=zN m _ _ hH hE a1 om;exact CE om (fun f1=>by omega)
 .intro m hm;have hlt:((ag e i r d l++c).take m).length=m:=by rw[qj];omega
  have hH:=bz ((ag e i r d l++c).take m);have hE:=cI ((ag e i r d l++c).take m);have hf:=eS ((ag e i r d l++c).take m);rw[hlt] at hf;rcases key m hm with a|⟨a1,a2⟩
  .have:=CK m _ (cv ((ag e i r d l++c).take m)) hH a;omega
  .by_cases a3:m<cv ((ag e i r d l++c).take m)+15
   .have:=zN m _ _ hH hE a1 a3;omega
   .have:=DZ m _ _ hH hE om;omega
def df (a:Nat):List Nat:=[49,a,49,49,49,49,49,49,49,49]
def vb (k H E:Nat) (h:H=19\/H=39) (hE:H<=E) (hk:k<10):aq (E+15+k) H E=if k=0 then 11 else if k=1 then 12 else if k=2 then 13 else 14:=by unfold aq;grind (splits:=20)
def xc (H E:Nat) (h:H=19\/H=39) (hE:H<=E):aq (E+15+10) H E=15:=by unfold aq;grind (splits:=20)
def wu (p:List Nat) (E k c:Nat) (hH:aY p<=p.length) (hE:cv p=E) (hp:p.length=E+15+k) (hk:k<10) (hc:k≠1->c=49) (hok:k=2->cA p=true):cF p c=if k=9 then 2 else if k=8 then 1 else 0:=by
 have hf:=eS p;rw[hp,hE,vb k _ _ (bz p) (hE ▸ cI p) hk] at hf;have h2:=uT hH;unfold cF;rw[hf,h2,hE,hp];rcases (show k=0\/k=1\/k=2\/(3<=k/\k<8)\/k=8\/k=9 by omega) with rfl|rfl|rfl|h|rfl|rfl
 .rw[hc (by decide)];rfl
 .rfl
 .rw[hc (by decide),hok rfl];rfl
 .rw[hc om];have:¬ k=0/\¬ k=1/\¬ k=2/\¬ k=9/\¬ k=8:=om;simp[this];rw[zc om,zb om]
 .rw[hc (by decide)];simp
 .rw[hc (by decide)];simp
def gu (e:Bool) (i:Nat) (r:Bool) (d:Nat) (l:List Nat):(ab e i r d l).length=(ag e i r d l).length+15:=by
 unfold ab;rw[qe,M.DD]
def lg (e:Bool) (i:Nat) (r:Bool) (d:Nat) (l:List Nat) (h:lG r d l):Lay (ab e i r d l):=
 tf e i r d l _ h (M.DD _ _) (M.FD _ _)
def ip (a:Nat):(df a).length=10:=rfl
def xR (a k:Nat) (hk:k<10) (h:k≠1):(df a).getD k 0=49:=by
 rcases (show k=0\/k=2\/k=3\/k=4\/k=5\/k=6\/k=7\/k=8\/k=9 by omega) with rfl | rfl | rfl | rfl | rfl | rfl | rfl | rfl | rfl <;> rfl
def iq (a:Nat) (ha:M.isL a):∀ y ∈ df a,M.isL y:=by
 intro y hy;unfold df at hy;simp only[Qx,Qg,or_false] at hy;rcases hy with h | h | h | h | h | h | h | h | h | h <;> first | (rw[h];exact .inr rfl) | (rw[h];exact ha)
def jB (e:Bool) (i:Nat) (r:Bool) (d:Nat) (l t:List Nat) (h:lG r d l) :
  aY (ab e i r d l++t)<=(ab e i r d l++t).length/\cv (ab e i r d l++t)=(ag e i r d l).length:=by
 obtain⟨b1,b2,b3,b4⟩:=rW e i r d l (M.num (M.i8 ((ag e i r d l).map (fun x=>x-48))) 15++t) h;unfold ab;rw[qp,b1,b3];exact⟨by rw[qe];omega,rfl⟩
def vW (e:Bool) (i:Nat) (r:Bool) (d:Nat) (l t:List Nat) (h:lG r d l) (ht:∀ y ∈ t,M.isL y):cA (ab e i r d l++t)=true:=by
 obtain⟨h1,h2⟩:=jB e i r d l t h
 rw[rQ _ (fun y hy=>by
  rw[qC] at hy
  rcases hy with hy|hy
  .exact cQ e i r d l y hy
  .exact ht y hy)]
 unfold oT;rw[uT h1,h2];have hH:=bz (ab e i r d l++t);have hle:=cI (ab e i r d l++t);have hlen:(ab e i r d l++t).length=(ag e i r d l).length+15+t.length:=by rw[qe,gu]
 have e1:(ab e i r d l++t).take (ag e i r d l).length=ag e i r d l:=by
  unfold ab;rw[qp,List.take_left' rfl]
 have e2:((ab e i r d l++t).drop (ag e i r d l).length).take 15=M.num (M.i8 ((ag e i r d l).map (fun x=>x-48))) 15:=by
  unfold ab;rw[qp,List.drop_left' rfl,List.take_left' (M.DD _ _)]
 rw[e1,e2,pj,Qp (M.BV _)];rw[qx];refine⟨qE ?_,qE rfl⟩;omega
def AN (L:List Nat) (j:Nat) (c0:Nat) (p:List Nat) (h:sw L j=(c0,p,false)) (hf:11<ar (p++[L.getD j 0])):sw L (j+1)=(cF p (L.getD j 0),p++[L.getD j 0],false):=by
 show dW L j (sw L j)=_;rw[h];unfold dW;simp only[qN,if_false];have:(decide (ar (p++[L.getD j 0])<=10) || decide (ar (p++[L.getD j 0])=11))=false:=by rw[Bool.or_eq_false_iff];exact⟨qo om,qo om⟩
 rw[this,Bool.and_false]
def mN (e:Bool) (i:Nat) (r:Bool) (d:Nat) (l:List Nat) (a:Nat) (h:lG r d l) (ha:M.isL a):∀ k,k<=10 ->
  sw (M.fP (ab e i r d l)++df a) ((M.fP (ab e i r d l)).length+k)=(if k=10 then 2 else if k=9 then 1 else 0,ab e i r d l++(df a).take k,false)
 | 0,_=>by
  have hx:=lg e i r d l h;have hL:∀ y ∈ M.fP (ab e i r d l)++df a,M.isL y:=by
   intro y hy;rw[qC] at hy;rcases hy with hy|hy
   .exact M.Em _ hx.isl y hy
   .exact iq a ha y hy
  have:=(iR (ab e i r d l) _ hx hL (List.take_left' rfl) (ab e i r d l).length (nR _)).2;rw[List.take_length] at this;simpa using this
 | k+1,hk=>by
  have ih:=mN e i r d l a h ha k om;have hget:(M.fP (ab e i r d l)++df a).getD ((M.fP (ab e i r d l)).length+k) 0=(df a).getD k 0:=by
   rw[ql,qZ om,Qq,ql]
  have htk:(df a).take (k+1)=(df a).take k++[(df a).getD k 0]:=cq _ k (by rw[ip];omega);have hl:(ab e i r d l++(df a).take k).length=(ag e i r d l).length+15+k:=by rw[qe,gu,qj,ip];omega
  obtain⟨p1,p2⟩:=jB e i r d l ((df a).take k) h;obtain⟨q1,q2⟩:=jB e i r d l ((df a).take (k+1)) h;have hfl:11<ar (ab e i r d l++(df a).take (k+1)):=by
   rw[eS,q2];have hl':(ab e i r d l++(df a).take (k+1)).length=(ag e i r d l).length+15+(k+1):=by rw[qe,gu,qj,ip];omega
   have hle:=cI (ab e i r d l++(df a).take (k+1));rw[q2] at hle;rw[hl'];by_cases h10:k+1=10
   .have:=xc _ _ (bz _) hle;rw[show (ag e i r d l).length+15+(k+1)=(ag e i r d l).length+15+10 by omega,this];decide
   .rw[vb (k+1) _ _ (bz _) hle om,zb om];split <;> (try split) <;> decide
  rw[htk,<- qp] at hfl ⊢;rw[<- hget] at hfl ⊢;rw[<- Nat.add_assoc,AN _ _ _ _ ih hfl];congr 1
  rw[hget,wu _ _ k _ p1 p2 hl om (fun hk1=>xR a k om hk1) (fun hk2=>by
   subst hk2;exact vW e i r d l _ h (fun y hy=>iq a ha y (qL hy)))]
  rcases (show k=9\/k=8\/k<8 by omega) with rfl|rfl|h8
  .rfl
  .rfl
  .rw[zb om,zb om,zb om,zb om]
def nc (e:Bool) (i:Nat) (r:Bool) (d:Nat) (l:List Nat) (a:Nat) (h:lG r d l) (ha:M.isL a) (j:Nat) (hj:j<=(M.fP (ab e i r d l)).length+10) :
  (sw (M.fP (ab e i r d l)++df a) j).1=if j=(M.fP (ab e i r d l)).length+10 then 2 else if j=(M.fP (ab e i r d l)).length+9 then 1 else 0:=by
 by_cases hs:j<=(M.fP (ab e i r d l)).length
 .have hx:=lg e i r d l h;have hL:∀ y ∈ M.fP (ab e i r d l)++df a,M.isL y:=by
   intro y hy;rw[qC] at hy;rcases hy with hy|hy
   .exact M.Em _ hx.isl y hy
   .exact iq a ha y hy
  have:=(iR (ab e i r d l) _ hx hL (List.take_left' rfl) (ab e i r d l).length (nR _)).1;rw[List.take_length] at this;rw[this j hs,zb om,zb om]
 .obtain⟨k,rfl⟩ : ∃ k,j=(M.fP (ab e i r d l)).length+k:=⟨j-(M.fP (ab e i r d l)).length,om⟩
  rw[mN e i r d l a h ha k om];show (if k=10 then 2 else if k=9 then 1 else 0)=_;rcases (show k=10\/k=9\/k<9 by omega) with rfl|rfl|h9
  .rw[zc rfl,zc rfl]
  .rw[zb (by decide),zc rfl,zb om,zc rfl]
  .rw[zb om,zb om,zb om,zb om]
def xY (L:List Nat):∀ f i,(∀ j,i<=j->j<i+f->av (sw L j).1=true)->swF L f i=sw L (i+f)
 | 0,i,_=>rfl
 | f+1,i,h=>by
  rw[jd,zc (h i (nR _) om),xY L f (i+1) (fun j a b=>h j om om)];congr 1;omega
def sD (L:List Nat) (n:Nat) (hn:n<=L.length):∀ j,j<=n->sw (L.take n) j=sw L j
 | 0,_=>rfl
 | j+1,h=>by
  show dW (L.take n) j (sw (L.take n) j)=dW L j (sw L j);rw[sD L n hn j om]
  have hg:∀ t,t<n->(L.take n).getD t 0=L.getD t 0:=fun t ht=>by
   rw[ql,ql,qU ht]
  have hd:cW (fun t=>(L.take n).getD t 0) (j+1)=cW (fun t=>L.getD t 0) (j+1):=by
   unfold cW;dsimp only;by_cases h5:5<=j+1
   .rw[hg _ om,hg _ om,hg _ om,hg _ om,hg _ om]
   .simp[h5]
  unfold dW;rw[hg j om,hg (j-1) om,hd]
def fS (e:Bool) (i:Nat) (r:Bool) (d:Nat) (l:List Nat) (a:Nat):List Nat:=M.fP (ab e i r d l)++df a
def ig (e:Bool) (i:Nat) (r:Bool) (d:Nat) (l:List Nat) (a:Nat):(fS e i r d l a).length=(M.fP (ab e i r d l)).length+10:=by unfold fS;rw[qe,ip]
def Bz (e:Bool) (i:Nat) (r:Bool) (d:Nat) (l:List Nat) (a:Nat) (h:lG r d l):(fS e i r d l a).length<=300:=by
 have h1:=M.El (ab e i r d l);have h2:=du e i r d l;have h3:=h.len;have h4:l.length<=8:=by rw[h3];split <;> omega
 rw[ig];rw[gu,h2] at h1;cases e <;> simp at h1 <;> omega
def rq (e:Bool) (i:Nat) (r:Bool) (d:Nat) (l:List Nat) (a:Nat) (ha:M.isL a):∀ y ∈ fS e i r d l a,M.isL y:=by
 intro y hy;unfold fS at hy;rw[qC] at hy;rcases hy with hy|hy
 .exact M.Em _ (cQ e i r d l) y hy
 .exact iq a ha y hy
def Bv {l:List Nat} (h:∀ y ∈ l,M.isL y):∀ y ∈ l,y<256:=fun y hy=>by rcases h y hy with h | h <;> omega
def Bw (e:Bool) (i:Nat) (r:Bool) (d:Nat) (l:List Nat) (a:Nat) (h:lG r d l) (ha:M.isL a) (j:Nat) (hj:j<=(fS e i r d l a).length) :
  swZ (ae ((fS e i r d l a).take j))=sw (fS e i r d l a) j:=by
 have hle:=Bz e i r d l a h;have hil:∀ y ∈ (fS e i r d l a).take j,M.isL y:=fun y hy=>rq e i r d l a ha y (qL hy);have hlen:((fS e i r d l a).take j).length=j:=by rw[qj];omega
 unfold swZ;rw[zc (kS _ 4000 hil (by rw[hlen];omega)),ix _ (Bv hil),hlen,xY]
 .rw[zf,sD _ j hj j (nR _)]
 .intro m _ hm;rw[sD _ j hj m om];have:=nc e i r d l a h ha m (by rw[ig] at hj;omega);unfold fS;rw[this,zb (by rw[ig] at hj;omega)];split <;> rfl
def zx (e:Bool) (i:Nat) (r:Bool) (d:Nat) (l:List Nat) (a:Nat) (h:lG r d l) (ha:M.isL a) (j:Nat) (hj:j<=(fS e i r d l a).length) :
  (bH (ae ((fS e i r d l a).take j))).code=if j=(fS e i r d l a).length then 2 else if j+1=(fS e i r d l a).length then 1 else 0:=by
 rw[(vx _).1,Bw e i r d l a h ha j hj];have:=nc e i r d l a h ha j (by rw[ig] at hj;omega);unfold fS;rw[this];have hl:=ig e i r d l a;unfold fS at hl;rw[hl];by_cases h1:j=(M.fP (ab e i r d l)).length+10
 .rw[zc h1,zc h1]
 .rw[zb h1,zb h1];by_cases h2:j=(M.fP (ab e i r d l)).length+9
  .rw[zc h2,zc om]
  .rw[zb h2,zb om]
end Go.Proofs.YtnfmjckkibdcaaaGreatDoor
