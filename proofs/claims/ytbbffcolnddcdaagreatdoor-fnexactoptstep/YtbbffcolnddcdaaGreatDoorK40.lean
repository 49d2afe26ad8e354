import Derived.Deep.DeepCutAuto
import Derived.Test.YtbbffcolnddcdaaGreatDoorK39
import Derived.Test.YtbbffcolnddcdaaGreatDoorK15
import Derived.Deep.RegionWith
import Derived.Deep.RegionHeld3
import Derived.Test.YtbbffcolnddcdaaGreatDoorProg
import Derived.WalkKit
import Derived.WalkSpells
import Derived.WalkLawsBesides
import Derived.Deep.QuietTactic
import Derived.BigQuiet
import Derived.Lib.OthersKept
import Derived.Laws.IdiomStrings
namespace Go.Proofs.YtbbffcolnddcdaaGreatDoor
open Go.Proofs.Tryz
open Option renaming none->nn,some->sQ
set_option maxRecDepth 20000
open Go.RowKit
set_option linter.all false
set_option maxHeartbeats 16000000
open Go.Value renaming int->I,slice->sL,bool->bO,pointer->pT,agg->aG
open Go.IntKind renaming i64->J
open Go.Ending renaming returned->rT
open Go.Proofs.Tryz renaming prog->Tp
def Bc(w:World)(b g cap m n q r x:Nat)(L:Nat)(B:L<2)(G:n<=4000)
  (u:w.cell? ⟨b,0,nn⟩=sQ (I J (n:Int))) (c1:w.cell? ⟨b,1,nn⟩=sQ (sL (be g) m cap)) (c2:w.cell? ⟨b,2,nn⟩=sQ (bO true))
  (A:w.frozen? ⟨b,0,nn⟩=false) (E:¬b=g)
  (v:(n:Int).tdiv 64=(q:Int)) (y:(n:Int).tmod 64=(r:Int)) (M:((r:Int)==0)=false) (N:r<64) (H:q<m) (K:q<=1000) (C:w.cell? ⟨g,q,nn⟩=sQ (I .u64 (x:Int))) (D:w.frozen? ⟨g,q,nn⟩=false)
  (Q R:World->Prop) (a:Bool)
  (h:∀X,X=((w.setCell ⟨g,q,nn⟩ (I .u64 (bits BinOp.or IntKind.u64 (x:Int) (IntKind.u64.wrap ((L:Int)*2 ^ (63-r)))))).setCell ⟨b,0,nn⟩ (I J ((n:Int)+1))).drew->ce 292 #[pT (sQ ⟨b,3,nn⟩),I .i32 (48+(L:Int))] X fun o w'=>o=rT (.tuple #[])/\Q w')
  (f:∀X,Q X->ce 293 #[pT (sQ ⟨b,3,nn⟩)] X fun o w'=>o=rT (bO a)/\w'=X)
  (i:a=true->∀X,Q X->ce 271 #[ap b,I J (1-(L:Int))] X fun o w'=>o=rT (.tuple #[])/\R w') :
  ce 271 #[ap b,I J (L:Int)] w fun o w'=>o=rT (.tuple #[])/\(if a=true then R w' else Q w'):=by
 have l:=aa h;have k:=aa f;have p:=aa i;clear h f i;go_enter func271,ntmps271;go_wp2;go_region;go_wp2_with fail;refine(l.o _ rfl).mono ?_;rintro o s ⟨rfl,d⟩;have c:Hid (Q s):=d;clear d;go_wp2_with fail;refine(k.o _ c.o).mono ?_;rintro o O ⟨rfl,rfl⟩;cases a
 .go_wp2_with fail;go_end0;exact⟨rfl,c.o⟩
 .go_wp2_with fail;refine(p.o (by trivial) _ c.o).mono ?_;rintro o t ⟨rfl,e⟩;have j:Hid (R t):=e;clear e;go_wp2_with fail;go_end0;exact⟨rfl,j.o⟩
def Bb(w:World)(b n q:Nat)(v:Value)(l:List Nat)(L:Nat)(hL:L<2)(hn:n<=4000)(D:l.length=q)(a0:b<w.heap.size)(own:ab w (b+1) v l)
  (s:w.cell? ⟨b,0,nn⟩=sQ (I J (n:Int))) (c1:w.cell? ⟨b,1,nn⟩=sQ v) (c2:w.cell? ⟨b,2,nn⟩=sQ (bO true))
  (t:w.frozen? ⟨b,0,nn⟩=false) (u:w.frozen? ⟨b,1,nn⟩=false)
  (e3:(n:Int).tdiv 64=(q:Int)) (e4:(n:Int).tmod 64=0) (a4:q<=1000)
  (Q R:World->Prop) (f:Bool)
  (B:∀a g d,ab a (b+1) (sL (be g) (q+1) d) (l++[0])->Below (b+1) w a->Lib.OthersKept 108 nn w a->∀X,X=(((a.setCell ⟨b,1,nn⟩ (sL (be g) (q+1) d)).setCell ⟨g,q,nn⟩ (I .u64 (bits BinOp.or IntKind.u64 0 ((L:Int)*9223372036854775808)))).setCell ⟨b,0,nn⟩ (I J ((n:Int)+1))).drew->ce 292 #[pT (sQ ⟨b,3,nn⟩),I .i32 (48+(L:Int))] X fun o w'=>o=rT (.tuple #[])/\Q w')
  (A:∀X,Q X->ce 293 #[pT (sQ ⟨b,3,nn⟩)] X fun o w'=>o=rT (bO f)/\w'=X)
  (G:f=true->∀X,Q X->ce 271 #[ap b,I J (1-(L:Int))] X fun o w'=>o=rT (.tuple #[])/\R w') :
  ce 271 #[ap b,I J (L:Int)] w fun o w'=>o=rT (.tuple #[])/\(if f=true then R w' else Q w'):=by
 have N:Hid (ab w (b+1) v l):=own;have j:Hid (l.length=q):=D;have M:=aa B;have K:=aa A;have O:=aa G;clear own D B A G;go_enter func271,ntmps271;go_wp2_with(at_builtin;refine oG w w rfl (.tmp 14) (.tmp 15) rfl (b+1) _ l 0 _ rfl rfl N.o rfl (by have:=j.o;omega) om (bW _ _) ?_);intro v1 a r c C a5;obtain⟨g,d,e,a1,a3,S,P,h⟩:=r.open pQ;have E:(l++[0]).length=q+1:=by simp[j.o]
 rw[E]at e S h;subst e;have hc:a.cell? ⟨g,q,nn⟩=sQ (I .u64 0):=by
  rw[h.cell q om];have:=j.o;subst this;simp[List.getD]
 have hf:=h.free q om;have W:=(c.cell (p:=⟨b,0,nn⟩) pQ).trans s;have Z:=(c.cell (p:=⟨b,2,nn⟩) pQ).trans c2;have Y:=(c.cell (p:=⟨b,1,nn⟩) pQ).trans c1;have g0:=(c.frozen (p:=⟨b,0,nn⟩) pQ).trans t;have g1:=(c.frozen (p:=⟨b,1,nn⟩) pQ).trans u;have k:Hid (ab a (b+1) (sL (be g) (q+1) d) (l++[0])/\Below (b+1) w a/\Lib.OthersKept 108 nn w a):=⟨r,c,C⟩
 have a2:¬b=g:=om;clear r c C h E s c1 c2 t u P;go_wp2;go_region;go_wp2_with fail;refine(M.o a g d k.o.1 k.o.2.1 k.o.2.2 _ rfl).mono ?_;rintro o T ⟨rfl,x⟩;have i:Hid (Q T):=x;clear x;go_wp2_with fail;refine(K.o _ i.o).mono ?_;rintro o w4 ⟨rfl,rfl⟩;cases f
 .go_wp2_with fail;go_end0;exact⟨rfl,i.o⟩
 .go_wp2_with fail;refine(O.o (by trivial) _ i.o).mono ?_;rintro o U ⟨rfl,y⟩;have H:Hid (R U):=y;clear y;go_wp2_with fail;go_end0;exact⟨rfl,H.o⟩
section
variable{o:List Nat}{w w0 w1:World}{b L c g cp:Nat}{r:Nat × Nat}{st:Bool}
def vm(o:List Nat)(q:Nat)(h:q<(wl o).length):(wl o)[q]=wq (ag o) o.length q:=rx (ag o) o.length q h
def At(h:L<2):M.isL (48+L):=by unfold M.isL;omega
def iE(ho:∀x∈o,M.isL x)(d:M.isL c):∀x∈o++[c],M.isL x:=by
 intro x a;rw[qw]at a;rcases a with a|a
 .exact ho x a
 .simp at a;subst a;exact d
def DF(h:bwS w0 b o st r w)(ho:∀x∈o,M.isL x)(a:L<2)(s:o.length%64=0)
  (h1:ab w1 (b+1) (sL (be g) (o.length / 64+1) cp) (wl o++[0])) (d:Below (b+1) w w1) (l:Lib.OthersKept 108 nn w w1) {X:World}
  (e:X=(((w1.setCell ⟨b,1,nn⟩ (sL (be g) (o.length / 64+1) cp)).setCell ⟨g,o.length / 64,nn⟩ (I .u64 (bits BinOp.or IntKind.u64 0 ((L:Int)*9223372036854775808)))).setCell ⟨b,0,nn⟩ (I J ((o.length:Int)+1))).drew) :
  bwS w0 b (o++[48+L]) st r X/\Lib.OthersKept 108 (sQ b) w X:=by
 subst e;obtain⟨⟨v,j,own⟩,i⟩:=h;have t:=(Qm h1 g (by simp[Value.ownBlock])).1;have p:=Aq (b:=b) (q:=o.length / 64) (n:=o.length) l (h1.kind g (by simp[Value.ownBlock])) om (X:=bits BinOp.or IntKind.u64 0 ((L:Int)*9223372036854775808)) (v:=sL (be g) (o.length / 64+1) cp);have f:(wl o++[0]).length=o.length / 64+1:=by simp[cD];omega
 have k:=(d.block b om).trans j;have e:=D0 o (48+L) ho (At a) s;rw[show 48+L-48=L by omega]at e;rw[<- f]at h1;have:=C0 (w0:=w0) (q:=o.length / 64) (EU L a) k h1 om (i.trans (d.mono om)) om e;rw[f]at this;refine⟨⟨⟨_,?_,this.2.1⟩,this.2.2⟩,p⟩;rw[QX];exact this.1
def DG(i:w.heap[b]?=sQ (.cells #[I J (o.length:Int),sL (be g) (wl o).length cp,bO st,I .i32 (r.1:Int),I J (r.2:Int)] 261))(own:ab w (b+1) (sL (be g) (wl o).length cp) (wl o))(h:Below b w0 w)(k:b+1<=g)(ho:∀x∈o,M.isL x)(d:L<2)(j:¬o.length%64=0){X:World}
  (a:X=((w.setCell ⟨g,o.length / 64,nn⟩ (I .u64 (bits BinOp.or IntKind.u64 (wq (ag o) o.length (o.length / 64):Int) (IntKind.u64.wrap ((L:Int)*2 ^ (63-o.length%64)))))).setCell ⟨b,0,nn⟩ (I J ((o.length:Int)+1))).drew) :
  bwS w0 b (o++[48+L]) st r X/\Lib.OthersKept 108 (sQ b) w X:=by
 have hd:wq (ag o) o.length (o.length / 64)%2 ^ (64-o.length%64)=0:=by
  have:=DV (ag o) (o.length / 64) (o.length%64) om;rw[show 64*(o.length / 64)+o.length%64=o.length by omega]at this;exact this
 have e:=D1 o (48+L) ho (At d) j;rw[show 48+L-48=L by omega]at e;rw[Ez _ _ _ d om (Dk (ag o) o.length (o.length / 64)) hd]at a;subst a;refine⟨⟨⟨sL (be g) (wl o).length cp,?_,?_⟩,?_⟩,?_⟩
 .show ((w.setCell ⟨g,o.length / 64,nn⟩ _).setCell ⟨b,0,nn⟩ _).heap[b]?=_;have f:=(Ql w ⟨g,o.length / 64,nn⟩ b (I .u64 ((wq (ag o) o.length (o.length / 64)+L*2 ^ (63-o.length%64):Nat):Int)) (by show b≠g;omega)).trans i;rw[QA _ b 0 _ _ (I J ((o.length:Int)+1)) f,QX];simp
 .rw[e];exact((own.stored (o.length / 64) (wq (ag o) o.length (o.length / 64)+L*2 ^ (63-o.length%64))).setCellO b 0 (I J ((o.length:Int)+1)) om).otherBlock fun _ _=>rfl
 .exact ((h.setCell (p:=⟨g,o.length / 64,nn⟩) (by simp;omega) _).setCell (p:=⟨b,0,nn⟩) pQ _).drew
 .exact ((oe (QG 108 (sQ b) w) (own.kind g (by simp[Value.ownBlock])) _ _).setCell ⟨b,0,nn⟩ rfl _).drew
def idx(n:Nat):(n:Int).tdiv 64=((n / 64:Nat):Int)/\(n:Int).tmod 64=((n%64:Nat):Int):=by
 refine⟨?_,?_⟩
 .rw[zc om];omega
 .rw[QZ om];omega
def bwS.bitF(h:bwS w0 b o false r w)(ho:∀x∈o,M.isL x)(a:L<2)(s:o.length<=4000):ce 271 #[ap b,I J (L:Int)] w fun j w'=>j=rT (.tuple #[])/\bwS w0 b (o++[48+L]) false r w'/\Lib.OthersKept 108 (sQ b) w w':=by
 have u:=h;obtain⟨⟨v,p,own⟩,A⟩:=u;obtain⟨⟨k,c1,c2,c3,c4⟩,f,B⟩:=bw5 p;obtain⟨l,n⟩:=idx o.length;by_cases i:o.length%64=0
 .refine (C7 w b o.length (o.length / 64) v (wl o) L a s (by rw[cD];omega) B own k c1 c2 (f 0) (f 1) l (by rw[n,i];rfl) om).mono ?_;rintro j w' ⟨w1,g,cp,h1,y,E,rfl,e⟩;exact⟨rfl,DF h ho a i h1 y E e⟩
 .have hne:wl o≠[]:=by intro e;have:=cD o;rw[e]at this;simp at this;omega
  obtain⟨g,cp,rfl,D,K,H,G,t⟩:=own.open hne;have N:=cD o;have d:o.length / 64<(wl o).length:=om;have C:w.cell? ⟨g,o.length / 64,nn⟩=sQ (I .u64 (wq (ag o) o.length (o.length / 64):Int)):=by
   rw[t.cell _ d,eK _ _ d,vm]
  refine(C8 w b g cp (wl o).length o.length (o.length / 64) (o.length%64) (wq (ag o) o.length (o.length / 64)) L a s k c1 c2 (f 0) om l n (by simp;omega) om d om C (t.free _ d)).mono ?_;rintro j w' ⟨rfl,e⟩;exact⟨rfl,DG p own A D ho a i e⟩
def bwS.hear{X:World}(h:bwS w0 b o true r X)(s:Lib.OthersKept 108 (sQ b) w X)(l:c<=49)(i:r.1<=49)(u:r.2<=100000):ce 292 #[pT (sQ ⟨b,3,nn⟩),I .i32 (c:Int)] X fun d w'=>d=rT (.tuple #[])/\bwS w0 b o true (M.ij r c) w'/\Lib.OthersKept 108 (sQ b) w w':=by
 obtain⟨⟨v,p,own⟩,j⟩:=h;refine(CB X b _ _ _ r.1 r.2 c l i u p).mono ?_;rintro d w' ⟨rfl,h1,a,f⟩;refine⟨rfl,⟨⟨v,h1,own.otherBlock fun g n=>a g ?_⟩,j.trans f⟩,?_⟩
 .have:=(Qm own g n).1;omega
 .intro k ob hk1 hk2 hk3;have t:k≠b:=fun e=>hk2 (by rw[e]);rw[a k t];exact s k ob hk1 hk2 hk3
def bwS.bitT(h:bwS w0 b o true r w)(ho:∀x∈o,M.isL x)(a:L<2)(B:o.length<=4000)(u:r.1<=49)(C:r.2<=100000)(R:World->Prop)
  (Q:(M.ij r (48+L)).2=5->∀X,bwS w0 b (o++[48+L]) true (M.ij r (48+L)) X/\Lib.OthersKept 108 (sQ b) w X->ce 271 #[ap b,I J (1-(L:Int))] X fun o w'=>o=rT (.tuple #[])/\R w') :
  ce 271 #[ap b,I J (L:Int)] w fun S w'=>S=rT (.tuple #[])/\(if decide ((M.ij r (48+L)).2=5)=true then R w' else bwS w0 b (o++[48+L]) true (M.ij r (48+L)) w'/\Lib.OthersKept 108 (sQ b) w w'):=by
 have G:=h;obtain⟨⟨v,d,own⟩,y⟩:=G;obtain⟨⟨n,c1,c2,c3,c4⟩,i,K⟩:=bw5 d;obtain⟨p,s⟩:=idx o.length;have A:∀X,bwS w0 b (o++[48+L]) true (M.ij r (48+L)) X/\Lib.OthersKept 108 (sQ b) w X->ce 293 #[pT (sQ ⟨b,3,nn⟩)] X fun o w'=>o=rT (bO (decide ((M.ij r (48+L)).2=5)))/\w'=X:=by
  rintro X ⟨⟨⟨v,d,own⟩,y⟩,_⟩;exact CH X b _ _ _ _ _ d
 have D:decide ((M.ij r (48+L)).2=5)=true->∀X,bwS w0 b (o++[48+L]) true (M.ij r (48+L)) X/\Lib.OthersKept 108 (sQ b) w X->ce 271 #[ap b,I J (1-(L:Int))] X fun o w'=>o=rT (.tuple #[])/\R w':=fun e=>Q (qJ e);have t:(48+(L:Int))=((48+L:Nat):Int):=om;by_cases j:o.length%64=0
 .refine Bb w b o.length (o.length / 64) v (wl o) L a B (by rw[cD];omega) K own n c1 c2 (i 0) (i 1) p (by rw[s,j];rfl) om _ R _ (fun w1 g cp h1 H P X e=>?_) A D;obtain⟨k,l⟩:=DF h ho a j h1 H P e;rw[t];exact k.hear l om u C
 .have hne:wl o≠[]:=by intro e;have:=cD o;rw[e]at this;simp at this;omega
  obtain⟨g,cp,rfl,O,W,U,T,E⟩:=own.open hne;have Y:=cD o;have f:o.length / 64<(wl o).length:=om;have N:w.cell? ⟨g,o.length / 64,nn⟩=sQ (I .u64 (wq (ag o) o.length (o.length / 64):Int)):=by
   rw[E.cell _ f,eK _ _ f,vm]
  refine Bc w b g cp (wl o).length o.length (o.length / 64) (o.length%64) (wq (ag o) o.length (o.length / 64)) L a B n c1 c2 (i 0) om p s (by simp;omega) om f om N (E.free _ f) _ R _ (fun X e=>?_) A D;obtain⟨k,l⟩:=DG d own y O ho a j e;rw[t];exact k.hear l om u C
def jK(st:Bool)(o:List Nat)(c:Nat):List Nat:=if st=true then M.lD o c else o++[c]
def gh(st:Bool)(o:List Nat)(r:Nat × Nat):Nat × Nat:=if st=true then M.ga o else r
def zI{w2:World}(h1:Lib.OthersKept 108 (sQ b) w w1)(h2:Lib.OthersKept 108 (sQ b) w1 w2):Lib.OthersKept 108 (sQ b) w w2:=fun k ob a1 a2 a3=>h2 k ob (h1 k ob a1 a2 a3) a2 a3
def tB(o:List Nat)(ho:∀x∈o,M.isL x):(M.ga o).1<=49:=by
 by_cases h:o=[]
 .subst h;decide
 .obtain⟨l,a,rfl⟩:=M.tN o h;rw[M.dV,M.sN];have:=ho a pQ;unfold M.isL at this;omega
def bwS.bit(h:bwS w0 b o st (gh st o r) w)(ho:∀x∈o,M.isL x)(e:L<2)(A:o.length<=3998)(k:st=true->(M.ga o).2<=4):ce 271 #[ap b,I J (L:Int)] w fun i w'=>i=rT (.tuple #[])/\bwS w0 b (jK st o (48+L)) st (gh st (jK st o (48+L)) r) w'/\Lib.OthersKept 108 (sQ b) w w':=by
 cases st
 .exact h.bitF ho e om
 .have h:bwS w0 b o true (M.ga o) w:=h;have u:=tB o ho;have k:=k rfl;refine(h.bitT ho e om u om (fun W=>bwS w0 b (o++[48+L]++[48+(1-L)]) true (M.ga (o++[48+L]++[48+(1-L)])) W/\Lib.OthersKept 108 (sQ b) w W) (fun d X f=>?_)).mono ?_
  .obtain⟨f,hk⟩:=f;have p:(1-(L:Int))=((1-L:Nat):Int):=om;have v:=iE ho (At e);have j:M.ij (M.ga o) (48+L)=M.ga (o++[48+L]):=(M.dV _ _).symm;have s:M.ij (M.ij (M.ga o) (48+L)) (48+(1-L))=M.ga (o++[48+L]++[48+(1-L)]):=by rw[M.dV,M.dV]
   have hne:(M.ij (M.ij (M.ga o) (48+L)) (48+(1-L))).2=1:=by
    have l:=M.sN (M.ga o) (48+L);generalize M.ij (M.ga o) (48+L)=z at*;obtain⟨n,y⟩:=z;have l:n=48+L:=l;rw[M.fH n y _ om]
   rw[p];refine(f.bitT v om (by simp;omega) (by rw[M.sN];omega) om (fun _=>False) (fun t=>by rw[hne]at t;omega)).mono ?_;rintro i w' ⟨rfl,a⟩;rw[QV (by rw[hne];decide),s]at a;exact⟨rfl,a.1,zI hk a.2⟩
  .rintro i w' ⟨rfl,a⟩;refine⟨rfl,?_⟩;have j:M.ij (M.ga o) (48+L)=M.ga (o++[48+L]):=(M.dV _ _).symm;rw[j]at a;unfold jK gh M.lD;rw[QW rfl,QW rfl,show 97-(48+L)=48+(1-L)by omega];by_cases d:(M.ga (o++[48+L])).2=5
   .rw[QW (by simpa using d)]at a;rw[QW d];exact a
   .rw[QV (by simpa using d)]at a;rw[QV d];exact a
end
section
variable{st:Bool}{o:List Nat}
def aH(st:Bool)(o l:List Nat):List Nat:=l.foldl (jK st) o
def uM(st:Bool)(o l:List Nat)(c:Nat):aH st o (l++[c])=jK st (aH st o l) c:=by simp[aH]
def eO(st:Bool)(o l m:List Nat):aH st o (l++m)=aH st (aH st o l) m:=by simp[aH]
def kJ(o l:List Nat):aH false o l=o++l:=by
 induction l generalizing o with
 |nil=>simp[aH]
 |cons a l ih=>show aH false (jK false o a) l=_;rw[ih];simp[jK]
def uL(l:List Nat):aH true [] l=M.fV l:=by
 unfold aH M.fV;congr 1
structure good(st:Bool)(o:List Nat):Prop where
 l:∀x∈o,M.isL x
 r:st=true->(M.ga o).2<=4
def good.nil(st:Bool):good st []:=⟨(fun x hx=>by cases hx),fun _=>by decide⟩
def good.feed{c:Nat}(h:good st o)(a:M.isL c):good st (jK st o c)/\(jK st o c).length<=o.length+2:=by
 cases st
 .refine⟨⟨iE h.l a,fun e=>by cases e⟩,?_⟩;simp[Go.Proofs.YtbbffcolnddcdaaGreatDoor.jK]
 .have h4:=h.r rfl;show good true (M.lD o c)/\(M.lD o c).length<=_;unfold M.lD;have i:=M.fT (M.ga o) c;have d:=M.vQ a;split
  .refine⟨⟨iE (iE h.l a) d.1,fun _=>?_⟩,pQ⟩;rw[M.dV,M.dV];have b:=M.sN (M.ga o) c;generalize M.ij (M.ga o) c=z at*;obtain⟨f,g⟩:=z;have b:f=c:=b;rw[M.fH f g _ (by rw[b];exact d.2)];show 1<=4;decide
  .rename_i hne;refine⟨⟨iE h.l a,fun _=>?_⟩,pQ⟩;rw[M.dV]at hne ⊢;omega
def good.feedL(h:good st o):∀l,(∀x∈l,M.isL x)->good st (aH st o l)/\(aH st o l).length<=o.length+2*l.length:=by
 intro l;induction l generalizing o with
 |nil=>intro _;exact⟨h,by simp[Go.Proofs.YtbbffcolnddcdaaGreatDoor.aH]⟩
 |cons a l ih=>
  intro c;have h1:=h.feed (c a pQ);have b:=ih h1.1 (fun x d=>c x (by simp[d]));refine⟨b.1,?_⟩;have:(Go.Proofs.YtbbffcolnddcdaaGreatDoor.aH st o (a::l)).length<=(Go.Proofs.YtbbffcolnddcdaaGreatDoor.jK st o a).length+2*l.length:=b.2;simp only[qV];omega
def Hg(x d:Nat)(a:x<18446744073709551616):wrap64 (bits BinOp.and IntKind.u64 ((x:Int) / 2 ^ d) 1)=((x / 2 ^ d%2:Nat):Int):=by
 have e:(x:Int) / 2 ^ d=((x / 2 ^ d:Nat):Int):=by push_cast;rfl
 have hy:x / 2 ^ d<18446744073709551616:=zb (Nat.div_le_self _ _) a;rw[e];generalize x / 2 ^ d=y at*;have:=u64_and_nat y 1 hy (by decide);rw[show((1:Nat):Int)=1 from rfl]at this;rw[this,Nat.and_two_pow_sub_one_eq_mod (n:=1)];unfold wrap64;omega
def xl(v c m:Nat)(h:m<c):M.num (v / 2 ^ m) (c-m)=M.num (v / 2 ^ (m+1)) (c-(m+1))++[48+v / 2 ^ m%2]:=by
 have e:v / 2 ^ m / 2=v / 2 ^ (m+1):=by
  rw[qS,<- qC]
 have a:c-m=(c-(m+1))+1:=om;rw[a,M.num,e]
def bwS.bits{w0 w:World}{b:Nat}{r:Nat × Nat}(h:bwS w0 b o st (gh st o r) w)(s:good st o)(v c:Nat)(C:v<18446744073709551616)(D:c<=64)(E:o.length+2*c<=3990):ce 255 #[ap b,I .u64 (v:Int),I J (c:Int)] w fun f w'=>f=rT (.tuple #[])/\bwS w0 b (aH st o (M.num v c)) st (gh st (aH st o (M.num v c)) r) w'/\Lib.OthersKept 108 (some b) w w':=by
 have x:=aa s;have u:=aa h;clear h s;go_enter func255,ntmps255;go_wp2;go_loopw [6] (fun i wr=>∃q:Nat,q<=c/\i=I J ((q:Int)-1)/\bwS w0 b (aH st o (M.num (v / 2 ^ q) (c-q))) st (gh st (aH st o (M.num (v / 2 ^ q) (c-q))) r) wr/\Lib.OthersKept 108 (some b) w wr) (fun i _=>(intOf i+1).toNat);case atStart=>exact⟨c,nR _,rfl,by simpa[M.num,aH]using u.o,QG _ _ _⟩
 case round=>
  obtain⟨q,G,rfl,a,e⟩:=hrel;by_cases B:q=0
  .subst B;rw[Nat.sub_zero,Nat.pow_zero,Nat.div_one]at a;have A:=aa a;have g:=aa e;clear a e;go_wp2;go_end0;exact⟨rfl,A.o,g.o⟩
  .obtain⟨m,rfl⟩:∃m,q=m+1:=⟨q-1,om⟩
   have d:=x.o.feedL (M.num (v / 2 ^ (m+1)) (c-(m+1))) (M.Hr _ _);rw[M.EI]at d;have y:Hid (aH st o (M.num (v / 2 ^ m) (c-m))=jK st (aH st o (M.num (v / 2 ^ (m+1)) (c-(m+1)))) (48+v / 2 ^ m%2)):=by
    show _=_;rw[xl v c m om,uM]
   generalize aH st o (M.num (v / 2 ^ (m+1)) (c-(m+1)))=t at*;have p:=Hg v m C;have k:Hid (ce 271 #[ap b,I J (wrap64 (Go.bits BinOp.and IntKind.u64 ((v:Int) / 2 ^ m) 1))] wr fun f w'=>f=rT (.tuple #[])/\bwS w0 b (jK st t (48+v / 2 ^ m%2)) st (gh st (jK st t (48+v / 2 ^ m%2)) r) w'/\Lib.OthersKept 108 (some b) wr w'):=by
    show Calls _ _ _ _ _;rw[p];exact a.bit d.1.l om om d.1.r
   have g:=aa e;clear a e d p;go_wp2_with(go_at_call 271;refine k.o.mono ?_;rintro f H ⟨rfl,n,k3⟩);have j:=aa (qB n k3);clear n k3 k;go_wp2_with fail;go_roundw;case rel=>exact⟨m,om,by go_num,by rw[y.o];exact j.o.1,zI g.o j.o.2⟩
   case measure=>simp[intOf]
end
def dw(l:List Nat):Nat:=l.foldl (fun v x=>256*v+x) 0
def jr(l:List Nat)(x:Nat):dw (l++[x])=256*dw l+x:=by simp[dw]
def tb(l:List Nat)(h:∀x∈l,x<256):dw l<256 ^ l.length:=by
 refine M.jz (P:=fun l=>(∀x∈l,x<256)->dw l<256 ^ l.length) ?_ ?_ l h
 .intro _;decide
 .intro l a ih h;have h1:=ih (fun x b=>h x (by simp[b]));have c:=h a pQ;rw[jr,QX,Q1,qC];omega
def vJ(n:Nat):∀v,M.num v n=M.num (v%2 ^ n) n:=by
 induction n with
 |zero=>intro v;rfl
 |succ n ih=>
  intro v;have a:v%2 ^ (n+1) / 2=v / 2%2 ^ n:=by
   rw[qC,Qd,Nat.mod_mul_right_div_self]
  have b:v%2 ^ (n+1)%2=v%2:=Nat.mod_mod_of_dvd _ ⟨2 ^ n,by rw[qC,Qd]⟩;show M.num (v / 2) n++[48+v%2]=M.num (v%2 ^ (n+1) / 2) n++[48+v%2 ^ (n+1)%2];rw[a,b,<- ih]
def zU(l:List Nat)(h:∀x∈l,x<256):M.num (dw l) (8*l.length)=l.flatMap (fun x=>M.num x 8):=by
 refine M.jz (P:=fun l=>(∀x∈l,x<256)->M.num (dw l) (8*l.length)=l.flatMap (fun x=>M.num x 8)) ?_ ?_ l h
 .intro _;rfl
 .intro l a ih h;have h1:=ih (fun x b=>h x (by simp[b]));have c:=h a pQ;rw[jr,QX,Q1,show 8*(l.length+1)=8*l.length+8 by omega,M.FP];rw[List.flatMap_append,<- h1,show(256*dw l+a) / 2 ^ 8=dw l by omega,vJ 8 (256*dw l+a),show(256*dw l+a)%2 ^ 8=a by omega];simp
def si(n:Nat)(h:n<=64):M.num 18446744073709551615 n=List.replicate n 49:=by
 have e:∀n,M.num (2 ^ n-1) n=List.replicate n 49:=by
  intro n;induction n with
  |zero=>rfl
  |succ n ih=>
   have b:0<2 ^ n:=qR pQ;show M.num ((2 ^ (n+1)-1) / 2) n++[48+(2 ^ (n+1)-1)%2]=_;rw[show(2 ^ (n+1)-1) / 2=2 ^ n-1 by rw[qC];omega,show(2 ^ (n+1)-1)%2=1 by rw[qC];omega,ih,List.replicate_succ']
 rw[vJ n,<- e n];congr 1;have hd:2 ^ n ∣ 2 ^ 64:=Nat.pow_dvd_pow 2 h;obtain⟨k,a⟩:=hd;have b:0<2 ^ n:=qR pQ;have d:0<k:=by
  rcases Nat.eq_zero_or_pos k with h0|h0
  .rw[h0]at a;simp at a
  .exact h0
 have:18446744073709551615=2 ^ n*(k-1)+(2 ^ n-1):=by
  have c:(18446744073709551616:Nat)=2 ^ n*k:=a;have:2 ^ n*k=2 ^ n*(k-1)+2 ^ n:=by
   obtain⟨j,rfl⟩:∃j,k=j+1:=⟨k-1,om⟩
   rw[Nat.mul_succ];rfl
  omega
 rw[this,Nat.mul_add_mod,zi om]
def GU(f:Bool)(w:World):ce 246 #[bO f] w fun o w'=>o=rT (I .u64 (f.toNat:Int))/\w'=w:=by
 cases f
 .go_enter func246,ntmps246;go_wp2;go_ret;exact⟨rfl,rfl⟩
 .go_enter func246,ntmps246;go_wp2;go_ret;exact⟨rfl,rfl⟩
def BS(v x:Nat)(a:v<72057594037927936)(b:x<256):bits BinOp.or IntKind.u64 ((v:Int)*256) (x:Int)=((256*v+x:Nat):Int):=by
 have e:(v:Int)*256=((2 ^ 8*v:Nat):Int):=om;rw[e,u64_or_nat _ _ om om,<- qY (i:=8) om]
def GY(w:World)(a:Option Addr)(n cap:Nat)(l:List Nat)(h:iB w a n cap l)(E:n<=8):ce 272 #[sL a n cap] w fun o w'=>o=rT (I .u64 (dw l:Int))/\w'=w:=by
 have b:=h.len;by_cases c:l=[]
 .subst c;have y:n=0:=b;subst y;clear h b;go_enter func272,ntmps272;go_wp2;go_loopw [3,8] (fun v i wr=>v=I .u64 0/\i=I J 0/\wr=w) (fun _ _ _=>0);case atStart=>exact⟨rfl,rfl,rfl⟩
  case round=>
   obtain⟨rfl,rfl,rfl⟩:=hrel;go_wp2;go_ret;exact⟨rfl,rfl⟩
 .obtain⟨g,off,rfl,hc⟩:=h.cells c;have p:=h.small;have f:Hid (n=l.length):=b;have r:=aa hc;have B:g<w.heap.size:=Qn w _ (hc 0 (by have:=List.length_pos_iff.2 c;omega));clear b h hc;go_enter func272,ntmps272;go_wp2;go_loopw [3,8] (fun v i wr=>∃k:Nat,k<=n/\i=I J (k:Int)/\v=I .u64 (dw (l.take k):Int)/\wr=w) (fun _ i _=>((n:Int)-intOf i).toNat);case atStart=>exact⟨0,om,rfl,rfl,rfl⟩
  case round=>
   obtain⟨k,C,rfl,rfl,rfl⟩:=hrel;by_cases j:k=n
   .subst j;have e:l.take k=l:=QY (by have:=f.o;omega);rw[e];go_wp2;go_ret;exact⟨rfl,rfl⟩
   .have hkl:k<l.length:=by have:=f.o;omega
    have A:=r.o k hkl;have d:=p _ (ql hkl);have hd:=tb (l.take k) (fun x d=>p x (qF d));rw[List.length_take_of_le om]at hd;have u:dw (l.take k)<72057594037927936:=nL hd (nT (qq (by decide) (show k<=7 by omega)) (by decide));have s:Hid (dw (l.take (k+1))=256*dw (l.take k)+l[k]):=by
     show _=_;rw[qe hkl,jr]
    have t:Hid (bits BinOp.or IntKind.u64 ((dw (l.take k):Int)*256) (l[k]:Int)=((256*dw (l.take k)+l[k]:Nat):Int)):=BS _ _ u d;have D:k<n:=om;clear hd j;generalize l[k]=x at*;generalize dw (l.take k)=V at*;go_wp2;go_roundw;case rel=>
     refine⟨k+1,om,by go_num,?_,by trivial⟩;rw[s.o,<- t.o]
    case measure=>simp[intOf];omega
def jc(f:Nat)(e:Bool)(i:Nat)(r:Bool)(d:Nat)(l:List Nat)(sum:Nat):Nat:=
 if f=2 then(if e=true then i / 2 ^ 18 else i)else if f=3 then(r||e).toNat else if f=4 then e.toNat else if f=5 then i else if f=6 then r.toNat
 else if f=8 then d else if f=9 then dw l else if f=10 then sum else if f=11\/f=12\/f=13\/f=14 then 18446744073709551615 else 0
def fvN(w:World)(f:Nat)(h1:1<=f)(g:f<=14)(e:Bool)(i:Nat)(r:Bool)(d:Nat)(a:Option Addr)(n cap:Nat)(l:List Nat)(b:Nat)(h:iB w a n cap l)(hi:i<4294967296)(hd:d<=15)(k:n<=8)(hs:b<32768):ce 256 #[I J (f:Int),frV e i r (d:Int) a n cap,I J (b:Int)] w fun o w'=>o=rT (I .u64 (jc f e i r d l b:Int))/\Bl w w':=by
 have c:=aa h;have j:f=1\/f=2\/f=3\/f=4\/f=5\/f=6\/f=7\/f=8\/f=9\/f=10\/f=11\/f=12\/f=13\/f=14:=om;clear h h1 g;rcases j with rfl|rfl|rfl|rfl|rfl|rfl|rfl|rfl|rfl|rfl|rfl|rfl|rfl|rfl
 all_goals
  simp only[Int.cast_ofNat_Int];cases e<;>cases r;all_goals
   go_enter func256,ntmps256;go_wp2_with(first|(go_at_call 246;refine(GU _ _).mono ?_;rintro o p ⟨rfl,rfl⟩)|(go_at_call 272;refine(GY _ a n cap l (c.o.below Zw) k).mono ?_;rintro o p ⟨rfl,rfl⟩));all_goals(go_ret;refine⟨?_,Zw⟩;simp[jc])
def bQ(f:Nat)(e r:Bool)(d:Nat):Nat:=if f=2 then 11 else if f=5 then 18 else if f=7 then(if e=true then 2 else 1)else if f=8 then 4 else if f=9 then 8*dlN r d else if f=10 then 15 else if f=14 then 7 else 1
def bK(f:Nat)(e r:Bool)(d:Nat):Nat:=if f=4/\e=false then 7 else if f=8/\(r=true\/d=0)then 10 else f+1
def Ib(w:World)(g:w.rangeAt 0 0 cQ)(h:0<w.heap.size)(f:Nat)(h1:1<=f)(j:f<=14)(e:Bool)(i:Nat)(r:Bool)(d:Nat)(hd:d<=15)(a:Option Addr)(n cap:Nat):ce 235 #[I J (f:Int),frV e i r (d:Int) a n cap] w fun o w'=>o=rT (aG #[I J (f:Int),I J (bQ f e r d:Int),I J (bK f e r d:Int)])/\Bl w w':=by
 have hs:rsz (f:Int) e r (d:Int)=(bQ f e r d:Int)/\ax (f:Int) e r (d:Int)=(bK f e r d:Int):=by
  have:f=1\/f=2\/f=3\/f=4\/f=5\/f=6\/f=7\/f=8\/f=9\/f=10\/f=11\/f=12\/f=13\/f=14:=om;rcases this with rfl|rfl|rfl|rfl|rfl|rfl|rfl|rfl|rfl|rfl|rfl|rfl|rfl|rfl<;>refine⟨?_,?_⟩<;>simp[rsz,aS,dL,ax,bQ,bK,dlN]<;>cases e<;>cases r<;>simp<;>first|omega|(split<;>simp_all<;>omega)
 rw[<- hs.1,<- hs.2];have b:(0:Int)<=(d:Int):=om;have c:(d:Int)<=15:=om;exact iN w g h _ om om e i r d b c a n cap
def iT(nx:Nat->Nat)(bt:Nat->List Nat):Nat->Nat->Nat->List (Nat × List Nat)
 |0,_,_=>[]
 |k+1,f,t=>if f=t then[]else(f,bt f)::iT nx bt k (nx f) t
def cG(e:Bool)(i:Nat)(r:Bool)(d:Nat)(l:List Nat)(sum f:Nat):List Nat:=M.num (jc f e i r d l sum) (bQ f e r d)
def lay(e:Bool)(i:Nat)(r:Bool)(d:Nat)(l:List Nat)(sum f t:Nat):List (Nat × List Nat):=iT (fun f=>bK f e r d) (cG e i r d l sum) 16 f t
def bM(D:List (Nat × List Nat)):List Nat:=D.flatMap (·.2)
def ch(D E:List (Nat × List Nat)):bM (D++E)=bM D++bM E:=by simp[bM]
def bp(st:Bool)(o:List Nat):List (Nat × List Nat)->List (Nat × Nat × Nat)
 |[]=>[]
 |(f,b)::D=>(f,o.length,(aH st o b).length-o.length)::bp st (aH st o b) D
def kA(st:Bool)(f:Nat)(b:List Nat):∀(D:List (Nat × List Nat))(o:List Nat),bp st o (D++[(f,b)])=bp st o D++[(f,(aH st o (bM D)).length,(aH st o (bM D++b)).length-(aH st o (bM D)).length)]
 |[],o=>by simp[bp,bM,aH]
 |(g,c)::D,o=>by
  show(g,o.length,(aH st o c).length-o.length)::bp st (aH st o c) (D++[(f,b)])=_;rw[kA st f b D];have e:bM ((g,c)::D)=c++bM D:=by simp[bM]
  simp only[e,eO];rfl
def fB(st:Bool):∀(D:List (Nat × List Nat))(o:List Nat),(bp st o D).length=D.length
 |[],_=>rfl
 |(f,b)::D,o=>by show(bp st (aH st o b) D).length+1=D.length+1;rw[fB st D]
def spV(S:List (Nat × Nat × Nat)):List Value:=S.flatMap fun x=>[I J (x.1:Int),I J (x.2.1:Int),I J (x.2.2:Int)]
def tM(S T:List (Nat × Nat × Nat)):spV (S++T)=spV S++spV T:=by simp[spV]
def sr(e:Bool)(i:Nat)(r:Bool)(d:Nat)(l:List Nat)(p:Nat)(a:l.length=dlN r d)(hs:∀x∈l,x<256):bM (lay e i r d l p 1 10)=aK e i r d l:=by
 have hd:=zU l hs;have c:M.num 0 1=[48]:=rfl;have f:M.num 0 2=[48,48]:=rfl;have g:M.num 1 1=[49]:=rfl;have h:∀b:Bool,M.num b.toNat 1=[48+b.toNat]:=fun b=>by cases b<;>rfl
 by_cases h0:r=true\/d=0
 .have hl0:l=[]:=by
   have:dlN r d=0:=by unfold dlN;rcases h0 with h0|h0<;>simp[h0]
   rw[this]at a;exact List.length_eq_zero_iff.mp a
  subst hl0;cases e<;>simp[lay,iT,bK,bM,cG,bQ,jc,aK,fK,h0,c,f,g,h]
 .have h0':¬(r=true)/\¬d=0:=by simpa[not_or]using h0
  have n:r=false:=by simpa using h0'.1
  subst n;have k:dlN false d=l.length:=a.symm;have j:=h0'.2;cases e<;>simp[lay,iT,bK,bM,cG,bQ,jc,aK,fK,j,c,f,g,k,hd]
def xt(e:Bool)(i:Nat)(r:Bool)(d:Nat)(l:List Nat)(a:Nat)(b:l.length=dlN r d)(hs:∀x∈l,x<256):bM (lay e i r d l a 1 11)=aK e i r d l++M.num a 15:=by
 rw[<- sr e i r d l a b hs];by_cases h0:r=true\/d=0
 .cases e<;>simp[lay,iT,bK,bM,cG,bQ,jc,h0]
 .have h0':¬(r=true)/\¬d=0:=by simpa[not_or]using h0
  cases e<;>simp[lay,iT,bK,bM,cG,bQ,jc,h0']
def Ah(e:Bool)(i:Nat)(r:Bool)(d:Nat)(l:List Nat)(b:Nat):bM (lay e i r d l b 11 15)=List.replicate 10 49:=by
 have h1:=si 1 (by decide);have a:=si 7 (by decide);simp[lay,iT,bK,bM,cG,bQ,jc,h1,a,List.replicate]
section
variable{B b:Nat}{v:Value}{S:List (Nat × Nat × Nat)}{W w w0 W' w':World}{o:List Nat}{st:Bool}{r:Nat × Nat}
def info290:(Tp.info? 290).map (fun i=>(i.zero,i.size,i.bytes))=sQ (sQ (aG #[I J 0,I J 0,I J 0]),3,24):=kr
def bF(w:World)(B:Nat)(v:Value)(S:List (Nat × Nat × Nat)):Prop:=w.ownsRow B 290 3 v S.length (spV S)
def bF.kind(h:bF w B v S):∀g,v.ownBlock=sQ g->∃c d,w.heap[g]?=sQ (.cells c 290 d):=by
 intro g a;obtain⟨_,⟨rfl,_⟩|⟨f,cap,cur,rfl,_,e,_⟩⟩:=h
 .simp[Value.ownBlock]at a
 .simp[Value.ownBlock]at a;subst a;exact⟨cur,_,e⟩
def bF.otherBlock(h:bF w B v S)(f:∀g,v.ownBlock=sQ g->w'.heap[g]?=w.heap[g]?):bF w' B v S:=by
 obtain⟨h1,⟨a,c⟩|⟨g,cap,cur,a,c,e,d⟩⟩:=h
 .exact⟨h1,.inl ⟨a,c⟩⟩
 .refine⟨h1,.inr ⟨g,cap,cur,a,c,?_,d⟩⟩;rw[f g (by rw[a];rfl)];exact e
def Bh{f:Array Oper}{rest:List Oper}{o:Oper}{a:Act}{Q:Exit->Act->World->Prop}(w0 wr:World)(n:o.guard=nn)(s x:Operand)
  (ho:o.op= .call {callee:=.builtin .append,args:=#[s,x],argTypes:=#[234,234]})
  (B:Nat) (v:Value) (S:List (Nat × Nat × Nat)) (y:Nat × Nat × Nat) (e c1 c2:Int) (h0:e=(y.1:Int)) (h1:c1=(y.2.1:Int)) (i:c2=(y.2.2:Int)) (hs:a.eval s=v) (d:bF wr B v S)
  (A:a.eval x=sL (be wr.heap.size) 1 1) (H:S.length<=1000000) (hB:B<=wr.heap.size) (l:Below B w0 wr)
  (h:∀c w',bF w' B c (S++[y])->Below B w0 w'->Lib.OthersKept 290 nn wr w'->B<=w'.heap.size->wpList Tp f Q rest (a.put o.dst c) w') :
  wpList Tp f Q (o::rest) a (wr.alloc (.cells #[I J e,I J c1,I J c2] 290)):=by
 subst h0 h1 i;obtain⟨G,hi,C,D,E⟩:=QH info290;refine QM _ n s x 234 ho B 290 G (aG #[I J 0,I J 0,I J 0]) 3 24 underlying234 hi C D E rfl (by decide) v S.length (spV S) hs (Qx d _) ⟨wr.heap.size,0,nn⟩ 1 1 [I J (y.1:Int),I J (y.2.1:Int),I J (y.2.2:Int)] A rfl ?_ ?_ ?_ ?_ ?_ ?_
 .intro j u hj;match j,hj with
  |0,hj=>simp at hj;subst hj;simp[Addr.add]
  |1,hj=>simp at hj;subst hj;simp[Addr.add]
  |2,hj=>simp at hj;subst hj;simp[Addr.add]
 .intro u hu;simp at hu;rcases hu with rfl|rfl|rfl<;>rfl
 .unfold maxLen;omega
 .omega
 .simp;omega
 .intro c w' ho' hg _;have t:∀k,v.ownBlock=sQ k->B<=k:=fun k p=>(Qm d k p).1;refine h c w' ?_ ((l.alloc hB _).grown hg (by simp;omega) t) (((QG 290 nn wr).alloc _).grown hg ?_) (nT (by simp;omega) hg.size)
  .have e1:spV (S++[y])=spV S++[I J (y.1:Int),I J (y.2.1:Int),I J (y.2.2:Int)]:=by simp[spV]
   unfold bF;rw[e1,QX];exact ho'
  .intro g hg';exact bF.kind (B:=B) (S:=S) (Qx d _) g hg'
def bwS.below(h:bwS w0 b o st r W)(a:Bl W W'):bwS w0 b o st r W':=by
 obtain⟨⟨v,c,own⟩,e⟩:=h;have d:=(bw5 c).2.2;exact⟨⟨v,(a.block b d).trans c,own.below a⟩,e.trans (a.mono (Q5 d))⟩
def bwS.spans(h:bwS w0 b o st r W)(a:Below B W W')(hB:b<B)(k:Lib.OthersKept 290 nn W W'):bwS w0 b o st r W':=by
 obtain⟨⟨v,j,own⟩,f⟩:=h;refine⟨⟨v,(a.block b hB).trans j,own.otherBlock fun g i=>?_⟩,f.trans (a.mono (Q5 hB))⟩;obtain⟨c,n,d⟩:=own.kind g i;rw[d];exact k g _ d pQ (by intro l p e;cases e)
def bwS.since(h:bwS w0 b o st r W):bwS W b o st r W:=⟨h.row,bW _ _⟩
def bF.writer(h:bF W B v S)(hB:b<B)(f:Lib.OthersKept 108 (sQ b) W W'):bF W' B v S:=by
 refine h.otherBlock fun g d=>?_;obtain⟨c,j,a⟩:=h.kind g d;rw[a];have:=(Qm h g d).1;exact f g _ a (by intro e;simp at e;omega) (by intro i k e;cases e)
def bF.below(h:bF w B v S)(hb:Bl w w'):bF w' B v S:=
 h.otherBlock fun g hg=>hb.block g (Qm h g hg).2
end
end Go.Proofs.YtbbffcolnddcdaaGreatDoor
