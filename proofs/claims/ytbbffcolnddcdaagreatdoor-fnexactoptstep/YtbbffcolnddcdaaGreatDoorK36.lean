import Derived.Test.YtbbffcolnddcdaaGreatDoorK27
import Derived.Test.YtbbffcolnddcdaaGreatDoorK35
namespace Go.Proofs.YtbbffcolnddcdaaGreatDoor
open Go.RowKit
set_option linter.all false
open Go.Value renaming int->I,slice->sL,bool->bO,pointer->pT,agg->aG
open Go.IntKind renaming i64->J
open Go.Ending renaming returned->rT
open Go.Proofs.Tryz renaming prog->Tp
def opn(w:World)(C:Co)(M:Nat)(w':World):Prop:=∃(w0:World)(G:Lg)(nm:Nat),mx w0 M G 0 0 nm C w'/\Bl w w0/\M<w'.heap.size/\G.gb<w'.heap.size/\Bl w w'
def Gt(w:World)(C:Co)(s:Sl)(h:bj w C.ho s)(hs:eB s)(i:cH C)(f:C.ho.le 1048576):ce 80 #[aG (coL C s).toArray] w fun o w'=>∃M,o=rT (ap M)/\opn w C M w':=by
 refine(pr (R:=fun P w'=>∃(X:World)(G:Lg)(hd:Nat->Hd),Bl w X/\lh X G C.ho 0 0 hd G.n2 (eG Unit C.ho.bx G.n2) w'/\P=G.P) ?_ w C s ?_).mono ?_
 .rintro P W W' ⟨X,G,hd,h1,c,d⟩ hb;exact⟨X,G,hd,h1,c.below hb,d⟩
 .intro W hW;refine(BU W C.ho s (h.below hW) hs i.h f).mono ?_;rintro o w' ⟨G,hd,rfl,h1,_⟩;exact⟨G.P,rfl,⟨W,G,hd,hW,h1,rfl⟩,h1.b⟩
 rintro o w' ⟨P,a,rfl,rfl,⟨X,G,hd,h1,c,rfl⟩,d⟩;have e:Bl a (a.alloc (.cells (mcL G.P C).toArray 184)):=Zw;have a1:=c.p.lt;have a2:=c.m.lt;have a3:=c.hi;have a4:=c.x.hi;have j:=c.b.size;have ho:a.heap.size≠G.P/\a.heap.size≠G.mb/\a.heap.size≠G.gf/\a.heap.size≠G.gb/\a.heap.size≠G.gr/\a.heap.size≠G.gq/\X.heap.size<=a.heap.size:=⟨om,om,om,om,om,om,om⟩
 have g:mc X a.heap.size {G with s:=zs} C 0 0 hd G.n2 (eG Unit C.ho.bx G.n2) (a.alloc (.cells (mcL G.P C).toArray 184)):=
  ⟨blk.new a (mcL G.P C) 184,(c.below e).re zs,ho,fS c.k.1⟩
 refine⟨a.heap.size,rfl,X,{G with s:=zs},G.n2,⟨hd,_,g⟩,h1,pQ,by simp;omega,d.trans (e.mono d.size)⟩
open Go renaming World->Wd
section
variable{w0:Wd}{M:Nat}{G:Lg}{f1 f3 nm:Nat}{V:Wd}{C:Co}{W:Wd}
def tlQ(C:Co)(B T:Nat)(s':Sl)(w:Wd):Prop:=∃s4:Wh,s'=s4.sl/\(∀W:Wd,(∀k,B<=k->k<T->W.heap[k]?=w.heap[k]?)->bj W C.ho s4.sl/\whS B T W s4)/\whD s4/\whE s4
def tlQ.keep{B T:Nat}{c:Sl}{d i:Wd}(l:∀k,B<=k->k<T->i.heap[k]?=d.heap[k]?)(h:tlQ C B T c d):tlQ C B T c i:=by
 obtain⟨n,e,f,g⟩:=h;exact⟨n,e,fun W j=>f W fun k a b=>(j k a b).trans (l k a b),g⟩
def tlQ.told{X:Wd}{o:Ending}{w':Wd}(h:yy X C o w'):∃b,o=rT (aG (coL C b).toArray)/\tlQ C X.heap.size w'.heap.size b w'/\Bl X w':=by
 obtain⟨c,d,e,f,g,i,j⟩:=h;exact⟨c.sl,d,⟨c,rfl,fun W a=>⟨e W a,f.same a⟩,g,i⟩,j⟩
end
end Go.Proofs.YtbbffcolnddcdaaGreatDoor
