import Derived.Test.YtnfmjckkibdcaaaGreatDoorK30
import Derived.StillTailTactics
import Derived.Deep.RegionHeld3
import Derived.Deep.DeepCutAuto
import Derived.Deep.RegionWith
namespace Go.Proofs.YtnfmjckkibdcaaaGreatDoor
open Go.RowKit
set_option linter.all false
def lhU (G:Lg) (B:Nat):Prop:=G.P<B/\G.mb<B/\G.gf<B/\G.gb<B/\G.gr<B/\G.gq<B
def lh.lts {w0:World} {G:Lg} {H:Ho} {f1 f3:Nat} {hs:Nat->Hd} {nm:Nat} {D:DataW Unit} {W:World} (h:lh w0 G H f1 f3 hs nm D W):lhU G W.heap.size:=⟨h.p.lt,h.m.lt,h.hi.1,h.x.hi,h.hi.2.1,h.hi.2.2⟩
open Go.Value renaming int->I,slice->sL,bool->bO,pointer->pT,agg->aG
open Go.IntKind renaming i64->J
open Go.Ending renaming returned->rT
open Go.Proofs.Tryz renaming prog->Tp
def DU {P:Prop} (h:P):Hid P:=h
variable {w0 : World} {M : Nat} {G : Lg} {f1 f3 nm : Nat} {C : Co} {W : World}
def mx (w0:World) (M:Nat) (G:Lg) (f1 f3 nm:Nat) (C:Co) (W:World):Prop:=∃ hs D,mc w0 M G C f1 f3 hs nm D W
def mx.m (h:mx w0 M G f1 f3 nm C W):blk W M (mcL G.P C) 151:=by obtain⟨_,_,h⟩:=h;exact h.m
def mx.below (h:mx w0 M G f1 f3 nm C W) {W':World} (hb:Bl W W'):mx w0 M G f1 f3 nm C W':=by obtain⟨_,_,h⟩:=h;exact⟨_,_,h.below hb⟩
def mx.set (h:mx w0 M G f1 f3 nm C W) (k:Nat) (v:Value) (C':Co) (e:(mcL G.P C).set k v=mcL G.P C') (eh:C'.ho=C.ho):mx w0 M G f1 f3 nm C' (W.setCell ⟨M,k,none⟩ v):=by obtain⟨_,_,h⟩:=h;exact⟨_,_,h.set k v e eh⟩
def mx.state (h:mx w0 M G f1 f3 nm C W):Calls Tp 272 #[pT (some ⟨M,0,none⟩)] W fun o w'=>o = rT (I J (stZ C.te C.re))/\mx w0 M G f1 f3 nm C w'/\Bl W w':=by
 obtain⟨_,_,h⟩:=h;exact (IC h).mono fun o w' ⟨h1,h2,h3⟩=>⟨h1,⟨_,_,h2⟩,h3⟩
structure dcS (w:World) (C:Co) (s:Sl) (W:World):Prop where
 p:blk W w.heap.size (coL C s) 43
 r:blk W (w.heap.size+1) Z21 43
 b:Bl w W
def dcS.below {w:World} {C:Co} {s:Sl} {W W':World} (h:dcS w C s W) (hb:Bl W W'):dcS w C s W':=⟨h.p.below hb,h.r.below hb,h.b.trans (hb.mono h.b.size)⟩
def dcS.new (w:World) (C:Co) (s:Sl):dcS w C s ((w.alloc (.cells (coL C s).toArray 43)).alloc (.cells Z21.toArray 43)):=by
 refine⟨(blk.new w _ 43).alloc _,?_,qw.alloc pQ _⟩;have:=blk.new (w.alloc (.cells (coL C s).toArray 43)) Z21 43;simpa using this
set_option maxRecDepth 20000
set_option maxHeartbeats 16000000
variable {w:World} {b:Nat} {s:Sl}
def blk.host {C:Co} (h:blk w b (coL C s) 43) (H:Ho) (s':Sl):blk (w.setCells b 11 (hoL H s')) b (coL { C with ho:=H } s') 43:=by
 have h':blk w b (coM C++hoL C.ho s++[]) 43:=by rw[Qw,<- CM];exact h
 have:=blk.put (coM C) (hoL C.ho s) [] (hoL H s') h' rfl;rw[Qw] at this;exact this
def EA (H:Ho) (s:Sl):(Tp.info? 41).map (·.size)=some (hoL H s).toArray.size:=jT H s
def blk.core {l:List Value} (h:blk w b l 43) (hl:l.length=21) (C:Co) (s:Sl):blk (w.setCells b 0 (coL C s)) b (coL C s) 43:=by
 have:=blk.put [] l [] (coL C s) (w:=w) (b:=b) (T:=43) (by simpa using h) (by rw[hl,cL]);simpa using this
def spS.lower {B B' T0 T1 T2:Nat} {H:Ho} {W:World} (h:spS B T0 T1 T2 H s W) (hb:B'<=B):spS B' T0 T1 T2 H s W:=by
 obtain⟨⟨gf,e1,h1a,h1b,h1⟩,hx,hr,hq,o1,o2,o3,o4⟩:=h;exact⟨⟨gf,e1,om,h1b,h1⟩,hx,hr,hq,om,o2,o3,o4⟩
def tj (w:World) (C:Co) (s:Sl) (h:aK w C.ho s) (hn:C.ho.le 1048576):Calls Tp 20 #[aG (coL C s).toArray] w fun o w'=>∃ s' T0 T1 T2,o = rT (aG (coL C s').toArray)/\spS (w.heap.size+2) T0 T1 T2 C.ho s' w'/\s'.n2=C.ho.bx.length/\s'.n4=C.ho.qu.length/\Bl w w':=by
 have H0:Hid (dcS w C s ((w.alloc (.cells (coL C s).toArray 43)).alloc (.cells Z21.toArray 43))):=dcS.new w C s;have HCP:Hid (∀ W,Bl w W->Calls Tp 55 #[aG (hoL C.ho s).toArray] W fun o w'=>∃ s' T0 T1 T2,o = rT (aG (hoL C.ho s').toArray)/\spS (W.heap.size+3) T0 T1 T2 C.ho s' w'/\s'.n2=C.ho.bx.length/\s'.n4=C.ho.qu.length/\Bl W w'):=fun W hW=>Fl W C.ho s (h.below hW) hn;have HEC:Hid ({ C with ho:=C.ho }=C):=rfl;clear h hn;go_enter Tryz.func20,Tryz.ntmps20
 go_wp2_with (refine qG 41 H0.o.p.hostAt Tryz.underlying41 (jT C.ho s) ?_)
 refine (HCP.o _ H0.o.b).mono ?_;rintro o w2 ⟨s',T0,T1,T2,rfl,q1,q2,q3,q4⟩;have H2:Hid (blk w2 w.heap.size (coL C s) 43/\blk w2 (w.heap.size+1) Z21 43/\Bl w w2):=⟨(H0.o.below q4).p,(H0.o.below q4).r,(H0.o.below q4).b⟩
 have HSP:Hid (spS (w.heap.size+2+3) T0 T1 T2 C.ho s' w2/\s'.n2=C.ho.bx.length/\s'.n4=C.ho.qu.length):=⟨by simpa using q1,q2,q3⟩
 clear q1 q2 q3 q4 H0 HCP;go_wp2_with (first
  | (refine QE (P:=Tp) rfl 41 (.tmp 6) (.tmp 5) rfl w.heap.size 11 (hoL C.ho s').toArray rfl rfl (H2.o.1.there 11 _ (by rw[qS,BD,cL];decide)) (EA _ _) (oC _ _) ?_;generalize hW3:World.setCells w2 w.heap.size 11 _=w3;have H3:Hid (blk w3 w.heap.size (coL C s') 43/\blk w3 (w.heap.size+1) Z21 43/\(∀ q,q≠w.heap.size->w3.heap[q]?=w2.heap[q]?)/\w3.heap.size=w2.heap.size/\Bl w w3):=(by rw[<- hW3];exact⟨H2.o.1.host C.ho s',H2.o.2.1.kept (sO _ _ om _ _ _),fun q hq=>sO _ q hq _ _ _,sZ ..,sW (nR _) 11 _ H2.o.2.2⟩);clear hW3)
  | (refine qG 43 H3.o.1.load Tryz.underlying43 (cy _ _) ?_)
  | (refine QE (P:=Tp) rfl 43 (.tmp 2) (.tmp 7) rfl (w.heap.size+1) 0 (coL C s').toArray rfl rfl (H3.o.2.1.there 0 _ (by rw[qS,cL];decide)) (nO _ _) (cO _ _) ?_;generalize hW4:World.setCells w3 (w.heap.size+1) 0 _=w4;have H4:Hid (blk w4 (w.heap.size+1) (coL C s') 43/\(∀ q,q≠w.heap.size->q≠w.heap.size+1->w4.heap[q]?=w2.heap[q]?)/\w4.heap.size=w2.heap.size/\Bl w w4):=(by rw[<- hW4];exact⟨H3.o.2.1.core rfl _ _,fun q h1 h2=>(sO _ q h2 _ _ _).trans (H3.o.2.2.1 q h1),(sZ ..).trans H3.o.2.2.2.1,sW om 0 _ H3.o.2.2.2.2⟩);clear hW4))
 have hL:=QJ (P:=Tp) w4 (w.heap.size+1) 0 43 _ _ H4.o.1.load Tryz.underlying43 rfl (cy _ _);refine bC Tryz.results20 hL ?_;have hsp:=HSP.o.1.st (W':=w4) (fun q h1 h2=>H4.o.2.1 q om om) (by have:=H4.o.2.2.1;omega);exact⟨s',T0,T1,T2,rfl,hsp.lower om,HSP.o.2.1,HSP.o.2.2,H4.o.2.2.2⟩
def zCo:Co:=⟨0,0,0,false,false,false,false,false,0,0,0,zHo⟩
def iB.farL {W V:World} {a:Option Addr} {n cap:Nat} {l:List Nat} (h:iB W a n cap l) {x:Nat} {L:List Value} {ty:TypeId} (hx:blk W x L ty) (hL:∀ j,Value.int .u8 j ∉ L) (hV:∀ q,q≠x->V.heap[q]?=W.heap[q]?):iB V a n cap l:=by
 refine⟨h.len,h.cap,h.small,fun hne=>?_⟩;obtain⟨g,off,e,hc⟩:=h.cells hne;refine⟨g,off,e,fun j hj=>?_⟩;have hcj:=hc j hj;have hg:g≠x:=by
  rintro rfl;refine hL (l[j]:Int) ?_;unfold blk at hx;unfold World.cell? at hcj;rw[hx] at hcj;simp at hcj;exact List.mem_of_getElem? hcj
 unfold World.cell? at hcj ⊢;rw[hV g hg];exact hcj
def spS.n2 {B T0 T1 T2:Nat} {H:Ho} {s:Sl} {W:World} (h:spS B T0 T1 T2 H s W):s.n2=H.bx.length:=by
 obtain⟨gb,hs,_,h2⟩:=h.x;exact h2.len
open Option renaming none->nn,some->sQ
open Go renaming World->Wd
set_option maxRecDepth 40000
variable {w3 W w2:Wd} {b m1 l1 m2 l2 m3 l3 m4 l4 B:Nat} {C:Co} {p ct lv rn te re c0 c1 c2 c3 lo st:Int} {wk ov ow tx ak:Bool} {b1 b2 b3 b4:Option Addr} {s:Sl}
def EN (p ct lv:Int) (wk ov ow tx ak:Bool) (rn te re c0 c1 c2 c3:Int) (b1:Option Addr) (m1 l1:Nat) (b2:Option Addr) (m2 l2:Nat) (b3:Option Addr) (m3 l3:Nat) (b4:Option Addr) (m4 l4:Nat) (lo st:Int):(#[I J p,I J ct,I J lv,bO wk,bO ov,bO ow,bO tx,bO ak,I J rn,I J te,I J re,I J c0,I J c1,I J c2,I J c3,sL b1 m1 l1,sL b2 m2 l2,sL b3 m3 l3,sL b4 m4 l4,I J lo,I J st]:Array Value).all (·.oneCell')=true:=
 QL (by simp[Value.oneCell'])
def zC (w:Wd) (C A B:Obj):(((w.alloc C).alloc A).alloc B).heap[w.heap.size+1]?=sQ A:=by
 rw[Below.heap_alloc _ _ _ pQ];have:=QO (w.alloc C) A;simpa using this
def tH (w:Wd) (C A B:Obj):(((w.alloc C).alloc A).alloc B).heap[w.heap.size+1+1]?=sQ B:=by
 have:=QO ((w.alloc C).alloc A) B;simpa using this
def D6 (h:w2.heap[b]?=sQ (.cells [I J p,I J ct,I J lv,bO wk,bO ov,bO ow,bO tx,bO ak,I J rn,I J te,I J re,I J 0,I J 0,I J 0,I J 0,sL nn 0 0,sL nn 0 0,sL nn 0 0,sL nn 0 0,I J 0,I J 0].toArray 43)) (e:World.setCells w2 b 11 [I J c0,I J c1,I J c2,I J c3,sL b1 m1 l1,sL b2 m2 l2,sL b3 m3 l3,sL b4 m4 l4,I J lo,I J st]=w3):w3.heap[b]?=sQ (.cells [I J p,I J ct,I J lv,bO wk,bO ov,bO ow,bO tx,bO ak,I J rn,I J te,I J re,I J c0,I J c1,I J c2,I J c3,sL b1 m1 l1,sL b2 m2 l2,sL b3 m3 l3,sL b4 m4 l4,I J lo,I J st].toArray 43):=by
 subst e;exact fB b 43 [I J c0,I J c1,I J c2,I J c3,sL b1 m1 l1,sL b2 m2 l2,sL b3 m3 l3,sL b4 m4 l4,I J lo,I J st] zX [I J p,I J ct,I J lv,bO wk,bO ov,bO ow,bO tx,bO ak,I J rn,I J te,I J re] [] w2 rfl h
def Aa {b':Nat} {l:Array Value} {vs:List Value} {o:Nat} (h:w2.heap[b]?=sQ (.cells l 43)) (e:World.setCells w2 b' o vs=w3) (hb:b≠b':=by omega):w3.heap[b]?=sQ (.cells l 43):=by
 subst e;exact (sO b' b hb vs w2 o).trans h
def D5 {w4:Wd} (h:w3.heap[b]?=sQ (.cells zY.toArray 43)) (e:World.setCells w3 b 0 [I J p,I J ct,I J lv,bO wk,bO ov,bO ow,bO tx,bO ak,I J rn,I J te,I J re,I J c0,I J c1,I J c2,I J c3,sL b1 m1 l1,sL b2 m2 l2,sL b3 m3 l3,sL b4 m4 l4,I J lo,I J st]=w4):w4.heap[b]?=sQ (.cells [I J p,I J ct,I J lv,bO wk,bO ov,bO ow,bO tx,bO ak,I J rn,I J te,I J re,I J c0,I J c1,I J c2,I J c3,sL b1 m1 l1,sL b2 m2 l2,sL b3 m3 l3,sL b4 m4 l4,I J lo,I J st].toArray 43):=by
 subst e;exact fB b 43 [I J p,I J ct,I J lv,bO wk,bO ov,bO ow,bO tx,bO ak,I J rn,I J te,I J re,I J c0,I J c1,I J c2,I J c3,sL b1 m1 l1,sL b2 m2 l2,sL b3 m3 l3,sL b4 m4 l4,I J lo,I J st] zY [] [] w3 rfl h
def lX (tmps:Array Value) (w:Wd) (b:Nat) (V:Value) (h2:tmps.getD 2 undef = pT (sQ ⟨b,0,nn⟩)) (hL:(loadVar 43 ⟨b,0,nn⟩).run Tp w = .ok V w):(results Tryz.f25 tmps).run Tp w = .ok V w:=by
 simp only[Array.getD_eq_getD_getElem?] at h2;simp[results,Tryz.results25,h2,asAddr,hL]
def Dd (w:Wd) (C:Co) (s:Sl) (h:aK w C.ho s) (hn:C.ho.le 1048576) :
  Calls Tp 25 #[aG (coL C s).toArray] w fun o w'=>∃ s':Wh,o = rT (aG (coL C s'.sl).toArray)/\St w.heap.size w' (fun W=>aK W C.ho s'.sl)/\whS w.heap.size w'.heap.size w' s'/\whD s'/\dz s'.sl/\Bl w w':=by
 have HC:Hid (∀ X,Bl w X->w.heap.size+3<=X.heap.size->Calls Tp 59 #[hoV C.ho s] X fun o w'=>∃ s':Wh,o = rT (hoV C.ho s'.sl)/\(St (w.heap.size+3) w' (fun W=>aK W C.ho s'.sl)/\whS (w.heap.size+3) w'.heap.size w' s'/\whD s'/\dz s'.sl)/\Bl w w'/\Bl X w'):=by
  intro X hX hz;rw[gR];refine (FH X C.ho s (h.below hX) hn).mono ?_;rintro o w' ⟨s',rfl,h1,h2,h3,h4,h5⟩;exact⟨s',by rw[gR],⟨h1.mono hz,h2.mono hz (nR _),h3,h4⟩,hX.trans (h5.mono hX.size),h5⟩
 clear h hn;show Calls Tp 25 #[coV C s] w _;obtain⟨p,ct,lv,wk,ov,ow,tx,ak,rn,te,re,⟨c0,c1,c2,c3,fs,bx,ff,qu,lo,st⟩⟩:=C;obtain⟨a1,n1,k1,a2,n2,k2,a3,n3,k3,a4,n4,k4⟩:=s;go_enter Tryz.func25,Tryz.ntmps25;go_wp2_with (first | (go_at_call 59;refine (HC.o _ (by (repeat refine Below.setCell ?_ (by simp;try omega) _);exact (qw.alloc pQ _).alloc (by simp;omega) _) pQ).mono ?_;rintro o w2 ⟨s',rfl,S2,B2,K2⟩;have HO2:Hid (w2.heap[w.heap.size+1+1]?=sQ (.cells [I J p,I J ct,I J lv,bO wk,bO ov,bO ow,bO tx,bO ak,I J rn,I J te,I J re,I J 0,I J 0,I J 0,I J 0,sL nn 0 0,sL nn 0 0,sL nn 0 0,sL nn 0 0,I J 0,I J 0].toArray 43)):=(K2.block (w.heap.size+1+1) pQ).trans (tH w _ _ _);have HR2:Hid (w2.heap[w.heap.size+1]?=sQ (.cells zY.toArray 43)):=(K2.block (w.heap.size+1) pQ).trans (zC w _ _ _);have HS:Hid _:=S2;have HB:Hid _:=B2;clear S2 B2 K2) | (refine QE (P:=Tp) rfl 41 (.tmp 40) (.tmp 39) rfl (w.heap.size+1+1) 11 #[I J c0,I J c1,I J c2,I J c3,sL s'.sl.a1 s'.sl.n1 s'.sl.k1,sL s'.sl.a2 s'.sl.n2 s'.sl.k2,sL s'.sl.a3 s'.sl.n3 s'.sl.k3,sL s'.sl.a4 s'.sl.n4 s'.sl.k4,I J lo,I J st] rfl rfl (fK HO2.o 11 10 pQ) xU (yC _ _ _ _ _ _ _ _ _ _ _ _ _ _ _ _ _ _) ?_;generalize hW3:World.setCells w2 (w.heap.size+1+1) 11 _=w3;have HW3:Hid (World.setCells w2 (w.heap.size+1+1) 11 [I J c0,I J c1,I J c2,I J c3,sL s'.sl.a1 s'.sl.n1 s'.sl.k1,sL s'.sl.a2 s'.sl.n2 s'.sl.k2,sL s'.sl.a3 s'.sl.n3 s'.sl.k3,sL s'.sl.a4 s'.sl.n4 s'.sl.k4,I J lo,I J st]=w3):=hW3;clear hW3) | (refine zi 43 [I J p,I J ct,I J lv,bO wk,bO ov,bO ow,bO tx,bO ak,I J rn,I J te,I J re,I J c0,I J c1,I J c2,I J c3,sL s'.sl.a1 s'.sl.n1 s'.sl.k1,sL s'.sl.a2 s'.sl.n2 s'.sl.k2,sL s'.sl.a3 s'.sl.n3 s'.sl.k3,sL s'.sl.a4 s'.sl.n4 s'.sl.k4,I J lo,I J st] (db (D6 HO2.o HW3.o)) Tryz.underlying43 pw ?_) | (refine QE (P:=Tp) rfl 43 (.tmp 2) (.tmp 41) rfl (w.heap.size+1) 0 #[I J p,I J ct,I J lv,bO wk,bO ov,bO ow,bO tx,bO ak,I J rn,I J te,I J re,I J c0,I J c1,I J c2,I J c3,sL s'.sl.a1 s'.sl.n1 s'.sl.k1,sL s'.sl.a2 s'.sl.n2 s'.sl.k2,sL s'.sl.a3 s'.sl.n3 s'.sl.k3,sL s'.sl.a4 s'.sl.n4 s'.sl.k4,I J lo,I J st] rfl rfl (fK (Aa HR2.o HW3.o) 0 21 pQ) pw (EN _ _ _ _ _ _ _ _ _ _ _ _ _ _ _ _ _ _ _ _ _ _ _ _ _ _ _ _ _) ?_;generalize hW4:World.setCells w3 (w.heap.size+1) 0 _=w4;have HW4:Hid (World.setCells w3 (w.heap.size+1) 0 [I J p,I J ct,I J lv,bO wk,bO ov,bO ow,bO tx,bO ak,I J rn,I J te,I J re,I J c0,I J c1,I J c2,I J c3,sL s'.sl.a1 s'.sl.n1 s'.sl.k1,sL s'.sl.a2 s'.sl.n2 s'.sl.k2,sL s'.sl.a3 s'.sl.n3 s'.sl.k3,sL s'.sl.a4 s'.sl.n4 s'.sl.k4,I J lo,I J st]=w4):=hW4;clear hW4));have hF:=D5 (Aa HR2.o HW3.o) HW4.o;have hL:=QJ (P:=Tp) w4 (w.heap.size+1) 0 43 [I J p,I J ct,I J lv,bO wk,bO ov,bO ow,bO tx,bO ak,I J rn,I J te,I J re,I J c0,I J c1,I J c2,I J c3,sL s'.sl.a1 s'.sl.n1 s'.sl.k1,sL s'.sl.a2 s'.sl.n2 s'.sl.k2,sL s'.sl.a3 s'.sl.n3 s'.sl.k3,sL s'.sl.a4 s'.sl.n4 s'.sl.k4,I J lo,I J st] _ (db hF) Tryz.underlying43 rfl pw;refine QF (v:=coV ⟨p,ct,lv,wk,ov,ow,tx,ak,rn,te,re,⟨c0,c1,c2,c3,fs,bx,ff,qu,lo,st⟩⟩ s'.sl) (lX _ w4 (w.heap.size+1) _ rfl hL) rfl ?_;have T:=HS.o;have e3:=HW3.o;have e4:=HW4.o
 have oth:∀ x,w.heap.size+3<=x->w4.heap[x]?=w2.heap[x]?:=fun x hx=>by
  rw[<- e4,<- e3];exact (sO _ x om _ _ _).trans (sO _ x om _ _ _)
 have hsz:w4.heap.size=w2.heap.size:=by rw[<- e4,<- e3];exact (sZ ..).trans (sZ ..)
 refine⟨s',rfl,fun W hW=>T.1 W (fun x h1 h2=>(hW x om om).trans (oth x h1)),?_,T.2.2.1,T.2.2.2,?_⟩
 .rw[hsz];exact (T.2.1.same (fun x h1 h2=>oth x h1)).mono om (nR _)
 .rw[<- e4,<- e3];exact sW om 0 _ (sW om 11 _ HB.o)
def yT {Q:Nat->Wd->Prop} (hc:∀ X,Bl W X->Calls Tp 71 #[aG (hoL C.ho s).toArray,I J 1] X fun o w'=>∃ k:Nat,o = rT (I J (k:Int))/\Q k w') :
  Calls Tp 32 #[aG (coL C s).toArray,I J 1] W fun o w'=>∃ k:Nat,o = rT (I J (k:Int))/\Q k w':=by
 have H0:Hid (ctS W W.heap.size C s (W.alloc (.cells (coL C s).toArray 43))):=ctS.new W C s;have HC:Hid (∀ X,Bl W X->Calls Tp 71 #[aG (hoL C.ho s).toArray,I J 1] X fun o w'=>∃ k:Nat,o = rT (I J (k:Int))/\Q k w'):=hc;clear hc;go_enter Tryz.func32,Tryz.ntmps32
 go_wp2_with (refine qG 41 H0.o.p.hostAt Tryz.underlying41 (jT C.ho s) ?_)
 refine (HC.o _ H0.o.b).mono ?_;rintro o w2 ⟨k,rfl,hq⟩;have HQ:Hid (Q k w2):=hq;clear hq;go_wp2_with fail;go_ret;exact⟨k,rfl,HQ.o⟩
def DW (k:Nat) (hc:∀ X,Bl W X->Calls Tp 74 #[aG (hoL C.ho s).toArray,I J 1] X fun o w'=>o = rT (I J (k:Int))/\Bl X w') :
  Calls Tp 35 #[aG (coL C s).toArray,I J 1] W fun o w'=>o = rT (I J (k:Int))/\Bl W w':=by
 have H0:Hid (ctS W W.heap.size C s (W.alloc (.cells (coL C s).toArray 43))):=ctS.new W C s;have HC:Hid (∀ X,Bl W X->Calls Tp 74 #[aG (hoL C.ho s).toArray,I J 1] X fun o w'=>o = rT (I J (k:Int))/\Bl X w'):=hc;have hk0:decide ((k:Int)<0)=false:=pQ;clear hc;go_enter Tryz.func35,Tryz.ntmps35
 go_wp2_with (refine qG 41 H0.o.p.hostAt Tryz.underlying41 (jT C.ho s) ?_)
 refine (HC.o _ H0.o.b).mono ?_;rintro o w2 ⟨rfl,hq⟩;have HQ:Hid (Bl W w2):=H0.o.b.trans (hq.mono H0.o.b.size);clear hq;go_wp2_with fail;go_ret;exact⟨rfl,HQ.o⟩
def MKC (B:Nat) (T:Co) (sg:Sl) (w:Wd):Prop:=∀ W,(∀ x,B<=x->x<w.heap.size->W.heap[x]?=w.heap[x]?)->w.heap.size<=W.heap.size->Calls Tp 32 #[aG (coL T sg).toArray,I J 1] W fun o w1=>∃ k:Nat,o = rT (I J (k:Int))/\k<=100000000000000/\Below B W w1/\(∀ x,w.heap.size<=x->x<W.heap.size->w1.heap[x]?=W.heap[x]?)/\∀ W2,(∀ x,B<=x->x<w.heap.size->W2.heap[x]?=w1.heap[x]?)->w.heap.size<=W2.heap.size->Calls Tp 35 #[aG (coL T sg).toArray,I J 1] W2 fun o w2=>o = rT (I J (k:Int))/\Bl W2 w2
def MKQ.core {T:Co} {sg:Sl} {w:Wd} (h:MKQ B T.ho sg w) (hB:B<=w.heap.size):MKC B T sg w:=by
 intro W hW hz;refine yT (fun X hX=>?_);refine (h X (fun x h1 h2=>(hX.block x om).trans (hW x h1 h2)) (by have:=hX.size;omega)).mono ?_;rintro o w1 ⟨k,rfl,hk,h1,h2,h3⟩;refine⟨k,rfl,hk,(hX.mono om).trans h1,fun x h4 h5=>(h2 x h4 (by have:=hX.size;omega)).trans (hX.block x h5),fun W2 hW2 hz2=>?_⟩;exact DW k (fun X2 hX2=>h3 X2 (fun x h4 h5=>(hX2.block x om).trans (hW2 x h4 h5)) (nT hz2 hX2.size))
def CW {T:Nat} {sx:Wh} (h:whS B T W sx) (hd:whD sx) (hT:T<=W.heap.size) (hB:B<=T):Calls Tp 32 #[aG (coL C sx.sl).toArray,I J 1] W fun o w1=>∃ k:Nat,o = rT (I J (k:Int))/\(∀ x,T<=x->x<W.heap.size->w1.heap[x]?=W.heap[x]?)/\Below B W w1/\k<=100000000000000:=by
 refine yT (fun X hX=>?_);refine (CX (H:=C.ho) (h.same fun x h1 h2=>hX.block x om) hd (by have:=hX.size;omega)).mono ?_;rintro o w1 ⟨k,rfl,h1,h2,hk⟩;exact⟨k,rfl,fun x h4 h5=>(h1 x h4 (by have:=hX.size;omega)).trans (hX.block x h5),(hX.mono om).trans h2,hk⟩
def FL (X:Wd) (C:Co) (s:Sl) (h:aK X C.ho s) (hn:C.ho.le 9223372036854775807):Calls Tp 18 #[aG (coL C s).toArray,I J 1048576] X fun o w'=>∃ z:Int,o = rT (I J z)/\Bl X w'/\(z = -1\/∃ m':Nat,z=(m':Int)/\C.ho.le 1048576/\m'<=1048576):=by
 rw[<- Ac];exact sB X C s h hn
def Fj (X:Wd) (T:Co) (s1 s2:Sl) (h1:aK X T.ho s1) (h2:aK X T.ho s2) (hm:T.ho.le 1048576):Calls Tp 29 #[aG (coL T s1).toArray,aG (coL T s2).toArray] X fun o w'=>o = rT (bO true)/\Bl X w':=by
 rw[<- Ac,<- Ac];exact rJ X T s1 s2 h1 h2 hm
def CU:zCo.ho.le 1048576:=⟨by decide,by decide,by decide,by decide,fun j hj=>(by cases hj),fun j hj=>(by cases hj),fun j hj=>(by cases hj)⟩
end Go.Proofs.YtnfmjckkibdcaaaGreatDoor
