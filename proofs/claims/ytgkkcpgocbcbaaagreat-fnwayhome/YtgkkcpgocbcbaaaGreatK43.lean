import Derived.Test.YtgkkcpgocbcbaaaGreatK40
import Derived.Test.YtgkkcpgocbcbaaaGreatK41
import Derived.Test.YtgkkcpgocbcbaaaGreatK27
import Derived.Test.YtgkkcpgocbcbaaaGreatK37
import Derived.Test.YtgkkcpgocbcbaaaGreatK42
namespace Go.Proofs.YtgkkcpgocbcbaaaGreat
open Go.RowKit
set_option linter.unusedVariables false
def bW:R8:=⟨1,3,0,false,5,false,0,[]⟩
def hW (q:List R8):Ho:=⟨1,1,0,8,[],[bW],[],q,0,1⟩
def cO (b:Int):Co:=⟨7,0,0,false,false,false,false,false,0,256,b,hW []⟩
def cR (b ct rn:Int):Co:=⟨7,ct,0,false,false,false,false,true,rn,256,b,hW [ev3 11 1 0]⟩
def cI:Co:=⟨0,0,0,false,false,false,false,false,0,0,0,hW [ev3 11 1 0,ev3 10 0 0]⟩
def cL (x i j:Nat):Co:=if j<128 then cR x i j else cI
theorem cL_lt {x i j:Nat} (h:j<128):cL x i j=cR x i j:=if_pos h
theorem cL_ge {x i j:Nat} (h:¬ j<128):cL x i j=cI:=if_neg h
theorem sub_hW:subHo ⟨1,1,0,8,[],List.replicate 1 bx0,[],[],0,0⟩ 3 ⟨false,5,false,0,[]⟩=hW []:=by rfl
theorem okBxs_bW:okBxs 1 [bW]:=by
 refine⟨fun j hj=>?_,fun i j hi hj hij=>?_,by decide⟩
 ·obtain rfl:j=0:=by simpa using hj
  show okBx 1 bW
  unfold okBx bW
  rw[if_neg (by decide)]
  exact⟨by decide,by decide,by decide,by decide⟩
 ·simp at hi hj;omega
theorem okHo_hW (q:List R8) (h:q.length≤8) (hq:q.all okEv=true):okHo (hW q):=by
 refine⟨show okCf 1 1 0 8=true by decide,show okFs []=true by decide,rfl,show ((0:Nat):Int)≤1 by decide,?_,show (0:Int)≤0 by decide,show (0:Int)≤100000 by decide,show (0:Int)≤1 by decide,show (1:Int)≤1000000 by decide,rfl,hq,okBxs_bW⟩
 show (q.length:Int)≤8
 omega
theorem okHo_h0:okHo ⟨1,1,0,8,[],List.replicate 1 bx0,[],[],0,0⟩:=by
 refine⟨by decide,by decide,rfl,by decide,by decide,by decide,by decide,by decide,by decide,by decide,by decide,?_⟩
 refine⟨fun j hj=>?_,fun i j hi hj hij=>?_,by decide⟩
 ·obtain rfl:j=0:=by simpa using hj
  show okBx 0 bx0
  unfold okBx bx0
  rw[if_pos (by decide)]
  exact⟨rfl,rfl,by unfold zFr;decide⟩
 ·simp at hi hj;omega
theorem wrP_bW:¬ wrP [bW]:=by
 unfold wrP
 intro h
 apply h
 intro k hk
 obtain rfl:k=0:=by simpa using hk
 show ¬ onW bW
 unfold onW bW
 decide
theorem ev_ok1:([]:List R8).all okEv=true:=by decide
theorem ev_ok2:[ev3 11 1 0].all okEv=true:=by decide
theorem ev_ok3:[ev3 11 1 0,ev3 10 0 0].all okEv=true:=by decide
theorem okCo_cO (b:Int) (h:0≤b∧b≤255):okCo (cO b):=by
 refine⟨okHo_hW [] (by decide) ev_ok1,?_,⟨fun x=>(by have:=x.2;cases this),fun x=>absurd x wrP_bW⟩⟩
 constructor <;> simp[cO,rLo,rHi] <;> omega
theorem okCo_cR (b ct rn:Int) (h:0≤b∧b≤255) (hc:0≤ct∧ct≤10) (hr:0≤rn∧rn<128):okCo (cR b ct rn):=by
 refine⟨okHo_hW _ (by decide) ev_ok2,?_,⟨fun x=>(by have:=x.2;cases this),fun x=>absurd x wrP_bW⟩⟩
 constructor <;> simp[cR,rLo,rHi] <;> omega
theorem okCo_cI:okCo cI:=by
 refine⟨okHo_hW _ (by decide) ev_ok3,?_,⟨fun x=>(by have:=x.2;cases this),fun x=>absurd x wrP_bW⟩⟩
 constructor <;> simp[cI,rLo,rHi]
theorem best_bW:bestR [bW] 0:=by
 refine Or.inr ⟨0,rfl,by decide,rfl,fun j hj hne _=>?_⟩
 simp at hj
 omega
theorem step_cO (b:Int):actC (cO b) (stpC (cO b) 1 0)=cO b:=by
 simp[stpC,cO,ofC,actC,tellC,stZ]
theorem rst_cO (b:Int):rstC (cO b)=cR b 0 0:=by
 rfl
theorem step_cR0 (b ct rn:Int):actC (cR b ct rn) (stpC (cR b ct rn) 0 0)=cR b 0 rn:=by
 simp[stpC,cR,ofC,actC,tellC,stZ]
theorem step_cR1 (b ct rn:Int) (h:ct+1≠11):actC (cR b ct rn) (stpC (cR b ct rn) 1 0)=cR b (ct+1) rn:=by
 simp[stpC,cR,ofC,actC,tellC,stZ,h]
theorem step_cR2 (b ct rn:Int) (h:ct+1=11) (h':rn+1≠128):actC (cR b ct rn) (stpC (cR b ct rn) 1 0)=cR b 0 (rn+1):=by
 simp[stpC,cR,ofC,actC,tellC,stZ,h,h']
theorem step_cR3 (b ct rn:Int) (h:ct+1=11) (h':rn+1=128):actC (cR b ct rn) (stpC (cR b ct rn) 1 0)=cI:=by
 simp[stpC,cR,ofC,actC,tellC,stZ,h,h',bkC,cI,hW,postHo,quP,loP]
theorem le_hW0:(hW []).le 1048576:=by constructor <;> simp[hW,bW]
theorem le_hW1:(hW [ev3 11 1 0]).le 1048576:=by constructor <;> simp[hW,bW]
theorem le_hW2:(hW [ev3 11 1 0,ev3 10 0 0]).le 1048576:=by
 constructor <;> simp[hW,bW]
 intro j hj
 obtain rfl|rfl:j=0∨j=1:=by omega
 ·simp
 ·simp
theorem le_h0:(⟨1,1,0,8,[],List.replicate 1 bx0,[],[],0,0⟩ : Ho).le 1048576:=by constructor <;> simp[bx0]
def coQ (w:World) (C:Co) (o:Ending) (w':World):Prop:=∃ s,o = .returned (.agg (coL C s).toArray)∧St w.heap.size w' (fun V=>isHo V C.ho s)∧slSome s∧Below w.heap.size w w'
theorem toldC.core {w:World} {C:Co} {o:Ending} {w':World} (h:toldC w C o w') (hp:0<C.ho.bx.length):coQ w C o w':=by
 obtain⟨s,rfl,q1,q2,q3,q4,hb⟩:=h
 have hi:=q1.now
 refine⟨s.sl,rfl,q1,⟨⟨_,rfl⟩,?_⟩,hb⟩
 rcases q2.x with⟨_,e,_⟩|⟨g,e,_⟩
 ·have:s.n2=C.ho.bx.length:=hi.bx.len
  omega
 ·exact⟨g,e⟩
theorem stepQ (w:World) (C R:Co) (s:Sl) (k:Int) (hok:okCo C) (h1:C.p≠1) (hk:k=0∨k=1) (hb:bestR C.ho.bx 0) (hn:C.ho.le 1048576) (e:actC C (stpC C k 0)=R) (hp:0<R.ho.bx.length) (h:isHo w C.ho s) (hs:slSome s) :
  Calls Tryz.prog 7 #[.agg (coL C s).toArray,.int .i64 k] w (coQ w R):=by
 refine (implCoreStep_any w C s k 0 hb h hs hn).mono ?_
 rintro o w' (⟨_,h2⟩|⟨h2,_⟩)
 ·rw[e] at h2
  exact h2.core hp
 ·exact absurd ⟨hok,h1,hk⟩ h2
theorem rstQ (w:World) (b:Int) (s:Sl) (hb:0≤b∧b≤255) (h:isHo w (hW []) s) (hs:slSome s):Calls Tryz.prog 8 #[.agg (coL (cO b) s).toArray] w (coQ w (cR b 0 0)):=by
 refine (implRestart_any w (cO b) s h hs le_hW0).mono ?_
 rintro o w' (⟨_,h2⟩|⟨h2,_⟩)
 ·rw[rst_cO] at h2
  exact h2.core Nat.one_pos
 ·exact absurd (okCo_cO b hb) h2
set_option maxHeartbeats 8000000 in
set_option maxRecDepth 20000 in
theorem errQ (w:World) (C:Co) (s:Sl) (b:Bool) (eb:(C.p == 7)=b):Calls Tryz.prog 10 #[.agg (coL C s).toArray] w fun o w'=>o = .returned (.int .i64 (esZ C.p C.te C.re))∧Below w.heap.size w w':=by
 have H0:Hid (blk (w.alloc (.cells (coL C s).toArray 39)) w.heap.size (coL C s) 39∧Below w.heap.size w (w.alloc (.cells (coL C s).toArray 39))):=⟨blk.new w _ 39,(Below.refl _ _).alloc (Nat.le_refl _) _⟩
 have HS:Hid (∀ X,Calls Tryz.prog 24 #[.bool b,.int .i64 C.te,.int .i64 C.re] X fun o w'=>o = .returned (.int .i64 (esZ C.p C.te C.re))∧X=w'):=fun X=>stateOf_any X C.p C.te C.re b (by rw[← eb];by_cases e:C.p=7 <;> simp[e])
 obtain⟨v0,hv0⟩ : ∃ v0,v0=w.alloc (.cells (coL C s).toArray 39):=⟨_,rfl⟩
 rw[← hv0] at H0
 have y0:=H0.out.1.cell 0 (.int .i64 C.p) rfl
 have y9:=H0.out.1.cell 9 (.int .i64 C.te) rfl
 have y10:=H0.out.1.cell 10 (.int .i64 C.re) rfl
 go_enter Tryz.func10,Tryz.ntmps10
 go_upto_region 1 with fail
 rw[← hv0]
 clear hv0
 go_wp2_with fail
 refine (HS.out _).mono ?_
 rintro o w1 ⟨rfl,rfl⟩
 go_wp2_with fail
 go_ret
 exact⟨rfl,H0.out.2⟩
set_option maxHeartbeats 4000000 in
theorem wByte2 (w:World) (a:Option Addr) (n cap:Nat) (l:List Nat) (i:Nat) (h:isBytes w a n cap l) (hn:n≤1048576) (hi:i≤1000) :
  Calls Tryz.prog 5 #[.slice a n cap,.int .i64 (i:Int)] w fun o w'=>∃ x:Nat,o = .returned (.int .i64 (x:Int))∧x<256∧w'=w:=by
 by_cases hl:l=[]
 ·subst hl
  have hn0:n=0:=h.len
  subst hn0
  clear h
  have hm:IntKind.i64.wrap (7*(i:Int))=7*(i:Int):=by simp[IntKind.wrap,IntKind.bits,IntKind.signed];omega
  go_enter Tryz.func5,Tryz.ntmps5
  go_wp2
  go_ret
  exact⟨7*i % 256,by congr 2,by omega,rfl⟩
 ·obtain⟨g,off,rfl,hc⟩:=h.cells hl
  have hlen:=h.len
  have hpos:0<l.length:=List.length_pos_iff.2 hl
  have hm:i % n<l.length:=by rw[hlen];exact Nat.mod_lt _ hpos
  have hcell:=hc (i % n) hm
  have hx:l[i % n]<256:=h.small _ (List.getElem_mem hm)
  generalize l[i % n]=x at *
  have hn0:¬ (n:Int)=0:=by omega
  have hmod:(i:Int).tmod (n:Int)=((i % n:Nat):Int):=by rw[Int.tmod_eq_emod_of_nonneg (by omega)];omega
  have hmod2:((i % n:Nat):Int)<(n:Int):=by omega
  have HX:Hid (x<256):=hx
  clear h hc hl hx
  subst hlen
  generalize hk:i % l.length=k at *
  clear hk
  go_enter Tryz.func5,Tryz.ntmps5
  go_wp2
  go_ret
  exact⟨x,by rw[show wrap64 (x:Int)=(x:Int) by unfold wrap64;have:=HX.out;omega];rfl,HX.out,rfl⟩
theorem drainQ (w:World) (s:Sl) (h:isHo w (hW [ev3 11 1 0,ev3 10 0 0]) s) (hs:slSome s) :
  Calls Tryz.prog 11 #[.agg (hoL (hW [ev3 11 1 0,ev3 10 0 0]) s).toArray] w fun o w'=>∃ L g c,o = .returned (.tuple #[.agg (L:List Value).toArray,.slice (some ⟨g,0,none⟩) 2 c])∧L.length=10∧(L.toArray.all (·.oneCell')=true)∧2≤c∧w'.cell? ⟨g,0,none⟩=some (.int .i64 11)∧w'.cell? ⟨g,1,none⟩=some (.int .i64 1)∧w'.cell? ⟨g,8,none⟩=some (.int .i64 10)∧w'.cell? ⟨g,9,none⟩=some (.int .i64 0)∧Below w.heap.size w w':=by
 refine (implDrain_any w _ s h hs le_hW2).mono ?_
 rintro o w' (⟨_,s4,a,c,he,C,rfl,hC,hC2,q1,q2,q3,q4,q5,hb⟩|⟨h1,_⟩)
 ·obtain⟨g,off,e,hc⟩:=q5.is.cells (by simp[hW])
  have hcp:=q5.is.cap
  rcases q5.sx with⟨e',_⟩|⟨g',e',_⟩
  ·rw[e'] at e;cases e
  ·rw[e'] at e
   cases e
   subst e'
   obtain⟨_,_,_,c0⟩:=hc 0 (by decide)
   obtain⟨_,_,_,c1⟩:=hc 1 (by decide)
   exact⟨_,g,c,rfl,hoL_len _ _,hoL_one _ _,hcp,c0.c0,c0.c1,c1.c0,c1.c1,hb⟩
 ·exact absurd (okHo_hW _ (by decide) ev_ok3) h1
theorem rdOff (w:World) (C:Co) (s:Sl) (hok:okCo C) (hp:C.p=7) (hn:C.ho.le 1048576) (h:isHo w C.ho s) (hs:slSome s) :
  Calls Tryz.prog 9 #[.agg (rfL C s ⟨#[]⟩).toArray] w fun o w'=>(∃ s',o = .returned (.tuple #[.agg (rfL C s' ⟨#[]⟩).toArray,.int .i64 1]))∧Below w.heap.size w w':=
 refDrive_gen w C C s 1 h hs hok hn (by rw[hp];rfl) fun w0 M G nm W R h1 h2 h3=>drive_7 h1 R hp h2
theorem enc_bW:∀ w,(Instr.index 9 (.string (encZ false 5 false 0 0 [])) (.int .i64 0)).run Tryz.prog w = .ok (.int .u8 48) w:=fun w=>by kernel_rfl
theorem rdIdle (w:World) (s:Sl) (h:isHo w cI.ho s) (hs:slSome s) :
  Calls Tryz.prog 9 #[.agg (rfL cI s ⟨#[]⟩).toArray] w fun o w'=>(∃ s',o = .returned (.tuple #[.agg (rfL (jnC cI 0) s' ⟨#[]⟩).toArray,.int .i64 0]))∧Below w.heap.size w w':=by
 refine refDrive_gen w cI (jnC cI 0) s 0 h hs okCo_cI le_hW2 rfl fun w0 M G nm W R h1 h2 h3=>?_
 refine drive_0 h1 R rfl okBxs_bW 0 best_bW rfl rfl h2 h3 [⟨2,3,0,false,5,false,0,[]⟩] rfl 0 (by decide) (fun z hz=>?_) _ rfl enc_bW
 rcases hz with⟨k,hk,_,_,rfl⟩|⟨hz,_⟩
 ·obtain rfl:k=0:=by simpa using hk
  rfl
 ·exact absurd (Or.inl rfl) (hz 0 (by decide))
theorem newQ (w:World) (g:Nat) :
  Calls Tryz.prog 4 #[cfV 1 1 0 8,.slice (some ⟨g,0,none⟩) 0 0] w fun o w'=>∃ s,o = .returned (.tuple #[.agg (hoL ⟨1,1,0,8,[],List.replicate 1 bx0,[],[],0,0⟩ s).toArray,.int .i64 0])∧isHo w' ⟨1,1,0,8,[],List.replicate 1 bx0,[],[],0,0⟩ s∧Below w.heap.size w w':=by
 refine (specNewHost_ok w 1 1 0 8 g 0 0 [] (by decide) ⟨rfl,Nat.le_refl _,fun e=>absurd rfl e⟩ (Nat.zero_le _) (by omega) rfl).mono ?_
 rintro o w' ⟨s,rfl,q,hb⟩
 exact⟨s,by rw[hoV_L];rfl,q.now,hb⟩
theorem subQ (w:World) (s:Sl) (h:isHo w ⟨1,1,0,8,[],List.replicate 1 bx0,[],[],0,0⟩ s) :
  Calls Tryz.prog 6 #[.agg (hoL ⟨1,1,0,8,[],List.replicate 1 bx0,[],[],0,0⟩ s).toArray,.int .i64 3,.agg #[.bool false,.int .u32 5,.bool false,.int .i64 0,.slice none 0 0]] w fun o w'=>∃ s',o = .returned (.agg (hoL (hW []) s').toArray)∧St w.heap.size w' (fun V=>isHo V (hW []) s'∧slSome s')∧Below w.heap.size w w':=by
 have:=specSubmit_any w ⟨1,1,0,8,[],List.replicate 1 bx0,[],[],0,0⟩ s 3 ⟨false,5,false,0,[]⟩ none 0 0 okHo_h0 h le_h0 ⟨rfl,Nat.le_refl _,fun _ hx=>(by cases hx),fun hne=>absurd rfl hne⟩ (Nat.zero_le _)
 rw[sub_hW] at this
 exact this
structure J (w:World) (B:Nat) (C:Co) (s:Sl) (W:World):Prop where
 p:blk W B (coL C s) 39
 h:isHo W C.ho s
 s:slSome s
 b:Below w.heap.size w W
 lo:w.heap.size≤B
theorem J.below {w:World} {B:Nat} {C:Co} {s:Sl} {W W':World} (h:J w B C s W) (hb:Below W.heap.size W W'):J w B C s W':=⟨h.p.below hb,h.h.below hb,h.s,h.b.trans (hb.mono h.b.size),h.lo⟩
theorem J.put {w:World} {B:Nat} {C R:Co} {s s':Sl} {W W':World} (h:J w B C s W) (h1:St W.heap.size W' (fun V=>isHo V R.ho s')) (h2:slSome s') (hb:Below W.heap.size W W'):J w B R s' (W'.setCells B 0 (coL R s')):=
 ⟨(h.p.below hb).core (coL_len _ _) R s',h1 _ (fun x hx _=>setCells_other _ x (by have:=h.p.lt;omega) _ _ _),h2,setCells_below h.lo 0 _ (h.b.trans (hb.mono h.b.size)),h.lo⟩
theorem J.room {w:World} {B:Nat} {C:Co} {s:Sl} {W:World} (h:J w B C s W) (R:Co) (s':Sl):W.there B 0 (coL R s').toArray.size:=h.p.there 0 _ (by rw[List.size_toArray,coL_len,coL_len];decide)
theorem hidE39 {w:World} {B:Nat} {C:Co} {s:Sl} {V V':World} (e:V=V') (h:J w B C s V):Hid (J w B C s V'):=by rw[← e];exact h
theorem fold43 (C:Co) (s:Sl):List.foldl (fun (cs:Array Value) (x:Value × Nat)=>cs.setIfInBounds x.2 x.1) #[.int .i64 0,.int .i64 0,.int .i64 0,.bool false,.bool false,.bool false,.bool false,.bool false,.int .i64 0,.int .i64 0,.int .i64 0,.int .i64 0,.int .i64 0,.int .i64 0,.int .i64 0,.slice none 0 0,.slice none 0 0,.slice none 0 0,.slice none 0 0,.int .i64 0,.int .i64 0,.string ⟨#[]⟩] (coL C s).zipIdx=(rfL C s ⟨#[]⟩).toArray:=by kernel_rfl
theorem errR (w:World) (b i j:Int) (s:Sl):Calls Tryz.prog 10 #[.agg (coL (cR b i j) s).toArray] w fun o w'=>o = .returned (.int .i64 2)∧Below w.heap.size w w':=errQ w (cR b i j) s true rfl
theorem errI (w:World) (s:Sl):Calls Tryz.prog 10 #[.agg (coL cI s).toArray] w fun o w'=>o = .returned (.int .i64 0)∧Below w.heap.size w w':=errQ w cI s false rfl
end Go.Proofs.YtgkkcpgocbcbaaaGreat
