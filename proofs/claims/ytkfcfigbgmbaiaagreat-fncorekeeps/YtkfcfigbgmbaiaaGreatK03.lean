import Derived.Test.YtkfcfigbgmbaiaaGreatK02
import Derived.Deep.DeepCutAuto
namespace Go.Proofs.YtkfcfigbgmbaiaaGreat
set_option maxRecDepth 20000
open Go.RowKit
set_option linter.unusedVariables false
set_option maxHeartbeats 16000000
open Go.Value renaming int→I,slice→sL,bool→bO,pointer→pT,agg→aG
open Go.IntKind renaming i64→J
open Go.Ending renaming returned→rT
open Go.Proofs.Tryz renaming prog→Tp
variable {b n cap:Nat} {w w1 w0 w2:World} {a:Option Addr} {l:List Nat}
def nxZ (s x:Nat):Nat:=(IntKind.u64.wrap (IntKind.u64.wrap (IntKind.u64.wrap (IntKind.u64.wrap ((s:Int)+(x:Int))+1)*6364136223846793005)+1442695040888963407)).toNat
abbrev Sg:=Nat × Nat
def nxS (l:List Nat) (σ:Sg):Sg:=(σ.1+1,nxZ σ.2 (l.getD σ.1 0))
def nxV (l:List Nat) (σ:Sg) (k:Nat):Nat:=if k≤1 then 0 else nxZ σ.2 (l.getD σ.1 0) / 8589934592 % k
theorem nxV_lt (l:List Nat) (σ:Sg) {k:Nat} (h:0<k):nxV l σ k<k:=by
 unfold nxV
 split
 ·exact h
 ·exact Nat.mod_lt _ h
structure srcF (w0:World) (b:Nat) (a:Option Addr) (n cap:Nat) (l:List Nat) (σ:Sg) (w:World):Prop where
 at_:blk w b [sL a n cap,I J (σ.1:Int),I .u64 (σ.2:Int)] 146
 bel:Below w0.heap.size w0 w
 by_:iB w0 a n cap l
 hb:w0.heap.size≤b
 hi:σ.1≤1000000000
structure onS (b:Nat) (w w':World):Prop where
 s:w.heap.size≤w'.heap.size
 k:∀ x,x≠b→x<w.heap.size→w'.heap[x]?=w.heap[x]?
 o:w'.os=w.os∧w'.tape=w.tape∧w'.output=w.output
theorem onS.refl (b:Nat) (w:World):onS b w w:=⟨nR _,fun _ _ _=>rfl,rfl,rfl,rfl⟩
theorem onS.trans (h:onS b w w1) (k:onS b w1 w2):onS b w w2:=⟨nT h.s k.s,fun x h1 h2=>(k.k x h1 (nL h2 h.s)).trans (h.k x h1 h2),k.o.1.trans h.o.1,k.o.2.1.trans h.o.2.1,k.o.2.2.trans h.o.2.2⟩
theorem onS.below (h:onS b w w1) (k:Below w1.heap.size w1 w2):onS b w w2:=h.trans ⟨k.size,fun x _ h2=>k.block x h2,k.os,k.tape,k.output⟩
theorem onS.of (k:Below w.heap.size w w1):onS b w w1:=(onS.refl b w).below k
theorem srcF.go {σ σ':Sg} (h:srcF w0 b a n cap l σ w) (k:onS b w w1) (at':blk w1 b [sL a n cap,I J (σ'.1:Int),I .u64 (σ'.2:Int)] 146) (hi:σ'.1≤1000000000):srcF w0 b a n cap l σ' w1:=
 ⟨at',h.bel.trans ⟨k.o.1,k.o.2.1,k.o.2.2,k.s,fun x hx=>k.k x (by have:=h.hb;omega) (by have:=h.at_.lt;have:=h.hb;omega)⟩,h.by_,h.hb,hi⟩
theorem srcF.below {σ:Sg} (h:srcF w0 b a n cap l σ w) (k:Below w.heap.size w w1):srcF w0 b a n cap l σ w1:=h.go (onS.of k) (h.at_.below k) h.hi
theorem u64N (z:Int):IntKind.u64.wrap z=((IntKind.u64.wrap z).toNat:Int):=by rw[IntKind.wrap_u64];omega
theorem nx_val (z:Int) (k:Nat) (hk:1<k) (hk2:k≤1000000000):wrap64 ((IntKind.u64.wrap z / 8589934592).tmod (k:Int))=(((IntKind.u64.wrap z).toNat / 8589934592 % k:Nat):Int):=by
 obtain⟨s,hs,hz⟩ : ∃ s:Nat,IntKind.u64.wrap z / 8589934592=(s:Int)∧(IntKind.u64.wrap z).toNat / 8589934592=s∧s<2147483648:=⟨(IntKind.u64.wrap z).toNat / 8589934592,by rw[IntKind.wrap_u64];omega⟩
 rw[hs,hz.1]
 have h1:((s:Int)).tmod (k:Int)=((s % k:Nat):Int):=by rw[Int.tmod_eq_emod_of_nonneg (by omega)];omega
 have h2:s % k<k:=Nat.mod_lt _ (by omega)
 rw[h1]
 generalize s % k=y at *;unfold wrap64
 omega
theorem n_f {σ:Sg} (h:srcF w0 b a n cap l σ w) (k:Nat) (hk:k≤1000000000) (hi:σ.1<1000000000) :
  Calls Tp 60 #[pT (some ⟨b,0,none⟩),I J (k:Int)] w fun o w'=>o = rT (I J (nxV l σ k:Int))∧srcF w0 b a n cap l (nxS l σ) w'∧onS b w w':=by
 have HS:Hid (srcF w0 b a n cap l σ w):=h
 have hy:=h.by_.below h.bel
 have c0:=h.at_.cell 0 _ rfl
 have c1:=h.at_.cell 1 _ rfl
 have c2:=h.at_.cell 2 _ rfl
 have f1:=h.at_.free 1
 have f2:=h.at_.free 2
 obtain⟨i,s⟩:=σ
 dsimp only at c1 c2 hi
 have HX:Hid (∃ x:Nat,x<256∧l.getD i 0=x∧(i<n→∃ g off,a=some ⟨g,off,none⟩∧w.cell? ⟨g,off+i,none⟩=some (I .u8 (x:Int)))∧(¬ i<n→x=0)):=by
  by_cases hin:i<n
  ·have hl:l≠[]:=by intro e;have:=hy.len;rw[e] at this;simp at this;omega
   obtain⟨g,off,rfl,hc⟩:=hy.cells hl
   have hil:i<l.length:=by have:=hy.len;omega
   exact⟨l[i],hy.small _ (List.getElem_mem _),by simp[List.getD,hil],fun _=>⟨g,off,rfl,hc i hil⟩,fun h=>absurd hin h⟩
  ·exact⟨0,by omega,by have:=hy.len;rw[List.getD,List.getElem?_eq_none (by omega)];rfl,fun h=>absurd h hin,fun _=>rfl⟩
 obtain⟨x,hx,hxl,hxi,hxn⟩:=HX.out
 have HV:Hid (nxV l (i,s) k=if k≤1 then 0 else nxZ s x / 8589934592 % k):=by show _=_;unfold nxV;rw[hxl]
 have HN:Hid (nxS l (i,s)=(i+1,nxZ s x)):=by show _=_;unfold nxS;rw[hxl]
 have hcp:=hy.cap
 clear hy h HX hxl;go_enter Tryz.func60,Tryz.ntmps60
 go_wp2
 go_quiet (fail)
 go_upto_if 15 with fail
 go_cut [5] (fun t wx=>t = I .u64 (x:Int)∧wx.heap=w.heap∧wx.os=w.os∧wx.tape=w.tape∧wx.output=w.output)
 case first=>
  by_cases hin:i<n
  ·obtain⟨g,off,rfl,hc⟩:=hxi hin
   have hin':decide ((i:Int)<(n:Int))=true:=by simp;omega
   clear hxi hxn;go_wp2
   go_quiet (fail)
   go_wp2_with fail;go_meet
   case rel=>exact⟨rfl,rfl,rfl,rfl,rfl⟩
  ·have hin':decide ((i:Int)<(n:Int))=false:=by simp;omega
   obtain rfl:=hxn hin
   go_wp2_with fail;go_meet
   case rel=>exact⟨rfl,rfl,rfl,rfl,rfl⟩
 case rest=>
  obtain⟨rfl,e1,e2,e3,e4⟩:=hcut
  have at1:blk wc b [sL a n cap,I J (i:Int),I .u64 (s:Int)] 146:=by unfold blk;rw[e1];exact HS.out.at_
  clear hxi hxn c0 c1 c2 f1 f2;have c1:=at1.cell 1 _ rfl
  have c2:=at1.cell 2 _ rfl
  have f1:=at1.free 1
  have f2:=at1.free 2
  have HF:Hid (∀ y:Int,y=(nxZ s x:Int)→srcF w0 b a n cap l (i+1,nxZ s x) ((wc.setCell ⟨b,1,none⟩ (I J ((i:Int)+1))).setCell ⟨b,2,none⟩ (I .u64 y))∧onS b w ((wc.setCell ⟨b,1,none⟩ (I J ((i:Int)+1))).setCell ⟨b,2,none⟩ (I .u64 y))):=fun y hy=>by
   have k:onS b w ((wc.setCell ⟨b,1,none⟩ (I J ((i:Int)+1))).setCell ⟨b,2,none⟩ (I .u64 y)):=⟨by simp[e1],fun z h1 _=>by rw[heap_setCell_other _ _ _ _ (by exact h1),heap_setCell_other _ _ _ _ (by exact h1),e1],e2,e3,e4⟩
   exact⟨HS.out.go k (by have:=(at1.set 1 (I J ((i:Int)+1))).set 2 (I .u64 y);rw[hy] at this ⊢;simpa using this) (by dsimp only;omega),k⟩
  clear at1 e1 e2 e3 e4;by_cases h1:k≤1
  ·have h1':(k:Int)≤1:=by omega
   go_wp2
   go_ret;rw[HN.out,HV.out,if_pos h1]
   exact⟨rfl,HF.out _ (u64N _)⟩
  ·have h1':(1:Int)<(k:Int):=by omega
   go_wp2
   go_ret;rw[HN.out,HV.out,if_neg h1]
   exact⟨ret_int (nx_val _ k (by omega) hk),HF.out _ (u64N _)⟩
theorem new_f (w:World) (a:Option Addr) (n cap:Nat) (l:List Nat) (h:iB w a n cap l) (hn:n≤1048576) :
  Calls Tp 59 #[sL a n cap] w fun o w'=>∃ b,o = rT (pT (some ⟨b,0,none⟩))∧srcF w b a n cap l (0,n+77) w'∧Below w.heap.size w w':=by
 have HH:Hid (iB w a n cap l):=h
 clear h;go_enter Tryz.func59,Tryz.ntmps59
 go_wp2
 go_ret;have hb:Below w.heap.size w (w.alloc (.cells #[sL a n cap,I J 0,I .u64 ((n:Int)+77)] 146)):=(bW _ _).alloc (nR _) _
 exact⟨w.heap.size,rfl,⟨blk.new w [sL a n cap,I J 0,I .u64 ((n:Int)+77)] 146,hb,HH.out,nR _,nZ _⟩,hb⟩
theorem nxS_1 (l:List Nat) (σ:Sg):(nxS l σ).1=σ.1+1:=rfl
def gByte (l:List Nat) (σ:Sg):Nat × Sg:=if nxV l σ 4=0 then (0,nxS l σ) else if nxV l σ 4=1 then (255,nxS l σ) else (nxV l (nxS l σ) 256,nxS l (nxS l σ))
theorem gByte_lt (l:List Nat) (σ:Sg):(gByte l σ).1<256∧(gByte l σ).2.1≤σ.1+2:=by
 have h:=nxV_lt l (nxS l σ) (k:=256) (by decide)
 unfold gByte
 repeat' split
 all_goals exact⟨by dsimp only;omega,by dsimp only[nxS];omega⟩
def gIdT (top:Nat) (l:List Nat) (σ:Sg):Nat × Sg:=
 if nxV l σ 6=0 then (0,nxS l σ) else if nxV l σ 6=1 then (top-1,nxS l σ) else if nxV l σ 6=2 then (nxV l (nxS l σ) 8,nxS l (nxS l σ)) else if nxV l σ 6=3 then (top-1-nxV l (nxS l σ) 64,nxS l (nxS l σ)) else (nxV l (nxS l σ) top,nxS l (nxS l σ))
theorem gIdT_lt (top:Nat) (ht:2048≤top) (l:List Nat) (σ:Sg):(gIdT top l σ).1<top∧(gIdT top l σ).2.1≤σ.1+2:=by
 have h8:=nxV_lt l (nxS l σ) (k:=8) (by decide)
 have hx:=nxV_lt l (nxS l σ) (k:=top) (by omega)
 unfold gIdT
 repeat' split
 all_goals exact⟨by dsimp only;omega,by dsimp only[nxS];omega⟩
def topN (e:Bool):Nat:=if e then 536870912 else 2048
def gId (l:List Nat) (e:Bool) (σ:Sg):Nat × Sg:=gIdT (topN e) l σ
variable {w0 w : World} {b : Nat} {a : Option Addr} {n cap : Nat} {l : List Nat} {σ : Sg}
theorem n_g (h:srcF w0 b a n cap l σ w) (k:Nat) (K:Int) (hK:K=(k:Int)) (hk:k≤1000000000) (hi:σ.1<1000000000) :
  Calls Tp 60 #[pT (some ⟨b,0,none⟩),I J K] w fun o w'=>o = rT (I J (nxV l σ k:Int))∧srcF w0 b a n cap l (nxS l σ) w'∧onS b w w':=hK ▸ n_f h k hk hi
theorem genByte_f (h:srcF w0 b a n cap l σ w) (hi:σ.1+10≤1000000000) :
  Calls Tp 223 #[pT (some ⟨b,0,none⟩)] w fun o w'=>o = rT (I .u8 ((gByte l σ).1:Int))∧srcF w0 b a n cap l (gByte l σ).2 w'∧onS b w w':=by
 have HN:=n_g h 4 4 rfl (by decide) (by omega)
 have HM:Hid (∀ W,srcF w0 b a n cap l (nxS l σ) W→Calls Tp 60 #[pT (some ⟨b,0,none⟩),I J 256] W fun o w'=>o = rT (I J (nxV l (nxS l σ) 256:Int))∧srcF w0 b a n cap l (nxS l (nxS l σ)) w'∧onS b W w'):=fun W hW=>n_g hW 256 256 rfl (by decide) (by rw[nxS_1];omega)
 obtain⟨v,hv⟩ : ∃ v,nxV l σ 4=v:=⟨_,rfl⟩
 rw[hv] at HN
 have HG:gByte l σ=if v=0 then (0,nxS l σ) else if v=1 then (255,nxS l σ) else (nxV l (nxS l σ) 256,nxS l (nxS l σ)):=by rw[← hv];rfl
 have HN:Hid (Calls Tp 60 #[pT (some ⟨b,0,none⟩),I J 4] w fun o w'=>o = rT (I J (v:Int))∧srcF w0 b a n cap l (nxS l σ) w'∧onS b w w'):=HN
 clear h hv;go_enter Tryz.func223,Tryz.ntmps223
 by_cases v0:v=0
 ·rw[if_pos v0] at HG
  have HE:Hid (gByte l σ=(0,nxS l σ)):=HG
  subst v0;clear HG;go_wp2_with (refine HN.out.mono ?_;rintro o w1 ⟨rfl,h1,k1⟩;have H1:Hid (srcF w0 b a n cap l (nxS l σ) w1∧onS b w w1):=⟨h1,k1⟩;clear h1 k1)
  go_ret;rw[HE.out]
  exact⟨rfl,H1.out⟩
 rw[if_neg v0] at HG
 by_cases v1:v=1
 ·rw[if_pos v1] at HG
  have HE:Hid (gByte l σ=(255,nxS l σ)):=HG
  subst v1;clear HG v0;go_wp2_with (refine HN.out.mono ?_;rintro o w1 ⟨rfl,h1,k1⟩;have H1:Hid (srcF w0 b a n cap l (nxS l σ) w1∧onS b w w1):=⟨h1,k1⟩;clear h1 k1)
  go_ret;rw[HE.out]
  exact⟨rfl,H1.out⟩
 rw[if_neg v1] at HG
 have HE:Hid (gByte l σ=(nxV l (nxS l σ) 256,nxS l (nxS l σ))):=HG
 have e0:((v:Int) == 0)=false:=by simp;omega
 have e1:((v:Int) == 1)=false:=by simp;omega
 have HV:=nxV_lt l (nxS l σ) (k:=256) (by decide)
 clear v0 v1 HG;generalize nxV l (nxS l σ) 256=u at *;go_wp2_with (first
  | (refine HN.out.mono ?_;rintro o w1 ⟨rfl,h1,k1⟩;have H1:Hid (srcF w0 b a n cap l (nxS l σ) w1∧onS b w w1):=⟨h1,k1⟩;clear h1 k1 HN)
  | (refine (HM.out _ H1.out.1).mono ?_;rintro o w2 ⟨rfl,h2,k2⟩;have H2:Hid (srcF w0 b a n cap l (nxS l (nxS l σ)) w2∧onS b w w2):=⟨h2,H1.out.2.trans k2⟩;clear h2 k2))
 go_ret;rw[HE.out]
 exact⟨by simp;try omega,H2.out⟩
theorem genId_f (h:srcF w0 b a n cap l σ w) (e:Bool) (hi:σ.1+10≤1000000000) :
  Calls Tp 222 #[pT (some ⟨b,0,none⟩),bO e] w fun o w'=>o = rT (I .u32 ((gId l e σ).1:Int))∧srcF w0 b a n cap l (gId l e σ).2 w'∧onS b w w':=by
 have HN:=n_g h 6 6 rfl (by decide) (by omega)
 have HM:Hid (∀ (k:Nat) (K:Int),K=(k:Int)→∀ W,srcF w0 b a n cap l (nxS l σ) W→k≤1000000000→Calls Tp 60 #[pT (some ⟨b,0,none⟩),I J K] W fun o w'=>o = rT (I J (nxV l (nxS l σ) k:Int))∧srcF w0 b a n cap l (nxS l (nxS l σ)) w'∧onS b W w'):=fun k K hK W hW hk=>n_g hW k K hK hk (by rw[nxS_1];omega)
 obtain⟨v,hv⟩ : ∃ v,nxV l σ 6=v:=⟨_,rfl⟩
 have hv6:v<6:=hv ▸ nxV_lt l σ (by decide)
 rw[hv] at HN
 have HN:Hid (Calls Tp 60 #[pT (some ⟨b,0,none⟩),I J 6] w fun o w'=>o = rT (I J (v:Int))∧srcF w0 b a n cap l (nxS l σ) w'∧onS b w w'):=HN
 have HT:Hid (2048≤topN e∧topN e≤536870912):=by show _∧_;unfold topN;cases e <;> decide
 have HG:Hid (∀ T,gIdT T l σ=if v=0 then (0,nxS l σ) else if v=1 then (T-1,nxS l σ) else if v=2 then (nxV l (nxS l σ) 8,nxS l (nxS l σ)) else if v=3 then (T-1-nxV l (nxS l σ) 64,nxS l (nxS l σ)) else (nxV l (nxS l σ) T,nxS l (nxS l σ))):=fun T=>by rw[← hv];rfl
 clear h hv;show Calls _ _ _ _ fun o w'=>o = rT (I .u32 ((gIdT (topN e) l σ).1:Int))∧srcF w0 b a n cap l (gIdT (topN e) l σ).2 w'∧onS b w w'
 go_enter Tryz.func222,Tryz.ntmps222
 go_upto_if 6 with fail
 go_cut [5] (fun t wx=>t = I J (topN e:Int)∧wx=w)
 case first=>
  cases e
  all_goals
   go_wp2_with fail;go_meet
   case rel=>exact⟨rfl,rfl⟩
 case rest=>
  obtain⟨rfl,hw⟩:=hcut
  have hw:=hw.symm
  subst hw;have ht:=HT.out
  have HG:=HG.out (topN e)
  clear HT;obtain⟨T,hT⟩ : ∃ T,topN e=T:=⟨_,rfl⟩
  have HTT:Hid (topN e=T):=hT
  rw[hT] at HG ht
  rw[hT]
  clear hT;by_cases v0:v=0
  ·rw[if_pos v0] at HG
   have HE:Hid (gIdT T l σ=(0,nxS l σ)):=HG
   subst v0;clear HG;go_wp2_with (refine HN.out.mono ?_;rintro o w1 ⟨rfl,h1,k1⟩;have H1:Hid (srcF w0 b a n cap l (nxS l σ) w1∧onS b w w1):=⟨h1,k1⟩;clear h1 k1 HN)
   go_ret;rw[HTT.out,HE.out]
   exact⟨by simp;try omega,H1.out⟩
  rw[if_neg v0] at HG
  by_cases v1:v=1
  ·rw[if_pos v1] at HG
   have HE:Hid (gIdT T l σ=(T-1,nxS l σ)):=HG
   subst v1;clear HG;go_wp2_with (refine HN.out.mono ?_;rintro o w1 ⟨rfl,h1,k1⟩;have H1:Hid (srcF w0 b a n cap l (nxS l σ) w1∧onS b w w1):=⟨h1,k1⟩;clear h1 k1 HN)
   go_ret;rw[HTT.out,HE.out]
   exact⟨by simp;try omega,H1.out⟩
  rw[if_neg v1] at HG
  by_cases v2:v=2
  ·rw[if_pos v2] at HG
   have HE:Hid (gIdT T l σ=(nxV l (nxS l σ) 8,nxS l (nxS l σ))):=HG
   subst v2;clear HG;have HV:=nxV_lt l (nxS l σ) (k:=8) (by decide)
   generalize hu:nxV l (nxS l σ) 8=u at *;go_wp2_with (first
    | (refine HN.out.mono ?_;rintro o w1 ⟨rfl,h1,k1⟩;have H1:Hid (srcF w0 b a n cap l (nxS l σ) w1∧onS b w w1):=⟨h1,k1⟩;clear h1 k1 HN)
    | (refine (HM.out 8 8 rfl _ H1.out.1 (by omega)).mono ?_;rintro o w2 ⟨rfl,h2,k2⟩;have H2:Hid (srcF w0 b a n cap l (nxS l (nxS l σ)) w2∧onS b w w2):=⟨h2,H1.out.2.trans k2⟩;clear h2 k2;rw[hu];clear hu))
   go_ret;rw[HTT.out,HE.out]
   exact⟨by simp;try omega,H2.out⟩
  rw[if_neg v2] at HG
  by_cases v3:v=3
  ·rw[if_pos v3] at HG
   have HE:Hid (gIdT T l σ=(T-1-nxV l (nxS l σ) 64,nxS l (nxS l σ))):=HG
   subst v3;clear HG;have HV:=nxV_lt l (nxS l σ) (k:=64) (by decide)
   generalize hu:nxV l (nxS l σ) 64=u at *;go_wp2_with (first
    | (refine HN.out.mono ?_;rintro o w1 ⟨rfl,h1,k1⟩;have H1:Hid (srcF w0 b a n cap l (nxS l σ) w1∧onS b w w1):=⟨h1,k1⟩;clear h1 k1 HN)
    | (refine (HM.out 64 64 rfl _ H1.out.1 (by omega)).mono ?_;rintro o w2 ⟨rfl,h2,k2⟩;have H2:Hid (srcF w0 b a n cap l (nxS l (nxS l σ)) w2∧onS b w w2):=⟨h2,H1.out.2.trans k2⟩;clear h2 k2;rw[hu];clear hu))
   go_ret;rw[HTT.out,HE.out]
   exact⟨by simp;try omega,H2.out⟩
  rw[if_neg v3] at HG
  have HE:Hid (gIdT T l σ=(nxV l (nxS l σ) T,nxS l (nxS l σ))):=HG
  have e0:((v:Int) == 0)=false:=by simp;omega
  have e1:((v:Int) == 1)=false:=by simp;omega
  have e2:((v:Int) == 2)=false:=by simp;omega
  have e3:((v:Int) == 3)=false:=by simp;omega
  have HV:=nxV_lt l (nxS l σ) (k:=T) (by omega)
  clear v0 v1 v2 v3 HG;generalize hu:nxV l (nxS l σ) T=u at *;go_wp2_with (first
   | (refine HN.out.mono ?_;rintro o w1 ⟨rfl,h1,k1⟩;have H1:Hid (srcF w0 b a n cap l (nxS l σ) w1∧onS b w w1):=⟨h1,k1⟩;clear h1 k1 HN)
   | (refine (HM.out T (T:Int) rfl _ H1.out.1 (by omega)).mono ?_;rintro o w2 ⟨rfl,h2,k2⟩;have H2:Hid (srcF w0 b a n cap l (nxS l (nxS l σ)) w2∧onS b w w2):=⟨h2,H1.out.2.trans k2⟩;clear h2 k2;rw[hu];clear hu))
  go_ret;rw[HTT.out,HE.out]
  exact⟨by simp;try omega,H2.out⟩
end Go.Proofs.YtkfcfigbgmbaiaaGreat
