import Derived.Test.YtnfmjckkibdcaaaGreatDoorK21
import Derived.Deep.CutBlock
namespace Go.Proofs.YtnfmjckkibdcaaaGreatDoor
open Option renaming none->nn,some->sQ
set_option maxRecDepth 20000
open Go.RowKit
set_option linter.all false
set_option maxHeartbeats 16000000
open Go.Value renaming int->I,slice->sL,bool->bO,pointer->pT,agg->aG
open Go.IntKind renaming i64->J,u32->zn
open Go.Ending renaming returned->rT
open Go.Proofs.Tryz renaming prog->Tp
variable {w0 w W:World} {b d f i n cap g:Nat} {o o2:List Nat} {st e r:Bool} {rr:Nat × Nat} {D:List (Nat × List Nat)} {v:Value} {a:Option Addr} {R:List Value}
def AF {l:List Nat} {sum:Nat} (hi:i<4294967296) (hd:d<=15) (hs:sum<32768) (hl:l.length<=8) (hb:∀ x ∈ l,x<256):cB f e i r d l sum<18446744073709551616:=by
 have h9:dB l<18446744073709551616:=nL (rM l hb) (nT (qt (by decide) hl) (by decide));have hq:i / 2 ^ 18<=i:=Nat.div_le_self _ _;have hb1:∀ b:Bool,b.toNat<2:=fun b=>by cases b <;> decide
 have:=hb1 (r || e);have:=hb1 e;have:=hb1 r;unfold cB;repeat' split
 all_goals omega
def yi:bM f e r d<=64:=by
 unfold bM dlN;repeat' split
 all_goals omega
def yR {t:Nat} (h:f<t) (ht:t=10\/t=11\/t=15) (h1:11<=f\/f<=10):f<bF f e r d/\bF f e r d<=t:=by
 unfold bF;repeat' split
 all_goals omega
structure fI (w0 w:World) (b:Nat) (o:List Nat) (st:Bool) (rr:Nat × Nat) (X:Obj) (D:List (Nat × List Nat)) (v:Value) (W:World):Prop where
 s:bwS w0 b (aO st o (bS D)) st (fY st (aO st o (bS D)) rr) W
 ow:bB W (w.heap.size+1) v (bp st o D)
 x:W.heap[w.heap.size]?=sQ X
 k:Lib.OthersKept 125 (sQ b) w W
 bel:Below b w W
 z:b<w.heap.size
def fI.below {X:Obj} {W':World} (h:fI w0 w b o st rr X D v W) (hb:Bl W W'):fI w0 w b o st rr X D v W':=by
 have hz:w.heap.size<W.heap.size:=by have:=h.x;rw[qR] at this;exact this.1
 refine⟨h.s.below hb,h.ow.below hb,(hb.block _ hz).trans h.x,?_,h.bel.trans (hb.mono (by have:=h.z;omega)),h.z⟩;intro k ob h1 h2 h3;have h4:=h.k k ob h1 h2 h3;have hk:k<W.heap.size:=by rw[qR] at h4;exact h4.1
 exact (hb.block k hk).trans h4
def fI.size {X:Obj} (h:fI w0 w b o st rr X D v W):w.heap.size<W.heap.size:=by have:=h.x;rw[qR] at this;exact this.1
def zK (st:Bool) (l:List Nat):∀ o,o.length<=(aO st o l).length:=by
 induction l with
 | nil=>intro o;exact nR _
 | cons a l ih=>
  intro o;refine nT ?_ (ih (js st o a));cases st
  .simp[js]
  .show o.length<=(M.kL o a).length;unfold M.kL;split <;> simp
structure gI (w0 w:World) (b:Nat) (o:List Nat) (st:Bool) (rr:Nat × Nat) (X:Obj) (o2:List Nat) (D:List (Nat × List Nat)) (v:Value) (g:Nat) (R:List Value) (W:World):Prop where
 s:bwS w0 b o2 st (fY st o2 rr) W
 ow:bB W (w.heap.size+1) v (bp st o D)
 x:W.heap[w.heap.size]?=sQ X
 q:blk W g R 299
 k:Lib.OthersKept 125 (sQ b) w W
 bel:Below b w W
 z:b<w.heap.size
def Ey:(Tp.info? 299).map (·.size)=sQ 3:=kr
def EM {x y z:Int}:(#[I J x,I J y,I J z]:Array Value).all (·.oneCell')=true:=by simp[Value.oneCell']
def jU:(Tp.info? 47).map (·.size)=sQ 5:=kr
def fI.box (h:fI w0 w b o st rr (frC e i r (d:Int) a n cap 47) D v W):W.rangeAt w.heap.size 0 [bO e,I zn (i:Int),bO r,I J (d:Int),sL a n cap]:=by
 obtain⟨c0,c1,c2,c3,c4⟩:=cn h.x;intro j u hj;match j,hj with
 | 0,hj=>simp at hj;subst hj;exact c0
 | 1,hj=>simp at hj;subst hj;exact c1
 | 2,hj=>simp at hj;subst hj;exact c2
 | 3,hj=>simp at hj;subst hj;exact c3
 | 4,hj=>simp at hj;subst hj;exact c4
def fI.len {X:Obj} (h:fI w0 w b o st rr X D v W):W.cell? ⟨b,0,nn⟩=sQ (I J ((aO st o (bS D)).length:Int)):=by
 obtain⟨⟨vw,hbw,_⟩,_⟩:=h.s;exact (bw5 hbw).1.1
def gI.box (h:gI w0 w b o st rr (frC e i r (d:Int) a n cap 47) o2 D v g R W):W.rangeAt w.heap.size 0 [bO e,I zn (i:Int),bO r,I J (d:Int),sL a n cap]:=by
 obtain⟨c0,c1,c2,c3,c4⟩:=cn h.x;intro j u hj;match j,hj with
 | 0,hj=>simp at hj;subst hj;exact c0
 | 1,hj=>simp at hj;subst hj;exact c1
 | 2,hj=>simp at hj;subst hj;exact c2
 | 3,hj=>simp at hj;subst hj;exact c3
 | 4,hj=>simp at hj;subst hj;exact c4
def gI.len {X:Obj} (h:gI w0 w b o st rr X o2 D v g R W):W.cell? ⟨b,0,nn⟩=sQ (I J (o2.length:Int)):=by
 obtain⟨⟨vw,hbw,_⟩,_⟩:=h.s;exact (bw5 hbw).1.1
def lj (nx:Nat->Nat) (bt:Nat->List Nat):∀ k f t,(iG nx bt k f t).length<=k
 | 0,_,_=>nR _
 | k+1,f,t=>by
  unfold iG;split
  .simp
  .simp only[Qb];have:=lj nx bt k (nx f) t;omega
def i1 (w0 w:World) (b:Nat) (o:List Nat) (st:Bool) (rr:Nat × Nat) (h:bwS w0 b o st (fY st o rr) w) (hg:good st o) (e:Bool) (i:Nat) (r:Bool) (d:Nat) (a:Option Addr) (n cap:Nat) (l:List Nat) (sum fr t:Nat)
  (hB:∀ W,Below b w W->iB W a n cap l/\W.rangeAt 0 0 bV/\0<W.heap.size) (hi:i<4294967296) (hd:d<=15) (hn:n<=8) (hs:sum<32768)
  (h1:1<=fr) (hft:fr<t) (ht:t=10\/t=11\/t=15) (hT:o.length+2*(bS (lay e i r d l sum fr t)).length<=3000) (hL:∀ x ∈ bS (lay e i r d l sum fr t),M.isL x) :
  Calls Tp 213 #[pT (sQ ⟨b,0,nn⟩),frV e i r (d:Int) a n cap,I J (sum:Int),I J (fr:Int),I J (t:Int)] w fun o' w'=>∃ v,o' = rT v/\bwS w0 b (aO st o (bS (lay e i r d l sum fr t))) st (fY st (aO st o (bS (lay e i r d l sum fr t))) rr) w'/\bB w' (w.heap.size+1) v (bp st o (lay e i r d l sum fr t))/\Lib.OthersKept 125 (sQ b) w w'/\Below b w w':=by
 have hz:b<w.heap.size:=by obtain⟨⟨v,hh,_⟩,_⟩:=h;exact (bw5 hh).2.2
 have hll:l.length<=8:=by have:=(hB w (bW _ _)).1.len;omega
 have hsm:=(hB w (bW _ _)).1.small;have HVL:Hid (∀ f,cB f e i r d l sum<18446744073709551616):=fun f=>AF hi hd hs hll hsm;have H0:Hid (fI w0 w b o st rr (frC e i r (d:Int) a n cap 47) [] (sL nn 0 0) (w.alloc (frC e i r (d:Int) a n cap 47))):=by
  refine⟨?_,⟨by simp[bp,spV],.inl ⟨rfl,rfl⟩⟩,by show (w.heap.push _)[w.heap.size]?=_;simp,(QW _ _ _).alloc _,(bW _ _).alloc (qB hz) _,hz⟩;exact h.below qw
 have HB:=ah hB;have HG:=ah hg;have HT:=ah hT;have HL:=ah hL;have HX:Hid (∀ f:Nat,1<=f->f<=14->∀ X,Below b w X->Calls Tp 254 #[I J (f:Int),frV e i r (d:Int) a n cap] X fun o w'=>o = rT (aG #[I J (f:Int),I J (bM f e r d:Int),I J (bF f e r d:Int)])/\Bl X w'):=fun f h1 h2 X hX=>FM X (hB X hX).2.1 (hB X hX).2.2 f h1 h2 e i r d hd a n cap;have HV:Hid (∀ f:Nat,1<=f->f<=14->∀ X,Below b w X->Calls Tp 259 #[I J (f:Int),frV e i r (d:Int) a n cap,I J (sum:Int)] X fun o w'=>o = rT (I .u64 (cB f e i r d l sum:Int))/\Bl X w'):=fun f h1 h2 X hX=>fvN X f h1 h2 e i r d a n cap l sum (hB X hX).1 hi hd hn hs;have HA:=ah (qH h1 (qH hft ht));clear h hg hB hT hL hll hsm h1 hft ht;go_enter Tryz.func213,Tryz.ntmps213;go_wp2_with fail;go_loopw [11,12] (fun v fv wr=>∃ (D:List (Nat × List Nat)) (k f:Nat),fv = I J (f:Int)/\(D++iG (fun f=>bF f e r d) (cG e i r d l sum) k f t=lay e i r d l sum fr t/\t<=f+k/\1<=f/\f<=t)/\fI w0 w b o st rr (frC e i r (d:Int) a n cap 47) D v wr) (fun _ i _=>((t:Int)-intOf i).toNat);case atStart=>exact⟨[],16,fr,rfl,⟨rfl,by have:=HA.o;omega,HA.o.1,by have:=HA.o;omega⟩,H0.o⟩
 case round=>
  obtain⟨D,k,f,rfl,hD,hF⟩:=hrel;have HF:=ah hF;have HD:=ah hD;clear hF hD H0;by_cases hft:f=t
  .subst hft;have hDl:D=lay e i r d l sum fr f:=by
    have e0:iG (fun f=>bF f e r d) (cG e i r d l sum) k f f=[]:=by cases k <;> simp[iG]
    have:=HD.o.1;rw[e0,Qw] at this;exact this
   subst hDl;have hb0:((f:Int) != (f:Int))=false:=pQ;go_wp2_with fail;go_ret;exact⟨_,rfl,HF.o.s,HF.o.ow,HF.o.k,HF.o.bel⟩
  .obtain⟨k,rfl⟩ : ∃ k',k=k'+1:=⟨k-1,by have:=HD.o;omega⟩
   have hflt:f<t:=by have:=HD.o;omega
   have hf1:1<=f:=HD.o.2.2.1;have ht15:t<=15:=by have:=HA.o;omega
   have hf14:f<=14:=om;have hnx:=yR (e:=e) (r:=r) (d:=d) hflt HA.o.2.2 om;have HE:Hid (D++[(f,cG e i r d l sum f)]++iG (fun f=>bF f e r d) (cG e i r d l sum) k (bF f e r d) t=lay e i r d l sum fr t):=by
    show _=_;have:=HD.o.1;rw[iG,zb hft] at this;rw[<- this];simp
   have hbn:((f:Int) != (t:Int))=true:=by simp;omega
   obtain⟨c0,c1,c2,c3,c4⟩:=cn HF.o.x;obtain⟨⟨vw,hbw,_⟩,_⟩:=HF.o.s;obtain⟨⟨d0,_⟩,_,hbz⟩:=bw5 hbw;have hwz:=HF.o.size;clear hbw;go_upto_region 4 with fail
   go_cut [13,14] (fun s13 s14 wx=>∃ g,s13 = pT (sQ ⟨g,0,nn⟩)/\s14 = I J ((aO st o (bS D)).length:Int)/\blk wx g [I J (f:Int),I J (bM f e r d:Int),I J (bF f e r d:Int)] 299/\wr.heap.size<=g/\Bl wr wx);case first=>
    have HXf:Hid (∀ X,Bl wr X->Calls Tp 254 #[I J (f:Int),.agg [bO e,I zn (i:Int),bO r,I J (d:Int),sL a n cap].toArray] X fun y w'=>y = rT (.agg [I J (f:Int),I J (bM f e r d:Int),I J (bF f e r d:Int)].toArray)/\Bl X w'):=fun X hX=>HX.o f hf1 hf14 X (HF.o.below hX).bel;clear HX HV HB HVL HT HL d0 c0 c1 c2 c3 c4;refine QK (S:=fun X=>Bl wr X) kr ?_;have hS:Bl wr wr.drew:=(bW _ _).drew;change wpAnyH Tp _ _ _ _ _ _ _ wr.drew;generalize wr.drew=v0 at *;refine wV 0 (I J (f:Int)) ?_ hS ?_
    .intro W hSw;clear hS;go_simp
    simp only[Act.put,aA,aB,aC,aD,aE];refine wU 1 (.agg [bO e,I zn (i:Int),bO r,I J (d:Int),sL a n cap].toArray) rfl (QM (by rfl) 47 _ rfl w.heap.size 0 rfl [bO e,I zn (i:Int),bO r,I J (d:Int),sL a n cap] _ (fun X h=>fI.box (HF.o.below h)) Tryz.underlying47 rfl jU) hS ?_;simp only[aZ];refine wV 3 (pT (sQ ⟨b,0,nn⟩)) ?_ hS ?_
    .intro W hSw;clear hS;go_simp
    simp only[aZ];refine wV 4 (pT (sQ ⟨b,0,nn⟩)) ?_ hS ?_
    .intro W hSw;clear hS;go_simp
    simp only[aZ];refine wV 5 (pT (sQ ⟨b,0,nn⟩)) ?_ hS ?_
    .intro W hSw;clear hS;go_simp
    simp only[aZ];refine wV 6 (I J ((aO st o (bS D)).length:Int)) ?_ hS ?_
    .intro W hSw;clear hS;have q0:=(HF.o.below hSw).len;clear hSw;go_simp
    simp only[aZ];refine QG (rs:=[2,7]) kr pQ ?_;refine Q9 rfl (fun K2 hK2=>?_) (Q9 rfl (fun K2 hK2=>?_) za)
    .go_simp;refine (HXf.o _ hS).mono ?_;rintro y v1 ⟨rfl,b1⟩;have hS1:=hS.trans (b1.mono hS.size);go_wp2_with fail;refine hK2.out _ _ hS1 (fun _=>?_);clear hS hK2 K2 b1;have hS:=hS1;clear hS1;refine QG (rs:=[7]) kr pQ ?_;refine Q9 rfl (fun K2 hK2=>?_) za;go_simp;have hgg:=hS.size;have hq:blk (v1.alloc (.cells [I J 0,I J 0,I J 0].toArray 299)) v1.heap.size ([]++[I J 0,I J 0,I J 0]++[]) 299:=blk.new v1 _ 299;have hS1:=hS.alloc hgg (.cells [I J 0,I J 0,I J 0].toArray 299);refine hK2.out _ _ hS1 (fun _=>?_);clear hS hK2 K2;have hS:=hS1;clear hS1;refine QG (rs:=[8]) kr pQ ?_;refine Q9 rfl (fun K2 hK2=>?_) za;rw[zc (by rfl)];refine QU (P:=Tp) 299 (.tmp 13) (.tmp 21) rfl v1.heap.size 0 [I J (f:Int),I J (bM f e r d:Int),I J (bF f e r d:Int)].toArray rfl rfl (hq.there 0 3 pQ) Ey EM ?_;have hF6:blk (World.setCells _ v1.heap.size 0 [I J (f:Int),I J (bM f e r d:Int),I J (bF f e r d:Int)]) v1.heap.size [I J (f:Int),I J (bM f e r d:Int),I J (bF f e r d:Int)] 299:=blk.put [] [I J 0,I J 0,I J 0] [] [I J (f:Int),I J (bM f e r d:Int),I J (bF f e r d:Int)] hq rfl;have hS6:Bl wr (World.setCells _ v1.heap.size 0 [I J (f:Int),I J (bM f e r d:Int),I J (bF f e r d:Int)]):=sW hgg 0 _ hS;refine hK2.out _ _ hS6 (fun _=>?_);clear hK2 K2 hS hq;generalize World.setCells _ v1.heap.size 0 [I J (f:Int),I J (bM f e r d:Int),I J (bF f e r d:Int)]=X6 at *;refine QG (rs:=[9]) kr pQ ?_;refine Q9 rfl (fun K2 hK2=>?_) za;go_simp;refine hK2.out _ _ hS6 (fun _=>?_);clear hK2 K2;refine QI kr ?_ _;go_wp2_with fail;go_meet;exact⟨v1.heap.size,rfl,rfl,hF6,hgg,hS6⟩
    .go_simp;have hgg:=hS.size;have hq0:blk (v0.alloc (.cells [I J 0,I J 0,I J 0].toArray 299)) v0.heap.size ([]++[I J 0,I J 0,I J 0]++[]) 299:=blk.new v0 _ 299;have hS1:=hS.alloc hgg (.cells [I J 0,I J 0,I J 0].toArray 299);refine hK2.out _ _ hS1 (fun _=>?_);clear hS hK2 K2;have hS:=hS1;clear hS1;refine QG (rs:=[2]) kr pQ ?_;refine Q9 rfl (fun K2 hK2=>?_) za;go_simp;refine (HXf.o _ hS).mono ?_;rintro y v1 ⟨rfl,b1⟩;have hS1:=hS.trans (b1.mono hS.size);have hq:=hq0.below b1;clear hq0;go_wp2_with fail;refine hK2.out _ _ hS1 (fun _=>?_);clear hS hK2 K2 b1;have hS:=hS1;clear hS1;refine QG (rs:=[8]) kr pQ ?_;refine Q9 rfl (fun K2 hK2=>?_) za;rw[zc (by rfl)];refine QU (P:=Tp) 299 (.tmp 13) (.tmp 21) rfl v0.heap.size 0 [I J (f:Int),I J (bM f e r d:Int),I J (bF f e r d:Int)].toArray rfl rfl (hq.there 0 3 pQ) Ey EM ?_;have hF6:blk (World.setCells _ v0.heap.size 0 [I J (f:Int),I J (bM f e r d:Int),I J (bF f e r d:Int)]) v0.heap.size [I J (f:Int),I J (bM f e r d:Int),I J (bF f e r d:Int)] 299:=blk.put [] [I J 0,I J 0,I J 0] [] [I J (f:Int),I J (bM f e r d:Int),I J (bF f e r d:Int)] hq rfl;have hS6:Bl wr (World.setCells _ v0.heap.size 0 [I J (f:Int),I J (bM f e r d:Int),I J (bF f e r d:Int)]):=sW hgg 0 _ hS;refine hK2.out _ _ hS6 (fun _=>?_);clear hK2 K2 hS hq;generalize World.setCells _ v0.heap.size 0 [I J (f:Int),I J (bM f e r d:Int),I J (bF f e r d:Int)]=X6 at *;refine QG (rs:=[9]) kr pQ ?_;refine Q9 rfl (fun K2 hK2=>?_) za;go_simp;refine hK2.out _ _ hS6 (fun _=>?_);clear hK2 K2;refine QI kr ?_ _;go_wp2_with fail;go_meet;exact⟨v0.heap.size,rfl,rfl,hF6,hgg,hS6⟩
   case rest=>
    obtain⟨g,rfl,rfl,hq,hgg,hbx⟩:=hcut;have hwr:b<wr.heap.size:=hbz;have HQ:=ah (qH hq (qH hgg (HF.o.below hbx)));clear hq hbx HF d0 c0 c1 c2 c3 c4 HX hbz hwz;go_upto_region 5 with fail
    go_cut [] (fun wx=>gI w0 w b o st rr (frC e i r (d:Int) a n cap 47) (aO st (aO st o (bS D)) (cG e i r d l sum f)) D u11 g [I J (f:Int),I J (bM f e r d:Int),I J (bF f e r d:Int)] wx);case first=>
     have HVf:Hid (∀ X,Bl wc X->Calls Tp 259 #[I J (f:Int),.agg [bO e,I zn (i:Int),bO r,I J (d:Int),sL a n cap].toArray,I J (sum:Int)] X fun y w'=>y = rT (I .u64 (cB f e i r d l sum:Int))/\Bl X w'):=fun X hX=>HV.o f hf1 hf14 X (HQ.o.2.2.below hX).bel;have HBT:Hid (∀ X,Bl wc X->Calls Tp 258 #[pT (sQ ⟨b,0,nn⟩),I .u64 (cB f e i r d l sum:Int),I J (bM f e r d:Int)] X fun y w'=>y = rT (.tuple #[])/\gI w0 w b o st rr (frC e i r (d:Int) a n cap 47) (aO st (aO st o (bS D)) (cG e i r d l sum f)) D u11 g [I J (f:Int),I J (bM f e r d:Int),I J (bF f e r d:Int)] w'):=by
      intro X hX;have h1:=HQ.o.2.2.below hX;have hq1:=HQ.o.1.below hX;have hgl:=HG.o.feedL (bS D) (fun x hx=>HL.o x (by rw[<- HE.o];simp[cj,hx]));have hlen:(bS D).length+bM f e r d<=(bS (lay e i r d l sum fr t)).length:=by
       rw[<- HE.o,cj,cj,qe,qe];have:(bS [(f,cG e i r d l sum f)]).length=bM f e r d:=by simp[bS,cG,M.DD]
       omega
      have hTT:=HT.o;refine (h1.s.since.bits hgl.1 (cB f e i r d l sum) (bM f e r d) (HVL.o f) yi om).mono ?_;rintro y w' ⟨rfl,q1,q2⟩;have hbz:b<w.heap.size:=h1.z;refine⟨rfl,⟨q1.row,h1.s.bel.trans q1.bel⟩,h1.ow.writer om q2,?_,?_,yE h1.k q2,h1.bel.trans q1.bel,h1.z⟩
      .exact q2 _ _ h1.x (by simp;omega) (by intro c fz e;cases e)
      .exact q2 _ _ hq1 (by have:=HQ.o.2.1;have:=hwr;simp;omega) (by intro c fz e;cases e)
     have HS0:Hid (∀ X,Bl wc X->X.rangeAt w.heap.size 0 [bO e,I zn (i:Int),bO r,I J (d:Int),sL a n cap]/\blk X g [I J (f:Int),I J (bM f e r d:Int),I J (bF f e r d:Int)] 299):=fun X hX=>⟨fI.box (HQ.o.2.2.below hX),HQ.o.1.below hX⟩
     have HSG:Hid (∀ X,gI w0 w b o st rr (frC e i r (d:Int) a n cap 47) (aO st (aO st o (bS D)) (cG e i r d l sum f)) D u11 g [I J (f:Int),I J (bM f e r d:Int),I J (bF f e r d:Int)] X->X.rangeAt w.heap.size 0 [bO e,I zn (i:Int),bO r,I J (d:Int),sL a n cap]/\blk X g [I J (f:Int),I J (bM f e r d:Int),I J (bF f e r d:Int)] 299):=fun X hX=>⟨gI.box hX,hX.q⟩
     clear HV HQ HVL HT HL HG HE HD HB;refine QK (S:=fun X=>X.rangeAt w.heap.size 0 [bO e,I zn (i:Int),bO r,I J (d:Int),sL a n cap]/\blk X g [I J (f:Int),I J (bM f e r d:Int),I J (bF f e r d:Int)] 299) kr ?_;have hB:Bl wc wc.drew:=(bW _ _).drew;change wpAnyH Tp _ _ _ _ _ _ _ wc.drew;generalize wc.drew=v0 at *;have hS:=HS0.o _ hB;refine wV 0 (pT (sQ ⟨b,0,nn⟩)) ?_ hS ?_
     .intro W hSw;clear hS;go_simp
     simp only[Act.put,aA,aB,aC,aD,aE];refine wV 1 (I J (f:Int)) ?_ hS ?_
     .intro W hSw;clear hS;go_simp
     simp only[aZ];refine wU 2 (.agg [bO e,I zn (i:Int),bO r,I J (d:Int),sL a n cap].toArray) rfl (QM (by rfl) 47 _ rfl w.heap.size 0 rfl [bO e,I zn (i:Int),bO r,I J (d:Int),sL a n cap] _ (fun X h=>h.1) Tryz.underlying47 rfl jU) hS ?_;simp only[aZ];refine wV 3 (I J (sum:Int)) ?_ hS ?_
     .intro W hSw;clear hS;go_simp
     simp only[aZ];refine wV 5 (pT (sQ ⟨g,1,nn⟩)) ?_ hS ?_
     .intro W hSw;clear hS;go_simp
     simp only[aZ];refine wV 6 (I J (bM f e r d:Int)) ?_ hS ?_
     .intro W hSw;clear hS;have q0:=hSw.2.cell 1 (I J (bM f e r d:Int)) rfl;clear hSw;go_simp
     simp only[aZ];refine QG (rs:=[4]) kr pQ ?_;refine Q9 rfl (fun K2 hK2=>?_) za;go_simp;refine (HVf.o _ hB).mono ?_;rintro y v1 ⟨rfl,b1⟩;have hB1:=hB.trans (b1.mono hB.size);go_wp2_with fail;refine hK2.out _ _ (HS0.o _ hB1) (fun _=>?_);clear hS hK2 K2 b1 hB;refine QG (rs:=[7]) kr pQ ?_;refine Q9 rfl (fun K2 hK2=>?_) za;go_simp;refine (HBT.o _ hB1).mono ?_;rintro y v2 ⟨rfl,hG⟩;go_wp2_with fail;refine hK2.out _ _ (HSG.o _ hG) (fun _=>?_);clear hK2 K2;refine QI kr ?_ _;have HGG:=ah hG;clear hG hB1;go_wp2_with fail;go_meet;exact HGG.o
    case rest=>
     have HGG:=ah hcut;clear hcut HV;have hlen1:(aO st o (bS D)).length<=3000:=by
      have hgl:=HG.o.feedL (bS D) (fun x hx=>HL.o x (by rw[<- HE.o];simp[cj,hx]));have hlen:(bS D).length<=(bS (lay e i r d l sum fr t)).length:=by
       rw[<- HE.o,cj,cj,qe,qe];omega
      have:=HT.o;omega
     have hle:=zK st (cG e i r d l sum f) (aO st o (bS D));have hlen2:(aO st (aO st o (bS D)) (cG e i r d l sum f)).length<=3000:=by
      have e2:(aO st (aO st o (bS D)) (cG e i r d l sum f))=aO st o (bS (D++[(f,cG e i r d l sum f)])):=by rw[cj,pc];simp[bS]
      rw[e2];have hgl:=HG.o.feedL (bS (D++[(f,cG e i r d l sum f)])) (fun x hx=>HL.o x (by rw[<- HE.o,cj];simp[hx]));have hlen:(bS (D++[(f,cG e i r d l sum f)])).length<=(bS (lay e i r d l sum fr t)).length:=by
       rw[<- HE.o,cj (D++_),qe];omega
      have:=HT.o;omega
     have d0:=HGG.o.len;have HSP:Hid (bp st o (D++[(f,cG e i r d l sum f)])=bp st o D++[(f,(aO st o (bS D)).length,(aO st (aO st o (bS D)) (cG e i r d l sum f)).length-(aO st o (bS D)).length)]):=by
      show _=_;rw[jY,pc]
     have HO2:Hid (aO st o (bS (D++[(f,cG e i r d l sum f)]))=(aO st (aO st o (bS D)) (cG e i r d l sum f))):=by
      show _=_;rw[cj,pc];simp[bS]
     have hDlen:(bp st o D).length<=1000000:=by
      rw[fA];have h16:(lay e i r d l sum fr t).length<=16:=lj _ _ _ _ _;have:=congrArg List.length HE.o;rw[qe,qe] at this;omega
     have hwc:w.heap.size+1<=wc.heap.size:=by have:=HGG.o.x;rw[qR] at this;exact this.1
     clear HT HL HG HVL HB;generalize (aO st (aO st o (bS D)) (cG e i r d l sum f))=o2 at *;generalize (aO st o (bS D)).length=n1 at *;go_wp2_with (at_builtin;refine Ar wc wc rfl (.tmp 34) (.tmp 44) rfl (w.heap.size+1) _ (bp st o D) (f,n1,o2.length-n1) _ _ _ rfl rfl (by show _=((o2.length-n1:Nat):Int);omega) rfl HGG.o.ow rfl hDlen hwc (bW _ _) ?_);intro v' w' q1 q2 q3 q4;have HNF:Hid (fI w0 w b o st rr (frC e i r (d:Int) a n cap 47) (D++[(f,cG e i r d l sum f)]) v' w'/\blk w' g [I J (f:Int),I J (bM f e r d:Int),I J (bF f e r d:Int)] 299):=by
      have hG:=HGG.o;have hz:=hG.z;refine⟨⟨?_,?_,?_,?_,?_,hz⟩,?_⟩
      .rw[HO2.o];exact hG.s.spans q2 om q3
      .rw[HSP.o];exact q1
      .exact (q2.block _ om).trans hG.x
      .intro kk ob a1 a2 a3;have h4:=hG.k kk ob a1 a2 a3;have hk:kk<w.heap.size:=by rw[qR] at a1;exact a1.1
       exact (q2.block kk om).trans h4
      .exact hG.bel.trans (q2.mono om)
      .exact q3 _ _ hG.q pQ (by intro c fz e;cases e)
     have e2:=HNF.o.2.cell 2 (I J (bF f e r d:Int)) rfl;clear q1 q2 q3 q4 HGG d0;go_wp2_with fail;go_roundw;case rel=>exact⟨D++[(f,cG e i r d l sum f)],k,bF f e r d,by go_num,⟨HE.o,by have:=HD.o;omega,om,hnx.2⟩,HNF.o.1⟩
     case measure=>simp[intOf];omega
end Go.Proofs.YtnfmjckkibdcaaaGreatDoor
