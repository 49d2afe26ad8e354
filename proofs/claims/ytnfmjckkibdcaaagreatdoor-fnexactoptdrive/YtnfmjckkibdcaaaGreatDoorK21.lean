import Derived.Test.YtnfmjckkibdcaaaGreatDoorK16
import Derived.Deep.DeepCutAuto
import Derived.Test.YtnfmjckkibdcaaaGreatDoorK19
import Derived.Test.YtnfmjckkibdcaaaGreatDoorProg
import Derived.WalkKit
import Derived.WalkSpells
import Derived.WalkLawsBesides
import Derived.Deep.QuietTactic
import Derived.BigQuiet
import Derived.Lib.OthersKept
import Derived.Laws.IdiomStrings
import Derived.Deep.RegionWith
import Derived.Deep.RegionHeld3
namespace Go.Proofs.YtnfmjckkibdcaaaGreatDoor
open Option renaming none->nn,some->sQ
set_option maxRecDepth 20000
open Go.RowKit
set_option linter.all false
set_option maxHeartbeats 16000000
open Go.Value renaming int->I,slice->sL,bool->bO,pointer->pT,agg->aG
open Go.IntKind renaming i64->J
open Go.Ending renaming returned->rT
open Go.Proofs.Tryz renaming prog->Tp
def Ap (w:World) (b g cap m n q r x:Nat) (L:Nat) (hL:L<2) (hn:n<=4000)
  (c0:w.cell? ⟨b,0,nn⟩=sQ (I J (n:Int))) (c1:w.cell? ⟨b,1,nn⟩=sQ (sL (sQ ⟨g,0,nn⟩) m cap)) (c2:w.cell? ⟨b,2,nn⟩=sQ (bO true))
  (f0:w.frozen? ⟨b,0,nn⟩=false) (hgb:¬ b=g)
  (e3:(n:Int).tdiv 64=(q:Int)) (e4:(n:Int).tmod 64=(r:Int)) (hr:((r:Int) == 0)=false) (hr2:r<64) (hq:q<m) (hq3:q<=1000) (hc:w.cell? ⟨g,q,nn⟩=sQ (I .u64 (x:Int))) (hf:w.frozen? ⟨g,q,nn⟩=false)
  (Q R:World->Prop) (fl:Bool)
  (hhe:∀ X,X=((w.setCell ⟨g,q,nn⟩ (I .u64 (bits BinOp.or IntKind.u64 (x:Int) (IntKind.u64.wrap ((L:Int)*2 ^ (63-r)))))).setCell ⟨b,0,nn⟩ (I J ((n:Int)+1))).drew->Calls Tp 248 #[pT (sQ ⟨b,3,nn⟩),I .i32 (48+(L:Int))] X fun o w'=>o = rT (.tuple #[])/\Q w')
  (hfu:∀ X,Q X->Calls Tp 249 #[pT (sQ ⟨b,3,nn⟩)] X fun o w'=>o = rT (bO fl)/\w'=X)
  (hre:fl=true->∀ X,Q X->Calls Tp 281 #[pT (sQ ⟨b,0,nn⟩),I J (1-(L:Int))] X fun o w'=>o = rT (.tuple #[])/\R w') :
  Calls Tp 281 #[pT (sQ ⟨b,0,nn⟩),I J (L:Int)] w fun o w'=>o = rT (.tuple #[])/\(if fl=true then R w' else Q w'):=by
 have HHE:=ah hhe;have HFU:=ah hfu;have HRE:=ah hre;clear hhe hfu hre;go_enter Tryz.func281,Tryz.ntmps281;go_wp2;go_region;go_wp2_with fail;refine (HHE.o _ rfl).mono ?_;rintro o w3 ⟨rfl,h3⟩;have H3:Hid (Q w3):=h3;clear h3;go_wp2_with fail;refine (HFU.o _ H3.o).mono ?_;rintro o w4 ⟨rfl,rfl⟩;cases fl
 .go_wp2_with fail;go_end0;exact⟨rfl,H3.o⟩
 .go_wp2_with fail;refine (HRE.o (by trivial) _ H3.o).mono ?_;rintro o w5 ⟨rfl,h5⟩;have H5:Hid (R w5):=h5;clear h5;go_wp2_with fail;go_end0;exact⟨rfl,H5.o⟩
def Ao (w:World) (b n q:Nat) (v:Value) (l:List Nat) (L:Nat) (hL:L<2) (hn:n<=4000) (hl:l.length=q) (hbz:b<w.heap.size) (own:an w (b+1) v l)
  (c0:w.cell? ⟨b,0,nn⟩=sQ (I J (n:Int))) (c1:w.cell? ⟨b,1,nn⟩=sQ v) (c2:w.cell? ⟨b,2,nn⟩=sQ (bO true))
  (f0:w.frozen? ⟨b,0,nn⟩=false) (f1:w.frozen? ⟨b,1,nn⟩=false)
  (e3:(n:Int).tdiv 64=(q:Int)) (e4:(n:Int).tmod 64=0) (hq3:q<=1000)
  (Q R:World->Prop) (fl:Bool)
  (hhe:∀ w1 g cp,an w1 (b+1) (sL (sQ ⟨g,0,nn⟩) (q+1) cp) (l++[0])->Below (b+1) w w1->Lib.OthersKept 125 nn w w1->∀ X,X=(((w1.setCell ⟨b,1,nn⟩ (sL (sQ ⟨g,0,nn⟩) (q+1) cp)).setCell ⟨g,q,nn⟩ (I .u64 (bits BinOp.or IntKind.u64 0 ((L:Int)*9223372036854775808)))).setCell ⟨b,0,nn⟩ (I J ((n:Int)+1))).drew->Calls Tp 248 #[pT (sQ ⟨b,3,nn⟩),I .i32 (48+(L:Int))] X fun o w'=>o = rT (.tuple #[])/\Q w')
  (hfu:∀ X,Q X->Calls Tp 249 #[pT (sQ ⟨b,3,nn⟩)] X fun o w'=>o = rT (bO fl)/\w'=X)
  (hre:fl=true->∀ X,Q X->Calls Tp 281 #[pT (sQ ⟨b,0,nn⟩),I J (1-(L:Int))] X fun o w'=>o = rT (.tuple #[])/\R w') :
  Calls Tp 281 #[pT (sQ ⟨b,0,nn⟩),I J (L:Int)] w fun o w'=>o = rT (.tuple #[])/\(if fl=true then R w' else Q w'):=by
 have HO:Hid (an w (b+1) v l):=own;have HL:Hid (l.length=q):=hl;have HHE:=ah hhe;have HFU:=ah hfu;have HRE:=ah hre;clear own hl hhe hfu hre;go_enter Tryz.func281,Tryz.ntmps281;go_wp2_with (at_builtin;refine nv w w rfl (.tmp 14) (.tmp 15) rfl (b+1) _ l 0 _ rfl rfl HO.o rfl (by have:=HL.o;omega) om (bW _ _) ?_);intro v1 w1 ho1 hb1 hk1 hz1;obtain⟨g,cp,e,hgB,hgz,hcp,hcm,hrow⟩:=ho1.open pQ;have hlen:(l++[0]).length=q+1:=by simp[HL.o]
 rw[hlen] at e hcp hrow;subst e;have hc:w1.cell? ⟨g,q,nn⟩=sQ (I .u64 0):=by
  rw[hrow.cell q om];have:=HL.o;subst this;simp[List.getD]
 have hf:=hrow.free q om;have d0:=(hb1.cell (p:=⟨b,0,nn⟩) pQ).trans c0;have d2:=(hb1.cell (p:=⟨b,2,nn⟩) pQ).trans c2;have d1:=(hb1.cell (p:=⟨b,1,nn⟩) pQ).trans c1;have g0:=(hb1.frozen (p:=⟨b,0,nn⟩) pQ).trans f0;have g1:=(hb1.frozen (p:=⟨b,1,nn⟩) pQ).trans f1;have HR:Hid (an w1 (b+1) (sL (sQ ⟨g,0,nn⟩) (q+1) cp) (l++[0])/\Below (b+1) w w1/\Lib.OthersKept 125 nn w w1):=⟨ho1,hb1,hk1⟩
 have hgb:¬ b=g:=om;clear ho1 hb1 hk1 hrow hlen c0 c1 c2 f0 f1 hcm;go_wp2;go_region;go_wp2_with fail;refine (HHE.o w1 g cp HR.o.1 HR.o.2.1 HR.o.2.2 _ rfl).mono ?_;rintro o w3 ⟨rfl,h3⟩;have H3:Hid (Q w3):=h3;clear h3;go_wp2_with fail;refine (HFU.o _ H3.o).mono ?_;rintro o w4 ⟨rfl,rfl⟩;cases fl
 .go_wp2_with fail;go_end0;exact⟨rfl,H3.o⟩
 .go_wp2_with fail;refine (HRE.o (by trivial) _ H3.o).mono ?_;rintro o w5 ⟨rfl,h5⟩;have H5:Hid (R w5):=h5;clear h5;go_wp2_with fail;go_end0;exact⟨rfl,H5.o⟩
variable {o:List Nat} {w w0 w1:World} {b L c g cp:Nat} {r:Nat × Nat} {st:Bool}
def um (o:List Nat) (q:Nat) (h:q<(wl o).length):(wl o)[q]=wq (ae o) o.length q:=Hb (ae o) o.length q h
def zv (h:L<2):M.isL (48+L):=by unfold M.isL;omega
def ic (ho:∀ x ∈ o,M.isL x) (hc:M.isL c):∀ x ∈ o++[c],M.isL x:=by
 intro x hx;rw[qC] at hx;rcases hx with hx|hx
 .exact ho x hx
 .simp at hx;subst hx;exact hc
def CH (h:bwS w0 b o st r w) (ho:∀ x ∈ o,M.isL x) (hL:L<2) (hr:o.length % 64=0)
  (h1:an w1 (b+1) (sL (sQ ⟨g,0,nn⟩) (o.length / 64+1) cp) (wl o++[0])) (hb:Below (b+1) w w1) (hk:Lib.OthersKept 125 nn w w1) {X:World}
  (e:X=(((w1.setCell ⟨b,1,nn⟩ (sL (sQ ⟨g,0,nn⟩) (o.length / 64+1) cp)).setCell ⟨g,o.length / 64,nn⟩ (I .u64 (bits BinOp.or IntKind.u64 0 ((L:Int)*9223372036854775808)))).setCell ⟨b,0,nn⟩ (I J ((o.length:Int)+1))).drew) :
  bwS w0 b (o++[48+L]) st r X/\Lib.OthersKept 125 (sQ b) w X:=by
 subst e;obtain⟨⟨v,hh,own⟩,hbel⟩:=h;have hg:=(QC h1 g (by simp[Value.ownBlock])).1;have hkk:=zj (b:=b) (q:=o.length / 64) (n:=o.length) hk (h1.kind g (by simp[Value.ownBlock])) om (X:=bits BinOp.or IntKind.u64 0 ((L:Int)*9223372036854775808)) (v:=sL (sQ ⟨g,0,nn⟩) (o.length / 64+1) cp);have hl:(wl o++[0]).length=o.length / 64+1:=by simp[dT];omega
 have hh1:=(hb.block b om).trans hh;have e:=C5 o (48+L) ho (zv hL) hr;rw[show 48+L-48=L by omega] at e;rw[<- hl] at h1;have:=B9 (w0:=w0) (q:=o.length / 64) (DO L hL) hh1 h1 om (hbel.trans (hb.mono om)) om e;rw[hl] at this;refine⟨⟨⟨_,?_,this.2.1⟩,this.2.2⟩,hkk⟩;rw[qe];exact this.1
def CI (hh:w.heap[b]?=sQ (.cells #[I J (o.length:Int),sL (sQ ⟨g,0,nn⟩) (wl o).length cp,bO st,I .i32 (r.1:Int),I J (r.2:Int)] 268)) (own:an w (b+1) (sL (sQ ⟨g,0,nn⟩) (wl o).length cp) (wl o)) (hbel:Below b w0 w) (hgB:b+1<=g) (ho:∀ x ∈ o,M.isL x) (hL:L<2) (hr:¬ o.length % 64=0) {X:World}
  (eX:X=((w.setCell ⟨g,o.length / 64,nn⟩ (I .u64 (bits BinOp.or IntKind.u64 (wq (ae o) o.length (o.length / 64):Int) (IntKind.u64.wrap ((L:Int)*2 ^ (63-o.length % 64)))))).setCell ⟨b,0,nn⟩ (I J ((o.length:Int)+1))).drew) :
  bwS w0 b (o++[48+L]) st r X/\Lib.OthersKept 125 (sQ b) w X:=by
 have hd:wq (ae o) o.length (o.length / 64) % 2 ^ (64-o.length % 64)=0:=by
  have:=C1 (ae o) (o.length / 64) (o.length % 64) om;rw[show 64*(o.length / 64)+o.length % 64=o.length by omega] at this;exact this
 have e:=C6 o (48+L) ho (zv hL) hr;rw[show 48+L-48=L by omega] at e;rw[Dx _ _ _ hL om (Ct (ae o) o.length (o.length / 64)) hd] at eX;subst eX;refine⟨⟨⟨sL (sQ ⟨g,0,nn⟩) (wl o).length cp,?_,?_⟩,?_⟩,?_⟩
 .show ((w.setCell ⟨g,o.length / 64,nn⟩ _).setCell ⟨b,0,nn⟩ _).heap[b]?=_;have h2:=(QB w ⟨g,o.length / 64,nn⟩ b (I .u64 ((wq (ae o) o.length (o.length / 64)+L*2 ^ (63-o.length % 64):Nat):Int)) (by show b≠g;omega)).trans hh;rw[QQ _ b 0 _ _ (I J ((o.length:Int)+1)) h2,qe];simp
 .rw[e];exact ((own.stored (o.length / 64) (wq (ae o) o.length (o.length / 64)+L*2 ^ (63-o.length % 64))).setCellO b 0 (I J ((o.length:Int)+1)) om).otherBlock fun _ _=>rfl
 .exact ((hbel.setCell (p:=⟨g,o.length / 64,nn⟩) (by simp;omega) _).setCell (p:=⟨b,0,nn⟩) pQ _).drew
 .exact ((m7 (QW 125 (sQ b) w) (own.kind g (by simp[Value.ownBlock])) _ _).setCell ⟨b,0,nn⟩ rfl _).drew
def idx (n:Nat):(n:Int).tdiv 64=((n / 64:Nat):Int)/\(n:Int).tmod 64=((n % 64:Nat):Int):=by
 refine⟨?_,?_⟩
 .rw[Qk om];omega
 .rw[qh om];omega
def bwS.bitF (h:bwS w0 b o false r w) (ho:∀ x ∈ o,M.isL x) (hL:L<2) (hn:o.length<=4000) :
  Calls Tp 281 #[pT (sQ ⟨b,0,nn⟩),I J (L:Int)] w fun o' w'=>o' = rT (.tuple #[])/\bwS w0 b (o++[48+L]) false r w'/\Lib.OthersKept 125 (sQ b) w w':=by
 have h':=h;obtain⟨⟨v,hh,own⟩,hbel⟩:=h';obtain⟨⟨c0,c1,c2,c3,c4⟩,fz,hbz⟩:=bw5 hh;obtain⟨e3,e4⟩:=idx o.length;by_cases hr:o.length % 64=0
 .refine (Cg w b o.length (o.length / 64) v (wl o) L hL hn (by rw[dT];omega) hbz own c0 c1 c2 (fz 0) (fz 1) e3 (by rw[e4,hr];rfl) om).mono ?_;rintro o' w' ⟨w1,g,cp,h1,hb,hk,rfl,e⟩;exact⟨rfl,CH h ho hL hr h1 hb hk e⟩
 .have hne:wl o≠[]:=by intro e;have:=dT o;rw[e] at this;simp at this;omega
  obtain⟨g,cp,rfl,hgB,hgz,hcp,hcm,hrow⟩:=own.open hne;have hlen:=dT o;have hq:o.length / 64<(wl o).length:=om;have hc:w.cell? ⟨g,o.length / 64,nn⟩=sQ (I .u64 (wq (ae o) o.length (o.length / 64):Int)):=by
   rw[hrow.cell _ hq,eB _ _ hq,um]
  refine (Ch w b g cp (wl o).length o.length (o.length / 64) (o.length % 64) (wq (ae o) o.length (o.length / 64)) L hL hn c0 c1 c2 (fz 0) om e3 e4 (by simp;omega) om hq om hc (hrow.free _ hq)).mono ?_;rintro o' w' ⟨rfl,e⟩;exact⟨rfl,CI hh own hbel hgB ho hL hr e⟩
def bwS.hear {X:World} (h:bwS w0 b o true r X) (hk:Lib.OthersKept 125 (sQ b) w X) (hc:c<=49) (ha:r.1<=49) (hr:r.2<=100000) :
  Calls Tp 248 #[pT (sQ ⟨b,3,nn⟩),I .i32 (c:Int)] X fun o' w'=>o' = rT (.tuple #[])/\bwS w0 b o true (M.C0 r c) w'/\Lib.OthersKept 125 (sQ b) w w':=by
 obtain⟨⟨v,hh,own⟩,hbel⟩:=h;refine (BH X b _ _ _ r.1 r.2 c hc ha hr hh).mono ?_;rintro o' w' ⟨rfl,h1,h2,h3⟩;refine⟨rfl,⟨⟨v,h1,own.otherBlock fun g hg=>h2 g ?_⟩,hbel.trans h3⟩,?_⟩
 .have:=(QC own g hg).1;omega
 .intro k ob hk1 hk2 hk3;have hkb:k≠b:=fun e=>hk2 (by rw[e]);rw[h2 k hkb];exact hk k ob hk1 hk2 hk3
def bwS.bitT (h:bwS w0 b o true r w) (ho:∀ x ∈ o,M.isL x) (hL:L<2) (hn:o.length<=4000) (ha:r.1<=49) (hr2:r.2<=100000) (R:World->Prop)
  (hre:(M.C0 r (48+L)).2=5->∀ X,bwS w0 b (o++[48+L]) true (M.C0 r (48+L)) X/\Lib.OthersKept 125 (sQ b) w X->Calls Tp 281 #[pT (sQ ⟨b,0,nn⟩),I J (1-(L:Int))] X fun o w'=>o = rT (.tuple #[])/\R w') :
  Calls Tp 281 #[pT (sQ ⟨b,0,nn⟩),I J (L:Int)] w fun o' w'=>o' = rT (.tuple #[])/\(if decide ((M.C0 r (48+L)).2=5)=true then R w' else bwS w0 b (o++[48+L]) true (M.C0 r (48+L)) w'/\Lib.OthersKept 125 (sQ b) w w'):=by
 have h':=h;obtain⟨⟨v,hh,own⟩,hbel⟩:=h';obtain⟨⟨c0,c1,c2,c3,c4⟩,fz,hbz⟩:=bw5 hh;obtain⟨e3,e4⟩:=idx o.length;have hfu:∀ X,bwS w0 b (o++[48+L]) true (M.C0 r (48+L)) X/\Lib.OthersKept 125 (sQ b) w X->Calls Tp 249 #[pT (sQ ⟨b,3,nn⟩)] X fun o w'=>o = rT (bO (decide ((M.C0 r (48+L)).2=5)))/\w'=X:=by
  rintro X ⟨⟨⟨v,hh,own⟩,hbel⟩,_⟩;exact BK X b _ _ _ _ _ hh
 have hre':decide ((M.C0 r (48+L)).2=5)=true->∀ X,bwS w0 b (o++[48+L]) true (M.C0 r (48+L)) X/\Lib.OthersKept 125 (sQ b) w X->Calls Tp 281 #[pT (sQ ⟨b,0,nn⟩),I J (1-(L:Int))] X fun o w'=>o = rT (.tuple #[])/\R w':=fun e=>hre (qP e);have e48:(48+(L:Int))=((48+L:Nat):Int):=om;by_cases hr:o.length % 64=0
 .refine Ao w b o.length (o.length / 64) v (wl o) L hL hn (by rw[dT];omega) hbz own c0 c1 c2 (fz 0) (fz 1) e3 (by rw[e4,hr];rfl) om _ R _ (fun w1 g cp h1 hb hk X e=>?_) hfu hre';obtain⟨q1,q2⟩:=CH h ho hL hr h1 hb hk e;rw[e48];exact q1.hear q2 om ha hr2
 .have hne:wl o≠[]:=by intro e;have:=dT o;rw[e] at this;simp at this;omega
  obtain⟨g,cp,rfl,hgB,hgz,hcp,hcm,hrow⟩:=own.open hne;have hlen:=dT o;have hq:o.length / 64<(wl o).length:=om;have hc:w.cell? ⟨g,o.length / 64,nn⟩=sQ (I .u64 (wq (ae o) o.length (o.length / 64):Int)):=by
   rw[hrow.cell _ hq,eB _ _ hq,um]
  refine Ap w b g cp (wl o).length o.length (o.length / 64) (o.length % 64) (wq (ae o) o.length (o.length / 64)) L hL hn c0 c1 c2 (fz 0) om e3 e4 (by simp;omega) om hq om hc (hrow.free _ hq) _ R _ (fun X e=>?_) hfu hre';obtain⟨q1,q2⟩:=CI hh own hbel hgB ho hL hr e;rw[e48];exact q1.hear q2 om ha hr2
def js (st:Bool) (o:List Nat) (c:Nat):List Nat:=if st=true then M.kL o c else o++[c]
def fY (st:Bool) (o:List Nat) (r:Nat × Nat):Nat × Nat:=if st=true then M.eP o else r
def yE {w2:World} (h1:Lib.OthersKept 125 (sQ b) w w1) (h2:Lib.OthersKept 125 (sQ b) w1 w2):Lib.OthersKept 125 (sQ b) w w2:=fun k ob a1 a2 a3=>h2 k ob (h1 k ob a1 a2 a3) a2 a3
def so (o:List Nat) (ho:∀ x ∈ o,M.isL x):(M.eP o).1<=49:=by
 by_cases h:o=[]
 .subst h;decide
 .obtain⟨l,a,rfl⟩:=M.sI o h;rw[M.de,M.rv];have:=ho a pQ;unfold M.isL at this;omega
def bwS.bit (h:bwS w0 b o st (fY st o r) w) (ho:∀ x ∈ o,M.isL x) (hL:L<2) (hn:o.length<=3998) (h4:st=true->(M.eP o).2<=4) :
  Calls Tp 281 #[pT (sQ ⟨b,0,nn⟩),I J (L:Int)] w fun o' w'=>o' = rT (.tuple #[])/\bwS w0 b (js st o (48+L)) st (fY st (js st o (48+L)) r) w'/\Lib.OthersKept 125 (sQ b) w w':=by
 cases st
 .exact h.bitF ho hL om
 .have h:bwS w0 b o true (M.eP o) w:=h;have ha:=so o ho;have h4:=h4 rfl;refine (h.bitT ho hL om ha om (fun W=>bwS w0 b (o++[48+L]++[48+(1-L)]) true (M.eP (o++[48+L]++[48+(1-L)])) W/\Lib.OthersKept 125 (sQ b) w W) (fun h5 X hX=>?_)).mono ?_
  .obtain⟨hX,hk⟩:=hX;have e1:(1-(L:Int))=((1-L:Nat):Int):=om;have ho1:=ic ho (zv hL);have et:M.C0 (M.eP o) (48+L)=M.eP (o++[48+L]):=(M.de _ _).symm;have et2:M.C0 (M.C0 (M.eP o) (48+L)) (48+(1-L))=M.eP (o++[48+L]++[48+(1-L)]):=by rw[M.de,M.de]
   have hne:(M.C0 (M.C0 (M.eP o) (48+L)) (48+(1-L))).2=1:=by
    have hf:=M.rv (M.eP o) (48+L);generalize M.C0 (M.eP o) (48+L)=z at *;obtain⟨z1,z2⟩:=z;have hf:z1=48+L:=hf;rw[M.fD z1 z2 _ om]
   rw[e1];refine (hX.bitT ho1 om (by simp;omega) (by rw[M.rv];omega) om (fun _=>False) (fun h6=>by rw[hne] at h6;omega)).mono ?_;rintro o' w' ⟨rfl,h7⟩;rw[zb (by rw[hne];decide),et2] at h7;exact⟨rfl,h7.1,yE hk h7.2⟩
  .rintro o' w' ⟨rfl,h7⟩;refine⟨rfl,?_⟩;have et:M.C0 (M.eP o) (48+L)=M.eP (o++[48+L]):=(M.de _ _).symm;rw[et] at h7;unfold js fY M.kL;rw[zc rfl,zc rfl,show 97-(48+L)=48+(1-L) by omega];by_cases h5:(M.eP (o++[48+L])).2=5
   .rw[zc (by simpa using h5)] at h7;rw[zc h5];exact h7
   .rw[zb (by simpa using h5)] at h7;rw[zb h5];exact h7
variable {st:Bool} {o:List Nat}
def aO (st:Bool) (o l:List Nat):List Nat:=l.foldl (js st) o
def tM (st:Bool) (o l:List Nat) (c:Nat):aO st o (l++[c])=js st (aO st o l) c:=by simp[aO]
def pc (st:Bool) (o l m:List Nat):aO st o (l++m)=aO st (aO st o l) m:=by simp[aO]
def j9 (o l:List Nat):aO false o l=o++l:=by
 induction l generalizing o with
 | nil=>simp[aO]
 | cons a l ih=>show aO false (js false o a) l=_;rw[ih];simp[js]
def tL (l:List Nat):aO true [] l=M.fP l:=by
 unfold aO M.fP;congr 1
structure good (st:Bool) (o:List Nat):Prop where
 l:∀ x ∈ o,M.isL x
 r:st=true->(M.eP o).2<=4
def good.nil (st:Bool):good st []:=⟨(fun x hx=>by cases hx),fun _=>by decide⟩
def good.feed {c:Nat} (h:good st o) (hc:M.isL c):good st (js st o c)/\(js st o c).length<=o.length+2:=by
 cases st
 .refine⟨⟨ic h.l hc,fun e=>by cases e⟩,?_⟩;simp[Go.Proofs.YtnfmjckkibdcaaaGreatDoor.js]
 .have h4:=h.r rfl;show good true (M.kL o c)/\(M.kL o c).length<=_;unfold M.kL;have hle:=M.vd (M.eP o) c;have hopp:=M.uV hc;split
  .refine⟨⟨ic (ic h.l hc) hopp.1,fun _=>?_⟩,pQ⟩;rw[M.de,M.de];have hf:=M.rv (M.eP o) c;generalize M.C0 (M.eP o) c=z at *;obtain⟨z1,z2⟩:=z;have hf:z1=c:=hf;rw[M.fD z1 z2 _ (by rw[hf];exact hopp.2)];show 1<=4;decide
  .rename_i hne;refine⟨⟨ic h.l hc,fun _=>?_⟩,pQ⟩;rw[M.de] at hne ⊢;omega
def good.feedL (h:good st o):∀ l,(∀ x ∈ l,M.isL x)->good st (aO st o l)/\(aO st o l).length<=o.length+2*l.length:=by
 intro l;induction l generalizing o with
 | nil=>intro _;exact⟨h,by simp[Go.Proofs.YtnfmjckkibdcaaaGreatDoor.aO]⟩
 | cons a l ih=>
  intro hl;have h1:=h.feed (hl a pQ);have h2:=ih h1.1 (fun x hx=>hl x (by simp[hx]));refine⟨h2.1,?_⟩;have:(Go.Proofs.YtnfmjckkibdcaaaGreatDoor.aO st o (a :: l)).length<=(Go.Proofs.YtnfmjckkibdcaaaGreatDoor.js st o a).length+2*l.length:=h2.2;simp only[Qb];omega
def Fu (x d:Nat) (hx:x<18446744073709551616):wrap64 (bits BinOp.and IntKind.u64 ((x:Int) / 2 ^ d) 1)=((x / 2 ^ d % 2:Nat):Int):=by
 have e:(x:Int) / 2 ^ d=((x / 2 ^ d:Nat):Int):=by push_cast;rfl
 have hy:x / 2 ^ d<18446744073709551616:=Qj (Nat.div_le_self _ _) hx;rw[e];generalize x / 2 ^ d=y at *;have:=u64_and_nat y 1 hy (by decide);rw[show ((1:Nat):Int)=1 from rfl] at this;rw[this,Nat.and_two_pow_sub_one_eq_mod (n:=1)];unfold wrap64;omega
def wo (v c m:Nat) (h:m<c):M.num (v / 2 ^ m) (c-m)=M.num (v / 2 ^ (m+1)) (c-(m+1))++[48+v / 2 ^ m % 2]:=by
 have e:v / 2 ^ m / 2=v / 2 ^ (m+1):=by
  rw[qY,<- qI]
 have e2:c-m=(c-(m+1))+1:=om;rw[e2,M.num,e]
def bwS.bits {w0 w:World} {b:Nat} {r:Nat × Nat} (h:bwS w0 b o st (fY st o r) w) (hg:good st o) (v c:Nat) (hv:v<18446744073709551616) (hc:c<=64) (hn:o.length+2*c<=3990) :
  Calls Tp 258 #[pT (some ⟨b,0,none⟩),I .u64 (v:Int),I J (c:Int)] w fun o' w'=>o' = rT (.tuple #[])/\bwS w0 b (aO st o (M.num v c)) st (fY st (aO st o (M.num v c)) r) w'/\Lib.OthersKept 125 (some b) w w':=by
 have HG:=ah hg;have H0:=ah h;clear h hg;go_enter Tryz.func258,Tryz.ntmps258;go_wp2;go_loopw [6] (fun i wr=>∃ q:Nat,q<=c/\i = I J ((q:Int)-1)/\bwS w0 b (aO st o (M.num (v / 2 ^ q) (c-q))) st (fY st (aO st o (M.num (v / 2 ^ q) (c-q))) r) wr/\Lib.OthersKept 125 (some b) w wr) (fun i _=>(intOf i+1).toNat);case atStart=>exact⟨c,nR _,rfl,by simpa[M.num,aO] using H0.o,QW _ _ _⟩
 case round=>
  obtain⟨q,hq,rfl,hw,hk⟩:=hrel;by_cases hq0:q=0
  .subst hq0;rw[Nat.sub_zero,Nat.pow_zero,Nat.div_one] at hw;have HW:=ah hw;have HK:=ah hk;clear hw hk;go_wp2;go_end0;exact⟨rfl,HW.o,HK.o⟩
  .obtain⟨m,rfl⟩ : ∃ m,q=m+1:=⟨q-1,om⟩
   have hgl:=HG.o.feedL (M.num (v / 2 ^ (m+1)) (c-(m+1))) (M.FD _ _);rw[M.DD] at hgl;have HN:Hid (aO st o (M.num (v / 2 ^ m) (c-m))=js st (aO st o (M.num (v / 2 ^ (m+1)) (c-(m+1)))) (48+v / 2 ^ m % 2)):=by
    show _=_;rw[wo v c m om,tM]
   generalize aO st o (M.num (v / 2 ^ (m+1)) (c-(m+1)))=l1 at *;have hbit:=Fu v m hv;have HC:Hid (Calls Tp 281 #[pT (some ⟨b,0,none⟩),I J (wrap64 (Go.bits BinOp.and IntKind.u64 ((v:Int) / 2 ^ m) 1))] wr fun o' w'=>o' = rT (.tuple #[])/\bwS w0 b (js st l1 (48+v / 2 ^ m % 2)) st (fY st (js st l1 (48+v / 2 ^ m % 2)) r) w'/\Lib.OthersKept 125 (some b) wr w'):=by
    show Calls _ _ _ _ _;rw[hbit];exact hw.bit hgl.1.l om om hgl.1.r
   have HK:=ah hk;clear hw hk hgl hbit;go_wp2_with (go_at_call 281;refine HC.o.mono ?_;rintro o' w3 ⟨rfl,h3,k3⟩);have H3:=ah (qH h3 k3);clear h3 k3 HC;go_wp2_with fail;go_roundw;case rel=>exact⟨m,om,by go_num,by rw[HN.o];exact H3.o.1,yE HK.o H3.o.2⟩
   case measure=>simp[intOf]
open Go renaming World->Wd
def dB (l:List Nat):Nat:=l.foldl (fun v x=>256*v+x) 0
def i7 (l:List Nat) (x:Nat):dB (l++[x])=256*dB l+x:=by simp[dB]
def rM (l:List Nat) (h:∀ x ∈ l,x<256):dB l<256 ^ l.length:=by
 refine M.jf (P:=fun l=>(∀ x ∈ l,x<256)->dB l<256 ^ l.length) ?_ ?_ l h
 .intro _;decide
 .intro l a ih h;have h1:=ih (fun x hx=>h x (by simp[hx]));have h2:=h a pQ;rw[i7,qe,qm,qI];omega
def uP (n:Nat):∀ v,M.num v n=M.num (v % 2 ^ n) n:=by
 induction n with
 | zero=>intro v;rfl
 | succ n ih=>
  intro v;have e1:v % 2 ^ (n+1) / 2=v / 2 % 2 ^ n:=by
   rw[qI,Qt,Nat.mod_mul_right_div_self]
  have e2:v % 2 ^ (n+1) % 2=v % 2:=Nat.mod_mod_of_dvd _ ⟨2 ^ n,by rw[qI,Qt]⟩;show M.num (v / 2) n++[48+v % 2]=M.num (v % 2 ^ (n+1) / 2) n++[48+v % 2 ^ (n+1) % 2];rw[e1,e2,<- ih]
def yK (l:List Nat) (h:∀ x ∈ l,x<256):M.num (dB l) (8*l.length)=l.flatMap (fun x=>M.num x 8):=by
 refine M.jf (P:=fun l=>(∀ x ∈ l,x<256)->M.num (dB l) (8*l.length)=l.flatMap (fun x=>M.num x 8)) ?_ ?_ l h
 .intro _;rfl
 .intro l a ih h;have h1:=ih (fun x hx=>h x (by simp[hx]));have h2:=h a pQ;rw[i7,qe,qm,show 8*(l.length+1)=8*l.length+8 by omega,M.Eo];rw[List.flatMap_append,<- h1,show (256*dB l+a) / 2 ^ 8=dB l by omega,uP 8 (256*dB l+a),show (256*dB l+a) % 2 ^ 8=a by omega];simp
def pU (n:Nat) (h:n<=64):M.num 18446744073709551615 n=List.replicate n 49:=by
 have e:∀ n,M.num (2 ^ n-1) n=List.replicate n 49:=by
  intro n;induction n with
  | zero=>rfl
  | succ n ih=>
   have hp:0<2 ^ n:=qX pQ;show M.num ((2 ^ (n+1)-1) / 2) n++[48+(2 ^ (n+1)-1) % 2]=_;rw[show (2 ^ (n+1)-1) / 2=2 ^ n-1 by rw[qI];omega,show (2 ^ (n+1)-1) % 2=1 by rw[qI];omega,ih,List.replicate_succ']
 rw[uP n,<- e n];congr 1;have hd:2 ^ n ∣ 2 ^ 64:=Nat.pow_dvd_pow 2 h;obtain⟨k,hk⟩:=hd;have hp:0<2 ^ n:=qX pQ;have hk0:0<k:=by
  rcases Nat.eq_zero_or_pos k with h0|h0
  .rw[h0] at hk;simp at hk
  .exact h0
 have:18446744073709551615=2 ^ n*(k-1)+(2 ^ n-1):=by
  have h64:(18446744073709551616:Nat)=2 ^ n*k:=hk;have:2 ^ n*k=2 ^ n*(k-1)+2 ^ n:=by
   obtain⟨j,rfl⟩ : ∃ j,k=j+1:=⟨k-1,om⟩
   rw[Nat.mul_succ];rfl
  omega
 rw[this,Nat.mul_add_mod,Qp om]
def Ix (f:Bool) (w:Wd):Calls Tp 270 #[bO f] w fun o w'=>o = rT (I .u64 (f.toNat:Int))/\w'=w:=by
 cases f
 .go_enter Tryz.func270,Tryz.ntmps270;go_wp2;go_ret;exact⟨rfl,rfl⟩
 .go_enter Tryz.func270,Tryz.ntmps270;go_wp2;go_ret;exact⟨rfl,rfl⟩
def AZ (v x:Nat) (hv:v<72057594037927936) (hx:x<256):bits BinOp.or IntKind.u64 ((v:Int)*256) (x:Int)=((256*v+x:Nat):Int):=by
 have e:(v:Int)*256=((2 ^ 8*v:Nat):Int):=om;rw[e,u64_or_nat _ _ om om,<- Qe (i:=8) om]
def Fk (w:Wd) (a:Option Addr) (n cap:Nat) (l:List Nat) (h:iB w a n cap l) (hn:n<=8) :
  Calls Tp 282 #[sL a n cap] w fun o w'=>o = rT (I .u64 (dB l:Int))/\w'=w:=by
 have hlen:=h.len;by_cases hl:l=[]
 .subst hl;have hn0:n=0:=hlen;subst hn0;clear h hlen;go_enter Tryz.func282,Tryz.ntmps282;go_wp2;go_loopw [3,8] (fun v i wr=>v = I .u64 0/\i = I J 0/\wr=w) (fun _ _ _=>0);case atStart=>exact⟨rfl,rfl,rfl⟩
  case round=>
   obtain⟨rfl,rfl,rfl⟩:=hrel;go_wp2;go_ret;exact⟨rfl,rfl⟩
 .obtain⟨g,off,rfl,hc⟩:=h.cells hl;have hsm:=h.small;have HL:Hid (n=l.length):=hlen;have HC:=ah hc;have hgz:g<w.heap.size:=QD w _ (hc 0 (by have:=List.length_pos_iff.2 hl;omega));clear hlen h hc;go_enter Tryz.func282,Tryz.ntmps282;go_wp2;go_loopw [3,8] (fun v i wr=>∃ k:Nat,k<=n/\i = I J (k:Int)/\v = I .u64 (dB (l.take k):Int)/\wr=w) (fun _ i _=>((n:Int)-intOf i).toNat);case atStart=>exact⟨0,om,rfl,rfl,rfl⟩
  case round=>
   obtain⟨k,hk,rfl,rfl,rfl⟩:=hrel;by_cases hk0:k=n
   .subst hk0;have e:l.take k=l:=ze (by have:=HL.o;omega);rw[e];go_wp2;go_ret;exact⟨rfl,rfl⟩
   .have hkl:k<l.length:=by have:=HL.o;omega
    have hcx:=HC.o k hkl;have hx:=hsm _ (zh hkl);have hd:=rM (l.take k) (fun x hx=>hsm x (qL hx));rw[List.length_take_of_le om] at hd;have hd2:dB (l.take k)<72057594037927936:=nL hd (nT (qt (by decide) (show k<=7 by omega)) (by decide));have HN:Hid (dB (l.take (k+1))=256*dB (l.take k)+l[k]):=by
     show _=_;rw[qg hkl,i7]
    have HO:Hid (bits BinOp.or IntKind.u64 ((dB (l.take k):Int)*256) (l[k]:Int)=((256*dB (l.take k)+l[k]:Nat):Int)):=AZ _ _ hd2 hx;have hkn:k<n:=om;clear hd hk0;generalize l[k]=x at *;generalize dB (l.take k)=V at *;go_wp2;go_roundw;case rel=>
     refine⟨k+1,om,by go_num,?_,by trivial⟩;rw[HN.o,<- HO.o]
    case measure=>simp[intOf];omega
def cB (f:Nat) (e:Bool) (i:Nat) (r:Bool) (d:Nat) (l:List Nat) (sum:Nat):Nat:=
 if f=2 then (if e=true then i / 2 ^ 18 else i) else if f=3 then (r || e).toNat else if f=4 then e.toNat else if f=5 then i else if f=6 then r.toNat
 else if f=8 then d else if f=9 then dB l else if f=10 then sum else if f=11\/f=12\/f=13\/f=14 then 18446744073709551615 else 0
def F3 (w:Wd) (e:Bool) (i:Nat) (r:Bool) (d:Nat) (a:Option Addr) (n cap:Nat) (l:List Nat) (sum:Nat) (h:iB w a n cap l) (hi:i<4294967296) (hd:d<=15) (hn:n<=8) (hs:sum<32768) :
  Calls Tp 259 #[I J 1,frV e i r (d:Int) a n cap,I J (sum:Int)] w fun o w'=>o = rT (I .u64 (cB 1 e i r d l sum:Int))/\Bl w w':=by
 have HH:=ah h;clear h;go_enter Tryz.func259,Tryz.ntmps259;go_wp2;all_goals (go_ret;refine⟨?_,qw⟩;simp[cB])
def F2 (w:Wd) (e:Bool) (i:Nat) (r:Bool) (d:Nat) (a:Option Addr) (n cap:Nat) (l:List Nat) (sum:Nat) (h:iB w a n cap l) (hi:i<4294967296) (hd:d<=15) (hn:n<=8) (hs:sum<32768) :
  Calls Tp 259 #[I J 2,frV e i r (d:Int) a n cap,I J (sum:Int)] w fun o w'=>o = rT (I .u64 (cB 2 e i r d l sum:Int))/\Bl w w':=by
 cases e
 .have HH:=ah h;clear h;go_enter Tryz.func259,Tryz.ntmps259;go_wp2;all_goals (go_ret;refine⟨?_,qw⟩;simp[cB])
 .have HH:=ah h;clear h;go_enter Tryz.func259,Tryz.ntmps259;go_wp2;all_goals (go_ret;refine⟨?_,qw⟩;simp[cB])
def F1 (w:Wd) (e:Bool) (i:Nat) (r:Bool) (d:Nat) (a:Option Addr) (n cap:Nat) (l:List Nat) (sum:Nat) (h:iB w a n cap l) (hi:i<4294967296) (hd:d<=15) (hn:n<=8) (hs:sum<32768) :
  Calls Tp 259 #[I J 3,frV e i r (d:Int) a n cap,I J (sum:Int)] w fun o w'=>o = rT (I .u64 (cB 3 e i r d l sum:Int))/\Bl w w':=by
 cases r
 .have HH:=ah h;clear h;go_enter Tryz.func259,Tryz.ntmps259;go_wp2_with (go_at_call 270;refine (Ix _ _).mono ?_;rintro o w1 ⟨rfl,rfl⟩);all_goals (go_ret;refine⟨?_,qw⟩;simp[cB])
 .have HH:=ah h;clear h;go_enter Tryz.func259,Tryz.ntmps259;go_wp2_with (go_at_call 270;refine (Ix _ _).mono ?_;rintro o w1 ⟨rfl,rfl⟩);all_goals (go_ret;refine⟨?_,qw⟩;simp[cB])
def FZ (w:Wd) (e:Bool) (i:Nat) (r:Bool) (d:Nat) (a:Option Addr) (n cap:Nat) (l:List Nat) (sum:Nat) (h:iB w a n cap l) (hi:i<4294967296) (hd:d<=15) (hn:n<=8) (hs:sum<32768) :
  Calls Tp 259 #[I J 4,frV e i r (d:Int) a n cap,I J (sum:Int)] w fun o w'=>o = rT (I .u64 (cB 4 e i r d l sum:Int))/\Bl w w':=by
 have HH:=ah h;clear h;go_enter Tryz.func259,Tryz.ntmps259;go_wp2_with (go_at_call 270;refine (Ix _ _).mono ?_;rintro o w1 ⟨rfl,rfl⟩);all_goals (go_ret;refine⟨?_,qw⟩;simp[cB])
def FY (w:Wd) (e:Bool) (i:Nat) (r:Bool) (d:Nat) (a:Option Addr) (n cap:Nat) (l:List Nat) (sum:Nat) (h:iB w a n cap l) (hi:i<4294967296) (hd:d<=15) (hn:n<=8) (hs:sum<32768) :
  Calls Tp 259 #[I J 5,frV e i r (d:Int) a n cap,I J (sum:Int)] w fun o w'=>o = rT (I .u64 (cB 5 e i r d l sum:Int))/\Bl w w':=by
 have HH:=ah h;clear h;go_enter Tryz.func259,Tryz.ntmps259;go_wp2;all_goals (go_ret;refine⟨?_,qw⟩;simp[cB])
def FX (w:Wd) (e:Bool) (i:Nat) (r:Bool) (d:Nat) (a:Option Addr) (n cap:Nat) (l:List Nat) (sum:Nat) (h:iB w a n cap l) (hi:i<4294967296) (hd:d<=15) (hn:n<=8) (hs:sum<32768) :
  Calls Tp 259 #[I J 6,frV e i r (d:Int) a n cap,I J (sum:Int)] w fun o w'=>o = rT (I .u64 (cB 6 e i r d l sum:Int))/\Bl w w':=by
 have HH:=ah h;clear h;go_enter Tryz.func259,Tryz.ntmps259;go_wp2_with (go_at_call 270;refine (Ix _ _).mono ?_;rintro o w1 ⟨rfl,rfl⟩);all_goals (go_ret;refine⟨?_,qw⟩;simp[cB])
def FW (w:Wd) (e:Bool) (i:Nat) (r:Bool) (d:Nat) (a:Option Addr) (n cap:Nat) (l:List Nat) (sum:Nat) (h:iB w a n cap l) (hi:i<4294967296) (hd:d<=15) (hn:n<=8) (hs:sum<32768) :
  Calls Tp 259 #[I J 7,frV e i r (d:Int) a n cap,I J (sum:Int)] w fun o w'=>o = rT (I .u64 (cB 7 e i r d l sum:Int))/\Bl w w':=by
 have HH:=ah h;clear h;go_enter Tryz.func259,Tryz.ntmps259;go_wp2;all_goals (go_ret;refine⟨?_,qw⟩;simp[cB])
def FV (w:Wd) (e:Bool) (i:Nat) (r:Bool) (d:Nat) (a:Option Addr) (n cap:Nat) (l:List Nat) (sum:Nat) (h:iB w a n cap l) (hi:i<4294967296) (hd:d<=15) (hn:n<=8) (hs:sum<32768) :
  Calls Tp 259 #[I J 8,frV e i r (d:Int) a n cap,I J (sum:Int)] w fun o w'=>o = rT (I .u64 (cB 8 e i r d l sum:Int))/\Bl w w':=by
 have HH:=ah h;clear h;go_enter Tryz.func259,Tryz.ntmps259;go_wp2;all_goals (go_ret;refine⟨?_,qw⟩;simp[cB])
def FU (w:Wd) (e:Bool) (i:Nat) (r:Bool) (d:Nat) (a:Option Addr) (n cap:Nat) (l:List Nat) (sum:Nat) (h:iB w a n cap l) (hi:i<4294967296) (hd:d<=15) (hn:n<=8) (hs:sum<32768) :
  Calls Tp 259 #[I J 9,frV e i r (d:Int) a n cap,I J (sum:Int)] w fun o w'=>o = rT (I .u64 (cB 9 e i r d l sum:Int))/\Bl w w':=by
 have HH:=ah h;clear h;go_enter Tryz.func259,Tryz.ntmps259;go_wp2_with (go_at_call 282;refine (Fk _ a n cap l (HH.o.below qw) hn).mono ?_;rintro o w1 ⟨rfl,rfl⟩);all_goals (go_ret;refine⟨?_,qw⟩;simp[cB])
def Fe (w:Wd) (e:Bool) (i:Nat) (r:Bool) (d:Nat) (a:Option Addr) (n cap:Nat) (l:List Nat) (sum:Nat) (h:iB w a n cap l) (hi:i<4294967296) (hd:d<=15) (hn:n<=8) (hs:sum<32768) :
  Calls Tp 259 #[I J 10,frV e i r (d:Int) a n cap,I J (sum:Int)] w fun o w'=>o = rT (I .u64 (cB 10 e i r d l sum:Int))/\Bl w w':=by
 have HH:=ah h;clear h;go_enter Tryz.func259,Tryz.ntmps259;go_wp2;all_goals (go_ret;refine⟨?_,qw⟩;simp[cB])
def Fd (w:Wd) (e:Bool) (i:Nat) (r:Bool) (d:Nat) (a:Option Addr) (n cap:Nat) (l:List Nat) (sum:Nat) (h:iB w a n cap l) (hi:i<4294967296) (hd:d<=15) (hn:n<=8) (hs:sum<32768) :
  Calls Tp 259 #[I J 11,frV e i r (d:Int) a n cap,I J (sum:Int)] w fun o w'=>o = rT (I .u64 (cB 11 e i r d l sum:Int))/\Bl w w':=by
 have HH:=ah h;clear h;go_enter Tryz.func259,Tryz.ntmps259;go_wp2;all_goals (go_ret;refine⟨?_,qw⟩;simp[cB])
def Fc (w:Wd) (e:Bool) (i:Nat) (r:Bool) (d:Nat) (a:Option Addr) (n cap:Nat) (l:List Nat) (sum:Nat) (h:iB w a n cap l) (hi:i<4294967296) (hd:d<=15) (hn:n<=8) (hs:sum<32768) :
  Calls Tp 259 #[I J 12,frV e i r (d:Int) a n cap,I J (sum:Int)] w fun o w'=>o = rT (I .u64 (cB 12 e i r d l sum:Int))/\Bl w w':=by
 have HH:=ah h;clear h;go_enter Tryz.func259,Tryz.ntmps259;go_wp2;all_goals (go_ret;refine⟨?_,qw⟩;simp[cB])
def Fb (w:Wd) (e:Bool) (i:Nat) (r:Bool) (d:Nat) (a:Option Addr) (n cap:Nat) (l:List Nat) (sum:Nat) (h:iB w a n cap l) (hi:i<4294967296) (hd:d<=15) (hn:n<=8) (hs:sum<32768) :
  Calls Tp 259 #[I J 13,frV e i r (d:Int) a n cap,I J (sum:Int)] w fun o w'=>o = rT (I .u64 (cB 13 e i r d l sum:Int))/\Bl w w':=by
 have HH:=ah h;clear h;go_enter Tryz.func259,Tryz.ntmps259;go_wp2;all_goals (go_ret;refine⟨?_,qw⟩;simp[cB])
def Fa (w:Wd) (e:Bool) (i:Nat) (r:Bool) (d:Nat) (a:Option Addr) (n cap:Nat) (l:List Nat) (sum:Nat) (h:iB w a n cap l) (hi:i<4294967296) (hd:d<=15) (hn:n<=8) (hs:sum<32768) :
  Calls Tp 259 #[I J 14,frV e i r (d:Int) a n cap,I J (sum:Int)] w fun o w'=>o = rT (I .u64 (cB 14 e i r d l sum:Int))/\Bl w w':=by
 have HH:=ah h;clear h;go_enter Tryz.func259,Tryz.ntmps259;go_wp2;all_goals (go_ret;refine⟨?_,qw⟩;simp[cB])
def dlN (r:Bool) (d:Nat):Nat:=if r=true then 0 else min d 8
def bM (f:Nat) (e r:Bool) (d:Nat):Nat:=if f=2 then 11 else if f=5 then 18 else if f=7 then (if e=true then 2 else 1) else if f=8 then 4 else if f=9 then 8*dlN r d else if f=10 then 15 else if f=14 then 7 else 1
def bF (f:Nat) (e r:Bool) (d:Nat):Nat:=if f=4/\e=false then 7 else if f=8/\(r=true\/d=0) then 10 else f+1
def FM (w:World) (hg:w.rangeAt 0 0 bV) (hz:0<w.heap.size) (f:Nat) (h1:1<=f) (h2:f<=14) (e:Bool) (i:Nat) (r:Bool) (d:Nat) (hd:d<=15) (a:Option Addr) (n cap:Nat) :
  Calls Tp 254 #[I J (f:Int),frV e i r (d:Int) a n cap] w fun o w'=>o = rT (aG #[I J (f:Int),I J (bM f e r d:Int),I J (bF f e r d:Int)])/\Bl w w':=by
 have hs:rsz (f:Int) e r (d:Int)=(bM f e r d:Int)/\ai (f:Int) e r (d:Int)=(bF f e r d:Int):=by
  have:f=1\/f=2\/f=3\/f=4\/f=5\/f=6\/f=7\/f=8\/f=9\/f=10\/f=11\/f=12\/f=13\/f=14:=om;rcases this with rfl | rfl | rfl | rfl | rfl | rfl | rfl | rfl | rfl | rfl | rfl | rfl | rfl | rfl <;> refine⟨?_,?_⟩ <;> simp[rsz,bh,dS,ai,bM,bF,dlN] <;> cases e <;> cases r <;> simp <;> first | omega | (split <;> simp_all <;> omega)
 rw[<- hs.1,<- hs.2];have hd0:(0:Int)<=(d:Int):=om;have hd1:(d:Int)<=15:=om;have:f=1\/f=2\/f=3\/f=4\/f=5\/f=6\/f=7\/f=8\/f=9\/f=10\/f=11\/f=12\/f=13\/f=14:=om;rcases this with rfl|rfl|rfl|rfl|rfl|rfl|rfl|rfl|rfl|rfl|rfl|rfl|rfl|rfl
 .exact uG w hg hz e i r d hd0 hd1 a n cap
 .exact uF w hg hz e i r d hd0 hd1 a n cap
 .exact Iu w hg hz e i r d hd0 hd1 a n cap
 .exact uD w hg hz e i r d hd0 hd1 a n cap
 .exact uC w hg hz e i r d hd0 hd1 a n cap
 .exact uB w hg hz e i r d hd0 hd1 a n cap
 .exact uA w hg hz e i r d hd0 hd1 a n cap
 .exact uz w hg hz e i r d hd0 hd1 a n cap
 .exact uy w hg hz e i r d hd0 hd1 a n cap
 .exact pI w hg hz e i r d hd0 hd1 a n cap
 .exact pG w hg hz e i r d hd0 hd1 a n cap
 .exact pF w hg hz e i r d hd0 hd1 a n cap
 .exact pE w hg hz e i r d hd0 hd1 a n cap
 .exact pD w hg hz e i r d hd0 hd1 a n cap
def fvN (w:World) (f:Nat) (h1:1<=f) (h2:f<=14) (e:Bool) (i:Nat) (r:Bool) (d:Nat) (a:Option Addr) (n cap:Nat) (l:List Nat) (sum:Nat) (h:iB w a n cap l) (hi:i<4294967296) (hd:d<=15) (hn:n<=8) (hs:sum<32768) :
  Calls Tp 259 #[I J (f:Int),frV e i r (d:Int) a n cap,I J (sum:Int)] w fun o w'=>o = rT (I .u64 (cB f e i r d l sum:Int))/\Bl w w':=by
 have:f=1\/f=2\/f=3\/f=4\/f=5\/f=6\/f=7\/f=8\/f=9\/f=10\/f=11\/f=12\/f=13\/f=14:=om;rcases this with rfl|rfl|rfl|rfl|rfl|rfl|rfl|rfl|rfl|rfl|rfl|rfl|rfl|rfl
 .exact F3 w e i r d a n cap l sum h hi hd hn hs
 .exact F2 w e i r d a n cap l sum h hi hd hn hs
 .exact F1 w e i r d a n cap l sum h hi hd hn hs
 .exact FZ w e i r d a n cap l sum h hi hd hn hs
 .exact FY w e i r d a n cap l sum h hi hd hn hs
 .exact FX w e i r d a n cap l sum h hi hd hn hs
 .exact FW w e i r d a n cap l sum h hi hd hn hs
 .exact FV w e i r d a n cap l sum h hi hd hn hs
 .exact FU w e i r d a n cap l sum h hi hd hn hs
 .exact Fe w e i r d a n cap l sum h hi hd hn hs
 .exact Fd w e i r d a n cap l sum h hi hd hn hs
 .exact Fc w e i r d a n cap l sum h hi hd hn hs
 .exact Fb w e i r d a n cap l sum h hi hd hn hs
 .exact Fa w e i r d a n cap l sum h hi hd hn hs
def iG (nx:Nat->Nat) (bt:Nat->List Nat):Nat->Nat->Nat->List (Nat × List Nat)
 | 0,_,_=>[]
 | k+1,f,t=>if f=t then [] else (f,bt f) :: iG nx bt k (nx f) t
def cG (e:Bool) (i:Nat) (r:Bool) (d:Nat) (l:List Nat) (sum f:Nat):List Nat:=M.num (cB f e i r d l sum) (bM f e r d)
def lay (e:Bool) (i:Nat) (r:Bool) (d:Nat) (l:List Nat) (sum f t:Nat):List (Nat × List Nat):=iG (fun f=>bF f e r d) (cG e i r d l sum) 16 f t
def bS (D:List (Nat × List Nat)):List Nat:=D.flatMap (·.2)
def cj (D E:List (Nat × List Nat)):bS (D++E)=bS D++bS E:=by simp[bS]
def bp (st:Bool) (o:List Nat):List (Nat × List Nat)->List (Nat × Nat × Nat)
 | []=>[]
 | (f,b) :: D=>(f,o.length,(aO st o b).length-o.length) :: bp st (aO st o b) D
def jY (st:Bool) (f:Nat) (b:List Nat):∀ (D:List (Nat × List Nat)) (o:List Nat),bp st o (D++[(f,b)])=bp st o D++[(f,(aO st o (bS D)).length,(aO st o (bS D++b)).length-(aO st o (bS D)).length)]
 | [],o=>by simp[bp,bS,aO]
 | (g,c) :: D,o=>by
  show (g,o.length,(aO st o c).length-o.length) :: bp st (aO st o c) (D++[(f,b)])=_;rw[jY st f b D];have e:bS ((g,c) :: D)=c++bS D:=by simp[bS]
  simp only[e,pc];rfl
def fA (st:Bool):∀ (D:List (Nat × List Nat)) (o:List Nat),(bp st o D).length=D.length
 | [],_=>rfl
 | (f,b) :: D,o=>by show (bp st (aO st o b) D).length+1=D.length+1;rw[fA st D]
def spV (S:List (Nat × Nat × Nat)):List Value:=S.flatMap fun x=>[I J (x.1:Int),I J (x.2.1:Int),I J (x.2.2:Int)]
def sH (S T:List (Nat × Nat × Nat)):spV (S++T)=spV S++spV T:=by simp[spV]
def pX (e:Bool) (i:Nat) (r:Bool) (d:Nat) (l:List Nat) (sum:Nat) (hl:l.length=dlN r d) (hs:∀ x ∈ l,x<256):bS (lay e i r d l sum 1 10)=ag e i r d l:=by
 have hd:=yK l hs;have h01:M.num 0 1=[48]:=rfl;have h02:M.num 0 2=[48,48]:=rfl;have h11:M.num 1 1=[49]:=rfl;have hb:∀ b:Bool,M.num b.toNat 1=[48+b.toNat]:=fun b=>by cases b <;> rfl
 by_cases h0:r=true\/d=0
 .have hl0:l=[]:=by
   have:dlN r d=0:=by unfold dlN;rcases h0 with h0 | h0 <;> simp[h0]
   rw[this] at hl;exact List.length_eq_zero_iff.mp hl
  subst hl0;cases e <;> simp[lay,iG,bF,bS,cG,bM,cB,ag,eO,h0,h01,h02,h11,hb]
 .have h0':¬ (r=true)/\¬ d=0:=by simpa[not_or] using h0
  have hr:r=false:=by simpa using h0'.1
  subst hr;have hdl:dlN false d=l.length:=hl.symm;have hd0:=h0'.2;cases e <;> simp[lay,iG,bF,bS,cG,bM,cB,ag,eO,hd0,h01,h02,h11,hdl,hd]
def wB (e:Bool) (i:Nat) (r:Bool) (d:Nat) (l:List Nat) (sum:Nat) (hl:l.length=dlN r d) (hs:∀ x ∈ l,x<256):bS (lay e i r d l sum 1 11)=ag e i r d l++M.num sum 15:=by
 rw[<- pX e i r d l sum hl hs];by_cases h0:r=true\/d=0
 .cases e <;> simp[lay,iG,bF,bS,cG,bM,cB,h0]
 .have h0':¬ (r=true)/\¬ d=0:=by simpa[not_or] using h0
  cases e <;> simp[lay,iG,bF,bS,cG,bM,cB,h0']
def Jj (e:Bool) (i:Nat) (r:Bool) (d:Nat) (l:List Nat) (sum:Nat):bS (lay e i r d l sum 11 15)=List.replicate 10 49:=by
 have h1:=pU 1 (by decide);have h7:=pU 7 (by decide);simp[lay,iG,bF,bS,cG,bM,cB,h1,h7,List.replicate]
variable {B b:Nat} {v:Value} {S:List (Nat × Nat × Nat)} {W w w0 W' w':World} {o:List Nat} {st:Bool} {r:Nat × Nat}
def Tryz.info308:(Tp.info? 308).map (fun i=>(i.zero,i.size,i.bytes))=sQ (sQ (aG #[I J 0,I J 0,I J 0]),3,24):=kr
def bB (w:World) (B:Nat) (v:Value) (S:List (Nat × Nat × Nat)):Prop:=w.ownsRow B 308 3 v S.length (spV S)
def bB.kind (h:bB w B v S):∀ g,v.ownBlock=sQ g->∃ c fz,w.heap[g]?=sQ (.cells c 308 fz):=by
 intro g hg;obtain⟨_,⟨rfl,_⟩|⟨g',cap,cur,rfl,_,hh,_⟩⟩:=h
 .simp[Value.ownBlock] at hg
 .simp[Value.ownBlock] at hg;subst hg;exact⟨cur,_,hh⟩
def bB.otherBlock (h:bB w B v S) (hk:∀ g,v.ownBlock=sQ g->w'.heap[g]?=w.heap[g]?):bB w' B v S:=by
 obtain⟨h1,⟨h2,h3⟩|⟨g,cap,cur,h2,h3,hh,h4⟩⟩:=h
 .exact⟨h1,.inl ⟨h2,h3⟩⟩
 .refine⟨h1,.inr ⟨g,cap,cur,h2,h3,?_,h4⟩⟩;rw[hk g (by rw[h2];rfl)];exact hh
def Ar {ops:Array Oper} {rest:List Oper} {o:Oper} {a:Act} {Q:Exit->Act->World->Prop} (w0 wr:World) (hgd:o.guard=nn) (s x:Operand)
  (ho:o.op = .call { callee:=.builtin .append,args:=#[s,x],argTypes:=#[204,204] })
  (B:Nat) (v:Value) (S:List (Nat × Nat × Nat)) (y:Nat × Nat × Nat) (c0 c1 c2:Int) (h0:c0=(y.1:Int)) (h1:c1=(y.2.1:Int)) (h2:c2=(y.2.2:Int)) (hs:a.eval s=v) (hown:bB wr B v S)
  (hx:a.eval x = sL (sQ ⟨wr.heap.size,0,nn⟩) 1 1) (hlen:S.length<=1000000) (hB:B<=wr.heap.size) (hbel:Below B w0 wr)
  (h:∀ v' w',bB w' B v' (S++[y])->Below B w0 w'->Lib.OthersKept 308 nn wr w'->B<=w'.heap.size->wpList Tp ops Q rest (a.put o.dst v') w') :
  wpList Tp ops Q (o :: rest) a (wr.alloc (.cells #[I J c0,I J c1,I J c2] 308)):=by
 subst h0 h1 h2;obtain⟨i0,hi,hz0,hz1,hz2⟩:=QX Tryz.info308;refine Q2 _ hgd s x 204 ho B 308 i0 (aG #[I J 0,I J 0,I J 0]) 3 24 Tryz.underlying204 hi hz0 hz1 hz2 rfl (by decide) v S.length (spV S) hs (QN hown _) ⟨wr.heap.size,0,nn⟩ 1 1 [I J (y.1:Int),I J (y.2.1:Int),I J (y.2.2:Int)] hx rfl ?_ ?_ ?_ ?_ ?_ ?_
 .intro j u hj;match j,hj with
  | 0,hj=>simp at hj;subst hj;simp[Addr.add]
  | 1,hj=>simp at hj;subst hj;simp[Addr.add]
  | 2,hj=>simp at hj;subst hj;simp[Addr.add]
 .intro u hu;simp at hu;rcases hu with rfl | rfl | rfl <;> rfl
 .unfold maxLen;omega
 .omega
 .simp;omega
 .intro v' w' ho' hg _;have hr:∀ k,v.ownBlock=sQ k->B<=k:=fun k hk=>(QC hown k hk).1;refine h v' w' ?_ ((hbel.alloc hB _).grown hg (by simp;omega) hr) (((QW 308 nn wr).alloc _).grown hg ?_) (nT (by simp;omega) hg.size)
  .have e1:spV (S++[y])=spV S++[I J (y.1:Int),I J (y.2.1:Int),I J (y.2.2:Int)]:=by simp[spV]
   unfold bB;rw[e1,qe];exact ho'
  .intro g hg';exact bB.kind (B:=B) (S:=S) (QN hown _) g hg'
def bwS.below (h:bwS w0 b o st r W) (hb:Bl W W'):bwS w0 b o st r W':=by
 obtain⟨⟨v,hh,own⟩,hbel⟩:=h;have hz:=(bw5 hh).2.2;exact⟨⟨v,(hb.block b hz).trans hh,own.below hb⟩,hbel.trans (hb.mono (qB hz))⟩
def bwS.spans (h:bwS w0 b o st r W) (hb:Below B W W') (hB:b<B) (hk:Lib.OthersKept 308 nn W W'):bwS w0 b o st r W':=by
 obtain⟨⟨v,hh,own⟩,hbel⟩:=h;refine⟨⟨v,(hb.block b hB).trans hh,own.otherBlock fun g hg=>?_⟩,hbel.trans (hb.mono (qB hB))⟩;obtain⟨c,fz,hc⟩:=own.kind g hg;rw[hc];exact hk g _ hc pQ (by intro c' fz' e;cases e)
def bwS.since (h:bwS w0 b o st r W):bwS W b o st r W:=⟨h.row,bW _ _⟩
def bB.writer (h:bB W B v S) (hB:b<B) (hk:Lib.OthersKept 125 (sQ b) W W'):bB W' B v S:=by
 refine h.otherBlock fun g hg=>?_;obtain⟨c,fz,hc⟩:=h.kind g hg;rw[hc];have:=(QC h g hg).1;exact hk g _ hc (by intro e;simp at e;omega) (by intro c' fz' e;cases e)
def bB.below (h:bB w B v S) (hb:Bl w w'):bB w' B v S:=
 h.otherBlock fun g hg=>hb.block g (QC h g hg).2
end Go.Proofs.YtnfmjckkibdcaaaGreatDoor
