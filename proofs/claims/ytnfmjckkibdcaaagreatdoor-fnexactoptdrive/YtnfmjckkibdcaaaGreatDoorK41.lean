import Derived.Test.YtnfmjckkibdcaaaGreatDoorK23
import Derived.Test.YtnfmjckkibdcaaaGreatDoorK31
import Derived.Test.YtnfmjckkibdcaaaGreatDoorK32
import Derived.Deep.RegionLaw
namespace Go.Proofs.YtnfmjckkibdcaaaGreatDoor
open Go renaming World->Wd
set_option maxRecDepth 20000
open Go.RowKit
set_option linter.all false
set_option maxHeartbeats 16000000
open Go.Value renaming int->I,slice->sL,bool->bO,pointer->pT,agg->aG
open Go.IntKind renaming i64->J
open Go.Ending renaming returned->rT
open Go.Proofs.Tryz renaming prog->Tp
variable {w W:Wd} {R P:Nat}
def yk (S:Sc) (a:Option Addr) (n k:Nat) (j:Int):Value.int .u8 j ∉ scL S a n k:=by simp[scL]
def nQ (w:Wd) (S:Sc) (hS:okS S) (a:Option Addr) (n cap:Nat) (h:iB w a n cap S.l) (b:Nat) (hb:b<2) (hgo:(scn S b).2=0\/(scn S b).2=1) :
  Calls Tp 56 #[aG (scL S a n cap).toArray,I J (b:Int)] w fun o w'=>∃ ao n' k',o = rT (.tuple #[aG (scL (scn S b).1 ao n' k').toArray,I J (scn S b).2])/\iB w' ao n' k' (scn S b).1.l/\Bl w w':=by
 unfold scn at hgo ⊢;by_cases h5:S.rn=5
 .rw[zc h5] at hgo ⊢;by_cases hv:(b:Int)=S.lv
  .rw[zc hv] at hgo;exact Qz hgo pQ
  .rw[zb hv];exact Km w S hS a n cap h b hb h5 hv
 .rw[zb h5] at hgo ⊢;by_cases hc:bL S.f S.lf S.cr S.ac b=0\/bL S.f S.lf S.cr S.ac b=1
  .rw[zc hc];exact lT w S hS a n cap h b hb h5 hc
  .rw[zb hc] at hgo;exact Qz hgo hc
def rf (w:Wd):Calls Tp 45 #[] w fun o w'=>o = rT (aG (scL sc0 none 0 0).toArray)/\Bl w w':=by
 have HB:Hid (blk (w.alloc (.cells z11.toArray 49)) w.heap.size z11 49):=blk.new w z11 49;have hbu:∀ W:Wd,(Instr.build 49 #[(0,I J 1),(1,I J 1)]).run Tp W = .ok (aG (scL sc0 none 0 0).toArray) W:=fun W=>by kernel_rfl
 go_enter Tryz.func45,Tryz.ntmps45
 go_wp2_with (refine QE (P:=Tp) rfl 49 _ _ rfl w.heap.size 0 (scL sc0 none 0 0).toArray rfl rfl (HB.o.there 0 11 (nR _)) dV (iO _ _ _ _) ?_;generalize hv:World.setCells _ w.heap.size 0 _=w2;have HV:Hid (_=w2):=hv;clear hv)
 have e2:=HV.o;have hF:blk w2 w.heap.size (scL sc0 none 0 0) 49:=by rw[<- e2];exact HB.o.put [] z11 [] (scL sc0 none 0 0) rfl
 refine bC Tryz.results45 (QJ (P:=Tp) w2 w.heap.size 0 49 _ _ hF.load Tryz.underlying49 rfl dV) ?_;exact⟨rfl,by rw[<- e2];exact sW (nR _) _ _ qw⟩
structure l2S (w:Wd) (R P:Nat) (S:Sc) (W:Wd):Prop where
 x:∃ a n c,blk W P (scL S a n c) 49/\iB W a n c S.l
 b:Below R w W
 r:blk W R z11 49
def l2S.below {S:Sc} {W':Wd} (h:l2S w R P S W) (hR:R<=W.heap.size) (hb:Bl W W'):l2S w R P S W':=by
 obtain⟨a,n,c,h1,h2⟩:=h.x;exact⟨⟨a,n,c,h1.below hb,h2.below hb⟩,h.b.trans (hb.mono hR),h.r.below hb⟩
def l2S.put {S T:Sc} (h:l2S w R P S W) (hR:R<P) {a:Option Addr} {n c:Nat} (hb:iB W a n c T.l):l2S w R P T (W.setCells P 0 (scL T a n c)):=by
 obtain⟨a0,n0,c0,h1,h2⟩:=h.x;refine⟨⟨a,n,c,h1.put [] (scL S a0 n0 c0) [] (scL T a n c) rfl,hb.farL h1 (yk _ _ _ _) (fun q hq=>sO P q hq _ _ _)⟩,sW (qB hR) _ _ h.b,h.r.other om _ _⟩
def tu (w:Wd) (hd:ByteArray) (hL:goL (hd.data.toList.map (·.toNat))) :
  Calls Tp 21 #[.string hd] w fun o w'=>∃ a n k c,o = rT (.tuple #[aG (scL (scO (hd.data.toList.map (·.toNat))) a n k).toArray,I J c])/\iB w' a n k (scO (hd.data.toList.map (·.toNat))).l/\Bl w w':=by
 obtain⟨L,eL⟩ : ∃ L,hd.data.toList.map (·.toNat)=L:=⟨_,rfl⟩
 rw[eL] at hL ⊢;have HLN:Hid (L.length=hd.size):=by show _=_;rw[<- eL,qV,Array.length_toList];rfl
 have HLA:Hid (∀ i (h:i<hd.size) (h':i<L.length),L[i]=hd[i].toNat):=by intro i h h';subst eL;simp;rfl
 have HL:Hid (goL L):=hL;have hsz:hd.size<=254:=by have:=(At.of hL L.length (nR _)).le;rw[HLN.o] at this;exact this
 clear hL eL;have HFS:Hid (Calls Tp 45 #[] (w.alloc (.cells z11.toArray 49)) fun o w'=>o = rT (aG (scL sc0 none 0 0).toArray)/\Below (w.alloc (.cells z11.toArray 49)).heap.size (w.alloc (.cells z11.toArray 49)) w'):=rf _;have HR0:Hid (blk (w.alloc (.cells z11.toArray 49)) w.heap.size z11 49/\Bl w (w.alloc (.cells z11.toArray 49))):=⟨blk.new w z11 49,qw⟩
 go_enter Tryz.func21,Tryz.ntmps21;go_wp2_with fail;refine HFS.o.mono ?_;rintro o w1 ⟨rfl,hb1⟩;have HR1:Hid (blk w1 w.heap.size z11 49/\Bl w w1):=⟨HR0.o.1.below hb1,HR0.o.2.trans (hb1.mono HR0.o.2.size)⟩
 clear hb1 HFS HR0;have HA:Hid (blk (w1.alloc (.cells z11.toArray 49)) w1.heap.size z11 49):=blk.new w1 z11 49;have HR:Hid (w.heap.size<w1.heap.size):=HR1.o.1.lt
 go_wp2_with (refine QE (P:=Tp) rfl 49 _ _ rfl w1.heap.size 0 (scL sc0 none 0 0).toArray rfl rfl (HA.o.there 0 11 (nR _)) dV (iO _ _ _ _) ?_;generalize hv:World.setCells _ w1.heap.size 0 _=w2;have HV:Hid (_=w2):=hv;clear hv)
 have e2:=HV.o;have h2s:blk w2 w1.heap.size (scL sc0 none 0 0) 49:=by rw[<- e2];exact HA.o.put [] z11 [] (scL sc0 none 0 0) rfl
 have h2b:Bl w1 w2:=by rw[<- e2];exact sW (nR _) _ _ qw
 have ST:l2S w w.heap.size w1.heap.size (scO (L.take 0)) w2:=
  ⟨⟨none,0,0,h2s,⟨rfl,nR _,by simp[scO,sc0],fun h=>Qz rfl h⟩⟩,HR1.o.2.trans (h2b.mono HR1.o.2.size),HR1.o.1.below h2b⟩
 clear e2 h2s h2b HV HA HR1;generalize w1.heap.size=P at *;go_loopw [5,6] (fun c i wr=>∃ k:Nat,∃ z:Int,k<=hd.size/\i = I J (k:Int)/\c = I J z/\l2S w w.heap.size P (scO (L.take k)) wr) (fun _ i _=>hd.size-(intOf i).toNat);case atStart=>exact⟨0,0,nZ _,rfl,rfl,ST⟩
 case round=>
  clear ST;obtain⟨k,z,hk,rfl,rfl,st⟩:=hrel;have HST:Hid (l2S w w.heap.size P (scO (L.take k)) wr):=st;clear st;by_cases hlt:k<hd.size
  .have hlL:k<L.length:=by rw[HLN.o];exact hlt
   have hA:=At.of HL.o k (qB hlL);have hgn:=hA.gn hlL HL.o;have hv:=HL.o.1 L[k] (zh hlL);have ek:=HLA.o k hlt hlL;obtain⟨a,n,c,x1,x2⟩:=HST.o.x;have HX1:Hid (blk wr.drew P (scL (scO (L.take k)) a n c) 49):=x1;have HC:Hid (Calls Tp 56 #[aG (scL (scO (L.take k)) a n c).toArray,I J ((hd[k].toNat-48:Nat):Int)] wr.drew fun o w'=>∃ ao n' k' z,o = rT (.tuple #[aG (scL (scO (L.take (k+1))) ao n' k').toArray,I J z])/\(z=0\/z=1)/\blk w' P (scL (scO (L.take k)) a n c) 49/\l2S w w.heap.size P (scO (L.take (k+1))) (w'.setCells P 0 (scL (scO (L.take (k+1))) ao n' k'))):=by
    rw[<- ek];have st0:=HST.o.below (qB HST.o.r.lt) (bW wr.heap.size wr).drew;refine (nQ wr.drew _ hA.sim.ok a n c (x2.below (bW _ _).drew) _ om hgn).mono ?_;rintro o w' ⟨ao,n',k',rfl,h1,h2⟩;rw[qg hlL,kN];exact⟨ao,n',k',_,rfl,hgn,HX1.o.below h2,(st0.below (qB st0.r.lt) h2).put HR.o h1⟩
   have HV:Hid (hd[k].toNat=48\/hd[k].toNat=49):=by rw[<- ek];exact hv
   clear hgn hA hv ek x1 x2;go_wp2_with fail;rcases HV.o with h48|h48
   all_goals
    rw[h48] at HC;refine QK (S:=fun _=>True) kr ?_;have hS:True:=trivial;refine tk 1 ?_;refine tk 2 ?_;refine tk 3 ?_;refine tk 4 ?_;refine tk 5 ?_;refine al 0 fun K hK=>?_;rw[zc (by rfl)];refine wp_load_mid (P:=Tp) 49 _ rfl P 0 rfl _ _ HX1.o.load Tryz.underlying49 rfl (kJ _ _ _ _) ?_;refine hK.out _ _ hS fun _=>?_;clear hK K;refine al 6 fun K hK=>?_;rw[zc (by rfl)];go_simp;go_at_call 56;refine HC.o.mono ?_;rintro o w5 ⟨ao,n',k',z',rfl,hz,hk5,hs5⟩;refine hK.out _ _ hS fun _=>?_;clear hK K;have HZ:Hid (z'=0\/z'=1):=hz;have HS5:Hid _:=hs5;have HK5:Hid (blk w5 P (scL (scO (L.take k)) a n c) 49):=hk5;clear hz hs5 hk5;try simp only[aZ]
    refine tk 7 ?_;refine tk 8 ?_;refine tk 9 ?_;refine al 10 fun K hK=>?_;rw[zc (by rfl)];refine QU (P:=Tp) 49 _ _ rfl P 0 _ rfl rfl (HK5.o.there 0 11 (nR _)) dV (iO _ _ _ _) ?_;generalize World.setCells w5 P 0 _=w6 at *;refine hK.out _ _ hS fun _=>?_;clear hK K;simp only[Act.put];refine tk 11 ?_;refine QI kr ?_ _;rcases HZ.o with hz|hz;all_goals
     subst hz;go_wp2_with fail;go_roundw;case rel=>exact⟨k+1,_,om,by go_num,rfl,HS5.o⟩
     case measure=>simp[intOf];omega
  .have hke:k=hd.size:=om;subst hke;obtain⟨a,n,c,x1,x2⟩:=HST.o.x;have e:L.take hd.size=L:=ze (by rw[HLN.o];exact nR _);rw[e] at x1 x2;have HX:Hid (blk wr P (scL (scO L) a n c) 49/\iB wr a n c (scO L).l/\blk wr w.heap.size z11 49/\Bl w wr):=⟨x1,x2,HST.o.r,HST.o.b⟩
   clear HST x1 x2 hlt e;go_wp2_with (first
    | (refine qG 49 HX.o.1.load Tryz.underlying49 (kJ _ _ _ _) ?_)
    | (refine QE (P:=Tp) rfl 49 _ _ rfl w.heap.size 0 (scL (scO L) a n c).toArray rfl rfl (HX.o.2.2.1.there 0 11 (nR _)) dV (iO _ _ _ _) ?_;generalize hv:World.setCells _ w.heap.size 0 _=w3;have HV:Hid (_=w3):=hv;clear hv))
   have e3:=HV.o;have hF:blk w3 w.heap.size (scL (scO L) a n c) 49:=by rw[<- e3];exact HX.o.2.2.1.put [] z11 [] (scL (scO L) a n c) rfl
   have hld:=QJ (P:=Tp) w3 w.heap.size 0 49 _ _ hF.load Tryz.underlying49 rfl (kJ _ _ _ _);refine QF (dY Tryz.results21 _ w3 w.heap.size _ rfl hld) rfl ?_;refine⟨a,n,c,⟨z,rfl⟩,?_,by rw[<- e3];exact sW (nR _) _ _ HX.o.2.2.2⟩;rw[<- e3];exact HX.o.2.1.farL HX.o.2.2.1 (yk scZ none 0 0) (fun q hq=>sO w.heap.size q hq _ _ _)
end Go.Proofs.YtnfmjckkibdcaaaGreatDoor
