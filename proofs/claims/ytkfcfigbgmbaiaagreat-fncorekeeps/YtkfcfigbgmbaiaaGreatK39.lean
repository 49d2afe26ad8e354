import Derived.Test.YtkfcfigbgmbaiaaGreatK38
namespace Go.Proofs.YtkfcfigbgmbaiaaGreat
set_option maxRecDepth 40000
open Go.RowKit
set_option linter.unusedVariables false
set_option maxHeartbeats 16000000
open Go.Value renaming int→I,slice→sL,bool→bO,pointer→pT,agg→aG
open Go.IntKind renaming i64→J
open Go.Ending renaming returned→rT
open Go.Proofs.Tryz renaming prog→Tp
section
variable {w0 w W W' : World} {b : Nat} {a : Option Addr} {n cap : Nat} {l : List Nat} {σ σ' τ : Sg} {T P : Nat} {Z L : List Value} {κ κ' : Nat → Nat} {H H' H2 : Ho} {s s' s2 : Sl}
theorem hV.new {σ0:Sg} (h:srcF w0 b a n cap l σ0 w) (h4:srcF w0 b a n cap l σ W) (o4:onS b (w.alloc (.cells Z.toArray T)) W) (hg:hG κ H s W) (hk:∀ x,x≤w.heap.size→κ x=0) (L:List Value):hV T Z w0 w b a n cap l σ W.heap.size κ H s L (W.alloc (.cells L.toArray T)):=by
 have hb2:Below W.heap.size W (W.alloc (.cells L.toArray T)):=(bW _ _).alloc (nR _) _
 have hb1:Below w.heap.size w (w.alloc (.cells Z.toArray T)):=(bW _ _).alloc (nR _) _
 have hl:=h.at_.lt
 have hz:=blk.new w Z T
 have hs:=o4.s
 exact⟨h4.below hb2,((onS.of hb1).trans o4).below hb2,(hz.kept (o4.k _ (by omega) hz.lt)).below hb2,blk.new W L T,hg.below hb2,⟨by have:=hz.lt;omega,hl,hg.no (nR _)⟩,hk⟩
theorem hV.host (h:hV T Z w0 w b a n cap l σ P κ H s L W) (hf:H'.fs=H.fs∧H'.bx=H.bx∧H'.ff=H.ff∧H'.qu=H.qu):hV T Z w0 w b a n cap l σ P κ H' s L W:=by
 refine⟨h.s,h.o,h.z,h.p,⟨?_,?_,?_,?_,h.g.sm⟩,h.x,h.k⟩
 ·rw[hf.1];exact h.g.f
 ·rw[hf.2.1];exact h.g.x
 ·rw[hf.2.2.1];exact h.g.r
 ·rw[hf.2.2.2];exact h.g.q
variable {ops : Array Oper} {rest : List Oper} {op : Oper} {ac : Act} {Q : Exit → Act → World → Prop} {K : Act → World → Prop} {x y : Operand}
theorem hV.ld {ac2:Act} (h:hV 39 Z w0 w b a n cap l σ P κ H s (hoL H2 s2) W) (hK:K ac2 W) (ho:op.op = .load 39 x:=by rfl) (hx:ac.eval x = pT (some ⟨P,0,none⟩):=by rfl) (hn:ac.put op.dst (aG (hoL H2 s2).toArray)=ac2:=by (simp only[aZ];try rfl)):op.wp Tp ac W K Q:=
 wp_load_mid (P:=Tp) 39 x ho P 0 hx (hoL H2 s2) _ h.p.load Tryz.underlying39 rfl (sz41L _ _) (hn ▸ hK)
theorem hV.sv (h:hV 39 Z w0 w b a n cap l σ P κ H s L W) (hl:L.length=10) (hK:∀ W8,Hid (hV 39 Z w0 w b a n cap l σ P κ H s (hoL H2 s2) W8)→K (ac.put op.dst undef) W8) (ho:op.op = .store 39 x y:=by rfl) (hx:ac.eval x = pT (some ⟨P,0,none⟩):=by rfl) (hy:ac.eval y = aG (hoL H2 s2).toArray:=by rfl):op.wp Tp ac W K Q:=
 wp_store_mid (P:=Tp) 39 x y ho P 0 (hoL H2 s2).toArray hx hy (h.p.there 0 10 (by omega)) (sz41A _ _) (hoL_one _ _) (hK _ (h.put (hoL H2 s2) hl))
theorem hV.ldL (h:hV 39 Z w0 w b a n cap l σ P κ H s (hoL H2 s2) W) (hK:wpList Tp ops Q rest (ac.put op.dst (aG (hoL H2 s2).toArray)) W) (hgd:op.guard=none:=by rfl) (ho:op.op = .load 39 x:=by rfl) (hx:ac.eval x = pT (some ⟨P,0,none⟩):=by rfl):wpList Tp ops Q (op :: rest) ac W:=
 wpList_load_mid (P:=Tp) hgd 39 x ho P 0 hx (hoL H2 s2) _ h.p.load Tryz.underlying39 rfl (sz41L _ _) hK
theorem hV.svL (h:hV 39 Z w0 w b a n cap l σ P κ H s L W) (hl:L.length=10) (hK:∀ W8,Hid (hV 39 Z w0 w b a n cap l σ P κ H s (hoL H2 s2) W8)→wpList Tp ops Q rest (ac.put op.dst undef) W8) (hgd:op.guard=none:=by rfl) (ho:op.op = .store 39 x y:=by rfl) (hx:ac.eval x = pT (some ⟨P,0,none⟩):=by rfl) (hy:ac.eval y = aG (hoL H2 s2).toArray:=by rfl):wpList Tp ops Q (op :: rest) ac W:=
 wpList_store_mid (P:=Tp) hgd 39 x y ho P 0 (hoL H2 s2).toArray hx hy (h.p.there 0 10 (by omega)) (sz41A _ _) (hoL_one _ _) (hK _ (h.put (hoL H2 s2) hl))
theorem hV.rtL (h:hV 39 Z w0 w b a n cap l σ P κ H s L W) (hZ:Z.length=10) (hK:∀ W8,blk W8 w.heap.size (hoL H2 s2) 39→Hid (hG κ H s W8∧srcF w0 b a n cap l σ W8∧onS b w W8)→wpList Tp ops Q rest (ac.put op.dst undef) W8) (hgd:op.guard=none:=by rfl) (ho:op.op = .store 39 x y:=by rfl) (hx:ac.eval x = pT (some ⟨w.heap.size,0,none⟩):=by rfl) (hy:ac.eval y = aG (hoL H2 s2).toArray:=by rfl):wpList Tp ops Q (op :: rest) ac W:=by
 have he:∀ x,x≠w.heap.size→(W.setCells w.heap.size 0 (hoL H2 s2)).heap[x]?=W.heap[x]?:=fun x hx=>sO _ x hx _ _ _
 have hz:(W.setCells w.heap.size 0 (hoL H2 s2)).heap.size=W.heap.size:=sZ ..
 have hx':=h.x
 have hb:=h.s.hb
 have h8:=sW (B:=0) (nZ w.heap.size) 0 (hoL H2 s2) (bW 0 W)
 exact wpList_store_mid (P:=Tp) hgd 39 x y ho w.heap.size 0 (hoL H2 s2).toArray hx hy (h.z.there 0 10 (by omega)) (sz41A _ _) (hoL_one _ _) (hK _ (by simpa using blk.put [] Z [] (hoL H2 s2) (by simpa using h.z) hZ) ⟨h.g.cells (h.k _ (nR _)) _ _,h.s.other (q:=w.heap.size) (by omega) (by omega) (fun x h1 _=>he x h1) (Nat.le_of_eq hz.symm) ⟨h8.os,h8.tape,h8.output⟩,h.o.other (q:=w.heap.size) (nR _) (fun x h1 _=>he x h1) (Nat.le_of_eq hz.symm) ⟨h8.os,h8.tape,h8.output⟩⟩)
theorem hG.drop (h:hG κ H s W):hG (fun x=>if x=W.heap.size then 4 else κ x) { H with qu:=[] } (qSl s W.heap.size 0 0) (W.alloc (.cells #[] 67))∧mvH κ W (fun x=>if x=W.heap.size then 4 else κ x) (W.alloc (.cells #[] 67)):=by
 have hb:Below W.heap.size W (W.alloc (.cells #[] 67)):=(bW _ _).alloc (nR _) _
 have hk:∀ d,d≠0→∀ x,κ x=d→(if x=W.heap.size then 4 else κ x)=d∧(W.alloc (.cells #[] 67)).heap[x]?=W.heap[x]?:=fun d hd x hx=>by
  have hxl:=h.sm x (by omega)
  rw[if_neg (by omega)]
  exact⟨hx,hb.block x hxl⟩
 refine⟨⟨h.f_ (hk 1 (by omega)),h.x_ (hk 2 (by omega)) hb.size,h.r_ (hk 3 (by omega)) hb.size,⟨W.heap.size,[],rfl,if_pos rfl,ownG.nil rc8 W 0 67 8 (nZ _),rfl,rfl,fun p hp=>(by cases hp)⟩,fun x hx=>?_⟩,⟨hb.size,fun x hx=>if_neg (by omega),fun x hx _=>hb.block x hx,hb.os,hb.tape,hb.output⟩⟩
 by_cases e:x=W.heap.size
 ·rw[e];simp
 ·rw[if_neg e] at hx
  exact nL (h.sm x hx) hb.size
theorem al2 {md:Region.Mode} {S:World→Prop} {fuel:Nat} {listed:Array Bool} {ac:Act} {w:World} (i j:Nat) {o o2:Oper}
  (h:∀ K':Act→World→Prop,Shut (∀ a w,S w→(S w→wpAnyH Tp md ops Q S fuel (listed.setIfInBounds i true) a w)→K' a w)→if Region.wanted o (yielded ops ac.tmps)=true then Oper.wp Tp o ac w K' Q else K' (ac.put o.dst undef) w)
  (h2:∀ K':Act→World→Prop,Shut (∀ a w,S w→(S w→wpAnyH Tp md ops Q S fuel (listed.setIfInBounds j true) a w)→K' a w)→if Region.wanted o2 (yielded ops ac.tmps)=true then Oper.wp Tp o2 ac w K' Q else K' (ac.put o2.dst undef) w)
  (hr:Region.ready md ops listed=[i,j]:=by kernel_rfl) (ho:ops[i]?=some o:=by rfl) (ho2:ops[j]?=some o2:=by rfl):wpAnyH Tp md ops Q S (fuel+1) listed ac w:=
 wpAnyH_ready hr (by simp) (AllReadyH.cons ho h (AllReadyH.cons ho2 h2 AllReadyH.nil))
end
theorem okFs_of {fs:List R3} (h1:fs.length≤16) (h2:∀ F ∈ fs,okR3 F):okFs fs=true:=by
 unfold okFs
 simp only[Bool.and_eq_true,decide_eq_true_eq,List.all_eq_true]
 refine⟨h1,fun F hF=>?_⟩
 have h:=h2 F hF
 unfold okFl
 have e:(topN F.e:Int)=if F.e=true then 536870912 else 2048:=by unfold topN;cases F.e <;> rfl
 have h3:=h.m
 have h4:=h.k
 rw[e] at h3 h4
 simp only[Bool.and_eq_true,decide_eq_true_eq]
 exact⟨h3.2,h4.2⟩
theorem genHost_f (l:List Nat) (σ:Sg) (hl:l.length≤1048576) (hi:σ.1+10000≤1000000000):∃ (H:Ho) (τ:Sg),bdH H∧τ.1≤σ.1+5000∧Hid (∀ (w0 w:World) (b:Nat) (a:Option Addr) (n cap:Nat),srcF w0 b a n cap l σ w→Calls Tp 164 #[pT (some ⟨b,0,none⟩)] w (hostO w0 w b a n cap l H τ)):=by
 obtain⟨A,B,C,D,s1,⟨pA,pB,pC,pD⟩,q1,D1⟩:=genConfig_f l σ (by omega)
 obtain⟨m0,rfl⟩ : ∃ m0:Nat,A=(m0:Int):=⟨A.toNat,by omega⟩
 obtain⟨fs,s2,pf,pf2,q2,D2⟩:=genFilters_f l s1 (by omega)
 obtain⟨v3,s3,p3,q3,D3⟩:=nE l s2 12 12 rfl (by decide) (by decide) (by omega)
 obtain⟨v4,s4,p4,q4,D4⟩:=nE l s3 4 4 rfl (by decide) (by decide) (by omega)
 obtain⟨st,hst⟩ : ∃ x:Int,x=if v3=0 then 1000000-(v4:Int) else 0:=⟨_,rfl⟩
 obtain⟨sA,hsA⟩ : ∃ x,x=if v3=0 then s4 else s3:=⟨_,rfl⟩
 have hA:sA.1≤σ.1+300:=by rw[hsA];split <;> omega
 obtain⟨v5,s5,p5,q5,D5⟩:=nE l sA 12 12 rfl (by decide) (by decide) (by omega)
 obtain⟨v6,s6,p6,q6,D6⟩:=nE l s5 3 3 rfl (by decide) (by decide) (by omega)
 obtain⟨lo,hlo⟩ : ∃ x:Int,x=if v5=0 then 100000-(v6:Int) else 0:=⟨_,rfl⟩
 obtain⟨sB,hsB⟩ : ∃ x,x=if v5=0 then s6 else s5:=⟨_,rfl⟩
 have hB:sB.1≤σ.1+310:=by rw[hsB];split <;> omega
 obtain⟨v7,s7,p7,q7,D7⟩:=nE l sB (6+l.length / 4) (6+((l.length / 4:Nat):Int)) (by omega) (by omega) (by omega) (by omega)
 obtain⟨m,hm⟩ : ∃ m,m=if 80<v7 then 80 else v7:=⟨_,rfl⟩
 have hm2:m≤80:=by rw[hm];split <;> omega
 have hbd0:bdH ⟨m0,B,C,D,fs,List.replicate m0 bx0,[],[],lo,st⟩:=by
  refine⟨by simp;omega,pf,by simp;omega,by simp;omega,by rw[hlo];dsimp only;split <;> omega,by rw[hst];dsimp only;split <;> omega,fun x hx=>?_,fun x hx=>(by cases hx),fun x hx=>(by cases hx)⟩
  rw[(List.mem_replicate.1 hx).2]
  exact nZ _
 obtain⟨S,hS0,hSb,hSR⟩:=seqH l (⟨m0,B,C,D,fs,List.replicate m0 bx0,[],[],lo,st⟩,s7) m hbd0 (by dsimp only;omega)
 have hSm:=hSb m (nR _)
 dsimp only at hSm
 refine⟨(S m).1,(S m).2,hSm.1,by omega,fun w0 w b a n cap h=>?_⟩
 have HR:Hid (srcF w0 b a n cap l σ w):=h
 have HA:Hid (st=(if v3=0 then 1000000-(v4:Int) else 0)∧sA=if v3=0 then s4 else s3):=⟨hst,hsA⟩
 have HBB:Hid (lo=(if v5=0 then 100000-(v6:Int) else 0)∧sB=if v5=0 then s6 else s5):=⟨hlo,hsB⟩
 have HM:Hid (m=if 80<v7 then 80 else v7):=hm
 have HS:Hid (S 0=(⟨m0,B,C,D,fs,List.replicate m0 bx0,[],[],lo,st⟩,s7)∧(∀ k,k≤m→bdH (S k).1)∧∀ k,k<m→stR l (S k) (S (k+1))):=⟨hS0,fun k hk=>(hSb k hk).1,hSR⟩
 have HNH:Hid (okCf m0 B C D=true∧okFs fs=true∧m0≤8∧fs.length≤1048576):=⟨by unfold okCf;simp;omega,okFs_of pf pf2,by omega,by omega⟩
 have hq:(l.length:Int).tdiv 4=((l.length / 4:Nat):Int):=by rw[Int.tdiv_eq_ediv_of_nonneg (by omega)];omega
 have D2:Hid (∀ (w0 w:World) (b:Nat) (a:Option Addr) (n cap:Nat),srcF w0 b a n cap l s1 w→Calls Tp 199 #[pT (some ⟨b,0,none⟩)] w (fsO w0 w b a n cap l fs s2)):=D2
 have DS:=size_f l sB
 clear h hst hsA hlo hsB hm hS0 hSb hSR hSm hbd0 pf pf2 pA pB pC pD q1 q2 q3 q4 q5 q6 q7 hA hB;go_enter Tryz.func164,Tryz.ntmps164
 go_wp2_with fail;refine (D1.out _ _ _ _ _ _ (HR.out.below ((bW _ _).alloc (nR _) _))).mono ?_
 rintro o w1 ⟨rfl,h1,k1⟩;go_wp2_with fail;refine (D2.out _ _ _ _ _ _ h1).mono ?_
 rintro o w2 ⟨g,kc,rfl,h2,h3,h4⟩;have H2:Hid (isR3s w2 (some ⟨g,0,none⟩) fs.length kc fs∧srcF w0 b a n cap l s2 w2∧onS b (w.alloc (.cells z10.toArray 39)) w2):=⟨h2.now,h3,k1.trans h4⟩
 clear h1 k1 h2 h3 h4 D1 D2;go_wp2_with fail;refine (specNewHost_ok w2 m0 B C D g fs.length kc fs HNH.out.1 H2.out.1 HNH.out.2.2.2 HNH.out.2.2.1 HNH.out.2.1).mono ?_
 rintro o w3 ⟨s0,κ0,rfl,hg0,hk0,hb3⟩;have V0:Hid (hV 39 z10 w0 w b a n cap l s2 w3.heap.size κ0 ⟨m0,B,C,D,fs,List.replicate m0 bx0,[],[],0,0⟩ s0 z10 (w3.alloc (.cells z10.toArray 39))):=hV.new HR.out (H2.out.2.1.below hb3) (H2.out.2.2.below hb3) hg0 (fun x hx=>hk0 x (by have:=H2.out.2.2.s;simp at this;omega)) z10
 clear hb3 hg0 hk0 H2 HR HNH;go_upto_region 2 with (refine hV.svL (H2:=⟨m0,B,C,D,fs,List.replicate m0 bx0,[],[],0,0⟩) (s2:=s0) V0.out rfl ?_;intro w4 V4)
 clear V0;generalize w3.heap.size=P at *;go_wp2_with fail;refine (hV.call D3 V4.out).mono ?_
 rintro o w5 ⟨rfl,V5⟩;clear V4 D3;go_upto_if 17 with fail
 go_cut [] (fun wx=>Hid (hV 39 z10 w0 w b a n cap l sA P κ0 ⟨m0,B,C,D,fs,List.replicate m0 bx0,[],[],0,st⟩ s0 (hoL ⟨m0,B,C,D,fs,List.replicate m0 bx0,[],[],0,st⟩ s0) wx))
 case first=>
  obtain⟨ha,hb⟩:=HA.out
  by_cases e:v3=0
  ·rw[if_pos e] at ha hb
   have HST:=hidG ha
   subst hb e;clear ha;go_wp2_with fail;refine (hV.call D4 V5.out).mono ?_
   rintro o w6 ⟨rfl,V6⟩;have y9:=V6.out.p.cell 9 _ rfl
   have f9:=V6.out.p.free 9
   have hw9:IntKind.i64.wrap (1000000-(v4:Int))=1000000-(v4:Int):=by rw[IntKind.wrap_i64];omega
   have V7:=hidG ((V6.out.set 9 (I J (1000000-(v4:Int)))).host (H':=⟨m0,B,C,D,fs,List.replicate m0 bx0,[],[],0,st⟩) ⟨rfl,rfl,rfl,rfl⟩)
   go_wp2_with fail;go_meet
   case rel=>
    have e:hoL ⟨m0,B,C,D,fs,List.replicate m0 bx0,[],[],0,st⟩ s0=(hoL ⟨m0,B,C,D,fs,List.replicate m0 bx0,[],[],0,0⟩ s0).set 9 (I J (1000000-(v4:Int))):=by rw[HST.out];rfl
    rw[e]
    exact V7
  ·rw[if_neg e] at ha hb
   subst ha hb;have e1:((v3:Int) == 0)=false:=by simp;omega
   go_wp2_with fail;go_meet
   case rel=>exact V5
 case rest=>
 have V6:=hcut
 clear hcut V5 HA D4;go_wp2_with fail;refine (hV.call D5 V6.out).mono ?_
 rintro o w7 ⟨rfl,V7⟩;clear V6 D5;go_upto_if 24 with fail
 go_cut [] (fun wx=>Hid (hV 39 z10 w0 w b a n cap l sB P κ0 ⟨m0,B,C,D,fs,List.replicate m0 bx0,[],[],lo,st⟩ s0 (hoL ⟨m0,B,C,D,fs,List.replicate m0 bx0,[],[],lo,st⟩ s0) wx))
 case first=>
  obtain⟨ha,hb⟩:=HBB.out
  by_cases e:v5=0
  ·rw[if_pos e] at ha hb
   have HST:=hidG ha
   subst hb e;clear ha;go_wp2_with fail;refine (hV.call D6 V7.out).mono ?_
   rintro o w8 ⟨rfl,V8⟩;have y9:=V8.out.p.cell 8 _ rfl
   have f9:=V8.out.p.free 8
   have hw9:IntKind.i64.wrap (100000-(v6:Int))=100000-(v6:Int):=by rw[IntKind.wrap_i64];omega
   have V9:=hidG ((V8.out.set 8 (I J (100000-(v6:Int)))).host (H':=⟨m0,B,C,D,fs,List.replicate m0 bx0,[],[],lo,st⟩) ⟨rfl,rfl,rfl,rfl⟩)
   go_wp2_with fail;go_meet
   case rel=>
    have e:hoL ⟨m0,B,C,D,fs,List.replicate m0 bx0,[],[],lo,st⟩ s0=(hoL ⟨m0,B,C,D,fs,List.replicate m0 bx0,[],[],0,st⟩ s0).set 8 (I J (100000-(v6:Int))):=by rw[HST.out];rfl
    rw[e]
    exact V9
  ·rw[if_neg e] at ha hb
   subst ha hb;have e1:((v5:Int) == 0)=false:=by simp;omega
   go_wp2_with fail;go_meet
   case rel=>exact V7
 case rest=>
 have V8:=hcut
 clear hcut V7 HBB D6;go_wp2_with fail;refine (hV.call DS V8.out).mono ?_
 rintro o w9 ⟨rfl,V9⟩;clear V8 DS;have hwq:IntKind.i64.wrap (6+((l.length / 4:Nat):Int))=6+((l.length / 4:Nat):Int):=by rw[IntKind.wrap_i64];omega
 go_wp2_with fail;refine (hV.call D7 V9.out).mono ?_
 rintro o w10 ⟨rfl,V10⟩;clear V9 D7 hq hwq;go_upto_if 36 with fail
 go_cut [5] (fun t wx=>t = I J (m:Int)∧Hid (hV 39 z10 w0 w b a n cap l s7 P κ0 ⟨m0,B,C,D,fs,List.replicate m0 bx0,[],[],lo,st⟩ s0 (hoL ⟨m0,B,C,D,fs,List.replicate m0 bx0,[],[],lo,st⟩ s0) wx))
 case first=>
  by_cases e:80<v7
  ·have hm:m=80:=by rw[HM.out,if_pos e]
   have d:decide (80<v7)=true:=by simpa using e
   subst hm;go_wp2_with fail;go_meet
   case rel=>exact⟨rfl,V10⟩
  ·have hm:m=v7:=by rw[HM.out,if_neg e]
   have d:decide (80<v7)=false:=by simpa using e
   subst hm;go_wp2_with fail;go_meet
   case rel=>exact⟨rfl,V10⟩
 case rest=>
 obtain⟨rfl,V1⟩:=hcut
 clear V10 HM;have V0:Hid (hV 39 z10 w0 w b a n cap l (S 0).2 P κ0 (S 0).1 s0 (hoL (S 0).1 s0) wc):=by rw[HS.out.1];exact V1
 clear V1;go_wp2_with fail;go_loopw [6] (fun i wr=>∃ (k:Nat) (s:Sl) (κ:Nat→Nat),k≤m∧i = I J (k:Int)∧Hid (hV 39 z10 w0 w b a n cap l (S k).2 P κ (S k).1 s (hoL (S k).1 s) wr)) (fun i _=>m-(intOf i).toNat)
 case atStart=>exact⟨0,s0,κ0,nZ _,rfl,V0⟩
 case round=>
  clear V0;obtain⟨k,s,κ,hk,rfl,V0⟩:=hrel
  have HB:Hid (bdH (S k).1):=HS.out.2.1 k hk
  by_cases hlt:k<m
  ·have hR:=HS.out.2.2 k hlt
   obtain⟨⟨H1,g1⟩,e1⟩ : ∃ x,S k=x:=⟨_,rfl⟩
   obtain⟨p',e2⟩ : ∃ x,S (k+1)=x:=⟨_,rfl⟩
   rw[e1] at V0 HB hR
   rw[e2] at hR
   have HE2:=hidG e2
   clear e1 e2;obtain⟨v,g2,D1,hR⟩:=hR
   have HB:Hid (bdH H1):=HB
   have V0:Hid (hV 39 z10 w0 w b a n cap l g1 P κ H1 s (hoL H1 s) wr):=V0
   have D1:dr 60 [I J 10] l g1 (I J (v:Int)) g2:=D1
   go_wp2_with fail;refine (hV.call D1 V0.out).mono ?_
   rintro o w1 ⟨rfl,V1⟩;clear V0 D1;rcases hR with⟨hv,t,F,g3,g4,D2,D3,hF,rfl⟩|⟨hv,F,g3,D3,hF,rfl⟩|⟨rfl,t,g3,D2,rfl⟩|⟨rfl,hw,r,hr,rfl⟩|⟨rfl,hw,t,g3,D2,rfl⟩|⟨rfl,rfl⟩|⟨rfl,t,g3,D2,ht⟩
   ·have HL:=hidG hF
    clear hF;rcases hv with rfl|rfl|rfl|rfl
    all_goals
     go_wp2_with fail;refine wp_region_held (S:=fun _=>True) (by kernel_rfl) ?_
     have V2:=hidG (V1.out.below (bW _ _).drew)
     change wpAnyH Tp _ _ _ _ _ _ _ (World.drew w1)
     generalize World.drew w1=v1 at *;clear V1;have hS:True:=trivial
     refine tk 1 ?_
     refine tk 3 ?_
     refine al2 0 2 (fun K2 hK2=>?_) (fun K2 hK2=>?_)
     rw[if_pos (by rfl)]
     refine hV.ld V2.out ?_
     refine hK2.out _ _ trivial (fun _=>?_)
     clear hK2 K2;refine al 2 fun K2 hK2=>?_
     go_simp;refine (hV.call D2 V2.out).mono ?_
     rintro o w3 ⟨rfl,V3⟩;focus go_wp2_with fail
     refine hK2.out _ _ trivial (fun _=>?_)
     clear hK2 K2;refine al 4 fun K2 hK2=>?_
     go_simp;refine (hV.small D3 V3.out).mono ?_
     rintro o w5 ⟨g,kd,rfl,V5,BY⟩;focus go_wp2_with fail
     refine hK2.out _ _ trivial (fun _=>?_)
     clear hK2 K2;clear V2 V3
     rotate_left
     go_simp;refine (hV.call D2 V2.out).mono ?_
     rintro o w3 ⟨rfl,V3⟩;focus go_wp2_with fail
     refine hK2.out _ _ trivial (fun _=>?_)
     clear hK2 K2;refine al2 0 4 (fun K2 hK2=>?_) (fun K2 hK2=>?_)
     rw[if_pos (by rfl)]
     refine hV.ld V3.out ?_
     refine hK2.out _ _ trivial (fun _=>?_)
     clear hK2 K2;refine al 4 fun K2 hK2=>?_
     go_simp;refine (hV.small D3 V3.out).mono ?_
     rintro o w5 ⟨g,kd,rfl,V5,BY⟩;focus go_wp2_with fail
     refine hK2.out _ _ trivial (fun _=>?_)
     clear hK2 K2;clear V2 V3
     rotate_left
     go_simp;refine (hV.small D3 V3.out).mono ?_
     rintro o w5 ⟨g,kd,rfl,V5,BY⟩;focus go_wp2_with fail
     refine hK2.out _ _ trivial (fun _=>?_)
     clear hK2 K2;refine al 0 fun K2 hK2=>?_
     rw[if_pos (by rfl)]
     refine hV.ld V5.out ?_
     refine hK2.out _ _ trivial (fun _=>?_)
     clear hK2 K2;clear V2 V3
     all_goals
      refine al 5 fun K2 hK2=>?_
      go_simp;refine (submit_G V5.out.g (t:Int) F _ _ kd BY.out.1 (by have:=HL.out;omega) (by have:=HB.out.b;omega) (by have:=HB.out.q;omega) HB.out.lo HB.out.st).mono ?_
      rintro o w6 ⟨s6,κ6,rfl,G6⟩;have V6:=hidG (V5.out.mv G6.out)
      go_wp2_with fail;refine hK2.out _ _ trivial (fun _=>?_)
      clear hK2 K2 V5 G6;refine al 6 fun K2 hK2=>?_
      rw[if_pos (by rfl)]
      refine hV.sv V6.out rfl ?_
      intro w7 V7;refine hK2.out _ _ trivial (fun _=>?_)
      clear hK2 K2 V6;refine wpAnyH_done (by kernel_rfl) ?_ _
      simp only[Act.put]
      go_wp2_with fail;go_roundw
      case rel=>exact⟨k+1,s6,κ6,hlt,by go_num,by rw[HE2.out];exact V7⟩
      case measure=>simp[intOf];omega
   ·have HL:=hidG hF
    clear hF;rcases hv with rfl|rfl
    all_goals
     go_wp2_with fail;refine wp_region_held (S:=fun _=>True) (by kernel_rfl) ?_
     have V2:=hidG (V1.out.below (bW _ _).drew)
     change wpAnyH Tp _ _ _ _ _ _ _ (World.drew w1)
     generalize World.drew w1=v1 at *;clear V1;have hS:True:=trivial
     refine tk 1 ?_
     refine al2 0 2 (fun K2 hK2=>?_) (fun K2 hK2=>?_)
     rw[if_pos (by rfl)]
     refine hV.ld V2.out ?_
     refine hK2.out _ _ trivial (fun _=>?_)
     clear hK2 K2;refine al 2 fun K2 hK2=>?_
     go_simp;refine (hV.small D3 V2.out).mono ?_
     rintro o w5 ⟨g,kd,rfl,V5,BY⟩;focus go_wp2_with fail
     refine hK2.out _ _ trivial (fun _=>?_)
     clear hK2 K2;clear V2
     rotate_left
     go_simp;refine (hV.small D3 V2.out).mono ?_
     rintro o w5 ⟨g,kd,rfl,V5,BY⟩;focus go_wp2_with fail
     refine hK2.out _ _ trivial (fun _=>?_)
     clear hK2 K2;refine al 0 fun K2 hK2=>?_
     rw[if_pos (by rfl)]
     refine hV.ld V5.out ?_
     refine hK2.out _ _ trivial (fun _=>?_)
     clear hK2 K2;clear V2
     all_goals
      refine al 3 fun K2 hK2=>?_
      go_simp;refine (deliver_G V5.out.g F g F.l.length kd BY.out.1 BY.out.2 (by have:=HL.out;omega) (by have:=HB.out.f;omega) (by have:=HB.out.c;omega) (by have:=HB.out.q;omega) HB.out.lo (fun j hj=>nT (HB.out.d.2.1 _ (List.getElem_mem hj)) (by decide)) HB.out.c.1).mono ?_
      rintro o w6 ⟨s6,κ6,rfl,G6⟩;have V6:=hidG (V5.out.mv G6.out)
      go_wp2_with fail;refine hK2.out _ _ trivial (fun _=>?_)
      clear hK2 K2 V5 G6;refine al 4 fun K2 hK2=>?_
      rw[if_pos (by rfl)]
      refine hV.sv V6.out rfl ?_
      intro w7 V7;refine hK2.out _ _ trivial (fun _=>?_)
      clear hK2 K2 V6;refine wpAnyH_done (by kernel_rfl) ?_ _
      simp only[Act.put]
      go_wp2_with fail;go_roundw
      case rel=>exact⟨k+1,s6,κ6,hlt,by go_num,by rw[HE2.out];exact V7⟩
      case measure=>simp[intOf];omega
   ·go_wp2_with fail;refine wp_region_held (S:=fun _=>True) (by kernel_rfl) ?_
    have V2:=hidG (V1.out.below (bW _ _).drew)
    change wpAnyH Tp _ _ _ _ _ _ _ (World.drew w1)
    generalize World.drew w1=v1 at *;clear V1;have hS:True:=trivial
    refine tk 1 ?_
    refine al2 0 2 (fun K2 hK2=>?_) (fun K2 hK2=>?_)
    rw[if_pos (by rfl)]
    refine hV.ld V2.out ?_
    refine hK2.out _ _ trivial (fun _=>?_)
    clear hK2 K2;refine al 2 fun K2 hK2=>?_
    go_simp;refine (hV.call D2 V2.out).mono ?_
    rintro o w3 ⟨rfl,V5⟩;focus go_wp2_with fail
    refine hK2.out _ _ trivial (fun _=>?_)
    clear hK2 K2;clear V2
    rotate_left
    go_simp;refine (hV.call D2 V2.out).mono ?_
    rintro o w3 ⟨rfl,V5⟩;focus go_wp2_with fail
    refine hK2.out _ _ trivial (fun _=>?_)
    clear hK2 K2;refine al 0 fun K2 hK2=>?_
    rw[if_pos (by rfl)]
    refine hV.ld V5.out ?_
    refine hK2.out _ _ trivial (fun _=>?_)
    clear hK2 K2;clear V2
    all_goals
     refine al 3 fun K2 hK2=>?_
     go_simp;refine (abort_G V5.out.g (t:Int) (by have:=HB.out.b;omega) (by have:=HB.out.q;omega) HB.out.lo).mono ?_
     rintro o w6 ⟨s6,κ6,rfl,G6⟩;have V6:=hidG (V5.out.mv G6.out)
     go_wp2_with fail;refine hK2.out _ _ trivial (fun _=>?_)
     clear hK2 K2 V5 G6;refine al 4 fun K2 hK2=>?_
     rw[if_pos (by rfl)]
     refine hV.sv V6.out rfl ?_
     intro w7 V7;refine hK2.out _ _ trivial (fun _=>?_)
     clear hK2 K2 V6;refine wpAnyH_done (by kernel_rfl) ?_ _
     simp only[Act.put]
     go_wp2_with fail;go_roundw
     case rel=>exact⟨k+1,s6,κ6,hlt,by go_num,by rw[HE2.out];exact V7⟩
     case measure=>simp[intOf];omega
   ·have HR:=hidG hr
    go_wp2_with (refine hV.ldL V1.out ?_)
    refine (l3busy_any w1 H1 s V1.out.g.is.bx (by rw[V1.out.g.n2];have:=HB.out.b;omega)).mono ?_
    rintro o w1 ⟨r0,rfl,hr0,hb1⟩;have V1':=hidG (V1.out.below hb1)
    clear V1;have V1:=V1'
    clear V1';obtain rfl:r0 = -1:=by
     rcases hr0.ix with⟨e,_⟩|⟨_,e⟩
     ·exact e
     ·exact absurd e hw
    clear hr hr0 hb1 hw;go_wp2_with fail;refine wp_region_held (S:=fun _=>True) (by kernel_rfl) ?_
    have V2:=hidG (V1.out.below (bW _ _).drew)
    change wpAnyH Tp _ _ _ _ _ _ _ (World.drew w1)
    generalize World.drew w1=v1 at *;clear V1;have hS:True:=trivial
    refine al2 0 1 (fun K2 hK2=>?_) (fun K2 hK2=>?_)
    rw[if_pos (by rfl)]
    refine hV.ld V2.out ?_
    refine hK2.out _ _ trivial (fun _=>?_)
    clear hK2 K2;refine al 1 fun K2 hK2=>?_
    rw[if_pos (by rfl)]
    refine hV.ld V2.out ?_
    refine hK2.out _ _ trivial (fun _=>?_)
    clear hK2 K2;refine al 2 fun K2 hK2=>?_
    go_simp;refine (l3best_any _ H1 s V2.out.g.is.bx (by rw[V2.out.g.n2];exact HB.out.b.2)).mono ?_
    rintro o w3 ⟨r1,rfl,hr1,hb3⟩;obtain rfl:r1=r:=bestR_one hr1 HR.out
    have V5:=hidG (V2.out.below hb3)
    clear hr1 hb3;focus go_wp2_with fail
    refine hK2.out _ _ trivial (fun _=>?_)
    clear hK2 K2;clear V2
    rotate_left
    rw[if_pos (by rfl)]
    refine hV.ld V2.out ?_
    refine hK2.out _ _ trivial (fun _=>?_)
    clear hK2 K2;refine al2 0 2 (fun K2 hK2=>?_) (fun K2 hK2=>?_)
    rw[if_pos (by rfl)]
    refine hV.ld V2.out ?_
    refine hK2.out _ _ trivial (fun _=>?_)
    clear hK2 K2;refine al 2 fun K2 hK2=>?_
    go_simp;refine (l3best_any _ H1 s V2.out.g.is.bx (by rw[V2.out.g.n2];exact HB.out.b.2)).mono ?_
    rintro o w3 ⟨r1,rfl,hr1,hb3⟩;obtain rfl:r1=r:=bestR_one hr1 HR.out
    have V5:=hidG (V2.out.below hb3)
    clear hr1 hb3;focus go_wp2_with fail
    refine hK2.out _ _ trivial (fun _=>?_)
    clear hK2 K2;clear V2
    rotate_left
    go_simp;refine (l3best_any _ H1 s V2.out.g.is.bx (by rw[V2.out.g.n2];exact HB.out.b.2)).mono ?_
    rintro o w3 ⟨r1,rfl,hr1,hb3⟩;obtain rfl:r1=r:=bestR_one hr1 HR.out
    have V5:=hidG (V2.out.below hb3)
    clear hr1 hb3;focus go_wp2_with fail
    refine hK2.out _ _ trivial (fun _=>?_)
    clear hK2 K2;refine al 0 fun K2 hK2=>?_
    rw[if_pos (by rfl)]
    refine hV.ld V5.out ?_
    refine hK2.out _ _ trivial (fun _=>?_)
    clear hK2 K2;clear V2
    all_goals
     refine al 3 fun K2 hK2=>?_
     go_simp;refine (take_G V5.out.g r1 (by have:=HB.out.b;omega)).mono ?_
     rintro o w6 ⟨s6,κ6,rfl,G6⟩;have V6:=hidG (V5.out.mv G6.out)
     go_wp2_with fail;refine hK2.out _ _ trivial (fun _=>?_)
     clear hK2 K2 V5 G6;refine al 4 fun K2 hK2=>?_
     rw[if_pos (by rfl)]
     refine hV.sv V6.out rfl ?_
     intro w7 V7;refine hK2.out _ _ trivial (fun _=>?_)
     clear hK2 K2 V6;refine wpAnyH_done (by kernel_rfl) ?_ _
     simp only[Act.put]
     go_wp2_with fail;go_roundw
     case rel=>exact⟨k+1,s6,κ6,hlt,by go_num,by rw[HE2.out];exact V7⟩
     case measure=>simp[intOf];omega
   ·obtain⟨e0,he0⟩ : ∃ e,((t:Int) == 0)=e:=⟨_,rfl⟩
    rw[he0] at HE2
    go_wp2_with (refine hV.ldL V1.out ?_)
    refine (l3busy_any w1 H1 s V1.out.g.is.bx (by rw[V1.out.g.n2];have:=HB.out.b;omega)).mono ?_
    rintro o w1 ⟨r0,rfl,hr0,hb1⟩;have V1':=hidG (V1.out.below hb1)
    clear V1;have V1:=V1'
    clear V1';have d0:decide (r0<0)=false:=by
     rcases hr0.ix with⟨_,e⟩|⟨e,_⟩
     ·exact absurd hw e
     ·rw[e];simp
    clear hr0 hb1 hw;go_wp2_with fail;refine wp_region_held (S:=fun _=>True) (by kernel_rfl) ?_
    have V2:=hidG (V1.out.below (bW _ _).drew)
    change wpAnyH Tp _ _ _ _ _ _ _ (World.drew w1)
    generalize World.drew w1=v1 at *;clear V1;have hS:True:=trivial
    refine tk 1 ?_
    refine al2 0 2 (fun K2 hK2=>?_) (fun K2 hK2=>?_)
    rw[if_pos (by rfl)]
    refine hV.ld V2.out ?_
    refine hK2.out _ _ trivial (fun _=>?_)
    clear hK2 K2;refine al 2 fun K2 hK2=>?_
    go_simp;refine (hV.call D2 V2.out).mono ?_
    rintro o w3 ⟨rfl,V5⟩;focus go_wp2_with fail
    refine hK2.out _ _ trivial (fun _=>?_)
    clear hK2 K2;refine tk 3 ?_
    clear V2
    rotate_left
    go_simp;refine (hV.call D2 V2.out).mono ?_
    rintro o w3 ⟨rfl,V5⟩;focus go_wp2_with fail
    refine hK2.out _ _ trivial (fun _=>?_)
    clear hK2 K2;refine tk 3 ?_
    refine al 0 fun K2 hK2=>?_
    rw[if_pos (by rfl)]
    refine hV.ld V5.out ?_
    refine hK2.out _ _ trivial (fun _=>?_)
    clear hK2 K2;clear V2
    all_goals
     refine al 4 fun K2 hK2=>?_
     go_simp;refine (release_G V5.out.g e0 (by have:=HB.out.b;omega) (by have:=HB.out.q;omega) HB.out.lo (fun j hj=>nT (HB.out.d.1 _ (List.getElem_mem hj)) (by decide))).mono ?_
     rintro o w6 ⟨s6,κ6,rfl,G6⟩;have V6:=hidG (V5.out.mv G6.out)
     go_wp2_with fail;refine hK2.out _ _ trivial (fun _=>?_)
     clear hK2 K2 V5 G6;refine al 5 fun K2 hK2=>?_
     rw[if_pos (by rfl)]
     refine hV.sv V6.out rfl ?_
     intro w7 V7;refine hK2.out _ _ trivial (fun _=>?_)
     clear hK2 K2 V6;refine wpAnyH_done (by kernel_rfl) ?_ _
     simp only[Act.put]
     go_wp2_with fail;go_roundw
     case rel=>exact⟨k+1,s6,κ6,hlt,by go_num,by rw[HE2.out];exact V7⟩
     case measure=>simp[intOf];omega
   ·go_wp2_with (refine hV.ldL V1.out ?_)
    refine (fetch_G V1.out.g (by have:=HB.out.q;omega) HB.out.lo (fun j hj=>nT (HB.out.d.2.1 _ (List.getElem_mem hj)) (by decide))).mono ?_
    rintro o w6 ⟨s6,κ6,rfl,G6⟩;have V6:=hidG (V1.out.mv G6.out)
    clear V1 G6;go_wp2_with (refine hV.svL V6.out rfl ?_;intro w7 V7)
    go_roundw
    case rel=>exact⟨k+1,s6,κ6,hlt,by go_num,by rw[HE2.out];exact V7⟩
    case measure=>simp[intOf];omega
   ·go_wp2_with fail;refine (hV.call D2 V1.out).mono ?_
    rintro o w2 ⟨rfl,V2⟩;clear V1 D2;rcases ht with⟨rfl,rfl⟩|⟨ht,rfl⟩
    ·have V6:=hidG (V2.out.mv V2.out.g.drop)
     have y7:=V6.out.p.cell 7 _ rfl
     have f7:=V6.out.p.free 7
     have V7:=hidG (V6.out.set 7 (sL (some ⟨w2.heap.size,0,none⟩) 0 0))
     go_wp2_with fail;go_roundw
     case rel=>exact⟨k+1,qSl s w2.heap.size 0 0,_,hlt,by go_num,by rw[HE2.out];exact V7⟩
     case measure=>simp[intOf];omega
    ·have e1:((t:Int) == 0)=false:=by simp;omega
     go_wp2_with fail;go_roundw
     case rel=>exact⟨k+1,s,κ,hlt,by go_num,by rw[HE2.out];exact V2⟩
     case measure=>simp[intOf];omega
  ·have hkm:m=k:=by omega
   subst hkm;go_wp2_with (refine hV.ldL V0.out ?_)
   refine (copyG wr (S m).1 s V0.out.g.is HB.out.le).mono ?_
   rintro o w2 ⟨s1,κ1,rfl,hg1,hk1,hb2⟩;have V2:Hid (hV 39 z10 w0 w b a n cap l (S m).2 P κ1 (S m).1 s1 (hoL (S m).1 s) w2):=by
    have q:=V0.out.below hb2
    exact⟨q.s,q.o,q.z,q.p,hg1,⟨q.x.1,q.x.2.1,hk1 _ (by have:=V0.out.p.lt;omega)⟩,fun x hx=>hk1 x (by have:=V0.out.z.lt;omega)⟩
   have HK:Hid (∀ x,x<w.heap.size→κ1 x=0):=fun x hx=>V2.out.k x (by omega)
   clear V0 hb2 hg1 hk1;go_wp2_with (refine hV.rtL (H2:=(S m).1) (s2:=s1) V2.out rfl ?_;intro w8 b8 G8)
   exact bC Tryz.results164 (lv39 b8) ⟨s1,κ1,rfl,G8.out.1,HK.out,G8.out.2⟩
end Go.Proofs.YtkfcfigbgmbaiaaGreat
