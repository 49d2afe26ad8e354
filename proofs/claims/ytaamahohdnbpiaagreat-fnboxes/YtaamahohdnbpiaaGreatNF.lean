import Derived.Test.YtaamahohdnbpiaaGreatG18
namespace Go.Proofs.YtaamahohdnbpiaaGreat
open Go.RowKit
set_option linter.unusedVariables false
theorem ownG.st {α:Type} {F:Rc α} {w W:World} {B E sz g k:Nat} {rs:List α} (h:ownG F w B E sz g k rs) (he:∀ b,B≤b→b<w.heap.size→W.heap[b]?=w.heap[b]?):ownG F W B E sz g k rs:=by
 have hl:=h.lt
 refine⟨ownsRow_kept h.own (he g hl.1 hl.2),fun p hp=>?_⟩
 obtain⟨d1,d2,d3,d4⟩:=h.dat p hp
 have e:=he _ d2 d4
 refine⟨d1.other e,d2,d3,?_⟩
 rw[Array.getElem?_eq_getElem d4] at e
 exact lt_of_some e
def rowQ8 (B T E g n k:Nat) (bs:List R8) (W:World):Prop:=∃ rs,ownG rc8 W B E 8 g k rs∧rs.map (·.1)=bs∧rs.length=n∧g<T∧∀ p ∈ rs,rc8.gd p<T
def rowQ5 (B T E g n k:Nat) (bs:List R5) (W:World):Prop:=∃ rs,ownG rc5 W B E 5 g k rs∧rs.map (·.1)=bs∧rs.length=n∧g<T∧∀ p ∈ rs,rc5.gd p<T
theorem rowQ8.is {B T E g n k:Nat} {bs:List R8} {W:World} (h:rowQ8 B T E g n k bs W):isR8s W (some ⟨g,0,none⟩) n k bs:=by
 obtain⟨rs,h2,h3,h4,_⟩:=h
 have:=h2.r8.now
 rw[h3,h4] at this
 exact this
theorem rowQ5.is {B T E g n k:Nat} {bs:List R5} {W:World} (h:rowQ5 B T E g n k bs W):isR5s W (some ⟨g,0,none⟩) n k bs:=by
 obtain⟨rs,h2,h3,h4,_⟩:=h
 have:=h2.r5.now
 rw[h3,h4] at this
 exact this
set_option maxHeartbeats 4000000 in
set_option maxRecDepth 20000 in
theorem l3copyEvents_own (w:World) (a:Option Addr) (n cap:Nat) (bs:List R8) (h:isR8s w a n cap bs) (hn:n≤1048576) (hd:∀ j (h:j<bs.length),bs[j].l.length≤1048576) :
  Calls Tryz.prog 81 #[.slice a n cap] w fun o w'=>∃ g k,o = .returned (.slice (some ⟨g,0,none⟩) n k)∧(w.heap.size≤g∧g<w'.heap.size∧St w.heap.size w' (fun W=>rowQ8 w.heap.size w'.heap.size 46 g n k bs W))∧Below w.heap.size w w':=by
 have HH:Hid (isR8s w a n cap bs):=h
 have HL:Hid (n=bs.length):=h.len
 have hcp:=h.cap
 have HD:Hid (∀ j (h:j<bs.length),bs[j].l.length≤1048576):=hd
 clear h hd;go_enter Tryz.func81,Tryz.ntmps81
 go_wp2_with fail;have hown:=ownG.nil rc8 w w.heap.size 46 8 (Nat.le_refl _)
 go_loopw [3,4] (fun v t wr=>∃ k g kc rs,k≤n∧v = .slice (some ⟨g,0,none⟩) k kc∧t = .int .i64 (k:Int)∧ownG rc8 wr w.heap.size 46 8 g kc rs∧rs.map (·.1)=bs.take k∧Below w.heap.size w wr) (fun _ t _=>n-(intOf t).toNat)
 case atStart=>exact⟨0,_,0,[],Nat.zero_le _,rfl,rfl,hown,by simp,(Below.refl _ _).alloc (Nat.le_refl _) _⟩
 case round=>
  clear hown;obtain⟨k,g,kc,rs,hk,rfl,rfl,ho,hm,hb⟩:=hrel
  by_cases hlt:k<n
  ·have hkl:k<bs.length:=by have:=HL.out;omega
   obtain⟨g0,o0,rfl,hc⟩:=HH.out.cells (by intro e;rw[e] at hkl;exact absurd hkl (Nat.not_lt_zero _))
   obtain⟨ao,m,c,hat⟩:=hc k hkl
   have HM:Hid (m=bs[k].l.length):=hat.dat.len
   have HRG:=(at8.below hat hb).range
   have HDT:Hid (isBytes wr ao m c bs[k].l):=hat.dat.below hb
   have HMM:Hid (m≤1048576):=by show _≤_;rw[HM.out];exact HD.out k hkl
   have HTK:Hid (∀ gd kd:Nat,List.map (fun p:R8 × Nat × Nat=>p.1) (rs++[(bs[k],gd,kd)])=bs.take (k+1)):=fun gd kd=>take8 hm hkl (bs[k],gd,kd) rfl
   have HLN:Hid (rs.length=k):=take8_len hm (by omega)
   have HEN:Hid (∀ gd kd,rc8.enc (bs[k],gd,kd)=[.int .i64 bs[k].x,.int .i64 bs[k].y,.int .i64 bs[k].z,.bool bs[k].e,.int .u32 (bs[k].i:Int),.bool bs[k].r,.int .i64 bs[k].d,.slice (some ⟨gd,0,none⟩) m kd]):=fun gd kd=>by show _=_;rw[HM.out];rfl
   clear hc hat hm;generalize bs[k]=bk at *;obtain⟨x,y,z,e,i,r,d,l⟩:=bk
   simp only[] at HRG HEN HDT HM
   have HRG:Hid (wr.rangeAt g0 (o0+k*8) [.int .i64 x,.int .i64 y,.int .i64 z,.bool e,.int .u32 (i:Int),.bool r,.int .i64 d,.slice ao m c]):=HRG
   have HO:Hid (ownG rc8 wr w.heap.size 46 8 g kc rs):=ho
   have HB:Hid (Below w.heap.size w wr):=hb
   have HAL:Hid (blk (wr.alloc (.cells [.int .i64 0,.int .i64 0,.int .i64 0,.bool false,.int .u32 0,.bool false,.int .i64 0,.slice none 0 0].toArray 46)) wr.heap.size ([]++[.int .i64 0,.int .i64 0,.int .i64 0,.bool false,.int .u32 0,.bool false,.int .i64 0,.slice none 0 0]++[]) 46):=blk.new wr _ 46
   clear ho hb;go_wp2_with (first
    | (refine wpList_load_mid (P:=Tryz.prog) rfl 46 (.tmp 15) rfl g0 (o0+k*8) rfl _ _ HRG.out Tryz.underlying46 rfl sz129 ?_)
    | (refine wpList_store_mid (P:=Tryz.prog) rfl 46 (.tmp 5) (.tmp 16) rfl wr.heap.size 0 _ rfl rfl (HAL.out.there 0 8 (by simp)) sz129 (one8 _ _ _ _ _ _ _ _ _ _) ?_;generalize hW2:World.setCells (wr.alloc _) wr.heap.size 0 _=w2;have HP2:Hid (blk w2 wr.heap.size ([.int .i64 x,.int .i64 y,.int .i64 z]++[.bool e,.int .u32 (i:Int),.bool r,.int .i64 d,.slice ao m c]++[]) 46):=(hW2 ▸ blk.put [] _ [] [.int .i64 x,.int .i64 y,.int .i64 z,.bool e,.int .u32 (i:Int),.bool r,.int .i64 d,.slice ao m c] HAL.out rfl);have HB2:Hid (Below wr.heap.size wr w2):=(hW2 ▸ setCells_below (Nat.le_refl _) _ _ ((Below.refl _ _).alloc (Nat.le_refl _) _));have HS2:Hid (w2.heap.size=wr.heap.size+1):=(by show _=_;rw[← hW2,setCells_size];simp);clear hW2)
    | (refine wpList_load_mid (P:=Tryz.prog) rfl 25 (.tmp 17) rfl wr.heap.size 3 rfl [.bool e,.int .u32 (i:Int),.bool r,.int .i64 d,.slice ao m c] _ (blk.loadAt [.int .i64 x,.int .i64 y,.int .i64 z] [.bool e,.int .u32 (i:Int),.bool r,.int .i64 d,.slice ao m c] [] HP2.out) Tryz.underlying25 rfl sz93 ?_)
    | (go_at_call 136;refine (l1copyFrame_any w2 e i r d ao m c l (HDT.out.below HB2.out) HMM.out).mono ?_;rintro o w3 ⟨gd,kd,rfl,⟨q1,q2,q3,q4⟩,hb3⟩;have HQ3:Hid (w2.heap.size+2≤gd∧gd<w3.heap.size∧St (w2.heap.size+2) w3 (fun W=>isBytes W (some ⟨gd,0,none⟩) m kd l)):=⟨q4,q2,q3⟩;have HP3:Hid (blk w3 wr.heap.size ([.int .i64 x,.int .i64 y,.int .i64 z]++[.bool e,.int .u32 (i:Int),.bool r,.int .i64 d,.slice ao m c]++[]) 46):=HP2.out.below hb3;have HB3:Hid (Below wr.heap.size wr w3):=HB2.out.trans (hb3.mono HB2.out.size);clear q1 q2 q3 q4 hb3)
    | (refine wpList_store_mid (P:=Tryz.prog) rfl 25 (.tmp 20) (.tmp 19) rfl wr.heap.size 3 _ rfl rfl (HP3.out.there 3 5 (by simp)) sz93 (one5 _ _ _ _ _ _ _) ?_;generalize hW4:World.setCells w3 wr.heap.size 3 _=w4;have HP4:Hid (blk w4 wr.heap.size [.int .i64 x,.int .i64 y,.int .i64 z,.bool e,.int .u32 (i:Int),.bool r,.int .i64 d,.slice (some ⟨gd,0,none⟩) m kd] 46):=(hW4 ▸ blk.put [.int .i64 x,.int .i64 y,.int .i64 z] [.bool e,.int .u32 (i:Int),.bool r,.int .i64 d,.slice ao m c] [] [.bool e,.int .u32 (i:Int),.bool r,.int .i64 d,.slice (some ⟨gd,0,none⟩) m kd] HP3.out rfl);have HB4:Hid (Below wr.heap.size wr w4):=(hW4 ▸ setCells_below (Nat.le_refl _) _ _ HB3.out);have HQ4:Hid (wr.heap.size<gd∧gd<w4.heap.size∧isBytes w4 (some ⟨gd,0,none⟩) m kd l):=(by show _∧_;have h2:=HS2.out;obtain⟨h3,h4,h5⟩:=HQ3.out;refine⟨by omega,by rw[← hW4,setCells_size];exact h4,?_⟩;rw[← hW4];exact (h5.setCells _ _ (by omega) _).now);clear hW4)
    | (refine wpList_load_mid (P:=Tryz.prog) rfl 46 (.tmp 5) rfl wr.heap.size 0 rfl [.int .i64 x,.int .i64 y,.int .i64 z,.bool e,.int .u32 (i:Int),.bool r,.int .i64 d,.slice (some ⟨gd,0,none⟩) m kd] _ HP4.out.load Tryz.underlying46 rfl sz129 ?_)
    | (at_builtin;refine app_rec (w:=w4.alloc (.cells #[.int .i64 x,.int .i64 y,.int .i64 z,.bool e,.int .u32 (i:Int),.bool r,.int .i64 d,.slice (some ⟨gd,0,none⟩) m kd] 46)) rfl (.tmp 21) (.tmp 23) 33 46 _ 8 72 Tryz.info46 Tryz.underlying33 rfl (by decide) (by decide) rfl w.heap.size g k kc (rs.flatMap rc8.enc) rfl (by have:=((HO.out.below HB4.out).alloc (.cells #[.int .i64 x,.int .i64 y,.int .i64 z,.bool e,.int .u32 (i:Int),.bool r,.int .i64 d,.slice (some ⟨gd,0,none⟩) m kd] 46)).own;rw[HLN.out] at this;exact this) w4.heap.size [.int .i64 x,.int .i64 y,.int .i64 z,.bool e,.int .u32 (i:Int),.bool r,.int .i64 d,.slice (some ⟨gd,0,none⟩) m kd] rfl rfl (blk.new w4 _ 46) (one8L _ _ _ _ _ _ _ _ _ _) (by omega) (by have:=HB.out.size;have:=HB4.out.size;simp;omega) ?_;intro g' k' w6 ho6 hg6 hg' hB6))
   go_roundw
   case rel=>
    obtain⟨h1,h2,h3⟩:=HQ4.out
    have hO4:=(HO.out.below HB4.out).alloc (.cells #[.int .i64 x,.int .i64 y,.int .i64 z,.bool e,.int .u32 (i:Int),.bool r,.int .i64 d,.slice (some ⟨gd,0,none⟩) m kd] 46)
    have hgl:=HO.out.lt
    have hml:=HM.out
    refine⟨k+1,g',k',rs++[(⟨x,y,z,e,i,r,d,l⟩,gd,kd)],by omega,rfl,by go_num,?_,HTK.out gd kd,?_⟩
    ·refine hO4.snoc (⟨x,y,z,e,i,r,d,l⟩,gd,kd) ?_ ?_ ?_ ?_ ?_ hg6 hg'
     ·show isBytes _ (some ⟨gd,0,none⟩) l.length kd l
      rw[← hml]
      exact h3.below ((Below.refl _ _).alloc (Nat.le_refl _) _)
     ·show w.heap.size≤gd
      omega
     ·show gd≠g
      omega
     ·show gd<_
      simp
      omega
     ·rw[HEN.out,HLN.out]
      exact ho6
    ·have hbb:=HB.out.trans (HB4.out.mono HB.out.size)
     refine (hbb.alloc hbb.size _).grown hg6 (by have:=hbb.size;simp;omega) ?_
     intro k0 hk0;have:k0=g:=by simpa using hk0.symm
     omega
   case measure=>simp[intOf];omega
  ·have hkn:k=n:=by omega
   subst hkn;have hln:=take8_len hm (by have:=HL.out;omega)
   rw[List.take_of_length_le (by have:=HL.out;omega)] at hm
   have HQ:Hid (w.heap.size≤g∧g<wr.heap.size∧St w.heap.size wr (fun W=>rowQ8 w.heap.size wr.heap.size 46 g k kc bs W)):=by
    refine⟨ho.lt.1,ho.lt.2,fun W hW=>⟨rs,ho.st hW,hm,hln,ho.lt.2,fun p hp=>(ho.dat p hp).2.2.2⟩⟩
   clear ho hm hln;go_wp2
   go_ret;exact⟨g,kc,rfl,HQ.out,hb⟩
set_option maxHeartbeats 4000000 in
set_option maxRecDepth 40000 in
theorem l3copy_own (w:World) (H:Ho) (s:Sl) (h:isHo w H s) (hn:H.le 1048576) :
  Calls Tryz.prog 71 #[hoV H s] w fun o w'=>∃ gf kf gb kb gq kq g4 k4 T0 T1 T2 T3,o = .returned (hoV H ⟨some ⟨gf,0,none⟩,s.n1,kf,some ⟨gb,0,none⟩,s.n2,kb,some ⟨gq,0,none⟩,s.n3,kq,some ⟨g4,0,none⟩,s.n4,k4⟩)∧(w.heap.size+3≤gf∧gf<T0∧T0≤T1∧T1≤T2∧T2≤T3∧T3≤w'.heap.size)∧St (w.heap.size+3) w' (fun W=>isR3s W (some ⟨gf,0,none⟩) s.n1 kf H.fs∧rowQ8 T0 T1 97 gb s.n2 kb H.bx W∧rowQ5 T1 T2 25 gq s.n3 kq H.ff W∧rowQ8 T2 T3 46 g4 s.n4 k4 H.qu W)∧Below w.heap.size w w':=by
 have HH:Hid (isHo w H s):=h
 have HN:Hid (H.le 1048576):=hn
 clear h hn;obtain⟨c0,c1,c2,c3,fs,bx,ff,qu,lo,st⟩:=H
 obtain⟨a1,n1,k1,a2,n2,k2,a3,n3,k3,a4,n4,k4⟩:=s
 have HP:Hid (blk (w.alloc (.cells [.int .i64 c0,.int .i64 c1,.int .i64 c2,.int .i64 c3,.slice a1 n1 k1,.slice a2 n2 k2,.slice a3 n3 k3,.slice a4 n4 k4,.int .i64 lo,.int .i64 st].toArray 35)) w.heap.size [.int .i64 c0,.int .i64 c1,.int .i64 c2,.int .i64 c3,.slice a1 n1 k1,.slice a2 n2 k2,.slice a3 n3 k3,.slice a4 n4 k4,.int .i64 lo,.int .i64 st] 35):=blk.new w _ 35
 have HG:Hid (gS w [.int .i64 c0,.int .i64 c1,.int .i64 c2,.int .i64 c3,.slice a1 n1 k1,.slice a2 n2 k2,.slice a3 n3 k3,.slice a4 n4 k4,.int .i64 lo,.int .i64 st] ([]++z10++[]) (((w.alloc (.cells [.int .i64 c0,.int .i64 c1,.int .i64 c2,.int .i64 c3,.slice a1 n1 k1,.slice a2 n2 k2,.slice a3 n3 k3,.slice a4 n4 k4,.int .i64 lo,.int .i64 st].toArray 35)).alloc (.cells z10.toArray 35)).alloc (.cells z10.toArray 35))):=by
  refine⟨((blk.new w _ 35).alloc _).alloc _,?_,?_,(((Below.refl _ _).alloc (Nat.le_refl _) _).alloc (by simp) _).alloc (by simp;omega) _⟩
  ·have:=(blk.new (w.alloc (.cells [.int .i64 c0,.int .i64 c1,.int .i64 c2,.int .i64 c3,.slice a1 n1 k1,.slice a2 n2 k2,.slice a3 n3 k3,.slice a4 n4 k4,.int .i64 lo,.int .i64 st].toArray 35)) z10 35).alloc (.cells z10.toArray 35)
   simpa using this
  ·have:=blk.new ((w.alloc (.cells [.int .i64 c0,.int .i64 c1,.int .i64 c2,.int .i64 c3,.slice a1 n1 k1,.slice a2 n2 k2,.slice a3 n3 k3,.slice a4 n4 k4,.int .i64 lo,.int .i64 st].toArray 35)).alloc (.cells z10.toArray 35)) z10 35
   simpa using this
 go_enter Tryz.func71,Tryz.ntmps71
 go_wp2_with (first
  | (refine wpList_load_mid (P:=Tryz.prog) rfl 35 (.tmp 1) rfl w.heap.size 0 rfl _ _ (blk.alloc HP.out _).load Tryz.underlying35 rfl sz41 ?_)
  | (refine wpList_store_mid (P:=Tryz.prog) rfl 35 (.tmp 3) (.tmp 7) rfl (w.heap.size+1+1) 0 _ rfl rfl (HG.out.q.there 0 10 (by simp)) sz41 (one10 _ _ _ _ _ _ _ _ _ _ _ _ _ _ _ _ _ _) ?_;generalize hW1:World.setCells (World.alloc _ _) (w.heap.size+1+1) 0 _=w1;have N1:gS w [.int .i64 c0,.int .i64 c1,.int .i64 c2,.int .i64 c3,.slice a1 n1 k1,.slice a2 n2 k2,.slice a3 n3 k3,.slice a4 n4 k4,.int .i64 lo,.int .i64 st] [.int .i64 c0,.int .i64 c1,.int .i64 c2,.int .i64 c3,.slice a1 n1 k1,.slice a2 n2 k2,.slice a3 n3 k3,.slice a4 n4 k4,.int .i64 lo,.int .i64 st] w1:=(hW1 ▸ ⟨HG.out.p.other (by omega) _ _,HG.out.r.other (by omega) _ _,blk.put [] z10 [] [.int .i64 c0,.int .i64 c1,.int .i64 c2,.int .i64 c3,.slice a1 n1 k1,.slice a2 n2 k2,.slice a3 n3 k3,.slice a4 n4 k4,.int .i64 lo,.int .i64 st] HG.out.q rfl,setCells_below (by omega) _ _ HG.out.b⟩);have HN1:Hid (gS w [.int .i64 c0,.int .i64 c1,.int .i64 c2,.int .i64 c3,.slice a1 n1 k1,.slice a2 n2 k2,.slice a3 n3 k3,.slice a4 n4 k4,.int .i64 lo,.int .i64 st] [.int .i64 c0,.int .i64 c1,.int .i64 c2,.int .i64 c3,.slice a1 n1 k1,.slice a2 n2 k2,.slice a3 n3 k3,.slice a4 n4 k4,.int .i64 lo,.int .i64 st] w1):=N1;have x4:=(N1.q.alloc (.cells #[] 85)).cell 4 _ rfl;have f4:=(N1.q.alloc (.cells #[] 85)).free 4;clear N1 hW1))
 have hg1:=(HN1.out.below ((Below.refl _ _).alloc (Nat.le_refl _) (.cells #[] 85))).set 4 (.slice (some ⟨w1.heap.size,0,none⟩) 0 0)
 have ho1:=World.ownsRow_made (base:=w.heap.size+3) (size:=3) (e:=85) w1 #[] 0 HN1.out.z (by decide) (by simp)
 have ho1:=ownsRow_kept (w':=(w1.alloc (.cells #[] 85)).setCell ⟨w.heap.size+1+1,4,none⟩ (.slice (some ⟨w1.heap.size,0,none⟩) 0 0)) ho1 (by rw[heap_setCell_other _ _ _ _ (by have:=HN1.out.z;simp;omega)])
 clear x4 f4 HP HG;go_loopw [4] (fun t wr=>∃ k g kc:Nat,k≤n1∧t = .int .i64 (k:Int)∧gS w [.int .i64 c0,.int .i64 c1,.int .i64 c2,.int .i64 c3,.slice a1 n1 k1,.slice a2 n2 k2,.slice a3 n3 k3,.slice a4 n4 k4,.int .i64 lo,.int .i64 st] [.int .i64 c0,.int .i64 c1,.int .i64 c2,.int .i64 c3,.slice (some ⟨g,0,none⟩) k kc,.slice a2 n2 k2,.slice a3 n3 k3,.slice a4 n4 k4,.int .i64 lo,.int .i64 st] wr∧wr.ownsRow (w.heap.size+3) 85 3 (.slice (some ⟨g,0,none⟩) k kc) k (Go.Proofs.YtaamahohdnbpiaaGreat.c3 (fs.take k))) (fun t _=>n1-(intOf t).toNat)
 case atStart=>exact⟨0,_,0,Nat.zero_le _,rfl,hg1,ho1⟩
 case round=>
  clear hg1 ho1;obtain⟨k,gf,kf,hk,rfl,hg,ho⟩:=hrel
  have y4:=hg.p.cell 4 _ rfl
  have HGS:Hid _:=hg
  have HO:Hid _:=ho
  clear hg ho;by_cases hlt:k<n1
  ·have HL:Hid (n1=fs.length):=HH.out.fs.len
   have hkl:k<fs.length:=by have:=HL.out;omega
   obtain⟨g0,o0,rfl,hc⟩:=HH.out.fs.cells (by intro e;have e:fs=[]:=e;rw[e] at hkl;exact absurd hkl (Nat.not_lt_zero _))
   have HLT:Hid (k<n1):=hlt
   have HKB:Hid (k≤100000000):=(by have h1:fs.length≤1048576:=HN.out.fs;have:=HL.out;show _≤_;omega)
   have HRG:Hid (w.rangeAt g0 (o0+k*3) (rc3 fs[k])):=(hc k hkl).range
   have HC:Hid (Go.Proofs.YtaamahohdnbpiaaGreat.c3 (fs.take k)++rc3 fs[k]=Go.Proofs.YtaamahohdnbpiaaGreat.c3 (fs.take (k+1))):=c3_snoc fs k hkl
   have hgz:g0<w.heap.size:=World.block_lt_of_cell? w _ (hc k hkl).c0
   clear hc;go_wp2_with fail;clear y4;refine wp_region_held (S:=hS w [.int .i64 c0,.int .i64 c1,.int .i64 c2,.int .i64 c3,.slice (some ⟨g0,o0,none⟩) n1 k1,.slice a2 n2 k2,.slice a3 n3 k3,.slice a4 n4 k4,.int .i64 lo,.int .i64 st]) (by kernel_rfl) ?_
   obtain⟨wd,hwd⟩ : ∃ wd,wd=wr.drew:=⟨_,rfl⟩
   change wpAnyH _ _ _ _ _ _ _ _ wr.drew
   rw[← hwd]
   have hg:=HGS.out.below (W':=wd) (hwd ▸ (Below.refl _ _).drew)
   have ho:wd.ownsRow _ _ _ _ _ _:=ownsRow_kept (w':=wd) HO.out (by rw[hwd];rfl)
   have hs:=hg.hs
   clear HGS HO hwd;refine wT (i:=0) (v:=.pointer (some ⟨w.heap.size+1+1,4,none⟩)) rfl (by kernel_rfl) (by kernel_rfl) (by kernel_rfl) (fun _ _ _ h=>h) (Or.inl ⟨by rfl,?_⟩) hs ?_
   ·intro W hW;clear hs;go_simp
   simp only[Act.put,aA,aB,aC,aD,aE]
   refine wT (i:=2) (v:=.pointer (some ⟨w.heap.size,4,none⟩)) rfl (by kernel_rfl) (by kernel_rfl) (by kernel_rfl) (fun _ _ _ h=>h) (Or.inl ⟨by rfl,?_⟩) hs ?_
   ·intro W hW;clear hs;go_simp
   simp only[Act.put,aA,aB,aC,aD,aE,aF];refine wT (i:=3) (v:=.slice (some ⟨g0,o0,none⟩) n1 k1) rfl (by kernel_rfl) (by kernel_rfl) (by kernel_rfl) (fun _ _ _ h=>h) (Or.inl ⟨by rfl,?_⟩) hs ?_
   ·intro W hW;clear hs;have z4:=hW.p.cell 4 _ rfl
    go_simp
   simp only[Act.put,aA,aB,aC,aD,aE,aF];refine wT (i:=4) (v:=.int .i64 (k:Int)) rfl (by kernel_rfl) (by kernel_rfl) (by kernel_rfl) (fun _ _ _ h=>h) (Or.inl ⟨by rfl,?_⟩) hs ?_
   ·intro W hW;clear hs;go_simp
   simp only[Act.put,aA,aB,aC,aD,aE,aF];refine wT (i:=5) (v:=.pointer (some ⟨g0,o0+k*3,none⟩)) rfl (by kernel_rfl) (by kernel_rfl) (by kernel_rfl) (fun _ _ _ h=>h) (Or.inl ⟨by rfl,?_⟩) hs ?_
   ·intro W hW;clear hs;go_simp
   simp only[Act.put,aA,aB,aC,aD,aE,aF];refine wT (i:=6) (v:=.agg [.bool fs[k].e,.int .u32 fs[k].m,.int .u32 fs[k].k].toArray) rfl (by kernel_rfl) (by kernel_rfl) (by kernel_rfl) (fun _ _ _ h=>h) (yieldsIf_load_mid (by rfl) 85 (.tmp 22) rfl g0 (o0+k*3) rfl [.bool fs[k].e,.int .u32 fs[k].m,.int .u32 fs[k].k] _ (fun W h=>range_below HRG.out h.b hgz) Tryz.underlying85 rfl sz98) hs ?_
   simp only[Act.put,aA,aB,aC,aD,aE,aF];have HC:Hid (Go.Proofs.YtaamahohdnbpiaaGreat.c3 (fs.take k)++[.bool fs[k].e,.int .u32 fs[k].m,.int .u32 fs[k].k]=Go.Proofs.YtaamahohdnbpiaaGreat.c3 (fs.take (k+1))):=HC.out
   clear HRG;generalize fs[k].e=fe at *;generalize fs[k].m=fm at *;generalize fs[k].k=fk at *;refine wpAnyH_all (rs:=[1,7]) (by kernel_rfl) (by simp) ?_
   refine AllReadyH.cons rfl (fun K hK=>?_) (AllReadyH.cons rfl (fun K hK=>?_) AllReadyH.nil)
   ·have yq:=hg.q.cell 4 _ rfl
    go_simp;clear yq;refine hK.out _ _ hs (fun hs2=>?_)
    clear hK K;clear hs2;refine wpAnyH_all (rs:=[7]) (by kernel_rfl) (by simp) ?_
    refine AllReadyH.cons rfl (fun K hK=>?_) AllReadyH.nil
    go_simp;have hga:=hg.below ((Below.refl _ _).alloc (Nat.le_refl _) (.cells #[.bool fe,.int .u32 fm,.int .u32 fk] 85))
    have hs:=hga.hs
    refine hK.out _ _ hs (fun hs2=>?_)
    clear hK K;clear hs2;refine wpAnyH_all (rs:=[8]) (by kernel_rfl) (by simp) ?_
    refine AllReadyH.cons rfl (fun K hK=>?_) AllReadyH.nil
    rw[if_pos (by rfl)]
    refine wp_app_rec (w:=(wd.alloc (.cells #[.bool fe,.int .u32 fm,.int .u32 fk] 85))) (.tmp 18) (.tmp 24) 30 85 _ 3 12 Tryz.info85 Tryz.underlying30 rfl (by decide) (by decide) rfl (w.heap.size+3) gf k kf (Go.Proofs.YtaamahohdnbpiaaGreat.c3 (fs.take k)) rfl (ho.alloc _) wd.heap.size [.bool fe,.int .u32 fm,.int .u32 fk] rfl rfl (blk.new wd _ 85) (one3L _ _ _) HKB.out (by have:=hg.z;simp;omega) ?_
    intro g' k' w6 ho6 hg6 hg' hB6;rw[HC.out] at ho6
    have hgl:=World.ownsRow.lt ho gf rfl
    have hG6:=hga.grown hg6 (by omega)
    have hs6:=hG6.hs
    refine hK.out _ _ hs6 (fun hs2=>?_)
    clear hK K;clear hs hs6;have hs:=hs2
    clear hs2;simp only[Act.put,aA,aB,aC,aD,aE,aF];refine wT (i:=9) (v:=.pointer (some ⟨w.heap.size+1+1,4,none⟩)) rfl (by kernel_rfl) (by kernel_rfl) (by kernel_rfl) (fun _ _ _ h=>h) (Or.inl ⟨by rfl,?_⟩) hs ?_
    ·intro W hW;clear hs;go_simp
    simp only[Act.put,aA,aB,aC,aD,aE,aF];refine wpAnyH_all (rs:=[10]) (by kernel_rfl) (by simp) ?_
    refine AllReadyH.cons rfl (fun K hK=>?_) AllReadyH.nil
    have xq:=hG6.q.cell 4 _ rfl
    have fq:=hG6.q.free 4
    go_simp;have hG7:=hG6.set 4 (.slice (some ⟨g',0,none⟩) (k+1) k')
    have ho7:=ownsRow_kept (w':=w6.setCell ⟨w.heap.size+1+1,4,none⟩ (.slice (some ⟨g',0,none⟩) (k+1) k')) ho6 (by rw[heap_setCell_other _ _ _ _ (by show g'≠_+_+_;omega)])
    have hs7:=hG7.hs
    refine hK.out _ _ hs7 (fun hs2=>?_)
    clear hK K;clear hs hs2 hs7 xq fq;refine wpAnyH_done (by kernel_rfl) ?_ _
    have HG7:Hid _:=hG7
    have HO7:Hid _:=ho7
    clear hG7 ho7 hG6 ho6 hg6 hga hg ho;have hkb:=HKB.out
    go_wp2_with fail;go_roundw
    case rel=>exact⟨k+1,g',k',HLT.out,by go_num,HG7.out,HO7.out⟩
    case measure=>have:=HLT.out;simp[intOf];omega
   ·go_simp;have hga:=hg.below ((Below.refl _ _).alloc (Nat.le_refl _) (.cells #[.bool fe,.int .u32 fm,.int .u32 fk] 85))
    have hs:=hga.hs
    refine hK.out _ _ hs (fun hs2=>?_)
    clear hK K;clear hs2;refine wpAnyH_all (rs:=[1]) (by kernel_rfl) (by simp) ?_
    refine AllReadyH.cons rfl (fun K hK=>?_) AllReadyH.nil
    have yq:=hga.q.cell 4 _ rfl
    go_simp;clear yq;refine hK.out _ _ hs (fun hs2=>?_)
    clear hK K;clear hs2;refine wpAnyH_all (rs:=[8]) (by kernel_rfl) (by simp) ?_
    refine AllReadyH.cons rfl (fun K hK=>?_) AllReadyH.nil
    rw[if_pos (by rfl)]
    refine wp_app_rec (w:=(wd.alloc (.cells #[.bool fe,.int .u32 fm,.int .u32 fk] 85))) (.tmp 18) (.tmp 24) 30 85 _ 3 12 Tryz.info85 Tryz.underlying30 rfl (by decide) (by decide) rfl (w.heap.size+3) gf k kf (Go.Proofs.YtaamahohdnbpiaaGreat.c3 (fs.take k)) rfl (ho.alloc _) wd.heap.size [.bool fe,.int .u32 fm,.int .u32 fk] rfl rfl (blk.new wd _ 85) (one3L _ _ _) HKB.out (by have:=hg.z;simp;omega) ?_
    intro g' k' w6 ho6 hg6 hg' hB6;rw[HC.out] at ho6
    have hgl:=World.ownsRow.lt ho gf rfl
    have hG6:=hga.grown hg6 (by omega)
    have hs6:=hG6.hs
    refine hK.out _ _ hs6 (fun hs2=>?_)
    clear hK K;clear hs hs6;have hs:=hs2
    clear hs2;simp only[Act.put,aA,aB,aC,aD,aE,aF];refine wT (i:=9) (v:=.pointer (some ⟨w.heap.size+1+1,4,none⟩)) rfl (by kernel_rfl) (by kernel_rfl) (by kernel_rfl) (fun _ _ _ h=>h) (Or.inl ⟨by rfl,?_⟩) hs ?_
    ·intro W hW;clear hs;go_simp
    simp only[Act.put,aA,aB,aC,aD,aE,aF];refine wpAnyH_all (rs:=[10]) (by kernel_rfl) (by simp) ?_
    refine AllReadyH.cons rfl (fun K hK=>?_) AllReadyH.nil
    have xq:=hG6.q.cell 4 _ rfl
    have fq:=hG6.q.free 4
    go_simp;have hG7:=hG6.set 4 (.slice (some ⟨g',0,none⟩) (k+1) k')
    have ho7:=ownsRow_kept (w':=w6.setCell ⟨w.heap.size+1+1,4,none⟩ (.slice (some ⟨g',0,none⟩) (k+1) k')) ho6 (by rw[heap_setCell_other _ _ _ _ (by show g'≠_+_+_;omega)])
    have hs7:=hG7.hs
    refine hK.out _ _ hs7 (fun hs2=>?_)
    clear hK K;clear hs hs2 hs7 xq fq;refine wpAnyH_done (by kernel_rfl) ?_ _
    have HG7:Hid _:=hG7
    have HO7:Hid _:=ho7
    clear hG7 ho7 hG6 ho6 hg6 hga hg ho;have hkb:=HKB.out
    go_wp2_with fail;go_roundw
    case rel=>exact⟨k+1,g',k',HLT.out,by go_num,HG7.out,HO7.out⟩
    case measure=>have:=HLT.out;simp[intOf];omega
  ·have hkn:n1=k:=by omega
   subst hkn;have HF1:Hid (St (w.heap.size+3) wr (fun W=>isR3s W (some ⟨gf,0,none⟩) n1 kf fs)):=by
    have hl:n1=fs.length:=HH.out.fs.len
    have:=HO.out
    rw[List.take_of_length_le (by omega)] at this
    obtain⟨g',c',e',q1,q2,q3,q4,q5⟩:=c3_owns hl this (by intro e;cases e)
    cases e'
    exact q5
   have HGF:Hid (w.heap.size+3≤gf∧gf<wr.heap.size):=World.ownsRow.lt HO.out gf rfl
   have HZ3:Hid (w.heap.size+3≤wr.heap.size):=HGS.out.z
   have x5:=(HGS.out.q.alloc (.cells #[] 97)).cell 5 _ rfl
   have f5:=(HGS.out.q.alloc (.cells #[] 97)).free 5
   clear HO;rename World=>wa
   go_wp2_with fail;clear x5 f5 y4;have hg1:=(HGS.out.below ((Below.refl _ _).alloc (Nat.le_refl _) (.cells #[] 97))).set 5 (.slice (some ⟨wa.heap.size,0,none⟩) 0 0)
   have ho1:=(ownG.nil rc8 wa wa.heap.size 97 8 (Nat.le_refl _)).set (w.heap.size+1+1) 5 (by have:=HZ3.out;omega) [.slice (some ⟨wa.heap.size,0,none⟩) 0 0]
   have hk1:=((Kp.refl (w.heap.size+3) wa).below ((Below.refl _ _).alloc (Nat.le_refl _) (.cells #[] 97))).set (w.heap.size+1+1) 5 (by omega) (.slice (some ⟨wa.heap.size,0,none⟩) 0 0)
   clear HGS;go_loopw [5] (fun t wr=>∃ (k g kc:Nat) (rs:List (R8 × Nat × Nat)),k≤n2∧t = .int .i64 (k:Int)∧gS w [.int .i64 c0,.int .i64 c1,.int .i64 c2,.int .i64 c3,.slice a1 n1 k1,.slice a2 n2 k2,.slice a3 n3 k3,.slice a4 n4 k4,.int .i64 lo,.int .i64 st] [.int .i64 c0,.int .i64 c1,.int .i64 c2,.int .i64 c3,.slice (some ⟨gf,0,none⟩) n1 kf,.slice (some ⟨g,0,none⟩) k kc,.slice a3 n3 k3,.slice a4 n4 k4,.int .i64 lo,.int .i64 st] wr∧ownG rc8 wr wa.heap.size 97 8 g kc rs∧rs.map (·.1)=bx.take k∧Kp (w.heap.size+3) wa wr) (fun t _=>n2-(intOf t).toNat)
   case atStart=>exact⟨0,_,0,[],Nat.zero_le _,rfl,hg1,ho1,by simp,hk1⟩
   case round=>
    clear hg1 ho1 hk1;obtain⟨k,g,kc,rs,hk,rfl,hg,ho,hm,hkp⟩:=hrel
    have yL:=hg.p.cell 5 _ rfl
    have HGS:Hid _:=hg
    have HO:Hid _:=ho
    have HKP:Hid _:=hkp
    have HL:Hid (n2=bx.length):=HH.out.bx.len
    clear hg ho hkp;by_cases hlt:k<n2
    ·have hkl:k<bx.length:=by have:=HL.out;omega
     obtain⟨g0,o0,rfl,hc⟩:=HH.out.bx.cells (by intro e;have e:bx=[]:=e;rw[e] at hkl;exact absurd hkl (Nat.not_lt_zero _))
     obtain⟨ao,m,c,hat⟩:=hc k hkl
     have HLT:Hid (k<n2):=hlt
     have HKB:Hid (k≤100000000):=(by have h1:bx.length≤1048576:=HN.out.bx;have:=HL.out;show _≤_;omega)
     have hgz:g0<w.heap.size:=World.block_lt_of_cell? w _ hat.c0
     have hRG:=hat.range
     have hDT:=hat.dat
     have hM:=hat.dat.len
     have hMM:bx[k].l.length≤1048576:=HN.out.bd k hkl
     have HTK:Hid (∀ gd kd:Nat,List.map (fun p:R8 × Nat × Nat=>p.1) (rs++[(bx[k],gd,kd)])=bx.take (k+1)):=fun gd kd=>take8 hm hkl (bx[k],gd,kd) rfl
     have HLN:Hid (rs.length=k):=take8_len hm (by omega)
     clear hc hat hm;simp only[] at hRG hDT hM
     generalize bx[k]=bk at *;obtain⟨x,y,z,e,i,r,d,l⟩:=bk
     simp only[] at hRG hDT hM hMM
     have HRG:Hid (w.rangeAt g0 (o0+k*8) [.int .i64 x,.int .i64 y,.int .i64 z,.bool e,.int .u32 (i:Int),.bool r,.int .i64 d,.slice ao m c]):=hRG
     have HDT:Hid (isBytes w ao m c l):=hDT
     have HMM:Hid (m≤1048576):=by show _≤_;omega
     have HM:Hid (m=l.length):=hM
     clear hRG hDT hM hMM;go_wp2_with fail;clear yL;refine wp_region_held (S:=hS w [.int .i64 c0,.int .i64 c1,.int .i64 c2,.int .i64 c3,.slice a1 n1 k1,.slice (some ⟨g0,o0,none⟩) n2 k2,.slice a3 n3 k3,.slice a4 n4 k4,.int .i64 lo,.int .i64 st]) (by kernel_rfl) ?_
     obtain⟨wd,hwd⟩ : ∃ wd,wd=wr.drew:=⟨_,rfl⟩
     change wpAnyH _ _ _ _ _ _ _ _ wr.drew
     rw[← hwd]
     have hwb:Below wr.heap.size wr wd:=hwd ▸ (Below.refl _ _).drew
     have hg:=HGS.out.below hwb
     have ho:=HO.out.below hwb
     have hkp:=HKP.out.below hwb
     have hs:=hg.hs
     clear HGS HO hwd hwb HKP;refine wT (i:=0) (v:=.pointer (some ⟨w.heap.size+1+1,5,none⟩)) rfl (by kernel_rfl) (by kernel_rfl) (by kernel_rfl) (fun _ _ _ h=>h) (Or.inl ⟨by rfl,?_⟩) hs ?_
     ·intro W hW;clear hs;go_simp
     simp only[Act.put,aA,aB,aC,aD,aE]
     refine wT (i:=2) (v:=.pointer (some ⟨w.heap.size,5,none⟩)) rfl (by kernel_rfl) (by kernel_rfl) (by kernel_rfl) (fun _ _ _ h=>h) (Or.inl ⟨by rfl,?_⟩) hs ?_
     ·intro W hW;clear hs;go_simp
     simp only[Act.put,aA,aB,aC,aD,aE,aF];refine wT (i:=3) (v:=.slice (some ⟨g0,o0,none⟩) n2 k2) rfl (by kernel_rfl) (by kernel_rfl) (by kernel_rfl) (fun _ _ _ h=>h) (Or.inl ⟨by rfl,?_⟩) hs ?_
     ·intro W hW;clear hs;have zL:=hW.p.cell 5 _ rfl
      go_simp
     simp only[Act.put,aA,aB,aC,aD,aE,aF];refine wT (i:=4) (v:=.int .i64 (k:Int)) rfl (by kernel_rfl) (by kernel_rfl) (by kernel_rfl) (fun _ _ _ h=>h) (Or.inl ⟨by rfl,?_⟩) hs ?_
     ·intro W hW;clear hs;go_simp
     simp only[Act.put,aA,aB,aC,aD,aE,aF];refine wT (i:=5) (v:=.pointer (some ⟨g0,o0+k*8,none⟩)) rfl (by kernel_rfl) (by kernel_rfl) (by kernel_rfl) (fun _ _ _ h=>h) (Or.inl ⟨by rfl,?_⟩) hs ?_
     ·intro W hW;clear hs;go_simp
     simp only[Act.put,aA,aB,aC,aD,aE,aF];refine wT (i:=6) (v:=.agg [.int .i64 x,.int .i64 y,.int .i64 z,.bool e,.int .u32 (i:Int),.bool r,.int .i64 d,.slice ao m c].toArray) rfl (by kernel_rfl) (by kernel_rfl) (by kernel_rfl) (fun _ _ _ h=>h) (yieldsIf_load_mid (by rfl) 97 (.tmp 41) rfl g0 (o0+k*8) rfl [.int .i64 x,.int .i64 y,.int .i64 z,.bool e,.int .u32 (i:Int),.bool r,.int .i64 d,.slice ao m c] _ (fun W h=>range_below HRG.out h.b hgz) Tryz.underlying97 rfl sz95) hs ?_
     simp only[Act.put,aA,aB,aC,aD,aE,aF];clear HRG;refine wpAnyH_all (rs:=[1,7]) (by kernel_rfl) (by simp) ?_
     refine AllReadyH.cons rfl (fun K hK=>?_) (AllReadyH.cons rfl (fun K hK=>?_) AllReadyH.nil)
     ·have yq:=hg.q.cell 5 _ rfl
      go_simp;clear yq;refine hK.out _ _ hs (fun hs2=>?_)
      clear hK K hs2;refine wpAnyH_all (rs:=[7]) (by kernel_rfl) (by simp) ?_
      refine AllReadyH.cons rfl (fun K hK=>?_) AllReadyH.nil
      go_simp;refine (l3copyBox_any wd x y z e i r d ao m c l (HDT.out.below hg.b) HMM.out).mono ?_
      rintro o wc ⟨gd,kd,rfl,⟨q1,q2,q3,q4⟩,hbc⟩;have hgc:=hg.below hbc
      have hoc:=ho.below hbc
      have hkc:=hkp.below hbc
      have hsc:=hgc.hs
      have hdc:=q3.now
      have hgg:=ho.lt
      clear q3;go_wp2_with fail;refine hK.out _ _ hsc (fun hs2=>?_)
      clear hK K hs2;refine wpAnyH_all (rs:=[8]) (by kernel_rfl) (by simp) ?_
      refine AllReadyH.cons rfl (fun K hK=>?_) AllReadyH.nil
      go_simp;have hga:=hgc.below ((Below.refl _ _).alloc (Nat.le_refl _) (.cells #[.int .i64 x,.int .i64 y,.int .i64 z,.bool e,.int .u32 (i:Int),.bool r,.int .i64 d,.slice (some ⟨gd,0,none⟩) m kd] 97))
      have hoa:=hoc.alloc (.cells #[.int .i64 x,.int .i64 y,.int .i64 z,.bool e,.int .u32 (i:Int),.bool r,.int .i64 d,.slice (some ⟨gd,0,none⟩) m kd] 97)
      have hka:=hkc.below ((Below.refl _ _).alloc (Nat.le_refl _) (.cells #[.int .i64 x,.int .i64 y,.int .i64 z,.bool e,.int .u32 (i:Int),.bool r,.int .i64 d,.slice (some ⟨gd,0,none⟩) m kd] 97))
      have hsa:=hga.hs
      refine hK.out _ _ hsa (fun hs2=>?_)
      clear hK K hs2;refine wpAnyH_all (rs:=[9]) (by kernel_rfl) (by simp) ?_
      refine AllReadyH.cons rfl (fun K hK=>?_) AllReadyH.nil
      rw[if_pos (by rfl)]
      refine wp_app_rec (w:=wc.alloc (.cells #[.int .i64 x,.int .i64 y,.int .i64 z,.bool e,.int .u32 (i:Int),.bool r,.int .i64 d,.slice (some ⟨gd,0,none⟩) m kd] 97)) (.tmp 37) (.tmp 44) 31 97 _ 8 72 Tryz.info97 Tryz.underlying31 rfl (by decide) (by decide) rfl wa.heap.size g k kc (rs.flatMap rc8.enc) rfl (by have:=hoa.own;rw[HLN.out] at this;exact this) wc.heap.size [.int .i64 x,.int .i64 y,.int .i64 z,.bool e,.int .u32 (i:Int),.bool r,.int .i64 d,.slice (some ⟨gd,0,none⟩) m kd] rfl rfl (blk.new wc _ 97) (one8L _ _ _ _ _ _ _ _ _ _) HKB.out (by have:=hoa.lt;omega) ?_
      intro g' k' w6 ho6 hg6 hg' hB6;have hz3:=HZ3.out
      have hG6:=hga.grown hg6 (by omega)
      have hK6:=hka.grown hg6 (by omega)
      have hO6:=hoa.snoc (⟨x,y,z,e,i,r,d,l⟩,gd,kd) (by show isBytes _ (some ⟨gd,0,none⟩) l.length kd l;rw[← HM.out];exact hdc.below ((Below.refl _ _).alloc (Nat.le_refl _) _)) (by show wa.heap.size≤gd;omega) (by show gd≠g;omega) (by show gd<_;simp;omega) (by rw[HLN.out];have e:rc8.enc (⟨x,y,z,e,i,r,d,l⟩,gd,kd)=[.int .i64 x,.int .i64 y,.int .i64 z,.bool e,.int .u32 (i:Int),.bool r,.int .i64 d,.slice (some ⟨gd,0,none⟩) m kd]:=(by rw[HM.out];rfl);rw[e];exact ho6) hg6 hg'
      have hs6:=hG6.hs
      refine hK.out _ _ hs6 (fun hs2=>?_)
      clear hK K hs2;have hs:=hs6
      clear hs6;simp only[Act.put,aA,aB,aC,aD,aE,aF];refine wT (i:=10) (v:=.pointer (some ⟨w.heap.size+1+1,5,none⟩)) rfl (by kernel_rfl) (by kernel_rfl) (by kernel_rfl) (fun _ _ _ h=>h) (Or.inl ⟨by rfl,?_⟩) hs ?_
      ·intro W hW;clear hs;go_simp
      simp only[Act.put,aA,aB,aC,aD,aE,aF];refine wpAnyH_all (rs:=[11]) (by kernel_rfl) (by simp) ?_
      refine AllReadyH.cons rfl (fun K hK=>?_) AllReadyH.nil
      have xq:=hG6.q.cell 5 _ rfl
      have fq:=hG6.q.free 5
      go_simp;have hG7:=hG6.set 5 (.slice (some ⟨g',0,none⟩) (k+1) k')
      have hO7:=hO6.set (w.heap.size+1+1) 5 (by omega) [.slice (some ⟨g',0,none⟩) (k+1) k']
      have hK7:=hK6.set (w.heap.size+1+1) 5 (by omega) (.slice (some ⟨g',0,none⟩) (k+1) k')
      have hs7:=hG7.hs
      refine hK.out _ _ hs7 (fun hs2=>?_)
      clear hK K hs2;clear hs hs7 xq fq;refine wpAnyH_done (by kernel_rfl) ?_ _
      have HG7:Hid _:=hG7
      have HO7:Hid _:=hO7
      have HK7:Hid _:=hK7
      clear hG7 hO7 hK7 hG6 hO6 hK6 ho6 hg6 hga hoa hka hgc hoc hkc hg ho hkp hdc hbc;have hkb:=HKB.out
      go_wp2_with fail;go_roundw
      case rel=>exact⟨k+1,g',k',_,HLT.out,by go_num,HG7.out,HO7.out,HTK.out gd kd,HK7.out⟩
      case measure=>have:=HLT.out;simp[intOf];omega
     ·go_simp;refine (l3copyBox_any wd x y z e i r d ao m c l (HDT.out.below hg.b) HMM.out).mono ?_
      rintro o wc ⟨gd,kd,rfl,⟨q1,q2,q3,q4⟩,hbc⟩;have hgc:=hg.below hbc
      have hoc:=ho.below hbc
      have hkc:=hkp.below hbc
      have hsc:=hgc.hs
      have hdc:=q3.now
      have hgg:=ho.lt
      clear q3;go_wp2_with fail;refine hK.out _ _ hsc (fun hs2=>?_)
      clear hK K hs2;refine wpAnyH_all (rs:=[1,8]) (by kernel_rfl) (by simp) ?_
      refine AllReadyH.cons rfl (fun K hK=>?_) (AllReadyH.cons rfl (fun K hK=>?_) AllReadyH.nil)
      ·have yq:=hgc.q.cell 5 _ rfl
       go_simp;clear yq;refine hK.out _ _ hsc (fun hs2=>?_)
       clear hK K hs2;refine wpAnyH_all (rs:=[8]) (by kernel_rfl) (by simp) ?_
       refine AllReadyH.cons rfl (fun K hK=>?_) AllReadyH.nil
       go_simp;have hga:=hgc.below ((Below.refl _ _).alloc (Nat.le_refl _) (.cells #[.int .i64 x,.int .i64 y,.int .i64 z,.bool e,.int .u32 (i:Int),.bool r,.int .i64 d,.slice (some ⟨gd,0,none⟩) m kd] 97))
       have hoa:=hoc.alloc (.cells #[.int .i64 x,.int .i64 y,.int .i64 z,.bool e,.int .u32 (i:Int),.bool r,.int .i64 d,.slice (some ⟨gd,0,none⟩) m kd] 97)
       have hka:=hkc.below ((Below.refl _ _).alloc (Nat.le_refl _) (.cells #[.int .i64 x,.int .i64 y,.int .i64 z,.bool e,.int .u32 (i:Int),.bool r,.int .i64 d,.slice (some ⟨gd,0,none⟩) m kd] 97))
       have hsa:=hga.hs
       refine hK.out _ _ hsa (fun hs2=>?_)
       clear hK K hs2;refine wpAnyH_all (rs:=[9]) (by kernel_rfl) (by simp) ?_
       refine AllReadyH.cons rfl (fun K hK=>?_) AllReadyH.nil
       rw[if_pos (by rfl)]
       refine wp_app_rec (w:=wc.alloc (.cells #[.int .i64 x,.int .i64 y,.int .i64 z,.bool e,.int .u32 (i:Int),.bool r,.int .i64 d,.slice (some ⟨gd,0,none⟩) m kd] 97)) (.tmp 37) (.tmp 44) 31 97 _ 8 72 Tryz.info97 Tryz.underlying31 rfl (by decide) (by decide) rfl wa.heap.size g k kc (rs.flatMap rc8.enc) rfl (by have:=hoa.own;rw[HLN.out] at this;exact this) wc.heap.size [.int .i64 x,.int .i64 y,.int .i64 z,.bool e,.int .u32 (i:Int),.bool r,.int .i64 d,.slice (some ⟨gd,0,none⟩) m kd] rfl rfl (blk.new wc _ 97) (one8L _ _ _ _ _ _ _ _ _ _) HKB.out (by have:=hoa.lt;omega) ?_
       intro g' k' w6 ho6 hg6 hg' hB6;have hz3:=HZ3.out
       have hG6:=hga.grown hg6 (by omega)
       have hK6:=hka.grown hg6 (by omega)
       have hO6:=hoa.snoc (⟨x,y,z,e,i,r,d,l⟩,gd,kd) (by show isBytes _ (some ⟨gd,0,none⟩) l.length kd l;rw[← HM.out];exact hdc.below ((Below.refl _ _).alloc (Nat.le_refl _) _)) (by show wa.heap.size≤gd;omega) (by show gd≠g;omega) (by show gd<_;simp;omega) (by rw[HLN.out];have e:rc8.enc (⟨x,y,z,e,i,r,d,l⟩,gd,kd)=[.int .i64 x,.int .i64 y,.int .i64 z,.bool e,.int .u32 (i:Int),.bool r,.int .i64 d,.slice (some ⟨gd,0,none⟩) m kd]:=(by rw[HM.out];rfl);rw[e];exact ho6) hg6 hg'
       have hs6:=hG6.hs
       refine hK.out _ _ hs6 (fun hs2=>?_)
       clear hK K hs2;have hs:=hs6
       clear hs6;simp only[Act.put,aA,aB,aC,aD,aE,aF];refine wT (i:=10) (v:=.pointer (some ⟨w.heap.size+1+1,5,none⟩)) rfl (by kernel_rfl) (by kernel_rfl) (by kernel_rfl) (fun _ _ _ h=>h) (Or.inl ⟨by rfl,?_⟩) hs ?_
       ·intro W hW;clear hs;go_simp
       simp only[Act.put,aA,aB,aC,aD,aE,aF];refine wpAnyH_all (rs:=[11]) (by kernel_rfl) (by simp) ?_
       refine AllReadyH.cons rfl (fun K hK=>?_) AllReadyH.nil
       have xq:=hG6.q.cell 5 _ rfl
       have fq:=hG6.q.free 5
       go_simp;have hG7:=hG6.set 5 (.slice (some ⟨g',0,none⟩) (k+1) k')
       have hO7:=hO6.set (w.heap.size+1+1) 5 (by omega) [.slice (some ⟨g',0,none⟩) (k+1) k']
       have hK7:=hK6.set (w.heap.size+1+1) 5 (by omega) (.slice (some ⟨g',0,none⟩) (k+1) k')
       have hs7:=hG7.hs
       refine hK.out _ _ hs7 (fun hs2=>?_)
       clear hK K hs2;clear hs hs7 xq fq;refine wpAnyH_done (by kernel_rfl) ?_ _
       have HG7:Hid _:=hG7
       have HO7:Hid _:=hO7
       have HK7:Hid _:=hK7
       clear hG7 hO7 hK7 hG6 hO6 hK6 ho6 hg6 hga hoa hka hgc hoc hkc hg ho hkp hdc hbc;have hkb:=HKB.out
       go_wp2_with fail;go_roundw
       case rel=>exact⟨k+1,g',k',_,HLT.out,by go_num,HG7.out,HO7.out,HTK.out gd kd,HK7.out⟩
       case measure=>have:=HLT.out;simp[intOf];omega
      ·go_simp;have hga:=hgc.below ((Below.refl _ _).alloc (Nat.le_refl _) (.cells #[.int .i64 x,.int .i64 y,.int .i64 z,.bool e,.int .u32 (i:Int),.bool r,.int .i64 d,.slice (some ⟨gd,0,none⟩) m kd] 97))
       have hoa:=hoc.alloc (.cells #[.int .i64 x,.int .i64 y,.int .i64 z,.bool e,.int .u32 (i:Int),.bool r,.int .i64 d,.slice (some ⟨gd,0,none⟩) m kd] 97)
       have hka:=hkc.below ((Below.refl _ _).alloc (Nat.le_refl _) (.cells #[.int .i64 x,.int .i64 y,.int .i64 z,.bool e,.int .u32 (i:Int),.bool r,.int .i64 d,.slice (some ⟨gd,0,none⟩) m kd] 97))
       have hsa:=hga.hs
       refine hK.out _ _ hsa (fun hs2=>?_)
       clear hK K hs2;refine wpAnyH_all (rs:=[1]) (by kernel_rfl) (by simp) ?_
       refine AllReadyH.cons rfl (fun K hK=>?_) AllReadyH.nil
       have yq:=hga.q.cell 5 _ rfl
       go_simp;clear yq;refine hK.out _ _ hsa (fun hs2=>?_)
       clear hK K hs2;refine wpAnyH_all (rs:=[9]) (by kernel_rfl) (by simp) ?_
       refine AllReadyH.cons rfl (fun K hK=>?_) AllReadyH.nil
       rw[if_pos (by rfl)]
       refine wp_app_rec (w:=wc.alloc (.cells #[.int .i64 x,.int .i64 y,.int .i64 z,.bool e,.int .u32 (i:Int),.bool r,.int .i64 d,.slice (some ⟨gd,0,none⟩) m kd] 97)) (.tmp 37) (.tmp 44) 31 97 _ 8 72 Tryz.info97 Tryz.underlying31 rfl (by decide) (by decide) rfl wa.heap.size g k kc (rs.flatMap rc8.enc) rfl (by have:=hoa.own;rw[HLN.out] at this;exact this) wc.heap.size [.int .i64 x,.int .i64 y,.int .i64 z,.bool e,.int .u32 (i:Int),.bool r,.int .i64 d,.slice (some ⟨gd,0,none⟩) m kd] rfl rfl (blk.new wc _ 97) (one8L _ _ _ _ _ _ _ _ _ _) HKB.out (by have:=hoa.lt;omega) ?_
       intro g' k' w6 ho6 hg6 hg' hB6;have hz3:=HZ3.out
       have hG6:=hga.grown hg6 (by omega)
       have hK6:=hka.grown hg6 (by omega)
       have hO6:=hoa.snoc (⟨x,y,z,e,i,r,d,l⟩,gd,kd) (by show isBytes _ (some ⟨gd,0,none⟩) l.length kd l;rw[← HM.out];exact hdc.below ((Below.refl _ _).alloc (Nat.le_refl _) _)) (by show wa.heap.size≤gd;omega) (by show gd≠g;omega) (by show gd<_;simp;omega) (by rw[HLN.out];have e:rc8.enc (⟨x,y,z,e,i,r,d,l⟩,gd,kd)=[.int .i64 x,.int .i64 y,.int .i64 z,.bool e,.int .u32 (i:Int),.bool r,.int .i64 d,.slice (some ⟨gd,0,none⟩) m kd]:=(by rw[HM.out];rfl);rw[e];exact ho6) hg6 hg'
       have hs6:=hG6.hs
       refine hK.out _ _ hs6 (fun hs2=>?_)
       clear hK K hs2;have hs:=hs6
       clear hs6;simp only[Act.put,aA,aB,aC,aD,aE,aF];refine wT (i:=10) (v:=.pointer (some ⟨w.heap.size+1+1,5,none⟩)) rfl (by kernel_rfl) (by kernel_rfl) (by kernel_rfl) (fun _ _ _ h=>h) (Or.inl ⟨by rfl,?_⟩) hs ?_
       ·intro W hW;clear hs;go_simp
       simp only[Act.put,aA,aB,aC,aD,aE,aF];refine wpAnyH_all (rs:=[11]) (by kernel_rfl) (by simp) ?_
       refine AllReadyH.cons rfl (fun K hK=>?_) AllReadyH.nil
       have xq:=hG6.q.cell 5 _ rfl
       have fq:=hG6.q.free 5
       go_simp;have hG7:=hG6.set 5 (.slice (some ⟨g',0,none⟩) (k+1) k')
       have hO7:=hO6.set (w.heap.size+1+1) 5 (by omega) [.slice (some ⟨g',0,none⟩) (k+1) k']
       have hK7:=hK6.set (w.heap.size+1+1) 5 (by omega) (.slice (some ⟨g',0,none⟩) (k+1) k')
       have hs7:=hG7.hs
       refine hK.out _ _ hs7 (fun hs2=>?_)
       clear hK K hs2;clear hs hs7 xq fq;refine wpAnyH_done (by kernel_rfl) ?_ _
       have HG7:Hid _:=hG7
       have HO7:Hid _:=hO7
       have HK7:Hid _:=hK7
       clear hG7 hO7 hK7 hG6 hO6 hK6 ho6 hg6 hga hoa hka hgc hoc hkc hg ho hkp hdc hbc;have hkb:=HKB.out
       go_wp2_with fail;go_roundw
       case rel=>exact⟨k+1,g',k',_,HLT.out,by go_num,HG7.out,HO7.out,HTK.out gd kd,HK7.out⟩
       case measure=>have:=HLT.out;simp[intOf];omega
    ·have hkn:n2=k:=by omega
     subst hkn;have hln:=take8_len hm (by have:=HL.out;omega)
     rw[List.take_of_length_le (by have:=HL.out;omega)] at hm
     have HGB:Hid (g<wr.heap.size):=HO.out.lt.2
     have HF2:Hid (St (w.heap.size+3) wr (fun W=>rowQ8 wa.heap.size wr.heap.size 97 g n2 kc bx W)):=by
      intro W hW;exact⟨rs,HO.out.st (fun x h1 h2=>hW x (Nat.le_trans HZ3.out h1) h2),hm,hln,HO.out.lt.2,fun p hp=>(HO.out.dat p hp).2.2.2⟩
     have HSZ1:Hid (wa.heap.size≤wr.heap.size):=HKP.out.size
     have HZ4:Hid (w.heap.size+3≤wr.heap.size):=HGS.out.z
     have HF1':=St.kp HF1.out HKP.out
     clear HF1;have HF1:Hid _:=HF1'
     clear HF1';clear HO HKP hm hln HZ3 HL;have HZ3:=HZ4
     clear HZ4;rename World=>wb
     obtain⟨gb,hgb⟩ : ∃ x,x=g:=⟨_,rfl⟩
     subst hgb;obtain⟨kb,hgb⟩ : ∃ x,x=kc:=⟨_,rfl⟩
     subst hgb;have x6:=(HGS.out.q.alloc (.cells #[] 25)).cell 6 _ rfl
     have f6:=(HGS.out.q.alloc (.cells #[] 25)).free 6
     go_wp2_with fail;clear x6 f6 yL;have hg1:=(HGS.out.below ((Below.refl _ _).alloc (Nat.le_refl _) (.cells #[] 25))).set 6 (.slice (some ⟨wb.heap.size,0,none⟩) 0 0)
     have ho1:=(ownG.nil rc5 wb wb.heap.size 25 5 (Nat.le_refl _)).set (w.heap.size+1+1) 6 (by have:=HZ3.out;omega) [.slice (some ⟨wb.heap.size,0,none⟩) 0 0]
     have hk1:=((Kp.refl (w.heap.size+3) wb).below ((Below.refl _ _).alloc (Nat.le_refl _) (.cells #[] 25))).set (w.heap.size+1+1) 6 (by omega) (.slice (some ⟨wb.heap.size,0,none⟩) 0 0)
     clear HGS;go_loopw [6] (fun t wr=>∃ (k g kc:Nat) (rs:List (R5 × Nat × Nat)),k≤n3∧t = .int .i64 (k:Int)∧gS w [.int .i64 c0,.int .i64 c1,.int .i64 c2,.int .i64 c3,.slice a1 n1 k1,.slice a2 n2 k2,.slice a3 n3 k3,.slice a4 n4 k4,.int .i64 lo,.int .i64 st] [.int .i64 c0,.int .i64 c1,.int .i64 c2,.int .i64 c3,.slice (some ⟨gf,0,none⟩) n1 kf,.slice (some ⟨gb,0,none⟩) n2 kb,.slice (some ⟨g,0,none⟩) k kc,.slice a4 n4 k4,.int .i64 lo,.int .i64 st] wr∧ownG rc5 wr wb.heap.size 25 5 g kc rs∧rs.map (·.1)=ff.take k∧Kp (w.heap.size+3) wb wr) (fun t _=>n3-(intOf t).toNat)
     case atStart=>exact⟨0,_,0,[],Nat.zero_le _,rfl,hg1,ho1,by simp,hk1⟩
     case round=>
      clear hg1 ho1 hk1;obtain⟨k,g,kc,rs,hk,rfl,hg,ho,hm,hkp⟩:=hrel
      have yL:=hg.p.cell 6 _ rfl
      have HGS:Hid _:=hg
      have HO:Hid _:=ho
      have HKP:Hid _:=hkp
      have HL:Hid (n3=ff.length):=HH.out.ff.len
      clear hg ho hkp;by_cases hlt:k<n3
      ·have hkl:k<ff.length:=by have:=HL.out;omega
       obtain⟨g0,o0,rfl,hc⟩:=HH.out.ff.cells (by intro e;have e:ff=[]:=e;rw[e] at hkl;exact absurd hkl (Nat.not_lt_zero _))
       obtain⟨ao,m,c,hat⟩:=hc k hkl
       have HLT:Hid (k<n3):=hlt
       have HKB:Hid (k≤100000000):=(by have h1:ff.length≤1048576:=HN.out.ff;have:=HL.out;show _≤_;omega)
       have hgz:g0<w.heap.size:=World.block_lt_of_cell? w _ hat.c0
       have hRG:=hat.range
       have hDT:=hat.dat
       have hM:=hat.dat.len
       have hMM:ff[k].l.length≤1048576:=HN.out.fd k hkl
       have HTK:Hid (∀ gd kd:Nat,List.map (fun p:R5 × Nat × Nat=>p.1) (rs++[(ff[k],gd,kd)])=ff.take (k+1)):=fun gd kd=>take5 hm hkl (ff[k],gd,kd) rfl
       have HLN:Hid (rs.length=k):=take5_len hm (by omega)
       clear hc hat hm;simp only[] at hRG hDT hM
       generalize ff[k]=bk at *;obtain⟨e,i,r,d,l⟩:=bk
       simp only[] at hRG hDT hM hMM
       have HRG:Hid (w.rangeAt g0 (o0+k*5) [.bool e,.int .u32 (i:Int),.bool r,.int .i64 d,.slice ao m c]):=hRG
       have HDT:Hid (isBytes w ao m c l):=hDT
       have HMM:Hid (m≤1048576):=by show _≤_;omega
       have HM:Hid (m=l.length):=hM
       clear hRG hDT hM hMM;go_wp2_with fail;clear yL;refine wp_region_held (S:=hS w [.int .i64 c0,.int .i64 c1,.int .i64 c2,.int .i64 c3,.slice a1 n1 k1,.slice a2 n2 k2,.slice (some ⟨g0,o0,none⟩) n3 k3,.slice a4 n4 k4,.int .i64 lo,.int .i64 st]) (by kernel_rfl) ?_
       obtain⟨wd,hwd⟩ : ∃ wd,wd=wr.drew:=⟨_,rfl⟩
       change wpAnyH _ _ _ _ _ _ _ _ wr.drew
       rw[← hwd]
       have hwb:Below wr.heap.size wr wd:=hwd ▸ (Below.refl _ _).drew
       have hg:=HGS.out.below hwb
       have ho:=HO.out.below hwb
       have hkp:=HKP.out.below hwb
       have hs:=hg.hs
       clear HGS HO hwd hwb HKP;refine wT (i:=0) (v:=.pointer (some ⟨w.heap.size+1+1,6,none⟩)) rfl (by kernel_rfl) (by kernel_rfl) (by kernel_rfl) (fun _ _ _ h=>h) (Or.inl ⟨by rfl,?_⟩) hs ?_
       ·intro W hW;clear hs;go_simp
       simp only[Act.put,aA,aB,aC,aD,aE]
       refine wT (i:=2) (v:=.pointer (some ⟨w.heap.size,6,none⟩)) rfl (by kernel_rfl) (by kernel_rfl) (by kernel_rfl) (fun _ _ _ h=>h) (Or.inl ⟨by rfl,?_⟩) hs ?_
       ·intro W hW;clear hs;go_simp
       simp only[Act.put,aA,aB,aC,aD,aE,aF];refine wT (i:=3) (v:=.slice (some ⟨g0,o0,none⟩) n3 k3) rfl (by kernel_rfl) (by kernel_rfl) (by kernel_rfl) (fun _ _ _ h=>h) (Or.inl ⟨by rfl,?_⟩) hs ?_
       ·intro W hW;clear hs;have zL:=hW.p.cell 6 _ rfl
        go_simp
       simp only[Act.put,aA,aB,aC,aD,aE,aF];refine wT (i:=4) (v:=.int .i64 (k:Int)) rfl (by kernel_rfl) (by kernel_rfl) (by kernel_rfl) (fun _ _ _ h=>h) (Or.inl ⟨by rfl,?_⟩) hs ?_
       ·intro W hW;clear hs;go_simp
       simp only[Act.put,aA,aB,aC,aD,aE,aF];refine wT (i:=5) (v:=.pointer (some ⟨g0,o0+k*5,none⟩)) rfl (by kernel_rfl) (by kernel_rfl) (by kernel_rfl) (fun _ _ _ h=>h) (Or.inl ⟨by rfl,?_⟩) hs ?_
       ·intro W hW;clear hs;go_simp
       simp only[Act.put,aA,aB,aC,aD,aE,aF];refine wT (i:=6) (v:=.agg [.bool e,.int .u32 (i:Int),.bool r,.int .i64 d,.slice ao m c].toArray) rfl (by kernel_rfl) (by kernel_rfl) (by kernel_rfl) (fun _ _ _ h=>h) (yieldsIf_load_mid (by rfl) 25 (.tmp 61) rfl g0 (o0+k*5) rfl [.bool e,.int .u32 (i:Int),.bool r,.int .i64 d,.slice ao m c] _ (fun W h=>range_below HRG.out h.b hgz) Tryz.underlying25 rfl sz93) hs ?_
       simp only[Act.put,aA,aB,aC,aD,aE,aF];clear HRG;refine wpAnyH_all (rs:=[1,7]) (by kernel_rfl) (by simp) ?_
       refine AllReadyH.cons rfl (fun K hK=>?_) (AllReadyH.cons rfl (fun K hK=>?_) AllReadyH.nil)
       ·have yq:=hg.q.cell 6 _ rfl
        go_simp;clear yq;refine hK.out _ _ hs (fun hs2=>?_)
        clear hK K hs2;refine wpAnyH_all (rs:=[7]) (by kernel_rfl) (by simp) ?_
        refine AllReadyH.cons rfl (fun K hK=>?_) AllReadyH.nil
        go_simp;refine (l1copyFrame_any wd e i r d ao m c l (HDT.out.below hg.b) HMM.out).mono ?_
        rintro o wc ⟨gd,kd,rfl,⟨q1,q2,q3,q4⟩,hbc⟩;have hgc:=hg.below hbc
        have hoc:=ho.below hbc
        have hkc:=hkp.below hbc
        have hsc:=hgc.hs
        have hdc:=q3.now
        have hgg:=ho.lt
        clear q3;go_wp2_with fail;refine hK.out _ _ hsc (fun hs2=>?_)
        clear hK K hs2;refine wpAnyH_all (rs:=[8]) (by kernel_rfl) (by simp) ?_
        refine AllReadyH.cons rfl (fun K hK=>?_) AllReadyH.nil
        go_simp;have hga:=hgc.below ((Below.refl _ _).alloc (Nat.le_refl _) (.cells #[.bool e,.int .u32 (i:Int),.bool r,.int .i64 d,.slice (some ⟨gd,0,none⟩) m kd] 25))
        have hoa:=hoc.alloc (.cells #[.bool e,.int .u32 (i:Int),.bool r,.int .i64 d,.slice (some ⟨gd,0,none⟩) m kd] 25)
        have hka:=hkc.below ((Below.refl _ _).alloc (Nat.le_refl _) (.cells #[.bool e,.int .u32 (i:Int),.bool r,.int .i64 d,.slice (some ⟨gd,0,none⟩) m kd] 25))
        have hsa:=hga.hs
        refine hK.out _ _ hsa (fun hs2=>?_)
        clear hK K hs2;refine wpAnyH_all (rs:=[9]) (by kernel_rfl) (by simp) ?_
        refine AllReadyH.cons rfl (fun K hK=>?_) AllReadyH.nil
        rw[if_pos (by rfl)]
        refine wp_app_rec (w:=wc.alloc (.cells #[.bool e,.int .u32 (i:Int),.bool r,.int .i64 d,.slice (some ⟨gd,0,none⟩) m kd] 25)) (.tmp 57) (.tmp 64) 32 25 _ 5 48 Tryz.info25 Tryz.underlying32 rfl (by decide) (by decide) rfl wb.heap.size g k kc (rs.flatMap rc5.enc) rfl (by have:=hoa.own;rw[HLN.out] at this;exact this) wc.heap.size [.bool e,.int .u32 (i:Int),.bool r,.int .i64 d,.slice (some ⟨gd,0,none⟩) m kd] rfl rfl (blk.new wc _ 25) (one5L _ _ _ _ _ _ _) HKB.out (by have:=hoa.lt;omega) ?_
        intro g' k' w6 ho6 hg6 hg' hB6;have hz3:=HZ3.out
        have hG6:=hga.grown hg6 (by omega)
        have hK6:=hka.grown hg6 (by omega)
        have hO6:=hoa.snoc (⟨e,i,r,d,l⟩,gd,kd) (by show isBytes _ (some ⟨gd,0,none⟩) l.length kd l;rw[← HM.out];exact hdc.below ((Below.refl _ _).alloc (Nat.le_refl _) _)) (by show wb.heap.size≤gd;omega) (by show gd≠g;omega) (by show gd<_;simp;omega) (by rw[HLN.out];have e:rc5.enc (⟨e,i,r,d,l⟩,gd,kd)=[.bool e,.int .u32 (i:Int),.bool r,.int .i64 d,.slice (some ⟨gd,0,none⟩) m kd]:=(by rw[HM.out];rfl);rw[e];exact ho6) hg6 hg'
        have hs6:=hG6.hs
        refine hK.out _ _ hs6 (fun hs2=>?_)
        clear hK K hs2;have hs:=hs6
        clear hs6;simp only[Act.put,aA,aB,aC,aD,aE,aF];refine wT (i:=10) (v:=.pointer (some ⟨w.heap.size+1+1,6,none⟩)) rfl (by kernel_rfl) (by kernel_rfl) (by kernel_rfl) (fun _ _ _ h=>h) (Or.inl ⟨by rfl,?_⟩) hs ?_
        ·intro W hW;clear hs;go_simp
        simp only[Act.put,aA,aB,aC,aD,aE,aF];refine wpAnyH_all (rs:=[11]) (by kernel_rfl) (by simp) ?_
        refine AllReadyH.cons rfl (fun K hK=>?_) AllReadyH.nil
        have xq:=hG6.q.cell 6 _ rfl
        have fq:=hG6.q.free 6
        go_simp;have hG7:=hG6.set 6 (.slice (some ⟨g',0,none⟩) (k+1) k')
        have hO7:=hO6.set (w.heap.size+1+1) 6 (by omega) [.slice (some ⟨g',0,none⟩) (k+1) k']
        have hK7:=hK6.set (w.heap.size+1+1) 6 (by omega) (.slice (some ⟨g',0,none⟩) (k+1) k')
        have hs7:=hG7.hs
        refine hK.out _ _ hs7 (fun hs2=>?_)
        clear hK K hs2;clear hs hs7 xq fq;refine wpAnyH_done (by kernel_rfl) ?_ _
        have HG7:Hid _:=hG7
        have HO7:Hid _:=hO7
        have HK7:Hid _:=hK7
        clear hG7 hO7 hK7 hG6 hO6 hK6 ho6 hg6 hga hoa hka hgc hoc hkc hg ho hkp hdc hbc;have hkb:=HKB.out
        go_wp2_with fail;go_roundw
        case rel=>exact⟨k+1,g',k',_,HLT.out,by go_num,HG7.out,HO7.out,HTK.out gd kd,HK7.out⟩
        case measure=>have:=HLT.out;simp[intOf];omega
       ·go_simp;refine (l1copyFrame_any wd e i r d ao m c l (HDT.out.below hg.b) HMM.out).mono ?_
        rintro o wc ⟨gd,kd,rfl,⟨q1,q2,q3,q4⟩,hbc⟩;have hgc:=hg.below hbc
        have hoc:=ho.below hbc
        have hkc:=hkp.below hbc
        have hsc:=hgc.hs
        have hdc:=q3.now
        have hgg:=ho.lt
        clear q3;go_wp2_with fail;refine hK.out _ _ hsc (fun hs2=>?_)
        clear hK K hs2;refine wpAnyH_all (rs:=[1,8]) (by kernel_rfl) (by simp) ?_
        refine AllReadyH.cons rfl (fun K hK=>?_) (AllReadyH.cons rfl (fun K hK=>?_) AllReadyH.nil)
        ·have yq:=hgc.q.cell 6 _ rfl
         go_simp;clear yq;refine hK.out _ _ hsc (fun hs2=>?_)
         clear hK K hs2;refine wpAnyH_all (rs:=[8]) (by kernel_rfl) (by simp) ?_
         refine AllReadyH.cons rfl (fun K hK=>?_) AllReadyH.nil
         go_simp;have hga:=hgc.below ((Below.refl _ _).alloc (Nat.le_refl _) (.cells #[.bool e,.int .u32 (i:Int),.bool r,.int .i64 d,.slice (some ⟨gd,0,none⟩) m kd] 25))
         have hoa:=hoc.alloc (.cells #[.bool e,.int .u32 (i:Int),.bool r,.int .i64 d,.slice (some ⟨gd,0,none⟩) m kd] 25)
         have hka:=hkc.below ((Below.refl _ _).alloc (Nat.le_refl _) (.cells #[.bool e,.int .u32 (i:Int),.bool r,.int .i64 d,.slice (some ⟨gd,0,none⟩) m kd] 25))
         have hsa:=hga.hs
         refine hK.out _ _ hsa (fun hs2=>?_)
         clear hK K hs2;refine wpAnyH_all (rs:=[9]) (by kernel_rfl) (by simp) ?_
         refine AllReadyH.cons rfl (fun K hK=>?_) AllReadyH.nil
         rw[if_pos (by rfl)]
         refine wp_app_rec (w:=wc.alloc (.cells #[.bool e,.int .u32 (i:Int),.bool r,.int .i64 d,.slice (some ⟨gd,0,none⟩) m kd] 25)) (.tmp 57) (.tmp 64) 32 25 _ 5 48 Tryz.info25 Tryz.underlying32 rfl (by decide) (by decide) rfl wb.heap.size g k kc (rs.flatMap rc5.enc) rfl (by have:=hoa.own;rw[HLN.out] at this;exact this) wc.heap.size [.bool e,.int .u32 (i:Int),.bool r,.int .i64 d,.slice (some ⟨gd,0,none⟩) m kd] rfl rfl (blk.new wc _ 25) (one5L _ _ _ _ _ _ _) HKB.out (by have:=hoa.lt;omega) ?_
         intro g' k' w6 ho6 hg6 hg' hB6;have hz3:=HZ3.out
         have hG6:=hga.grown hg6 (by omega)
         have hK6:=hka.grown hg6 (by omega)
         have hO6:=hoa.snoc (⟨e,i,r,d,l⟩,gd,kd) (by show isBytes _ (some ⟨gd,0,none⟩) l.length kd l;rw[← HM.out];exact hdc.below ((Below.refl _ _).alloc (Nat.le_refl _) _)) (by show wb.heap.size≤gd;omega) (by show gd≠g;omega) (by show gd<_;simp;omega) (by rw[HLN.out];have e:rc5.enc (⟨e,i,r,d,l⟩,gd,kd)=[.bool e,.int .u32 (i:Int),.bool r,.int .i64 d,.slice (some ⟨gd,0,none⟩) m kd]:=(by rw[HM.out];rfl);rw[e];exact ho6) hg6 hg'
         have hs6:=hG6.hs
         refine hK.out _ _ hs6 (fun hs2=>?_)
         clear hK K hs2;have hs:=hs6
         clear hs6;simp only[Act.put,aA,aB,aC,aD,aE,aF];refine wT (i:=10) (v:=.pointer (some ⟨w.heap.size+1+1,6,none⟩)) rfl (by kernel_rfl) (by kernel_rfl) (by kernel_rfl) (fun _ _ _ h=>h) (Or.inl ⟨by rfl,?_⟩) hs ?_
         ·intro W hW;clear hs;go_simp
         simp only[Act.put,aA,aB,aC,aD,aE,aF];refine wpAnyH_all (rs:=[11]) (by kernel_rfl) (by simp) ?_
         refine AllReadyH.cons rfl (fun K hK=>?_) AllReadyH.nil
         have xq:=hG6.q.cell 6 _ rfl
         have fq:=hG6.q.free 6
         go_simp;have hG7:=hG6.set 6 (.slice (some ⟨g',0,none⟩) (k+1) k')
         have hO7:=hO6.set (w.heap.size+1+1) 6 (by omega) [.slice (some ⟨g',0,none⟩) (k+1) k']
         have hK7:=hK6.set (w.heap.size+1+1) 6 (by omega) (.slice (some ⟨g',0,none⟩) (k+1) k')
         have hs7:=hG7.hs
         refine hK.out _ _ hs7 (fun hs2=>?_)
         clear hK K hs2;clear hs hs7 xq fq;refine wpAnyH_done (by kernel_rfl) ?_ _
         have HG7:Hid _:=hG7
         have HO7:Hid _:=hO7
         have HK7:Hid _:=hK7
         clear hG7 hO7 hK7 hG6 hO6 hK6 ho6 hg6 hga hoa hka hgc hoc hkc hg ho hkp hdc hbc;have hkb:=HKB.out
         go_wp2_with fail;go_roundw
         case rel=>exact⟨k+1,g',k',_,HLT.out,by go_num,HG7.out,HO7.out,HTK.out gd kd,HK7.out⟩
         case measure=>have:=HLT.out;simp[intOf];omega
        ·go_simp;have hga:=hgc.below ((Below.refl _ _).alloc (Nat.le_refl _) (.cells #[.bool e,.int .u32 (i:Int),.bool r,.int .i64 d,.slice (some ⟨gd,0,none⟩) m kd] 25))
         have hoa:=hoc.alloc (.cells #[.bool e,.int .u32 (i:Int),.bool r,.int .i64 d,.slice (some ⟨gd,0,none⟩) m kd] 25)
         have hka:=hkc.below ((Below.refl _ _).alloc (Nat.le_refl _) (.cells #[.bool e,.int .u32 (i:Int),.bool r,.int .i64 d,.slice (some ⟨gd,0,none⟩) m kd] 25))
         have hsa:=hga.hs
         refine hK.out _ _ hsa (fun hs2=>?_)
         clear hK K hs2;refine wpAnyH_all (rs:=[1]) (by kernel_rfl) (by simp) ?_
         refine AllReadyH.cons rfl (fun K hK=>?_) AllReadyH.nil
         have yq:=hga.q.cell 6 _ rfl
         go_simp;clear yq;refine hK.out _ _ hsa (fun hs2=>?_)
         clear hK K hs2;refine wpAnyH_all (rs:=[9]) (by kernel_rfl) (by simp) ?_
         refine AllReadyH.cons rfl (fun K hK=>?_) AllReadyH.nil
         rw[if_pos (by rfl)]
         refine wp_app_rec (w:=wc.alloc (.cells #[.bool e,.int .u32 (i:Int),.bool r,.int .i64 d,.slice (some ⟨gd,0,none⟩) m kd] 25)) (.tmp 57) (.tmp 64) 32 25 _ 5 48 Tryz.info25 Tryz.underlying32 rfl (by decide) (by decide) rfl wb.heap.size g k kc (rs.flatMap rc5.enc) rfl (by have:=hoa.own;rw[HLN.out] at this;exact this) wc.heap.size [.bool e,.int .u32 (i:Int),.bool r,.int .i64 d,.slice (some ⟨gd,0,none⟩) m kd] rfl rfl (blk.new wc _ 25) (one5L _ _ _ _ _ _ _) HKB.out (by have:=hoa.lt;omega) ?_
         intro g' k' w6 ho6 hg6 hg' hB6;have hz3:=HZ3.out
         have hG6:=hga.grown hg6 (by omega)
         have hK6:=hka.grown hg6 (by omega)
         have hO6:=hoa.snoc (⟨e,i,r,d,l⟩,gd,kd) (by show isBytes _ (some ⟨gd,0,none⟩) l.length kd l;rw[← HM.out];exact hdc.below ((Below.refl _ _).alloc (Nat.le_refl _) _)) (by show wb.heap.size≤gd;omega) (by show gd≠g;omega) (by show gd<_;simp;omega) (by rw[HLN.out];have e:rc5.enc (⟨e,i,r,d,l⟩,gd,kd)=[.bool e,.int .u32 (i:Int),.bool r,.int .i64 d,.slice (some ⟨gd,0,none⟩) m kd]:=(by rw[HM.out];rfl);rw[e];exact ho6) hg6 hg'
         have hs6:=hG6.hs
         refine hK.out _ _ hs6 (fun hs2=>?_)
         clear hK K hs2;have hs:=hs6
         clear hs6;simp only[Act.put,aA,aB,aC,aD,aE,aF];refine wT (i:=10) (v:=.pointer (some ⟨w.heap.size+1+1,6,none⟩)) rfl (by kernel_rfl) (by kernel_rfl) (by kernel_rfl) (fun _ _ _ h=>h) (Or.inl ⟨by rfl,?_⟩) hs ?_
         ·intro W hW;clear hs;go_simp
         simp only[Act.put,aA,aB,aC,aD,aE,aF];refine wpAnyH_all (rs:=[11]) (by kernel_rfl) (by simp) ?_
         refine AllReadyH.cons rfl (fun K hK=>?_) AllReadyH.nil
         have xq:=hG6.q.cell 6 _ rfl
         have fq:=hG6.q.free 6
         go_simp;have hG7:=hG6.set 6 (.slice (some ⟨g',0,none⟩) (k+1) k')
         have hO7:=hO6.set (w.heap.size+1+1) 6 (by omega) [.slice (some ⟨g',0,none⟩) (k+1) k']
         have hK7:=hK6.set (w.heap.size+1+1) 6 (by omega) (.slice (some ⟨g',0,none⟩) (k+1) k')
         have hs7:=hG7.hs
         refine hK.out _ _ hs7 (fun hs2=>?_)
         clear hK K hs2;clear hs hs7 xq fq;refine wpAnyH_done (by kernel_rfl) ?_ _
         have HG7:Hid _:=hG7
         have HO7:Hid _:=hO7
         have HK7:Hid _:=hK7
         clear hG7 hO7 hK7 hG6 hO6 hK6 ho6 hg6 hga hoa hka hgc hoc hkc hg ho hkp hdc hbc;have hkb:=HKB.out
         go_wp2_with fail;go_roundw
         case rel=>exact⟨k+1,g',k',_,HLT.out,by go_num,HG7.out,HO7.out,HTK.out gd kd,HK7.out⟩
         case measure=>have:=HLT.out;simp[intOf];omega
      ·have hkn:n3=k:=by omega
       subst hkn;have hln:=take5_len hm (by have:=HL.out;omega)
       rw[List.take_of_length_le (by have:=HL.out;omega)] at hm
       have HNB:Hid (gb<g∧g<wr.heap.size):=by
        have h1:=HGB.out
        have h2:=HO.out.lt
        exact⟨by omega,by omega⟩
       have HF3:Hid (St (w.heap.size+3) wr (fun W=>rowQ5 wb.heap.size wr.heap.size 25 g n3 kc ff W)):=by
        intro W hW;exact⟨rs,HO.out.st (fun x h1 h2=>hW x (Nat.le_trans HZ3.out h1) h2),hm,hln,HO.out.lt.2,fun p hp=>(HO.out.dat p hp).2.2.2⟩
       have HSZ2:Hid (wb.heap.size≤wr.heap.size):=HKP.out.size
       have HZ4:Hid (w.heap.size+3≤wr.heap.size):=HGS.out.z
       have HF1':=St.kp HF1.out HKP.out
       clear HF1;have HF1:Hid _:=HF1'
       clear HF1';have HF2':=St.kp HF2.out HKP.out
       clear HF2;have HF2:Hid _:=HF2'
       clear HF2';clear HO HKP hm hln HZ3 HL;have HZ3:=HZ4
       clear HZ4;rename World=>wq
       obtain⟨gq,hgb⟩ : ∃ x,x=g:=⟨_,rfl⟩
       subst hgb;obtain⟨kq,hgb⟩ : ∃ x,x=kc:=⟨_,rfl⟩
       subst hgb;have y7:=HGS.out.p.cell 7 _ rfl
       have HL4:Hid (n4≤1048576):=by
        have h1:n4=qu.length:=HH.out.qu.len
        have h2:qu.length≤1048576:=HN.out.qu
        show _≤_
        omega
       go_wp2_with (first
        | (go_at_call 81;refine (l3copyEvents_own wq a4 n4 k4 qu (HH.out.qu.below HGS.out.b) HL4.out HN.out.qd).mono ?_;rintro o w7 ⟨g4,kc4,rfl,⟨q1,q2,q3⟩,hb7⟩;have HN4:Hid (gq<g4):=Nat.lt_of_lt_of_le HNB.out.2 q1;have HG7:Hid _:=HGS.out.below hb7;have HB7:Hid (Below wq.heap.size wq w7):=hb7;have HQ7:Hid (w.heap.size+3≤g4∧St (w.heap.size+3) w7 (fun W=>rowQ8 wq.heap.size w7.heap.size 46 g4 n4 kc4 qu W)):=⟨Nat.le_trans HZ3.out q1,q3.mono HZ3.out⟩;have x7:=HG7.out.q.cell 7 _ rfl;have f7:=HG7.out.q.free 7;clear q1 q2 q3 hb7)
        | (refine wpList_load_mid (P:=Tryz.prog) rfl 35 (.tmp 3) rfl (w.heap.size+1+1) 0 rfl [.int .i64 c0,.int .i64 c1,.int .i64 c2,.int .i64 c3,.slice (some ⟨gf,0,none⟩) n1 kf,.slice (some ⟨gb,0,none⟩) n2 kb,.slice (some ⟨gq,0,none⟩) n3 kq,.slice (some ⟨g4,0,none⟩) n4 kc4,.int .i64 lo,.int .i64 st] _ (HG7.out.set 7 (.slice (some ⟨g4,0,none⟩) n4 kc4)).q.load Tryz.underlying35 rfl sz41 ?_)
        | (refine wpList_store_mid (P:=Tryz.prog) rfl 35 (.tmp 2) (.tmp 71) rfl (w.heap.size+1) 0 _ rfl rfl ((HG7.out.set 7 (.slice (some ⟨g4,0,none⟩) n4 kc4)).r.there 0 10 (by simp)) sz41 (one10 _ _ _ _ _ _ _ _ _ _ _ _ _ _ _ _ _ _) ?_;generalize hW8:World.setCells (World.setCell _ _ _) (w.heap.size+1) 0 _=w8;have HW8:Hid (World.setCells (w7.setCell ⟨w.heap.size+1+1,7,none⟩ (.slice (some ⟨g4,0,none⟩) n4 kc4)) (w.heap.size+1) 0 [.int .i64 c0,.int .i64 c1,.int .i64 c2,.int .i64 c3,.slice (some ⟨gf,0,none⟩) n1 kf,.slice (some ⟨gb,0,none⟩) n2 kb,.slice (some ⟨gq,0,none⟩) n3 kq,.slice (some ⟨g4,0,none⟩) n4 kc4,.int .i64 lo,.int .i64 st]=w8):=hW8;clear hW8))
       have e8:=HW8.out
       have hG:=HG7.out.set 7 (.slice (some ⟨g4,0,none⟩) n4 kc4)
       have hF:blk w8 (w.heap.size+1) [.int .i64 c0,.int .i64 c1,.int .i64 c2,.int .i64 c3,.slice (some ⟨gf,0,none⟩) n1 kf,.slice (some ⟨gb,0,none⟩) n2 kb,.slice (some ⟨gq,0,none⟩) n3 kq,.slice (some ⟨g4,0,none⟩) n4 kc4,.int .i64 lo,.int .i64 st] 35:=e8 ▸ blk.put [] z10 [] [.int .i64 c0,.int .i64 c1,.int .i64 c2,.int .i64 c3,.slice (some ⟨gf,0,none⟩) n1 kf,.slice (some ⟨gb,0,none⟩) n2 kb,.slice (some ⟨gq,0,none⟩) n3 kq,.slice (some ⟨g4,0,none⟩) n4 kc4,.int .i64 lo,.int .i64 st] hG.r rfl
       have hL:=run_loadVar_mid (P:=Tryz.prog) w8 (w.heap.size+1) 0 35 _ _ hF.load Tryz.underlying35 rfl sz41
       refine bodyPost_ret (v:=hoV ⟨c0,c1,c2,c3,fs,bx,ff,qu,lo,st⟩ ⟨some ⟨gf,0,none⟩,n1,kf,some ⟨gb,0,none⟩,n2,kb,some ⟨gq,0,none⟩,n3,kq,some ⟨g4,0,none⟩,n4,kc4⟩) (results_cell Tryz.results71 _ w8 (w.heap.size+1) _ rfl hL) rfl ?_
       have k7:Kp (w.heap.size+3) wq w7:=(Kp.refl _ _).below HB7.out
       have k8:Kp (w.heap.size+3) w7 w8:=by
        rw[← e8]
        have h1:=(Kp.refl (w.heap.size+3) w7).set (w.heap.size+1+1) 7 (by omega) (.slice (some ⟨g4,0,none⟩) n4 kc4)
        exact⟨fun b h2 h3=>(setCells_other _ _ (by omega) _ _ _).trans (h1.same b h2 h3),by rw[setCells_size];exact h1.size⟩
       have r1:=St.kp (St.kp HF1.out k7) k8
       have r2:=St.kp (St.kp HF2.out k7) k8
       have r3:=St.kp (St.kp HF3.out k7) k8
       have r4:=St.kp HQ7.out.2 k8
       refine⟨gf,kf,gb,kb,gq,kq,g4,kc4,wa.heap.size,wb.heap.size,wq.heap.size,w7.heap.size,rfl,⟨HGF.out.1,HGF.out.2,HSZ1.out,HSZ2.out,HB7.out.size,k8.size⟩,fun W hW=>⟨r1 W hW,r2 W hW,r3 W hW,r4 W hW⟩,?_⟩
       rw[← e8]
       exact setCells_below (by omega) _ _ hG.b
end Go.Proofs.YtaamahohdnbpiaaGreat
