import Derived.Test.YtkfcfigbgmbaiaaGreatK08
import Derived.Deep.RegionLaw
namespace Go.Proofs.YtkfcfigbgmbaiaaGreat
set_option maxRecDepth 20000
open Go.RowKit
set_option linter.unusedVariables false
set_option maxHeartbeats 16000000
open Go.Value renaming int→I,slice→sL,bool→bO,pointer→pT,agg→aG
open Go.IntKind renaming i64→J
open Go.Ending renaming returned→rT
open Go.Proofs.Tryz renaming prog→Tp
variable {W w:World} {B g E k n sz T:Nat} {hv:List Value}
theorem ownG.st {α:Type} {F:Rc α} {rs:List α} (h:ownG F w B E sz g k rs) (he:∀ b,B≤b→b<w.heap.size→W.heap[b]?=w.heap[b]?):ownG F W B E sz g k rs:=by
 have hl:=h.lt
 refine⟨oK h.own (he g hl.1 hl.2),fun p hp=>?_⟩
 obtain⟨d1,d2,d3,d4⟩:=h.dat p hp
 have e:=he _ d2 d4
 refine⟨d1.other e,d2,d3,?_⟩
 rw[Array.getElem?_eq_getElem d4] at e
 exact lt_of_some e
theorem ownsRow_F {T:TypeId} {cap:Nat} {xs:List Value} (h:W.ownsRow B T sz (sL (some ⟨g,0,none⟩) n cap) n xs):rowF W g (cap*sz):=by
 rcases h.2 with⟨e,_⟩|⟨g1,c1,cur,hv',hb,hgg,hcp,hmx,hsz,htk⟩
 ·cases e
 cases hv'
 refine fun t ht=>⟨?_,World.ownsRow.frozenAt h t⟩
 have:t<cur.size:=by omega
 exact⟨cur[t],by simp[World.cell?,hgg,this]⟩
def rowQ8 (B T E g n k:Nat) (bs:List R8) (W:World):Prop:=∃ rs,ownG rc8 W B E 8 g k rs∧rs.map (·.1)=bs∧rs.length=n∧g<T∧∀ p ∈ rs,rc8.gd p<T
def rowQ5 (B T E g n k:Nat) (bs:List R5) (W:World):Prop:=∃ rs,ownG rc5 W B E 5 g k rs∧rs.map (·.1)=bs∧rs.length=n∧g<T∧∀ p ∈ rs,rc5.gd p<T
theorem rowQ8.is {bs:List R8} (h:rowQ8 B T E g n k bs W):isR8s W (some ⟨g,0,none⟩) n k bs:=by
 obtain⟨rs,h2,h3,h4,_⟩:=h
 have:=h2.r8.now
 rw[h3,h4] at this
 exact this
theorem rowQ5.is {bs:List R5} (h:rowQ5 B T E g n k bs W):isR5s W (some ⟨g,0,none⟩) n k bs:=by
 obtain⟨rs,h2,h3,h4,_⟩:=h
 have:=h2.r5.now
 rw[h3,h4] at this
 exact this
theorem l3copyEvents_own (w:World) (a:Option Addr) (n cap:Nat) (bs:List R8) (h:isR8s w a n cap bs) (hn:n≤1048576) (hd:∀ j (h:j<bs.length),bs[j].l.length≤1048576) :
  Calls Tp 68 #[sL a n cap] w fun o w'=>∃ g k,o = rT (sL (some ⟨g,0,none⟩) n k)∧(w.heap.size≤g∧g<w'.heap.size∧St w.heap.size w' (fun W=>rowQ8 w.heap.size w'.heap.size 67 g n k bs W))∧Below w.heap.size w w':=by
 have HH:Hid (isR8s w a n cap bs):=h
 have HL:Hid (n=bs.length):=h.len
 have hcp:=h.cap
 have HD:Hid (∀ j (h:j<bs.length),bs[j].l.length≤1048576):=hd
 clear h hd;go_enter Tryz.func68,Tryz.ntmps68
 go_wp2_with fail;have hown:=ownG.nil rc8 w w.heap.size 67 8 (nR _)
 go_loopw [3,4] (fun v t wr=>∃ k g kc rs,k≤n∧v = sL (some ⟨g,0,none⟩) k kc∧t = I J (k:Int)∧ownG rc8 wr w.heap.size 67 8 g kc rs∧rs.map (·.1)=bs.take k∧Below w.heap.size w wr) (fun _ t _=>n-(intOf t).toNat)
 case atStart=>exact⟨0,_,0,[],nZ _,rfl,rfl,hown,by simp,(bW _ _).alloc (nR _) _⟩
 case round=>
  clear hown;obtain⟨k,g,kc,rs,hk,rfl,rfl,ho,hm,hb⟩:=hrel
  by_cases hlt:k<n
  ·have hkl:k<bs.length:=by have:=HL.out;omega
   obtain⟨g0,o0,rfl,hc⟩:=HH.out.cells (by intro e;rw[e] at hkl;exact absurd hkl (nN _))
   obtain⟨ao,m,c,hat⟩:=hc k hkl
   have HM:Hid (m=bs[k].l.length):=hat.dat.len
   have HRG:=(at8.below hat hb).range
   have HDT:Hid (iB wr ao m c bs[k].l):=hat.dat.below hb
   have HMM:Hid (m≤1048576):=by show _≤_;rw[HM.out];exact HD.out k hkl
   have HTK:Hid (∀ gd kd:Nat,List.map (fun p:R8 × Nat × Nat=>p.1) (rs++[(bs[k],gd,kd)])=bs.take (k+1)):=fun gd kd=>take8 hm hkl (bs[k],gd,kd) rfl
   have HLN:Hid (rs.length=k):=take8_len hm (by omega)
   have HEN:Hid (∀ gd kd,rc8.enc (bs[k],gd,kd)=[I J bs[k].x,I J bs[k].y,I J bs[k].z,bO bs[k].e,I .u32 (bs[k].i:Int),bO bs[k].r,I J bs[k].d,sL (some ⟨gd,0,none⟩) m kd]):=fun gd kd=>by show _=_;rw[HM.out];rfl
   clear hc hat hm;generalize bs[k]=bk at *;obtain⟨x,y,z,e,i,r,d,l⟩:=bk
   simp only[] at HRG HEN HDT HM
   have HRG:Hid (wr.rangeAt g0 (o0+k*8) [I J x,I J y,I J z,bO e,I .u32 (i:Int),bO r,I J d,sL ao m c]):=HRG
   have HO:Hid (ownG rc8 wr w.heap.size 67 8 g kc rs):=ho
   have HB:Hid (Below w.heap.size w wr):=hb
   have HAL:Hid (blk (wr.alloc (.cells [I J 0,I J 0,I J 0,bO false,I .u32 0,bO false,I J 0,sL none 0 0].toArray 67)) wr.heap.size ([]++[I J 0,I J 0,I J 0,bO false,I .u32 0,bO false,I J 0,sL none 0 0]++[]) 67):=blk.new wr _ 67
   clear ho hb;go_wp2_with (first
    | (refine lq67 HRG.out ?_)
    | (refine wpList_store_mid (P:=Tp) rfl 67 (.tmp 5) (.tmp 16) rfl wr.heap.size 0 _ rfl rfl (HAL.out.there 0 8 (by simp)) sz129 (one8 _ _ _ _ _ _ _ _ _ _) ?_;generalize hW2:World.setCells (wr.alloc _) wr.heap.size 0 _=w2;have HP2:Hid (blk w2 wr.heap.size ([I J x,I J y,I J z]++[bO e,I .u32 (i:Int),bO r,I J d,sL ao m c]++[]) 67):=(hW2 ▸ blk.put [] _ [] [I J x,I J y,I J z,bO e,I .u32 (i:Int),bO r,I J d,sL ao m c] HAL.out rfl);have HB2:Hid (Below wr.heap.size wr w2):=(hW2 ▸ sW (nR _) _ _ ((bW _ _).alloc (nR _) _));have HS2:Hid (w2.heap.size=wr.heap.size+1):=(by show _=_;rw[← hW2,sZ];simp);clear hW2)
    | (refine lq55 (cs:=[bO e,I .u32 (i:Int),bO r,I J d,sL ao m c]) (blk.loadAt [I J x,I J y,I J z] [bO e,I .u32 (i:Int),bO r,I J d,sL ao m c] [] HP2.out) ?_)
    | (go_at_call 132;refine (l1copyFrame_any w2 e i r d ao m c l (HDT.out.below HB2.out) HMM.out).mono ?_;rintro o w3 ⟨gd,kd,rfl,⟨q1,q2,q3,q4⟩,hb3⟩;have HQ3:Hid (w2.heap.size+2≤gd∧gd<w3.heap.size∧St (w2.heap.size+2) w3 (fun W=>iB W (some ⟨gd,0,none⟩) m kd l)):=⟨q4,q2,q3⟩;have HP3:Hid (blk w3 wr.heap.size ([I J x,I J y,I J z]++[bO e,I .u32 (i:Int),bO r,I J d,sL ao m c]++[]) 67):=HP2.out.below hb3;have HB3:Hid (Below wr.heap.size wr w3):=HB2.out.trans (hb3.mono HB2.out.size);clear q1 q2 q3 q4 hb3)
    | (refine wpList_store_mid (P:=Tp) rfl 55 (.tmp 20) (.tmp 19) rfl wr.heap.size 3 _ rfl rfl (HP3.out.there 3 5 (by simp)) sz93 (one5 _ _ _ _ _ _ _) ?_;generalize hW4:World.setCells w3 wr.heap.size 3 _=w4;have HP4:Hid (blk w4 wr.heap.size [I J x,I J y,I J z,bO e,I .u32 (i:Int),bO r,I J d,sL (some ⟨gd,0,none⟩) m kd] 67):=(hW4 ▸ blk.put [I J x,I J y,I J z] [bO e,I .u32 (i:Int),bO r,I J d,sL ao m c] [] [bO e,I .u32 (i:Int),bO r,I J d,sL (some ⟨gd,0,none⟩) m kd] HP3.out rfl);have HB4:Hid (Below wr.heap.size wr w4):=(hW4 ▸ sW (nR _) _ _ HB3.out);have HQ4:Hid (wr.heap.size<gd∧gd<w4.heap.size∧iB w4 (some ⟨gd,0,none⟩) m kd l):=(by show _∧_;have h2:=HS2.out;obtain⟨h3,h4,h5⟩:=HQ3.out;refine⟨by omega,by rw[← hW4,sZ];exact h4,?_⟩;rw[← hW4];exact (h5.setCells _ _ (by omega) _).now);clear hW4)
    | (refine lq67 (cs:=[I J x,I J y,I J z,bO e,I .u32 (i:Int),bO r,I J d,sL (some ⟨gd,0,none⟩) m kd]) HP4.out.load ?_)
    | (at_builtin;refine app_rec (w:=w4.alloc (.cells #[I J x,I J y,I J z,bO e,I .u32 (i:Int),bO r,I J d,sL (some ⟨gd,0,none⟩) m kd] 67)) rfl (.tmp 21) (.tmp 23) 37 67 _ 8 72 Tryz.info67 Tryz.underlying37 rfl (by decide) (by decide) rfl w.heap.size g k kc (rs.flatMap rc8.enc) rfl (by have:=((HO.out.below HB4.out).alloc (.cells #[I J x,I J y,I J z,bO e,I .u32 (i:Int),bO r,I J d,sL (some ⟨gd,0,none⟩) m kd] 67)).own;rw[HLN.out] at this;exact this) w4.heap.size [I J x,I J y,I J z,bO e,I .u32 (i:Int),bO r,I J d,sL (some ⟨gd,0,none⟩) m kd] rfl rfl (blk.new w4 _ 67) (one8L _ _ _ _ _ _ _ _ _ _) (by omega) (by have:=HB.out.size;have:=HB4.out.size;simp;omega) ?_;intro g' k' w6 ho6 hg6 hg' hB6))
   go_roundw
   case rel=>
    obtain⟨h1,h2,h3⟩:=HQ4.out
    have hO4:=(HO.out.below HB4.out).alloc (.cells #[I J x,I J y,I J z,bO e,I .u32 (i:Int),bO r,I J d,sL (some ⟨gd,0,none⟩) m kd] 67)
    have hgl:=HO.out.lt
    have hml:=HM.out
    refine⟨k+1,g',k',rs++[(⟨x,y,z,e,i,r,d,l⟩,gd,kd)],by omega,rfl,by go_num,?_,HTK.out gd kd,?_⟩
    ·refine hO4.snoc (⟨x,y,z,e,i,r,d,l⟩,gd,kd) ?_ ?_ ?_ ?_ ?_ hg6 hg'
     ·show iB _ (some ⟨gd,0,none⟩) l.length kd l
      rw[← hml]
      exact h3.below ((bW _ _).alloc (nR _) _)
     ·show w.heap.size≤gd
      omega
     ·show gd≠g
      omega
     ·show gd<_
      simp
      omega
     ·rw[HEN.out,HLN.out]
      exact ho6
    ·have hbb:=HB.out.trans (HB4.out.mono HB.out.size)
     refine (hbb.alloc hbb.size _).grown hg6 (by have:=hbb.size;simp;omega) ?_
     intro k0 hk0;have:k0=g:=by simpa using hk0.symm
     omega
   case measure=>simp[intOf];omega
  ·have hkn:k=n:=by omega
   subst hkn;have hln:=take8_len hm (by have:=HL.out;omega)
   rw[List.take_of_length_le (by have:=HL.out;omega)] at hm
   have HQ:Hid (w.heap.size≤g∧g<wr.heap.size∧St w.heap.size wr (fun W=>rowQ8 w.heap.size wr.heap.size 67 g k kc bs W)):=by
    refine⟨ho.lt.1,ho.lt.2,fun W hW=>⟨rs,ho.st hW,hm,hln,ho.lt.2,fun p hp=>(ho.dat p hp).2.2.2⟩⟩
   clear ho hm hln;go_wp2
   go_ret;exact⟨g,kc,rfl,HQ.out,hb⟩
theorem l3copyEvents_any (w:World) (a:Option Addr) (n cap:Nat) (bs:List R8) (h:isR8s w a n cap bs) (hn:n≤1048576) (hd:∀ j (h:j<bs.length),bs[j].l.length≤1048576) :
  Calls Tp 68 #[sL a n cap] w fun o w'=>∃ g k,o = rT (sL (some ⟨g,0,none⟩) n k)∧(w.heap.size≤g∧g<w'.heap.size∧St w.heap.size w' (fun W=>isR8s W (some ⟨g,0,none⟩) n k bs))∧Below w.heap.size w w':=
 (l3copyEvents_own w a n cap bs h hn hd).mono fun o w' ⟨g,k,e,⟨h1,h2,h3⟩,h4⟩=>⟨g,k,e,⟨h1,h2,fun W hW=>(h3 W hW).is⟩,h4⟩
theorem gS.new (w:World) (l:List Value):gS w l z10 (((w.alloc (.cells l.toArray 39)).alloc (.cells z10.toArray 39)).alloc (.cells z10.toArray 39)):=by
 refine⟨((blk.new w _ 39).alloc _).alloc _,?_,?_,(((bW _ _).alloc (nR _) _).alloc (by simp) _).alloc (by simp;omega) _⟩
 ·simpa using (blk.new (w.alloc (.cells l.toArray 39)) z10 39).alloc (.cells z10.toArray 39)
 ·simpa using blk.new ((w.alloc (.cells l.toArray 39)).alloc (.cells z10.toArray 39)) z10 39
theorem gS.put (h:gS w hv z10 W) (p o:Nat) (H:Ho) (s:Sl):gS w hv (hoL H s) (W.setCells (w.heap.size+1+1) 0 (hoL H s)):=⟨h.p.other (by omega) _ _,h.r.other (by omega) _ _,by simpa using blk.put [] z10 [] (hoL H s) (by simpa using h.q) rfl,sW (by omega) _ _ h.b⟩
theorem hS.range (h:hS w hv W) {g o:Nat} {l:List Value} (hr:w.rangeAt g o l) (hg:g<w.heap.size):W.rangeAt g o l:=range_below hr h.b hg
theorem l3copy_own (w:World) (H:Ho) (s:Sl) (h:isHo w H s) (hn:H.le 1048576) :
  Calls Tp 67 #[hoV H s] w fun o w'=>∃ gf kf gb kb gq kq g4 k4 T0 T1 T2 T3,o = rT (hoV H ⟨some ⟨gf,0,none⟩,s.n1,kf,some ⟨gb,0,none⟩,s.n2,kb,some ⟨gq,0,none⟩,s.n3,kq,some ⟨g4,0,none⟩,s.n4,k4⟩)∧(w.heap.size+3≤gf∧gf<T0∧T0≤T1∧T1≤T2∧T2≤T3∧T3≤w'.heap.size)∧St (w.heap.size+3) w' (fun W=>isR3s W (some ⟨gf,0,none⟩) s.n1 kf H.fs∧rowQ8 T0 T1 166 gb s.n2 kb H.bx W∧rowQ5 T1 T2 55 gq s.n3 kq H.ff W∧rowQ8 T2 T3 67 g4 s.n4 k4 H.qu W)∧St (w.heap.size+3) w' (fun W=>W.ownsRow (w.heap.size+3) 164 3 (sL (some ⟨gf,0,none⟩) s.n1 kf) s.n1 (c3 H.fs))∧Below w.heap.size w w':=by
 have HH:Hid (isHo w H s):=h
 have HN:Hid (H.le 1048576):=hn
 have HP:Hid (blk (w.alloc (.cells (hoL H s).toArray 39)) w.heap.size (hoL H s) 39):=blk.new w _ 39
 have HG:Hid (gS w (hoL H s) z10 (((w.alloc (.cells (hoL H s).toArray 39)).alloc (.cells z10.toArray 39)).alloc (.cells z10.toArray 39))):=gS.new w _
 clear h hn;rw[hoV_L]
 go_enter Tryz.func67,Tryz.ntmps67
 go_wp2_with (first
  | (refine lq39 (blk.alloc HP.out _).load ?_)
  | (refine sq39 HG.out.q ?_;generalize hW1:World.setCells (World.alloc _ _) (w.heap.size+1+1) 0 _=w1;have HN1:Hid (gS w (hoL H s) (hoL H s) w1):=(hW1 ▸ HG.out.put 0 0 H s);have x4:=(HN1.out.q.alloc (.cells #[] 164)).cell 4 _ rfl;have f4:=(HN1.out.q.alloc (.cells #[] 164)).free 4;clear hW1))
 have hg1:gS w (hoL H s) (hoL H { s with a1:=some ⟨w1.heap.size,0,none⟩,n1:=0,k1:=0 }) _:=(HN1.out.below ((bW _ _).alloc (nR _) (.cells #[] 164))).set 4 (sL (some ⟨w1.heap.size,0,none⟩) 0 0)
 have ho1:=oK (w':=(w1.alloc (.cells #[] 164)).setCell ⟨(w.heap.size+1+1),4,none⟩ (sL (some ⟨w1.heap.size,0,none⟩) 0 0)) (World.ownsRow_made (base:=w.heap.size+3) (size:=3) (e:=164) w1 #[] 0 HN1.out.z (by decide) (by simp)) (by rw[heap_setCell_other _ _ _ _ (by have:=HN1.out.z;simp;omega)])
 clear x4 f4 HP HG HN1;go_loopw [4] (fun t wr=>∃ k g kc:Nat,k≤s.n1∧t = I J (k:Int)∧gS w (hoL H s) (hoL H { s with a1:=some ⟨g,0,none⟩,n1:=k,k1:=kc }) wr∧wr.ownsRow (w.heap.size+3) 164 3 (sL (some ⟨g,0,none⟩) k kc) k (c3 (H.fs.take k))) (fun t _=>s.n1-(intOf t).toNat)
 case atStart=>exact⟨0,_,0,nZ _,rfl,hg1,ho1⟩
 case round=>
  clear hg1 ho1;obtain⟨k,g,kc,hk,rfl,hg,ho⟩:=hrel
  have y4:=hg.p.cell 4 _ rfl
  have HGS:Hid (gS w (hoL H s) (hoL H { s with a1:=some ⟨g,0,none⟩,n1:=k,k1:=kc }) wr):=hg
  have HO:Hid (wr.ownsRow (w.heap.size+3) 164 3 (sL (some ⟨g,0,none⟩) k kc) k (c3 (H.fs.take k))):=ho
  clear hg ho;by_cases hlt:k<s.n1
  ·have hkl:k<H.fs.length:=by have:=HH.out.fs.len;omega
   obtain⟨g0,o0,ha,hc⟩:=HH.out.fs.cells (by intro e;rw[e] at hkl;exact absurd hkl (nN _))
   have HKB:Hid (k≤100000000):=(by have h1:=HN.out.fs;show _≤_;omega)
   have hgz:g0<w.heap.size:=World.block_lt_of_cell? w _ (hc k hkl).c0
   have hR:w.rangeAt g0 (o0+k*3) (rc3 H.fs[k]):=(hc k hkl).range
   have hC:=c3_snoc H.fs k hkl
   generalize H.fs[k]=f at *;obtain⟨fe,fm,fk⟩:=f
   rw[ha] at y4
   have HS:Hid (∀ W,hS w (hoL H s) W→W.cell? ⟨w.heap.size,4,none⟩=some (sL (some ⟨g0,o0,none⟩) s.n1 s.k1)∧W.cell? ⟨g0,o0+k*3,none⟩=some (bO fe)∧W.cell? ⟨g0,o0+k*3+1,none⟩=some (I .u32 fm)∧W.cell? ⟨g0,o0+k*3+2,none⟩=some (I .u32 fk)):=fun W h=>by
    have r:=range_below hR h.b hgz
    exact⟨by have:=h.p.cell 4 _ rfl;rw[ha] at this;exact this,r 0 _ rfl,r 1 _ rfl,r 2 _ rfl⟩
   have HC:Hid (c3 (H.fs.take k)++[bO fe,I .u32 fm,I .u32 fk]=c3 (H.fs.take (k+1))):=hC
   have hsD:=(HGS.out.below (bW _ _).drew).hs
   have HGA:Hid (gS w (hoL H s) (hoL H { s with a1:=some ⟨g,0,none⟩,n1:=k,k1:=kc }) (wr.alloc (.cells #[bO fe,I .u32 fm,I .u32 fk] 164)).drew):=HGS.out.below ((bW _ _).alloc (nR _) _).drew
   have hsA:=HGA.out.hs
   have y5:=HGS.out.q.cell 4 _ rfl
   have y6:=(HGS.out.q.alloc (.cells #[bO fe,I .u32 fm,I .u32 fk] 164)).cell 4 _ rfl
   have hgl:=World.ownsRow.lt HO.out g rfl
   have HOA:Hid ((wr.alloc (.cells #[bO fe,I .u32 fm,I .u32 fk] 164)).drew.ownsRow (w.heap.size+3) 164 3 (sL (some ⟨g,0,none⟩) k kc) k (c3 (H.fs.take k))):=oK HO.out (by show (wr.alloc _).heap[_]?=_;exact Below.heap_alloc _ _ _ hgl.2)
   clear hc hR hC ha hgz;have hlt2:(k:Int)<(s.n1:Int):=by omega
   go_wp2_with fail;clear y4;obtain⟨z4,r0,r1,r2⟩:=HS.out _ hsD
   clear HS hsD hsA;go_region_law
    (first | (refine wp_app_rec (.tmp 18) (.tmp 24) 34 164 _ 3 12 Tryz.info164 Tryz.underlying34 rfl (by decide) (by decide) (by rfl) (w.heap.size+3) g k kc (c3 (H.fs.take k)) (by rfl) HOA.out wr.heap.size [bO fe,I .u32 fm,I .u32 fk] (by rfl) rfl (blk.new wr [bO fe,I .u32 fm,I .u32 fk] 164) (one3L _ _ _) HKB.out (by have:=HGS.out.z;simp;omega) ?_;intro g' k' w6 ho6 hg6 hg' hB6;rw[HC.out] at ho6;have hG6:=HGA.out.grown hg6 (by omega);have xq:=hG6.q.cell 4 _ rfl;have fq:=hG6.q.free 4;have hG7:=hG6.set 4 (sL (some ⟨g',0,none⟩) (k+1) k');have ho7:=oK (w':=w6.setCell ⟨(w.heap.size+1+1),4,none⟩ (sL (some ⟨g',0,none⟩) (k+1) k')) ho6 (by rw[heap_setCell_other _ _ _ _ (by show g'≠_+_+_;omega)])))
   all_goals
    have HG7:Hid _:=hG7
    have HO7:Hid _:=ho7
    have hkb:=HKB.out
    clear hG7 ho7 hG6 ho6 hg6 hg' hB6 xq fq hgl;go_wp2_with fail;go_roundw
    case rel=>exact⟨k+1,g',k',by omega,by go_num,HG7.out,HO7.out⟩
    case measure=>simp[intOf];omega
  ·have hkn:k=s.n1:=by omega
   clear hk hlt;subst hkn;have HF1:Hid (St (w.heap.size+3) wr (fun W=>isR3s W (some ⟨g,0,none⟩) s.n1 kc H.fs∧W.ownsRow (w.heap.size+3) 164 3 (sL (some ⟨g,0,none⟩) s.n1 kc) s.n1 (c3 H.fs))):=by
    have hl:=HH.out.fs.len
    have:=HO.out
    rw[List.take_of_length_le (by omega)] at this
    obtain⟨g',c',e',q1,q2,q3,q4,q5⟩:=c3_owns hl this (by intro e;cases e)
    cases e'
    exact fun W hW=>⟨q5 W hW,oK this (hW g q1 q2)⟩
   have HGF:Hid (w.heap.size+3≤g∧g<wr.heap.size):=World.ownsRow.lt HO.out g rfl
   have HZ3:Hid (w.heap.size+3≤wr.heap.size):=HGS.out.z
   clear HO;rename World=>wa
   obtain⟨gf,rfl⟩ : ∃ x,x=g:=⟨_,rfl⟩
   obtain⟨kf,rfl⟩ : ∃ x,x=kc:=⟨_,rfl⟩
   have xL:=(HGS.out.q.alloc (.cells #[] 166)).cell 5 _ rfl
   have fL:=(HGS.out.q.alloc (.cells #[] 166)).free 5
   go_wp2_with fail;clear xL fL y4;have hg1:gS w (hoL H s) (hoL H { s with a1:=some ⟨gf,0,none⟩,k1:=kf,a2:=some ⟨wa.heap.size,0,none⟩,n2:=0,k2:=0 }) _:=(HGS.out.below ((bW _ _).alloc (nR _) (.cells #[] 166))).set 5 (sL (some ⟨wa.heap.size,0,none⟩) 0 0)
   have ho1:=(ownG.nil rc8 wa wa.heap.size 166 8 (nR _)).set (w.heap.size+1+1) 5 (by have:=HZ3.out;omega) [sL (some ⟨wa.heap.size,0,none⟩) 0 0]
   have hk1:=((Kp.refl (w.heap.size+3) wa).below ((bW _ _).alloc (nR _) (.cells #[] 166))).set (w.heap.size+1+1) 5 (by omega) (sL (some ⟨wa.heap.size,0,none⟩) 0 0)
   clear HGS;go_loopw [5] (fun t wr=>∃ (k g kc:Nat) (rs:List (R8 × Nat × Nat)),k≤s.n2∧t = I J (k:Int)∧gS w (hoL H s) (hoL H { s with a1:=some ⟨gf,0,none⟩,k1:=kf,a2:=some ⟨g,0,none⟩,n2:=k,k2:=kc }) wr∧ownG rc8 wr wa.heap.size 166 8 g kc rs∧rs.map (·.1)=H.bx.take k∧Kp (w.heap.size+3) wa wr) (fun t _=>s.n2-(intOf t).toNat)
   case atStart=>exact⟨0,_,0,[],nZ _,rfl,hg1,ho1,by simp,hk1⟩
   case round=>
    clear hg1 ho1 hk1;obtain⟨k,g,kc,rs,hk,rfl,hg,ho,hm,hkp⟩:=hrel
    have yL:=hg.p.cell 5 _ rfl
    have HGS:Hid (gS w (hoL H s) (hoL H { s with a1:=some ⟨gf,0,none⟩,k1:=kf,a2:=some ⟨g,0,none⟩,n2:=k,k2:=kc }) wr):=hg
    have HO:Hid (ownG rc8 wr wa.heap.size 166 8 g kc rs):=ho
    have HKP:Hid (Kp (w.heap.size+3) wa wr):=hkp
    clear hg ho hkp;by_cases hlt:k<s.n2
    ·have hkl:k<H.bx.length:=by have:=HH.out.bx.len;omega
     obtain⟨g0,o0,ha,hc⟩:=(HH.out.below HGS.out.b).bx.cells (by intro e;rw[e] at hkl;exact absurd hkl (nN _))
     obtain⟨ao,m,c,hat⟩:=hc k hkl
     have HKB:Hid (k≤100000000):=(by have h1:=HN.out.bx;show _≤_;omega)
     have hMM:=HN.out.bd k hkl
     have HTK:Hid (∀ gd kd:Nat,List.map (fun p:R8 × Nat × Nat=>p.1) (rs++[(H.bx[k],gd,kd)])=H.bx.take (k+1)):=fun gd kd=>take8 hm hkl (H.bx[k],gd,kd) rfl
     have HLN:Hid (rs.length=k):=take8_len hm (by omega)
     clear hc hm;generalize H.bx[k]=bk at *;obtain⟨x,y,z,e,i,r,d,l⟩:=bk
     obtain⟨r0,r1,r2,r3,r4,r5,r6,r7,hD⟩:=hat
     have hM:=hD.len
     dsimp only at r0 r1 r2 r3 r4 r5 r6 r7 hD hM hMM
     have HM:Hid (m=l.length∧m≤1048576):=⟨hM,by omega⟩
     rw[ha] at yL
     have HDT:Hid (iB wr.drew ao m c l):=hD.below (bW _ _).drew
     have y5:=HGS.out.q.cell 5 _ rfl
     clear hD hM hMM ha;have hlt2:(k:Int)<(s.n2:Int):=by omega
     go_wp2_with fail;go_region_law
      (first
       | (refine wp_app_rec (.tmp 37) (.tmp 44) 35 166 _ 8 72 Tryz.info166 Tryz.underlying35 rfl (by decide) (by decide) (by rfl) wa.heap.size g k kc (rs.flatMap rc8.enc) (by rfl) (by have:=HOA.out.own;rw[HLN.out] at this;exact this) wc.heap.size [I J x,I J y,I J z,bO e,I .u32 (i:Int),bO r,I J d,sL (some ⟨gd,0,none⟩) m kd] (by rfl) rfl (blk.new wc [I J x,I J y,I J z,bO e,I .u32 (i:Int),bO r,I J d,sL (some ⟨gd,0,none⟩) m kd] 166) (one8L _ _ _ _ _ _ _ _ _ _ ) HKB.out (by have:=HO.out.lt;have:=HBC.out.size;simp;omega) ?_;intro g' k' w6 ho6 hg6 hg' hB6;have hG6:=HGA.out.grown hg6 (by have:=HZ3.out;have:=HO.out.lt;omega);have xq:=hG6.q.cell 5 _ rfl;have fq:=hG6.q.free 5;have hG7:gS w (hoL H s) (hoL H { s with a1:=some ⟨gf,0,none⟩,k1:=kf,a2:=some ⟨g',0,none⟩,n2:=k+1,k2:=k' }) _:=hG6.set 5 (sL (some ⟨g',0,none⟩) (k+1) k');have ho7:=(HOA.out.snoc ((⟨x,y,z,e,i,r,d,l⟩),gd,kd) (by show iB _ (some ⟨gd,0,none⟩) l.length kd l;rw[← HM.out.1];exact HQ.out.2.2.below ((bW _ _).alloc (nR _) _)) (by show wa.heap.size≤gd;have:=HQ.out.1;have:=HO.out.lt;omega) (by show gd≠g;have:=HQ.out.1;have:=HO.out.lt;omega) (by show gd<_;have:=HQ.out.2.1;simp;omega) (by rw[HLN.out];have e0:rc8.enc ((⟨x,y,z,e,i,r,d,l⟩),gd,kd)=[I J x,I J y,I J z,bO e,I .u32 (i:Int),bO r,I J d,sL (some ⟨gd,0,none⟩) m kd]:=(by rw[HM.out.1];rfl);rw[e0];exact ho6) hg6 hg').set (w.heap.size+1+1) 5 (by have:=HZ3.out;omega) [sL (some ⟨g',0,none⟩) (k+1) k'];have hk7:=((HKP.out.below (HBC.out.alloc HBC.out.size _)).grown hg6 (by have:=HO.out.lt;omega)).set (w.heap.size+1+1) 5 (by omega) (sL (some ⟨g',0,none⟩) (k+1) k'))
       | (go_simp;go_at_call 131;refine (l3copyBox_any wr.drew x y z e i r d ao m c l HDT.out HM.out.2).mono ?_;rintro o wc ⟨gd,kd,rfl,⟨q1,q2,q3,q4⟩,hbc⟩;have HBC:Hid (Below wr.heap.size wr wc):=(bW _ _).drew.trans hbc;have HQ:Hid (wr.heap.size≤gd∧gd<wc.heap.size∧iB wc (some ⟨gd,0,none⟩) m kd l):=⟨q1,q2,q3.now⟩;have HGA:Hid (gS w (hoL H s) (hoL H { s with a1:=some ⟨gf,0,none⟩,k1:=kf,a2:=some ⟨g,0,none⟩,n2:=k,k2:=kc }) (wc.alloc (.cells #[I J x,I J y,I J z,bO e,I .u32 (i:Int),bO r,I J d,sL (some ⟨gd,0,none⟩) m kd] 166))):=HGS.out.below (HBC.out.alloc HBC.out.size _);have HOA:Hid (ownG rc8 (wc.alloc (.cells #[I J x,I J y,I J z,bO e,I .u32 (i:Int),bO r,I J d,sL (some ⟨gd,0,none⟩) m kd] 166)) wa.heap.size 166 8 g kc rs):=HO.out.below (HBC.out.alloc HBC.out.size _);have y6:=(HGS.out.below HBC.out).q.cell 5 _ rfl;have y7:=HGA.out.q.cell 5 _ rfl;clear q1 q2 q3 q4 hbc;go_wp2_with fail))
     all_goals
      have HG7:Hid _:=hG7
      have HO7:Hid _:=ho7
      have HK7:Hid _:=hk7
      have hkb:=HKB.out
      clear hG7 ho7 hk7 hG6 ho6 hg6 hg' hB6 xq fq;go_wp2_with fail;go_roundw
      case rel=>exact⟨k+1,g',k',_,by omega,by go_num,HG7.out,HO7.out,HTK.out gd kd,HK7.out⟩
      case measure=>simp[intOf];omega
    ·have hkn:k=s.n2:=by omega
     clear hk hlt;subst hkn;have hln:=take8_len hm (by have:=HH.out.bx.len;omega)
     rw[List.take_of_length_le (by have:=HH.out.bx.len;omega)] at hm
     have HF2:Hid (St (w.heap.size+3) wr (fun W=>rowQ8 wa.heap.size wr.heap.size 166 g s.n2 kc H.bx W)):=fun W hW=>⟨rs,HO.out.st (fun x h1 h2=>hW x (nT HZ3.out h1) h2),hm,hln,HO.out.lt.2,fun p hp=>(HO.out.dat p hp).2.2.2⟩
     have HSZ1:Hid (wa.heap.size≤wr.heap.size):=HKP.out.size
     replace HF1:Hid _:=St.kp HF1.out HKP.out
     replace HZ3:Hid (w.heap.size+3≤wr.heap.size):=HGS.out.z
     clear HO HKP hm hln;rename World=>wb
     obtain⟨gb,rfl⟩ : ∃ x,x=g:=⟨_,rfl⟩
     obtain⟨kb,rfl⟩ : ∃ x,x=kc:=⟨_,rfl⟩
     have xL:=(HGS.out.q.alloc (.cells #[] 55)).cell 6 _ rfl
     have fL:=(HGS.out.q.alloc (.cells #[] 55)).free 6
     go_wp2_with fail;clear xL fL yL;have hg1:gS w (hoL H s) (hoL H { s with a1:=some ⟨gf,0,none⟩,k1:=kf,a2:=some ⟨gb,0,none⟩,k2:=kb,a3:=some ⟨wb.heap.size,0,none⟩,n3:=0,k3:=0 }) _:=(HGS.out.below ((bW _ _).alloc (nR _) (.cells #[] 55))).set 6 (sL (some ⟨wb.heap.size,0,none⟩) 0 0)
     have ho1:=(ownG.nil rc5 wb wb.heap.size 55 5 (nR _)).set (w.heap.size+1+1) 6 (by have:=HZ3.out;omega) [sL (some ⟨wb.heap.size,0,none⟩) 0 0]
     have hk1:=((Kp.refl (w.heap.size+3) wb).below ((bW _ _).alloc (nR _) (.cells #[] 55))).set (w.heap.size+1+1) 6 (by omega) (sL (some ⟨wb.heap.size,0,none⟩) 0 0)
     clear HGS;go_loopw [6] (fun t wr=>∃ (k g kc:Nat) (rs:List (R5 × Nat × Nat)),k≤s.n3∧t = I J (k:Int)∧gS w (hoL H s) (hoL H { s with a1:=some ⟨gf,0,none⟩,k1:=kf,a2:=some ⟨gb,0,none⟩,k2:=kb,a3:=some ⟨g,0,none⟩,n3:=k,k3:=kc }) wr∧ownG rc5 wr wb.heap.size 55 5 g kc rs∧rs.map (·.1)=H.ff.take k∧Kp (w.heap.size+3) wb wr) (fun t _=>s.n3-(intOf t).toNat)
     case atStart=>exact⟨0,_,0,[],nZ _,rfl,hg1,ho1,by simp,hk1⟩
     case round=>
      clear hg1 ho1 hk1;obtain⟨k,g,kc,rs,hk,rfl,hg,ho,hm,hkp⟩:=hrel
      have yL:=hg.p.cell 6 _ rfl
      have HGS:Hid (gS w (hoL H s) (hoL H { s with a1:=some ⟨gf,0,none⟩,k1:=kf,a2:=some ⟨gb,0,none⟩,k2:=kb,a3:=some ⟨g,0,none⟩,n3:=k,k3:=kc }) wr):=hg
      have HO:Hid (ownG rc5 wr wb.heap.size 55 5 g kc rs):=ho
      have HKP:Hid (Kp (w.heap.size+3) wb wr):=hkp
      clear hg ho hkp;by_cases hlt:k<s.n3
      ·have hkl:k<H.ff.length:=by have:=HH.out.ff.len;omega
       obtain⟨g0,o0,ha,hc⟩:=(HH.out.below HGS.out.b).ff.cells (by intro e;rw[e] at hkl;exact absurd hkl (nN _))
       obtain⟨ao,m,c,hat⟩:=hc k hkl
       have HKB:Hid (k≤100000000):=(by have h1:=HN.out.ff;show _≤_;omega)
       have hMM:=HN.out.fd k hkl
       have HTK:Hid (∀ gd kd:Nat,List.map (fun p:R5 × Nat × Nat=>p.1) (rs++[(H.ff[k],gd,kd)])=H.ff.take (k+1)):=fun gd kd=>take5 hm hkl (H.ff[k],gd,kd) rfl
       have HLN:Hid (rs.length=k):=take5_len hm (by omega)
       clear hc hm;generalize H.ff[k]=bk at *;obtain⟨e,i,r,d,l⟩:=bk
       obtain⟨r0,r1,r2,r3,r4,hD⟩:=hat
       have hM:=hD.len
       dsimp only at r0 r1 r2 r3 r4 hD hM hMM
       have HM:Hid (m=l.length∧m≤1048576):=⟨hM,by omega⟩
       rw[ha] at yL
       have HDT:Hid (iB wr.drew ao m c l):=hD.below (bW _ _).drew
       have y5:=HGS.out.q.cell 6 _ rfl
       clear hD hM hMM ha;have hlt2:(k:Int)<(s.n3:Int):=by omega
       go_wp2_with fail;go_region_law
        (first
         | (refine wp_app_rec (.tmp 57) (.tmp 64) 36 55 _ 5 48 Tryz.info55 Tryz.underlying36 rfl (by decide) (by decide) (by rfl) wb.heap.size g k kc (rs.flatMap rc5.enc) (by rfl) (by have:=HOA.out.own;rw[HLN.out] at this;exact this) wc.heap.size [bO e,I .u32 (i:Int),bO r,I J d,sL (some ⟨gd,0,none⟩) m kd] (by rfl) rfl (blk.new wc [bO e,I .u32 (i:Int),bO r,I J d,sL (some ⟨gd,0,none⟩) m kd] 55) (one5L _ _ _ _ _ _ _ ) HKB.out (by have:=HO.out.lt;have:=HBC.out.size;simp;omega) ?_;intro g' k' w6 ho6 hg6 hg' hB6;have hG6:=HGA.out.grown hg6 (by have:=HZ3.out;have:=HO.out.lt;omega);have xq:=hG6.q.cell 6 _ rfl;have fq:=hG6.q.free 6;have hG7:gS w (hoL H s) (hoL H { s with a1:=some ⟨gf,0,none⟩,k1:=kf,a2:=some ⟨gb,0,none⟩,k2:=kb,a3:=some ⟨g',0,none⟩,n3:=k+1,k3:=k' }) _:=hG6.set 6 (sL (some ⟨g',0,none⟩) (k+1) k');have ho7:=(HOA.out.snoc ((⟨e,i,r,d,l⟩),gd,kd) (by show iB _ (some ⟨gd,0,none⟩) l.length kd l;rw[← HM.out.1];exact HQ.out.2.2.below ((bW _ _).alloc (nR _) _)) (by show wb.heap.size≤gd;have:=HQ.out.1;have:=HO.out.lt;omega) (by show gd≠g;have:=HQ.out.1;have:=HO.out.lt;omega) (by show gd<_;have:=HQ.out.2.1;simp;omega) (by rw[HLN.out];have e0:rc5.enc ((⟨e,i,r,d,l⟩),gd,kd)=[bO e,I .u32 (i:Int),bO r,I J d,sL (some ⟨gd,0,none⟩) m kd]:=(by rw[HM.out.1];rfl);rw[e0];exact ho6) hg6 hg').set (w.heap.size+1+1) 6 (by have:=HZ3.out;omega) [sL (some ⟨g',0,none⟩) (k+1) k'];have hk7:=((HKP.out.below (HBC.out.alloc HBC.out.size _)).grown hg6 (by have:=HO.out.lt;omega)).set (w.heap.size+1+1) 6 (by omega) (sL (some ⟨g',0,none⟩) (k+1) k'))
         | (go_simp;go_at_call 132;refine (l1copyFrame_any wr.drew e i r d ao m c l HDT.out HM.out.2).mono ?_;rintro o wc ⟨gd,kd,rfl,⟨q1,q2,q3,q4⟩,hbc⟩;have HBC:Hid (Below wr.heap.size wr wc):=(bW _ _).drew.trans hbc;have HQ:Hid (wr.heap.size≤gd∧gd<wc.heap.size∧iB wc (some ⟨gd,0,none⟩) m kd l):=⟨q1,q2,q3.now⟩;have HGA:Hid (gS w (hoL H s) (hoL H { s with a1:=some ⟨gf,0,none⟩,k1:=kf,a2:=some ⟨gb,0,none⟩,k2:=kb,a3:=some ⟨g,0,none⟩,n3:=k,k3:=kc }) (wc.alloc (.cells #[bO e,I .u32 (i:Int),bO r,I J d,sL (some ⟨gd,0,none⟩) m kd] 55))):=HGS.out.below (HBC.out.alloc HBC.out.size _);have HOA:Hid (ownG rc5 (wc.alloc (.cells #[bO e,I .u32 (i:Int),bO r,I J d,sL (some ⟨gd,0,none⟩) m kd] 55)) wb.heap.size 55 5 g kc rs):=HO.out.below (HBC.out.alloc HBC.out.size _);have y6:=(HGS.out.below HBC.out).q.cell 6 _ rfl;have y7:=HGA.out.q.cell 6 _ rfl;clear q1 q2 q3 q4 hbc;go_wp2_with fail))
       all_goals
        have HG7:Hid _:=hG7
        have HO7:Hid _:=ho7
        have HK7:Hid _:=hk7
        have hkb:=HKB.out
        clear hG7 ho7 hk7 hG6 ho6 hg6 hg' hB6 xq fq;go_wp2_with fail;go_roundw
        case rel=>exact⟨k+1,g',k',_,by omega,by go_num,HG7.out,HO7.out,HTK.out gd kd,HK7.out⟩
        case measure=>simp[intOf];omega
      ·have hkn:k=s.n3:=by omega
       clear hk hlt;subst hkn;have hln:=take5_len hm (by have:=HH.out.ff.len;omega)
       rw[List.take_of_length_le (by have:=HH.out.ff.len;omega)] at hm
       have HF3:Hid (St (w.heap.size+3) wr (fun W=>rowQ5 wb.heap.size wr.heap.size 55 g s.n3 kc H.ff W)):=fun W hW=>⟨rs,HO.out.st (fun x h1 h2=>hW x (nT HZ3.out h1) h2),hm,hln,HO.out.lt.2,fun p hp=>(HO.out.dat p hp).2.2.2⟩
       have HSZ2:Hid (wb.heap.size≤wr.heap.size):=HKP.out.size
       replace HF1:Hid _:=St.kp HF1.out HKP.out
       replace HF2:Hid _:=St.kp HF2.out HKP.out
       replace HZ3:Hid (w.heap.size+3≤wr.heap.size):=HGS.out.z
       clear HO HKP hm hln;rename World=>wq
       obtain⟨gq,rfl⟩ : ∃ x,x=g:=⟨_,rfl⟩
       obtain⟨kq,rfl⟩ : ∃ x,x=kc:=⟨_,rfl⟩
       have y7:=HGS.out.p.cell 7 _ rfl
       have HL4:Hid (s.n4≤1048576):=by
        have h1:=HH.out.qu.len
        have h2:=HN.out.qu
        show _≤_
        omega
       go_wp2_with (first
        | (go_at_call 68;refine (l3copyEvents_own wq s.a4 s.n4 s.k4 H.qu (HH.out.qu.below HGS.out.b) HL4.out HN.out.qd).mono ?_;rintro o w7 ⟨g4,kc4,rfl,⟨q1,q2,q3⟩,hb7⟩;have HG7:Hid (gS w (hoL H s) (hoL H { s with a1:=some ⟨gf,0,none⟩,k1:=kf,a2:=some ⟨gb,0,none⟩,k2:=kb,a3:=some ⟨gq,0,none⟩,k3:=kq,a4:=some ⟨g4,0,none⟩,k4:=kc4 }) (w7.setCell ⟨(w.heap.size+1+1),7,none⟩ (sL (some ⟨g4,0,none⟩) s.n4 kc4))):=(HGS.out.below hb7).set 7 (sL (some ⟨g4,0,none⟩) s.n4 kc4);have HB7:Hid (Below wq.heap.size wq w7):=hb7;have HQ7:Hid (St (w.heap.size+3) w7 (fun W=>rowQ8 wq.heap.size w7.heap.size 67 g4 s.n4 kc4 H.qu W)):=q3.mono HZ3.out;have x7:=(HGS.out.below hb7).q.cell 7 _ rfl;have f7:=(HGS.out.below hb7).q.free 7;clear q1 q2 q3 hb7)
        | (refine lq39 HG7.out.q.load ?_)
        | (refine sq39 HG7.out.r ?_;generalize hW8:World.setCells (World.setCell _ _ _) (w.heap.size+1) 0 _=w8;have HW8:Hid (World.setCells (w7.setCell ⟨(w.heap.size+1+1),7,none⟩ (sL (some ⟨g4,0,none⟩) s.n4 kc4)) (w.heap.size+1) 0 (hoL H { s with a1:=some ⟨gf,0,none⟩,k1:=kf,a2:=some ⟨gb,0,none⟩,k2:=kb,a3:=some ⟨gq,0,none⟩,k3:=kq,a4:=some ⟨g4,0,none⟩,k4:=kc4 })=w8):=hW8;clear hW8))
       have e8:=HW8.out
       have hF:blk w8 (w.heap.size+1) (hoL H { s with a1:=some ⟨gf,0,none⟩,k1:=kf,a2:=some ⟨gb,0,none⟩,k2:=kb,a3:=some ⟨gq,0,none⟩,k3:=kq,a4:=some ⟨g4,0,none⟩,k4:=kc4 }) 39:=e8 ▸ (by simpa using blk.put [] z10 [] (hoL H { s with a1:=some ⟨gf,0,none⟩,k1:=kf,a2:=some ⟨gb,0,none⟩,k2:=kb,a3:=some ⟨gq,0,none⟩,k3:=kq,a4:=some ⟨g4,0,none⟩,k4:=kc4 }) (by simpa using HG7.out.r) rfl)
       refine bC Tryz.results67 (rq39 hF) ?_
       have k8:Kp (w.heap.size+3) w7 w8:=by
        rw[← e8]
        have h1:=(Kp.refl (w.heap.size+3) w7).set (w.heap.size+1+1) 7 (by omega) (sL (some ⟨g4,0,none⟩) s.n4 kc4)
        exact⟨fun b h2 h3=>(sO _ _ (by omega) _ _ _).trans (h1.same b h2 h3),by rw[sZ];exact h1.size⟩
       have k7:=(Kp.refl (w.heap.size+3) wq).below HB7.out
       refine⟨gf,kf,gb,kb,gq,kq,g4,kc4,wa.heap.size,wb.heap.size,wq.heap.size,w7.heap.size,rfl,⟨HGF.out.1,HGF.out.2,HSZ1.out,HSZ2.out,HB7.out.size,k8.size⟩,fun W hW=>⟨(St.kp (St.kp HF1.out k7) k8 W hW).1,St.kp (St.kp HF2.out k7) k8 W hW,St.kp (St.kp HF3.out k7) k8 W hW,St.kp HQ7.out k8 W hW⟩,fun W hW=>(St.kp (St.kp HF1.out k7) k8 W hW).2,?_⟩
       rw[← e8]
       exact sW (by omega) _ _ HG7.out.b
end Go.Proofs.YtkfcfigbgmbaiaaGreat
