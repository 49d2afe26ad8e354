import Derived.Test.YtkfcfigbgmbaiaaGreatK13
import Derived.Deep.RegionLaw
import Derived.Deep.DeepCutAuto
import Derived.Test.YtkfcfigbgmbaiaaGreatK23
import Derived.Deep.RegionHeld3
namespace Go.Proofs.YtkfcfigbgmbaiaaGreat
set_option maxRecDepth 20000
open Go.RowKit
set_option linter.unusedVariables false
set_option maxHeartbeats 16000000
open Go.Value renaming int→I,slice→sL,bool→bO,pointer→pT,agg→aG
open Go.IntKind renaming i64→J
open Go.Ending renaming returned→rT
open Go.Proofs.Tryz renaming prog→Tp
structure ptS (w:World) (L:List Value) (F:List Value) (W:World):Prop where
 p:blk W w.heap.size L 39
 f:blk W (w.heap.size+1) F 55
 r:blk W (w.heap.size+1+1) Z10 39
 b:Below w.heap.size w W
theorem ptS.below {w:World} {L F:List Value} {W W':World} (h:ptS w L F W) (hb:Below W.heap.size W W'):ptS w L F W':=⟨h.p.below hb,h.f.below hb,h.r.below hb,h.b.trans (hb.mono h.b.size)⟩
theorem ptS.new (w:World) (L F:List Value):ptS w L F (((w.alloc (.cells L.toArray 39)).alloc (.cells F.toArray 55)).alloc (.cells zX.toArray 39)):=by
 refine⟨((blk.new w _ 39).alloc _).alloc _,?_,?_,(((bW _ _).alloc (nR _) _).alloc (by simp) _).alloc (by simp;omega) _⟩
 ·have:=(blk.new (w.alloc (.cells L.toArray 39)) F 55).alloc (.cells zX.toArray 39)
  simpa using this
 ·have:=blk.new ((w.alloc (.cells L.toArray 39)).alloc (.cells F.toArray 55)) Z10 39
  have e:((w.alloc (.cells L.toArray 39)).alloc (.cells F.toArray 55)).heap.size=w.heap.size+1+1:=by simp
  rw[e] at this
  exact this
theorem ownG.other {α:Type} {F:Rc α} {w w':World} {B E sz g k q:Nat} {rs:List α} (h:ownG F w B E sz g k rs) (he:∀ b,b≠q→w'.heap[b]?=w.heap[b]?) (hg:g≠q) (hd:∀ p ∈ rs,F.gd p≠q) (hz:w.heap.size≤w'.heap.size):ownG F w' B E sz g k rs:=by
 refine⟨oK h.own (he g hg),fun p hp=>?_⟩
 obtain⟨d1,d2,d3,d4⟩:=h.dat p hp
 exact⟨d1.other (he _ (hd p hp)),d2,d3,nL d4 hz⟩
def quP (c3:Int) (qu:List R8) (e:R8):List R8:=if (qu.length:Int)<c3 then qu++[e] else qu
def loP (c3:Int) (qu:List R8) (lo:Int):Int:=if (qu.length:Int)<c3 then lo else if lo<100000 then lo+1 else lo
def pH (H:Ho) (e:R8):Ho:={ H with qu:=quP H.c3 H.qu e,lo:=loP H.c3 H.qu H.lo }
def qSl (s:Sl) (g n k:Nat):Sl:={ s with a4:=some ⟨g,0,none⟩,n4:=n,k4:=k }
theorem l3post_more (w:World) (H:Ho) (s:Sl) (B g4:Nat) (rs:List (R8 × Nat × Nat)) (x y z:Int) (e:Bool) (i:Nat) (r:Bool) (d:Int) (ao:Option Addr) (c:Nat) (l:List Nat) (ha:s.a4=some ⟨g4,0,none⟩) (hq:(s.n4:Int)<H.c3) (hn:s.n4≤1000) (hO:ownG rc8 w B 67 8 g4 s.k4 rs) (hrl:rs.length=s.n4) (hB:B≤w.heap.size) (hf:iB w ao l.length c l) (hm:l.length≤1048576) :
  Calls Tp 151 #[aG (hoL H s).toArray,I J x,I J y,I J z,frV e i r d ao l.length c] w fun o w'=>∃ g' k' gd kd,o = rT (aG (hoL H (qSl s g' (s.n4+1) k')).toArray)∧ownG rc8 w' B 67 8 g' k' (rs++[(⟨x,y,z,e,i,r,d,l⟩,gd,kd)])∧(∀ q,q≠g4→q<w.heap.size→w'.heap[q]?=w.heap[q]?)∧(g'=g4∨w.heap.size≤g')∧w.heap.size≤gd∧Below B w w':=by
 have H0:=ptS.new w (hoL H s) [bO e,I .u32 (i:Int),bO r,I J d,sL ao l.length c]
 have HO:Hid (ownG rc8 w B 67 8 g4 s.k4 rs∧rs.length=s.n4∧B≤w.heap.size∧iB w ao l.length c l∧l.length≤1048576):=⟨hO,hrl,hB,hf,hm⟩
 have x3:=H0.p.cell 3 _ rfl
 have x7:=H0.p.cell 7 _ rfl
 rw[ha] at x7
 have HA:Hid (s.a4=some ⟨g4,0,none⟩):=ha
 have f0:=H0.f.cell 0 _ rfl
 have f1:=H0.f.cell 1 _ rfl
 have f2:=H0.f.cell 2 _ rfl
 have f3:=H0.f.cell 3 _ rfl
 have f4:=H0.f.cell 4 _ rfl
 have HP:Hid (ptS w (hoL H s) [bO e,I .u32 (i:Int),bO r,I J d,sL ao l.length c] _):=H0
 clear H0 hO hrl hB hf ha hm;go_enter Tryz.func151,Tryz.ntmps151
 go_wp2_with fail;generalize hV:World.alloc (World.alloc (World.alloc w _) _) _=v at *;clear hV;go_region_law
  (first
   | (go_simp;go_at_call 132;refine (l1copyFrame_any v.drew e i r d ao l.length c l (HO.out.2.2.2.1.below (HP.out.b.trans ((bW _ _).drew.mono HP.out.b.size))) HO.out.2.2.2.2).mono ?_;rintro o wc ⟨gd,kd,rfl,⟨q1,q2,q3,q4⟩,hbc⟩;have HQ:Hid (v.heap.size≤gd∧gd<wc.heap.size∧iB wc (some ⟨gd,0,none⟩) l.length kd l):=⟨q1,q2,q3.now⟩;have HBC:Hid (Below v.heap.size v wc):=(bW _ _).drew.trans hbc;have HPA:Hid (ptS w (hoL H s) [bO e,I .u32 (i:Int),bO r,I J d,sL ao l.length c] (wc.alloc (.cells #[I J x,I J y,I J z,bO e,I .u32 (i:Int),bO r,I J d,sL (some ⟨gd,0,none⟩) l.length kd] 67))):=HP.out.below (HBC.out.alloc HBC.out.size _);have HOA:Hid (ownG rc8 (wc.alloc (.cells #[I J x,I J y,I J z,bO e,I .u32 (i:Int),bO r,I J d,sL (some ⟨gd,0,none⟩) l.length kd] 67)) B 67 8 g4 s.k4 rs):=HO.out.1.below HPA.out.b;have y6:=(HP.out.below HBC.out).p.cell 7 _ rfl;have y7:=HPA.out.p.cell 7 _ rfl;rw[HA.out] at y6 y7;clear q1 q2 q3 q4 hbc;go_wp2_with fail)
   | (refine wp_app_rec (.tmp 27) (.tmp 34) 37 67 _ 8 72 Tryz.info67 Tryz.underlying37 rfl (by decide) (by decide) (by rfl) B g4 s.n4 s.k4 (rs.flatMap rc8.enc) (by rfl) (by have:=HOA.out.own;rw[HO.out.2.1] at this;exact this) wc.heap.size [I J x,I J y,I J z,bO e,I .u32 (i:Int),bO r,I J d,sL (some ⟨gd,0,none⟩) l.length kd] (by rfl) rfl (blk.new wc [I J x,I J y,I J z,bO e,I .u32 (i:Int),bO r,I J d,sL (some ⟨gd,0,none⟩) l.length kd] 67) (one8L _ _ _ _ _ _ _ _ _ _) (by omega) (nT HO.out.2.2.1 HPA.out.b.size) ?_;intro g' k' w6 ho6 hg6 hg' hB6;have hl4:=HO.out.1.lt;have HX:Hid (ownG rc8 w6 B 67 8 g' k' (rs++[(⟨x,y,z,e,i,r,d,l⟩,gd,kd)])):=HOA.out.snoc (⟨x,y,z,e,i,r,d,l⟩,gd,kd) (HQ.out.2.2.below ((bW _ _).alloc (nR _) _)) (by show B≤gd;have:=HQ.out.1;have:=HP.out.b.size;omega) (by show gd≠g4;have:=HQ.out.1;have:=HP.out.b.size;omega) (by show gd<_;have:=HQ.out.2.1;simp;omega) (by rw[HO.out.2.1];exact ho6) hg6 hg';have HY:Hid ((∀ q,q≠g4→q<w.heap.size→w6.heap[q]?=w.heap[q]?)∧Below B w w6∧(g'=g4∨w.heap.size+3≤g')∧w.heap.size+3≤gd):=⟨fun q h1 h2=>(hg6.block q (nL h2 HPA.out.b.size) (by intro e;cases e;exact h1 rfl)).trans (HPA.out.b.block q h2),(HPA.out.b.mono HO.out.2.2.1).grown hg6 (nT HO.out.2.2.1 HPA.out.b.size) (by intro k e;cases e;exact hl4.1),(by have:=HP.out.r.lt;have:=HBC.out.size;rcases hg' with e | e;(exact Or.inl e);(right;rw[e];simp;omega)),(by have:=HP.out.r.lt;have:=HQ.out.1;omega)⟩;have hp:=HPA.out.p.kept (hg6.block _ HPA.out.p.lt (by intro e;cases e;omega));have hr:=HPA.out.r.kept (hg6.block _ HPA.out.r.lt (by intro e;cases e;omega));have xq:=hp.cell 7 _ rfl;have fq:=hp.free 7;have HP7:Hid (blk (w6.setCell ⟨w.heap.size,7,none⟩ (sL (some ⟨g',0,none⟩) (s.n4+1) k')) w.heap.size (hoL H (qSl s g' (s.n4+1) k')) 39∧blk (w6.setCell ⟨w.heap.size,7,none⟩ (sL (some ⟨g',0,none⟩) (s.n4+1) k')) (w.heap.size+1+1) Z10 39):=⟨hp.set 7 _,hr.setOther (by omega) _ _⟩;clear ho6 hg6 hg' hB6 hp hr))
 all_goals
  clear xq fq y6 y7 x3 x7 f0 f1 f2 f3 f4;have o7:=fun q (hq:q≠w.heap.size)=>heap_setCell_other w6 ⟨w.heap.size,7,none⟩ q (sL (some ⟨g',0,none⟩) (s.n4+1) k') hq
  have z7:(w6.setCell ⟨w.heap.size,7,none⟩ (sL (some ⟨g',0,none⟩) (s.n4+1) k')).heap.size=w6.heap.size:=by simp
  have b7:=HY.out.2.1.setCell (p:=⟨w.heap.size,7,none⟩) (by exact HO.out.2.2.1) (sL (some ⟨g',0,none⟩) (s.n4+1) k')
  generalize w6.setCell ⟨w.heap.size,7,none⟩ (sL (some ⟨g',0,none⟩) (s.n4+1) k')=w7 at *;have H7:Hid ((∀ q,q≠w.heap.size→w7.heap[q]?=w6.heap[q]?)∧w7.heap.size=w6.heap.size∧Below B w w7):=⟨o7,z7,b7⟩
  clear o7 z7 b7;go_wp2_with (first
   | (refine lq39 HP7.out.1.load ?_)
   | (refine sq39 HP7.out.2 ?_;generalize hW8:World.setCells _ (w.heap.size+1+1) 0 _=w8;have HW8:Hid (World.setCells w7 (w.heap.size+1+1) 0 (hoL H (qSl s g' (s.n4+1) k'))=w8):=hW8;clear hW8))
  have e8:=HW8.out
  have hF:blk w8 (w.heap.size+1+1) (hoL H (qSl s g' (s.n4+1) k')) 39:=e8 ▸ (by simpa using blk.put [] Z10 [] (hoL H (qSl s g' (s.n4+1) k')) (by simpa using HP7.out.2) rfl)
  refine bC Tryz.results151 (rq39 hF) ?_
  have o8:∀ q,q≠w.heap.size+1+1→w8.heap[q]?=w7.heap[q]?:=fun q hq=>by rw[← e8];exact sO _ q hq _ _ _
  have z8:w8.heap.size=w7.heap.size:=by rw[← e8];exact sZ ..
  have hd:∀ p ∈ rs++[((⟨x,y,z,e,i,r,d,l⟩ : R8),gd,kd)],rc8.gd p≠w.heap.size∧rc8.gd p≠w.heap.size+1+1:=fun p hp=>by
   rcases List.mem_append.1 hp with h|h
   ·have:=(HO.out.1.dat p h).2.2.2;omega
   ·rw[List.mem_singleton.1 h]
    have:=HY.out.2.2.2
    exact⟨by show gd≠_;omega,by show gd≠_;omega⟩
  have hg:g'≠w.heap.size∧g'≠w.heap.size+1+1:=by have:=HY.out.2.2.1;omega
  refine⟨g',k',gd,kd,rfl,(HX.out.other H7.out.1 hg.1 (fun p hp=>(hd p hp).1) (by rw[H7.out.2.1];exact nR _)).other o8 hg.2 (fun p hp=>(hd p hp).2) (by rw[z8];exact nR _),fun q h1 h2=>(o8 q (by omega)).trans ((H7.out.1 q (by omega)).trans (HY.out.1 q h1 h2)),by have:=HY.out.2.2.1;omega,by have:=HY.out.2.2.2;omega,?_⟩
  rw[← e8]
  exact sW (by have:=HO.out.2.2.1;omega) 0 _ H7.out.2.2
theorem l3post_full (w:World) (H:Ho) (s:Sl) (x y z:Int) (e:Bool) (i:Nat) (r:Bool) (d:Int) (ao:Option Addr) (c:Nat) (l:List Nat) (hq:H.c3≤(s.n4:Int)) (hlo:0≤H.lo∧H.lo≤100000) :
  Calls Tp 151 #[aG (hoL H s).toArray,I J x,I J y,I J z,frV e i r d ao l.length c] w fun o w'=>o = rT (aG (hoL { H with lo:=if H.lo<100000 then H.lo+1 else H.lo } s).toArray)∧Below w.heap.size w w':=by
 have H0:=ptS.new w (hoL H s) [bO e,I .u32 (i:Int),bO r,I J d,sL ao l.length c]
 have x3:=H0.p.cell 3 _ rfl
 have x7:=H0.p.cell 7 _ rfl
 have x8:=H0.p.cell 8 _ rfl
 have f8:=H0.p.free 8
 have HP:Hid (ptS w (hoL H s) [bO e,I .u32 (i:Int),bO r,I J d,sL ao l.length c] _):=H0
 have hq':decide (H.c3≤(s.n4:Int))=true:=by simpa using hq
 have hwr:IntKind.i64.wrap (H.lo+1)=H.lo+1:=by rw[IntKind.wrap_i64];omega
 clear H0 hlo;obtain⟨lo,hlo⟩ : ∃ lo,lo=if H.lo<100000 then H.lo+1 else H.lo:=⟨_,rfl⟩
 rw[← hlo]
 go_enter Tryz.func151,Tryz.ntmps151
 go_upto_region 1 with fail
 generalize hV:World.alloc (World.alloc (World.alloc w _) _) _=v at *;clear hV;go_upto_if 20 with fail
 go_cut [] (fun wx=>blk wx w.heap.size (hoL { H with lo:=lo } s) 39∧blk wx (w.heap.size+1+1) Z10 39∧Below w.heap.size w wx)
 case first=>
  go_wp2_with fail
  ·rw[if_pos (by assumption)] at hlo
   subst hlo;go_meet
   case rel=>exact⟨HP.out.p.set 8 _,HP.out.r.setOther (by omega) _ _,HP.out.b.setCell (by exact nR _) _⟩
  ·rw[if_neg (by omega)] at hlo
   subst hlo;go_meet
   case rel=>exact⟨HP.out.p,HP.out.r,HP.out.b⟩
 case rest=>
  obtain⟨h1,h2,h3⟩:=hcut
  have HP7:Hid (blk wc w.heap.size (hoL { H with lo:=lo } s) 39∧blk wc (w.heap.size+1+1) Z10 39):=⟨h1,h2⟩
  have HB7:Hid (Below w.heap.size w wc):=h3
  clear h1 h2 h3 HP;go_wp2_with (first
   | (refine lq39 HP7.out.1.load ?_)
   | (refine sq39 HP7.out.2 ?_;generalize hW8:World.setCells _ (w.heap.size+1+1) 0 _=w8;have HW8:Hid (World.setCells wc (w.heap.size+1+1) 0 (hoL { H with lo:=lo } s)=w8):=hW8;clear hW8))
  have e8:=HW8.out
  have hF:blk w8 (w.heap.size+1+1) (hoL { H with lo:=lo } s) 39:=e8 ▸ (by simpa using blk.put [] Z10 [] (hoL { H with lo:=lo } s) (by simpa using HP7.out.2) rfl)
  refine bC Tryz.results151 (rq39 hF) ?_
  exact⟨rfl,e8 ▸ sW (by omega) 0 _ HB7.out⟩
variable {w' V:World} {B T E g:Nat} {rs:List (R8 × Nat × Nat)}
theorem ownG.holes {w:World} {gd kd g' k':Nat} {ev:R8} (h1:ownG rc8 w' B E 8 g' k' (rs++[(ev,gd,kd)])) (hg:g'=g∨w.heap.size≤g') (hgT:g<T) (hall:∀ p ∈ rs,rc8.gd p<T) (hgd:w.heap.size≤gd) (hV:∀ x,B≤x→x<T∨w.heap.size≤x→x<w'.heap.size→V.heap[x]?=w'.heap[x]?) (hz:w'.heap.size≤V.heap.size):ownG rc8 V B E 8 g' k' (rs++[(ev,gd,kd)]):=by
 refine⟨oK h1.own (hV g' h1.lt.1 (by omega) h1.lt.2),fun p hp=>?_⟩
 obtain⟨d1,d2,d3,d4⟩:=h1.dat p hp
 have e:rc8.gd p<T∨w.heap.size≤rc8.gd p:=by
  rcases List.mem_append.1 hp with h|h
  ·exact Or.inl (hall p h)
  ·right
   have:p=(ev,gd,kd):=by simpa using h
   subst this;exact hgd
 exact⟨d1.other (hV _ d2 e d4),d2,d3,nL d4 hz⟩
theorem ownG.holes0 {k:Nat} (h1:ownG rc8 w' B E 8 g k rs) (hgT:g<T) (hall:∀ p ∈ rs,rc8.gd p<T) (hV:∀ x,B≤x→x<T→x<w'.heap.size→V.heap[x]?=w'.heap[x]?) (hz:w'.heap.size≤V.heap.size):ownG rc8 V B E 8 g k rs:=by
 refine⟨oK h1.own (hV g h1.lt.1 hgT h1.lt.2),fun p hp=>?_⟩
 obtain⟨d1,d2,d3,d4⟩:=h1.dat p hp
 exact⟨d1.other (hV _ d2 (hall p hp) d4),d2,d3,nL d4 hz⟩
theorem l3post_q (w:World) (H:Ho) (s:Sl) (B T g4:Nat) (ev:R8) (ao:Option Addr) (m c:Nat) (ha:s.a4=some ⟨g4,0,none⟩) (hQ:rowQ8 B T 67 g4 s.n4 s.k4 H.qu w) (hB:B≤w.heap.size) (hn:s.n4≤1000) (hlo:0≤H.lo∧H.lo≤100000) (hf:iB w ao m c ev.l) (hm:m≤1048576) :
  Calls Tp 151 #[aG (hoL H s).toArray,I J ev.x,I J ev.y,I J ev.z,frV ev.e ev.i ev.r ev.d ao m c] w fun o w'=>∃ g' n' k',o = rT (aG (hoL (pH H ev) (qSl s g' n' k')).toArray)∧(∀ V:World,(∀ x,B≤x→x<T∨w.heap.size≤x→x<w'.heap.size→V.heap[x]?=w'.heap[x]?)→w'.heap.size≤V.heap.size→rowQ8 B V.heap.size 67 g' n' k' (quP H.c3 H.qu ev) V)∧(∀ q,q≠g4→q<w.heap.size→w'.heap[q]?=w.heap[q]?)∧Below B w w':=by
 obtain⟨rs,ho,hmap,hlen,hgT,hall⟩:=hQ
 have hql:H.qu.length=s.n4:=by rw[← hmap,List.length_map,hlen]
 obtain⟨x,y,z,e,i,r,d,l⟩:=ev
 have hml:m=l.length:=hf.len
 subst hml;by_cases hq:(s.n4:Int)<H.c3
 ·refine (l3post_more w H s B g4 rs x y z e i r d ao c l ha hq hn ho hlen hB hf hm).mono ?_
  rintro o w' ⟨g',k',gd,kd,rfl,h1,h2,h3,h4,h5⟩;rw[← hql] at hq
  refine⟨g',s.n4+1,k',by simp only[hoL,pH,loP,if_pos hq],fun V hV hz=>?_,h2,h5⟩
  have h1:=h1.holes h3 hgT hall h4 hV hz
  exact⟨_,h1,by simp only[quP,if_pos hq,List.map_append,hmap,List.map_cons,List.map_nil],by simp[hlen],h1.lt.2,fun p hp=>(h1.dat p hp).2.2.2⟩
 ·refine (l3post_full w H s x y z e i r d ao c l (by omega) hlo).mono ?_
  rintro o w' ⟨rfl,hb⟩;rw[← hql] at hq
  refine⟨g4,s.n4,s.k4,by simp only[hoL,pH,qSl,loP,if_neg hq,ha],fun V hV hz=>?_,fun q _ h=>hb.block q h,hb.mono hB⟩
  have h1:=(ho.below hb).holes0 hgT hall (fun x h1 h2 h3=>hV x h1 (Or.inl h2) h3) hz
  exact⟨rs,h1,by simp only[quP,if_neg hq,hmap],hlen,h1.lt.2,fun p hp=>(h1.dat p hp).2.2.2⟩
abbrev ev3 (x y z:Int):R8:=⟨x,y,z,false,0,false,0,[]⟩
theorem l3say_q (w:World) (H:Ho) (s:Sl) (B T g4:Nat) (x y z:Int) (ha:s.a4=some ⟨g4,0,none⟩) (hQ:rowQ8 B T 67 g4 s.n4 s.k4 H.qu w) (hB:B≤w.heap.size) (hn:s.n4≤1000) (hlo:0≤H.lo∧H.lo≤100000) :
  Calls Tp 137 #[aG (hoL H s).toArray,I J x,I J y,I J z] w fun o w'=>∃ g' n' k',o = rT (aG (hoL (pH H (ev3 x y z)) (qSl s g' n' k')).toArray)∧(∀ V:World,(∀ x,B≤x→x<T∨w.heap.size≤x→x<w'.heap.size→V.heap[x]?=w'.heap[x]?)→w'.heap.size≤V.heap.size→rowQ8 B V.heap.size 67 g' n' k' (quP H.c3 H.qu (ev3 x y z)) V)∧(∀ q,q≠g4→q<w.heap.size→w'.heap[q]?=w.heap[q]?)∧Below B w w':=by
 have hbA:Below w.heap.size w ((w.alloc (.cells (hoL H s).toArray 39)).alloc (.cells Z10.toArray 39)):=((bW _ _).alloc (nR _) _).alloc (by simp) _
 have HA:Hid (blk ((w.alloc (.cells (hoL H s).toArray 39)).alloc (.cells Z10.toArray 39)) (w.heap.size+1) Z10 39):=by show blk _ _ _ _;simpa using blk.new (w.alloc (.cells (hoL H s).toArray 39)) Z10 39
 have HG:Hid (g4<w.heap.size∧B≤w.heap.size):=⟨by obtain⟨rs,ho,_⟩:=hQ;exact ho.lt.2,hB⟩
 have HC:Hid (∀ W,Below w.heap.size w W→Calls Tp 151 #[aG (hoL H s).toArray,I J x,I J y,I J z,frV false 0 false 0 none 0 0] W fun o w'=>_):=fun W hW=>l3post_q W H s B (min T w.heap.size) g4 (ev3 x y z) none 0 0 ha (by obtain⟨rs,ho,h1,h2,h3,h4⟩:=hQ;exact⟨rs,ho.kept (fun b _ h=>hW.block b h) hW.size,h1,h2,by have:=ho.lt;omega,fun p hp=>by have:=h4 p hp;have:=(ho.dat p hp).2.2.2;omega⟩) (nT hB hW.size) hn hlo ⟨rfl,nR _,fun q hq=>(by cases hq),fun h=>absurd rfl h⟩ (by omega)
 have HB:Hid (Below w.heap.size w ((w.alloc (.cells (hoL H s).toArray 39)).alloc (.cells Z10.toArray 39))):=hbA
 have HP:Hid (blk ((w.alloc (.cells (hoL H s).toArray 39)).alloc (.cells Z10.toArray 39)) w.heap.size (hoL H s) 39):=(blk.new w (hoL H s) 39).alloc _
 clear hQ hB hn hlo ha hbA;go_enter Tryz.func137,Tryz.ntmps137
 go_wp2_with (first | (refine lq39 HP.out.load ?_))
 refine (HC.out _ HB.out).mono ?_
 rintro o w1 ⟨g',n',k',rfl,q1,q2,q3⟩;have HR:Hid (blk w1 (w.heap.size+1) Z10 39):=HA.out.kept (q2 _ (by have:=HG.out.1;omega) HA.out.lt)
 have HQ:Hid ((∀ V:World,(∀ x,B≤x→x<T∧x<w.heap.size∨w.heap.size+2≤x→x<w1.heap.size→V.heap[x]?=w1.heap[x]?)→w1.heap.size≤V.heap.size→rowQ8 B V.heap.size 67 g' n' k' (quP H.c3 H.qu (ev3 x y z)) V)∧(∀ q,q≠g4→q<w.heap.size→w1.heap[q]?=w.heap[q]?)∧Below B w w1):=⟨fun V hV hz=>q1 V (fun x h1 h2 h3=>hV x h1 (by simp at h2;omega) h3) hz,fun q h1 h2=>(q2 q h1 (nL h2 HB.out.size)).trans (HB.out.block q h2),(HB.out.mono HG.out.2).trans q3⟩
 clear q1 q2 q3 HA HC HB;go_wp2_with (first
  | (refine sq39 HR.out ?_;generalize hW8:World.setCells _ (w.heap.size+1) 0 _=w8;have HW8:Hid (World.setCells w1 (w.heap.size+1) 0 (hoL (pH H (ev3 x y z)) (qSl s g' n' k'))=w8):=hW8;clear hW8))
 have e8:=HW8.out
 have hF:blk w8 (w.heap.size+1) (hoL (pH H (ev3 x y z)) (qSl s g' n' k')) 39:=e8 ▸ (by simpa using blk.put [] Z10 [] (hoL (pH H (ev3 x y z)) (qSl s g' n' k')) (by simpa using HR.out) rfl)
 refine bC Tryz.results137 (rq39 hF) ?_
 have o8:∀ q,q≠w.heap.size+1→w8.heap[q]?=w1.heap[q]?:=fun q hq=>by rw[← e8];exact sO _ q hq _ _ _
 have z8:w8.heap.size=w1.heap.size:=by rw[← e8];exact sZ ..
 exact⟨g',n',k',rfl,fun V hV hz=>HQ.out.1 V (fun x h1 h2 h3=>(hV x h1 (by omega) (by omega)).trans (o8 x (by omega))) (by omega),fun q h1 h2=>(o8 q (by omega)).trans (HQ.out.2.1 q h1 h2),e8 ▸ sW (by have:=HG.out.2;omega) 0 _ HQ.out.2.2⟩
def fstB (p:R8→Prop) (bx:List R8) (r:Int):Prop:=(∃ (k:Nat) (h:k<bx.length),p bx[k]∧(∀ j (hj:j<bx.length),j<k→¬ p bx[j])∧r=(k:Int))∨((∀ k (h:k<bx.length),¬ p bx[k])∧r = -1)
theorem fstB.ix {p:R8→Prop} [DecidablePred p] {bx:List R8} {r:Int} (h:fstB p bx r):(r = -1∧bx.findIdx (fun b=>decide (p b))=bx.length)∨(r=(bx.findIdx (fun b=>decide (p b)):Int)∧bx.findIdx (fun b=>decide (p b))<bx.length):=by
 rcases h with⟨k,hk,h1,h2,rfl⟩|⟨h1,rfl⟩
 ·right
  have e:bx.findIdx (fun b=>decide (p b))=k:=by
   rw[List.findIdx_eq hk]
   exact⟨by simpa using h1,fun j hj=>by simpa using h2 j (by omega) hj⟩
  rw[e]
  exact⟨rfl,hk⟩
 ·left
  refine⟨rfl,List.findIdx_eq_length.2 fun b hb=>?_⟩
  obtain⟨j,hj,rfl⟩:=List.getElem_of_mem hb
  simpa using h1 j hj
def tagB (t:Int) (b:R8):Prop:=b.x≠0∧b.y=t
theorem l3find_any (w:World) (H:Ho) (s:Sl) (t:Int) (h:isR8s w s.a2 s.n2 s.k2 H.bx) (hn:s.n2≤1000) :
  Calls Tp 203 #[aG (hoL H s).toArray,I J t] w fun o w'=>∃ r:Int,o = rT (I J r)∧fstB (tagB t) H.bx r∧Below w.heap.size w w':=by
 have H0:Hid (obS w H s (w.alloc (.cells (hoL H s).toArray 39))):=⟨blk.new w _ 39,(bW _ _).alloc (nR _) _⟩
 have hcp:=h.cap
 obtain⟨c0,c1,c2,c3,fs,bx,ff,qu,lo,st⟩:=H
 obtain⟨a1,n1,k1,a2,n2,k2,a3,n3,k3,a4,n4,k4⟩:=s
 simp only[] at h hcp hn ⊢
 have HL:Hid (n2=bx.length):=h.len
 by_cases hl:bx=[]
 ·subst hl;have hn0:n2=0:=HL.out
  subst hn0;clear h;go_enter Tryz.func203,Tryz.ntmps203
  go_wp2_with fail;go_loopw [5] (fun i wr=>i = I J 0∧obS w ⟨c0,c1,c2,c3,fs,[],ff,qu,lo,st⟩ ⟨a1,n1,k1,a2,0,k2,a3,n3,k3,a4,n4,k4⟩ wr) (fun _ _=>0)
  case atStart=>exact⟨rfl,H0.out⟩
  case round=>
   obtain⟨rfl,hS⟩:=hrel
   have p5:=hS.p.cell 5 _ rfl
   have HS:=hS.b
   go_wp2
   go_ret;exact⟨-1,rfl,Or.inr ⟨fun k hk=>(by cases hk),rfl⟩,HS⟩
 obtain⟨g,off,rfl,hc⟩:=h.cells hl
 have HC:Hid (∀ j (h:j<bx.length),∃ ao m c,at8 w g (off+j*8) bx[j] ao m c):=hc
 clear hc h hl;go_enter Tryz.func203,Tryz.ntmps203
 go_wp2_with fail;go_loopw [5] (fun i wr=>∃ k:Nat,k≤n2∧i = I J (k:Int)∧(∀ j (hj:j<bx.length),j<k→¬ tagB t bx[j])∧obS w ⟨c0,c1,c2,c3,fs,bx,ff,qu,lo,st⟩ ⟨a1,n1,k1,some ⟨g,off,none⟩,n2,k2,a3,n3,k3,a4,n4,k4⟩ wr) (fun i _=>n2-(intOf i).toNat)
 case atStart=>exact⟨0,nZ _,rfl,fun j _ h=>absurd h (nN _),H0.out⟩
 case round=>
  obtain⟨k,hk,rfl,hA,hS⟩:=hrel
  have HA:Hid (∀ j (hj:j<bx.length),j<k→¬ tagB t bx[j]):=hA
  have HS:Hid (obS w ⟨c0,c1,c2,c3,fs,bx,ff,qu,lo,st⟩ ⟨a1,n1,k1,some ⟨g,off,none⟩,n2,k2,a3,n3,k3,a4,n4,k4⟩ wr):=hS
  have x5:=hS.p.cell 5 _ rfl
  clear hA hS;by_cases hlt:k<n2
  ·have hkl:k<bx.length:=by have:=HL.out;omega
   obtain⟨ao,m,c,hx⟩:=HC.out k hkl
   have u0:=(hx.below HS.out.b).c0
   have u1:=(hx.below HS.out.b).c1
   clear hx;have HON:Hid (tagB t bx[k]↔(bx[k].x≠0∧bx[k].y=t)):=Iff.rfl
   generalize bx[k].x=x at *;generalize bx[k].y=y at *;by_cases h2:x=0
   ·subst h2;go_wp2_with fail;go_roundw
    case rel=>
     refine⟨k+1,by omega,by go_num,fun j hj hjk=>?_,HS.out⟩
     by_cases e:j=k
     ·subst e;intro hh;exact (HON.out.1 hh).1 rfl
     ·exact HA.out j hj (by omega)
    case measure=>simp[intOf];omega
   ·have h2':(x == 0)=false:=by simpa using h2
    by_cases h3:y=t
    ·subst h3;go_wp2_with fail;go_ret;exact⟨k,rfl,Or.inl ⟨k,hkl,HON.out.2 ⟨h2,by simp⟩,HA.out,rfl⟩,HS.out.b⟩
    ·have h3':(y == t)=false:=by simpa using h3
     go_wp2_with fail;go_roundw
     case rel=>
      refine⟨k+1,by omega,by go_num,fun j hj hjk=>?_,HS.out⟩
      by_cases e:j=k
      ·subst e;intro hh;exact h3 (HON.out.1 hh).2
      ·exact HA.out j hj (by omega)
     case measure=>simp[intOf];omega
  ·have hkn:n2=k:=by omega
   subst hkn;go_wp2_with fail;go_ret;exact⟨-1,rfl,Or.inr ⟨fun j hj=>HA.out j hj (by have:=HL.out;omega),rfl⟩,HS.out.b⟩
theorem rowQ8.F {B T E g n k:Nat} {bs:List R8} {W:World} (h:rowQ8 B T E g n k bs W):B≤g∧g<T∧rowF W g (n*8):=by
 obtain⟨rs,h2,_,h4,h5,_⟩:=h
 refine⟨h2.lt.1,h5,?_⟩
 rcases ownsRow_split h2.own with⟨e,_⟩|⟨g',cap,e,_,_,_,hr,_⟩
 ·cases e
 ·injection e with e1 e2 e3
  injection e1 with e1
  injection e1 with e1
  subst e1;rw[h4] at hr
  exact hr
variable {H T:Ho} {i:Int}
abbrev zHo:Ho:=⟨0,0,0,0,[],[],[],[],0,0⟩
abbrev zSl:Sl:=⟨none,0,0,none,0,0,none,0,0,none,0,0⟩
theorem zHo_is (W:World):isHo W zHo zSl:=⟨⟨rfl,nR _,fun e=>absurd rfl e⟩,⟨rfl,nR _,fun e=>absurd rfl e⟩,⟨rfl,nR _,fun e=>absurd rfl e⟩,⟨rfl,nR _,fun e=>absurd rfl e⟩⟩
def takeRel (H:Ho) (i:Int) (T:Ho):Prop:=(okHo H∧T=takeHo H i)∨(¬ okHo H∧T=zHo)
theorem takeRel.yes (h:takeRel H i T) (hok:okHo H):T=takeHo H i:=by
 rcases h with⟨_,e⟩|⟨h,_⟩
 ·exact e
 ·exact absurd hok h
theorem takeRel.no (h:takeRel H i T) (hok:¬ okHo H):T=zHo:=by
 rcases h with⟨h,_⟩|⟨_,e⟩
 ·exact absurd h hok
 ·exact e
theorem okHo.pos (h:okHo H):1≤H.bx.length:=by
 have h1:=of_decide_eq_true h.cf
 have h2:=h.nb
 omega
theorem okL (W:World) (H:Ho) (s:Sl) (h:isHo W H s) (hn:H.le 1048576) (hok:okHo H):Calls Tp 66 #[aG (hoL H s).toArray] W fun o w'=>o = rT (bO true)∧Below W.heap.size W w':=(l3ok_any W H s h hn).mono (by rintro o w' ⟨⟨b,rfl,hb⟩,h2⟩;rw[hb.2 hok];exact⟨rfl,h2⟩)
theorem badL (W:World) (H:Ho) (s:Sl) (h:isHo W H s) (hn:H.le 1048576) (hok:¬ okHo H):Calls Tp 66 #[aG (hoL H s).toArray] W fun o w'=>o = rT (bO false)∧Below W.heap.size W w':=(l3ok_any W H s h hn).mono (by rintro o w' ⟨⟨b,rfl,hb⟩,h2⟩;cases b;exact⟨rfl,h2⟩;exact absurd (hb.1 rfl) hok)
theorem zHo_L:hoL zHo zSl=zX:=rfl
variable {W W':World} {B n g T k T0 T1 T2 E:Nat} {bx bs:List R8} {hs:Nat→Hd} {H:Ho} {s:Sl}
abbrev z8:R8:=⟨0,0,0,false,0,false,0,[]⟩
structure bxR (B T g n k:Nat) (bx:List R8) (hs:Nat→Hd) (W:World):Prop where
 len:n=bx.length
 cap:n≤k
 lo:B≤g
 hi:g<T
 row:rowF W g (n*8)
 rng:∀ j (h:j<bx.length),W.rangeAt g (j*8) (x8 (bx[j],hs j))
 dat:∀ j (h:j<bx.length),iB W (hs j).1 (hs j).2.1 (hs j).2.2 bx[j].l∧(((hs j).1=none∧(hs j).2.1=0)∨∃ b,(hs j).1=some ⟨b,0,none⟩∧B≤b∧b<T∧b≠g)
theorem iB.none0 {a:Option Addr} {c:Nat} {l:List Nat} (h:iB W a n c l) (hn:n=0):iB W' a n c l:=⟨h.len,h.cap,h.small,fun hne=>absurd (List.length_pos_iff.2 hne) (by have:=h.len;omega)⟩
theorem bxR.st (h:bxR B T g n k bx hs W) (he:∀ x,B≤x→x<T→W'.heap[x]?=W.heap[x]?):bxR B T g n k bx hs W':=
 ⟨h.len,h.cap,h.lo,h.hi,h.row.up (he g h.lo h.hi),fun j hj=>rangeAt.up (h.rng j hj) (he g h.lo h.hi),fun j hj=>by
  obtain⟨h1,h2⟩:=h.dat j hj
  refine⟨?_,h2⟩
  rcases h2 with⟨e1,e2⟩|⟨b,e1,e2,e3,_⟩
  ·exact h1.none0 e2
  ·rw[e1] at h1 ⊢
   exact h1.other (he b e2 e3)⟩
theorem x8_at8 {o:Nat} {b:R8} {h:Hd} (hr:W.rangeAt g o (x8 (b,h))) (hd:iB W h.1 h.2.1 h.2.2 b.l):at8 W g o b h.1 h.2.1 h.2.2:=
 ⟨hr 0 _ rfl,hr 1 _ rfl,hr 2 _ rfl,hr 3 _ rfl,hr 4 _ rfl,hr 5 _ rfl,hr 6 _ rfl,hr 7 _ rfl,hd⟩
theorem bxR.is (h:bxR B T g n k bx hs W):isR8s W (some ⟨g,0,none⟩) n k bx:=
 ⟨h.len,h.cap,fun _=>⟨g,0,rfl,fun j hj=>⟨_,_,_,by rw[Nat.zero_add];exact x8_at8 (h.rng j hj) (h.dat j hj).1⟩⟩⟩
theorem rowQ8.bxR (h:rowQ8 B T E g n k bx W):∃ hs,bxR B T g n k bx hs W:=by
 have hi:=h.is
 obtain⟨rs,h2,h3,h4,h5,h6⟩:=h
 have hl:=h2.lt
 obtain⟨g1,c1,e1,q1,q2,q3,q4⟩:=own_slice h2.own (by intro e;cases e)
 rcases ownsRow_split h2.own with⟨e,_⟩|⟨g2,c2,e2,_,_,_,hrf,hrg⟩
 ·cases e
 cases e2
 subst h3;refine⟨fun j=>(rs.map fun p=>((some ⟨p.2.1,0,none⟩,p.1.l.length,p.2.2):Hd)).getD j (none,0,0),⟨hi.len,hi.cap,hl.1,h5,by rw[← h4];exact hrf,fun j hj=>?_,fun j hj=>?_⟩⟩
 ·have hj':j<rs.length:=by simpa using hj
  have e:x8 ((rs.map (·.1))[j],(rs.map fun p=>((some ⟨p.2.1,0,none⟩,p.1.l.length,p.2.2):Hd)).getD j (none,0,0))=rc8.enc rs[j]:=by
   simp[x8,rc8,List.getD,hj']
  rw[e]
  intro t u hu;have ht:t<8:=by have:=(List.getElem?_eq_some_iff.mp hu).1;simpa[rc8] using this
  have:=hrg (j*8+t) u (by rw[flat_at rc8.enc 8 (fun _=>rfl) rs j hj' t ht];exact hu)
  rw[Nat.zero_add] at this
  exact this
 ·have hj':j<rs.length:=by simpa using hj
  have hm:=List.getElem_mem hj'
  obtain⟨d1,d2,d3,d4⟩:=h2.dat rs[j] hm
  simp only[List.getElem_map,List.getD,List.getElem?_map,List.getElem?_eq_getElem hj',Option.map_some,Option.getD_some]
  exact⟨d1,Or.inr ⟨_,rfl,d2,h6 _ hm,d3⟩⟩
theorem bxR.put (h:bxR B T g n k bx hs W) (i:Nat) (hi:i<bx.length) (b:R8) (hd:Hd) (hb:iB W hd.1 hd.2.1 hd.2.2 b.l) (hw:(hd.1=none∧hd.2.1=0)∨∃ b,hd.1=some ⟨b,0,none⟩∧B≤b∧b<T∧b≠g):bxR B T g n k (bx.set i b) (fun j=>if j=i then hd else hs j) (setRow W g (i*8) (x8 (b,hd))):=by
 have hln:=h.len
 have oth:∀ x,x≠g→(setRow W g (i*8) (x8 (b,hd))).heap[x]?=W.heap[x]?:=fun x hx=>setRow_block g x hx _ _ _
 have dk:∀ (hd':Hd) (l:List Nat),iB W hd'.1 hd'.2.1 hd'.2.2 l→((hd'.1=none∧hd'.2.1=0)∨∃ b,hd'.1=some ⟨b,0,none⟩∧B≤b∧b<T∧b≠g)→iB (setRow W g (i*8) (x8 (b,hd))) hd'.1 hd'.2.1 hd'.2.2 l:=by
  intro hd' l h1 h2;rcases h2 with⟨e1,e2⟩|⟨c,e1,e2,e3,e4⟩
  ·exact h1.none0 e2
  ·rw[e1] at h1 ⊢
   exact h1.other (oth c e4)
 refine⟨by rw[List.length_set];exact h.len,h.cap,h.lo,h.hi,h.row.setRow _ _ _ _,fun j hj=>?_,fun j hj=>?_⟩
 ·have hj':j<bx.length:=by simpa using hj
  by_cases e:j=i
  ·subst e;rw[List.getElem_set_self,if_pos rfl]
   intro t u hu;have ht:t<(x8 (b,hd)).length:=(List.getElem?_eq_some_iff.mp hu).1
   have ht8:t<8:=by simpa[x8] using ht
   rw[setRow_at g _ _ _ t ht ((h.row (j*8+t) (by omega)).1)]
   rw[List.getElem?_eq_getElem ht] at hu
   exact hu
  ·rw[List.getElem_set_ne (fun x=>e x.symm),if_neg e]
   intro t u hu;have ht:t<8:=by have:=(List.getElem?_eq_some_iff.mp hu).1;simpa[x8] using this
   rw[rO g _ _ _ _ (by simp[x8];omega)]
   exact h.rng j hj' t u hu
 ·have hj':j<bx.length:=by simpa using hj
  by_cases e:j=i
  ·subst e;rw[List.getElem_set_self,if_pos rfl]
   exact⟨dk hd b.l hb hw,hw⟩
  ·rw[List.getElem_set_ne (fun x=>e x.symm),if_neg e]
   exact⟨dk _ _ (h.dat j hj').1 (h.dat j hj').2,(h.dat j hj').2⟩
theorem bxR.there (h:bxR B T g n k bx hs W) (i:Nat) (hi:i<bx.length):W.there g (i*8) 8:=fun j hj=>by
 obtain⟨⟨v,hv⟩,hf⟩:=h.row (i*8+j) (by have:=h.len;omega)
 exact⟨by rw[hv];rfl,hf⟩
theorem bxR.setX (h:bxR B T g n k bx hs W) (i:Nat) (hi:i<bx.length) (v:Int):bxR B T g n k (bx.set i { bx[i] with x:=v }) hs (W.setCell ⟨g,i*8,none⟩ (I J v)):=by
 have oth:∀ x,x≠g→(W.setCell ⟨g,i*8,none⟩ (I J v)).heap[x]?=W.heap[x]?:=fun x hx=>heap_setCell_other W ⟨g,i*8,none⟩ x _ hx
 refine⟨by rw[List.length_set];exact h.len,h.cap,h.lo,h.hi,h.row.setCell _ _,fun j hj=>?_,fun j hj=>?_⟩
 ·have hj':j<bx.length:=by simpa using hj
  have ot:∀ t,j*8+t≠i*8→(W.setCell ⟨g,i*8,none⟩ (I J v)).cell? ⟨g,j*8+t,none⟩=W.cell? ⟨g,j*8+t,none⟩:=fun t ht=>World.cell?_setCell_other _ _ _ _ (by intro e;simp at e <;> omega)
  intro t u hu;have ht:t<8:=by have:=(List.getElem?_eq_some_iff.mp hu).1;simpa[x8] using this
  by_cases e:j=i
  ·subst e;rw[List.getElem_set_self] at hu
   by_cases et:t=0
   ·subst et;have e0:u = I J v:=by simpa[x8] using hu.symm
    subst e0;obtain⟨⟨w0,hw0⟩,_⟩:=h.row (j*8) (by have:=h.len;omega)
    exact World.cell?_setCell_same _ _ _ hw0
   ·rw[ot t (by omega)]
    refine h.rng j hj' t u ?_
    rw[← hu]
    match t,ht,et with
    | 1,_,_ | 2,_,_ | 3,_,_ | 4,_,_ | 5,_,_ | 6,_,_ | 7,_,_=>rfl
  ·rw[List.getElem_set_ne (fun x=>e x.symm)] at hu
   rw[ot t (by omega)]
   exact h.rng j hj' t u hu
 ·have hj':j<bx.length:=by simpa using hj
  have e:(bx.set i { bx[i] with x:=v })[j].l=bx[j].l:=by
   by_cases e:j=i
   ·subst e;rw[List.getElem_set_self]
   ·rw[List.getElem_set_ne (fun x=>e x.symm)]
  rw[e]
  obtain⟨h1,h2⟩:=h.dat j hj'
  refine⟨?_,h2⟩
  rcases h2 with⟨e1,e2⟩|⟨b,e1,e2,e3,e4⟩
  ·exact h1.none0 e2
  ·rw[e1] at h1 ⊢
   exact h1.other (oth b e4)
structure spS (B T0 T1 T2:Nat) (H:Ho) (s:Sl) (W:World):Prop where
 f:∃ gf,s.a1=some ⟨gf,0,none⟩∧B≤gf∧gf<T0∧isR3s W (some ⟨gf,0,none⟩) s.n1 s.k1 H.fs
 x:∃ gb hs,s.a2=some ⟨gb,0,none⟩∧bxR T0 T1 gb s.n2 s.k2 H.bx hs W
 r:∃ gq,s.a3=some ⟨gq,0,none⟩∧rowQ5 T1 T2 55 gq s.n3 s.k3 H.ff W
 q:∃ g4,s.a4=some ⟨g4,0,none⟩∧rowQ8 T2 W.heap.size 67 g4 s.n4 s.k4 H.qu W
 o:B≤T0∧T0≤T1∧T1≤T2∧T2≤W.heap.size
theorem spS.is (h:spS B T0 T1 T2 H s W):isHo W H s:=by
 obtain⟨gf,e1,_,_,h1⟩:=h.f
 obtain⟨gb,hs,e2,h2⟩:=h.x
 obtain⟨gq,e3,h3⟩:=h.r
 obtain⟨g4,e4,h4⟩:=h.q
 exact⟨by rw[e1];exact h1,by rw[e2];exact h2.is,by rw[e3];exact h3.is,by rw[e4];exact h4.is⟩
theorem rowQ8.mono {T':Nat} (h:rowQ8 B T E g n k bs W) (hT:T≤T'):rowQ8 B T' E g n k bs W:=by
 obtain⟨rs,h1,h2,h3,h4,h5⟩:=h
 exact⟨rs,h1,h2,h3,by omega,fun p hp=>nL (h5 p hp) hT⟩
theorem rowQ8.keep (h:rowQ8 B T E g n k bs W) (he:∀ x,B≤x→x<T→W'.heap[x]?=W.heap[x]?):rowQ8 B T E g n k bs W':=by
 obtain⟨rs,h1,h2,h3,h4,h5⟩:=h
 refine⟨rs,⟨oK h1.own (he g h1.lt.1 h4),fun p hp=>?_⟩,h2,h3,h4,h5⟩
 obtain⟨d1,d2,d3,d4⟩:=h1.dat p hp
 have e:=he _ d2 (h5 p hp)
 refine⟨d1.other e,d2,d3,?_⟩
 rw[Array.getElem?_eq_getElem d4] at e
 exact lt_of_some e
theorem rowQ5.keep {bs:List R5} (h:rowQ5 B T E g n k bs W) (he:∀ x,B≤x→x<T→W'.heap[x]?=W.heap[x]?):rowQ5 B T E g n k bs W':=by
 obtain⟨rs,h1,h2,h3,h4,h5⟩:=h
 refine⟨rs,⟨oK h1.own (he g h1.lt.1 h4),fun p hp=>?_⟩,h2,h3,h4,h5⟩
 obtain⟨d1,d2,d3,d4⟩:=h1.dat p hp
 have e:=he _ d2 (h5 p hp)
 refine⟨d1.other e,d2,d3,?_⟩
 rw[Array.getElem?_eq_getElem d4] at e
 exact lt_of_some e
theorem spS.st (h:spS B T0 T1 T2 H s W) (he:∀ x,B≤x→x<W.heap.size→W'.heap[x]?=W.heap[x]?) (hz:W.heap.size≤W'.heap.size):spS B T0 T1 T2 H s W':=by
 obtain⟨o1,o2,o3,o4⟩:=h.o
 obtain⟨gf,e1,h1a,h1b,h1⟩:=h.f
 obtain⟨gb,hs,e2,h2⟩:=h.x
 obtain⟨gq,e3,h3⟩:=h.r
 obtain⟨g4,e4,h4⟩:=h.q
 exact⟨⟨gf,e1,h1a,h1b,h1.same (he gf h1a (by omega))⟩,⟨gb,hs,e2,h2.st fun x h1 h2=>he x (by omega) (by omega)⟩,⟨gq,e3,h3.keep fun x h1 h2=>he x (by omega) (by omega)⟩,⟨g4,e4,(h4.keep fun x h1 h2=>he x (by omega) h2).mono hz⟩,⟨o1,o2,o3,by omega⟩⟩
theorem spS.below (h:spS B T0 T1 T2 H s W) (hb:Below W.heap.size W W'):spS B T0 T1 T2 H s W':=h.st (fun x _ hx=>hb.block x hx) hb.size
theorem spS.post {V:World} {e:R8} {g' n' k':Nat} (h:spS B T0 T1 T2 H s W) (hq:rowQ8 T2 V.heap.size 67 g' n' k' (quP H.c3 H.qu e) V) (he:∀ q,B≤q→q<T2→V.heap[q]?=W.heap[q]?) (hz:W.heap.size≤V.heap.size):spS B T0 T1 T2 (pH H e) (qSl s g' n' k') V:=by
 obtain⟨o1,o2,o3,o4⟩:=h.o
 obtain⟨gf,e1,h1a,h1b,h1⟩:=h.f
 obtain⟨gb,hs,e2,h2⟩:=h.x
 obtain⟨gq,e3,h3⟩:=h.r
 exact⟨⟨gf,e1,h1a,h1b,h1.same (he gf (by omega) (by omega))⟩,⟨gb,hs,e2,h2.st fun x h1 h2=>he x (by omega) (by omega)⟩,⟨gq,e3,h3.keep fun x h1 h2=>he x (by omega) (by omega)⟩,⟨g',rfl,hq⟩,⟨o1,o2,o3,by omega⟩⟩
theorem spS.box {gb:Nat} (h:spS B T0 T1 T2 H s W) (e2:s.a2=some ⟨gb,0,none⟩) (hx:bxR T0 T1 gb s.n2 s.k2 bx hs W') (he:∀ q,q≠gb→W'.heap[q]?=W.heap[q]?) (hz:W'.heap.size=W.heap.size):spS B T0 T1 T2 { H with bx:=bx } s W':=by
 obtain⟨o1,o2,o3,o4⟩:=h.o
 obtain⟨gf,e1,h1a,h1b,h1⟩:=h.f
 obtain⟨gq,e3,h3⟩:=h.r
 obtain⟨g4,e4,h4⟩:=h.q
 have:=hx.lo
 have:=hx.hi
 refine⟨⟨gf,e1,h1a,h1b,h1.same (he gf (by omega))⟩,⟨gb,hs,e2,hx⟩,⟨gq,e3,h3.keep fun x h1 h2=>he x (by omega)⟩,⟨g4,e4,?_⟩,⟨o1,o2,o3,by omega⟩⟩
 rw[hz]
 exact h4.keep fun x h1 h2=>he x (by omega)
variable {w W w7 w6 w5 W' w8:World} {H:Ho} {B k T1 T0 T2 gb g4 T E g n:Nat} {s:Sl} {L:List Value} {hs:Nat→Hd} {bx bs:List R8}
def onWb (b:R8):Bool:=b.x == 2 || b.x == 3
def wI (bx:List R8):Nat:=bx.findIdx onWb
theorem bsy.ix {r:Int} (h:bsy bx r):(r = -1∧¬ wI bx<bx.length)∨(r=(wI bx:Int)∧wI bx<bx.length):=by
 have e:∀ b,onWb b=true↔onW b:=fun b=>by simp[onWb,onW]
 rcases h with⟨k,hk,h1,h2,rfl⟩|⟨h1,rfl⟩
 ·right
  have e:wI bx=k:=by
   unfold wI
   rw[List.findIdx_eq hk]
   refine⟨(e _).2 h1,fun j hj=>?_⟩
   have:=h2 j (by omega) hj
   rw[← e] at this
   simpa using this
  rw[e]
  exact⟨rfl,hk⟩
 ·left
  refine⟨rfl,?_⟩
  have:wI bx=bx.length:=List.findIdx_eq_length.2 fun b hb=>by
   obtain⟨j,hj,rfl⟩:=List.getElem_of_mem hb
   have:=h1 j hj
   rw[← e] at this
   simpa using this
  omega
theorem wireIx_on (h:wI bx<bx.length):bx[wI bx].x=2∨bx[wI bx].x=3:=by
 have e:onWb (bx[wI bx])=true:=List.findIdx_getElem (xs:=bx) (p:=onWb) (w:=h)
 generalize bx[wI bx]=b at *;simpa[onWb] using e
def freeHo (H:Ho) (k:Nat):Ho:={ H with bx:=H.bx.set k z8 }
def stHo (H:Ho) (k:Nat) (v:Int):Ho:=if h:k<H.bx.length then { H with bx:=H.bx.set k { H.bx[k] with x:=v } } else H
def relHo (H:Ho) (sent:Bool):Ho:=
 if h:wI H.bx<H.bx.length then
  (if sent=true then pH (freeHo H (wI H.bx)) ⟨1,H.bx[wI H.bx].y,0,H.bx[wI H.bx].e,H.bx[wI H.bx].i,H.bx[wI H.bx].r,H.bx[wI H.bx].d,H.bx[wI H.bx].l⟩
   else if H.bx[wI H.bx].x=3 then pH (freeHo H (wI H.bx)) (ev3 6 H.bx[wI H.bx].y 0)
   else stHo H (wI H.bx) 1)
 else H
theorem relHo_none {sent:Bool} (h:¬ wI H.bx<H.bx.length):relHo H sent=H:=by unfold relHo;rw[dif_neg h]
structure reS (w:World) (L:List Value) (W:World):Prop where
 p:blk W w.heap.size L 39
 r:blk W (w.heap.size+1) Z10 39
theorem reS.new (w:World) (L:List Value):reS w L ((w.alloc (.cells L.toArray 39)).alloc (.cells Z10.toArray 39)):=by
 refine⟨(blk.new w _ 39).alloc _,?_⟩
 have:=blk.new (w.alloc (.cells L.toArray 39)) Z10 39
 simpa using this
theorem reS.below (h:reS w L W) (hb:Below W.heap.size W W'):reS w L W':=⟨h.p.below hb,h.r.below hb⟩
theorem reS.kept (h:reS w L W) (hp:W'.heap[w.heap.size]?=W.heap[w.heap.size]?) (hr:W'.heap[w.heap.size+1]?=W.heap[w.heap.size+1]?):reS w L W':=⟨h.p.kept hp,h.r.kept hr⟩
theorem new_box (L:List Value) (hL:L.length=8):blk (World.setCells (w.alloc (.cells [I J 0,I J 0,I J 0,bO false,I .u32 0,bO false,I J 0,sL none 0 0].toArray 166)) w.heap.size 0 L) w.heap.size L 166∧Below w.heap.size w (World.setCells (w.alloc (.cells [I J 0,I J 0,I J 0,bO false,I .u32 0,bO false,I J 0,sL none 0 0].toArray 166)) w.heap.size 0 L):=by
 refine⟨?_,sW (nR _) _ _ ((bW _ _).alloc (nR _) _)⟩
 have:=blk.put [] [I J 0,I J 0,I J 0,bO false,I .u32 0,bO false,I J 0,sL none 0 0] [] L (w:=w.alloc (.cells [I J 0,I J 0,I J 0,bO false,I .u32 0,bO false,I J 0,sL none 0 0].toArray 166)) (b:=w.heap.size) (T:=166) (blk.new w _ 166) hL.symm
 simpa using this
abbrev Z8:List Value:=[I J 0,I J 0,I J 0,bO false,I .u32 0,bO false,I J 0,sL none 0 0]
theorem sp_end {ev:R8} {g' n' k':Nat} (hS:spS B T0 T1 T2 H s w7) (hT2:T2≤w.heap.size) (hg4:T2≤g4) (hz:w.heap.size+1<w7.heap.size)
  (hV:∀ V:World,(∀ x,T2≤x→x<w.heap.size∨w7.heap.size≤x→x<w8.heap.size→V.heap[x]?=w8.heap[x]?)→w8.heap.size≤V.heap.size→rowQ8 T2 V.heap.size 67 g' n' k' (quP H.c3 H.qu ev) V)
  (he:∀ q,q≠g4→q<w7.heap.size→w8.heap[q]?=w7.heap[q]?) (hb:w7.heap.size≤w8.heap.size) (L:List Value):spS B T0 T1 T2 (pH H ev) (qSl s g' n' k') (w8.setCells (w.heap.size+1) 0 L):=by
 have oth:∀ x,x≠w.heap.size+1→(w8.setCells (w.heap.size+1) 0 L).heap[x]?=w8.heap[x]?:=fun x hx=>sO _ x hx _ _ _
 have hsz:(w8.setCells (w.heap.size+1) 0 L).heap.size=w8.heap.size:=sZ ..
 have ho:=hS.o
 refine hS.post (hV _ (fun x h1 h2 h3=>oth x (by omega)) (by omega)) (fun q h1 h2=>?_) (by omega)
 rw[oth q (by omega)]
 exact he q (by omega) (by omega)
theorem rowQ8.glt (h:rowQ8 B T E g n k bs W):B≤g:=by
 obtain⟨rs,h1,_⟩:=h
 exact h1.lt.1
theorem none8 (W:World):iB W none 0 0 []:=⟨rfl,nR _,fun q hq=>(by cases hq),fun h=>absurd rfl h⟩
theorem sp_free (hS:spS B T0 T1 T2 H s w6) (e2:s.a2=some ⟨gb,0,none⟩) (hx:bxR T0 T1 gb s.n2 s.k2 H.bx hs w6) (hk:k<H.bx.length) (e7:w6.setCells gb (k*8) Z8=w7) (hb:Below B w w6):spS B T0 T1 T2 (freeHo H k) s w7∧Below B w w7:=by
 have e:w6.setCells gb (k*8) Z8=setRow w6 gb (k*8) (x8 (z8,(none,0,0))):=setCells_row ..
 have hput:=hx.put k hk z8 (none,0,0) (none8 _) (Or.inl ⟨rfl,rfl⟩)
 rw[← e,e7] at hput
 refine⟨hS.box e2 hput (fun q hq=>?_) ?_,?_⟩
 ·rw[← e7];exact sO _ q hq _ _ _
 ·rw[← e7];exact sZ ..
 ·rw[← e7];exact sW (by have:=hx.lo;have:=hS.o;omega) _ _ hb
theorem rowQ8.ghi (h:rowQ8 B T E g n k bs W):g<T:=by
 obtain⟨rs,h1,_,_,h2,_⟩:=h
 exact h2
theorem sp_free2 {ao:Option Addr} {m c:Nat} {l:List Nat} (h0:spS B T0 T1 T2 H s w) (h5:spS B T0 T1 T2 H s w5) (b5:Below w.heap.size w w5) (b6:Below w5.heap.size w5 w6) (e2:s.a2=some ⟨gb,0,none⟩∧s.a4=some ⟨g4,0,none⟩) (hx:bxR T0 T1 gb s.n2 s.k2 H.bx hs w6) (hk:k<H.bx.length) (e7:w6.setCells gb (k*8) Z8=w7) (hq:rowQ8 T2 w.heap.size 67 g4 s.n4 s.k4 H.qu w) (hd:iB w5 ao m c l) (hw:(ao=none∧m=0)∨∃ b,ao=some ⟨b,0,none⟩∧T0≤b∧b<T1∧b≠gb) (hz:w.heap.size<w5.heap.size∧w.heap.size+1<w5.heap.size):spS B T0 T1 T2 (freeHo H k) s w7∧iB w7 ao m c l∧Below B w w7∧rowQ8 T2 w.heap.size 67 g4 s.n4 s.k4 H.qu w7∧w.heap.size+1<w7.heap.size∧g4<w.heap.size:=by
 have ho:=h0.o
 have hf:=sp_free (h5.below b6) e2.1 hx hk e7 ((b5.mono (by omega)).trans (b6.mono (by omega)))
 have hxl:=hx.lo
 have hxh:=hx.hi
 have oth:∀ x,x≠gb→w7.heap[x]?=w6.heap[x]?:=fun x hx=>by rw[← e7];exact sO _ x hx _ _ _
 have hs7:w7.heap.size=w6.heap.size:=by rw[← e7];exact sZ ..
 have:=b6.size
 refine⟨hf.1,?_,hf.2,hq.keep fun x h1 h2=>(oth x (by omega)).trans ((b6.block x (by omega)).trans (b5.block x h2)),by omega,hq.ghi⟩
 rcases hw with⟨d1,d2⟩|⟨d,d1,d2,d3,d4⟩
 ·exact hd.none0 d2
 ·subst d1;exact hd.other ((oth d d4).trans (b6.block d (by omega)))
theorem stHo_L (H:Ho) (k:Nat) (v:Int) (s:Sl):hoL (stHo H k v) s=hoL H s:=by
 unfold stHo
 split <;> rfl
theorem stHo_yes (hk:k<H.bx.length) (v:Int):stHo H k v = { H with bx:=H.bx.set k { H.bx[k] with x:=v } }:=by
 unfold stHo
 rw[dif_pos hk]
theorem sp_state {w9:World} (h0:spS B T0 T1 T2 H s w) (h5:spS B T0 T1 T2 H s w5) (b5:Below w.heap.size w w5) (b6:Below w5.heap.size w5 w6) (e2:s.a2=some ⟨gb,0,none⟩) (hx:bxR T0 T1 gb s.n2 s.k2 H.bx hs w6) (hk:k<H.bx.length) (v:Int) (hz:w.heap.size<w5.heap.size∧w.heap.size+1<w5.heap.size) {L:List Value} (e9:(w6.setCell ⟨gb,k*8,none⟩ (I J v)).setCells (w.heap.size+1) 0 L=w9):spS B T0 T1 T2 (stHo H k v) s w9:=by
 have ho:=h0.o
 have hxl:=hx.lo
 have hxh:=hx.hi
 have hz9:w9.heap.size=w6.heap.size:=by rw[← e9,sZ];simp
 have hz6:=b6.size
 have o9:∀ x,x≠w.heap.size+1→w9.heap[x]?=(w6.setCell ⟨gb,k*8,none⟩ (I J v)).heap[x]?:=fun x hx=>by rw[← e9];exact sO _ x hx _ _ _
 have o7:∀ x,x≠gb→(w6.setCell ⟨gb,k*8,none⟩ (I J v)).heap[x]?=w6.heap[x]?:=fun x hx=>heap_setCell_other w6 ⟨gb,k*8,none⟩ x _ hx
 have k9:∀ x,x≠gb→x<w.heap.size→w9.heap[x]?=w.heap[x]?:=fun x h1 h2=>(o9 x (by omega)).trans ((o7 x h1).trans ((b6.block x (by omega)).trans (b5.block x h2)))
 rw[stHo_yes hk]
 obtain⟨gf,e1,h1a,h1b,h1⟩:=h0.f
 obtain⟨gq,e3,h3⟩:=h0.r
 obtain⟨g4,e4,h4⟩:=h0.q
 refine⟨⟨gf,e1,h1a,h1b,h1.same (k9 gf (by omega) (by omega))⟩,⟨gb,hs,e2,(hx.setX k hk v).st fun x h1 h2=>o9 x (by omega)⟩,⟨gq,e3,h3.keep fun x h1 h2=>k9 x (by omega) (by omega)⟩,⟨g4,e4,?_⟩,⟨ho.1,ho.2.1,ho.2.2.1,by omega⟩⟩
 exact (h4.keep fun x h1 h2=>k9 x (by omega) h2).mono (by omega)
theorem fr8 {o:Nat} {a4:Option Addr} (b5:Below w.heap.size w w5) (b6:Below w5.heap.size w5 w6) (e7:w6.setCells gb o L=w7) (h8:∀ q,q≠g4→q<w7.heap.size→w8.heap[q]?=w7.heap[q]?) (hg:gb<T1) (ha:a4=some ⟨g4,0,none⟩):∀ q,T1≤q→q<w.heap.size→a4≠some ⟨q,0,none⟩→w8.heap[q]?=w.heap[q]?:=by
 intro q h1 h2 h3;have hz5:=b5.size
 have hz6:=b6.size
 have hz7:w7.heap.size=w6.heap.size:=by rw[← e7];exact sZ ..
 have e:w7.heap[q]?=w6.heap[q]?:=by rw[← e7];exact sO _ q (by omega) _ _ _
 have hq:q≠g4:=fun x=>h3 (by rw[ha,x])
 exact (h8 q hq (by omega)).trans (e.trans ((b6.block q (by omega)).trans (b5.block q h2)))
theorem l3doRelease_fr (B T0 T1 T2:Nat) (w:World) (H:Ho) (s:Sl) (sent:Bool) (h:spS B T0 T1 T2 H s w) (hn2:s.n2≤1000) (hn4:s.n4≤1000) (hlo:0≤H.lo∧H.lo≤100000) (hsm:∀ j (h:j<H.bx.length),H.bx[j].l.length≤1048576) :
  Calls Tp 102 #[aG (hoL H s).toArray,bO sent] w fun o w'=>∃ s',o = rT (aG (hoL (relHo H sent) s').toArray)∧spS B T0 T1 T2 (relHo H sent) s' w'∧Below B w w'∧(∀ q,T1≤q→q<w.heap.size→s.a4≠some ⟨q,0,none⟩→w'.heap[q]?=w.heap[q]?):=by
 have H0:Hid (reS w (hoL H s) ((w.alloc (.cells (hoL H s).toArray 39)).alloc (.cells zX.toArray 39))):=reS.new w _
 have HB0:Hid (Below w.heap.size w ((w.alloc (.cells (hoL H s).toArray 39)).alloc (.cells zX.toArray 39))):=((bW _ _).alloc (nR _) _).alloc (by simp) _
 have HBS:Hid (∀ W,Below w.heap.size w W→Calls Tp 76 #[aG (hoL H s).toArray] W fun o w'=>∃ r:Int,o = rT (I J r)∧bsy H.bx r∧Below W.heap.size W w'):=fun W hW=>l3busy_any W H s (h.below hW).is.bx hn2
 have HS0:Hid (spS B T0 T1 T2 H s w):=h
 have HSM:Hid (∀ j (h:j<H.bx.length),H.bx[j].l.length≤1048576):=hsm
 clear h hsm;go_enter Tryz.func102,Tryz.ntmps102
 go_wp2_with (first
  | (refine lq39 H0.out.p.load ?_))
 refine (HBS.out _ HB0.out).mono ?_
 rintro o w5 ⟨r,rfl,hr,hb5⟩;have H5:Hid (reS w (hoL H s) w5):=H0.out.below hb5
 have HB5:Hid (Below w.heap.size w w5):=HB0.out.trans (hb5.mono HB0.out.size)
 have HS5:Hid (spS B T0 T1 T2 H s w5):=HS0.out.below HB5.out
 have hR:=hr.ix
 clear hr hb5 H0 HB0;have HZ0:Hid (B≤w.heap.size):=by have:=HS0.out.o;show _≤_;omega
 rcases hR with⟨rfl,hno⟩|⟨rfl,hk⟩
 ·have HT:Hid (relHo H sent=H):=relHo_none hno
  go_wp2_with (first
  | (refine lq39 H5.out.p.load ?_)
  | (refine sq39 H5.out.r ?_;generalize hW8:World.setCells _ (w.heap.size+1) 0 _=w8;have HW8:Hid (_=w8):=hW8;clear hW8))
  have e8:=HW8.out
  have hF:blk w8 (w.heap.size+1) (hoL H s) 39:=by
   rw[← e8]
   have:=blk.put [] Z10 [] (hoL H s) (w:=w5) (b:=w.heap.size+1) (T:=39) (by simpa using H5.out.r) (by rw[hoL_len];rfl)
   simpa using this
  have hL:=rq39 hF
  refine bC Tryz.results102 hL ?_
  rw[HT.out]
  have b8:Below w.heap.size w w8:=by
   rw[← e8]
   exact sW (by omega) 0 _ HB5.out
  exact⟨s,rfl,HS0.out.below b8,b8.mono HZ0.out,fun q _ h2 _=>b8.block q h2⟩
 ·obtain⟨gb,hs0,e2,hx⟩:=HS5.out.x
  obtain⟨g4,e4,hq4⟩:=HS5.out.q
  have hw5:(H.bx[wI H.bx]'hk).x=2∨(H.bx[wI H.bx]'hk).x=3:=wireIx_on hk
  have HRL:Hid (relHo H sent=if sent=true then pH (freeHo H (wI H.bx)) ⟨1,H.bx[wI H.bx].y,0,H.bx[wI H.bx].e,H.bx[wI H.bx].i,H.bx[wI H.bx].r,H.bx[wI H.bx].d,H.bx[wI H.bx].l⟩ else if H.bx[wI H.bx].x=3 then pH (freeHo H (wI H.bx)) (ev3 6 H.bx[wI H.bx].y 0) else stHo H (wI H.bx) 1):=by
   show relHo H sent=_
   unfold relHo
   rw[dif_pos hk]
  generalize wI H.bx=k at *;have x5:w5.cell? ⟨w.heap.size,5,none⟩=some (sL (some ⟨gb,0,none⟩) s.n2 s.k2):=by
   rw[← e2]
   exact H5.out.p.cell 5 _ (by unfold hoL;rfl)
  have hcp:=hx.cap
  have hkn:k<s.n2:=by have:=hx.len;omega
  have HX:Hid (bxR T0 T1 gb s.n2 s.k2 H.bx hs0 w5):=hx
  have HE:Hid (s.a2=some ⟨gb,0,none⟩∧s.a4=some ⟨g4,0,none⟩):=⟨e2,e4⟩
  have HRG:Hid (w5.rangeAt gb (k*8) (x8 (H.bx[k],hs0 k))):=hx.rng k hk
  have HDT:Hid (iB w5 (hs0 k).1 (hs0 k).2.1 (hs0 k).2.2 H.bx[k].l):=(hx.dat k hk).1
  have HDW:Hid (((hs0 k).1=none∧(hs0 k).2.1=0)∨∃ b,(hs0 k).1=some ⟨b,0,none⟩∧T0≤b∧b<T1∧b≠gb):=(hx.dat k hk).2
  have HMM:Hid ((hs0 k).2.1≤1048576):=by
   have:=(hx.dat k hk).1.len
   have:=HSM.out k hk
   show _≤_
   omega
  have HGL:Hid (gb<w.heap.size):=by
   obtain⟨gb',hs',e2',hx'⟩:=HS0.out.x
   have:gb'=gb:=by rw[e2] at e2';cases e2';rfl
   subst this;have:=hx'.hi
   have:=HS0.out.o
   show _<_
   omega
  have HQ0:Hid (rowQ8 T2 w.heap.size 67 g4 s.n4 s.k4 H.qu w):=by
   obtain⟨g4',e4',hq'⟩:=HS0.out.q
   have:g4'=g4:=by rw[e4] at e4';cases e4';rfl
   subst this;exact hq'
  clear hx hq4 e2 e4;have HKK:Hid (k<H.bx.length):=hk
  generalize H.bx[k]=bk at *;generalize hs0 k=hk' at *;obtain⟨bX,bY,bZ,bE,bI,bR,bD,bL⟩:=bk
  obtain⟨ao,m,c⟩:=hk'
  simp only[] at HRG HDT HMM HDW HRL hw5
  have HAL:Hid (blk (w5.alloc (.cells [I J 0,I J 0,I J 0,bO false,I .u32 0,bO false,I J 0,sL none 0 0].toArray 166)) w5.heap.size ([]++[I J 0,I J 0,I J 0,bO false,I .u32 0,bO false,I J 0,sL none 0 0]++[]) 166):=blk.new w5 _ 166
  have HN6:Hid (blk (World.setCells (w5.alloc (.cells [I J 0,I J 0,I J 0,bO false,I .u32 0,bO false,I J 0,sL none 0 0].toArray 166)) w5.heap.size 0 [I J bX,I J bY,I J bZ,bO bE,I .u32 (bI:Int),bO bR,I J bD,sL ao m c]) w5.heap.size [I J bX,I J bY,I J bZ,bO bE,I .u32 (bI:Int),bO bR,I J bD,sL ao m c] 166∧Below w5.heap.size w5 (World.setCells (w5.alloc (.cells [I J 0,I J 0,I J 0,bO false,I .u32 0,bO false,I J 0,sL none 0 0].toArray 166)) w5.heap.size 0 [I J bX,I J bY,I J bZ,bO bE,I .u32 (bI:Int),bO bR,I J bD,sL ao m c])):=new_box _ rfl
  have HPL:Hid (w.heap.size<w5.heap.size∧w.heap.size+1<w5.heap.size):=⟨H5.out.p.lt,H5.out.r.lt⟩
  by_cases hs:sent=true
  ·subst hs;go_wp2_with (first
   | (refine lq166 (cs:=[I J bX,I J bY,I J bZ,bO bE,I .u32 (bI:Int),bO bR,I J bD,sL ao m c]) HRG.out ?_)
   | (refine wpList_store_mid (P:=Tp) rfl 166 _ _ rfl w5.heap.size 0 _ rfl rfl (HAL.out.there 0 8 (by simp)) sz95 (one8 _ _ _ _ _ _ _ _ _ _) ?_;generalize hW6:World.setCells (w5.alloc _) w5.heap.size 0 _=w6;have HP6:Hid (blk w6 w5.heap.size [I J bX,I J bY,I J bZ,bO bE,I .u32 (bI:Int),bO bR,I J bD,sL ao m c] 166∧Below w5.heap.size w5 w6):=(by rw[← hW6];exact HN6.out);clear hW6 HN6 HAL;have x6:w6.cell? ⟨w.heap.size,5,none⟩=some (sL (some ⟨gb,0,none⟩) s.n2 s.k2):=(HP6.out.2.cell (by exact HPL.out.1)).trans x5;have HX6:Hid (bxR T0 T1 gb s.n2 s.k2 H.bx hs0 w6):=HX.out.st (fun x _ hx=>HP6.out.2.block x (by have:=HS5.out.o;omega)))
   | (refine wpList_store_mid (P:=Tp) rfl 166 _ _ rfl gb (k*8) [I J 0,I J 0,I J 0,bO false,I .u32 0,bO false,I J 0,sL none 0 0].toArray rfl rfl (HX6.out.there k HKK.out) sz95 (one8 _ _ _ _ _ _ _ _ _ _) ?_;generalize hW7:World.setCells w6 gb (k*8) _=w7;have HW7:Hid (_=w7):=hW7;clear hW7;have oth:∀ x,x≠gb→w7.heap[x]?=w6.heap[x]?:=(fun x hx=>by rw[← HW7.out];exact sO _ x hx _ _ _);have HL7:Hid (reS w (hoL H s) w7∧blk w7 w5.heap.size [I J bX,I J bY,I J bZ,bO bE,I .u32 (bI:Int),bO bR,I J bD,sL ao m c] 166):=⟨(H5.out.below HP6.out.2).kept (oth _ (by have:=HGL.out;omega)) (oth _ (by have:=HGL.out;omega)),HP6.out.1.kept (oth _ (by have:=HGL.out;have:=HPL.out;omega))⟩;have HS7:Hid (spS B T0 T1 T2 (freeHo H k) s w7∧iB w7 ao m c bL∧Below B w w7∧rowQ8 T2 w.heap.size 67 g4 s.n4 s.k4 H.qu w7∧w.heap.size+1<w7.heap.size∧g4<w.heap.size):=sp_free2 HS0.out HS5.out HB5.out HP6.out.2 HE.out HX6.out HKK.out HW7.out HQ0.out HDT.out HDW.out HPL.out;clear oth;have y1:w7.cell? ⟨w5.heap.size,1,none⟩=some (I J bY):=HL7.out.2.cell 1 _ rfl)
   | (refine lq39 HL7.out.1.p.load ?_)
   | (refine lq55 (cs:=[bO bE,I .u32 (bI:Int),bO bR,I J bD,sL ao m c]) (blk.loadAt [I J bX,I J bY,I J bZ] [bO bE,I .u32 (bI:Int),bO bR,I J bD,sL ao m c] [] HL7.out.2) ?_))
   refine (l3post_q w7 (freeHo H k) s T2 w.heap.size g4 ⟨1,bY,0,bE,bI,bR,bD,bL⟩ ao m c HE.out.2 HS7.out.2.2.2.1 HS7.out.1.o.2.2.2 hn4 hlo HS7.out.2.1 HMM.out).mono ?_
   rintro o w8 ⟨g',n',k',rfl,hV,ho8,hb8⟩;have HR8:Hid (blk w8 (w.heap.size+1) Z10 39):=HL7.out.1.r.kept (ho8 _ (by have:=HS7.out.2.2.2.2.2;omega) HS7.out.2.2.2.2.1)
   have HE8:Hid (∀ L:List Value,spS B T0 T1 T2 (pH (freeHo H k) ⟨1,bY,0,bE,bI,bR,bD,bL⟩) (qSl s g' n' k') (w8.setCells (w.heap.size+1) 0 L)):=fun L=>sp_end HS7.out.1 HS0.out.o.2.2.2 HS7.out.2.2.2.1.glt HS7.out.2.2.2.2.1 hV ho8 hb8.size L
   have HB8:Hid (Below B w w8):=HS7.out.2.2.1.trans (hb8.mono (by have:=HS0.out.o;omega))
   have HF8:Hid (∀ q,T1≤q→q<w.heap.size→s.a4≠some ⟨q,0,none⟩→w8.heap[q]?=w.heap[q]?):=fr8 HB5.out HP6.out.2 HW7.out ho8 HX6.out.hi HE.out.2
   clear hV ho8 hb8;go_wp2_with (first
    | (refine sq39 HR8.out ?_;generalize hW9:World.setCells _ (w.heap.size+1) 0 _=w9;have HW9:Hid (_=w9):=hW9;clear hW9))
   have e9:=HW9.out
   have hF:blk w9 (w.heap.size+1) (hoL (pH (freeHo H k) ⟨1,bY,0,bE,bI,bR,bD,bL⟩) (qSl s g' n' k')) 39:=by
    rw[← e9]
    have:=blk.put [] Z10 [] (hoL (pH (freeHo H k) ⟨1,bY,0,bE,bI,bR,bD,bL⟩) (qSl s g' n' k')) (w:=w8) (b:=w.heap.size+1) (T:=39) (by simpa using HR8.out) (by rw[hoL_len];rfl)
    simpa using this
   have hL:=rq39 hF
   refine bC Tryz.results102 hL ?_
   have hrl:relHo H true=pH (freeHo H k) ⟨1,bY,0,bE,bI,bR,bD,bL⟩:=by simpa using HRL.out
   rw[hrl]
   refine⟨_,rfl,?_,?_,?_⟩
   ·rw[← e9];exact HE8.out _
   ·rw[← e9];exact sW (by have:=HZ0.out;omega) 0 _ HB8.out
   ·intro q h1 h2 h3;rw[← e9];exact (sO _ q (by omega) _ _ _).trans (HF8.out q h1 h2 h3)
  ·have hs':sent=false:=by simpa using hs
   subst hs';rcases hw5 with e0|e0
   ·subst e0;have H7:Hid (∀ {w6:World},Below w5.heap.size w5 w6→reS w (hoL H s) (w6.setCell ⟨gb,k*8,none⟩ (I J 1))):=fun {w6} hb=>⟨(H5.out.below hb).p.setOther (by have:=HGL.out;omega) _ _,(H5.out.below hb).r.setOther (by have:=HGL.out;omega) _ _⟩
    go_wp2_with (first
    | (refine lq166 (cs:=[I J 2,I J bY,I J bZ,bO bE,I .u32 (bI:Int),bO bR,I J bD,sL ao m c]) HRG.out ?_)
    | (refine wpList_store_mid (P:=Tp) rfl 166 _ _ rfl w5.heap.size 0 _ rfl rfl (HAL.out.there 0 8 (by simp)) sz95 (one8 _ _ _ _ _ _ _ _ _ _) ?_;generalize hW6:World.setCells (w5.alloc _) w5.heap.size 0 _=w6;have HP6:Hid (blk w6 w5.heap.size [I J 2,I J bY,I J bZ,bO bE,I .u32 (bI:Int),bO bR,I J bD,sL ao m c] 166∧Below w5.heap.size w5 w6):=(by rw[← hW6];exact HN6.out);clear hW6 HN6 HAL;have y60:w6.cell? ⟨w5.heap.size,0,none⟩=some (I J 2):=HP6.out.1.cell 0 _ rfl;have z60:w6.cell? ⟨gb,k*8,none⟩=some (I J 2):=(HP6.out.2.cell (by exact Nat.lt_trans HGL.out HPL.out.1)).trans (HRG.out 0 _ rfl);have f60:w6.frozen? ⟨gb,k*8,none⟩=false:=(by rw[World.frozen?_of_block (HP6.out.2.block gb (Nat.lt_trans HGL.out HPL.out.1))];exact (HX.out.row (k*8) (by omega)).2);have x6:w6.cell? ⟨w.heap.size,5,none⟩=some (sL (some ⟨gb,0,none⟩) s.n2 s.k2):=(HP6.out.2.cell (by exact HPL.out.1)).trans x5;have HX6:Hid (bxR T0 T1 gb s.n2 s.k2 H.bx hs0 w6):=HX.out.st (fun x _ hx=>HP6.out.2.block x (by have:=HS5.out.o;omega)))
    | (refine lq39 (H7.out HP6.out.2).p.load ?_)
    | (refine sq39 ((H7.out HP6.out.2).r) ?_;generalize hW9:World.setCells _ (w.heap.size+1) 0 _=w9;have HW9:Hid (_=w9):=hW9;clear hW9))
    have e9:=HW9.out
    have hF:blk w9 (w.heap.size+1) (hoL H s) 39:=by
     rw[← e9]
     have:=blk.put [] Z10 [] (hoL H s) (w:=w6.setCell ⟨gb,k*8,none⟩ (I J 1)) (b:=w.heap.size+1) (T:=39) (by simpa using (H7.out HP6.out.2).r) (by rw[hoL_len];rfl)
     simpa using this
    have hL:=rq39 hF
    refine bC Tryz.results102 hL ?_
    have hrl:relHo H false=stHo H k 1:=by simpa using HRL.out
    rw[hrl]
    refine⟨s,by rw[stHo_L],?_,?_,?_⟩
    ·exact sp_state HS0.out HS5.out HB5.out HP6.out.2 HE.out.1 HX6.out HKK.out 1 HPL.out e9
    ·rw[← e9];exact sW (by have:=HZ0.out;omega) 0 _ (((HB5.out.mono HZ0.out).trans (HP6.out.2.mono (nT HZ0.out HB5.out.size))).setCell (by have h1:=HX6.out.lo;have h2:=HS0.out.o;show B≤gb;omega) _)
    ·intro q h1 h2 h3;rw[← e9];exact (sO _ q (by omega) _ _ _).trans ((heap_setCell_other w6 ⟨gb,k*8,none⟩ q _ (by have:=HX6.out.hi;show q≠gb;omega)).trans ((HP6.out.2.block q (by have:=HB5.out.size;omega)).trans (HB5.out.block q h2)))
   ·subst e0;go_wp2_with (first
    | (refine lq166 (cs:=[I J 3,I J bY,I J bZ,bO bE,I .u32 (bI:Int),bO bR,I J bD,sL ao m c]) HRG.out ?_)
    | (refine wpList_store_mid (P:=Tp) rfl 166 _ _ rfl w5.heap.size 0 _ rfl rfl (HAL.out.there 0 8 (by simp)) sz95 (one8 _ _ _ _ _ _ _ _ _ _) ?_;generalize hW6:World.setCells (w5.alloc _) w5.heap.size 0 _=w6;have HP6:Hid (blk w6 w5.heap.size [I J 3,I J bY,I J bZ,bO bE,I .u32 (bI:Int),bO bR,I J bD,sL ao m c] 166∧Below w5.heap.size w5 w6):=(by rw[← hW6];exact HN6.out);clear hW6 HN6 HAL;have y60:w6.cell? ⟨w5.heap.size,0,none⟩=some (I J 3):=HP6.out.1.cell 0 _ rfl;have x6:w6.cell? ⟨w.heap.size,5,none⟩=some (sL (some ⟨gb,0,none⟩) s.n2 s.k2):=(HP6.out.2.cell (by exact HPL.out.1)).trans x5;have HX6:Hid (bxR T0 T1 gb s.n2 s.k2 H.bx hs0 w6):=HX.out.st (fun x _ hx=>HP6.out.2.block x (by have:=HS5.out.o;omega)))
    | (refine wpList_store_mid (P:=Tp) rfl 166 _ _ rfl gb (k*8) [I J 0,I J 0,I J 0,bO false,I .u32 0,bO false,I J 0,sL none 0 0].toArray rfl rfl (HX6.out.there k HKK.out) sz95 (one8 _ _ _ _ _ _ _ _ _ _) ?_;generalize hW7:World.setCells w6 gb (k*8) _=w7;have HW7:Hid (_=w7):=hW7;clear hW7;have oth:∀ x,x≠gb→w7.heap[x]?=w6.heap[x]?:=(fun x hx=>by rw[← HW7.out];exact sO _ x hx _ _ _);have HL7:Hid (reS w (hoL H s) w7∧blk w7 w5.heap.size [I J 3,I J bY,I J bZ,bO bE,I .u32 (bI:Int),bO bR,I J bD,sL ao m c] 166):=⟨(H5.out.below HP6.out.2).kept (oth _ (by have:=HGL.out;omega)) (oth _ (by have:=HGL.out;omega)),HP6.out.1.kept (oth _ (by have:=HGL.out;have:=HPL.out;omega))⟩;have HS7:Hid (spS B T0 T1 T2 (freeHo H k) s w7∧iB w7 ao m c bL∧Below B w w7∧rowQ8 T2 w.heap.size 67 g4 s.n4 s.k4 H.qu w7∧w.heap.size+1<w7.heap.size∧g4<w.heap.size):=sp_free2 HS0.out HS5.out HB5.out HP6.out.2 HE.out HX6.out HKK.out HW7.out HQ0.out HDT.out HDW.out HPL.out;clear oth;have y1:w7.cell? ⟨w5.heap.size,1,none⟩=some (I J bY):=HL7.out.2.cell 1 _ rfl)
    | (refine lq39 HL7.out.1.p.load ?_)
    | (refine lq55 (cs:=[bO bE,I .u32 (bI:Int),bO bR,I J bD,sL ao m c]) (blk.loadAt [I J 3,I J bY,I J bZ] [bO bE,I .u32 (bI:Int),bO bR,I J bD,sL ao m c] [] HL7.out.2) ?_))
    refine (l3say_q w7 (freeHo H k) s T2 w.heap.size g4 6 bY 0 HE.out.2 HS7.out.2.2.2.1 HS7.out.1.o.2.2.2 hn4 hlo).mono ?_
    rintro o w8 ⟨g',n',k',rfl,hV,ho8,hb8⟩;have HR8:Hid (blk w8 (w.heap.size+1) Z10 39):=HL7.out.1.r.kept (ho8 _ (by have:=HS7.out.2.2.2.2.2;omega) HS7.out.2.2.2.2.1)
    have HE8:Hid (∀ L:List Value,spS B T0 T1 T2 (pH (freeHo H k) (ev3 6 bY 0)) (qSl s g' n' k') (w8.setCells (w.heap.size+1) 0 L)):=fun L=>sp_end HS7.out.1 HS0.out.o.2.2.2 HS7.out.2.2.2.1.glt HS7.out.2.2.2.2.1 hV ho8 hb8.size L
    have HB8:Hid (Below B w w8):=HS7.out.2.2.1.trans (hb8.mono (by have:=HS0.out.o;omega))
    have HF8:Hid (∀ q,T1≤q→q<w.heap.size→s.a4≠some ⟨q,0,none⟩→w8.heap[q]?=w.heap[q]?):=fr8 HB5.out HP6.out.2 HW7.out ho8 HX6.out.hi HE.out.2
    clear hV ho8 hb8;go_wp2_with (first
     | (refine sq39 HR8.out ?_;generalize hW9:World.setCells _ (w.heap.size+1) 0 _=w9;have HW9:Hid (_=w9):=hW9;clear hW9))
    have e9:=HW9.out
    have hF:blk w9 (w.heap.size+1) (hoL (pH (freeHo H k) (ev3 6 bY 0)) (qSl s g' n' k')) 39:=by
     rw[← e9]
     have:=blk.put [] Z10 [] (hoL (pH (freeHo H k) (ev3 6 bY 0)) (qSl s g' n' k')) (w:=w8) (b:=w.heap.size+1) (T:=39) (by simpa using HR8.out) (by rw[hoL_len];rfl)
     simpa using this
    have hL:=rq39 hF
    refine bC Tryz.results102 hL ?_
    have hrl:relHo H false=pH (freeHo H k) (ev3 6 bY 0):=by simpa using HRL.out
    rw[hrl]
    refine⟨_,rfl,?_,?_,?_⟩
    ·rw[← e9];exact HE8.out _
    ·rw[← e9];exact sW (by have:=HZ0.out;omega) 0 _ HB8.out
    ·intro q h1 h2 h3;rw[← e9];exact (sO _ q (by omega) _ _ _).trans (HF8.out q h1 h2 h3)
def tagBb (t:Int) (b:R8):Bool:=!(b.x == 0) && b.y == t
def tagIx (bx:List R8) (t:Int):Nat:=bx.findIdx (tagBb t)
theorem fstB.tag {bx:List R8} {t r:Int} (h:fstB (tagB t) bx r):(r = -1∧¬ tagIx bx t<bx.length)∨(r=(tagIx bx t:Int)∧tagIx bx t<bx.length):=by
 have e:∀ b,tagBb t b=true↔tagB t b:=fun b=>by simp[tagBb,tagB]
 rcases h with⟨k,hk,h1,h2,rfl⟩|⟨h1,rfl⟩
 ·right
  have e:tagIx bx t=k:=by
   unfold tagIx
   rw[List.findIdx_eq hk]
   refine⟨(e _).2 h1,fun j hj=>?_⟩
   have:=h2 j (by omega) hj
   rw[← e] at this
   simpa using this
  rw[e]
  exact⟨rfl,hk⟩
 ·left
  refine⟨rfl,?_⟩
  have:tagIx bx t=bx.length:=List.findIdx_eq_length.2 fun b hb=>by
   obtain⟨j,hj,rfl⟩:=List.getElem_of_mem hb
   have:=h1 j hj
   rw[← e] at this
   simpa using this
  omega
def abHo (H:Ho) (t:Int):Ho:=
 if h:tagIx H.bx t<H.bx.length then
  (if H.bx[tagIx H.bx t].x=1 then pH (freeHo H (tagIx H.bx t)) (ev3 6 t 0) else stHo H (tagIx H.bx t) 3)
 else pH H (ev3 7 (if 0≤t∧t≤9999 then t else 0) 0)
variable {H R T:Ho}
theorem okHo.n4 (h:okHo H):H.qu.length≤1000:=by
 have h1:=of_decide_eq_true h.cf
 have h2:=h.nq
 omega
def okRel (H:Ho) (R:Ho) (T:Ho):Prop:=(okHo H∧T=R)∨(¬ okHo H∧T=zHo)
theorem okRel.yes (h:okRel H R T) (hok:okHo H):T=R:=by
 rcases h with⟨_,e⟩|⟨h,_⟩
 ·exact e
 ·exact absurd hok h
theorem okRel.no (h:okRel H R T) (hok:¬ okHo H):T=zHo:=by
 rcases h with⟨h,_⟩|⟨_,e⟩
 ·exact absurd h hok
 ·exact e
theorem copyS (W:World) (H:Ho) (s:Sl) (h:isHo W H s) (hn:H.le 1048576):Calls Tp 67 #[aG (hoL H s).toArray] W fun o w'=>∃ s' T0 T1 T2,o = rT (aG (hoL H s').toArray)∧spS (W.heap.size+3) T0 T1 T2 H s' w'∧s'.n2=H.bx.length∧s'.n4=H.qu.length∧Below W.heap.size W w':=by
 rw[← hoV_L]
 refine (l3copy_own W H s h hn).mono ?_
 rintro o w' ⟨gf,kf,gb,kb,gq,kq,g4,k4,T0,T1,T2,T3,rfl,⟨o1,o2,o3,o4,o5,o6⟩,hst,_,hb⟩;obtain⟨h1,h2,h3,h4⟩:=hst.now
 obtain⟨hs,h2'⟩:=h2.bxR
 exact⟨⟨some ⟨gf,0,none⟩,s.n1,kf,some ⟨gb,0,none⟩,s.n2,kb,some ⟨gq,0,none⟩,s.n3,kq,some ⟨g4,0,none⟩,s.n4,k4⟩,T0,T1,T2,by rw[hoV_L],⟨⟨gf,rfl,o1,o2,h1⟩,⟨gb,hs,rfl,h2'⟩,⟨gq,rfl,h3⟩,⟨g4,rfl,h4.mono o6⟩,⟨by omega,o3,o4,by omega⟩⟩,h.bx.len,h.qu.len,hb⟩
theorem whS.mono {B T B' T':Nat} {W:World} {s:Wh} (h:whS B T W s) (hB:B'≤B) (hT:T≤T'):whS B' T' W s:=
 ⟨h.f,h.fc,⟨by have:=h.fb.1;omega,by have:=h.fb.2;omega⟩,h.x,h.xb.mono hB hT,h.r,h.rb.mono hB hT,h.q,h.qb.mono hB hT,h.m1,h.m2,h.m3,h.m4⟩
theorem toldQ.put {w w3 w4 w8:World} {H:Ho} {s4:Wh} {R:Nat} (hz:w.heap.size≤w3.heap.size) (hR:R<w3.heap.size) (q1:St w3.heap.size w4 (fun W=>isHo W H s4.sl)) (q2:whS w3.heap.size w4.heap.size w4 s4) (oth:∀ x,x≠R→w8.heap[x]?=w4.heap[x]?) (hs:w8.heap.size=w4.heap.size):St w.heap.size w8 (fun W=>isHo W H s4.sl)∧whS w.heap.size w8.heap.size w8 s4:=by
 refine⟨fun W hW=>q1 W (fun x h1 h2=>(hW x (by omega) (by omega)).trans (oth x (by omega))),?_⟩
 rw[hs]
 exact (q2.same (fun x h1 h2=>oth x (by omega))).mono hz (nR _)
theorem vOk (W:World) (H:Ho) (s:Sl) (h:isHo W H s) (hn:H.le 1048576) (hok:okHo H):Calls Tp 122 #[aG (hoL H s).toArray] W fun o w'=>o = rT (bO true)∧Below W.heap.size W w':=(validHost_any W H s h hn).mono (by rintro o w' ⟨⟨b,rfl,hb⟩,h2⟩;rw[hb.2 hok];exact⟨rfl,h2⟩)
theorem vBad (W:World) (H:Ho) (s:Sl) (h:isHo W H s) (hn:H.le 1048576) (hok:¬ okHo H):Calls Tp 122 #[aG (hoL H s).toArray] W fun o w'=>o = rT (bO false)∧Below W.heap.size W w':=(validHost_any W H s h hn).mono (by rintro o w' ⟨⟨b,rfl,hb⟩,h2⟩;cases b;exact⟨rfl,h2⟩;exact absurd (hb.1 rfl) hok)
structure itS (w:World) (H:Ho) (s:Sl) (i:Int) (W:World):Prop where
 p:blk W w.heap.size (hoL H s) 39
 x:blk W (w.heap.size+1) [I J i] 3
 r:blk W (w.heap.size+1+1) Z10 39
 b:Below w.heap.size w W
theorem itS.below {w:World} {H:Ho} {s:Sl} {i:Int} {W W':World} (h:itS w H s i W) (hb:Below W.heap.size W W'):itS w H s i W':=⟨h.p.below hb,h.x.below hb,h.r.below hb,h.b.trans (hb.mono h.b.size)⟩
theorem itS.new (w:World) (H:Ho) (s:Sl) (i:Int):itS w H s i (((w.alloc (.cells (hoL H s).toArray 39)).alloc (.cells #[I J i] 3)).alloc (.cells zX.toArray 39)):=by
 refine⟨((blk.new w _ 39).alloc _).alloc _,?_,?_,(((bW _ _).alloc (nR _) _).alloc (by simp) _).alloc (by simp;omega) _⟩
 ·have:=(blk.new (w.alloc (.cells (hoL H s).toArray 39)) [I J i] 3).alloc (.cells zX.toArray 39)
  simpa using this
 ·have:=blk.new ((w.alloc (.cells (hoL H s).toArray 39)).alloc (.cells #[I J i] 3)) Z10 39
  have e:((w.alloc (.cells (hoL H s).toArray 39)).alloc (.cells #[I J i] 3)).heap.size=w.heap.size+1+1:=by simp
  rw[e] at this
  exact this
variable {w W W' w4:World} {H T:Ho} {s sw:Sl} {bw bx:Nat}
structure lwS (w:World) (H:Ho) (s:Sl) (T:Ho) (bw:Nat) (sw:Sl) (W:World):Prop where
 p:blk W w.heap.size (hoL H s) 29
 q:blk W bw (hoL T sw) 39
 t:isHo W T sw
 h:isHo W H s
 b:Below w.heap.size w W
theorem lwS.below (h:lwS w H s T bw sw W) (hb:Below W.heap.size W W'):lwS w H s T bw sw W':=⟨h.p.below hb,h.q.below hb,h.t.below hb,h.h.below hb,h.b.trans (hb.mono h.b.size)⟩
structure lwX (w:World) (H:Ho) (s:Sl) (T:Ho) (bw:Nat) (sw:Sl) (w4:World) (T5 bx:Nat) (sx:Wh) (W:World):Prop where
 l:lwS w H s T bw sw W
 x:blk W bx (hoL H sx.sl) 39
 xh:isHo W H sx.sl
 xw:whS w4.heap.size T5 W sx
 z:bw<w4.heap.size∧w.heap.size<w4.heap.size∧w4.heap.size≤T5∧T5≤bx
 b4:Below w4.heap.size w4 W
theorem lwX.below {T5:Nat} {sx:Wh} (h:lwX w H s T bw sw w4 T5 bx sx W) (hb:Below W.heap.size W W'):lwX w H s T bw sw w4 T5 bx sx W':=⟨h.l.below hb,h.x.below hb,h.xh.below hb,h.xw.same (fun x _ hx=>hb.block x (by have:=h.x.lt;have:=h.z;omega)),h.z,h.b4.trans (hb.mono h.b4.size)⟩
structure lwG (w:World) (H:Ho) (s:Sl) (T:Ho) (bw:Nat) (sw:Sl) (w4:World) (bx B6:Nat) (w7:World) (bg:Nat) (sg:Sl) (W:World):Prop where
 l:lwS w H s T bw sw W
 g:blk W bg (hoL T sg) 39
 k:∀ x,B6≤x→x<w7.heap.size→W.heap[x]?=w7.heap[x]?
 z:bx<B6∧B6≤w7.heap.size∧w7.heap.size≤bg
 y:bw<w4.heap.size∧w.heap.size<w4.heap.size∧w4.heap.size≤bx
 b4:Below w4.heap.size w4 W
theorem lwG.below {B6:Nat} {w7:World} {bg:Nat} {sg:Sl} (h:lwG w H s T bw sw w4 bx B6 w7 bg sg W) (hb:Below W.heap.size W W'):lwG w H s T bw sw w4 bx B6 w7 bg sg W':=⟨h.l.below hb,h.g.below hb,fun x h1 h2=>(hb.block x (by have:=h.g.lt;have:=h.z;omega)).trans (h.k x h1 h2),h.z,h.y,h.b4.trans (hb.mono h.b4.size)⟩
theorem new_hostS (l:List Value) (hl:l.length=10):blk (World.setCells (w.alloc (.cells zX.toArray 39)) w.heap.size 0 l) w.heap.size l 39∧Below w.heap.size w (World.setCells (w.alloc (.cells zX.toArray 39)) w.heap.size 0 l):=by
 refine⟨?_,sW (nR _) 0 l ((bW _ _).alloc (nR _) _)⟩
 have:=blk.put [] zX [] l (w:=w.alloc (.cells zX.toArray 39)) (b:=w.heap.size) (T:=39) (by simpa using blk.new w _ 39) (by rw[hl];rfl)
 simpa using this
end Go.Proofs.YtkfcfigbgmbaiaaGreat
