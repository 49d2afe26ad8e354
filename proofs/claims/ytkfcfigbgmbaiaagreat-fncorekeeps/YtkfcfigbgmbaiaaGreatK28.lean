import Derived.Test.YtkfcfigbgmbaiaaGreatK27
import Derived.Deep.DeepCutAuto
namespace Go.Proofs.YtkfcfigbgmbaiaaGreat
set_option maxRecDepth 20000
open Go.RowKit
set_option linter.unusedVariables false
set_option maxHeartbeats 16000000
open Go.Value renaming int→I,slice→sL,bool→bO,pointer→pT,agg→aG
open Go.IntKind renaming i64→J
open Go.Ending renaming returned→rT
open Go.Proofs.Tryz renaming prog→Tp
variable {w:World} {b:Nat} {s:Sl}
theorem blk.host {C:Co} (h:blk w b (coL C s) 41) (H:Ho) (s':Sl):blk (w.setCells b 11 (hoL H s')) b (coL { C with ho:=H } s') 41:=by
 have h':blk w b (coM C++hoL C.ho s++[]) 41:=by rw[List.append_nil,← coL_M];exact h
 have:=blk.put (coM C) (hoL C.ho s) [] (hoL H s') h' rfl
 rw[List.append_nil] at this
 exact this
theorem sz39A (H:Ho) (s:Sl):(Tp.info? 39).map (·.size)=some (hoL H s).toArray.size:=sz39h H s
theorem blk.core {l:List Value} (h:blk w b l 41) (hl:l.length=21) (C:Co) (s:Sl):blk (w.setCells b 0 (coL C s)) b (coL C s) 41:=by
 have:=blk.put [] l [] (coL C s) (w:=w) (b:=b) (T:=41) (by simpa using h) (by rw[hl,cL])
 simpa using this
theorem l4say_q (w:World) (C:Co) (s:Sl) (B T g4:Nat) (x y z:Int) (ha:s.a4=some ⟨g4,0,none⟩) (hQ:rowQ8 B T 67 g4 s.n4 s.k4 C.ho.qu w) (hB:B≤T) (hT:T≤w.heap.size) (hn:s.n4≤1000) (hlo:0≤C.ho.lo∧C.ho.lo≤100000) :
  Calls Tp 77 #[aG (coL C s).toArray,I J x,I J y,I J z] w fun o w'=>∃ g' n' k',o = rT (aG (coL { C with ho:=pH C.ho (ev3 x y z) } (qSl s g' n' k')).toArray)∧(∀ V:World,(∀ x,B≤x→x<T∨w.heap.size≤x→x<w'.heap.size→V.heap[x]?=w'.heap[x]?)→w'.heap.size≤V.heap.size→rowQ8 B V.heap.size 67 g' n' k' (quP C.ho.c3 C.ho.qu (ev3 x y z)) V)∧(∀ q,q≠g4→q<w.heap.size→w'.heap[q]?=w.heap[q]?)∧Below B w w':=by
 have H0:Hid (dcS w C s ((w.alloc (.cells (coL C s).toArray 41)).alloc (.cells Z21.toArray 41))):=dcS.new w C s
 have HG4:Hid (g4<T):=by obtain⟨rs,_,_,_,h4,_⟩:=hQ;exact h4
 have HSY:Hid (∀ W,Below w.heap.size w W→Calls Tp 137 #[aG (hoL C.ho s).toArray,I J x,I J y,I J z] W fun o w'=>∃ g' n' k',o = rT (aG (hoL (pH C.ho (ev3 x y z)) (qSl s g' n' k')).toArray)∧(∀ V:World,(∀ x,B≤x→x<T∨W.heap.size≤x→x<w'.heap.size→V.heap[x]?=w'.heap[x]?)→w'.heap.size≤V.heap.size→rowQ8 B V.heap.size 67 g' n' k' (quP C.ho.c3 C.ho.qu (ev3 x y z)) V)∧(∀ q,q≠g4→q<W.heap.size→w'.heap[q]?=W.heap[q]?)∧Below B W w'):=fun W hW=>l3say_q W C.ho s B T g4 x y z ha (hQ.keep fun q h1 h2=>hW.block q (by omega)) (by have:=hW.size;omega) hn hlo
 have HBT:Hid (B≤T∧T≤w.heap.size):=⟨hB,hT⟩
 clear ha hQ hB hT hn hlo;go_enter Tryz.func77,Tryz.ntmps77
 go_wp2_with (first
  | (refine wpList_load_mid (P:=Tp) rfl 39 (.tmp 9) rfl w.heap.size 11 rfl (hoL C.ho s) _ H0.out.p.hostAt Tryz.underlying39 rfl (sz39h C.ho s) ?_))
 refine (HSY.out _ H0.out.b).mono ?_
 rintro o w2 ⟨g',n',k',rfl,q1,q2,q3⟩;have HQ1:Hid (∀ V:World,(∀ x,B≤x→x<T∨w.heap.size+2≤x→x<w2.heap.size→V.heap[x]?=w2.heap[x]?)→w2.heap.size≤V.heap.size→rowQ8 B V.heap.size 67 g' n' k' (quP C.ho.c3 C.ho.qu (ev3 x y z)) V):=by
  intro V h1 h2;refine q1 V (fun q h3 h4 h5=>h1 q h3 ?_ h5) h2
  simpa using h4
 have H2:Hid (blk w2 w.heap.size (coL C s) 41∧blk w2 (w.heap.size+1) Z21 41):=⟨H0.out.p.kept (q2 _ (by have:=HG4.out;have:=HBT.out;omega) H0.out.p.lt),H0.out.r.kept (q2 _ (by have:=HG4.out;have:=HBT.out;omega) H0.out.r.lt)⟩
 have HK2:Hid (∀ q,q≠g4→q<w.heap.size→w2.heap[q]?=w.heap[q]?):=fun q h1 h2=>(q2 q h1 (nL h2 H0.out.b.size)).trans (H0.out.b.block q h2)
 have HB2:Hid (Below B w w2∧w.heap.size+2≤w2.heap.size):=⟨(H0.out.b.mono (by have:=HBT.out;omega)).trans q3,by have:=H0.out.r.lt;have:=q3.size;omega⟩
 clear q1 q2 q3 H0 HSY;go_wp2_with (first
  | (refine wpList_store_mid (P:=Tp) rfl 39 (.tmp 15) (.tmp 14) rfl w.heap.size 11 (hoL (pH C.ho (ev3 x y z)) (qSl s g' n' k')).toArray rfl rfl (H2.out.1.there 11 _ (by rw[List.size_toArray,hoL_len,cL];decide)) (sz39A _ _) (hoL_one _ _) ?_;generalize hW3:World.setCells w2 w.heap.size 11 _=w3;have H3:Hid (blk w3 w.heap.size (coL { C with ho:=pH C.ho (ev3 x y z) } (qSl s g' n' k')) 41∧blk w3 (w.heap.size+1) Z21 41∧(∀ q,q≠w.heap.size→w3.heap[q]?=w2.heap[q]?)∧w3.heap.size=w2.heap.size∧Below B w w3):=(by rw[← hW3];exact⟨H2.out.1.host _ _,H2.out.2.kept (sO _ _ (by omega) _ _ _),fun q hq=>sO _ q hq _ _ _,sZ ..,sW (by have:=HBT.out;omega) 11 _ HB2.out.1⟩);clear hW3)
  | (refine lq41 H3.out.1.load ?_)
  | (refine sq41 H3.out.2.1 ?_;generalize hW4:World.setCells w3 (w.heap.size+1) 0 _=w4;have H4:Hid (blk w4 (w.heap.size+1) (coL { C with ho:=pH C.ho (ev3 x y z) } (qSl s g' n' k')) 41∧(∀ q,q≠w.heap.size→q≠w.heap.size+1→w4.heap[q]?=w2.heap[q]?)∧w4.heap.size=w2.heap.size∧Below B w w4):=(by rw[← hW4];exact⟨H3.out.2.1.core rfl _ _,fun q h1 h2=>(sO _ q h2 _ _ _).trans (H3.out.2.2.1 q h1),(sZ ..).trans H3.out.2.2.2.1,sW (by have:=HBT.out;omega) 0 _ H3.out.2.2.2.2⟩);clear hW4))
 have hL:=rq41 H4.out.1
 refine bC Tryz.results77 hL ?_
 have hz:=H4.out.2.2.1
 have hz2:=HB2.out.2
 have hbt:=HBT.out
 refine⟨g',n',k',rfl,fun V h1 h2=>HQ1.out V (fun q h3 h4 h5=>(h1 q h3 (by omega) (by omega)).trans (H4.out.2.1 q (by omega) (by omega))) (by omega),fun q h1 h2=>(H4.out.2.1 q (by omega) (by omega)).trans (HK2.out q h1 h2),H4.out.2.2.2⟩
theorem spS.lower {B B' T0 T1 T2:Nat} {H:Ho} {W:World} (h:spS B T0 T1 T2 H s W) (hb:B'≤B):spS B' T0 T1 T2 H s W:=by
 obtain⟨⟨gf,e1,h1a,h1b,h1⟩,hx,hr,hq,o1,o2,o3,o4⟩:=h
 exact⟨⟨gf,e1,by omega,h1b,h1⟩,hx,hr,hq,by omega,o2,o3,o4⟩
theorem l4copy_any (w:World) (C:Co) (s:Sl) (h:isHo w C.ho s) (hn:C.ho.le 1048576):Calls Tp 35 #[aG (coL C s).toArray] w fun o w'=>∃ s' T0 T1 T2,o = rT (aG (coL C s').toArray)∧spS (w.heap.size+2) T0 T1 T2 C.ho s' w'∧s'.n2=C.ho.bx.length∧s'.n4=C.ho.qu.length∧Below w.heap.size w w':=by
 have H0:Hid (dcS w C s ((w.alloc (.cells (coL C s).toArray 41)).alloc (.cells Z21.toArray 41))):=dcS.new w C s
 have HCP:Hid (∀ W,Below w.heap.size w W→Calls Tp 67 #[aG (hoL C.ho s).toArray] W fun o w'=>∃ s' T0 T1 T2,o = rT (aG (hoL C.ho s').toArray)∧spS (W.heap.size+3) T0 T1 T2 C.ho s' w'∧s'.n2=C.ho.bx.length∧s'.n4=C.ho.qu.length∧Below W.heap.size W w'):=fun W hW=>copyS W C.ho s (h.below hW) hn
 have HEC:Hid ({ C with ho:=C.ho }=C):=rfl
 clear h hn;go_enter Tryz.func35,Tryz.ntmps35
 go_wp2_with (first
  | (refine wpList_load_mid (P:=Tp) rfl 39 (.tmp 3) rfl w.heap.size 11 rfl (hoL C.ho s) _ H0.out.p.hostAt Tryz.underlying39 rfl (sz39h C.ho s) ?_))
 refine (HCP.out _ H0.out.b).mono ?_
 rintro o w2 ⟨s',T0,T1,T2,rfl,q1,q2,q3,q4⟩;have H2:Hid (blk w2 w.heap.size (coL C s) 41∧blk w2 (w.heap.size+1) Z21 41∧Below w.heap.size w w2):=⟨(H0.out.below q4).p,(H0.out.below q4).r,(H0.out.below q4).b⟩
 have HSP:Hid (spS (w.heap.size+2+3) T0 T1 T2 C.ho s' w2∧s'.n2=C.ho.bx.length∧s'.n4=C.ho.qu.length):=⟨by simpa using q1,q2,q3⟩
 clear q1 q2 q3 q4 H0 HCP;go_wp2_with (first
  | (refine wpList_store_mid (P:=Tp) rfl 39 (.tmp 6) (.tmp 5) rfl w.heap.size 11 (hoL C.ho s').toArray rfl rfl (H2.out.1.there 11 _ (by rw[List.size_toArray,hoL_len,cL];decide)) (sz39A _ _) (hoL_one _ _) ?_;generalize hW3:World.setCells w2 w.heap.size 11 _=w3;have H3:Hid (blk w3 w.heap.size (coL C s') 41∧blk w3 (w.heap.size+1) Z21 41∧(∀ q,q≠w.heap.size→w3.heap[q]?=w2.heap[q]?)∧w3.heap.size=w2.heap.size∧Below w.heap.size w w3):=(by rw[← hW3];exact⟨H2.out.1.host C.ho s',H2.out.2.1.kept (sO _ _ (by omega) _ _ _),fun q hq=>sO _ q hq _ _ _,sZ ..,sW (nR _) 11 _ H2.out.2.2⟩);clear hW3)
  | (refine lq41 H3.out.1.load ?_)
  | (refine sq41 H3.out.2.1 ?_;generalize hW4:World.setCells w3 (w.heap.size+1) 0 _=w4;have H4:Hid (blk w4 (w.heap.size+1) (coL C s') 41∧(∀ q,q≠w.heap.size→q≠w.heap.size+1→w4.heap[q]?=w2.heap[q]?)∧w4.heap.size=w2.heap.size∧Below w.heap.size w w4):=(by rw[← hW4];exact⟨H3.out.2.1.core rfl _ _,fun q h1 h2=>(sO _ q h2 _ _ _).trans (H3.out.2.2.1 q h1),(sZ ..).trans H3.out.2.2.2.1,sW (by omega) 0 _ H3.out.2.2.2.2⟩);clear hW4))
 have hL:=rq41 H4.out.1
 refine bC Tryz.results35 hL ?_
 have hsp:=HSP.out.1.st (W':=w4) (fun q h1 h2=>H4.out.2.1 q (by omega) (by omega)) (by have:=H4.out.2.2.1;omega)
 exact⟨s',T0,T1,T2,rfl,hsp.lower (by omega),HSP.out.2.1,HSP.out.2.2,H4.out.2.2.2⟩
variable {C R T:Co}
def zCo:Co:=⟨0,0,0,false,false,false,false,false,0,0,0,zHo⟩
def okRelC (C R T:Co):Prop:=(okCo C∧T=R)∨(¬ okCo C∧T=zCo)
theorem okRelC.yes (h:okRelC C R T) (hok:okCo C):T=R:=by
 rcases h with⟨_,e⟩|⟨h,_⟩
 ·exact e
 ·exact absurd hok h
theorem okRelC.no (h:okRelC C R T) (hok:¬ okCo C):T=zCo:=by
 rcases h with⟨h,_⟩|⟨_,e⟩
 ·exact absurd h hok
 ·exact e
structure itF (w:World) (C:Co) (s:Sl) (k:Int) (W:World):Prop where
 p:blk W w.heap.size (coL C s) 41
 x:blk W (w.heap.size+1) [I J k] 3
 r:blk W (w.heap.size+2) Z21 41
 b:Below w.heap.size w W
theorem itF.below {w:World} {C:Co} {s:Sl} {k:Int} {W W':World} (h:itF w C s k W) (hb:Below W.heap.size W W'):itF w C s k W':=⟨h.p.below hb,h.x.below hb,h.r.below hb,h.b.trans (hb.mono h.b.size)⟩
theorem itF.new (w:World) (C:Co) (s:Sl) (k:Int):itF w C s k (((w.alloc (.cells (coL C s).toArray 41)).alloc (.cells #[I J k] 3)).alloc (.cells zY.toArray 41)):=by
 refine⟨((blk.new w _ 41).alloc _).alloc _,?_,?_,(((bW _ _).alloc (nR _) _).alloc (by simp) _).alloc (by simp;omega) _⟩
 ·have:=(blk.new (w.alloc (.cells (coL C s).toArray 41)) [I J k] 3).alloc (.cells zY.toArray 41)
  simpa using this
 ·have:=blk.new ((w.alloc (.cells (coL C s).toArray 41)).alloc (.cells #[I J k] 3)) Z21 41
  have t2:blk (((w.alloc (.cells (coL C s).toArray 41)).alloc (.cells #[I J k] 3)).alloc (.cells Z21.toArray 41)) (w.heap.size+2) Z21 41:=by simpa using this
  exact t2
def fltS (C:Co) (k:Int):Prop:=(C.p=1∨C.p=2∨C.p=4)∧(1≤k∧k≤6)
def okFa (C:Co) (k:Int):Prop:=okCo C∧fltS C k
theorem implFault_any (w:World) (C:Co) (s:Sl) (k:Int) (h:isHo w C.ho s) (hs:slSome s) (hn:C.ho.le 1048576) :
  Calls Tp 16 #[aG (coL C s).toArray,I J k] w fun o w'=>(okFa C k∧toldC w (actC C (fltC C k)) o w')∨(¬ okFa C k∧o = rT (.agg zY.toArray)∧Below w.heap.size w w'):=by
 have H0:Hid (itF w C s k (((w.alloc (.cells (coL C s).toArray 41)).alloc (.cells #[I J k] 3)).alloc (.cells zY.toArray 41))):=itF.new w C s k
 have HIR:Hid (∀ W v l m,Calls Tp 43 #[I J v,I J l,I J m] W fun o w'=>o = rT (bO (decide (l≤v∧v≤m)))∧W=w'):=inRange_any
 have y0:=H0.out.p.cell 0 (I J C.p) rfl
 have x0:=H0.out.x.cell 0 (I J k) rfl
 generalize hW0:(((w.alloc (.cells (coL C s).toArray 41)).alloc (.cells #[I J k] 3)).alloc (.cells zY.toArray 41))=W0 at *;have HCY:Hid (Calls Tp 37 #[aG (coL C s).toArray,bO true,.func (.func 44) #[] #[pT (some ⟨w.heap.size+1,0,none⟩)]] W0 fun o w'=>(okCo C∧toldC W0 (actC C (fltC C k)) o w')∨(¬ okCo C∧o = rT (.agg zY.toArray)∧Below W0.heap.size W0 w')):=changed_gen W0 C (actC C (fltC C k)) s _ (h.below H0.out.b) hn (fun hok X hX=>open_flt X C s ((h.below H0.out.b).below hX) hs hok hn (w.heap.size+1) k ((hX.cell (by exact H0.out.x.lt)).trans (H0.out.x.cell 0 _ rfl)))
 have hmf:∀ (fn:Fn) (first cap:Array Value) (w:World),(Instr.makeFunc fn first cap).run Tp w = .ok (.func fn first cap) w:=fun _ _ _ _=>rfl
 clear h hn hs;by_cases hp1:C.p=1
 ·have d1:(C.p == 1)=true:=by simpa using hp1
  by_cases hk:1≤k∧k≤6
  ·have dk:decide (1≤k∧k≤6)=true:=by simpa using hk
   have HSW:Hid (fltS C k):=⟨by omega,hk⟩
   clear hk hp1;go_enter Tryz.func16,Tryz.ntmps16
   go_wp2_with (first
    | (go_at_call 43;refine (HIR.out _ _ _ _).mono ?_;rintro o w2 ⟨rfl,rfl⟩)
    | (refine lq41 H0.out.p.load ?_))
   refine (HCY.out).mono ?_
   rintro o w1 (⟨hok,s4,rfl,q1,q2,q3,q4,hb4⟩|⟨hok,rfl,hb4⟩)
   ·have H4:Hid (itF w C s k w1):=H0.out.below hb4
    have HQ:Hid (St W0.heap.size w1 (fun W=>isHo W (actC C (fltC C k)).ho s4.sl)∧whS W0.heap.size w1.heap.size w1 s4∧whD s4∧whE s4):=⟨q1,q2,q3,q4⟩
    have HOK:Hid (okCo C):=hok
    have HZ:Hid (w.heap.size≤W0.heap.size∧w.heap.size+2<W0.heap.size):=⟨H0.out.b.size,H0.out.r.lt⟩
    clear q1 q2 q3 q4 hb4 hok HCY y0 x0 hW0;go_wp2_with (first
     | (refine sq41 H4.out.r ?_;generalize hW8:World.setCells w1 (w.heap.size+2) 0 _=w8;have HW8:Hid (_=w8):=hW8;clear hW8))
    have e8:=HW8.out
    have hF:blk w8 (w.heap.size+2) (coL (actC C (fltC C k)) s4.sl) 41:=by
     rw[← e8]
     exact H4.out.r.core rfl _ _
    have hL:=rq41 hF
    refine bC Tryz.results16 hL ?_
    have oth:∀ x,x≠w.heap.size+2→w8.heap[x]?=w1.heap[x]?:=fun x hx=>by rw[← e8];exact sO _ x hx _ _ _
    have hsz:w8.heap.size=w1.heap.size:=by rw[← e8];exact sZ ..
    have hp:=toldQ.put (w:=w) HZ.out.1 HZ.out.2 HQ.out.1 HQ.out.2.1 oth hsz
    exact Or.inl ⟨⟨HOK.out,HSW.out⟩,s4,rfl,hp.1,hp.2,HQ.out.2.2.1,HQ.out.2.2.2,by rw[← e8];exact sW (by omega) 0 _ H4.out.b⟩
   ·have H4:Hid (itF w C s k w1):=H0.out.below hb4
    have HOK:Hid (¬ okFa C k):=fun x=>hok x.1
    clear hb4 hok HCY y0 x0 hW0;go_wp2_with (first
     | (refine sq41 H4.out.r ?_;generalize hW8:World.setCells w1 (w.heap.size+2) 0 _=w8;have HW8:Hid (_=w8):=hW8;clear hW8))
    have e8:=HW8.out
    have hF:blk w8 (w.heap.size+2) zY 41:=by
     rw[← e8]
     exact H4.out.r.core rfl zCo zSl
    have hL:=rq41 hF
    refine bC Tryz.results16 hL ?_
    exact Or.inr ⟨HOK.out,rfl,by rw[← e8];exact sW (by omega) 0 _ H4.out.b⟩
  ·have dk:decide (1≤k∧k≤6)=false:=by simpa using hk
   have HOK:Hid (¬ okFa C k):=fun x=>hk x.2.2
   clear hk hp1 HCY;go_enter Tryz.func16,Tryz.ntmps16
   go_wp2_with (first
    | (go_at_call 43;refine (HIR.out _ _ _ _).mono ?_;rintro o w2 ⟨rfl,rfl⟩)
    | (refine lq41 H0.out.p.load ?_))
   refine (changed_no W0 C s _).mono ?_
   rintro o w1 ⟨rfl,hb4⟩;have H4:Hid (itF w C s k w1):=H0.out.below hb4
   clear hb4 y0 x0 hW0;go_wp2_with (first
    | (refine sq41 H4.out.r ?_;generalize hW8:World.setCells w1 (w.heap.size+2) 0 _=w8;have HW8:Hid (_=w8):=hW8;clear hW8))
   have e8:=HW8.out
   have hF:blk w8 (w.heap.size+2) zY 41:=by
    rw[← e8]
    exact H4.out.r.core rfl zCo zSl
   have hL:=rq41 hF
   refine bC Tryz.results16 hL ?_
   exact Or.inr ⟨HOK.out,rfl,by rw[← e8];exact sW (by omega) 0 _ H4.out.b⟩
 have d1:(C.p == 1)=false:=by simpa using hp1
 by_cases hp2:C.p=2
 ·have d2:(C.p == 2)=true:=by simpa using hp2
  by_cases hk:1≤k∧k≤6
  ·have dk:decide (1≤k∧k≤6)=true:=by simpa using hk
   have HSW:Hid (fltS C k):=⟨by omega,hk⟩
   clear hk hp2;go_enter Tryz.func16,Tryz.ntmps16
   go_wp2_with (first
    | (go_at_call 43;refine (HIR.out _ _ _ _).mono ?_;rintro o w2 ⟨rfl,rfl⟩)
    | (refine lq41 H0.out.p.load ?_))
   refine (HCY.out).mono ?_
   rintro o w1 (⟨hok,s4,rfl,q1,q2,q3,q4,hb4⟩|⟨hok,rfl,hb4⟩)
   ·have H4:Hid (itF w C s k w1):=H0.out.below hb4
    have HQ:Hid (St W0.heap.size w1 (fun W=>isHo W (actC C (fltC C k)).ho s4.sl)∧whS W0.heap.size w1.heap.size w1 s4∧whD s4∧whE s4):=⟨q1,q2,q3,q4⟩
    have HOK:Hid (okCo C):=hok
    have HZ:Hid (w.heap.size≤W0.heap.size∧w.heap.size+2<W0.heap.size):=⟨H0.out.b.size,H0.out.r.lt⟩
    clear q1 q2 q3 q4 hb4 hok HCY y0 x0 hW0;go_wp2_with (first
     | (refine sq41 H4.out.r ?_;generalize hW8:World.setCells w1 (w.heap.size+2) 0 _=w8;have HW8:Hid (_=w8):=hW8;clear hW8))
    have e8:=HW8.out
    have hF:blk w8 (w.heap.size+2) (coL (actC C (fltC C k)) s4.sl) 41:=by
     rw[← e8]
     exact H4.out.r.core rfl _ _
    have hL:=rq41 hF
    refine bC Tryz.results16 hL ?_
    have oth:∀ x,x≠w.heap.size+2→w8.heap[x]?=w1.heap[x]?:=fun x hx=>by rw[← e8];exact sO _ x hx _ _ _
    have hsz:w8.heap.size=w1.heap.size:=by rw[← e8];exact sZ ..
    have hp:=toldQ.put (w:=w) HZ.out.1 HZ.out.2 HQ.out.1 HQ.out.2.1 oth hsz
    exact Or.inl ⟨⟨HOK.out,HSW.out⟩,s4,rfl,hp.1,hp.2,HQ.out.2.2.1,HQ.out.2.2.2,by rw[← e8];exact sW (by omega) 0 _ H4.out.b⟩
   ·have H4:Hid (itF w C s k w1):=H0.out.below hb4
    have HOK:Hid (¬ okFa C k):=fun x=>hok x.1
    clear hb4 hok HCY y0 x0 hW0;go_wp2_with (first
     | (refine sq41 H4.out.r ?_;generalize hW8:World.setCells w1 (w.heap.size+2) 0 _=w8;have HW8:Hid (_=w8):=hW8;clear hW8))
    have e8:=HW8.out
    have hF:blk w8 (w.heap.size+2) zY 41:=by
     rw[← e8]
     exact H4.out.r.core rfl zCo zSl
    have hL:=rq41 hF
    refine bC Tryz.results16 hL ?_
    exact Or.inr ⟨HOK.out,rfl,by rw[← e8];exact sW (by omega) 0 _ H4.out.b⟩
  ·have dk:decide (1≤k∧k≤6)=false:=by simpa using hk
   have HOK:Hid (¬ okFa C k):=fun x=>hk x.2.2
   clear hk hp2 HCY;go_enter Tryz.func16,Tryz.ntmps16
   go_wp2_with (first
    | (go_at_call 43;refine (HIR.out _ _ _ _).mono ?_;rintro o w2 ⟨rfl,rfl⟩)
    | (refine lq41 H0.out.p.load ?_))
   refine (changed_no W0 C s _).mono ?_
   rintro o w1 ⟨rfl,hb4⟩;have H4:Hid (itF w C s k w1):=H0.out.below hb4
   clear hb4 y0 x0 hW0;go_wp2_with (first
    | (refine sq41 H4.out.r ?_;generalize hW8:World.setCells w1 (w.heap.size+2) 0 _=w8;have HW8:Hid (_=w8):=hW8;clear hW8))
   have e8:=HW8.out
   have hF:blk w8 (w.heap.size+2) zY 41:=by
    rw[← e8]
    exact H4.out.r.core rfl zCo zSl
   have hL:=rq41 hF
   refine bC Tryz.results16 hL ?_
   exact Or.inr ⟨HOK.out,rfl,by rw[← e8];exact sW (by omega) 0 _ H4.out.b⟩
 have d2:(C.p == 2)=false:=by simpa using hp2
 by_cases hp4:C.p=4
 ·have d4:(C.p == 4)=true:=by simpa using hp4
  by_cases hk:1≤k∧k≤6
  ·have dk:decide (1≤k∧k≤6)=true:=by simpa using hk
   have HSW:Hid (fltS C k):=⟨by omega,hk⟩
   clear hk hp4;go_enter Tryz.func16,Tryz.ntmps16
   go_wp2_with (first
    | (go_at_call 43;refine (HIR.out _ _ _ _).mono ?_;rintro o w2 ⟨rfl,rfl⟩)
    | (refine lq41 H0.out.p.load ?_))
   refine (HCY.out).mono ?_
   rintro o w1 (⟨hok,s4,rfl,q1,q2,q3,q4,hb4⟩|⟨hok,rfl,hb4⟩)
   ·have H4:Hid (itF w C s k w1):=H0.out.below hb4
    have HQ:Hid (St W0.heap.size w1 (fun W=>isHo W (actC C (fltC C k)).ho s4.sl)∧whS W0.heap.size w1.heap.size w1 s4∧whD s4∧whE s4):=⟨q1,q2,q3,q4⟩
    have HOK:Hid (okCo C):=hok
    have HZ:Hid (w.heap.size≤W0.heap.size∧w.heap.size+2<W0.heap.size):=⟨H0.out.b.size,H0.out.r.lt⟩
    clear q1 q2 q3 q4 hb4 hok HCY y0 x0 hW0;go_wp2_with (first
     | (refine sq41 H4.out.r ?_;generalize hW8:World.setCells w1 (w.heap.size+2) 0 _=w8;have HW8:Hid (_=w8):=hW8;clear hW8))
    have e8:=HW8.out
    have hF:blk w8 (w.heap.size+2) (coL (actC C (fltC C k)) s4.sl) 41:=by
     rw[← e8]
     exact H4.out.r.core rfl _ _
    have hL:=rq41 hF
    refine bC Tryz.results16 hL ?_
    have oth:∀ x,x≠w.heap.size+2→w8.heap[x]?=w1.heap[x]?:=fun x hx=>by rw[← e8];exact sO _ x hx _ _ _
    have hsz:w8.heap.size=w1.heap.size:=by rw[← e8];exact sZ ..
    have hp:=toldQ.put (w:=w) HZ.out.1 HZ.out.2 HQ.out.1 HQ.out.2.1 oth hsz
    exact Or.inl ⟨⟨HOK.out,HSW.out⟩,s4,rfl,hp.1,hp.2,HQ.out.2.2.1,HQ.out.2.2.2,by rw[← e8];exact sW (by omega) 0 _ H4.out.b⟩
   ·have H4:Hid (itF w C s k w1):=H0.out.below hb4
    have HOK:Hid (¬ okFa C k):=fun x=>hok x.1
    clear hb4 hok HCY y0 x0 hW0;go_wp2_with (first
     | (refine sq41 H4.out.r ?_;generalize hW8:World.setCells w1 (w.heap.size+2) 0 _=w8;have HW8:Hid (_=w8):=hW8;clear hW8))
    have e8:=HW8.out
    have hF:blk w8 (w.heap.size+2) zY 41:=by
     rw[← e8]
     exact H4.out.r.core rfl zCo zSl
    have hL:=rq41 hF
    refine bC Tryz.results16 hL ?_
    exact Or.inr ⟨HOK.out,rfl,by rw[← e8];exact sW (by omega) 0 _ H4.out.b⟩
  ·have dk:decide (1≤k∧k≤6)=false:=by simpa using hk
   have HOK:Hid (¬ okFa C k):=fun x=>hk x.2.2
   clear hk hp4 HCY;go_enter Tryz.func16,Tryz.ntmps16
   go_wp2_with (first
    | (go_at_call 43;refine (HIR.out _ _ _ _).mono ?_;rintro o w2 ⟨rfl,rfl⟩)
    | (refine lq41 H0.out.p.load ?_))
   refine (changed_no W0 C s _).mono ?_
   rintro o w1 ⟨rfl,hb4⟩;have H4:Hid (itF w C s k w1):=H0.out.below hb4
   clear hb4 y0 x0 hW0;go_wp2_with (first
    | (refine sq41 H4.out.r ?_;generalize hW8:World.setCells w1 (w.heap.size+2) 0 _=w8;have HW8:Hid (_=w8):=hW8;clear hW8))
   have e8:=HW8.out
   have hF:blk w8 (w.heap.size+2) zY 41:=by
    rw[← e8]
    exact H4.out.r.core rfl zCo zSl
   have hL:=rq41 hF
   refine bC Tryz.results16 hL ?_
   exact Or.inr ⟨HOK.out,rfl,by rw[← e8];exact sW (by omega) 0 _ H4.out.b⟩
 have d4:(C.p == 4)=false:=by simpa using hp4
 have HOK:Hid (¬ okFa C k):=fun x=>by have:=x.2.1;omega
 clear hp1 hp2 hp4 HCY;go_enter Tryz.func16,Tryz.ntmps16
 go_wp2_with (first
  | (go_at_call 43;refine (HIR.out _ _ _ _).mono ?_;rintro o w2 ⟨rfl,rfl⟩)
  | (refine lq41 H0.out.p.load ?_))
 refine (changed_no W0 C s _).mono ?_
 rintro o w1 ⟨rfl,hb4⟩;have H4:Hid (itF w C s k w1):=H0.out.below hb4
 clear hb4 y0 x0 hW0;go_wp2_with (first
  | (refine sq41 H4.out.r ?_;generalize hW8:World.setCells w1 (w.heap.size+2) 0 _=w8;have HW8:Hid (_=w8):=hW8;clear hW8))
 have e8:=HW8.out
 have hF:blk w8 (w.heap.size+2) zY 41:=by
  rw[← e8]
  exact H4.out.r.core rfl zCo zSl
 have hL:=rq41 hF
 refine bC Tryz.results16 hL ?_
 exact Or.inr ⟨HOK.out,rfl,by rw[← e8];exact sW (by omega) 0 _ H4.out.b⟩
def addS (C:Co) (n:Int):Co:=if (addC C C.tx n).te=256 then offC (addC C C.tx n) else addC C C.tx n
theorem l4add_any (w:World) (C:Co) (s:Sl) (n:Int) (hn:0≤n∧n≤8) (ht:0≤C.te∧C.te<256) (hr:0≤C.re∧C.re≤255) :
  Calls Tp 103 #[aG (coL C s).toArray,I J n] w fun o w'=>o = rT (aG (coL (addS C n) s).toArray)∧Below w.heap.size w w':=by
 have hd:dcS w C s ((w.alloc (.cells (coL C s).toArray 41)).alloc (.cells zY.toArray 41)):=dcS.new w C s
 have H0:Hid (blk ((w.alloc (.cells (coL C s).toArray 41)).alloc (.cells zY.toArray 41)) w.heap.size (coL C s) 41∧blk ((w.alloc (.cells (coL C s).toArray 41)).alloc (.cells zY.toArray 41)) (w.heap.size+1) Z21 41∧Below w.heap.size w ((w.alloc (.cells (coL C s).toArray 41)).alloc (.cells zY.toArray 41))):=⟨hd.p,hd.r,hd.b⟩
 have y6:=hd.p.cell 6 (bO C.tx) rfl
 have y9:=hd.p.cell 9 (I J C.te) rfl
 have y10:=hd.p.cell 10 (I J C.re) rfl
 have g9:=hd.p.free 9
 have g10:=hd.p.free 10
 clear hd;generalize hW0:((w.alloc (.cells (coL C s).toArray 41)).alloc (.cells zY.toArray 41))=W0 at *;by_cases dx:C.tx=true
 ·rw[dx] at y6
  have hw:IntKind.i64.wrap (C.te+n)=C.te+n:=by rw[IntKind.wrap_i64];omega
  have HA:Hid (addC C C.tx n = { C with te:=if 256≤C.te+n then 256 else C.te+n }):=by show addC C C.tx n=_;unfold addC;rw[if_pos dx]
  have H1:Hid (blk (W0.setCell ⟨w.heap.size,9,none⟩ (I J (C.te+n))) w.heap.size (coL { C with te:=C.te+n } s) 41∧blk (W0.setCell ⟨w.heap.size,9,none⟩ (I J (C.te+n))) (w.heap.size+1) Z21 41∧Below w.heap.size w (W0.setCell ⟨w.heap.size,9,none⟩ (I J (C.te+n)))):=⟨H0.out.1.set 9 (I J (C.te+n)),H0.out.2.1.setOther (by omega) 9 _,H0.out.2.2.setCell (nR _) _⟩
  have u9:=H1.out.1.cell 9 (I J (C.te+n)) rfl
  have u10:=H1.out.1.cell 10 (I J C.re) rfl
  by_cases hb:256≤C.te+n
  ·have db:decide (256≤C.te+n)=true:=by simpa using hb
   have HE:Hid (addS C n=offC { C with te:=256 }):=by show addS C n=_;unfold addS;rw[HA.out,if_pos hb];rw[if_pos rfl]
   clear dx hn ht hr hb HA H0;have q11:=H1.out.1.cell 11 (I J C.ho.c0) rfl
   have q12:=H1.out.1.cell 12 (I J C.ho.c1) rfl
   have q13:=H1.out.1.cell 13 (I J C.ho.c2) rfl
   have q14:=H1.out.1.cell 14 (I J C.ho.c3) rfl
   have q15:=H1.out.1.cell 15 (sL s.a1 s.n1 s.k1) rfl
   have q16:=H1.out.1.cell 16 (sL s.a2 s.n2 s.k2) rfl
   have q17:=H1.out.1.cell 17 (sL s.a3 s.n3 s.k3) rfl
   have q18:=H1.out.1.cell 18 (sL s.a4 s.n4 s.k4) rfl
   have q19:=H1.out.1.cell 19 (I J C.ho.lo) rfl
   have q20:=H1.out.1.cell 20 (I J C.ho.st) rfl
   go_enter Tryz.func103,Tryz.ntmps103
   go_wp2_with (first
    | (refine sq41 (cs:=(coL (offC { C with te:=256 }) s)) H1.out.2.1 ?_;generalize hW8:World.setCells _ (w.heap.size+1) 0 _=w8;have HW8:Hid (_=w8):=hW8;clear hW8))
   have e8:=HW8.out
   have hF:blk w8 (w.heap.size+1) (coL (offC { C with te:=256 }) s) 41:=by
    rw[← e8]
    exact H1.out.2.1.core rfl _ _
   have hL:=rq41 hF
   refine bC Tryz.results103 hL ?_
   exact⟨by rw[HE.out],by rw[← e8];exact sW (by omega) 0 _ H1.out.2.2⟩
  ·have db:decide (256≤C.te+n)=false:=by simpa using hb
   have HE:Hid (addS C n = { C with te:=C.te+n }):=by show addS C n=_;unfold addS;rw[HA.out,if_neg hb];rw[if_neg (by show ¬ C.te+n=256;omega)]
   clear dx hn ht hr hb HA H0;go_enter Tryz.func103,Tryz.ntmps103
   go_wp2_with (first
    | (refine lq41 H1.out.1.load ?_)
    | (refine sq41 (cs:=(coL { C with te:=C.te+n } s)) H1.out.2.1 ?_;generalize hW8:World.setCells _ (w.heap.size+1) 0 _=w8;have HW8:Hid (_=w8):=hW8;clear hW8))
   have e8:=HW8.out
   have hF:blk w8 (w.heap.size+1) (coL { C with te:=C.te+n } s) 41:=by
    rw[← e8]
    exact H1.out.2.1.core rfl _ _
   have hL:=rq41 hF
   refine bC Tryz.results103 hL ?_
   exact⟨by rw[HE.out],by rw[← e8];exact sW (by omega) 0 _ H1.out.2.2⟩
 ·have dx':C.tx=false:=by simpa using dx
  rw[dx'] at y6
  have hw:IntKind.i64.wrap (C.re+n)=C.re+n:=by rw[IntKind.wrap_i64];omega
  have HA:Hid (addC C C.tx n = { C with re:=min (C.re+n) 255 }):=by show addC C C.tx n=_;unfold addC;rw[if_neg dx]
  have dt:decide (256≤C.te)=false:=by simp;omega
  have hte:¬ C.te=256:=by omega
  have H1:Hid (blk (W0.setCell ⟨w.heap.size,10,none⟩ (I J (C.re+n))) w.heap.size (coL { C with re:=C.re+n } s) 41∧blk (W0.setCell ⟨w.heap.size,10,none⟩ (I J (C.re+n))) (w.heap.size+1) Z21 41∧Below w.heap.size w (W0.setCell ⟨w.heap.size,10,none⟩ (I J (C.re+n)))):=⟨H0.out.1.set 10 (I J (C.re+n)),H0.out.2.1.setOther (by omega) 10 _,H0.out.2.2.setCell (nR _) _⟩
  have u9:=H1.out.1.cell 9 (I J C.te) rfl
  have u10:=H1.out.1.cell 10 (I J (C.re+n)) rfl
  have k10:=H1.out.1.free 10
  by_cases hb:255<C.re+n
  ·have db:decide (255<C.re+n)=true:=by simpa using hb
   have H2:Hid (blk ((W0.setCell ⟨w.heap.size,10,none⟩ (I J (C.re+n))).setCell ⟨w.heap.size,10,none⟩ (I J 255)) w.heap.size (coL { C with re:=255 } s) 41∧blk ((W0.setCell ⟨w.heap.size,10,none⟩ (I J (C.re+n))).setCell ⟨w.heap.size,10,none⟩ (I J 255)) (w.heap.size+1) Z21 41∧Below w.heap.size w ((W0.setCell ⟨w.heap.size,10,none⟩ (I J (C.re+n))).setCell ⟨w.heap.size,10,none⟩ (I J 255))):=⟨H1.out.1.set 10 (I J 255),H1.out.2.1.setOther (by omega) 10 _,H1.out.2.2.setCell (nR _) _⟩
   have v9:=H2.out.1.cell 9 (I J C.te) rfl
   have HE:Hid (addS C n = { C with re:=255 }):=by show addS C n=_;unfold addS;rw[HA.out,if_neg hte,Int.min_eq_right (by omega)]
   clear dx dx' hn ht hr hb HA H0 hte;go_enter Tryz.func103,Tryz.ntmps103
   go_wp2_with (first
    | (refine lq41 H2.out.1.load ?_)
    | (refine sq41 (cs:=(coL { C with re:=255 } s)) H2.out.2.1 ?_;generalize hW8:World.setCells _ (w.heap.size+1) 0 _=w8;have HW8:Hid (_=w8):=hW8;clear hW8))
   have e8:=HW8.out
   have hF:blk w8 (w.heap.size+1) (coL { C with re:=255 } s) 41:=by
    rw[← e8]
    exact H2.out.2.1.core rfl _ _
   have hL:=rq41 hF
   refine bC Tryz.results103 hL ?_
   exact⟨by rw[HE.out],by rw[← e8];exact sW (by omega) 0 _ H2.out.2.2⟩
  ·have db:decide (255<C.re+n)=false:=by simpa using hb
   have HE:Hid (addS C n = { C with re:=C.re+n }):=by show addS C n=_;unfold addS;rw[HA.out,if_neg hte,Int.min_eq_left (by omega)]
   clear dx dx' hn ht hr hb HA H0 hte;go_enter Tryz.func103,Tryz.ntmps103
   go_wp2_with (first
    | (refine lq41 H1.out.1.load ?_)
    | (refine sq41 (cs:=(coL { C with re:=C.re+n } s)) H1.out.2.1 ?_;generalize hW8:World.setCells _ (w.heap.size+1) 0 _=w8;have HW8:Hid (_=w8):=hW8;clear hW8))
   have e8:=HW8.out
   have hF:blk w8 (w.heap.size+1) (coL { C with re:=C.re+n } s) 41:=by
    rw[← e8]
    exact H1.out.2.1.core rfl _ _
   have hL:=rq41 hF
   refine bC Tryz.results103 hL ?_
   exact⟨by rw[HE.out],by rw[← e8];exact sW (by omega) 0 _ H1.out.2.2⟩
theorem specES_any (w:World) (C:Co) (s:Sl):Calls Tp 27 #[aG (coL C s).toArray] w fun o w'=>o = rT (I J (esZ C.p C.te C.re))∧Below w.heap.size w w':=by
 show Calls Tp 27 #[coV C s] w _
 obtain⟨p,ct,lv,wk,ov,ow,tx,ak,rn,te,re,⟨c0,c1,c2,c3,fs,bx,ff,qu,lo,st⟩⟩:=C
 obtain⟨a1,n1,k1,a2,n2,k2,a3,n3,k3,a4,n4,k4⟩:=s
 go_enter Tryz.func27,Tryz.ntmps27
 go_wp2_with (first | (go_at_call 62;refine (l4state_any _ _ _ _).mono ?_;rintro o w1 ⟨rfl,rfl⟩))
 go_ret;exact⟨rfl,(bW _ _).alloc (nR _) _⟩
theorem l4tell_no (w:World) (C:Co) (s:Sl) (old:Int) (e:esZ C.p C.te C.re=old):Calls Tp 104 #[aG (coL C s).toArray,I J old] w fun o w'=>o = rT (aG (coL C s).toArray)∧Below w.heap.size w w':=by
 have H0:Hid (dcS w C s ((w.alloc (.cells (coL C s).toArray 41)).alloc (.cells zY.toArray 41))):=dcS.new w C s
 have HES:Hid (∀ W,Calls Tp 27 #[aG (coL C s).toArray] W fun o w'=>o = rT (I J old)∧Below W.heap.size W w'):=fun W=>by rw[← e];exact specES_any W C s
 clear e;go_enter Tryz.func104,Tryz.ntmps104
 go_wp2_with (first
  | (refine lq41 H0.out.p.load ?_))
 refine (HES.out _).mono ?_
 rintro o w1 ⟨rfl,hb1⟩;have H1:Hid (dcS w C s w1):=H0.out.below hb1
 clear H0 hb1 HES;go_wp2_with (first
  | (refine lq41 H1.out.p.load ?_)
  | (refine sq41 H1.out.r ?_;generalize hW8:World.setCells _ (w.heap.size+1) 0 _=w8;have HW8:Hid (_=w8):=hW8;clear hW8))
 have e8:=HW8.out
 have hF:blk w8 (w.heap.size+1) (coL C s) 41:=by
  rw[← e8]
  exact H1.out.r.core rfl _ _
 have hL:=rq41 hF
 refine bC Tryz.results104 hL ?_
 exact⟨rfl,by rw[← e8];exact sW (by omega) 0 _ H1.out.b⟩
theorem l4tell_q (w:World) (C:Co) (s:Sl) (B T g4:Nat) (old:Int) (e:¬ esZ C.p C.te C.re=old) (ha:s.a4=some ⟨g4,0,none⟩) (hQ:rowQ8 B T 67 g4 s.n4 s.k4 C.ho.qu w) (hB:B≤T) (hT:T≤w.heap.size) (hn:s.n4≤1000) (hlo:0≤C.ho.lo∧C.ho.lo≤100000) :
  Calls Tp 104 #[aG (coL C s).toArray,I J old] w fun o w'=>∃ g' n' k',o = rT (aG (coL { C with ho:=pH C.ho (ev3 10 (esZ C.p C.te C.re) 0) } (qSl s g' n' k')).toArray)∧(∀ V:World,(∀ x,B≤x→x<T∨w.heap.size≤x→x<w'.heap.size→V.heap[x]?=w'.heap[x]?)→w'.heap.size≤V.heap.size→rowQ8 B V.heap.size 67 g' n' k' (quP C.ho.c3 C.ho.qu (ev3 10 (esZ C.p C.te C.re) 0)) V)∧(∀ q,q≠g4→q<w.heap.size→w'.heap[q]?=w.heap[q]?)∧Below B w w':=by
 have H0:Hid (dcS w C s ((w.alloc (.cells (coL C s).toArray 41)).alloc (.cells zY.toArray 41))):=dcS.new w C s
 have HG4:Hid (g4<T):=by obtain⟨rs,_,_,_,h4,_⟩:=hQ;exact h4
 have HBT:Hid (B≤T∧T≤w.heap.size):=⟨hB,hT⟩
 have HES:Hid (∀ W,Calls Tp 27 #[aG (coL C s).toArray] W fun o w'=>o = rT (I J (esZ C.p C.te C.re))∧Below W.heap.size W w'):=fun W=>specES_any W C s
 have HSY:Hid (∀ W,Below w.heap.size w W→Calls Tp 77 #[aG (coL C s).toArray,I J 10,I J (esZ C.p C.te C.re),I J 0] W fun o w'=>∃ g' n' k',o = rT (aG (coL { C with ho:=pH C.ho (ev3 10 (esZ C.p C.te C.re) 0) } (qSl s g' n' k')).toArray)∧(∀ V:World,(∀ x,B≤x→x<T∨W.heap.size≤x→x<w'.heap.size→V.heap[x]?=w'.heap[x]?)→w'.heap.size≤V.heap.size→rowQ8 B V.heap.size 67 g' n' k' (quP C.ho.c3 C.ho.qu (ev3 10 (esZ C.p C.te C.re) 0)) V)∧(∀ q,q≠g4→q<W.heap.size→w'.heap[q]?=W.heap[q]?)∧Below B W w'):=fun W hW=>l4say_q W C s B T g4 10 (esZ C.p C.te C.re) 0 ha (hQ.keep fun q h1 h2=>hW.block q (by omega)) hB (by have:=hW.size;omega) hn hlo
 clear ha hQ hB hT hn hlo;generalize esZ C.p C.te C.re=es at *;have d1:(es == old)=false:=by simpa using e
 have d2:(es != old)=true:=by simpa using e
 clear e;go_enter Tryz.func104,Tryz.ntmps104
 go_wp2_with (first
  | (refine lq41 H0.out.p.load ?_))
 refine (HES.out _).mono ?_
 rintro o w1 ⟨rfl,hb1⟩;have H1:Hid (dcS w C s w1):=H0.out.below hb1
 clear H0 hb1 HES;go_wp2_with (first
  | (refine lq41 H1.out.p.load ?_))
 refine (HSY.out _ H1.out.b).mono ?_
 rintro o w2 ⟨g',n',k',rfl,q1,q2,q3⟩;have HQ1:Hid (∀ V:World,(∀ x,B≤x→x<T∨w1.heap.size≤x→x<w2.heap.size→V.heap[x]?=w2.heap[x]?)→w2.heap.size≤V.heap.size→rowQ8 B V.heap.size 67 g' n' k' (quP C.ho.c3 C.ho.qu (ev3 10 es 0)) V):=q1
 have H2:Hid (blk w2 (w.heap.size+1) Z21 41∧w.heap.size+1<w1.heap.size∧w1.heap.size≤w2.heap.size):=⟨H1.out.r.kept (q2 _ (by have:=HG4.out;have:=HBT.out;omega) H1.out.r.lt),H1.out.r.lt,q3.size⟩
 have HK2:Hid (∀ q,q≠g4→q<w.heap.size→w2.heap[q]?=w.heap[q]?):=fun q h1 h2=>(q2 q h1 (nL h2 H1.out.b.size)).trans (H1.out.b.block q h2)
 have HB2:Hid (Below B w w2):=(H1.out.b.mono (by have:=HBT.out;omega)).trans q3
 clear q1 q2 q3 H1 HSY;go_wp2_with (first
  | (refine sq41 H2.out.1 ?_;generalize hW4:World.setCells w2 (w.heap.size+1) 0 _=w4;have H4:Hid (blk w4 (w.heap.size+1) (coL { C with ho:=pH C.ho (ev3 10 es 0) } (qSl s g' n' k')) 41∧(∀ q,q≠w.heap.size+1→w4.heap[q]?=w2.heap[q]?)∧w4.heap.size=w2.heap.size∧Below B w w4):=(by rw[← hW4];exact⟨H2.out.1.core rfl _ _,fun q h1=>sO _ q h1 _ _ _,sZ ..,sW (by have:=HBT.out;omega) 0 _ HB2.out⟩);clear hW4))
 have hL:=rq41 H4.out.1
 refine bC Tryz.results104 hL ?_
 have hz:=H4.out.2.2.1
 have hz2:=H2.out.2
 have hbt:=HBT.out
 refine⟨g',n',k',rfl,fun V h1 h2=>HQ1.out V (fun q h3 h4 h5=>(h1 q h3 (by omega) (by omega)).trans (H4.out.2.1 q (by omega))) (by omega),fun q h1 h2=>(H4.out.2.1 q (by omega)).trans (HK2.out q h1 h2),H4.out.2.2.2⟩
variable {H:Ho} {B T0 T1 T2 n T g k:Nat} {W w w' V:World} {s s0:Sl} {C:Co} {bs:List R8}
def k41 (T:Nat) (w w':World):Prop:=∀ q L,T≤q→blk w q L 41→blk w' q L 41
theorem k41.trans {w'':World} (h:k41 T w w') (h':k41 T w' w''):k41 T w w'':=fun q L hq hb=>h' q L hq (h q L hq hb)
theorem k41.below (h:Below w.heap.size w w'):k41 T w w':=fun q L _ hb=>hb.below h
theorem coL_nb (C:Co) (s:Sl) (j:Int):Value.int .u8 j ∉ coL C s:=by
 unfold coL
 simp
theorem Z21_nb (j:Int):Value.int .u8 j ∉ Z21:=by
 unfold Z21
 simp
theorem rowQ8.neT (h:rowQ8 B T 67 g n k bs W) {x:Nat} {L:List Value} (hx:blk W x L 41):g≠x:=by
 obtain⟨rs,ho,_⟩:=h
 rcases ho.own.2 with⟨e,_⟩|⟨g1,cap,cur,hv',hb,hgg,_⟩
 ·cases e
 cases hv'
 rintro rfl
 unfold blk at hx
 rw[hgg] at hx
 injection hx with hx
 injection hx with _ hx _
 exact absurd hx (by decide)
theorem iB.farL {a:Option Addr} {cap:Nat} {l:List Nat} (h:iB W a n cap l) {x:Nat} {L:List Value} {ty:TypeId} (hx:blk W x L ty) (hL:∀ j,Value.int .u8 j ∉ L) (hV:∀ q,q≠x→V.heap[q]?=W.heap[q]?):iB V a n cap l:=by
 refine⟨h.len,h.cap,h.small,fun hne=>?_⟩
 obtain⟨g,off,e,hc⟩:=h.cells hne
 refine⟨g,off,e,fun j hj=>?_⟩
 have hcj:=hc j hj
 have hg:g≠x:=by
  rintro rfl
  refine hL (l[j]:Int) ?_
  unfold blk at hx
  unfold World.cell? at hcj
  rw[hx] at hcj
  simp at hcj
  exact List.mem_of_getElem? hcj
 unfold World.cell? at hcj ⊢
 rw[hV g hg]
 exact hcj
theorem rowQ8.vars (h:rowQ8 B T 67 g n k bs W) {x:Nat} {L:List Value} (hx:blk W x L 41) (hL:∀ j,Value.int .u8 j ∉ L) (hV:∀ q,q≠x→V.heap[q]?=W.heap[q]?) (hz:V.heap.size=W.heap.size):rowQ8 B T 67 g n k bs V:=by
 have hg:=h.neT hx
 obtain⟨rs,ho,hm,hn,hgT,hall⟩:=h
 refine⟨rs,⟨oK ho.own (hV g hg),fun p hp=>?_⟩,hm,hn,hgT,hall⟩
 obtain⟨d1,d2,d3,d4⟩:=ho.dat p hp
 exact⟨d1.farL hx hL hV,d2,d3,by omega⟩
theorem spS.vars (h:spS B T0 T1 T2 H s W) {x:Nat} {L:List Value} (hx:blk W x L 41) (hT:T2≤x) (hL:∀ j,Value.int .u8 j ∉ L) (hV:∀ q,q≠x→V.heap[q]?=W.heap[q]?) (hz:V.heap.size=W.heap.size):spS B T0 T1 T2 H s V:=by
 obtain⟨o1,o2,o3,o4⟩:=h.o
 obtain⟨gf,e1,h1a,h1b,h1⟩:=h.f
 obtain⟨gb,hs,e2,h2⟩:=h.x
 obtain⟨gq,e3,h3⟩:=h.r
 obtain⟨g4,e4,h4⟩:=h.q
 refine⟨⟨gf,e1,h1a,h1b,h1.same (hV gf (by omega))⟩,⟨gb,hs,e2,h2.st fun q h1 h2=>hV q (by omega)⟩,⟨gq,e3,h3.keep fun q h1 h2=>hV q (by omega)⟩,⟨g4,e4,?_⟩,⟨o1,o2,o3,by omega⟩⟩
 rw[hz]
 exact h4.vars hx hL hV hz
theorem spS.n2 (h:spS B T0 T1 T2 H s W):s.n2=H.bx.length:=by
 obtain⟨gb,hs,_,h2⟩:=h.x
 exact h2.len
theorem spS.n4 (h:spS B T0 T1 T2 H s W):s.n4=H.qu.length:=by
 obtain⟨g4,_,h4⟩:=h.q
 exact h4.is.len
structure bdQ (n:Nat) (H:Ho):Prop where
 q:H.qu.length≤n
 lo:0≤H.lo∧H.lo≤100000
theorem bdQ.post (h:bdQ n H) (e:R8):bdQ (n+1) (pH H e):=by
 refine⟨?_,?_⟩
 ·show (quP H.c3 H.qu e).length≤n+1
  have:=h.q
  unfold quP
  split
  ·rw[List.length_append,List.length_singleton];omega
  ·omega
 ·show 0≤loP H.c3 H.qu H.lo∧loP H.c3 H.qu H.lo≤100000
  have:=h.lo
  unfold loP
  split
  ·exact h.lo
  ·split
   ·omega
   ·exact h.lo
theorem bdQ.up (h:bdQ n H) {m:Nat} (hm:n≤m):bdQ m H:=⟨nT h.q hm,h.lo⟩
theorem bdQ.rel (h:bdQ n H) (sent:Bool):bdQ (n+1) (relHo H sent):=by
 have hf:∀ k,bdQ n (freeHo H k):=fun k=>⟨h.q,h.lo⟩
 unfold relHo
 split
 ·split
  ·exact (hf _).post _
  ·split
   ·exact (hf _).post _
   ·rw[stHo_yes (by assumption)]
    exact⟨Nat.le_succ_of_le h.q,h.lo⟩
 ·exact h.up (Nat.le_succ _)
theorem okHo.bd (h:okHo H):bdQ 900 H:=by
 have h1:=of_decide_eq_true h.cf
 have h2:=h.nq
 exact⟨by omega,h.l0,h.l1⟩
theorem l4say_c (W:World) (C:Co) (s:Sl) (B T0 T1 T2:Nat) (x y z:Int) (h:spS B T0 T1 T2 C.ho s W) (hb:bdQ 1000 C.ho) :
  Calls Tp 77 #[aG (coL C s).toArray,I J x,I J y,I J z] W fun o w'=>∃ s',o = rT (aG (coL { C with ho:=pH C.ho (ev3 x y z) } s').toArray)∧spS B T0 T1 T2 (pH C.ho (ev3 x y z)) s' w'∧k41 T2 W w'∧Below B W w':=by
 obtain⟨g4,ha,hQ⟩:=h.q
 have ho:=h.o
 refine (l4say_q W C s T2 W.heap.size g4 x y z ha hQ ho.2.2.2 (nR _) (by rw[h.n4];exact hb.q) hb.lo).mono ?_
 rintro o w' ⟨g',n',k',rfl,q1,q2,q3⟩;have hg:=hQ.glt
 exact⟨qSl s g' n' k',rfl,h.post (q1 w' (fun _ _ _ _=>rfl) (nR _)) (fun q h1 h2=>q2 q (by omega) (by omega)) q3.size,fun q L hq hb=>hb.kept (q2 q (fun e=>hQ.neT hb e.symm) hb.lt),q3.mono (by omega)⟩
theorem l3rel_c (W:World) (H:Ho) (s:Sl) (sent:Bool) (B T0 T1 T2:Nat) (h:spS B T0 T1 T2 H s W) (hb:bdQ 1000 H) (hn2:H.bx.length≤1000) (hsm:∀ j (h:j<H.bx.length),H.bx[j].l.length≤1048576) :
  Calls Tp 102 #[aG (hoL H s).toArray,bO sent] W fun o w'=>∃ s',o = rT (aG (hoL (relHo H sent) s').toArray)∧spS B T0 T1 T2 (relHo H sent) s' w'∧k41 T2 W w'∧Below B W w':=by
 obtain⟨g4,ha,hQ⟩:=h.q
 have ho:=h.o
 refine (l3doRelease_fr B T0 T1 T2 W H s sent h (by rw[h.n2];exact hn2) (by rw[h.n4];exact hb.q) hb.lo hsm).mono ?_
 rintro o w' ⟨s',rfl,q1,q2,q3⟩;exact⟨s',rfl,q1,fun q L hq hb=>hb.kept (q3 q (by omega) hb.lt (fun e=>by rw[ha] at e;exact hQ.neT hb (by cases e;rfl))),q2⟩
def tlC (C:Co) (old:Int):Co:=if esZ C.p C.te C.re=old then C else { C with ho:=pH C.ho (ev3 10 (esZ C.p C.te C.re) 0) }
theorem l4tell_c (W:World) (C:Co) (s:Sl) (B T0 T1 T2:Nat) (old:Int) (h:spS B T0 T1 T2 C.ho s W) (hb:bdQ 1000 C.ho) :
  Calls Tp 104 #[aG (coL C s).toArray,I J old] W fun o w'=>∃ s',o = rT (aG (coL (tlC C old) s').toArray)∧spS B T0 T1 T2 (tlC C old).ho s' w'∧k41 T2 W w'∧Below B W w':=by
 have ho:=h.o
 by_cases e:esZ C.p C.te C.re=old
 ·rw[show tlC C old=C from if_pos e]
  refine (l4tell_no W C s old e).mono ?_
  rintro o w' ⟨rfl,q⟩;exact⟨s,rfl,h.below q,k41.below q,q.mono (by omega)⟩
 ·rw[show tlC C old = { C with ho:=pH C.ho (ev3 10 (esZ C.p C.te C.re) 0) } from if_neg e]
  obtain⟨g4,ha,hQ⟩:=h.q
  refine (l4tell_q W C s T2 W.heap.size g4 old e ha hQ ho.2.2.2 (nR _) (by rw[h.n4];exact hb.q) hb.lo).mono ?_
  rintro o w' ⟨g',n',k',rfl,q1,q2,q3⟩;have hg:=hQ.glt
  exact⟨qSl s g' n' k',rfl,h.post (q1 w' (fun _ _ _ _=>rfl) (nR _)) (fun q h1 h2=>q2 q (by omega) (by omega)) q3.size,fun q L hq hb=>hb.kept (q2 q (fun e=>hQ.neT hb e.symm) hb.lt),q3.mono (by omega)⟩
theorem addS_ho (C:Co) (n:Int):(addS C n).ho=C.ho:=by
 unfold addS
 split
 ·show (addC C C.tx n).ho=_
  unfold addC
  split <;> rfl
 ·unfold addC
  split <;> rfl
structure vS (w:World) (B T0 T1 T2:Nat) (C:Co) (s0:Sl) (H:Ho) (s:Sl) (W:World):Prop where
 p:blk W w.heap.size (coL C s0) 41
 r:blk W (w.heap.size+1) Z21 41
 sp:spS B T0 T1 T2 H s W
 b:Below B w W
 k:k41 T2 w W
 o:T2≤w.heap.size∧B≤w.heap.size
theorem vS.new (h:spS B T0 T1 T2 C.ho s w):vS w B T0 T1 T2 C s C.ho s ((w.alloc (.cells (coL C s).toArray 41)).alloc (.cells Z21.toArray 41)):=by
 have hd:=dcS.new w C s
 have ho:=h.o
 exact⟨hd.p,hd.r,h.below hd.b,hd.b.mono (by omega),k41.below hd.b,by omega,by omega⟩
theorem vS.call (h:vS w B T0 T1 T2 C s0 H s W) {H':Ho} {s':Sl} (hs:spS B T0 T1 T2 H' s' w') (hk:k41 T2 W w') (hb:Below B W w'):vS w B T0 T1 T2 C s0 H' s' w':=
 ⟨hk _ _ h.o.1 h.p,hk _ _ (by have:=h.o;omega) h.r,hs,h.b.trans hb,h.k.trans hk,h.o⟩
theorem vS.below (h:vS w B T0 T1 T2 C s0 H s W) (hb:Below W.heap.size W w'):vS w B T0 T1 T2 C s0 H s w':=
 h.call (h.sp.below hb) (k41.below hb) (hb.mono (by have:=h.b.size;have:=h.o;omega))
theorem vS.other (h:vS w B T0 T1 T2 C s0 H s W) {C':Co} {s1:Sl} (hp:blk V w.heap.size (coL C' s1) 41) (hV:∀ q,q≠w.heap.size→V.heap[q]?=W.heap[q]?) (hz:V.heap.size=W.heap.size) (hb:Below B w V):vS w B T0 T1 T2 C' s1 H s V:=
 ⟨hp,h.r.kept (hV _ (by omega)),h.sp.vars h.p h.o.1 (coL_nb C s0) hV hz,hb,fun q L hq hb=>(h.k q L hq hb).kept (hV q (by have:=hb.lt;omega)),h.o⟩
theorem vS.put (h:vS w B T0 T1 T2 C s0 H s W) (C':Co) (s1:Sl):vS w B T0 T1 T2 C' s1 H s (W.setCells w.heap.size 0 (coL C' s1)):=
 h.other (h.p.core rfl C' s1) (fun q hq=>sO _ q hq _ _ _) (sZ ..) (sW h.o.2 0 _ h.b)
theorem vS.host (h:vS w B T0 T1 T2 C s0 H s W) (H':Ho) (s1:Sl):vS w B T0 T1 T2 { C with ho:=H' } s1 H s (W.setCells w.heap.size 11 (hoL H' s1)):=
 h.other (h.p.host H' s1) (fun q hq=>sO _ q hq _ _ _) (sZ ..) (sW h.o.2 11 _ h.b)
theorem vS.set (h:vS w B T0 T1 T2 C s0 H s W) (i:Nat) (v:Value) (C':Co) (e:(coL C s0).set i v=coL C' s0):vS w B T0 T1 T2 C' s0 H s (W.setCell ⟨w.heap.size,i,none⟩ v):=
 h.other (by rw[← e];exact h.p.set i v) (fun q hq=>heap_setCell_other W ⟨w.heap.size,i,none⟩ q _ hq) (by simp) (h.b.setCell (by exact h.o.2) _)
theorem vS.ret (h:vS w B T0 T1 T2 C s0 H s W) (C':Co) (s1:Sl):blk (W.setCells (w.heap.size+1) 0 (coL C' s1)) (w.heap.size+1) (coL C' s1) 41∧spS B T0 T1 T2 H s (W.setCells (w.heap.size+1) 0 (coL C' s1))∧k41 T2 w (W.setCells (w.heap.size+1) 0 (coL C' s1))∧Below B w (W.setCells (w.heap.size+1) 0 (coL C' s1)):=by
 have ho:=h.o
 have hV:∀ q,q≠w.heap.size+1→(W.setCells (w.heap.size+1) 0 (coL C' s1)).heap[q]?=W.heap[q]?:=fun q hq=>sO _ q hq _ _ _
 exact⟨h.r.core rfl C' s1,h.sp.vars h.r (by omega) Z21_nb hV (sZ ..),fun q L hq hb=>(h.k q L hq hb).kept (hV q (by have:=hb.lt;omega)),sW (by omega) 0 _ h.b⟩
variable {C:Co} {w W V:World} {B T0 T1 T2:Nat} {H:Ho} {s:Sl}
theorem hidS {s0:Sl} (e:W=V) (h:vS w B T0 T1 T2 C s0 H s W):Hid (vS w B T0 T1 T2 C s0 H s V):=by rw[← e];exact h
theorem hidR {L:List Value} (e:W=V) (h:blk W (w.heap.size+1) L 41∧spS B T0 T1 T2 H s W∧k41 T2 w W∧Below B w W):Hid (blk V (w.heap.size+1) L 41∧spS B T0 T1 T2 H s V∧k41 T2 w V∧Below B w V):=by rw[← e];exact h
def flt4 (X:Co):Co:=if X.p=7 then X else { X with p:=2,ct:=0,lv:=0,ov:=false }
theorem wrP_rel (hok:okCo C) (k b:Int) (h:¬ (C.p=1∧C.tx=true)):relHo (pH C.ho (ev3 8 k b)) false=pH C.ho (ev3 8 k b):=relHo_none (fun e=>h (hok.s.2 (fun ha=>ha _ e (wireIx_on e))))
theorem addS_0 (X:Co) (ht:0≤X.te∧X.te<256) (hr:0≤X.re∧X.re≤255):addS X 0=X:=by
 have e:addC X X.tx 0=X:=by
  unfold addC
  split
  ·rw[if_neg (by omega),Int.add_zero]
  ·rw[Int.add_zero,Int.min_eq_left hr.2]
 unfold addS
 rw[e,if_neg (by omega)]
theorem flt_end (hp:C.p≠7) (k:Int):tlC (flt4 (addS (fltM C k) (fwZ C.tx (fltO C k) C.p k))) (stZ C.te C.re)=actC C (fltC C k):=by
 have e1:∀ X:Co,X.p≠7→X.te≠256→∀ b,tlC X b=tellC X b:=fun X h1 h2 b=>by
  unfold tlC tellC esZ stZ
  rw[if_neg h1,if_neg h2]
 have e2:∀ X:Co,X.te=256→∀ b,tlC (offC X) b=tellC (offC X) b:=fun X h2 b=>by
  unfold tlC tellC
  have h3:(offC X).te=256:=h2
  have h4:(offC X).p=7:=rfl
  unfold esZ stZ
  rw[if_pos h3,if_pos h4]
 obtain⟨A,eA⟩ : ∃ A,addC (fltM C k) C.tx (fwZ C.tx (fltO C k) C.p k)=A:=⟨_,rfl⟩
 have ea:addS (fltM C k) (fwZ C.tx (fltO C k) C.p k)=if A.te=256 then offC A else A:=by
  rw[← eA]
  rfl
 have ef:fltC C k = { A with p:=2,ct:=0,lv:=0,ov:=false }:=by rw[← eA];rfl
 have ep:A.p=C.p:=by rw[← eA];unfold addC;split <;> rfl
 rw[ea,ef]
 unfold actC
 by_cases e:A.te=256
 ·rw[if_pos e,if_pos ⟨e,by show (2:Int)≠7;decide⟩]
  show tlC (flt4 (offC A)) _=tellC (offC A) _
  rw[show flt4 (offC A)=offC A from if_pos rfl]
  exact e2 A e _
 ·rw[if_neg e,if_neg (fun x=>e x.1)]
  rw[show flt4 A = { A with p:=2,ct:=0,lv:=0,ov:=false } from if_neg (by rw[ep];exact hp)]
  exact e1 { A with p:=2,ct:=0,lv:=0,ov:=false } (by show (2:Int)≠7;decide) e _
theorem l4doFault_any (w:World) (C:Co) (s:Sl) (B T0 T1 T2:Nat) (k:Int) (h:spS B T0 T1 T2 C.ho s w) (hok:okCo C) (hp:C.p≠7) (hn:C.ho.le 1048576) :
  Calls Tp 42 #[aG (coL C s).toArray,I J k] w fun o w'=>∃ s',o = rT (aG (coL (actC C (fltC C k)) s').toArray)∧spS B T0 T1 T2 (actC C (fltC C k)).ho s' w'∧k41 T2 w w'∧Below B w w':=by
 have H0:Hid (vS w B T0 T1 T2 C s C.ho s ((w.alloc (.cells (coL C s).toArray 41)).alloc (.cells zY.toArray 41))):=vS.new h
 obtain⟨es,hes⟩ : ∃ es,stZ C.te C.re=es:=⟨_,rfl⟩
 obtain⟨fv,hfv⟩ : ∃ fv:Int,fv=if C.tx then 1 else 0:=⟨_,rfl⟩
 have hbd:=hok.h.bd
 have hte:0≤C.te∧C.te<256:=⟨hok.m.te.1,by have:=hok.m.te.2;have:C.te≠256:=fun e=>hp (hok.m.of.2 e);omega⟩
 have HES:Hid (∀ W,Calls Tp 27 #[aG (coL C s).toArray] W fun o w'=>o = rT (I J es)∧Below W.heap.size W w'):=fun W=>by
  have:=specES_any W C s
  rw[show esZ C.p C.te C.re=es by rw[← hes];unfold esZ stZ;rw[if_neg hp,if_neg (show ¬ C.te=256 by omega)]] at this
  exact this
 have HEN:Hid (tlC (flt4 (addS (fltM C k) (fwZ C.tx (fltO C k) C.p k))) es=actC C (fltC C k)):=by rw[← hes];exact flt_end hp k
 obtain⟨H1,eH1⟩ : ∃ H1,pH C.ho (ev3 8 k fv)=H1:=⟨_,rfl⟩
 have hb1:bdQ 901 H1:=by rw[← eH1];exact hbd.post _
 have HFH:Hid (relHo H1 false=fltH C k):=by show _=_;unfold fltH;rw[← eH1,hfv]
 have HNR:Hid ((C.p == 1 && C.tx)=false→fltH C k=H1):=fun hh=>by rw[← HFH.out,← eH1];exact wrP_rel hok k fv (by simpa using hh)
 have HSY:Hid (∀ W,spS B T0 T1 T2 C.ho s W→Calls Tp 77 #[aG (coL C s).toArray,I J 8,I J k,I J fv] W fun o w'=>∃ s',o = rT (aG (coL { C with ho:=H1 } s').toArray)∧spS B T0 T1 T2 H1 s' w'∧k41 T2 W w'∧Below B W w'):=fun W hW=>by rw[← eH1];exact l4say_c W C s B T0 T1 T2 8 k fv hW (hbd.up (by decide))
 have HRE:Hid (∀ W s',spS B T0 T1 T2 H1 s' W→Calls Tp 102 #[aG (hoL H1 s').toArray,bO false] W fun o w'=>∃ s',o = rT (aG (hoL (fltH C k) s').toArray)∧spS B T0 T1 T2 (fltH C k) s' w'∧k41 T2 W w'∧Below B W w'):=fun W s' hW=>by rw[← HFH.out];exact l3rel_c W H1 s' false B T0 T1 T2 hW (hb1.up (by decide)) (by rw[← eH1];show C.ho.bx.length≤1000;have:=hok.h.n2;omega) (by rw[← eH1];exact hn.bd)
 have HBH:Hid (bdQ 902 (fltH C k)):=by rw[← HFH.out];exact hb1.rel false
 have HAD:Hid (∀ W n s',0≤n∧n≤8→Calls Tp 103 #[aG (coL (fltM C k) s').toArray,I J n] W fun o w'=>o = rT (aG (coL (addS (fltM C k) n) s').toArray)∧Below W.heap.size W w'):=fun W n s' hn=>l4add_any W (fltM C k) s' n hn hte hok.m.re
 have HTL:Hid (∀ W X s',spS B T0 T1 T2 X.ho s' W→X.ho=fltH C k→Calls Tp 104 #[aG (coL X s').toArray,I J es] W fun o w'=>∃ s'',o = rT (aG (coL (tlC X es) s'').toArray)∧spS B T0 T1 T2 (tlC X es).ho s'' w'∧k41 T2 W w'∧Below B W w'):=fun W X s' hW e=>l4tell_c W X s' B T0 T1 T2 es hW (by rw[e];exact HBH.out.up (by decide))
 have HFV:Hid ((C.tx=true→fv=1)∧(C.tx=false→fv=0)):=⟨fun e=>by rw[hfv,e];rfl,fun e=>by rw[hfv,e];rfl⟩
 obtain⟨oq,eoq⟩ : ∃ b,((es == 1) && C.tx && (k == 5))=b:=⟨_,rfl⟩
 have HM:Hid (fltM C k = { { C with ho:=fltH C k } with wk:=es == 1,ow:=oq }):=by show _=_;rw[← eoq];unfold fltM fltO fltW;rw[hes]
 have HOQ:Hid (((es == 1) && C.tx && (k == 5))=oq):=eoq
 have HNZ:Hid (addS (fltM C k) 0=fltM C k):=addS_0 _ hte hok.m.re
 have HFW:Hid (fltO C k=(fltM C k).ow):=rfl
 clear h hok hp hn hes hfv hbd hte eH1 hb1 eoq;go_enter Tryz.func42,Tryz.ntmps42
 go_wp2_with (first | (refine lq41 H0.out.p.load ?_))
 refine (HES.out _).mono ?_
 rintro o w1 ⟨rfl,hb1⟩;have HV1:Hid (vS w B T0 T1 T2 C s C.ho s w1):=H0.out.below hb1
 obtain⟨tx,etx⟩ : ∃ tx,C.tx=tx:=⟨_,rfl⟩
 have y6:=HV1.out.p.cell 6 (bO C.tx) rfl
 rw[etx] at y6
 have HTX:Hid (C.tx=tx):=etx
 rw[etx] at HFV
 clear H0 hb1 HES etx;go_upto_if 10 with fail
 go_cut [6] (fun s6 wx=>s6 = I J fv∧wx=w1)
 case first=>
  cases tx
  ·go_wp2_with fail;go_meet
   case rel=>exact⟨by rw[HFV.out.2 trivial],rfl⟩
  ·go_wp2_with fail;go_meet
   case rel=>exact⟨by rw[HFV.out.1 trivial],rfl⟩
 case rest=>
 obtain⟨rfl,hw⟩:=hcut
 subst hw;go_wp2_with (first | (refine lq41 HV1.out.p.load ?_))
 refine (HSY.out _ HV1.out.sp).mono ?_
 rintro o w2 ⟨s2,rfl,q1,q2,q3⟩;have HV2:Hid (vS w B T0 T1 T2 C s H1 s2 w2):=HV1.out.call q1 q2 q3
 clear q1 q2 q3 y6 HV1 HSY HFV;go_upto_region 6 with (first | (refine sq41 HV2.out.p ?_;generalize hW3:World.setCells _ w.heap.size 0 _=w3;have HV3:=hidS hW3 (HV2.out.put { C with ho:=H1 } s2);clear hW3))
 have y0:=HV3.out.p.cell 0 (I J C.p) rfl
 have y6:=HV3.out.p.cell 6 (bO C.tx) rfl
 rw[HTX.out] at y6
 obtain⟨b1,eb1⟩ : ∃ b,(C.p == 1)=b:=⟨_,rfl⟩
 simp only[Act.put]
 go_cut [21] (fun s21 wx=>s21 = bO (b1 && tx)∧wx=w3)
 case first=>
  cases b1 <;> cases tx <;> (
   go_wp2_with fail;go_meet
   case rel=>exact⟨rfl,rfl⟩)
 case rest=>
 obtain⟨rfl,hw⟩:=hcut
 subst hw;rw[eb1,HTX.out] at HNR
 clear eb1 y0 y6 HV2;obtain⟨b2,eb2⟩ : ∃ b,(b1 && tx)=b:=⟨_,rfl⟩
 rw[eb2]
 rw[eb2] at HNR
 clear eb2;go_upto_if 21 with fail
 go_cut [] (fun wx=>∃ s3,Hid (vS w B T0 T1 T2 { C with ho:=fltH C k } s3 (fltH C k) s3 wx))
 case first=>
  cases b2
  ·go_wp2_with fail;go_meet
   case rel=>exact⟨s2,by rw[HNR.out trivial];exact HV3.out⟩
  ·go_wp2_with (first | (refine wpList_load_mid (P:=Tp) rfl 39 (.tmp 22) rfl w.heap.size 11 rfl (hoL H1 s2) _ HV3.out.p.hostAt Tryz.underlying39 rfl (sz39h _ _) ?_))
   refine (HRE.out _ s2 HV3.out.sp).mono ?_
   rintro o w4 ⟨s4,rfl,q1,q2,q3⟩;have HV4:Hid (vS w B T0 T1 T2 { C with ho:=H1 } s2 (fltH C k) s4 w4):=HV3.out.call q1 q2 q3
   clear q1 q2 q3;go_wp2_with (first | (refine wpList_store_mid (P:=Tp) rfl 39 (.tmp 25) (.tmp 24) rfl w.heap.size 11 (hoL (fltH C k) s4).toArray rfl rfl (HV4.out.p.there 11 _ (by rw[List.size_toArray,hoL_len,cL];decide)) (sz39A _ _) (hoL_one _ _) ?_;generalize hW5:World.setCells _ w.heap.size 11 _=w5;have HV5:=hidS hW5 (HV4.out.host (fltH C k) s4);clear hW5))
   go_meet
   case rel=>exact⟨s4,HV5.out⟩
 case rest=>
 obtain⟨s3,HV5⟩:=hcut
 clear HV3 HRE HNR HFH;have f3:=HV5.out.p.free 3
 obtain⟨wk,ewk⟩ : ∃ b,(es == 1)=b:=⟨_,rfl⟩
 have y3:=HV5.out.p.cell 3 (bO C.wk) rfl
 go_upto_region 9 with fail
 have HV6:Hid (vS w B T0 T1 T2 { C with wk:=wk,ho:=fltH C k } s3 (fltH C k) s3 (World.setCell wc ⟨w.heap.size,3,none⟩ (bO wk))):=HV5.out.set 3 (bO wk) _ rfl
 generalize World.setCell wc ⟨w.heap.size,3,none⟩ (bO wk)=w6 at *;clear f3 y3 HV5;have y3:=HV6.out.p.cell 3 (bO wk) rfl
 have y6:=HV6.out.p.cell 6 (bO C.tx) rfl
 have f5:=HV6.out.p.free 5
 obtain⟨k5,ek5⟩ : ∃ b,(k == 5)=b:=⟨_,rfl⟩
 rw[HTX.out] at y6
 rw[HTX.out,ek5,ewk] at HOQ
 rw[ewk] at HM
 have y5:=HV6.out.p.cell 5 (bO C.ow) rfl
 go_cut [] (fun wx=>Hid (vS w B T0 T1 T2 (fltM C k) s3 (fltH C k) s3 wx))
 case first=>
  cases wk <;> cases tx <;> cases k5 <;> (
   go_wp2_with fail;go_meet
   case rel=>rw[HM.out];exact HV6.out.set 5 _ _ (by first | (rw[← HOQ.out];rfl) | (rw[HOQ.out];rfl)))
 case rest=>
 have HV7:=hcut
 clear hcut HV6 y3 y5 y6 f5 HM ek5 ewk HOQ;have y0:=HV7.out.p.cell 0 (I J C.p) rfl
 have y5:=HV7.out.p.cell 5 (bO (fltO C k)) rfl
 have y6:=HV7.out.p.cell 6 (bO C.tx) rfl
 obtain⟨ow,eow⟩ : ∃ b,fltO C k=b:=⟨_,rfl⟩
 rw[eow] at y5 HEN
 rw[HTX.out] at y6 HEN
 clear eow;go_upto_if 41 with fail
 go_cut [] (fun wx=>Hid (vS w B T0 T1 T2 (addS (fltM C k) (fwZ tx ow C.p k)) s3 (fltH C k) s3 wx))
 case first=>
  cases tx
  ·obtain⟨p2,ep2⟩ : ∃ b,(C.p == 2)=b:=⟨_,rfl⟩
   cases p2
   ·have HFZ:Hid (fwZ false ow C.p k=1):=by show _=_;unfold fwZ;rw[ep2];rfl
    go_wp2_with (first | (refine lq41 HV7.out.p.load ?_))
    refine (HAD.out _ 1 s3 (by decide)).mono ?_
    rintro o w8 ⟨rfl,hb8⟩;have HV8:Hid (vS w B T0 T1 T2 (fltM C k) s3 (fltH C k) s3 w8):=HV7.out.below hb8
    clear hb8;go_wp2_with (first | (refine sq41 HV8.out.p ?_;generalize hW9:World.setCells _ w.heap.size 0 _=w9;have HV9:=hidS hW9 (HV8.out.put (addS (fltM C k) 1) s3);clear hW9))
    go_meet
    case rel=>rw[HFZ.out];exact HV9.out
   ·have HFZ:Hid (fwZ false ow C.p k=8):=by show _=_;unfold fwZ;rw[ep2];rfl
    go_wp2_with (first | (refine lq41 HV7.out.p.load ?_))
    refine (HAD.out _ 8 s3 (by decide)).mono ?_
    rintro o w8 ⟨rfl,hb8⟩;have HV8:Hid (vS w B T0 T1 T2 (fltM C k) s3 (fltH C k) s3 w8):=HV7.out.below hb8
    clear hb8;go_wp2_with (first | (refine sq41 HV8.out.p ?_;generalize hW9:World.setCells _ w.heap.size 0 _=w9;have HV9:=hidS hW9 (HV8.out.put (addS (fltM C k) 8) s3);clear hW9))
    go_meet
    case rel=>rw[HFZ.out];exact HV9.out
  ·obtain⟨k6,ek6⟩ : ∃ b,(k == 6)=b:=⟨_,rfl⟩
   have en6:(k != 6) = !k6:=by rw[← ek6];rfl
   cases k6
   ·cases ow
    ·have HFZ:Hid (fwZ true false C.p k=8):=by show _=_;unfold fwZ;rw[ek6];rfl
     go_wp2_with (first | (refine lq41 HV7.out.p.load ?_))
     refine (HAD.out _ 8 s3 (by decide)).mono ?_
     rintro o w8 ⟨rfl,hb8⟩;have HV8:Hid (vS w B T0 T1 T2 (fltM C k) s3 (fltH C k) s3 w8):=HV7.out.below hb8
     clear hb8;go_wp2_with (first | (refine sq41 HV8.out.p ?_;generalize hW9:World.setCells _ w.heap.size 0 _=w9;have HV9:=hidS hW9 (HV8.out.put (addS (fltM C k) 8) s3);clear hW9))
     go_meet
     case rel=>rw[HFZ.out];exact HV9.out
    ·have HFZ:Hid (fwZ true true C.p k=0):=rfl
     go_wp2_with fail;go_meet
     case rel=>rw[HFZ.out,HNZ.out];exact HV7.out
   ·have HFZ:Hid (fwZ true ow C.p k=0):=by show _=_;unfold fwZ;rw[ek6];cases ow <;> rfl
    go_wp2_with fail;go_meet
    case rel=>rw[HFZ.out,HNZ.out];exact HV7.out
 case rest=>
 obtain⟨X3,eX3⟩ : ∃ X,addS (fltM C k) (fwZ tx ow C.p k)=X:=⟨_,rfl⟩
 have HX3:Hid (X3.ho=fltH C k):=by show _=_;rw[← eX3];exact addS_ho _ _
 rw[eX3] at hcut HEN
 have HV9:=hcut
 clear hcut eX3 HAD HNZ HFW HV7 y0 y5 y6;have y0:=HV9.out.p.cell 0 (I J X3.p) rfl
 have y1:=HV9.out.p.cell 1 (I J X3.ct) rfl
 have y2:=HV9.out.p.cell 2 (I J X3.lv) rfl
 have y4:=HV9.out.p.cell 4 (bO X3.ov) rfl
 have f0:=HV9.out.p.free 0
 have f1:=HV9.out.p.free 1
 have f2:=HV9.out.p.free 2
 have f4:=HV9.out.p.free 4
 obtain⟨p7,ep7⟩ : ∃ b,(X3.p == 7)=b:=⟨_,rfl⟩
 have en7:(X3.p != 7) = !p7:=by rw[← ep7];rfl
 go_upto_if 60 with fail
 go_cut [] (fun wx=>Hid (vS w B T0 T1 T2 (flt4 X3) s3 (fltH C k) s3 wx))
 case first=>
  cases p7
  ·have HFL:Hid (flt4 X3 = { X3 with p:=2,ct:=0,lv:=0,ov:=false }):=if_neg (by simpa using ep7)
   go_wp2_with fail;go_meet
   case rel=>rw[HFL.out];exact (((HV9.out.set 0 (I J 2) { X3 with p:=2 } rfl).set 1 (I J 0) { X3 with p:=2,ct:=0 } rfl).set 2 (I J 0) { X3 with p:=2,ct:=0,lv:=0 } rfl).set 4 (bO false) _ rfl
  ·have HFL:Hid (flt4 X3=X3):=if_pos (by simpa using ep7)
   go_wp2_with fail;go_meet
   case rel=>rw[HFL.out];exact HV9.out
 case rest=>
 obtain⟨X4,eX4⟩ : ∃ X,flt4 X3=X:=⟨_,rfl⟩
 have HX4:Hid (X4.ho=fltH C k):=by show _=_;rw[← eX4,← HX3.out];unfold flt4;split <;> rfl
 rw[eX4] at hcut HEN
 have HVA:=hcut
 clear hcut eX4 HV9 y0 y1 y2 y4 f0 f1 f2 f4 ep7 en7;go_wp2_with (first | (refine lq41 HVA.out.p.load ?_))
 refine (HTL.out _ X4 s3 (by rw[HX4.out];exact HVA.out.sp) HX4.out).mono ?_
 rintro o w10 ⟨s10,rfl,q1,q2,q3⟩;have HVB:Hid (vS w B T0 T1 T2 X4 s3 (tlC X4 es).ho s10 w10):=HVA.out.call q1 q2 q3
 clear q1 q2 q3 HTL HVA;go_wp2_with (first | (refine sq41 HVB.out.r ?_;generalize hW11:World.setCells _ (w.heap.size+1) 0 _=w11;have R11:=hidR hW11 (HVB.out.ret (tlC X4 es) s10);clear hW11))
 have hL:=rq41 R11.out.1
 refine bC Tryz.results42 hL ?_
 rw[← HEN.out]
 exact⟨s10,rfl,R11.out.2⟩
theorem hidDX {p:Prop} (h:p):Hid p:=h
theorem rst_cs (C:Co):∃ (C1:Co) (b:Int),(C1.ho=C.ho∧rstC C = { C1 with ho:=pH C.ho (ev3 11 b 0) })∧(({ C with ak:=true }=C1∧b=1∧(C.p == 7)=true∧C.ak=false)∨(C=C1∧b=0∧((C.p == 7)=false∨((C.p == 7)=true∧C.ak=true)))):=by
 obtain⟨p,ct,lv,wk,ov,ow,tx,ak,rn,te,re,H⟩:=C
 cases hp:p == 7 <;> cases ak
 case true.false=>exact⟨⟨p,ct,lv,wk,ov,ow,tx,true,rn,te,re,H⟩,1,⟨rfl,by simp only[rstC,rstT,hp];rfl⟩,Or.inl ⟨rfl,rfl,rfl,rfl⟩⟩
 all_goals exact⟨_,0,⟨rfl,by simp only[rstC,rstT,hp];rfl⟩,Or.inr ⟨rfl,rfl,by simp⟩⟩
theorem l4doRestart_any (w:World) (C:Co) (s:Sl) (B T0 T1 T2:Nat) (h:spS B T0 T1 T2 C.ho s w) (hn:s.n4≤1000) (hlo:0≤C.ho.lo∧C.ho.lo≤100000) :
  Calls Tp 34 #[aG (coL C s).toArray] w fun o w'=>∃ s',o = rT (aG (coL (rstC C) s').toArray)∧spS B T0 T1 T2 (rstC C).ho s' w'∧Below B w w':=by
 have hb:bdQ 1000 C.ho:=⟨by rw[← h.n4];exact hn,hlo⟩
 have F0:Hid _:=vS.new h
 have HS:Hid (∀ (C1:Co) (b:Int) W,C1.ho=C.ho→spS B T0 T1 T2 C.ho s W→Calls Tp 77 #[aG (coL C1 s).toArray,I J 11,I J b,I J 0] W fun o w'=>∃ s',o = rT (aG (coL { C1 with ho:=pH C.ho (ev3 11 b 0) } s').toArray)∧spS B T0 T1 T2 (pH C.ho (ev3 11 b 0)) s' w'∧k41 T2 W w'∧Below B W w'):=fun C1 b W e hW=>by
  have:=l4say_c W C1 s B T0 T1 T2 11 b 0 (by rw[e];exact hW) (by rw[e];exact hb)
  rw[e] at this
  exact this
 obtain⟨C1,b,hr1,hr⟩:=rst_cs C
 have HR:Hid (C1.ho=C.ho∧rstC C = { C1 with ho:=pH C.ho (ev3 11 b 0) }):=hr1
 clear h hn hlo hb hr1;go_enter Tryz.func34,Tryz.ntmps34
 go_upto_region 1 with fail
 generalize hV:World.alloc (World.alloc w _) _=v0
 have F0:Hid (vS w B T0 T1 T2 C s C.ho s v0):=by rw[← hV];exact F0
 clear hV;have y0:=F0.out.p.cell 0 (I J C.p) rfl
 have y7:=F0.out.p.cell 7 (bO C.ak) rfl
 have f7:=F0.out.p.free 7
 have HC:=HR.out.1
 rcases hr with⟨e1,rfl,ep,ea⟩|⟨e1,rfl,ep|⟨ep,ea⟩⟩
 all_goals
  try rw[ea] at y7
  first
   | (have e:=(show C.ak=false from ea);have F1:Hid (vS w B T0 T1 T2 C1 s C.ho s (v0.setCell ⟨w.heap.size,7,none⟩ (bO true))):=F0.out.set 7 (bO true) _ (by rw[← e1];rfl))
   | have F1:Hid (vS w B T0 T1 T2 C1 s C.ho s v0):=by rw[← e1];exact F0
  first
   | have HS1:=hidDX (HS.out C1 1 _ HC (show vS w B T0 T1 T2 C1 s C.ho s (v0.setCell _ _) from F1.out).sp)
   | have HS1:=hidDX (HS.out C1 0 _ HC F1.out.sp)
  clear e1 HC HS F0;generalize C.p=cp at *;go_wp2_with (first | (refine lq41 F1.out.p.load ?_))
  try generalize World.setCell v0 _ _=v1 at *
  clear y0 y7 f7;refine HS1.out.mono ?_
  rintro o w2 ⟨s2,rfl,q1,q2,q3⟩;have H2:=hidS rfl (F1.out.call q1 q2 q3)
  clear q1 q2 q3 F1 HS1;go_wp2_with (first | (refine sq41 H2.out.r ?_;generalize hW4:World.setCells _ (w.heap.size+1) 0 _=w4;have H4:=hidR hW4 (H2.out.ret _ s2);clear hW4))
  refine bC Tryz.results34 (rq41 H4.out.1) ?_
  rw[HR.out.2]
  exact⟨s2,rfl,H4.out.2.1,H4.out.2.2.2⟩
theorem okCo.lo {C:Co} (h:okCo C):0≤C.ho.lo∧C.ho.lo≤100000:=⟨h.h.l0,h.h.l1⟩
theorem spS.isStD {B T0 T1 T2:Nat} {H:Ho} {s:Sl} {W:World} (h:spS B T0 T1 T2 H s W):St B W (fun V=>isHo V H s):=fun V hV=>by
 obtain⟨o1,o2,o3,o4⟩:=h.o
 obtain⟨gf,e1,h1a,h1b,h1⟩:=h.f
 obtain⟨gb,hs,e2,h2⟩:=h.x
 obtain⟨gq,e3,h3⟩:=h.r
 obtain⟨g4,e4,h4⟩:=h.q
 refine⟨?_,?_,?_,?_⟩
 ·rw[e1];exact h1.same (hV gf h1a (by omega))
 ·rw[e2];exact (h2.st fun x h1 h2=>hV x (by omega) (by omega)).is
 ·rw[e3];exact (h3.keep fun x h1 h2=>hV x (by omega) (by omega)).is
 ·rw[e4];exact (h4.keep fun x h1 h2=>hV x (by omega) h2).is
theorem specRestart_any (w:World) (C:Co) (s:Sl) (T:Co) (hR:okRelC C (rstC C) T) (h:isHo w C.ho s) (hn:C.ho.le 1048576) :
  Calls Tp 9 #[aG (coL C s).toArray] w fun o w'=>∃ s',o = rT (aG (coL T s').toArray)∧St w.heap.size w' (fun W=>isHo W T.ho s')∧Below w.heap.size w w':=by
 have H0:Hid (dcS w C s ((w.alloc (.cells (coL C s).toArray 41)).alloc (.cells zY.toArray 41))):=dcS.new w C s
 have HR:Hid (okRelC C (rstC C) T):=hR
 clear hR;by_cases hok:okCo C
 ·have HV:Hid (∀ W,Below w.heap.size w W→Calls Tp 33 #[aG (coL C s).toArray] W fun o w'=>o = rT (bO true)∧Below W.heap.size W w'):=fun W hW=>okLC W C s (h.below hW) hn hok
  have HC:Hid (∀ W,Below w.heap.size w W→Calls Tp 35 #[aG (coL C s).toArray] W fun o w'=>∃ s' T0 T1 T2,o = rT (aG (coL C s').toArray)∧spS (W.heap.size+2) T0 T1 T2 C.ho s' w'∧s'.n2=C.ho.bx.length∧s'.n4=C.ho.qu.length∧Below W.heap.size W w'):=fun W hW=>l4copy_any W C s (h.below hW) hn
  have HOK:Hid (okCo C):=hok
  clear h hn hok;go_enter Tryz.func9,Tryz.ntmps9
  go_wp2_with (first
   | (refine lq41 H0.out.p.load ?_))
  refine (HV.out _ H0.out.b).mono ?_
  rintro o w1 ⟨rfl,hb1⟩;have H1:Hid (dcS w C s w1):=H0.out.below hb1
  clear H0 hb1;go_wp2_with (first
   | (refine lq41 H1.out.p.load ?_))
  refine (HC.out _ H1.out.b).mono ?_
  rintro o w2 ⟨s2,T0,T1,T2,rfl,e4,e2,e3,hb2⟩;have hn4:s2.n4≤1000:=by rw[e3];exact HOK.out.h.n4
  have HD:Hid (Calls Tp 34 #[aG (coL C s2).toArray] w2 fun o w'=>∃ s',o = rT (aG (coL (rstC C) s').toArray)∧spS (w1.heap.size+2) T0 T1 T2 (rstC C).ho s' w'∧Below (w1.heap.size+2) w2 w'):=l4doRestart_any w2 C s2 (w1.heap.size+2) T0 T1 T2 e4 hn4 HOK.out.lo
  have H2:Hid (dcS w C s w2):=H1.out.below hb2
  have HZ2:Hid (w.heap.size+1<w1.heap.size):=H1.out.r.lt
  clear e2 e3 e4 hb2 hn4 H1 HC HV;go_wp2_with fail;refine HD.out.mono ?_
  rintro o w3 ⟨s3,rfl,q1,q2⟩;have H3:Hid (blk w3 (w.heap.size+1) Z21 41):=H2.out.r.kept (q2.block _ (by have:=HZ2.out;omega))
  have HB3:Hid (Below w.heap.size w w3):=H2.out.b.trans (q2.mono (by have:=HZ2.out;omega))
  have HST:Hid (spS (w1.heap.size+2) T0 T1 T2 (rstC C).ho s3 w3):=q1
  clear q1 q2 H2 HD;go_wp2_with (first
   | (refine sq41 H3.out ?_;generalize hW8:World.setCells _ (w.heap.size+1) 0 _=w8;have HW8:Hid (_=w8):=hW8;clear hW8))
  have e8:=HW8.out
  have hF:blk w8 (w.heap.size+1) (coL (rstC C) s3) 41:=by
   rw[← e8]
   exact H3.out.core rfl _ _
  have hL:=rq41 hF
  refine bC Tryz.results9 hL ?_
  have hR:=HR.out.yes HOK.out
  subst hR;refine⟨s3,rfl,(HST.out.st (fun x h1 h2=>?_) ?_).isStD.mono (by have:=HZ2.out;omega),?_⟩
  ·rw[← e8]
   exact sO _ x (by have:=HZ2.out;omega) _ _ _
  ·rw[← e8,sZ]
   exact nR _
  ·rw[← e8]
   exact sW (by omega) 0 _ HB3.out
 ·have HV:Hid (∀ W,Below w.heap.size w W→Calls Tp 33 #[aG (coL C s).toArray] W fun o w'=>o = rT (bO false)∧Below W.heap.size W w'):=fun W hW=>badLC W C s (h.below hW) hn hok
  have HOK:Hid (¬ okCo C):=hok
  clear h hn hok;go_enter Tryz.func9,Tryz.ntmps9
  go_wp2_with (first
   | (refine lq41 H0.out.p.load ?_))
  refine (HV.out _ H0.out.b).mono ?_
  rintro o w1 ⟨rfl,hb1⟩;have H1:Hid (dcS w C s w1):=H0.out.below hb1
  clear H0 hb1;go_wp2_with (first
   | (refine sq41 H1.out.r ?_;generalize hW8:World.setCells _ (w.heap.size+1) 0 _=w8;have HW8:Hid (_=w8):=hW8;clear hW8))
  have e8:=HW8.out
  have hF:blk w8 (w.heap.size+1) (coL zCo zSl) 41:=by
   rw[← e8]
   exact H1.out.r.core rfl zCo zSl
  have hL:=rq41 hF
  refine bC Tryz.results9 hL ?_
  have hR:=HR.out.no HOK.out
  subst hR;refine⟨zSl,rfl,fun _ _=>zHo_is _,?_⟩
  rw[← e8]
  exact sW (by omega) 0 _ H1.out.b
end Go.Proofs.YtkfcfigbgmbaiaaGreat
