import Derived.Test.YtkfcfigbgmbaiaaGreatK10
import Derived.Deep.RegionHeld3
import Derived.Deep.DeepCutAuto
namespace Go.Proofs.YtkfcfigbgmbaiaaGreat
set_option maxRecDepth 20000
open Go.RowKit
set_option linter.unusedVariables false
set_option maxHeartbeats 16000000
open Go.Value renaming int→I,slice→sL,bool→bO,pointer→pT,agg→aG
open Go.IntKind renaming i64→J
open Go.Ending renaming returned→rT
open Go.Proofs.Tryz renaming prog→Tp
variable {w W:World} {P gs n c:Nat} {a:Option Addr}
theorem sz130r:(Tp.info? 153).map (·.size)=some 3:=by kernel_rfl
theorem sz132r:(Tp.info? 155).map (·.size)=some 3:=by kernel_rfl
theorem items5.of {its:List R5} (h:isR5s w a n c its) (hb:Below w.heap.size w W) (hP:w.heap.size≤P) (hg:w.heap.size≤gs):items5 w W P gs a n c its:=by
 refine⟨h.len,h.cap,fun hne=>?_⟩
 obtain⟨g,off,e,hc⟩:=h.cells hne
 have hlt:g<w.heap.size:=by
  obtain⟨ao,m,c',hx⟩:=hc 0 (List.length_pos_iff.2 hne)
  exact World.block_lt_of_cell? w _ hx.c0
 refine⟨g,off,e,by omega,by omega,nL hlt hb.size,fun j hj=>?_⟩
 obtain⟨ao,m,c',hx⟩:=hc j hj
 exact⟨ao,m,c',range_below hx.range hb hlt,hx.dat⟩
theorem newRing5_any (w0 w:World) (hb0:Below w0.heap.size w0 w) (room:Nat) (its:List R5) (a:Option Addr) (n c:Nat) (h:isR5s w0 a n c its) (h1:1≤room) (h2:room≤1000) (hn:n≤room) :
  Calls Tp 212 #[I J (room:Int),sL a n c] w fun o w'=>∃ gs,o = rT (aG #[sL (some ⟨gs,0,none⟩) room room,I J 0,I J (n:Int)])∧w.heap.size≤gs∧gs<w'.heap.size∧rowZ w' gs (room*5)∧ring5 w0 w' gs room 0 its∧Below w.heap.size w w':=by
 have hmax:max (room:Int) 0=(room:Int):=by omega
 have HB0:Hid (Below w0.heap.size w0 w):=hb0
 have HH:Hid (isR5s w0 a n c its):=h
 have HL:Hid (n=its.length):=h.len
 have H0:Hid (Below w.heap.size w (w.alloc (.cells #[sL none 0 0,I J 0,I J 0] 153))∧blk (w.alloc (.cells #[sL none 0 0,I J 0,I J 0] 153)) w.heap.size [sL none 0 0,I J 0,I J 0] 153):=⟨(bW _ _).alloc (nR _) _,blk.new w _ 153⟩
 have HR:Hid (1≤room∧room≤1000∧n≤room):=⟨h1,h2,hn⟩
 clear h h1 hn hb0;go_enter Tryz.func212,Tryz.ntmps212
 go_wp2_with (first
  | (refine make_Z _ 36 55 _ 5 48 Tryz.info55 Tryz.underlying36 (by decide) rfl _ _ rfl _ room rfl rfl rfl (by omega) ?_;intro w2 hz2 hg2 hl2;have H2:Hid (rowZ w2 (w.heap.size+1) (room*5)∧w.heap.size+1<w2.heap.size∧Below w.heap.size w w2∧blk w2 w.heap.size [sL none 0 0,I J 0,I J 0] 153):=⟨by simpa using hz2,by simpa using hl2,⟨hg2.os.trans H0.out.1.os,hg2.tape.trans H0.out.1.tape,hg2.output.trans H0.out.1.output,nT H0.out.1.size hg2.size,fun q hq=>(hg2.block q (nL hq H0.out.1.size) (by simp)).trans (H0.out.1.block q hq)⟩,(hg2.block _ H0.out.2.lt (by simp)).trans H0.out.2⟩;clear hz2 hg2 hl2))
 have HP3:Hid (blk (w2.alloc (.cells #[sL (some ⟨w.heap.size+1,0,none⟩) room room,I J 0,I J 0] 153)) w2.heap.size [sL (some ⟨w.heap.size+1,0,none⟩) room room,I J ((0:Nat):Int),I J (([]:List R5).length:Int)] 153):=blk.new w2 _ 153
 have HB3:Below w.heap.size w (w2.alloc (.cells #[sL (some ⟨w.heap.size+1,0,none⟩) room room,I J 0,I J 0] 153)):=H2.out.2.2.1.alloc H2.out.2.2.1.size _
 refine (put5_any w0 _ w2.heap.size (w.heap.size+1) room 0 [] its a n c HP3.out (by have:=H2.out.2.1;omega) (H2.out.1.below ((bW _ _).alloc (nR _) _) H2.out.2.1) (by have:=H2.out.2.1;simp;omega) (fun i hi=>absurd hi (nN _)) HR.out.1 (nZ _) HR.out.2.1 (items5.of HH.out (HB0.out.trans (HB3.mono HB0.out.size)) (nT HB0.out.size H2.out.2.2.1.size) (by have:=HB0.out.size;omega)) (by have:=HR.out;omega) n (by have:=HR.out;simp;omega)).mono ?_
 rintro o w4 ⟨rfl,hp⟩;have H4:Hid (pt5 w0 (w2.alloc (.cells #[sL (some ⟨w.heap.size+1,0,none⟩) room room,I J 0,I J 0] 153)) w4 w2.heap.size (w.heap.size+1) room 0 its n∧blk w4 w.heap.size [sL none 0 0,I J 0,I J 0] 153∧Below w.heap.size w w4∧w.heap.size+1<w4.heap.size∧w.heap.size<w2.heap.size):=by
  have hs2:=H2.out.2.1
  have hp':pt5 w0 (w2.alloc (.cells #[sL (some ⟨w.heap.size+1,0,none⟩) room room,I J 0,I J 0] 153)) w4 w2.heap.size (w.heap.size+1) room 0 its n:=by
   have e1:([]:List R5)++its.take n=its:=by rw[HL.out];simp
   have e2:([]:List R5).length+n=n:=by simp
   rw[e1,e2] at hp
   exact hp
  refine⟨hp',(hp'.k w.heap.size (by omega) (by omega) (by simp;omega)).trans ((Below.heap_alloc _ _ _ (by omega)).trans H2.out.2.2.2),⟨hp'.o.1.trans HB3.os,hp'.o.2.1.trans HB3.tape,hp'.o.2.2.trans HB3.output,nT HB3.size hp'.s,fun q hq=>(hp'.k q (by omega) (by omega) (nL hq HB3.size)).trans (HB3.block q hq)⟩,?_,by omega⟩
  have:=hp'.s
  simp at this
  omega
 clear hp HB3 HP3;have y0:=H4.out.1.p.cell 0 _ rfl
 have y1:=H4.out.1.p.cell 1 _ rfl
 have y2:=H4.out.1.p.cell 2 _ rfl
 have x0:=H4.out.2.1.cell 0 _ rfl
 have x1:=H4.out.2.1.cell 1 _ rfl
 have x2:=H4.out.2.1.cell 2 _ rfl
 have z0:=H4.out.2.1.free 0
 have z1:=H4.out.2.1.free 1
 have z2:=H4.out.2.1.free 2
 have hsz:=H4.out.2.2.2.2
 go_wp2_with fail;clear y0 y1 y2 x0 x1 x2 z0 z1 z2 hsz;have hF:=((H4.out.2.1.set 0 (sL (some ⟨w.heap.size+1,0,none⟩) room room)).set 1 (I J 0)).set 2 (I J (n:Int))
 have hL:=run_loadVar_mid (P:=Tp) _ w.heap.size 0 153 _ _ hF.load Tryz.underlying153 rfl sz130r
 refine bC Tryz.results212 hL ?_
 have e:∀ b,b≠w.heap.size→(((w4.setCell ⟨w.heap.size,0,none⟩ (sL (some ⟨w.heap.size+1,0,none⟩) room room)).setCell ⟨w.heap.size,1,none⟩ (I J 0)).setCell ⟨w.heap.size,2,none⟩ (I J (n:Int))).heap[b]?=w4.heap[b]?:=fun b hb=>(heap_setCell_other _ _ _ _ (by exact hb)).trans ((heap_setCell_other _ _ _ _ (by exact hb)).trans (heap_setCell_other _ _ _ _ (by exact hb)))
 refine⟨w.heap.size+1,rfl,by omega,by simpa using H4.out.2.2.2.1,H4.out.1.z.up (e _ (by omega)),H4.out.1.r.keep (e _ (by omega)),?_⟩
 exact ((H4.out.2.2.1.setCell (by exact nR _) _).setCell (by exact nR _) _).setCell (by exact nR _) _
theorem items8.of {its:List R8} (h:isR8s w a n c its) (hb:Below w.heap.size w W) (hP:w.heap.size≤P) (hg:w.heap.size≤gs):items8 w W P gs a n c its:=by
 refine⟨h.len,h.cap,fun hne=>?_⟩
 obtain⟨g,off,e,hc⟩:=h.cells hne
 have hlt:g<w.heap.size:=by
  obtain⟨ao,m,c',hx⟩:=hc 0 (List.length_pos_iff.2 hne)
  exact World.block_lt_of_cell? w _ hx.c0
 refine⟨g,off,e,by omega,by omega,nL hlt hb.size,fun j hj=>?_⟩
 obtain⟨ao,m,c',hx⟩:=hc j hj
 exact⟨ao,m,c',range_below hx.range hb hlt,hx.dat⟩
theorem newRing8_any (w0 w:World) (hb0:Below w0.heap.size w0 w) (room:Nat) (its:List R8) (a:Option Addr) (n c:Nat) (h:isR8s w0 a n c its) (h1:1≤room) (h2:room≤1000) (hn:n≤room) :
  Calls Tp 213 #[I J (room:Int),sL a n c] w fun o w'=>∃ gs,o = rT (aG #[sL (some ⟨gs,0,none⟩) room room,I J 0,I J (n:Int)])∧w.heap.size≤gs∧gs<w'.heap.size∧rowZ w' gs (room*8)∧ring8 w0 w' gs room 0 its∧Below w.heap.size w w':=by
 have hmax:max (room:Int) 0=(room:Int):=by omega
 have HB0:Hid (Below w0.heap.size w0 w):=hb0
 have HH:Hid (isR8s w0 a n c its):=h
 have HL:Hid (n=its.length):=h.len
 have H0:Hid (Below w.heap.size w (w.alloc (.cells #[sL none 0 0,I J 0,I J 0] 155))∧blk (w.alloc (.cells #[sL none 0 0,I J 0,I J 0] 155)) w.heap.size [sL none 0 0,I J 0,I J 0] 155):=⟨(bW _ _).alloc (nR _) _,blk.new w _ 155⟩
 have HR:Hid (1≤room∧room≤1000∧n≤room):=⟨h1,h2,hn⟩
 clear h h1 hn hb0;go_enter Tryz.func213,Tryz.ntmps213
 go_wp2_with (first
  | (refine make_Z _ 37 67 _ 8 72 Tryz.info67 Tryz.underlying37 (by decide) rfl _ _ rfl _ room rfl rfl rfl (by omega) ?_;intro w2 hz2 hg2 hl2;have H2:Hid (rowZ w2 (w.heap.size+1) (room*8)∧w.heap.size+1<w2.heap.size∧Below w.heap.size w w2∧blk w2 w.heap.size [sL none 0 0,I J 0,I J 0] 155):=⟨by simpa using hz2,by simpa using hl2,⟨hg2.os.trans H0.out.1.os,hg2.tape.trans H0.out.1.tape,hg2.output.trans H0.out.1.output,nT H0.out.1.size hg2.size,fun q hq=>(hg2.block q (nL hq H0.out.1.size) (by simp)).trans (H0.out.1.block q hq)⟩,(hg2.block _ H0.out.2.lt (by simp)).trans H0.out.2⟩;clear hz2 hg2 hl2))
 have HP3:Hid (blk (w2.alloc (.cells #[sL (some ⟨w.heap.size+1,0,none⟩) room room,I J 0,I J 0] 155)) w2.heap.size [sL (some ⟨w.heap.size+1,0,none⟩) room room,I J ((0:Nat):Int),I J (([]:List R8).length:Int)] 155):=blk.new w2 _ 155
 have HB3:Below w.heap.size w (w2.alloc (.cells #[sL (some ⟨w.heap.size+1,0,none⟩) room room,I J 0,I J 0] 155)):=H2.out.2.2.1.alloc H2.out.2.2.1.size _
 refine (put8_any w0 _ w2.heap.size (w.heap.size+1) room 0 [] its a n c HP3.out (by have:=H2.out.2.1;omega) (H2.out.1.below ((bW _ _).alloc (nR _) _) H2.out.2.1) (by have:=H2.out.2.1;simp;omega) (fun i hi=>absurd hi (nN _)) HR.out.1 (nZ _) HR.out.2.1 (items8.of HH.out (HB0.out.trans (HB3.mono HB0.out.size)) (nT HB0.out.size H2.out.2.2.1.size) (by have:=HB0.out.size;omega)) (by have:=HR.out;omega) n (by have:=HR.out;simp;omega)).mono ?_
 rintro o w4 ⟨rfl,hp⟩;have H4:Hid (pt8 w0 (w2.alloc (.cells #[sL (some ⟨w.heap.size+1,0,none⟩) room room,I J 0,I J 0] 155)) w4 w2.heap.size (w.heap.size+1) room 0 its n∧blk w4 w.heap.size [sL none 0 0,I J 0,I J 0] 155∧Below w.heap.size w w4∧w.heap.size+1<w4.heap.size∧w.heap.size<w2.heap.size):=by
  have hs2:=H2.out.2.1
  have hp':pt8 w0 (w2.alloc (.cells #[sL (some ⟨w.heap.size+1,0,none⟩) room room,I J 0,I J 0] 155)) w4 w2.heap.size (w.heap.size+1) room 0 its n:=by
   have e1:([]:List R8)++its.take n=its:=by rw[HL.out];simp
   have e2:([]:List R8).length+n=n:=by simp
   rw[e1,e2] at hp
   exact hp
  refine⟨hp',(hp'.k w.heap.size (by omega) (by omega) (by simp;omega)).trans ((Below.heap_alloc _ _ _ (by omega)).trans H2.out.2.2.2),⟨hp'.o.1.trans HB3.os,hp'.o.2.1.trans HB3.tape,hp'.o.2.2.trans HB3.output,nT HB3.size hp'.s,fun q hq=>(hp'.k q (by omega) (by omega) (nL hq HB3.size)).trans (HB3.block q hq)⟩,?_,by omega⟩
  have:=hp'.s
  simp at this
  omega
 clear hp HB3 HP3;have y0:=H4.out.1.p.cell 0 _ rfl
 have y1:=H4.out.1.p.cell 1 _ rfl
 have y2:=H4.out.1.p.cell 2 _ rfl
 have x0:=H4.out.2.1.cell 0 _ rfl
 have x1:=H4.out.2.1.cell 1 _ rfl
 have x2:=H4.out.2.1.cell 2 _ rfl
 have z0:=H4.out.2.1.free 0
 have z1:=H4.out.2.1.free 1
 have z2:=H4.out.2.1.free 2
 have hsz:=H4.out.2.2.2.2
 go_wp2_with fail;clear y0 y1 y2 x0 x1 x2 z0 z1 z2 hsz;have hF:=((H4.out.2.1.set 0 (sL (some ⟨w.heap.size+1,0,none⟩) room room)).set 1 (I J 0)).set 2 (I J (n:Int))
 have hL:=run_loadVar_mid (P:=Tp) _ w.heap.size 0 155 _ _ hF.load Tryz.underlying155 rfl sz132r
 refine bC Tryz.results213 hL ?_
 have e:∀ b,b≠w.heap.size→(((w4.setCell ⟨w.heap.size,0,none⟩ (sL (some ⟨w.heap.size+1,0,none⟩) room room)).setCell ⟨w.heap.size,1,none⟩ (I J 0)).setCell ⟨w.heap.size,2,none⟩ (I J (n:Int))).heap[b]?=w4.heap[b]?:=fun b hb=>(heap_setCell_other _ _ _ _ (by exact hb)).trans ((heap_setCell_other _ _ _ _ (by exact hb)).trans (heap_setCell_other _ _ _ _ (by exact hb)))
 refine⟨w.heap.size+1,rfl,by omega,by simpa using H4.out.2.2.2.1,H4.out.1.z.up (e _ (by omega)),H4.out.1.r.keep (e _ (by omega)),?_⟩
 exact ((H4.out.2.2.1.setCell (by exact nR _) _).setCell (by exact nR _) _).setCell (by exact nR _) _
theorem sz121:(Tp.info? 121).map (·.size)=some 3:=by kernel_rfl
theorem idx_0 (w:World):(Instr.index 123 (aG prL.toArray) (I J 0)).run Tp w = .ok (aG #[I J 0,I J 0,.func (.func 183) #[] #[]]) w:=by
 simp[Instr.index,asIntOf,run_underlying Tryz.underlying123,prL,part,Tryz.sizeOf121,Tryz.isAgg121]
theorem idx_1 (w:World):(Instr.index 123 (aG prL.toArray) (I J 1)).run Tp w = .ok (aG #[I J 0,I J 0,.func (.func 184) #[] #[]]) w:=by
 simp[Instr.index,asIntOf,run_underlying Tryz.underlying123,prL,part,Tryz.sizeOf121,Tryz.isAgg121]
theorem idx_2 (w:World):(Instr.index 123 (aG prL.toArray) (I J 2)).run Tp w = .ok (aG #[I J 0,I J 5,.func (.func 185) #[] #[]]) w:=by
 simp[Instr.index,asIntOf,run_underlying Tryz.underlying123,prL,part,Tryz.sizeOf121,Tryz.isAgg121]
theorem idx_3 (w:World):(Instr.index 123 (aG prL.toArray) (I J 3)).run Tp w = .ok (aG #[I J 0,I J 15,.func (.func 186) #[] #[]]) w:=by
 simp[Instr.index,asIntOf,run_underlying Tryz.underlying123,prL,part,Tryz.sizeOf121,Tryz.isAgg121]
theorem idx_4 (w:World):(Instr.index 123 (aG prL.toArray) (I J 4)).run Tp w = .ok (aG #[I J 1,I J 7,.func (.func 187) #[] #[]]) w:=by
 simp[Instr.index,asIntOf,run_underlying Tryz.underlying123,prL,part,Tryz.sizeOf121,Tryz.isAgg121]
theorem idx_5 (w:World):(Instr.index 123 (aG prL.toArray) (I J 5)).run Tp w = .ok (aG #[I J 0,I J 2,.func (.func 188) #[] #[]]) w:=by
 simp[Instr.index,asIntOf,run_underlying Tryz.underlying123,prL,part,Tryz.sizeOf121,Tryz.isAgg121]
theorem idx_6 (w:World):(Instr.index 123 (aG prL.toArray) (I J 6)).run Tp w = .ok (aG #[I J 0,I J 7,.func (.func 189) #[] #[]]) w:=by
 simp[Instr.index,asIntOf,run_underlying Tryz.underlying123,prL,part,Tryz.sizeOf121,Tryz.isAgg121]
theorem idx_7 (w:World):(Instr.index 123 (aG prL.toArray) (I J 7)).run Tp w = .ok (aG #[I J 0,I J 10,.func (.func 190) #[] #[]]) w:=by
 simp[Instr.index,asIntOf,run_underlying Tryz.underlying123,prL,part,Tryz.sizeOf121,Tryz.isAgg121]
theorem vcG (w:World) (C:Co) (s:Sl) (lo hi:Int) (n:Nat) (hix:∀ W,(Instr.index 123 (aG prL.toArray) (I J C.p)).run Tp W = .ok (aG #[I J lo,I J hi,.func (.func n) #[] #[]]) W) :
  Calls Tp 141 #[aG (coL C s).toArray] w fun o w'=>retB o ((0≤C.te∧C.te≤256)∧(0≤C.re∧C.re≤255)∧(C.p=7↔C.te=256)∧(lo≤C.ct∧C.ct≤hi)∧(0≤C.rn∧C.rn≤127)∧((C.p=7∧C.ak=true)∨(C.rn=0∧(¬ C.p=7∨C.ct=0))))∧Below w.heap.size w w':=by
 obtain⟨X,HX⟩ : ∃ X:Prop,Hid (X↔((0≤C.te∧C.te≤256)∧(0≤C.re∧C.re≤255)∧(C.p=7↔C.te=256)∧(lo≤C.ct∧C.ct≤hi)∧(0≤C.rn∧C.rn≤127)∧((C.p=7∧C.ak=true)∨(C.rn=0∧(¬ C.p=7∨C.ct=0))))):=⟨_,Iff.rfl⟩
 rw[← HX.out]
 have H0:Hid (ctS w w.heap.size C s (w.alloc (.cells (coL C s).toArray 41))):=ctS.new w _ s
 have HPR:Hid (∀ W,Calls Tp 144 #[] W fun o w'=>o = rT (aG prL.toArray)∧Below W.heap.size W w'):=phaseRows_any
 have HIR:Hid (∀ W v l m,Calls Tp 43 #[I J v,I J l,I J m] W fun o w'=>o = rT (bO (decide (l≤v∧v≤m)))∧W=w'):=inRange_any
 have HIX:Hid (∀ W,(Instr.index 123 (aG prL.toArray) (I J C.p)).run Tp W = .ok (aG #[I J lo,I J hi,.func (.func n) #[] #[]]) W):=hix
 clear hix;go_enter Tryz.func141,Tryz.ntmps141
 go_upto_region 1 with fail
 go_cut [3] (fun s3 wx=>∃ b,s3 = pT (some ⟨b,0,none⟩)∧Hid (blk wx b [I J lo,I J hi,.func (.func n) #[] #[]] 121)∧Hid (ctS w w.heap.size C s wx))
 case first=>
  refine wp_region_held (S:=fun X=>ctS w w.heap.size C s X) (by kernel_rfl) ?_
  have hS:ctS w w.heap.size C s (World.drew (w.alloc (.cells (coL C s).toArray 41))):=H0.out.below (bW _ _).drew
  clear H0;change wpAnyH Tp _ _ _ _ _ _ _ (World.drew (w.alloc (.cells (coL C s).toArray 41)))
  generalize World.drew (w.alloc (.cells (coL C s).toArray 41))=v0 at *;refine tk 1 ?_
  refine tk 2 ?_ (hy:=fun W hSw=>by (have y:=hSw.p.cell 0 (I J C.p) rfl;go_simp;try rfl))
  refine wpAnyH_all (rs:=[0,4]) (by kernel_rfl) (by simp) ?_
  refine AllReadyH.cons rfl (fun K2 hK2=>?_) (AllReadyH.cons rfl (fun K2 hK2=>?_) AllReadyH.nil)
  ·go_simp;refine (HPR.out _).mono ?_
   rintro o v1 ⟨rfl,hb⟩;have hS1:=hS.below hb
   clear hb;go_wp2_with fail;refine hK2.out _ _ hS1 (fun hS2=>?_)
   clear hK2 K2 hS1 hS;have hS:=hS2
   clear hS2;refine wV 3 (aG #[I J lo,I J hi,.func (.func n) #[] #[]]) ?_ hS ?_
   ·intro W hSw;clear hS;go_simp;simp only[HIX.out,Result.andThen_ok]
   simp only[aZ];refine al 4 fun K2 hK2=>?_
   go_simp;have hS1:ctS w w.heap.size C s (v1.alloc (.cells #[I J 0,I J 0,.nilFunc] 121)):=hS.below ((bW _ _).alloc (nR _) _)
   have HRZ:Hid (blk (v1.alloc (.cells #[I J 0,I J 0,.nilFunc] 121)) v1.heap.size [I J 0,I J 0,.nilFunc] 121):=blk.new v1 _ 121
   have HBL:Hid (w.heap.size<v1.heap.size):=hS.p.lt
   refine hK2.out _ _ hS1 (fun hS2=>?_)
   clear hK2 K2 hS1 hS;have hS:=hS2
   clear hS2;refine al 5 fun K2 hK2=>?_
   rw[if_pos (by rfl)]
   refine wp_store_mid 121 (.tmp 3) (.tmp 8) rfl v1.heap.size 0 #[I J lo,I J hi,.func (.func n) #[] #[]] rfl rfl (HRZ.out.there 0 _ (by simp)) sz121 (all_oneCell_toArray (by simp[Value.oneCell'])) ?_
   generalize hW8:World.setCells (v1.alloc (.cells #[I J 0,I J 0,.nilFunc] 121)) v1.heap.size 0 _=w8
   have HR:Hid (blk w8 v1.heap.size [I J lo,I J hi,.func (.func n) #[] #[]] 121):=by
    have:=blk.put [] [I J 0,I J 0,.nilFunc] [] [I J lo,I J hi,.func (.func n) #[] #[]] (w:=(v1.alloc (.cells #[I J 0,I J 0,.nilFunc] 121))) (b:=v1.heap.size) (T:=121) (by simpa using HRZ.out) rfl
    show blk _ _ _ _
    rw[← hW8]
    simpa using this
   have hS8:ctS w w.heap.size C s w8:=by
    rw[← hW8]
    exact⟨hS.p.kept (sO _ _ (Nat.ne_of_lt HBL.out) _ _ _),sW (Nat.le_of_lt HBL.out) 0 _ hS.b⟩
   have H1:Hid (ctS w w.heap.size C s w8):=hS8
   clear hW8;refine hK2.out _ _ hS8 (fun hS3=>?_)
   refine wpAnyH_done (by kernel_rfl) ?_ _
   clear hS hK2 K2 hS8 hS3;go_wp2_with fail;go_meet
   case rel=>exact⟨_,rfl,HR,H1⟩
  ·go_simp;have hS1:ctS w w.heap.size C s (v0.alloc (.cells #[I J 0,I J 0,.nilFunc] 121)):=hS.below ((bW _ _).alloc (nR _) _)
   have HRY:Hid (blk (v0.alloc (.cells #[I J 0,I J 0,.nilFunc] 121)) v0.heap.size [I J 0,I J 0,.nilFunc] 121):=blk.new v0 _ 121
   have HBL:Hid (w.heap.size<v0.heap.size):=hS.p.lt
   refine hK2.out _ _ hS1 (fun hS2=>?_)
   clear hK2 K2 hS1 hS;have hS:=hS2
   clear hS2;refine al 0 fun K2 hK2=>?_
   go_simp;refine (HPR.out _).mono ?_
   rintro o v1 ⟨rfl,hb⟩;have hS1:=hS.below hb
   have HRZ:Hid (blk v1 v0.heap.size [I J 0,I J 0,.nilFunc] 121):=HRY.out.below hb
   clear hb HRY;go_wp2_with fail;refine hK2.out _ _ hS1 (fun hS2=>?_)
   clear hK2 K2 hS1 hS;have hS:=hS2
   clear hS2;refine wV 3 (aG #[I J lo,I J hi,.func (.func n) #[] #[]]) ?_ hS ?_
   ·intro W hSw;clear hS;go_simp;simp only[HIX.out,Result.andThen_ok]
   simp only[aZ];refine al 5 fun K2 hK2=>?_
   rw[if_pos (by rfl)]
   refine wp_store_mid 121 (.tmp 3) (.tmp 8) rfl v0.heap.size 0 #[I J lo,I J hi,.func (.func n) #[] #[]] rfl rfl (HRZ.out.there 0 _ (by simp)) sz121 (all_oneCell_toArray (by simp[Value.oneCell'])) ?_
   generalize hW8:World.setCells v1 v0.heap.size 0 _=w8
   have HR:Hid (blk w8 v0.heap.size [I J lo,I J hi,.func (.func n) #[] #[]] 121):=by
    have:=blk.put [] [I J 0,I J 0,.nilFunc] [] [I J lo,I J hi,.func (.func n) #[] #[]] (w:=v1) (b:=v0.heap.size) (T:=121) (by simpa using HRZ.out) rfl
    show blk _ _ _ _
    rw[← hW8]
    simpa using this
   have hS8:ctS w w.heap.size C s w8:=by
    rw[← hW8]
    exact⟨hS.p.kept (sO _ _ (Nat.ne_of_lt HBL.out) _ _ _),sW (Nat.le_of_lt HBL.out) 0 _ hS.b⟩
   have H1:Hid (ctS w w.heap.size C s w8):=hS8
   clear hW8;refine hK2.out _ _ hS8 (fun hS3=>?_)
   refine wpAnyH_done (by kernel_rfl) ?_ _
   clear hS hK2 K2 hS8 hS3;go_wp2_with fail;go_meet
   case rel=>exact⟨_,rfl,HR,H1⟩
 case rest=>
 obtain⟨b,rfl,HR,H1⟩:=hcut
 have y0:=H1.out.p.cell 0 (I J C.p) rfl
 have y1:=H1.out.p.cell 1 (I J C.ct) rfl
 have y7:=H1.out.p.cell 7 (bO C.ak) rfl
 have y8:=H1.out.p.cell 8 (I J C.rn) rfl
 have y9:=H1.out.p.cell 9 (I J C.te) rfl
 have y10:=H1.out.p.cell 10 (I J C.re) rfl
 have z0:=HR.out.cell 0 (I J lo) rfl
 have z1:=HR.out.cell 1 (I J hi) rfl
 have bb:∀ (x y:Int),∃ b:Bool,(x == y)=b∧Hid (b=true↔x=y):=fun x y=>⟨_,rfl,by show _↔_;simp⟩
 have bd:∀ (l x m:Int),∃ b:Bool,decide (l≤x∧x≤m)=b∧Hid (b=true↔l≤x∧x≤m):=fun l x m=>⟨_,rfl,by show _↔_;simp⟩
 obtain⟨b7,e7,f7⟩:=bb C.p 7
 obtain⟨b2,e2,f2⟩:=bb C.te 256
 obtain⟨bn,en,fn⟩:=bb C.rn 0
 obtain⟨bc,ec,fc⟩:=bb C.ct 0
 obtain⟨bt,et,ft⟩:=bd 0 C.te 256
 obtain⟨br,er,fr⟩:=bd 0 C.re 255
 obtain⟨bq,eq,fq⟩:=bd lo C.ct hi
 obtain⟨bm,em,fm⟩:=bd 0 C.rn 127
 obtain⟨ak,ea⟩ : ∃ b,C.ak=b:=⟨_,rfl⟩
 rw[ea] at y7 HX
 have n7:(C.p != 7) = !b7:=by rw[← e7];rfl
 rw[← ft.out,← fr.out,← f7.out,← f2.out,← fq.out,← fm.out,← fn.out,← fc.out] at HX
 clear bb bd HIX HPR H0 ft fr f7 f2 fq fm fn fc ea;go_upto_region 2 with fail
 go_cut [27] (fun s27 wx=>s27 = bO (!bt || !br || (b7 != b2))∧wx=wc)
 case first=>
  clear HX;cases bt <;> cases br <;> cases b7 <;> cases b2 <;> (
   go_wp2_with (first
    | (go_at_call 43;refine (HIR.out _ _ _ _).mono ?_;rintro o w2 ⟨rfl,rfl⟩;first | rw[et] | rw[er]))
   go_meet
   case rel=>exact⟨rfl,rfl⟩)
 case rest=>
 obtain⟨rfl,hw⟩:=hcut
 subst hw;obtain⟨c1,g1⟩ : ∃ b,(!bt || !br || (b7 != b2))=b:=⟨_,rfl⟩
 rw[g1]
 have G1:Hid ((!bt || !br || (b7 != b2))=c1):=g1
 clear g1 et er e2 y9 y10;cases c1
 case true=>
  go_wp2_with fail;go_ret;refine⟨⟨_,rfl,?_⟩,H1.out.b⟩
  rw[HX.out]
  have g:=G1.out
  clear HX HIR H1 HR y0 y1 y7 y8 z0 z1 e7 en ec eq em n7 G1;cases bt <;> cases br <;> cases b7 <;> cases b2 <;> simp_all
 case false=>
 go_upto_region 4 with fail
 go_cut [41] (fun s41 wx=>s41 = bO (!bq || !bm)∧wx=wc)
 case first=>
  clear HX G1;cases bq <;> cases bm <;> (
   go_wp2_with (first
    | (go_at_call 43;refine (HIR.out _ _ _ _).mono ?_;rintro o w2 ⟨rfl,rfl⟩;first | rw[eq] | rw[em]))
   go_meet
   case rel=>exact⟨rfl,rfl⟩)
 case rest=>
 obtain⟨rfl,hw⟩:=hcut
 subst hw;obtain⟨c2,g2⟩ : ∃ b,(!bq || !bm)=b:=⟨_,rfl⟩
 rw[g2]
 have G2:Hid ((!bq || !bm)=c2):=g2
 clear g2 eq em z0 z1 HR HIR;cases c2
 case true=>
  go_wp2_with fail;go_ret;refine⟨⟨_,rfl,?_⟩,H1.out.b⟩
  rw[HX.out]
  have g:=G2.out
  clear HX H1 y0 y1 y7 y8 e7 en ec n7 G1 G2;cases bq <;> cases bm <;> simp_all
 case false=>
 go_upto_region 6 with fail
 go_cut [4] (fun s4 wx=>s4 = bO (b7 && ak)∧wx=wc)
 case first=>
  clear HX G1 G2;cases b7 <;> cases ak <;> (
   go_wp2_with fail;go_meet
   case rel=>exact⟨rfl,rfl⟩)
 case rest=>
 obtain⟨rfl,hw⟩:=hcut
 subst hw;obtain⟨c3,g3⟩ : ∃ b,(b7 && ak)=b:=⟨_,rfl⟩
 rw[g3]
 have G3:Hid ((b7 && ak)=c3):=g3
 clear g3 y7;go_upto_region 7 with fail
 go_cut [2] (fun s2 wx=>s2 = bO (c3 || (bn && (!b7 || bc)))∧wx=wc)
 case first=>
  clear HX G1 G2 G3;cases c3 <;> cases bn <;> cases b7 <;> cases bc <;> (
   go_wp2_with fail;go_meet
   case rel=>exact⟨rfl,rfl⟩)
 case rest=>
 obtain⟨rfl,hw⟩:=hcut
 subst hw;go_wp2_with fail;go_ret;refine⟨⟨_,rfl,?_⟩,H1.out.b⟩
 rw[HX.out,← G3.out]
 have g:=G1.out
 have g':=G2.out
 clear HX H1 y0 y1 y8 e7 en ec n7 G1 G2 G3 c3;cases bt <;> cases br <;> cases b7 <;> cases b2 <;> cases bq <;> cases bm <;> simp_all
end Go.Proofs.YtkfcfigbgmbaiaaGreat
