import Derived.Test.YtkfcfigbgmbaiaaGreatK20
namespace Go.Proofs.YtkfcfigbgmbaiaaGreat
set_option maxRecDepth 20000
open Go.RowKit
set_option linter.unusedVariables false
set_option maxHeartbeats 16000000
open Go.Value renaming int→I,slice→sL,bool→bO,pointer→pT,agg→aG
open Go.IntKind renaming i64→J
open Go.Ending renaming returned→rT
open Go.Proofs.Tryz renaming prog→Tp
variable {c0 c2 lo st:Int} {r1 gf n1 kf gb n2 kb mb gr f1 n3 P gs room first C:Nat} {w0 W wr:World} {M:List R8}
theorem free8L (W:World) (P:Nat) (a:Option Addr) (n cap:Nat) (count:Nat) (y0:W.cell? ⟨P,10,none⟩=some (sL a n cap)) (y2:W.cell? ⟨P,12,none⟩=some (I J (count:Int))) (hc:count≤n) (hn:n≤1048576) :
  Calls Tp 191 #[pT (some ⟨P,10,none⟩)] W fun o w'=>o = rT (I J ((n-count:Nat):Int))∧Below W.heap.size W w':=by
 go_enter Tryz.func191,Tryz.ntmps191
 go_wp2
 go_region
 all_goals
  go_wp2
  go_ret;refine⟨ret_int ?_,(bW _ _).drew⟩
  omega
structure pt8L (c0 c2:Int) (r1 gf n1 kf gb n2 kb mb gr f1 n3:Nat) (lo st:Int) (w0 W wr:World) (P gs room first:Nat) (M:List R8) (C:Nat):Prop where
 p:blk wr P (liL c0 r1 c2 room gf n1 kf gb n2 kb mb gr f1 n3 gs first C lo st) 157
 z:rowZ wr gs (room*8)
 r:ring8 w0 wr gs room first M
 k:∀ b,b≠P→b≠gs→b<W.heap.size→wr.heap[b]?=W.heap[b]?
 s:W.heap.size≤wr.heap.size
 o:wr.os=W.os∧wr.tape=W.tape∧wr.output=W.output
theorem pt8L.below {wr':World} (h:pt8L c0 c2 r1 gf n1 kf gb n2 kb mb gr f1 n3 lo st w0 W wr P gs room first M C) (hg:gs<W.heap.size) (hb:Below wr.heap.size wr wr'):pt8L c0 c2 r1 gf n1 kf gb n2 kb mb gr f1 n3 lo st w0 W wr' P gs room first M C:=
 ⟨h.p.below hb,h.z.below hb (nL hg h.s),h.r.keep (hb.block _ (nL hg h.s)),fun b h1 h2 h3=>(hb.block _ (nL h3 h.s)).trans (h.k b h1 h2 h3),nT h.s hb.size,⟨hb.os.trans h.o.1,hb.tape.trans h.o.2.1,hb.output.trans h.o.2.2⟩⟩
theorem pt8L.store (h:pt8L c0 c2 r1 gf n1 kf gb n2 kb mb gr f1 n3 lo st w0 W wr P gs room first M C) (hg:gs≠P) (hf:first<room) (hL:M.length<room) (b:R8) (ao:Option Addr) (m c:Nat) (hb:iB w0 ao m c b.l) :
  pt8L c0 c2 r1 gf n1 kf gb n2 kb mb gr f1 n3 lo st w0 W (wr.setCells gs ((first+M.length) % room*8) (f8 b ao m c)) P gs room first (M++[b]) C:=by
 have hz:(first+M.length) % room<room:=Nat.mod_lt _ (by omega)
 have hzz:(first+M.length) % room*8+8≤room*8:=by
  have:((first+M.length) % room+1)*8≤room*8:=Nat.mul_le_mul_right _ hz
  omega
 refine⟨h.p.other (fun e=>hg e.symm) _ _,by rw[setCells_row];exact h.z.put _ _ hzz,h.r.store hf hL h.z b ao m c hb,fun q h1 h2 h3=>(sO gs q h2 _ _ _).trans (h.k q h1 h2 h3),by rw[sZ];exact h.s,?_⟩
 have hbel:=sW (B:=0) (nZ gs) ((first+M.length) % room*8) (f8 b ao m c) (bW 0 wr)
 exact⟨hbel.os.trans h.o.1,hbel.tape.trans h.o.2.1,hbel.output.trans h.o.2.2⟩
theorem pt8L.count (h:pt8L c0 c2 r1 gf n1 kf gb n2 kb mb gr f1 n3 lo st w0 W wr P gs room first M C) (hg:gs≠P) (C':Nat):pt8L c0 c2 r1 gf n1 kf gb n2 kb mb gr f1 n3 lo st w0 W (wr.setCell ⟨P,12,none⟩ (I J (C':Int))) P gs room first M C':=by
 have e:∀ b,b≠P→(wr.setCell ⟨P,12,none⟩ (I J (C':Int))).heap[b]?=wr.heap[b]?:=fun b hb=>heap_setCell_other _ _ _ _ (by exact hb)
 have hbel:Below 0 wr (wr.setCell ⟨P,12,none⟩ (I J (C':Int))):=(bW 0 wr).setCell (nZ _) _
 exact⟨h.p.set 12 _,h.z.up (e gs hg),h.r.keep (e gs hg),fun q h1 h2 h3=>(e q h1).trans (h.k q h1 h2 h3),nT h.s hbel.size,⟨hbel.os.trans h.o.1,hbel.tape.trans h.o.2.1,hbel.output.trans h.o.2.2⟩⟩
theorem put8L_any (c0 c2:Int) (r1 gf n1 kf gb n2 kb mb gr f1 n3:Nat) (lo st:Int) (w0 W:World) (P gs room first:Nat) (L its:List R8) (a:Option Addr) (n c:Nat)
  (hP:blk W P (liL c0 r1 c2 room gf n1 kf gb n2 kb mb gr f1 n3 gs first L.length lo st) 157) (hg:gs≠P) (hrow:rowZ W gs (room*8)) (hgl:gs<W.heap.size) (hring:ring8 w0 W gs room first L)
  (hf:first<room) (hL:L.length≤room) (hroom:room≤1000) (hits:items8 w0 W P gs a n c its) (hn:n≤1048576) (t:Nat) (ht:t=min (room-L.length) n) :
  Calls Tp 146 #[pT (some ⟨P,10,none⟩),sL a n c] W fun o w'=>o = rT (I J (t:Int))∧pt8L c0 c2 r1 gf n1 kf gb n2 kb mb gr f1 n3 lo st w0 W w' P gs room first (L++its.take t) (L.length+t):=by
 have HF:Hid (Calls Tp 191 #[pT (some ⟨P,10,none⟩)] W fun o w'=>o = rT (I J ((room-L.length:Nat):Int))∧Below W.heap.size W w'):=free8L W P _ room room L.length (hP.cell 10 _ rfl) (hP.cell 12 _ rfl) hL (by omega)
 have HP0:Hid (pt8L c0 c2 r1 gf n1 kf gb n2 kb mb gr f1 n3 lo st w0 W W P gs room first L L.length):=⟨hP,hrow,hring,fun _ _ _ _=>rfl,nR _,⟨rfl,rfl,rfl⟩⟩
 have hcp:=hits.cap
 have hmin:min ((room-L.length:Nat):Int) (n:Int)=(t:Int):=by omega
 have hmax:max (t:Int) 0=(t:Int):=by omega
 have htn:t≤n:=by omega
 have HTR:Hid (L.length+t≤room):=by show _≤_;omega
 have HIT:Hid (items8 w0 W P gs a n c its):=hits
 have HR:Hid (room≤1000∧first<room):=⟨hroom,hf⟩
 have HG:Hid (gs≠P∧gs<W.heap.size):=⟨hg,hgl⟩
 clear hP hrow hgl hring hits ht hroom hL hg;generalize hfr:((room-L.length:Nat):Int)=fr at *;clear hfr;have hna:a=none∨∃ ad,a=some ad:=by cases a <;> simp
 have hall:Hid (∀ ad,a=some ad→ad.spot=none∨True):=fun _ _=>Or.inr trivial
 clear hall;by_cases hnil:its=[]
 ·have ht0:t=0:=by have:=HIT.out.len;rw[hnil] at this;simp at this;omega
  have hn0:n=0:=by have:=HIT.out.len;rw[hnil] at this;simpa using this
  subst ht0;subst hn0;subst hnil;clear HIT;have hmin0:min fr 0=0:=by simpa using hmin
  clear hmin hmax;rcases hna with rfl|⟨ad,rfl⟩
  ·go_enter Tryz.func146,Tryz.ntmps146
   go_wp2_with fail;refine HF.out.mono ?_
   rintro o w1 ⟨rfl,hb1⟩;have H1:Hid (pt8L c0 c2 r1 gf n1 kf gb n2 kb mb gr f1 n3 lo st w0 W w1 P gs room first L L.length):=HP0.out.below HG.out.2 hb1
   clear hb1;go_wp2_with fail;go_loopw [17] (fun i wr=>i = I J 0∧wr=w1) (fun _ _=>0)
   case atStart=>exact⟨rfl,rfl⟩
   case round=>
    obtain⟨rfl,rfl⟩:=hrel
    go_wp2
    go_ret;refine⟨rfl,?_⟩
    simpa using H1.out
  ·go_enter Tryz.func146,Tryz.ntmps146
   go_wp2_with fail;refine HF.out.mono ?_
   rintro o w1 ⟨rfl,hb1⟩;have H1:Hid (pt8L c0 c2 r1 gf n1 kf gb n2 kb mb gr f1 n3 lo st w0 W w1 P gs room first L L.length):=HP0.out.below HG.out.2 hb1
   clear hb1;go_wp2_with fail;go_loopw [17] (fun i wr=>i = I J 0∧wr=w1) (fun _ _=>0)
   case atStart=>exact⟨rfl,rfl⟩
   case round=>
    obtain⟨rfl,rfl⟩:=hrel
    go_wp2
    go_ret;refine⟨rfl,?_⟩
    simpa using H1.out
 ·obtain⟨g,off,rfl,hgP,hggs,hglt,hc⟩:=HIT.out.cells hnil
  have HC:Hid (∀ j (h:j<its.length),∃ ao m c',W.rangeAt g (off+j*8) (f8 its[j] ao m c')∧iB w0 ao m c' its[j].l):=hc
  have HGG:Hid (g≠P∧g≠gs∧g<W.heap.size):=⟨hgP,hggs,hglt⟩
  clear hc hgP hggs hglt hna;go_enter Tryz.func146,Tryz.ntmps146
  go_wp2_with fail;refine HF.out.mono ?_
  rintro o w1 ⟨rfl,hb1⟩;have H1:Hid (pt8L c0 c2 r1 gf n1 kf gb n2 kb mb gr f1 n3 lo st w0 W w1 P gs room first L L.length):=HP0.out.below HG.out.2 hb1
  clear hb1 HF;go_wp2_with fail;clear hmin hmax;go_loopw [17] (fun i wr=>∃ k:Nat,k≤t∧i = I J (k:Int)∧pt8L c0 c2 r1 gf n1 kf gb n2 kb mb gr f1 n3 lo st w0 W wr P gs room first (L++its.take k) (L.length+k)) (fun i _=>t-(intOf i).toNat)
  case atStart=>exact⟨0,nZ _,rfl,by simpa using H1.out⟩
  case round=>
   obtain⟨k,hk,rfl,hp⟩:=hrel
   have HPT:Hid (pt8L c0 c2 r1 gf n1 kf gb n2 kb mb gr f1 n3 lo st w0 W wr P gs room first (L++its.take k) (L.length+k)):=hp
   clear hp;by_cases hlt:k<t
   ·have hkl:k<its.length:=by have:=HIT.out.len;omega
    obtain⟨ao,m,c',hx1,hx2⟩:=HC.out k hkl
    have hge:wr.heap[g]?=W.heap[g]?:=HPT.out.k g HGG.out.1 HGG.out.2.1 HGG.out.2.2
    have hx1':wr.rangeAt g (off+k*8) (f8 its[k] ao m c'):=fun j v hv=>(cell_same hge _).trans (hx1 j v hv)
    have hML:(L++its.take k).length=L.length+k:=by rw[List.length_append,List.length_take];omega
    have HST:Hid (∀ X C,pt8L c0 c2 r1 gf n1 kf gb n2 kb mb gr f1 n3 lo st w0 W X P gs room first (L++its.take k) C→pt8L c0 c2 r1 gf n1 kf gb n2 kb mb gr f1 n3 lo st w0 W (X.setCells gs ((first+(L.length+k)) % room*8) (f8 its[k] ao m c')) P gs room first (L++its.take (k+1)) C):=by
     intro X C hX;have:=hX.store HG.out.1 HR.out.2 (by rw[hML];have:=HTR.out;omega) its[k] ao m c' hx2
     rw[hML,List.append_assoc,← List.take_succ_eq_append_getElem hkl] at this
     exact this
    obtain⟨b,hb⟩ : ∃ b,its[k]=b:=⟨_,rfl⟩
    rw[hb] at hx1' HST
    obtain⟨x,y,z,e,i,r,d,l⟩:=b
    have HRG:Hid (wr.rangeAt g (off+k*8) [I J x,I J y,I J z,bO e,I .u32 (i:Int),bO r,I J d,sL ao m c']):=hx1'
    have HP3:Hid (blk (wr.alloc (.cells #[I J x,I J y,I J z,bO e,I .u32 (i:Int),bO r,I J d,sL ao m c'] 67)) P (liL c0 r1 c2 room gf n1 kf gb n2 kb mb gr f1 n3 gs first (L.length+k) lo st) 157∧blk (wr.alloc (.cells #[I J x,I J y,I J z,bO e,I .u32 (i:Int),bO r,I J d,sL ao m c'] 67)) wr.heap.size [I J x,I J y,I J z,bO e,I .u32 (i:Int),bO r,I J d,sL ao m c'] 67):=⟨HPT.out.p.alloc _,blk.new wr _ 67⟩
    have HT3:Hid (pt8L c0 c2 r1 gf n1 kf gb n2 kb mb gr f1 n3 lo st w0 W (wr.alloc (.cells #[I J x,I J y,I J z,bO e,I .u32 (i:Int),bO r,I J d,sL ao m c'] 67)) P gs room first (L++its.take k) (L.length+k)):=HPT.out.below HG.out.2 ((bW _ _).alloc (nR _) _)
    have hmod:Int.tmod ((first:Int)+((L.length+k:Nat):Int)) (room:Int)=(((first+(L.length+k)) % room:Nat):Int):=by
     rw[← Int.natCast_add];exact Int.ofNat_tmod _ _
    have hzr:(first+(L.length+k)) % room<room:=Nat.mod_lt _ (by have:=HR.out;omega)
    have hZN:(first+(L.length+k)) % room*8+8≤room*8:=by
     have:((first+(L.length+k)) % room+1)*8≤room*8:=Nat.mul_le_mul_right _ hzr
     omega
    have hroom0:¬ (room:Int)=0:=by have:=HR.out;omega
    have hC1:L.length+k+1=L.length+(k+1):=by omega
    have HC1:Hid (L.length+k+1=L.length+(k+1)):=hC1
    have hr1:=HR.out.1
    have hf1:=HR.out.2
    have hC2:=HTR.out
    have hCr:L.length+k≤1000:=by omega
    clear hx1 hx2 hge hx1' hML hb hC1 hC2;generalize hCC:L.length+k=C at *;clear hCC;generalize hZZ:(first+C) % room=Z at *;clear hZZ;go_wp2_with (first
     | (refine lq67 HRG.out ?_))
    have HZT:Hid (World.there (World.drew (wr.alloc (.cells #[I J x,I J y,I J z,bO e,I .u32 (i:Int),bO r,I J d,sL ao m c'] 67))) gs (Z*8) 8):=HT3.out.z.there (Z*8) 8 hZN
    clear hZN HRG;have hPBg:wr.heap.size≠gs:=by have:=HG.out.2;have:=HPT.out.s;omega
    have HPG:Hid (wr.heap.size≠gs):=hPBg
    clear hPBg;generalize hPB:wr.heap.size=PB at *;clear hPB;generalize hW3:wr.alloc (.cells #[I J x,I J y,I J z,bO e,I .u32 (i:Int),bO r,I J d,sL ao m c'] 67)=W3 at *;clear hW3 HPT;refine wp_region_held (S:=(fun X=>X.cell? ⟨P,10,none⟩=some (sL (some ⟨gs,0,none⟩) room room)∧X.cell? ⟨P,11,none⟩=some (I J (first:Int))∧X.cell? ⟨P,12,none⟩=some (I J (C:Int))∧X.rangeAt PB 0 [I J x,I J y,I J z,bO e,I .u32 (i:Int),bO r,I J d,sL ao m c'])) (by kernel_rfl) ?_
    have hS:(fun X=>X.cell? ⟨P,10,none⟩=some (sL (some ⟨gs,0,none⟩) room room)∧X.cell? ⟨P,11,none⟩=some (I J (first:Int))∧X.cell? ⟨P,12,none⟩=some (I J (C:Int))∧X.rangeAt PB 0 [I J x,I J y,I J z,bO e,I .u32 (i:Int),bO r,I J d,sL ao m c']) (World.drew W3):=⟨(HP3.out.1.cell 10 _ rfl),(HP3.out.1.cell 11 _ rfl),(HP3.out.1.cell 12 _ rfl),HP3.out.2.load⟩
    simp only[] at hS
    refine tk 0 ?_
    refine tk 1 ?_
    refine tk 2 ?_
    refine tk 3 ?_
    refine tk 4 ?_
    refine tk 5 ?_
    refine tk 6 ?_
    refine tk 7 ?_
    refine tk 8 ?_
    refine tk 9 ?_
    refine tk 10 ?_
    refine tk 11 ?_
    refine wV 12 (I J ((first:Int)+(C:Int))) ?_ hS ?_
    ·intro X hSw;clear hS;go_simp;rw[IntKind.wrap_i64];omega
    simp only[aZ];refine tk 13 ?_
    refine tk 14 ?_
    refine tk 15 ?_
    refine tk 16 ?_
    refine tk 17 ?_
    refine wV 18 (I J (Z:Int)) ?_ hS ?_
    ·intro X hSw;clear hS;go_simp;omega
    simp only[aZ];refine wU 19 (aG #[I J x,I J y,I J z,bO e,I .u32 (i:Int),bO r,I J d,sL ao m c']) rfl (yieldsIf_load_mid (by rfl) 67 (.tmp 7) rfl PB 0 rfl [I J x,I J y,I J z,bO e,I .u32 (i:Int),bO r,I J d,sL ao m c'] _ (fun X h=>h.2.2.2) Tryz.underlying67 rfl sz129) hS ?_
    simp only[aZ];refine tk 20 ?_
    refine al 21 fun K hK=>?_
    rw[if_pos (by rfl)]
    refine wp_store_mid 67 (.tmp 41) (.tmp 40) rfl gs (Z*8) _ rfl rfl HZT.out sz129 (one8 _ _ _ _ _ _ _ _ _ _) ?_
    simp only[Act.put,aD,aE,aF]
    have HT4:Hid (pt8L c0 c2 r1 gf n1 kf gb n2 kb mb gr f1 n3 lo st w0 W (World.setCells (World.drew W3) gs (Z*8) [I J x,I J y,I J z,bO e,I .u32 (i:Int),bO r,I J d,sL ao m c']) P gs room first (L++its.take (k+1)) C):=HST.out _ _ (HT3.out.below HG.out.2 (bW _ _).drew)
    have HP4:Hid (blk (World.setCells (World.drew W3) gs (Z*8) [I J x,I J y,I J z,bO e,I .u32 (i:Int),bO r,I J d,sL ao m c']) PB [I J x,I J y,I J z,bO e,I .u32 (i:Int),bO r,I J d,sL ao m c'] 67):=(show blk (World.drew W3) PB [I J x,I J y,I J z,bO e,I .u32 (i:Int),bO r,I J d,sL ao m c'] 67 from HP3.out.2).other HPG.out _ _
    refine hK.out _ (World.setCells (World.drew W3) gs (Z*8) [I J x,I J y,I J z,bO e,I .u32 (i:Int),bO r,I J d,sL ao m c']) ⟨HT4.out.p.cell 10 _ rfl,HT4.out.p.cell 11 _ rfl,HT4.out.p.cell 12 _ rfl,HP4.out.load⟩ (fun hS2=>?_)
    clear hS hK K;refine wpAnyH_done (by kernel_rfl) ?_ _
    clear hS2 hmod;generalize hW5:World.setCells (World.drew W3) gs (Z*8) _=w5
    have HT5:Hid (pt8L c0 c2 r1 gf n1 kf gb n2 kb mb gr f1 n3 lo st w0 W w5 P gs room first (L++its.take (k+1)) C):=(hW5 ▸ HT4.out)
    clear hW5 HT4 HP4;have z2:=HT5.out.p.cell 12 _ rfl
    have z2f:=HT5.out.p.free 12
    go_wp2
    go_roundw
    case rel=>
     refine⟨k+1,by omega,by go_num,?_⟩
     rw[← HC1.out]
     exact HT5.out.count HG.out.1 (C+1)
    case measure=>simp[intOf];omega
   ·have hkt:k=t:=by omega
    subst hkt;go_wp2
    go_ret;exact⟨rfl,HPT.out⟩
variable {c0 c2 lo st:Int} {r1 gf n1 kf gb n2 kb mb gr f1 n3 P gs room first C:Nat} {w0 W wr:World} {M:List R8}
theorem pt8L.base {X:World} (h:pt8L c0 c2 r1 gf n1 kf gb n2 kb mb gr f1 n3 lo st w0 X wr P gs room first M C) (hb:Below W.heap.size W X):pt8L c0 c2 r1 gf n1 kf gb n2 kb mb gr f1 n3 lo st w0 W wr P gs room first M C:=
 ⟨h.p,h.z,h.r,fun b h1 h2 h3=>(h.k b h1 h2 (nL h3 hb.size)).trans (hb.block b h3),nT hb.size h.s,⟨h.o.1.trans hb.os,h.o.2.1.trans hb.tape,h.o.2.2.trans hb.output⟩⟩
theorem pt8L.lost (h:pt8L c0 c2 r1 gf n1 kf gb n2 kb mb gr f1 n3 lo st w0 W wr P gs room first M C) (hg:gs≠P) (lo':Int):pt8L c0 c2 r1 gf n1 kf gb n2 kb mb gr f1 n3 lo' st w0 W (wr.setCell ⟨P,13,none⟩ (I J lo')) P gs room first M C:=by
 have e:∀ b,b≠P→(wr.setCell ⟨P,13,none⟩ (I J lo')).heap[b]?=wr.heap[b]?:=fun b hb=>heap_setCell_other _ _ _ _ (by exact hb)
 have hbel:Below 0 wr (wr.setCell ⟨P,13,none⟩ (I J lo')):=(bW 0 wr).setCell (nZ _) _
 exact⟨h.p.set 13 _,h.z.up (e gs hg),h.r.keep (e gs hg),fun q h1 h2 h3=>(e q h1).trans (h.k q h1 h2 h3),nT h.s hbel.size,⟨hbel.os.trans h.o.1,hbel.tape.trans h.o.2.1,hbel.output.trans h.o.2.2⟩⟩
theorem post_any (c0 c2:Int) (r1 gf n1 kf gb n2 kb mb gr f1 n3:Nat) (lo st:Int) (w0 W:World) (P gs room first:Nat) (L:List R8) (x y z:Int) (e:Bool) (i:Nat) (r:Bool) (d:Int) (ao:Option Addr) (m c:Nat) (l:List Nat)
  (hP:blk W P (liL c0 r1 c2 room gf n1 kf gb n2 kb mb gr f1 n3 gs first L.length lo st) 157) (hg:gs≠P) (hrow:rowZ W gs (room*8)) (hgl:gs<W.heap.size) (hring:ring8 w0 W gs room first L) (hf:first<room) (hL:L.length≤room) (hroom:room≤1000) (hby:iB w0 ao m c l) (hl0:0≤lo) (hl1:lo≤100000) (t:Nat) (ht:t=min (room-L.length) 1) :
  Calls Tp 87 #[pT (some ⟨P,0,none⟩),aG #[I J x,I J y,I J z,bO e,I .u32 (i:Int),bO r,I J d,sL ao m c]] W fun o w'=>o = rT (.tuple #[])∧pt8L c0 c2 r1 gf n1 kf gb n2 kb mb gr f1 n3 (min (lo+(1-(t:Int))) 100000) st w0 W w' P gs room first (L++[⟨x,y,z,e,i,r,d,l⟩].take t) (L.length+t):=by
 have hPl:=hP.lt
 have HPT:Hid (∀ X ib,Below W.heap.size W X→W.heap.size≤ib→X.heap[ib]?=some (.cells #[I J x,I J y,I J z,bO e,I .u32 (i:Int),bO r,I J d,sL ao m c] 67)→Calls Tp 146 #[pT (some ⟨P,10,none⟩),sL (some ⟨ib,0,none⟩) 1 1] X fun o w'=>o = rT (I J (t:Int))∧pt8L c0 c2 r1 gf n1 kf gb n2 kb mb gr f1 n3 lo st w0 X w' P gs room first (L++[⟨x,y,z,e,i,r,d,l⟩].take t) (L.length+t)):=fun X ib hX hi hb=>
  put8L_any c0 c2 r1 gf n1 kf gb n2 kb mb gr f1 n3 lo st w0 X P gs room first L [⟨x,y,z,e,i,r,d,l⟩] (some ⟨ib,0,none⟩) 1 1 (hP.below hX) hg (hrow.below hX hgl) (nL hgl hX.size) (hring.keep (hX.block _ hgl)) hf hL hroom ⟨rfl,nR _,fun _=>⟨ib,0,rfl,by omega,by omega,lt_of_some hb,fun j hj=>⟨ao,m,c,by
   have hj0:j=0:=by simp at hj;omega
   subst hj0;exact⟨range_block hb,hby⟩⟩⟩⟩ (by omega) t ht
 have ht1:t≤1:=by omega
 have HPG:Hid (gs≠P∧P<W.heap.size∧gs<W.heap.size):=⟨hg,hPl,hgl⟩
 have H0:Hid (blk (W.alloc (.cells #[I J x,I J y,I J z,bO e,I .u32 (i:Int),bO r,I J d,sL ao m c] 67)) W.heap.size [I J x,I J y,I J z,bO e,I .u32 (i:Int),bO r,I J d,sL ao m c] 67∧Below W.heap.size W (W.alloc (.cells #[I J x,I J y,I J z,bO e,I .u32 (i:Int),bO r,I J d,sL ao m c] 67))):=⟨blk.new W _ 67,(bW _ _).alloc (nR _) _⟩
 clear hP hrow hgl hring hby ht hL hf hroom hg hPl;go_enter Tryz.func87,Tryz.ntmps87
 go_wp2_with fail;refine wp_region_held (S:=fun X=>blk X W.heap.size [I J x,I J y,I J z,bO e,I .u32 (i:Int),bO r,I J d,sL ao m c] 67) (by kernel_rfl) ?_
 have hS:blk (World.drew (W.alloc (.cells #[I J x,I J y,I J z,bO e,I .u32 (i:Int),bO r,I J d,sL ao m c] 67))) W.heap.size [I J x,I J y,I J z,bO e,I .u32 (i:Int),bO r,I J d,sL ao m c] 67:=H0.out.1.below (bW _ _).drew
 have HB0:Hid (Below W.heap.size W (World.drew (W.alloc (.cells #[I J x,I J y,I J z,bO e,I .u32 (i:Int),bO r,I J d,sL ao m c] 67)))):=H0.out.2.drew
 clear H0;change wpAnyH Tp _ _ _ _ _ _ _ (World.drew (W.alloc (.cells #[I J x,I J y,I J z,bO e,I .u32 (i:Int),bO r,I J d,sL ao m c] 67)))
 generalize World.drew (W.alloc (.cells #[I J x,I J y,I J z,bO e,I .u32 (i:Int),bO r,I J d,sL ao m c] 67))=v0 at *;refine tk 0 ?_
 refine tk 1 ?_
 refine tk 2 ?_
 refine wU 3 (.agg [I J x,I J y,I J z,bO e,I .u32 (i:Int),bO r,I J d,sL ao m c].toArray) rfl (yieldsIf_load_mid (by rfl) 67 (.tmp 3) rfl W.heap.size 0 rfl [I J x,I J y,I J z,bO e,I .u32 (i:Int),bO r,I J d,sL ao m c] _ (fun X h=>h.load) Tryz.underlying67 rfl sz129) hS ?_
 simp only[aZ];refine al 4 fun K2 hK2=>?_
 go_simp;have bA:Below v0.heap.size v0 (v0.alloc (.cells #[I J x,I J y,I J z,bO e,I .u32 (i:Int),bO r,I J d,sL ao m c] 67)):=(bW _ _).alloc (nR _) _
 have hSA:blk (v0.alloc (.cells #[I J x,I J y,I J z,bO e,I .u32 (i:Int),bO r,I J d,sL ao m c] 67)) W.heap.size [I J x,I J y,I J z,bO e,I .u32 (i:Int),bO r,I J d,sL ao m c] 67:=hS.below bA
 have HNB:Hid ((v0.alloc (.cells #[I J x,I J y,I J z,bO e,I .u32 (i:Int),bO r,I J d,sL ao m c] 67)).heap[v0.heap.size]?=some (.cells #[I J x,I J y,I J z,bO e,I .u32 (i:Int),bO r,I J d,sL ao m c] 67)):=heap_alloc_new v0 _
 have HB1:Hid (Below W.heap.size W (v0.alloc (.cells #[I J x,I J y,I J z,bO e,I .u32 (i:Int),bO r,I J d,sL ao m c] 67))∧W.heap.size<v0.heap.size):=⟨HB0.out.trans (bA.mono HB0.out.size),hS.lt⟩
 refine hK2.out _ _ hSA (fun hS2=>?_)
 clear hK2 K2 hSA hS bA HB0;have hS:=hS2
 clear hS2;generalize v0.alloc (.cells #[I J x,I J y,I J z,bO e,I .u32 (i:Int),bO r,I J d,sL ao m c] 67)=v1 at *;generalize v0.heap.size=ib at *;refine al 5 fun K2 hK2=>?_
 go_simp;refine (HPT.out v1 ib HB1.out.1 (Nat.le_of_lt HB1.out.2) HNB.out).mono ?_
 rintro o w2 ⟨rfl,hq⟩;have hS5:blk w2 W.heap.size [I J x,I J y,I J z,bO e,I .u32 (i:Int),bO r,I J d,sL ao m c] 67:=hS.kept (hq.k _ (by have:=HPG.out;omega) (by have:=HPG.out;omega) hS.lt)
 have HQ:Hid (pt8L c0 c2 r1 gf n1 kf gb n2 kb mb gr f1 n3 lo st w0 W w2 P gs room first (L++[⟨x,y,z,e,i,r,d,l⟩].take t) (L.length+t)):=hq.base HB1.out.1
 clear hq HNB HPT;go_wp2_with fail;refine hK2.out _ _ hS5 (fun hS2=>?_)
 clear hK2 K2 hS5 hS;have hS:=hS2
 clear hS2;have hw1:IntKind.i64.wrap (1-(t:Int))=1-(t:Int):=by rw[IntKind.wrap_i64];omega
 refine tk 6 ?_
 refine tk 7 ?_
 refine wpAnyH_done (by kernel_rfl) ?_ _
 clear hS;have y13:=HQ.out.p.cell 13 _ rfl
 have f13:=HQ.out.p.free 13
 have hw2:IntKind.i64.wrap (lo+(1-(t:Int)))=lo+(1-(t:Int)):=by rw[IntKind.wrap_i64];omega
 go_wp2_with fail;first | go_end0 | (try simp only[Exit.inBlock,Exit.then]);refine bN ?_
 exact⟨rfl,HQ.out.lost HPG.out.1 _⟩
variable {c0 c2 lo st:Int} {r3 gf n1 kf gb n2 kb mb gq f3 n4 P gs room first C:Nat} {w0 W wr:World} {M:List R5}
structure pt5L (c0 c2:Int) (r3 gf n1 kf gb n2 kb mb gq f3 n4:Nat) (lo st:Int) (w0 W wr:World) (P gs room first:Nat) (M:List R5) (C:Nat):Prop where
 p:blk wr P (liL c0 room c2 r3 gf n1 kf gb n2 kb mb gs first C gq f3 n4 lo st) 157
 z:rowZ wr gs (room*5)
 r:ring5 w0 wr gs room first M
 k:∀ b,b≠P→b≠gs→b<W.heap.size→wr.heap[b]?=W.heap[b]?
 s:W.heap.size≤wr.heap.size
 o:wr.os=W.os∧wr.tape=W.tape∧wr.output=W.output
theorem pt5L.below {wr':World} (h:pt5L c0 c2 r3 gf n1 kf gb n2 kb mb gq f3 n4 lo st w0 W wr P gs room first M C) (hg:gs<W.heap.size) (hb:Below wr.heap.size wr wr'):pt5L c0 c2 r3 gf n1 kf gb n2 kb mb gq f3 n4 lo st w0 W wr' P gs room first M C:=
 ⟨h.p.below hb,h.z.below hb (nL hg h.s),h.r.keep (hb.block _ (nL hg h.s)),fun b h1 h2 h3=>(hb.block _ (nL h3 h.s)).trans (h.k b h1 h2 h3),nT h.s hb.size,⟨hb.os.trans h.o.1,hb.tape.trans h.o.2.1,hb.output.trans h.o.2.2⟩⟩
theorem pt5L.store (h:pt5L c0 c2 r3 gf n1 kf gb n2 kb mb gq f3 n4 lo st w0 W wr P gs room first M C) (hg:gs≠P) (hf:first<room) (hL:M.length<room) (b:R5) (ao:Option Addr) (m c:Nat) (hb:iB w0 ao m c b.l) :
  pt5L c0 c2 r3 gf n1 kf gb n2 kb mb gq f3 n4 lo st w0 W (wr.setCells gs ((first+M.length) % room*5) (f5 b ao m c)) P gs room first (M++[b]) C:=by
 have hz:(first+M.length) % room<room:=Nat.mod_lt _ (by omega)
 have hzz:(first+M.length) % room*5+5≤room*5:=by
  have:((first+M.length) % room+1)*5≤room*5:=Nat.mul_le_mul_right _ hz
  omega
 refine⟨h.p.other (fun e=>hg e.symm) _ _,by rw[setCells_row];exact h.z.put _ _ hzz,h.r.store hf hL h.z b ao m c hb,fun q h1 h2 h3=>(sO gs q h2 _ _ _).trans (h.k q h1 h2 h3),by rw[sZ];exact h.s,?_⟩
 have hbel:=sW (B:=0) (nZ gs) ((first+M.length) % room*5) (f5 b ao m c) (bW 0 wr)
 exact⟨hbel.os.trans h.o.1,hbel.tape.trans h.o.2.1,hbel.output.trans h.o.2.2⟩
theorem pt5L.count (h:pt5L c0 c2 r3 gf n1 kf gb n2 kb mb gq f3 n4 lo st w0 W wr P gs room first M C) (hg:gs≠P) (C':Nat):pt5L c0 c2 r3 gf n1 kf gb n2 kb mb gq f3 n4 lo st w0 W (wr.setCell ⟨P,9,none⟩ (I J (C':Int))) P gs room first M C':=by
 have e:∀ b,b≠P→(wr.setCell ⟨P,9,none⟩ (I J (C':Int))).heap[b]?=wr.heap[b]?:=fun b hb=>heap_setCell_other _ _ _ _ (by exact hb)
 have hbel:Below 0 wr (wr.setCell ⟨P,9,none⟩ (I J (C':Int))):=(bW 0 wr).setCell (nZ _) _
 exact⟨h.p.set 9 _,h.z.up (e gs hg),h.r.keep (e gs hg),fun q h1 h2 h3=>(e q h1).trans (h.k q h1 h2 h3),nT h.s hbel.size,⟨hbel.os.trans h.o.1,hbel.tape.trans h.o.2.1,hbel.output.trans h.o.2.2⟩⟩
end Go.Proofs.YtkfcfigbgmbaiaaGreat
