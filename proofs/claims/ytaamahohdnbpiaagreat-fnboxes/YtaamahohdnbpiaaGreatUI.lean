import Derived.Test.YtaamahohdnbpiaaGreatG50
import Derived.Deep.RegionHeld3
namespace Go.Proofs.YtaamahohdnbpiaaGreat
open Go.RowKit
set_option linter.unusedVariables false
set_option maxHeartbeats 16000000 in
set_option maxRecDepth 40000 in
theorem lawBoxes (w:World) (a:Option Addr) (n cap:Nat) (lc:List Nat) (b:Option Addr) (m cpm:Nat) (lm:List Nat) (h:isBytes w a n cap lc) (h':isBytes w b m cpm lm) (hn:n≤maxLen) (hm:m≤maxLen) :
  Calls Tryz.prog 4 #[.slice a n cap,.slice b m cpm] w fun o w'=>o = .returned (.bool true)∧Below w.heap.size w w':=by
 have hcn:=h.cap
 have hcm:=h'.cap
 by_cases hb:n≤1048576∧m≤1048576
 ·obtain⟨hn1,hm1⟩:=hb
  have HW1:Hid (Calls Tryz.prog 22 #[.slice a n cap,.int .i64 0] w fun o w'=>∃ x:Nat,o = .returned (.int .i64 (x:Int))∧x<256∧Below w.heap.size w w'):=wByte2 w a n cap lc 0 h hn1 (by omega)
  have HW2:Hid (∀ X (i:Nat),i≤1000→Below w.heap.size w X→Calls Tryz.prog 22 #[.slice b m cpm,.int .i64 (i:Int)] X fun o w'=>∃ x:Nat,o = .returned (.int .i64 (x:Int))∧x<256∧Below X.heap.size X w'):=fun X i hi hX=>wByte2 X b m cpm lm i (h'.below hX) hm1 hi
  have hd1:decide ((1048576:Int)<(n:Int))=false:=decide_eq_false (by omega)
  have hd2:decide ((1048576:Int)<(m:Int))=false:=decide_eq_false (by omega)
  clear h h' hcn hcm hn hm hn1 hm1;go_enter Tryz.func4,Tryz.ntmps4
  go_wp2_with fail;clear hd1 hd2;refine HW1.out.mono ?_
  rintro o w1 ⟨x,rfl,hx,hb1⟩;have HB1:Hid (Below w.heap.size w w1):=hb1
  obtain⟨x8,hx8⟩ : ∃ x8:Nat,x8=x % 8:=⟨_,rfl⟩
  obtain⟨nb,hnb⟩ : ∃ nb:Nat,nb=1+x8:=⟨_,rfl⟩
  have HNB:Hid (1≤nb∧nb≤8):=⟨by omega,by omega⟩
  have ht8:(x:Int).tmod 8=(x8:Int):=by rw[hx8];exact (Int.ofNat_tmod x 8).symm
  have hw8:IntKind.i64.wrap (1+(x8:Int))=(nb:Int):=by rw[IntKind.wrap_i64];omega
  have HA1:Hid (blk (w1.alloc (.cells [.int .i64 0,.int .i64 0,.int .i64 0,.int .i64 0].toArray 29)) w1.heap.size [.int .i64 0,.int .i64 0,.int .i64 0,.int .i64 0] 29):=blk.new w1 _ 29
  clear hb1 HW1 hx hx8 hnb
  
  go_wp2_with (first
   | (refine wpList_store_mid (P:=Tryz.prog) rfl 29 _ _ rfl w1.heap.size 0 [.int .i64 (nb:Int),.int .i64 1,.int .i64 0,.int .i64 4].toArray rfl rfl (HA1.out.there 0 4 (by simp)) sz29c (all_oneCell_toArray (by simp[Value.oneCell'])) ?_;generalize hWn:World.setCells _ w1.heap.size 0 _=w2;have HX2:Hid (blk w2 w1.heap.size [.int .i64 (nb:Int),.int .i64 1,.int .i64 0,.int .i64 4] 29∧Below w.heap.size w w2∧w1.heap.size<w2.heap.size):=(by rw[← hWn];have q:=put29 (L':=[.int .i64 (nb:Int),.int .i64 1,.int .i64 0,.int .i64 4]) HA1.out rfl;exact⟨q,setCells_below HB1.out.size 0 _ (HB1.out.alloc HB1.out.size _),q.lt⟩);clear hWn HA1)
   | (refine wpList_load_mid (P:=Tryz.prog) rfl 29 _ rfl w1.heap.size 0 rfl [.int .i64 (nb:Int),.int .i64 1,.int .i64 0,.int .i64 4] _ HX2.out.1.load Tryz.underlying29 rfl sz29c ?_))
  
  have HI0:Hid (bxI (bxH nb)∧nfY (bxH nb).bx=[]):=bxH_I nb HNB.out
  have HNS:Hid (∀ X g,Calls Tryz.prog 23 #[cfV nb 1 0 4,.slice (some ⟨g,0,none⟩) 0 0] X fun o w'=>∃ s,o = .returned (.tuple #[.agg (hoL (bxH nb) s).toArray,.int .i64 0])∧isHo w' (bxH nb) s∧Below X.heap.size X w'):=fun X g=>csNewB X nb g HNB.out
  refine (cNewB (w2.alloc (.cells #[] 85)) nb w2.heap.size HNB.out).mono ?_
  generalize bxH nb=H0 at *;have hb3:Below w2.heap.size w2 (w2.alloc (.cells #[] 85)):=(Below.refl _ _).alloc (Nat.le_refl _) _
  have HX3:Hid (blk (w2.alloc (.cells #[] 85)) w1.heap.size [.int .i64 (nb:Int),.int .i64 1,.int .i64 0,.int .i64 4] 29∧Below w.heap.size w (w2.alloc (.cells #[] 85))):=⟨HX2.out.1.below hb3,HX2.out.2.1.trans (hb3.mono HX2.out.2.1.size)⟩
  clear HX2 hb3;generalize w2.alloc (.cells #[] 85)=w3 at *;rintro o w4 ⟨s0,rfl,st0,ss0,hb4⟩;have HX4:Hid (blk w4 w1.heap.size [.int .i64 (nb:Int),.int .i64 1,.int .i64 0,.int .i64 4] 29∧Below w.heap.size w w4∧isHo w4 H0 s0∧slSome s0):=⟨HX3.out.1.below hb4,HX3.out.2.trans (hb4.mono HX3.out.2.size),st0,ss0⟩
  clear HX3 st0 ss0 hb4 ht8 hw8;have HN4:Hid (blk (World.setCells (w4.alloc (.cells [.int .i64 0,.int .i64 0,.int .i64 0,.int .i64 0,.slice none 0 0,.slice none 0 0,.slice none 0 0,.slice none 0 0,.int .i64 0,.int .i64 0].toArray 35)) w4.heap.size 0 (hoL H0 s0)) w4.heap.size (hoL H0 s0) 35∧Below w4.heap.size w4 (World.setCells (w4.alloc (.cells [.int .i64 0,.int .i64 0,.int .i64 0,.int .i64 0,.slice none 0 0,.slice none 0 0,.slice none 0 0,.slice none 0 0,.int .i64 0,.int .i64 0].toArray 35)) w4.heap.size 0 (hoL H0 s0))):=new_hostS _ (hoL_len _ _)
  have HN4b:Hid (blk (w4.alloc (.cells [.int .i64 0,.int .i64 0,.int .i64 0,.int .i64 0,.slice none 0 0,.slice none 0 0,.slice none 0 0,.slice none 0 0,.int .i64 0,.int .i64 0].toArray 35)) w4.heap.size [.int .i64 0,.int .i64 0,.int .i64 0,.int .i64 0,.slice none 0 0,.slice none 0 0,.slice none 0 0,.slice none 0 0,.int .i64 0,.int .i64 0] 35):=blk.new w4 _ 35
  
  go_wp2_with (first
   | (refine wpList_store_mid (P:=Tryz.prog) rfl 35 _ _ rfl w4.heap.size 0 (hoL H0 s0).toArray rfl rfl (HN4b.out.there 0 _ (by rw[List.size_toArray,hoL_len];decide)) (sz41A _ _) (hoL_one _ _) ?_;generalize hWn:World.setCells _ w4.heap.size 0 _=w5;have HX5:Hid (blk w5 w1.heap.size [.int .i64 (nb:Int),.int .i64 1,.int .i64 0,.int .i64 4] 29∧Below w.heap.size w w5∧isHo w5 H0 s0∧slSome s0∧blk w5 w4.heap.size (hoL H0 s0) 35∧w.heap.size≤w4.heap.size):=(by rw[← hWn];exact⟨HX4.out.1.below HN4.out.2,HX4.out.2.1.trans (HN4.out.2.mono HX4.out.2.1.size),HX4.out.2.2.1.below HN4.out.2,HX4.out.2.2.2,HN4.out.1,HX4.out.2.1.size⟩);clear hWn HN4 HN4b)
   | (refine wpList_load_mid (P:=Tryz.prog) rfl 29 _ rfl w1.heap.size 0 rfl [.int .i64 (nb:Int),.int .i64 1,.int .i64 0,.int .i64 4] _ HX5.out.1.load Tryz.underlying29 rfl sz29c ?_))
  
  clear HX4;generalize w4.heap.size=bh at *;have hb6:Below w5.heap.size w5 (w5.alloc (.cells #[] 85)):=(Below.refl _ _).alloc (Nat.le_refl _) _
  refine (HNS.out (w5.alloc (.cells #[] 85)) w5.heap.size).mono ?_
  rintro o w7 ⟨s8,rfl,t8,hb7⟩;have hb57:Below w5.heap.size w5 w7:=hb6.trans (hb7.mono hb6.size)
  have HX7:Hid (Below w.heap.size w w7∧isHo w7 H0 s0∧slSome s0∧blk w7 bh (hoL H0 s0) 35∧w.heap.size≤bh∧isHo w7 H0 s8):=⟨HX5.out.2.1.trans (hb57.mono HX5.out.2.1.size),HX5.out.2.2.1.below hb57,HX5.out.2.2.2.1,HX5.out.2.2.2.2.1.below hb57,HX5.out.2.2.2.2.2,t8⟩
  clear HX5 hb6 hb7 hb57 t8 HNS HNB;have HN7b:Hid (blk (w7.alloc (.cells [.int .i64 0,.int .i64 0,.int .i64 0,.int .i64 0,.slice none 0 0,.slice none 0 0,.slice none 0 0,.slice none 0 0,.int .i64 0,.int .i64 0].toArray 35)) w7.heap.size [.int .i64 0,.int .i64 0,.int .i64 0,.int .i64 0,.slice none 0 0,.slice none 0 0,.slice none 0 0,.slice none 0 0,.int .i64 0,.int .i64 0] 35):=blk.new w7 _ 35
  
  go_wp2_with (first
   | (refine wpList_store_mid (P:=Tryz.prog) rfl 35 _ _ rfl w7.heap.size 0 (hoL H0 s8).toArray rfl rfl (HN7b.out.there 0 _ (by rw[List.size_toArray,hoL_len];decide)) (sz41A _ _) (hoL_one _ _) ?_;generalize hWn:World.setCells _ w7.heap.size 0 _=w8;have HW8:Hid (World.setCells (w7.alloc (.cells [.int .i64 0,.int .i64 0,.int .i64 0,.int .i64 0,.slice none 0 0,.slice none 0 0,.slice none 0 0,.slice none 0 0,.int .i64 0,.int .i64 0].toArray 35)) w7.heap.size 0 (hoL H0 s8)=w8):=hWn;clear hWn HN7b))
  
  have HX8:Hid (bxS w bh w7.heap.size H0 s0 H0 s8 w8.heap.size 0 [] (w8.alloc (.cells #[] 3))∧w.heap.size≤w8.heap.size):=bxS_new HX7.out.1 HX7.out.2.1 HX7.out.2.2.1 HX7.out.2.2.2.1 HX7.out.2.2.2.2.1 HX7.out.2.2.2.2.2 HW8.out
  clear HW8;clear HX7;generalize w7.heap.size=bm at *;obtain⟨m49,hm49⟩ : ∃ m49:Nat,m49=m % 49:=⟨_,rfl⟩
  obtain⟨N,hN⟩ : ∃ N:Nat,N=12+m49:=⟨_,rfl⟩
  have hNle:N≤60:=by omega
  have htm:(m:Int).tmod 49=(m49:Int):=by rw[hm49];exact (Int.ofNat_tmod m 49).symm
  have hwN:IntKind.i64.wrap (12+(m49:Int))=(N:Int):=by rw[IntKind.wrap_i64];omega
  clear hm49 hN;go_loopw [10,11] (fun v t wr=>∃ (i:Nat) (H:Ho) (s1 s2:Sl) (gl kl:Nat) (l:List Int),i≤N∧t = .int .i64 (i:Int)∧v = .slice (some ⟨gl,0,none⟩) l.length kl∧bxI H∧l.Perm (nfY H.bx)∧w.heap.size≤gl∧bxS w bh bm H s1 H s2 gl kl l wr) (fun _ t _=>N-(intOf t).toNat)
  case atStart=>exact⟨0,H0,s0,s8,w8.heap.size,0,[],Nat.zero_le _,rfl,rfl,HI0.out.1,by rw[HI0.out.2],HX8.out.2,HX8.out.1⟩
  case round=>
   clear HX8 HI0;obtain⟨i,H,s1,s2,gl,kl,l,hi,rfl,rfl,hI,hP,hgl,hS⟩:=hrel
   have HI:Hid (bxI H):=hI
   have HP:Hid (l.Perm (nfY H.bx)):=hP
   have HGL:Hid (w.heap.size≤gl):=hgl
   have HR0:Hid (bxS w bh bm H s1 H s2 gl kl l wr):=hS
   clear hI hP hgl hS;by_cases hlt:i<N
   ·obtain⟨i2,hi2⟩ : ∃ i2:Nat,i2=2*i:=⟨_,rfl⟩
    obtain⟨i3,hi3⟩ : ∃ i3:Nat,i3=i2+1:=⟨_,rfl⟩
    have hw2:IntKind.i64.wrap (2*(i:Int))=(i2:Int):=by rw[IntKind.wrap_i64];omega
    have hw3:IntKind.i64.wrap ((i2:Int)+1)=(i3:Int):=by rw[IntKind.wrap_i64];omega
    have HI2:Hid (i2≤1000∧i3≤1000):=⟨by omega,by omega⟩
    clear hi2 hi3;go_wp2_with fail;refine (HW2.out wr i2 HI2.out.1 HR0.out.b).mono ?_
    rintro o w2 ⟨op,rfl,hop,hb2⟩;have HR2:Hid (bxS w bh bm H s1 H s2 gl kl l w2):=HR0.out.below hb2
    have HOPL:Hid (op<256):=hop
    clear hb2 hop HR0;go_wp2_with fail;refine (HW2.out w2 i3 HI2.out.2 HR2.out.b).mono ?_
    rintro o w3 ⟨y,rfl,hy,hb3⟩;have HX:Hid (bxS w bh bm H s1 H s2 gl kl l w3):=HR2.out.below hb3
    obtain⟨tg,htg⟩ : ∃ tg:Nat,tg=y % 10:=⟨_,rfl⟩
    have hty:(y:Int).tmod 10=(tg:Int):=by rw[htg];exact (Int.ofNat_tmod y 10).symm
    have HTG:Hid (tg<10):=(by rw[htg];exact Nat.mod_lt _ (by decide))
    have h7:op % 7=0∨op % 7=1∨op % 7=2∨op % 7=3∨op % 7=4∨op % 7=5∨op % 7=6:=by omega
    have ht7:(op:Int).tmod 7=((op % 7:Nat):Int):=(Int.ofNat_tmod op 7).symm
    clear hb3 hy htg HR2 HI2 HW2 hw2 hw3;skip;have h7':((op:Int).tmod 7=0∨(op:Int).tmod 7=1∨(op:Int).tmod 7=2)∨(op:Int).tmod 7=3∨((op:Int).tmod 7=4∨(op:Int).tmod 7=5)∨(op:Int).tmod 7=6:=by rw[ht7];omega
    clear h7 ht7;rcases h7' with h7|h7|h7|h7
    ·rcases h7 with h7|h7|h7
     all_goals (focus
      obtain⟨o1,ho1⟩ : ∃ o1:Nat,o1=op / 7:=⟨_,rfl⟩
      have hq7:(op:Int).tdiv 7=(o1:Int):=by rw[ho1];exact (Int.ofNat_tdiv op 7).symm
      obtain⟨fi,hfi⟩ : ∃ fi:Nat,fi=o1 % 6:=⟨_,rfl⟩
      have HFI:Hid (fi<6):=(by rw[hfi];exact Nat.mod_lt _ (by decide))
      have hq6:(o1:Int).tmod 6=(fi:Int):=by rw[hfi];exact (Int.ofNat_tmod o1 6).symm
      have hqu:IntKind.u32.wrap (fi:Int)=(fi:Int):=by simp[IntKind.wrap,IntKind.bits,IntKind.signed];have:=HFI.out;omega
      have hwq:IntKind.i64.wrap (o1:Int)=(o1:Int):=by rw[IntKind.wrap_i64];have:=HOPL.out;omega
      clear ho1 hfi;have HN3:Hid (blk (w3.alloc (.cells [.bool false,.int .u32 0,.bool false,.int .i64 0,.slice none 0 0].toArray 25)) w3.heap.size [.bool false,.int .u32 0,.bool false,.int .i64 0,.slice none 0 0] 25):=blk.new w3 _ 25
      have HX3:Hid (bxS w bh bm H s1 H s2 gl kl l (w3.alloc (.cells [.bool false,.int .u32 0,.bool false,.int .i64 0,.slice none 0 0].toArray 25)) ):=HX.out.below ((Below.refl _ _).alloc (Nat.le_refl _) _)
      skip;go_wp2_with (first
       | (refine wpList_store_mid (P:=Tryz.prog) rfl 25 _ _ rfl w3.heap.size 0 [.bool false,.int .u32 (fi:Int),.bool false,.int .i64 0,.slice none 0 0].toArray rfl rfl (HN3.out.there 0 5 (by simp)) sz93 (all_oneCell_toArray (by simp[Value.oneCell'])) ?_;generalize hWn:World.setCells _ w3.heap.size 0 _=w4;have HX4:Hid (bxS w bh bm H s1 H s2 gl kl l w4∧blk w4 w3.heap.size [.bool false,.int .u32 (fi:Int),.bool false,.int .i64 0,.slice none 0 0] 25):=(by rw[← hWn];exact bxS_put25 HX.out HX3.out HN3.out);clear hWn HN3 HX3 HX)
       | (refine wpList_load_mid (P:=Tryz.prog) rfl 35 _ rfl bh 0 rfl (hoL H s1) _ HX4.out.1.h.load Tryz.underlying35 rfl (sz41L _ _) ?_)
       | (refine wpList_load_mid (P:=Tryz.prog) rfl 25 _ rfl w3.heap.size 0 rfl [.bool false,.int .u32 (fi:Int),.bool false,.int .i64 0,.slice none 0 0] _ HX4.out.2.load Tryz.underlying25 rfl sz93 ?_))
      skip;generalize w3.heap.size=bf at *;have HOK:Hid (okHo (subHo H (tg:Int) (⟨false,fi,false,0,[]⟩ : R5))):=HI.out.ok.sub _ _
      have HR:Hid (sameR H (subHo H (tg:Int) (⟨false,fi,false,0,[]⟩ : R5))):=sub_r H _ _
      have HST:Hid ((∃ ev,(subHo H (tg:Int) (⟨false,fi,false,0,[]⟩ : R5)).qu=[ev]∧nfY (subHo H (tg:Int) (⟨false,fi,false,0,[]⟩ : R5)).bx=nfY H.bx∧ev.x≠1∧ev.x≠6)∨((subHo H (tg:Int) (⟨false,fi,false,0,[]⟩ : R5)).qu=[]∧(nfY (subHo H (tg:Int) (⟨false,fi,false,0,[]⟩ : R5)).bx).Perm ((tg:Int) :: nfY H.bx))):=sub_step HI.out (by have:=HTG.out;omega) (valid_small HFI.out)
      have HC1:Hid (Calls Tryz.prog 15 #[.agg (hoL H s1).toArray,.int .i64 (tg:Int),.agg [.bool false,.int .u32 (fi:Int),.bool false,.int .i64 0,.slice none 0 0].toArray] w4 (hostQ w4 (subHo H (tg:Int) (⟨false,fi,false,0,[]⟩ : R5)))):=cSub w4 H s1 _ (⟨false,fi,false,0,[]⟩ : R5) none 0 0 HI.out.ok HX4.out.1.t1 HX4.out.1.ss (isBytes_none w4) (by decide) (wf_small (by omega) (by have:=HTG.out;omega))
      have HC2:Hid (∀ X,isHo X H s2→Calls Tryz.prog 24 #[.agg (hoL H s2).toArray,.int .i64 (tg:Int),.agg [.bool false,.int .u32 (fi:Int),.bool false,.int .i64 0,.slice none 0 0].toArray] X fun o w'=>∃ s',o = .returned (.agg (hoL (subHo H (tg:Int) (⟨false,fi,false,0,[]⟩ : R5)) s').toArray)∧isHo w' (subHo H (tg:Int) (⟨false,fi,false,0,[]⟩ : R5)) s'∧Below X.heap.size X w'):=fun X hX=>csSub X H s2 _ (⟨false,fi,false,0,[]⟩ : R5) none 0 0 HI.out.ok hX (isBytes_none X) (by decide)
      generalize subHo H (tg:Int) (⟨false,fi,false,0,[]⟩ : R5)=G at *;have HXf:Hid (bxS w bh bm H s1 H s2 gl kl l w4):=HX4.out.1
      have HBF:Hid (blk w4 bf [.bool false,.int .u32 (fi:Int),.bool false,.int .i64 0,.slice none 0 0] 25):=HX4.out.2
      have HNE:Hid (bf≠bh):=blk_ne25 HBF.out HXf.out.h
      clear HX4;refine (HC1.out).mono ?_
      rintro o v1 ⟨t1,rfl,st1,ss1,hb1⟩;have HY1:Hid (bxS w bh bm H s1 H s2 gl kl l v1∧isHo v1 G t1∧slSome t1∧blk v1 bf [.bool false,.int .u32 (fi:Int),.bool false,.int .i64 0,.slice none 0 0] 25):=⟨HXf.out.below hb1,st1.now,ss1,HBF.out.below hb1⟩
      clear st1 ss1 hb1;go_wp2_with (first
       | (refine wpList_store_mid (P:=Tryz.prog) rfl 35 _ _ rfl bh 0 (hoL G t1).toArray rfl rfl (HY1.out.1.h.there 0 _ (by rw[List.size_toArray,hoL_len,hoL_len];decide)) (sz41A _ _) (hoL_one _ _) ?_;generalize hWn:World.setCells _ bh 0 _=v2;have HY2:Hid (bxS w bh bm G t1 H s2 gl kl l v2∧blk v2 bf [.bool false,.int .u32 (fi:Int),.bool false,.int .i64 0,.slice none 0 0] 25):=(by rw[← hWn];exact⟨HY1.out.1.put1 HY1.out.2.1 HY1.out.2.2.1,HY1.out.2.2.2.other HNE.out _ _⟩);clear hWn)
       | (refine wpList_load_mid (P:=Tryz.prog) rfl 35 _ rfl bm 0 rfl (hoL H s2) _ HY2.out.1.m.load Tryz.underlying35 rfl (sz41L _ _) ?_)
       | (refine wpList_load_mid (P:=Tryz.prog) rfl 25 _ rfl bf 0 rfl [.bool false,.int .u32 (fi:Int),.bool false,.int .i64 0,.slice none 0 0] _ HY2.out.2.load Tryz.underlying25 rfl sz93 ?_))
      clear HY1;refine (HC2.out v2 HY2.out.1.t2).mono ?_
      rintro o v3 ⟨t2,rfl,q2,hb3⟩;have HY3:Hid (bxS w bh bm G t1 H s2 gl kl l v3∧isHo v3 G t2):=⟨HY2.out.1.below hb3,q2⟩
      clear q2 hb3 HY2;go_wp2_with (first
       | (refine wpList_store_mid (P:=Tryz.prog) rfl 35 _ _ rfl bm 0 (hoL G t2).toArray rfl rfl (HY3.out.1.m.there 0 _ (by rw[List.size_toArray,hoL_len,hoL_len];decide)) (sz41A _ _) (hoL_one _ _) ?_;generalize hWn:World.setCells _ bm 0 _=v4;have HS:Hid (bxS w bh bm G t1 G t2 gl kl l v4):=(by rw[← hWn];exact HY3.out.1.put2 HY3.out.2);clear hWn)
       | (refine wpList_load_mid (P:=Tryz.prog) rfl 35 _ rfl bh 0 rfl (hoL G t1) _ HS.out.h.load Tryz.underlying35 rfl (sz41L _ _) ?_)
       | (refine wpList_load_mid (P:=Tryz.prog) rfl 35 _ rfl bm 0 rfl (hoL G t2) _ HS.out.m.load Tryz.underlying35 rfl (sz41L _ _) ?_))
      clear HY3;clear HC1 HC2 HXf HBF;refine (wHost_same v4 G t1 t2 HS.out.t1 HS.out.t2 HOK.out (HR.out.1.trans HI.out.fs) (HR.out.2.1.trans HI.out.ff)).mono ?_
      rintro o v5 ⟨rfl,hb5⟩;have HS5:Hid (bxS w bh bm G t1 G t2 gl kl l (v5.alloc (.cells #[] 46))):=(HS.out.below hb5).below ((Below.refl _ _).alloc (Nat.le_refl _) _)
      clear hb5 HS;go_wp2_with (first
       | (refine wpList_load_mid (P:=Tryz.prog) rfl 35 _ rfl bh 0 rfl (hoL G t1) _ HS5.out.h.load Tryz.underlying35 rfl (sz41L _ _) ?_))
      generalize v5.alloc (.cells #[] 46)=v6 at *;refine (cDrN v6 G t1 HOK.out HS5.out.t1 HS5.out.ss).mono ?_
      rintro o v7 ⟨u1,qa,ql,qc,rfl,hql,st1,ss1,hat,hb7⟩;have HY7:Hid (St v6.heap.size v7 (fun V=>isHo V (qHo G []) u1)∧slSome u1∧Below v6.heap.size v6 v7):=⟨st1,ss1,hb7⟩
      have HQL:Hid (ql=G.qu.length):=hql
      have HAT:Hid (∀ ev,G.qu=[ev]→∃ g ao m k,qa=some ⟨g,0,none⟩∧at8 v7 g 0 ev ao m k):=hat
      have HB7:Hid (blk v7 bh (hoL G t1) 35):=HS5.out.h.below hb7
      clear st1 ss1 hb7 hql hat;have HD7:Hid (∀ X,v7.setCells bh 0 (hoL (qHo G []) u1)=X→blk X bm (hoL G t2) 35∧isHo X G t2):=fun X hX=>by
       have q:=(HS5.out.below HY7.out.2.2).put1 HY7.out.1.now HY7.out.2.1
       rw[hX] at q
       exact⟨q.m,q.t2⟩
      go_wp2_with (first
       | (refine wpList_store_mid (P:=Tryz.prog) rfl 35 _ _ rfl bh 0 (hoL (qHo G []) u1).toArray rfl rfl (HB7.out.there 0 _ (by rw[List.size_toArray,hoL_len,hoL_len];decide)) (sz41A _ _) (hoL_one _ _) ?_;generalize hWn:World.setCells _ bh 0 _=v8;have HW8:Hid (v7.setCells bh 0 (hoL (qHo G []) u1)=v8):=hWn;have HY8:Hid (blk v8 bm (hoL G t2) 35∧isHo v8 G t2):=HD7.out v8 hWn;clear hWn)
       | (refine wpList_load_mid (P:=Tryz.prog) rfl 35 _ rfl bm 0 rfl (hoL G t2) _ HY8.out.1.load Tryz.underlying35 rfl (sz41L _ _) ?_))
      clear HD7 HB7;refine (csDr v8 G t2 HOK.out HY8.out.2).mono ?_
      rintro o v9 ⟨u2,qv,rfl,st2,hb9⟩;have HB9:Hid (blk v9 bm (hoL G t2) 35):=HY8.out.1.below hb9
      have HZ:Hid (bxT w bh bm v6.heap.size (qHo G []) u1 u2 gl kl l (v9.setCells bm 0 (hoL (qHo G []) u2))∧∀ g ev ao m k,at8 v7 g 0 ev ao m k→at8 (v9.setCells bm 0 (hoL (qHo G []) u2)) g 0 ev ao m k):=bxT_make HS5.out HY7.out.1 HY7.out.2.1 HY7.out.2.2 HW8.out st2 hb9
      clear st2 hb9 HY8 HW8 HY7 HS5;rcases HST.out with⟨ev,hq,hn,hk1,hk6⟩|⟨hq,hn⟩
      ·have HPS:Hid (l.Perm (nfY (qHo G []).bx)):=(by have q:=HP.out;rw[← hn] at q;exact q)
       clear hn;change ¬ ev.x=1 at hk1;change ¬ ev.x=6 at hk6;obtain rfl:ql=1:=by have:=HQL.out;rw[hq] at this;exact this
       go_wp2_with (first
        | (refine wpList_store_mid (P:=Tryz.prog) rfl 35 _ _ rfl bm 0 (hoL (qHo G []) u2).toArray rfl rfl (HB9.out.there 0 _ (by rw[List.size_toArray,hoL_len,hoL_len];decide)) (sz41A _ _) (hoL_one _ _) ?_;generalize hWn:World.setCells _ bm 0 _=va;have HT:Hid (bxT w bh bm v6.heap.size (qHo G []) u1 u2 gl kl l va∧∀ g ev ao m k,at8 v7 g 0 ev ao m k→at8 va g 0 ev ao m k):=(by rw[← hWn];exact HZ.out);clear HZ;clear hWn))
       go_loopw [10,18] (fun v t wr=>(t = .int .i64 0∧v = .slice (some ⟨gl,0,none⟩) l.length kl∧va=wr)∨(t = .int .i64 1∧∃ gl' kl' l',v = .slice (some ⟨gl',0,none⟩) (List.length l') kl'∧l'.Perm (nfY (qHo G []).bx)∧w.heap.size≤gl'∧bxS w bh bm (qHo G []) u1 (qHo G []) u2 gl' kl' l' wr)) (fun _ t _=>1-(intOf t).toNat)
       case atStart=>
        exact Or.inl ⟨rfl,rfl,rfl⟩
       case round=>
        rcases hrel with⟨rfl,rfl,rfl⟩|⟨rfl,gl',kl',l',rfl,hp',hg',hbx⟩
        ·obtain⟨qg,ao,am,ak,rfl,hat⟩:=HAT.out ev hq
         have y0:va.cell? ⟨qg,0,none⟩=some (.int .i64 ev.x):=(HT.out.2 _ _ _ _ _ hat).c0
         have y1:va.cell? ⟨qg,1,none⟩=some (.int .i64 ev.y):=(HT.out.2 _ _ _ _ _ hat).c1
         clear hq hat HAT HQL HST
         as_aux_lemma=>
          have hk1':(ev.x == 1)=false:=beq_eq_false_iff_ne.2 hk1
          have hk6':(ev.x == 6)=false:=beq_eq_false_iff_ne.2 hk6
          go_wp2_with fail;go_roundw
          case rel=>exact Or.inr ⟨by go_num,gl,kl,l,rfl,HPS.out,HGL.out,HT.out.1.toS⟩
          case measure=>simp[intOf]
        ·have HF:Hid (bxS w bh bm (qHo G []) u1 (qHo G []) u2 gl' kl' l' wr∧l'.Perm (nfY (qHo G []).bx)∧w.heap.size≤gl'):=⟨hbx,hp',hg'⟩
         clear hbx hp' hg' HT
         as_aux_lemma=>
          go_wp2_with (first
           | (refine wpList_load_mid (P:=Tryz.prog) rfl 35 _ rfl bh 0 rfl (hoL (qHo G []) u1) _ HF.out.1.h.load Tryz.underlying35 rfl (sz41L _ _) ?_))
          refine (wHolds_any wr (qHo G []) u1 0 gl' kl' l' HF.out.1.t1 HF.out.1.o HF.out.2.1 HOK.out.nd HOK.out.n2).mono ?_
          rintro o vz ⟨rfl,hbz⟩;have HEN:Hid (bxS w bh bm (qHo G []) u1 (qHo G []) u2 gl' kl' l' vz):=HF.out.1.below hbz
          clear hbz;go_wp2_with fail;go_roundw
          case rel=>exact⟨i+1,qHo G [],u1,u2,gl',kl',l',by omega,by go_num,rfl,HI.out.next HR.out HOK.out,HF.out.2.1,HF.out.2.2,HEN.out⟩
          case measure=>simp[intOf];omega
      ·obtain rfl:ql=0:=by have:=HQL.out;rw[hq] at this;exact this
       have HPA:Hid ((l++[(tg:Int)]).Perm (nfY (qHo G []).bx)):=(List.perm_append_comm.trans (HP.out.cons (tg:Int))).trans hn.symm
       have HLL:Hid (l.length≤1000):=(by have e:=HP.out.length_eq;have:=(nfY_len H.bx).1;have:=HI.out.ok.n2;show l.length≤1000;omega)
       clear hq hn HQL HAT;go_wp2_with (first
        | (refine wpList_store_mid (P:=Tryz.prog) rfl 35 _ _ rfl bm 0 (hoL (qHo G []) u2).toArray rfl rfl (HB9.out.there 0 _ (by rw[List.size_toArray,hoL_len,hoL_len];decide)) (sz41A _ _) (hoL_one _ _) ?_;generalize hWn:World.setCells _ bm 0 _=va;have HT:Hid (bxT w bh bm v6.heap.size (qHo G []) u1 u2 gl kl l va∧∀ g ev ao m k,at8 v7 g 0 ev ao m k→at8 va g 0 ev ao m k):=(by rw[← hWn];exact HZ.out);clear HZ;clear hWn);have HTA:Hid (bxT w bh bm v6.heap.size (qHo G []) u1 u2 gl kl l (va.alloc (.cells #[.int .i64 (tg:Int)] 3))):=HT.out.1.below ((Below.refl _ _).alloc (Nat.le_refl _) _);have HNW:Hid ((va.alloc (.cells #[.int .i64 (tg:Int)] 3)).heap[va.heap.size]?=some (.cells #[.int .i64 (tg:Int)] 3)):=heap_alloc_new va _
        | (at_builtin;refine app_rec (w:=va.alloc (.cells #[.int .i64 (tg:Int)] 3)) rfl (.tmp 147) (.tmp 149) 50 3 _ 1 8 Tryz.info3 Tryz.underlying50 rfl (by decide) (by decide) rfl 0 gl l.length kl (l.map (Value.int .i64)) rfl HTA.out.o va.heap.size [.int .i64 (tg:Int)] rfl rfl HNW.out (by simp[Value.oneCell']) (by have:=HLL.out;omega) (Nat.zero_le _) ?_;intro g6 k6 w6 ho6 hg6 hg6' hb6))
       have HF:Hid (bxS w bh bm (qHo G []) u1 (qHo G []) u2 g6 k6 (l++[(tg:Int)]) w6∧w.heap.size≤g6):=⟨HTA.out.app HGL.out (tg:Int) ho6 hg6,by have:=HGL.out;have:=HTA.out.b.size;omega⟩
       skip;clear HTA HNW ho6 hg6 hg6' hb6 HT;have hll:l.length+1=(l++[(tg:Int)]).length:=by simp
       rw[hll]
       clear hll;generalize l++[(tg:Int)]=l6 at *;refine wp_loop_once ?_
       go_wp2_with (first
        | (refine wpList_load_mid (P:=Tryz.prog) rfl 35 _ rfl bh 0 rfl (hoL (qHo G []) u1) _ HF.out.1.h.load Tryz.underlying35 rfl (sz41L _ _) ?_))
       refine (wHolds_any w6 (qHo G []) u1 0 g6 k6 l6 HF.out.1.t1 HF.out.1.o HPA.out HOK.out.nd HOK.out.n2).mono ?_
       rintro o vz ⟨rfl,hbz⟩;have HEN:Hid (bxS w bh bm (qHo G []) u1 (qHo G []) u2 g6 k6 l6 vz):=HF.out.1.below hbz
       clear hbz;go_wp2_with fail;go_roundw
       case rel=>exact⟨i+1,qHo G [],u1,u2,g6,k6,l6,by omega,by go_num,rfl,HI.out.next HR.out HOK.out,HPA.out,HF.out.2,HEN.out⟩
       case measure=>simp[intOf];omega)
    ·focus
      go_wp2_with (first
       | (refine wpList_load_mid (P:=Tryz.prog) rfl 35 _ rfl bh 0 rfl (hoL H s1) _ HX.out.h.load Tryz.underlying35 rfl (sz41L _ _) ?_))
      have HOK:Hid (okHo (abHo H (tg:Int))):=HI.out.ok.ab _
      have HR:Hid (sameR H (abHo H (tg:Int))):=ab_r H _
      have HST:Hid (stepQ H (abHo H (tg:Int))):=ab_step HI.out _
      have HC1:Hid (Calls Tryz.prog 25 #[.agg (hoL H s1).toArray,.int .i64 (tg:Int)] w3 (hostQ w3 (abHo H (tg:Int)))):=cAb w3 H s1 _ HI.out.ok HX.out.t1 HX.out.ss (wf_small (by omega) (by have:=HTG.out;omega))
      have HC2:Hid (∀ X,isHo X H s2→Calls Tryz.prog 26 #[.agg (hoL H s2).toArray,.int .i64 (tg:Int)] X fun o w'=>∃ s',o = .returned (.agg (hoL (abHo H (tg:Int)) s').toArray)∧isHo w' (abHo H (tg:Int)) s'∧Below X.heap.size X w'):=fun X hX=>csAb X H s2 _ HI.out.ok hX
      generalize abHo H (tg:Int)=G at *;refine (HC1.out).mono ?_
      rintro o v1 ⟨t1,rfl,st1,ss1,hb1⟩;have HY1:Hid (bxS w bh bm H s1 H s2 gl kl l v1∧isHo v1 G t1∧slSome t1):=⟨HX.out.below hb1,st1.now,ss1⟩
      clear st1 ss1 hb1;go_wp2_with (first
       | (refine wpList_store_mid (P:=Tryz.prog) rfl 35 _ _ rfl bh 0 (hoL G t1).toArray rfl rfl (HY1.out.1.h.there 0 _ (by rw[List.size_toArray,hoL_len,hoL_len];decide)) (sz41A _ _) (hoL_one _ _) ?_;generalize hWn:World.setCells _ bh 0 _=v2;have HY2:Hid (bxS w bh bm G t1 H s2 gl kl l v2):=(by rw[← hWn];exact HY1.out.1.put1 HY1.out.2.1 HY1.out.2.2);clear hWn)
       | (refine wpList_load_mid (P:=Tryz.prog) rfl 35 _ rfl bm 0 rfl (hoL H s2) _ HY2.out.m.load Tryz.underlying35 rfl (sz41L _ _) ?_))
      clear HY1;refine (HC2.out v2 HY2.out.t2).mono ?_
      rintro o v3 ⟨t2,rfl,q2,hb3⟩;have HY3:Hid (bxS w bh bm G t1 H s2 gl kl l v3∧isHo v3 G t2):=⟨HY2.out.below hb3,q2⟩
      clear q2 hb3 HY2;go_wp2_with (first
       | (refine wpList_store_mid (P:=Tryz.prog) rfl 35 _ _ rfl bm 0 (hoL G t2).toArray rfl rfl (HY3.out.1.m.there 0 _ (by rw[List.size_toArray,hoL_len,hoL_len];decide)) (sz41A _ _) (hoL_one _ _) ?_;generalize hWn:World.setCells _ bm 0 _=v4;have HS:Hid (bxS w bh bm G t1 G t2 gl kl l v4):=(by rw[← hWn];exact HY3.out.1.put2 HY3.out.2);clear hWn)
       | (refine wpList_load_mid (P:=Tryz.prog) rfl 35 _ rfl bh 0 rfl (hoL G t1) _ HS.out.h.load Tryz.underlying35 rfl (sz41L _ _) ?_)
       | (refine wpList_load_mid (P:=Tryz.prog) rfl 35 _ rfl bm 0 rfl (hoL G t2) _ HS.out.m.load Tryz.underlying35 rfl (sz41L _ _) ?_))
      clear HY3;clear HC1 HC2 HX;refine (wHost_same v4 G t1 t2 HS.out.t1 HS.out.t2 HOK.out (HR.out.1.trans HI.out.fs) (HR.out.2.1.trans HI.out.ff)).mono ?_
      rintro o v5 ⟨rfl,hb5⟩;have HS5:Hid (bxS w bh bm G t1 G t2 gl kl l (v5.alloc (.cells #[] 46))):=(HS.out.below hb5).below ((Below.refl _ _).alloc (Nat.le_refl _) _)
      clear hb5 HS;go_wp2_with (first
       | (refine wpList_load_mid (P:=Tryz.prog) rfl 35 _ rfl bh 0 rfl (hoL G t1) _ HS5.out.h.load Tryz.underlying35 rfl (sz41L _ _) ?_))
      generalize v5.alloc (.cells #[] 46)=v6 at *;refine (cDrN v6 G t1 HOK.out HS5.out.t1 HS5.out.ss).mono ?_
      rintro o v7 ⟨u1,qa,ql,qc,rfl,hql,st1,ss1,hat,hb7⟩;have HY7:Hid (St v6.heap.size v7 (fun V=>isHo V (qHo G []) u1)∧slSome u1∧Below v6.heap.size v6 v7):=⟨st1,ss1,hb7⟩
      have HQL:Hid (ql=G.qu.length):=hql
      have HAT:Hid (∀ ev,G.qu=[ev]→∃ g ao m k,qa=some ⟨g,0,none⟩∧at8 v7 g 0 ev ao m k):=hat
      have HB7:Hid (blk v7 bh (hoL G t1) 35):=HS5.out.h.below hb7
      clear st1 ss1 hb7 hql hat;have HD7:Hid (∀ X,v7.setCells bh 0 (hoL (qHo G []) u1)=X→blk X bm (hoL G t2) 35∧isHo X G t2):=fun X hX=>by
       have q:=(HS5.out.below HY7.out.2.2).put1 HY7.out.1.now HY7.out.2.1
       rw[hX] at q
       exact⟨q.m,q.t2⟩
      go_wp2_with (first
       | (refine wpList_store_mid (P:=Tryz.prog) rfl 35 _ _ rfl bh 0 (hoL (qHo G []) u1).toArray rfl rfl (HB7.out.there 0 _ (by rw[List.size_toArray,hoL_len,hoL_len];decide)) (sz41A _ _) (hoL_one _ _) ?_;generalize hWn:World.setCells _ bh 0 _=v8;have HW8:Hid (v7.setCells bh 0 (hoL (qHo G []) u1)=v8):=hWn;have HY8:Hid (blk v8 bm (hoL G t2) 35∧isHo v8 G t2):=HD7.out v8 hWn;clear hWn)
       | (refine wpList_load_mid (P:=Tryz.prog) rfl 35 _ rfl bm 0 rfl (hoL G t2) _ HY8.out.1.load Tryz.underlying35 rfl (sz41L _ _) ?_))
      clear HD7 HB7;refine (csDr v8 G t2 HOK.out HY8.out.2).mono ?_
      rintro o v9 ⟨u2,qv,rfl,st2,hb9⟩;have HB9:Hid (blk v9 bm (hoL G t2) 35):=HY8.out.1.below hb9
      have HZ:Hid (bxT w bh bm v6.heap.size (qHo G []) u1 u2 gl kl l (v9.setCells bm 0 (hoL (qHo G []) u2))∧∀ g ev ao m k,at8 v7 g 0 ev ao m k→at8 (v9.setCells bm 0 (hoL (qHo G []) u2)) g 0 ev ao m k):=bxT_make HS5.out HY7.out.1 HY7.out.2.1 HY7.out.2.2 HW8.out st2 hb9
      clear st2 hb9 HY8 HW8 HY7 HS5;go_wp2_with (first
       | (refine wpList_store_mid (P:=Tryz.prog) rfl 35 _ _ rfl bm 0 (hoL (qHo G []) u2).toArray rfl rfl (HB9.out.there 0 _ (by rw[List.size_toArray,hoL_len,hoL_len];decide)) (sz41A _ _) (hoL_one _ _) ?_;generalize hWn:World.setCells _ bm 0 _=va;have HT:Hid (bxT w bh bm v6.heap.size (qHo G []) u1 u2 gl kl l va∧∀ g ev ao m k,at8 v7 g 0 ev ao m k→at8 va g 0 ev ao m k):=(by rw[← hWn];exact HZ.out);clear HZ;clear hWn))
      go_loopw [10,18] (fun v t wr=>(ql=1∧t = .int .i64 0∧v = .slice (some ⟨gl,0,none⟩) l.length kl∧va=wr)∨(t = .int .i64 (ql:Int)∧∃ gl' kl' l',v = .slice (some ⟨gl',0,none⟩) (List.length l') kl'∧l'.Perm (nfY (qHo G []).bx)∧w.heap.size≤gl'∧bxS w bh bm (qHo G []) u1 (qHo G []) u2 gl' kl' l' wr)) (fun _ t _=>1-(intOf t).toNat)
      case atStart=>
       rcases HST.out with⟨hq,hn⟩|⟨ev,hq,hn,hk⟩|⟨ev,hq,hmem,hn,hk⟩
       ·obtain rfl:ql=0:=by have:=HQL.out;rw[hq] at this;exact this
        exact Or.inr ⟨rfl,gl,kl,l,rfl,(by have q:=HP.out;rw[← hn] at q;exact q),HGL.out,HT.out.1.toS⟩
       ·exact Or.inl ⟨by have:=HQL.out;rw[hq] at this;exact this,rfl,rfl,rfl⟩
       ·exact Or.inl ⟨by have:=HQL.out;rw[hq] at this;exact this,rfl,rfl,rfl⟩
      case round=>
       rcases hrel with⟨rfl,rfl,rfl,rfl⟩|⟨rfl,gl',kl',l',rfl,hp',hg',hbx⟩
       ·rcases HST.out with⟨hq,hn⟩|⟨ev,hq,hn,hk⟩|⟨ev,hq,hmem,hn,hk⟩
        ·exact absurd HQL.out (by rw[hq];decide)
        ·have HPS:Hid (l.Perm (nfY (qHo G []).bx)):=(by have q:=HP.out;rw[← hn] at q;exact q)
         clear hn;have hk1:¬ ev.x=1:=hk.1
         have hk6:¬ ev.x=6:=hk.2
         clear hk;obtain⟨qg,ao,am,ak,rfl,hat⟩:=HAT.out ev hq
         have y0:va.cell? ⟨qg,0,none⟩=some (.int .i64 ev.x):=(HT.out.2 _ _ _ _ _ hat).c0
         have y1:va.cell? ⟨qg,1,none⟩=some (.int .i64 ev.y):=(HT.out.2 _ _ _ _ _ hat).c1
         clear hq hat HAT HQL HST
         as_aux_lemma=>
          have hk1':(ev.x == 1)=false:=beq_eq_false_iff_ne.2 hk1
          have hk6':(ev.x == 6)=false:=beq_eq_false_iff_ne.2 hk6
          go_wp2_with fail;go_roundw
          case rel=>exact Or.inr ⟨by go_num,gl,kl,l,rfl,HPS.out,HGL.out,HT.out.1.toS⟩
          case measure=>simp[intOf]
        ·have HPERM:Hid ((l.filter (· != ev.y)).Perm (nfY (qHo G []).bx)):=(by have q:=HP.out.filter (· != ev.y);rw[← hn] at q;exact q)
         have HMEM:Hid (ev.y ∈ nfY H.bx):=hmem
         have HLL:Hid (l.length≤1000):=(by have e:=HP.out.length_eq;have:=(nfY_len H.bx).1;have:=HI.out.ok.n2;show l.length≤1000;omega)
         clear hn hmem;obtain⟨qg,ao,am,ak,rfl,hat⟩:=HAT.out ev hq
         have y0:va.cell? ⟨qg,0,none⟩=some (.int .i64 ev.x):=(HT.out.2 _ _ _ _ _ hat).c0
         have y1:va.cell? ⟨qg,1,none⟩=some (.int .i64 ev.y):=(HT.out.2 _ _ _ _ _ hat).c1
         clear hq hat HAT HQL HST;rcases hk with hk|hk
         all_goals (
          as_aux_lemma=>
           rw[hk] at y0
           have HLE:Hid ((l.filter (· != ev.y)).length+1=l.length):=without_len (HP.out.nodup_iff.2 HI.out.ok.nd) (HP.out.mem_iff.2 HMEM.out)
           have hlw:IntKind.i64.wrap ((l.length:Int)-1)=((l.filter (· != ev.y)).length:Int):=by rw[IntKind.wrap_i64];have:=HLE.out;have:=HLL.out;omega
           go_wp2_with fail;refine (wWithout_any va 0 gl kl l ev.y HT.out.1.o HLL.out).mono ?_
           rintro o vb ⟨gl',kl',rfl,ho,hbb⟩;have HEV:Hid (bxS w bh bm (qHo G []) u1 (qHo G []) u2 gl' kl' (l.filter (· != ev.y)) vb∧w.heap.size≤gl'):=by
            have q:=HT.out.1.toS.below hbb
            exact⟨⟨q.h,q.m,q.t1,q.t2,q.ss,ho.zero,q.b,q.z,q.d⟩,Nat.le_trans HT.out.1.toS.b.size ho.lt.1⟩
           have HPF:Hid ((l.filter (· != ev.y)).Perm (nfY (qHo G []).bx)):=HPERM.out
           clear ho hbb HPERM;generalize l.filter (· != ev.y)=lf at *;go_wp2_with fail;go_roundw
           case rel=>exact Or.inr ⟨by go_num,gl',kl',lf,rfl,HPF.out,HEV.out.2,HEV.out.1⟩
           case measure=>simp[intOf])
       ·have HF:Hid (bxS w bh bm (qHo G []) u1 (qHo G []) u2 gl' kl' l' wr∧l'.Perm (nfY (qHo G []).bx)∧w.heap.size≤gl'):=⟨hbx,hp',hg'⟩
        clear hbx hp' hg' HT
        as_aux_lemma=>
         go_wp2_with (first
          | (refine wpList_load_mid (P:=Tryz.prog) rfl 35 _ rfl bh 0 rfl (hoL (qHo G []) u1) _ HF.out.1.h.load Tryz.underlying35 rfl (sz41L _ _) ?_))
         refine (wHolds_any wr (qHo G []) u1 0 gl' kl' l' HF.out.1.t1 HF.out.1.o HF.out.2.1 HOK.out.nd HOK.out.n2).mono ?_
         rintro o vz ⟨rfl,hbz⟩;have HEN:Hid (bxS w bh bm (qHo G []) u1 (qHo G []) u2 gl' kl' l' vz):=HF.out.1.below hbz
         clear hbz;go_wp2_with fail;go_roundw
         case rel=>exact⟨i+1,qHo G [],u1,u2,gl',kl',l',by omega,by go_num,rfl,HI.out.next HR.out HOK.out,HF.out.2.1,HF.out.2.2,HEN.out⟩
         case measure=>simp[intOf];omega
    ·rcases h7 with h7|h7
     all_goals (
      go_wp2_with (first
       | (refine wpList_load_mid (P:=Tryz.prog) rfl 35 _ rfl bh 0 rfl (hoL H s1) _ HX.out.h.load Tryz.underlying35 rfl (sz41L _ _) ?_))
      refine (cBest w3 H s1 HI.out.ok HX.out.t1 HX.out.ss).mono ?_
      rintro o w4 ⟨r,rfl,hr,hb4⟩;have HX4:Hid (bxS w bh bm H s1 H s2 gl kl l w4):=HX.out.below hb4
      have HRR:Hid (bestR H.bx r):=hr
      clear hb4 HX hr;go_wp2_with (first
       | (refine wpList_load_mid (P:=Tryz.prog) rfl 35 _ rfl bm 0 rfl (hoL H s2) _ HX4.out.m.load Tryz.underlying35 rfl (sz41L _ _) ?_))
      refine (csBest w4 H s2 HI.out.ok HX4.out.t2).mono ?_
      rintro o w5 ⟨r',rfl,hr,hb5⟩;obtain rfl:r=r':=bestR_one HRR.out hr
      have HX5:Hid (bxS w bh bm H s1 H s2 gl kl l w5):=HX4.out.below hb5
      clear hb5 HX4 HRR;rcases hr with⟨rfl,hr⟩|⟨rb,rfl,hbest⟩
      ·clear hr;focus
        have HOK:Hid (okHo (takeHo H (-1))):=HI.out.ok.take _
        have HR:Hid (sameR H (takeHo H (-1))):=⟨rfl,rfl,rfl⟩
        have HST:Hid (stepQ H (takeHo H (-1))):=take_step HI.out _
        have HC1:Hid (∀ X,isHo X H s1→slSome s1→Calls Tryz.prog 19 #[.agg (hoL H s1).toArray,.int .i64 (-1)] X (hostQ X (takeHo H (-1)))):=fun X h1 h2=>cTake X H s1 _ HI.out.ok h1 h2
        have HC2:Hid (∀ X,isHo X H s2→Calls Tryz.prog 29 #[.agg (hoL H s2).toArray,.int .i64 (-1)] X fun o w'=>∃ s',o = .returned (.agg (hoL (takeHo H (-1)) s').toArray)∧isHo w' (takeHo H (-1)) s'∧Below X.heap.size X w'):=fun X hX=>csTake X H s2 _ HI.out.ok hX
        generalize takeHo H (-1)=G at *;go_wp2_with (first
         | (refine wpList_load_mid (P:=Tryz.prog) rfl 35 _ rfl bh 0 rfl (hoL H s1) _ HX5.out.h.load Tryz.underlying35 rfl (sz41L _ _) ?_))
        refine (HC1.out w5 HX5.out.t1 HX5.out.ss).mono ?_
        rintro o v1 ⟨t1,rfl,st1,ss1,hb1⟩;have HY1:Hid (bxS w bh bm H s1 H s2 gl kl l v1∧isHo v1 G t1∧slSome t1):=⟨HX5.out.below hb1,st1.now,ss1⟩
        clear st1 ss1 hb1;go_wp2_with (first
         | (refine wpList_store_mid (P:=Tryz.prog) rfl 35 _ _ rfl bh 0 (hoL G t1).toArray rfl rfl (HY1.out.1.h.there 0 _ (by rw[List.size_toArray,hoL_len,hoL_len];decide)) (sz41A _ _) (hoL_one _ _) ?_;generalize hWn:World.setCells _ bh 0 _=v2;have HY2:Hid (bxS w bh bm G t1 H s2 gl kl l v2):=(by rw[← hWn];exact HY1.out.1.put1 HY1.out.2.1 HY1.out.2.2);clear hWn)
         | (refine wpList_load_mid (P:=Tryz.prog) rfl 35 _ rfl bm 0 rfl (hoL H s2) _ HY2.out.m.load Tryz.underlying35 rfl (sz41L _ _) ?_))
        clear HY1;refine (HC2.out v2 HY2.out.t2).mono ?_
        rintro o v3 ⟨t2,rfl,q2,hb3⟩;have HY3:Hid (bxS w bh bm G t1 H s2 gl kl l v3∧isHo v3 G t2):=⟨HY2.out.below hb3,q2⟩
        clear q2 hb3 HY2;go_wp2_with (first
         | (refine wpList_store_mid (P:=Tryz.prog) rfl 35 _ _ rfl bm 0 (hoL G t2).toArray rfl rfl (HY3.out.1.m.there 0 _ (by rw[List.size_toArray,hoL_len,hoL_len];decide)) (sz41A _ _) (hoL_one _ _) ?_;generalize hWn:World.setCells _ bm 0 _=v4;have HS:Hid (bxS w bh bm G t1 G t2 gl kl l v4):=(by rw[← hWn];exact HY3.out.1.put2 HY3.out.2);clear hWn)
         | (refine wpList_load_mid (P:=Tryz.prog) rfl 35 _ rfl bh 0 rfl (hoL G t1) _ HS.out.h.load Tryz.underlying35 rfl (sz41L _ _) ?_)
         | (refine wpList_load_mid (P:=Tryz.prog) rfl 35 _ rfl bm 0 rfl (hoL G t2) _ HS.out.m.load Tryz.underlying35 rfl (sz41L _ _) ?_))
        clear HY3;clear HX5;clear HC1 HC2;refine (wHost_same v4 G t1 t2 HS.out.t1 HS.out.t2 HOK.out (HR.out.1.trans HI.out.fs) (HR.out.2.1.trans HI.out.ff)).mono ?_
        rintro o v5 ⟨rfl,hb5⟩;have HS5:Hid (bxS w bh bm G t1 G t2 gl kl l (v5.alloc (.cells #[] 46))):=(HS.out.below hb5).below ((Below.refl _ _).alloc (Nat.le_refl _) _)
        clear hb5 HS;go_wp2_with (first
         | (refine wpList_load_mid (P:=Tryz.prog) rfl 35 _ rfl bh 0 rfl (hoL G t1) _ HS5.out.h.load Tryz.underlying35 rfl (sz41L _ _) ?_))
        generalize v5.alloc (.cells #[] 46)=v6 at *;refine (cDrN v6 G t1 HOK.out HS5.out.t1 HS5.out.ss).mono ?_
        rintro o v7 ⟨u1,qa,ql,qc,rfl,hql,st1,ss1,hat,hb7⟩;have HY7:Hid (St v6.heap.size v7 (fun V=>isHo V (qHo G []) u1)∧slSome u1∧Below v6.heap.size v6 v7):=⟨st1,ss1,hb7⟩
        have HQL:Hid (ql=G.qu.length):=hql
        have HAT:Hid (∀ ev,G.qu=[ev]→∃ g ao m k,qa=some ⟨g,0,none⟩∧at8 v7 g 0 ev ao m k):=hat
        have HB7:Hid (blk v7 bh (hoL G t1) 35):=HS5.out.h.below hb7
        clear st1 ss1 hb7 hql hat;have HD7:Hid (∀ X,v7.setCells bh 0 (hoL (qHo G []) u1)=X→blk X bm (hoL G t2) 35∧isHo X G t2):=fun X hX=>by
         have q:=(HS5.out.below HY7.out.2.2).put1 HY7.out.1.now HY7.out.2.1
         rw[hX] at q
         exact⟨q.m,q.t2⟩
        go_wp2_with (first
         | (refine wpList_store_mid (P:=Tryz.prog) rfl 35 _ _ rfl bh 0 (hoL (qHo G []) u1).toArray rfl rfl (HB7.out.there 0 _ (by rw[List.size_toArray,hoL_len,hoL_len];decide)) (sz41A _ _) (hoL_one _ _) ?_;generalize hWn:World.setCells _ bh 0 _=v8;have HW8:Hid (v7.setCells bh 0 (hoL (qHo G []) u1)=v8):=hWn;have HY8:Hid (blk v8 bm (hoL G t2) 35∧isHo v8 G t2):=HD7.out v8 hWn;clear hWn)
         | (refine wpList_load_mid (P:=Tryz.prog) rfl 35 _ rfl bm 0 rfl (hoL G t2) _ HY8.out.1.load Tryz.underlying35 rfl (sz41L _ _) ?_))
        clear HD7 HB7;refine (csDr v8 G t2 HOK.out HY8.out.2).mono ?_
        rintro o v9 ⟨u2,qv,rfl,st2,hb9⟩;have HB9:Hid (blk v9 bm (hoL G t2) 35):=HY8.out.1.below hb9
        have HZ:Hid (bxT w bh bm v6.heap.size (qHo G []) u1 u2 gl kl l (v9.setCells bm 0 (hoL (qHo G []) u2))∧∀ g ev ao m k,at8 v7 g 0 ev ao m k→at8 (v9.setCells bm 0 (hoL (qHo G []) u2)) g 0 ev ao m k):=bxT_make HS5.out HY7.out.1 HY7.out.2.1 HY7.out.2.2 HW8.out st2 hb9
        clear st2 hb9 HY8 HW8 HY7 HS5;go_wp2_with (first
         | (refine wpList_store_mid (P:=Tryz.prog) rfl 35 _ _ rfl bm 0 (hoL (qHo G []) u2).toArray rfl rfl (HB9.out.there 0 _ (by rw[List.size_toArray,hoL_len,hoL_len];decide)) (sz41A _ _) (hoL_one _ _) ?_;generalize hWn:World.setCells _ bm 0 _=va;have HT:Hid (bxT w bh bm v6.heap.size (qHo G []) u1 u2 gl kl l va∧∀ g ev ao m k,at8 v7 g 0 ev ao m k→at8 va g 0 ev ao m k):=(by rw[← hWn];exact HZ.out);clear HZ;clear hWn))
        go_loopw [10,18] (fun v t wr=>(ql=1∧t = .int .i64 0∧v = .slice (some ⟨gl,0,none⟩) l.length kl∧va=wr)∨(t = .int .i64 (ql:Int)∧∃ gl' kl' l',v = .slice (some ⟨gl',0,none⟩) (List.length l') kl'∧l'.Perm (nfY (qHo G []).bx)∧w.heap.size≤gl'∧bxS w bh bm (qHo G []) u1 (qHo G []) u2 gl' kl' l' wr)) (fun _ t _=>1-(intOf t).toNat)
        case atStart=>
         rcases HST.out with⟨hq,hn⟩|⟨ev,hq,hn,hk⟩|⟨ev,hq,hmem,hn,hk⟩
         ·obtain rfl:ql=0:=by have:=HQL.out;rw[hq] at this;exact this
          exact Or.inr ⟨rfl,gl,kl,l,rfl,(by have q:=HP.out;rw[← hn] at q;exact q),HGL.out,HT.out.1.toS⟩
         ·exact Or.inl ⟨by have:=HQL.out;rw[hq] at this;exact this,rfl,rfl,rfl⟩
         ·exact Or.inl ⟨by have:=HQL.out;rw[hq] at this;exact this,rfl,rfl,rfl⟩
        case round=>
         rcases hrel with⟨rfl,rfl,rfl,rfl⟩|⟨rfl,gl',kl',l',rfl,hp',hg',hbx⟩
         ·rcases HST.out with⟨hq,hn⟩|⟨ev,hq,hn,hk⟩|⟨ev,hq,hmem,hn,hk⟩
          ·exact absurd HQL.out (by rw[hq];decide)
          ·have HPS:Hid (l.Perm (nfY (qHo G []).bx)):=(by have q:=HP.out;rw[← hn] at q;exact q)
           clear hn;have hk1:¬ ev.x=1:=hk.1
           have hk6:¬ ev.x=6:=hk.2
           clear hk;obtain⟨qg,ao,am,ak,rfl,hat⟩:=HAT.out ev hq
           have y0:va.cell? ⟨qg,0,none⟩=some (.int .i64 ev.x):=(HT.out.2 _ _ _ _ _ hat).c0
           have y1:va.cell? ⟨qg,1,none⟩=some (.int .i64 ev.y):=(HT.out.2 _ _ _ _ _ hat).c1
           clear hq hat HAT HQL HST
           as_aux_lemma=>
            have hk1':(ev.x == 1)=false:=beq_eq_false_iff_ne.2 hk1
            have hk6':(ev.x == 6)=false:=beq_eq_false_iff_ne.2 hk6
            go_wp2_with fail;go_roundw
            case rel=>exact Or.inr ⟨by go_num,gl,kl,l,rfl,HPS.out,HGL.out,HT.out.1.toS⟩
            case measure=>simp[intOf]
          ·have HPERM:Hid ((l.filter (· != ev.y)).Perm (nfY (qHo G []).bx)):=(by have q:=HP.out.filter (· != ev.y);rw[← hn] at q;exact q)
           have HMEM:Hid (ev.y ∈ nfY H.bx):=hmem
           have HLL:Hid (l.length≤1000):=(by have e:=HP.out.length_eq;have:=(nfY_len H.bx).1;have:=HI.out.ok.n2;show l.length≤1000;omega)
           clear hn hmem;obtain⟨qg,ao,am,ak,rfl,hat⟩:=HAT.out ev hq
           have y0:va.cell? ⟨qg,0,none⟩=some (.int .i64 ev.x):=(HT.out.2 _ _ _ _ _ hat).c0
           have y1:va.cell? ⟨qg,1,none⟩=some (.int .i64 ev.y):=(HT.out.2 _ _ _ _ _ hat).c1
           clear hq hat HAT HQL HST;rcases hk with hk|hk
           all_goals (
            as_aux_lemma=>
             rw[hk] at y0
             have HLE:Hid ((l.filter (· != ev.y)).length+1=l.length):=without_len (HP.out.nodup_iff.2 HI.out.ok.nd) (HP.out.mem_iff.2 HMEM.out)
             have hlw:IntKind.i64.wrap ((l.length:Int)-1)=((l.filter (· != ev.y)).length:Int):=by rw[IntKind.wrap_i64];have:=HLE.out;have:=HLL.out;omega
             go_wp2_with fail;refine (wWithout_any va 0 gl kl l ev.y HT.out.1.o HLL.out).mono ?_
             rintro o vb ⟨gl',kl',rfl,ho,hbb⟩;have HEV:Hid (bxS w bh bm (qHo G []) u1 (qHo G []) u2 gl' kl' (l.filter (· != ev.y)) vb∧w.heap.size≤gl'):=by
              have q:=HT.out.1.toS.below hbb
              exact⟨⟨q.h,q.m,q.t1,q.t2,q.ss,ho.zero,q.b,q.z,q.d⟩,Nat.le_trans HT.out.1.toS.b.size ho.lt.1⟩
             have HPF:Hid ((l.filter (· != ev.y)).Perm (nfY (qHo G []).bx)):=HPERM.out
             clear ho hbb HPERM;generalize l.filter (· != ev.y)=lf at *;go_wp2_with fail;go_roundw
             case rel=>exact Or.inr ⟨by go_num,gl',kl',lf,rfl,HPF.out,HEV.out.2,HEV.out.1⟩
             case measure=>simp[intOf])
         ·have HF:Hid (bxS w bh bm (qHo G []) u1 (qHo G []) u2 gl' kl' l' wr∧l'.Perm (nfY (qHo G []).bx)∧w.heap.size≤gl'):=⟨hbx,hp',hg'⟩
          clear hbx hp' hg' HT
          as_aux_lemma=>
           go_wp2_with (first
            | (refine wpList_load_mid (P:=Tryz.prog) rfl 35 _ rfl bh 0 rfl (hoL (qHo G []) u1) _ HF.out.1.h.load Tryz.underlying35 rfl (sz41L _ _) ?_))
           refine (wHolds_any wr (qHo G []) u1 0 gl' kl' l' HF.out.1.t1 HF.out.1.o HF.out.2.1 HOK.out.nd HOK.out.n2).mono ?_
           rintro o vz ⟨rfl,hbz⟩;have HEN:Hid (bxS w bh bm (qHo G []) u1 (qHo G []) u2 gl' kl' l' vz):=HF.out.1.below hbz
           clear hbz;go_wp2_with fail;go_roundw
           case rel=>exact⟨i+1,qHo G [],u1,u2,gl',kl',l',by omega,by go_num,rfl,HI.out.next HR.out HOK.out,HF.out.2.1,HF.out.2.2,HEN.out⟩
           case measure=>simp[intOf];omega
      ·focus
        have HOK:Hid (okHo (takeHo H (rb:Int))):=HI.out.ok.take _
        have HR:Hid (sameR H (takeHo H (rb:Int))):=⟨rfl,rfl,rfl⟩
        have HST:Hid (stepQ H (takeHo H (rb:Int))):=take_step HI.out _
        have HC1:Hid (∀ X,isHo X H s1→slSome s1→Calls Tryz.prog 19 #[.agg (hoL H s1).toArray,.int .i64 (rb:Int)] X (hostQ X (takeHo H (rb:Int)))):=fun X h1 h2=>cTake X H s1 _ HI.out.ok h1 h2
        have HC2:Hid (∀ X,isHo X H s2→Calls Tryz.prog 29 #[.agg (hoL H s2).toArray,.int .i64 (rb:Int)] X fun o w'=>∃ s',o = .returned (.agg (hoL (takeHo H (rb:Int)) s').toArray)∧isHo w' (takeHo H (rb:Int)) s'∧Below X.heap.size X w'):=fun X hX=>csTake X H s2 _ HI.out.ok hX
        generalize takeHo H (rb:Int)=G at *;have hge:decide ((0:Int)≤(rb:Int))=true:=decide_eq_true (by omega)
        go_wp2_with (first
         | (refine wpList_load_midG (by rfl) 35 _ rfl bh 0 rfl (hoL H s1) _ HX5.out.h.load Tryz.underlying35 rfl (sz41L _ _) ?_))
        refine (wFirst_any w5 H s1 rb HX5.out.t1 hbest HI.out.ok.n2).mono ?_
        rintro o w6 ⟨rfl,hb6⟩;have HX6:Hid (bxS w bh bm H s1 H s2 gl kl l w6):=HX5.out.below hb6
        clear hb6 HX5;go_wp2_with (first
         | (refine wpList_load_mid (P:=Tryz.prog) rfl 35 _ rfl bh 0 rfl (hoL H s1) _ HX6.out.h.load Tryz.underlying35 rfl (sz41L _ _) ?_))
        refine (HC1.out w6 HX6.out.t1 HX6.out.ss).mono ?_
        rintro o v1 ⟨t1,rfl,st1,ss1,hb1⟩;have HY1:Hid (bxS w bh bm H s1 H s2 gl kl l v1∧isHo v1 G t1∧slSome t1):=⟨HX6.out.below hb1,st1.now,ss1⟩
        clear st1 ss1 hb1;go_wp2_with (first
         | (refine wpList_store_mid (P:=Tryz.prog) rfl 35 _ _ rfl bh 0 (hoL G t1).toArray rfl rfl (HY1.out.1.h.there 0 _ (by rw[List.size_toArray,hoL_len,hoL_len];decide)) (sz41A _ _) (hoL_one _ _) ?_;generalize hWn:World.setCells _ bh 0 _=v2;have HY2:Hid (bxS w bh bm G t1 H s2 gl kl l v2):=(by rw[← hWn];exact HY1.out.1.put1 HY1.out.2.1 HY1.out.2.2);clear hWn)
         | (refine wpList_load_mid (P:=Tryz.prog) rfl 35 _ rfl bm 0 rfl (hoL H s2) _ HY2.out.m.load Tryz.underlying35 rfl (sz41L _ _) ?_))
        clear HY1;refine (HC2.out v2 HY2.out.t2).mono ?_
        rintro o v3 ⟨t2,rfl,q2,hb3⟩;have HY3:Hid (bxS w bh bm G t1 H s2 gl kl l v3∧isHo v3 G t2):=⟨HY2.out.below hb3,q2⟩
        clear q2 hb3 HY2;go_wp2_with (first
         | (refine wpList_store_mid (P:=Tryz.prog) rfl 35 _ _ rfl bm 0 (hoL G t2).toArray rfl rfl (HY3.out.1.m.there 0 _ (by rw[List.size_toArray,hoL_len,hoL_len];decide)) (sz41A _ _) (hoL_one _ _) ?_;generalize hWn:World.setCells _ bm 0 _=v4;have HS:Hid (bxS w bh bm G t1 G t2 gl kl l v4):=(by rw[← hWn];exact HY3.out.1.put2 HY3.out.2);clear hWn)
         | (refine wpList_load_mid (P:=Tryz.prog) rfl 35 _ rfl bh 0 rfl (hoL G t1) _ HS.out.h.load Tryz.underlying35 rfl (sz41L _ _) ?_)
         | (refine wpList_load_mid (P:=Tryz.prog) rfl 35 _ rfl bm 0 rfl (hoL G t2) _ HS.out.m.load Tryz.underlying35 rfl (sz41L _ _) ?_))
        clear HY3;clear HX6;clear HC1 HC2;refine (wHost_same v4 G t1 t2 HS.out.t1 HS.out.t2 HOK.out (HR.out.1.trans HI.out.fs) (HR.out.2.1.trans HI.out.ff)).mono ?_
        rintro o v5 ⟨rfl,hb5⟩;have HS5:Hid (bxS w bh bm G t1 G t2 gl kl l (v5.alloc (.cells #[] 46))):=(HS.out.below hb5).below ((Below.refl _ _).alloc (Nat.le_refl _) _)
        clear hb5 HS;go_wp2_with (first
         | (refine wpList_load_mid (P:=Tryz.prog) rfl 35 _ rfl bh 0 rfl (hoL G t1) _ HS5.out.h.load Tryz.underlying35 rfl (sz41L _ _) ?_))
        generalize v5.alloc (.cells #[] 46)=v6 at *;refine (cDrN v6 G t1 HOK.out HS5.out.t1 HS5.out.ss).mono ?_
        rintro o v7 ⟨u1,qa,ql,qc,rfl,hql,st1,ss1,hat,hb7⟩;have HY7:Hid (St v6.heap.size v7 (fun V=>isHo V (qHo G []) u1)∧slSome u1∧Below v6.heap.size v6 v7):=⟨st1,ss1,hb7⟩
        have HQL:Hid (ql=G.qu.length):=hql
        have HAT:Hid (∀ ev,G.qu=[ev]→∃ g ao m k,qa=some ⟨g,0,none⟩∧at8 v7 g 0 ev ao m k):=hat
        have HB7:Hid (blk v7 bh (hoL G t1) 35):=HS5.out.h.below hb7
        clear st1 ss1 hb7 hql hat;have HD7:Hid (∀ X,v7.setCells bh 0 (hoL (qHo G []) u1)=X→blk X bm (hoL G t2) 35∧isHo X G t2):=fun X hX=>by
         have q:=(HS5.out.below HY7.out.2.2).put1 HY7.out.1.now HY7.out.2.1
         rw[hX] at q
         exact⟨q.m,q.t2⟩
        go_wp2_with (first
         | (refine wpList_store_mid (P:=Tryz.prog) rfl 35 _ _ rfl bh 0 (hoL (qHo G []) u1).toArray rfl rfl (HB7.out.there 0 _ (by rw[List.size_toArray,hoL_len,hoL_len];decide)) (sz41A _ _) (hoL_one _ _) ?_;generalize hWn:World.setCells _ bh 0 _=v8;have HW8:Hid (v7.setCells bh 0 (hoL (qHo G []) u1)=v8):=hWn;have HY8:Hid (blk v8 bm (hoL G t2) 35∧isHo v8 G t2):=HD7.out v8 hWn;clear hWn)
         | (refine wpList_load_mid (P:=Tryz.prog) rfl 35 _ rfl bm 0 rfl (hoL G t2) _ HY8.out.1.load Tryz.underlying35 rfl (sz41L _ _) ?_))
        clear HD7 HB7;refine (csDr v8 G t2 HOK.out HY8.out.2).mono ?_
        rintro o v9 ⟨u2,qv,rfl,st2,hb9⟩;have HB9:Hid (blk v9 bm (hoL G t2) 35):=HY8.out.1.below hb9
        have HZ:Hid (bxT w bh bm v6.heap.size (qHo G []) u1 u2 gl kl l (v9.setCells bm 0 (hoL (qHo G []) u2))∧∀ g ev ao m k,at8 v7 g 0 ev ao m k→at8 (v9.setCells bm 0 (hoL (qHo G []) u2)) g 0 ev ao m k):=bxT_make HS5.out HY7.out.1 HY7.out.2.1 HY7.out.2.2 HW8.out st2 hb9
        clear st2 hb9 HY8 HW8 HY7 HS5;go_wp2_with (first
         | (refine wpList_store_mid (P:=Tryz.prog) rfl 35 _ _ rfl bm 0 (hoL (qHo G []) u2).toArray rfl rfl (HB9.out.there 0 _ (by rw[List.size_toArray,hoL_len,hoL_len];decide)) (sz41A _ _) (hoL_one _ _) ?_;generalize hWn:World.setCells _ bm 0 _=va;have HT:Hid (bxT w bh bm v6.heap.size (qHo G []) u1 u2 gl kl l va∧∀ g ev ao m k,at8 v7 g 0 ev ao m k→at8 va g 0 ev ao m k):=(by rw[← hWn];exact HZ.out);clear HZ;clear hWn))
        go_loopw [10,18] (fun v t wr=>(ql=1∧t = .int .i64 0∧v = .slice (some ⟨gl,0,none⟩) l.length kl∧va=wr)∨(t = .int .i64 (ql:Int)∧∃ gl' kl' l',v = .slice (some ⟨gl',0,none⟩) (List.length l') kl'∧l'.Perm (nfY (qHo G []).bx)∧w.heap.size≤gl'∧bxS w bh bm (qHo G []) u1 (qHo G []) u2 gl' kl' l' wr)) (fun _ t _=>1-(intOf t).toNat)
        case atStart=>
         rcases HST.out with⟨hq,hn⟩|⟨ev,hq,hn,hk⟩|⟨ev,hq,hmem,hn,hk⟩
         ·obtain rfl:ql=0:=by have:=HQL.out;rw[hq] at this;exact this
          exact Or.inr ⟨rfl,gl,kl,l,rfl,(by have q:=HP.out;rw[← hn] at q;exact q),HGL.out,HT.out.1.toS⟩
         ·exact Or.inl ⟨by have:=HQL.out;rw[hq] at this;exact this,rfl,rfl,rfl⟩
         ·exact Or.inl ⟨by have:=HQL.out;rw[hq] at this;exact this,rfl,rfl,rfl⟩
        case round=>
         rcases hrel with⟨rfl,rfl,rfl,rfl⟩|⟨rfl,gl',kl',l',rfl,hp',hg',hbx⟩
         ·rcases HST.out with⟨hq,hn⟩|⟨ev,hq,hn,hk⟩|⟨ev,hq,hmem,hn,hk⟩
          ·exact absurd HQL.out (by rw[hq];decide)
          ·have HPS:Hid (l.Perm (nfY (qHo G []).bx)):=(by have q:=HP.out;rw[← hn] at q;exact q)
           clear hn;have hk1:¬ ev.x=1:=hk.1
           have hk6:¬ ev.x=6:=hk.2
           clear hk;obtain⟨qg,ao,am,ak,rfl,hat⟩:=HAT.out ev hq
           have y0:va.cell? ⟨qg,0,none⟩=some (.int .i64 ev.x):=(HT.out.2 _ _ _ _ _ hat).c0
           have y1:va.cell? ⟨qg,1,none⟩=some (.int .i64 ev.y):=(HT.out.2 _ _ _ _ _ hat).c1
           clear hq hat HAT HQL HST
           as_aux_lemma=>
            have hk1':(ev.x == 1)=false:=beq_eq_false_iff_ne.2 hk1
            have hk6':(ev.x == 6)=false:=beq_eq_false_iff_ne.2 hk6
            go_wp2_with fail;go_roundw
            case rel=>exact Or.inr ⟨by go_num,gl,kl,l,rfl,HPS.out,HGL.out,HT.out.1.toS⟩
            case measure=>simp[intOf]
          ·have HPERM:Hid ((l.filter (· != ev.y)).Perm (nfY (qHo G []).bx)):=(by have q:=HP.out.filter (· != ev.y);rw[← hn] at q;exact q)
           have HMEM:Hid (ev.y ∈ nfY H.bx):=hmem
           have HLL:Hid (l.length≤1000):=(by have e:=HP.out.length_eq;have:=(nfY_len H.bx).1;have:=HI.out.ok.n2;show l.length≤1000;omega)
           clear hn hmem;obtain⟨qg,ao,am,ak,rfl,hat⟩:=HAT.out ev hq
           have y0:va.cell? ⟨qg,0,none⟩=some (.int .i64 ev.x):=(HT.out.2 _ _ _ _ _ hat).c0
           have y1:va.cell? ⟨qg,1,none⟩=some (.int .i64 ev.y):=(HT.out.2 _ _ _ _ _ hat).c1
           clear hq hat HAT HQL HST;rcases hk with hk|hk
           all_goals (
            as_aux_lemma=>
             rw[hk] at y0
             have HLE:Hid ((l.filter (· != ev.y)).length+1=l.length):=without_len (HP.out.nodup_iff.2 HI.out.ok.nd) (HP.out.mem_iff.2 HMEM.out)
             have hlw:IntKind.i64.wrap ((l.length:Int)-1)=((l.filter (· != ev.y)).length:Int):=by rw[IntKind.wrap_i64];have:=HLE.out;have:=HLL.out;omega
             go_wp2_with fail;refine (wWithout_any va 0 gl kl l ev.y HT.out.1.o HLL.out).mono ?_
             rintro o vb ⟨gl',kl',rfl,ho,hbb⟩;have HEV:Hid (bxS w bh bm (qHo G []) u1 (qHo G []) u2 gl' kl' (l.filter (· != ev.y)) vb∧w.heap.size≤gl'):=by
              have q:=HT.out.1.toS.below hbb
              exact⟨⟨q.h,q.m,q.t1,q.t2,q.ss,ho.zero,q.b,q.z,q.d⟩,Nat.le_trans HT.out.1.toS.b.size ho.lt.1⟩
             have HPF:Hid ((l.filter (· != ev.y)).Perm (nfY (qHo G []).bx)):=HPERM.out
             clear ho hbb HPERM;generalize l.filter (· != ev.y)=lf at *;go_wp2_with fail;go_roundw
             case rel=>exact Or.inr ⟨by go_num,gl',kl',lf,rfl,HPF.out,HEV.out.2,HEV.out.1⟩
             case measure=>simp[intOf])
         ·have HF:Hid (bxS w bh bm (qHo G []) u1 (qHo G []) u2 gl' kl' l' wr∧l'.Perm (nfY (qHo G []).bx)∧w.heap.size≤gl'):=⟨hbx,hp',hg'⟩
          clear hbx hp' hg' HT
          as_aux_lemma=>
           go_wp2_with (first
            | (refine wpList_load_mid (P:=Tryz.prog) rfl 35 _ rfl bh 0 rfl (hoL (qHo G []) u1) _ HF.out.1.h.load Tryz.underlying35 rfl (sz41L _ _) ?_))
           refine (wHolds_any wr (qHo G []) u1 0 gl' kl' l' HF.out.1.t1 HF.out.1.o HF.out.2.1 HOK.out.nd HOK.out.n2).mono ?_
           rintro o vz ⟨rfl,hbz⟩;have HEN:Hid (bxS w bh bm (qHo G []) u1 (qHo G []) u2 gl' kl' l' vz):=HF.out.1.below hbz
           clear hbz;go_wp2_with fail;go_roundw
           case rel=>exact⟨i+1,qHo G [],u1,u2,gl',kl',l',by omega,by go_num,rfl,HI.out.next HR.out HOK.out,HF.out.2.1,HF.out.2.2,HEN.out⟩
           case measure=>simp[intOf];omega)
    ·focus
      obtain⟨bq,hbq⟩ : ∃ bq:Bool,bq=decide ((127:Int)<(op:Int)):=⟨_,rfl⟩
      have hbq':=hbq.symm
      clear hbq;go_wp2_with (first
       | (refine wpList_load_mid (P:=Tryz.prog) rfl 35 _ rfl bh 0 rfl (hoL H s1) _ HX.out.h.load Tryz.underlying35 rfl (sz41L _ _) ?_))
      have HOK:Hid (okHo (relHo H bq)):=HI.out.ok.rel _
      have HR:Hid (sameR H (relHo H bq)):=rel_r H _
      have HST:Hid (stepQ H (relHo H bq)):=rel_step HI.out _
      have HC1:Hid (Calls Tryz.prog 18 #[.agg (hoL H s1).toArray,.bool bq] w3 (hostQ w3 (relHo H bq))):=cRel w3 H s1 _ HI.out.ok HX.out.t1 HX.out.ss
      have HC2:Hid (∀ X,isHo X H s2→Calls Tryz.prog 30 #[.agg (hoL H s2).toArray,.bool bq] X fun o w'=>∃ s',o = .returned (.agg (hoL (relHo H bq) s').toArray)∧isHo w' (relHo H bq) s'∧Below X.heap.size X w'):=fun X hX=>csRel X H s2 _ HI.out.ok hX
      generalize relHo H bq=G at *;refine (HC1.out).mono ?_
      rintro o v1 ⟨t1,rfl,st1,ss1,hb1⟩;have HY1:Hid (bxS w bh bm H s1 H s2 gl kl l v1∧isHo v1 G t1∧slSome t1):=⟨HX.out.below hb1,st1.now,ss1⟩
      clear st1 ss1 hb1;go_wp2_with (first
       | (refine wpList_store_mid (P:=Tryz.prog) rfl 35 _ _ rfl bh 0 (hoL G t1).toArray rfl rfl (HY1.out.1.h.there 0 _ (by rw[List.size_toArray,hoL_len,hoL_len];decide)) (sz41A _ _) (hoL_one _ _) ?_;generalize hWn:World.setCells _ bh 0 _=v2;have HY2:Hid (bxS w bh bm G t1 H s2 gl kl l v2):=(by rw[← hWn];exact HY1.out.1.put1 HY1.out.2.1 HY1.out.2.2);clear hWn)
       | (refine wpList_load_mid (P:=Tryz.prog) rfl 35 _ rfl bm 0 rfl (hoL H s2) _ HY2.out.m.load Tryz.underlying35 rfl (sz41L _ _) ?_))
      clear HY1;refine (HC2.out v2 HY2.out.t2).mono ?_
      rintro o v3 ⟨t2,rfl,q2,hb3⟩;have HY3:Hid (bxS w bh bm G t1 H s2 gl kl l v3∧isHo v3 G t2):=⟨HY2.out.below hb3,q2⟩
      clear q2 hb3 HY2;go_wp2_with (first
       | (refine wpList_store_mid (P:=Tryz.prog) rfl 35 _ _ rfl bm 0 (hoL G t2).toArray rfl rfl (HY3.out.1.m.there 0 _ (by rw[List.size_toArray,hoL_len,hoL_len];decide)) (sz41A _ _) (hoL_one _ _) ?_;generalize hWn:World.setCells _ bm 0 _=v4;have HS:Hid (bxS w bh bm G t1 G t2 gl kl l v4):=(by rw[← hWn];exact HY3.out.1.put2 HY3.out.2);clear hWn)
       | (refine wpList_load_mid (P:=Tryz.prog) rfl 35 _ rfl bh 0 rfl (hoL G t1) _ HS.out.h.load Tryz.underlying35 rfl (sz41L _ _) ?_)
       | (refine wpList_load_mid (P:=Tryz.prog) rfl 35 _ rfl bm 0 rfl (hoL G t2) _ HS.out.m.load Tryz.underlying35 rfl (sz41L _ _) ?_))
      clear HY3;clear HC1 HC2 HX;refine (wHost_same v4 G t1 t2 HS.out.t1 HS.out.t2 HOK.out (HR.out.1.trans HI.out.fs) (HR.out.2.1.trans HI.out.ff)).mono ?_
      rintro o v5 ⟨rfl,hb5⟩;have HS5:Hid (bxS w bh bm G t1 G t2 gl kl l (v5.alloc (.cells #[] 46))):=(HS.out.below hb5).below ((Below.refl _ _).alloc (Nat.le_refl _) _)
      clear hb5 HS;go_wp2_with (first
       | (refine wpList_load_mid (P:=Tryz.prog) rfl 35 _ rfl bh 0 rfl (hoL G t1) _ HS5.out.h.load Tryz.underlying35 rfl (sz41L _ _) ?_))
      generalize v5.alloc (.cells #[] 46)=v6 at *;refine (cDrN v6 G t1 HOK.out HS5.out.t1 HS5.out.ss).mono ?_
      rintro o v7 ⟨u1,qa,ql,qc,rfl,hql,st1,ss1,hat,hb7⟩;have HY7:Hid (St v6.heap.size v7 (fun V=>isHo V (qHo G []) u1)∧slSome u1∧Below v6.heap.size v6 v7):=⟨st1,ss1,hb7⟩
      have HQL:Hid (ql=G.qu.length):=hql
      have HAT:Hid (∀ ev,G.qu=[ev]→∃ g ao m k,qa=some ⟨g,0,none⟩∧at8 v7 g 0 ev ao m k):=hat
      have HB7:Hid (blk v7 bh (hoL G t1) 35):=HS5.out.h.below hb7
      clear st1 ss1 hb7 hql hat;have HD7:Hid (∀ X,v7.setCells bh 0 (hoL (qHo G []) u1)=X→blk X bm (hoL G t2) 35∧isHo X G t2):=fun X hX=>by
       have q:=(HS5.out.below HY7.out.2.2).put1 HY7.out.1.now HY7.out.2.1
       rw[hX] at q
       exact⟨q.m,q.t2⟩
      go_wp2_with (first
       | (refine wpList_store_mid (P:=Tryz.prog) rfl 35 _ _ rfl bh 0 (hoL (qHo G []) u1).toArray rfl rfl (HB7.out.there 0 _ (by rw[List.size_toArray,hoL_len,hoL_len];decide)) (sz41A _ _) (hoL_one _ _) ?_;generalize hWn:World.setCells _ bh 0 _=v8;have HW8:Hid (v7.setCells bh 0 (hoL (qHo G []) u1)=v8):=hWn;have HY8:Hid (blk v8 bm (hoL G t2) 35∧isHo v8 G t2):=HD7.out v8 hWn;clear hWn)
       | (refine wpList_load_mid (P:=Tryz.prog) rfl 35 _ rfl bm 0 rfl (hoL G t2) _ HY8.out.1.load Tryz.underlying35 rfl (sz41L _ _) ?_))
      clear HD7 HB7;refine (csDr v8 G t2 HOK.out HY8.out.2).mono ?_
      rintro o v9 ⟨u2,qv,rfl,st2,hb9⟩;have HB9:Hid (blk v9 bm (hoL G t2) 35):=HY8.out.1.below hb9
      have HZ:Hid (bxT w bh bm v6.heap.size (qHo G []) u1 u2 gl kl l (v9.setCells bm 0 (hoL (qHo G []) u2))∧∀ g ev ao m k,at8 v7 g 0 ev ao m k→at8 (v9.setCells bm 0 (hoL (qHo G []) u2)) g 0 ev ao m k):=bxT_make HS5.out HY7.out.1 HY7.out.2.1 HY7.out.2.2 HW8.out st2 hb9
      clear st2 hb9 HY8 HW8 HY7 HS5;go_wp2_with (first
       | (refine wpList_store_mid (P:=Tryz.prog) rfl 35 _ _ rfl bm 0 (hoL (qHo G []) u2).toArray rfl rfl (HB9.out.there 0 _ (by rw[List.size_toArray,hoL_len,hoL_len];decide)) (sz41A _ _) (hoL_one _ _) ?_;generalize hWn:World.setCells _ bm 0 _=va;have HT:Hid (bxT w bh bm v6.heap.size (qHo G []) u1 u2 gl kl l va∧∀ g ev ao m k,at8 v7 g 0 ev ao m k→at8 va g 0 ev ao m k):=(by rw[← hWn];exact HZ.out);clear HZ;clear hWn))
      go_loopw [10,18] (fun v t wr=>(ql=1∧t = .int .i64 0∧v = .slice (some ⟨gl,0,none⟩) l.length kl∧va=wr)∨(t = .int .i64 (ql:Int)∧∃ gl' kl' l',v = .slice (some ⟨gl',0,none⟩) (List.length l') kl'∧l'.Perm (nfY (qHo G []).bx)∧w.heap.size≤gl'∧bxS w bh bm (qHo G []) u1 (qHo G []) u2 gl' kl' l' wr)) (fun _ t _=>1-(intOf t).toNat)
      case atStart=>
       rcases HST.out with⟨hq,hn⟩|⟨ev,hq,hn,hk⟩|⟨ev,hq,hmem,hn,hk⟩
       ·obtain rfl:ql=0:=by have:=HQL.out;rw[hq] at this;exact this
        exact Or.inr ⟨rfl,gl,kl,l,rfl,(by have q:=HP.out;rw[← hn] at q;exact q),HGL.out,HT.out.1.toS⟩
       ·exact Or.inl ⟨by have:=HQL.out;rw[hq] at this;exact this,rfl,rfl,rfl⟩
       ·exact Or.inl ⟨by have:=HQL.out;rw[hq] at this;exact this,rfl,rfl,rfl⟩
      case round=>
       rcases hrel with⟨rfl,rfl,rfl,rfl⟩|⟨rfl,gl',kl',l',rfl,hp',hg',hbx⟩
       ·rcases HST.out with⟨hq,hn⟩|⟨ev,hq,hn,hk⟩|⟨ev,hq,hmem,hn,hk⟩
        ·exact absurd HQL.out (by rw[hq];decide)
        ·have HPS:Hid (l.Perm (nfY (qHo G []).bx)):=(by have q:=HP.out;rw[← hn] at q;exact q)
         clear hn;have hk1:¬ ev.x=1:=hk.1
         have hk6:¬ ev.x=6:=hk.2
         clear hk;obtain⟨qg,ao,am,ak,rfl,hat⟩:=HAT.out ev hq
         have y0:va.cell? ⟨qg,0,none⟩=some (.int .i64 ev.x):=(HT.out.2 _ _ _ _ _ hat).c0
         have y1:va.cell? ⟨qg,1,none⟩=some (.int .i64 ev.y):=(HT.out.2 _ _ _ _ _ hat).c1
         clear hq hat HAT HQL HST
         as_aux_lemma=>
          have hk1':(ev.x == 1)=false:=beq_eq_false_iff_ne.2 hk1
          have hk6':(ev.x == 6)=false:=beq_eq_false_iff_ne.2 hk6
          go_wp2_with fail;go_roundw
          case rel=>exact Or.inr ⟨by go_num,gl,kl,l,rfl,HPS.out,HGL.out,HT.out.1.toS⟩
          case measure=>simp[intOf]
        ·have HPERM:Hid ((l.filter (· != ev.y)).Perm (nfY (qHo G []).bx)):=(by have q:=HP.out.filter (· != ev.y);rw[← hn] at q;exact q)
         have HMEM:Hid (ev.y ∈ nfY H.bx):=hmem
         have HLL:Hid (l.length≤1000):=(by have e:=HP.out.length_eq;have:=(nfY_len H.bx).1;have:=HI.out.ok.n2;show l.length≤1000;omega)
         clear hn hmem;obtain⟨qg,ao,am,ak,rfl,hat⟩:=HAT.out ev hq
         have y0:va.cell? ⟨qg,0,none⟩=some (.int .i64 ev.x):=(HT.out.2 _ _ _ _ _ hat).c0
         have y1:va.cell? ⟨qg,1,none⟩=some (.int .i64 ev.y):=(HT.out.2 _ _ _ _ _ hat).c1
         clear hq hat HAT HQL HST;rcases hk with hk|hk
         all_goals (
          as_aux_lemma=>
           rw[hk] at y0
           have HLE:Hid ((l.filter (· != ev.y)).length+1=l.length):=without_len (HP.out.nodup_iff.2 HI.out.ok.nd) (HP.out.mem_iff.2 HMEM.out)
           have hlw:IntKind.i64.wrap ((l.length:Int)-1)=((l.filter (· != ev.y)).length:Int):=by rw[IntKind.wrap_i64];have:=HLE.out;have:=HLL.out;omega
           go_wp2_with fail;refine (wWithout_any va 0 gl kl l ev.y HT.out.1.o HLL.out).mono ?_
           rintro o vb ⟨gl',kl',rfl,ho,hbb⟩;have HEV:Hid (bxS w bh bm (qHo G []) u1 (qHo G []) u2 gl' kl' (l.filter (· != ev.y)) vb∧w.heap.size≤gl'):=by
            have q:=HT.out.1.toS.below hbb
            exact⟨⟨q.h,q.m,q.t1,q.t2,q.ss,ho.zero,q.b,q.z,q.d⟩,Nat.le_trans HT.out.1.toS.b.size ho.lt.1⟩
           have HPF:Hid ((l.filter (· != ev.y)).Perm (nfY (qHo G []).bx)):=HPERM.out
           clear ho hbb HPERM;generalize l.filter (· != ev.y)=lf at *;go_wp2_with fail;go_roundw
           case rel=>exact Or.inr ⟨by go_num,gl',kl',lf,rfl,HPF.out,HEV.out.2,HEV.out.1⟩
           case measure=>simp[intOf])
       ·have HF:Hid (bxS w bh bm (qHo G []) u1 (qHo G []) u2 gl' kl' l' wr∧l'.Perm (nfY (qHo G []).bx)∧w.heap.size≤gl'):=⟨hbx,hp',hg'⟩
        clear hbx hp' hg' HT
        as_aux_lemma=>
         go_wp2_with (first
          | (refine wpList_load_mid (P:=Tryz.prog) rfl 35 _ rfl bh 0 rfl (hoL (qHo G []) u1) _ HF.out.1.h.load Tryz.underlying35 rfl (sz41L _ _) ?_))
         refine (wHolds_any wr (qHo G []) u1 0 gl' kl' l' HF.out.1.t1 HF.out.1.o HF.out.2.1 HOK.out.nd HOK.out.n2).mono ?_
         rintro o vz ⟨rfl,hbz⟩;have HEN:Hid (bxS w bh bm (qHo G []) u1 (qHo G []) u2 gl' kl' l' vz):=HF.out.1.below hbz
         clear hbz;go_wp2_with fail;go_roundw
         case rel=>exact⟨i+1,qHo G [],u1,u2,gl',kl',l',by omega,by go_num,rfl,HI.out.next HR.out HOK.out,HF.out.2.1,HF.out.2.2,HEN.out⟩
         case measure=>simp[intOf];omega
   ·have hin:i=N:=by omega
    subst hin;go_wp2_with fail;go_ret;exact⟨rfl,HR0.out.b⟩
  
 ·by_cases h1:n≤1048576
  ·have h2:¬ m≤1048576:=fun e=>hb ⟨h1,e⟩
   have hd1:decide ((1048576:Int)<(n:Int))=false:=decide_eq_false (by omega)
   have hd2:decide ((1048576:Int)<(m:Int))=true:=decide_eq_true (by omega)
   clear h h';go_enter Tryz.func4,Tryz.ntmps4
   go_wp2_with fail;go_ret;exact⟨rfl,Below.refl _ _⟩
  ·have hd1:decide ((1048576:Int)<(n:Int))=true:=decide_eq_true (by omega)
   clear h h';go_enter Tryz.func4,Tryz.ntmps4
   go_wp2_with fail;go_ret;exact⟨rfl,Below.refl _ _⟩
end Go.Proofs.YtaamahohdnbpiaaGreat
