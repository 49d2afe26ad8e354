import Derived.Test.YtkfcfigbgmbaiaaGreatK17
namespace Go.Proofs.YtkfcfigbgmbaiaaGreat
set_option maxRecDepth 20000
open Go.RowKit
set_option linter.unusedVariables false
set_option maxHeartbeats 16000000
open Go.Value renaming int→I,slice→sL,bool→bO,pointer→pT,agg→aG
open Go.IntKind renaming i64→J
open Go.Ending renaming returned→rT
open Go.Proofs.Tryz renaming prog→Tp
theorem or2_any (w:World) (g:Nat) (a b:Int) (h:w.heap[g]?=some (.cells #[I J a,I J b] 3)) :
  Calls Tp 248 #[sL (some ⟨g,0,none⟩) 2 2] w fun o w'=>o = rT (I J (if a=0 then b else a))∧w=w':=by
 have c0:w.cell? ⟨g,0,none⟩=some (I J a):=by simp[World.cell?,h]
 have c1:w.cell? ⟨g,1,none⟩=some (I J b):=by simp[World.cell?,h]
 clear h;by_cases ha:a=0
 ·subst ha;by_cases hb:b=0
  ·subst hb;go_enter Tryz.func248,Tryz.ntmps248
   go_wp2_with fail;go_loopw [8] (fun i wr=>∃ k:Nat,k≤2∧i = I J (k:Int)∧wr=w) (fun i _=>2-(intOf i).toNat)
   case atStart=>exact⟨0,nZ _,rfl,rfl⟩
   case round=>
    obtain⟨k,hk,rfl,rfl⟩:=hrel
    match k,hk with
    | 0,_=>
     go_wp2
     go_roundw
     case rel=>exact⟨1,by omega,rfl,trivial⟩
     case measure=>simp[intOf]
    | 1,_=>
     go_wp2
     go_roundw
     case rel=>exact⟨2,by omega,rfl,trivial⟩
     case measure=>simp[intOf]
    | 2,_=>
     go_wp2
     go_ret;exact⟨rfl,rfl⟩
  ·have hb':(b == 0)=false:=by simpa using hb
   go_enter Tryz.func248,Tryz.ntmps248
   go_wp2_with fail;go_loopw [8] (fun i wr=>∃ k:Nat,k≤1∧i = I J (k:Int)∧wr=w) (fun i _=>2-(intOf i).toNat)
   case atStart=>exact⟨0,nZ _,rfl,rfl⟩
   case round=>
    obtain⟨k,hk,rfl,rfl⟩:=hrel
    match k,hk with
    | 0,_=>
     go_wp2
     go_roundw
     case rel=>exact⟨1,by omega,rfl,trivial⟩
     case measure=>simp[intOf]
    | 1,_=>
     go_wp2
     go_ret;exact⟨rfl,rfl⟩
 ·have ha':(a == 0)=false:=by simpa using ha
  rw[if_neg ha]
  go_enter Tryz.func248,Tryz.ntmps248
  go_wp2_with fail;go_loopw [8] (fun i wr=>i = I J 0∧wr=w) (fun i _=>0)
  case atStart=>exact⟨rfl,rfl⟩
  case round=>
   obtain⟨rfl,rfl⟩:=hrel
   go_wp2
   go_ret;exact⟨rfl,rfl⟩
structure gaS (w:World) (L1 L2:List Value) (W:World):Prop where
 p:blk W w.heap.size L1 166
 q:blk W (w.heap.size+1) L2 166
 b:Below w.heap.size w W
theorem gaS.below {w:World} {L1 L2:List Value} {W W':World} (h:gaS w L1 L2 W) (hb:Below W.heap.size W W'):gaS w L1 L2 W':=⟨h.p.below hb,h.q.below hb,h.b.trans (hb.mono h.b.size)⟩
theorem ahead_val (A B:R8):decide ((if Lib.compareBytes (arbA A).data.toList (arbA B).data.toList=0 then Lib.compareInt A.z B.z else Lib.compareBytes (arbA A).data.toList (arbA B).data.toList)<0)=befS A B:=by
 have h:=cmpB_lt (arbA A).data.toList (arbA B).data.toList
 unfold befS
 rw[ByteArray.toList_eq,ByteArray.toList_eq]
 by_cases e:arbA A=arbA B
 ·rw[if_pos e,if_pos (h.1.2 (by rw[e]))]
  exact decide_eq_decide.2 (cmpI _ _)
 ·rw[if_neg e,if_neg (fun x=>e (ByteArray.ext (Array.toList_inj.1 (h.1.1 x))))]
  rw[Bool.eq_iff_iff,decide_eq_true_iff]
  exact h.2
theorem goesAhead_any (w:World) (A B:R8) (ao:Option Addr) (m c:Nat) (ao':Option Addr) (m' c':Nat) (h:iB w ao m c A.l) (h':iB w ao' m' c' B.l) :
  Calls Tp 234 #[bxV A.x A.y A.z A.e A.i A.r A.d ao m c,bxV B.x B.y B.z B.e B.i B.r B.d ao' m' c'] w fun o w'=>o = rT (bO (befS A B))∧Below w.heap.size w w':=by
 have HV:=ahead_val A B
 have e1:arbA A=arbZ A.e A.i A.r A.d m:=by unfold arbA;rw[h.len]
 have e2:arbA B=arbZ B.e B.i B.r B.d m':=by unfold arbA;rw[h'.len]
 have HA1:Hid (∀ W,Below w.heap.size w W→Calls Tp 250 #[frV A.e A.i A.r A.d ao m c] W fun o w'=>o = rT (.string (arbA A))∧Below W.heap.size W w'):=fun W hW=>e1 ▸ arb_any W _ _ _ _ ao m c A.l (h.below hW)
 have HA2:Hid (∀ W,Below w.heap.size w W→Calls Tp 250 #[frV B.e B.i B.r B.d ao' m' c'] W fun o w'=>o = rT (.string (arbA B))∧Below W.heap.size W w'):=fun W hW=>e2 ▸ arb_any W _ _ _ _ ao' m' c' B.l (h'.below hW)
 clear e1 e2 h h';rw[← HV]
 clear HV;generalize arbA A=AA at *;generalize arbA B=BB at *;obtain⟨x,y,z,e,id,r,d,l⟩:=A
 obtain⟨x',y',z',e',id',r',d',l'⟩:=B
 simp only[] at HA1 HA2 ⊢
 have HC1:Hid (∀ W,Calls Tp 249 #[.string AA,.string BB] W fun o w'=>o = rT (I J (Lib.compareBytes AA.data.toList BB.data.toList))∧w'=W):=Tryz.strings_Compare AA BB
 have HC2:Hid (∀ W,Calls Tp 251 #[I J z,I J z'] W fun o w'=>o = rT (I J (Lib.compareInt z z'))∧w'=W):=Tryz.cmp_Compare_int z z'
 generalize Lib.compareBytes AA.data.toList BB.data.toList=ca at *;generalize Lib.compareInt z z'=cb at *;have HC3:Hid (∀ W g,W.heap[g]?=some (.cells #[I J ca,I J cb] 3)→Calls Tp 248 #[sL (some ⟨g,0,none⟩) 2 2] W fun o w'=>o = rT (I J (if ca=0 then cb else ca))∧W=w'):=fun W g h=>or2_any W g ca cb h
 generalize (if ca=0 then cb else ca)=cc at *;have HS0:Hid (gaS w [I J x,I J y,I J z,bO e,I .u32 (id:Int),bO r,I J d,sL ao m c] [I J x',I J y',I J z',bO e',I .u32 (id':Int),bO r',I J d',sL ao' m' c'] ((w.alloc (.cells [I J x,I J y,I J z,bO e,I .u32 (id:Int),bO r,I J d,sL ao m c].toArray 166)).alloc (.cells [I J x',I J y',I J z',bO e',I .u32 (id':Int),bO r',I J d',sL ao' m' c'].toArray 166))):=⟨(blk.new w _ 166).alloc _,by have:=blk.new (w.alloc (.cells [I J x,I J y,I J z,bO e,I .u32 (id:Int),bO r,I J d,sL ao m c].toArray 166)) [I J x',I J y',I J z',bO e',I .u32 (id':Int),bO r',I J d',sL ao' m' c'] 166;simpa using this,((bW _ _).alloc (nR _) _).alloc (by simp) _⟩
 go_enter Tryz.func234,Tryz.ntmps234
 go_wp2_with fail;have hS0:gaS w [I J x,I J y,I J z,bO e,I .u32 (id:Int),bO r,I J d,sL ao m c] [I J x',I J y',I J z',bO e',I .u32 (id':Int),bO r',I J d',sL ao' m' c'] ((w.alloc (.cells #[I J x,I J y,I J z,bO e,I .u32 (id:Int),bO r,I J d,sL ao m c] 166)).alloc (.cells #[I J x',I J y',I J z',bO e',I .u32 (id':Int),bO r',I J d',sL ao' m' c'] 166)):=HS0.out
 clear HS0;generalize ((w.alloc (.cells #[I J x,I J y,I J z,bO e,I .u32 (id:Int),bO r,I J d,sL ao m c] 166)).alloc (.cells #[I J x',I J y',I J z',bO e',I .u32 (id':Int),bO r',I J d',sL ao' m' c'] 166))=w0 at *;refine wp_region_held (S:=gaS w [I J x,I J y,I J z,bO e,I .u32 (id:Int),bO r,I J d,sL ao m c] [I J x',I J y',I J z',bO e',I .u32 (id':Int),bO r',I J d',sL ao' m' c']) (by kernel_rfl) ?_
 have hS:=hS0.below (W':=w0.drew) (bW _ _).drew
 clear hS0;refine tk 0 ?_
 refine wU 1 (.agg [bO e,I .u32 (id:Int),bO r,I J d,sL ao m c].toArray) rfl (yieldsIf_load_mid (by rfl) 55 (.tmp 5) rfl w.heap.size 3 rfl [bO e,I .u32 (id:Int),bO r,I J d,sL ao m c] _ (fun W h=>blk.loadAt [I J x,I J y,I J z] [bO e,I .u32 (id:Int),bO r,I J d,sL ao m c] [] h.p) Tryz.underlying55 rfl sz93) hS ?_
 simp only[aZ];refine tk 3 ?_
 refine wU 4 (.agg [bO e',I .u32 (id':Int),bO r',I J d',sL ao' m' c'].toArray) rfl (yieldsIf_load_mid (by rfl) 55 (.tmp 8) rfl (w.heap.size+1) 3 rfl [bO e',I .u32 (id':Int),bO r',I J d',sL ao' m' c'] _ (fun W h=>blk.loadAt [I J x',I J y',I J z'] [bO e',I .u32 (id':Int),bO r',I J d',sL ao' m' c'] [] h.q) Tryz.underlying55 rfl sz93) hS ?_
 simp only[aZ];refine tk 7 ?_
 refine tk 8 ?_ (hy:=fun W hSw=>by (have hc:=hSw.p.cell 2 _ rfl;go_simp;try rfl))
 refine tk 9 ?_
 refine tk 10 ?_ (hy:=fun W hSw=>by (have hc:=hSw.q.cell 2 _ rfl;go_simp;try rfl))
 refine al 2 fun K hK=>?_
 go_simp;refine (HA1.out _ hS.b).mono ?_
 rintro o w1 ⟨rfl,hb1⟩;have hS1:=hS.below hb1
 go_wp2_with fail;refine hK.out _ _ hS1 (fun hS2=>?_)
 clear hS hK K;have hS:=hS2
 clear hS2;clear hS1 hb1;refine al 5 fun K hK=>?_
 go_simp;refine (HA2.out _ hS.b).mono ?_
 rintro o w2 ⟨rfl,hb2⟩;have hS1:=hS.below hb2
 go_wp2_with fail;refine hK.out _ _ hS1 (fun hS2=>?_)
 clear hS hK K;have hS:=hS2
 clear hS2;clear hS1 hb2;refine al 6 fun K hK=>?_
 go_simp;refine (HC1.out _).mono ?_
 rintro o w3 ⟨rfl,rfl⟩;go_wp2_with fail;refine hK.out _ _ hS (fun hS2=>?_)
 clear hS hK K;have hS:=hS2
 clear hS2;refine al 11 fun K hK=>?_
 go_simp;refine (HC2.out _).mono ?_
 rintro o w4 ⟨rfl,rfl⟩;go_wp2_with fail;refine hK.out _ _ hS (fun hS2=>?_)
 clear hS hK K;have hS:=hS2
 clear hS2;refine al 12 fun K hK=>?_
 go_simp;have hg:=heap_alloc_new w4 (.cells #[I J ca,I J cb] 3)
 have hS1:=hS.below ((bW _ w4).alloc (nR _) (.cells #[I J ca,I J cb] 3))
 generalize (w4.alloc (.cells #[I J ca,I J cb] 3))=w5 at *;refine hK.out _ _ hS1 (fun hS2=>?_)
 clear hS hK K hS1;have hS:=hS2
 clear hS2;refine al 13 fun K hK=>?_
 go_simp;refine (HC3.out _ _ hg).mono ?_
 rintro o w6 ⟨rfl,rfl⟩;go_wp2_with fail;refine hK.out _ _ hS (fun hS2=>?_)
 clear hS hK K;have hS:=hS2
 clear hS2;refine tk 14 ?_
 refine tk 15 ?_
 refine wpAnyH_done (by kernel_rfl) ?_ _
 have HBJ:Hid (Below w.heap.size w _):=hS.b
 clear hS;go_wp2
 go_ret;exact⟨rfl,HBJ.out⟩
variable {bx:List R8} {k v:Nat}
def aheadK (bx:List R8) (k v:Nat):Prop:=∀ (hk:k<bx.length) j (hj:j<bx.length),j<v→j≠k→bx[j].x=1→befS bx[k] bx[j]=true
theorem aheadK_succ (hk:k<bx.length) (hv:v<bx.length):aheadK bx k (v+1)↔(aheadK bx k v∧(v≠k→bx[v].x=1→befS bx[k] bx[v]=true)):=by
 constructor
 ·intro h;exact⟨fun hk j hj hjv=>h hk j hj (by omega),h hk v hv (by omega)⟩
 ·rintro⟨h1,h2⟩ hk j hj hjv;by_cases e:j=v
  ·subst e;exact h2
  ·exact h1 hk j hj (by omega)
theorem aheadK_end (hk:k<bx.length) (hv:bx.length≤v) (hx:bx[k].x=1):aheadK bx k v↔isBest bx k:=
 ⟨fun h=>⟨hk,hx,fun j hj hne hw=>h hk j hj (by omega) hne hw⟩,fun ⟨_,_,h⟩ hk j hj _ hne hw=>h j hj hne hw⟩
theorem l3best_any (w:World) (H:Ho) (s:Sl) (h:isR8s w s.a2 s.n2 s.k2 H.bx) (hn:s.n2≤8) :
  Calls Tp 162 #[hoV H s] w fun o w'=>∃ r:Int,o = rT (I J r)∧bestR H.bx r∧Below w.heap.size w w':=by
 have H0:Hid (obS w H s (w.alloc (.cells (hoL H s).toArray 39))):=⟨blk.new w _ 39,(bW _ _).alloc (nR _) _⟩
 have hcp:=h.cap
 have HB:=fun W (hW:Below w.heap.size w W) i j hi hj=>l3before_any W H s (h.below hW) hn i j hi hj
 obtain⟨c0,c1,c2,c3,fs,bx,ff,qu,lo,st⟩:=H
 obtain⟨a1,n1,k1,a2,n2,k2,a3,n3,k3,a4,n4,k4⟩:=s
 simp only[] at h hcp hn HB ⊢
 have HB:Hid _:=HB
 have HL:Hid (n2=bx.length):=h.len
 by_cases hl:bx=[]
 ·subst hl;have hn0:n2=0:=HL.out
  subst hn0;clear h HB;go_enter Tryz.func162,Tryz.ntmps162
  go_wp2_with fail;go_loopw [3] (fun i wr=>i = I J 0∧obS w ⟨c0,c1,c2,c3,fs,[],ff,qu,lo,st⟩ ⟨a1,n1,k1,a2,0,k2,a3,n3,k3,a4,n4,k4⟩ wr) (fun _ _=>0)
  case atStart=>exact⟨rfl,H0.out⟩
  case round=>
   obtain⟨rfl,hS⟩:=hrel
   have p5:=hS.p.cell 5 _ rfl
   have HS:=hS.b
   go_wp2
   go_ret;exact⟨-1,rfl,Or.inl ⟨rfl,fun i hb=>by obtain⟨hi,_⟩:=hb;cases hi⟩,HS⟩
 obtain⟨g,off,rfl,hc⟩:=h.cells hl
 have HC:Hid (∀ j (h:j<bx.length),∃ ao m c,at8 w g (off+j*8) bx[j] ao m c):=hc
 clear hc h hl;go_enter Tryz.func162,Tryz.ntmps162
 go_wp2_with fail;go_loopw [3] (fun i wr=>∃ k:Nat,k≤n2∧i = I J (k:Int)∧(∀ j,j<k→¬ isBest bx j)∧obS w ⟨c0,c1,c2,c3,fs,bx,ff,qu,lo,st⟩ ⟨a1,n1,k1,some ⟨g,off,none⟩,n2,k2,a3,n3,k3,a4,n4,k4⟩ wr) (fun i _=>n2-(intOf i).toNat)
 case atStart=>exact⟨0,nZ _,rfl,fun j h=>absurd h (nN _),H0.out⟩
 case round=>
  obtain⟨k,hk,rfl,hA,hS⟩:=hrel
  have HA:Hid (∀ j,j<k→¬ isBest bx j):=hA
  have HS:Hid (obS w ⟨c0,c1,c2,c3,fs,bx,ff,qu,lo,st⟩ ⟨a1,n1,k1,some ⟨g,off,none⟩,n2,k2,a3,n3,k3,a4,n4,k4⟩ wr):=hS
  have x5:=hS.p.cell 5 _ rfl
  clear hA hS;by_cases hlt:k<n2
  ·have hkl:k<bx.length:=by have:=HL.out;omega
   obtain⟨ao,m,c,hx⟩:=HC.out k hkl
   have u0:=(hx.below HS.out.b).c0
   clear hx;by_cases hx1:bx[k].x=1
   ·rw[hx1] at u0
    have HX1:Hid (bx[k].x=1):=hx1
    clear hx1;go_wp2_with fail;clear x5 u0;go_loopw [4,5] (fun q j wi=>∃ (v:Nat) (b:Bool),v≤n2∧q = bO b∧j = I J (v:Int)∧(b=true↔aheadK bx k v)∧obS w ⟨c0,c1,c2,c3,fs,bx,ff,qu,lo,st⟩ ⟨a1,n1,k1,some ⟨g,off,none⟩,n2,k2,a3,n3,k3,a4,n4,k4⟩ wi) (fun _ j _=>n2-(intOf j).toNat)
    case atStart=>exact⟨0,true,nZ _,rfl,rfl,⟨fun _ _ j hj h=>absurd h (nN _),fun _=>rfl⟩,HS.out⟩
    case round=>
     obtain⟨v,b,hv,rfl,rfl,hq,hS⟩:=hrel
     have HQ:Hid (b=true↔aheadK bx k v):=hq
     clear HS;have HS:Hid (obS w ⟨c0,c1,c2,c3,fs,bx,ff,qu,lo,st⟩ ⟨a1,n1,k1,some ⟨g,off,none⟩,n2,k2,a3,n3,k3,a4,n4,k4⟩ wr):=hS
     have x5:=hS.p.cell 5 _ rfl
     clear hq hS;by_cases hvn:v<n2
     ·have hvl:v<bx.length:=by have:=HL.out;omega
      have HSU:Hid (aheadK bx k (v+1)↔(aheadK bx k v∧(v≠k→bx[v].x=1→befS bx[k] bx[v]=true))):=aheadK_succ hkl hvl
      have HCB:Hid (Calls Tp 196 #[aG (hoL ⟨c0,c1,c2,c3,fs,bx,ff,qu,lo,st⟩ ⟨a1,n1,k1,some ⟨g,off,none⟩,n2,k2,a3,n3,k3,a4,n4,k4⟩).toArray,I J (k:Int),I J (v:Int)] wr fun o w'=>o = rT (bO (befS bx[k] bx[v]))∧Below wr.heap.size wr w'):=HB.out wr HS.out.b k v hkl hvl
      obtain⟨ao,m,c,hx⟩:=HC.out v hvl
      have u0:=(hx.below HS.out.b).c0
      clear hx;generalize bx[v].x=xv at *;generalize befS bx[k] bx[v]=bf at *;by_cases hvk:v=k
      ·have HQ2:Hid (b=true↔aheadK bx k (v+1)):=HQ.out.trans (HSU.out.trans ⟨fun h=>h.1,fun h=>⟨h,fun hne=>absurd hvk hne⟩⟩).symm
       have hvk':((v:Int) == (k:Int))=true:=by simp;omega
       subst hvk;clear HCB HSU HQ;go_wp2_with fail;go_roundw
       case rel=>exact⟨v+1,b,by omega,rfl,by go_num,HQ2.out,HS.out⟩
       case measure=>simp[intOf];omega
      ·have hvk':((v:Int) == (k:Int))=false:=by simp;omega
       by_cases hxv:xv=1
       ·subst hxv;have HR0:=HS.out.p.load
        have HR0:Hid (wr.rangeAt w.heap.size 0 (hoL ⟨c0,c1,c2,c3,fs,bx,ff,qu,lo,st⟩ ⟨a1,n1,k1,some ⟨g,off,none⟩,n2,k2,a3,n3,k3,a4,n4,k4⟩)):=HR0
        cases bf with
        | true=>
         have HQ2:Hid (b=true↔aheadK bx k (v+1)):=HQ.out.trans (HSU.out.trans ⟨fun h=>h.1,fun h=>⟨h,fun _ _=>rfl⟩⟩).symm
         clear HSU HQ;go_wp2_with (first
          | (refine wpList_load_midG (by simp[Region.wanted,yielded];omega) 39 _ rfl w.heap.size 0 rfl _ _ HR0.out Tryz.underlying39 rfl (sz41L _ _) ?_)
          | (go_at_call 196;refine HCB.out.mono ?_;rintro o w4 ⟨rfl,hb4⟩))
         have HS4:=HS.out.below hb4
         go_roundw
         case rel=>exact⟨v+1,b,by omega,rfl,by go_num,HQ2.out,HS4⟩
         case measure=>simp[intOf];omega
        | false=>
         have HQ2:Hid (false=true↔aheadK bx k (v+1)):=⟨fun h=>absurd h (by decide),fun h=>(HSU.out.1 h).2 hvk rfl⟩
         clear HSU HQ;go_wp2_with (first
          | (refine wpList_load_midG (by simp[Region.wanted,yielded];omega) 39 _ rfl w.heap.size 0 rfl _ _ HR0.out Tryz.underlying39 rfl (sz41L _ _) ?_)
          | (go_at_call 196;refine HCB.out.mono ?_;rintro o w4 ⟨rfl,hb4⟩))
         have HS4:=HS.out.below hb4
         go_roundw
         case rel=>exact⟨v+1,false,by omega,rfl,by go_num,HQ2.out,HS4⟩
         case measure=>simp[intOf];omega
       ·have HQ2:Hid (b=true↔aheadK bx k (v+1)):=HQ.out.trans (HSU.out.trans ⟨fun h=>h.1,fun h=>⟨h,fun _ hw=>absurd hw hxv⟩⟩).symm
        have hxv':(xv == 1)=false:=by simpa using hxv
        clear HCB HSU HQ;go_wp2_with fail;go_roundw
        case rel=>exact⟨v+1,b,by omega,rfl,by go_num,HQ2.out,HS.out⟩
        case measure=>simp[intOf];omega
     ·have HF:Hid (b=true↔isBest bx k):=HQ.out.trans (aheadK_end hkl (by have:=HL.out;omega) HX1.out)
      cases b with
      | true=>
       go_wp2
       go_ret;exact⟨k,rfl,Or.inr ⟨k,rfl,HF.out.1 (by trivial)⟩,HS.out.b⟩
      | false=>
       have HA2:Hid (∀ j,j<k+1→¬ isBest bx j):=fun j hj hb=>by
        by_cases e:j=k
        ·subst e;exact absurd (HF.out.2 hb) (by decide)
        ·exact HA.out j (by omega) hb
       go_wp2
       go_roundw
       case rel=>exact⟨k+1,by omega,by go_num,HA2.out,HS.out⟩
       case measure=>simp[intOf];omega
   ·have HA2:Hid (∀ j,j<k+1→¬ isBest bx j):=fun j hj hb=>by
     by_cases e:j=k
     ·subst e;obtain⟨_,h1,_⟩:=hb;exact hx1 h1
     ·exact HA.out j (by omega) hb
    have hx1':(bx[k].x == 1)=false:=by simpa using hx1
    generalize bx[k].x=xk at *;clear hx1;go_wp2
    go_roundw
    case rel=>exact⟨k+1,by omega,by go_num,HA2.out,HS.out⟩
    case measure=>simp[intOf];omega
  ·have HF:Hid (∀ i,¬ isBest bx i):=fun i hb=>HA.out i (by obtain⟨hi,_⟩:=hb;have:=HL.out;omega) hb
   go_wp2
   go_ret;exact⟨-1,rfl,Or.inl ⟨rfl,HF.out⟩,HS.out.b⟩
structure beS (w:World) (PB:Nat) (L:List Value) (W:World):Prop where
 p:blk W PB L 166
 b:Below w.heap.size w W
theorem beS.below {w:World} {PB:Nat} {L:List Value} {W W':World} (h:beS w PB L W) (hb:Below W.heap.size W W'):beS w PB L W':=⟨h.p.below hb,h.b.trans (hb.mono h.b.size)⟩
theorem best_any (w:World) (LB:Nat) (a:Option Addr) (n cap:Nat) (bx:List R8) (st:Int) (hc5:w.cell? ⟨LB,5,none⟩=some (sL a n cap)) (h:isR8s w a n cap bx) (hn:n≤8) (hok:okBxs st bx) :
  Calls Tp 228 #[pT (some ⟨LB,0,none⟩)] w fun o w'=>∃ r:Int,o = rT (I J r)∧bestR bx r∧Below w.heap.size w w':=by
 have hcp:=h.cap
 have HL:Hid (n=bx.length):=h.len
 have HOK:Hid (okBxs st bx):=hok
 have HC5:Hid (∀ W,Below w.heap.size w W→W.cell? ⟨LB,5,none⟩=some (sL a n cap)):=fun W hW=>(hW.cell (by exact World.block_lt_of_cell? w _ hc5)).trans hc5
 clear hok;by_cases hl:bx=[]
 ·subst hl;have hn0:n=0:=HL.out
  subst hn0;clear h;go_enter Tryz.func228,Tryz.ntmps228
  go_wp2_with fail;go_loopw [3,11] (fun b i wr=>b = I J (-1)∧i = I J 0∧w=wr) (fun _ _ _=>0)
  case atStart=>exact⟨rfl,rfl,rfl⟩
  case round=>
   obtain⟨rfl,rfl,rfl⟩:=hrel
   go_wp2
   go_ret;exact⟨-1,rfl,Or.inl ⟨rfl,fun i hb=>by obtain⟨hi,_⟩:=hb;cases hi⟩,bW _ _⟩
 obtain⟨g,off,rfl,hc⟩:=h.cells hl
 have HC:Hid (∀ j (h:j<bx.length),∃ ao m c,at8 w g (off+j*8) bx[j] ao m c):=hc
 clear hc h hl;go_enter Tryz.func228,Tryz.ntmps228
 go_wp2_with fail;clear hc5;go_loopw [3,11] (fun b i wr=>∃ (k:Nat) (rr:Int),k≤n∧i = I J (k:Int)∧b = I J rr∧bestK bx k rr∧Below w.heap.size w wr) (fun _ i _=>n-(intOf i).toNat)
 case atStart=>exact⟨0,-1,nZ _,rfl,rfl,Or.inl ⟨rfl,fun j hj h=>absurd h (nN _)⟩,bW _ _⟩
 case round=>
  obtain⟨k,rr,hk,rfl,rfl,hbk,hbw⟩:=hrel
  have HBK:Hid (bestK bx k rr):=hbk
  have HBW:Hid (Below w.heap.size w wr):=hbw
  clear hbk hbw;by_cases hlt:k<n
  ·have hkl:k<bx.length:=by have:=HL.out;omega
   obtain⟨ao,m,c,hx⟩:=HC.out k hkl
   have HRG:=(hx.below HBW.out).range
   have HDK:Hid (iB w ao m c bx[k].l):=hx.dat
   have HSK0:Hid (bx[k].x≠1→bestK bx (k+1) rr):=bestK_skip HBK.out hkl
   have HFI0:Hid (rr = -1→bx[k].x=1→bestK bx (k+1) k):=fun e hx1=>bestK_first (e ▸ HBK.out) hkl hx1
   have HAH0:Hid (∀ q:Nat,rr=q→∀ hq:q<bx.length,bx[k].x=1→befS bx[k] bx[q]=true→bestK bx (k+1) k):=fun q e hq hx1 hb=>bestK_ahead (e ▸ HBK.out) hkl hq hx1 hb
   have HBE0:Hid (∀ q:Nat,rr=q→∀ hq:q<bx.length,bx[k].x=1→befS bx[k] bx[q]=false→bestK bx (k+1) q):=fun q e hq hx1 hb=>bestK_behind HOK.out (e ▸ HBK.out) hkl hq hx1 hb
   obtain⟨b,hb⟩ : ∃ b,bx[k]=b:=⟨_,rfl⟩
   rw[hb] at HRG HDK HSK0 HFI0 HAH0 HBE0
   obtain⟨x,y,z,e,i,r,d,l⟩:=b
   have HRG:Hid (wr.rangeAt g (off+k*8) [I J x,I J y,I J z,bO e,I .u32 (i:Int),bO r,I J d,sL ao m c]):=HRG
   simp only[] at HDK HSK0 HFI0 HAH0 HBE0
   clear hx hb;by_cases hx1:x=1
   ·subst hx1;have HRC:Hid (rr = -1∨∃ q:Nat,rr=q∧q<n):=by
     rcases HBK.out with⟨h,_⟩|⟨q,h,hqk,_⟩
     ·exact Or.inl h
     ·exact Or.inr ⟨q,h,by omega⟩
    clear HSK0;by_cases hr1:rr = -1
    ·have HFI:Hid (bestK bx (k+1) (k:Int)):=HFI0.out hr1 rfl
     subst hr1;clear HFI0 HAH0 HBE0 HBK HRC HDK;have HS0:Hid (beS w wr.heap.size [I J 1,I J y,I J z,bO e,I .u32 (i:Int),bO r,I J d,sL ao m c] (wr.alloc (.cells #[I J 1,I J y,I J z,bO e,I .u32 (i:Int),bO r,I J d,sL ao m c] 166))):=⟨blk.new wr _ 166,HBW.out.trans (((bW _ wr).alloc (nR _) _).mono HBW.out.size)⟩
     go_wp2_with (first
      | (refine lq166 HRG.out ?_))
     generalize (wr.alloc (.cells #[I J 1,I J y,I J z,bO e,I .u32 (i:Int),bO r,I J d,sL ao m c] 166))=w3 at *;generalize wr.heap.size=PB at *;refine wp_region_held (S:=beS w PB [I J 1,I J y,I J z,bO e,I .u32 (i:Int),bO r,I J d,sL ao m c]) (by kernel_rfl) ?_
     have hS:beS w PB [I J 1,I J y,I J z,bO e,I .u32 (i:Int),bO r,I J d,sL ao m c] w3.drew:=HS0.out.below (bW _ _).drew
     refine tk 0 ?_
     refine tk 1 ?_ (hy:=fun W hSw=>by (have hc:=hSw.p.cell 0 _ rfl;go_simp;try rfl))
     refine tk 2 ?_
     refine tk 3 ?_
     refine tk 4 ?_
     refine tk 5 ?_
     refine tk 6 ?_
     refine tn 7 ?_
     refine tn 8 ?_
     refine tn 9 ?_
     refine tn 10 ?_
     refine tn 11 ?_
     refine tn 12 ?_
     refine tn 13 ?_
     refine tn 14 ?_
     refine tn 15 ?_
     refine tk 16 ?_
     refine tk 17 ?_
     refine wpAnyH_done (by kernel_rfl) ?_ _
     have HB9:Hid (Below w.heap.size w _):=hS.b
     clear hS;go_wp2
     go_roundw
     case rel=>exact⟨k+1,(k:Int),by omega,by go_num,rfl,HFI.out,HB9.out⟩
     case measure=>simp[intOf];omega
    ·obtain⟨q,hrq,hqn⟩ : ∃ q:Nat,rr=q∧q<n:=HRC.out.resolve_left hr1
     subst hrq;have hql:q<bx.length:=by have:=HL.out;omega
     obtain⟨ao',m',c',hxq⟩:=HC.out q hql
     have HAH:Hid (befS ⟨1,y,z,e,i,r,d,l⟩ bx[q]=true→bestK bx (k+1) (k:Int)):=HAH0.out q rfl hql rfl
     have HBE:Hid (befS ⟨1,y,z,e,i,r,d,l⟩ bx[q]=false→bestK bx (k+1) (q:Int)):=HBE0.out q rfl hql rfl
     have HRQ:=fun W (hW:Below w.heap.size w W)=>(hxq.below hW).range
     have HGA:=fun W (hW:Below w.heap.size w W)=>goesAhead_any W ⟨1,y,z,e,i,r,d,l⟩ bx[q] ao m c ao' m' c' (HDK.out.below hW) (hxq.dat.below hW)
     obtain⟨b',hb'⟩ : ∃ b,bx[q]=b:=⟨_,rfl⟩
     rw[hb'] at HAH HBE HRQ HGA
     obtain⟨x',y',z',e',i',r',d',l'⟩:=b'
     have HRQ:Hid (∀ W,Below w.heap.size w W→W.rangeAt g (off+q*8) [I J x',I J y',I J z',bO e',I .u32 (i':Int),bO r',I J d',sL ao' m' c']):=HRQ
     have HGA:Hid (∀ W,Below w.heap.size w W→Calls Tp 234 #[aG #[I J 1,I J y,I J z,bO e,I .u32 (i:Int),bO r,I J d,sL ao m c],aG #[I J x',I J y',I J z',bO e',I .u32 (i':Int),bO r',I J d',sL ao' m' c']] W fun o w'=>o = rT (bO (befS ⟨1,y,z,e,i,r,d,l⟩ ⟨x',y',z',e',i',r',d',l'⟩))∧Below W.heap.size W w'):=HGA
     have hq0:decide ((q:Int)<0)=false:=by simp
     clear HFI0 HAH0 HBE0 HBK HRC HDK hxq hb' hr1;generalize befS ⟨1,y,z,e,i,r,d,l⟩ ⟨x',y',z',e',i',r',d',l'⟩=bf at *;cases bf with
     | true=>
      have HAH2:Hid (bestK bx (k+1) (k:Int)):=HAH.out rfl
      clear HAH HBE;have HS0:Hid (beS w wr.heap.size [I J 1,I J y,I J z,bO e,I .u32 (i:Int),bO r,I J d,sL ao m c] (wr.alloc (.cells #[I J 1,I J y,I J z,bO e,I .u32 (i:Int),bO r,I J d,sL ao m c] 166))):=⟨blk.new wr _ 166,HBW.out.trans (((bW _ wr).alloc (nR _) _).mono HBW.out.size)⟩
      go_wp2_with (first
       | (refine lq166 HRG.out ?_))
      generalize (wr.alloc (.cells #[I J 1,I J y,I J z,bO e,I .u32 (i:Int),bO r,I J d,sL ao m c] 166))=w3 at *;generalize wr.heap.size=PB at *;refine wp_region_held (S:=beS w PB [I J 1,I J y,I J z,bO e,I .u32 (i:Int),bO r,I J d,sL ao m c]) (by kernel_rfl) ?_
      have hS:beS w PB [I J 1,I J y,I J z,bO e,I .u32 (i:Int),bO r,I J d,sL ao m c] w3.drew:=HS0.out.below (bW _ _).drew
      refine tk 0 ?_
      refine tk 1 ?_ (hy:=fun W hSw=>by (have hc:=hSw.p.cell 0 _ rfl;go_simp;try rfl))
      refine tk 2 ?_
      refine tk 3 ?_
      refine tk 4 ?_
      refine tk 5 ?_
      refine tk 6 ?_
      refine wU 7 (.agg [I J 1,I J y,I J z,bO e,I .u32 (i:Int),bO r,I J d,sL ao m c].toArray) rfl (yieldsIf_load_mid (by rfl) 166 (.tmp 5) rfl PB 0 rfl [I J 1,I J y,I J z,bO e,I .u32 (i:Int),bO r,I J d,sL ao m c] _ (fun W h=>h.p.load) Tryz.underlying166 rfl sz95) hS ?_
      simp only[aZ];refine tk 8 ?_
      refine tk 9 ?_
      refine tk 10 ?_
      refine tk 11 ?_ (hy:=fun W hSw=>by (have hc:=HC5.out W hSw.b;go_simp;try rfl))
      refine tk 12 ?_
      refine tk 13 ?_
      refine wU 14 (.agg [I J x',I J y',I J z',bO e',I .u32 (i':Int),bO r',I J d',sL ao' m' c'].toArray) rfl (yieldsIf_load_mid (by rfl) 166 (.tmp 29) rfl g (off+q*8) rfl [I J x',I J y',I J z',bO e',I .u32 (i':Int),bO r',I J d',sL ao' m' c'] _ (fun W h=>HRQ.out W h.b) Tryz.underlying166 rfl sz95) hS ?_
      simp only[aZ];refine al 15 fun K hK=>?_
      go_simp;refine (HGA.out _ hS.b).mono ?_
      rintro o w6 ⟨rfl,hb6⟩;have hS1:=hS.below hb6
      go_wp2_with fail;refine hK.out _ _ hS1 (fun hS2=>?_)
      clear hS hK K hS1 hb6;have hS:=hS2
      clear hS2;refine tk 16 ?_
      refine tk 17 ?_
      refine wpAnyH_done (by kernel_rfl) ?_ _
      have HB9:Hid (Below w.heap.size w _):=hS.b
      clear hS;go_wp2
      go_roundw
      case rel=>exact⟨k+1,(k:Int),by omega,by go_num,rfl,HAH2.out,HB9.out⟩
      case measure=>simp[intOf];omega
     | false=>
      have HBE2:Hid (bestK bx (k+1) (q:Int)):=HBE.out rfl
      clear HAH HBE;have HS0:Hid (beS w wr.heap.size [I J 1,I J y,I J z,bO e,I .u32 (i:Int),bO r,I J d,sL ao m c] (wr.alloc (.cells #[I J 1,I J y,I J z,bO e,I .u32 (i:Int),bO r,I J d,sL ao m c] 166))):=⟨blk.new wr _ 166,HBW.out.trans (((bW _ wr).alloc (nR _) _).mono HBW.out.size)⟩
      go_wp2_with (first
       | (refine lq166 HRG.out ?_))
      generalize (wr.alloc (.cells #[I J 1,I J y,I J z,bO e,I .u32 (i:Int),bO r,I J d,sL ao m c] 166))=w3 at *;generalize wr.heap.size=PB at *;refine wp_region_held (S:=beS w PB [I J 1,I J y,I J z,bO e,I .u32 (i:Int),bO r,I J d,sL ao m c]) (by kernel_rfl) ?_
      have hS:beS w PB [I J 1,I J y,I J z,bO e,I .u32 (i:Int),bO r,I J d,sL ao m c] w3.drew:=HS0.out.below (bW _ _).drew
      refine tk 0 ?_
      refine tk 1 ?_ (hy:=fun W hSw=>by (have hc:=hSw.p.cell 0 _ rfl;go_simp;try rfl))
      refine tk 2 ?_
      refine tk 3 ?_
      refine tk 4 ?_
      refine tk 5 ?_
      refine tk 6 ?_
      refine wU 7 (.agg [I J 1,I J y,I J z,bO e,I .u32 (i:Int),bO r,I J d,sL ao m c].toArray) rfl (yieldsIf_load_mid (by rfl) 166 (.tmp 5) rfl PB 0 rfl [I J 1,I J y,I J z,bO e,I .u32 (i:Int),bO r,I J d,sL ao m c] _ (fun W h=>h.p.load) Tryz.underlying166 rfl sz95) hS ?_
      simp only[aZ];refine tk 8 ?_
      refine tk 9 ?_
      refine tk 10 ?_
      refine tk 11 ?_ (hy:=fun W hSw=>by (have hc:=HC5.out W hSw.b;go_simp;try rfl))
      refine tk 12 ?_
      refine tk 13 ?_
      refine wU 14 (.agg [I J x',I J y',I J z',bO e',I .u32 (i':Int),bO r',I J d',sL ao' m' c'].toArray) rfl (yieldsIf_load_mid (by rfl) 166 (.tmp 29) rfl g (off+q*8) rfl [I J x',I J y',I J z',bO e',I .u32 (i':Int),bO r',I J d',sL ao' m' c'] _ (fun W h=>HRQ.out W h.b) Tryz.underlying166 rfl sz95) hS ?_
      simp only[aZ];refine al 15 fun K hK=>?_
      go_simp;refine (HGA.out _ hS.b).mono ?_
      rintro o w6 ⟨rfl,hb6⟩;have hS1:=hS.below hb6
      go_wp2_with fail;refine hK.out _ _ hS1 (fun hS2=>?_)
      clear hS hK K hS1 hb6;have hS:=hS2
      clear hS2;refine tk 16 ?_
      refine tk 17 ?_
      refine wpAnyH_done (by kernel_rfl) ?_ _
      have HB9:Hid (Below w.heap.size w _):=hS.b
      clear hS;go_wp2
      go_roundw
      case rel=>exact⟨k+1,(q:Int),by omega,by go_num,rfl,HBE2.out,HB9.out⟩
      case measure=>simp[intOf];omega
   ·have HSK:Hid (bestK bx (k+1) rr):=HSK0.out hx1
    have hx1':(x == 1)=false:=by simpa using hx1
    clear HSK0 HFI0 HAH0 HBE0 HBK HDK hx1;have HS0:Hid (beS w wr.heap.size [I J x,I J y,I J z,bO e,I .u32 (i:Int),bO r,I J d,sL ao m c] (wr.alloc (.cells #[I J x,I J y,I J z,bO e,I .u32 (i:Int),bO r,I J d,sL ao m c] 166))):=⟨blk.new wr _ 166,HBW.out.trans (((bW _ wr).alloc (nR _) _).mono HBW.out.size)⟩
    go_wp2_with (first
     | (refine lq166 HRG.out ?_))
    generalize (wr.alloc (.cells #[I J x,I J y,I J z,bO e,I .u32 (i:Int),bO r,I J d,sL ao m c] 166))=w3 at *;generalize wr.heap.size=PB at *;refine wp_region_held (S:=beS w PB [I J x,I J y,I J z,bO e,I .u32 (i:Int),bO r,I J d,sL ao m c]) (by kernel_rfl) ?_
    have hS:beS w PB [I J x,I J y,I J z,bO e,I .u32 (i:Int),bO r,I J d,sL ao m c] w3.drew:=HS0.out.below (bW _ _).drew
    refine tk 0 ?_
    refine tk 1 ?_ (hy:=fun W hSw=>by (have hc:=hSw.p.cell 0 _ rfl;go_simp;try rfl))
    refine tk 2 ?_
    refine tk 3 ?_
    refine tn 4 ?_
    refine tn 5 ?_
    refine tn 6 ?_
    refine tn 7 ?_
    refine tn 8 ?_
    refine tn 9 ?_
    refine tn 10 ?_
    refine tn 11 ?_
    refine tn 12 ?_
    refine tn 13 ?_
    refine tn 14 ?_
    refine tn 15 ?_
    refine tn 16 ?_
    refine tk 17 ?_
    refine wpAnyH_done (by kernel_rfl) ?_ _
    have HB9:Hid (Below w.heap.size w _):=hS.b
    clear hS;go_wp2
    go_roundw
    case rel=>exact⟨k+1,rr,by omega,by go_num,rfl,HSK.out,HB9.out⟩
    case measure=>simp[intOf];omega
  ·have HF:Hid (bestR bx rr):=bestK_end HBK.out (by have:=HL.out;omega)
   go_wp2
   go_ret;exact⟨rr,rfl,HF.out,HBW.out⟩
end Go.Proofs.YtkfcfigbgmbaiaaGreat
