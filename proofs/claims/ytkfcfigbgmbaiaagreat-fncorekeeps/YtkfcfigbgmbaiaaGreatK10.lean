import Derived.Deep.DeepCutAuto
import Derived.Test.YtkfcfigbgmbaiaaGreatK09
namespace Go.Proofs.YtkfcfigbgmbaiaaGreat
set_option maxRecDepth 20000
open Go.RowKit
set_option linter.unusedVariables false
set_option maxHeartbeats 16000000
open Go.Value renaming int→I,slice→sL,bool→bO,pointer→pT,agg→aG
open Go.IntKind renaming i64→J
open Go.Ending renaming returned→rT
open Go.Proofs.Tryz renaming prog→Tp
variable {k:Nat} {bx:List R8} {st:Int} {w:World}
def okBx (st:Int) (b:R8):Prop:=if b.x=0 then (b.y=0∧b.z=0∧zFr b.e b.i b.r b.d b.l.length) else ((1≤b.x∧b.x≤3)∧(0≤b.y∧b.y≤9999)∧(0≤b.z∧b.z<st)∧vB b.e b.i b.r b.d b.l.length=true)
def far (a b:R8):Prop:=a.x≠0→b.x≠0→a.y≠b.y∧a.z≠b.z
def busyN (bx:List R8):Nat:=bx.countP (fun b=>b.x != 0 && b.x != 1)
def okBxs (st:Int) (bx:List R8):Prop:=(∀ j (h:j<bx.length),okBx st bx[j])∧(∀ i j (hi:i<bx.length) (hj:j<bx.length),i<j→far bx[i] bx[j])∧busyN bx≤1
structure obS (w:World) (H:Ho) (s:Sl) (W:World):Prop where
 p:blk W w.heap.size (hoL H s) 39
 b:Below w.heap.size w W
theorem obS.below {H:Ho} {s:Sl} {W W':World} (h:obS w H s W) (hb:Below W.heap.size W W'):obS w H s W':=⟨h.p.below hb,h.b.trans (hb.mono h.b.size)⟩
theorem busyN_take (bx:List R8) (k:Nat) (h:k<bx.length):busyN (bx.take (k+1))=busyN (bx.take k)+(if (bx[k].x != 0 && bx[k].x != 1)=true then 1 else 0):=by
 unfold busyN
 rw[List.take_succ_eq_append_getElem h,List.countP_append]
 simp[List.countP_cons]
theorem wpList_load_midG {ops:Array Oper} {rest:List Oper} {op:Oper} {a:Act} {Q:Exit→Act→World→Prop} (hw:Region.wanted op (yielded ops a.tmps)=true) (ty:TypeId) (x:Operand) (ho:op.op = .load ty x)
  (b o:Nat) (hx:a.eval x = pT (some ⟨b,o,none⟩)) (cs:List Value) (d:TypeDesc) (hc:w.rangeAt b o cs)
  (hu:Tp.underlying ty=some d) (hd:d.isRow=true) (hi:(Tp.info? ty).map (·.size)=some cs.length)
  (h:wpList Tp ops Q rest (a.put op.dst (aG cs.toArray)) w):wpList Tp ops Q (op :: rest) a w:=
 wpList_step fun K hK=>by
  simp only[hw,if_true]
  exact wp_load_mid ty x ho b o hx cs d hc hu hd hi (hK _ _ h)
theorem okBxs_bad (hk:k<bx.length) (h:¬ okBx st bx[k]):¬ okBxs st bx:=fun hh=>h (hh.1 k hk)
theorem okBxs_far {i:Nat} (hi:i<bx.length) (hk:k<bx.length) (hik:i<k) (h:¬ far bx[i] bx[k]):¬ okBxs st bx:=fun hh=>h (hh.2.1 i k hi hk hik)
theorem far_snoc (hD:∀ i j (hi:i<bx.length) (hj:j<bx.length),i<j→j<k→far bx[i] bx[j]) (hk:k<bx.length) (h:∀ i (hi:i<bx.length),i<k→far bx[i] bx[k]):∀ i j (hi:i<bx.length) (hj:j<bx.length),i<j→j<k+1→far bx[i] bx[j]:=by
 intro i j hi hj hij hjk;by_cases e:j=k
 ·subst e;exact h i hi hij
 ·exact hD i j hi hj hij (by omega)
theorem ok_snocP {α:Type} {p:α→Prop} {bs:List α} (hk:k<bs.length) (h:∀ j (hj:j<bs.length),j<k→p bs[j]) (h1:p bs[k]):∀ j (hj:j<bs.length),j<k+1→p bs[j]:=by
 intro j hj h2;by_cases e:j=k
 ·subst e;exact h1
 ·exact h j hj (by omega)
structure rbS (st:Int) (bx:List R8) (k:Nat) (b:R8):Prop where
 bad:¬ okBx st b→¬ okBxs st bx
 good:okBx st b→∀ j (hj:j<bx.length),j<k+1→okBx st bx[j]
 fars:(∀ i (hi:i<bx.length),i<k→far bx[i] b)→∀ i j (hi:i<bx.length) (hj:j<bx.length),i<j→j<k+1→far bx[i] bx[j]
 bf:∀ i (hi:i<bx.length),i<k→¬ far bx[i] b→¬ okBxs st bx
 bn:busyN (bx.take (k+1))=busyN (bx.take k)+(if (b.x != 0 && b.x != 1)=true then 1 else 0)
theorem rbS.of (hk:k<bx.length) (hA:∀ j (hj:j<bx.length),j<k→okBx st bx[j]) (hD:∀ i j (hi:i<bx.length) (hj:j<bx.length),i<j→j<k→far bx[i] bx[j]):rbS st bx k bx[k]:=
 ⟨okBxs_bad hk,fun ho=>ok_snocP hk hA ho,fun ho=>far_snoc hD hk ho,fun i hi hik hf=>okBxs_far hi hk hik hf,busyN_take bx k hk⟩
theorem l3okBoxes_any (w:World) (H:Ho) (s:Sl) (h:isR8s w s.a2 s.n2 s.k2 H.bx) (hn:s.n2≤8) :
  Calls Tp 130 #[hoV H s] w fun o w'=>retB o (okBxs H.st H.bx)∧Below w.heap.size w w':=by
 have HH:Hid (isR8s w s.a2 s.n2 s.k2 H.bx):=h
 have HL:Hid (s.n2=H.bx.length):=h.len
 have hcp:=h.cap
 have H0:Hid (obS w H s (w.alloc (.cells (hoL H s).toArray 39))):=⟨blk.new w _ 39,(bW _ _).alloc (nR _) _⟩
 clear h;rw[hoV_L]
 go_enter Tryz.func130,Tryz.ntmps130
 go_wp2_with fail;go_loopw [3,4] (fun b i wr=>∃ k q:Nat,k≤s.n2∧i = I J (k:Int)∧b = I J (q:Int)∧q≤k∧q=busyN (H.bx.take k)∧(∀ j (hj:j<H.bx.length),j<k→okBx H.st H.bx[j])∧(∀ i j (hi:i<H.bx.length) (hj:j<H.bx.length),i<j→j<k→far H.bx[i] H.bx[j])∧obS w H s wr) (fun _ i _=>s.n2-(intOf i).toNat)
 case atStart=>exact⟨0,0,nZ _,rfl,rfl,nR _,by simp[busyN],fun j hj h=>absurd h (nN _),fun i j hi hj h1 h2=>absurd h2 (nN _),H0.out⟩
 case round=>
  obtain⟨k,q,hk,rfl,rfl,hqk,hq,hA,hD,hS⟩:=hrel
  have HS:Hid (obS w H s wr):=hS
  have x5:=hS.p.cell 5 _ rfl
  by_cases hlt:k<s.n2
  ·have hkl:k<H.bx.length:=by have:=HL.out;omega
   obtain⟨g,off,ha,hc⟩:=HH.out.cells (by intro e;rw[e] at hkl;cases hkl)
   obtain⟨ao,m,c,hx⟩:=hc k hkl
   have HC:Hid (∀ W,Below w.heap.size w W→∀ j (h:j<H.bx.length),∃ ao m c,at8 W g (off+j*8) H.bx[j] ao m c):=fun W hW j hj=>by obtain⟨a,b,c,h⟩:=hc j hj;exact⟨a,b,c,h.below hW⟩
   have HA5:Hid (s.a2=some ⟨g,off,none⟩):=ha
   rw[ha] at x5
   have HR0:=rbS.of hkl hA hD
   have HRG0:=(hx.below HS.out.b).range
   have hM:=hx.dat.len
   have HQQ:Hid (q=busyN (H.bx.take k)):=hq
   clear hx hc ha hq hA hD hS;generalize H.bx[k]=b at *;obtain⟨x,y,z,e,i,r,d,l⟩:=b
   dsimp only at HRG0 hM
   have HR:Hid (rbS H.st H.bx k ⟨x,y,z,e,i,r,d,l⟩):=HR0
   have HRG:Hid (wr.rangeAt g (off+k*8) [I J x,I J y,I J z,bO e,I .u32 (i:Int),bO r,I J d,sL ao m c]):=HRG0
   have HE:Hid (okBx H.st ⟨x,y,z,e,i,r,d,l⟩↔(x=0∧y=0∧z=0∧zFr e i r d m)∨(x≠0∧(1≤x∧x≤3)∧(0≤y∧y≤9999)∧(0≤z∧z<H.st)∧vB e i r d m=true)):=by
    show _↔_
    unfold okBx
    dsimp only
    rw[← hM]
    by_cases h:x=0 <;> simp[h]
   clear HR0 HRG0 hM;have HW3:Hid (blk (wr.alloc (.cells #[I J x,I J y,I J z,bO e,I .u32 (i:Int),bO r,I J d,sL ao m c] 166)) wr.heap.size [I J x,I J y,I J z,bO e,I .u32 (i:Int),bO r,I J d,sL ao m c] 166∧obS w H s (wr.alloc (.cells #[I J x,I J y,I J z,bO e,I .u32 (i:Int),bO r,I J d,sL ao m c] 166))):=⟨blk.new wr _ 166,HS.out.below ((bW _ _).alloc (nR _) _)⟩
   go_upto_region 6 with (first
    | (refine lq166 HRG.out ?_))
   generalize wr.alloc _=w3 at *;have p9:=HW3.out.2.p.cell 9 _ rfl
   have u0:=HW3.out.1.cell 0 _ rfl
   have u1:=HW3.out.1.cell 1 _ rfl
   have u2:=HW3.out.1.cell 2 _ rfl
   have u3:=HW3.out.1.cell 3 _ rfl
   have u4:=HW3.out.1.cell 4 _ rfl
   have u5:=HW3.out.1.cell 5 _ rfl
   have u6:=HW3.out.1.cell 6 _ rfl
   have u7:=HW3.out.1.cell 7 _ rfl
   go_wp2_with fail
   all_goals try
    go_ret;exact⟨⟨false,rfl,by simpa using HR.out.bad (fun h=>by rcases HE.out.1 h with⟨h1,h2,h3,_⟩ | ⟨h1,⟨h2,h3⟩,⟨h4,h5⟩,⟨h6,h7⟩,_⟩ <;> first | omega | simp_all)⟩,HW3.out.2.b⟩
   ·refine (l3zeroFrame_any _ e i r d ao m c).mono ?_
    rintro o w4 ⟨⟨bb,rfl,h1⟩,hb4⟩;have HB4:Hid (obS w H s w4):=HW3.out.2.below hb4
    have HZ:Hid (bb=true↔okBx H.st ⟨x,y,z,e,i,r,d,l⟩):=⟨fun h=>HE.out.2 (Or.inl ⟨by simp_all,by assumption,by assumption,h1.1 h⟩),fun h=>h1.2 (by rcases HE.out.1 h with h | h;exact h.2.2.2;simp_all)⟩
    have HX:Hid (x=0):=by show _=_;simp_all
    clear h1 hb4;cases bb
    ·go_wp2_with fail;go_ret;exact⟨⟨false,rfl,by simpa using HR.out.bad (fun h=>by have:=HZ.out.2 h;simp at this)⟩,HB4.out.b⟩
    ·go_wp2_with fail;go_roundw
     case rel=>
      refine⟨k+1,q,by omega,by go_num,rfl,by omega,?_,HR.out.good (HZ.out.1 (by trivial)),HR.out.fars (fun i hi hik _ h=>absurd HX.out h),HB4.out⟩
      rw[HR.out.bn,← HQQ.out,HX.out]
      simp
     case measure=>simp[intOf];omega
   ·refine (specValid_any _ e i r d ao m c).mono ?_
    rintro o w4 ⟨rfl,hb4⟩;have HB4:Hid (blk w4 wr.heap.size [I J x,I J y,I J z,bO e,I .u32 (i:Int),bO r,I J d,sL ao m c] 166∧obS w H s w4):=⟨HW3.out.1.below hb4,HW3.out.2.below hb4⟩
    have HX0:Hid (x≠0):=by show ¬ _=_;simp_all
    have HZ:Hid (vB e i r d m=true↔okBx H.st ⟨x,y,z,e,i,r,d,l⟩):=⟨fun h=>HE.out.2 (Or.inr ⟨HX0.out,by have:=HX0.out;omega,by omega,by omega,h⟩),fun h=>by rcases HE.out.1 h with h | h;(exact absurd h.1 HX0.out);exact h.2.2.2.2⟩
    obtain⟨b,hb⟩ : ∃ b,vB e i r d m=b:=⟨_,rfl⟩
    rw[hb] at HZ
    rw[hb]
    clear hb hb4 HE HRG HW3 p9 u0 u1 u2 u3 u4 u5 u6 u7;cases b
    ·go_wp2_with fail;go_ret;exact⟨⟨false,rfl,by simpa using HR.out.bad (fun h=>by have:=HZ.out.2 h;simp at this)⟩,HB4.out.2.b⟩
    have HOK:Hid (okBx H.st ⟨x,y,z,e,i,r,d,l⟩):=HZ.out.1 rfl
    have y0:=HB4.out.1.cell 0 _ rfl
    have y1:=HB4.out.1.cell 1 _ rfl
    have y2:=HB4.out.1.cell 2 _ rfl
    have o5:=HB4.out.2.p.cell 5 _ rfl
    rw[HA5.out] at o5
    clear HZ;go_wp2_with fail
    all_goals
     have HN:Hid (busyN (H.bx.take (k+1))=q+(if (x != 1)=true then 1 else 0)):=by show _=_;have h1:=HX0.out;rw[HR.out.bn,← HQQ.out];simp[h1]
     clear y0 y1 y2 o5 x5;generalize wr.heap.size=PB at *;go_loopw [6] (fun j wr=>∃ v:Nat,v≤k∧j = I J (v:Int)∧(∀ i' (hi:i'<H.bx.length),i'<v→far H.bx[i'] ⟨x,y,z,e,i,r,d,l⟩)∧Below w4.heap.size w4 wr) (fun j _=>k-(intOf j).toNat)
     case atStart=>exact⟨0,nZ _,rfl,fun i hi h=>absurd h (nN _),bW _ _⟩
     case round=>
      obtain⟨v,hvk0,rfl,hF,hbi⟩:=hrel
      have HBI:Hid (Below w4.heap.size w4 wr):=hbi
      have HF:Hid (∀ i' (hi:i'<H.bx.length),i'<v→far H.bx[i'] ⟨x,y,z,e,i,r,d,l⟩):=hF
      have y1:=(HB4.out.1.below hbi).cell 1 _ rfl
      have y2:=(HB4.out.1.below hbi).cell 2 _ rfl
      have o5:=(HB4.out.2.below hbi).p.cell 5 _ rfl
      rw[HA5.out] at o5
      clear hF hbi;by_cases hvk:v<k
      ·have hvl:v<H.bx.length:=by have:=HL.out;omega
       have hvn:v<s.n2:=by omega
       obtain⟨ao',m',c',hx⟩:=HC.out _ (HB4.out.2.below HBI.out).b v hvl
       obtain⟨u0,u1,u2,-,-,-,-,-,-⟩:=hx
       have HFS:Hid (far H.bx[v] ⟨x,y,z,e,i,r,d,l⟩→∀ i' (hi:i'<H.bx.length),i'<v+1→far H.bx[i'] ⟨x,y,z,e,i,r,d,l⟩):=fun h1=>ok_snocP (p:=fun t=>far t ⟨x,y,z,e,i,r,d,l⟩) hvl HF.out h1
       have HNF:Hid (¬ far H.bx[v] ⟨x,y,z,e,i,r,d,l⟩→¬ okBxs H.st H.bx):=HR.out.bf v hvl hvk
       generalize H.bx[v]=b' at *;obtain⟨x',y',z',e',i',r',d',l'⟩:=b'
       dsimp only at u0 u1 u2
       obtain⟨b1,e1⟩ : ∃ b,(x' != 0)=b:=⟨_,rfl⟩
       obtain⟨b2,e2⟩ : ∃ b,(y' == y)=b:=⟨_,rfl⟩
       obtain⟨b3,e3⟩ : ∃ b,(z' == z)=b:=⟨_,rfl⟩
       have HV:Hid (far ⟨x',y',z',e',i',r',d',l'⟩ ⟨x,y,z,e,i,r,d,l⟩↔(b1 && (b2 || b3))=false):=by
        show _↔_
        have h1:=HX0.out
        simp only[far,← e1,← e2,← e3]
        by_cases hx':x'=0 <;> simp[hx',h1]
       cases b1
       rotate_left
       cases b2
       cases b3
       all_goals
        go_wp2
        go_quiet (fail)
        have HBJ:Hid (Below w4.heap.size w4 (wr.drewN nq)):=below_drewN HBI.out nq
        go_wp2
        first
        | (go_roundw;(case rel=>exact⟨v+1,by omega,by go_num,HFS.out (HV.out.2 (by trivial)),HBJ.out⟩);(case measure=>simp[intOf];omega))
        | (go_ret;exact⟨⟨false,rfl,by simpa using HNF.out (fun h=>by have:=HV.out.1 h;simp at this)⟩,(HB4.out.2.below HBJ.out).b⟩)
      ·have hve:v=k:=by omega
       subst hve;go_wp2
       go_roundw
       case rel=>first
        | exact⟨v+1,q+1,by omega,by go_num,by go_num,by omega,by have:=HN.out;simp_all,HR.out.good HOK.out,HR.out.fars HF.out,HB4.out.2.below HBI.out⟩
        | exact⟨v+1,q,by omega,by go_num,rfl,by omega,by have:=HN.out;simp_all,HR.out.good HOK.out,HR.out.fars HF.out,HB4.out.2.below HBI.out⟩
       case measure=>simp[intOf];omega
  ·have hkn:k=s.n2:=by omega
   subst hkn;have HFIN:Hid (okBxs H.st H.bx↔q≤1):=by
    show _↔_
    rw[List.take_of_length_le (by have:=HL.out;omega)] at hq
    exact⟨fun h=>by have:=h.2.2;omega,fun h=>⟨fun j hj=>hA j hj (by have:=HL.out;omega),fun i j hi hj hij=>hD i j hi hj hij (by have:=HL.out;omega),by omega⟩⟩
   clear hq hA hD hS;obtain⟨b,hb⟩ : ∃ b,decide ((q:Int)≤1)=b:=⟨_,rfl⟩
   have HD:Hid (b=true↔q≤1):=by show _↔_;rw[← hb];simp;omega
   go_wp2
   go_ret;exact⟨⟨b,rfl,HD.out.trans HFIN.out.symm⟩,HS.out.b⟩
structure okHo (H:Ho):Prop where
 cf:okCf H.c0 H.c1 H.c2 H.c3=true
 fs:okFs H.fs=true
 nb:(H.bx.length:Int)=H.c0
 nf:(H.ff.length:Int)≤H.c1
 nq:(H.qu.length:Int)≤H.c3
 l0:0≤H.lo
 l1:H.lo≤100000
 s0:0≤H.st
 s1:H.st≤1000000
 ff:H.ff.all okFr=true
 qu:H.qu.all okEv=true
 bx:okBxs H.st H.bx
theorem zFr_valid {e:Bool} {i:Nat} {r:Bool} {d:Int} {n:Nat} (h:zFr e i r d n):vB e i r d n=true:=by
 obtain⟨rfl,rfl,rfl,rfl,rfl⟩:=h
 decide
theorem l3ok_any (w:World) (H:Ho) (s:Sl) (h:isHo w H s) (hn:H.le 1048576) :
  Calls Tp 66 #[hoV H s] w fun o w'=>retB o (okHo H)∧Below w.heap.size w w':=by
 have H0:Hid (obS w H s (w.alloc (.cells (hoL H s).toArray 39))):=⟨blk.new w _ 39,(bW _ _).alloc (nR _) _⟩
 have HH:Hid (isHo w H s):=h
 have HLB:Hid (s.n2=H.bx.length∧s.n3=H.ff.length∧s.n4=H.qu.length∧s.n3≤s.k3∧s.n4≤s.k4):=⟨h.bx.len,h.ff.len,h.qu.len,h.ff.cap,h.qu.cap⟩
 have HFS:Hid (∀ W,Below w.heap.size w W→Calls Tp 128 #[sL s.a1 s.n1 s.k1] W fun o w'=>o = rT (bO (okFs H.fs))∧Below W.heap.size W w'):=fun W hW=>l3okFilters_any W _ _ _ _ (h.fs.below hW) (by rw[h.fs.len];exact hn.fs)
 have HBX:Hid (s.n2≤8→∀ W,Below w.heap.size w W→Calls Tp 130 #[hoV H s] W fun o w'=>retB o (okBxs H.st H.bx)∧Below W.heap.size W w'):=fun h8 W hW=>l3okBoxes_any W H s (h.bx.below hW) h8
 have q0:=H0.out.p.cell 0 _ rfl
 have q1:=H0.out.p.cell 1 _ rfl
 have q2:=H0.out.p.cell 2 _ rfl
 have q3:=H0.out.p.cell 3 _ rfl
 clear h hn;rw[hoV_L]
 go_enter Tryz.func66,Tryz.ntmps66
 go_wp2_with fail;refine (l3okConfig_any _ H.c0 H.c1 H.c2 H.c3).mono ?_
 rintro o w1 ⟨rfl,hb1⟩;have O1:Hid (obS w H s w1):=H0.out.below hb1
 have hc:=Bool.eq_false_or_eq_true (okCf H.c0 H.c1 H.c2 H.c3)
 have HCT:Hid (∀ b,okCf H.c0 H.c1 H.c2 H.c3=b→okHo H→b=true):=fun b e h=>by rw[← e];exact h.cf
 generalize hb:okCf H.c0 H.c1 H.c2 H.c3=b at *;have HCE:Hid (okCf H.c0 H.c1 H.c2 H.c3=b):=hb
 clear q0 q1 q2 q3 hb1 H0 hb hc;cases b
 ·have HB:Hid (¬ okHo H):=fun h=>by have:=HCT.out _ rfl h;cases this
  go_wp2_with fail;go_ret;exact⟨⟨false,rfl,by simpa using HB.out⟩,O1.out.b⟩
 have q4:=O1.out.p.cell 4 _ rfl
 go_wp2_with fail;refine (HFS.out _ O1.out.b).mono ?_
 rintro o w2 ⟨rfl,hb2⟩;have O2:Hid (obS w H s w2):=O1.out.below hb2
 generalize hb:okFs H.fs=b at *;have HFE:Hid (okFs H.fs=b):=hb
 clear q4 hb2 O1 hb;cases b
 ·have HB:Hid (¬ okHo H):=fun h=>by have:=h.fs;rw[HFE.out] at this;cases this
  go_wp2_with fail;go_ret;exact⟨⟨false,rfl,by simpa using HB.out⟩,O2.out.b⟩
 have HNB:Hid (¬ ((s.n2:Int)=H.c0∧(s.n3:Int)≤H.c1∧(s.n4:Int)≤H.c3∧0≤H.lo∧H.lo≤100000∧0≤H.st∧H.st≤1000000)→¬ okHo H):=fun h hh=>h (by have:=HLB.out;have:=hh.nb;have:=hh.nf;have:=hh.nq;have:=hh.l0;have:=hh.l1;have:=hh.s0;have:=hh.s1;omega)
 have q0:=O2.out.p.cell 0 _ rfl
 have q1:=O2.out.p.cell 1 _ rfl
 have q3:=O2.out.p.cell 3 _ rfl
 have q5:=O2.out.p.cell 5 _ rfl
 have q6:=O2.out.p.cell 6 _ rfl
 have q7:=O2.out.p.cell 7 _ rfl
 have q8:=O2.out.p.cell 8 _ rfl
 have q9:=O2.out.p.cell 9 _ rfl
 go_wp2_with fail
 all_goals try
  go_ret;exact⟨⟨false,rfl,by simpa using HNB.out (fun hh=>by first | omega | (have h9:=hh.1;simp_all))⟩,O2.out.b⟩
 have hb:(s.n2:Int)=H.c0:=by simp_all
 have HCB:1≤H.c0∧H.c0≤8∧1≤H.c1∧H.c1≤16∧0≤H.c2∧H.c2≤1∧1≤H.c3∧H.c3≤32:=of_decide_eq_true HCE.out
 have HNUM:Hid (((H.bx.length:Int)=H.c0∧s.n2≤8)∧(H.ff.length:Int)≤H.c1∧(H.qu.length:Int)≤H.c3∧0≤H.lo∧H.lo≤100000∧0≤H.st∧H.st≤1000000):=by have:=HLB.out;exact⟨by omega,by omega,by omega,by omega,by omega,by omega,by omega⟩
 have hn3:s.n3≤16:=by omega
 have hn4:s.n4≤32:=by omega
 clear q0 q1 q3 q5 q6 q7 q8 q9 hb HCB HNB;go_loopw [3] (fun i wr=>∃ k:Nat,k≤s.n3∧i = I J (k:Int)∧(∀ j (hj:j<H.ff.length),j<k→okFr H.ff[j]=true)∧obS w H s wr) (fun i _=>s.n3-(intOf i).toNat)
 case atStart=>exact⟨0,nZ _,rfl,fun j hj h=>absurd h (nN _),O2.out⟩
 case round=>
  obtain⟨k,hk,rfl,hA,hS⟩:=hrel
  have HA:Hid (∀ j (hj:j<H.ff.length),j<k→okFr H.ff[j]=true):=hA
  have HS:Hid (obS w H s wr):=hS
  have x6:=hS.p.cell 6 _ rfl
  clear hA hS;by_cases hlt:k<s.n3
  ·have hkl:k<H.ff.length:=by have:=HLB.out;omega
   obtain⟨g3,o3,ha,hc⟩:=(HH.out.below HS.out.b).ff.cells (fun e=>by rw[e] at hkl;cases hkl)
   have hcp:=HLB.out.2.2.2.1
   obtain⟨ao,m,c,hx⟩:=hc k hkl
   rw[ha] at x6
   have HAS:Hid (okFr H.ff[k]=true→∀ j (hj:j<H.ff.length),j<k+1→okFr H.ff[j]=true):=fun h=>all_snocG hkl HA.out h
   have HNO:Hid (okFr H.ff[k]=false→¬ okHo H):=fun h hh=>by have:=hh.ff;rw[all_noG hkl h] at this;cases this
   generalize H.ff[k]=bk at *;obtain⟨e,i,r,d,l⟩:=bk
   obtain⟨r0,r1,r2,r3,r4,hD⟩:=hx
   have hM:=hD.len
   dsimp only at r0 r1 r2 r3 r4 hM
   have HOK:okFr ⟨e,i,r,d,l⟩=vB e i r d m:=by unfold okFr;rw[hM]
   rw[HOK] at HAS HNO
   clear hc hD hM HOK ha;go_wp2_with fail;refine (specValid_any wr e i r d ao m c).mono ?_
   rintro o w4 ⟨rfl,hb4⟩;have HB4:Hid (Below wr.heap.size wr w4):=hb4
   clear hb4 r0 r1 r2 r3 r4;obtain⟨b,hb⟩ : ∃ b,vB e i r d m=b:=⟨_,rfl⟩
   rw[hb] at HAS HNO
   rw[hb]
   clear hb;cases b
   ·go_wp2_with fail;go_ret;exact⟨⟨false,rfl,by simpa using HNO.out (by trivial)⟩,(HS.out.below HB4.out).b⟩
   ·go_wp2_with fail;go_roundw
    case rel=>exact⟨k+1,by omega,by go_num,HAS.out (by trivial),HS.out.below HB4.out⟩
    case measure=>simp[intOf];omega
  ·have HFF:Hid (H.ff.all okFr=true):=all_yesG (by have:=HLB.out;omega) HA.out
   clear HA;go_wp2_with fail;clear x6;have O3:Hid (obS w H s wr):=HS.out
   clear HS;go_loopw [4] (fun i wr=>∃ k:Nat,k≤s.n4∧i = I J (k:Int)∧(∀ j (hj:j<H.qu.length),j<k→okEv H.qu[j]=true)∧obS w H s wr) (fun i _=>s.n4-(intOf i).toNat)
   case atStart=>exact⟨0,nZ _,rfl,fun j hj h=>absurd h (nN _),O3.out⟩
   case round=>
    clear hk hlt;obtain⟨k,hk,rfl,hA,hS⟩:=hrel
    have HA:Hid (∀ j (hj:j<H.qu.length),j<k→okEv H.qu[j]=true):=hA
    have HS:Hid (obS w H s wr):=hS
    have x7:=hS.p.cell 7 _ rfl
    clear hA hS;by_cases hlt:k<s.n4
    ·have hkl:k<H.qu.length:=by have:=HLB.out;omega
     obtain⟨g4,o4,ha,hc⟩:=(HH.out.below HS.out.b).qu.cells (fun e=>by rw[e] at hkl;cases hkl)
     have hcp:=HLB.out.2.2.2.2
     obtain⟨ao,m,c,hx⟩:=hc k hkl
     rw[ha] at x7
     have HAS:Hid (okEv H.qu[k]=true→∀ j (hj:j<H.qu.length),j<k+1→okEv H.qu[j]=true):=fun h=>all_snocG hkl HA.out h
     have HNO:Hid (¬ okEv H.qu[k]=true→¬ okHo H):=fun h hh=>by have:=hh.qu;rw[all_noG hkl (by simpa using h)] at this;cases this
     have HRG0:=hx.range
     generalize H.qu[k]=bk at *;obtain⟨x,y,z,e,i,r,d,l⟩:=bk
     have hM:=hx.dat.len
     dsimp only at HRG0 hM
     have HRG:Hid (wr.rangeAt g4 (o4+k*8) [I J x,I J y,I J z,bO e,I .u32 (i:Int),bO r,I J d,sL ao m c]):=HRG0
     have HW3:Hid (blk (wr.alloc (.cells #[I J x,I J y,I J z,bO e,I .u32 (i:Int),bO r,I J d,sL ao m c] 67)) wr.heap.size [I J x,I J y,I J z,bO e,I .u32 (i:Int),bO r,I J d,sL ao m c] 67∧obS w H s (wr.alloc (.cells #[I J x,I J y,I J z,bO e,I .u32 (i:Int),bO r,I J d,sL ao m c] 67))):=⟨blk.new wr _ 67,HS.out.below ((bW _ _).alloc (nR _) _)⟩
     have HEV:Hid (vB e i r d m=true→1≤x∧x≤12∧0≤y∧y≤9999∧0≤z∧z≤9→okEv ⟨x,y,z,e,i,r,d,l⟩=true):=fun h h2=>by simp only[okEv,← hM,h];simp;omega
     have HEN:Hid (okEv ⟨x,y,z,e,i,r,d,l⟩=true→vB e i r d m=true∧1≤x∧x≤12∧0≤y∧y≤9999∧0≤z∧z≤9):=fun h=>by simp only[okEv,← hM] at h;simp at h;exact⟨by simp_all,by omega,by omega,by omega,by omega,by omega,by omega⟩
     clear hx hM HRG0 hc ha;go_wp2_with (first | (refine lq67 HRG.out ?_))
     all_goals try
      go_ret;exact⟨⟨false,rfl,by simpa using HNO.out (fun h=>by have:=HEN.out h;omega)⟩,HW3.out.2.b⟩
     have HX:Hid (1≤x∧x≤12∧0≤y∧y≤9999∧0≤z∧z≤9):=⟨by omega,by omega,by omega,by omega,by omega,by omega⟩
     refine (l3zeroFrame_any _ e i r d ao m c).mono ?_
     rintro o w4 ⟨⟨bb,rfl,h1⟩,hb4⟩;have HB4:Hid (blk w4 wr.heap.size [I J x,I J y,I J z,bO e,I .u32 (i:Int),bO r,I J d,sL ao m c] 67∧obS w H s w4):=⟨HW3.out.1.below hb4,HW3.out.2.below hb4⟩
     have HZV:Hid (bb=true→vB e i r d m=true):=fun h=>zFr_valid (h1.1 h)
     clear h1 hb4;cases bb
     ·go_wp2_with (first
       | (refine lq55 (HB4.out.1.loadAt [I J x,I J y,I J z] [bO e,I .u32 (i:Int),bO r,I J d,sL ao m c] []) ?_)
       | (refine wpList_load_midG (by rfl) 55 _ rfl wr.heap.size 3 rfl _ _ (HB4.out.1.loadAt [I J x,I J y,I J z] [bO e,I .u32 (i:Int),bO r,I J d,sL ao m c] []) Tryz.underlying55 rfl sz93 ?_))
      refine (specValid_any _ e i r d ao m c).mono ?_
      rintro o w5 ⟨rfl,hb5⟩;have HB5:Hid (obS w H s w5):=HB4.out.2.below hb5
      obtain⟨b,hb⟩ : ∃ b,vB e i r d m=b:=⟨_,rfl⟩
      rw[hb] at HEV HEN
      rw[hb]
      clear hb hb5;cases b
      ·go_wp2_with fail;go_ret;exact⟨⟨false,rfl,by simpa using HNO.out (fun h=>by have:=(HEN.out h).1;simp at this)⟩,HB5.out.b⟩
      ·go_wp2_with fail;go_roundw
       case rel=>exact⟨k+1,by omega,by go_num,HAS.out (HEV.out (by trivial) HX.out),HB5.out⟩
       case measure=>simp[intOf];omega
     ·go_wp2_with fail;go_roundw
      case rel=>exact⟨k+1,by omega,by go_num,HAS.out (HEV.out (HZV.out (by trivial)) HX.out),HB4.out.2⟩
      case measure=>simp[intOf];omega
    ·have HQU:Hid (H.qu.all okEv=true):=all_yesG (by have:=HLB.out;omega) HA.out
     clear HA;go_wp2_with (first
      | (refine lq39 HS.out.p.load ?_))
     rw[← hoV_L]
     refine (HBX.out HNUM.out.1.2 _ HS.out.b).mono ?_
     rintro o w5 ⟨⟨bb,rfl,hbb⟩,hb5⟩;have HFIN:Hid (bb=true↔okHo H):=hbb.trans ⟨fun hx=>⟨HCE.out,HFE.out,HNUM.out.1.1,HNUM.out.2.1,HNUM.out.2.2.1,HNUM.out.2.2.2.1,HNUM.out.2.2.2.2.1,HNUM.out.2.2.2.2.2.1,HNUM.out.2.2.2.2.2.2,HFF.out,HQU.out,hx⟩,fun hx=>hx.bx⟩
     have HB5:Hid (Below w.heap.size w w5):=(HS.out.below hb5).b
     clear hbb hb5;go_wp2_with fail;go_ret;exact⟨⟨bb,rfl,HFIN.out⟩,HB5.out⟩
theorem isOnWire_any (w:World) (b:R8) (a:Option Addr) (n cap:Nat) :
  Calls Tp 182 #[bxV b.x b.y b.z b.e b.i b.r b.d a n cap] w fun o w'=>o = rT (bO (b.x == 2 || b.x == 3))∧Below w.heap.size w w':=by
 obtain⟨x,y,z,e,i,r,d,l⟩:=b
 have HA:Hid (Below w.heap.size w (w.alloc (.cells #[I J x,I J y,I J z,bO e,I .u32 (i:Int),bO r,I J d,sL a n cap] 166))):=(bW _ _).alloc (nR _) _
 by_cases h2:x=2
 ·subst h2;go_enter Tryz.func182,Tryz.ntmps182
  go_wp2
  go_ret;exact⟨rfl,HA.out⟩
 ·have h2':(x == 2)=false:=by simpa using h2
  go_enter Tryz.func182,Tryz.ntmps182
  go_wp2
  go_ret;exact⟨ret_bool (by simp[h2']),HA.out⟩
theorem validBox_any (w:World) (b:R8) (st:Int) (a:Option Addr) (n cap:Nat) (h:iB w a n cap b.l) (hst:0≤st∧st≤1000000) :
  Calls Tp 208 #[bxV b.x b.y b.z b.e b.i b.r b.d a n cap,I J st] w fun o w'=>retB o (okBx st b)∧Below w.heap.size w w':=by
 have hlen:=h.len
 obtain⟨x,y,z,e,i,r,d,l⟩:=b
 simp only[] at hlen h ⊢
 have HA:Hid (Below w.heap.size w (w.alloc (.cells #[I J x,I J y,I J z,bO e,I .u32 (i:Int),bO r,I J d,sL a n cap] 166))):=(bW _ _).alloc (nR _) _
 have HV:Hid (∀ W,Below w.heap.size w W→Calls Tp 112 #[frV e i r d a n cap] W fun o w'=>o = rT (bO (vB e i r d n))∧Below W.heap.size W w'):=fun W hW=>valid_any W e i r d a n cap l (h.below hW)
 have HZ:Hid (∀ W,Below w.heap.size w W→Calls Tp 156 #[frV e i r d a n cap,frV false 0 false 0 none 0 0] W fun o w'=>o = rT (bO ((e == false) && (r == false) && ((i:Int) == ((0:Nat):Int)) && (d == 0) && decide (l=[])))∧Below W.heap.size W w'):=fun W hW=>same_any W e i r d a n cap l (h.below hW) false 0 false 0 none 0 0 [] ⟨rfl,nR _,fun _ hx=>(by cases hx),fun hne=>absurd rfl hne⟩
 have HLN:Hid (n=l.length):=hlen
 clear h hlen;by_cases hx0:x=0
 ·subst hx0;have HOK:Hid (okBx st ⟨0,y,z,e,i,r,d,l⟩↔(y=0∧z=0∧zFr e i r d l.length)):=by show _↔_;unfold okBx;rw[if_pos rfl]
  by_cases hy0:y=0
  ·subst hy0;by_cases hz0:z=0
   ·subst hz0;go_enter Tryz.func208,Tryz.ntmps208
    go_wp2_with (first
     | (go_at_call 156;refine (HZ.out _ HA.out).mono ?_;rintro o w1 ⟨rfl,hb1⟩))
    go_ret;refine⟨⟨_,rfl,?_⟩,HA.out.trans (hb1.mono HA.out.size)⟩
    rw[HOK.out]
    unfold zFr
    simp
    cases e <;> cases r <;> simp
    constructor
    ·rintro⟨⟨h1,h2⟩,h3⟩;exact⟨h1,h2,by rw[h3]⟩
    ·rintro⟨h1,h2,h3⟩;exact⟨⟨h1,h2⟩,by simpa using h3⟩
   ·have hz':(z == 0)=false:=by simpa using hz0
    go_enter Tryz.func208,Tryz.ntmps208
    go_wp2
    go_ret;exact⟨⟨false,rfl,by rw[HOK.out];simp[hz0]⟩,HA.out⟩
  ·have hy':(y == 0)=false:=by simpa using hy0
   go_enter Tryz.func208,Tryz.ntmps208
   go_wp2
   go_ret;exact⟨⟨false,rfl,by rw[HOK.out];simp[hy0]⟩,HA.out⟩
 ·have HOK:Hid (okBx st ⟨x,y,z,e,i,r,d,l⟩↔((1≤x∧x≤3)∧(0≤y∧y≤9999)∧(0≤z∧z<st)∧vB e i r d n=true)):=by show _↔_;unfold okBx;rw[if_neg hx0,HLN.out]
  have hx':(x == 0)=false:=by simpa using hx0
  have HIR:Hid (∀ (W:World) (v l m:Int) (bb:Bool),decide (l≤v∧v≤m)=bb→Calls Tp 43 #[I J v,I J l,I J m] W fun o w'=>o = rT (bO bb)∧W=w'):=fun W v l m bb hbb=>hbb ▸ inRange_any W v l m
  have hs1:IntKind.i64.wrap (st-1)=st-1:=by rw[IntKind.wrap_i64];omega
  clear hx0;by_cases h1:1≤x∧x≤3
  ·have J1:Hid (∀ W,Calls Tp 43 #[I J x,I J 1,I J 3] W fun o w'=>o = rT (bO true)∧W=w'):=fun W=>HIR.out W x 1 3 true (decide_eq_true h1)
   by_cases h2:0≤y∧y≤9999
   ·have J2:Hid (∀ W,Calls Tp 43 #[I J y,I J 0,I J 9999] W fun o w'=>o = rT (bO true)∧W=w'):=fun W=>HIR.out W y 0 9999 true (decide_eq_true h2)
    by_cases h3:0≤z∧z≤st-1
    ·have J3:Hid (∀ W,Calls Tp 43 #[I J z,I J 0,I J (st-1)] W fun o w'=>o = rT (bO true)∧W=w'):=fun W=>HIR.out W z 0 (st-1) true (decide_eq_true h3)
     have HF:Hid (okBx st ⟨x,y,z,e,i,r,d,l⟩↔vB e i r d n=true):=HOK.out.trans ⟨fun h=>h.2.2.2,fun h=>⟨h1,h2,⟨h3.1,by omega⟩,h⟩⟩
     clear h1 h2 h3 HIR HOK HZ;go_enter Tryz.func208,Tryz.ntmps208
     go_wp2_with (first
      | (go_at_call 43;first | (refine (J1.out _).mono ?_;rintro o w1 ⟨rfl,rfl⟩;clear J1) | (refine (J2.out _).mono ?_;rintro o w1 ⟨rfl,rfl⟩;clear J2) | (refine (J3.out _).mono ?_;rintro o w1 ⟨rfl,rfl⟩;clear J3))
      | (go_at_call 112;refine (HV.out _ HA.out).mono ?_;rintro o w1 ⟨rfl,hb1⟩))
     go_ret;exact⟨⟨_,rfl,HF.out.symm⟩,HA.out.trans (hb1.mono HA.out.size)⟩
    ·have J3:Hid (∀ W,Calls Tp 43 #[I J z,I J 0,I J (st-1)] W fun o w'=>o = rT (bO false)∧W=w'):=fun W=>HIR.out W z 0 (st-1) false (decide_eq_false h3)
     have HF:Hid (¬ okBx st ⟨x,y,z,e,i,r,d,l⟩):=fun h=>h3 (by have:=(HOK.out.1 h).2.2.1;omega)
     clear h1 h2 h3 HIR HOK HZ HV;go_enter Tryz.func208,Tryz.ntmps208
     go_wp2_with (first
      | (go_at_call 43;first | (refine (J1.out _).mono ?_;rintro o w1 ⟨rfl,rfl⟩;clear J1) | (refine (J2.out _).mono ?_;rintro o w1 ⟨rfl,rfl⟩;clear J2) | (refine (J3.out _).mono ?_;rintro o w1 ⟨rfl,rfl⟩;clear J3)))
     go_ret;exact⟨⟨false,rfl,by simpa using HF.out⟩,HA.out⟩
   ·have J2:Hid (∀ W,Calls Tp 43 #[I J y,I J 0,I J 9999] W fun o w'=>o = rT (bO false)∧W=w'):=fun W=>HIR.out W y 0 9999 false (decide_eq_false h2)
    have HF:Hid (¬ okBx st ⟨x,y,z,e,i,r,d,l⟩):=fun h=>h2 (HOK.out.1 h).2.1
    clear h1 h2 HIR HOK HZ HV;go_enter Tryz.func208,Tryz.ntmps208
    go_wp2_with (first
     | (go_at_call 43;first | (refine (J1.out _).mono ?_;rintro o w1 ⟨rfl,rfl⟩;clear J1) | (refine (J2.out _).mono ?_;rintro o w1 ⟨rfl,rfl⟩;clear J2)))
    go_ret;exact⟨⟨false,rfl,by simpa using HF.out⟩,HA.out⟩
  ·have J1:Hid (∀ W,Calls Tp 43 #[I J x,I J 1,I J 3] W fun o w'=>o = rT (bO false)∧W=w'):=fun W=>HIR.out W x 1 3 false (decide_eq_false h1)
   have HF:Hid (¬ okBx st ⟨x,y,z,e,i,r,d,l⟩):=fun h=>h1 (HOK.out.1 h).1
   clear h1 HIR HOK HZ HV;go_enter Tryz.func208,Tryz.ntmps208
   go_wp2_with (first
    | (go_at_call 43;refine (J1.out _).mono ?_;rintro o w1 ⟨rfl,rfl⟩;clear J1))
   go_ret;exact⟨⟨false,rfl,by simpa using HF.out⟩,HA.out⟩
variable {w0 W wr:World} {room first P gs C g:Nat} {M L:List R5}
def f5 (b:R5) (ao:Option Addr) (m c:Nat):List Value:=[bO b.e,I .u32 (b.i:Int),bO b.r,I J b.d,sL ao m c]
def f8 (b:R8) (ao:Option Addr) (m c:Nat):List Value:=[I J b.x,I J b.y,I J b.z,bO b.e,I .u32 (b.i:Int),bO b.r,I J b.d,sL ao m c]
def ring5 (w0 W:World) (g room first:Nat) (L:List R5):Prop:=∀ i (h:i<L.length),∃ ao m c,W.rangeAt g ((first+i) % room*5) (f5 L[i] ao m c)∧iB w0 ao m c L[i].l
def ring8 (w0 W:World) (g room first:Nat) (L:List R8):Prop:=∀ i (h:i<L.length),∃ ao m c,W.rangeAt g ((first+i) % room*8) (f8 L[i] ao m c)∧iB w0 ao m c L[i].l
theorem free5_any (W:World) (P:Nat) (a:Option Addr) (n cap:Nat) (first:Int) (count:Nat) (h:blk W P [sL a n cap,I J first,I J (count:Int)] 153) (hc:count≤n) (hn:n≤1048576) :
  Calls Tp 159 #[pT (some ⟨P,0,none⟩)] W fun o w'=>o = rT (I J ((n-count:Nat):Int))∧Below W.heap.size W w':=by
 have y0:=h.cell 0 _ rfl
 have y2:=h.cell 2 _ rfl
 clear h;go_enter Tryz.func159,Tryz.ntmps159
 go_wp2
 go_region
 all_goals
  go_wp2
  go_ret;refine⟨ret_int ?_,(bW _ _).drew⟩
  omega
theorem free8_any (W:World) (P:Nat) (a:Option Addr) (n cap:Nat) (first:Int) (count:Nat) (h:blk W P [sL a n cap,I J first,I J (count:Int)] 155) (hc:count≤n) (hn:n≤1048576) :
  Calls Tp 191 #[pT (some ⟨P,0,none⟩)] W fun o w'=>o = rT (I J ((n-count:Nat):Int))∧Below W.heap.size W w':=by
 have y0:=h.cell 0 _ rfl
 have y2:=h.cell 2 _ rfl
 clear h;go_enter Tryz.func191,Tryz.ntmps191
 go_wp2
 go_region
 all_goals
  go_wp2
  go_ret;refine⟨ret_int ?_,(bW _ _).drew⟩
  omega
theorem ring5.keep {W':World} (h:ring5 w0 W g room first L) (he:W'.heap[g]?=W.heap[g]?):ring5 w0 W' g room first L:=by
 intro i hi;obtain⟨ao,m,c,h1,h2⟩:=h i hi
 exact⟨ao,m,c,fun j v hv=>(cell_same he _).trans (h1 j v hv),h2⟩
theorem ring5.store (h:ring5 w0 W g room first L) (hf:first<room) (hL:L.length<room) (hr:rowZ W g (room*5)) (b:R5) (ao:Option Addr) (m c:Nat) (hb:iB w0 ao m c b.l) :
  ring5 w0 (W.setCells g ((first+L.length) % room*5) (f5 b ao m c)) g room first (L++[b]):=by
 have hz:(first+L.length) % room<room:=Nat.mod_lt _ (by omega)
 have hzz:(first+L.length) % room*5+5≤room*5:=by
  have:((first+L.length) % room+1)*5≤room*5:=Nat.mul_le_mul_right _ hz
  omega
 intro i hi;rw[List.length_append,List.length_singleton] at hi
 by_cases e:i=L.length
 ·subst e;have hge:(L++[b])[L.length]'(by simp)=b:=by simp
  rw[hge]
  refine⟨ao,m,c,?_,hb⟩
  intro j v hv;have hj:j<(f5 b ao m c).length:=(List.getElem?_eq_some_iff.1 hv).1
  have hj':j<5:=hj
  rw[setCells_row,setRow_at g _ W _ j hj (hr.cell _ (by omega)),← (List.getElem?_eq_some_iff.1 hv).2]
 ·have hi':i<L.length:=by omega
  have hge:(L++[b])[i]'(by simp;omega)=L[i]:=List.getElem_append_left hi'
  rw[hge]
  obtain⟨ao',m',c',h1,h2⟩:=h i hi'
  refine⟨ao',m',c',?_,h2⟩
  intro j v hv;have hj:j<5:=(List.getElem?_eq_some_iff.1 hv).1
  have hne:(first+i) % room≠(first+L.length) % room:=by
   intro e2;have h3:(first+L.length-(first+i)) % room=0:=Nat.sub_mod_eq_zero_of_mod_eq e2.symm
   rw[show first+L.length-(first+i)=L.length-i by omega,Nat.mod_eq_of_lt (by omega)] at h3
   omega
  rw[setCells_row,rO g _ W _ _ ?_]
  ·exact h1 j v hv
  ·show _∨_+5≤_
   rcases Nat.lt_or_gt_of_ne hne with h|h
   ·left
    have:((first+i) % room+1)*5≤(first+L.length) % room*5:=Nat.mul_le_mul_right _ h
    omega
   ·right
    have:((first+L.length) % room+1)*5≤(first+i) % room*5:=Nat.mul_le_mul_right _ h
    omega
structure items5 (w0 W:World) (P gs:Nat) (a:Option Addr) (n c:Nat) (its:List R5):Prop where
 len:n=its.length
 cap:n≤c
 cells:its≠[]→∃ g off,a=some ⟨g,off,none⟩∧g≠P∧g≠gs∧g<W.heap.size∧∀ j (h:j<its.length),∃ ao m c',W.rangeAt g (off+j*5) (f5 its[j] ao m c')∧iB w0 ao m c' its[j].l
structure pt5 (w0 W wr:World) (P gs room first:Nat) (M:List R5) (C:Nat):Prop where
 p:blk wr P [sL (some ⟨gs,0,none⟩) room room,I J (first:Int),I J (C:Int)] 153
 z:rowZ wr gs (room*5)
 r:ring5 w0 wr gs room first M
 k:∀ b,b≠P→b≠gs→b<W.heap.size→wr.heap[b]?=W.heap[b]?
 s:W.heap.size≤wr.heap.size
 o:wr.os=W.os∧wr.tape=W.tape∧wr.output=W.output
theorem pt5.below {wr':World} (h:pt5 w0 W wr P gs room first M C) (hg:gs<W.heap.size) (hb:Below wr.heap.size wr wr'):pt5 w0 W wr' P gs room first M C:=
 ⟨h.p.below hb,h.z.below hb (nL hg h.s),h.r.keep (hb.block _ (nL hg h.s)),fun b h1 h2 h3=>(hb.block _ (nL h3 h.s)).trans (h.k b h1 h2 h3),nT h.s hb.size,⟨hb.os.trans h.o.1,hb.tape.trans h.o.2.1,hb.output.trans h.o.2.2⟩⟩
theorem pt5.store (h:pt5 w0 W wr P gs room first M C) (hg:gs≠P) (hf:first<room) (hL:M.length<room) (b:R5) (ao:Option Addr) (m c:Nat) (hb:iB w0 ao m c b.l) :
  pt5 w0 W (wr.setCells gs ((first+M.length) % room*5) (f5 b ao m c)) P gs room first (M++[b]) C:=by
 have hz:(first+M.length) % room<room:=Nat.mod_lt _ (by omega)
 have hzz:(first+M.length) % room*5+5≤room*5:=by
  have:((first+M.length) % room+1)*5≤room*5:=Nat.mul_le_mul_right _ hz
  omega
 refine⟨h.p.other (fun e=>hg e.symm) _ _,by rw[setCells_row];exact h.z.put _ _ hzz,h.r.store hf hL h.z b ao m c hb,fun q h1 h2 h3=>(sO gs q h2 _ _ _).trans (h.k q h1 h2 h3),by rw[sZ];exact h.s,?_⟩
 have hbel:=sW (B:=0) (nZ gs) ((first+M.length) % room*5) (f5 b ao m c) (bW 0 wr)
 exact⟨hbel.os.trans h.o.1,hbel.tape.trans h.o.2.1,hbel.output.trans h.o.2.2⟩
theorem pt5.count (h:pt5 w0 W wr P gs room first M C) (hg:gs≠P) (C':Nat):pt5 w0 W (wr.setCell ⟨P,2,none⟩ (I J (C':Int))) P gs room first M C':=by
 have e:∀ b,b≠P→(wr.setCell ⟨P,2,none⟩ (I J (C':Int))).heap[b]?=wr.heap[b]?:=fun b hb=>heap_setCell_other _ _ _ _ (by exact hb)
 have hbel:Below 0 wr (wr.setCell ⟨P,2,none⟩ (I J (C':Int))):=(bW 0 wr).setCell (nZ _) _
 exact⟨h.p.set 2 _,h.z.up (e gs hg),h.r.keep (e gs hg),fun q h1 h2 h3=>(e q h1).trans (h.k q h1 h2 h3),nT h.s hbel.size,⟨hbel.os.trans h.o.1,hbel.tape.trans h.o.2.1,hbel.output.trans h.o.2.2⟩⟩
theorem put5_any (w0 W:World) (P gs room first:Nat) (L its:List R5) (a:Option Addr) (n c:Nat)
  (hP:blk W P [sL (some ⟨gs,0,none⟩) room room,I J (first:Int),I J (L.length:Int)] 153) (hg:gs≠P) (hrow:rowZ W gs (room*5)) (hgl:gs<W.heap.size) (hring:ring5 w0 W gs room first L)
  (hf:first<room) (hL:L.length≤room) (hroom:room≤1000) (hits:items5 w0 W P gs a n c its) (hn:n≤1048576) (t:Nat) (ht:t=min (room-L.length) n) :
  Calls Tp 161 #[pT (some ⟨P,0,none⟩),sL a n c] W fun o w'=>o = rT (I J (t:Int))∧pt5 w0 W w' P gs room first (L++its.take t) (L.length+t):=by
 have HF:Hid (Calls Tp 159 #[pT (some ⟨P,0,none⟩)] W fun o w'=>o = rT (I J ((room-L.length:Nat):Int))∧Below W.heap.size W w'):=free5_any W P _ room room first L.length hP hL (by omega)
 have HP0:Hid (pt5 w0 W W P gs room first L L.length):=⟨hP,hrow,hring,fun _ _ _ _=>rfl,nR _,⟨rfl,rfl,rfl⟩⟩
 have hcp:=hits.cap
 have hmin:min ((room-L.length:Nat):Int) (n:Int)=(t:Int):=by omega
 have hmax:max (t:Int) 0=(t:Int):=by omega
 have htn:t≤n:=by omega
 have HTR:Hid (L.length+t≤room):=by show _≤_;omega
 have HIT:Hid (items5 w0 W P gs a n c its):=hits
 have HR:Hid (room≤1000∧first<room):=⟨hroom,hf⟩
 have HG:Hid (gs≠P∧gs<W.heap.size):=⟨hg,hgl⟩
 clear hP hrow hgl hring hits ht hroom hL hg;generalize hfr:((room-L.length:Nat):Int)=fr at *;clear hfr;have hna:a=none∨∃ ad,a=some ad:=by cases a <;> simp
 have hall:Hid (∀ ad,a=some ad→ad.spot=none∨True):=fun _ _=>Or.inr trivial
 clear hall;by_cases hnil:its=[]
 ·have ht0:t=0:=by have:=HIT.out.len;rw[hnil] at this;simp at this;omega
  have hn0:n=0:=by have:=HIT.out.len;rw[hnil] at this;simpa using this
  subst ht0;subst hn0;subst hnil;clear HIT;have hmin0:min fr 0=0:=by simpa using hmin
  clear hmin hmax;rcases hna with rfl|⟨ad,rfl⟩
  ·go_enter Tryz.func161,Tryz.ntmps161
   go_wp2_with fail;refine HF.out.mono ?_
   rintro o w1 ⟨rfl,hb1⟩;have H1:Hid (pt5 w0 W w1 P gs room first L L.length):=HP0.out.below HG.out.2 hb1
   clear hb1;go_wp2_with fail;go_loopw [17] (fun i wr=>i = I J 0∧wr=w1) (fun _ _=>0)
   case atStart=>exact⟨rfl,rfl⟩
   case round=>
    obtain⟨rfl,rfl⟩:=hrel
    go_wp2
    go_ret;refine⟨rfl,?_⟩
    simpa using H1.out
  ·go_enter Tryz.func161,Tryz.ntmps161
   go_wp2_with fail;refine HF.out.mono ?_
   rintro o w1 ⟨rfl,hb1⟩;have H1:Hid (pt5 w0 W w1 P gs room first L L.length):=HP0.out.below HG.out.2 hb1
   clear hb1;go_wp2_with fail;go_loopw [17] (fun i wr=>i = I J 0∧wr=w1) (fun _ _=>0)
   case atStart=>exact⟨rfl,rfl⟩
   case round=>
    obtain⟨rfl,rfl⟩:=hrel
    go_wp2
    go_ret;refine⟨rfl,?_⟩
    simpa using H1.out
 ·obtain⟨g,off,rfl,hgP,hggs,hglt,hc⟩:=HIT.out.cells hnil
  have HC:Hid (∀ j (h:j<its.length),∃ ao m c',W.rangeAt g (off+j*5) (f5 its[j] ao m c')∧iB w0 ao m c' its[j].l):=hc
  have HGG:Hid (g≠P∧g≠gs∧g<W.heap.size):=⟨hgP,hggs,hglt⟩
  clear hc hgP hggs hglt hna;go_enter Tryz.func161,Tryz.ntmps161
  go_wp2_with fail;refine HF.out.mono ?_
  rintro o w1 ⟨rfl,hb1⟩;have H1:Hid (pt5 w0 W w1 P gs room first L L.length):=HP0.out.below HG.out.2 hb1
  clear hb1 HF;go_wp2_with fail;clear hmin hmax;go_loopw [17] (fun i wr=>∃ k:Nat,k≤t∧i = I J (k:Int)∧pt5 w0 W wr P gs room first (L++its.take k) (L.length+k)) (fun i _=>t-(intOf i).toNat)
  case atStart=>exact⟨0,nZ _,rfl,by simpa using H1.out⟩
  case round=>
   obtain⟨k,hk,rfl,hp⟩:=hrel
   have HPT:Hid (pt5 w0 W wr P gs room first (L++its.take k) (L.length+k)):=hp
   clear hp;by_cases hlt:k<t
   ·have hkl:k<its.length:=by have:=HIT.out.len;omega
    obtain⟨ao,m,c',hx1,hx2⟩:=HC.out k hkl
    have hge:wr.heap[g]?=W.heap[g]?:=HPT.out.k g HGG.out.1 HGG.out.2.1 HGG.out.2.2
    have hx1':wr.rangeAt g (off+k*5) (f5 its[k] ao m c'):=fun j v hv=>(cell_same hge _).trans (hx1 j v hv)
    have hML:(L++its.take k).length=L.length+k:=by rw[List.length_append,List.length_take];omega
    have HST:Hid (∀ X C,pt5 w0 W X P gs room first (L++its.take k) C→pt5 w0 W (X.setCells gs ((first+(L.length+k)) % room*5) (f5 its[k] ao m c')) P gs room first (L++its.take (k+1)) C):=by
     intro X C hX;have:=hX.store HG.out.1 HR.out.2 (by rw[hML];have:=HTR.out;omega) its[k] ao m c' hx2
     rw[hML,List.append_assoc,← List.take_succ_eq_append_getElem hkl] at this
     exact this
    obtain⟨b,hb⟩ : ∃ b,its[k]=b:=⟨_,rfl⟩
    rw[hb] at hx1' HST
    obtain⟨e,i,r,d,l⟩:=b
    have HRG:Hid (wr.rangeAt g (off+k*5) [bO e,I .u32 (i:Int),bO r,I J d,sL ao m c']):=hx1'
    have HP3:Hid (blk (wr.alloc (.cells #[bO e,I .u32 (i:Int),bO r,I J d,sL ao m c'] 55)) P [sL (some ⟨gs,0,none⟩) room room,I J (first:Int),I J ((L.length+k:Nat):Int)] 153∧blk (wr.alloc (.cells #[bO e,I .u32 (i:Int),bO r,I J d,sL ao m c'] 55)) wr.heap.size [bO e,I .u32 (i:Int),bO r,I J d,sL ao m c'] 55):=⟨HPT.out.p.alloc _,blk.new wr _ 55⟩
    have HT3:Hid (pt5 w0 W (wr.alloc (.cells #[bO e,I .u32 (i:Int),bO r,I J d,sL ao m c'] 55)) P gs room first (L++its.take k) (L.length+k)):=HPT.out.below HG.out.2 ((bW _ _).alloc (nR _) _)
    have hmod:Int.tmod ((first:Int)+((L.length+k:Nat):Int)) (room:Int)=(((first+(L.length+k)) % room:Nat):Int):=by
     rw[← Int.natCast_add];exact Int.ofNat_tmod _ _
    have hzr:(first+(L.length+k)) % room<room:=Nat.mod_lt _ (by have:=HR.out;omega)
    have hZN:(first+(L.length+k)) % room*5+5≤room*5:=by
     have:((first+(L.length+k)) % room+1)*5≤room*5:=Nat.mul_le_mul_right _ hzr
     omega
    have hroom0:¬ (room:Int)=0:=by have:=HR.out;omega
    have hC1:L.length+k+1=L.length+(k+1):=by omega
    have HC1:Hid (L.length+k+1=L.length+(k+1)):=hC1
    have hr1:=HR.out.1
    have hf1:=HR.out.2
    have hC2:=HTR.out
    have hCr:L.length+k≤1000:=by omega
    clear hx1 hx2 hge hx1' hML hb hC1 hC2;generalize hCC:L.length+k=C at *;clear hCC;generalize hZZ:(first+C) % room=Z at *;clear hZZ;go_wp2_with (first
     | (refine lq55 HRG.out ?_))
    have HZT:Hid (World.there (World.drew (wr.alloc (.cells #[bO e,I .u32 (i:Int),bO r,I J d,sL ao m c'] 55))) gs (Z*5) 5):=HT3.out.z.there (Z*5) 5 hZN
    clear hZN HRG;have hPBg:wr.heap.size≠gs:=by have:=HG.out.2;have:=HPT.out.s;omega
    have HPG:Hid (wr.heap.size≠gs):=hPBg
    clear hPBg;generalize hPB:wr.heap.size=PB at *;clear hPB;generalize hW3:wr.alloc (.cells #[bO e,I .u32 (i:Int),bO r,I J d,sL ao m c'] 55)=W3 at *;clear hW3 HPT;refine wp_region_held (S:=(fun X=>X.cell? ⟨P,0,none⟩=some (sL (some ⟨gs,0,none⟩) room room)∧X.cell? ⟨P,1,none⟩=some (I J (first:Int))∧X.cell? ⟨P,2,none⟩=some (I J (C:Int))∧X.rangeAt PB 0 [bO e,I .u32 (i:Int),bO r,I J d,sL ao m c'])) (by kernel_rfl) ?_
    have hS:(fun X=>X.cell? ⟨P,0,none⟩=some (sL (some ⟨gs,0,none⟩) room room)∧X.cell? ⟨P,1,none⟩=some (I J (first:Int))∧X.cell? ⟨P,2,none⟩=some (I J (C:Int))∧X.rangeAt PB 0 [bO e,I .u32 (i:Int),bO r,I J d,sL ao m c']) (World.drew W3):=⟨(HP3.out.1.cell 0 _ rfl),(HP3.out.1.cell 1 _ rfl),(HP3.out.1.cell 2 _ rfl),HP3.out.2.load⟩
    simp only[] at hS
    refine tk 0 ?_
    refine tk 1 ?_
    refine tk 2 ?_
    refine tk 3 ?_
    refine tk 4 ?_
    refine tk 5 ?_
    refine tk 6 ?_
    refine tk 7 ?_
    refine tk 8 ?_
    refine tk 9 ?_
    refine tk 10 ?_
    refine tk 11 ?_
    refine wV 12 (I J ((first:Int)+(C:Int))) ?_ hS ?_
    ·intro X hSw;clear hS;go_simp;rw[IntKind.wrap_i64];omega
    simp only[aZ];refine tk 13 ?_
    refine tk 14 ?_
    refine tk 15 ?_
    refine tk 16 ?_
    refine tk 17 ?_
    refine wV 18 (I J (Z:Int)) ?_ hS ?_
    ·intro X hSw;clear hS;go_simp;omega
    simp only[aZ];refine wU 19 (aG #[bO e,I .u32 (i:Int),bO r,I J d,sL ao m c']) rfl (yieldsIf_load_mid (by rfl) 55 (.tmp 7) rfl PB 0 rfl [bO e,I .u32 (i:Int),bO r,I J d,sL ao m c'] _ (fun X h=>h.2.2.2) Tryz.underlying55 rfl sz93) hS ?_
    simp only[aZ];refine tk 20 ?_
    refine al 21 fun K hK=>?_
    rw[if_pos (by rfl)]
    refine wp_store_mid 55 (.tmp 41) (.tmp 40) rfl gs (Z*5) _ rfl rfl HZT.out sz93 (one5 _ _ _ _ _ _ _) ?_
    simp only[Act.put,aD,aE,aF]
    have HT4:Hid (pt5 w0 W (World.setCells (World.drew W3) gs (Z*5) [bO e,I .u32 (i:Int),bO r,I J d,sL ao m c']) P gs room first (L++its.take (k+1)) C):=HST.out _ _ (HT3.out.below HG.out.2 (bW _ _).drew)
    have HP4:Hid (blk (World.setCells (World.drew W3) gs (Z*5) [bO e,I .u32 (i:Int),bO r,I J d,sL ao m c']) PB [bO e,I .u32 (i:Int),bO r,I J d,sL ao m c'] 55):=(show blk (World.drew W3) PB [bO e,I .u32 (i:Int),bO r,I J d,sL ao m c'] 55 from HP3.out.2).other HPG.out _ _
    refine hK.out _ (World.setCells (World.drew W3) gs (Z*5) [bO e,I .u32 (i:Int),bO r,I J d,sL ao m c']) ⟨HT4.out.p.cell 0 _ rfl,HT4.out.p.cell 1 _ rfl,HT4.out.p.cell 2 _ rfl,HP4.out.load⟩ (fun hS2=>?_)
    clear hS hK K;refine wpAnyH_done (by kernel_rfl) ?_ _
    clear hS2 hmod;generalize hW5:World.setCells (World.drew W3) gs (Z*5) _=w5
    have HT5:Hid (pt5 w0 W w5 P gs room first (L++its.take (k+1)) C):=(hW5 ▸ HT4.out)
    clear hW5 HT4 HP4;have z2:=HT5.out.p.cell 2 _ rfl
    have z2f:=HT5.out.p.free 2
    go_wp2
    go_roundw
    case rel=>
     refine⟨k+1,by omega,by go_num,?_⟩
     rw[← HC1.out]
     exact HT5.out.count HG.out.1 (C+1)
    case measure=>simp[intOf];omega
   ·have hkt:k=t:=by omega
    subst hkt;go_wp2
    go_ret;exact⟨rfl,HPT.out⟩
variable {w0 W wr:World} {room first P gs C g:Nat} {M L:List R8}
theorem ring8.keep {W':World} (h:ring8 w0 W g room first L) (he:W'.heap[g]?=W.heap[g]?):ring8 w0 W' g room first L:=by
 intro i hi;obtain⟨ao,m,c,h1,h2⟩:=h i hi
 exact⟨ao,m,c,fun j v hv=>(cell_same he _).trans (h1 j v hv),h2⟩
theorem ring8.store (h:ring8 w0 W g room first L) (hf:first<room) (hL:L.length<room) (hr:rowZ W g (room*8)) (b:R8) (ao:Option Addr) (m c:Nat) (hb:iB w0 ao m c b.l) :
  ring8 w0 (W.setCells g ((first+L.length) % room*8) (f8 b ao m c)) g room first (L++[b]):=by
 have hz:(first+L.length) % room<room:=Nat.mod_lt _ (by omega)
 have hzz:(first+L.length) % room*8+8≤room*8:=by
  have:((first+L.length) % room+1)*8≤room*8:=Nat.mul_le_mul_right _ hz
  omega
 intro i hi;rw[List.length_append,List.length_singleton] at hi
 by_cases e:i=L.length
 ·subst e;have hge:(L++[b])[L.length]'(by simp)=b:=by simp
  rw[hge]
  refine⟨ao,m,c,?_,hb⟩
  intro j v hv;have hj:j<(f8 b ao m c).length:=(List.getElem?_eq_some_iff.1 hv).1
  have hj':j<8:=hj
  rw[setCells_row,setRow_at g _ W _ j hj (hr.cell _ (by omega)),← (List.getElem?_eq_some_iff.1 hv).2]
 ·have hi':i<L.length:=by omega
  have hge:(L++[b])[i]'(by simp;omega)=L[i]:=List.getElem_append_left hi'
  rw[hge]
  obtain⟨ao',m',c',h1,h2⟩:=h i hi'
  refine⟨ao',m',c',?_,h2⟩
  intro j v hv;have hj:j<8:=(List.getElem?_eq_some_iff.1 hv).1
  have hne:(first+i) % room≠(first+L.length) % room:=by
   intro e2;have h3:(first+L.length-(first+i)) % room=0:=Nat.sub_mod_eq_zero_of_mod_eq e2.symm
   rw[show first+L.length-(first+i)=L.length-i by omega,Nat.mod_eq_of_lt (by omega)] at h3
   omega
  rw[setCells_row,rO g _ W _ _ ?_]
  ·exact h1 j v hv
  ·show _∨_+8≤_
   rcases Nat.lt_or_gt_of_ne hne with h|h
   ·left
    have:((first+i) % room+1)*8≤(first+L.length) % room*8:=Nat.mul_le_mul_right _ h
    omega
   ·right
    have:((first+L.length) % room+1)*8≤(first+i) % room*8:=Nat.mul_le_mul_right _ h
    omega
structure items8 (w0 W:World) (P gs:Nat) (a:Option Addr) (n c:Nat) (its:List R8):Prop where
 len:n=its.length
 cap:n≤c
 cells:its≠[]→∃ g off,a=some ⟨g,off,none⟩∧g≠P∧g≠gs∧g<W.heap.size∧∀ j (h:j<its.length),∃ ao m c',W.rangeAt g (off+j*8) (f8 its[j] ao m c')∧iB w0 ao m c' its[j].l
structure pt8 (w0 W wr:World) (P gs room first:Nat) (M:List R8) (C:Nat):Prop where
 p:blk wr P [sL (some ⟨gs,0,none⟩) room room,I J (first:Int),I J (C:Int)] 155
 z:rowZ wr gs (room*8)
 r:ring8 w0 wr gs room first M
 k:∀ b,b≠P→b≠gs→b<W.heap.size→wr.heap[b]?=W.heap[b]?
 s:W.heap.size≤wr.heap.size
 o:wr.os=W.os∧wr.tape=W.tape∧wr.output=W.output
theorem pt8.below {wr':World} (h:pt8 w0 W wr P gs room first M C) (hg:gs<W.heap.size) (hb:Below wr.heap.size wr wr'):pt8 w0 W wr' P gs room first M C:=
 ⟨h.p.below hb,h.z.below hb (nL hg h.s),h.r.keep (hb.block _ (nL hg h.s)),fun b h1 h2 h3=>(hb.block _ (nL h3 h.s)).trans (h.k b h1 h2 h3),nT h.s hb.size,⟨hb.os.trans h.o.1,hb.tape.trans h.o.2.1,hb.output.trans h.o.2.2⟩⟩
theorem pt8.store (h:pt8 w0 W wr P gs room first M C) (hg:gs≠P) (hf:first<room) (hL:M.length<room) (b:R8) (ao:Option Addr) (m c:Nat) (hb:iB w0 ao m c b.l) :
  pt8 w0 W (wr.setCells gs ((first+M.length) % room*8) (f8 b ao m c)) P gs room first (M++[b]) C:=by
 have hz:(first+M.length) % room<room:=Nat.mod_lt _ (by omega)
 have hzz:(first+M.length) % room*8+8≤room*8:=by
  have:((first+M.length) % room+1)*8≤room*8:=Nat.mul_le_mul_right _ hz
  omega
 refine⟨h.p.other (fun e=>hg e.symm) _ _,by rw[setCells_row];exact h.z.put _ _ hzz,h.r.store hf hL h.z b ao m c hb,fun q h1 h2 h3=>(sO gs q h2 _ _ _).trans (h.k q h1 h2 h3),by rw[sZ];exact h.s,?_⟩
 have hbel:=sW (B:=0) (nZ gs) ((first+M.length) % room*8) (f8 b ao m c) (bW 0 wr)
 exact⟨hbel.os.trans h.o.1,hbel.tape.trans h.o.2.1,hbel.output.trans h.o.2.2⟩
theorem pt8.count (h:pt8 w0 W wr P gs room first M C) (hg:gs≠P) (C':Nat):pt8 w0 W (wr.setCell ⟨P,2,none⟩ (I J (C':Int))) P gs room first M C':=by
 have e:∀ b,b≠P→(wr.setCell ⟨P,2,none⟩ (I J (C':Int))).heap[b]?=wr.heap[b]?:=fun b hb=>heap_setCell_other _ _ _ _ (by exact hb)
 have hbel:Below 0 wr (wr.setCell ⟨P,2,none⟩ (I J (C':Int))):=(bW 0 wr).setCell (nZ _) _
 exact⟨h.p.set 2 _,h.z.up (e gs hg),h.r.keep (e gs hg),fun q h1 h2 h3=>(e q h1).trans (h.k q h1 h2 h3),nT h.s hbel.size,⟨hbel.os.trans h.o.1,hbel.tape.trans h.o.2.1,hbel.output.trans h.o.2.2⟩⟩
theorem put8_any (w0 W:World) (P gs room first:Nat) (L its:List R8) (a:Option Addr) (n c:Nat)
  (hP:blk W P [sL (some ⟨gs,0,none⟩) room room,I J (first:Int),I J (L.length:Int)] 155) (hg:gs≠P) (hrow:rowZ W gs (room*8)) (hgl:gs<W.heap.size) (hring:ring8 w0 W gs room first L)
  (hf:first<room) (hL:L.length≤room) (hroom:room≤1000) (hits:items8 w0 W P gs a n c its) (hn:n≤1048576) (t:Nat) (ht:t=min (room-L.length) n) :
  Calls Tp 146 #[pT (some ⟨P,0,none⟩),sL a n c] W fun o w'=>o = rT (I J (t:Int))∧pt8 w0 W w' P gs room first (L++its.take t) (L.length+t):=by
 have HF:Hid (Calls Tp 191 #[pT (some ⟨P,0,none⟩)] W fun o w'=>o = rT (I J ((room-L.length:Nat):Int))∧Below W.heap.size W w'):=free8_any W P _ room room first L.length hP hL (by omega)
 have HP0:Hid (pt8 w0 W W P gs room first L L.length):=⟨hP,hrow,hring,fun _ _ _ _=>rfl,nR _,⟨rfl,rfl,rfl⟩⟩
 have hcp:=hits.cap
 have hmin:min ((room-L.length:Nat):Int) (n:Int)=(t:Int):=by omega
 have hmax:max (t:Int) 0=(t:Int):=by omega
 have htn:t≤n:=by omega
 have HTR:Hid (L.length+t≤room):=by show _≤_;omega
 have HIT:Hid (items8 w0 W P gs a n c its):=hits
 have HR:Hid (room≤1000∧first<room):=⟨hroom,hf⟩
 have HG:Hid (gs≠P∧gs<W.heap.size):=⟨hg,hgl⟩
 clear hP hrow hgl hring hits ht hroom hL hg;generalize hfr:((room-L.length:Nat):Int)=fr at *;clear hfr;have hna:a=none∨∃ ad,a=some ad:=by cases a <;> simp
 have hall:Hid (∀ ad,a=some ad→ad.spot=none∨True):=fun _ _=>Or.inr trivial
 clear hall;by_cases hnil:its=[]
 ·have ht0:t=0:=by have:=HIT.out.len;rw[hnil] at this;simp at this;omega
  have hn0:n=0:=by have:=HIT.out.len;rw[hnil] at this;simpa using this
  subst ht0;subst hn0;subst hnil;clear HIT;have hmin0:min fr 0=0:=by simpa using hmin
  clear hmin hmax;rcases hna with rfl|⟨ad,rfl⟩
  ·go_enter Tryz.func146,Tryz.ntmps146
   go_wp2_with fail;refine HF.out.mono ?_
   rintro o w1 ⟨rfl,hb1⟩;have H1:Hid (pt8 w0 W w1 P gs room first L L.length):=HP0.out.below HG.out.2 hb1
   clear hb1;go_wp2_with fail;go_loopw [17] (fun i wr=>i = I J 0∧wr=w1) (fun _ _=>0)
   case atStart=>exact⟨rfl,rfl⟩
   case round=>
    obtain⟨rfl,rfl⟩:=hrel
    go_wp2
    go_ret;refine⟨rfl,?_⟩
    simpa using H1.out
  ·go_enter Tryz.func146,Tryz.ntmps146
   go_wp2_with fail;refine HF.out.mono ?_
   rintro o w1 ⟨rfl,hb1⟩;have H1:Hid (pt8 w0 W w1 P gs room first L L.length):=HP0.out.below HG.out.2 hb1
   clear hb1;go_wp2_with fail;go_loopw [17] (fun i wr=>i = I J 0∧wr=w1) (fun _ _=>0)
   case atStart=>exact⟨rfl,rfl⟩
   case round=>
    obtain⟨rfl,rfl⟩:=hrel
    go_wp2
    go_ret;refine⟨rfl,?_⟩
    simpa using H1.out
 ·obtain⟨g,off,rfl,hgP,hggs,hglt,hc⟩:=HIT.out.cells hnil
  have HC:Hid (∀ j (h:j<its.length),∃ ao m c',W.rangeAt g (off+j*8) (f8 its[j] ao m c')∧iB w0 ao m c' its[j].l):=hc
  have HGG:Hid (g≠P∧g≠gs∧g<W.heap.size):=⟨hgP,hggs,hglt⟩
  clear hc hgP hggs hglt hna;go_enter Tryz.func146,Tryz.ntmps146
  go_wp2_with fail;refine HF.out.mono ?_
  rintro o w1 ⟨rfl,hb1⟩;have H1:Hid (pt8 w0 W w1 P gs room first L L.length):=HP0.out.below HG.out.2 hb1
  clear hb1 HF;go_wp2_with fail;clear hmin hmax;go_loopw [17] (fun i wr=>∃ k:Nat,k≤t∧i = I J (k:Int)∧pt8 w0 W wr P gs room first (L++its.take k) (L.length+k)) (fun i _=>t-(intOf i).toNat)
  case atStart=>exact⟨0,nZ _,rfl,by simpa using H1.out⟩
  case round=>
   obtain⟨k,hk,rfl,hp⟩:=hrel
   have HPT:Hid (pt8 w0 W wr P gs room first (L++its.take k) (L.length+k)):=hp
   clear hp;by_cases hlt:k<t
   ·have hkl:k<its.length:=by have:=HIT.out.len;omega
    obtain⟨ao,m,c',hx1,hx2⟩:=HC.out k hkl
    have hge:wr.heap[g]?=W.heap[g]?:=HPT.out.k g HGG.out.1 HGG.out.2.1 HGG.out.2.2
    have hx1':wr.rangeAt g (off+k*8) (f8 its[k] ao m c'):=fun j v hv=>(cell_same hge _).trans (hx1 j v hv)
    have hML:(L++its.take k).length=L.length+k:=by rw[List.length_append,List.length_take];omega
    have HST:Hid (∀ X C,pt8 w0 W X P gs room first (L++its.take k) C→pt8 w0 W (X.setCells gs ((first+(L.length+k)) % room*8) (f8 its[k] ao m c')) P gs room first (L++its.take (k+1)) C):=by
     intro X C hX;have:=hX.store HG.out.1 HR.out.2 (by rw[hML];have:=HTR.out;omega) its[k] ao m c' hx2
     rw[hML,List.append_assoc,← List.take_succ_eq_append_getElem hkl] at this
     exact this
    obtain⟨b,hb⟩ : ∃ b,its[k]=b:=⟨_,rfl⟩
    rw[hb] at hx1' HST
    obtain⟨x,y,z,e,i,r,d,l⟩:=b
    have HRG:Hid (wr.rangeAt g (off+k*8) [I J x,I J y,I J z,bO e,I .u32 (i:Int),bO r,I J d,sL ao m c']):=hx1'
    have HP3:Hid (blk (wr.alloc (.cells #[I J x,I J y,I J z,bO e,I .u32 (i:Int),bO r,I J d,sL ao m c'] 67)) P [sL (some ⟨gs,0,none⟩) room room,I J (first:Int),I J ((L.length+k:Nat):Int)] 155∧blk (wr.alloc (.cells #[I J x,I J y,I J z,bO e,I .u32 (i:Int),bO r,I J d,sL ao m c'] 67)) wr.heap.size [I J x,I J y,I J z,bO e,I .u32 (i:Int),bO r,I J d,sL ao m c'] 67):=⟨HPT.out.p.alloc _,blk.new wr _ 67⟩
    have HT3:Hid (pt8 w0 W (wr.alloc (.cells #[I J x,I J y,I J z,bO e,I .u32 (i:Int),bO r,I J d,sL ao m c'] 67)) P gs room first (L++its.take k) (L.length+k)):=HPT.out.below HG.out.2 ((bW _ _).alloc (nR _) _)
    have hmod:Int.tmod ((first:Int)+((L.length+k:Nat):Int)) (room:Int)=(((first+(L.length+k)) % room:Nat):Int):=by
     rw[← Int.natCast_add];exact Int.ofNat_tmod _ _
    have hzr:(first+(L.length+k)) % room<room:=Nat.mod_lt _ (by have:=HR.out;omega)
    have hZN:(first+(L.length+k)) % room*8+8≤room*8:=by
     have:((first+(L.length+k)) % room+1)*8≤room*8:=Nat.mul_le_mul_right _ hzr
     omega
    have hroom0:¬ (room:Int)=0:=by have:=HR.out;omega
    have hC1:L.length+k+1=L.length+(k+1):=by omega
    have HC1:Hid (L.length+k+1=L.length+(k+1)):=hC1
    have hr1:=HR.out.1
    have hf1:=HR.out.2
    have hC2:=HTR.out
    have hCr:L.length+k≤1000:=by omega
    clear hx1 hx2 hge hx1' hML hb hC1 hC2;generalize hCC:L.length+k=C at *;clear hCC;generalize hZZ:(first+C) % room=Z at *;clear hZZ;go_wp2_with (first
     | (refine lq67 HRG.out ?_))
    have HZT:Hid (World.there (World.drew (wr.alloc (.cells #[I J x,I J y,I J z,bO e,I .u32 (i:Int),bO r,I J d,sL ao m c'] 67))) gs (Z*8) 8):=HT3.out.z.there (Z*8) 8 hZN
    clear hZN HRG;have hPBg:wr.heap.size≠gs:=by have:=HG.out.2;have:=HPT.out.s;omega
    have HPG:Hid (wr.heap.size≠gs):=hPBg
    clear hPBg;generalize hPB:wr.heap.size=PB at *;clear hPB;generalize hW3:wr.alloc (.cells #[I J x,I J y,I J z,bO e,I .u32 (i:Int),bO r,I J d,sL ao m c'] 67)=W3 at *;clear hW3 HPT;refine wp_region_held (S:=(fun X=>X.cell? ⟨P,0,none⟩=some (sL (some ⟨gs,0,none⟩) room room)∧X.cell? ⟨P,1,none⟩=some (I J (first:Int))∧X.cell? ⟨P,2,none⟩=some (I J (C:Int))∧X.rangeAt PB 0 [I J x,I J y,I J z,bO e,I .u32 (i:Int),bO r,I J d,sL ao m c'])) (by kernel_rfl) ?_
    have hS:(fun X=>X.cell? ⟨P,0,none⟩=some (sL (some ⟨gs,0,none⟩) room room)∧X.cell? ⟨P,1,none⟩=some (I J (first:Int))∧X.cell? ⟨P,2,none⟩=some (I J (C:Int))∧X.rangeAt PB 0 [I J x,I J y,I J z,bO e,I .u32 (i:Int),bO r,I J d,sL ao m c']) (World.drew W3):=⟨(HP3.out.1.cell 0 _ rfl),(HP3.out.1.cell 1 _ rfl),(HP3.out.1.cell 2 _ rfl),HP3.out.2.load⟩
    simp only[] at hS
    refine tk 0 ?_
    refine tk 1 ?_
    refine tk 2 ?_
    refine tk 3 ?_
    refine tk 4 ?_
    refine tk 5 ?_
    refine tk 6 ?_
    refine tk 7 ?_
    refine tk 8 ?_
    refine tk 9 ?_
    refine tk 10 ?_
    refine tk 11 ?_
    refine wV 12 (I J ((first:Int)+(C:Int))) ?_ hS ?_
    ·intro X hSw;clear hS;go_simp;rw[IntKind.wrap_i64];omega
    simp only[aZ];refine tk 13 ?_
    refine tk 14 ?_
    refine tk 15 ?_
    refine tk 16 ?_
    refine tk 17 ?_
    refine wV 18 (I J (Z:Int)) ?_ hS ?_
    ·intro X hSw;clear hS;go_simp;omega
    simp only[aZ];refine wU 19 (aG #[I J x,I J y,I J z,bO e,I .u32 (i:Int),bO r,I J d,sL ao m c']) rfl (yieldsIf_load_mid (by rfl) 67 (.tmp 7) rfl PB 0 rfl [I J x,I J y,I J z,bO e,I .u32 (i:Int),bO r,I J d,sL ao m c'] _ (fun X h=>h.2.2.2) Tryz.underlying67 rfl sz129) hS ?_
    simp only[aZ];refine tk 20 ?_
    refine al 21 fun K hK=>?_
    rw[if_pos (by rfl)]
    refine wp_store_mid 67 (.tmp 41) (.tmp 40) rfl gs (Z*8) _ rfl rfl HZT.out sz129 (one8 _ _ _ _ _ _ _ _ _ _) ?_
    simp only[Act.put,aD,aE,aF]
    have HT4:Hid (pt8 w0 W (World.setCells (World.drew W3) gs (Z*8) [I J x,I J y,I J z,bO e,I .u32 (i:Int),bO r,I J d,sL ao m c']) P gs room first (L++its.take (k+1)) C):=HST.out _ _ (HT3.out.below HG.out.2 (bW _ _).drew)
    have HP4:Hid (blk (World.setCells (World.drew W3) gs (Z*8) [I J x,I J y,I J z,bO e,I .u32 (i:Int),bO r,I J d,sL ao m c']) PB [I J x,I J y,I J z,bO e,I .u32 (i:Int),bO r,I J d,sL ao m c'] 67):=(show blk (World.drew W3) PB [I J x,I J y,I J z,bO e,I .u32 (i:Int),bO r,I J d,sL ao m c'] 67 from HP3.out.2).other HPG.out _ _
    refine hK.out _ (World.setCells (World.drew W3) gs (Z*8) [I J x,I J y,I J z,bO e,I .u32 (i:Int),bO r,I J d,sL ao m c']) ⟨HT4.out.p.cell 0 _ rfl,HT4.out.p.cell 1 _ rfl,HT4.out.p.cell 2 _ rfl,HP4.out.load⟩ (fun hS2=>?_)
    clear hS hK K;refine wpAnyH_done (by kernel_rfl) ?_ _
    clear hS2 hmod;generalize hW5:World.setCells (World.drew W3) gs (Z*8) _=w5
    have HT5:Hid (pt8 w0 W w5 P gs room first (L++its.take (k+1)) C):=(hW5 ▸ HT4.out)
    clear hW5 HT4 HP4;have z2:=HT5.out.p.cell 2 _ rfl
    have z2f:=HT5.out.p.free 2
    go_wp2
    go_roundw
    case rel=>
     refine⟨k+1,by omega,by go_num,?_⟩
     rw[← HC1.out]
     exact HT5.out.count HG.out.1 (C+1)
    case measure=>simp[intOf];omega
   ·have hkt:k=t:=by omega
    subst hkt;go_wp2
    go_ret;exact⟨rfl,HPT.out⟩
theorem isLevel_any (w:World) (v:Int):Calls Tp 56 #[I J v] w fun o w'=>o = rT (bO (decide (v=0∨v=1)))∧w=w':=by
 by_cases h0:v=0
 ·subst h0;go_enter Tryz.func56,Tryz.ntmps56
  go_wp2
  go_ret;exact⟨by simp,rfl⟩
 ·have d0:(v == 0)=false:=by simpa using h0
  by_cases h1:v=1
  ·subst h1;go_enter Tryz.func56,Tryz.ntmps56
   go_wp2
   go_ret;exact⟨by simp,rfl⟩
  ·have d1:(v == 1)=false:=by simpa using h1
   go_enter Tryz.func56,Tryz.ntmps56
   go_wp2
   go_ret;exact⟨by simp[h0,h1],rfl⟩
def vmB (C:Co):Bool:=!(!decide (C.lv=0∨C.lv=1) || ((C.lv == 1) && !((C.p == 2) && C.wk && decide (0<C.ct)))) && !(C.wk && (!(C.p == 2) || C.ov)) && !(C.ov && !(C.p == 2) && !(C.p == 3) && !(C.p == 4)) && !(C.ow && !(C.wk && C.tx)) && !(C.tx && ((C.p == 0) || (C.p == 7))) && !(!C.tx && (C.p == 6)) && (!C.ak || (C.p == 7))
theorem j1 (l p c:Int) (wk:Bool):(!decide (l=0∨l=1) || (l == 1 && !(p == 2 && wk && decide (0<c))))=false↔((0≤l∧l≤1)∧(l=1→p=2∧wk=true∧0<c)):=by
 rw[Bool.or_eq_false_iff,k4]
 refine and_congr ?_ Iff.rfl
 simp
 omega
theorem j5 (p:Int) (tx:Bool):(tx && (p == 0 || p == 7))=false↔(tx=true→p≠7∧p≠0):=by rw[Bool.or_comm];exact k8 p tx
theorem j6 (p:Int) (tx:Bool):(!tx && p == 6)=false↔(p=6→tx=true):=by rw[Bool.and_comm];exact k9 p tx
theorem j7 (p:Int) (ak:Bool):(!ak || p == 7)=true↔(ak=true→p=7):=by cases ak <;> simp
theorem vmG (w:World) (C:Co) (s:Sl):Calls Tp 142 #[aG (coL C s).toArray] w fun o w'=>retB o (vmB C=true)∧Below w.heap.size w w':=by
 obtain⟨X,HX⟩ : ∃ X:Prop,Hid (X↔(vmB C=true)):=⟨_,Iff.rfl⟩
 rw[← HX.out]
 have H1:Hid (ctS w w.heap.size C s (w.alloc (.cells (coL C s).toArray 41))):=ctS.new w C s
 have HIL:Hid (∀ W,Calls Tp 56 #[I J C.lv] W fun o w'=>o = rT (bO (decide (C.lv=0∨C.lv=1)))∧W=w'):=fun W=>isLevel_any W C.lv
 have HB:Hid (vmB C=(!(!decide (C.lv=0∨C.lv=1) || ((C.lv == 1) && !((C.p == 2) && C.wk && decide (0<C.ct)))) && !(C.wk && (!(C.p == 2) || C.ov)) && !(C.ov && !(C.p == 2) && !(C.p == 3) && !(C.p == 4)) && !(C.ow && !(C.wk && C.tx)) && !(C.tx && ((C.p == 0) || (C.p == 7))) && !(!C.tx && (C.p == 6)) && (!C.ak || (C.p == 7)))):=rfl
 obtain⟨lk,elk⟩ : ∃ b:Bool,decide (C.lv=0∨C.lv=1)=b:=⟨_,rfl⟩
 obtain⟨l1,el1,nl1⟩ : ∃ b:Bool,(C.lv == 1)=b∧(C.lv != 1) = !b:=⟨_,rfl,rfl⟩
 obtain⟨p2,ep2,np2⟩ : ∃ b:Bool,(C.p == 2)=b∧(C.p != 2) = !b:=⟨_,rfl,rfl⟩
 obtain⟨cp,ecp⟩ : ∃ b:Bool,decide (0<C.ct)=b:=⟨_,rfl⟩
 obtain⟨p3,ep3,np3⟩ : ∃ b:Bool,(C.p == 3)=b∧(C.p != 3) = !b:=⟨_,rfl,rfl⟩
 obtain⟨p4,ep4,np4⟩ : ∃ b:Bool,(C.p == 4)=b∧(C.p != 4) = !b:=⟨_,rfl,rfl⟩
 obtain⟨pz,epz,npz⟩ : ∃ b:Bool,(C.p == 0)=b∧(C.p != 0) = !b:=⟨_,rfl,rfl⟩
 obtain⟨p7,ep7,np7⟩ : ∃ b:Bool,(C.p == 7)=b∧(C.p != 7) = !b:=⟨_,rfl,rfl⟩
 obtain⟨p6,ep6,np6⟩ : ∃ b:Bool,(C.p == 6)=b∧(C.p != 6) = !b:=⟨_,rfl,rfl⟩
 obtain⟨wk,ewk⟩ : ∃ b:Bool,C.wk=b:=⟨_,rfl⟩
 obtain⟨ov,eov⟩ : ∃ b:Bool,C.ov=b:=⟨_,rfl⟩
 obtain⟨ow,eow⟩ : ∃ b:Bool,C.ow=b:=⟨_,rfl⟩
 obtain⟨tx,etx⟩ : ∃ b:Bool,C.tx=b:=⟨_,rfl⟩
 obtain⟨ak,eak⟩ : ∃ b:Bool,C.ak=b:=⟨_,rfl⟩
 rw[elk,el1,ep2,ecp,ep3,ep4,epz,ep7,ep6,ewk,eov,eow,etx,eak] at HB
 rw[elk] at HIL
 have y0:=H1.out.p.cell 0 (I J C.p) rfl
 have y1:=H1.out.p.cell 1 (I J C.ct) rfl
 have y2:=H1.out.p.cell 2 (I J C.lv) rfl
 have y3:=H1.out.p.cell 3 (bO C.wk) rfl
 have y4:=H1.out.p.cell 4 (bO C.ov) rfl
 have y5:=H1.out.p.cell 5 (bO C.ow) rfl
 have y6:=H1.out.p.cell 6 (bO C.tx) rfl
 have y7:=H1.out.p.cell 7 (bO C.ak) rfl
 rw[ewk] at y3
 rw[eov] at y4
 rw[eow] at y5
 rw[etx] at y6
 rw[eak] at y7
 clear ewk eov eow etx eak elk;generalize hwc:w.alloc (.cells (coL C s).toArray 41)=wc at *;go_enter Tryz.func142,Tryz.ntmps142
 go_upto_region 2 with fail
 try rw[hwc]
 go_cut [7] (fun x wx=>x = bO (!lk || (l1 && !(p2 && wk && cp)))∧wx=wc)
 case first=>
  as_aux_lemma=>
  clear HX HB;have hh:(lk=true∧l1=true∧p2=true∧wk=true∧cp=true)∨(lk=true∧l1=true∧p2=true∧wk=true∧cp=false)∨(lk=true∧l1=true∧p2=true∧wk=false)∨(lk=true∧l1=true∧p2=false)∨(lk=true∧l1=false)∨(lk=false):=by cases lk <;> cases l1 <;> cases p2 <;> cases wk <;> cases cp <;> simp
  rcases hh with⟨rfl,rfl,rfl,rfl,rfl⟩ | ⟨rfl,rfl,rfl,rfl,rfl⟩ | ⟨rfl,rfl,rfl,rfl⟩ | ⟨rfl,rfl,rfl⟩ | ⟨rfl,rfl⟩ | rfl <;> (
   go_wp2_with (first | (go_at_call 56;refine (HIL.out _).mono ?_;rintro o w2 ⟨rfl,rfl⟩))
   go_meet
   case rel=>exact⟨rfl,rfl⟩)
 case rest=>
 obtain⟨rfl,hw⟩:=hcut
 subst hw;obtain⟨c1,g⟩ : ∃ b,(!lk || (l1 && !(p2 && wk && cp)))=b:=⟨_,rfl⟩
 rw[g]
 have G1:Hid ((!lk || (l1 && !(p2 && wk && cp)))=c1):=g
 clear g;cases c1
 case true=>
  as_aux_lemma=>
  go_wp2_with fail;go_ret;refine⟨⟨_,rfl,?_⟩,H1.out.b⟩
  rw[HX.out,HB.out,G1.out]
  simp
 case false=>
 go_upto_region 4 with fail
 go_cut [30] (fun x wx=>x = bO (wk && (!p2 || ov))∧wx=wc)
 case first=>
  as_aux_lemma=>
  clear HX HB;have hh:(wk=true∧p2=true∧ov=true)∨(wk=true∧p2=true∧ov=false)∨(wk=true∧p2=false)∨(wk=false):=by cases wk <;> cases p2 <;> cases ov <;> simp
  rcases hh with⟨rfl,rfl,rfl⟩ | ⟨rfl,rfl,rfl⟩ | ⟨rfl,rfl⟩ | rfl <;> (
   go_wp2_with fail;go_meet
   case rel=>exact⟨rfl,rfl⟩)
 case rest=>
 obtain⟨rfl,hw⟩:=hcut
 subst hw;obtain⟨c2,g⟩ : ∃ b,(wk && (!p2 || ov))=b:=⟨_,rfl⟩
 rw[g]
 have G2:Hid ((wk && (!p2 || ov))=c2):=g
 clear g;cases c2
 case true=>
  as_aux_lemma=>
  go_wp2_with fail;go_ret;refine⟨⟨_,rfl,?_⟩,H1.out.b⟩
  rw[HX.out,HB.out,G2.out]
  simp
 case false=>
 go_upto_region 6 with fail
 go_cut [41] (fun x wx=>x = bO (ov && !p2 && !p3 && !p4)∧wx=wc)
 case first=>
  as_aux_lemma=>
  clear HX HB;have hh:(ov=true∧p2=true)∨(ov=true∧p2=false∧p3=true)∨(ov=true∧p2=false∧p3=false∧p4=true)∨(ov=true∧p2=false∧p3=false∧p4=false)∨(ov=false):=by cases ov <;> cases p2 <;> cases p3 <;> cases p4 <;> simp
  rcases hh with⟨rfl,rfl⟩ | ⟨rfl,rfl,rfl⟩ | ⟨rfl,rfl,rfl,rfl⟩ | ⟨rfl,rfl,rfl,rfl⟩ | rfl <;> (
   go_wp2_with fail;go_meet
   case rel=>exact⟨rfl,rfl⟩)
 case rest=>
 obtain⟨rfl,hw⟩:=hcut
 subst hw;obtain⟨c3,g⟩ : ∃ b,(ov && !p2 && !p3 && !p4)=b:=⟨_,rfl⟩
 rw[g]
 have G3:Hid ((ov && !p2 && !p3 && !p4)=c3):=g
 clear g;cases c3
 case true=>
  as_aux_lemma=>
  go_wp2_with fail;go_ret;refine⟨⟨_,rfl,?_⟩,H1.out.b⟩
  rw[HX.out,HB.out,G3.out]
  simp
 case false=>
 go_upto_region 8 with fail
 go_cut [58] (fun x wx=>x = bO (ow && !(wk && tx))∧wx=wc)
 case first=>
  as_aux_lemma=>
  clear HX HB;have hh:(ow=true∧wk=true∧tx=true)∨(ow=true∧wk=true∧tx=false)∨(ow=true∧wk=false)∨(ow=false):=by cases ow <;> cases wk <;> cases tx <;> simp
  rcases hh with⟨rfl,rfl,rfl⟩ | ⟨rfl,rfl,rfl⟩ | ⟨rfl,rfl⟩ | rfl <;> (
   go_wp2_with fail;go_meet
   case rel=>exact⟨rfl,rfl⟩)
 case rest=>
 obtain⟨rfl,hw⟩:=hcut
 subst hw;obtain⟨c4,g⟩ : ∃ b,(ow && !(wk && tx))=b:=⟨_,rfl⟩
 rw[g]
 have G4:Hid ((ow && !(wk && tx))=c4):=g
 clear g;cases c4
 case true=>
  as_aux_lemma=>
  go_wp2_with fail;go_ret;refine⟨⟨_,rfl,?_⟩,H1.out.b⟩
  rw[HX.out,HB.out,G4.out]
  simp
 case false=>
 go_upto_region 10 with fail
 go_cut [70] (fun x wx=>x = bO (tx && (pz || p7))∧wx=wc)
 case first=>
  as_aux_lemma=>
  clear HX HB;have hh:(tx=true∧pz=true)∨(tx=true∧pz=false∧p7=true)∨(tx=true∧pz=false∧p7=false)∨(tx=false):=by cases tx <;> cases pz <;> cases p7 <;> simp
  rcases hh with⟨rfl,rfl⟩ | ⟨rfl,rfl,rfl⟩ | ⟨rfl,rfl,rfl⟩ | rfl <;> (
   go_wp2_with fail;go_meet
   case rel=>exact⟨rfl,rfl⟩)
 case rest=>
 obtain⟨rfl,hw⟩:=hcut
 subst hw;obtain⟨c5,g⟩ : ∃ b,(tx && (pz || p7))=b:=⟨_,rfl⟩
 rw[g]
 have G5:Hid ((tx && (pz || p7))=c5):=g
 clear g;cases c5
 case true=>
  as_aux_lemma=>
  go_wp2_with fail;go_ret;refine⟨⟨_,rfl,?_⟩,H1.out.b⟩
  rw[HX.out,HB.out,G5.out]
  simp
 case false=>
 go_upto_region 12 with fail
 go_cut [83] (fun x wx=>x = bO (!tx && p6)∧wx=wc)
 case first=>
  as_aux_lemma=>
  clear HX HB;have hh:(tx=true)∨(tx=false∧p6=true)∨(tx=false∧p6=false):=by cases tx <;> cases p6 <;> simp
  rcases hh with rfl | ⟨rfl,rfl⟩ | ⟨rfl,rfl⟩ <;> (
   go_wp2_with fail;go_meet
   case rel=>exact⟨rfl,rfl⟩)
 case rest=>
 obtain⟨rfl,hw⟩:=hcut
 subst hw;obtain⟨c6,g⟩ : ∃ b,(!tx && p6)=b:=⟨_,rfl⟩
 rw[g]
 have G6:Hid ((!tx && p6)=c6):=g
 clear g;cases c6
 case true=>
  as_aux_lemma=>
  go_wp2_with fail;go_ret;refine⟨⟨_,rfl,?_⟩,H1.out.b⟩
  rw[HX.out,HB.out,G6.out]
  simp
 case false=>
 rw[HB.out,G1.out,G2.out,G3.out,G4.out,G5.out,G6.out] at HX
 go_upto_region 14 with fail
 go_cut [2] (fun x wx=>x = bO (!ak || p7)∧wx=wc)
 case first=>
  clear HX HB;have hh:(ak=true∧p7=true)∨(ak=true∧p7=false)∨(ak=false):=by cases ak <;> cases p7 <;> simp
  rcases hh with⟨rfl,rfl⟩ | ⟨rfl,rfl⟩ | rfl <;> (
   go_wp2_with fail;go_meet
   case rel=>exact⟨rfl,rfl⟩)
 case rest=>
 obtain⟨rfl,hw⟩:=hcut
 subst hw;go_wp2_with fail;go_ret;refine⟨⟨_,rfl,?_⟩,H1.out.b⟩
 rw[HX.out]
 simp
end Go.Proofs.YtkfcfigbgmbaiaaGreat
