import Derived.Deep.DeepCutAuto
import Derived.Deep.RegionWith
import Derived.Test.YtgfolecanghhhaaGreatK13
import Derived.Deep.RegionHeld3
namespace Go.Proofs.YtgfolecanghhhaaGreat
open Go.Proofs.Tryz
set_option maxRecDepth 20000
open Go.RowKit
set_option linter.all false
set_option maxHeartbeats 16000000
open Go.Value renaming int->I,slice->sL,bool->bO,pointer->pT,agg->aG
open Go.IntKind renaming i64->J
open Go.Ending renaming returned->rT
open Go.Proofs.Tryz renaming prog->Tp
section
variable {k:Nat} {bx:List R8} {st:Int} {w:World}
def cZ (st:Int) (b:R8):Prop:=if b.x=0 then (b.y=0/\b.z=0/\zFr b.e b.i b.r b.d b.l.length) else ((1<=b.x/\b.x<=3)/\(0<=b.y/\b.y<=9999)/\(0<=b.z/\b.z<st)/\vB b.e b.i b.r b.d b.l.length=true)
def far (a b:R8):Prop:=a.x≠0->b.x≠0->a.y≠b.y/\a.z≠b.z
def gT (bx:List R8):Nat:=bx.countP (fun b=>b.x != 0 && b.x != 1)
def dw (st:Int) (bx:List R8):Prop:=(∀ j (h:j<bx.length),cZ st bx[j])/\(∀ i j (hi:i<bx.length) (hj:j<bx.length),i<j->far bx[i] bx[j])/\gT bx<=1
structure obS (w:World) (H:Ho) (s:Sl) (W:World):Prop where
 p:blk W w.heap.size (hoL H s) 41
 b:Bl w W
def obS.below {H:Ho} {s:Sl} {W W':World} (h:obS w H s W) (hb:Bl W W'):obS w H s W':=⟨h.p.below hb,h.b.trans (hb.mono h.b.size)⟩
def ug (bx:List R8) (k:Nat) (h:k<bx.length):gT (bx.take (k+1))=gT (bx.take k)+(if (bx[k].x != 0 && bx[k].x != 1)=true then 1 else 0):=by
 unfold gT;rw[qg h,List.countP_append];simp[List.countP_cons]
def di {ops:Array Oper} {rest:List Oper} {op:Oper} {a:Act} {Q:Exit->Act->World->Prop} (hw:Region.wanted op (yielded ops a.tmps)=true) (ty:TypeId) (x:Operand) (ho:op.op = .load ty x)
  (b o:Nat) (hx:a.eval x = pT (some ⟨b,o,none⟩)) (cs:List Value) (d:TypeDesc) (hc:w.rangeAt b o cs)
  (hu:Tp.underlying ty=some d) (hd:d.isRow=true) (hi:(Tp.info? ty).map (·.size)=some cs.length)
  (h:wpList Tp ops Q rest (a.put op.dst (aG cs.toArray)) w):wpList Tp ops Q (op :: rest) a w:=
 wpList_step fun K hK=>by
  simp only[hw,if_true];exact wp_load_mid ty x ho b o hx cs d hc hu hd hi (hK _ _ h)
def mX (hk:k<bx.length) (h:¬ cZ st bx[k]):¬ dw st bx:=fun hh=>h (hh.1 k hk)
def wm {i:Nat} (hi:i<bx.length) (hk:k<bx.length) (hik:i<k) (h:¬ far bx[i] bx[k]):¬ dw st bx:=fun hh=>h (hh.2.1 i k hi hk hik)
def zM (hD:∀ i j (hi:i<bx.length) (hj:j<bx.length),i<j->j<k->far bx[i] bx[j]) (hk:k<bx.length) (h:∀ i (hi:i<bx.length),i<k->far bx[i] bx[k]):∀ i j (hi:i<bx.length) (hj:j<bx.length),i<j->j<k+1->far bx[i] bx[j]:=by
 intro i j hi hj hij hjk;by_cases e:j=k
 .subst e;exact h i hi hij
 .exact hD i j hi hj hij om
def Ht {α:Type} {p:α->Prop} {bs:List α} (hk:k<bs.length) (h:∀ j (hj:j<bs.length),j<k->p bs[j]) (h1:p bs[k]):∀ j (hj:j<bs.length),j<k+1->p bs[j]:=by
 intro j hj h2;by_cases e:j=k
 .subst e;exact h1
 .exact h j hj om
structure rbS (st:Int) (bx:List R8) (k:Nat) (b:R8):Prop where
 bad:¬ cZ st b->¬ dw st bx
 good:cZ st b->∀ j (hj:j<bx.length),j<k+1->cZ st bx[j]
 fars:(∀ i (hi:i<bx.length),i<k->far bx[i] b)->∀ i j (hi:i<bx.length) (hj:j<bx.length),i<j->j<k+1->far bx[i] bx[j]
 bf:∀ i (hi:i<bx.length),i<k->¬ far bx[i] b->¬ dw st bx
 bn:gT (bx.take (k+1))=gT (bx.take k)+(if (b.x != 0 && b.x != 1)=true then 1 else 0)
def rbS.of (hk:k<bx.length) (hA:∀ j (hj:j<bx.length),j<k->cZ st bx[j]) (hD:∀ i j (hi:i<bx.length) (hj:j<bx.length),i<j->j<k->far bx[i] bx[j]):rbS st bx k bx[k]:=
 ⟨mX hk,fun ho=>Ht hk hA ho,fun ho=>zM hD hk ho,fun i hi hik hf=>wm hi hk hik hf,ug bx k hk⟩
def mg (w:World) (H:Ho) (s:Sl) (h:aM w s.a2 s.n2 s.k2 H.bx) (hn:s.n2<=8) :
  Calls Tp 113 #[hoV H s] w fun o w'=>cK o (dw H.st H.bx)/\Bl w w':=by
 have HH:Hid (aM w s.a2 s.n2 s.k2 H.bx):=h;have HL:Hid (s.n2=H.bx.length):=h.len;have hcp:=h.cap;have H0:Hid (obS w H s (w.alloc (.cells (hoL H s).toArray 41))):=⟨blk.new w _ 41,Zw⟩
 clear h;rw[Gt];go_enter func113,ntmps113;go_wp2_with fail;go_loopw [3,4] (fun b i wr=>∃ k q:Nat,k<=s.n2/\i = I J (k:Int)/\b = I J (q:Int)/\q<=k/\q=gT (H.bx.take k)/\(∀ j (hj:j<H.bx.length),j<k->cZ H.st H.bx[j])/\(∀ i j (hi:i<H.bx.length) (hj:j<H.bx.length),i<j->j<k->far H.bx[i] H.bx[j])/\obS w H s wr) (fun _ i _=>s.n2-(intOf i).toNat);case atStart=>exact⟨0,0,nZ _,rfl,rfl,nR _,by simp[gT],fun j hj h=>Qy h (nN _),fun i j hi hj h1 h2=>Qy h2 (nN _),H0.o⟩
 case round=>
  obtain⟨k,q,hk,rfl,rfl,hqk,hq,hA,hD,hS⟩:=hrel;have HS:Hid (obS w H s wr):=hS;have x5:=hS.p.cell 5 _ rfl;by_cases hlt:k<s.n2
  .have hkl:k<H.bx.length:=by have:=HL.o;omega
   obtain⟨g,off,ha,hc⟩:=HH.o.cells (by intro e;rw[e] at hkl;cases hkl);obtain⟨ao,m,c,hx⟩:=hc k hkl;have HC:Hid (∀ W,Bl w W->∀ j (h:j<H.bx.length),∃ ao m c,at8 W g (off+j*8) H.bx[j] ao m c):=fun W hW j hj=>by obtain⟨a,b,c,h⟩:=hc j hj;exact⟨a,b,c,h.below hW⟩
   have HA5:Hid (s.a2=some ⟨g,off,none⟩):=ha;rw[ha] at x5;have HR0:=rbS.of hkl hA hD;have HRG0:=(hx.below HS.o.b).range;have hM:=hx.dat.len;have HQQ:Hid (q=gT (H.bx.take k)):=hq;clear hx hc ha hq hA hD hS;generalize H.bx[k]=b at *;obtain⟨x,y,z,e,i,r,d,l⟩:=b;dsimp only at HRG0 hM;have HR:Hid (rbS H.st H.bx k ⟨x,y,z,e,i,r,d,l⟩):=HR0;have HRG:Hid (wr.rangeAt g (off+k*8) [I J x,I J y,I J z,bO e,I .u32 (i:Int),bO r,I J d,sL ao m c]):=HRG0;have HE:Hid (cZ H.st ⟨x,y,z,e,i,r,d,l⟩↔(x=0/\y=0/\z=0/\zFr e i r d m)\/(x≠0/\(1<=x/\x<=3)/\(0<=y/\y<=9999)/\(0<=z/\z<H.st)/\vB e i r d m=true)):=by
    show _↔_;unfold cZ;dsimp only;rw[<- hM];by_cases h:x=0 <;> simp[h]
   clear HR0 HRG0 hM;have HW3:Hid (blk (wr.alloc (.cells #[I J x,I J y,I J z,bO e,I .u32 (i:Int),bO r,I J d,sL ao m c] 116)) wr.heap.size [I J x,I J y,I J z,bO e,I .u32 (i:Int),bO r,I J d,sL ao m c] 116/\obS w H s (wr.alloc (.cells #[I J x,I J y,I J z,bO e,I .u32 (i:Int),bO r,I J d,sL ao m c] 116))):=⟨blk.new wr _ 116,HS.o.below Zw⟩
   go_upto_region 6 with (refine ZG 116 HRG.o underlying116 fG ?_)
   generalize wr.alloc _=w3 at *;have p9:=HW3.o.2.p.cell 9 _ rfl;have u0:=HW3.o.1.cell 0 _ rfl;have u1:=HW3.o.1.cell 1 _ rfl;have u2:=HW3.o.1.cell 2 _ rfl;have u3:=HW3.o.1.cell 3 _ rfl;have u4:=HW3.o.1.cell 4 _ rfl;have u5:=HW3.o.1.cell 5 _ rfl;have u6:=HW3.o.1.cell 6 _ rfl;have u7:=HW3.o.1.cell 7 _ rfl;go_wp2_with fail
   all_goals try
    go_ret;exact⟨⟨false,rfl,by simpa using HR.o.bad (fun h=>by rcases HE.o.1 h with⟨h1,h2,h3,_⟩ | ⟨h1,⟨h2,h3⟩,⟨h4,h5⟩,⟨h6,h7⟩,_⟩ <;> first | omega | simp_all)⟩,HW3.o.2.b⟩
   .refine (gQ _ e i r d ao m c).mono ?_;rintro o w4 ⟨⟨bb,rfl,h1⟩,hb4⟩;have HB4:Hid (obS w H s w4):=HW3.o.2.below hb4;have HZ:Hid (bb=true↔cZ H.st ⟨x,y,z,e,i,r,d,l⟩):=⟨fun h=>HE.o.2 (qr ⟨by simp_all,by assumption,by assumption,h1.1 h⟩),fun h=>h1.2 (by rcases HE.o.1 h with h | h;exact h.2.2.2;simp_all)⟩
    have HX:Hid (x=0):=by show _=_;simp_all
    clear h1 hb4;cases bb
    .go_wp2_with fail;go_ret;exact⟨⟨false,rfl,by simpa using HR.o.bad (fun h=>by have:=HZ.o.2 h;simp at this)⟩,HB4.o.b⟩
    .go_wp2_with fail;go_roundw;case rel=>
      refine⟨k+1,q,om,by go_num,rfl,om,?_,HR.o.good (HZ.o.1 (by trivial)),HR.o.fars (fun i hi hik _ h=>Qy HX.o h),HB4.o⟩;rw[HR.o.bn,<- HQQ.o,HX.o];simp
     case measure=>simp[intOf];omega
   .refine (ch _ e i r d ao m c).mono ?_;rintro o w4 ⟨rfl,hb4⟩;have HB4:Hid (blk w4 wr.heap.size [I J x,I J y,I J z,bO e,I .u32 (i:Int),bO r,I J d,sL ao m c] 116/\obS w H s w4):=⟨HW3.o.1.below hb4,HW3.o.2.below hb4⟩
    have HX0:Hid (x≠0):=by show ¬ _=_;simp_all
    have HZ:Hid (vB e i r d m=true↔cZ H.st ⟨x,y,z,e,i,r,d,l⟩):=⟨fun h=>HE.o.2 (qx ⟨HX0.o,by have:=HX0.o;omega,om,om,h⟩),fun h=>by rcases HE.o.1 h with h | h;(exact Qy h.1 HX0.o);exact h.2.2.2.2⟩
    obtain⟨b,hb⟩ : ∃ b,vB e i r d m=b:=⟨_,rfl⟩
    rw[hb] at HZ;rw[hb];clear hb hb4 HE HRG HW3 p9 u0 u1 u2 u3 u4 u5 u6 u7;cases b
    .go_wp2_with fail;go_ret;exact⟨⟨false,rfl,by simpa using HR.o.bad (fun h=>by have:=HZ.o.2 h;simp at this)⟩,HB4.o.2.b⟩
    have HOK:Hid (cZ H.st ⟨x,y,z,e,i,r,d,l⟩):=HZ.o.1 rfl;have y0:=HB4.o.1.cell 0 _ rfl;have y1:=HB4.o.1.cell 1 _ rfl;have y2:=HB4.o.1.cell 2 _ rfl;have o5:=HB4.o.2.p.cell 5 _ rfl;rw[HA5.o] at o5;clear HZ;go_wp2_with fail;all_goals
     have HN:Hid (gT (H.bx.take (k+1))=q+(if (x != 1)=true then 1 else 0)):=by show _=_;have h1:=HX0.o;rw[HR.o.bn,<- HQQ.o];simp[h1]
     clear y0 y1 y2 o5 x5;generalize wr.heap.size=PB at *;go_loopw [6] (fun j wr=>∃ v:Nat,v<=k/\j = I J (v:Int)/\(∀ i' (hi:i'<H.bx.length),i'<v->far H.bx[i'] ⟨x,y,z,e,i,r,d,l⟩)/\Bl w4 wr) (fun j _=>k-(intOf j).toNat);case atStart=>exact⟨0,nZ _,rfl,fun i hi h=>Qy h (nN _),bW _ _⟩
     case round=>
      obtain⟨v,hvk0,rfl,hF,hbi⟩:=hrel;have HBI:Hid (Bl w4 wr):=hbi;have HF:Hid (∀ i' (hi:i'<H.bx.length),i'<v->far H.bx[i'] ⟨x,y,z,e,i,r,d,l⟩):=hF;have y1:=(HB4.o.1.below hbi).cell 1 _ rfl;have y2:=(HB4.o.1.below hbi).cell 2 _ rfl;have o5:=(HB4.o.2.below hbi).p.cell 5 _ rfl;rw[HA5.o] at o5;clear hF hbi;by_cases hvk:v<k
      .have hvl:v<H.bx.length:=by have:=HL.o;omega
       have hvn:v<s.n2:=om;obtain⟨ao',m',c',hx⟩:=HC.o _ (HB4.o.2.below HBI.o).b v hvl;obtain⟨u0,u1,u2,-,-,-,-,-,-⟩:=hx;have HFS:Hid (far H.bx[v] ⟨x,y,z,e,i,r,d,l⟩->∀ i' (hi:i'<H.bx.length),i'<v+1->far H.bx[i'] ⟨x,y,z,e,i,r,d,l⟩):=fun h1=>Ht (p:=fun t=>far t ⟨x,y,z,e,i,r,d,l⟩) hvl HF.o h1;have HNF:Hid (¬ far H.bx[v] ⟨x,y,z,e,i,r,d,l⟩->¬ dw H.st H.bx):=HR.o.bf v hvl hvk;generalize H.bx[v]=b' at *;obtain⟨x',y',z',e',i',r',d',l'⟩:=b';dsimp only at u0 u1 u2;obtain⟨b1,e1⟩ : ∃ b,(x' != 0)=b:=⟨_,rfl⟩
       obtain⟨b2,e2⟩ : ∃ b,(y' == y)=b:=⟨_,rfl⟩
       obtain⟨b3,e3⟩ : ∃ b,(z' == z)=b:=⟨_,rfl⟩
       have HV:Hid (far ⟨x',y',z',e',i',r',d',l'⟩ ⟨x,y,z,e,i,r,d,l⟩↔(b1 && (b2 || b3))=false):=by
        show _↔_;have h1:=HX0.o;simp only[far,<- e1,<- e2,<- e3];by_cases hx':x'=0 <;> simp[hx',h1]
       cases b1;rotate_left
       cases b2;cases b3;all_goals
        go_wp2;go_quiet (fail);have HBJ:Hid (Bl w4 (wr.drewN nq)):=QQ HBI.o nq;go_wp2;first
        | (go_roundw;(case rel=>exact⟨v+1,om,by go_num,HFS.o (HV.o.2 (by trivial)),HBJ.o⟩);(case measure=>simp[intOf];omega))
        | (go_ret;exact⟨⟨false,rfl,by simpa using HNF.o (fun h=>by have:=HV.o.1 h;simp at this)⟩,(HB4.o.2.below HBJ.o).b⟩)
      .have hve:v=k:=om;subst hve;go_wp2;go_roundw
       case rel=>first
        | exact⟨v+1,q+1,om,by go_num,by go_num,om,by have:=HN.o;simp_all,HR.o.good HOK.o,HR.o.fars HF.o,HB4.o.2.below HBI.o⟩
        | exact⟨v+1,q,om,by go_num,rfl,om,by have:=HN.o;simp_all,HR.o.good HOK.o,HR.o.fars HF.o,HB4.o.2.below HBI.o⟩
       case measure=>simp[intOf];omega
  .have hkn:k=s.n2:=om;subst hkn;have HFIN:Hid (dw H.st H.bx↔q<=1):=by
    show _↔_;rw[qf (by have:=HL.o;omega)] at hq;exact⟨fun h=>by have:=h.2.2;omega,fun h=>⟨fun j hj=>hA j hj (by have:=HL.o;omega),fun i j hi hj hij=>hD i j hi hj hij (by have:=HL.o;omega),om⟩⟩
   clear hq hA hD hS;obtain⟨b,hb⟩ : ∃ b,decide ((q:Int)<=1)=b:=⟨_,rfl⟩
   have HD:Hid (b=true↔q<=1):=by show _↔_;rw[<- hb];simp;omega
   go_wp2;go_ret;exact⟨⟨b,rfl,HD.o.trans HFIN.o.symm⟩,HS.o.b⟩
end
open Go.IntKind renaming i64->J,u32->Zk
structure dP (H:Ho):Prop where
 cf:kU H.c0 H.c1 H.c2 H.c3=true
 fs:gV H.fs=true
 nb:(H.bx.length:Int)=H.c0
 nf:(H.ff.length:Int)<=H.c1
 nq:(H.qu.length:Int)<=H.c3
 l0:0<=H.lo
 l1:H.lo<=100000
 s0:0<=H.st
 s1:H.st<=1000000
 ff:H.ff.all dZ=true
 qu:H.qu.all yd=true
 bx:dw H.st H.bx
def vu {e:Bool} {i:Nat} {r:Bool} {d:Int} {n:Nat} (h:zFr e i r d n):vB e i r d n=true:=by
 obtain⟨rfl,rfl,rfl,rfl,rfl⟩:=h;decide
def zf (w:World) (H:Ho) (s:Sl) (h:aK w H s) (hn:H.le 1048576) :
  Calls Tp 47 #[hoV H s] w fun o w'=>cK o (dP H)/\Bl w w':=by
 have H0:Hid (obS w H s (w.alloc (.cells (hoL H s).toArray 41))):=⟨blk.new w _ 41,Zw⟩
 have HH:Hid (aK w H s):=h;have HLB:Hid (s.n2=H.bx.length/\s.n3=H.ff.length/\s.n4=H.qu.length/\s.n3<=s.k3/\s.n4<=s.k4):=⟨h.bx.len,h.ff.len,h.qu.len,h.ff.cap,h.qu.cap⟩
 have HFS:Hid (∀ W,Bl w W->Calls Tp 111 #[sL s.a1 s.n1 s.k1] W fun o w'=>o = rT (bO (gV H.fs))/\Bl W w'):=fun W hW=>km W _ _ _ _ (h.fs.below hW) (by rw[h.fs.len];exact hn.fs);have HBX:Hid (s.n2<=8->∀ W,Bl w W->Calls Tp 113 #[hoV H s] W fun o w'=>cK o (dw H.st H.bx)/\Bl W w'):=fun h8 W hW=>mg W H s (h.bx.below hW) h8;have q0:=H0.o.p.cell 0 _ rfl;have q1:=H0.o.p.cell 1 _ rfl;have q2:=H0.o.p.cell 2 _ rfl;have q3:=H0.o.p.cell 3 _ rfl;clear h hn;rw[Gt];go_enter func47,ntmps47;go_wp2_with fail;refine (ll _ H.c0 H.c1 H.c2 H.c3).mono ?_;rintro o w1 ⟨rfl,hb1⟩;have O1:Hid (obS w H s w1):=H0.o.below hb1;have hc:=Bool.eq_false_or_eq_true (kU H.c0 H.c1 H.c2 H.c3);have HCT:Hid (∀ b,kU H.c0 H.c1 H.c2 H.c3=b->dP H->b=true):=fun b e h=>by rw[<- e];exact h.cf
 generalize hb:kU H.c0 H.c1 H.c2 H.c3=b at *;have HCE:Hid (kU H.c0 H.c1 H.c2 H.c3=b):=hb;clear q0 q1 q2 q3 hb1 H0 hb hc;cases b
 .have HB:Hid (¬ dP H):=fun h=>by have:=HCT.o _ rfl h;cases this
  go_wp2_with fail;go_ret;exact⟨⟨false,rfl,by simpa using HB.o⟩,O1.o.b⟩
 have q4:=O1.o.p.cell 4 _ rfl;go_wp2_with fail;refine (HFS.o _ O1.o.b).mono ?_;rintro o w2 ⟨rfl,hb2⟩;have O2:Hid (obS w H s w2):=O1.o.below hb2;generalize hb:gV H.fs=b at *;have HFE:Hid (gV H.fs=b):=hb;clear q4 hb2 O1 hb;cases b
 .have HB:Hid (¬ dP H):=fun h=>by have:=h.fs;rw[HFE.o] at this;cases this
  go_wp2_with fail;go_ret;exact⟨⟨false,rfl,by simpa using HB.o⟩,O2.o.b⟩
 have HNB:Hid (¬ ((s.n2:Int)=H.c0/\(s.n3:Int)<=H.c1/\(s.n4:Int)<=H.c3/\0<=H.lo/\H.lo<=100000/\0<=H.st/\H.st<=1000000)->¬ dP H):=fun h hh=>h (by have:=HLB.o;have:=hh.nb;have:=hh.nf;have:=hh.nq;have:=hh.l0;have:=hh.l1;have:=hh.s0;have:=hh.s1;omega);have q0:=O2.o.p.cell 0 _ rfl;have q1:=O2.o.p.cell 1 _ rfl;have q3:=O2.o.p.cell 3 _ rfl;have q5:=O2.o.p.cell 5 _ rfl;have q6:=O2.o.p.cell 6 _ rfl;have q7:=O2.o.p.cell 7 _ rfl;have q8:=O2.o.p.cell 8 _ rfl;have q9:=O2.o.p.cell 9 _ rfl;go_wp2_with fail
 all_goals try
  go_ret;exact⟨⟨false,rfl,by simpa using HNB.o (fun hh=>by first | omega | (have h9:=hh.1;simp_all))⟩,O2.o.b⟩
 have hb:(s.n2:Int)=H.c0:=by simp_all
 have HCB:1<=H.c0/\H.c0<=8/\1<=H.c1/\H.c1<=16/\0<=H.c2/\H.c2<=1/\1<=H.c3/\H.c3<=32:=qO HCE.o;have HNUM:Hid (((H.bx.length:Int)=H.c0/\s.n2<=8)/\(H.ff.length:Int)<=H.c1/\(H.qu.length:Int)<=H.c3/\0<=H.lo/\H.lo<=100000/\0<=H.st/\H.st<=1000000):=by have:=HLB.o;exact⟨om,om,om,om,om,om,om⟩
 have hn3:s.n3<=16:=om;have hn4:s.n4<=32:=om;clear q0 q1 q3 q5 q6 q7 q8 q9 hb HCB HNB;go_loopw [3] (fun i wr=>∃ k:Nat,k<=s.n3/\i = I J (k:Int)/\(∀ j (hj:j<H.ff.length),j<k->dZ H.ff[j]=true)/\obS w H s wr) (fun i _=>s.n3-(intOf i).toNat);case atStart=>exact⟨0,nZ _,rfl,fun j hj h=>Qy h (nN _),O2.o⟩
 case round=>
  obtain⟨k,hk,rfl,hA,hS⟩:=hrel;have HA:Hid (∀ j (hj:j<H.ff.length),j<k->dZ H.ff[j]=true):=hA;have HS:Hid (obS w H s wr):=hS;have x6:=hS.p.cell 6 _ rfl;clear hA hS;by_cases hlt:k<s.n3
  .have hkl:k<H.ff.length:=by have:=HLB.o;omega
   obtain⟨g3,o3,ha,hc⟩:=(HH.o.below HS.o.b).ff.cells (fun e=>by rw[e] at hkl;cases hkl);have hcp:=HLB.o.2.2.2.1;obtain⟨ao,m,c,hx⟩:=hc k hkl;rw[ha] at x6;have HAS:Hid (dZ H.ff[k]=true->∀ j (hj:j<H.ff.length),j<k+1->dZ H.ff[j]=true):=fun h=>iF hkl HA.o h;have HNO:Hid (dZ H.ff[k]=false->¬ dP H):=fun h hh=>by have:=hh.ff;rw[kA hkl h] at this;cases this
   generalize H.ff[k]=bk at *;obtain⟨e,i,r,d,l⟩:=bk;obtain⟨r0,r1,r2,r3,r4,hD⟩:=hx;have hM:=hD.len;dsimp only at r0 r1 r2 r3 r4 hM;have HOK:dZ ⟨e,i,r,d,l⟩=vB e i r d m:=by unfold dZ;rw[hM]
   rw[HOK] at HAS HNO;clear hc hD hM HOK ha;go_wp2_with fail;refine (ch wr e i r d ao m c).mono ?_;rintro o w4 ⟨rfl,hb4⟩;have HB4:Hid (Bl wr w4):=hb4;clear hb4 r0 r1 r2 r3 r4;obtain⟨b,hb⟩ : ∃ b,vB e i r d m=b:=⟨_,rfl⟩
   rw[hb] at HAS HNO;rw[hb];clear hb;cases b
   .go_wp2_with fail;go_ret;exact⟨⟨false,rfl,by simpa using HNO.o (by trivial)⟩,(HS.o.below HB4.o).b⟩
   .go_wp2_with fail;go_roundw;case rel=>exact⟨k+1,om,by go_num,HAS.o (by trivial),HS.o.below HB4.o⟩
    case measure=>simp[intOf];omega
  .have HFF:Hid (H.ff.all dZ=true):=jx (by have:=HLB.o;omega) HA.o;clear HA;go_wp2_with fail;clear x6;have O3:Hid (obS w H s wr):=HS.o;clear HS;go_loopw [4] (fun i wr=>∃ k:Nat,k<=s.n4/\i = I J (k:Int)/\(∀ j (hj:j<H.qu.length),j<k->yd H.qu[j]=true)/\obS w H s wr) (fun i _=>s.n4-(intOf i).toNat);case atStart=>exact⟨0,nZ _,rfl,fun j hj h=>Qy h (nN _),O3.o⟩
   case round=>
    clear hk hlt;obtain⟨k,hk,rfl,hA,hS⟩:=hrel;have HA:Hid (∀ j (hj:j<H.qu.length),j<k->yd H.qu[j]=true):=hA;have HS:Hid (obS w H s wr):=hS;have x7:=hS.p.cell 7 _ rfl;clear hA hS;by_cases hlt:k<s.n4
    .have hkl:k<H.qu.length:=by have:=HLB.o;omega
     obtain⟨g4,o4,ha,hc⟩:=(HH.o.below HS.o.b).qu.cells (fun e=>by rw[e] at hkl;cases hkl);have hcp:=HLB.o.2.2.2.2;obtain⟨ao,m,c,hx⟩:=hc k hkl;rw[ha] at x7;have HAS:Hid (yd H.qu[k]=true->∀ j (hj:j<H.qu.length),j<k+1->yd H.qu[j]=true):=fun h=>iF hkl HA.o h;have HNO:Hid (¬ yd H.qu[k]=true->¬ dP H):=fun h hh=>by have:=hh.qu;rw[kA hkl (by simpa using h)] at this;cases this
     have HRG0:=hx.range;generalize H.qu[k]=bk at *;obtain⟨x,y,z,e,i,r,d,l⟩:=bk;have hM:=hx.dat.len;dsimp only at HRG0 hM;have HRG:Hid (wr.rangeAt g4 (o4+k*8) [I J x,I J y,I J z,bO e,I Zk (i:Int),bO r,I J d,sL ao m c]):=HRG0;have HW3:Hid (blk (wr.alloc (.cells #[I J x,I J y,I J z,bO e,I Zk (i:Int),bO r,I J d,sL ao m c] 175)) wr.heap.size [I J x,I J y,I J z,bO e,I Zk (i:Int),bO r,I J d,sL ao m c] 175/\obS w H s (wr.alloc (.cells #[I J x,I J y,I J z,bO e,I Zk (i:Int),bO r,I J d,sL ao m c] 175))):=⟨blk.new wr _ 175,HS.o.below Zw⟩
     have HEV:Hid (vB e i r d m=true->1<=x/\x<=12/\0<=y/\y<=9999/\0<=z/\z<=9->yd ⟨x,y,z,e,i,r,d,l⟩=true):=fun h h2=>by simp only[yd,<- hM,h];simp;omega
     have HEN:Hid (yd ⟨x,y,z,e,i,r,d,l⟩=true->vB e i r d m=true/\1<=x/\x<=12/\0<=y/\y<=9999/\0<=z/\z<=9):=fun h=>by simp only[yd,<- hM] at h;simp at h;exact⟨by simp_all,om,om,om,om,om,om⟩
     clear hx hM HRG0 hc ha;go_wp2_with (refine ZG 175 HRG.o underlying175 Gl ?_)
     all_goals try
      go_ret;exact⟨⟨false,rfl,by simpa using HNO.o (fun h=>by have:=HEN.o h;omega)⟩,HW3.o.2.b⟩
     have HX:Hid (1<=x/\x<=12/\0<=y/\y<=9999/\0<=z/\z<=9):=⟨om,om,om,om,om,om⟩
     refine (gQ _ e i r d ao m c).mono ?_;rintro o w4 ⟨⟨bb,rfl,h1⟩,hb4⟩;have HB4:Hid (blk w4 wr.heap.size [I J x,I J y,I J z,bO e,I Zk (i:Int),bO r,I J d,sL ao m c] 175/\obS w H s w4):=⟨HW3.o.1.below hb4,HW3.o.2.below hb4⟩
     have HZV:Hid (bb=true->vB e i r d m=true):=fun h=>vu (h1.1 h);clear h1 hb4;cases bb
     .go_wp2_with (first
       | (refine ZG 67 (HB4.o.1.loadAt [I J x,I J y,I J z] [bO e,I Zk (i:Int),bO r,I J d,sL ao m c] []) underlying67 jc ?_)
       | (refine di (by rfl) 67 _ rfl wr.heap.size 3 rfl _ _ (HB4.o.1.loadAt [I J x,I J y,I J z] [bO e,I Zk (i:Int),bO r,I J d,sL ao m c] []) underlying67 rfl jc ?_))
      refine (ch _ e i r d ao m c).mono ?_;rintro o w5 ⟨rfl,hb5⟩;have HB5:Hid (obS w H s w5):=HB4.o.2.below hb5;obtain⟨b,hb⟩ : ∃ b,vB e i r d m=b:=⟨_,rfl⟩
      rw[hb] at HEV HEN;rw[hb];clear hb hb5;cases b
      .go_wp2_with fail;go_ret;exact⟨⟨false,rfl,by simpa using HNO.o (fun h=>by have:=(HEN.o h).1;simp at this)⟩,HB5.o.b⟩
      .go_wp2_with fail;go_roundw;case rel=>exact⟨k+1,om,by go_num,HAS.o (HEV.o (by trivial) HX.o),HB5.o⟩
       case measure=>simp[intOf];omega
     .go_wp2_with fail;go_roundw;case rel=>exact⟨k+1,om,by go_num,HAS.o (HEV.o (HZV.o (by trivial)) HX.o),HB4.o.2⟩
      case measure=>simp[intOf];omega
    .have HQU:Hid (H.qu.all yd=true):=jx (by have:=HLB.o;omega) HA.o
     clear HA;go_wp2_with (refine ZG 41 HS.o.p.load underlying41 (px _ _) ?_)
     rw[<- Gt];refine (HBX.o HNUM.o.1.2 _ HS.o.b).mono ?_;rintro o w5 ⟨⟨bb,rfl,hbb⟩,hb5⟩;have HFIN:Hid (bb=true↔dP H):=hbb.trans ⟨fun hx=>⟨HCE.o,HFE.o,HNUM.o.1.1,HNUM.o.2.1,HNUM.o.2.2.1,HNUM.o.2.2.2.1,HNUM.o.2.2.2.2.1,HNUM.o.2.2.2.2.2.1,HNUM.o.2.2.2.2.2.2,HFF.o,HQU.o,hx⟩,fun hx=>hx.bx⟩;have HB5:Hid (Bl w w5):=(HS.o.below hb5).b;clear hbb hb5;go_wp2_with fail;go_ret;exact⟨⟨bb,rfl,HFIN.o⟩,HB5.o⟩
def gJ (w:World) (b:R8) (a:Option Addr) (n cap:Nat) :
  Calls Tp 138 #[bxV b.x b.y b.z b.e b.i b.r b.d a n cap] w fun o w'=>o = rT (bO (b.x == 2 || b.x == 3))/\Bl w w':=by
 obtain⟨x,y,z,e,i,r,d,l⟩:=b;have HA:Hid (Bl w (w.alloc (.cells #[I J x,I J y,I J z,bO e,I .u32 (i:Int),bO r,I J d,sL a n cap] 116))):=Zw;by_cases h2:x=2
 .subst h2;go_enter func138,ntmps138;go_wp2;go_ret;exact⟨rfl,HA.o⟩
 .have h2':(x == 2)=false:=by simpa using h2
  go_enter func138,ntmps138;go_wp2;go_ret;exact⟨aj (by simp[h2']),HA.o⟩
def nD (w:World) (b:R8) (st:Int) (a:Option Addr) (n cap:Nat) (h:iB w a n cap b.l) (hst:0<=st/\st<=1000000) :
  Calls Tp 173 #[bxV b.x b.y b.z b.e b.i b.r b.d a n cap,I J st] w fun o w'=>cK o (cZ st b)/\Bl w w':=by
 have hlen:=h.len;obtain⟨x,y,z,e,i,r,d,l⟩:=b;simp only[] at hlen h ⊢;have HA:Hid (Bl w (w.alloc (.cells #[I J x,I J y,I J z,bO e,I .u32 (i:Int),bO r,I J d,sL a n cap] 116))):=Zw;have HV:Hid (∀ W,Bl w W->Calls Tp 148 #[frV e i r d a n cap] W fun o w'=>o = rT (bO (vB e i r d n))/\Bl W w'):=fun W hW=>dU W e i r d a n cap l (h.below hW);have HZ:Hid (∀ W,Bl w W->Calls Tp 190 #[frV e i r d a n cap,frV false 0 false 0 none 0 0] W fun o w'=>o = rT (bO ((e == false) && (r == false) && ((i:Int) == ((0:Nat):Int)) && (d == 0) && decide (l=[])))/\Bl W w'):=fun W hW=>pC W e i r d a n cap l (h.below hW) false 0 false 0 none 0 0 [] ⟨rfl,nR _,fun _ hx=>(by cases hx),fun hne=>Qy rfl hne⟩;have HLN:Hid (n=l.length):=hlen;clear h hlen;by_cases hx0:x=0
 .subst hx0;have HOK:Hid (cZ st ⟨0,y,z,e,i,r,d,l⟩↔(y=0/\z=0/\zFr e i r d l.length)):=by show _↔_;unfold cZ;rw[qc rfl]
  by_cases hy0:y=0
  .subst hy0;by_cases hz0:z=0
   .subst hz0;go_enter func173,ntmps173
    go_wp2_with (go_at_call 190;refine (HZ.o _ HA.o).mono ?_;rintro o w1 ⟨rfl,hb1⟩)
    go_ret;refine⟨⟨_,rfl,?_⟩,HA.o.trans (hb1.mono HA.o.size)⟩;rw[HOK.o];unfold zFr;simp;cases e <;> cases r <;> simp;constructor
    .rintro⟨⟨h1,h2⟩,h3⟩;exact⟨h1,h2,by rw[h3]⟩
    .rintro⟨h1,h2,h3⟩;exact⟨⟨h1,h2⟩,by simpa using h3⟩
   .have hz':(z == 0)=false:=by simpa using hz0
    go_enter func173,ntmps173;go_wp2;go_ret;exact⟨⟨false,rfl,by rw[HOK.o];simp[hz0]⟩,HA.o⟩
  .have hy':(y == 0)=false:=by simpa using hy0
   go_enter func173,ntmps173;go_wp2;go_ret;exact⟨⟨false,rfl,by rw[HOK.o];simp[hy0]⟩,HA.o⟩
 .have HOK:Hid (cZ st ⟨x,y,z,e,i,r,d,l⟩↔((1<=x/\x<=3)/\(0<=y/\y<=9999)/\(0<=z/\z<st)/\vB e i r d n=true)):=by show _↔_;unfold cZ;rw[qa hx0,HLN.o]
  have hx':(x == 0)=false:=by simpa using hx0
  have HIR:Hid (∀ (W:World) (v l m:Int) (bb:Bool),decide (l<=v/\v<=m)=bb->Calls Tp 79 #[I J v,I J l,I J m] W fun o w'=>o = rT (bO bb)/\W=w'):=fun W v l m bb hbb=>hbb ▸ dh W v l m;have hs1:IntKind.i64.wrap (st-1)=st-1:=by rw[QR];omega
  clear hx0;by_cases h1:1<=x/\x<=3
  .have J1:Hid (∀ W,Calls Tp 79 #[I J x,I J 1,I J 3] W fun o w'=>o = rT (bO true)/\W=w'):=fun W=>HIR.o W x 1 3 true (qD h1);by_cases h2:0<=y/\y<=9999
   .have J2:Hid (∀ W,Calls Tp 79 #[I J y,I J 0,I J 9999] W fun o w'=>o = rT (bO true)/\W=w'):=fun W=>HIR.o W y 0 9999 true (qD h2);by_cases h3:0<=z/\z<=st-1
    .have J3:Hid (∀ W,Calls Tp 79 #[I J z,I J 0,I J (st-1)] W fun o w'=>o = rT (bO true)/\W=w'):=fun W=>HIR.o W z 0 (st-1) true (qD h3);have HF:Hid (cZ st ⟨x,y,z,e,i,r,d,l⟩↔vB e i r d n=true):=HOK.o.trans ⟨fun h=>h.2.2.2,fun h=>⟨h1,h2,⟨h3.1,om⟩,h⟩⟩;clear h1 h2 h3 HIR HOK HZ;go_enter func173,ntmps173
     go_wp2_with (first
      | (go_at_call 79;first | (refine (J1.o _).mono ?_;rintro o w1 ⟨rfl,rfl⟩;clear J1) | (refine (J2.o _).mono ?_;rintro o w1 ⟨rfl,rfl⟩;clear J2) | (refine (J3.o _).mono ?_;rintro o w1 ⟨rfl,rfl⟩;clear J3))
      | (go_at_call 148;refine (HV.o _ HA.o).mono ?_;rintro o w1 ⟨rfl,hb1⟩))
     go_ret;exact⟨⟨_,rfl,HF.o.symm⟩,HA.o.trans (hb1.mono HA.o.size)⟩
    .have J3:Hid (∀ W,Calls Tp 79 #[I J z,I J 0,I J (st-1)] W fun o w'=>o = rT (bO false)/\W=w'):=fun W=>HIR.o W z 0 (st-1) false (qo h3);have HF:Hid (¬ cZ st ⟨x,y,z,e,i,r,d,l⟩):=fun h=>h3 (by have:=(HOK.o.1 h).2.2.1;omega);clear h1 h2 h3 HIR HOK HZ HV;go_enter func173,ntmps173
     go_wp2_with (go_at_call 79;first | (refine (J1.o _).mono ?_;rintro o w1 ⟨rfl,rfl⟩;clear J1) | (refine (J2.o _).mono ?_;rintro o w1 ⟨rfl,rfl⟩;clear J2) | (refine (J3.o _).mono ?_;rintro o w1 ⟨rfl,rfl⟩;clear J3))
     go_ret;exact⟨⟨false,rfl,by simpa using HF.o⟩,HA.o⟩
   .have J2:Hid (∀ W,Calls Tp 79 #[I J y,I J 0,I J 9999] W fun o w'=>o = rT (bO false)/\W=w'):=fun W=>HIR.o W y 0 9999 false (qo h2);have HF:Hid (¬ cZ st ⟨x,y,z,e,i,r,d,l⟩):=fun h=>h2 (HOK.o.1 h).2.1;clear h1 h2 HIR HOK HZ HV;go_enter func173,ntmps173
    go_wp2_with (go_at_call 79;first | (refine (J1.o _).mono ?_;rintro o w1 ⟨rfl,rfl⟩;clear J1) | (refine (J2.o _).mono ?_;rintro o w1 ⟨rfl,rfl⟩;clear J2))
    go_ret;exact⟨⟨false,rfl,by simpa using HF.o⟩,HA.o⟩
  .have J1:Hid (∀ W,Calls Tp 79 #[I J x,I J 1,I J 3] W fun o w'=>o = rT (bO false)/\W=w'):=fun W=>HIR.o W x 1 3 false (qo h1);have HF:Hid (¬ cZ st ⟨x,y,z,e,i,r,d,l⟩):=fun h=>h1 (HOK.o.1 h).1;clear h1 HIR HOK HZ HV;go_enter func173,ntmps173
   go_wp2_with (go_at_call 79;refine (J1.o _).mono ?_;rintro o w1 ⟨rfl,rfl⟩;clear J1)
   go_ret;exact⟨⟨false,rfl,by simpa using HF.o⟩,HA.o⟩
open Option renaming none->nn,some->sQ
def xX:(Tp.info? 201).map (·.size)=sQ 3:=kr
def xW:(Tp.info? 203).map (·.size)=sQ 3:=kr
def Nb {w W:World} {P gs:Nat} {a:Option Addr} {n c:Nat} {its:List R5} (h:cl w a n c its) (hb:Bl w W) (hP:w.heap.size<=P) (hg:w.heap.size<=gs):itF f5 R5.l 5 w W P gs a n c its:=by
 refine⟨h.len,h.cap,fun hne=>?_⟩;obtain⟨g,off,e,hc⟩:=h.cells hne;have hlt:g<w.heap.size:=by
  obtain⟨ao,m,c',hx⟩:=hc 0 (List.length_pos_iff.2 hne);exact QC w _ hx.c0
 refine⟨g,off,e,om,om,nL hlt hb.size,fun j hj=>?_⟩;obtain⟨ao,m,c',hx⟩:=hc j hj;exact⟨ao,m,c',lW hx.range hb hlt,hx.dat⟩
def Na {w W:World} {P gs:Nat} {a:Option Addr} {n c:Nat} {its:List R8} (h:aM w a n c its) (hb:Bl w W) (hP:w.heap.size<=P) (hg:w.heap.size<=gs):itF f8 R8.l 8 w W P gs a n c its:=by
 refine⟨h.len,h.cap,fun hne=>?_⟩;obtain⟨g,off,e,hc⟩:=h.cells hne;have hlt:g<w.heap.size:=by
  obtain⟨ao,m,c',hx⟩:=hc 0 (List.length_pos_iff.2 hne);exact QC w _ hx.c0
 refine⟨g,off,e,om,om,nL hlt hb.size,fun j hj=>?_⟩;obtain⟨ao,m,c',hx⟩:=hc j hj;exact⟨ao,m,c',lW hx.range hb hlt,hx.dat⟩
abbrev rgL (gs room C:Nat):List Value:=[sL (sQ ⟨gs,0,nn⟩) room room,I J 0,I J (C:Int)]
section
variable {R : Type} {f : R -> Option Addr -> Nat -> Nat -> List Value} {dt : R -> List Nat} {q : Nat} {rt : TypeId} {w0 w w2 w4 : World} {room n : Nat} {its : List R} {x : Obj}
def M6 (h:w.heap.size+1<w2.heap.size/\Bl w w2/\blk w2 w.heap.size [sL nn 0 0,I J 0,I J 0] rt) (hp:ptF f dt q rt (rgL (w.heap.size+1) room) w0 (w2.alloc x) w4 w2.heap.size (w.heap.size+1) room 0 its n):ptF f dt q rt (rgL (w.heap.size+1) room) w0 (w2.alloc x) w4 w2.heap.size (w.heap.size+1) room 0 its n/\blk w4 w.heap.size [sL nn 0 0,I J 0,I J 0] rt/\Bl w w4/\w.heap.size+1<w4.heap.size/\w.heap.size<w2.heap.size:=by
 obtain⟨h1,h2,h3⟩:=h;have hb:=h2.alloc h2.size x;have hs:=hp.s;simp at hs;exact⟨hp,(hp.k w.heap.size om om (by simp;omega)).trans ((Below.heap_alloc _ _ _ om).trans h3),⟨hp.o.1.trans hb.os,hp.o.2.1.trans hb.tape,hp.o.2.2.trans hb.output,nT hb.size hp.s,fun y hy=>(hp.k y om om (nL hy hb.size)).trans (hb.block y hy)⟩,om,om⟩
def M8 {P1:Nat} {a b c:Value} (h:ptF f dt q rt (rgL (w.heap.size+1) room) w0 w2 w4 P1 (w.heap.size+1) room 0 its n/\blk w4 w.heap.size [sL nn 0 0,I J 0,I J 0] rt/\Bl w w4/\w.heap.size+1<w4.heap.size/\w.heap.size<P1):w.heap.size<=w.heap.size+1/\w.heap.size+1<(((w4.setCell ⟨w.heap.size,0,nn⟩ a).setCell ⟨w.heap.size,1,nn⟩ b).setCell ⟨w.heap.size,2,nn⟩ c).heap.size/\cu (((w4.setCell ⟨w.heap.size,0,nn⟩ a).setCell ⟨w.heap.size,1,nn⟩ b).setCell ⟨w.heap.size,2,nn⟩ c) (w.heap.size+1) (room*q)/\MW f dt q w0 (((w4.setCell ⟨w.heap.size,0,nn⟩ a).setCell ⟨w.heap.size,1,nn⟩ b).setCell ⟨w.heap.size,2,nn⟩ c) (w.heap.size+1) room 0 its/\Bl w (((w4.setCell ⟨w.heap.size,0,nn⟩ a).setCell ⟨w.heap.size,1,nn⟩ b).setCell ⟨w.heap.size,2,nn⟩ c):=by
 have e:∀ y,y≠w.heap.size->(((w4.setCell ⟨w.heap.size,0,nn⟩ a).setCell ⟨w.heap.size,1,nn⟩ b).setCell ⟨w.heap.size,2,nn⟩ c).heap[y]?=w4.heap[y]?:=fun y hy=>(QA _ _ _ _ (by exact hy)).trans ((QA _ _ _ _ (by exact hy)).trans (QA _ _ _ _ (by exact hy)));exact⟨om,by simpa using h.2.2.2.1,h.1.z.up (e _ om),h.1.r.keep (e _ om),((h.2.2.1.setCell (by exact nR _) _).setCell (by exact nR _) _).setCell (by exact nR _) _⟩
end
def M1 {R:Type} (f:R->Option Addr->Nat->Nat->List Value) (dt:R->List Nat) (q:Nat) (ty:TypeId) (fn fr nw:FuncId) (rt:TypeId) (hK:fn=209/\fr=231/\ty=67/\q=5/\nw=179/\rt=201\/fn=210/\fr=232/\ty=175/\q=8/\nw=180/\rt=203) (hq:∀ b ao m c,(f b ao m c).length=q) (ho:∀ b ao m c,(f b ao m c).toArray.all (·.oneCell')=true)
  (w0 w:World) (hb0:Bl w0 w) (room:Nat) (its:List R) (a:Option Addr) (n c:Nat) (hi:∀ W P gs,Bl w0 W->w0.heap.size<=P->w0.heap.size<=gs->itF f dt q w0 W P gs a n c its) (h1:1<=room) (h2:room<=1000) (hn:n<=room) :
  Calls Tp nw #[I J (room:Int),sL a n c] w fun o w'=>∃ gs,o = rT (aG #[sL (sQ ⟨gs,0,nn⟩) room room,I J 0,I J (n:Int)])/\w.heap.size<=gs/\gs<w'.heap.size/\cu w' gs (room*q)/\MW f dt q w0 w' gs room 0 its/\Bl w w':=by
 have hmax:max (room:Int) 0=(room:Int):=om;have HB0:Hid (Bl w0 w):=hb0;have H0:Hid (Bl w (w.alloc (.cells #[sL nn 0 0,I J 0,I J 0] rt))/\blk (w.alloc (.cells #[sL nn 0 0,I J 0,I J 0] rt)) w.heap.size [sL nn 0 0,I J 0,I J 0] rt):=⟨Zw,blk.new w _ rt⟩
 have HPU:Hid (∀ X Pb,blk X Pb (rgL (w.heap.size+1) room 0) rt->w.heap.size+1≠Pb->cu X (w.heap.size+1) (room*q)->w.heap.size+1<X.heap.size->Bl w0 X->w0.heap.size<=Pb->Calls Tp fn #[pT (sQ ⟨Pb,0,nn⟩),sL a n c] X fun o w'=>o = rT (I J (n:Int))/\ptF f dt q rt (rgL (w.heap.size+1) room) w0 X w' Pb (w.heap.size+1) room 0 its n):=by
  intro X Pb h3 h4 h5 h6 h7 h8;have hit:=hi X Pb (w.heap.size+1) h7 h8 (by have:=hb0.size;omega);have:=M5 f dt q ty fn fr (by rcases hK with h | h;exact qr ⟨h.1,h.2.1,h.2.2.1,h.2.2.2.1⟩;exact qx ⟨h.1,h.2.1,h.2.2.1,h.2.2.2.1⟩) hq ho rt (rgL (w.heap.size+1) room) 0 w0 X Pb (w.heap.size+1) room 0 [] its a n c ⟨fun _=>rfl,fun _=>rfl,fun _=>rfl,fun _ _=>rfl⟩ h3 h4 h5 h6 (fun i hi=>Qy hi (nN _)) h1 (nZ _) h2 hit om n (by simp;omega);have e1:([]:List R)++its.take n=its:=by rw[hit.len];simp
  have e2:([]:List R).length+n=n:=pQ;rw[e1,e2] at this;exact this
 have HLD:Hid (∀ X b l,blk X b l rt->l.length=3->(loadVar rt ⟨b,0,nn⟩).run Tp X = .ok (aG l.toArray) X):=by
  intro X b l hl h3;rcases hK with⟨_,_,_,_,_,rfl⟩|⟨_,_,_,_,_,rfl⟩
  .exact QI (P:=Tp) _ b 0 201 _ _ hl.load underlying201 rfl (by rw[h3];exact xX)
  .exact QI (P:=Tp) _ b 0 203 _ _ hl.load underlying203 rfl (by rw[h3];exact xW)
 clear hi h1 hn hb0 hq ho;rcases hK with⟨rfl,rfl,rfl,rfl,rfl,rfl⟩|⟨rfl,rfl,rfl,rfl,rfl,rfl⟩
 all_goals
  first | go_enter func179,ntmps179 | go_enter func180,ntmps180
  go_wp2_with ((first | refine fQ _ 38 67 _ 5 48 info67 underlying38 (by decide) rfl _ _ rfl _ room rfl rfl rfl om ?_ | refine fQ _ 39 175 _ 8 72 info175 underlying39 (by decide) rfl _ _ rfl _ room rfl rfl rfl om ?_);intro w2 hz2 hg2 hl2;have H2:Hid (cu w2 (w.heap.size+1) (room*_)/\w.heap.size+1<w2.heap.size/\Bl w w2/\blk w2 w.heap.size [sL nn 0 0,I J 0,I J 0] _):=⟨by simpa using hz2,by simpa using hl2,⟨hg2.os.trans H0.o.1.os,hg2.tape.trans H0.o.1.tape,hg2.output.trans H0.o.1.output,nT H0.o.1.size hg2.size,fun q hq=>(hg2.block q (nL hq H0.o.1.size) pQ).trans (H0.o.1.block q hq)⟩,(hg2.block _ H0.o.2.lt pQ).trans H0.o.2⟩;clear hz2 hg2 hl2)
  refine (HPU.o _ w2.heap.size (blk.new w2 _ _) (by have:=H2.o.2.1;omega) (H2.o.1.below Zw H2.o.2.1) (by have:=H2.o.2.1;simp;omega) (HB0.o.trans ((H2.o.2.2.1.alloc H2.o.2.2.1.size _).mono HB0.o.size)) (nT HB0.o.size H2.o.2.2.1.size)).mono ?_;rintro o w4 ⟨rfl,hp⟩;have H4:=M3 (M6 H2.o.2 hp);clear hp H2;have y0:=H4.o.1.p.cell 0 _ rfl;have y1:=H4.o.1.p.cell 1 _ rfl;have y2:=H4.o.1.p.cell 2 _ rfl;have x0:=H4.o.2.1.cell 0 _ rfl;have x1:=H4.o.2.1.cell 1 _ rfl;have x2:=H4.o.2.1.cell 2 _ rfl;have z0:=H4.o.2.1.free 0;have z1:=H4.o.2.1.free 1;have z2:=H4.o.2.1.free 2;have hsz:=H4.o.2.2.2.2;go_wp2_with fail;clear y0 y1 y2 x0 x1 x2 z0 z1 z2 hsz;have hF:=((H4.o.2.1.set 0 (sL (sQ ⟨w.heap.size+1,0,nn⟩) room room)).set 1 (I J 0)).set 2 (I J (n:Int));refine QE (rC (by first | exact results179 | exact results180) _ _ w.heap.size _ rfl (HLD.o _ _ _ hF rfl)) rfl ?_;exact⟨w.heap.size+1,rfl,M8 H4.o⟩
def oj (w0 w:World) (hb0:Bl w0 w) (room:Nat) (its:List R5) (a:Option Addr) (n c:Nat) (h:cl w0 a n c its) (h1:1<=room) (h2:room<=1000) (hn:n<=room) :
  Calls Tp 179 #[I J (room:Int),sL a n c] w fun o w'=>∃ gs,o = rT (aG #[sL (sQ ⟨gs,0,nn⟩) room room,I J 0,I J (n:Int)])/\w.heap.size<=gs/\gs<w'.heap.size/\cu w' gs (room*5)/\cE w0 w' gs room 0 its/\Bl w w':=
 M1 f5 R5.l 5 67 209 231 179 201 (qr ⟨rfl,rfl,rfl,rfl,rfl,rfl⟩) (fun _ _ _ _=>rfl) (fun b ao m c=>pP _ _ _ _ _ _ _) w0 w hb0 room its a n c (fun W P gs=>Nb h) h1 h2 hn
def oh (w0 w:World) (hb0:Bl w0 w) (room:Nat) (its:List R8) (a:Option Addr) (n c:Nat) (h:aM w0 a n c its) (h1:1<=room) (h2:room<=1000) (hn:n<=room) :
  Calls Tp 180 #[I J (room:Int),sL a n c] w fun o w'=>∃ gs,o = rT (aG #[sL (sQ ⟨gs,0,nn⟩) room room,I J 0,I J (n:Int)])/\w.heap.size<=gs/\gs<w'.heap.size/\cu w' gs (room*8)/\cw w0 w' gs room 0 its/\Bl w w':=
 M1 f8 R8.l 8 175 210 232 180 203 (qx ⟨rfl,rfl,rfl,rfl,rfl,rfl⟩) (fun _ _ _ _=>rfl) (fun b ao m c=>sT _ _ _ _ _ _ _ _ _ _) w0 w hb0 room its a n c (fun W P gs=>Na h) h1 h2 hn
def ir (W:World) (M:Nat) (p1 tx:Bool) (p:Int) (e1:(p == 1)=p1) (y3:W.cell? ⟨M,3,none⟩=some (I J p)) (y9:W.cell? ⟨M,9,none⟩=some (bO tx)) :
  Calls Tp 86 #[pT (some ⟨M,0,none⟩)] W fun o w'=>o = rT (bO (p1 && tx))/\w'=W:=by
 cases p1
 .go_enter func86,ntmps86;go_wp2_with fail;go_ret;exact⟨rfl,rfl⟩
 .go_enter func86,ntmps86;go_wp2_with fail;go_ret;exact⟨rfl,rfl⟩
def rm (w:World) (v:Int):Calls Tp 19 #[I J v] w fun o w'=>o = rT (bO (decide (v=0\/v=1)))/\w=w':=by
 by_cases h0:v=0
 .subst h0;go_enter func19,ntmps19;go_wp2;go_ret;exact⟨pQ,rfl⟩
 .have d0:(v == 0)=false:=by simpa using h0
  by_cases h1:v=1
  .subst h1;go_enter func19,ntmps19;go_wp2;go_ret;exact⟨pQ,rfl⟩
  .have d1:(v == 1)=false:=by simpa using h1
   go_enter func19,ntmps19;go_wp2;go_ret;exact⟨by simp[h0,h1],rfl⟩
def vmB (C:Co):Bool:=!(!decide (C.lv=0\/C.lv=1) || ((C.lv == 1) && !((C.p == 2) && C.wk && decide (0<C.ct)))) && !(C.wk && (!(C.p == 2) || C.ov)) && !(C.ov && !(C.p == 2) && !(C.p == 3) && !(C.p == 4)) && !(C.ow && !(C.wk && C.tx)) && !(C.tx && ((C.p == 0) || (C.p == 7))) && !(!C.tx && (C.p == 6)) && (!C.ak || (C.p == 7))
def j1 (l p c:Int) (wk:Bool):(!decide (l=0\/l=1) || (l == 1 && !(p == 2 && wk && decide (0<c))))=false↔((0<=l/\l<=1)/\(l=1->p=2/\wk=true/\0<c)):=by
 rw[Bool.or_eq_false_iff,k4];refine and_congr ?_ Iff.rfl;simp;omega
def j5 (p:Int) (tx:Bool):(tx && (p == 0 || p == 7))=false↔(tx=true->p≠7/\p≠0):=by rw[Bool.or_comm];exact k8 p tx
def j6 (p:Int) (tx:Bool):(!tx && p == 6)=false↔(p=6->tx=true):=by rw[Bool.and_comm];exact k9 p tx
def j7 (p:Int) (ak:Bool):(!ak || p == 7)=true↔(ak=true->p=7):=by cases ak <;> simp
def vmG (w:World) (C:Co) (s:Sl):Calls Tp 82 #[aG (coL C s).toArray] w fun o w'=>cK o (vmB C=true)/\Bl w w':=by
 obtain⟨X,HX⟩ : ∃ X:Prop,Hid (X↔(vmB C=true)):=⟨_,Iff.rfl⟩
 rw[<- HX.o];have H1:Hid (ctS w w.heap.size C s (w.alloc (.cells (coL C s).toArray 43))):=ctS.new w C s;have HIL:Hid (∀ W,Calls Tp 19 #[I J C.lv] W fun o w'=>o = rT (bO (decide (C.lv=0\/C.lv=1)))/\W=w'):=fun W=>rm W C.lv;have HB:Hid (vmB C=(!(!decide (C.lv=0\/C.lv=1) || ((C.lv == 1) && !((C.p == 2) && C.wk && decide (0<C.ct)))) && !(C.wk && (!(C.p == 2) || C.ov)) && !(C.ov && !(C.p == 2) && !(C.p == 3) && !(C.p == 4)) && !(C.ow && !(C.wk && C.tx)) && !(C.tx && ((C.p == 0) || (C.p == 7))) && !(!C.tx && (C.p == 6)) && (!C.ak || (C.p == 7)))):=rfl;obtain⟨lk,elk⟩ : ∃ b:Bool,decide (C.lv=0\/C.lv=1)=b:=⟨_,rfl⟩
 obtain⟨l1,el1,nl1⟩ : ∃ b:Bool,(C.lv == 1)=b/\(C.lv != 1) = !b:=⟨_,rfl,rfl⟩
 obtain⟨p2,ep2,np2⟩ : ∃ b:Bool,(C.p == 2)=b/\(C.p != 2) = !b:=⟨_,rfl,rfl⟩
 obtain⟨cp,ecp⟩ : ∃ b:Bool,decide (0<C.ct)=b:=⟨_,rfl⟩
 obtain⟨p3,ep3,np3⟩ : ∃ b:Bool,(C.p == 3)=b/\(C.p != 3) = !b:=⟨_,rfl,rfl⟩
 obtain⟨p4,ep4,np4⟩ : ∃ b:Bool,(C.p == 4)=b/\(C.p != 4) = !b:=⟨_,rfl,rfl⟩
 obtain⟨pz,epz,npz⟩ : ∃ b:Bool,(C.p == 0)=b/\(C.p != 0) = !b:=⟨_,rfl,rfl⟩
 obtain⟨p7,ep7,np7⟩ : ∃ b:Bool,(C.p == 7)=b/\(C.p != 7) = !b:=⟨_,rfl,rfl⟩
 obtain⟨p6,ep6,np6⟩ : ∃ b:Bool,(C.p == 6)=b/\(C.p != 6) = !b:=⟨_,rfl,rfl⟩
 obtain⟨wk,ewk⟩ : ∃ b:Bool,C.wk=b:=⟨_,rfl⟩
 obtain⟨ov,eov⟩ : ∃ b:Bool,C.ov=b:=⟨_,rfl⟩
 obtain⟨ow,eow⟩ : ∃ b:Bool,C.ow=b:=⟨_,rfl⟩
 obtain⟨tx,etx⟩ : ∃ b:Bool,C.tx=b:=⟨_,rfl⟩
 obtain⟨ak,eak⟩ : ∃ b:Bool,C.ak=b:=⟨_,rfl⟩
 rw[elk,el1,ep2,ecp,ep3,ep4,epz,ep7,ep6,ewk,eov,eow,etx,eak] at HB;rw[elk] at HIL;have y0:=H1.o.p.cell 0 (I J C.p) rfl;have y1:=H1.o.p.cell 1 (I J C.ct) rfl;have y2:=H1.o.p.cell 2 (I J C.lv) rfl;have y3:=H1.o.p.cell 3 (bO C.wk) rfl;have y4:=H1.o.p.cell 4 (bO C.ov) rfl;have y5:=H1.o.p.cell 5 (bO C.ow) rfl;have y6:=H1.o.p.cell 6 (bO C.tx) rfl;have y7:=H1.o.p.cell 7 (bO C.ak) rfl;rw[ewk] at y3;rw[eov] at y4;rw[eow] at y5;rw[etx] at y6;rw[eak] at y7;clear ewk eov eow etx eak elk;generalize hwc:w.alloc (.cells (coL C s).toArray 43)=wc at *;go_enter func82,ntmps82;go_upto_region 2 with fail
 try rw[hwc]
 go_cut [7] (fun x wx=>x = bO (!lk || (l1 && !(p2 && wk && cp)))/\wx=wc);case first=>
  as_aux_lemma=>
  clear HX HB;have hh:(lk=true/\l1=true/\p2=true/\wk=true/\cp=true)\/(lk=true/\l1=true/\p2=true/\wk=true/\cp=false)\/(lk=true/\l1=true/\p2=true/\wk=false)\/(lk=true/\l1=true/\p2=false)\/(lk=true/\l1=false)\/(lk=false):=by cases lk <;> cases l1 <;> cases p2 <;> cases wk <;> cases cp <;> simp
  rcases hh with⟨rfl,rfl,rfl,rfl,rfl⟩ | ⟨rfl,rfl,rfl,rfl,rfl⟩ | ⟨rfl,rfl,rfl,rfl⟩ | ⟨rfl,rfl,rfl⟩ | ⟨rfl,rfl⟩ | rfl <;> (
   go_wp2_with (go_at_call 19;refine (HIL.o _).mono ?_;rintro o w2 ⟨rfl,rfl⟩)
   go_meet
   case rel=>exact⟨rfl,rfl⟩)
 case rest=>
 obtain⟨rfl,hw⟩:=hcut;subst hw;obtain⟨c1,g⟩ : ∃ b,(!lk || (l1 && !(p2 && wk && cp)))=b:=⟨_,rfl⟩
 rw[g];have G1:Hid ((!lk || (l1 && !(p2 && wk && cp)))=c1):=g;clear g;cases c1;case true=>
  as_aux_lemma=>
  go_wp2_with fail;go_ret;refine⟨⟨_,rfl,?_⟩,H1.o.b⟩;rw[HX.o,HB.o,G1.o];simp
 case false=>
 go_upto_region 4 with fail
 go_cut [30] (fun x wx=>x = bO (wk && (!p2 || ov))/\wx=wc);case first=>
  as_aux_lemma=>
  clear HX HB;have hh:(wk=true/\p2=true/\ov=true)\/(wk=true/\p2=true/\ov=false)\/(wk=true/\p2=false)\/(wk=false):=by cases wk <;> cases p2 <;> cases ov <;> simp
  rcases hh with⟨rfl,rfl,rfl⟩ | ⟨rfl,rfl,rfl⟩ | ⟨rfl,rfl⟩ | rfl <;> (
   go_wp2_with fail;go_meet
   case rel=>exact⟨rfl,rfl⟩)
 case rest=>
 obtain⟨rfl,hw⟩:=hcut;subst hw;obtain⟨c2,g⟩ : ∃ b,(wk && (!p2 || ov))=b:=⟨_,rfl⟩
 rw[g];have G2:Hid ((wk && (!p2 || ov))=c2):=g;clear g;cases c2;case true=>
  as_aux_lemma=>
  go_wp2_with fail;go_ret;refine⟨⟨_,rfl,?_⟩,H1.o.b⟩;rw[HX.o,HB.o,G2.o];simp
 case false=>
 go_upto_region 6 with fail
 go_cut [41] (fun x wx=>x = bO (ov && !p2 && !p3 && !p4)/\wx=wc);case first=>
  as_aux_lemma=>
  clear HX HB;have hh:(ov=true/\p2=true)\/(ov=true/\p2=false/\p3=true)\/(ov=true/\p2=false/\p3=false/\p4=true)\/(ov=true/\p2=false/\p3=false/\p4=false)\/(ov=false):=by cases ov <;> cases p2 <;> cases p3 <;> cases p4 <;> simp
  rcases hh with⟨rfl,rfl⟩ | ⟨rfl,rfl,rfl⟩ | ⟨rfl,rfl,rfl,rfl⟩ | ⟨rfl,rfl,rfl,rfl⟩ | rfl <;> (
   go_wp2_with fail;go_meet
   case rel=>exact⟨rfl,rfl⟩)
 case rest=>
 obtain⟨rfl,hw⟩:=hcut;subst hw;obtain⟨c3,g⟩ : ∃ b,(ov && !p2 && !p3 && !p4)=b:=⟨_,rfl⟩
 rw[g];have G3:Hid ((ov && !p2 && !p3 && !p4)=c3):=g;clear g;cases c3;case true=>
  as_aux_lemma=>
  go_wp2_with fail;go_ret;refine⟨⟨_,rfl,?_⟩,H1.o.b⟩;rw[HX.o,HB.o,G3.o];simp
 case false=>
 go_upto_region 8 with fail
 go_cut [58] (fun x wx=>x = bO (ow && !(wk && tx))/\wx=wc);case first=>
  as_aux_lemma=>
  clear HX HB;have hh:(ow=true/\wk=true/\tx=true)\/(ow=true/\wk=true/\tx=false)\/(ow=true/\wk=false)\/(ow=false):=by cases ow <;> cases wk <;> cases tx <;> simp
  rcases hh with⟨rfl,rfl,rfl⟩ | ⟨rfl,rfl,rfl⟩ | ⟨rfl,rfl⟩ | rfl <;> (
   go_wp2_with fail;go_meet
   case rel=>exact⟨rfl,rfl⟩)
 case rest=>
 obtain⟨rfl,hw⟩:=hcut;subst hw;obtain⟨c4,g⟩ : ∃ b,(ow && !(wk && tx))=b:=⟨_,rfl⟩
 rw[g];have G4:Hid ((ow && !(wk && tx))=c4):=g;clear g;cases c4;case true=>
  as_aux_lemma=>
  go_wp2_with fail;go_ret;refine⟨⟨_,rfl,?_⟩,H1.o.b⟩;rw[HX.o,HB.o,G4.o];simp
 case false=>
 go_upto_region 10 with fail
 go_cut [70] (fun x wx=>x = bO (tx && (pz || p7))/\wx=wc);case first=>
  as_aux_lemma=>
  clear HX HB;have hh:(tx=true/\pz=true)\/(tx=true/\pz=false/\p7=true)\/(tx=true/\pz=false/\p7=false)\/(tx=false):=by cases tx <;> cases pz <;> cases p7 <;> simp
  rcases hh with⟨rfl,rfl⟩ | ⟨rfl,rfl,rfl⟩ | ⟨rfl,rfl,rfl⟩ | rfl <;> (
   go_wp2_with fail;go_meet
   case rel=>exact⟨rfl,rfl⟩)
 case rest=>
 obtain⟨rfl,hw⟩:=hcut;subst hw;obtain⟨c5,g⟩ : ∃ b,(tx && (pz || p7))=b:=⟨_,rfl⟩
 rw[g];have G5:Hid ((tx && (pz || p7))=c5):=g;clear g;cases c5;case true=>
  as_aux_lemma=>
  go_wp2_with fail;go_ret;refine⟨⟨_,rfl,?_⟩,H1.o.b⟩;rw[HX.o,HB.o,G5.o];simp
 case false=>
 go_upto_region 12 with fail
 go_cut [83] (fun x wx=>x = bO (!tx && p6)/\wx=wc);case first=>
  as_aux_lemma=>
  clear HX HB;have hh:(tx=true)\/(tx=false/\p6=true)\/(tx=false/\p6=false):=by cases tx <;> cases p6 <;> simp
  rcases hh with rfl | ⟨rfl,rfl⟩ | ⟨rfl,rfl⟩ <;> (
   go_wp2_with fail;go_meet
   case rel=>exact⟨rfl,rfl⟩)
 case rest=>
 obtain⟨rfl,hw⟩:=hcut;subst hw;obtain⟨c6,g⟩ : ∃ b,(!tx && p6)=b:=⟨_,rfl⟩
 rw[g];have G6:Hid ((!tx && p6)=c6):=g;clear g;cases c6;case true=>
  as_aux_lemma=>
  go_wp2_with fail;go_ret;refine⟨⟨_,rfl,?_⟩,H1.o.b⟩;rw[HX.o,HB.o,G6.o];simp
 case false=>
 rw[HB.o,G1.o,G2.o,G3.o,G4.o,G5.o,G6.o] at HX;go_upto_region 14 with fail
 go_cut [2] (fun x wx=>x = bO (!ak || p7)/\wx=wc);case first=>
  clear HX HB;have hh:(ak=true/\p7=true)\/(ak=true/\p7=false)\/(ak=false):=by cases ak <;> cases p7 <;> simp
  rcases hh with⟨rfl,rfl⟩ | ⟨rfl,rfl⟩ | rfl <;> (
   go_wp2_with fail;go_meet
   case rel=>exact⟨rfl,rfl⟩)
 case rest=>
 obtain⟨rfl,hw⟩:=hcut;subst hw;go_wp2_with fail;go_ret;refine⟨⟨_,rfl,?_⟩,H1.o.b⟩;rw[HX.o];simp
open Go renaming World->Wd
def Cy:(Tp.info? 140).map (·.size)=some 3:=kr
def E8 (w:Wd):(Instr.index 142 (aG prL.toArray) (I J 0)).run Tp w = .ok (aG #[I J 0,I J 0,.func (.func 140) #[] #[]]) w:=by
 simp[Instr.index,asIntOf,Q3 underlying142,prL,part,sizeOf140,isAgg140]
def ME (w:Wd):(Instr.index 142 (aG prL.toArray) (I J 1)).run Tp w = .ok (aG #[I J 0,I J 0,.func (.func 141) #[] #[]]) w:=by
 simp[Instr.index,asIntOf,Q3 underlying142,prL,part,sizeOf140,isAgg140]
def E6 (w:Wd):(Instr.index 142 (aG prL.toArray) (I J 2)).run Tp w = .ok (aG #[I J 0,I J 5,.func (.func 142) #[] #[]]) w:=by
 simp[Instr.index,asIntOf,Q3 underlying142,prL,part,sizeOf140,isAgg140]
def E5 (w:Wd):(Instr.index 142 (aG prL.toArray) (I J 3)).run Tp w = .ok (aG #[I J 0,I J 15,.func (.func 143) #[] #[]]) w:=by
 simp[Instr.index,asIntOf,Q3 underlying142,prL,part,sizeOf140,isAgg140]
def E0 (w:Wd):(Instr.index 142 (aG prL.toArray) (I J 4)).run Tp w = .ok (aG #[I J 1,I J 7,.func (.func 144) #[] #[]]) w:=by
 simp[Instr.index,asIntOf,Q3 underlying142,prL,part,sizeOf140,isAgg140]
def EZ (w:Wd):(Instr.index 142 (aG prL.toArray) (I J 5)).run Tp w = .ok (aG #[I J 0,I J 2,.func (.func 145) #[] #[]]) w:=by
 simp[Instr.index,asIntOf,Q3 underlying142,prL,part,sizeOf140,isAgg140]
def EY (w:Wd):(Instr.index 142 (aG prL.toArray) (I J 6)).run Tp w = .ok (aG #[I J 0,I J 7,.func (.func 146) #[] #[]]) w:=by
 simp[Instr.index,asIntOf,Q3 underlying142,prL,part,sizeOf140,isAgg140]
def EX (w:Wd):(Instr.index 142 (aG prL.toArray) (I J 7)).run Tp w = .ok (aG #[I J 0,I J 10,.func (.func 147) #[] #[]]) w:=by
 simp[Instr.index,asIntOf,Q3 underlying142,prL,part,sizeOf140,isAgg140]
def vcG (w:Wd) (C:Co) (s:Sl) (lo hi:Int) (n:Nat) (hix:∀ W,(Instr.index 142 (aG prL.toArray) (I J C.p)).run Tp W = .ok (aG #[I J lo,I J hi,.func (.func n) #[] #[]]) W) :
  Calls Tp 81 #[aG (coL C s).toArray] w fun o w'=>cK o ((0<=C.te/\C.te<=256)/\(0<=C.re/\C.re<=255)/\(C.p=7↔C.te=256)/\(lo<=C.ct/\C.ct<=hi)/\(0<=C.rn/\C.rn<=127)/\((C.p=7/\C.ak=true)\/(C.rn=0/\(¬ C.p=7\/C.ct=0))))/\Bl w w':=by
 obtain⟨X,HX⟩ : ∃ X:Prop,Hid (X↔((0<=C.te/\C.te<=256)/\(0<=C.re/\C.re<=255)/\(C.p=7↔C.te=256)/\(lo<=C.ct/\C.ct<=hi)/\(0<=C.rn/\C.rn<=127)/\((C.p=7/\C.ak=true)\/(C.rn=0/\(¬ C.p=7\/C.ct=0))))):=⟨_,Iff.rfl⟩
 rw[<- HX.o];have H0:Hid (ctS w w.heap.size C s (w.alloc (.cells (coL C s).toArray 43))):=ctS.new w _ s;have HPR:Hid (∀ W,Calls Tp 85 #[] W fun o w'=>o = rT (aG prL.toArray)/\Bl W w'):=iN;have HIR:Hid (∀ W v l m,Calls Tp 79 #[I J v,I J l,I J m] W fun o w'=>o = rT (bO (decide (l<=v/\v<=m)))/\W=w'):=dh;have HIX:Hid (∀ W,(Instr.index 142 (aG prL.toArray) (I J C.p)).run Tp W = .ok (aG #[I J lo,I J hi,.func (.func n) #[] #[]]) W):=hix;clear hix;go_enter func81,ntmps81;go_upto_region 1 with fail
 go_cut [3] (fun s3 wx=>∃ b,s3 = pT (some ⟨b,0,none⟩)/\Hid (blk wx b [I J lo,I J hi,.func (.func n) #[] #[]] 140)/\Hid (ctS w w.heap.size C s wx));case first=>
  refine QJ (S:=fun X=>ctS w w.heap.size C s X) kr ?_;have hS:ctS w w.heap.size C s (World.drew (w.alloc (.cells (coL C s).toArray 43))):=H0.o.below (bW _ _).drew;clear H0;change wpAnyH Tp _ _ _ _ _ _ _ (World.drew (w.alloc (.cells (coL C s).toArray 43)));generalize World.drew (w.alloc (.cells (coL C s).toArray 43))=v0 at *;refine tk 1 ?_;refine tk 2 ?_ (hy:=fun W hSw=>by (have y:=hSw.p.cell 0 (I J C.p) rfl;go_simp;try rfl));refine QF (rs:=[0,4]) kr pQ ?_;refine Q8 rfl (fun K2 hK2=>?_) (Q8 rfl (fun K2 hK2=>?_) Q9)
  .go_simp;refine (HPR.o _).mono ?_;rintro o v1 ⟨rfl,hb⟩;have hS1:=hS.below hb;clear hb;go_wp2_with fail;refine hK2.out _ _ hS1 (fun hS2=>?_);clear hK2 K2 hS1 hS;have hS:=hS2;clear hS2;refine wV 3 (aG #[I J lo,I J hi,.func (.func n) #[] #[]]) ?_ hS ?_
   .intro W hSw;clear hS;go_simp;simp only[HIX.o,Result.andThen_ok]
   simp only[aZ];refine al 4 fun K2 hK2=>?_;go_simp;have hS1:ctS w w.heap.size C s (v1.alloc (.cells #[I J 0,I J 0,.nilFunc] 140)):=hS.below Zw;have HRZ:Hid (blk (v1.alloc (.cells #[I J 0,I J 0,.nilFunc] 140)) v1.heap.size [I J 0,I J 0,.nilFunc] 140):=blk.new v1 _ 140;have HBL:Hid (w.heap.size<v1.heap.size):=hS.p.lt;refine hK2.out _ _ hS1 (fun hS2=>?_);clear hK2 K2 hS1 hS;have hS:=hS2;clear hS2;refine al 5 fun K2 hK2=>?_;rw[qc (by rfl)];refine QT 140 (.tmp 3) (.tmp 8) rfl v1.heap.size 0 #[I J lo,I J hi,.func (.func n) #[] #[]] rfl rfl (HRZ.o.there 0 _ pQ) Cy (QK (by simp[Value.oneCell'])) ?_;generalize hW8:World.setCells (v1.alloc (.cells #[I J 0,I J 0,.nilFunc] 140)) v1.heap.size 0 _=w8;have HR:Hid (blk w8 v1.heap.size [I J lo,I J hi,.func (.func n) #[] #[]] 140):=by
    have:=blk.put [] [I J 0,I J 0,.nilFunc] [] [I J lo,I J hi,.func (.func n) #[] #[]] (w:=(v1.alloc (.cells #[I J 0,I J 0,.nilFunc] 140))) (b:=v1.heap.size) (T:=140) (by simpa using HRZ.o) rfl;show blk _ _ _ _;rw[<- hW8];simpa using this
   have hS8:ctS w w.heap.size C s w8:=by
    rw[<- hW8];exact⟨hS.p.kept (sO _ _ (Nat.ne_of_lt HBL.o) _ _ _),sW (qA HBL.o) 0 _ hS.b⟩
   have H1:Hid (ctS w w.heap.size C s w8):=hS8;clear hW8;refine hK2.out _ _ hS8 (fun hS3=>?_);refine QH kr ?_ _;clear hS hK2 K2 hS8 hS3;go_wp2_with fail;go_meet;case rel=>exact⟨_,rfl,HR,H1⟩
  .go_simp;have hS1:ctS w w.heap.size C s (v0.alloc (.cells #[I J 0,I J 0,.nilFunc] 140)):=hS.below Zw;have HRY:Hid (blk (v0.alloc (.cells #[I J 0,I J 0,.nilFunc] 140)) v0.heap.size [I J 0,I J 0,.nilFunc] 140):=blk.new v0 _ 140;have HBL:Hid (w.heap.size<v0.heap.size):=hS.p.lt;refine hK2.out _ _ hS1 (fun hS2=>?_);clear hK2 K2 hS1 hS;have hS:=hS2;clear hS2;refine al 0 fun K2 hK2=>?_;go_simp;refine (HPR.o _).mono ?_;rintro o v1 ⟨rfl,hb⟩;have hS1:=hS.below hb;have HRZ:Hid (blk v1 v0.heap.size [I J 0,I J 0,.nilFunc] 140):=HRY.o.below hb;clear hb HRY;go_wp2_with fail;refine hK2.out _ _ hS1 (fun hS2=>?_);clear hK2 K2 hS1 hS;have hS:=hS2;clear hS2;refine wV 3 (aG #[I J lo,I J hi,.func (.func n) #[] #[]]) ?_ hS ?_
   .intro W hSw;clear hS;go_simp;simp only[HIX.o,Result.andThen_ok]
   simp only[aZ];refine al 5 fun K2 hK2=>?_;rw[qc (by rfl)];refine QT 140 (.tmp 3) (.tmp 8) rfl v0.heap.size 0 #[I J lo,I J hi,.func (.func n) #[] #[]] rfl rfl (HRZ.o.there 0 _ pQ) Cy (QK (by simp[Value.oneCell'])) ?_;generalize hW8:World.setCells v1 v0.heap.size 0 _=w8;have HR:Hid (blk w8 v0.heap.size [I J lo,I J hi,.func (.func n) #[] #[]] 140):=by
    have:=blk.put [] [I J 0,I J 0,.nilFunc] [] [I J lo,I J hi,.func (.func n) #[] #[]] (w:=v1) (b:=v0.heap.size) (T:=140) (by simpa using HRZ.o) rfl;show blk _ _ _ _;rw[<- hW8];simpa using this
   have hS8:ctS w w.heap.size C s w8:=by
    rw[<- hW8];exact⟨hS.p.kept (sO _ _ (Nat.ne_of_lt HBL.o) _ _ _),sW (qA HBL.o) 0 _ hS.b⟩
   have H1:Hid (ctS w w.heap.size C s w8):=hS8;clear hW8;refine hK2.out _ _ hS8 (fun hS3=>?_);refine QH kr ?_ _;clear hS hK2 K2 hS8 hS3;go_wp2_with fail;go_meet;case rel=>exact⟨_,rfl,HR,H1⟩
 case rest=>
 obtain⟨b,rfl,HR,H1⟩:=hcut;have y0:=H1.o.p.cell 0 (I J C.p) rfl;have y1:=H1.o.p.cell 1 (I J C.ct) rfl;have y7:=H1.o.p.cell 7 (bO C.ak) rfl;have y8:=H1.o.p.cell 8 (I J C.rn) rfl;have y9:=H1.o.p.cell 9 (I J C.te) rfl;have y10:=H1.o.p.cell 10 (I J C.re) rfl;have z0:=HR.o.cell 0 (I J lo) rfl;have z1:=HR.o.cell 1 (I J hi) rfl;have bb:∀ (x y:Int),∃ b:Bool,(x == y)=b/\Hid (b=true↔x=y):=fun x y=>⟨_,rfl,by show _↔_;simp⟩
 have bd:∀ (l x m:Int),∃ b:Bool,decide (l<=x/\x<=m)=b/\Hid (b=true↔l<=x/\x<=m):=fun l x m=>⟨_,rfl,by show _↔_;simp⟩
 obtain⟨b7,e7,f7⟩:=bb C.p 7;obtain⟨b2,e2,f2⟩:=bb C.te 256;obtain⟨bn,en,fn⟩:=bb C.rn 0;obtain⟨bc,ec,fc⟩:=bb C.ct 0;obtain⟨bt,et,ft⟩:=bd 0 C.te 256;obtain⟨br,er,fr⟩:=bd 0 C.re 255;obtain⟨bq,eq,fq⟩:=bd lo C.ct hi;obtain⟨bm,em,fm⟩:=bd 0 C.rn 127;obtain⟨ak,ea⟩ : ∃ b,C.ak=b:=⟨_,rfl⟩
 rw[ea] at y7 HX;have n7:(C.p != 7) = !b7:=by rw[<- e7];rfl
 rw[<- ft.o,<- fr.o,<- f7.o,<- f2.o,<- fq.o,<- fm.o,<- fn.o,<- fc.o] at HX;clear bb bd HIX HPR H0 ft fr f7 f2 fq fm fn fc ea;go_upto_region 2 with fail
 go_cut [27] (fun s27 wx=>s27 = bO (!bt || !br || (b7 != b2))/\wx=wc);case first=>
  clear HX;cases bt <;> cases br <;> cases b7 <;> cases b2 <;> (
   go_wp2_with (go_at_call 79;refine (HIR.o _ _ _ _).mono ?_;rintro o w2 ⟨rfl,rfl⟩;first | rw[et] | rw[er])
   go_meet
   case rel=>exact⟨rfl,rfl⟩)
 case rest=>
 obtain⟨rfl,hw⟩:=hcut;subst hw;obtain⟨c1,g1⟩ : ∃ b,(!bt || !br || (b7 != b2))=b:=⟨_,rfl⟩
 rw[g1];have G1:Hid ((!bt || !br || (b7 != b2))=c1):=g1;clear g1 et er e2 y9 y10;cases c1;case true=>
  go_wp2_with fail;go_ret;refine⟨⟨_,rfl,?_⟩,H1.o.b⟩;rw[HX.o];have g:=G1.o;clear HX HIR H1 HR y0 y1 y7 y8 z0 z1 e7 en ec eq em n7 G1;cases bt <;> cases br <;> cases b7 <;> cases b2 <;> simp_all
 case false=>
 go_upto_region 4 with fail
 go_cut [41] (fun s41 wx=>s41 = bO (!bq || !bm)/\wx=wc);case first=>
  clear HX G1;cases bq <;> cases bm <;> (
   go_wp2_with (go_at_call 79;refine (HIR.o _ _ _ _).mono ?_;rintro o w2 ⟨rfl,rfl⟩;first | rw[eq] | rw[em])
   go_meet
   case rel=>exact⟨rfl,rfl⟩)
 case rest=>
 obtain⟨rfl,hw⟩:=hcut;subst hw;obtain⟨c2,g2⟩ : ∃ b,(!bq || !bm)=b:=⟨_,rfl⟩
 rw[g2];have G2:Hid ((!bq || !bm)=c2):=g2;clear g2 eq em z0 z1 HR HIR;cases c2;case true=>
  go_wp2_with fail;go_ret;refine⟨⟨_,rfl,?_⟩,H1.o.b⟩;rw[HX.o];have g:=G2.o;clear HX H1 y0 y1 y7 y8 e7 en ec n7 G1 G2;cases bq <;> cases bm <;> simp_all
 case false=>
 go_upto_region 6 with fail
 go_cut [4] (fun s4 wx=>s4 = bO (b7 && ak)/\wx=wc);case first=>
  clear HX G1 G2;cases b7 <;> cases ak <;> (
   go_wp2_with fail;go_meet
   case rel=>exact⟨rfl,rfl⟩)
 case rest=>
 obtain⟨rfl,hw⟩:=hcut;subst hw;obtain⟨c3,g3⟩ : ∃ b,(b7 && ak)=b:=⟨_,rfl⟩
 rw[g3];have G3:Hid ((b7 && ak)=c3):=g3;clear g3 y7;go_upto_region 7 with fail
 go_cut [2] (fun s2 wx=>s2 = bO (c3 || (bn && (!b7 || bc)))/\wx=wc);case first=>
  clear HX G1 G2 G3;cases c3 <;> cases bn <;> cases b7 <;> cases bc <;> (
   go_wp2_with fail;go_meet
   case rel=>exact⟨rfl,rfl⟩)
 case rest=>
 obtain⟨rfl,hw⟩:=hcut;subst hw;go_wp2_with fail;go_ret;refine⟨⟨_,rfl,?_⟩,H1.o.b⟩;rw[HX.o,<- G3.o];have g:=G1.o;have g':=G2.o;clear HX H1 y0 y1 y8 e7 en ec n7 G1 G2 G3 c3;cases bt <;> cases br <;> cases b7 <;> cases b2 <;> cases bq <;> cases bm <;> simp_all
end Go.Proofs.YtgfolecanghhhaaGreat
