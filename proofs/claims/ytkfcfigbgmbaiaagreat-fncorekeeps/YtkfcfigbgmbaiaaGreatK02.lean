import Derived.Shelf.SlicesE.Clone
import Derived.Test.YtkfcfigbgmbaiaaGreatK01
namespace Go.Proofs.YtkfcfigbgmbaiaaGreat
open Go.Shelf Go.RowKit
open Go.Value renaming int→I,slice→sL,bool→bO,pointer→pT,agg→aG
open Go.IntKind renaming i64→J
open Go.Ending renaming returned→rT
open Go.Proofs.Tryz renaming prog→Tp
variable {w:World} {n:Nat} {bs:List R3}
def Tryz.laysE41_ren:Go.Shelf.Ren:=⟨fun | 41=>177 | n=>n,fun | 22=>34 | 23=>164 | n=>n,fun | n=>n⟩
theorem Tryz.laysE41:Go.Proofs.SlLaysE0.n41 Tp Tryz.laysE41_ren:={
 mixed:=by kernel_rfl
 f41:=⟨Tryz.f177.name,by kernel_rfl,Tryz.func177.trans (congrArg some (by kernel_rfl))⟩
 t4:=Tryz.underlying4
 a4:=Tryz.isAgg4
 z4:=Tryz.sizeOf4
 v4:=Tryz.zeroValue4
 t22:=Tryz.underlying34
 a22:=Tryz.isAgg34
 z22:=Tryz.sizeOf34
 v22:=Tryz.zeroValue34 }
def c3 (bs:List R3):List Value:=bs.flatMap fun b=>[bO b.e,I .u32 b.m,I .u32 b.k]
theorem c3_len (bs:List R3):(c3 bs).length=bs.length*3:=by
 induction bs with
 | nil=>rfl
 | cons b bs ih=>simp only[c3,List.flatMap_cons,List.length_append,List.length_cons,List.length_nil] at ih ⊢;omega
theorem c3_at (bs:List R3):∀ j (h:j<bs.length),(c3 bs)[j*3]?=some (bO bs[j].e)∧(c3 bs)[j*3+1]?=some (I .u32 bs[j].m)∧(c3 bs)[j*3+2]?=some (I .u32 bs[j].k):=by
 induction bs with
 | nil=>intro j h;exact absurd h (nN _)
 | cons b bs ih=>
  intro j h;cases j with
  | zero=>exact⟨rfl,rfl,rfl⟩
  | succ j=>
   have:=ih j (by simpa using h)
   have e:∀ t,(c3 (b :: bs))[(t+3)]?=(c3 bs)[t]?:=fun t=>by simp[c3,List.flatMap_cons]
   have e0:(j+1)*3=j*3+3:=by omega
   have e1:(j+1)*3+1=(j*3+1)+3:=by omega
   have e2:(j+1)*3+2=(j*3+2)+3:=by omega
   rw[e0,e,show j*3+3+1=(j*3+1)+3 by omega,e,show j*3+3+2=(j*3+2)+3 by omega,e]
   exact this
theorem c3_cell {g cap:Nat} (h:isR3s w (some ⟨g,0,none⟩) n cap bs) (t:Nat) (u:Value) (hu:(c3 bs)[t]?=some u):w.cell? ⟨g,0+t,none⟩=some u:=by
 have ht:t<bs.length*3:=by
  have:=(List.getElem?_eq_some_iff.mp hu).1
  rwa [c3_len] at this
 have hj:t / 3<bs.length:=by omega
 have hne:bs≠[]:=by intro e;subst e;simp at hj
 obtain⟨g',off,ha,hc⟩:=h.cells hne
 cases ha
 have x:=hc (t / 3) hj
 obtain⟨y0,y1,y2⟩:=c3_at bs (t / 3) hj
 have hr:t % 3=0∨t % 3=1∨t % 3=2:=by omega
 rcases hr with r|r|r
 ·have e:t=t / 3*3:=by omega
  rw[← e] at y0
  have:=x.c0
  rw[← e] at this
  rw[this,← y0,hu]
 ·have e:t=t / 3*3+1:=by omega
  rw[← e] at y1
  have:=x.c1
  rw[Nat.add_assoc,← e] at this
  rw[this,← y1,hu]
 ·have e:t=t / 3*3+2:=by omega
  rw[← e] at y2
  have:=x.c2
  rw[Nat.add_assoc,← e] at this
  rw[this,← y2,hu]
theorem c3_one (bs:List R3):∀ u ∈ c3 bs,u.oneCell'=true:=by
 intro u hu;simp only[c3,List.mem_flatMap,List.mem_cons,List.not_mem_nil,or_false] at hu
 obtain⟨b,_,rfl | rfl | rfl⟩:=hu <;> rfl
theorem clone_any (w:World) (g n cap:Nat) (bs:List R3) (h:isR3s w (some ⟨g,0,none⟩) n cap bs) (hn:n≤1048576) :
  Calls Tp 177 #[sL (some ⟨g,0,none⟩) n cap] w fun e w'=>∃ v',e = rT v'∧w'.ownsRow w.heap.size 164 3 v' n (c3 bs)∧v'≠sL none 0 0∧Below w.heap.size w w':=by
 obtain⟨i0,hi,hz0,hz1,hz2⟩:=info_parts Tryz.info164
 exact AnyE.slices_Clone Tryz.laysE41 i0 _ 3 12 hi hz0 hz1 hz2 rfl (by omega) Tryz.sizeOf164 g 0 n cap (c3 bs) w (by rw[c3_len,h.len]) (by unfold maxLen;omega) (by omega) (fun j u hj=>c3_cell h j u hj) (c3_one bs)
theorem c3_owns {B:Nat} {v:Value} (hn:n=bs.length) (ho:w.ownsRow B 164 3 v n (c3 bs)) (hv:v≠sL none 0 0) :
  ∃ g cap,v = sL (some ⟨g,0,none⟩) n cap∧B≤g∧g<w.heap.size∧n≤cap∧rowZ w g (n*3)∧St B w (fun W=>isR3s W (some ⟨g,0,none⟩) n cap bs):=by
 rcases ho.2 with⟨e,_⟩|⟨g,cap,cur,hv',hb,hg,hcp,hmx,hsz,htk⟩
 ·exact absurd e hv
 ·have hlt:g<w.heap.size:=by
   rcases Nat.lt_or_ge g w.heap.size with h|h
   ·exact h
   ·rw[Array.getElem?_eq_none h] at hg;cases hg
  have hcur:∀ t,t<n*3→cur[t]?=(c3 bs)[t]?:=by
   intro t ht;rw[← htk,List.getElem?_take_of_lt ht,Array.getElem?_toList]
  have hcell:∀ W:World,W.heap[g]?=w.heap[g]?→∀ t,t<n*3→W.cell? ⟨g,t,none⟩=(c3 bs)[t]?:=by
   intro W hW t ht;have e:W.heap[g]?=some (.cells cur 164 (0,0)):=hW.trans hg
   rw[← hcur t ht]
   simp[World.cell?,e]
  refine⟨g,cap,hv',hb,hlt,hcp,⟨fun t ht=>?_,fun t=>?_⟩,fun W hW=>⟨hn,hcp,fun hne=>⟨g,0,rfl,fun j hj=>?_⟩⟩⟩
  ·rw[hcell w rfl t ht]
   have hl:t<(c3 bs).length:=by rw[c3_len,← hn];exact ht
   exact⟨_,List.getElem?_eq_getElem hl⟩
  ·subst hv';exact World.ownsRow.frozenAt ho t
  ·have e:=hW g hb hlt
   obtain⟨y0,y1,y2⟩:=c3_at bs j hj
   exact⟨(by rw[Nat.zero_add];exact (hcell W e _ (by omega)).trans y0),(by rw[Nat.zero_add];exact (hcell W e _ (by omega)).trans y1),(by rw[Nat.zero_add];exact (hcell W e _ (by omega)).trans y2)⟩
open Go.RowKit
def m8 (C:Int):List Value:=[I J C,I J (C+1),I J (C+1+1),bO (C % 3 == 0),I .u32 (C+1+1+1+1),bO ((C+5) % 3 == 0),I J (C+1+1+1+1+1+1)]
structure atM (w:World) (g o:Nat) (C:Int):Prop where
 row:∀ t (h:t<7),w.cell? ⟨g,o+t,none⟩=some ((m8 C)[t]'(by simpa[m8] using h))
 dat:w.cell? ⟨g,o+7,none⟩=some (sL none 0 0)
theorem atM.new {w:World} {g M:Nat} (h:rowZ w g M) (p:Nat) (hp:p+8≤M) (C:Int) (hd:w.cell? ⟨g,p+7,none⟩=some (sL none 0 0)):atM (setRow w g p (m8 C)) g p C:=
 ⟨fun t ht=>setRow_at g (m8 C) w p t (by simpa[m8] using ht) (h.cell (p+t) (by omega)),(rO g (m8 C) w p (p+7) (by simp[m8])).trans hd⟩
theorem atM.keep {w:World} {g o:Nat} {C:Int} (h:atM w g o C) (vs:List Value) (p:Nat) (hp:o+8≤p∨p+vs.length≤o):atM (setRow w g p vs) g o C:=
 ⟨fun t ht=>(rO g vs w p (o+t) (by omega)).trans (h.row t ht),(rO g vs w p (o+7) (by omega)).trans h.dat⟩
variable {W w:World} {g:Nat}
theorem rowZ.up {N:Nat} (h:rowZ w g N) (he:W.heap[g]?=w.heap[g]?):rowZ W g N:=
 ⟨fun t ht=>by obtain⟨v,hv⟩:=h.cell t ht;exact⟨v,cU hv he⟩,fun t=>by have:=h.free t;simp only[World.frozen?,he] at this ⊢;exact this⟩
theorem atM.up {o:Nat} {C:Int} (h:atM w g o C) (he:W.heap[g]?=w.heap[g]?):atM W g o C:=⟨fun t ht=>cU (h.row t ht) he,cU h.dat he⟩
theorem cell_same (he:W.heap[g]?=w.heap[g]?) (o:Nat):W.cell? ⟨g,o,none⟩=w.cell? ⟨g,o,none⟩:=by simp only[World.cell?,he]
def bx0:R8:=⟨0,0,0,false,0,false,0,[]⟩
variable {w W:World} {m b c d:Int}
theorem rowZ_alloc (w:World) (l:List Value) (T:TypeId):rowZ (w.alloc (.cells l.toArray T)) w.heap.size l.length:=by
 have e:(w.alloc (.cells l.toArray T)).heap[w.heap.size]?=some (.cells l.toArray T):=heap_alloc_new w _
 refine⟨fun t ht=>?_,fun t=>?_⟩
 ·have:=there_block e 0 l.length (by omega) t ht
  rw[Nat.zero_add] at this
  exact Option.isSome_iff_exists.1 this.1
 ·unfold World.frozen?
  rw[e]
  simp
structure nhS (w:World) (m b c d:Int) (W:World):Prop where
 p:W.heap[w.heap.size]?=some (.cells [I J m,I J b,I J c,I J d].toArray 33)
 r:rowZ W (w.heap.size+1) 10
 b:Below w.heap.size w W
 z:w.heap.size+2≤W.heap.size
theorem nhS.below {W':World} (h:nhS w m b c d W) (hb:Below W.heap.size W W'):nhS w m b c d W':=
 ⟨(hb.block _ (by have:=h.z;omega)).trans h.p,h.r.below hb (by have:=h.z;omega),h.b.trans (hb.mono h.b.size),nT h.z hb.size⟩
theorem nhS.put (h:nhS w m b c d W) (vs:List Value) (hv:vs.length=10):nhS w m b c d (setRow W (w.heap.size+1) 0 vs):=
 ⟨(setRow_block _ _ (by omega) vs W 0).trans h.p,h.r.put vs 0 (by omega),setRow_below _ _ (by omega) w vs W 0 h.b,by rw[setRow_size];exact h.z⟩
theorem nhS.cell (h:nhS w m b c d W):W.cell? ⟨w.heap.size,0,none⟩=some (I J m):=by
 have:=range_block h.p 0 (I J m) rfl
 simpa using this
theorem sz35:(Tp.info? 33).map (·.size)=some 4:=by kernel_rfl
structure nhOut (w w':World) (g1 n k1 g2 m:Nat) (bs:List R3):Prop where
 ne:g1≠g2
 l1:w.heap.size≤g1
 u1:g1<w'.heap.size
 l2:w.heap.size≤g2
 u2:g2<w'.heap.size
 c1:n≤k1
 z1:rowZ w' g1 (n*3)
 z2:rowZ w' g2 (m*8)
 s1:St (w.heap.size+2) w' (fun V=>isR3s V (some ⟨g1,0,none⟩) n k1 bs)
 a2:∀ j,j<m→at8 w' g2 (j*8) bx0 none 0 0
theorem at8.upN {g o:Nat} (h:at8 w g o bx0 none 0 0) (he:W.heap[g]?=w.heap[g]?):at8 W g o bx0 none 0 0:=
 ⟨cU h.c0 he,cU h.c1 he,cU h.c2 he,cU h.c3 he,cU h.c4 he,cU h.c5 he,cU h.c6 he,cU h.cs he,⟨rfl,nR _,fun _ hx=>(by cases hx),fun hne=>absurd rfl hne⟩⟩
theorem nhOut.put {g1 n k1 g2 m:Nat} {bs:List R3} (h:nhOut w W g1 n k1 g2 m bs) (h1:w.heap.size+2≤g1) (h2:w.heap.size+2≤g2) (vs:List Value):nhOut w (setRow W (w.heap.size+1) 0 vs) g1 n k1 g2 m bs:=by
 have e1:=setRow_block (w.heap.size+1) g1 (by omega) vs W 0
 have e2:=setRow_block (w.heap.size+1) g2 (by omega) vs W 0
 refine⟨h.ne,h.l1,by rw[setRow_size];exact h.u1,h.l2,by rw[setRow_size];exact h.u2,h.c1,h.z1.up e1,h.z2.up e2,?_,fun j hj=>(h.a2 j hj).upN e2⟩
 rw[← setCells_row]
 exact h.s1.setCells _ _ (by omega) vs
set_option maxRecDepth 20000
set_option maxHeartbeats 16000000
variable {w:World} {B:Nat} {v:Value}
theorem lt_of_some {g:Nat} {o:Obj} (hg:w.heap[g]?=some o):g<w.heap.size:=by
 rcases Nat.lt_or_ge g w.heap.size with h|h
 ·exact h
 ·rw[Array.getElem?_eq_none h] at hg;cases hg
theorem own_slice {n E sz:Nat} {xs:List Value} (ho:w.ownsRow B E sz v n xs) (hv:v≠sL none 0 0) :
  ∃ g cap,v = sL (some ⟨g,0,none⟩) n cap∧B≤g∧g<w.heap.size∧n≤cap∧∀ W:World,W.heap[g]?=w.heap[g]?→∀ t,t<n*sz→W.cell? ⟨g,t,none⟩=xs[t]?:=by
 rcases ho.2 with⟨e,_⟩|⟨g,cap,cur,hv',hb,hg,hcp,hmx,hsz,htk⟩
 ·exact absurd e hv
 ·refine⟨g,cap,hv',hb,lt_of_some hg,hcp,fun W hW t ht=>?_⟩
  have hcur:cur[t]?=xs[t]?:=by rw[← htk,List.getElem?_take_of_lt ht,Array.getElem?_toList]
  have e:W.heap[g]?=some (.cells cur E (0,0)):=hW.trans hg
  rw[← hcur]
  simp[World.cell?,e]
theorem ownsB_bytes {l:List Nat} (h:ownsB w B v l) (hv:v≠sL none 0 0) (hl:∀ x ∈ l,x<256) :
  ∃ g k,v = sL (some ⟨g,0,none⟩) l.length k∧B≤g∧g<w.heap.size∧St B w (fun W=>iB W (some ⟨g,0,none⟩) l.length k l):=by
 obtain⟨g,cap,rfl,h1,h2,h3,h4⟩:=own_slice h hv
 refine⟨g,cap,rfl,h1,h2,fun W hW=>⟨rfl,h3,hl,fun _=>⟨g,0,rfl,fun j hj=>?_⟩⟩⟩
 rw[Nat.zero_add,h4 W (hW g h1 h2) j (by omega),bv_at l j hj]
theorem take_snoc (l:List Nat) (k:Nat) (h:k<l.length):l.take k++[l[k]]=l.take (k+1):=by rw[List.take_succ_eq_append_getElem h]
theorem l1copyFrame_any (w:World) (e:Bool) (i:Nat) (r:Bool) (d:Int) (a:Option Addr) (n cap:Nat) (l:List Nat) (h:iB w a n cap l) (hn:n≤1048576) :
  Calls Tp 132 #[frV e i r d a n cap] w fun o w'=>∃ g k,o = rT (frV e i r d (some ⟨g,0,none⟩) n k)∧(w.heap.size≤g∧g<w'.heap.size∧St (w.heap.size+2) w' (fun W=>iB W (some ⟨g,0,none⟩) n k l)∧w.heap.size+2≤g)∧Below w.heap.size w w':=by
 have HH:Hid (iB w a n cap l):=h
 have HL:Hid (n=l.length):=h.len
 have HSm:Hid (∀ x ∈ l,x<256):=h.small
 have hcp:=h.cap
 clear h;have hB0:Below w.heap.size w ((w.alloc (.cells #[bO e,I .u32 (i:Int),bO r,I J d,sL a n cap] 55)).alloc (.cells #[bO false,I .u32 0,bO false,I J 0,sL none 0 0] 55)):=((bW _ _).alloc (nR _) _).alloc (by simp) _
 have HB0:Hid _:=hB0
 clear hB0;go_enter Tryz.func132,Tryz.ntmps132
 go_wp2_with fail;have hown:=own_nil ((w.alloc (.cells #[bO e,I .u32 (i:Int),bO r,I J d,sL a n cap] 55)).alloc (.cells #[bO false,I .u32 0,bO false,I J 0,sL none 0 0] 55)) (w.heap.size+2) (by simp)
 have x0:((w.alloc (.cells #[bO e,I .u32 (i:Int),bO r,I J d,sL a n cap] 55)).alloc (.cells #[bO false,I .u32 0,bO false,I J 0,sL none 0 0] 55)).heap[w.heap.size]?=some (.cells [bO e,I .u32 (i:Int),bO r,I J d,sL a n cap].toArray 55):=by
  rw[Below.heap_alloc _ _ _ (by simp)]
  exact heap_alloc_new w _
 have x1:rowZ ((w.alloc (.cells #[bO e,I .u32 (i:Int),bO r,I J d,sL a n cap] 55)).alloc (.cells #[bO false,I .u32 0,bO false,I J 0,sL none 0 0] 55)) (w.heap.size+1) 5:=by
  have:=rowZ_alloc (w.alloc (.cells #[bO e,I .u32 (i:Int),bO r,I J d,sL a n cap] 55)) [bO false,I .u32 0,bO false,I J 0,sL none 0 0] 55
  simpa using this
 have hz2:((w.alloc (.cells #[bO e,I .u32 (i:Int),bO r,I J d,sL a n cap] 55)).alloc (.cells #[bO false,I .u32 0,bO false,I J 0,sL none 0 0] 55)).heap.size=w.heap.size+2:=by simp
 have hs2:w.heap.size+1+1=((w.alloc (.cells #[bO e,I .u32 (i:Int),bO r,I J d,sL a n cap] 55)).alloc (.cells #[bO false,I .u32 0,bO false,I J 0,sL none 0 0] 55)).heap.size:=by simp
 simp only[hs2]
 clear hs2;generalize (w.alloc (.cells #[bO e,I .u32 (i:Int),bO r,I J d,sL a n cap] 55)).alloc (.cells #[bO false,I .u32 0,bO false,I J 0,sL none 0 0] 55)=W2 at *;rw[← hz2] at hown
 have HX0:Hid (W2.heap[w.heap.size]?=some (.cells [bO e,I .u32 (i:Int),bO r,I J d,sL a n cap].toArray 55)):=x0
 have HX1:Hid (rowZ W2 (w.heap.size+1) 5):=x1
 have HZ2:Hid (W2.heap.size=w.heap.size+2):=hz2
 clear x0 x1 hz2;go_loopw [3,4] (fun v t wr=>∃ k:Nat,k≤n∧t = I J k∧ownsB wr W2.heap.size v (l.take k)∧(k=0→v = sL (some ⟨W2.heap.size,0,none⟩) 0 0)∧Below W2.heap.size W2 wr) (fun _ t _=>n-(intOf t).toNat)
 case atStart=>exact⟨0,nZ _,rfl,hown,fun _=>rfl,(bW _ _).alloc (nR _) _⟩
 case round=>
  clear hown;obtain⟨k,hk,rfl,ho,hv0,hb⟩:=hrel
  have hrg:=range_block ((hb.block _ (by have:=HZ2.out;omega)).trans HX0.out)
  have y0:=hrg 0 (bO e) rfl
  have y1:=hrg 1 (I .u32 (i:Int)) rfl
  have y2:=hrg 2 (bO r) rfl
  have y3:=hrg 3 (I J d) rfl
  have y4:=hrg 4 (sL a n cap) rfl
  simp only[Nat.zero_add,Nat.add_zero] at y0 y1 y2 y3 y4
  clear hrg;by_cases hlt:k<n
  ·have hkl:k<l.length:=by have:=HL.out;omega
   obtain⟨g0,o0,rfl,hc⟩:=HH.out.cells (by intro e;rw[e] at hkl;exact absurd hkl (nN _))
   have hx:=hc k hkl
   have hgz:g0<w.heap.size:=World.block_lt_of_cell? w _ hx
   have xk:=(hb.cell (p:=⟨g0,o0+k,none⟩) (by have:=HZ2.out;show g0<_;omega)).trans ((HB0.out.cell (p:=⟨g0,o0+k,none⟩) (by exact hgz)).trans hx)
   have HO:Hid (ownsB wr W2.heap.size u3 (l.take k)):=ho
   have HB:Hid (Below W2.heap.size W2 wr):=hb
   have HT:Hid (l.take k++[l[k]]=l.take (k+1)):=take_snoc l k hkl
   have HLT:Hid ((l.take k).length≤100000000):=by show _≤_;rw[List.length_take];omega
   clear ho hb hc hx hv0;generalize l[k]=ck at *;go_wp2_with (first | (at_builtin;refine app_byte W2 wr rfl (.tmp 13) (.tmp 19) rfl W2.heap.size u3 (l.take k) ck _ rfl rfl HO.out rfl HLT.out HB.out.size HB.out ?_;intro v' w' ho' hb' _))
   go_roundw
   case rel=>exact⟨k+1,by omega,by go_num,by rw[← HT.out];exact ho',fun e=>absurd e (by omega),hb'⟩
   case measure=>simp[intOf];omega
  ·have hkn:k=n:=by omega
   subst hkn;have htk:l.take k=l:=by rw[List.take_of_length_le (by have:=HL.out;omega)]
   rw[htk] at ho
   have hnn:u3≠sL none 0 0:=by
    intro e;by_cases hk0:k=0
    ·rw[hv0 hk0] at e;cases e
    ·subst e;rcases ho.2 with⟨_,h⟩|⟨g,_,_,h,_⟩
     ·have:=HL.out;omega
     ·cases h
   obtain⟨g1,k1,rfl,q1,q2,q3⟩:=ownsB_bytes ho hnn HSm.out
   rw[← HL.out] at q3 ⊢
   have HQ:Hid (w.heap.size+2≤g1∧g1<wr.heap.size∧St W2.heap.size wr (fun W=>iB W (some ⟨g1,0,none⟩) k k1 l)):=⟨by have:=HZ2.out;omega,q2,q3⟩
   have HB:Hid (Below w.heap.size w wr):=HB0.out.trans (hb.mono (by have:=HZ2.out;omega))
   have hZ:=HX1.out.below hb (by have:=HZ2.out;omega)
   obtain⟨u0,z0⟩:=hZ.cell 0 (by omega)
   obtain⟨u1,z1⟩:=hZ.cell 1 (by omega)
   obtain⟨u2,z2⟩:=hZ.cell 2 (by omega)
   obtain⟨u3,z3⟩:=hZ.cell 3 (by omega)
   obtain⟨u4,z4⟩:=hZ.cell 4 (by omega)
   have f0:=hZ.free 0
   have f1:=hZ.free 1
   have f2:=hZ.free 2
   have f3:=hZ.free 3
   have f4:=hZ.free 4
   clear hZ q1 q2 q3 ho hb hv0 hnn htk;go_wp2
   refine bodyPost_ret (v:=frV e i r d (some ⟨g1,0,none⟩) k k1) (by simp[results,Tryz.results132,go_sem,z0,z1,z2,z3,z4]) rfl ?_
   have hq:=HQ.out
   have hz:=HZ2.out
   refine⟨g1,k1,rfl,⟨by omega,by simpa using hq.2.1,?_,hq.1⟩,?_⟩
   ·rw[show w.heap.size+2=W2.heap.size from hz.symm]
    exact ((((hq.2.2.set _ _ (by omega) _).set _ _ (by omega) _).set _ _ (by omega) _).set _ _ (by omega) _).set _ _ (by omega) _
   ·(repeat refine Below.setCell ?_ (by simp) _)
    exact HB.out
variable {w w':World} {T:TypeId} {b:Nat} {l:List Value} {fn:Func} {x:Tmp} {o:Oper} {a:Act} {Q:Exit→Act→World→Prop}
theorem rC (h:fn.results = #[.cell x T]) (tmps:Array Value) (w:World) (b:Nat) (V:Value) (h2:tmps.getD x undef = pT (some ⟨b,0,none⟩)) (hL:(loadVar T ⟨b,0,none⟩).run Tp w = .ok V w):(results fn tmps).run Tp w = .ok V w:=by
 simp only[Array.getD_eq_getD_getElem?] at h2
 simp[results,h,h2,asAddr,hL]
theorem results_cell_tmp {y:Tmp} (h:fn.results = #[.cell x T,.tmp y]) (tmps:Array Value) (w:World) (b:Nat) (V:Value) (h2:tmps.getD x undef = pT (some ⟨b,0,none⟩)) (hL:(loadVar T ⟨b,0,none⟩).run Tp w = .ok V w):(results fn tmps).run Tp w = .ok (.tuple #[V,tmps.getD y undef]) w:=by
 simp only[Array.getD_eq_getD_getElem?] at h2
 simp[results,h,h2,asAddr,hL]
def blk (w:World) (b:Nat) (l:List Value) (T:TypeId):Prop:=w.heap[b]?=some (.cells l.toArray T (0,0))
theorem blk.new (w:World) (l:List Value) (T:TypeId):blk (w.alloc (.cells l.toArray T)) w.heap.size l T:=heap_alloc_new w _
theorem blk.alloc (h:blk w b l T) (o:Obj):blk (w.alloc o) b l T:=(Below.heap_alloc _ _ _ (lt_of_some h)).trans h
theorem blk.below (h:blk w b l T) (hb:Below w.heap.size w w'):blk w' b l T:=(hb.block _ (lt_of_some h)).trans h
theorem blk.lt (h:blk w b l T):b<w.heap.size:=lt_of_some h
theorem blk.put (pre old post vs:List Value) (h:blk w b (pre++old++post) T) (hl:old.length=vs.length):blk (w.setCells b pre.length vs) b (pre++vs++post) T:=setCells_block b T vs old pre post w hl h
theorem blk.other {b':Nat} (h:blk w b l T) (hb:b≠b') (o:Nat) (vs:List Value):blk (w.setCells b' o vs) b l T:=(sO b' b hb vs w o).trans h
theorem blk.load (h:blk w b l T):w.rangeAt b 0 l:=range_block h
theorem blk.there (h:blk w b l T) (o n:Nat) (ho:o+n≤l.length):w.there b o n:=there_block h o n ho
theorem blk.cell (h:blk w b l T) (o:Nat) (v:Value) (ho:l[o]?=some v):w.cell? ⟨b,o,none⟩=some v:=by
 have:=range_block h o v ho
 simpa using this
theorem blk.free (h:blk w b l T) (o:Nat):w.frozen? ⟨b,o,none⟩=false:=by
 unfold World.frozen?
 rw[h]
 simp
theorem blk.kept (h:blk w b l T) (he:w'.heap[b]?=w.heap[b]?):blk w' b l T:=he.trans h
theorem sZ (w:World) (b o:Nat) (vs:List Value):(w.setCells b o vs).heap.size=w.heap.size:=by rw[setCells_row,setRow_size]
theorem sW {B:Nat} (hB:B≤b) {w0 w:World} (o:Nat) (vs:List Value) (h:Below B w0 w):Below B w0 (w.setCells b o vs):=by rw[setCells_row];exact setRow_below b B hB w0 vs w o h
theorem sz93:(Tp.info? 55).map (·.size)=some 5:=by kernel_rfl
theorem one5 (e:Bool) (i:Int) (r:Bool) (d:Int) (a:Option Addr) (n c:Nat):(#[bO e,I .u32 i,bO r,I J d,sL a n c]:Array Value).all (·.oneCell')=true:=
 all_oneCell_toArray (by simp[Value.oneCell'])
theorem l3copyBox_any (w:World) (x y z:Int) (e:Bool) (i:Nat) (r:Bool) (d:Int) (a:Option Addr) (n cap:Nat) (l:List Nat) (h:iB w a n cap l) (hn:n≤1048576) :
  Calls Tp 131 #[bxV x y z e i r d a n cap] w fun o w'=>∃ g k,o = rT (bxV x y z e i r d (some ⟨g,0,none⟩) n k)∧(w.heap.size≤g∧g<w'.heap.size∧St (w.heap.size+2) w' (fun W=>iB W (some ⟨g,0,none⟩) n k l)∧w.heap.size+2≤g)∧Below w.heap.size w w':=by
 have HH:Hid (iB w a n cap l):=h
 clear h;go_enter Tryz.func131,Tryz.ntmps131
 go_wp2_with (first | (go_at_call 132;refine (l1copyFrame_any _ e i r d a n cap l (HH.out.below ?_) hn).mono ?_))
 ·exact ((bW _ _).alloc (nR _) _).alloc (by simp) _
 ·rintro o w1 ⟨g,k,rfl,⟨hg,hgz,hst,hg2⟩,hb⟩;have HP:Hid (blk w1 w.heap.size ([I J x,I J y,I J z]++[bO e,I .u32 (i:Int),bO r,I J d,sL a n cap]++[]) 166):=((blk.new w _ 166).alloc _).below hb
  have HR:Hid (blk w1 (w.heap.size+1) ([]++[I J 0,I J 0,I J 0,bO false,I .u32 0,bO false,I J 0,sL none 0 0]++[]) 166):=by
   have:=(blk.new (w.alloc (.cells [I J x,I J y,I J z,bO e,I .u32 (i:Int),bO r,I J d,sL a n cap].toArray 166)) [I J 0,I J 0,I J 0,bO false,I .u32 0,bO false,I J 0,sL none 0 0] 166).below hb
   simpa[Hid] using this
  have HB:Hid (Below w.heap.size w w1):=(((bW w.heap.size w).alloc (nR _) _).alloc (by simp) _).trans (hb.mono (by simp;omega))
  have HG:Hid (w.heap.size+2≤g∧g<w1.heap.size∧St (w.heap.size+2) w1 (fun W=>iB W (some ⟨g,0,none⟩) n k l)):=by
   simp at hg hst
   exact⟨by omega,hgz,hst.mono (by omega)⟩
  clear hb hg hgz hst hg2;go_wp2_with (first
   | (refine wpList_store_mid (P:=Tp) rfl 55 (.tmp 6) (.tmp 5) rfl w.heap.size 3 #[bO e,I .u32 (i:Int),bO r,I J d,sL (some ⟨g,0,none⟩) n k] rfl rfl (HP.out.there 3 5 (by simp)) sz93 (one5 _ _ _ _ _ _ _) ?_;generalize hW2:World.setCells w1 w.heap.size 3 _=w2;have HW2:Hid (World.setCells w1 w.heap.size 3 [bO e,I .u32 (i:Int),bO r,I J d,sL (some ⟨g,0,none⟩) n k]=w2):=hW2;have HP2:Hid (blk w2 w.heap.size [I J x,I J y,I J z,bO e,I .u32 (i:Int),bO r,I J d,sL (some ⟨g,0,none⟩) n k] 166):=(hW2 ▸ blk.put [I J x,I J y,I J z] _ [] [bO e,I .u32 (i:Int),bO r,I J d,sL (some ⟨g,0,none⟩) n k] HP.out rfl);have HR2:Hid (blk w2 (w.heap.size+1) ([]++[I J 0,I J 0,I J 0,bO false,I .u32 0,bO false,I J 0,sL none 0 0]++[]) 166):=(hW2 ▸ HR.out.other (by omega) _ _);clear hW2)
   | (refine lq166 HP2.out.load ?_)
   | (refine wpList_store_mid (P:=Tp) rfl 166 (.tmp 2) (.tmp 7) rfl (w.heap.size+1) 0 _ rfl rfl (HR2.out.there 0 8 (by simp)) sz95 (one8 _ _ _ _ _ _ _ _ _ _) ?_;generalize hW3:World.setCells w2 (w.heap.size+1) 0 _=w3;have HW3:Hid (World.setCells w2 (w.heap.size+1) 0 [I J x,I J y,I J z,bO e,I .u32 (i:Int),bO r,I J d,sL (some ⟨g,0,none⟩) n k]=w3):=hW3;clear hW3))
  have e2:=HW2.out
  have e3:=HW3.out
  have hF:blk w3 (w.heap.size+1) [I J x,I J y,I J z,bO e,I .u32 (i:Int),bO r,I J d,sL (some ⟨g,0,none⟩) n k] 166:=e3 ▸ blk.put [] _ [] _ HR2.out rfl
  have hL:=run_loadVar_mid (P:=Tp) w3 (w.heap.size+1) 0 166 _ _ hF.load Tryz.underlying166 rfl sz95
  refine bodyPost_ret (v:=bxV x y z e i r d (some ⟨g,0,none⟩) n k) (rC Tryz.results131 _ w3 (w.heap.size+1) _ rfl hL) rfl ?_
  obtain⟨g1,g2,g3⟩:=HG.out
  subst e2;subst e3;refine⟨g,k,rfl,⟨by omega,by rw[sZ,sZ];exact g2,(g3.setCells _ _ (by omega) _).setCells _ _ (by omega) _,g1⟩,?_⟩
  exact sW (by omega) _ _ (sW (by omega) _ _ HB.out)
theorem run_app (T R E:TypeId) (Z:Value) (sz by_:Nat) (hi0:(Tp.info? E).map (fun i=>(i.zero,i.size,i.bytes))=some (some Z,sz,by_)) (hu:Tp.underlying T=some (.slice E)) (hZ:Z.cells.size=sz) (hsz:0<sz) (hby:by_≤1000)
  (B g n k:Nat) (xs:List Value) (hown:w.ownsRow B E sz (sL (some ⟨g,0,none⟩) n k) n xs) (b:Nat) (news:List Value) (hl:news.length=sz) (hb:w.heap[b]?=some (.cells news.toArray E)) (h1:∀ u ∈ news,u.oneCell'=true) (hn:n≤100000000) (hB:B≤w.heap.size) :
  ∃ g' k' w',(Builtin.append_ #[T,T] R #[sL (some ⟨g,0,none⟩) n k,sL (some ⟨b,0,none⟩) 1 1]).run Tp w = .ok (sL (some ⟨g',0,none⟩) (n+1) k') w'∧w'.ownsRow B E sz (sL (some ⟨g',0,none⟩) (n+1) k') (n+1) (xs++news)∧w.grownBy w' (some g)∧(g'=g∨g'=w.heap.size)∧g<w'.heap.size∧B≤g':=by
 obtain⟨i0,hi,hz0,hz1,hz2⟩:=info_parts hi0
 have hmul:(n+1)*by_≤(n+1)*1000:=Nat.mul_le_mul_left _ hby
 obtain⟨v',w',hr,h2,h3,h4,h5⟩:=run_append_own_at (P:=Tp) w B T R E i0 Z sz by_ hu hi hz0 hz1 hz2 hZ hsz (sL (some ⟨g,0,none⟩) n k) n xs hown ⟨b,0,none⟩ 1 1 news (by rw[hl,Nat.one_mul]) (by
  intro j u hj;have:=range_block hb j u hj
  rw[Addr.add_lit]
  exact this) h1 (by unfold maxLen;omega) (by omega) hB
 have hne:v'≠sL none 0 0:=by
  intro e;obtain⟨e1,_⟩:=h4.1 e
  cases e1
 obtain⟨g',k',rfl,q1,q2,q3,q4⟩:=own_slice h2 hne
 refine⟨g',k',w',hr,h2,h3,?_,nL (World.ownsRow.lt hown g rfl).2 h3.size,q1⟩
 rcases h5 with h|h
 ·left
  simpa[Value.ownBlock] using h
 ·right
  simpa[Value.ownBlock] using h
theorem app_rec {ops:Array Oper} {rest:List Oper} (hgd:o.guard=none) (s x:Operand) (T E:TypeId) (Z:Value) (sz by_:Nat) (hi0:(Tp.info? E).map (fun i=>(i.zero,i.size,i.bytes))=some (some Z,sz,by_)) (hu:Tp.underlying T=some (.slice E)) (hZ:Z.cells.size=sz) (hsz:0<sz) (hby:by_≤1000)
  (ho:o.op = .call { callee:=.builtin .append,args:=#[s,x],argTypes:=#[T,T] })
  (B g n k:Nat) (xs:List Value) (hs:a.eval s = sL (some ⟨g,0,none⟩) n k) (hown:w.ownsRow B E sz (sL (some ⟨g,0,none⟩) n k) n xs) (b:Nat) (news:List Value) (hx:a.eval x = sL (some ⟨b,0,none⟩) 1 1) (hl:news.length=sz) (hb:w.heap[b]?=some (.cells news.toArray E)) (h1:∀ u ∈ news,u.oneCell'=true) (hn:n≤100000000) (hB:B≤w.heap.size)
  (h:∀ g' k' w',w'.ownsRow B E sz (sL (some ⟨g',0,none⟩) (n+1) k') (n+1) (xs++news)→w.grownBy w' (some g)→(g'=g∨g'=w.heap.size)→B≤g'→wpList Tp ops Q rest (a.put o.dst (sL (some ⟨g',0,none⟩) (n+1) k')) w') :
  wpList Tp ops Q (o :: rest) a w:=by
 obtain⟨g',k',w',hr,h2,h3,h4,h5,h6⟩:=run_app T o.type E Z sz by_ hi0 hu hZ hsz hby B g n k xs hown b news hl hb h1 hn hB
 refine wpList_plain hgd fun K hK=>?_
 unfold Oper.wp execOp
 simp only[ho,resolve,invoke,builtin,Sem.run_bind,Sem.run_pure,Result.andThen_ok,List.map_toArray,List.map_cons,List.map_nil,hs,hx,hr]
 exact hK _ _ (h g' k' w' h2 h3 h4 h6)
theorem wp_app_rec {K:Act→World→Prop} (s x:Operand) (T E:TypeId) (Z:Value) (sz by_:Nat) (hi0:(Tp.info? E).map (fun i=>(i.zero,i.size,i.bytes))=some (some Z,sz,by_)) (hu:Tp.underlying T=some (.slice E)) (hZ:Z.cells.size=sz) (hsz:0<sz) (hby:by_≤1000)
  (ho:o.op = .call { callee:=.builtin .append,args:=#[s,x],argTypes:=#[T,T] })
  (B g n k:Nat) (xs:List Value) (hs:a.eval s = sL (some ⟨g,0,none⟩) n k) (hown:w.ownsRow B E sz (sL (some ⟨g,0,none⟩) n k) n xs) (b:Nat) (news:List Value) (hx:a.eval x = sL (some ⟨b,0,none⟩) 1 1) (hl:news.length=sz) (hb:w.heap[b]?=some (.cells news.toArray E)) (h1:∀ u ∈ news,u.oneCell'=true) (hn:n≤100000000) (hB:B≤w.heap.size)
  (h:∀ g' k' w',w'.ownsRow B E sz (sL (some ⟨g',0,none⟩) (n+1) k') (n+1) (xs++news)→w.grownBy w' (some g)→(g'=g∨g'=w.heap.size)→B≤g'→K (a.put o.dst (sL (some ⟨g',0,none⟩) (n+1) k')) w') :
  o.wp Tp a w K Q:=by
 obtain⟨g',k',w',hr,h2,h3,h4,h5,h6⟩:=run_app T o.type E Z sz by_ hi0 hu hZ hsz hby B g n k xs hown b news hl hb h1 hn hB
 unfold Oper.wp execOp
 simp only[ho,resolve,invoke,builtin,Sem.run_bind,Sem.run_pure,Result.andThen_ok,List.map_toArray,List.map_cons,List.map_nil,hs,hx,hr]
 exact h g' k' w' h2 h3 h4 h6
theorem lq55 {ops:Array Oper} {rest:List Oper} {op:Oper} {a:Act} {w:World} {Q:Exit→Act→World→Prop} {b o:Nat} {x:Operand} {cs:List Value} (hc:w.rangeAt b o cs) (h:wpList Tryz.prog ops Q rest (a.put op.dst (.agg cs.toArray)) w) (hgd:op.guard=none:=by rfl) (ho:op.op = .load 55 x:=by rfl) (hx:a.eval x = .pointer (some ⟨b,o,none⟩):=by rfl) (hi:(Tryz.prog.info? 55).map (·.size)=some cs.length:=by exact sz93):wpList Tryz.prog ops Q (op :: rest) a w:=wpList_load_mid hgd 55 x ho b o hx cs _ hc Tryz.underlying55 rfl hi h
theorem bC {fn:Func} {x:Tmp} {T:TypeId} {R:Ending→World→Prop} {a:Act} {w:World} {b:Nat} {V:Value} (h:fn.results=#[.cell x T]) (hL:(loadVar T ⟨b,0,none⟩).run Tryz.prog w = .ok V w) (hR:R (.returned V) w) (h2:a.tmps.getD x undef = .pointer (some ⟨b,0,none⟩):=by rfl) (hd:a.defers=[]:=by rfl):bodyPost Tryz.prog fn R .ret a w:=bodyPost_ret (rC h _ w b V h2 hL) hd hR
variable {w w':World} {B E g k sz:Nat}
structure Rc (α:Type) where
 enc:α→List Value
 ld:α→List Nat
 gd:α→Nat
 kd:α→Nat
theorem flat_len {α:Type} (f:α→List Value) (sz:Nat) (hf:∀ p,(f p).length=sz) (rs:List α):(rs.flatMap f).length=rs.length*sz:=by
 induction rs with
 | nil=>simp
 | cons p rs ih=>rw[List.flatMap_cons,List.length_append,ih,hf,List.length_cons,Nat.succ_mul,Nat.add_comm]
theorem flat_at {α:Type} (f:α→List Value) (sz:Nat) (hf:∀ p,(f p).length=sz):∀ (rs:List α) (j:Nat) (h:j<rs.length) (t:Nat),t<sz→(rs.flatMap f)[j*sz+t]?=(f rs[j])[t]?:=by
 intro rs;induction rs with
 | nil=>intro j h;exact absurd h (nN _)
 | cons p rs ih=>
  intro j h t ht;rw[List.flatMap_cons]
  cases j with
  | zero=>rw[Nat.zero_mul,Nat.zero_add,List.getElem?_append_left (by rw[hf];exact ht)];rfl
  | succ j=>
   rw[List.getElem?_append_right (by rw[hf,Nat.succ_mul];omega),hf,show (j+1)*sz+t-sz=j*sz+t by rw[Nat.succ_mul];omega,ih j (by simpa using h) t ht]
   rfl
structure ownG {α:Type} (F:Rc α) (w:World) (B E sz g k:Nat) (rs:List α):Prop where
 own:w.ownsRow B E sz (sL (some ⟨g,0,none⟩) rs.length k) rs.length (rs.flatMap F.enc)
 dat:∀ p ∈ rs,iB w (some ⟨F.gd p,0,none⟩) (F.ld p).length (F.kd p) (F.ld p)∧B≤F.gd p∧F.gd p≠g∧F.gd p<w.heap.size
theorem oK {n:Nat} {xs:List Value} (h:w.ownsRow B E sz (sL (some ⟨g,0,none⟩) n k) n xs) (he:w'.heap[g]?=w.heap[g]?):w'.ownsRow B E sz (sL (some ⟨g,0,none⟩) n k) n xs:=by
 refine⟨h.1,?_⟩
 rcases h.2 with⟨e,_⟩|⟨g1,cap,cur,hv',hb,hg,hcp,hmx,hsz,htk⟩
 ·cases e
 ·have e1:g1=g:=by cases hv';rfl
  subst e1;exact .inr ⟨g1,cap,cur,hv',hb,he.trans hg,hcp,hmx,hsz,htk⟩
theorem ownG.lt {α:Type} {F:Rc α} {rs:List α} (h:ownG F w B E sz g k rs):B≤g∧g<w.heap.size:=World.ownsRow.lt h.own g rfl
theorem ownG.kept {α:Type} {F:Rc α} {rs:List α} (h:ownG F w B E sz g k rs) (he:∀ b,B≤b→b<w.heap.size→w'.heap[b]?=w.heap[b]?) (hz:w.heap.size≤w'.heap.size):ownG F w' B E sz g k rs:=by
 have hl:=h.lt
 refine⟨oK h.own (he g hl.1 hl.2),fun p hp=>?_⟩
 obtain⟨h1,h2,h3,h4⟩:=h.dat p hp
 exact⟨h1.other (he _ h2 h4),h2,h3,nL h4 hz⟩
theorem ownG.below {α:Type} {F:Rc α} {rs:List α} (h:ownG F w B E sz g k rs) (hb:Below w.heap.size w w'):ownG F w' B E sz g k rs:=h.kept (fun b _ h2=>hb.block b h2) hb.size
theorem ownG.alloc {α:Type} {F:Rc α} {rs:List α} (h:ownG F w B E sz g k rs) (o:Obj):ownG F (w.alloc o) B E sz g k rs:=h.kept (fun b _ h2=>Below.heap_alloc _ _ _ h2) (by simp)
theorem ownG.set {α:Type} {F:Rc α} {rs:List α} (h:ownG F w B E sz g k rs) (b o:Nat) (hb:b<B) (vs:List Value):ownG F (w.setCells b o vs) B E sz g k rs:=h.kept (fun k hk _=>sO b k (by omega) vs w o) (by rw[sZ];exact nR _)
theorem ownG.nil {α:Type} (F:Rc α) (w:World) (B E sz:Nat) (hB:B≤w.heap.size):ownG F (w.alloc (.cells #[] E)) B E sz w.heap.size 0 []:=
 ⟨World.ownsRow_made w #[] 0 hB (by decide) (by simp),fun p hp=>by cases hp⟩
theorem ownG.snoc {α:Type} {F:Rc α} {g' k':Nat} {rs:List α} (h:ownG F w B E sz g k rs) (p:α) (hd:iB w (some ⟨F.gd p,0,none⟩) (F.ld p).length (F.kd p) (F.ld p)) (h1:B≤F.gd p) (h2:F.gd p≠g) (h3:F.gd p<w.heap.size)
  (ho:w'.ownsRow B E sz (sL (some ⟨g',0,none⟩) (rs.length+1) k') (rs.length+1) (rs.flatMap F.enc++F.enc p)) (hg:w.grownBy w' (some g)) (hg':g'=g∨g'=w.heap.size):ownG F w' B E sz g' k' (rs++[p]):=by
 refine⟨?_,fun q hq=>?_⟩
 ·have e1:(rs++[p]).length=rs.length+1:=by simp
  have e2:(rs++[p]).flatMap F.enc=rs.flatMap F.enc++F.enc p:=by simp
  rw[e1,e2]
  exact ho
 ·have key:iB w (some ⟨F.gd q,0,none⟩) (F.ld q).length (F.kd q) (F.ld q)∧B≤F.gd q∧F.gd q≠g∧F.gd q<w.heap.size:=by
   rcases List.mem_append.1 hq with hq|hq
   ·exact h.dat q hq
   ·have e:q=p:=by simpa using hq
    subst e;exact⟨hd,h1,h2,h3⟩
  obtain⟨k1,k2,k3,k4⟩:=key
  refine⟨k1.other (hg.block _ k4 (by intro e;exact k3 (Option.some.inj e))),k2,?_,nL k4 hg.size⟩
  rcases hg' with rfl|rfl
  ·exact k3
  ·omega
def rc8:Rc (R8 × Nat × Nat):=⟨fun p=>[I J p.1.x,I J p.1.y,I J p.1.z,bO p.1.e,I .u32 (p.1.i:Int),bO p.1.r,I J p.1.d,sL (some ⟨p.2.1,0,none⟩) p.1.l.length p.2.2],fun p=>p.1.l,fun p=>p.2.1,fun p=>p.2.2⟩
def rc5:Rc (R5 × Nat × Nat):=⟨fun p=>[bO p.1.e,I .u32 (p.1.i:Int),bO p.1.r,I J p.1.d,sL (some ⟨p.2.1,0,none⟩) p.1.l.length p.2.2],fun p=>p.1.l,fun p=>p.2.1,fun p=>p.2.2⟩
theorem ownG.r8 {rs:List (R8 × Nat × Nat)} (h:ownG rc8 w B E 8 g k rs):St B w (fun W=>isR8s W (some ⟨g,0,none⟩) rs.length k (rs.map (·.1))):=by
 intro W hW;have hl:=h.lt
 have hwW:=fun b hb1 hb2=>hW b hb1 hb2
 obtain⟨g1,c1,e1,q1,q2,q3,q4⟩:=own_slice h.own (by intro e;cases e)
 cases e1
 refine⟨by simp,q3,fun _=>⟨g,0,rfl,fun j hj=>?_⟩⟩
 have hj':j<rs.length:=by simpa using hj
 obtain⟨d1,d2,d3,d4⟩:=h.dat rs[j] (List.getElem_mem hj')
 have hc:∀ t,t<8→W.cell? ⟨g,j*8+t,none⟩=(rc8.enc rs[j])[t]?:=fun t ht=>by
  rw[q4 W (hW g hl.1 hl.2) (j*8+t) (by omega),flat_at rc8.enc 8 (fun _=>rfl) rs j hj' t ht]
 rw[Nat.zero_add,List.getElem_map]
 exact⟨_,_,_,hc 0 (by omega),hc 1 (by omega),hc 2 (by omega),hc 3 (by omega),hc 4 (by omega),hc 5 (by omega),hc 6 (by omega),hc 7 (by omega),d1.other (hW _ d2 d4)⟩
theorem ownG.r5 {rs:List (R5 × Nat × Nat)} (h:ownG rc5 w B E 5 g k rs):St B w (fun W=>isR5s W (some ⟨g,0,none⟩) rs.length k (rs.map (·.1))):=by
 intro W hW;have hl:=h.lt
 obtain⟨g1,c1,e1,q1,q2,q3,q4⟩:=own_slice h.own (by intro e;cases e)
 cases e1
 refine⟨by simp,q3,fun _=>⟨g,0,rfl,fun j hj=>?_⟩⟩
 have hj':j<rs.length:=by simpa using hj
 obtain⟨d1,d2,d3,d4⟩:=h.dat rs[j] (List.getElem_mem hj')
 have hc:∀ t,t<5→W.cell? ⟨g,j*5+t,none⟩=(rc5.enc rs[j])[t]?:=fun t ht=>by
  rw[q4 W (hW g hl.1 hl.2) (j*5+t) (by omega),flat_at rc5.enc 5 (fun _=>rfl) rs j hj' t ht]
 rw[Nat.zero_add,List.getElem_map]
 exact⟨_,_,_,hc 0 (by omega),hc 1 (by omega),hc 2 (by omega),hc 3 (by omega),hc 4 (by omega),d1.other (hW _ d2 d4)⟩
variable {w:World} {g o m c k:Nat} {ao:Option Addr} {bs:List R8} {rs:List (R8 × Nat × Nat)}
theorem at8.range {b:R8} (h:at8 w g o b ao m c):w.rangeAt g o [I J b.x,I J b.y,I J b.z,bO b.e,I .u32 (b.i:Int),bO b.r,I J b.d,sL ao m c]:=by
 intro j v hv;match j,hv with
 | 0,hv=>cases hv;exact h.c0
 | 1,hv=>cases hv;exact h.c1
 | 2,hv=>cases hv;exact h.c2
 | 3,hv=>cases hv;exact h.c3
 | 4,hv=>cases hv;exact h.c4
 | 5,hv=>cases hv;exact h.c5
 | 6,hv=>cases hv;exact h.c6
 | 7,hv=>cases hv;exact h.cs
theorem at5.range {b:R5} (h:at5 w g o b ao m c):w.rangeAt g o [bO b.e,I .u32 (b.i:Int),bO b.r,I J b.d,sL ao m c]:=by
 intro j v hv;match j,hv with
 | 0,hv=>cases hv;exact h.c0
 | 1,hv=>cases hv;exact h.c1
 | 2,hv=>cases hv;exact h.c2
 | 3,hv=>cases hv;exact h.c3
 | 4,hv=>cases hv;exact h.cs
theorem at3.range {b:R3} (h:at3 w g o b):w.rangeAt g o [bO b.e,I .u32 b.m,I .u32 b.k]:=by
 intro j v hv;match j,hv with
 | 0,hv=>cases hv;exact h.c0
 | 1,hv=>cases hv;exact h.c1
 | 2,hv=>cases hv;exact h.c2
theorem blk.loadAt {b:Nat} (pre mid post:List Value) {T:TypeId} (h:blk w b (pre++mid++post) T):w.rangeAt b pre.length mid:=by
 intro j v hv;have hj:j<mid.length:=(List.getElem?_eq_some_iff.1 hv).1
 refine h.cell _ _ ?_
 rw[List.append_assoc,List.getElem?_append_right (by omega),Nat.add_sub_cancel_left,List.getElem?_append_left hj]
 exact hv
theorem one8L (x y z:Int) (e:Bool) (i:Int) (r:Bool) (d:Int) (a:Option Addr) (n c:Nat):∀ u ∈ [Value.int .i64 x,I J y,I J z,bO e,I .u32 i,bO r,I J d,sL a n c],u.oneCell'=true:=by
 intro u hu;simp only[List.mem_cons,List.not_mem_nil,or_false] at hu
 rcases hu with rfl | rfl | rfl | rfl | rfl | rfl | rfl | rfl <;> rfl
theorem take8 (h:rs.map (·.1)=bs.take k) (hk:k<bs.length) (p:R8 × Nat × Nat) (hp:p.1=bs[k]):(rs++[p]).map (·.1)=bs.take (k+1):=by
 rw[List.map_append,h,List.take_succ_eq_append_getElem hk,List.map_cons,List.map_nil,hp]
theorem take8_len (h:rs.map (·.1)=bs.take k) (hk:k≤bs.length):rs.length=k:=by
 have:=congrArg List.length h
 rw[List.length_map,List.length_take] at this
 omega
variable {W w W' W'':World} {hv gv l:List Value} {B g b k:Nat} {T:TypeId} {bs:List R5} {rs:List (R5 × Nat × Nat)}
theorem blk.set (h:blk w b l T) (o:Nat) (v:Value):blk (w.setCell ⟨b,o,none⟩ v) b (l.set o v) T:=by
 have:=heap_setCell_same w b o _ _ v h
 simpa[blk] using this
theorem blk.setOther {b':Nat} (h:blk w b l T) (hb:b≠b') (o:Nat) (v:Value):blk (w.setCell ⟨b',o,none⟩ v) b l T:=h.other hb o [v]
abbrev z10:List Value:=zX
structure gS (w:World) (hv gv:List Value) (W:World):Prop where
 p:blk W w.heap.size hv 39
 r:blk W (w.heap.size+1) z10 39
 q:blk W (w.heap.size+1+1) gv 39
 b:Below w.heap.size w W
theorem gS.z (h:gS w hv gv W):w.heap.size+3≤W.heap.size:=h.q.lt
theorem gS.below (h:gS w hv gv W) (hb:Below W.heap.size W W'):gS w hv gv W':=⟨h.p.below hb,h.r.below hb,h.q.below hb,h.b.trans (hb.mono h.b.size)⟩
theorem gS.grown (h:gS w hv gv W) (hg:W.grownBy W' (some g)) (h3:w.heap.size+3≤g):gS w hv gv W':=by
 have hz:=h.z
 exact⟨h.p.kept (hg.block _ (by omega) (by intro e;cases e;omega)),h.r.kept (hg.block _ (by omega) (by intro e;cases e;omega)),h.q.kept (hg.block _ (by omega) (by intro e;cases e;omega)),h.b.grown hg (by omega) (by intro k e;cases e;omega)⟩
theorem gS.set (h:gS w hv gv W) (o:Nat) (v:Value):gS w hv (gv.set o v) (W.setCell ⟨w.heap.size+1+1,o,none⟩ v):=
 ⟨h.p.setOther (by omega) _ _,h.r.setOther (by omega) _ _,h.q.set _ _,h.b.setCell (by show _≤_+_+_;omega) _⟩
structure hS (w:World) (hv:List Value) (W:World):Prop where
 p:blk W w.heap.size hv 39
 b:Below w.heap.size w W
theorem gS.hs (h:gS w hv gv W):hS w hv W:=⟨h.p,h.b⟩
def rc3:R3→List Value:=fun b=>[bO b.e,I .u32 b.m,I .u32 b.k]
theorem c3_rc (bs:List R3):c3 bs=bs.flatMap rc3:=rfl
theorem c3_snoc (bs:List R3) (k:Nat) (h:k<bs.length):c3 (bs.take k)++rc3 bs[k]=c3 (bs.take (k+1)):=by
 rw[c3_rc,c3_rc,List.take_succ_eq_append_getElem h,List.flatMap_append,List.flatMap_cons,List.flatMap_nil,List.append_nil]
theorem take5 (h:rs.map (·.1)=bs.take k) (hk:k<bs.length) (p:R5 × Nat × Nat) (hp:p.1=bs[k]):(rs++[p]).map (·.1)=bs.take (k+1):=by
 rw[List.map_append,h,List.take_succ_eq_append_getElem hk,List.map_cons,List.map_nil,hp]
theorem take5_len (h:rs.map (·.1)=bs.take k) (hk:k≤bs.length):rs.length=k:=by
 have:=congrArg List.length h
 rw[List.length_map,List.length_take] at this
 omega
theorem one5L (e:Bool) (i:Int) (r:Bool) (d:Int) (a:Option Addr) (n c:Nat):∀ u ∈ [Value.bool e,I .u32 i,bO r,I J d,sL a n c],u.oneCell'=true:=by
 intro u hu;simp only[List.mem_cons,List.not_mem_nil,or_false] at hu
 rcases hu with rfl | rfl | rfl | rfl | rfl <;> rfl
structure Kp (B:Nat) (W W':World):Prop where
 same:∀ b,B≤b→b<W.heap.size→W'.heap[b]?=W.heap[b]?
 size:W.heap.size≤W'.heap.size
theorem Kp.refl (B:Nat) (W:World):Kp B W W:=⟨fun _ _ _=>rfl,nR _⟩
theorem Kp.below (h:Kp B W W') (hb:Below W'.heap.size W' W''):Kp B W W'':=⟨fun b h1 h2=>(hb.block b (nL h2 h.size)).trans (h.same b h1 h2),nT h.size hb.size⟩
theorem Kp.grown (h:Kp B W W') (hg:W'.grownBy W'' (some g)) (hw:W.heap.size≤g):Kp B W W'':=⟨fun b h1 h2=>(hg.block b (nL h2 h.size) (by intro e;cases e;omega)).trans (h.same b h1 h2),nT h.size hg.size⟩
theorem Kp.set (h:Kp B W W') (b o:Nat) (hb:b<B) (v:Value):Kp B W (W'.setCell ⟨b,o,none⟩ v):=⟨fun k h1 h2=>(heap_setCell_other _ _ _ _ (by show k≠b;omega)).trans (h.same k h1 h2),by simpa using h.size⟩
theorem St.kp {p:World→Prop} (h:St B W p) (hk:Kp B W W'):St B W' p:=fun V hV=>h V fun k h1 h2=>(hV k h1 (nL h2 hk.size)).trans (hk.same k h1 h2)
theorem range_below {o:Nat} (h:w.rangeAt g o l) (hb:Below w.heap.size w W) (hg:g<w.heap.size):W.rangeAt g o l:=fun j v hv=>(hb.cell (by exact hg)).trans (h j v hv)
theorem one3L (e:Bool) (m k:Int):∀ u ∈ [Value.bool e,I .u32 m,I .u32 k],u.oneCell'=true:=by
 intro u hu;simp only[List.mem_cons,List.not_mem_nil,or_false] at hu
 rcases hu with rfl | rfl | rfl <;> rfl
set_option linter.unusedVariables false
def prL:List Value:=[I J 0,I J 0,.func (.func 183) #[] #[],I J 0,I J 0,.func (.func 184) #[] #[],I J 0,I J 5,.func (.func 185) #[] #[],I J 0,I J 15,.func (.func 186) #[] #[],I J 1,I J 7,.func (.func 187) #[] #[],I J 0,I J 2,.func (.func 188) #[] #[],I J 0,I J 7,.func (.func 189) #[] #[],I J 0,I J 10,.func (.func 190) #[] #[]]
theorem prL_len:prL.length=24:=rfl
theorem prL_one:prL.toArray.all (·.oneCell')=true:=all_oneCell_toArray (by simp[prL,Value.oneCell'])
theorem sz123:(Tp.info? 123).map (·.size)=some 24:=by kernel_rfl
theorem sz123A:(Tp.info? 123).map (·.size)=some prL.toArray.size:=sz123
theorem sz123L:(Tp.info? 123).map (·.size)=some prL.length:=sz123
def prZ:List Value:=[I J 0,I J 0,.nilFunc,I J 0,I J 0,.nilFunc,I J 0,I J 0,.nilFunc,I J 0,I J 0,.nilFunc,I J 0,I J 0,.nilFunc,I J 0,I J 0,.nilFunc,I J 0,I J 0,.nilFunc,I J 0,I J 0,.nilFunc]
theorem phaseRows_any (w:World):Calls Tp 144 #[] w fun o w'=>o = rT (aG prL.toArray)∧Below w.heap.size w w':=by
 have HN:Hid (blk (w.alloc (.cells prZ.toArray 123)) w.heap.size prZ 123):=blk.new w _ 123
 go_enter Tryz.func144,Tryz.ntmps144
 go_wp2_with (first
  | (refine wpList_store_mid (P:=Tp) rfl 123 _ _ rfl w.heap.size 0 prL.toArray rfl rfl (HN.out.there 0 _ (by rw[List.size_toArray,prL_len];decide)) sz123A prL_one ?_;generalize hW8:World.setCells _ w.heap.size 0 _=w8;have HW8:Hid (_=w8):=hW8;clear hW8))
 have e8:=HW8.out
 have hF:blk w8 w.heap.size prL 123:=by
  rw[← e8]
  have:=blk.put [] prZ [] prL (w:=w.alloc (.cells prZ.toArray 123)) (b:=w.heap.size) (T:=123) (by simpa using HN.out) rfl
  have t2:blk ((w.alloc (.cells prZ.toArray 123)).setCells w.heap.size 0 prL) w.heap.size prL 123:=by simpa using this
  exact t2
 have hL:=run_loadVar_mid (P:=Tp) w8 w.heap.size 0 123 _ _ hF.load Tryz.underlying123 rfl sz123L
 refine bC Tryz.results144 hL ?_
 refine⟨rfl,?_⟩
 rw[← e8]
 exact sW (nR _) 0 _ ((bW _ _).alloc (nR _) _)
end Go.Proofs.YtkfcfigbgmbaiaaGreat
