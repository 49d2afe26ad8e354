import Derived.Test.YtaamahohdnbpiaaGreatG46
import Derived.Test.YtaamahohdnbpiaaGreatOB
import Derived.Test.YtaamahohdnbpiaaGreatG40
import Derived.Test.YtaamahohdnbpiaaGreatKG
import Derived.Deep.RegionHeld3
namespace Go.Proofs.YtaamahohdnbpiaaGreat
open Go.RowKit
set_option linter.unusedVariables false
theorem nfY_cons (b:R8) (l:List R8):nfY (b :: l)=(if b.x != 0 then [b.y] else [])++nfY l:=by
 unfold nfY
 by_cases h:(b.x != 0)=true <;> simp[h]
theorem nfY_same:∀ (bx:List R8) (k:Nat) (hk:k<bx.length) (b:R8),bx[k].x≠0→b.x≠0→b.y=bx[k].y→nfY (bx.set k b)=nfY bx
 | a :: l,0,_,b,h1,h2,h3=>by
  simp only[aE] at h1 h3
  rw[List.set_cons_zero,nfY_cons,nfY_cons]
  simp[h1,h2,h3]
 | a :: l,k+1,hk,b,h1,h2,h3=>by
  rw[aC,nfY_cons,nfY_cons,nfY_same l k (by simpa using hk) b (by simpa using h1) h2 (by simpa using h3)]
theorem nfY_add:∀ (bx:List R8) (k:Nat) (hk:k<bx.length) (b:R8),bx[k].x=0→b.x≠0→(nfY (bx.set k b)).Perm (b.y :: nfY bx)
 | a :: l,0,_,b,h1,h2=>by
  simp only[aE] at h1
  rw[List.set_cons_zero,nfY_cons,nfY_cons]
  simp[h1,h2]
 | a :: l,k+1,hk,b,h1,h2=>by
  rw[List.set_cons_succ,nfY_cons,nfY_cons]
  have:=nfY_add l k (by simpa using hk) b (by simpa using h1) h2
  exact (this.append_left _).trans List.perm_middle
theorem nfY_mem {bx:List R8} {k:Nat} (hk:k<bx.length) (h:bx[k].x≠0):bx[k].y ∈ nfY bx:=by
 unfold nfY
 exact List.mem_map.2 ⟨_,List.mem_filter.2 ⟨List.getElem_mem hk,by simpa using h⟩,rfl⟩
theorem nfY_free:∀ (bx:List R8) (k:Nat) (hk:k<bx.length),bx[k].x≠0→(nfY bx).Nodup→nfY (bx.set k z8)=(nfY bx).filter (· != bx[k].y)
 | a :: l,0,_,h1,hn=>by
  simp only[aE] at h1
  rw[List.set_cons_zero,nfY_cons,nfY_cons]
  rw[nfY_cons] at hn
  have e:(a.x != 0)=true:=by simpa using h1
  rw[if_pos e] at hn ⊢
  simp only[List.singleton_append,List.nodup_cons] at hn
  have ez:(z8.x != 0)=false:=rfl
  simp only[ez,aE,List.singleton_append]
  rw[List.filter_cons_of_neg (by simp)]
  simp only[Bool.false_eq_true,if_false,List.nil_append]
  exact (List.filter_eq_self.2 (fun x hx=>by simp;rintro rfl;exact hn.1 hx)).symm
 | a :: l,k+1,hk,h1,hn=>by
  have hk':k<l.length:=by simpa using hk
  have h1':l[k].x≠0:=by simpa using h1
  rw[nfY_cons] at hn
  have hn':=(List.nodup_append.1 hn).2.1
  have hd:=(List.nodup_append.1 hn).2.2
  rw[List.set_cons_succ,nfY_cons,nfY_cons,nfY_free l k hk' h1' hn',List.filter_append]
  congr 1
  by_cases e:(a.x != 0)=true
  ·rw[if_pos e] at hd ⊢
   refine (List.filter_eq_self.2 (fun x hx=>?_)).symm
   simp only[aF]
   have:=hd x hx _ (nfY_mem hk' h1')
   simpa using this
  ·rw[if_neg e];rfl
theorem okHo.nd {H:Ho} (h:okHo H):(nfY H.bx).Nodup:=((okBxs_iff H.st H.bx h.bx.1).1 h.bx).2.1
inductive stepQ (H H':Ho):Prop
 | still (h1:H'.qu=[]) (h2:nfY H'.bx=nfY H.bx)
 | told (ev:R8) (h1:H'.qu=[ev]) (h2:nfY H'.bx=nfY H.bx) (h3:ev.x≠1∧ev.x≠6)
 | freed (ev:R8) (h1:H'.qu=[ev]) (h2:ev.y ∈ nfY H.bx) (h3:nfY H'.bx=(nfY H.bx).filter (· != ev.y)) (h4:ev.x=1∨ev.x=6)
structure bxI (H:Ho):Prop where
 ok:okHo H
 fs:H.fs=[]
 ff:H.ff=[]
 qu:H.qu=[]
 c3:H.c3=4
theorem post_qu {H:Ho} (h:H.qu=[]) (hc:H.c3=4) (ev:R8):(postHo H ev).qu=[ev]:=by
 show quP H.c3 H.qu ev=_
 unfold quP
 rw[h,hc]
 rfl
theorem free_qu {H:Ho} (h:H.qu=[]) (hc:H.c3=4) (k:Nat) (ev:R8):(postHo (freeHo H k) ev).qu=[ev]:=post_qu (H:=freeHo H k) h hc ev
theorem sub_step {H:Ho} (h:bxI H) {t:Int} (ht:0≤t∧t≤9999) {F:R5} (hv:validB F.e F.i F.r F.d F.l.length=true):(∃ ev,(subHo H t F).qu=[ev]∧nfY (subHo H t F).bx=nfY H.bx∧ev.x≠1∧ev.x≠6)∨((subHo H t F).qu=[]∧(nfY (subHo H t F).bx).Perm (t :: nfY H.bx)):=by
 have e:∀ x y z:Int,(x=5∨x=4)→(∃ ev,(postHo H (ev3 x y z)).qu=[ev]∧nfY (postHo H (ev3 x y z)).bx=nfY H.bx∧ev.x≠1∧ev.x≠6):=fun x y z hx=>⟨_,post_qu h.qu h.c3 _,rfl,by show x≠1;omega,by show x≠6;omega⟩
 unfold subHo
 rw[if_neg (fun n=>n ht),if_neg (by rw[hv];decide)]
 by_cases h3:tagIx H.bx t<H.bx.length
 ·rw[if_pos h3];exact Or.inl (e 5 t 3 (by omega))
 ·rw[if_neg h3]
  by_cases h4:H.st=1000000
  ·rw[if_pos h4];exact Or.inl (e 5 t 4 (by omega))
  ·rw[if_neg h4]
   by_cases h5:freeIx H.bx<H.bx.length
   ·rw[if_pos h5]
    have hfx:H.bx[freeIx H.bx].x=0:=by
     have:(H.bx[freeIx H.bx].x == 0)=true:=List.findIdx_getElem (w:=h5)
     simpa using this
    exact Or.inr ⟨h.qu,nfY_add H.bx _ h5 ⟨1,t,H.st,F.e,F.i,F.r,F.d,F.l⟩ hfx (by show (1:Int)≠0;decide)⟩
   ·rw[if_neg h5];exact Or.inl (e 4 t 0 (by omega))
theorem take_step {H:Ho} (h:bxI H) (i:Int):stepQ H (takeHo H i):=by
 refine .still h.qu ?_
 show nfY (takeB H.bx i)=_
 unfold takeB
 split
 ·rename_i h1
  split
  ·rename_i h2
   exact nfY_same _ _ _ _ (by rw[h2.1];decide) (by show (2:Int)≠0;decide) rfl
  ·rfl
 ·rfl
theorem st_nf {H:Ho} {k:Nat} (hk:k<H.bx.length) (hx:H.bx[k].x≠0) {v:Int} (hv:v≠0):(stHo H k v).qu=H.qu∧nfY (stHo H k v).bx=nfY H.bx:=by
 unfold stHo
 rw[dif_pos hk]
 exact⟨rfl,nfY_same _ _ hk _ hx hv rfl⟩
theorem rel_step {H:Ho} (h:bxI H) (sent:Bool):stepQ H (relHo H sent):=by
 unfold relHo
 split
 ·rename_i hw
  have hx:=wire_at hw
  have hx0:H.bx[wireIx H.bx].x≠0:=by omega
  split
  ·exact .freed _ (free_qu h.qu h.c3 _ _) (nfY_mem hw hx0) (nfY_free _ _ hw hx0 h.ok.nd) (Or.inl rfl)
  ·split
   ·exact .freed _ (free_qu h.qu h.c3 _ _) (nfY_mem hw hx0) (nfY_free _ _ hw hx0 h.ok.nd) (Or.inr rfl)
   ·have:=st_nf hw hx0 (v:=1) (by decide)
    exact .still (this.1.trans h.qu) this.2
 ·exact .still h.qu rfl
theorem ab_step {H:Ho} (h:bxI H) (t:Int):stepQ H (abHo H t):=by
 unfold abHo
 split
 ·rename_i hw
  have hx:tagBb t H.bx[tagIx H.bx t]=true:=List.findIdx_getElem (w:=hw)
  unfold tagBb at hx
  simp at hx
  split
  ·refine .freed _ (free_qu h.qu h.c3 _ _) ?_ ?_ (Or.inr rfl)
   ·have:=nfY_mem hw hx.1
    rw[hx.2] at this
    exact this
   ·have:=nfY_free _ _ hw hx.1 h.ok.nd
    rw[hx.2] at this
    exact this
  ·have:=st_nf hw hx.1 (v:=3) (by decide)
   exact .still (this.1.trans h.qu) this.2
 ·exact .told _ (post_qu h.qu h.c3 _) rfl ⟨by show (7:Int)≠1;decide,by show (7:Int)≠6;decide⟩
def sameR (H H':Ho):Prop:=H'.fs=H.fs∧H'.ff=H.ff∧H'.c3=H.c3
theorem sub_r (H:Ho) (t:Int) (F:R5):sameR H (subHo H t F):=by
 unfold subHo
 repeat' split
 all_goals exact⟨rfl,rfl,rfl⟩
theorem st_r (H:Ho) (k:Nat) (v:Int):sameR H (stHo H k v):=by
 unfold stHo
 split <;> exact⟨rfl,rfl,rfl⟩
theorem rel_r (H:Ho) (b:Bool):sameR H (relHo H b):=by
 unfold relHo
 repeat' split
 ·exact⟨rfl,rfl,rfl⟩
 ·exact⟨rfl,rfl,rfl⟩
 ·exact st_r _ _ _
 ·exact⟨rfl,rfl,rfl⟩
theorem ab_r (H:Ho) (t:Int):sameR H (abHo H t):=by
 unfold abHo
 split
 ·split
  ·exact⟨rfl,rfl,rfl⟩
  ·exact st_r _ _ _
 ·exact⟨rfl,rfl,rfl⟩
theorem bxI.next {H H':Ho} (h:bxI H) (hr:sameR H H') (hok:okHo H'):bxI (qHo H' []):=⟨hok.drain,hr.1.trans h.fs,hr.2.1.trans h.ff,rfl,hr.2.2.trans h.c3⟩
-- the model's calls on a valid host
theorem csSub (w:World) (H:Ho) (s:Sl) (t:Int) (F:R5) (fa:Option Addr) (fm fc:Nat) (hok:okHo H) (h:isHo w H s) (hf:isBytes w fa fm fc F.l) (hfm:fm≤1048576) :
  Calls Tryz.prog 24 #[.agg (hoL H s).toArray,.int .i64 t,frV F.e F.i F.r F.d fa fm fc] w fun o w'=>∃ s',o = .returned (.agg (hoL (subHo H t F) s').toArray)∧isHo w' (subHo H t F) s'∧Below w.heap.size w w':=
 (specSubmit_any w H s t F fa fm fc _ (Or.inl ⟨hok,rfl⟩) h hok.le hf hfm).mono (by rintro o w' ⟨s',rfl,h1,h2⟩;exact⟨s',rfl,h1.now,h2⟩)
theorem csAb (w:World) (H:Ho) (s:Sl) (t:Int) (hok:okHo H) (h:isHo w H s):Calls Tryz.prog 26 #[.agg (hoL H s).toArray,.int .i64 t] w fun o w'=>∃ s',o = .returned (.agg (hoL (abHo H t) s').toArray)∧isHo w' (abHo H t) s'∧Below w.heap.size w w':=specAbort_any w H s t _ (Or.inl ⟨hok,rfl⟩) h hok.le
theorem csRel (w:World) (H:Ho) (s:Sl) (b:Bool) (hok:okHo H) (h:isHo w H s):Calls Tryz.prog 30 #[.agg (hoL H s).toArray,.bool b] w fun o w'=>∃ s',o = .returned (.agg (hoL (relHo H b) s').toArray)∧isHo w' (relHo H b) s'∧Below w.heap.size w w':=specRelease_any w H s b _ (Or.inl ⟨hok,rfl⟩) h hok.le
theorem csTake (w:World) (H:Ho) (s:Sl) (i:Int) (hok:okHo H) (h:isHo w H s):Calls Tryz.prog 29 #[.agg (hoL H s).toArray,.int .i64 i] w fun o w'=>∃ s',o = .returned (.agg (hoL (takeHo H i) s').toArray)∧isHo w' (takeHo H i) s'∧Below w.heap.size w w':=specTake_any w H s i _ (Or.inl ⟨hok,rfl⟩) h hok.le
theorem csBest (w:World) (H:Ho) (s:Sl) (hok:okHo H) (h:isHo w H s) :
  Calls Tryz.prog 27 #[.agg (hoL H s).toArray] w fun o w'=>∃ r,o = .returned (.int .i64 r)∧bestR H.bx r∧Below w.heap.size w w':=by
 refine (specBest_any w H s h hok.le).mono ?_
 rintro o w' ⟨r,rfl,h1,h2⟩;rcases h1 with⟨_,h1⟩|⟨h1,_⟩
 ·exact⟨r,rfl,h1,h2⟩
 ·exact absurd hok h1
theorem cAb (w:World) (H:Ho) (s:Sl) (t:Int) (hok:okHo H) (h:isHo w H s) (hs:slSome s) (hwf:(Lit.int .i64 t).wf=true) :
  Calls Tryz.prog 25 #[.agg (hoL H s).toArray,.int .i64 t] w (hostQ w (abHo H t)):=by
 refine (implAbort_any w H s t h hs hok.le hwf).mono ?_
 rintro o w' (⟨_,h1⟩|⟨h1,_⟩)
 ·exact h1.host (hok.ab t).pos
 ·exact absurd hok h1
theorem csNew (w:World) (m:Nat) (b c d:Int) (g:Nat) (h:okCf m b c d=true) :
  Calls Tryz.prog 23 #[cfV m b c d,.slice (some ⟨g,0,none⟩) 0 0] w fun o w'=>∃ s,o = .returned (.tuple #[.agg (hoL ⟨m,b,c,d,[],List.replicate m bx0,[],[],0,0⟩ s).toArray,.int .i64 0])∧isHo w' ⟨m,b,c,d,[],List.replicate m bx0,[],[],0,0⟩ s∧Below w.heap.size w w':=by
 have hc:=of_decide_eq_true h
 refine (specNewHost_ok w m b c d g 0 0 [] h ⟨rfl,Nat.le_refl _,fun e=>absurd rfl e⟩ (Nat.zero_le _) (by omega) rfl).mono ?_
 rintro o w' ⟨s,rfl,q,hb⟩;exact⟨s,by rw[hoV_L],q.now,hb⟩
theorem wByte2 (w:World) (a:Option Addr) (n cap:Nat) (l:List Nat) (i:Nat) (h:isBytes w a n cap l) (hn:n≤1048576) (hi:i≤1000) :
  Calls Tryz.prog 22 #[.slice a n cap,.int .i64 (i:Int)] w fun o w'=>∃ x:Nat,o = .returned (.int .i64 (x:Int))∧x<256∧Below w.heap.size w w':=by
 by_cases hl:l=[]
 ·subst hl;have hn0:n=0:=h.len
  subst hn0;clear h;have hm:IntKind.i64.wrap (7*(i:Int))=7*(i:Int):=by simp[IntKind.wrap,IntKind.bits,IntKind.signed];omega
  go_enter Tryz.func22,Tryz.ntmps22
  go_wp2
  go_ret;exact⟨7*i % 256,by congr 2,by omega,Below.refl _ _⟩
 ·obtain⟨g,off,rfl,hc⟩:=h.cells hl
  have hlen:=h.len
  have hpos:0<l.length:=List.length_pos_iff.2 hl
  have hm:i % n<l.length:=by rw[hlen];exact Nat.mod_lt _ hpos
  have hcell:=hc (i % n) hm
  have hx:l[i % n]<256:=h.small _ (List.getElem_mem hm)
  generalize l[i % n]=x at *;have hn0:¬ (n:Int)=0:=by omega
  have hmod:(i:Int).tmod (n:Int)=((i % n:Nat):Int):=by rw[Int.tmod_eq_emod_of_nonneg (by omega)];omega
  have hmod2:((i % n:Nat):Int)<(n:Int):=by omega
  have HX:Hid (x<256):=hx
  clear h hc hl hx;subst hlen;generalize hk:i % l.length=k at *;clear hk;go_enter Tryz.func22,Tryz.ntmps22
  go_wp2
  go_ret;exact⟨x,by rw[show wrap64 (x:Int)=(x:Int) by unfold wrap64;have:=HX.out;omega];rfl,HX.out,Below.refl _ _⟩
theorem ne_of_cell {W:World} {x:Nat} {L:List Value} {T:TypeId} (hx:blk W x L T) {g o:Nat} {v:Value} (hc:W.cell? ⟨g,o,none⟩=some v) (hv:v ∉ L):g≠x∧g<W.heap.size:=by
 refine⟨?_,World.block_lt_of_cell? W ⟨g,o,none⟩ hc⟩
 rintro rfl
 refine hv ?_
 unfold blk at hx
 unfold World.cell? at hc
 rw[hx] at hc
 simp at hc
 exact List.mem_of_getElem? hc
theorem hoL_no (T:Ho) (s:Sl):(∀ b,Value.bool b ∉ hoL T s)∧(∀ z,Value.int .u8 z ∉ hoL T s):=by
 unfold hoL
 constructor <;> intro <;> simp
section
variable {W V : World} {x : Nat} {T : Ho} {s : Sl}
theorem isBytes.farH {a:Option Addr} {n cap:Nat} {l:List Nat} (h:isBytes W a n cap l) (hx:blk W x (hoL T s) 35) (hV:∀ q,q≠x→q<W.heap.size→V.heap[q]?=W.heap[q]?):isBytes V a n cap l:=by
 refine⟨h.len,h.cap,h.small,fun hne=>?_⟩
 obtain⟨g,off,e,hc⟩:=h.cells hne
 refine⟨g,off,e,fun j hj=>?_⟩
 have:=ne_of_cell hx (hc j hj) ((hoL_no T s).2 _)
 exact cell_up (hc j hj) (hV g this.1 this.2)
theorem isR8s.farH {a:Option Addr} {n c:Nat} {L:List R8} (h:isR8s W a n c L) (hx:blk W x (hoL T s) 35) (hV:∀ q,q≠x→q<W.heap.size→V.heap[q]?=W.heap[q]?):isR8s V a n c L:=by
 refine⟨h.len,h.cap,fun hne=>?_⟩
 obtain⟨g,off,e,hc⟩:=h.cells hne
 refine⟨g,off,e,fun j hj=>?_⟩
 obtain⟨ao,m,k,q⟩:=hc j hj
 have hg:=ne_of_cell hx q.c3 ((hoL_no T s).1 _)
 have he:=hV g hg.1 hg.2
 exact⟨ao,m,k,cell_up q.c0 he,cell_up q.c1 he,cell_up q.c2 he,cell_up q.c3 he,cell_up q.c4 he,cell_up q.c5 he,cell_up q.c6 he,cell_up q.cs he,q.dat.farH hx hV⟩
theorem isR5s.farH {a:Option Addr} {n c:Nat} {L:List R5} (h:isR5s W a n c L) (hx:blk W x (hoL T s) 35) (hV:∀ q,q≠x→q<W.heap.size→V.heap[q]?=W.heap[q]?):isR5s V a n c L:=by
 refine⟨h.len,h.cap,fun hne=>?_⟩
 obtain⟨g,off,e,hc⟩:=h.cells hne
 refine⟨g,off,e,fun j hj=>?_⟩
 obtain⟨ao,m,k,q⟩:=hc j hj
 have hg:=ne_of_cell hx q.c0 ((hoL_no T s).1 _)
 have he:=hV g hg.1 hg.2
 exact⟨ao,m,k,cell_up q.c0 he,cell_up q.c1 he,cell_up q.c2 he,cell_up q.c3 he,cell_up q.cs he,q.dat.farH hx hV⟩
theorem isR3s.farH {a:Option Addr} {n c:Nat} {L:List R3} (h:isR3s W a n c L) (hx:blk W x (hoL T s) 35) (hV:∀ q,q≠x→q<W.heap.size→V.heap[q]?=W.heap[q]?):isR3s V a n c L:=by
 refine⟨h.len,h.cap,fun hne=>?_⟩
 obtain⟨g,off,e,hc⟩:=h.cells hne
 refine⟨g,off,e,fun j hj=>?_⟩
 have hg:=ne_of_cell hx (hc j hj).c0 ((hoL_no T s).1 _)
 exact (hc j hj).up (hV g hg.1 hg.2)
theorem isHo.farH {T':Ho} {s':Sl} (h:isHo W T' s') (hx:blk W x (hoL T s) 35) (hV:∀ q,q≠x→q<W.heap.size→V.heap[q]?=W.heap[q]?):isHo V T' s':=⟨h.fs.farH hx hV,h.bx.farH hx hV,h.ff.farH hx hV,h.qu.farH hx hV⟩
theorem ownL.farH {B g k:Nat} {l:List Int} (h:ownL W B g k l) (hx:blk W x (hoL T s) 35) (hV:∀ q,q≠x→q<W.heap.size→V.heap[q]?=W.heap[q]?):ownL V B g k l:=by
 refine h.same (hV g ?_ h.lt.2.1)
 rintro rfl
 rcases h.2 with⟨e,_⟩|⟨g1,cap,cur,hv',hb,hgg,_⟩
 ·cases e
 ·cases hv'
  unfold blk at hx
  rw[hgg] at hx
  injection hx with hx
  injection hx with _ hx _
  exact absurd hx (by decide)
end
structure bxS (w:World) (bh bm:Nat) (H1:Ho) (s1:Sl) (H2:Ho) (s2:Sl) (gl kl:Nat) (l:List Int) (W:World):Prop where
 h:blk W bh (hoL H1 s1) 35
 m:blk W bm (hoL H2 s2) 35
 t1:isHo W H1 s1
 t2:isHo W H2 s2
 ss:slSome s1
 o:ownL W 0 gl kl l
 b:Below w.heap.size w W
 z:w.heap.size≤bh∧w.heap.size≤bm
 d:bh≠bm
section
variable {w : World} {bh bm : Nat} {H1 : Ho} {s1 : Sl} {H2 : Ho} {s2 : Sl} {gl kl : Nat} {l : List Int} {W W' : World}
theorem bxS.below (h:bxS w bh bm H1 s1 H2 s2 gl kl l W) (hb:Below W.heap.size W W'):bxS w bh bm H1 s1 H2 s2 gl kl l W':=
 ⟨h.h.below hb,h.m.below hb,h.t1.below hb,h.t2.below hb,h.ss,h.o.below hb,h.b.trans (hb.mono h.b.size),h.z,h.d⟩
theorem bxS.put1 (h:bxS w bh bm H1 s1 H2 s2 gl kl l W) {H':Ho} {s':Sl} (ht:isHo W H' s') (hs:slSome s'):bxS w bh bm H' s' H2 s2 gl kl l (W.setCells bh 0 (hoL H' s')):=by
 have hV:∀ q,q≠bh→q<W.heap.size→(W.setCells bh 0 (hoL H' s')).heap[q]?=W.heap[q]?:=fun q hq _=>setCells_other _ q hq _ _ _
 refine⟨?_,h.m.other h.d.symm _ _,ht.farH h.h hV,h.t2.farH h.h hV,hs,h.o.farH h.h hV,setCells_below h.z.1 0 _ h.b,h.z,h.d⟩
 have:=blk.put [] (hoL H1 s1) [] (hoL H' s') (w:=W) (b:=bh) (T:=35) (by simpa using h.h) (by rw[hoL_len,hoL_len])
 rw[List.nil_append,List.append_nil] at this
 exact this
theorem bxS.put2 (h:bxS w bh bm H1 s1 H2 s2 gl kl l W) {H':Ho} {s':Sl} (ht:isHo W H' s'):bxS w bh bm H1 s1 H' s' gl kl l (W.setCells bm 0 (hoL H' s')):=by
 have hV:∀ q,q≠bm→q<W.heap.size→(W.setCells bm 0 (hoL H' s')).heap[q]?=W.heap[q]?:=fun q hq _=>setCells_other _ q hq _ _ _
 refine⟨h.h.other h.d _ _,?_,h.t1.farH h.m hV,ht.farH h.m hV,h.ss,h.o.farH h.m hV,setCells_below h.z.2 0 _ h.b,h.z,h.d⟩
 have:=blk.put [] (hoL H2 s2) [] (hoL H' s') (w:=W) (b:=bm) (T:=35) (by simpa using h.m) (by rw[hoL_len,hoL_len])
 rw[List.nil_append,List.append_nil] at this
 exact this
end
theorem ownL.zero {W:World} {B g k:Nat} {l:List Int} (h:ownL W B g k l):ownL W 0 g k l:=
 ⟨h.1,by rcases h.2 with h | ⟨g1,cap,cur,e,hb,r⟩;(exact Or.inl h);(exact Or.inr ⟨g1,cap,cur,e,Nat.zero_le _,r⟩)⟩
theorem at8.farH {W V:World} {x:Nat} {T:Ho} {s:Sl} {g o:Nat} {b:R8} {ao:Option Addr} {m k:Nat} (q:at8 W g o b ao m k) (hx:blk W x (hoL T s) 35) (hV:∀ q,q≠x→q<W.heap.size→V.heap[q]?=W.heap[q]?):at8 V g o b ao m k:=by
 have hg:=ne_of_cell hx q.c3 ((hoL_no T s).1 _)
 have he:=hV g hg.1 hg.2
 exact⟨cell_up q.c0 he,cell_up q.c1 he,cell_up q.c2 he,cell_up q.c3 he,cell_up q.c4 he,cell_up q.c5 he,cell_up q.c6 he,cell_up q.cs he,q.dat.farH hx hV⟩
theorem St.up {B:Nat} {W W':World} {p:World→Prop} (h:St B W p) (he:∀ x,B≤x→x<W.heap.size→W'.heap[x]?=W.heap[x]?) (hz:W.heap.size≤W'.heap.size):St B W' p:=fun V hV=>h V (fun x h1 h2=>(hV x h1 (Nat.lt_of_lt_of_le h2 hz)).trans (he x h1 h2))
structure bxT (w:World) (bh bm C:Nat) (H:Ho) (s1 s2:Sl) (gl kl:Nat) (l:List Int) (W:World):Prop where
 h:blk W bh (hoL H s1) 35
 m:blk W bm (hoL H s2) 35
 t1:St C W (fun V=>isHo V H s1)
 t2:St C W (fun V=>isHo V H s2)
 ss:slSome s1
 o:ownL W 0 gl kl l
 b:Below w.heap.size w W
 z:w.heap.size≤bh∧w.heap.size≤bm
 d:bh≠bm
 c:bh<C∧bm<C∧gl<C
section
variable {w : World} {bh bm C : Nat} {H : Ho} {s1 s2 : Sl} {gl kl : Nat} {l : List Int} {W : World}
theorem bxT.toS (h:bxT w bh bm C H s1 s2 gl kl l W):bxS w bh bm H s1 H s2 gl kl l W:=⟨h.h,h.m,h.t1.now,h.t2.now,h.ss,h.o,h.b,h.z,h.d⟩
theorem bxT.below (h:bxT w bh bm C H s1 s2 gl kl l W) {W':World} (hb:Below W.heap.size W W'):bxT w bh bm C H s1 s2 gl kl l W':=
 ⟨h.h.below hb,h.m.below hb,h.t1.up (fun x _ hx=>hb.block x hx) hb.size,h.t2.up (fun x _ hx=>hb.block x hx) hb.size,h.ss,h.o.below hb,h.b.trans (hb.mono h.b.size),h.z,h.d,h.c⟩
theorem ownL.ne35 (h:ownL W 0 gl kl l) {x:Nat} {L:List Value} (hx:blk W x L 35):gl≠x:=by
 rintro rfl
 rcases h.2 with⟨e,_⟩|⟨g1,cap,cur,hv',hb,hgg,_⟩
 ·cases e
 ·cases hv'
  unfold blk at hx
  rw[hgg] at hx
  injection hx with hx
  injection hx with _ hx _
  exact absurd hx (by decide)
theorem bxT.app (h:bxT w bh bm C H s1 s2 gl kl l W) (hwl:w.heap.size≤gl) (t:Int) {g' k':Nat} {W':World} (ho:W'.ownsRow 0 3 1 (.slice (some ⟨g',0,none⟩) (l.length+1) k') (l.length+1) (l.map (Value.int .i64)++[.int .i64 t])) (hg:W.grownBy W' (some gl)):bxS w bh bm H s1 H s2 g' k' (l++[t]) W':=by
 have e1:=h.o.ne35 h.h
 have e2:=h.o.ne35 h.m
 have hz:=hg.size
 refine⟨h.h.kept (hg.block _ h.h.lt (by simp;omega)),h.m.kept (hg.block _ h.m.lt (by simp;omega)),h.t1 _ (fun x h1 h2=>hg.block x h2 (by have:=h.c;simp;omega)),h.t2 _ (fun x h1 h2=>hg.block x h2 (by have:=h.c;simp;omega)),h.ss,?_,h.b.grown hg h.b.size (fun q hq=>by cases hq;exact hwl),h.z,h.d⟩
 unfold ownL
 rw[List.length_append,List.map_append]
 exact ho
end
theorem csDr (w:World) (H:Ho) (s:Sl) (hok:okHo H) (h:isHo w H s) :
  Calls Tryz.prog 32 #[.agg (hoL H s).toArray] w fun o w'=>∃ s' v,o = .returned (.tuple #[.agg (hoL (qHo H []) s').toArray,v])∧St w.heap.size w' (fun V=>isHo V (qHo H []) s')∧Below w.heap.size w w':=
 (specDrain_st w H s _ _ (Or.inl ⟨hok,rfl,rfl⟩) h hok.le).mono (by rintro o w' ⟨s',a,c,rfl,h1,_,h3⟩;exact⟨s',_,rfl,h1,h3⟩)
def bxH (nb:Nat):Ho:=⟨(nb:Int),1,0,4,[],List.replicate nb bx0,[],[],0,0⟩
theorem cNewB (w:World) (nb g:Nat) (h:1≤nb∧nb≤8) :
  Calls Tryz.prog 14 #[cfV nb 1 0 4,.slice (some ⟨g,0,none⟩) 0 0] w fun o w'=>∃ s,o = .returned (.tuple #[.agg (hoL (bxH nb) s).toArray,.int .i64 0])∧isHo w' (bxH nb) s∧slSome s∧Below w.heap.size w w':=
 (cNew w nb 1 0 4 g (okCf_yes (by omega))).mono (by rintro o w' ⟨s,rfl,h1,h2,h3⟩;exact⟨s,rfl,h1.now,h2,h3⟩)
theorem csNewB (w:World) (nb g:Nat) (h:1≤nb∧nb≤8) :
  Calls Tryz.prog 23 #[cfV nb 1 0 4,.slice (some ⟨g,0,none⟩) 0 0] w fun o w'=>∃ s,o = .returned (.tuple #[.agg (hoL (bxH nb) s).toArray,.int .i64 0])∧isHo w' (bxH nb) s∧Below w.heap.size w w':=
 (csNew w nb 1 0 4 g (okCf_yes (by omega))).mono (by rintro o w' ⟨s,rfl,h1,h3⟩;exact⟨s,rfl,h1,h3⟩)
theorem bxH_I (nb:Nat) (h:1≤nb∧nb≤8):bxI (bxH nb)∧nfY (bxH nb).bx=[]:=by
 refine⟨⟨?_,rfl,rfl,rfl,rfl⟩,?_⟩
 ·exact okHo.new (m:=nb) (b:=1) (c:=0) (d:=4) (okCf_yes (by omega))
 ·show nfY (List.replicate nb bx0)=[]
  unfold nfY
  rw[List.filter_eq_nil_iff.2 (fun b hb=>by rw[List.eq_of_mem_replicate hb];decide)]
  rfl
theorem put29 {v:World} {b:Nat} {L L':List Value} (h:blk v b L 29) (hl:L'.length=L.length):blk (v.setCells b 0 L') b L' 29:=by
 have:=blk.put [] L [] L' (w:=v) (b:=b) (T:=29) (by simpa using h) hl.symm
 rw[List.nil_append,List.append_nil] at this
 exact this
theorem cDrN (w:World) (H:Ho) (s:Sl) (hok:okHo H) (h:isHo w H s) (hs:slSome s) :
  Calls Tryz.prog 20 #[.agg (hoL H s).toArray] w fun o w'=>∃ s' a ql c,o = .returned (.tuple #[.agg (hoL (qHo H []) s').toArray,.slice a ql c])∧ql=H.qu.length∧St w.heap.size w' (fun V=>isHo V (qHo H []) s')∧slSome s'∧(∀ ev,H.qu=[ev]→∃ g ao m k,a=some ⟨g,0,none⟩∧at8 w' g 0 ev ao m k)∧Below w.heap.size w w':=
 (cDrain w H s hok h hs).mono (by
  rintro o w' ⟨s',a,c,rfl,h1,h2,h3,h4⟩;refine⟨s',a,_,c,rfl,rfl,h1,h2,fun ev hq=>?_,h4⟩
  obtain⟨_,g,rfl,hat⟩:=h3 (by rw[hq];simp)
  obtain⟨ao,m,k,q⟩:=hat 0 (by rw[hq];exact Nat.zero_lt_one)
  refine⟨g,ao,m,k,rfl,?_⟩
  have e:H.qu[0]'(by rw[hq];exact Nat.zero_lt_one)=ev:=by simp[hq]
  rw[e,Nat.zero_mul] at q
  exact q)
theorem bxT_make {w:World} {bh bm:Nat} {H H1:Ho} {s1 s2 s1' s2':Sl} {gl kl:Nat} {l:List Int} {Wb Wc Wd We:World} (h:bxS w bh bm H s1 H s2 gl kl l Wb) (st1:St Wb.heap.size Wc (fun V=>isHo V H1 s1')) (ss1:slSome s1') (hbc:Below Wb.heap.size Wb Wc) (hd:Wc.setCells bh 0 (hoL H1 s1')=Wd) (st2:St Wd.heap.size We (fun V=>isHo V H1 s2')) (hbe:Below Wd.heap.size Wd We):bxT w bh bm Wb.heap.size H1 s1' s2' gl kl l (We.setCells bm 0 (hoL H1 s2'))∧∀ g ev ao m k,at8 Wc g 0 ev ao m k→at8 (We.setCells bm 0 (hoL H1 s2')) g 0 ev ao m k:=by
 have hc:=h.below hbc
 have hdd:=hc.put1 st1.now ss1
 rw[hd] at hdd
 have hee:=hdd.below hbe
 have hf:=hee.put2 st2.now
 have l1:=h.h.lt
 have l2:=h.m.lt
 have l3:=h.o.lt.2.1
 have hzc:Wb.heap.size≤Wc.heap.size:=hbc.size
 have hzd:Wc.heap.size=Wd.heap.size:=by rw[← hd,setCells_size]
 have hd2:∀ q,q≠bh→q<Wc.heap.size→Wd.heap[q]?=Wc.heap[q]?:=fun q hq _=>by rw[← hd];exact setCells_other _ q hq _ _ _
 have he2:∀ q,q≠bm→q<We.heap.size→(We.setCells bm 0 (hoL H1 s2')).heap[q]?=We.heap[q]?:=fun q hq _=>setCells_other _ q hq _ _ _
 refine⟨⟨hf.h,hf.m,?_,?_,hf.ss,hf.o,hf.b,hf.z,hf.d,⟨l1,l2,l3⟩⟩,?_⟩
 ·refine St.up st1 (fun x hx1 hx2=>?_) ?_
  ·rw[he2 x (by omega) (by have:=hbe.size;omega),hbe.block x (by omega),hd2 x (by omega) hx2]
  ·rw[setCells_size];have:=hbe.size;omega
 ·refine St.up (fun V hV=>st2 V (fun x hx1 hx2=>hV x (by omega) hx2)) (fun x hx1 hx2=>?_) ?_
  ·exact he2 x (by omega) hx2
  ·rw[setCells_size]
   exact Nat.le_refl _
 ·intro g ev ao m k q;exact ((q.farH hc.h hd2).below hbe).farH hee.m he2
theorem bxS_new {w w7 X:World} {bh:Nat} {H0:Ho} {s0 s8:Sl} (hb:Below w.heap.size w w7) (t0:isHo w7 H0 s0) (ss:slSome s0) (hk:blk w7 bh (hoL H0 s0) 35) (hz0:w.heap.size≤bh) (t8:isHo w7 H0 s8) (hX:World.setCells (w7.alloc (.cells [.int .i64 0,.int .i64 0,.int .i64 0,.int .i64 0,.slice none 0 0,.slice none 0 0,.slice none 0 0,.slice none 0 0,.int .i64 0,.int .i64 0].toArray 35)) w7.heap.size 0 (hoL H0 s8)=X):bxS w bh w7.heap.size H0 s0 H0 s8 X.heap.size 0 [] (X.alloc (.cells #[] 3))∧w.heap.size≤X.heap.size:=by
 have HN:blk (World.setCells (w7.alloc (.cells [.int .i64 0,.int .i64 0,.int .i64 0,.int .i64 0,.slice none 0 0,.slice none 0 0,.slice none 0 0,.slice none 0 0,.int .i64 0,.int .i64 0].toArray 35)) w7.heap.size 0 (hoL H0 s8)) w7.heap.size (hoL H0 s8) 35∧Below w7.heap.size w7 (World.setCells (w7.alloc (.cells [.int .i64 0,.int .i64 0,.int .i64 0,.int .i64 0,.slice none 0 0,.slice none 0 0,.slice none 0 0,.slice none 0 0,.int .i64 0,.int .i64 0].toArray 35)) w7.heap.size 0 (hoL H0 s8)):=new_hostS _ (hoL_len _ _)
 rw[hX] at HN
 clear hX;have hba:=(Below.refl X.heap.size X).alloc (Nat.le_refl _) (.cells #[] 3)
 have hz:=hb.size
 have hl:=hk.lt
 exact⟨⟨(hk.below HN.2).below hba,HN.1.below hba,(t0.below HN.2).below hba,(t8.below HN.2).below hba,ss,ownL.nil _ 0 (Nat.zero_le _),(hb.trans (HN.2.mono hz)).trans (hba.mono (Nat.le_trans hz HN.2.size)),⟨hz0,hz⟩,by omega⟩,Nat.le_trans hz HN.2.size⟩
theorem put25b {v:World} {b:Nat} {L L':List Value} (h:blk v b L 25) (hl:L'.length=L.length):blk (v.setCells b 0 L') b L' 25:=by
 have:=blk.put [] L [] L' (w:=v) (b:=b) (T:=25) (by simpa using h) hl.symm
 rw[List.nil_append,List.append_nil] at this
 exact this
theorem bxS_put25 {w:World} {bh bm:Nat} {H:Ho} {s1 s2:Sl} {gl kl:Nat} {l:List Int} {w3:World} {L':List Value} (h0:bxS w bh bm H s1 H s2 gl kl l w3) (h:bxS w bh bm H s1 H s2 gl kl l (w3.alloc (.cells [.bool false,.int .u32 0,.bool false,.int .i64 0,.slice none 0 0].toArray 25))) (hn:blk (w3.alloc (.cells [.bool false,.int .u32 0,.bool false,.int .i64 0,.slice none 0 0].toArray 25)) w3.heap.size [.bool false,.int .u32 0,.bool false,.int .i64 0,.slice none 0 0] 25) (hl:L'.length=5:=by rfl):bxS w bh bm H s1 H s2 gl kl l ((w3.alloc (.cells [.bool false,.int .u32 0,.bool false,.int .i64 0,.slice none 0 0].toArray 25)).setCells w3.heap.size 0 L')∧blk ((w3.alloc (.cells [.bool false,.int .u32 0,.bool false,.int .i64 0,.slice none 0 0].toArray 25)).setCells w3.heap.size 0 L') w3.heap.size L' 25:=
 ⟨h0.below (setCells_below (Nat.le_refl _) 0 _ ((Below.refl _ _).alloc (Nat.le_refl _) _)),put25b hn hl⟩
theorem blk_ne25 {W:World} {x y:Nat} {L M:List Value} (h:blk W x L 25) (h':blk W y M 35):x≠y:=by
 rintro rfl
 unfold blk at h h'
 rw[h] at h'
 injection h' with e
 injection e with _ e _
 exact absurd e (by decide)
theorem isBytes_none (w:World):isBytes w none 0 0 []:=⟨rfl,Nat.le_refl _,fun _ h=>absurd h (List.not_mem_nil),fun e=>absurd rfl e⟩
theorem valid_small {fi:Nat} (h:fi<6):validB (⟨false,fi,false,0,[]⟩ : R5).e (⟨false,fi,false,0,[]⟩ : R5).i (⟨false,fi,false,0,[]⟩ : R5).r (⟨false,fi,false,0,[]⟩ : R5).d (⟨false,fi,false,0,[]⟩ : R5).l.length=true:=by
 show validB false fi false 0 0=true
 have:fi=0∨fi=1∨fi=2∨fi=3∨fi=4∨fi=5:=by omega
 rcases this with rfl | rfl | rfl | rfl | rfl | rfl <;> rfl
end Go.Proofs.YtaamahohdnbpiaaGreat
