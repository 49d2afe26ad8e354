import Derived.Test.YtnfmjckkibdcaaaGreatDoorK17
import Derived.Test.YtnfmjckkibdcaaaGreatDoorK00
namespace Go.Proofs.YtnfmjckkibdcaaaGreatDoor
open Option renaming none->nn,some->sQ
open Go.RowKit
set_option linter.all false
set_option maxHeartbeats 16000000
open Go.Value renaming int->I,slice->sL,bool->bO,pointer->pT,agg->aG
open Go.IntKind renaming i64->J
open Go.Ending renaming returned->rT
open Go.Proofs.Tryz renaming prog->Tp
open Go.Sort in
def je {w w':World} {g off:Nat} {d:Array Int} {n:Nat} {os:Array Obj} (hg:g<w.heap.size) (h:w'=grow (putRow (Value.int .i64) (Sort.ahead w n) g off d) os) :
  (∀ b,b≠g->b<w.heap.size->w'.heap[b]?=w.heap[b]?)/\Below g w w':=by
 subst h;have key:∀ b,b≠g->b<w.heap.size->(grow (putRow (Value.int .i64) (Sort.ahead w n) g off d) os).heap[b]?=w.heap[b]?:=by
  intro b hb hl;show ((w.heap.modify g _)++os)[b]?=_;rw[Array.getElem?_append_left (by simpa using hl),Array.getElem?_modify,zb (fun e=>hb e.symm)]
 refine⟨key,rfl,rfl,rfl,?_,fun k hk=>key k om om⟩;show w.heap.size<=((w.heap.modify g _)++os).size;simp
def lR (s:List Int) (hs:∀ i j (hi:i<s.length) (hj:j<s.length),i<j->s[i]<=s[j]) (ha:∀ j (hj:j<s.length),0<j->s[j]'hj≠s[j-1]'om) :
  ∀ j (hj:j<s.length) i (hi:i<s.length),i<j->s[i]<s[j]:=by
 intro j;induction j with
 | zero=>intro hj i hi h;exact Qz h (nN _)
 | succ j ih=>
  intro hj i hi h;have h1:s[j]'om<=s[j+1]:=hs j (j+1) om hj om;have h2:=ha (j+1) hj om;have e:s[j+1-1]'om=s[j]'om:=rfl;rw[e] at h2;have h3:s[j]'om<s[j+1]:=om;by_cases hij:i=j
  .subst hij;exact h3
  .have:=ih om i hi om;omega
def mF (zs:List Int):((Lib.compact (zs.mergeSort fun x y=>decide (x<=y))).length=zs.length)↔zs.Nodup:=by
 have hp:(zs.mergeSort fun x y=>decide (x<=y)).Perm zs:=List.mergeSort_perm _ _;have hpw:=List.pairwise_mergeSort (le:=fun x y:Int=>decide (x<=y)) (fun a b c h1 h2=>by simp at *;omega) (fun a b=>by simp;omega) zs;generalize (zs.mergeSort fun x y=>decide (x<=y))=s at *;rw[<- hp.nodup_iff,<- hp.length_eq];have hs:∀ i j (hi:i<s.length) (hj:j<s.length),i<j->s[i]<=s[j]:=by
  intro i j hi hj hij;have:=List.pairwise_iff_getElem.1 hpw i j hi hj hij;simpa using this
 have hget:∀ j (hj:j<s.length),s.toArray[j]! = s[j]:=by
  intro j hj;rw[getElem!_pos s.toArray j (by simpa using hj)];simp
 have hlen:(Lib.compact s).length=((List.range s.length).filter (Lib.keeps s.toArray)).length:=by
  unfold Lib.compact Lib.compactUpTo;rw[qV]
 rw[hlen];have hr:s.length=(List.range s.length).length:=pQ;conv=>lhs;rhs;rw[hr]
 rw[List.length_filter_eq_length_iff];constructor
 .intro h;have ha:∀ j (hj:j<s.length),0<j->s[j]'hj≠s[j-1]'om:=by
   intro j hj h0;have:=h j (by simpa using hj);unfold Lib.keeps at this;rw[qW] at this;rcases this with e|e
   .omega
   .rw[hget j hj,hget (j-1) om] at e;exact e
  have hst:=lR s hs ha;rw[List.nodup_iff_pairwise_ne,List.pairwise_iff_getElem];intro i j hi hj hij;have:=hst j hj i hi hij;omega
 .intro h j hj;have hj':j<s.length:=by simpa using hj
  unfold Lib.keeps;rw[qW];by_cases h0:j=0
  .exact qr h0
  .refine qy ?_;rw[hget j hj',hget (j-1) om];intro e;rw[List.nodup_iff_pairwise_ne,List.pairwise_iff_getElem] at h;exact h (j-1) j om hj' om e.symm
open Go.Sort in
def mI (w:World) (g cap:Nat) (zs:List Int) (hH:Holds (Value.int .i64) w g 0 zs.toArray) (hg:g<w.heap.size) (hcap:zs.length<=cap) (hn:zs.length<=100) :
  Calls Tp 230 #[sL (sQ ⟨g,0,nn⟩) zs.length cap] w fun o w'=>cK o zs.Nodup/\(∀ b,b≠g->b<w.heap.size->w'.heap[b]?=w.heap[b]?)/\Below g w w':=by
 have HS:Hid (Calls Tp 263 #[sL (sQ ⟨g,0,nn⟩) zs.length cap] w fun e w'=>e = rT (.tuple #[])/\Holds (Value.int .i64) w' g 0 (zs.mergeSort fun x y=>decide (x<=y)).toArray/\(∀ b,b≠g->b<w.heap.size->w'.heap[b]?=w.heap[b]?)/\Below g w w'):=by
  refine (Go.Proofs.Tryz.slices_Sort_int g 0 cap zs w hH hg om).mono ?_;rintro e w' ⟨rfl,n,os,e1⟩;have hsw:=je hg e1;refine⟨rfl,?_,hsw.1,hsw.2⟩;subst e1;have h1:=holds_putRow (Value.int .i64) (Sort.ahead w n) g 0 zs.toArray (zs.mergeSort fun x y=>decide (x<=y)).toArray (holds_ahead _ _ _ _ _ _ hH) pQ;intro j hj;have h2:=h1 j hj;rw[cell?_grow _ _ _ (by simpa using hg),frozen?_grow _ _ _ (by simpa using hg)];exact h2
 have HC:Hid (∀ W,Holds (Value.int .i64) W g 0 (zs.mergeSort fun x y=>decide (x<=y)).toArray->g<W.heap.size->Calls Tp 264 #[sL (sQ ⟨g,0,nn⟩) zs.length cap] W fun e w'=>(∃ m:Nat,e = rT (sL (sQ ⟨g,0,nn⟩) m cap)/\(m=zs.length↔zs.Nodup))/\(∀ b,b≠g->b<W.heap.size->w'.heap[b]?=W.heap[b]?)/\Below g W w'):=by
  intro W hW hgW;have hl:(zs.mergeSort fun x y=>decide (x<=y)).length=zs.length:=List.length_mergeSort _;have h1:=Go.Proofs.Tryz.slices_Compact_int g 0 cap (zs.mergeSort fun x y=>decide (x<=y)) W hW om om;rw[hl] at h1;refine h1.mono ?_;rintro e w' ⟨rfl,q,e1⟩;have e1':w'=grow (putRow (Value.int .i64) (Sort.ahead W q) g 0 (Lib.compact (zs.mergeSort fun x y=>decide (x<=y))++List.replicate (zs.length-(Lib.compact (zs.mergeSort fun x y=>decide (x<=y))).length) 0).toArray) #[]:=by rw[grow_empty];exact e1
  have hsw:=je hgW e1';exact⟨⟨_,rfl,mF zs⟩,hsw.1,hsw.2⟩
 have HN:Hid (zs.length<=100):=hn;have HG:Hid (g<w.heap.size):=hg;clear hH hcap hn hg;generalize zs.length=n at *;go_enter Tryz.func230,Tryz.ntmps230;go_wp2_with fail;refine HS.o.mono ?_;rintro o w1 ⟨rfl,h1,h2,h3⟩;have H1:Hid (Holds (Value.int .i64) w1 g 0 (zs.mergeSort fun x y=>decide (x<=y)).toArray/\(∀ b,b≠g->b<w.heap.size->w1.heap[b]?=w.heap[b]?)/\Below g w w1):=⟨h1,h2,h3⟩
 clear h1 h2 h3;go_wp2_with fail;refine (HC.o w1 H1.o.1 (nL HG.o H1.o.2.2.size)).mono ?_;rintro o w2 ⟨⟨m,rfl,hm⟩,h2,h3⟩;have H2:Hid ((m=n↔zs.Nodup)/\(∀ b,b≠g->b<w.heap.size->w2.heap[b]?=w.heap[b]?)/\Below g w w2):=⟨hm,fun b hb hl=>(h2 b hb (nL hl H1.o.2.2.size)).trans (H1.o.2.1 b hb hl),H1.o.2.2.trans h3⟩
 clear h2 h3 hm;go_wp2_with fail;go_ret;refine⟨⟨_,rfl,?_⟩,H2.o.2⟩;rw[<- H2.o.1];simp;try omega
def mH (w:World):Calls Tp 230 #[sL nn 0 0] w fun o w'=>o = rT (bO true)/\w'=w:=by
 have HS:Hid (∀ W,Calls Tp 263 #[sL nn 0 0] W fun e w'=>e = rT (.tuple #[])/\w'=W):=fun W=>Go.Proofs.Tryz.slices_Sort_int_none nn 0 W;have HC:Hid (∀ W,Calls Tp 264 #[sL nn 0 0] W fun e w'=>e = rT (sL nn 0 0)/\w'=W):=fun W=>Go.Proofs.Tryz.slices_Compact_int_empty nn 0 W;go_enter Tryz.func230,Tryz.ntmps230
 go_wp2_with (first
  | (go_at_call 263;refine (HS.o _).mono ?_;rintro o w1 ⟨rfl,rfl⟩)
  | (go_at_call 264;refine (HC.o _).mono ?_;rintro o w1 ⟨rfl,rfl⟩))
 go_ret;exact⟨rfl,rfl⟩
open Go renaming World->Wd
set_option maxRecDepth 20000
open Go.IntKind renaming i64->J,u32->zn
variable {W w0 W':Wd} {B PB:Nat} {v1 v2 v:Value} {l1 l2 l:List Int} {L:List Value}
def uK {α:Type} {R S:α->α->Prop} (H:∀ a b,R a b->S a b):∀ {l:List α},l.Pairwise R->l.Pairwise S:=by
 intro l;induction l with
 | nil=>intro _;exact List.Pairwise.nil
 | cons a l ih=>
  intro h;have h':=List.pairwise_cons.1 h;exact List.pairwise_cons.2 ⟨fun b hb=>H a b (h'.1 b hb),ih h'.2⟩
def Tryz.info3:(Tp.info? 3).map (fun i=>(i.zero,i.size,i.bytes))=sQ (sQ (I J 0),1,8):=kr
def dR (w:Wd) (B:Nat) (v:Value) (l:List Int):Prop:=w.ownsRow B 3 1 v l.length (l.map (Value.int .i64))
structure fU (w0 W:Wd) (B:Nat) (v1 v2:Value) (l1 l2:List Int):Prop where
 o1:dR W B v1 l1
 o2:dR W B v2 l2
 ne:∀ g,v1.ownBlock=sQ g->v2.ownBlock≠sQ g
 b:Below B w0 W
 s:B<=W.heap.size
def gX (bx:List R8):Nat:=bx.countP (fun b=>b.x == 2 || b.x == 3)
def nfY (bx:List R8):List Int:=(bx.filter (fun b=>b.x != 0)).map (·.y)
def nfZ (bx:List R8):List Int:=(bx.filter (fun b=>b.x != 0)).map (·.z)
def F7 (ho:dR W B v l) (z:Int) (b:Nat) (hb:W.heap[b]?=sQ (.cells #[I J z] 3)) (hl:l.length<=100) (hB:B<=W.heap.size) (R:TypeId) :
  ∃ v' W',(Builtin.append_ #[281,281] R #[v,sL (sQ ⟨b,0,nn⟩) 1 1]).run Tp W = .ok v' W'/\dR W' B v' (l++[z])/\W.grownBy W' v.ownBlock/\(v'.ownBlock=v.ownBlock\/v'.ownBlock=sQ W.heap.size):=by
 obtain⟨i0,hi,hz0,hz1,hz2⟩:=QX Tryz.info3
 obtain⟨v',w',hr,h2,h3,_,h5⟩:=run_append_own_at (P:=Tp) W B 281 R 3 i0 (I J 0) 1 8 Tryz.underlying281 hi hz0 hz1 hz2 rfl (by decide) v l.length (l.map (Value.int .i64)) ho ⟨b,0,nn⟩ 1 1 [I J z] rfl (by
  intro j u hj;match j,hj with
  | 0,hj=>simp at hj;subst hj;simp[Addr.add,World.cell?,hb]) (by intro u hu;simp at hu;subst hu;rfl) (by unfold maxLen;omega) om hB
 refine⟨v',w',hr,?_,h3,h5⟩;unfold dR;rw[qe,List.map_append];exact h2
def dR.kept {row:Option Nat} (h:dR W B v l) (hg:W.grownBy W' row) (hne:v.ownBlock=nn\/v.ownBlock≠row):dR W' B v l:=World.ownsRow.kept h hg hne
def dR.alloc (h:dR W B v l) (o:Obj):dR (W.alloc o) B v l:=QN h o
def dR.drew (h:dR W B v l):dR W.drew B v l:=h
def dR.lt (h:dR W B v l) (g:Nat) (hg:v.ownBlock=sQ g):B<=g/\g<W.heap.size:=QC h g hg
def iK {α:Type} (f:List R8->List α) (g:R8->List α) (hf:∀ l b,f (l++[b])=f l++g b) (bx:List R8) (k:Nat) (h:k<bx.length):f (bx.take (k+1))=f (bx.take k)++g bx[k]:=by
 rw[qg h,hf]
def yP (bx:List R8) (k:Nat) (h:k<bx.length):nfY (bx.take (k+1))=nfY (bx.take k)++(if (bx[k].x != 0)=true then [bx[k].y] else []):=
 iK nfY (fun b=>if (b.x != 0)=true then [b.y] else []) (fun l b=>by unfold nfY;rw[List.filter_append,List.map_append];congr 1;by_cases hb:(b.x != 0)=true <;> simp[hb]) bx k h
def yO (bx:List R8) (k:Nat) (h:k<bx.length):nfZ (bx.take (k+1))=nfZ (bx.take k)++(if (bx[k].x != 0)=true then [bx[k].z] else []):=
 iK nfZ (fun b=>if (b.x != 0)=true then [b.z] else []) (fun l b=>by unfold nfZ;rw[List.filter_append,List.map_append];congr 1;by_cases hb:(b.x != 0)=true <;> simp[hb]) bx k h
def sj (bx:List R8) (k:Nat) (h:k<bx.length):gX (bx.take (k+1))=gX (bx.take k)+(if (bx[k].x == 2 || bx[k].x == 3)=true then 1 else 0):=by
 unfold gX;rw[qg h,List.countP_append];simp[List.countP_cons]
def uR (bx:List R8):(nfY bx).length<=bx.length/\(nfZ bx).length<=bx.length:=by
 unfold nfY nfZ;rw[qV,qV];exact⟨List.length_filter_le _ _,List.length_filter_le _ _⟩
def wj (st:Int) (bx:List R8) (hA:∀ j (hj:j<bx.length),cZ st bx[j]):dw st bx↔(gX bx<=1/\(nfY bx).Nodup/\(nfZ bx).Nodup):=by
 have hb:gT bx=gX bx:=by
  unfold gT gX;apply List.countP_congr;intro b hb;obtain⟨j,hj,rfl⟩:=List.getElem_of_mem hb;have:=hA j hj;unfold cZ at this;split at this
  .rename_i h0;simp[h0]
  .rename_i h0;simp[h0];omega
 have hf:(∀ i j (hi:i<bx.length) (hj:j<bx.length),i<j->far bx[i] bx[j])↔((nfY bx).Nodup/\(nfZ bx).Nodup):=by
  have e1:(∀ i j (hi:i<bx.length) (hj:j<bx.length),i<j->far bx[i] bx[j])↔bx.Pairwise far:=List.pairwise_iff_getElem.symm;have e2:(nfY bx).Nodup↔bx.Pairwise (fun a b=>a.x≠0->b.x≠0->a.y≠b.y):=by
   unfold nfY;rw[List.nodup_iff_pairwise_ne,List.pairwise_map,List.pairwise_filter];simp
  have e3:(nfZ bx).Nodup↔bx.Pairwise (fun a b=>a.x≠0->b.x≠0->a.z≠b.z):=by
   unfold nfZ;rw[List.nodup_iff_pairwise_ne,List.pairwise_map,List.pairwise_filter];simp
  rw[e1,e2,e3,<- List.pairwise_and_iff];constructor
  .exact fun h=>uK (fun a b hh=>⟨fun h1 h2=>(hh h1 h2).1,fun h1 h2=>(hh h1 h2).2⟩) h
  .exact fun h=>uK (fun a b hh h1 h2=>⟨hh.1 h1 h2,hh.2 h1 h2⟩) h
 unfold dw;rw[hf,hb];exact⟨fun h=>⟨h.2.2,h.2.1.1,h.2.1.2⟩,fun h=>⟨hA,⟨h.2.1,h.2.2⟩,h.1⟩⟩
def fU.below (h:fU w0 W B v1 v2 l1 l2) (hb:Bl W W'):fU w0 W' B v1 v2 l1 l2:=by
 have hg:W.grownBy W' nn:=⟨hb.os,hb.tape,hb.output,hb.size,fun k hk _=>hb.block k hk⟩
 have hne:∀ v:Value,v.ownBlock=nn\/v.ownBlock≠nn:=fun v=>by cases v.ownBlock <;> simp
 exact⟨h.o1.kept hg (hne v1),h.o2.kept hg (hne v2),h.ne,h.b.trans (hb.mono h.s),nT h.s hb.size⟩
open Go.Sort in
def lJ (h:dR W B v l) (hl:l.length<=100) (hB:B<=W.heap.size) :
  Calls Tp 230 #[v] W fun o W'=>cK o l.Nodup/\W.grownBy W' v.ownBlock/\Below B W W':=by
 by_cases hv:v = sL nn 0 0
 .subst hv;have hl0:l=[]:=by
   rcases h.2 with⟨_,hn⟩|⟨g,cap,cur,e,_⟩
   .exact List.length_eq_zero_iff.1 hn
   .cases e
  subst hl0;refine (mH W).mono ?_;rintro o W' ⟨rfl,rfl⟩;exact⟨⟨true,rfl,pQ⟩,⟨rfl,rfl,rfl,nR _,fun _ _ _=>rfl⟩,bW _ _⟩
 .have h':=h;obtain⟨g,cap,rfl,h1,h2,h3,h4⟩:=eY h hv;have hH:Holds (Value.int .i64) W g 0 l.toArray:=by
   intro j hj;have hj':j<l.length:=by simpa using hj
   refine⟨?_,by rw[zf];exact QV h' j⟩;rw[zf,h4 W rfl j om,List.getElem?_map,getElem!_pos l.toArray j hj];simp[qA hj']
  refine (mI W g cap l hH h2 h3 hl).mono ?_;rintro o W' ⟨hr,hk,hb⟩;exact⟨hr,⟨hb.os,hb.tape,hb.output,hb.size,fun k hk1 hk2=>hk k (fun e=>hk2 (by rw[e];rfl)) hk1⟩,hb.mono h1⟩
def eW {ops:Array Oper} {o:Oper} {a:Act} {K:Act->Wd->Prop} {Q:Exit->Act->Wd->Prop} {E:Prop} (hgd:o.guard=nn) (s x:Operand)
  (ho:o.op = .call { callee:=.builtin .append,args:=#[s,x],argTypes:=#[281,281] }) (v:Value) (hs:a.eval s=v) (b:Nat) (hx:a.eval x = sL (sQ ⟨b,0,nn⟩) 1 1) (v':Value) (W W':Wd)
  (hr:(Builtin.append_ #[281,281] o.type #[v,sL (sQ ⟨b,0,nn⟩) 1 1]).run Tp W = .ok v' W') (h:K (a.put o.dst v') W') :
  if Region.wanted o (yielded ops a.tmps)=true then Oper.wp Tp o a W K Q else E:=by
 have hw:Region.wanted o (yielded ops a.tmps)=true:=by simp[Region.wanted,hgd]
 rw[zc hw];unfold Oper.wp execOp;simp only[ho,resolve,invoke,builtin,Q8,Sem.run_pure,Result.andThen_ok,List.map_toArray,Qy,List.map_nil,hs,hx,hr];exact h
def fU.alloc (h:fU w0 W B v1 v2 l1 l2) (o:Obj):fU w0 (W.alloc o).drew B v1 v2 l1 l2:=⟨(h.o1.alloc o).drew,(h.o2.alloc o).drew,h.ne,(h.b.alloc h.s o).drew,by show B<=(W.alloc o).heap.size;have:=h.s;simp;omega⟩
def CR (h:fU w0 W B v1 v2 l1 l2) (y:Int) (b:Nat) (hb:W.heap[b]?=sQ (.cells #[I J y] 3)) (hl:l1.length<=100) (R:TypeId) :
  ∃ v' W',(Builtin.append_ #[281,281] R #[v1,sL (sQ ⟨b,0,nn⟩) 1 1]).run Tp W = .ok v' W'/\fU w0 W' B v' v2 (l1++[y]) l2/\(∀ k,k<W.heap.size->v1.ownBlock≠sQ k->W'.heap[k]?=W.heap[k]?)/\W.heap.size<=W'.heap.size/\(v'.ownBlock=v1.ownBlock\/v'.ownBlock=sQ W.heap.size):=by
 obtain⟨v',W',hr,ho,hg,hat⟩:=F7 h.o1 y b hb hl h.s R;have hn:∀ g,v'.ownBlock=sQ g->v2.ownBlock≠sQ g:=by
  intro g hg' e2;rcases hat with e|e
  .exact h.ne g (e ▸ hg') e2
  .rw[e] at hg';cases hg';exact Qz (h.o2.lt _ e2).2 (Qf _)
 have hk:v2.ownBlock=nn\/v2.ownBlock≠v1.ownBlock:=by
  cases e:v2.ownBlock with
  | none=>exact qr rfl
  | some g=>exact qy fun e2=>h.ne g e2.symm e
 refine⟨v',W',hr,⟨ho,h.o2.kept hg hk,hn,h.b.grown hg h.s (fun k hk=>(h.o1.lt k hk).1),nT h.s hg.size⟩,fun k h1 h2=>hg.block k h1 (fun e=>h2 e.symm),hg.size,hat⟩
def fU.symm (h:fU w0 W B v1 v2 l1 l2):fU w0 W B v2 v1 l2 l1:=⟨h.o2,h.o1,fun g h1 h2=>h.ne g h2 h1,h.b,h.s⟩
def Fx (h:fU w0 W B v1 v2 l1 l2) (y:Int) (b:Nat) (hb:W.heap[b]?=sQ (.cells #[I J y] 3)) (hl:l2.length<=100) (R:TypeId) :
  ∃ v' W',(Builtin.append_ #[281,281] R #[v2,sL (sQ ⟨b,0,nn⟩) 1 1]).run Tp W = .ok v' W'/\fU w0 W' B v1 v' l1 (l2++[y])/\(∀ k,k<W.heap.size->v2.ownBlock≠sQ k->W'.heap[k]?=W.heap[k]?)/\W.heap.size<=W'.heap.size/\(v'.ownBlock=v2.ownBlock\/v'.ownBlock=sQ W.heap.size):=by
 obtain⟨v',W',hr,h1,h2,h3,h4⟩:=CR h.symm y b hb hl R;exact⟨v',W',hr,h1.symm,h2,h3,h4⟩
structure rg (w0 W:Wd) (B PB:Nat) (L:List Value) (v1 v2:Value) (l1 l2:List Int):Prop where
 t:fU w0 W B v1 v2 l1 l2
 p:blk W PB L 106
 n1:v1.ownBlock≠sQ PB
 n2:v2.ownBlock≠sQ PB
def rg.alloc (h:rg w0 W B PB L v1 v2 l1 l2) (o:Obj):rg w0 (W.alloc o).drew B PB L v1 v2 l1 l2:=⟨h.t.alloc o,h.p.alloc o,h.n1,h.n2⟩
def rg.alloc' (h:rg w0 W B PB L v1 v2 l1 l2) (o:Obj):rg w0 (W.alloc o) B PB L v1 v2 l1 l2:=⟨⟨h.t.o1.alloc o,h.t.o2.alloc o,h.t.ne,h.t.b.alloc h.t.s o,by have:=h.t.s;simp;omega⟩,h.p.alloc o,h.n1,h.n2⟩
def iP (W:Wd) (o:Obj):(W.alloc o).drew.heap[W.heap.size]?=sQ o:=QO W o
def rg.app1 (h:rg w0 W B PB L v1 v2 l1 l2) (y:Int) (b:Nat) (hb:W.heap[b]?=sQ (.cells #[I J y] 3)) (hl:l1.length<=100) (R:TypeId) :
  ∃ v' W',(Builtin.append_ #[281,281] R #[v1,sL (sQ ⟨b,0,nn⟩) 1 1]).run Tp W = .ok v' W'/\rg w0 W' B PB L v' v2 (l1++[y]) l2/\(∀ k x,v1.ownBlock≠sQ k->W.heap[k]?=sQ x->W'.heap[k]?=sQ x):=by
 obtain⟨v',W',hr,h1,h2,h3,h4⟩:=CR h.t y b hb hl R;refine⟨v',W',hr,⟨h1,(h2 PB h.p.lt h.n1).trans h.p,?_,h.n2⟩,fun k x hk hx=>(h2 k (aJ hx) hk).trans hx⟩;rcases h4 with e|e
 .rw[e];exact h.n1
 .rw[e];intro e2;cases e2;exact Qz h.p.lt (Qf _)
def rg.app2 (h:rg w0 W B PB L v1 v2 l1 l2) (y:Int) (b:Nat) (hb:W.heap[b]?=sQ (.cells #[I J y] 3)) (hl:l2.length<=100) (R:TypeId) :
  ∃ v' W',(Builtin.append_ #[281,281] R #[v2,sL (sQ ⟨b,0,nn⟩) 1 1]).run Tp W = .ok v' W'/\rg w0 W' B PB L v1 v' l1 (l2++[y])/\(∀ k x,v2.ownBlock≠sQ k->W.heap[k]?=sQ x->W'.heap[k]?=sQ x):=by
 obtain⟨v',W',hr,h1,h2,h3,h4⟩:=Fx h.t y b hb hl R;refine⟨v',W',hr,⟨h1,(h2 PB h.p.lt h.n2).trans h.p,h.n1,?_⟩,fun k x hk hx=>(h2 k (aJ hx) hk).trans hx⟩;rcases h4 with e|e
 .rw[e];exact h.n2
 .rw[e];intro e2;cases e2;exact Qz h.p.lt (Qf _)
def kI (w:Wd) (a:Option Addr) (n cap:Nat) (bx:List R8) (st:Int) (h:aM w a n cap bx) (hn:n<=8) (hst:0<=st/\st<=1000000) :
  Calls Tp 179 #[sL a n cap,I J st] w fun o w'=>cK o (dw st bx)/\Bl w w':=by
 have HH:Hid (aM w a n cap bx):=h;have HL:Hid (n=bx.length):=h.len;have hcp:=h.cap;have HST:Hid (0<=st/\st<=1000000):=hst;clear h hst;go_enter Tryz.func179,Tryz.ntmps179;go_wp2_with fail;go_loopw [5,6,7,12] (fun v1 v2 q i wr=>∃ k m:Nat,k<=n/\i = I J (k:Int)/\q = I J (m:Int)/\m<=k/\m=gX (bx.take k)/\(∀ j (hj:j<bx.length),j<k->cZ st bx[j])/\fU w wr w.heap.size v1 v2 (nfY (bx.take k)) (nfZ (bx.take k))) (fun _ _ _ i _=>n-(intOf i).toNat);case atStart=>exact⟨0,0,nZ _,rfl,rfl,nR _,(by simp[gX]),fun j hj h=>Qz h (nN _),⟨Q6 w _ 3 1,Q6 w _ 3 1,(fun g h=>(by cases h)),bW _ _,nR _⟩⟩
 case round=>
  obtain⟨k,q,hk,rfl,rfl,hqk,hq,hA,hT⟩:=hrel;have HQ:Hid (q=gX (bx.take k)):=hq;have HA:Hid (∀ j (hj:j<bx.length),j<k->cZ st bx[j]):=hA;have HT:Hid (fU w wr w.heap.size u5 u6 (nfY (bx.take k)) (nfZ (bx.take k))):=hT;clear hq hA hT;by_cases hlt:k<n
  .have hkl:k<bx.length:=by have:=HL.o;omega
   obtain⟨g,off,rfl,hc⟩:=HH.o.cells (fun e=>by rw[e] at hkl;cases hkl);obtain⟨ao,m,c,hx⟩:=hc k hkl;have hx':=hx.below HT.o.b;have HRG0:=hx'.range;have hY:=yP bx k hkl;have hZ:=yO bx k hkl;have hW:=sj bx k hkl;have HV0:=nD (wr.alloc (.cells #[I J bx[k].x,I J bx[k].y,I J bx[k].z,bO bx[k].e,I zn (bx[k].i:Int),bO bx[k].r,I J bx[k].d,sL ao m c] 106)) bx[k] st ao m c (hx'.dat.below qw) HST.o;have HBAD0:Hid (¬ cZ st bx[k]->¬ dw st bx):=mX hkl;have HAS:Hid (cZ st bx[k]->∀ j (hj:j<bx.length),j<k+1->cZ st bx[j]):=fun h=>kR hkl HA.o h;have hLY:=uR (bx.take k);rw[qj] at hLY;have HLY:Hid ((nfY (bx.take k)).length<=100/\(nfZ (bx.take k)).length<=100):=⟨om,om⟩
   obtain⟨b,hb⟩ : ∃ b,bx[k]=b:=⟨_,rfl⟩
   rw[hb] at HRG0 hY hZ hW HV0 HBAD0 HAS;obtain⟨x,y,z,e,i,r,d,l⟩:=b;simp only[] at HV0 hY hZ hW;have HRG:Hid (wr.rangeAt g (off+k*8) [I J x,I J y,I J z,bO e,I zn (i:Int),bO r,I J d,sL ao m c]):=HRG0;have HY:Hid (nfY (bx.take (k+1))=nfY (bx.take k)++(if (x != 0)=true then [y] else [])):=hY;have HZ:Hid (nfZ (bx.take (k+1))=nfZ (bx.take k)++(if (x != 0)=true then [z] else [])):=hZ;have HW:Hid (gX (bx.take (k+1))=gX (bx.take k)+(if (x == 2 || x == 3)=true then 1 else 0)):=hW;have HT3:Hid (fU w (wr.alloc (.cells #[I J x,I J y,I J z,bO e,I zn (i:Int),bO r,I J d,sL ao m c] 106)) w.heap.size u5 u6 (nfY (bx.take k)) (nfZ (bx.take k))):=HT.o.below qw;by_cases hok:¬ cZ st ⟨x,y,z,e,i,r,d,l⟩
   .have HBAD:Hid (¬ dw st bx):=HBAD0.o hok;have HV:Hid (Calls Tp 229 #[bxV x y z e i r d ao m c,I J st] (wr.alloc (.cells #[I J x,I J y,I J z,bO e,I zn (i:Int),bO r,I J d,sL ao m c] 106)) fun o w'=>o = rT (bO false)/\Below (wr.alloc (.cells #[I J x,I J y,I J z,bO e,I zn (i:Int),bO r,I J d,sL ao m c] 106)).heap.size (wr.alloc (.cells #[I J x,I J y,I J z,bO e,I zn (i:Int),bO r,I J d,sL ao m c] 106)) w'):=HV0.mono (by rintro o w' ⟨⟨bb,rfl,h1⟩,h2⟩;cases bb;exact⟨rfl,h2⟩;exact Qz (h1.1 rfl) hok)
    clear hx hx' hb HRG0 hY hZ hW HV0 HBAD0 HAS hLY hok hc;go_wp2_with (first
     | (refine qG 106 HRG.o Tryz.underlying106 fG ?_)
     | (go_at_call 229;refine HV.o.mono ?_;rintro o w4 ⟨rfl,hb4⟩))
    go_ret;exact⟨⟨false,rfl,by simpa using HBAD.o⟩,(HT3.o.below hb4).b⟩
   have hok:cZ st ⟨x,y,z,e,i,r,d,l⟩:=Classical.not_not.1 hok;have HAL:Hid (∀ j (hj:j<bx.length),j<k+1->cZ st bx[j]):=HAS.o hok;have HV:Hid (Calls Tp 229 #[bxV x y z e i r d ao m c,I J st] (wr.alloc (.cells #[I J x,I J y,I J z,bO e,I zn (i:Int),bO r,I J d,sL ao m c] 106)) fun o w'=>o = rT (bO true)/\Below (wr.alloc (.cells #[I J x,I J y,I J z,bO e,I zn (i:Int),bO r,I J d,sL ao m c] 106)).heap.size (wr.alloc (.cells #[I J x,I J y,I J z,bO e,I zn (i:Int),bO r,I J d,sL ao m c] 106)) w'):=HV0.mono (by rintro o w' ⟨⟨bb,rfl,h1⟩,h2⟩;rw[h1.2 hok];exact⟨rfl,h2⟩);have HWI:Hid (∀ W,Calls Tp 185 #[bxV x y z e i r d ao m c] W fun o w'=>o = rT (bO (x == 2 || x == 3))/\Bl W w'):=fun W=>gJ W ⟨x,y,z,e,i,r,d,l⟩ ao m c;clear hx hx' hb HRG0 hY hZ hW HV0 HBAD0 HAS hLY hok hc;by_cases hx0:x=0
   .subst hx0;go_wp2_with (first
     | (refine qG 106 HRG.o Tryz.underlying106 fG ?_)
     | (go_at_call 229;refine HV.o.mono ?_;rintro o w4 ⟨rfl,hb4⟩;have HB4:Hid (blk w4 wr.heap.size [I J 0,I J y,I J z,bO e,I zn (i:Int),bO r,I J d,sL ao m c] 106/\fU w w4 w.heap.size u5 u6 (nfY (bx.take k)) (nfZ (bx.take k))):=⟨(blk.new wr [I J 0,I J y,I J z,bO e,I zn (i:Int),bO r,I J d,sL ao m c] 106).below hb4,HT3.o.below hb4⟩;have y0:=HB4.o.1.cell 0 _ rfl;clear hb4)
     | (refine qG 106 HB4.o.1.load Tryz.underlying106 fG ?_)
     | (go_at_call 185;refine (HWI.o _).mono ?_;rintro o w5 ⟨rfl,hb5⟩))
    go_roundw;case rel=>
     refine⟨k+1,q,om,by go_num,rfl,om,?_,HAL.o,?_⟩
     .rw[HW.o,<- HQ.o];simp
     .rw[HY.o,HZ.o];simpa using HB4.o.2.below hb5
    case measure=>simp[intOf];omega
   .have hx0':(x != 0)=true:=by simpa using hx0
    have HYY:Hid (nfY (bx.take (k+1))=nfY (bx.take k)++[y]):=by have:=HY.o;rw[zc hx0'] at this;exact this
    have HZZ:Hid (nfZ (bx.take (k+1))=nfZ (bx.take k)++[z]):=by have:=HZ.o;rw[zc hx0'] at this;exact this
    clear hx0 HY HZ;go_wp2_with (first
     | (refine qG 106 HRG.o Tryz.underlying106 fG ?_)
     | (go_at_call 229;refine HV.o.mono ?_;rintro o w4 ⟨rfl,hb4⟩;have HB4:Hid (blk w4 wr.heap.size [I J x,I J y,I J z,bO e,I zn (i:Int),bO r,I J d,sL ao m c] 106/\fU w w4 w.heap.size u5 u6 (nfY (bx.take k)) (nfZ (bx.take k))/\w.heap.size<=wr.heap.size):=⟨(blk.new wr [I J x,I J y,I J z,bO e,I zn (i:Int),bO r,I J d,sL ao m c] 106).below hb4,HT3.o.below hb4,HT.o.s⟩;have y0:=HB4.o.1.cell 0 _ rfl;clear hb4))
    have y1:=HB4.o.1.cell 1 _ rfl;have y2:=HB4.o.1.cell 2 _ rfl;clear y0;have hg0:(∀ g,u5.ownBlock=sQ g->g<wr.heap.size)/\(∀ g,u6.ownBlock=sQ g->g<wr.heap.size):=⟨fun g hg=>(HT.o.o1.lt g hg).2,fun g hg=>(HT.o.o2.lt g hg).2⟩
    have HG0:Hid ((∀ g,u5.ownBlock=sQ g->g<wr.heap.size)/\(∀ g,u6.ownBlock=sQ g->g<wr.heap.size)):=hg0;clear hg0 HT HT3 HV HRG;generalize wr.heap.size=PB at *;generalize nfY (bx.take k)=L1 at *;generalize nfZ (bx.take k)=L2 at *;refine QK (S:=(fun W=>W.cell? ⟨PB,1,nn⟩=sQ (I J y)/\W.cell? ⟨PB,2,nn⟩=sQ (I J z))) kr ?_;have hS:(fun W=>W.cell? ⟨PB,1,nn⟩=sQ (I J y)/\W.cell? ⟨PB,2,nn⟩=sQ (I J z)) w4.drew:=⟨(Q7 _ _).trans y1,(Q7 _ _).trans y2⟩
    simp only[] at hS;refine tk 0 ?_;refine tk 1 ?_;refine tk 2 ?_;refine tk 5 ?_;refine tk 6 ?_;refine tk 7 ?_;have R0:Hid (rg w w4 w.heap.size PB [I J x,I J y,I J z,bO e,I zn (i:Int),bO r,I J d,sL ao m c] u5 u6 L1 L2):=⟨HB4.o.2.1,HB4.o.1,fun e=>Qf _ (HG0.o.1 _ e),fun e=>Qf _ (HG0.o.2 _ e)⟩
    have HLT:Hid ((∀ g,u5.ownBlock=sQ g->g<w4.heap.size)/\(∀ g,u6.ownBlock=sQ g->g<w4.heap.size)):=⟨fun g hg=>(HB4.o.2.1.o1.lt g hg).2,fun g hg=>(HB4.o.2.1.o2.lt g hg).2⟩
    clear y1 y2;refine QG (rs:=[3,8]) kr pQ ?_;refine Q9 rfl (fun K hK=>?_) (Q9 rfl (fun K hK=>?_) za)
    .go_simp;have R1:Hid (rg w (w4.alloc (.cells #[I J y] 3)).drew w.heap.size PB [I J x,I J y,I J z,bO e,I zn (i:Int),bO r,I J d,sL ao m c] u5 u6 L1 L2/\(w4.alloc (.cells #[I J y] 3)).drew.heap[w4.heap.size]?=sQ (.cells #[I J y] 3)):=⟨R0.o.alloc _,iP w4 _⟩
     have N5:Hid (u5.ownBlock≠sQ w4.heap.size/\u6.ownBlock≠sQ w4.heap.size):=⟨fun e=>Qf _ (HLT.o.1 _ e),fun e=>Qf _ (HLT.o.2 _ e)⟩
     refine hK.out _ _ ⟨R1.o.1.p.cell 1 _ rfl,R1.o.1.p.cell 2 _ rfl⟩ (fun hS2=>?_);clear hS hK K;have hS:=hS2;clear hS2;have HLT1:Hid ((∀ g,u5.ownBlock=sQ g->g<(w4.alloc (.cells #[I J y] 3)).drew.heap.size)/\(∀ g,u6.ownBlock=sQ g->g<(w4.alloc (.cells #[I J y] 3)).drew.heap.size)):=⟨fun g hg=>(R1.o.1.t.o1.lt g hg).2,fun g hg=>(R1.o.1.t.o2.lt g hg).2⟩
     generalize w4.heap.size=b3 at *;generalize hW1:(w4.alloc (.cells #[I J y] 3)).drew=W1 at *;clear hW1 HLT;refine QG (rs:=[4,8]) kr pQ ?_;refine Q9 rfl (fun K hK=>?_) (Q9 rfl (fun K hK=>?_) za)
     .obtain⟨v1,W2,hr,h2,hkp⟩:=R1.o.1.app1 y b3 R1.o.2 HLY.o.1 281;refine eW rfl (.tmp 23) (.tmp 26) rfl u5 rfl b3 rfl v1 W1 W2 hr ?_;simp only[aZ];clear hr;have R2:Hid (rg w W2 w.heap.size PB [I J x,I J y,I J z,bO e,I zn (i:Int),bO r,I J d,sL ao m c] v1 u6 (L1++[y]) L2):=h2;clear h2 hkp;refine hK.out _ _ ⟨R2.o.p.cell 1 _ rfl,R2.o.p.cell 2 _ rfl⟩ (fun hS2=>?_);clear hS hK K;have hS:=hS2;clear hS2;refine al 8 fun K hK=>?_;go_simp;have R3:Hid (rg w (W2.alloc (.cells #[I J z] 3)) w.heap.size PB [I J x,I J y,I J z,bO e,I zn (i:Int),bO r,I J d,sL ao m c] v1 u6 (L1++[y]) L2/\(W2.alloc (.cells #[I J z] 3)).heap[W2.heap.size]?=sQ (.cells #[I J z] 3)):=⟨R2.o.alloc' _,QO W2 _⟩
      refine hK.out _ _ ⟨R3.o.1.p.cell 1 _ rfl,R3.o.1.p.cell 2 _ rfl⟩ (fun hS2=>?_);clear hS hK K;have hS:=hS2;clear hS2;generalize W2.heap.size=b8 at *;generalize hW3:(W2.alloc (.cells #[I J z] 3))=W3 at *;clear hW3;refine al 9 fun K hK=>?_;obtain⟨v2,W4,hr,h2,hkp⟩:=R3.o.1.app2 z b8 R3.o.2 HLY.o.2 281;refine eW rfl (.tmp 28) (.tmp 31) rfl u6 rfl b8 rfl v2 W3 W4 hr ?_;simp only[aZ];clear hr;have R4:Hid (rg w W4 w.heap.size PB [I J x,I J y,I J z,bO e,I zn (i:Int),bO r,I J d,sL ao m c] v1 v2 (L1++[y]) (L2++[z])):=h2;clear h2 hkp;refine hK.out _ _ ⟨R4.o.p.cell 1 _ rfl,R4.o.p.cell 2 _ rfl⟩ (fun hS2=>?_);clear hS hK K;have hS:=hS2;clear hS2;refine tk 10 ?_;refine tk 11 ?_;refine QI kr ?_ _;clear hS;have FT:Hid (rg w W4 w.heap.size PB [I J x,I J y,I J z,bO e,I zn (i:Int),bO r,I J d,sL ao m c] v1 v2 (L1++[y]) (L2++[z])):=R4.o;by_cases hw:(x == 2 || x == 3)=true
      .have HWJ:Hid (∀ W,Calls Tp 185 #[bxV x y z e i r d ao m c] W fun o w'=>o = rT (bO true)/\Bl W w'):=fun W=>hw ▸ HWI.o W;have HWT:Hid ((x == 2 || x == 3)=true):=hw
       clear hw HWI;go_wp2_with (first
        | (refine qG 106 FT.o.p.load Tryz.underlying106 fG ?_)
        | (go_at_call 185;refine (HWJ.o _).mono ?_;rintro o w5 ⟨rfl,hb5⟩))
       go_roundw;case rel=>
        refine⟨k+1,q+1,om,by go_num,by go_num,om,?_,HAL.o,?_⟩
        .rw[HW.o,<- HQ.o,zc HWT.o]
        .rw[HYY.o,HZZ.o];exact FT.o.t.below hb5
       case measure=>simp[intOf];omega
      .have hw':(x == 2 || x == 3)=false:=by simpa using hw
       have HWJ:Hid (∀ W,Calls Tp 185 #[bxV x y z e i r d ao m c] W fun o w'=>o = rT (bO false)/\Bl W w'):=fun W=>hw' ▸ HWI.o W;have HWT:Hid (¬ (x == 2 || x == 3)=true):=hw
       clear hw hw' HWI;go_wp2_with (first
        | (refine qG 106 FT.o.p.load Tryz.underlying106 fG ?_)
        | (go_at_call 185;refine (HWJ.o _).mono ?_;rintro o w5 ⟨rfl,hb5⟩))
       go_roundw;case rel=>
        refine⟨k+1,q,om,by go_num,rfl,om,?_,HAL.o,?_⟩
        .rw[HW.o,<- HQ.o,zb HWT.o];rfl
        .rw[HYY.o,HZZ.o];exact FT.o.t.below hb5
       case measure=>simp[intOf];omega
     .go_simp;have R2:Hid (rg w (W1.alloc (.cells #[I J z] 3)) w.heap.size PB [I J x,I J y,I J z,bO e,I zn (i:Int),bO r,I J d,sL ao m c] u5 u6 L1 L2/\(W1.alloc (.cells #[I J z] 3)).heap[b3]?=sQ (.cells #[I J y] 3)/\(W1.alloc (.cells #[I J z] 3)).heap[W1.heap.size]?=sQ (.cells #[I J z] 3)):=⟨R1.o.1.alloc' _,(Below.heap_alloc _ _ _ (aJ R1.o.2)).trans R1.o.2,QO W1 _⟩
      have N8:Hid (u5.ownBlock≠sQ W1.heap.size):=fun e=>Qf _ (HLT1.o.1 _ e);refine hK.out _ _ ⟨R2.o.1.p.cell 1 _ rfl,R2.o.1.p.cell 2 _ rfl⟩ (fun hS2=>?_);clear hS hK K;have hS:=hS2;clear hS2;generalize W1.heap.size=b8 at *;generalize hW2:(W1.alloc (.cells #[I J z] 3))=W2 at *;clear hW2;refine al 4 fun K hK=>?_;obtain⟨v1,W3,hr,h2,hkp⟩:=R2.o.1.app1 y b3 R2.o.2.1 HLY.o.1 281;refine eW rfl (.tmp 23) (.tmp 26) rfl u5 rfl b3 rfl v1 W2 W3 hr ?_;simp only[aZ];clear hr;have R3:Hid (rg w W3 w.heap.size PB [I J x,I J y,I J z,bO e,I zn (i:Int),bO r,I J d,sL ao m c] v1 u6 (L1++[y]) L2/\W3.heap[b8]?=sQ (.cells #[I J z] 3)):=⟨h2,hkp _ _ N8.o R2.o.2.2⟩
      clear h2 hkp;refine hK.out _ _ ⟨R3.o.1.p.cell 1 _ rfl,R3.o.1.p.cell 2 _ rfl⟩ (fun hS2=>?_);clear hS hK K;have hS:=hS2;clear hS2;refine al 9 fun K hK=>?_;obtain⟨v2,W4,hr,h2,hkp⟩:=R3.o.1.app2 z b8 R3.o.2 HLY.o.2 281;refine eW rfl (.tmp 28) (.tmp 31) rfl u6 rfl b8 rfl v2 W3 W4 hr ?_;simp only[aZ];clear hr;have R4:Hid (rg w W4 w.heap.size PB [I J x,I J y,I J z,bO e,I zn (i:Int),bO r,I J d,sL ao m c] v1 v2 (L1++[y]) (L2++[z])):=h2;clear h2 hkp;refine hK.out _ _ ⟨R4.o.p.cell 1 _ rfl,R4.o.p.cell 2 _ rfl⟩ (fun hS2=>?_);clear hS hK K;have hS:=hS2;clear hS2;refine tk 10 ?_;refine tk 11 ?_;refine QI kr ?_ _;clear hS;have FT:Hid (rg w W4 w.heap.size PB [I J x,I J y,I J z,bO e,I zn (i:Int),bO r,I J d,sL ao m c] v1 v2 (L1++[y]) (L2++[z])):=R4.o;by_cases hw:(x == 2 || x == 3)=true
      .have HWJ:Hid (∀ W,Calls Tp 185 #[bxV x y z e i r d ao m c] W fun o w'=>o = rT (bO true)/\Bl W w'):=fun W=>hw ▸ HWI.o W;have HWT:Hid ((x == 2 || x == 3)=true):=hw
       clear hw HWI;go_wp2_with (first
        | (refine qG 106 FT.o.p.load Tryz.underlying106 fG ?_)
        | (go_at_call 185;refine (HWJ.o _).mono ?_;rintro o w5 ⟨rfl,hb5⟩))
       go_roundw;case rel=>
        refine⟨k+1,q+1,om,by go_num,by go_num,om,?_,HAL.o,?_⟩
        .rw[HW.o,<- HQ.o,zc HWT.o]
        .rw[HYY.o,HZZ.o];exact FT.o.t.below hb5
       case measure=>simp[intOf];omega
      .have hw':(x == 2 || x == 3)=false:=by simpa using hw
       have HWJ:Hid (∀ W,Calls Tp 185 #[bxV x y z e i r d ao m c] W fun o w'=>o = rT (bO false)/\Bl W w'):=fun W=>hw' ▸ HWI.o W;have HWT:Hid (¬ (x == 2 || x == 3)=true):=hw
       clear hw hw' HWI;go_wp2_with (first
        | (refine qG 106 FT.o.p.load Tryz.underlying106 fG ?_)
        | (go_at_call 185;refine (HWJ.o _).mono ?_;rintro o w5 ⟨rfl,hb5⟩))
       go_roundw;case rel=>
        refine⟨k+1,q,om,by go_num,rfl,om,?_,HAL.o,?_⟩
        .rw[HW.o,<- HQ.o,zb HWT.o];rfl
        .rw[HYY.o,HZZ.o];exact FT.o.t.below hb5
       case measure=>simp[intOf];omega
    .go_simp;have R1:Hid (rg w (w4.alloc (.cells #[I J z] 3)).drew w.heap.size PB [I J x,I J y,I J z,bO e,I zn (i:Int),bO r,I J d,sL ao m c] u5 u6 L1 L2/\(w4.alloc (.cells #[I J z] 3)).drew.heap[w4.heap.size]?=sQ (.cells #[I J z] 3)):=⟨R0.o.alloc _,iP w4 _⟩
     have N5:Hid (u5.ownBlock≠sQ w4.heap.size):=fun e=>Qf _ (HLT.o.1 _ e);refine hK.out _ _ ⟨R1.o.1.p.cell 1 _ rfl,R1.o.1.p.cell 2 _ rfl⟩ (fun hS2=>?_);clear hS hK K;have hS:=hS2;clear hS2;generalize w4.heap.size=b8 at *;generalize hW1:(w4.alloc (.cells #[I J z] 3)).drew=W1 at *;clear hW1 HLT;refine al 3 fun K hK=>?_;go_simp;have R2:Hid (rg w (W1.alloc (.cells #[I J y] 3)) w.heap.size PB [I J x,I J y,I J z,bO e,I zn (i:Int),bO r,I J d,sL ao m c] u5 u6 L1 L2/\(W1.alloc (.cells #[I J y] 3)).heap[b8]?=sQ (.cells #[I J z] 3)/\(W1.alloc (.cells #[I J y] 3)).heap[W1.heap.size]?=sQ (.cells #[I J y] 3)):=⟨R1.o.1.alloc' _,(Below.heap_alloc _ _ _ (aJ R1.o.2)).trans R1.o.2,QO W1 _⟩
     refine hK.out _ _ ⟨R2.o.1.p.cell 1 _ rfl,R2.o.1.p.cell 2 _ rfl⟩ (fun hS2=>?_);clear hS hK K;have hS:=hS2;clear hS2;generalize W1.heap.size=b3 at *;generalize hW2:(W1.alloc (.cells #[I J y] 3))=W2 at *;clear hW2;refine al 4 fun K hK=>?_;obtain⟨v1,W3,hr,h2,hkp⟩:=R2.o.1.app1 y b3 R2.o.2.2 HLY.o.1 281;refine eW rfl (.tmp 23) (.tmp 26) rfl u5 rfl b3 rfl v1 W2 W3 hr ?_;simp only[aZ];clear hr;have R3:Hid (rg w W3 w.heap.size PB [I J x,I J y,I J z,bO e,I zn (i:Int),bO r,I J d,sL ao m c] v1 u6 (L1++[y]) L2/\W3.heap[b8]?=sQ (.cells #[I J z] 3)):=⟨h2,hkp _ _ N5.o R2.o.2.1⟩
     clear h2 hkp;refine hK.out _ _ ⟨R3.o.1.p.cell 1 _ rfl,R3.o.1.p.cell 2 _ rfl⟩ (fun hS2=>?_);clear hS hK K;have hS:=hS2;clear hS2;refine al 9 fun K hK=>?_;obtain⟨v2,W4,hr,h2,hkp⟩:=R3.o.1.app2 z b8 R3.o.2 HLY.o.2 281;refine eW rfl (.tmp 28) (.tmp 31) rfl u6 rfl b8 rfl v2 W3 W4 hr ?_;simp only[aZ];clear hr;have R4:Hid (rg w W4 w.heap.size PB [I J x,I J y,I J z,bO e,I zn (i:Int),bO r,I J d,sL ao m c] v1 v2 (L1++[y]) (L2++[z])):=h2;clear h2 hkp;refine hK.out _ _ ⟨R4.o.p.cell 1 _ rfl,R4.o.p.cell 2 _ rfl⟩ (fun hS2=>?_);clear hS hK K;have hS:=hS2;clear hS2;refine tk 10 ?_;refine tk 11 ?_;refine QI kr ?_ _;clear hS;have FT:Hid (rg w W4 w.heap.size PB [I J x,I J y,I J z,bO e,I zn (i:Int),bO r,I J d,sL ao m c] v1 v2 (L1++[y]) (L2++[z])):=R4.o;by_cases hw:(x == 2 || x == 3)=true
     .have HWJ:Hid (∀ W,Calls Tp 185 #[bxV x y z e i r d ao m c] W fun o w'=>o = rT (bO true)/\Bl W w'):=fun W=>hw ▸ HWI.o W;have HWT:Hid ((x == 2 || x == 3)=true):=hw
      clear hw HWI;go_wp2_with (first
       | (refine qG 106 FT.o.p.load Tryz.underlying106 fG ?_)
       | (go_at_call 185;refine (HWJ.o _).mono ?_;rintro o w5 ⟨rfl,hb5⟩))
      go_roundw;case rel=>
       refine⟨k+1,q+1,om,by go_num,by go_num,om,?_,HAL.o,?_⟩
       .rw[HW.o,<- HQ.o,zc HWT.o]
       .rw[HYY.o,HZZ.o];exact FT.o.t.below hb5
      case measure=>simp[intOf];omega
     .have hw':(x == 2 || x == 3)=false:=by simpa using hw
      have HWJ:Hid (∀ W,Calls Tp 185 #[bxV x y z e i r d ao m c] W fun o w'=>o = rT (bO false)/\Bl W w'):=fun W=>hw' ▸ HWI.o W;have HWT:Hid (¬ (x == 2 || x == 3)=true):=hw
      clear hw hw' HWI;go_wp2_with (first
       | (refine qG 106 FT.o.p.load Tryz.underlying106 fG ?_)
       | (go_at_call 185;refine (HWJ.o _).mono ?_;rintro o w5 ⟨rfl,hb5⟩))
      go_roundw;case rel=>
       refine⟨k+1,q,om,by go_num,rfl,om,?_,HAL.o,?_⟩
       .rw[HW.o,<- HQ.o,zb HWT.o];rfl
       .rw[HYY.o,HZZ.o];exact FT.o.t.below hb5
      case measure=>simp[intOf];omega
  .have hkn:bx.take k=bx:=ze (by have:=HL.o;omega);have hT:=HT.o;have hq:=HQ.o;rw[hkn] at hT hq;have HIF:Hid (dw st bx↔(q<=1/\(nfY bx).Nodup/\(nfZ bx).Nodup)):=by
    have:=wj st bx (fun j hj=>HA.o j hj (by have:=HL.o;omega));rw[<- hq] at this;exact this
   have HTT:Hid (fU w wr w.heap.size u5 u6 (nfY bx) (nfZ bx)):=hT;have hln:=uR bx;have HLN:Hid ((nfY bx).length<=100/\(nfZ bx).length<=100):=⟨by have:=HL.o;omega,by have:=HL.o;omega⟩
   clear hkn hT hq hln HT HQ HA;by_cases hq1:q<=1
   .have hq1':decide ((q:Int)<=1)=true:=by simp;omega
    have HQ1:Hid (q<=1):=hq1;clear hq1;go_wp2_with fail;refine (lJ HTT.o.o1 HLN.o.1 HTT.o.s).mono ?_;rintro o w1 ⟨⟨b1,rfl,h1⟩,hg1,hb1⟩;have H1:Hid ((b1=true↔(nfY bx).Nodup)/\dR w1 w.heap.size u6 (nfZ bx)/\Bl w w1/\w.heap.size<=w1.heap.size):=by
     refine⟨h1,HTT.o.o2.kept hg1 ?_,HTT.o.b.trans hb1,nT HTT.o.s hg1.size⟩;cases e:u6.ownBlock with
     | none=>exact qr rfl
     | some g=>exact qy fun e2=>HTT.o.ne g e2.symm e
    clear h1 hg1 hb1;cases b1
    .go_wp2_with fail;go_ret;refine⟨⟨false,rfl,?_⟩,H1.o.2.2.1⟩;rw[HIF.o];have:=H1.o.1;simp at this;simp[this]
    .go_wp2_with fail;refine (lJ H1.o.2.1 HLN.o.2 H1.o.2.2.2).mono ?_;rintro o w2 ⟨⟨b2,rfl,h2⟩,hg2,hb2⟩;have H2:Hid ((b2=true↔(nfZ bx).Nodup)/\Bl w w2):=⟨h2,H1.o.2.2.1.trans hb2⟩
     clear h2 hg2 hb2;go_wp2_with fail;go_ret;refine⟨⟨b2,rfl,?_⟩,H2.o.2⟩;rw[HIF.o,H2.o.1];exact⟨fun h=>⟨HQ1.o,(by have:=H1.o.1;simpa using this),h⟩,fun h=>h.2.2⟩
   .have hq1':decide ((q:Int)<=1)=false:=by simp;omega
    go_wp2_with fail;go_ret;refine⟨⟨false,rfl,?_⟩,HTT.o.b⟩;rw[HIF.o];simp[hq1]
def lO (w:World) (H:Ho) (s:Sl) (h:aK w H s) (hn:H.le 1048576) :
  Calls Tp 119 #[hoV H s] w fun o w'=>cK o (dP H)/\Bl w w':=by
 have H0:Hid (obS w H s (w.alloc (.cells (hoL H s).toArray 41))):=⟨blk.new w _ 41,qw⟩
 have HLB:Hid (s.n2=H.bx.length/\s.n3=H.ff.length/\s.n4=H.qu.length):=⟨h.bx.len,h.ff.len,h.qu.len⟩
 have HFS:Hid (∀ W,Bl w W->Calls Tp 178 #[sL s.a1 s.n1 s.k1] W fun o w'=>o = rT (bO (gV H.fs))/\Bl W w'):=fun W hW=>jz W _ _ _ _ (h.fs.below hW) (by rw[h.fs.len];exact hn.fs);have HFF:Hid (∀ W,Bl w W->Calls Tp 180 #[sL s.a3 s.n3 s.k3,.func (.func 181) #[] #[]] W fun o w'=>o = rT (bO (!H.ff.all dZ))/\Bl W w'):=fun W hW=>ju W _ _ _ _ (h.ff.below hW) (by rw[h.ff.len];exact hn.ff);have HQU:Hid (∀ W,Bl w W->Calls Tp 182 #[sL s.a4 s.n4 s.k4,.func (.func 183) #[] #[]] W fun o w'=>o = rT (bO (!H.qu.all ga))/\Bl W w'):=fun W hW=>jv W _ _ _ _ (h.qu.below hW) (by rw[h.qu.len];exact hn.qu);have HBX:Hid (s.n2<=8->0<=H.st/\H.st<=1000000->∀ W,Bl w W->Calls Tp 179 #[sL s.a2 s.n2 s.k2,I J H.st] W fun o w'=>cK o (dw H.st H.bx)/\Bl W w'):=fun h8 hst W hW=>kI W _ _ _ _ _ (h.bx.below hW) h8 hst;have hmf:∀ (fn:Fn) (first cap:Array Value) (w:World),(Instr.makeFunc fn first cap).run Tp w = .ok (.func fn first cap) w:=fun _ _ _ _=>rfl;have q0:=H0.o.p.cell 0 _ rfl;have q1:=H0.o.p.cell 1 _ rfl;have q2:=H0.o.p.cell 2 _ rfl;have q3:=H0.o.p.cell 3 _ rfl;clear h hn;rw[gR];go_enter Tryz.func119,Tryz.ntmps119;go_wp2_with fail;refine (kh _ H.c0 H.c1 H.c2 H.c3).mono ?_;rintro o w1 ⟨rfl,hb1⟩;have O1:Hid (obS w H s w1):=H0.o.below hb1;obtain⟨b,hb⟩ : ∃ b,kU H.c0 H.c1 H.c2 H.c3=b:=⟨_,rfl⟩
 have HCE:Hid (kU H.c0 H.c1 H.c2 H.c3=b):=hb;rw[hb];clear q0 q1 q2 q3 hb1 H0 hb;cases b
 .go_wp2_with fail;go_ret;exact⟨⟨false,rfl,iff_of_false Qv (fun h=>by have:=h.cf;rw[HCE.o] at this;cases this)⟩,O1.o.b⟩
 have q4:=O1.o.p.cell 4 _ rfl;go_wp2_with fail;refine (HFS.o _ O1.o.b).mono ?_;rintro o w2 ⟨rfl,hb2⟩;have O2:Hid (obS w H s w2):=O1.o.below hb2;obtain⟨b,hb⟩ : ∃ b,gV H.fs=b:=⟨_,rfl⟩
 have HFE:Hid (gV H.fs=b):=hb;rw[hb];clear q4 hb2 O1 hb;cases b
 .go_wp2_with fail;go_ret;exact⟨⟨false,rfl,iff_of_false Qv (fun h=>by have:=h.fs;rw[HFE.o] at this;cases this)⟩,O2.o.b⟩
 have q0:=O2.o.p.cell 0 _ rfl;have q1:=O2.o.p.cell 1 _ rfl;have q3:=O2.o.p.cell 3 _ rfl;have q5:=O2.o.p.cell 5 _ rfl;have q6:=O2.o.p.cell 6 _ rfl;have q7:=O2.o.p.cell 7 _ rfl;have q8:=O2.o.p.cell 8 _ rfl;have q9:=O2.o.p.cell 9 _ rfl;go_wp2_with fail;refine (dh w2 H.lo 0 100000).mono ?_;rintro o w3 ⟨rfl,rfl⟩;by_cases hl:¬ (0<=H.lo/\H.lo<=100000)
 .rw[qo hl];go_wp2_with fail;go_ret;exact⟨⟨false,rfl,iff_of_false Qv (fun h=>by have:=h.l0;have:=h.l1;omega)⟩,O2.o.b⟩
 have hl:=Classical.not_not.1 hl;rw[qE hl];go_wp2_with fail;refine (dh w2 H.st 0 1000000).mono ?_;rintro o w3 ⟨rfl,rfl⟩;by_cases hs:¬ (0<=H.st/\H.st<=1000000)
 .rw[qo hs];go_wp2_with fail;go_ret;exact⟨⟨false,rfl,iff_of_false Qv (fun h=>by have:=h.s0;have:=h.s1;omega)⟩,O2.o.b⟩
 have hs:=Classical.not_not.1 hs;rw[qE hs];have HNB:Hid (¬ ((s.n2:Int)=H.c0/\(s.n3:Int)<=H.c1/\(s.n4:Int)<=H.c3)->¬ dP H):=fun h hh=>h (by have:=HLB.o;have:=hh.nb;have:=hh.nf;have:=hh.nq;omega);go_wp2_with fail
 all_goals try
  go_ret;exact⟨⟨false,rfl,by simpa using HNB.o (fun hh=>by first | omega | (have h9:=hh.1;simp_all))⟩,O2.o.b⟩
 have hb:(s.n2:Int)=H.c0:=by simp_all
 have HCB:1<=H.c0/\H.c0<=8/\1<=H.c1/\H.c1<=16/\0<=H.c2/\H.c2<=1/\1<=H.c3/\H.c3<=32:=qP HCE.o;have HNUM:Hid ((H.bx.length:Int)=H.c0/\(H.ff.length:Int)<=H.c1/\(H.qu.length:Int)<=H.c3/\0<=H.lo/\H.lo<=100000/\0<=H.st/\H.st<=1000000):=by have:=HLB.o;exact⟨om,om,om,om,om,om,om⟩
 refine (HBX.o om hs _ O2.o.b).mono ?_;rintro o w3 ⟨⟨bb,rfl,hbb⟩,hb3⟩;have O3:Hid (obS w H s w3):=O2.o.below hb3;have HB:Hid (bb=true↔dw H.st H.bx):=hbb;clear q0 q1 q3 q5 q6 q7 q8 q9 hb HCB HNB hb3 hbb O2;cases bb
 .go_wp2_with fail;go_ret;exact⟨⟨false,rfl,iff_of_false Qv (fun h=>by have:=HB.o.2 h.bx;simp at this)⟩,O3.o.b⟩
 have q6:=O3.o.p.cell 6 _ rfl;go_wp2_with fail;refine (HFF.o _ O3.o.b).mono ?_;rintro o w4 ⟨rfl,hb4⟩;have O4:Hid (obS w H s w4):=O3.o.below hb4;obtain⟨b,hb⟩ : ∃ b,H.ff.all dZ=b:=⟨_,rfl⟩
 have HFA:Hid (H.ff.all dZ=b):=hb;rw[hb];clear q6 hb4 O3 hb;cases b
 .go_wp2_with fail;go_ret;exact⟨⟨false,rfl,iff_of_false Qv (fun h=>by have:=h.ff;rw[HFA.o] at this;cases this)⟩,O4.o.b⟩
 have q7:=O4.o.p.cell 7 _ rfl;go_wp2_with fail;refine (HQU.o _ O4.o.b).mono ?_;rintro o w5 ⟨rfl,hb5⟩;have O5:Hid (obS w H s w5):=O4.o.below hb5;obtain⟨b,hb⟩ : ∃ b,H.qu.all ga=b:=⟨_,rfl⟩
 have HFIN:Hid (b=true↔dP H):=⟨fun e=>⟨HCE.o,HFE.o,HNUM.o.1,HNUM.o.2.1,HNUM.o.2.2.1,HNUM.o.2.2.2.1,HNUM.o.2.2.2.2.1,HNUM.o.2.2.2.2.2.1,HNUM.o.2.2.2.2.2.2,HFA.o,hb.trans e,HB.o.1 (by trivial)⟩,fun h=>hb.symm.trans h.qu⟩
 rw[hb];clear q7 hb5 O4 hb;cases b;all_goals
  go_wp2_with fail;go_ret;exact⟨⟨_,rfl,by simpa using HFIN.o⟩,O5.o.b⟩
end Go.Proofs.YtnfmjckkibdcaaaGreatDoor
namespace Go.Proofs.YtnfmjckkibdcaaaGreatDoor
open Go.Shelf Go.RowKit
set_option linter.all false
open Go.Value renaming int->I,slice->sL,bool->bO,pointer->pT,agg->aG
open Go.IntKind renaming i64->J
open Go.Ending renaming returned->rT
open Go.Proofs.Tryz renaming prog->Tp
variable {w:World} {g off:Nat}
def Tryz.laysE160_ren:Go.Shelf.Ren:=⟨fun | 41=>204 | n=>n,fun | 22=>37 | 23=>106 | n=>n,fun | n=>n⟩
def Tryz.laysE160:Go.Proofs.SlLaysE0.n41 Tp Tryz.laysE160_ren:={
 mixed:=kr
 f41:=⟨Tryz.f204.name,by kernel_rfl,Tryz.func204.trans (congrArg some kr)⟩
 t4:=Tryz.underlying4
 a4:=Tryz.isAgg4
 z4:=Tryz.sizeOf4
 v4:=Tryz.zeroValue4
 t22:=Tryz.underlying37
 a22:=Tryz.isAgg37
 z22:=Tryz.sizeOf37
 v22:=Tryz.zeroValue37 }
abbrev X8:=R8 × Option Addr × Nat × Nat
def x8 (t:X8):List Value:=[I J t.1.x,I J t.1.y,I J t.1.z,bO t.1.e,I .u32 (t.1.i:Int),bO t.1.r,I J t.1.d,sL t.2.1 t.2.2.1 t.2.2.2]
def c8 (bs:List X8):List Value:=bs.flatMap x8
def Ag (bs:List X8):(c8 bs).length=bs.length*8:=by
 induction bs with
 | nil=>rfl
 | cons b bs ih=>simp only[c8,qJ,qe] at ih ⊢;rw[ih];simp only[x8,Qb,List.length_nil];omega
def CN (bs:List X8):∀ j (h:j<bs.length) t,t<8->(c8 bs)[j*8+t]?=(x8 bs[j])[t]?:=by
 induction bs with
 | nil=>intro j h;exact Qz h (nN _)
 | cons b bs ih=>
  intro j h t ht;cases j with
  | zero=>
   simp only[c8,qJ,Nat.zero_mul,zf];rw[Qa (by simpa[x8] using ht)];rfl
  | succ j=>
   have e:(j+1)*8+t=8+(j*8+t):=om;rw[e];simp only[c8,qJ];rw[qZ (by simp[x8])];have:=ih j (by simpa using h) t ht;simp only[c8] at this;simpa[x8] using this
def EE {n cap:Nat} {bx:List R8} (h:aM w (some ⟨g,off,none⟩) n cap bx):∃ bs:List X8,bs.map (·.1)=bx/\∀ j (hj:j<bs.length),at8 w g (off+j*8) bs[j].1 bs[j].2.1 bs[j].2.2.1 bs[j].2.2.2:=by
 have hc:∀ j (hj:j<bx.length),∃ ao m c,at8 w g (off+j*8) bx[j] ao m c:=by
  intro j hj;obtain⟨g',off',ha,hc⟩:=h.cells (by intro e;subst e;cases hj);cases ha;exact hc j hj
 clear h;induction bx generalizing off with
 | nil=>exact⟨[],rfl,fun j hj=>Qz hj (nN _)⟩
 | cons b bx ih=>
  obtain⟨ao,m,c,h0⟩:=hc 0 pQ
  obtain⟨bs,hm,hs⟩:=ih (off:=off+8) (fun j hj=>by
   have:=hc (j+1) (by simpa using hj)
   have e:off+(j+1)*8=off+8+j*8:=om
   rw[e] at this
   simpa using this)
  refine⟨(b,ao,m,c) :: bs,by simp[hm],fun j hj=>?_⟩;cases j with
  | zero=>exact h0
  | succ j=>
   have:=hs j (by simpa using hj);have e:off+(j+1)*8=off+8+j*8:=om;rw[e];exact this
def BX {bs:List X8} (h:∀ j (hj:j<bs.length),at8 w g (off+j*8) bs[j].1 bs[j].2.1 bs[j].2.2.1 bs[j].2.2.2) (t:Nat) (u:Value) (hu:(c8 bs)[t]?=some u):w.cell? ⟨g,off+t,none⟩=some u:=by
 have ht:t<bs.length*8:=by
  have:=(List.getElem?_eq_some_iff.mp hu).1;rwa [Ag] at this
 have hj:t / 8<bs.length:=om;have e:t=t / 8*8+t % 8:=om;rw[e,CN bs (t / 8) hj (t % 8) om] at hu;have:=(h (t / 8) hj).range (t % 8) u hu;rw[e,<- Nat.add_assoc];exact this
def D9 (bs:List X8):∀ u ∈ c8 bs,u.oneCell'=true:=by
 intro u hu;simp only[c8,x8,List.mem_flatMap,Qx,Qg,or_false] at hu;obtain⟨b,_,rfl | rfl | rfl | rfl | rfl | rfl | rfl | rfl⟩:=hu <;> rfl
end Go.Proofs.YtnfmjckkibdcaaaGreatDoor
namespace Go.Proofs.YtnfmjckkibdcaaaGreatDoor
open Option renaming none->nn,some->sQ
open Go.Shelf Go.RowKit
set_option linter.all false
open Go.Value renaming int->I,slice->sL,bool->bO,pointer->pT,agg->aG
open Go.IntKind renaming i64->J
open Go.Ending renaming returned->rT
open Go.Proofs.Tryz renaming prog->Tp
variable {W b0 W':World} {n g U k:Nat} {bx:List R8} {hs:Nat->Hd}
def cS {B:Nat} {T:TypeId} {sz:Nat} {v:Value} {xs:List Value} (ho:W.ownsRow B T sz v n xs):(v = sL nn 0 0/\n=0)\/∃ g cap,v = sL (sQ ⟨g,0,nn⟩) n cap/\B<=g/\g<W.heap.size/\n<=cap/\az W g (n*sz)/\W.rangeAt g 0 xs:=by
 have ho':=ho;rcases ho.2 with⟨e,e2⟩|⟨g',cap',cur,hv',hb,hg,hcp,hmx,hsz,htk⟩
 .exact qr ⟨e,by simpa using e2⟩
 .right;have hl:=ho.1;have hcur:∀ t,t<n*sz->cur[t]?=xs[t]?:=by
   intro t ht;rw[<- htk,qU ht,qT]
  have hcell:∀ t,t<n*sz->W.cell? ⟨g',t,nn⟩=xs[t]?:=by
   intro t ht;rw[<- hcur t ht];simp[World.cell?,hg]
  refine⟨g',cap',hv',hb,aJ hg,hcp,fun t ht=>⟨?_,?_⟩,fun j u hu=>?_⟩
  .rw[hcell t ht];exact⟨_,qA om⟩
  .subst hv';exact QV ho' t
  .have hj:j<xs.length:=(List.getElem?_eq_some_iff.mp hu).1;rw[zf,hcell j om];exact hu
def rangeAt.up {o:Nat} {l:List Value} (h:W.rangeAt g o l) (he:W'.heap[g]?=W.heap[g]?):W'.rangeAt g o l:=fun j v hv=>cU (h j v hv) he
structure dr8 (b0:World) (U g n:Nat) (bx:List R8) (hs:Nat->Hd) (k:Nat) (W:World):Prop where
 len:n=bx.length
 row:az W g (n*8)
 rng:∀ j (h:j<bx.length),W.rangeAt g (j*8) (x8 (bx[j],hs j))
 old:∀ j (h:j<bx.length),k<=j->iB b0 (hs j).1 (hs j).2.1 (hs j).2.2 bx[j].l
 new:∀ j (h:j<bx.length),j<k->iB W (hs j).1 (hs j).2.1 (hs j).2.2 bx[j].l/\(((hs j).1=nn/\(hs j).2.1=0)\/∃ b,(hs j).1=sQ ⟨b,0,nn⟩/\U<=b/\b<W.heap.size/\az W b (hs j).2.1)
 dst:dst hs k
 lo:b0.heap.size<=g
 hi:g<W.heap.size
 bel:Bl b0 W
 sm:∀ j (h:j<bx.length),bx[j].l.length<=1048576
def dr8.same (h:dr8 b0 U g n bx hs k W) (he:∀ x,x=g\/U<=x->x<W.heap.size->W'.heap[x]?=W.heap[x]?) (hz:W.heap.size<=W'.heap.size) (hb:Bl b0 W'):dr8 b0 U g n bx hs k W':=
 ⟨h.len,h.row.up (he g (qr rfl) h.hi),fun j hj=>(rangeAt.up (h.rng j hj) (he g (qr rfl) h.hi)),h.old,fun j hj hk=>by
  obtain⟨h1,h2⟩:=h.new j hj hk
  rcases h2 with⟨e1,e2⟩|⟨b,e1,e2,e3,e4⟩
  .refine⟨⟨h1.len,h1.cap,h1.small,fun hne=>?_⟩,qr ⟨e1,e2⟩⟩
   exact Qz (List.length_pos_iff.2 hne) (by have:=h1.len;omega)
  .rw[e1] at h1 ⊢
   exact⟨h1.other (he b (qy e2) e3),qy ⟨b,rfl,e2,nL e3 hz,e4.up (he b (qy e2) e3)⟩⟩,h.dst,h.lo,nL h.hi hz,hb,h.sm⟩
def dr8.below (h:dr8 b0 U g n bx hs k W) (hb:Bl W W'):dr8 b0 U g n bx hs k W':=
 h.same (fun x _ hx=>hb.block x hx) hb.size (h.bel.trans (hb.mono h.bel.size))
def dr8.start {L:List R8} (bs:List X8) (hm:bs.map (·.1)=L) (hby:∀ j (hj:j<bs.length),iB b0 bs[j].2.1 bs[j].2.2.1 bs[j].2.2.2 bs[j].1.l) (hn:n=L.length) (hr:az W g (n*8)) (hg:W.rangeAt g 0 (c8 bs)) (hlo:b0.heap.size<=g) (hhi:g<W.heap.size) (hb:Bl b0 W) (hsm:∀ j (h:j<L.length),L[j].l.length<=1048576):dr8 b0 U g n L (fun j=>(bs.getD j (⟨0,0,0,false,0,false,0,[]⟩,nn,0,0)).2) 0 W:=by
 subst hm;have hl:(bs.map (·.1)).length=bs.length:=pQ;refine⟨hn,hr,fun j hj=>?_,fun j hj _=>?_,fun j hj hk=>Qz hk (nN _),fun i j _ hj=>Qz hj (nN _),hlo,hhi,hb,hsm⟩
 .have hj':j<bs.length:=om;have e:((bs.map (·.1))[j],(bs.getD j (⟨0,0,0,false,0,false,0,[]⟩,nn,0,0)).2)=bs[j]:=by simp[List.getD,hj']
  rw[e];intro t u hu;have ht:t<8:=by have:=(List.getElem?_eq_some_iff.mp hu).1;simpa[x8] using this
  rw[<- CN bs j hj' t ht] at hu;have:=hg _ _ hu;rw[zf] at this;exact this
 .have hj':j<bs.length:=om;have:=hby j hj';simpa[List.getD,hj'] using this
def dr8.at_ (h:dr8 b0 U g n bx hs k W) (j:Nat) (hj:j<bx.length):at8 W g (j*8) bx[j] (hs j).1 (hs j).2.1 (hs j).2.2:=by
 have hr:=h.rng j hj;refine⟨hr 0 _ rfl,hr 1 _ rfl,hr 2 _ rfl,hr 3 _ rfl,hr 4 _ rfl,hr 5 _ rfl,hr 6 _ rfl,hr 7 _ rfl,?_⟩;by_cases hk:j<k
 .exact (h.new j hj hk).1
 .exact (h.old j hj om).below h.bel
def dr8.is {cap:Nat} (h:dr8 b0 U g n bx hs k W) (hc:n<=cap):aM W (sQ ⟨g,0,nn⟩) n cap bx:=
 ⟨h.len,hc,fun _=>⟨g,0,rfl,fun j hj=>⟨_,_,_,by rw[zf];exact h.at_ j hj⟩⟩⟩
def ns (b0 w:World) (g off n cap:Nat) (bx:List R8) (h:aM b0 (sQ ⟨g,off,nn⟩) n cap bx) (hb0:Bl b0 w) (hn:n<=1048576) (hsm:∀ j (h:j<bx.length),bx[j].l.length<=1048576) :
  Calls Tp 204 #[sL (sQ ⟨g,off,nn⟩) n cap] w fun e w'=>∃ g' cap' hs,e = rT (sL (sQ ⟨g',0,nn⟩) n cap')/\w.heap.size<=g'/\n<=cap'/\dr8 b0 0 g' n bx hs 0 w'/\Bl w w':=by
 obtain⟨bs,hm,hs⟩:=EE h;have hlen:n=bs.length:=by rw[h.len,<- hm];simp
 obtain⟨i0,hi,hz0,hz1,hz2⟩:=QX Tryz.info106;refine (AnyE.slices_Clone Tryz.laysE160 i0 _ 8 72 hi hz0 hz1 hz2 rfl om Tryz.sizeOf106 g off n cap (c8 bs) w (by rw[Ag,hlen]) (by unfold maxLen;omega) om (fun j u hj=>BX (fun j hj=>(hs j hj).below hb0) j u hj) (D9 bs)).mono ?_;rintro e w' ⟨v',rfl,ho,hv,hbw⟩;rcases cS ho with⟨e,_⟩|⟨g',cap',rfl,hb,hlt,hcp,hrf,hrg⟩
 .exact Qz e hv
 .exact⟨g',cap',_,rfl,hb,hcp,dr8.start bs hm (fun j hj=>(hs j hj).dat) h.len hrf hrg (nT hb0.size hb) hlt (hb0.trans (hbw.mono hb0.size)) hsm,hbw⟩
def dr8.at0 (h:dr8 b0 U g n bx hs 0 W) (he:W'.heap[g]?=W.heap[g]?) (hb:Bl b0 W'):dr8 b0 U g n bx hs 0 W':=by
 refine⟨h.len,h.row.up he,fun j hj=>rangeAt.up (h.rng j hj) he,h.old,fun j hj hk=>Qz hk (nN _),h.dst,h.lo,?_,hb,h.sm⟩;have h1:=h.hi;rw[Qm h1] at he;exact aJ he
set_option maxRecDepth 20000
open Go.RowKit
set_option maxHeartbeats 16000000
def eg (b:R8):ByteArray:=zz b.e b.i b.r b.d b.l.length
def ep (a b:R8):Bool:=if eg a=eg b then decide (a.z<b.z) else Op.bytesLess (eg a).toList (eg b).toList
def at8.frame {w:World} {g o:Nat} {b:R8} {ao:Option Addr} {m c:Nat} (h:at8 w g o b ao m c):w.rangeAt g (o+3) [bO b.e,I .u32 (b.i:Int),bO b.r,I J b.d,sL ao m c]:=by
 intro j v hv;match j,hv with
 | 0,hv=>cases hv;exact h.c3
 | 1,hv=>cases hv;exact h.c4
 | 2,hv=>cases hv;exact h.c5
 | 3,hv=>cases hv;exact h.c6
 | 4,hv=>cases hv;exact h.cs
def GV (w:World) (H:Ho) (s:Sl) (h:aM w s.a2 s.n2 s.k2 H.bx) (hn:s.n2<=8) (i j:Nat) (hi:i<H.bx.length) (hj:j<H.bx.length) :
  Calls Tp 85 #[hoV H s,I J i,I J j] w fun o w'=>o = rT (bO (ep H.bx[i] H.bx[j]))/\Bl w w':=by
 have hln:=h.len;have hcp:=h.cap;have H0:Hid (obS w H s (w.alloc (.cells (hoL H s).toArray 41))):=⟨blk.new w _ 41,qw⟩
 obtain⟨c0,c1,c2,c3,fs,bx,ff,qu,lo,st⟩:=H;obtain⟨a1,n1,k1,a2,n2,k2,a3,n3,k3,a4,n4,k4⟩:=s;simp only[] at h hln hcp hn hi hj ⊢;obtain⟨g,off,rfl,hc⟩:=h.cells (by intro e;subst e;cases hi);obtain⟨ao,m,c,hx⟩:=hc i hi;obtain⟨ao',m',c',hx'⟩:=hc j hj;have hin:i<n2:=om;have hjn:j<n2:=om;clear hc h hln;have e1:=hx.dat.len;have e2:=hx'.dat.len;obtain⟨b,hb⟩ : ∃ b,bx[i]=b:=⟨_,rfl⟩
 obtain⟨b',hb'⟩ : ∃ b,bx[j]=b:=⟨_,rfl⟩
 rw[hb] at hx e1;rw[hb'] at hx' e2;rw[hb,hb'];have HBF:Hid (ep b b'=if zz b.e b.i b.r b.d m=zz b'.e b'.i b'.r b'.d m' then decide (b.z<b'.z) else Op.bytesLess (zz b.e b.i b.r b.d m).toList (zz b'.e b'.i b'.r b'.d m').toList):=by
  show ep b b'=_;unfold ep eg;rw[e1,e2]
 clear hb hb' e1 e2 hi hj;have HX:Hid (∀ W,obS w ⟨c0,c1,c2,c3,fs,bx,ff,qu,lo,st⟩ ⟨a1,n1,k1,sQ ⟨g,off,nn⟩,n2,k2,a3,n3,k3,a4,n4,k4⟩ W->at8 W g (off+i*8) b ao m c/\at8 W g (off+j*8) b' ao' m' c'):=fun W hW=>⟨hx.below hW.b,hx'.below hW.b⟩
 clear hx hx';obtain⟨x,y,z,e,id,r,d,l⟩:=b;obtain⟨x',y',z',e',id',r',d',l'⟩:=b';simp only[] at HBF HX ⊢;have p5:=H0.o.p.cell 5 _ rfl;obtain⟨A,hA⟩ : ∃ A,zz e id r d m=A:=⟨_,rfl⟩
 obtain⟨B,hB⟩ : ∃ B,zz e' id' r' d' m'=B:=⟨_,rfl⟩
 rw[hA,hB] at HBF;have HA1:Hid (∀ W,obS w ⟨c0,c1,c2,c3,fs,bx,ff,qu,lo,st⟩ ⟨a1,n1,k1,sQ ⟨g,off,nn⟩,n2,k2,a3,n3,k3,a4,n4,k4⟩ W->Calls Tp 155 #[frV e id r d ao m c] W fun o w'=>o = rT (.string A)/\Bl W w'):=fun W hW=>hA ▸ Gl W e id r d ao m c l (HX.o _ hW).1.dat;have HA2:Hid (∀ W,obS w ⟨c0,c1,c2,c3,fs,bx,ff,qu,lo,st⟩ ⟨a1,n1,k1,sQ ⟨g,off,nn⟩,n2,k2,a3,n3,k3,a4,n4,k4⟩ W->Calls Tp 155 #[frV e' id' r' d' ao' m' c'] W fun o w'=>o = rT (.string B)/\Bl W w'):=fun W hW=>hB ▸ Gl W e' id' r' d' ao' m' c' l' (HX.o _ hW).2.dat;clear hA hB;by_cases hAB:A=B
 .have HBF2:Hid (ep ⟨x,y,z,e,id,r,d,l⟩ ⟨x',y',z',e',id',r',d',l'⟩=decide (z<z')):=by have:=HBF.o;rw[zc hAB] at this;exact this
  clear HBF;subst hAB;go_enter Tryz.func85,Tryz.ntmps85
  go_wp2_with (first
   | (refine qG 47 (HX.o _ H0.o).1.frame Tryz.underlying47 jc ?_)
   | (go_at_call 155;refine (HA1.o _ H0.o).mono ?_;rintro o w1 ⟨rfl,hb1⟩;have H1:Hid (obS w ⟨c0,c1,c2,c3,fs,bx,ff,qu,lo,st⟩ ⟨a1,n1,k1,sQ ⟨g,off,nn⟩,n2,k2,a3,n3,k3,a4,n4,k4⟩ w1):=H0.o.below hb1;have q5:=H1.o.p.cell 5 _ rfl;clear HA1 p5 hb1)
   | (refine qG 47 (HX.o _ H1.o).2.frame Tryz.underlying47 jc ?_)
   | (go_at_call 155;refine (HA2.o _ H1.o).mono ?_;rintro o w2 ⟨rfl,hb2⟩;have H2:Hid (obS w ⟨c0,c1,c2,c3,fs,bx,ff,qu,lo,st⟩ ⟨a1,n1,k1,sQ ⟨g,off,nn⟩,n2,k2,a3,n3,k3,a4,n4,k4⟩ w2):=H1.o.below hb2;have r5:=H2.o.p.cell 5 _ rfl;have r2:=(HX.o _ H2.o).1.c2;have s2:=(HX.o _ H2.o).2.c2;clear HA2 q5 hb2))
  refine QK (S:=(fun W=>W.cell? ⟨w.heap.size,5,nn⟩=sQ (sL (sQ ⟨g,off,nn⟩) n2 k2)/\W.cell? ⟨g,off+i*8+2,nn⟩=sQ (I J z)/\W.cell? ⟨g,off+j*8+2,nn⟩=sQ (I J z')/\Bl w W)) kr ?_;have hS:(fun W:World=>W.cell? ⟨w.heap.size,5,nn⟩=sQ (sL (sQ ⟨g,off,nn⟩) n2 k2)/\W.cell? ⟨g,off+i*8+2,nn⟩=sQ (I J z)/\W.cell? ⟨g,off+j*8+2,nn⟩=sQ (I J z')/\Bl w W) w2.drew:=⟨(Q7 _ _).trans r5,(Q7 _ _).trans r2,(Q7 _ _).trans s2,H2.o.b.drew⟩
  simp only[] at hS;refine tk 0 ?_;refine tk 1 ?_;refine tk 2 ?_;refine tk 3 ?_;refine tk 4 ?_;refine tk 5 ?_;refine tk 6 ?_;refine tk 7 ?_;refine tk 8 ?_;refine tk 9 ?_;refine tk 10 ?_;refine tk 11 ?_;refine tk 12 ?_;refine tk 13 ?_;refine QI kr ?_ _;have HBJ:Hid (Bl w w2.drew):=hS.2.2.2;clear hS;go_wp2;go_ret;exact⟨aj HBF2.o.symm,HBJ.o⟩
 .have HBF2:Hid (ep ⟨x,y,z,e,id,r,d,l⟩ ⟨x',y',z',e',id',r',d',l'⟩=Op.bytesLess A.toList B.toList):=by have:=HBF.o;rw[zb hAB] at this;exact this
  clear HBF;have hne:(A.toList == B.toList)=false:=by
   rw[beq_eq_false_iff_ne,ByteArray.toList_eq,ByteArray.toList_eq];exact fun h=>hAB (ByteArray.ext (Array.toList_inj.1 h))
  go_enter Tryz.func85,Tryz.ntmps85
  go_wp2_with (first
   | (refine qG 47 (HX.o _ H0.o).1.frame Tryz.underlying47 jc ?_)
   | (go_at_call 155;refine (HA1.o _ H0.o).mono ?_;rintro o w1 ⟨rfl,hb1⟩;have H1:Hid (obS w ⟨c0,c1,c2,c3,fs,bx,ff,qu,lo,st⟩ ⟨a1,n1,k1,sQ ⟨g,off,nn⟩,n2,k2,a3,n3,k3,a4,n4,k4⟩ w1):=H0.o.below hb1;have q5:=H1.o.p.cell 5 _ rfl;clear HA1 p5 hb1)
   | (refine qG 47 (HX.o _ H1.o).2.frame Tryz.underlying47 jc ?_)
   | (go_at_call 155;refine (HA2.o _ H1.o).mono ?_;rintro o w2 ⟨rfl,hb2⟩;have H2:Hid (obS w ⟨c0,c1,c2,c3,fs,bx,ff,qu,lo,st⟩ ⟨a1,n1,k1,sQ ⟨g,off,nn⟩,n2,k2,a3,n3,k3,a4,n4,k4⟩ w2):=H1.o.below hb2;clear HA2 q5 hb2))
  go_ret;exact⟨aj HBF2.o.symm,H2.o.b⟩
variable {bx:List R8} {k i:Nat} {a b:R8} {r:Int}
def vc (x y:List UInt8):Op.bytesLess x y=decide (x<y):=by
 induction x generalizing y with
 | nil=>cases y <;> simp[Op.bytesLess]
 | cons a x ih=>
  cases y with
  | nil=>simp[Op.bytesLess]
  | cons b y=>
   rw[Op.bytesLess,ih];by_cases e:a=b <;> simp[List.cons_lt_cons_iff,e]
def JN (x y:List UInt8):(Lib.compareBytes x y=0↔x=y)/\(Lib.compareBytes x y<0↔Op.bytesLess x y=true):=by
 induction x generalizing y with
 | nil=>cases y <;> simp[Lib.compareBytes,Op.bytesLess]
 | cons a x ih=>
  cases y with
  | nil=>simp[Lib.compareBytes,Op.bytesLess]
  | cons b y=>
   have h1:=ih y;rw[Lib.compareBytes,Op.bytesLess];by_cases hab:a<b
   .have hne:a≠b:=fun h=>by subst h;exact Qz hab (UInt8.lt_irrefl a)
    simp[hab,hne]
   .by_cases hba:b<a
    .have hne:a≠b:=fun h=>by subst h;exact Qz hba (UInt8.lt_irrefl a)
     simp[hab,hba,hne]
    .have he:a=b:=UInt8.le_antisymm (UInt8.not_lt.1 hba) (UInt8.not_lt.1 hab);subst he;simp[hab,h1.1,h1.2]
def Kk (x y:Int):(Lib.compareInt x y<0↔x<y):=by
 unfold Lib.compareInt;split
 .simp_all
 .split <;> simp_all
def Ir (h:ep a b=true) (h':ep b a=true):False:=by
 unfold ep at h h';by_cases e:eg a=eg b
 .rw[zc e] at h;rw[zc e.symm] at h';simp at h h';omega
 .rw[zb e,vc] at h;rw[zb (fun x=>e x.symm),vc] at h';exact Qz (qP h') (List.lt_asymm (qP h))
def Ia {a b:ByteArray} (h:a.toList=b.toList):a=b:=by
 rw[ByteArray.toList_eq,ByteArray.toList_eq] at h;exact ByteArray.ext (Array.toList_inj.1 h)
def Ip {c:R8} (h:ep a b=true) (h':ep b c=true):ep a c=true:=by
 unfold ep at h h' ⊢;by_cases e:eg a=eg b
 .rw[zc e] at h;by_cases e':eg b=eg c
  .rw[zc e'] at h';rw[zc (e.trans e')];simp at h h' ⊢;omega
  .rw[zb e'] at h';rw[e,zb e'];exact h'
 .rw[zb e,vc] at h;by_cases e':eg b=eg c
  .rw[<- e',zb e,vc];exact h
  .rw[zb e',vc] at h';have h3:=List.lt_trans (qP h) (qP h');have hne:eg a≠eg c:=fun x=>by rw[x] at h3;exact Qz h3 (List.lt_irrefl _)
   rw[zb hne,vc];exact qE h3
def Iq (hz:a.z≠b.z) (h:ep a b=false):ep b a=true:=by
 unfold ep at h ⊢;by_cases e:eg a=eg b
 .rw[zc e] at h;rw[zc e.symm];simp at h ⊢;omega
 .rw[zb e,vc] at h;rw[zb (fun x=>e x.symm),vc];have h1:=of_decide_eq_false h;by_cases h2:(eg b).toList<(eg a).toList
  .exact qE h2
  .exact Qz (Ia (List.le_antisymm (List.not_lt.1 h2) (List.not_lt.1 h1))) e
def m8 (bx:List R8) (i:Nat):Prop:=∃ hi:i<bx.length,bx[i].x=1/\∀ j (hj:j<bx.length),j≠i->bx[j].x=1->ep bx[i] bx[j]=true
def eE (bx:List R8) (r:Int):Prop:=(r = -1/\∀ i,¬ m8 bx i)\/∃ i:Nat,r=i/\m8 bx i
def Ik {j:Nat} (h:m8 bx i) (h':m8 bx j):i=j:=by
 obtain⟨hi,h1,h2⟩:=h;obtain⟨hj,h3,h4⟩:=h';by_cases e:i=j
 .exact e
 .exact Qz (Ir (h2 j hj (fun x=>e x.symm) h3) (h4 i hi e h1)) id
def GK {r':Int} (h:eE bx r) (h':eE bx r'):r=r':=by
 rcases h with⟨rfl,h⟩|⟨i,rfl,h⟩
 .rcases h' with⟨rfl,h'⟩|⟨i,rfl,h'⟩
  .rfl
  .exact Qz h' (h i)
 .rcases h' with⟨rfl,h'⟩|⟨j,rfl,h'⟩
  .exact Qz h (h' i)
  .rw[Ik h h']
def eQ (bx:List R8) (k:Nat) (r:Int):Prop:=(r = -1/\∀ j (hj:j<bx.length),j<k->bx[j].x≠1)\/∃ i:Nat,r=i/\i<k/\∃ hi:i<bx.length,bx[i].x=1/\∀ j (hj:j<bx.length),j<k->j≠i->bx[j].x=1->ep bx[i] bx[j]=true
def IQ (h:eQ bx k r) (hk:bx.length<=k):eE bx r:=by
 rcases h with⟨rfl,h⟩|⟨i,rfl,hik,hi,h1,h2⟩
 .exact qr ⟨rfl,fun i hb=>by obtain⟨hi,h1,_⟩:=hb;exact h i hi om h1⟩
 .exact qy ⟨i,rfl,hi,h1,fun j hj hne hw=>h2 j hj om hne hw⟩
def Io (h:eQ bx k r) (hk:k<bx.length) (hx:bx[k].x≠1):eQ bx (k+1) r:=by
 rcases h with⟨rfl,h⟩|⟨i,rfl,hik,hi,h1,h2⟩
 .refine qr ⟨rfl,fun j hj hjk=>?_⟩;by_cases e:j=k
  .subst e;exact hx
  .exact h j hj om
 .refine qy ⟨i,rfl,om,hi,h1,fun j hj hjk hne hw=>?_⟩;by_cases e:j=k
  .subst e;exact Qz hw hx
  .exact h2 j hj om hne hw
def Hv (h:eQ bx k (-1)) (hk:k<bx.length) (hx:bx[k].x=1):eQ bx (k+1) k:=by
 rcases h with⟨_,h⟩|⟨i,h0,_⟩
 .refine qy ⟨k,rfl,om,hk,hx,fun j hj hjk hne hw=>Qz hw (h j hj om)⟩
 .omega
def Hw (h:eQ bx k (i:Int)) (hk:k<bx.length) (hi:i<bx.length) (hx:bx[k].x=1) (hb:ep bx[k] bx[i]=true):eQ bx (k+1) k:=by
 rcases h with⟨h0,_⟩|⟨i',h0,hik,hi',h1,h2⟩
 .omega
 .have:i'=i:=om;subst this;refine qy ⟨k,rfl,om,hk,hx,fun j hj hjk hne hw=>?_⟩;by_cases e:j=i'
  .subst e;exact hb
  .exact Ip hb (h2 j hj om e hw)
def Ha {st:Int} (hok:dw st bx) (h:eQ bx k (i:Int)) (hk:k<bx.length) (hi:i<bx.length) (hx:bx[k].x=1) (hb:ep bx[k] bx[i]=false):eQ bx (k+1) i:=by
 rcases h with⟨h0,_⟩|⟨i',h0,hik,hi',h1,h2⟩
 .omega
 .have:i'=i:=om;subst this;refine qy ⟨i',rfl,om,hi,h1,fun j hj hjk hne hw=>?_⟩;by_cases e:j=k
  .subst e;exact Iq (fun hz=>(hok.2.1 i' j hi hj hik (by rw[h1];decide) (by rw[hx];decide)).2 hz.symm) hb
  .exact h2 j hj om hne hw
open Go.IntKind renaming i64->J,u32->zn
def JC (w:World) (g:Nat) (a b:Int) (h:w.heap[g]?=some (.cells #[I J a,I J b] 3)) :
  Calls Tp 312 #[sL (some ⟨g,0,none⟩) 2 2] w fun o w'=>o = rT (I J (if a=0 then b else a))/\w=w':=by
 have c0:w.cell? ⟨g,0,none⟩=some (I J a):=by simp[World.cell?,h]
 have c1:w.cell? ⟨g,1,none⟩=some (I J b):=by simp[World.cell?,h]
 clear h;by_cases ha:a=0
 .subst ha;by_cases hb:b=0
  .subst hb;go_enter Tryz.func312,Tryz.ntmps312;go_wp2_with fail;go_loopw [8] (fun i wr=>∃ k:Nat,k<=2/\i = I J (k:Int)/\wr=w) (fun i _=>2-(intOf i).toNat);case atStart=>exact⟨0,nZ _,rfl,rfl⟩
   case round=>
    obtain⟨k,hk,rfl,rfl⟩:=hrel;match k,hk with
    | 0,_=>
     go_wp2;go_roundw;case rel=>exact⟨1,om,rfl,trivial⟩
     case measure=>simp[intOf]
    | 1,_=>
     go_wp2;go_roundw;case rel=>exact⟨2,om,rfl,trivial⟩
     case measure=>simp[intOf]
    | 2,_=>
     go_wp2;go_ret;exact⟨rfl,rfl⟩
  .have hb':(b == 0)=false:=by simpa using hb
   go_enter Tryz.func312,Tryz.ntmps312;go_wp2_with fail;go_loopw [8] (fun i wr=>∃ k:Nat,k<=1/\i = I J (k:Int)/\wr=w) (fun i _=>2-(intOf i).toNat);case atStart=>exact⟨0,nZ _,rfl,rfl⟩
   case round=>
    obtain⟨k,hk,rfl,rfl⟩:=hrel;match k,hk with
    | 0,_=>
     go_wp2;go_roundw;case rel=>exact⟨1,om,rfl,trivial⟩
     case measure=>simp[intOf]
    | 1,_=>
     go_wp2;go_ret;exact⟨rfl,rfl⟩
 .have ha':(a == 0)=false:=by simpa using ha
  rw[zb ha];go_enter Tryz.func312,Tryz.ntmps312;go_wp2_with fail;go_loopw [8] (fun i wr=>i = I J 0/\wr=w) (fun i _=>0);case atStart=>exact⟨rfl,rfl⟩
  case round=>
   obtain⟨rfl,rfl⟩:=hrel;go_wp2;go_ret;exact⟨rfl,rfl⟩
structure gaS (w:World) (L1 L2:List Value) (W:World):Prop where
 p:blk W w.heap.size L1 106
 q:blk W (w.heap.size+1) L2 106
 b:Bl w W
def gaS.below {w:World} {L1 L2:List Value} {W W':World} (h:gaS w L1 L2 W) (hb:Bl W W'):gaS w L1 L2 W':=⟨h.p.below hb,h.q.below hb,h.b.trans (hb.mono h.b.size)⟩
def IV (A B:R8):decide ((if Lib.compareBytes (eg A).data.toList (eg B).data.toList=0 then Lib.compareInt A.z B.z else Lib.compareBytes (eg A).data.toList (eg B).data.toList)<0)=ep A B:=by
 have h:=JN (eg A).data.toList (eg B).data.toList;unfold ep;rw[ByteArray.toList_eq,ByteArray.toList_eq];by_cases e:eg A=eg B
 .rw[zc e,zc (h.1.2 (by rw[e]))];exact decide_eq_decide.2 (Kk _ _)
 .rw[zb e,zb (fun x=>e (ByteArray.ext (Array.toList_inj.1 (h.1.1 x))))];rw[zg,qW];exact h.2
def GG (w:World) (A B:R8) (ao:Option Addr) (m c:Nat) (ao':Option Addr) (m' c':Nat) (h:iB w ao m c A.l) (h':iB w ao' m' c' B.l) :
  Calls Tp 293 #[bxV A.x A.y A.z A.e A.i A.r A.d ao m c,bxV B.x B.y B.z B.e B.i B.r B.d ao' m' c'] w fun o w'=>o = rT (bO (ep A B))/\Bl w w':=by
 have HV:=IV A B;have e1:eg A=zz A.e A.i A.r A.d m:=by unfold eg;rw[h.len]
 have e2:eg B=zz B.e B.i B.r B.d m':=by unfold eg;rw[h'.len]
 have HA1:Hid (∀ W,Bl w W->Calls Tp 314 #[frV A.e A.i A.r A.d ao m c] W fun o w'=>o = rT (.string (eg A))/\Bl W w'):=fun W hW=>e1 ▸ IA W _ _ _ _ ao m c A.l (h.below hW);have HA2:Hid (∀ W,Bl w W->Calls Tp 314 #[frV B.e B.i B.r B.d ao' m' c'] W fun o w'=>o = rT (.string (eg B))/\Bl W w'):=fun W hW=>e2 ▸ IA W _ _ _ _ ao' m' c' B.l (h'.below hW);clear e1 e2 h h';rw[<- HV];clear HV;generalize eg A=AA at *;generalize eg B=BB at *;obtain⟨x,y,z,e,id,r,d,l⟩:=A;obtain⟨x',y',z',e',id',r',d',l'⟩:=B;simp only[] at HA1 HA2 ⊢;have HC1:Hid (∀ W,Calls Tp 313 #[.string AA,.string BB] W fun o w'=>o = rT (I J (Lib.compareBytes AA.data.toList BB.data.toList))/\w'=W):=Tryz.strings_Compare AA BB;have HC2:Hid (∀ W,Calls Tp 315 #[I J z,I J z'] W fun o w'=>o = rT (I J (Lib.compareInt z z'))/\w'=W):=Tryz.cmp_Compare_int z z';generalize Lib.compareBytes AA.data.toList BB.data.toList=ca at *;generalize Lib.compareInt z z'=cb at *;have HC3:Hid (∀ W g,W.heap[g]?=some (.cells #[I J ca,I J cb] 3)->Calls Tp 312 #[sL (some ⟨g,0,none⟩) 2 2] W fun o w'=>o = rT (I J (if ca=0 then cb else ca))/\W=w'):=fun W g h=>JC W g ca cb h;generalize (if ca=0 then cb else ca)=cc at *;have HS0:Hid (gaS w [I J x,I J y,I J z,bO e,I zn (id:Int),bO r,I J d,sL ao m c] [I J x',I J y',I J z',bO e',I zn (id':Int),bO r',I J d',sL ao' m' c'] ((w.alloc (.cells [I J x,I J y,I J z,bO e,I zn (id:Int),bO r,I J d,sL ao m c].toArray 106)).alloc (.cells [I J x',I J y',I J z',bO e',I zn (id':Int),bO r',I J d',sL ao' m' c'].toArray 106))):=⟨(blk.new w _ 106).alloc _,by have:=blk.new (w.alloc (.cells [I J x,I J y,I J z,bO e,I zn (id:Int),bO r,I J d,sL ao m c].toArray 106)) [I J x',I J y',I J z',bO e',I zn (id':Int),bO r',I J d',sL ao' m' c'] 106;simpa using this,qw.alloc pQ _⟩
 go_enter Tryz.func293,Tryz.ntmps293;go_wp2_with fail;have hS0:gaS w [I J x,I J y,I J z,bO e,I zn (id:Int),bO r,I J d,sL ao m c] [I J x',I J y',I J z',bO e',I zn (id':Int),bO r',I J d',sL ao' m' c'] ((w.alloc (.cells #[I J x,I J y,I J z,bO e,I zn (id:Int),bO r,I J d,sL ao m c] 106)).alloc (.cells #[I J x',I J y',I J z',bO e',I zn (id':Int),bO r',I J d',sL ao' m' c'] 106)):=HS0.o;clear HS0;generalize ((w.alloc (.cells #[I J x,I J y,I J z,bO e,I zn (id:Int),bO r,I J d,sL ao m c] 106)).alloc (.cells #[I J x',I J y',I J z',bO e',I zn (id':Int),bO r',I J d',sL ao' m' c'] 106))=w0 at *;refine QK (S:=gaS w [I J x,I J y,I J z,bO e,I zn (id:Int),bO r,I J d,sL ao m c] [I J x',I J y',I J z',bO e',I zn (id':Int),bO r',I J d',sL ao' m' c']) kr ?_;have hS:=hS0.below (W':=w0.drew) (bW _ _).drew;clear hS0;refine tk 0 ?_;refine wU 1 (.agg [bO e,I zn (id:Int),bO r,I J d,sL ao m c].toArray) rfl (QM (by rfl) 47 (.tmp 5) rfl w.heap.size 3 rfl [bO e,I zn (id:Int),bO r,I J d,sL ao m c] _ (fun W h=>blk.loadAt [I J x,I J y,I J z] [bO e,I zn (id:Int),bO r,I J d,sL ao m c] [] h.p) Tryz.underlying47 rfl jc) hS ?_;simp only[aZ];refine tk 3 ?_;refine wU 4 (.agg [bO e',I zn (id':Int),bO r',I J d',sL ao' m' c'].toArray) rfl (QM (by rfl) 47 (.tmp 8) rfl (w.heap.size+1) 3 rfl [bO e',I zn (id':Int),bO r',I J d',sL ao' m' c'] _ (fun W h=>blk.loadAt [I J x',I J y',I J z'] [bO e',I zn (id':Int),bO r',I J d',sL ao' m' c'] [] h.q) Tryz.underlying47 rfl jc) hS ?_;simp only[aZ];refine tk 7 ?_;refine tk 8 ?_ (hy:=fun W hSw=>by (have hc:=hSw.p.cell 2 _ rfl;go_simp;try rfl));refine tk 9 ?_;refine tk 10 ?_ (hy:=fun W hSw=>by (have hc:=hSw.q.cell 2 _ rfl;go_simp;try rfl));refine al 2 fun K hK=>?_;go_simp;refine (HA1.o _ hS.b).mono ?_;rintro o w1 ⟨rfl,hb1⟩;have hS1:=hS.below hb1;go_wp2_with fail;refine hK.out _ _ hS1 (fun hS2=>?_);clear hS hK K;have hS:=hS2;clear hS2;clear hS1 hb1;refine al 5 fun K hK=>?_;go_simp;refine (HA2.o _ hS.b).mono ?_;rintro o w2 ⟨rfl,hb2⟩;have hS1:=hS.below hb2;go_wp2_with fail;refine hK.out _ _ hS1 (fun hS2=>?_);clear hS hK K;have hS:=hS2;clear hS2;clear hS1 hb2;refine al 6 fun K hK=>?_;go_simp;refine (HC1.o _).mono ?_;rintro o w3 ⟨rfl,rfl⟩;go_wp2_with fail;refine hK.out _ _ hS (fun hS2=>?_);clear hS hK K;have hS:=hS2;clear hS2;refine al 11 fun K hK=>?_;go_simp;refine (HC2.o _).mono ?_;rintro o w4 ⟨rfl,rfl⟩;go_wp2_with fail;refine hK.out _ _ hS (fun hS2=>?_);clear hS hK K;have hS:=hS2;clear hS2;refine al 12 fun K hK=>?_;go_simp;have hg:=QO w4 (.cells #[I J ca,I J cb] 3);have hS1:=hS.below ((bW _ w4).alloc (nR _) (.cells #[I J ca,I J cb] 3));generalize (w4.alloc (.cells #[I J ca,I J cb] 3))=w5 at *;refine hK.out _ _ hS1 (fun hS2=>?_);clear hS hK K hS1;have hS:=hS2;clear hS2;refine al 13 fun K hK=>?_;go_simp;refine (HC3.o _ _ hg).mono ?_;rintro o w6 ⟨rfl,rfl⟩;go_wp2_with fail;refine hK.out _ _ hS (fun hS2=>?_);clear hS hK K;have hS:=hS2;clear hS2;refine tk 14 ?_;refine tk 15 ?_;refine QI kr ?_ _;have HBJ:Hid (Bl w _):=hS.b;clear hS;go_wp2;go_ret;exact⟨rfl,HBJ.o⟩
variable {bx:List R8} {k v:Nat}
def pH (bx:List R8) (k v:Nat):Prop:=∀ (hk:k<bx.length) j (hj:j<bx.length),j<v->j≠k->bx[j].x=1->ep bx[k] bx[j]=true
def Hx (hk:k<bx.length) (hv:v<bx.length):pH bx k (v+1)↔(pH bx k v/\(v≠k->bx[v].x=1->ep bx[k] bx[v]=true)):=by
 constructor
 .intro h;exact⟨fun hk j hj hjv=>h hk j hj om,h hk v hv om⟩
 .rintro⟨h1,h2⟩ hk j hj hjv;by_cases e:j=v
  .subst e;exact h2
  .exact h1 hk j hj om
def Is (hk:k<bx.length) (hv:bx.length<=v) (hx:bx[k].x=1):pH bx k v↔m8 bx k:=
 ⟨fun h=>⟨hk,hx,fun j hj hne hw=>h hk j hj om hne hw⟩,fun ⟨_,_,h⟩ hk j hj _ hne hw=>h j hj hne hw⟩
def Ij (w:World) (H:Ho) (s:Sl) (h:aM w s.a2 s.n2 s.k2 H.bx) (hn:s.n2<=8) :
  Calls Tp 42 #[hoV H s] w fun o w'=>∃ r:Int,o = rT (I J r)/\eE H.bx r/\Bl w w':=by
 have H0:Hid (obS w H s (w.alloc (.cells (hoL H s).toArray 41))):=⟨blk.new w _ 41,qw⟩
 have hcp:=h.cap;have HB:=fun W (hW:Bl w W) i j hi hj=>GV W H s (h.below hW) hn i j hi hj;obtain⟨c0,c1,c2,c3,fs,bx,ff,qu,lo,st⟩:=H;obtain⟨a1,n1,k1,a2,n2,k2,a3,n3,k3,a4,n4,k4⟩:=s;simp only[] at h hcp hn HB ⊢;have HB:Hid _:=HB;have HL:Hid (n2=bx.length):=h.len;by_cases hl:bx=[]
 .subst hl;have hn0:n2=0:=HL.o;subst hn0;clear h HB;go_enter Tryz.func42,Tryz.ntmps42;go_wp2_with fail;go_loopw [3] (fun i wr=>i = I J 0/\obS w ⟨c0,c1,c2,c3,fs,[],ff,qu,lo,st⟩ ⟨a1,n1,k1,a2,0,k2,a3,n3,k3,a4,n4,k4⟩ wr) (fun _ _=>0);case atStart=>exact⟨rfl,H0.o⟩
  case round=>
   obtain⟨rfl,hS⟩:=hrel;have p5:=hS.p.cell 5 _ rfl;have HS:=hS.b;go_wp2;go_ret;exact⟨-1,rfl,qr ⟨rfl,fun i hb=>by obtain⟨hi,_⟩:=hb;cases hi⟩,HS⟩
 obtain⟨g,off,rfl,hc⟩:=h.cells hl;have HC:Hid (∀ j (h:j<bx.length),∃ ao m c,at8 w g (off+j*8) bx[j] ao m c):=hc;clear hc h hl;go_enter Tryz.func42,Tryz.ntmps42;go_wp2_with fail;go_loopw [3] (fun i wr=>∃ k:Nat,k<=n2/\i = I J (k:Int)/\(∀ j,j<k->¬ m8 bx j)/\obS w ⟨c0,c1,c2,c3,fs,bx,ff,qu,lo,st⟩ ⟨a1,n1,k1,sQ ⟨g,off,nn⟩,n2,k2,a3,n3,k3,a4,n4,k4⟩ wr) (fun i _=>n2-(intOf i).toNat);case atStart=>exact⟨0,nZ _,rfl,fun j h=>Qz h (nN _),H0.o⟩
 case round=>
  obtain⟨k,hk,rfl,hA,hS⟩:=hrel;have HA:Hid (∀ j,j<k->¬ m8 bx j):=hA;have HS:Hid (obS w ⟨c0,c1,c2,c3,fs,bx,ff,qu,lo,st⟩ ⟨a1,n1,k1,sQ ⟨g,off,nn⟩,n2,k2,a3,n3,k3,a4,n4,k4⟩ wr):=hS;have x5:=hS.p.cell 5 _ rfl;clear hA hS;by_cases hlt:k<n2
  .have hkl:k<bx.length:=by have:=HL.o;omega
   obtain⟨ao,m,c,hx⟩:=HC.o k hkl;have u0:=(hx.below HS.o.b).c0;clear hx;by_cases hx1:bx[k].x=1
   .rw[hx1] at u0;have HX1:Hid (bx[k].x=1):=hx1;clear hx1;go_wp2_with fail;clear x5 u0;go_loopw [4,5] (fun q j wi=>∃ (v:Nat) (b:Bool),v<=n2/\q = bO b/\j = I J (v:Int)/\(b=true↔pH bx k v)/\obS w ⟨c0,c1,c2,c3,fs,bx,ff,qu,lo,st⟩ ⟨a1,n1,k1,sQ ⟨g,off,nn⟩,n2,k2,a3,n3,k3,a4,n4,k4⟩ wi) (fun _ j _=>n2-(intOf j).toNat);case atStart=>exact⟨0,true,nZ _,rfl,rfl,⟨fun _ _ j hj h=>Qz h (nN _),fun _=>rfl⟩,HS.o⟩
    case round=>
     obtain⟨v,b,hv,rfl,rfl,hq,hS⟩:=hrel;have HQ:Hid (b=true↔pH bx k v):=hq;clear HS;have HS:Hid (obS w ⟨c0,c1,c2,c3,fs,bx,ff,qu,lo,st⟩ ⟨a1,n1,k1,sQ ⟨g,off,nn⟩,n2,k2,a3,n3,k3,a4,n4,k4⟩ wr):=hS;have x5:=hS.p.cell 5 _ rfl;clear hq hS;by_cases hvn:v<n2
     .have hvl:v<bx.length:=by have:=HL.o;omega
      have HSU:Hid (pH bx k (v+1)↔(pH bx k v/\(v≠k->bx[v].x=1->ep bx[k] bx[v]=true))):=Hx hkl hvl;have HCB:Hid (Calls Tp 85 #[aG (hoL ⟨c0,c1,c2,c3,fs,bx,ff,qu,lo,st⟩ ⟨a1,n1,k1,sQ ⟨g,off,nn⟩,n2,k2,a3,n3,k3,a4,n4,k4⟩).toArray,I J (k:Int),I J (v:Int)] wr fun o w'=>o = rT (bO (ep bx[k] bx[v]))/\Bl wr w'):=HB.o wr HS.o.b k v hkl hvl;obtain⟨ao,m,c,hx⟩:=HC.o v hvl;have u0:=(hx.below HS.o.b).c0;clear hx;generalize bx[v].x=xv at *;generalize ep bx[k] bx[v]=bf at *;by_cases hvk:v=k
      .have HQ2:Hid (b=true↔pH bx k (v+1)):=HQ.o.trans (HSU.o.trans ⟨fun h=>h.1,fun h=>⟨h,fun hne=>Qz hvk hne⟩⟩).symm;have hvk':((v:Int) == (k:Int))=true:=by simp;omega
       subst hvk;clear HCB HSU HQ;go_wp2_with fail;go_roundw;case rel=>exact⟨v+1,b,om,rfl,by go_num,HQ2.o,HS.o⟩
       case measure=>simp[intOf];omega
      .have hvk':((v:Int) == (k:Int))=false:=by simp;omega
       by_cases hxv:xv=1
       .subst hxv;have HR0:=HS.o.p.load;have HR0:Hid (wr.rangeAt w.heap.size 0 (hoL ⟨c0,c1,c2,c3,fs,bx,ff,qu,lo,st⟩ ⟨a1,n1,k1,sQ ⟨g,off,nn⟩,n2,k2,a3,n3,k3,a4,n4,k4⟩)):=HR0;cases bf with
        | true=>
         have HQ2:Hid (b=true↔pH bx k (v+1)):=HQ.o.trans (HSU.o.trans ⟨fun h=>h.1,fun h=>⟨h,fun _ _=>rfl⟩⟩).symm
         clear HSU HQ;go_wp2_with (first
          | (refine di (by simp[Region.wanted,yielded];omega) 41 _ rfl w.heap.size 0 rfl _ _ HR0.o Tryz.underlying41 rfl (px _ _) ?_)
          | (go_at_call 85;refine HCB.o.mono ?_;rintro o w4 ⟨rfl,hb4⟩))
         have HS4:=HS.o.below hb4;go_roundw;case rel=>exact⟨v+1,b,om,rfl,by go_num,HQ2.o,HS4⟩
         case measure=>simp[intOf];omega
        | false=>
         have HQ2:Hid (false=true↔pH bx k (v+1)):=⟨fun h=>Qz h (by decide),fun h=>(HSU.o.1 h).2 hvk rfl⟩
         clear HSU HQ;go_wp2_with (first
          | (refine di (by simp[Region.wanted,yielded];omega) 41 _ rfl w.heap.size 0 rfl _ _ HR0.o Tryz.underlying41 rfl (px _ _) ?_)
          | (go_at_call 85;refine HCB.o.mono ?_;rintro o w4 ⟨rfl,hb4⟩))
         have HS4:=HS.o.below hb4;go_roundw;case rel=>exact⟨v+1,false,om,rfl,by go_num,HQ2.o,HS4⟩
         case measure=>simp[intOf];omega
       .have HQ2:Hid (b=true↔pH bx k (v+1)):=HQ.o.trans (HSU.o.trans ⟨fun h=>h.1,fun h=>⟨h,fun _ hw=>Qz hw hxv⟩⟩).symm;have hxv':(xv == 1)=false:=by simpa using hxv
        clear HCB HSU HQ;go_wp2_with fail;go_roundw;case rel=>exact⟨v+1,b,om,rfl,by go_num,HQ2.o,HS.o⟩
        case measure=>simp[intOf];omega
     .have HF:Hid (b=true↔m8 bx k):=HQ.o.trans (Is hkl (by have:=HL.o;omega) HX1.o);cases b with
      | true=>
       go_wp2;go_ret;exact⟨k,rfl,qy ⟨k,rfl,HF.o.1 (by trivial)⟩,HS.o.b⟩
      | false=>
       have HA2:Hid (∀ j,j<k+1->¬ m8 bx j):=fun j hj hb=>by
        by_cases e:j=k
        .subst e;exact Qz (HF.o.2 hb) (by decide)
        .exact HA.o j om hb
       go_wp2;go_roundw;case rel=>exact⟨k+1,om,by go_num,HA2.o,HS.o⟩
       case measure=>simp[intOf];omega
   .have HA2:Hid (∀ j,j<k+1->¬ m8 bx j):=fun j hj hb=>by
     by_cases e:j=k
     .subst e;obtain⟨_,h1,_⟩:=hb;exact hx1 h1
     .exact HA.o j om hb
    have hx1':(bx[k].x == 1)=false:=by simpa using hx1
    generalize bx[k].x=xk at *;clear hx1;go_wp2;go_roundw;case rel=>exact⟨k+1,om,by go_num,HA2.o,HS.o⟩
    case measure=>simp[intOf];omega
  .have HF:Hid (∀ i,¬ m8 bx i):=fun i hb=>HA.o i (by obtain⟨hi,_⟩:=hb;have:=HL.o;omega) hb;go_wp2;go_ret;exact⟨-1,rfl,qr ⟨rfl,HF.o⟩,HS.o.b⟩
structure beS (w:World) (PB:Nat) (L:List Value) (W:World):Prop where
 p:blk W PB L 106
 b:Bl w W
def beS.below {w:World} {PB:Nat} {L:List Value} {W W':World} (h:beS w PB L W) (hb:Bl W W'):beS w PB L W':=⟨h.p.below hb,h.b.trans (hb.mono h.b.size)⟩
def Ju (w:World) (LB:Nat) (a:Option Addr) (n cap:Nat) (bx:List R8) (st:Int) (hc5:w.cell? ⟨LB,5,none⟩=some (sL a n cap)) (h:aM w a n cap bx) (hn:n<=8) (hok:dw st bx) :
  Calls Tp 275 #[pT (some ⟨LB,0,none⟩)] w fun o w'=>∃ r:Int,o = rT (I J r)/\eE bx r/\Bl w w':=by
 have hcp:=h.cap;have HL:Hid (n=bx.length):=h.len;have HOK:Hid (dw st bx):=hok;have HC5:Hid (∀ W,Bl w W->W.cell? ⟨LB,5,none⟩=some (sL a n cap)):=fun W hW=>(hW.cell (by exact QD w _ hc5)).trans hc5;clear hok;by_cases hl:bx=[]
 .subst hl;have hn0:n=0:=HL.o;subst hn0;clear h;go_enter Tryz.func275,Tryz.ntmps275;go_wp2_with fail;go_loopw [3,11] (fun b i wr=>b = I J (-1)/\i = I J 0/\w=wr) (fun _ _ _=>0);case atStart=>exact⟨rfl,rfl,rfl⟩
  case round=>
   obtain⟨rfl,rfl,rfl⟩:=hrel;go_wp2;go_ret;exact⟨-1,rfl,qr ⟨rfl,fun i hb=>by obtain⟨hi,_⟩:=hb;cases hi⟩,bW _ _⟩
 obtain⟨g,off,rfl,hc⟩:=h.cells hl;have HC:Hid (∀ j (h:j<bx.length),∃ ao m c,at8 w g (off+j*8) bx[j] ao m c):=hc;clear hc h hl;go_enter Tryz.func275,Tryz.ntmps275;go_wp2_with fail;clear hc5;go_loopw [3,11] (fun b i wr=>∃ (k:Nat) (rr:Int),k<=n/\i = I J (k:Int)/\b = I J rr/\eQ bx k rr/\Bl w wr) (fun _ i _=>n-(intOf i).toNat);case atStart=>exact⟨0,-1,nZ _,rfl,rfl,qr ⟨rfl,fun j hj h=>Qz h (nN _)⟩,bW _ _⟩
 case round=>
  obtain⟨k,rr,hk,rfl,rfl,hbk,hbw⟩:=hrel;have HBK:Hid (eQ bx k rr):=hbk;have HBW:Hid (Bl w wr):=hbw;clear hbk hbw;by_cases hlt:k<n
  .have hkl:k<bx.length:=by have:=HL.o;omega
   obtain⟨ao,m,c,hx⟩:=HC.o k hkl;have HRG:=(hx.below HBW.o).range;have HDK:Hid (iB w ao m c bx[k].l):=hx.dat;have HSK0:Hid (bx[k].x≠1->eQ bx (k+1) rr):=Io HBK.o hkl;have HFI0:Hid (rr = -1->bx[k].x=1->eQ bx (k+1) k):=fun e hx1=>Hv (e ▸ HBK.o) hkl hx1;have HAH0:Hid (∀ q:Nat,rr=q->∀ hq:q<bx.length,bx[k].x=1->ep bx[k] bx[q]=true->eQ bx (k+1) k):=fun q e hq hx1 hb=>Hw (e ▸ HBK.o) hkl hq hx1 hb;have HBE0:Hid (∀ q:Nat,rr=q->∀ hq:q<bx.length,bx[k].x=1->ep bx[k] bx[q]=false->eQ bx (k+1) q):=fun q e hq hx1 hb=>Ha HOK.o (e ▸ HBK.o) hkl hq hx1 hb;obtain⟨b,hb⟩ : ∃ b,bx[k]=b:=⟨_,rfl⟩
   rw[hb] at HRG HDK HSK0 HFI0 HAH0 HBE0;obtain⟨x,y,z,e,i,r,d,l⟩:=b;have HRG:Hid (wr.rangeAt g (off+k*8) [I J x,I J y,I J z,bO e,I zn (i:Int),bO r,I J d,sL ao m c]):=HRG;simp only[] at HDK HSK0 HFI0 HAH0 HBE0;clear hx hb;by_cases hx1:x=1
   .subst hx1;have HRC:Hid (rr = -1\/∃ q:Nat,rr=q/\q<n):=by
     rcases HBK.o with⟨h,_⟩|⟨q,h,hqk,_⟩
     .exact qr h
     .exact qy ⟨q,h,om⟩
    clear HSK0;by_cases hr1:rr = -1
    .have HFI:Hid (eQ bx (k+1) (k:Int)):=HFI0.o hr1 rfl;subst hr1;clear HFI0 HAH0 HBE0 HBK HRC HDK;have HS0:Hid (beS w wr.heap.size [I J 1,I J y,I J z,bO e,I zn (i:Int),bO r,I J d,sL ao m c] (wr.alloc (.cells #[I J 1,I J y,I J z,bO e,I zn (i:Int),bO r,I J d,sL ao m c] 106))):=⟨blk.new wr _ 106,HBW.o.trans (((bW _ wr).alloc (nR _) _).mono HBW.o.size)⟩
     go_wp2_with (refine qG 106 HRG.o Tryz.underlying106 fG ?_)
     generalize (wr.alloc (.cells #[I J 1,I J y,I J z,bO e,I zn (i:Int),bO r,I J d,sL ao m c] 106))=w3 at *;generalize wr.heap.size=PB at *;refine QK (S:=beS w PB [I J 1,I J y,I J z,bO e,I zn (i:Int),bO r,I J d,sL ao m c]) kr ?_;have hS:beS w PB [I J 1,I J y,I J z,bO e,I zn (i:Int),bO r,I J d,sL ao m c] w3.drew:=HS0.o.below (bW _ _).drew;refine tk 0 ?_;refine tk 1 ?_ (hy:=fun W hSw=>by (have hc:=hSw.p.cell 0 _ rfl;go_simp;try rfl));refine tk 2 ?_;refine tk 3 ?_;refine tk 4 ?_;refine tk 5 ?_;refine tk 6 ?_;refine tn 7 ?_;refine tn 8 ?_;refine tn 9 ?_;refine tn 10 ?_;refine tn 11 ?_;refine tn 12 ?_;refine tn 13 ?_;refine tn 14 ?_;refine tn 15 ?_;refine tk 16 ?_;refine tk 17 ?_;refine QI kr ?_ _;have HB9:Hid (Bl w _):=hS.b;clear hS;go_wp2;go_roundw;case rel=>exact⟨k+1,(k:Int),om,by go_num,rfl,HFI.o,HB9.o⟩
     case measure=>simp[intOf];omega
    .obtain⟨q,hrq,hqn⟩ : ∃ q:Nat,rr=q/\q<n:=HRC.o.resolve_left hr1;subst hrq;have hql:q<bx.length:=by have:=HL.o;omega
     obtain⟨ao',m',c',hxq⟩:=HC.o q hql;have HAH:Hid (ep ⟨1,y,z,e,i,r,d,l⟩ bx[q]=true->eQ bx (k+1) (k:Int)):=HAH0.o q rfl hql rfl;have HBE:Hid (ep ⟨1,y,z,e,i,r,d,l⟩ bx[q]=false->eQ bx (k+1) (q:Int)):=HBE0.o q rfl hql rfl;have HRQ:=fun W (hW:Bl w W)=>(hxq.below hW).range;have HGA:=fun W (hW:Bl w W)=>GG W ⟨1,y,z,e,i,r,d,l⟩ bx[q] ao m c ao' m' c' (HDK.o.below hW) (hxq.dat.below hW);obtain⟨b',hb'⟩ : ∃ b,bx[q]=b:=⟨_,rfl⟩
     rw[hb'] at HAH HBE HRQ HGA;obtain⟨x',y',z',e',i',r',d',l'⟩:=b';have HRQ:Hid (∀ W,Bl w W->W.rangeAt g (off+q*8) [I J x',I J y',I J z',bO e',I zn (i':Int),bO r',I J d',sL ao' m' c']):=HRQ;have HGA:Hid (∀ W,Bl w W->Calls Tp 293 #[aG #[I J 1,I J y,I J z,bO e,I zn (i:Int),bO r,I J d,sL ao m c],aG #[I J x',I J y',I J z',bO e',I zn (i':Int),bO r',I J d',sL ao' m' c']] W fun o w'=>o = rT (bO (ep ⟨1,y,z,e,i,r,d,l⟩ ⟨x',y',z',e',i',r',d',l'⟩))/\Bl W w'):=HGA;have hq0:decide ((q:Int)<0)=false:=pQ;clear HFI0 HAH0 HBE0 HBK HRC HDK hxq hb' hr1;generalize ep ⟨1,y,z,e,i,r,d,l⟩ ⟨x',y',z',e',i',r',d',l'⟩=bf at *;cases bf with
     | true=>
      have HAH2:Hid (eQ bx (k+1) (k:Int)):=HAH.o rfl;clear HAH HBE;have HS0:Hid (beS w wr.heap.size [I J 1,I J y,I J z,bO e,I zn (i:Int),bO r,I J d,sL ao m c] (wr.alloc (.cells #[I J 1,I J y,I J z,bO e,I zn (i:Int),bO r,I J d,sL ao m c] 106))):=⟨blk.new wr _ 106,HBW.o.trans (((bW _ wr).alloc (nR _) _).mono HBW.o.size)⟩
      go_wp2_with (refine qG 106 HRG.o Tryz.underlying106 fG ?_)
      generalize (wr.alloc (.cells #[I J 1,I J y,I J z,bO e,I zn (i:Int),bO r,I J d,sL ao m c] 106))=w3 at *;generalize wr.heap.size=PB at *;refine QK (S:=beS w PB [I J 1,I J y,I J z,bO e,I zn (i:Int),bO r,I J d,sL ao m c]) kr ?_;have hS:beS w PB [I J 1,I J y,I J z,bO e,I zn (i:Int),bO r,I J d,sL ao m c] w3.drew:=HS0.o.below (bW _ _).drew;refine tk 0 ?_;refine tk 1 ?_ (hy:=fun W hSw=>by (have hc:=hSw.p.cell 0 _ rfl;go_simp;try rfl));refine tk 2 ?_;refine tk 3 ?_;refine tk 4 ?_;refine tk 5 ?_;refine tk 6 ?_;refine wU 7 (.agg [I J 1,I J y,I J z,bO e,I zn (i:Int),bO r,I J d,sL ao m c].toArray) rfl (QM (by rfl) 106 (.tmp 5) rfl PB 0 rfl [I J 1,I J y,I J z,bO e,I zn (i:Int),bO r,I J d,sL ao m c] _ (fun W h=>h.p.load) Tryz.underlying106 rfl fG) hS ?_;simp only[aZ];refine tk 8 ?_;refine tk 9 ?_;refine tk 10 ?_;refine tk 11 ?_ (hy:=fun W hSw=>by (have hc:=HC5.o W hSw.b;go_simp;try rfl));refine tk 12 ?_;refine tk 13 ?_;refine wU 14 (.agg [I J x',I J y',I J z',bO e',I zn (i':Int),bO r',I J d',sL ao' m' c'].toArray) rfl (QM (by rfl) 106 (.tmp 29) rfl g (off+q*8) rfl [I J x',I J y',I J z',bO e',I zn (i':Int),bO r',I J d',sL ao' m' c'] _ (fun W h=>HRQ.o W h.b) Tryz.underlying106 rfl fG) hS ?_;simp only[aZ];refine al 15 fun K hK=>?_;go_simp;refine (HGA.o _ hS.b).mono ?_;rintro o w6 ⟨rfl,hb6⟩;have hS1:=hS.below hb6;go_wp2_with fail;refine hK.out _ _ hS1 (fun hS2=>?_);clear hS hK K hS1 hb6;have hS:=hS2;clear hS2;refine tk 16 ?_;refine tk 17 ?_;refine QI kr ?_ _;have HB9:Hid (Bl w _):=hS.b;clear hS;go_wp2;go_roundw;case rel=>exact⟨k+1,(k:Int),om,by go_num,rfl,HAH2.o,HB9.o⟩
      case measure=>simp[intOf];omega
     | false=>
      have HBE2:Hid (eQ bx (k+1) (q:Int)):=HBE.o rfl;clear HAH HBE;have HS0:Hid (beS w wr.heap.size [I J 1,I J y,I J z,bO e,I zn (i:Int),bO r,I J d,sL ao m c] (wr.alloc (.cells #[I J 1,I J y,I J z,bO e,I zn (i:Int),bO r,I J d,sL ao m c] 106))):=⟨blk.new wr _ 106,HBW.o.trans (((bW _ wr).alloc (nR _) _).mono HBW.o.size)⟩
      go_wp2_with (refine qG 106 HRG.o Tryz.underlying106 fG ?_)
      generalize (wr.alloc (.cells #[I J 1,I J y,I J z,bO e,I zn (i:Int),bO r,I J d,sL ao m c] 106))=w3 at *;generalize wr.heap.size=PB at *;refine QK (S:=beS w PB [I J 1,I J y,I J z,bO e,I zn (i:Int),bO r,I J d,sL ao m c]) kr ?_;have hS:beS w PB [I J 1,I J y,I J z,bO e,I zn (i:Int),bO r,I J d,sL ao m c] w3.drew:=HS0.o.below (bW _ _).drew;refine tk 0 ?_;refine tk 1 ?_ (hy:=fun W hSw=>by (have hc:=hSw.p.cell 0 _ rfl;go_simp;try rfl));refine tk 2 ?_;refine tk 3 ?_;refine tk 4 ?_;refine tk 5 ?_;refine tk 6 ?_;refine wU 7 (.agg [I J 1,I J y,I J z,bO e,I zn (i:Int),bO r,I J d,sL ao m c].toArray) rfl (QM (by rfl) 106 (.tmp 5) rfl PB 0 rfl [I J 1,I J y,I J z,bO e,I zn (i:Int),bO r,I J d,sL ao m c] _ (fun W h=>h.p.load) Tryz.underlying106 rfl fG) hS ?_;simp only[aZ];refine tk 8 ?_;refine tk 9 ?_;refine tk 10 ?_;refine tk 11 ?_ (hy:=fun W hSw=>by (have hc:=HC5.o W hSw.b;go_simp;try rfl));refine tk 12 ?_;refine tk 13 ?_;refine wU 14 (.agg [I J x',I J y',I J z',bO e',I zn (i':Int),bO r',I J d',sL ao' m' c'].toArray) rfl (QM (by rfl) 106 (.tmp 29) rfl g (off+q*8) rfl [I J x',I J y',I J z',bO e',I zn (i':Int),bO r',I J d',sL ao' m' c'] _ (fun W h=>HRQ.o W h.b) Tryz.underlying106 rfl fG) hS ?_;simp only[aZ];refine al 15 fun K hK=>?_;go_simp;refine (HGA.o _ hS.b).mono ?_;rintro o w6 ⟨rfl,hb6⟩;have hS1:=hS.below hb6;go_wp2_with fail;refine hK.out _ _ hS1 (fun hS2=>?_);clear hS hK K hS1 hb6;have hS:=hS2;clear hS2;refine tk 16 ?_;refine tk 17 ?_;refine QI kr ?_ _;have HB9:Hid (Bl w _):=hS.b;clear hS;go_wp2;go_roundw;case rel=>exact⟨k+1,(q:Int),om,by go_num,rfl,HBE2.o,HB9.o⟩
      case measure=>simp[intOf];omega
   .have HSK:Hid (eQ bx (k+1) rr):=HSK0.o hx1;have hx1':(x == 1)=false:=by simpa using hx1
    clear HSK0 HFI0 HAH0 HBE0 HBK HDK hx1;have HS0:Hid (beS w wr.heap.size [I J x,I J y,I J z,bO e,I zn (i:Int),bO r,I J d,sL ao m c] (wr.alloc (.cells #[I J x,I J y,I J z,bO e,I zn (i:Int),bO r,I J d,sL ao m c] 106))):=⟨blk.new wr _ 106,HBW.o.trans (((bW _ wr).alloc (nR _) _).mono HBW.o.size)⟩
    go_wp2_with (refine qG 106 HRG.o Tryz.underlying106 fG ?_)
    generalize (wr.alloc (.cells #[I J x,I J y,I J z,bO e,I zn (i:Int),bO r,I J d,sL ao m c] 106))=w3 at *;generalize wr.heap.size=PB at *;refine QK (S:=beS w PB [I J x,I J y,I J z,bO e,I zn (i:Int),bO r,I J d,sL ao m c]) kr ?_;have hS:beS w PB [I J x,I J y,I J z,bO e,I zn (i:Int),bO r,I J d,sL ao m c] w3.drew:=HS0.o.below (bW _ _).drew;refine tk 0 ?_;refine tk 1 ?_ (hy:=fun W hSw=>by (have hc:=hSw.p.cell 0 _ rfl;go_simp;try rfl));refine tk 2 ?_;refine tk 3 ?_;refine tn 4 ?_;refine tn 5 ?_;refine tn 6 ?_;refine tn 7 ?_;refine tn 8 ?_;refine tn 9 ?_;refine tn 10 ?_;refine tn 11 ?_;refine tn 12 ?_;refine tn 13 ?_;refine tn 14 ?_;refine tn 15 ?_;refine tn 16 ?_;refine tk 17 ?_;refine QI kr ?_ _;have HB9:Hid (Bl w _):=hS.b;clear hS;go_wp2;go_roundw;case rel=>exact⟨k+1,rr,om,by go_num,rfl,HSK.o,HB9.o⟩
    case measure=>simp[intOf];omega
  .have HF:Hid (eE bx rr):=IQ HBK.o (by have:=HL.o;omega);go_wp2;go_ret;exact⟨rr,rfl,HF.o,HBW.o⟩
end Go.Proofs.YtnfmjckkibdcaaaGreatDoor
