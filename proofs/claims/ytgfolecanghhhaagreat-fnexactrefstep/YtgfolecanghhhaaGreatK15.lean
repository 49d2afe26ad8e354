import Derived.Test.YtgfolecanghhhaaGreatK14
import Derived.Test.YtgfolecanghhhaaGreatK00
namespace Go.Proofs.YtgfolecanghhhaaGreat
open Go.Proofs.Tryz
open Option renaming none->nn,some->sQ
open Go.RowKit
set_option linter.all false
set_option maxHeartbeats 16000000
open Go.Value renaming int->I,slice->sL,bool->bO,pointer->pT,agg->aG
open Go.IntKind renaming i64->J
open Go.Ending renaming returned->rT
open Go.Proofs.Tryz renaming prog->Tp
open Go.Sort in
def je {w w':World} {g off:Nat} {d:Array Int} {n:Nat} {os:Array Obj} (hg:g<w.heap.size) (h:w'=grow (putRow (Value.int .i64) (Sort.ahead w n) g off d) os) :
  (∀ b,b≠g->b<w.heap.size->w'.heap[b]?=w.heap[b]?)/\Below g w w':=by
 subst h;have key:∀ b,b≠g->b<w.heap.size->(grow (putRow (Value.int .i64) (Sort.ahead w n) g off d) os).heap[b]?=w.heap[b]?:=by
  intro b hb hl;show ((w.heap.modify g _)++os)[b]?=_;rw[Array.getElem?_append_left (by simpa using hl),Array.getElem?_modify,qa (fun e=>hb e.symm)]
 refine⟨key,rfl,rfl,rfl,?_,fun k hk=>key k om om⟩;show w.heap.size<=((w.heap.modify g _)++os).size;simp
def lR (s:List Int) (hs:∀ i j (hi:i<s.length) (hj:j<s.length),i<j->s[i]<=s[j]) (ha:∀ j (hj:j<s.length),0<j->s[j]'hj≠s[j-1]'om) :
  ∀ j (hj:j<s.length) i (hi:i<s.length),i<j->s[i]<s[j]:=by
 intro j;induction j with
 | zero=>intro hj i hi h;exact Qy h (nN _)
 | succ j ih=>
  intro hj i hi h;have h1:s[j]'om<=s[j+1]:=hs j (j+1) om hj om;have h2:=ha (j+1) hj om;have e:s[j+1-1]'om=s[j]'om:=rfl;rw[e] at h2;have h3:s[j]'om<s[j+1]:=om;by_cases hij:i=j
  .subst hij;exact h3
  .have:=ih om i hi om;omega
def mF (zs:List Int):((Lib.compact (zs.mergeSort fun x y=>decide (x<=y))).length=zs.length)↔zs.Nodup:=by
 have hp:(zs.mergeSort fun x y=>decide (x<=y)).Perm zs:=List.mergeSort_perm _ _;have hpw:=List.pairwise_mergeSort (le:=fun x y:Int=>decide (x<=y)) (fun a b c h1 h2=>by simp at *;omega) (fun a b=>by simp;omega) zs;generalize (zs.mergeSort fun x y=>decide (x<=y))=s at *;rw[<- hp.nodup_iff,<- hp.length_eq];have hs:∀ i j (hi:i<s.length) (hj:j<s.length),i<j->s[i]<=s[j]:=by
  intro i j hi hj hij;have:=List.pairwise_iff_getElem.1 hpw i j hi hj hij;simpa using this
 have hget:∀ j (hj:j<s.length),s.toArray[j]! = s[j]:=by
  intro j hj;rw[getElem!_pos s.toArray j (by simpa using hj)];simp
 have hlen:(Lib.compact s).length=((List.range s.length).filter (Lib.keeps s.toArray)).length:=by
  unfold Lib.compact Lib.compactUpTo;rw[qU]
 rw[hlen];have hr:s.length=(List.range s.length).length:=pQ;conv=>lhs;rhs;rw[hr]
 rw[List.length_filter_eq_length_iff];constructor
 .intro h;have ha:∀ j (hj:j<s.length),0<j->s[j]'hj≠s[j-1]'om:=by
   intro j hj h0;have:=h j (by simpa using hj);unfold Lib.keeps at this;rw[qV] at this;rcases this with e|e
   .omega
   .rw[hget j hj,hget (j-1) om] at e;exact e
  have hst:=lR s hs ha;rw[List.nodup_iff_pairwise_ne,List.pairwise_iff_getElem];intro i j hi hj hij;have:=hst j hj i hi hij;omega
 .intro h j hj;have hj':j<s.length:=by simpa using hj
  unfold Lib.keeps;rw[qV];by_cases h0:j=0
  .exact qr h0
  .refine qx ?_;rw[hget j hj',hget (j-1) om];intro e;rw[List.nodup_iff_pairwise_ne,List.pairwise_iff_getElem] at h;exact h (j-1) j om hj' om e.symm
open Go.Sort in
def mI (w:World) (g cap:Nat) (zs:List Int) (hH:Holds (Value.int .i64) w g 0 zs.toArray) (hg:g<w.heap.size) (hcap:zs.length<=cap) (hn:zs.length<=100) :
  Calls Tp 174 #[sL (sQ ⟨g,0,nn⟩) zs.length cap] w fun o w'=>cK o zs.Nodup/\(∀ b,b≠g->b<w.heap.size->w'.heap[b]?=w.heap[b]?)/\Below g w w':=by
 have HS:Hid (Calls Tp 207 #[sL (sQ ⟨g,0,nn⟩) zs.length cap] w fun e w'=>e = rT (.tuple #[])/\Holds (Value.int .i64) w' g 0 (zs.mergeSort fun x y=>decide (x<=y)).toArray/\(∀ b,b≠g->b<w.heap.size->w'.heap[b]?=w.heap[b]?)/\Below g w w'):=by
  refine (Go.Proofs.Tryz.slices_Sort_int g 0 cap zs w hH hg om).mono ?_;rintro e w' ⟨rfl,n,os,e1⟩;have hsw:=je hg e1;refine⟨rfl,?_,hsw.1,hsw.2⟩;subst e1;have h1:=holds_putRow (Value.int .i64) (Sort.ahead w n) g 0 zs.toArray (zs.mergeSort fun x y=>decide (x<=y)).toArray (holds_ahead _ _ _ _ _ _ hH) pQ;intro j hj;have h2:=h1 j hj;rw[cell?_grow _ _ _ (by simpa using hg),frozen?_grow _ _ _ (by simpa using hg)];exact h2
 have HC:Hid (∀ W,Holds (Value.int .i64) W g 0 (zs.mergeSort fun x y=>decide (x<=y)).toArray->g<W.heap.size->Calls Tp 208 #[sL (sQ ⟨g,0,nn⟩) zs.length cap] W fun e w'=>(∃ m:Nat,e = rT (sL (sQ ⟨g,0,nn⟩) m cap)/\(m=zs.length↔zs.Nodup))/\(∀ b,b≠g->b<W.heap.size->w'.heap[b]?=W.heap[b]?)/\Below g W w'):=by
  intro W hW hgW;have hl:(zs.mergeSort fun x y=>decide (x<=y)).length=zs.length:=List.length_mergeSort _;have h1:=Go.Proofs.Tryz.slices_Compact_int g 0 cap (zs.mergeSort fun x y=>decide (x<=y)) W hW om om;rw[hl] at h1;refine h1.mono ?_;rintro e w' ⟨rfl,q,e1⟩;have e1':w'=grow (putRow (Value.int .i64) (Sort.ahead W q) g 0 (Lib.compact (zs.mergeSort fun x y=>decide (x<=y))++List.replicate (zs.length-(Lib.compact (zs.mergeSort fun x y=>decide (x<=y))).length) 0).toArray) #[]:=by rw[grow_empty];exact e1
  have hsw:=je hgW e1';exact⟨⟨_,rfl,mF zs⟩,hsw.1,hsw.2⟩
 have HN:Hid (zs.length<=100):=hn;have HG:Hid (g<w.heap.size):=hg;clear hH hcap hn hg;generalize zs.length=n at *;go_enter func174,ntmps174;go_wp2_with fail;refine HS.o.mono ?_;rintro o w1 ⟨rfl,h1,h2,h3⟩;have H1:Hid (Holds (Value.int .i64) w1 g 0 (zs.mergeSort fun x y=>decide (x<=y)).toArray/\(∀ b,b≠g->b<w.heap.size->w1.heap[b]?=w.heap[b]?)/\Below g w w1):=⟨h1,h2,h3⟩
 clear h1 h2 h3;go_wp2_with fail;refine (HC.o w1 H1.o.1 (nL HG.o H1.o.2.2.size)).mono ?_;rintro o w2 ⟨⟨m,rfl,hm⟩,h2,h3⟩;have H2:Hid ((m=n↔zs.Nodup)/\(∀ b,b≠g->b<w.heap.size->w2.heap[b]?=w.heap[b]?)/\Below g w w2):=⟨hm,fun b hb hl=>(h2 b hb (nL hl H1.o.2.2.size)).trans (H1.o.2.1 b hb hl),H1.o.2.2.trans h3⟩
 clear h2 h3 hm;go_wp2_with fail;go_ret;refine⟨⟨_,rfl,?_⟩,H2.o.2⟩;rw[<- H2.o.1];simp;try omega
def mH (w:World):Calls Tp 174 #[sL nn 0 0] w fun o w'=>o = rT (bO true)/\w'=w:=by
 have HS:Hid (∀ W,Calls Tp 207 #[sL nn 0 0] W fun e w'=>e = rT (.tuple #[])/\w'=W):=fun W=>Go.Proofs.Tryz.slices_Sort_int_none nn 0 W;have HC:Hid (∀ W,Calls Tp 208 #[sL nn 0 0] W fun e w'=>e = rT (sL nn 0 0)/\w'=W):=fun W=>Go.Proofs.Tryz.slices_Compact_int_empty nn 0 W;go_enter func174,ntmps174
 go_wp2_with (first
  | (go_at_call 207;refine (HS.o _).mono ?_;rintro o w1 ⟨rfl,rfl⟩)
  | (go_at_call 208;refine (HC.o _).mono ?_;rintro o w1 ⟨rfl,rfl⟩))
 go_ret;exact⟨rfl,rfl⟩
open Go renaming World->Wd
set_option maxRecDepth 20000
open Go.IntKind renaming i64->J,u32->Zk
section
variable {W w0 W':Wd} {B PB:Nat} {v1 v2 v:Value} {l1 l2 l:List Int} {L:List Value}
def uK {α:Type} {R S:α->α->Prop} (H:∀ a b,R a b->S a b):∀ {l:List α},l.Pairwise R->l.Pairwise S:=by
 intro l;induction l with
 | nil=>intro _;exact List.Pairwise.nil
 | cons a l ih=>
  intro h;have h':=List.pairwise_cons.1 h;exact List.pairwise_cons.2 ⟨fun b hb=>H a b (h'.1 b hb),ih h'.2⟩
def info3:(Tp.info? 3).map (fun i=>(i.zero,i.size,i.bytes))=sQ (sQ (I J 0),1,8):=kr
def dR (w:Wd) (B:Nat) (v:Value) (l:List Int):Prop:=w.ownsRow B 3 1 v l.length (l.map (Value.int .i64))
structure fU (w0 W:Wd) (B:Nat) (v1 v2:Value) (l1 l2:List Int):Prop where
 o1:dR W B v1 l1
 o2:dR W B v2 l2
 ne:∀ g,v1.ownBlock=sQ g->v2.ownBlock≠sQ g
 b:Below B w0 W
 s:B<=W.heap.size
def gX (bx:List R8):Nat:=bx.countP (fun b=>b.x == 2 || b.x == 3)
def nfY (bx:List R8):List Int:=(bx.filter (fun b=>b.x != 0)).map (·.y)
def nfZ (bx:List R8):List Int:=(bx.filter (fun b=>b.x != 0)).map (·.z)
def MS (ho:dR W B v l) (z:Int) (b:Nat) (hb:W.heap[b]?=sQ (.cells #[I J z] 3)) (hl:l.length<=100) (hB:B<=W.heap.size) (R:TypeId) :
  ∃ v' W',(Builtin.append_ #[229,229] R #[v,sL (sQ ⟨b,0,nn⟩) 1 1]).run Tp W = .ok v' W'/\dR W' B v' (l++[z])/\W.grownBy W' v.ownBlock/\(v'.ownBlock=v.ownBlock\/v'.ownBlock=sQ W.heap.size):=by
 obtain⟨i0,hi,hz0,hz1,hz2⟩:=QW info3
 obtain⟨v',w',hr,h2,h3,_,h5⟩:=run_append_own_at (P:=Tp) W B 229 R 3 i0 (I J 0) 1 8 underlying229 hi hz0 hz1 hz2 rfl (by decide) v l.length (l.map (Value.int .i64)) ho ⟨b,0,nn⟩ 1 1 [I J z] rfl (by
  intro j u hj;match j,hj with
  | 0,hj=>simp at hj;subst hj;simp[Addr.add,World.cell?,hb]) (by intro u hu;simp at hu;subst hu;rfl) (by unfold maxLen;omega) om hB
 refine⟨v',w',hr,?_,h3,h5⟩;unfold dR;rw[qe,List.map_append];exact h2
def dR.kept {row:Option Nat} (h:dR W B v l) (hg:W.grownBy W' row) (hne:v.ownBlock=nn\/v.ownBlock≠row):dR W' B v l:=World.ownsRow.kept h hg hne
def dR.alloc (h:dR W B v l) (o:Obj):dR (W.alloc o) B v l:=QM h o
def dR.drew (h:dR W B v l):dR W.drew B v l:=h
def dR.lt (h:dR W B v l) (g:Nat) (hg:v.ownBlock=sQ g):B<=g/\g<W.heap.size:=QB h g hg
def iK {α:Type} (f:List R8->List α) (g:R8->List α) (hf:∀ l b,f (l++[b])=f l++g b) (bx:List R8) (k:Nat) (h:k<bx.length):f (bx.take (k+1))=f (bx.take k)++g bx[k]:=by
 rw[qg h,hf]
def yP (bx:List R8) (k:Nat) (h:k<bx.length):nfY (bx.take (k+1))=nfY (bx.take k)++(if (bx[k].x != 0)=true then [bx[k].y] else []):=
 iK nfY (fun b=>if (b.x != 0)=true then [b.y] else []) (fun l b=>by unfold nfY;rw[List.filter_append,List.map_append];congr 1;by_cases hb:(b.x != 0)=true <;> simp[hb]) bx k h
def yO (bx:List R8) (k:Nat) (h:k<bx.length):nfZ (bx.take (k+1))=nfZ (bx.take k)++(if (bx[k].x != 0)=true then [bx[k].z] else []):=
 iK nfZ (fun b=>if (b.x != 0)=true then [b.z] else []) (fun l b=>by unfold nfZ;rw[List.filter_append,List.map_append];congr 1;by_cases hb:(b.x != 0)=true <;> simp[hb]) bx k h
def sj (bx:List R8) (k:Nat) (h:k<bx.length):gX (bx.take (k+1))=gX (bx.take k)+(if (bx[k].x == 2 || bx[k].x == 3)=true then 1 else 0):=by
 unfold gX;rw[qg h,List.countP_append];simp[List.countP_cons]
def uR (bx:List R8):(nfY bx).length<=bx.length/\(nfZ bx).length<=bx.length:=by
 unfold nfY nfZ;rw[qU,qU];exact⟨List.length_filter_le _ _,List.length_filter_le _ _⟩
def wj (st:Int) (bx:List R8) (hA:∀ j (hj:j<bx.length),cZ st bx[j]):dw st bx↔(gX bx<=1/\(nfY bx).Nodup/\(nfZ bx).Nodup):=by
 have hb:gT bx=gX bx:=by
  unfold gT gX;apply List.countP_congr;intro b hb;obtain⟨j,hj,rfl⟩:=List.getElem_of_mem hb;have:=hA j hj;unfold cZ at this;split at this
  .rename_i h0;simp[h0]
  .rename_i h0;simp[h0];omega
 have hf:(∀ i j (hi:i<bx.length) (hj:j<bx.length),i<j->far bx[i] bx[j])↔((nfY bx).Nodup/\(nfZ bx).Nodup):=by
  have e1:(∀ i j (hi:i<bx.length) (hj:j<bx.length),i<j->far bx[i] bx[j])↔bx.Pairwise far:=List.pairwise_iff_getElem.symm;have e2:(nfY bx).Nodup↔bx.Pairwise (fun a b=>a.x≠0->b.x≠0->a.y≠b.y):=by
   unfold nfY;rw[List.nodup_iff_pairwise_ne,List.pairwise_map,List.pairwise_filter];simp
  have e3:(nfZ bx).Nodup↔bx.Pairwise (fun a b=>a.x≠0->b.x≠0->a.z≠b.z):=by
   unfold nfZ;rw[List.nodup_iff_pairwise_ne,List.pairwise_map,List.pairwise_filter];simp
  rw[e1,e2,e3,<- List.pairwise_and_iff];constructor
  .exact fun h=>uK (fun a b hh=>⟨fun h1 h2=>(hh h1 h2).1,fun h1 h2=>(hh h1 h2).2⟩) h
  .exact fun h=>uK (fun a b hh h1 h2=>⟨hh.1 h1 h2,hh.2 h1 h2⟩) h
 unfold dw;rw[hf,hb];exact⟨fun h=>⟨h.2.2,h.2.1.1,h.2.1.2⟩,fun h=>⟨hA,⟨h.2.1,h.2.2⟩,h.1⟩⟩
def fU.below (h:fU w0 W B v1 v2 l1 l2) (hb:Bl W W'):fU w0 W' B v1 v2 l1 l2:=by
 have hg:W.grownBy W' nn:=⟨hb.os,hb.tape,hb.output,hb.size,fun k hk _=>hb.block k hk⟩
 have hne:∀ v:Value,v.ownBlock=nn\/v.ownBlock≠nn:=fun v=>by cases v.ownBlock <;> simp
 exact⟨h.o1.kept hg (hne v1),h.o2.kept hg (hne v2),h.ne,h.b.trans (hb.mono h.s),nT h.s hb.size⟩
open Go.Sort in
def lJ (h:dR W B v l) (hl:l.length<=100) (hB:B<=W.heap.size) :
  Calls Tp 174 #[v] W fun o W'=>cK o l.Nodup/\W.grownBy W' v.ownBlock/\Below B W W':=by
 by_cases hv:v = sL nn 0 0
 .subst hv;have hl0:l=[]:=by
   rcases h.2 with⟨_,hn⟩|⟨g,cap,cur,e,_⟩
   .exact List.length_eq_zero_iff.1 hn
   .cases e
  subst hl0;refine (mH W).mono ?_;rintro o W' ⟨rfl,rfl⟩;exact⟨⟨true,rfl,pQ⟩,⟨rfl,rfl,rfl,nR _,fun _ _ _=>rfl⟩,bW _ _⟩
 .have h':=h;obtain⟨g,cap,rfl,h1,h2,h3,h4⟩:=eY h hv;have hH:Holds (Value.int .i64) W g 0 l.toArray:=by
   intro j hj;have hj':j<l.length:=by simpa using hj
   refine⟨?_,by rw[qi];exact QU h' j⟩;rw[qi,h4 W rfl j om,List.getElem?_map,getElem!_pos l.toArray j hj];simp[qy hj']
  refine (mI W g cap l hH h2 h3 hl).mono ?_;rintro o W' ⟨hr,hk,hb⟩;exact⟨hr,⟨hb.os,hb.tape,hb.output,hb.size,fun k hk1 hk2=>hk k (fun e=>hk2 (by rw[e];rfl)) hk1⟩,hb.mono h1⟩
def eW {ops:Array Oper} {o:Oper} {a:Act} {K:Act->Wd->Prop} {Q:Exit->Act->Wd->Prop} {E:Prop} (hgd:o.guard=nn) (s x:Operand)
  (ho:o.op = .call { callee:=.builtin .append,args:=#[s,x],argTypes:=#[229,229] }) (v:Value) (hs:a.eval s=v) (b:Nat) (hx:a.eval x = sL (sQ ⟨b,0,nn⟩) 1 1) (v':Value) (W W':Wd)
  (hr:(Builtin.append_ #[229,229] o.type #[v,sL (sQ ⟨b,0,nn⟩) 1 1]).run Tp W = .ok v' W') (h:K (a.put o.dst v') W') :
  if Region.wanted o (yielded ops a.tmps)=true then Oper.wp Tp o a W K Q else E:=by
 have hw:Region.wanted o (yielded ops a.tmps)=true:=by simp[Region.wanted,hgd]
 rw[qc hw];unfold Oper.wp execOp;simp only[ho,resolve,invoke,builtin,Q7,Sem.run_pure,Result.andThen_ok,List.map_toArray,Qx,List.map_nil,hs,hx,hr];exact h
def fU.alloc (h:fU w0 W B v1 v2 l1 l2) (o:Obj):fU w0 (W.alloc o).drew B v1 v2 l1 l2:=⟨(h.o1.alloc o).drew,(h.o2.alloc o).drew,h.ne,(h.b.alloc h.s o).drew,by show B<=(W.alloc o).heap.size;have:=h.s;simp;omega⟩
def CR (h:fU w0 W B v1 v2 l1 l2) (y:Int) (b:Nat) (hb:W.heap[b]?=sQ (.cells #[I J y] 3)) (hl:l1.length<=100) (R:TypeId) :
  ∃ v' W',(Builtin.append_ #[229,229] R #[v1,sL (sQ ⟨b,0,nn⟩) 1 1]).run Tp W = .ok v' W'/\fU w0 W' B v' v2 (l1++[y]) l2/\(∀ k,k<W.heap.size->v1.ownBlock≠sQ k->W'.heap[k]?=W.heap[k]?)/\W.heap.size<=W'.heap.size/\(v'.ownBlock=v1.ownBlock\/v'.ownBlock=sQ W.heap.size):=by
 obtain⟨v',W',hr,ho,hg,hat⟩:=MS h.o1 y b hb hl h.s R;have hn:∀ g,v'.ownBlock=sQ g->v2.ownBlock≠sQ g:=by
  intro g hg' e2;rcases hat with e|e
  .exact h.ne g (e ▸ hg') e2
  .rw[e] at hg';cases hg';exact Qy (h.o2.lt _ e2).2 (Qe _)
 have hk:v2.ownBlock=nn\/v2.ownBlock≠v1.ownBlock:=by
  cases e:v2.ownBlock with
  | none=>exact qr rfl
  | some g=>exact qx fun e2=>h.ne g e2.symm e
 refine⟨v',W',hr,⟨ho,h.o2.kept hg hk,hn,h.b.grown hg h.s (fun k hk=>(h.o1.lt k hk).1),nT h.s hg.size⟩,fun k h1 h2=>hg.block k h1 (fun e=>h2 e.symm),hg.size,hat⟩
def fU.symm (h:fU w0 W B v1 v2 l1 l2):fU w0 W B v2 v1 l2 l1:=⟨h.o2,h.o1,fun g h1 h2=>h.ne g h2 h1,h.b,h.s⟩
def Fx (h:fU w0 W B v1 v2 l1 l2) (y:Int) (b:Nat) (hb:W.heap[b]?=sQ (.cells #[I J y] 3)) (hl:l2.length<=100) (R:TypeId) :
  ∃ v' W',(Builtin.append_ #[229,229] R #[v2,sL (sQ ⟨b,0,nn⟩) 1 1]).run Tp W = .ok v' W'/\fU w0 W' B v1 v' l1 (l2++[y])/\(∀ k,k<W.heap.size->v2.ownBlock≠sQ k->W'.heap[k]?=W.heap[k]?)/\W.heap.size<=W'.heap.size/\(v'.ownBlock=v2.ownBlock\/v'.ownBlock=sQ W.heap.size):=by
 obtain⟨v',W',hr,h1,h2,h3,h4⟩:=CR h.symm y b hb hl R;exact⟨v',W',hr,h1.symm,h2,h3,h4⟩
structure rg (w0 W:Wd) (B PB:Nat) (L:List Value) (v1 v2:Value) (l1 l2:List Int):Prop where
 t:fU w0 W B v1 v2 l1 l2
 p:blk W PB L 116
 n1:v1.ownBlock≠sQ PB
 n2:v2.ownBlock≠sQ PB
def rg.alloc (h:rg w0 W B PB L v1 v2 l1 l2) (o:Obj):rg w0 (W.alloc o).drew B PB L v1 v2 l1 l2:=⟨h.t.alloc o,h.p.alloc o,h.n1,h.n2⟩
def rg.alloc' (h:rg w0 W B PB L v1 v2 l1 l2) (o:Obj):rg w0 (W.alloc o) B PB L v1 v2 l1 l2:=⟨⟨h.t.o1.alloc o,h.t.o2.alloc o,h.t.ne,h.t.b.alloc h.t.s o,by have:=h.t.s;simp;omega⟩,h.p.alloc o,h.n1,h.n2⟩
def iP (W:Wd) (o:Obj):(W.alloc o).drew.heap[W.heap.size]?=sQ o:=QN W o
def rg.app1 (h:rg w0 W B PB L v1 v2 l1 l2) (y:Int) (b:Nat) (hb:W.heap[b]?=sQ (.cells #[I J y] 3)) (hl:l1.length<=100) (R:TypeId) :
  ∃ v' W',(Builtin.append_ #[229,229] R #[v1,sL (sQ ⟨b,0,nn⟩) 1 1]).run Tp W = .ok v' W'/\rg w0 W' B PB L v' v2 (l1++[y]) l2/\(∀ k x,v1.ownBlock≠sQ k->W.heap[k]?=sQ x->W'.heap[k]?=sQ x):=by
 obtain⟨v',W',hr,h1,h2,h3,h4⟩:=CR h.t y b hb hl R;refine⟨v',W',hr,⟨h1,(h2 PB h.p.lt h.n1).trans h.p,?_,h.n2⟩,fun k x hk hx=>(h2 k (aJ hx) hk).trans hx⟩;rcases h4 with e|e
 .rw[e];exact h.n1
 .rw[e];intro e2;cases e2;exact Qy h.p.lt (Qe _)
def rg.app2 (h:rg w0 W B PB L v1 v2 l1 l2) (y:Int) (b:Nat) (hb:W.heap[b]?=sQ (.cells #[I J y] 3)) (hl:l2.length<=100) (R:TypeId) :
  ∃ v' W',(Builtin.append_ #[229,229] R #[v2,sL (sQ ⟨b,0,nn⟩) 1 1]).run Tp W = .ok v' W'/\rg w0 W' B PB L v1 v' l1 (l2++[y])/\(∀ k x,v2.ownBlock≠sQ k->W.heap[k]?=sQ x->W'.heap[k]?=sQ x):=by
 obtain⟨v',W',hr,h1,h2,h3,h4⟩:=Fx h.t y b hb hl R;refine⟨v',W',hr,⟨h1,(h2 PB h.p.lt h.n2).trans h.p,h.n1,?_⟩,fun k x hk hx=>(h2 k (aJ hx) hk).trans hx⟩;rcases h4 with e|e
 .rw[e];exact h.n2
 .rw[e];intro e2;cases e2;exact Qy h.p.lt (Qe _)
def kI (w:Wd) (a:Option Addr) (n cap:Nat) (bx:List R8) (st:Int) (h:aM w a n cap bx) (hn:n<=8) (hst:0<=st/\st<=1000000) :
  Calls Tp 133 #[sL a n cap,I J st] w fun o w'=>cK o (dw st bx)/\Bl w w':=by
 have HH:Hid (aM w a n cap bx):=h;have HL:Hid (n=bx.length):=h.len;have hcp:=h.cap;have HST:Hid (0<=st/\st<=1000000):=hst;clear h hst;go_enter func133,ntmps133;go_wp2_with fail;go_loopw [5,6,7,12] (fun v1 v2 q i wr=>∃ k m:Nat,k<=n/\i = I J (k:Int)/\q = I J (m:Int)/\m<=k/\m=gX (bx.take k)/\(∀ j (hj:j<bx.length),j<k->cZ st bx[j])/\fU w wr w.heap.size v1 v2 (nfY (bx.take k)) (nfZ (bx.take k))) (fun _ _ _ i _=>n-(intOf i).toNat);case atStart=>exact⟨0,0,nZ _,rfl,rfl,nR _,(by simp[gX]),fun j hj h=>Qy h (nN _),⟨Q5 w _ 3 1,Q5 w _ 3 1,(fun g h=>(by cases h)),bW _ _,nR _⟩⟩
 case round=>
  obtain⟨k,q,hk,rfl,rfl,hqk,hq,hA,hT⟩:=hrel;have HQ:Hid (q=gX (bx.take k)):=hq;have HA:Hid (∀ j (hj:j<bx.length),j<k->cZ st bx[j]):=hA;have HT:Hid (fU w wr w.heap.size u5 u6 (nfY (bx.take k)) (nfZ (bx.take k))):=hT;clear hq hA hT;by_cases hlt:k<n
  .have hkl:k<bx.length:=by have:=HL.o;omega
   obtain⟨g,off,rfl,hc⟩:=HH.o.cells (fun e=>by rw[e] at hkl;cases hkl);obtain⟨ao,m,c,hx⟩:=hc k hkl;have hx':=hx.below HT.o.b;have HRG0:=hx'.range;have hY:=yP bx k hkl;have hZ:=yO bx k hkl;have hW:=sj bx k hkl;have HV0:=nD (wr.alloc (.cells #[I J bx[k].x,I J bx[k].y,I J bx[k].z,bO bx[k].e,I Zk (bx[k].i:Int),bO bx[k].r,I J bx[k].d,sL ao m c] 116)) bx[k] st ao m c (hx'.dat.below Zw) HST.o;have HBAD0:Hid (¬ cZ st bx[k]->¬ dw st bx):=mX hkl;have HAS:Hid (cZ st bx[k]->∀ j (hj:j<bx.length),j<k+1->cZ st bx[j]):=fun h=>Ht hkl HA.o h;have hLY:=uR (bx.take k);rw[qj] at hLY;have HLY:Hid ((nfY (bx.take k)).length<=100/\(nfZ (bx.take k)).length<=100):=⟨om,om⟩
   obtain⟨b,hb⟩ : ∃ b,bx[k]=b:=⟨_,rfl⟩
   rw[hb] at HRG0 hY hZ hW HV0 HBAD0 HAS;obtain⟨x,y,z,e,i,r,d,l⟩:=b;simp only[] at HV0 hY hZ hW;have HRG:Hid (wr.rangeAt g (off+k*8) [I J x,I J y,I J z,bO e,I Zk (i:Int),bO r,I J d,sL ao m c]):=HRG0;have HY:Hid (nfY (bx.take (k+1))=nfY (bx.take k)++(if (x != 0)=true then [y] else [])):=hY;have HZ:Hid (nfZ (bx.take (k+1))=nfZ (bx.take k)++(if (x != 0)=true then [z] else [])):=hZ;have HW:Hid (gX (bx.take (k+1))=gX (bx.take k)+(if (x == 2 || x == 3)=true then 1 else 0)):=hW;have HT3:Hid (fU w (wr.alloc (.cells #[I J x,I J y,I J z,bO e,I Zk (i:Int),bO r,I J d,sL ao m c] 116)) w.heap.size u5 u6 (nfY (bx.take k)) (nfZ (bx.take k))):=HT.o.below Zw;by_cases hok:¬ cZ st ⟨x,y,z,e,i,r,d,l⟩
   .have HBAD:Hid (¬ dw st bx):=HBAD0.o hok;have HV:Hid (Calls Tp 173 #[bxV x y z e i r d ao m c,I J st] (wr.alloc (.cells #[I J x,I J y,I J z,bO e,I Zk (i:Int),bO r,I J d,sL ao m c] 116)) fun o w'=>o = rT (bO false)/\Below (wr.alloc (.cells #[I J x,I J y,I J z,bO e,I Zk (i:Int),bO r,I J d,sL ao m c] 116)).heap.size (wr.alloc (.cells #[I J x,I J y,I J z,bO e,I Zk (i:Int),bO r,I J d,sL ao m c] 116)) w'):=HV0.mono (by rintro o w' ⟨⟨bb,rfl,h1⟩,h2⟩;cases bb;exact⟨rfl,h2⟩;exact Qy (h1.1 rfl) hok)
    clear hx hx' hb HRG0 hY hZ hW HV0 HBAD0 HAS hLY hok hc;go_wp2_with (first
     | (refine ZG 116 HRG.o underlying116 fG ?_)
     | (go_at_call 173;refine HV.o.mono ?_;rintro o w4 ⟨rfl,hb4⟩))
    go_ret;exact⟨⟨false,rfl,by simpa using HBAD.o⟩,(HT3.o.below hb4).b⟩
   have hok:cZ st ⟨x,y,z,e,i,r,d,l⟩:=Classical.not_not.1 hok;have HAL:Hid (∀ j (hj:j<bx.length),j<k+1->cZ st bx[j]):=HAS.o hok;have HV:Hid (Calls Tp 173 #[bxV x y z e i r d ao m c,I J st] (wr.alloc (.cells #[I J x,I J y,I J z,bO e,I Zk (i:Int),bO r,I J d,sL ao m c] 116)) fun o w'=>o = rT (bO true)/\Below (wr.alloc (.cells #[I J x,I J y,I J z,bO e,I Zk (i:Int),bO r,I J d,sL ao m c] 116)).heap.size (wr.alloc (.cells #[I J x,I J y,I J z,bO e,I Zk (i:Int),bO r,I J d,sL ao m c] 116)) w'):=HV0.mono (by rintro o w' ⟨⟨bb,rfl,h1⟩,h2⟩;rw[h1.2 hok];exact⟨rfl,h2⟩);have HWI:Hid (∀ W,Calls Tp 138 #[bxV x y z e i r d ao m c] W fun o w'=>o = rT (bO (x == 2 || x == 3))/\Bl W w'):=fun W=>gJ W ⟨x,y,z,e,i,r,d,l⟩ ao m c;clear hx hx' hb HRG0 hY hZ hW HV0 HBAD0 HAS hLY hok hc;by_cases hx0:x=0
   .subst hx0;go_wp2_with (first
     | (refine ZG 116 HRG.o underlying116 fG ?_)
     | (go_at_call 173;refine HV.o.mono ?_;rintro o w4 ⟨rfl,hb4⟩;have HB4:Hid (blk w4 wr.heap.size [I J 0,I J y,I J z,bO e,I Zk (i:Int),bO r,I J d,sL ao m c] 116/\fU w w4 w.heap.size u5 u6 (nfY (bx.take k)) (nfZ (bx.take k))):=⟨(blk.new wr [I J 0,I J y,I J z,bO e,I Zk (i:Int),bO r,I J d,sL ao m c] 116).below hb4,HT3.o.below hb4⟩;have y0:=HB4.o.1.cell 0 _ rfl;clear hb4)
     | (refine ZG 116 HB4.o.1.load underlying116 fG ?_)
     | (go_at_call 138;refine (HWI.o _).mono ?_;rintro o w5 ⟨rfl,hb5⟩))
    go_roundw;case rel=>
     refine⟨k+1,q,om,by go_num,rfl,om,?_,HAL.o,?_⟩
     .rw[HW.o,<- HQ.o];simp
     .rw[HY.o,HZ.o];simpa using HB4.o.2.below hb5
    case measure=>simp[intOf];omega
   .have hx0':(x != 0)=true:=by simpa using hx0
    have HYY:Hid (nfY (bx.take (k+1))=nfY (bx.take k)++[y]):=by have:=HY.o;rw[qc hx0'] at this;exact this
    have HZZ:Hid (nfZ (bx.take (k+1))=nfZ (bx.take k)++[z]):=by have:=HZ.o;rw[qc hx0'] at this;exact this
    clear hx0 HY HZ;go_wp2_with (first
     | (refine ZG 116 HRG.o underlying116 fG ?_)
     | (go_at_call 173;refine HV.o.mono ?_;rintro o w4 ⟨rfl,hb4⟩;have HB4:Hid (blk w4 wr.heap.size [I J x,I J y,I J z,bO e,I Zk (i:Int),bO r,I J d,sL ao m c] 116/\fU w w4 w.heap.size u5 u6 (nfY (bx.take k)) (nfZ (bx.take k))/\w.heap.size<=wr.heap.size):=⟨(blk.new wr [I J x,I J y,I J z,bO e,I Zk (i:Int),bO r,I J d,sL ao m c] 116).below hb4,HT3.o.below hb4,HT.o.s⟩;have y0:=HB4.o.1.cell 0 _ rfl;clear hb4))
    have y1:=HB4.o.1.cell 1 _ rfl;have y2:=HB4.o.1.cell 2 _ rfl;clear y0;have hg0:(∀ g,u5.ownBlock=sQ g->g<wr.heap.size)/\(∀ g,u6.ownBlock=sQ g->g<wr.heap.size):=⟨fun g hg=>(HT.o.o1.lt g hg).2,fun g hg=>(HT.o.o2.lt g hg).2⟩
    have HG0:Hid ((∀ g,u5.ownBlock=sQ g->g<wr.heap.size)/\(∀ g,u6.ownBlock=sQ g->g<wr.heap.size)):=hg0;clear hg0 HT HT3 HV HRG;generalize wr.heap.size=PB at *;generalize nfY (bx.take k)=L1 at *;generalize nfZ (bx.take k)=L2 at *;refine QJ (S:=(fun W=>W.cell? ⟨PB,1,nn⟩=sQ (I J y)/\W.cell? ⟨PB,2,nn⟩=sQ (I J z))) kr ?_;have hS:(fun W=>W.cell? ⟨PB,1,nn⟩=sQ (I J y)/\W.cell? ⟨PB,2,nn⟩=sQ (I J z)) w4.drew:=⟨(Q6 _ _).trans y1,(Q6 _ _).trans y2⟩
    simp only[] at hS;refine tk 0 ?_;refine tk 1 ?_;refine tk 2 ?_;refine tk 5 ?_;refine tk 6 ?_;refine tk 7 ?_;have R0:Hid (rg w w4 w.heap.size PB [I J x,I J y,I J z,bO e,I Zk (i:Int),bO r,I J d,sL ao m c] u5 u6 L1 L2):=⟨HB4.o.2.1,HB4.o.1,fun e=>Qe _ (HG0.o.1 _ e),fun e=>Qe _ (HG0.o.2 _ e)⟩
    have HLT:Hid ((∀ g,u5.ownBlock=sQ g->g<w4.heap.size)/\(∀ g,u6.ownBlock=sQ g->g<w4.heap.size)):=⟨fun g hg=>(HB4.o.2.1.o1.lt g hg).2,fun g hg=>(HB4.o.2.1.o2.lt g hg).2⟩
    clear y1 y2;refine QF (rs:=[3,8]) kr pQ ?_;refine Q8 rfl (fun K hK=>?_) (Q8 rfl (fun K hK=>?_) Q9)
    .go_simp;have R1:Hid (rg w (w4.alloc (.cells #[I J y] 3)).drew w.heap.size PB [I J x,I J y,I J z,bO e,I Zk (i:Int),bO r,I J d,sL ao m c] u5 u6 L1 L2/\(w4.alloc (.cells #[I J y] 3)).drew.heap[w4.heap.size]?=sQ (.cells #[I J y] 3)):=⟨R0.o.alloc _,iP w4 _⟩
     have N5:Hid (u5.ownBlock≠sQ w4.heap.size/\u6.ownBlock≠sQ w4.heap.size):=⟨fun e=>Qe _ (HLT.o.1 _ e),fun e=>Qe _ (HLT.o.2 _ e)⟩
     refine hK.out _ _ ⟨R1.o.1.p.cell 1 _ rfl,R1.o.1.p.cell 2 _ rfl⟩ (fun hS2=>?_);clear hS hK K;have hS:=hS2;clear hS2;have HLT1:Hid ((∀ g,u5.ownBlock=sQ g->g<(w4.alloc (.cells #[I J y] 3)).drew.heap.size)/\(∀ g,u6.ownBlock=sQ g->g<(w4.alloc (.cells #[I J y] 3)).drew.heap.size)):=⟨fun g hg=>(R1.o.1.t.o1.lt g hg).2,fun g hg=>(R1.o.1.t.o2.lt g hg).2⟩
     generalize w4.heap.size=b3 at *;generalize hW1:(w4.alloc (.cells #[I J y] 3)).drew=W1 at *;clear hW1 HLT;refine QF (rs:=[4,8]) kr pQ ?_;refine Q8 rfl (fun K hK=>?_) (Q8 rfl (fun K hK=>?_) Q9)
     .obtain⟨v1,W2,hr,h2,hkp⟩:=R1.o.1.app1 y b3 R1.o.2 HLY.o.1 229;refine eW rfl (.tmp 23) (.tmp 26) rfl u5 rfl b3 rfl v1 W1 W2 hr ?_;simp only[aZ];clear hr;have R2:Hid (rg w W2 w.heap.size PB [I J x,I J y,I J z,bO e,I Zk (i:Int),bO r,I J d,sL ao m c] v1 u6 (L1++[y]) L2):=h2;clear h2 hkp;refine hK.out _ _ ⟨R2.o.p.cell 1 _ rfl,R2.o.p.cell 2 _ rfl⟩ (fun hS2=>?_);clear hS hK K;have hS:=hS2;clear hS2;refine al 8 fun K hK=>?_;go_simp;have R3:Hid (rg w (W2.alloc (.cells #[I J z] 3)) w.heap.size PB [I J x,I J y,I J z,bO e,I Zk (i:Int),bO r,I J d,sL ao m c] v1 u6 (L1++[y]) L2/\(W2.alloc (.cells #[I J z] 3)).heap[W2.heap.size]?=sQ (.cells #[I J z] 3)):=⟨R2.o.alloc' _,QN W2 _⟩
      refine hK.out _ _ ⟨R3.o.1.p.cell 1 _ rfl,R3.o.1.p.cell 2 _ rfl⟩ (fun hS2=>?_);clear hS hK K;have hS:=hS2;clear hS2;generalize W2.heap.size=b8 at *;generalize hW3:(W2.alloc (.cells #[I J z] 3))=W3 at *;clear hW3;refine al 9 fun K hK=>?_;obtain⟨v2,W4,hr,h2,hkp⟩:=R3.o.1.app2 z b8 R3.o.2 HLY.o.2 229;refine eW rfl (.tmp 28) (.tmp 31) rfl u6 rfl b8 rfl v2 W3 W4 hr ?_;simp only[aZ];clear hr;have R4:Hid (rg w W4 w.heap.size PB [I J x,I J y,I J z,bO e,I Zk (i:Int),bO r,I J d,sL ao m c] v1 v2 (L1++[y]) (L2++[z])):=h2;clear h2 hkp;refine hK.out _ _ ⟨R4.o.p.cell 1 _ rfl,R4.o.p.cell 2 _ rfl⟩ (fun hS2=>?_);clear hS hK K;have hS:=hS2;clear hS2;refine tk 10 ?_;refine tk 11 ?_;refine QH kr ?_ _;clear hS;have FT:Hid (rg w W4 w.heap.size PB [I J x,I J y,I J z,bO e,I Zk (i:Int),bO r,I J d,sL ao m c] v1 v2 (L1++[y]) (L2++[z])):=R4.o;by_cases hw:(x == 2 || x == 3)=true
      .have HWJ:Hid (∀ W,Calls Tp 138 #[bxV x y z e i r d ao m c] W fun o w'=>o = rT (bO true)/\Bl W w'):=fun W=>hw ▸ HWI.o W;have HWT:Hid ((x == 2 || x == 3)=true):=hw
       clear hw HWI;go_wp2_with (first
        | (refine ZG 116 FT.o.p.load underlying116 fG ?_)
        | (go_at_call 138;refine (HWJ.o _).mono ?_;rintro o w5 ⟨rfl,hb5⟩))
       go_roundw;case rel=>
        refine⟨k+1,q+1,om,by go_num,by go_num,om,?_,HAL.o,?_⟩
        .rw[HW.o,<- HQ.o,qc HWT.o]
        .rw[HYY.o,HZZ.o];exact FT.o.t.below hb5
       case measure=>simp[intOf];omega
      .have hw':(x == 2 || x == 3)=false:=by simpa using hw
       have HWJ:Hid (∀ W,Calls Tp 138 #[bxV x y z e i r d ao m c] W fun o w'=>o = rT (bO false)/\Bl W w'):=fun W=>hw' ▸ HWI.o W;have HWT:Hid (¬ (x == 2 || x == 3)=true):=hw
       clear hw hw' HWI;go_wp2_with (first
        | (refine ZG 116 FT.o.p.load underlying116 fG ?_)
        | (go_at_call 138;refine (HWJ.o _).mono ?_;rintro o w5 ⟨rfl,hb5⟩))
       go_roundw;case rel=>
        refine⟨k+1,q,om,by go_num,rfl,om,?_,HAL.o,?_⟩
        .rw[HW.o,<- HQ.o,qa HWT.o];rfl
        .rw[HYY.o,HZZ.o];exact FT.o.t.below hb5
       case measure=>simp[intOf];omega
     .go_simp;have R2:Hid (rg w (W1.alloc (.cells #[I J z] 3)) w.heap.size PB [I J x,I J y,I J z,bO e,I Zk (i:Int),bO r,I J d,sL ao m c] u5 u6 L1 L2/\(W1.alloc (.cells #[I J z] 3)).heap[b3]?=sQ (.cells #[I J y] 3)/\(W1.alloc (.cells #[I J z] 3)).heap[W1.heap.size]?=sQ (.cells #[I J z] 3)):=⟨R1.o.1.alloc' _,(Below.heap_alloc _ _ _ (aJ R1.o.2)).trans R1.o.2,QN W1 _⟩
      have N8:Hid (u5.ownBlock≠sQ W1.heap.size):=fun e=>Qe _ (HLT1.o.1 _ e);refine hK.out _ _ ⟨R2.o.1.p.cell 1 _ rfl,R2.o.1.p.cell 2 _ rfl⟩ (fun hS2=>?_);clear hS hK K;have hS:=hS2;clear hS2;generalize W1.heap.size=b8 at *;generalize hW2:(W1.alloc (.cells #[I J z] 3))=W2 at *;clear hW2;refine al 4 fun K hK=>?_;obtain⟨v1,W3,hr,h2,hkp⟩:=R2.o.1.app1 y b3 R2.o.2.1 HLY.o.1 229;refine eW rfl (.tmp 23) (.tmp 26) rfl u5 rfl b3 rfl v1 W2 W3 hr ?_;simp only[aZ];clear hr;have R3:Hid (rg w W3 w.heap.size PB [I J x,I J y,I J z,bO e,I Zk (i:Int),bO r,I J d,sL ao m c] v1 u6 (L1++[y]) L2/\W3.heap[b8]?=sQ (.cells #[I J z] 3)):=⟨h2,hkp _ _ N8.o R2.o.2.2⟩
      clear h2 hkp;refine hK.out _ _ ⟨R3.o.1.p.cell 1 _ rfl,R3.o.1.p.cell 2 _ rfl⟩ (fun hS2=>?_);clear hS hK K;have hS:=hS2;clear hS2;refine al 9 fun K hK=>?_;obtain⟨v2,W4,hr,h2,hkp⟩:=R3.o.1.app2 z b8 R3.o.2 HLY.o.2 229;refine eW rfl (.tmp 28) (.tmp 31) rfl u6 rfl b8 rfl v2 W3 W4 hr ?_;simp only[aZ];clear hr;have R4:Hid (rg w W4 w.heap.size PB [I J x,I J y,I J z,bO e,I Zk (i:Int),bO r,I J d,sL ao m c] v1 v2 (L1++[y]) (L2++[z])):=h2;clear h2 hkp;refine hK.out _ _ ⟨R4.o.p.cell 1 _ rfl,R4.o.p.cell 2 _ rfl⟩ (fun hS2=>?_);clear hS hK K;have hS:=hS2;clear hS2;refine tk 10 ?_;refine tk 11 ?_;refine QH kr ?_ _;clear hS;have FT:Hid (rg w W4 w.heap.size PB [I J x,I J y,I J z,bO e,I Zk (i:Int),bO r,I J d,sL ao m c] v1 v2 (L1++[y]) (L2++[z])):=R4.o;by_cases hw:(x == 2 || x == 3)=true
      .have HWJ:Hid (∀ W,Calls Tp 138 #[bxV x y z e i r d ao m c] W fun o w'=>o = rT (bO true)/\Bl W w'):=fun W=>hw ▸ HWI.o W;have HWT:Hid ((x == 2 || x == 3)=true):=hw
       clear hw HWI;go_wp2_with (first
        | (refine ZG 116 FT.o.p.load underlying116 fG ?_)
        | (go_at_call 138;refine (HWJ.o _).mono ?_;rintro o w5 ⟨rfl,hb5⟩))
       go_roundw;case rel=>
        refine⟨k+1,q+1,om,by go_num,by go_num,om,?_,HAL.o,?_⟩
        .rw[HW.o,<- HQ.o,qc HWT.o]
        .rw[HYY.o,HZZ.o];exact FT.o.t.below hb5
       case measure=>simp[intOf];omega
      .have hw':(x == 2 || x == 3)=false:=by simpa using hw
       have HWJ:Hid (∀ W,Calls Tp 138 #[bxV x y z e i r d ao m c] W fun o w'=>o = rT (bO false)/\Bl W w'):=fun W=>hw' ▸ HWI.o W;have HWT:Hid (¬ (x == 2 || x == 3)=true):=hw
       clear hw hw' HWI;go_wp2_with (first
        | (refine ZG 116 FT.o.p.load underlying116 fG ?_)
        | (go_at_call 138;refine (HWJ.o _).mono ?_;rintro o w5 ⟨rfl,hb5⟩))
       go_roundw;case rel=>
        refine⟨k+1,q,om,by go_num,rfl,om,?_,HAL.o,?_⟩
        .rw[HW.o,<- HQ.o,qa HWT.o];rfl
        .rw[HYY.o,HZZ.o];exact FT.o.t.below hb5
       case measure=>simp[intOf];omega
    .go_simp;have R1:Hid (rg w (w4.alloc (.cells #[I J z] 3)).drew w.heap.size PB [I J x,I J y,I J z,bO e,I Zk (i:Int),bO r,I J d,sL ao m c] u5 u6 L1 L2/\(w4.alloc (.cells #[I J z] 3)).drew.heap[w4.heap.size]?=sQ (.cells #[I J z] 3)):=⟨R0.o.alloc _,iP w4 _⟩
     have N5:Hid (u5.ownBlock≠sQ w4.heap.size):=fun e=>Qe _ (HLT.o.1 _ e);refine hK.out _ _ ⟨R1.o.1.p.cell 1 _ rfl,R1.o.1.p.cell 2 _ rfl⟩ (fun hS2=>?_);clear hS hK K;have hS:=hS2;clear hS2;generalize w4.heap.size=b8 at *;generalize hW1:(w4.alloc (.cells #[I J z] 3)).drew=W1 at *;clear hW1 HLT;refine al 3 fun K hK=>?_;go_simp;have R2:Hid (rg w (W1.alloc (.cells #[I J y] 3)) w.heap.size PB [I J x,I J y,I J z,bO e,I Zk (i:Int),bO r,I J d,sL ao m c] u5 u6 L1 L2/\(W1.alloc (.cells #[I J y] 3)).heap[b8]?=sQ (.cells #[I J z] 3)/\(W1.alloc (.cells #[I J y] 3)).heap[W1.heap.size]?=sQ (.cells #[I J y] 3)):=⟨R1.o.1.alloc' _,(Below.heap_alloc _ _ _ (aJ R1.o.2)).trans R1.o.2,QN W1 _⟩
     refine hK.out _ _ ⟨R2.o.1.p.cell 1 _ rfl,R2.o.1.p.cell 2 _ rfl⟩ (fun hS2=>?_);clear hS hK K;have hS:=hS2;clear hS2;generalize W1.heap.size=b3 at *;generalize hW2:(W1.alloc (.cells #[I J y] 3))=W2 at *;clear hW2;refine al 4 fun K hK=>?_;obtain⟨v1,W3,hr,h2,hkp⟩:=R2.o.1.app1 y b3 R2.o.2.2 HLY.o.1 229;refine eW rfl (.tmp 23) (.tmp 26) rfl u5 rfl b3 rfl v1 W2 W3 hr ?_;simp only[aZ];clear hr;have R3:Hid (rg w W3 w.heap.size PB [I J x,I J y,I J z,bO e,I Zk (i:Int),bO r,I J d,sL ao m c] v1 u6 (L1++[y]) L2/\W3.heap[b8]?=sQ (.cells #[I J z] 3)):=⟨h2,hkp _ _ N5.o R2.o.2.1⟩
     clear h2 hkp;refine hK.out _ _ ⟨R3.o.1.p.cell 1 _ rfl,R3.o.1.p.cell 2 _ rfl⟩ (fun hS2=>?_);clear hS hK K;have hS:=hS2;clear hS2;refine al 9 fun K hK=>?_;obtain⟨v2,W4,hr,h2,hkp⟩:=R3.o.1.app2 z b8 R3.o.2 HLY.o.2 229;refine eW rfl (.tmp 28) (.tmp 31) rfl u6 rfl b8 rfl v2 W3 W4 hr ?_;simp only[aZ];clear hr;have R4:Hid (rg w W4 w.heap.size PB [I J x,I J y,I J z,bO e,I Zk (i:Int),bO r,I J d,sL ao m c] v1 v2 (L1++[y]) (L2++[z])):=h2;clear h2 hkp;refine hK.out _ _ ⟨R4.o.p.cell 1 _ rfl,R4.o.p.cell 2 _ rfl⟩ (fun hS2=>?_);clear hS hK K;have hS:=hS2;clear hS2;refine tk 10 ?_;refine tk 11 ?_;refine QH kr ?_ _;clear hS;have FT:Hid (rg w W4 w.heap.size PB [I J x,I J y,I J z,bO e,I Zk (i:Int),bO r,I J d,sL ao m c] v1 v2 (L1++[y]) (L2++[z])):=R4.o;by_cases hw:(x == 2 || x == 3)=true
     .have HWJ:Hid (∀ W,Calls Tp 138 #[bxV x y z e i r d ao m c] W fun o w'=>o = rT (bO true)/\Bl W w'):=fun W=>hw ▸ HWI.o W;have HWT:Hid ((x == 2 || x == 3)=true):=hw
      clear hw HWI;go_wp2_with (first
       | (refine ZG 116 FT.o.p.load underlying116 fG ?_)
       | (go_at_call 138;refine (HWJ.o _).mono ?_;rintro o w5 ⟨rfl,hb5⟩))
      go_roundw;case rel=>
       refine⟨k+1,q+1,om,by go_num,by go_num,om,?_,HAL.o,?_⟩
       .rw[HW.o,<- HQ.o,qc HWT.o]
       .rw[HYY.o,HZZ.o];exact FT.o.t.below hb5
      case measure=>simp[intOf];omega
     .have hw':(x == 2 || x == 3)=false:=by simpa using hw
      have HWJ:Hid (∀ W,Calls Tp 138 #[bxV x y z e i r d ao m c] W fun o w'=>o = rT (bO false)/\Bl W w'):=fun W=>hw' ▸ HWI.o W;have HWT:Hid (¬ (x == 2 || x == 3)=true):=hw
      clear hw hw' HWI;go_wp2_with (first
       | (refine ZG 116 FT.o.p.load underlying116 fG ?_)
       | (go_at_call 138;refine (HWJ.o _).mono ?_;rintro o w5 ⟨rfl,hb5⟩))
      go_roundw;case rel=>
       refine⟨k+1,q,om,by go_num,rfl,om,?_,HAL.o,?_⟩
       .rw[HW.o,<- HQ.o,qa HWT.o];rfl
       .rw[HYY.o,HZZ.o];exact FT.o.t.below hb5
      case measure=>simp[intOf];omega
  .have hkn:bx.take k=bx:=qf (by have:=HL.o;omega);have hT:=HT.o;have hq:=HQ.o;rw[hkn] at hT hq;have HIF:Hid (dw st bx↔(q<=1/\(nfY bx).Nodup/\(nfZ bx).Nodup)):=by
    have:=wj st bx (fun j hj=>HA.o j hj (by have:=HL.o;omega));rw[<- hq] at this;exact this
   have HTT:Hid (fU w wr w.heap.size u5 u6 (nfY bx) (nfZ bx)):=hT;have hln:=uR bx;have HLN:Hid ((nfY bx).length<=100/\(nfZ bx).length<=100):=⟨by have:=HL.o;omega,by have:=HL.o;omega⟩
   clear hkn hT hq hln HT HQ HA;by_cases hq1:q<=1
   .have hq1':decide ((q:Int)<=1)=true:=by simp;omega
    have HQ1:Hid (q<=1):=hq1;clear hq1;go_wp2_with fail;refine (lJ HTT.o.o1 HLN.o.1 HTT.o.s).mono ?_;rintro o w1 ⟨⟨b1,rfl,h1⟩,hg1,hb1⟩;have H1:Hid ((b1=true↔(nfY bx).Nodup)/\dR w1 w.heap.size u6 (nfZ bx)/\Bl w w1/\w.heap.size<=w1.heap.size):=by
     refine⟨h1,HTT.o.o2.kept hg1 ?_,HTT.o.b.trans hb1,nT HTT.o.s hg1.size⟩;cases e:u6.ownBlock with
     | none=>exact qr rfl
     | some g=>exact qx fun e2=>HTT.o.ne g e2.symm e
    clear h1 hg1 hb1;cases b1
    .go_wp2_with fail;go_ret;refine⟨⟨false,rfl,?_⟩,H1.o.2.2.1⟩;rw[HIF.o];have:=H1.o.1;simp at this;simp[this]
    .go_wp2_with fail;refine (lJ H1.o.2.1 HLN.o.2 H1.o.2.2.2).mono ?_;rintro o w2 ⟨⟨b2,rfl,h2⟩,hg2,hb2⟩;have H2:Hid ((b2=true↔(nfZ bx).Nodup)/\Bl w w2):=⟨h2,H1.o.2.2.1.trans hb2⟩
     clear h2 hg2 hb2;go_wp2_with fail;go_ret;refine⟨⟨b2,rfl,?_⟩,H2.o.2⟩;rw[HIF.o,H2.o.1];exact⟨fun h=>⟨HQ1.o,(by have:=H1.o.1;simpa using this),h⟩,fun h=>h.2.2⟩
   .have hq1':decide ((q:Int)<=1)=false:=by simp;omega
    go_wp2_with fail;go_ret;refine⟨⟨false,rfl,?_⟩,HTT.o.b⟩;rw[HIF.o];simp[hq1]
end
def lO (w:World) (H:Ho) (s:Sl) (h:aK w H s) (hn:H.le 1048576) :
  Calls Tp 80 #[hoV H s] w fun o w'=>cK o (dP H)/\Bl w w':=by
 have H0:Hid (obS w H s (w.alloc (.cells (hoL H s).toArray 41))):=⟨blk.new w _ 41,Zw⟩
 have HLB:Hid (s.n2=H.bx.length/\s.n3=H.ff.length/\s.n4=H.qu.length):=⟨h.bx.len,h.ff.len,h.qu.len⟩
 have HFS:Hid (∀ W,Bl w W->Calls Tp 132 #[sL s.a1 s.n1 s.k1] W fun o w'=>o = rT (bO (gV H.fs))/\Bl W w'):=fun W hW=>jz W _ _ _ _ (h.fs.below hW) (by rw[h.fs.len];exact hn.fs);have HFF:Hid (∀ W,Bl w W->Calls Tp 134 #[sL s.a3 s.n3 s.k3,.func (.func 135) #[] #[]] W fun o w'=>o = rT (bO (!H.ff.all dZ))/\Bl W w'):=fun W hW=>ju W _ _ _ _ (h.ff.below hW) (by rw[h.ff.len];exact hn.ff);have HQU:Hid (∀ W,Bl w W->Calls Tp 136 #[sL s.a4 s.n4 s.k4,.func (.func 137) #[] #[]] W fun o w'=>o = rT (bO (!H.qu.all yd))/\Bl W w'):=fun W hW=>jv W _ _ _ _ (h.qu.below hW) (by rw[h.qu.len];exact hn.qu);have HBX:Hid (s.n2<=8->0<=H.st/\H.st<=1000000->∀ W,Bl w W->Calls Tp 133 #[sL s.a2 s.n2 s.k2,I J H.st] W fun o w'=>cK o (dw H.st H.bx)/\Bl W w'):=fun h8 hst W hW=>kI W _ _ _ _ _ (h.bx.below hW) h8 hst;have hmf:∀ (fn:Fn) (first cap:Array Value) (w:World),(Instr.makeFunc fn first cap).run Tp w = .ok (.func fn first cap) w:=fun _ _ _ _=>rfl;have q0:=H0.o.p.cell 0 _ rfl;have q1:=H0.o.p.cell 1 _ rfl;have q2:=H0.o.p.cell 2 _ rfl;have q3:=H0.o.p.cell 3 _ rfl;clear h hn;rw[Gt];go_enter func80,ntmps80;go_wp2_with fail;refine (kh _ H.c0 H.c1 H.c2 H.c3).mono ?_;rintro o w1 ⟨rfl,hb1⟩;have O1:Hid (obS w H s w1):=H0.o.below hb1;obtain⟨b,hb⟩ : ∃ b,kU H.c0 H.c1 H.c2 H.c3=b:=⟨_,rfl⟩
 have HCE:Hid (kU H.c0 H.c1 H.c2 H.c3=b):=hb;rw[hb];clear q0 q1 q2 q3 hb1 H0 hb;cases b
 .go_wp2_with fail;go_ret;exact⟨⟨false,rfl,iff_of_false Qu (fun h=>by have:=h.cf;rw[HCE.o] at this;cases this)⟩,O1.o.b⟩
 have q4:=O1.o.p.cell 4 _ rfl;go_wp2_with fail;refine (HFS.o _ O1.o.b).mono ?_;rintro o w2 ⟨rfl,hb2⟩;have O2:Hid (obS w H s w2):=O1.o.below hb2;obtain⟨b,hb⟩ : ∃ b,gV H.fs=b:=⟨_,rfl⟩
 have HFE:Hid (gV H.fs=b):=hb;rw[hb];clear q4 hb2 O1 hb;cases b
 .go_wp2_with fail;go_ret;exact⟨⟨false,rfl,iff_of_false Qu (fun h=>by have:=h.fs;rw[HFE.o] at this;cases this)⟩,O2.o.b⟩
 have q0:=O2.o.p.cell 0 _ rfl;have q1:=O2.o.p.cell 1 _ rfl;have q3:=O2.o.p.cell 3 _ rfl;have q5:=O2.o.p.cell 5 _ rfl;have q6:=O2.o.p.cell 6 _ rfl;have q7:=O2.o.p.cell 7 _ rfl;have q8:=O2.o.p.cell 8 _ rfl;have q9:=O2.o.p.cell 9 _ rfl;go_wp2_with fail;refine (dh w2 H.lo 0 100000).mono ?_;rintro o w3 ⟨rfl,rfl⟩;by_cases hl:¬ (0<=H.lo/\H.lo<=100000)
 .rw[qo hl];go_wp2_with fail;go_ret;exact⟨⟨false,rfl,iff_of_false Qu (fun h=>by have:=h.l0;have:=h.l1;omega)⟩,O2.o.b⟩
 have hl:=Classical.not_not.1 hl;rw[qD hl];go_wp2_with fail;refine (dh w2 H.st 0 1000000).mono ?_;rintro o w3 ⟨rfl,rfl⟩;by_cases hs:¬ (0<=H.st/\H.st<=1000000)
 .rw[qo hs];go_wp2_with fail;go_ret;exact⟨⟨false,rfl,iff_of_false Qu (fun h=>by have:=h.s0;have:=h.s1;omega)⟩,O2.o.b⟩
 have hs:=Classical.not_not.1 hs;rw[qD hs];have HNB:Hid (¬ ((s.n2:Int)=H.c0/\(s.n3:Int)<=H.c1/\(s.n4:Int)<=H.c3)->¬ dP H):=fun h hh=>h (by have:=HLB.o;have:=hh.nb;have:=hh.nf;have:=hh.nq;omega);go_wp2_with fail
 all_goals try
  go_ret;exact⟨⟨false,rfl,by simpa using HNB.o (fun hh=>by first | omega | (have h9:=hh.1;simp_all))⟩,O2.o.b⟩
 have hb:(s.n2:Int)=H.c0:=by simp_all
 have HCB:1<=H.c0/\H.c0<=8/\1<=H.c1/\H.c1<=16/\0<=H.c2/\H.c2<=1/\1<=H.c3/\H.c3<=32:=qO HCE.o;have HNUM:Hid ((H.bx.length:Int)=H.c0/\(H.ff.length:Int)<=H.c1/\(H.qu.length:Int)<=H.c3/\0<=H.lo/\H.lo<=100000/\0<=H.st/\H.st<=1000000):=by have:=HLB.o;exact⟨om,om,om,om,om,om,om⟩
 refine (HBX.o om hs _ O2.o.b).mono ?_;rintro o w3 ⟨⟨bb,rfl,hbb⟩,hb3⟩;have O3:Hid (obS w H s w3):=O2.o.below hb3;have HB:Hid (bb=true↔dw H.st H.bx):=hbb;clear q0 q1 q3 q5 q6 q7 q8 q9 hb HCB HNB hb3 hbb O2;cases bb
 .go_wp2_with fail;go_ret;exact⟨⟨false,rfl,iff_of_false Qu (fun h=>by have:=HB.o.2 h.bx;simp at this)⟩,O3.o.b⟩
 have q6:=O3.o.p.cell 6 _ rfl;go_wp2_with fail;refine (HFF.o _ O3.o.b).mono ?_;rintro o w4 ⟨rfl,hb4⟩;have O4:Hid (obS w H s w4):=O3.o.below hb4;obtain⟨b,hb⟩ : ∃ b,H.ff.all dZ=b:=⟨_,rfl⟩
 have HFA:Hid (H.ff.all dZ=b):=hb;rw[hb];clear q6 hb4 O3 hb;cases b
 .go_wp2_with fail;go_ret;exact⟨⟨false,rfl,iff_of_false Qu (fun h=>by have:=h.ff;rw[HFA.o] at this;cases this)⟩,O4.o.b⟩
 have q7:=O4.o.p.cell 7 _ rfl;go_wp2_with fail;refine (HQU.o _ O4.o.b).mono ?_;rintro o w5 ⟨rfl,hb5⟩;have O5:Hid (obS w H s w5):=O4.o.below hb5;obtain⟨b,hb⟩ : ∃ b,H.qu.all yd=b:=⟨_,rfl⟩
 have HFIN:Hid (b=true↔dP H):=⟨fun e=>⟨HCE.o,HFE.o,HNUM.o.1,HNUM.o.2.1,HNUM.o.2.2.1,HNUM.o.2.2.2.1,HNUM.o.2.2.2.2.1,HNUM.o.2.2.2.2.2.1,HNUM.o.2.2.2.2.2.2,HFA.o,hb.trans e,HB.o.1 (by trivial)⟩,fun h=>hb.symm.trans h.qu⟩
 rw[hb];clear q7 hb5 O4 hb;cases b;all_goals
  go_wp2_with fail;go_ret;exact⟨⟨_,rfl,by simpa using HFIN.o⟩,O5.o.b⟩
end Go.Proofs.YtgfolecanghhhaaGreat
namespace Go.Proofs.YtgfolecanghhhaaGreat
open Go.Proofs.Tryz
open Go.Shelf Go.RowKit
set_option linter.all false
open Go.Value renaming int->I,slice->sL,bool->bO,pointer->pT,agg->aG
open Go.IntKind renaming i64->J
open Go.Ending renaming returned->rT
open Go.Proofs.Tryz renaming prog->Tp
section
variable {w:World} {g off:Nat}
def Tryz.laysE160_ren:Go.Shelf.Ren:=⟨fun | 41=>178 | n=>n,fun | 22=>37 | 23=>116 | n=>n,fun | n=>n⟩
def Tryz.laysE160:Go.Proofs.SlLaysE0.n41 Tp Tryz.laysE160_ren:={
 mixed:=kr
 f41:=⟨Tryz.f178.name,by kernel_rfl,func178.trans (congrArg some kr)⟩
 t4:=underlying4
 a4:=isAgg4
 z4:=sizeOf4
 v4:=zeroValue4
 t22:=underlying37
 a22:=isAgg37
 z22:=sizeOf37
 v22:=zeroValue37 }
abbrev X8:=R8 × Option Addr × Nat × Nat
def x8 (t:X8):List Value:=[I J t.1.x,I J t.1.y,I J t.1.z,bO t.1.e,I .u32 (t.1.i:Int),bO t.1.r,I J t.1.d,sL t.2.1 t.2.2.1 t.2.2.2]
def c8 (bs:List X8):List Value:=bs.flatMap x8
def Ag (bs:List X8):(c8 bs).length=bs.length*8:=by
 induction bs with
 | nil=>rfl
 | cons b bs ih=>simp only[c8,qI,qe] at ih ⊢;rw[ih];simp only[x8,Qa,List.length_nil];omega
def CN (bs:List X8):∀ j (h:j<bs.length) t,t<8->(c8 bs)[j*8+t]?=(x8 bs[j])[t]?:=by
 induction bs with
 | nil=>intro j h;exact Qy h (nN _)
 | cons b bs ih=>
  intro j h t ht;cases j with
  | zero=>
   simp only[c8,qI,Nat.zero_mul,qi];rw[qZ (by simpa[x8] using ht)];rfl
  | succ j=>
   have e:(j+1)*8+t=8+(j*8+t):=om;rw[e];simp only[c8,qI];rw[qY (by simp[x8])];have:=ih j (by simpa using h) t ht;simp only[c8] at this;simpa[x8] using this
def EE {n cap:Nat} {bx:List R8} (h:aM w (some ⟨g,off,none⟩) n cap bx):∃ bs:List X8,bs.map (·.1)=bx/\∀ j (hj:j<bs.length),at8 w g (off+j*8) bs[j].1 bs[j].2.1 bs[j].2.2.1 bs[j].2.2.2:=by
 have hc:∀ j (hj:j<bx.length),∃ ao m c,at8 w g (off+j*8) bx[j] ao m c:=by
  intro j hj;obtain⟨g',off',ha,hc⟩:=h.cells (by intro e;subst e;cases hj);cases ha;exact hc j hj
 clear h;induction bx generalizing off with
 | nil=>exact⟨[],rfl,fun j hj=>Qy hj (nN _)⟩
 | cons b bx ih=>
  obtain⟨ao,m,c,h0⟩:=hc 0 pQ
  obtain⟨bs,hm,hs⟩:=ih (off:=off+8) (fun j hj=>by
   have:=hc (j+1) (by simpa using hj)
   have e:off+(j+1)*8=off+8+j*8:=om
   rw[e] at this
   simpa using this)
  refine⟨(b,ao,m,c) :: bs,by simp[hm],fun j hj=>?_⟩;cases j with
  | zero=>exact h0
  | succ j=>
   have:=hs j (by simpa using hj);have e:off+(j+1)*8=off+8+j*8:=om;rw[e];exact this
def BX {bs:List X8} (h:∀ j (hj:j<bs.length),at8 w g (off+j*8) bs[j].1 bs[j].2.1 bs[j].2.2.1 bs[j].2.2.2) (t:Nat) (u:Value) (hu:(c8 bs)[t]?=some u):w.cell? ⟨g,off+t,none⟩=some u:=by
 have ht:t<bs.length*8:=by
  have:=(List.getElem?_eq_some_iff.mp hu).1;rwa [Ag] at this
 have hj:t / 8<bs.length:=om;have e:t=t / 8*8+t % 8:=om;rw[e,CN bs (t / 8) hj (t % 8) om] at hu;have:=(h (t / 8) hj).range (t % 8) u hu;rw[e,<- Nat.add_assoc];exact this
def D9 (bs:List X8):∀ u ∈ c8 bs,u.oneCell'=true:=by
 intro u hu;simp only[c8,x8,List.mem_flatMap,Qw,Qf,or_false] at hu;obtain⟨b,_,rfl | rfl | rfl | rfl | rfl | rfl | rfl | rfl⟩:=hu <;> rfl
end
end Go.Proofs.YtgfolecanghhhaaGreat
namespace Go.Proofs.YtgfolecanghhhaaGreat
open Go.Proofs.Tryz
open Option renaming none->nn,some->sQ
open Go.Shelf Go.RowKit
set_option linter.all false
open Go.Value renaming int->I,slice->sL,bool->bO,pointer->pT,agg->aG
open Go.IntKind renaming i64->J
open Go.Ending renaming returned->rT
open Go.Proofs.Tryz renaming prog->Tp
section
variable {W b0 W':World} {n g U k:Nat} {bx:List R8} {hs:Nat->Hd}
def cS {B:Nat} {T:TypeId} {sz:Nat} {v:Value} {xs:List Value} (ho:W.ownsRow B T sz v n xs):(v = sL nn 0 0/\n=0)\/∃ g cap,v = sL (sQ ⟨g,0,nn⟩) n cap/\B<=g/\g<W.heap.size/\n<=cap/\az W g (n*sz)/\W.rangeAt g 0 xs:=by
 have ho':=ho;rcases ho.2 with⟨e,e2⟩|⟨g',cap',cur,hv',hb,hg,hcp,hmx,hsz,htk⟩
 .exact qr ⟨e,by simpa using e2⟩
 .right;have hl:=ho.1;have hcur:∀ t,t<n*sz->cur[t]?=xs[t]?:=by
   intro t ht;rw[<- htk,qT ht,qS]
  have hcell:∀ t,t<n*sz->W.cell? ⟨g',t,nn⟩=xs[t]?:=by
   intro t ht;rw[<- hcur t ht];simp[World.cell?,hg]
  refine⟨g',cap',hv',hb,aJ hg,hcp,fun t ht=>⟨?_,?_⟩,fun j u hu=>?_⟩
  .rw[hcell t ht];exact⟨_,qy om⟩
  .subst hv';exact QU ho' t
  .have hj:j<xs.length:=(List.getElem?_eq_some_iff.mp hu).1;rw[qi,hcell j om];exact hu
def rangeAt.up {o:Nat} {l:List Value} (h:W.rangeAt g o l) (he:W'.heap[g]?=W.heap[g]?):W'.rangeAt g o l:=fun j v hv=>cU (h j v hv) he
structure dr8 (b0:World) (U g n:Nat) (bx:List R8) (hs:Nat->Hd) (k:Nat) (W:World):Prop where
 len:n=bx.length
 row:az W g (n*8)
 rng:∀ j (h:j<bx.length),W.rangeAt g (j*8) (x8 (bx[j],hs j))
 old:∀ j (h:j<bx.length),k<=j->iB b0 (hs j).1 (hs j).2.1 (hs j).2.2 bx[j].l
 new:∀ j (h:j<bx.length),j<k->iB W (hs j).1 (hs j).2.1 (hs j).2.2 bx[j].l/\(((hs j).1=nn/\(hs j).2.1=0)\/∃ b,(hs j).1=sQ ⟨b,0,nn⟩/\U<=b/\b<W.heap.size/\az W b (hs j).2.1)
 dst:dst hs k
 lo:b0.heap.size<=g
 hi:g<W.heap.size
 bel:Bl b0 W
 sm:∀ j (h:j<bx.length),bx[j].l.length<=1048576
def dr8.same (h:dr8 b0 U g n bx hs k W) (he:∀ x,x=g\/U<=x->x<W.heap.size->W'.heap[x]?=W.heap[x]?) (hz:W.heap.size<=W'.heap.size) (hb:Bl b0 W'):dr8 b0 U g n bx hs k W':=
 ⟨h.len,h.row.up (he g (qr rfl) h.hi),fun j hj=>(rangeAt.up (h.rng j hj) (he g (qr rfl) h.hi)),h.old,fun j hj hk=>by
  obtain⟨h1,h2⟩:=h.new j hj hk
  rcases h2 with⟨e1,e2⟩|⟨b,e1,e2,e3,e4⟩
  .refine⟨⟨h1.len,h1.cap,h1.small,fun hne=>?_⟩,qr ⟨e1,e2⟩⟩
   exact Qy (List.length_pos_iff.2 hne) (by have:=h1.len;omega)
  .rw[e1] at h1 ⊢
   exact⟨h1.other (he b (qx e2) e3),qx ⟨b,rfl,e2,nL e3 hz,e4.up (he b (qx e2) e3)⟩⟩,h.dst,h.lo,nL h.hi hz,hb,h.sm⟩
def dr8.below (h:dr8 b0 U g n bx hs k W) (hb:Bl W W'):dr8 b0 U g n bx hs k W':=
 h.same (fun x _ hx=>hb.block x hx) hb.size (h.bel.trans (hb.mono h.bel.size))
def dr8.start {L:List R8} (bs:List X8) (hm:bs.map (·.1)=L) (hby:∀ j (hj:j<bs.length),iB b0 bs[j].2.1 bs[j].2.2.1 bs[j].2.2.2 bs[j].1.l) (hn:n=L.length) (hr:az W g (n*8)) (hg:W.rangeAt g 0 (c8 bs)) (hlo:b0.heap.size<=g) (hhi:g<W.heap.size) (hb:Bl b0 W) (hsm:∀ j (h:j<L.length),L[j].l.length<=1048576):dr8 b0 U g n L (fun j=>(bs.getD j (⟨0,0,0,false,0,false,0,[]⟩,nn,0,0)).2) 0 W:=by
 subst hm;have hl:(bs.map (·.1)).length=bs.length:=pQ;refine⟨hn,hr,fun j hj=>?_,fun j hj _=>?_,fun j hj hk=>Qy hk (nN _),fun i j _ hj=>Qy hj (nN _),hlo,hhi,hb,hsm⟩
 .have hj':j<bs.length:=om;have e:((bs.map (·.1))[j],(bs.getD j (⟨0,0,0,false,0,false,0,[]⟩,nn,0,0)).2)=bs[j]:=by simp[List.getD,hj']
  rw[e];intro t u hu;have ht:t<8:=by have:=(List.getElem?_eq_some_iff.mp hu).1;simpa[x8] using this
  rw[<- CN bs j hj' t ht] at hu;have:=hg _ _ hu;rw[qi] at this;exact this
 .have hj':j<bs.length:=om;have:=hby j hj';simpa[List.getD,hj'] using this
def dr8.at_ (h:dr8 b0 U g n bx hs k W) (j:Nat) (hj:j<bx.length):at8 W g (j*8) bx[j] (hs j).1 (hs j).2.1 (hs j).2.2:=by
 have hr:=h.rng j hj;refine⟨hr 0 _ rfl,hr 1 _ rfl,hr 2 _ rfl,hr 3 _ rfl,hr 4 _ rfl,hr 5 _ rfl,hr 6 _ rfl,hr 7 _ rfl,?_⟩;by_cases hk:j<k
 .exact (h.new j hj hk).1
 .exact (h.old j hj om).below h.bel
def dr8.is {cap:Nat} (h:dr8 b0 U g n bx hs k W) (hc:n<=cap):aM W (sQ ⟨g,0,nn⟩) n cap bx:=
 ⟨h.len,hc,fun _=>⟨g,0,rfl,fun j hj=>⟨_,_,_,by rw[qi];exact h.at_ j hj⟩⟩⟩
def ns (b0 w:World) (g off n cap:Nat) (bx:List R8) (h:aM b0 (sQ ⟨g,off,nn⟩) n cap bx) (hb0:Bl b0 w) (hn:n<=1048576) (hsm:∀ j (h:j<bx.length),bx[j].l.length<=1048576) :
  Calls Tp 178 #[sL (sQ ⟨g,off,nn⟩) n cap] w fun e w'=>∃ g' cap' hs,e = rT (sL (sQ ⟨g',0,nn⟩) n cap')/\w.heap.size<=g'/\n<=cap'/\dr8 b0 0 g' n bx hs 0 w'/\Bl w w':=by
 obtain⟨bs,hm,hs⟩:=EE h;have hlen:n=bs.length:=by rw[h.len,<- hm];simp
 obtain⟨i0,hi,hz0,hz1,hz2⟩:=QW info116;refine (AnyE.slices_Clone Tryz.laysE160 i0 _ 8 72 hi hz0 hz1 hz2 rfl om sizeOf116 g off n cap (c8 bs) w (by rw[Ag,hlen]) (by unfold maxLen;omega) om (fun j u hj=>BX (fun j hj=>(hs j hj).below hb0) j u hj) (D9 bs)).mono ?_;rintro e w' ⟨v',rfl,ho,hv,hbw⟩;rcases cS ho with⟨e,_⟩|⟨g',cap',rfl,hb,hlt,hcp,hrf,hrg⟩
 .exact Qy e hv
 .exact⟨g',cap',_,rfl,hb,hcp,dr8.start bs hm (fun j hj=>(hs j hj).dat) h.len hrf hrg (nT hb0.size hb) hlt (hb0.trans (hbw.mono hb0.size)) hsm,hbw⟩
def dr8.at0 (h:dr8 b0 U g n bx hs 0 W) (he:W'.heap[g]?=W.heap[g]?) (hb:Bl b0 W'):dr8 b0 U g n bx hs 0 W':=by
 refine⟨h.len,h.row.up he,fun j hj=>rangeAt.up (h.rng j hj) he,h.old,fun j hj hk=>Qy hk (nN _),h.dst,h.lo,?_,hb,h.sm⟩;have h1:=h.hi;rw[Ql h1] at he;exact aJ he
end
end Go.Proofs.YtgfolecanghhhaaGreat
