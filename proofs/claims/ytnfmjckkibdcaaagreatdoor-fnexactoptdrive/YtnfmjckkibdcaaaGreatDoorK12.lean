import Derived.Test.YtnfmjckkibdcaaaGreatDoorK11
import Derived.Test.YtnfmjckkibdcaaaGreatDoorK05
import Derived.Laws.IdiomStrings
namespace Go.Proofs.YtnfmjckkibdcaaaGreatDoor
open Option renaming none->nn,some->sQ
open Go renaming World->Wd
set_option maxRecDepth 20000
open Go.RowKit
set_option linter.all false
set_option maxHeartbeats 16000000
open Go.Value renaming int->I,slice->sL,bool->bO,pointer->pT,agg->aG
open Go.IntKind renaming i64->J
open Go.Ending renaming returned->rT
open Go.Proofs.Tryz renaming prog->Tp
variable {W W':Wd} {b i n:Nat} {e r:Bool} {d:Int}
namespace M
def num (v:Nat):Nat->List Nat
 | 0=>[]
 | n+1=>num (v / 2) n++[48+v % 2]
end M
namespace M
def DD (n v:Nat):(num v n).length=n:=by
 induction n generalizing v with
 | zero=>rfl
 | succ n ih=>simp[num,ih]
end M
namespace M
def FD (n v:Nat):∀ x ∈ num v n,isL x:=by
 induction n generalizing v with
 | zero=>intro x hx;cases hx
 | succ n ih=>
  intro x hx;simp only[num,qC,Qu] at hx;rcases hx with hx|rfl
  .exact ih _ x hx
  .unfold isL;omega
end M
namespace M
def Eo (b v:Nat):∀ a,num v (a+b)=num (v / 2 ^ b) a++num v b:=by
 induction b generalizing v with
 | zero=>intro a;simp[num]
 | succ b ih=>
  intro a;have e1:a+(b+1)=(a+b)+1:=om;have e2:v / 2 ^ (b+1)=v / 2 / 2 ^ b:=by rw[qI,Qt,qY]
  rw[e1,num,ih,num,e2,qp]
end M
def bQ (l m:List Nat):ae l++ae m=ae (l++m):=by
 unfold ae;apply ByteArray.ext;simp
def aN (l:List Nat):(ae l).size=l.length:=by
 unfold ae;simp[ByteArray.size]
def og (n:Nat):∀ (v:Nat) (w:Wd),n<=64->v<4611686018427387904 ->
  Calls Tp 90 #[I J v,I J n] w fun o w'=>o = rT (.string (ae (M.num v n)))/\w=w':=by
 induction n with
 | zero=>
  intro v w _ hv;go_enter Tryz.func90,Tryz.ntmps90;go_wp2;go_ret;exact⟨rfl,rfl⟩
 | succ n ih=>
  intro v w hn hv;have IH:Hid (∀ (v:Nat) (w:Wd),n<=64->v<4611686018427387904->Calls Tp 90 #[I J v,I J n] w fun o w'=>o = rT (.string (ae (M.num v n)))/\w=w'):=ih;clear ih;have hl:(ae (M.num (v / 2) n)).size<=64:=by rw[aN,M.DD];omega
  by_cases hb:v % 2=1
  .have hb':(((v:Int) % 2) == 1)=true:=by simp;omega
   have HE:Hid (ae (M.num v (n+1))=ae (M.num (v / 2) n)++ae [49]):=by rw[bQ,M.num,hb];exact rfl
   clear hb;go_enter Tryz.func90,Tryz.ntmps90;go_wp2_with fail;refine (IH.o (v / 2) _ om om).mono ?_;rintro o w1 ⟨rfl,rfl⟩;go_wp2;go_ret;exact⟨cg HE.o.symm,rfl⟩
  .have hb':(((v:Int) % 2) == 1)=false:=by simp;omega
   have hb0:v % 2=0:=om;have HE:Hid (ae (M.num v (n+1))=ae (M.num (v / 2) n)++ae [48]):=by rw[bQ,M.num,hb0];exact rfl
   clear hb hb0;go_enter Tryz.func90,Tryz.ntmps90;go_wp2_with fail;refine (IH.o (v / 2) _ om om).mono ?_;rintro o w1 ⟨rfl,rfl⟩;go_wp2;go_ret;exact⟨cg HE.o.symm,rfl⟩
def zG (r:Bool) (w:Wd):Calls Tp 157 #[bO r] w fun o w'=>o = rT (.string (ae [48+r.toNat]))/\w=w':=by
 cases r
 .go_enter Tryz.func157,Tryz.ntmps157;go_wp2;go_ret;exact⟨rfl,rfl⟩
 .go_enter Tryz.func157,Tryz.ntmps157;go_wp2;go_ret;exact⟨rfl,rfl⟩
def yH (v c m:Nat) (h:m<c):M.num (v / 2 ^ m) (c-m)=M.num (v / 2 ^ (m+1)) (c-(m+1))++[48+v / 2 ^ m % 2]:=by
 have e:v / 2 ^ m / 2=v / 2 ^ (m+1):=by
  rw[qY,<- qI]
 have e2:c-m=(c-(m+1))+1:=om;rw[e2,M.num,e]
def Eb (x m:Nat) (hx:x<4294967296):(48+bits BinOp.and IntKind.u32 ((x:Int) / 2 ^ m) 1) % 256=((48+x / 2 ^ m % 2:Nat):Int):=by
 have e:(x:Int) / 2 ^ m=((x / 2 ^ m:Nat):Int):=pQ;have hy:x / 2 ^ m<4294967296:=Qj (Nat.div_le_self _ _) hx;rw[e,show (1:Int)=((1:Nat):Int) from rfl,u32_and_nat _ _ hy om,nat_mask1];omega
def aV (w:Wd) (B:Nat) (v:Value) (l:List Nat) (x c:Nat) (hown:aa w B v l) (hB:B<=w.heap.size) (hl:l.length<=10000) (hx:x<4294967296) (hc:c<=32) :
  Calls Tp 196 #[v,I .u32 x,I J c] w fun o w'=>∃ v',o = rT v'/\aa w' B v' (l++M.num x c)/\Below B w w'/\Lib.OthersKept 5 nn w w':=by
 go_enter Tryz.func196,Tryz.ntmps196;go_wp2;go_loopw [0,7] (fun v i wr=>∃ q:Nat,q<=c/\i = I J ((q:Int)-1)/\aa wr B v (l++M.num (x / 2 ^ q) (c-q))/\Below B w wr/\Lib.OthersKept 5 nn w wr/\B<=wr.heap.size) (fun _ i _=>(intOf i+1).toNat);case atStart=>exact⟨c,nR _,rfl,by simpa[M.num] using hown,bW _ _,QW _ _ _,hB⟩
 case round=>
  have hB0:=hB;clear hown hB;obtain⟨q,hq,rfl,hown,hbel,hok,hB⟩:=hrel;by_cases hq0:q=0
  .subst hq0;rw[Nat.sub_zero,Nat.pow_zero,Nat.div_one] at hown;go_wp2;go_ret;exact⟨_,rfl,hown,hbel,hok⟩
  .obtain⟨m,rfl⟩ : ∃ m,q=m+1:=⟨q-1,om⟩
   have hll:(l++M.num (x / 2 ^ (m+1)) (c-(m+1))).length<=20000:=by rw[qe,M.DD];omega
   have HN:Hid (l++M.num (x / 2 ^ m) (c-m)=(l++M.num (x / 2 ^ (m+1)) (c-(m+1)))++[48+x / 2 ^ m % 2]):=by rw[yH x c m om,qp];exact rfl
   generalize l++M.num (x / 2 ^ (m+1)) (c-(m+1))=l1 at *;go_wp2_with (at_builtin;refine fu w wr rfl (.tmp 14) (.tmp 21) rfl B _ l1 (48+x / 2 ^ m % 2) _ (Eb x m hx) rfl hown rfl om hB hbel ?_);intro v3 w3 ho3 hb3 hk3;have hz3:B<=w3.heap.size:=nT hB0 hb3.size;clear hown hbel hB;go_wp2;go_roundw;case rel=>exact⟨m,om,by go_num,by rw[HN.o];exact ho3,hb3,hok.trans hk3,hz3⟩
   case measure=>simp[intOf]
def eO (e:Bool) (i:Nat) (r:Bool):List Nat:=
 if e=true then M.num (i / 2 ^ 18) 11++[49,49]++M.num i 18++[48+r.toNat] else M.num i 11++[48+r.toNat]++[48]
def mY:M.num 0 1=[48]:=rfl
def uQ:M.num 1 1=[49]:=rfl
def vm {ops:Array Oper} {rest:List Oper} {o:Oper} {a:Act} {Q:Exit->Act->Wd->Prop} (w0 wr:Wd) (hgd:o.guard=nn) (s x:Operand)
  (ho:o.op = .call { callee:=.builtin .append,args:=#[s,x],argTypes:=#[45,45] })
  (B:Nat) (v:Value) (l:List Nat) (c d:Nat) (hs:a.eval s=v) (hown:aa wr B v l)
  (hx:a.eval x = sL (sQ ⟨wr.heap.size,0,nn⟩) 2 2) (hlen:l.length<=100000000) (hB:B<=wr.heap.size) (hbel:Below B w0 wr)
  (h:∀ v' w',aa w' B v' (l++[c,d])->Below B w0 w'->Lib.OthersKept 5 nn wr w'->wpList Tp ops Q rest (a.put o.dst v') w') :
  wpList Tp ops Q (o :: rest) a (wr.alloc (.cells #[I .u8 (c:Int),I .u8 (d:Int)] 5)):=by
 obtain⟨i0,hi,hz0,hz1,hz2⟩:=QX Tryz.info5;refine Q2 _ hgd s x 45 ho B 5 i0 (I .u8 0) 1 1 Tryz.underlying45 hi hz0 hz1 hz2 rfl (by decide) v l.length (bv l) hs (QN hown _) ⟨wr.heap.size,0,nn⟩ 2 2 [I .u8 (c:Int),I .u8 (d:Int)] hx rfl ?_ ?_ ?_ ?_ ?_ ?_
 .exact cell_two_new wr (I .u8 (c:Int)) (I .u8 (d:Int)) 5
 .intro u hu;simp at hu;rcases hu with rfl | rfl <;> rfl
 .unfold maxLen;omega
 .omega
 .simp;omega
 .intro v' w' ho' hg _;have hr:∀ k,v.ownBlock=sQ k->B<=k:=fun k hk=>(QC hown k hk).1;refine h v' w' ?_ ((hbel.alloc hB _).grown hg (by simp;omega) hr) (((QW 5 nn wr).alloc _).grown hg ?_)
  .have e1:bv (l++[c,d])=bv l++[I .u8 (c:Int),I .u8 (d:Int)]:=by simp[bv]
   unfold aa;rw[e1,qe];exact ho'
  .intro g hg';exact aa.kind (B:=B) (l:=l) (QN hown _) g hg'
def jw {o:Obj} (h:W.heap[b]?=sQ o) (hk:Lib.OthersKept 5 nn W W') (ho:∀ c fz,o≠.cells c 5 fz):W'.heap[b]?=sQ o:=hk b o h pQ ho
def GY (e:Bool) (i:Nat) (r:Bool) (d:Int) (a:Option Addr) (n cap:Nat):∀ c fz,frC e i r d a n cap 47≠.cells c 5 fz:=by
 intro c fz h;cases h
def cn {a:Option Addr} {cap:Nat} (h:W.heap[b]?=sQ (frC e i r d a n cap 47)) :
  W.cell? ⟨b,0,nn⟩=sQ (bO e)/\W.cell? ⟨b,1,nn⟩=sQ (I .u32 (i:Int))/\W.cell? ⟨b,2,nn⟩=sQ (bO r)/\W.cell? ⟨b,3,nn⟩=sQ (I J d)/\W.cell? ⟨b,4,nn⟩=sQ (sL a n cap):=by
 refine⟨?_,?_,?_,?_,?_⟩ <;> simp[World.cell?,h]
def mG (w:Wd) (B:Nat) (v:Value) (l:List Nat) (hown:aa w B v l) (hB:B<=w.heap.size) (hl:l.length<=1000)
  (e:Bool) (i:Nat) (r:Bool) (d:Int) (a:Option Addr) (n cap:Nat) (hi:i<4294967296) :
  Calls Tp 244 #[v,frV e i r d a n cap] w fun o w'=>∃ v',o = rT v'/\aa w' B v' (l++eO e i r)/\Below B w w'/\Lib.OthersKept 5 nn w w':=by
 have hown1:aa (w.alloc (frC e i r d a n cap 47)) B v l:=QN hown _;have hbox:=QO w (frC e i r d a n cap 47);have hbel1:Below B w (w.alloc (frC e i r d a n cap 47)):=(bW _ _).alloc hB _;have hok1:Lib.OthersKept 5 nn w (w.alloc (frC e i r d a n cap 47)):=(QW 5 nn w).alloc _;have hz1:B<=(w.alloc (frC e i r d a n cap 47)).heap.size:=by simp;omega
 have HALL:Hid (aa (w.alloc (frC e i r d a n cap 47)) B v l/\(w.alloc (frC e i r d a n cap 47)).heap[w.heap.size]?=sQ (frC e i r d a n cap 47)/\Below B w (w.alloc (frC e i r d a n cap 47))/\Lib.OthersKept 5 nn w (w.alloc (frC e i r d a n cap 47))/\B<=(w.alloc (frC e i r d a n cap 47)).heap.size):=⟨hown1,hbox,hbel1,hok1,hz1⟩
 clear hown1 hbox hbel1 hok1 hz1 hown;cases e
 .cases r
  .go_enter Tryz.func244,Tryz.ntmps244;go_wp2_with fail;refine (aV _ B v l i 11 HALL.o.1 HALL.o.2.2.2.2 om hi om).mono ?_;rintro o w2 ⟨v2,rfl,ho2,hb2,hk2⟩;go_wp2_with fail;have hz2:B<=w2.heap.size:=nT HALL.o.2.2.2.2 hb2.size;refine (aV _ B v2 _ 0 1 ho2 hz2 (by simp[M.DD];omega) om om).mono ?_;rintro o w3 ⟨v3,rfl,ho3,hb3,hk3⟩;have hz3:B<=w3.heap.size:=nT hz2 hb3.size;go_wp2_with (at_builtin;refine fu w3 w3 rfl (.tmp 18) (.tmp 19) rfl B _ _ 48 _ rfl rfl ho3 rfl (by simp[M.DD];omega) hz3 (bW _ _) ?_);intro v4 w4 ho4 hb4 hk4;go_wp2;go_ret;refine⟨_,rfl,?_,HALL.o.2.2.1.trans (hb2.trans (hb3.trans hb4)),HALL.o.2.2.2.1.trans (hk2.trans (hk3.trans hk4))⟩;have hfin:aa w4 B v4 (l++eO false i false):=by simpa[eO,mY,uQ] using ho4
   exact hfin
  .go_enter Tryz.func244,Tryz.ntmps244;go_wp2_with fail;refine (aV _ B v l i 11 HALL.o.1 HALL.o.2.2.2.2 om hi om).mono ?_;rintro o w2 ⟨v2,rfl,ho2,hb2,hk2⟩;go_wp2_with fail;have hz2:B<=w2.heap.size:=nT HALL.o.2.2.2.2 hb2.size;refine (aV _ B v2 _ 1 1 ho2 hz2 (by simp[M.DD];omega) om om).mono ?_;rintro o w3 ⟨v3,rfl,ho3,hb3,hk3⟩;have hz3:B<=w3.heap.size:=nT hz2 hb3.size;go_wp2_with (at_builtin;refine fu w3 w3 rfl (.tmp 18) (.tmp 19) rfl B _ _ 48 _ rfl rfl ho3 rfl (by simp[M.DD];omega) hz3 (bW _ _) ?_);intro v4 w4 ho4 hb4 hk4;go_wp2;go_ret;refine⟨_,rfl,?_,HALL.o.2.2.1.trans (hb2.trans (hb3.trans hb4)),HALL.o.2.2.2.1.trans (hk2.trans (hk3.trans hk4))⟩;have hfin:aa w4 B v4 (l++eO false i true):=by simpa[eO,mY,uQ] using ho4
   exact hfin
 .cases r
  .have hdv:((i:Int) / 262144)=((i / 2 ^ 18:Nat):Int):=om;have HDV:Hid (((i:Int) / 262144)=((i / 2 ^ 18:Nat):Int)):=hdv;clear hdv;go_enter Tryz.func244,Tryz.ntmps244;go_wp2_with fail;rw[HDV.o];refine (aV _ B v l (i / 2 ^ 18) 11 HALL.o.1 HALL.o.2.2.2.2 om om om).mono ?_;rintro o w2 ⟨v2,rfl,ho2,hb2,hk2⟩;have hz2:B<=w2.heap.size:=nT HALL.o.2.2.2.2 hb2.size;have hx2:=jw HALL.o.2.1 hk2 (GY _ _ _ _ _ _ _);go_wp2_with (at_builtin;refine vm w2 w2 rfl (.tmp 26) (.tmp 27) rfl B _ _ 49 49 rfl ho2 rfl (by simp[M.DD];omega) hz2 (bW _ _) ?_);intro v3 w3 ho3 hb3 hk3;have hz3:B<=w3.heap.size:=nT hz2 hb3.size;have hx3:=cn (jw hx2 hk3 (GY _ _ _ _ _ _ _));have HX2:Hid True:=trivial;clear hx2 HX2;go_wp2_with fail;refine (aV _ B v3 _ i 18 ho3 hz3 (by simp[M.DD];omega) hi om).mono ?_;rintro o w4 ⟨v4,rfl,ho4,hb4,hk4⟩;have hz4:B<=w4.heap.size:=nT hz3 hb4.size;clear hx3;go_wp2_with fail;refine (aV _ B v4 _ 0 1 ho4 hz4 (by simp[M.DD];omega) om om).mono ?_;rintro o w5 ⟨v5,rfl,ho5,hb5,hk5⟩;go_wp2;go_ret;refine⟨_,rfl,?_,HALL.o.2.2.1.trans (hb2.trans (hb3.trans (hb4.trans hb5))),HALL.o.2.2.2.1.trans (hk2.trans (hk3.trans (hk4.trans hk5)))⟩;have hfin:aa w5 B v5 (l++eO true i false):=by simpa[eO,mY,uQ] using ho5
   exact hfin
  .have hdv:((i:Int) / 262144)=((i / 2 ^ 18:Nat):Int):=om;have HDV:Hid (((i:Int) / 262144)=((i / 2 ^ 18:Nat):Int)):=hdv;clear hdv;go_enter Tryz.func244,Tryz.ntmps244;go_wp2_with fail;rw[HDV.o];refine (aV _ B v l (i / 2 ^ 18) 11 HALL.o.1 HALL.o.2.2.2.2 om om om).mono ?_;rintro o w2 ⟨v2,rfl,ho2,hb2,hk2⟩;have hz2:B<=w2.heap.size:=nT HALL.o.2.2.2.2 hb2.size;have hx2:=jw HALL.o.2.1 hk2 (GY _ _ _ _ _ _ _);go_wp2_with (at_builtin;refine vm w2 w2 rfl (.tmp 26) (.tmp 27) rfl B _ _ 49 49 rfl ho2 rfl (by simp[M.DD];omega) hz2 (bW _ _) ?_);intro v3 w3 ho3 hb3 hk3;have hz3:B<=w3.heap.size:=nT hz2 hb3.size;have hx3:=cn (jw hx2 hk3 (GY _ _ _ _ _ _ _));have HX2:Hid True:=trivial;clear hx2 HX2;go_wp2_with fail;refine (aV _ B v3 _ i 18 ho3 hz3 (by simp[M.DD];omega) hi om).mono ?_;rintro o w4 ⟨v4,rfl,ho4,hb4,hk4⟩;have hz4:B<=w4.heap.size:=nT hz3 hb4.size;clear hx3;go_wp2_with fail;refine (aV _ B v4 _ 1 1 ho4 hz4 (by simp[M.DD];omega) om om).mono ?_;rintro o w5 ⟨v5,rfl,ho5,hb5,hk5⟩;go_wp2;go_ret;refine⟨_,rfl,?_,HALL.o.2.2.1.trans (hb2.trans (hb3.trans (hb4.trans hb5))),HALL.o.2.2.2.1.trans (hk2.trans (hk3.trans (hk4.trans hk5)))⟩;have hfin:aa w5 B v5 (l++eO true i true):=by simpa[eO,mY,uQ] using ho5
   exact hfin
def ag (e:Bool) (i:Nat) (r:Bool) (d:Nat) (l:List Nat):List Nat:=
 [48]++eO e i r++M.num 0 (1+e.toNat)++M.num d 4++l.flatMap (fun x=>M.num x 8)
def du (e:Bool) (i:Nat) (r:Bool) (d:Nat) (l:List Nat):(ag e i r d l).length=(if e=true then 39 else 19)+8*l.length:=by
 have h8:(l.flatMap (fun x=>M.num x 8)).length=8*l.length:=by
  induction l with
  | nil=>rfl
  | cons a l ih=>rw[qJ,qe,ih,M.DD,Qb];omega
 cases e <;> simp[ag,eO,M.DD,h8] <;> omega
def dI (e:Bool) (i:Nat) (r:Bool) (d:Nat) (l:List Nat):∀ x ∈ ag e i r d l,M.isL x:=by
 have hf:∀ x,x=48+r.toNat->M.isL x:=by intro x hx;subst hx;cases r;exact .inl rfl;exact .inr rfl
 have h0:M.isL 48:=.inl rfl;have h1:M.isL 49:=.inr rfl;intro x hx;cases e
 .simp only[ag,eO,qC,List.mem_flatMap,Qu,qN,if_false] at hx;rcases hx with (((rfl|(hx|hx)|hx)|hx)|hx)|⟨y,_,hx⟩
  .exact h0
  .exact M.FD _ _ x hx
  .exact hf x hx
  .subst hx;exact h0
  .exact M.FD _ _ x hx
  .exact M.FD _ _ x hx
  .exact M.FD _ _ x hx
 .simp only[ag,eO,qC,List.mem_flatMap,Qx,Qg,or_false,if_true] at hx;rcases hx with (((rfl|(((hx|hx)|hx)|hx))|hx)|hx)|⟨y,_,hx⟩
  .exact h0
  .exact M.FD _ _ x hx
  .rcases hx with rfl | rfl <;> exact h1
  .exact M.FD _ _ x hx
  .exact hf x hx
  .exact M.FD _ _ x hx
  .exact M.FD _ _ x hx
  .exact M.FD _ _ x hx
def dH {B:Nat} {o:Obj} (h:W.heap[b]?=sQ o) (hb:Below B W W') (hB:b<B):W'.heap[b]?=sQ o:=(hb.block b hB).trans h
def gU (e:Bool) (i:Nat) (r:Bool) (d:Int) (n:Nat) (l:List Nat):ByteArray:=if vB e i r d n=true then ae (ag e i r d.toNat l) else ⟨#[]⟩
def cN (h:vB e i r d n=true):i<536870912/\(e=false->i<2048)/\0<=d/\d<=15/\n<=8:=by
 unfold vB at h;simp only[qx,qW,beq_iff_eq] at h;obtain⟨⟨⟨h1,h2⟩,h3⟩,h4⟩:=h;have h5:=nj r d h2;refine⟨?_,?_,h2,h3,om⟩
 .cases e <;> simp at h1 <;> omega
 .intro he;subst he;simpa using h1
def jK (l:List Nat) (k:Nat) (h:k<l.length) (p:List Nat):p++(l.take (k+1)).flatMap (fun x=>M.num x 8)=p++(l.take k).flatMap (fun x=>M.num x 8)++M.num l[k] 8:=by
 rw[M.uq l k h,List.flatMap_append,qp];simp
def ni (l:List Nat):(l.flatMap (fun x=>M.num x 8)).length=8*l.length:=by
 induction l with
 | nil=>rfl
 | cons a l ih=>rw[qJ,qe,ih,M.DD,Qb];omega
def jE (v n:Nat) (w:Wd) (hn:n<=64) (hv:v<4611686018427387904):Calls Tp 90 #[I J v,I J n] w fun o w'=>o = rT (.string (ae (M.num v n)))/\w'=w:=
 (og n v w hn hv).mono fun _ _ h=>⟨h.1,h.2.symm⟩
def lF (r:Bool) (w:Wd):Calls Tp 157 #[bO r] w fun o w'=>o = rT (.string (ae [48+r.toNat]))/\w'=w:=
 (zG r w).mono fun _ _ h=>⟨h.1,h.2.symm⟩
def vM (l:List Nat) (k:Nat):(ae l).extract 0 k=ae (l.take k):=by
 unfold ae;apply ByteArray.ext;simp[ByteArray.data_extract]
def vN (l:List Nat) (k m:Nat) (h:m=l.length):(ae l).extract k m=ae (l.drop k):=by
 subst h;unfold ae;apply ByteArray.ext;simp[ByteArray.data_extract];exact ze pQ
def yJ (v:Nat) (w:Wd) (hv:v<4611686018427387904):Calls Tp 90 #[I J (v:Int),I J 4] w fun o w'=>o = rT (.string (ae (M.num v 4)))/\w'=w:=jE v 4 w om hv
def yI (v:Nat) (w:Wd) (hv:v<4611686018427387904):Calls Tp 90 #[I J (v:Int),I J 8] w fun o w'=>o = rT (.string (ae (M.num v 8)))/\w'=w:=jE v 8 w om hv
def A8 (v:Nat) (w:Wd) (hv:v<4611686018427387904):Calls Tp 90 #[I J (v:Int),I J 11] w fun o w'=>o = rT (.string (ae (M.num v 11)))/\w'=w:=jE v 11 w om hv
def A9 (v:Nat) (w:Wd) (hv:v<4611686018427387904):Calls Tp 90 #[I J (v:Int),I J 29] w fun o w'=>o = rT (.string (ae (M.num v 29)))/\w=w':=og 29 v w om hv
def CD:M.num 0 2=[48,48]:=rfl
def sX (i:Nat):(M.num i 29).take 11=M.num (i / 2 ^ 18) 11:=by
 rw[show (29:Nat)=11+18 from rfl,M.Eo 18 i 11,Qr (by rw[M.DD];omega),ze (by rw[M.DD];omega)]
def sY (i:Nat):(M.num i 29).drop 11=M.num i 18:=by
 rw[show (29:Nat)=11+18 from rfl,M.Eo 18 i 11,List.drop_append_of_le_length (by rw[M.DD];omega),qq (by rw[M.DD];omega),List.nil_append]
def b48:({ data:=#[48] }:ByteArray)=ae [48]:=rfl
def b49:({ data:=#[49] }:ByteArray)=ae [49]:=rfl
def Fw:({ data:=#[48,48] }:ByteArray)=ae [48,48]:=rfl
def pA (w:Wd) (e:Bool) (i:Nat) (r:Bool) (dn:Nat) (a:Option Addr) (n cap:Nat) (l:List Nat) (h:iB w a n cap l) (hv:vB e i r (dn:Int) n=true) :
  Calls Tp 88 #[frV e i r (dn:Int) a n cap] w fun o w'=>o = rT (.string (ae (ag e i r dn l)))/\Bl w w':=by
 obtain⟨hi,hi2,_,hd15,hn8⟩:=cN hv;have HV:Hid (vB e i r (dn:Int) n=true):=hv;have HH:Hid (iB w a n cap l):=h;have hW:Bl w (w.alloc (frC e i r (dn:Int) a n cap 47)):=qw;have HW:Hid (Bl w (w.alloc (frC e i r (dn:Int) a n cap 47))/\(w.alloc (frC e i r (dn:Int) a n cap 47)).heap[w.heap.size]?=sQ (frC e i r (dn:Int) a n cap 47)):=⟨hW,QO w _⟩
 clear hv h hW hi2;cases e
 .go_enter Tryz.func88,Tryz.ntmps88;go_wp2_with fail;refine (ch _ _ i r (dn:Int) a n cap).mono ?_;rw[HV.o];rintro o w1 ⟨rfl,hb1⟩;have hB1:Bl w w1:=HW.o.1.trans (hb1.mono pQ);have hx1:=dH HW.o.2 hb1 pQ;have hc1:=cn hx1;have HY1:Hid (iB w1 a n cap l):=HH.o.below hB1;clear hb1 hx1;have hs1:(ae (M.num i 11)).size<=11:=by rw[aN,M.DD];omega
  have hs2:(ae [48+r.toNat]).size<=1:=by rw[aN];simp
  go_wp2_with fail;go_quiet (first | (go_at_call 90;exact Calls.quiet_of_same (A8 i _ om)) | (go_at_call 157;exact Calls.quiet_of_same (lF r _)));go_wp2_with fail;have hEq:({ data:=#[48] }++ae (M.num i 11)++ae [48+r.toNat]++{ data:=#[48] }++{ data:=#[48] }:ByteArray)=ae ([48]++M.num i 11++[48+r.toNat]++[48]++[48]):=by
   rw[b48];simp only[bQ]
  rw[hEq];have HBD:Hid (ag false i r dn l=[48]++M.num i 11++[48+r.toNat]++[48]++[48]++M.num dn 4++l.flatMap (fun x=>M.num x 8)):=by
   simp[Hid,ag,eO,mY]
  have hpl:([48]++M.num i 11++[48+r.toNat]++[48]++[48]++M.num dn 4).length<=100:=by simp[M.DD]
  have hs3:(ae ([48]++M.num i 11++[48+r.toNat]++[48]++[48])).size<=100:=by rw[aN];simp[M.DD]
  have hs4:(ae (M.num dn 4)).size<=4:=by rw[aN,M.DD];omega
  have HAP:Hid (ae ([48]++M.num i 11++[48+r.toNat]++[48]++[48])++ae (M.num dn 4)=ae ([48]++M.num i 11++[48+r.toNat]++[48]++[48]++M.num dn 4)):=bQ _ _;clear hEq hs1 hs2;generalize [48]++M.num i 11++[48+r.toNat]++[48]++[48]++M.num dn 4=pre at *;generalize ae ([48]++M.num i 11++[48+r.toNat]++[48]++[48])=sp at *;refine (yJ dn _ om).mono ?_;rintro o w2 ⟨rfl,rfl⟩;go_wp2_with fail;rw[HAP.o];by_cases hl:l=[]
  .have hn0:n=0:=by have:=HY1.o.len;rw[hl] at this;simpa using this
   subst hn0 hl;go_loopw [3,5] (fun s idx wr=>idx = I J 0/\s = .string (ae pre)/\wr=w1.drewN nq) (fun _ _ _=>0);case atStart=>exact⟨rfl,rfl,rfl⟩
   case round=>
    obtain⟨rfl,rfl,rfl⟩:=hrel;go_wp2;go_ret;exact⟨cg (by rw[HBD.o];simp),QR hB1 nq⟩
  .obtain⟨g,off,rfl,hcl⟩:=HY1.o.cells hl;have hlen:=HY1.o.len;have hn1:n<=l.length:=om;have hn2:l.length<=n:=om;have HSM:Hid (∀ x ∈ l,x<256):=HY1.o.small;clear hlen;go_loopw [3,5] (fun s idx wr=>∃ k:Nat,k<=n/\idx = I J k/\s = .string (ae (pre++(l.take k).flatMap (fun x=>M.num x 8)))/\wr=w1.drewN nq) (fun _ idx _=>n-(intOf idx).toNat);case atStart=>exact⟨0,nZ _,rfl,pQ,rfl⟩
   case round=>
    obtain⟨k,hk,rfl,rfl,rfl⟩:=hrel;by_cases hlt:k<n
    .have hc:=hcl k om;have hx256:=HSM.o l[k] (zh _);have HF:Hid (ae (pre++(l.take k).flatMap (fun x=>M.num x 8))++ae (M.num l[k] 8)=ae (pre++(l.take (k+1)).flatMap (fun x=>M.num x 8))):=by rw[jK l k om pre,bQ];exact rfl
     have hpl2:(ae (pre++(l.take k).flatMap (fun x=>M.num x 8))).size<=1000:=by rw[aN,qe,ni,qj];omega
     generalize l[k]=x at *;have hs8:(ae (M.num x 8)).size<=8:=by rw[aN,M.DD];omega
     generalize ae (pre++(l.take k).flatMap (fun x=>M.num x 8))=sp at *;go_wp2_with (go_at_call 90;refine (yI x _ om).mono ?_;rintro o w7 ⟨rfl,rfl⟩);go_roundw;case rel=>exact⟨k+1,om,by go_num,by rw[<- HF.o],by first | rfl | trivial⟩
     case measure=>simp[intOf];omega
    .have hke:l.take k=l:=ze om;have HKE:Hid (l.take k=l):=hke;clear hke;go_wp2;go_ret;exact⟨cg (by rw[HBD.o,HKE.o]),QR hB1 nq⟩
 .go_enter Tryz.func88,Tryz.ntmps88;go_wp2_with fail;refine (ch _ _ i r (dn:Int) a n cap).mono ?_;rw[HV.o];rintro o w1 ⟨rfl,hb1⟩;have hB1:Bl w w1:=HW.o.1.trans (hb1.mono pQ);have hx1:=dH HW.o.2 hb1 pQ;have hc1:=cn hx1;have HY1:Hid (iB w1 a n cap l):=HH.o.below hB1;clear hb1 hx1;have hs29:(ae (M.num i 29)).size=29:=by rw[aN,M.DD]
  have hs2:(ae [48+r.toNat]).size<=1:=by rw[aN];simp
  go_wp2_with (go_at_call 90;refine (A9 i _ om).mono ?_;rintro o w7 ⟨rfl,rfl⟩);go_quiet (first | (go_at_call 157;exact Calls.quiet_of_same (lF r _)));go_wp2_with fail;have hEq:({ data:=#[48] }++(ae (M.num i 29)).extract 0 11++{ data:=#[49] }++{ data:=#[49] }++(ae (M.num i 29)).extract 11 29++ae [48+r.toNat]++{ data:=#[48,48] }:ByteArray)=ae ([48]++M.num (i / 2 ^ 18) 11++[49]++[49]++M.num i 18++[48+r.toNat]++[48,48]):=by
   rw[b48,b49,Fw,vM,vN _ 11 29 (by rw[M.DD]),sX,sY];simp only[bQ]
  rw[hEq];have HBD:Hid (ag true i r dn l=[48]++M.num (i / 2 ^ 18) 11++[49]++[49]++M.num i 18++[48+r.toNat]++[48,48]++M.num dn 4++l.flatMap (fun x=>M.num x 8)):=by
   simp[Hid,ag,eO,CD]
  have hpl:([48]++M.num (i / 2 ^ 18) 11++[49]++[49]++M.num i 18++[48+r.toNat]++[48,48]++M.num dn 4).length<=100:=by simp[M.DD]
  have hs3:(ae ([48]++M.num (i / 2 ^ 18) 11++[49]++[49]++M.num i 18++[48+r.toNat]++[48,48])).size<=100:=by rw[aN];simp[M.DD]
  have hs4:(ae (M.num dn 4)).size<=4:=by rw[aN,M.DD];omega
  have HAP:Hid (ae ([48]++M.num (i / 2 ^ 18) 11++[49]++[49]++M.num i 18++[48+r.toNat]++[48,48])++ae (M.num dn 4)=ae ([48]++M.num (i / 2 ^ 18) 11++[49]++[49]++M.num i 18++[48+r.toNat]++[48,48]++M.num dn 4)):=bQ _ _;clear hEq hs29 hs2;generalize [48]++M.num (i / 2 ^ 18) 11++[49]++[49]++M.num i 18++[48+r.toNat]++[48,48]++M.num dn 4=pre at *;generalize ae ([48]++M.num (i / 2 ^ 18) 11++[49]++[49]++M.num i 18++[48+r.toNat]++[48,48])=sp at *;refine (yJ dn _ om).mono ?_;rintro o w2 ⟨rfl,rfl⟩;go_wp2_with fail;rw[HAP.o];by_cases hl:l=[]
  .have hn0:n=0:=by have:=HY1.o.len;rw[hl] at this;simpa using this
   subst hn0 hl;go_loopw [3,5] (fun s idx wr=>idx = I J 0/\s = .string (ae pre)/\wr=w1.drewN nq) (fun _ _ _=>0);case atStart=>exact⟨rfl,rfl,rfl⟩
   case round=>
    obtain⟨rfl,rfl,rfl⟩:=hrel;go_wp2;go_ret;exact⟨cg (by rw[HBD.o];simp),QR hB1 nq⟩
  .obtain⟨g,off,rfl,hcl⟩:=HY1.o.cells hl;have hlen:=HY1.o.len;have hn1:n<=l.length:=om;have hn2:l.length<=n:=om;have HSM:Hid (∀ x ∈ l,x<256):=HY1.o.small;clear hlen;go_loopw [3,5] (fun s idx wr=>∃ k:Nat,k<=n/\idx = I J k/\s = .string (ae (pre++(l.take k).flatMap (fun x=>M.num x 8)))/\wr=w1.drewN nq) (fun _ idx _=>n-(intOf idx).toNat);case atStart=>exact⟨0,nZ _,rfl,pQ,rfl⟩
   case round=>
    obtain⟨k,hk,rfl,rfl,rfl⟩:=hrel;by_cases hlt:k<n
    .have hc:=hcl k om;have hx256:=HSM.o l[k] (zh _);have HF:Hid (ae (pre++(l.take k).flatMap (fun x=>M.num x 8))++ae (M.num l[k] 8)=ae (pre++(l.take (k+1)).flatMap (fun x=>M.num x 8))):=by rw[jK l k om pre,bQ];exact rfl
     have hpl2:(ae (pre++(l.take k).flatMap (fun x=>M.num x 8))).size<=1000:=by rw[aN,qe,ni,qj];omega
     generalize l[k]=x at *;have hs8:(ae (M.num x 8)).size<=8:=by rw[aN,M.DD];omega
     generalize ae (pre++(l.take k).flatMap (fun x=>M.num x 8))=sp at *;go_wp2_with (go_at_call 90;refine (yI x _ om).mono ?_;rintro o w7 ⟨rfl,rfl⟩);go_roundw;case rel=>exact⟨k+1,om,by go_num,by rw[<- HF.o],by first | rfl | trivial⟩
     case measure=>simp[intOf];omega
    .have hke:l.take k=l:=ze om;have HKE:Hid (l.take k=l):=hke;clear hke;go_wp2;go_ret;exact⟨cg (by rw[HBD.o,HKE.o]),QR hB1 nq⟩
def nU (w:Wd) (e:Bool) (i:Nat) (r:Bool) (d:Int) (a:Option Addr) (n cap:Nat) (l:List Nat) (h:iB w a n cap l) :
  Calls Tp 88 #[frV e i r d a n cap] w fun o w'=>o = rT (.string (gU e i r d n l))/\Bl w w':=by
 by_cases hv:vB e i r d n=true
 .obtain⟨_,_,hd0,_,_⟩:=cN hv;obtain⟨dn,rfl⟩:=Int.eq_ofNat_of_zero_le hd0;refine (pA w e i r dn a n cap l h hv).mono ?_;rintro o w' ⟨rfl,hb⟩;exact⟨cg (by simp[gU,hv]),hb⟩
 .have hv':vB e i r d n=false:=by simpa using hv
  have HZ:Hid (gU e i r d n l=⟨#[]⟩):=by simp[gU,hv',Hid]
  have HV:Hid (vB e i r d n=false):=hv';clear hv hv' h;go_enter Tryz.func88,Tryz.ntmps88;go_wp2_with (go_at_call 87;refine (ch _ e i r d a n cap).mono ?_;rw[HV.o];rintro o w1 ⟨rfl,hb1⟩);go_ret;exact⟨cg HZ.o.symm,qw.trans (hb1.mono pQ)⟩
def zz (e:Bool) (i:Nat) (r:Bool) (d:Int) (n:Nat):ByteArray:=if vB e i r d n=true then ae (eO e i r) else ⟨#[]⟩
def Jw (e:Bool) (i:Nat) (r:Bool):∀ x ∈ eO e i r,M.isL x:=fun x hx=>dI e i r 0 [] x (by unfold ag;simp[hx])
def gc (w:Wd) (B:Nat):aa w B (sL nn 0 0) []:=Q6 w B 5 1
def Hj (l:List Nat) (a b:Nat):(ae l).extract a b=ae ((l.drop a).take (b-a)):=by
 unfold ae;apply ByteArray.ext;simp[ByteArray.data_extract,List.map_drop,List.map_take]
def Hu (e:Bool) (i:Nat) (r:Bool) (d:Nat) (l:List Nat):((ag e i r d l).drop 1).take (if e=true then 32 else 13)=eO e i r:=by
 have hl:(eO e i r).length=if e=true then 32 else 13:=by cases e <;> simp[eO,M.DD]
 have hb:ag e i r d l=[48]++(eO e i r++(M.num 0 (1+e.toNat)++M.num d 4++l.flatMap (fun x=>M.num x 8))):=by simp[ag]
 rw[hb,<- hl];simp
def IA (w:Wd) (e:Bool) (i:Nat) (r:Bool) (d:Int) (a:Option Addr) (n cap:Nat) (l:List Nat) (h:iB w a n cap l) :
  Calls Tp 314 #[frV e i r d a n cap] w fun o w'=>o = rT (.string (zz e i r d n))/\Bl w w':=by
 have HH:Hid (iB w a n cap l):=h;have HW:Hid (Bl w (w.alloc (frC e i r d a n cap 47))/\(w.alloc (frC e i r d a n cap 47)).heap[w.heap.size]?=sQ (frC e i r d a n cap 47)):=⟨qw,QO w _⟩
 clear h;by_cases hv:vB e i r d n=true
 .have hi:=(cN hv).1;have HZ:Hid (zz e i r d n=ae (eO e i r)):=by simp[zz,hv,Hid]
  have HV:Hid (vB e i r d n=true):=hv;clear hv;go_enter Tryz.func314,Tryz.ntmps314;go_wp2_with fail;refine (dU _ e i r d a n cap l (HH.o.below HW.o.1)).mono ?_;rw[HV.o];rintro o w1 ⟨rfl,hb1⟩;have hB1:Bl w w1:=HW.o.1.trans (hb1.mono pQ);have hx1:=dH HW.o.2 hb1 pQ;have hz1:w.heap.size<w1.heap.size:=QY hx1;have hc1:=cn hx1;clear hb1 hx1;go_wp2_with fail;refine (mG _ w1.heap.size _ [] (gc w1 _) (nR _) pQ e i r d a n cap om).mono ?_;rintro o w2 ⟨v2,rfl,ho2,hb2,_⟩;rw[List.nil_append] at ho2;have hcv:=ik ho2 (iX (Jw e i r));generalize eO e i r=al at *;go_wp2;go_ret;exact⟨cg HZ.o.symm,hB1.trans (hb2.mono om)⟩
 .have hv':vB e i r d n=false:=by simpa using hv
  have HZ:Hid (zz e i r d n=⟨#[]⟩):=by simp[zz,hv',Hid]
  have HV:Hid (vB e i r d n=false):=hv';clear hv hv';go_enter Tryz.func314,Tryz.ntmps314;go_wp2_with (go_at_call 133;refine (dU _ e i r d a n cap l (HH.o.below HW.o.1)).mono ?_;rw[HV.o];rintro o w1 ⟨rfl,hb1⟩);go_ret;exact⟨cg HZ.o.symm,HW.o.1.trans (hb1.mono pQ)⟩
def Gl (w:Wd) (e:Bool) (i:Nat) (r:Bool) (d:Int) (a:Option Addr) (n cap:Nat) (l:List Nat) (h:iB w a n cap l) :
  Calls Tp 155 #[frV e i r d a n cap] w fun o w'=>o = rT (.string (zz e i r d n))/\Bl w w':=by
 have HH:Hid (iB w a n cap l):=h;have HW:Hid (Bl w (w.alloc (frC e i r d a n cap 47))/\(w.alloc (frC e i r d a n cap 47)).heap[w.heap.size]?=sQ (frC e i r d a n cap 47)):=⟨qw,QO w _⟩
 clear h;by_cases hv:vB e i r d n=true
 .have HZ:Hid (zz e i r d n=ae (eO e i r)):=by simp[zz,hv,Hid]
  have HBZ:Hid (gU e i r d n l=ae (ag e i r d.toNat l)):=by simp[gU,hv,Hid]
  have HV:Hid (vB e i r d n=true):=hv;clear hv;have hsz:(ae (ag e i r d.toNat l)).size=(if e=true then 39 else 19)+8*l.length:=by rw[aN,du]
  cases e
  .have h33:14<=(ae (ag false i r d.toNat l)).size:=by rw[hsz];simp;omega
   have HA:Hid ((ae (ag false i r d.toNat l)).extract 1 14=ae (eO false i r)):=by
    rw[Hj];exact congrArg ae (Hu false i r d.toNat l)
   clear hsz;generalize ae (ag false i r d.toNat l)=bs at *;go_enter Tryz.func155,Tryz.ntmps155;go_wp2_with fail;refine (ch _ _ i r d a n cap).mono ?_;rw[HV.o];rintro o w1 ⟨rfl,hb1⟩;have hB1:Bl w w1:=HW.o.1.trans (hb1.mono pQ);have hx1:=dH HW.o.2 hb1 pQ;have hz1:w.heap.size<w1.heap.size:=QY hx1;have HX1:Hid (w1.heap[w.heap.size]?=sQ (frC false i r d a n cap 47)):=hx1;have hc1:=cn hx1;clear hb1 hx1;go_wp2_with fail;refine (nU _ _ i r d a n cap l (HH.o.below hB1)).mono ?_;rw[HBZ.o];rintro o w2 ⟨rfl,hb2⟩;have hc2:=cn (dH HX1.o hb2 hz1);clear hc1;go_wp2;go_ret;exact⟨cg (by rw[HZ.o,HA.o]),hB1.trans (hb2.mono om)⟩
  .have h33:33<=(ae (ag true i r d.toNat l)).size:=by rw[hsz];simp;omega
   have HA:Hid ((ae (ag true i r d.toNat l)).extract 1 33=ae (eO true i r)):=by
    rw[Hj];exact congrArg ae (Hu true i r d.toNat l)
   clear hsz;generalize ae (ag true i r d.toNat l)=bs at *;go_enter Tryz.func155,Tryz.ntmps155;go_wp2_with fail;refine (ch _ _ i r d a n cap).mono ?_;rw[HV.o];rintro o w1 ⟨rfl,hb1⟩;have hB1:Bl w w1:=HW.o.1.trans (hb1.mono pQ);have hx1:=dH HW.o.2 hb1 pQ;have hz1:w.heap.size<w1.heap.size:=QY hx1;have HX1:Hid (w1.heap[w.heap.size]?=sQ (frC true i r d a n cap 47)):=hx1;have hc1:=cn hx1;clear hb1 hx1;go_wp2_with fail;refine (nU _ _ i r d a n cap l (HH.o.below hB1)).mono ?_;rw[HBZ.o];rintro o w2 ⟨rfl,hb2⟩;have hc2:=cn (dH HX1.o hb2 hz1);clear hc1;go_wp2;go_ret;exact⟨cg (by rw[HZ.o,HA.o]),hB1.trans (hb2.mono om)⟩
 .have hv':vB e i r d n=false:=by simpa using hv
  have HZ:Hid (zz e i r d n=⟨#[]⟩):=by simp[zz,hv',Hid]
  have HV:Hid (vB e i r d n=false):=hv';clear hv hv';go_enter Tryz.func155,Tryz.ntmps155;go_wp2_with (go_at_call 87;refine (ch _ e i r d a n cap).mono ?_;rw[HV.o];rintro o w1 ⟨rfl,hb1⟩);go_ret;exact⟨cg HZ.o.symm,HW.o.1.trans (hb1.mono pQ)⟩
variable {m:Int} {l:List Nat} {w:Wd} {B c:Nat} {v:Value}
namespace M
def dM (r b:Nat):Nat:=if b≠r / 16384 then ((2*r) % 32768) ^^^ 17817 else (2*r) % 32768
end M
namespace M
def i8 (l:List Nat):Nat:=l.foldl dM 0
end M
namespace M
def fW (r b:Nat):dM r b<32768:=by
 unfold dM;split
 .exact Nat.xor_lt_two_pow (n:=15) om (by decide)
 .omega
end M
namespace M
def BV (l:List Nat):i8 l<32768:=by
 unfold i8;rcases List.eq_nil_or_concat l with rfl|⟨a,b,rfl⟩
 .decide
 .rw[List.concat_eq_append,List.foldl_append];exact fW _ _
end M
namespace M
def xl (l:List Nat) (b:Nat):i8 (l++[b])=dM (i8 l) b:=by
 simp[i8,List.foldl_append]
end M
namespace M
def mb (l:List Nat) (j:Nat):Bool:=l.getD j 0 == 1
end M
namespace M
def BJ (k:Nat):Bool:=Nat.testBit 50585 (15-k)
end M
namespace M
def V (l:List Nat) (i j:Nat):Bool:=if j<i then false else mb l j ^^ (decide (j<i+15) && (i8 (l.take i)).testBit (14-(j-i)))
end M
namespace M
def rL (r k:Nat):((2*r) % 32768).testBit k=(decide (k<15) && decide (1<=k) && r.testBit (k-1)):=by
 rw[show (32768:Nat)=2 ^ 15 from rfl,Nat.testBit_mod_two_pow];cases k with
 | zero=>simp[Nat.testBit_zero]
 | succ k=>
  have:(2*r).testBit (k+1)=r.testBit k:=by rw[Nat.testBit_succ];congr 1;omega
  rw[this];simp
end M
namespace M
def yw (k:Nat) (h:k<15):Nat.testBit 17817 k=BJ (15-k):=by
 revert k h;decide
end M
namespace M
def AH (r:Nat) (h:r<32768):r.testBit 14=decide (r / 16384=1):=by
 rw[Nat.testBit_eq_decide_div_mod_eq];congr 1;have:r / 2 ^ 14 % 2=r / 16384:=by
  rw[show (2:Nat) ^ 14=16384 from rfl];omega
 rw[this]
end M
namespace M
def Ed (l:List Nat) (i:Nat) (hb:∀ x ∈ l,x<2) (hi:i<l.length):V l i i=decide (l[i]≠i8 (l.take i) / 16384):=by
 have hr:=BV (l.take i);have h1:l[i]<2:=hb _ (zh hi);have hg:l.getD i 0=l[i]:=by simp[List.getD,hi]
 simp only[V,Qf,if_false,Nat.sub_self,Nat.sub_zero,AH _ hr,mb,hg];generalize i8 (l.take i)=r at *;generalize l[i]=x at *;have:r / 16384<2:=om;generalize r / 16384=y at *;have hx:x=0\/x=1:=om;have hy:y=0\/y=1:=om;rcases hx with rfl | rfl <;> rcases hy with rfl | rfl <;> simp
end M
namespace M
def sr {α:Type} (l:List α) (i:Nat) (h:i<l.length):l.take (i+1)=l.take i++[l[i]]:=by
 rw[qg h]
end M
namespace M
def Ga (l:List Nat) (i j:Nat) (hb:∀ x ∈ l,x<2) (hi:i<l.length) :
  V l (i+1) j=(V l i j ^^ (V l i i && (decide (i<=j/\j<i+16) && BJ (j-i)))):=by
 have hs:=Ed l i hb hi;have hc:i8 (l.take (i+1))=dM (i8 (l.take i)) l[i]:=by rw[sr l i hi,xl]
 by_cases h1:j<i
 .have h2:j<i+1:=om;have h3:¬ i<=j:=om;simp[V,h1,h2,h3]
 .by_cases h2:j=i
  .subst h2;have hg:BJ 0=true:=by decide
   have hv:V l (j+1) j=false:=by simp[V]
   rw[hv];simp[hg]
  .have h3:¬ j<i+1:=om;have h4:i<=j:=om;rw[hs];by_cases h5:j<i+16
   .have h6:14-(j-(i+1))<15:=om;have e1:(decide (j<i+1+15))=true:=by simp;omega
    have hV1:V l (i+1) j=(mb l j ^^ (dM (i8 (l.take i)) l[i]).testBit (14-(j-(i+1)))):=by
     simp only[V,h3,if_false,e1,Bool.true_and,hc]
    have hpg:Nat.testBit 17817 (14-(j-(i+1)))=BJ (j-i):=by rw[yw _ h6];congr 1;omega
    have hV0:V l i j=(mb l j ^^ ((2*i8 (l.take i)) % 32768).testBit (14-(j-(i+1)))):=by
     rw[rL];simp only[V,h1,if_false];congr 1;by_cases h7:j<i+15
     .have a1:(14-(j-(i+1)))<15:=h6;have a2:1<=14-(j-(i+1)):=om;have a3:14-(j-(i+1))-1=14-(j-i):=om;simp only[h7,a1,a2,a3,decide_true,Bool.true_and]
     .have a2:¬ 1<=14-(j-(i+1)):=om;simp only[h7,a2,decide_false,Bool.and_false,Bool.false_and]
    rw[hV1,hV0];unfold dM;by_cases h8:l[i]≠i8 (l.take i) / 16384
    .simp only[zc h8,Nat.testBit_xor,hpg,h4,h5,decide_true,and_self,Bool.true_and,Bool.xor_assoc];simp[h8]
    .simp only[zb h8];simp[h8]
   .have e2:(decide (j<i+15))=false:=by simp;omega
    simp[V,h1,h3,e2,h5]
end M
namespace M
def Kl (l:List Nat) (j:Nat):V l 0 j=mb l j:=by simp[V,i8]
end M
namespace M
def Ge (l:List Nat) (k:Nat) (hk:k<15):V l l.length (l.length+k)=(i8 l).testBit (14-k):=by
 have h1:¬ l.length+k<l.length:=om;have h2:l.length+k<l.length+15:=om;have h3:l.length+k-l.length=k:=om;have h4:l.getD (l.length+k) 0=0:=by simp[List.getD]
 simp only[V,h1,if_false,mb,h4,h2,h3,decide_true,Bool.true_and,List.take_length];simp
end M
namespace M
def pk (r k:Nat):Nat:=r / 2 ^ (15-k)
end M
namespace M
def Ei (r:Nat) (h:r<32768):pk r 0=0:=by unfold pk;exact Nat.div_eq_of_lt h
end M
namespace M
def Ej (r k:Nat) (hk:k<15):pk r (k+1)=2*pk r k+(r.testBit (14-k)).toNat:=by
 unfold pk;have e:15-k=(14-k)+1:=om;have e':15-(k+1)=14-k:=om;rw[e,e',qI,<- qY,Nat.testBit_eq_decide_div_mod_eq];generalize r / 2 ^ (14-k)=y;by_cases h:y % 2=1
 .simp[h];omega
 .have:y % 2=0:=om;simp[this];omega
end M
namespace M
def Eu (r:Nat):pk r 15=r:=by simp[pk]
end M
namespace M
def FB (r k:Nat) (h:r<32768):pk r k<32768:=Qj (Nat.div_le_self _ _) h
end M
def okC (c:UInt8):Bool:=c == 48 || c == 49
def okT (s:ByteArray) (m:Int):Bool:=decide ((s.size:Int)<=m) && s.data.toList.all okC
def iS (s:ByteArray) (k:Nat) (h:k<s.size):s.data.toList.take (k+1)=s.data.toList.take k++[s[k]]:=by
 rw[qg (by simpa using h)];rfl
def pS {s:ByteArray} (h:¬ (s.size:Int)<=m):okT s m=false:=by simp[okT,h]
def uN {s:ByteArray} (h:(s.size:Int)<=m) (k:Nat) (hk:s.size<=k) (ha:(s.data.toList.take k).all okC=true):okT s m=true:=by
 rw[ze (by simpa using hk)] at ha;simp[okT,h,ha]
def uM {s:ByteArray} (k:Nat) (hk:k<s.size) (hb:okC s[k]=false):okT s m=false:=by
 have:s.data.toList.all okC=false:=by
  rw[List.all_eq_false];exact⟨s[k],by rw[Array.mem_toList_iff];exact Array.getElem_mem (xs:=s.data) (i:=k) hk,by simpa using hb⟩
 simp[okT,this]
def kv {s:ByteArray} {k:Nat} (hk:k<s.size) (ha:(s.data.toList.take k).all okC=true) (hc:okC s[k]=true):(s.data.toList.take (k+1)).all okC=true:=by
 rw[iS s k hk,List.all_append,ha];simp[hc]
def oe (c:UInt8) (h:(c.toNat:Int)=48\/(c.toNat:Int)=49):okC c=true:=by
 unfold okC;rcases h with h|h
 .have:c=48:=UInt8.toNat_inj.1 (by simpa using (by omega:c.toNat=48));simp[this]
 .have:c=49:=UInt8.toNat_inj.1 (by simpa using (by omega:c.toNat=49));simp[this]
def A4 (c:UInt8) (h:¬ (c.toNat:Int)=48) (h':¬ (c.toNat:Int)=49):okC c=false:=by
 unfold okC;have a:(c == 48)=false:=by
  rw[beq_eq_false_iff_ne];intro e;subst e;exact h rfl
 have b:(c == 49)=false:=by
  rw[beq_eq_false_iff_ne];intro e;subst e;exact h' rfl
 simp[a,b]
def kx {c:UInt8} (h:okC c=true):c.toNat=48\/c.toNat=49:=by
 unfold okC at h;simp at h;rcases h with h | h <;> subst h
 .exact .inl rfl
 .exact .inr rfl
def dD (s:ByteArray) (m:Int) (w:Wd) (hs:s.size<=maxLen) :
  Calls Tp 58 #[.string s,I J m] w fun e w'=>e = rT (bO (okT s m))/\w=w':=by
 unfold maxLen at hs;by_cases hm:(s.size:Int)<=m
 .go_enter Tryz.func58,Tryz.ntmps58;go_wp2;go_loop [5] (fun i=>∃ k:Nat,k<=s.size/\i = I J k/\(s.data.toList.take k).all okC=true) (fun i=>s.size-(intOf i).toNat)
  case atStart=>exact⟨0,nZ _,rfl,rfl⟩
  case round=>
   obtain⟨k,hk,rfl,ha⟩:=hrel;have HA:Hid ((s.data.toList.take k).all okC=true):=ha;clear ha;by_cases hlt:k<s.size
   .by_cases h0:(s[k].toNat:Int)=48
    .go_wp2;go_round
     case rel=>exact⟨k+1,om,by go_num,kv hlt HA.o (oe _ (.inl h0))⟩
     case measure=>simp[intOf];omega
    .by_cases h1:(s[k].toNat:Int)=49
     .go_wp2;go_round
      case rel=>exact⟨k+1,om,by go_num,kv hlt HA.o (oe _ (.inr h1))⟩
      case measure=>simp[intOf];omega
     .have hb:=uM (m:=m) k hlt (A4 _ h0 h1);have b0:((s[k].toNat:Int) != 48)=true:=by simpa using h0
      have b1:((s[k].toNat:Int) != 49)=true:=by simpa using h1
      have HB:Hid (okT s m=false):=hb;clear hb h0 h1;go_wp2;go_ret;exact⟨aj HB.o.symm,rfl⟩
   .go_wp2;go_ret;exact⟨aj (uN hm k om HA.o).symm,rfl⟩
 .go_enter Tryz.func58,Tryz.ntmps58;go_wp2;go_ret;exact⟨aj (pS om).symm,rfl⟩
def fT (n:Int) (h0:0<=n) (h1:n<2 ^ 62):IntKind.i64.wrap n=n:=by rw[QS];omega
def gK (n:Int) (h0:0<=n) (h1:n<2 ^ 62):bits .and .i64 n 32767=n % 32768:=
 bits_mask .i64 62 (by decide) fT 15 (by decide) n h0 h1
def eJ (a b:Nat) (ha:a<2 ^ 62) (hb:b<2 ^ 62):bits .xor .i64 (a:Int) (b:Int)=((a ^^^ b:Nat):Int):=
 by
 have hx:a ^^^ b<2 ^ 62:=Nat.xor_lt_two_pow ha hb;show IntKind.i64.wrap ((BitVec.ofInt 64 (a:Int) ^^^ BitVec.ofInt 64 (b:Int)).toNat:Int)=_;rw[BitVec.toNat_xor,ofInt_u64 a om,ofInt_u64 b om,fT _ om om]
def rN (r b:Nat) (h1:r<32768) (h:((b:Int) != (r:Int) / 16384)=true) :
  bits BinOp.xor IntKind.i64 (bits BinOp.and IntKind.i64 ((r:Int)*2) 32767) 17817=((M.dM r b:Nat):Int):=by
 have h':b≠r / 16384:=by
  intro e;rw[bne_iff_ne] at h;exact h om
 rw[gK _ om om];have e:((r:Int)*2) % 32768=((2*r % 32768:Nat):Int):=om;rw[e,show (17817:Int)=((17817:Nat):Int) from rfl,eJ _ _ om (by decide)];simp[M.dM,h']
def tV (r b:Nat) (h1:r<32768) (h:((b:Int) != (r:Int) / 16384)=false) :
  bits BinOp.and IntKind.i64 ((r:Int)*2) 32767=((M.dM r b:Nat):Int):=by
 have h':¬ b≠r / 16384:=by
  intro e;rw[bne_eq_false_iff_eq] at h;exact e om
 rw[gK _ om om];unfold M.dM;rw[zb h'];omega
def aH (r b:Nat) (w:Wd) (h1:r<32768) :
  Calls Tp 247 #[I J r,I J b] w fun e w'=>e = rT (I J (M.dM r b:Nat))/\w=w':=by
 go_enter Tryz.func247,Tryz.ntmps247;go_wp2
 .have hc:((b:Int) != (r:Int) / 16384)=true:=by assumption
  go_ret;exact⟨au (rN r b h1 hc),rfl⟩
 .have hc:((b:Int) != (r:Int) / 16384)=false:=by assumption
  go_ret;exact⟨au (tV r b h1 hc),rfl⟩
def bl (s:ByteArray):List Nat:=s.data.toList.map (fun c=>c.toNat-48)
def iE (s:ByteArray):(bl s).length=s.size:=by simp[bl]
def vk (s:ByteArray) (k:Nat) (h:k<s.size):(bl s).take (k+1)=(bl s).take k++[s[k].toNat-48]:=by
 unfold bl;rw[<- List.map_take,iS s k h];simp[List.map_take]
def gj {s:ByteArray} (h:okT s m=true):(s.size:Int)<=m:=by
 unfold okT at h;rw[qx,qW] at h;exact h.1
def kT {s:ByteArray} (h:okT s m=true) (k:Nat) (hk:k<s.size):s[k].toNat=48\/s[k].toNat=49:=by
 unfold okT at h;rw[qx] at h;exact kx (List.all_eq_true.1 h.2 _ (by rw[Array.mem_toList_iff];exact Array.getElem_mem (xs:=s.data) (i:=k) hk))
def Cf {s:ByteArray} (h:okT s m=true):∀ x ∈ bl s,x<2:=by
 intro x hx;unfold okT at h;rw[qx] at h;unfold bl at hx;rw[List.mem_map] at hx;obtain⟨c,hc,rfl⟩:=hx;have:=kx (List.all_eq_true.1 h.2 c hc);omega
def gL (s:ByteArray):Int:=if okT s 2000=true then (M.i8 (bl s):Nat) else -1
def aa.open (h:aa w B v l) (hl:l≠[]) :
  ∃ g cap,v = sL (some ⟨g,0,none⟩) l.length cap/\B<=g/\g<w.heap.size/\l.length<=cap/\cap<=maxLen/\cm w g l.length (fun t=>l.getD t 0):=by
 have h':=h;obtain⟨_,h1|⟨g,cap,cur,rfl,hb,hh,hc,hm,hsz,htk⟩⟩:=h
 .exact Qz (List.length_eq_zero_iff.1 h1.2) hl
 .refine⟨g,cap,rfl,hb,(QC h' g rfl).2,hc,hm,fun t ht=>?_,fun t ht=>?_⟩
  .rw[QZ h' t om,nt l t ht];simp[List.getD,ht]
  .exact QV h' t
def FR (j:Nat) (hj:j<16) (h:j<(ByteArray.mk #[49,49,48,48,48,49,48,49,49,48,48,49,49,48,48,49]).size):(((ByteArray.mk #[49,49,48,48,48,49,48,49,49,48,48,49,49,48,48,49])[j]'h).toNat:Int)=48+((M.BJ j).toNat:Int):=by
 have:∀ j:Fin 16,(((ByteArray.mk #[49,49,48,48,48,49,48,49,49,48,48,49,49,48,48,49])[j.val]'(j.isLt)).toNat:Int)=48+((M.BJ j.val).toNat:Int):=by decide
 exact this ⟨j,hj⟩
def xE (a b:Bool):bits BinOp.xor IntKind.u8 (a.toNat:Int) (b.toNat:Int)=((a ^^ b).toNat:Int):=by
 rw[u8_xor_nat _ _ (by cases a <;> decide) (by cases b <;> decide)];cases a <;> cases b <;> rfl
def xD (a:Bool) (j:Nat) (hj:j<16) (h:j<(ByteArray.mk #[49,49,48,48,48,49,48,49,49,48,48,49,49,48,48,49]).size) :
  bits BinOp.xor IntKind.u8 (a.toNat:Int) ((((ByteArray.mk #[49,49,48,48,48,49,48,49,49,48,48,49,49,48,48,49])[j]'h).toNat-48:Int) % 256)=((a ^^ M.BJ j).toNat:Int):=by
 rw[FR j hj h,<- xE];congr 1;have:(M.BJ j).toNat<2:=by cases M.BJ j <;> decide
 omega
def Fy (l:List Nat) (hb:∀ x ∈ l,x<2) (t:Nat) (_:t<(l++List.replicate 15 0).length):(l++List.replicate 15 0).getD t 0=(M.V l 0 t).toNat:=by
 rw[M.Kl];unfold M.mb;by_cases h:t<l.length
 .have hx:=hb l[t] (zh h);have e1:(l++List.replicate 15 0).getD t 0=l[t]:=by simp[List.getD,Qa h,h]
  have e2:l.getD t 0=l[t]:=by simp[List.getD,h]
  rw[e1,e2];generalize l[t]=x at *;have:x=0\/x=1:=om;rcases this with rfl | rfl <;> rfl
 .have e2:l.getD t 0=0:=by simp[List.getD,List.getElem?_eq_none (Nat.le_of_not_lt h)]
  have e1:(l++List.replicate 15 0).getD t 0=0:=by
   unfold List.getD;rw[qZ (Nat.le_of_not_lt h),List.getElem?_replicate];split <;> rfl
  rw[e1,e2];rfl
def sG (s:ByteArray) (w:Wd) (hs:s.size<=maxLen) (hk:okT s 2000=true) :
  Calls Tp 91 #[.string s] w fun e w'=>e = rT (I J (gL s))/\Bl w w':=by
  have hsz:=gj hk;go_enter Tryz.func91,Tryz.ntmps91;go_wp2_with (go_at_call 58;refine (dD _ _ _ hs).mono ?_;rintro e w1 ⟨rfl,rfl⟩);have HK:Hid (okT s 2000=true):=hk;clear hk;go_loopw [3,4] (fun v i wr=>∃ k:Nat,k<=s.size/\i = I J k/\aa wr w.heap.size v ((bl s).take k)/\Bl w wr/\w.heap.size<=wr.heap.size) (fun _ i _=>s.size-(intOf i).toNat);case atStart=>exact⟨0,nZ _,rfl,gB _ _ (nR _),qw,pQ⟩
  case round=>
   obtain⟨k,hk,rfl,hown,hbel,hz⟩:=hrel;by_cases hlt:k<s.size
   .have hv:=kT HK.o k hlt;have hll:((bl s).take k).length<=100000000:=by rw[qj,iE];omega
    have HS:Hid ((bl s).take (k+1)=(bl s).take k++[s[k].toNat-48]):=vk s k hlt;generalize (bl s).take k=l at *;rcases hv with hv|hv
    .have HS':Hid ((bl s).take (k+1)=l++[0]):=by rw[HS.o,hv];exact rfl
     clear HS;go_wp2_with (at_builtin;refine fE w wr rfl (.tmp 21) (.tmp 26) rfl w.heap.size _ l 0 _ rfl rfl hown rfl hll hz hbel ?_);intro v' w' hown' hbel' hz';clear hown hbel hz;go_wp2;go_roundw;case rel=>exact⟨k+1,om,by go_num,by rw[HS'.o];exact hown',hbel',hz'⟩
     case measure=>simp[intOf];omega
    .have HS':Hid ((bl s).take (k+1)=l++[1]):=by rw[HS.o,hv];exact rfl
     clear HS;go_wp2_with (at_builtin;refine fE w wr rfl (.tmp 21) (.tmp 26) rfl w.heap.size _ l 1 _ rfl rfl hown rfl hll hz hbel ?_);intro v' w' hown' hbel' hz';clear hown hbel hz;go_wp2;go_roundw;case rel=>exact⟨k+1,om,by go_num,by rw[HS'.o];exact hown',hbel',hz'⟩
     case measure=>simp[intOf];omega
   .have hke:(bl s).take k=bl s:=ze (by rw[iE];omega);rw[hke] at hown;have hbn:=iE s;clear hke;go_wp2;have hB0:∀ x ∈ bl s,x<2:=Cf HK.o;generalize hL:bl s=l at *;have HL:Hid (bl s=l):=hL;clear hL;go_loopw [3,5] (fun v i wr=>∃ j:Nat,j<=15/\i = I J j/\aa wr w.heap.size v (l++List.replicate j 0)/\Bl w wr/\w.heap.size<=wr.heap.size) (fun _ i _=>15-(intOf i).toNat);case atStart=>exact⟨0,nZ _,rfl,by simpa using hown,hbel,hz⟩
    case round=>
     clear hown hbel hz;obtain⟨j,hj,rfl,hown,hbel,hz⟩:=hrel;by_cases hlt:j<15
     .have hll:(l++List.replicate j 0).length<=100000000:=by rw[qe,List.length_replicate];omega
      have HS:Hid (l++List.replicate (j+1) 0=(l++List.replicate j 0)++[0]):=by rw[qp,List.replicate_succ'];exact rfl
      generalize l++List.replicate j 0=l' at *;go_wp2_with (at_builtin;refine fE w _ rfl (.tmp 32) (.tmp 33) rfl w.heap.size _ l' 0 _ rfl rfl hown rfl hll hz hbel ?_);intro v' w' hown' hbel' hz';clear hown hbel hz;go_wp2;go_roundw;case rel=>exact⟨j+1,om,by go_num,by rw[HS.o];exact hown',hbel',hz'⟩
      case measure=>simp[intOf];omega
     .have hj':j=15:=om;subst hj';have hown3:∃ g cap n,u3 = sL (some ⟨g,0,none⟩) n cap/\w.heap.size<=g/\g<wr.heap.size/\n<=cap/\cap<=maxLen/\l.length+15<=n/\n<=l.length+15/\cm wr g n (fun t=>(M.V l 0 t).toNat):=by
       obtain⟨g,cap,hv,h1,h2,h3,h4,h5⟩:=hown.open pQ;exact⟨g,cap,_,hv,h1,h2,h3,h4,pQ,pQ,h5.of (Fy l hB0)⟩
      clear hown;obtain⟨g,cap,n,rfl,hgB,hgz,hcap,hcm,hn1,hn2,hrow⟩:=hown3;unfold maxLen at hcm;have hbn1:l.length<=2000:=om;have HBN:Hid (l.length=s.size):=hbn;clear hbn;go_wp2;go_loopw [7,8] (fun i _ wr=>∃ k:Nat,k<=l.length/\i = I J k/\cm wr g n (fun t=>(M.V l k t).toNat)/\Bl w wr/\g<wr.heap.size) (fun i _ _=>l.length-(intOf i).toNat);case atStart=>exact⟨0,nZ _,rfl,hrow,hbel,hgz⟩
      case round=>
       clear hrow hbel hgz hz;obtain⟨i,hi,rfl,hrow,hbel,hgz⟩:=hrel;by_cases hil:i<l.length
       .have hc:=hrow.cell i om;have HST:Hid (∀ j,M.V l (i+1) j=(M.V l i j ^^ (M.V l i i && (decide (i<=j/\j<i+16) && M.BJ (j-i))))):=fun j=>M.Ga l i j hB0 hil;cases hb:M.V l i i
        .simp only[hb,Bool.toNat_false] at hc;have HB:Hid (M.V l i i=false):=hb;clear hb;go_wp2;go_roundw;case rel=>exact⟨i+1,om,by go_num,hrow.of (fun t _=>by rw[HST.o t,HB.o];simp),hbel,hgz⟩
         case measure=>simp[intOf];omega
        .simp only[hb,Bool.toNat_true] at hc;have HB:Hid (M.V l i i=true):=hb;clear hb;go_wp2;go_loopw [8] (fun jj wr=>∃ j:Nat,j<=16/\jj = I J j/\cm wr g n (fun t=>(M.V l i t ^^ (decide (i<=t/\t<i+j) && M.BJ (t-i))).toNat)/\Bl w wr/\g<wr.heap.size) (fun jj _=>16-(intOf jj).toNat);case atStart=>exact⟨0,nZ _,rfl,hrow.of (fun t _=>by rw[show decide (i<=t/\t<i+0)=false from qo om];simp),hbel,hgz⟩
         case round=>
          clear hrow hbel hgz hc;obtain⟨j,hj,rfl,hrow,hbel,hgz⟩:=hrel;by_cases hjl:j<16
          .have hc:=hrow.cell (i+j) om;have hf:=hrow.free (i+j) om;go_wp2;go_region;go_wp2;refine⟨⟨j+1,om,by go_num,hrow.set (i+j) om _ ?_ ?_,(hbel.setCell (by exact hgB) _).drew,by simpa using hgz⟩,by simp[intOf];omega⟩
           .rw[xD _ j hjl,show decide (i<=i+j/\i+j<i+(j+1))=true from qE om,show i+j-i=j from by omega];simp
           .intro t ht hne;have e:decide (i<=t/\t<i+j)=decide (i<=t/\t<i+(j+1)):=by
             rw[zg];simp;omega
            simp only[e]
          .have hj16:j=16:=om;subst hj16;have hrow':cm wr g n (fun t=>(M.V l (i+1) t).toNat):=hrow.of (fun t _=>by rw[HST.o t,HB.o];simp);clear hrow;go_wp2;go_roundw;case rel=>exact⟨i+1,om,by go_num,hrow',hbel,hgz⟩
           case measure=>simp[intOf];omega
       .have hil':i=l.length:=om;subst hil';have hr:=M.BV l;have HV:Hid (∀ k,k<15->M.V l l.length (l.length+k)=(M.i8 l).testBit (14-k)):=M.Ge l;have HZ:Hid (gL s=(M.i8 (bl s):Nat)):=by simp[gL,HK.o,Hid]
        go_wp2;go_loopw [9,10] (fun c i wr=>∃ q:Nat,q<=15/\i = I J ((l.length+q:Nat):Int)/\c = I J ((M.pk (M.i8 l) q:Nat):Int)/\cm wr g n (fun t=>(M.V l l.length t).toNat)/\Bl w wr/\g<wr.heap.size) (fun _ i _=>l.length+15-(intOf i).toNat);case atStart=>exact⟨0,om,by go_num,by rw[M.Ei _ hr];rfl,hrow,hbel,hgz⟩
        case round=>
         clear hrow hbel hgz;obtain⟨q,hq,rfl,rfl,hrow,hbel,hgz⟩:=hrel;have htp:=M.FB (M.i8 l) q hr;by_cases hql:q<15
         .have hc:=hrow.cell (l.length+q) om;rw[HV.o q hql] at hc;have HT:Hid (M.pk (M.i8 l) (q+1)=2*M.pk (M.i8 l) q+((M.i8 l).testBit (14-q)).toNat):=M.Ej _ q hql;have hbb:((M.i8 l).testBit (14-q)).toNat<2:=by cases (M.i8 l).testBit (14-q) <;> decide
          generalize ((M.i8 l).testBit (14-q)).toNat=y at *;generalize hx:M.pk (M.i8 l) q=x at *;clear hx;go_wp2;go_roundw;case rel=>exact⟨q+1,om,by go_num,by rw[HT.o];go_num,hrow,hbel,hgz⟩
          case measure=>simp[intOf];omega
         .have hq':q=15:=om;subst hq';rw[M.Eu] at htp ⊢;go_wp2;go_ret;exact⟨au (by rw[HZ.o,HL.o]),hbel⟩
def jX (s:ByteArray) (w:Wd) (hs:s.size<=maxLen) :
  Calls Tp 91 #[.string s] w fun e w'=>e = rT (I J (gL s))/\Bl w w':=by
 by_cases hk:okT s 2000=true
 .exact sG s w hs hk
 .have hk':okT s 2000=false:=by simpa using hk
  have HZ:Hid (gL s = -1):=by simp[gL,hk',Hid]
  clear hk;go_enter Tryz.func91,Tryz.ntmps91;go_wp2_with (go_at_call 58;refine (dD _ _ _ hs).mono ?_;rintro e w1 ⟨rfl,rfl⟩);go_ret;exact⟨au HZ.o.symm,bW _ _⟩
def cW (f:Nat->Nat) (i:Nat):Bool:=
 decide (5<=i) && (f (i-1) == f (i-2) && f (i-2) == f (i-3) && f (i-3) == f (i-4) && f (i-4) == f (i-5))
def fN (w:Wd) (g n cap i:Nat) (f:Nat->Nat) (hrow:cm w g n f) (hi:i<=n) (hn:n<=100000000) :
  Calls Tp 158 #[sL (some ⟨g,0,none⟩) n cap,I J i] w fun e w'=>e = rT (bO (cW f i))/\∃ q,w'=w.drewN q:=by
 by_cases h5:i<5
 .have HD:Hid (cW f i=false):=by simp[cW,Hid];omega
  go_enter Tryz.func158,Tryz.ntmps158;go_wp2;go_ret;exact⟨aj HD.o.symm,0,rfl⟩
 .obtain⟨k,rfl⟩ : ∃ k,i=k+5:=⟨i-5,om⟩
  have c1:=hrow.cell (k+4) om;have c2:=hrow.cell (k+3) om;have c3:=hrow.cell (k+2) om;have c4:=hrow.cell (k+1) om;have c5:=hrow.cell k om;have HD:Hid (cW f (k+5)=(f (k+4) == f (k+3) && f (k+3) == f (k+2) && f (k+2) == f (k+1) && f (k+1) == f k)):=by
   simp[cW,Hid]
  generalize f (k+4)=x1 at *;generalize f (k+3)=x2 at *;generalize f (k+2)=x3 at *;generalize f (k+1)=x4 at *;generalize f k=x5 at *;clear hrow;by_cases e1:x1=x2
  .have b1:((x1:Int) == (x2:Int))=true:=by simp;omega
   have E1:Hid (x1=x2):=e1;clear e1;by_cases e2:x2=x3
   .have b2:((x2:Int) == (x3:Int))=true:=by simp;omega
    have E2:Hid (x2=x3):=e2;clear e2;by_cases e3:x3=x4
    .have b3:((x3:Int) == (x4:Int))=true:=by simp;omega
     have E3:Hid (x3=x4):=e3;clear e3;by_cases e4:x4=x5
     .have b4:((x4:Int) == (x5:Int))=true:=by simp;omega
      have E4:Hid (x4=x5):=e4;clear e4;go_enter Tryz.func158,Tryz.ntmps158;go_wp2;go_quiet (fail);go_wp2;go_ret;exact⟨aj (by rw[HD.o];simp[E1.o,E2.o,E3.o,E4.o]),_,rfl⟩
     .have b4:((x4:Int) == (x5:Int))=false:=by simp;omega
      have E4:Hid (¬ x4=x5):=e4;clear e4;go_enter Tryz.func158,Tryz.ntmps158;go_wp2;go_quiet (fail);go_wp2;go_ret;exact⟨aj (by rw[HD.o];simp[E4.o]),_,rfl⟩
    .have b3:((x3:Int) == (x4:Int))=false:=by simp;omega
     have E3:Hid (¬ x3=x4):=e3;clear e3;go_enter Tryz.func158,Tryz.ntmps158;go_wp2;go_quiet (fail);go_wp2;go_ret;exact⟨aj (by rw[HD.o];simp[E3.o]),_,rfl⟩
   .have b2:((x2:Int) == (x3:Int))=false:=by simp;omega
    have E2:Hid (¬ x2=x3):=e2;clear e2;go_enter Tryz.func158,Tryz.ntmps158;go_wp2;go_quiet (fail);go_wp2;go_ret;exact⟨aj (by rw[HD.o];simp[E2.o]),_,rfl⟩
  .have b1:((x1:Int) == (x2:Int))=false:=by simp;omega
   have E1:Hid (¬ x1=x2):=e1;clear e1;go_enter Tryz.func158,Tryz.ntmps158;go_wp2;go_quiet (fail);go_wp2;go_ret;exact⟨aj (by rw[HD.o];simp[E1.o]),_,rfl⟩
namespace M
def C0 (r:Nat × Nat) (c:Nat):Nat × Nat:=if c=r.1 then (r.1,r.2+1) else (c,1)
end M
namespace M
def eP (l:List Nat):Nat × Nat:=l.foldl C0 (0,0)
end M
namespace M
def kL (out:List Nat) (c:Nat):List Nat:=if (eP (out++[c])).2=5 then out++[c]++[97-c] else out++[c]
end M
namespace M
def fP (l:List Nat):List Nat:=l.foldl kL []
end M
namespace M
def de (l:List Nat) (c:Nat):eP (l++[c])=C0 (eP l) c:=by simp[eP]
end M
namespace M
def Gg (l:List Nat) (c:Nat):fP (l++[c])=kL (fP l) c:=by simp[fP]
end M
namespace M
def rv (r:Nat × Nat) (c:Nat):(C0 r c).1=c:=by
 unfold C0;split
 .rename_i h;exact h.symm
 .rfl
end M
namespace M
def zB (r:Nat × Nat) (c:Nat):1<=(C0 r c).2:=by
 unfold C0;split
 .exact Nat.succ_le_succ (nZ _)
 .exact nR _
end M
namespace M
def vd (r:Nat × Nat) (c:Nat):(C0 r c).2<=r.2+1:=by
 unfold C0;split
 .exact nR _
 .exact Nat.succ_le_succ (nZ _)
end M
namespace M
def sI {α:Type} (l:List α) (h:l≠[]):∃ l' a,l=l'++[a]:=by
 rcases List.eq_nil_or_concat l with e|⟨a,b,e⟩
 .exact Qz e h
 .exact⟨a,b,by rw[e,List.concat_eq_append]⟩
end M
namespace M
def jf {α:Type} {P:List α->Prop} (h0:P []) (h1:∀ l a,P l->P (l++[a])) (l:List α):P l:=by
 have:∀ n,∀ l:List α,l.length=n->P l:=by
  intro n;induction n with
  | zero=>intro l hl;rw[List.length_eq_zero_iff.1 hl];exact h0
  | succ n ih=>
   intro l hl;obtain⟨l',a,rfl⟩:=sI l (by intro e;simp[e] at hl);exact h1 l' a (ih l' (by simpa using hl))
 exact this _ l rfl
end M
namespace M
def Et (l:List Nat):(eP l).2<=l.length:=by
 induction l using jf with
 | h0=>exact nR _
 | h1 l a ih=>rw[de,qe];exact nT (vd _ _) (by simpa using ih)
end M
namespace M
def iC (a m:Nat):C0 (a,m) a=(a,m+1):=by simp[C0]
end M
namespace M
def fD (a m b:Nat) (h:¬ b=a):C0 (a,m) b=(b,1):=by simp[C0,h]
end M
namespace M
def FG (l:List Nat) (a b c d e:Nat):(5<=(eP (l++[a]++[b]++[c]++[d]++[e])).2)↔(e=d/\d=c/\c=b/\b=a):=by
 simp only[de];have h1:=rv (eP l) a;have h2:=zB (eP l) a;generalize C0 (eP l) a=r at *;obtain⟨x,m⟩:=r;simp only at h1 h2;subst h1;by_cases hb:b=x
 .subst hb;rw[iC];by_cases hc:c=b
  .subst hc;rw[iC];by_cases hd:d=c
   .subst hd;rw[iC];by_cases he:e=d
    .subst he;rw[iC];simp;omega
    .rw[fD _ _ _ he];simp[he]
   .rw[fD _ _ _ hd];have:=vd (d,1) e;simp[hd];simp at this;omega
  .rw[fD _ _ _ hc];have h3:=vd (c,1) d;have h4:=vd (C0 (c,1) d) e;simp[hc];simp at h3;omega
 .rw[fD _ _ _ hb];have h2:=vd (b,1) c;have h3:=vd (C0 (b,1) c) d;have h4:=vd (C0 (C0 (b,1) c) d) e;simp[hb];simp at h2;omega
end M
namespace M
def uV (h:isL c):isL (97-c)/\¬ 97-c=c:=by
 rcases h with rfl|rfl
 .exact⟨.inr rfl,by decide⟩
 .exact⟨.inl rfl,by decide⟩
end M
namespace M
def Em (l:List Nat) (h:∀ x ∈ l,isL x):∀ x ∈ fP l,isL x:=by
 induction l using jf with
 | h0=>intro x hx;simp[fP] at hx
 | h1 l a ih=>
  have ha:isL a:=h a pQ;have hl:=ih (fun x hx=>h x (by simp[hx]));rw[Gg];intro x hx;unfold kL at hx;split at hx
  .simp at hx;rcases hx with hx|rfl|rfl
   .exact hl x hx
   .exact ha
   .exact (uV ha).1
  .simp at hx;rcases hx with hx|rfl
   .exact hl x hx
   .exact ha
end M
namespace M
def Ek (l:List Nat) (h:∀ x ∈ l,isL x):(eP (fP l)).2<=4:=by
 induction l using jf with
 | h0=>decide
 | h1 l a ih=>
  have ha:isL a:=h a pQ;have hl:=ih (fun x hx=>h x (by simp[hx]));rw[Gg];unfold kL;rw[de];have h1:=vd (eP (fP l)) a;split
  .rename_i h5;rw[de,de];have hf:=rv (eP (fP l)) a;generalize C0 (eP (fP l)) a=r at *;obtain⟨x,m⟩:=r;simp only at hf;subst hf;rw[fD _ _ _ (uV ha).2];exact (by decide:1<=4)
  .rw[de];omega
end M
namespace M
def El (l:List Nat):(fP l).length<=2*l.length:=by
 induction l using jf with
 | h0=>decide
 | h1 l a ih=>
  rw[Gg];unfold kL;split <;> simp <;> omega
end M
def lt (s:ByteArray):List Nat:=s.data.toList.map UInt8.toNat
def ba (s:ByteArray):(lt s).length=s.size:=by simp[lt]
def Iw (s:ByteArray) (k:Nat) (h:k<s.size):(lt s).take (k+1)=(lt s).take k++[s[k].toNat]:=by
 unfold lt;rw[<- List.map_take,iS s k h];simp[List.map_take]
def gC {s:ByteArray} (h:okT s m=true):∀ x ∈ lt s,M.isL x:=by
 intro x hx;unfold okT at h;rw[qx] at h;unfold lt at hx;rw[List.mem_map] at hx;obtain⟨c,hc,rfl⟩:=hx;exact kx (List.all_eq_true.1 h.2 c hc)
def bU (l:List Nat) (a j:Nat) (h:j<l.length):(l++[a]).getD j 0=l.getD j 0:=by simp[List.getD,Qa h]
def fp (l:List Nat) (a j:Nat) (h:j=l.length):(l++[a]).getD j 0=a:=by subst h;simp[List.getD]
def xi (l:List Nat):cW (fun t=>l.getD t 0) l.length=decide (5<=(M.eP l).2):=by
 by_cases h5:5<=l.length
 .have ne:∀ l:List Nat,1<=l.length->l≠[]:=by intro l h e;simp[e] at h
  obtain⟨l1,e,rfl⟩:=M.sI l (ne _ om);simp only[qe,qm] at h5;obtain⟨l2,d,rfl⟩:=M.sI l1 (ne _ om);simp only[qe,qm] at h5;obtain⟨l3,c,rfl⟩:=M.sI l2 (ne _ om);simp only[qe,qm] at h5;obtain⟨l4,b,rfl⟩:=M.sI l3 (ne _ om);simp only[qe,qm] at h5;obtain⟨l5,a,rfl⟩:=M.sI l4 (ne _ om);rw[zg,qW,M.FG];simp only[cW,qe,qm];have g1:(l5++[a]++[b]++[c]++[d]++[e]).getD (l5.length+1+1+1+1+1-1) 0=e:=fp _ _ _ pQ;have g2:(l5++[a]++[b]++[c]++[d]++[e]).getD (l5.length+1+1+1+1+1-2) 0=d:=by
   rw[bU _ _ _ pQ];exact fp _ _ _ pQ
  have g3:(l5++[a]++[b]++[c]++[d]++[e]).getD (l5.length+1+1+1+1+1-3) 0=c:=by
   rw[bU _ _ _ pQ,bU _ _ _ pQ];exact fp _ _ _ pQ
  have g4:(l5++[a]++[b]++[c]++[d]++[e]).getD (l5.length+1+1+1+1+1-4) 0=b:=by
   rw[bU _ _ _ pQ,bU _ _ _ pQ,bU _ _ _ pQ];exact fp _ _ _ pQ
  have g5:(l5++[a]++[b]++[c]++[d]++[e]).getD (l5.length+1+1+1+1+1-5) 0=a:=by
   rw[bU _ _ _ pQ,bU _ _ _ pQ,bU _ _ _ pQ,bU _ _ _ pQ];exact fp _ _ _ pQ
  rw[g1,g2,g3,g4,g5];simp[and_assoc]
 .have:=M.Et l;rw[zg,qW];simp[cW];omega
def vZ (c:Nat) (w:Wd) (h:M.isL c) :
  Calls Tp 159 #[I .u8 c] w fun e w'=>e = rT (I .u8 ((97-c:Nat):Int))/\w=w':=by
 rcases h with rfl|rfl
 .go_enter Tryz.func159,Tryz.ntmps159;go_wp2;go_ret;exact⟨rfl,rfl⟩
 .go_enter Tryz.func159,Tryz.ntmps159;go_wp2;go_ret;exact⟨rfl,rfl⟩
def dy (s:ByteArray):ByteArray:=if okT s 2000=true then ae (M.fP (lt s)) else ⟨#[]⟩
def sF (hr:(M.eP l).2<=4):decide (5<=(M.eP (l++[c])).2)=decide ((M.eP (l++[c])).2=5):=by
 have:=M.vd (M.eP l) c;rw[M.de];rw[zg];simp;omega
def nP (s:ByteArray) (w:Wd) (hs:s.size<=maxLen) (hk:okT s 2000=true) :
  Calls Tp 89 #[.string s] w fun e w'=>e = rT (.string (dy s))/\Bl w w':=by
  have hsz:=gj hk;go_enter Tryz.func89,Tryz.ntmps89;go_wp2_with (go_at_call 58;refine (dD _ _ _ hs).mono ?_;rintro e w1 ⟨rfl,rfl⟩);have HK:Hid (okT s 2000=true):=hk;clear hk;go_loopw [3,4] (fun v i wr=>∃ k:Nat,k<=s.size/\i = I J k/\aa wr w.heap.size v (M.fP ((lt s).take k))/\Bl w wr/\w.heap.size<=wr.heap.size) (fun _ i _=>s.size-(intOf i).toNat);case atStart=>exact⟨0,nZ _,rfl,gB _ _ (nR _),qw,pQ⟩
  case round=>
   obtain⟨k,hk,rfl,hown,hbel,hz⟩:=hrel;by_cases hlt:k<s.size
   .have hv:M.isL s[k].toNat:=kT HK.o k hlt;have hL:∀ x ∈ (lt s).take k,M.isL x:=fun x hx=>gC HK.o x (qL hx);have hrun:=M.Ek _ hL;have hll:(M.fP ((lt s).take k)).length<=4000:=by
     have:=M.El ((lt s).take k);rw[qj,ba] at this;omega
    have HS:Hid (M.fP ((lt s).take (k+1))=M.kL (M.fP ((lt s).take k)) s[k].toNat):=by rw[Iw s k hlt,M.Gg];exact rfl
    clear hL;generalize M.fP ((lt s).take k)=l at *;go_wp2_with (at_builtin;refine fE w wr rfl (.tmp 15) (.tmp 19) rfl w.heap.size _ l s[k].toNat _ rfl rfl hown rfl om hz hbel ?_);intro v1 w1 hown1 hbel1 hz1;clear hown hbel hz;obtain⟨g,cap,hv1,hgB,hgz,hcap,hcm,hrow⟩:=hown1.open pQ;subst hv1;have hdt:=xi (l++[s[k].toNat]);rw[sF hrun] at hdt;have hle:(l++[s[k].toNat]).length<=4001:=by simp;omega
    unfold M.kL at HS;generalize hl1:l++[s[k].toNat]=l1 at *;have HD:Hid (cW (fun t=>l1.getD t 0) l1.length=decide ((M.eP l1).2=5)):=hdt;clear hdt hl1;by_cases h5:(M.eP l1).2=5
    .rw[zc h5] at HS;have HD':Hid (cW (fun t=>l1.getD t 0) l1.length=true):=by rw[HD.o,h5];exact rfl
     clear HD h5 hrun;go_wp2_with (go_at_call 158;refine (fN _ g l1.length cap l1.length _ hrow (nR _) om).mono ?_;rw[HD'.o];rintro e w2 ⟨rfl,q,rfl⟩);have hown2:=hown1.drewN q;have hbel2:=QR hbel1 q;have hz2:w.heap.size<=(w1.drewN q).heap.size:=by simpa using hz1
     refine (vZ _ _ hv).mono ?_;rintro e w2 ⟨rfl,rfl⟩;clear hown1 hbel1 hz1 hrow;go_wp2_with (at_builtin;refine fE w (w1.drewN q) rfl (.tmp 25) (.tmp 30) rfl w.heap.size _ l1 (97-s[k].toNat) _ rfl rfl hown2 rfl om hz2 hbel2 ?_);intro v3 w3 hown3 hbel3 hz3;clear hown2 hbel2 hz2;go_wp2;go_roundw;case rel=>exact⟨k+1,om,by go_num,by rw[HS.o];exact hown3,hbel3,hz3⟩
     case measure=>simp[intOf];omega
    .rw[zb h5] at HS;have HD':Hid (cW (fun t=>l1.getD t 0) l1.length=false):=by rw[HD.o];exact qo h5
     clear HD h5 hrun;go_wp2_with (go_at_call 158;refine (fN _ g l1.length cap l1.length _ hrow (nR _) om).mono ?_;rw[HD'.o];rintro e w2 ⟨rfl,q,rfl⟩);go_roundw;case rel=>exact⟨k+1,om,by go_num,by rw[HS.o];exact hown1.drewN q,QR hbel1 q,by simpa using hz1⟩
     case measure=>simp[intOf];omega
   .have hke:(lt s).take k=lt s:=ze (by rw[ba];omega);rw[hke] at hown;have hcv:=ik hown (iX (M.Em _ (gC HK.o)));have HZ:Hid (dy s=ae (M.fP (lt s))):=by simp[dy,HK.o,Hid]
    generalize M.fP (lt s)=l at *;clear hke;go_wp2;go_ret;exact⟨cg HZ.o.symm,hbel⟩
def lS (s:ByteArray) (w:Wd) (hs:s.size<=maxLen) :
  Calls Tp 89 #[.string s] w fun e w'=>e = rT (.string (dy s))/\Bl w w':=by
 by_cases hk:okT s 2000=true
 .exact nP s w hs hk
 .have hk':okT s 2000=false:=by simpa using hk
  have HZ:Hid (dy s=⟨#[]⟩):=by simp[dy,hk',Hid]
  clear hk;go_enter Tryz.func89,Tryz.ntmps89;go_wp2_with (go_at_call 58;refine (dD _ _ _ hs).mono ?_;rintro e w1 ⟨rfl,rfl⟩);go_ret;exact⟨cg HZ.o.symm,bW _ _⟩
def aa.otherBlock {w':Wd} (h:aa w B v l) (hk:∀ g,v.ownBlock=some g->w'.heap[g]?=w.heap[g]?):aa w' B v l:=by
 obtain⟨h1,h2|⟨g,cap,cur,rfl,hb,hh,rest⟩⟩:=h
 .exact⟨h1,.inl h2⟩
 .exact⟨h1,.inr ⟨g,cap,cur,rfl,hb,(hk g rfl).trans hh,rest⟩⟩
def ix (l:List Nat) (h:∀ x ∈ l,x<256):lt (ae l)=l:=by
 unfold lt ae;simp only[List.map_map];conv=>rhs;rw[<- List.map_id l]
 apply Qn;intro x hx;have:=h x hx;simp;omega
def Ce (l:List Nat) (h:∀ x ∈ l,x<256):bl (ae l)=l.map (fun x=>x-48):=by
 have:bl (ae l)=(lt (ae l)).map (fun x=>x-48):=by unfold bl lt;simp
 rw[this,ix l h]
def kS (l:List Nat) (m:Int) (h:∀ x ∈ l,M.isL x) (hm:(l.length:Int)<=m):okT (ae l) m=true:=by
 unfold okT;rw[qx,qW,aN];refine⟨hm,?_⟩;rw[Qc];intro c hc;unfold ae at hc;simp at hc;obtain⟨x,hx,rfl⟩:=hc;rcases h x hx with rfl | rfl <;> rfl
def jV (l:List Nat) (h:∀ x ∈ l,M.isL x) (hm:l.length<=2000):dy (ae l)=ae (M.fP l):=by
 unfold dy;rw[zc (kS l 2000 h om),ix l (iX h)]
def jN (l:List Nat) (h:∀ x ∈ l,M.isL x) (hm:l.length<=2000):gL (ae l)=((M.i8 (l.map (fun x=>x-48)):Nat):Int):=by
 unfold gL;rw[zc (kS l 2000 h om),Ce l (iX h)]
def ab (e:Bool) (i:Nat) (r:Bool) (d:Nat) (l:List Nat):List Nat:=
 ag e i r d l++M.num (M.i8 ((ag e i r d l).map (fun x=>x-48))) 15
def eV (e:Bool) (i:Nat) (r:Bool) (d:Int) (n:Nat) (l:List Nat):ByteArray:=
 if vB e i r d n=true then ae (M.fP (ab e i r d.toNat l)++List.replicate 10 49) else ⟨#[]⟩
def cQ (e:Bool) (i:Nat) (r:Bool) (d:Nat) (l:List Nat):∀ x ∈ ab e i r d l,M.isL x:=by
 intro x hx;unfold ab at hx;rw[qC] at hx;rcases hx with hx|hx
 .exact dI e i r d l x hx
 .exact M.FD _ _ x hx
def ew (e:Bool) (i:Nat) (r:Bool) (d:Nat) (l:List Nat):(ab e i r d l).length=(if e=true then 54 else 34)+8*l.length:=by
 unfold ab;rw[qe,du,M.DD];cases e <;> simp <;> omega
def Ba (v:Nat) (w:Wd) (hv:v<4611686018427387904):Calls Tp 90 #[I J (v:Int),I J 15] w fun o w'=>o = rT (.string (ae (M.num v 15)))/\w=w':=og 15 v w om hv
def AK (s:ByteArray):s++{ data:=#[49] }++{ data:=#[49] }++{ data:=#[49] }++{ data:=#[49,49,49,49,49,49,49] }=s++ae (List.replicate 10 49):=by
 apply ByteArray.ext;simp[ae]
def kM (w:Wd) (e:Bool) (i:Nat) (r:Bool) (d:Int) (a:Option Addr) (n cap:Nat) (l:List Nat) (h:iB w a n cap l) :
  Calls Tp 44 #[frV e i r d a n cap] w fun o w'=>o = rT (.string (eV e i r d n l))/\Bl w w':=by
 have HH:Hid (iB w a n cap l):=h;have HW:Hid (Bl w (w.alloc (frC e i r d a n cap 47))/\(w.alloc (frC e i r d a n cap 47)).heap[w.heap.size]?=some (frC e i r d a n cap 47)):=⟨qw,QO w _⟩
 have hlen:=h.len;clear h;by_cases hv:vB e i r d n=true
 .have hn8:=(cN hv).2.2.2.2;have HZ:Hid (eV e i r d n l=ae (M.fP (ab e i r d.toNat l)++List.replicate 10 49)):=by simp[eV,hv,Hid]
  have HBZ:Hid (gU e i r d n l=ae (ag e i r d.toNat l)):=by simp[gU,hv,Hid]
  have HV:Hid (vB e i r d n=true):=hv;have hbl:=du e i r d.toNat l;have hbl':(ag e i r d.toNat l).length<=200:=by rw[hbl];split <;> omega
  have HC:Hid (gL (ae (ag e i r d.toNat l))=((M.i8 ((ag e i r d.toNat l).map (fun x=>x-48)):Nat):Int)):=jN _ (dI _ _ _ _ _) om;have hc:=M.BV ((ag e i r d.toNat l).map (fun x=>x-48));have HP:Hid (ae (ag e i r d.toNat l)++ae (M.num (M.i8 ((ag e i r d.toNat l).map (fun x=>x-48))) 15)=ae (ab e i r d.toNat l)):=by rw[bQ];exact rfl
  have hpl:=ew e i r d.toNat l;have hpl':(ab e i r d.toNat l).length<=200:=by rw[hpl];split <;> omega
  have HS:Hid (dy (ae (ab e i r d.toNat l))=ae (M.fP (ab e i r d.toNat l))):=jV _ (cQ _ _ _ _ _) om;have hst:(ae (M.fP (ab e i r d.toNat l))).size<=400:=by rw[aN];have:=M.El (ab e i r d.toNat l);omega
  have HT:Hid (ae (M.fP (ab e i r d.toNat l))++ae (List.replicate 10 49)=ae (M.fP (ab e i r d.toNat l)++List.replicate 10 49)):=bQ _ _;have hbs:(ae (ag e i r d.toNat l)).size<=200:=by rw[aN];exact hbl'
  have hps:(ae (ab e i r d.toNat l)).size<=200:=by rw[aN];exact hpl'
  clear hv hbl hbl' hpl hpl' hlen;generalize M.i8 ((ag e i r d.toNat l).map (fun x=>x-48))=c at *;generalize ae (M.fP (ab e i r d.toNat l))=ss at *;generalize ae (ab e i r d.toNat l)=ps at *;generalize ae (ag e i r d.toNat l)=bs at *;go_enter Tryz.func44,Tryz.ntmps44;go_wp2_with fail;refine (ch _ e i r d a n cap).mono ?_;rw[HV.o];rintro o w1 ⟨rfl,hb1⟩;have hB1:Bl w w1:=HW.o.1.trans (hb1.mono pQ);have hx1:=dH HW.o.2 hb1 pQ;have hc1:=cn hx1;clear hb1 hx1;go_wp2_with fail;refine (nU _ e i r d a n cap l (HH.o.below hB1)).mono ?_;rw[HBZ.o];rintro o w2 ⟨rfl,hb2⟩;have hB2:=hB1.trans (hb2.mono hB1.size);clear hb2 hB1 hc1;go_wp2_with fail;refine (jX _ _ (by unfold maxLen;omega)).mono ?_;rw[HC.o];rintro o w3 ⟨rfl,hb3⟩;have hB3:=hB2.trans (hb3.mono hB2.size);clear hb3 hB2;have hs15:(ae (M.num c 15)).size<=15:=by rw[aN,M.DD];omega
  go_wp2_with fail;refine (Ba c _ om).mono ?_;rintro o w4 ⟨rfl,rfl⟩;go_wp2_with fail;rw[HP.o];refine (lS _ _ (by unfold maxLen;omega)).mono ?_;rw[HS.o];rintro o w5 ⟨rfl,hb5⟩;have hB5:=hB3.trans (hb5.mono hB3.size);go_wp2;go_ret;exact⟨cg (by rw[HZ.o,<- HT.o,<- AK]),hB5⟩
 .have hv':vB e i r d n=false:=by simpa using hv
  have HZ:Hid (eV e i r d n l=⟨#[]⟩):=by simp[eV,hv',Hid]
  have HV:Hid (vB e i r d n=false):=hv';clear hv hv' hlen;go_enter Tryz.func44,Tryz.ntmps44;go_wp2_with (go_at_call 87;refine (ch _ e i r d a n cap).mono ?_;rw[HV.o];rintro o w1 ⟨rfl,hb1⟩);go_ret;exact⟨cg HZ.o.symm,HW.o.1.trans (hb1.mono pQ)⟩
structure Wk where
 field:Nat
 taken:Nat
 last:Nat × Nat
 sum:Nat
 crc:Nat
 ext:Bool
 id:Nat
 rtr:Bool
 dlc:Nat
 data:List Nat
 code:Nat
namespace Wk
def due (k:Wk):Bool:=decide (k.field<=11) && decide (k.last.2=5)
end Wk
namespace Wk
def crcOk (k:Wk):Bool:=decide (10<k.field) && decide (k.crc=k.sum)
end Wk
namespace Wk
def form (good:Bool):Nat:=if good=true then 0 else 4
end Wk
namespace Wk
def eofCode (k:Wk) (bit:Nat):Nat:=
 if k.field=14/\k.taken=6 then (if bit=0 then 6 else 2)
 else if k.field=14/\k.taken=5/\bit=1 then 1 else form (decide (bit=1))
end Wk
namespace Wk
def plainCode (k:Wk) (bit:Nat):Nat:=
 if k.field=1 then form (decide (bit=0))
 else if k.field=11 then form (decide (bit=1))
 else if k.field=13 then (if bit=1/\k.crcOk=false then 5 else form (decide (bit=1)))
 else if k.field=14 then k.eofCode bit else 0
end Wk
namespace Wk
def dlen (k:Wk):Nat:=if k.rtr=true then 0 else min k.dlc 8
end Wk
namespace Wk
def fsize (k:Wk) (f:Nat):Nat:=
 if f=2 then 11 else if f=5 then 18 else if f=7 then (if k.ext=true then 2 else 1) else if f=8 then 4 else if f=9 then 8*k.dlen else if f=10 then 15 else if f=14 then 7 else 1
end Wk
namespace Wk
def fafter (k:Wk) (f:Nat):Nat:=
 if f=4/\k.ext=false then 7 else if f=8/\k.dlen=0 then 10 else f+1
end Wk
structure cD (B b:Nat) (w w':World):Prop where
 bel:Below B w w'
 oth:Lib.OthersKept 5 (some b) w w'
def cY (data:List Nat) (taken bit:Nat):List Nat:=
 if taken % 8=0 then data++[bit] else data.set (data.length-1) (2*data.getD (data.length-1) 0 % 256+bit)
def Wk.keep1 (k:Wk) (bit:Nat):Wk:=if k.field<=9 then { k with sum:=M.dM k.sum bit } else k
def Wk.keep (k:Wk) (bit:Nat):Wk:=
 if k.field=2\/k.field=5 then { k.keep1 bit with id:=2*k.id+bit }
 else if k.field=3\/k.field=6 then { k.keep1 bit with rtr:=decide (bit=1) }
 else if k.field=4 then { k.keep1 bit with ext:=decide (bit=1) }
 else if k.field=8 then { k.keep1 bit with dlc:=2*k.dlc+bit }
 else if k.field=9 then { k.keep1 bit with data:=cY k.data k.taken bit }
 else if k.field=10 then { k.keep1 bit with crc:=2*k.crc+bit }
 else k.keep1 bit
def n9 (x bit:Nat) (hx:x<1000000) (hb:bit<2):bits BinOp.or IntKind.i64 ((x:Int)*2) (bit:Int)=((2*x+bit:Nat):Int):=by
 have e:(x:Int)*2=((2*x:Nat):Int):=om;rw[e,(bits_nat .i64 62 (by decide) fT (2*x) bit om om).2,nat_join 1 _ _ om om]
def sN (x bit:Nat) (hx:x<1073741824) (hb:bit<2):bits BinOp.or IntKind.u32 ((x:Int)*2) (bit:Int)=((2*x+bit:Nat):Int):=by
 have e:(x:Int)*2=((2*x:Nat):Int):=om;rw[e,u32_or_nat _ _ om om,nat_join 1 _ _ om om]
def Wk.adv (k:Wk):Wk:=if k.taken+1=k.fsize k.field then { k with field:=k.fafter k.field,taken:=0 } else { k with taken:=k.taken+1 }
def aa.below {w w1:World} {B:Nat} {v:Value} {l:List Nat} (h:aa w B v l) (hb:Bl w w1):aa w1 B v l:=
 h.otherBlock (fun g hg=>hb.block g (QC h g hg).2)
def Wk.heard (k:Wk) (c:Nat):Wk:={ k with last:=M.C0 k.last c }
def Wk.take (k:Wk) (c:Nat):Wk × Nat:=
 if k.due=true/\c=k.last.1 then (k,3)
 else if k.due=true then (k.heard c,0)
 else (((k.heard c).keep (c-48)).adv,(k.heard c).plainCode (c-48))
def gE (k:Wk) (bit:Nat):(k.keep bit).taken=k.taken:=by
 unfold Wk.keep Wk.keep1
 (repeat' split) <;> rfl
def fC (k:Wk) (bit:Nat):(k.keep bit).field=k.field:=by
 unfold Wk.keep Wk.keep1
 (repeat' split) <;> rfl
structure Wk.Inv (k:Wk):Prop where
 f1:1<=k.field
 f2:k.field<=14
 tk:k.taken<k.fsize k.field
 sm:k.sum<32768
 idb:k.id<2 ^ (if k.field=1 then 0 else if k.field=2 then k.taken else if k.field<=4 then 11 else if k.field=5 then 11+k.taken else 29)
 dlb:k.dlc<2 ^ (if k.field<8 then 0 else if k.field=8 then k.taken else 4)
 crb:k.crc<2 ^ (if k.field<10 then 0 else if k.field=10 then k.taken else 15)
 dan:k.field<9->k.data=[]
 dat:k.field=9->k.data.length=(k.taken+7) / 8
 dal:k.data.length<=8
 das:∀ x ∈ k.data,x<256
def Gu (k:Wk):k.dlen<=8:=by unfold Wk.dlen;split <;> omega
def rD (k:Wk) (f:Nat):k.fsize f<=64:=by
 have:=Gu k;unfold Wk.fsize
 (repeat' split) <;> omega
def pK (n:Nat) (h:n<=29):2 ^ n<=536870912:=nT (qt (by decide) h) (by decide)
def wN (data:List Nat) (taken bit:Nat) (h:data.length=(taken+7) / 8):(cY data taken bit).length=(taken+1+7) / 8:=by
 unfold cY;split
 .rw[qe,qm];omega
 .rw[qK];omega
def rj (data:List Nat) (taken bit:Nat) (hb:bit<2) (h:∀ x ∈ data,x<256):∀ x ∈ cY data taken bit,x<256:=by
 unfold cY;intro x hx;split at hx
 .rw[qC,Qu] at hx;rcases hx with hx|rfl
  .exact h x hx
  .omega
 .rcases List.mem_or_eq_of_mem_set hx with hx|rfl
  .exact h x hx
  .omega
def jh (x bit n:Nat) (h:x<2 ^ n) (hb:bit<2):2*x+bit<2 ^ (n+1):=by
 rw[qI];omega
def uW (k:Wk) (bit:Nat) (hb:bit<2) (h:k.Inv) (hg:k.plainCode bit=0\/k.plainCode bit=1):((k.keep bit).adv).Inv:=by
 obtain⟨f1,f2,tk,sm,idb,dlb,crb,dan,dat,dal,das⟩:=h;obtain⟨field,taken,⟨la,lb⟩,sum,crc,ext,id,rtr,dlc,data,code⟩:=k;simp only at f1 f2 tk sm idb dlb crb dan dat dal das;have hst:=M.fW sum bit;rcases (show field=1\/field=2\/field=3\/field=4\/field=5\/field=6\/field=7\/field=8\/field=9\/field=10\/field=11\/field=12\/field=13\/field=14 from by omega) with rfl|rfl|rfl|rfl|rfl|rfl|rfl|rfl|rfl|rfl|rfl|rfl|rfl|rfl
 ·
  have t0:taken=0:=by simp[Wk.fsize] at tk;omega
  subst t0;simp at idb dlb crb dan;subst idb dlb crb dan;simp[Wk.keep,Wk.keep1,Wk.adv,Wk.fsize,Wk.fafter];constructor <;> (try dsimp only) <;> (try simp[Wk.fsize]) <;> (try omega)
 ·
  simp[Wk.fsize] at tk;simp at idb dlb crb dan;subst dlb crb dan;have hid:=jh id bit taken idb hb;by_cases hT:taken+1=11
  .have t10:taken=10:=om;subst t10;simp[Wk.keep,Wk.keep1,Wk.adv,Wk.fsize,Wk.fafter];constructor <;> (try dsimp only) <;> (try simp[Wk.fsize]) <;> (try omega)
  .simp[Wk.keep,Wk.keep1,Wk.adv,Wk.fsize,hT];constructor <;> (try dsimp only) <;> (try simp[Wk.fsize]) <;> (try omega)
 ·
  have t0:taken=0:=by simp[Wk.fsize] at tk;omega
  subst t0;simp at idb dlb crb dan;subst dlb crb dan;simp[Wk.keep,Wk.keep1,Wk.adv,Wk.fsize,Wk.fafter];constructor <;> (try dsimp only) <;> (try simp[Wk.fsize]) <;> (try omega)
 ·
  have t0:taken=0:=by simp[Wk.fsize] at tk;omega
  subst t0;simp at idb dlb crb dan;subst dlb crb dan;rcases (show bit=0\/bit=1 from by omega) with rfl|rfl
  .simp[Wk.keep,Wk.keep1,Wk.adv,Wk.fsize,Wk.fafter];constructor <;> (try dsimp only) <;> (try simp[Wk.fsize]) <;> (try omega)
  .simp[Wk.keep,Wk.keep1,Wk.adv,Wk.fsize,Wk.fafter];constructor <;> (try dsimp only) <;> (try simp[Wk.fsize]) <;> (try omega)
 ·
  simp[Wk.fsize] at tk;simp at idb dlb crb dan;subst dlb crb dan;have hid:=jh id bit (11+taken) idb hb;by_cases hT:taken+1=18
  .have t10:taken=17:=om;subst t10;simp[Wk.keep,Wk.keep1,Wk.adv,Wk.fsize,Wk.fafter];constructor <;> (try dsimp only) <;> (try simp[Wk.fsize]) <;> (try omega)
  .simp[Wk.keep,Wk.keep1,Wk.adv,Wk.fsize,hT];constructor <;> (try dsimp only) <;> (try simp[Wk.fsize]) <;> (try omega)
 ·
  have t0:taken=0:=by simp[Wk.fsize] at tk;omega
  subst t0;simp at idb dlb crb dan;subst dlb crb dan;simp[Wk.keep,Wk.keep1,Wk.adv,Wk.fsize,Wk.fafter];constructor <;> (try dsimp only) <;> (try simp[Wk.fsize]) <;> (try omega)
  cases ext <;> simp
 ·
  simp at idb dlb crb dan;subst dlb crb dan;cases ext
  .have t0:taken=0:=by simp[Wk.fsize] at tk;omega
   subst t0;simp[Wk.keep,Wk.keep1,Wk.adv,Wk.fsize,Wk.fafter];constructor <;> (try dsimp only) <;> (try simp[Wk.fsize]) <;> (try omega)
  .have t0:taken=0\/taken=1:=by simp[Wk.fsize] at tk;omega
   rcases t0 with rfl|rfl
   .simp[Wk.keep,Wk.keep1,Wk.adv,Wk.fsize];constructor <;> (try dsimp only) <;> (try simp[Wk.fsize]) <;> (try omega)
   .simp[Wk.keep,Wk.keep1,Wk.adv,Wk.fsize,Wk.fafter];constructor <;> (try dsimp only) <;> (try simp[Wk.fsize]) <;> (try omega)
 ·
  simp[Wk.fsize] at tk;simp at idb dlb crb dan;subst crb dan;have hid:=jh dlc bit taken dlb hb;by_cases hT:taken+1=4
  .have t10:taken=3:=om;subst t10;by_cases hz:(Wk.dlen ⟨8,3,(la,lb),M.dM sum bit,0,ext,id,rtr,2*dlc+bit,[],code⟩)=0
   .have e:(Wk.keep ⟨8,3,(la,lb),sum,0,ext,id,rtr,dlc,[],code⟩ bit).adv=⟨10,0,(la,lb),M.dM sum bit,0,ext,id,rtr,2*dlc+bit,[],code⟩:=by
     simp[Wk.keep,Wk.keep1,Wk.adv,Wk.fsize,Wk.fafter,hz]
    rw[e];constructor <;> (try dsimp only) <;> (try simp[Wk.fsize]) <;> (try omega)
   .have e:(Wk.keep ⟨8,3,(la,lb),sum,0,ext,id,rtr,dlc,[],code⟩ bit).adv=⟨9,0,(la,lb),M.dM sum bit,0,ext,id,rtr,2*dlc+bit,[],code⟩:=by
     simp[Wk.keep,Wk.keep1,Wk.adv,Wk.fsize,Wk.fafter,hz]
    rw[e];have hz':0<Wk.dlen ⟨9,0,(la,lb),M.dM sum bit,0,ext,id,rtr,2*dlc+bit,[],code⟩:=qX hz;constructor <;> (try dsimp only) <;> (try simp[Wk.fsize]) <;> (try omega)
  .simp[Wk.keep,Wk.keep1,Wk.adv,Wk.fsize,hT];constructor <;> (try dsimp only) <;> (try simp[Wk.fsize]) <;> (try omega)
 ·
  simp at idb dlb crb dat;subst crb;have hd8:=Gu ⟨9,taken,(la,lb),M.dM sum bit,0,ext,id,rtr,dlc,cY data taken bit,code⟩;have tk':taken<8*Wk.dlen ⟨9,taken,(la,lb),M.dM sum bit,0,ext,id,rtr,dlc,cY data taken bit,code⟩:=by simpa[Wk.fsize,Wk.dlen] using tk
  have hkl:=wN data taken bit dat;have hks:=rj data taken bit hb das;by_cases hT:taken+1=8*Wk.dlen ⟨9,taken,(la,lb),M.dM sum bit,0,ext,id,rtr,dlc,cY data taken bit,code⟩
  .have e:(Wk.keep ⟨9,taken,(la,lb),sum,0,ext,id,rtr,dlc,data,code⟩ bit).adv=⟨10,0,(la,lb),M.dM sum bit,0,ext,id,rtr,dlc,cY data taken bit,code⟩:=by
    simp[Wk.keep,Wk.keep1,Wk.adv,Wk.fsize,Wk.fafter,hT]
   rw[e];constructor <;> (try dsimp only) <;> (try simp[Wk.fsize]) <;> (try omega)
  .have e:(Wk.keep ⟨9,taken,(la,lb),sum,0,ext,id,rtr,dlc,data,code⟩ bit).adv=⟨9,taken+1,(la,lb),M.dM sum bit,0,ext,id,rtr,dlc,cY data taken bit,code⟩:=by
    simp[Wk.keep,Wk.keep1,Wk.adv,Wk.fsize,hT]
   rw[e];have hd':Wk.dlen ⟨9,taken+1,(la,lb),M.dM sum bit,0,ext,id,rtr,dlc,cY data taken bit,code⟩=Wk.dlen ⟨9,taken,(la,lb),M.dM sum bit,0,ext,id,rtr,dlc,cY data taken bit,code⟩:=rfl;constructor <;> (try dsimp only) <;> (try simp[Wk.fsize]) <;> (try omega)
 ·
  simp[Wk.fsize] at tk;simp at idb dlb crb;have hid:=jh crc bit taken crb hb;by_cases hT:taken+1=15
  .have t10:taken=14:=om;subst t10;simp[Wk.keep,Wk.keep1,Wk.adv,Wk.fsize,Wk.fafter];constructor <;> (try dsimp only) <;> (try simp[Wk.fsize]) <;> (try omega)
  .simp[Wk.keep,Wk.keep1,Wk.adv,Wk.fsize,hT];constructor <;> (try dsimp only) <;> (try simp[Wk.fsize]) <;> (try omega)
 ·
  have t0:taken=0:=by simp[Wk.fsize] at tk;omega
  subst t0;simp at idb dlb crb;simp[Wk.keep,Wk.keep1,Wk.adv,Wk.fsize,Wk.fafter];constructor <;> (try dsimp only) <;> (try simp[Wk.fsize]) <;> (try omega)
 ·
  have t0:taken=0:=by simp[Wk.fsize] at tk;omega
  subst t0;simp at idb dlb crb;simp[Wk.keep,Wk.keep1,Wk.adv,Wk.fsize,Wk.fafter];constructor <;> (try dsimp only) <;> (try simp[Wk.fsize]) <;> (try omega)
 ·
  have t0:taken=0:=by simp[Wk.fsize] at tk;omega
  subst t0;simp at idb dlb crb;simp[Wk.keep,Wk.keep1,Wk.adv,Wk.fsize,Wk.fafter];constructor <;> (try dsimp only) <;> (try simp[Wk.fsize]) <;> (try omega)
 ·
  simp[Wk.fsize] at tk;simp at idb dlb crb;have hT:¬ taken=6:=by
   intro e;subst e;rcases (show bit=0\/bit=1 from by omega) with rfl | rfl <;> simp[Wk.plainCode,Wk.eofCode] at hg
  have hT':¬ taken+1=7:=om;simp[Wk.keep,Wk.keep1,Wk.adv,Wk.fsize,hT];constructor <;> (try dsimp only) <;> (try simp[Wk.fsize]) <;> (try omega)
def av (c:Nat):Bool:=decide (c=0\/c=1)
def rp {k:Wk} (h:k.Inv) (c:Nat):({ k with code:=c }:Wk).Inv:=⟨h.f1,h.f2,h.tk,h.sm,h.idb,h.dlb,h.crb,h.dan,h.dat,h.dal,h.das⟩
def iz {k:Wk} (h:k.Inv) (c:Nat):(k.heard c).Inv:=⟨h.f1,h.f2,h.tk,h.sm,h.idb,h.dlb,h.crb,h.dan,h.dat,h.dal,h.das⟩
def jI (k:Wk) (bit:Nat):(k.keep bit).last=k.last:=by
 unfold Wk.keep Wk.keep1
 (repeat' split) <;> rfl
def sc (k:Wk):k.adv.last=k.last:=by
 unfold Wk.adv
 (repeat' split) <;> rfl
def Wk.over:Wk->List Nat->Wk
 | k,[]=>k
 | k,c :: cs=>if av (k.take c).2=true then Wk.over { (k.take c).1 with code:=(k.take c).2 } cs
   else if cs=[] then { (k.take c).1 with code:=(k.take c).2 } else { (k.take c).1 with code:=7 }
def Wk.init:Wk:=⟨1,0,(0,0),0,0,false,0,false,0,[],0⟩
def ro:Wk.init.Inv:=by
 constructor <;> simp[Wk.init,Wk.fsize]
def bH (s:ByteArray):Wk:=if okT s 4000=true then Wk.init.over (lt s) else { Wk.init with code:=8 }
def eu (v c:Nat):Nat:=2*v+(if c=49 then 1 else 0)
def cJ (l:List Nat):Nat:=l.foldl eu 0
def dE (l:List Nat) (c:Nat):cJ (l++[c])=eu (cJ l) c:=by unfold cJ;rw[List.foldl_append];rfl
def Jy (l:List Nat):cJ l<2 ^ l.length:=by
 induction l using M.jf with
 | h0=>decide
 | h1 l a ih=>
  rw[dE,qe,qm,qI];unfold eu;split <;> omega
def aY (l:List Nat):Nat:=if l.getD 13 0=49 then 39 else 19
def kl (l:List Nat):Bool:=if l.getD 13 0=49 then decide (l.getD 32 0=49) else decide (l.getD 12 0=49)
def gD (l:List Nat):Nat:=if kl l=true then 0 else min (cJ ((l.drop (aY l-4)).take 4)) 8
def aR (l:List Nat):Nat × Nat:=
 if l.length<14 then (0,0) else if l.length<aY l then (aY l,0) else (aY l,aY l+8*gD l)
def ar (l:List Nat):Nat:=
 if l.length=0 then 1 else if l.length<12 then 2 else if l.length=12 then 3 else if l.length=13 then 4
 else if l.length<(aR l).1 then
  (if (aR l).1<=l.length+4 then 8 else if (aR l).1=19 then 7 else if l.length<32 then 5 else if l.length=32 then 6 else 7)
 else if l.length<(aR l).2 then 9 else if l.length<(aR l).2+15 then 10 else if l.length<(aR l).2+18 then l.length-(aR l).2-4
 else if l.length<(aR l).2+25 then 14 else 15
def jk (l:List Nat):(aR l).1<=39/\(aR l).2<=103:=by
 have:aY l<=39:=by unfold aY;split <;> omega
 have h2:gD l<=8:=by unfold gD;split <;> omega
 unfold aR;split
 .exact⟨pQ,pQ⟩
 .split
  .exact⟨this,pQ⟩
  .exact⟨this,by show _+_<=_;omega⟩
def cA (l:List Nat):Bool:=decide (¬ ((aR l).2=0\/l.length<(aR l).2+15)) && decide (gL (ae (l.take (aR l).2))=(cJ ((l.drop (aR l).2).take 15):Nat))
def cF (l:List Nat) (c:Nat):Nat:=
 if ar l=1 then (if c=49 then 4 else 0) else if ar l=11 then (if c=48 then 4 else 0)
 else if ar l=13 then (if c=48 then 4 else if cA l=false then 5 else 0)
 else if ar l=14 then (if l.length<(aR l).2+24 then (if c=48 then 4 else if l.length=(aR l).2+23 then 1 else 0)
  else if l.length=(aR l).2+24 then (if c=48 then 6 else 2) else 0)
 else 0
def aa.bytes {w:World} {B:Nat} {v:Value} {l:List Nat} (h:aa w B v l) (hl:∀ x ∈ l,x<256):∃ ao cap,v = sL ao l.length cap/\iB w ao l.length cap l:=by
 by_cases he:l=[]
 .subst he;obtain⟨_,⟨rfl,_⟩|⟨g,cap,cur,rfl,_⟩⟩:=h
  .exact⟨none,0,rfl,rfl,nR _,hl,fun h=>Qz rfl h⟩
  .exact⟨_,cap,rfl,rfl,nZ _,hl,fun h=>Qz rfl h⟩
 .obtain⟨g,cap,hv,h1,h2,h3,h4,h5⟩:=h.open he;refine⟨some ⟨g,0,none⟩,cap,hv,rfl,h3,hl,fun _=>⟨g,0,rfl,fun j hj=>?_⟩⟩;have:=h5.cell j hj;rw[zf,this];simp[hj]
def dW (L:List Nat) (i:Nat) (st:Nat × List Nat × Bool):Nat × List Nat × Bool:=
 let c:=L.getD i 0
 let p:=if st.2.2=true then st.2.1 else st.2.1++[c]
 (if st.2.2=true then (if c=L.getD (i-1) 0 then 3 else 0) else cF st.2.1 c,p,
  cW (fun t=>L.getD t 0) (i+1) && (decide (ar p<=10) || decide (ar p=11)))
def sw (L:List Nat):Nat->Nat × List Nat × Bool
 | 0=>(0,[],false)
 | i+1=>dW L i (sw L i)
def swF (L:List Nat):Nat->Nat->Nat × List Nat × Bool
 | 0,i=>sw L i
 | f+1,i=>if av (sw L i).1=true then swF L f (i+1) else (7,(sw L i).2.1,false)
def gZ (L:List Nat) (h:∀ x ∈ L,M.isL x) (i:Nat) (hi:i<=L.length):∀ x ∈ (sw L i).2.1,M.isL x:=by
 induction i with
 | zero=>intro x hx;cases hx
 | succ i ih=>
  have ih:=ih om;show ∀ x ∈ (if (sw L i).2.2=true then (sw L i).2.1 else (sw L i).2.1++[L.getD i 0]),M.isL x;split
  .exact ih
  .intro x hx;rw[qC,Qu] at hx;rcases hx with hx|rfl
   .exact ih x hx
   .have hi':i<L.length:=om;have e:L.getD i 0=L[i]:=by simp[hi']
    rw[e];exact h _ (zh hi')
def swZ (s:ByteArray):Nat × List Nat × Bool:=if okT s 4000=true then swF (lt s) (lt s).length 0 else (8,[],false)
def jd (L:List Nat) (f i:Nat):swF L (f+1) i=if av (sw L i).1=true then swF L f (i+1) else (7,(sw L i).2.1,false):=rfl
variable {p:List Nat}
def cv (p:List Nat):Nat:=aY p+8*gD p
def aq (n H E:Nat):Nat:=
 if n=0 then 1 else if n<12 then 2 else if n=12 then 3 else if n=13 then 4
 else if n<H then (if H<=n+4 then 8 else if H=19 then 7 else if n<32 then 5 else if n=32 then 6 else 7)
 else if n<E then 9 else if n<E+15 then 10 else if n<E+18 then n-E-4 else if n<E+25 then 14 else 15
def aT (n H E:Nat):Nat:=
 if n=0 then 0 else if n<12 then n-1 else if n=12 then 0 else if n=13 then 0
 else if n<H then (if H<=n+4 then n+4-H else if H=19 then 0 else if n<32 then n-14 else if n=32 then 0 else n-33)
 else if n<E then n-H else if n<E+15 then n-E else if n<E+18 then 0 else if n<E+25 then n-E-18 else 0
def bz (p:List Nat):aY p=19\/aY p=39:=by unfold aY;split <;> simp
def eS (p:List Nat):ar p=aq p.length (aY p) (cv p):=by
 have h:=bz p;unfold ar aq aR cv;by_cases h14:p.length<14
 .rw[zc h14];dsimp only;by_cases h0:p.length=0
  .simp[h0]
  .by_cases h1:p.length<12
   .simp[h0,h1]
   .by_cases h2:p.length=12
    .simp[h2]
    .have h3:p.length=13:=om;simp[h3]
 .rw[zb h14];by_cases hH:p.length<aY p
  .simp[hH]
  .simp[hH]
def ej (p:List Nat) (c j:Nat):(p++[c]).getD j 0=if j<p.length then p.getD j 0 else if j=p.length then c else 0:=by
 simp only[ql,List.getElem?_append];split
 .rfl
 .split
  .rename_i h;simp[h]
  .rename_i h1 h2;have:j-p.length≠0:=om;simp[this]
def fg (p:List Nat) (j:Nat) (h:p.length<=j):p.getD j 0=0:=by simp[ql,h]
def cT (p:List Nat) (c:Nat) (h:p.length≠13):aY (p++[c])=aY p:=by
 unfold aY;rw[ej];split
 .rfl
 .rw[zb (show ¬ 13=p.length by omega),fg p 13 om]
def jM (p:List Nat) (c j:Nat) (h:j<=p.length):(p++[c]).drop j=p.drop j++[c]:=by
 rw[List.drop_append_of_le_length h]
def dC (p:List Nat) (c j m:Nat) (h:j+m<=p.length):((p++[c]).drop j).take m=(p.drop j).take m:=by
 rw[jM _ _ _ om,Qr (by rw[Qh];omega)]
def jW (p:List Nat) (c j m:Nat) (h:p.length<j):((p++[c]).drop j).take m=(p.drop j).take m:=by
 rw[qq (by simp;omega),qq om]
def dX (p:List Nat) (c j m:Nat) (h1:j<=p.length) (h2:p.length<j+m):((p++[c]).drop j).take m=(p.drop j).take m++[c]:=by
 rw[jM _ _ _ h1,ze (by simp;omega),ze (by simp;omega)]
def mZ (p:List Nat) (c:Nat) (h:aY p<=p.length):gD (p++[c])=gD p:=by
 have hH:=bz p;unfold gD;have e1:aY (p++[c])=aY p:=cT p c om;have e2:kl (p++[c])=kl p:=by
  unfold kl;have hh:aY p=if p.getD 13 0=49 then 39 else 19:=rfl
  rw[ej,ej,ej,zc (show 13<p.length by omega),zc (show 12<p.length by omega)];split
  .rename_i h13;rw[zc h13] at hh;rw[zc (show 32<p.length by omega)]
  .rfl
 rw[e1,e2,dC _ _ _ _ om]
def fj (p:List Nat) (c:Nat) (h:aY p<=p.length):cv (p++[c])=cv p:=by
 have hH:=bz p;unfold cv;rw[mZ p c h,cT p c om]
def dN (q:List Nat):List Nat:=(List.range ((q.length+7) / 8)).map fun j=>cJ ((q.drop (8*j)).take 8)
def rX (p:List Nat):List Nat:=p.map (·-48)
def zD (p:List Nat):List Nat:=if p.length<aY p then p else p.take (cv p)
def CL (p:List Nat):List Nat:=if p.length<aY p then [] else (p.take (cv p)).drop (aY p)
def Dk (p:List Nat):List Nat:=if p.length<aY p then [] else (p.drop (cv p)).take 15
def idL (p:List Nat):List Nat:=(p.drop 1).take 11++(if p.getD 13 0=49 then (p.drop 14).take 18 else [])
structure Vals (k:Wk) (p:List Nat):Prop where
 ext:k.ext=decide (p.getD 13 0=49)
 rtr:k.rtr=if 32<p.length/\p.getD 13 0=49 then decide (p.getD 32 0=49) else decide (p.getD 12 0=49)
 dlc:k.dlc=cJ ((p.drop (aY p-4)).take 4)
 sum:k.sum=M.i8 (rX (zD p))
 crc:k.crc=cJ (Dk p)
 id:k.id=cJ (idL p)
 data:k.data=dN (CL p)
structure Rel (k:Wk) (p:List Nat):Prop extends Vals k p where
 field:k.field=aq p.length (aY p) (cv p)
 taken:k.taken=aT p.length (aY p) (cv p)
def i9 (q:List Nat) (j:Nat) (h:j<(dN q).length):(dN q)[j]=cJ ((q.drop (8*j)).take 8):=by simp[dN]
def rU (q:List Nat) (c:Nat) (hc:M.isL c):dN (q++[c])=cY (dN q) q.length (c-48):=by
 have hv:eu 0 c=c-48:=by rcases hc with rfl | rfl <;> rfl
 have hv2:∀ v,eu v c=2*v+(c-48):=by intro v;rcases hc with rfl | rfl <;> rfl
 unfold cY;have hl:(dN q).length=(q.length+7) / 8:=by simp[dN]
 split
 .rename_i h;unfold dN;rw[qe,qm,show (q.length+1+7) / 8=(q.length+7) / 8+1 by omega,List.range_succ,List.map_append];congr 1
  .apply Qn;intro j hj;rw[List.mem_range] at hj;rw[dC _ _ _ _ om]
  .rw[List.map_singleton,dX _ _ _ _ om om,qq om];simp[cJ,hv]
 .rename_i h;have hm:(q.length+1+7) / 8=(q.length+7) / 8:=om;have hlast:(dN q).getD ((dN q).length-1) 0=cJ (q.drop (8*(q.length / 8))):=by
   rw[hl];unfold dN;rw[ql,List.getElem?_map,List.getElem?_range om];show cJ _=_;rw[show (q.length+7) / 8-1=q.length / 8 by omega,ze (by rw[Qh];omega)]
  rw[hlast,hl];apply List.ext_getElem
  .simp[dN,hm]
  .intro j h1 h2;have hj:j<(q.length+7) / 8:=by simpa[dN] using h2
   rw[List.getElem_set];split
   .rename_i hjj;rw[i9,dX _ _ _ _ om om,dE,hv2,ze (by rw[Qh];omega)];have:cJ (q.drop (8*j))<128:=by
     refine nL (Jy _) ?_;rw[Qh];exact nT (qt (by decide) (show q.length-8*j<=7 by omega)) (by decide)
    rw[show q.length / 8=j by omega];omega
   .rw[i9,i9,dC _ _ _ _ om]
def zm (k:Wk) (b:Nat):(k.keep b).ext=if k.field=4 then decide (b=1) else k.ext:=by
 unfold Wk.keep Wk.keep1;grind
def zl (k:Wk) (b:Nat):(k.keep b).rtr=if k.field=3\/k.field=6 then decide (b=1) else k.rtr:=by
 unfold Wk.keep Wk.keep1;grind
def wK (k:Wk) (b:Nat):(k.keep b).dlc=if k.field=8 then 2*k.dlc+b else k.dlc:=by
 unfold Wk.keep Wk.keep1;grind
def zk (k:Wk) (b:Nat):(k.keep b).sum=if k.field<=9 then M.dM k.sum b else k.sum:=by
 unfold Wk.keep Wk.keep1;grind
def zo (k:Wk) (b:Nat):(k.keep b).crc=if k.field=10 then 2*k.crc+b else k.crc:=by
 unfold Wk.keep Wk.keep1;grind
def Br (k:Wk) (b:Nat):(k.keep b).id=if k.field=2\/k.field=5 then 2*k.id+b else k.id:=by
 unfold Wk.keep Wk.keep1;grind
def jJ (k:Wk) (b:Nat):(k.keep b).data=if k.field=9 then cY k.data k.taken b else k.data:=by
 unfold Wk.keep Wk.keep1;grind
def fN4 (n H E:Nat) (h:H=19\/H=39) (hE:H<=E):aq n H E=4↔n=13:=by unfold aq;grind (splits:=16)
def fN3 (n H E:Nat) (h:H=19\/H=39) (hE:H<=E):aq n H E=3↔n=12:=by unfold aq;grind (splits:=16)
def fN6 (n H E:Nat) (h:H=19\/H=39) (hE:H<=E):aq n H E=6↔n=32/\H=39:=by unfold aq;grind (splits:=16)
def fN2 (n H E:Nat) (h:H=19\/H=39) (hE:H<=E):aq n H E=2↔1<=n/\n<12:=by unfold aq;grind (splits:=16)
def fN5 (n H E:Nat) (h:H=19\/H=39) (hE:H<=E):aq n H E=5↔14<=n/\n<32/\H=39:=by unfold aq;grind (splits:=16)
def fN8 (n H E:Nat) (h:H=19\/H=39) (hE:H<=E):aq n H E=8↔H<=n+4/\n<H:=by unfold aq;grind (splits:=16)
def fN9 (n H E:Nat) (h:H=19\/H=39) (hE:H<=E):aq n H E=9↔H<=n/\n<E:=by unfold aq;grind (splits:=16)
def F5 (n H E:Nat) (h:H=19\/H=39) (hE:H<=E):aq n H E=10↔E<=n/\n<E+15:=by unfold aq;grind (splits:=16)
def Fg (n H E:Nat) (h:H=19\/H=39) (hE:H<=E):aq n H E<=9↔n<E:=by unfold aq;grind (splits:=16)
def cI (p:List Nat):aY p<=cv p:=by unfold cv;omega
def Cj (n H E H' E' N':Nat) (h:H=19\/H=39) (h':H'=19\/H'=39) (hE:H<=E) (hE':E'=H'+8*N') (h13:n≠13->H'=H) (hEE:H<=n->E'=E) (hn:n<H\/n<E+25) (D:Nat) (hD:H'<=n+1->D=N') (X:Bool) (hX:13<=n->(X=true↔H'=39)) (fs fa:Nat)
  (hfs:fs=if aq n H E=2 then 11 else if aq n H E=5 then 18 else if aq n H E=7 then (if X=true then 2 else 1) else if aq n H E=8 then 4 else if aq n H E=9 then 8*D else if aq n H E=10 then 15 else if aq n H E=14 then 7 else 1)
  (hfa:fa=if aq n H E=4/\X=false then 7 else if aq n H E=8/\D=0 then 10 else aq n H E+1) :
  (aT n H E+1=fs->aq (n+1) H' E'=fa/\aT (n+1) H' E'=0)/\(aT n H E+1≠fs->aq (n+1) H' E'=aq n H E/\aT (n+1) H' E'=aT n H E+1):=by
 by_cases a:n<14
 .have c:n=0\/(1<=n/\n<11)\/n=11\/n=12\/n=13:=om;rcases c with rfl|c|rfl|rfl|rfl
  .simp only[aq,aT] at *;grind
  .have e1:aq n H E=2:=by rw[fN2 _ _ _ h hE];omega
   have e2:aq (n+1) H' E'=2:=by rw[fN2 _ _ _ h' om];omega
   have e3:aT n H E=n-1:=by unfold aT;grind
   have e4:aT (n+1) H' E'=n:=by unfold aT;grind
   rw[e1] at hfs hfa ⊢;grind
  .simp only[aq,aT] at *;grind
  .simp only[aq,aT] at *;grind
  .have hX:=hX (nR _);rcases h' with rfl|rfl
   .have:X=false:=by cases X <;> simp_all
    simp[aq,aT,this] at *;grind
   .have:X=true:=by rw[hX]
    simp[aq,aT,this] at *;grind
 .have h0:=h13 om;subst h0;have hX:=hX om;by_cases b:n<H'
  .rcases h with rfl|rfl
   .have hx:X=false:=by cases X <;> simp_all
    have c:n=14\/(15<=n/\n<18)\/n=18:=om;rcases c with rfl|c|rfl
    .simp[aq,aT,hx] at *;grind
    .have e1:aq n 19 E=8:=by rw[fN8 _ _ _ pQ hE];omega
     have e2:aq (n+1) 19 E'=8:=by rw[fN8 _ _ _ pQ om];omega
     have e3:aT n 19 E=n-15:=by unfold aT;grind
     have e4:aT (n+1) 19 E'=n-14:=by unfold aT;grind
     rw[e1] at hfs hfa ⊢;grind
    .have hD:=hD om;subst hD;have e1:aq 18 19 E=8:=by rw[fN8 _ _ _ pQ hE];omega
     have e3:aT 18 19 E=3:=by unfold aT;grind
     have e4:aT 19 19 E'=0:=by unfold aT;grind
     have e5:aq 19 19 E'=if D=0 then 10 else 9:=by unfold aq;grind
     rw[e1] at hfs hfa ⊢;grind
   .have hx:X=true:=by rw[hX]
    have c:(14<=n/\n<31)\/n=31\/n=32\/n=33\/n=34\/(35<=n/\n<38)\/n=38:=om;rcases c with c|rfl|rfl|rfl|rfl|c|rfl
    .have e1:aq n 39 E=5:=by rw[fN5 _ _ _ pQ hE];omega
     have e2:aq (n+1) 39 E'=5:=by rw[fN5 _ _ _ pQ om];omega
     have e3:aT n 39 E=n-14:=by unfold aT;grind (splits:=14)
     have e4:aT (n+1) 39 E'=n-13:=by unfold aT;grind (splits:=14)
     rw[e1] at hfs hfa ⊢;grind
    .simp[aq,aT,hx] at *;grind
    .simp[aq,aT,hx] at *;grind
    .simp[aq,aT,hx] at *;grind
    .simp[aq,aT,hx] at *;grind
    .have e1:aq n 39 E=8:=by rw[fN8 _ _ _ pQ hE];omega
     have e2:aq (n+1) 39 E'=8:=by rw[fN8 _ _ _ pQ om];omega
     have e3:aT n 39 E=n-35:=by unfold aT;grind
     have e4:aT (n+1) 39 E'=n-34:=by unfold aT;grind
     rw[e1] at hfs hfa ⊢;grind
    .have hD:=hD om;subst hD;have e1:aq 38 39 E=8:=by rw[fN8 _ _ _ pQ hE];omega
     have e3:aT 38 39 E=3:=by unfold aT;grind
     have e4:aT 39 39 E'=0:=by unfold aT;grind
     have e5:aq 39 39 E'=if D=0 then 10 else 9:=by unfold aq;grind
     rw[e1] at hfs hfa ⊢;grind
  .have hEE:=hEE om;have hD:=hD om;subst hD;clear hX;have hge:19<=H':=om;have F:∀ m,H'<=m->aq m H' E=if m<E then 9 else if m<E+15 then 10 else if m<E+18 then m-E-4 else if m<E+25 then 14 else 15:=by
    intro m hm;unfold aq;rw[zb om,zb om,zb om,zb om,zb om]
   have T:∀ m,H'<=m->aT m H' E=if m<E then m-H' else if m<E+15 then m-E else if m<E+18 then 0 else if m<E+25 then m-E-18 else 0:=by
    intro m hm;unfold aT;rw[zb om,zb om,zb om,zb om,zb om]
   rw[hEE,F (n+1) om,T (n+1) om,T n om,hfs,hfa,F n om];clear F T hfs hfa h13 h';have hE2:E=H'+8*D:=om;clear hE' hEE;rcases (show n<E\/(E<=n/\n<E+15)\/n=E+15\/n=E+16\/n=E+17\/(E+18<=n/\n<E+25) by omega) with c|c|rfl|rfl|rfl|c
   .simp only[c];grind
   .have c1:¬ n<E:=om;simp only[c,c1];grind
   .simp;grind
   .simp;grind
   .simp;grind
   .have c1:¬ n<E:=om;have c2:¬ n<E+15:=om;have c3:¬ n<E+18:=om;simp only[c,c1,c2,c3];grind
def Bu {c:Nat} (hc:M.isL c):decide (c-48=1)=decide (c=49)/\∀ v,eu v c=2*v+(c-48):=by
 rcases hc with rfl | rfl <;> exact⟨rfl,fun _=>rfl⟩
def lL (l:List Nat) (c:Nat):rX (l++[c])=rX l++[c-48]:=by simp[rX]
def jl (p:List Nat):aY p=39↔p.getD 13 0=49:=by unfold aY;split <;> simp_all
def vy (k:Wk) (p:List Nat) (c:Nat) (hc:M.isL c) (h:Rel k p) (hn:p.length<aY p\/p.length<cv p+25):Vals (k.keep (c-48)) (p++[c]):=by
 have hH:=bz p;have hE:=cI p;obtain⟨hb1,hb2⟩:=Bu hc;have hf:=h.field;have hHs:p.length=13\/aY (p++[c])=aY p:=by
  by_cases e:p.length=13
  .exact .inl e
  .exact .inr (cT p c e)
 constructor
 .rw[zm,hf];simp only[fN4 _ _ _ hH hE];rw[hb1,h.ext,ej];by_cases e:p.length=13
  .rw[zc e,zb om,zc e.symm]
  .rw[zb e];by_cases e2:13<p.length
   .rw[zc e2]
   .rw[zb e2,zb (show ¬ 13=p.length by omega),fg p 13 om]
 .rw[zl,hf];simp only[fN3 _ _ _ hH hE,fN6 _ _ _ hH hE,jl];rw[hb1,h.rtr];simp only[ej,qe,qm];have hne:¬ (0:Nat)=49:=by decide
  by_cases e12:p.length<12
  .have:=fg p 13 om;have:=fg p 12 om;grind
  .by_cases e13:p.length<=13
   .have:=fg p 13 om;grind
   .grind
 .rw[wK,hf];simp only[fN8 _ _ _ hH hE];rw[h.dlc];by_cases e13:p.length=13
  .rw[zb om];have hH':=bz (p++[c]);rw[qq om,qq (by simp;omega)]
  .rw[cT p c e13];split
   .rw[dX _ _ _ _ om om,dE,hb2]
   .by_cases e:p.length<aY p
    .rw[jW _ _ _ _ om]
    .rw[dC _ _ _ _ om]
 .rw[zk,hf];simp only[Fg _ _ _ hH hE];rw[h.sum];unfold zD;rw[qe,qm];have hH':=bz (p++[c]);have hE':=cI (p++[c]);by_cases e1:p.length<aY p
  .rw[zc e1,zc om,<- M.xl,<- lL];congr 2;split
   .rfl
   .rw[ze (by simp;omega)]
  .have e3:aY (p++[c])=aY p:=cT p c om;have e4:cv (p++[c])=cv p:=fj p c om;rw[zb e1,zb (show ¬ p.length+1<aY (p++[c]) by omega),e4];by_cases e2:p.length<cv p
   .rw[zc e2,ze om,ze (by simp;omega),<- M.xl,<- lL]
   .rw[zb e2,Qr om]
 .rw[zo,hf];simp only[F5 _ _ _ hH hE];rw[h.crc];unfold Dk;rw[qe,qm];have hH':=bz (p++[c]);have hE':=cI (p++[c]);by_cases e1:p.length<aY p
  .rw[zc e1,zb (show ¬ (_/\_) by omega)];split
   .rfl
   .rw[qq (by simp;omega)];rfl
  .have e3:aY (p++[c])=aY p:=cT p c om;have e4:cv (p++[c])=cv p:=fj p c om;rw[zb e1,zb (show ¬ p.length+1<aY (p++[c]) by omega),e4];split
   .rw[dX _ _ _ _ om om,dE,hb2]
   .by_cases e:p.length<cv p
    .rw[jW _ _ _ _ om]
    .rw[dC _ _ _ _ om]
 .rw[Br,hf];simp only[fN2 _ _ _ hH hE,fN5 _ _ _ hH hE,jl];rw[h.id];unfold idL;rw[ej];by_cases e1:p.length=0
  .have:p=[]:=by simpa using e1
   subst this;rfl
  .by_cases e2:p.length<12
   .rw[zc om,zb (show ¬ 13<p.length by omega),zb (show ¬ 13=p.length by omega),fg p 13 om,dX _ _ _ _ om om,zb (by decide),Qw,zb (by decide),Qw,dE,hb2]
   .rw[dC p c 1 11 om];by_cases e3:p.length<14
    .rw[zb om,qq (show (p++[c]).length<=14 by simp;omega),qq (show p.length<=14 by omega)];simp
    .rw[zc (show 13<p.length by omega)];by_cases e5:p.getD 13 0=49
     .rw[zc e5,zc e5];split
      .rw[dX _ _ _ _ om om,<- qp,dE,hb2]
      .rw[dC _ _ _ _ om]
     .rw[zb e5,zb e5,zb om]
 .rw[jJ,hf];simp only[fN9 _ _ _ hH hE];rw[h.data,h.taken];unfold CL;rw[qe,qm];have hH':=bz (p++[c]);have hE':=cI (p++[c]);by_cases e1:p.length<aY p
  .rw[zc e1,zb (show ¬ (_/\_) by omega)];split
   .rfl
   .rw[qq (by simp;omega)]
  .have e3:aY (p++[c])=aY p:=cT p c om;have e4:cv (p++[c])=cv p:=fj p c om;rw[zb e1,zb (show ¬ p.length+1<aY (p++[c]) by omega),e3,e4];by_cases e2:p.length<cv p
   .rw[zc om,ze (show p.length<=cv p by omega),ze (by simp;omega),jM _ _ _ om,rU _ _ hc];congr 1;rw[Qh];unfold aT;rw[zb om,zb om,zb om,zb om,zb om,zc e2]
   .rw[zb om,Qr om]
def BR (k:Wk) (p:List Nat) (h:Vals k p) (hn:aY p<=p.length):k.dlen=gD p:=by
 have hH:=bz p;have hi:=jl p;unfold Wk.dlen gD;have e:k.rtr=kl p:=by
  rw[h.rtr];unfold kl;grind
 rw[e,h.dlc]
def ym (k:Wk) (p:List Nat) (c:Nat) (hc:M.isL c) (h:Rel k p) (hn:p.length<aY p\/p.length<cv p+25):Rel ((k.keep (c-48)).adv) (p++[c]):=by
 have hv:=vy k p c hc h hn;have hH:=bz p;have hH':=bz (p++[c]);have hE:=cI p
 have hN:=Cj p.length (aY p) (cv p) (aY (p++[c])) (cv (p++[c])) (gD (p++[c])) hH hH' hE rfl (cT p c) (fj p c) hn (k.keep (c-48)).dlen
  (fun e=>BR _ _ hv (by simpa using e)) (k.keep (c-48)).ext (fun e=>by rw[hv.ext,jl];simp) ((k.keep (c-48)).fsize k.field) ((k.keep (c-48)).fafter k.field)
  (by unfold Wk.fsize;rw[h.field]) (by unfold Wk.fafter;rw[h.field])
 have hl:(p++[c]).length=p.length+1:=pQ;unfold Wk.adv;rw[gE,fC];split
 .rename_i e;rw[h.taken] at e;have:=hN.1 e;exact { ext:=hv.ext,rtr:=hv.rtr,dlc:=hv.dlc,sum:=hv.sum,crc:=hv.crc,id:=hv.id,data:=hv.data,field:=by rw[hl];exact this.1.symm,taken:=by rw[hl];exact this.2.symm }
 .rename_i e;rw[h.taken] at e;have:=hN.2 e;exact { ext:=hv.ext,rtr:=hv.rtr,dlc:=hv.dlc,sum:=hv.sum,crc:=hv.crc,id:=hv.id,data:=hv.data,field:=by rw[hl,this.1];exact h.field,taken:=by rw[hl,this.2];show k.taken+1=_;rw[h.taken] }
def Rel.heard {k:Wk} (h:Rel k p) (c:Nat):Rel (k.heard c) p:={ ext:=h.ext,rtr:=h.rtr,dlc:=h.dlc,sum:=h.sum,crc:=h.crc,id:=h.id,data:=h.data,field:=h.field,taken:=h.taken }
def Rel.code {k:Wk} (h:Rel k p) (c:Nat):Rel { k with code:=c } p:={ ext:=h.ext,rtr:=h.rtr,dlc:=h.dlc,sum:=h.sum,crc:=h.crc,id:=h.id,data:=h.data,field:=h.field,taken:=h.taken }
def yn:Rel Wk.init []:={ ext:=rfl,rtr:=rfl,dlc:=rfl,sum:=rfl,crc:=rfl,id:=rfl,data:=rfl,field:=rfl,taken:=rfl }
def ve (n H E:Nat) (h:H=19\/H=39) (hE:H<=E):10<aq n H E↔E+15<=n:=by unfold aq;grind (splits:=16)
def oT (l:List Nat):Bool:=decide (¬ ((aR l).2=0\/l.length<(aR l).2+15)) && decide (M.i8 ((l.take (aR l).2).map (·-48))=cJ ((l.drop (aR l).2).take 15))
def rQ (p:List Nat) (hp:∀ x ∈ p,M.isL x):cA p=oT p:=by
 unfold cA oT;have hle:=(jk p).2;rw[jN (p.take (aR p).2) (fun x hx=>hp x (qL hx)) (by rw[qj];omega)];congr 1;rw[zg];simp only[qQ];omega
def rP {k:Wk} (h:Rel k p) (hp:∀ x ∈ p,M.isL x):k.crcOk=cA p:=by
 rw[rQ p hp];have hH:=bz p;have hE:=cI p;unfold Wk.crcOk oT;rw[h.field,h.crc,h.sum];by_cases e:p.length<cv p+15
 .have e1:¬ 10<aq p.length (aY p) (cv p):=by rw[ve _ _ _ hH hE];omega
  have e2:(aR p).2=0\/p.length<(aR p).2+15:=by
   unfold aR;split
   .simp
   .split
    .simp
    .exact .inr e
  simp[e1,e2]
 .have e1:10<aq p.length (aY p) (cv p):=by rw[ve _ _ _ hH hE];omega
  have e2:(aR p).2=cv p:=by unfold aR;rw[zb om,zb om];rfl
  have e3:¬ ((aR p).2=0\/p.length<(aR p).2+15):=by rw[e2];omega
  simp only[e1,e2];unfold zD Dk;rw[zb om,zb om];unfold rX;have e4:¬ (cv p=0\/p.length<cv p+15):=om;simp only[e4];simp only[decide_true,not_false_eq_true,Bool.true_and];rw[zg];simp only[qQ];exact eq_comm
def uT (h:aY p<=p.length):(aR p).2=cv p:=by
 have hH:=bz p;unfold aR;rw[zb om,zb om];rfl
def Fi (n H E:Nat) (h:H=19\/H=39) (hE:H<=E):aq n H E=14↔E+18<=n/\n<E+25:=by unfold aq;grind (splits:=16)
def Fh (n H E:Nat) (h:H=19\/H=39) (hE:H<=E):¬ aq n H E<=14↔E+25<=n:=by unfold aq;grind (splits:=16)
def Bj {k:Wk} (h:Rel k p) (hp:∀ x ∈ p,M.isL x) (c:Nat) (hc:M.isL c):k.plainCode (c-48)=cF p c:=by
 have hH:=bz p;have hE:=cI p;have hfl:=eS p;have hco:=rP h hp;have hf:=h.field;unfold Wk.plainCode cF;rw[hfl,<- hf,hco];by_cases f1:k.field=1
 .rw[zc f1,zc f1];rcases hc with rfl | rfl <;> rfl
 .rw[zb f1,zb f1];by_cases f11:k.field=11
  .rw[zc f11,zc f11];rcases hc with rfl | rfl <;> rfl
  .rw[zb f11,zb f11];by_cases f13:k.field=13
   .rw[zc f13,zc f13];rcases hc with rfl|rfl
    .simp[Wk.form]
    .simp[Wk.form]
   .rw[zb f13,zb f13];by_cases f14:k.field=14
    .rw[zc f14,zc f14];have hr:=(Fi _ _ _ hH hE).1 (hf ▸ f14);have ht:k.taken=p.length-cv p-18:=by
      rw[h.taken];unfold aT;rw[zb om,zb om,zb om,zb om,zb om,zb om,zb om,zb om,zc om]
     rw[uT om];unfold Wk.eofCode Wk.form;simp only[f14,true_and];rcases hc with rfl | rfl <;> simp <;> grind
    .rw[zb f14,zb f14]
def pM {L:List Nat} (h:∀ x ∈ L,M.isL x) (i:Nat) (hi:i<L.length):M.isL (L.getD i 0):=by
 have e:L.getD i 0=L[i]:=by simp[hi]
 rw[e];exact h _ (zh hi)
def cq (L:List Nat) (i:Nat) (hi:i<L.length):L.take (i+1)=L.take i++[L.getD i 0]:=by
 have e:L.getD i 0=L[i]:=by simp[hi]
 rw[e,qg hi]
def i6 (L:List Nat) (h:∀ x ∈ L,M.isL x):∀ i,i<=L.length->(cW (fun t=>L.getD t 0) i=true↔5<=(M.eP (L.take i)).2):=by
 intro i hi;by_cases h5:5<=i
 .obtain⟨m,rfl⟩ : ∃ m,i=m+5:=⟨i-5,om⟩
  have e:L.take (m+5)=L.take m++[L.getD m 0]++[L.getD (m+1) 0]++[L.getD (m+2) 0]++[L.getD (m+3) 0]++[L.getD (m+4) 0]:=by
   rw[cq L (m+4) om,cq L (m+3) om,cq L (m+2) om,cq L (m+1) om,cq L m om]
  rw[e,M.FG];simp only[cW,show m+5-1=m+4 by omega,show m+5-2=m+3 by omega,show m+5-3=m+2 by omega,show m+5-4=m+1 by omega,show m+5-5=m by omega];simp;constructor
  .rintro⟨⟨⟨a,b⟩,c⟩,d⟩;exact⟨a,b,c,d⟩
  .rintro⟨a,b,c,d⟩;exact⟨⟨⟨a,b⟩,c⟩,d⟩
 .have:=M.Et (L.take i);rw[qj] at this;simp[cW];omega
structure Cp (L:List Nat) (i:Nat) (k:Wk):Prop where
 rel:Rel k (sw L i).2.1
 code:k.code=(sw L i).1
 due:k.due=(sw L i).2.2
 last:k.last=M.eP (L.take i)
 run:k.field<=11->k.last.2<=5
 inn:k.field<=14
def EC (L:List Nat):Cp L 0 Wk.init:=⟨yn,rfl,rfl,by simp[Wk.init,M.eP],fun _=>by decide,by decide⟩
def Wk.keepadv_last (k:Wk) (b:Nat):((k.keep b).adv).last=k.last:=by rw[sc,jI]
def oW (k:Wk) (b:Nat):k.field<=((k.keep b).adv).field:=by
 unfold Wk.adv;rw[fC];split
 .show _<=Wk.fafter _ _;unfold Wk.fafter;split
  .omega
  .split <;> omega
 .exact nR _
def zR (L:List Nat) (hL:∀ x ∈ L,M.isL x) (j:Nat) (hj:j<=L.length) (k:Wk) (p:List Nat) (hr:Rel k p) (hl:k.last=M.eP (L.take j)) (hrun:k.field<=11->k.last.2<=5) :
  k.due=(cW (fun t=>L.getD t 0) j && (decide (ar p<=10) || decide (ar p=11))):=by
 have hf:ar p=k.field:=by rw[eS,hr.field]
 have hd:=i6 L hL j hj;rw[<- hl] at hd;rw[zg];unfold Wk.due;simp only[qx,Bool.or_eq_true,qQ];rw[hd,hf];constructor
 .rintro⟨a,b⟩;exact⟨om,om⟩
 .rintro⟨a,b⟩;exact⟨om,by have:=hrun om;omega⟩
def vQ (L:List Nat) (hL:∀ x ∈ L,M.isL x) (i:Nat) (hi:i<L.length) (k:Wk) (h:Cp L i k) :
  (k.take (L.getD i 0)).2=(sw L (i+1)).1/\Vals (k.take (L.getD i 0)).1 (sw L (i+1)).2.1 /\
  (av (sw L (i+1)).1=true->Cp L (i+1) { (k.take (L.getD i 0)).1 with code:=(k.take (L.getD i 0)).2 }):=by
 have hc:=pM hL i hi;have ht:M.eP (L.take (i+1))=M.C0 k.last (L.getD i 0):=by rw[cq L i hi,M.de,h.last]
 have hs:sw L (i+1)=dW L i (sw L i):=rfl;have hlen:(sw L i).2.1.length<aY (sw L i).2.1\/(sw L i).2.1.length<cv (sw L i).2.1+25:=by
  have a:=h.rel.field;have b:=h.inn;have c:=Fh (sw L i).2.1.length _ _ (bz (sw L i).2.1) (cI (sw L i).2.1);omega
 by_cases hd:k.due=true
 .have hsd:(sw L i).2.2=true:=by rw[<- h.due];exact hd
  have hk:k.field<=11/\k.last.2=5:=by simpa[Wk.due] using hd
  obtain⟨m,rfl⟩ : ∃ m,i=m+1:=by
   cases i with
   | zero=>cases hsd
   | succ m=>exact⟨m,rfl⟩
  have hlast:k.last.1=L.getD m 0:=by rw[h.last,cq L m om,M.de,M.rv]
  by_cases he:L.getD (m+1) 0=k.last.1
  .have e1:k.take (L.getD (m+1) 0)=(k,3):=by unfold Wk.take;rw[zc ⟨hd,he⟩]
   have e2:(sw L (m+1+1)).1=3:=by
    rw[hs];show (if (sw L (m+1)).2.2=true then _ else _)=3;rw[zc hsd,zc (by rw[he,hlast];rfl)]
   have e3:(sw L (m+1+1)).2.1=(sw L (m+1)).2.1:=by
    rw[hs];show (if (sw L (m+1)).2.2=true then _ else _)=_;rw[zc hsd]
   rw[e1,e2,e3];refine⟨rfl,h.rel.toVals,fun hg=>?_⟩;cases hg
  .have e1:k.take (L.getD (m+1) 0)=(k.heard (L.getD (m+1) 0),0):=by unfold Wk.take;rw[zb (fun a=>he a.2),zc hd]
   have e2:(sw L (m+1+1)).1=0:=by
    rw[hs];show (if (sw L (m+1)).2.2=true then _ else _)=0;rw[zc hsd,zb (by rw[Nat.add_sub_cancel,<- hlast];exact he)]
   have e3:(sw L (m+1+1)).2.1=(sw L (m+1)).2.1:=by
    rw[hs];show (if (sw L (m+1)).2.2=true then _ else _)=_;rw[zc hsd]
   have e4:(sw L (m+1+1)).2.2=(cW (fun t=>L.getD t 0) (m+1+1) && (decide (ar (sw L (m+1+1)).2.1<=10) || decide (ar (sw L (m+1+1)).2.1=11))):=rfl;rw[e1,e2,e3];have hr:=h.rel.heard (L.getD (m+1) 0);have hl2:(k.heard (L.getD (m+1) 0)).last=M.eP (L.take (m+1+1)):=ht.symm;have hrun2:(k.heard (L.getD (m+1) 0)).field<=11->(k.heard (L.getD (m+1) 0)).last.2<=5:=by
    intro _;show (M.C0 k.last _).2<=5;unfold M.C0;rw[zb he];show 1<=5;decide
   refine⟨rfl,hr.toVals,fun _=>⟨?_,e2.symm,?_,hl2,hrun2,h.inn⟩⟩
   .rw[e3];exact hr.code 0
   .rw[e4,e3];exact zR L hL (m+1+1) hi (k.heard (L.getD (m+1) 0)) _ hr hl2 hrun2
 .have hsd:¬ (sw L i).2.2=true:=by rw[<- h.due];exact hd
  have e1:k.take (L.getD i 0)=(((k.heard (L.getD i 0)).keep (L.getD i 0-48)).adv,(k.heard (L.getD i 0)).plainCode (L.getD i 0-48)):=by
   unfold Wk.take;rw[zb (fun a=>hd a.1),zb hd]
  have e2:(sw L (i+1)).1=cF (sw L i).2.1 (L.getD i 0):=by
   rw[hs];show (if (sw L i).2.2=true then _ else _)=_;rw[zb hsd]
  have e3:(sw L (i+1)).2.1=(sw L i).2.1++[L.getD i 0]:=by
   rw[hs];show (if (sw L i).2.2=true then _ else _)=_;rw[zb hsd]
  have e4:(sw L (i+1)).2.2=(cW (fun t=>L.getD t 0) (i+1) && (decide (ar (sw L (i+1)).2.1<=10) || decide (ar (sw L (i+1)).2.1=11))):=rfl;have hr:=ym _ _ _ hc (h.rel.heard (L.getD i 0)) hlen;have hlk:=Bj (h.rel.heard (L.getD i 0)) (gZ L hL i om) (L.getD i 0) hc;have hl2:(((k.heard (L.getD i 0)).keep (L.getD i 0-48)).adv).last=M.eP (L.take (i+1)):=by rw[Wk.keepadv_last];exact ht.symm
  have hrun2:(((k.heard (L.getD i 0)).keep (L.getD i 0-48)).adv).field<=11->(((k.heard (L.getD i 0)).keep (L.getD i 0-48)).adv).last.2<=5:=by
   intro hf;have h1:=oW (k.heard (L.getD i 0)) (L.getD i 0-48);have h2:k.field<=11:=nT h1 hf;rw[Wk.keepadv_last];show (M.C0 k.last _).2<=5;have h3:=M.vd k.last (L.getD i 0);have h4:=h.run h2;have h5:¬ k.last.2=5:=fun e=>hd (by simp[Wk.due,h2,e]);omega
  rw[e1,e3];refine⟨by rw[e2];exact hlk,hr.toVals,fun hg=>⟨?_,by rw[e2];exact hlk,?_,hl2,hrun2,?_⟩⟩
  .rw[e3];exact hr.code _
  .rw[e4,e3];exact zR L hL (i+1) hi (((k.heard (L.getD i 0)).keep (L.getD i 0-48)).adv) _ hr hl2 hrun2
  .show (((k.heard (L.getD i 0)).keep (L.getD i 0-48)).adv).field<=14;rw[hr.field];have hH:=bz (sw L i).2.1;have hE:=cI (sw L i).2.1;have a:=Fh ((sw L i).2.1++[L.getD i 0]).length _ _ (bz ((sw L i).2.1++[L.getD i 0])) (cI ((sw L i).2.1++[L.getD i 0]));rw[qe,qm] at a ⊢;refine Classical.byContradiction fun hno=>?_;have hno:=a.1 hno;have hH':=bz ((sw L i).2.1++[L.getD i 0]);have hE':=cI ((sw L i).2.1++[L.getD i 0]);have b1:aY (sw L i).2.1<=(sw L i).2.1.length:=by
    have:=cT (sw L i).2.1 (L.getD i 0) om;omega
   have b2:=fj (sw L i).2.1 (L.getD i 0) b1;have b3:(sw L i).2.1.length=cv (sw L i).2.1+24:=om;have b4:ar (sw L i).2.1=14:=by rw[eS,Fi _ _ _ hH hE];omega
   rw[e2] at hg;unfold cF at hg;rw[b4,uT b1] at hg;simp[b3,av] at hg;split at hg <;> omega
def Vals.code {k:Wk} (h:Vals k p) (c:Nat):Vals { k with code:=c } p:={ ext:=h.ext,rtr:=h.rtr,dlc:=h.dlc,sum:=h.sum,crc:=h.crc,id:=h.id,data:=h.data }
def mK (L:List Nat) (hL:∀ x ∈ L,M.isL x):∀ f i (k:Wk),i+f=L.length->Cp L i k->av (sw L i).1=true ->
  (k.over (L.drop i)).code=(swF L f i).1/\(av (swF L f i).1=true->(k.over (L.drop i)).field=ar (swF L f i).2.1/\(k.over (L.drop i)).due=(swF L f i).2.2/\(k.over (L.drop i)).crcOk=cA (swF L f i).2.1) /\
  ((swF L f i).1≠7->Vals (k.over (L.drop i)) (swF L f i).2.1)
 | 0,i,k,hi,h,hg=>by
  rw[qq om];show k.code=(sw L i).1/\(_->k.field=ar (sw L i).2.1/\k.due=(sw L i).2.2/\k.crcOk=cA (sw L i).2.1)/\(_->Vals k (sw L i).2.1)
  exact⟨h.code,fun _=>⟨by rw[eS,h.rel.field],h.due,rP h.rel (gZ L hL i om)⟩,fun _=>h.rel.toVals⟩
 | f+1,i,k,hi,h,hg=>by
  have hlt:i<L.length:=om;have e:L.getD i 0=L[i]:=by simp[hlt]
  obtain⟨s1,s2,s3⟩:=vQ L hL i hlt k h;have ed:L.drop i=L.getD i 0 :: L.drop (i+1):=by rw[e];exact List.drop_eq_getElem_cons hlt
  have eF:swF L (f+1) i=swF L f (i+1):=by
   show (if av (sw L i).1=true then _ else _)=_;rw[zc hg]
  rw[ed,eF]
  have eo:k.over (L.getD i 0 :: L.drop (i+1))=if av (k.take (L.getD i 0)).2=true then Wk.over { (k.take (L.getD i 0)).1 with code:=(k.take (L.getD i 0)).2 } (L.drop (i+1))
   else if L.drop (i+1)=[] then { (k.take (L.getD i 0)).1 with code:=(k.take (L.getD i 0)).2 } else { (k.take (L.getD i 0)).1 with code:=7 }:=rfl
  rw[eo];by_cases hg2:av (sw L (i+1)).1=true
  .rw[zc (by rw[s1];exact hg2)];exact mK L hL f (i+1) _ om (s3 hg2) hg2
  .rw[zb (by rw[s1];exact hg2)];cases f with
   | zero=>
    rw[zc (qq om)];show (k.take (L.getD i 0)).2=(sw L (i+1)).1/\(av (sw L (i+1)).1=true->_)/\(_->Vals _ (sw L (i+1)).2.1)
    exact⟨s1,fun a=>Qz a hg2,fun _=>s2.code _⟩
   | succ f=>
    have hne:¬ L.drop (i+1)=[]:=by rw[List.drop_eq_nil_iff];omega
    have eF2:swF L (f+1) (i+1)=(7,(sw L (i+1)).2.1,false):=by
     show (if av (sw L (i+1)).1=true then _ else _)=_;rw[zb hg2]
    rw[zb hne,eF2];refine⟨rfl,fun a=>?_,fun a=>Qz rfl a⟩;cases a
def IW (L:List Nat) (hL:∀ x ∈ L,M.isL x) :
  (Wk.init.over L).code=(swF L L.length 0).1/\(av (swF L L.length 0).1=true->(Wk.init.over L).field=ar (swF L L.length 0).2.1/\(Wk.init.over L).due=(swF L L.length 0).2.2/\(Wk.init.over L).crcOk=cA (swF L L.length 0).2.1) /\
  ((swF L L.length 0).1≠7->Vals (Wk.init.over L) (swF L L.length 0).2.1):=by
 have:=mK L hL L.length 0 Wk.init om (EC L) rfl;rwa [List.drop_zero] at this
end Go.Proofs.YtnfmjckkibdcaaaGreatDoor
namespace Go.Proofs.YtnfmjckkibdcaaaGreatDoor.M
set_option linter.all false
def BS (r s:Nat):(2*(r ^^^ s)) % 32768=((2*r) % 32768) ^^^ ((2*s) % 32768):=by
 have e:2*(r ^^^ s)=(2*r) ^^^ (2*s):=by
  apply Nat.eq_of_testBit_eq;intro i;cases i with
  | zero=>simp
  | succ i=>rw[Nat.testBit_xor,Nat.testBit_succ,Nat.testBit_succ,Nat.testBit_succ];simp[Nat.testBit_xor]
 rw[e];exact Nat.xor_mod_two_pow (n:=15)
def AG (r s:Nat) (hr:r<32768) (hs:s<32768):(r ^^^ s) / 16384=(r / 16384+s / 16384) % 2:=by
 have h1:(r ^^^ s) / 16384=(r / 16384) ^^^ (s / 16384):=by
  rw[show (16384:Nat)=2 ^ 14 from rfl,<- Nat.shiftRight_eq_div_pow,<- Nat.shiftRight_eq_div_pow,<- Nat.shiftRight_eq_div_pow,Nat.shiftRight_xor_distrib]
 rw[h1];have ht:r / 16384=0\/r / 16384=1:=om;have hu:s / 16384=0\/s / 16384=1:=om;rcases ht with h | h <;> rcases hu with h' | h' <;> rw[h,h'] <;> rfl
def vO (r s b:Nat) (hr:r<32768) (hs:s<32768) (hb:b<2):dM (r ^^^ s) b=dM r b ^^^ dM s 0:=by
 have ht:r / 16384=0\/r / 16384=1:=om;have hu:s / 16384=0\/s / 16384=1:=om;have hx:=AG r s hr hs;have hd:=BS r s
 have c1:∀ x y:Nat,x ^^^ 17817 ^^^ (y ^^^ 17817)=x ^^^ y:=fun x y=>by
  rw[Nat.xor_comm y,<- Nat.xor_assoc,Nat.xor_assoc x,Nat.xor_self,Nat.xor_zero]
 have c2:∀ x y:Nat,x ^^^ 17817 ^^^ y=x ^^^ y ^^^ 17817:=fun x y=>by rw[Nat.xor_assoc,Nat.xor_comm 17817,Nat.xor_assoc]
 have c3:∀ x y:Nat,x ^^^ (y ^^^ 17817)=x ^^^ y ^^^ 17817:=fun x y=>by rw[Nat.xor_assoc]
 unfold dM;rw[hx,hd];rcases (show b=0\/b=1 by omega) with rfl | rfl <;> rcases ht with h | h <;> rcases hu with h' | h' <;> rw[h,h'] <;> simp[c1,c2,c3]
def oct (o:Nat):List Nat:=[o / 128 % 2,o / 64 % 2,o / 32 % 2,o / 16 % 2,o / 8 % 2,o / 4 % 2,o / 2 % 2,o % 2]
def S8 (r o:Nat):Nat:=(oct o).foldl dM r
def kj (k:Nat):Nat:=S8 (128*k) 0
def zF (bs:List Nat):∀ r,r<32768->bs.foldl dM r<32768:=by
 induction bs with
 | nil=>intro r h;exact h
 | cons b bs ih=>intro r h;exact ih _ (fW _ _)
def wZ (bs:List Nat) (hb:∀ x ∈ bs,x<2):∀ r s,r<32768->s<32768->bs.foldl dM (r ^^^ s)=bs.foldl dM r ^^^ (bs.map fun _=>0).foldl dM s:=by
 induction bs with
 | nil=>intro r s _ _;rfl
 | cons b bs ih=>
  intro r s hr hs;show bs.foldl dM (dM (r ^^^ s) b)=_;rw[vO r s b hr hs (hb b pQ)];exact ih (fun x hx=>hb x (by simp[hx])) _ _ (fW _ _) (fW _ _)
def yG (o:Nat):∀ x ∈ oct o,x<2:=by
 intro x hx;simp only[oct,Qx,Qg,or_false] at hx;omega
def Fz (r o:Nat) (h:r<32768):S8 r o<32768:=zF _ _ h
def ui (r s o:Nat) (hr:r<32768) (hs:s<32768):S8 (r ^^^ s) o=S8 r o ^^^ S8 s 0:=wZ (oct o) (yG o) r s hr hs
set_option maxRecDepth 100000 in
def Cq:∀ o,o<256->S8 0 o=kj o:=by decide
set_option maxRecDepth 100000 in
def Ee:∀ l,l<128->S8 l 0=256*l:=by decide
set_option maxRecDepth 100000 in
def FI (k:Nat) (h:k<256):kj k<32768:=Fz _ _ om
def Bc (a b:Nat):128*(a ^^^ b)=(128*a) ^^^ (128*b):=by
 have e:∀ x:Nat,128*x=x <<< 7:=fun x=>by rw[Nat.shiftLeft_eq];omega
 rw[e,e,e,Nat.shiftLeft_xor_distrib]
def AL (h o:Nat) (hh:h<256) (ho:o<256):kj (h ^^^ o)=kj h ^^^ kj o:=by
 unfold kj;rw[Bc];exact ui (128*h) (128*o) 0 om om
def vP (r:Nat):r=(128*(r / 128)) ^^^ (r % 128):=by
 have h:=Qe (i:=7) (b:=r % 128) om (r / 128);have h2:2 ^ 7*(r / 128) ||| r % 128=(2 ^ 7*(r / 128)) ^^^ (r % 128):=by
  apply Nat.eq_of_testBit_eq;intro i;rw[Nat.testBit_or,Nat.testBit_xor];by_cases hi:i<7
  .have:(2 ^ 7*(r / 128)).testBit i=false:=by
    rw[Nat.testBit_two_pow_mul];simp;omega
   rw[this];simp
  .have:(r % 128).testBit i=false:=by
    rw[show (128:Nat)=2 ^ 7 from rfl,Nat.testBit_mod_two_pow];simp;omega
   rw[this];simp
 have h3:2 ^ 7*(r / 128)+r % 128=r:=om;rw[h3,h2] at h;exact h
def Gb (r o:Nat) (hr:r<32768) (ho:o<256):S8 r o=(r*256 % 32768) ^^^ kj ((r / 128) ^^^ o):=by
 have e0:S8 r o=S8 0 o ^^^ S8 r 0:=by
  have:=ui 0 r o (by decide) hr;rw[Nat.zero_xor] at this;exact this
 have e1:S8 r 0=kj (r / 128) ^^^ 256*(r % 128):=by
  have h1:=ui (128*(r / 128)) (r % 128) 0 om om;rw[<- vP r,Ee (r % 128) om] at h1;exact h1
 have e2:r*256 % 32768=256*(r % 128):=om;rw[e0,e1,e2,Cq o ho,AL _ _ om ho,Nat.xor_comm,Nat.xor_comm (kj (r / 128)) (256*(r % 128)),Nat.xor_assoc]
def Dt:Nat->Nat
 | 0=>16384
 | j+1=>dM (Dt j) 0
def FC (j:Nat):Dt j<32768:=by
 cases j with
 | zero=>decide
 | succ j=>exact fW _ _
set_option maxRecDepth 100000 in
def Ex:∀ j,j<8->∀ rest,rest<128->rest<2 ^ j->kj (2 ^ j ||| rest)=Dt (j+1) ^^^ kj rest:=by decide
def Ew:kj 0=0:=by decide
end Go.Proofs.YtnfmjckkibdcaaaGreatDoor.M
namespace Go.Proofs.YtnfmjckkibdcaaaGreatDoor
set_option linter.all false
open Go.RowKit
def wg {N:Nat} {l:List Nat} (h:okP (N:Int) l=true):N<=4000/\N<=64*l.length/\l.length<=1000:=by
 simp only[okP,qx,qQ] at h;omega
end Go.Proofs.YtnfmjckkibdcaaaGreatDoor
