import Derived.Test.YtgfolecanghhhaaGreatK11
namespace Go.Proofs.YtgfolecanghhhaaGreat
open Go.Proofs.Tryz
open Option renaming none->nn,some->sQ
open Go renaming World->Wd
set_option maxRecDepth 20000
open Go.RowKit
set_option linter.all false
set_option maxHeartbeats 16000000
open Go.Value renaming int->I,slice->sL,bool->bO,pointer->pT,agg->aG
open Go.IntKind renaming i64->J
open Go.Ending renaming returned->rT
open Go.Proofs.Tryz renaming prog->Tp
section
variable {W W':Wd} {b i n:Nat} {e r:Bool} {d:Int}
namespace M
def num (v:Nat):Nat->List Nat
 | 0=>[]
 | n+1=>num (v / 2) n++[48+v % 2]
def DD (n v:Nat):(num v n).length=n:=by
 induction n generalizing v with
 | zero=>rfl
 | succ n ih=>simp[num,ih]
def FD (n v:Nat):∀ x ∈ num v n,isL x:=by
 induction n generalizing v with
 | zero=>intro x hx;cases hx
 | succ n ih=>
  intro x hx;simp only[num,qB,Qt] at hx;rcases hx with hx|rfl
  .exact ih _ x hx
  .unfold isL;omega
def Eo (b v:Nat):∀ a,num v (a+b)=num (v / 2 ^ b) a++num v b:=by
 induction b generalizing v with
 | zero=>intro a;simp[num]
 | succ b ih=>
  intro a;have e1:a+(b+1)=(a+b)+1:=om;have e2:v / 2 ^ (b+1)=v / 2 / 2 ^ b:=by rw[qH,Qs,qX]
  rw[e1,num,ih,num,e2,qp]
end M
def bQ (l m:List Nat):ae l++ae m=ae (l++m):=by
 unfold ae;apply ByteArray.ext;simp
def aN (l:List Nat):(ae l).size=l.length:=by
 unfold ae;simp[ByteArray.size]
def og (n:Nat):∀ (v:Nat) (w:Wd),n<=64->v<4611686018427387904 ->
  Calls Tp 53 #[I J v,I J n] w fun o w'=>o = rT (.string (ae (M.num v n)))/\w=w':=by
 induction n with
 | zero=>
  intro v w _ hv;go_enter func53,ntmps53;go_wp2;go_ret;exact⟨rfl,rfl⟩
 | succ n ih=>
  intro v w hn hv;have IH:Hid (∀ (v:Nat) (w:Wd),n<=64->v<4611686018427387904->Calls Tp 53 #[I J v,I J n] w fun o w'=>o = rT (.string (ae (M.num v n)))/\w=w'):=ih;clear ih;have hl:(ae (M.num (v / 2) n)).size<=64:=by rw[aN,M.DD];omega
  by_cases hb:v % 2=1
  .have hb':(((v:Int) % 2) == 1)=true:=by simp;omega
   have HE:Hid (ae (M.num v (n+1))=ae (M.num (v / 2) n)++ae [49]):=by rw[bQ,M.num,hb];exact rfl
   clear hb;go_enter func53,ntmps53;go_wp2_with fail;refine (IH.o (v / 2) _ om om).mono ?_;rintro o w1 ⟨rfl,rfl⟩;go_wp2;go_ret;exact⟨cg HE.o.symm,rfl⟩
  .have hb':(((v:Int) % 2) == 1)=false:=by simp;omega
   have hb0:v % 2=0:=om;have HE:Hid (ae (M.num v (n+1))=ae (M.num (v / 2) n)++ae [48]):=by rw[bQ,M.num,hb0];exact rfl
   clear hb hb0;go_enter func53,ntmps53;go_wp2_with fail;refine (IH.o (v / 2) _ om om).mono ?_;rintro o w1 ⟨rfl,rfl⟩;go_wp2;go_ret;exact⟨cg HE.o.symm,rfl⟩
def zG (r:Bool) (w:Wd):Calls Tp 115 #[bO r] w fun o w'=>o = rT (.string (ae [48+r.toNat]))/\w=w':=by
 cases r
 .go_enter func115,ntmps115;go_wp2;go_ret;exact⟨rfl,rfl⟩
 .go_enter func115,ntmps115;go_wp2;go_ret;exact⟨rfl,rfl⟩
def yH (v c m:Nat) (h:m<c):M.num (v / 2 ^ m) (c-m)=M.num (v / 2 ^ (m+1)) (c-(m+1))++[48+v / 2 ^ m % 2]:=by
 have e:v / 2 ^ m / 2=v / 2 ^ (m+1):=by
  rw[qX,<- qH]
 have e2:c-m=(c-(m+1))+1:=om;rw[e2,M.num,e]
def Eb (x m:Nat) (hx:x<4294967296):(48+bits BinOp.and IntKind.u32 ((x:Int) / 2 ^ m) 1) % 256=((48+x / 2 ^ m % 2:Nat):Int):=by
 have e:(x:Int) / 2 ^ m=((x / 2 ^ m:Nat):Int):=pQ;have hy:x / 2 ^ m<4294967296:=Qi (Nat.div_le_self _ _) hx;rw[e,show (1:Int)=((1:Nat):Int) from rfl,u32_and_nat _ _ hy om,nat_mask1];omega
def aV (w:Wd) (B:Nat) (v:Value) (l:List Nat) (x c:Nat) (hown:aa w B v l) (hB:B<=w.heap.size) (hl:l.length<=10000) (hx:x<4294967296) (hc:c<=32) :
  Calls Tp 150 #[v,I .u32 x,I J c] w fun o w'=>∃ v',o = rT v'/\aa w' B v' (l++M.num x c)/\Below B w w'/\Lib.OthersKept 5 nn w w':=by
 go_enter func150,ntmps150;go_wp2;go_loopw [0,7] (fun v i wr=>∃ q:Nat,q<=c/\i = I J ((q:Int)-1)/\aa wr B v (l++M.num (x / 2 ^ q) (c-q))/\Below B w wr/\Lib.OthersKept 5 nn w wr/\B<=wr.heap.size) (fun _ i _=>(intOf i+1).toNat);case atStart=>exact⟨c,nR _,rfl,by simpa[M.num] using hown,bW _ _,QV _ _ _,hB⟩
 case round=>
  have hB0:=hB;clear hown hB;obtain⟨q,hq,rfl,hown,hbel,hok,hB⟩:=hrel;by_cases hq0:q=0
  .subst hq0;rw[Nat.sub_zero,Nat.pow_zero,Nat.div_one] at hown;go_wp2;go_ret;exact⟨_,rfl,hown,hbel,hok⟩
  .obtain⟨m,rfl⟩ : ∃ m,q=m+1:=⟨q-1,om⟩
   have hll:(l++M.num (x / 2 ^ (m+1)) (c-(m+1))).length<=20000:=by rw[qe,M.DD];omega
   have HN:Hid (l++M.num (x / 2 ^ m) (c-m)=(l++M.num (x / 2 ^ (m+1)) (c-(m+1)))++[48+x / 2 ^ m % 2]):=by rw[yH x c m om,qp];exact rfl
   generalize l++M.num (x / 2 ^ (m+1)) (c-(m+1))=l1 at *;go_wp2_with (at_builtin;refine Gk w wr rfl (.tmp 14) (.tmp 21) rfl B _ l1 (48+x / 2 ^ m % 2) _ (Eb x m hx) rfl hown rfl om hB hbel ?_);intro v3 w3 ho3 hb3 hk3;have hz3:B<=w3.heap.size:=nT hB0 hb3.size;clear hown hbel hB;go_wp2;go_roundw;case rel=>exact⟨m,om,by go_num,by rw[HN.o];exact ho3,hb3,hok.trans hk3,hz3⟩
   case measure=>simp[intOf]
def eO (e:Bool) (i:Nat) (r:Bool):List Nat:=
 if e=true then M.num (i / 2 ^ 18) 11++[49,49]++M.num i 18++[48+r.toNat] else M.num i 11++[48+r.toNat]++[48]
def mY:M.num 0 1=[48]:=rfl
def uQ:M.num 1 1=[49]:=rfl
def vm {ops:Array Oper} {rest:List Oper} {o:Oper} {a:Act} {Q:Exit->Act->Wd->Prop} (w0 wr:Wd) (hgd:o.guard=nn) (s x:Operand)
  (ho:o.op = .call { callee:=.builtin .append,args:=#[s,x],argTypes:=#[65,65] })
  (B:Nat) (v:Value) (l:List Nat) (c d:Nat) (hs:a.eval s=v) (hown:aa wr B v l)
  (hx:a.eval x = sL (sQ ⟨wr.heap.size,0,nn⟩) 2 2) (hlen:l.length<=100000000) (hB:B<=wr.heap.size) (hbel:Below B w0 wr)
  (h:∀ v' w',aa w' B v' (l++[c,d])->Below B w0 w'->Lib.OthersKept 5 nn wr w'->wpList Tp ops Q rest (a.put o.dst v') w') :
  wpList Tp ops Q (o :: rest) a (wr.alloc (.cells #[I .u8 (c:Int),I .u8 (d:Int)] 5)):=by
 obtain⟨i0,hi,hz0,hz1,hz2⟩:=QW info5;refine Q1 _ hgd s x 65 ho B 5 i0 (I .u8 0) 1 1 underlying65 hi hz0 hz1 hz2 rfl (by decide) v l.length (bv l) hs (QM hown _) ⟨wr.heap.size,0,nn⟩ 2 2 [I .u8 (c:Int),I .u8 (d:Int)] hx rfl ?_ ?_ ?_ ?_ ?_ ?_
 .exact cell_two_new wr (I .u8 (c:Int)) (I .u8 (d:Int)) 5
 .intro u hu;simp at hu;rcases hu with rfl | rfl <;> rfl
 .unfold maxLen;omega
 .omega
 .simp;omega
 .intro v' w' ho' hg _;have hr:∀ k,v.ownBlock=sQ k->B<=k:=fun k hk=>(QB hown k hk).1;refine h v' w' ?_ ((hbel.alloc hB _).grown hg (by simp;omega) hr) (((QV 5 nn wr).alloc _).grown hg ?_)
  .have e1:bv (l++[c,d])=bv l++[I .u8 (c:Int),I .u8 (d:Int)]:=by simp[bv]
   unfold aa;rw[e1,qe];exact ho'
  .intro g hg';exact aa.kind (B:=B) (l:=l) (QM hown _) g hg'
def jw {o:Obj} (h:W.heap[b]?=sQ o) (hk:Lib.OthersKept 5 nn W W') (ho:∀ c fz,o≠.cells c 5 fz):W'.heap[b]?=sQ o:=hk b o h pQ ho
def oL (e:Bool) (i:Nat) (r:Bool) (d:Int) (a:Option Addr) (n cap:Nat):∀ c fz,frC e i r d a n cap 67≠.cells c 5 fz:=by
 intro c fz h;cases h
def cn {a:Option Addr} {cap:Nat} (h:W.heap[b]?=sQ (frC e i r d a n cap 67)) :
  W.cell? ⟨b,0,nn⟩=sQ (bO e)/\W.cell? ⟨b,1,nn⟩=sQ (I .u32 (i:Int))/\W.cell? ⟨b,2,nn⟩=sQ (bO r)/\W.cell? ⟨b,3,nn⟩=sQ (I J d)/\W.cell? ⟨b,4,nn⟩=sQ (sL a n cap):=by
 refine⟨?_,?_,?_,?_,?_⟩ <;> simp[World.cell?,h]
def mG (w:Wd) (B:Nat) (v:Value) (l:List Nat) (hown:aa w B v l) (hB:B<=w.heap.size) (hl:l.length<=1000)
  (e:Bool) (i:Nat) (r:Bool) (d:Int) (a:Option Addr) (n cap:Nat) (hi:i<4294967296) :
  Calls Tp 192 #[v,frV e i r d a n cap] w fun o w'=>∃ v',o = rT v'/\aa w' B v' (l++eO e i r)/\Below B w w'/\Lib.OthersKept 5 nn w w':=by
 have hown1:aa (w.alloc (frC e i r d a n cap 67)) B v l:=QM hown _;have hbox:=QN w (frC e i r d a n cap 67);have hbel1:Below B w (w.alloc (frC e i r d a n cap 67)):=(bW _ _).alloc hB _;have hok1:Lib.OthersKept 5 nn w (w.alloc (frC e i r d a n cap 67)):=(QV 5 nn w).alloc _;have hz1:B<=(w.alloc (frC e i r d a n cap 67)).heap.size:=by simp;omega
 have HALL:Hid (aa (w.alloc (frC e i r d a n cap 67)) B v l/\(w.alloc (frC e i r d a n cap 67)).heap[w.heap.size]?=sQ (frC e i r d a n cap 67)/\Below B w (w.alloc (frC e i r d a n cap 67))/\Lib.OthersKept 5 nn w (w.alloc (frC e i r d a n cap 67))/\B<=(w.alloc (frC e i r d a n cap 67)).heap.size):=⟨hown1,hbox,hbel1,hok1,hz1⟩
 clear hown1 hbox hbel1 hok1 hz1 hown;cases e
 .cases r
  .go_enter func192,ntmps192;go_wp2_with fail;refine (aV _ B v l i 11 HALL.o.1 HALL.o.2.2.2.2 om hi om).mono ?_;rintro o w2 ⟨v2,rfl,ho2,hb2,hk2⟩;go_wp2_with fail;have hz2:B<=w2.heap.size:=nT HALL.o.2.2.2.2 hb2.size;refine (aV _ B v2 _ 0 1 ho2 hz2 (by simp[M.DD];omega) om om).mono ?_;rintro o w3 ⟨v3,rfl,ho3,hb3,hk3⟩;have hz3:B<=w3.heap.size:=nT hz2 hb3.size;go_wp2_with (at_builtin;refine Gk w3 w3 rfl (.tmp 18) (.tmp 19) rfl B _ _ 48 _ rfl rfl ho3 rfl (by simp[M.DD];omega) hz3 (bW _ _) ?_);intro v4 w4 ho4 hb4 hk4;go_wp2;go_ret;refine⟨_,rfl,?_,HALL.o.2.2.1.trans (hb2.trans (hb3.trans hb4)),HALL.o.2.2.2.1.trans (hk2.trans (hk3.trans hk4))⟩;have hfin:aa w4 B v4 (l++eO false i false):=by simpa[eO,mY,uQ] using ho4
   exact hfin
  .go_enter func192,ntmps192;go_wp2_with fail;refine (aV _ B v l i 11 HALL.o.1 HALL.o.2.2.2.2 om hi om).mono ?_;rintro o w2 ⟨v2,rfl,ho2,hb2,hk2⟩;go_wp2_with fail;have hz2:B<=w2.heap.size:=nT HALL.o.2.2.2.2 hb2.size;refine (aV _ B v2 _ 1 1 ho2 hz2 (by simp[M.DD];omega) om om).mono ?_;rintro o w3 ⟨v3,rfl,ho3,hb3,hk3⟩;have hz3:B<=w3.heap.size:=nT hz2 hb3.size;go_wp2_with (at_builtin;refine Gk w3 w3 rfl (.tmp 18) (.tmp 19) rfl B _ _ 48 _ rfl rfl ho3 rfl (by simp[M.DD];omega) hz3 (bW _ _) ?_);intro v4 w4 ho4 hb4 hk4;go_wp2;go_ret;refine⟨_,rfl,?_,HALL.o.2.2.1.trans (hb2.trans (hb3.trans hb4)),HALL.o.2.2.2.1.trans (hk2.trans (hk3.trans hk4))⟩;have hfin:aa w4 B v4 (l++eO false i true):=by simpa[eO,mY,uQ] using ho4
   exact hfin
 .cases r
  .have hdv:((i:Int) / 262144)=((i / 2 ^ 18:Nat):Int):=om;have HDV:Hid (((i:Int) / 262144)=((i / 2 ^ 18:Nat):Int)):=hdv;clear hdv;go_enter func192,ntmps192;go_wp2_with fail;rw[HDV.o];refine (aV _ B v l (i / 2 ^ 18) 11 HALL.o.1 HALL.o.2.2.2.2 om om om).mono ?_;rintro o w2 ⟨v2,rfl,ho2,hb2,hk2⟩;have hz2:B<=w2.heap.size:=nT HALL.o.2.2.2.2 hb2.size;have hx2:=jw HALL.o.2.1 hk2 (oL _ _ _ _ _ _ _);go_wp2_with (at_builtin;refine vm w2 w2 rfl (.tmp 26) (.tmp 27) rfl B _ _ 49 49 rfl ho2 rfl (by simp[M.DD];omega) hz2 (bW _ _) ?_);intro v3 w3 ho3 hb3 hk3;have hz3:B<=w3.heap.size:=nT hz2 hb3.size;have hx3:=cn (jw hx2 hk3 (oL _ _ _ _ _ _ _));have HX2:Hid True:=trivial;clear hx2 HX2;go_wp2_with fail;refine (aV _ B v3 _ i 18 ho3 hz3 (by simp[M.DD];omega) hi om).mono ?_;rintro o w4 ⟨v4,rfl,ho4,hb4,hk4⟩;have hz4:B<=w4.heap.size:=nT hz3 hb4.size;clear hx3;go_wp2_with fail;refine (aV _ B v4 _ 0 1 ho4 hz4 (by simp[M.DD];omega) om om).mono ?_;rintro o w5 ⟨v5,rfl,ho5,hb5,hk5⟩;go_wp2;go_ret;refine⟨_,rfl,?_,HALL.o.2.2.1.trans (hb2.trans (hb3.trans (hb4.trans hb5))),HALL.o.2.2.2.1.trans (hk2.trans (hk3.trans (hk4.trans hk5)))⟩;have hfin:aa w5 B v5 (l++eO true i false):=by simpa[eO,mY,uQ] using ho5
   exact hfin
  .have hdv:((i:Int) / 262144)=((i / 2 ^ 18:Nat):Int):=om;have HDV:Hid (((i:Int) / 262144)=((i / 2 ^ 18:Nat):Int)):=hdv;clear hdv;go_enter func192,ntmps192;go_wp2_with fail;rw[HDV.o];refine (aV _ B v l (i / 2 ^ 18) 11 HALL.o.1 HALL.o.2.2.2.2 om om om).mono ?_;rintro o w2 ⟨v2,rfl,ho2,hb2,hk2⟩;have hz2:B<=w2.heap.size:=nT HALL.o.2.2.2.2 hb2.size;have hx2:=jw HALL.o.2.1 hk2 (oL _ _ _ _ _ _ _);go_wp2_with (at_builtin;refine vm w2 w2 rfl (.tmp 26) (.tmp 27) rfl B _ _ 49 49 rfl ho2 rfl (by simp[M.DD];omega) hz2 (bW _ _) ?_);intro v3 w3 ho3 hb3 hk3;have hz3:B<=w3.heap.size:=nT hz2 hb3.size;have hx3:=cn (jw hx2 hk3 (oL _ _ _ _ _ _ _));have HX2:Hid True:=trivial;clear hx2 HX2;go_wp2_with fail;refine (aV _ B v3 _ i 18 ho3 hz3 (by simp[M.DD];omega) hi om).mono ?_;rintro o w4 ⟨v4,rfl,ho4,hb4,hk4⟩;have hz4:B<=w4.heap.size:=nT hz3 hb4.size;clear hx3;go_wp2_with fail;refine (aV _ B v4 _ 1 1 ho4 hz4 (by simp[M.DD];omega) om om).mono ?_;rintro o w5 ⟨v5,rfl,ho5,hb5,hk5⟩;go_wp2;go_ret;refine⟨_,rfl,?_,HALL.o.2.2.1.trans (hb2.trans (hb3.trans (hb4.trans hb5))),HALL.o.2.2.2.1.trans (hk2.trans (hk3.trans (hk4.trans hk5)))⟩;have hfin:aa w5 B v5 (l++eO true i true):=by simpa[eO,mY,uQ] using ho5
   exact hfin
def ag (e:Bool) (i:Nat) (r:Bool) (d:Nat) (l:List Nat):List Nat:=
 [48]++eO e i r++M.num 0 (1+e.toNat)++M.num d 4++l.flatMap (fun x=>M.num x 8)
def pr (e:Bool) (i:Nat) (r:Bool) (d:Nat) (l:List Nat):(ag e i r d l).length=(if e=true then 39 else 19)+8*l.length:=by
 have h8:(l.flatMap (fun x=>M.num x 8)).length=8*l.length:=by
  induction l with
  | nil=>rfl
  | cons a l ih=>rw[qI,qe,ih,M.DD,Qa];omega
 cases e <;> simp[ag,eO,M.DD,h8] <;> omega
def dI (e:Bool) (i:Nat) (r:Bool) (d:Nat) (l:List Nat):∀ x ∈ ag e i r d l,M.isL x:=by
 have hf:∀ x,x=48+r.toNat->M.isL x:=by intro x hx;subst hx;cases r;exact .inl rfl;exact .inr rfl
 have h0:M.isL 48:=.inl rfl;have h1:M.isL 49:=.inr rfl;intro x hx;cases e
 .simp only[ag,eO,qB,List.mem_flatMap,Qt,qM,if_false] at hx;rcases hx with (((rfl|(hx|hx)|hx)|hx)|hx)|⟨y,_,hx⟩
  .exact h0
  .exact M.FD _ _ x hx
  .exact hf x hx
  .subst hx;exact h0
  .exact M.FD _ _ x hx
  .exact M.FD _ _ x hx
  .exact M.FD _ _ x hx
 .simp only[ag,eO,qB,List.mem_flatMap,Qw,Qf,or_false,if_true] at hx;rcases hx with (((rfl|(((hx|hx)|hx)|hx))|hx)|hx)|⟨y,_,hx⟩
  .exact h0
  .exact M.FD _ _ x hx
  .rcases hx with rfl | rfl <;> exact h1
  .exact M.FD _ _ x hx
  .exact hf x hx
  .exact M.FD _ _ x hx
  .exact M.FD _ _ x hx
  .exact M.FD _ _ x hx
def dH {B:Nat} {o:Obj} (h:W.heap[b]?=sQ o) (hb:Below B W W') (hB:b<B):W'.heap[b]?=sQ o:=(hb.block b hB).trans h
def gU (e:Bool) (i:Nat) (r:Bool) (d:Int) (n:Nat) (l:List Nat):ByteArray:=if vB e i r d n=true then ae (ag e i r d.toNat l) else ⟨#[]⟩
def cN (h:vB e i r d n=true):i<536870912/\(e=false->i<2048)/\0<=d/\d<=15/\n<=8:=by
 unfold vB at h;simp only[qw,qV,beq_iff_eq] at h;obtain⟨⟨⟨h1,h2⟩,h3⟩,h4⟩:=h;have h5:=nj r d h2;refine⟨?_,?_,h2,h3,om⟩
 .cases e <;> simp at h1 <;> omega
 .intro he;subst he;simpa using h1
def jK (l:List Nat) (k:Nat) (h:k<l.length) (p:List Nat):p++(l.take (k+1)).flatMap (fun x=>M.num x 8)=p++(l.take k).flatMap (fun x=>M.num x 8)++M.num l[k] 8:=by
 rw[M.uq l k h,List.flatMap_append,qp];simp
def ni (l:List Nat):(l.flatMap (fun x=>M.num x 8)).length=8*l.length:=by
 induction l with
 | nil=>rfl
 | cons a l ih=>rw[qI,qe,ih,M.DD,Qa];omega
def jE (v n:Nat) (w:Wd) (hn:n<=64) (hv:v<4611686018427387904):Calls Tp 53 #[I J v,I J n] w fun o w'=>o = rT (.string (ae (M.num v n)))/\w'=w:=
 (og n v w hn hv).mono fun _ _ h=>⟨h.1,h.2.symm⟩
def lF (r:Bool) (w:Wd):Calls Tp 115 #[bO r] w fun o w'=>o = rT (.string (ae [48+r.toNat]))/\w'=w:=
 (zG r w).mono fun _ _ h=>⟨h.1,h.2.symm⟩
def vM (l:List Nat) (k:Nat):(ae l).extract 0 k=ae (l.take k):=by
 unfold ae;apply ByteArray.ext;simp[ByteArray.data_extract]
def vN (l:List Nat) (k m:Nat) (h:m=l.length):(ae l).extract k m=ae (l.drop k):=by
 subst h;unfold ae;apply ByteArray.ext;simp[ByteArray.data_extract];exact qf pQ
def yJ (v:Nat) (w:Wd) (hv:v<4611686018427387904):Calls Tp 53 #[I J (v:Int),I J 4] w fun o w'=>o = rT (.string (ae (M.num v 4)))/\w'=w:=jE v 4 w om hv
def yI (v:Nat) (w:Wd) (hv:v<4611686018427387904):Calls Tp 53 #[I J (v:Int),I J 8] w fun o w'=>o = rT (.string (ae (M.num v 8)))/\w'=w:=jE v 8 w om hv
def A8 (v:Nat) (w:Wd) (hv:v<4611686018427387904):Calls Tp 53 #[I J (v:Int),I J 11] w fun o w'=>o = rT (.string (ae (M.num v 11)))/\w'=w:=jE v 11 w om hv
def A9 (v:Nat) (w:Wd) (hv:v<4611686018427387904):Calls Tp 53 #[I J (v:Int),I J 29] w fun o w'=>o = rT (.string (ae (M.num v 29)))/\w=w':=og 29 v w om hv
def CD:M.num 0 2=[48,48]:=rfl
def sX (i:Nat):(M.num i 29).take 11=M.num (i / 2 ^ 18) 11:=by
 rw[show (29:Nat)=11+18 from rfl,M.Eo 18 i 11,Qq (by rw[M.DD];omega),qf (by rw[M.DD];omega)]
def sY (i:Nat):(M.num i 29).drop 11=M.num i 18:=by
 rw[show (29:Nat)=11+18 from rfl,M.Eo 18 i 11,List.drop_append_of_le_length (by rw[M.DD];omega),qq (by rw[M.DD];omega),List.nil_append]
def b48:({ data:=#[48] }:ByteArray)=ae [48]:=rfl
def b49:({ data:=#[49] }:ByteArray)=ae [49]:=rfl
def Fw:({ data:=#[48,48] }:ByteArray)=ae [48,48]:=rfl
def pA (w:Wd) (e:Bool) (i:Nat) (r:Bool) (dn:Nat) (a:Option Addr) (n cap:Nat) (l:List Nat) (h:iB w a n cap l) (hv:vB e i r (dn:Int) n=true) :
  Calls Tp 51 #[frV e i r (dn:Int) a n cap] w fun o w'=>o = rT (.string (ae (ag e i r dn l)))/\Bl w w':=by
 obtain⟨hi,hi2,_,hd15,hn8⟩:=cN hv;have HV:Hid (vB e i r (dn:Int) n=true):=hv;have HH:Hid (iB w a n cap l):=h;have hW:Bl w (w.alloc (frC e i r (dn:Int) a n cap 67)):=Zw;have HW:Hid (Bl w (w.alloc (frC e i r (dn:Int) a n cap 67))/\(w.alloc (frC e i r (dn:Int) a n cap 67)).heap[w.heap.size]?=sQ (frC e i r (dn:Int) a n cap 67)):=⟨hW,QN w _⟩
 clear hv h hW hi2;cases e
 .go_enter func51,ntmps51;go_wp2_with fail;refine (ch _ _ i r (dn:Int) a n cap).mono ?_;rw[HV.o];rintro o w1 ⟨rfl,hb1⟩;have hB1:Bl w w1:=HW.o.1.trans (hb1.mono pQ);have hx1:=dH HW.o.2 hb1 pQ;have hc1:=cn hx1;have HY1:Hid (iB w1 a n cap l):=HH.o.below hB1;clear hb1 hx1;have hs1:(ae (M.num i 11)).size<=11:=by rw[aN,M.DD];omega
  have hs2:(ae [48+r.toNat]).size<=1:=by rw[aN];simp
  go_wp2_with fail;go_quiet (first | (go_at_call 53;exact Calls.quiet_of_same (A8 i _ om)) | (go_at_call 115;exact Calls.quiet_of_same (lF r _)));go_wp2_with fail;have hEq:({ data:=#[48] }++ae (M.num i 11)++ae [48+r.toNat]++{ data:=#[48] }++{ data:=#[48] }:ByteArray)=ae ([48]++M.num i 11++[48+r.toNat]++[48]++[48]):=by
   rw[b48];simp only[bQ]
  rw[hEq];have HBD:Hid (ag false i r dn l=[48]++M.num i 11++[48+r.toNat]++[48]++[48]++M.num dn 4++l.flatMap (fun x=>M.num x 8)):=by
   simp[Hid,ag,eO,mY]
  have hpl:([48]++M.num i 11++[48+r.toNat]++[48]++[48]++M.num dn 4).length<=100:=by simp[M.DD]
  have hs3:(ae ([48]++M.num i 11++[48+r.toNat]++[48]++[48])).size<=100:=by rw[aN];simp[M.DD]
  have hs4:(ae (M.num dn 4)).size<=4:=by rw[aN,M.DD];omega
  have HAP:Hid (ae ([48]++M.num i 11++[48+r.toNat]++[48]++[48])++ae (M.num dn 4)=ae ([48]++M.num i 11++[48+r.toNat]++[48]++[48]++M.num dn 4)):=bQ _ _;clear hEq hs1 hs2;generalize [48]++M.num i 11++[48+r.toNat]++[48]++[48]++M.num dn 4=pre at *;generalize ae ([48]++M.num i 11++[48+r.toNat]++[48]++[48])=sp at *;refine (yJ dn _ om).mono ?_;rintro o w2 ⟨rfl,rfl⟩;go_wp2_with fail;rw[HAP.o];by_cases hl:l=[]
  .have hn0:n=0:=by have:=HY1.o.len;rw[hl] at this;simpa using this
   subst hn0 hl;go_loopw [3,5] (fun s idx wr=>idx = I J 0/\s = .string (ae pre)/\wr=w1.drewN nq) (fun _ _ _=>0);case atStart=>exact⟨rfl,rfl,rfl⟩
   case round=>
    obtain⟨rfl,rfl,rfl⟩:=hrel;go_wp2;go_ret;exact⟨cg (by rw[HBD.o];simp),QQ hB1 nq⟩
  .obtain⟨g,off,rfl,hcl⟩:=HY1.o.cells hl;have hlen:=HY1.o.len;have hn1:n<=l.length:=om;have hn2:l.length<=n:=om;have HSM:Hid (∀ x ∈ l,x<256):=HY1.o.small;clear hlen;go_loopw [3,5] (fun s idx wr=>∃ k:Nat,k<=n/\idx = I J k/\s = .string (ae (pre++(l.take k).flatMap (fun x=>M.num x 8)))/\wr=w1.drewN nq) (fun _ idx _=>n-(intOf idx).toNat);case atStart=>exact⟨0,nZ _,rfl,pQ,rfl⟩
   case round=>
    obtain⟨k,hk,rfl,rfl,rfl⟩:=hrel;by_cases hlt:k<n
    .have hc:=hcl k om;have hx256:=HSM.o l[k] (qn _);have HF:Hid (ae (pre++(l.take k).flatMap (fun x=>M.num x 8))++ae (M.num l[k] 8)=ae (pre++(l.take (k+1)).flatMap (fun x=>M.num x 8))):=by rw[jK l k om pre,bQ];exact rfl
     have hpl2:(ae (pre++(l.take k).flatMap (fun x=>M.num x 8))).size<=1000:=by rw[aN,qe,ni,qj];omega
     generalize l[k]=x at *;have hs8:(ae (M.num x 8)).size<=8:=by rw[aN,M.DD];omega
     generalize ae (pre++(l.take k).flatMap (fun x=>M.num x 8))=sp at *;go_wp2_with (go_at_call 53;refine (yI x _ om).mono ?_;rintro o w7 ⟨rfl,rfl⟩);go_roundw;case rel=>exact⟨k+1,om,by go_num,by rw[<- HF.o],by first | rfl | trivial⟩
     case measure=>simp[intOf];omega
    .have hke:l.take k=l:=qf om;have HKE:Hid (l.take k=l):=hke;clear hke;go_wp2;go_ret;exact⟨cg (by rw[HBD.o,HKE.o]),QQ hB1 nq⟩
 .go_enter func51,ntmps51;go_wp2_with fail;refine (ch _ _ i r (dn:Int) a n cap).mono ?_;rw[HV.o];rintro o w1 ⟨rfl,hb1⟩;have hB1:Bl w w1:=HW.o.1.trans (hb1.mono pQ);have hx1:=dH HW.o.2 hb1 pQ;have hc1:=cn hx1;have HY1:Hid (iB w1 a n cap l):=HH.o.below hB1;clear hb1 hx1;have hs29:(ae (M.num i 29)).size=29:=by rw[aN,M.DD]
  have hs2:(ae [48+r.toNat]).size<=1:=by rw[aN];simp
  go_wp2_with (go_at_call 53;refine (A9 i _ om).mono ?_;rintro o w7 ⟨rfl,rfl⟩);go_quiet (first | (go_at_call 115;exact Calls.quiet_of_same (lF r _)));go_wp2_with fail;have hEq:({ data:=#[48] }++(ae (M.num i 29)).extract 0 11++{ data:=#[49] }++{ data:=#[49] }++(ae (M.num i 29)).extract 11 29++ae [48+r.toNat]++{ data:=#[48,48] }:ByteArray)=ae ([48]++M.num (i / 2 ^ 18) 11++[49]++[49]++M.num i 18++[48+r.toNat]++[48,48]):=by
   rw[b48,b49,Fw,vM,vN _ 11 29 (by rw[M.DD]),sX,sY];simp only[bQ]
  rw[hEq];have HBD:Hid (ag true i r dn l=[48]++M.num (i / 2 ^ 18) 11++[49]++[49]++M.num i 18++[48+r.toNat]++[48,48]++M.num dn 4++l.flatMap (fun x=>M.num x 8)):=by
   simp[Hid,ag,eO,CD]
  have hpl:([48]++M.num (i / 2 ^ 18) 11++[49]++[49]++M.num i 18++[48+r.toNat]++[48,48]++M.num dn 4).length<=100:=by simp[M.DD]
  have hs3:(ae ([48]++M.num (i / 2 ^ 18) 11++[49]++[49]++M.num i 18++[48+r.toNat]++[48,48])).size<=100:=by rw[aN];simp[M.DD]
  have hs4:(ae (M.num dn 4)).size<=4:=by rw[aN,M.DD];omega
  have HAP:Hid (ae ([48]++M.num (i / 2 ^ 18) 11++[49]++[49]++M.num i 18++[48+r.toNat]++[48,48])++ae (M.num dn 4)=ae ([48]++M.num (i / 2 ^ 18) 11++[49]++[49]++M.num i 18++[48+r.toNat]++[48,48]++M.num dn 4)):=bQ _ _;clear hEq hs29 hs2;generalize [48]++M.num (i / 2 ^ 18) 11++[49]++[49]++M.num i 18++[48+r.toNat]++[48,48]++M.num dn 4=pre at *;generalize ae ([48]++M.num (i / 2 ^ 18) 11++[49]++[49]++M.num i 18++[48+r.toNat]++[48,48])=sp at *;refine (yJ dn _ om).mono ?_;rintro o w2 ⟨rfl,rfl⟩;go_wp2_with fail;rw[HAP.o];by_cases hl:l=[]
  .have hn0:n=0:=by have:=HY1.o.len;rw[hl] at this;simpa using this
   subst hn0 hl;go_loopw [3,5] (fun s idx wr=>idx = I J 0/\s = .string (ae pre)/\wr=w1.drewN nq) (fun _ _ _=>0);case atStart=>exact⟨rfl,rfl,rfl⟩
   case round=>
    obtain⟨rfl,rfl,rfl⟩:=hrel;go_wp2;go_ret;exact⟨cg (by rw[HBD.o];simp),QQ hB1 nq⟩
  .obtain⟨g,off,rfl,hcl⟩:=HY1.o.cells hl;have hlen:=HY1.o.len;have hn1:n<=l.length:=om;have hn2:l.length<=n:=om;have HSM:Hid (∀ x ∈ l,x<256):=HY1.o.small;clear hlen;go_loopw [3,5] (fun s idx wr=>∃ k:Nat,k<=n/\idx = I J k/\s = .string (ae (pre++(l.take k).flatMap (fun x=>M.num x 8)))/\wr=w1.drewN nq) (fun _ idx _=>n-(intOf idx).toNat);case atStart=>exact⟨0,nZ _,rfl,pQ,rfl⟩
   case round=>
    obtain⟨k,hk,rfl,rfl,rfl⟩:=hrel;by_cases hlt:k<n
    .have hc:=hcl k om;have hx256:=HSM.o l[k] (qn _);have HF:Hid (ae (pre++(l.take k).flatMap (fun x=>M.num x 8))++ae (M.num l[k] 8)=ae (pre++(l.take (k+1)).flatMap (fun x=>M.num x 8))):=by rw[jK l k om pre,bQ];exact rfl
     have hpl2:(ae (pre++(l.take k).flatMap (fun x=>M.num x 8))).size<=1000:=by rw[aN,qe,ni,qj];omega
     generalize l[k]=x at *;have hs8:(ae (M.num x 8)).size<=8:=by rw[aN,M.DD];omega
     generalize ae (pre++(l.take k).flatMap (fun x=>M.num x 8))=sp at *;go_wp2_with (go_at_call 53;refine (yI x _ om).mono ?_;rintro o w7 ⟨rfl,rfl⟩);go_roundw;case rel=>exact⟨k+1,om,by go_num,by rw[<- HF.o],by first | rfl | trivial⟩
     case measure=>simp[intOf];omega
    .have hke:l.take k=l:=qf om;have HKE:Hid (l.take k=l):=hke;clear hke;go_wp2;go_ret;exact⟨cg (by rw[HBD.o,HKE.o]),QQ hB1 nq⟩
def nU (w:Wd) (e:Bool) (i:Nat) (r:Bool) (d:Int) (a:Option Addr) (n cap:Nat) (l:List Nat) (h:iB w a n cap l) :
  Calls Tp 51 #[frV e i r d a n cap] w fun o w'=>o = rT (.string (gU e i r d n l))/\Bl w w':=by
 by_cases hv:vB e i r d n=true
 .obtain⟨_,_,hd0,_,_⟩:=cN hv;obtain⟨dn,rfl⟩:=Int.eq_ofNat_of_zero_le hd0;refine (pA w e i r dn a n cap l h hv).mono ?_;rintro o w' ⟨rfl,hb⟩;exact⟨cg (by simp[gU,hv]),hb⟩
 .have hv':vB e i r d n=false:=by simpa using hv
  have HZ:Hid (gU e i r d n l=⟨#[]⟩):=by simp[gU,hv',Hid]
  have HV:Hid (vB e i r d n=false):=hv';clear hv hv' h;go_enter func51,ntmps51;go_wp2_with (go_at_call 50;refine (ch _ e i r d a n cap).mono ?_;rw[HV.o];rintro o w1 ⟨rfl,hb1⟩);go_ret;exact⟨cg HZ.o.symm,Zw.trans (hb1.mono pQ)⟩
def GA (e:Bool) (i:Nat) (r:Bool) (d:Int) (n:Nat):ByteArray:=if vB e i r d n=true then ae (eO e i r) else ⟨#[]⟩
def Lk (e:Bool) (i:Nat) (r:Bool):∀ x ∈ eO e i r,M.isL x:=fun x hx=>dI e i r 0 [] x (by unfold ag;simp[hx])
def gc (w:Wd) (B:Nat):aa w B (sL nn 0 0) []:=Q5 w B 5 1
def I8 (l:List Nat) (a b:Nat):(ae l).extract a b=ae ((l.drop a).take (b-a)):=by
 unfold ae;apply ByteArray.ext;simp[ByteArray.data_extract,List.map_drop,List.map_take]
def Jj (e:Bool) (i:Nat) (r:Bool) (d:Nat) (l:List Nat):((ag e i r d l).drop 1).take (if e=true then 32 else 13)=eO e i r:=by
 have hl:(eO e i r).length=if e=true then 32 else 13:=by cases e <;> simp[eO,M.DD]
 have hb:ag e i r d l=[48]++(eO e i r++(M.num 0 (1+e.toNat)++M.num d 4++l.flatMap (fun x=>M.num x 8))):=by simp[ag]
 rw[hb,<- hl];simp
def J7 (w:Wd) (e:Bool) (i:Nat) (r:Bool) (d:Int) (a:Option Addr) (n cap:Nat) (l:List Nat) (h:iB w a n cap l) :
  Calls Tp 257 #[frV e i r d a n cap] w fun o w'=>o = rT (.string (GA e i r d n))/\Bl w w':=by
 have HH:Hid (iB w a n cap l):=h;have HW:Hid (Bl w (w.alloc (frC e i r d a n cap 67))/\(w.alloc (frC e i r d a n cap 67)).heap[w.heap.size]?=sQ (frC e i r d a n cap 67)):=⟨Zw,QN w _⟩
 clear h;by_cases hv:vB e i r d n=true
 .have hi:=(cN hv).1;have HZ:Hid (GA e i r d n=ae (eO e i r)):=by simp[GA,hv,Hid]
  have HV:Hid (vB e i r d n=true):=hv;clear hv;go_enter func257,ntmps257;go_wp2_with fail;refine (dU _ e i r d a n cap l (HH.o.below HW.o.1)).mono ?_;rw[HV.o];rintro o w1 ⟨rfl,hb1⟩;have hB1:Bl w w1:=HW.o.1.trans (hb1.mono pQ);have hx1:=dH HW.o.2 hb1 pQ;have hz1:w.heap.size<w1.heap.size:=QX hx1;have hc1:=cn hx1;clear hb1 hx1;go_wp2_with fail;refine (mG _ w1.heap.size _ [] (gc w1 _) (nR _) pQ e i r d a n cap om).mono ?_;rintro o w2 ⟨v2,rfl,ho2,hb2,_⟩;rw[List.nil_append] at ho2;have hcv:=ik ho2 (iX (Lk e i r));generalize eO e i r=al at *;go_wp2;go_ret;exact⟨cg HZ.o.symm,hB1.trans (hb2.mono om)⟩
 .have hv':vB e i r d n=false:=by simpa using hv
  have HZ:Hid (GA e i r d n=⟨#[]⟩):=by simp[GA,hv',Hid]
  have HV:Hid (vB e i r d n=false):=hv';clear hv hv';go_enter func257,ntmps257;go_wp2_with (go_at_call 148;refine (dU _ e i r d a n cap l (HH.o.below HW.o.1)).mono ?_;rw[HV.o];rintro o w1 ⟨rfl,hb1⟩);go_ret;exact⟨cg HZ.o.symm,HW.o.1.trans (hb1.mono pQ)⟩
def Hb (w:Wd) (e:Bool) (i:Nat) (r:Bool) (d:Int) (a:Option Addr) (n cap:Nat) (l:List Nat) (h:iB w a n cap l) :
  Calls Tp 205 #[frV e i r d a n cap] w fun o w'=>o = rT (.string (GA e i r d n))/\Bl w w':=by
 have HH:Hid (iB w a n cap l):=h;have HW:Hid (Bl w (w.alloc (frC e i r d a n cap 67))/\(w.alloc (frC e i r d a n cap 67)).heap[w.heap.size]?=sQ (frC e i r d a n cap 67)):=⟨Zw,QN w _⟩
 clear h;by_cases hv:vB e i r d n=true
 .have HZ:Hid (GA e i r d n=ae (eO e i r)):=by simp[GA,hv,Hid]
  have HBZ:Hid (gU e i r d n l=ae (ag e i r d.toNat l)):=by simp[gU,hv,Hid]
  have HV:Hid (vB e i r d n=true):=hv;clear hv;have hsz:(ae (ag e i r d.toNat l)).size=(if e=true then 39 else 19)+8*l.length:=by rw[aN,pr]
  cases e
  .have h33:14<=(ae (ag false i r d.toNat l)).size:=by rw[hsz];simp;omega
   have HA:Hid ((ae (ag false i r d.toNat l)).extract 1 14=ae (eO false i r)):=by
    rw[I8];exact congrArg ae (Jj false i r d.toNat l)
   clear hsz;generalize ae (ag false i r d.toNat l)=bs at *;go_enter func205,ntmps205;go_wp2_with fail;refine (ch _ _ i r d a n cap).mono ?_;rw[HV.o];rintro o w1 ⟨rfl,hb1⟩;have hB1:Bl w w1:=HW.o.1.trans (hb1.mono pQ);have hx1:=dH HW.o.2 hb1 pQ;have hz1:w.heap.size<w1.heap.size:=QX hx1;have HX1:Hid (w1.heap[w.heap.size]?=sQ (frC false i r d a n cap 67)):=hx1;have hc1:=cn hx1;clear hb1 hx1;go_wp2_with fail;refine (nU _ _ i r d a n cap l (HH.o.below hB1)).mono ?_;rw[HBZ.o];rintro o w2 ⟨rfl,hb2⟩;have hc2:=cn (dH HX1.o hb2 hz1);clear hc1;go_wp2;go_ret;exact⟨cg (by rw[HZ.o,HA.o]),hB1.trans (hb2.mono om)⟩
  .have h33:33<=(ae (ag true i r d.toNat l)).size:=by rw[hsz];simp;omega
   have HA:Hid ((ae (ag true i r d.toNat l)).extract 1 33=ae (eO true i r)):=by
    rw[I8];exact congrArg ae (Jj true i r d.toNat l)
   clear hsz;generalize ae (ag true i r d.toNat l)=bs at *;go_enter func205,ntmps205;go_wp2_with fail;refine (ch _ _ i r d a n cap).mono ?_;rw[HV.o];rintro o w1 ⟨rfl,hb1⟩;have hB1:Bl w w1:=HW.o.1.trans (hb1.mono pQ);have hx1:=dH HW.o.2 hb1 pQ;have hz1:w.heap.size<w1.heap.size:=QX hx1;have HX1:Hid (w1.heap[w.heap.size]?=sQ (frC true i r d a n cap 67)):=hx1;have hc1:=cn hx1;clear hb1 hx1;go_wp2_with fail;refine (nU _ _ i r d a n cap l (HH.o.below hB1)).mono ?_;rw[HBZ.o];rintro o w2 ⟨rfl,hb2⟩;have hc2:=cn (dH HX1.o hb2 hz1);clear hc1;go_wp2;go_ret;exact⟨cg (by rw[HZ.o,HA.o]),hB1.trans (hb2.mono om)⟩
 .have hv':vB e i r d n=false:=by simpa using hv
  have HZ:Hid (GA e i r d n=⟨#[]⟩):=by simp[GA,hv',Hid]
  have HV:Hid (vB e i r d n=false):=hv';clear hv hv';go_enter func205,ntmps205;go_wp2_with (go_at_call 50;refine (ch _ e i r d a n cap).mono ?_;rw[HV.o];rintro o w1 ⟨rfl,hb1⟩);go_ret;exact⟨cg HZ.o.symm,HW.o.1.trans (hb1.mono pQ)⟩
end
section
variable {w w0 w':Wd} {m:Int} {l:List Nat} {r:Nat × Nat} {B k b b1 b2 c:Nat} {v:Value}
namespace M
def dM (r b:Nat):Nat:=if b≠r / 16384 then ((2*r) % 32768) ^^^ 17817 else (2*r) % 32768
def i8 (l:List Nat):Nat:=l.foldl dM 0
def fW (r b:Nat):dM r b<32768:=by
 unfold dM;split
 .exact Nat.xor_lt_two_pow (n:=15) om (by decide)
 .omega
def BV (l:List Nat):i8 l<32768:=by
 unfold i8;rcases List.eq_nil_or_concat l with rfl|⟨a,b,rfl⟩
 .decide
 .rw[List.concat_eq_append,List.foldl_append];exact fW _ _
def xl (l:List Nat) (b:Nat):i8 (l++[b])=dM (i8 l) b:=by
 simp[i8,List.foldl_append]
def mb (l:List Nat) (j:Nat):Bool:=l.getD j 0 == 1
def BJ (k:Nat):Bool:=Nat.testBit 50585 (15-k)
def V (l:List Nat) (i j:Nat):Bool:=if j<i then false else mb l j ^^ (decide (j<i+15) && (i8 (l.take i)).testBit (14-(j-i)))
def rL (r k:Nat):((2*r) % 32768).testBit k=(decide (k<15) && decide (1<=k) && r.testBit (k-1)):=by
 rw[show (32768:Nat)=2 ^ 15 from rfl,Nat.testBit_mod_two_pow];cases k with
 | zero=>simp[Nat.testBit_zero]
 | succ k=>
  have:(2*r).testBit (k+1)=r.testBit k:=by rw[Nat.testBit_succ];congr 1;omega
  rw[this];simp
def yw (k:Nat) (h:k<15):Nat.testBit 17817 k=BJ (15-k):=by
 revert k h;decide
def AH (r:Nat) (h:r<32768):r.testBit 14=decide (r / 16384=1):=by
 rw[Nat.testBit_eq_decide_div_mod_eq];congr 1;have:r / 2 ^ 14 % 2=r / 16384:=by
  rw[show (2:Nat) ^ 14=16384 from rfl];omega
 rw[this]
def Ed (l:List Nat) (i:Nat) (hb:∀ x ∈ l,x<2) (hi:i<l.length):V l i i=decide (l[i]≠i8 (l.take i) / 16384):=by
 have hr:=BV (l.take i);have h1:l[i]<2:=hb _ (qn hi);have hg:l.getD i 0=l[i]:=by simp[List.getD,hi]
 simp only[V,Qe,if_false,Nat.sub_self,Nat.sub_zero,AH _ hr,mb,hg];generalize i8 (l.take i)=r at *;generalize l[i]=x at *;have:r / 16384<2:=om;generalize r / 16384=y at *;have hx:x=0\/x=1:=om;have hy:y=0\/y=1:=om;rcases hx with rfl | rfl <;> rcases hy with rfl | rfl <;> simp
def sr {α:Type} (l:List α) (i:Nat) (h:i<l.length):l.take (i+1)=l.take i++[l[i]]:=by
 rw[qg h]
def Ga (l:List Nat) (i j:Nat) (hb:∀ x ∈ l,x<2) (hi:i<l.length) :
  V l (i+1) j=(V l i j ^^ (V l i i && (decide (i<=j/\j<i+16) && BJ (j-i)))):=by
 have hs:=Ed l i hb hi;have hc:i8 (l.take (i+1))=dM (i8 (l.take i)) l[i]:=by rw[sr l i hi,xl]
 by_cases h1:j<i
 .have h2:j<i+1:=om;have h3:¬ i<=j:=om;simp[V,h1,h2,h3]
 .by_cases h2:j=i
  .subst h2;have hg:BJ 0=true:=by decide
   have hv:V l (j+1) j=false:=by simp[V]
   rw[hv];simp[hg]
  .have h3:¬ j<i+1:=om;have h4:i<=j:=om;rw[hs];by_cases h5:j<i+16
   .have h6:14-(j-(i+1))<15:=om;have e1:(decide (j<i+1+15))=true:=by simp;omega
    have hV1:V l (i+1) j=(mb l j ^^ (dM (i8 (l.take i)) l[i]).testBit (14-(j-(i+1)))):=by
     simp only[V,h3,if_false,e1,Bool.true_and,hc]
    have hpg:Nat.testBit 17817 (14-(j-(i+1)))=BJ (j-i):=by rw[yw _ h6];congr 1;omega
    have hV0:V l i j=(mb l j ^^ ((2*i8 (l.take i)) % 32768).testBit (14-(j-(i+1)))):=by
     rw[rL];simp only[V,h1,if_false];congr 1;by_cases h7:j<i+15
     .have a1:(14-(j-(i+1)))<15:=h6;have a2:1<=14-(j-(i+1)):=om;have a3:14-(j-(i+1))-1=14-(j-i):=om;simp only[h7,a1,a2,a3,decide_true,Bool.true_and]
     .have a2:¬ 1<=14-(j-(i+1)):=om;simp only[h7,a2,decide_false,Bool.and_false,Bool.false_and]
    rw[hV1,hV0];unfold dM;by_cases h8:l[i]≠i8 (l.take i) / 16384
    .simp only[qc h8,Nat.testBit_xor,hpg,h4,h5,decide_true,and_self,Bool.true_and,Bool.xor_assoc];simp[h8]
    .simp only[qa h8];simp[h8]
   .have e2:(decide (j<i+15))=false:=by simp;omega
    simp[V,h1,h3,e2,h5]
def MU (l:List Nat) (j:Nat):V l 0 j=mb l j:=by simp[V,i8]
def Ge (l:List Nat) (k:Nat) (hk:k<15):V l l.length (l.length+k)=(i8 l).testBit (14-k):=by
 have h1:¬ l.length+k<l.length:=om;have h2:l.length+k<l.length+15:=om;have h3:l.length+k-l.length=k:=om;have h4:l.getD (l.length+k) 0=0:=by simp[List.getD]
 simp only[V,h1,if_false,mb,h4,h2,h3,decide_true,Bool.true_and,List.take_length];simp
def pk (r k:Nat):Nat:=r / 2 ^ (15-k)
def Ei (r:Nat) (h:r<32768):pk r 0=0:=by unfold pk;exact Nat.div_eq_of_lt h
def Ej (r k:Nat) (hk:k<15):pk r (k+1)=2*pk r k+(r.testBit (14-k)).toNat:=by
 unfold pk;have e:15-k=(14-k)+1:=om;have e':15-(k+1)=14-k:=om;rw[e,e',qH,<- qX,Nat.testBit_eq_decide_div_mod_eq];generalize r / 2 ^ (14-k)=y;by_cases h:y % 2=1
 .simp[h];omega
 .have:y % 2=0:=om;simp[this];omega
def Eu (r:Nat):pk r 15=r:=by simp[pk]
def MJ (r k:Nat) (h:r<32768):pk r k<32768:=Qi (Nat.div_le_self _ _) h
end M
def okC (c:UInt8):Bool:=c == 48 || c == 49
def okT (s:ByteArray) (m:Int):Bool:=decide ((s.size:Int)<=m) && s.data.toList.all okC
def iS (s:ByteArray) (k:Nat) (h:k<s.size):s.data.toList.take (k+1)=s.data.toList.take k++[s[k]]:=by
 rw[qg (by simpa using h)];rfl
def pS {s:ByteArray} (h:¬ (s.size:Int)<=m):okT s m=false:=by simp[okT,h]
def uN {s:ByteArray} (h:(s.size:Int)<=m) (k:Nat) (hk:s.size<=k) (ha:(s.data.toList.take k).all okC=true):okT s m=true:=by
 rw[qf (by simpa using hk)] at ha;simp[okT,h,ha]
def uM {s:ByteArray} (k:Nat) (hk:k<s.size) (hb:okC s[k]=false):okT s m=false:=by
 have:s.data.toList.all okC=false:=by
  rw[List.all_eq_false];exact⟨s[k],by rw[Array.mem_toList_iff];exact Array.getElem_mem (xs:=s.data) (i:=k) hk,by simpa using hb⟩
 simp[okT,this]
def kv {s:ByteArray} (hk:k<s.size) (ha:(s.data.toList.take k).all okC=true) (hc:okC s[k]=true):(s.data.toList.take (k+1)).all okC=true:=by
 rw[iS s k hk,List.all_append,ha];simp[hc]
def oe (c:UInt8) (h:(c.toNat:Int)=48\/(c.toNat:Int)=49):okC c=true:=by
 unfold okC;rcases h with h|h
 .have:c=48:=UInt8.toNat_inj.1 (by simpa using (by omega:c.toNat=48));simp[this]
 .have:c=49:=UInt8.toNat_inj.1 (by simpa using (by omega:c.toNat=49));simp[this]
def A4 (c:UInt8) (h:¬ (c.toNat:Int)=48) (h':¬ (c.toNat:Int)=49):okC c=false:=by
 unfold okC;have a:(c == 48)=false:=by
  rw[beq_eq_false_iff_ne];intro e;subst e;exact h rfl
 have b:(c == 49)=false:=by
  rw[beq_eq_false_iff_ne];intro e;subst e;exact h' rfl
 simp[a,b]
def Hi {c:UInt8} (h:okC c=true):c.toNat=48\/c.toNat=49:=by
 unfold okC at h;simp at h;rcases h with h | h <;> subst h
 .exact .inl rfl
 .exact .inr rfl
def dD (s:ByteArray) (m:Int) (w:Wd) (hs:s.size<=maxLen) :
  Calls Tp 69 #[.string s,I J m] w fun e w'=>e = rT (bO (okT s m))/\w=w':=by
 unfold maxLen at hs;by_cases hm:(s.size:Int)<=m
 .go_enter func69,ntmps69;go_wp2;go_loop [5] (fun i=>∃ k:Nat,k<=s.size/\i = I J k/\(s.data.toList.take k).all okC=true) (fun i=>s.size-(intOf i).toNat)
  case atStart=>exact⟨0,nZ _,rfl,rfl⟩
  case round=>
   obtain⟨k,hk,rfl,ha⟩:=hrel;have HA:Hid ((s.data.toList.take k).all okC=true):=ha;clear ha;by_cases hlt:k<s.size
   .by_cases h0:(s[k].toNat:Int)=48
    .go_wp2;go_round
     case rel=>exact⟨k+1,om,by go_num,kv hlt HA.o (oe _ (.inl h0))⟩
     case measure=>simp[intOf];omega
    .by_cases h1:(s[k].toNat:Int)=49
     .go_wp2;go_round
      case rel=>exact⟨k+1,om,by go_num,kv hlt HA.o (oe _ (.inr h1))⟩
      case measure=>simp[intOf];omega
     .have hb:=uM (m:=m) k hlt (A4 _ h0 h1);have b0:((s[k].toNat:Int) != 48)=true:=by simpa using h0
      have b1:((s[k].toNat:Int) != 49)=true:=by simpa using h1
      have HB:Hid (okT s m=false):=hb;clear hb h0 h1;go_wp2;go_ret;exact⟨aj HB.o.symm,rfl⟩
   .go_wp2;go_ret;exact⟨aj (uN hm k om HA.o).symm,rfl⟩
 .go_enter func69,ntmps69;go_wp2;go_ret;exact⟨aj (pS om).symm,rfl⟩
def cV (s:ByteArray) (m:Int) (w:Wd) :
  Calls Tp 194 #[.string s,I J m] w fun e w'=>e = rT (bO (okT s m))/\Bl w w':=by
 by_cases hm:(s.size:Int)<=m
 .go_enter func194,ntmps194;go_wp2;go_loopw [6] (fun _ w'=>∃ k:Nat,k<=s.size/\w'=w.iter s k/\(s.data.toList.take k).all okC=true) (fun _ w'=>s.size-w'.iterPos w.heap.size);case atStart=>exact⟨0,nZ _,rfl,rfl⟩
  case round=>
   obtain⟨k,hk,rfl,ha⟩:=hrel;have HA:Hid ((s.data.toList.take k).all okC=true):=ha;clear ha;by_cases hlt:k<s.size
   .by_cases hc:okC s[k]=true
    .have hv:=Hi hc;have hnx:=fun ty=>run_next_ascii (P:=Tp) w s k ty hlt om;have HC:Hid (okC s[k]=true):=hc;clear hc;rcases hv with hv|hv
     .rw[hv] at hnx;clear hv;go_wp2;go_roundw;case rel=>exact⟨k+1,om,rfl,kv hlt HA.o HC.o⟩
      case measure=>simp;omega
     .rw[hv] at hnx;clear hv;go_wp2;go_roundw;case rel=>exact⟨k+1,om,rfl,kv hlt HA.o HC.o⟩
      case measure=>simp;omega
    .have hb:=uM (m:=m) k hlt (by simpa using hc);have hd:(((Utf8.decode s k).1:Int) != 48)=true/\(((Utf8.decode s k).1:Int) != 49)=true:=by
      by_cases hx:(s[k]'hlt).toNat<128
      .rw[decode_ascii s k hlt hx];simp only[bne_iff_ne];refine⟨fun e=>hc (oe _ (.inl (by exact_mod_cast e))),fun e=>hc (oe _ (.inr (by exact_mod_cast e)))⟩
      .have:=(decode_high s k hlt om).1;simp only[bne_iff_ne];constructor <;> omega
     obtain⟨b0,b1⟩:=hd;have hnx:∀ ty,(Instr.next (pT (sQ ⟨w.heap.size,0,nn⟩)) true ty).run Tp (w.iter s k)=_:=fun ty=>run_next_any w s k ty hlt;have HB:Hid (okT s m=false):=hb;clear hb hc;go_wp2;go_ret;exact⟨aj HB.o.symm,Zw⟩
   .have hnx:∀ ty,(Instr.next (pT (sQ ⟨w.heap.size,0,nn⟩)) true ty).run Tp (w.iter s k)=_:=fun ty=>run_next_end w s k ty hlt;go_wp2;go_ret;exact⟨aj (uN hm k om HA.o).symm,Zw⟩
 .go_enter func194,ntmps194;go_wp2;go_ret;exact⟨aj (pS om).symm,bW _ _⟩
def fT (n:Int) (h0:0<=n) (h1:n<2 ^ 62):IntKind.i64.wrap n=n:=by rw[QR];omega
def gK (n:Int) (h0:0<=n) (h1:n<2 ^ 62):bits .and .i64 n 32767=n % 32768:=
 bits_mask .i64 62 (by decide) fT 15 (by decide) n h0 h1
def eJ (a b:Nat) (ha:a<2 ^ 62) (hb:b<2 ^ 62):bits .xor .i64 (a:Int) (b:Int)=((a ^^^ b:Nat):Int):=
 by
 have hx:a ^^^ b<2 ^ 62:=Nat.xor_lt_two_pow ha hb;show IntKind.i64.wrap ((BitVec.ofInt 64 (a:Int) ^^^ BitVec.ofInt 64 (b:Int)).toNat:Int)=_;rw[BitVec.toNat_xor,ofInt_u64 a om,ofInt_u64 b om,fT _ om om]
def rN (r b:Nat) (h1:r<32768) (h:((b:Int) != (r:Int) / 16384)=true) :
  bits BinOp.xor IntKind.i64 (bits BinOp.and IntKind.i64 ((r:Int)*2) 32767) 17817=((M.dM r b:Nat):Int):=by
 have h':b≠r / 16384:=by
  intro e;rw[bne_iff_ne] at h;exact h om
 rw[gK _ om om];have e:((r:Int)*2) % 32768=((2*r % 32768:Nat):Int):=om;rw[e,show (17817:Int)=((17817:Nat):Int) from rfl,eJ _ _ om (by decide)];simp[M.dM,h']
def tV (r b:Nat) (h1:r<32768) (h:((b:Int) != (r:Int) / 16384)=false) :
  bits BinOp.and IntKind.i64 ((r:Int)*2) 32767=((M.dM r b:Nat):Int):=by
 have h':¬ b≠r / 16384:=by
  intro e;rw[bne_eq_false_iff_eq] at h;exact e om
 rw[gK _ om om];unfold M.dM;rw[qa h'];omega
def aH (r b:Nat) (w:Wd) (h1:r<32768) :
  Calls Tp 195 #[I J r,I J b] w fun e w'=>e = rT (I J (M.dM r b:Nat))/\w=w':=by
 go_enter func195,ntmps195;go_wp2
 .have hc:((b:Int) != (r:Int) / 16384)=true:=by assumption
  go_ret;exact⟨au (rN r b h1 hc),rfl⟩
 .have hc:((b:Int) != (r:Int) / 16384)=false:=by assumption
  go_ret;exact⟨au (tV r b h1 hc),rfl⟩
def bl (s:ByteArray):List Nat:=s.data.toList.map (fun c=>c.toNat-48)
def iE (s:ByteArray):(bl s).length=s.size:=by simp[bl]
def vk (s:ByteArray) (k:Nat) (h:k<s.size):(bl s).take (k+1)=(bl s).take k++[s[k].toNat-48]:=by
 unfold bl;rw[<- List.map_take,iS s k h];simp[List.map_take]
def gj {s:ByteArray} (h:okT s m=true):(s.size:Int)<=m:=by
 unfold okT at h;rw[qw,qV] at h;exact h.1
def kT {s:ByteArray} (h:okT s m=true) (k:Nat) (hk:k<s.size):s[k].toNat=48\/s[k].toNat=49:=by
 unfold okT at h;rw[qw] at h;exact Hi (List.all_eq_true.1 h.2 _ (by rw[Array.mem_toList_iff];exact Array.getElem_mem (xs:=s.data) (i:=k) hk))
def Cf {s:ByteArray} (h:okT s m=true):∀ x ∈ bl s,x<2:=by
 intro x hx;unfold okT at h;rw[qw] at h;unfold bl at hx;rw[List.mem_map] at hx;obtain⟨c,hc,rfl⟩:=hx;have:=Hi (List.all_eq_true.1 h.2 c hc);omega
def Gz (s:ByteArray):Int:=if okT s 2000=true then (M.i8 (bl s):Nat) else -1
def xm (s:ByteArray) (w:Wd) :
  Calls Tp 151 #[.string s] w fun e w'=>e = rT (I J (Gz s))/\Bl w w':=by
 by_cases hk:okT s 2000=true
 .have HZ:Hid (Gz s=(M.i8 (bl s):Nat)):=by simp[Gz,hk,Hid]
  go_enter func151,ntmps151;go_wp2_with (go_at_call 194;refine (cV _ _ _).mono ?_;rintro e w1 ⟨rfl,hb1⟩);have HK:Hid (okT s 2000=true):=hk;clear hk;go_loopw [3,5] (fun r _ w'=>∃ k:Nat,k<=s.size/\w'=w1.iter s k/\r = I J ((M.i8 ((bl s).take k):Nat):Int)) (fun _ _ w'=>s.size-w'.iterPos w1.heap.size);case atStart=>exact⟨0,nZ _,rfl,rfl⟩
  case round=>
   obtain⟨k,hk,rfl,rfl⟩:=hrel;by_cases hlt:k<s.size
   .have hv:=kT HK.o k hlt;have hnx:=fun ty=>run_next_ascii (P:=Tp) w1 s k ty hlt om;have hr:=M.BV ((bl s).take k);have HS:Hid (M.i8 ((bl s).take (k+1))=M.dM (M.i8 ((bl s).take k)) (s[k].toNat-48)):=by
     rw[vk s k hlt,M.xl];exact rfl
    generalize hR:M.i8 ((bl s).take k)=r at *;clear hR;rcases hv with hv|hv
    .rw[hv] at hnx;have HS':Hid (M.i8 ((bl s).take (k+1))=M.dM r 0):=by rw[HS.o,hv];exact rfl
     clear hv HS;go_wp2_with (go_at_call 195;refine (aH r 0 _ hr).mono ?_;rintro e w2 ⟨rfl,rfl⟩);go_roundw;case rel=>exact⟨k+1,om,rfl,by rw[HS'.o]⟩
     case measure=>simp;omega
    .rw[hv] at hnx;have HS':Hid (M.i8 ((bl s).take (k+1))=M.dM r 1):=by rw[HS.o,hv];exact rfl
     clear hv HS;go_wp2_with (go_at_call 195;refine (aH r 1 _ hr).mono ?_;rintro e w2 ⟨rfl,rfl⟩);go_roundw;case rel=>exact⟨k+1,om,rfl,by rw[HS'.o]⟩
     case measure=>simp;omega
   .have hnx:∀ ty,(Instr.next (pT (sQ ⟨w1.heap.size,0,nn⟩)) true ty).run Tp (w1.iter s k)=_:=fun ty=>run_next_end w1 s k ty hlt;have HE:Hid ((bl s).take k=bl s):=qf (by rw[iE];omega);go_wp2;go_ret;exact⟨au (by rw[HE.o,HZ.o]),hb1.alloc (by exact hb1.size) _⟩
 .have hk':okT s 2000=false:=by simpa using hk
  have HZ:Hid (Gz s = -1):=by simp[Gz,hk',Hid]
  clear hk;go_enter func151,ntmps151;go_wp2_with (go_at_call 194;refine (cV _ _ _).mono ?_;rintro e w1 ⟨rfl,hb1⟩);go_ret;exact⟨au HZ.o.symm,hb1⟩
def aa.open (h:aa w B v l) (hl:l≠[]) :
  ∃ g cap,v = sL (sQ ⟨g,0,nn⟩) l.length cap/\B<=g/\g<w.heap.size/\l.length<=cap/\cap<=maxLen/\su w g l.length (fun t=>l.getD t 0):=by
 have h':=h;obtain⟨_,h1|⟨g,cap,cur,rfl,hb,hh,hc,hm,hsz,htk⟩⟩:=h
 .exact Qy (List.length_eq_zero_iff.1 h1.2) hl
 .refine⟨g,cap,rfl,hb,(QB h' g rfl).2,hc,hm,fun t ht=>?_,fun t ht=>?_⟩
  .rw[QY h' t om,nt l t ht];simp[List.getD,ht]
  .exact QU h' t
def FR (j:Nat) (hj:j<16) (h:j<(ByteArray.mk #[49,49,48,48,48,49,48,49,49,48,48,49,49,48,48,49]).size):(((ByteArray.mk #[49,49,48,48,48,49,48,49,49,48,48,49,49,48,48,49])[j]'h).toNat:Int)=48+((M.BJ j).toNat:Int):=by
 have:∀ j:Fin 16,(((ByteArray.mk #[49,49,48,48,48,49,48,49,49,48,48,49,49,48,48,49])[j.val]'(j.isLt)).toNat:Int)=48+((M.BJ j.val).toNat:Int):=by decide
 exact this ⟨j,hj⟩
def xE (a b:Bool):bits BinOp.xor IntKind.u8 (a.toNat:Int) (b.toNat:Int)=((a ^^ b).toNat:Int):=by
 rw[u8_xor_nat _ _ (by cases a <;> decide) (by cases b <;> decide)];cases a <;> cases b <;> rfl
def KE (a:Bool) (j:Nat) (hj:j<16) (h:j<(ByteArray.mk #[49,49,48,48,48,49,48,49,49,48,48,49,49,48,48,49]).size) :
  bits BinOp.xor IntKind.u8 (a.toNat:Int) ((((ByteArray.mk #[49,49,48,48,48,49,48,49,49,48,48,49,49,48,48,49])[j]'h).toNat-48:Int) % 256)=((a ^^ M.BJ j).toNat:Int):=by
 rw[FR j hj h,<- xE];congr 1;have:(M.BJ j).toNat<2:=by cases M.BJ j <;> decide
 omega
def Fy (l:List Nat) (hb:∀ x ∈ l,x<2) (t:Nat) (_:t<(l++List.replicate 15 0).length):(l++List.replicate 15 0).getD t 0=(M.V l 0 t).toNat:=by
 rw[M.MU];unfold M.mb;by_cases h:t<l.length
 .have hx:=hb l[t] (qn h);have e1:(l++List.replicate 15 0).getD t 0=l[t]:=by simp[List.getD,qZ h,h]
  have e2:l.getD t 0=l[t]:=by simp[List.getD,h]
  rw[e1,e2];generalize l[t]=x at *;have:x=0\/x=1:=om;rcases this with rfl | rfl <;> rfl
 .have e2:l.getD t 0=0:=by simp[List.getD,List.getElem?_eq_none (Nat.le_of_not_lt h)]
  have e1:(l++List.replicate 15 0).getD t 0=0:=by
   unfold List.getD;rw[qY (Nat.le_of_not_lt h),List.getElem?_replicate];split <;> rfl
  rw[e1,e2];rfl
def sG (s:ByteArray) (w:Wd) (hs:s.size<=maxLen) (hk:okT s 2000=true) :
  Calls Tp 54 #[.string s] w fun e w'=>e = rT (I J (Gz s))/\Bl w w':=by
  have hsz:=gj hk;go_enter func54,ntmps54;go_wp2_with (go_at_call 69;refine (dD _ _ _ hs).mono ?_;rintro e w1 ⟨rfl,rfl⟩);have HK:Hid (okT s 2000=true):=hk;clear hk;go_loopw [3,4] (fun v i wr=>∃ k:Nat,k<=s.size/\i = I J k/\aa wr w.heap.size v ((bl s).take k)/\Bl w wr/\w.heap.size<=wr.heap.size) (fun _ i _=>s.size-(intOf i).toNat);case atStart=>exact⟨0,nZ _,rfl,gB _ _ (nR _),Zw,pQ⟩
  case round=>
   obtain⟨k,hk,rfl,hown,hbel,hz⟩:=hrel;by_cases hlt:k<s.size
   .have hv:=kT HK.o k hlt;have hll:((bl s).take k).length<=100000000:=by rw[qj,iE];omega
    have HS:Hid ((bl s).take (k+1)=(bl s).take k++[s[k].toNat-48]):=vk s k hlt;generalize (bl s).take k=l at *;rcases hv with hv|hv
    .have HS':Hid ((bl s).take (k+1)=l++[0]):=by rw[HS.o,hv];exact rfl
     clear HS;go_wp2_with (at_builtin;refine Gu w wr rfl (.tmp 21) (.tmp 26) rfl w.heap.size _ l 0 _ rfl rfl hown rfl hll hz hbel ?_);intro v' w' hown' hbel' hz';clear hown hbel hz;go_wp2;go_roundw;case rel=>exact⟨k+1,om,by go_num,by rw[HS'.o];exact hown',hbel',hz'⟩
     case measure=>simp[intOf];omega
    .have HS':Hid ((bl s).take (k+1)=l++[1]):=by rw[HS.o,hv];exact rfl
     clear HS;go_wp2_with (at_builtin;refine Gu w wr rfl (.tmp 21) (.tmp 26) rfl w.heap.size _ l 1 _ rfl rfl hown rfl hll hz hbel ?_);intro v' w' hown' hbel' hz';clear hown hbel hz;go_wp2;go_roundw;case rel=>exact⟨k+1,om,by go_num,by rw[HS'.o];exact hown',hbel',hz'⟩
     case measure=>simp[intOf];omega
   .have hke:(bl s).take k=bl s:=qf (by rw[iE];omega);rw[hke] at hown;have hbn:=iE s;clear hke;go_wp2;have hB0:∀ x ∈ bl s,x<2:=Cf HK.o;generalize hL:bl s=l at *;have HL:Hid (bl s=l):=hL;clear hL;go_loopw [3,5] (fun v i wr=>∃ j:Nat,j<=15/\i = I J j/\aa wr w.heap.size v (l++List.replicate j 0)/\Bl w wr/\w.heap.size<=wr.heap.size) (fun _ i _=>15-(intOf i).toNat);case atStart=>exact⟨0,nZ _,rfl,by simpa using hown,hbel,hz⟩
    case round=>
     clear hown hbel hz;obtain⟨j,hj,rfl,hown,hbel,hz⟩:=hrel;by_cases hlt:j<15
     .have hll:(l++List.replicate j 0).length<=100000000:=by rw[qe,List.length_replicate];omega
      have HS:Hid (l++List.replicate (j+1) 0=(l++List.replicate j 0)++[0]):=by rw[qp,List.replicate_succ'];exact rfl
      generalize l++List.replicate j 0=l' at *;go_wp2_with (at_builtin;refine Gu w _ rfl (.tmp 32) (.tmp 33) rfl w.heap.size _ l' 0 _ rfl rfl hown rfl hll hz hbel ?_);intro v' w' hown' hbel' hz';clear hown hbel hz;go_wp2;go_roundw;case rel=>exact⟨j+1,om,by go_num,by rw[HS.o];exact hown',hbel',hz'⟩
      case measure=>simp[intOf];omega
     .have hj':j=15:=om;subst hj';have hown3:∃ g cap n,u3 = sL (sQ ⟨g,0,nn⟩) n cap/\w.heap.size<=g/\g<wr.heap.size/\n<=cap/\cap<=maxLen/\l.length+15<=n/\n<=l.length+15/\su wr g n (fun t=>(M.V l 0 t).toNat):=by
       obtain⟨g,cap,hv,h1,h2,h3,h4,h5⟩:=hown.open pQ;exact⟨g,cap,_,hv,h1,h2,h3,h4,pQ,pQ,h5.of (Fy l hB0)⟩
      clear hown;obtain⟨g,cap,n,rfl,hgB,hgz,hcap,hcm,hn1,hn2,hrow⟩:=hown3;unfold maxLen at hcm;have hbn1:l.length<=2000:=om;have HBN:Hid (l.length=s.size):=hbn;clear hbn;go_wp2;go_loopw [7,8] (fun i _ wr=>∃ k:Nat,k<=l.length/\i = I J k/\su wr g n (fun t=>(M.V l k t).toNat)/\Bl w wr/\g<wr.heap.size) (fun i _ _=>l.length-(intOf i).toNat);case atStart=>exact⟨0,nZ _,rfl,hrow,hbel,hgz⟩
      case round=>
       clear hrow hbel hgz hz;obtain⟨i,hi,rfl,hrow,hbel,hgz⟩:=hrel;by_cases hil:i<l.length
       .have hc:=hrow.cell i om;have HST:Hid (∀ j,M.V l (i+1) j=(M.V l i j ^^ (M.V l i i && (decide (i<=j/\j<i+16) && M.BJ (j-i))))):=fun j=>M.Ga l i j hB0 hil;cases hb:M.V l i i
        .simp only[hb,Bool.toNat_false] at hc;have HB:Hid (M.V l i i=false):=hb;clear hb;go_wp2;go_roundw;case rel=>exact⟨i+1,om,by go_num,hrow.of (fun t _=>by rw[HST.o t,HB.o];simp),hbel,hgz⟩
         case measure=>simp[intOf];omega
        .simp only[hb,Bool.toNat_true] at hc;have HB:Hid (M.V l i i=true):=hb;clear hb;go_wp2;go_loopw [8] (fun jj wr=>∃ j:Nat,j<=16/\jj = I J j/\su wr g n (fun t=>(M.V l i t ^^ (decide (i<=t/\t<i+j) && M.BJ (t-i))).toNat)/\Bl w wr/\g<wr.heap.size) (fun jj _=>16-(intOf jj).toNat);case atStart=>exact⟨0,nZ _,rfl,hrow.of (fun t _=>by rw[show decide (i<=t/\t<i+0)=false from qo om];simp),hbel,hgz⟩
         case round=>
          clear hrow hbel hgz hc;obtain⟨j,hj,rfl,hrow,hbel,hgz⟩:=hrel;by_cases hjl:j<16
          .have hc:=hrow.cell (i+j) om;have hf:=hrow.free (i+j) om;go_wp2;go_region;go_wp2;refine⟨⟨j+1,om,by go_num,hrow.set (i+j) om _ ?_ ?_,(hbel.setCell (by exact hgB) _).drew,by simpa using hgz⟩,by simp[intOf];omega⟩
           .rw[KE _ j hjl,show decide (i<=i+j/\i+j<i+(j+1))=true from qD om,show i+j-i=j from by omega];simp
           .intro t ht hne;have e:decide (i<=t/\t<i+j)=decide (i<=t/\t<i+(j+1)):=by
             rw[qk];simp;omega
            simp only[e]
          .have hj16:j=16:=om;subst hj16;have hrow':su wr g n (fun t=>(M.V l (i+1) t).toNat):=hrow.of (fun t _=>by rw[HST.o t,HB.o];simp);clear hrow;go_wp2;go_roundw;case rel=>exact⟨i+1,om,by go_num,hrow',hbel,hgz⟩
           case measure=>simp[intOf];omega
       .have hil':i=l.length:=om;subst hil';have hr:=M.BV l;have HV:Hid (∀ k,k<15->M.V l l.length (l.length+k)=(M.i8 l).testBit (14-k)):=M.Ge l;have HZ:Hid (Gz s=(M.i8 (bl s):Nat)):=by simp[Gz,HK.o,Hid]
        go_wp2;go_loopw [9,10] (fun c i wr=>∃ q:Nat,q<=15/\i = I J ((l.length+q:Nat):Int)/\c = I J ((M.pk (M.i8 l) q:Nat):Int)/\su wr g n (fun t=>(M.V l l.length t).toNat)/\Bl w wr/\g<wr.heap.size) (fun _ i _=>l.length+15-(intOf i).toNat);case atStart=>exact⟨0,om,by go_num,by rw[M.Ei _ hr];rfl,hrow,hbel,hgz⟩
        case round=>
         clear hrow hbel hgz;obtain⟨q,hq,rfl,rfl,hrow,hbel,hgz⟩:=hrel;have htp:=M.MJ (M.i8 l) q hr;by_cases hql:q<15
         .have hc:=hrow.cell (l.length+q) om;rw[HV.o q hql] at hc;have HT:Hid (M.pk (M.i8 l) (q+1)=2*M.pk (M.i8 l) q+((M.i8 l).testBit (14-q)).toNat):=M.Ej _ q hql;have hbb:((M.i8 l).testBit (14-q)).toNat<2:=by cases (M.i8 l).testBit (14-q) <;> decide
          generalize ((M.i8 l).testBit (14-q)).toNat=y at *;generalize hx:M.pk (M.i8 l) q=x at *;clear hx;go_wp2;go_roundw;case rel=>exact⟨q+1,om,by go_num,by rw[HT.o];go_num,hrow,hbel,hgz⟩
          case measure=>simp[intOf];omega
         .have hq':q=15:=om;subst hq';rw[M.Eu] at htp ⊢;go_wp2;go_ret;exact⟨au (by rw[HZ.o,HL.o]),hbel⟩
def jX (s:ByteArray) (w:Wd) (hs:s.size<=maxLen) :
  Calls Tp 54 #[.string s] w fun e w'=>e = rT (I J (Gz s))/\Bl w w':=by
 by_cases hk:okT s 2000=true
 .exact sG s w hs hk
 .have hk':okT s 2000=false:=by simpa using hk
  have HZ:Hid (Gz s = -1):=by simp[Gz,hk',Hid]
  clear hk;go_enter func54,ntmps54;go_wp2_with (go_at_call 69;refine (dD _ _ _ hs).mono ?_;rintro e w1 ⟨rfl,rfl⟩);go_ret;exact⟨au HZ.o.symm,bW _ _⟩
def cW (f:Nat->Nat) (i:Nat):Bool:=
 decide (5<=i) && (f (i-1) == f (i-2) && f (i-2) == f (i-3) && f (i-3) == f (i-4) && f (i-4) == f (i-5))
def fN (w:Wd) (g n cap i:Nat) (f:Nat->Nat) (hrow:su w g n f) (hi:i<=n) (hn:n<=100000000) :
  Calls Tp 71 #[sL (sQ ⟨g,0,nn⟩) n cap,I J i] w fun e w'=>e = rT (bO (cW f i))/\∃ q,w'=w.drewN q:=by
 by_cases h5:i<5
 .have HD:Hid (cW f i=false):=by simp[cW,Hid];omega
  go_enter func71,ntmps71;go_wp2;go_ret;exact⟨aj HD.o.symm,0,rfl⟩
 .obtain⟨k,rfl⟩ : ∃ k,i=k+5:=⟨i-5,om⟩
  have c1:=hrow.cell (k+4) om;have c2:=hrow.cell (k+3) om;have c3:=hrow.cell (k+2) om;have c4:=hrow.cell (k+1) om;have c5:=hrow.cell k om;have HD:Hid (cW f (k+5)=(f (k+4) == f (k+3) && f (k+3) == f (k+2) && f (k+2) == f (k+1) && f (k+1) == f k)):=by
   simp[cW,Hid]
  generalize f (k+4)=x1 at *;generalize f (k+3)=x2 at *;generalize f (k+2)=x3 at *;generalize f (k+1)=x4 at *;generalize f k=x5 at *;clear hrow;by_cases e1:x1=x2
  .have b1:((x1:Int) == (x2:Int))=true:=by simp;omega
   have E1:Hid (x1=x2):=e1;clear e1;by_cases e2:x2=x3
   .have b2:((x2:Int) == (x3:Int))=true:=by simp;omega
    have E2:Hid (x2=x3):=e2;clear e2;by_cases e3:x3=x4
    .have b3:((x3:Int) == (x4:Int))=true:=by simp;omega
     have E3:Hid (x3=x4):=e3;clear e3;by_cases e4:x4=x5
     .have b4:((x4:Int) == (x5:Int))=true:=by simp;omega
      have E4:Hid (x4=x5):=e4;clear e4;go_enter func71,ntmps71;go_wp2;go_quiet (fail);go_wp2;go_ret;exact⟨aj (by rw[HD.o];simp[E1.o,E2.o,E3.o,E4.o]),_,rfl⟩
     .have b4:((x4:Int) == (x5:Int))=false:=by simp;omega
      have E4:Hid (¬ x4=x5):=e4;clear e4;go_enter func71,ntmps71;go_wp2;go_quiet (fail);go_wp2;go_ret;exact⟨aj (by rw[HD.o];simp[E4.o]),_,rfl⟩
    .have b3:((x3:Int) == (x4:Int))=false:=by simp;omega
     have E3:Hid (¬ x3=x4):=e3;clear e3;go_enter func71,ntmps71;go_wp2;go_quiet (fail);go_wp2;go_ret;exact⟨aj (by rw[HD.o];simp[E3.o]),_,rfl⟩
   .have b2:((x2:Int) == (x3:Int))=false:=by simp;omega
    have E2:Hid (¬ x2=x3):=e2;clear e2;go_enter func71,ntmps71;go_wp2;go_quiet (fail);go_wp2;go_ret;exact⟨aj (by rw[HD.o];simp[E2.o]),_,rfl⟩
  .have b1:((x1:Int) == (x2:Int))=false:=by simp;omega
   have E1:Hid (¬ x1=x2):=e1;clear e1;go_enter func71,ntmps71;go_wp2;go_quiet (fail);go_wp2;go_ret;exact⟨aj (by rw[HD.o];simp[E1.o]),_,rfl⟩
namespace M
def gl (r:Nat × Nat) (c:Nat):Nat × Nat:=if c=r.1 then (r.1,r.2+1) else (c,1)
def eP (l:List Nat):Nat × Nat:=l.foldl gl (0,0)
def kL (out:List Nat) (c:Nat):List Nat:=if (eP (out++[c])).2=5 then out++[c]++[97-c] else out++[c]
def fP (l:List Nat):List Nat:=l.foldl kL []
def de (l:List Nat) (c:Nat):eP (l++[c])=gl (eP l) c:=by simp[eP]
def GD (l:List Nat) (c:Nat):fP (l++[c])=kL (fP l) c:=by simp[fP]
def rv (r:Nat × Nat) (c:Nat):(gl r c).1=c:=by
 unfold gl;split
 .rename_i h;exact h.symm
 .rfl
def zB (r:Nat × Nat) (c:Nat):1<=(gl r c).2:=by
 unfold gl;split
 .exact Nat.succ_le_succ (nZ _)
 .exact nR _
def eR (r:Nat × Nat) (c:Nat):(gl r c).2<=r.2+1:=by
 unfold gl;split
 .exact nR _
 .exact Nat.succ_le_succ (nZ _)
def sI {α:Type} (l:List α) (h:l≠[]):∃ l' a,l=l'++[a]:=by
 rcases List.eq_nil_or_concat l with e|⟨a,b,e⟩
 .exact Qy e h
 .exact⟨a,b,by rw[e,List.concat_eq_append]⟩
def jf {α:Type} {P:List α->Prop} (h0:P []) (h1:∀ l a,P l->P (l++[a])) (l:List α):P l:=by
 have:∀ n,∀ l:List α,l.length=n->P l:=by
  intro n;induction n with
  | zero=>intro l hl;rw[List.length_eq_zero_iff.1 hl];exact h0
  | succ n ih=>
   intro l hl;obtain⟨l',a,rfl⟩:=sI l (by intro e;simp[e] at hl);exact h1 l' a (ih l' (by simpa using hl))
 exact this _ l rfl
def Et (l:List Nat):(eP l).2<=l.length:=by
 induction l using jf with
 | h0=>exact nR _
 | h1 l a ih=>rw[de,qe];exact nT (eR _ _) (by simpa using ih)
def iC (a m:Nat):gl (a,m) a=(a,m+1):=by simp[gl]
def Gn (a m b:Nat) (h:¬ b=a):gl (a,m) b=(b,1):=by simp[gl,h]
def FG (l:List Nat) (a b c d e:Nat):(5<=(eP (l++[a]++[b]++[c]++[d]++[e])).2)↔(e=d/\d=c/\c=b/\b=a):=by
 simp only[de];have h1:=rv (eP l) a;have h2:=zB (eP l) a;generalize gl (eP l) a=r at *;obtain⟨x,m⟩:=r;simp only at h1 h2;subst h1;by_cases hb:b=x
 .subst hb;rw[iC];by_cases hc:c=b
  .subst hc;rw[iC];by_cases hd:d=c
   .subst hd;rw[iC];by_cases he:e=d
    .subst he;rw[iC];simp;omega
    .rw[Gn _ _ _ he];simp[he]
   .rw[Gn _ _ _ hd];have:=eR (d,1) e;simp[hd];simp at this;omega
  .rw[Gn _ _ _ hc];have h3:=eR (c,1) d;have h4:=eR (gl (c,1) d) e;simp[hc];simp at h3;omega
 .rw[Gn _ _ _ hb];have h2:=eR (b,1) c;have h3:=eR (gl (b,1) c) d;have h4:=eR (gl (gl (b,1) c) d) e;simp[hb];simp at h2;omega
def uV (h:isL c):isL (97-c)/\¬ 97-c=c:=by
 rcases h with rfl|rfl
 .exact⟨.inr rfl,by decide⟩
 .exact⟨.inl rfl,by decide⟩
def Em (l:List Nat) (h:∀ x ∈ l,isL x):∀ x ∈ fP l,isL x:=by
 induction l using jf with
 | h0=>intro x hx;simp[fP] at hx
 | h1 l a ih=>
  have ha:isL a:=h a pQ;have hl:=ih (fun x hx=>h x (by simp[hx]));rw[GD];intro x hx;unfold kL at hx;split at hx
  .simp at hx;rcases hx with hx|rfl|rfl
   .exact hl x hx
   .exact ha
   .exact (uV ha).1
  .simp at hx;rcases hx with hx|rfl
   .exact hl x hx
   .exact ha
def Ek (l:List Nat) (h:∀ x ∈ l,isL x):(eP (fP l)).2<=4:=by
 induction l using jf with
 | h0=>decide
 | h1 l a ih=>
  have ha:isL a:=h a pQ;have hl:=ih (fun x hx=>h x (by simp[hx]));rw[GD];unfold kL;rw[de];have h1:=eR (eP (fP l)) a;split
  .rename_i h5;rw[de,de];have hf:=rv (eP (fP l)) a;generalize gl (eP (fP l)) a=r at *;obtain⟨x,m⟩:=r;simp only at hf;subst hf;rw[Gn _ _ _ (uV ha).2];exact (by decide:1<=4)
  .rw[de];omega
def El (l:List Nat):(fP l).length<=2*l.length:=by
 induction l using jf with
 | h0=>decide
 | h1 l a ih=>
  rw[GD];unfold kL;split <;> simp <;> omega
end M
def lt (s:ByteArray):List Nat:=s.data.toList.map UInt8.toNat
def ba (s:ByteArray):(lt s).length=s.size:=by simp[lt]
def ox (s:ByteArray) (k:Nat) (h:k<s.size):(lt s).take (k+1)=(lt s).take k++[s[k].toNat]:=by
 unfold lt;rw[<- List.map_take,iS s k h];simp[List.map_take]
def gC {s:ByteArray} (h:okT s m=true):∀ x ∈ lt s,M.isL x:=by
 intro x hx;unfold okT at h;rw[qw] at h;unfold lt at hx;rw[List.mem_map] at hx;obtain⟨c,hc,rfl⟩:=hx;exact Hi (List.all_eq_true.1 h.2 c hc)
def bU (l:List Nat) (a j:Nat) (h:j<l.length):(l++[a]).getD j 0=l.getD j 0:=by simp[List.getD,qZ h]
def pl (l:List Nat) (a j:Nat) (h:j=l.length):(l++[a]).getD j 0=a:=by subst h;simp[List.getD]
def xi (l:List Nat):cW (fun t=>l.getD t 0) l.length=decide (5<=(M.eP l).2):=by
 by_cases h5:5<=l.length
 .have ne:∀ l:List Nat,1<=l.length->l≠[]:=by intro l h e;simp[e] at h
  obtain⟨l1,e,rfl⟩:=M.sI l (ne _ om);simp only[qe,qm] at h5;obtain⟨l2,d,rfl⟩:=M.sI l1 (ne _ om);simp only[qe,qm] at h5;obtain⟨l3,c,rfl⟩:=M.sI l2 (ne _ om);simp only[qe,qm] at h5;obtain⟨l4,b,rfl⟩:=M.sI l3 (ne _ om);simp only[qe,qm] at h5;obtain⟨l5,a,rfl⟩:=M.sI l4 (ne _ om);rw[qk,qV,M.FG];simp only[cW,qe,qm];have g1:(l5++[a]++[b]++[c]++[d]++[e]).getD (l5.length+1+1+1+1+1-1) 0=e:=pl _ _ _ pQ;have g2:(l5++[a]++[b]++[c]++[d]++[e]).getD (l5.length+1+1+1+1+1-2) 0=d:=by
   rw[bU _ _ _ pQ];exact pl _ _ _ pQ
  have g3:(l5++[a]++[b]++[c]++[d]++[e]).getD (l5.length+1+1+1+1+1-3) 0=c:=by
   rw[bU _ _ _ pQ,bU _ _ _ pQ];exact pl _ _ _ pQ
  have g4:(l5++[a]++[b]++[c]++[d]++[e]).getD (l5.length+1+1+1+1+1-4) 0=b:=by
   rw[bU _ _ _ pQ,bU _ _ _ pQ,bU _ _ _ pQ];exact pl _ _ _ pQ
  have g5:(l5++[a]++[b]++[c]++[d]++[e]).getD (l5.length+1+1+1+1+1-5) 0=a:=by
   rw[bU _ _ _ pQ,bU _ _ _ pQ,bU _ _ _ pQ,bU _ _ _ pQ];exact pl _ _ _ pQ
  rw[g1,g2,g3,g4,g5];simp[and_assoc]
 .have:=M.Et l;rw[qk,qV];simp[cW];omega
def vZ (c:Nat) (w:Wd) (h:M.isL c) :
  Calls Tp 116 #[I .u8 c] w fun e w'=>e = rT (I .u8 ((97-c:Nat):Int))/\w=w':=by
 rcases h with rfl|rfl
 .go_enter func116,ntmps116;go_wp2;go_ret;exact⟨rfl,rfl⟩
 .go_enter func116,ntmps116;go_wp2;go_ret;exact⟨rfl,rfl⟩
def dy (s:ByteArray):ByteArray:=if okT s 2000=true then ae (M.fP (lt s)) else ⟨#[]⟩
def sF (hr:(M.eP l).2<=4):decide (5<=(M.eP (l++[c])).2)=decide ((M.eP (l++[c])).2=5):=by
 have:=M.eR (M.eP l) c;rw[M.de];rw[qk];simp;omega
def nP (s:ByteArray) (w:Wd) (hs:s.size<=maxLen) (hk:okT s 2000=true) :
  Calls Tp 52 #[.string s] w fun e w'=>e = rT (.string (dy s))/\Bl w w':=by
  have hsz:=gj hk;go_enter func52,ntmps52;go_wp2_with (go_at_call 69;refine (dD _ _ _ hs).mono ?_;rintro e w1 ⟨rfl,rfl⟩);have HK:Hid (okT s 2000=true):=hk;clear hk;go_loopw [3,4] (fun v i wr=>∃ k:Nat,k<=s.size/\i = I J k/\aa wr w.heap.size v (M.fP ((lt s).take k))/\Bl w wr/\w.heap.size<=wr.heap.size) (fun _ i _=>s.size-(intOf i).toNat);case atStart=>exact⟨0,nZ _,rfl,gB _ _ (nR _),Zw,pQ⟩
  case round=>
   obtain⟨k,hk,rfl,hown,hbel,hz⟩:=hrel;by_cases hlt:k<s.size
   .have hv:M.isL s[k].toNat:=kT HK.o k hlt;have hL:∀ x ∈ (lt s).take k,M.isL x:=fun x hx=>gC HK.o x (qK hx);have hrun:=M.Ek _ hL;have hll:(M.fP ((lt s).take k)).length<=4000:=by
     have:=M.El ((lt s).take k);rw[qj,ba] at this;omega
    have HS:Hid (M.fP ((lt s).take (k+1))=M.kL (M.fP ((lt s).take k)) s[k].toNat):=by rw[ox s k hlt,M.GD];exact rfl
    clear hL;generalize M.fP ((lt s).take k)=l at *;go_wp2_with (at_builtin;refine Gu w wr rfl (.tmp 15) (.tmp 19) rfl w.heap.size _ l s[k].toNat _ rfl rfl hown rfl om hz hbel ?_);intro v1 w1 hown1 hbel1 hz1;clear hown hbel hz;obtain⟨g,cap,hv1,hgB,hgz,hcap,hcm,hrow⟩:=hown1.open pQ;subst hv1;have hdt:=xi (l++[s[k].toNat]);rw[sF hrun] at hdt;have hle:(l++[s[k].toNat]).length<=4001:=by simp;omega
    unfold M.kL at HS;generalize hl1:l++[s[k].toNat]=l1 at *;have HD:Hid (cW (fun t=>l1.getD t 0) l1.length=decide ((M.eP l1).2=5)):=hdt;clear hdt hl1;by_cases h5:(M.eP l1).2=5
    .rw[qc h5] at HS;have HD':Hid (cW (fun t=>l1.getD t 0) l1.length=true):=by rw[HD.o,h5];exact rfl
     clear HD h5 hrun;go_wp2_with (go_at_call 71;refine (fN _ g l1.length cap l1.length _ hrow (nR _) om).mono ?_;rw[HD'.o];rintro e w2 ⟨rfl,q,rfl⟩);have hown2:=hown1.drewN q;have hbel2:=QQ hbel1 q;have hz2:w.heap.size<=(w1.drewN q).heap.size:=by simpa using hz1
     refine (vZ _ _ hv).mono ?_;rintro e w2 ⟨rfl,rfl⟩;clear hown1 hbel1 hz1 hrow;go_wp2_with (at_builtin;refine Gu w (w1.drewN q) rfl (.tmp 25) (.tmp 30) rfl w.heap.size _ l1 (97-s[k].toNat) _ rfl rfl hown2 rfl om hz2 hbel2 ?_);intro v3 w3 hown3 hbel3 hz3;clear hown2 hbel2 hz2;go_wp2;go_roundw;case rel=>exact⟨k+1,om,by go_num,by rw[HS.o];exact hown3,hbel3,hz3⟩
     case measure=>simp[intOf];omega
    .rw[qa h5] at HS;have HD':Hid (cW (fun t=>l1.getD t 0) l1.length=false):=by rw[HD.o];exact qo h5
     clear HD h5 hrun;go_wp2_with (go_at_call 71;refine (fN _ g l1.length cap l1.length _ hrow (nR _) om).mono ?_;rw[HD'.o];rintro e w2 ⟨rfl,q,rfl⟩);go_roundw;case rel=>exact⟨k+1,om,by go_num,by rw[HS.o];exact hown1.drewN q,QQ hbel1 q,by simpa using hz1⟩
     case measure=>simp[intOf];omega
   .have hke:(lt s).take k=lt s:=qf (by rw[ba];omega);rw[hke] at hown;have hcv:=ik hown (iX (M.Em _ (gC HK.o)));have HZ:Hid (dy s=ae (M.fP (lt s))):=by simp[dy,HK.o,Hid]
    generalize M.fP (lt s)=l at *;clear hke;go_wp2;go_ret;exact⟨cg HZ.o.symm,hbel⟩
def lS (s:ByteArray) (w:Wd) (hs:s.size<=maxLen) :
  Calls Tp 52 #[.string s] w fun e w'=>e = rT (.string (dy s))/\Bl w w':=by
 by_cases hk:okT s 2000=true
 .exact nP s w hs hk
 .have hk':okT s 2000=false:=by simpa using hk
  have HZ:Hid (dy s=⟨#[]⟩):=by simp[dy,hk',Hid]
  clear hk;go_enter func52,ntmps52;go_wp2_with (go_at_call 69;refine (dD _ _ _ hs).mono ?_;rintro e w1 ⟨rfl,rfl⟩);go_ret;exact⟨cg HZ.o.symm,bW _ _⟩
def eG.c0 (h:eG w b r):w.cell? ⟨b,0,nn⟩=sQ (I .i32 (r.1:Int)):=by unfold eG at h;simp[World.cell?,h]
def eG.c1 (h:eG w b r):w.cell? ⟨b,1,nn⟩=sQ (I J (r.2:Int)):=by unfold eG at h;simp[World.cell?,h]
def eG.f0 (h:eG w b r) (i:Nat):w.frozen? ⟨b,i,nn⟩=false:=by unfold eG at h;simp[World.frozen?,h]
def uZ (w:Wd) (b:Option Nat):w.grownBy w b:=⟨rfl,rfl,rfl,nR _,fun _ _ _=>rfl⟩
def oJ {w1:Wd} (h:w.grownBy w1 (sQ b)) (i:Nat) (v:Value):w.grownBy (w1.setCell ⟨b,i,nn⟩ v) (sQ b):=
 ⟨h.os,h.tape,h.output,by simpa using h.size,fun k hk hne=>(QA w1 ⟨b,i,nn⟩ k v (fun e=>hne (by simp[e]))).trans (h.block k hk hne)⟩
def rB (w:Wd) (b:Nat) (r:Nat × Nat) (h:eG w b r) :
  Calls Tp 197 #[pT (sQ ⟨b,0,nn⟩)] w fun e w'=>e = rT (bO (decide (r.2=5)))/\w=w':=by
 have c1:=h.c1;have hb:((r.2:Int) == 5)=decide (r.2=5):=by rw[qk];simp;omega
 go_enter func197,ntmps197;go_wp2;go_ret;exact⟨rfl,rfl⟩
def lC (w:Wd) (b:Nat) (r:Nat × Nat) (c:Nat) (h:eG w b r) (hr:r.2<=100000) :
  Calls Tp 196 #[pT (sQ ⟨b,0,nn⟩),I .i32 c] w fun e w'=>e = rT (.tuple #[])/\eG w' b (M.gl r c)/\w.grownBy w' (sQ b):=by
 have c0:=h.c0;have c1:=h.c1;have f0:=h.f0 0;have f1:=h.f0 1;by_cases hc:c=r.1
 .have hb:((c:Int) != (r.1:Int))=false:=by simp;omega
  go_enter func196,ntmps196;go_wp2;go_end0;refine⟨rfl,?_,oJ (uZ _ _) _ _⟩;have h1:=QP w b 1 _ _ (Value.int IntKind.i64 ((r.2:Int)+1)) h;unfold eG;rw[h1,M.gl,qc hc];simp
 .have hb:((c:Int) != (r.1:Int))=true:=by simp;omega
  go_enter func196,ntmps196;go_wp2;go_end0;refine⟨rfl,?_,oJ (oJ (oJ (uZ _ _) _ _) _ _) _ _⟩;have h1:=QP w b 0 _ _ (Value.int IntKind.i32 (c:Int)) h;have h2:=QP _ b 1 _ _ (Value.int IntKind.i64 0) h1;have h3:=QP _ b 1 _ _ (Value.int IntKind.i64 1) h2;unfold eG;rw[h3,M.gl,qa hc];simp
def A0 (c:Nat) (w:Wd) (h:M.isL c) :
  Calls Tp 198 #[I .i32 c] w fun e w'=>e = rT (I .i32 ((97-c:Nat):Int))/\w=w':=by
 rcases h with rfl|rfl
 .go_enter func198,ntmps198;go_wp2;go_ret;exact⟨rfl,rfl⟩
 .go_enter func198,ntmps198;go_wp2;go_ret;exact⟨rfl,rfl⟩
def stI.ne {s:ByteArray} (h:stI w0 B b1 b2 s k v l r w):b1≠b2:=by
 intro e;have h1:=h.run;have h2:=h.it;rw[<- e,h1] at h2;cases h2
def aa.otherBlock (h:aa w B v l) (hk:∀ g,v.ownBlock=sQ g->w'.heap[g]?=w.heap[g]?):aa w' B v l:=by
 obtain⟨h1,h2|⟨g,cap,cur,rfl,hb,hh,rest⟩⟩:=h
 .exact⟨h1,.inl h2⟩
 .exact⟨h1,.inr ⟨g,cap,cur,rfl,hb,(hk g rfl).trans hh,rest⟩⟩
def stI.next {s:ByteArray} (h:stI w0 B b1 b2 s k v l r w) (k':Nat):stI w0 B b1 b2 s k' v l r (w.iterAt b2 s k'):=by
 refine⟨h.own.otherBlock (fun g hg=>?_),(Q2 w b2 b1 s k' h.ne).trans h.run,Lib.iterAt_heap w b2 s k k' h.it,Lib.below_iterAt h.bel h.B2 s k',h.B1,h.B2⟩;obtain⟨c,fz,hc⟩:=h.own.kind g hg;refine Q2 w b2 g s k' (fun e=>?_);rw[e,h.it] at hc;cases hc
def stI.hear {s:ByteArray} {r':Nat × Nat} (h:stI w0 B b1 b2 s k v l r w) (hr:eG w' b1 r') (hg:w.grownBy w' (sQ b1)):stI w0 B b1 b2 s k v l r' w':=by
 refine⟨h.own.otherBlock (fun g hgv=>?_),hr,?_,h.bel.grown hg h.size (fun k e=>by cases e;exact h.B1),h.B1,h.B2⟩
 .obtain⟨c,fz,hc⟩:=h.own.kind g hgv;refine hg.block g (QX hc) (fun e=>?_);cases e;rw[h.run] at hc;cases hc
 .rw[hg.block b2 (QX h.it) (fun e=>h.ne (by cases e;rfl))];exact h.it
def stI.app {s:ByteArray} {v':Value} {l':List Nat} (h:stI w0 B b1 b2 s k v l r w) (ho:aa w' B v' l') (hb:Below B w0 w') (hk:Lib.OthersKept 5 nn w w'):stI w0 B b1 b2 s k v' l' r w':=
 ⟨ho,hk _ _ h.run pQ (by intro c fz e;cases e),hk _ _ h.it pQ (by intro c fz e;cases e),hb,h.B1,h.B2⟩
def tc {ops:Array Oper} {rest:List Oper} {o:Oper} {a:Act} {Q:Exit->Act->Wd->Prop} (w:Wd)
  (hg:o.guard=nn) (l c:Operand) (hop:o.op=Op.makeSlice 65 l c) (B:Nat) (C:Int) (n:Nat) (hl:a.eval l = I J 0) (hc:a.eval c = I J C) (hC:C=(n:Int)) (hn:n<=100000000) (hB:B<=w.heap.size)
  (hK:∀ w',aa w' B (sL (sQ ⟨w.heap.size,0,nn⟩) 0 n) []->w.grownBy w' nn->wpList Tp ops Q rest (a.put o.dst (sL (sQ ⟨w.heap.size,0,nn⟩) 0 n)) w') :
  wpList Tp ops Q (o :: rest) a w:=by
 obtain⟨i0,hi,hz0,hz1,hz2⟩:=QW info5;exact wpList_make_own w hg l c 65 hop B 5 i0 (I .u8 0) 1 underlying65 hi hz0 hz1 .i64 .i64 C n hl hc hC (by rw[hz2];omega) (by unfold maxLen;omega) hB hK
def xZ (s:ByteArray) (w:Wd) (hk:okT s 2000=true) :
  Calls Tp 152 #[.string s] w fun e w'=>e = rT (.string (dy s))/\Bl w w':=by
  have hsz:=gj hk;go_enter func152,ntmps152;go_wp2_with (first | (go_at_call 194;refine (cV _ _ _).mono ?_;rintro e w1 ⟨rfl,hb1⟩) | (at_make;refine tc _ rfl (.const (I J 0)) (.tmp 16) rfl w.heap.size _ (s.size+s.size / 4+1) rfl rfl om om hb1.size ?_;intro w2 hown2 hg2));have HK:Hid (okT s 2000=true):=hk;clear hk;have hB2:=nT hb1.size hg2.size;have st0:stI w w.heap.size w2.heap.size (w2.heap.size+1) s 0 (sL (sQ ⟨w1.heap.size,0,nn⟩) 0 (s.size+s.size / 4+1)) [] (0,0) ((w2.alloc (.cells #[I .i32 0,I J 0] 212)).iter s 0):=by
   refine⟨QM (QM hown2 _) _,?_,?_,((hb1.grown hg2 hb1.size (by intro k e;cases e)).alloc hB2 _).alloc (by simp;omega) _,hB2,om⟩
   .unfold eG World.iter;rw[Below.heap_alloc _ _ _ pQ];exact QN w2 _
   .have:=World.iter_heap (w2.alloc (.cells #[I .i32 0,I J 0] 212)) s 0;simpa using this
  clear hown2 hg2;generalize hb2:w2.heap.size=b1 at *;clear hb2;go_loopw [3,6] (fun v _ wr=>∃ k:Nat,k<=s.size/\stI w w.heap.size b1 (b1+1) s k v (M.fP ((lt s).take k)) (M.eP (M.fP ((lt s).take k))) wr) (fun _ _ wr=>s.size-wr.iterPos (b1+1));case atStart=>exact⟨0,nZ _,st0⟩
  case round=>
   clear st0;obtain⟨k,hk,st⟩:=hrel;by_cases hlt:k<s.size
   .have hv:M.isL s[k].toNat:=kT HK.o k hlt;have hv256:(s[k].toNat:Int)<256:=by rcases hv with h | h <;> omega
    have hL:∀ x ∈ (lt s).take k,M.isL x:=fun x hx=>gC HK.o x (qK hx);have hrun:=M.Ek _ hL;have hll:(M.fP ((lt s).take k)).length<=4000:=by
     have:=M.El ((lt s).take k);rw[qj,ba] at this;omega
    have HS:Hid (M.fP ((lt s).take (k+1))=M.kL (M.fP ((lt s).take k)) s[k].toNat):=by rw[ox s k hlt,M.GD];exact rfl
    clear hL;generalize M.fP ((lt s).take k)=l at *;have hnx:=fun ty=>Lib.run_next_ascii_at (P:=Tp) wr (b1+1) s k ty st.it hlt (by rcases hv with h | h <;> omega);have st1:=st.next (k+1);have HP:Hid (wr.iterPos (b1+1)=k):=iterPos_of st.it;clear st;generalize wr.iterAt (b1+1) s (k+1)=wr1 at *;go_wp2_with (at_builtin;(refine Gk w wr1 rfl (.tmp 23) (.tmp 26) rfl w.heap.size _ l s[k].toNat _ om rfl st1.own rfl om st1.size st1.bel ?_));intro v2 w2 ho2 hb2 hk2;have st2:=st1.app ho2 hb2 hk2;clear st1 ho2 hb2 hk2;have HT:Hid (M.gl (M.eP l) s[k].toNat=M.eP (l++[s[k].toNat])):=(M.de _ _).symm;have hle:(l++[s[k].toNat]).length<=4001:=by simp;omega
    have hr5:(M.eP (l++[s[k].toNat])).2<=5:=by
     rw[M.de];exact nT (M.eR _ _) om
    unfold M.kL at HS;generalize hl1:l++[s[k].toNat]=l1 at *;clear hl1;by_cases h5:(M.eP l1).2=5
    .have HS':Hid (M.fP (List.take (k+1) (lt s))=l1++[97-s[k].toNat]):=by have:=HS.o;rw[qc h5] at this;exact this
     have hd5:decide ((M.eP l1).2=5)=true:=qD h5;have HT2:Hid (M.gl (M.eP l1) (97-s[k].toNat)=M.eP (l1++[97-s[k].toNat])):=(M.de _ _).symm;clear HS h5;go_wp2_with (go_at_call 196;refine (lC _ b1 _ s[k].toNat st2.run om).mono ?_;rw[HT.o];rintro e w3 ⟨rfl,hr3,hg3⟩);have st3:=st2.hear hr3 hg3;clear st2 hr3 hg3;go_wp2_with (go_at_call 197;refine (rB _ b1 _ st3.run).mono ?_;rw[hd5];rintro e w4 ⟨rfl,rfl⟩);have hv97:((97-s[k].toNat:Nat):Int)<256:=om;have HO:Hid (∀ w,Calls Tp 198 #[I .i32 (s[k].toNat:Int)] w fun e w'=>e = rT (I .i32 ((97-s[k].toNat:Nat):Int))/\w=w'):=fun w=>A0 _ w hv;generalize 97-s[k].toNat=c' at *;refine (HO.o _).mono ?_;rintro e w4 ⟨rfl,rfl⟩;go_wp2_with (at_builtin;(refine Gk w w3 rfl (.tmp 31) (.tmp 35) rfl w.heap.size _ l1 c' _ om rfl st3.own rfl om st3.size st3.bel ?_));intro v5 w5 ho5 hb5 hk5;have st5:=st3.app ho5 hb5 hk5;clear st3 ho5 hb5 hk5;go_wp2_with fail;refine (HO.o _).mono ?_;rintro e w6 ⟨rfl,rfl⟩;go_wp2_with (go_at_call 196;refine (lC _ b1 _ c' st5.run om).mono ?_;rw[HT2.o];rintro e w7 ⟨rfl,hr7,hg7⟩);have st7:=st5.hear hr7 hg7;clear st5 hr7 hg7;go_roundw;case rel=>exact⟨k+1,om,by rw[HS'.o];exact st7⟩
     case measure=>rw[iterPos_of st7.it,HP.o];omega
    .have HS':Hid (M.fP (List.take (k+1) (lt s))=l1):=by have:=HS.o;rw[qa h5] at this;exact this
     have hd5:decide ((M.eP l1).2=5)=false:=qo h5;clear HS h5;go_wp2_with (go_at_call 196;refine (lC _ b1 _ s[k].toNat st2.run om).mono ?_;rw[HT.o];rintro e w3 ⟨rfl,hr3,hg3⟩);have st3:=st2.hear hr3 hg3;clear st2 hr3 hg3;go_wp2_with (go_at_call 197;refine (rB _ b1 _ st3.run).mono ?_;rw[hd5];rintro e w4 ⟨rfl,rfl⟩);go_roundw;case rel=>exact⟨k+1,om,by rw[HS'.o];exact st3⟩
     case measure=>rw[iterPos_of st3.it,HP.o];omega
   .have hke:(lt s).take k=lt s:=qf (by rw[ba];omega);rw[hke] at st;have hcv:=ik st.own (iX (M.Em _ (gC HK.o)));have HZ:Hid (dy s=ae (M.fP (lt s))):=by simp[dy,HK.o,Hid]
    have hnx:∀ ty,(Instr.next (pT (sQ ⟨b1+1,0,nn⟩)) true ty).run Tp wr=_:=fun ty=>Lib.run_next_end_at wr (b1+1) s k ty st.it hlt;have hbel:=st.bel;clear st;generalize M.fP (lt s)=l at *;clear hke;go_wp2;go_ret;exact⟨cg HZ.o.symm,hbel⟩
def vL (s:ByteArray) (w:Wd) :
  Calls Tp 152 #[.string s] w fun e w'=>e = rT (.string (dy s))/\Bl w w':=by
 by_cases hk:okT s 2000=true
 .exact xZ s w hk
 .have hk':okT s 2000=false:=by simpa using hk
  have HZ:Hid (dy s=⟨#[]⟩):=by simp[dy,hk',Hid]
  clear hk;go_enter func152,ntmps152;go_wp2_with (go_at_call 194;refine (cV _ _ _).mono ?_;rintro e w1 ⟨rfl,hb1⟩);go_ret;exact⟨cg HZ.o.symm,hb1⟩
def rV (s:ByteArray) (cap t:Nat) (h:t<s.size):(bytesRow s cap)[t]?=sQ (I .u8 ((lt s).getD t 0:Int)):=by
 have hd:t<s.data.size:=h;unfold bytesRow;rw[Array.getElem?_append_left (by simpa using hd)];simp only[lt,List.getD,List.getElem?_map,Array.getElem?_map,qS];rw[Ql hd];rfl
def sK (w:Wd) (s:ByteArray) (cap:Nat):su (w.alloc (.cells (bytesRow s cap) 5 ((bytesRow s cap).size,(bytesRow s cap).size+1))) w.heap.size s.size (fun t=>(lt s).getD t 0):=by
 refine⟨fun t ht=>?_,fun t ht=>?_⟩
 .rw[World.cell?_alloc_mark,rV s cap t ht]
 .have h1:(w.alloc (.cells (bytesRow s cap) 5 ((bytesRow s cap).size,(bytesRow s cap).size+1))).heap[w.heap.size]?=_:=QN w _;have h2:s.size<=(bytesRow s cap).size:=by unfold bytesRow;simp
  simp only[World.frozen?,h1];simp;omega
def rZ (e:Bool) (i:Nat) (r:Bool):(eO e i r).length<=32:=by
 cases e <;> simp[eO,M.DD]
def pB (w:Wd) (e:Bool) (i:Nat) (r:Bool) (d:Int) (a:Option Addr) (n cap:Nat) :
  Calls Tp 193 #[I J 7,frV e i r d a n cap] w fun o w'=>o = rT (I J ((1+e.toNat:Nat):Int))/\w.alloc (frC e i r d a n cap 67)=w':=by
 cases e
 .go_enter func193,ntmps193;go_wp2;go_ret;exact⟨rfl,rfl⟩
 .go_enter func193,ntmps193;go_wp2;go_ret;exact⟨rfl,rfl⟩
def AX (w:Wd) (c:Nat) (B:Nat) (hB:B<=w.heap.size):aa (w.alloc (.cells #[I .u8 (c:Int)] 5)) B (sL (sQ ⟨w.heap.size,0,nn⟩) 1 1) [c]:=
 World.ownsRow_lit w #[I .u8 (c:Int)] 1 hB (by decide) rfl
def xa (l:List Nat):(l.flatMap (fun x=>M.num x 8)).length=8*l.length:=by
 induction l with
 | nil=>rfl
 | cons a l ih=>rw[qI,qe,ih,M.DD,Qa];omega
def Cd (w:Wd) (e:Bool) (i:Nat) (r:Bool) (dn:Nat) (a:Option Addr) (n cap:Nat) (l:List Nat) (h:iB w a n cap l) (hv:vB e i r (dn:Int) n=true) :
  Calls Tp 149 #[frV e i r (dn:Int) a n cap] w fun o w'=>o = rT (.string (ae (ag e i r dn l)))/\Bl w w':=by
 obtain⟨hi,_,_,hd15,hn8⟩:=cN hv;have HV:Hid (vB e i r (dn:Int) n=true):=hv;have HH:Hid (iB w a n cap l):=h;have hW:Bl w (w.alloc (frC e i r (dn:Int) a n cap 67)):=Zw;have HW:Hid (Bl w (w.alloc (frC e i r (dn:Int) a n cap 67))/\(w.alloc (frC e i r (dn:Int) a n cap 67)).heap[w.heap.size]?=sQ (frC e i r (dn:Int) a n cap 67)):=⟨hW,QN w _⟩
 clear hv h hW;go_enter func149,ntmps149;go_wp2_with fail;refine (dU _ e i r (dn:Int) a n cap l (HH.o.below HW.o.1)).mono ?_;rw[HV.o];rintro o w1 ⟨rfl,hb1⟩;have hB1:Bl w w1:=HW.o.1.trans (hb1.mono pQ);have hx1:=dH HW.o.2 hb1 pQ;have hz1:w.heap.size<w1.heap.size:=QX hx1;have HX1:Hid (w1.heap[w.heap.size]?=sQ (frC e i r (dn:Int) a n cap 67)):=hx1;have hc1:=cn hx1;clear hb1 hx1;have hy1:=HH.o.below hB1;have HY1:Hid (iB w1 a n cap l):=hy1;clear hy1;go_wp2_with fail;have hWb:Bl w1 (w1.alloc (.cells #[I .u8 48] 5)):=Zw;have hWz:w1.heap.size<=(w1.alloc (.cells #[I .u8 48] 5)).heap.size:=pQ;refine (mG _ w1.heap.size _ [48] (AX w1 48 w1.heap.size (nR _)) hWz pQ e i r (dn:Int) a n cap om).mono ?_;rintro o w2 ⟨v2,rfl,ho2,hb2,_⟩;have hB2:=hWb.trans hb2;have hx2:=dH HX1.o hB2 hz1;have hc2:=cn hx2;have hz2:w1.heap.size<=w2.heap.size:=hB2.size;clear hb2 hWb hWz hc1 hx2;go_wp2_with (go_at_call 193;refine (pB _ _ _ _ _ _ _ _).mono ?_;rintro o w3 ⟨rfl,rfl⟩);have ho2':aa (w2.alloc (frC e i r (dn:Int) a n cap 67)) w1.heap.size v2 ([48]++eO e i r):=QM ho2 _;have hB3:Bl w1 (w2.alloc (frC e i r (dn:Int) a n cap 67)):=hB2.alloc hz2 _;have hal:=rZ e i r;refine (aV _ w1.heap.size v2 _ 0 (1+e.toNat) ho2' (by simp;omega) (by simp;omega) om (by cases e <;> simp)).mono ?_;rintro o w4 ⟨v4,rfl,ho4,hb4,_⟩;have hB4:=hB3.trans hb4;have hx4:=dH HX1.o hB4 hz1;have hc4:=cn hx4;have hz4:w1.heap.size<=w4.heap.size:=hB4.size;clear hb4 hB3 hB2 hc2 hx4 ho2 ho2' hz2;go_wp2_with fail;refine (aV _ w1.heap.size v4 _ dn 4 ho4 hz4 (by simp[M.DD];cases e <;> simp <;> omega) om om).mono ?_;rintro o w5 ⟨v5,rfl,ho5,hb5,_⟩;have hB5:=hB4.trans hb5;have hx5:=dH HX1.o hB5 hz1;have hc5:=cn hx5;have hz5:w1.heap.size<=w5.heap.size:=hB5.size;clear hb5 hB4 hc4 hx5 ho4 hz4;have hpl:([48]++eO e i r++M.num 0 (1+e.toNat)++M.num dn 4).length<=100:=by simp[M.DD];cases e <;> simp <;> omega
 have HBD:Hid (ag e i r dn l=[48]++eO e i r++M.num 0 (1+e.toNat)++M.num dn 4++l.flatMap (fun x=>M.num x 8)):=rfl;generalize [48]++eO e i r++M.num 0 (1+e.toNat)++M.num dn 4=pre at *;go_wp2_with fail;by_cases hl:l=[]
 .have hn0:n=0:=by have:=HY1.o.len;rw[hl] at this;simpa using this
  subst hn0 hl;have hz0:¬ (0:Int)<((0:Nat):Int):=om;go_loopw [3,5,24] (fun v _ idx wr=>idx = I J 0/\aa wr w1.heap.size v pre/\Bl w1 wr) (fun _ _ _ _=>0);case atStart=>exact⟨rfl,ho5,hB5⟩
  case round=>
   clear ho5 hB5 hc5;obtain⟨rfl,ho,hb⟩:=hrel;have hall:∀ x ∈ pre,M.isL x:=fun x hx=>dI e i r dn [] x (by rw[HBD.o];simp[hx]);have hcv:=ik ho (iX hall);clear hall;go_wp2;go_ret;exact⟨cg (by rw[HBD.o];simp),hB1.trans (hb.mono om)⟩
 .obtain⟨g,off,rfl,hcl⟩:=HY1.o.cells hl;have hlen:=HY1.o.len;have hn1:n<=l.length:=om;have hn2:l.length<=n:=om;have hsm:=HY1.o.small;have HSM:Hid (∀ x ∈ l,x<256):=hsm;clear hlen hsm;have hgz:g<w1.heap.size:=QC w1 _ (hcl 0 (by have:=List.length_pos_iff.2 hl;omega));go_loopw [3,5,24] (fun v _ idx wr=>∃ k:Nat,k<=n/\idx = I J k/\aa wr w1.heap.size v (pre++(l.take k).flatMap (fun x=>M.num x 8))/\Bl w1 wr/\w1.heap.size<=wr.heap.size) (fun _ _ idx _=>n-(intOf idx).toNat);case atStart=>exact⟨0,nZ _,rfl,by simpa using ho5,hB5,hz5⟩
  case round=>
   clear ho5 hB5 hz5 hc5;obtain⟨k,hk,rfl,ho,hb,hz⟩:=hrel;by_cases hlt:k<n
   .have hc:wr.cell? ⟨g,off+k,nn⟩=sQ (I .u8 (l[k]:Int)):=(hb.cell (by exact hgz)).trans (hcl k om);have hx256:=HSM.o l[k] (qn _);have HF:Hid (pre++(l.take (k+1)).flatMap (fun x=>M.num x 8)=pre++(l.take k).flatMap (fun x=>M.num x 8)++M.num l[k] 8):=jK l k om pre;have hpl2:(pre++(l.take k).flatMap (fun x=>M.num x 8)).length<=1000:=by rw[qe,xa,qj];omega
    generalize l[k]=x at *;generalize pre++(l.take k).flatMap (fun x=>M.num x 8)=p1 at *;go_wp2_with (go_at_call 150;refine (aV _ w1.heap.size _ p1 x 8 ho hz om om om).mono ?_;rintro o w7 ⟨v7,rfl,ho7,hb7,_⟩);have hb8:=hb.trans hb7;have hz7:w1.heap.size<=w7.heap.size:=hb8.size;clear ho hb hz hb7;go_roundw;case rel=>exact⟨k+1,om,by go_num,by rw[HF.o];exact ho7,hb8,hz7⟩
    case measure=>simp[intOf];omega
   .have hke:l.take k=l:=qf om;rw[hke] at ho;have hall:∀ x ∈ pre++l.flatMap (fun x=>M.num x 8),M.isL x:=fun x hx=>dI e i r dn l x (by rw[HBD.o];exact hx);have hcv:=ik ho (iX hall);clear hall hke;generalize pre++l.flatMap (fun x=>M.num x 8)=p1 at *;go_wp2;go_ret;exact⟨cg (by rw[HBD.o]),hB1.trans (hb.mono om)⟩
def Am (w:Wd) (e:Bool) (i:Nat) (r:Bool) (d:Int) (a:Option Addr) (n cap:Nat) (l:List Nat) (h:iB w a n cap l) :
  Calls Tp 149 #[frV e i r d a n cap] w fun o w'=>o = rT (.string (gU e i r d n l))/\Bl w w':=by
 by_cases hv:vB e i r d n=true
 .obtain⟨_,_,hd0,_,_⟩:=cN hv;obtain⟨dn,rfl⟩:=Int.eq_ofNat_of_zero_le hd0;refine (Cd w e i r dn a n cap l h hv).mono ?_;rintro o w' ⟨rfl,hb⟩;exact⟨cg (by simp[gU,hv]),hb⟩
 .have hv':vB e i r d n=false:=by simpa using hv
  have HZ:Hid (gU e i r d n l=⟨#[]⟩):=by simp[gU,hv',Hid]
  have HV:Hid (vB e i r d n=false):=hv';have HH:Hid (iB w a n cap l):=h;clear hv hv' h;go_enter func149,ntmps149;go_wp2_with (go_at_call 148;refine (dU _ e i r d a n cap l (HH.o.below Zw)).mono ?_;rw[HV.o];rintro o w1 ⟨rfl,hb1⟩);go_ret;exact⟨cg HZ.o.symm,Zw.trans (hb1.mono pQ)⟩
def GH (l:List Nat) (h:∀ x ∈ l,x<256):lt (ae l)=l:=by
 unfold lt ae;simp only[List.map_map];conv=>rhs;rw[<- List.map_id l]
 apply Qm;intro x hx;have:=h x hx;simp;omega
def Ce (l:List Nat) (h:∀ x ∈ l,x<256):bl (ae l)=l.map (fun x=>x-48):=by
 have:bl (ae l)=(lt (ae l)).map (fun x=>x-48):=by unfold bl lt;simp
 rw[this,GH l h]
def kS (l:List Nat) (m:Int) (h:∀ x ∈ l,M.isL x) (hm:(l.length:Int)<=m):okT (ae l) m=true:=by
 unfold okT;rw[qw,qV,aN];refine⟨hm,?_⟩;rw[Qb];intro c hc;unfold ae at hc;simp at hc;obtain⟨x,hx,rfl⟩:=hc;rcases h x hx with rfl | rfl <;> rfl
def jV (l:List Nat) (h:∀ x ∈ l,M.isL x) (hm:l.length<=2000):dy (ae l)=ae (M.fP l):=by
 unfold dy;rw[qc (kS l 2000 h om),GH l (iX h)]
def jN (l:List Nat) (h:∀ x ∈ l,M.isL x) (hm:l.length<=2000):Gz (ae l)=((M.i8 (l.map (fun x=>x-48)):Nat):Int):=by
 unfold Gz;rw[qc (kS l 2000 h om),Ce l (iX h)]
def ab (e:Bool) (i:Nat) (r:Bool) (d:Nat) (l:List Nat):List Nat:=
 ag e i r d l++M.num (M.i8 ((ag e i r d l).map (fun x=>x-48))) 15
def eV (e:Bool) (i:Nat) (r:Bool) (d:Int) (n:Nat) (l:List Nat):ByteArray:=
 if vB e i r d n=true then ae (M.fP (ab e i r d.toNat l)++List.replicate 10 49) else ⟨#[]⟩
def cQ (e:Bool) (i:Nat) (r:Bool) (d:Nat) (l:List Nat):∀ x ∈ ab e i r d l,M.isL x:=by
 intro x hx;unfold ab at hx;rw[qB] at hx;rcases hx with hx|hx
 .exact dI e i r d l x hx
 .exact M.FD _ _ x hx
def ew (e:Bool) (i:Nat) (r:Bool) (d:Nat) (l:List Nat):(ab e i r d l).length=(if e=true then 54 else 34)+8*l.length:=by
 unfold ab;rw[qe,pr,M.DD];cases e <;> simp <;> omega
def tT (w:Wd) (e:Bool) (i:Nat) (r:Bool) (d:Int) (a:Option Addr) (n cap:Nat) (l:List Nat) (h:iB w a n cap l) :
  Calls Tp 88 #[frV e i r d a n cap] w fun o w'=>o = rT (.string (eV e i r d n l))/\Bl w w':=by
 have HH:Hid (iB w a n cap l):=h;have HW:Hid (Bl w (w.alloc (frC e i r d a n cap 67))/\(w.alloc (frC e i r d a n cap 67)).heap[w.heap.size]?=sQ (frC e i r d a n cap 67)):=⟨Zw,QN w _⟩
 have hlen:=h.len;clear h;by_cases hv:vB e i r d n=true
 .have hn8:=(cN hv).2.2.2.2;have HZ:Hid (eV e i r d n l=ae (M.fP (ab e i r d.toNat l)++List.replicate 10 49)):=by simp[eV,hv,Hid]
  have HBZ:Hid (gU e i r d n l=ae (ag e i r d.toNat l)):=by simp[gU,hv,Hid]
  have HV:Hid (vB e i r d n=true):=hv;have hbl:=pr e i r d.toNat l;have hbl':(ag e i r d.toNat l).length<=200:=by rw[hbl];split <;> omega
  have HC:Hid (Gz (ae (ag e i r d.toNat l))=((M.i8 ((ag e i r d.toNat l).map (fun x=>x-48)):Nat):Int)):=jN _ (dI _ _ _ _ _) om;have hc:=M.BV ((ag e i r d.toNat l).map (fun x=>x-48));have HP:Hid (ae (ag e i r d.toNat l)++ae (M.num (M.i8 ((ag e i r d.toNat l).map (fun x=>x-48))) 15)=ae (ab e i r d.toNat l)):=by rw[bQ];exact rfl
  have hpl:=ew e i r d.toNat l;have hpl':(ab e i r d.toNat l).length<=200:=by rw[hpl];split <;> omega
  have HS:Hid (dy (ae (ab e i r d.toNat l))=ae (M.fP (ab e i r d.toNat l))):=jV _ (cQ _ _ _ _ _) om;have hst:(ae (M.fP (ab e i r d.toNat l))).size<=400:=by rw[aN];have:=M.El (ab e i r d.toNat l);omega
  have HT:Hid (ae (M.fP (ab e i r d.toNat l))++ae (List.replicate 10 49)=ae (M.fP (ab e i r d.toNat l)++List.replicate 10 49)):=bQ _ _;have hbs:(ae (ag e i r d.toNat l)).size<=200:=by rw[aN];exact hbl'
  clear hv hbl hbl' hpl hpl' hlen;generalize M.i8 ((ag e i r d.toNat l).map (fun x=>x-48))=c at *;generalize ae (M.fP (ab e i r d.toNat l))=ss at *;generalize ae (ab e i r d.toNat l)=ps at *;generalize ae (ag e i r d.toNat l)=bs at *;go_enter func88,ntmps88;go_wp2_with fail;refine (dU _ e i r d a n cap l (HH.o.below HW.o.1)).mono ?_;rw[HV.o];rintro o w1 ⟨rfl,hb1⟩;have hB1:Bl w w1:=HW.o.1.trans (hb1.mono pQ);have hx1:=dH HW.o.2 hb1 pQ;have hc1:=cn hx1;clear hb1 hx1;go_wp2_with fail;refine (Am _ e i r d a n cap l (HH.o.below hB1)).mono ?_;rw[HBZ.o];rintro o w2 ⟨rfl,hb2⟩;have hB2:=hB1.trans (hb2.mono hB1.size);clear hb2 hB1 hc1;go_wp2_with fail;refine (xm _ _).mono ?_;rw[HC.o];rintro o w3 ⟨rfl,hb3⟩;have hB3:=hB2.trans (hb3.mono hB2.size);clear hb3 hB2;go_wp2_with fail;refine (aV _ w3.heap.size _ [] c 15 (gc w3 _) (nR _) pQ om om).mono ?_;rintro o w4 ⟨v4,rfl,ho4,hb4,_⟩;rw[List.nil_append] at ho4;have hB4:=hB3.trans (hb4.mono hB3.size);have hcv:=ik ho4 (iX (M.FD _ _));have hs15:(ae (M.num c 15)).size<=15:=by rw[aN,M.DD];omega
  clear hb4 hB3 ho4;go_wp2_with fail;rw[HP.o];refine (vL _ _).mono ?_;rw[HS.o];rintro o w5 ⟨rfl,hb5⟩;have hB5:=hB4.trans (hb5.mono hB4.size);clear hcv;go_wp2;go_ret;exact⟨cg (by rw[HZ.o,<- HT.o];rfl),hB5⟩
 .have hv':vB e i r d n=false:=by simpa using hv
  have HZ:Hid (eV e i r d n l=⟨#[]⟩):=by simp[eV,hv',Hid]
  have HV:Hid (vB e i r d n=false):=hv';clear hv hv' hlen;go_enter func88,ntmps88;go_wp2_with (go_at_call 148;refine (dU _ e i r d a n cap l (HH.o.below HW.o.1)).mono ?_;rw[HV.o];rintro o w1 ⟨rfl,hb1⟩);go_ret;exact⟨cg HZ.o.symm,HW.o.1.trans (hb1.mono pQ)⟩
def Ba (v:Nat) (w:Wd) (hv:v<4611686018427387904):Calls Tp 53 #[I J (v:Int),I J 15] w fun o w'=>o = rT (.string (ae (M.num v 15)))/\w=w':=og 15 v w om hv
def AK (s:ByteArray):s++{ data:=#[49] }++{ data:=#[49] }++{ data:=#[49] }++{ data:=#[49,49,49,49,49,49,49] }=s++ae (List.replicate 10 49):=by
 apply ByteArray.ext;simp[ae]
def kM (w:Wd) (e:Bool) (i:Nat) (r:Bool) (d:Int) (a:Option Addr) (n cap:Nat) (l:List Nat) (h:iB w a n cap l) :
  Calls Tp 26 #[frV e i r d a n cap] w fun o w'=>o = rT (.string (eV e i r d n l))/\Bl w w':=by
 have HH:Hid (iB w a n cap l):=h;have HW:Hid (Bl w (w.alloc (frC e i r d a n cap 67))/\(w.alloc (frC e i r d a n cap 67)).heap[w.heap.size]?=sQ (frC e i r d a n cap 67)):=⟨Zw,QN w _⟩
 have hlen:=h.len;clear h;by_cases hv:vB e i r d n=true
 .have hn8:=(cN hv).2.2.2.2;have HZ:Hid (eV e i r d n l=ae (M.fP (ab e i r d.toNat l)++List.replicate 10 49)):=by simp[eV,hv,Hid]
  have HBZ:Hid (gU e i r d n l=ae (ag e i r d.toNat l)):=by simp[gU,hv,Hid]
  have HV:Hid (vB e i r d n=true):=hv;have hbl:=pr e i r d.toNat l;have hbl':(ag e i r d.toNat l).length<=200:=by rw[hbl];split <;> omega
  have HC:Hid (Gz (ae (ag e i r d.toNat l))=((M.i8 ((ag e i r d.toNat l).map (fun x=>x-48)):Nat):Int)):=jN _ (dI _ _ _ _ _) om;have hc:=M.BV ((ag e i r d.toNat l).map (fun x=>x-48));have HP:Hid (ae (ag e i r d.toNat l)++ae (M.num (M.i8 ((ag e i r d.toNat l).map (fun x=>x-48))) 15)=ae (ab e i r d.toNat l)):=by rw[bQ];exact rfl
  have hpl:=ew e i r d.toNat l;have hpl':(ab e i r d.toNat l).length<=200:=by rw[hpl];split <;> omega
  have HS:Hid (dy (ae (ab e i r d.toNat l))=ae (M.fP (ab e i r d.toNat l))):=jV _ (cQ _ _ _ _ _) om;have hst:(ae (M.fP (ab e i r d.toNat l))).size<=400:=by rw[aN];have:=M.El (ab e i r d.toNat l);omega
  have HT:Hid (ae (M.fP (ab e i r d.toNat l))++ae (List.replicate 10 49)=ae (M.fP (ab e i r d.toNat l)++List.replicate 10 49)):=bQ _ _;have hbs:(ae (ag e i r d.toNat l)).size<=200:=by rw[aN];exact hbl'
  have hps:(ae (ab e i r d.toNat l)).size<=200:=by rw[aN];exact hpl'
  clear hv hbl hbl' hpl hpl' hlen;generalize M.i8 ((ag e i r d.toNat l).map (fun x=>x-48))=c at *;generalize ae (M.fP (ab e i r d.toNat l))=ss at *;generalize ae (ab e i r d.toNat l)=ps at *;generalize ae (ag e i r d.toNat l)=bs at *;go_enter func26,ntmps26;go_wp2_with fail;refine (ch _ e i r d a n cap).mono ?_;rw[HV.o];rintro o w1 ⟨rfl,hb1⟩;have hB1:Bl w w1:=HW.o.1.trans (hb1.mono pQ);have hx1:=dH HW.o.2 hb1 pQ;have hc1:=cn hx1;clear hb1 hx1;go_wp2_with fail;refine (nU _ e i r d a n cap l (HH.o.below hB1)).mono ?_;rw[HBZ.o];rintro o w2 ⟨rfl,hb2⟩;have hB2:=hB1.trans (hb2.mono hB1.size);clear hb2 hB1 hc1;go_wp2_with fail;refine (jX _ _ (by unfold maxLen;omega)).mono ?_;rw[HC.o];rintro o w3 ⟨rfl,hb3⟩;have hB3:=hB2.trans (hb3.mono hB2.size);clear hb3 hB2;have hs15:(ae (M.num c 15)).size<=15:=by rw[aN,M.DD];omega
  go_wp2_with fail;refine (Ba c _ om).mono ?_;rintro o w4 ⟨rfl,rfl⟩;go_wp2_with fail;rw[HP.o];refine (lS _ _ (by unfold maxLen;omega)).mono ?_;rw[HS.o];rintro o w5 ⟨rfl,hb5⟩;have hB5:=hB3.trans (hb5.mono hB3.size);go_wp2;go_ret;exact⟨cg (by rw[HZ.o,<- HT.o,<- AK]),hB5⟩
 .have hv':vB e i r d n=false:=by simpa using hv
  have HZ:Hid (eV e i r d n l=⟨#[]⟩):=by simp[eV,hv',Hid]
  have HV:Hid (vB e i r d n=false):=hv';clear hv hv' hlen;go_enter func26,ntmps26;go_wp2_with (go_at_call 50;refine (ch _ e i r d a n cap).mono ?_;rw[HV.o];rintro o w1 ⟨rfl,hb1⟩);go_ret;exact⟨cg HZ.o.symm,HW.o.1.trans (hb1.mono pQ)⟩
end
end Go.Proofs.YtgfolecanghhhaaGreat
