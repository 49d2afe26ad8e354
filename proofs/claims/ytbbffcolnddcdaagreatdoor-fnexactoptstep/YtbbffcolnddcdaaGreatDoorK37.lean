import Derived.Test.YtbbffcolnddcdaaGreatDoorK28
import Derived.Test.YtbbffcolnddcdaaGreatDoorK15
import Derived.Test.YtbbffcolnddcdaaGreatDoorK33
namespace Go.Proofs.YtbbffcolnddcdaaGreatDoor
open Go.Proofs.Tryz
set_option linter.all false
open Option renaming none->nn,some->sQ
open Go renaming World->Wd
set_option maxRecDepth 20000
open Go.RowKit
set_option maxHeartbeats 16000000
open Go.Value renaming int->I,slice->sL,bool->bO,pointer->pT,agg->aG
open Go.IntKind renaming i64->J,u32->Zk
open Go.Ending renaming returned->rT
open Go.Proofs.Tryz renaming prog->Tp
def tC(w:Wd)(S:Sc)(a:Option Addr)(n cap:Nat)(h:iB w a n cap S.l)(U:n<=1048576):ce 26 #[scV S a n cap] w fun o w'=>∃g,o=rT (scV S (be g) n n)/\iB w' (be g) n n S.l/\Bl w w'/\w.heap.size<=g/\g<w'.heap.size/\∃f,bV w' g n f:=by
 have G:Hid (iB w a n cap S.l):=h;clear h;obtain⟨f,lf,rn,lv,cr,ac,e,i,r,d,l⟩:=S;go_enter func26,ntmps26;go_wp2_with fail;refine(kl _ e i r d a n cap l (G.o.below ((Zw.alloc pQ _).alloc (by simp;omega) _)) U).mono ?_;rintro o b ⟨g,rfl,y,k,A,B,fr,C⟩;have D:Hid (Bl w b):=((Zw.alloc pQ _).alloc (by simp;omega) _).trans (k.mono (by simp;omega));have s:Hid (blk b (w.heap.size+1+1) ([I J f,I J lf,I J rn,I J lv,I J cr,I J ac]++[bO false,I Zk 0,bO false,I J 0,sL nn 0 0]++[]) 55):=by
  have:=(blk.new ((w.alloc (.cells #[I J f,I J lf,I J rn,I J lv,I J cr,I J ac,bO e,I Zk (i:Int),bO r,I J d,sL a n cap] 37)).alloc (.cells z11.toArray 55)) [I J f,I J lf,I J rn,I J lv,I J cr,I J ac,bO false,I Zk 0,bO false,I J 0,sL nn 0 0] 55).below k;simpa[Hid]using this
 have K:Hid (blk b (w.heap.size+1) ([]++z11++[]) 55):=by
  have:=((blk.new (w.alloc (.cells #[I J f,I J lf,I J rn,I J lv,I J cr,I J ac,bO e,I Zk (i:Int),bO r,I J d,sL a n cap] 37)) z11 55).alloc (.cells #[I J f,I J lf,I J rn,I J lv,I J cr,I J ac,bO false,I Zk 0,bO false,I J 0,sL nn 0 0] 55)).below k;simpa[Hid]using this
 have E:Hid (w.heap.size+3<=g/\g<b.heap.size/\iB b (be g) n n l/\bV b g n fr):=by
  simp at A;exact⟨om,B,y,C⟩
 clear k A B y C;go_wp2_with(first|(refine Zs 53 #[bO e,I Zk (i:Int),bO r,I J d,sL (be g) n n] (s.o.there 6 5 pQ) gc (lN _ _ _ _ _ _ _) ?_;generalize j:World.setCells b (w.heap.size+1+1) 6 _=c;have L:Hid (World.setCells b (w.heap.size+1+1) 6 [bO e,I Zk (i:Int),bO r,I J d,sL (be g) n n]=c):=j;have H:Hid (blk c (w.heap.size+1+1) (scL ⟨f,lf,rn,lv,cr,ac,e,i,r,d,l⟩ (be g) n n) 55):=(j ▸ blk.put [I J f,I J lf,I J rn,I J lv,I J cr,I J ac] _ [] _ s.o rfl);have t:Hid (blk c (w.heap.size+1) ([]++z11++[]) 55):=(j ▸ K.o.other om _ _);clear j)|(refine ZG 55 H.o.load underlying55 dh ?_)|(refine Qo (P:=Tp) rfl 55 (.tmp 2) (.tmp 26) rfl (w.heap.size+1) 0 _ rfl rfl (t.o.there 0 11 pQ) dh (lO _ _ _ _ _ _ _ _ _ _ _ _ _) ?_;generalize x:World.setCells c (w.heap.size+1) 0 _=p;have M:Hid (World.setCells c (w.heap.size+1) 0 (scL ⟨f,lf,rn,lv,cr,ac,e,i,r,d,l⟩ (be g) n n)=p):=x;clear x))
 have N:=L.o;have u:=M.o;have hF:blk p (w.heap.size+1) (scL ⟨f,lf,rn,lv,cr,ac,e,i,r,d,l⟩ (be g) n n) 55:=u ▸ blk.put [] z11 [] _ t.o rfl;have T:=Qt (P:=Tp) p (w.heap.size+1) 0 55 _ _ hF.load underlying55 rfl dh;refine bC results26 T ?_;obtain⟨W,O,Q,R⟩:=E.o;subst N;subst u;have v:(World.setCells (World.setCells b (w.heap.size+1+1) 6 [bO e,I Zk (i:Int),bO r,I J d,sL (be g) n n]) (w.heap.size+1) 0 (scL ⟨f,lf,rn,lv,cr,ac,e,i,r,d,l⟩ (be g) n n)).heap[g]?=b.heap[g]?:=by
  rw[sO _ _ om,sO _ _ om]
 exact⟨g,rfl,Q.other v,sW om _ _ (sW om _ _ D.o),om,by rw[sZ,sZ];exact O,fr,R.up v⟩
def tH(w:Wd)(S:Sc)(a:Option Addr)(n cap:Nat)(m:Nat)(c:n<=9223372036854775807)(b:m<=1048576):ce 12 #[scV S a n cap,I J m] w fun o w'=>o=rT (I J (if(n:Int)<=(m:Int)then(m:Int)-(n:Int)else -1))/\Bl w w':=by
 obtain⟨f,lf,rn,lv,cr,ac,e,i,r,d,l⟩:=S;by_cases h:(n:Int)<=(m:Int)
 .have HC:Hid (∀W,ce 41 #[frV e i r d a n cap,I J m] W fun o w'=>o=rT (I J ((m:Int)-(n:Int)))/\W.alloc (frC e i r d a n cap 35)=w'):=by
   intro W;have:=dC W e i r d a n cap m c b;rw[QW h]at this;exact this
  rw[QW h];go_enter func12,ntmps12;go_wp2_with(go_at_call 41;refine(HC.o _).mono ?_;rintro o g ⟨rfl,rfl⟩);go_ret;exact⟨rfl,Zw.alloc pQ _⟩
 .have HC:Hid (∀W,ce 41 #[frV e i r d a n cap,I J m] W fun o w'=>o=rT (I J (-1))/\W.alloc (frC e i r d a n cap 35)=w'):=by
   intro W;have:=dC W e i r d a n cap m c b;rw[QV h]at this;exact this
  rw[QV h];go_enter func12,ntmps12;go_wp2_with(go_at_call 41;refine(HC.o _).mono ?_;rintro o g ⟨rfl,rfl⟩);go_ret;exact⟨rfl,Zw.alloc pQ _⟩
def l9(w:Wd)(v:Int):ce 196 #[I J v] w fun o w'=>bH o (0<=v/\v<=32767)/\w'=w:=by
 go_enter func196,ntmps196;go_wp2;all_goals(go_ret;refine⟨⟨_,rfl,?_⟩,rfl⟩;simp;try omega)
def As(w:Wd)(v:Int):ce 29 #[I J v] w fun o w'=>bH o (v=0\/v=1)/\w'=w:=by
 go_enter func29,ntmps29;go_wp2;all_goals(go_ret;refine⟨⟨_,rfl,?_⟩,rfl⟩;simp_all)
def kB(S:Sc):Prop:=if S.f=1\/11<S.f then S.rn=0/\S.lv=0 else 1<=S.rn/\S.rn<=5/\(S.lv=0\/S.lv=1)
def pc(w:Wd)(S:Sc)(a:Option Addr)(n cap:Nat):ce 197 #[scV S a n cap] w fun o w'=>bH o (kB S)/\Bl w w':=by
 have k:Hid (∀(W:Wd)(v:Int),ce 29 #[I J v] W fun o w'=>bH o (v=0\/v=1)/\w'=W):=fun W v=>As W v;obtain⟨f,lf,rn,lv,cr,ac,e,i,r,d,l⟩:=S;have j:Hid (∀b:Bool,(b=true↔(if f=1\/11<f then rn=0/\lv=0 else 1<=rn/\rn<=5/\(lv=0\/lv=1)))->(b=true↔kB ⟨f,lf,rn,lv,cr,ac,e,i,r,d,l⟩)):=fun b h=>h;generalize kB ⟨f,lf,rn,lv,cr,ac,e,i,r,d,l⟩=P at*;go_enter func197,ntmps197;go_wp2_with(go_at_call 29;refine(k.o _ lv).mono ?_;rintro o s ⟨⟨p,rfl,c⟩,rfl⟩;have g:Hid _:=c;clear c;cases p);all_goals
  go_ret;refine⟨⟨_,rfl,j.o _ ?_⟩,Zw⟩;clear j k;by_cases q:f=1\/11<f
  .rw[QW q];first|(simp;done)|(simp;omega)|(simp_all;done)|(simp_all;omega)
  .rw[QV q];first|(simp;done)|(simp;omega)|(have c:=g.o;clear g;simp at c;simp;omega)|(simp_all;done)|(simp_all;omega)
def Ep(f:Int)(e r:Bool)(d:Int)(h0:0<=d)(h1:d<=15):0<=rsz f e r d/\rsz f e r d<=64:=by
 unfold rsz;have:=AR r d h0 h1;split
 .omega
 .exact iu f e d h0 h1
def gT(S:Sc):Prop:=1<=S.lf/\S.lf<=rsz S.f S.e S.r S.d/\(S.f=9->(S.l.length:Int)=(rsz S.f S.e S.r S.d-S.lf+7) / 8)
def mP(w:Wd)(E:w.rangeAt 0 0 cQ)(x:0<w.heap.size)(S:Sc)(C:1<=S.f)(D:S.f<=14)(hd:0<=S.d)(t:S.d<=15)(a:Option Addr)(n cap:Nat)(u:n=S.l.length)(T:n<=8):ce 198 #[scV S a n cap] w fun o w'=>bH o (gT S)/\Bl w w':=by
 obtain⟨f,lf,rn,lv,cr,ac,e,i,r,d,l⟩:=S;simp only[]at C D hd t u;have y:Hid (∀W,Bl w W->ce 235 #[I J f,frV e i r d a n cap] W fun o w'=>o=rT (aG #[I J f,I J (rsz f e r d),I J (ax f e r d)])/\Bl W w'):=fun W B=>iN W (fun j v L=>(B.cell (p:=⟨0,0+j,nn⟩) x).trans (E j v L)) (nL x B.size) f C D e i r d hd t a n cap;have hs:=Ep f e r d hd t;have b:Hid (gT ⟨f,lf,rn,lv,cr,ac,e,i,r,d,l⟩↔(1<=lf/\lf<=rsz f e r d/\(f=9->(n:Int)=(rsz f e r d-lf+7) / 8))):=by
  unfold gT;simp only[];rw[u];exact Iff.rfl
 clear E u x;generalize gT ⟨f,lf,rn,lv,cr,ac,e,i,r,d,l⟩=P at*;generalize rsz f e r d=z at*;generalize ax f e r d=H at*;go_enter func198,ntmps198;go_wp2_with fail;refine(y.o _ Zw).mono ?_;rintro o G ⟨rfl,s⟩;have h:blk G w.heap.size (scL ⟨f,lf,rn,lv,cr,ac,e,i,r,d,l⟩ a n cap) 55:=(blk.new w _ 55).below s;have g:Hid (Bl w G):=Zw.trans (s.mono pQ);have U:=h.cell 0 _ rfl;have X:=h.cell 1 _ rfl;have Y:=h.cell 10 _ rfl;clear h s y;have R:∀W:Wd,(Instr.field 271 (aG #[I J f,I J z,I J H]) 1).run Tp W= .ok (I J z) W:=fun W=>by kernel_rfl
 by_cases c1:lf<1
 .go_wp2_with fail;go_ret;refine⟨⟨_,rfl,?_⟩,g.o⟩;rw[b.o];clear b;simp;omega
 .by_cases c2:z<lf
  .go_wp2_with fail;go_ret;refine⟨⟨_,rfl,?_⟩,g.o⟩;rw[b.o];clear b;simp;omega
  .have hq:(z-lf+8-1).tdiv 8=(z-lf+7) / 8:=by
    rw[zc om];omega
   have N:0<=(z-lf+7) / 8:=om;have O:(z-lf+7) / 8<=100:=om;generalize A:(z-lf+7) / 8=Q at*;have M:Hid ((z-lf+7) / 8=Q):=A;clear A;by_cases c:f=9
   .have q9:(f !=9)=false:=by simpa using c
    have k:Hid (f=9):=c;clear c;go_wp2_with fail;go_ret;refine⟨⟨_,rfl,?_⟩,g.o⟩;rw[b.o];have K:=k.o;clear b;simp;omega
   .have q9:(f !=9)=true:=by simpa using c
    have k:Hid (¬f=9):=c;clear c;go_wp2_with fail;go_ret;refine⟨⟨_,rfl,?_⟩,g.o⟩;rw[b.o];have K:=k.o;clear b;simp;omega
def BZ(S:Sc):okS S↔((1<=S.f/\S.f<=14)/\(S.i<536870912/\0<=S.d/\S.d<=15/\S.l.length<=8)/\(0<=S.cr/\S.cr<=32767)/\(0<=S.ac/\S.ac<=32767)/\kB S/\gT S):=by
 obtain⟨f,lf,rn,lv,cr,ac,e,i,r,d,l⟩:=S;have j:∀h:f=9,aS f e d=if d > 8 then 64 else 8*d:=fun h=>by unfold aS;rw[h];rfl
 have c:∀h:f=9,rsz f e r d=8*dL r d:=fun h=>QW h;have g:∀h:¬f=9,rsz f e r d=aS f e d:=fun h=>QV h;unfold okS kB gT;simp only[];generalize aS f e d=z at*;generalize rsz f e r d=y at*;by_cases b:f=9
 .have e1:=j b;have a:=c b;have q:¬(f=1\/11<f):=om;rw[QV q];unfold dL at a;cases r
  .simp at a;simp only[eq_self,true_and];by_cases h8:d > 8
   .rw[QW h8]at e1;omega
   .rw[QV h8]at e1;omega
  .simp at a;simp only[Bool.true_eq_false,false_and,imp_false];omega
 .have a:=g b;by_cases q:f=1\/11<f
  .rw[QW q];omega
  .rw[QV q];omega
def mO(w:Wd)(X:w.rangeAt 0 0 cQ)(G:0<w.heap.size)(S:Sc)(a:Option Addr)(n cap:Nat)(E:n=S.l.length)(a6:n<=1048576):ce 139 #[scV S a n cap] w fun o w'=>bH o (okS S)/\Bl w w':=by
 have L:Hid (∀(W:Wd)(v:Int),ce 196 #[I J v] W fun o w'=>bH o (0<=v/\v<=32767)/\w'=W):=fun W v=>l9 W v;have a4:Hid (∀W:Wd,ce 197 #[scV S a n cap] W fun o w'=>bH o (kB S)/\Bl W w'):=fun W=>pc W S a n cap;have M:Hid (1<=S.f->S.f<=14->0<=S.d->S.d<=15->n<=8->∀W:Wd,Bl w W->ce 198 #[scV S a n cap] W fun o w'=>bH o (gT S)/\Bl W w'):=fun h1 g u x h5 W T=>mP W (fun j v hv=>(T.cell (p:=⟨0,0+j,nn⟩) G).trans (X j v hv)) (nL G T.size) S h1 g u x a n cap E h5;have A:=BZ S;rw[<- E]at A;have k:Hid (okS S↔((1<=S.f/\S.f<=14)/\(S.i<536870912/\0<=S.d/\S.d<=15/\n<=8)/\(0<=S.cr/\S.cr<=32767)/\(0<=S.ac/\S.ac<=32767)/\kB S/\gT S)):=A;clear X G E A;generalize okS S=P at*;generalize kB S=PR at*;generalize gT S=N at*;obtain⟨f,lf,rn,lv,cr,ac,e,i,r,d,l⟩:=S;simp only[]at k M;have hA:Bl w (w.alloc (.cells (scL ⟨f,lf,rn,lv,cr,ac,e,i,r,d,l⟩ a n cap).toArray 55)):=Zw;have h:Hid (Bl w (w.alloc (.cells (scL ⟨f,lf,rn,lv,cr,ac,e,i,r,d,l⟩ a n cap).toArray 55))/\blk (w.alloc (.cells (scL ⟨f,lf,rn,lv,cr,ac,e,i,r,d,l⟩ a n cap).toArray 55)) w.heap.size (scL ⟨f,lf,rn,lv,cr,ac,e,i,r,d,l⟩ a n cap) 55):=⟨hA,blk.new w _ 55⟩
 clear hA;by_cases D:1<=f/\f<=14
 .obtain⟨hf1,hf2⟩:=D;by_cases s:i<536870912/\0<=d/\d<=15/\n<=8
  .obtain⟨hi,hd0,hd1,hn8⟩:=s;have Y:decide ((i:Int)<=536870911)=true:=qy om;have HI:Hid (i<536870912):=hi;clear hi;go_enter func139,ntmps139;go_wp2_with fail;refine(L.o _ cr).mono ?_;rintro o w1 ⟨⟨O,rfl,h1⟩,rfl⟩;have H:Hid (O=true↔(0<=cr/\cr<=32767)):=h1;clear h1;cases O
   .go_wp2_with fail;go_ret;refine⟨⟨_,rfl,?_⟩,h.o.1⟩;rw[k.o];simp only[qH,false_iff];intro c;exact Qj (H.o.2 c.2.2.1) (by decide)
   .go_wp2_with fail;refine(L.o _ ac).mono ?_;rintro o w2 ⟨⟨Q,rfl,g⟩,rfl⟩;have H2:Hid (Q=true↔(0<=ac/\ac<=32767)):=g;clear g;cases Q
    .go_wp2_with fail;go_ret;refine⟨⟨_,rfl,?_⟩,h.o.1⟩;rw[k.o];simp only[qH,false_iff];intro c;exact Qj (H2.o.2 c.2.2.2.1) (by decide)
    .go_wp2_with fail;refine(a4.o _).mono ?_;rintro o Z ⟨⟨R,rfl,u⟩,C⟩;have K:Hid (R=true↔PR):=u;have t:Hid (Bl w Z):=h.o.1.trans (C.mono h.o.1.size);have a3:Hid (blk Z w.heap.size (scL ⟨f,lf,rn,lv,cr,ac,e,i,r,d,l⟩ a n cap) 55):=h.o.2.below C;clear u C;cases R
     .go_wp2_with fail;go_ret;refine⟨⟨_,rfl,?_⟩,t.o⟩;rw[k.o];simp only[qH,false_iff];intro c;exact Qj (K.o.2 c.2.2.2.2.1) (by decide)
     .go_wp2_with (refine an (by first|rfl|(simp[Region.wanted,yielded];done)) 55 (.tmp 1) rfl w.heap.size 0 rfl _ _ a3.o.load underlying55 rfl dh ?_);refine(M.o hf1 hf2 hd0 hd1 hn8 _ t.o).mono ?_;rintro o w4 ⟨⟨y,rfl,x⟩,U⟩;have H4:Hid (y=true↔N):=x;have a0:Hid (Bl w w4):=t.o.trans (U.mono t.o.size)
      clear x U;have a1:Hid (∀b:Bool,(b=true↔N)->(b=true↔P)):=fun b hb=>by
       rw[k.o,hb];exact⟨fun hp=>⟨⟨hf1,hf2⟩,⟨HI.o,hd0,hd1,hn8⟩,H.o.1 pQ,H2.o.1 pQ,K.o.1 pQ,hp⟩,fun c=>c.2.2.2.2.2⟩
      go_wp2_with fail;go_ret;exact⟨⟨y,rfl,a1.o y H4.o⟩,a0.o⟩
  .go_enter func139,ntmps139;go_upto_region 3 with fail
   go_cut [3] (fun s3 wx=>s3=bO false/\wx=w.alloc (.cells (scL ⟨f,lf,rn,lv,cr,ac,e,i,r,d,l⟩ a n cap).toArray 55));case first=>
    by_cases hi:i<536870912
    .have Y:decide ((i:Int)<=536870911)=true:=qy om;have B:d<0\/15<d\/8<n:=by
      rcases Int.lt_or_le d 0 with h0|h0
      .exact qp h0
      .rcases Int.lt_or_le 15 d with h1|h1
       .exact qt (qp h1)
       .rcases Nat.lt_or_ge 8 n with g|g
        .exact qt (qt g)
        .exact Qj ⟨hi,h0,h1,g⟩ s
     clear s hi;by_cases c1:d<0
     .clear B;go_wp2_with fail;go_meet;exact⟨rfl,rfl⟩
     .by_cases c2:15<d
      .clear B;go_wp2_with fail;go_meet;exact⟨rfl,rfl⟩
      .have c3:8<n:=om;have q8:decide ((n:Int)<=8)=false:=qm om;clear B;go_wp2_with fail;go_meet;exact⟨rfl,rfl⟩
    .have Y:decide ((i:Int)<=536870911)=false:=qm om;clear hi s;go_wp2_with fail;go_meet;exact⟨rfl,rfl⟩
   case rest=>
    obtain⟨rfl,rfl⟩:=hcut;have a2:Hid (¬(i<536870912/\0<=d/\d<=15/\n<=8)):=s;clear s;go_wp2_with fail;go_ret;refine⟨⟨_,rfl,?_⟩,h.o.1⟩;rw[k.o];simp only[qH,false_iff];intro c;exact a2.o c.2.1
 .have hf':f<1\/14<f:=om;have HF:Hid (¬(1<=f/\f<=14)):=D;clear D;rcases hf' with a5|a5
  all_goals
   go_enter func139,ntmps139;go_wp2_with fail;go_ret;refine⟨⟨_,rfl,?_⟩,h.o.1⟩;rw[k.o];simp only[qH,false_iff];intro c;exact HF.o c.1
end Go.Proofs.YtbbffcolnddcdaaGreatDoor
