import Derived.Test.YtgfolecanghhhaaGreatK29
import Derived.Test.YtgfolecanghhhaaGreatK32
import Derived.StillTailTactics
namespace Go.Proofs.YtgfolecanghhhaaGreat
open Go.Proofs.Tryz
open Option renaming none->nn,some->sQ
set_option maxRecDepth 20000
open Go.RowKit
set_option linter.all false
set_option maxHeartbeats 16000000
open Go.Value renaming int->I,slice->sL,bool->bO,pointer->pT,agg->aG
open Go.IntKind renaming i64->J
open Go.Ending renaming returned->rT
open Go.Proofs.Tryz renaming prog->Tp
section
variable {w0 W w:World} {G:Lg} {H:Ho} {f1 f3 nm g room first:Nat} {hs:Nat->Hd} {D:DataW Unit} {f:R5} {r:List R5}
def cE.tail (h:cE w0 W g room first (f :: r)):cE w0 W g room ((first+1) % room) r:=fun i hi=>by
 obtain⟨ao,m,c,h1,h2⟩:=h (i+1) (by simpa using hi);refine⟨ao,m,c,?_,by simpa using h2⟩;have e:((first+1) % room+i) % room=(first+(i+1)) % room:=by
  rw[Nat.mod_add_mod];congr 1;omega
 rw[e];simpa using h1
def lh.fifo (h:lh w0 G H f1 f3 hs nm D W) {f:R5} {r:List R5} (hff:H.ff=f :: r):lh w0 G { H with ff:=r } ((f1+1) % G.r1) f3 hs nm D ((W.setCell ⟨G.P,8,nn⟩ (I J (((f1+1) % G.r1:Nat):Int))).setCell ⟨G.P,9,nn⟩ (I J (r.length:Int))):=by
 have dp:=h.d.p;have dl:=h.d.lo;have hb1:=h.bd.b1;have hfl:H.ff.length=r.length+1:=by rw[hff];rfl
 have hsm:=h.bd.s3;have hrr:=h.r;rw[hff] at hrr;have he:∀ q,q≠G.P->((W.setCell ⟨G.P,8,nn⟩ (I J (((f1+1) % G.r1:Nat):Int))).setCell ⟨G.P,9,nn⟩ (I J (r.length:Int))).heap[q]?=W.heap[q]?:=fun q hq=>(QA _ _ _ _ (by exact hq)).trans (QA _ _ _ _ (by exact hq));have hb:Bl w0 ((W.setCell ⟨G.P,8,nn⟩ (I J (((f1+1) % G.r1:Nat):Int))).setCell ⟨G.P,9,nn⟩ (I J (r.length:Int))):=(h.b.setCell (by exact dl.2.1) _).setCell (by exact dl.2.1) _;have hz:W.heap.size<=((W.setCell ⟨G.P,8,nn⟩ (I J (((f1+1) % G.r1:Nat):Int))).setCell ⟨G.P,9,nn⟩ (I J (r.length:Int))).heap.size:=(((bW 0 W).setCell (nZ _) _).setCell (nZ _) _).size;refine⟨(h.p.set 8 _).set 9 _,h.f.same (he _ dp.1),h.x.at0 (he _ dp.2.1) hb,hrr.tail.keep (he _ dp.2.2.1),h.rz.up (he _ dp.2.2.1),h.q.keep (he _ dp.2.2.2.1),h.qz.up (he _ dp.2.2.2.1),?_,hb,⟨nL h.hi.1 hz,nL h.hi.2.1 hz,nL h.hi.2.2 hz⟩,h.d,⟨h.bd.e1,h.bd.e3,h.bd.m1,h.bd.m2,h.bd.nk,⟨Qr _ om,hb1.2.1,by show r.length<=_;omega⟩,h.bd.b3,h.bd.lo,fun j hj=>?_,h.bd.s4⟩,h.k.to hz fun q hq _=>he q (hne hq h.d.u.1)⟩
 .obtain⟨es,clock,q1,q2⟩:=h.m;exact⟨es,clock,(he _ dp.2.2.2.2).trans q1,q2⟩
 .have hj':j+1<H.ff.length:=by rw[hfl];have:j<r.length:=hj;omega
  have e:r[j]'(hj)=H.ff[j+1]:=by simp[hff]
  show (r[j]'(hj)).l.length<=_;rw[e];exact hsm (j+1) hj'
def cE.one (h:cE w0 W g room first (f :: r)):cE w0 W g room first [f]:=fun i hi=>by
 have e:i=0:=by simpa using hi
 subst e;obtain⟨ao,m,c,h1,h2⟩:=h 0 pQ;exact⟨ao,m,c,by simpa using h1,by simpa using h2⟩
def KW (h:lh w0 G H f1 f3 hs nm D w) {f:R5} {r:List R5} (hff:H.ff=f :: r) :
  Calls Tp 201 #[pT (sQ ⟨G.P,7,nn⟩),I J 1] w fun e w'=>∃ gx kx ao m c,e = rT (sL (sQ ⟨gx,0,nn⟩) 1 kx)/\(w.heap.size<=gx/\gx<w'.heap.size/\1<=kx/\w'.rangeAt gx 0 [bO f.e,I .u32 (f.i:Int),bO f.r,I J f.d,sL ao m c]/\iB G.u ao m c f.l)/\Bl w w':=by
 have hr:=h.r;rw[hff] at hr;have hb1:=h.bd.b1;have hfl:H.ff.length=r.length+1:=by rw[hff];rfl
 refine (yW G.u w G.P 7 G.gr G.r1 f1 [f] H.ff.length 1 (by rw[hfl];simp) (h.p.cell 7 _ rfl) (h.p.cell 8 _ rfl) (h.p.cell 9 _ rfl) hr.one hb1.1 ⟨om,hb1.2.1⟩ (by simp;omega)).mono ?_;rintro e w' ⟨v,bs,rfl,hm,hby,ho,hb⟩;have hl:bs.length=1:=by
  have:=congrArg List.length hm;simpa using this
 obtain⟨b,rfl⟩:=List.length_eq_one_iff.1 hl;obtain⟨⟨e,i,rr,d,l⟩,ao,m,c⟩:=b;have hfe:(⟨e,i,rr,d,l⟩ : R5)=f:=by simpa using hm
 subst hfe;have hby0:=hby 0 pQ;rcases cS ho with⟨ev,en⟩|⟨gx,kx,rfl,q1,q2,q3,q4,q5⟩
 .simp at en
 .exact⟨gx,kx,ao,m,c,rfl,⟨q1,q2,q3,q5,hby0⟩,hb⟩
def Ka (h:lh w0 G H f1 f3 hs nm D w) {f:R5} {r:List R5} (hff:H.ff=f :: r) :
  Calls Tp 254 #[pT (sQ ⟨G.P,7,nn⟩),I J 1] w fun e w'=>∃ gx kx ao m c,e = rT (sL (sQ ⟨gx,0,nn⟩) 1 kx)/\(w.heap.size<=gx/\gx<w'.heap.size/\1<=kx/\w'.rangeAt gx 0 [bO f.e,I .u32 (f.i:Int),bO f.r,I J f.d,sL ao m c]/\iB G.u ao m c f.l)/\lh w0 G { H with ff:=r } ((f1+1) % G.r1) f3 hs nm D w'/\(∀ q,q≠G.P->q<w.heap.size->w'.heap[q]?=w.heap[q]?)/\w.heap.size<=w'.heap.size:=by
 have HLK:Hid (Calls Tp 201 #[pT (sQ ⟨G.P,7,nn⟩),I J 1] w fun e w'=>∃ gx kx ao m c,e = rT (sL (sQ ⟨gx,0,nn⟩) 1 kx)/\(w.heap.size<=gx/\gx<w'.heap.size/\1<=kx/\w'.rangeAt gx 0 [bO f.e,I .u32 (f.i:Int),bO f.r,I J f.d,sL ao m c]/\iB G.u ao m c f.l)/\Bl w w'):=KW h hff;have HL:Hid (lh w0 G H f1 f3 hs nm D w):=h;have HFF:Hid (H.ff=f :: r):=hff;have HPL:Hid (G.P<w.heap.size):=h.p.lt;clear h hff;go_enter func254,ntmps254;go_wp2_with fail;refine HLK.o.mono ?_;rintro e w2 ⟨gx,kx,ao,m,c,rfl,hx,hb⟩;have HL2:Hid (lh w0 G H f1 f3 hs nm D w2):=HL.o.below hb;have HX:Hid (w.heap.size<=gx/\gx<w2.heap.size/\1<=kx/\w2.rangeAt gx 0 [bO f.e,I .u32 (f.i:Int),bO f.r,I J f.d,sL ao m c]/\iB G.u ao m c f.l):=hx;have HB:Hid (Bl w w2):=hb;have y7:=HL2.o.p.cell 7 _ rfl;have y8:=HL2.o.p.cell 8 _ rfl;have y9:w2.cell? ⟨G.P,9,nn⟩=sQ (I J ((r.length:Int)+1)):=by
  have:=HL2.o.p.cell 9 _ rfl;rw[HFF.o] at this;exact this
 have z8:=HL2.o.p.free 8;have z9:=HL2.o.p.free 9;have hb1:=HL2.o.bd.b1;have hfl:H.ff.length=r.length+1:=by rw[HFF.o];rfl
 have hrl:r.length<=1000:=om;obtain⟨Q,hQ⟩ : ∃ Q,(f1+1) % G.r1=Q:=⟨_,rfl⟩
 have HQ:Hid ((f1+1) % G.r1=Q):=hQ;have hwk:IntKind.i64.wrap ((f1:Int)+1)=((f1+1:Nat):Int):=by rw[QR];omega
 have hr0:¬ G.r1=0:=om;have htm:((f1+1:Nat):Int).tmod (G.r1:Int)=(Q:Int):=by rw[<- hQ];exact (Int.ofNat_tmod _ _).symm
 have htm2:((f1:Int)+1).tmod (G.r1:Int)=(Q:Int):=htm;have hwr:IntKind.i64.wrap ((r.length:Int)+1-1)=(r.length:Int):=by rw[QR];omega
 clear HLK HL hx hb hQ;go_wp2_with fail;refine wp_region_still_tail 16 kr kr ?_;change wpStill Tp _ (World.drew w2) (fun a'=>wpList Tp _ _ _ a' (World.drew w2)) _ _;have hbd:Bl w2 (World.drew w2):=(bW _ _).drew;have HL2:Hid (lh w0 G H f1 f3 hs nm D (World.drew w2)):=HL2.o.below hbd;have HX:Hid (w.heap.size<=gx/\gx<(World.drew w2).heap.size/\1<=kx/\(World.drew w2).rangeAt gx 0 [bO f.e,I .u32 (f.i:Int),bO f.r,I J f.d,sL ao m c]/\iB G.u ao m c f.l):=HX.o;have HB:Hid (Bl w (World.drew w2)):=HB.o.drew;have y7:(World.drew w2).cell? ⟨G.P,7,nn⟩=sQ (sL (sQ ⟨G.gr,0,nn⟩) G.r1 G.r1):=y7;have y8:(World.drew w2).cell? ⟨G.P,8,nn⟩=sQ (I J (f1:Int)):=y8;have y9:(World.drew w2).cell? ⟨G.P,9,nn⟩=sQ (I J ((r.length:Int)+1)):=y9;have z8:(World.drew w2).frozen? ⟨G.P,8,nn⟩=false:=z8;have z9:(World.drew w2).frozen? ⟨G.P,9,nn⟩=false:=z9;generalize World.drew w2=w3 at *;simp only[List.take_succ_cons,List.take_zero,List.drop_succ_cons,List.drop_zero];repeat still_step
 refine wpStill_nil ?_;go_wp2_with fail;go_ret;have hfx:=HL2.o.fifo HFF.o;rw[HQ.o] at hfx;refine⟨gx,kx,ao,m,c,rfl,⟨HX.o.1,?_,HX.o.2.2.1,?_,HX.o.2.2.2.2⟩,by rw[HQ.o];exact hfx,fun q h1 h2=>?_,?_⟩
 .exact nL HX.o.2.1 (((bW 0 w3).setCell (nZ _) _).setCell (nZ _) _).size
 .exact rangeAt.up HX.o.2.2.2.1 ((QA _ _ _ _ (by show gx≠G.P;have:=HX.o.1;have:=HPL.o;omega)).trans (QA _ _ _ _ (by show gx≠G.P;have:=HX.o.1;have:=HPL.o;omega)))
 .exact ((QA _ _ _ _ (by exact h1)).trans (QA _ _ _ _ (by exact h1))).trans (HB.o.block q h2)
 .exact nT HB.o.size (((bW 0 w3).setCell (nZ _) _).setCell (nZ _) _).size
end
open Go.IntKind renaming i64->J,u32->Zk
section
variable {ops:Array Oper} {w:World} {Q:Act->Prop} {op:Oper} {a:Act} {rest:List Oper} {fs:List R3} {F:R5}
def IC (hw:Region.wanted op (yielded ops a.tmps)=false) (h:wpStill Tp ops w Q rest (a.put op.dst undef)):wpStill Tp ops w Q (op :: rest) a:=
 wpStill_step fun K hK=>by
  rw[hw];exact hK _ h
def Jr (v:Value) (hw:Region.wanted op (yielded ops a.tmps)=true) (hx:(execOp a.eval op).run Tp w = .ok (.value v) w) (h:wpStill Tp ops w Q rest (a.put op.dst v)):wpStill Tp ops w Q (op :: rest) a:=
 wpStill_step fun K hK=>by
  simp only[hw,if_true];unfold Oper.still;rw[hx];exact⟨rfl,hK _ h⟩
def Ml (j t:Nat) (o:Oper):Bool:=(match o.guard with | some (i,true)=>i == j | _=>false) && (match o.dst with | some d=>d != t | none=>true)
def GI {j t:Nat} (hj:((ops[j]?).bind (·.dst))=sQ t) {rest:List Oper}:∀ (l:List Oper) (a:Act),l.all (Ml j t)=true->a.tmps[t]?=sQ (bO false)->wpStill Tp ops w Q rest (l.foldl (fun a o=>a.put o.dst undef) a)->wpStill Tp ops w Q (l++rest) a
 | [],a,_,_,h=>h
 | o :: l,a,hall,ht,h=>by
  simp only[List.all_cons,qw] at hall;obtain⟨ho,hall⟩:=hall;unfold Ml at ho;simp only[qw] at ho;refine IC ?_ (GI hj l _ hall ?_ h)
  .unfold Region.wanted;revert ho
   rcases o.guard with _|⟨i,b⟩
   .simp
   .cases b
    .simp
    .intro ho;have e:i=j:=by simpa using ho.1
     subst e;simp only[yielded,hj,Option.bind_some,ht];rfl
  .revert ho
   rcases hd:o.dst with _|d
   .intro _;simpa[Act.put] using ht
   .intro ho;have hne:d≠t:=by simpa using ho.2
    simp only[Act.put];rw[Array.getElem?_setIfInBounds_ne hne];exact ht
def Ha {L:List Oper} (n:Nat) {j t:Nat} (hj:((ops[j]?).bind (·.dst))=sQ t) (hw:op.guard=nn) (hd:op.dst=sQ t) (hx:(execOp a.eval op).run Tp w = .ok (.value (bO false)) w) (ht:t<a.tmps.size) (hall:(L.take n).all (Ml j t)=true) (h:wpStill Tp ops w Q (L.drop n) ((L.take n).foldl (fun a o=>a.put o.dst undef) (a.put (sQ t) (bO false)))):wpStill Tp ops w Q (op :: L) a:=by
 refine Jr (bO false) (by unfold Region.wanted;rw[hw]) hx ?_;rw[hd,<- List.take_append_drop n L];refine GI hj _ _ hall ?_ ?_
 .simp only[Act.put];rw[Array.getElem?_setIfInBounds_self_of_lt ht]
 .exact h
def pe (F:R5) (x:R3):Bool:=x.e == F.e && (bits .and Zk (F.i:Int) x.m == bits .and Zk x.k x.m)
def za (fs:List R3) (F:R5):Bool:=fs.any (pe F) || fs.length == 0
def b0 (n:Nat):((n:Int) == 0)=(n == 0):=by
 rw[qk];simp
def Iv {k:Nat} (hk:k<fs.length) (h:pe F fs[k]=true):za fs F=true:=by
 unfold za;have:fs.any (pe F)=true:=List.any_eq_true.2 ⟨_,qn hk,h⟩;rw[this];rfl
def Jd (h:∀ j (hj:j<fs.length),pe F fs[j]=false):za fs F=(fs.length == 0):=by
 unfold za;have:fs.any (pe F)=false:=by
  rw[List.any_eq_false];intro x hx;obtain⟨j,hj,rfl⟩:=List.getElem_of_mem hx;rw[h j hj];simp
 rw[this];rfl
def IM (w:World) (a:Option Addr) (n cap:Nat) (fs:List R3) (F:R5) (fa:Option Addr) (fm fc:Nat) (h:bj w a n cap fs) (hn:n<=1000) :
  Calls Tp 169 #[sL a n cap,frV F.e F.i F.r F.d fa fm fc] w fun o w'=>o = rT (bO (za fs F))/\Bl w w':=by
 obtain⟨fE,fI,fR,fD,fL⟩:=F;have hcp:=h.cap;have HL:Hid (n=fs.length):=h.len;have HH:Hid (bj w a n cap fs):=h;have HP:Hid (blk (w.alloc (.cells [bO fE,I Zk (fI:Int),bO fR,I J fD,sL fa fm fc].toArray 67)) w.heap.size [bO fE,I Zk (fI:Int),bO fR,I J fD,sL fa fm fc] 67):=blk.new w _ 67;have HB0:Hid (Bl w (w.alloc (.cells [bO fE,I Zk (fI:Int),bO fR,I J fD,sL fa fm fc].toArray 67))):=Zw;clear h;go_enter func169,ntmps169;go_wp2_with fail;go_loopw [5] (fun i wr=>∃ k:Nat,k<=n/\i = I J (k:Int)/\(∀ j (hj:j<fs.length),j<k->pe ⟨fE,fI,fR,fD,fL⟩ fs[j]=false)/\Bl w wr/\blk wr w.heap.size [bO fE,I Zk (fI:Int),bO fR,I J fD,sL fa fm fc] 67) (fun i _=>n-(intOf i).toNat);case atStart=>exact⟨0,nZ _,rfl,fun j hj h=>Qy h (nN _),HB0.o,HP.o⟩
 case round=>
  obtain⟨k,hk,rfl,hdone,hb,hp⟩:=hrel;have HB:Hid (Bl w wr/\blk wr w.heap.size [bO fE,I Zk (fI:Int),bO fR,I J fD,sL fa fm fc] 67):=⟨hb,hp⟩
  have HDN:Hid (∀ j (hj:j<fs.length),j<k->pe ⟨fE,fI,fR,fD,fL⟩ fs[j]=false):=hdone;clear hb hp hdone;by_cases hlt:k<n
  .have hkl:k<fs.length:=by have:=HL.o;omega
   obtain⟨g,off,rfl,hc⟩:=HH.o.cells (by intro e;rw[e] at hkl;cases hkl);have h0:=(hc k hkl).below HB.o.1
   have HNX:Hid (pe ⟨fE,fI,fR,fD,fL⟩ fs[k]=false->∀ j (hj:j<fs.length),j<k+1->pe ⟨fE,fI,fR,fD,fL⟩ fs[j]=false):=fun hx j hj hjk=>by
    by_cases e:j=k
    .subst e;exact hx
    .exact HDN.o j hj om
   have HYS:Hid (pe ⟨fE,fI,fR,fD,fL⟩ fs[k]=true->za fs ⟨fE,fI,fR,fD,fL⟩=true):=Iv hkl;clear hc HDN;have y0:=h0.c0;have y1:=h0.c1;have y2:=h0.c2;have z0:=HB.o.2.cell 0 _ rfl;have z1:=HB.o.2.cell 1 _ rfl;clear h0;generalize fs[k]=b at *;obtain⟨e,mm,kk⟩:=b;simp only[] at y0 y1 y2;by_cases he:e=fE
   .subst he;by_cases hx:(bits .and Zk (fI:Int) mm == bits .and Zk kk mm)=true
    .have HT:Hid (za fs ⟨e,fI,fR,fD,fL⟩=true):=HYS.o (by unfold pe;simp only[hx,Bool.and_true,beq_self_eq_true]);go_wp2_with fail;refine wp_region_still_lit kr kr ?_;change wpStill Tp _ (World.drew wr) (fun a'=>Exit.then _ _ Exit.normal a' (World.drew wr)) _ _;have y0:(World.drew wr).cell? ⟨g,off+k*3,nn⟩=sQ (bO e):=y0;have y1:(World.drew wr).cell? ⟨g,off+k*3+1,nn⟩=sQ (I Zk mm):=y1;have y2:(World.drew wr).cell? ⟨g,off+k*3+2,nn⟩=sQ (I Zk kk):=y2;have z0:(World.drew wr).cell? ⟨w.heap.size,0,nn⟩=sQ (bO e):=z0;have z1:(World.drew wr).cell? ⟨w.heap.size,1,nn⟩=sQ (I Zk (fI:Int)):=z1;have HB:Hid (Bl w (World.drew wr)/\blk (World.drew wr) w.heap.size [bO e,I Zk (fI:Int),bO fR,I J fD,sL fa fm fc] 67):=⟨HB.o.1.drew,HB.o.2.below (bW _ _).drew⟩
     generalize World.drew wr=v0 at *;repeat (still_step)
     refine wpStill_nil ?_;go_wp2_with fail;go_ret;exact⟨by rw[HT.o];rfl,HB.o.1⟩
    .have hx':(bits .and Zk (fI:Int) mm == bits .and Zk kk mm)=false:=by simpa using hx
     have HN:Hid (∀ j (hj:j<fs.length),j<k+1->pe ⟨e,fI,fR,fD,fL⟩ fs[j]=false):=HNX.o (by unfold pe;simp only[hx',Bool.and_false]);go_wp2_with fail;refine wp_region_still_lit kr kr ?_;change wpStill Tp _ (World.drew wr) (fun a'=>Exit.then _ _ Exit.normal a' (World.drew wr)) _ _;have y0:(World.drew wr).cell? ⟨g,off+k*3,nn⟩=sQ (bO e):=y0;have y1:(World.drew wr).cell? ⟨g,off+k*3+1,nn⟩=sQ (I Zk mm):=y1;have y2:(World.drew wr).cell? ⟨g,off+k*3+2,nn⟩=sQ (I Zk kk):=y2;have z0:(World.drew wr).cell? ⟨w.heap.size,0,nn⟩=sQ (bO e):=z0;have z1:(World.drew wr).cell? ⟨w.heap.size,1,nn⟩=sQ (I Zk (fI:Int)):=z1;have HB:Hid (Bl w (World.drew wr)/\blk (World.drew wr) w.heap.size [bO e,I Zk (fI:Int),bO fR,I J fD,sL fa fm fc] 67):=⟨HB.o.1.drew,HB.o.2.below (bW _ _).drew⟩
     generalize World.drew wr=v0 at *;repeat (still_step)
     refine wpStill_nil ?_;go_wp2_with fail;go_roundw;case rel=>exact⟨k+1,om,by go_num,HN.o,HB.o.1,HB.o.2⟩
     case measure=>simp[intOf];omega
   .have HN:Hid (∀ j (hj:j<fs.length),j<k+1->pe ⟨fE,fI,fR,fD,fL⟩ fs[j]=false):=HNX.o (by unfold pe;simp[he]);cases e
    .cases fE
     .exact Qy rfl he
     .clear he;go_wp2_with fail;refine wp_region_still_lit kr kr ?_;change wpStill Tp _ (World.drew wr) (fun a'=>Exit.then _ _ Exit.normal a' (World.drew wr)) _ _;have y0:(World.drew wr).cell? ⟨g,off+k*3,nn⟩=sQ (bO false):=y0;have y1:(World.drew wr).cell? ⟨g,off+k*3+1,nn⟩=sQ (I Zk mm):=y1;have y2:(World.drew wr).cell? ⟨g,off+k*3+2,nn⟩=sQ (I Zk kk):=y2;have z0:(World.drew wr).cell? ⟨w.heap.size,0,nn⟩=sQ (bO true):=z0;have z1:(World.drew wr).cell? ⟨w.heap.size,1,nn⟩=sQ (I Zk (fI:Int)):=z1;have HB:Hid (Bl w (World.drew wr)/\blk (World.drew wr) w.heap.size [bO true,I Zk (fI:Int),bO fR,I J fD,sL fa fm fc] 67):=⟨HB.o.1.drew,HB.o.2.below (bW _ _).drew⟩
      generalize World.drew wr=v0 at *
      (iterate 8 still_step)
      refine Ha 20 (j:=8) (t:=20) rfl rfl rfl rfl pQ rfl ?_;simp only[List.take_succ_cons,List.take_zero,List.drop_succ_cons,List.drop_zero,List.foldl_cons,List.foldl_nil,Act.put,aA,aB,aC];still_step
      refine wpStill_nil ?_;go_wp2_with fail;go_roundw;case rel=>exact⟨k+1,om,by go_num,HN.o,HB.o.1,HB.o.2⟩
      case measure=>simp[intOf];omega
    .cases fE
     .clear he;go_wp2_with fail;refine wp_region_still_lit kr kr ?_;change wpStill Tp _ (World.drew wr) (fun a'=>Exit.then _ _ Exit.normal a' (World.drew wr)) _ _;have y0:(World.drew wr).cell? ⟨g,off+k*3,nn⟩=sQ (bO true):=y0;have y1:(World.drew wr).cell? ⟨g,off+k*3+1,nn⟩=sQ (I Zk mm):=y1;have y2:(World.drew wr).cell? ⟨g,off+k*3+2,nn⟩=sQ (I Zk kk):=y2;have z0:(World.drew wr).cell? ⟨w.heap.size,0,nn⟩=sQ (bO false):=z0;have z1:(World.drew wr).cell? ⟨w.heap.size,1,nn⟩=sQ (I Zk (fI:Int)):=z1;have HB:Hid (Bl w (World.drew wr)/\blk (World.drew wr) w.heap.size [bO false,I Zk (fI:Int),bO fR,I J fD,sL fa fm fc] 67):=⟨HB.o.1.drew,HB.o.2.below (bW _ _).drew⟩
      generalize World.drew wr=v0 at *
      (iterate 8 still_step)
      refine Ha 20 (j:=8) (t:=20) rfl rfl rfl rfl pQ rfl ?_;simp only[List.take_succ_cons,List.take_zero,List.drop_succ_cons,List.drop_zero,List.foldl_cons,List.foldl_nil,Act.put,aA,aB,aC];still_step
      refine wpStill_nil ?_;go_wp2_with fail;go_roundw;case rel=>exact⟨k+1,om,by go_num,HN.o,HB.o.1,HB.o.2⟩
      case measure=>simp[intOf];omega
     .exact Qy rfl he
  .have hkn:k=n:=om;subst hkn;have HT:Hid (za fs ⟨fE,fI,fR,fD,fL⟩=(fs.length == 0)):=Jd (fun j hj=>HDN.o j hj (by have:=HL.o;omega));have hl:k=fs.length:=HL.o;subst hl;go_wp2_with fail;go_ret;refine⟨?_,HB.o.1⟩;rw[HT.o,<- b0 fs.length];rfl
end
def JB (w:World) (P:Nat) (g n cap:Nat) (fs:List R3) (F:R5) (fa:Option Addr) (fm fc:Nat) (y4:w.cell? ⟨P,4,nn⟩=sQ (sL (sQ ⟨g,0,nn⟩) n cap)) (h:bj w (sQ ⟨g,0,nn⟩) n cap fs) (hn:n<=1000) :
  Calls Tp 253 #[pT (sQ ⟨P,0,nn⟩),frV F.e F.i F.r F.d fa fm fc] w fun o w'=>o = rT (bO (za fs F))/\Bl w w':=by
 obtain⟨fE,fI,fR,fD,fL⟩:=F;have hcp:=h.cap;have HL:Hid (n=fs.length):=h.len;have HH:Hid (bj w (sQ ⟨g,0,nn⟩) n cap fs):=h;have HP:Hid (blk (w.alloc (.cells [bO fE,I Zk (fI:Int),bO fR,I J fD,sL fa fm fc].toArray 67)) w.heap.size [bO fE,I Zk (fI:Int),bO fR,I J fD,sL fa fm fc] 67):=blk.new w _ 67;have HB0:Hid (Bl w (w.alloc (.cells [bO fE,I Zk (fI:Int),bO fR,I J fD,sL fa fm fc].toArray 67))):=Zw;have HY4:Hid (∀ X,Bl w X->X.cell? ⟨P,4,nn⟩=sQ (sL (sQ ⟨g,0,nn⟩) n cap)):=fun X hX=>(hX.cell (by exact QC w _ y4)).trans y4;have y4A:=HY4.o _ HB0.o;clear h y4;go_enter func253,ntmps253;go_wp2_with fail;clear y4A;go_loopw [12] (fun i wr=>∃ k:Nat,k<=n/\i = I J (k:Int)/\(∀ j (hj:j<fs.length),j<k->pe ⟨fE,fI,fR,fD,fL⟩ fs[j]=false)/\Bl w wr/\blk wr w.heap.size [bO fE,I Zk (fI:Int),bO fR,I J fD,sL fa fm fc] 67) (fun i _=>n-(intOf i).toNat);case atStart=>exact⟨0,nZ _,rfl,fun j hj h=>Qy h (nN _),HB0.o,HP.o⟩
 case round=>
  obtain⟨k,hk,rfl,hdone,hb,hp⟩:=hrel;have HB:Hid (Bl w wr/\blk wr w.heap.size [bO fE,I Zk (fI:Int),bO fR,I J fD,sL fa fm fc] 67):=⟨hb,hp⟩
  have HDN:Hid (∀ j (hj:j<fs.length),j<k->pe ⟨fE,fI,fR,fD,fL⟩ fs[j]=false):=hdone;clear hb hp hdone;by_cases hlt:k<n
  .have hkl:k<fs.length:=by have:=HL.o;omega
   obtain⟨g',off,eg,hc⟩:=HH.o.cells (by intro e;rw[e] at hkl;cases hkl);cases eg;have h0:=(hc k hkl).below HB.o.1;rw[qi] at h0
   have HNX:Hid (pe ⟨fE,fI,fR,fD,fL⟩ fs[k]=false->∀ j (hj:j<fs.length),j<k+1->pe ⟨fE,fI,fR,fD,fL⟩ fs[j]=false):=fun hx j hj hjk=>by
    by_cases e:j=k
    .subst e;exact hx
    .exact HDN.o j hj om
   have HYS:Hid (pe ⟨fE,fI,fR,fD,fL⟩ fs[k]=true->za fs ⟨fE,fI,fR,fD,fL⟩=true):=Iv hkl;clear hc HDN;have x0:=h0.c0;have x1:=h0.c1;have x2:=h0.c2;clear h0;generalize fs[k]=b at *;obtain⟨e,mm,kk⟩:=b;simp only[] at x0 x1 x2;by_cases he:e=fE
   .subst he;by_cases hx:(bits .and Zk (fI:Int) mm == bits .and Zk kk mm)=true
    .have HT:Hid (za fs ⟨e,fI,fR,fD,fL⟩=true):=HYS.o (by unfold pe;simp only[hx,Bool.and_true,beq_self_eq_true]);have hbd:Bl wr (wr.alloc (.cells [bO e,I Zk mm,I Zk kk].toArray 180)):=Zw;have HB:Hid (Bl w (wr.alloc (.cells [bO e,I Zk mm,I Zk kk].toArray 180))/\blk (wr.alloc (.cells [bO e,I Zk mm,I Zk kk].toArray 180)) w.heap.size [bO e,I Zk (fI:Int),bO fR,I J fD,sL fa fm fc] 67):=⟨HB.o.1.trans (hbd.mono HB.o.1.size),HB.o.2.below hbd⟩
     clear hbd;have z0:=HB.o.2.cell 0 _ rfl;have z1:=HB.o.2.cell 1 _ rfl;go_wp2_with fail;go_ret;exact⟨by rw[HT.o];rfl,HB.o.1⟩
    .have hx':(bits .and Zk (fI:Int) mm == bits .and Zk kk mm)=false:=by simpa using hx
     have HN:Hid (∀ j (hj:j<fs.length),j<k+1->pe ⟨e,fI,fR,fD,fL⟩ fs[j]=false):=HNX.o (by unfold pe;simp only[hx',Bool.and_false]);have hbd:Bl wr (wr.alloc (.cells [bO e,I Zk mm,I Zk kk].toArray 180)):=Zw;have HB:Hid (Bl w (wr.alloc (.cells [bO e,I Zk mm,I Zk kk].toArray 180))/\blk (wr.alloc (.cells [bO e,I Zk mm,I Zk kk].toArray 180)) w.heap.size [bO e,I Zk (fI:Int),bO fR,I J fD,sL fa fm fc] 67):=⟨HB.o.1.trans (hbd.mono HB.o.1.size),HB.o.2.below hbd⟩
     clear hbd;have z0:=HB.o.2.cell 0 _ rfl;have z1:=HB.o.2.cell 1 _ rfl;go_wp2_with fail;go_roundw;case rel=>exact⟨k+1,om,by go_num,HN.o,HB.o.1,HB.o.2⟩
     case measure=>simp[intOf];omega
   .have HN:Hid (∀ j (hj:j<fs.length),j<k+1->pe ⟨fE,fI,fR,fD,fL⟩ fs[j]=false):=HNX.o (by unfold pe;simp[he]);cases e
    .cases fE
     .exact Qy rfl he
     .clear he;have hbd:Bl wr (wr.alloc (.cells [bO false,I Zk mm,I Zk kk].toArray 180)):=Zw;have HB:Hid (Bl w (wr.alloc (.cells [bO false,I Zk mm,I Zk kk].toArray 180))/\blk (wr.alloc (.cells [bO false,I Zk mm,I Zk kk].toArray 180)) w.heap.size [bO true,I Zk (fI:Int),bO fR,I J fD,sL fa fm fc] 67):=⟨HB.o.1.trans (hbd.mono HB.o.1.size),HB.o.2.below hbd⟩
      clear hbd;have z0:=HB.o.2.cell 0 _ rfl;have z1:=HB.o.2.cell 1 _ rfl;go_wp2_with fail;go_roundw;case rel=>exact⟨k+1,om,by go_num,HN.o,HB.o.1,HB.o.2⟩
      case measure=>simp[intOf];omega
    .cases fE
     .clear he;have hbd:Bl wr (wr.alloc (.cells [bO true,I Zk mm,I Zk kk].toArray 180)):=Zw;have HB:Hid (Bl w (wr.alloc (.cells [bO true,I Zk mm,I Zk kk].toArray 180))/\blk (wr.alloc (.cells [bO true,I Zk mm,I Zk kk].toArray 180)) w.heap.size [bO false,I Zk (fI:Int),bO fR,I J fD,sL fa fm fc] 67):=⟨HB.o.1.trans (hbd.mono HB.o.1.size),HB.o.2.below hbd⟩
      clear hbd;have z0:=HB.o.2.cell 0 _ rfl;have z1:=HB.o.2.cell 1 _ rfl;go_wp2_with fail;go_roundw;case rel=>exact⟨k+1,om,by go_num,HN.o,HB.o.1,HB.o.2⟩
      case measure=>simp[intOf];omega
     .exact Qy rfl he
  .have hkn:k=n:=om;subst hkn;have HT:Hid (za fs ⟨fE,fI,fR,fD,fL⟩=(fs.length == 0)):=Jd (fun j hj=>HDN.o j hj (by have:=HL.o;omega));have hl:k=fs.length:=HL.o;subst hl;have y4B:=HY4.o _ HB.o.1;go_wp2_with fail;go_ret;refine⟨?_,HB.o.1⟩;rw[HT.o,<- b0 fs.length];rfl
def f9 (H:Ho) (F:R5):Ho:=
 if vB F.e F.i F.r F.d F.l.length=true/\za H.fs F=true then
  (if (H.ff.length:Int)=H.c1 then
   (if H.c2=0 then pH H (evF 3 0 0 F)
    else match H.ff with
    | []=>H
    | f :: r=>pH (fHo (pH H (evF 3 0 0 f)) (r++[F])) (evF 2 0 0 F))
   else pH (fHo H (H.ff++[F])) (evF 2 0 0 F))
 else H
def lh.putF {w0:World} {G:Lg} {H:Ho} {f1 f3:Nat} {hs:Nat->Hd} {nm:Nat} {D:DataW Unit} {W:World} (h:lh w0 G H f1 f3 hs nm D W) (F:R5) (ao:Option Addr) (m c:Nat) (hby:iB G.u ao m c F.l) (hl:F.l.length<=1048576) (hroom:H.ff.length<G.r1) (ib:Nat) (hib:W.heap[ib]?=some (.cells #[bO F.e,I .u32 (F.i:Int),bO F.r,I J F.d,sL ao m c] 67)) (hne:ib≠G.P/\ib≠G.gr) :
  Calls Tp 209 #[pT (some ⟨G.P,7,none⟩),sL (some ⟨ib,0,none⟩) 1 1] W fun o w'=>o = rT (I J 1)/\lh w0 G (fHo H (H.ff++[F])) f1 f3 hs nm D w'/\(∀ b,b≠G.P->b≠G.gr->b<W.heap.size->w'.heap[b]?=W.heap[b]?)/\W.heap.size<=w'.heap.size:=by
 have dp:=h.d.p;have dm:=h.d.m;have dg:=h.d.g;have dl:=h.d.lo;have hb1:=h.bd.b1
 refine (Kj H.c0 H.c2 G.r3 G.gf G.n1 G.kf G.gb G.n2 G.kb G.mb G.gq f3 H.qu.length H.lo H.st G.u W G.P G.gr G.r1 f1 H.ff [F] (some ⟨ib,0,none⟩) 1 1 h.p om h.rz h.hi.2.1 h.r hb1.1 hb1.2.2 hb1.2.1 ⟨rfl,nR _,fun _=>⟨ib,0,rfl,hne.1,hne.2,aJ hib,fun j hj=>⟨ao,m,c,by
   have hj0:j=0:=by simp at hj;omega
   subst hj0;exact⟨dc hib,hby⟩⟩⟩⟩ om 1 om).mono ?_
 rintro o w' ⟨rfl,hq⟩;have hb':Bl w0 w':=by
  refine⟨hq.o.1.trans h.b.os,hq.o.2.1.trans h.b.tape,hq.o.2.2.trans h.b.output,nT h.b.size hq.s,fun b hb=>?_⟩;rw[hq.k b om om (nL hb h.b.size)];exact h.b.block b hb
 have he:∀ q,q≠G.P->q≠G.gr->q<W.heap.size->w'.heap[q]?=W.heap[q]?:=hq.k;have hz:=hq.s;have hi:=h.hi;have hr1:=hq.r;have hp1:=hq.p;refine⟨rfl,⟨?_,h.f.same (he _ om om hi.1),h.x.at0 (he _ om om h.x.hi) hb',hr1,hq.z,h.q.keep (he _ om om hi.2.2),h.qz.up (he _ om om hi.2.2),?_,hb',⟨om,om,om⟩,h.d,⟨h.bd.e1,h.bd.e3,h.bd.m1,h.bd.m2,h.bd.nk,⟨hb1.1,hb1.2.1,?_⟩,h.bd.b3,h.bd.lo,?_,h.bd.s4⟩,h.k.to hz fun q hq hl=>he q (Go.Proofs.YtgfolecanghhhaaGreat.hne hq h.d.u.1) (Go.Proofs.YtgfolecanghhhaaGreat.hne hq h.d.u.2.2.2.1) hl⟩,he,hz⟩
 .have e2:(fHo H (H.ff++[F])).ff.length=H.ff.length+1:=by simp
  unfold lhL;rw[e2];exact hp1
 .obtain⟨es,clock,q1,q2⟩:=h.m;exact⟨es,clock,(he _ om om h.m.lt).trans q1,q2⟩
 .show (H.ff++[F]).length<=_;simp;omega
 .intro j hj;have hj':j<H.ff.length+1:=by simpa using hj
  show ((H.ff++[F])[j]'(by simpa using hj')).l.length<=_;by_cases e:j<H.ff.length
  .rw[qN e];exact h.bd.s3 j e
  .rw[List.getElem_append_right om];simpa using hl
section
variable {G:Lg} {W X Y w0:World} {f1 f3 nm:Nat}
def frD (G:Lg) (W X:World):Prop:=(∀ q,q≠G.P->q≠G.gq->q≠G.gr->q<W.heap.size->X.heap[q]?=W.heap[q]?)/\W.heap.size<=X.heap.size
def frD.of (h:Bl W X):frD G W X:=⟨fun q _ _ _ hq=>h.block q hq,h.size⟩
def frD.step (h:frD G W X) (ho:∀ q,q≠G.P->q≠G.gq->q≠G.gr->q<X.heap.size->Y.heap[q]?=X.heap[q]?) (hz:X.heap.size<=Y.heap.size):frD G W Y:=
 ⟨fun q a b c d=>(ho q a b c (nL d h.2)).trans (h.1 q a b c d),nT h.2 hz⟩
def frD.below (h:frD G W X) (hb:Bl X Y):frD G W Y:=h.step (fun q _ _ _ hq=>hb.block q hq) hb.size
def frD.post (h:frD G W X) (ho:∀ b,b≠G.P->b≠G.gq->b<X.heap.size->Y.heap[b]?=X.heap[b]?) (hz:X.heap.size<=Y.heap.size):frD G W Y:=h.step (fun q a b _ hq=>ho q a b hq) hz
def frD.put (h:frD G W X) (ho:∀ b,b≠G.P->b≠G.gr->b<X.heap.size->Y.heap[b]?=X.heap[b]?) (hz:X.heap.size<=Y.heap.size):frD G W Y:=h.step (fun q a _ c hq=>ho q a c hq) hz
def frD.take (h:frD G W X) (ho:∀ b,b≠G.P->b<X.heap.size->Y.heap[b]?=X.heap[b]?) (hz:X.heap.size<=Y.heap.size):frD G W Y:=h.step (fun q a _ _ hq=>ho q a hq) hz
def JL {H:Ho} {hs:Nat->Hd} {D:DataW Unit} (h:lh w0 G H f1 f3 hs nm D W) (F:R5) (fa:Option Addr) (fm fc:Nat) (hf:iB G.u fa fm fc F.l) (hfm:fm<=1048576) (hc2:H.c2=0\/H.c2=1) :
  Calls Tp 234 #[pT (sQ ⟨G.P,0,nn⟩),frV F.e F.i F.r F.d fa fm fc] W fun o w'=>o = rT (.tuple #[])/\(∃ f1',lh w0 G (f9 H F) f1' f3 hs nm D w')/\frD G W w':=by
 have HBA:Hid (Bl W (W.alloc (.cells [bO F.e,I Zk (F.i:Int),bO F.r,I J F.d,sL fa fm fc].toArray 67))):=Zw;have HPA:Hid (blk (W.alloc (.cells [bO F.e,I Zk (F.i:Int),bO F.r,I J F.d,sL fa fm fc].toArray 67)) W.heap.size [bO F.e,I Zk (F.i:Int),bO F.r,I J F.d,sL fa fm fc] 67):=blk.new W _ 67;have HLA:Hid (lh w0 G H f1 f3 hs nm D (W.alloc (.cells [bO F.e,I Zk (F.i:Int),bO F.r,I J F.d,sL fa fm fc].toArray 67))):=h.below HBA.o;have HU:Hid (lhU G W.heap.size):=h.lts;have HFB:Hid (iB G.u fa fm fc F.l/\F.l.length<=1048576/\fm=F.l.length):=⟨hf,by have:=hf.len;omega,hf.len⟩
 have HVL:Hid (∀ X,lh w0 G H f1 f3 hs nm D X->Calls Tp 148 #[frV F.e F.i F.r F.d fa fm fc] X fun o w'=>o = rT (bO (vB F.e F.i F.r F.d fm))/\Bl X w'):=fun X hX=>dU X _ _ _ _ _ _ _ _ (hf.kpt hX.k);have HPS:Hid (∀ X,lh w0 G H f1 f3 hs nm D X->Calls Tp 253 #[pT (sQ ⟨G.P,0,nn⟩),frV F.e F.i F.r F.d fa fm fc] X fun o w'=>o = rT (bO (za H.fs F))/\Bl X w'):=fun X hX=>JB X G.P G.gf G.n1 G.kf H.fs F fa fm fc (hX.p.cell 4 _ rfl) hX.f hX.bd.m1;have HFR:Hid (∀ X,lh w0 G H f1 f3 hs nm D X->Calls Tp 231 #[pT (sQ ⟨G.P,7,nn⟩)] X fun o w'=>o = rT (I J ((G.r1-H.ff.length:Nat):Int))/\Bl X w'):=fun X hX=>M4 X G.P 7 _ G.r1 G.r1 H.ff.length (hX.p.cell 7 _ rfl) (hX.p.cell 9 _ rfl) hX.bd.b1.2.2 (by have:=hX.bd.b1;omega) 231 (qr rfl);clear h hf;go_enter func234,ntmps234;go_wp2_with (refine Zi 67 [bO F.e,I Zk (F.i:Int),bO F.r,I J F.d,sL fa fm fc] HPA.o.load underlying67 jc ?_);refine (HVL.o _ HLA.o).mono ?_;rintro o w1 ⟨rfl,hb1⟩;have HL1:Hid (lh w0 G H f1 f3 hs nm D w1):=HLA.o.below hb1;have HP1:Hid (blk w1 W.heap.size [bO F.e,I Zk (F.i:Int),bO F.r,I J F.d,sL fa fm fc] 67):=HPA.o.below hb1;have HF:Hid (frD G W w1):=frD.of (HBA.o.trans (hb1.mono HBA.o.size));clear hb1 HLA HPA HBA HVL;by_cases hv:vB F.e F.i F.r F.d fm=true
 .rw[hv];go_wp2_with (refine di (by first | rfl | (simp[Region.wanted,yielded];done) | (simp[Region.wanted,yielded];omega)) 67 _ rfl W.heap.size 0 rfl [bO F.e,I Zk (F.i:Int),bO F.r,I J F.d,sL fa fm fc] _ HP1.o.load underlying67 rfl jc ?_);refine (HPS.o _ HL1.o).mono ?_;rintro o w2 ⟨rfl,hb2⟩;have HL2:Hid (lh w0 G H f1 f3 hs nm D w2):=HL1.o.below hb2;have HP2:Hid (blk w2 W.heap.size [bO F.e,I Zk (F.i:Int),bO F.r,I J F.d,sL fa fm fc] 67):=HP1.o.below hb2;have HF:Hid (frD G W w2):=HF.o.below hb2;clear hb2 HL1 HP1 HPS;have HV:Hid (vB F.e F.i F.r F.d F.l.length=true):=by show _=_;rw[<- HFB.o.2.2];exact hv
  by_cases hp:za H.fs F=true
  .rw[hp];have HD0:Hid (f9 H F=if (H.ff.length:Int)=H.c1 then (if H.c2=0 then pH H (evF 3 0 0 F) else match H.ff with | []=>H | f :: r=>pH (fHo (pH H (evF 3 0 0 f)) (r++[F])) (evF 2 0 0 F)) else pH (fHo H (H.ff++[F])) (evF 2 0 0 F)):=by
    show _=_;unfold f9;rw[qc ⟨HV.o,hp⟩];try rfl
   go_wp2_with fail;refine (HFR.o _ HL2.o).mono ?_;rintro o w3 ⟨rfl,hb3⟩;have HL3:Hid (lh w0 G H f1 f3 hs nm D w3):=HL2.o.below hb3;have HP3:Hid (blk w3 W.heap.size [bO F.e,I Zk (F.i:Int),bO F.r,I J F.d,sL fa fm fc] 67):=HP2.o.below hb3;have HF:Hid (frD G W w3):=HF.o.below hb3;clear hb3 HL2 HP2 HFR;have hle:=HL3.o.bd.b1;have he1:=HL3.o.bd.e1;by_cases hfull:H.ff.length=G.r1
   .have hfr:G.r1-H.ff.length=0:=om;rw[hfr];have hfi:(H.ff.length:Int)=H.c1:=by rw[he1];omega
    have y2:w3.cell? ⟨G.P,2,nn⟩=sQ (I J H.c2):=HL3.o.p.cell 2 _ rfl;rcases hc2 with h0|h0
    .have HT:Hid (f9 H F=pH H (evF 3 0 0 F)):=by
      show _=_;rw[HD0.o,qc hfi,qc h0]
     rw[h0] at y2;have HPO:Hid (Calls Tp 213 #[pT (sQ ⟨G.P,0,nn⟩),aG #[I J 3,I J 0,I J 0,bO F.e,I Zk (F.i:Int),bO F.r,I J F.d,sL fa fm fc]] w3 fun o w'=>o = rT (.tuple #[])/\lh w0 G (pH H (evF 3 0 0 F)) f1 f3 hs nm D w'/\(∀ b,b≠G.P->b≠G.gq->b<w3.heap.size->w'.heap[b]?=w3.heap[b]?)/\w3.heap.size<=w'.heap.size):=HL3.o.post (evF 3 0 0 F) fa fm fc HFB.o.1 HFB.o.2.1;go_wp2_with (refine Zi 67 [bO F.e,I Zk (F.i:Int),bO F.r,I J F.d,sL fa fm fc] HP3.o.load underlying67 jc ?_);refine HPO.o.mono ?_;rintro o w7 ⟨rfl,hl7,ho7,hz7⟩;have HL7:Hid (lh w0 G (pH H (evF 3 0 0 F)) f1 f3 hs nm D w7):=hl7;have HF:Hid (frD G W w7):=HF.o.post ho7 hz7;clear hl7 HPO ho7 hz7;go_wp2_with fail;refine bN ?_
     exact⟨rfl,⟨_,by rw[HT.o];exact HL7.o⟩,HF.o⟩
    .have hne:¬ H.c2=0:=om;obtain⟨f,r,hfr2⟩ : ∃ f r,H.ff=f :: r:=by
      cases hff:H.ff with
      | nil=>rw[hff] at hfull;simp at hfull;omega
      | cons f r=>exact⟨f,r,rfl⟩
     have HT:Hid (f9 H F=pH (fHo (pH H (evF 3 0 0 f)) (r++[F])) (evF 2 0 0 F)):=by
      show _=_;rw[HD0.o,qc hfi,qa hne,hfr2]
     have hsm:=HL3.o.bd.s3 0 (by rw[hfr2];simp);have e0:H.ff[0]'(by rw[hfr2];simp)=f:=by simp[hfr2]
     rw[e0] at hsm;have hlr:r.length<G.r1:=by
      have:=congrArg List.length hfr2;simp at this;omega
     have HLR:Hid (r.length<G.r1):=hlr;rw[h0] at y2;have HTK:Hid (Calls Tp 254 #[pT (sQ ⟨G.P,7,nn⟩),I J 1] w3 fun e w'=>∃ gx kx ao m c,e = rT (sL (sQ ⟨gx,0,nn⟩) 1 kx)/\(w3.heap.size<=gx/\gx<w'.heap.size/\1<=kx/\w'.rangeAt gx 0 [bO f.e,I Zk (f.i:Int),bO f.r,I J f.d,sL ao m c]/\iB G.u ao m c f.l)/\lh w0 G { H with ff:=r } ((f1+1) % G.r1) f3 hs nm D w'/\(∀ q,q≠G.P->q<w3.heap.size->w'.heap[q]?=w3.heap[q]?)/\w3.heap.size<=w'.heap.size):=Ka HL3.o hfr2;have HSM:Hid (f.l.length<=1048576):=hsm;clear hsm e0 hfr2 hlr hfi he1 hle hfull hfr;obtain⟨gE,gI,gR,gD,gL⟩:=f;go_wp2_with fail;refine HTK.o.mono ?_;rintro o w4 ⟨gx,kx,ao,m,c,rfl,⟨h1,h2,h3,h4,h5⟩,h6,h7,h8⟩;have HP4a:Hid (blk w4 W.heap.size [bO F.e,I Zk (F.i:Int),bO F.r,I J F.d,sL fa fm fc] 67):=HP3.o.kept (h7 _ (by have:=HU.o.1;omega) HP3.o.lt);have HX4:Hid (w4.rangeAt gx 0 [bO gE,I Zk (gI:Int),bO gR,I J gD,sL ao m c]):=h4;have hkx:1<=kx:=h3;have HPO3:Hid (Calls Tp 213 #[pT (sQ ⟨G.P,0,nn⟩),aG #[I J 3,I J 0,I J 0,bO gE,I Zk (gI:Int),bO gR,I J gD,sL ao m c]] w4 fun o w'=>o = rT (.tuple #[])/\lh w0 G (pH { H with ff:=r } (evF 3 0 0 ⟨gE,gI,gR,gD,gL⟩)) ((f1+1) % G.r1) f3 hs nm D w'/\(∀ b,b≠G.P->b≠G.gq->b<w4.heap.size->w'.heap[b]?=w4.heap[b]?)/\w4.heap.size<=w'.heap.size):=h6.post (evF 3 0 0 ⟨gE,gI,gR,gD,gL⟩) ao m c h5 HSM.o;have HF:Hid (frD G W w4):=HF.o.take h7 h8;clear h1 h2 h3 h4 h5 h6 h7 h8 HTK HP3 HL3;go_wp2_with (refine Zi 67 [bO gE,I Zk (gI:Int),bO gR,I J gD,sL ao m c] HX4.o underlying67 jc ?_);refine HPO3.o.mono ?_;rintro o w5 ⟨rfl,hl5,ho5,hz5⟩;have HL5:Hid (lh w0 G (pH { H with ff:=r } (evF 3 0 0 ⟨gE,gI,gR,gD,gL⟩)) ((f1+1) % G.r1) f3 hs nm D w5):=hl5;have HP5:Hid (blk w5 W.heap.size [bO F.e,I Zk (F.i:Int),bO F.r,I J F.d,sL fa fm fc] 67):=HP4a.o.kept (ho5 _ (by have:=HU.o.1;omega) (by have:=HU.o.2.2.2.2.2;omega) HP4a.o.lt);have HF:Hid (frD G W w5):=HF.o.post ho5 hz5;clear hl5 ho5 HPO3 HP4a HX4;go_wp2_with fail;refine QJ (S:=fun X=>blk X W.heap.size [bO F.e,I Zk (F.i:Int),bO F.r,I J F.d,sL fa fm fc] 67) kr ?_;have hS:blk (World.drew w5) W.heap.size [bO F.e,I Zk (F.i:Int),bO F.r,I J F.d,sL fa fm fc] 67:=HP5.o.below (bW _ _).drew;have HLv:Hid (lh w0 G (pH { H with ff:=r } (evF 3 0 0 ⟨gE,gI,gR,gD,gL⟩)) ((f1+1) % G.r1) f3 hs nm D (World.drew w5)):=HL5.o.below (bW _ _).drew;have HF:Hid (frD G W (World.drew w5)):=HF.o.below (bW _ _).drew;change wpAnyH Tp _ _ _ _ _ _ _ (World.drew w5);generalize World.drew w5=v0 at *;refine wV 0 (pT (sQ ⟨G.P,0,nn⟩)) ?_ hS ?_
     .intro W hSw;clear hS;go_simp
     simp only[Act.put,aA,aB,aC,aD,aE];refine wV 1 (pT (sQ ⟨G.P,0,nn⟩)) ?_ hS ?_
     .intro W hSw;clear hS;go_simp
     simp only[aZ];refine wV 2 (pT (sQ ⟨G.P,7,nn⟩)) ?_ hS ?_
     .intro W hSw;clear hS;go_simp
     simp only[aZ];refine wU 3 (.agg [bO F.e,I Zk (F.i:Int),bO F.r,I J F.d,sL fa fm fc].toArray) rfl (QL (by rfl) 67 _ rfl W.heap.size 0 rfl [bO F.e,I Zk (F.i:Int),bO F.r,I J F.d,sL fa fm fc] _ (fun X h=>h.load) underlying67 rfl jc) hS ?_;simp only[aZ];refine QF (rs:=[4]) kr pQ ?_;refine Q8 rfl (fun K2 hK2=>?_) Q9;go_simp;have bA:Bl v0 (v0.alloc (.cells [bO F.e,I Zk (F.i:Int),bO F.r,I J F.d,sL fa fm fc].toArray 67)):=Zw;have hSA:blk (v0.alloc (.cells [bO F.e,I Zk (F.i:Int),bO F.r,I J F.d,sL fa fm fc].toArray 67)) W.heap.size [bO F.e,I Zk (F.i:Int),bO F.r,I J F.d,sL fa fm fc] 67:=hS.below bA;have HNB:Hid ((v0.alloc (.cells [bO F.e,I Zk (F.i:Int),bO F.r,I J F.d,sL fa fm fc].toArray 67)).heap[v0.heap.size]?=sQ (.cells [bO F.e,I Zk (F.i:Int),bO F.r,I J F.d,sL fa fm fc].toArray 67)):=QN v0 _;have HLB:Hid (lh w0 G (pH { H with ff:=r } (evF 3 0 0 ⟨gE,gI,gR,gD,gL⟩)) ((f1+1) % G.r1) f3 hs nm D (v0.alloc (.cells [bO F.e,I Zk (F.i:Int),bO F.r,I J F.d,sL fa fm fc].toArray 67))):=HLv.o.below bA;have HF:Hid (frD G W (v0.alloc (.cells [bO F.e,I Zk (F.i:Int),bO F.r,I J F.d,sL fa fm fc].toArray 67))):=HF.o.below bA;have HVZ:Hid (lhU G v0.heap.size):=HLv.o.lts;refine hK2.out _ _ hSA (fun hS2=>?_);clear hK2 K2 hSA hS bA HLv;have hS:=hS2;clear hS2;generalize (v0.alloc (.cells [bO F.e,I Zk (F.i:Int),bO F.r,I J F.d,sL fa fm fc].toArray 67))=v1 at *;generalize v0.heap.size=ib at *;refine QF (rs:=[5]) kr pQ ?_;refine Q8 rfl (fun K2 hK2=>?_) Q9;go_simp;refine (HLB.o.putF F fa fm fc HFB.o.1 HFB.o.2.1 (by exact HLR.o) ib HNB.o ⟨by have:=HVZ.o.1;omega,by have:=HVZ.o.2.2.2.2.1;omega⟩).mono ?_;rintro o v2 ⟨rfl,hl2,ho2,hz2⟩;have hS5:blk v2 W.heap.size [bO F.e,I Zk (F.i:Int),bO F.r,I J F.d,sL fa fm fc] 67:=hS.kept (ho2 _ (by have:=HU.o.1;omega) (by have:=HU.o.2.2.2.2.1;omega) hS.lt);have HL4:Hid (lh w0 G (fHo (pH { H with ff:=r } (evF 3 0 0 ⟨gE,gI,gR,gD,gL⟩)) ((pH { H with ff:=r } (evF 3 0 0 ⟨gE,gI,gR,gD,gL⟩)).ff++[F])) ((f1+1) % G.r1) f3 hs nm D v2):=hl2;have HF:Hid (frD G W v2):=HF.o.put ho2 hz2;clear hl2 ho2 hz2;go_wp2_with fail;refine hK2.out _ _ hS5 (fun hS2=>?_);clear hK2 K2 hS5 hS HLB HNB;have HP4:Hid (blk v2 W.heap.size [bO F.e,I Zk (F.i:Int),bO F.r,I J F.d,sL fa fm fc] 67):=hS2;clear hS2;refine QH kr ?_ _;have HPO:Hid (Calls Tp 213 #[pT (sQ ⟨G.P,0,nn⟩),aG #[I J 2,I J 0,I J 0,bO F.e,I Zk (F.i:Int),bO F.r,I J F.d,sL fa fm fc]] v2 fun o w'=>o = rT (.tuple #[])/\lh w0 G (pH (fHo (pH { H with ff:=r } (evF 3 0 0 ⟨gE,gI,gR,gD,gL⟩)) ((pH { H with ff:=r } (evF 3 0 0 ⟨gE,gI,gR,gD,gL⟩)).ff++[F])) (evF 2 0 0 F)) ((f1+1) % G.r1) f3 hs nm D w'/\(∀ b,b≠G.P->b≠G.gq->b<v2.heap.size->w'.heap[b]?=v2.heap[b]?)/\v2.heap.size<=w'.heap.size):=HL4.o.post (evF 2 0 0 F) fa fm fc HFB.o.1 HFB.o.2.1;go_wp2_with (refine Zi 67 [bO F.e,I Zk (F.i:Int),bO F.r,I J F.d,sL fa fm fc] HP4.o.load underlying67 jc ?_);refine HPO.o.mono ?_;rintro o w7 ⟨rfl,hl7,ho7,hz7⟩;have HL7:Hid (lh w0 G (pH (fHo (pH { H with ff:=r } (evF 3 0 0 ⟨gE,gI,gR,gD,gL⟩)) ((pH { H with ff:=r } (evF 3 0 0 ⟨gE,gI,gR,gD,gL⟩)).ff++[F])) (evF 2 0 0 F)) ((f1+1) % G.r1) f3 hs nm D w7):=hl7;have HF:Hid (frD G W w7):=HF.o.post ho7 hz7;clear hl7 HPO ho7 hz7;go_wp2_with fail;refine bN ?_
     exact⟨rfl,⟨_,by rw[HT.o];exact HL7.o⟩,HF.o⟩
   .obtain⟨q,hq⟩ : ∃ q:Nat,G.r1-H.ff.length=q+1:=⟨G.r1-H.ff.length-1,om⟩
    rw[hq];have hq0:(((q+1:Nat):Int) == 0)=false:=by simp;omega
    have HT:Hid (f9 H F=pH (fHo H (H.ff++[F])) (evF 2 0 0 F)):=by
     show _=_;rw[HD0.o,qa (by rw[he1];omega)]
    go_wp2_with fail;refine QJ (S:=fun X=>blk X W.heap.size [bO F.e,I Zk (F.i:Int),bO F.r,I J F.d,sL fa fm fc] 67) kr ?_;have hS:blk (World.drew w3) W.heap.size [bO F.e,I Zk (F.i:Int),bO F.r,I J F.d,sL fa fm fc] 67:=HP3.o.below (bW _ _).drew;have HLv:Hid (lh w0 G (H) f1 f3 hs nm D (World.drew w3)):=HL3.o.below (bW _ _).drew;have HF:Hid (frD G W (World.drew w3)):=HF.o.below (bW _ _).drew;change wpAnyH Tp _ _ _ _ _ _ _ (World.drew w3);generalize World.drew w3=v0 at *;refine wV 0 (pT (sQ ⟨G.P,0,nn⟩)) ?_ hS ?_
    .intro W hSw;clear hS;go_simp
    simp only[Act.put,aA,aB,aC,aD,aE];refine wV 1 (pT (sQ ⟨G.P,0,nn⟩)) ?_ hS ?_
    .intro W hSw;clear hS;go_simp
    simp only[aZ];refine wV 2 (pT (sQ ⟨G.P,7,nn⟩)) ?_ hS ?_
    .intro W hSw;clear hS;go_simp
    simp only[aZ];refine wU 3 (.agg [bO F.e,I Zk (F.i:Int),bO F.r,I J F.d,sL fa fm fc].toArray) rfl (QL (by rfl) 67 _ rfl W.heap.size 0 rfl [bO F.e,I Zk (F.i:Int),bO F.r,I J F.d,sL fa fm fc] _ (fun X h=>h.load) underlying67 rfl jc) hS ?_;simp only[aZ];refine QF (rs:=[4]) kr pQ ?_;refine Q8 rfl (fun K2 hK2=>?_) Q9;go_simp;have bA:Bl v0 (v0.alloc (.cells [bO F.e,I Zk (F.i:Int),bO F.r,I J F.d,sL fa fm fc].toArray 67)):=Zw;have hSA:blk (v0.alloc (.cells [bO F.e,I Zk (F.i:Int),bO F.r,I J F.d,sL fa fm fc].toArray 67)) W.heap.size [bO F.e,I Zk (F.i:Int),bO F.r,I J F.d,sL fa fm fc] 67:=hS.below bA;have HNB:Hid ((v0.alloc (.cells [bO F.e,I Zk (F.i:Int),bO F.r,I J F.d,sL fa fm fc].toArray 67)).heap[v0.heap.size]?=sQ (.cells [bO F.e,I Zk (F.i:Int),bO F.r,I J F.d,sL fa fm fc].toArray 67)):=QN v0 _;have HLB:Hid (lh w0 G (H) f1 f3 hs nm D (v0.alloc (.cells [bO F.e,I Zk (F.i:Int),bO F.r,I J F.d,sL fa fm fc].toArray 67))):=HLv.o.below bA;have HF:Hid (frD G W (v0.alloc (.cells [bO F.e,I Zk (F.i:Int),bO F.r,I J F.d,sL fa fm fc].toArray 67))):=HF.o.below bA;have HVZ:Hid (lhU G v0.heap.size):=HLv.o.lts;refine hK2.out _ _ hSA (fun hS2=>?_);clear hK2 K2 hSA hS bA HLv;have hS:=hS2;clear hS2;generalize (v0.alloc (.cells [bO F.e,I Zk (F.i:Int),bO F.r,I J F.d,sL fa fm fc].toArray 67))=v1 at *;generalize v0.heap.size=ib at *;refine QF (rs:=[5]) kr pQ ?_;refine Q8 rfl (fun K2 hK2=>?_) Q9;go_simp;refine (HLB.o.putF F fa fm fc HFB.o.1 HFB.o.2.1 om ib HNB.o ⟨by have:=HVZ.o.1;omega,by have:=HVZ.o.2.2.2.2.1;omega⟩).mono ?_;rintro o v2 ⟨rfl,hl2,ho2,hz2⟩;have hS5:blk v2 W.heap.size [bO F.e,I Zk (F.i:Int),bO F.r,I J F.d,sL fa fm fc] 67:=hS.kept (ho2 _ (by have:=HU.o.1;omega) (by have:=HU.o.2.2.2.2.1;omega) hS.lt);have HL4:Hid (lh w0 G (fHo (H) ((H).ff++[F])) f1 f3 hs nm D v2):=hl2;have HF:Hid (frD G W v2):=HF.o.put ho2 hz2;clear hl2 ho2 hz2;go_wp2_with fail;refine hK2.out _ _ hS5 (fun hS2=>?_);clear hK2 K2 hS5 hS HLB HNB;have HP4:Hid (blk v2 W.heap.size [bO F.e,I Zk (F.i:Int),bO F.r,I J F.d,sL fa fm fc] 67):=hS2;clear hS2;refine QH kr ?_ _;have HPO:Hid (Calls Tp 213 #[pT (sQ ⟨G.P,0,nn⟩),aG #[I J 2,I J 0,I J 0,bO F.e,I Zk (F.i:Int),bO F.r,I J F.d,sL fa fm fc]] v2 fun o w'=>o = rT (.tuple #[])/\lh w0 G (pH (fHo (H) ((H).ff++[F])) (evF 2 0 0 F)) f1 f3 hs nm D w'/\(∀ b,b≠G.P->b≠G.gq->b<v2.heap.size->w'.heap[b]?=v2.heap[b]?)/\v2.heap.size<=w'.heap.size):=HL4.o.post (evF 2 0 0 F) fa fm fc HFB.o.1 HFB.o.2.1;go_wp2_with (refine Zi 67 [bO F.e,I Zk (F.i:Int),bO F.r,I J F.d,sL fa fm fc] HP4.o.load underlying67 jc ?_);refine HPO.o.mono ?_;rintro o w7 ⟨rfl,hl7,ho7,hz7⟩;have HL7:Hid (lh w0 G (pH (fHo (H) ((H).ff++[F])) (evF 2 0 0 F)) f1 f3 hs nm D w7):=hl7;have HF:Hid (frD G W w7):=HF.o.post ho7 hz7;clear hl7 HPO ho7 hz7;go_wp2_with fail;refine bN ?_
    exact⟨rfl,⟨_,by rw[HT.o];exact HL7.o⟩,HF.o⟩
  .have hp':za H.fs F=false:=by simpa using hp
   rw[hp'];have HT:Hid (f9 H F=H):=by
    show _=_;unfold f9;rw[qa (by intro h;exact hp h.2)]
   go_wp2_with fail;refine bN ?_
   exact⟨rfl,⟨f1,by rw[HT.o];exact HL2.o⟩,HF.o⟩
 .have hv':vB F.e F.i F.r F.d fm=false:=by simpa using hv
  rw[hv'];have HT:Hid (f9 H F=H):=by
   show _=_;unfold f9;rw[qa (by intro h;rw[<- HFB.o.2.2] at h;exact hv h.1)]
  go_wp2_with fail;refine bN ?_
  exact⟨rfl,⟨f1,by rw[HT.o];exact HL1.o⟩,HF.o⟩
def mx.deliver {M:Nat} {C:Co} (h:mx w0 M G f1 f3 nm C W) (F:R5) (fa:Option Addr) (fm fc:Nat) (hf:iB G.u fa fm fc F.l) (hfm:fm<=1048576) (hc2:C.ho.c2=0\/C.ho.c2=1) :
  Calls Tp 234 #[pT (sQ ⟨G.P,0,nn⟩),frV F.e F.i F.r F.d fa fm fc] W fun o w'=>o = rT (.tuple #[])/\∃ f1',mx w0 M G f1' f3 nm { C with ho:=f9 C.ho F } w':=by
 obtain⟨hs,D,h⟩:=h;refine (JL h.h F fa fm fc hf hfm hc2).mono ?_;rintro o w' ⟨rfl,⟨f1',h1⟩,h2⟩;exact⟨rfl,f1',hs,D,h.m.kept (h2.1 M h.o.1 (by have:=h.o;omega) (by have:=h.o;omega) h.m.lt),h1,h.o,h.e⟩
end
def s7 (n:Int):Int:=max (n-1) 0
def Jb (w:World) (n:Int) (hn:0<=n/\n<=1000):Calls Tp 233 #[I J n] w fun o w'=>o = rT (I J (s7 n))/\w=w':=by
 go_enter func233,ntmps233;go_wp2;go_ret;exact⟨rfl,rfl⟩
def aw (C:Co) (k:Int) (F:R5):Co:=
 if k=1 then { C with ho:=Cz C.ho true,te:=s7 C.te,p:=5 }
 else if k=2 then { C with ho:=f9 C.ho F,re:=s7 (min C.re 128) }
 else if k=3 then { C with p:=5 }
 else if k=4 then ovC C
 else if k=5 then { C with ho:=Cz C.ho false,tx:=false }
 else C
def my (w0:World) (M:Nat) (G:Lg) (f3 nm:Nat) (C:Co) (W:World):Prop:=∃ f1,mx w0 M G f1 f3 nm C W
section
variable {w0 : World} {M : Nat} {G : Lg} {f1 f3 nm : Nat} {C : Co} {W : World}
def GN (h:mx w0 M G f1 f3 nm C W) (k:Int) (F:R5) (fa:Option Addr) (fm fc:Nat) (hf:iB G.u fa fm fc F.l) (hfm:fm<=1048576) (hc2:C.ho.c2=0\/C.ho.c2=1) (ht:0<=C.te/\C.te<=256) (hr:0<=C.re/\C.re<=255) (hwf:∀ j (hj:j<C.ho.bx.length),(Lit.int .i64 C.ho.bx[j].y).wf=true) :
  Calls Tp 211 #[pT (some ⟨M,0,none⟩),I J k,frV F.e F.i F.r F.d fa fm fc] W fun o w'=>o = rT (.tuple #[])/\my w0 M G f3 nm (aw C k F) w':=by
 have hb0:Bl W (W.alloc (.cells [bO F.e,I .u32 (F.i:Int),bO F.r,I J F.d,sL fa fm fc].toArray 67)):=Zw;have HF:Hid (blk (W.alloc (.cells [bO F.e,I .u32 (F.i:Int),bO F.r,I J F.d,sL fa fm fc].toArray 67)) W.heap.size [bO F.e,I .u32 (F.i:Int),bO F.r,I J F.d,sL fa fm fc] 67):=blk.new W _ 67;have H0:=DU (h.below hb0);have HWF:=DU hwf;have HBF:=DU hf;generalize hV:W.alloc (.cells [bO F.e,I .u32 (F.i:Int),bO F.r,I J F.d,sL fa fm fc].toArray 67)=V at *;have y0:=H0.o.m.cell 0 (pT (some ⟨G.P,0,none⟩)) rfl;have y3:=H0.o.m.cell 3 (I J C.p) rfl;have z3:=H0.o.m.free 3;clear h hb0 hwf hf;obtain⟨b1,e1,_,f1'⟩:=eqB k 1;obtain⟨b2,e2,_,f2⟩:=eqB k 2;obtain⟨b3,e3,_,f3'⟩:=eqB k 3;obtain⟨b4,e4,_,f4⟩:=eqB k 4;obtain⟨b5,e5,_,f5⟩:=eqB k 5;have n1:b1=false->¬ k=1:=fun e x=>by have:=f1'.o.2 x;rw[e] at this;cases this
 have n2:b2=false->¬ k=2:=fun e x=>by have:=f2.o.2 x;rw[e] at this;cases this
 have n3:b3=false->¬ k=3:=fun e x=>by have:=f3'.o.2 x;rw[e] at this;cases this
 have n4:b4=false->¬ k=4:=fun e x=>by have:=f4.o.2 x;rw[e] at this;cases this
 have n5:b5=false->¬ k=5:=fun e x=>by have:=f5.o.2 x;rw[e] at this;cases this
 cases b1;case true=>
  have HR:Hid (aw C k F = { C with ho:=Cz C.ho true,te:=s7 C.te,p:=5 }):=by show _=_;unfold aw;rw[qc (f1'.o.1 rfl)]
  have HS:Hid (∀ X,Calls Tp 233 #[I J C.te] X fun o w'=>o = rT (I J (s7 C.te))/\X=w'):=fun X=>Jb X _ ⟨ht.1,om⟩;clear n1 n2 n3 n4 n5 f1' f2 f3' f4 f5 e2 e3 e4 e5;go_enter func211,ntmps211;try rw[hV]
  go_wp2_with fail;refine (H0.o.release true HWF.o).mono ?_;rintro o w1 ⟨rfl,h1⟩;have H1:=DU h1;have y1:=h1.m.cell 1 (I J C.te) rfl;have z1:=h1.m.free 1;have x3:=h1.m.cell 3 (I J C.p) rfl;have w3:=h1.m.free 3;clear h1 y0 y3 z3 H0 HF hV;go_wp2_with (go_at_call 233;refine (HS.o _).mono ?_;rintro o w2 ⟨rfl,rfl⟩);refine bN ?_
  refine⟨rfl,f1,?_⟩;rw[HR.o];exact (H1.o.set 1 (I J (s7 C.te)) { C with ho:=Cz C.ho true,te:=s7 C.te } rfl rfl).set 3 (I J 5) _ rfl rfl
 cases b2;case true=>
  have HR:Hid (aw C k F = { C with ho:=f9 C.ho F,re:=s7 (min C.re 128) }):=by show _=_;unfold aw;rw[qa (n1 rfl),qc (f2.o.1 rfl)]
  have HS:Hid (∀ X,Calls Tp 233 #[I J (min C.re 128)] X fun o w'=>o = rT (I J (s7 (min C.re 128)))/\X=w'):=fun X=>Jb X _ ⟨om,om⟩;clear n1 n2 n3 n4 n5 f1' f2 f3' f4 f5 e3 e4 e5;go_enter func211,ntmps211;try rw[hV]
  go_wp2_with fail;refine wp_region_still_tail 6 kr kr ?_;have H1:=DU (H0.o.below (bW _ _).drew);have HF1:=DU (HF.o.below (bW _ _).drew);change wpStill Tp _ (World.drew V) (fun a'=>wpList Tp _ _ _ a' (World.drew V)) _ _;have x0:=H1.o.m.cell 0 (pT (some ⟨G.P,0,none⟩)) rfl;clear H0 HF hV y0 y3 z3;generalize World.drew V=v0 at *;simp only[List.take_succ_cons,List.take_zero,List.drop_succ_cons,List.drop_zero];still_step
  still_step
  still_step
  still_step
  still_step
  refine wF (by rfl) 67 _ rfl W.heap.size 0 rfl [bO F.e,I .u32 (F.i:Int),bO F.r,I J F.d,sL fa fm fc] _ HF1.o.load underlying67 rfl jc ?_;refine wpStill_nil ?_;go_wp2_with fail;refine (H1.o.deliver F fa fm fc HBF.o hfm hc2).mono ?_;rintro o w1 ⟨rfl,f1n,h1⟩;have H2:=DU h1;have y2:=h1.m.cell 2 (I J C.re) rfl;have z2:=h1.m.free 2;clear h1 x0 H1 HF1;go_wp2_with (go_at_call 233;refine (HS.o _).mono ?_;rintro o w2 ⟨rfl,rfl⟩);refine bN ?_
  refine⟨rfl,f1n,?_⟩;rw[HR.o];exact H2.o.set 2 (I J (s7 (min C.re 128))) _ rfl rfl
 cases b3;case true=>
  have HR:Hid (aw C k F = { C with p:=5 }):=by show _=_;unfold aw;rw[qa (n1 rfl),qa (n2 rfl),qc (f3'.o.1 rfl)]
  clear n1 n2 n3 n4 n5 f1' f2 f3' f4 f5 e4 e5;go_enter func211,ntmps211;try rw[hV]
  go_wp2_with fail;refine bN ?_
  refine⟨rfl,f1,?_⟩;rw[HR.o];exact H0.o.set 3 (I J 5) _ rfl rfl
 cases b4;case true=>
  have HR:Hid (aw C k F=ovC C):=by show _=_;unfold aw;rw[qa (n1 rfl),qa (n2 rfl),qa (n3 rfl),qc (f4.o.1 rfl)]
  clear n1 n2 n3 n4 n5 f1' f2 f3' f4 f5 e5;go_enter func211,ntmps211;try rw[hV]
  go_wp2_with fail;refine (Gw H0.o).mono ?_;rintro o w1 ⟨rfl,h1⟩;have H1:=DU h1;clear h1;go_wp2_with fail;refine bN ?_
  exact⟨rfl,f1,by rw[HR.o];exact H1.o⟩
 cases b5;case true=>
  have HR:Hid (aw C k F = { C with ho:=Cz C.ho false,tx:=false }):=by show _=_;unfold aw;rw[qa (n1 rfl),qa (n2 rfl),qa (n3 rfl),qa (n4 rfl),qc (f5.o.1 rfl)]
  clear n1 n2 n3 n4 n5 f1' f2 f3' f4 f5;go_enter func211,ntmps211;try rw[hV]
  go_wp2_with fail;refine (H0.o.release false HWF.o).mono ?_;rintro o w1 ⟨rfl,h1⟩;have H1:=DU h1;have y9:=h1.m.cell 9 (bO C.tx) rfl;have z9:=h1.m.free 9;clear h1 y0 y3 z3 H0 HF hV;go_wp2_with fail;refine bN ?_
  refine⟨rfl,f1,?_⟩;rw[HR.o];exact H1.o.set 9 (bO false) _ rfl rfl
 have HR:Hid (aw C k F=C):=by show _=_;unfold aw;rw[qa (n1 rfl),qa (n2 rfl),qa (n3 rfl),qa (n4 rfl),qa (n5 rfl)]
 clear n1 n2 n3 n4 n5 f1' f2 f3' f4 f5;go_enter func211,ntmps211;try rw[hV]
 go_wp2_with fail;refine bN ?_
 exact⟨rfl,f1,by rw[HR.o];exact H0.o⟩
end
section
variable {w0 : World} {M : Nat} {G : Lg} {f1 f3 nm : Nat} {C : Co} {W : World} {p : Nat -> Bool}
def lv (M:Nat) (G:Lg) (q:Nat):Bool:=q == M || (q == G.P || (q == G.mb || (q == G.gb || (q == G.gr || q == G.gq))))
def KV {q:Nat} (h1:q≠M) (h:q≠G.P/\q≠G.mb/\q≠G.gb/\q≠G.gr/\q≠G.gq):lv M G q=false:=by
 unfold lv;simp[h1,h.1,h.2.1,h.2.2.1,h.2.2.2.1,h.2.2.2.2]
def bln (W:World) (p:Nat->Bool):World:={ W with heap:=W.heap.mapIdx fun i o=>if p i then .cells #[] 0 else o }
def Li (q:Nat):(bln W p).heap[q]?=(W.heap[q]?).map fun o=>if p q then .cells #[] 0 else o:=by
 unfold bln;simp[Array.getElem?_mapIdx]
def GF {q:Nat} (h:p q=false):(bln W p).heap[q]?=W.heap[q]?:=by
 rw[Li];simp[h]
def Hz {q:Nat} (h:p q=true):GQ (bln W p) q:=fun i=>by
 simp only[World.cell?];rw[Li,h];cases W.heap[q]? <;> simp
def LS:kpt (bln W p) W:=by
 refine⟨by unfold bln;simp,fun q i x hx=>?_⟩;cases e:p q
 .exact (GF e).symm
 .rw[Hz e i] at hx;cases hx
def GY {u:World} {a:Option Addr} {n c:Nat} {l:List Nat} (h:iB u a n c l) (k:kpt u W) (hl:∀ q,p q=true->∀ i j,u.cell? ⟨q,i,none⟩≠some (I .u8 j)):iB (bln W p) a n c l:=by
 refine⟨h.len,h.cap,h.small,fun hne=>?_⟩;obtain⟨g,off,ha,hc⟩:=h.cells hne;refine⟨g,off,ha,fun j hj=>?_⟩;have h1:=hc j hj;have h2:=k.2 g (off+j) _ h1;have h3:p g=false:=by
  cases e:p g
  .rfl
  .exact Qy h1 (hl g e _ _)
 rw[<- h1];simp only[World.cell?,GF h3,h2]
def mx.holes (h:mx w0 M G f1 f3 nm C W):∀ q,lv M G q=true->GQ G.u q:=by
 obtain⟨_,_,h⟩:=h;intro q hq;obtain⟨u1,u2,u3,u4,u5⟩:=h.h.d.u;unfold lv at hq;simp only[Bool.or_eq_true,beq_iff_eq] at hq;rcases hq with rfl|rfl|rfl|rfl|rfl|rfl
 .exact h.e
 all_goals assumption
def mx.base (h:mx w0 M G f1 f3 nm C W) (p:Nat->Bool) (hp:∀ q,lv M G q=true->p q=true) (hl:∀ q,p q=true->∀ i j,G.u.cell? ⟨q,i,none⟩≠some (I .u8 j)):mx w0 M { G with u:=bln W p } f1 f3 nm C W:=by
 obtain⟨hs,D,h⟩:=h;have hk:=h.h.k;have ho:∀ q,lv M G q=true->GQ (bln W p) q:=fun q hq=>Hz (hp q hq);refine⟨hs,D,h.m,⟨h.h.p,h.h.f,h.h.x,fun i hi=>?_,h.h.rz,fun i hi=>?_,h.h.qz,h.h.m,h.h.b,h.h.hi,⟨h.h.d.p,h.h.d.m,h.h.d.g,h.h.d.lo,⟨ho _ (by simp[lv]),ho _ (by simp[lv]),ho _ (by simp[lv]),ho _ (by simp[lv]),ho _ (by simp[lv])⟩,fun a n c l q=>GY (h.h.d.wu a n c l q) hk hl⟩,⟨h.h.bd.e1,h.h.bd.e3,h.h.bd.m1,h.h.bd.m2,h.h.bd.nk,h.h.bd.b1,h.h.bd.b3,h.h.bd.lo,h.h.bd.s3,h.h.bd.s4⟩,LS⟩,h.o,ho M (by simp[lv])⟩
 .obtain⟨ao,m,c,h1,h2⟩:=h.h.r i hi;exact⟨ao,m,c,h1,GY h2 hk hl⟩
 .obtain⟨ao,m,c,h1,h2⟩:=h.h.q i hi;exact⟨ao,m,c,h1,GY h2 hk hl⟩
def mx.base0 (h:mx w0 M G f1 f3 nm C W):mx w0 M { G with u:=bln W (lv M G) } f1 f3 nm C W:=h.base _ (fun _ h=>h) fun q hq i j e=>by
 rw[h.holes q hq i] at e;cases e
def mx.sight (h:mx w0 M G f1 f3 nm C W) (s:Nat->Value):mx w0 M { G with s:=s } f1 f3 nm C (W.setCells M 12 (sgF s)):=by
 obtain⟨hs,D,h⟩:=h;refine⟨hs,D,?_,?_,h.o,h.e⟩
 .have h':blk W M (mcH G.P C++sgF G.s++prL) 147:=by
   have:=h.m;unfold mcS at this;rwa [<- qp] at this
  have:=blk.put (mcH G.P C) (sgF G.s) prL (sgF s) h' rfl;unfold mcS;rw[<- qp];exact this
 .exact (h.h.other M h.o (fun q hq=>sO _ q hq _ _ _) (sZ ..) (sW h.o.2.2.2.2.2.2 12 _ h.h.b) h.e).re s
def mx.stay (h:mx w0 M G f1 f3 nm C W) {R:Nat} {L:List Value} {T:TypeId} {x:Value} (hR:blk G.u R (x :: L) T):blk W R (x :: L) T:=by
 obtain⟨_,_,h⟩:=h;exact (h.h.k.2 R 0 x (hR.cell 0 x rfl)).trans hR
def mx.heard (h:mx w0 M G f1 f3 nm C W) {R:Nat} {hd:ByteArray} {T:TypeId} {a:Option Addr} (hR:blk W R [.pointer a,.string hd] T) (hn:R≠M) (hU:G.P<R/\G.mb<R/\G.gf<R/\G.gb<R/\G.gr<R/\G.gq<R) (v:Value):∃ G',mx w0 M G' f1 f3 nm C (W.setCell ⟨R,1,none⟩ v):=by
 have hh:=h.holes;have hk:kpt G.u W:=by obtain⟨_,_,q⟩:=h;exact q.h.k
 have h1:=h.base (fun q=>lv M G q || q == R) (fun q hq=>by simp[hq]) fun q hq i j e=>by
  simp only[Bool.or_eq_true,beq_iff_eq] at hq;rcases hq with hq|rfl
  .rw[hh q hq i] at e;cases e
  .have h2:=hk.2 q i _ e;have h3:W.cell? ⟨q,i,none⟩=some (I .u8 j):=by
    rw[<- e];simp only[World.cell?,h2]
   unfold blk at hR;simp only[World.cell?,hR] at h3;match i with
   | 0=>simp at h3
   | 1=>simp at h3
   | (k+2)=>simp at h3
 refine⟨{ G with u:=bln W fun q=>lv M G q || q == R },?_⟩;obtain⟨hs,D,h2⟩:=h1;obtain⟨b1,b2,b3,b4,b5,b6⟩:=hU;have hlo:=h2.h.d.lo;have ha:R≠G.P/\R≠G.mb/\R≠G.gf/\R≠G.gb/\R≠G.gr/\R≠G.gq/\w0.heap.size<=R:=⟨om,om,om,om,om,om,by have:=hlo.2.1;simp only at this;omega⟩
 exact⟨hs,D,h2.m.setOther (Ne.symm hn) _ _,h2.h.other R ha (fun q hq=>QA W ⟨R,1,none⟩ q _ hq) pQ (h2.h.b.setCell (by exact ha.2.2.2.2.2.2) _) (Hz pQ),h2.o,h2.e⟩
end
end Go.Proofs.YtgfolecanghhhaaGreat
