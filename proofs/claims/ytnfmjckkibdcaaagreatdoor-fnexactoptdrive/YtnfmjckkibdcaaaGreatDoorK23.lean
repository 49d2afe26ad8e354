import Derived.Test.YtnfmjckkibdcaaaGreatDoorProg
import Derived.WalkKit
import Derived.WalkSpells
import Derived.WalkLawsBesides
import Derived.Deep.QuietTactic
import Derived.BigQuiet
import Derived.Lib.OthersKept
import Derived.Laws.IdiomStrings
import Derived.Deep.RegionWith
import Derived.Deep.RegionHeld3
import Derived.Test.YtnfmjckkibdcaaaGreatDoorK15
import Derived.Maps.AppendAt
namespace Go.Proofs.YtnfmjckkibdcaaaGreatDoor
set_option linter.all false
structure Sim (k:Wk) (S:Sc):Prop where
 inv:k.Inv
 f:S.f=k.field
 lf:S.lf=(k.fsize k.field:Int)-k.taken
 run:2<=k.field->k.field<=11->S.rn=k.last.2/\S.lv+48=k.last.1/\(S.lv=0\/S.lv=1)/\1<=k.last.2/\k.last.2<=5
 run0:k.field=1\/12<=k.field->S.rn=0/\S.lv=0
 one:k.field=1->k.last=(0,0)
 cr:S.cr=k.sum
 ac:S.ac=k.crc
 e:S.e=k.ext
 i:S.i=k.id
 r:k.field≠5->k.field≠6->S.r=k.rtr
 d:S.d=k.dlc
 l:S.l=k.data
def Sim.init:Sim Wk.init ⟨1,1,0,0,0,0,false,0,false,0,[]⟩:=by
 refine⟨ro,rfl,?_,?_,fun _=>⟨rfl,rfl⟩,fun _=>rfl,rfl,rfl,rfl,rfl,fun _ _=>rfl,rfl,rfl⟩
 .simp[Wk.init,Wk.fsize]
 .simp[Wk.init]
def Sim.code {k:Wk} {S:Sc} (h:Sim k S) (c:Nat):Sim { k with code:=c } S:=
 ⟨rp h.inv c,h.f,h.lf,h.run,h.run0,h.one,h.cr,h.ac,h.e,h.i,h.r,h.d,h.l⟩
def nV (k:Wk) (f:Nat) (h9:f=9->k.rtr=false):(k.fsize f:Int)=bh f k.ext k.dlc:=by
 unfold Wk.fsize bh Wk.dlen;by_cases q:f=9
 .subst q;rw[h9 rfl];simp;split <;> omega
 .simp[q];have h1:((f:Int)=2)↔f=2:=om;have h2:((f:Int)=5)↔f=5:=om;have h3:((f:Int)=7)↔f=7:=om;have h4:((f:Int)=8)↔f=8:=om;have h5:((f:Int)=10)↔f=10:=om;have h6:((f:Int)=14)↔f=14:=om;have h7:((f:Int)=9)↔f=9:=om;simp only[h1,h2,h3,h4,h5,h6,h7,zb q];repeat' split
  all_goals first | rfl | omega
def Au (k:Wk) (f:Nat):(k.fafter f:Int)=ai f k.ext k.rtr k.dlc:=by
 unfold Wk.fafter ai Wk.dlen;have h1:((f:Int)=4)↔f=4:=om;have h2:((f:Int)=8)↔f=8:=om;simp only[h1,h2];by_cases c4:f=4/\k.ext=false
 .rw[zc c4,zc c4];rfl
 .rw[zb c4,zb c4];by_cases c8:f=8
  .cases hr:k.rtr <;> simp[c8] <;> split <;> rfl
  .simp[c8]
def Dr {k:Wk} (h:k.Inv) (h9:k.field=9):k.rtr=false/\k.dlc≠0:=by
 have ht:=h.tk;rw[h9] at ht;unfold Wk.fsize Wk.dlen at ht;simp at ht;cases hr:k.rtr
 .rw[hr] at ht;simp at ht;exact⟨rfl,om⟩
 .rw[hr] at ht;simp at ht
def Inv.id29 {k:Wk} (h:k.Inv):k.id<536870912:=by
 refine nL h.idb (pK _ ?_);have:=h.tk;have:=rD k k.field;repeat' split
 all_goals try omega
 all_goals (rename_i h5;rw[h5] at this;unfold Wk.fsize at *;simp_all;try omega)
def Inv.dlc15 {k:Wk} (h:k.Inv):k.dlc<=15:=by
 have hb:=h.dlb;have ht:=h.tk;have:2 ^ (if k.field<8 then 0 else if k.field=8 then k.taken else 4)<=2 ^ 4:=by
  refine qt (by decide) ?_;repeat' split
  .omega
  .rename_i h8;rw[h8] at ht;unfold Wk.fsize at ht;simp at ht;omega
  .omega
 omega
def Inv.crc15 {k:Wk} (h:k.Inv):k.crc<=32767:=by
 have hb:=h.crb;have ht:=h.tk;have:2 ^ (if k.field<10 then 0 else if k.field=10 then k.taken else 15)<=2 ^ 15:=by
  refine qt (by decide) ?_;repeat' split
  .omega
  .rename_i h8;rw[h8] at ht;unfold Wk.fsize at ht;simp at ht;omega
  .omega
 omega
def Sim.due {k:Wk} {S:Sc} (h:Sim k S):k.due=decide (S.rn=5):=by
 have f1:=h.inv.f1;have f2:=h.inv.f2;unfold Wk.due;by_cases h12:12<=k.field
 .have:=(h.run0 (qy h12)).1;rw[this];have:¬ k.field<=11:=om;simp[this]
 .by_cases h1:k.field=1
  .have:=(h.run0 (qr h1)).1;rw[this,h.one h1];simp
  .have hr:=(h.run om om).1;have hf:k.field<=11:=om;rw[hr];simp[hf];omega
def Sim.ok {k:Wk} {S:Sc} (h:Sim k S):okS S:=by
 have f1:=h.inv.f1;have f2:=h.inv.f2;have ht:=h.inv.tk;have hsz:S.lf<=bh S.f S.e S.d:=by
  rw[h.lf,h.f,h.e,h.d,<- nV k k.field (fun h9=>(Dr h.inv h9).1)];omega
 have hid:=Inv.id29 h.inv;have hdl:=Inv.dlc15 h.inv;have hcr:=Inv.crc15 h.inv;have hrun:0<=S.rn/\S.rn<=5/\0<=S.lv/\S.lv<=1/\¬ (S.rn=0/\S.lv=1)/\((S.f=1\/11<S.f)↔S.rn=0):=by
  rw[h.f];by_cases h12:k.field=1\/12<=k.field
  .obtain⟨e1,e2⟩:=h.run0 h12;rw[e1,e2];refine⟨om,om,om,om,om,?_⟩;constructor
   .intro;rfl
   .intro;omega
  .obtain⟨e1,e2,e3,e4,e5⟩:=h.run om om;rw[e1];refine⟨om,om,om,om,om,?_⟩;constructor
   .intro;omega
   .intro;omega
 obtain⟨r1,r2,r3,r4,r5,r6⟩:=hrun;have hsm:=h.inv.sm;refine⟨by rw[h.f];omega,by rw[h.f];omega,by rw[h.i];exact hid,by rw[h.d];omega,by rw[h.d];omega,by rw[h.l];exact h.inv.dal,by rw[h.lf];omega,hsz,r1,r2,r3,r4,r5,r6,by rw[h.cr];omega,by rw[h.cr];omega,by rw[h.ac];omega,by rw[h.ac];omega,fun h9=>?_⟩;have h9':k.field=9:=by have:=h.f;omega
 obtain⟨q1,q2⟩:=Dr h.inv h9';refine⟨by rw[h.r om om];exact q1,by rw[h.d];omega,?_⟩;rw[h.lf,h.f,h.e,h.d,<- nV k k.field (fun _=>q1),h.l,h.inv.dat h9'];omega
def Sim.verd {k:Wk} {S:Sc} (h:Sim k S) (b:Nat) (hb:b<2):(k.plainCode b:Int)=bL S.f S.lf S.cr S.ac b:=by
 have f1:=h.inv.f1;have f2:=h.inv.f2;have ht:=h.inv.tk;rw[h.f,h.lf,h.cr,h.ac];unfold Wk.plainCode bL Wk.form Wk.crcOk Wk.eofCode Wk.form;have hb':b=0\/b=1:=om;by_cases h14:k.field=14
 .have e7:k.fsize k.field=7:=by rw[h14];rfl
  rw[e7] at ht ⊢;rw[h14];rcases hb' with rfl|rfl
  .simp;split <;> split <;> omega
  .simp;repeat' split
   all_goals omega
 .have h14':¬ ((k.field:Int)=14):=om;by_cases h13:k.field=13
  .rw[h13];rcases hb' with rfl|rfl
   .simp
   .simp;split <;> split <;> simp_all <;> omega
  .by_cases h11:k.field=11
   .rw[h11];rcases hb' with rfl | rfl <;> simp
   .by_cases h1:k.field=1
    .rw[h1];rcases hb' with rfl | rfl <;> simp
    .have q1:¬ ((k.field:Int)=1):=om;have q2:¬ ((k.field:Int)=11):=om;have q3:¬ ((k.field:Int)=13):=om;simp[h1,h11,h13,h14,q1,q2,q3,h14']
set_option maxHeartbeats 16000000
def dL (r b:Nat):M.dM r b=M.dM r b:=rfl
structure Pre (k:Wk) (S:Sc):Prop where
 f:S.f=k.field
 lf:S.lf=(k.fsize k.field:Int)-k.taken
 cr:S.cr=k.sum
 ac:S.ac=k.crc
 e:S.e=k.ext
 i:S.i=k.id
 r:k.field≠5->(k.field=4->k.ext=false)->S.r=k.rtr
 d:S.d=k.dlc
 l:S.l=k.data
def BT (da:List Nat) (tk:Nat) (lf:Int) (b:Nat) (hb:b<2) (h8:lf % 8=0↔tk % 8=0):cx da lf b=cY da tk b:=by
 unfold cx cY;by_cases h:tk % 8=0
 .rw[zc h,zc (h8.2 h)]
 .rw[zb h,zb (fun q=>h (h8.1 q))];congr 1;omega
def Sim.pre {k:Wk} {S:Sc} (h:Sim k S) (b:Nat) (hb:b<2):Pre ((k.heard (48+b)).keep b) (ax (bK (bJ (ay S b) b) b) b):=by
 have f1:=h.inv.f1;have f2:=h.inv.f2;have ht:=h.inv.tk;have hid:=h.inv.idb;have hdl:=h.inv.dlb;have hcr:=h.inv.crb;have h9:=fun q=>(Dr h.inv q)
 obtain⟨_,h1,h2,_,_,_,h3,h4,h5,h6,h7,h8,h10⟩:=h;obtain⟨fd,tk,la,su,cc,ex,id,rt,dc,da,co⟩:=k;obtain⟨f,lf,rn,lv,cr,ac,e,i,r,d,l⟩:=S;simp only[] at *;subst h1 h2 h3 h4 h5 h6 h8 h10;have hb':b=0\/b=1:=om;have hf:fd=1\/fd=2\/fd=3\/fd=4\/fd=5\/fd=6\/fd=7\/fd=8\/fd=9\/fd=10\/fd=11\/fd=12\/fd=13\/fd=14:=om;rcases hf with rfl|rfl|rfl|rfl|rfl|rfl|rfl|rfl|rfl|rfl|rfl|rfl|rfl|rfl
 .constructor <;> simp_all [Wk.heard,Wk.keep,Wk.keep1,ay,bJ,bK,ax,dL,Wk.fsize]
 .have q:2*i+b<536870912:=by
   simp[Wk.fsize] at ht hid;have:2 ^ tk<=2 ^ 10:=qt (by decide) om;omega
  have q2:(2*i+b) % 536870912=2*i+b:=Qp q;clear hid;constructor <;> simp_all [Wk.heard,Wk.keep,Wk.keep1,ay,bJ,bK,ax,dL,Wk.fsize]
 .constructor <;> rcases hb' with rfl | rfl <;> simp_all [Wk.heard,Wk.keep,Wk.keep1,ay,bJ,bK,ax,dL,Wk.fsize]
 .constructor <;> rcases hb' with rfl | rfl <;> simp_all [Wk.heard,Wk.keep,Wk.keep1,ay,bJ,bK,ax,dL,Wk.fsize]
 .have q:2*i+b<536870912:=by
   simp[Wk.fsize] at ht hid;have:2 ^ (11+tk)<=2 ^ 28:=qt (by decide) om;omega
  have q2:(2*i+b) % 536870912=2*i+b:=Qp q;clear hid;constructor <;> simp_all [Wk.heard,Wk.keep,Wk.keep1,ay,bJ,bK,ax,dL,Wk.fsize]
 .constructor <;> rcases hb' with rfl | rfl <;> simp_all [Wk.heard,Wk.keep,Wk.keep1,ay,bJ,bK,ax,dL,Wk.fsize]
 .constructor <;> simp_all [Wk.heard,Wk.keep,Wk.keep1,ay,bJ,bK,ax,dL,Wk.fsize]
 .have q:2*dc+b<16:=by
   simp[Wk.fsize] at ht hdl;have:2 ^ tk<=2 ^ 3:=qt (by decide) om;omega
  have q2:(2*(dc:Int)+b) % 16=2*dc+b:=om;clear hdl;constructor <;> simp_all [Wk.heard,Wk.keep,Wk.keep1,ay,bJ,bK,ax,dL,Wk.fsize]
 .have hr:=(h9 rfl).1;subst hr;have q:=BT l tk (((Wk.mk 9 tk la su cc e i false dc l co).fsize 9:Nat)-tk) b hb (by simp[Wk.fsize];omega);constructor <;> simp_all [Wk.heard,Wk.keep,Wk.keep1,ay,bJ,bK,ax,dL,Wk.fsize,Wk.dlen]
 .have q:2*cc+b<32768:=by
   simp[Wk.fsize] at ht hcr;have:2 ^ tk<=2 ^ 14:=qt (by decide) om;omega
  have q2:(2*(cc:Int)+b) % 32768=2*cc+b:=om;clear hcr;constructor <;> simp_all [Wk.heard,Wk.keep,Wk.keep1,ay,bJ,bK,ax,Wk.fsize]
 all_goals constructor <;> simp_all [Wk.heard,Wk.keep,Wk.keep1,ay,bJ,bK,ax,Wk.fsize]
def zJ (S:Sc) (b:Nat):(ax (bK (bJ (ay S b) b) b) b).rn=(ay S b).rn/\(ax (bK (bJ (ay S b) b) b) b).lv=(ay S b).lv:=by
 unfold ax bK bJ;repeat' split
 all_goals exact⟨rfl,rfl⟩
def yQ (T:Sc):(cX T).rn=T.rn/\(cX T).lv=T.lv:=by
 unfold cX;split <;> exact⟨rfl,rfl⟩
def Sim.hear {k:Wk} {S:Sc} (h:Sim k S) (b:Nat) (hb:b<2) (hnd:S.rn≠5) (h10:k.field<=10) :
  (ay S b).rn=(M.C0 k.last (48+b)).2/\(ay S b).lv+48=(M.C0 k.last (48+b)).1/\((ay S b).lv=0\/(ay S b).lv=1)/\1<=(M.C0 k.last (48+b)).2/\(M.C0 k.last (48+b)).2<=5:=by
 have f1:=h.inv.f1;have hf:=h.f;have e:ay S b = { S with rn:=if 0<S.rn/\(b:Int)=S.lv then S.rn+1 else 1,lv:=b }:=by
  unfold ay;rw[zb om]
 rw[e];simp only[];by_cases h1:k.field=1
 .obtain⟨e1,e2⟩:=h.run0 (qr h1);have e3:=h.one h1;rw[e1,e2,e3];unfold M.C0;simp;omega
 .obtain⟨e1,e2,e3,e4,e5⟩:=h.run om om;unfold M.C0;by_cases hc:(b:Int)=S.lv
  .have q1:48+b=k.last.1:=om;rw[zc ⟨om,hc⟩,zc q1];refine⟨?_,?_,om,?_,?_⟩ <;> simp only[] <;> omega
  .have q1:¬ 48+b=k.last.1:=om;rw[zb (by intro q;exact hc q.2),zb q1];refine⟨?_,?_,om,?_,?_⟩ <;> simp only[] <;> omega
def Sim.step {k:Wk} {S:Sc} (h:Sim k S) (b:Nat) (hb:b<2) (hnd:S.rn≠5) (hg:k.plainCode b=0\/k.plainCode b=1):Sim (((k.heard (48+b)).keep b).adv) (fV S b):=by
 have hinv:(((k.heard (48+b)).keep b).adv).Inv:=uW (k.heard (48+b)) b hb (iz h.inv _) hg;have hp:=h.pre b hb;have f1:=h.inv.f1;have f2:=h.inv.f2;have ht:=h.inv.tk;have hkf:((k.heard (48+b)).keep b).field=k.field:=fC _ _;have hkt:((k.heard (48+b)).keep b).taken=k.taken:=gE _ _;have hkl:((k.heard (48+b)).keep b).last=M.C0 k.last (48+b):=jI _ _;have hdan:k.field<9->((k.heard (48+b)).keep b).data=[]:=by
  intro q;have:=h.inv.dan q;unfold Wk.keep Wk.keep1 Wk.heard;repeat' split
  all_goals first | exact this | (exfalso;simp_all;done) | (exfalso;simp_all;omega)
 have hrun:=fun q=>h.hear b hb hnd q;obtain⟨r1,r2⟩:=zJ S b;have hst:fV S b=cX (ax (bK (bJ (ay S b) b) b) b):=rfl;obtain⟨n1,n2⟩:=yQ (ax (bK (bJ (ay S b) b) b) b);have h14:k.field=14->k.taken<6:=by
  intro q;have e7:k.fsize k.field=7:=by rw[q];rfl
  rcases Nat.lt_or_ge k.taken 6 with q6|q6
  .exact q6
  .have e6:k.taken=6:=om;exfalso;unfold Wk.plainCode Wk.eofCode at hg;rw[q,e6] at hg;rcases (by omega:b=0\/b=1) with rfl | rfl <;> simp at hg
 have hhi:11<=k.field->(ay S b).rn=0/\(ay S b).lv=0:=by
  intro q;have:=h.f;unfold ay;rw[zc om];exact⟨rfl,rfl⟩
 rw[hst];generalize ax (bK (bJ (ay S b) b) b) b=T at *;generalize (k.heard (48+b)).keep b=k' at *;obtain⟨pf,plf,pcr,pac,pe,pi,pr,pd,pl⟩:=hp;rw[r1] at n1;rw[r2] at n2;have hsz:k'.fsize k'.field=k'.taken+1\/k'.taken+1<k'.fsize k'.field:=by
  have:=hinv.tk;unfold Wk.adv at this;by_cases q:k'.taken+1=k'.fsize k'.field
  .exact qr q.symm
  .rw[zb q] at this;right;exact this
 rcases hsz with hs|hs
 .have hl1:T.lf=1:=by rw[plf,hs];omega
  have e1:k'.adv = { k' with field:=k'.fafter k'.field,taken:=0 }:=by unfold Wk.adv;rw[zc hs.symm]
  have e2:cX T = { T with f:=ai T.f T.e T.r T.d,lf:=bh (ai T.f T.e T.r T.d) T.e T.d,l:=if ai T.f T.e T.r T.d=9 then [] else T.l }:=by unfold cX;rw[zc hl1]
  have hfld:k'.field≠14:=by
   intro q;have e7:k'.fsize k'.field=7:=by rw[q];rfl
   have:=h14 om;omega
  have haf:(k'.fafter k'.field:Int)=ai T.f T.e T.r T.d:=by
   rw[Au,pf,pe,pd];by_cases q8:k'.field=8
   .rw[pr om om]
   .unfold ai;have:¬ ((k'.field:Int)=8):=om;simp[this]
  have hafb:k'.field<k'.fafter k'.field/\k'.fafter k'.field<=14:=by
   unfold Wk.fafter;repeat' split
   all_goals omega
  have h9:k'.fafter k'.field=9->k'.field=8/\k'.rtr=false:=by
   unfold Wk.fafter;intro q;by_cases c4:k'.field=4/\k'.ext=false
   .rw[zc c4] at q;omega
   rw[zb c4] at q;by_cases c8:k'.field=8/\k'.dlen=0
   .rw[zc c8] at q;omega
   rw[zb c8] at q;refine⟨om,?_⟩;cases hr:k'.rtr
   .rfl
   .exact Qz ⟨om,by unfold Wk.dlen;rw[hr];simp⟩ c8
  rw[e1] at hinv ⊢;rw[e2] at n1 n2 ⊢;simp only[] at n1 n2;refine⟨hinv,haf.symm,?_,?_,?_,?_,pcr,pac,pe,pi,?_,pd,?_⟩
  .simp only[];rw[<- haf,pe,pd];have:=nV k' (k'.fafter k'.field) (fun q=>(h9 q).2);have e3:({ k' with field:=k'.fafter k'.field,taken:=0 }:Wk).fsize (k'.fafter k'.field)=k'.fsize (k'.fafter k'.field):=rfl;rw[e3,this];simp
  .simp only[];intro q1 q2;have h10:k.field<=10:=by
    rcases Nat.lt_or_ge 10 k.field with q|q
    .omega
    .exact q
   rw[n1,n2,hkl];exact hrun h10
  .simp only[];intro q;have h11:11<=k.field:=by
    rcases q with q|q
    .omega
    .rcases Nat.lt_or_ge k.field 11 with q3|q3
     .exfalso;have:k'.fafter k'.field<=11:=by
       unfold Wk.fafter;repeat' split
       all_goals omega
      omega
     .exact q3
   rw[n1,n2];exact hhi h11
  .simp only[];intro q;omega
  .simp only[];intro q1 q2;refine pr ?_ ?_
   .intro q5;apply q2;unfold Wk.fafter;simp[q5]
   .intro q4;cases he:k'.ext
    .rfl
    .exfalso;apply q1;unfold Wk.fafter;simp[q4,he]
  .simp only[];rw[<- haf];by_cases q:k'.fafter k'.field=9
   .have:((k'.fafter k'.field:Nat):Int)=9:=om;rw[zc this,hdan (by have:=(h9 q).1;omega)]
   .have:¬ ((k'.fafter k'.field:Nat):Int)=9:=om;rw[zb this];exact pl
 .have hl1:T.lf≠1:=by rw[plf];omega
  have e1:k'.adv = { k' with taken:=k'.taken+1 }:=by unfold Wk.adv;rw[zb om]
  have e2:cX T = { T with lf:=T.lf-1 }:=by unfold cX;rw[zb hl1]
  rw[e1] at hinv ⊢;rw[e2] at n1 n2 ⊢;simp only[] at n1 n2;have hsz2:2<=k'.fsize k'.field:=om;have hmid:k'.field≠1/\k'.field≠4/\k'.field≠6/\k'.field≠11/\k'.field≠12/\k'.field≠13:=by
   refine⟨?_,?_,?_,?_,?_,?_⟩ <;> (intro q;rw[q] at hsz2;simp[Wk.fsize] at hsz2)
  refine⟨hinv,pf,?_,?_,?_,?_,pcr,pac,pe,pi,?_,pd,pl⟩
  .simp only[];have e3:({ k' with taken:=k'.taken+1 }:Wk).fsize k'.field=k'.fsize k'.field:=rfl;rw[e3,plf];omega
  .simp only[];intro q1 q2;rw[n1,n2,hkl];exact hrun om
  .simp only[];intro q;rw[n1,n2];exact hhi om
  .simp only[];intro q;omega
  .simp only[];intro q1 q2;exact pr q1 (fun q4=>Qz q4 hmid.2.1)
def Sim.stuffed {k:Wk} {S:Sc} (h:Sim k S) (b:Nat) (hb:b<2) (h5:S.rn=5) (hv:(b:Int)≠S.lv):Sim (k.heard (48+b)) { S with rn:=1,lv:=b }:=by
 have f1:=h.inv.f1;have hf:2<=k.field/\k.field<=11:=by
  rcases (by omega:(k.field=1\/12<=k.field)\/(2<=k.field/\k.field<=11)) with q|q
  .have:=(h.run0 q).1;omega
  .exact q
 obtain⟨e1,e2,e3,e4,e5⟩:=h.run hf.1 hf.2;have q1:¬ 48+b=k.last.1:=om;refine⟨iz h.inv _,h.f,h.lf,?_,?_,?_,h.cr,h.ac,h.e,h.i,h.r,h.d,h.l⟩
 .intro _ _;unfold Wk.heard M.C0;simp only[];rw[zb q1];simp only[];omega
 .intro q;have:k.field=1\/12<=k.field:=q;omega
 .intro q;have:k.field=1:=q;omega
variable {L:List Nat} {i:Nat}
def nx (k:Wk) (c:Nat):Wk:={ (k.take c).1 with code:=(k.take c).2 }
def On (k:Wk):List Nat->Prop
 | []=>True
 | c :: cs=>av (k.take c).2=true/\On (nx k c) cs
def A2 (l:List Nat) (c:Nat):∀ k:Wk,On k l->av ((k.over l).take c).2=true->On k (l++[c]):=by
 induction l with
 | nil=>intro k _ h;exact⟨h,trivial⟩
 | cons x l ih=>
  intro k h1 h2;refine⟨h1.1,ih _ h1.2 ?_⟩;have e:k.over (x :: l)=(nx k x).over l:=by
   show (if av (k.take x).2=true then _ else _)=_;rw[zc h1.1];rfl
  rw[<- e];exact h2
def mV (l:List Nat) (c:Nat):∀ k:Wk,On k l->k.over (l++[c])=nx (k.over l) c:=by
 induction l with
 | nil=>
  intro k _;show (if av (k.take c).2=true then Wk.over _ [] else if ([]:List Nat)=[] then _ else _)=_;split
  .rfl
  .rfl
 | cons x l ih=>
  intro k h;have e:∀ m,k.over (x :: m)=(nx k x).over m:=by
   intro m;show (if av (k.take x).2=true then _ else _)=_;rw[zc h.1];rfl
  rw[List.cons_append,e,e];exact ih _ h.2
def off (f:Nat):Nat:=
 if f<=1 then 0 else if f=2 then 1 else if f=3 then 12 else if f=4 then 13 else if f=5 then 14 else if f=6 then 32 else if f=7 then 33 else if f=8 then 35 else if f=9 then 39 else if f=10 then 103 else if f=11 then 118 else if f=12 then 119 else if f=13 then 120 else 121
def pos (k:Wk):Nat:=off k.field+k.taken
def Du {k:Wk} (h:k.Inv):pos k<=127:=by
 have f1:=h.f1;have f2:=h.f2;have ht:=h.tk;have hd:=Gu k;have hf:k.field=1\/k.field=2\/k.field=3\/k.field=4\/k.field=5\/k.field=6\/k.field=7\/k.field=8\/k.field=9\/k.field=10\/k.field=11\/k.field=12\/k.field=13\/k.field=14:=om;unfold pos off;rcases hf with e | e | e | e | e | e | e | e | e | e | e | e | e | e <;> rw[e] at ht ⊢ <;> simp[Wk.fsize] at ht ⊢ <;> first | omega | (split at ht <;> omega)
def AV (k:Wk) (f1:1<=k.field) (f2:k.field<=14) (h:k.adv.Inv):pos k+1<=pos k.adv:=by
 have hd:=Gu k;have hf:k.field=1\/k.field=2\/k.field=3\/k.field=4\/k.field=5\/k.field=6\/k.field=7\/k.field=8\/k.field=9\/k.field=10\/k.field=11\/k.field=12\/k.field=13\/k.field=14:=om;have h2:=h.f2;unfold Wk.adv at h2 ⊢;by_cases q:k.taken+1=k.fsize k.field
 .rw[zc q] at h2 ⊢;have h3:k.fafter k.field<=14:=h2;show off k.field+k.taken+1<=off (k.fafter k.field)+0;cases hx:k.ext <;> by_cases hdl:k.dlen=0 <;> rcases hf with e | e | e | e | e | e | e | e | e | e | e | e | e | e <;> rw[e] at q h3 ⊢ <;> simp[Wk.fsize,Wk.fafter,off,hx,hdl] at q h3 ⊢ <;> omega
 .rw[zb q];show off k.field+k.taken+1<=off k.field+(k.taken+1);omega
structure At (L:List Nat) (i:Nat) (S:Sc):Prop where
 on:On Wk.init (L.take i)
 sim:Sim (Wk.init.over (L.take i)) S
 go:av (Wk.init.over (L.take i)).code=true
 few:i+(if S.rn=5 then 1 else 0)<=2*pos (Wk.init.over (L.take i))
def At.init (L:List Nat):At L 0 ⟨1,1,0,0,0,0,false,0,false,0,[]⟩:=
 ⟨trivial,Sim.init,rfl,pQ⟩
def At.le {S:Sc} (h:At L i S):i<=254:=by
 have h1:=Du h.sim.inv;have h2:=h.few;split at h2 <;> omega
def scn (S:Sc) (b:Nat):Sc × Int:=
 if S.rn=5 then (if (b:Int)=S.lv then (scZ,3) else ({ S with rn:=1,lv:=b },0))
 else if bL S.f S.lf S.cr S.ac b=0\/bL S.f S.lf S.cr S.ac b=1 then (fV S b,bL S.f S.lf S.cr S.ac b) else (scZ,bL S.f S.lf S.cr S.ac b)
def Gn (k:Wk) (c b:Nat):(k.heard c).plainCode b=k.plainCode b:=rfl
def Sim.due_lv {k:Wk} {S:Sc} (h:Sim k S) (b:Nat) (hb:b<2) (h5:S.rn=5):(48+b=k.last.1↔(b:Int)=S.lv):=by
 have f1:=h.inv.f1;have hf:2<=k.field/\k.field<=11:=by
  rcases (by omega:(k.field=1\/12<=k.field)\/(2<=k.field/\k.field<=11)) with q|q
  .have:=(h.run0 q).1;omega
  .exact q
 obtain⟨e1,e2,e3,e4,e5⟩:=h.run hf.1 hf.2;omega
def Sim.take {k:Wk} {S:Sc} (h:Sim k S) (b:Nat) (hb:b<2):((k.take (48+b)).2:Int)=(scn S b).2:=by
 have hd:=h.due;unfold Wk.take scn;by_cases h5:S.rn=5
 .have e:k.due=true:=by rw[hd];simpa using h5
  have hv:=h.due_lv b hb h5;by_cases q:(b:Int)=S.lv
  .rw[zc ⟨e,hv.2 q⟩,zc h5,zc q];rfl
  .rw[zb (fun z=>q (hv.1 z.2)),zc e,zc h5,zb q];rfl
 .have e:¬ k.due=true:=by rw[hd];simpa using h5
  rw[zb (fun z=>e z.1),zb e,zb h5];simp only[Qq,Gn];rw[h.verd b hb];split <;> rfl
def jr {k:Wk} {S:Sc} (h:Sim k S) (b:Nat) (hb:b<2):av (k.take (48+b)).2=true↔((scn S b).2=0\/(scn S b).2=1):=by
 rw[<- h.take b hb];unfold av;simp;omega
def Sim.goes {k:Wk} {S:Sc} (h:Sim k S) (b:Nat) (hb:b<2) (hg:av (k.take (48+b)).2=true):Sim (nx k (48+b)) (scn S b).1/\∀ i:Nat,i+(if S.rn=5 then 1 else 0)<=2*pos k->i+1+(if (scn S b).1.rn=5 then 1 else 0)<=2*pos (nx k (48+b)):=by
 have hd:=h.due;have ht:=h.take b hb;have hgi:=(jr h b hb).1 hg;unfold nx;unfold scn at hgi ⊢;by_cases h5:S.rn=5
 .rw[zc h5] at hgi ⊢;have e:k.due=true:=by rw[hd];simpa using h5
  have hv:=h.due_lv b hb h5;by_cases q:(b:Int)=S.lv
  .rw[zc q] at hgi;rcases hgi with z | z <;> exact Qz z (by decide)
  .rw[zb q];have et:k.take (48+b)=(k.heard (48+b),0):=by unfold Wk.take;rw[zb (fun z=>q (hv.1 z.2)),zc e]
   rw[et];refine⟨(h.stuffed b hb h5 q).code 0,fun i hi=>?_⟩;rw[zc h5] at hi;have e2:pos ({ k.heard (48+b) with code:=0 }:Wk)=pos k:=rfl;rw[e2];simp;omega
 .rw[zb h5] at hgi ⊢;have e:¬ k.due=true:=by rw[hd];simpa using h5
  have hvd:=h.verd b hb;have et:k.take (48+b)=(((k.heard (48+b)).keep b).adv,k.plainCode b):=by
   unfold Wk.take;rw[zb (fun z=>e z.1),zb e];simp only[Qq,Gn]
  rw[et];by_cases q:bL S.f S.lf S.cr S.ac b=0\/bL S.f S.lf S.cr S.ac b=1
  .rw[zc q];have hs:=h.step b hb h5 om;refine⟨hs.code _,fun i hi=>?_⟩;have e2:pos ({ ((k.heard (48+b)).keep b).adv with code:=k.plainCode b }:Wk)=pos ((k.heard (48+b)).keep b).adv:=rfl;rw[e2];have hkf:((k.heard (48+b)).keep b).field=k.field:=fC _ _;have hkt:((k.heard (48+b)).keep b).taken=k.taken:=gE _ _;have hp:=AV ((k.heard (48+b)).keep b) (by rw[hkf];exact h.inv.f1) (by rw[hkf];exact h.inv.f2) hs.inv;have e3:pos ((k.heard (48+b)).keep b)=pos k:=by unfold pos;rw[hkf,hkt]
   rw[e3] at hp;split at hi <;> split <;> omega
  .rw[zb q] at hgi;exact Qz hgi q
def At.next {S:Sc} (h:At L i S) (hi:i<L.length) (b:Nat) (hb:b<2) (hl:L[i]=48+b) (hg:(scn S b).2=0\/(scn S b).2=1):At L (i+1) (scn S b).1:=by
 have hg':=(jr h.sim b hb).2 hg;have e:L.take (i+1)=L.take i++[48+b]:=by rw[qg hi,hl]
 have eo:Wk.init.over (L.take (i+1))=nx (Wk.init.over (L.take i)) (48+b):=by rw[e];exact mV _ _ _ h.on
 obtain⟨g1,g2⟩:=h.sim.goes b hb hg';refine⟨by rw[e];exact A2 _ _ _ h.on hg',by rw[eo];exact g1,by rw[eo];exact hg',by rw[eo];exact g2 i h.few⟩
open Go.RowKit
open Go.Value renaming int->I,slice->sL,bool->bO,pointer->pT,agg->aG
open Go.IntKind renaming i64->J
open Go.Ending renaming returned->rT
open Go.Proofs.Tryz renaming prog->Tp
variable {L:List Nat}
def sc0:Sc:=⟨1,1,0,0,0,0,false,0,false,0,[]⟩
def scO (l:List Nat):Sc:=l.foldl (fun S c=>(scn S (c-48)).1) sc0
def kN (l:List Nat) (c:Nat):scO (l++[c])=(scn (scO l) (c-48)).1:=by simp[scO]
def goL (L:List Nat):Prop:=(∀ c ∈ L,c=48\/c=49)/\On Wk.init L
def yD:∀ (L:List Nat) (k:Wk) (i:Nat) (hi:i<L.length),On k L->av ((k.over (L.take i)).take L[i]).2=true
 | c :: cs,k,0,hi,h=>h.1
 | c :: cs,k,i+1,hi,h=>by
  have e:k.over (c :: cs.take i)=(nx k c).over (cs.take i):=by
   show (if av (k.take c).2=true then _ else _)=_;rw[zc h.1];rfl
  have hi':i<cs.length:=by simpa using hi
  show av ((k.over (c :: cs.take i)).take cs[i]).2=true;rw[e];exact yD cs (nx k c) i hi' h.2
def CC:∀ (L:List Nat) (k:Wk),av (k.over L).code=true->On k L
 | [],k,h=>trivial
 | c :: cs,k,h=>by
  have h':av (if av (k.take c).2=true then (nx k c).over cs else if cs=[] then { (k.take c).1 with code:=(k.take c).2 } else { (k.take c).1 with code:=7 }).code=true:=h;by_cases hg:av (k.take c).2=true
  .rw[zc hg] at h';exact⟨hg,CC cs _ h'⟩
  .rw[zb hg] at h';split at h'
   .exact Qz h' hg
   .exact Qz h' (by simp[av])
def At.of (h:goL L):∀ i,i<=L.length->At L i (scO (L.take i))
 | 0,_=>At.init L
 | i+1,hi=>by
  have hl:i<L.length:=hi;have ih:=At.of h i (qB hl);have hc:=h.1 L[i] (zh hl);rw[qg hl,kN];have e:L[i]=48+(L[i]-48):=om;have hb:L[i]-48<2:=om;have hg:=yD L Wk.init i hl h.2;rw[e] at hg;exact ih.next hl _ hb e ((jr ih.sim _ hb).1 hg)
def At.gn {i:Nat} {S:Sc} (h:At L i S) (hi:i<L.length) (hL:goL L):(scn S (L[i]-48)).2=0\/(scn S (L[i]-48)).2=1:=by
 have hc:=hL.1 L[i] (zh hi);have hg:=yD L Wk.init i hi hL.2;rw[show L[i]=48+(L[i]-48) by omega] at hg;exact (jr h.sim _ om).1 hg
def DA (S:Sc) (hS:okS S) (hs:∀ x ∈ S.l,x<256):bd S:=by
 obtain⟨h1,h2,h3,h4,h5,h6,h7,h8,h9,h10,h11,h12,h13,h14,h15,h16,h17,h18,h19⟩:=hS;have hsz:=fX S.f S.e S.d h4 h5;refine⟨h1,h2,h3,h4,h5,h6,h7,om,h15,h16,h17,h18,hs,fun h9' h8'=>?_⟩;obtain⟨q1,q2,q3⟩:=h19 h9';have hm:bh S.f S.e S.d % 8=0:=by rw[h9'];unfold bh;simp;split <;> omega
 omega
def Sim.small {k:Wk} {S:Sc} (h:Sim k S):∀ x ∈ S.l,x<256:=by rw[h.l];exact h.inv.das
def xM (w:World) (P B:Nat) (hP:0<P) (hPB:P<B) (hB:B<=w.heap.size) (hg:w.rangeAt 0 0 bV) (S:Sc) (hS:okS S) (hs:∀ x ∈ S.l,x<256) (g:Option Addr) (n k:Nat) (h:G.kP w w P B S g n k) (b:Nat) (hb:b<2) (hgo:(scn S b).2=0\/(scn S b).2=1) :
  Calls Tp 132 #[pT (some ⟨P,0,none⟩),I J (b:Int)] w fun o w'=>(∃ v,o = rT v)/\∃ g n k,G.kP w w' P B (scn S b).1 g n k:=by
 unfold scn at hgo ⊢;by_cases h5:S.rn=5
 .rw[zc h5] at hgo ⊢;by_cases hv:(b:Int)=S.lv
  .rw[zc hv] at hgo;exact Qz hgo pQ
  .rw[zb hv];refine (G.xQ w P B hPB S g n k h b h5 hv).mono ?_;rintro o w' ⟨rfl,hk⟩;exact⟨⟨_,rfl⟩,_,_,_,hk⟩
 .rw[zb h5] at hgo ⊢;by_cases hc:bL S.f S.lf S.cr S.ac b=0\/bL S.f S.lf S.cr S.ac b=1
  .rw[zc hc];have h13:S.lf=1->S.f<=13:=by
    intro e;rcases Int.lt_or_le 13 S.f with h|h
    .have hf:S.f=14:=by have:=hS.2.1;omega
     rw[hf,e] at hc;rcases (by omega:b=0\/b=1) with rfl|rfl
     .exact Qz hc (by simp[bL])
     .exact Qz hc (by simp[bL])
    .exact h
   refine (G.AJ w P B hP hPB hB hg S (DA S hS hs) hS.2.2.2.2.2.2.2.2.1 hS.2.2.2.2.2.2.2.2.2.1 g n k h b hb h5 hc h13).mono ?_;rintro o w' ⟨rfl,h'|⟨h1,h2,h3,h4⟩⟩
   .exact⟨⟨_,rfl⟩,h'⟩
   .refine⟨⟨_,rfl⟩,none,0,0,h2,by rw[h1];exact gc _ _,by rw[h1];rfl,h3,h4,nT hB h3.size⟩
  .rw[zb hc] at hgo;exact Qz hgo hc
open Option renaming none->nn,some->sQ
set_option maxRecDepth 20000
def iO (S:Sc) (a:Option Addr) (n k:Nat):(scL S a n k).toArray.all (·.oneCell')=true:=QL (by simp[scL,Value.oneCell'])
def kJ (S:Sc) (a:Option Addr) (n k:Nat):(Tp.info? 49).map (·.size)=sQ (scL S a n k).length:=dV
def my (w:World):Calls Tp 131 #[] w fun o w'=>o = rT (aG (scL sc0 nn 0 0).toArray)/\Bl w w':=by
 have HB:Hid (blk (w.alloc (.cells z11.toArray 49)) w.heap.size z11 49):=blk.new w z11 49;have hbu:∀ W:World,(Instr.build 49 #[(0,I J 1),(1,I J 1)]).run Tp W = .ok (aG (scL sc0 nn 0 0).toArray) W:=fun W=>by kernel_rfl
 go_enter Tryz.func131,Tryz.ntmps131
 go_wp2_with (refine QE (P:=Tp) rfl 49 _ _ rfl w.heap.size 0 (scL sc0 nn 0 0).toArray rfl rfl (HB.o.there 0 11 (nR _)) dV (iO _ _ _ _) ?_;generalize hv:World.setCells _ w.heap.size 0 _=w2;have HV:Hid (_=w2):=hv;clear hv)
 have e2:=HV.o;have hF:blk w2 w.heap.size (scL sc0 nn 0 0) 49:=by rw[<- e2];exact HB.o.put [] z11 [] (scL sc0 nn 0 0) rfl
 refine bC Tryz.results131 (QJ (P:=Tp) w2 w.heap.size 0 49 _ _ hF.load Tryz.underlying49 rfl dV) ?_;exact⟨rfl,by rw[<- e2];exact sW (nR _) _ _ qw⟩
structure soS (w:World) (R P:Nat) (hd:ByteArray) (i:Nat) (S:Sc) (W:World):Prop where
 x:∃ g n c,blk W P (scL S g n c) 49/\aa W (P+2) (sL g n c) S.l/\n=S.l.length
 it:W.heap[P+1]?=sQ (.stringIter hd i)
 b:Below R w W
 r:blk W R z11 49
 z:P+2<=W.heap.size
def soS.next {w:World} {R P:Nat} {hd:ByteArray} {i:Nat} {S:Sc} {W:World} (h:soS w R P hd i S W) (hR:R<P) (j:Nat):soS w R P hd j S (W.iterAt (P+1) hd j):=by
 obtain⟨g,n,c,h1,h2,h3⟩:=h.x;refine⟨⟨g,n,c,(Q3 W (P+1) P hd j om).trans h1,h2.otherBlock fun q hq=>Q3 W (P+1) q hd j (by have:=(QC h2 q hq).1;omega),h3⟩,Lib.iterAt_heap W (P+1) hd i j h.it,Lib.below_iterAt h.b om hd j,(Q3 W (P+1) R hd j om).trans h.r,?_⟩;exact nT h.z (Lib.below_iterAt (bW 0 W) (nZ _) hd j).size
def nW (w:World) (hg:w.rangeAt 0 0 bV) (hz:0<w.heap.size) (hd:ByteArray) (hL:goL (hd.data.toList.map (·.toNat))) :
  Calls Tp 64 #[.string hd] w fun o w'=>∃ a n k,o = rT (aG (scL (scO (hd.data.toList.map (·.toNat))) a n k).toArray)/\aa w' w.heap.size (sL a n k) (scO (hd.data.toList.map (·.toNat))).l/\n=(scO (hd.data.toList.map (·.toNat))).l.length/\Bl w w':=by
 obtain⟨L,eL⟩ : ∃ L,hd.data.toList.map (·.toNat)=L:=⟨_,rfl⟩
 rw[eL] at hL ⊢;have HLN:Hid (L.length=hd.size):=by show _=_;rw[<- eL,qV,Array.length_toList];rfl
 have HLA:Hid (∀ i (h:i<hd.size) (h':i<L.length),L[i]=hd[i].toNat):=by intro i h h';subst eL;simp;rfl
 have HL:Hid (goL L):=hL;clear hL eL;have HT:Hid (∀ W,Bl w W->W.rangeAt 0 0 bV):=fun W hW j v hv=>(hW.cell (p:=⟨0,0+j,nn⟩) (by exact hz)).trans (hg j v hv);have HFS:Hid (Calls Tp 131 #[] (w.alloc (.cells z11.toArray 49)) fun o w'=>o = rT (aG (scL sc0 nn 0 0).toArray)/\Below (w.alloc (.cells z11.toArray 49)).heap.size (w.alloc (.cells z11.toArray 49)) w'):=my _;have HR0:Hid (blk (w.alloc (.cells z11.toArray 49)) w.heap.size z11 49/\Bl w (w.alloc (.cells z11.toArray 49))):=⟨blk.new w z11 49,qw⟩
 clear hg;go_enter Tryz.func64,Tryz.ntmps64;go_wp2_with fail;refine HFS.o.mono ?_;rintro o w1 ⟨rfl,hb1⟩;have HR1:Hid (blk w1 w.heap.size z11 49/\Bl w w1):=⟨HR0.o.1.below hb1,HR0.o.2.trans (hb1.mono HR0.o.2.size)⟩
 clear hb1 HFS HR0;have HA:Hid (blk (w1.alloc (.cells z11.toArray 49)) w1.heap.size z11 49):=blk.new w1 z11 49;have HR:Hid (w.heap.size<w1.heap.size):=HR1.o.1.lt
 go_wp2_with (refine QE (P:=Tp) rfl 49 _ _ rfl w1.heap.size 0 (scL sc0 nn 0 0).toArray rfl rfl (HA.o.there 0 11 (nR _)) dV (iO _ _ _ _) ?_;generalize hv:World.setCells _ w1.heap.size 0 _=w2;have HV:Hid (_=w2):=hv;clear hv)
 have e2:=HV.o;have h2z:w2.heap.size=w1.heap.size+1:=by rw[<- e2,sZ];simp
 have h2s:blk w2 w1.heap.size (scL sc0 nn 0 0) 49:=by rw[<- e2];exact HA.o.put [] z11 [] (scL sc0 nn 0 0) rfl
 have h2b:Bl w1 w2:=by rw[<- e2];exact sW (nR _) _ _ qw
 have hb2:Bl w2 (w2.iter hd 0):=qw;have hit:=World.iter_heap w2 hd 0;rw[h2z] at hit;have ST:soS w w.heap.size w1.heap.size hd 0 (scO (L.take 0)) (w2.iter hd 0):=
  ⟨⟨nn,0,0,h2s.below hb2,gc _ _,rfl⟩,hit,(HR1.o.2.trans (h2b.mono HR1.o.2.size)).trans (hb2.mono (by have:=HR.o;omega)),(HR1.o.1.below h2b).below hb2,aJ hit⟩
 clear e2 h2s h2b hb2 hit HV HA HR1;rw[h2z];clear h2z;generalize w1.heap.size=P at *;go_loopw [5] (fun _ wr=>∃ k:Nat,k<=hd.size/\soS w w.heap.size P hd k (scO (L.take k)) wr) (fun _ wr=>hd.size-wr.iterPos (P+1));case atStart=>exact⟨0,nZ _,ST⟩
 case round=>
  clear ST;obtain⟨k,hk,st⟩:=hrel;by_cases hlt:k<hd.size
  .have hlL:k<L.length:=by rw[HLN.o];exact hlt
   have hA:=At.of HL.o k (qB hlL);have hgn:=hA.gn hlL HL.o;have hv:=HL.o.1 L[k] (zh hlL);have hv':=hv;rw[HLA.o k hlt hlL] at hv';have hnx:=fun ty=>Lib.run_next_ascii_at (P:=Tp) wr (P+1) hd k ty st.it hlt (by rcases hv' with h | h <;> omega);have st1:=st.next HR.o (k+1);have HP:Hid (wr.iterPos (P+1)=k):=iterPos_of st.it;clear st;generalize wr.iterAt (P+1) hd (k+1)=wr1 at *;have HC:Hid (Calls Tp 132 #[pT (sQ ⟨P,0,nn⟩),I J ((L[k]-48:Nat):Int)] wr1 fun o w'=>(∃ v,o = rT v)/\soS w w.heap.size P hd (k+1) (scO (L.take (k+1))) w'):=by
    obtain⟨g,n,c,x1,x2,x3⟩:=st1.x;refine (xM wr1 P (P+2) (by have:=HR.o;omega) om st1.z (HT.o wr1 st1.b) _ hA.sim.ok hA.sim.small g n c ⟨x1,x2,x3,bW _ _,fun _ _ _=>rfl,st1.z⟩ _ om hgn).mono ?_;rintro o w' ⟨hv,g',n',c',hk'⟩;refine⟨hv,⟨g',n',c',?_,?_,?_⟩,(hk'.r _ om om).trans st1.it,st1.b.trans (hk'.b.mono (qB HR.o)),(hk'.r _ (by have:=HR.o;omega) (by have:=HR.o;omega)).trans st1.r,hk'.z⟩;all_goals rw[qg hlL,kN]
    .exact hk'.q
    .exact hk'.o
    .exact hk'.l
   have e48:L[k]-48=hd[k].toNat-48:=by rw[HLA.o k hlt hlL]
   rw[e48] at HC;clear st1 hgn hA hv e48;rcases hv' with h48|h48
   all_goals
    rw[h48] at hnx HC;go_wp2_with (go_at_call 132;refine HC.o.mono ?_;rintro o w2 ⟨⟨v,rfl⟩,st2⟩);go_roundw;case rel=>exact⟨k+1,om,st2⟩
    case measure=>rw[iterPos_of st2.it,HP.o];omega
  .have hke:k=hd.size:=om;subst hke;have hnx:∀ ty,(Instr.next (pT (sQ ⟨P+1,0,nn⟩)) true ty).run Tp wr=_:=fun ty=>Lib.run_next_end_at wr (P+1) hd hd.size ty st.it hlt;obtain⟨g,n,c,x1,x2,x3⟩:=st.x;have e:L.take hd.size=L:=ze (by rw[HLN.o];exact nR _);rw[e] at x1 x2 x3;have HX:Hid (blk wr P (scL (scO L) g n c) 49/\aa wr (P+2) (sL g n c) (scO L).l/\n=(scO L).l.length/\blk wr w.heap.size z11 49/\Bl w wr):=⟨x1,x2,x3,st.r,st.b⟩
   clear st x1 x2 x3 hlt e;go_wp2_with (first
    | (refine qG 49 HX.o.1.load Tryz.underlying49 (kJ _ _ _ _) ?_)
    | (refine QE (P:=Tp) rfl 49 _ _ rfl w.heap.size 0 (scL (scO L) g n c).toArray rfl rfl (HX.o.2.2.2.1.there 0 11 (nR _)) dV (iO _ _ _ _) ?_;generalize hv:World.setCells _ w.heap.size 0 _=w3;have HV:Hid (_=w3):=hv;clear hv))
   have e3:=HV.o;have hF:blk w3 w.heap.size (scL (scO L) g n c) 49:=by rw[<- e3];exact HX.o.2.2.2.1.put [] z11 [] (scL (scO L) g n c) rfl
   refine bC Tryz.results64 (QJ (P:=Tp) w3 w.heap.size 0 49 _ _ hF.load Tryz.underlying49 rfl (kJ _ _ _ _)) ?_;refine⟨g,n,c,rfl,?_,HX.o.2.2.1,by rw[<- e3];exact sW (nR _) _ _ HX.o.2.2.2.2⟩;rw[<- e3];exact (HX.o.2.1.setCells (by have:=HR.o;omega) 0 _).mono (by have:=HR.o;omega)
end Go.Proofs.YtnfmjckkibdcaaaGreatDoor
