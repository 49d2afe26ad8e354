import Derived.Test.YtgfolecanghhhaaGreatK12
import Derived.Deep.RegionLaw
namespace Go.Proofs.YtgfolecanghhhaaGreat
open Go.Proofs.Tryz
open Option renaming none->nn,some->sQ
open Go renaming World->Wd
set_option maxRecDepth 20000
open Go.RowKit
set_option linter.all false
set_option maxHeartbeats 16000000
open Go.Value renaming int->I,slice->sL,bool->bO,pointer->pT,agg->aG
open Go.IntKind renaming i64->J,u32->Zk
open Go.Ending renaming returned->rT
open Go.Proofs.Tryz renaming prog->Tp
section
variable {W w:Wd} {B g E sz k n:Nat}
def cH.st {α:Type} {F:Rc α} {rs:List α} (h:cH F w B E sz g k rs) (he:∀ b,B<=b->b<w.heap.size->W.heap[b]?=w.heap[b]?):cH F W B E sz g k rs:=by
 have hl:=h.lt;refine⟨oK h.own (he g hl.1 hl.2),fun p hp=>?_⟩;obtain⟨d1,d2,d3,d4⟩:=h.dat p hp;have e:=he _ d2 d4;refine⟨d1.other e,d2,d3,?_⟩;rw[Ql d4] at e;exact aJ e
def Iw {T:TypeId} {cap:Nat} {xs:List Value} (h:W.ownsRow B T sz (sL (sQ ⟨g,0,nn⟩) n cap) n xs):az W g (cap*sz):=by
 rcases h.2 with⟨e,_⟩|⟨g1,c1,cur,hv',hb,hgg,hcp,hmx,hsz,htk⟩
 .cases e
 cases hv';refine fun t ht=>⟨?_,QU h t⟩
 have:t<cur.size:=om;exact⟨cur[t],by simp[World.cell?,hgg,this]⟩
def cR (B T E g n k:Nat) (bs:List R8) (W:Wd):Prop:=∃ rs,cH rc8 W B E 8 g k rs/\rs.map (·.1)=bs/\rs.length=n/\g<T/\∀ p ∈ rs,rc8.gd p<T
def j0 (B T E g n k:Nat) (bs:List R5) (W:Wd):Prop:=∃ rs,cH rc5 W B E 5 g k rs/\rs.map (·.1)=bs/\rs.length=n/\g<T/\∀ p ∈ rs,rc5.gd p<T
def cR.is {T:Nat} {bs:List R8} (h:cR B T E g n k bs W):aM W (sQ ⟨g,0,nn⟩) n k bs:=by
 obtain⟨rs,h2,h3,h4,_⟩:=h;have:=h2.r8.now;rw[h3,h4] at this;exact this
def jH (w:Wd) (a:Option Addr) (n cap:Nat) (bs:List R8) (h:aM w a n cap bs) (hn:n<=1048576) (hd:∀ j (h:j<bs.length),bs[j].l.length<=1048576) :
  Calls Tp 119 #[sL a n cap] w fun o w'=>∃ g k,o = rT (sL (sQ ⟨g,0,nn⟩) n k)/\(w.heap.size<=g/\g<w'.heap.size/\St w.heap.size w' (fun W=>cR w.heap.size w'.heap.size 175 g n k bs W))/\Bl w w':=by
 have HH:Hid (aM w a n cap bs):=h;have HL:Hid (n=bs.length):=h.len;have hcp:=h.cap;have HD:Hid (∀ j (h:j<bs.length),bs[j].l.length<=1048576):=hd;clear h hd;go_enter func119,ntmps119;go_wp2_with fail;have hown:=cH.nil rc8 w w.heap.size 175 8 (nR _);go_loopw [3,4] (fun v t wr=>∃ k g kc rs,k<=n/\v = sL (sQ ⟨g,0,nn⟩) k kc/\t = I J (k:Int)/\cH rc8 wr w.heap.size 175 8 g kc rs/\rs.map (·.1)=bs.take k/\Bl w wr) (fun _ t _=>n-(intOf t).toNat);case atStart=>exact⟨0,_,0,[],nZ _,rfl,rfl,hown,pQ,Zw⟩
 case round=>
  clear hown;obtain⟨k,g,kc,rs,hk,rfl,rfl,ho,hm,hb⟩:=hrel;by_cases hlt:k<n
  .have hkl:k<bs.length:=by have:=HL.o;omega
   obtain⟨g0,o0,rfl,hc⟩:=HH.o.cells (by intro e;rw[e] at hkl;exact Qy hkl (nN _));obtain⟨ao,m,c,hat⟩:=hc k hkl;have HM:Hid (m=bs[k].l.length):=hat.dat.len;have HRG:=(at8.below hat hb).range;have HDT:Hid (iB wr ao m c bs[k].l):=hat.dat.below hb;have HMM:Hid (m<=1048576):=by show _<=_;rw[HM.o];exact HD.o k hkl
   have HTK:Hid (∀ gd kd:Nat,List.map (fun p:R8 × Nat × Nat=>p.1) (rs++[(bs[k],gd,kd)])=bs.take (k+1)):=fun gd kd=>Cu hm hkl (bs[k],gd,kd) rfl;have HLN:Hid (rs.length=k):=im hm om;have HEN:Hid (∀ gd kd,rc8.enc (bs[k],gd,kd)=[I J bs[k].x,I J bs[k].y,I J bs[k].z,bO bs[k].e,I Zk (bs[k].i:Int),bO bs[k].r,I J bs[k].d,sL (sQ ⟨gd,0,nn⟩) m kd]):=fun gd kd=>by show _=_;rw[HM.o];rfl
   clear hc hat hm;generalize bs[k]=bk at *;obtain⟨x,y,z,e,i,r,d,l⟩:=bk;simp only[] at HRG HEN HDT HM;have HRG:Hid (wr.rangeAt g0 (o0+k*8) [I J x,I J y,I J z,bO e,I Zk (i:Int),bO r,I J d,sL ao m c]):=HRG;have HO:Hid (cH rc8 wr w.heap.size 175 8 g kc rs):=ho;have HB:Hid (Bl w wr):=hb;have HAL:Hid (blk (wr.alloc (.cells [I J 0,I J 0,I J 0,bO false,I Zk 0,bO false,I J 0,sL nn 0 0].toArray 175)) wr.heap.size ([]++[I J 0,I J 0,I J 0,bO false,I Zk 0,bO false,I J 0,sL nn 0 0]++[]) 175):=blk.new wr _ 175
   clear ho hb;go_wp2_with (first
    | (refine ZG 175 HRG.o underlying175 Gl ?_)
    | (refine QD (P:=Tp) rfl 175 (.tmp 5) (.tmp 16) rfl wr.heap.size 0 _ rfl rfl (HAL.o.there 0 8 pQ) Gl (sT _ _ _ _ _ _ _ _ _ _) ?_;generalize hW2:World.setCells (wr.alloc _) wr.heap.size 0 _=w2;have HP2:Hid (blk w2 wr.heap.size ([I J x,I J y,I J z]++[bO e,I Zk (i:Int),bO r,I J d,sL ao m c]++[]) 175):=(hW2 ▸ blk.put [] _ [] [I J x,I J y,I J z,bO e,I Zk (i:Int),bO r,I J d,sL ao m c] HAL.o rfl);have HB2:Hid (Bl wr w2):=(hW2 ▸ sW (nR _) _ _ Zw);have HS2:Hid (w2.heap.size=wr.heap.size+1):=(by show _=_;rw[<- hW2,sZ];simp);clear hW2)
    | (refine Zi 67 [bO e,I Zk (i:Int),bO r,I J d,sL ao m c] (blk.loadAt [I J x,I J y,I J z] [bO e,I Zk (i:Int),bO r,I J d,sL ao m c] [] HP2.o) underlying67 jc ?_)
    | (go_at_call 118;refine (eM w2 e i r d ao m c l (HDT.o.below HB2.o) HMM.o).mono ?_;rintro o w3 ⟨gd,kd,rfl,⟨q1,q2,q3,q4⟩,hb3⟩;have HQ3:Hid (w2.heap.size+2<=gd/\gd<w3.heap.size/\St (w2.heap.size+2) w3 (fun W=>iB W (sQ ⟨gd,0,nn⟩) m kd l)):=⟨q4,q2,q3⟩;have HP3:Hid (blk w3 wr.heap.size ([I J x,I J y,I J z]++[bO e,I Zk (i:Int),bO r,I J d,sL ao m c]++[]) 175):=HP2.o.below hb3;have HB3:Hid (Bl wr w3):=HB2.o.trans (hb3.mono HB2.o.size);clear q1 q2 q3 q4 hb3)
    | (refine QD (P:=Tp) rfl 67 (.tmp 20) (.tmp 19) rfl wr.heap.size 3 _ rfl rfl (HP3.o.there 3 5 pQ) jc (pP _ _ _ _ _ _ _) ?_;generalize hW4:World.setCells w3 wr.heap.size 3 _=w4;have HP4:Hid (blk w4 wr.heap.size [I J x,I J y,I J z,bO e,I Zk (i:Int),bO r,I J d,sL (sQ ⟨gd,0,nn⟩) m kd] 175):=(hW4 ▸ blk.put [I J x,I J y,I J z] [bO e,I Zk (i:Int),bO r,I J d,sL ao m c] [] [bO e,I Zk (i:Int),bO r,I J d,sL (sQ ⟨gd,0,nn⟩) m kd] HP3.o rfl);have HB4:Hid (Bl wr w4):=(hW4 ▸ sW (nR _) _ _ HB3.o);have HQ4:Hid (wr.heap.size<gd/\gd<w4.heap.size/\iB w4 (sQ ⟨gd,0,nn⟩) m kd l):=(by show _/\_;have h2:=HS2.o;obtain⟨h3,h4,h5⟩:=HQ3.o;refine⟨om,by rw[<- hW4,sZ];exact h4,?_⟩;rw[<- hW4];exact (h5.setCells _ _ om _).now);clear hW4)
    | (refine Zi 175 [I J x,I J y,I J z,bO e,I Zk (i:Int),bO r,I J d,sL (sQ ⟨gd,0,nn⟩) m kd] HP4.o.load underlying175 Gl ?_)
    | (at_builtin;refine oV (w:=w4.alloc (.cells #[I J x,I J y,I J z,bO e,I Zk (i:Int),bO r,I J d,sL (sQ ⟨gd,0,nn⟩) m kd] 175)) rfl (.tmp 21) (.tmp 23) 39 175 _ 8 72 info175 underlying39 rfl (by decide) (by decide) rfl w.heap.size g k kc (rs.flatMap rc8.enc) rfl (by have:=((HO.o.below HB4.o).alloc (.cells #[I J x,I J y,I J z,bO e,I Zk (i:Int),bO r,I J d,sL (sQ ⟨gd,0,nn⟩) m kd] 175)).own;rw[HLN.o] at this;exact this) w4.heap.size [I J x,I J y,I J z,bO e,I Zk (i:Int),bO r,I J d,sL (sQ ⟨gd,0,nn⟩) m kd] rfl rfl (blk.new w4 _ 175) (CA _ _ _ _ _ _ _ _ _ _) om (by have:=HB.o.size;have:=HB4.o.size;simp;omega) ?_;intro g' k' w6 ho6 hg6 hg' hB6))
   go_roundw;case rel=>
    obtain⟨h1,h2,h3⟩:=HQ4.o;have hO4:=(HO.o.below HB4.o).alloc (.cells #[I J x,I J y,I J z,bO e,I Zk (i:Int),bO r,I J d,sL (sQ ⟨gd,0,nn⟩) m kd] 175);have hgl:=HO.o.lt;have hml:=HM.o;refine⟨k+1,g',k',rs++[(⟨x,y,z,e,i,r,d,l⟩,gd,kd)],om,rfl,by go_num,?_,HTK.o gd kd,?_⟩
    .refine hO4.snoc (⟨x,y,z,e,i,r,d,l⟩,gd,kd) ?_ ?_ ?_ ?_ ?_ hg6 hg'
     .show iB _ (sQ ⟨gd,0,nn⟩) l.length kd l;rw[<- hml];exact h3.below Zw
     .show w.heap.size<=gd;omega
     .show gd≠g;omega
     .show gd<_;simp;omega
     .rw[HEN.o,HLN.o];exact ho6
    .have hbb:=HB.o.trans (HB4.o.mono HB.o.size);refine (hbb.alloc hbb.size _).grown hg6 (by have:=hbb.size;simp;omega) ?_;intro k0 hk0;have:k0=g:=by simpa using hk0.symm
     omega
   case measure=>simp[intOf];omega
  .have hkn:k=n:=om;subst hkn;have hln:=im hm (by have:=HL.o;omega);rw[qf (by have:=HL.o;omega)] at hm;have HQ:Hid (w.heap.size<=g/\g<wr.heap.size/\St w.heap.size wr (fun W=>cR w.heap.size wr.heap.size 175 g k kc bs W)):=by
    refine⟨ho.lt.1,ho.lt.2,fun W hW=>⟨rs,ho.st hW,hm,hln,ho.lt.2,fun p hp=>(ho.dat p hp).2.2.2⟩⟩
   clear ho hm hln;go_wp2;go_ret;exact⟨g,kc,rfl,HQ.o,hb⟩
def gS.new (w:Wd) (l:List Value):gS w l z10 (((w.alloc (.cells l.toArray 41)).alloc (.cells z10.toArray 41)).alloc (.cells z10.toArray 41)):=by
 refine⟨((blk.new w _ 41).alloc _).alloc _,?_,?_,(Zw.alloc pQ _).alloc (by simp;omega) _⟩
 .simpa using (blk.new (w.alloc (.cells l.toArray 41)) z10 41).alloc (.cells z10.toArray 41)
 .simpa using blk.new ((w.alloc (.cells l.toArray 41)).alloc (.cells z10.toArray 41)) z10 41
def gS.put {hv:List Value} (h:gS w hv z10 W) (p o:Nat) (H:Ho) (s:Sl):gS w hv (hoL H s) (W.setCells (w.heap.size+1+1) 0 (hoL H s)):=⟨h.p.other om _ _,h.r.other om _ _,by simpa using blk.put [] z10 [] (hoL H s) (by simpa using h.q) rfl,sW om _ _ h.b⟩
def JH (w:Wd) (H:Ho) (s:Sl) (h:aK w H s) (hn:H.le 1048576) :
  Calls Tp 55 #[hoV H s] w fun o w'=>∃ gf kf gb kb gq kq g4 k4 T0 T1 T2 T3,o = rT (hoV H ⟨sQ ⟨gf,0,nn⟩,s.n1,kf,sQ ⟨gb,0,nn⟩,s.n2,kb,sQ ⟨gq,0,nn⟩,s.n3,kq,sQ ⟨g4,0,nn⟩,s.n4,k4⟩)/\(w.heap.size+3<=gf/\gf<T0/\T0<=T1/\T1<=T2/\T2<=T3/\T3<=w'.heap.size)/\St (w.heap.size+3) w' (fun W=>bj W (sQ ⟨gf,0,nn⟩) s.n1 kf H.fs/\cR T0 T1 116 gb s.n2 kb H.bx W/\j0 T1 T2 67 gq s.n3 kq H.ff W/\cR T2 T3 175 g4 s.n4 k4 H.qu W)/\St (w.heap.size+3) w' (fun W=>W.ownsRow (w.heap.size+3) 180 3 (sL (sQ ⟨gf,0,nn⟩) s.n1 kf) s.n1 (c3 H.fs))/\Bl w w':=by
 have HH:Hid (aK w H s):=h;have HN:Hid (H.le 1048576):=hn;have HP:Hid (blk (w.alloc (.cells (hoL H s).toArray 41)) w.heap.size (hoL H s) 41):=blk.new w _ 41;have HG:Hid (gS w (hoL H s) z10 (((w.alloc (.cells (hoL H s).toArray 41)).alloc (.cells z10.toArray 41)).alloc (.cells z10.toArray 41))):=gS.new w _;clear h hn;rw[Gt];go_enter func55,ntmps55
 go_wp2_with (first
  | (refine ZG 41 (blk.alloc HP.o _).load underlying41 (px H s) ?_)
  | (refine Zs 41 (hoL H s).toArray (HG.o.q.there 0 10 pQ) (Cw H s) (oC H s) ?_;generalize hW1:World.setCells (World.alloc _ _) (w.heap.size+1+1) 0 _=w1;have HN1:Hid (gS w (hoL H s) (hoL H s) w1):=(hW1 ▸ HG.o.put 0 0 H s);have x4:=(HN1.o.q.alloc (.cells #[] 180)).cell 4 _ rfl;have f4:=(HN1.o.q.alloc (.cells #[] 180)).free 4;clear hW1))
 have hg1:gS w (hoL H s) (hoL H { s with a1:=sQ ⟨w1.heap.size,0,nn⟩,n1:=0,k1:=0 }) _:=(HN1.o.below ((bW _ _).alloc (nR _) (.cells #[] 180))).set 4 (sL (sQ ⟨w1.heap.size,0,nn⟩) 0 0);have ho1:=oK (w':=(w1.alloc (.cells #[] 180)).setCell ⟨(w.heap.size+1+1),4,nn⟩ (sL (sQ ⟨w1.heap.size,0,nn⟩) 0 0)) (World.ownsRow_made (base:=w.heap.size+3) (size:=3) (e:=180) w1 #[] 0 HN1.o.z (by decide) pQ) (by rw[QA _ _ _ _ (by have:=HN1.o.z;simp;omega)]);clear x4 f4 HP HG HN1;go_loopw [4] (fun t wr=>∃ k g kc:Nat,k<=s.n1/\t = I J (k:Int)/\gS w (hoL H s) (hoL H { s with a1:=sQ ⟨g,0,nn⟩,n1:=k,k1:=kc }) wr/\wr.ownsRow (w.heap.size+3) 180 3 (sL (sQ ⟨g,0,nn⟩) k kc) k (c3 (H.fs.take k))) (fun t _=>s.n1-(intOf t).toNat);case atStart=>exact⟨0,_,0,nZ _,rfl,hg1,ho1⟩
 case round=>
  clear hg1 ho1;obtain⟨k,g,kc,hk,rfl,hg,ho⟩:=hrel;have y4:=hg.p.cell 4 _ rfl;have HGS:Hid (gS w (hoL H s) (hoL H { s with a1:=sQ ⟨g,0,nn⟩,n1:=k,k1:=kc }) wr):=hg;have HO:Hid (wr.ownsRow (w.heap.size+3) 180 3 (sL (sQ ⟨g,0,nn⟩) k kc) k (c3 (H.fs.take k))):=ho;clear hg ho;by_cases hlt:k<s.n1
  .have hkl:k<H.fs.length:=by have:=HH.o.fs.len;omega
   obtain⟨g0,o0,ha,hc⟩:=HH.o.fs.cells (by intro e;rw[e] at hkl;exact Qy hkl (nN _));have HKB:Hid (k<=100000000):=(by have h1:=HN.o.fs;show _<=_;omega)
   have hgz:g0<w.heap.size:=QC w _ (hc k hkl).c0;have hR:w.rangeAt g0 (o0+k*3) (rc3 H.fs[k]):=(hc k hkl).range;have hC:=BZ H.fs k hkl;generalize H.fs[k]=f at *;obtain⟨fe,fm,fk⟩:=f;rw[ha] at y4
   have HS:Hid (∀ W,hS w (hoL H s) W->W.cell? ⟨w.heap.size,4,nn⟩=sQ (sL (sQ ⟨g0,o0,nn⟩) s.n1 s.k1)/\W.cell? ⟨g0,o0+k*3,nn⟩=sQ (bO fe)/\W.cell? ⟨g0,o0+k*3+1,nn⟩=sQ (I Zk fm)/\W.cell? ⟨g0,o0+k*3+2,nn⟩=sQ (I Zk fk)):=fun W h=>by
    have r:=lW hR h.b hgz;exact⟨by have:=h.p.cell 4 _ rfl;rw[ha] at this;exact this,r 0 _ rfl,r 1 _ rfl,r 2 _ rfl⟩
   have HC:Hid (c3 (H.fs.take k)++[bO fe,I Zk fm,I Zk fk]=c3 (H.fs.take (k+1))):=hC;have hsD:=(HGS.o.below (bW _ _).drew).hs;have HGA:Hid (gS w (hoL H s) (hoL H { s with a1:=sQ ⟨g,0,nn⟩,n1:=k,k1:=kc }) (wr.alloc (.cells #[bO fe,I Zk fm,I Zk fk] 180)).drew):=HGS.o.below Zw.drew;have hsA:=HGA.o.hs;have y5:=HGS.o.q.cell 4 _ rfl;have y6:=(HGS.o.q.alloc (.cells #[bO fe,I Zk fm,I Zk fk] 180)).cell 4 _ rfl;have hgl:=QB HO.o g rfl;have HOA:Hid ((wr.alloc (.cells #[bO fe,I Zk fm,I Zk fk] 180)).drew.ownsRow (w.heap.size+3) 180 3 (sL (sQ ⟨g,0,nn⟩) k kc) k (c3 (H.fs.take k))):=oK HO.o (by show (wr.alloc _).heap[_]?=_;exact Below.heap_alloc _ _ _ hgl.2);clear hc hR hC ha hgz;have hlt2:(k:Int)<(s.n1:Int):=om;go_wp2_with fail;clear y4;obtain⟨z4,r0,r1,r2⟩:=HS.o _ hsD
   clear HS hsD hsA;go_region_law
    (first | (refine iQ (.tmp 18) (.tmp 24) 36 180 _ 3 12 info180 underlying36 rfl (by decide) (by decide) (by rfl) (w.heap.size+3) g k kc (c3 (H.fs.take k)) (by rfl) HOA.o wr.heap.size [bO fe,I Zk fm,I Zk fk] (by rfl) rfl (blk.new wr [bO fe,I Zk fm,I Zk fk] 180) (EL _ _ _) HKB.o (by have:=HGS.o.z;simp;omega) ?_;intro g' k' w6 ho6 hg6 hg' hB6;rw[HC.o] at ho6;have hG6:=HGA.o.grown hg6 om;have xq:=hG6.q.cell 4 _ rfl;have fq:=hG6.q.free 4;have hG7:=hG6.set 4 (sL (sQ ⟨g',0,nn⟩) (k+1) k');have ho7:=oK (w':=w6.setCell ⟨(w.heap.size+1+1),4,nn⟩ (sL (sQ ⟨g',0,nn⟩) (k+1) k')) ho6 (by rw[QA _ _ _ _ (by show g'≠_+_+_;omega)])))
   all_goals
    have HG7:Hid _:=hG7;have HO7:Hid _:=ho7;have hkb:=HKB.o;clear hG7 ho7 hG6 ho6 hg6 hg' hB6 xq fq hgl;go_wp2_with fail;go_roundw;case rel=>exact⟨k+1,g',k',om,by go_num,HG7.o,HO7.o⟩
    case measure=>simp[intOf];omega
  .have hkn:k=s.n1:=om;clear hk hlt;subst hkn;have HF1:Hid (St (w.heap.size+3) wr (fun W=>bj W (sQ ⟨g,0,nn⟩) s.n1 kc H.fs/\W.ownsRow (w.heap.size+3) 180 3 (sL (sQ ⟨g,0,nn⟩) s.n1 kc) s.n1 (c3 H.fs))):=by
    have hl:=HH.o.fs.len;have:=HO.o;rw[qf om] at this;obtain⟨g',c',e',q1,q2,q3,q4,q5⟩:=B7 hl this (by intro e;cases e);cases e';exact fun W hW=>⟨q5 W hW,oK this (hW g q1 q2)⟩
   have HGF:Hid (w.heap.size+3<=g/\g<wr.heap.size):=QB HO.o g rfl;have HZ3:Hid (w.heap.size+3<=wr.heap.size):=HGS.o.z;clear HO;rename Wd=>wa
   obtain⟨gf,rfl⟩ : ∃ x,x=g:=⟨_,rfl⟩
   obtain⟨kf,rfl⟩ : ∃ x,x=kc:=⟨_,rfl⟩
   have xL:=(HGS.o.q.alloc (.cells #[] 116)).cell 5 _ rfl;have fL:=(HGS.o.q.alloc (.cells #[] 116)).free 5;go_wp2_with fail;clear xL fL y4;have hg1:gS w (hoL H s) (hoL H { s with a1:=sQ ⟨gf,0,nn⟩,k1:=kf,a2:=sQ ⟨wa.heap.size,0,nn⟩,n2:=0,k2:=0 }) _:=(HGS.o.below ((bW _ _).alloc (nR _) (.cells #[] 116))).set 5 (sL (sQ ⟨wa.heap.size,0,nn⟩) 0 0);have ho1:=(cH.nil rc8 wa wa.heap.size 116 8 (nR _)).set (w.heap.size+1+1) 5 (by have:=HZ3.o;omega) [sL (sQ ⟨wa.heap.size,0,nn⟩) 0 0];have hk1:=((Kp.refl (w.heap.size+3) wa).below ((bW _ _).alloc (nR _) (.cells #[] 116))).set (w.heap.size+1+1) 5 om (sL (sQ ⟨wa.heap.size,0,nn⟩) 0 0);clear HGS;go_loopw [5] (fun t wr=>∃ (k g kc:Nat) (rs:List (R8 × Nat × Nat)),k<=s.n2/\t = I J (k:Int)/\gS w (hoL H s) (hoL H { s with a1:=sQ ⟨gf,0,nn⟩,k1:=kf,a2:=sQ ⟨g,0,nn⟩,n2:=k,k2:=kc }) wr/\cH rc8 wr wa.heap.size 116 8 g kc rs/\rs.map (·.1)=H.bx.take k/\Kp (w.heap.size+3) wa wr) (fun t _=>s.n2-(intOf t).toNat);case atStart=>exact⟨0,_,0,[],nZ _,rfl,hg1,ho1,pQ,hk1⟩
   case round=>
    clear hg1 ho1 hk1;obtain⟨k,g,kc,rs,hk,rfl,hg,ho,hm,hkp⟩:=hrel;have yL:=hg.p.cell 5 _ rfl;have HGS:Hid (gS w (hoL H s) (hoL H { s with a1:=sQ ⟨gf,0,nn⟩,k1:=kf,a2:=sQ ⟨g,0,nn⟩,n2:=k,k2:=kc }) wr):=hg;have HO:Hid (cH rc8 wr wa.heap.size 116 8 g kc rs):=ho;have HKP:Hid (Kp (w.heap.size+3) wa wr):=hkp;clear hg ho hkp;by_cases hlt:k<s.n2
    .have hkl:k<H.bx.length:=by have:=HH.o.bx.len;omega
     obtain⟨g0,o0,ha,hc⟩:=(HH.o.below HGS.o.b).bx.cells (by intro e;rw[e] at hkl;exact Qy hkl (nN _));obtain⟨ao,m,c,hat⟩:=hc k hkl;have HKB:Hid (k<=100000000):=(by have h1:=HN.o.bx;show _<=_;omega)
     have hMM:=HN.o.bd k hkl;have HTK:Hid (∀ gd kd:Nat,List.map (fun p:R8 × Nat × Nat=>p.1) (rs++[(H.bx[k],gd,kd)])=H.bx.take (k+1)):=fun gd kd=>Cu hm hkl (H.bx[k],gd,kd) rfl;have HLN:Hid (rs.length=k):=im hm om;clear hc hm;generalize H.bx[k]=bk at *;obtain⟨x,y,z,e,i,r,d,l⟩:=bk;obtain⟨r0,r1,r2,r3,r4,r5,r6,r7,hD⟩:=hat;have hM:=hD.len;dsimp only at r0 r1 r2 r3 r4 r5 r6 r7 hD hM hMM;have HM:Hid (m=l.length/\m<=1048576):=⟨hM,om⟩
     rw[ha] at yL;have HDT:Hid (iB wr.drew ao m c l):=hD.below (bW _ _).drew;have y5:=HGS.o.q.cell 5 _ rfl;clear hD hM hMM ha;have hlt2:(k:Int)<(s.n2:Int):=om
     go_wp2_with fail;go_region_law
      (first
       | (refine iQ (.tmp 37) (.tmp 44) 37 116 _ 8 72 info116 underlying37 rfl (by decide) (by decide) (by rfl) wa.heap.size g k kc (rs.flatMap rc8.enc) (by rfl) (by have:=HOA.o.own;rw[HLN.o] at this;exact this) wc.heap.size [I J x,I J y,I J z,bO e,I Zk (i:Int),bO r,I J d,sL (sQ ⟨gd,0,nn⟩) m kd] (by rfl) rfl (blk.new wc [I J x,I J y,I J z,bO e,I Zk (i:Int),bO r,I J d,sL (sQ ⟨gd,0,nn⟩) m kd] 116) (CA _ _ _ _ _ _ _ _ _ _ ) HKB.o (by have:=HO.o.lt;have:=HBC.o.size;simp;omega) ?_;intro g' k' w6 ho6 hg6 hg' hB6;have hG6:=HGA.o.grown hg6 (by have:=HZ3.o;have:=HO.o.lt;omega);have xq:=hG6.q.cell 5 _ rfl;have fq:=hG6.q.free 5;have hG7:gS w (hoL H s) (hoL H { s with a1:=sQ ⟨gf,0,nn⟩,k1:=kf,a2:=sQ ⟨g',0,nn⟩,n2:=k+1,k2:=k' }) _:=hG6.set 5 (sL (sQ ⟨g',0,nn⟩) (k+1) k');have ho7:=(HOA.o.snoc ((⟨x,y,z,e,i,r,d,l⟩),gd,kd) (by show iB _ (sQ ⟨gd,0,nn⟩) l.length kd l;rw[<- HM.o.1];exact HQ.o.2.2.below Zw) (by show wa.heap.size<=gd;have:=HQ.o.1;have:=HO.o.lt;omega) (by show gd≠g;have:=HQ.o.1;have:=HO.o.lt;omega) (by show gd<_;have:=HQ.o.2.1;simp;omega) (by rw[HLN.o];have e0:rc8.enc ((⟨x,y,z,e,i,r,d,l⟩),gd,kd)=[I J x,I J y,I J z,bO e,I Zk (i:Int),bO r,I J d,sL (sQ ⟨gd,0,nn⟩) m kd]:=(by rw[HM.o.1];rfl);rw[e0];exact ho6) hg6 hg').set (w.heap.size+1+1) 5 (by have:=HZ3.o;omega) [sL (sQ ⟨g',0,nn⟩) (k+1) k'];have hk7:=((HKP.o.below (HBC.o.alloc HBC.o.size _)).grown hg6 (by have:=HO.o.lt;omega)).set (w.heap.size+1+1) 5 om (sL (sQ ⟨g',0,nn⟩) (k+1) k'))
       | (go_simp;go_at_call 117;refine (mh wr.drew x y z e i r d ao m c l HDT.o HM.o.2).mono ?_;rintro o wc ⟨gd,kd,rfl,⟨q1,q2,q3,q4⟩,hbc⟩;have HBC:Hid (Bl wr wc):=(bW _ _).drew.trans hbc;have HQ:Hid (wr.heap.size<=gd/\gd<wc.heap.size/\iB wc (sQ ⟨gd,0,nn⟩) m kd l):=⟨q1,q2,q3.now⟩;have HGA:Hid (gS w (hoL H s) (hoL H { s with a1:=sQ ⟨gf,0,nn⟩,k1:=kf,a2:=sQ ⟨g,0,nn⟩,n2:=k,k2:=kc }) (wc.alloc (.cells #[I J x,I J y,I J z,bO e,I Zk (i:Int),bO r,I J d,sL (sQ ⟨gd,0,nn⟩) m kd] 116))):=HGS.o.below (HBC.o.alloc HBC.o.size _);have HOA:Hid (cH rc8 (wc.alloc (.cells #[I J x,I J y,I J z,bO e,I Zk (i:Int),bO r,I J d,sL (sQ ⟨gd,0,nn⟩) m kd] 116)) wa.heap.size 116 8 g kc rs):=HO.o.below (HBC.o.alloc HBC.o.size _);have y6:=(HGS.o.below HBC.o).q.cell 5 _ rfl;have y7:=HGA.o.q.cell 5 _ rfl;clear q1 q2 q3 q4 hbc;go_wp2_with fail))
     all_goals
      have HG7:Hid _:=hG7;have HO7:Hid _:=ho7;have HK7:Hid _:=hk7;have hkb:=HKB.o;clear hG7 ho7 hk7 hG6 ho6 hg6 hg' hB6 xq fq;go_wp2_with fail;go_roundw;case rel=>exact⟨k+1,g',k',_,om,by go_num,HG7.o,HO7.o,HTK.o gd kd,HK7.o⟩
      case measure=>simp[intOf];omega
    .have hkn:k=s.n2:=om;clear hk hlt;subst hkn;have hln:=im hm (by have:=HH.o.bx.len;omega);rw[qf (by have:=HH.o.bx.len;omega)] at hm;have HF2:Hid (St (w.heap.size+3) wr (fun W=>cR wa.heap.size wr.heap.size 116 g s.n2 kc H.bx W)):=fun W hW=>⟨rs,HO.o.st (fun x h1 h2=>hW x (nT HZ3.o h1) h2),hm,hln,HO.o.lt.2,fun p hp=>(HO.o.dat p hp).2.2.2⟩
     have HSZ1:Hid (wa.heap.size<=wr.heap.size):=HKP.o.size;replace HF1:Hid _:=St.kp HF1.o HKP.o
     replace HZ3:Hid (w.heap.size+3<=wr.heap.size):=HGS.o.z
     clear HO HKP hm hln;rename Wd=>wb
     obtain⟨gb,rfl⟩ : ∃ x,x=g:=⟨_,rfl⟩
     obtain⟨kb,rfl⟩ : ∃ x,x=kc:=⟨_,rfl⟩
     have xL:=(HGS.o.q.alloc (.cells #[] 67)).cell 6 _ rfl;have fL:=(HGS.o.q.alloc (.cells #[] 67)).free 6;go_wp2_with fail;clear xL fL yL;have hg1:gS w (hoL H s) (hoL H { s with a1:=sQ ⟨gf,0,nn⟩,k1:=kf,a2:=sQ ⟨gb,0,nn⟩,k2:=kb,a3:=sQ ⟨wb.heap.size,0,nn⟩,n3:=0,k3:=0 }) _:=(HGS.o.below ((bW _ _).alloc (nR _) (.cells #[] 67))).set 6 (sL (sQ ⟨wb.heap.size,0,nn⟩) 0 0);have ho1:=(cH.nil rc5 wb wb.heap.size 67 5 (nR _)).set (w.heap.size+1+1) 6 (by have:=HZ3.o;omega) [sL (sQ ⟨wb.heap.size,0,nn⟩) 0 0];have hk1:=((Kp.refl (w.heap.size+3) wb).below ((bW _ _).alloc (nR _) (.cells #[] 67))).set (w.heap.size+1+1) 6 om (sL (sQ ⟨wb.heap.size,0,nn⟩) 0 0);clear HGS;go_loopw [6] (fun t wr=>∃ (k g kc:Nat) (rs:List (R5 × Nat × Nat)),k<=s.n3/\t = I J (k:Int)/\gS w (hoL H s) (hoL H { s with a1:=sQ ⟨gf,0,nn⟩,k1:=kf,a2:=sQ ⟨gb,0,nn⟩,k2:=kb,a3:=sQ ⟨g,0,nn⟩,n3:=k,k3:=kc }) wr/\cH rc5 wr wb.heap.size 67 5 g kc rs/\rs.map (·.1)=H.ff.take k/\Kp (w.heap.size+3) wb wr) (fun t _=>s.n3-(intOf t).toNat);case atStart=>exact⟨0,_,0,[],nZ _,rfl,hg1,ho1,pQ,hk1⟩
     case round=>
      clear hg1 ho1 hk1;obtain⟨k,g,kc,rs,hk,rfl,hg,ho,hm,hkp⟩:=hrel;have yL:=hg.p.cell 6 _ rfl;have HGS:Hid (gS w (hoL H s) (hoL H { s with a1:=sQ ⟨gf,0,nn⟩,k1:=kf,a2:=sQ ⟨gb,0,nn⟩,k2:=kb,a3:=sQ ⟨g,0,nn⟩,n3:=k,k3:=kc }) wr):=hg;have HO:Hid (cH rc5 wr wb.heap.size 67 5 g kc rs):=ho;have HKP:Hid (Kp (w.heap.size+3) wb wr):=hkp;clear hg ho hkp;by_cases hlt:k<s.n3
      .have hkl:k<H.ff.length:=by have:=HH.o.ff.len;omega
       obtain⟨g0,o0,ha,hc⟩:=(HH.o.below HGS.o.b).ff.cells (by intro e;rw[e] at hkl;exact Qy hkl (nN _));obtain⟨ao,m,c,hat⟩:=hc k hkl;have HKB:Hid (k<=100000000):=(by have h1:=HN.o.ff;show _<=_;omega)
       have hMM:=HN.o.fd k hkl;have HTK:Hid (∀ gd kd:Nat,List.map (fun p:R5 × Nat × Nat=>p.1) (rs++[(H.ff[k],gd,kd)])=H.ff.take (k+1)):=fun gd kd=>Ev hm hkl (H.ff[k],gd,kd) rfl;have HLN:Hid (rs.length=k):=mM hm om;clear hc hm;generalize H.ff[k]=bk at *;obtain⟨e,i,r,d,l⟩:=bk;obtain⟨r0,r1,r2,r3,r4,hD⟩:=hat;have hM:=hD.len;dsimp only at r0 r1 r2 r3 r4 hD hM hMM;have HM:Hid (m=l.length/\m<=1048576):=⟨hM,om⟩
       rw[ha] at yL;have HDT:Hid (iB wr.drew ao m c l):=hD.below (bW _ _).drew;have y5:=HGS.o.q.cell 6 _ rfl;clear hD hM hMM ha;have hlt2:(k:Int)<(s.n3:Int):=om
       go_wp2_with fail;go_region_law
        (first
         | (refine iQ (.tmp 57) (.tmp 64) 38 67 _ 5 48 info67 underlying38 rfl (by decide) (by decide) (by rfl) wb.heap.size g k kc (rs.flatMap rc5.enc) (by rfl) (by have:=HOA.o.own;rw[HLN.o] at this;exact this) wc.heap.size [bO e,I Zk (i:Int),bO r,I J d,sL (sQ ⟨gd,0,nn⟩) m kd] (by rfl) rfl (blk.new wc [bO e,I Zk (i:Int),bO r,I J d,sL (sQ ⟨gd,0,nn⟩) m kd] 67) (EK _ _ _ _ _ _ _ ) HKB.o (by have:=HO.o.lt;have:=HBC.o.size;simp;omega) ?_;intro g' k' w6 ho6 hg6 hg' hB6;have hG6:=HGA.o.grown hg6 (by have:=HZ3.o;have:=HO.o.lt;omega);have xq:=hG6.q.cell 6 _ rfl;have fq:=hG6.q.free 6;have hG7:gS w (hoL H s) (hoL H { s with a1:=sQ ⟨gf,0,nn⟩,k1:=kf,a2:=sQ ⟨gb,0,nn⟩,k2:=kb,a3:=sQ ⟨g',0,nn⟩,n3:=k+1,k3:=k' }) _:=hG6.set 6 (sL (sQ ⟨g',0,nn⟩) (k+1) k');have ho7:=(HOA.o.snoc ((⟨e,i,r,d,l⟩),gd,kd) (by show iB _ (sQ ⟨gd,0,nn⟩) l.length kd l;rw[<- HM.o.1];exact HQ.o.2.2.below Zw) (by show wb.heap.size<=gd;have:=HQ.o.1;have:=HO.o.lt;omega) (by show gd≠g;have:=HQ.o.1;have:=HO.o.lt;omega) (by show gd<_;have:=HQ.o.2.1;simp;omega) (by rw[HLN.o];have e0:rc5.enc ((⟨e,i,r,d,l⟩),gd,kd)=[bO e,I Zk (i:Int),bO r,I J d,sL (sQ ⟨gd,0,nn⟩) m kd]:=(by rw[HM.o.1];rfl);rw[e0];exact ho6) hg6 hg').set (w.heap.size+1+1) 6 (by have:=HZ3.o;omega) [sL (sQ ⟨g',0,nn⟩) (k+1) k'];have hk7:=((HKP.o.below (HBC.o.alloc HBC.o.size _)).grown hg6 (by have:=HO.o.lt;omega)).set (w.heap.size+1+1) 6 om (sL (sQ ⟨g',0,nn⟩) (k+1) k'))
         | (go_simp;go_at_call 118;refine (eM wr.drew e i r d ao m c l HDT.o HM.o.2).mono ?_;rintro o wc ⟨gd,kd,rfl,⟨q1,q2,q3,q4⟩,hbc⟩;have HBC:Hid (Bl wr wc):=(bW _ _).drew.trans hbc;have HQ:Hid (wr.heap.size<=gd/\gd<wc.heap.size/\iB wc (sQ ⟨gd,0,nn⟩) m kd l):=⟨q1,q2,q3.now⟩;have HGA:Hid (gS w (hoL H s) (hoL H { s with a1:=sQ ⟨gf,0,nn⟩,k1:=kf,a2:=sQ ⟨gb,0,nn⟩,k2:=kb,a3:=sQ ⟨g,0,nn⟩,n3:=k,k3:=kc }) (wc.alloc (.cells #[bO e,I Zk (i:Int),bO r,I J d,sL (sQ ⟨gd,0,nn⟩) m kd] 67))):=HGS.o.below (HBC.o.alloc HBC.o.size _);have HOA:Hid (cH rc5 (wc.alloc (.cells #[bO e,I Zk (i:Int),bO r,I J d,sL (sQ ⟨gd,0,nn⟩) m kd] 67)) wb.heap.size 67 5 g kc rs):=HO.o.below (HBC.o.alloc HBC.o.size _);have y6:=(HGS.o.below HBC.o).q.cell 6 _ rfl;have y7:=HGA.o.q.cell 6 _ rfl;clear q1 q2 q3 q4 hbc;go_wp2_with fail))
       all_goals
        have HG7:Hid _:=hG7;have HO7:Hid _:=ho7;have HK7:Hid _:=hk7;have hkb:=HKB.o;clear hG7 ho7 hk7 hG6 ho6 hg6 hg' hB6 xq fq;go_wp2_with fail;go_roundw;case rel=>exact⟨k+1,g',k',_,om,by go_num,HG7.o,HO7.o,HTK.o gd kd,HK7.o⟩
        case measure=>simp[intOf];omega
      .have hkn:k=s.n3:=om;clear hk hlt;subst hkn;have hln:=mM hm (by have:=HH.o.ff.len;omega);rw[qf (by have:=HH.o.ff.len;omega)] at hm;have HF3:Hid (St (w.heap.size+3) wr (fun W=>j0 wb.heap.size wr.heap.size 67 g s.n3 kc H.ff W)):=fun W hW=>⟨rs,HO.o.st (fun x h1 h2=>hW x (nT HZ3.o h1) h2),hm,hln,HO.o.lt.2,fun p hp=>(HO.o.dat p hp).2.2.2⟩
       have HSZ2:Hid (wb.heap.size<=wr.heap.size):=HKP.o.size;replace HF1:Hid _:=St.kp HF1.o HKP.o
       replace HF2:Hid _:=St.kp HF2.o HKP.o
       replace HZ3:Hid (w.heap.size+3<=wr.heap.size):=HGS.o.z
       clear HO HKP hm hln;rename Wd=>wq
       obtain⟨gq,rfl⟩ : ∃ x,x=g:=⟨_,rfl⟩
       obtain⟨kq,rfl⟩ : ∃ x,x=kc:=⟨_,rfl⟩
       have y7:=HGS.o.p.cell 7 _ rfl;have HL4:Hid (s.n4<=1048576):=by
        have h1:=HH.o.qu.len;have h2:=HN.o.qu;show _<=_;omega
       go_wp2_with (first
        | (go_at_call 119;refine (jH wq s.a4 s.n4 s.k4 H.qu (HH.o.qu.below HGS.o.b) HL4.o HN.o.qd).mono ?_;rintro o w7 ⟨g4,kc4,rfl,⟨q1,q2,q3⟩,hb7⟩;have HG7:Hid (gS w (hoL H s) (hoL H { s with a1:=sQ ⟨gf,0,nn⟩,k1:=kf,a2:=sQ ⟨gb,0,nn⟩,k2:=kb,a3:=sQ ⟨gq,0,nn⟩,k3:=kq,a4:=sQ ⟨g4,0,nn⟩,k4:=kc4 }) (w7.setCell ⟨(w.heap.size+1+1),7,nn⟩ (sL (sQ ⟨g4,0,nn⟩) s.n4 kc4))):=(HGS.o.below hb7).set 7 (sL (sQ ⟨g4,0,nn⟩) s.n4 kc4);have HB7:Hid (Bl wq w7):=hb7;have HQ7:Hid (St (w.heap.size+3) w7 (fun W=>cR wq.heap.size w7.heap.size 175 g4 s.n4 kc4 H.qu W)):=q3.mono HZ3.o;have x7:=(HGS.o.below hb7).q.cell 7 _ rfl;have f7:=(HGS.o.below hb7).q.free 7;clear q1 q2 q3 hb7)
        | (refine ZG 41 HG7.o.q.load underlying41 (px _ _) ?_)
        | (refine Zs 41 (hoL H { s with a1:=sQ ⟨gf,0,nn⟩,k1:=kf,a2:=sQ ⟨gb,0,nn⟩,k2:=kb,a3:=sQ ⟨gq,0,nn⟩,k3:=kq,a4:=sQ ⟨g4,0,nn⟩,k4:=kc4 }).toArray (HG7.o.r.there 0 10 pQ) (Cw _ _) (oC _ _) ?_;generalize hW8:World.setCells (World.setCell _ _ _) (w.heap.size+1) 0 _=w8;have HW8:Hid (World.setCells (w7.setCell ⟨(w.heap.size+1+1),7,nn⟩ (sL (sQ ⟨g4,0,nn⟩) s.n4 kc4)) (w.heap.size+1) 0 (hoL H { s with a1:=sQ ⟨gf,0,nn⟩,k1:=kf,a2:=sQ ⟨gb,0,nn⟩,k2:=kb,a3:=sQ ⟨gq,0,nn⟩,k3:=kq,a4:=sQ ⟨g4,0,nn⟩,k4:=kc4 })=w8):=hW8;clear hW8))
       have e8:=HW8.o;have hF:blk w8 (w.heap.size+1) (hoL H { s with a1:=sQ ⟨gf,0,nn⟩,k1:=kf,a2:=sQ ⟨gb,0,nn⟩,k2:=kb,a3:=sQ ⟨gq,0,nn⟩,k3:=kq,a4:=sQ ⟨g4,0,nn⟩,k4:=kc4 }) 41:=e8 ▸ (by simpa using blk.put [] z10 [] (hoL H { s with a1:=sQ ⟨gf,0,nn⟩,k1:=kf,a2:=sQ ⟨gb,0,nn⟩,k2:=kb,a3:=sQ ⟨gq,0,nn⟩,k3:=kq,a4:=sQ ⟨g4,0,nn⟩,k4:=kc4 }) (by simpa using HG7.o.r) rfl);refine bC results55 (QI (P:=Tp) w8 (w.heap.size+1) 0 41 _ _ hF.load underlying41 rfl (px _ _)) ?_;have k8:Kp (w.heap.size+3) w7 w8:=by
        rw[<- e8];have h1:=(Kp.refl (w.heap.size+3) w7).set (w.heap.size+1+1) 7 om (sL (sQ ⟨g4,0,nn⟩) s.n4 kc4);exact⟨fun b h2 h3=>(sO _ _ om _ _ _).trans (h1.same b h2 h3),by rw[sZ];exact h1.size⟩
       have k7:=(Kp.refl (w.heap.size+3) wq).below HB7.o;refine⟨gf,kf,gb,kb,gq,kq,g4,kc4,wa.heap.size,wb.heap.size,wq.heap.size,w7.heap.size,rfl,⟨HGF.o.1,HGF.o.2,HSZ1.o,HSZ2.o,HB7.o.size,k8.size⟩,fun W hW=>⟨(St.kp (St.kp HF1.o k7) k8 W hW).1,St.kp (St.kp HF2.o k7) k8 W hW,St.kp (St.kp HF3.o k7) k8 W hW,St.kp HQ7.o k8 W hW⟩,fun W hW=>(St.kp (St.kp HF1.o k7) k8 W hW).2,?_⟩;rw[<- e8];exact sW om _ _ HG7.o.b
end
end Go.Proofs.YtgfolecanghhhaaGreat
