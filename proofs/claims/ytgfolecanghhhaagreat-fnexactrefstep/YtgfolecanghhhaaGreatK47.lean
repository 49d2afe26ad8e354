import Derived.Test.YtgfolecanghhhaaGreatK44
namespace Go.Proofs.YtgfolecanghhhaaGreat
open Go.Proofs.Tryz
set_option maxRecDepth 20000
open Go.RowKit
set_option linter.all false
set_option maxHeartbeats 16000000
open Go.Value renaming int->I,slice->sL,bool->bO,pointer->pT,agg->aG
open Go.IntKind renaming i64->J
open Go.Ending renaming returned->rT
open Go.Proofs.Tryz renaming prog->Tp
section
variable {W:World} {C:Co} {s:Sl}
def DQ {hd:ByteArray} {Q:Nat->World->Prop} (hc:∀ X,Bl W X->Calls Tp 22 #[aG (coL C s).toArray,I J 1] X fun o w'=>∃ k:Nat,o = rT (I J (k:Int))/\Q k w') :
  Calls Tp 9 #[aG (rfL C s hd).toArray,I J 1] W fun o w'=>∃ k:Nat,o = rT (I J (k:Int))/\Q k w':=by
 have H0:Hid (blk (W.alloc (.cells (rfL C s hd).toArray 45)) W.heap.size (rfL C s hd) 45/\Bl W (W.alloc (.cells (rfL C s hd).toArray 45))):=⟨blk.new W _ 45,Zw⟩
 have HC:=ah hc;clear hc;go_enter func9,ntmps9
 go_wp2_with (refine ZG 43 (eH H0.o.1) underlying43 (cy C s) ?_)
 refine (HC.o _ H0.o.2).mono ?_;rintro o w2 ⟨k,rfl,hq⟩;have HQ:Hid (Q k w2):=hq;clear hq;go_wp2_with fail;go_ret;exact⟨k,rfl,HQ.o⟩
def Mr {hd:ByteArray} (k:Nat) (hc:∀ X,Bl W X->Calls Tp 23 #[aG (coL C s).toArray,I J 1] X fun o w'=>o = rT (I J (k:Int))/\Bl X w') :
  Calls Tp 10 #[aG (rfL C s hd).toArray,I J 1] W fun o w'=>o = rT (I J (k:Int))/\Bl W w':=by
 have H0:Hid (blk (W.alloc (.cells (rfL C s hd).toArray 45)) W.heap.size (rfL C s hd) 45/\Bl W (W.alloc (.cells (rfL C s hd).toArray 45))):=⟨blk.new W _ 45,Zw⟩
 have HC:=ah hc;have hk0:decide ((k:Int)<0)=false:=pQ;clear hc;go_enter func10,ntmps10
 go_wp2_with (refine ZG 43 (eH H0.o.1) underlying43 (cy C s) ?_)
 refine (HC.o _ H0.o.2).mono ?_;rintro o w2 ⟨rfl,hq⟩;have HQ:Hid (Bl W w2):=H0.o.2.trans (hq.mono H0.o.2.size);clear hq;go_wp2_with fail;go_ret;exact⟨rfl,HQ.o⟩
end
end Go.Proofs.YtgfolecanghhhaaGreat
