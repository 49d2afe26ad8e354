import Derived.Test.YtaamahohdnbpiaaGreatG14
namespace Go.Proofs.YtaamahohdnbpiaaGreat
open Go.RowKit
theorem app_recO {ops:Array Oper} {rest:List Oper} {o:Oper} {a:Act} {Q:Exit→Act→World→Prop} {w:World} (hgd:o.guard=none) (s x:Operand) (T E:TypeId) (Z:Value) (sz by_:Nat) (hi0:(Tryz.prog.info? E).map (fun i=>(i.zero,i.size,i.bytes))=some (some Z,sz,by_)) (hu:Tryz.prog.underlying T=some (.slice E)) (hZ:Z.cells.size=sz) (hsz:0<sz) (hby:by_≤1000)
  (ho:o.op = .call { callee:=.builtin .append,args:=#[s,x],argTypes:=#[T,T] })
  (B n:Nat) (v:Value) (xs:List Value) (hs:a.eval s=v) (hown:w.ownsRow B E sz v n xs) (b:Nat) (news:List Value) (hx:a.eval x = .slice (some ⟨b,0,none⟩) 1 1) (hl:news.length=sz) (hb:w.heap[b]?=some (.cells news.toArray E)) (h1:∀ u ∈ news,u.oneCell'=true) (hn:n≤100000000) (hB:B≤w.heap.size)
  (h:∀ g' k' w',w'.ownsRow B E sz (.slice (some ⟨g',0,none⟩) (n+1) k') (n+1) (xs++news)→(∀ k,k<w.heap.size→k<B→w'.heap[k]?=w.heap[k]?)→Below B w w'→wpList Tryz.prog ops Q rest (a.put o.dst (.slice (some ⟨g',0,none⟩) (n+1) k')) w') :
  wpList Tryz.prog ops Q (o :: rest) a w:=by
 obtain⟨i0,hi,hz0,hz1,hz2⟩:=info_parts hi0
 have hmul:(n+1)*by_≤(n+1)*1000:=Nat.mul_le_mul_left _ hby
 obtain⟨v',w',hr,h2,h3,h4,h5⟩:=run_append_own_at (P:=Tryz.prog) w B T o.type E i0 Z sz by_ hu hi hz0 hz1 hz2 hZ hsz v n xs hown ⟨b,0,none⟩ 1 1 news (by rw[hl,Nat.one_mul]) (by
  intro j u hj;have:=range_block hb j u hj
  rw[Addr.add_lit]
  exact this) h1 (by unfold maxLen;omega) (by omega) hB
 have hne:v'≠.slice none 0 0:=by
  intro e;obtain⟨_,e1⟩:=h4.1 e
  cases e1
 obtain⟨g',k',rfl,q1,q2,q3,q4⟩:=own_slice h2 hne
 refine wpList_plain hgd fun K hK=>?_
 unfold Oper.wp execOp
 simp only[ho,resolve,invoke,builtin,Sem.run_bind,Sem.run_pure,Result.andThen_ok,List.map_toArray,List.map_cons,List.map_nil,hs,hx,hr]
 have hB':Below B w w':=(Below.refl _ _).grown h3 hB (fun k hk=>(World.ownsRow.lt hown k hk).1)
 exact hK _ _ (h g' k' w' h2 (fun k hk hkB=>hB'.block k hkB) hB')
def e80:R8→List Value:=fun _=>[.int .i64 0,.int .i64 0,.int .i64 0,.bool false,.int .u32 0,.bool false,.int .i64 0,.slice none 0 0]
theorem e80_snoc (k:Nat):(List.replicate k bx0).flatMap e80++[.int .i64 0,.int .i64 0,.int .i64 0,.bool false,.int .u32 0,.bool false,.int .i64 0,.slice none 0 0]=(List.replicate (k+1) bx0).flatMap e80:=by
 rw[List.replicate_succ',List.flatMap_append,List.flatMap_cons,List.flatMap_nil,List.append_nil]
 rfl
theorem e80_row {w:World} {B m k:Nat} {ao:Option Addr} (h:w.ownsRow B 97 8 (.slice ao m k) m ((List.replicate m bx0).flatMap e80)):isR8s w ao m k (List.replicate m bx0):=by
 by_cases hn:(.slice ao m k:Value) = .slice none 0 0
 ·cases hn
  exact⟨by simp,Nat.le_refl _,fun e=>absurd rfl e⟩
 ·obtain⟨g,c,e,q1,q2,q3,q4⟩:=own_slice h hn
  cases e
  refine⟨by simp,q3,fun _=>⟨g,0,rfl,fun j hj=>⟨none,0,0,?_⟩⟩⟩
  have hj':j<m:=by simpa using hj
  have hc:∀ t,t<8→w.cell? ⟨g,j*8+t,none⟩=(e80 bx0)[t]?:=fun t ht=>by
   rw[q4 w rfl (j*8+t) (by omega),flat_at e80 8 (fun _=>rfl) _ j hj t ht]
   rfl
  rw[Nat.zero_add,List.getElem_replicate]
  exact⟨hc 0 (by omega),hc 1 (by omega),hc 2 (by omega),hc 3 (by omega),hc 4 (by omega),hc 5 (by omega),hc 6 (by omega),hc 7 (by omega),⟨rfl,Nat.le_refl _,fun _ hx=>(by cases hx),fun hne=>absurd rfl hne⟩⟩
end Go.Proofs.YtaamahohdnbpiaaGreat
