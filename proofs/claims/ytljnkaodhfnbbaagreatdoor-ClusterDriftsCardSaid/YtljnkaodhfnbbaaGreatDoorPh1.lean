import Derived.WalkKit
import Derived.Laws.AppendOwn
import Derived.OwnWalk
import Derived.Laws.OwnMore
import Derived.BigQuiet
import Derived.OneCell
import Derived.Deep.Draws
import Derived.Lib.Hide
import Derived.Test.YtljnkaodhfnbbaaGreatDoorChecked
import Derived.LoopTactic
import Derived.Outline
import Derived.Deep.LoopGhost
import Derived.Deep.QuietTactic
import Derived.WalkSmall
import Derived.Laws.ResultCell
import Derived.ChangeKeysEq
import Derived.Laws.StructEq
import Derived.Laws.Rows
import Derived.Deep.WholeRow
import Derived.OrdersHeld
import Derived.Deep.RegionHeld3
import Derived.Laws.MakeOwn
import Derived.Lib.BufferMore
import Derived.RangeFuncNested
import Derived.RangeFuncBound
import Derived.RangeFuncCalls
import Derived.RangeFuncLeaves
import Derived.RangeFuncWrites
import Derived.Shelf.Abstract
import Derived.Shelf.RegionOpen
import Derived.OwnWalkIn
import Derived.TacticsInMore
import Derived.LoopNIn
import Derived.LoopIn
set_option maxRecDepth 100000
namespace Go.Proofs.YtljnkaodhfnbbaaGreatDoor.Rw
open Go.RowKit
structure Kind (α:Type) where
 enc:α→List Value
 n:Nat
 pos:0 < n
 len:∀ a,(enc a).length=n
 one:∀ a,∀ u∈enc a,u.oneCell'=true
 dft:α
def int (k:IntKind):Kind Int:=⟨fun z=>[.int k z],1,by decide,fun _=>rfl,fun _ u h=>by simp at h;subst h;rfl,0⟩
section
variable {α:Type} (K:Kind α)
def Kind.flat (l:List α):List Value:=l.flatMap K.enc
theorem flat_length:∀ l:List α,(K.flat l).length=l.length * K.n
 | []=>by simp [Kind.flat]
 | s :: r=>by
   have ih:=flat_length r;simp only [Kind.flat,List.flatMap_cons,List.length_append,K.len,List.length_cons] at ih ⊢;rw [ih,Nat.add_mul,Nat.one_mul,Nat.add_comm]
theorem flat_append (a b:List α):K.flat (a ++ b)=K.flat a ++ K.flat b:=by simp [Kind.flat]
theorem flat_one (l:List α):∀ u∈K.flat l,u.oneCell'=true:=fun u hu=>by
 obtain ⟨a,_,h⟩:=List.mem_flatMap.1 hu;exact K.one a u h
theorem flat_get:∀ (l:List α) (i j:Nat),i < l.length→j < K.n→(K.flat l)[i * K.n+j]? = (K.enc (l.getD i K.dft))[j]?
 | s :: r,0,j,_,hj=>by
   show (K.enc s ++ K.flat r)[0 * K.n+j]? = (K.enc s)[j]?
   rw [Nat.zero_mul,Nat.zero_add,List.getElem?_append_left (by rw [K.len];exact hj)]
 | s :: r,i+1,j,h,hj=>by
   have ih:=flat_get r i j (by simpa using h) hj
   show (K.enc s ++ K.flat r)[(i+1) * K.n+j]? = (K.enc (r.getD i K.dft))[j]?
   rw [List.getElem?_append_right (by rw [K.len,Nat.add_mul];omega),K.len,show (i+1) * K.n+j - K.n=i * K.n+j by rw [Nat.add_mul];omega];exact ih
def At (w:World) (b off:Nat) (l:List α):Prop:=∀ i,i < l.length→∀ j u,(K.enc (l.getD i K.dft))[j]? = some u→w.cell? ⟨b,off+i * K.n+j,none⟩=some u
def Rd (w:World) (v:Value) (l:List α):Prop:=∃ a cap,v = .slice a l.length cap∧(l.length≤cap∧(a=none→cap=0))∧cap≤maxLen∧(0 < l.length→∃ b off,a=some ⟨b,off,none⟩∧At K w b off l)
def Ow (w:World) (B E:Nat) (v:Value) (l:List α):Prop:=w.ownsRow B E K.n v l.length (K.flat l)
variable {K}
variable {w w':World} {B E:Nat} {v:Value} {l:List α}
theorem At.below {b off:Nat} (h:At K w b off l) (hb:Below w.heap.size w w'):At K w' b off l:=fun i hi j u hu=>(hb.cell (World.block_lt_of_cell? _ _ (h i hi j u hu))).trans (h i hi j u hu)
theorem Rd.below (h:Rd K w v l) (hb:Below w.heap.size w w'):Rd K w' v l:=by
 obtain ⟨a,cap,e,h1,h2,h3⟩:=h;exact ⟨a,cap,e,h1,h2,fun hp=>by obtain ⟨b,off,ea,hA⟩:=h3 hp;exact ⟨b,off,ea,hA.below hb⟩⟩
theorem Rd.slice (h:Rd K w v l):∃ a cap,v = .slice a l.length cap∧cap≤maxLen:=by
 obtain ⟨a,cap,e,_,h2,_⟩:=h;exact ⟨a,cap,e,h2⟩
theorem Rd.nil (w:World):Rd K w (.slice none 0 0) []:=⟨none,0,rfl,⟨Nat.le_refl _,fun _=>rfl⟩,by unfold maxLen;omega,fun h=>by simp at h⟩
theorem Ow.nil (w:World) (B E:Nat):Ow K w B E (.slice none 0 0) []:=World.ownsRow_nil _ _ _ _
theorem Ow.made (w:World) (B E:Nat) (hB:B≤w.heap.size):Ow K (w.alloc (.cells #[] E)) B E (.slice (some ⟨w.heap.size,0,none⟩) 0 0) [] :=
 World.ownsRow_made w #[] 0 hB (by unfold maxLen;omega) (by simp)
theorem Ow.rd (h:Ow K w B E v l):Rd K w v l:=by
 have hc:=fun g hg j u=>World.ownsRow.cells h (g:=g) hg j u;obtain ⟨_,h⟩:=h
 rcases h with ⟨rfl,h0⟩ | ⟨g,cap,cur,rfl,_,_,h1,h2,_⟩
 ·exact ⟨none,0,by rw [h0],⟨by omega,fun _=>rfl⟩,by unfold maxLen;omega,fun h=>by omega⟩
 ·refine ⟨_,cap,rfl,⟨h1,nofun⟩,h2,fun _=>⟨g,0,rfl,fun i hi j u hu=>?_⟩⟩
  have hj:j < K.n:=by have:=(List.getElem?_eq_some_iff.1 hu).1;rw [K.len] at this;exact this
  have c:=hc g rfl _ _ ((flat_get K l i j hi hj).trans hu);simp only [Addr.add_lit] at c;rw [Nat.add_assoc];exact c
theorem Ow.form (h:Ow K w B E v l) (hl:0 < l.length):∃ g cap,v = .slice (some ⟨g,0,none⟩) l.length cap∧B≤g∧g < w.heap.size∧l.length≤cap∧cap≤maxLen∧(∀ k,w.frozen? ⟨g,k,none⟩=false)∧At K w g 0 l:=by
 have hr:=h.rd;obtain ⟨_,h⟩:=h
 rcases h with ⟨_,h0⟩ | ⟨g,cap,cur,rfl,hB,hh,h1,h2,_⟩
 ·omega
 ·refine ⟨g,cap,rfl,hB,lt_of_block hh,h1,h2,fun k=>by simp [World.frozen?,hh],?_⟩
  obtain ⟨a,cap',e,_,_,h3⟩:=hr;obtain ⟨b,off,ea,hA⟩:=h3 hl;subst ea;injection e with e1 _ _;injection e1 with e1;injection e1 with e1 e2;subst e1 e2;exact hA
theorem Ow.slice (h:Ow K w B E v l):∃ a cap,v = .slice a l.length cap∧l.length≤cap∧cap≤maxLen:=by
 obtain ⟨_,h⟩:=h
 rcases h with ⟨rfl,h0⟩ | ⟨g,cap,cur,rfl,_,_,h1,h2,_⟩
 ·exact ⟨none,0,by rw [h0],by omega,by unfold maxLen;omega⟩
 ·exact ⟨_,_,rfl,h1,h2⟩
theorem Ow.alloc (h:Ow K w B E v l) (o:Obj):Ow K (w.alloc o) B E v l:=World.ownsRow.alloc h o
theorem Ow.draw (h:Ow K w B E v l) (n:Nat):Ow K (w.drewN n) B E v l:=h
theorem Ow.keep (h:Ow K w B E v l) (hb:Below w.heap.size w w'):Ow K w' B E v l:=by
 obtain ⟨h1,h2⟩:=h;refine ⟨h1,?_⟩
 rcases h2 with h2 | ⟨g,cap,cur,e,hB,hh,r⟩
 ·exact .inl h2
 ·exact .inr ⟨g,cap,cur,e,hB,(hb.block g (lt_of_block hh)).trans hh,r⟩
theorem Ow.low {B':Nat} (h:Ow K w B E v l) (hB:B'≤B):Ow K w B' E v l:=by
 obtain ⟨h1,h2⟩:=h;refine ⟨h1,?_⟩
 rcases h2 with h2 | ⟨g,cap,cur,e,hb,hh,r⟩
 ·exact .inl h2
 ·exact .inr ⟨g,cap,cur,e,by omega,hh,r⟩
theorem heap_setCell_same {g j:Nat} {cur:Array Value} {E:TypeId} (hh:w.heap[g]? = some (.cells cur E (0,0))) (u:Value):(w.setCell ⟨g,j,none⟩ u).heap[g]? = some (.cells (cur.setIfInBounds j u) E (0,0)):=by
 have hlt:=lt_of_block hh;have h':w.heap[g] = .cells cur E (0,0):=by simpa [Array.getElem?_eq_getElem hlt] using hh
 show (w.heap.modify g _)[g]? = _
 rw [Array.getElem?_eq_getElem (by simpa using hlt),Array.getElem_modify_self,h']
 rfl
theorem flat_set:∀ (l:List α) (i j:Nat) (u:Value) (s:α),i < l.length→j < K.n→K.enc s=(K.enc (l.getD i K.dft)).set j u→(K.flat l).set (i * K.n+j) u=K.flat (l.set i s)
 | a :: r,0,j,u,s,_,hj,he=>by
   show (K.enc a ++ K.flat r).set (0 * K.n+j) u=K.enc s ++ K.flat r
   have he':K.enc s=(K.enc a).set j u:=he;rw [Nat.zero_mul,Nat.zero_add,List.set_append_left _ _ (by rw [K.len];exact hj),he']
 | a :: r,i+1,j,u,s,h,hj,he=>by
   have ih:=flat_set r i j u s (by simpa using h) hj he
   show (K.enc a ++ K.flat r).set ((i+1) * K.n+j) u=K.enc a ++ K.flat (r.set i s)
   rw [List.set_append_right _ _ (by rw [K.len,Nat.add_mul];omega),K.len,show (i+1) * K.n+j - K.n=i * K.n+j by rw [Nat.add_mul];omega,ih]
theorem Ow.set {g cap:Nat} (h:Ow K w B E (.slice (some ⟨g,0,none⟩) l.length cap) l) (i j:Nat) (hi:i < l.length) (hj:j < K.n) (u:Value) (s:α) (he:K.enc s=(K.enc (l.getD i K.dft)).set j u) :
 Ow K (w.setCell ⟨g,i * K.n+j,none⟩ u) B E (.slice (some ⟨g,0,none⟩) l.length cap) (l.set i s):=by
 obtain ⟨h1,h2⟩:=h;refine ⟨by rw [flat_length],?_⟩
 rcases h2 with ⟨e,_⟩ | ⟨g',cap',cur,e,hB,hh,k1,k2,k3,k4⟩
 ·simp at e
 ·injection e with e1 e2 e3
  injection e1 with e1;injection e1 with e1;subst e1 e3;refine .inr ⟨_,_,_,by rw [List.length_set],hB,heap_setCell_same hh _,by rw [List.length_set];exact k1,k2,by simp [k3],?_⟩;rw [← flat_set l i j u s hi hj he,← k4,List.length_set]
  simp [List.take_set]
theorem Ow.push {v':Value} {s:α} (h:w'.ownsRow B E K.n v' (l.length+1) (K.flat l ++ K.enc s)):Ow K w' B E v' (l ++ [s]):=by
 show w'.ownsRow B E K.n v' (l ++ [s]).length (K.flat (l ++ [s]))
 rw [flat_append,List.length_append];have e:K.flat [s]=K.enc s:=by simp [Kind.flat]
 rw [e];exact h
theorem push_step {P:Program} {ops:Array Oper} {rest:List Oper} {o:Oper} {a:Act} {Q:Exit→Act→World→Prop} {T:TypeId} {z:Value} {bytes:Nat} (ht:P.underlying T=some (.slice E))
 (hi:(P.info? E).map (fun i=>(i.zero,i.size,i.bytes))=some (some z,K.n,bytes)) (hz:z.cells.size=K.n) (hby:bytes≤64) (hgd:o.guard=none) (s x:Operand)
 (ho:o.op = .call { callee:=.builtin .append,args:=#[s,x],argTypes:=#[T,T] }) (B:Nat) (v:Value) (l:List α) (hs:a.eval s=v) (hown:Ow K w B E v l)
 (ad:Addr) (c:α) (hx:a.eval x = .slice (some ad) 1 1) (hc:∀ j u,(K.enc c)[j]? = some u→w.cell? (ad.add j)=some u) (hlen:l.length < 2199023255552) (hB:B≤w.heap.size)
 (h:∀ v' w',Ow K w' B E v' (l ++ [c])→Below B w w'→wpList P ops Q rest (a.put o.dst v') w'):wpList P ops Q (o :: rest) a w:=by
 obtain ⟨i0,hi0,hz0,hz1,hz2⟩:=info_parts hi;have hb:(l.length+1) * bytes≤140737488355328:=Nat.le_trans (Nat.mul_le_mul (show l.length+1≤2199023255552 by omega) hby) (by omega);refine wpList_append_own _ hgd s x T ho B E i0 z K.n bytes ht hi0 hz0 hz1 hz2 hz K.pos v l.length (K.flat l) hs hown ad 1 1 (K.enc c) hx (by rw [K.len,Nat.one_mul]) hc (K.one c) (by unfold maxLen;omega) hb hB ?_
 intro v' w' h2 h3 _
 exact h v' w' (Ow.push h2) ((Below.refl B w).grown h3 hB fun k hk=>(World.ownsRow.lt hown k hk).1)
def Far (E:TypeId) (w w':World):Prop:=∀ (g:Nat) (cs:Array Value) (t:TypeId),w.heap[g]? = some (Obj.cells cs t (0,0))→t≠E→w'.heap[g]? = some (Obj.cells cs t (0,0))
theorem Far.refl (E:TypeId) (w:World):Far E w w:=fun _ _ _ h _=>h
theorem Ow.apart (h:Ow K w B E v l) {g:Nat} {cs:Array Value} {t:TypeId} (hg:w.heap[g]? = some (.cells cs t (0,0))) (ht:t≠E):v.ownBlock≠some g:=by
 obtain ⟨_,h⟩:=h
 rcases h with ⟨rfl,_⟩ | ⟨k,cap,cur,rfl,_,hh,_⟩
 ·simp [Value.ownBlock]
 ·intro e
  simp only [Value.ownBlock,Option.some.injEq] at e;subst e;rw [hg] at hh;injection hh with hh;injection hh with _ h2 _;exact ht h2
theorem far_grown (h:Ow K w B E v l) (hg:w.grownBy w' v.ownBlock):Far E w w':=fun g cs t hh ht=>by
 rw [hg.block g (lt_of_block hh) (fun e=>h.apart hh ht e.symm)];exact hh
theorem Ow.far (h:Ow K w B E v l) {p:Addr} {cs:Array Value} {t:TypeId} (hp:w.heap[p.block]? = some (.cells cs t (0,0))) (ht:t≠E) (u:Value):Ow K (w.setCell p u) B E v l:=by
 have ha:=h.apart hp ht;obtain ⟨h1,h2⟩:=h;refine ⟨h1,?_⟩
 rcases h2 with h2 | ⟨g,cap,cur,rfl,hB,hh,r⟩
 ·exact .inl h2
 ·have hne:g≠p.block:=fun e=>ha (by simp [Value.ownBlock,e])
  exact .inr ⟨g,cap,cur,rfl,hB,(Below.heap_setCell w p u g hne).trans hh,r⟩
theorem Ow.range (h:Ow K w B E v l) {g:Nat} (hg:g < B∨w.heap.size≤g):v.ownBlock≠some g:=fun e=>by
 have:=World.ownsRow.lt h g e
 omega
theorem Ow.off (h:Ow K w B E v l) {p:Addr} (hp:v.ownBlock≠some p.block) (u:Value):Ow K (w.setCell p u) B E v l:=by
 obtain ⟨h1,h2⟩:=h;refine ⟨h1,?_⟩
 rcases h2 with h2 | ⟨g,cap,cur,rfl,hB,hh,r⟩
 ·exact .inl h2
 ·have hne:g≠p.block:=fun e=>hp (by simp [Value.ownBlock,e])
  exact .inr ⟨g,cap,cur,rfl,hB,(Below.heap_setCell w p u g hne).trans hh,r⟩
theorem Ow.lit (w:World) (B E:Nat) (l:List α) (hB:B≤w.heap.size) (hm:l.length≤maxLen):Ow K (w.alloc (.cells (K.flat l).toArray E)) B E (.slice (some ⟨w.heap.size,0,none⟩) l.length l.length) l :=
 World.ownsRow_lit w _ l.length hB hm (by rw [List.size_toArray,flat_length])
theorem push_far {P:Program} {ops:Array Oper} {rest:List Oper} {o:Oper} {a:Act} {Q:Exit→Act→World→Prop} {T:TypeId} {z:Value} {bytes:Nat} (ht:P.underlying T=some (.slice E))
 (hi:(P.info? E).map (fun i=>(i.zero,i.size,i.bytes))=some (some z,K.n,bytes)) (hz:z.cells.size=K.n) (hby:bytes≤64) (hgd:o.guard=none) (s x:Operand)
 (ho:o.op = .call { callee:=.builtin .append,args:=#[s,x],argTypes:=#[T,T] }) (B:Nat) (v:Value) (l:List α) (hs:a.eval s=v) (hown:Ow K w B E v l)
 (ad:Addr) (c:α) (hx:a.eval x = .slice (some ad) 1 1) (hc:∀ j u,(K.enc c)[j]? = some u→w.cell? (ad.add j)=some u) (hlen:l.length < 2199023255552) (hB:B≤w.heap.size)
 (h:∀ v' w',Ow K w' B E v' (l ++ [c])→Below B w w'→Far E w w'→wpList P ops Q rest (a.put o.dst v') w'):wpList P ops Q (o :: rest) a w:=by
 obtain ⟨i0,hi0,hz0,hz1,hz2⟩:=info_parts hi;have hb:(l.length+1) * bytes≤140737488355328:=Nat.le_trans (Nat.mul_le_mul (show l.length+1≤2199023255552 by omega) hby) (by omega);refine wpList_append_own _ hgd s x T ho B E i0 z K.n bytes ht hi0 hz0 hz1 hz2 hz K.pos v l.length (K.flat l) hs hown ad 1 1 (K.enc c) hx (by rw [K.len,Nat.one_mul]) hc (K.one c) (by unfold maxLen;omega) hb hB ?_
 intro v' w' h2 h3 _
 exact h v' w' (Ow.push h2) ((Below.refl B w).grown h3 hB fun k hk=>(World.ownsRow.lt hown k hk).1) (far_grown hown h3)
theorem At.flat {b off:Nat} (h:At K w b off l):∀ j u,(K.flat l)[j]? = some u→w.cell? ⟨b,off+j,none⟩=some u:=fun j u hu=>by
 have hj:j < l.length * K.n:=by have:=(List.getElem?_eq_some_iff.1 hu).1;rw [flat_length] at this;exact this
 have hi:j / K.n < l.length:=Nat.div_lt_of_lt_mul (by rw [Nat.mul_comm];exact hj);have hr:j % K.n < K.n:=Nat.mod_lt _ K.pos;have e:j / K.n * K.n+j % K.n=j:=by rw [Nat.mul_comm];exact Nat.div_add_mod _ _
 have g:=flat_get K l (j / K.n) (j % K.n) hi hr;rw [e] at g;have c:=h (j / K.n) hi (j % K.n) u (g.symm.trans hu);rw [Nat.add_assoc,e] at c;exact c
theorem all_step {P:Program} {ops:Array Oper} {rest:List Oper} {o:Oper} {a:Act} {Q:Exit→Act→World→Prop} {T:TypeId} {z:Value} {bytes:Nat} (ht:P.underlying T=some (.slice E))
 (hi:(P.info? E).map (fun i=>(i.zero,i.size,i.bytes))=some (some z,K.n,bytes)) (hz:z.cells.size=K.n) (hby:bytes≤64) (hgd:Region.wanted o (yielded ops a.tmps)=true) (s x:Operand)
 (ho:o.op = .call { callee:=.builtin .append,args:=#[s,x],argTypes:=#[T,T] }) (B:Nat) (v:Value) (l:List α) (hs:a.eval s=v) (hown:Ow K w B E v l)
 (u:Value) (y:List α) (hx:a.eval x=u) (hu:Rd K w u y) (hlen:l.length+y.length < 2199023255552) (hB:B≤w.heap.size)
 (h:∀ v' w',Ow K w' B E v' (l ++ y)→Below B w w'→wpList P ops Q rest (a.put o.dst v') w'):wpList P ops Q (o :: rest) a w:=by
 obtain ⟨i0,hi0,hz0,hz1,hz2⟩:=info_parts hi;obtain ⟨ad,cap,rfl,h1,h2,h3⟩:=hu;have hb:(l.length+y.length) * bytes≤140737488355328:=Nat.le_trans (Nat.mul_le_mul (show l.length+y.length≤2199023255552 by omega) hby) (by omega);refine BigFrame.wpList_want hgd fun K' hK=>?_
 by_cases h0:0 < y.length
 ·obtain ⟨b,off,rfl,hA⟩:=h3 h0
  refine wp_append_own _ s x T ho B E i0 z K.n bytes ht hi0 hz0 hz1 hz2 hz K.pos v l.length (K.flat l) hs hown ⟨b,off,none⟩ y.length cap (K.flat y) hx (flat_length K y) ?_ (flat_one K y) (by unfold maxLen;omega) hb hB ?_
  ·intro j u hj
   have e:(⟨b,off,none⟩:Addr).add j=⟨b,off+j,none⟩:=by simp [Addr.add]
   rw [e];exact hA.flat j u hj
  ·intro v' w' g2 g3 _
   refine hK _ _ (h v' w' ?_ ((Below.refl B w).grown g3 hB fun k hk=>(World.ownsRow.lt hown k hk).1))
   show w'.ownsRow B E K.n v' (l ++ y).length (K.flat (l ++ y))
   rw [flat_append,List.length_append];exact g2
 ·have ey:y = []:=List.length_eq_zero_iff.1 (by omega)
  subst ey
  cases ad with
  | none =>
    obtain rfl:=h1.2 rfl;have hrun:=run_append_owned_none (P:=P) (w:=w) B T o.type E i0 K.n ht hi0 v l.length (K.flat l) hown;unfold Oper.wp;have hk:=hK _ _ (h v w (by rw [List.append_nil];exact hown) (Below.refl _ _));have hx':a.eval x = .slice none 0 0:=hx
    simp [execOp,ho,resolve,invoke,builtin,hs,hx',hrun,Result.andThen]
    exact hk
  | some ad =>
    refine wp_append_own _ s x T ho B E i0 z K.n bytes ht hi0 hz0 hz1 hz2 hz K.pos v l.length (K.flat l) hs hown ad 0 cap [] hx (by simp) (by simp) (by simp) (by unfold maxLen;simp at hlen;omega) (by simpa using hb) hB ?_
    intro v' w' g2 g3 _
    refine hK _ _ (h v' w' ?_ ((Below.refl B w).grown g3 hB fun k hk=>(World.ownsRow.lt hown k hk).1))
    show w'.ownsRow B E K.n v' (l ++ []).length (K.flat (l ++ []))
    rw [List.append_nil]
    simpa using g2
end
end Go.Proofs.YtljnkaodhfnbbaaGreatDoor.Rw
namespace Go.Proofs.YtljnkaodhfnbbaaGreatDoor.Fl
open Go.RowKit
open Rw (Rd Ow At)
abbrev R4:=Int×Int×Int×Int
def z4:R4:=(0,0,0,0)
def rec4 (r:R4):Value:=.agg #[.int .u8 r.1,.int .u8 r.2.1,.int .u8 r.2.2.1,.int .u8 r.2.2.2]
def K4:Rw.Kind R4:=⟨fun r=>[.int .u8 r.1,.int .u8 r.2.1,.int .u8 r.2.2.1,.int .u8 r.2.2.2],4,by decide,fun _=>rfl,fun _ u h=>by simp at h;rcases h with rfl | rfl | rfl | rfl <;> rfl,z4⟩
def file (p:Int) (v:Value):Value:=.agg #[.int .i64 p,v]
def hdr (p n:Int):R4:=(n,p,165,bits .xor .u8 (bits .xor .u8 n p) 165)
def rat (l:List R4) (i:Nat):R4:=l.getD i z4
def goodF (p:Int) (l:List R4):Prop:=0≤p∧p≤7∧1≤l.length∧l.length≤256∧rat l 0=hdr p ((l.length:Int) - 1)
instance (p:Int) (l:List R4):Decidable (goodF p l):=by unfold goodF;infer_instance
def goodFB (p:Int) (l:List R4):Bool:=decide (goodF p l)
theorem at4 {w:World} {b off:Nat} {l:List R4} (h:At K4 w b off l) (i:Nat) (hi:i < l.length) :
 w.cell? ⟨b,off+i * 4,none⟩=some (.int .u8 (rat l i).1)∧w.cell? ⟨b,off+i * 4+1,none⟩=some (.int .u8 (rat l i).2.1)∧w.cell? ⟨b,off+i * 4+2,none⟩=some (.int .u8 (rat l i).2.2.1)∧w.cell? ⟨b,off+i * 4+3,none⟩=some (.int .u8 (rat l i).2.2.2) :=
 ⟨h i hi 0 _ rfl,h i hi 1 _ rfl,h i hi 2 _ rfl,h i hi 3 _ rfl⟩
theorem at4_0 {w:World} {b off:Nat} {l:List R4} (h:At K4 w b off l) (hi:0 < l.length) :
 w.cell? ⟨b,off,none⟩=some (.int .u8 (rat l 0).1)∧w.cell? ⟨b,off+1,none⟩=some (.int .u8 (rat l 0).2.1)∧w.cell? ⟨b,off+2,none⟩=some (.int .u8 (rat l 0).2.2.1)∧w.cell? ⟨b,off+3,none⟩=some (.int .u8 (rat l 0).2.2.2):=by
 have:=at4 h 0 hi
 simpa using this
theorem infoR:(Tryz.prog.info? 42).map (fun i=>(i.zero,i.size,i.bytes))=some (some (.agg #[.int .u8 0,.int .u8 0,.int .u8 0,.int .u8 0]),4,4):=by kernel_rfl
theorem eq_rec (r s:R4) (w:World):(Op.equalIn 10000 42 (.agg #[.int .u8 r.1,.int .u8 r.2.1,.int .u8 r.2.2.1,.int .u8 r.2.2.2]) (.agg #[.int .u8 s.1,.int .u8 s.2.1,.int .u8 s.2.2.1,.int .u8 s.2.2.2])).run Tryz.prog w = .ok (decide (r=s)) w:=by
 obtain ⟨j,hj⟩:∃ i,Tryz.prog.info? 5=some i:=Option.isSome_iff_exists.1 (by kernel_rfl);have hc:Tryz.prog.cellsOf 5=1:=by kernel_rfl
 obtain ⟨r1,r2,r3,r4⟩:=r;obtain ⟨s1,s2,s3,s4⟩:=s;rw [run_equalIn_array w 9999 _ _ Tryz.underlying42 hj,hc]
 by_cases h1:r1=s1 <;> by_cases h2:r2=s2 <;> by_cases h3:r3=s3 <;> by_cases h4:r4=s4 <;> simp [Op.eqItems,List.range,List.range.loop,part,go_sem,h1,h2,h3,h4]
theorem ret_bool {a b:Bool} (h:a=b):Ending.returned (.bool a) = .returned (.bool b):=by rw [h]
theorem at_bool {P:Program} {f:Nat} {args:Array Value} {w:World} {B:Nat} {a b:Bool} (e:a=b) (c:Calls P f args w fun e w'=>e = .returned (.bool a)∧Below B w w'):Calls P f args w fun e w'=>e = .returned (.bool b)∧Below B w w':=by rw [← e];exact c
end Go.Proofs.YtljnkaodhfnbbaaGreatDoor.Fl
namespace Go.Proofs.YtljnkaodhfnbbaaGreatDoor.Qb
open Go.RowKit
structure By (w:World) where
 world:World
 below:Below w.heap.size w world
instance (w:World):Nonempty (By w):=⟨⟨w,Below.refl _ _⟩⟩
theorem below_drew {B:Nat} {a w:World} (h:Below B a w):Below B a { w with drawn:=w.drawn+1 }:=⟨h.os,h.tape,h.output,h.size,h.block⟩
theorem wp_region_by {P:Program} {id:Nat} {Q:Exit→Act→World→Prop} {a:Act} {w:World} {l:List Oper} (hm:P.follows .mixedOrders=true) (hB:Region.lexB .any l.toArray=true)
 (h:wpQuiet P l.toArray (fun w'=>∃ p:By w,w'=p.world) (fun a'=>∀ w',(∃ p:By w,w'=p.world)→Q .normal a' w') l a):(Code.region id l.toArray true).wp P Q a w :=
 wp_region_quiet (C:=fun w'=>∃ p:By w,w'=p.world) hm hB ⟨⟨_,below_drew (Below.refl _ _)⟩,rfl⟩ (by simpa using h)
theorem of_below {P:Program} {f:FuncId} {args:Array Value} {w:World} {p:By w} {v:Value}
 (h:Calls P f args p.world fun e w'=>e = .returned v∧Below p.world.heap.size p.world w'):Calls P f args p.world fun e w''=>e = .returned v∧∃ q:By w,w''=q.world :=
 h.mono fun _ w' ⟨he,hb⟩=>⟨he,⟨w',p.below.trans (hb.mono p.below.size)⟩,rfl⟩
theorem cell_by {w:World} {a:Addr} {v:Value} (h:w.cell? a=some v) (p:By w):p.world.cell? a=some v:=(p.below.cell (World.block_lt_of_cell? _ _ h)).trans h
end Go.Proofs.YtljnkaodhfnbbaaGreatDoor.Qb
namespace Go.Proofs.YtljnkaodhfnbbaaGreatDoor.Fl
open Go.RowKit
open Rw (Rd Ow At)
set_option maxHeartbeats 400000 in
theorem rhdr_any (w:World) (p n:Int) (p0:0≤p) (p1:p≤7) (n0:0≤n) (n1:n≤255):Calls Tryz.prog 73 #[.int .i64 p,.int .i64 n] w fun e w'=>e = .returned (rec4 (hdr p n))∧Below w.heap.size w w':=by
 go_enter Tryz.func73,Tryz.ntmps73
 go_wp2
 (try simp only [Exit.inBlock,Exit.then])
 refine bodyPost_ret (v:=rec4 (hdr p n)) ?_ rfl ⟨rfl,?_⟩
 ·exact results_cell_row (p:=4) rfl _ _ w.heap.size 42 _ (0,0) _ rfl (heap_alloc_new w _) Tryz.underlying42 rfl (by show _=some 4;kernel_rfl)
 ·exact (Below.refl w.heap.size w).alloc (Nat.le_refl _) _
def sameF (p:Int) (l:List R4) (p':Int) (l':List R4):Bool:=decide (p=p'∧l=l')
theorem list_same {l l':List R4} (hl:l.length=l'.length) (h:∀ i,i < l.length→rat l i=rat l' i):l=l':=by
 refine List.ext_getElem hl fun i h1 h2=>?_;have:=h i h1
 simpa [rat,List.getD,List.getElem?_eq_getElem h1,List.getElem?_eq_getElem h2] using this
set_option maxHeartbeats 1000000 in
theorem rsame_any (w:World) (p p':Int) (v v':Value) (l l':List R4) (R:Rd K4 w v l) (R':Rd K4 w v' l'):Calls Tryz.prog 57 #[file p v,file p' v'] w fun e w'=>e = .returned (.bool (sameF p l p' l'))∧Below w.heap.size w w':=by
 have B0:=Lib.hid (((Below.refl w.heap.size w).alloc (Nat.le_refl _) (.cells #[.int .i64 p,v] 70)).alloc (by simp) (.cells #[.int .i64 p',v'] 70));have R0:=Lib.hid (R.below B0.out);have R0':=Lib.hid (R'.below B0.out);have HNO:Hid (¬ (p=p'∧l=l')→false=sameF p l p' l'):=fun h=>(decide_eq_false h).symm;have HYES:Hid (p=p'→l=l'→true=sameF p l p' l'):=fun a b=>(decide_eq_true ⟨a,b⟩).symm;have HL:Hid (l.length=l'.length→(∀ i,i < l.length→rat l i=rat l' i)→l=l'):=fun a b=>list_same a b;clear R R';unfold file
 by_cases h1:p=p'
 ·obtain ⟨a,cap,rfl,_,hm,hA⟩:=R0.out
  obtain ⟨a',cap',rfl,_,hm',hA'⟩:=R0'.out;have HA:=Lib.hid hA;have HA':=Lib.hid hA';unfold maxLen at hm hm';clear hA hA' R0 R0';subst h1;have HNE:Hid (l.length≠l'.length→¬ (p=p∧l=l')):=fun h2 h=>h2 (by rw [h.2]);generalize hn:l.length=n at *;generalize hn':l'.length=n' at *;have HN:=Lib.hid hn;have HN':=Lib.hid hn';clear hn hn'
  by_cases h2:n=n'
  ·subst h2
   have k0:((w.alloc (.cells #[.int .i64 p,.slice a n cap] 70)).alloc (.cells #[.int .i64 p,.slice a' n cap'] 70)).cell? ⟨w.heap.size,1,none⟩=some (.slice a n cap):=by go_simp
   have k1:((w.alloc (.cells #[.int .i64 p,.slice a n cap] 70)).alloc (.cells #[.int .i64 p,.slice a' n cap'] 70)).cell? ⟨w.heap.size+1,1,none⟩=some (.slice a' n cap'):=by go_simp
   have K0:=Lib.hid k0;have K1:=Lib.hid k1;clear k0 k1
   go_enter Tryz.func57,Tryz.ntmps57
   go_wp2;generalize (w.alloc (.cells #[.int .i64 p,.slice a n cap] 70)).alloc (.cells #[.int .i64 p,.slice a' n cap'] 70)=W at *
   go_loopw [5] (fun i wr=>∃ j:Nat,j≤n∧i = .int .i64 j∧Hid (Below W.heap.size W wr)∧Hid (∀ i,i < j→rat l i=rat l' i)) (fun i _=>n - (intOf i).toNat)
   case atStart=>exact ⟨0,Nat.zero_le _,rfl,Below.refl _ _,fun i hi=>by omega⟩
   case round =>
    obtain ⟨j,hj,rfl,bw,hs⟩:=hrel;have k0:=(bw.out.cell (World.block_lt_of_cell? _ _ K0.out)).trans K0.out;have k1:=(bw.out.cell (World.block_lt_of_cell? _ _ K1.out)).trans K1.out
    by_cases hlt:j < n
    ·obtain ⟨b,off,rfl,A⟩:=HA.out (by omega)
     obtain ⟨b',off',rfl,A'⟩:=HA'.out (by omega);obtain ⟨c0,c1,c2,c3⟩:=at4 (A.below bw.out) j (by have:=HN.out;omega);obtain ⟨d0,d1,d2,d3⟩:=at4 (A'.below bw.out) j (by have:=HN'.out;omega);have HAA:=Lib.hid A;have HAA':=Lib.hid A';clear A A';have es:=eq_rec (rat l j) (rat l' j)
     by_cases he:rat l j=rat l' j
     ·have ST:Hid (∀ i,i < j+1→rat l i=rat l' i):=fun i hi=>by
       by_cases e:i=j
       ·rw [e];exact he
       ·exact hs.out i (by omega)
      rw [decide_eq_true he] at es;clear he;generalize rat l j=r at *;generalize rat l' j=r' at *;go_wp2
      go_quiet (fail)
      go_wp2
      go_roundw
      case rel=>exact ⟨j+1,by omega,by go_num,below_drewN bw.out _,ST⟩
      case measure=>simp [intOf];omega
     ·have E:=Lib.hid (HNO.out (fun h=>he (by rw [h.2])))
      rw [decide_eq_false he] at es;clear he;generalize rat l j=r at *;generalize rat l' j=r' at *;go_wp2
      go_quiet (fail)
      go_wp2
      go_ret
      exact ⟨ret_bool E.out,B0.out.trans ((below_drewN bw.out _).mono B0.out.size)⟩
    ·obtain rfl:j=n:=by omega
     have E:=Lib.hid (HYES.out (by trivial) (HL.out (by trivial) (fun i hi=>hs.out i hi)));go_wp2
     go_ret
     exact ⟨ret_bool E.out,B0.out.trans (bw.out.mono B0.out.size)⟩
  ·have E:=Lib.hid (HNO.out (HNE.out h2))
   have h3:¬ ((n:Int)=n'):=by omega
   clear HL HA HA' HYES HNO
   go_enter Tryz.func57,Tryz.ntmps57
   go_wp2
   go_ret
   exact ⟨ret_bool E.out,B0.out⟩
 ·have E:=Lib.hid (HNO.out (fun h=>h1 h.1))
  obtain ⟨a,cap,rfl,_⟩:=R0.out;obtain ⟨a',cap',rfl,_⟩:=R0'.out
  go_enter Tryz.func57,Tryz.ntmps57
  go_wp2
  go_ret
  exact ⟨ret_bool E.out,B0.out⟩
def newP (p n:Int):Prop:=0≤p∧p≤7∧0≤n∧n≤255
instance (p n:Int):Decidable (newP p n):=by unfold newP;infer_instance
def newL (p n:Int):List R4:=hdr p n :: List.replicate n.toNat z4
theorem row_cell {w:World} {g:Nat} {cs:Array Value} {t:TypeId} (h:w.heap[g]? = some (.cells cs t (0,0))) (k:Nat):w.cell? ⟨g,k,none⟩=cs[k]?:=cell_of_row w g k cs t (0,0) h
theorem row_frozen {w:World} {g:Nat} {cs:Array Value} {t:TypeId} (h:w.heap[g]? = some (.cells cs t (0,0))) (k:Nat):w.frozen? ⟨g,k,none⟩=false:=frozen_of_row w g k _ _ h
end Go.Proofs.YtljnkaodhfnbbaaGreatDoor.Fl
namespace Go.Proofs.YtljnkaodhfnbbaaGreatDoor.Fl
open Go.RowKit
open Rw (Rd Ow At)
def okR (r:R4):Prop:=(0≤r.1∧r.1≤255)∧(0≤r.2.1∧r.2.1≤255)∧(0≤r.2.2.1∧r.2.2.1≤255)∧0≤r.2.2.2∧r.2.2.2≤255
def okL (l:List R4):Prop:=∀ r∈l,okR r
theorem okR_z:okR z4:=⟨⟨by decide,by decide⟩,⟨by decide,by decide⟩,⟨by decide,by decide⟩,by decide,by decide⟩
theorem okR_at {l:List R4} (h:okL l) (i:Nat):okR (rat l i):=by
 unfold rat;rw [List.getD_eq_getElem?_getD]
 rcases e:l[i]? with _ | r
 ·exact okR_z
 ·exact h r (List.mem_of_getElem? e)
def num (r:R4):Int:=r.1 * 16777216+r.2.1 * 65536+r.2.2.1 * 256+r.2.2.2
def bytes (n:Int):R4:=(n / 16777216,n / 65536 % 256,n / 256 % 256,n % 256)
def inc (r:R4):R4:=bytes ((num r+1) % 4294967296)
def need (op:Int):Int:=if op=0 then 1 else if op=1 then 2 else 4
def doE (p:Int) (l:List R4) (op rec:Int):Int :=
 if goodF p l then
  if 0≤op∧op≤2 then
   if 0≤rec∧rec < l.length then
    if rec=0∧op=0∨0 < rec∧p / need op % 2=1 then 0 else 5
   else 4
  else 1
 else 2
theorem doE_2 {p op rec:Int} {l:List R4} (h:¬ goodF p l):doE p l op rec=2:=by unfold doE;rw [if_neg h]
theorem doE_1 {p op rec:Int} {l:List R4} (h:goodF p l) (h2:¬ (0≤op∧op≤2)):doE p l op rec=1:=by unfold doE;rw [if_pos h,if_neg h2]
theorem doE_4 {p op rec:Int} {l:List R4} (h:goodF p l) (h2:0≤op∧op≤2) (h3:¬ (0≤rec∧rec < l.length)):doE p l op rec=4:=by unfold doE;rw [if_pos h,if_pos h2,if_neg h3]
theorem doE_5 {p op rec:Int} {l:List R4} (h:goodF p l) (h2:0≤op∧op≤2) (h3:0≤rec∧rec < l.length) (h4:¬ (rec=0∧op=0∨0 < rec∧p / need op % 2=1)):doE p l op rec=5:=by unfold doE;rw [if_pos h,if_pos h2,if_pos h3,if_neg h4]
theorem doE_0 {p op rec:Int} {l:List R4} (h:goodF p l) (h2:0≤op∧op≤2) (h3:0≤rec∧rec < l.length) (h4:rec=0∧op=0∨0 < rec∧p / need op % 2=1):doE p l op rec=0:=by unfold doE;rw [if_pos h,if_pos h2,if_pos h3,if_pos h4]
def newR (l:List R4) (op rec:Int) (x:R4):R4:=if op=1 then x else if op=2 then inc (rat l rec.toNat) else rat l rec.toNat
def DoPost (w:World) (p:Int) (l:List R4) (op rec:Int) (x:R4) (e:Ending) (w':World):Prop :=
 ∃ u,e = .returned (.tuple #[file (if doE p l op rec=0 then p else 0) u,rec4 (if doE p l op rec=0 then newR l op rec x else z4),.int .i64 (doE p l op rec)])∧Ow K4 w' w.heap.size 42 u (if doE p l op rec=0 then l.set rec.toNat (newR l op rec x) else [])∧Below w.heap.size w w'
set_option maxHeartbeats 400000 in
theorem hdr_any (w:World) (p n:Int) (p0:0≤p) (p1:p≤7) (n0:0≤n) (n1:n≤255):Calls Tryz.prog 182 #[.int .i64 p,.int .i64 n] w fun e w'=>e = .returned (rec4 (hdr p n))∧Below w.heap.size w w':=by
 go_enter Tryz.func182,Tryz.ntmps182
 go_wp2
 (try simp only [Exit.inBlock,Exit.then])
 refine bodyPost_ret (v:=rec4 (hdr p n)) ?_ rfl ⟨rfl,?_⟩
 ·exact results_cell_row (p:=4) rfl _ _ w.heap.size 42 _ (0,0) _ rfl (heap_alloc_new w _) Tryz.underlying42 rfl (by show _=some 4;kernel_rfl)
 ·exact (Below.refl w.heap.size w).alloc (Nat.le_refl _) _
def permB (p:Int):Bool:=decide (0≤p∧p≤7)
theorem perm_yes {p:Int} (h1:0≤p) (h2:p≤7):permB p=true:=decide_eq_true ⟨h1,h2⟩
theorem perm_no {p:Int} (h:¬ (0≤p∧p≤7)):permB p=false:=decide_eq_false h
set_option maxHeartbeats 400000 in
theorem perm_any (w:World) (p:Int):Calls Tryz.prog 181 #[.int .i64 p] w fun e w'=>e = .returned (.bool (permB p))∧Below w.heap.size w w':=by
 by_cases h1:0≤p
 ·by_cases h2:p≤7
  ·go_enter Tryz.func181,Tryz.ntmps181
   go_wp2
   go_ret
   exact ⟨ret_bool (by rw [perm_yes h1 h2]),Below.refl _ _⟩
  ·go_enter Tryz.func181,Tryz.ntmps181
   go_wp2
   go_ret
   exact ⟨ret_bool (by rw [perm_no (by omega)]),Below.refl _ _⟩
 ·go_enter Tryz.func181,Tryz.ntmps181
  go_wp2
  go_ret
  exact ⟨ret_bool (by rw [perm_no (by omega)]),Below.refl _ _⟩
def needsN (op:Int):Int:=if 0≤op∧op≤2 then need op else 0
set_option maxHeartbeats 400000 in
theorem needs_any (w:World) (op:Int):Calls Tryz.prog 248 #[.int .i64 op] w fun e w'=>e = .returned (.int .i64 (needsN op))∧Below w.heap.size w w':=by
 by_cases h0:op=0
 ·subst h0
  go_enter Tryz.func248,Tryz.ntmps248
  go_wp2
  go_ret
  exact ⟨rfl,Below.refl _ _⟩
 ·by_cases h1:op=1
  ·subst h1
   go_enter Tryz.func248,Tryz.ntmps248
   go_wp2
   go_ret
   exact ⟨rfl,Below.refl _ _⟩
  ·by_cases h2:op=2
   ·subst h2
    go_enter Tryz.func248,Tryz.ntmps248
    go_wp2
    go_ret
    exact ⟨rfl,Below.refl _ _⟩
   ·have E:Hid (0=needsN op):=by unfold needsN;rw [if_neg (by omega)];exact Lib.hid rfl
    go_enter Tryz.func248,Tryz.ntmps248
    go_wp2
    go_ret
    exact ⟨by rw [← E.out];rfl,Below.refl _ _⟩
def mayB (p op rec:Int):Bool:=decide (rec=0∧op=0∨0 < rec∧p / need op % 2=1)
theorem and_perm:∀ (p:Fin 8) (op:Fin 3),decide (bits BinOp.and .i64 (p.val:Int) (need (op.val:Int))=0)=decide (¬ ((p.val:Int) / need (op.val:Int) % 2=1)):=by decide +kernel
theorem and_perm' {p op:Int} (p0:0≤p) (p1:p≤7) (o0:0≤op) (o1:op≤2):(bits BinOp.and .i64 p (need op)=0)↔¬ (p / need op % 2=1):=by
 have:=and_perm ⟨p.toNat,by omega⟩ ⟨op.toNat,by omega⟩;simp only [Int.toNat_of_nonneg p0,Int.toNat_of_nonneg o0] at this;exact decide_eq_decide.1 this
set_option maxHeartbeats 400000 in
theorem may_any (w:World) (p op rec:Int) (p0:0≤p) (p1:p≤7) (o0:0≤op) (o1:op≤2) (r0:0≤rec):Calls Tryz.prog 249 #[.int .i64 p,.int .i64 (need op),.int .i64 rec] w fun e w'=>e = .returned (.bool (mayB p op rec))∧Below w.heap.size w w':=by
 by_cases h:rec=0
 ·subst h
  have E:Hid (decide (need op=1)=mayB p op 0):=Lib.hid (by
   unfold mayB;rw [decide_eq_decide];unfold need
   rcases (by omega:op=0∨op=1∨op=2) with rfl | rfl | rfl <;> simp)
  generalize need op=q at *
  go_enter Tryz.func249,Tryz.ntmps249
  go_wp2
  go_ret
  exact ⟨ret_bool E.out,Below.refl _ _⟩
 ·have E:Hid ((!decide (bits BinOp.and .i64 p (need op)=0))=mayB p op rec):=Lib.hid (by
   unfold mayB
   by_cases k:bits BinOp.and .i64 p (need op)=0
   ·rw [decide_eq_true k]
    have:=(and_perm' p0 p1 o0 o1).1 k;exact (decide_eq_false (by omega)).symm
   ·rw [decide_eq_false k]
    have:p / need op % 2=1:=Decidable.byContradiction fun c=>k ((and_perm' p0 p1 o0 o1).2 c)
    exact (decide_eq_true (.inr ⟨by omega,this⟩)).symm)
  generalize need op=q at *
  go_enter Tryz.func249,Tryz.ntmps249
  go_wp2
  go_ret
  exact ⟨ret_bool (by rw [← E.out];first | rfl | simp),Below.refl _ _⟩
end Go.Proofs.YtljnkaodhfnbbaaGreatDoor.Fl
namespace Go.Proofs.YtljnkaodhfnbbaaGreatDoor.Sd
open Go.RowKit
def isLen:Callee→Bool
 | .builtin .len=>true
 | _=>false
def light:Op→Bool
 | .call c=>isLen c.callee
 | .move _=>true | .assign _=>true | .pick ..=>true | .load ..=>true | .binOp ..=>true | .unOp ..=>true | .convert ..=>true
 | .fieldAddr ..=>true | .field ..=>true | .indexAddr ..=>true | .index ..=>true | .extract ..=>true | .build ..=>true
 | .nilCheck _=>true | .lookup ..=>true | .makeInterface ..=>true | .slice ..=>true
 | _=>false
theorem value_of {P:Program} {s:Sem Value} {w w':World} {n:Next} (h:(do let x ← s;pure (Next.value x):Sem Next).run P w = .ok n w'):∃ v,n = .value v:=by
 simp only [Sem.run_bind,Sem.run_pure] at h
 cases e:s.run P w with
 | ok x w1=>rw [e] at h;simp only [Result.andThen] at h;injection h with h1 h2;exact ⟨x,h1.symm⟩
 | halt x w1=>rw [e] at h;simp only [Result.andThen] at h;cases h
def OnlyV (s:Sem Next):Prop:=∀ (P:Program) (w w':World) (n:Next),s.run P w = .ok n w'→∃ v,n = .value v
theorem ov_bind {β:Type} (s:Sem β) (f:β→Sem Next) (h:∀ x,OnlyV (f x)):OnlyV (s >>= f):=fun P w w' n hr=>by
 rw [Sem.run_bind] at hr
 cases e:s.run P w with
 | ok x w1=>rw [e] at hr;exact h x P w1 w' n hr
 | halt x w1=>rw [e] at hr;cases hr
theorem ov_pure (v:Value):OnlyV (pure (Next.value v)):=fun P w w' n h=>by simp only [Sem.run_pure] at h;injection h with h1 h2;exact ⟨_,h1.symm⟩
theorem nil_value {ρ:Operand→Value} {o:Oper} {x:Operand} {P:Program} {w w':World} {n:Next} (ho:o.op = .nilCheck x) (h:(execOp ρ o).run P w = .ok n w'):∃ v,n = .value v:=by
 unfold execOp at h;rw [ho] at h;simp only at h
 split at h
 ·simp [runtimePanic] at h
 ·simp [runtimePanic] at h
 ·simp [runtimePanic] at h
 ·split at h
  ·simp [runtimePanic] at h
  ·refine ov_bind _ _ (fun p=>ov_bind _ _ fun r=>?_) P w w' n h
   split
   ·exact ov_bind _ _ fun _=>ov_pure _
   ·exact ov_pure _
  ·simp only [Sem.run_pure] at h;injection h with h1 h2;exact ⟨_,h1.symm⟩
 ·simp only [Sem.run_pure] at h;injection h with h1 h2;exact ⟨_,h1.symm⟩
theorem len_value {ρ:Operand→Value} {o:Oper} {c:Call} {P:Program} {w w':World} {n:Next} (ho:o.op = .call c) (hc:isLen c.callee=true) (h:(execOp ρ o).run P w = .ok n w'):∃ v,n = .value v:=by
 obtain ⟨f,cas,ts⟩:=c
 cases f with
 | builtin b =>
   cases b with
   | len =>
     unfold execOp at h;rw [ho] at h;simp only [resolve,Sem.run_bind,Sem.run_pure,Result.andThen,invoke,builtin] at h;exact value_of (s:=Builtin.len_ _ _ _) (by simpa only [Sem.run_bind,Sem.run_pure,Result.andThen] using h)
   | _=>cases hc
 | _=>cases hc
theorem light_value {P:Program} {ρ:Operand→Value} {o:Oper} {w w':World} {n:Next} (hl:light o.op=true) (h:(execOp ρ o).run P w = .ok n w'):∃ v,n = .value v:=by
 by_cases hc:∃ x,o.op = .nilCheck x
 ·obtain ⟨x,hx⟩:=hc
  exact nil_value hx h
 by_cases hd:∃ c,o.op = .call c
 ·obtain ⟨c,hx⟩:=hd
  rw [hx] at hl;exact len_value hx hl h
 unfold execOp at h
 cases ho:o.op <;> rw [ho] at hl h <;> first | (exact (hd ⟨_,ho⟩).elim) | (cases hl;done) | (exact (hc ⟨_,ho⟩).elim) | skip
 all_goals first
  | exact value_of h
  | (simp only [Sem.run_pure] at h;injection h with h1 h2;exact ⟨_,h1.symm⟩)
  | (simp only [Sem.run_bind,Sem.run_pure] at h
     revert h
     cases (asBool _).run P w with
     | ok x w1=>intro h;simp only [Result.andThen] at h;injection h with h1 h2;exact ⟨_,h1.symm⟩
     | halt x w1=>intro h;simp only [Result.andThen] at h;cases h)
def picks (l:List Oper):List (Bool×Nat)→List (Bool×Oper)
 | []=>[]
 | (h,i) :: r=>match l[i]? with
   | some o=>(h,o) :: picks l r
   | none=>picks l r
def good (ops:Array Oper):List (Bool×Nat)→Array Bool→Nat→Bool
 | [],listed,_=>(Region.ready .any ops listed).isEmpty
 | _ :: _,_,0=>false
 | (h,i) :: r,listed,fuel+1 =>
   (match ops[i]? with
    | some o=>if h then Region.ready .any ops listed == [i] else light o.op && Region.free .any ops listed i && (Region.ready .any ops listed).contains i
    | none=>false) && good ops r (listed.setIfInBounds i true) fuel
def wpSd (P:Program) (ops:Array Oper) (C:World→Prop) (Q:Exit→Act→World→Prop):List (Bool×Oper)→Act→World→Prop
 | [],a,w=>Q .normal a w
 | (false,o) :: r,a,w=>wpQuiet P ops C (fun a'=>wpSd P ops C Q r a' w) [o] a
 | (true,o) :: r,a,w=>if Region.wanted o (yielded ops a.tmps) then o.wp P a w (fun a' w'=>C w'∧wpSd P ops C Q r a' w') Q else wpSd P ops C Q r (a.put o.dst undef) w
theorem sound {P:Program} {l:List Oper} {C:World→Prop} {Q:Exit→Act→World→Prop} (hs:Region.noSelect l.toArray=true) (hQ:∀ c d v a w,Q (.panic c) (Act.put a d v) w→Q (.panic c) a w) :
 ∀ (sc:List (Bool×Nat)) (listed:Array Bool) (fuel:Nat) (a:Act) (w:World),good l.toArray sc listed fuel=true→C w→wpSd P l.toArray C Q (picks l sc) a w→wpAnyH P .any l.toArray Q C fuel listed a w
 | [],listed,fuel,a,w,hg,_,h=>wpAnyH_done (List.isEmpty_iff.1 hg) h fuel
 | _ :: _,_,0,_,_,hg,_,_=>by cases hg
 | (b,i) :: r,listed,fuel+1,a,w,hg,hC,h=>by
   unfold good at hg;simp only [Bool.and_eq_true] at hg;obtain ⟨hg1,hg2⟩:=hg;have hll:l.toArray[i]? = l[i]?:=by rw [List.getElem?_toArray]
   cases ho:l[i]? with
   | none=>rw [hll,ho] at hg1;cases hg1
   | some o =>
     rw [hll,ho] at hg1;have hop:l.toArray[i]? = some o:=hll.trans ho;have hp:picks l ((b,i) :: r)=(b,o) :: picks l r:=by rw [picks,ho]
     rw [hp] at h
     cases b with
     | true =>
       simp only [if_true,beq_iff_eq] at hg1;refine wpAnyH_all hg1 (by simp) fun j hj=>?_;obtain rfl:j=i:=by simpa using hj
       unfold wpOp;simp only [hop];unfold wpSd at h
       by_cases hw:Region.wanted o (yielded l.toArray a.tmps)=true
       ·rw [if_pos hw] at h ⊢
        exact .inl (Oper.wp_mono (fun a' w' ⟨c,k⟩=>⟨c,sound hs hQ r _ fuel a' w' hg2 c k⟩) h)
       ·rw [if_neg hw] at h ⊢
        exact ⟨hC,sound hs hQ r _ fuel _ w hg2 hC h⟩
     | false =>
       simp only [Bool.false_eq_true,if_false,Bool.and_eq_true] at hg1;obtain ⟨⟨hk,hf⟩,hr⟩:=hg1;unfold wpSd at h
       by_cases hw:Region.wanted o (yielded l.toArray a.tmps)=true
       ·unfold wpQuiet at h
        rw [if_pos hw] at h;obtain ⟨v,hv,hn⟩:=h;refine wpAnyH_take (v:=v) hop hs hf hr (fun c a w=>hQ c _ _ a w) (.inl ⟨hw,fun w' hw'=>?_⟩) hC (sound hs hQ r _ fuel _ w hg2 hC hn);have q:=hv w' hw';unfold Oper.quietAt at q
        cases e:(execOp a.eval o).run P w' with
        | halt x w1=>rw [e] at q;cases q
        | ok n w1 =>
          obtain ⟨u,rfl⟩:=light_value hk e;rw [e] at q;obtain ⟨e1,e2⟩:=q;rw [e1,e2]
       ·unfold wpQuiet at h
        rw [if_neg hw] at h;exact wpAnyH_take (v:=undef) hop hs hf hr (fun c a w=>hQ c _ _ a w) (.inr ⟨by simpa using hw,rfl⟩) hC (sound hs hQ r _ fuel _ w hg2 hC h)
structure By (w:World) where
 world:World
 below:Below w.heap.size w world
instance (w:World):Nonempty (By w):=⟨⟨w,Below.refl _ _⟩⟩
def Cl (w:World) (w':World):Prop:=∃ p:By w,w'=p.world
theorem Cl.of {w w':World} (h:Below w.heap.size w w'):Cl w w':=⟨⟨w',h⟩,rfl⟩
theorem Cl.bel {w w':World} (h:Cl w w'):Below w.heap.size w w':=by obtain ⟨p,rfl⟩:=h;exact p.below
theorem cell_by {w:World} {a:Addr} {v:Value} (h:w.cell? a=some v) (p:By w):p.world.cell? a=some v:=(p.below.cell (World.block_lt_of_cell? _ _ h)).trans h
theorem start {P:Program} {id:Nat} {l:List Oper} {Q:Exit→Act→World→Prop} {a:Act} {w:World} (sc:List (Bool×Nat)) (hm:P.follows .mixedOrders=true) (hs:Region.noSelect l.toArray=true)
 (hg:good l.toArray sc (Array.replicate l.toArray.size false) l.toArray.size=true) (h:wpSd P l.toArray (fun w'=>∃ p:By w,w'=p.world) (NoPanic Q) (picks l sc) a w.drew):(Code.region id l.toArray true).wp P Q a w :=
 wp_region_noPanic (wp_region_held_drew (S:=fun w'=>∃ p:By w,w'=p.world) hm ⟨⟨w.drew,(Below.refl _ _).drew⟩,rfl⟩ fun _=>sound hs (fun _ _ _ _ _ h=>h) sc _ _ a _ hg ⟨⟨w.drew,(Below.refl _ _).drew⟩,rfl⟩ h)
section
variable {P:Program} {ops:Array Oper} {C:World→Prop} {Q:Exit→Act→World→Prop} {a:Act} {w:World} {o:Oper} {r:List (Bool×Oper)}
theorem done (h:Q .normal a w):wpSd P ops C (NoPanic Q) [] a w:=h
theorem lit (h:wpQuiet P ops C (fun a'=>wpSd P ops C Q r a' w) [o] a):wpSd P ops C Q ((false,o) :: r) a w:=h
theorem call (hw:Region.wanted o (yielded ops a.tmps)=true) (h:∀ K:Act→World→Prop,(∀ a w,C w→wpSd P ops C Q r a w→K a w)→o.wp P a w K Q):wpSd P ops C Q ((true,o) :: r) a w:=by
 unfold wpSd;rw [if_pos hw];exact h _ fun a w c k=>⟨c,k⟩
theorem past (hw:Region.wanted o (yielded ops a.tmps)=false) (h:wpSd P ops C Q r (a.put o.dst undef) w):wpSd P ops C Q ((true,o) :: r) a w:=by
 unfold wpSd;rw [if_neg (by rw [hw];exact Bool.false_ne_true)];exact h
end
end Go.Proofs.YtljnkaodhfnbbaaGreatDoor.Sd
namespace Go.Proofs.YtljnkaodhfnbbaaGreatDoor.Qk
open Go.RowKit
theorem skip {P:Program} {ops:Array Oper} {C:World→Prop} {Q:Act→Prop} {a:Act} {o:Oper} {rest:List Oper} (hw:Region.wanted o (yielded ops a.tmps)=false) (ha:a.put o.dst undef=a) (h:wpQuiet P ops C Q rest a):wpQuiet P ops C Q (o :: rest) a:=by
 unfold wpQuiet;rw [if_neg (by rw [hw];exact Bool.false_ne_true),ha];exact h
theorem past {P:Program} {ops:Array Oper} {C:World→Prop} {Q:Exit→Act→World→Prop} {a:Act} {w:World} {o:Oper} {r:List (Bool×Oper)} (hw:Region.wanted o (yielded ops a.tmps)=false) (ha:a.put o.dst undef=a) (h:Sd.wpSd P ops C Q r a w):Sd.wpSd P ops C Q ((true,o) :: r) a w :=
 Sd.past hw (by rw [ha];exact h)
end Go.Proofs.YtljnkaodhfnbbaaGreatDoor.Qk
namespace Go.Proofs.YtljnkaodhfnbbaaGreatDoor.Fl
open Go.RowKit
open Rw (Rd Ow At)
attribute [local irreducible] Sd.wpSd wpQuiet
set_option maxHeartbeats 400000 in
theorem good_perm (w:World) (p:Int) (a:Option Addr) (n cap:Nat) (h:¬ (0≤p∧p≤7)):Calls Tryz.prog 138 #[.agg #[.int .i64 p,.slice a n cap]] w fun e w'=>e = .returned (.bool false)∧Below w.heap.size w w':=by
 have B0:=Lib.hid ((Below.refl w.heap.size w).alloc (Nat.le_refl _) (.cells #[.int .i64 p,.slice a n cap] 70));have HP:=Lib.hid (fun w=>at_bool (perm_no h) (perm_any w p));clear h;have k0:=Sd.cell_by (show (w.alloc (.cells #[.int .i64 p,.slice a n cap] 70)).cell? ⟨w.heap.size,0,none⟩=some (.int .i64 p) by go_simp)
 go_enter Tryz.func138,Tryz.ntmps138
 go_wp2_with fail;generalize w.alloc (.cells #[.int .i64 p,.slice a n cap] 70)=W at *;refine Sd.start [(false,0),(false,1),(true,2),(false,3),(false,4),(false,5),(false,6),(false,7),(false,8),(false,9),(false,10),(false,11),(false,12),(false,13),(false,14),(false,15),(false,16),(false,17),(false,18),(false,19),(true,20),(false,21),(false,22),(false,23)] (by kernel_rfl) (by kernel_rfl) (by kernel_rfl) ?_;dsimp only [Sd.picks,List.getElem?_cons_succ,List.getElem?_cons_zero]
 iterate 2 (refine Sd.lit ?_;quiet_step (fail);refine wpQuiet_nil ?_)
 refine Sd.call (by rfl) (fun K hK=>?_);go_simp;refine (HP.out _).mono ?_;rintro e w1 ⟨rfl,b1⟩;have C1:=Lib.hid (Below.trans ((Below.refl W.heap.size W).drew) b1);refine hK _ _ (Sd.Cl.of C1.out) ?_;clear hK K b1
 iterate 17 (refine Sd.lit ?_;(first | (refine Qk.skip (by rfl) (by rfl) ?_) | quiet_step (fail));refine wpQuiet_nil ?_)
 refine Qk.past (by rfl) (by rfl) ?_
 iterate 3 (refine Sd.lit ?_;(first | (refine Qk.skip (by rfl) (by rfl) ?_) | quiet_step (fail));refine wpQuiet_nil ?_)
 refine Sd.done ?_;go_wp2
 go_ret
 exact ⟨rfl,B0.out.trans (C1.out.mono B0.out.size)⟩
set_option maxHeartbeats 400000 in
theorem good_none (w:World) (p:Int) (a:Option Addr) (n cap:Nat) (h:0≤p∧p≤7) (hn:n < 1):Calls Tryz.prog 138 #[.agg #[.int .i64 p,.slice a n cap]] w fun e w'=>e = .returned (.bool false)∧Below w.heap.size w w':=by
 have B0:=Lib.hid ((Below.refl w.heap.size w).alloc (Nat.le_refl _) (.cells #[.int .i64 p,.slice a n cap] 70));have HP:=Lib.hid (fun w=>at_bool (perm_yes h.1 h.2) (perm_any w p));have hn2:decide ((1:Int)≤n)=false:=decide_eq_false (by omega);clear h hn;have k0:=Sd.cell_by (show (w.alloc (.cells #[.int .i64 p,.slice a n cap] 70)).cell? ⟨w.heap.size,0,none⟩=some (.int .i64 p) by go_simp)
 go_enter Tryz.func138,Tryz.ntmps138
 go_wp2_with fail;generalize w.alloc (.cells #[.int .i64 p,.slice a n cap] 70)=W at *;refine Sd.start [(false,0),(false,1),(true,2),(false,3),(false,4),(false,5),(false,6),(false,7),(false,8),(false,9),(false,10),(false,11),(false,12),(false,13),(false,14),(false,15),(false,16),(false,17),(false,18),(false,19),(true,20),(false,21),(false,22),(false,23)] (by kernel_rfl) (by kernel_rfl) (by kernel_rfl) ?_;dsimp only [Sd.picks,List.getElem?_cons_succ,List.getElem?_cons_zero]
 iterate 2 (refine Sd.lit ?_;quiet_step (fail);refine wpQuiet_nil ?_)
 refine Sd.call (by rfl) (fun K hK=>?_);go_simp;refine (HP.out _).mono ?_;rintro e w1 ⟨rfl,b1⟩;have C1:=Lib.hid (Below.trans ((Below.refl W.heap.size W).drew) b1);refine hK _ _ (Sd.Cl.of C1.out) ?_;clear hK K b1
 iterate 17 (refine Sd.lit ?_;(first | (refine Qk.skip (by rfl) (by rfl) ?_) | quiet_step (fail));refine wpQuiet_nil ?_)
 refine Qk.past (by rfl) (by rfl) ?_
 iterate 3 (refine Sd.lit ?_;(first | (refine Qk.skip (by rfl) (by rfl) ?_) | quiet_step (fail));refine wpQuiet_nil ?_)
 refine Sd.done ?_;go_wp2
 go_ret
 exact ⟨rfl,B0.out.trans (C1.out.mono B0.out.size)⟩
set_option maxHeartbeats 400000 in
theorem good_many (w:World) (p:Int) (a:Option Addr) (n cap:Nat) (h:0≤p∧p≤7) (hn:256 < n):Calls Tryz.prog 138 #[.agg #[.int .i64 p,.slice a n cap]] w fun e w'=>e = .returned (.bool false)∧Below w.heap.size w w':=by
 have B0:=Lib.hid ((Below.refl w.heap.size w).alloc (Nat.le_refl _) (.cells #[.int .i64 p,.slice a n cap] 70));have HP:=Lib.hid (fun w=>at_bool (perm_yes h.1 h.2) (perm_any w p));have hn2:decide ((1:Int)≤n)=true:=decide_eq_true (by omega);have hn3:decide ((n:Int)≤256)=false:=decide_eq_false (by omega);clear h hn;have k0:=Sd.cell_by (show (w.alloc (.cells #[.int .i64 p,.slice a n cap] 70)).cell? ⟨w.heap.size,0,none⟩=some (.int .i64 p) by go_simp)
 go_enter Tryz.func138,Tryz.ntmps138
 go_wp2_with fail;generalize w.alloc (.cells #[.int .i64 p,.slice a n cap] 70)=W at *;refine Sd.start [(false,0),(false,1),(true,2),(false,3),(false,4),(false,5),(false,6),(false,7),(false,8),(false,9),(false,10),(false,11),(false,12),(false,13),(false,14),(false,15),(false,16),(false,17),(false,18),(false,19),(true,20),(false,21),(false,22),(false,23)] (by kernel_rfl) (by kernel_rfl) (by kernel_rfl) ?_;dsimp only [Sd.picks,List.getElem?_cons_succ,List.getElem?_cons_zero]
 iterate 2 (refine Sd.lit ?_;quiet_step (fail);refine wpQuiet_nil ?_)
 refine Sd.call (by rfl) (fun K hK=>?_);go_simp;refine (HP.out _).mono ?_;rintro e w1 ⟨rfl,b1⟩;have C1:=Lib.hid (Below.trans ((Below.refl W.heap.size W).drew) b1);refine hK _ _ (Sd.Cl.of C1.out) ?_;clear hK K b1
 iterate 17 (refine Sd.lit ?_;(first | (refine Qk.skip (by rfl) (by rfl) ?_) | quiet_step (fail));refine wpQuiet_nil ?_)
 refine Qk.past (by rfl) (by rfl) ?_
 iterate 3 (refine Sd.lit ?_;(first | (refine Qk.skip (by rfl) (by rfl) ?_) | quiet_step (fail));refine wpQuiet_nil ?_)
 refine Sd.done ?_;go_wp2
 go_ret
 exact ⟨rfl,B0.out.trans (C1.out.mono B0.out.size)⟩
set_option maxHeartbeats 1000000 in
theorem good_any (w:World) (p:Int) (v:Value) (l:List R4) (R:Rd K4 w v l):Calls Tryz.prog 138 #[file p v] w fun e w'=>e = .returned (.bool (goodFB p l))∧Below w.heap.size w w':=by
 have B0:=Lib.hid ((Below.refl w.heap.size w).alloc (Nat.le_refl _) (.cells #[.int .i64 p,v] 70));have R0:=Lib.hid (R.below B0.out);have HNO:Hid (¬ goodF p l→false=goodFB p l):=fun h=>(decide_eq_false h).symm;have HD:Hid (0≤p→p≤7→1≤l.length→l.length≤256→decide (rat l 0=hdr p ((l.length:Int) - 1))=goodFB p l):=fun a b c d=>by
  unfold goodFB;rw [decide_eq_decide];exact ⟨fun h=>⟨a,b,c,d,h⟩,fun h=>h.2.2.2.2⟩
 clear R;unfold file;obtain ⟨a,cap,rfl,_,hm,hA⟩:=R0.out;have HA:=Lib.hid hA;unfold maxLen at hm;clear hA R0
 by_cases h1:0≤p∧p≤7
 ·have hp:=fun w=>at_bool (perm_yes h1.1 h1.2) (perm_any w p)
  have HP:=Lib.hid hp;clear hp;obtain ⟨h1,h2⟩:=h1
  by_cases h3:1≤l.length
  ·by_cases h4:l.length≤256
   ·have E:=Lib.hid (HD.out h1 h2 h3 h4)
    have hh:=fun w=>hdr_any w p ((l.length:Int) - 1) h1 h2 (by omega) (by omega);obtain ⟨b,off,rfl,hA⟩:=HA.out (by omega);obtain ⟨c0,c1,c2,c3⟩:=at4_0 hA (by omega);have q0:=Qb.cell_by c0;have q1:=Qb.cell_by c1;have q2:=Qb.cell_by c2;have q3:=Qb.cell_by c3;clear hA HA HD HNO c0 c1 c2 c3;generalize rat l 0=r at *;generalize l.length=n at *;generalize hdr p ((n:Int) - 1)=q at *;unfold rec4 at hh;have HH:=Lib.hid hh;clear hh;have es:=eq_rec r q;have W0:IntKind.i64.wrap ((n:Int) - 1)=(n:Int) - 1:=IntWalk.i64_in _ (by omega);have hn1:0 < n:=by omega
    have hn2:(1:Int)≤n:=by omega
    have hn3:(n:Int)≤256:=by omega
    have k0:=Qb.cell_by (show (w.alloc (.cells #[.int .i64 p,.slice (some ⟨b,off,none⟩) n cap] 70)).cell? ⟨w.heap.size,0,none⟩=some (.int .i64 p) by go_simp);have k1:=Qb.cell_by (show (w.alloc (.cells #[.int .i64 p,.slice (some ⟨b,off,none⟩) n cap] 70)).cell? ⟨w.heap.size,1,none⟩=some (.slice (some ⟨b,off,none⟩) n cap) by go_simp)
    go_enter Tryz.func138,Tryz.ntmps138
    go_wp2_with fail;refine Qb.wp_region_by (by kernel_rfl) (by kernel_rfl) ?_
    repeat (quiet_step ((first | (go_at_call 181;with_reducible exact Qb.of_below (HP.out _)) | (go_at_call 182;with_reducible exact Qb.of_below (HH.out _)))))
    refine wpQuiet_nil ?_
    intro _ hw'
    obtain ⟨pp,rfl⟩:=hw';go_wp2
    go_ret
    exact ⟨ret_bool E.out,B0.out.trans (pp.below.mono B0.out.size)⟩
   ·exact at_bool (HNO.out (fun h=>by obtain ⟨_,_,_,_,_⟩:=h;omega)) (good_many w p a _ cap ⟨h1,h2⟩ (by omega))
  ·exact at_bool (HNO.out (fun h=>by obtain ⟨_,_,_,_,_⟩:=h;omega)) (good_none w p a _ cap ⟨h1,h2⟩ (by omega))
 ·exact at_bool (HNO.out (fun h=>by obtain ⟨_,_,_,_,_⟩:=h;omega)) (good_perm w p a _ cap h1)
end Go.Proofs.YtljnkaodhfnbbaaGreatDoor.Fl
namespace Go.Proofs.YtljnkaodhfnbbaaGreatDoor.Fl
open Go.RowKit
open Rw (Rd Ow At)
theorem at_int {P:Program} {f:Nat} {args:Array Value} {w:World} {B:Nat} {k:IntKind} {a b:Int} (e:a=b) (c:Calls P f args w fun e w'=>e = .returned (.int k a)∧Below B w w'):Calls P f args w fun e w'=>e = .returned (.int k b)∧Below B w w':=by rw [← e];exact c
theorem ret_int {k:IntKind} {a b:Int} (h:a=b):Ending.returned (.int k a) = .returned (.int k b):=by rw [h]
theorem needsN_of {op:Int} (h:0≤op∧op≤2):needsN op=need op:=by unfold needsN;rw [if_pos h]
theorem needsN_no {op:Int} (h:¬ (0≤op∧op≤2)):needsN op=0:=by unfold needsN;rw [if_neg h]
theorem need_pos (op:Int):0 < need op:=by unfold need;split <;> (try split) <;> omega
set_option maxHeartbeats 1000000 in
theorem wrong_any (w:World) (p:Int) (v:Value) (l:List R4) (R:Rd K4 w v l) (op rec:Int):Calls Tryz.prog 213 #[file p v,.int .i64 op,.int .i64 rec] w fun e w'=>e = .returned (.int .i64 (doE p l op rec))∧Below w.heap.size w w':=by
 have bb:=(Below.refl w.heap.size w).alloc (Nat.le_refl _) (.cells #[.int .i64 p,v] 70);have B0:=Lib.hid bb;have G0:=Lib.hid (good_any _ p v l (R.below bb));obtain ⟨a,cap,rfl,_,hm,_⟩:=R;unfold maxLen at hm;clear bb
 by_cases hg:goodF p l
 ·have G:=Lib.hid (at_bool (show goodFB p l=true from decide_eq_true hg) G0.out)
  have hp:0≤p∧p≤7:=⟨hg.1,hg.2.1⟩
  by_cases ho:0≤op∧op≤2
  ·have N:=Lib.hid (fun w=>at_int (needsN_of ho) (needs_any w op))
   have hq:=need_pos op
   by_cases hr:0≤rec∧rec < l.length
   ·obtain ⟨hr0,hr1⟩:=hr
    have M:=Lib.hid (fun w=>may_any w p op rec hp.1 hp.2 ho.1 ho.2 hr0)
    by_cases hk:rec=0∧op=0∨0 < rec∧p / need op % 2=1
    ·have E:=Lib.hid (doE_0 hg ho ⟨hr0,hr1⟩ hk)
     have M1:=Lib.hid (fun w=>at_bool (show mayB p op rec=true from decide_eq_true hk) (M.out w));clear hk hg G0 M;generalize doE p l op rec=d at *;generalize need op=q at *;generalize l.length=n at *;unfold file at *
     go_enter Tryz.func213,Tryz.ntmps213
     go_wp2_with fail;refine G.out.mono ?_;rintro e w1 ⟨rfl,b1⟩;have B1:=Lib.hid (B0.out.trans (b1.mono B0.out.size));have c0:w1.cell? ⟨w.heap.size,0,none⟩=some (.int .i64 p):=(b1.cell (by simp)).trans (by go_simp);have c1:w1.cell? ⟨w.heap.size,1,none⟩=some (.slice a n cap):=(b1.cell (by simp)).trans (by go_simp);clear b1 B0 G;go_wp2_with fail;refine (N.out _).mono ?_;rintro e w2 ⟨rfl,b2⟩;have lt:w.heap.size < w1.heap.size:=World.block_lt_of_cell? _ _ c0;have B2:=Lib.hid (B1.out.trans (b2.mono B1.out.size));have d0:w2.cell? ⟨w.heap.size,0,none⟩=some (.int .i64 p):=(b2.cell lt).trans c0;have d1:w2.cell? ⟨w.heap.size,1,none⟩=some (.slice a n cap):=(b2.cell lt).trans c1;clear b2 B1 N c0 c1 lt;go_wp2_with fail;refine (M1.out _).mono ?_;rintro e w3 ⟨rfl,b3⟩;have B3:=Lib.hid (B2.out.trans (b3.mono B2.out.size));clear b3 B2 M1;go_wp2
     go_ret
     exact ⟨ret_int E.out.symm,B3.out⟩
    ·have E:=Lib.hid (doE_5 hg ho ⟨hr0,hr1⟩ hk)
     have M1:=Lib.hid (fun w=>at_bool (show mayB p op rec=false from decide_eq_false hk) (M.out w));clear hk hg G0 M;generalize doE p l op rec=d at *;generalize need op=q at *;generalize l.length=n at *;unfold file at *
     go_enter Tryz.func213,Tryz.ntmps213
     go_wp2_with fail;refine G.out.mono ?_;rintro e w1 ⟨rfl,b1⟩;have B1:=Lib.hid (B0.out.trans (b1.mono B0.out.size));have c0:w1.cell? ⟨w.heap.size,0,none⟩=some (.int .i64 p):=(b1.cell (by simp)).trans (by go_simp);have c1:w1.cell? ⟨w.heap.size,1,none⟩=some (.slice a n cap):=(b1.cell (by simp)).trans (by go_simp);clear b1 B0 G;go_wp2_with fail;refine (N.out _).mono ?_;rintro e w2 ⟨rfl,b2⟩;have lt:w.heap.size < w1.heap.size:=World.block_lt_of_cell? _ _ c0;have B2:=Lib.hid (B1.out.trans (b2.mono B1.out.size));have d0:w2.cell? ⟨w.heap.size,0,none⟩=some (.int .i64 p):=(b2.cell lt).trans c0;have d1:w2.cell? ⟨w.heap.size,1,none⟩=some (.slice a n cap):=(b2.cell lt).trans c1;clear b2 B1 N c0 c1 lt;go_wp2_with fail;refine (M1.out _).mono ?_;rintro e w3 ⟨rfl,b3⟩;have B3:=Lib.hid (B2.out.trans (b3.mono B2.out.size));clear b3 B2 M1;go_wp2
     go_ret
     exact ⟨ret_int E.out.symm,B3.out⟩
   ·have E:=Lib.hid (doE_4 hg ho hr)
    clear hg G0;have hr':rec < 0∨(0≤rec∧(l.length:Int)≤rec):=by omega
    clear hr;generalize doE p l op rec=d at *;generalize need op=q at *;generalize l.length=n at *;unfold file at *
    rcases hr' with hr | ⟨hr,hr2⟩
    all_goals
     go_enter Tryz.func213,Tryz.ntmps213
     go_wp2_with fail;refine G.out.mono ?_;rintro e w1 ⟨rfl,b1⟩;have B1:=Lib.hid (B0.out.trans (b1.mono B0.out.size));have c0:w1.cell? ⟨w.heap.size,0,none⟩=some (.int .i64 p):=(b1.cell (by simp)).trans (by go_simp);have c1:w1.cell? ⟨w.heap.size,1,none⟩=some (.slice a n cap):=(b1.cell (by simp)).trans (by go_simp);clear b1 B0 G;go_wp2_with fail;refine (N.out _).mono ?_;rintro e w2 ⟨rfl,b2⟩;have lt:w.heap.size < w1.heap.size:=World.block_lt_of_cell? _ _ c0;have B2:=Lib.hid (B1.out.trans (b2.mono B1.out.size));have d0:w2.cell? ⟨w.heap.size,0,none⟩=some (.int .i64 p):=(b2.cell lt).trans c0;have d1:w2.cell? ⟨w.heap.size,1,none⟩=some (.slice a n cap):=(b2.cell lt).trans c1;clear b2 B1 N c0 c1 lt;go_wp2
     go_ret
     exact ⟨ret_int E.out.symm,B2.out⟩
  ·have E:=Lib.hid (doE_1 (rec:=rec) hg ho)
   have N:=Lib.hid (fun w=>at_int (needsN_no ho) (needs_any w op));clear hg G0 ho;generalize doE p l op rec=d at *;generalize l.length=n at *;unfold file at *
   go_enter Tryz.func213,Tryz.ntmps213
   go_wp2_with fail;refine G.out.mono ?_;rintro e w1 ⟨rfl,b1⟩;have B1:=Lib.hid (B0.out.trans (b1.mono B0.out.size));clear b1 B0 G;go_wp2_with fail;refine (N.out _).mono ?_;rintro e w2 ⟨rfl,b2⟩;have B2:=Lib.hid (B1.out.trans (b2.mono B1.out.size));clear b2 B1 N;go_wp2
   go_ret
   exact ⟨ret_int E.out.symm,B2.out⟩
 ·have E:=Lib.hid (doE_2 (op:=op) (rec:=rec) hg)
  have G:=Lib.hid (at_bool (show goodFB p l=false from decide_eq_false hg) G0.out);clear hg G0;generalize doE p l op rec=d at *;generalize l.length=n at *;unfold file at *
  go_enter Tryz.func213,Tryz.ntmps213
  go_wp2_with fail;refine G.out.mono ?_;rintro e w1 ⟨rfl,b1⟩;have B1:=Lib.hid (B0.out.trans (b1.mono B0.out.size));clear b1 B0 G;go_wp2
  go_ret
  exact ⟨ret_int E.out.symm,B1.out⟩
end Go.Proofs.YtljnkaodhfnbbaaGreatDoor.Fl
namespace Go.Proofs.YtljnkaodhfnbbaaGreatDoor.Fl
open Go.RowKit
open Rw (Rd Ow At)
def arr4 (r:R4):Array Value:=#[.int .u8 r.1,.int .u8 r.2.1,.int .u8 r.2.2.1,.int .u8 r.2.2.2]
def sto4 (w:World) (g o:Nat) (r:R4):World:=(((w.setCell ⟨g,o,none⟩ (.int .u8 r.1)).setCell ⟨g,o+1,none⟩ (.int .u8 r.2.1)).setCell ⟨g,o+2,none⟩ (.int .u8 r.2.2.1)).setCell ⟨g,o+3,none⟩ (.int .u8 r.2.2.2)
theorem sto4_own {w:World} {B:Nat} {l:List R4} {g n cap:Nat} (h:Ow K4 w B 42 (.slice (some ⟨g,0,none⟩) n cap) l) (hn:n=l.length) (i:Nat) (hi:i < l.length) (r:R4) :
 Ow K4 (sto4 w g (i * 4) r) B 42 (.slice (some ⟨g,0,none⟩) n cap) (l.set i r):=by
 subst hn;have get:∀ (m:List R4) (s:R4),i < m.length→(m.set i s).getD i z4=s:=fun m s hm=>by simp [List.getD,hm]
 have h1:=h.set i 0 hi (by decide) (.int .u8 r.1) (r.1,(l.getD i z4).2.1,(l.getD i z4).2.2.1,(l.getD i z4).2.2.2) rfl;have l1:i < (l.set i (r.1,(l.getD i z4).2.1,(l.getD i z4).2.2.1,(l.getD i z4).2.2.2)).length:=by rw [List.length_set];exact hi
 rw [show l.length=(l.set i (r.1,(l.getD i z4).2.1,(l.getD i z4).2.2.1,(l.getD i z4).2.2.2)).length by rw [List.length_set]] at h1;have h2:=h1.set i 1 l1 (by decide) (.int .u8 r.2.1) (r.1,r.2.1,(l.getD i z4).2.2.1,(l.getD i z4).2.2.2) (by show _=((K4.enc ((l.set i _).getD i z4))).set 1 _;rw [get _ _ hi];rfl);rw [List.set_set] at h2;have l2:i < (l.set i (r.1,r.2.1,(l.getD i z4).2.2.1,(l.getD i z4).2.2.2)).length:=by rw [List.length_set];exact hi
 rw [List.length_set,show l.length=(l.set i (r.1,r.2.1,(l.getD i z4).2.2.1,(l.getD i z4).2.2.2)).length by rw [List.length_set]] at h2;have h3:=h2.set i 2 l2 (by decide) (.int .u8 r.2.2.1) (r.1,r.2.1,r.2.2.1,(l.getD i z4).2.2.2) (by show _=((K4.enc ((l.set i _).getD i z4))).set 2 _;rw [get _ _ hi];rfl);rw [List.set_set] at h3;have l3:i < (l.set i (r.1,r.2.1,r.2.2.1,(l.getD i z4).2.2.2)).length:=by rw [List.length_set];exact hi
 rw [List.length_set,show l.length=(l.set i (r.1,r.2.1,r.2.2.1,(l.getD i z4).2.2.2)).length by rw [List.length_set]] at h3;have h4:=h3.set i 3 l3 (by decide) (.int .u8 r.2.2.2) r (by show _=((K4.enc ((l.set i _).getD i z4))).set 3 _;rw [get _ _ hi];rfl);rw [List.set_set] at h4;rw [List.length_set] at h4;exact h4
theorem sto4_row {w:World} {g:Nat} {q:R4} (h:w.heap[g]? = some (.cells (arr4 q) 42 (0,0))) (r:R4):(sto4 w g 0 r).heap[g]? = some (.cells (arr4 r) 42 (0,0)) :=
 Rw.heap_setCell_same (Rw.heap_setCell_same (Rw.heap_setCell_same (Rw.heap_setCell_same h _) _) _) _
theorem sto4_other {w:World} {g k o:Nat} {r:R4} {x:Option Obj} (h:w.heap[k]? = x) (hne:k≠g):(sto4 w g o r).heap[k]? = x :=
 (Below.heap_setCell _ _ _ _ hne).trans ((Below.heap_setCell _ _ _ _ hne).trans ((Below.heap_setCell _ _ _ _ hne).trans ((Below.heap_setCell _ _ _ _ hne).trans h)))
theorem sto4_below {w W:World} {B g o:Nat} {r:R4} (h:Below B w W) (hb:B≤g):Below B w (sto4 W g o r) :=
 (((h.setCell (p:=⟨g,o,none⟩) hb _).setCell (p:=⟨g,o+1,none⟩) hb _).setCell (p:=⟨g,o+2,none⟩) hb _).setCell (p:=⟨g,o+3,none⟩) hb _
theorem sto4_size (w:World) (g o:Nat) (r:R4):(sto4 w g o r).heap.size=w.heap.size:=by simp [sto4]
theorem sto4_off {w:World} {B g o:Nat} {v:Value} {l:List R4} (h:Ow K4 w B 42 v l) (hne:v.ownBlock≠some g) (r:R4):Ow K4 (sto4 w g o r) B 42 v l :=
 (((h.off (p:=⟨g,o,none⟩) hne _).off (p:=⟨g,o+1,none⟩) hne _).off (p:=⟨g,o+2,none⟩) hne _).off (p:=⟨g,o+3,none⟩) hne _
def sto2 (w:World) (g:Nat) (p:Int) (v:Value):World:=(w.setCell ⟨g,0,none⟩ (.int .i64 p)).setCell ⟨g,1,none⟩ v
theorem sto2_row {w:World} {g:Nat} {q:Int} {u:Value} (h:w.heap[g]? = some (.cells #[.int .i64 q,u] 70 (0,0))) (p:Int) (v:Value):(sto2 w g p v).heap[g]? = some (.cells #[.int .i64 p,v] 70 (0,0)) :=
 Rw.heap_setCell_same (Rw.heap_setCell_same h _) _
theorem sto2_other {w:World} {g k:Nat} {p:Int} {v:Value} {x:Option Obj} (h:w.heap[k]? = x) (hne:k≠g):(sto2 w g p v).heap[k]? = x :=
 (Below.heap_setCell _ _ _ _ hne).trans ((Below.heap_setCell _ _ _ _ hne).trans h)
theorem sto2_below {w W:World} {B g:Nat} {p:Int} {v:Value} (h:Below B w W) (hb:B≤g):Below B w (sto2 W g p v):=(h.setCell (p:=⟨g,0,none⟩) hb _).setCell (p:=⟨g,1,none⟩) hb _
theorem sto2_size (w:World) (g:Nat) (p:Int) (v:Value):(sto2 w g p v).heap.size=w.heap.size:=by simp [sto2]
theorem sto2_off {w:World} {B g:Nat} {v u:Value} {l:List R4} (h:Ow K4 w B 42 v l) (hne:v.ownBlock≠some g) (p:Int):Ow K4 (sto2 w g p u) B 42 v l :=
 (h.off (p:=⟨g,0,none⟩) hne _).off (p:=⟨g,1,none⟩) hne _
theorem results_do {fn:Func} {p q r:Tmp} (h:fn.results=#[.cell p 70,.cell q 42,.tmp r]) (tmps:Array Value) (w:World) (g1 g2:Nat) (k:Int) (u:Value) (y:R4) (e:Int)
 (hp:tmps.getD p undef = .pointer (some ⟨g1,0,none⟩)) (hq:tmps.getD q undef = .pointer (some ⟨g2,0,none⟩)) (hr:tmps.getD r undef = .int .i64 e)
 (h1:w.heap[g1]? = some (.cells #[.int .i64 k,u] 70 (0,0))) (h2:w.heap[g2]? = some (.cells (arr4 y) 42 (0,0))) :
 (results fn tmps).run Tryz.prog w = .ok (.tuple #[file k u,rec4 y,.int .i64 e]) w:=by
 have e1:=run_loadVar_row (P:=Tryz.prog) w g1 70 70 #[.int .i64 k,u] (0,0) _ h1 Tryz.underlying70 rfl (by show _=some 2;kernel_rfl);have e2:=run_loadVar_row (P:=Tryz.prog) w g2 42 42 (arr4 y) (0,0) _ h2 Tryz.underlying42 rfl (by show _=some 4;kernel_rfl);have hp':tmps[p]?.getD undef = .pointer (some ⟨g1,0,none⟩):=by simpa using hp
 have hq':tmps[q]?.getD undef = .pointer (some ⟨g2,0,none⟩):=by simpa using hq
 have hr':tmps[r]?.getD undef = .int .i64 e:=by simpa using hr
 simp only [results,h]
 simp [Sem.run_bind,Result.andThen,hp',hq',hr',asAddr,e1,e2,file,rec4,arr4]
structure Start (w:World) (p:Int) (v:Value) (x:R4) (W:World):Prop where
 box:W.heap[w.heap.size]? = some (.cells #[.int .i64 p,v] 70 (0,0))
 arg:W.heap[w.heap.size+1]? = some (.cells (arr4 x) 42 (0,0))
 res1:W.heap[w.heap.size+2]? = some (.cells #[.int .i64 0,.slice none 0 0] 70 (0,0))
 res2:W.heap[w.heap.size+3]? = some (.cells (arr4 z4) 42 (0,0))
 siz:w.heap.size+4≤W.heap.size
 bel:Below w.heap.size w W
theorem Start.mono {w W W':World} {p:Int} {v:Value} {x:R4} (h:Start w p v x W) (b:Below W.heap.size W W'):Start w p v x W' :=
 have s:=h.siz
 ⟨(b.block _ (by omega)).trans h.box,(b.block _ (by omega)).trans h.arg,(b.block _ (by omega)).trans h.res1,(b.block _ (by omega)).trans h.res2,Nat.le_trans h.siz b.size,h.bel.trans (b.mono (by omega))⟩
theorem Start.of (w:World) (p:Int) (v:Value) (x:R4):Start w p v x ((((w.alloc (.cells #[.int .i64 p,v] 70)).alloc (.cells (arr4 x) 42)).alloc (.cells #[.int .i64 0,.slice none 0 0] 70)).alloc (.cells (arr4 z4) 42)):=by
 have z1:∀ a,(w.alloc a).heap.size=w.heap.size+1:=fun a=>by simp
 have z2:∀ a b,((w.alloc a).alloc b).heap.size=w.heap.size+2:=fun a b=>by simp
 have z3:∀ a b c,(((w.alloc a).alloc b).alloc c).heap.size=w.heap.size+3:=fun a b c=>by simp
 refine ⟨?_,?_,?_,?_,by simp,((((Below.refl w.heap.size w).alloc (Nat.le_refl _) _).alloc (by simp) _).alloc (by simp;omega) _).alloc (by simp;omega) _⟩
 ·exact (Below.heap_alloc _ _ _ (by rw [z3];omega)).trans ((Below.heap_alloc _ _ _ (by rw [z2];omega)).trans ((Below.heap_alloc _ _ _ (by rw [z1];omega)).trans (heap_alloc_new w _)))
 ·have:=heap_alloc_new (w.alloc (.cells #[.int .i64 p,v] 70)) (.cells (arr4 x) 42)
  rw [z1] at this;exact (Below.heap_alloc _ _ _ (by rw [z3];omega)).trans ((Below.heap_alloc _ _ _ (by rw [z2];omega)).trans this)
 ·have:=heap_alloc_new ((w.alloc (.cells #[.int .i64 p,v] 70)).alloc (.cells (arr4 x) 42)) (.cells #[.int .i64 0,.slice none 0 0] 70)
  rw [z2] at this;exact (Below.heap_alloc _ _ _ (by rw [z3];omega)).trans this
 ·have:=heap_alloc_new (((w.alloc (.cells #[.int .i64 p,v] 70)).alloc (.cells (arr4 x) 42)).alloc (.cells #[.int .i64 0,.slice none 0 0] 70)) (.cells (arr4 z4) 42)
  rw [z3] at this;exact this
theorem flat_zero (n:Nat):(madeCells #[.int .u8 0,.int .u8 0,.int .u8 0,.int .u8 0] (n * 4)).toList=K4.flat (List.replicate n z4):=by
 refine List.ext_getElem? fun k=>?_;have hl:(K4.flat (List.replicate n z4)).length=n * 4:=by rw [Rw.flat_length,List.length_replicate];rfl
 have hs:(madeCells #[.int .u8 0,.int .u8 0,.int .u8 0,.int .u8 0] (n * 4)).toList.length=n * 4:=by simp [madeCells]
 by_cases hk:k < n * 4
 ·have e:=Rw.flat_get K4 (List.replicate n z4) (k / 4) (k % 4) (by rw [List.length_replicate];omega) (Nat.mod_lt _ (by decide))
  have e4:k / 4 * K4.n+k % 4=k:=by show k / 4 * 4+k % 4=k;omega
  rw [e4] at e;rw [e];have ez:(List.replicate n z4).getD (k / 4) K4.dft=z4:=by
   rw [List.getD_eq_getElem?_getD,List.getElem?_replicate]
   split <;> rfl
  rw [ez];have hm:k % 4 < 4:=Nat.mod_lt _ (by decide);simp only [madeCells,Array.getElem?_toList,Array.getElem?_map,Array.getElem?_range,hk,if_true,Option.map_some,List.size_toArray,List.length_cons,List.length_nil,Nat.zero_add,Nat.reduceAdd]
  rcases (by omega:k % 4=0∨k % 4=1∨k % 4=2∨k % 4=3) with h | h | h | h <;> rw [h] <;> rfl
 ·rw [List.getElem?_eq_none (by omega),List.getElem?_eq_none (by omega)]
def ClonePost (w:World) (l:List R4) (e:Ending) (w':World):Prop:=∃ u,e = .returned u∧Ow K4 w' w.heap.size 42 u l∧Below w.heap.size w w'
set_option maxHeartbeats 400000 in
theorem clone_any (w:World) (v:Value) (l:List R4) (R:Rd K4 w v l) (hl:l.length≤260):Calls Tryz.prog 176 #[v] w (ClonePost w l):=by
 have R0:=Lib.hid R;obtain ⟨a,cap,rfl,⟨h1,h2⟩,hm,_⟩:=R
 cases a with
 | none =>
   have hc:=h2 rfl;have e:l = []:=List.length_eq_zero_iff.1 (by omega);subst e hc;clear h1 h2 hm R0;have hnil:∀ W,(binOp .eql 68 (.slice none 0 0) (.slice none 0 0)).run Tryz.prog W = .ok (.bool true) W:=fun W=>Lib.run_eql_slice_nil_nil W _ _ Tryz.underlying68
   go_enter Tryz.func176,Tryz.ntmps176
   go_wp2
   go_ret
   exact ⟨_,rfl,Ow.nil _ _ _,Below.refl _ _⟩
 | some a =>
   have O:=Lib.hid (Ow.made (K:=K4) w w.heap.size 42 (Nat.le_refl _));have BB:=Lib.hid ((Below.refl w.heap.size w).alloc (Nat.le_refl _) (.cells #[] 42));have RB:=Lib.hid (R0.out.below BB.out);have HL:=Lib.hid hl;have HA:Hid (∀ (v':Value) (w':World),Ow K4 w' w.heap.size 42 v' ([] ++ l)→Ow K4 w' w.heap.size 42 v' l):=fun v' w' h=>by rw [List.nil_append] at h;exact h
   clear h1 h2 R0 hl;have hnil:∀ n W,(binOp .eql 68 (.slice (some a) n cap) (.slice none 0 0)).run Tryz.prog W = .ok (.bool false) W:=fun n W=>Lib.run_eql_slice_some_nil W _ _ _ Tryz.underlying68
   go_enter Tryz.func176,Tryz.ntmps176
   go_wp2_with (at_builtin;refine Rw.all_step Tryz.underlying68 infoR rfl (by omega) rfl _ _ rfl w.heap.size _ _ rfl O.out _ _ rfl RB.out ?c1 ?c2 ?_)
   case c1=>have:=HL.out;simp;omega
   case c2=>simp
   intro v' w' o2 b2
   have E:Hid (ClonePost w l (.returned v') w'):=⟨v',rfl,HA.out _ _ o2,BB.out.trans b2⟩;obtain ⟨a',c',L',rfl⟩:∃ a c L,v' = .slice a L c:=by obtain ⟨a,c,e,_,_⟩:=o2.slice;exact ⟨a,c,_,e⟩
   clear o2 b2 HA RB O;go_wp2
   go_ret
   exact E.out
end Go.Proofs.YtljnkaodhfnbbaaGreatDoor.Fl
namespace Go.Proofs.YtljnkaodhfnbbaaGreatDoor.Sc
open Go.RowKit
structure In (C:World→Prop) where
 world:World
 ok:C world
def Cl (C:World→Prop) (w':World):Prop:=∃ p:In C,w'=p.world
theorem Cl.of {C:World→Prop} {w':World} (h:C w'):∃ p:In C,w'=p.world:=⟨⟨w',h⟩,rfl⟩
theorem cell_in {C:World→Prop} {a:Addr} {v:Value} (h:∀ w',C w'→w'.cell? a=some v) (p:In C):p.world.cell? a=some v:=h _ p.ok
theorem start {P:Program} {id:Nat} {l:List Oper} {Q:Exit→Act→World→Prop} {a:Act} {w:World} (C:World→Prop) (sc:List (Bool×Nat)) (hm:P.follows .mixedOrders=true) (hs:Region.noSelect l.toArray=true)
 (hg:Sd.good l.toArray sc (Array.replicate l.toArray.size false) l.toArray.size=true) (h0:C w.drew) (h:Sd.wpSd P l.toArray (fun w'=>∃ p:In C,w'=p.world) (NoPanic Q) (Sd.picks l sc) a w.drew):(Code.region id l.toArray true).wp P Q a w :=
 wp_region_noPanic (wp_region_held_drew (S:=fun w'=>∃ p:In C,w'=p.world) hm (Cl.of h0) fun _=>Sd.sound hs (fun _ _ _ _ _ h=>h) sc _ _ a _ hg (Cl.of h0) h)
end Go.Proofs.YtljnkaodhfnbbaaGreatDoor.Sc
namespace Go.Proofs.YtljnkaodhfnbbaaGreatDoor.Fl
open Go.RowKit
open Rw (Rd Ow At)
attribute [local irreducible] Sd.wpSd wpQuiet
theorem results_new {fn:Func} {p r:Tmp} (h:fn.results=#[.cell p 70,.tmp r]) (tmps:Array Value) (w:World) (g1:Nat) (k:Int) (u:Value) (e:Int)
 (hp:tmps.getD p undef = .pointer (some ⟨g1,0,none⟩)) (hr:tmps.getD r undef = .int .i64 e)
 (h1:w.heap[g1]? = some (.cells #[.int .i64 k,u] 70 (0,0))) :
 (results fn tmps).run Tryz.prog w = .ok (.tuple #[file k u,.int .i64 e]) w:=by
 have e1:=run_loadVar_row (P:=Tryz.prog) w g1 70 70 #[.int .i64 k,u] (0,0) _ h1 Tryz.underlying70 rfl (by show _=some 2;kernel_rfl);have hp':tmps[p]?.getD undef = .pointer (some ⟨g1,0,none⟩):=by simpa using hp
 have hr':tmps[r]?.getD undef = .int .i64 e:=by simpa using hr
 simp only [results,h]
 simp [Result.andThen,hp',hr',asAddr,e1,file]
theorem set_zero (h:R4) (n:Nat):(List.replicate (n+1) z4).set 0 h=h :: List.replicate n z4:=by rw [List.replicate_succ];rfl
def NewOwn (w:World) (p n:Int) (e:Ending) (w':World):Prop:=∃ u,e = .returned (.tuple #[file p u,.int .i64 0])∧Ow K4 w' w.heap.size 42 u (newL p n)∧Below w.heap.size w w'
set_option maxRecDepth 100000 in
set_option maxHeartbeats 1000000 in
theorem new_own (w:World) (p n:Int) (hp:newP p n):Calls Tryz.prog 229 #[.int .i64 p,.int .i64 n] w (NewOwn w p n):=by
 have B0:=Lib.hid ((Below.refl w.heap.size w).alloc (Nat.le_refl _) (.cells #[.int .i64 0,.slice none 0 0] 70));have HPN:=Lib.hid hp;obtain ⟨p0,p1,n0,n1⟩:=hp;obtain ⟨m,rfl⟩:∃ m:Nat,n=m:=⟨n.toNat,by omega⟩;have P0:=Lib.hid (fun w=>at_bool (perm_yes p0 p1) (perm_any w p));have HH:=Lib.hid (fun w=>hdr_any w p m p0 p1 (by omega) (by omega));have NL:Hid (newL p m=hdr p m :: List.replicate m z4):=rfl;have E:Hid (∀ u w',Ow K4 w' (w.heap.size+1) 42 u (hdr p m :: List.replicate m z4)→Below w.heap.size w w'→NewOwn w p m (.returned (.tuple #[file p u,.int .i64 0])) w'):=fun u w' h hb=>⟨_,rfl,by rw [NL.out];exact h.low (Nat.le_succ _),hb⟩;obtain ⟨i0,hi,hz0,hz1,hz2⟩:=info_parts infoR;unfold rec4 at HH;generalize hdr p m=h at *;have hw1:IntKind.i64.wrap (1+(m:Int))=((m+1:Nat):Int):=by rw [IntWalk.i64_in _ (by omega)];omega
 go_enter Tryz.func229,Tryz.ntmps229
 go_wp2_with fail;refine (P0.out _).mono ?_;rintro e w1 ⟨rfl,b1⟩;have z1:w.heap.size+1≤w1.heap.size:=by have:=b1.size;simp at this;omega
 have B1:=Lib.hid (B0.out.trans (b1.mono B0.out.size));have r0:w1.heap[w.heap.size]? = some (.cells #[.int .i64 0,.slice none 0 0] 70 (0,0)):=(b1.block _ (by simp)).trans (heap_alloc_new w _);clear b1 B0;have hn1:¬ ((m:Int) < 0):=by omega
 have hn2:¬ (256≤(m:Int)):=by omega
 go_wp2_with (at_make;refine wpList_make_full _ rfl _ _ 68 rfl (w.heap.size+1) 42 i0 _ 4 Tryz.underlying68 hi hz0 hz1 _ _ _ _ (m+1) rfl rfl (by omega) (by omega) ?d1 ?d2 ?d3 ?_)
 case d1=>rw [hz2];omega
 case d2=>unfold maxLen;omega
 case d3=>omega
 intro w2 o2 g2
 have O2:Ow K4 w2 (w.heap.size+1) 42 (.slice (some ⟨w1.heap.size,0,none⟩) (m+1) (m+1)) (List.replicate (m+1) z4):=by
  have e:(madeCells #[.int .u8 0,.int .u8 0,.int .u8 0,.int .u8 0] ((m+1) * 4)).toList=K4.flat (List.replicate (m+1) z4):=flat_zero (m+1);rw [e] at o2
  show w2.ownsRow _ _ K4.n _ (List.replicate (m+1) z4).length _
  rw [List.length_replicate];exact o2
 have b2:Below w1.heap.size w1 w2:=(Below.refl w1.heap.size w1).grown g2 (Nat.le_refl _) (fun k e=>by cases e);have B2:=Lib.hid (B1.out.trans (b2.mono (by omega)));have r2:=(b2.block _ (by omega)).trans r0;have z2:w1.heap.size < w2.heap.size:=by
  obtain ⟨g,cap,e,_,hlt,_⟩:=O2.form (by rw [List.length_replicate];omega);injection e with e1;injection e1 with e1;injection e1 with e1 _ _
  omega
 have OO:=Lib.hid O2;clear o2 g2 b2 r0 B1 O2;go_wp2_with fail;have row3:=heap_alloc_new w2 (.cells #[.int .i64 p,.slice (some ⟨w1.heap.size,0,none⟩) (m+1) (m+1)] 70);have B3:=Lib.hid (B2.out.alloc B2.out.size (.cells #[.int .i64 p,.slice (some ⟨w1.heap.size,0,none⟩) (m+1) (m+1)] 70));have O3:=Lib.hid (OO.out.alloc (.cells #[.int .i64 p,.slice (some ⟨w1.heap.size,0,none⟩) (m+1) (m+1)] 70));have r3:=(Below.heap_alloc w2 (.cells #[.int .i64 p,.slice (some ⟨w1.heap.size,0,none⟩) (m+1) (m+1)] 70) w.heap.size (by omega)).trans r2;have z3:w2.heap.size < (w2.alloc (.cells #[.int .i64 p,.slice (some ⟨w1.heap.size,0,none⟩) (m+1) (m+1)] 70)).heap.size:=by simp
 clear B2 OO r2;generalize w2.alloc (.cells #[.int .i64 p,.slice (some ⟨w1.heap.size,0,none⟩) (m+1) (m+1)] 70)=W at *;generalize w2.heap.size=gF at *;have C0:(fun W':World=>W'.heap[gF]? = some (.cells #[.int .i64 p,.slice (some ⟨w1.heap.size,0,none⟩) (m+1) (m+1)] 70 (0,0))) W.drew:=row3;have k1:=Sc.cell_in (C:=fun W':World=>W'.heap[gF]? = some (.cells #[.int .i64 p,.slice (some ⟨w1.heap.size,0,none⟩) (m+1) (m+1)] 70 (0,0))) (a:=⟨gF,1,none⟩) (fun W' h=>row_cell h 1);have k1':W.cell? ⟨gF,1,none⟩=some (.slice (some ⟨w1.heap.size,0,none⟩) (m+1) (m+1)):=row_cell row3 1;have ne:Nonempty (Sc.In (fun W':World=>W'.heap[gF]? = some (.cells #[.int .i64 p,.slice (some ⟨w1.heap.size,0,none⟩) (m+1) (m+1)] 70 (0,0)))):=⟨⟨_,C0⟩⟩;have hm1:0 < m+1:=by omega
 refine Sc.start (fun W':World=>W'.heap[gF]? = some (.cells #[.int .i64 p,.slice (some ⟨w1.heap.size,0,none⟩) (m+1) (m+1)] 70 (0,0))) [(false,0),(false,1),(false,2),(false,3),(true,4),(false,5),(true,6)] (by kernel_rfl) (by kernel_rfl) (by kernel_rfl) C0 ?_;dsimp only [Sd.picks,List.getElem?_cons_succ,List.getElem?_cons_zero]
 repeat (refine Sd.lit ?_;quiet_step (fail);refine wpQuiet_nil ?_)
 refine Sd.call (by rfl) (fun K hK=>?_);go_simp;refine (HH.out _).mono ?_;rintro e w4 ⟨rfl,b4⟩;have b4':Below W.heap.size W w4:=Below.trans ((Below.refl W.heap.size W).drew) b4;have B4:=Lib.hid (B3.out.trans (b4'.mono B3.out.size));have row4:=(b4'.block _ (by omega)).trans row3;have r4:=(b4'.block _ (by omega)).trans r3;have O4:=Lib.hid (O3.out.keep b4');refine hK _ _ (Sc.Cl.of row4) ?_;clear hK K b4 b4' B3 O3 row3 r3 k1'
 repeat (refine Sd.lit ?_;quiet_step (fail);refine wpQuiet_nil ?_)
 refine Sd.call (by rfl) (fun K hK=>?_);obtain ⟨g,cap,eg,_,hlt,_,_,hfr,hat⟩:=O4.out.form (by rw [List.length_replicate];omega);have O5:=Lib.hid (sto4_own (i:=0) O4.out (by rw [List.length_replicate]) (by rw [List.length_replicate];omega) h);rw [set_zero] at O5;have hg1:g=w1.heap.size:=by
  injection eg with e1;injection e1 with e1;injection e1 with e1 _ _;exact e1.symm
 subst hg1;obtain ⟨c0,c1,c2,c3⟩:=at4_0 hat (by rw [List.length_replicate];omega);have f0:=hfr 0;have f1:=hfr 1;have f2:=hfr 2;have f3:=hfr 3;have row5:=sto4_other (g:=w1.heap.size) (o:=0) (r:=h) row4 (by omega);have r5:=sto4_other (g:=w1.heap.size) (o:=0) (r:=h) r4 (by omega);have B5:=Lib.hid (sto4_below (o:=0) (r:=h) B4.out (show w.heap.size≤w1.heap.size by omega));clear hfr hat O4 B4 eg;go_simp;refine hK _ _ (Sc.Cl.of row5) ?_;clear hK K c0 c1 c2 c3 f0 f1 f2 f3 row4 r4 k1 ne C0;refine Sd.done ?_;have d0:(sto4 w4 w1.heap.size 0 h).cell? ⟨gF,0,none⟩=some (.int .i64 p):=row_cell row5 0;have d1:(sto4 w4 w1.heap.size 0 h).cell? ⟨gF,1,none⟩=some (.slice (some ⟨w1.heap.size,0,none⟩) (m+1) (m+1)):=row_cell row5 1;have e0:(sto4 w4 w1.heap.size 0 h).cell? ⟨w.heap.size,0,none⟩=some (.int .i64 0):=row_cell r5 0;have e1:(sto4 w4 w1.heap.size 0 h).cell? ⟨w.heap.size,1,none⟩=some (.slice none 0 0):=row_cell r5 1;have f0:=row_frozen r5 0;have f1:=row_frozen r5 1;have hne:(Value.slice (some ⟨w1.heap.size,0,none⟩) (m+1) (m+1)).ownBlock≠some w.heap.size:=O5.out.range (.inl (by omega));have RR:=Lib.hid (sto2_row r5 p (.slice (some ⟨w1.heap.size,0,none⟩) (m+1) (m+1)));have O6:=Lib.hid (sto2_off (u:=.slice (some ⟨w1.heap.size,0,none⟩) (m+1) (m+1)) O5.out hne p);have B6:=Lib.hid (sto2_below (p:=p) (v:=.slice (some ⟨w1.heap.size,0,none⟩) (m+1) (m+1)) B5.out (Nat.le_refl _));clear row5 r5 O5 B5 hne
 show Exit.then _ _ _ _ (sto4 w4 w1.heap.size 0 h)
 generalize sto4 w4 w1.heap.size 0 h=wS at *;go_wp2
 (try simp only [Exit.inBlock,Exit.then])
 exact bodyPost_ret (v:=.tuple #[file p _,.int .i64 0]) (results_new (p:=4) (r:=5) rfl _ _ w.heap.size p _ 0 rfl rfl RR.out) rfl (E.out _ _ O6.out B6.out)
end Go.Proofs.YtljnkaodhfnbbaaGreatDoor.Fl
namespace Go.Proofs.YtljnkaodhfnbbaaGreatDoor.Fl
open Go.RowKit Go.Shelf
attribute [local go_sem] Oper.semAt_some
def byt (r:R4):Nat→Int
 | 0=>r.1
 | 1=>r.2.1
 | 2=>r.2.2.1
 | _=>r.2.2.2
def bump (r:R4):Nat→R4
 | 0=>(IntKind.u8.wrap (r.1+1),r.2.1,r.2.2.1,r.2.2.2)
 | 1=>(r.1,IntKind.u8.wrap (r.2.1+1),r.2.2.1,r.2.2.2)
 | 2=>(r.1,r.2.1,IntKind.u8.wrap (r.2.2.1+1),r.2.2.2)
 | _=>(r.1,r.2.1,r.2.2.1,IntKind.u8.wrap (r.2.2.2+1))
def over (r:R4) (l:List Nat):R4:=l.foldl bump r
def zs:R4→List Nat→Prop
 | _,[]=>True
 | r,i :: t=>byt (bump r i) i=0∧zs (bump r i) t
theorem over_snoc (r:R4) (l:List Nat) (i:Nat):over r (l ++ [i])=bump (over r l) i:=by simp [over]
theorem zs_snoc:∀ (l:List Nat) (r:R4) (i:Nat),zs r l→byt (over r (l ++ [i])) i=0→zs r (l ++ [i])
 | [],_,_,_,h=>⟨h,trivial⟩
 | j :: l,r,i,h,hb=>⟨h.1,zs_snoc l (bump r j) i h.2 hb⟩
theorem wrap8 (x:Int):IntKind.u8.wrap x=x % 256:=by simp [IntKind.wrap,IntKind.signed,IntKind.bits]
def dn:List Nat:=[3,2,1,0]
theorem inc_of {r q:R4} (hq:okR q) (h:num r+1=num q∨num r+1=num q+4294967296):q=inc r:=by
 obtain ⟨⟨a0,a1⟩,⟨b0,b1⟩,⟨c0,c1⟩,d0,d1⟩:=hq;have e:(num r+1) % 4294967296=num q:=by unfold num at *;omega
 unfold inc;rw [e];unfold bytes num;refine Prod.ext ?_ (Prod.ext ?_ (Prod.ext ?_ ?_)) <;> simp only <;> omega
theorem over_all {r:R4} (hr:okR r) (h:zs r dn):over r dn=inc r:=by
 obtain ⟨⟨a0,a1⟩,⟨b0,b1⟩,⟨c0,c1⟩,d0,d1⟩:=hr;obtain ⟨h3,h2,h1,h0,_⟩:=h;simp only [byt,bump,wrap8] at h0 h1 h2 h3;refine inc_of ?_ ?_
 ·simp only [over,dn,List.foldl_cons,List.foldl_nil,bump,wrap8,okR]
  refine ⟨⟨?_,?_⟩,⟨?_,?_⟩,⟨?_,?_⟩,?_,?_⟩ <;> omega
 ·simp only [over,dn,List.foldl_cons,List.foldl_nil,bump,wrap8,num]
  omega
theorem over_stop {r:R4} (hr:okR r) {ini:List Nat} {i k:Nat} (hk:k < 4) (e:ini ++ [i]=dn.take (k+1)) (h:zs r ini) (hb:byt (over r (ini ++ [i])) i≠0):over r (ini ++ [i])=inc r:=by
 obtain ⟨⟨a0,a1⟩,⟨b0,b1⟩,⟨c0,c1⟩,d0,d1⟩:=hr
 rcases (by omega:k=0∨k=1∨k=2∨k=3) with rfl | rfl | rfl | rfl
 all_goals
  simp only [dn,List.take_succ_cons,List.take_zero] at e
 ·obtain ⟨rfl,e2⟩:=List.append_inj' (show ini ++ [i] = [] ++ [3] from e) rfl
  obtain rfl:i=3:=by simpa using e2
  simp only [over,List.nil_append,List.foldl_cons,List.foldl_nil,byt,bump,wrap8] at hb;refine inc_of ?_ ?_
  ·simp only [over,List.nil_append,List.foldl_cons,List.foldl_nil,bump,wrap8,okR]
   refine ⟨⟨?_,?_⟩,⟨?_,?_⟩,⟨?_,?_⟩,?_,?_⟩ <;> omega
  ·simp only [over,List.nil_append,List.foldl_cons,List.foldl_nil,bump,wrap8,num]
   omega
 ·obtain ⟨rfl,e2⟩:=List.append_inj' (show ini ++ [i] = [3] ++ [2] from e) rfl
  obtain rfl:i=2:=by simpa using e2
  obtain ⟨h3,_⟩:=h;simp only [over,List.nil_append,List.cons_append,List.foldl_cons,List.foldl_nil,byt,bump,wrap8] at hb h3;refine inc_of ?_ ?_
  ·simp only [over,List.nil_append,List.cons_append,List.foldl_cons,List.foldl_nil,bump,wrap8,okR]
   refine ⟨⟨?_,?_⟩,⟨?_,?_⟩,⟨?_,?_⟩,?_,?_⟩ <;> omega
  ·simp only [over,List.nil_append,List.cons_append,List.foldl_cons,List.foldl_nil,bump,wrap8,num]
   omega
 ·obtain ⟨rfl,e2⟩:=List.append_inj' (show ini ++ [i] = [3,2] ++ [1] from e) rfl
  obtain rfl:i=1:=by simpa using e2
  obtain ⟨h3,h2,_⟩:=h;simp only [over,List.nil_append,List.cons_append,List.foldl_cons,List.foldl_nil,byt,bump,wrap8] at hb h3 h2;refine inc_of ?_ ?_
  ·simp only [over,List.nil_append,List.cons_append,List.foldl_cons,List.foldl_nil,bump,wrap8,okR]
   refine ⟨⟨?_,?_⟩,⟨?_,?_⟩,⟨?_,?_⟩,?_,?_⟩ <;> omega
  ·simp only [over,List.nil_append,List.cons_append,List.foldl_cons,List.foldl_nil,bump,wrap8,num]
   omega
 ·obtain ⟨rfl,e2⟩:=List.append_inj' (show ini ++ [i] = [3,2,1] ++ [0] from e) rfl
  obtain rfl:i=0:=by simpa using e2
  obtain ⟨h3,h2,h1,_⟩:=h;simp only [over,List.nil_append,List.cons_append,List.foldl_cons,List.foldl_nil,byt,bump,wrap8] at hb h3 h2 h1;refine inc_of ?_ ?_
  ·simp only [over,List.nil_append,List.cons_append,List.foldl_cons,List.foldl_nil,bump,wrap8,okR]
   refine ⟨⟨?_,?_⟩,⟨?_,?_⟩,⟨?_,?_⟩,?_,?_⟩ <;> omega
  ·simp only [over,List.nil_append,List.cons_append,List.foldl_cons,List.foldl_nil,bump,wrap8,num]
   omega
def arr (r:R4):Array Value:=#[.int .u8 r.1,.int .u8 r.2.1,.int .u8 r.2.2.1,.int .u8 r.2.2.2]
def RowAt (W:World) (b:Nat) (r:R4):Prop:=W.heap[b]? = some (.cells (arr r) 42 (0,0))
def BoxAt (W:World) (Bs b:Nat):Prop:=W.heap[Bs]? = some (.cells #[.slice (some ⟨b,0,none⟩) 4 4] 195 (0,0))
def Kp (Bs b:Nat) (W W':World):Prop:=(BoxAt W Bs b→BoxAt W' Bs b)∧((∃ r,RowAt W b r)→∃ r,RowAt W' b r)
theorem Kp.refl (Bs b:Nat) (W:World):Kp Bs b W W:=⟨id,id⟩
theorem Kp.trans {Bs b:Nat} {A B C:World} (h:Kp Bs b A B) (k:Kp Bs b B C):Kp Bs b A C:=⟨fun x=>k.1 (h.1 x),fun x=>k.2 (h.2 x)⟩
theorem row_cellN {W:World} {b:Nat} {r:R4} (h:RowAt W b r) {m:Nat} (hm:m < 4):W.cell? ⟨b,m,none⟩=some (.int .u8 (byt r m)):=by
 rw [cell_of_row W b m (arr r) _ (0,0) h]
 rcases (by omega:m=0∨m=1∨m=2∨m=3) with rfl | rfl | rfl | rfl <;> rfl
theorem Kp.put {Bs b:Nat} {w:World} (hBs:Bs < w.heap.size) (hb:b < w.heap.size) (W:World) (l:Nat) (o o':Obj) (hl:w.heap.size≤l) (_:W.heap[l]? = some o) (_:o.isCells=false) (_:o.isWalk=false):Kp Bs b W (W.putObj l o') :=
 ⟨fun h=>(World.putObj_heap_other (by omega)).trans h,fun ⟨r,h⟩=>⟨r,(World.putObj_heap_other (by omega)).trans h⟩⟩
abbrev Rnd:=Fin 4×Int
def ixs (l:List Rnd):List Nat:=l.map (·.1.val)
set_option maxRecDepth 100000 in
set_option maxHeartbeats 2000000 in
theorem back1_in (F:Fence) (n:Nat) (hf:F.fn 268) (hro:F.round=none) (hn:1≤n) (l Bs b:Nat) (J Jx:List Rnd→World→Prop)
 (hY:∀ pre x W,J pre W→pre.length < 4→YieldAt F (n - 1) Tryz.prog l #[.int .i64 (x.1.val:Int),.int .u8 x.2] W fun e W' =>
   (e = .returned (.bool true)∧J (pre ++ [x]) W'∧Kp Bs b W W')∨(e = .returned (.bool false)∧Jx (pre ++ [x]) W'))
 (W:World) (hBs:BoxAt W Bs b) (hb:∃ r,RowAt W b r) (h0:J [] W) :
 CallsIn F n Tryz.prog 268 #[.func (.yield l) #[] #[],.pointer (some ⟨Bs,0,none⟩)] W fun e W'=>(∃ v,e = .returned v) ∧
  ((∃ ys,ixs ys=dn∧J ys W')∨(∃ pre,(∃ k,k < 4∧ixs pre=dn.take (k+1))∧Jx pre W')):=by
 refine callsIn_of_wp Tryz.func268 rfl hf ?_ hro;have c0:W.cell? ⟨Bs,0,none⟩=some (.slice (some ⟨b,0,none⟩) 4 4):=row_cell hBs 0;simp only [Tryz.ntmps268,List.size_toArray,List.length_cons,List.length_nil,Nat.reduceAdd,Nat.reduceSub,Array.replicate_succ,Array.replicate_zero,List.push_toArray,List.append_toArray,List.nil_append,List.cons_append]
 gi_wp2
 gi_loopw [3] (fun i wr=>∃ (m:Nat) (pre:List Rnd),pre.length+m=4∧i = .int .i64 ((m:Int) - 1)∧ixs pre=dn.take (4 - m)∧J pre wr∧Kp Bs b W wr)
  (fun i _=>(intOf i+1).toNat)
 case atStart=>exact ⟨4,[],rfl,rfl,rfl,h0,Kp.refl _ _ _⟩
 case round =>
  obtain ⟨m,pre,hl,rfl,hp,hJs,hK⟩:=hrel;have b0:wr.cell? ⟨Bs,0,none⟩=some (.slice (some ⟨b,0,none⟩) 4 4):=row_cell (hK.1 hBs) 0;obtain ⟨r,hr⟩:=hK.2 hb
  rcases m with _ | m
  ·rw [show ((0:Nat):Int) - 1 = -1 from rfl]
   gi_wp2
   go_end0
   exact ⟨⟨_,rfl⟩,.inl ⟨_,hp,hJs⟩⟩
  ·have hm:m < 4:=by omega
   rw [show ((m+1:Nat):Int) - 1=m by omega];have hc:=row_cellN hr hm;obtain ⟨fn,tmps,assign,body,hy,hR⟩:=hY pre (⟨m,hm⟩,byt r m) wr hJs (by omega);dsimp only at hy;have hpp:ixs (pre ++ [((⟨m,hm⟩,byt r m):Rnd)])=dn.take (4 - m):=by
    unfold ixs at *;rw [List.map_append,hp]
    rcases (by omega:m=0∨m=1∨m=2∨m=3) with rfl | rfl | rfl | rfl <;> rfl
   gi_wp2
   refine hR.mono ?_;rintro e W3 (⟨rfl,hJ3,hk3⟩ | ⟨rfl,hJx3⟩)
   ·gi_wp2
    go_roundw
    case rel=>exact ⟨m,_,by rw [List.length_append];simp only [List.length_cons,List.length_nil];omega,by first | rfl | go_num,hpp,hJ3,hK.trans hk3⟩
    case measure=>simp [intOf] <;> omega
   ·gi_wp2
    refine bodyPost_ret (results_none rfl _ _ _) rfl ?_;exact ⟨⟨_,rfl⟩,.inr ⟨_,⟨3 - m,by omega,by rw [hpp];congr 1;omega⟩,hJx3⟩⟩
set_option maxHeartbeats 400000 in
theorem back_in (F:Fence) (n:Nat) (hf:F.fn 250) (hro:F.round=none) (a:Option Addr) (len cap:Nat) (w:World) :
 CallsIn F n Tryz.prog 250 #[.slice a len cap] w fun e w'=>e = .returned (.func (.func 268) #[] #[.pointer (some ⟨w.heap.size,0,none⟩)])∧w'=w.alloc (.cells #[.slice a len cap] 195):=by
 refine callsIn_of_wp Tryz.func250 rfl hf ?_ hro;simp only [Tryz.ntmps250,List.size_toArray,List.length_cons,List.length_nil,Nat.reduceAdd,Nat.reduceSub,Array.replicate_succ,Array.replicate_zero,List.push_toArray,List.append_toArray,List.nil_append,List.cons_append]
 gi_wp2
 go_ret
 exact ⟨rfl,rfl⟩
theorem back_stops (F:Fence) (n:Nat) (hf:F.fn 268) (hro:F.round=none) (hn:1≤n) (Bs b:Nat) (w:World) (hBs:BoxAt w Bs b) (hb:∃ r,RowAt w b r) :
 SeqStopsK F n Tryz.prog 268 #[.pointer (some ⟨Bs,0,none⟩)] (fun x:Rnd=>#[Value.int .i64 (x.1.val:Int),Value.int .u8 x.2]) (Kp Bs b) (fun ys=>ixs ys=dn) (fun pre=>∃ k,k < 4∧ixs pre=dn.take (k+1)) 4 w:=fun l J Jx W hW _ _ hY h0 =>
 back1_in F n hf hro hn l Bs b J Jx hY W ((hW.block _ (lt_of_block hBs)).trans hBs) (by obtain ⟨r,h⟩:=hb;exact ⟨r,(hW.block _ (lt_of_block h)).trans h⟩) h0
end Go.Proofs.YtljnkaodhfnbbaaGreatDoor.Fl
namespace Go.Proofs.YtljnkaodhfnbbaaGreatDoor.Fl
open Go.RowKit Go.Shelf
attribute [local go_sem] Oper.semAt_some
theorem row_kept {A B:World} {row:Option Nat} {g:Nat} {cs:Array Value} {t:TypeId} (h:A.heap[g]? = some (.cells cs t (0,0))) (hg:A.grownBy B row) (hr:∀ r,row=some r→∃ o:Obj,A.heap[r]? = some o∧o.isCells=false):B.heap[g]? = some (.cells cs t (0,0)) :=
 (grownBy_keeps_cells hg hr h rfl).trans h
structure Mid (w:World) (r q:R4) (W:World):Prop where
 row:RowAt W w.heap.size q
 res:RowAt W (w.heap.size+1) z4
 box:BoxAt W (w.heap.size+2) w.heap.size
 bel:Below w.heap.size w W
theorem Mid.own {w:World} {r q:R4} {A B:World} {row:Option Nat} (h:Mid w r q A) (hg:A.grownBy B row) (hr:∀ x,row=some x→w.heap.size+3≤x∧∃ o:Obj,A.heap[x]? = some o∧o.isCells=false):Mid w r q B :=
 ⟨row_kept h.row hg fun x e=>(hr x e).2,row_kept h.res hg fun x e=>(hr x e).2,row_kept h.box hg fun x e=>(hr x e).2,h.bel.grown hg h.bel.size fun k e=>by have:=(hr k e).1;omega⟩
theorem byt_put {W:World} {b:Nat} {q:R4} (h:RowAt W b q):∀ i,i < 4→RowAt (W.setCell ⟨b,i,none⟩ (.int .u8 ((byt q i+1) % 256))) b (bump q i):=fun i hi=>by
 have:=Rw.heap_setCell_same (j:=i) h (.int .u8 ((byt q i+1) % 256));rw [← wrap8] at this ⊢
 rcases (by omega:i=0∨i=1∨i=2∨i=3) with rfl | rfl | rfl | rfl <;> exact this
theorem row_setOther {W:World} {b g i:Nat} {v:Value} {cs:Array Value} {t:TypeId} (h:W.heap[g]? = some (.cells cs t (0,0))) (hne:g≠b):(W.setCell ⟨b,i,none⟩ v).heap[g]? = some (.cells cs t (0,0)):=(Below.heap_setCell W ⟨b,i,none⟩ v g hne).trans h
theorem Mid.step {w:World} {r q:R4} {W:World} (h:Mid w r q W) {i:Nat} (hi:i < 4):Mid w r (bump q i) (W.setCell ⟨w.heap.size,i,none⟩ (.int .u8 ((byt q i+1) % 256))) :=
 ⟨byt_put h.row i hi,row_setOther h.res (by omega),row_setOther h.box (by omega),h.bel.setCell (p:=⟨w.heap.size,i,none⟩) (Nat.le_refl _) _⟩
theorem byt_bump (q:R4) (i:Nat) (hi:i < 4):byt (bump q i) i=(byt q i+1) % 256:=by
 rw [← wrap8]
 rcases (by omega:i=0∨i=1∨i=2∨i=3) with rfl | rfl | rfl | rfl <;> rfl
theorem res_put {W:World} {b:Nat} {q:R4} (h:RowAt W b z4):RowAt ((((W.setCell ⟨b,0,none⟩ (.int .u8 (byt q 0))).setCell ⟨b,1,none⟩ (.int .u8 (byt q 1))).setCell ⟨b,2,none⟩ (.int .u8 (byt q 2))).setCell ⟨b,3,none⟩ (.int .u8 (byt q 3))) b q :=
 Rw.heap_setCell_same (Rw.heap_setCell_same (Rw.heap_setCell_same (Rw.heap_setCell_same h _) _) _) _
theorem oth_put {W:World} {b g:Nat} {q:R4} {o:Obj} (h:W.heap[g]? = some o) (hne:g≠b):((((W.setCell ⟨b,0,none⟩ (.int .u8 (byt q 0))).setCell ⟨b,1,none⟩ (.int .u8 (byt q 1))).setCell ⟨b,2,none⟩ (.int .u8 (byt q 2))).setCell ⟨b,3,none⟩ (.int .u8 (byt q 3))).heap[g]? = some o :=
 (Below.heap_setCell _ _ _ _ hne).trans ((Below.heap_setCell _ _ _ _ hne).trans ((Below.heap_setCell _ _ _ _ hne).trans ((Below.heap_setCell _ _ _ _ hne).trans h)))
theorem bel_put {w W:World} {b:Nat} {q:R4} (h:Below w.heap.size w W) (hb:w.heap.size≤b):Below w.heap.size w ((((W.setCell ⟨b,0,none⟩ (.int .u8 (byt q 0))).setCell ⟨b,1,none⟩ (.int .u8 (byt q 1))).setCell ⟨b,2,none⟩ (.int .u8 (byt q 2))).setCell ⟨b,3,none⟩ (.int .u8 (byt q 3))) :=
 (((h.setCell (p:=⟨b,0,none⟩) hb _).setCell (p:=⟨b,1,none⟩) hb _).setCell (p:=⟨b,2,none⟩) hb _).setCell (p:=⟨b,3,none⟩) hb _
set_option maxRecDepth 100000 in
set_option maxHeartbeats 2000000 in
theorem one_in (F:Fence) (n:Nat) (h1:F.fn 214) (h2:F.fn 250) (h3:F.fn 268) (hro:F.round=none) (hn:3≤n) (w:World) (r:R4) (hr:okR r) :
 CallsIn F n Tryz.prog 214 #[rec4 r] w fun e W'=>e = .returned (rec4 (inc r))∧Below w.heap.size w W':=by
 have hn1:1≤n:=by omega
 unfold rec4;refine callsIn_of_wp_marks Tryz.func214 rfl h1 ?_ hro;simp only [Tryz.ntmps214,List.size_toArray,List.length_cons,List.length_nil,Nat.reduceAdd,Nat.reduceSub,Array.replicate_succ,Array.replicate_zero,List.push_toArray,List.append_toArray,List.nil_append,List.cons_append]
 gi_wp2_with (gi_at_call 250;refine (back_in F (n - 1) h2 hro _ _ _ _).mono ?_;rintro e w' ⟨rfl,rfl⟩)
 obtain ⟨W0,hW0⟩:∃ W0,((w.alloc (.cells #[.int .u8 r.1,.int .u8 r.2.1,.int .u8 r.2.2.1,.int .u8 r.2.2.2] 42)).alloc (.cells #[.int .u8 0,.int .u8 0,.int .u8 0,.int .u8 0] 42)).alloc (.cells #[.slice (some ⟨w.heap.size,0,none⟩) 4 4] 195)=W0:=⟨_,rfl⟩;have M0:Mid w r r W0:=by
  have z1:∀ o,(w.alloc o).heap.size=w.heap.size+1:=fun o=>by simp
  have z2:∀ o o',((w.alloc o).alloc o').heap.size=w.heap.size+2:=fun o o'=>by simp
  subst hW0;refine ⟨?_,?_,?_,(((Below.refl w.heap.size w).alloc (Nat.le_refl _) _).alloc (by simp) _).alloc (by simp;omega) _⟩
  ·exact (Below.heap_alloc _ _ _ (by rw [z2];omega)).trans ((Below.heap_alloc _ _ _ (by rw [z1];omega)).trans (heap_alloc_new w _))
  ·have:=heap_alloc_new (w.alloc (.cells #[.int .u8 r.1,.int .u8 r.2.1,.int .u8 r.2.2.1,.int .u8 r.2.2.2] 42)) (.cells #[.int .u8 0,.int .u8 0,.int .u8 0,.int .u8 0] 42)
   rw [z1] at this;exact (Below.heap_alloc _ _ _ (by rw [z2];omega)).trans this
  ·have:=heap_alloc_new ((w.alloc (.cells #[.int .u8 r.1,.int .u8 r.2.1,.int .u8 r.2.2.1,.int .u8 r.2.2.2] 42)).alloc (.cells #[.int .u8 0,.int .u8 0,.int .u8 0,.int .u8 0] 42)) (.cells #[.slice (some ⟨w.heap.size,0,none⟩) 4 4] 195)
   rw [z2] at this;exact this
 have hsz:W0.heap.size=w.heap.size+3:=by rw [← hW0];simp
 rw [hW0];refine wpIn_rangeFunc_ownG hro hn1 (gf:=268) (lb:=#[.pointer (some ⟨w.heap.size+2,0,none⟩)]) rfl h3 (enters_of Tryz.func268 (by kernel_rfl) rfl)
  (back_stops F (n - 1) h3 hro (by omega) (w.heap.size+2) w.heap.size W0 M0.box ⟨_,M0.row⟩) (fun h k=>Kp.trans h k) (Kp.put (by omega) (by omega)) (Below.refl _ _) (fun _=>rfl)
  (fun pre W=>zs r (ixs pre)∧Mid w r (over r (ixs pre)) W)
  (fun c pre W=>c = .exit 0∧∃ ini i,ixs pre=ini ++ [i]∧zs r ini∧byt (over r (ini ++ [i])) i≠0∧Mid w r (over r (ini ++ [i])) W)
  (fun s A B row hs hg hr=>⟨hs.1,hs.2.own hg (by rw [← hsz];exact hr)⟩)
  (fun c s A B row hs hg hr=>by obtain ⟨h1,ini,i,e1,e2,e3,e4⟩:=hs;exact ⟨h1,ini,i,e1,e2,e3,e4.own hg (by rw [← hsz];exact hr)⟩)
  ⟨trivial,M0⟩
  (fun x=>{ tmps:=#[.agg #[.int .u8 r.1,.int .u8 r.2.1,.int .u8 r.2.2.1,.int .u8 r.2.2.2],.pointer (some ⟨w.heap.size,0,none⟩),.pointer (some ⟨w.heap.size+1,0,none⟩),.int .i64 (x.1.val:Int),.slice (some ⟨w.heap.size,0,none⟩) 4 4,.func (.func 268) #[] #[.pointer (some ⟨w.heap.size+2,0,none⟩)],.int .i64 (x.1.val:Int),.int .u8 x.2,undef,undef,undef,undef,undef,undef,undef,undef,undef,undef],defers:=[] }) ?assign ?body ?done ?stop
 case assign =>
  intro l x W K hK
  gi_wp2
  exact hK
 case body =>
  rintro l pre ⟨⟨i,hi⟩,v⟩ W ⟨hz,M⟩ _;have hc:=row_cellN M.row hi;have hf:=row_frozen M.row i;have MS:=Lib.hid (M.step hi);have ei:ixs (pre ++ [((⟨i,hi⟩,v):Rnd)])=ixs pre ++ [i]:=by simp [ixs]
  have e1:=over_snoc r (ixs pre) i;have e2:=byt_bump (over r (ixs pre)) i hi;have hne:=Lib.hid (And.intro ei (And.intro e1 e2));have HZ:=Lib.hid (And.intro hz (zs_snoc (ixs pre) r i hz));clear ei e1 e2 hz;have Y:=hi
  rcases (by omega:i=0∨i=1∨i=2∨i=3) with rfl | rfl | rfl | rfl
  all_goals gi_wp2
  all_goals obtain ⟨ei,e1,e2⟩:=hne.out
  ·exact ⟨(KeepsOthers.setCell _ _ _).from _,rfl,_,_,ei,HZ.out.1,by rw [e1,e2];first | assumption | (rename_i hx;simpa using hx),by rw [e1];exact MS.out⟩
  ·exact ⟨(KeepsOthers.setCell _ _ _).from _,⟨fun _=>MS.out.box,fun _=>⟨_,MS.out.row⟩⟩,by rw [ei];exact HZ.out.2 (by rw [e1,e2];first | assumption | (rename_i hx;simpa using hx)),by rw [ei,e1];exact MS.out⟩
  ·exact ⟨(KeepsOthers.setCell _ _ _).from _,rfl,_,_,ei,HZ.out.1,by rw [e1,e2];first | assumption | (rename_i hx;simpa using hx),by rw [e1];exact MS.out⟩
  ·exact ⟨(KeepsOthers.setCell _ _ _).from _,⟨fun _=>MS.out.box,fun _=>⟨_,MS.out.row⟩⟩,by rw [ei];exact HZ.out.2 (by rw [e1,e2];first | assumption | (rename_i hx;simpa using hx)),by rw [ei,e1];exact MS.out⟩
  ·exact ⟨(KeepsOthers.setCell _ _ _).from _,rfl,_,_,ei,HZ.out.1,by rw [e1,e2];first | assumption | (rename_i hx;simpa using hx),by rw [e1];exact MS.out⟩
  ·exact ⟨(KeepsOthers.setCell _ _ _).from _,⟨fun _=>MS.out.box,fun _=>⟨_,MS.out.row⟩⟩,by rw [ei];exact HZ.out.2 (by rw [e1,e2];first | assumption | (rename_i hx;simpa using hx)),by rw [ei,e1];exact MS.out⟩
  ·exact ⟨(KeepsOthers.setCell _ _ _).from _,rfl,_,_,ei,HZ.out.1,by rw [e1,e2];first | assumption | (rename_i hx;simpa using hx),by rw [e1];exact MS.out⟩
  ·exact ⟨(KeepsOthers.setCell _ _ _).from _,⟨fun _=>MS.out.box,fun _=>⟨_,MS.out.row⟩⟩,by rw [ei];exact HZ.out.2 (by rw [e1,e2];first | assumption | (rename_i hx;simpa using hx)),by rw [ei,e1];exact MS.out⟩
 case done =>
  rintro D ys W hD hys ⟨hz,M⟩ hK;rw [hys] at hz M;rw [over_all hr hz] at M;have hc0:=row_cellN M.row (m:=0) (by omega);have hc1:=row_cellN M.row (m:=1) (by omega);have hc2:=row_cellN M.row (m:=2) (by omega);have hc3:=row_cellN M.row (m:=3) (by omega);have d0:=row_cellN M.res (m:=0) (by omega);have d1:=row_cellN M.res (m:=1) (by omega);have d2:=row_cellN M.res (m:=2) (by omega);have d3:=row_cellN M.res (m:=3) (by omega);have f0:=row_frozen M.res 0;have f1:=row_frozen M.res 1;have f2:=row_frozen M.res 2;have f3:=row_frozen M.res 3
  gi_wp2
  have hK':=oth_put (b:=w.heap.size+1) (q:=inc r) hK (by omega);have RR:=res_put (q:=inc r) M.res;refine ⟨by simp,.inl ⟨_,_,rfl,run_takeDeferred hK',?_⟩⟩;refine ⟨_,results_cell_row (p:=2) rfl _ _ (w.heap.size+1) 42 (arr (inc r)) (0,0) _ rfl ((World.putObj_heap_other (by omega)).trans RR) Tryz.underlying42 rfl (by show _=some 4;kernel_rfl),rfl,?_⟩;exact (bel_put M.bel (by omega)).trans ((belowK_b (w:=w) (Nat.le_refl _) _ D _ _ (by omega) hK' rfl rfl))
 case stop =>
  rintro D c pre W hD ⟨k,hk,e⟩ ⟨rfl,ini,i,e1,e2,e3,M⟩ hK;rw [over_stop hr hk (e1.symm.trans e) e2 e3] at M;have hc0:=row_cellN M.row (m:=0) (by omega);have hc1:=row_cellN M.row (m:=1) (by omega);have hc2:=row_cellN M.row (m:=2) (by omega);have hc3:=row_cellN M.row (m:=3) (by omega);have d0:=row_cellN M.res (m:=0) (by omega);have d1:=row_cellN M.res (m:=1) (by omega);have d2:=row_cellN M.res (m:=2) (by omega);have d3:=row_cellN M.res (m:=3) (by omega);have f0:=row_frozen M.res 0;have f1:=row_frozen M.res 1;have f2:=row_frozen M.res 2;have f3:=row_frozen M.res 3
  gi_wp2
  have hK':=oth_put (b:=w.heap.size+1) (q:=inc r) hK (by omega);have RR:=res_put (q:=inc r) M.res;refine ⟨by simp,.inl ⟨_,_,rfl,run_takeDeferred hK',?_⟩⟩;refine ⟨_,results_cell_row (p:=2) rfl _ _ (w.heap.size+1) 42 (arr (inc r)) (0,0) _ rfl ((World.putObj_heap_other (by omega)).trans RR) Tryz.underlying42 rfl (by show _=some 4;kernel_rfl),rfl,?_⟩;exact (bel_put M.bel (by omega)).trans ((belowK_b (w:=w) (Nat.le_refl _) _ D _ _ (by omega) hK' rfl rfl))
theorem one_any (w:World) (r:R4) (hr:okR r):Calls Tryz.prog 214 #[rec4 r] w fun e w'=>e = .returned (rec4 (inc r))∧Below w.heap.size w w' :=
 (callsIn_wide (n:=3)).1 (one_in Fence.wide 3 trivial trivial trivial rfl (Nat.le_refl _) w r hr)
end Go.Proofs.YtljnkaodhfnbbaaGreatDoor.Fl
namespace Go.Proofs.YtljnkaodhfnbbaaGreatDoor.Sf
open Go.RowKit
open Sd (light light_value By Cl)
structure Fl where
 idx:Nat
 slot:Nat
 cs:Array Value
 ty:TypeId
def fill (F:List Fl) (x:Nat→Value) (a:Act):Act:=F.foldl (fun a f=>a.put (some f.slot) (x f.slot)) a
theorem put_comm (a:Act) {d e:Nat} (h:d≠e) (u v:Value):(a.put (some d) u).put (some e) v=(a.put (some e) v).put (some d) u:=by
 simp only [Act.put];rw [Array.setIfInBounds_comm _ _ h]
theorem put_put (a:Act) (d:Nat) (u v:Value):(a.put (some d) u).put (some d) v=a.put (some d) v:=by
 simp only [Act.put,Array.setIfInBounds_setIfInBounds]
theorem fill_put (x:Nat→Value) (dst:Option Nat) (v:Value):∀ (F:List Fl) (a:Act),(∀ f∈F,dst≠some f.slot)→(fill F x a).put dst v=fill F x (a.put dst v)
 | [],a,_=>rfl
 | f :: r,a,h=>by
   have ih:=fill_put x dst v r (a.put (some f.slot) (x f.slot)) fun g hg=>h g (List.mem_cons_of_mem _ hg)
   show (fill r x (a.put (some f.slot) (x f.slot))).put dst v=fill r x ((a.put dst v).put (some f.slot) (x f.slot))
   rw [ih]
   cases dst with
   | none=>rfl
   | some d=>rw [put_comm a (fun e=>h f (List.mem_cons_self ..) (by rw [e])) (x f.slot) v]
theorem fill_congr {x y:Nat→Value} : ∀ (F:List Fl) (a:Act),(∀ f∈F,x f.slot=y f.slot)→fill F x a=fill F y a
 | [],_,_=>rfl
 | f :: r,a,h=>by
   show fill r x (a.put (some f.slot) (x f.slot))=fill r y (a.put (some f.slot) (y f.slot))
   rw [h f (List.mem_cons_self ..),fill_congr r _ fun g hg=>h g (List.mem_cons_of_mem _ hg)]
def upd (x:Nat→Value) (s:Nat) (v:Value) (k:Nat):Value:=if k=s then v else x k
theorem fill_set (x:Nat→Value) (s:Nat) (v:Value):∀ (F:List Fl) (a:Act),(F.map (·.slot)).Nodup→(∃ f∈F,f.slot=s)→(fill F x a).put (some s) v=fill F (upd x s v) a
 | [],a,_,h=>by obtain ⟨_,h,_⟩:=h;cases h
 | f :: r,a,hn,h=>by
   rw [List.map_cons,List.nodup_cons] at hn
   show (fill r x (a.put (some f.slot) (x f.slot))).put (some s) v=fill r (upd x s v) (a.put (some f.slot) (upd x s v f.slot))
   by_cases e:f.slot=s
   ·have hne:∀ g∈r,g.slot≠s:=fun g hg e'=>hn.1 (List.mem_map.2 ⟨g,hg,by rw [e,e']⟩)
    rw [fill_put x (some s) v r _ fun g hg e'=>hne g hg (Option.some.inj e').symm,e,put_put];rw [show upd x s v s=v by simp [upd]];exact fill_congr r _ fun g hg=>by simp [upd,hne g hg]
   ·obtain ⟨g,hg,hs⟩:=h
    have hg':g∈r:=by
     rcases List.mem_cons.1 hg with rfl | k
     ·exact absurd hs e
     ·exact k
    rw [show upd x s v f.slot=x f.slot by simp [upd,e]];exact fill_set x s v r _ hn.2 ⟨g,hg',hs⟩
def marks (L:Array Bool) (d:List Nat):Array Bool:=d.foldl (fun L i=>L.setIfInBounds i true) L
theorem marks_get:∀ (d:List Nat) (L:Array Bool) (k:Nat),(marks L d)[k]? = if k∈d then (L[k]?).map (fun _=>true) else L[k]?
 | [],L,k=>by simp [marks]
 | i :: r,L,k=>by
   show (marks (L.setIfInBounds i true) r)[k]? = _
   rw [marks_get r,Array.getElem?_setIfInBounds]
   by_cases hi:i=k
   ·subst hi
    by_cases hl:i < L.size
    ·simp [hl]
    ·simp [hl]
   ·have hk:k≠i:=fun e=>hi e.symm
    simp [hi,hk]
theorem marks_size:∀ (d:List Nat) (L:Array Bool),(marks L d).size=L.size
 | [],_=>rfl
 | j :: r,L=>by show (marks (L.setIfInBounds j true) r).size=_;rw [marks_size r,Array.size_setIfInBounds]
theorem marks_set (L:Array Bool) (d:List Nat) (i:Nat):(marks L d).setIfInBounds i true=marks (L.setIfInBounds i true) d:=by
 refine Array.ext_getElem? fun k=>?_;rw [Array.getElem?_setIfInBounds,marks_get,marks_get,Array.getElem?_setIfInBounds];rw [marks_size]
 by_cases hi:i=k
 ·subst hi
  by_cases hl:i < L.size <;> by_cases hd:i∈d <;> simp [hl,hd]
 ·simp [hi]
def doneOf (F:List Fl) (m:Nat→Bool):List Nat:=(F.filter fun f=>m f.idx).map (·.idx)
theorem mem_done {F:List Fl} {m:Nat→Bool} {k:Nat} : k∈doneOf F m↔m k=true∧∃ f∈F,f.idx=k:=by
 unfold doneOf;rw [List.mem_map]
 constructor
 ·rintro ⟨f,hf,rfl⟩
  rw [List.mem_filter] at hf;exact ⟨hf.2,f,hf.1,rfl⟩
 ·rintro ⟨hm,f,hf,rfl⟩
  exact ⟨f,List.mem_filter.2 ⟨hf,hm⟩,rfl⟩
def on (m:Nat→Bool) (j k:Nat):Bool:=k == j || m k
theorem marks_on (L:Array Bool) (F:List Fl) (m:Nat→Bool) (f:Fl) (hf:f∈F):(marks L (doneOf F m)).setIfInBounds f.idx true=marks L (doneOf F (on m f.idx)):=by
 rw [marks_set];refine Array.ext_getElem? fun k=>?_;rw [marks_get,marks_get,Array.getElem?_setIfInBounds]
 by_cases e:f.idx=k
 ·subst e
  have h2:f.idx∈doneOf F (on m f.idx):=mem_done.2 ⟨by simp [on],f,hf,rfl⟩;rw [if_pos h2]
  by_cases hl:f.idx < L.size <;> by_cases hd:f.idx∈doneOf F m <;> simp [hl,hd]
 ·have hiff:(k∈doneOf F (on m f.idx))↔(k∈doneOf F m):=by
   have hb:(k == f.idx)=false:=by simpa using fun h=>e h.symm
   rw [mem_done,mem_done]
   simp [on,hb]
  by_cases hd:k∈doneOf F m
  ·rw [if_pos hd,if_pos (hiff.2 hd)];simp [e]
  ·rw [if_neg hd,if_neg (fun h=>hd (hiff.1 h))];simp [e]
def allMasks:List Fl→(List Nat→Bool)→Bool
 | [],k=>k []
 | f :: r,k=>allMasks r k && allMasks r (fun d=>k (f.idx :: d))
theorem allMasks_spec:∀ (F:List Fl) (k:List Nat→Bool),allMasks F k=true→∀ m,k (doneOf F m)=true
 | [],k,h,m=>h
 | f :: r,k,h,m=>by
   unfold allMasks at h;rw [Bool.and_eq_true] at h;unfold doneOf;rw [List.filter_cons]
   cases hm:m f.idx with
   | true=>rw [if_pos rfl];exact allMasks_spec r _ h.2 m
   | false=>rw [if_neg (by simp)];exact allMasks_spec r _ h.1 m
def good (ops:Array Oper):List (Nat×Nat)→List Fl→Array Bool→Bool
 | [],F,L=>F.isEmpty && (Region.ready .any ops L).isEmpty
 | (0,i) :: r,F,L =>
   (match ops[i]? with
    | some o=>light o.op && F.all (fun f=>o.dst != some f.slot) && allMasks F (fun d=>Region.free .any ops (marks L d) i && (Region.ready .any ops (marks L d)).contains i)
    | none=>false) && good ops r F (L.setIfInBounds i true)
 | (1,i) :: r,F,L =>
   (match ops[i]? with
    | some o=>F.all (fun f=>o.dst != some f.slot) && allMasks F (fun d=>!(Region.ready .any ops (marks L d)).isEmpty && (Region.ready .any ops (marks L d)).all fun j=>j == i || F.any fun f=>f.idx == j && !d.contains j)
    | none=>false) && good ops r F (L.setIfInBounds i true)
 | (_,i) :: r,f :: F,L =>
   (ops[i]?).isSome && allMasks (f :: F) (fun d=>d.contains f.idx || (!(Region.ready .any ops (marks L d)).isEmpty && (Region.ready .any ops (marks L d)).all fun j=>(f :: F).any fun g=>g.idx == j && !d.contains j)) && good ops r F (L.setIfInBounds f.idx true)
 | (_,_) :: _,[],_=>false
def wpSf (P:Program) (ops:Array Oper) (C:World→Prop) (Q:Exit→Act→World→Prop) (n0:Nat):List (Nat×Oper)→List Fl→List (Nat×Nat)→List Nat→Act→World→Prop
 | [],_,_,_,a,w=>∀ w',Below w.heap.size w w'→C w'→Q .normal a w'
 | (0,o) :: r,F,H,L,a,w=>∀ x,wpQuiet P ops C (fun a'=>wpSf P ops C Q n0 r F H L a' w) [o] (fill F x a)
 | (1,o) :: r,F,H,L,a,w=>∀ x w',Below w.heap.size w w'→C w'→Region.wanted o (yielded ops (fill F x a).tmps)=true ∧
     o.wp P (fill F x a) w' (fun a'' w''=>C w''∧w'.heap.size≤w''.heap.size∧(F≠[]→Below w'.heap.size w' w'')∧wpSf P ops C Q n0 r F ((w'.heap.size,w''.heap.size) :: H) L a'' w'') Q
 | (_,_) :: r,F,H,L,a,w=>match F with
   | []=>False
   | f :: F=>∀ g w',Below w.heap.size w w'→C w'→w'.heap[g]? = some (.cells f.cs f.ty (0,0))→n0≤g→(∀ p∈H,g < p.1∨p.2≤g)→g ∉ L→wpSf P ops C Q n0 r F H (g :: L) (a.put (some f.slot) (.pointer (some ⟨g,0,none⟩))) w'
def picks (l:List Oper):List (Nat×Nat)→List (Nat×Oper)
 | []=>[]
 | (k,i) :: r=>match l[i]? with
   | some o=>(k,o) :: picks l r
   | none=>picks l r
structure Inv (F:List Fl) (m:Nat→Bool) (x:Nat→Value) (a:Act) (n0:Nat) (H:List (Nat×Nat)) (L:List Nat) (w:World):Prop where
 old:∀ f∈F,m f.idx=false→x f.slot=a.tmps.getD f.slot undef
 new:∀ f∈F,m f.idx=true→∃ g,x f.slot = .pointer (some ⟨g,0,none⟩)∧w.heap[g]? = some (.cells f.cs f.ty (0,0))∧n0≤g∧(∀ p∈H,g < p.1∨p.2≤g)∧g ∉ L
 apart:∀ f∈F,∀ f'∈F,f.slot≠f'.slot→m f.idx=true→m f'.idx=true→x f.slot≠x f'.slot
 past:∀ p∈H,p.2≤w.heap.size
 met:∀ g∈L,g < w.heap.size
theorem getD_put (a:Act) (dst:Option Nat) (v:Value) (s:Nat) (h:dst≠some s):(a.put dst v).tmps.getD s undef=a.tmps.getD s undef:=by
 cases dst with
 | none=>rfl
 | some d =>
   have hd:d≠s:=fun e=>h (by rw [e]);simp only [Act.put,Array.getD_eq_getD_getElem?,Array.getElem?_setIfInBounds,if_neg hd]
theorem fill_idem (x:Nat→Value):∀ (F:List Fl) (a:Act),fill F x (fill F x a)=fill F x a
 | [],_=>rfl
 | f :: r,a=>by
   show fill r x ((fill r x (a.put (some f.slot) (x f.slot))).put (some f.slot) (x f.slot))=fill r x (a.put (some f.slot) (x f.slot))
   have e:∀ (r:List Fl) (b:Act),(fill r x (b.put (some f.slot) (x f.slot))).put (some f.slot) (x f.slot)=fill r x (b.put (some f.slot) (x f.slot)):=by
    intro r
    induction r with
    | nil=>intro b;exact put_put b _ _ _
    | cons g r ih =>
      intro b
      show (fill r x ((b.put (some f.slot) (x f.slot)).put (some g.slot) (x g.slot))).put (some f.slot) (x f.slot)=fill r x ((b.put (some f.slot) (x f.slot)).put (some g.slot) (x g.slot))
      by_cases h:f.slot=g.slot
      ·rw [← h,put_put];exact ih b
      ·rw [put_comm b h,ih]
   rw [e];exact fill_idem x r _
def withD (a:Act) (ds:List Deferred):Act:={ a with defers:=ds }
theorem fill_D (x:Nat→Value) (ds:List Deferred):∀ (F:List Fl) (a:Act),withD (fill F x a) ds=fill F x (withD a ds)
 | [],_=>rfl
 | f :: r,a=>by
   show withD (fill r x (a.put (some f.slot) (x f.slot))) ds=fill r x ((withD a ds).put (some f.slot) (x f.slot))
   rw [fill_D x ds r]
   rfl
theorem getD_fill (x:Nat→Value) (s:Nat):∀ (F:List Fl) (a:Act),(∀ f∈F,f.slot=s→x s=a.tmps.getD s undef)→(fill F x a).tmps.getD s undef=a.tmps.getD s undef
 | [],_,_=>rfl
 | f :: r,a,h=>by
   have e:(a.put (some f.slot) (x f.slot)).tmps.getD s undef=a.tmps.getD s undef:=by
    by_cases hs:f.slot=s
    ·subst hs
     have:=h f (List.mem_cons_self ..) rfl;simp only [Act.put,Array.getD_eq_getD_getElem?,Array.getElem?_setIfInBounds] at *
     by_cases hl:f.slot < a.tmps.size
     ·simp [hl] at *;exact this
     ·simp [hl]
    ·exact getD_put a _ _ s (fun k=>hs (Option.some.inj k))
   show (fill r x (a.put (some f.slot) (x f.slot))).tmps.getD s undef=_
   rw [getD_fill x s r _ fun g hg k=>by rw [e];exact h g (List.mem_cons_of_mem _ hg) k,e]
theorem wp_put {P:Program} {o:Oper} {a:Act} {w:World} {K:Act→World→Prop} {Q:Exit→Act→World→Prop} (h:o.wp P a w K Q):o.wp P a w (fun a' w'=>(∃ ds v,a'=(withD a ds).put o.dst v)∧K a' w') Q:=by
 unfold Oper.wp at *
 cases hr:(execOp a.eval o).run P w with
 | halt y w1=>rw [hr] at h;cases y <;> exact h
 | ok nx w1 =>
   rw [hr] at h
   cases nx with
   | value v=>exact ⟨⟨a.defers,v,rfl⟩,h⟩
   | skip=>exact ⟨⟨a.defers,undef,rfl⟩,h⟩
   | defer d=>exact ⟨⟨d :: a.defers,undef,rfl⟩,h⟩
   | enter f args =>
     refine Calls.mono h fun e w'' k=>?_
     cases e with
     | returned v=>exact ⟨⟨a.defers,v,rfl⟩,k⟩
     | panicked c=>exact k
     | outgrown=>exact k
   | row r args=>exact Rows.mono h fun v w'' k=>⟨⟨a.defers,v,rfl⟩,k⟩
   | _=>exact h
def left:List Fl→(Nat→Bool)→Nat
 | [],_=>0
 | f :: r,m=>left r m+(if m f.idx then 0 else 1)
theorem on_le (m:Nat→Bool) (j k:Nat):(if on m j k then 0 else 1)≤(if m k then 0 else 1):=by
 unfold on
 cases (k == j) <;> cases m k <;> simp
theorem left_mono (m:Nat→Bool) (j:Nat):∀ r:List Fl,left r (on m j)≤left r m
 | []=>Nat.le_refl _
 | g :: r=>Nat.add_le_add (left_mono m j r) (on_le m j g.idx)
theorem left_on:∀ (F:List Fl) (m:Nat→Bool) (f:Fl),f∈F→m f.idx=false→left F (on m f.idx)+1≤left F m
 | g :: r,m,f,hf,hm=>by
   have a:=left_mono m f.idx r;have b:=on_le m f.idx g.idx;unfold left
   rcases List.mem_cons.1 hf with e | k
   ·subst e
    have:on m f.idx f.idx=true:=by simp [on]
    rw [this,hm]
    simp
    exact a
   ·have ih:=left_on r m f k hm
    omega
theorem nodup_same:∀ {F:List Fl},(F.map (·.slot)).Nodup→∀ f∈F,∀ g∈F,g.slot=f.slot→g=f
 | [],_,f,hf,_,_,_=>by cases hf
 | b :: r,hn,f,hf,g,hg,e=>by
   rw [List.map_cons,List.nodup_cons] at hn
   rcases List.mem_cons.1 hg with h1 | hg'
   ·rcases List.mem_cons.1 hf with h2 | hf'
    ·rw [h1,h2]
    ·exact absurd (List.mem_map.2 ⟨f,hf',by rw [← e,h1]⟩) hn.1
   ·rcases List.mem_cons.1 hf with h2 | hf'
    ·exact absurd (List.mem_map.2 ⟨g,hg',by rw [e,h2]⟩) hn.1
    ·exact nodup_same hn.2 f hf' g hg' e
section
variable {P:Program} {l:List Oper} {C:World→Prop} {Q:Exit→Act→World→Prop} {n0:Nat}
def FlOk (P:Program) (l:List Oper) (f:Fl):Prop:=∃ o,l.toArray[f.idx]? = some o∧o.dst=some f.slot∧o.guard=none∧∀ ρ w,(execOp ρ o).run P w = .ok (.value (.pointer (some ⟨w.heap.size,0,none⟩))) (w.alloc (.cells f.cs f.ty))
theorem Inv.step {F:List Fl} {m:Nat→Bool} {x:Nat→Value} {a:Act} {H:List (Nat×Nat)} {L:List Nat} {w:World} (h:Inv F m x a n0 H L w) (hn:(F.map (·.slot)).Nodup) (hi:∀ f∈F,∀ f'∈F,f.idx=f'.idx→f.slot=f'.slot) (h0:n0≤w.heap.size) (f:Fl) (hf:f∈F) (hm:m f.idx=false) :
 Inv F (on m f.idx) (upd x f.slot (.pointer (some ⟨w.heap.size,0,none⟩))) a n0 H L (w.alloc (.cells f.cs f.ty)):=by
 have same:∀ g∈F,g.slot=f.slot→g=f:=nodup_same hn f hf;have on_:∀ g∈F,g.slot≠f.slot→on m f.idx g.idx=m g.idx:=fun g hg hne=>by
  have hb:(g.idx == f.idx)=false:=by simpa using fun e=>hne (hi g hg f hf e)
  simp [on,hb]
 have onf:on m f.idx f.idx=true:=by simp [on]
 refine ⟨fun g hg hmg=>?_,fun g hg hmg=>?_,fun g hg g' hg' hne hmg hmg'=>?_,fun p hp=>?_,fun g hg=>?_⟩
 ·by_cases e:g.slot=f.slot
  ·rw [same g hg e,onf] at hmg;cases hmg
  ·rw [on_ g hg e] at hmg
   simp only [upd,if_neg e];exact h.old g hg hmg
 ·by_cases e:g.slot=f.slot
  ·obtain rfl:=same g hg e
   exact ⟨w.heap.size,by simp [upd],heap_alloc_new w _,h0,fun p hp=>.inr (h.past p hp),fun hl=>by have:=h.met _ hl;omega⟩
  ·rw [on_ g hg e] at hmg
   obtain ⟨b,h1,h2,h3⟩:=h.new g hg hmg;exact ⟨b,by simp only [upd,if_neg e];exact h1,(Below.heap_alloc w _ b (lt_of_block h2)).trans h2,h3⟩
 ·by_cases e:g.slot=f.slot
  ·have e':g'.slot≠f.slot:=fun k=>hne (e.trans k.symm)
   rw [on_ g' hg' e'] at hmg';obtain ⟨b,h1,h2,_⟩:=h.new g' hg' hmg';have:=lt_of_block h2;simp only [upd,if_pos e,if_neg e',h1]
   simp <;> omega
  ·by_cases e':g'.slot=f.slot
   ·rw [on_ g hg e] at hmg
    obtain ⟨b,h1,h2,_⟩:=h.new g hg hmg;have:=lt_of_block h2;simp only [upd,if_neg e,if_pos e',h1]
    simp <;> omega
   ·rw [on_ g hg e] at hmg
    rw [on_ g' hg' e'] at hmg';simp only [upd,if_neg e,if_neg e'];exact h.apart g hg g' hg' hne hmg hmg'
 ·have:=h.past p hp
  simp
  omega
 ·have:=h.met g hg
  simp
  omega
def cnt:List (Nat×Nat)→Nat
 | []=>0
 | (0,_) :: r=>cnt r+1
 | (1,_) :: r=>cnt r+1
 | (_+2,_) :: r=>cnt r
def Holds (P:Program) (l:List Oper) (C:World→Prop) (Q:Exit→Act→World→Prop) (n0:Nat) (n:Nat):Prop :=
 ∀ (sc:List (Nat×Nat)) (F:List Fl) (H:List (Nat×Nat)) (L:List Nat) (listed:Array Bool) (fuel:Nat) (a:Act) (w:World) (m:Nat→Bool) (x:Nat→Value) (w':World),
  2 * fuel+sc.length≤n→good l.toArray sc F listed=true→(∀ f∈F,FlOk P l f)→(F.map (·.slot)).Nodup→(∀ f∈F,∀ f'∈F,f.idx=f'.idx→f.slot=f'.slot)→Inv F m x a n0 H L w'→Below w.heap.size w w'→C w' →
  cnt sc+left F m≤fuel→wpSf P l.toArray C Q n0 (picks l sc) F H L a w→wpAnyH P .any l.toArray Q C fuel (marks listed (doneOf F m)) (fill F x a) w'
theorem wanted_none {o:Oper} {y:Nat→Option Bool} (h:o.guard=none):Region.wanted o y=true:=by simp [Region.wanted,h]
theorem float {n:Nat} (ih:Holds P l C Q n0 n) (hC:∀ w,C w→n0≤w.heap.size) (hA:∀ w o,C w→C (w.alloc o)) {sc:List (Nat×Nat)} {F:List Fl} {H:List (Nat×Nat)} {L:List Nat} {listed:Array Bool} {fuel:Nat} {a:Act} {w:World} {m:Nat→Bool} {x:Nat→Value} {w':World}
 (hn:2 * (fuel+1)+sc.length≤n+1) (hg:good l.toArray sc F listed=true) (hF:∀ f∈F,FlOk P l f) (hs:(F.map (·.slot)).Nodup) (hi:∀ f∈F,∀ f'∈F,f.idx=f'.idx→f.slot=f'.slot) (hI:Inv F m x a n0 H L w') (hb:Below w.heap.size w w') (hc:C w')
 (hf:cnt sc+left F m≤fuel+1) (h:wpSf P l.toArray C Q n0 (picks l sc) F H L a w) (f:Fl) (hff:f∈F) (hm:m f.idx=false) :
 wpOp P l.toArray Q f.idx (fun a' w'=>C w'∧wpAnyH P .any l.toArray Q C fuel ((marks listed (doneOf F m)).setIfInBounds f.idx true) a' w') (fill F x a) w':=by
 obtain ⟨o,ho,hd,hgd,hrun⟩:=hF f hff;unfold wpOp;simp only [ho,wanted_none hgd,if_true];refine .inl ?_;unfold Oper.wp;rw [hrun];rw [Oper.upon_value,hd,fill_set x f.slot _ F a hs ⟨f,hff,rfl⟩,marks_on listed F m f hff];have lo:=left_on F m f hff hm;exact ⟨hA _ _ hc,ih sc F H L listed fuel a w _ _ _ (by omega) hg hF hs hi (hI.step hs hi (hC _ hc) f hff hm) (hb.trans ((Below.refl _ _).alloc hb.size _)) (hA _ _ hc) (by omega) h⟩
theorem holds (hsel:Region.noSelect l.toArray=true) (hQ:∀ c d v a w,Q (.panic c) (Act.put a d v) w→Q (.panic c) a w) (hC:∀ w,C w→n0≤w.heap.size) (hA:∀ w o,C w→C (w.alloc o)):∀ n,Holds P l C Q n0 n:=by
 intro n
 induction n with
 | zero =>
   intro sc F H L listed fuel a w m x w' hn hg hF hs hi hI hb hc hf h
   have e:sc = []:=List.length_eq_zero_iff.1 (by omega);subst e;unfold good at hg;simp only [Bool.and_eq_true,List.isEmpty_iff] at hg;obtain ⟨rfl,hr⟩:=hg;exact wpAnyH_done hr (h w' hb hc) fuel
 | succ n ih =>
   intro sc F H L listed fuel a w m x w' hn hg hF hs hi hI hb hc hf h
   match sc,hg,h,hn,hf with
   | [],hg,h,_,_ =>
     unfold good at hg;simp only [Bool.and_eq_true,List.isEmpty_iff] at hg;obtain ⟨rfl,hr⟩:=hg;exact wpAnyH_done hr (h w' hb hc) fuel
   | (0,i) :: r,hg,h,hn,hf =>
     have hg':(_ && good l.toArray r F (listed.setIfInBounds i true))=true:=hg;rw [Bool.and_eq_true] at hg';obtain ⟨hg1,hg2⟩:=hg'
     cases ho:l[i]? with
     | none=>simp [ho] at hg1
     | some o =>
       have hop:l.toArray[i]? = some o:=by simp [ho]
       rw [hop] at hg1;simp only [Bool.and_eq_true,List.all_eq_true] at hg1;obtain ⟨⟨hl,hds⟩,hm⟩:=hg1;have hds':∀ f∈F,o.dst≠some f.slot:=fun f hf=>by simpa using hds f hf
       have hm':=allMasks_spec F _ hm m;simp only [Bool.and_eq_true] at hm';rw [picks,ho] at h;obtain ⟨fuel,rfl⟩:∃ k,fuel=k+1:=⟨fuel - 1,by simp only [cnt] at hf;omega⟩;have q:=h x;unfold wpQuiet at q;have next:∀ v',wpSf P l.toArray C Q n0 (picks l r) F H L ((fill F x a).put o.dst v') w→wpAnyH P .any l.toArray Q C fuel ((marks listed (doneOf F m)).setIfInBounds i true) ((fill F x a).put o.dst v') w':=fun v' hnx=>by
        have k:=ih r F H L (listed.setIfInBounds i true) fuel ((fill F x a).put o.dst v') w m x w' (by simp at hn;omega) hg2 hF hs hi ⟨fun f hff hmf=>?_,hI.new,hI.apart,hI.past,hI.met⟩ hb hc (by simp only [cnt] at hf;omega) hnx
        ·rw [fill_put x o.dst v' F a hds',fill_idem,← marks_set] at k
         rw [fill_put x o.dst v' F a hds'];exact k
        ·rw [getD_put _ o.dst v' f.slot (hds' f hff),getD_fill x f.slot F a fun g hg e=>by rw [← e];obtain rfl:=nodup_same hs f hff g hg e;exact hI.old g hg hmf]
         exact hI.old f hff hmf
       by_cases hw:Region.wanted o (yielded l.toArray (fill F x a).tmps)=true
       ·rw [if_pos hw] at q
        obtain ⟨v',hv',e⟩:=q;refine wpAnyH_take (v:=v') hop hsel hm'.1 hm'.2 (fun c a w=>hQ c _ _ a w) (.inl ⟨hw,fun w2 hw2=>?_⟩) hc (next v' e);have q2:=hv' w2 hw2;unfold Oper.quietAt at q2
        cases e2:(execOp (fill F x a).eval o).run P w2 with
        | halt y w1=>rw [e2] at q2;cases q2
        | ok nx w1 =>
          obtain ⟨u,rfl⟩:=light_value hl e2;rw [e2] at q2;obtain ⟨e3,e4⟩:=q2;rw [e3,e4]
       ·rw [if_neg hw] at q
        exact wpAnyH_take (v:=undef) hop hsel hm'.1 hm'.2 (fun c a w=>hQ c _ _ a w) (.inr ⟨by simpa using hw,rfl⟩) hc (next undef q)
   | (1,i) :: r,hg,h,hn,hf =>
     have hg0:=hg;have h0:=h;have hg':(_ && good l.toArray r F (listed.setIfInBounds i true))=true:=hg;rw [Bool.and_eq_true] at hg';obtain ⟨hg1,hg2⟩:=hg'
     cases ho:l[i]? with
     | none=>simp [ho] at hg1
     | some o =>
       have hop:l.toArray[i]? = some o:=by simp [ho]
       rw [hop] at hg1;simp only [Bool.and_eq_true,List.all_eq_true] at hg1;obtain ⟨hds,hm⟩:=hg1;have hds':∀ f∈F,o.dst≠some f.slot:=fun f hf=>by simpa using hds f hf
       have hm':=allMasks_spec F _ hm m;simp only [Bool.and_eq_true,List.all_eq_true] at hm';rw [picks,ho] at h;obtain ⟨hw,hwp⟩:=h x w' hb hc;obtain ⟨fuel,rfl⟩:∃ k,fuel=k+1:=⟨fuel - 1,by simp only [cnt] at hf;omega⟩;refine wpAnyH_all rfl (fun e=>by rw [e] at hm';simp at hm') fun j hj=>?_;have hj':=hm'.2 j hj;rw [Bool.or_eq_true] at hj'
       rcases hj' with e | hfl
       ·obtain rfl:j=i:=by simpa using e
        unfold wpOp;simp only [hop,hw,if_true];refine .inl (Oper.wp_mono (fun a'' w'' hh=>?_) (wp_put hwp));obtain ⟨⟨ds,v,rfl⟩,c2,hsz,hbel,hT⟩:=hh;refine ⟨c2,?_⟩;have k:=ih r F _ L (listed.setIfInBounds j true) fuel ((withD (fill F x a) ds).put o.dst v) w'' m x w'' (by simp at hn;omega) hg2 hF hs hi ⟨fun f hff hmf=>?_,fun f hff hmf=>?_,hI.apart,fun p hp=>?_,fun g hg=>Nat.lt_of_lt_of_le (hI.met g hg) hsz⟩ (Below.refl _ _) c2 (by simp only [cnt] at hf;omega) hT
        ·rw [fill_D,fill_put x o.dst v F _ hds',fill_idem,← marks_set] at k
         rw [fill_D,fill_put x o.dst v F _ hds'];exact k
        ·rw [fill_D,getD_put _ o.dst v f.slot (hds' f hff),getD_fill x f.slot F _ fun g hg e=>by rw [← e];obtain rfl:=nodup_same hs f hff g hg e;exact hI.old g hg hmf]
         exact hI.old f hff hmf
        ·obtain ⟨g,g1,g2,g3,g4,g5⟩:=hI.new f hff hmf
         refine ⟨g,g1,((hbel (List.ne_nil_of_mem hff)).block g (lt_of_block g2)).trans g2,g3,fun p hp=>?_,g5⟩
         rcases List.mem_cons.1 hp with rfl | hp
         ·exact .inl (lt_of_block g2)
         ·exact g4 p hp
        ·rcases List.mem_cons.1 hp with rfl | hp
         ·exact Nat.le_refl _
         ·exact Nat.le_trans (hI.past p hp) hsz
       ·obtain ⟨f,hff,he⟩:=List.any_eq_true.1 hfl
        rw [Bool.and_eq_true] at he;obtain rfl:f.idx=j:=by simpa using he.1
        have hmf:m f.idx=false:=by
         have hd:f.idx ∉ doneOf F m:=by simpa using he.2
         rw [mem_done] at hd
         cases hmm:m f.idx with
         | false=>rfl
         | true=>exact absurd ⟨hmm,f,hff,rfl⟩ hd
        exact float ih hC hA hn hg0 hF hs hi hI hb hc hf h0 f hff hmf
   | (k+2,i) :: r,hg,h,hn,hf =>
     have hg0:=hg;have h0:=h
     match F,hg,h,hF,hs,hi,hI,hf,hg0,h0 with
     | [],hg,h,_,_,_,_,_,_,_=>simp [good] at hg
     | f :: F,hg,h,hF,hs,hi,hI,hf,hg0,h0 =>
       have hg':((l.toArray[i]?).isSome && allMasks (f :: F) _ && good l.toArray r F (listed.setIfInBounds f.idx true))=true:=hg;rw [Bool.and_eq_true,Bool.and_eq_true] at hg';obtain ⟨⟨hio,hm⟩,hg2⟩:=hg';have hm':=allMasks_spec (f :: F) _ hm m
       cases hmm:m f.idx with
       | true =>
         obtain ⟨g,g1,g2,g3,g4,g5⟩:=hI.new f (List.mem_cons_self ..) hmm;have hp:∀ {o:Oper},wpSf P l.toArray C Q n0 ((k+2,o) :: picks l r) (f :: F) H L a w→wpSf P l.toArray C Q n0 (picks l r) F H (g :: L) (a.put (some f.slot) (.pointer (some ⟨g,0,none⟩))) w':=fun h=>h g w' hb hc g2 g3 g4 g5;have hT:wpSf P l.toArray C Q n0 (picks l r) F H (g :: L) (a.put (some f.slot) (.pointer (some ⟨g,0,none⟩))) w':=by
          cases ho:l[i]? with
          | none=>simp [ho] at hio
          | some o =>
            rw [picks,ho] at h;exact hp h
         have hd:doneOf (f :: F) m=f.idx :: doneOf F m:=by unfold doneOf;rw [List.filter_cons,if_pos hmm];rfl
         rw [hd]
         show wpAnyH P .any l.toArray Q C fuel (marks (listed.setIfInBounds f.idx true) (doneOf F m)) (fill F x (a.put (some f.slot) (x f.slot))) w'
         rw [g1];rw [List.map_cons,List.nodup_cons] at hs;have hne:∀ f'∈F,f.slot≠f'.slot:=fun f' h' e=>hs.1 (List.mem_map.2 ⟨f',h',e.symm⟩);refine ih r F H (g :: L) _ fuel _ w' m x w' (by simp at hn;omega) hg2 (fun f' h'=>hF f' (List.mem_cons_of_mem _ h')) hs.2 (fun a ha b hb=>hi a (List.mem_cons_of_mem _ ha) b (List.mem_cons_of_mem _ hb)) ⟨fun f' h' hmf=>?_,fun f' h' hmf=>?_,fun f' h' f'' h''=>hI.apart f' (List.mem_cons_of_mem _ h') f'' (List.mem_cons_of_mem _ h''),hI.past,fun b hb=>?_⟩ (Below.refl _ _) hc ?_ hT
         ·rw [getD_put a _ _ f'.slot (fun e=>hne f' h' (Option.some.inj e))]
          exact hI.old f' (List.mem_cons_of_mem _ h') hmf
         ·obtain ⟨b,b1,b2,b3,b4,b5⟩:=hI.new f' (List.mem_cons_of_mem _ h') hmf
          refine ⟨b,b1,b2,b3,b4,fun hl=>?_⟩
          rcases List.mem_cons.1 hl with e | hl
          ·exact hI.apart f' (List.mem_cons_of_mem _ h') f (List.mem_cons_self ..) (fun e=>hne f' h' e.symm) hmf hmm (by rw [b1,g1,e])
          ·exact b5 hl
         ·rcases List.mem_cons.1 hb with rfl | hb
          ·exact lt_of_block g2
          ·exact hI.met b hb
         ·simp only [cnt,left,hmm] at hf
          simpa using hf
       | false =>
         have hd:(doneOf (f :: F) m).contains f.idx=false:=by
          have:f.idx ∉ doneOf (f :: F) m:=fun h=>by rw [mem_done,hmm] at h;simp at h
          simpa using this
         rw [hd,Bool.false_or] at hm';simp only [Bool.and_eq_true,List.all_eq_true] at hm';have lf:=left_on (f :: F) m f (List.mem_cons_self ..) hmm;obtain ⟨fuel,rfl⟩:∃ k,fuel=k+1:=⟨fuel - 1,by omega⟩;refine wpAnyH_all rfl (fun e=>by rw [e] at hm';simp at hm') fun j hj=>?_;obtain ⟨f',hff,he⟩:=List.any_eq_true.1 (hm'.2 j hj);rw [Bool.and_eq_true] at he;obtain rfl:f'.idx=j:=by simpa using he.1
         have hmf:m f'.idx=false:=by
          have hd:f'.idx ∉ doneOf (f :: F) m:=by simpa using he.2
          rw [mem_done] at hd
          cases hmm:m f'.idx with
          | false=>rfl
          | true=>exact absurd ⟨hmm,f',hff,rfl⟩ hd
         exact float ih hC hA hn hg0 hF hs hi hI hb hc hf h0 f' hff hmf
theorem fill_self (a:Act):∀ F:List Fl,fill F (fun s=>a.tmps.getD s undef) a=a
 | []=>rfl
 | f :: r=>by
   have e:a.put (some f.slot) (a.tmps.getD f.slot undef)=a:=by
    simp only [Act.put];have:a.tmps.setIfInBounds f.slot (a.tmps.getD f.slot undef)=a.tmps:=by
     refine Array.ext_getElem? fun k=>?_;rw [Array.getElem?_setIfInBounds]
     by_cases hk:f.slot=k
     ·subst hk
      by_cases hl:f.slot < a.tmps.size
      ·simp [hl]
      ·simp [hl]
     ·simp [hk]
    rw [this]
   show fill r (fun s=>a.tmps.getD s undef) (a.put (some f.slot) (a.tmps.getD f.slot undef))=a
   rw [e];exact fill_self a r
theorem left_all:∀ F:List Fl,left F (fun _=>false)=F.length
 | []=>rfl
 | f :: r=>by show left r _+1=r.length+1;rw [left_all r]
theorem start {id:Nat} {l:List Oper} {Q:Exit→Act→World→Prop} {a:Act} {w:World} (sc:List (Nat×Nat)) (F:List Fl) (hm:P.follows .mixedOrders=true) (hs:Region.noSelect l.toArray=true)
 (hg:good l.toArray sc F (Array.replicate l.toArray.size false)=true) (hc:cnt sc+F.length≤l.toArray.size) (hn:(F.map (·.slot)).Nodup) (hi:∀ f∈F,∀ f'∈F,f.idx=f'.idx→f.slot=f'.slot) (hF:∀ f∈F,FlOk P l f)
 (h:wpSf P l.toArray (fun w'=>∃ p:By w,w'=p.world) (NoPanic Q) w.heap.size (picks l sc) F [] [] a w.drew):(Code.region id l.toArray true).wp P Q a w :=
 wp_region_noPanic (wp_region_held_drew (S:=Cl w) hm (Cl.of (Below.refl _ _).drew) fun _=>by
  have hd:doneOf F (fun _=>false) = []:=by unfold doneOf;simp
  have k:=holds (P:=P) (l:=l) (C:=Cl w) (Q:=NoPanic Q) (n0:=w.heap.size) hs (fun _ _ _ _ _ h=>h) (fun w' h=>h.bel.size) (fun w' o h=>Cl.of (h.bel.alloc h.bel.size o)) (2 * l.toArray.size+sc.length) sc F [] [] (Array.replicate l.toArray.size false) l.toArray.size a w.drew (fun _=>false) (fun s=>a.tmps.getD s undef) w.drew
   (Nat.le_refl _) hg hF hn hi ⟨fun _ _ _=>rfl,fun _ _ h=>(by cases h),fun _ _ _ _ _ h=>(by cases h),fun _ hp=>(by cases hp),fun _ hg=>(by cases hg)⟩ (Below.refl _ _) (Cl.of (Below.refl _ _).drew) (by rw [left_all];exact hc) h
  rw [hd,fill_self] at k
  exact k)
section
variable {ops:Array Oper} {a:Act} {w:World} {o:Oper} {r:List (Nat×Oper)} {F:List Fl} {H:List (Nat×Nat)} {L:List Nat}
theorem lit (h:∀ x,wpQuiet P ops C (fun a'=>wpSf P ops C Q n0 r F H L a' w) [o] (fill F x a)):wpSf P ops C Q n0 ((0,o) :: r) F H L a w:=h
theorem call (h:∀ x w',Below w.heap.size w w'→C w'→Region.wanted o (yielded ops (fill F x a).tmps)=true ∧
 ∀ K:Act→World→Prop,(∀ a'' w'',C w''→w'.heap.size≤w''.heap.size→(F≠[]→Below w'.heap.size w' w'')→wpSf P ops C Q n0 r F ((w'.heap.size,w''.heap.size) :: H) L a'' w''→K a'' w'')→o.wp P (fill F x a) w' K Q) :
 wpSf P ops C Q n0 ((1,o) :: r) F H L a w:=fun x w' hb hc=>⟨(h x w' hb hc).1,(h x w' hb hc).2 _ fun _ _ c s b k=>⟨c,s,b,k⟩⟩
theorem meet {f:Fl} (h:∀ g w',Below w.heap.size w w'→C w'→w'.heap[g]? = some (.cells f.cs f.ty (0,0))→n0≤g→(∀ p∈H,g < p.1∨p.2≤g)→g ∉ L→wpSf P ops C Q n0 r F H (g :: L) (a.put (some f.slot) (.pointer (some ⟨g,0,none⟩))) w') :
 wpSf P ops C Q n0 ((2,o) :: r) (f :: F) H L a w:=h
theorem done {Q:Exit→Act→World→Prop} (h:∀ w',Below w.heap.size w w'→C w'→Q .normal a w'):wpSf P ops C (NoPanic Q) n0 [] F H L a w:=h
end
end
end Go.Proofs.YtljnkaodhfnbbaaGreatDoor.Sf
