import Derived.Lib.Hide
import Derived.Test.YtdbdacceecnpmaaGreatDoorChecked
import Derived.Deep.LoopGhost
import Derived.WalkSmall
import Derived.Deep.WholeRow
import Derived.Deep.RegionHeld3
import Derived.Lib.BufferMore
import Derived.RangeFuncNested
import Derived.RangeFuncBound
import Derived.Shelf.RegionOpen
import Derived.OwnWalkIn
import Derived.LoopNIn
import Derived.LoopIn
set_option maxRecDepth 100000
set_option maxHeartbeats 2000000
namespace Go.Proofs.YtdbdacceecnpmaaGreatDoor
abbrev aa:=@Go.RowKit.Below.refl
abbrev ac:=@Nat.le_refl
abbrev af:=@List.getD_eq_getElem?_getD
abbrev ah:=@if_neg
abbrev ai:=@List.getElem?_eq_getElem
abbrev aj:=@if_pos
abbrev ak:=@decide_eq_false
abbrev am:=@Go.heap_alloc_new
abbrev an:=@decide_eq_true
abbrev aq:=@List.getElem?_cons_succ
abbrev aw:=@List.getElem?_cons_zero
abbrev ay:=@Go.lt_of_block
abbrev az:=@Go.wpQuiet_nil
abbrev aA:=@Go.bodyPost_ret
abbrev aB:=@Go.run_callFunc_extern
abbrev aC:=@Go.World.block_lt_of_cell?
abbrev aD:=@List.foldl_nil
abbrev aG:=@Bool.and_eq_true
abbrev aH:=@Go.RowKit.Below.heap_setCell
abbrev aI:=@Nat.zero_le
abbrev aJ:=@List.mem_cons_of_mem
abbrev aK:=@List.foldl_cons
abbrev aL:=@List.length_map
abbrev aM:=@List.getElem?_eq_some_iff
abbrev aN:=@List.mem_cons
abbrev aO:=@List.mem_cons_self
abbrev aP:=@Array.getElem?_setIfInBounds
abbrev aQ:=@Go.RowKit.Below.heap_alloc
abbrev aR:=@Go.IntWalk.i64_in
abbrev aT:=@List.length_set
abbrev aU:=@Go.World.ownsRow.lt
abbrev aV:=@Nat.lt_of_lt_of_le
abbrev aW:=@List.length_take
abbrev aX:=@Nat.le_trans
abbrev aY:=@beq_eq_false_iff_ne
abbrev aZ:=@decide_eq_true_eq
abbrev a7:=@Int.toNat_natCast
abbrev a9:=@List.getElem?_map
abbrev bf:=@decide_eq_decide
abbrev bh:=@Option.some.inj
abbrev bi:=@Go.cell_of_row
abbrev bj:=@List.length_append
abbrev bm:=@List.mem_singleton
abbrev bo:=@List.mem_of_getElem?
abbrev bp:=@List.not_mem_nil
abbrev br:=@List.take_length
abbrev bs:=@List.pairwise_cons
abbrev bt:=@List.length_eq_zero_iff
abbrev bz:=@List.nil_append
abbrev bA:=@List.take_of_length_le
abbrev bC:=@List.getElem_mem
abbrev bE:=@List.mem_map
abbrev bF:=@congrArg
abbrev bG:=@List.take_add_one
abbrev bH:=@List.getElem?_of_mem
abbrev bJ:=@Array.getD_eq_getD_getElem?
abbrev bK:=@List.getElem_of_mem
abbrev bM:=@List.mem_append
abbrev bN:=@List.cons_append
abbrev bO:=@Bool.false_ne_true
abbrev bP:=@List.any_eq_true
abbrev bQ:=@List.all_eq_true
abbrev bR:=@List.length_replicate
abbrev bS:=@Option.map_some
abbrev bT:=@And.intro
abbrev bU:=@Array.getElem?_eq_none
abbrev bV:=@List.getElem?_append_left
abbrev bW:=@Int.toNat_of_nonneg
abbrev bX:=@Go.KeepsOthers.setCell
abbrev bY:=@Option.some.injEq
abbrev bZ:=@List.ext_getElem?
abbrev cd:=@Nat.zero_add
abbrev ce:=@Go.run_loadVar_row
abbrev cg:=@List.mem_filter
abbrev ci:=@Nat.not_lt_zero
abbrev cj:=@List.length_cons
abbrev cm:=@List.getElem?_append_right
abbrev cx:=@List.pairwise_iff_getElem
abbrev cy:=@List.getElem?_toArray
abbrev cz:=@Go.info_parts
abbrev cA:=@List.map_append
abbrev cB:=@Go.World.ownsRow.alloc
abbrev cC:=@Go.RowKit.Below.trans
abbrev cD:=@List.length_drop
abbrev cE:=@Bool.false_eq_true
abbrev cG:=@or_false
abbrev cH:=@List.set_append_right
abbrev cI:=@List.getElem?_eq_none
abbrev cJ:=@Array.getElem?_eq_getElem
abbrev cK:=@List.size_toArray
abbrev cL:=@Go.below_drewN
abbrev cM:=@Nat.lt_or_ge
abbrev cN:=@List.Pairwise.nil
abbrev cP:=@Int.le_refl
abbrev cQ:=@List.getElem?_set
abbrev cU:=@Go.frozen_of_row
abbrev cW:=@Array.setIfInBounds_comm
abbrev cX:=@Nat.mul_le_mul
abbrev cY:=@Go.World.putObj_heap_other
abbrev cZ:=@List.find?_eq_none
abbrev db:=@List.getElem?_take
abbrev de:=@Go.World.ownsRow.kept
abbrev df:=@List.length_nil
abbrev dg:=@List.map_cons
theorem Hh {p:Prop} (h:p):Go.RowKit.Hid p:=h
open Go.Proofs.Tryz Go.RowKit
namespace Rw
structure Kind (α:Type) where
 enc:α->List Value
 n:Nat
 pos:0 < n
 len:∀ a,(enc a).length=n
 one:∀ a,∀ u∈enc a,u.oneCell'=true
 dft:α
def int (k:IntKind):Kind Int:=⟨fun z=>[.int k z],1,by decide,fun _=>rfl,fun _ u h=>by simp at h;subst h;rfl,0⟩
section
variable {α:Type} (K:Kind α)
def Kind.flat (l:List α):List Value:=l.flatMap K.enc
theorem flat_length:∀ l:List α,(K.flat l).length=l.length * K.n
 | []=>by simp [Kind.flat]
 | s :: r=>by
   have ih:=flat_length r;simp only [Kind.flat,List.flatMap_cons,bj,K.len,cj] at ih ⊢;rw [ih,Nat.add_mul,Nat.one_mul,Nat.add_comm]
theorem flat_append (a b:List α):K.flat (a ++ b)=K.flat a ++ K.flat b:=by simp [Kind.flat]
theorem flat_one (l:List α):∀ u∈K.flat l,u.oneCell'=true:=fun u hu=>by
 obtain ⟨a,_,h⟩:=List.mem_flatMap.1 hu;exact K.one a u h
theorem flat_get:∀ (l:List α) (i j:Nat),i < l.length->j < K.n->(K.flat l)[i * K.n+j]? = (K.enc (l.getD i K.dft))[j]?
 | s :: r,0,j,_,hj=>by
   show (K.enc s ++ K.flat r)[0 * K.n+j]? = (K.enc s)[j]?
   rw [Nat.zero_mul,cd,bV (by rw [K.len];exact hj)]
 | s :: r,i+1,j,h,hj=>by
   have ih:=flat_get r i j (by simpa using h) hj
   show (K.enc s ++ K.flat r)[(i+1) * K.n+j]? = (K.enc (r.getD i K.dft))[j]?
   rw [cm (by rw [K.len,Nat.add_mul];omega),K.len,show (i+1) * K.n+j - K.n=i * K.n+j by rw [Nat.add_mul];omega];exact ih
def At (w:World) (b off:Nat) (l:List α):Prop:=∀ i,i < l.length->∀ j u,(K.enc (l.getD i K.dft))[j]? = some u->w.cell? ⟨b,off+i * K.n+j,none⟩=some u
def Rd (w:World) (v:Value) (l:List α):Prop:=∃ a cap,v = .slice a l.length cap/\(l.length<=cap/\(a=none->cap=0))/\cap<=maxLen/\(0 < l.length->∃ b off,a=some ⟨b,off,none⟩/\At K w b off l)
def Ow (w:World) (B E:Nat) (v:Value) (l:List α):Prop:=w.ownsRow B E K.n v l.length (K.flat l)
variable {K}
variable {w w':World} {B E:Nat} {v:Value} {l:List α}
variable {b B' g j:Nat}
theorem At.below {off:Nat} (h:At K w b off l) (hb:Below w.heap.size w w'):At K w' b off l:=fun i hi j u hu=>(hb.cell (aC _ _ (h i hi j u hu))).trans (h i hi j u hu)
theorem Rd.below (h:Rd K w v l) (hb:Below w.heap.size w w'):Rd K w' v l:=by
 obtain ⟨a,cap,e,h1,h2,h3⟩:=h;exact ⟨a,cap,e,h1,h2,fun hp=>by obtain ⟨b,off,ea,hA⟩:=h3 hp;exact ⟨b,off,ea,hA.below hb⟩⟩
theorem Rd.slice (h:Rd K w v l):∃ a cap,v = .slice a l.length cap/\cap<=maxLen:=by
 obtain ⟨a,cap,e,_,h2,_⟩:=h;exact ⟨a,cap,e,h2⟩
theorem Rd.nil (w:World):Rd K w (.slice none 0 0) []:=⟨none,0,rfl,⟨ac _,fun _=>rfl⟩,by unfold maxLen;omega,fun h=>by simp at h⟩
theorem Ow.nil (w:World) (B E:Nat):Ow K w B E (.slice none 0 0) []:=World.ownsRow_nil _ _ _ _
theorem Ow.made (w:World) (B E:Nat) (hB:B<=w.heap.size):Ow K (w.alloc (.cells #[] E)) B E (.slice (some ⟨w.heap.size,0,none⟩) 0 0) [] :=
 World.ownsRow_made w #[] 0 hB (by unfold maxLen;omega) (by simp)
theorem Ow.rd (h:Ow K w B E v l):Rd K w v l:=by
 have hc:=fun g hg j u=>World.ownsRow.cells h (g:=g) hg j u;obtain ⟨_,h⟩:=h
 rcases h with ⟨rfl,h0⟩ | ⟨g,cap,cur,rfl,_,_,h1,h2,_⟩
 ·exact ⟨none,0,by rw [h0],⟨by omega,fun _=>rfl⟩,by unfold maxLen;omega,fun h=>by omega⟩
 ·refine ⟨_,cap,rfl,⟨h1,nofun⟩,h2,fun _=>⟨g,0,rfl,fun i hi j u hu=>?_⟩⟩
  have hj:j < K.n:=by have:=(aM.1 hu).1;rw [K.len] at this;exact this
  have c:=hc g rfl _ _ ((flat_get K l i j hi hj).trans hu);simp only [Addr.add_lit] at c;rw [Nat.add_assoc];exact c
theorem Ow.form (h:Ow K w B E v l) (hl:0 < l.length):∃ g cap,v = .slice (some ⟨g,0,none⟩) l.length cap/\B<=g/\g < w.heap.size/\l.length<=cap/\cap<=maxLen/\(∀ k,w.frozen? ⟨g,k,none⟩=false)/\At K w g 0 l:=by
 have hr:=h.rd;obtain ⟨_,h⟩:=h
 rcases h with ⟨_,h0⟩ | ⟨g,cap,cur,rfl,hB,hh,h1,h2,_⟩
 ·omega
 ·refine ⟨g,cap,rfl,hB,ay hh,h1,h2,fun k=>by simp [World.frozen?,hh],?_⟩
  obtain ⟨a,cap',e,_,_,h3⟩:=hr;obtain ⟨b,off,ea,hA⟩:=h3 hl;subst ea;injection e with e1 _ _;injection e1 with e1;injection e1 with e1 e2;subst e1 e2;exact hA
theorem Ow.slice (h:Ow K w B E v l):∃ a cap,v = .slice a l.length cap/\l.length<=cap/\cap<=maxLen:=by
 obtain ⟨_,h⟩:=h
 rcases h with ⟨rfl,h0⟩ | ⟨g,cap,cur,rfl,_,_,h1,h2,_⟩
 ·exact ⟨none,0,by rw [h0],by omega,by unfold maxLen;omega⟩
 ·exact ⟨_,_,rfl,h1,h2⟩
theorem Ow.alloc (h:Ow K w B E v l) (o:Obj):Ow K (w.alloc o) B E v l:=cB h o
theorem Ow.draw (h:Ow K w B E v l) (n:Nat):Ow K (w.drewN n) B E v l:=h
theorem Ow.keep (h:Ow K w B E v l) (hb:Below w.heap.size w w'):Ow K w' B E v l:=by
 obtain ⟨h1,h2⟩:=h;refine ⟨h1,?_⟩
 rcases h2 with h2 | ⟨g,cap,cur,e,hB,hh,r⟩
 ·exact .inl h2
 ·exact .inr ⟨g,cap,cur,e,hB,(hb.block g (ay hh)).trans hh,r⟩
theorem Ow.low (h:Ow K w B E v l) (hB:B'<=B):Ow K w B' E v l:=by
 obtain ⟨h1,h2⟩:=h;refine ⟨h1,?_⟩
 rcases h2 with h2 | ⟨g,cap,cur,e,hb,hh,r⟩
 ·exact .inl h2
 ·exact .inr ⟨g,cap,cur,e,by omega,hh,r⟩
variable {cur cs:Array Value}
theorem heap_setCell_same {E:TypeId} (hh:w.heap[g]? = some (.cells cur E (0,0))) (u:Value):(w.setCell ⟨g,j,none⟩ u).heap[g]? = some (.cells (cur.setIfInBounds j u) E (0,0)):=by
 have hlt:=ay hh;have h':w.heap[g] = .cells cur E (0,0):=by simpa [Array.getElem?_eq_getElem hlt] using hh
 show (w.heap.modify g _)[g]? = _
 rw [cJ (by simpa using hlt),Array.getElem_modify_self,h']
 rfl
theorem flat_set:∀ (l:List α) (i j:Nat) (u:Value) (s:α),i < l.length->j < K.n->K.enc s=(K.enc (l.getD i K.dft)).set j u->(K.flat l).set (i * K.n+j) u=K.flat (l.set i s)
 | a :: r,0,j,u,s,_,hj,he=>by
   show (K.enc a ++ K.flat r).set (0 * K.n+j) u=K.enc s ++ K.flat r
   have he':K.enc s=(K.enc a).set j u:=he;rw [Nat.zero_mul,cd,List.set_append_left _ _ (by rw [K.len];exact hj),he']
 | a :: r,i+1,j,u,s,h,hj,he=>by
   have ih:=flat_set r i j u s (by simpa using h) hj he
   show (K.enc a ++ K.flat r).set ((i+1) * K.n+j) u=K.enc a ++ K.flat (r.set i s)
   rw [cH _ _ (by rw [K.len,Nat.add_mul];omega),K.len,show (i+1) * K.n+j - K.n=i * K.n+j by rw [Nat.add_mul];omega,ih]
theorem Ow.set {g cap:Nat} (h:Ow K w B E (.slice (some ⟨g,0,none⟩) l.length cap) l) (i j:Nat) (hi:i < l.length) (hj:j < K.n) (u:Value) (s:α) (he:K.enc s=(K.enc (l.getD i K.dft)).set j u) :
 Ow K (w.setCell ⟨g,i * K.n+j,none⟩ u) B E (.slice (some ⟨g,0,none⟩) l.length cap) (l.set i s):=by
 obtain ⟨h1,h2⟩:=h;refine ⟨by rw [flat_length],?_⟩
 rcases h2 with ⟨e,_⟩ | ⟨g',cap',cur,e,hB,hh,k1,k2,k3,k4⟩
 ·simp at e
 ·injection e with e1 e2 e3
  injection e1 with e1;injection e1 with e1;subst e1 e3;refine .inr ⟨_,_,_,by rw [aT],hB,heap_setCell_same hh _,by rw [aT];exact k1,k2,by simp [k3],?_⟩;rw [← flat_set l i j u s hi hj he,← k4,aT]
  simp [List.take_set]
variable {v' z:Value}
theorem Ow.push {s:α} (h:w'.ownsRow B E K.n v' (l.length+1) (K.flat l ++ K.enc s)):Ow K w' B E v' (l ++ [s]):=by
 show w'.ownsRow B E K.n v' (l ++ [s]).length (K.flat (l ++ [s]))
 rw [flat_append,bj];have e:K.flat [s]=K.enc s:=by simp [Kind.flat]
 rw [e];exact h
variable {P:Program} {ops:Array Oper} {rest:List Oper} {o:Oper} {a:Act} {Q:Exit->Act->World->Prop} {T t:TypeId}
theorem push_step {bytes:Nat} (ht:P.underlying T=some (.slice E))
 (hi:(P.info? E).map (fun i=>(i.zero,i.size,i.bytes))=some (some z,K.n,bytes)) (hz:z.cells.size=K.n) (hby:bytes<=64) (hgd:o.guard=none) (s x:Operand)
 (ho:o.op = .call { callee:=.builtin .append,args:=#[s,x],argTypes:=#[T,T] }) (B:Nat) (v:Value) (l:List α) (hs:a.eval s=v) (hown:Ow K w B E v l)
 (ad:Addr) (c:α) (hx:a.eval x = .slice (some ad) 1 1) (hc:∀ j u,(K.enc c)[j]? = some u->w.cell? (ad.add j)=some u) (hlen:l.length < 2199023255552) (hB:B<=w.heap.size)
 (h:∀ v' w',Ow K w' B E v' (l ++ [c])->Below B w w'->wpList P ops Q rest (a.put o.dst v') w'):wpList P ops Q (o :: rest) a w:=by
 obtain ⟨i0,hi0,hz0,hz1,hz2⟩:=cz hi;have hb:(l.length+1) * bytes<=140737488355328:=aX (cX (show l.length+1<=2199023255552 by omega) hby) (by omega);refine wpList_append_own _ hgd s x T ho B E i0 z K.n bytes ht hi0 hz0 hz1 hz2 hz K.pos v l.length (K.flat l) hs hown ad 1 1 (K.enc c) hx (by rw [K.len,Nat.one_mul]) hc (K.one c) (by unfold maxLen;omega) hb hB ?_
 intro v' w' h2 h3 _
 exact h v' w' (Ow.push h2) ((aa B w).grown h3 hB fun k hk=>(aU hown k hk).1)
def Far (E:TypeId) (w w':World):Prop:=∀ (g:Nat) (cs:Array Value) (t:TypeId),w.heap[g]? = some (Obj.cells cs t (0,0))->t≠E->w'.heap[g]? = some (Obj.cells cs t (0,0))
theorem Far.refl (E:TypeId) (w:World):Far E w w:=fun _ _ _ h _=>h
theorem Ow.apart (h:Ow K w B E v l) (hg:w.heap[g]? = some (.cells cs t (0,0))) (ht:t≠E):v.ownBlock≠some g:=by
 obtain ⟨_,h⟩:=h
 rcases h with ⟨rfl,_⟩ | ⟨k,cap,cur,rfl,_,hh,_⟩
 ·simp [Value.ownBlock]
 ·intro e
  simp only [Value.ownBlock,bY] at e;subst e;rw [hg] at hh;injection hh with hh;injection hh with _ h2 _;exact ht h2
theorem far_grown (h:Ow K w B E v l) (hg:w.grownBy w' v.ownBlock):Far E w w':=fun g cs t hh ht=>by
 rw [hg.block g (ay hh) (fun e=>h.apart hh ht e.symm)];exact hh
variable {p:Addr}
theorem Ow.far (h:Ow K w B E v l) (hp:w.heap[p.block]? = some (.cells cs t (0,0))) (ht:t≠E) (u:Value):Ow K (w.setCell p u) B E v l:=by
 have ha:=h.apart hp ht;obtain ⟨h1,h2⟩:=h;refine ⟨h1,?_⟩
 rcases h2 with h2 | ⟨g,cap,cur,rfl,hB,hh,r⟩
 ·exact .inl h2
 ·have hne:g≠p.block:=fun e=>ha (by simp [Value.ownBlock,e])
  exact .inr ⟨g,cap,cur,rfl,hB,(aH w p u g hne).trans hh,r⟩
theorem Ow.range (h:Ow K w B E v l) (hg:g < B\/w.heap.size<=g):v.ownBlock≠some g:=fun e=>by
 have:=aU h g e
 omega
theorem Ow.off (h:Ow K w B E v l) (hp:v.ownBlock≠some p.block) (u:Value):Ow K (w.setCell p u) B E v l:=by
 obtain ⟨h1,h2⟩:=h;refine ⟨h1,?_⟩
 rcases h2 with h2 | ⟨g,cap,cur,rfl,hB,hh,r⟩
 ·exact .inl h2
 ·have hne:g≠p.block:=fun e=>hp (by simp [Value.ownBlock,e])
  exact .inr ⟨g,cap,cur,rfl,hB,(aH w p u g hne).trans hh,r⟩
theorem Ow.lit (w:World) (B E:Nat) (l:List α) (hB:B<=w.heap.size) (hm:l.length<=maxLen):Ow K (w.alloc (.cells (K.flat l).toArray E)) B E (.slice (some ⟨w.heap.size,0,none⟩) l.length l.length) l :=
 World.ownsRow_lit w _ l.length hB hm (by rw [cK,flat_length])
theorem push_far {bytes:Nat} (ht:P.underlying T=some (.slice E))
 (hi:(P.info? E).map (fun i=>(i.zero,i.size,i.bytes))=some (some z,K.n,bytes)) (hz:z.cells.size=K.n) (hby:bytes<=64) (hgd:o.guard=none) (s x:Operand)
 (ho:o.op = .call { callee:=.builtin .append,args:=#[s,x],argTypes:=#[T,T] }) (B:Nat) (v:Value) (l:List α) (hs:a.eval s=v) (hown:Ow K w B E v l)
 (ad:Addr) (c:α) (hx:a.eval x = .slice (some ad) 1 1) (hc:∀ j u,(K.enc c)[j]? = some u->w.cell? (ad.add j)=some u) (hlen:l.length < 2199023255552) (hB:B<=w.heap.size)
 (h:∀ v' w',Ow K w' B E v' (l ++ [c])->Below B w w'->Far E w w'->wpList P ops Q rest (a.put o.dst v') w'):wpList P ops Q (o :: rest) a w:=by
 obtain ⟨i0,hi0,hz0,hz1,hz2⟩:=cz hi;have hb:(l.length+1) * bytes<=140737488355328:=aX (cX (show l.length+1<=2199023255552 by omega) hby) (by omega);refine wpList_append_own _ hgd s x T ho B E i0 z K.n bytes ht hi0 hz0 hz1 hz2 hz K.pos v l.length (K.flat l) hs hown ad 1 1 (K.enc c) hx (by rw [K.len,Nat.one_mul]) hc (K.one c) (by unfold maxLen;omega) hb hB ?_
 intro v' w' h2 h3 _
 exact h v' w' (Ow.push h2) ((aa B w).grown h3 hB fun k hk=>(aU hown k hk).1) (far_grown hown h3)
theorem At.flat {b off:Nat} (h:At K w b off l):∀ j u,(K.flat l)[j]? = some u->w.cell? ⟨b,off+j,none⟩=some u:=fun j u hu=>by
 have hj:j < l.length * K.n:=by have:=(aM.1 hu).1;rw [flat_length] at this;exact this
 have hi:j / K.n < l.length:=Nat.div_lt_of_lt_mul (by rw [Nat.mul_comm];exact hj);have hr:j % K.n < K.n:=Nat.mod_lt _ K.pos;have e:j / K.n * K.n+j % K.n=j:=by rw [Nat.mul_comm];exact Nat.div_add_mod _ _
 have g:=flat_get K l (j / K.n) (j % K.n) hi hr;rw [e] at g;have c:=h (j / K.n) hi (j % K.n) u (g.symm.trans hu);rw [Nat.add_assoc,e] at c;exact c
theorem all_step {bytes:Nat} (ht:P.underlying T=some (.slice E))
 (hi:(P.info? E).map (fun i=>(i.zero,i.size,i.bytes))=some (some z,K.n,bytes)) (hz:z.cells.size=K.n) (hby:bytes<=64) (hgd:Region.wanted o (yielded ops a.tmps)=true) (s x:Operand)
 (ho:o.op = .call { callee:=.builtin .append,args:=#[s,x],argTypes:=#[T,T] }) (B:Nat) (v:Value) (l:List α) (hs:a.eval s=v) (hown:Ow K w B E v l)
 (u:Value) (y:List α) (hx:a.eval x=u) (hu:Rd K w u y) (hlen:l.length+y.length < 2199023255552) (hB:B<=w.heap.size)
 (h:∀ v' w',Ow K w' B E v' (l ++ y)->Below B w w'->wpList P ops Q rest (a.put o.dst v') w'):wpList P ops Q (o :: rest) a w:=by
 obtain ⟨i0,hi0,hz0,hz1,hz2⟩:=cz hi;obtain ⟨ad,cap,rfl,h1,h2,h3⟩:=hu;have hb:(l.length+y.length) * bytes<=140737488355328:=aX (cX (show l.length+y.length<=2199023255552 by omega) hby) (by omega);refine BigFrame.wpList_want hgd fun K' hK=>?_
 by_cases h0:0 < y.length
 ·obtain ⟨b,off,rfl,hA⟩:=h3 h0
  refine wp_append_own _ s x T ho B E i0 z K.n bytes ht hi0 hz0 hz1 hz2 hz K.pos v l.length (K.flat l) hs hown ⟨b,off,none⟩ y.length cap (K.flat y) hx (flat_length K y) ?_ (flat_one K y) (by unfold maxLen;omega) hb hB ?_
  ·intro j u hj
   have e:(⟨b,off,none⟩:Addr).add j=⟨b,off+j,none⟩:=by simp [Addr.add]
   rw [e];exact hA.flat j u hj
  ·intro v' w' g2 g3 _
   refine hK _ _ (h v' w' ?_ ((aa B w).grown g3 hB fun k hk=>(aU hown k hk).1))
   show w'.ownsRow B E K.n v' (l ++ y).length (K.flat (l ++ y))
   rw [flat_append,bj];exact g2
 ·have ey:y = []:=bt.1 (by omega)
  subst ey
  cases ad with
  | none =>
    obtain rfl:=h1.2 rfl;have hrun:=run_append_owned_none (P:=P) (w:=w) B T o.type E i0 K.n ht hi0 v l.length (K.flat l) hown;unfold Oper.wp;have hk:=hK _ _ (h v w (by rw [List.append_nil];exact hown) (aa _ _));have hx':=hx
    simp [execOp,ho,resolve,invoke,builtin,hs,hx',hrun,Result.andThen]
    exact hk
  | some ad =>
    refine wp_append_own _ s x T ho B E i0 z K.n bytes ht hi0 hz0 hz1 hz2 hz K.pos v l.length (K.flat l) hs hown ad 0 cap [] hx (by simp) (by simp) (by simp) (by unfold maxLen;simp at hlen;omega) (by simpa using hb) hB ?_
    intro v' w' g2 g3 _
    refine hK _ _ (h v' w' ?_ ((aa B w).grown g3 hB fun k hk=>(aU hown k hk).1))
    show w'.ownsRow B E K.n v' (l ++ []).length (K.flat (l ++ []))
    rw [List.append_nil]
    simpa using g2
end
end Rw
namespace Fl
open Rw (Rd Ow At)
abbrev R4:=Int×Int×Int×Int
def z4:R4:=(0,0,0,0)
def rec4 (r:R4):Value:=.agg #[.int .u8 r.1,.int .u8 r.2.1,.int .u8 r.2.2.1,.int .u8 r.2.2.2]
def K4:Rw.Kind R4:=⟨fun r=>[.int .u8 r.1,.int .u8 r.2.1,.int .u8 r.2.2.1,.int .u8 r.2.2.2],4,by decide,fun _=>rfl,fun _ u h=>by simp at h;rcases h with rfl | rfl | rfl | rfl <;> rfl,z4⟩
def file (p:Int) (v:Value):Value:=.agg #[.int .i64 p,v]
def hdr (p n:Int):R4:=(n,p,165,bits .xor .u8 (bits .xor .u8 n p) 165)
def rat (l:List R4) (i:Nat):R4:=l.getD i z4
def goodF (p:Int) (l:List R4):Prop:=0<=p/\p<=7/\1<=l.length/\l.length<=256/\rat l 0=hdr p ((l.length:Int) - 1)
instance (p:Int) (l:List R4):Decidable (goodF p l):=by unfold goodF;infer_instance
def goodFB (p:Int) (l:List R4):Bool:=decide (goodF p l)
variable {w:World} {l:List R4}
theorem at4 {b off:Nat} (h:At K4 w b off l) (i:Nat) (hi:i < l.length) :
 w.cell? ⟨b,off+i * 4,none⟩=some (.int .u8 (rat l i).1)/\w.cell? ⟨b,off+i * 4+1,none⟩=some (.int .u8 (rat l i).2.1)/\w.cell? ⟨b,off+i * 4+2,none⟩=some (.int .u8 (rat l i).2.2.1)/\w.cell? ⟨b,off+i * 4+3,none⟩=some (.int .u8 (rat l i).2.2.2) :=
 ⟨h i hi 0 _ rfl,h i hi 1 _ rfl,h i hi 2 _ rfl,h i hi 3 _ rfl⟩
theorem at4_0 {b off:Nat} (h:At K4 w b off l) (hi:0 < l.length) :
 w.cell? ⟨b,off,none⟩=some (.int .u8 (rat l 0).1)/\w.cell? ⟨b,off+1,none⟩=some (.int .u8 (rat l 0).2.1)/\w.cell? ⟨b,off+2,none⟩=some (.int .u8 (rat l 0).2.2.1)/\w.cell? ⟨b,off+3,none⟩=some (.int .u8 (rat l 0).2.2.2):=by
 have:=at4 h 0 hi
 simpa using this
theorem infoR:(prog.info? 36).map (fun i=>(i.zero,i.size,i.bytes))=some (some (.agg #[.int .u8 0,.int .u8 0,.int .u8 0,.int .u8 0]),4,4):=by kernel_rfl
theorem eq_rec (r s:R4) (w:World):(Op.equalIn 10000 36 (.agg #[.int .u8 r.1,.int .u8 r.2.1,.int .u8 r.2.2.1,.int .u8 r.2.2.2]) (.agg #[.int .u8 s.1,.int .u8 s.2.1,.int .u8 s.2.2.1,.int .u8 s.2.2.2])).run prog w = .ok (decide (r=s)) w:=by
 obtain ⟨j,hj⟩:∃ i,prog.info? 5=some i:=Option.isSome_iff_exists.1 (by kernel_rfl);have hc:prog.cellsOf 5=1:=by kernel_rfl
 obtain ⟨r1,r2,r3,r4⟩:=r;obtain ⟨s1,s2,s3,s4⟩:=s;rw [run_equalIn_array w 9999 _ _ underlying36 hj,hc]
 by_cases h1:r1=s1 <;> by_cases h2:r2=s2 <;> by_cases h3:r3=s3 <;> by_cases h4:r4=s4 <;> simp [Op.eqItems,List.range,List.range.loop,part,go_sem,h1,h2,h3,h4]
variable {b a:Bool}
theorem ret_bool (h:a=b):Ending.returned (.bool a) = .returned (.bool b):=by rw [h]
theorem at_bool {P:Program} {f:Nat} {args:Array Value} {B:Nat} (e:a=b) (c:Calls P f args w fun e w'=>e = .returned (.bool a)/\Below B w w'):Calls P f args w fun e w'=>e = .returned (.bool b)/\Below B w w':=by rw [← e];exact c
end Fl
open Go.RowKit
variable {w w1 w2 w':World}
theorem bTr (h:Below w.heap.size w w1) (b:Below w1.heap.size w1 w2):Hid (Below w.heap.size w w2):=h.trans (b.mono h.size)
theorem bCe {p:Addr} {v:Value} (b:Below w.heap.size w w') (c:w.cell? p=some v):w'.cell? p=some v:=(b.cell (aC _ _ c)).trans c
theorem bBl {g:Nat} {o:Obj} (b:Below w.heap.size w w') (h:w.heap[g]? = some o):w'.heap[g]? = some o:=(b.block _ (ay h)).trans h
section
variable {w:World} {g:Nat} {cs:Array Value} {t:TypeId} {a b c d:Value} {l:List Value}
theorem rc1 (h:w.heap[g]? = some (.cells cs t (0,0))) (k:Nat) (e:cs.toList.drop k=a :: l:=by rfl):w.cell? ⟨g,k,none⟩=some a:=by
 rw [bi w g k cs t (0,0) h,← Array.getElem?_toList];have:=bF (·[0]?) e
 simpa using this
theorem rc2 (h:w.heap[g]? = some (.cells cs t (0,0))) (e:cs.toList=a :: b :: l:=by rfl):w.cell? ⟨g,0,none⟩=some a/\w.cell? ⟨g,1,none⟩=some b:=⟨rc1 h 0 e,rc1 h 1 (bF (·.drop 1) e)⟩
theorem rc3 (h:w.heap[g]? = some (.cells cs t (0,0))) (e:cs.toList=a :: b :: c :: l:=by rfl):w.cell? ⟨g,0,none⟩=some a/\w.cell? ⟨g,1,none⟩=some b/\w.cell? ⟨g,2,none⟩=some c:=⟨rc1 h 0 e,rc1 h 1 (bF (·.drop 1) e),rc1 h 2 (bF (·.drop 2) e)⟩
theorem rc4 (h:w.heap[g]? = some (.cells cs t (0,0))) (e:cs.toList=a :: b :: c :: d :: l:=by rfl):w.cell? ⟨g,0,none⟩=some a/\w.cell? ⟨g,1,none⟩=some b/\w.cell? ⟨g,2,none⟩=some c/\w.cell? ⟨g,3,none⟩=some d:=⟨rc1 h 0 e,rc1 h 1 (bF (·.drop 1) e),rc1 h 2 (bF (·.drop 2) e),rc1 h 3 (bF (·.drop 3) e)⟩
theorem fz1 (h:w.heap[g]? = some (.cells cs t (0,0))) (k:Nat):w.frozen? ⟨g,k,none⟩=false:=cU w g k _ _ h
theorem fz2 (h:w.heap[g]? = some (.cells cs t (0,0))):w.frozen? ⟨g,0,none⟩=false/\w.frozen? ⟨g,1,none⟩=false:=⟨fz1 h 0,fz1 h 1⟩
theorem fz4 (h:w.heap[g]? = some (.cells cs t (0,0))):w.frozen? ⟨g,0,none⟩=false/\w.frozen? ⟨g,1,none⟩=false/\w.frozen? ⟨g,2,none⟩=false/\w.frozen? ⟨g,3,none⟩=false:=⟨fz1 h 0,fz1 h 1,fz1 h 2,fz1 h 3⟩
theorem rf2 (h:w.heap[g]? = some (.cells cs t (0,0))) (e:cs.toList=a :: b :: l:=by rfl):w.cell? ⟨g,0,none⟩=some a/\w.cell? ⟨g,1,none⟩=some b/\w.frozen? ⟨g,0,none⟩=false/\w.frozen? ⟨g,1,none⟩=false:=⟨(rc2 h e).1,(rc2 h e).2,fz1 h 0,fz1 h 1⟩
theorem rf4 (h:w.heap[g]? = some (.cells cs t (0,0))) (e:cs.toList=a :: b :: c :: d :: l:=by rfl):w.cell? ⟨g,0,none⟩=some a/\w.cell? ⟨g,1,none⟩=some b/\w.cell? ⟨g,2,none⟩=some c/\w.cell? ⟨g,3,none⟩=some d/\w.frozen? ⟨g,0,none⟩=false/\w.frozen? ⟨g,1,none⟩=false/\w.frozen? ⟨g,2,none⟩=false/\w.frozen? ⟨g,3,none⟩=false:=⟨(rc4 h e).1,(rc4 h e).2.1,(rc4 h e).2.2.1,(rc4 h e).2.2.2,fz4 h⟩
end
namespace Qb
structure By (w:World) where
 world:World
 below:Below w.heap.size w world
instance (w:World):Nonempty (By w):=⟨⟨w,aa _ _⟩⟩
theorem below_drew {B:Nat} {a:World} (h:Below B a w):Below B a { w with drawn:=w.drawn+1 }:=⟨h.os,h.tape,h.output,h.size,h.block⟩
variable {P:Program}
theorem wp_region_by {id:Nat} {Q:Exit->Act->World->Prop} {a:Act} {l:List Oper} (hm:P.follows .mixedOrders=true) (hB:Region.lexB .any l.toArray=true)
 (h:wpQuiet P l.toArray (fun w'=>∃ p:By w,w'=p.world) (fun a'=>∀ w',(∃ p:By w,w'=p.world)->Q .normal a' w') l a):(Code.region id l.toArray true).wp P Q a w :=
 wp_region_quiet (C:=fun w'=>∃ p:By w,w'=p.world) hm hB ⟨⟨_,below_drew (aa _ _)⟩,rfl⟩ (by simpa using h)
variable {v:Value}
theorem of_below {f:FuncId} {args:Array Value} {p:By w}
 (h:Calls P f args p.world fun e w'=>e = .returned v/\Below p.world.heap.size p.world w'):Calls P f args p.world fun e w''=>e = .returned v/\∃ q:By w,w''=q.world :=
 h.mono fun _ w' ⟨he,hb⟩=>⟨he,⟨w',p.below.trans (hb.mono p.below.size)⟩,rfl⟩
theorem cell_by {a:Addr} (h:w.cell? a=some v) (p:By w):p.world.cell? a=some v:=bCe p.below h
end Qb
namespace Fl
open Rw (Rd Ow At)
theorem rhdr_any (w:World) (p n:Int) (p0:0<=p) (p1:p<=7) (n0:0<=n) (n1:n<=255):Calls prog 57 #[.int .i64 p,.int .i64 n] w fun e w'=>e = .returned (rec4 (hdr p n))/\Below w.heap.size w w':=by
 go_enter func57,ntmps57
 go_wp2
 (try simp only [Exit.inBlock,Exit.then])
 refine aA (v:=rec4 (hdr p n)) ?_ rfl ⟨rfl,?_⟩
 ·exact results_cell_row (p:=4) rfl _ _ w.heap.size 36 _ (0,0) _ rfl (am w _) underlying36 rfl (by show _=some 4;kernel_rfl)
 ·exact (aa w.heap.size w).alloc (ac _) _
def sameF (p:Int) (l:List R4) (p':Int) (l':List R4):Bool:=decide (p=p'/\l=l')
variable {l l':List R4}
theorem list_same (hl:l.length=l'.length) (h:∀ i,i < l.length->rat l i=rat l' i):l=l':=by
 refine List.ext_getElem hl fun i h1 h2=>?_;have:=h i h1
 simpa [rat,List.getD,List.getElem?_eq_getElem h1,List.getElem?_eq_getElem h2] using this
theorem rsame_any (w:World) (p p':Int) (v v':Value) (l l':List R4) (R:Rd K4 w v l) (R':Rd K4 w v' l'):Calls prog 45 #[file p v,file p' v'] w fun e w'=>e = .returned (.bool (sameF p l p' l'))/\Below w.heap.size w w':=by
 have B0:=Hh (((aa w.heap.size w).alloc (ac _) (.cells #[.int .i64 p,v] 83)).alloc (by simp) (.cells #[.int .i64 p',v'] 83));have R0:=Hh (R.below B0);have R0':=Hh (R'.below B0);have HNO:Hid (¬ (p=p'/\l=l')->false=sameF p l p' l'):=fun h=>(ak h).symm;have HYES:Hid (p=p'->l=l'->true=sameF p l p' l'):=fun a b=>(an ⟨a,b⟩).symm;have HL:Hid (l.length=l'.length->(∀ i,i < l.length->rat l i=rat l' i)->l=l'):=fun a b=>list_same a b;clear R R';unfold file
 by_cases h1:p=p'
 ·obtain ⟨a,cap,rfl,_,hm,hA⟩:=R0.out
  obtain ⟨a',cap',rfl,_,hm',hA'⟩:=R0'.out;have HA:=Hh hA;have HA':=Hh hA';unfold maxLen at hm hm';clear hA hA' R0 R0';subst h1;have HNE:Hid (l.length≠l'.length->¬ (p=p/\l=l')):=fun h2 h=>h2 (by rw [h.2]);generalize hn:l.length=n at *;generalize hn':l'.length=n' at *;have HN:=Hh hn;have HN':=Hh hn';clear hn hn'
  by_cases h2:n=n'
  ·subst h2
   have k0:((w.alloc (.cells #[.int .i64 p,.slice a n cap] 83)).alloc (.cells #[.int .i64 p,.slice a' n cap'] 83)).cell? ⟨w.heap.size,1,none⟩=some (.slice a n cap):=by go_simp
   have k1:((w.alloc (.cells #[.int .i64 p,.slice a n cap] 83)).alloc (.cells #[.int .i64 p,.slice a' n cap'] 83)).cell? ⟨w.heap.size+1,1,none⟩=some (.slice a' n cap'):=by go_simp
   have K0:=Hh k0;have K1:=Hh k1;clear k0 k1
   go_enter func45,ntmps45
   go_wp2;generalize (w.alloc (.cells #[.int .i64 p,.slice a n cap] 83)).alloc (.cells #[.int .i64 p,.slice a' n cap'] 83)=W at *
   go_loopw [5] (fun i wr=>∃ j:Nat,j<=n/\i = .int .i64 j/\Hid (Below W.heap.size W wr)/\Hid (∀ i,i < j->rat l i=rat l' i)) (fun i _=>n - (intOf i).toNat)
   case atStart=>exact ⟨0,aI _,rfl,aa _ _,fun i hi=>by omega⟩
   case round =>
    obtain ⟨j,hj,rfl,bw,hs⟩:=hrel;have k0:=bCe bw K0;have k1:=bCe bw K1
    by_cases hlt:j < n
    ·obtain ⟨b,off,rfl,A⟩:=HA (by omega)
     obtain ⟨b',off',rfl,A'⟩:=HA' (by omega);obtain ⟨c0,c1,c2,c3⟩:=at4 (A.below bw) j (by have:=HN.out;omega);obtain ⟨d0,d1,d2,d3⟩:=at4 (A'.below bw) j (by have:=HN'.out;omega);have HAA:=Hh A;have HAA':=Hh A';clear A A';have es:=eq_rec (rat l j) (rat l' j)
     by_cases he:rat l j=rat l' j
     ·have ST:Hid (∀ i,i < j+1->rat l i=rat l' i):=fun i hi=>by
       by_cases e:i=j
       ·rw [e];exact he
       ·exact hs i (by omega)
      rw [an he] at es;clear he;generalize rat l j=r at *;generalize rat l' j=r' at *;go_wp2
      go_quiet (fail)
      go_wp2
      go_roundw
      case rel=>exact ⟨j+1,by omega,by go_num,cL bw.out _,ST⟩
      case measure=>simp [intOf];omega
     ·have E:=Hh (HNO (fun h=>he (by rw [h.2])))
      rw [ak he] at es;clear he;generalize rat l j=r at *;generalize rat l' j=r' at *;go_wp2
      go_quiet (fail)
      go_wp2
      go_ret
      exact ⟨ret_bool E,B0.trans ((cL bw _).mono B0.size)⟩
    ·obtain rfl:j=n:=by omega
     have E:=Hh (HYES (by trivial) (HL (by trivial) (fun i hi=>hs i hi)));go_wp2
     go_ret
     exact ⟨ret_bool E,bTr B0 bw⟩
  ·have E:=Hh (HNO (HNE h2))
   have h3:¬ ((n:Int)=n'):=by omega
   clear HL HA HA' HYES HNO
   go_enter func45,ntmps45
   go_wp2
   go_ret
   exact ⟨ret_bool E,B0⟩
 ·have E:=Hh (HNO (fun h=>h1 h.1))
  obtain ⟨a,cap,rfl,_⟩:=R0;obtain ⟨a',cap',rfl,_⟩:=R0'
  go_enter func45,ntmps45
  go_wp2
  go_ret
  exact ⟨ret_bool E,B0⟩
def newP (p n:Int):Prop:=0<=p/\p<=7/\0<=n/\n<=255
instance (p n:Int):Decidable (newP p n):=by unfold newP;infer_instance
def newL (p n:Int):List R4:=hdr p n :: List.replicate n.toNat z4
variable {g:Nat} {cs:Array Value} {t:TypeId}
theorem row_cell (h:w.heap[g]? = some (.cells cs t (0,0))) (k:Nat):w.cell? ⟨g,k,none⟩=cs[k]?:=bi w g k cs t (0,0) h
theorem rc (h:w.heap[g]? = some (.cells cs t (0,0))) (k:Nat) {v:Value} {l:List Value} (e:cs.toList.drop k=v :: l:=by rfl):w.cell? ⟨g,k,none⟩=some v:=by
 have e2:=bF List.head? e;rw [List.head?_drop,Array.getElem?_toList] at e2;exact (row_cell h k).trans e2
theorem row_frozen (h:w.heap[g]? = some (.cells cs t (0,0))) (k:Nat):w.frozen? ⟨g,k,none⟩=false:=cU w g k _ _ h
def okR (r:R4):Prop:=(0<=r.1/\r.1<=255)/\(0<=r.2.1/\r.2.1<=255)/\(0<=r.2.2.1/\r.2.2.1<=255)/\0<=r.2.2.2/\r.2.2.2<=255
def okL (l:List R4):Prop:=∀ r∈l,okR r
theorem okR_z:okR z4:=⟨⟨by decide,by decide⟩,⟨by decide,by decide⟩,⟨by decide,by decide⟩,by decide,by decide⟩
theorem okR_at (h:okL l) (i:Nat):okR (rat l i):=by
 unfold rat;rw [af]
 rcases e:l[i]? with _ | r
 ·exact okR_z
 ·exact h r (bo e)
def num (r:R4):Int:=r.1 * 16777216+r.2.1 * 65536+r.2.2.1 * 256+r.2.2.2
def bytes (n:Int):R4:=(n / 16777216,n / 65536 % 256,n / 256 % 256,n % 256)
def inc (r:R4):R4:=bytes ((num r+1) % 4294967296)
def need (op:Int):Int:=if op=0 then 1 else if op=1 then 2 else 4
def doE (p:Int) (l:List R4) (op rec:Int):Int :=
 if goodF p l then
  if 0<=op/\op<=2 then
   if 0<=rec/\rec < l.length then
    if rec=0/\op=0\/0 < rec/\p / need op % 2=1 then 0 else 5
   else 4
  else 1
 else 2
variable {p op rec:Int}
theorem doE_2 (h:¬ goodF p l):doE p l op rec=2:=by unfold doE;rw [ah h]
theorem doE_1 (h:goodF p l) (h2:¬ (0<=op/\op<=2)):doE p l op rec=1:=by unfold doE;rw [aj h,ah h2]
theorem doE_4 (h:goodF p l) (h2:0<=op/\op<=2) (h3:¬ (0<=rec/\rec < l.length)):doE p l op rec=4:=by unfold doE;rw [aj h,aj h2,ah h3]
theorem doE_5 (h:goodF p l) (h2:0<=op/\op<=2) (h3:0<=rec/\rec < l.length) (h4:¬ (rec=0/\op=0\/0 < rec/\p / need op % 2=1)):doE p l op rec=5:=by unfold doE;rw [aj h,aj h2,aj h3,ah h4]
theorem doE_0 (h:goodF p l) (h2:0<=op/\op<=2) (h3:0<=rec/\rec < l.length) (h4:rec=0/\op=0\/0 < rec/\p / need op % 2=1):doE p l op rec=0:=by unfold doE;rw [aj h,aj h2,aj h3,aj h4]
def newR (l:List R4) (op rec:Int) (x:R4):R4:=if op=1 then x else if op=2 then inc (rat l rec.toNat) else rat l rec.toNat
def DoPost (w:World) (p:Int) (l:List R4) (op rec:Int) (x:R4) (e:Ending) (w':World):Prop :=
 ∃ u,e = .returned (.tuple #[file (if doE p l op rec=0 then p else 0) u,rec4 (if doE p l op rec=0 then newR l op rec x else z4),.int .i64 (doE p l op rec)])/\Ow K4 w' w.heap.size 36 u (if doE p l op rec=0 then l.set rec.toNat (newR l op rec x) else [])/\Below w.heap.size w w'
theorem hdr_any (w:World) (p n:Int) (p0:0<=p) (p1:p<=7) (n0:0<=n) (n1:n<=255):Calls prog 108 #[.int .i64 p,.int .i64 n] w fun e w'=>e = .returned (rec4 (hdr p n))/\Below w.heap.size w w':=by
 go_enter func108,ntmps108
 go_wp2
 (try simp only [Exit.inBlock,Exit.then])
 refine aA (v:=rec4 (hdr p n)) ?_ rfl ⟨rfl,?_⟩
 ·exact results_cell_row (p:=4) rfl _ _ w.heap.size 36 _ (0,0) _ rfl (am w _) underlying36 rfl (by show _=some 4;kernel_rfl)
 ·exact (aa w.heap.size w).alloc (ac _) _
def permB (p:Int):Bool:=decide (0<=p/\p<=7)
theorem perm_yes (h1:0<=p) (h2:p<=7):permB p=true:=an ⟨h1,h2⟩
theorem perm_no (h:¬ (0<=p/\p<=7)):permB p=false:=ak h
theorem perm_any (w:World) (p:Int):Calls prog 107 #[.int .i64 p] w fun e w'=>e = .returned (.bool (permB p))/\Below w.heap.size w w':=by
 by_cases h1:0<=p
 ·by_cases h2:p<=7
  ·go_enter func107,ntmps107
   go_wp2
   go_ret
   exact ⟨ret_bool (by rw [perm_yes h1 h2]),aa _ _⟩
  ·go_enter func107,ntmps107
   go_wp2
   go_ret
   exact ⟨ret_bool (by rw [perm_no (by omega)]),aa _ _⟩
 ·go_enter func107,ntmps107
  go_wp2
  go_ret
  exact ⟨ret_bool (by rw [perm_no (by omega)]),aa _ _⟩
def needsN (op:Int):Int:=if 0<=op/\op<=2 then need op else 0
theorem needs_any (w:World) (op:Int):Calls prog 158 #[.int .i64 op] w fun e w'=>e = .returned (.int .i64 (needsN op))/\Below w.heap.size w w':=by
 by_cases h0:op=0
 ·subst h0
  go_enter func158,ntmps158
  go_wp2
  go_ret
  exact ⟨rfl,aa _ _⟩
 ·by_cases h1:op=1
  ·subst h1
   go_enter func158,ntmps158
   go_wp2
   go_ret
   exact ⟨rfl,aa _ _⟩
  ·by_cases h2:op=2
   ·subst h2
    go_enter func158,ntmps158
    go_wp2
    go_ret
    exact ⟨rfl,aa _ _⟩
   ·have E:Hid (0=needsN op):=by unfold needsN;rw [ah (by omega)];exact Hh rfl
    go_enter func158,ntmps158
    go_wp2
    go_ret
    exact ⟨by rw [← E.out];rfl,aa _ _⟩
def mayB (p op rec:Int):Bool:=decide (rec=0/\op=0\/0 < rec/\p / need op % 2=1)
theorem and_perm:∀ (p:Fin 8) (op:Fin 3),decide (bits BinOp.and .i64 (p.val:Int) (need (op.val:Int))=0)=decide (¬ ((p.val:Int) / need (op.val:Int) % 2=1)):=by decide +kernel
theorem and_perm' (p0:0<=p) (p1:p<=7) (o0:0<=op) (o1:op<=2):(bits BinOp.and .i64 p (need op)=0)↔¬ (p / need op % 2=1):=by
 have:=and_perm ⟨p.toNat,by omega⟩ ⟨op.toNat,by omega⟩;simp only [bW p0,bW o0] at this;exact bf.1 this
theorem may_any (w:World) (p op rec:Int) (p0:0<=p) (p1:p<=7) (o0:0<=op) (o1:op<=2) (r0:0<=rec):Calls prog 159 #[.int .i64 p,.int .i64 (need op),.int .i64 rec] w fun e w'=>e = .returned (.bool (mayB p op rec))/\Below w.heap.size w w':=by
 by_cases h:rec=0
 ·subst h
  have E:Hid (decide (need op=1)=mayB p op 0):=Hh (by
   unfold mayB;rw [bf];unfold need
   rcases (by omega:op=0\/op=1\/op=2) with rfl | rfl | rfl <;> simp)
  generalize need op=q at *
  go_enter func159,ntmps159
  go_wp2
  go_ret
  exact ⟨ret_bool E,aa _ _⟩
 ·have E:Hid ((!decide (bits BinOp.and .i64 p (need op)=0))=mayB p op rec):=Hh (by
   unfold mayB
   by_cases k:bits BinOp.and .i64 p (need op)=0
   ·rw [an k]
    have:=(and_perm' p0 p1 o0 o1).1 k;exact (ak (by omega)).symm
   ·rw [ak k]
    have:=Decidable.byContradiction fun c=>k ((and_perm' p0 p1 o0 o1).2 c)
    exact (an (.inr ⟨by omega,this⟩)).symm)
  generalize need op=q at *
  go_enter func159,ntmps159
  go_wp2
  go_ret
  exact ⟨ret_bool (by rw [← E.out];first | rfl | simp),aa _ _⟩
end Fl
namespace Sd
def isLen:Callee->Bool
 | .builtin .len=>true
 | _=>false
def light:Op->Bool
 | .call c=>isLen c.callee
 | .move _=>true | .assign _=>true | .pick ..=>true | .load ..=>true | .binOp ..=>true | .unOp ..=>true | .convert ..=>true
 | .fieldAddr ..=>true | .field ..=>true | .indexAddr ..=>true | .index ..=>true | .extract ..=>true | .build ..=>true
 | .nilCheck _=>true | .lookup ..=>true | .makeInterface ..=>true | .slice ..=>true
 | _=>false
variable {P:Program} {n:Next}
theorem value_of {s:Sem Value} (h:(do let x ← s;pure (Next.value x):Sem Next).run P w = .ok n w'):∃ v,n = .value v:=by
 simp only [Sem.run_bind,Sem.run_pure] at h
 cases e:s.run P w with
 | ok x w1=>rw [e] at h;simp only [Result.andThen] at h;injection h with h1 h2;exact ⟨x,h1.symm⟩
 | halt x w1=>rw [e] at h;simp only [Result.andThen] at h;cases h
def OnlyV (s:Sem Next):Prop:=∀ (P:Program) (w w':World) (n:Next),s.run P w = .ok n w'->∃ v,n = .value v
theorem ov_bind {β:Type} (s:Sem β) (f:β->Sem Next) (h:∀ x,OnlyV (f x)):OnlyV (s >>= f):=fun P w w' n hr=>by
 rw [Sem.run_bind] at hr
 cases e:s.run P w with
 | ok x w1=>rw [e] at hr;exact h x P w1 w' n hr
 | halt x w1=>rw [e] at hr;cases hr
theorem ov_pure (v:Value):OnlyV (pure (Next.value v)):=fun P w w' n h=>by simp only [Sem.run_pure] at h;injection h with h1 h2;exact ⟨_,h1.symm⟩
variable {ρ:Operand->Value} {o:Oper}
theorem nil_value {x:Operand} (ho:o.op = .nilCheck x) (h:(execOp ρ o).run P w = .ok n w'):∃ v,n = .value v:=by
 unfold execOp at h;rw [ho] at h;simp only at h
 split at h
 ·simp [runtimePanic] at h
 ·simp [runtimePanic] at h
 ·simp [runtimePanic] at h
 ·split at h
  ·simp [runtimePanic] at h
  ·refine ov_bind _ _ (fun p=>ov_bind _ _ fun r=>?_) P w w' n h
   split
   ·exact ov_bind _ _ fun _=>ov_pure _
   ·exact ov_pure _
  ·simp only [Sem.run_pure] at h;injection h with h1 h2;exact ⟨_,h1.symm⟩
 ·simp only [Sem.run_pure] at h;injection h with h1 h2;exact ⟨_,h1.symm⟩
theorem len_value {c:Call} (ho:o.op = .call c) (hc:isLen c.callee=true) (h:(execOp ρ o).run P w = .ok n w'):∃ v,n = .value v:=by
 obtain ⟨f,cas,ts⟩:=c
 cases f with
 | builtin b =>
   cases b with
   | len =>
     unfold execOp at h;rw [ho] at h;simp only [resolve,Sem.run_bind,Sem.run_pure,Result.andThen,invoke,builtin] at h;exact value_of (s:=Builtin.len_ _ _ _) (by simpa only [Sem.run_bind,Sem.run_pure,Result.andThen] using h)
   | _=>cases hc
 | _=>cases hc
theorem light_value (hl:light o.op=true) (h:(execOp ρ o).run P w = .ok n w'):∃ v,n = .value v:=by
 by_cases hc:∃ x,o.op = .nilCheck x
 ·obtain ⟨x,hx⟩:=hc
  exact nil_value hx h
 by_cases hd:∃ c,o.op = .call c
 ·obtain ⟨c,hx⟩:=hd
  rw [hx] at hl;exact len_value hx hl h
 unfold execOp at h
 cases ho:o.op <;> rw [ho] at hl h <;> first | (exact (hd ⟨_,ho⟩).elim) | (cases hl;done) | (exact (hc ⟨_,ho⟩).elim) | skip
 all_goals first
  | exact value_of h
  | (simp only [Sem.run_pure] at h;injection h with h1 h2;exact ⟨_,h1.symm⟩)
  | (simp only [Sem.run_bind,Sem.run_pure] at h
     revert h
     cases (asBool _).run P w with
     | ok x w1=>intro h;simp only [Result.andThen] at h;injection h with h1 h2;exact ⟨_,h1.symm⟩
     | halt x w1=>intro h;simp only [Result.andThen] at h;cases h)
def picks (l:List Oper):List (Bool×Nat)->List (Bool×Oper)
 | []=>[]
 | (h,i) :: r=>match l[i]? with
   | some o=>(h,o) :: picks l r
   | none=>picks l r
def good (ops:Array Oper):List (Bool×Nat)->Array Bool->Nat->Bool
 | [],listed,_=>(Region.ready .any ops listed).isEmpty
 | _ :: _,_,0=>false
 | (h,i) :: r,listed,fuel+1 =>
   (match ops[i]? with
    | some o=>if h then Region.ready .any ops listed == [i] else light o.op && Region.free .any ops listed i && (Region.ready .any ops listed).contains i
    | none=>false) && good ops r (listed.setIfInBounds i true) fuel
def wpSd (P:Program) (ops:Array Oper) (C:World->Prop) (Q:Exit->Act->World->Prop):List (Bool×Oper)->Act->World->Prop
 | [],a,w=>Q .normal a w
 | (false,o) :: r,a,w=>wpQuiet P ops C (fun a'=>wpSd P ops C Q r a' w) [o] a
 | (true,o) :: r,a,w=>if Region.wanted o (yielded ops a.tmps) then o.wp P a w (fun a' w'=>C w'/\wpSd P ops C Q r a' w') Q else wpSd P ops C Q r (a.put o.dst undef) w
theorem sound {P:Program} {l:List Oper} {C:World->Prop} {Q:Exit->Act->World->Prop} (hs:Region.noSelect l.toArray=true) (hQ:∀ c d v a w,Q (.panic c) (Act.put a d v) w->Q (.panic c) a w) :
 ∀ (sc:List (Bool×Nat)) (listed:Array Bool) (fuel:Nat) (a:Act) (w:World),good l.toArray sc listed fuel=true->C w->wpSd P l.toArray C Q (picks l sc) a w->wpAnyH P .any l.toArray Q C fuel listed a w
 | [],listed,fuel,a,w,hg,_,h=>wpAnyH_done (List.isEmpty_iff.1 hg) h fuel
 | _ :: _,_,0,_,_,hg,_,_=>by cases hg
 | (b,i) :: r,listed,fuel+1,a,w,hg,hC,h=>by
   unfold good at hg;simp only [aG] at hg;obtain ⟨hg1,hg2⟩:=hg;have hll:l.toArray[i]? = l[i]?:=by rw [cy]
   cases ho:l[i]? with
   | none=>rw [hll,ho] at hg1;cases hg1
   | some o =>
     rw [hll,ho] at hg1;have hop:=hll.trans ho;have hp:picks l ((b,i) :: r)=(b,o) :: picks l r:=by rw [picks,ho]
     rw [hp] at h
     cases b with
     | true =>
       simp only [if_true,beq_iff_eq] at hg1;refine wpAnyH_all hg1 (by simp) fun j hj=>?_;obtain rfl:j=i:=by simpa using hj
       unfold wpOp;simp only [hop];unfold wpSd at h
       by_cases hw:Region.wanted o (yielded l.toArray a.tmps)=true
       ·rw [aj hw] at h ⊢
        exact .inl (Oper.wp_mono (fun a' w' ⟨c,k⟩=>⟨c,sound hs hQ r _ fuel a' w' hg2 c k⟩) h)
       ·rw [ah hw] at h ⊢
        exact ⟨hC,sound hs hQ r _ fuel _ w hg2 hC h⟩
     | false =>
       simp only [cE,if_false,aG] at hg1;obtain ⟨⟨hk,hf⟩,hr⟩:=hg1;unfold wpSd at h
       by_cases hw:Region.wanted o (yielded l.toArray a.tmps)=true
       ·unfold wpQuiet at h
        rw [aj hw] at h;obtain ⟨v,hv,hn⟩:=h;refine wpAnyH_take (v:=v) hop hs hf hr (fun c a w=>hQ c _ _ a w) (.inl ⟨hw,fun w' hw'=>?_⟩) hC (sound hs hQ r _ fuel _ w hg2 hC hn);have q:=hv w' hw';unfold Oper.quietAt at q
        cases e:(execOp a.eval o).run P w' with
        | halt x w1=>rw [e] at q;cases q
        | ok n w1 =>
          obtain ⟨u,rfl⟩:=light_value hk e;rw [e] at q;obtain ⟨e1,e2⟩:=q;rw [e1,e2]
       ·unfold wpQuiet at h
        rw [ah hw] at h;exact wpAnyH_take (v:=undef) hop hs hf hr (fun c a w=>hQ c _ _ a w) (.inr ⟨by simpa using hw,rfl⟩) hC (sound hs hQ r _ fuel _ w hg2 hC h)
structure By (w:World) where
 world:World
 below:Below w.heap.size w world
instance (w:World):Nonempty (By w):=⟨⟨w,aa _ _⟩⟩
def Cl (w:World) (w':World):Prop:=∃ p:By w,w'=p.world
theorem Cl.of (h:Below w.heap.size w w'):Cl w w':=⟨⟨w',h⟩,rfl⟩
theorem Cl.bel (h:Cl w w'):Below w.heap.size w w':=by obtain ⟨p,rfl⟩:=h;exact p.below
theorem cell_by {a:Addr} {v:Value} (h:w.cell? a=some v) (p:By w):p.world.cell? a=some v:=bCe p.below h
theorem start {id:Nat} {l:List Oper} {Q:Exit->Act->World->Prop} {a:Act} (sc:List (Bool×Nat)) (hm:P.follows .mixedOrders=true) (hs:Region.noSelect l.toArray=true)
 (hg:good l.toArray sc (Array.replicate l.toArray.size false) l.toArray.size=true) (h:wpSd P l.toArray (fun w'=>∃ p:By w,w'=p.world) (NoPanic Q) (picks l sc) a w.drew):(Code.region id l.toArray true).wp P Q a w :=
 wp_region_noPanic (wp_region_held_drew (S:=fun w'=>∃ p:By w,w'=p.world) hm ⟨⟨w.drew,(aa _ _).drew⟩,rfl⟩ fun _=>sound hs (fun _ _ _ _ _ h=>h) sc _ _ a _ hg ⟨⟨w.drew,(aa _ _).drew⟩,rfl⟩ h)
section
variable {P:Program} {ops:Array Oper} {C:World->Prop} {Q:Exit->Act->World->Prop} {a:Act} {w:World} {o:Oper} {r:List (Bool×Oper)}
theorem done (h:Q .normal a w):wpSd P ops C (NoPanic Q) [] a w:=h
theorem lit (h:wpQuiet P ops C (fun a'=>wpSd P ops C Q r a' w) [o] a):wpSd P ops C Q ((false,o) :: r) a w:=h
theorem call (hw:Region.wanted o (yielded ops a.tmps)=true) (h:∀ K:Act->World->Prop,(∀ a w,C w->wpSd P ops C Q r a w->K a w)->o.wp P a w K Q):wpSd P ops C Q ((true,o) :: r) a w:=by
 unfold wpSd;rw [aj hw];exact h _ fun a w c k=>⟨c,k⟩
theorem past (hw:Region.wanted o (yielded ops a.tmps)=false) (h:wpSd P ops C Q r (a.put o.dst undef) w):wpSd P ops C Q ((true,o) :: r) a w:=by
 unfold wpSd;rw [ah (by rw [hw];exact bO)];exact h
end
end Sd
namespace Qk
theorem skip {P:Program} {ops:Array Oper} {C:World->Prop} {Q:Act->Prop} {a:Act} {o:Oper} {rest:List Oper} (hw:Region.wanted o (yielded ops a.tmps)=false) (ha:a.put o.dst undef=a) (h:wpQuiet P ops C Q rest a):wpQuiet P ops C Q (o :: rest) a:=by
 unfold wpQuiet;rw [ah (by rw [hw];exact bO),ha];exact h
theorem past {P:Program} {ops:Array Oper} {C:World->Prop} {Q:Exit->Act->World->Prop} {a:Act} {w:World} {o:Oper} {r:List (Bool×Oper)} (hw:Region.wanted o (yielded ops a.tmps)=false) (ha:a.put o.dst undef=a) (h:Sd.wpSd P ops C Q r a w):Sd.wpSd P ops C Q ((true,o) :: r) a w :=
 Sd.past hw (by rw [ha];exact h)
end Qk
namespace Fl
open Rw (Rd Ow At)
attribute [local irreducible] Sd.wpSd wpQuiet
theorem good_perm (w:World) (p:Int) (a:Option Addr) (n cap:Nat) (h:¬ (0<=p/\p<=7)):Calls prog 81 #[.agg #[.int .i64 p,.slice a n cap]] w fun e w'=>e = .returned (.bool false)/\Below w.heap.size w w':=by
 have B0:=Hh ((aa w.heap.size w).alloc (ac _) (.cells #[.int .i64 p,.slice a n cap] 83));have HP:=Hh (fun w=>at_bool (perm_no h) (perm_any w p));clear h;have k0:=Sd.cell_by (show (w.alloc (.cells #[.int .i64 p,.slice a n cap] 83)).cell? ⟨w.heap.size,0,none⟩=some (.int .i64 p) by go_simp)
 go_enter func81,ntmps81
 go_wp2_with fail;generalize w.alloc (.cells #[.int .i64 p,.slice a n cap] 83)=W at *;refine Sd.start [(false,0),(false,1),(true,2),(false,3),(false,4),(false,5),(false,6),(false,7),(false,8),(false,9),(false,10),(false,11),(false,12),(false,13),(false,14),(false,15),(false,16),(false,17),(false,18),(false,19),(true,20),(false,21),(false,22),(false,23)] (by kernel_rfl) (by kernel_rfl) (by kernel_rfl) ?_;dsimp only [Sd.picks,List.getElem?_cons_succ,List.getElem?_cons_zero]
 iterate 2 (refine Sd.lit ?_;quiet_step (fail);refine az ?_)
 refine Sd.call (by rfl) (fun K hK=>?_);go_simp;refine (HP _).mono ?_;rintro e w1 ⟨rfl,b1⟩;have C1:=Hh (cC ((aa W.heap.size W).drew) b1);refine hK _ _ (Sd.Cl.of C1) ?_;clear hK K b1
 iterate 17 (refine Sd.lit ?_;(first | (refine Qk.skip (by rfl) (by rfl) ?_) | quiet_step (fail));refine az ?_)
 refine Qk.past (by rfl) (by rfl) ?_
 iterate 3 (refine Sd.lit ?_;(first | (refine Qk.skip (by rfl) (by rfl) ?_) | quiet_step (fail));refine az ?_)
 refine Sd.done ?_;go_wp2
 go_ret
 exact ⟨rfl,bTr B0 C1⟩
theorem good_none (w:World) (p:Int) (a:Option Addr) (n cap:Nat) (h:0<=p/\p<=7) (hn:n < 1):Calls prog 81 #[.agg #[.int .i64 p,.slice a n cap]] w fun e w'=>e = .returned (.bool false)/\Below w.heap.size w w':=by
 have B0:=Hh ((aa w.heap.size w).alloc (ac _) (.cells #[.int .i64 p,.slice a n cap] 83));have HP:=Hh (fun w=>at_bool (perm_yes h.1 h.2) (perm_any w p));have hn2:decide ((1:Int)<=n)=false:=ak (by omega);clear h hn;have k0:=Sd.cell_by (show (w.alloc (.cells #[.int .i64 p,.slice a n cap] 83)).cell? ⟨w.heap.size,0,none⟩=some (.int .i64 p) by go_simp)
 go_enter func81,ntmps81
 go_wp2_with fail;generalize w.alloc (.cells #[.int .i64 p,.slice a n cap] 83)=W at *;refine Sd.start [(false,0),(false,1),(true,2),(false,3),(false,4),(false,5),(false,6),(false,7),(false,8),(false,9),(false,10),(false,11),(false,12),(false,13),(false,14),(false,15),(false,16),(false,17),(false,18),(false,19),(true,20),(false,21),(false,22),(false,23)] (by kernel_rfl) (by kernel_rfl) (by kernel_rfl) ?_;dsimp only [Sd.picks,List.getElem?_cons_succ,List.getElem?_cons_zero]
 iterate 2 (refine Sd.lit ?_;quiet_step (fail);refine az ?_)
 refine Sd.call (by rfl) (fun K hK=>?_);go_simp;refine (HP _).mono ?_;rintro e w1 ⟨rfl,b1⟩;have C1:=Hh (cC ((aa W.heap.size W).drew) b1);refine hK _ _ (Sd.Cl.of C1) ?_;clear hK K b1
 iterate 17 (refine Sd.lit ?_;(first | (refine Qk.skip (by rfl) (by rfl) ?_) | quiet_step (fail));refine az ?_)
 refine Qk.past (by rfl) (by rfl) ?_
 iterate 3 (refine Sd.lit ?_;(first | (refine Qk.skip (by rfl) (by rfl) ?_) | quiet_step (fail));refine az ?_)
 refine Sd.done ?_;go_wp2
 go_ret
 exact ⟨rfl,bTr B0 C1⟩
theorem good_many (w:World) (p:Int) (a:Option Addr) (n cap:Nat) (h:0<=p/\p<=7) (hn:256 < n):Calls prog 81 #[.agg #[.int .i64 p,.slice a n cap]] w fun e w'=>e = .returned (.bool false)/\Below w.heap.size w w':=by
 have B0:=Hh ((aa w.heap.size w).alloc (ac _) (.cells #[.int .i64 p,.slice a n cap] 83));have HP:=Hh (fun w=>at_bool (perm_yes h.1 h.2) (perm_any w p));have hn2:decide ((1:Int)<=n)=true:=an (by omega);have hn3:decide ((n:Int)<=256)=false:=ak (by omega);clear h hn;have k0:=Sd.cell_by (show (w.alloc (.cells #[.int .i64 p,.slice a n cap] 83)).cell? ⟨w.heap.size,0,none⟩=some (.int .i64 p) by go_simp)
 go_enter func81,ntmps81
 go_wp2_with fail;generalize w.alloc (.cells #[.int .i64 p,.slice a n cap] 83)=W at *;refine Sd.start [(false,0),(false,1),(true,2),(false,3),(false,4),(false,5),(false,6),(false,7),(false,8),(false,9),(false,10),(false,11),(false,12),(false,13),(false,14),(false,15),(false,16),(false,17),(false,18),(false,19),(true,20),(false,21),(false,22),(false,23)] (by kernel_rfl) (by kernel_rfl) (by kernel_rfl) ?_;dsimp only [Sd.picks,List.getElem?_cons_succ,List.getElem?_cons_zero]
 iterate 2 (refine Sd.lit ?_;quiet_step (fail);refine az ?_)
 refine Sd.call (by rfl) (fun K hK=>?_);go_simp;refine (HP _).mono ?_;rintro e w1 ⟨rfl,b1⟩;have C1:=Hh (cC ((aa W.heap.size W).drew) b1);refine hK _ _ (Sd.Cl.of C1) ?_;clear hK K b1
 iterate 17 (refine Sd.lit ?_;(first | (refine Qk.skip (by rfl) (by rfl) ?_) | quiet_step (fail));refine az ?_)
 refine Qk.past (by rfl) (by rfl) ?_
 iterate 3 (refine Sd.lit ?_;(first | (refine Qk.skip (by rfl) (by rfl) ?_) | quiet_step (fail));refine az ?_)
 refine Sd.done ?_;go_wp2
 go_ret
 exact ⟨rfl,bTr B0 C1⟩
theorem good_any (w:World) (p:Int) (v:Value) (l:List R4) (R:Rd K4 w v l):Calls prog 81 #[file p v] w fun e w'=>e = .returned (.bool (goodFB p l))/\Below w.heap.size w w':=by
 have B0:=Hh ((aa w.heap.size w).alloc (ac _) (.cells #[.int .i64 p,v] 83));have R0:=Hh (R.below B0.out);have HNO:Hid (¬ goodF p l->false=goodFB p l):=fun h=>(ak h).symm;have HD:Hid (0<=p->p<=7->1<=l.length->l.length<=256->decide (rat l 0=hdr p ((l.length:Int) - 1))=goodFB p l):=fun a b c d=>by
  unfold goodFB;rw [bf];exact ⟨fun h=>⟨a,b,c,d,h⟩,fun h=>h.2.2.2.2⟩
 clear R;unfold file;obtain ⟨a,cap,rfl,_,hm,hA⟩:=R0.out;have HA:=Hh hA;unfold maxLen at hm;clear hA R0
 by_cases h1:0<=p/\p<=7
 ·have hp:=fun w=>at_bool (perm_yes h1.1 h1.2) (perm_any w p)
  have HP:=Hh hp;clear hp;obtain ⟨h1,h2⟩:=h1
  by_cases h3:1<=l.length
  ·by_cases h4:l.length<=256
   ·have E:=Hh (HD.out h1 h2 h3 h4)
    have hh:=fun w=>hdr_any w p ((l.length:Int) - 1) h1 h2 (by omega) (by omega);obtain ⟨b,off,rfl,hA⟩:=HA.out (by omega);obtain ⟨c0,c1,c2,c3⟩:=at4_0 hA (by omega);have q0:=Qb.cell_by c0;have q1:=Qb.cell_by c1;have q2:=Qb.cell_by c2;have q3:=Qb.cell_by c3;clear hA HA HD HNO c0 c1 c2 c3;generalize rat l 0=r at *;generalize l.length=n at *;generalize hdr p ((n:Int) - 1)=q at *;unfold rec4 at hh;have HH:=Hh hh;clear hh;have es:=eq_rec r q;have W0:IntKind.i64.wrap ((n:Int) - 1)=(n:Int) - 1:=aR _ (by omega);have hn1:0 < n:=by omega
    have hn2:(1:Int)<=n:=by omega
    have hn3:(n:Int)<=256:=by omega
    have k0:=Qb.cell_by (show (w.alloc (.cells #[.int .i64 p,.slice (some ⟨b,off,none⟩) n cap] 83)).cell? ⟨w.heap.size,0,none⟩=some (.int .i64 p) by go_simp);have k1:=Qb.cell_by (show (w.alloc (.cells #[.int .i64 p,.slice (some ⟨b,off,none⟩) n cap] 83)).cell? ⟨w.heap.size,1,none⟩=some (.slice (some ⟨b,off,none⟩) n cap) by go_simp)
    go_enter func81,ntmps81
    go_wp2_with fail;refine Qb.wp_region_by (by kernel_rfl) (by kernel_rfl) ?_
    repeat (quiet_step ((first | (go_at_call 107;with_reducible exact Qb.of_below (HP.out _)) | (go_at_call 108;with_reducible exact Qb.of_below (HH.out _)))))
    refine az ?_
    intro _ hw'
    obtain ⟨pp,rfl⟩:=hw';go_wp2
    go_ret
    exact ⟨ret_bool E,B0.trans (pp.below.mono B0.size)⟩
   ·exact at_bool (HNO (fun h=>by obtain ⟨_,_,_,_,_⟩:=h;omega)) (good_many w p a _ cap ⟨h1,h2⟩ (by omega))
  ·exact at_bool (HNO (fun h=>by obtain ⟨_,_,_,_,_⟩:=h;omega)) (good_none w p a _ cap ⟨h1,h2⟩ (by omega))
 ·exact at_bool (HNO (fun h=>by obtain ⟨_,_,_,_,_⟩:=h;omega)) (good_perm w p a _ cap h1)
end Fl
namespace Fl
open Rw (Rd Ow At)
variable {f B g n cap o:Nat} {k:IntKind} {a b op q p:Int}
theorem at_int {P:Program} {args:Array Value} (e:a=b) (c:Calls P f args w fun e w'=>e = .returned (.int k a)/\Below B w w'):Calls P f args w fun e w'=>e = .returned (.int k b)/\Below B w w':=by rw [← e];exact c
theorem ret_int (h:a=b):Ending.returned (.int k a) = .returned (.int k b):=by rw [h]
theorem needsN_of (h:0<=op/\op<=2):needsN op=need op:=by unfold needsN;rw [aj h]
theorem needsN_no (h:¬ (0<=op/\op<=2)):needsN op=0:=by unfold needsN;rw [ah h]
theorem need_pos (op:Int):0 < need op:=by unfold need;split <;> (try split) <;> omega
theorem wrong_any (w:World) (p:Int) (v:Value) (l:List R4) (R:Rd K4 w v l) (op rec:Int):Calls prog 127 #[file p v,.int .i64 op,.int .i64 rec] w fun e w'=>e = .returned (.int .i64 (doE p l op rec))/\Below w.heap.size w w':=by
 have bb:=(aa w.heap.size w).alloc (ac _) (.cells #[.int .i64 p,v] 83);have B0:=Hh bb;have G0:=Hh (good_any _ p v l (R.below bb));obtain ⟨a,cap,rfl,_,hm,_⟩:=R;unfold maxLen at hm;clear bb
 by_cases hg:goodF p l
 ·have G:=Hh (at_bool (show goodFB p l=true from an hg) G0)
  have hp:0<=p/\p<=7:=⟨hg.1,hg.2.1⟩
  by_cases ho:0<=op/\op<=2
  ·have N:=Hh (fun w=>at_int (needsN_of ho) (needs_any w op))
   have hq:=need_pos op
   by_cases hr:0<=rec/\rec < l.length
   ·obtain ⟨hr0,hr1⟩:=hr
    have M:=Hh (fun w=>may_any w p op rec hp.1 hp.2 ho.1 ho.2 hr0)
    by_cases hk:rec=0/\op=0\/0 < rec/\p / need op % 2=1
    ·have E:=Hh (doE_0 hg ho ⟨hr0,hr1⟩ hk)
     have M1:=Hh (fun w=>at_bool (show mayB p op rec=true from an hk) (M w));clear hk hg G0 M;generalize doE p l op rec=d at *;generalize need op=q at *;generalize l.length=n at *;unfold file at *
     go_enter func127,ntmps127
     go_wp2_with fail;refine G.mono ?_;rintro e w1 ⟨rfl,b1⟩;have B1:=bTr B0 b1;have c0:w1.cell? ⟨w.heap.size,0,none⟩=some (.int .i64 p):=(b1.cell (by simp)).trans (by go_simp);have c1:w1.cell? ⟨w.heap.size,1,none⟩=some (.slice a n cap):=(b1.cell (by simp)).trans (by go_simp);clear b1 B0 G;go_wp2_with fail;refine (N _).mono ?_;rintro e w2 ⟨rfl,b2⟩;have lt:w.heap.size < w1.heap.size:=aC _ _ c0;have B2:=bTr B1 b2;have d0:w2.cell? ⟨w.heap.size,0,none⟩=some (.int .i64 p):=(b2.cell lt).trans c0;have d1:w2.cell? ⟨w.heap.size,1,none⟩=some (.slice a n cap):=(b2.cell lt).trans c1;clear b2 B1 N c0 c1 lt;go_wp2_with fail;refine (M1 _).mono ?_;rintro e w3 ⟨rfl,b3⟩;have B3:=bTr B2 b3;clear b3 B2 M1;go_wp2
     go_ret
     exact ⟨ret_int E.symm,B3⟩
    ·have E:=Hh (doE_5 hg ho ⟨hr0,hr1⟩ hk)
     have M1:=Hh (fun w=>at_bool (show mayB p op rec=false from ak hk) (M w));clear hk hg G0 M;generalize doE p l op rec=d at *;generalize need op=q at *;generalize l.length=n at *;unfold file at *
     go_enter func127,ntmps127
     go_wp2_with fail;refine G.mono ?_;rintro e w1 ⟨rfl,b1⟩;have B1:=bTr B0 b1;have c0:w1.cell? ⟨w.heap.size,0,none⟩=some (.int .i64 p):=(b1.cell (by simp)).trans (by go_simp);have c1:w1.cell? ⟨w.heap.size,1,none⟩=some (.slice a n cap):=(b1.cell (by simp)).trans (by go_simp);clear b1 B0 G;go_wp2_with fail;refine (N _).mono ?_;rintro e w2 ⟨rfl,b2⟩;have lt:w.heap.size < w1.heap.size:=aC _ _ c0;have B2:=bTr B1 b2;have d0:w2.cell? ⟨w.heap.size,0,none⟩=some (.int .i64 p):=(b2.cell lt).trans c0;have d1:w2.cell? ⟨w.heap.size,1,none⟩=some (.slice a n cap):=(b2.cell lt).trans c1;clear b2 B1 N c0 c1 lt;go_wp2_with fail;refine (M1 _).mono ?_;rintro e w3 ⟨rfl,b3⟩;have B3:=bTr B2 b3;clear b3 B2 M1;go_wp2
     go_ret
     exact ⟨ret_int E.symm,B3⟩
   ·have E:=Hh (doE_4 hg ho hr)
    clear hg G0;have hr':rec < 0\/(0<=rec/\(l.length:Int)<=rec):=by omega
    clear hr;generalize doE p l op rec=d at *;generalize need op=q at *;generalize l.length=n at *;unfold file at *
    rcases hr' with hr | ⟨hr,hr2⟩
    all_goals
     go_enter func127,ntmps127
     go_wp2_with fail;refine G.mono ?_;rintro e w1 ⟨rfl,b1⟩;have B1:=bTr B0 b1;have c0:w1.cell? ⟨w.heap.size,0,none⟩=some (.int .i64 p):=(b1.cell (by simp)).trans (by go_simp);have c1:w1.cell? ⟨w.heap.size,1,none⟩=some (.slice a n cap):=(b1.cell (by simp)).trans (by go_simp);clear b1 B0 G;go_wp2_with fail;refine (N _).mono ?_;rintro e w2 ⟨rfl,b2⟩;have lt:w.heap.size < w1.heap.size:=aC _ _ c0;have B2:=bTr B1 b2;have d0:w2.cell? ⟨w.heap.size,0,none⟩=some (.int .i64 p):=(b2.cell lt).trans c0;have d1:w2.cell? ⟨w.heap.size,1,none⟩=some (.slice a n cap):=(b2.cell lt).trans c1;clear b2 B1 N c0 c1 lt;go_wp2
     go_ret
     exact ⟨ret_int E.symm,B2⟩
  ·have E:=Hh (doE_1 (rec:=rec) hg ho)
   have N:=Hh (fun w=>at_int (needsN_no ho) (needs_any w op));clear hg G0 ho;generalize doE p l op rec=d at *;generalize l.length=n at *;unfold file at *
   go_enter func127,ntmps127
   go_wp2_with fail;refine G.mono ?_;rintro e w1 ⟨rfl,b1⟩;have B1:=bTr B0 b1;clear b1 B0 G;go_wp2_with fail;refine (N _).mono ?_;rintro e w2 ⟨rfl,b2⟩;have B2:=bTr B1 b2;clear b2 B1 N;go_wp2
   go_ret
   exact ⟨ret_int E.symm,B2⟩
 ·have E:=Hh (doE_2 (op:=op) (rec:=rec) hg)
  have G:=Hh (at_bool (show goodFB p l=false from ak hg) G0);clear hg G0;generalize doE p l op rec=d at *;generalize l.length=n at *;unfold file at *
  go_enter func127,ntmps127
  go_wp2_with fail;refine G.mono ?_;rintro e w1 ⟨rfl,b1⟩;have B1:=bTr B0 b1;clear b1 B0 G;go_wp2
  go_ret
  exact ⟨ret_int E.symm,B1⟩
def arr4 (r:R4):Array Value:=#[.int .u8 r.1,.int .u8 r.2.1,.int .u8 r.2.2.1,.int .u8 r.2.2.2]
def sto4 (w:World) (g o:Nat) (r:R4):World:=(((w.setCell ⟨g,o,none⟩ (.int .u8 r.1)).setCell ⟨g,o+1,none⟩ (.int .u8 r.2.1)).setCell ⟨g,o+2,none⟩ (.int .u8 r.2.2.1)).setCell ⟨g,o+3,none⟩ (.int .u8 r.2.2.2)
variable {l:List R4}
theorem sto4_own (h:Ow K4 w B 36 (.slice (some ⟨g,0,none⟩) n cap) l) (hn:n=l.length) (i:Nat) (hi:i < l.length) (r:R4) :
 Ow K4 (sto4 w g (i * 4) r) B 36 (.slice (some ⟨g,0,none⟩) n cap) (l.set i r):=by
 subst hn;have get:∀ (m:List R4) (s:R4),i < m.length->(m.set i s).getD i z4=s:=fun m s hm=>by simp [List.getD,hm]
 have h1:=h.set i 0 hi (by decide) (.int .u8 r.1) (r.1,(l.getD i z4).2.1,(l.getD i z4).2.2.1,(l.getD i z4).2.2.2) rfl;have l1:i < (l.set i (r.1,(l.getD i z4).2.1,(l.getD i z4).2.2.1,(l.getD i z4).2.2.2)).length:=by rw [aT];exact hi
 rw [show l.length=(l.set i (r.1,(l.getD i z4).2.1,(l.getD i z4).2.2.1,(l.getD i z4).2.2.2)).length by rw [aT]] at h1;have h2:=h1.set i 1 l1 (by decide) (.int .u8 r.2.1) (r.1,r.2.1,(l.getD i z4).2.2.1,(l.getD i z4).2.2.2) (by show _=((K4.enc ((l.set i _).getD i z4))).set 1 _;rw [get _ _ hi];rfl);rw [List.set_set] at h2;have l2:i < (l.set i (r.1,r.2.1,(l.getD i z4).2.2.1,(l.getD i z4).2.2.2)).length:=by rw [aT];exact hi
 rw [aT,show l.length=(l.set i (r.1,r.2.1,(l.getD i z4).2.2.1,(l.getD i z4).2.2.2)).length by rw [aT]] at h2;have h3:=h2.set i 2 l2 (by decide) (.int .u8 r.2.2.1) (r.1,r.2.1,r.2.2.1,(l.getD i z4).2.2.2) (by show _=((K4.enc ((l.set i _).getD i z4))).set 2 _;rw [get _ _ hi];rfl);rw [List.set_set] at h3;have l3:i < (l.set i (r.1,r.2.1,r.2.2.1,(l.getD i z4).2.2.2)).length:=by rw [aT];exact hi
 rw [aT,show l.length=(l.set i (r.1,r.2.1,r.2.2.1,(l.getD i z4).2.2.2)).length by rw [aT]] at h3;have h4:=h3.set i 3 l3 (by decide) (.int .u8 r.2.2.2) r (by show _=((K4.enc ((l.set i _).getD i z4))).set 3 _;rw [get _ _ hi];rfl);rw [List.set_set] at h4;rw [aT] at h4;exact h4
theorem sto4_row {q:R4} (h:w.heap[g]? = some (.cells (arr4 q) 36 (0,0))) (r:R4):(sto4 w g 0 r).heap[g]? = some (.cells (arr4 r) 36 (0,0)) :=
 Rw.heap_setCell_same (Rw.heap_setCell_same (Rw.heap_setCell_same (Rw.heap_setCell_same h _) _) _) _
variable {r:R4} {x:Option Obj}
theorem sto4_other {k:Nat} (h:w.heap[k]? = x) (hne:k≠g):(sto4 w g o r).heap[k]? = x :=
 (aH _ _ _ _ hne).trans ((aH _ _ _ _ hne).trans ((aH _ _ _ _ hne).trans ((aH _ _ _ _ hne).trans h)))
variable {W:World}
theorem sto4_below (h:Below B w W) (hb:B<=g):Below B w (sto4 W g o r) :=
 (((h.setCell (p:=⟨g,o,none⟩) hb _).setCell (p:=⟨g,o+1,none⟩) hb _).setCell (p:=⟨g,o+2,none⟩) hb _).setCell (p:=⟨g,o+3,none⟩) hb _
theorem sto4_size (w:World) (g o:Nat) (r:R4):(sto4 w g o r).heap.size=w.heap.size:=by simp [sto4]
variable {v u:Value}
theorem sto4_off (h:Ow K4 w B 36 v l) (hne:v.ownBlock≠some g) (r:R4):Ow K4 (sto4 w g o r) B 36 v l :=
 (((h.off (p:=⟨g,o,none⟩) hne _).off (p:=⟨g,o+1,none⟩) hne _).off (p:=⟨g,o+2,none⟩) hne _).off (p:=⟨g,o+3,none⟩) hne _
def sto2 (w:World) (g:Nat) (p:Int) (v:Value):World:=(w.setCell ⟨g,0,none⟩ (.int .i64 p)).setCell ⟨g,1,none⟩ v
theorem sto2_row (h:w.heap[g]? = some (.cells #[.int .i64 q,u] 83 (0,0))) (p:Int) (v:Value):(sto2 w g p v).heap[g]? = some (.cells #[.int .i64 p,v] 83 (0,0)) :=
 Rw.heap_setCell_same (Rw.heap_setCell_same h _) _
theorem sto2_other {k:Nat} (h:w.heap[k]? = x) (hne:k≠g):(sto2 w g p v).heap[k]? = x :=
 (aH _ _ _ _ hne).trans ((aH _ _ _ _ hne).trans h)
theorem sto2_below (h:Below B w W) (hb:B<=g):Below B w (sto2 W g p v):=(h.setCell (p:=⟨g,0,none⟩) hb _).setCell (p:=⟨g,1,none⟩) hb _
theorem sto2_size (w:World) (g:Nat) (p:Int) (v:Value):(sto2 w g p v).heap.size=w.heap.size:=by simp [sto2]
theorem sto2_off (h:Ow K4 w B 36 v l) (hne:v.ownBlock≠some g) (p:Int):Ow K4 (sto2 w g p u) B 36 v l :=
 (h.off (p:=⟨g,0,none⟩) hne _).off (p:=⟨g,1,none⟩) hne _
theorem results_do {fn:Func} {p q r:Tmp} (h:fn.results=#[.cell p 83,.cell q 36,.tmp r]) (tmps:Array Value) (w:World) (g1 g2:Nat) (k:Int) (u:Value) (y:R4) (e:Int)
 (hp:tmps.getD p undef = .pointer (some ⟨g1,0,none⟩)) (hq:tmps.getD q undef = .pointer (some ⟨g2,0,none⟩)) (hr:tmps.getD r undef = .int .i64 e)
 (h1:w.heap[g1]? = some (.cells #[.int .i64 k,u] 83 (0,0))) (h2:w.heap[g2]? = some (.cells (arr4 y) 36 (0,0))) :
 (results fn tmps).run prog w = .ok (.tuple #[file k u,rec4 y,.int .i64 e]) w:=by
 have e1:=ce (P:=prog) w g1 83 83 #[.int .i64 k,u] (0,0) _ h1 underlying83 rfl (by show _=some 2;kernel_rfl);have e2:=ce (P:=prog) w g2 36 36 (arr4 y) (0,0) _ h2 underlying36 rfl (by show _=some 4;kernel_rfl);have hp':tmps[p]?.getD undef = .pointer (some ⟨g1,0,none⟩):=by simpa using hp
 have hq':tmps[q]?.getD undef = .pointer (some ⟨g2,0,none⟩):=by simpa using hq
 have hr':tmps[r]?.getD undef = .int .i64 e:=by simpa using hr
 simp only [results,h]
 simp [Sem.run_bind,Result.andThen,hp',hq',hr',asAddr,e1,e2,file,rec4,arr4]
structure Start (w:World) (p:Int) (v:Value) (x:R4) (W:World):Prop where
 box:W.heap[w.heap.size]? = some (.cells #[.int .i64 p,v] 83 (0,0))
 arg:W.heap[w.heap.size+1]? = some (.cells (arr4 x) 36 (0,0))
 res1:W.heap[w.heap.size+2]? = some (.cells #[.int .i64 0,.slice none 0 0] 83 (0,0))
 res2:W.heap[w.heap.size+3]? = some (.cells (arr4 z4) 36 (0,0))
 siz:w.heap.size+4<=W.heap.size
 bel:Below w.heap.size w W
theorem Start.mono {w W W':World} {p:Int} {v:Value} {x:R4} (h:Start w p v x W) (b:Below W.heap.size W W'):Start w p v x W' :=
 have s:=h.siz
 ⟨(b.block _ (by omega)).trans h.box,(b.block _ (by omega)).trans h.arg,(b.block _ (by omega)).trans h.res1,(b.block _ (by omega)).trans h.res2,aX h.siz b.size,h.bel.trans (b.mono (by omega))⟩
theorem Start.of (w:World) (p:Int) (v:Value) (x:R4):Start w p v x ((((w.alloc (.cells #[.int .i64 p,v] 83)).alloc (.cells (arr4 x) 36)).alloc (.cells #[.int .i64 0,.slice none 0 0] 83)).alloc (.cells (arr4 z4) 36)):=by
 have z1:∀ a,(w.alloc a).heap.size=w.heap.size+1:=fun a=>by simp
 have z2:∀ a b,((w.alloc a).alloc b).heap.size=w.heap.size+2:=fun a b=>by simp
 have z3:∀ a b c,(((w.alloc a).alloc b).alloc c).heap.size=w.heap.size+3:=fun a b c=>by simp
 refine ⟨?_,?_,?_,?_,by simp,((((aa w.heap.size w).alloc (ac _) _).alloc (by simp) _).alloc (by simp;omega) _).alloc (by simp;omega) _⟩
 ·exact (aQ _ _ _ (by rw [z3];omega)).trans ((aQ _ _ _ (by rw [z2];omega)).trans ((aQ _ _ _ (by rw [z1];omega)).trans (am w _)))
 ·have:=am (w.alloc (.cells #[.int .i64 p,v] 83)) (.cells (arr4 x) 36)
  rw [z1] at this;exact (aQ _ _ _ (by rw [z3];omega)).trans ((aQ _ _ _ (by rw [z2];omega)).trans this)
 ·have:=am ((w.alloc (.cells #[.int .i64 p,v] 83)).alloc (.cells (arr4 x) 36)) (.cells #[.int .i64 0,.slice none 0 0] 83)
  rw [z2] at this;exact (aQ _ _ _ (by rw [z3];omega)).trans this
 ·have:=am (((w.alloc (.cells #[.int .i64 p,v] 83)).alloc (.cells (arr4 x) 36)).alloc (.cells #[.int .i64 0,.slice none 0 0] 83)) (.cells (arr4 z4) 36)
  rw [z3] at this;exact this
theorem flat_zero (n:Nat):(madeCells #[.int .u8 0,.int .u8 0,.int .u8 0,.int .u8 0] (n * 4)).toList=K4.flat (List.replicate n z4):=by
 refine bZ fun k=>?_;have hl:(K4.flat (List.replicate n z4)).length=n * 4:=by rw [Rw.flat_length,bR];rfl
 have hs:(madeCells #[.int .u8 0,.int .u8 0,.int .u8 0,.int .u8 0] (n * 4)).toList.length=n * 4:=by simp [madeCells]
 by_cases hk:k < n * 4
 ·have e:=Rw.flat_get K4 (List.replicate n z4) (k / 4) (k % 4) (by rw [bR];omega) (Nat.mod_lt _ (by decide))
  have e4:k / 4 * K4.n+k % 4=k:=by show k / 4 * 4+k % 4=k;omega
  rw [e4] at e;rw [e];have ez:(List.replicate n z4).getD (k / 4) K4.dft=z4:=by
   rw [af,List.getElem?_replicate]
   split <;> rfl
  rw [ez];have hm:k % 4 < 4:=Nat.mod_lt _ (by decide);simp only [madeCells,Array.getElem?_toList,Array.getElem?_map,Array.getElem?_range,hk,if_true,bS,cK,cj,df,cd,Nat.reduceAdd]
  rcases (by omega:k % 4=0\/k % 4=1\/k % 4=2\/k % 4=3) with h | h | h | h <;> rw [h] <;> rfl
 ·rw [cI (by omega),cI (by omega)]
def ClonePost (w:World) (l:List R4) (e:Ending) (w':World):Prop:=∃ u,e = .returned u/\Ow K4 w' w.heap.size 36 u l/\Below w.heap.size w w'
theorem clone_any (w:World) (v:Value) (l:List R4) (R:Rd K4 w v l) (hl:l.length<=260):Calls prog 99 #[v] w (ClonePost w l):=by
 have R0:=Hh R;obtain ⟨a,cap,rfl,⟨h1,h2⟩,hm,_⟩:=R
 cases a with
 | none =>
   have hc:=h2 rfl;have e:l = []:=bt.1 (by omega);subst e hc;clear h1 h2 hm R0;have hnil:∀ W,(binOp .eql 81 (.slice none 0 0) (.slice none 0 0)).run prog W = .ok (.bool true) W:=fun W=>Lib.run_eql_slice_nil_nil W _ _ underlying81
   go_enter func99,ntmps99
   go_wp2
   go_ret
   exact ⟨_,rfl,Ow.nil _ _ _,aa _ _⟩
 | some a =>
   have O:=Hh (Ow.made (K:=K4) w w.heap.size 36 (ac _));have BB:=Hh ((aa w.heap.size w).alloc (ac _) (.cells #[] 36));have RB:=Hh (R0.below BB);have HL:=Hh hl;have HA:Hid (∀ (v':Value) (w':World),Ow K4 w' w.heap.size 36 v' ([] ++ l)->Ow K4 w' w.heap.size 36 v' l):=fun v' w' h=>by rw [bz] at h;exact h
   clear h1 h2 R0 hl;have hnil:∀ n W,(binOp .eql 81 (.slice (some a) n cap) (.slice none 0 0)).run prog W = .ok (.bool false) W:=fun n W=>Lib.run_eql_slice_some_nil W _ _ _ underlying81
   go_enter func99,ntmps99
   go_wp2_with (at_builtin;refine Rw.all_step underlying81 infoR rfl (by omega) rfl _ _ rfl w.heap.size _ _ rfl O.out _ _ rfl RB.out ?c1 ?c2 ?_)
   case c1=>have:=HL.out;simp;omega
   case c2=>simp
   intro v' w' o2 b2
   have E:Hid (ClonePost w l (.returned v') w'):=⟨v',rfl,HA _ _ o2,BB.trans b2⟩;obtain ⟨a',c',L',rfl⟩:∃ a c L,v' = .slice a L c:=by obtain ⟨a,c,e,_,_⟩:=o2.slice;exact ⟨a,c,_,e⟩
   clear o2 b2 HA RB O;go_wp2
   go_ret
   exact E
end Fl
namespace Sc
structure In (C:World->Prop) where
 world:World
 ok:C world
def Cl (C:World->Prop) (w':World):Prop:=∃ p:In C,w'=p.world
variable {C:World->Prop}
theorem Cl.of (h:C w'):∃ p:In C,w'=p.world:=⟨⟨w',h⟩,rfl⟩
theorem cell_in {a:Addr} {v:Value} (h:∀ w',C w'->w'.cell? a=some v) (p:In C):p.world.cell? a=some v:=h _ p.ok
theorem start {P:Program} {id:Nat} {l:List Oper} {Q:Exit->Act->World->Prop} {a:Act} (C:World->Prop) (sc:List (Bool×Nat)) (hm:P.follows .mixedOrders=true) (hs:Region.noSelect l.toArray=true)
 (hg:Sd.good l.toArray sc (Array.replicate l.toArray.size false) l.toArray.size=true) (h0:C w.drew) (h:Sd.wpSd P l.toArray (fun w'=>∃ p:In C,w'=p.world) (NoPanic Q) (Sd.picks l sc) a w.drew):(Code.region id l.toArray true).wp P Q a w :=
 wp_region_noPanic (wp_region_held_drew (S:=fun w'=>∃ p:In C,w'=p.world) hm (Cl.of h0) fun _=>Sd.sound hs (fun _ _ _ _ _ h=>h) sc _ _ a _ hg (Cl.of h0) h)
end Sc
namespace Fl
open Rw (Rd Ow At)
attribute [local irreducible] Sd.wpSd wpQuiet
theorem results_new {fn:Func} {p r:Tmp} (h:fn.results=#[.cell p 83,.tmp r]) (tmps:Array Value) (w:World) (g1:Nat) (k:Int) (u:Value) (e:Int)
 (hp:tmps.getD p undef = .pointer (some ⟨g1,0,none⟩)) (hr:tmps.getD r undef = .int .i64 e)
 (h1:w.heap[g1]? = some (.cells #[.int .i64 k,u] 83 (0,0))) :
 (results fn tmps).run prog w = .ok (.tuple #[file k u,.int .i64 e]) w:=by
 have e1:=ce (P:=prog) w g1 83 83 #[.int .i64 k,u] (0,0) _ h1 underlying83 rfl (by show _=some 2;kernel_rfl);have hp':tmps[p]?.getD undef = .pointer (some ⟨g1,0,none⟩):=by simpa using hp
 have hr':tmps[r]?.getD undef = .int .i64 e:=by simpa using hr
 simp only [results,h]
 simp [Result.andThen,hp',hr',asAddr,e1,file]
theorem set_zero (h:R4) (n:Nat):(List.replicate (n+1) z4).set 0 h=h :: List.replicate n z4:=by rw [List.replicate_succ];rfl
def NewOwn (w:World) (p n:Int) (e:Ending) (w':World):Prop:=∃ u,e = .returned (.tuple #[file p u,.int .i64 0])/\Ow K4 w' w.heap.size 36 u (newL p n)/\Below w.heap.size w w'
set_option maxRecDepth 100000 in
theorem new_own (w:World) (p n:Int) (hp:newP p n):Calls prog 129 #[.int .i64 p,.int .i64 n] w (NewOwn w p n):=by
 have B0:=Hh ((aa w.heap.size w).alloc (ac _) (.cells #[.int .i64 0,.slice none 0 0] 83));have HPN:=Hh hp;obtain ⟨p0,p1,n0,n1⟩:=hp;obtain ⟨m,rfl⟩:∃ m:Nat,n=m:=⟨n.toNat,by omega⟩;have P0:=Hh (fun w=>at_bool (perm_yes p0 p1) (perm_any w p));have HH:=Hh (fun w=>hdr_any w p m p0 p1 (by omega) (by omega));have NL:Hid (newL p m=hdr p m :: List.replicate m z4):=rfl;have E:Hid (∀ u w',Ow K4 w' (w.heap.size+1) 36 u (hdr p m :: List.replicate m z4)->Below w.heap.size w w'->NewOwn w p m (.returned (.tuple #[file p u,.int .i64 0])) w'):=fun u w' h hb=>⟨_,rfl,by rw [NL.out];exact h.low (Nat.le_succ _),hb⟩;obtain ⟨i0,hi,hz0,hz1,hz2⟩:=cz infoR;unfold rec4 at HH;generalize hdr p m=h at *;have hw1:IntKind.i64.wrap (1+(m:Int))=((m+1:Nat):Int):=by rw [aR _ (by omega)];omega
 go_enter func129,ntmps129
 go_wp2_with fail;refine (P0 _).mono ?_;rintro e w1 ⟨rfl,b1⟩;have z1:w.heap.size+1<=w1.heap.size:=by have:=b1.size;simp at this;omega
 have B1:=bTr B0 b1;have r0:=(b1.block _ (by simp)).trans (am w _);clear b1 B0;have hn1:¬ ((m:Int) < 0):=by omega
 have hn2:¬ (256<=(m:Int)):=by omega
 go_wp2_with (at_make;refine wpList_make_full _ rfl _ _ 81 rfl (w.heap.size+1) 36 i0 _ 4 underlying81 hi hz0 hz1 _ _ _ _ (m+1) rfl rfl (by omega) (by omega) ?d1 ?d2 ?d3 ?_)
 case d1=>rw [hz2];omega
 case d2=>unfold maxLen;omega
 case d3=>omega
 intro w2 o2 g2
 have O2:Ow K4 w2 (w.heap.size+1) 36 (.slice (some ⟨w1.heap.size,0,none⟩) (m+1) (m+1)) (List.replicate (m+1) z4):=by
  have e:=flat_zero (m+1);rw [e] at o2
  show w2.ownsRow _ _ K4.n _ (List.replicate (m+1) z4).length _
  rw [bR];exact o2
 have b2:=(aa w1.heap.size w1).grown g2 (ac _) (fun k e=>by cases e);have B2:=Hh (B1.trans (b2.mono (by omega)));have r2:=(b2.block _ (by omega)).trans r0;have z2:w1.heap.size < w2.heap.size:=by
  obtain ⟨g,cap,e,_,hlt,_⟩:=O2.form (by rw [bR];omega);injection e with e1;injection e1 with e1;injection e1 with e1 _ _
  omega
 have OO:=Hh O2;clear o2 g2 b2 r0 B1 O2;go_wp2_with fail;have row3:=am w2 (.cells #[.int .i64 p,.slice (some ⟨w1.heap.size,0,none⟩) (m+1) (m+1)] 83);have B3:=Hh (B2.alloc B2.size (.cells #[.int .i64 p,.slice (some ⟨w1.heap.size,0,none⟩) (m+1) (m+1)] 83));have O3:=Hh (OO.alloc (.cells #[.int .i64 p,.slice (some ⟨w1.heap.size,0,none⟩) (m+1) (m+1)] 83));have r3:=(aQ w2 (.cells #[.int .i64 p,.slice (some ⟨w1.heap.size,0,none⟩) (m+1) (m+1)] 83) w.heap.size (by omega)).trans r2;have z3:w2.heap.size < (w2.alloc (.cells #[.int .i64 p,.slice (some ⟨w1.heap.size,0,none⟩) (m+1) (m+1)] 83)).heap.size:=by simp
 clear B2 OO r2;generalize w2.alloc (.cells #[.int .i64 p,.slice (some ⟨w1.heap.size,0,none⟩) (m+1) (m+1)] 83)=W at *;generalize w2.heap.size=gF at *;have C0:=row3;have k1:=Sc.cell_in (C:=fun W':World=>W'.heap[gF]? = some (.cells #[.int .i64 p,.slice (some ⟨w1.heap.size,0,none⟩) (m+1) (m+1)] 83 (0,0))) (a:=⟨gF,1,none⟩) (fun W' h=>row_cell h 1);have k1':=Fl.rc row3 1;have ne:Nonempty (Sc.In (fun W':World=>W'.heap[gF]? = some (.cells #[.int .i64 p,.slice (some ⟨w1.heap.size,0,none⟩) (m+1) (m+1)] 83 (0,0)))):=⟨⟨_,C0⟩⟩;have hm1:0 < m+1:=by omega
 refine Sc.start (fun W':World=>W'.heap[gF]? = some (.cells #[.int .i64 p,.slice (some ⟨w1.heap.size,0,none⟩) (m+1) (m+1)] 83 (0,0))) [(false,0),(false,1),(false,2),(false,3),(true,4),(false,5),(true,6)] (by kernel_rfl) (by kernel_rfl) (by kernel_rfl) C0 ?_;dsimp only [Sd.picks,List.getElem?_cons_succ,List.getElem?_cons_zero]
 repeat (refine Sd.lit ?_;quiet_step (fail);refine az ?_)
 refine Sd.call (by rfl) (fun K hK=>?_);go_simp;refine (HH _).mono ?_;rintro e w4 ⟨rfl,b4⟩;have b4':=cC ((aa W.heap.size W).drew) b4;have B4:=bTr B3 b4';have row4:=(b4'.block _ (by omega)).trans row3;have r4:=(b4'.block _ (by omega)).trans r3;have O4:=Hh (O3.keep b4');refine hK _ _ (Sc.Cl.of row4) ?_;clear hK K b4 b4' B3 O3 row3 r3 k1'
 repeat (refine Sd.lit ?_;quiet_step (fail);refine az ?_)
 refine Sd.call (by rfl) (fun K hK=>?_);obtain ⟨g,cap,eg,_,hlt,_,_,hfr,hat⟩:=O4.form (by rw [bR];omega);have O5:=Hh (sto4_own (i:=0) O4 (by rw [bR]) (by rw [bR];omega) h);rw [set_zero] at O5;have hg1:g=w1.heap.size:=by
  injection eg with e1;injection e1 with e1;injection e1 with e1 _ _;exact e1.symm
 subst hg1;obtain ⟨c0,c1,c2,c3⟩:=at4_0 hat (by rw [bR];omega);have f0:=hfr 0;have f1:=hfr 1;have f2:=hfr 2;have f3:=hfr 3;have row5:=sto4_other (g:=w1.heap.size) (o:=0) (r:=h) row4 (by omega);have r5:=sto4_other (g:=w1.heap.size) (o:=0) (r:=h) r4 (by omega);have B5:=Hh (sto4_below (o:=0) (r:=h) B4 (show w.heap.size<=w1.heap.size by omega));clear hfr hat O4 B4 eg;go_simp;refine hK _ _ (Sc.Cl.of row5) ?_;clear hK K c0 c1 c2 c3 f0 f1 f2 f3 row4 r4 k1 ne C0;refine Sd.done ?_;obtain ⟨d0,d1⟩:=rc2 row5;obtain ⟨e0,e1,f0,f1⟩:=rf2 r5;have hne:(Value.slice (some ⟨w1.heap.size,0,none⟩) (m+1) (m+1)).ownBlock≠some w.heap.size:=O5.range (.inl (by omega));have RR:=Hh (sto2_row r5 p (.slice (some ⟨w1.heap.size,0,none⟩) (m+1) (m+1)));have O6:=Hh (sto2_off (u:=.slice (some ⟨w1.heap.size,0,none⟩) (m+1) (m+1)) O5 hne p);have B6:=Hh (sto2_below (p:=p) (v:=.slice (some ⟨w1.heap.size,0,none⟩) (m+1) (m+1)) B5 (ac _));clear row5 r5 O5 B5 hne
 show Exit.then _ _ _ _ (sto4 w4 w1.heap.size 0 h)
 generalize sto4 w4 w1.heap.size 0 h=wS at *;go_wp2
 (try simp only [Exit.inBlock,Exit.then])
 exact aA (v:=.tuple #[file p _,.int .i64 0]) (results_new (p:=4) (r:=5) rfl _ _ w.heap.size p _ 0 rfl rfl RR) rfl (E _ _ O6 B6)
end Fl
namespace Fl
open Go.Shelf
attribute [local go_sem] Oper.semAt_some
def byt (r:R4):Nat->Int
 | 0=>r.1
 | 1=>r.2.1
 | 2=>r.2.2.1
 | _=>r.2.2.2
def bump (r:R4):Nat->R4
 | 0=>(IntKind.u8.wrap (r.1+1),r.2.1,r.2.2.1,r.2.2.2)
 | 1=>(r.1,IntKind.u8.wrap (r.2.1+1),r.2.2.1,r.2.2.2)
 | 2=>(r.1,r.2.1,IntKind.u8.wrap (r.2.2.1+1),r.2.2.2)
 | _=>(r.1,r.2.1,r.2.2.1,IntKind.u8.wrap (r.2.2.2+1))
def over (r:R4) (l:List Nat):R4:=l.foldl bump r
def zs:R4->List Nat->Prop
 | _,[]=>True
 | r,i :: t=>byt (bump r i) i=0/\zs (bump r i) t
theorem over_snoc (r:R4) (l:List Nat) (i:Nat):over r (l ++ [i])=bump (over r l) i:=by simp [over]
theorem zs_snoc:∀ (l:List Nat) (r:R4) (i:Nat),zs r l->byt (over r (l ++ [i])) i=0->zs r (l ++ [i])
 | [],_,_,_,h=>⟨h,trivial⟩
 | j :: l,r,i,h,hb=>⟨h.1,zs_snoc l (bump r j) i h.2 hb⟩
theorem wrap8 (x:Int):IntKind.u8.wrap x=x % 256:=by simp [IntKind.wrap,IntKind.signed,IntKind.bits]
def dn:List Nat:=[3,2,1,0]
variable {r q:R4}
theorem inc_of (hq:okR q) (h:num r+1=num q\/num r+1=num q+4294967296):q=inc r:=by
 obtain ⟨⟨a0,a1⟩,⟨b0,b1⟩,⟨c0,c1⟩,d0,d1⟩:=hq;have e:(num r+1) % 4294967296=num q:=by unfold num at *;omega
 unfold inc;rw [e];unfold bytes num;refine Prod.ext ?_ (Prod.ext ?_ (Prod.ext ?_ ?_)) <;> simp only <;> omega
theorem over_all (hr:okR r) (h:zs r dn):over r dn=inc r:=by
 obtain ⟨⟨a0,a1⟩,⟨b0,b1⟩,⟨c0,c1⟩,d0,d1⟩:=hr;obtain ⟨h3,h2,h1,h0,_⟩:=h;simp only [byt,bump,wrap8] at h0 h1 h2 h3;refine inc_of ?_ ?_
 ·simp only [over,dn,aK,aD,bump,wrap8,okR]
  refine ⟨⟨?_,?_⟩,⟨?_,?_⟩,⟨?_,?_⟩,?_,?_⟩ <;> omega
 ·simp only [over,dn,aK,aD,bump,wrap8,num]
  omega
variable {i k Bs b m:Nat}
theorem over_stop (hr:okR r) {ini:List Nat} (hk:k < 4) (e:ini ++ [i]=dn.take (k+1)) (h:zs r ini) (hb:byt (over r (ini ++ [i])) i≠0):over r (ini ++ [i])=inc r:=by
 obtain ⟨⟨a0,a1⟩,⟨b0,b1⟩,⟨c0,c1⟩,d0,d1⟩:=hr
 rcases (by omega:k=0\/k=1\/k=2\/k=3) with rfl | rfl | rfl | rfl
 all_goals
  simp only [dn,List.take_succ_cons,List.take_zero] at e
 ·obtain ⟨rfl,e2⟩:=List.append_inj' (show ini ++ [i] = [] ++ [3] from e) rfl
  obtain rfl:i=3:=by simpa using e2
  simp only [over,bz,aK,aD,byt,bump,wrap8] at hb;refine inc_of ?_ ?_
  ·simp only [over,bz,aK,aD,bump,wrap8,okR]
   refine ⟨⟨?_,?_⟩,⟨?_,?_⟩,⟨?_,?_⟩,?_,?_⟩ <;> omega
  ·simp only [over,bz,aK,aD,bump,wrap8,num]
   omega
 ·obtain ⟨rfl,e2⟩:=List.append_inj' (show ini ++ [i] = [3] ++ [2] from e) rfl
  obtain rfl:i=2:=by simpa using e2
  obtain ⟨h3,_⟩:=h;simp only [over,bz,bN,aK,aD,byt,bump,wrap8] at hb h3;refine inc_of ?_ ?_
  ·simp only [over,bz,bN,aK,aD,bump,wrap8,okR]
   refine ⟨⟨?_,?_⟩,⟨?_,?_⟩,⟨?_,?_⟩,?_,?_⟩ <;> omega
  ·simp only [over,bz,bN,aK,aD,bump,wrap8,num]
   omega
 ·obtain ⟨rfl,e2⟩:=List.append_inj' (show ini ++ [i] = [3,2] ++ [1] from e) rfl
  obtain rfl:i=1:=by simpa using e2
  obtain ⟨h3,h2,_⟩:=h;simp only [over,bz,bN,aK,aD,byt,bump,wrap8] at hb h3 h2;refine inc_of ?_ ?_
  ·simp only [over,bz,bN,aK,aD,bump,wrap8,okR]
   refine ⟨⟨?_,?_⟩,⟨?_,?_⟩,⟨?_,?_⟩,?_,?_⟩ <;> omega
  ·simp only [over,bz,bN,aK,aD,bump,wrap8,num]
   omega
 ·obtain ⟨rfl,e2⟩:=List.append_inj' (show ini ++ [i] = [3,2,1] ++ [0] from e) rfl
  obtain rfl:i=0:=by simpa using e2
  obtain ⟨h3,h2,h1,_⟩:=h;simp only [over,bz,bN,aK,aD,byt,bump,wrap8] at hb h3 h2 h1;refine inc_of ?_ ?_
  ·simp only [over,bz,bN,aK,aD,bump,wrap8,okR]
   refine ⟨⟨?_,?_⟩,⟨?_,?_⟩,⟨?_,?_⟩,?_,?_⟩ <;> omega
  ·simp only [over,bz,bN,aK,aD,bump,wrap8,num]
   omega
def arr (r:R4):Array Value:=#[.int .u8 r.1,.int .u8 r.2.1,.int .u8 r.2.2.1,.int .u8 r.2.2.2]
def RowAt (W:World) (b:Nat) (r:R4):Prop:=W.heap[b]? = some (.cells (arr r) 36 (0,0))
def BoxAt (W:World) (Bs b:Nat):Prop:=W.heap[Bs]? = some (.cells #[.slice (some ⟨b,0,none⟩) 4 4] 34 (0,0))
def Kp (Bs b:Nat) (W W':World):Prop:=(BoxAt W Bs b->BoxAt W' Bs b)/\((∃ r,RowAt W b r)->∃ r,RowAt W' b r)
theorem Kp.refl (Bs b:Nat) (W:World):Kp Bs b W W:=⟨id,id⟩
theorem Kp.trans {A B C:World} (h:Kp Bs b A B) (k:Kp Bs b B C):Kp Bs b A C:=⟨fun x=>k.1 (h.1 x),fun x=>k.2 (h.2 x)⟩
theorem row_cellN {W:World} (h:RowAt W b r) (hm:m < 4):W.cell? ⟨b,m,none⟩=some (.int .u8 (byt r m)):=by
 rw [bi W b m (arr r) _ (0,0) h]
 rcases (by omega:m=0\/m=1\/m=2\/m=3) with rfl | rfl | rfl | rfl <;> rfl
theorem Kp.put (hBs:Bs < w.heap.size) (hb:b < w.heap.size) (W:World) (l:Nat) (o o':Obj) (hl:w.heap.size<=l) (_:W.heap[l]? = some o) (_:o.isCells=false) (_:o.isWalk=false):Kp Bs b W (W.putObj l o') :=
 ⟨fun h=>(cY (by omega)).trans h,fun ⟨r,h⟩=>⟨r,(cY (by omega)).trans h⟩⟩
abbrev Rnd:=Fin 4×Int
def ixs (l:List Rnd):List Nat:=l.map (·.1.val)
set_option maxRecDepth 100000 in
theorem back1_in (F:Fence) (n:Nat) (hf:F.fn 182) (hro:F.round=none) (hn:1<=n) (l Bs b:Nat) (J Jx:List Rnd->World->Prop)
 (hY:∀ pre x W,J pre W->pre.length < 4->YieldAt F (n - 1) prog l #[.int .i64 (x.1.val:Int),.int .u8 x.2] W fun e W' =>
   (e = .returned (.bool true)/\J (pre ++ [x]) W'/\Kp Bs b W W')\/(e = .returned (.bool false)/\Jx (pre ++ [x]) W'))
 (W:World) (hBs:BoxAt W Bs b) (hb:∃ r,RowAt W b r) (h0:J [] W) :
 CallsIn F n prog 182 #[.func (.yield l) #[] #[],.pointer (some ⟨Bs,0,none⟩)] W fun e W'=>(∃ v,e = .returned v) /\
  ((∃ ys,ixs ys=dn/\J ys W')\/(∃ pre,(∃ k,k < 4/\ixs pre=dn.take (k+1))/\Jx pre W')):=by
 refine callsIn_of_wp func182 rfl hf ?_ hro;have c0:=Fl.rc hBs 0;simp only [ntmps182,cK,cj,df,Nat.reduceAdd,Nat.reduceSub,Array.replicate_succ,Array.replicate_zero,List.push_toArray,List.append_toArray,bz,bN]
 gi_wp2
 gi_loopw [3] (fun i wr=>∃ (m:Nat) (pre:List Rnd),pre.length+m=4/\i = .int .i64 ((m:Int) - 1)/\ixs pre=dn.take (4 - m)/\J pre wr/\Kp Bs b W wr)
  (fun i _=>(intOf i+1).toNat)
 case atStart=>exact ⟨4,[],rfl,rfl,rfl,h0,Kp.refl _ _ _⟩
 case round =>
  obtain ⟨m,pre,hl,rfl,hp,hJs,hK⟩:=hrel;have b0:=Fl.rc (hK.1 hBs) 0;obtain ⟨r,hr⟩:=hK.2 hb
  rcases m with _ | m
  ·rw [show ((0:Nat):Int) - 1 = -1 from rfl]
   gi_wp2
   go_end0
   exact ⟨⟨_,rfl⟩,.inl ⟨_,hp,hJs⟩⟩
  ·have hm:m < 4:=by omega
   rw [show ((m+1:Nat):Int) - 1=m by omega];have hc:=row_cellN hr hm;obtain ⟨fn,tmps,assign,body,hy,hR⟩:=hY pre (⟨m,hm⟩,byt r m) wr hJs (by omega);dsimp only at hy;have hpp:ixs (pre ++ [((⟨m,hm⟩,byt r m):Rnd)])=dn.take (4 - m):=by
    unfold ixs at *;rw [cA,hp]
    rcases (by omega:m=0\/m=1\/m=2\/m=3) with rfl | rfl | rfl | rfl <;> rfl
   gi_wp2
   refine hR.mono ?_;rintro e W3 (⟨rfl,hJ3,hk3⟩ | ⟨rfl,hJx3⟩)
   ·gi_wp2
    go_roundw
    case rel=>exact ⟨m,_,by rw [bj];simp only [cj,df];omega,by first | rfl | go_num,hpp,hJ3,hK.trans hk3⟩
    case measure=>simp [intOf] <;> omega
   ·gi_wp2
    refine aA (results_none rfl _ _ _) rfl ?_;exact ⟨⟨_,rfl⟩,.inr ⟨_,⟨3 - m,by omega,by rw [hpp];congr 1;omega⟩,hJx3⟩⟩
theorem back_in (F:Fence) (n:Nat) (hf:F.fn 160) (hro:F.round=none) (a:Option Addr) (len cap:Nat) (w:World) :
 CallsIn F n prog 160 #[.slice a len cap] w fun e w'=>e = .returned (.func (.func 182) #[] #[.pointer (some ⟨w.heap.size,0,none⟩)])/\w'=w.alloc (.cells #[.slice a len cap] 34):=by
 refine callsIn_of_wp func160 rfl hf ?_ hro;simp only [ntmps160,cK,cj,df,Nat.reduceAdd,Nat.reduceSub,Array.replicate_succ,Array.replicate_zero,List.push_toArray,List.append_toArray,bz,bN]
 gi_wp2
 go_ret
 exact ⟨rfl,rfl⟩
theorem back_stops (F:Fence) (n:Nat) (hf:F.fn 182) (hro:F.round=none) (hn:1<=n) (Bs b:Nat) (w:World) (hBs:BoxAt w Bs b) (hb:∃ r,RowAt w b r) :
 SeqStopsK F n prog 182 #[.pointer (some ⟨Bs,0,none⟩)] (fun x:Rnd=>#[Value.int .i64 (x.1.val:Int),Value.int .u8 x.2]) (Kp Bs b) (fun ys=>ixs ys=dn) (fun pre=>∃ k,k < 4/\ixs pre=dn.take (k+1)) 4 w:=fun l J Jx W hW _ _ hY h0 =>
 back1_in F n hf hro hn l Bs b J Jx hY W (bBl hW hBs) (by obtain ⟨r,h⟩:=hb;exact ⟨r,bBl hW h⟩) h0
end Fl
namespace Fl
open Go.Shelf
attribute [local go_sem] Oper.semAt_some
variable {A B W:World} {row:Option Nat} {g b i:Nat} {cs:Array Value} {t:TypeId}
theorem row_kept (h:A.heap[g]? = some (.cells cs t (0,0))) (hg:A.grownBy B row) (hr:∀ r,row=some r->∃ o:Obj,A.heap[r]? = some o/\o.isCells=false):B.heap[g]? = some (.cells cs t (0,0)) :=
 (grownBy_keeps_cells hg hr h rfl).trans h
structure Mid (w:World) (r q:R4) (W:World):Prop where
 row:RowAt W w.heap.size q
 res:RowAt W (w.heap.size+1) z4
 box:BoxAt W (w.heap.size+2) w.heap.size
 bel:Below w.heap.size w W
variable {r q:R4}
theorem Mid.own (h:Mid w r q A) (hg:A.grownBy B row) (hr:∀ x,row=some x->w.heap.size+3<=x/\∃ o:Obj,A.heap[x]? = some o/\o.isCells=false):Mid w r q B :=
 ⟨row_kept h.row hg fun x e=>(hr x e).2,row_kept h.res hg fun x e=>(hr x e).2,row_kept h.box hg fun x e=>(hr x e).2,h.bel.grown hg h.bel.size fun k e=>by have:=(hr k e).1;omega⟩
theorem byt_put (h:RowAt W b q):∀ i,i < 4->RowAt (W.setCell ⟨b,i,none⟩ (.int .u8 ((byt q i+1) % 256))) b (bump q i):=fun i hi=>by
 have:=Rw.heap_setCell_same (j:=i) h (.int .u8 ((byt q i+1) % 256));rw [← wrap8] at this ⊢
 rcases (by omega:i=0\/i=1\/i=2\/i=3) with rfl | rfl | rfl | rfl <;> exact this
theorem row_setOther {v:Value} (h:W.heap[g]? = some (.cells cs t (0,0))) (hne:g≠b):(W.setCell ⟨b,i,none⟩ v).heap[g]? = some (.cells cs t (0,0)):=(aH W ⟨b,i,none⟩ v g hne).trans h
theorem Mid.step (h:Mid w r q W) (hi:i < 4):Mid w r (bump q i) (W.setCell ⟨w.heap.size,i,none⟩ (.int .u8 ((byt q i+1) % 256))) :=
 ⟨byt_put h.row i hi,row_setOther h.res (by omega),row_setOther h.box (by omega),h.bel.setCell (p:=⟨w.heap.size,i,none⟩) (ac _) _⟩
theorem byt_bump (q:R4) (i:Nat) (hi:i < 4):byt (bump q i) i=(byt q i+1) % 256:=by
 rw [← wrap8]
 rcases (by omega:i=0\/i=1\/i=2\/i=3) with rfl | rfl | rfl | rfl <;> rfl
theorem res_put (h:RowAt W b z4):RowAt ((((W.setCell ⟨b,0,none⟩ (.int .u8 (byt q 0))).setCell ⟨b,1,none⟩ (.int .u8 (byt q 1))).setCell ⟨b,2,none⟩ (.int .u8 (byt q 2))).setCell ⟨b,3,none⟩ (.int .u8 (byt q 3))) b q :=
 Rw.heap_setCell_same (Rw.heap_setCell_same (Rw.heap_setCell_same (Rw.heap_setCell_same h _) _) _) _
theorem oth_put {o:Obj} (h:W.heap[g]? = some o) (hne:g≠b):((((W.setCell ⟨b,0,none⟩ (.int .u8 (byt q 0))).setCell ⟨b,1,none⟩ (.int .u8 (byt q 1))).setCell ⟨b,2,none⟩ (.int .u8 (byt q 2))).setCell ⟨b,3,none⟩ (.int .u8 (byt q 3))).heap[g]? = some o :=
 (aH _ _ _ _ hne).trans ((aH _ _ _ _ hne).trans ((aH _ _ _ _ hne).trans ((aH _ _ _ _ hne).trans h)))
theorem bel_put (h:Below w.heap.size w W) (hb:w.heap.size<=b):Below w.heap.size w ((((W.setCell ⟨b,0,none⟩ (.int .u8 (byt q 0))).setCell ⟨b,1,none⟩ (.int .u8 (byt q 1))).setCell ⟨b,2,none⟩ (.int .u8 (byt q 2))).setCell ⟨b,3,none⟩ (.int .u8 (byt q 3))) :=
 (((h.setCell (p:=⟨b,0,none⟩) hb _).setCell (p:=⟨b,1,none⟩) hb _).setCell (p:=⟨b,2,none⟩) hb _).setCell (p:=⟨b,3,none⟩) hb _
set_option maxRecDepth 100000 in
theorem one_in (F:Fence) (n:Nat) (h1:F.fn 128) (h2:F.fn 160) (h3:F.fn 182) (hro:F.round=none) (hn:3<=n) (w:World) (r:R4) (hr:okR r) :
 CallsIn F n prog 128 #[rec4 r] w fun e W'=>e = .returned (rec4 (inc r))/\Below w.heap.size w W':=by
 have hn1:1<=n:=by omega
 unfold rec4;refine callsIn_of_wp_marks func128 rfl h1 ?_ hro;simp only [ntmps128,cK,cj,df,Nat.reduceAdd,Nat.reduceSub,Array.replicate_succ,Array.replicate_zero,List.push_toArray,List.append_toArray,bz,bN]
 gi_wp2_with (gi_at_call 160;refine (back_in F (n - 1) h2 hro _ _ _ _).mono ?_;rintro e w' ⟨rfl,rfl⟩)
 obtain ⟨W0,hW0⟩:∃ W0,((w.alloc (.cells #[.int .u8 r.1,.int .u8 r.2.1,.int .u8 r.2.2.1,.int .u8 r.2.2.2] 36)).alloc (.cells #[.int .u8 0,.int .u8 0,.int .u8 0,.int .u8 0] 36)).alloc (.cells #[.slice (some ⟨w.heap.size,0,none⟩) 4 4] 34)=W0:=⟨_,rfl⟩;have M0:Mid w r r W0:=by
  have z1:∀ o,(w.alloc o).heap.size=w.heap.size+1:=fun o=>by simp
  have z2:∀ o o',((w.alloc o).alloc o').heap.size=w.heap.size+2:=fun o o'=>by simp
  subst hW0;refine ⟨?_,?_,?_,(((aa w.heap.size w).alloc (ac _) _).alloc (by simp) _).alloc (by simp;omega) _⟩
  ·exact (aQ _ _ _ (by rw [z2];omega)).trans ((aQ _ _ _ (by rw [z1];omega)).trans (am w _))
  ·have:=am (w.alloc (.cells #[.int .u8 r.1,.int .u8 r.2.1,.int .u8 r.2.2.1,.int .u8 r.2.2.2] 36)) (.cells #[.int .u8 0,.int .u8 0,.int .u8 0,.int .u8 0] 36)
   rw [z1] at this;exact (aQ _ _ _ (by rw [z2];omega)).trans this
  ·have:=am ((w.alloc (.cells #[.int .u8 r.1,.int .u8 r.2.1,.int .u8 r.2.2.1,.int .u8 r.2.2.2] 36)).alloc (.cells #[.int .u8 0,.int .u8 0,.int .u8 0,.int .u8 0] 36)) (.cells #[.slice (some ⟨w.heap.size,0,none⟩) 4 4] 34)
   rw [z2] at this;exact this
 have hsz:W0.heap.size=w.heap.size+3:=by rw [← hW0];simp
 rw [hW0];refine wpIn_rangeFunc_ownG hro hn1 (gf:=182) (lb:=#[.pointer (some ⟨w.heap.size+2,0,none⟩)]) rfl h3 (enters_of func182 (by kernel_rfl) rfl)
  (back_stops F (n - 1) h3 hro (by omega) (w.heap.size+2) w.heap.size W0 M0.box ⟨_,M0.row⟩) (fun h k=>Kp.trans h k) (Kp.put (by omega) (by omega)) (aa _ _) (fun _=>rfl)
  (fun pre W=>zs r (ixs pre)/\Mid w r (over r (ixs pre)) W)
  (fun c pre W=>c = .exit 0/\∃ ini i,ixs pre=ini ++ [i]/\zs r ini/\byt (over r (ini ++ [i])) i≠0/\Mid w r (over r (ini ++ [i])) W)
  (fun s A B row hs hg hr=>⟨hs.1,hs.2.own hg (by rw [← hsz];exact hr)⟩)
  (fun c s A B row hs hg hr=>by obtain ⟨h1,ini,i,e1,e2,e3,e4⟩:=hs;exact ⟨h1,ini,i,e1,e2,e3,e4.own hg (by rw [← hsz];exact hr)⟩)
  ⟨trivial,M0⟩
  (fun x=>{ tmps:=#[.agg #[.int .u8 r.1,.int .u8 r.2.1,.int .u8 r.2.2.1,.int .u8 r.2.2.2],.pointer (some ⟨w.heap.size,0,none⟩),.pointer (some ⟨w.heap.size+1,0,none⟩),.int .i64 (x.1.val:Int),.slice (some ⟨w.heap.size,0,none⟩) 4 4,.func (.func 182) #[] #[.pointer (some ⟨w.heap.size+2,0,none⟩)],.int .i64 (x.1.val:Int),.int .u8 x.2,undef,undef,undef,undef,undef,undef,undef,undef,undef,undef],defers:=[] }) ?assign ?body ?done ?stop
 case assign =>
  intro l x W K hK
  gi_wp2
  exact hK
 case body =>
  rintro l pre ⟨⟨i,hi⟩,v⟩ W ⟨hz,M⟩ _;have hc:=row_cellN M.row hi;have hf:=row_frozen M.row i;have MS:=Hh (M.step hi);have ei:ixs (pre ++ [((⟨i,hi⟩,v):Rnd)])=ixs pre ++ [i]:=by simp [ixs]
  have e1:=over_snoc r (ixs pre) i;have e2:=byt_bump (over r (ixs pre)) i hi;have hne:=Hh (bT ei (bT e1 e2));have HZ:=Hh (bT hz (zs_snoc (ixs pre) r i hz));clear ei e1 e2 hz;have Y:=hi
  rcases (by omega:i=0\/i=1\/i=2\/i=3) with rfl | rfl | rfl | rfl
  all_goals gi_wp2
  all_goals obtain ⟨ei,e1,e2⟩:=hne
  ·exact ⟨(bX _ _ _).from _,rfl,_,_,ei,HZ.out.1,by rw [e1,e2];first | assumption | (rename_i hx;simpa using hx),by rw [e1];exact MS.out⟩
  ·exact ⟨(bX _ _ _).from _,⟨fun _=>MS.box,fun _=>⟨_,MS.row⟩⟩,by rw [ei];exact HZ.out.2 (by rw [e1,e2];first | assumption | (rename_i hx;simpa using hx)),by rw [ei,e1];exact MS.out⟩
  ·exact ⟨(bX _ _ _).from _,rfl,_,_,ei,HZ.out.1,by rw [e1,e2];first | assumption | (rename_i hx;simpa using hx),by rw [e1];exact MS.out⟩
  ·exact ⟨(bX _ _ _).from _,⟨fun _=>MS.box,fun _=>⟨_,MS.row⟩⟩,by rw [ei];exact HZ.out.2 (by rw [e1,e2];first | assumption | (rename_i hx;simpa using hx)),by rw [ei,e1];exact MS.out⟩
  ·exact ⟨(bX _ _ _).from _,rfl,_,_,ei,HZ.out.1,by rw [e1,e2];first | assumption | (rename_i hx;simpa using hx),by rw [e1];exact MS.out⟩
  ·exact ⟨(bX _ _ _).from _,⟨fun _=>MS.box,fun _=>⟨_,MS.row⟩⟩,by rw [ei];exact HZ.out.2 (by rw [e1,e2];first | assumption | (rename_i hx;simpa using hx)),by rw [ei,e1];exact MS.out⟩
  ·exact ⟨(bX _ _ _).from _,rfl,_,_,ei,HZ.out.1,by rw [e1,e2];first | assumption | (rename_i hx;simpa using hx),by rw [e1];exact MS.out⟩
  ·exact ⟨(bX _ _ _).from _,⟨fun _=>MS.box,fun _=>⟨_,MS.row⟩⟩,by rw [ei];exact HZ.out.2 (by rw [e1,e2];first | assumption | (rename_i hx;simpa using hx)),by rw [ei,e1];exact MS.out⟩
 case done =>
  rintro D ys W hD hys ⟨hz,M⟩ hK;rw [hys] at hz M;rw [over_all hr hz] at M;have hc0:=row_cellN M.row (m:=0) (by omega);have hc1:=row_cellN M.row (m:=1) (by omega);have hc2:=row_cellN M.row (m:=2) (by omega);have hc3:=row_cellN M.row (m:=3) (by omega);have d0:=row_cellN M.res (m:=0) (by omega);have d1:=row_cellN M.res (m:=1) (by omega);have d2:=row_cellN M.res (m:=2) (by omega);have d3:=row_cellN M.res (m:=3) (by omega);obtain ⟨f0,f1,f2,f3⟩:=fz4 M.res
  gi_wp2
  have hK':=oth_put (b:=w.heap.size+1) (q:=inc r) hK (by omega);have RR:=res_put (q:=inc r) M.res;refine ⟨by simp,.inl ⟨_,_,rfl,run_takeDeferred hK',?_⟩⟩;refine ⟨_,results_cell_row (p:=2) rfl _ _ (w.heap.size+1) 36 (arr (inc r)) (0,0) _ rfl ((cY (by omega)).trans RR) underlying36 rfl (by show _=some 4;kernel_rfl),rfl,?_⟩;exact (bel_put M.bel (by omega)).trans ((belowK_b (w:=w) (ac _) _ D _ _ (by omega) hK' rfl rfl))
 case stop =>
  rintro D c pre W hD ⟨k,hk,e⟩ ⟨rfl,ini,i,e1,e2,e3,M⟩ hK;rw [over_stop hr hk (e1.symm.trans e) e2 e3] at M;have hc0:=row_cellN M.row (m:=0) (by omega);have hc1:=row_cellN M.row (m:=1) (by omega);have hc2:=row_cellN M.row (m:=2) (by omega);have hc3:=row_cellN M.row (m:=3) (by omega);have d0:=row_cellN M.res (m:=0) (by omega);have d1:=row_cellN M.res (m:=1) (by omega);have d2:=row_cellN M.res (m:=2) (by omega);have d3:=row_cellN M.res (m:=3) (by omega);obtain ⟨f0,f1,f2,f3⟩:=fz4 M.res
  gi_wp2
  have hK':=oth_put (b:=w.heap.size+1) (q:=inc r) hK (by omega);have RR:=res_put (q:=inc r) M.res;refine ⟨by simp,.inl ⟨_,_,rfl,run_takeDeferred hK',?_⟩⟩;refine ⟨_,results_cell_row (p:=2) rfl _ _ (w.heap.size+1) 36 (arr (inc r)) (0,0) _ rfl ((cY (by omega)).trans RR) underlying36 rfl (by show _=some 4;kernel_rfl),rfl,?_⟩;exact (bel_put M.bel (by omega)).trans ((belowK_b (w:=w) (ac _) _ D _ _ (by omega) hK' rfl rfl))
theorem one_any (w:World) (r:R4) (hr:okR r):Calls prog 128 #[rec4 r] w fun e w'=>e = .returned (rec4 (inc r))/\Below w.heap.size w w' :=
 (callsIn_wide (n:=3)).1 (one_in Fence.wide 3 trivial trivial trivial rfl (ac _) w r hr)
end Fl
namespace Sz
open Sd (light light_value picks)
open Sc (In)
def wpAnyZ (P:Program) (md:Region.Mode) (ops:Array Oper) (Q:Exit->Act->World->Prop) (S:World->Prop) (z:Nat):Nat->Array Bool->Act->World->Prop
 | 0,listed,a,w=>Region.ready md ops listed = []/\Q .normal a w
 | fuel+1,listed,a,w =>
   (Region.ready md ops listed = []->Q .normal a w) /\
   ∀ i∈Region.ready md ops listed,wpOp P ops Q i (fun a' w'=>(i=z\/S w')/\wpAnyZ P md ops Q S z fuel (listed.setIfInBounds i true) a' w') a w
section
variable {P:Program} {md:Region.Mode} {ops:Array Oper} {Q:Exit->Act->World->Prop} {S:World->Prop} {z:Nat}
theorem any_of:∀ (fuel:Nat) (listed:Array Bool) (a:Act) (w:World),wpAnyZ P md ops Q S z fuel listed a w->wpAny P md ops Q fuel listed a w
 | 0,_,_,_,h=>h
 | fuel+1,_,_,_,h=>⟨h.1,fun i hi=>wpOp_mono (fun a' w' h'=>any_of fuel _ a' w' h'.2) (h.2 i hi)⟩
def Blocks (md:Region.Mode) (ops:Array Oper) (z i:Nat) (listed:Array Bool):Prop:=∃ oz e,ops[z]? = some oz/\e∈oz.after/\Region.binds md e=true/\listed.getD e.on true=false/\(e.on=i\/∃ ok,ops[e.on]? = some ok/\∃ e'∈ok.after,Region.binds md e'=true/\e'.on=i)
theorem first {i:Nat} {oi:Oper} {v:Value} (hi:ops[i]? = some oi) (hsel:∀ (j:Nat) (o:Oper) cs b,ops[j]? = some o->o.op≠.select cs b)
 (hQ:∀ c a w,Q (.panic c) (a.put oi.dst v) w->Q (.panic c) a w) :
 ∀ (fuel:Nat) (listed:Array Bool) (a:Act) (w:World),Blocks md ops z i listed ->
  (∀ j oj,ops[j]? = some oj->j≠i->listed.getD j true=false->(∀ e∈oj.after,Region.binds md e=true->e.on≠i)->oi.apart ops oj=true) ->
  i∈Region.ready md ops listed->YieldsIf P ops S oi v a->S w ->
  wpAnyZ P md ops Q S z fuel (listed.setIfInBounds i true) (a.put oi.dst v) w->wpAnyZ P md ops Q S z (fuel+1) listed a w:=by
 intro fuel
 induction fuel with
 | zero =>
   intro listed a w _ _ hr hy hS H
   refine ⟨fun h=>(by rw [h] at hr;cases hr),fun j hj=>?_⟩
   by_cases hji:j=i
   ·subst hji;exact hy.wpOp hi hS ⟨.inr hS,H⟩
   ·have:=ready_mono hj hji
    rw [H.1] at this
    cases this
 | succ fuel ih =>
   intro listed a w hz hfree hr hy hS H
   refine ⟨fun h=>(by rw [h] at hr;cases hr),fun j hj=>?_⟩
   by_cases hji:j=i
   ·subst hji;exact hy.wpOp hi hS ⟨.inr hS,H⟩
   ·have h1:=H.2 j (ready_mono hj hji)
    obtain ⟨hjun,oj,hoj,hall⟩:=mem_ready.1 hj;have hnot:∀ e∈oj.after,Region.binds md e=true->e.on≠i:=fun e he hb heq=>by
     have h1:=hall e he hb;have h0:=(mem_ready.1 hr).1;rw [heq] at h1
     rcases cM i listed.size with h' | h'
     ·simp [h'] at h0 h1;rw [h0] at h1;cases h1
     ·simp [Array.getElem?_eq_none h'] at h1
    obtain ⟨oz,ez,hoz,hez,hbz,hnl,hor⟩:=hz;have low:∀ {k:Nat},listed.getD k true=false->listed.getD k false=false:=fun {k} h=>by
     rcases cM k listed.size with h' | h'
     ·simp [h'] at h ⊢;exact h
     ·simp [Array.getElem?_eq_none h'] at h
    have hjz:j≠z:=fun e=>by
     subst e;rw [hoj] at hoz;obtain rfl:=bh hoz;have:=hall ez hez hbz;rw [low hnl] at this
     cases this
    have hje:j≠ez.on:=fun e=>by
     rcases hor with h | ⟨ok,hok,e',he',hb',hon⟩
     ·exact hji (e.trans h)
     ·rw [← e,hoj] at hok
      obtain rfl:=bh hok;exact hnot e' he' hb' hon
    have hz':Blocks md ops z i (listed.setIfInBounds j true):=⟨oz,ez,hoz,hez,hbz,by rw [getD_set_ne true hje];exact hnl,hor⟩;have h2:=wpOp_putIf hoj (hfree j oj hoj hji hjun hnot) (fun cs b=>hsel i oi cs b hi) (fun cs b=>hsel j oj cs b hoj) hQ hy h1;have hfree':∀ k ok,ops[k]? = some ok->k≠i->(listed.setIfInBounds j true).getD k true=false ->
     (∀ e∈ok.after,Region.binds md e=true->e.on≠i)->oi.apart ops ok=true:=fun k ok hk hki hun hno=>by
     refine hfree k ok hk hki ?_ hno
     by_cases hjk:j=k
     ·subst hjk;exact hjun
     ·rw [getD_set_ne true hjk] at hun;exact hun
    refine wpOp_mono (fun a' w' h3=>?_) h2;have hS':=h3.2.1.resolve_left hjz;refine ⟨.inr hS',ih (listed.setIfInBounds j true) a' w' hz' hfree' (ready_mono hr (Ne.symm hji)) h3.1 hS' ?_⟩;rw [cW _ _ hji];exact h3.2.2
variable {listed:Array Bool} {a:Act}
theorem fin (hr:Region.ready md ops listed = []) (h:Q .normal a w) :
 ∀ fuel,wpAnyZ P md ops Q S z fuel listed a w
 | 0=>⟨hr,h⟩
 | _+1=>⟨fun _=>h,by rw [hr];simp⟩
theorem all {rs:List Nat} {fuel:Nat} (hr:Region.ready md ops listed=rs) (hne:rs≠[])
 (h:∀ i∈rs,wpOp P ops Q i (fun a' w'=>(i=z\/S w')/\wpAnyZ P md ops Q S z fuel (listed.setIfInBounds i true) a' w') a w):wpAnyZ P md ops Q S z (fuel+1) listed a w :=
 ⟨fun h0=>absurd (hr ▸ h0) hne,hr ▸ h⟩
end
def blocksB (ops:Array Oper) (z i:Nat) (listed:Array Bool):Bool:=match ops[z]? with
 | some oz=>oz.after.any fun e=>Region.binds .any e && !listed.getD e.on true && (e.on == i || match ops[e.on]? with
   | some ok=>ok.after.any fun e'=>Region.binds .any e' && e'.on == i
   | none=>false)
 | none=>false
theorem blocks_of {ops:Array Oper} {z i:Nat} {listed:Array Bool} (h:blocksB ops z i listed=true):Blocks .any ops z i listed:=by
 unfold blocksB at h
 cases ho:ops[z]? with
 | none=>rw [ho] at h;cases h
 | some oz =>
   rw [ho] at h;obtain ⟨e,he,hb⟩:=Array.any_eq_true'.1 h;simp only [aG,Bool.not_eq_true',Bool.or_eq_true,beq_iff_eq] at hb;obtain ⟨⟨hb1,hb2⟩,hb3⟩:=hb;refine ⟨oz,e,ho,he,hb1,hb2,?_⟩
   rcases hb3 with h3 | h3
   ·exact .inl h3
   ·cases hk:ops[e.on]? with
    | none=>rw [hk] at h3;cases h3
    | some ok =>
      rw [hk] at h3;obtain ⟨e',he',hb'⟩:=Array.any_eq_true'.1 h3;simp only [aG,beq_iff_eq] at hb';exact .inr ⟨ok,rfl,e',he',hb'.1,hb'.2⟩
def good (ops:Array Oper) (z:Nat):List (Bool×Nat)->Array Bool->Nat->Bool
 | _,_,0=>false
 | [],listed,_+1=>Region.ready .any ops listed == [z] && (Region.ready .any ops (listed.setIfInBounds z true)).isEmpty
 | (h,i) :: r,listed,fuel+1 =>
   (match ops[i]? with
    | some o=>i != z && (if h then Region.ready .any ops listed == [i] else light o.op && Region.free .any ops listed i && (Region.ready .any ops listed).contains i && blocksB ops z i listed)
    | none=>false) && good ops z r (listed.setIfInBounds i true) fuel
def wpSz (P:Program) (ops:Array Oper) (C:World->Prop) (Q:Exit->Act->World->Prop) (E:Act->World->Prop):List (Bool×Oper)->Act->World->Prop
 | [],a,w=>E a w
 | (false,o) :: r,a,w=>wpQuiet P ops C (fun a'=>wpSz P ops C Q E r a' w) [o] a
 | (true,o) :: r,a,w=>if Region.wanted o (yielded ops a.tmps) then o.wp P a w (fun a' w'=>C w'/\wpSz P ops C Q E r a' w') Q else wpSz P ops C Q E r (a.put o.dst undef) w
theorem sound {P:Program} {l:List Oper} {C:World->Prop} {Q:Exit->Act->World->Prop} {z:Nat} {oz:Oper} (hs:Region.noSelect l.toArray=true) (hQ:∀ c d v a w,Q (.panic c) (Act.put a d v) w->Q (.panic c) a w)
 (hoz:l[z]? = some oz) (hgd:oz.guard=none) :
 ∀ (sc:List (Bool×Nat)) (listed:Array Bool) (fuel:Nat) (a:Act) (w:World),good l.toArray z sc listed fuel=true->C w->wpSz P l.toArray C Q (fun a w=>oz.wp P a w (fun a' w'=>Q .normal a' w') Q) (picks l sc) a w->wpAnyZ P .any l.toArray Q C z fuel listed a w
 | [],listed,0,a,w,hg,_,h=>by cases hg
 | [],listed,fuel+1,a,w,hg,_,h=>by
   unfold good at hg;simp only [aG,beq_iff_eq,List.isEmpty_iff] at hg;refine all hg.1 (by simp) fun j hj=>?_;obtain rfl:j=z:=by simpa using hj
   have hop:l.toArray[j]? = some oz:=by rw [cy];exact hoz
   unfold wpOp;simp only [hop];rw [aj (by simp [Region.wanted,hgd])];exact .inl (Oper.wp_mono (fun a' w' k=>⟨by simp,fin hg.2 k fuel⟩) h)
 | _ :: _,_,0,_,_,hg,_,_=>by cases hg
 | (b,i) :: r,listed,fuel+1,a,w,hg,hC,h=>by
   unfold good at hg;simp only [aG] at hg;obtain ⟨hg1,hg2⟩:=hg;have hll:l.toArray[i]? = l[i]?:=by rw [cy]
   cases ho:l[i]? with
   | none=>rw [hll,ho] at hg1;cases hg1
   | some o =>
     rw [hll,ho] at hg1;simp only [aG,bne_iff_ne,ne_eq] at hg1;obtain ⟨_,hg1⟩:=hg1;have hop:=hll.trans ho;have hp:picks l ((b,i) :: r)=(b,o) :: picks l r:=by rw [picks,ho]
     rw [hp] at h
     cases b with
     | true =>
       simp only [if_true,beq_iff_eq] at hg1;refine all hg1 (by simp) fun j hj=>?_;obtain rfl:j=i:=by simpa using hj
       unfold wpOp;simp only [hop];unfold wpSz at h
       by_cases hw:Region.wanted o (yielded l.toArray a.tmps)=true
       ·rw [aj hw] at h ⊢
        exact .inl (Oper.wp_mono (fun a' w' ⟨c,k⟩=>⟨.inr c,sound hs hQ hoz hgd r _ fuel a' w' hg2 c k⟩) h)
       ·rw [ah hw] at h ⊢
        exact ⟨.inr hC,sound hs hQ hoz hgd r _ fuel _ w hg2 hC h⟩
     | false =>
       simp only [cE,if_false,aG] at hg1;obtain ⟨⟨⟨hk,hf⟩,hr⟩,hbl⟩:=hg1;have hr':i∈Region.ready .any l.toArray listed:=by simpa using hr
       unfold wpSz at h
       by_cases hw:Region.wanted o (yielded l.toArray a.tmps)=true
       ·unfold wpQuiet at h
        rw [aj hw] at h;obtain ⟨v,hv,hn⟩:=h;refine first (v:=v) hop (Region.noSelect_spec hs) (fun c a w=>hQ c _ _ a w) fuel listed a w (blocks_of hbl) (Region.free_spec hop hf) hr' (.inl ⟨hw,fun w' hw'=>?_⟩) hC (sound hs hQ hoz hgd r _ fuel _ w hg2 hC hn)
        have q:=hv w' hw';unfold Oper.quietAt at q
        cases e:(execOp a.eval o).run P w' with
        | halt x w1=>rw [e] at q;cases q
        | ok n w1 =>
          obtain ⟨u,rfl⟩:=light_value hk e;rw [e] at q;obtain ⟨e1,e2⟩:=q;rw [e1,e2]
       ·unfold wpQuiet at h
        rw [ah hw] at h;exact first (v:=undef) hop (Region.noSelect_spec hs) (fun c a w=>hQ c _ _ a w) fuel listed a w (blocks_of hbl) (Region.free_spec hop hf) hr' (.inr ⟨by simpa using hw,rfl⟩) hC (sound hs hQ hoz hgd r _ fuel _ w hg2 hC h)
theorem start {P:Program} {id:Nat} {l:List Oper} {Q:Exit->Act->World->Prop} {a:Act} {oz:Oper} (C:World->Prop) (sc:List (Bool×Nat)) (z:Nat) (hm:P.follows .mixedOrders=true) (hs:Region.noSelect l.toArray=true)
 (hg:good l.toArray z sc (Array.replicate l.toArray.size false) l.toArray.size=true) (hoz:l[z]? = some oz) (hgd:oz.guard=none) (h0:C w.drew)
 (h:wpSz P l.toArray (fun w'=>∃ p:In C,w'=p.world) (NoPanic Q) (fun a w=>oz.wp P a w (fun a' w'=>NoPanic Q .normal a' w') (NoPanic Q)) (picks l sc) a w.drew):(Code.region id l.toArray true).wp P Q a w :=
 wp_region_noPanic (wp_region_any hm (any_of _ _ _ _ (sound hs (fun _ _ _ _ _ h=>h) hoz hgd sc _ _ a _ hg (Sc.Cl.of h0) h)))
section
variable {P:Program} {ops:Array Oper} {C:World->Prop} {Q:Exit->Act->World->Prop} {E:Act->World->Prop} {a:Act} {w:World} {o:Oper} {r:List (Bool×Oper)}
theorem done (h:E a w):wpSz P ops C Q E [] a w:=h
theorem lit (h:wpQuiet P ops C (fun a'=>wpSz P ops C Q E r a' w) [o] a):wpSz P ops C Q E ((false,o) :: r) a w:=h
theorem call (hw:Region.wanted o (yielded ops a.tmps)=true) (h:∀ K:Act->World->Prop,(∀ a w,C w->wpSz P ops C Q E r a w->K a w)->o.wp P a w K Q):wpSz P ops C Q E ((true,o) :: r) a w:=by
 unfold wpSz;rw [aj hw];exact h _ fun a w c k=>⟨c,k⟩
end
end Sz
