import Derived.Lib.Hide
import Derived.Test.YtdbdacceecnpmaaGreatDoorChecked
import Derived.Deep.LoopGhost
import Derived.WalkSmall
import Derived.Deep.WholeRow
import Derived.Deep.RegionHeld3
import Derived.Lib.BufferMore
import Derived.RangeFuncNested
import Derived.RangeFuncBound
import Derived.Shelf.RegionOpen
import Derived.OwnWalkIn
import Derived.LoopNIn
import Derived.LoopIn
set_option maxRecDepth 100000
set_option maxHeartbeats 2000000
namespace Go.Proofs.YtdbdacceecnpmaaGreatDoor
abbrev af:=@Go.RowKit.Below.refl
abbrev am:=@Nat.le_refl
abbrev an:=@List.getD_eq_getElem?_getD
abbrev aq:=@if_neg
abbrev aw:=@List.getElem?_eq_getElem
abbrev az:=@if_pos
abbrev bh:=@decide_eq_false
abbrev bi:=@Go.heap_alloc_new
abbrev bj:=@decide_eq_true
abbrev bm:=@List.getElem?_cons_succ
abbrev bo:=@List.getElem?_cons_zero
abbrev bp:=@Go.lt_of_block
abbrev br:=@Go.wpQuiet_nil
abbrev bs:=@Go.bodyPost_ret
abbrev bt:=@Go.run_callFunc_extern
abbrev cd:=@Go.World.block_lt_of_cell?
abbrev ce:=@List.foldl_nil
abbrev cg:=@Bool.and_eq_true
abbrev cj:=@Go.RowKit.Below.heap_setCell
abbrev cm:=@List.length_map
abbrev cx:=@Nat.zero_le
abbrev cy:=@List.mem_cons
abbrev cz:=@List.foldl_cons
abbrev cA:=@List.getElem?_eq_some_iff
abbrev cC:=@List.mem_cons_of_mem
abbrev cD:=@Go.RowKit.Below.heap_alloc
abbrev cE:=@Array.getElem?_setIfInBounds
abbrev cG:=@List.mem_cons_self
abbrev cH:=@Go.IntWalk.i64_in
abbrev cI:=@List.length_set
abbrev cJ:=@Go.World.ownsRow.lt
abbrev cL:=@Nat.lt_of_lt_of_le
abbrev cM:=@List.length_take
abbrev cN:=@beq_eq_false_iff_ne
abbrev cP:=@Nat.le_trans
abbrev cQ:=@decide_eq_true_eq
abbrev cU:=@Int.toNat_natCast
abbrev cW:=@List.length_append
abbrev cX:=@List.getElem?_map
abbrev cY:=@decide_eq_decide
abbrev db:=@Option.some.inj
abbrev de:=@Go.cell_of_row
abbrev df:=@List.take_length
abbrev dg:=@List.mem_singleton
abbrev di:=@List.mem_of_getElem?
abbrev dj:=@List.not_mem_nil
abbrev dm:=@List.pairwise_cons
abbrev dq:=@List.nil_append
abbrev dr:=@List.length_eq_zero_iff
abbrev dt:=@List.take_of_length_le
abbrev dv:=@congrArg
abbrev dy:=@List.getElem_mem
abbrev dC:=@List.mem_map
abbrev ed:=@List.take_add_one
abbrev ef:=@List.getElem?_of_mem
abbrev eh:=@Array.getD_eq_getD_getElem?
abbrev ew:=@List.getElem_of_mem
abbrev eC:=@List.mem_append
abbrev eE:=@List.cons_append
abbrev eI:=@List.getElem?_append_left
abbrev eJ:=@Bool.false_ne_true
abbrev eM:=@Nat.not_lt_zero
abbrev eN:=@List.length_cons
abbrev eQ:=@List.any_eq_true
abbrev eS:=@List.all_eq_true
abbrev eW:=@List.length_replicate
abbrev fd:=@Nat.zero_add
abbrev fe:=@Option.map_some
abbrev fh:=@And.intro
abbrev fi:=@Array.getElem?_eq_none
abbrev fj:=@Int.toNat_of_nonneg
abbrev fk:=@Go.KeepsOthers.setCell
abbrev fw:=@Option.some.injEq
abbrev fS:=@List.ext_getElem?
abbrev fW:=@Go.run_loadVar_row
abbrev fX:=@List.mem_filter
abbrev fY:=@List.getElem?_append_right
abbrev f8:=@List.pairwise_iff_getElem
abbrev gc:=@List.getElem?_toArray
abbrev gg:=@Go.info_parts
abbrev gh:=@List.length_nil
abbrev gk:=@List.map_append
abbrev gp:=@Go.World.ownsRow.alloc
abbrev gC:=@Go.RowKit.Below.trans
abbrev gE:=@List.length_drop
abbrev gO:=@Bool.false_eq_true
abbrev gR:=@or_false
abbrev gS:=@Int.tmod_eq_emod_of_nonneg
abbrev hJ:=@List.set_append_right
abbrev hM:=@List.getElem?_eq_none
abbrev hP:=@Array.getElem?_eq_getElem
abbrev ie:=@List.size_toArray
abbrev ii:=@Go.below_drewN
abbrev ij:=@Nat.lt_or_ge
abbrev ik:=@List.Pairwise.nil
abbrev im:=@Int.le_refl
abbrev ip:=@List.getElem?_set
abbrev it:=@Go.frozen_of_row
abbrev iv:=@Array.setIfInBounds_comm
abbrev ix:=@Nat.mul_le_mul
abbrev iz:=@Go.World.putObj_heap_other
abbrev iS:=@List.find?_eq_none
abbrev i2:=@List.getElem?_take
abbrev i3:=@Go.World.ownsRow.kept
abbrev i4:=@List.map_cons
theorem Hh {p:Prop} (h:p):Go.RowKit.Hid p:=h
open Go.Proofs.Tryz Go.RowKit
namespace Rw
structure Kind (α:Type) where
 enc:α->List Value
 n:Nat
 pos:0 < n
 len:∀ a,(enc a).length=n
 one:∀ a,∀ u∈enc a,u.oneCell'=true
 Qh:α
def int (k:IntKind):Kind Int:=⟨fun z=>[.int k z],1,by decide,fun _=>rfl,fun _ u h=>by simp at h;subst h;rfl,0⟩
section
variable {α:Type} (K:Kind α)
def Kind.flat (l:List α):List Value:=l.flatMap K.enc
theorem cZ:∀ l:List α,(K.flat l).length=l.length * K.n
 | []=>by simp [Kind.flat]
 | s :: r=>by
   have ih:=cZ r;simp only [Kind.flat,List.flatMap_cons,cW,K.len,eN] at ih ⊢;rw [ih,Nat.add_mul,Nat.one_mul,Nat.add_comm]
theorem gG (a b:List α):K.flat (a ++ b)=K.flat a ++ K.flat b:=by simp [Kind.flat]
theorem EI (l:List α):∀ u∈K.flat l,u.oneCell'=true:=fun u hu=>by
 obtain ⟨a,_,h⟩:=List.mem_flatMap.1 hu;exact K.one a u h
theorem flat_get:∀ (l:List α) (i j:Nat),i < l.length->j < K.n->(K.flat l)[i * K.n+j]? = (K.enc (l.getD i K.Qh))[j]?
 | s :: r,0,j,_,hj=>by
   show (K.enc s ++ K.flat r)[0 * K.n+j]? = (K.enc s)[j]?
   rw [Nat.zero_mul,fd,eI (by rw [K.len];exact hj)]
 | s :: r,i+1,j,h,hj=>by
   have ih:=flat_get r i j (by simpa using h) hj
   show (K.enc s ++ K.flat r)[(i+1) * K.n+j]? = (K.enc (r.getD i K.Qh))[j]?
   rw [fY (by rw [K.len,Nat.add_mul];omega),K.len,show (i+1) * K.n+j - K.n=i * K.n+j by rw [Nat.add_mul];omega];exact ih
def At (w:World) (b off:Nat) (l:List α):Prop:=∀ i,i < l.length->∀ j u,(K.enc (l.getD i K.Qh))[j]? = some u->w.cell? ⟨b,off+i * K.n+j,none⟩=some u
def Rd (w:World) (v:Value) (l:List α):Prop:=∃ a cap,v = .slice a l.length cap/\(l.length<=cap/\(a=none->cap=0))/\cap<=maxLen/\(0 < l.length->∃ b off,a=some ⟨b,off,none⟩/\At K w b off l)
def Ow (w:World) (B E:Nat) (v:Value) (l:List α):Prop:=w.ownsRow B E K.n v l.length (K.flat l)
variable {K}
variable {w w':World} {B E:Nat} {v:Value} {l:List α}
variable {b B' g j:Nat}
theorem At.below {off:Nat} (h:At K w b off l) (hb:Below w.heap.size w w'):At K w' b off l:=fun i hi j u hu=>(hb.cell (cd _ _ (h i hi j u hu))).trans (h i hi j u hu)
theorem Rd.below (h:Rd K w v l) (hb:Below w.heap.size w w'):Rd K w' v l:=by
 obtain ⟨a,cap,e,h1,h2,h3⟩:=h;exact ⟨a,cap,e,h1,h2,fun hp=>by obtain ⟨b,off,ea,hA⟩:=h3 hp;exact ⟨b,off,ea,hA.below hb⟩⟩
theorem Rd.slice (h:Rd K w v l):∃ a cap,v = .slice a l.length cap/\cap<=maxLen:=by
 obtain ⟨a,cap,e,_,h2,_⟩:=h;exact ⟨a,cap,e,h2⟩
theorem Rd.nil (w:World):Rd K w (.slice none 0 0) []:=⟨none,0,rfl,⟨am _,fun _=>rfl⟩,by unfold maxLen;omega,fun h=>by simp at h⟩
theorem Ow.nil (w:World) (B E:Nat):Ow K w B E (.slice none 0 0) []:=World.ownsRow_nil _ _ _ _
theorem Ow.made (w:World) (B E:Nat) (hB:B<=w.heap.size):Ow K (w.alloc (.cells #[] E)) B E (.slice (some ⟨w.heap.size,0,none⟩) 0 0) [] :=
 World.ownsRow_made w #[] 0 hB (by unfold maxLen;omega) (by simp)
theorem Ow.rd (h:Ow K w B E v l):Rd K w v l:=by
 have hc:=fun g hg j u=>World.ownsRow.cells h (g:=g) hg j u;obtain ⟨_,h⟩:=h
 rcases h with ⟨rfl,h0⟩ | ⟨g,cap,cur,rfl,_,_,h1,h2,_⟩
 ·exact ⟨none,0,by rw [h0],⟨by omega,fun _=>rfl⟩,by unfold maxLen;omega,fun h=>by omega⟩
 ·refine ⟨_,cap,rfl,⟨h1,nofun⟩,h2,fun _=>⟨g,0,rfl,fun i hi j u hu=>?_⟩⟩
  have hj:j < K.n:=by have:=(cA.1 hu).1;rw [K.len] at this;exact this
  have c:=hc g rfl _ _ ((flat_get K l i j hi hj).trans hu);simp only [Addr.add_lit] at c;rw [Nat.add_assoc];exact c
theorem Ow.form (h:Ow K w B E v l) (hl:0 < l.length):∃ g cap,v = .slice (some ⟨g,0,none⟩) l.length cap/\B<=g/\g < w.heap.size/\l.length<=cap/\cap<=maxLen/\(∀ k,w.frozen? ⟨g,k,none⟩=false)/\At K w g 0 l:=by
 have hr:=h.rd;obtain ⟨_,h⟩:=h
 rcases h with ⟨_,h0⟩ | ⟨g,cap,cur,rfl,hB,hh,h1,h2,_⟩
 ·omega
 ·refine ⟨g,cap,rfl,hB,bp hh,h1,h2,fun k=>by simp [World.frozen?,hh],?_⟩
  obtain ⟨a,cap',e,_,_,h3⟩:=hr;obtain ⟨b,off,ea,hA⟩:=h3 hl;subst ea;injection e with e1 _ _;injection e1 with e1;injection e1 with e1 e2;subst e1 e2;exact hA
theorem Ow.slice (h:Ow K w B E v l):∃ a cap,v = .slice a l.length cap/\l.length<=cap/\cap<=maxLen:=by
 obtain ⟨_,h⟩:=h
 rcases h with ⟨rfl,h0⟩ | ⟨g,cap,cur,rfl,_,_,h1,h2,_⟩
 ·exact ⟨none,0,by rw [h0],by omega,by unfold maxLen;omega⟩
 ·exact ⟨_,_,rfl,h1,h2⟩
theorem Ow.alloc (h:Ow K w B E v l) (o:Obj):Ow K (w.alloc o) B E v l:=gp h o
theorem Ow.draw (h:Ow K w B E v l) (n:Nat):Ow K (w.drewN n) B E v l:=h
theorem Ow.keep (h:Ow K w B E v l) (hb:Below w.heap.size w w'):Ow K w' B E v l:=by
 obtain ⟨h1,h2⟩:=h;refine ⟨h1,?_⟩
 rcases h2 with h2 | ⟨g,cap,cur,e,hB,hh,r⟩
 ·exact .inl h2
 ·exact .inr ⟨g,cap,cur,e,hB,(hb.block g (bp hh)).trans hh,r⟩
theorem Ow.low (h:Ow K w B E v l) (hB:B'<=B):Ow K w B' E v l:=by
 obtain ⟨h1,h2⟩:=h;refine ⟨h1,?_⟩
 rcases h2 with h2 | ⟨g,cap,cur,e,hb,hh,r⟩
 ·exact .inl h2
 ·exact .inr ⟨g,cap,cur,e,by omega,hh,r⟩
variable {cur cs:Array Value}
theorem heap_setCell_same {E:TypeId} (hh:w.heap[g]? = some (.cells cur E (0,0))) (u:Value):(w.setCell ⟨g,j,none⟩ u).heap[g]? = some (.cells (cur.setIfInBounds j u) E (0,0)):=by
 have hlt:=bp hh;have h':w.heap[g] = .cells cur E (0,0):=by simpa [Array.getElem?_eq_getElem hlt] using hh
 show (w.heap.modify g _)[g]? = _
 rw [hP (by simpa using hlt),Array.getElem_modify_self,h']
 rfl
theorem l8:∀ (l:List α) (i j:Nat) (u:Value) (s:α),i < l.length->j < K.n->K.enc s=(K.enc (l.getD i K.Qh)).set j u->(K.flat l).set (i * K.n+j) u=K.flat (l.set i s)
 | a :: r,0,j,u,s,_,hj,he=>by
   show (K.enc a ++ K.flat r).set (0 * K.n+j) u=K.enc s ++ K.flat r
   have he':K.enc s=(K.enc a).set j u:=he;rw [Nat.zero_mul,fd,List.set_append_left _ _ (by rw [K.len];exact hj),he']
 | a :: r,i+1,j,u,s,h,hj,he=>by
   have ih:=l8 r i j u s (by simpa using h) hj he
   show (K.enc a ++ K.flat r).set ((i+1) * K.n+j) u=K.enc a ++ K.flat (r.set i s)
   rw [hJ _ _ (by rw [K.len,Nat.add_mul];omega),K.len,show (i+1) * K.n+j - K.n=i * K.n+j by rw [Nat.add_mul];omega,ih]
theorem Ow.set {g cap:Nat} (h:Ow K w B E (.slice (some ⟨g,0,none⟩) l.length cap) l) (i j:Nat) (hi:i < l.length) (hj:j < K.n) (u:Value) (s:α) (he:K.enc s=(K.enc (l.getD i K.Qh)).set j u) :
 Ow K (w.setCell ⟨g,i * K.n+j,none⟩ u) B E (.slice (some ⟨g,0,none⟩) l.length cap) (l.set i s):=by
 obtain ⟨h1,h2⟩:=h;refine ⟨by rw [cZ],?_⟩
 rcases h2 with ⟨e,_⟩ | ⟨g',cap',cur,e,hB,hh,k1,k2,k3,k4⟩
 ·simp at e
 ·injection e with e1 e2 e3
  injection e1 with e1;injection e1 with e1;subst e1 e3;refine .inr ⟨_,_,_,by rw [cI],hB,heap_setCell_same hh _,by rw [cI];exact k1,k2,by simp [k3],?_⟩;rw [← l8 l i j u s hi hj he,← k4,cI]
  simp [List.take_set]
variable {v' z:Value}
theorem Ow.push {s:α} (h:w'.ownsRow B E K.n v' (l.length+1) (K.flat l ++ K.enc s)):Ow K w' B E v' (l ++ [s]):=by
 show w'.ownsRow B E K.n v' (l ++ [s]).length (K.flat (l ++ [s]))
 rw [gG,cW];have e:K.flat [s]=K.enc s:=by simp [Kind.flat]
 rw [e];exact h
variable {P:Program} {ops:Array Oper} {rest:List Oper} {o:Oper} {a:Act} {Q:Exit->Act->World->Prop} {T t:TypeId}
theorem dZ {bytes:Nat} (ht:P.underlying T=some (.slice E))
 (hi:(P.info? E).map (fun i=>(i.zero,i.size,i.bytes))=some (some z,K.n,bytes)) (hz:z.cells.size=K.n) (hby:bytes<=64) (hgd:o.guard=none) (s x:Operand)
 (ho:o.op = .call { callee:=.builtin .append,args:=#[s,x],argTypes:=#[T,T] }) (B:Nat) (v:Value) (l:List α) (hs:a.eval s=v) (hown:Ow K w B E v l)
 (ad:Addr) (c:α) (hx:a.eval x = .slice (some ad) 1 1) (hc:∀ j u,(K.enc c)[j]? = some u->w.cell? (ad.add j)=some u) (hlen:l.length < 2199023255552) (hB:B<=w.heap.size)
 (h:∀ v' w',Ow K w' B E v' (l ++ [c])->Below B w w'->wpList P ops Q rest (a.put o.dst v') w'):wpList P ops Q (o :: rest) a w:=by
 obtain ⟨i0,hi0,hz0,hz1,hz2⟩:=gg hi;have hb:(l.length+1) * bytes<=140737488355328:=cP (ix (show l.length+1<=2199023255552 by omega) hby) (by omega);refine wpList_append_own _ hgd s x T ho B E i0 z K.n bytes ht hi0 hz0 hz1 hz2 hz K.pos v l.length (K.flat l) hs hown ad 1 1 (K.enc c) hx (by rw [K.len,Nat.one_mul]) hc (K.one c) (by unfold maxLen;omega) hb hB ?_
 intro v' w' h2 h3 _
 exact h v' w' (Ow.push h2) ((af B w).grown h3 hB fun k hk=>(cJ hown k hk).1)
def Far (E:TypeId) (w w':World):Prop:=∀ (g:Nat) (cs:Array Value) (t:TypeId),w.heap[g]? = some (Obj.cells cs t (0,0))->t≠E->w'.heap[g]? = some (Obj.cells cs t (0,0))
theorem Far.refl (E:TypeId) (w:World):Far E w w:=fun _ _ _ h _=>h
theorem Ow.apart (h:Ow K w B E v l) (hg:w.heap[g]? = some (.cells cs t (0,0))) (ht:t≠E):v.ownBlock≠some g:=by
 obtain ⟨_,h⟩:=h
 rcases h with ⟨rfl,_⟩ | ⟨k,cap,cur,rfl,_,hh,_⟩
 ·simp [Value.ownBlock]
 ·intro e
  simp only [Value.ownBlock,fw] at e;subst e;rw [hg] at hh;injection hh with hh;injection hh with _ h2 _;exact ht h2
theorem A7 (h:Ow K w B E v l) (hg:w.grownBy w' v.ownBlock):Far E w w':=fun g cs t hh ht=>by
 rw [hg.block g (bp hh) (fun e=>h.apart hh ht e.symm)];exact hh
variable {p:Addr}
theorem Ow.far (h:Ow K w B E v l) (hp:w.heap[p.block]? = some (.cells cs t (0,0))) (ht:t≠E) (u:Value):Ow K (w.setCell p u) B E v l:=by
 have ha:=h.apart hp ht;obtain ⟨h1,h2⟩:=h;refine ⟨h1,?_⟩
 rcases h2 with h2 | ⟨g,cap,cur,rfl,hB,hh,r⟩
 ·exact .inl h2
 ·have hne:g≠p.block:=fun e=>ha (by simp [Value.ownBlock,e])
  exact .inr ⟨g,cap,cur,rfl,hB,(cj w p u g hne).trans hh,r⟩
theorem Ow.range (h:Ow K w B E v l) (hg:g < B\/w.heap.size<=g):v.ownBlock≠some g:=fun e=>by
 have:=cJ h g e
 omega
theorem Ow.off (h:Ow K w B E v l) (hp:v.ownBlock≠some p.block) (u:Value):Ow K (w.setCell p u) B E v l:=by
 obtain ⟨h1,h2⟩:=h;refine ⟨h1,?_⟩
 rcases h2 with h2 | ⟨g,cap,cur,rfl,hB,hh,r⟩
 ·exact .inl h2
 ·have hne:g≠p.block:=fun e=>hp (by simp [Value.ownBlock,e])
  exact .inr ⟨g,cap,cur,rfl,hB,(cj w p u g hne).trans hh,r⟩
theorem Ow.lit (w:World) (B E:Nat) (l:List α) (hB:B<=w.heap.size) (hm:l.length<=maxLen):Ow K (w.alloc (.cells (K.flat l).toArray E)) B E (.slice (some ⟨w.heap.size,0,none⟩) l.length l.length) l :=
 World.ownsRow_lit w _ l.length hB hm (by rw [ie,cZ])
theorem Eg {bytes:Nat} (ht:P.underlying T=some (.slice E))
 (hi:(P.info? E).map (fun i=>(i.zero,i.size,i.bytes))=some (some z,K.n,bytes)) (hz:z.cells.size=K.n) (hby:bytes<=64) (hgd:o.guard=none) (s x:Operand)
 (ho:o.op = .call { callee:=.builtin .append,args:=#[s,x],argTypes:=#[T,T] }) (B:Nat) (v:Value) (l:List α) (hs:a.eval s=v) (hown:Ow K w B E v l)
 (ad:Addr) (c:α) (hx:a.eval x = .slice (some ad) 1 1) (hc:∀ j u,(K.enc c)[j]? = some u->w.cell? (ad.add j)=some u) (hlen:l.length < 2199023255552) (hB:B<=w.heap.size)
 (h:∀ v' w',Ow K w' B E v' (l ++ [c])->Below B w w'->Far E w w'->wpList P ops Q rest (a.put o.dst v') w'):wpList P ops Q (o :: rest) a w:=by
 obtain ⟨i0,hi0,hz0,hz1,hz2⟩:=gg hi;have hb:(l.length+1) * bytes<=140737488355328:=cP (ix (show l.length+1<=2199023255552 by omega) hby) (by omega);refine wpList_append_own _ hgd s x T ho B E i0 z K.n bytes ht hi0 hz0 hz1 hz2 hz K.pos v l.length (K.flat l) hs hown ad 1 1 (K.enc c) hx (by rw [K.len,Nat.one_mul]) hc (K.one c) (by unfold maxLen;omega) hb hB ?_
 intro v' w' h2 h3 _
 exact h v' w' (Ow.push h2) ((af B w).grown h3 hB fun k hk=>(cJ hown k hk).1) (A7 hown h3)
theorem At.flat {b off:Nat} (h:At K w b off l):∀ j u,(K.flat l)[j]? = some u->w.cell? ⟨b,off+j,none⟩=some u:=fun j u hu=>by
 have hj:j < l.length * K.n:=by have:=(cA.1 hu).1;rw [cZ] at this;exact this
 have hi:j / K.n < l.length:=Nat.div_lt_of_lt_mul (by rw [Nat.mul_comm];exact hj);have hr:j % K.n < K.n:=Nat.mod_lt _ K.pos;have e:j / K.n * K.n+j % K.n=j:=by rw [Nat.mul_comm];exact Nat.div_add_mod _ _
 have g:=flat_get K l (j / K.n) (j % K.n) hi hr;rw [e] at g;have c:=h (j / K.n) hi (j % K.n) u (g.symm.trans hu);rw [Nat.add_assoc,e] at c;exact c
theorem wW {bytes:Nat} (ht:P.underlying T=some (.slice E))
 (hi:(P.info? E).map (fun i=>(i.zero,i.size,i.bytes))=some (some z,K.n,bytes)) (hz:z.cells.size=K.n) (hby:bytes<=64) (hgd:Region.wanted o (yielded ops a.tmps)=true) (s x:Operand)
 (ho:o.op = .call { callee:=.builtin .append,args:=#[s,x],argTypes:=#[T,T] }) (B:Nat) (v:Value) (l:List α) (hs:a.eval s=v) (hown:Ow K w B E v l)
 (u:Value) (y:List α) (hx:a.eval x=u) (hu:Rd K w u y) (hlen:l.length+y.length < 2199023255552) (hB:B<=w.heap.size)
 (h:∀ v' w',Ow K w' B E v' (l ++ y)->Below B w w'->wpList P ops Q rest (a.put o.dst v') w'):wpList P ops Q (o :: rest) a w:=by
 obtain ⟨i0,hi0,hz0,hz1,hz2⟩:=gg hi;obtain ⟨ad,cap,rfl,h1,h2,h3⟩:=hu;have hb:(l.length+y.length) * bytes<=140737488355328:=cP (ix (show l.length+y.length<=2199023255552 by omega) hby) (by omega);refine BigFrame.wpList_want hgd fun K' hK=>?_
 by_cases h0:0 < y.length
 ·obtain ⟨b,off,rfl,hA⟩:=h3 h0
  refine wp_append_own _ s x T ho B E i0 z K.n bytes ht hi0 hz0 hz1 hz2 hz K.pos v l.length (K.flat l) hs hown ⟨b,off,none⟩ y.length cap (K.flat y) hx (cZ K y) ?_ (EI K y) (by unfold maxLen;omega) hb hB ?_
  ·intro j u hj
   have e:(⟨b,off,none⟩:Addr).add j=⟨b,off+j,none⟩:=by simp [Addr.add]
   rw [e];exact hA.flat j u hj
  ·intro v' w' g2 g3 _
   refine hK _ _ (h v' w' ?_ ((af B w).grown g3 hB fun k hk=>(cJ hown k hk).1))
   show w'.ownsRow B E K.n v' (l ++ y).length (K.flat (l ++ y))
   rw [gG,cW];exact g2
 ·have ey:y = []:=dr.1 (by omega)
  subst ey
  cases ad with
  | none =>
    obtain rfl:=h1.2 rfl;have hrun:=run_append_owned_none (P:=P) (w:=w) B T o.type E i0 K.n ht hi0 v l.length (K.flat l) hown;unfold Oper.wp;have hk:=hK _ _ (h v w (by rw [List.append_nil];exact hown) (af _ _));have hx':=hx
    simp [execOp,ho,resolve,invoke,builtin,hs,hx',hrun,Result.andThen]
    exact hk
  | some ad =>
    refine wp_append_own _ s x T ho B E i0 z K.n bytes ht hi0 hz0 hz1 hz2 hz K.pos v l.length (K.flat l) hs hown ad 0 cap [] hx (by simp) (by simp) (by simp) (by unfold maxLen;simp at hlen;omega) (by simpa using hb) hB ?_
    intro v' w' g2 g3 _
    refine hK _ _ (h v' w' ?_ ((af B w).grown g3 hB fun k hk=>(cJ hown k hk).1))
    show w'.ownsRow B E K.n v' (l ++ []).length (K.flat (l ++ []))
    rw [List.append_nil]
    simpa using g2
end
end Rw
namespace Fl
open Rw (Rd Ow At)
abbrev R4:=Int×Int×Int×Int
def z4:R4:=(0,0,0,0)
def aG (r:R4):Value:=.agg #[.int .u8 r.1,.int .u8 r.2.1,.int .u8 r.2.2.1,.int .u8 r.2.2.2]
def K4:Rw.Kind R4:=⟨fun r=>[.int .u8 r.1,.int .u8 r.2.1,.int .u8 r.2.2.1,.int .u8 r.2.2.2],4,by decide,fun _=>rfl,fun _ u h=>by simp at h;rcases h with rfl | rfl | rfl | rfl <;> rfl,z4⟩
def file (p:Int) (v:Value):Value:=.agg #[.int .i64 p,v]
def hdr (p n:Int):R4:=(n,p,165,bits .xor .u8 (bits .xor .u8 n p) 165)
def rat (l:List R4) (i:Nat):R4:=l.getD i z4
def aL (p:Int) (l:List R4):Prop:=0<=p/\p<=7/\1<=l.length/\l.length<=256/\rat l 0=hdr p ((l.length:Int) - 1)
instance (p:Int) (l:List R4):Decidable (aL p l):=by unfold aL;infer_instance
def bG (p:Int) (l:List R4):Bool:=decide (aL p l)
variable {w:World} {l:List R4}
theorem at4 {b off:Nat} (h:At K4 w b off l) (i:Nat) (hi:i < l.length) :
 w.cell? ⟨b,off+i * 4,none⟩=some (.int .u8 (rat l i).1)/\w.cell? ⟨b,off+i * 4+1,none⟩=some (.int .u8 (rat l i).2.1)/\w.cell? ⟨b,off+i * 4+2,none⟩=some (.int .u8 (rat l i).2.2.1)/\w.cell? ⟨b,off+i * 4+3,none⟩=some (.int .u8 (rat l i).2.2.2) :=
 ⟨h i hi 0 _ rfl,h i hi 1 _ rfl,h i hi 2 _ rfl,h i hi 3 _ rfl⟩
theorem ZH {b off:Nat} (h:At K4 w b off l) (hi:0 < l.length) :
 w.cell? ⟨b,off,none⟩=some (.int .u8 (rat l 0).1)/\w.cell? ⟨b,off+1,none⟩=some (.int .u8 (rat l 0).2.1)/\w.cell? ⟨b,off+2,none⟩=some (.int .u8 (rat l 0).2.2.1)/\w.cell? ⟨b,off+3,none⟩=some (.int .u8 (rat l 0).2.2.2):=by
 have:=at4 h 0 hi
 simpa using this
theorem GJ:(prog.info? 36).map (fun i=>(i.zero,i.size,i.bytes))=some (some (.agg #[.int .u8 0,.int .u8 0,.int .u8 0,.int .u8 0]),4,4):=by kernel_rfl
theorem qW (r s:R4) (w:World):(Op.equalIn 10000 36 (.agg #[.int .u8 r.1,.int .u8 r.2.1,.int .u8 r.2.2.1,.int .u8 r.2.2.2]) (.agg #[.int .u8 s.1,.int .u8 s.2.1,.int .u8 s.2.2.1,.int .u8 s.2.2.2])).run prog w = .ok (decide (r=s)) w:=by
 obtain ⟨j,hj⟩:∃ i,prog.info? 5=some i:=Option.isSome_iff_exists.1 (by kernel_rfl);have hc:prog.cellsOf 5=1:=by kernel_rfl
 obtain ⟨r1,r2,r3,r4⟩:=r;obtain ⟨s1,s2,s3,s4⟩:=s;rw [run_equalIn_array w 9999 _ _ underlying36 hj,hc]
 by_cases h1:r1=s1 <;> by_cases h2:r2=s2 <;> by_cases h3:r3=s3 <;> by_cases h4:r4=s4 <;> simp [Op.eqItems,List.range,List.range.loop,part,go_sem,h1,h2,h3,h4]
variable {b a:Bool}
theorem ak (h:a=b):Ending.returned (.bool a) = .returned (.bool b):=by rw [h]
theorem aI {P:Program} {f:Nat} {args:Array Value} {B:Nat} (e:a=b) (c:Calls P f args w fun e w'=>e = .returned (.bool a)/\Below B w w'):Calls P f args w fun e w'=>e = .returned (.bool b)/\Below B w w':=by rw [← e];exact c
end Fl
open Go.RowKit
variable {w w1 w2 w':World}
theorem aN (h:Below w.heap.size w w1) (b:Below w1.heap.size w1 w2):Hid (Below w.heap.size w w2):=h.trans (b.mono h.size)
theorem d9 {p:Addr} {v:Value} (b:Below w.heap.size w w') (c:w.cell? p=some v):w'.cell? p=some v:=(b.cell (cd _ _ c)).trans c
theorem bU {g:Nat} {o:Obj} (b:Below w.heap.size w w') (h:w.heap[g]? = some o):w'.heap[g]? = some o:=(b.block _ (bp h)).trans h
section
variable {w:World} {g:Nat} {cs:Array Value} {t:TypeId} {a b c d:Value} {l:List Value}
theorem dw (h:w.heap[g]? = some (.cells cs t (0,0))) (k:Nat) (e:cs.toList.drop k=a :: l:=by rfl):w.cell? ⟨g,k,none⟩=some a:=by
 rw [de w g k cs t (0,0) h,← Array.getElem?_toList];have:=dv (·[0]?) e
 simpa using this
theorem BO (h:w.heap[g]? = some (.cells cs t (0,0))) (e:cs.toList=a :: b :: l:=by rfl):w.cell? ⟨g,0,none⟩=some a/\w.cell? ⟨g,1,none⟩=some b:=⟨dw h 0 e,dw h 1 (dv (·.drop 1) e)⟩
theorem Dx (h:w.heap[g]? = some (.cells cs t (0,0))) (e:cs.toList=a :: b :: c :: l:=by rfl):w.cell? ⟨g,0,none⟩=some a/\w.cell? ⟨g,1,none⟩=some b/\w.cell? ⟨g,2,none⟩=some c:=⟨dw h 0 e,dw h 1 (dv (·.drop 1) e),dw h 2 (dv (·.drop 2) e)⟩
theorem Ib (h:w.heap[g]? = some (.cells cs t (0,0))) (e:cs.toList=a :: b :: c :: d :: l:=by rfl):w.cell? ⟨g,0,none⟩=some a/\w.cell? ⟨g,1,none⟩=some b/\w.cell? ⟨g,2,none⟩=some c/\w.cell? ⟨g,3,none⟩=some d:=⟨dw h 0 e,dw h 1 (dv (·.drop 1) e),dw h 2 (dv (·.drop 2) e),dw h 3 (dv (·.drop 3) e)⟩
theorem ZB (h:w.heap[g]? = some (.cells cs t (0,0))) (k:Nat):w.frozen? ⟨g,k,none⟩=false:=it w g k _ _ h
theorem fz2 (h:w.heap[g]? = some (.cells cs t (0,0))):w.frozen? ⟨g,0,none⟩=false/\w.frozen? ⟨g,1,none⟩=false:=⟨ZB h 0,ZB h 1⟩
theorem fz4 (h:w.heap[g]? = some (.cells cs t (0,0))):w.frozen? ⟨g,0,none⟩=false/\w.frozen? ⟨g,1,none⟩=false/\w.frozen? ⟨g,2,none⟩=false/\w.frozen? ⟨g,3,none⟩=false:=⟨ZB h 0,ZB h 1,ZB h 2,ZB h 3⟩
theorem Bw (h:w.heap[g]? = some (.cells cs t (0,0))) (e:cs.toList=a :: b :: l:=by rfl):w.cell? ⟨g,0,none⟩=some a/\w.cell? ⟨g,1,none⟩=some b/\w.frozen? ⟨g,0,none⟩=false/\w.frozen? ⟨g,1,none⟩=false:=⟨(BO h e).1,(BO h e).2,ZB h 0,ZB h 1⟩
theorem tL (h:w.heap[g]? = some (.cells cs t (0,0))) (e:cs.toList=a :: b :: c :: d :: l:=by rfl):w.cell? ⟨g,0,none⟩=some a/\w.cell? ⟨g,1,none⟩=some b/\w.cell? ⟨g,2,none⟩=some c/\w.cell? ⟨g,3,none⟩=some d/\w.frozen? ⟨g,0,none⟩=false/\w.frozen? ⟨g,1,none⟩=false/\w.frozen? ⟨g,2,none⟩=false/\w.frozen? ⟨g,3,none⟩=false:=⟨(Ib h e).1,(Ib h e).2.1,(Ib h e).2.2.1,(Ib h e).2.2.2,fz4 h⟩
end
namespace Qb
structure By (w:World) where
 world:World
 below:Below w.heap.size w world
instance (w:World):Nonempty (By w):=⟨⟨w,af _ _⟩⟩
theorem JX {B:Nat} {a:World} (h:Below B a w):Below B a { w with drawn:=w.drawn+1 }:=⟨h.os,h.tape,h.output,h.size,h.block⟩
variable {P:Program}
theorem gN {id:Nat} {Q:Exit->Act->World->Prop} {a:Act} {l:List Oper} (hm:P.follows .mixedOrders=true) (hB:Region.lexB .any l.toArray=true)
 (h:wpQuiet P l.toArray (fun w'=>∃ p:By w,w'=p.world) (fun a'=>∀ w',(∃ p:By w,w'=p.world)->Q .normal a' w') l a):(Code.region id l.toArray true).wp P Q a w :=
 wp_region_quiet (C:=fun w'=>∃ p:By w,w'=p.world) hm hB ⟨⟨_,JX (af _ _)⟩,rfl⟩ (by simpa using h)
variable {v:Value}
theorem of_below {f:FuncId} {args:Array Value} {p:By w}
 (h:Calls P f args p.world fun e w'=>e = .returned v/\Below p.world.heap.size p.world w'):Calls P f args p.world fun e w''=>e = .returned v/\∃ q:By w,w''=q.world :=
 h.mono fun _ w' ⟨he,hb⟩=>⟨he,⟨w',p.below.trans (hb.mono p.below.size)⟩,rfl⟩
theorem aC {a:Addr} (h:w.cell? a=some v) (p:By w):p.world.cell? a=some v:=d9 p.below h
end Qb
namespace Fl
open Rw (Rd Ow At)
theorem yZ (w:World) (p n:Int) (p0:0<=p) (p1:p<=7) (n0:0<=n) (n1:n<=255):Calls prog 57 #[.int .i64 p,.int .i64 n] w fun e w'=>e = .returned (aG (hdr p n))/\Below w.heap.size w w':=by
 go_enter func57,ntmps57
 go_wp2
 (try simp only [Exit.inBlock,Exit.then])
 refine bs (v:=aG (hdr p n)) ?_ rfl ⟨rfl,?_⟩
 ·exact results_cell_row (p:=4) rfl _ _ w.heap.size 36 _ (0,0) _ rfl (bi w _) underlying36 rfl (by show _=some 4;kernel_rfl)
 ·exact (af w.heap.size w).alloc (am _) _
def kK (p:Int) (l:List R4) (p':Int) (l':List R4):Bool:=decide (p=p'/\l=l')
variable {l l':List R4}
theorem Ba (hl:l.length=l'.length) (h:∀ i,i < l.length->rat l i=rat l' i):l=l':=by
 refine List.ext_getElem hl fun i h1 h2=>?_;have:=h i h1
 simpa [rat,List.getD,List.getElem?_eq_getElem h1,List.getElem?_eq_getElem h2] using this
theorem Ar (w:World) (p p':Int) (v v':Value) (l l':List R4) (R:Rd K4 w v l) (R':Rd K4 w v' l'):Calls prog 45 #[file p v,file p' v'] w fun e w'=>e = .returned (.bool (kK p l p' l'))/\Below w.heap.size w w':=by
 have B0:=Hh (((af w.heap.size w).alloc (am _) (.cells #[.int .i64 p,v] 83)).alloc (by simp) (.cells #[.int .i64 p',v'] 83));have R0:=Hh (R.below B0);have R0':=Hh (R'.below B0);have HNO:Hid (¬ (p=p'/\l=l')->false=kK p l p' l'):=fun h=>(bh h).symm;have HYES:Hid (p=p'->l=l'->true=kK p l p' l'):=fun a b=>(bj ⟨a,b⟩).symm;have HL:Hid (l.length=l'.length->(∀ i,i < l.length->rat l i=rat l' i)->l=l'):=fun a b=>Ba a b;clear R R';unfold file
 by_cases h1:p=p'
 ·obtain ⟨a,cap,rfl,_,hm,hA⟩:=R0.out
  obtain ⟨a',cap',rfl,_,hm',hA'⟩:=R0'.out;have HA:=Hh hA;have HA':=Hh hA';unfold maxLen at hm hm';clear hA hA' R0 R0';subst h1;have HNE:Hid (l.length≠l'.length->¬ (p=p/\l=l')):=fun h2 h=>h2 (by rw [h.2]);generalize hn:l.length=n at *;generalize hn':l'.length=n' at *;have HN:=Hh hn;have HN':=Hh hn';clear hn hn'
  by_cases h2:n=n'
  ·subst h2
   have k0:((w.alloc (.cells #[.int .i64 p,.slice a n cap] 83)).alloc (.cells #[.int .i64 p,.slice a' n cap'] 83)).cell? ⟨w.heap.size,1,none⟩=some (.slice a n cap):=by go_simp
   have k1:((w.alloc (.cells #[.int .i64 p,.slice a n cap] 83)).alloc (.cells #[.int .i64 p,.slice a' n cap'] 83)).cell? ⟨w.heap.size+1,1,none⟩=some (.slice a' n cap'):=by go_simp
   have K0:=Hh k0;have K1:=Hh k1;clear k0 k1
   go_enter func45,ntmps45
   go_wp2;generalize (w.alloc (.cells #[.int .i64 p,.slice a n cap] 83)).alloc (.cells #[.int .i64 p,.slice a' n cap'] 83)=W at *
   go_loopw [5] (fun i wr=>∃ j:Nat,j<=n/\i = .int .i64 j/\Hid (Below W.heap.size W wr)/\Hid (∀ i,i < j->rat l i=rat l' i)) (fun i _=>n - (intOf i).toNat)
   case atStart=>exact ⟨0,cx _,rfl,af _ _,fun i hi=>by omega⟩
   case round =>
    obtain ⟨j,hj,rfl,bw,hs⟩:=hrel;have k0:=d9 bw K0;have k1:=d9 bw K1
    by_cases hlt:j < n
    ·obtain ⟨b,off,rfl,A⟩:=HA (by omega)
     obtain ⟨b',off',rfl,A'⟩:=HA' (by omega);obtain ⟨c0,c1,c2,c3⟩:=at4 (A.below bw) j (by have:=HN.out;omega);obtain ⟨d0,d1,d2,d3⟩:=at4 (A'.below bw) j (by have:=HN'.out;omega);have HAA:=Hh A;have HAA':=Hh A';clear A A';have es:=qW (rat l j) (rat l' j)
     by_cases he:rat l j=rat l' j
     ·have ST:Hid (∀ i,i < j+1->rat l i=rat l' i):=fun i hi=>by
       by_cases e:i=j
       ·rw [e];exact he
       ·exact hs i (by omega)
      rw [bj he] at es;clear he;generalize rat l j=r at *;generalize rat l' j=r' at *;go_wp2
      go_quiet (fail)
      go_wp2
      go_roundw
      case rel=>exact ⟨j+1,by omega,by go_num,ii bw.out _,ST⟩
      case measure=>simp [intOf];omega
     ·have E:=Hh (HNO (fun h=>he (by rw [h.2])))
      rw [bh he] at es;clear he;generalize rat l j=r at *;generalize rat l' j=r' at *;go_wp2
      go_quiet (fail)
      go_wp2
      go_ret
      exact ⟨ak E,B0.trans ((ii bw _).mono B0.size)⟩
    ·obtain rfl:j=n:=by omega
     have E:=Hh (HYES (by trivial) (HL (by trivial) (fun i hi=>hs i hi)));go_wp2
     go_ret
     exact ⟨ak E,aN B0 bw⟩
  ·have E:=Hh (HNO (HNE h2))
   have h3:¬ ((n:Int)=n'):=by omega
   clear HL HA HA' HYES HNO
   go_enter func45,ntmps45
   go_wp2
   go_ret
   exact ⟨ak E,B0⟩
 ·have E:=Hh (HNO (fun h=>h1 h.1))
  obtain ⟨a,cap,rfl,_⟩:=R0;obtain ⟨a',cap',rfl,_⟩:=R0'
  go_enter func45,ntmps45
  go_wp2
  go_ret
  exact ⟨ak E,B0⟩
def newP (p n:Int):Prop:=0<=p/\p<=7/\0<=n/\n<=255
instance (p n:Int):Decidable (newP p n):=by unfold newP;infer_instance
def newL (p n:Int):List R4:=hdr p n :: List.replicate n.toNat z4
def lJ (w:World) (p n:Int) (e:Ending) (w':World):Prop:=∃ v,e = .returned (.tuple #[file (if newP p n then p else 0) v,.int .i64 (if newP p n then 0 else 1)])/\Rd K4 w' v (if newP p n then newL p n else [])/\Below w.heap.size w w'
variable {g:Nat} {cs:Array Value} {t:TypeId}
theorem ah (h:w.heap[g]? = some (.cells cs t (0,0))) (k:Nat):w.cell? ⟨g,k,none⟩=cs[k]?:=de w g k cs t (0,0) h
theorem rc (h:w.heap[g]? = some (.cells cs t (0,0))) (k:Nat) {v:Value} {l:List Value} (e:cs.toList.drop k=v :: l:=by rfl):w.cell? ⟨g,k,none⟩=some v:=by
 have e2:=dv List.head? e;rw [List.head?_drop,Array.getElem?_toList] at e2;exact (ah h k).trans e2
theorem aj (h:w.heap[g]? = some (.cells cs t (0,0))) (k:Nat):w.frozen? ⟨g,k,none⟩=false:=it w g k _ _ h
structure aar (w:World) (p:Int) (h:R4) (g k:Nat) (v:Value) (wr:World):Prop where
 row:wr.heap[g]? = some (.cells #[.int .i64 p,v] 83 (0,0))
 res:wr.heap[w.heap.size]? = some (.cells #[.int .i64 0,.slice none 0 0] 83 (0,0))
 own:Ow K4 wr (w.heap.size+1) 36 v (h :: List.replicate k z4)
 aD:Below w.heap.size w wr
 lt:w.heap.size < g
theorem mV (w:World) (p n:Int):Calls prog 28 #[.int .i64 p,.int .i64 n] w (lJ w p n):=by
 have B0:=Hh ((af w.heap.size w).alloc (am _) (.cells #[.int .i64 0,.slice none 0 0] 83))
 by_cases hp:newP p n
 ·have HPN:=Hh hp
  obtain ⟨p0,p1,n0,n1⟩:=hp;obtain ⟨m,rfl⟩:∃ m:Nat,n=m:=⟨n.toNat,by omega⟩;have HH:=Hh (yZ (w.alloc (.cells #[.int .i64 0,.slice none 0 0] 83)) p m p0 p1 (by omega) (by omega));have NL:Hid (newL p m=hdr p m :: List.replicate m z4):=rfl;unfold aG at HH;generalize hdr p m=h at *
  go_enter func28,ntmps28
  go_wp2_with fail;refine HH.mono ?_;rintro e w1 ⟨rfl,b1⟩;have z1:w.heap.size < w1.heap.size:=by have:=b1.size;simp at this;omega
  have B1:=aN B0 b1;have r0:w1.heap[w.heap.size]? = some (.cells #[.int .i64 0,.slice none 0 0] 83 (0,0)):=(b1.block _ (by simp)).trans (bi w _);have hz:(w1.alloc (.cells #[.int .u8 h.1,.int .u8 h.2.1,.int .u8 h.2.2.1,.int .u8 h.2.2.2] 36)).heap.size=w1.heap.size+1:=by simp
  have N0:aar w p h (w1.heap.size+1) 0 (.slice (some ⟨w1.heap.size,0,none⟩) 1 1) ((w1.alloc (.cells #[.int .u8 h.1,.int .u8 h.2.1,.int .u8 h.2.2.1,.int .u8 h.2.2.2] 36)).alloc (.cells #[.int .i64 p,.slice (some ⟨w1.heap.size,0,none⟩) 1 1] 83)):=by
   refine ⟨?_,?_,(Ow.lit (K:=K4) w1 (w.heap.size+1) 36 [h] (by omega) (by unfold maxLen;simp)).alloc _,(B1.out.alloc (by omega) _).alloc (by rw [hz];omega) _,by omega⟩
   ·have:=bi (w1.alloc (.cells #[.int .u8 h.1,.int .u8 h.2.1,.int .u8 h.2.2.1,.int .u8 h.2.2.2] 36)) (.cells #[.int .i64 p,.slice (some ⟨w1.heap.size,0,none⟩) 1 1] 83)
    rw [hz] at this;exact this
   ·exact (cD _ _ _ (by rw [hz];omega)).trans ((cD _ _ _ z1).trans r0)
  have NR:=Hh N0;clear b1 N0 r0 HH hz;go_wp2;generalize (w1.alloc (.cells #[.int .u8 h.1,.int .u8 h.2.1,.int .u8 h.2.2.1,.int .u8 h.2.2.2] 36)).alloc (.cells #[.int .i64 p,.slice (some ⟨w1.heap.size,0,none⟩) 1 1] 83)=W at *;generalize w1.heap.size+1=g at *;generalize Value.slice (some ⟨w1.heap.size,0,none⟩) 1 1=v0 at *
  go_loopw [7] (fun i wr=>∃ (k:Nat) (v:Value),k<=m/\i = .int .i64 k/\Hid (aar w p h g k v wr)) (fun i _=>m - (intOf i).toNat)
  case atStart=>exact ⟨0,v0,cx _,rfl,NR⟩
  case round =>
   obtain ⟨k,v,hk,rfl,R⟩:=hrel;obtain ⟨av,cv,ev,_,_⟩:=R.own.slice;generalize hL:(h :: List.replicate k z4).length=L at ev;clear hL;have gs:=bp R.row;have c1:=Fl.rc R.row 1;subst ev
   by_cases hlt:k < m
   ·go_wp2_with (at_builtin;refine Rw.Eg underlying81 GJ rfl (by omega) rfl _ _ rfl (w.heap.size+1) _ _ rfl (R.out.own.alloc _) _ z4 rfl ?d1 ?d2 ?d3 ?_)
    case d1 =>
     intro j u hu
     match j,hu with
     | 0,hu=>simp [K4,z4] at hu;subst hu;go_simp
     | 1,hu=>simp [K4,z4] at hu;subst hu;go_simp
     | 2,hu=>simp [K4,z4] at hu;subst hu;go_simp
     | 3,hu=>simp [K4,z4] at hu;subst hu;go_simp
     | j+4,hu=>simp [K4] at hu
    case d2=>simp;omega
    case d3=>have:=R.lt;simp;omega
    intro v' w2 o2 b2 f2
    have rr:=f2 g _ _ ((cD wr _ g gs).trans R.row) (by decide);have rs:=f2 w.heap.size _ _ ((cD wr _ w.heap.size (bp R.res)).trans R.res) (by decide);have d1:=Fl.rc rr 1;have e1:=aj rr 1;have N2:Hid (aar w p h g (k+1) v' (w2.setCell ⟨g,1,none⟩ v')):=by
     have hB:=R.aD.size;refine ⟨Rw.heap_setCell_same rr _,(cj w2 _ _ w.heap.size (by have:=R.out.lt;simp;omega)).trans rs,?_,?_,R.out.lt⟩
     ·have e:(h :: List.replicate k z4) ++ [z4]=h :: List.replicate (k+1) z4:=by rw [List.replicate_succ'];rfl
      rw [← e];exact o2.far (p:=⟨g,1,none⟩) rr (by decide) _
     ·exact (((R.aD.alloc hB _).trans (b2.mono (by omega))).setCell (by have:=R.out.lt;simp;omega) _)
    obtain ⟨av',cv',L',rfl⟩:∃ a c L,v' = .slice a L c:=by obtain ⟨a,c,e,_,_⟩:=o2.slice;exact ⟨a,c,_,e⟩
    clear rr rs o2 b2 f2;go_wp2
    go_roundw
    case rel=>exact ⟨k+1,_,by omega,by go_num,N2⟩
    case measure=>simp [intOf];omega
   ·obtain rfl:k=m:=by omega
    have c0:=Fl.rc R.row 0;obtain ⟨r0,r1,s0,s1⟩:=Bw R.res;have E2:Hid (lJ w p k (.returned (.tuple #[file p (.slice av L cv),.int .i64 0])) ((wr.setCell ⟨w.heap.size,0,none⟩ (.int .i64 p)).setCell ⟨w.heap.size,1,none⟩ (.slice av L cv))):=by
     have o1:=R.own.far (p:=⟨w.heap.size,0,none⟩) R.res (by decide) (.int .i64 p);have rr:=Rw.heap_setCell_same (j:=0) R.res (.int .i64 p);refine ⟨_,by rw [az HPN.out,az HPN.out],?_,(R.out.aD.setCell (am _) _).setCell (am _) _⟩;rw [az HPN.out,NL.out];exact (o1.far (p:=⟨w.heap.size,1,none⟩) rr (by decide) _).rd
    go_wp2
    (try simp only [Exit.inBlock,Exit.then])
    refine bs (v:=.tuple #[file p (.slice av L cv),.int .i64 0]) ?_ rfl E2;rw [results_cell_tmp rfl];go_simp;rfl
 ·have E:Hid (lJ w p n (.returned (.tuple #[file 0 (.slice none 0 0),.int .i64 1])) (w.alloc (.cells #[.int .i64 0,.slice none 0 0] 83))):=⟨_,by rw [aq hp,aq hp],by rw [aq hp];exact Rw.Rd.nil _,B0.out⟩
  by_cases h1:p < 0
  ·go_enter func28,ntmps28
   go_wp2
   (try simp only [Exit.inBlock,Exit.then])
   refine bs (v:=.tuple #[file 0 (.slice none 0 0),.int .i64 1]) ?_ rfl E;rw [results_cell_tmp rfl];go_simp;rfl
  ·by_cases h2:7 < p
   ·go_enter func28,ntmps28
    go_wp2
    (try simp only [Exit.inBlock,Exit.then])
    refine bs (v:=.tuple #[file 0 (.slice none 0 0),.int .i64 1]) ?_ rfl E;rw [results_cell_tmp rfl];go_simp;rfl
   ·by_cases h3:n < 0
    ·go_enter func28,ntmps28
     go_wp2
     (try simp only [Exit.inBlock,Exit.then])
     refine bs (v:=.tuple #[file 0 (.slice none 0 0),.int .i64 1]) ?_ rfl E;rw [results_cell_tmp rfl];go_simp;rfl
    ·have h4:255 < n:=by
      rcases Int.lt_or_le 255 n with c | c
      ·exact c
      ·exact absurd (show newP p n from ⟨by omega,by omega,by omega,by omega⟩) hp
     go_enter func28,ntmps28
     go_wp2
     (try simp only [Exit.inBlock,Exit.then])
     refine bs (v:=.tuple #[file 0 (.slice none 0 0),.int .i64 1]) ?_ rfl E;rw [results_cell_tmp rfl];go_simp;rfl
def bJ (r:R4):Prop:=(0<=r.1/\r.1<=255)/\(0<=r.2.1/\r.2.1<=255)/\(0<=r.2.2.1/\r.2.2.1<=255)/\0<=r.2.2.2/\r.2.2.2<=255
def dF (l:List R4):Prop:=∀ r∈l,bJ r
theorem kJ:bJ z4:=⟨⟨by decide,by decide⟩,⟨by decide,by decide⟩,⟨by decide,by decide⟩,by decide,by decide⟩
theorem jP (h:dF l) (i:Nat):bJ (rat l i):=by
 unfold rat;rw [an]
 rcases e:l[i]? with _ | r
 ·exact kJ
 ·exact h r (di e)
def num (r:R4):Int:=r.1 * 16777216+r.2.1 * 65536+r.2.2.1 * 256+r.2.2.2
def bytes (n:Int):R4:=(n / 16777216,n / 65536 % 256,n / 256 % 256,n % 256)
def inc (r:R4):R4:=bytes ((num r+1) % 4294967296)
def need (op:Int):Int:=if op=0 then 1 else if op=1 then 2 else 4
def jf (p:Int) (l:List R4) (op rec:Int):Int :=
 if aL p l then
  if 0<=op/\op<=2 then
   if 0<=rec/\rec < l.length then
    if rec=0/\op=0\/0 < rec/\p / need op % 2=1 then 0 else 5
   else 4
  else 1
 else 2
variable {p op rec:Int}
theorem Zl (h:¬ aL p l):jf p l op rec=2:=by unfold jf;rw [aq h]
theorem ZM (h:aL p l) (h2:¬ (0<=op/\op<=2)):jf p l op rec=1:=by unfold jf;rw [az h,aq h2]
theorem Zt (h:aL p l) (h2:0<=op/\op<=2) (h3:¬ (0<=rec/\rec < l.length)):jf p l op rec=4:=by unfold jf;rw [az h,az h2,aq h3]
theorem acS (h:aL p l) (h2:0<=op/\op<=2) (h3:0<=rec/\rec < l.length) (h4:¬ (rec=0/\op=0\/0 < rec/\p / need op % 2=1)):jf p l op rec=5:=by unfold jf;rw [az h,az h2,az h3,aq h4]
theorem abW (h:aL p l) (h2:0<=op/\op<=2) (h3:0<=rec/\rec < l.length) (h4:rec=0/\op=0\/0 < rec/\p / need op % 2=1):jf p l op rec=0:=by unfold jf;rw [az h,az h2,az h3,az h4]
def newR (l:List R4) (op rec:Int) (x:R4):R4:=if op=1 then x else if op=2 then inc (rat l rec.toNat) else rat l rec.toNat
def oN (w:World) (p:Int) (l:List R4) (op rec:Int) (x:R4) (e:Ending) (w':World):Prop :=
 ∃ u,e = .returned (.tuple #[file (if jf p l op rec=0 then p else 0) u,aG (if jf p l op rec=0 then newR l op rec x else z4),.int .i64 (jf p l op rec)])/\Ow K4 w' w.heap.size 36 u (if jf p l op rec=0 then l.set rec.toNat (newR l op rec x) else [])/\Below w.heap.size w w'
theorem Lt (w:World) (p n:Int) (p0:0<=p) (p1:p<=7) (n0:0<=n) (n1:n<=255):Calls prog 108 #[.int .i64 p,.int .i64 n] w fun e w'=>e = .returned (aG (hdr p n))/\Below w.heap.size w w':=by
 go_enter func108,ntmps108
 go_wp2
 (try simp only [Exit.inBlock,Exit.then])
 refine bs (v:=aG (hdr p n)) ?_ rfl ⟨rfl,?_⟩
 ·exact results_cell_row (p:=4) rfl _ _ w.heap.size 36 _ (0,0) _ rfl (bi w _) underlying36 rfl (by show _=some 4;kernel_rfl)
 ·exact (af w.heap.size w).alloc (am _) _
def Tn (p:Int):Bool:=decide (0<=p/\p<=7)
theorem mF (h1:0<=p) (h2:p<=7):Tn p=true:=bj ⟨h1,h2⟩
theorem BV (h:¬ (0<=p/\p<=7)):Tn p=false:=bh h
theorem mG (w:World) (p:Int):Calls prog 107 #[.int .i64 p] w fun e w'=>e = .returned (.bool (Tn p))/\Below w.heap.size w w':=by
 by_cases h1:0<=p
 ·by_cases h2:p<=7
  ·go_enter func107,ntmps107
   go_wp2
   go_ret
   exact ⟨ak (by rw [mF h1 h2]),af _ _⟩
  ·go_enter func107,ntmps107
   go_wp2
   go_ret
   exact ⟨ak (by rw [BV (by omega)]),af _ _⟩
 ·go_enter func107,ntmps107
  go_wp2
  go_ret
  exact ⟨ak (by rw [BV (by omega)]),af _ _⟩
def oG (op:Int):Int:=if 0<=op/\op<=2 then need op else 0
theorem AV (w:World) (op:Int):Calls prog 158 #[.int .i64 op] w fun e w'=>e = .returned (.int .i64 (oG op))/\Below w.heap.size w w':=by
 by_cases h0:op=0
 ·subst h0
  go_enter func158,ntmps158
  go_wp2
  go_ret
  exact ⟨rfl,af _ _⟩
 ·by_cases h1:op=1
  ·subst h1
   go_enter func158,ntmps158
   go_wp2
   go_ret
   exact ⟨rfl,af _ _⟩
  ·by_cases h2:op=2
   ·subst h2
    go_enter func158,ntmps158
    go_wp2
    go_ret
    exact ⟨rfl,af _ _⟩
   ·have E:Hid (0=oG op):=by unfold oG;rw [aq (by omega)];exact Hh rfl
    go_enter func158,ntmps158
    go_wp2
    go_ret
    exact ⟨by rw [← E.out];rfl,af _ _⟩
def fA (p op rec:Int):Bool:=decide (rec=0/\op=0\/0 < rec/\p / need op % 2=1)
theorem U1:∀ (p:Fin 8) (op:Fin 3),decide (bits BinOp.and .i64 (p.val:Int) (need (op.val:Int))=0)=decide (¬ ((p.val:Int) / need (op.val:Int) % 2=1)):=by decide +kernel
theorem Ay (p0:0<=p) (p1:p<=7) (o0:0<=op) (o1:op<=2):(bits BinOp.and .i64 p (need op)=0)↔¬ (p / need op % 2=1):=by
 have:=U1 ⟨p.toNat,by omega⟩ ⟨op.toNat,by omega⟩;simp only [fj p0,fj o0] at this;exact cY.1 this
theorem YF (w:World) (p op rec:Int) (p0:0<=p) (p1:p<=7) (o0:0<=op) (o1:op<=2) (r0:0<=rec):Calls prog 159 #[.int .i64 p,.int .i64 (need op),.int .i64 rec] w fun e w'=>e = .returned (.bool (fA p op rec))/\Below w.heap.size w w':=by
 by_cases h:rec=0
 ·subst h
  have E:Hid (decide (need op=1)=fA p op 0):=Hh (by
   unfold fA;rw [cY];unfold need
   rcases (by omega:op=0\/op=1\/op=2) with rfl | rfl | rfl <;> simp)
  generalize need op=q at *
  go_enter func159,ntmps159
  go_wp2
  go_ret
  exact ⟨ak E,af _ _⟩
 ·have E:Hid ((!decide (bits BinOp.and .i64 p (need op)=0))=fA p op rec):=Hh (by
   unfold fA
   by_cases k:bits BinOp.and .i64 p (need op)=0
   ·rw [bj k]
    have:=(Ay p0 p1 o0 o1).1 k;exact (bh (by omega)).symm
   ·rw [bh k]
    have:=Decidable.byContradiction fun c=>k ((Ay p0 p1 o0 o1).2 c)
    exact (bj (.inr ⟨by omega,this⟩)).symm)
  generalize need op=q at *
  go_enter func159,ntmps159
  go_wp2
  go_ret
  exact ⟨ak (by rw [← E.out];first | rfl | simp),af _ _⟩
end Fl
namespace Sd
def isLen:Callee->Bool
 | .builtin .len=>true
 | _=>false
def sM:Op->Bool
 | .call c=>isLen c.callee
 | .move _=>true | .assign _=>true | .pick ..=>true | .load ..=>true | .binOp ..=>true | .unOp ..=>true | .convert ..=>true
 | .fieldAddr ..=>true | .field ..=>true | .indexAddr ..=>true | .index ..=>true | .extract ..=>true | .build ..=>true
 | .nilCheck _=>true | .lookup ..=>true | .makeInterface ..=>true | .slice ..=>true
 | _=>false
variable {P:Program} {n:Next}
theorem DC {s:Sem Value} (h:(do let x ← s;pure (Next.value x):Sem Next).run P w = .ok n w'):∃ v,n = .value v:=by
 simp only [Sem.run_bind,Sem.run_pure] at h
 cases e:s.run P w with
 | ok x w1=>rw [e] at h;simp only [Result.andThen] at h;injection h with h1 h2;exact ⟨x,h1.symm⟩
 | halt x w1=>rw [e] at h;simp only [Result.andThen] at h;cases h
def Ud (s:Sem Next):Prop:=∀ (P:Program) (w w':World) (n:Next),s.run P w = .ok n w'->∃ v,n = .value v
theorem Cw {β:Type} (s:Sem β) (f:β->Sem Next) (h:∀ x,Ud (f x)):Ud (s >>= f):=fun P w w' n hr=>by
 rw [Sem.run_bind] at hr
 cases e:s.run P w with
 | ok x w1=>rw [e] at hr;exact h x P w1 w' n hr
 | halt x w1=>rw [e] at hr;cases hr
theorem Ma (v:Value):Ud (pure (Next.value v)):=fun P w w' n h=>by simp only [Sem.run_pure] at h;injection h with h1 h2;exact ⟨_,h1.symm⟩
variable {ρ:Operand->Value} {o:Oper}
theorem Pm {x:Operand} (ho:o.op = .nilCheck x) (h:(execOp ρ o).run P w = .ok n w'):∃ v,n = .value v:=by
 unfold execOp at h;rw [ho] at h;simp only at h
 split at h
 ·simp [runtimePanic] at h
 ·simp [runtimePanic] at h
 ·simp [runtimePanic] at h
 ·split at h
  ·simp [runtimePanic] at h
  ·refine Cw _ _ (fun p=>Cw _ _ fun r=>?_) P w w' n h
   split
   ·exact Cw _ _ fun _=>Ma _
   ·exact Ma _
  ·simp only [Sem.run_pure] at h;injection h with h1 h2;exact ⟨_,h1.symm⟩
 ·simp only [Sem.run_pure] at h;injection h with h1 h2;exact ⟨_,h1.symm⟩
theorem Ny {c:Call} (ho:o.op = .call c) (hc:isLen c.callee=true) (h:(execOp ρ o).run P w = .ok n w'):∃ v,n = .value v:=by
 obtain ⟨f,cas,ts⟩:=c
 cases f with
 | builtin b =>
   cases b with
   | len =>
     unfold execOp at h;rw [ho] at h;simp only [resolve,Sem.run_bind,Sem.run_pure,Result.andThen,invoke,builtin] at h;exact DC (s:=Builtin.len_ _ _ _) (by simpa only [Sem.run_bind,Sem.run_pure,Result.andThen] using h)
   | _=>cases hc
 | _=>cases hc
theorem eH (hl:sM o.op=true) (h:(execOp ρ o).run P w = .ok n w'):∃ v,n = .value v:=by
 by_cases hc:∃ x,o.op = .nilCheck x
 ·obtain ⟨x,hx⟩:=hc
  exact Pm hx h
 by_cases hd:∃ c,o.op = .call c
 ·obtain ⟨c,hx⟩:=hd
  rw [hx] at hl;exact Ny hx hl h
 unfold execOp at h
 cases ho:o.op <;> rw [ho] at hl h <;> first | (exact (hd ⟨_,ho⟩).elim) | (cases hl;done) | (exact (hc ⟨_,ho⟩).elim) | skip
 all_goals first
  | exact DC h
  | (simp only [Sem.run_pure] at h;injection h with h1 h2;exact ⟨_,h1.symm⟩)
  | (simp only [Sem.run_bind,Sem.run_pure] at h
     revert h
     cases (asBool _).run P w with
     | ok x w1=>intro h;simp only [Result.andThen] at h;injection h with h1 h2;exact ⟨_,h1.symm⟩
     | halt x w1=>intro h;simp only [Result.andThen] at h;cases h)
def aK (l:List Oper):List (Bool×Nat)->List (Bool×Oper)
 | []=>[]
 | (h,i) :: r=>match l[i]? with
   | some o=>(h,o) :: aK l r
   | none=>aK l r
def good (ops:Array Oper):List (Bool×Nat)->Array Bool->Nat->Bool
 | [],listed,_=>(Region.ready .any ops listed).isEmpty
 | _ :: _,_,0=>false
 | (h,i) :: r,listed,fuel+1 =>
   (match ops[i]? with
    | some o=>if h then Region.ready .any ops listed == [i] else sM o.op && Region.free .any ops listed i && (Region.ready .any ops listed).contains i
    | none=>false) && good ops r (listed.setIfInBounds i true) fuel
def aU (P:Program) (ops:Array Oper) (C:World->Prop) (Q:Exit->Act->World->Prop):List (Bool×Oper)->Act->World->Prop
 | [],a,w=>Q .normal a w
 | (false,o) :: r,a,w=>wpQuiet P ops C (fun a'=>aU P ops C Q r a' w) [o] a
 | (true,o) :: r,a,w=>if Region.wanted o (yielded ops a.tmps) then o.wp P a w (fun a' w'=>C w'/\aU P ops C Q r a' w') Q else aU P ops C Q r (a.put o.dst undef) w
theorem sound {P:Program} {l:List Oper} {C:World->Prop} {Q:Exit->Act->World->Prop} (hs:Region.noSelect l.toArray=true) (hQ:∀ c d v a w,Q (.panic c) (Act.put a d v) w->Q (.panic c) a w) :
 ∀ (sc:List (Bool×Nat)) (listed:Array Bool) (fuel:Nat) (a:Act) (w:World),good l.toArray sc listed fuel=true->C w->aU P l.toArray C Q (aK l sc) a w->wpAnyH P .any l.toArray Q C fuel listed a w
 | [],listed,fuel,a,w,hg,_,h=>wpAnyH_done (List.isEmpty_iff.1 hg) h fuel
 | _ :: _,_,0,_,_,hg,_,_=>by cases hg
 | (b,i) :: r,listed,fuel+1,a,w,hg,hC,h=>by
   unfold good at hg;simp only [cg] at hg;obtain ⟨hg1,hg2⟩:=hg;have hll:l.toArray[i]? = l[i]?:=by rw [gc]
   cases ho:l[i]? with
   | none=>rw [hll,ho] at hg1;cases hg1
   | some o =>
     rw [hll,ho] at hg1;have hop:=hll.trans ho;have hp:aK l ((b,i) :: r)=(b,o) :: aK l r:=by rw [aK,ho]
     rw [hp] at h
     cases b with
     | true =>
       simp only [if_true,beq_iff_eq] at hg1;refine wpAnyH_all hg1 (by simp) fun j hj=>?_;obtain rfl:j=i:=by simpa using hj
       unfold wpOp;simp only [hop];unfold aU at h
       by_cases hw:Region.wanted o (yielded l.toArray a.tmps)=true
       ·rw [az hw] at h ⊢
        exact .inl (Oper.wp_mono (fun a' w' ⟨c,k⟩=>⟨c,sound hs hQ r _ fuel a' w' hg2 c k⟩) h)
       ·rw [aq hw] at h ⊢
        exact ⟨hC,sound hs hQ r _ fuel _ w hg2 hC h⟩
     | false =>
       simp only [gO,if_false,cg] at hg1;obtain ⟨⟨hk,hf⟩,hr⟩:=hg1;unfold aU at h
       by_cases hw:Region.wanted o (yielded l.toArray a.tmps)=true
       ·unfold wpQuiet at h
        rw [az hw] at h;obtain ⟨v,hv,hn⟩:=h;refine wpAnyH_take (v:=v) hop hs hf hr (fun c a w=>hQ c _ _ a w) (.inl ⟨hw,fun w' hw'=>?_⟩) hC (sound hs hQ r _ fuel _ w hg2 hC hn);have q:=hv w' hw';unfold Oper.quietAt at q
        cases e:(execOp a.eval o).run P w' with
        | halt x w1=>rw [e] at q;cases q
        | ok n w1 =>
          obtain ⟨u,rfl⟩:=eH hk e;rw [e] at q;obtain ⟨e1,e2⟩:=q;rw [e1,e2]
       ·unfold wpQuiet at h
        rw [aq hw] at h;exact wpAnyH_take (v:=undef) hop hs hf hr (fun c a w=>hQ c _ _ a w) (.inr ⟨by simpa using hw,rfl⟩) hC (sound hs hQ r _ fuel _ w hg2 hC h)
structure By (w:World) where
 world:World
 below:Below w.heap.size w world
instance (w:World):Nonempty (By w):=⟨⟨w,af _ _⟩⟩
def Cl (w:World) (w':World):Prop:=∃ p:By w,w'=p.world
theorem Cl.of (h:Below w.heap.size w w'):Cl w w':=⟨⟨w',h⟩,rfl⟩
theorem Cl.aD (h:Cl w w'):Below w.heap.size w w':=by obtain ⟨p,rfl⟩:=h;exact p.below
theorem aC {a:Addr} {v:Value} (h:w.cell? a=some v) (p:By w):p.world.cell? a=some v:=d9 p.below h
theorem start {id:Nat} {l:List Oper} {Q:Exit->Act->World->Prop} {a:Act} (sc:List (Bool×Nat)) (hm:P.follows .mixedOrders=true) (hs:Region.noSelect l.toArray=true)
 (hg:good l.toArray sc (Array.replicate l.toArray.size false) l.toArray.size=true) (h:aU P l.toArray (fun w'=>∃ p:By w,w'=p.world) (NoPanic Q) (aK l sc) a w.drew):(Code.region id l.toArray true).wp P Q a w :=
 wp_region_noPanic (wp_region_held_drew (S:=fun w'=>∃ p:By w,w'=p.world) hm ⟨⟨w.drew,(af _ _).drew⟩,rfl⟩ fun _=>sound hs (fun _ _ _ _ _ h=>h) sc _ _ a _ hg ⟨⟨w.drew,(af _ _).drew⟩,rfl⟩ h)
section
variable {P:Program} {ops:Array Oper} {C:World->Prop} {Q:Exit->Act->World->Prop} {a:Act} {w:World} {o:Oper} {r:List (Bool×Oper)}
theorem done (h:Q .normal a w):aU P ops C (NoPanic Q) [] a w:=h
theorem lit (h:wpQuiet P ops C (fun a'=>aU P ops C Q r a' w) [o] a):aU P ops C Q ((false,o) :: r) a w:=h
theorem call (hw:Region.wanted o (yielded ops a.tmps)=true) (h:∀ K:Act->World->Prop,(∀ a w,C w->aU P ops C Q r a w->K a w)->o.wp P a w K Q):aU P ops C Q ((true,o) :: r) a w:=by
 unfold aU;rw [az hw];exact h _ fun a w c k=>⟨c,k⟩
theorem past (hw:Region.wanted o (yielded ops a.tmps)=false) (h:aU P ops C Q r (a.put o.dst undef) w):aU P ops C Q ((true,o) :: r) a w:=by
 unfold aU;rw [aq (by rw [hw];exact eJ)];exact h
end
end Sd
namespace Qk
theorem skip {P:Program} {ops:Array Oper} {C:World->Prop} {Q:Act->Prop} {a:Act} {o:Oper} {rest:List Oper} (hw:Region.wanted o (yielded ops a.tmps)=false) (ha:a.put o.dst undef=a) (h:wpQuiet P ops C Q rest a):wpQuiet P ops C Q (o :: rest) a:=by
 unfold wpQuiet;rw [aq (by rw [hw];exact eJ),ha];exact h
theorem past {P:Program} {ops:Array Oper} {C:World->Prop} {Q:Exit->Act->World->Prop} {a:Act} {w:World} {o:Oper} {r:List (Bool×Oper)} (hw:Region.wanted o (yielded ops a.tmps)=false) (ha:a.put o.dst undef=a) (h:Sd.aU P ops C Q r a w):Sd.aU P ops C Q ((true,o) :: r) a w :=
 Sd.past hw (by rw [ha];exact h)
end Qk
namespace Fl
open Rw (Rd Ow At)
attribute [local irreducible] Sd.aU wpQuiet
theorem Oh (w:World) (p:Int) (a:Option Addr) (n cap:Nat) (h:¬ (0<=p/\p<=7)):Calls prog 81 #[.agg #[.int .i64 p,.slice a n cap]] w fun e w'=>e = .returned (.bool false)/\Below w.heap.size w w':=by
 have B0:=Hh ((af w.heap.size w).alloc (am _) (.cells #[.int .i64 p,.slice a n cap] 83));have HP:=Hh (fun w=>aI (BV h) (mG w p));clear h;have k0:=Sd.aC (show (w.alloc (.cells #[.int .i64 p,.slice a n cap] 83)).cell? ⟨w.heap.size,0,none⟩=some (.int .i64 p) by go_simp)
 go_enter func81,ntmps81
 go_wp2_with fail;generalize w.alloc (.cells #[.int .i64 p,.slice a n cap] 83)=W at *;refine Sd.start [(false,0),(false,1),(true,2),(false,3),(false,4),(false,5),(false,6),(false,7),(false,8),(false,9),(false,10),(false,11),(false,12),(false,13),(false,14),(false,15),(false,16),(false,17),(false,18),(false,19),(true,20),(false,21),(false,22),(false,23)] (by kernel_rfl) (by kernel_rfl) (by kernel_rfl) ?_;dsimp only [Sd.aK,List.getElem?_cons_succ,List.getElem?_cons_zero]
 iterate 2 (refine Sd.lit ?_;quiet_step (fail);refine br ?_)
 refine Sd.call (by rfl) (fun K hK=>?_);go_simp;refine (HP _).mono ?_;rintro e w1 ⟨rfl,b1⟩;have C1:=Hh (gC ((af W.heap.size W).drew) b1);refine hK _ _ (Sd.Cl.of C1) ?_;clear hK K b1
 iterate 17 (refine Sd.lit ?_;(first | (refine Qk.skip (by rfl) (by rfl) ?_) | quiet_step (fail));refine br ?_)
 refine Qk.past (by rfl) (by rfl) ?_
 iterate 3 (refine Sd.lit ?_;(first | (refine Qk.skip (by rfl) (by rfl) ?_) | quiet_step (fail));refine br ?_)
 refine Sd.done ?_;go_wp2
 go_ret
 exact ⟨rfl,aN B0 C1⟩
theorem qY (w:World) (p:Int) (a:Option Addr) (n cap:Nat) (h:0<=p/\p<=7) (hn:n < 1):Calls prog 81 #[.agg #[.int .i64 p,.slice a n cap]] w fun e w'=>e = .returned (.bool false)/\Below w.heap.size w w':=by
 have B0:=Hh ((af w.heap.size w).alloc (am _) (.cells #[.int .i64 p,.slice a n cap] 83));have HP:=Hh (fun w=>aI (mF h.1 h.2) (mG w p));have hn2:decide ((1:Int)<=n)=false:=bh (by omega);clear h hn;have k0:=Sd.aC (show (w.alloc (.cells #[.int .i64 p,.slice a n cap] 83)).cell? ⟨w.heap.size,0,none⟩=some (.int .i64 p) by go_simp)
 go_enter func81,ntmps81
 go_wp2_with fail;generalize w.alloc (.cells #[.int .i64 p,.slice a n cap] 83)=W at *;refine Sd.start [(false,0),(false,1),(true,2),(false,3),(false,4),(false,5),(false,6),(false,7),(false,8),(false,9),(false,10),(false,11),(false,12),(false,13),(false,14),(false,15),(false,16),(false,17),(false,18),(false,19),(true,20),(false,21),(false,22),(false,23)] (by kernel_rfl) (by kernel_rfl) (by kernel_rfl) ?_;dsimp only [Sd.aK,List.getElem?_cons_succ,List.getElem?_cons_zero]
 iterate 2 (refine Sd.lit ?_;quiet_step (fail);refine br ?_)
 refine Sd.call (by rfl) (fun K hK=>?_);go_simp;refine (HP _).mono ?_;rintro e w1 ⟨rfl,b1⟩;have C1:=Hh (gC ((af W.heap.size W).drew) b1);refine hK _ _ (Sd.Cl.of C1) ?_;clear hK K b1
 iterate 17 (refine Sd.lit ?_;(first | (refine Qk.skip (by rfl) (by rfl) ?_) | quiet_step (fail));refine br ?_)
 refine Qk.past (by rfl) (by rfl) ?_
 iterate 3 (refine Sd.lit ?_;(first | (refine Qk.skip (by rfl) (by rfl) ?_) | quiet_step (fail));refine br ?_)
 refine Sd.done ?_;go_wp2
 go_ret
 exact ⟨rfl,aN B0 C1⟩
theorem Nr (w:World) (p:Int) (a:Option Addr) (n cap:Nat) (h:0<=p/\p<=7) (hn:256 < n):Calls prog 81 #[.agg #[.int .i64 p,.slice a n cap]] w fun e w'=>e = .returned (.bool false)/\Below w.heap.size w w':=by
 have B0:=Hh ((af w.heap.size w).alloc (am _) (.cells #[.int .i64 p,.slice a n cap] 83));have HP:=Hh (fun w=>aI (mF h.1 h.2) (mG w p));have hn2:decide ((1:Int)<=n)=true:=bj (by omega);have hn3:decide ((n:Int)<=256)=false:=bh (by omega);clear h hn;have k0:=Sd.aC (show (w.alloc (.cells #[.int .i64 p,.slice a n cap] 83)).cell? ⟨w.heap.size,0,none⟩=some (.int .i64 p) by go_simp)
 go_enter func81,ntmps81
 go_wp2_with fail;generalize w.alloc (.cells #[.int .i64 p,.slice a n cap] 83)=W at *;refine Sd.start [(false,0),(false,1),(true,2),(false,3),(false,4),(false,5),(false,6),(false,7),(false,8),(false,9),(false,10),(false,11),(false,12),(false,13),(false,14),(false,15),(false,16),(false,17),(false,18),(false,19),(true,20),(false,21),(false,22),(false,23)] (by kernel_rfl) (by kernel_rfl) (by kernel_rfl) ?_;dsimp only [Sd.aK,List.getElem?_cons_succ,List.getElem?_cons_zero]
 iterate 2 (refine Sd.lit ?_;quiet_step (fail);refine br ?_)
 refine Sd.call (by rfl) (fun K hK=>?_);go_simp;refine (HP _).mono ?_;rintro e w1 ⟨rfl,b1⟩;have C1:=Hh (gC ((af W.heap.size W).drew) b1);refine hK _ _ (Sd.Cl.of C1) ?_;clear hK K b1
 iterate 17 (refine Sd.lit ?_;(first | (refine Qk.skip (by rfl) (by rfl) ?_) | quiet_step (fail));refine br ?_)
 refine Qk.past (by rfl) (by rfl) ?_
 iterate 3 (refine Sd.lit ?_;(first | (refine Qk.skip (by rfl) (by rfl) ?_) | quiet_step (fail));refine br ?_)
 refine Sd.done ?_;go_wp2
 go_ret
 exact ⟨rfl,aN B0 C1⟩
theorem aQ (w:World) (p:Int) (v:Value) (l:List R4) (R:Rd K4 w v l):Calls prog 81 #[file p v] w fun e w'=>e = .returned (.bool (bG p l))/\Below w.heap.size w w':=by
 have B0:=Hh ((af w.heap.size w).alloc (am _) (.cells #[.int .i64 p,v] 83));have R0:=Hh (R.below B0.out);have HNO:Hid (¬ aL p l->false=bG p l):=fun h=>(bh h).symm;have HD:Hid (0<=p->p<=7->1<=l.length->l.length<=256->decide (rat l 0=hdr p ((l.length:Int) - 1))=bG p l):=fun a b c d=>by
  unfold bG;rw [cY];exact ⟨fun h=>⟨a,b,c,d,h⟩,fun h=>h.2.2.2.2⟩
 clear R;unfold file;obtain ⟨a,cap,rfl,_,hm,hA⟩:=R0.out;have HA:=Hh hA;unfold maxLen at hm;clear hA R0
 by_cases h1:0<=p/\p<=7
 ·have hp:=fun w=>aI (mF h1.1 h1.2) (mG w p)
  have HP:=Hh hp;clear hp;obtain ⟨h1,h2⟩:=h1
  by_cases h3:1<=l.length
  ·by_cases h4:l.length<=256
   ·have E:=Hh (HD.out h1 h2 h3 h4)
    have hh:=fun w=>Lt w p ((l.length:Int) - 1) h1 h2 (by omega) (by omega);obtain ⟨b,off,rfl,hA⟩:=HA.out (by omega);obtain ⟨c0,c1,c2,c3⟩:=ZH hA (by omega);have q0:=Qb.aC c0;have q1:=Qb.aC c1;have q2:=Qb.aC c2;have q3:=Qb.aC c3;clear hA HA HD HNO c0 c1 c2 c3;generalize rat l 0=r at *;generalize l.length=n at *;generalize hdr p ((n:Int) - 1)=q at *;unfold aG at hh;have HH:=Hh hh;clear hh;have es:=qW r q;have W0:IntKind.i64.wrap ((n:Int) - 1)=(n:Int) - 1:=cH _ (by omega);have hn1:0 < n:=by omega
    have hn2:(1:Int)<=n:=by omega
    have hn3:(n:Int)<=256:=by omega
    have k0:=Qb.aC (show (w.alloc (.cells #[.int .i64 p,.slice (some ⟨b,off,none⟩) n cap] 83)).cell? ⟨w.heap.size,0,none⟩=some (.int .i64 p) by go_simp);have k1:=Qb.aC (show (w.alloc (.cells #[.int .i64 p,.slice (some ⟨b,off,none⟩) n cap] 83)).cell? ⟨w.heap.size,1,none⟩=some (.slice (some ⟨b,off,none⟩) n cap) by go_simp)
    go_enter func81,ntmps81
    go_wp2_with fail;refine Qb.gN (by kernel_rfl) (by kernel_rfl) ?_
    repeat (quiet_step ((first | (go_at_call 107;with_reducible exact Qb.of_below (HP.out _)) | (go_at_call 108;with_reducible exact Qb.of_below (HH.out _)))))
    refine br ?_
    intro _ hw'
    obtain ⟨pp,rfl⟩:=hw';go_wp2
    go_ret
    exact ⟨ak E,B0.trans (pp.below.mono B0.size)⟩
   ·exact aI (HNO (fun h=>by obtain ⟨_,_,_,_,_⟩:=h;omega)) (Nr w p a _ cap ⟨h1,h2⟩ (by omega))
  ·exact aI (HNO (fun h=>by obtain ⟨_,_,_,_,_⟩:=h;omega)) (qY w p a _ cap ⟨h1,h2⟩ (by omega))
 ·exact aI (HNO (fun h=>by obtain ⟨_,_,_,_,_⟩:=h;omega)) (Oh w p a _ cap h1)
end Fl
namespace Fl
open Rw (Rd Ow At)
variable {f B g n cap o:Nat} {k:IntKind} {a b op q p:Int}
theorem Ki {P:Program} {args:Array Value} (e:a=b) (c:Calls P f args w fun e w'=>e = .returned (.int k a)/\Below B w w'):Calls P f args w fun e w'=>e = .returned (.int k b)/\Below B w w':=by rw [← e];exact c
theorem bO (h:a=b):Ending.returned (.int k a) = .returned (.int k b):=by rw [h]
theorem MO (h:0<=op/\op<=2):oG op=need op:=by unfold oG;rw [az h]
theorem Om (h:¬ (0<=op/\op<=2)):oG op=0:=by unfold oG;rw [aq h]
theorem Sq (op:Int):0 < need op:=by unfold need;split <;> (try split) <;> omega
theorem Al (w:World) (p:Int) (v:Value) (l:List R4) (R:Rd K4 w v l) (op rec:Int):Calls prog 127 #[file p v,.int .i64 op,.int .i64 rec] w fun e w'=>e = .returned (.int .i64 (jf p l op rec))/\Below w.heap.size w w':=by
 have bb:=(af w.heap.size w).alloc (am _) (.cells #[.int .i64 p,v] 83);have B0:=Hh bb;have G0:=Hh (aQ _ p v l (R.below bb));obtain ⟨a,cap,rfl,_,hm,_⟩:=R;unfold maxLen at hm;clear bb
 by_cases hg:aL p l
 ·have G:=Hh (aI (show bG p l=true from bj hg) G0)
  have hp:0<=p/\p<=7:=⟨hg.1,hg.2.1⟩
  by_cases ho:0<=op/\op<=2
  ·have N:=Hh (fun w=>Ki (MO ho) (AV w op))
   have hq:=Sq op
   by_cases hr:0<=rec/\rec < l.length
   ·obtain ⟨hr0,hr1⟩:=hr
    have M:=Hh (fun w=>YF w p op rec hp.1 hp.2 ho.1 ho.2 hr0)
    by_cases hk:rec=0/\op=0\/0 < rec/\p / need op % 2=1
    ·have E:=Hh (abW hg ho ⟨hr0,hr1⟩ hk)
     have M1:=Hh (fun w=>aI (show fA p op rec=true from bj hk) (M w));clear hk hg G0 M;generalize jf p l op rec=d at *;generalize need op=q at *;generalize l.length=n at *;unfold file at *
     go_enter func127,ntmps127
     go_wp2_with fail;refine G.mono ?_;rintro e w1 ⟨rfl,b1⟩;have B1:=aN B0 b1;have c0:w1.cell? ⟨w.heap.size,0,none⟩=some (.int .i64 p):=(b1.cell (by simp)).trans (by go_simp);have c1:w1.cell? ⟨w.heap.size,1,none⟩=some (.slice a n cap):=(b1.cell (by simp)).trans (by go_simp);clear b1 B0 G;go_wp2_with fail;refine (N _).mono ?_;rintro e w2 ⟨rfl,b2⟩;have lt:w.heap.size < w1.heap.size:=cd _ _ c0;have B2:=aN B1 b2;have d0:w2.cell? ⟨w.heap.size,0,none⟩=some (.int .i64 p):=(b2.cell lt).trans c0;have d1:w2.cell? ⟨w.heap.size,1,none⟩=some (.slice a n cap):=(b2.cell lt).trans c1;clear b2 B1 N c0 c1 lt;go_wp2_with fail;refine (M1 _).mono ?_;rintro e w3 ⟨rfl,b3⟩;have B3:=aN B2 b3;clear b3 B2 M1;go_wp2
     go_ret
     exact ⟨bO E.symm,B3⟩
    ·have E:=Hh (acS hg ho ⟨hr0,hr1⟩ hk)
     have M1:=Hh (fun w=>aI (show fA p op rec=false from bh hk) (M w));clear hk hg G0 M;generalize jf p l op rec=d at *;generalize need op=q at *;generalize l.length=n at *;unfold file at *
     go_enter func127,ntmps127
     go_wp2_with fail;refine G.mono ?_;rintro e w1 ⟨rfl,b1⟩;have B1:=aN B0 b1;have c0:w1.cell? ⟨w.heap.size,0,none⟩=some (.int .i64 p):=(b1.cell (by simp)).trans (by go_simp);have c1:w1.cell? ⟨w.heap.size,1,none⟩=some (.slice a n cap):=(b1.cell (by simp)).trans (by go_simp);clear b1 B0 G;go_wp2_with fail;refine (N _).mono ?_;rintro e w2 ⟨rfl,b2⟩;have lt:w.heap.size < w1.heap.size:=cd _ _ c0;have B2:=aN B1 b2;have d0:w2.cell? ⟨w.heap.size,0,none⟩=some (.int .i64 p):=(b2.cell lt).trans c0;have d1:w2.cell? ⟨w.heap.size,1,none⟩=some (.slice a n cap):=(b2.cell lt).trans c1;clear b2 B1 N c0 c1 lt;go_wp2_with fail;refine (M1 _).mono ?_;rintro e w3 ⟨rfl,b3⟩;have B3:=aN B2 b3;clear b3 B2 M1;go_wp2
     go_ret
     exact ⟨bO E.symm,B3⟩
   ·have E:=Hh (Zt hg ho hr)
    clear hg G0;have hr':rec < 0\/(0<=rec/\(l.length:Int)<=rec):=by omega
    clear hr;generalize jf p l op rec=d at *;generalize need op=q at *;generalize l.length=n at *;unfold file at *
    rcases hr' with hr | ⟨hr,hr2⟩
    all_goals
     go_enter func127,ntmps127
     go_wp2_with fail;refine G.mono ?_;rintro e w1 ⟨rfl,b1⟩;have B1:=aN B0 b1;have c0:w1.cell? ⟨w.heap.size,0,none⟩=some (.int .i64 p):=(b1.cell (by simp)).trans (by go_simp);have c1:w1.cell? ⟨w.heap.size,1,none⟩=some (.slice a n cap):=(b1.cell (by simp)).trans (by go_simp);clear b1 B0 G;go_wp2_with fail;refine (N _).mono ?_;rintro e w2 ⟨rfl,b2⟩;have lt:w.heap.size < w1.heap.size:=cd _ _ c0;have B2:=aN B1 b2;have d0:w2.cell? ⟨w.heap.size,0,none⟩=some (.int .i64 p):=(b2.cell lt).trans c0;have d1:w2.cell? ⟨w.heap.size,1,none⟩=some (.slice a n cap):=(b2.cell lt).trans c1;clear b2 B1 N c0 c1 lt;go_wp2
     go_ret
     exact ⟨bO E.symm,B2⟩
  ·have E:=Hh (ZM (rec:=rec) hg ho)
   have N:=Hh (fun w=>Ki (Om ho) (AV w op));clear hg G0 ho;generalize jf p l op rec=d at *;generalize l.length=n at *;unfold file at *
   go_enter func127,ntmps127
   go_wp2_with fail;refine G.mono ?_;rintro e w1 ⟨rfl,b1⟩;have B1:=aN B0 b1;clear b1 B0 G;go_wp2_with fail;refine (N _).mono ?_;rintro e w2 ⟨rfl,b2⟩;have B2:=aN B1 b2;clear b2 B1 N;go_wp2
   go_ret
   exact ⟨bO E.symm,B2⟩
 ·have E:=Hh (Zl (op:=op) (rec:=rec) hg)
  have G:=Hh (aI (show bG p l=false from bh hg) G0);clear hg G0;generalize jf p l op rec=d at *;generalize l.length=n at *;unfold file at *
  go_enter func127,ntmps127
  go_wp2_with fail;refine G.mono ?_;rintro e w1 ⟨rfl,b1⟩;have B1:=aN B0 b1;clear b1 B0 G;go_wp2
  go_ret
  exact ⟨bO E.symm,B1⟩
def aO (r:R4):Array Value:=#[.int .u8 r.1,.int .u8 r.2.1,.int .u8 r.2.2.1,.int .u8 r.2.2.2]
def bf (w:World) (g o:Nat) (r:R4):World:=(((w.setCell ⟨g,o,none⟩ (.int .u8 r.1)).setCell ⟨g,o+1,none⟩ (.int .u8 r.2.1)).setCell ⟨g,o+2,none⟩ (.int .u8 r.2.2.1)).setCell ⟨g,o+3,none⟩ (.int .u8 r.2.2.2)
variable {l:List R4}
theorem fG (h:Ow K4 w B 36 (.slice (some ⟨g,0,none⟩) n cap) l) (hn:n=l.length) (i:Nat) (hi:i < l.length) (r:R4) :
 Ow K4 (bf w g (i * 4) r) B 36 (.slice (some ⟨g,0,none⟩) n cap) (l.set i r):=by
 subst hn;have get:∀ (m:List R4) (s:R4),i < m.length->(m.set i s).getD i z4=s:=fun m s hm=>by simp [List.getD,hm]
 have h1:=h.set i 0 hi (by decide) (.int .u8 r.1) (r.1,(l.getD i z4).2.1,(l.getD i z4).2.2.1,(l.getD i z4).2.2.2) rfl;have l1:i < (l.set i (r.1,(l.getD i z4).2.1,(l.getD i z4).2.2.1,(l.getD i z4).2.2.2)).length:=by rw [cI];exact hi
 rw [show l.length=(l.set i (r.1,(l.getD i z4).2.1,(l.getD i z4).2.2.1,(l.getD i z4).2.2.2)).length by rw [cI]] at h1;have h2:=h1.set i 1 l1 (by decide) (.int .u8 r.2.1) (r.1,r.2.1,(l.getD i z4).2.2.1,(l.getD i z4).2.2.2) (by show _=((K4.enc ((l.set i _).getD i z4))).set 1 _;rw [get _ _ hi];rfl);rw [List.set_set] at h2;have l2:i < (l.set i (r.1,r.2.1,(l.getD i z4).2.2.1,(l.getD i z4).2.2.2)).length:=by rw [cI];exact hi
 rw [cI,show l.length=(l.set i (r.1,r.2.1,(l.getD i z4).2.2.1,(l.getD i z4).2.2.2)).length by rw [cI]] at h2;have h3:=h2.set i 2 l2 (by decide) (.int .u8 r.2.2.1) (r.1,r.2.1,r.2.2.1,(l.getD i z4).2.2.2) (by show _=((K4.enc ((l.set i _).getD i z4))).set 2 _;rw [get _ _ hi];rfl);rw [List.set_set] at h3;have l3:i < (l.set i (r.1,r.2.1,r.2.2.1,(l.getD i z4).2.2.2)).length:=by rw [cI];exact hi
 rw [cI,show l.length=(l.set i (r.1,r.2.1,r.2.2.1,(l.getD i z4).2.2.2)).length by rw [cI]] at h3;have h4:=h3.set i 3 l3 (by decide) (.int .u8 r.2.2.2) r (by show _=((K4.enc ((l.set i _).getD i z4))).set 3 _;rw [get _ _ hi];rfl);rw [List.set_set] at h4;rw [cI] at h4;exact h4
theorem aR {q:R4} (h:w.heap[g]? = some (.cells (aO q) 36 (0,0))) (r:R4):(bf w g 0 r).heap[g]? = some (.cells (aO r) 36 (0,0)) :=
 Rw.heap_setCell_same (Rw.heap_setCell_same (Rw.heap_setCell_same (Rw.heap_setCell_same h _) _) _) _
variable {r:R4} {x:Option Obj}
theorem aH {k:Nat} (h:w.heap[k]? = x) (hne:k≠g):(bf w g o r).heap[k]? = x :=
 (cj _ _ _ _ hne).trans ((cj _ _ _ _ hne).trans ((cj _ _ _ _ hne).trans ((cj _ _ _ _ hne).trans h)))
variable {W:World}
theorem aJ (h:Below B w W) (hb:B<=g):Below B w (bf W g o r) :=
 (((h.setCell (p:=⟨g,o,none⟩) hb _).setCell (p:=⟨g,o+1,none⟩) hb _).setCell (p:=⟨g,o+2,none⟩) hb _).setCell (p:=⟨g,o+3,none⟩) hb _
theorem bP (w:World) (g o:Nat) (r:R4):(bf w g o r).heap.size=w.heap.size:=by simp [bf]
variable {v u:Value}
theorem Hw (h:Ow K4 w B 36 v l) (hne:v.ownBlock≠some g) (r:R4):Ow K4 (bf w g o r) B 36 v l :=
 (((h.off (p:=⟨g,o,none⟩) hne _).off (p:=⟨g,o+1,none⟩) hne _).off (p:=⟨g,o+2,none⟩) hne _).off (p:=⟨g,o+3,none⟩) hne _
def fD (w:World) (g:Nat) (p:Int) (v:Value):World:=(w.setCell ⟨g,0,none⟩ (.int .i64 p)).setCell ⟨g,1,none⟩ v
theorem aY (h:w.heap[g]? = some (.cells #[.int .i64 q,u] 83 (0,0))) (p:Int) (v:Value):(fD w g p v).heap[g]? = some (.cells #[.int .i64 p,v] 83 (0,0)) :=
 Rw.heap_setCell_same (Rw.heap_setCell_same h _) _
theorem dQ {k:Nat} (h:w.heap[k]? = x) (hne:k≠g):(fD w g p v).heap[k]? = x :=
 (cj _ _ _ _ hne).trans ((cj _ _ _ _ hne).trans h)
theorem aM (h:Below B w W) (hb:B<=g):Below B w (fD W g p v):=(h.setCell (p:=⟨g,0,none⟩) hb _).setCell (p:=⟨g,1,none⟩) hb _
theorem eZ (w:World) (g:Nat) (p:Int) (v:Value):(fD w g p v).heap.size=w.heap.size:=by simp [fD]
theorem dW (h:Ow K4 w B 36 v l) (hne:v.ownBlock≠some g) (p:Int):Ow K4 (fD w g p u) B 36 v l :=
 (h.off (p:=⟨g,0,none⟩) hne _).off (p:=⟨g,1,none⟩) hne _
theorem vV {fn:Func} {p q r:Tmp} (h:fn.results=#[.cell p 83,.cell q 36,.tmp r]) (tmps:Array Value) (w:World) (g1 g2:Nat) (k:Int) (u:Value) (y:R4) (e:Int)
 (hp:tmps.getD p undef = .pointer (some ⟨g1,0,none⟩)) (hq:tmps.getD q undef = .pointer (some ⟨g2,0,none⟩)) (hr:tmps.getD r undef = .int .i64 e)
 (h1:w.heap[g1]? = some (.cells #[.int .i64 k,u] 83 (0,0))) (h2:w.heap[g2]? = some (.cells (aO y) 36 (0,0))) :
 (results fn tmps).run prog w = .ok (.tuple #[file k u,aG y,.int .i64 e]) w:=by
 have e1:=fW (P:=prog) w g1 83 83 #[.int .i64 k,u] (0,0) _ h1 underlying83 rfl (by show _=some 2;kernel_rfl);have e2:=fW (P:=prog) w g2 36 36 (aO y) (0,0) _ h2 underlying36 rfl (by show _=some 4;kernel_rfl);have hp':tmps[p]?.getD undef = .pointer (some ⟨g1,0,none⟩):=by simpa using hp
 have hq':tmps[q]?.getD undef = .pointer (some ⟨g2,0,none⟩):=by simpa using hq
 have hr':tmps[r]?.getD undef = .int .i64 e:=by simpa using hr
 simp only [results,h]
 simp [Sem.run_bind,Result.andThen,hp',hq',hr',asAddr,e1,e2,file,aG,aO]
structure Start (w:World) (p:Int) (v:Value) (x:R4) (W:World):Prop where
 box:W.heap[w.heap.size]? = some (.cells #[.int .i64 p,v] 83 (0,0))
 arg:W.heap[w.heap.size+1]? = some (.cells (aO x) 36 (0,0))
 res1:W.heap[w.heap.size+2]? = some (.cells #[.int .i64 0,.slice none 0 0] 83 (0,0))
 res2:W.heap[w.heap.size+3]? = some (.cells (aO z4) 36 (0,0))
 Jw:w.heap.size+4<=W.heap.size
 aD:Below w.heap.size w W
theorem Start.mono {w W W':World} {p:Int} {v:Value} {x:R4} (h:Start w p v x W) (b:Below W.heap.size W W'):Start w p v x W' :=
 have s:=h.Jw
 ⟨(b.block _ (by omega)).trans h.box,(b.block _ (by omega)).trans h.arg,(b.block _ (by omega)).trans h.res1,(b.block _ (by omega)).trans h.res2,cP h.Jw b.size,h.aD.trans (b.mono (by omega))⟩
theorem Start.of (w:World) (p:Int) (v:Value) (x:R4):Start w p v x ((((w.alloc (.cells #[.int .i64 p,v] 83)).alloc (.cells (aO x) 36)).alloc (.cells #[.int .i64 0,.slice none 0 0] 83)).alloc (.cells (aO z4) 36)):=by
 have z1:∀ a,(w.alloc a).heap.size=w.heap.size+1:=fun a=>by simp
 have z2:∀ a b,((w.alloc a).alloc b).heap.size=w.heap.size+2:=fun a b=>by simp
 have z3:∀ a b c,(((w.alloc a).alloc b).alloc c).heap.size=w.heap.size+3:=fun a b c=>by simp
 refine ⟨?_,?_,?_,?_,by simp,((((af w.heap.size w).alloc (am _) _).alloc (by simp) _).alloc (by simp;omega) _).alloc (by simp;omega) _⟩
 ·exact (cD _ _ _ (by rw [z3];omega)).trans ((cD _ _ _ (by rw [z2];omega)).trans ((cD _ _ _ (by rw [z1];omega)).trans (bi w _)))
 ·have:=bi (w.alloc (.cells #[.int .i64 p,v] 83)) (.cells (aO x) 36)
  rw [z1] at this;exact (cD _ _ _ (by rw [z3];omega)).trans ((cD _ _ _ (by rw [z2];omega)).trans this)
 ·have:=bi ((w.alloc (.cells #[.int .i64 p,v] 83)).alloc (.cells (aO x) 36)) (.cells #[.int .i64 0,.slice none 0 0] 83)
  rw [z2] at this;exact (cD _ _ _ (by rw [z3];omega)).trans this
 ·have:=bi (((w.alloc (.cells #[.int .i64 p,v] 83)).alloc (.cells (aO x) 36)).alloc (.cells #[.int .i64 0,.slice none 0 0] 83)) (.cells (aO z4) 36)
  rw [z3] at this;exact this
theorem Px (n:Nat):(madeCells #[.int .u8 0,.int .u8 0,.int .u8 0,.int .u8 0] (n * 4)).toList=K4.flat (List.replicate n z4):=by
 refine fS fun k=>?_;have hl:(K4.flat (List.replicate n z4)).length=n * 4:=by rw [Rw.cZ,eW];rfl
 have hs:(madeCells #[.int .u8 0,.int .u8 0,.int .u8 0,.int .u8 0] (n * 4)).toList.length=n * 4:=by simp [madeCells]
 by_cases hk:k < n * 4
 ·have e:=Rw.flat_get K4 (List.replicate n z4) (k / 4) (k % 4) (by rw [eW];omega) (Nat.mod_lt _ (by decide))
  have e4:k / 4 * K4.n+k % 4=k:=by show k / 4 * 4+k % 4=k;omega
  rw [e4] at e;rw [e];have ez:(List.replicate n z4).getD (k / 4) K4.Qh=z4:=by
   rw [an,List.getElem?_replicate]
   split <;> rfl
  rw [ez];have hm:k % 4 < 4:=Nat.mod_lt _ (by decide);simp only [madeCells,Array.getElem?_toList,Array.getElem?_map,Array.getElem?_range,hk,if_true,fe,ie,eN,gh,fd,Nat.reduceAdd]
  rcases (by omega:k % 4=0\/k % 4=1\/k % 4=2\/k % 4=3) with h | h | h | h <;> rw [h] <;> rfl
 ·rw [hM (by omega),hM (by omega)]
def Aq (w:World) (l:List R4) (e:Ending) (w':World):Prop:=∃ u,e = .returned u/\Ow K4 w' w.heap.size 36 u l/\Below w.heap.size w w'
theorem qN (w:World) (v:Value) (l:List R4) (R:Rd K4 w v l) (hl:l.length<=260):Calls prog 99 #[v] w (Aq w l):=by
 have R0:=Hh R;obtain ⟨a,cap,rfl,⟨h1,h2⟩,hm,_⟩:=R
 cases a with
 | none =>
   have hc:=h2 rfl;have e:l = []:=dr.1 (by omega);subst e hc;clear h1 h2 hm R0;have hnil:∀ W,(binOp .eql 81 (.slice none 0 0) (.slice none 0 0)).run prog W = .ok (.bool true) W:=fun W=>Lib.run_eql_slice_nil_nil W _ _ underlying81
   go_enter func99,ntmps99
   go_wp2
   go_ret
   exact ⟨_,rfl,Ow.nil _ _ _,af _ _⟩
 | some a =>
   have O:=Hh (Ow.made (K:=K4) w w.heap.size 36 (am _));have BB:=Hh ((af w.heap.size w).alloc (am _) (.cells #[] 36));have RB:=Hh (R0.below BB);have HL:=Hh hl;have HA:Hid (∀ (v':Value) (w':World),Ow K4 w' w.heap.size 36 v' ([] ++ l)->Ow K4 w' w.heap.size 36 v' l):=fun v' w' h=>by rw [dq] at h;exact h
   clear h1 h2 R0 hl;have hnil:∀ n W,(binOp .eql 81 (.slice (some a) n cap) (.slice none 0 0)).run prog W = .ok (.bool false) W:=fun n W=>Lib.run_eql_slice_some_nil W _ _ _ underlying81
   go_enter func99,ntmps99
   go_wp2_with (at_builtin;refine Rw.wW underlying81 GJ rfl (by omega) rfl _ _ rfl w.heap.size _ _ rfl O.out _ _ rfl RB.out ?c1 ?c2 ?_)
   case c1=>have:=HL.out;simp;omega
   case c2=>simp
   intro v' w' o2 b2
   have E:Hid (Aq w l (.returned v') w'):=⟨v',rfl,HA _ _ o2,BB.trans b2⟩;obtain ⟨a',c',L',rfl⟩:∃ a c L,v' = .slice a L c:=by obtain ⟨a,c,e,_,_⟩:=o2.slice;exact ⟨a,c,_,e⟩
   clear o2 b2 HA RB O;go_wp2
   go_ret
   exact E
end Fl
namespace Sc
structure In (C:World->Prop) where
 world:World
 ok:C world
def Cl (C:World->Prop) (w':World):Prop:=∃ p:In C,w'=p.world
variable {C:World->Prop}
theorem Cl.of (h:C w'):∃ p:In C,w'=p.world:=⟨⟨w',h⟩,rfl⟩
theorem ay {a:Addr} {v:Value} (h:∀ w',C w'->w'.cell? a=some v) (p:In C):p.world.cell? a=some v:=h _ p.ok
theorem start {P:Program} {id:Nat} {l:List Oper} {Q:Exit->Act->World->Prop} {a:Act} (C:World->Prop) (sc:List (Bool×Nat)) (hm:P.follows .mixedOrders=true) (hs:Region.noSelect l.toArray=true)
 (hg:Sd.good l.toArray sc (Array.replicate l.toArray.size false) l.toArray.size=true) (h0:C w.drew) (h:Sd.aU P l.toArray (fun w'=>∃ p:In C,w'=p.world) (NoPanic Q) (Sd.aK l sc) a w.drew):(Code.region id l.toArray true).wp P Q a w :=
 wp_region_noPanic (wp_region_held_drew (S:=fun w'=>∃ p:In C,w'=p.world) hm (Cl.of h0) fun _=>Sd.sound hs (fun _ _ _ _ _ h=>h) sc _ _ a _ hg (Cl.of h0) h)
end Sc
namespace Fl
open Rw (Rd Ow At)
attribute [local irreducible] Sd.aU wpQuiet
theorem dh {fn:Func} {p r:Tmp} (h:fn.results=#[.cell p 83,.tmp r]) (tmps:Array Value) (w:World) (g1:Nat) (k:Int) (u:Value) (e:Int)
 (hp:tmps.getD p undef = .pointer (some ⟨g1,0,none⟩)) (hr:tmps.getD r undef = .int .i64 e)
 (h1:w.heap[g1]? = some (.cells #[.int .i64 k,u] 83 (0,0))) :
 (results fn tmps).run prog w = .ok (.tuple #[file k u,.int .i64 e]) w:=by
 have e1:=fW (P:=prog) w g1 83 83 #[.int .i64 k,u] (0,0) _ h1 underlying83 rfl (by show _=some 2;kernel_rfl);have hp':tmps[p]?.getD undef = .pointer (some ⟨g1,0,none⟩):=by simpa using hp
 have hr':tmps[r]?.getD undef = .int .i64 e:=by simpa using hr
 simp only [results,h]
 simp [Result.andThen,hp',hr',asAddr,e1,file]
theorem wV (h:R4) (n:Nat):(List.replicate (n+1) z4).set 0 h=h :: List.replicate n z4:=by rw [List.replicate_succ];rfl
def rU (w:World) (p n:Int) (e:Ending) (w':World):Prop:=∃ u,e = .returned (.tuple #[file p u,.int .i64 0])/\Ow K4 w' w.heap.size 36 u (newL p n)/\Below w.heap.size w w'
set_option maxRecDepth 100000 in
theorem vG (w:World) (p n:Int) (hp:newP p n):Calls prog 129 #[.int .i64 p,.int .i64 n] w (rU w p n):=by
 have B0:=Hh ((af w.heap.size w).alloc (am _) (.cells #[.int .i64 0,.slice none 0 0] 83));have HPN:=Hh hp;obtain ⟨p0,p1,n0,n1⟩:=hp;obtain ⟨m,rfl⟩:∃ m:Nat,n=m:=⟨n.toNat,by omega⟩;have P0:=Hh (fun w=>aI (mF p0 p1) (mG w p));have HH:=Hh (fun w=>Lt w p m p0 p1 (by omega) (by omega));have NL:Hid (newL p m=hdr p m :: List.replicate m z4):=rfl;have E:Hid (∀ u w',Ow K4 w' (w.heap.size+1) 36 u (hdr p m :: List.replicate m z4)->Below w.heap.size w w'->rU w p m (.returned (.tuple #[file p u,.int .i64 0])) w'):=fun u w' h hb=>⟨_,rfl,by rw [NL.out];exact h.low (Nat.le_succ _),hb⟩;obtain ⟨i0,hi,hz0,hz1,hz2⟩:=gg GJ;unfold aG at HH;generalize hdr p m=h at *;have hw1:IntKind.i64.wrap (1+(m:Int))=((m+1:Nat):Int):=by rw [cH _ (by omega)];omega
 go_enter func129,ntmps129
 go_wp2_with fail;refine (P0 _).mono ?_;rintro e w1 ⟨rfl,b1⟩;have z1:w.heap.size+1<=w1.heap.size:=by have:=b1.size;simp at this;omega
 have B1:=aN B0 b1;have r0:=(b1.block _ (by simp)).trans (bi w _);clear b1 B0;have hn1:¬ ((m:Int) < 0):=by omega
 have hn2:¬ (256<=(m:Int)):=by omega
 go_wp2_with (at_make;refine wpList_make_full _ rfl _ _ 81 rfl (w.heap.size+1) 36 i0 _ 4 underlying81 hi hz0 hz1 _ _ _ _ (m+1) rfl rfl (by omega) (by omega) ?d1 ?d2 ?d3 ?_)
 case d1=>rw [hz2];omega
 case d2=>unfold maxLen;omega
 case d3=>omega
 intro w2 o2 g2
 have O2:Ow K4 w2 (w.heap.size+1) 36 (.slice (some ⟨w1.heap.size,0,none⟩) (m+1) (m+1)) (List.replicate (m+1) z4):=by
  have e:=Px (m+1);rw [e] at o2
  show w2.ownsRow _ _ K4.n _ (List.replicate (m+1) z4).length _
  rw [eW];exact o2
 have b2:=(af w1.heap.size w1).grown g2 (am _) (fun k e=>by cases e);have B2:=Hh (B1.trans (b2.mono (by omega)));have r2:=(b2.block _ (by omega)).trans r0;have z2:w1.heap.size < w2.heap.size:=by
  obtain ⟨g,cap,e,_,hlt,_⟩:=O2.form (by rw [eW];omega);injection e with e1;injection e1 with e1;injection e1 with e1 _ _
  omega
 have OO:=Hh O2;clear o2 g2 b2 r0 B1 O2;go_wp2_with fail;have row3:=bi w2 (.cells #[.int .i64 p,.slice (some ⟨w1.heap.size,0,none⟩) (m+1) (m+1)] 83);have B3:=Hh (B2.alloc B2.size (.cells #[.int .i64 p,.slice (some ⟨w1.heap.size,0,none⟩) (m+1) (m+1)] 83));have O3:=Hh (OO.alloc (.cells #[.int .i64 p,.slice (some ⟨w1.heap.size,0,none⟩) (m+1) (m+1)] 83));have r3:=(cD w2 (.cells #[.int .i64 p,.slice (some ⟨w1.heap.size,0,none⟩) (m+1) (m+1)] 83) w.heap.size (by omega)).trans r2;have z3:w2.heap.size < (w2.alloc (.cells #[.int .i64 p,.slice (some ⟨w1.heap.size,0,none⟩) (m+1) (m+1)] 83)).heap.size:=by simp
 clear B2 OO r2;generalize w2.alloc (.cells #[.int .i64 p,.slice (some ⟨w1.heap.size,0,none⟩) (m+1) (m+1)] 83)=W at *;generalize w2.heap.size=gF at *;have C0:=row3;have k1:=Sc.ay (C:=fun W':World=>W'.heap[gF]? = some (.cells #[.int .i64 p,.slice (some ⟨w1.heap.size,0,none⟩) (m+1) (m+1)] 83 (0,0))) (a:=⟨gF,1,none⟩) (fun W' h=>ah h 1);have k1':=Fl.rc row3 1;have ne:Nonempty (Sc.In (fun W':World=>W'.heap[gF]? = some (.cells #[.int .i64 p,.slice (some ⟨w1.heap.size,0,none⟩) (m+1) (m+1)] 83 (0,0)))):=⟨⟨_,C0⟩⟩;have hm1:0 < m+1:=by omega
 refine Sc.start (fun W':World=>W'.heap[gF]? = some (.cells #[.int .i64 p,.slice (some ⟨w1.heap.size,0,none⟩) (m+1) (m+1)] 83 (0,0))) [(false,0),(false,1),(false,2),(false,3),(true,4),(false,5),(true,6)] (by kernel_rfl) (by kernel_rfl) (by kernel_rfl) C0 ?_;dsimp only [Sd.aK,List.getElem?_cons_succ,List.getElem?_cons_zero]
 repeat (refine Sd.lit ?_;quiet_step (fail);refine br ?_)
 refine Sd.call (by rfl) (fun K hK=>?_);go_simp;refine (HH _).mono ?_;rintro e w4 ⟨rfl,b4⟩;have b4':=gC ((af W.heap.size W).drew) b4;have B4:=aN B3 b4';have row4:=(b4'.block _ (by omega)).trans row3;have r4:=(b4'.block _ (by omega)).trans r3;have O4:=Hh (O3.keep b4');refine hK _ _ (Sc.Cl.of row4) ?_;clear hK K b4 b4' B3 O3 row3 r3 k1'
 repeat (refine Sd.lit ?_;quiet_step (fail);refine br ?_)
 refine Sd.call (by rfl) (fun K hK=>?_);obtain ⟨g,cap,eg,_,hlt,_,_,hfr,hat⟩:=O4.form (by rw [eW];omega);have O5:=Hh (fG (i:=0) O4 (by rw [eW]) (by rw [eW];omega) h);rw [wV] at O5;have hg1:g=w1.heap.size:=by
  injection eg with e1;injection e1 with e1;injection e1 with e1 _ _;exact e1.symm
 subst hg1;obtain ⟨c0,c1,c2,c3⟩:=ZH hat (by rw [eW];omega);have f0:=hfr 0;have f1:=hfr 1;have f2:=hfr 2;have f3:=hfr 3;have fF:=aH (g:=w1.heap.size) (o:=0) (r:=h) row4 (by omega);have r5:=aH (g:=w1.heap.size) (o:=0) (r:=h) r4 (by omega);have B5:=Hh (aJ (o:=0) (r:=h) B4 (show w.heap.size<=w1.heap.size by omega));clear hfr hat O4 B4 eg;go_simp;refine hK _ _ (Sc.Cl.of fF) ?_;clear hK K c0 c1 c2 c3 f0 f1 f2 f3 row4 r4 k1 ne C0;refine Sd.done ?_;obtain ⟨d0,d1⟩:=BO fF;obtain ⟨e0,e1,f0,f1⟩:=Bw r5;have hne:(Value.slice (some ⟨w1.heap.size,0,none⟩) (m+1) (m+1)).ownBlock≠some w.heap.size:=O5.range (.inl (by omega));have RR:=Hh (aY r5 p (.slice (some ⟨w1.heap.size,0,none⟩) (m+1) (m+1)));have O6:=Hh (dW (u:=.slice (some ⟨w1.heap.size,0,none⟩) (m+1) (m+1)) O5 hne p);have B6:=Hh (aM (p:=p) (v:=.slice (some ⟨w1.heap.size,0,none⟩) (m+1) (m+1)) B5 (am _));clear fF r5 O5 B5 hne
 show Exit.then _ _ _ _ (bf w4 w1.heap.size 0 h)
 generalize bf w4 w1.heap.size 0 h=wS at *;go_wp2
 (try simp only [Exit.inBlock,Exit.then])
 exact bs (v:=.tuple #[file p _,.int .i64 0]) (dh (p:=4) (r:=5) rfl _ _ w.heap.size p _ 0 rfl rfl RR) rfl (E _ _ O6 B6)
end Fl
namespace Fl
open Go.Shelf
attribute [local go_sem] Oper.semAt_some
def jS (r:R4):Nat->Int
 | 0=>r.1
 | 1=>r.2.1
 | 2=>r.2.2.1
 | _=>r.2.2.2
def bump (r:R4):Nat->R4
 | 0=>(IntKind.u8.wrap (r.1+1),r.2.1,r.2.2.1,r.2.2.2)
 | 1=>(r.1,IntKind.u8.wrap (r.2.1+1),r.2.2.1,r.2.2.2)
 | 2=>(r.1,r.2.1,IntKind.u8.wrap (r.2.2.1+1),r.2.2.2)
 | _=>(r.1,r.2.1,r.2.2.1,IntKind.u8.wrap (r.2.2.2+1))
def over (r:R4) (l:List Nat):R4:=l.foldl bump r
def zs:R4->List Nat->Prop
 | _,[]=>True
 | r,i :: t=>jS (bump r i) i=0/\zs (bump r i) t
theorem Np (r:R4) (l:List Nat) (i:Nat):over r (l ++ [i])=bump (over r l) i:=by simp [over]
theorem Lj:∀ (l:List Nat) (r:R4) (i:Nat),zs r l->jS (over r (l ++ [i])) i=0->zs r (l ++ [i])
 | [],_,_,_,h=>⟨h,trivial⟩
 | j :: l,r,i,h,hb=>⟨h.1,Lj l (bump r j) i h.2 hb⟩
theorem iF (x:Int):IntKind.u8.wrap x=x % 256:=by simp [IntKind.wrap,IntKind.signed,IntKind.bits]
def dn:List Nat:=[3,2,1,0]
variable {r q:R4}
theorem xK (hq:bJ q) (h:num r+1=num q\/num r+1=num q+4294967296):q=inc r:=by
 obtain ⟨⟨a0,a1⟩,⟨b0,b1⟩,⟨c0,c1⟩,d0,d1⟩:=hq;have e:(num r+1) % 4294967296=num q:=by unfold num at *;omega
 unfold inc;rw [e];unfold bytes num;refine Prod.ext ?_ (Prod.ext ?_ (Prod.ext ?_ ?_)) <;> simp only <;> omega
theorem U6 (hr:bJ r) (h:zs r dn):over r dn=inc r:=by
 obtain ⟨⟨a0,a1⟩,⟨b0,b1⟩,⟨c0,c1⟩,d0,d1⟩:=hr;obtain ⟨h3,h2,h1,h0,_⟩:=h;simp only [jS,bump,iF] at h0 h1 h2 h3;refine xK ?_ ?_
 ·simp only [over,dn,cz,ce,bump,iF,bJ]
  refine ⟨⟨?_,?_⟩,⟨?_,?_⟩,⟨?_,?_⟩,?_,?_⟩ <;> omega
 ·simp only [over,dn,cz,ce,bump,iF,num]
  omega
variable {i k Bs b m:Nat}
theorem P8 (hr:bJ r) {ini:List Nat} (hk:k < 4) (e:ini ++ [i]=dn.take (k+1)) (h:zs r ini) (hb:jS (over r (ini ++ [i])) i≠0):over r (ini ++ [i])=inc r:=by
 obtain ⟨⟨a0,a1⟩,⟨b0,b1⟩,⟨c0,c1⟩,d0,d1⟩:=hr
 rcases (by omega:k=0\/k=1\/k=2\/k=3) with rfl | rfl | rfl | rfl
 all_goals
  simp only [dn,List.take_succ_cons,List.take_zero] at e
 ·obtain ⟨rfl,e2⟩:=List.append_inj' (show ini ++ [i] = [] ++ [3] from e) rfl
  obtain rfl:i=3:=by simpa using e2
  simp only [over,dq,cz,ce,jS,bump,iF] at hb;refine xK ?_ ?_
  ·simp only [over,dq,cz,ce,bump,iF,bJ]
   refine ⟨⟨?_,?_⟩,⟨?_,?_⟩,⟨?_,?_⟩,?_,?_⟩ <;> omega
  ·simp only [over,dq,cz,ce,bump,iF,num]
   omega
 ·obtain ⟨rfl,e2⟩:=List.append_inj' (show ini ++ [i] = [3] ++ [2] from e) rfl
  obtain rfl:i=2:=by simpa using e2
  obtain ⟨h3,_⟩:=h;simp only [over,dq,eE,cz,ce,jS,bump,iF] at hb h3;refine xK ?_ ?_
  ·simp only [over,dq,eE,cz,ce,bump,iF,bJ]
   refine ⟨⟨?_,?_⟩,⟨?_,?_⟩,⟨?_,?_⟩,?_,?_⟩ <;> omega
  ·simp only [over,dq,eE,cz,ce,bump,iF,num]
   omega
 ·obtain ⟨rfl,e2⟩:=List.append_inj' (show ini ++ [i] = [3,2] ++ [1] from e) rfl
  obtain rfl:i=1:=by simpa using e2
  obtain ⟨h3,h2,_⟩:=h;simp only [over,dq,eE,cz,ce,jS,bump,iF] at hb h3 h2;refine xK ?_ ?_
  ·simp only [over,dq,eE,cz,ce,bump,iF,bJ]
   refine ⟨⟨?_,?_⟩,⟨?_,?_⟩,⟨?_,?_⟩,?_,?_⟩ <;> omega
  ·simp only [over,dq,eE,cz,ce,bump,iF,num]
   omega
 ·obtain ⟨rfl,e2⟩:=List.append_inj' (show ini ++ [i] = [3,2,1] ++ [0] from e) rfl
  obtain rfl:i=0:=by simpa using e2
  obtain ⟨h3,h2,h1,_⟩:=h;simp only [over,dq,eE,cz,ce,jS,bump,iF] at hb h3 h2 h1;refine xK ?_ ?_
  ·simp only [over,dq,eE,cz,ce,bump,iF,bJ]
   refine ⟨⟨?_,?_⟩,⟨?_,?_⟩,⟨?_,?_⟩,?_,?_⟩ <;> omega
  ·simp only [over,dq,eE,cz,ce,bump,iF,num]
   omega
def arr (r:R4):Array Value:=#[.int .u8 r.1,.int .u8 r.2.1,.int .u8 r.2.2.1,.int .u8 r.2.2.2]
def l7 (W:World) (b:Nat) (r:R4):Prop:=W.heap[b]? = some (.cells (arr r) 36 (0,0))
def EK (W:World) (Bs b:Nat):Prop:=W.heap[Bs]? = some (.cells #[.slice (some ⟨b,0,none⟩) 4 4] 34 (0,0))
def Kp (Bs b:Nat) (W W':World):Prop:=(EK W Bs b->EK W' Bs b)/\((∃ r,l7 W b r)->∃ r,l7 W' b r)
theorem Kp.refl (Bs b:Nat) (W:World):Kp Bs b W W:=⟨id,id⟩
theorem Kp.trans {A B C:World} (h:Kp Bs b A B) (k:Kp Bs b B C):Kp Bs b A C:=⟨fun x=>k.1 (h.1 x),fun x=>k.2 (h.2 x)⟩
theorem bF {W:World} (h:l7 W b r) (hm:m < 4):W.cell? ⟨b,m,none⟩=some (.int .u8 (jS r m)):=by
 rw [de W b m (arr r) _ (0,0) h]
 rcases (by omega:m=0\/m=1\/m=2\/m=3) with rfl | rfl | rfl | rfl <;> rfl
theorem Kp.put (hBs:Bs < w.heap.size) (hb:b < w.heap.size) (W:World) (l:Nat) (o o':Obj) (hl:w.heap.size<=l) (_:W.heap[l]? = some o) (_:o.isCells=false) (_:o.isWalk=false):Kp Bs b W (W.putObj l o') :=
 ⟨fun h=>(iz (by omega)).trans h,fun ⟨r,h⟩=>⟨r,(iz (by omega)).trans h⟩⟩
abbrev Rnd:=Fin 4×Int
def Ie (l:List Rnd):List Nat:=l.map (·.1.val)
set_option maxRecDepth 100000 in
theorem Ty (F:Fence) (n:Nat) (hf:F.fn 182) (hro:F.round=none) (hn:1<=n) (l Bs b:Nat) (J Jx:List Rnd->World->Prop)
 (hY:∀ pre x W,J pre W->pre.length < 4->YieldAt F (n - 1) prog l #[.int .i64 (x.1.val:Int),.int .u8 x.2] W fun e W' =>
   (e = .returned (.bool true)/\J (pre ++ [x]) W'/\Kp Bs b W W')\/(e = .returned (.bool false)/\Jx (pre ++ [x]) W'))
 (W:World) (hBs:EK W Bs b) (hb:∃ r,l7 W b r) (h0:J [] W) :
 CallsIn F n prog 182 #[.func (.yield l) #[] #[],.pointer (some ⟨Bs,0,none⟩)] W fun e W'=>(∃ v,e = .returned v) /\
  ((∃ ys,Ie ys=dn/\J ys W')\/(∃ pre,(∃ k,k < 4/\Ie pre=dn.take (k+1))/\Jx pre W')):=by
 refine callsIn_of_wp func182 rfl hf ?_ hro;have c0:=Fl.rc hBs 0;simp only [ntmps182,ie,eN,gh,Nat.reduceAdd,Nat.reduceSub,Array.replicate_succ,Array.replicate_zero,List.push_toArray,List.append_toArray,dq,eE]
 gi_wp2
 gi_loopw [3] (fun i wr=>∃ (m:Nat) (pre:List Rnd),pre.length+m=4/\i = .int .i64 ((m:Int) - 1)/\Ie pre=dn.take (4 - m)/\J pre wr/\Kp Bs b W wr)
  (fun i _=>(intOf i+1).toNat)
 case atStart=>exact ⟨4,[],rfl,rfl,rfl,h0,Kp.refl _ _ _⟩
 case round =>
  obtain ⟨m,pre,hl,rfl,hp,hJs,hK⟩:=hrel;have b0:=Fl.rc (hK.1 hBs) 0;obtain ⟨r,hr⟩:=hK.2 hb
  rcases m with _ | m
  ·rw [show ((0:Nat):Int) - 1 = -1 from rfl]
   gi_wp2
   go_end0
   exact ⟨⟨_,rfl⟩,.inl ⟨_,hp,hJs⟩⟩
  ·have hm:m < 4:=by omega
   rw [show ((m+1:Nat):Int) - 1=m by omega];have hc:=bF hr hm;obtain ⟨fn,tmps,assign,body,hy,hR⟩:=hY pre (⟨m,hm⟩,jS r m) wr hJs (by omega);dsimp only at hy;have hpp:Ie (pre ++ [((⟨m,hm⟩,jS r m):Rnd)])=dn.take (4 - m):=by
    unfold Ie at *;rw [gk,hp]
    rcases (by omega:m=0\/m=1\/m=2\/m=3) with rfl | rfl | rfl | rfl <;> rfl
   gi_wp2
   refine hR.mono ?_;rintro e W3 (⟨rfl,hJ3,hk3⟩ | ⟨rfl,hJx3⟩)
   ·gi_wp2
    go_roundw
    case rel=>exact ⟨m,_,by rw [cW];simp only [eN,gh];omega,by first | rfl | go_num,hpp,hJ3,hK.trans hk3⟩
    case measure=>simp [intOf] <;> omega
   ·gi_wp2
    refine bs (results_none rfl _ _ _) rfl ?_;exact ⟨⟨_,rfl⟩,.inr ⟨_,⟨3 - m,by omega,by rw [hpp];congr 1;omega⟩,hJx3⟩⟩
theorem Yr (F:Fence) (n:Nat) (hf:F.fn 160) (hro:F.round=none) (a:Option Addr) (len cap:Nat) (w:World) :
 CallsIn F n prog 160 #[.slice a len cap] w fun e w'=>e = .returned (.func (.func 182) #[] #[.pointer (some ⟨w.heap.size,0,none⟩)])/\w'=w.alloc (.cells #[.slice a len cap] 34):=by
 refine callsIn_of_wp func160 rfl hf ?_ hro;simp only [ntmps160,ie,eN,gh,Nat.reduceAdd,Nat.reduceSub,Array.replicate_succ,Array.replicate_zero,List.push_toArray,List.append_toArray,dq,eE]
 gi_wp2
 go_ret
 exact ⟨rfl,rfl⟩
theorem Iw (F:Fence) (n:Nat) (hf:F.fn 182) (hro:F.round=none) (hn:1<=n) (Bs b:Nat) (w:World) (hBs:EK w Bs b) (hb:∃ r,l7 w b r) :
 SeqStopsK F n prog 182 #[.pointer (some ⟨Bs,0,none⟩)] (fun x:Rnd=>#[Value.int .i64 (x.1.val:Int),Value.int .u8 x.2]) (Kp Bs b) (fun ys=>Ie ys=dn) (fun pre=>∃ k,k < 4/\Ie pre=dn.take (k+1)) 4 w:=fun l J Jx W hW _ _ hY h0 =>
 Ty F n hf hro hn l Bs b J Jx hY W (bU hW hBs) (by obtain ⟨r,h⟩:=hb;exact ⟨r,bU hW h⟩) h0
end Fl
namespace Fl
open Go.Shelf
attribute [local go_sem] Oper.semAt_some
variable {A B W:World} {row:Option Nat} {g b i:Nat} {cs:Array Value} {t:TypeId}
theorem yI (h:A.heap[g]? = some (.cells cs t (0,0))) (hg:A.grownBy B row) (hr:∀ r,row=some r->∃ o:Obj,A.heap[r]? = some o/\o.isCells=false):B.heap[g]? = some (.cells cs t (0,0)) :=
 (grownBy_keeps_cells hg hr h rfl).trans h
structure Mid (w:World) (r q:R4) (W:World):Prop where
 row:l7 W w.heap.size q
 res:l7 W (w.heap.size+1) z4
 box:EK W (w.heap.size+2) w.heap.size
 aD:Below w.heap.size w W
variable {r q:R4}
theorem Mid.own (h:Mid w r q A) (hg:A.grownBy B row) (hr:∀ x,row=some x->w.heap.size+3<=x/\∃ o:Obj,A.heap[x]? = some o/\o.isCells=false):Mid w r q B :=
 ⟨yI h.row hg fun x e=>(hr x e).2,yI h.res hg fun x e=>(hr x e).2,yI h.box hg fun x e=>(hr x e).2,h.aD.grown hg h.aD.size fun k e=>by have:=(hr k e).1;omega⟩
theorem Xf (h:l7 W b q):∀ i,i < 4->l7 (W.setCell ⟨b,i,none⟩ (.int .u8 ((jS q i+1) % 256))) b (bump q i):=fun i hi=>by
 have:=Rw.heap_setCell_same (j:=i) h (.int .u8 ((jS q i+1) % 256));rw [← iF] at this ⊢
 rcases (by omega:i=0\/i=1\/i=2\/i=3) with rfl | rfl | rfl | rfl <;> exact this
theorem pO {v:Value} (h:W.heap[g]? = some (.cells cs t (0,0))) (hne:g≠b):(W.setCell ⟨b,i,none⟩ v).heap[g]? = some (.cells cs t (0,0)):=(cj W ⟨b,i,none⟩ v g hne).trans h
theorem Mid.step (h:Mid w r q W) (hi:i < 4):Mid w r (bump q i) (W.setCell ⟨w.heap.size,i,none⟩ (.int .u8 ((jS q i+1) % 256))) :=
 ⟨Xf h.row i hi,pO h.res (by omega),pO h.box (by omega),h.aD.setCell (p:=⟨w.heap.size,i,none⟩) (am _) _⟩
theorem Vb (q:R4) (i:Nat) (hi:i < 4):jS (bump q i) i=(jS q i+1) % 256:=by
 rw [← iF]
 rcases (by omega:i=0\/i=1\/i=2\/i=3) with rfl | rfl | rfl | rfl <;> rfl
theorem Mr (h:l7 W b z4):l7 ((((W.setCell ⟨b,0,none⟩ (.int .u8 (jS q 0))).setCell ⟨b,1,none⟩ (.int .u8 (jS q 1))).setCell ⟨b,2,none⟩ (.int .u8 (jS q 2))).setCell ⟨b,3,none⟩ (.int .u8 (jS q 3))) b q :=
 Rw.heap_setCell_same (Rw.heap_setCell_same (Rw.heap_setCell_same (Rw.heap_setCell_same h _) _) _) _
theorem KY {o:Obj} (h:W.heap[g]? = some o) (hne:g≠b):((((W.setCell ⟨b,0,none⟩ (.int .u8 (jS q 0))).setCell ⟨b,1,none⟩ (.int .u8 (jS q 1))).setCell ⟨b,2,none⟩ (.int .u8 (jS q 2))).setCell ⟨b,3,none⟩ (.int .u8 (jS q 3))).heap[g]? = some o :=
 (cj _ _ _ _ hne).trans ((cj _ _ _ _ hne).trans ((cj _ _ _ _ hne).trans ((cj _ _ _ _ hne).trans h)))
theorem Lf (h:Below w.heap.size w W) (hb:w.heap.size<=b):Below w.heap.size w ((((W.setCell ⟨b,0,none⟩ (.int .u8 (jS q 0))).setCell ⟨b,1,none⟩ (.int .u8 (jS q 1))).setCell ⟨b,2,none⟩ (.int .u8 (jS q 2))).setCell ⟨b,3,none⟩ (.int .u8 (jS q 3))) :=
 (((h.setCell (p:=⟨b,0,none⟩) hb _).setCell (p:=⟨b,1,none⟩) hb _).setCell (p:=⟨b,2,none⟩) hb _).setCell (p:=⟨b,3,none⟩) hb _
set_option maxRecDepth 100000 in
theorem aaa (F:Fence) (n:Nat) (h1:F.fn 128) (h2:F.fn 160) (h3:F.fn 182) (hro:F.round=none) (hn:3<=n) (w:World) (r:R4) (hr:bJ r) :
 CallsIn F n prog 128 #[aG r] w fun e W'=>e = .returned (aG (inc r))/\Below w.heap.size w W':=by
 have hn1:1<=n:=by omega
 unfold aG;refine callsIn_of_wp_marks func128 rfl h1 ?_ hro;simp only [ntmps128,ie,eN,gh,Nat.reduceAdd,Nat.reduceSub,Array.replicate_succ,Array.replicate_zero,List.push_toArray,List.append_toArray,dq,eE]
 gi_wp2_with (gi_at_call 160;refine (Yr F (n - 1) h2 hro _ _ _ _).mono ?_;rintro e w' ⟨rfl,rfl⟩)
 obtain ⟨W0,hW0⟩:∃ W0,((w.alloc (.cells #[.int .u8 r.1,.int .u8 r.2.1,.int .u8 r.2.2.1,.int .u8 r.2.2.2] 36)).alloc (.cells #[.int .u8 0,.int .u8 0,.int .u8 0,.int .u8 0] 36)).alloc (.cells #[.slice (some ⟨w.heap.size,0,none⟩) 4 4] 34)=W0:=⟨_,rfl⟩;have M0:Mid w r r W0:=by
  have z1:∀ o,(w.alloc o).heap.size=w.heap.size+1:=fun o=>by simp
  have z2:∀ o o',((w.alloc o).alloc o').heap.size=w.heap.size+2:=fun o o'=>by simp
  subst hW0;refine ⟨?_,?_,?_,(((af w.heap.size w).alloc (am _) _).alloc (by simp) _).alloc (by simp;omega) _⟩
  ·exact (cD _ _ _ (by rw [z2];omega)).trans ((cD _ _ _ (by rw [z1];omega)).trans (bi w _))
  ·have:=bi (w.alloc (.cells #[.int .u8 r.1,.int .u8 r.2.1,.int .u8 r.2.2.1,.int .u8 r.2.2.2] 36)) (.cells #[.int .u8 0,.int .u8 0,.int .u8 0,.int .u8 0] 36)
   rw [z1] at this;exact (cD _ _ _ (by rw [z2];omega)).trans this
  ·have:=bi ((w.alloc (.cells #[.int .u8 r.1,.int .u8 r.2.1,.int .u8 r.2.2.1,.int .u8 r.2.2.2] 36)).alloc (.cells #[.int .u8 0,.int .u8 0,.int .u8 0,.int .u8 0] 36)) (.cells #[.slice (some ⟨w.heap.size,0,none⟩) 4 4] 34)
   rw [z2] at this;exact this
 have hsz:W0.heap.size=w.heap.size+3:=by rw [← hW0];simp
 rw [hW0];refine wpIn_rangeFunc_ownG hro hn1 (gf:=182) (lb:=#[.pointer (some ⟨w.heap.size+2,0,none⟩)]) rfl h3 (enters_of func182 (by kernel_rfl) rfl)
  (Iw F (n - 1) h3 hro (by omega) (w.heap.size+2) w.heap.size W0 M0.box ⟨_,M0.row⟩) (fun h k=>Kp.trans h k) (Kp.put (by omega) (by omega)) (af _ _) (fun _=>rfl)
  (fun pre W=>zs r (Ie pre)/\Mid w r (over r (Ie pre)) W)
  (fun c pre W=>c = .exit 0/\∃ ini i,Ie pre=ini ++ [i]/\zs r ini/\jS (over r (ini ++ [i])) i≠0/\Mid w r (over r (ini ++ [i])) W)
  (fun s A B row hs hg hr=>⟨hs.1,hs.2.own hg (by rw [← hsz];exact hr)⟩)
  (fun c s A B row hs hg hr=>by obtain ⟨h1,ini,i,e1,e2,e3,e4⟩:=hs;exact ⟨h1,ini,i,e1,e2,e3,e4.own hg (by rw [← hsz];exact hr)⟩)
  ⟨trivial,M0⟩
  (fun x=>{ tmps:=#[.agg #[.int .u8 r.1,.int .u8 r.2.1,.int .u8 r.2.2.1,.int .u8 r.2.2.2],.pointer (some ⟨w.heap.size,0,none⟩),.pointer (some ⟨w.heap.size+1,0,none⟩),.int .i64 (x.1.val:Int),.slice (some ⟨w.heap.size,0,none⟩) 4 4,.func (.func 182) #[] #[.pointer (some ⟨w.heap.size+2,0,none⟩)],.int .i64 (x.1.val:Int),.int .u8 x.2,undef,undef,undef,undef,undef,undef,undef,undef,undef,undef],defers:=[] }) ?assign ?body ?done ?stop
 case assign =>
  intro l x W K hK
  gi_wp2
  exact hK
 case body =>
  rintro l pre ⟨⟨i,hi⟩,v⟩ W ⟨hz,M⟩ _;have hc:=bF M.row hi;have hf:=aj M.row i;have MS:=Hh (M.step hi);have ei:Ie (pre ++ [((⟨i,hi⟩,v):Rnd)])=Ie pre ++ [i]:=by simp [Ie]
  have e1:=Np r (Ie pre) i;have e2:=Vb (over r (Ie pre)) i hi;have hne:=Hh (fh ei (fh e1 e2));have HZ:=Hh (fh hz (Lj (Ie pre) r i hz));clear ei e1 e2 hz;have Y:=hi
  rcases (by omega:i=0\/i=1\/i=2\/i=3) with rfl | rfl | rfl | rfl
  all_goals gi_wp2
  all_goals obtain ⟨ei,e1,e2⟩:=hne
  ·exact ⟨(fk _ _ _).from _,rfl,_,_,ei,HZ.out.1,by rw [e1,e2];first | assumption | (rename_i hx;simpa using hx),by rw [e1];exact MS.out⟩
  ·exact ⟨(fk _ _ _).from _,⟨fun _=>MS.box,fun _=>⟨_,MS.row⟩⟩,by rw [ei];exact HZ.out.2 (by rw [e1,e2];first | assumption | (rename_i hx;simpa using hx)),by rw [ei,e1];exact MS.out⟩
  ·exact ⟨(fk _ _ _).from _,rfl,_,_,ei,HZ.out.1,by rw [e1,e2];first | assumption | (rename_i hx;simpa using hx),by rw [e1];exact MS.out⟩
  ·exact ⟨(fk _ _ _).from _,⟨fun _=>MS.box,fun _=>⟨_,MS.row⟩⟩,by rw [ei];exact HZ.out.2 (by rw [e1,e2];first | assumption | (rename_i hx;simpa using hx)),by rw [ei,e1];exact MS.out⟩
  ·exact ⟨(fk _ _ _).from _,rfl,_,_,ei,HZ.out.1,by rw [e1,e2];first | assumption | (rename_i hx;simpa using hx),by rw [e1];exact MS.out⟩
  ·exact ⟨(fk _ _ _).from _,⟨fun _=>MS.box,fun _=>⟨_,MS.row⟩⟩,by rw [ei];exact HZ.out.2 (by rw [e1,e2];first | assumption | (rename_i hx;simpa using hx)),by rw [ei,e1];exact MS.out⟩
  ·exact ⟨(fk _ _ _).from _,rfl,_,_,ei,HZ.out.1,by rw [e1,e2];first | assumption | (rename_i hx;simpa using hx),by rw [e1];exact MS.out⟩
  ·exact ⟨(fk _ _ _).from _,⟨fun _=>MS.box,fun _=>⟨_,MS.row⟩⟩,by rw [ei];exact HZ.out.2 (by rw [e1,e2];first | assumption | (rename_i hx;simpa using hx)),by rw [ei,e1];exact MS.out⟩
 case done =>
  rintro D ys W hD hys ⟨hz,M⟩ hK;rw [hys] at hz M;rw [U6 hr hz] at M;have hc0:=bF M.row (m:=0) (by omega);have hc1:=bF M.row (m:=1) (by omega);have hc2:=bF M.row (m:=2) (by omega);have hc3:=bF M.row (m:=3) (by omega);have d0:=bF M.res (m:=0) (by omega);have d1:=bF M.res (m:=1) (by omega);have d2:=bF M.res (m:=2) (by omega);have d3:=bF M.res (m:=3) (by omega);obtain ⟨f0,f1,f2,f3⟩:=fz4 M.res
  gi_wp2
  have hK':=KY (b:=w.heap.size+1) (q:=inc r) hK (by omega);have RR:=Mr (q:=inc r) M.res;refine ⟨by simp,.inl ⟨_,_,rfl,run_takeDeferred hK',?_⟩⟩;refine ⟨_,results_cell_row (p:=2) rfl _ _ (w.heap.size+1) 36 (arr (inc r)) (0,0) _ rfl ((iz (by omega)).trans RR) underlying36 rfl (by show _=some 4;kernel_rfl),rfl,?_⟩;exact (Lf M.aD (by omega)).trans ((belowK_b (w:=w) (am _) _ D _ _ (by omega) hK' rfl rfl))
 case stop =>
  rintro D c pre W hD ⟨k,hk,e⟩ ⟨rfl,ini,i,e1,e2,e3,M⟩ hK;rw [P8 hr hk (e1.symm.trans e) e2 e3] at M;have hc0:=bF M.row (m:=0) (by omega);have hc1:=bF M.row (m:=1) (by omega);have hc2:=bF M.row (m:=2) (by omega);have hc3:=bF M.row (m:=3) (by omega);have d0:=bF M.res (m:=0) (by omega);have d1:=bF M.res (m:=1) (by omega);have d2:=bF M.res (m:=2) (by omega);have d3:=bF M.res (m:=3) (by omega);obtain ⟨f0,f1,f2,f3⟩:=fz4 M.res
  gi_wp2
  have hK':=KY (b:=w.heap.size+1) (q:=inc r) hK (by omega);have RR:=Mr (q:=inc r) M.res;refine ⟨by simp,.inl ⟨_,_,rfl,run_takeDeferred hK',?_⟩⟩;refine ⟨_,results_cell_row (p:=2) rfl _ _ (w.heap.size+1) 36 (arr (inc r)) (0,0) _ rfl ((iz (by omega)).trans RR) underlying36 rfl (by show _=some 4;kernel_rfl),rfl,?_⟩;exact (Lf M.aD (by omega)).trans ((belowK_b (w:=w) (am _) _ D _ _ (by omega) hK' rfl rfl))
theorem Xy (w:World) (r:R4) (hr:bJ r):Calls prog 128 #[aG r] w fun e w'=>e = .returned (aG (inc r))/\Below w.heap.size w w' :=
 (callsIn_wide (n:=3)).1 (aaa Fence.wide 3 trivial trivial trivial rfl (am _) w r hr)
end Fl
namespace Sz
open Sd (sM eH aK)
open Sc (In)
def mO (P:Program) (md:Region.Mode) (ops:Array Oper) (Q:Exit->Act->World->Prop) (S:World->Prop) (z:Nat):Nat->Array Bool->Act->World->Prop
 | 0,listed,a,w=>Region.ready md ops listed = []/\Q .normal a w
 | fuel+1,listed,a,w =>
   (Region.ready md ops listed = []->Q .normal a w) /\
   ∀ i∈Region.ready md ops listed,wpOp P ops Q i (fun a' w'=>(i=z\/S w')/\mO P md ops Q S z fuel (listed.setIfInBounds i true) a' w') a w
section
variable {P:Program} {md:Region.Mode} {ops:Array Oper} {Q:Exit->Act->World->Prop} {S:World->Prop} {z:Nat}
theorem rY:∀ (fuel:Nat) (listed:Array Bool) (a:Act) (w:World),mO P md ops Q S z fuel listed a w->wpAny P md ops Q fuel listed a w
 | 0,_,_,_,h=>h
 | fuel+1,_,_,_,h=>⟨h.1,fun i hi=>wpOp_mono (fun a' w' h'=>rY fuel _ a' w' h'.2) (h.2 i hi)⟩
def wM (md:Region.Mode) (ops:Array Oper) (z i:Nat) (listed:Array Bool):Prop:=∃ oz e,ops[z]? = some oz/\e∈oz.after/\Region.binds md e=true/\listed.getD e.on true=false/\(e.on=i\/∃ ok,ops[e.on]? = some ok/\∃ e'∈ok.after,Region.binds md e'=true/\e'.on=i)
theorem first {i:Nat} {oi:Oper} {v:Value} (hi:ops[i]? = some oi) (hsel:∀ (j:Nat) (o:Oper) cs b,ops[j]? = some o->o.op≠.select cs b)
 (hQ:∀ c a w,Q (.panic c) (a.put oi.dst v) w->Q (.panic c) a w) :
 ∀ (fuel:Nat) (listed:Array Bool) (a:Act) (w:World),wM md ops z i listed ->
  (∀ j oj,ops[j]? = some oj->j≠i->listed.getD j true=false->(∀ e∈oj.after,Region.binds md e=true->e.on≠i)->oi.apart ops oj=true) ->
  i∈Region.ready md ops listed->YieldsIf P ops S oi v a->S w ->
  mO P md ops Q S z fuel (listed.setIfInBounds i true) (a.put oi.dst v) w->mO P md ops Q S z (fuel+1) listed a w:=by
 intro fuel
 induction fuel with
 | zero =>
   intro listed a w _ _ hr hy hS H
   refine ⟨fun h=>(by rw [h] at hr;cases hr),fun j hj=>?_⟩
   by_cases hji:j=i
   ·subst hji;exact hy.wpOp hi hS ⟨.inr hS,H⟩
   ·have:=ready_mono hj hji
    rw [H.1] at this
    cases this
 | succ fuel ih =>
   intro listed a w hz hfree hr hy hS H
   refine ⟨fun h=>(by rw [h] at hr;cases hr),fun j hj=>?_⟩
   by_cases hji:j=i
   ·subst hji;exact hy.wpOp hi hS ⟨.inr hS,H⟩
   ·have h1:=H.2 j (ready_mono hj hji)
    obtain ⟨hjun,oj,hoj,hall⟩:=mem_ready.1 hj;have hnot:∀ e∈oj.after,Region.binds md e=true->e.on≠i:=fun e he hb heq=>by
     have h1:=hall e he hb;have h0:=(mem_ready.1 hr).1;rw [heq] at h1
     rcases ij i listed.size with h' | h'
     ·simp [h'] at h0 h1;rw [h0] at h1;cases h1
     ·simp [Array.getElem?_eq_none h'] at h1
    obtain ⟨oz,ez,hoz,hez,hbz,hnl,hor⟩:=hz;have low:∀ {k:Nat},listed.getD k true=false->listed.getD k false=false:=fun {k} h=>by
     rcases ij k listed.size with h' | h'
     ·simp [h'] at h ⊢;exact h
     ·simp [Array.getElem?_eq_none h'] at h
    have hjz:j≠z:=fun e=>by
     subst e;rw [hoj] at hoz;obtain rfl:=db hoz;have:=hall ez hez hbz;rw [low hnl] at this
     cases this
    have hje:j≠ez.on:=fun e=>by
     rcases hor with h | ⟨ok,hok,e',he',hb',hon⟩
     ·exact hji (e.trans h)
     ·rw [← e,hoj] at hok
      obtain rfl:=db hok;exact hnot e' he' hb' hon
    have hz':wM md ops z i (listed.setIfInBounds j true):=⟨oz,ez,hoz,hez,hbz,by rw [getD_set_ne true hje];exact hnl,hor⟩;have h2:=wpOp_putIf hoj (hfree j oj hoj hji hjun hnot) (fun cs b=>hsel i oi cs b hi) (fun cs b=>hsel j oj cs b hoj) hQ hy h1;have hfree':∀ k ok,ops[k]? = some ok->k≠i->(listed.setIfInBounds j true).getD k true=false ->
     (∀ e∈ok.after,Region.binds md e=true->e.on≠i)->oi.apart ops ok=true:=fun k ok hk hki hun hno=>by
     refine hfree k ok hk hki ?_ hno
     by_cases hjk:j=k
     ·subst hjk;exact hjun
     ·rw [getD_set_ne true hjk] at hun;exact hun
    refine wpOp_mono (fun a' w' h3=>?_) h2;have hS':=h3.2.1.resolve_left hjz;refine ⟨.inr hS',ih (listed.setIfInBounds j true) a' w' hz' hfree' (ready_mono hr (Ne.symm hji)) h3.1 hS' ?_⟩;rw [iv _ _ hji];exact h3.2.2
variable {listed:Array Bool} {a:Act}
theorem fin (hr:Region.ready md ops listed = []) (h:Q .normal a w) :
 ∀ fuel,mO P md ops Q S z fuel listed a w
 | 0=>⟨hr,h⟩
 | _+1=>⟨fun _=>h,by rw [hr];simp⟩
theorem all {rs:List Nat} {fuel:Nat} (hr:Region.ready md ops listed=rs) (hne:rs≠[])
 (h:∀ i∈rs,wpOp P ops Q i (fun a' w'=>(i=z\/S w')/\mO P md ops Q S z fuel (listed.setIfInBounds i true) a' w') a w):mO P md ops Q S z (fuel+1) listed a w :=
 ⟨fun h0=>absurd (hr ▸ h0) hne,hr ▸ h⟩
end
def tY (ops:Array Oper) (z i:Nat) (listed:Array Bool):Bool:=match ops[z]? with
 | some oz=>oz.after.any fun e=>Region.binds .any e && !listed.getD e.on true && (e.on == i || match ops[e.on]? with
   | some ok=>ok.after.any fun e'=>Region.binds .any e' && e'.on == i
   | none=>false)
 | none=>false
theorem rP {ops:Array Oper} {z i:Nat} {listed:Array Bool} (h:tY ops z i listed=true):wM .any ops z i listed:=by
 unfold tY at h
 cases ho:ops[z]? with
 | none=>rw [ho] at h;cases h
 | some oz =>
   rw [ho] at h;obtain ⟨e,he,hb⟩:=Array.any_eq_true'.1 h;simp only [cg,Bool.not_eq_true',Bool.or_eq_true,beq_iff_eq] at hb;obtain ⟨⟨hb1,hb2⟩,hb3⟩:=hb;refine ⟨oz,e,ho,he,hb1,hb2,?_⟩
   rcases hb3 with h3 | h3
   ·exact .inl h3
   ·cases hk:ops[e.on]? with
    | none=>rw [hk] at h3;cases h3
    | some ok =>
      rw [hk] at h3;obtain ⟨e',he',hb'⟩:=Array.any_eq_true'.1 h3;simp only [cg,beq_iff_eq] at hb';exact .inr ⟨ok,rfl,e',he',hb'.1,hb'.2⟩
def good (ops:Array Oper) (z:Nat):List (Bool×Nat)->Array Bool->Nat->Bool
 | _,_,0=>false
 | [],listed,_+1=>Region.ready .any ops listed == [z] && (Region.ready .any ops (listed.setIfInBounds z true)).isEmpty
 | (h,i) :: r,listed,fuel+1 =>
   (match ops[i]? with
    | some o=>i != z && (if h then Region.ready .any ops listed == [i] else sM o.op && Region.free .any ops listed i && (Region.ready .any ops listed).contains i && tY ops z i listed)
    | none=>false) && good ops z r (listed.setIfInBounds i true) fuel
def lU (P:Program) (ops:Array Oper) (C:World->Prop) (Q:Exit->Act->World->Prop) (E:Act->World->Prop):List (Bool×Oper)->Act->World->Prop
 | [],a,w=>E a w
 | (false,o) :: r,a,w=>wpQuiet P ops C (fun a'=>lU P ops C Q E r a' w) [o] a
 | (true,o) :: r,a,w=>if Region.wanted o (yielded ops a.tmps) then o.wp P a w (fun a' w'=>C w'/\lU P ops C Q E r a' w') Q else lU P ops C Q E r (a.put o.dst undef) w
theorem sound {P:Program} {l:List Oper} {C:World->Prop} {Q:Exit->Act->World->Prop} {z:Nat} {oz:Oper} (hs:Region.noSelect l.toArray=true) (hQ:∀ c d v a w,Q (.panic c) (Act.put a d v) w->Q (.panic c) a w)
 (hoz:l[z]? = some oz) (hgd:oz.guard=none) :
 ∀ (sc:List (Bool×Nat)) (listed:Array Bool) (fuel:Nat) (a:Act) (w:World),good l.toArray z sc listed fuel=true->C w->lU P l.toArray C Q (fun a w=>oz.wp P a w (fun a' w'=>Q .normal a' w') Q) (aK l sc) a w->mO P .any l.toArray Q C z fuel listed a w
 | [],listed,0,a,w,hg,_,h=>by cases hg
 | [],listed,fuel+1,a,w,hg,_,h=>by
   unfold good at hg;simp only [cg,beq_iff_eq,List.isEmpty_iff] at hg;refine all hg.1 (by simp) fun j hj=>?_;obtain rfl:j=z:=by simpa using hj
   have hop:l.toArray[j]? = some oz:=by rw [gc];exact hoz
   unfold wpOp;simp only [hop];rw [az (by simp [Region.wanted,hgd])];exact .inl (Oper.wp_mono (fun a' w' k=>⟨by simp,fin hg.2 k fuel⟩) h)
 | _ :: _,_,0,_,_,hg,_,_=>by cases hg
 | (b,i) :: r,listed,fuel+1,a,w,hg,hC,h=>by
   unfold good at hg;simp only [cg] at hg;obtain ⟨hg1,hg2⟩:=hg;have hll:l.toArray[i]? = l[i]?:=by rw [gc]
   cases ho:l[i]? with
   | none=>rw [hll,ho] at hg1;cases hg1
   | some o =>
     rw [hll,ho] at hg1;simp only [cg,bne_iff_ne,ne_eq] at hg1;obtain ⟨_,hg1⟩:=hg1;have hop:=hll.trans ho;have hp:aK l ((b,i) :: r)=(b,o) :: aK l r:=by rw [aK,ho]
     rw [hp] at h
     cases b with
     | true =>
       simp only [if_true,beq_iff_eq] at hg1;refine all hg1 (by simp) fun j hj=>?_;obtain rfl:j=i:=by simpa using hj
       unfold wpOp;simp only [hop];unfold lU at h
       by_cases hw:Region.wanted o (yielded l.toArray a.tmps)=true
       ·rw [az hw] at h ⊢
        exact .inl (Oper.wp_mono (fun a' w' ⟨c,k⟩=>⟨.inr c,sound hs hQ hoz hgd r _ fuel a' w' hg2 c k⟩) h)
       ·rw [aq hw] at h ⊢
        exact ⟨.inr hC,sound hs hQ hoz hgd r _ fuel _ w hg2 hC h⟩
     | false =>
       simp only [gO,if_false,cg] at hg1;obtain ⟨⟨⟨hk,hf⟩,hr⟩,hbl⟩:=hg1;have hr':i∈Region.ready .any l.toArray listed:=by simpa using hr
       unfold lU at h
       by_cases hw:Region.wanted o (yielded l.toArray a.tmps)=true
       ·unfold wpQuiet at h
        rw [az hw] at h;obtain ⟨v,hv,hn⟩:=h;refine first (v:=v) hop (Region.noSelect_spec hs) (fun c a w=>hQ c _ _ a w) fuel listed a w (rP hbl) (Region.free_spec hop hf) hr' (.inl ⟨hw,fun w' hw'=>?_⟩) hC (sound hs hQ hoz hgd r _ fuel _ w hg2 hC hn)
        have q:=hv w' hw';unfold Oper.quietAt at q
        cases e:(execOp a.eval o).run P w' with
        | halt x w1=>rw [e] at q;cases q
        | ok n w1 =>
          obtain ⟨u,rfl⟩:=eH hk e;rw [e] at q;obtain ⟨e1,e2⟩:=q;rw [e1,e2]
       ·unfold wpQuiet at h
        rw [aq hw] at h;exact first (v:=undef) hop (Region.noSelect_spec hs) (fun c a w=>hQ c _ _ a w) fuel listed a w (rP hbl) (Region.free_spec hop hf) hr' (.inr ⟨by simpa using hw,rfl⟩) hC (sound hs hQ hoz hgd r _ fuel _ w hg2 hC h)
theorem start {P:Program} {id:Nat} {l:List Oper} {Q:Exit->Act->World->Prop} {a:Act} {oz:Oper} (C:World->Prop) (sc:List (Bool×Nat)) (z:Nat) (hm:P.follows .mixedOrders=true) (hs:Region.noSelect l.toArray=true)
 (hg:good l.toArray z sc (Array.replicate l.toArray.size false) l.toArray.size=true) (hoz:l[z]? = some oz) (hgd:oz.guard=none) (h0:C w.drew)
 (h:lU P l.toArray (fun w'=>∃ p:In C,w'=p.world) (NoPanic Q) (fun a w=>oz.wp P a w (fun a' w'=>NoPanic Q .normal a' w') (NoPanic Q)) (aK l sc) a w.drew):(Code.region id l.toArray true).wp P Q a w :=
 wp_region_noPanic (wp_region_any hm (rY _ _ _ _ (sound hs (fun _ _ _ _ _ h=>h) hoz hgd sc _ _ a _ hg (Sc.Cl.of h0) h)))
section
variable {P:Program} {ops:Array Oper} {C:World->Prop} {Q:Exit->Act->World->Prop} {E:Act->World->Prop} {a:Act} {w:World} {o:Oper} {r:List (Bool×Oper)}
theorem done (h:E a w):lU P ops C Q E [] a w:=h
theorem lit (h:wpQuiet P ops C (fun a'=>lU P ops C Q E r a' w) [o] a):lU P ops C Q E ((false,o) :: r) a w:=h
theorem call (hw:Region.wanted o (yielded ops a.tmps)=true) (h:∀ K:Act->World->Prop,(∀ a w,C w->lU P ops C Q E r a w->K a w)->o.wp P a w K Q):lU P ops C Q E ((true,o) :: r) a w:=by
 unfold lU;rw [az hw];exact h _ fun a w c k=>⟨c,k⟩
end
end Sz
