import Derived.Test.YtljnkaodhfnbbaaGreatDoorChecked
import Derived.WalkKit
import Derived.Laws.AppendOwn
import Derived.OwnWalk
import Derived.Laws.OwnMore
import Derived.BigQuiet
import Derived.OneCell
import Derived.Deep.Draws
import Derived.Lib.Hide
import Derived.LoopTactic
import Derived.Outline
import Derived.Deep.LoopGhost
import Derived.Deep.QuietTactic
import Derived.WalkSmall
import Derived.Laws.ResultCell
import Derived.ChangeKeysEq
import Derived.Laws.StructEq
import Derived.DeepKeys
import Derived.Laws.Rows
import Derived.Deep.WholeRow
import Derived.ProofKit
import Derived.OpenShut
import Derived.ChangeOld
import Derived.Deep.Slices
import Derived.WideShapes
import Derived.OrdersHeld
import Derived.Deep.RegionHeld3
import Derived.Laws.MakeOwn
import Derived.Lib.BufferMore
set_option maxRecDepth 100000
namespace Go.Proofs.YtljnkaodhfnbbaaGreatDoor.Nm
abbrev S:=Int×Int
def zS:S:=(0,0)
def sa (l:List S) (i:Nat):S:=l.getD i zS
theorem sa_get {l:List S} {i:Nat} (h:i < l.length):l[i]? = some (sa l i):=by
 unfold sa;rw [List.getD_eq_getElem?_getD,List.getElem?_eq_getElem h]
 rfl
theorem sa_set {l:List S} {i:Nat} (h:i < l.length) (x:S) (j:Nat):sa (l.set i x) j=if j=i then x else sa l j:=by
 unfold sa;rw [List.getD_eq_getElem?_getD,List.getD_eq_getElem?_getD,List.getElem?_set]
 by_cases e:i=j
 ·subst e
  rw [if_pos rfl,if_pos rfl,if_pos h]
  rfl
 ·rw [if_neg e,if_neg fun g=>e g.symm]
theorem mem_sa {l:List S} {x:S} : x∈l↔∃ i,i < l.length∧sa l i=x:=by
 constructor
 ·intro h
  obtain ⟨i,hi⟩:=List.getElem?_of_mem h;have hl:=(List.getElem?_eq_some_iff.1 hi).1;refine ⟨i,hl,?_⟩;have:=sa_get hl;rw [hi] at this;exact (Option.some.inj this).symm
 ·rintro ⟨i,hi,rfl⟩
  exact List.mem_of_getElem? (sa_get hi)
def bad (x y:S):Prop:=y.1=x.1∨(y.2=x.2∧0 < x.2)
instance (x y:S):Decidable (bad x y):=by unfold bad;infer_instance
def okN (x:S):Prop:=0≤x.2∧x.2≤254
instance (x:S):Decidable (okN x):=by unfold okN;infer_instance
def okP (l:List S) (i:Nat):Prop:=∀ k,k < i→okN (sa l k)∧∀ j,j < k→¬ bad (sa l k) (sa l j)
structure Gd (l:List S):Prop where
 len:l.length≤32
 ok:okP l l.length
noncomputable def gdB (l:List S):Bool:=@decide (Gd l) (Classical.propDecidable _)
section
variable {l:List S} (h:Gd l)
include h
theorem Gd.num {i:Nat} (hi:i < l.length):okN (sa l i):=(h.ok i hi).1
theorem Gd.phys {i j:Nat} (hi:i < l.length) (hj:j < l.length) (e:(sa l i).1=(sa l j).1):i=j:=by
 rcases Nat.lt_trichotomy i j with g | g | g
 ·exact absurd (.inl e) ((h.ok j hj).2 i g)
 ·exact g
 ·exact absurd (.inl e.symm) ((h.ok i hi).2 j g)
theorem Gd.name {i j:Nat} (hi:i < l.length) (hj:j < l.length) (e:(sa l i).2=(sa l j).2) (h0:0 < (sa l i).2):i=j:=by
 rcases Nat.lt_trichotomy i j with g | g | g
 ·exact absurd (.inr ⟨e,by omega⟩) ((h.ok j hj).2 i g)
 ·exact g
 ·exact absurd (.inr ⟨e.symm,h0⟩) ((h.ok i hi).2 j g)
end
theorem gd_of {l:List S} (h0:l.length≤32) (h1:∀ i,i < l.length→okN (sa l i)) (h2:∀ i j,i < l.length→j < l.length→(sa l i).1=(sa l j).1→i=j) (h3:∀ i j,i < l.length→j < l.length→(sa l i).2=(sa l j).2→0 < (sa l i).2→i=j):Gd l :=
 ⟨h0,fun k hk=>⟨h1 k hk,fun j hj b=>by
  rcases b with b | ⟨b,p⟩
  ·have:=h2 j k (by omega) hk b;omega
  ·have:=h3 k j hk (by omega) b.symm p;omega⟩⟩
def hs (l:List S) (n:Int):Bool:=l.any fun x=>decide (x.2=n)
theorem hs_iff {l:List S} {n:Int} : hs l n=true↔∃ i,i < l.length∧(sa l i).2=n:=by
 unfold hs;rw [List.any_eq_true]
 constructor
 ·rintro ⟨x,hx,e⟩
  obtain ⟨i,hi,rfl⟩:=mem_sa.1 hx;exact ⟨i,hi,by simpa using e⟩
 ·rintro ⟨i,hi,e⟩
  exact ⟨_,mem_sa.2 ⟨i,hi,rfl⟩,by simpa using e⟩
def frF (l:List S) (most:Int):Nat→Nat→Nat
 | _,0=>0
 | n,f+1=>if (n:Int)≤most then (if hs l n=true then frF l most (n+1) f else n) else 0
def fr (l:List S) (most:Int):Nat:=frF l most 1 254
theorem frF_some {l:List S} {most:Int} : ∀ {f n:Nat},0 < n→0 < frF l most n f→n≤frF l most n f∧frF l most n f < n+f∧(frF l most n f:Int)≤most∧hs l (frF l most n f)=false∧∀ m:Nat,n≤m→m < frF l most n f→hs l m=true
 | 0,n,_,h=>by simp [frF] at h
 | f+1,n,h0,h=>by
   unfold frF at h ⊢
   by_cases hm:(n:Int)≤most
   ·rw [if_pos hm] at h ⊢
    cases hh:hs l n with
    | true =>
      rw [hh,if_pos rfl] at h;rw [if_pos rfl];obtain ⟨a,b,c,d,e⟩:=frF_some (f:=f) (n:=n+1) (by omega) h;refine ⟨by omega,by omega,c,d,fun m h1 h2=>?_⟩
      by_cases g:m=n
      ·subst g;exact hh
      ·exact e m (by omega) h2
    | false =>
      rw [if_neg (by decide)];exact ⟨Nat.le_refl _,by omega,hm,hh,fun m h1 h2=>by omega⟩
   ·rw [if_neg hm] at h
    omega
def lsK (l:List S):Nat→Int
 | 0=>-1
 | k+1=>if (sa l k).2=0∧(lsK l k < 0∨(sa l k).1 < (sa l (lsK l k).toNat).1) then k else lsK l k
theorem lsK_spec (l:List S):∀ k,(lsK l k = -1∧∀ j,j < k→(sa l j).2≠0)∨∃ i:Nat,lsK l k=i∧i < k∧(sa l i).2=0∧∀ j,j < k→(sa l j).2=0→(sa l i).1≤(sa l j).1
 | 0=>.inl ⟨rfl,fun j h=>absurd h (Nat.not_lt_zero j)⟩
 | k+1=>by
   unfold lsK
   rcases lsK_spec l k with ⟨e,h⟩ | ⟨i,e,hi,h0,h⟩
   ·rw [e]
    by_cases hk:(sa l k).2=0
    ·rw [if_pos ⟨hk,.inl (by decide)⟩]
     refine .inr ⟨k,rfl,by omega,hk,fun j hj h0=>?_⟩
     by_cases g:j=k
     ·subst g;exact Int.le_refl _
     ·exact absurd h0 (h j (by omega))
    ·rw [if_neg fun g=>hk g.1]
     refine .inl ⟨rfl,fun j hj=>?_⟩
     by_cases g:j=k
     ·subst g;exact hk
     ·exact h j (by omega)
   ·rw [e]
    by_cases hk:(sa l k).2=0∧((i:Int) < 0∨(sa l k).1 < (sa l (i:Int).toNat).1)
    ·rw [if_pos hk]
     have hlt:(sa l k).1 < (sa l i).1:=by
      rcases hk.2 with g | g
      ·omega
      ·simpa using g
     refine .inr ⟨k,rfl,by omega,hk.1,fun j hj g0=>?_⟩
     by_cases g:j=k
     ·subst g;exact Int.le_refl _
     ·have:=h j (by omega) g0;omega
    ·rw [if_neg hk]
     refine .inr ⟨i,rfl,by omega,h0,fun j hj g0=>?_⟩
     by_cases g:j=k
     ·subst g
      have:¬ (sa l j).1 < (sa l i).1:=fun q=>hk ⟨g0,.inr (by simpa using q)⟩
      omega
     ·exact h j (by omega) g0
def ls (l:List S):Int:=lsK l l.length
def asg:Nat→List S→Int→List S×Int
 | 0,l,_=>(l,0)
 | f+1,l,most=>if ls l < 0 then (l,0) else if fr l most=0 then (l,11) else asg f (l.set (ls l).toNat ((sa l (ls l).toNat).1,(fr l most:Int))) most
def cn (l:List S):Nat:=(l.filter fun x=>decide (x.2=0)).length
theorem ls_spec (l:List S):(ls l = -1∧∀ j,j < l.length→(sa l j).2≠0)∨∃ i:Nat,ls l=i∧i < l.length∧(sa l i).2=0∧∀ j,j < l.length→(sa l j).2=0→(sa l i).1≤(sa l j).1:=lsK_spec l l.length
theorem asg_next {f:Nat} {c:List S} {most:Int} {i:Nat} (h:ls c=i) (h2:0 < fr c most):asg (f+1) c most=asg f (c.set i ((sa c i).1,(fr c most:Int))) most:=by
 show (if ls c < 0 then (c,(0:Int)) else if fr c most=0 then (c,11) else asg f (c.set (ls c).toNat ((sa c (ls c).toNat).1,(fr c most:Int))) most)=_
 rw [h,if_neg (by omega),if_neg (by omega)]
 simp
theorem asg_done {f:Nat} {c:List S} {most:Int} (h:ls c < 0):asg (f+1) c most=(c,0):=if_pos h
theorem asg_full {f:Nat} {c:List S} {most:Int} (h:¬ ls c < 0) (h2:fr c most=0):asg (f+1) c most=(c,11):=by
 show (if ls c < 0 then (c,(0:Int)) else if fr c most=0 then (c,11) else _)=_
 rw [if_neg h,if_pos h2]
theorem cn_set {c:List S} {i:Nat} {x:S} (hi:i < c.length) (h0:(sa c i).2=0) (hx:x.2≠0):cn (c.set i x)+1=cn c:=by
 unfold cn
 induction c generalizing i with
 | nil=>simp at hi
 | cons y r ih =>
   cases i with
   | zero =>
     have hy:y.2=0:=h0
     simp [hy,hx]
   | succ i =>
     have:=ih (i:=i) (by simpa using hi) h0;rw [List.set_cons_succ,List.filter_cons,List.filter_cons]
     split
     ·simp only [List.length_cons];omega
     ·exact this
theorem cn_le (c:List S):cn c≤c.length:=List.length_filter_le _ _
end Go.Proofs.YtljnkaodhfnbbaaGreatDoor.Nm
namespace Go.Proofs.YtljnkaodhfnbbaaGreatDoor.Rw
open Go.RowKit
structure Kind (α:Type) where
 enc:α→List Value
 n:Nat
 pos:0 < n
 len:∀ a,(enc a).length=n
 one:∀ a,∀ u∈enc a,u.oneCell'=true
 dft:α
def int (k:IntKind):Kind Int:=⟨fun z=>[.int k z],1,by decide,fun _=>rfl,fun _ u h=>by simp at h;subst h;rfl,0⟩
section
variable {α:Type} (K:Kind α)
def Kind.flat (l:List α):List Value:=l.flatMap K.enc
theorem flat_length:∀ l:List α,(K.flat l).length=l.length * K.n
 | []=>by simp [Kind.flat]
 | s :: r=>by
   have ih:=flat_length r;simp only [Kind.flat,List.flatMap_cons,List.length_append,K.len,List.length_cons] at ih ⊢;rw [ih,Nat.add_mul,Nat.one_mul,Nat.add_comm]
theorem flat_append (a b:List α):K.flat (a ++ b)=K.flat a ++ K.flat b:=by simp [Kind.flat]
theorem flat_one (l:List α):∀ u∈K.flat l,u.oneCell'=true:=fun u hu=>by
 obtain ⟨a,_,h⟩:=List.mem_flatMap.1 hu;exact K.one a u h
theorem flat_get:∀ (l:List α) (i j:Nat),i < l.length→j < K.n→(K.flat l)[i * K.n+j]? = (K.enc (l.getD i K.dft))[j]?
 | s :: r,0,j,_,hj=>by
   show (K.enc s ++ K.flat r)[0 * K.n+j]? = (K.enc s)[j]?
   rw [Nat.zero_mul,Nat.zero_add,List.getElem?_append_left (by rw [K.len];exact hj)]
 | s :: r,i+1,j,h,hj=>by
   have ih:=flat_get r i j (by simpa using h) hj
   show (K.enc s ++ K.flat r)[(i+1) * K.n+j]? = (K.enc (r.getD i K.dft))[j]?
   rw [List.getElem?_append_right (by rw [K.len,Nat.add_mul];omega),K.len,show (i+1) * K.n+j - K.n=i * K.n+j by rw [Nat.add_mul];omega];exact ih
def At (w:World) (b off:Nat) (l:List α):Prop:=∀ i,i < l.length→∀ j u,(K.enc (l.getD i K.dft))[j]? = some u→w.cell? ⟨b,off+i * K.n+j,none⟩=some u
def Rd (w:World) (v:Value) (l:List α):Prop:=∃ a cap,v = .slice a l.length cap∧(l.length≤cap∧(a=none→cap=0))∧cap≤maxLen∧(0 < l.length→∃ b off,a=some ⟨b,off,none⟩∧At K w b off l)
def Ow (w:World) (B E:Nat) (v:Value) (l:List α):Prop:=w.ownsRow B E K.n v l.length (K.flat l)
variable {K}
variable {w w':World} {B E:Nat} {v:Value} {l:List α}
theorem At.below {b off:Nat} (h:At K w b off l) (hb:Below w.heap.size w w'):At K w' b off l:=fun i hi j u hu=>(hb.cell (World.block_lt_of_cell? _ _ (h i hi j u hu))).trans (h i hi j u hu)
theorem Rd.below (h:Rd K w v l) (hb:Below w.heap.size w w'):Rd K w' v l:=by
 obtain ⟨a,cap,e,h1,h2,h3⟩:=h;exact ⟨a,cap,e,h1,h2,fun hp=>by obtain ⟨b,off,ea,hA⟩:=h3 hp;exact ⟨b,off,ea,hA.below hb⟩⟩
theorem Rd.slice (h:Rd K w v l):∃ a cap,v = .slice a l.length cap∧cap≤maxLen:=by
 obtain ⟨a,cap,e,_,h2,_⟩:=h;exact ⟨a,cap,e,h2⟩
theorem Rd.nil (w:World):Rd K w (.slice none 0 0) []:=⟨none,0,rfl,⟨Nat.le_refl _,fun _=>rfl⟩,by unfold maxLen;omega,fun h=>by simp at h⟩
theorem Ow.nil (w:World) (B E:Nat):Ow K w B E (.slice none 0 0) []:=World.ownsRow_nil _ _ _ _
theorem Ow.made (w:World) (B E:Nat) (hB:B≤w.heap.size):Ow K (w.alloc (.cells #[] E)) B E (.slice (some ⟨w.heap.size,0,none⟩) 0 0) [] :=
 World.ownsRow_made w #[] 0 hB (by unfold maxLen;omega) (by simp)
theorem Ow.rd (h:Ow K w B E v l):Rd K w v l:=by
 have hc:=fun g hg j u=>World.ownsRow.cells h (g:=g) hg j u;obtain ⟨_,h⟩:=h
 rcases h with ⟨rfl,h0⟩ | ⟨g,cap,cur,rfl,_,_,h1,h2,_⟩
 ·exact ⟨none,0,by rw [h0],⟨by omega,fun _=>rfl⟩,by unfold maxLen;omega,fun h=>by omega⟩
 ·refine ⟨_,cap,rfl,⟨h1,nofun⟩,h2,fun _=>⟨g,0,rfl,fun i hi j u hu=>?_⟩⟩
  have hj:j < K.n:=by have:=(List.getElem?_eq_some_iff.1 hu).1;rw [K.len] at this;exact this
  have c:=hc g rfl _ _ ((flat_get K l i j hi hj).trans hu);simp only [Addr.add_lit] at c;rw [Nat.add_assoc];exact c
theorem Ow.form (h:Ow K w B E v l) (hl:0 < l.length):∃ g cap,v = .slice (some ⟨g,0,none⟩) l.length cap∧B≤g∧g < w.heap.size∧l.length≤cap∧cap≤maxLen∧(∀ k,w.frozen? ⟨g,k,none⟩=false)∧At K w g 0 l:=by
 have hr:=h.rd;obtain ⟨_,h⟩:=h
 rcases h with ⟨_,h0⟩ | ⟨g,cap,cur,rfl,hB,hh,h1,h2,_⟩
 ·omega
 ·refine ⟨g,cap,rfl,hB,lt_of_block hh,h1,h2,fun k=>by simp [World.frozen?,hh],?_⟩
  obtain ⟨a,cap',e,_,_,h3⟩:=hr;obtain ⟨b,off,ea,hA⟩:=h3 hl;subst ea;injection e with e1 _ _;injection e1 with e1;injection e1 with e1 e2;subst e1 e2;exact hA
theorem Ow.slice (h:Ow K w B E v l):∃ a cap,v = .slice a l.length cap∧l.length≤cap∧cap≤maxLen:=by
 obtain ⟨_,h⟩:=h
 rcases h with ⟨rfl,h0⟩ | ⟨g,cap,cur,rfl,_,_,h1,h2,_⟩
 ·exact ⟨none,0,by rw [h0],by omega,by unfold maxLen;omega⟩
 ·exact ⟨_,_,rfl,h1,h2⟩
theorem Ow.alloc (h:Ow K w B E v l) (o:Obj):Ow K (w.alloc o) B E v l:=World.ownsRow.alloc h o
theorem Ow.draw (h:Ow K w B E v l) (n:Nat):Ow K (w.drewN n) B E v l:=h
theorem Ow.keep (h:Ow K w B E v l) (hb:Below w.heap.size w w'):Ow K w' B E v l:=by
 obtain ⟨h1,h2⟩:=h;refine ⟨h1,?_⟩
 rcases h2 with h2 | ⟨g,cap,cur,e,hB,hh,r⟩
 ·exact .inl h2
 ·exact .inr ⟨g,cap,cur,e,hB,(hb.block g (lt_of_block hh)).trans hh,r⟩
theorem Ow.low {B':Nat} (h:Ow K w B E v l) (hB:B'≤B):Ow K w B' E v l:=by
 obtain ⟨h1,h2⟩:=h;refine ⟨h1,?_⟩
 rcases h2 with h2 | ⟨g,cap,cur,e,hb,hh,r⟩
 ·exact .inl h2
 ·exact .inr ⟨g,cap,cur,e,by omega,hh,r⟩
theorem heap_setCell_same {g j:Nat} {cur:Array Value} {E:TypeId} (hh:w.heap[g]? = some (.cells cur E (0,0))) (u:Value):(w.setCell ⟨g,j,none⟩ u).heap[g]? = some (.cells (cur.setIfInBounds j u) E (0,0)):=by
 have hlt:=lt_of_block hh;have h':w.heap[g] = .cells cur E (0,0):=by simpa [Array.getElem?_eq_getElem hlt] using hh
 show (w.heap.modify g _)[g]? = _
 rw [Array.getElem?_eq_getElem (by simpa using hlt),Array.getElem_modify_self,h']
 rfl
theorem flat_set:∀ (l:List α) (i j:Nat) (u:Value) (s:α),i < l.length→j < K.n→K.enc s=(K.enc (l.getD i K.dft)).set j u→(K.flat l).set (i * K.n+j) u=K.flat (l.set i s)
 | a :: r,0,j,u,s,_,hj,he=>by
   show (K.enc a ++ K.flat r).set (0 * K.n+j) u=K.enc s ++ K.flat r
   have he':K.enc s=(K.enc a).set j u:=he;rw [Nat.zero_mul,Nat.zero_add,List.set_append_left _ _ (by rw [K.len];exact hj),he']
 | a :: r,i+1,j,u,s,h,hj,he=>by
   have ih:=flat_set r i j u s (by simpa using h) hj he
   show (K.enc a ++ K.flat r).set ((i+1) * K.n+j) u=K.enc a ++ K.flat (r.set i s)
   rw [List.set_append_right _ _ (by rw [K.len,Nat.add_mul];omega),K.len,show (i+1) * K.n+j - K.n=i * K.n+j by rw [Nat.add_mul];omega,ih]
theorem Ow.set {g cap:Nat} (h:Ow K w B E (.slice (some ⟨g,0,none⟩) l.length cap) l) (i j:Nat) (hi:i < l.length) (hj:j < K.n) (u:Value) (s:α) (he:K.enc s=(K.enc (l.getD i K.dft)).set j u) :
 Ow K (w.setCell ⟨g,i * K.n+j,none⟩ u) B E (.slice (some ⟨g,0,none⟩) l.length cap) (l.set i s):=by
 obtain ⟨h1,h2⟩:=h;refine ⟨by rw [flat_length],?_⟩
 rcases h2 with ⟨e,_⟩ | ⟨g',cap',cur,e,hB,hh,k1,k2,k3,k4⟩
 ·simp at e
 ·injection e with e1 e2 e3
  injection e1 with e1;injection e1 with e1;subst e1 e3;refine .inr ⟨_,_,_,by rw [List.length_set],hB,heap_setCell_same hh _,by rw [List.length_set];exact k1,k2,by simp [k3],?_⟩;rw [← flat_set l i j u s hi hj he,← k4,List.length_set]
  simp [List.take_set]
theorem Ow.push {v':Value} {s:α} (h:w'.ownsRow B E K.n v' (l.length+1) (K.flat l ++ K.enc s)):Ow K w' B E v' (l ++ [s]):=by
 show w'.ownsRow B E K.n v' (l ++ [s]).length (K.flat (l ++ [s]))
 rw [flat_append,List.length_append];have e:K.flat [s]=K.enc s:=by simp [Kind.flat]
 rw [e];exact h
theorem push_step {P:Program} {ops:Array Oper} {rest:List Oper} {o:Oper} {a:Act} {Q:Exit→Act→World→Prop} {T:TypeId} {z:Value} {bytes:Nat} (ht:P.underlying T=some (.slice E))
 (hi:(P.info? E).map (fun i=>(i.zero,i.size,i.bytes))=some (some z,K.n,bytes)) (hz:z.cells.size=K.n) (hby:bytes≤64) (hgd:o.guard=none) (s x:Operand)
 (ho:o.op = .call { callee:=.builtin .append,args:=#[s,x],argTypes:=#[T,T] }) (B:Nat) (v:Value) (l:List α) (hs:a.eval s=v) (hown:Ow K w B E v l)
 (ad:Addr) (c:α) (hx:a.eval x = .slice (some ad) 1 1) (hc:∀ j u,(K.enc c)[j]? = some u→w.cell? (ad.add j)=some u) (hlen:l.length < 2199023255552) (hB:B≤w.heap.size)
 (h:∀ v' w',Ow K w' B E v' (l ++ [c])→Below B w w'→wpList P ops Q rest (a.put o.dst v') w'):wpList P ops Q (o :: rest) a w:=by
 obtain ⟨i0,hi0,hz0,hz1,hz2⟩:=info_parts hi;have hb:(l.length+1) * bytes≤140737488355328:=Nat.le_trans (Nat.mul_le_mul (show l.length+1≤2199023255552 by omega) hby) (by omega);refine wpList_append_own _ hgd s x T ho B E i0 z K.n bytes ht hi0 hz0 hz1 hz2 hz K.pos v l.length (K.flat l) hs hown ad 1 1 (K.enc c) hx (by rw [K.len,Nat.one_mul]) hc (K.one c) (by unfold maxLen;omega) hb hB ?_
 intro v' w' h2 h3 _
 exact h v' w' (Ow.push h2) ((Below.refl B w).grown h3 hB fun k hk=>(World.ownsRow.lt hown k hk).1)
def Far (E:TypeId) (w w':World):Prop:=∀ (g:Nat) (cs:Array Value) (t:TypeId),w.heap[g]? = some (Obj.cells cs t (0,0))→t≠E→w'.heap[g]? = some (Obj.cells cs t (0,0))
theorem Far.refl (E:TypeId) (w:World):Far E w w:=fun _ _ _ h _=>h
theorem Ow.apart (h:Ow K w B E v l) {g:Nat} {cs:Array Value} {t:TypeId} (hg:w.heap[g]? = some (.cells cs t (0,0))) (ht:t≠E):v.ownBlock≠some g:=by
 obtain ⟨_,h⟩:=h
 rcases h with ⟨rfl,_⟩ | ⟨k,cap,cur,rfl,_,hh,_⟩
 ·simp [Value.ownBlock]
 ·intro e
  simp only [Value.ownBlock,Option.some.injEq] at e;subst e;rw [hg] at hh;injection hh with hh;injection hh with _ h2 _;exact ht h2
theorem far_grown (h:Ow K w B E v l) (hg:w.grownBy w' v.ownBlock):Far E w w':=fun g cs t hh ht=>by
 rw [hg.block g (lt_of_block hh) (fun e=>h.apart hh ht e.symm)];exact hh
theorem Ow.far (h:Ow K w B E v l) {p:Addr} {cs:Array Value} {t:TypeId} (hp:w.heap[p.block]? = some (.cells cs t (0,0))) (ht:t≠E) (u:Value):Ow K (w.setCell p u) B E v l:=by
 have ha:=h.apart hp ht;obtain ⟨h1,h2⟩:=h;refine ⟨h1,?_⟩
 rcases h2 with h2 | ⟨g,cap,cur,rfl,hB,hh,r⟩
 ·exact .inl h2
 ·have hne:g≠p.block:=fun e=>ha (by simp [Value.ownBlock,e])
  exact .inr ⟨g,cap,cur,rfl,hB,(Below.heap_setCell w p u g hne).trans hh,r⟩
theorem Ow.range (h:Ow K w B E v l) {g:Nat} (hg:g < B∨w.heap.size≤g):v.ownBlock≠some g:=fun e=>by
 have:=World.ownsRow.lt h g e
 omega
theorem Ow.off (h:Ow K w B E v l) {p:Addr} (hp:v.ownBlock≠some p.block) (u:Value):Ow K (w.setCell p u) B E v l:=by
 obtain ⟨h1,h2⟩:=h;refine ⟨h1,?_⟩
 rcases h2 with h2 | ⟨g,cap,cur,rfl,hB,hh,r⟩
 ·exact .inl h2
 ·have hne:g≠p.block:=fun e=>hp (by simp [Value.ownBlock,e])
  exact .inr ⟨g,cap,cur,rfl,hB,(Below.heap_setCell w p u g hne).trans hh,r⟩
theorem Ow.lit (w:World) (B E:Nat) (l:List α) (hB:B≤w.heap.size) (hm:l.length≤maxLen):Ow K (w.alloc (.cells (K.flat l).toArray E)) B E (.slice (some ⟨w.heap.size,0,none⟩) l.length l.length) l :=
 World.ownsRow_lit w _ l.length hB hm (by rw [List.size_toArray,flat_length])
theorem push_far {P:Program} {ops:Array Oper} {rest:List Oper} {o:Oper} {a:Act} {Q:Exit→Act→World→Prop} {T:TypeId} {z:Value} {bytes:Nat} (ht:P.underlying T=some (.slice E))
 (hi:(P.info? E).map (fun i=>(i.zero,i.size,i.bytes))=some (some z,K.n,bytes)) (hz:z.cells.size=K.n) (hby:bytes≤64) (hgd:o.guard=none) (s x:Operand)
 (ho:o.op = .call { callee:=.builtin .append,args:=#[s,x],argTypes:=#[T,T] }) (B:Nat) (v:Value) (l:List α) (hs:a.eval s=v) (hown:Ow K w B E v l)
 (ad:Addr) (c:α) (hx:a.eval x = .slice (some ad) 1 1) (hc:∀ j u,(K.enc c)[j]? = some u→w.cell? (ad.add j)=some u) (hlen:l.length < 2199023255552) (hB:B≤w.heap.size)
 (h:∀ v' w',Ow K w' B E v' (l ++ [c])→Below B w w'→Far E w w'→wpList P ops Q rest (a.put o.dst v') w'):wpList P ops Q (o :: rest) a w:=by
 obtain ⟨i0,hi0,hz0,hz1,hz2⟩:=info_parts hi;have hb:(l.length+1) * bytes≤140737488355328:=Nat.le_trans (Nat.mul_le_mul (show l.length+1≤2199023255552 by omega) hby) (by omega);refine wpList_append_own _ hgd s x T ho B E i0 z K.n bytes ht hi0 hz0 hz1 hz2 hz K.pos v l.length (K.flat l) hs hown ad 1 1 (K.enc c) hx (by rw [K.len,Nat.one_mul]) hc (K.one c) (by unfold maxLen;omega) hb hB ?_
 intro v' w' h2 h3 _
 exact h v' w' (Ow.push h2) ((Below.refl B w).grown h3 hB fun k hk=>(World.ownsRow.lt hown k hk).1) (far_grown hown h3)
theorem At.flat {b off:Nat} (h:At K w b off l):∀ j u,(K.flat l)[j]? = some u→w.cell? ⟨b,off+j,none⟩=some u:=fun j u hu=>by
 have hj:j < l.length * K.n:=by have:=(List.getElem?_eq_some_iff.1 hu).1;rw [flat_length] at this;exact this
 have hi:j / K.n < l.length:=Nat.div_lt_of_lt_mul (by rw [Nat.mul_comm];exact hj);have hr:j % K.n < K.n:=Nat.mod_lt _ K.pos;have e:j / K.n * K.n+j % K.n=j:=by rw [Nat.mul_comm];exact Nat.div_add_mod _ _
 have g:=flat_get K l (j / K.n) (j % K.n) hi hr;rw [e] at g;have c:=h (j / K.n) hi (j % K.n) u (g.symm.trans hu);rw [Nat.add_assoc,e] at c;exact c
theorem all_step {P:Program} {ops:Array Oper} {rest:List Oper} {o:Oper} {a:Act} {Q:Exit→Act→World→Prop} {T:TypeId} {z:Value} {bytes:Nat} (ht:P.underlying T=some (.slice E))
 (hi:(P.info? E).map (fun i=>(i.zero,i.size,i.bytes))=some (some z,K.n,bytes)) (hz:z.cells.size=K.n) (hby:bytes≤64) (hgd:Region.wanted o (yielded ops a.tmps)=true) (s x:Operand)
 (ho:o.op = .call { callee:=.builtin .append,args:=#[s,x],argTypes:=#[T,T] }) (B:Nat) (v:Value) (l:List α) (hs:a.eval s=v) (hown:Ow K w B E v l)
 (u:Value) (y:List α) (hx:a.eval x=u) (hu:Rd K w u y) (hlen:l.length+y.length < 2199023255552) (hB:B≤w.heap.size)
 (h:∀ v' w',Ow K w' B E v' (l ++ y)→Below B w w'→wpList P ops Q rest (a.put o.dst v') w'):wpList P ops Q (o :: rest) a w:=by
 obtain ⟨i0,hi0,hz0,hz1,hz2⟩:=info_parts hi;obtain ⟨ad,cap,rfl,h1,h2,h3⟩:=hu;have hb:(l.length+y.length) * bytes≤140737488355328:=Nat.le_trans (Nat.mul_le_mul (show l.length+y.length≤2199023255552 by omega) hby) (by omega);refine BigFrame.wpList_want hgd fun K' hK=>?_
 by_cases h0:0 < y.length
 ·obtain ⟨b,off,rfl,hA⟩:=h3 h0
  refine wp_append_own _ s x T ho B E i0 z K.n bytes ht hi0 hz0 hz1 hz2 hz K.pos v l.length (K.flat l) hs hown ⟨b,off,none⟩ y.length cap (K.flat y) hx (flat_length K y) ?_ (flat_one K y) (by unfold maxLen;omega) hb hB ?_
  ·intro j u hj
   have e:(⟨b,off,none⟩:Addr).add j=⟨b,off+j,none⟩:=by simp [Addr.add]
   rw [e];exact hA.flat j u hj
  ·intro v' w' g2 g3 _
   refine hK _ _ (h v' w' ?_ ((Below.refl B w).grown g3 hB fun k hk=>(World.ownsRow.lt hown k hk).1))
   show w'.ownsRow B E K.n v' (l ++ y).length (K.flat (l ++ y))
   rw [flat_append,List.length_append];exact g2
 ·have ey:y = []:=List.length_eq_zero_iff.1 (by omega)
  subst ey
  cases ad with
  | none =>
    obtain rfl:=h1.2 rfl;have hrun:=run_append_owned_none (P:=P) (w:=w) B T o.type E i0 K.n ht hi0 v l.length (K.flat l) hown;unfold Oper.wp;have hk:=hK _ _ (h v w (by rw [List.append_nil];exact hown) (Below.refl _ _));have hx':a.eval x = .slice none 0 0:=hx
    simp [execOp,ho,resolve,invoke,builtin,hs,hx',hrun,Result.andThen]
    exact hk
  | some ad =>
    refine wp_append_own _ s x T ho B E i0 z K.n bytes ht hi0 hz0 hz1 hz2 hz K.pos v l.length (K.flat l) hs hown ad 0 cap [] hx (by simp) (by simp) (by simp) (by unfold maxLen;simp at hlen;omega) (by simpa using hb) hB ?_
    intro v' w' g2 g3 _
    refine hK _ _ (h v' w' ?_ ((Below.refl B w).grown g3 hB fun k hk=>(World.ownsRow.lt hown k hk).1))
    show w'.ownsRow B E K.n v' (l ++ []).length (K.flat (l ++ []))
    rw [List.append_nil]
    simpa using g2
end
end Go.Proofs.YtljnkaodhfnbbaaGreatDoor.Rw
namespace Go.Proofs.YtljnkaodhfnbbaaGreatDoor.Fl
open Go.RowKit
open Rw (Rd Ow At)
abbrev R4:=Int×Int×Int×Int
def z4:R4:=(0,0,0,0)
def rec4 (r:R4):Value:=.agg #[.int .u8 r.1,.int .u8 r.2.1,.int .u8 r.2.2.1,.int .u8 r.2.2.2]
def K4:Rw.Kind R4:=⟨fun r=>[.int .u8 r.1,.int .u8 r.2.1,.int .u8 r.2.2.1,.int .u8 r.2.2.2],4,by decide,fun _=>rfl,fun _ u h=>by simp at h;rcases h with rfl | rfl | rfl | rfl <;> rfl,z4⟩
def file (p:Int) (v:Value):Value:=.agg #[.int .i64 p,v]
def hdr (p n:Int):R4:=(n,p,165,bits .xor .u8 (bits .xor .u8 n p) 165)
def rat (l:List R4) (i:Nat):R4:=l.getD i z4
def goodF (p:Int) (l:List R4):Prop:=0≤p∧p≤7∧1≤l.length∧l.length≤256∧rat l 0=hdr p ((l.length:Int) - 1)
instance (p:Int) (l:List R4):Decidable (goodF p l):=by unfold goodF;infer_instance
def goodFB (p:Int) (l:List R4):Bool:=decide (goodF p l)
theorem at4 {w:World} {b off:Nat} {l:List R4} (h:At K4 w b off l) (i:Nat) (hi:i < l.length) :
 w.cell? ⟨b,off+i * 4,none⟩=some (.int .u8 (rat l i).1)∧w.cell? ⟨b,off+i * 4+1,none⟩=some (.int .u8 (rat l i).2.1)∧w.cell? ⟨b,off+i * 4+2,none⟩=some (.int .u8 (rat l i).2.2.1)∧w.cell? ⟨b,off+i * 4+3,none⟩=some (.int .u8 (rat l i).2.2.2) :=
 ⟨h i hi 0 _ rfl,h i hi 1 _ rfl,h i hi 2 _ rfl,h i hi 3 _ rfl⟩
theorem at4_0 {w:World} {b off:Nat} {l:List R4} (h:At K4 w b off l) (hi:0 < l.length) :
 w.cell? ⟨b,off,none⟩=some (.int .u8 (rat l 0).1)∧w.cell? ⟨b,off+1,none⟩=some (.int .u8 (rat l 0).2.1)∧w.cell? ⟨b,off+2,none⟩=some (.int .u8 (rat l 0).2.2.1)∧w.cell? ⟨b,off+3,none⟩=some (.int .u8 (rat l 0).2.2.2):=by
 have:=at4 h 0 hi
 simpa using this
theorem infoR:(Tryz.prog.info? 42).map (fun i=>(i.zero,i.size,i.bytes))=some (some (.agg #[.int .u8 0,.int .u8 0,.int .u8 0,.int .u8 0]),4,4):=by kernel_rfl
theorem eq_rec (r s:R4) (w:World):(Op.equalIn 10000 42 (.agg #[.int .u8 r.1,.int .u8 r.2.1,.int .u8 r.2.2.1,.int .u8 r.2.2.2]) (.agg #[.int .u8 s.1,.int .u8 s.2.1,.int .u8 s.2.2.1,.int .u8 s.2.2.2])).run Tryz.prog w = .ok (decide (r=s)) w:=by
 obtain ⟨j,hj⟩:∃ i,Tryz.prog.info? 5=some i:=Option.isSome_iff_exists.1 (by kernel_rfl);have hc:Tryz.prog.cellsOf 5=1:=by kernel_rfl
 obtain ⟨r1,r2,r3,r4⟩:=r;obtain ⟨s1,s2,s3,s4⟩:=s;rw [run_equalIn_array w 9999 _ _ Tryz.underlying42 hj,hc]
 by_cases h1:r1=s1 <;> by_cases h2:r2=s2 <;> by_cases h3:r3=s3 <;> by_cases h4:r4=s4 <;> simp [Op.eqItems,List.range,List.range.loop,part,go_sem,h1,h2,h3,h4]
theorem ret_bool {a b:Bool} (h:a=b):Ending.returned (.bool a) = .returned (.bool b):=by rw [h]
theorem at_bool {P:Program} {f:Nat} {args:Array Value} {w:World} {B:Nat} {a b:Bool} (e:a=b) (c:Calls P f args w fun e w'=>e = .returned (.bool a)∧Below B w w'):Calls P f args w fun e w'=>e = .returned (.bool b)∧Below B w w':=by rw [← e];exact c
end Go.Proofs.YtljnkaodhfnbbaaGreatDoor.Fl
namespace Go.Proofs.YtljnkaodhfnbbaaGreatDoor.Nm
open Go.RowKit
open Rw (Rd Ow At)
def KV:Rw.Kind S:=⟨fun x=>[.int .u64 x.1,.int .i64 x.2],2,by decide,fun _=>rfl,fun _ u h=>by simp at h;rcases h with rfl | rfl <;> rfl,zS⟩
theorem atV {w:World} {b off:Nat} {l:List S} (h:At KV w b off l) {i:Nat} (hi:i < l.length) :
 w.cell? ⟨b,off+i * 2,none⟩=some (.int .u64 (sa l i).1)∧w.cell? ⟨b,off+i * 2+1,none⟩=some (.int .i64 (sa l i).2) :=
 ⟨h i hi 0 _ rfl,h i hi 1 _ rfl⟩
theorem infoV:(Tryz.prog.info? 128).map (fun i=>(i.zero,i.size,i.bytes))=some (some (.agg #[.int .u64 0,.int .i64 0]),2,16):=by kernel_rfl
theorem eq_slave (x y:S) (w:World):(Op.equalIn 10000 128 (.agg #[.int .u64 x.1,.int .i64 x.2]) (.agg #[.int .u64 y.1,.int .i64 y.2])).run Tryz.prog w = .ok (decide (x=y)) w:=by
 have u3:=Tryz.underlying3;have a3:=Tryz.isAgg3;have z3:=Tryz.sizeOf3;have u4:=Tryz.underlying126;have a4:=Tryz.isAgg126;have z4:=Tryz.sizeOf126;have hS:Tryz.prog.underlying 128=some (.struct (Tryz.prog.fieldsOf 128)):=by kernel_rfl
 have hp:Tryz.prog.stoodInHeld 128=false:=by kernel_rfl
 obtain ⟨x1,x2⟩:=x;obtain ⟨y1,y2⟩:=y;rw [show (10000:Nat)=9999+1 from rfl,run_equalIn_agg w 9999 128 _ _ hS hp];simp only [Program.fieldsOf,Tryz.underlying128];go_simp
 by_cases h1:x1=y1 <;> by_cases h2:x2=y2 <;> simp [h1,h2]
def Fit (l:List S):Prop:=∀ i,i < l.length→(0≤(sa l i).1∧(sa l i).1 < 18446744073709551616)∧-9223372036854775808≤(sa l i).2∧(sa l i).2 < 9223372036854775808
theorem Fit.set {l:List S} (h:Fit l) {i:Nat} (hi:i < l.length) {x:S} (hx:(0≤x.1∧x.1 < 18446744073709551616)∧-9223372036854775808≤x.2∧x.2 < 9223372036854775808):Fit (l.set i x):=fun j hj=>by
 rw [List.length_set] at hj;rw [sa_set hi]
 by_cases e:j=i
 ·rw [if_pos e];exact hx
 ·rw [if_neg e];exact h j hj
abbrev Hr:=Int→Option Int
def hput (h:Hr) (n y:Int):Hr:=fun m=>if m=n then some y else h m
def ltK (f:S→Int) (l:List S):Nat→Hr
 | 0=>fun _=>none
 | k+1=>hput (ltK f l k) (f (sa l k)) k
theorem ltK_none {f:S→Int} {l:List S} {n:Int} : ∀ {k:Nat},ltK f l k n=none↔∀ j,j < k→f (sa l j)≠n
 | 0=>⟨fun _ j h=>absurd h (Nat.not_lt_zero j),fun _=>rfl⟩
 | k+1=>by
   show (if n=f (sa l k) then some (k:Int) else ltK f l k n)=none↔_
   by_cases e:n=f (sa l k)
   ·rw [if_pos e]
    exact ⟨nofun,fun h=>absurd e.symm (h k (Nat.lt_succ_self k))⟩
   ·rw [if_neg e,ltK_none]
    refine ⟨fun h j hj=>?_,fun h j hj=>h j (by omega)⟩
    by_cases g:j=k
    ·subst g;exact fun q=>e q.symm
    ·exact h j (by omega)
theorem ltK_some {f:S→Int} {l:List S} {n i:Int} : ∀ {k:Nat},ltK f l k n=some i→∃ j:Nat,i=j∧j < k∧f (sa l j)=n∧∀ m,j < m→m < k→f (sa l m)≠n
 | 0,h=>nomatch h
 | k+1,h=>by
   change (if n=f (sa l k) then some (k:Int) else ltK f l k n)=some i at h
   by_cases e:n=f (sa l k)
   ·rw [if_pos e] at h
    injection h with h;exact ⟨k,h.symm,Nat.lt_succ_self k,e.symm,fun m h1 h2=>by omega⟩
   ·rw [if_neg e] at h
    obtain ⟨j,e1,e2,e3,e4⟩:=ltK_some h;refine ⟨j,e1,by omega,e3,fun m h1 h2=>?_⟩
    by_cases g:m=k
    ·subst g;exact fun q=>e q.symm
    ·exact e4 m h1 (by omega)
def who (f:S→Int) (l:List S) (n:Int):Int:=(ltK f l l.length n).getD (-1)
theorem who_lt {f:S→Int} {l:List S} {n:Int} : who f l n < 0↔∀ j,j < l.length→f (sa l j)≠n:=by
 unfold who
 rcases e:ltK f l l.length n with _ | i
 ·exact ⟨fun _=>ltK_none.1 e,fun _=>by decide⟩
 ·obtain ⟨j,rfl,hj,h,_⟩:=ltK_some e
  exact ⟨fun g=>by simp at g;omega,fun g=>absurd h (g j hj)⟩
theorem who_is {f:S→Int} {l:List S} {i:Nat} (hi:i < l.length):who f l (f (sa l i))=i↔∀ m,i < m→m < l.length→f (sa l m)≠f (sa l i):=by
 unfold who
 rcases e:ltK f l l.length (f (sa l i)) with _ | x
 ·exact absurd rfl (ltK_none.1 e i hi)
 ·obtain ⟨j,rfl,hj,h,hl⟩:=ltK_some e
  constructor
  ·intro g
   have g2:(j:Int)=i:=g;obtain rfl:j=i:=by omega
   exact hl
  ·intro g
   show (j:Int)=i
   rcases Nat.lt_trichotomy i j with q | q | q
   ·exact absurd h (g j q hj)
   ·rw [q]
   ·exact absurd rfl (hl i q hi)
theorem who_free (l:List S) (n:Int):decide (who (·.2) l n < 0) = !hs l n:=by
 cases e:hs l n with
 | true =>
   obtain ⟨i,hi,h⟩:=hs_iff.1 e;exact decide_eq_false fun g=>who_lt.1 g i hi h
 | false =>
   refine decide_eq_true (who_lt.2 fun j hj h=>?_);have:=hs_iff.2 ⟨j,hj,h⟩;rw [e] at this
   cases this
def okL (l:List S) (i:Nat):Prop:=okN (sa l i)∧who (·.1) l (sa l i).1=i∧((sa l i).2=0∨who (·.2) l (sa l i).2=i)
instance (l:List S) (i:Nat):Decidable (okL l i):=by unfold okL;infer_instance
theorem gd_yes {l:List S} (h0:l.length≤32) (h:∀ i,i < l.length→okL l i):Gd l :=
 gd_of h0 (fun i hi=>(h i hi).1)
  (fun i j hi hj e=>by
    have a:=(who_is (f:=(·.1)) hi).1 (h i hi).2.1;have b:=(who_is (f:=(·.1)) hj).1 (h j hj).2.1
    rcases Nat.lt_trichotomy i j with q | q | q
    ·exact absurd e.symm (a j q hj)
    ·exact q
    ·exact absurd e (b i q hi))
  (fun i j hi hj e p=>by
    have a:=(who_is (f:=(·.2)) hi).1 ((h i hi).2.2.resolve_left (by omega));have b:=(who_is (f:=(·.2)) hj).1 ((h j hj).2.2.resolve_left (by omega))
    rcases Nat.lt_trichotomy i j with q | q | q
    ·exact absurd e.symm (a j q hj)
    ·exact q
    ·exact absurd e (b i q hi))
theorem gd_each {l:List S} (h:Gd l) {i:Nat} (hi:i < l.length):okL l i:=by
 refine ⟨h.num hi,(who_is hi).2 fun m h1 h2 e=>?_,?_⟩
 ·have:=h.phys h2 hi e;omega
 ·by_cases e:(sa l i).2=0
  ·exact .inl e
  ·refine .inr ((who_is (f:=(·.2)) hi).2 fun m h1 h2 g=>?_)
   have:=(h.num hi).1;have:=h.name h2 hi g (by omega)
   omega
theorem gdB_yes {l:List S} (h:Gd l):gdB l=true:=by unfold gdB;exact @decide_eq_true _ (Classical.propDecidable _) h
theorem gdB_no {l:List S} (h:¬ Gd l):gdB l=false:=by unfold gdB;exact @decide_eq_false _ (Classical.propDecidable _) h
theorem gdB_iff {l:List S} : gdB l=true↔Gd l:=⟨fun h=>Classical.byContradiction fun g=>Bool.false_ne_true ((gdB_no g).symm.trans h),gdB_yes⟩
end Go.Proofs.YtljnkaodhfnbbaaGreatDoor.Nm
namespace Go.Proofs.YtljnkaodhfnbbaaGreatDoor.Qb
open Go.RowKit
structure By (w:World) where
 world:World
 below:Below w.heap.size w world
instance (w:World):Nonempty (By w):=⟨⟨w,Below.refl _ _⟩⟩
theorem below_drew {B:Nat} {a w:World} (h:Below B a w):Below B a { w with drawn:=w.drawn+1 }:=⟨h.os,h.tape,h.output,h.size,h.block⟩
theorem wp_region_by {P:Program} {id:Nat} {Q:Exit→Act→World→Prop} {a:Act} {w:World} {l:List Oper} (hm:P.follows .mixedOrders=true) (hB:Region.lexB .any l.toArray=true)
 (h:wpQuiet P l.toArray (fun w'=>∃ p:By w,w'=p.world) (fun a'=>∀ w',(∃ p:By w,w'=p.world)→Q .normal a' w') l a):(Code.region id l.toArray true).wp P Q a w :=
 wp_region_quiet (C:=fun w'=>∃ p:By w,w'=p.world) hm hB ⟨⟨_,below_drew (Below.refl _ _)⟩,rfl⟩ (by simpa using h)
theorem of_below {P:Program} {f:FuncId} {args:Array Value} {w:World} {p:By w} {v:Value}
 (h:Calls P f args p.world fun e w'=>e = .returned v∧Below p.world.heap.size p.world w'):Calls P f args p.world fun e w''=>e = .returned v∧∃ q:By w,w''=q.world :=
 h.mono fun _ w' ⟨he,hb⟩=>⟨he,⟨w',p.below.trans (hb.mono p.below.size)⟩,rfl⟩
theorem cell_by {w:World} {a:Addr} {v:Value} (h:w.cell? a=some v) (p:By w):p.world.cell? a=some v:=(p.below.cell (World.block_lt_of_cell? _ _ h)).trans h
end Go.Proofs.YtljnkaodhfnbbaaGreatDoor.Qb
namespace Go.Proofs.YtljnkaodhfnbbaaGreatDoor.Fl
open Go.RowKit
open Rw (Rd Ow At)
set_option maxHeartbeats 400000 in
theorem rhdr_any (w:World) (p n:Int) (p0:0≤p) (p1:p≤7) (n0:0≤n) (n1:n≤255):Calls Tryz.prog 73 #[.int .i64 p,.int .i64 n] w fun e w'=>e = .returned (rec4 (hdr p n))∧Below w.heap.size w w':=by
 go_enter Tryz.func73,Tryz.ntmps73
 go_wp2
 (try simp only [Exit.inBlock,Exit.then])
 refine bodyPost_ret (v:=rec4 (hdr p n)) ?_ rfl ⟨rfl,?_⟩
 ·exact results_cell_row (p:=4) rfl _ _ w.heap.size 42 _ (0,0) _ rfl (heap_alloc_new w _) Tryz.underlying42 rfl (by show _=some 4;kernel_rfl)
 ·exact (Below.refl w.heap.size w).alloc (Nat.le_refl _) _
def sameF (p:Int) (l:List R4) (p':Int) (l':List R4):Bool:=decide (p=p'∧l=l')
theorem list_same {l l':List R4} (hl:l.length=l'.length) (h:∀ i,i < l.length→rat l i=rat l' i):l=l':=by
 refine List.ext_getElem hl fun i h1 h2=>?_;have:=h i h1
 simpa [rat,List.getD,List.getElem?_eq_getElem h1,List.getElem?_eq_getElem h2] using this
def newP (p n:Int):Prop:=0≤p∧p≤7∧0≤n∧n≤255
instance (p n:Int):Decidable (newP p n):=by unfold newP;infer_instance
def newL (p n:Int):List R4:=hdr p n :: List.replicate n.toNat z4
def NewPost (w:World) (p n:Int) (e:Ending) (w':World):Prop:=∃ v,e = .returned (.tuple #[file (if newP p n then p else 0) v,.int .i64 (if newP p n then 0 else 1)])∧Rd K4 w' v (if newP p n then newL p n else [])∧Below w.heap.size w w'
theorem row_cell {w:World} {g:Nat} {cs:Array Value} {t:TypeId} (h:w.heap[g]? = some (.cells cs t (0,0))) (k:Nat):w.cell? ⟨g,k,none⟩=cs[k]?:=cell_of_row w g k cs t (0,0) h
theorem row_frozen {w:World} {g:Nat} {cs:Array Value} {t:TypeId} (h:w.heap[g]? = some (.cells cs t (0,0))) (k:Nat):w.frozen? ⟨g,k,none⟩=false:=frozen_of_row w g k _ _ h
structure NRel (w:World) (p:Int) (h:R4) (g k:Nat) (v:Value) (wr:World):Prop where
 row:wr.heap[g]? = some (.cells #[.int .i64 p,v] 70 (0,0))
 res:wr.heap[w.heap.size]? = some (.cells #[.int .i64 0,.slice none 0 0] 70 (0,0))
 own:Ow K4 wr (w.heap.size+1) 42 v (h :: List.replicate k z4)
 bel:Below w.heap.size w wr
 lt:w.heap.size < g
set_option maxHeartbeats 1000000 in
theorem rnew_any (w:World) (p n:Int):Calls Tryz.prog 75 #[.int .i64 p,.int .i64 n] w (NewPost w p n):=by
 have B0:=Lib.hid ((Below.refl w.heap.size w).alloc (Nat.le_refl _) (.cells #[.int .i64 0,.slice none 0 0] 70))
 by_cases hp:newP p n
 ·have HPN:=Lib.hid hp
  obtain ⟨p0,p1,n0,n1⟩:=hp;obtain ⟨m,rfl⟩:∃ m:Nat,n=m:=⟨n.toNat,by omega⟩;have HH:=Lib.hid (rhdr_any (w.alloc (.cells #[.int .i64 0,.slice none 0 0] 70)) p m p0 p1 (by omega) (by omega));have NL:Hid (newL p m=hdr p m :: List.replicate m z4):=rfl;unfold rec4 at HH;generalize hdr p m=h at *
  go_enter Tryz.func75,Tryz.ntmps75
  go_wp2_with fail;refine HH.out.mono ?_;rintro e w1 ⟨rfl,b1⟩;have z1:w.heap.size < w1.heap.size:=by have:=b1.size;simp at this;omega
  have B1:=Lib.hid (B0.out.trans (b1.mono B0.out.size));have r0:w1.heap[w.heap.size]? = some (.cells #[.int .i64 0,.slice none 0 0] 70 (0,0)):=(b1.block _ (by simp)).trans (heap_alloc_new w _);have hz:(w1.alloc (.cells #[.int .u8 h.1,.int .u8 h.2.1,.int .u8 h.2.2.1,.int .u8 h.2.2.2] 42)).heap.size=w1.heap.size+1:=by simp
  have N0:NRel w p h (w1.heap.size+1) 0 (.slice (some ⟨w1.heap.size,0,none⟩) 1 1) ((w1.alloc (.cells #[.int .u8 h.1,.int .u8 h.2.1,.int .u8 h.2.2.1,.int .u8 h.2.2.2] 42)).alloc (.cells #[.int .i64 p,.slice (some ⟨w1.heap.size,0,none⟩) 1 1] 70)):=by
   refine ⟨?_,?_,(Ow.lit (K:=K4) w1 (w.heap.size+1) 42 [h] (by omega) (by unfold maxLen;simp)).alloc _,(B1.out.alloc (by omega) _).alloc (by rw [hz];omega) _,by omega⟩
   ·have:=heap_alloc_new (w1.alloc (.cells #[.int .u8 h.1,.int .u8 h.2.1,.int .u8 h.2.2.1,.int .u8 h.2.2.2] 42)) (.cells #[.int .i64 p,.slice (some ⟨w1.heap.size,0,none⟩) 1 1] 70)
    rw [hz] at this;exact this
   ·exact (Below.heap_alloc _ _ _ (by rw [hz];omega)).trans ((Below.heap_alloc _ _ _ z1).trans r0)
  have NR:=Lib.hid N0;clear b1 N0 r0 HH hz;go_wp2;generalize (w1.alloc (.cells #[.int .u8 h.1,.int .u8 h.2.1,.int .u8 h.2.2.1,.int .u8 h.2.2.2] 42)).alloc (.cells #[.int .i64 p,.slice (some ⟨w1.heap.size,0,none⟩) 1 1] 70)=W at *;generalize w1.heap.size+1=g at *;generalize Value.slice (some ⟨w1.heap.size,0,none⟩) 1 1=v0 at *
  go_loopw [7] (fun i wr=>∃ (k:Nat) (v:Value),k≤m∧i = .int .i64 k∧Hid (NRel w p h g k v wr)) (fun i _=>m - (intOf i).toNat)
  case atStart=>exact ⟨0,v0,Nat.zero_le _,rfl,NR⟩
  case round =>
   obtain ⟨k,v,hk,rfl,R⟩:=hrel;obtain ⟨av,cv,ev,_,_⟩:=R.out.own.slice;generalize hL:(h :: List.replicate k z4).length=L at ev;clear hL;have gs:=lt_of_block R.out.row;have c1:wr.cell? ⟨g,1,none⟩=some v:=row_cell R.out.row 1;subst ev
   by_cases hlt:k < m
   ·go_wp2_with (at_builtin;refine Rw.push_far Tryz.underlying68 infoR rfl (by omega) rfl _ _ rfl (w.heap.size+1) _ _ rfl (R.out.own.alloc _) _ z4 rfl ?d1 ?d2 ?d3 ?_)
    case d1 =>
     intro j u hu
     match j,hu with
     | 0,hu=>simp [K4,z4] at hu;subst hu;go_simp
     | 1,hu=>simp [K4,z4] at hu;subst hu;go_simp
     | 2,hu=>simp [K4,z4] at hu;subst hu;go_simp
     | 3,hu=>simp [K4,z4] at hu;subst hu;go_simp
     | j+4,hu=>simp [K4] at hu
    case d2=>simp;omega
    case d3=>have:=R.out.lt;simp;omega
    intro v' w2 o2 b2 f2
    have rr:=f2 g _ _ ((Below.heap_alloc wr _ g gs).trans R.out.row) (by decide);have rs:=f2 w.heap.size _ _ ((Below.heap_alloc wr _ w.heap.size (lt_of_block R.out.res)).trans R.out.res) (by decide);have d1:w2.cell? ⟨g,1,none⟩=some (.slice av L cv):=row_cell rr 1;have e1:=row_frozen rr 1;have N2:Hid (NRel w p h g (k+1) v' (w2.setCell ⟨g,1,none⟩ v')):=by
     have hB:=R.out.bel.size;refine ⟨Rw.heap_setCell_same rr _,(Below.heap_setCell w2 _ _ w.heap.size (by have:=R.out.lt;simp;omega)).trans rs,?_,?_,R.out.lt⟩
     ·have e:(h :: List.replicate k z4) ++ [z4]=h :: List.replicate (k+1) z4:=by rw [List.replicate_succ'];rfl
      rw [← e];exact o2.far (p:=⟨g,1,none⟩) rr (by decide) _
     ·exact (((R.out.bel.alloc hB _).trans (b2.mono (by omega))).setCell (by have:=R.out.lt;simp;omega) _)
    obtain ⟨av',cv',L',rfl⟩:∃ a c L,v' = .slice a L c:=by obtain ⟨a,c,e,_,_⟩:=o2.slice;exact ⟨a,c,_,e⟩
    clear rr rs o2 b2 f2;go_wp2
    go_roundw
    case rel=>exact ⟨k+1,_,by omega,by go_num,N2⟩
    case measure=>simp [intOf];omega
   ·obtain rfl:k=m:=by omega
    have c0:wr.cell? ⟨g,0,none⟩=some (.int .i64 p):=row_cell R.out.row 0;have r0:wr.cell? ⟨w.heap.size,0,none⟩=some (.int .i64 0):=row_cell R.out.res 0;have r1:wr.cell? ⟨w.heap.size,1,none⟩=some (.slice none 0 0):=row_cell R.out.res 1;have s0:=row_frozen R.out.res 0;have s1:=row_frozen R.out.res 1;have E2:Hid (NewPost w p k (.returned (.tuple #[file p (.slice av L cv),.int .i64 0])) ((wr.setCell ⟨w.heap.size,0,none⟩ (.int .i64 p)).setCell ⟨w.heap.size,1,none⟩ (.slice av L cv))):=by
     have o1:=R.out.own.far (p:=⟨w.heap.size,0,none⟩) R.out.res (by decide) (.int .i64 p);have rr:=Rw.heap_setCell_same (j:=0) R.out.res (.int .i64 p);refine ⟨_,by rw [if_pos HPN.out,if_pos HPN.out],?_,(R.out.bel.setCell (Nat.le_refl _) _).setCell (Nat.le_refl _) _⟩;rw [if_pos HPN.out,NL.out];exact (o1.far (p:=⟨w.heap.size,1,none⟩) rr (by decide) _).rd
    go_wp2
    (try simp only [Exit.inBlock,Exit.then])
    refine bodyPost_ret (v:=.tuple #[file p (.slice av L cv),.int .i64 0]) ?_ rfl E2.out;rw [results_cell_tmp rfl];go_simp;rfl
 ·have E:Hid (NewPost w p n (.returned (.tuple #[file 0 (.slice none 0 0),.int .i64 1])) (w.alloc (.cells #[.int .i64 0,.slice none 0 0] 70))):=⟨_,by rw [if_neg hp,if_neg hp],by rw [if_neg hp];exact Rw.Rd.nil _,B0.out⟩
  by_cases h1:p < 0
  ·go_enter Tryz.func75,Tryz.ntmps75
   go_wp2
   (try simp only [Exit.inBlock,Exit.then])
   refine bodyPost_ret (v:=.tuple #[file 0 (.slice none 0 0),.int .i64 1]) ?_ rfl E.out;rw [results_cell_tmp rfl];go_simp;rfl
  ·by_cases h2:7 < p
   ·go_enter Tryz.func75,Tryz.ntmps75
    go_wp2
    (try simp only [Exit.inBlock,Exit.then])
    refine bodyPost_ret (v:=.tuple #[file 0 (.slice none 0 0),.int .i64 1]) ?_ rfl E.out;rw [results_cell_tmp rfl];go_simp;rfl
   ·by_cases h3:n < 0
    ·go_enter Tryz.func75,Tryz.ntmps75
     go_wp2
     (try simp only [Exit.inBlock,Exit.then])
     refine bodyPost_ret (v:=.tuple #[file 0 (.slice none 0 0),.int .i64 1]) ?_ rfl E.out;rw [results_cell_tmp rfl];go_simp;rfl
    ·have h4:255 < n:=by
      rcases Int.lt_or_le 255 n with c | c
      ·exact c
      ·exact absurd (show newP p n from ⟨by omega,by omega,by omega,by omega⟩) hp
     go_enter Tryz.func75,Tryz.ntmps75
     go_wp2
     (try simp only [Exit.inBlock,Exit.then])
     refine bodyPost_ret (v:=.tuple #[file 0 (.slice none 0 0),.int .i64 1]) ?_ rfl E.out;rw [results_cell_tmp rfl];go_simp;rfl
end Go.Proofs.YtljnkaodhfnbbaaGreatDoor.Fl
namespace Go.Proofs.YtljnkaodhfnbbaaGreatDoor.Fl
open Go.RowKit
open Rw (Rd Ow At)
def okR (r:R4):Prop:=(0≤r.1∧r.1≤255)∧(0≤r.2.1∧r.2.1≤255)∧(0≤r.2.2.1∧r.2.2.1≤255)∧0≤r.2.2.2∧r.2.2.2≤255
def okL (l:List R4):Prop:=∀ r∈l,okR r
theorem okR_z:okR z4:=⟨⟨by decide,by decide⟩,⟨by decide,by decide⟩,⟨by decide,by decide⟩,by decide,by decide⟩
theorem okR_at {l:List R4} (h:okL l) (i:Nat):okR (rat l i):=by
 unfold rat;rw [List.getD_eq_getElem?_getD]
 rcases e:l[i]? with _ | r
 ·exact okR_z
 ·exact h r (List.mem_of_getElem? e)
def num (r:R4):Int:=r.1 * 16777216+r.2.1 * 65536+r.2.2.1 * 256+r.2.2.2
def bytes (n:Int):R4:=(n / 16777216,n / 65536 % 256,n / 256 % 256,n % 256)
def inc (r:R4):R4:=bytes ((num r+1) % 4294967296)
def need (op:Int):Int:=if op=0 then 1 else if op=1 then 2 else 4
def doE (p:Int) (l:List R4) (op rec:Int):Int :=
 if goodF p l then
  if 0≤op∧op≤2 then
   if 0≤rec∧rec < l.length then
    if rec=0∧op=0∨0 < rec∧p / need op % 2=1 then 0 else 5
   else 4
  else 1
 else 2
theorem doE_2 {p op rec:Int} {l:List R4} (h:¬ goodF p l):doE p l op rec=2:=by unfold doE;rw [if_neg h]
theorem doE_1 {p op rec:Int} {l:List R4} (h:goodF p l) (h2:¬ (0≤op∧op≤2)):doE p l op rec=1:=by unfold doE;rw [if_pos h,if_neg h2]
theorem doE_4 {p op rec:Int} {l:List R4} (h:goodF p l) (h2:0≤op∧op≤2) (h3:¬ (0≤rec∧rec < l.length)):doE p l op rec=4:=by unfold doE;rw [if_pos h,if_pos h2,if_neg h3]
theorem doE_5 {p op rec:Int} {l:List R4} (h:goodF p l) (h2:0≤op∧op≤2) (h3:0≤rec∧rec < l.length) (h4:¬ (rec=0∧op=0∨0 < rec∧p / need op % 2=1)):doE p l op rec=5:=by unfold doE;rw [if_pos h,if_pos h2,if_pos h3,if_neg h4]
theorem doE_0 {p op rec:Int} {l:List R4} (h:goodF p l) (h2:0≤op∧op≤2) (h3:0≤rec∧rec < l.length) (h4:rec=0∧op=0∨0 < rec∧p / need op % 2=1):doE p l op rec=0:=by unfold doE;rw [if_pos h,if_pos h2,if_pos h3,if_pos h4]
def newR (l:List R4) (op rec:Int) (x:R4):R4:=if op=1 then x else if op=2 then inc (rat l rec.toNat) else rat l rec.toNat
def DoPost (w:World) (p:Int) (l:List R4) (op rec:Int) (x:R4) (e:Ending) (w':World):Prop :=
 ∃ u,e = .returned (.tuple #[file (if doE p l op rec=0 then p else 0) u,rec4 (if doE p l op rec=0 then newR l op rec x else z4),.int .i64 (doE p l op rec)])∧Ow K4 w' w.heap.size 42 u (if doE p l op rec=0 then l.set rec.toNat (newR l op rec x) else [])∧Below w.heap.size w w'
set_option maxHeartbeats 400000 in
theorem hdr_any (w:World) (p n:Int) (p0:0≤p) (p1:p≤7) (n0:0≤n) (n1:n≤255):Calls Tryz.prog 182 #[.int .i64 p,.int .i64 n] w fun e w'=>e = .returned (rec4 (hdr p n))∧Below w.heap.size w w':=by
 go_enter Tryz.func182,Tryz.ntmps182
 go_wp2
 (try simp only [Exit.inBlock,Exit.then])
 refine bodyPost_ret (v:=rec4 (hdr p n)) ?_ rfl ⟨rfl,?_⟩
 ·exact results_cell_row (p:=4) rfl _ _ w.heap.size 42 _ (0,0) _ rfl (heap_alloc_new w _) Tryz.underlying42 rfl (by show _=some 4;kernel_rfl)
 ·exact (Below.refl w.heap.size w).alloc (Nat.le_refl _) _
def permB (p:Int):Bool:=decide (0≤p∧p≤7)
theorem perm_yes {p:Int} (h1:0≤p) (h2:p≤7):permB p=true:=decide_eq_true ⟨h1,h2⟩
theorem perm_no {p:Int} (h:¬ (0≤p∧p≤7)):permB p=false:=decide_eq_false h
set_option maxHeartbeats 400000 in
theorem perm_any (w:World) (p:Int):Calls Tryz.prog 181 #[.int .i64 p] w fun e w'=>e = .returned (.bool (permB p))∧Below w.heap.size w w':=by
 by_cases h1:0≤p
 ·by_cases h2:p≤7
  ·go_enter Tryz.func181,Tryz.ntmps181
   go_wp2
   go_ret
   exact ⟨ret_bool (by rw [perm_yes h1 h2]),Below.refl _ _⟩
  ·go_enter Tryz.func181,Tryz.ntmps181
   go_wp2
   go_ret
   exact ⟨ret_bool (by rw [perm_no (by omega)]),Below.refl _ _⟩
 ·go_enter Tryz.func181,Tryz.ntmps181
  go_wp2
  go_ret
  exact ⟨ret_bool (by rw [perm_no (by omega)]),Below.refl _ _⟩
def needsN (op:Int):Int:=if 0≤op∧op≤2 then need op else 0
set_option maxHeartbeats 400000 in
theorem needs_any (w:World) (op:Int):Calls Tryz.prog 248 #[.int .i64 op] w fun e w'=>e = .returned (.int .i64 (needsN op))∧Below w.heap.size w w':=by
 by_cases h0:op=0
 ·subst h0
  go_enter Tryz.func248,Tryz.ntmps248
  go_wp2
  go_ret
  exact ⟨rfl,Below.refl _ _⟩
 ·by_cases h1:op=1
  ·subst h1
   go_enter Tryz.func248,Tryz.ntmps248
   go_wp2
   go_ret
   exact ⟨rfl,Below.refl _ _⟩
  ·by_cases h2:op=2
   ·subst h2
    go_enter Tryz.func248,Tryz.ntmps248
    go_wp2
    go_ret
    exact ⟨rfl,Below.refl _ _⟩
   ·have E:Hid (0=needsN op):=by unfold needsN;rw [if_neg (by omega)];exact Lib.hid rfl
    go_enter Tryz.func248,Tryz.ntmps248
    go_wp2
    go_ret
    exact ⟨by rw [← E.out];rfl,Below.refl _ _⟩
def mayB (p op rec:Int):Bool:=decide (rec=0∧op=0∨0 < rec∧p / need op % 2=1)
theorem and_perm:∀ (p:Fin 8) (op:Fin 3),decide (bits BinOp.and .i64 (p.val:Int) (need (op.val:Int))=0)=decide (¬ ((p.val:Int) / need (op.val:Int) % 2=1)):=by decide +kernel
theorem and_perm' {p op:Int} (p0:0≤p) (p1:p≤7) (o0:0≤op) (o1:op≤2):(bits BinOp.and .i64 p (need op)=0)↔¬ (p / need op % 2=1):=by
 have:=and_perm ⟨p.toNat,by omega⟩ ⟨op.toNat,by omega⟩;simp only [Int.toNat_of_nonneg p0,Int.toNat_of_nonneg o0] at this;exact decide_eq_decide.1 this
set_option maxHeartbeats 400000 in
theorem may_any (w:World) (p op rec:Int) (p0:0≤p) (p1:p≤7) (o0:0≤op) (o1:op≤2) (r0:0≤rec):Calls Tryz.prog 249 #[.int .i64 p,.int .i64 (need op),.int .i64 rec] w fun e w'=>e = .returned (.bool (mayB p op rec))∧Below w.heap.size w w':=by
 by_cases h:rec=0
 ·subst h
  have E:Hid (decide (need op=1)=mayB p op 0):=Lib.hid (by
   unfold mayB;rw [decide_eq_decide];unfold need
   rcases (by omega:op=0∨op=1∨op=2) with rfl | rfl | rfl <;> simp)
  generalize need op=q at *
  go_enter Tryz.func249,Tryz.ntmps249
  go_wp2
  go_ret
  exact ⟨ret_bool E.out,Below.refl _ _⟩
 ·have E:Hid ((!decide (bits BinOp.and .i64 p (need op)=0))=mayB p op rec):=Lib.hid (by
   unfold mayB
   by_cases k:bits BinOp.and .i64 p (need op)=0
   ·rw [decide_eq_true k]
    have:=(and_perm' p0 p1 o0 o1).1 k;exact (decide_eq_false (by omega)).symm
   ·rw [decide_eq_false k]
    have:p / need op % 2=1:=Decidable.byContradiction fun c=>k ((and_perm' p0 p1 o0 o1).2 c)
    exact (decide_eq_true (.inr ⟨by omega,this⟩)).symm)
  generalize need op=q at *
  go_enter Tryz.func249,Tryz.ntmps249
  go_wp2
  go_ret
  exact ⟨ret_bool (by rw [← E.out];first | rfl | simp),Below.refl _ _⟩
end Go.Proofs.YtljnkaodhfnbbaaGreatDoor.Fl
namespace Go.Proofs.YtljnkaodhfnbbaaGreatDoor.Nm
open Go.ChangeShapes Go.WideShapes Go.ChangeAt Go.RowKit Go.Deep
open Rw (Rd Ow At)
def Fit1 (x:S):Prop:=(0≤x.1∧x.1 < 18446744073709551616)∧-9223372036854775808≤x.2∧x.2 < 9223372036854775808
theorem slave_cells {H:Type} {enc:TypeId×Value→H} {W:World} {base fuel:Nat} {sp:Nat→Bool} {held:Bool} {cs:List Value} {x:DataW H×List MemPlace}
 (h:DataW.trod enc Tryz.prog W base sp held fuel 128 cs=some x):∃ c:S,cs=KV.enc c∧Fit1 c:=by
 have c3:Tryz.prog.cellsOf 128=2:=by kernel_rfl
 have c1:Tryz.prog.cellsOf 3=1:=by kernel_rfl
 have c2:Tryz.prog.cellsOf 126=1:=by kernel_rfl
 obtain ⟨xs,m,_,_,hs,hx,hi⟩:=DataW.trod_struct Tryz.underlying128 h;rw [c3] at hs
 match cs,hs,xs,hx,hi with
 | [u0,u1],_,[x0,x1],_,hi =>
   have e0:DataW.trod enc Tryz.prog W base sp held m 126 (([u0,u1].drop 0).take (Tryz.prog.cellsOf 126))=some x0:=hi 0 _ rfl;have e1:DataW.trod enc Tryz.prog W base sp held m 3 (([u0,u1].drop 1).take (Tryz.prog.cellsOf 3))=some x1:=hi 1 _ rfl;rw [c2] at e0;rw [c1] at e1;obtain ⟨p,hp,_,wp⟩:=DataW.trod_int Tryz.underlying126 (x:=x0) e0;obtain ⟨k,hk,_,wk⟩:=DataW.trod_int Tryz.underlying3 (x:=x1) e1;have p' : [u0] = [.int .u64 p]:=hp;have k' : [u1] = [.int .i64 k]:=hk;simp only [List.cons.injEq,and_true] at p' k';obtain rfl:=p';obtain rfl:=k';refine ⟨(p,k),rfl,?_⟩;simp only [Lit.wf,Bool.and_eq_true,decide_eq_true_eq] at wp wk;unfold Fit1;simp only;have a1:=wp.1;have a2:=wp.2;have b1:=wk.1;have b2:=wk.2
   simp [IntKind.min,IntKind.max,IntKind.signed,IntKind.bits] at a1 a2 b1 b2
   omega
theorem open_rd {α:Type} {K:Rw.Kind α} (Q:α→Prop) {H:Type} {enc:TypeId×Value→H} {W:World} {u:Value} {base fuel:Nat} {sp:Nat→Bool} {held:Bool} {x:DataW H×List MemPlace} {T E:TypeId}
 (hu:Tryz.prog.underlying T=some (.slice E)) (hc:Tryz.prog.cellsOf E=K.n) (el:∀ {n:Nat} {cs:List Value} {y:DataW H×List MemPlace},DataW.trod enc Tryz.prog W base sp held n E cs=some y→∃ r:α,cs=K.enc r∧Q r)
 (h:DataW.trod enc Tryz.prog W base sp held fuel T [u]=some x):∃ l,Rd K W u l∧∀ r∈l,Q r:=by
 rcases open_slice hu h with ⟨e,_⟩ | ⟨a,len,cap,m,n,D,Pl,e,_,hl,hm,hmm,_,hx⟩
 ·simp at e
  subst e;exact ⟨[],Rw.Rd.nil _,fun r hr=>by cases hr⟩
 ·simp at e
  subst e;have hlm:len≤m:=by rw [hmm];split <;> omega
  have each:∀ i,i < m→∃ r:α,Q r∧∀ j u,(K.enc r)[j]? = some u→W.cell? (a.add (i * K.n+j))=some u:=fun i hi=>by
   obtain ⟨cs',h1,h2⟩:=hx i hi;rw [hc] at h1;obtain ⟨_,hlen,hcell⟩:=World.cells?_some h1;obtain ⟨r,rfl,ok⟩:=el h2;refine ⟨r,ok,fun j u hu=>?_⟩;have hj:j < K.n:=by have:=(List.getElem?_eq_some_iff.1 hu).1;rw [hlen] at this;exact this
   have e:=hcell j hj;rw [add_add] at e;exact e.trans hu
  haveI:Inhabited α:=⟨K.dft⟩
  obtain ⟨q,hq⟩:=choose_lt each;have hlen:((List.range len).map q).length=len:=by simp
  have get:∀ i,i < len→((List.range len).map q).getD i K.dft=q i:=fun i hi=>by simp [List.getD,hi]
  refine ⟨(List.range len).map q,⟨some a,cap,by rw [hlen],⟨by rw [hlen];exact hl,nofun⟩,hm,fun h0=>?_⟩,fun r hr=>?_⟩
  ·rw [hlen] at h0
   obtain ⟨b,off,spot⟩:=a;have hp:0 < (K.enc (q 0)).length:=by rw [K.len];exact K.pos
   have c0:=(hq 0 (by omega)).2 0 _ (List.getElem?_eq_getElem hp);have hs:spot=none:=by simpa [Addr.add] using World.cell?_spot c0
   subst hs;refine ⟨b,off,rfl,fun i hi j u hu=>?_⟩;rw [hlen] at hi;have hu':(K.enc (q i))[j]? = some u:=by rw [← get i hi];exact hu
   have c:=(hq i (by omega)).2 j u hu';rw [add_plain] at c
   show W.cell? ⟨b,off+i * K.n+j,none⟩=some u
   rw [Nat.add_assoc];exact c
  ·obtain ⟨i,hi,rfl⟩:=List.mem_map.1 hr
   exact (hq i (by have:=List.mem_range.1 hi;omega)).1
theorem slaves_of {H:Type} {enc:TypeId×Value→H} {W:World} {v:Value} {base:Nat} {sp:Nat→Bool} {held:Bool} {d:DataW H} {p:List MemPlace} {r:Reach} {b0:Nat}
 (hv:Value.okWide Tryz.prog W r b0 122 v) (h:DataW.Trod enc Tryz.prog W base sp held 122 v d p):∃ l,Rd KV W v l∧Fit l:=by
 obtain ⟨a0,len0,cap0,rfl⟩:=okWide_slice Tryz.underlying122 hv;obtain ⟨fuel,hf⟩:=h;obtain ⟨l,R,F⟩:=open_rd (K:=KV) Fit1 Tryz.underlying122 (by kernel_rfl) (fun h=>slave_cells h) (by simpa [Value.cells] using hf);exact ⟨l,R,fun i hi=>F _ (mem_sa.2 ⟨i,hi,rfl⟩)⟩
end Go.Proofs.YtljnkaodhfnbbaaGreatDoor.Nm
namespace Go.Proofs.YtljnkaodhfnbbaaGreatDoor.Bp
open Nm (S zS sa sa_get sa_set mem_sa Gd okN bad okP gd_of hs hs_iff fr frF frF_some ls ls_spec cn cn_set cn_le)
def top:Int:=18446744073709551615
def Low (l:List S):Prop:=∀ i,i < l.length→0≤(sa l i).1∧(sa l i).1≤top
def ans (l:List S) (c:Int):Bool:=l.any fun x=>decide (x.2=0∧x.1≤c)
theorem ans_iff {l:List S} {c:Int} : ans l c=true↔∃ i,i < l.length∧(sa l i).2=0∧(sa l i).1≤c:=by
 unfold ans;rw [List.any_eq_true]
 constructor
 ·rintro ⟨x,hx,e⟩
  obtain ⟨i,hi,rfl⟩:=mem_sa.1 hx;exact ⟨i,hi,by simpa using e⟩
 ·rintro ⟨i,hi,e⟩
  exact ⟨_,mem_sa.2 ⟨i,hi,rfl⟩,by simpa using e⟩
theorem ans_no {l:List S} {c:Int} : ans l c=false↔∀ i,i < l.length→(sa l i).2=0→c < (sa l i).1:=by
 rw [Bool.eq_false_iff,Ne,ans_iff]
 constructor
 ·intro h i hi h0
  exact Int.not_le.1 fun g=>h ⟨i,hi,h0,g⟩
 ·rintro h ⟨i,hi,h0,g⟩
  have:=h i hi h0
  omega
def hd (l:List S) (p:Int):Bool:=l.any fun x=>decide (x.2=0∧x.1=p)
theorem hd_iff {l:List S} {p:Int} : hd l p=true↔∃ i,i < l.length∧(sa l i).2=0∧(sa l i).1=p:=by
 unfold hd;rw [List.any_eq_true]
 constructor
 ·rintro ⟨x,hx,e⟩
  obtain ⟨i,hi,rfl⟩:=mem_sa.1 hx;exact ⟨i,hi,by simpa using e⟩
 ·rintro ⟨i,hi,e⟩
  exact ⟨_,mem_sa.2 ⟨i,hi,rfl⟩,by simpa using e⟩
def gon (L:List Bool) (i:Nat):Bool:=L.getD i false
theorem gon_off {L:List Bool} {i:Nat} (h:L.length≤i):gon L i=false:=by
 unfold gon;rw [List.getD_eq_getElem?_getD,List.getElem?_eq_none h]
 rfl
theorem gon_drop (L:List Bool) (r i:Nat):gon (L.drop r) i=gon L (r+i):=by
 unfold gon;rw [List.getD_eq_getElem?_getD,List.getD_eq_getElem?_getD,List.getElem?_drop]
def mid (a b:Int):Int:=(a+b) / 2
def nxt (l:List S) (g:Bool) (s:Int×Int):Int×Int :=
 if ans l (mid s.1 s.2)=true∧g=false then (s.1,mid s.1 s.2) else if mid s.1 s.2=top then s else (mid s.1 s.2+1,s.2)
def sK (l:List S) (L:List Bool) (r:Nat):Nat→Int×Int
 | 0=>(0,top)
 | k+1=>nxt l (gon L (r+(k+1))) (sK l L r k)
theorem nxt_yes {l:List S} {s:Int×Int} (h:ans l (mid s.1 s.2)=true):nxt l false s=(s.1,mid s.1 s.2):=if_pos ⟨h,rfl⟩
theorem nxt_no {l:List S} {g:Bool} {s:Int×Int} (h:¬ (ans l (mid s.1 s.2)=true∧g=false)) (h2:mid s.1 s.2≠top):nxt l g s=(mid s.1 s.2+1,s.2):=by unfold nxt;rw [if_neg h,if_neg h2]
structure In (s:Int×Int):Prop where
 lo:0≤s.1
 lt:s.1≤top
 hi:0≤s.2
 ht:s.2≤top
 le:s.1≤s.2+1
theorem In.mid {s:Int×Int} (h:In s):0≤mid s.1 s.2∧mid s.1 s.2≤top∧s.1≤mid s.1 s.2+1∧mid s.1 s.2≤s.2:=by
 obtain ⟨h1,h2,h3,h4,h5⟩:=h;unfold Bp.mid;unfold top at *
 omega
theorem In.nxt {l:List S} {g:Bool} {s:Int×Int} (h:In s):In (nxt l g s):=by
 obtain ⟨m1,m2,m3,m4⟩:=h.mid;obtain ⟨h1,h2,h3,h4,h5⟩:=h;unfold Bp.nxt
 split
 ·exact ⟨h1,h2,m1,m2,m3⟩
 ·split
  ·exact ⟨h1,h2,h3,h4,h5⟩
  ·exact ⟨by show 0≤Bp.mid s.1 s.2+1;omega,by show Bp.mid s.1 s.2+1≤top;omega,h3,h4,by show Bp.mid s.1 s.2+1≤s.2+1;omega⟩
theorem sK_in (l:List S) (L:List Bool) (r:Nat):∀ k,In (sK l L r k)
 | 0=>⟨(by decide:(0:Int)≤0),(by decide:(0:Int)≤top),(by decide:0≤top),(by decide:top≤top),(by decide:(0:Int)≤top+1)⟩
 | k+1=>(sK_in l L r k).nxt
def off (l:List S) (L:List Bool) (r:Nat):Bool:=!ans l top || gon L r
def fd (l:List S) (L:List Bool) (r:Nat):Bool:=hd l (sK l L r 64).2 && !gon L (r+65)
def sB (l:List S) (L:List Bool) (r:Nat):Bool:=!off l L r && fd l L r
def sN (l:List S) (L:List Bool) (r:Nat):Nat:=if off l L r=true then 1 else 66
def sP (l:List S) (L:List Bool) (r:Nat):Int:=if sB l L r=true then (sK l L r 64).2 else 0
theorem s_off {l:List S} {L:List Bool} {r:Nat} (h:off l L r=true):sB l L r=false∧sN l L r=1∧sP l L r=0:=by
 have e:sB l L r=false:=by unfold sB;rw [h];rfl
 exact ⟨e,if_pos h,by unfold sP;rw [e];rfl⟩
theorem s_yes {l:List S} {L:List Bool} {r:Nat} (h:off l L r=false) (h2:fd l L r=true):sB l L r=true∧sN l L r=66∧sP l L r=(sK l L r 64).2:=by
 have e:sB l L r=true:=by unfold sB;rw [h,h2];rfl
 exact ⟨e,by unfold sN;rw [h];rfl,by unfold sP;rw [e];rfl⟩
theorem s_no {l:List S} {L:List Bool} {r:Nat} (h:off l L r=false) (h2:fd l L r=false):sB l L r=false∧sN l L r=66∧sP l L r=0:=by
 have e:sB l L r=false:=by unfold sB;rw [h,h2];rfl
 exact ⟨e,by unfold sN;rw [h];rfl,by unfold sP;rw [e];rfl⟩
theorem s_found {l:List S} {L:List Bool} {r:Nat} (h:sB l L r=true):sN l L r=66∧∃ i,i < l.length∧(sa l i).2=0∧(sa l i).1=sP l L r:=by
 unfold sB at h;rw [Bool.and_eq_true,Bool.not_eq_true'] at h;obtain ⟨h1,h2⟩:=h;obtain ⟨_,e2,e3⟩:=s_yes h1 h2;unfold fd at h2;rw [Bool.and_eq_true] at h2;exact ⟨e2,by rw [e3];exact hd_iff.1 h2.1⟩
theorem s_many (l:List S) (L:List Bool) (r:Nat):sN l L r=1∨sN l L r=66:=by
 unfold sN
 split
 ·exact .inl rfl
 ·exact .inr rfl
theorem s_one {l:List S} {L:List Bool} {r:Nat} (h:sN l L r=1):ans l top=false∨gon L r=true:=by
 unfold sN at h
 cases e:off l L r with
 | false=>rw [e] at h;simp at h
 | true =>
   unfold off at e;rw [Bool.or_eq_true,Bool.not_eq_true'] at e;exact e
theorem sK_least {l:List S} {L:List Bool} {r:Nat} (hl:Low l) (hg:∀ i,r≤i→gon L i=false) (ha:ans l top=true):∀ k,k≤64 →
 ans l (sK l L r k).2=true∧(∀ c,c < (sK l L r k).1→ans l c=false)∧(sK l L r k).1≤(sK l L r k).2∧(sK l L r k).2 - (sK l L r k).1 < (2:Int) ^ (64 - k)
 | 0,_=>⟨ha,fun c (hc:c < 0)=>ans_no.2 fun i hi h0=>by
    have:=(hl i hi).1
    omega,(by decide:(0:Int)≤top),(by decide:top - 0 < (2:Int) ^ 64)⟩
 | k+1,hk=>by
   obtain ⟨h1,h2,h3,h4⟩:=sK_least hl hg ha k (by omega);have hI:=sK_in l L r k;have e:sK l L r (k+1)=nxt l false (sK l L r k):=by
    show nxt l (gon L (r+(k+1))) _=_
    rw [hg _ (by omega)]
   rw [e];have hp:(2:Int) ^ (64 - k)=2 * (2:Int) ^ (64 - (k+1)):=by
    rw [show 64 - k=(64 - (k+1))+1 by omega,Int.pow_succ]
    omega
   rw [hp] at h4;generalize (2:Int) ^ (64 - (k+1))=P at *;generalize sK l L r k=s at *;obtain ⟨m1,m2,m3,m4⟩:=hI.mid;have hm:mid s.1 s.2=(s.1+s.2) / 2:=rfl
   by_cases q:ans l (mid s.1 s.2)=true
   ·rw [nxt_yes q]
    exact ⟨q,h2,by show s.1≤mid s.1 s.2;omega,by show mid s.1 s.2 - s.1 < P;omega⟩
   ·have hne:mid s.1 s.2≠s.2:=fun g=>by rw [g] at q;exact q h1
    have hnt:mid s.1 s.2≠top:=by have:=hI.ht;omega
    rw [nxt_no (fun g=>q g.1) hnt];refine ⟨h1,fun c hc=>?_,by show mid s.1 s.2+1≤s.2;omega,by show s.2 - (mid s.1 s.2+1) < P;omega⟩;have hc:c < mid s.1 s.2+1:=hc;rw [Bool.not_eq_true] at q;exact ans_no.2 fun i hi h0=>by have:=ans_no.1 q i hi h0;omega
theorem s_least {l:List S} {L:List Bool} {r:Nat} (hl:Low l) (hg:∀ i,r≤i→gon L i=false) (ha:ans l top=true):sB l L r=true:=by
 obtain ⟨h1,h2,h3,h4⟩:=sK_least hl hg ha 64 (Nat.le_refl _);have e:(sK l L r 64).1=(sK l L r 64).2:=by
  rw [Nat.sub_self] at h4;have:(2:Int) ^ 0=1:=rfl
  omega
 rw [e] at h2;have ho:off l L r=false:=by unfold off;rw [ha,hg r (Nat.le_refl _)];rfl
 have hf:fd l L r=true:=by
  unfold fd;rw [hg _ (by omega),Bool.not_false,Bool.and_true];obtain ⟨i,hi,h0,hle⟩:=ans_iff.1 h1;refine hd_iff.2 ⟨i,hi,h0,?_⟩;have:=ans_no.1 (h2 ((sK l L r 64).2 - 1) (by omega)) i hi h0
  omega
 exact (s_yes ho hf).1
theorem ans_top {l:List S} (hl:Low l):ans l top=true↔0 < cn l:=by
 rw [ans_iff];unfold cn;rw [List.length_pos_iff_exists_mem]
 constructor
 ·rintro ⟨i,hi,h0,_⟩
  exact ⟨_,List.mem_filter.2 ⟨mem_sa.2 ⟨i,hi,rfl⟩,by simpa using h0⟩⟩
 ·rintro ⟨x,hx⟩
  obtain ⟨hx,h0⟩:=List.mem_filter.1 hx;obtain ⟨i,hi,rfl⟩:=mem_sa.1 hx;exact ⟨i,hi,by simpa using h0,(hl i hi).2⟩
theorem ls_some {l:List S} : 0≤ls l↔0 < cn l:=by
 unfold cn;rw [List.length_pos_iff_exists_mem]
 rcases ls_spec l with ⟨e,h⟩ | ⟨i,e,hi,h0,_⟩
 ·rw [e]
  refine ⟨fun g=>by omega,?_⟩;rintro ⟨x,hx⟩;obtain ⟨hx,h0⟩:=List.mem_filter.1 hx;obtain ⟨i,hi,rfl⟩:=mem_sa.1 hx;exact absurd (by simpa using h0) (h i hi)
 ·rw [e]
  exact ⟨fun _=>⟨_,List.mem_filter.2 ⟨mem_sa.2 ⟨i,hi,rfl⟩,by simpa using h0⟩⟩,fun _=>by omega⟩
def nmd (p n:Int) (x:S):S:=if x.1=p then (x.1,n) else x
def nm (p n:Int) (c:List S):List S:=c.map (nmd p n)
theorem nm_len (p n:Int) (c:List S):(nm p n c).length=c.length:=List.length_map _
theorem nm_sa {p n:Int} {c:List S} {i:Nat} (hi:i < c.length):sa (nm p n c) i=nmd p n (sa c i):=by
 have h2:i < (nm p n c).length:=by rw [nm_len];exact hi
 have:=sa_get h2;unfold nm at this;rw [List.getElem?_map,sa_get hi] at this;exact (Option.some.inj this).symm
theorem nm_le {p n:Int} (hn:n≠0):∀ c:List S,cn (nm p n c)≤cn c
 | []=>Nat.le_refl _
 | x :: r=>by
   have ih:=nm_le (p:=p) hn r;unfold cn nm at ih ⊢;rw [List.map_cons,List.filter_cons,List.filter_cons]
   by_cases h:x.1=p
   ·have e:nmd p n x=(x.1,n):=if_pos h
    rw [e,if_neg (by simpa using hn)]
    split
    ·simp only [List.length_cons];omega
    ·exact ih
   ·have e:nmd p n x=x:=if_neg h
    rw [e]
    split
    ·simp only [List.length_cons];omega
    ·exact ih
theorem nm_lt {p n:Int} (hn:n≠0):∀ {c:List S},(∃ x∈c,x.2=0∧x.1=p)→cn (nm p n c) < cn c
 | [],h=>by obtain ⟨x,hx,_⟩:=h;cases hx
 | x :: r,h=>by
   have le:=nm_le (p:=p) hn r
   by_cases g:x.2=0∧x.1=p
   ·unfold cn nm at le ⊢
    have e:nmd p n x=(x.1,n):=if_pos g.2;rw [List.map_cons,List.filter_cons,List.filter_cons,e,if_neg (by simpa using hn),if_pos (by simpa using g.1)];simp only [List.length_cons]
    omega
   ·have ih:=nm_lt (p:=p) hn (c:=r) (by
     obtain ⟨y,hy,hy2⟩:=h
     rcases List.mem_cons.1 hy with rfl | hy
     ·exact absurd hy2 g
     ·exact ⟨y,hy,hy2⟩)
    unfold cn nm at ih ⊢;rw [List.map_cons,List.filter_cons,List.filter_cons]
    by_cases h2:x.1=p
    ·have e:nmd p n x=(x.1,n):=if_pos h2
     rw [e,if_neg (by simpa using hn)]
     split
     ·simp only [List.length_cons];omega
     ·exact ih
    ·have e:nmd p n x=x:=if_neg h2
     rw [e]
     split
     ·simp only [List.length_cons];omega
     ·exact ih
theorem Low.nm {p n:Int} {c:List S} (h:Low c):Low (nm p n c):=fun i hi=>by
 rw [nm_len] at hi;rw [nm_sa hi];unfold nmd
 split
 ·exact h i hi
 ·exact h i hi
structure Kb (l c:List S):Prop where
 len:c.length=l.length
 gd:Gd c
 phys:∀ i,i < l.length→(sa c i).1=(sa l i).1
 named:∀ i,i < l.length→0 < (sa l i).2→(sa c i).2=(sa l i).2
theorem Kb.start {l:List S} (h:Gd l):Kb l l:=⟨rfl,h,fun _ _=>rfl,fun _ _ _=>rfl⟩
theorem Kb.step {l c:List S} (h:Kb l c) {most p:Int} (hf:0 < fr c most) (hp:∃ i,i < c.length∧(sa c i).2=0∧(sa c i).1=p):Kb l (nm p (fr c most) c):=by
 obtain ⟨i,hi,h0,hpi⟩:=hp;obtain ⟨f1,f2,f3,f4,_⟩:=frF_some (l:=c) (most:=most) (f:=254) (n:=1) (by omega) hf
 change hs c (fr c most)=false at f4
 change fr c most < 1+254 at f2
 generalize fr c most=n at *;have new:∀ j,j < c.length→(sa c j).2≠(n:Int):=fun j hj e=>by
  have:=hs_iff.2 ⟨j,hj,e⟩;rw [f4] at this
  cases this
 have at_i:sa (nm p n c) i=((sa c i).1,(n:Int)):=by rw [nm_sa hi];exact if_pos hpi
 have off:∀ j,j < c.length→j≠i→sa (nm p n c) j=sa c j:=fun j hj ne=>by
  rw [nm_sa hj];exact if_neg fun e=>ne (h.gd.phys hj hi (e.trans hpi.symm))
 have ph:∀ j,j < c.length→(sa (nm p n c) j).1=(sa c j).1:=fun j hj=>by
  by_cases e:j=i
  ·subst e;rw [at_i]
  ·rw [off j hj e]
 have sz:=nm_len p n c;have hlen:=h.len;have hg:=h.gd;have nm_i:(sa (nm p n c) i).2=(n:Int):=by rw [at_i]
 generalize nm p n c=c' at *;refine ⟨by omega,gd_of (by have:=hg.len;omega) (fun j hj=>?_) (fun j k hj hk e=>?_) (fun j k hj hk e q=>?_),fun j hj=>(ph j (by omega)).trans (h.phys j hj),fun j hj q=>?_⟩
 ·by_cases e:j=i
  ·subst e;unfold okN;omega
  ·rw [off j (by omega) e];exact hg.num (by omega)
 ·rw [ph j (by omega),ph k (by omega)] at e
  exact hg.phys (by omega) (by omega) e
 ·by_cases e1:j=i
  ·by_cases e2:k=i
   ·omega
   ·subst e1
    rw [off k (by omega) e2,nm_i] at e;exact absurd e.symm (new k (by omega))
  ·by_cases e2:k=i
   ·subst e2
    rw [off j (by omega) e1,nm_i] at e;exact absurd e (new j (by omega))
   ·rw [off j (by omega) e1] at e q
    rw [off k (by omega) e2] at e;exact hg.name (by omega) (by omega) e q
 ·have ne:j≠i:=fun g=>by
   subst g;have:=h.named j hj q
   omega
  rw [off j (by omega) ne];exact h.named j hj q
def rn (most:Int) (L:List Bool):Nat→List S→Nat→List S×Nat×Int
 | 0,c,r=>(c,r,0)
 | f+1,c,r =>
   if 0≤ls c∧fr c most=0 then (c,r,11)
   else if sB c L r=false∧sN c L r=1∧gon L r=false then (c,r+1,0)
   else if sB c L r=true then rn most L f (nm (sP c L r) (fr c most) c) (r+67) else rn most L f c (r+sN c L r)
def mu (L:List Bool) (c:List S) (r:Nat):Nat:=(L.length - r)+cn c
section
variable {most:Int} {L:List Bool} {f r:Nat} {c:List S}
theorem rn_full (h:0≤ls c∧fr c most=0):rn most L (f+1) c r=(c,r,11):=if_pos h
theorem rn_done (h:¬ (0≤ls c∧fr c most=0)) (h2:sB c L r=false∧sN c L r=1∧gon L r=false):rn most L (f+1) c r=(c,r+1,0):=by
 unfold rn;rw [if_neg h,if_pos h2]
theorem rn_named (h:¬ (0≤ls c∧fr c most=0)) (h2:sB c L r=true):rn most L (f+1) c r=rn most L f (nm (sP c L r) (fr c most) c) (r+67):=by
 rw [rn,if_neg h,if_neg (fun g=>by rw [h2] at g;exact Bool.noConfusion g.1),if_pos h2]
theorem rn_again (h:¬ (0≤ls c∧fr c most=0)) (h2:¬ (sB c L r=false∧sN c L r=1∧gon L r=false)) (h3:sB c L r=false):rn most L (f+1) c r=rn most L f c (r+sN c L r):=by
 rw [rn,if_neg h,if_neg h2,if_neg (by rw [h3];exact Bool.false_ne_true)]
theorem named_pos (hl:Low c) (h:¬ (0≤ls c∧fr c most=0)) (h2:sB c L r=true):0 < fr c most∧∃ i,i < c.length∧(sa c i).2=0∧(sa c i).1=sP c L r:=by
 obtain ⟨_,i,hi,h0,hp⟩:=s_found h2;refine ⟨Nat.pos_of_ne_zero fun e=>h ⟨ls_some.2 ((ans_top hl).1 (ans_iff.2 ⟨i,hi,h0,(hl i hi).2⟩)),e⟩,i,hi,h0,hp⟩
theorem named_mu (hl:Low c) (h:¬ (0≤ls c∧fr c most=0)) (h2:sB c L r=true):cn (nm (sP c L r) (fr c most) c) < cn c∧mu L (nm (sP c L r) (fr c most) c) (r+67) < mu L c r:=by
 obtain ⟨hf,i,hi,h0,hp⟩:=named_pos hl h h2;have:=nm_lt (p:=sP c L r) (n:=(fr c most:Int)) (by omega) ⟨_,mem_sa.2 ⟨i,hi,rfl⟩,h0,hp⟩;unfold mu
 omega
theorem again_mu (hl:Low c) (h2:¬ (sB c L r=false∧sN c L r=1∧gon L r=false)) (h3:sB c L r=false):r < L.length∧mu L c (r+sN c L r) < mu L c r:=by
 have hr:r < L.length:=by
  refine Classical.byContradiction fun g=>?_;have hg:∀ i,r≤i→gon L i=false:=fun i hi=>gon_off (by omega)
  cases ha:ans c top with
  | true=>rw [s_least hl hg ha] at h3;cases h3
  | false =>
    have ho:off c L r=true:=by unfold off;rw [ha];rfl
    exact h2 ⟨h3,(s_off ho).2.1,hg r (Nat.le_refl _)⟩
 refine ⟨hr,?_⟩;unfold mu
 rcases s_many c L r with e | e <;> omega
end
def rnL (l:List S) (most:Int) (L:List Bool):List S:=(rn most L (L.length+l.length+1) l 0).1
def rnN (l:List S) (most:Int) (L:List Bool):Nat:=(rn most L (L.length+l.length+1) l 0).2.1
def rnE (l:List S) (most:Int) (L:List Bool):Int:=(rn most L (L.length+l.length+1) l 0).2.2
theorem rn_safe {l:List S} {most:Int} {L:List Bool} (hl:Gd l):∀ {f r:Nat} {c:List S},Low c→Kb l c→mu L c r < f→cn c≤cn l→r+67 * cn c≤L.length+66+67 * cn l →
 Kb l (rn most L f c r).1∧(rn most L f c r).2.1≤L.length+67 * (cn l+1)∧((rn most L f c r).2.2=0→cn (rn most L f c r).1=0)
 | 0,r,c,_,_,h,_,_=>absurd h (Nat.not_lt_zero _)
 | f+1,r,c,hlo,hk,hm,hc,hb=>by
   by_cases h:0≤ls c∧fr c most=0
   ·rw [rn_full h]
    exact ⟨hk,by show r≤_;omega,fun g=>absurd (show (11:Int)=0 from g) (by decide)⟩
   ·by_cases h2:sB c L r=false∧sN c L r=1∧gon L r=false
    ·rw [rn_done h h2]
     refine ⟨hk,by show r+1≤_;omega,fun _=>?_⟩
     show cn c=0
     have:=s_one h2.2.1;rw [h2.2.2] at this;have ha:=this.resolve_right (by decide);refine Nat.eq_zero_of_not_pos fun g=>?_;rw [(ans_top hlo).2 g] at ha
     cases ha
    ·cases h3:sB c L r with
     | true =>
       rw [rn_named h h3];obtain ⟨hf,hi⟩:=named_pos hlo h h3;obtain ⟨m1,m2⟩:=named_mu hlo h h3;exact rn_safe hl hlo.nm (hk.step hf hi) (by omega) (by omega) (by omega)
     | false =>
       rw [rn_again h h2 h3];obtain ⟨m1,m2⟩:=again_mu hlo h2 h3;exact rn_safe hl hlo hk (by omega) hc (by rcases s_many c L r with e | e <;> omega)
theorem run_safe {l:List S} (most:Int) (L:List Bool) (hg:Gd l) (hlo:Low l):Kb l (rnL l most L)∧rnN l most L≤L.length+67 * (cn l+1)∧(rnE l most L=0→cn (rnL l most L)=0) :=
 rn_safe hg hlo (Kb.start hg) (by unfold mu;have:=cn_le l;omega) (Nat.le_refl _) (by omega)
def cnK (l:List S):Nat→Nat
 | 0=>0
 | k+1=>if (sa l k).2=0 then cnK l k+1 else cnK l k
theorem cnK_all (l:List S):cnK l l.length=cn l:=by
 have h:∀ k,k≤l.length→cnK l k=cn (l.take k):=fun k=>by
  induction k with
  | zero=>intro _;rfl
  | succ k ih =>
    intro hk
    have:=ih (by omega);rw [List.take_add_one,sa_get (by omega:k < l.length)];unfold cn at this ⊢;rw [List.filter_append,List.length_append,← this]
    show (if (sa l k).2=0 then cnK l k+1 else cnK l k)=_
    by_cases e:(sa l k).2=0
    ·rw [if_pos e];simp [e]
    ·rw [if_neg e];simp [e]
 rw [h _ (Nat.le_refl _),List.take_length]
theorem cn_zero {l:List S} (h:cn l=0) {i:Nat} (hi:i < l.length):(sa l i).2≠0:=fun e=>by
 unfold cn at h;have:sa l i∈l.filter fun x=>decide (x.2=0):=List.mem_filter.2 ⟨mem_sa.2 ⟨i,hi,rfl⟩,by simpa using e⟩;rw [List.length_eq_zero_iff.1 h] at this
 cases this
end Go.Proofs.YtljnkaodhfnbbaaGreatDoor.Bp
namespace Go.Proofs.YtljnkaodhfnbbaaGreatDoor.Nm
open Go.RowKit
open Rw (Rd Ow At)
open Fl (ret_bool at_bool)
def frB (l:List S) (most:Int):Bool:=decide (0 < fr l most)
def FreePost (w:World) (l:List S) (most:Int) (e:Ending) (w':World):Prop:=e = .returned (.tuple #[.int .i64 (fr l most),.bool (frB l most)])∧Below w.heap.size w w'
def FrAt (l:List S) (most:Int) (k:Nat):Prop:=1≤k∧fr l most=frF l most k (255 - k)
theorem fr_start (l:List S) (most:Int):FrAt l most 1:=⟨Nat.le_refl _,rfl⟩
theorem fr_hit {l:List S} {most:Int} {k:Nat} (h:FrAt l most k) (h1:k≤254) (h2:(k:Int)≤most) (h3:hs l k=false):fr l most=k∧frB l most=true:=by
 have e:fr l most=k:=by
  rw [h.2,show 255 - k=(254 - k)+1 by omega,frF,if_pos h2,h3,if_neg (by decide)]
 exact ⟨e,decide_eq_true (by have:=h.1;omega)⟩
theorem fr_next {l:List S} {most:Int} {k:Nat} (h:FrAt l most k) (h1:k≤254) (h2:(k:Int)≤most) (h3:hs l k=true):FrAt l most (k+1):=by
 refine ⟨by omega,?_⟩;rw [h.2,show 255 - k=(254 - k)+1 by omega,frF,if_pos h2,h3,if_pos rfl,show 255 - (k+1)=254 - k by omega]
theorem fr_end {l:List S} {most:Int} {k:Nat} (h:FrAt l most k) (h1:k=255∨most < k):fr l most=0∧frB l most=false:=by
 have e:fr l most=0:=by
  rw [h.2]
  rcases h1 with h1 | h1
  ·rw [h1];rfl
  ·rcases e:255 - k with _ | f
   ·rfl
   ·rw [frF,if_neg (by omega)]
 exact ⟨e,decide_eq_false (by omega)⟩
theorem ls_next {l:List S} {k:Nat} (h:(sa l k).2=0∧(lsK l k < 0∨(sa l k).1 < (sa l (lsK l k).toNat).1)):lsK l (k+1)=k:=if_pos h
theorem ls_stay {l:List S} {k:Nat} (h:¬ ((sa l k).2=0∧(lsK l k < 0∨(sa l k).1 < (sa l (lsK l k).toNat).1))):lsK l (k+1)=lsK l k:=if_neg h
theorem lsK_cases (l:List S) (k:Nat):lsK l k = -1∨∃ i:Nat,lsK l k=i∧i < k:=by
 rcases lsK_spec l k with ⟨h,_⟩ | ⟨i,h,hi,_⟩
 ·exact .inl h
 ·exact .inr ⟨i,h,hi⟩
def lsP (l:List S):Int:=if ls l < 0 then 0 else (sa l (ls l).toNat).1
def sameB (l l':List S):Bool:=decide (l=l')
theorem sa_same {l l':List S} (h:l.length=l'.length) (e:∀ i,i < l.length→sa l i=sa l' i):l=l' :=
 List.ext_getElem? fun i=>by
  by_cases hi:i < l.length
  ·rw [sa_get hi,sa_get (by omega),e i hi]
  ·rw [List.getElem?_eq_none (by omega),List.getElem?_eq_none (by omega)]
set_option maxHeartbeats 1000000 in
theorem rsame_any (w:World) (v v':Value) (l l':List S) (R:Rd KV w v l) (R':Rd KV w v' l'):Calls Tryz.prog 49 #[v,v'] w fun e w'=>e = .returned (.bool (sameB l l'))∧Below w.heap.size w w':=by
 have HNO:Hid (¬ l=l'→false=sameB l l'):=fun h=>(decide_eq_false h).symm;have HYES:Hid (l=l'→true=sameB l l'):=fun b=>(decide_eq_true b).symm;have HL:Hid (l.length=l'.length→(∀ i,i < l.length→sa l i=sa l' i)→l=l'):=fun a b=>sa_same a b;obtain ⟨a,cap,rfl,_,hm,hA⟩:=R;obtain ⟨a',cap',rfl,_,hm',hA'⟩:=R';have HA:=Lib.hid hA;have HA':=Lib.hid hA';unfold maxLen at hm hm';clear hA hA';have HNE:Hid (l.length≠l'.length→¬ (l=l')):=fun h2 h=>h2 (by rw [h]);generalize hn:l.length=n at *;generalize hn':l'.length=n' at *;have HN:=Lib.hid hn;have HN':=Lib.hid hn';clear hn hn'
 by_cases h2:n=n'
 ·subst h2
  go_enter Tryz.func49,Tryz.ntmps49
  go_wp2
  go_loopw [5] (fun i wr=>∃ k:Nat,k≤n∧i = .int .i64 k∧Hid (Below w.heap.size w wr)∧Hid (∀ i,i < k→sa l i=sa l' i)) (fun i _=>n - (intOf i).toNat)
  case atStart=>exact ⟨0,Nat.zero_le _,rfl,Below.refl _ _,fun i hi=>absurd hi (Nat.not_lt_zero i)⟩
  case round =>
   obtain ⟨j,hj,rfl,bw,hs⟩:=hrel
   by_cases hlt:j < n
   ·obtain ⟨b,off,rfl,A⟩:=HA.out (by omega)
    obtain ⟨b',off',rfl,A'⟩:=HA'.out (by omega);obtain ⟨c0,c1⟩:=atV (A.below bw.out) (i:=j) (by have:=HN.out;omega);obtain ⟨d0,d1⟩:=atV (A'.below bw.out) (i:=j) (by have:=HN'.out;omega);have HAA:=Lib.hid A;have HAA':=Lib.hid A';clear A A';have es:=eq_slave (sa l j) (sa l' j)
    by_cases he:sa l j=sa l' j
    ·have ST:Hid (∀ i,i < j+1→sa l i=sa l' i):=fun i hi=>by
      by_cases e:i=j
      ·rw [e];exact he
      ·exact hs.out i (by omega)
     rw [decide_eq_true he] at es;clear he;generalize sa l j=r at *;generalize sa l' j=r' at *;go_wp2
     go_quiet (fail)
     go_wp2
     go_roundw
     case rel=>exact ⟨j+1,by omega,by go_num,below_drewN bw.out _,ST⟩
     case measure=>simp [intOf];omega
    ·have E:=Lib.hid (HNO.out (fun h=>he (by rw [h])))
     rw [decide_eq_false he] at es;clear he;generalize sa l j=r at *;generalize sa l' j=r' at *;go_wp2
     go_quiet (fail)
     go_wp2
     go_ret
     exact ⟨ret_bool E.out,below_drewN bw.out _⟩
   ·obtain rfl:j=n:=by omega
    have E:=Lib.hid (HYES.out (HL.out (by trivial) (fun i hi=>hs.out i hi)));go_wp2
    go_ret
    exact ⟨ret_bool E.out,bw.out⟩
 ·have E:=Lib.hid (HNO.out (HNE.out h2))
  have h3:¬ ((n:Int)=n'):=by omega
  clear HL HA HA' HYES HNO
  go_enter Tryz.func49,Tryz.ntmps49
  go_wp2
  go_ret
  exact ⟨ret_bool E.out,Below.refl _ _⟩
end Go.Proofs.YtljnkaodhfnbbaaGreatDoor.Nm
namespace Go.Proofs.YtljnkaodhfnbbaaGreatDoor.Bp
open Go.RowKit
open Rw (Rd Ow At)
open Fl (ret_bool at_bool)
open Nm (S zS sa sa_get sa_set mem_sa Gd KV atV Fit)
theorem fit_low {l:List S} (F:Fit l):Low l:=fun i hi=>by
 have:=(F i hi).1;unfold top
 omega
def KG:Rw.Kind Bool:=⟨fun b=>[.bool b],1,by decide,fun _=>rfl,fun _ u h=>by simp at h;subst h;rfl,false⟩
theorem atG {w:World} {b off:Nat} {L:List Bool} (h:At KG w b off L) {i:Nat} (hi:i < L.length):w.cell? ⟨b,off+i,none⟩=some (.bool (gon L i)):=by
 have c:=h i hi 0 _ rfl
 simpa [KG,gon] using c
def SearchPost (w:World) (l:List S) (L:List Bool) (r:Nat) (e:Ending) (w':World):Prop:=e = .returned (.tuple #[.int .u64 (sP l L r),.int .i64 (sN l L r),.bool (sB l L r)])∧Below w.heap.size w w'
end Go.Proofs.YtljnkaodhfnbbaaGreatDoor.Bp
namespace Go.Proofs.YtljnkaodhfnbbaaGreatDoor.Bp
open Go.ChangeShapes Go.WideShapes Go.ChangeAt Go.RowKit Go.Deep
open Rw (Rd Ow At)
theorem bool_cell {H:Type} {enc:TypeId×Value→H} {W:World} {base fuel:Nat} {sp:Nat→Bool} {held:Bool} {cs:List Value} {x:DataW H×List MemPlace}
 (h:DataW.trod enc Tryz.prog W base sp held fuel 4 cs=some x):∃ r:Bool,cs=KG.enc r∧True:=by
 obtain ⟨a,ha,_⟩:=DataW.trod_bool Tryz.underlying4 (x:=x) h;exact ⟨a,ha,trivial⟩
theorem bools_of {H:Type} {enc:TypeId×Value→H} {W:World} {v:Value} {base:Nat} {sp:Nat→Bool} {held:Bool} {d:DataW H} {p:List MemPlace} {r:Reach} {b0:Nat}
 (hv:Value.okWide Tryz.prog W r b0 35 v) (h:DataW.Trod enc Tryz.prog W base sp held 35 v d p):∃ l,Rd KG W v l:=by
 obtain ⟨a0,len0,cap0,rfl⟩:=okWide_slice Tryz.underlying35 hv;obtain ⟨fuel,hf⟩:=h;obtain ⟨l,R,_⟩:=Nm.open_rd (K:=KG) (fun _=>True) Tryz.underlying35 (by kernel_rfl) (fun h=>bool_cell h) (by simpa [Value.cells] using hf);exact ⟨l,R⟩
end Go.Proofs.YtljnkaodhfnbbaaGreatDoor.Bp
namespace Go.Proofs.YtljnkaodhfnbbaaGreatDoor.Sd
open Go.RowKit
def isLen:Callee→Bool
 | .builtin .len=>true
 | _=>false
def light:Op→Bool
 | .call c=>isLen c.callee
 | .move _=>true | .assign _=>true | .pick ..=>true | .load ..=>true | .binOp ..=>true | .unOp ..=>true | .convert ..=>true
 | .fieldAddr ..=>true | .field ..=>true | .indexAddr ..=>true | .index ..=>true | .extract ..=>true | .build ..=>true
 | .nilCheck _=>true | .lookup ..=>true | .makeInterface ..=>true | .slice ..=>true
 | _=>false
theorem value_of {P:Program} {s:Sem Value} {w w':World} {n:Next} (h:(do let x ← s;pure (Next.value x):Sem Next).run P w = .ok n w'):∃ v,n = .value v:=by
 simp only [Sem.run_bind,Sem.run_pure] at h
 cases e:s.run P w with
 | ok x w1=>rw [e] at h;simp only [Result.andThen] at h;injection h with h1 h2;exact ⟨x,h1.symm⟩
 | halt x w1=>rw [e] at h;simp only [Result.andThen] at h;cases h
def OnlyV (s:Sem Next):Prop:=∀ (P:Program) (w w':World) (n:Next),s.run P w = .ok n w'→∃ v,n = .value v
theorem ov_bind {β:Type} (s:Sem β) (f:β→Sem Next) (h:∀ x,OnlyV (f x)):OnlyV (s >>= f):=fun P w w' n hr=>by
 rw [Sem.run_bind] at hr
 cases e:s.run P w with
 | ok x w1=>rw [e] at hr;exact h x P w1 w' n hr
 | halt x w1=>rw [e] at hr;cases hr
theorem ov_pure (v:Value):OnlyV (pure (Next.value v)):=fun P w w' n h=>by simp only [Sem.run_pure] at h;injection h with h1 h2;exact ⟨_,h1.symm⟩
theorem nil_value {ρ:Operand→Value} {o:Oper} {x:Operand} {P:Program} {w w':World} {n:Next} (ho:o.op = .nilCheck x) (h:(execOp ρ o).run P w = .ok n w'):∃ v,n = .value v:=by
 unfold execOp at h;rw [ho] at h;simp only at h
 split at h
 ·simp [runtimePanic] at h
 ·simp [runtimePanic] at h
 ·simp [runtimePanic] at h
 ·split at h
  ·simp [runtimePanic] at h
  ·refine ov_bind _ _ (fun p=>ov_bind _ _ fun r=>?_) P w w' n h
   split
   ·exact ov_bind _ _ fun _=>ov_pure _
   ·exact ov_pure _
  ·simp only [Sem.run_pure] at h;injection h with h1 h2;exact ⟨_,h1.symm⟩
 ·simp only [Sem.run_pure] at h;injection h with h1 h2;exact ⟨_,h1.symm⟩
theorem len_value {ρ:Operand→Value} {o:Oper} {c:Call} {P:Program} {w w':World} {n:Next} (ho:o.op = .call c) (hc:isLen c.callee=true) (h:(execOp ρ o).run P w = .ok n w'):∃ v,n = .value v:=by
 obtain ⟨f,cas,ts⟩:=c
 cases f with
 | builtin b =>
   cases b with
   | len =>
     unfold execOp at h;rw [ho] at h;simp only [resolve,Sem.run_bind,Sem.run_pure,Result.andThen,invoke,builtin] at h;exact value_of (s:=Builtin.len_ _ _ _) (by simpa only [Sem.run_bind,Sem.run_pure,Result.andThen] using h)
   | _=>cases hc
 | _=>cases hc
theorem light_value {P:Program} {ρ:Operand→Value} {o:Oper} {w w':World} {n:Next} (hl:light o.op=true) (h:(execOp ρ o).run P w = .ok n w'):∃ v,n = .value v:=by
 by_cases hc:∃ x,o.op = .nilCheck x
 ·obtain ⟨x,hx⟩:=hc
  exact nil_value hx h
 by_cases hd:∃ c,o.op = .call c
 ·obtain ⟨c,hx⟩:=hd
  rw [hx] at hl;exact len_value hx hl h
 unfold execOp at h
 cases ho:o.op <;> rw [ho] at hl h <;> first | (exact (hd ⟨_,ho⟩).elim) | (cases hl;done) | (exact (hc ⟨_,ho⟩).elim) | skip
 all_goals first
  | exact value_of h
  | (simp only [Sem.run_pure] at h;injection h with h1 h2;exact ⟨_,h1.symm⟩)
  | (simp only [Sem.run_bind,Sem.run_pure] at h
     revert h
     cases (asBool _).run P w with
     | ok x w1=>intro h;simp only [Result.andThen] at h;injection h with h1 h2;exact ⟨_,h1.symm⟩
     | halt x w1=>intro h;simp only [Result.andThen] at h;cases h)
def picks (l:List Oper):List (Bool×Nat)→List (Bool×Oper)
 | []=>[]
 | (h,i) :: r=>match l[i]? with
   | some o=>(h,o) :: picks l r
   | none=>picks l r
def good (ops:Array Oper):List (Bool×Nat)→Array Bool→Nat→Bool
 | [],listed,_=>(Region.ready .any ops listed).isEmpty
 | _ :: _,_,0=>false
 | (h,i) :: r,listed,fuel+1 =>
   (match ops[i]? with
    | some o=>if h then Region.ready .any ops listed == [i] else light o.op && Region.free .any ops listed i && (Region.ready .any ops listed).contains i
    | none=>false) && good ops r (listed.setIfInBounds i true) fuel
def wpSd (P:Program) (ops:Array Oper) (C:World→Prop) (Q:Exit→Act→World→Prop):List (Bool×Oper)→Act→World→Prop
 | [],a,w=>Q .normal a w
 | (false,o) :: r,a,w=>wpQuiet P ops C (fun a'=>wpSd P ops C Q r a' w) [o] a
 | (true,o) :: r,a,w=>if Region.wanted o (yielded ops a.tmps) then o.wp P a w (fun a' w'=>C w'∧wpSd P ops C Q r a' w') Q else wpSd P ops C Q r (a.put o.dst undef) w
theorem sound {P:Program} {l:List Oper} {C:World→Prop} {Q:Exit→Act→World→Prop} (hs:Region.noSelect l.toArray=true) (hQ:∀ c d v a w,Q (.panic c) (Act.put a d v) w→Q (.panic c) a w) :
 ∀ (sc:List (Bool×Nat)) (listed:Array Bool) (fuel:Nat) (a:Act) (w:World),good l.toArray sc listed fuel=true→C w→wpSd P l.toArray C Q (picks l sc) a w→wpAnyH P .any l.toArray Q C fuel listed a w
 | [],listed,fuel,a,w,hg,_,h=>wpAnyH_done (List.isEmpty_iff.1 hg) h fuel
 | _ :: _,_,0,_,_,hg,_,_=>by cases hg
 | (b,i) :: r,listed,fuel+1,a,w,hg,hC,h=>by
   unfold good at hg;simp only [Bool.and_eq_true] at hg;obtain ⟨hg1,hg2⟩:=hg;have hll:l.toArray[i]? = l[i]?:=by rw [List.getElem?_toArray]
   cases ho:l[i]? with
   | none=>rw [hll,ho] at hg1;cases hg1
   | some o =>
     rw [hll,ho] at hg1;have hop:l.toArray[i]? = some o:=hll.trans ho;have hp:picks l ((b,i) :: r)=(b,o) :: picks l r:=by rw [picks,ho]
     rw [hp] at h
     cases b with
     | true =>
       simp only [if_true,beq_iff_eq] at hg1;refine wpAnyH_all hg1 (by simp) fun j hj=>?_;obtain rfl:j=i:=by simpa using hj
       unfold wpOp;simp only [hop];unfold wpSd at h
       by_cases hw:Region.wanted o (yielded l.toArray a.tmps)=true
       ·rw [if_pos hw] at h ⊢
        exact .inl (Oper.wp_mono (fun a' w' ⟨c,k⟩=>⟨c,sound hs hQ r _ fuel a' w' hg2 c k⟩) h)
       ·rw [if_neg hw] at h ⊢
        exact ⟨hC,sound hs hQ r _ fuel _ w hg2 hC h⟩
     | false =>
       simp only [Bool.false_eq_true,if_false,Bool.and_eq_true] at hg1;obtain ⟨⟨hk,hf⟩,hr⟩:=hg1;unfold wpSd at h
       by_cases hw:Region.wanted o (yielded l.toArray a.tmps)=true
       ·unfold wpQuiet at h
        rw [if_pos hw] at h;obtain ⟨v,hv,hn⟩:=h;refine wpAnyH_take (v:=v) hop hs hf hr (fun c a w=>hQ c _ _ a w) (.inl ⟨hw,fun w' hw'=>?_⟩) hC (sound hs hQ r _ fuel _ w hg2 hC hn);have q:=hv w' hw';unfold Oper.quietAt at q
        cases e:(execOp a.eval o).run P w' with
        | halt x w1=>rw [e] at q;cases q
        | ok n w1 =>
          obtain ⟨u,rfl⟩:=light_value hk e;rw [e] at q;obtain ⟨e1,e2⟩:=q;rw [e1,e2]
       ·unfold wpQuiet at h
        rw [if_neg hw] at h;exact wpAnyH_take (v:=undef) hop hs hf hr (fun c a w=>hQ c _ _ a w) (.inr ⟨by simpa using hw,rfl⟩) hC (sound hs hQ r _ fuel _ w hg2 hC h)
structure By (w:World) where
 world:World
 below:Below w.heap.size w world
instance (w:World):Nonempty (By w):=⟨⟨w,Below.refl _ _⟩⟩
def Cl (w:World) (w':World):Prop:=∃ p:By w,w'=p.world
theorem Cl.of {w w':World} (h:Below w.heap.size w w'):Cl w w':=⟨⟨w',h⟩,rfl⟩
theorem Cl.bel {w w':World} (h:Cl w w'):Below w.heap.size w w':=by obtain ⟨p,rfl⟩:=h;exact p.below
theorem cell_by {w:World} {a:Addr} {v:Value} (h:w.cell? a=some v) (p:By w):p.world.cell? a=some v:=(p.below.cell (World.block_lt_of_cell? _ _ h)).trans h
theorem start {P:Program} {id:Nat} {l:List Oper} {Q:Exit→Act→World→Prop} {a:Act} {w:World} (sc:List (Bool×Nat)) (hm:P.follows .mixedOrders=true) (hs:Region.noSelect l.toArray=true)
 (hg:good l.toArray sc (Array.replicate l.toArray.size false) l.toArray.size=true) (h:wpSd P l.toArray (fun w'=>∃ p:By w,w'=p.world) (NoPanic Q) (picks l sc) a w.drew):(Code.region id l.toArray true).wp P Q a w :=
 wp_region_noPanic (wp_region_held_drew (S:=fun w'=>∃ p:By w,w'=p.world) hm ⟨⟨w.drew,(Below.refl _ _).drew⟩,rfl⟩ fun _=>sound hs (fun _ _ _ _ _ h=>h) sc _ _ a _ hg ⟨⟨w.drew,(Below.refl _ _).drew⟩,rfl⟩ h)
section
variable {P:Program} {ops:Array Oper} {C:World→Prop} {Q:Exit→Act→World→Prop} {a:Act} {w:World} {o:Oper} {r:List (Bool×Oper)}
theorem done (h:Q .normal a w):wpSd P ops C (NoPanic Q) [] a w:=h
theorem lit (h:wpQuiet P ops C (fun a'=>wpSd P ops C Q r a' w) [o] a):wpSd P ops C Q ((false,o) :: r) a w:=h
theorem call (hw:Region.wanted o (yielded ops a.tmps)=true) (h:∀ K:Act→World→Prop,(∀ a w,C w→wpSd P ops C Q r a w→K a w)→o.wp P a w K Q):wpSd P ops C Q ((true,o) :: r) a w:=by
 unfold wpSd;rw [if_pos hw];exact h _ fun a w c k=>⟨c,k⟩
theorem past (hw:Region.wanted o (yielded ops a.tmps)=false) (h:wpSd P ops C Q r (a.put o.dst undef) w):wpSd P ops C Q ((true,o) :: r) a w:=by
 unfold wpSd;rw [if_neg (by rw [hw];exact Bool.false_ne_true)];exact h
end
end Go.Proofs.YtljnkaodhfnbbaaGreatDoor.Sd
namespace Go.Proofs.YtljnkaodhfnbbaaGreatDoor.Qk
open Go.RowKit
theorem skip {P:Program} {ops:Array Oper} {C:World→Prop} {Q:Act→Prop} {a:Act} {o:Oper} {rest:List Oper} (hw:Region.wanted o (yielded ops a.tmps)=false) (ha:a.put o.dst undef=a) (h:wpQuiet P ops C Q rest a):wpQuiet P ops C Q (o :: rest) a:=by
 unfold wpQuiet;rw [if_neg (by rw [hw];exact Bool.false_ne_true),ha];exact h
theorem past {P:Program} {ops:Array Oper} {C:World→Prop} {Q:Exit→Act→World→Prop} {a:Act} {w:World} {o:Oper} {r:List (Bool×Oper)} (hw:Region.wanted o (yielded ops a.tmps)=false) (ha:a.put o.dst undef=a) (h:Sd.wpSd P ops C Q r a w):Sd.wpSd P ops C Q ((true,o) :: r) a w :=
 Sd.past hw (by rw [ha];exact h)
end Go.Proofs.YtljnkaodhfnbbaaGreatDoor.Qk
namespace Go.Proofs.YtljnkaodhfnbbaaGreatDoor.Fl
open Go.RowKit
open Rw (Rd Ow At)
attribute [local irreducible] Sd.wpSd wpQuiet
set_option maxHeartbeats 400000 in
theorem good_perm (w:World) (p:Int) (a:Option Addr) (n cap:Nat) (h:¬ (0≤p∧p≤7)):Calls Tryz.prog 138 #[.agg #[.int .i64 p,.slice a n cap]] w fun e w'=>e = .returned (.bool false)∧Below w.heap.size w w':=by
 have B0:=Lib.hid ((Below.refl w.heap.size w).alloc (Nat.le_refl _) (.cells #[.int .i64 p,.slice a n cap] 70));have HP:=Lib.hid (fun w=>at_bool (perm_no h) (perm_any w p));clear h;have k0:=Sd.cell_by (show (w.alloc (.cells #[.int .i64 p,.slice a n cap] 70)).cell? ⟨w.heap.size,0,none⟩=some (.int .i64 p) by go_simp)
 go_enter Tryz.func138,Tryz.ntmps138
 go_wp2_with fail;generalize w.alloc (.cells #[.int .i64 p,.slice a n cap] 70)=W at *;refine Sd.start [(false,0),(false,1),(true,2),(false,3),(false,4),(false,5),(false,6),(false,7),(false,8),(false,9),(false,10),(false,11),(false,12),(false,13),(false,14),(false,15),(false,16),(false,17),(false,18),(false,19),(true,20),(false,21),(false,22),(false,23)] (by kernel_rfl) (by kernel_rfl) (by kernel_rfl) ?_;dsimp only [Sd.picks,List.getElem?_cons_succ,List.getElem?_cons_zero]
 iterate 2 (refine Sd.lit ?_;quiet_step (fail);refine wpQuiet_nil ?_)
 refine Sd.call (by rfl) (fun K hK=>?_);go_simp;refine (HP.out _).mono ?_;rintro e w1 ⟨rfl,b1⟩;have C1:=Lib.hid (Below.trans ((Below.refl W.heap.size W).drew) b1);refine hK _ _ (Sd.Cl.of C1.out) ?_;clear hK K b1
 iterate 17 (refine Sd.lit ?_;(first | (refine Qk.skip (by rfl) (by rfl) ?_) | quiet_step (fail));refine wpQuiet_nil ?_)
 refine Qk.past (by rfl) (by rfl) ?_
 iterate 3 (refine Sd.lit ?_;(first | (refine Qk.skip (by rfl) (by rfl) ?_) | quiet_step (fail));refine wpQuiet_nil ?_)
 refine Sd.done ?_;go_wp2
 go_ret
 exact ⟨rfl,B0.out.trans (C1.out.mono B0.out.size)⟩
set_option maxHeartbeats 400000 in
theorem good_none (w:World) (p:Int) (a:Option Addr) (n cap:Nat) (h:0≤p∧p≤7) (hn:n < 1):Calls Tryz.prog 138 #[.agg #[.int .i64 p,.slice a n cap]] w fun e w'=>e = .returned (.bool false)∧Below w.heap.size w w':=by
 have B0:=Lib.hid ((Below.refl w.heap.size w).alloc (Nat.le_refl _) (.cells #[.int .i64 p,.slice a n cap] 70));have HP:=Lib.hid (fun w=>at_bool (perm_yes h.1 h.2) (perm_any w p));have hn2:decide ((1:Int)≤n)=false:=decide_eq_false (by omega);clear h hn;have k0:=Sd.cell_by (show (w.alloc (.cells #[.int .i64 p,.slice a n cap] 70)).cell? ⟨w.heap.size,0,none⟩=some (.int .i64 p) by go_simp)
 go_enter Tryz.func138,Tryz.ntmps138
 go_wp2_with fail;generalize w.alloc (.cells #[.int .i64 p,.slice a n cap] 70)=W at *;refine Sd.start [(false,0),(false,1),(true,2),(false,3),(false,4),(false,5),(false,6),(false,7),(false,8),(false,9),(false,10),(false,11),(false,12),(false,13),(false,14),(false,15),(false,16),(false,17),(false,18),(false,19),(true,20),(false,21),(false,22),(false,23)] (by kernel_rfl) (by kernel_rfl) (by kernel_rfl) ?_;dsimp only [Sd.picks,List.getElem?_cons_succ,List.getElem?_cons_zero]
 iterate 2 (refine Sd.lit ?_;quiet_step (fail);refine wpQuiet_nil ?_)
 refine Sd.call (by rfl) (fun K hK=>?_);go_simp;refine (HP.out _).mono ?_;rintro e w1 ⟨rfl,b1⟩;have C1:=Lib.hid (Below.trans ((Below.refl W.heap.size W).drew) b1);refine hK _ _ (Sd.Cl.of C1.out) ?_;clear hK K b1
 iterate 17 (refine Sd.lit ?_;(first | (refine Qk.skip (by rfl) (by rfl) ?_) | quiet_step (fail));refine wpQuiet_nil ?_)
 refine Qk.past (by rfl) (by rfl) ?_
 iterate 3 (refine Sd.lit ?_;(first | (refine Qk.skip (by rfl) (by rfl) ?_) | quiet_step (fail));refine wpQuiet_nil ?_)
 refine Sd.done ?_;go_wp2
 go_ret
 exact ⟨rfl,B0.out.trans (C1.out.mono B0.out.size)⟩
set_option maxHeartbeats 400000 in
theorem good_many (w:World) (p:Int) (a:Option Addr) (n cap:Nat) (h:0≤p∧p≤7) (hn:256 < n):Calls Tryz.prog 138 #[.agg #[.int .i64 p,.slice a n cap]] w fun e w'=>e = .returned (.bool false)∧Below w.heap.size w w':=by
 have B0:=Lib.hid ((Below.refl w.heap.size w).alloc (Nat.le_refl _) (.cells #[.int .i64 p,.slice a n cap] 70));have HP:=Lib.hid (fun w=>at_bool (perm_yes h.1 h.2) (perm_any w p));have hn2:decide ((1:Int)≤n)=true:=decide_eq_true (by omega);have hn3:decide ((n:Int)≤256)=false:=decide_eq_false (by omega);clear h hn;have k0:=Sd.cell_by (show (w.alloc (.cells #[.int .i64 p,.slice a n cap] 70)).cell? ⟨w.heap.size,0,none⟩=some (.int .i64 p) by go_simp)
 go_enter Tryz.func138,Tryz.ntmps138
 go_wp2_with fail;generalize w.alloc (.cells #[.int .i64 p,.slice a n cap] 70)=W at *;refine Sd.start [(false,0),(false,1),(true,2),(false,3),(false,4),(false,5),(false,6),(false,7),(false,8),(false,9),(false,10),(false,11),(false,12),(false,13),(false,14),(false,15),(false,16),(false,17),(false,18),(false,19),(true,20),(false,21),(false,22),(false,23)] (by kernel_rfl) (by kernel_rfl) (by kernel_rfl) ?_;dsimp only [Sd.picks,List.getElem?_cons_succ,List.getElem?_cons_zero]
 iterate 2 (refine Sd.lit ?_;quiet_step (fail);refine wpQuiet_nil ?_)
 refine Sd.call (by rfl) (fun K hK=>?_);go_simp;refine (HP.out _).mono ?_;rintro e w1 ⟨rfl,b1⟩;have C1:=Lib.hid (Below.trans ((Below.refl W.heap.size W).drew) b1);refine hK _ _ (Sd.Cl.of C1.out) ?_;clear hK K b1
 iterate 17 (refine Sd.lit ?_;(first | (refine Qk.skip (by rfl) (by rfl) ?_) | quiet_step (fail));refine wpQuiet_nil ?_)
 refine Qk.past (by rfl) (by rfl) ?_
 iterate 3 (refine Sd.lit ?_;(first | (refine Qk.skip (by rfl) (by rfl) ?_) | quiet_step (fail));refine wpQuiet_nil ?_)
 refine Sd.done ?_;go_wp2
 go_ret
 exact ⟨rfl,B0.out.trans (C1.out.mono B0.out.size)⟩
set_option maxHeartbeats 1000000 in
theorem good_any (w:World) (p:Int) (v:Value) (l:List R4) (R:Rd K4 w v l):Calls Tryz.prog 138 #[file p v] w fun e w'=>e = .returned (.bool (goodFB p l))∧Below w.heap.size w w':=by
 have B0:=Lib.hid ((Below.refl w.heap.size w).alloc (Nat.le_refl _) (.cells #[.int .i64 p,v] 70));have R0:=Lib.hid (R.below B0.out);have HNO:Hid (¬ goodF p l→false=goodFB p l):=fun h=>(decide_eq_false h).symm;have HD:Hid (0≤p→p≤7→1≤l.length→l.length≤256→decide (rat l 0=hdr p ((l.length:Int) - 1))=goodFB p l):=fun a b c d=>by
  unfold goodFB;rw [decide_eq_decide];exact ⟨fun h=>⟨a,b,c,d,h⟩,fun h=>h.2.2.2.2⟩
 clear R;unfold file;obtain ⟨a,cap,rfl,_,hm,hA⟩:=R0.out;have HA:=Lib.hid hA;unfold maxLen at hm;clear hA R0
 by_cases h1:0≤p∧p≤7
 ·have hp:=fun w=>at_bool (perm_yes h1.1 h1.2) (perm_any w p)
  have HP:=Lib.hid hp;clear hp;obtain ⟨h1,h2⟩:=h1
  by_cases h3:1≤l.length
  ·by_cases h4:l.length≤256
   ·have E:=Lib.hid (HD.out h1 h2 h3 h4)
    have hh:=fun w=>hdr_any w p ((l.length:Int) - 1) h1 h2 (by omega) (by omega);obtain ⟨b,off,rfl,hA⟩:=HA.out (by omega);obtain ⟨c0,c1,c2,c3⟩:=at4_0 hA (by omega);have q0:=Qb.cell_by c0;have q1:=Qb.cell_by c1;have q2:=Qb.cell_by c2;have q3:=Qb.cell_by c3;clear hA HA HD HNO c0 c1 c2 c3;generalize rat l 0=r at *;generalize l.length=n at *;generalize hdr p ((n:Int) - 1)=q at *;unfold rec4 at hh;have HH:=Lib.hid hh;clear hh;have es:=eq_rec r q;have W0:IntKind.i64.wrap ((n:Int) - 1)=(n:Int) - 1:=IntWalk.i64_in _ (by omega);have hn1:0 < n:=by omega
    have hn2:(1:Int)≤n:=by omega
    have hn3:(n:Int)≤256:=by omega
    have k0:=Qb.cell_by (show (w.alloc (.cells #[.int .i64 p,.slice (some ⟨b,off,none⟩) n cap] 70)).cell? ⟨w.heap.size,0,none⟩=some (.int .i64 p) by go_simp);have k1:=Qb.cell_by (show (w.alloc (.cells #[.int .i64 p,.slice (some ⟨b,off,none⟩) n cap] 70)).cell? ⟨w.heap.size,1,none⟩=some (.slice (some ⟨b,off,none⟩) n cap) by go_simp)
    go_enter Tryz.func138,Tryz.ntmps138
    go_wp2_with fail;refine Qb.wp_region_by (by kernel_rfl) (by kernel_rfl) ?_
    repeat (quiet_step ((first | (go_at_call 181;with_reducible exact Qb.of_below (HP.out _)) | (go_at_call 182;with_reducible exact Qb.of_below (HH.out _)))))
    refine wpQuiet_nil ?_
    intro _ hw'
    obtain ⟨pp,rfl⟩:=hw';go_wp2
    go_ret
    exact ⟨ret_bool E.out,B0.out.trans (pp.below.mono B0.out.size)⟩
   ·exact at_bool (HNO.out (fun h=>by obtain ⟨_,_,_,_,_⟩:=h;omega)) (good_many w p a _ cap ⟨h1,h2⟩ (by omega))
  ·exact at_bool (HNO.out (fun h=>by obtain ⟨_,_,_,_,_⟩:=h;omega)) (good_none w p a _ cap ⟨h1,h2⟩ (by omega))
 ·exact at_bool (HNO.out (fun h=>by obtain ⟨_,_,_,_,_⟩:=h;omega)) (good_perm w p a _ cap h1)
end Go.Proofs.YtljnkaodhfnbbaaGreatDoor.Fl
namespace Go.Proofs.YtljnkaodhfnbbaaGreatDoor.Fl
open Go.RowKit
open Rw (Rd Ow At)
theorem at_int {P:Program} {f:Nat} {args:Array Value} {w:World} {B:Nat} {k:IntKind} {a b:Int} (e:a=b) (c:Calls P f args w fun e w'=>e = .returned (.int k a)∧Below B w w'):Calls P f args w fun e w'=>e = .returned (.int k b)∧Below B w w':=by rw [← e];exact c
theorem ret_int {k:IntKind} {a b:Int} (h:a=b):Ending.returned (.int k a) = .returned (.int k b):=by rw [h]
theorem needsN_of {op:Int} (h:0≤op∧op≤2):needsN op=need op:=by unfold needsN;rw [if_pos h]
theorem needsN_no {op:Int} (h:¬ (0≤op∧op≤2)):needsN op=0:=by unfold needsN;rw [if_neg h]
theorem need_pos (op:Int):0 < need op:=by unfold need;split <;> (try split) <;> omega
set_option maxHeartbeats 1000000 in
theorem wrong_any (w:World) (p:Int) (v:Value) (l:List R4) (R:Rd K4 w v l) (op rec:Int):Calls Tryz.prog 213 #[file p v,.int .i64 op,.int .i64 rec] w fun e w'=>e = .returned (.int .i64 (doE p l op rec))∧Below w.heap.size w w':=by
 have bb:=(Below.refl w.heap.size w).alloc (Nat.le_refl _) (.cells #[.int .i64 p,v] 70);have B0:=Lib.hid bb;have G0:=Lib.hid (good_any _ p v l (R.below bb));obtain ⟨a,cap,rfl,_,hm,_⟩:=R;unfold maxLen at hm;clear bb
 by_cases hg:goodF p l
 ·have G:=Lib.hid (at_bool (show goodFB p l=true from decide_eq_true hg) G0.out)
  have hp:0≤p∧p≤7:=⟨hg.1,hg.2.1⟩
  by_cases ho:0≤op∧op≤2
  ·have N:=Lib.hid (fun w=>at_int (needsN_of ho) (needs_any w op))
   have hq:=need_pos op
   by_cases hr:0≤rec∧rec < l.length
   ·obtain ⟨hr0,hr1⟩:=hr
    have M:=Lib.hid (fun w=>may_any w p op rec hp.1 hp.2 ho.1 ho.2 hr0)
    by_cases hk:rec=0∧op=0∨0 < rec∧p / need op % 2=1
    ·have E:=Lib.hid (doE_0 hg ho ⟨hr0,hr1⟩ hk)
     have M1:=Lib.hid (fun w=>at_bool (show mayB p op rec=true from decide_eq_true hk) (M.out w));clear hk hg G0 M;generalize doE p l op rec=d at *;generalize need op=q at *;generalize l.length=n at *;unfold file at *
     go_enter Tryz.func213,Tryz.ntmps213
     go_wp2_with fail;refine G.out.mono ?_;rintro e w1 ⟨rfl,b1⟩;have B1:=Lib.hid (B0.out.trans (b1.mono B0.out.size));have c0:w1.cell? ⟨w.heap.size,0,none⟩=some (.int .i64 p):=(b1.cell (by simp)).trans (by go_simp);have c1:w1.cell? ⟨w.heap.size,1,none⟩=some (.slice a n cap):=(b1.cell (by simp)).trans (by go_simp);clear b1 B0 G;go_wp2_with fail;refine (N.out _).mono ?_;rintro e w2 ⟨rfl,b2⟩;have lt:w.heap.size < w1.heap.size:=World.block_lt_of_cell? _ _ c0;have B2:=Lib.hid (B1.out.trans (b2.mono B1.out.size));have d0:w2.cell? ⟨w.heap.size,0,none⟩=some (.int .i64 p):=(b2.cell lt).trans c0;have d1:w2.cell? ⟨w.heap.size,1,none⟩=some (.slice a n cap):=(b2.cell lt).trans c1;clear b2 B1 N c0 c1 lt;go_wp2_with fail;refine (M1.out _).mono ?_;rintro e w3 ⟨rfl,b3⟩;have B3:=Lib.hid (B2.out.trans (b3.mono B2.out.size));clear b3 B2 M1;go_wp2
     go_ret
     exact ⟨ret_int E.out.symm,B3.out⟩
    ·have E:=Lib.hid (doE_5 hg ho ⟨hr0,hr1⟩ hk)
     have M1:=Lib.hid (fun w=>at_bool (show mayB p op rec=false from decide_eq_false hk) (M.out w));clear hk hg G0 M;generalize doE p l op rec=d at *;generalize need op=q at *;generalize l.length=n at *;unfold file at *
     go_enter Tryz.func213,Tryz.ntmps213
     go_wp2_with fail;refine G.out.mono ?_;rintro e w1 ⟨rfl,b1⟩;have B1:=Lib.hid (B0.out.trans (b1.mono B0.out.size));have c0:w1.cell? ⟨w.heap.size,0,none⟩=some (.int .i64 p):=(b1.cell (by simp)).trans (by go_simp);have c1:w1.cell? ⟨w.heap.size,1,none⟩=some (.slice a n cap):=(b1.cell (by simp)).trans (by go_simp);clear b1 B0 G;go_wp2_with fail;refine (N.out _).mono ?_;rintro e w2 ⟨rfl,b2⟩;have lt:w.heap.size < w1.heap.size:=World.block_lt_of_cell? _ _ c0;have B2:=Lib.hid (B1.out.trans (b2.mono B1.out.size));have d0:w2.cell? ⟨w.heap.size,0,none⟩=some (.int .i64 p):=(b2.cell lt).trans c0;have d1:w2.cell? ⟨w.heap.size,1,none⟩=some (.slice a n cap):=(b2.cell lt).trans c1;clear b2 B1 N c0 c1 lt;go_wp2_with fail;refine (M1.out _).mono ?_;rintro e w3 ⟨rfl,b3⟩;have B3:=Lib.hid (B2.out.trans (b3.mono B2.out.size));clear b3 B2 M1;go_wp2
     go_ret
     exact ⟨ret_int E.out.symm,B3.out⟩
   ·have E:=Lib.hid (doE_4 hg ho hr)
    clear hg G0;have hr':rec < 0∨(0≤rec∧(l.length:Int)≤rec):=by omega
    clear hr;generalize doE p l op rec=d at *;generalize need op=q at *;generalize l.length=n at *;unfold file at *
    rcases hr' with hr | ⟨hr,hr2⟩
    all_goals
     go_enter Tryz.func213,Tryz.ntmps213
     go_wp2_with fail;refine G.out.mono ?_;rintro e w1 ⟨rfl,b1⟩;have B1:=Lib.hid (B0.out.trans (b1.mono B0.out.size));have c0:w1.cell? ⟨w.heap.size,0,none⟩=some (.int .i64 p):=(b1.cell (by simp)).trans (by go_simp);have c1:w1.cell? ⟨w.heap.size,1,none⟩=some (.slice a n cap):=(b1.cell (by simp)).trans (by go_simp);clear b1 B0 G;go_wp2_with fail;refine (N.out _).mono ?_;rintro e w2 ⟨rfl,b2⟩;have lt:w.heap.size < w1.heap.size:=World.block_lt_of_cell? _ _ c0;have B2:=Lib.hid (B1.out.trans (b2.mono B1.out.size));have d0:w2.cell? ⟨w.heap.size,0,none⟩=some (.int .i64 p):=(b2.cell lt).trans c0;have d1:w2.cell? ⟨w.heap.size,1,none⟩=some (.slice a n cap):=(b2.cell lt).trans c1;clear b2 B1 N c0 c1 lt;go_wp2
     go_ret
     exact ⟨ret_int E.out.symm,B2.out⟩
  ·have E:=Lib.hid (doE_1 (rec:=rec) hg ho)
   have N:=Lib.hid (fun w=>at_int (needsN_no ho) (needs_any w op));clear hg G0 ho;generalize doE p l op rec=d at *;generalize l.length=n at *;unfold file at *
   go_enter Tryz.func213,Tryz.ntmps213
   go_wp2_with fail;refine G.out.mono ?_;rintro e w1 ⟨rfl,b1⟩;have B1:=Lib.hid (B0.out.trans (b1.mono B0.out.size));clear b1 B0 G;go_wp2_with fail;refine (N.out _).mono ?_;rintro e w2 ⟨rfl,b2⟩;have B2:=Lib.hid (B1.out.trans (b2.mono B1.out.size));clear b2 B1 N;go_wp2
   go_ret
   exact ⟨ret_int E.out.symm,B2.out⟩
 ·have E:=Lib.hid (doE_2 (op:=op) (rec:=rec) hg)
  have G:=Lib.hid (at_bool (show goodFB p l=false from decide_eq_false hg) G0.out);clear hg G0;generalize doE p l op rec=d at *;generalize l.length=n at *;unfold file at *
  go_enter Tryz.func213,Tryz.ntmps213
  go_wp2_with fail;refine G.out.mono ?_;rintro e w1 ⟨rfl,b1⟩;have B1:=Lib.hid (B0.out.trans (b1.mono B0.out.size));clear b1 B0 G;go_wp2
  go_ret
  exact ⟨ret_int E.out.symm,B1.out⟩
end Go.Proofs.YtljnkaodhfnbbaaGreatDoor.Fl
namespace Go.Proofs.YtljnkaodhfnbbaaGreatDoor.Fl
open Go.RowKit
open Rw (Rd Ow At)
def arr4 (r:R4):Array Value:=#[.int .u8 r.1,.int .u8 r.2.1,.int .u8 r.2.2.1,.int .u8 r.2.2.2]
def sto4 (w:World) (g o:Nat) (r:R4):World:=(((w.setCell ⟨g,o,none⟩ (.int .u8 r.1)).setCell ⟨g,o+1,none⟩ (.int .u8 r.2.1)).setCell ⟨g,o+2,none⟩ (.int .u8 r.2.2.1)).setCell ⟨g,o+3,none⟩ (.int .u8 r.2.2.2)
theorem sto4_own {w:World} {B:Nat} {l:List R4} {g n cap:Nat} (h:Ow K4 w B 42 (.slice (some ⟨g,0,none⟩) n cap) l) (hn:n=l.length) (i:Nat) (hi:i < l.length) (r:R4) :
 Ow K4 (sto4 w g (i * 4) r) B 42 (.slice (some ⟨g,0,none⟩) n cap) (l.set i r):=by
 subst hn;have get:∀ (m:List R4) (s:R4),i < m.length→(m.set i s).getD i z4=s:=fun m s hm=>by simp [List.getD,hm]
 have h1:=h.set i 0 hi (by decide) (.int .u8 r.1) (r.1,(l.getD i z4).2.1,(l.getD i z4).2.2.1,(l.getD i z4).2.2.2) rfl;have l1:i < (l.set i (r.1,(l.getD i z4).2.1,(l.getD i z4).2.2.1,(l.getD i z4).2.2.2)).length:=by rw [List.length_set];exact hi
 rw [show l.length=(l.set i (r.1,(l.getD i z4).2.1,(l.getD i z4).2.2.1,(l.getD i z4).2.2.2)).length by rw [List.length_set]] at h1;have h2:=h1.set i 1 l1 (by decide) (.int .u8 r.2.1) (r.1,r.2.1,(l.getD i z4).2.2.1,(l.getD i z4).2.2.2) (by show _=((K4.enc ((l.set i _).getD i z4))).set 1 _;rw [get _ _ hi];rfl);rw [List.set_set] at h2;have l2:i < (l.set i (r.1,r.2.1,(l.getD i z4).2.2.1,(l.getD i z4).2.2.2)).length:=by rw [List.length_set];exact hi
 rw [List.length_set,show l.length=(l.set i (r.1,r.2.1,(l.getD i z4).2.2.1,(l.getD i z4).2.2.2)).length by rw [List.length_set]] at h2;have h3:=h2.set i 2 l2 (by decide) (.int .u8 r.2.2.1) (r.1,r.2.1,r.2.2.1,(l.getD i z4).2.2.2) (by show _=((K4.enc ((l.set i _).getD i z4))).set 2 _;rw [get _ _ hi];rfl);rw [List.set_set] at h3;have l3:i < (l.set i (r.1,r.2.1,r.2.2.1,(l.getD i z4).2.2.2)).length:=by rw [List.length_set];exact hi
 rw [List.length_set,show l.length=(l.set i (r.1,r.2.1,r.2.2.1,(l.getD i z4).2.2.2)).length by rw [List.length_set]] at h3;have h4:=h3.set i 3 l3 (by decide) (.int .u8 r.2.2.2) r (by show _=((K4.enc ((l.set i _).getD i z4))).set 3 _;rw [get _ _ hi];rfl);rw [List.set_set] at h4;rw [List.length_set] at h4;exact h4
theorem sto4_row {w:World} {g:Nat} {q:R4} (h:w.heap[g]? = some (.cells (arr4 q) 42 (0,0))) (r:R4):(sto4 w g 0 r).heap[g]? = some (.cells (arr4 r) 42 (0,0)) :=
 Rw.heap_setCell_same (Rw.heap_setCell_same (Rw.heap_setCell_same (Rw.heap_setCell_same h _) _) _) _
theorem sto4_other {w:World} {g k o:Nat} {r:R4} {x:Option Obj} (h:w.heap[k]? = x) (hne:k≠g):(sto4 w g o r).heap[k]? = x :=
 (Below.heap_setCell _ _ _ _ hne).trans ((Below.heap_setCell _ _ _ _ hne).trans ((Below.heap_setCell _ _ _ _ hne).trans ((Below.heap_setCell _ _ _ _ hne).trans h)))
theorem sto4_below {w W:World} {B g o:Nat} {r:R4} (h:Below B w W) (hb:B≤g):Below B w (sto4 W g o r) :=
 (((h.setCell (p:=⟨g,o,none⟩) hb _).setCell (p:=⟨g,o+1,none⟩) hb _).setCell (p:=⟨g,o+2,none⟩) hb _).setCell (p:=⟨g,o+3,none⟩) hb _
theorem sto4_size (w:World) (g o:Nat) (r:R4):(sto4 w g o r).heap.size=w.heap.size:=by simp [sto4]
theorem sto4_off {w:World} {B g o:Nat} {v:Value} {l:List R4} (h:Ow K4 w B 42 v l) (hne:v.ownBlock≠some g) (r:R4):Ow K4 (sto4 w g o r) B 42 v l :=
 (((h.off (p:=⟨g,o,none⟩) hne _).off (p:=⟨g,o+1,none⟩) hne _).off (p:=⟨g,o+2,none⟩) hne _).off (p:=⟨g,o+3,none⟩) hne _
def sto2 (w:World) (g:Nat) (p:Int) (v:Value):World:=(w.setCell ⟨g,0,none⟩ (.int .i64 p)).setCell ⟨g,1,none⟩ v
theorem sto2_row {w:World} {g:Nat} {q:Int} {u:Value} (h:w.heap[g]? = some (.cells #[.int .i64 q,u] 70 (0,0))) (p:Int) (v:Value):(sto2 w g p v).heap[g]? = some (.cells #[.int .i64 p,v] 70 (0,0)) :=
 Rw.heap_setCell_same (Rw.heap_setCell_same h _) _
theorem sto2_other {w:World} {g k:Nat} {p:Int} {v:Value} {x:Option Obj} (h:w.heap[k]? = x) (hne:k≠g):(sto2 w g p v).heap[k]? = x :=
 (Below.heap_setCell _ _ _ _ hne).trans ((Below.heap_setCell _ _ _ _ hne).trans h)
theorem sto2_below {w W:World} {B g:Nat} {p:Int} {v:Value} (h:Below B w W) (hb:B≤g):Below B w (sto2 W g p v):=(h.setCell (p:=⟨g,0,none⟩) hb _).setCell (p:=⟨g,1,none⟩) hb _
theorem sto2_size (w:World) (g:Nat) (p:Int) (v:Value):(sto2 w g p v).heap.size=w.heap.size:=by simp [sto2]
theorem sto2_off {w:World} {B g:Nat} {v u:Value} {l:List R4} (h:Ow K4 w B 42 v l) (hne:v.ownBlock≠some g) (p:Int):Ow K4 (sto2 w g p u) B 42 v l :=
 (h.off (p:=⟨g,0,none⟩) hne _).off (p:=⟨g,1,none⟩) hne _
theorem results_do {fn:Func} {p q r:Tmp} (h:fn.results=#[.cell p 70,.cell q 42,.tmp r]) (tmps:Array Value) (w:World) (g1 g2:Nat) (k:Int) (u:Value) (y:R4) (e:Int)
 (hp:tmps.getD p undef = .pointer (some ⟨g1,0,none⟩)) (hq:tmps.getD q undef = .pointer (some ⟨g2,0,none⟩)) (hr:tmps.getD r undef = .int .i64 e)
 (h1:w.heap[g1]? = some (.cells #[.int .i64 k,u] 70 (0,0))) (h2:w.heap[g2]? = some (.cells (arr4 y) 42 (0,0))) :
 (results fn tmps).run Tryz.prog w = .ok (.tuple #[file k u,rec4 y,.int .i64 e]) w:=by
 have e1:=run_loadVar_row (P:=Tryz.prog) w g1 70 70 #[.int .i64 k,u] (0,0) _ h1 Tryz.underlying70 rfl (by show _=some 2;kernel_rfl);have e2:=run_loadVar_row (P:=Tryz.prog) w g2 42 42 (arr4 y) (0,0) _ h2 Tryz.underlying42 rfl (by show _=some 4;kernel_rfl);have hp':tmps[p]?.getD undef = .pointer (some ⟨g1,0,none⟩):=by simpa using hp
 have hq':tmps[q]?.getD undef = .pointer (some ⟨g2,0,none⟩):=by simpa using hq
 have hr':tmps[r]?.getD undef = .int .i64 e:=by simpa using hr
 simp only [results,h]
 simp [Sem.run_bind,Result.andThen,hp',hq',hr',asAddr,e1,e2,file,rec4,arr4]
structure Start (w:World) (p:Int) (v:Value) (x:R4) (W:World):Prop where
 box:W.heap[w.heap.size]? = some (.cells #[.int .i64 p,v] 70 (0,0))
 arg:W.heap[w.heap.size+1]? = some (.cells (arr4 x) 42 (0,0))
 res1:W.heap[w.heap.size+2]? = some (.cells #[.int .i64 0,.slice none 0 0] 70 (0,0))
 res2:W.heap[w.heap.size+3]? = some (.cells (arr4 z4) 42 (0,0))
 siz:w.heap.size+4≤W.heap.size
 bel:Below w.heap.size w W
theorem Start.mono {w W W':World} {p:Int} {v:Value} {x:R4} (h:Start w p v x W) (b:Below W.heap.size W W'):Start w p v x W' :=
 have s:=h.siz
 ⟨(b.block _ (by omega)).trans h.box,(b.block _ (by omega)).trans h.arg,(b.block _ (by omega)).trans h.res1,(b.block _ (by omega)).trans h.res2,Nat.le_trans h.siz b.size,h.bel.trans (b.mono (by omega))⟩
theorem Start.of (w:World) (p:Int) (v:Value) (x:R4):Start w p v x ((((w.alloc (.cells #[.int .i64 p,v] 70)).alloc (.cells (arr4 x) 42)).alloc (.cells #[.int .i64 0,.slice none 0 0] 70)).alloc (.cells (arr4 z4) 42)):=by
 have z1:∀ a,(w.alloc a).heap.size=w.heap.size+1:=fun a=>by simp
 have z2:∀ a b,((w.alloc a).alloc b).heap.size=w.heap.size+2:=fun a b=>by simp
 have z3:∀ a b c,(((w.alloc a).alloc b).alloc c).heap.size=w.heap.size+3:=fun a b c=>by simp
 refine ⟨?_,?_,?_,?_,by simp,((((Below.refl w.heap.size w).alloc (Nat.le_refl _) _).alloc (by simp) _).alloc (by simp;omega) _).alloc (by simp;omega) _⟩
 ·exact (Below.heap_alloc _ _ _ (by rw [z3];omega)).trans ((Below.heap_alloc _ _ _ (by rw [z2];omega)).trans ((Below.heap_alloc _ _ _ (by rw [z1];omega)).trans (heap_alloc_new w _)))
 ·have:=heap_alloc_new (w.alloc (.cells #[.int .i64 p,v] 70)) (.cells (arr4 x) 42)
  rw [z1] at this;exact (Below.heap_alloc _ _ _ (by rw [z3];omega)).trans ((Below.heap_alloc _ _ _ (by rw [z2];omega)).trans this)
 ·have:=heap_alloc_new ((w.alloc (.cells #[.int .i64 p,v] 70)).alloc (.cells (arr4 x) 42)) (.cells #[.int .i64 0,.slice none 0 0] 70)
  rw [z2] at this;exact (Below.heap_alloc _ _ _ (by rw [z3];omega)).trans this
 ·have:=heap_alloc_new (((w.alloc (.cells #[.int .i64 p,v] 70)).alloc (.cells (arr4 x) 42)).alloc (.cells #[.int .i64 0,.slice none 0 0] 70)) (.cells (arr4 z4) 42)
  rw [z3] at this;exact this
theorem flat_zero (n:Nat):(madeCells #[.int .u8 0,.int .u8 0,.int .u8 0,.int .u8 0] (n * 4)).toList=K4.flat (List.replicate n z4):=by
 refine List.ext_getElem? fun k=>?_;have hl:(K4.flat (List.replicate n z4)).length=n * 4:=by rw [Rw.flat_length,List.length_replicate];rfl
 have hs:(madeCells #[.int .u8 0,.int .u8 0,.int .u8 0,.int .u8 0] (n * 4)).toList.length=n * 4:=by simp [madeCells]
 by_cases hk:k < n * 4
 ·have e:=Rw.flat_get K4 (List.replicate n z4) (k / 4) (k % 4) (by rw [List.length_replicate];omega) (Nat.mod_lt _ (by decide))
  have e4:k / 4 * K4.n+k % 4=k:=by show k / 4 * 4+k % 4=k;omega
  rw [e4] at e;rw [e];have ez:(List.replicate n z4).getD (k / 4) K4.dft=z4:=by
   rw [List.getD_eq_getElem?_getD,List.getElem?_replicate]
   split <;> rfl
  rw [ez];have hm:k % 4 < 4:=Nat.mod_lt _ (by decide);simp only [madeCells,Array.getElem?_toList,Array.getElem?_map,Array.getElem?_range,hk,if_true,Option.map_some,List.size_toArray,List.length_cons,List.length_nil,Nat.zero_add,Nat.reduceAdd]
  rcases (by omega:k % 4=0∨k % 4=1∨k % 4=2∨k % 4=3) with h | h | h | h <;> rw [h] <;> rfl
 ·rw [List.getElem?_eq_none (by omega),List.getElem?_eq_none (by omega)]
def ClonePost (w:World) (l:List R4) (e:Ending) (w':World):Prop:=∃ u,e = .returned u∧Ow K4 w' w.heap.size 42 u l∧Below w.heap.size w w'
set_option maxHeartbeats 400000 in
theorem clone_any (w:World) (v:Value) (l:List R4) (R:Rd K4 w v l) (hl:l.length≤260):Calls Tryz.prog 176 #[v] w (ClonePost w l):=by
 have R0:=Lib.hid R;obtain ⟨a,cap,rfl,⟨h1,h2⟩,hm,_⟩:=R
 cases a with
 | none =>
   have hc:=h2 rfl;have e:l = []:=List.length_eq_zero_iff.1 (by omega);subst e hc;clear h1 h2 hm R0;have hnil:∀ W,(binOp .eql 68 (.slice none 0 0) (.slice none 0 0)).run Tryz.prog W = .ok (.bool true) W:=fun W=>Lib.run_eql_slice_nil_nil W _ _ Tryz.underlying68
   go_enter Tryz.func176,Tryz.ntmps176
   go_wp2
   go_ret
   exact ⟨_,rfl,Ow.nil _ _ _,Below.refl _ _⟩
 | some a =>
   have O:=Lib.hid (Ow.made (K:=K4) w w.heap.size 42 (Nat.le_refl _));have BB:=Lib.hid ((Below.refl w.heap.size w).alloc (Nat.le_refl _) (.cells #[] 42));have RB:=Lib.hid (R0.out.below BB.out);have HL:=Lib.hid hl;have HA:Hid (∀ (v':Value) (w':World),Ow K4 w' w.heap.size 42 v' ([] ++ l)→Ow K4 w' w.heap.size 42 v' l):=fun v' w' h=>by rw [List.nil_append] at h;exact h
   clear h1 h2 R0 hl;have hnil:∀ n W,(binOp .eql 68 (.slice (some a) n cap) (.slice none 0 0)).run Tryz.prog W = .ok (.bool false) W:=fun n W=>Lib.run_eql_slice_some_nil W _ _ _ Tryz.underlying68
   go_enter Tryz.func176,Tryz.ntmps176
   go_wp2_with (at_builtin;refine Rw.all_step Tryz.underlying68 infoR rfl (by omega) rfl _ _ rfl w.heap.size _ _ rfl O.out _ _ rfl RB.out ?c1 ?c2 ?_)
   case c1=>have:=HL.out;simp;omega
   case c2=>simp
   intro v' w' o2 b2
   have E:Hid (ClonePost w l (.returned v') w'):=⟨v',rfl,HA.out _ _ o2,BB.out.trans b2⟩;obtain ⟨a',c',L',rfl⟩:∃ a c L,v' = .slice a L c:=by obtain ⟨a,c,e,_,_⟩:=o2.slice;exact ⟨a,c,_,e⟩
   clear o2 b2 HA RB O;go_wp2
   go_ret
   exact E.out
end Go.Proofs.YtljnkaodhfnbbaaGreatDoor.Fl
namespace Go.Proofs.YtljnkaodhfnbbaaGreatDoor.Sc
open Go.RowKit
structure In (C:World→Prop) where
 world:World
 ok:C world
def Cl (C:World→Prop) (w':World):Prop:=∃ p:In C,w'=p.world
theorem Cl.of {C:World→Prop} {w':World} (h:C w'):∃ p:In C,w'=p.world:=⟨⟨w',h⟩,rfl⟩
theorem cell_in {C:World→Prop} {a:Addr} {v:Value} (h:∀ w',C w'→w'.cell? a=some v) (p:In C):p.world.cell? a=some v:=h _ p.ok
theorem start {P:Program} {id:Nat} {l:List Oper} {Q:Exit→Act→World→Prop} {a:Act} {w:World} (C:World→Prop) (sc:List (Bool×Nat)) (hm:P.follows .mixedOrders=true) (hs:Region.noSelect l.toArray=true)
 (hg:Sd.good l.toArray sc (Array.replicate l.toArray.size false) l.toArray.size=true) (h0:C w.drew) (h:Sd.wpSd P l.toArray (fun w'=>∃ p:In C,w'=p.world) (NoPanic Q) (Sd.picks l sc) a w.drew):(Code.region id l.toArray true).wp P Q a w :=
 wp_region_noPanic (wp_region_held_drew (S:=fun w'=>∃ p:In C,w'=p.world) hm (Cl.of h0) fun _=>Sd.sound hs (fun _ _ _ _ _ h=>h) sc _ _ a _ hg (Cl.of h0) h)
end Go.Proofs.YtljnkaodhfnbbaaGreatDoor.Sc
namespace Go.Proofs.YtljnkaodhfnbbaaGreatDoor.Fl
open Go.RowKit
open Rw (Rd Ow At)
attribute [local irreducible] Sd.wpSd wpQuiet
theorem results_new {fn:Func} {p r:Tmp} (h:fn.results=#[.cell p 70,.tmp r]) (tmps:Array Value) (w:World) (g1:Nat) (k:Int) (u:Value) (e:Int)
 (hp:tmps.getD p undef = .pointer (some ⟨g1,0,none⟩)) (hr:tmps.getD r undef = .int .i64 e)
 (h1:w.heap[g1]? = some (.cells #[.int .i64 k,u] 70 (0,0))) :
 (results fn tmps).run Tryz.prog w = .ok (.tuple #[file k u,.int .i64 e]) w:=by
 have e1:=run_loadVar_row (P:=Tryz.prog) w g1 70 70 #[.int .i64 k,u] (0,0) _ h1 Tryz.underlying70 rfl (by show _=some 2;kernel_rfl);have hp':tmps[p]?.getD undef = .pointer (some ⟨g1,0,none⟩):=by simpa using hp
 have hr':tmps[r]?.getD undef = .int .i64 e:=by simpa using hr
 simp only [results,h]
 simp [Result.andThen,hp',hr',asAddr,e1,file]
theorem set_zero (h:R4) (n:Nat):(List.replicate (n+1) z4).set 0 h=h :: List.replicate n z4:=by rw [List.replicate_succ];rfl
def NewOwn (w:World) (p n:Int) (e:Ending) (w':World):Prop:=∃ u,e = .returned (.tuple #[file p u,.int .i64 0])∧Ow K4 w' w.heap.size 42 u (newL p n)∧Below w.heap.size w w'
set_option maxRecDepth 100000 in
set_option maxHeartbeats 1000000 in
theorem new_own (w:World) (p n:Int) (hp:newP p n):Calls Tryz.prog 229 #[.int .i64 p,.int .i64 n] w (NewOwn w p n):=by
 have B0:=Lib.hid ((Below.refl w.heap.size w).alloc (Nat.le_refl _) (.cells #[.int .i64 0,.slice none 0 0] 70));have HPN:=Lib.hid hp;obtain ⟨p0,p1,n0,n1⟩:=hp;obtain ⟨m,rfl⟩:∃ m:Nat,n=m:=⟨n.toNat,by omega⟩;have P0:=Lib.hid (fun w=>at_bool (perm_yes p0 p1) (perm_any w p));have HH:=Lib.hid (fun w=>hdr_any w p m p0 p1 (by omega) (by omega));have NL:Hid (newL p m=hdr p m :: List.replicate m z4):=rfl;have E:Hid (∀ u w',Ow K4 w' (w.heap.size+1) 42 u (hdr p m :: List.replicate m z4)→Below w.heap.size w w'→NewOwn w p m (.returned (.tuple #[file p u,.int .i64 0])) w'):=fun u w' h hb=>⟨_,rfl,by rw [NL.out];exact h.low (Nat.le_succ _),hb⟩;obtain ⟨i0,hi,hz0,hz1,hz2⟩:=info_parts infoR;unfold rec4 at HH;generalize hdr p m=h at *;have hw1:IntKind.i64.wrap (1+(m:Int))=((m+1:Nat):Int):=by rw [IntWalk.i64_in _ (by omega)];omega
 go_enter Tryz.func229,Tryz.ntmps229
 go_wp2_with fail;refine (P0.out _).mono ?_;rintro e w1 ⟨rfl,b1⟩;have z1:w.heap.size+1≤w1.heap.size:=by have:=b1.size;simp at this;omega
 have B1:=Lib.hid (B0.out.trans (b1.mono B0.out.size));have r0:w1.heap[w.heap.size]? = some (.cells #[.int .i64 0,.slice none 0 0] 70 (0,0)):=(b1.block _ (by simp)).trans (heap_alloc_new w _);clear b1 B0;have hn1:¬ ((m:Int) < 0):=by omega
 have hn2:¬ (256≤(m:Int)):=by omega
 go_wp2_with (at_make;refine wpList_make_full _ rfl _ _ 68 rfl (w.heap.size+1) 42 i0 _ 4 Tryz.underlying68 hi hz0 hz1 _ _ _ _ (m+1) rfl rfl (by omega) (by omega) ?d1 ?d2 ?d3 ?_)
 case d1=>rw [hz2];omega
 case d2=>unfold maxLen;omega
 case d3=>omega
 intro w2 o2 g2
 have O2:Ow K4 w2 (w.heap.size+1) 42 (.slice (some ⟨w1.heap.size,0,none⟩) (m+1) (m+1)) (List.replicate (m+1) z4):=by
  have e:(madeCells #[.int .u8 0,.int .u8 0,.int .u8 0,.int .u8 0] ((m+1) * 4)).toList=K4.flat (List.replicate (m+1) z4):=flat_zero (m+1);rw [e] at o2
  show w2.ownsRow _ _ K4.n _ (List.replicate (m+1) z4).length _
  rw [List.length_replicate];exact o2
 have b2:Below w1.heap.size w1 w2:=(Below.refl w1.heap.size w1).grown g2 (Nat.le_refl _) (fun k e=>by cases e);have B2:=Lib.hid (B1.out.trans (b2.mono (by omega)));have r2:=(b2.block _ (by omega)).trans r0;have z2:w1.heap.size < w2.heap.size:=by
  obtain ⟨g,cap,e,_,hlt,_⟩:=O2.form (by rw [List.length_replicate];omega);injection e with e1;injection e1 with e1;injection e1 with e1 _ _
  omega
 have OO:=Lib.hid O2;clear o2 g2 b2 r0 B1 O2;go_wp2_with fail;have row3:=heap_alloc_new w2 (.cells #[.int .i64 p,.slice (some ⟨w1.heap.size,0,none⟩) (m+1) (m+1)] 70);have B3:=Lib.hid (B2.out.alloc B2.out.size (.cells #[.int .i64 p,.slice (some ⟨w1.heap.size,0,none⟩) (m+1) (m+1)] 70));have O3:=Lib.hid (OO.out.alloc (.cells #[.int .i64 p,.slice (some ⟨w1.heap.size,0,none⟩) (m+1) (m+1)] 70));have r3:=(Below.heap_alloc w2 (.cells #[.int .i64 p,.slice (some ⟨w1.heap.size,0,none⟩) (m+1) (m+1)] 70) w.heap.size (by omega)).trans r2;have z3:w2.heap.size < (w2.alloc (.cells #[.int .i64 p,.slice (some ⟨w1.heap.size,0,none⟩) (m+1) (m+1)] 70)).heap.size:=by simp
 clear B2 OO r2;generalize w2.alloc (.cells #[.int .i64 p,.slice (some ⟨w1.heap.size,0,none⟩) (m+1) (m+1)] 70)=W at *;generalize w2.heap.size=gF at *;have C0:(fun W':World=>W'.heap[gF]? = some (.cells #[.int .i64 p,.slice (some ⟨w1.heap.size,0,none⟩) (m+1) (m+1)] 70 (0,0))) W.drew:=row3;have k1:=Sc.cell_in (C:=fun W':World=>W'.heap[gF]? = some (.cells #[.int .i64 p,.slice (some ⟨w1.heap.size,0,none⟩) (m+1) (m+1)] 70 (0,0))) (a:=⟨gF,1,none⟩) (fun W' h=>row_cell h 1);have k1':W.cell? ⟨gF,1,none⟩=some (.slice (some ⟨w1.heap.size,0,none⟩) (m+1) (m+1)):=row_cell row3 1;have ne:Nonempty (Sc.In (fun W':World=>W'.heap[gF]? = some (.cells #[.int .i64 p,.slice (some ⟨w1.heap.size,0,none⟩) (m+1) (m+1)] 70 (0,0)))):=⟨⟨_,C0⟩⟩;have hm1:0 < m+1:=by omega
 refine Sc.start (fun W':World=>W'.heap[gF]? = some (.cells #[.int .i64 p,.slice (some ⟨w1.heap.size,0,none⟩) (m+1) (m+1)] 70 (0,0))) [(false,0),(false,1),(false,2),(false,3),(true,4),(false,5),(true,6)] (by kernel_rfl) (by kernel_rfl) (by kernel_rfl) C0 ?_;dsimp only [Sd.picks,List.getElem?_cons_succ,List.getElem?_cons_zero]
 repeat (refine Sd.lit ?_;quiet_step (fail);refine wpQuiet_nil ?_)
 refine Sd.call (by rfl) (fun K hK=>?_);go_simp;refine (HH.out _).mono ?_;rintro e w4 ⟨rfl,b4⟩;have b4':Below W.heap.size W w4:=Below.trans ((Below.refl W.heap.size W).drew) b4;have B4:=Lib.hid (B3.out.trans (b4'.mono B3.out.size));have row4:=(b4'.block _ (by omega)).trans row3;have r4:=(b4'.block _ (by omega)).trans r3;have O4:=Lib.hid (O3.out.keep b4');refine hK _ _ (Sc.Cl.of row4) ?_;clear hK K b4 b4' B3 O3 row3 r3 k1'
 repeat (refine Sd.lit ?_;quiet_step (fail);refine wpQuiet_nil ?_)
 refine Sd.call (by rfl) (fun K hK=>?_);obtain ⟨g,cap,eg,_,hlt,_,_,hfr,hat⟩:=O4.out.form (by rw [List.length_replicate];omega);have O5:=Lib.hid (sto4_own (i:=0) O4.out (by rw [List.length_replicate]) (by rw [List.length_replicate];omega) h);rw [set_zero] at O5;have hg1:g=w1.heap.size:=by
  injection eg with e1;injection e1 with e1;injection e1 with e1 _ _;exact e1.symm
 subst hg1;obtain ⟨c0,c1,c2,c3⟩:=at4_0 hat (by rw [List.length_replicate];omega);have f0:=hfr 0;have f1:=hfr 1;have f2:=hfr 2;have f3:=hfr 3;have row5:=sto4_other (g:=w1.heap.size) (o:=0) (r:=h) row4 (by omega);have r5:=sto4_other (g:=w1.heap.size) (o:=0) (r:=h) r4 (by omega);have B5:=Lib.hid (sto4_below (o:=0) (r:=h) B4.out (show w.heap.size≤w1.heap.size by omega));clear hfr hat O4 B4 eg;go_simp;refine hK _ _ (Sc.Cl.of row5) ?_;clear hK K c0 c1 c2 c3 f0 f1 f2 f3 row4 r4 k1 ne C0;refine Sd.done ?_;have d0:(sto4 w4 w1.heap.size 0 h).cell? ⟨gF,0,none⟩=some (.int .i64 p):=row_cell row5 0;have d1:(sto4 w4 w1.heap.size 0 h).cell? ⟨gF,1,none⟩=some (.slice (some ⟨w1.heap.size,0,none⟩) (m+1) (m+1)):=row_cell row5 1;have e0:(sto4 w4 w1.heap.size 0 h).cell? ⟨w.heap.size,0,none⟩=some (.int .i64 0):=row_cell r5 0;have e1:(sto4 w4 w1.heap.size 0 h).cell? ⟨w.heap.size,1,none⟩=some (.slice none 0 0):=row_cell r5 1;have f0:=row_frozen r5 0;have f1:=row_frozen r5 1;have hne:(Value.slice (some ⟨w1.heap.size,0,none⟩) (m+1) (m+1)).ownBlock≠some w.heap.size:=O5.out.range (.inl (by omega));have RR:=Lib.hid (sto2_row r5 p (.slice (some ⟨w1.heap.size,0,none⟩) (m+1) (m+1)));have O6:=Lib.hid (sto2_off (u:=.slice (some ⟨w1.heap.size,0,none⟩) (m+1) (m+1)) O5.out hne p);have B6:=Lib.hid (sto2_below (p:=p) (v:=.slice (some ⟨w1.heap.size,0,none⟩) (m+1) (m+1)) B5.out (Nat.le_refl _));clear row5 r5 O5 B5 hne
 show Exit.then _ _ _ _ (sto4 w4 w1.heap.size 0 h)
 generalize sto4 w4 w1.heap.size 0 h=wS at *;go_wp2
 (try simp only [Exit.inBlock,Exit.then])
 exact bodyPost_ret (v:=.tuple #[file p _,.int .i64 0]) (results_new (p:=4) (r:=5) rfl _ _ w.heap.size p _ 0 rfl rfl RR.out) rfl (E.out _ _ O6.out B6.out)
end Go.Proofs.YtljnkaodhfnbbaaGreatDoor.Fl
