import Derived.Test.YtelgnhmcnfibnaaGreatDoorMg1
import Derived.Test.YtelgnhmcnfibnaaGreatDoorChecked
import Derived.WalkKit
import Derived.LoopTactic
import Derived.Outline
import Derived.Deep.Draws
import Derived.DeepKeys
import Derived.Laws.ResultCell
import Derived.Lib.Hide
import Derived.Maps.OwnSet
set_option maxRecDepth 100000
namespace Go.Proofs.YtelgnhmcnfibnaaGreatDoor.Sf
open Go.RowKit
open Sd (light light_value By Cl)
structure Fl where
 idx:Nat
 slot:Nat
 cs:Array Value
 ty:TypeId
def fill (F:List Fl) (x:Nat→Value) (a:Act):Act:=F.foldl (fun a f=>a.put (some f.slot) (x f.slot)) a
theorem put_comm (a:Act) {d e:Nat} (h:d≠e) (u v:Value):(a.put (some d) u).put (some e) v=(a.put (some e) v).put (some d) u:=by
 simp only [Act.put];rw [Array.setIfInBounds_comm _ _ h]
theorem put_put (a:Act) (d:Nat) (u v:Value):(a.put (some d) u).put (some d) v=a.put (some d) v:=by
 simp only [Act.put,Array.setIfInBounds_setIfInBounds]
theorem fill_put (x:Nat→Value) (dst:Option Nat) (v:Value):∀ (F:List Fl) (a:Act),(∀ f∈F,dst≠some f.slot)→(fill F x a).put dst v=fill F x (a.put dst v)
 | [],a,_=>rfl
 | f :: r,a,h=>by
   have ih:=fill_put x dst v r (a.put (some f.slot) (x f.slot)) fun g hg=>h g (List.mem_cons_of_mem _ hg)
   show (fill r x (a.put (some f.slot) (x f.slot))).put dst v=fill r x ((a.put dst v).put (some f.slot) (x f.slot))
   rw [ih]
   cases dst with
   | none=>rfl
   | some d=>rw [put_comm a (fun e=>h f (List.mem_cons_self ..) (by rw [e])) (x f.slot) v]
theorem fill_congr {x y:Nat→Value} : ∀ (F:List Fl) (a:Act),(∀ f∈F,x f.slot=y f.slot)→fill F x a=fill F y a
 | [],_,_=>rfl
 | f :: r,a,h=>by
   show fill r x (a.put (some f.slot) (x f.slot))=fill r y (a.put (some f.slot) (y f.slot))
   rw [h f (List.mem_cons_self ..),fill_congr r _ fun g hg=>h g (List.mem_cons_of_mem _ hg)]
def upd (x:Nat→Value) (s:Nat) (v:Value) (k:Nat):Value:=if k=s then v else x k
theorem fill_set (x:Nat→Value) (s:Nat) (v:Value):∀ (F:List Fl) (a:Act),(F.map (·.slot)).Nodup→(∃ f∈F,f.slot=s)→(fill F x a).put (some s) v=fill F (upd x s v) a
 | [],a,_,h=>by obtain ⟨_,h,_⟩:=h;cases h
 | f :: r,a,hn,h=>by
   rw [List.map_cons,List.nodup_cons] at hn
   show (fill r x (a.put (some f.slot) (x f.slot))).put (some s) v=fill r (upd x s v) (a.put (some f.slot) (upd x s v f.slot))
   by_cases e:f.slot=s
   ·have hne:∀ g∈r,g.slot≠s:=fun g hg e'=>hn.1 (List.mem_map.2 ⟨g,hg,by rw [e,e']⟩)
    rw [fill_put x (some s) v r _ fun g hg e'=>hne g hg (Option.some.inj e').symm,e,put_put];rw [show upd x s v s=v by simp [upd]];exact fill_congr r _ fun g hg=>by simp [upd,hne g hg]
   ·obtain ⟨g,hg,hs⟩:=h
    have hg':g∈r:=by
     rcases List.mem_cons.1 hg with rfl | k
     ·exact absurd hs e
     ·exact k
    rw [show upd x s v f.slot=x f.slot by simp [upd,e]];exact fill_set x s v r _ hn.2 ⟨g,hg',hs⟩
def marks (L:Array Bool) (d:List Nat):Array Bool:=d.foldl (fun L i=>L.setIfInBounds i true) L
theorem marks_get:∀ (d:List Nat) (L:Array Bool) (k:Nat),(marks L d)[k]? = if k∈d then (L[k]?).map (fun _=>true) else L[k]?
 | [],L,k=>by simp [marks]
 | i :: r,L,k=>by
   show (marks (L.setIfInBounds i true) r)[k]? = _
   rw [marks_get r,Array.getElem?_setIfInBounds]
   by_cases hi:i=k
   ·subst hi
    by_cases hl:i < L.size
    ·simp [hl]
    ·simp [hl]
   ·have hk:k≠i:=fun e=>hi e.symm
    simp [hi,hk]
theorem marks_size:∀ (d:List Nat) (L:Array Bool),(marks L d).size=L.size
 | [],_=>rfl
 | j :: r,L=>by show (marks (L.setIfInBounds j true) r).size=_;rw [marks_size r,Array.size_setIfInBounds]
theorem marks_set (L:Array Bool) (d:List Nat) (i:Nat):(marks L d).setIfInBounds i true=marks (L.setIfInBounds i true) d:=by
 refine Array.ext_getElem? fun k=>?_;rw [Array.getElem?_setIfInBounds,marks_get,marks_get,Array.getElem?_setIfInBounds];rw [marks_size]
 by_cases hi:i=k
 ·subst hi
  by_cases hl:i < L.size <;> by_cases hd:i∈d <;> simp [hl,hd]
 ·simp [hi]
def doneOf (F:List Fl) (m:Nat→Bool):List Nat:=(F.filter fun f=>m f.idx).map (·.idx)
theorem mem_done {F:List Fl} {m:Nat→Bool} {k:Nat} : k∈doneOf F m↔m k=true∧∃ f∈F,f.idx=k:=by
 unfold doneOf;rw [List.mem_map]
 constructor
 ·rintro ⟨f,hf,rfl⟩
  rw [List.mem_filter] at hf;exact ⟨hf.2,f,hf.1,rfl⟩
 ·rintro ⟨hm,f,hf,rfl⟩
  exact ⟨f,List.mem_filter.2 ⟨hf,hm⟩,rfl⟩
def on (m:Nat→Bool) (j k:Nat):Bool:=k == j || m k
theorem marks_on (L:Array Bool) (F:List Fl) (m:Nat→Bool) (f:Fl) (hf:f∈F):(marks L (doneOf F m)).setIfInBounds f.idx true=marks L (doneOf F (on m f.idx)):=by
 rw [marks_set];refine Array.ext_getElem? fun k=>?_;rw [marks_get,marks_get,Array.getElem?_setIfInBounds]
 by_cases e:f.idx=k
 ·subst e
  have h2:f.idx∈doneOf F (on m f.idx):=mem_done.2 ⟨by simp [on],f,hf,rfl⟩;rw [if_pos h2]
  by_cases hl:f.idx < L.size <;> by_cases hd:f.idx∈doneOf F m <;> simp [hl,hd]
 ·have hiff:(k∈doneOf F (on m f.idx))↔(k∈doneOf F m):=by
   have hb:(k == f.idx)=false:=by simpa using fun h=>e h.symm
   rw [mem_done,mem_done]
   simp [on,hb]
  by_cases hd:k∈doneOf F m
  ·rw [if_pos hd,if_pos (hiff.2 hd)];simp [e]
  ·rw [if_neg hd,if_neg (fun h=>hd (hiff.1 h))];simp [e]
def allMasks:List Fl→(List Nat→Bool)→Bool
 | [],k=>k []
 | f :: r,k=>allMasks r k && allMasks r (fun d=>k (f.idx :: d))
theorem allMasks_spec:∀ (F:List Fl) (k:List Nat→Bool),allMasks F k=true→∀ m,k (doneOf F m)=true
 | [],k,h,m=>h
 | f :: r,k,h,m=>by
   unfold allMasks at h;rw [Bool.and_eq_true] at h;unfold doneOf;rw [List.filter_cons]
   cases hm:m f.idx with
   | true=>rw [if_pos rfl];exact allMasks_spec r _ h.2 m
   | false=>rw [if_neg (by simp)];exact allMasks_spec r _ h.1 m
def good (ops:Array Oper):List (Nat×Nat)→List Fl→Array Bool→Bool
 | [],F,L=>F.isEmpty && (Region.ready .any ops L).isEmpty
 | (0,i) :: r,F,L =>
   (match ops[i]? with
    | some o=>light o.op && F.all (fun f=>o.dst != some f.slot) && allMasks F (fun d=>Region.free .any ops (marks L d) i && (Region.ready .any ops (marks L d)).contains i)
    | none=>false) && good ops r F (L.setIfInBounds i true)
 | (1,i) :: r,F,L =>
   (match ops[i]? with
    | some o=>F.all (fun f=>o.dst != some f.slot) && allMasks F (fun d=>!(Region.ready .any ops (marks L d)).isEmpty && (Region.ready .any ops (marks L d)).all fun j=>j == i || F.any fun f=>f.idx == j && !d.contains j)
    | none=>false) && good ops r F (L.setIfInBounds i true)
 | (_,i) :: r,f :: F,L =>
   (ops[i]?).isSome && allMasks (f :: F) (fun d=>d.contains f.idx || (!(Region.ready .any ops (marks L d)).isEmpty && (Region.ready .any ops (marks L d)).all fun j=>(f :: F).any fun g=>g.idx == j && !d.contains j)) && good ops r F (L.setIfInBounds f.idx true)
 | (_,_) :: _,[],_=>false
def wpSf (P:Program) (ops:Array Oper) (C:World→Prop) (Q:Exit→Act→World→Prop) (n0:Nat):List (Nat×Oper)→List Fl→List (Nat×Nat)→List Nat→Act→World→Prop
 | [],_,_,_,a,w=>∀ w',Below w.heap.size w w'→C w'→Q .normal a w'
 | (0,o) :: r,F,H,L,a,w=>∀ x,wpQuiet P ops C (fun a'=>wpSf P ops C Q n0 r F H L a' w) [o] (fill F x a)
 | (1,o) :: r,F,H,L,a,w=>∀ x w',Below w.heap.size w w'→C w'→Region.wanted o (yielded ops (fill F x a).tmps)=true ∧
     o.wp P (fill F x a) w' (fun a'' w''=>C w''∧w'.heap.size≤w''.heap.size∧(F≠[]→Below w'.heap.size w' w'')∧wpSf P ops C Q n0 r F ((w'.heap.size,w''.heap.size) :: H) L a'' w'') Q
 | (_,_) :: r,F,H,L,a,w=>match F with
   | []=>False
   | f :: F=>∀ g w',Below w.heap.size w w'→C w'→w'.heap[g]? = some (.cells f.cs f.ty (0,0))→n0≤g→(∀ p∈H,g < p.1∨p.2≤g)→g ∉ L→wpSf P ops C Q n0 r F H (g :: L) (a.put (some f.slot) (.pointer (some ⟨g,0,none⟩))) w'
def picks (l:List Oper):List (Nat×Nat)→List (Nat×Oper)
 | []=>[]
 | (k,i) :: r=>match l[i]? with
   | some o=>(k,o) :: picks l r
   | none=>picks l r
structure Inv (F:List Fl) (m:Nat→Bool) (x:Nat→Value) (a:Act) (n0:Nat) (H:List (Nat×Nat)) (L:List Nat) (w:World):Prop where
 old:∀ f∈F,m f.idx=false→x f.slot=a.tmps.getD f.slot undef
 new:∀ f∈F,m f.idx=true→∃ g,x f.slot = .pointer (some ⟨g,0,none⟩)∧w.heap[g]? = some (.cells f.cs f.ty (0,0))∧n0≤g∧(∀ p∈H,g < p.1∨p.2≤g)∧g ∉ L
 apart:∀ f∈F,∀ f'∈F,f.slot≠f'.slot→m f.idx=true→m f'.idx=true→x f.slot≠x f'.slot
 past:∀ p∈H,p.2≤w.heap.size
 met:∀ g∈L,g < w.heap.size
theorem getD_put (a:Act) (dst:Option Nat) (v:Value) (s:Nat) (h:dst≠some s):(a.put dst v).tmps.getD s undef=a.tmps.getD s undef:=by
 cases dst with
 | none=>rfl
 | some d =>
   have hd:d≠s:=fun e=>h (by rw [e]);simp only [Act.put,Array.getD_eq_getD_getElem?,Array.getElem?_setIfInBounds,if_neg hd]
theorem fill_idem (x:Nat→Value):∀ (F:List Fl) (a:Act),fill F x (fill F x a)=fill F x a
 | [],_=>rfl
 | f :: r,a=>by
   show fill r x ((fill r x (a.put (some f.slot) (x f.slot))).put (some f.slot) (x f.slot))=fill r x (a.put (some f.slot) (x f.slot))
   have e:∀ (r:List Fl) (b:Act),(fill r x (b.put (some f.slot) (x f.slot))).put (some f.slot) (x f.slot)=fill r x (b.put (some f.slot) (x f.slot)):=by
    intro r
    induction r with
    | nil=>intro b;exact put_put b _ _ _
    | cons g r ih =>
      intro b
      show (fill r x ((b.put (some f.slot) (x f.slot)).put (some g.slot) (x g.slot))).put (some f.slot) (x f.slot)=fill r x ((b.put (some f.slot) (x f.slot)).put (some g.slot) (x g.slot))
      by_cases h:f.slot=g.slot
      ·rw [← h,put_put];exact ih b
      ·rw [put_comm b h,ih]
   rw [e];exact fill_idem x r _
def withD (a:Act) (ds:List Deferred):Act:={ a with defers:=ds }
theorem fill_D (x:Nat→Value) (ds:List Deferred):∀ (F:List Fl) (a:Act),withD (fill F x a) ds=fill F x (withD a ds)
 | [],_=>rfl
 | f :: r,a=>by
   show withD (fill r x (a.put (some f.slot) (x f.slot))) ds=fill r x ((withD a ds).put (some f.slot) (x f.slot))
   rw [fill_D x ds r]
   rfl
theorem getD_fill (x:Nat→Value) (s:Nat):∀ (F:List Fl) (a:Act),(∀ f∈F,f.slot=s→x s=a.tmps.getD s undef)→(fill F x a).tmps.getD s undef=a.tmps.getD s undef
 | [],_,_=>rfl
 | f :: r,a,h=>by
   have e:(a.put (some f.slot) (x f.slot)).tmps.getD s undef=a.tmps.getD s undef:=by
    by_cases hs:f.slot=s
    ·subst hs
     have:=h f (List.mem_cons_self ..) rfl;simp only [Act.put,Array.getD_eq_getD_getElem?,Array.getElem?_setIfInBounds] at *
     by_cases hl:f.slot < a.tmps.size
     ·simp [hl] at *;exact this
     ·simp [hl]
    ·exact getD_put a _ _ s (fun k=>hs (Option.some.inj k))
   show (fill r x (a.put (some f.slot) (x f.slot))).tmps.getD s undef=_
   rw [getD_fill x s r _ fun g hg k=>by rw [e];exact h g (List.mem_cons_of_mem _ hg) k,e]
theorem wp_put {P:Program} {o:Oper} {a:Act} {w:World} {K:Act→World→Prop} {Q:Exit→Act→World→Prop} (h:o.wp P a w K Q):o.wp P a w (fun a' w'=>(∃ ds v,a'=(withD a ds).put o.dst v)∧K a' w') Q:=by
 unfold Oper.wp at *
 cases hr:(execOp a.eval o).run P w with
 | halt y w1=>rw [hr] at h;cases y <;> exact h
 | ok nx w1 =>
   rw [hr] at h
   cases nx with
   | value v=>exact ⟨⟨a.defers,v,rfl⟩,h⟩
   | skip=>exact ⟨⟨a.defers,undef,rfl⟩,h⟩
   | defer d=>exact ⟨⟨d :: a.defers,undef,rfl⟩,h⟩
   | enter f args =>
     refine Calls.mono h fun e w'' k=>?_
     cases e with
     | returned v=>exact ⟨⟨a.defers,v,rfl⟩,k⟩
     | panicked c=>exact k
     | outgrown=>exact k
   | row r args=>exact Rows.mono h fun v w'' k=>⟨⟨a.defers,v,rfl⟩,k⟩
   | _=>exact h
def left:List Fl→(Nat→Bool)→Nat
 | [],_=>0
 | f :: r,m=>left r m+(if m f.idx then 0 else 1)
theorem on_le (m:Nat→Bool) (j k:Nat):(if on m j k then 0 else 1)≤(if m k then 0 else 1):=by
 unfold on
 cases (k == j) <;> cases m k <;> simp
theorem left_mono (m:Nat→Bool) (j:Nat):∀ r:List Fl,left r (on m j)≤left r m
 | []=>Nat.le_refl _
 | g :: r=>Nat.add_le_add (left_mono m j r) (on_le m j g.idx)
theorem left_on:∀ (F:List Fl) (m:Nat→Bool) (f:Fl),f∈F→m f.idx=false→left F (on m f.idx)+1≤left F m
 | g :: r,m,f,hf,hm=>by
   have a:=left_mono m f.idx r;have b:=on_le m f.idx g.idx;unfold left
   rcases List.mem_cons.1 hf with e | k
   ·subst e
    have:on m f.idx f.idx=true:=by simp [on]
    rw [this,hm]
    simp
    exact a
   ·have ih:=left_on r m f k hm
    omega
theorem nodup_same:∀ {F:List Fl},(F.map (·.slot)).Nodup→∀ f∈F,∀ g∈F,g.slot=f.slot→g=f
 | [],_,f,hf,_,_,_=>by cases hf
 | b :: r,hn,f,hf,g,hg,e=>by
   rw [List.map_cons,List.nodup_cons] at hn
   rcases List.mem_cons.1 hg with h1 | hg'
   ·rcases List.mem_cons.1 hf with h2 | hf'
    ·rw [h1,h2]
    ·exact absurd (List.mem_map.2 ⟨f,hf',by rw [← e,h1]⟩) hn.1
   ·rcases List.mem_cons.1 hf with h2 | hf'
    ·exact absurd (List.mem_map.2 ⟨g,hg',by rw [e,h2]⟩) hn.1
    ·exact nodup_same hn.2 f hf' g hg' e
section
variable {P:Program} {l:List Oper} {C:World→Prop} {Q:Exit→Act→World→Prop} {n0:Nat}
def FlOk (P:Program) (l:List Oper) (f:Fl):Prop:=∃ o,l.toArray[f.idx]? = some o∧o.dst=some f.slot∧o.guard=none∧∀ ρ w,(execOp ρ o).run P w = .ok (.value (.pointer (some ⟨w.heap.size,0,none⟩))) (w.alloc (.cells f.cs f.ty))
theorem Inv.step {F:List Fl} {m:Nat→Bool} {x:Nat→Value} {a:Act} {H:List (Nat×Nat)} {L:List Nat} {w:World} (h:Inv F m x a n0 H L w) (hn:(F.map (·.slot)).Nodup) (hi:∀ f∈F,∀ f'∈F,f.idx=f'.idx→f.slot=f'.slot) (h0:n0≤w.heap.size) (f:Fl) (hf:f∈F) (hm:m f.idx=false) :
 Inv F (on m f.idx) (upd x f.slot (.pointer (some ⟨w.heap.size,0,none⟩))) a n0 H L (w.alloc (.cells f.cs f.ty)):=by
 have same:∀ g∈F,g.slot=f.slot→g=f:=nodup_same hn f hf;have on_:∀ g∈F,g.slot≠f.slot→on m f.idx g.idx=m g.idx:=fun g hg hne=>by
  have hb:(g.idx == f.idx)=false:=by simpa using fun e=>hne (hi g hg f hf e)
  simp [on,hb]
 have onf:on m f.idx f.idx=true:=by simp [on]
 refine ⟨fun g hg hmg=>?_,fun g hg hmg=>?_,fun g hg g' hg' hne hmg hmg'=>?_,fun p hp=>?_,fun g hg=>?_⟩
 ·by_cases e:g.slot=f.slot
  ·rw [same g hg e,onf] at hmg;cases hmg
  ·rw [on_ g hg e] at hmg
   simp only [upd,if_neg e];exact h.old g hg hmg
 ·by_cases e:g.slot=f.slot
  ·obtain rfl:=same g hg e
   exact ⟨w.heap.size,by simp [upd],heap_alloc_new w _,h0,fun p hp=>.inr (h.past p hp),fun hl=>by have:=h.met _ hl;omega⟩
  ·rw [on_ g hg e] at hmg
   obtain ⟨b,h1,h2,h3⟩:=h.new g hg hmg;exact ⟨b,by simp only [upd,if_neg e];exact h1,(Below.heap_alloc w _ b (lt_of_block h2)).trans h2,h3⟩
 ·by_cases e:g.slot=f.slot
  ·have e':g'.slot≠f.slot:=fun k=>hne (e.trans k.symm)
   rw [on_ g' hg' e'] at hmg';obtain ⟨b,h1,h2,_⟩:=h.new g' hg' hmg';have:=lt_of_block h2;simp only [upd,if_pos e,if_neg e',h1]
   simp <;> omega
  ·by_cases e':g'.slot=f.slot
   ·rw [on_ g hg e] at hmg
    obtain ⟨b,h1,h2,_⟩:=h.new g hg hmg;have:=lt_of_block h2;simp only [upd,if_neg e,if_pos e',h1]
    simp <;> omega
   ·rw [on_ g hg e] at hmg
    rw [on_ g' hg' e'] at hmg';simp only [upd,if_neg e,if_neg e'];exact h.apart g hg g' hg' hne hmg hmg'
 ·have:=h.past p hp
  simp
  omega
 ·have:=h.met g hg
  simp
  omega
def cnt:List (Nat×Nat)→Nat
 | []=>0
 | (0,_) :: r=>cnt r+1
 | (1,_) :: r=>cnt r+1
 | (_+2,_) :: r=>cnt r
def Holds (P:Program) (l:List Oper) (C:World→Prop) (Q:Exit→Act→World→Prop) (n0:Nat) (n:Nat):Prop :=
 ∀ (sc:List (Nat×Nat)) (F:List Fl) (H:List (Nat×Nat)) (L:List Nat) (listed:Array Bool) (fuel:Nat) (a:Act) (w:World) (m:Nat→Bool) (x:Nat→Value) (w':World),
  2 * fuel+sc.length≤n→good l.toArray sc F listed=true→(∀ f∈F,FlOk P l f)→(F.map (·.slot)).Nodup→(∀ f∈F,∀ f'∈F,f.idx=f'.idx→f.slot=f'.slot)→Inv F m x a n0 H L w'→Below w.heap.size w w'→C w' →
  cnt sc+left F m≤fuel→wpSf P l.toArray C Q n0 (picks l sc) F H L a w→wpAnyH P .any l.toArray Q C fuel (marks listed (doneOf F m)) (fill F x a) w'
theorem wanted_none {o:Oper} {y:Nat→Option Bool} (h:o.guard=none):Region.wanted o y=true:=by simp [Region.wanted,h]
theorem float {n:Nat} (ih:Holds P l C Q n0 n) (hC:∀ w,C w→n0≤w.heap.size) (hA:∀ w o,C w→C (w.alloc o)) {sc:List (Nat×Nat)} {F:List Fl} {H:List (Nat×Nat)} {L:List Nat} {listed:Array Bool} {fuel:Nat} {a:Act} {w:World} {m:Nat→Bool} {x:Nat→Value} {w':World}
 (hn:2 * (fuel+1)+sc.length≤n+1) (hg:good l.toArray sc F listed=true) (hF:∀ f∈F,FlOk P l f) (hs:(F.map (·.slot)).Nodup) (hi:∀ f∈F,∀ f'∈F,f.idx=f'.idx→f.slot=f'.slot) (hI:Inv F m x a n0 H L w') (hb:Below w.heap.size w w') (hc:C w')
 (hf:cnt sc+left F m≤fuel+1) (h:wpSf P l.toArray C Q n0 (picks l sc) F H L a w) (f:Fl) (hff:f∈F) (hm:m f.idx=false) :
 wpOp P l.toArray Q f.idx (fun a' w'=>C w'∧wpAnyH P .any l.toArray Q C fuel ((marks listed (doneOf F m)).setIfInBounds f.idx true) a' w') (fill F x a) w':=by
 obtain ⟨o,ho,hd,hgd,hrun⟩:=hF f hff;unfold wpOp;simp only [ho,wanted_none hgd,if_true];refine .inl ?_;unfold Oper.wp;rw [hrun];rw [Oper.upon_value,hd,fill_set x f.slot _ F a hs ⟨f,hff,rfl⟩,marks_on listed F m f hff];have lo:=left_on F m f hff hm;exact ⟨hA _ _ hc,ih sc F H L listed fuel a w _ _ _ (by omega) hg hF hs hi (hI.step hs hi (hC _ hc) f hff hm) (hb.trans ((Below.refl _ _).alloc hb.size _)) (hA _ _ hc) (by omega) h⟩
theorem holds (hsel:Region.noSelect l.toArray=true) (hQ:∀ c d v a w,Q (.panic c) (Act.put a d v) w→Q (.panic c) a w) (hC:∀ w,C w→n0≤w.heap.size) (hA:∀ w o,C w→C (w.alloc o)):∀ n,Holds P l C Q n0 n:=by
 intro n
 induction n with
 | zero =>
   intro sc F H L listed fuel a w m x w' hn hg hF hs hi hI hb hc hf h
   have e:sc = []:=List.length_eq_zero_iff.1 (by omega);subst e;unfold good at hg;simp only [Bool.and_eq_true,List.isEmpty_iff] at hg;obtain ⟨rfl,hr⟩:=hg;exact wpAnyH_done hr (h w' hb hc) fuel
 | succ n ih =>
   intro sc F H L listed fuel a w m x w' hn hg hF hs hi hI hb hc hf h
   match sc,hg,h,hn,hf with
   | [],hg,h,_,_ =>
     unfold good at hg;simp only [Bool.and_eq_true,List.isEmpty_iff] at hg;obtain ⟨rfl,hr⟩:=hg;exact wpAnyH_done hr (h w' hb hc) fuel
   | (0,i) :: r,hg,h,hn,hf =>
     have hg':(_ && good l.toArray r F (listed.setIfInBounds i true))=true:=hg;rw [Bool.and_eq_true] at hg';obtain ⟨hg1,hg2⟩:=hg'
     cases ho:l[i]? with
     | none=>simp [ho] at hg1
     | some o =>
       have hop:l.toArray[i]? = some o:=by simp [ho]
       rw [hop] at hg1;simp only [Bool.and_eq_true,List.all_eq_true] at hg1;obtain ⟨⟨hl,hds⟩,hm⟩:=hg1;have hds':∀ f∈F,o.dst≠some f.slot:=fun f hf=>by simpa using hds f hf
       have hm':=allMasks_spec F _ hm m;simp only [Bool.and_eq_true] at hm';rw [picks,ho] at h;obtain ⟨fuel,rfl⟩:∃ k,fuel=k+1:=⟨fuel - 1,by simp only [cnt] at hf;omega⟩;have q:=h x;unfold wpQuiet at q;have next:∀ v',wpSf P l.toArray C Q n0 (picks l r) F H L ((fill F x a).put o.dst v') w→wpAnyH P .any l.toArray Q C fuel ((marks listed (doneOf F m)).setIfInBounds i true) ((fill F x a).put o.dst v') w':=fun v' hnx=>by
        have k:=ih r F H L (listed.setIfInBounds i true) fuel ((fill F x a).put o.dst v') w m x w' (by simp at hn;omega) hg2 hF hs hi ⟨fun f hff hmf=>?_,hI.new,hI.apart,hI.past,hI.met⟩ hb hc (by simp only [cnt] at hf;omega) hnx
        ·rw [fill_put x o.dst v' F a hds',fill_idem,← marks_set] at k
         rw [fill_put x o.dst v' F a hds'];exact k
        ·rw [getD_put _ o.dst v' f.slot (hds' f hff),getD_fill x f.slot F a fun g hg e=>by rw [← e];obtain rfl:=nodup_same hs f hff g hg e;exact hI.old g hg hmf]
         exact hI.old f hff hmf
       by_cases hw:Region.wanted o (yielded l.toArray (fill F x a).tmps)=true
       ·rw [if_pos hw] at q
        obtain ⟨v',hv',e⟩:=q;refine wpAnyH_take (v:=v') hop hsel hm'.1 hm'.2 (fun c a w=>hQ c _ _ a w) (.inl ⟨hw,fun w2 hw2=>?_⟩) hc (next v' e);have q2:=hv' w2 hw2;unfold Oper.quietAt at q2
        cases e2:(execOp (fill F x a).eval o).run P w2 with
        | halt y w1=>rw [e2] at q2;cases q2
        | ok nx w1 =>
          obtain ⟨u,rfl⟩:=light_value hl e2;rw [e2] at q2;obtain ⟨e3,e4⟩:=q2;rw [e3,e4]
       ·rw [if_neg hw] at q
        exact wpAnyH_take (v:=undef) hop hsel hm'.1 hm'.2 (fun c a w=>hQ c _ _ a w) (.inr ⟨by simpa using hw,rfl⟩) hc (next undef q)
   | (1,i) :: r,hg,h,hn,hf =>
     have hg0:=hg;have h0:=h;have hg':(_ && good l.toArray r F (listed.setIfInBounds i true))=true:=hg;rw [Bool.and_eq_true] at hg';obtain ⟨hg1,hg2⟩:=hg'
     cases ho:l[i]? with
     | none=>simp [ho] at hg1
     | some o =>
       have hop:l.toArray[i]? = some o:=by simp [ho]
       rw [hop] at hg1;simp only [Bool.and_eq_true,List.all_eq_true] at hg1;obtain ⟨hds,hm⟩:=hg1;have hds':∀ f∈F,o.dst≠some f.slot:=fun f hf=>by simpa using hds f hf
       have hm':=allMasks_spec F _ hm m;simp only [Bool.and_eq_true,List.all_eq_true] at hm';rw [picks,ho] at h;obtain ⟨hw,hwp⟩:=h x w' hb hc;obtain ⟨fuel,rfl⟩:∃ k,fuel=k+1:=⟨fuel - 1,by simp only [cnt] at hf;omega⟩;refine wpAnyH_all rfl (fun e=>by rw [e] at hm';simp at hm') fun j hj=>?_;have hj':=hm'.2 j hj;rw [Bool.or_eq_true] at hj'
       rcases hj' with e | hfl
       ·obtain rfl:j=i:=by simpa using e
        unfold wpOp;simp only [hop,hw,if_true];refine .inl (Oper.wp_mono (fun a'' w'' hh=>?_) (wp_put hwp));obtain ⟨⟨ds,v,rfl⟩,c2,hsz,hbel,hT⟩:=hh;refine ⟨c2,?_⟩;have k:=ih r F _ L (listed.setIfInBounds j true) fuel ((withD (fill F x a) ds).put o.dst v) w'' m x w'' (by simp at hn;omega) hg2 hF hs hi ⟨fun f hff hmf=>?_,fun f hff hmf=>?_,hI.apart,fun p hp=>?_,fun g hg=>Nat.lt_of_lt_of_le (hI.met g hg) hsz⟩ (Below.refl _ _) c2 (by simp only [cnt] at hf;omega) hT
        ·rw [fill_D,fill_put x o.dst v F _ hds',fill_idem,← marks_set] at k
         rw [fill_D,fill_put x o.dst v F _ hds'];exact k
        ·rw [fill_D,getD_put _ o.dst v f.slot (hds' f hff),getD_fill x f.slot F _ fun g hg e=>by rw [← e];obtain rfl:=nodup_same hs f hff g hg e;exact hI.old g hg hmf]
         exact hI.old f hff hmf
        ·obtain ⟨g,g1,g2,g3,g4,g5⟩:=hI.new f hff hmf
         refine ⟨g,g1,((hbel (List.ne_nil_of_mem hff)).block g (lt_of_block g2)).trans g2,g3,fun p hp=>?_,g5⟩
         rcases List.mem_cons.1 hp with rfl | hp
         ·exact .inl (lt_of_block g2)
         ·exact g4 p hp
        ·rcases List.mem_cons.1 hp with rfl | hp
         ·exact Nat.le_refl _
         ·exact Nat.le_trans (hI.past p hp) hsz
       ·obtain ⟨f,hff,he⟩:=List.any_eq_true.1 hfl
        rw [Bool.and_eq_true] at he;obtain rfl:f.idx=j:=by simpa using he.1
        have hmf:m f.idx=false:=by
         have hd:f.idx ∉ doneOf F m:=by simpa using he.2
         rw [mem_done] at hd
         cases hmm:m f.idx with
         | false=>rfl
         | true=>exact absurd ⟨hmm,f,hff,rfl⟩ hd
        exact float ih hC hA hn hg0 hF hs hi hI hb hc hf h0 f hff hmf
   | (k+2,i) :: r,hg,h,hn,hf =>
     have hg0:=hg;have h0:=h
     match F,hg,h,hF,hs,hi,hI,hf,hg0,h0 with
     | [],hg,h,_,_,_,_,_,_,_=>simp [good] at hg
     | f :: F,hg,h,hF,hs,hi,hI,hf,hg0,h0 =>
       have hg':((l.toArray[i]?).isSome && allMasks (f :: F) _ && good l.toArray r F (listed.setIfInBounds f.idx true))=true:=hg;rw [Bool.and_eq_true,Bool.and_eq_true] at hg';obtain ⟨⟨hio,hm⟩,hg2⟩:=hg';have hm':=allMasks_spec (f :: F) _ hm m
       cases hmm:m f.idx with
       | true =>
         obtain ⟨g,g1,g2,g3,g4,g5⟩:=hI.new f (List.mem_cons_self ..) hmm;have hp:∀ {o:Oper},wpSf P l.toArray C Q n0 ((k+2,o) :: picks l r) (f :: F) H L a w→wpSf P l.toArray C Q n0 (picks l r) F H (g :: L) (a.put (some f.slot) (.pointer (some ⟨g,0,none⟩))) w':=fun h=>h g w' hb hc g2 g3 g4 g5;have hT:wpSf P l.toArray C Q n0 (picks l r) F H (g :: L) (a.put (some f.slot) (.pointer (some ⟨g,0,none⟩))) w':=by
          cases ho:l[i]? with
          | none=>simp [ho] at hio
          | some o =>
            rw [picks,ho] at h;exact hp h
         have hd:doneOf (f :: F) m=f.idx :: doneOf F m:=by unfold doneOf;rw [List.filter_cons,if_pos hmm];rfl
         rw [hd]
         show wpAnyH P .any l.toArray Q C fuel (marks (listed.setIfInBounds f.idx true) (doneOf F m)) (fill F x (a.put (some f.slot) (x f.slot))) w'
         rw [g1];rw [List.map_cons,List.nodup_cons] at hs;have hne:∀ f'∈F,f.slot≠f'.slot:=fun f' h' e=>hs.1 (List.mem_map.2 ⟨f',h',e.symm⟩);refine ih r F H (g :: L) _ fuel _ w' m x w' (by simp at hn;omega) hg2 (fun f' h'=>hF f' (List.mem_cons_of_mem _ h')) hs.2 (fun a ha b hb=>hi a (List.mem_cons_of_mem _ ha) b (List.mem_cons_of_mem _ hb)) ⟨fun f' h' hmf=>?_,fun f' h' hmf=>?_,fun f' h' f'' h''=>hI.apart f' (List.mem_cons_of_mem _ h') f'' (List.mem_cons_of_mem _ h''),hI.past,fun b hb=>?_⟩ (Below.refl _ _) hc ?_ hT
         ·rw [getD_put a _ _ f'.slot (fun e=>hne f' h' (Option.some.inj e))]
          exact hI.old f' (List.mem_cons_of_mem _ h') hmf
         ·obtain ⟨b,b1,b2,b3,b4,b5⟩:=hI.new f' (List.mem_cons_of_mem _ h') hmf
          refine ⟨b,b1,b2,b3,b4,fun hl=>?_⟩
          rcases List.mem_cons.1 hl with e | hl
          ·exact hI.apart f' (List.mem_cons_of_mem _ h') f (List.mem_cons_self ..) (fun e=>hne f' h' e.symm) hmf hmm (by rw [b1,g1,e])
          ·exact b5 hl
         ·rcases List.mem_cons.1 hb with rfl | hb
          ·exact lt_of_block g2
          ·exact hI.met b hb
         ·simp only [cnt,left,hmm] at hf
          simpa using hf
       | false =>
         have hd:(doneOf (f :: F) m).contains f.idx=false:=by
          have:f.idx ∉ doneOf (f :: F) m:=fun h=>by rw [mem_done,hmm] at h;simp at h
          simpa using this
         rw [hd,Bool.false_or] at hm';simp only [Bool.and_eq_true,List.all_eq_true] at hm';have lf:=left_on (f :: F) m f (List.mem_cons_self ..) hmm;obtain ⟨fuel,rfl⟩:∃ k,fuel=k+1:=⟨fuel - 1,by omega⟩;refine wpAnyH_all rfl (fun e=>by rw [e] at hm';simp at hm') fun j hj=>?_;obtain ⟨f',hff,he⟩:=List.any_eq_true.1 (hm'.2 j hj);rw [Bool.and_eq_true] at he;obtain rfl:f'.idx=j:=by simpa using he.1
         have hmf:m f'.idx=false:=by
          have hd:f'.idx ∉ doneOf (f :: F) m:=by simpa using he.2
          rw [mem_done] at hd
          cases hmm:m f'.idx with
          | false=>rfl
          | true=>exact absurd ⟨hmm,f',hff,rfl⟩ hd
         exact float ih hC hA hn hg0 hF hs hi hI hb hc hf h0 f' hff hmf
theorem fill_self (a:Act):∀ F:List Fl,fill F (fun s=>a.tmps.getD s undef) a=a
 | []=>rfl
 | f :: r=>by
   have e:a.put (some f.slot) (a.tmps.getD f.slot undef)=a:=by
    simp only [Act.put];have:a.tmps.setIfInBounds f.slot (a.tmps.getD f.slot undef)=a.tmps:=by
     refine Array.ext_getElem? fun k=>?_;rw [Array.getElem?_setIfInBounds]
     by_cases hk:f.slot=k
     ·subst hk
      by_cases hl:f.slot < a.tmps.size
      ·simp [hl]
      ·simp [hl]
     ·simp [hk]
    rw [this]
   show fill r (fun s=>a.tmps.getD s undef) (a.put (some f.slot) (a.tmps.getD f.slot undef))=a
   rw [e];exact fill_self a r
theorem left_all:∀ F:List Fl,left F (fun _=>false)=F.length
 | []=>rfl
 | f :: r=>by show left r _+1=r.length+1;rw [left_all r]
theorem start {id:Nat} {l:List Oper} {Q:Exit→Act→World→Prop} {a:Act} {w:World} (sc:List (Nat×Nat)) (F:List Fl) (hm:P.follows .mixedOrders=true) (hs:Region.noSelect l.toArray=true)
 (hg:good l.toArray sc F (Array.replicate l.toArray.size false)=true) (hc:cnt sc+F.length≤l.toArray.size) (hn:(F.map (·.slot)).Nodup) (hi:∀ f∈F,∀ f'∈F,f.idx=f'.idx→f.slot=f'.slot) (hF:∀ f∈F,FlOk P l f)
 (h:wpSf P l.toArray (fun w'=>∃ p:By w,w'=p.world) (NoPanic Q) w.heap.size (picks l sc) F [] [] a w.drew):(Code.region id l.toArray true).wp P Q a w :=
 wp_region_noPanic (wp_region_held_drew (S:=Cl w) hm (Cl.of (Below.refl _ _).drew) fun _=>by
  have hd:doneOf F (fun _=>false) = []:=by unfold doneOf;simp
  have k:=holds (P:=P) (l:=l) (C:=Cl w) (Q:=NoPanic Q) (n0:=w.heap.size) hs (fun _ _ _ _ _ h=>h) (fun w' h=>h.bel.size) (fun w' o h=>Cl.of (h.bel.alloc h.bel.size o)) (2 * l.toArray.size+sc.length) sc F [] [] (Array.replicate l.toArray.size false) l.toArray.size a w.drew (fun _=>false) (fun s=>a.tmps.getD s undef) w.drew
   (Nat.le_refl _) hg hF hn hi ⟨fun _ _ _=>rfl,fun _ _ h=>(by cases h),fun _ _ _ _ _ h=>(by cases h),fun _ hp=>(by cases hp),fun _ hg=>(by cases hg)⟩ (Below.refl _ _) (Cl.of (Below.refl _ _).drew) (by rw [left_all];exact hc) h
  rw [hd,fill_self] at k
  exact k)
section
variable {ops:Array Oper} {a:Act} {w:World} {o:Oper} {r:List (Nat×Oper)} {F:List Fl} {H:List (Nat×Nat)} {L:List Nat}
theorem lit (h:∀ x,wpQuiet P ops C (fun a'=>wpSf P ops C Q n0 r F H L a' w) [o] (fill F x a)):wpSf P ops C Q n0 ((0,o) :: r) F H L a w:=h
theorem call (h:∀ x w',Below w.heap.size w w'→C w'→Region.wanted o (yielded ops (fill F x a).tmps)=true ∧
 ∀ K:Act→World→Prop,(∀ a'' w'',C w''→w'.heap.size≤w''.heap.size→(F≠[]→Below w'.heap.size w' w'')→wpSf P ops C Q n0 r F ((w'.heap.size,w''.heap.size) :: H) L a'' w''→K a'' w'')→o.wp P (fill F x a) w' K Q) :
 wpSf P ops C Q n0 ((1,o) :: r) F H L a w:=fun x w' hb hc=>⟨(h x w' hb hc).1,(h x w' hb hc).2 _ fun _ _ c s b k=>⟨c,s,b,k⟩⟩
theorem meet {f:Fl} (h:∀ g w',Below w.heap.size w w'→C w'→w'.heap[g]? = some (.cells f.cs f.ty (0,0))→n0≤g→(∀ p∈H,g < p.1∨p.2≤g)→g ∉ L→wpSf P ops C Q n0 r F H (g :: L) (a.put (some f.slot) (.pointer (some ⟨g,0,none⟩))) w') :
 wpSf P ops C Q n0 ((2,o) :: r) (f :: F) H L a w:=h
theorem done {Q:Exit→Act→World→Prop} (h:∀ w',Below w.heap.size w w'→C w'→Q .normal a w'):wpSf P ops C (NoPanic Q) n0 [] F H L a w:=h
end
end
end Go.Proofs.YtelgnhmcnfibnaaGreatDoor.Sf
namespace Go.Proofs.YtelgnhmcnfibnaaGreatDoor.Fl
open Go.RowKit
open Rw (Rd Ow At)
attribute [local irreducible] Sd.wpSd wpQuiet Sf.wpSf
theorem rat_set (l:List R4) (k:Nat) (hk:k < l.length) (y:R4):rat (l.set k y) k=y:=by simp [rat,List.getD,hk]
theorem set_rat (l:List R4) (k:Nat) (hk:k < l.length):l.set k (rat l k)=l:=by
 have:rat l k=l[k]:=by simp [rat,List.getD,List.getElem?_eq_getElem hk]
 rw [this,List.set_getElem_self]
theorem own4 {w:World} {B:Nat} {l:List R4} {g n cap:Nat} (h:Ow K4 w B 26 (.slice (some ⟨g,0,none⟩) n cap) l) (k:Nat) (hk:k < l.length) :
 (w.cell? ⟨g,k * 4,none⟩=some (.int .u8 (rat l k).1)∧w.cell? ⟨g,k * 4+1,none⟩=some (.int .u8 (rat l k).2.1)∧w.cell? ⟨g,k * 4+2,none⟩=some (.int .u8 (rat l k).2.2.1)∧w.cell? ⟨g,k * 4+3,none⟩=some (.int .u8 (rat l k).2.2.2))∧(∀ j,w.frozen? ⟨g,j,none⟩=false)∧B≤g∧g < w.heap.size:=by
 obtain ⟨g',cap',eg,h1,h2,_,_,hf,hA⟩:=h.form (by omega);have e:g=g':=by
  injection eg with e1;injection e1 with e1;injection e1 with e1 _ _
 subst e;have c:=at4 hA k hk;simp only [Nat.zero_add] at c;exact ⟨c,hf,h1,h2⟩
theorem own_form {w:World} {B:Nat} {l:List R4} {u:Value} (h:Ow K4 w B 26 u l) (hl:0 < l.length):∃ g cap,u = .slice (some ⟨g,0,none⟩) l.length cap:=by
 obtain ⟨g,cap,e,_⟩:=h.form hl;exact ⟨g,cap,e⟩
structure Have (w:World) (p:Int) (v:Value) (x:R4) (gF:Nat) (u:Value) (m:List R4) (W:World):Prop where
 st:Start w p v x W
 row:W.heap[gF]? = some (.cells #[.int .i64 p,u] 71 (0,0))
 own:Ow K4 W (w.heap.size+4) 26 u m
 ge:w.heap.size+4≤gF
 ne:u.ownBlock≠some gF
theorem Have.mono {w W W':World} {p:Int} {v u:Value} {x:R4} {gF:Nat} {m:List R4} (h:Have w p v x gF u m W) (b:Below W.heap.size W W'):Have w p v x gF u m W' :=
 ⟨h.st.mono b,(b.block _ (lt_of_block h.row)).trans h.row,h.own.keep b,h.ge,h.ne⟩
theorem Have.put {w W:World} {p:Int} {v:Value} {x:R4} {gF gu n cu:Nat} {m:List R4} (h:Have w p v x gF (.slice (some ⟨gu,0,none⟩) n cu) m W) (hn:n=m.length) (k:Nat) (hk:k < m.length) (y:R4) :
 Have w p v x gF (.slice (some ⟨gu,0,none⟩) n cu) (m.set k y) (sto4 W gu (k * 4) y):=by
 have hge:=(own4 h.own k hk).2.2.1;have hne:gF≠gu:=fun e=>h.ne (by rw [e];rfl);exact ⟨⟨sto4_other h.st.box (by omega),sto4_other h.st.arg (by omega),sto4_other h.st.res1 (by omega),sto4_other h.st.res2 (by omega),by rw [sto4_size];exact h.st.siz,sto4_below h.st.bel (by omega)⟩,sto4_other h.row hne,sto4_own h.own hn k hk y,h.ge,h.ne⟩
def Last (w:World) (p:Int) (gF:Nat) (u:Value) (m:List R4) (W:World):Prop:=W.heap[gF]? = some (.cells #[.int .i64 p,u] 71 (0,0))∧Ow K4 W (w.heap.size+4) 26 u m
set_option maxHeartbeats 1000000 in
theorem do_no (w:World) (p:Int) (a:Option Addr) (n cap:Nat) (l:List R4) (R:Rd K4 w (.slice a n cap) l) (op rec:Int) (x:R4) (he:¬ doE p l op rec=0):Calls Tryz.prog 81 #[file p (.slice a n cap),.int .i64 op,.int .i64 rec,rec4 x] w (DoPost w p l op rec x):=by
 have S0:Hid (Start w p (.slice a n cap) x ((((w.alloc (.cells #[.int .i64 p,.slice a n cap] 71)).alloc (.cells #[.int .u8 x.1,.int .u8 x.2.1,.int .u8 x.2.2.1,.int .u8 x.2.2.2] 26)).alloc (.cells #[.int .i64 0,.slice none 0 0] 71)).alloc (.cells #[.int .u8 0,.int .u8 0,.int .u8 0,.int .u8 0] 26))):=Lib.hid (Start.of w p _ x);have WR:=Lib.hid (wrong_any _ p _ l (R.below S0.out.bel) op rec);have E:Hid (∀ w',Below w.heap.size w w'→DoPost w p l op rec x (.returned (.tuple #[file 0 (.slice none 0 0),rec4 z4,.int .i64 (doE p l op rec)])) w'):=fun w' h=>⟨.slice none 0 0,by rw [if_neg he,if_neg he],by rw [if_neg he];exact Ow.nil _ _ _,h⟩;have hd:(doE p l op rec != 0)=true:=by simpa using he
 clear R he;generalize doE p l op rec=d at *;unfold file rec4 at *
 go_enter Tryz.func81,Tryz.ntmps81
 go_wp2_with fail;generalize (((w.alloc (.cells #[.int .i64 p,.slice a n cap] 71)).alloc (.cells #[.int .u8 x.1,.int .u8 x.2.1,.int .u8 x.2.2.1,.int .u8 x.2.2.2] 26)).alloc (.cells #[.int .i64 0,.slice none 0 0] 71)).alloc (.cells #[.int .u8 0,.int .u8 0,.int .u8 0,.int .u8 0] 26)=W at *;refine WR.out.mono ?_;rintro e w1 ⟨rfl,b1⟩;have S1:=Lib.hid (S0.out.mono b1);clear b1 S0 WR;have c0:w1.cell? ⟨w.heap.size+2,0,none⟩=some (.int .i64 0):=row_cell S1.out.res1 0;have c1:w1.cell? ⟨w.heap.size+2,1,none⟩=some (.slice none 0 0):=row_cell S1.out.res1 1;have d0:w1.cell? ⟨w.heap.size+3,0,none⟩=some (.int .u8 0):=row_cell S1.out.res2 0;have d1:w1.cell? ⟨w.heap.size+3,1,none⟩=some (.int .u8 0):=row_cell S1.out.res2 1;have d2:w1.cell? ⟨w.heap.size+3,2,none⟩=some (.int .u8 0):=row_cell S1.out.res2 2;have d3:w1.cell? ⟨w.heap.size+3,3,none⟩=some (.int .u8 0):=row_cell S1.out.res2 3;have f0:=row_frozen S1.out.res1 0;have f1:=row_frozen S1.out.res1 1;have k0:=row_frozen S1.out.res2 0;have k1:=row_frozen S1.out.res2 1;have k2:=row_frozen S1.out.res2 2;have k3:=row_frozen S1.out.res2 3;have R1:=Lib.hid (sto4_other (g:=w.heap.size+3) (o:=0) (r:=z4) (sto2_row S1.out.res1 0 (.slice none 0 0)) (by omega));have R2:=Lib.hid (sto4_row (sto2_other (g:=w.heap.size+2) (p:=0) (v:=.slice none 0 0) S1.out.res2 (by omega)) z4);have B2:=Lib.hid (sto4_below (o:=0) (r:=z4) (sto2_below (p:=0) (v:=.slice none 0 0) S1.out.bel (show w.heap.size≤w.heap.size+2 by omega)) (show w.heap.size≤w.heap.size+3 by omega));clear S1;go_wp2
 (try simp only [Exit.inBlock,Exit.then])
 exact bodyPost_ret (results_do (p:=8) (q:=9) (r:=10) rfl _ _ (w.heap.size+2) (w.heap.size+3) 0 (.slice none 0 0) z4 d rfl rfl rfl R1.out R2.out) rfl (E.out _ B2.out)
structure Read (w:World) (p:Int) (v:Value) (gF:Nat) (u:Value) (W:World):Prop where
 box:W.heap[w.heap.size]? = some (.cells #[.int .i64 p,v] 71 (0,0))
 row:W.heap[gF]? = some (.cells #[.int .i64 p,u] 71 (0,0))
 bel:Below w.heap.size w W
theorem doE_of {p op rec:Int} {l:List R4} (h:doE p l op rec=0):goodF p l∧(0≤op∧op≤2)∧0≤rec∧rec < l.length:=by
 by_cases h1:goodF p l
 ·by_cases h2:0≤op∧op≤2
  ·by_cases h3:0≤rec∧rec < l.length
   ·exact ⟨h1,h2,h3⟩
   ·rw [doE_4 h1 h2 h3] at h;omega
  ·rw [doE_1 h1 h2] at h;omega
 ·rw [doE_2 h1] at h;omega
set_option maxHeartbeats 4000000 in
theorem do_yes (w:World) (p:Int) (a:Option Addr) (n cap:Nat) (l:List R4) (R:Rd K4 w (.slice a n cap) l) (hl:okL l) (op:Int) (k:Nat) (x:R4) (he:doE p l op k=0) (ho:0≤op∧op≤2) (hk:k < l.length) (h256:l.length≤256):Calls Tryz.prog 81 #[file p (.slice a n cap),.int .i64 op,.int .i64 (k:Int),rec4 x] w (DoPost w p l op k x):=by
 obtain ⟨b,off,rfl,hA⟩:∃ b off,a=some ⟨b,off,none⟩∧At K4 w b off l:=by
  obtain ⟨a',cap',e,_,_,h4⟩:=R;injection e with e1 e2 e3;subst e1;exact h4 (by omega)
 have hn:n=l.length:=by
  obtain ⟨a',cap',e,_⟩:=R;injection e
 have S0:Hid (Start w p (.slice (some ⟨b,off,none⟩) n cap) x ((((w.alloc (.cells #[.int .i64 p,.slice (some ⟨b,off,none⟩) n cap] 71)).alloc (.cells #[.int .u8 x.1,.int .u8 x.2.1,.int .u8 x.2.2.1,.int .u8 x.2.2.2] 26)).alloc (.cells #[.int .i64 0,.slice none 0 0] 71)).alloc (.cells #[.int .u8 0,.int .u8 0,.int .u8 0,.int .u8 0] 26))):=Lib.hid (Start.of w p _ x);have WR:=Lib.hid (at_int he (wrong_any _ p _ l (R.below S0.out.bel) op k));have E:Hid (∀ y u w',y=newR l op k x→Ow K4 w' w.heap.size 26 u (l.set k y)→Below w.heap.size w w'→DoPost w p l op k x (.returned (.tuple #[file p u,rec4 y,.int .i64 0])) w'):=fun y u w' hy h hb=>⟨u,by rw [if_pos he,if_pos he,he,hy],by rw [if_pos he,← hy,Int.toNat_natCast];exact h,hb⟩;have HLL:=Lib.hid (And.intro hk (And.intro hn h256));have RR:=Lib.hid R;have HA:=Lib.hid hA;have OK:=Lib.hid hl;have hkn:k < n:=by omega
 have hn0:n < 2147483648:=by omega
 clear he R hA hl hn h256 hk;unfold file rec4 at *
 go_enter Tryz.func81,Tryz.ntmps81
 go_wp2_with fail;generalize (((w.alloc (.cells #[.int .i64 p,.slice (some ⟨b,off,none⟩) n cap] 71)).alloc (.cells #[.int .u8 x.1,.int .u8 x.2.1,.int .u8 x.2.2.1,.int .u8 x.2.2.2] 26)).alloc (.cells #[.int .i64 0,.slice none 0 0] 71)).alloc (.cells #[.int .u8 0,.int .u8 0,.int .u8 0,.int .u8 0] 26)=W at *;refine WR.out.mono ?_;rintro e w1 ⟨rfl,b1⟩;have S1:=Lib.hid (S0.out.mono b1);clear b1 S0 WR;go_wp2_with fail;have s0:=Sd.cell_by (show w1.cell? ⟨w.heap.size,0,none⟩=some (.int .i64 p) from row_cell S1.out.box 0);have s1:=Sd.cell_by (show w1.cell? ⟨w.heap.size,1,none⟩=some (.slice (some ⟨b,off,none⟩) n cap) from row_cell S1.out.box 1);refine Sf.start [(0,0),(0,1),(0,2),(0,3),(1,4),(0,5),(2,6),(1,7)] [⟨6,12,#[.int .i64 0,.slice none 0 0],71⟩] (by kernel_rfl) (by kernel_rfl) (by kernel_rfl) (by decide) (by decide) ?_ ?_ ?_
 ·simp
 ·intro f hf
  simp only [List.mem_cons,List.not_mem_nil,or_false] at hf;subst hf;exact ⟨_,rfl,rfl,rfl,fun ρ w=>by go_simp⟩
 dsimp only [Sf.picks,List.getElem?_cons_succ,List.getElem?_cons_zero];have BW:=Lib.hid ((Below.refl w1.heap.size w1).drew)
 repeat (refine Sf.lit (fun xs=>?_);simp only [Sf.fill,List.foldl_cons,List.foldl_nil];quiet_step (fail);refine wpQuiet_nil ?_)
 refine Sf.call (fun xs w3 hb hc=>⟨by rfl,fun K hK=>?_⟩);have B3:=Lib.hid (BW.out.trans (hb.mono BW.out.size));clear hb hc BW;simp only [Sf.fill,List.foldl_cons,List.foldl_nil];go_simp;have R3:=RR.out.below (S1.out.bel.trans (B3.out.mono (by have:=S1.out.siz;omega)));refine (clone_any _ _ l R3 (by have:=HLL.out.2.2;omega)).mono ?_;rintro e4 w4 ⟨u,rfl,o4,b4⟩;obtain ⟨gu,cu,rfl⟩:=own_form o4 (by have:=HLL.out.1;omega);rw [← HLL.out.2.1] at o4 ⊢;have B4:=Lib.hid (B3.out.trans (b4.mono B3.out.size));have O4:=Lib.hid o4;refine hK _ _ (Sd.Cl.of B4.out) b4.size (fun _=>b4) ?_;clear hK K b4 o4 R3
 repeat (refine Sf.lit (fun xs=>?_);simp only [Sf.fill,List.foldl_cons,List.foldl_nil];quiet_step (fail);refine wpQuiet_nil ?_)
 refine Sf.meet (fun gF w7 hb hc row n7 hH hL=>?_);have B7:=Lib.hid (B4.out.trans (hb.mono B4.out.size));have N7:=Lib.hid (O4.out.range (hH _ (List.mem_cons_self ..)));have O7:=Lib.hid (O4.out.keep hb);have R7:Hid (w7.heap[gF]? = some (.cells #[.int .i64 0,.slice none 0 0] 71 (0,0))):=row;clear hb hc row hH hL B4 O4;refine Sf.call (fun xs w9 hb hc=>⟨by rfl,fun K hK=>?_⟩);have B9:=Lib.hid (B7.out.trans (hb.mono B7.out.size));have O9:=Lib.hid (O7.out.keep hb);have R9:=(hb.block _ (lt_of_block R7.out)).trans R7.out;have c0:w9.cell? ⟨gF,0,none⟩=some (.int .i64 0):=row_cell R9 0;have c1:w9.cell? ⟨gF,1,none⟩=some (.slice none 0 0):=row_cell R9 1;have f0:=row_frozen R9 0;have f1:=row_frozen R9 1;have RA:=sto2_row R9 p (.slice (some ⟨gu,0,none⟩) n cu);have BA:=sto2_below (p:=p) (v:=.slice (some ⟨gu,0,none⟩) n cu) B9.out n7;have OA:=sto2_off (u:=.slice (some ⟨gu,0,none⟩) n cu) O9.out N7.out p;have hs1:=S1.out.siz;have hs3:=B3.out.size;have HB:Hid (Have w p (.slice (some ⟨b,off,none⟩) n cap) x gF (.slice (some ⟨gu,0,none⟩) n cu) l (sto2 w9 gF p (.slice (some ⟨gu,0,none⟩) n cu))):=⟨S1.out.mono BA,RA,OA.low (by omega),by omega,N7.out⟩;have hsz:=sto2_size w9 gF p (.slice (some ⟨gu,0,none⟩) n cu);clear hb hc B7 O7 R7 R9 RA OA B9 O9 N7;simp only [Sf.fill,List.foldl_nil];go_simp;refine hK _ _ (Sd.Cl.of BA) (by rw [← hsz];exact Nat.le_refl _) (fun h=>absurd rfl h) ?_;clear hK K c0 c1 f0 f1
 show Sf.wpSf _ _ _ _ _ _ _ _ _ _ (sto2 w9 gF p (.slice (some ⟨gu,0,none⟩) n cu))
 clear BA hsz;generalize sto2 w9 gF p (.slice (some ⟨gu,0,none⟩) n cu)=wA at *;refine Sf.done (fun wB hb hc=>?_);have HV:=Lib.hid (HB.out.mono hb);clear hb hc HB S1 B3 s0 s1 n7 hs1 hs3
 rcases (by omega:op=0∨op=1∨op=2) with rfl | rfl | rfl
 ·obtain ⟨y,hy⟩:∃ y,rat l k=y:=⟨_,rfl⟩
  have EY:Hid (∀ u w',Ow K4 w' w.heap.size 26 u (l.set k y)→Below w.heap.size w w'→DoPost w p l 0 k x (.returned (.tuple #[file p u,rec4 y,.int .i64 0])) w'):=fun u w'=>E.out y u w' (by rw [← hy];unfold newR;rw [if_neg (by decide),if_neg (by decide),Int.toNat_natCast]);rw [← set_rat l k HLL.out.1,hy] at HV;clear E hy;go_wp2_with fail;generalize wB=Wz at *;obtain ⟨⟨c0,c1,c2,c3⟩,_,_,_⟩:=own4 HV.out.own k (by rw [List.length_set];exact HLL.out.1);rw [rat_set l k HLL.out.1] at c0 c1 c2 c3;have C0:Last w p gF (.slice (some ⟨gu,0,none⟩) n cu) (l.set k y) Wz.drew:=⟨HV.out.row,HV.out.own⟩;have r0:=Sc.cell_in (C:=Last w p gF (.slice (some ⟨gu,0,none⟩) n cu) (l.set k y)) (a:=⟨gF,0,none⟩) (fun W' h=>row_cell h.1 0);have r1:=Sc.cell_in (C:=Last w p gF (.slice (some ⟨gu,0,none⟩) n cu) (l.set k y)) (a:=⟨gF,1,none⟩) (fun W' h=>row_cell h.1 1);have HQ:Hid (∀ W',Last w p gF (.slice (some ⟨gu,0,none⟩) n cu) (l.set k y) W'→(W'.cell? ⟨gu,k * 4,none⟩=some (.int .u8 y.1)∧W'.cell? ⟨gu,k * 4+1,none⟩=some (.int .u8 y.2.1)∧W'.cell? ⟨gu,k * 4+2,none⟩=some (.int .u8 y.2.2.1)∧W'.cell? ⟨gu,k * 4+3,none⟩=some (.int .u8 y.2.2.2))):=fun W' h=>by
   have:=(own4 h.2 k (by rw [List.length_set];exact HLL.out.1)).1;rw [rat_set l k HLL.out.1] at this;exact this
  have q0:=Sc.cell_in (C:=Last w p gF (.slice (some ⟨gu,0,none⟩) n cu) (l.set k y)) (fun W' h=>(HQ.out W' h).1);have q1:=Sc.cell_in (C:=Last w p gF (.slice (some ⟨gu,0,none⟩) n cu) (l.set k y)) (fun W' h=>(HQ.out W' h).2.1);have q2:=Sc.cell_in (C:=Last w p gF (.slice (some ⟨gu,0,none⟩) n cu) (l.set k y)) (fun W' h=>(HQ.out W' h).2.2.1);have q3:=Sc.cell_in (C:=Last w p gF (.slice (some ⟨gu,0,none⟩) n cu) (l.set k y)) (fun W' h=>(HQ.out W' h).2.2.2);have ne:Nonempty (Sc.In (Last w p gF (.slice (some ⟨gu,0,none⟩) n cu) (l.set k y))):=⟨⟨_,C0⟩⟩;clear c0 c1 c2 c3 HQ;refine Sc.start (Last w p gF (.slice (some ⟨gu,0,none⟩) n cu) (l.set k y)) [(false,0),(false,1),(false,2),(false,3),(false,4),(false,5),(true,6),(true,7),(false,8)] (by kernel_rfl) (by kernel_rfl) (by kernel_rfl) C0 ?_;dsimp only [Sd.picks,List.getElem?_cons_succ,List.getElem?_cons_zero]
  repeat (refine Sd.lit ?_;quiet_step (fail);refine wpQuiet_nil ?_)
  have HD:Hid (Have w p (.slice (some ⟨b,off,none⟩) n cap) x gF (.slice (some ⟨gu,0,none⟩) n cu) (l.set k y) Wz.drew):=HV.out.mono ((Below.refl _ _).drew);clear HV r0 r1 q0 q1 q2 q3 C0;generalize Wz.drew=Wy at *;refine Sd.call (by rfl) (fun K hK=>?_);have c0:Wy.cell? ⟨w.heap.size+2,0,none⟩=some (.int .i64 0):=row_cell HD.out.st.res1 0;have c1:Wy.cell? ⟨w.heap.size+2,1,none⟩=some (.slice none 0 0):=row_cell HD.out.st.res1 1;have f0:=row_frozen HD.out.st.res1 0;have f1:=row_frozen HD.out.st.res1 1;have hge:=(own4 HD.out.own k (by rw [List.length_set];exact HLL.out.1)).2.2.1;have hF:=HD.out.ge;have n1:(Value.slice (some ⟨gu,0,none⟩) n cu).ownBlock≠some (w.heap.size+2):=fun e=>by simp [Value.ownBlock] at e;omega
  have n2:(Value.slice (some ⟨gu,0,none⟩) n cu).ownBlock≠some (w.heap.size+3):=fun e=>by simp [Value.ownBlock] at e;omega
  have L1:Last w p gF (.slice (some ⟨gu,0,none⟩) n cu) (l.set k y) (sto2 Wy (w.heap.size+2) p (.slice (some ⟨gu,0,none⟩) n cu)):=⟨sto2_other HD.out.row (by omega),sto2_off HD.out.own n1 p⟩;have R1:=Lib.hid (sto2_row HD.out.st.res1 p (.slice (some ⟨gu,0,none⟩) n cu));have R2:=sto2_other (g:=w.heap.size+2) (p:=p) (v:=.slice (some ⟨gu,0,none⟩) n cu) HD.out.st.res2 (by omega);have B1:=Lib.hid (sto2_below (p:=p) (v:=.slice (some ⟨gu,0,none⟩) n cu) HD.out.st.bel (show w.heap.size≤w.heap.size+2 by omega));clear HD;go_simp;refine hK _ _ (Sc.Cl.of L1) ?_;clear hK K c0 c1 f0 f1
  show Sd.wpSd _ _ _ _ _ _ (sto2 Wy (w.heap.size+2) p (.slice (some ⟨gu,0,none⟩) n cu))
  generalize sto2 Wy (w.heap.size+2) p (.slice (some ⟨gu,0,none⟩) n cu)=Wx at *;refine Sd.call (by rfl) (fun K hK=>?_);have d0:Wx.cell? ⟨w.heap.size+3,0,none⟩=some (.int .u8 0):=row_cell R2 0;have d1:Wx.cell? ⟨w.heap.size+3,1,none⟩=some (.int .u8 0):=row_cell R2 1;have d2:Wx.cell? ⟨w.heap.size+3,2,none⟩=some (.int .u8 0):=row_cell R2 2;have d3:Wx.cell? ⟨w.heap.size+3,3,none⟩=some (.int .u8 0):=row_cell R2 3;have k0:=row_frozen R2 0;have k1:=row_frozen R2 1;have k2:=row_frozen R2 2;have k3:=row_frozen R2 3;have L2:Last w p gF (.slice (some ⟨gu,0,none⟩) n cu) (l.set k y) (sto4 Wx (w.heap.size+3) 0 y):=⟨sto4_other L1.1 (by omega),sto4_off L1.2 n2 y⟩;have R3:=Lib.hid (sto4_row R2 y);have R4:=Lib.hid (sto4_other (g:=w.heap.size+3) (o:=0) (r:=y) R1.out (by omega));have B2:=Lib.hid (sto4_below (o:=0) (r:=y) B1.out (show w.heap.size≤w.heap.size+3 by omega));clear R2 R1 B1 L1;go_simp;refine hK _ _ (Sc.Cl.of L2) ?_;clear hK K d0 d1 d2 d3 k0 k1 k2 k3
  show Sd.wpSd _ _ _ _ _ _ (sto4 Wx (w.heap.size+3) 0 y)
  have O2:=Lib.hid L2.2;clear L2;generalize sto4 Wx (w.heap.size+3) 0 y=Ww at *
  repeat (refine Sd.lit ?_;quiet_step (fail);refine wpQuiet_nil ?_)
  refine Sd.done ?_;go_wp2
  (try simp only [Exit.inBlock,Exit.then])
  exact bodyPost_ret (results_do (p:=8) (q:=9) (r:=10) rfl _ _ (w.heap.size+2) (w.heap.size+3) p _ y 0 rfl rfl rfl R4.out R3.out) rfl (EY.out _ _ (O2.out.low (by omega)) B2.out)
 ·have EY:Hid (∀ u w',Ow K4 w' w.heap.size 26 u (l.set k x)→Below w.heap.size w w'→DoPost w p l 1 k x (.returned (.tuple #[file p u,rec4 x,.int .i64 0])) w'):=fun u w'=>E.out x u w' (by unfold newR;rw [if_pos rfl])
  have HP:=Lib.hid (HV.out.put HLL.out.2.1 k HLL.out.1 x);obtain ⟨⟨c0,c1,c2,c3⟩,hfr,_,_⟩:=own4 HV.out.own k HLL.out.1;have f0:=hfr (k * 4);have f1:=hfr (k * 4+1);have f2:=hfr (k * 4+2);have f3:=hfr (k * 4+3);have r1:wB.cell? ⟨gF,1,none⟩=some (.slice (some ⟨gu,0,none⟩) n cu):=row_cell HV.out.row 1;have a0:wB.cell? ⟨w.heap.size+1,0,none⟩=some (.int .u8 x.1):=row_cell HV.out.st.arg 0;have a1:wB.cell? ⟨w.heap.size+1,1,none⟩=some (.int .u8 x.2.1):=row_cell HV.out.st.arg 1;have a2:wB.cell? ⟨w.heap.size+1,2,none⟩=some (.int .u8 x.2.2.1):=row_cell HV.out.st.arg 2;have a3:wB.cell? ⟨w.heap.size+1,3,none⟩=some (.int .u8 x.2.2.2):=row_cell HV.out.st.arg 3;clear E hfr HV;go_wp2_with fail;clear c0 c1 c2 c3 f0 f1 f2 f3 r1 a0 a1 a2 a3
  show Code.wp _ _ _ _ (sto4 wB gu (k * 4) x)
  generalize sto4 wB gu (k * 4) x=Wz at *;have HV:=HP;clear HP;obtain ⟨⟨c0,c1,c2,c3⟩,_,_,_⟩:=own4 HV.out.own k (by rw [List.length_set];exact HLL.out.1);rw [rat_set l k HLL.out.1] at c0 c1 c2 c3;have C0:Last w p gF (.slice (some ⟨gu,0,none⟩) n cu) (l.set k x) Wz.drew:=⟨HV.out.row,HV.out.own⟩;have r0:=Sc.cell_in (C:=Last w p gF (.slice (some ⟨gu,0,none⟩) n cu) (l.set k x)) (a:=⟨gF,0,none⟩) (fun W' h=>row_cell h.1 0);have r1:=Sc.cell_in (C:=Last w p gF (.slice (some ⟨gu,0,none⟩) n cu) (l.set k x)) (a:=⟨gF,1,none⟩) (fun W' h=>row_cell h.1 1);have HQ:Hid (∀ W',Last w p gF (.slice (some ⟨gu,0,none⟩) n cu) (l.set k x) W'→(W'.cell? ⟨gu,k * 4,none⟩=some (.int .u8 x.1)∧W'.cell? ⟨gu,k * 4+1,none⟩=some (.int .u8 x.2.1)∧W'.cell? ⟨gu,k * 4+2,none⟩=some (.int .u8 x.2.2.1)∧W'.cell? ⟨gu,k * 4+3,none⟩=some (.int .u8 x.2.2.2))):=fun W' h=>by
   have:=(own4 h.2 k (by rw [List.length_set];exact HLL.out.1)).1;rw [rat_set l k HLL.out.1] at this;exact this
  have q0:=Sc.cell_in (C:=Last w p gF (.slice (some ⟨gu,0,none⟩) n cu) (l.set k x)) (fun W' h=>(HQ.out W' h).1);have q1:=Sc.cell_in (C:=Last w p gF (.slice (some ⟨gu,0,none⟩) n cu) (l.set k x)) (fun W' h=>(HQ.out W' h).2.1);have q2:=Sc.cell_in (C:=Last w p gF (.slice (some ⟨gu,0,none⟩) n cu) (l.set k x)) (fun W' h=>(HQ.out W' h).2.2.1);have q3:=Sc.cell_in (C:=Last w p gF (.slice (some ⟨gu,0,none⟩) n cu) (l.set k x)) (fun W' h=>(HQ.out W' h).2.2.2);have ne:Nonempty (Sc.In (Last w p gF (.slice (some ⟨gu,0,none⟩) n cu) (l.set k x))):=⟨⟨_,C0⟩⟩;clear c0 c1 c2 c3 HQ;refine Sc.start (Last w p gF (.slice (some ⟨gu,0,none⟩) n cu) (l.set k x)) [(false,0),(false,1),(false,2),(false,3),(false,4),(false,5),(true,6),(true,7),(false,8)] (by kernel_rfl) (by kernel_rfl) (by kernel_rfl) C0 ?_;dsimp only [Sd.picks,List.getElem?_cons_succ,List.getElem?_cons_zero]
  repeat (refine Sd.lit ?_;quiet_step (fail);refine wpQuiet_nil ?_)
  have HD:Hid (Have w p (.slice (some ⟨b,off,none⟩) n cap) x gF (.slice (some ⟨gu,0,none⟩) n cu) (l.set k x) Wz.drew):=HV.out.mono ((Below.refl _ _).drew);clear HV r0 r1 q0 q1 q2 q3 C0;generalize Wz.drew=Wy at *;refine Sd.call (by rfl) (fun K hK=>?_);have c0:Wy.cell? ⟨w.heap.size+2,0,none⟩=some (.int .i64 0):=row_cell HD.out.st.res1 0;have c1:Wy.cell? ⟨w.heap.size+2,1,none⟩=some (.slice none 0 0):=row_cell HD.out.st.res1 1;have f0:=row_frozen HD.out.st.res1 0;have f1:=row_frozen HD.out.st.res1 1;have hge:=(own4 HD.out.own k (by rw [List.length_set];exact HLL.out.1)).2.2.1;have hF:=HD.out.ge;have n1:(Value.slice (some ⟨gu,0,none⟩) n cu).ownBlock≠some (w.heap.size+2):=fun e=>by simp [Value.ownBlock] at e;omega
  have n2:(Value.slice (some ⟨gu,0,none⟩) n cu).ownBlock≠some (w.heap.size+3):=fun e=>by simp [Value.ownBlock] at e;omega
  have L1:Last w p gF (.slice (some ⟨gu,0,none⟩) n cu) (l.set k x) (sto2 Wy (w.heap.size+2) p (.slice (some ⟨gu,0,none⟩) n cu)):=⟨sto2_other HD.out.row (by omega),sto2_off HD.out.own n1 p⟩;have R1:=Lib.hid (sto2_row HD.out.st.res1 p (.slice (some ⟨gu,0,none⟩) n cu));have R2:=sto2_other (g:=w.heap.size+2) (p:=p) (v:=.slice (some ⟨gu,0,none⟩) n cu) HD.out.st.res2 (by omega);have B1:=Lib.hid (sto2_below (p:=p) (v:=.slice (some ⟨gu,0,none⟩) n cu) HD.out.st.bel (show w.heap.size≤w.heap.size+2 by omega));clear HD;go_simp;refine hK _ _ (Sc.Cl.of L1) ?_;clear hK K c0 c1 f0 f1
  show Sd.wpSd _ _ _ _ _ _ (sto2 Wy (w.heap.size+2) p (.slice (some ⟨gu,0,none⟩) n cu))
  generalize sto2 Wy (w.heap.size+2) p (.slice (some ⟨gu,0,none⟩) n cu)=Wx at *;refine Sd.call (by rfl) (fun K hK=>?_);have d0:Wx.cell? ⟨w.heap.size+3,0,none⟩=some (.int .u8 0):=row_cell R2 0;have d1:Wx.cell? ⟨w.heap.size+3,1,none⟩=some (.int .u8 0):=row_cell R2 1;have d2:Wx.cell? ⟨w.heap.size+3,2,none⟩=some (.int .u8 0):=row_cell R2 2;have d3:Wx.cell? ⟨w.heap.size+3,3,none⟩=some (.int .u8 0):=row_cell R2 3;have k0:=row_frozen R2 0;have k1:=row_frozen R2 1;have k2:=row_frozen R2 2;have k3:=row_frozen R2 3;have L2:Last w p gF (.slice (some ⟨gu,0,none⟩) n cu) (l.set k x) (sto4 Wx (w.heap.size+3) 0 x):=⟨sto4_other L1.1 (by omega),sto4_off L1.2 n2 x⟩;have R3:=Lib.hid (sto4_row R2 x);have R4:=Lib.hid (sto4_other (g:=w.heap.size+3) (o:=0) (r:=x) R1.out (by omega));have B2:=Lib.hid (sto4_below (o:=0) (r:=x) B1.out (show w.heap.size≤w.heap.size+3 by omega));clear R2 R1 B1 L1;go_simp;refine hK _ _ (Sc.Cl.of L2) ?_;clear hK K d0 d1 d2 d3 k0 k1 k2 k3
  show Sd.wpSd _ _ _ _ _ _ (sto4 Wx (w.heap.size+3) 0 x)
  have O2:=Lib.hid L2.2;clear L2;generalize sto4 Wx (w.heap.size+3) 0 x=Ww at *
  repeat (refine Sd.lit ?_;quiet_step (fail);refine wpQuiet_nil ?_)
  refine Sd.done ?_;go_wp2
  (try simp only [Exit.inBlock,Exit.then])
  exact bodyPost_ret (results_do (p:=8) (q:=9) (r:=10) rfl _ _ (w.heap.size+2) (w.heap.size+3) p _ x 0 rfl rfl rfl R4.out R3.out) rfl (EY.out _ _ (O2.out.low (by omega)) B2.out)
 ·have hy:=okR_at OK.out k
  have EY:Hid (∀ u w',Ow K4 w' w.heap.size 26 u (l.set k (inc (rat l k)))→Below w.heap.size w w'→DoPost w p l 2 k x (.returned (.tuple #[file p u,rec4 (inc (rat l k)),.int .i64 0])) w'):=fun u w'=>E.out _ u w' (by unfold newR;rw [if_neg (by decide),if_pos rfl,Int.toNat_natCast]);have INC:=Lib.hid (fun w=>one_any w (rat l k) hy);clear E hy;go_wp2_with fail;have C0:Read w p (.slice (some ⟨b,off,none⟩) n cap) gF (.slice (some ⟨gu,0,none⟩) n cu) wB.drew:=⟨(HV.out.mono (Below.refl wB.heap.size wB).drew).st.box,(HV.out.mono (Below.refl wB.heap.size wB).drew).row,(HV.out.mono (Below.refl wB.heap.size wB).drew).st.bel⟩;have r1:=Sc.cell_in (C:=Read w p (.slice (some ⟨b,off,none⟩) n cap) gF (.slice (some ⟨gu,0,none⟩) n cu)) (a:=⟨gF,1,none⟩) (fun W' h=>row_cell h.row 1);have r2:=Sc.cell_in (C:=Read w p (.slice (some ⟨b,off,none⟩) n cap) gF (.slice (some ⟨gu,0,none⟩) n cu)) (a:=⟨w.heap.size,1,none⟩) (fun W' h=>row_cell h.box 1);have HQ:=Lib.hid (fun (W':World) (h:Read w p (.slice (some ⟨b,off,none⟩) n cap) gF (.slice (some ⟨gu,0,none⟩) n cu) W')=>at4 (HA.out.below h.bel) k HLL.out.1);have q0:=Sc.cell_in (C:=Read w p (.slice (some ⟨b,off,none⟩) n cap) gF (.slice (some ⟨gu,0,none⟩) n cu)) (fun W' h=>(HQ.out W' h).1);have q1:=Sc.cell_in (C:=Read w p (.slice (some ⟨b,off,none⟩) n cap) gF (.slice (some ⟨gu,0,none⟩) n cu)) (fun W' h=>(HQ.out W' h).2.1);have q2:=Sc.cell_in (C:=Read w p (.slice (some ⟨b,off,none⟩) n cap) gF (.slice (some ⟨gu,0,none⟩) n cu)) (fun W' h=>(HQ.out W' h).2.2.1);have q3:=Sc.cell_in (C:=Read w p (.slice (some ⟨b,off,none⟩) n cap) gF (.slice (some ⟨gu,0,none⟩) n cu)) (fun W' h=>(HQ.out W' h).2.2.2);have ne:Nonempty (Sc.In (Read w p (.slice (some ⟨b,off,none⟩) n cap) gF (.slice (some ⟨gu,0,none⟩) n cu))):=⟨⟨_,C0⟩⟩;clear HQ;refine Sc.start (Read w p (.slice (some ⟨b,off,none⟩) n cap) gF (.slice (some ⟨gu,0,none⟩) n cu)) [(false,0),(false,1),(false,2),(false,3),(false,4),(false,5),(false,6),(false,7),(true,8),(false,9),(true,10)] (by kernel_rfl) (by kernel_rfl) (by kernel_rfl) C0 ?_;dsimp only [Sd.picks,List.getElem?_cons_succ,List.getElem?_cons_zero]
  repeat (refine Sd.lit ?_;quiet_step (fail);refine wpQuiet_nil ?_)
  refine Sd.call (by rfl) (fun K hK=>?_);have IC:=INC.out;unfold rec4 at IC;go_simp;refine (IC _).mono ?_;rintro e w3 ⟨rfl,b3⟩;have HB:Hid (Have w p (.slice (some ⟨b,off,none⟩) n cap) x gF (.slice (some ⟨gu,0,none⟩) n cu) l w3):=HV.out.mono (Below.trans ((Below.refl wB.heap.size wB).drew) b3);refine hK _ _ (Sc.Cl.of ⟨HB.out.st.box,HB.out.row,HB.out.st.bel⟩) ?_;clear hK K b3 HV IC INC C0;generalize inc (rat l k)=y at *
  repeat (refine Sd.lit ?_;quiet_step (fail);refine wpQuiet_nil ?_)
  clear r1 r2 q0 q1 q2 q3;refine Sd.call (by rfl) (fun K hK=>?_);have HP:=Lib.hid (HB.out.put HLL.out.2.1 k HLL.out.1 y);obtain ⟨⟨c0,c1,c2,c3⟩,hfr,_,_⟩:=own4 HB.out.own k HLL.out.1;have f0:=hfr (k * 4);have f1:=hfr (k * 4+1);have f2:=hfr (k * 4+2);have f3:=hfr (k * 4+3);clear hfr HB;go_simp;refine hK _ _ (Sc.Cl.of ⟨HP.out.st.box,HP.out.row,HP.out.st.bel⟩) ?_;clear hK K c0 c1 c2 c3 f0 f1 f2 f3 ne
  show Sd.wpSd _ _ _ _ _ _ (sto4 w3 gu (k * 4) y)
  generalize sto4 w3 gu (k * 4) y=Wz at *;have HV:=HP;clear HP;refine Sd.done ?_;go_wp2_with fail;obtain ⟨⟨c0,c1,c2,c3⟩,_,_,_⟩:=own4 HV.out.own k (by rw [List.length_set];exact HLL.out.1);rw [rat_set l k HLL.out.1] at c0 c1 c2 c3;have C0:Last w p gF (.slice (some ⟨gu,0,none⟩) n cu) (l.set k y) Wz.drew:=⟨HV.out.row,HV.out.own⟩;have r0:=Sc.cell_in (C:=Last w p gF (.slice (some ⟨gu,0,none⟩) n cu) (l.set k y)) (a:=⟨gF,0,none⟩) (fun W' h=>row_cell h.1 0);have r1:=Sc.cell_in (C:=Last w p gF (.slice (some ⟨gu,0,none⟩) n cu) (l.set k y)) (a:=⟨gF,1,none⟩) (fun W' h=>row_cell h.1 1);have HQ:Hid (∀ W',Last w p gF (.slice (some ⟨gu,0,none⟩) n cu) (l.set k y) W'→(W'.cell? ⟨gu,k * 4,none⟩=some (.int .u8 y.1)∧W'.cell? ⟨gu,k * 4+1,none⟩=some (.int .u8 y.2.1)∧W'.cell? ⟨gu,k * 4+2,none⟩=some (.int .u8 y.2.2.1)∧W'.cell? ⟨gu,k * 4+3,none⟩=some (.int .u8 y.2.2.2))):=fun W' h=>by
   have:=(own4 h.2 k (by rw [List.length_set];exact HLL.out.1)).1;rw [rat_set l k HLL.out.1] at this;exact this
  have q0:=Sc.cell_in (C:=Last w p gF (.slice (some ⟨gu,0,none⟩) n cu) (l.set k y)) (fun W' h=>(HQ.out W' h).1);have q1:=Sc.cell_in (C:=Last w p gF (.slice (some ⟨gu,0,none⟩) n cu) (l.set k y)) (fun W' h=>(HQ.out W' h).2.1);have q2:=Sc.cell_in (C:=Last w p gF (.slice (some ⟨gu,0,none⟩) n cu) (l.set k y)) (fun W' h=>(HQ.out W' h).2.2.1);have q3:=Sc.cell_in (C:=Last w p gF (.slice (some ⟨gu,0,none⟩) n cu) (l.set k y)) (fun W' h=>(HQ.out W' h).2.2.2);have ne:Nonempty (Sc.In (Last w p gF (.slice (some ⟨gu,0,none⟩) n cu) (l.set k y))):=⟨⟨_,C0⟩⟩;clear c0 c1 c2 c3 HQ;refine Sc.start (Last w p gF (.slice (some ⟨gu,0,none⟩) n cu) (l.set k y)) [(false,0),(false,1),(false,2),(false,3),(false,4),(false,5),(true,6),(true,7),(false,8)] (by kernel_rfl) (by kernel_rfl) (by kernel_rfl) C0 ?_;dsimp only [Sd.picks,List.getElem?_cons_succ,List.getElem?_cons_zero]
  repeat (refine Sd.lit ?_;quiet_step (fail);refine wpQuiet_nil ?_)
  have HD:Hid (Have w p (.slice (some ⟨b,off,none⟩) n cap) x gF (.slice (some ⟨gu,0,none⟩) n cu) (l.set k y) Wz.drew):=HV.out.mono ((Below.refl _ _).drew);clear HV r0 r1 q0 q1 q2 q3 C0;generalize Wz.drew=Wy at *;refine Sd.call (by rfl) (fun K hK=>?_);have c0:Wy.cell? ⟨w.heap.size+2,0,none⟩=some (.int .i64 0):=row_cell HD.out.st.res1 0;have c1:Wy.cell? ⟨w.heap.size+2,1,none⟩=some (.slice none 0 0):=row_cell HD.out.st.res1 1;have f0:=row_frozen HD.out.st.res1 0;have f1:=row_frozen HD.out.st.res1 1;have hge:=(own4 HD.out.own k (by rw [List.length_set];exact HLL.out.1)).2.2.1;have hF:=HD.out.ge;have n1:(Value.slice (some ⟨gu,0,none⟩) n cu).ownBlock≠some (w.heap.size+2):=fun e=>by simp [Value.ownBlock] at e;omega
  have n2:(Value.slice (some ⟨gu,0,none⟩) n cu).ownBlock≠some (w.heap.size+3):=fun e=>by simp [Value.ownBlock] at e;omega
  have L1:Last w p gF (.slice (some ⟨gu,0,none⟩) n cu) (l.set k y) (sto2 Wy (w.heap.size+2) p (.slice (some ⟨gu,0,none⟩) n cu)):=⟨sto2_other HD.out.row (by omega),sto2_off HD.out.own n1 p⟩;have R1:=Lib.hid (sto2_row HD.out.st.res1 p (.slice (some ⟨gu,0,none⟩) n cu));have R2:=sto2_other (g:=w.heap.size+2) (p:=p) (v:=.slice (some ⟨gu,0,none⟩) n cu) HD.out.st.res2 (by omega);have B1:=Lib.hid (sto2_below (p:=p) (v:=.slice (some ⟨gu,0,none⟩) n cu) HD.out.st.bel (show w.heap.size≤w.heap.size+2 by omega));clear HD;go_simp;refine hK _ _ (Sc.Cl.of L1) ?_;clear hK K c0 c1 f0 f1
  show Sd.wpSd _ _ _ _ _ _ (sto2 Wy (w.heap.size+2) p (.slice (some ⟨gu,0,none⟩) n cu))
  generalize sto2 Wy (w.heap.size+2) p (.slice (some ⟨gu,0,none⟩) n cu)=Wx at *;refine Sd.call (by rfl) (fun K hK=>?_);have d0:Wx.cell? ⟨w.heap.size+3,0,none⟩=some (.int .u8 0):=row_cell R2 0;have d1:Wx.cell? ⟨w.heap.size+3,1,none⟩=some (.int .u8 0):=row_cell R2 1;have d2:Wx.cell? ⟨w.heap.size+3,2,none⟩=some (.int .u8 0):=row_cell R2 2;have d3:Wx.cell? ⟨w.heap.size+3,3,none⟩=some (.int .u8 0):=row_cell R2 3;have k0:=row_frozen R2 0;have k1:=row_frozen R2 1;have k2:=row_frozen R2 2;have k3:=row_frozen R2 3;have L2:Last w p gF (.slice (some ⟨gu,0,none⟩) n cu) (l.set k y) (sto4 Wx (w.heap.size+3) 0 y):=⟨sto4_other L1.1 (by omega),sto4_off L1.2 n2 y⟩;have R3:=Lib.hid (sto4_row R2 y);have R4:=Lib.hid (sto4_other (g:=w.heap.size+3) (o:=0) (r:=y) R1.out (by omega));have B2:=Lib.hid (sto4_below (o:=0) (r:=y) B1.out (show w.heap.size≤w.heap.size+3 by omega));clear R2 R1 B1 L1;go_simp;refine hK _ _ (Sc.Cl.of L2) ?_;clear hK K d0 d1 d2 d3 k0 k1 k2 k3
  show Sd.wpSd _ _ _ _ _ _ (sto4 Wx (w.heap.size+3) 0 y)
  have O2:=Lib.hid L2.2;clear L2;generalize sto4 Wx (w.heap.size+3) 0 y=Ww at *
  repeat (refine Sd.lit ?_;quiet_step (fail);refine wpQuiet_nil ?_)
  refine Sd.done ?_;go_wp2
  (try simp only [Exit.inBlock,Exit.then])
  exact bodyPost_ret (results_do (p:=8) (q:=9) (r:=10) rfl _ _ (w.heap.size+2) (w.heap.size+3) p _ y 0 rfl rfl rfl R4.out R3.out) rfl (EY.out _ _ (O2.out.low (by omega)) B2.out)
theorem do_any (w:World) (p:Int) (v:Value) (l:List R4) (R:Rd K4 w v l) (hl:okL l) (op rec:Int) (x:R4):Calls Tryz.prog 81 #[file p v,.int .i64 op,.int .i64 rec,rec4 x] w (DoPost w p l op rec x):=by
 obtain ⟨a,cap,rfl,_⟩:=R.slice
 by_cases he:doE p l op rec=0
 ·obtain ⟨hg,ho,hr⟩:=doE_of he
  obtain ⟨k,rfl⟩:∃ k:Nat,rec=k:=⟨rec.toNat,by omega⟩;exact do_yes w p a _ cap l R hl op k x he ho (by omega) hg.2.2.2.1
 ·exact do_no w p a _ cap l R op rec x he
end Go.Proofs.YtelgnhmcnfibnaaGreatDoor.Fl
namespace Go.Proofs.YtelgnhmcnfibnaaGreatDoor.Ad
open Go.RowKit
def good (o f r:Int):Prop:=0≤o∧o≤2∧0≤f∧f≤63∧0≤r∧r≤255
instance (o f r:Int):Decidable (good o f r):=by unfold good;infer_instance
def goodB (o f r:Int):Bool:=decide (good o f r)
def addr (o f r:Int):Value:=.agg #[.int .i64 o,.int .i64 f,.int .i64 r]
def pair (a b:Int):Value:=.agg #[.int .u8 a,.int .u8 b]
theorem ret_bool {a b:Bool} (h:a=b):Ending.returned (.bool a) = .returned (.bool b):=by rw [h]
def PutPost (w:World) (o f r:Int) (e:Ending) (w':World):Prop:=(good o f r∧e = .returned (.tuple #[pair (64 * o+f) r,.int .i64 0])∨¬ good o f r∧e = .returned (.tuple #[pair 0 0,.int .i64 1]))∧Below w.heap.size w w'
def TakePost (w:World) (a b:Int) (e:Ending) (w':World):Prop:=(a < 192∧e = .returned (.tuple #[addr (a / 64) (a % 64) b,.int .i64 0])∨192≤a∧e = .returned (.tuple #[addr 0 0 0,.int .i64 2]))∧Below w.heap.size w w'
set_option maxHeartbeats 400000 in
theorem rgood_any (w:World) (o f r:Int):Calls Tryz.prog 22 #[addr o f r] w fun e w'=>e = .returned (.bool (goodB o f r))∧Below w.heap.size w w':=by
 have B0:=Lib.hid ((Below.refl w.heap.size w).alloc (Nat.le_refl _) (.cells #[.int .i64 o,.int .i64 f,.int .i64 r] 24));unfold addr
 by_cases h1:0≤o
 ·by_cases h2:o≤2
  ·by_cases h3:0≤f
   ·by_cases h4:f≤63
    ·by_cases h5:0≤r
     ·by_cases h6:r≤255
      ·go_enter Tryz.func22,Tryz.ntmps22
       go_wp2
       go_ret
       exact ⟨ret_bool (by first | exact (decide_eq_true (show good o f r from ⟨by omega,by omega,by omega,by omega,by omega,by omega⟩)).symm | exact (decide_eq_false (show ¬ good o f r from fun g=>by obtain ⟨_,_,_,_,_,_⟩:=g;omega)).symm),B0.out⟩
      ·go_enter Tryz.func22,Tryz.ntmps22
       go_wp2
       go_ret
       exact ⟨ret_bool (by first | exact (decide_eq_true (show good o f r from ⟨by omega,by omega,by omega,by omega,by omega,by omega⟩)).symm | exact (decide_eq_false (show ¬ good o f r from fun g=>by obtain ⟨_,_,_,_,_,_⟩:=g;omega)).symm),B0.out⟩
     ·go_enter Tryz.func22,Tryz.ntmps22
      go_wp2
      go_ret
      exact ⟨ret_bool (by first | exact (decide_eq_true (show good o f r from ⟨by omega,by omega,by omega,by omega,by omega,by omega⟩)).symm | exact (decide_eq_false (show ¬ good o f r from fun g=>by obtain ⟨_,_,_,_,_,_⟩:=g;omega)).symm),B0.out⟩
    ·go_enter Tryz.func22,Tryz.ntmps22
     go_wp2
     go_ret
     exact ⟨ret_bool (by first | exact (decide_eq_true (show good o f r from ⟨by omega,by omega,by omega,by omega,by omega,by omega⟩)).symm | exact (decide_eq_false (show ¬ good o f r from fun g=>by obtain ⟨_,_,_,_,_,_⟩:=g;omega)).symm),B0.out⟩
   ·go_enter Tryz.func22,Tryz.ntmps22
    go_wp2
    go_ret
    exact ⟨ret_bool (by first | exact (decide_eq_true (show good o f r from ⟨by omega,by omega,by omega,by omega,by omega,by omega⟩)).symm | exact (decide_eq_false (show ¬ good o f r from fun g=>by obtain ⟨_,_,_,_,_,_⟩:=g;omega)).symm),B0.out⟩
  ·go_enter Tryz.func22,Tryz.ntmps22
   go_wp2
   go_ret
   exact ⟨ret_bool (by first | exact (decide_eq_true (show good o f r from ⟨by omega,by omega,by omega,by omega,by omega,by omega⟩)).symm | exact (decide_eq_false (show ¬ good o f r from fun g=>by obtain ⟨_,_,_,_,_,_⟩:=g;omega)).symm),B0.out⟩
 ·go_enter Tryz.func22,Tryz.ntmps22
  go_wp2
  go_ret
  exact ⟨ret_bool (by first | exact (decide_eq_true (show good o f r from ⟨by omega,by omega,by omega,by omega,by omega,by omega⟩)).symm | exact (decide_eq_false (show ¬ good o f r from fun g=>by obtain ⟨_,_,_,_,_,_⟩:=g;omega)).symm),B0.out⟩
theorem at_bool {P:Program} {f:Nat} {args:Array Value} {w:World} {B:Nat} {a b:Bool} (e:a=b) (c:Calls P f args w fun e w'=>e = .returned (.bool a)∧Below B w w'):Calls P f args w fun e w'=>e = .returned (.bool b)∧Below B w w':=by rw [← e];exact c
set_option maxHeartbeats 400000 in
theorem rput_any (w:World) (o f r:Int):Calls Tryz.prog 23 #[addr o f r] w (PutPost w o f r):=by
 have B0:=Lib.hid (((Below.refl w.heap.size w).alloc (Nat.le_refl _) (.cells #[.int .i64 o,.int .i64 f,.int .i64 r] 24)).alloc (by simp) (.cells #[.int .u8 0,.int .u8 0] 57))
 by_cases hg:good o f r
 ·have GA:=Lib.hid (at_bool (show goodB o f r=true from decide_eq_true hg) (rgood_any ((w.alloc (.cells #[.int .i64 o,.int .i64 f,.int .i64 r] 24)).alloc (.cells #[.int .u8 0,.int .u8 0] 57)) o f r))
  have HG:=Lib.hid hg;obtain ⟨g1,g2,g3,g4,g5,g6⟩:=hg;unfold addr at *
  go_enter Tryz.func23,Tryz.ntmps23
  go_wp2_with fail;refine GA.out.mono ?_;rintro e w1 ⟨rfl,b1⟩;have B1:=Lib.hid (B0.out.trans (b1.mono B0.out.size));have c0:w1.cell? ⟨w.heap.size,0,none⟩=some (.int .i64 o):=(b1.cell (by simp;omega)).trans (by go_simp);have c1:w1.cell? ⟨w.heap.size,1,none⟩=some (.int .i64 f):=(b1.cell (by simp;omega)).trans (by go_simp);have c2:w1.cell? ⟨w.heap.size,2,none⟩=some (.int .i64 r):=(b1.cell (by simp;omega)).trans (by go_simp);have k0:w1.cell? ⟨w.heap.size+1,0,none⟩=some (.int .u8 0):=(b1.cell (by simp)).trans (by go_simp);have k1:w1.cell? ⟨w.heap.size+1,1,none⟩=some (.int .u8 0):=(b1.cell (by simp)).trans (by go_simp);have m0:w1.frozen? ⟨w.heap.size+1,0,none⟩=false:=(b1.frozen (by simp)).trans (by go_simp);have m1:w1.frozen? ⟨w.heap.size+1,1,none⟩=false:=(b1.frozen (by simp)).trans (by go_simp);clear b1 GA B0;go_wp2
  (try simp only [Exit.inBlock,Exit.then])
  refine bodyPost_ret (v:=.tuple #[pair (64 * o+f) r,.int .i64 0]) ?_ rfl ⟨.inl ⟨HG.out,rfl⟩,?_⟩
  ·rw [results_cell_tmp rfl];go_simp;rfl
  ·exact (B1.out.setCell (by simp) _).setCell (by simp) _
 ·have GA:=Lib.hid (at_bool (show goodB o f r=false from decide_eq_false hg) (rgood_any ((w.alloc (.cells #[.int .i64 o,.int .i64 f,.int .i64 r] 24)).alloc (.cells #[.int .u8 0,.int .u8 0] 57)) o f r))
  have HG:=Lib.hid hg;clear hg;unfold addr at *
  go_enter Tryz.func23,Tryz.ntmps23
  go_wp2_with fail;refine GA.out.mono ?_;rintro e w1 ⟨rfl,b1⟩;have B1:=Lib.hid (B0.out.trans (b1.mono B0.out.size));have k0:w1.cell? ⟨w.heap.size+1,0,none⟩=some (.int .u8 0):=(b1.cell (by simp)).trans (by go_simp);have k1:w1.cell? ⟨w.heap.size+1,1,none⟩=some (.int .u8 0):=(b1.cell (by simp)).trans (by go_simp);have m0:w1.frozen? ⟨w.heap.size+1,0,none⟩=false:=(b1.frozen (by simp)).trans (by go_simp);have m1:w1.frozen? ⟨w.heap.size+1,1,none⟩=false:=(b1.frozen (by simp)).trans (by go_simp);clear b1 GA B0;go_wp2
  (try simp only [Exit.inBlock,Exit.then])
  refine bodyPost_ret (v:=.tuple #[pair 0 0,.int .i64 1]) ?_ rfl ⟨.inr ⟨HG.out,rfl⟩,?_⟩
  ·rw [results_cell_tmp rfl];go_simp;rfl
  ·exact (B1.out.setCell (by simp) _).setCell (by simp) _
set_option maxHeartbeats 400000 in
theorem rtake_any (w:World) (a b:Int) (a0:0≤a) (a1:a≤255) (b0:0≤b) (b1:b≤255):Calls Tryz.prog 29 #[pair a b] w (TakePost w a b):=by
 have B0:=Lib.hid (((Below.refl w.heap.size w).alloc (Nat.le_refl _) (.cells #[.int .u8 a,.int .u8 b] 57)).alloc (by simp) (.cells #[.int .i64 0,.int .i64 0,.int .i64 0] 24));unfold pair
 by_cases h:192≤a
 ·go_enter Tryz.func29,Tryz.ntmps29
  go_wp2
  (try simp only [Exit.inBlock,Exit.then])
  refine bodyPost_ret (v:=.tuple #[addr 0 0 0,.int .i64 2]) ?_ rfl ⟨.inr ⟨h,rfl⟩,?_⟩
  ·rw [results_cell_tmp rfl];go_simp;rfl
  ·first | exact B0.out | exact ((Below.refl w.heap.size w).alloc (Nat.le_refl _) _).alloc (by simp) _
 ·have q1:a.tdiv 64=a / 64:=Int.tdiv_eq_ediv_of_nonneg a0
  have q2:a.tmod 64=a % 64:=Int.tmod_eq_emod_of_nonneg a0
  go_enter Tryz.func29,Tryz.ntmps29
  go_wp2
  (try simp only [Exit.inBlock,Exit.then])
  refine bodyPost_ret (v:=.tuple #[addr (a / 64) (a % 64) b,.int .i64 0]) ?_ rfl ⟨.inl ⟨by omega,rfl⟩,?_⟩
  ·rw [results_cell_tmp rfl];go_simp;rfl
  ·first | exact B0.out | exact ((Below.refl w.heap.size w).alloc (Nat.le_refl _) _).alloc (by simp) _
end Go.Proofs.YtelgnhmcnfibnaaGreatDoor.Ad
namespace Go.Proofs.YtelgnhmcnfibnaaGreatDoor.Fs
open Go.RowKit
open Fl (R4 z4 K4 rec4 rat goodF goodFB okR okL doE newR okR_at okR_z set_rat inc num bytes file hdr)
open Ad (goodB)
section
variable {α:Type} (κ:α→Int)
def ins (c:α):List α→List α
 | []=>[c]
 | y :: r=>if κ c < κ y then c :: y :: r else y :: ins c r
def put (c:α) (l:List α):List α:=ins κ c (l.filter fun y=>decide (¬ κ y=κ c))
def look (n:Int) (l:List α):Option α:=l.find? fun y=>decide (κ y=n)
def Srt (l:List α):Prop:=l.Pairwise fun y z=>κ y < κ z
variable {κ}
theorem mem_ins {c x:α} : ∀ {l:List α},x∈ins κ c l↔x=c∨x∈l
 | []=>by simp [ins]
 | y :: r=>by
   unfold ins
   split
   ·simp
   ·simp only [List.mem_cons,mem_ins (l:=r)]
    constructor
    ·rintro (h | h | h)
     ·exact .inr (.inl h)
     ·exact .inl h
     ·exact .inr (.inr h)
    ·rintro (h | h | h)
     ·exact .inr (.inl h)
     ·exact .inl h
     ·exact .inr (.inr h)
theorem mem_put {c x:α} {l:List α} : x∈put κ c l↔x=c∨x∈l∧κ x≠κ c:=by
 unfold put;rw [mem_ins,List.mem_filter]
 simp
theorem srt_ins {c:α} : ∀ {l:List α},Srt κ l→(∀ x∈l,κ x≠κ c)→Srt κ (ins κ c l)
 | [],_,_=>by simp [ins,Srt]
 | y :: r,h,hn=>by
   obtain ⟨h1,h2⟩:=List.pairwise_cons.1 h;unfold ins
   split
   ·rename_i hlt
    refine List.pairwise_cons.2 ⟨fun z hz=>?_,h⟩
    rcases List.mem_cons.1 hz with rfl | hz
    ·exact hlt
    ·exact Int.lt_trans hlt (h1 z hz)
   ·rename_i hlt
    have hy:=hn y List.mem_cons_self;refine List.pairwise_cons.2 ⟨fun z hz=>?_,srt_ins h2 fun x hx=>hn x (List.mem_cons_of_mem _ hx)⟩
    rcases mem_ins.1 hz with rfl | hz
    ·omega
    ·exact h1 z hz
theorem srt_put {c:α} {l:List α} (h:Srt κ l):Srt κ (put κ c l):=by
 unfold put;exact srt_ins (h.filter _) fun x hx=>by simpa using (List.mem_filter.1 hx).2
theorem look_none {n:Int} {l:List α} : look κ n l=none↔∀ x∈l,κ x≠n:=by
 unfold look;rw [List.find?_eq_none]
 simp
theorem look_some {n:Int} {l:List α} {c:α} (h:look κ n l=some c):c∈l∧κ c=n:=by
 unfold look at h;exact ⟨List.mem_of_find?_eq_some h,by simpa using List.find?_some h⟩
theorem look_at {l:List α} {c:α} (h:Srt κ l) (hc:c∈l):look κ (κ c) l=some c:=by
 induction l with
 | nil=>cases hc
 | cons y r ih =>
   obtain ⟨h1,h2⟩:=List.pairwise_cons.1 h;unfold look;rw [List.find?_cons]
   rcases List.mem_cons.1 hc with rfl | hc'
   ·simp
   ·have:=h1 c hc'
    rw [decide_eq_false (by omega)];exact ih h2 hc'
theorem put_new {c:α} {l:List α} (h:look κ (κ c) l=none):put κ c l=ins κ c l:=by
 unfold put;rw [List.filter_eq_self.2]
 intro x hx
 simpa using look_none.1 h x hx
theorem ins_at {c:α} : ∀ {l:List α} {k:Nat},(∀ x∈l.take k,κ x < κ c)→(∀ x,l[k]? = some x→κ c < κ x)→ins κ c l=l.take k ++ c :: l.drop k
 | [],k,_,_=>by simp [ins]
 | y :: r,0,_,h2=>by
   have:=h2 y rfl
   simp [ins,this]
 | y :: r,k+1,h1,h2=>by
   have hy:κ y < κ c:=h1 y (by simp);unfold ins;rw [if_neg (by omega),ins_at (l:=r) (k:=k) (fun x hx=>h1 x (by simp [hx])) (fun x hx=>h2 x (by simpa using hx))]
   rfl
theorem filter_other {c:α} : ∀ {r:List α},(∀ x∈r,κ c < κ x)→r.filter (fun y=>decide (¬ κ y=κ c))=r:=fun {r} h=>List.filter_eq_self.2 fun x hx=>by have:=h x hx;simpa using (by omega:¬ κ x=κ c)
theorem put_set {c:α} : ∀ {l:List α} {k:Nat} {x:α},Srt κ l→l[k]? = some x→κ x=κ c→put κ c l=l.set k c
 | y :: r,0,x,h,hx,e=>by
   obtain rfl:y=x:=by simpa using hx
   obtain ⟨h1,h2⟩:=List.pairwise_cons.1 h;have hf:=filter_other (c:=c) (κ:=κ) (r:=r) fun z hz=>by have:=h1 z hz;omega
   unfold put;rw [List.filter_cons,if_neg (by simp [e]),hf]
   cases r with
   | nil=>rfl
   | cons z s =>
     have:=h1 z List.mem_cons_self;unfold ins;rw [if_pos (by omega)]
     rfl
 | y :: r,k+1,x,h,hx,e=>by
   obtain ⟨h1,h2⟩:=List.pairwise_cons.1 h;have hx':r[k]? = some x:=by simpa using hx
   have hlt:=h1 x (List.mem_of_getElem? hx');have ih:=put_set (c:=c) h2 hx' e;unfold put at ih ⊢;rw [List.filter_cons,if_pos (by simp;omega)];unfold ins;rw [if_neg (by omega),ih]
   rfl
variable {β:Type} {κ':β→Int} {f:α→β}
theorem map_ins (hf:∀ x,κ' (f x)=κ x) (c:α):∀ l:List α,(ins κ c l).map f=ins κ' (f c) (l.map f)
 | []=>rfl
 | y :: r=>by
   simp only [ins,List.map_cons,hf]
   split
   ·rfl
   ·rw [List.map_cons,map_ins hf c r]
theorem map_put (hf:∀ x,κ' (f x)=κ x) (c:α) (l:List α):(put κ c l).map f=put κ' (f c) (l.map f):=by
 unfold put;rw [map_ins hf,List.filter_map]
 congr 2
 exact congrArg (fun q=>List.filter q l) (funext fun x=>by simp [hf])
theorem map_look (hf:∀ x,κ' (f x)=κ x) (n:Int) (l:List α):look κ' n (l.map f)=(look κ n l).map f:=by
 unfold look;rw [List.find?_map]
 congr 1
 exact congrArg (fun q=>List.find? q l) (funext fun x=>by simp [hf])
theorem map_srt (hf:∀ x,κ' (f x)=κ x) {l:List α} : Srt κ' (l.map f)↔Srt κ l:=by
 unfold Srt;rw [List.pairwise_map]
 simp [hf]
theorem len_le:∀ {l:List α} {lo hi:Int},Srt κ l→(∀ x∈l,lo≤κ x∧κ x < hi)→lo≤hi→(l.length:Int)≤hi - lo
 | [],lo,hi,_,_,h=>by simp;omega
 | y :: r,lo,hi,h,hb,hle=>by
   obtain ⟨h1,h2⟩:=List.pairwise_cons.1 h;have hy:=hb y List.mem_cons_self;have:=len_le (l:=r) (lo:=κ y+1) (hi:=hi) h2 (fun x hx=>⟨h1 x hx,(hb x (List.mem_cons_of_mem _ hx)).2⟩) (by omega);simp only [List.length_cons]
   omega
end
abbrev Fil:=Int×Int×List R4
abbrev Abs:=List Fil
abbrev key (e:Fil):Int:=e.1
def addE (A:Abs) (n p:Int) (l:List R4):Int:=if 0≤n∧n≤63 then if goodF p l then if (look key n A).isSome then 10 else 0 else 2 else 1
def addA (A:Abs) (n p:Int) (l:List R4):Abs:=if addE A n p l=0 then put key (n,p,l) A else A
def dE (A:Abs) (o f r:Int):Int:=if goodB o f r=true then match look key f A with | none=>3 | some e=>doE e.2.1 e.2.2 o r else 1
def dV (A:Abs) (o f r:Int) (x:R4):R4:=match look key f A with | none=>z4 | some e=>if dE A o f r=0 then newR e.2.2 o r x else z4
def dA (A:Abs) (o f r:Int) (x:R4):Abs:=match look key f A with | none=>A | some e=>if dE A o f r=0 then put key (f,e.2.1,e.2.2.set r.toNat (newR e.2.2 o r x)) A else A
def dD (A:Abs) (o f r d:Int):Int:=if dE A o f r=5 then d+1 else d
def gB (A:Abs) (n r:Int):Bool:=match look key n A with | none=>false | some e=>decide (0≤r∧r < e.2.2.length)
def gV (A:Abs) (n r:Int):R4:=match look key n A with | none=>z4 | some e=>if 0≤r∧r < e.2.2.length then rat e.2.2 r.toNat else z4
def sB (A:Abs) (n r:Int):Bool:=gB A n r && decide (r≠0)
def sA (A:Abs) (n r:Int) (x:R4):Abs:=match look key n A with | none=>A | some e=>if sB A n r=true then put key (n,e.2.1,e.2.2.set r.toNat x) A else A
structure OkA (A:Abs):Prop where
 srt:Srt key A
 nm:∀ e∈A,0≤e.1∧e.1≤63
 good:∀ e∈A,goodF e.2.1 e.2.2
 ok:∀ e∈A,okL e.2.2
theorem OkA.nil:OkA []:=⟨List.Pairwise.nil,nofun,nofun,nofun⟩
theorem OkA.len {A:Abs} (h:OkA A):A.length≤64:=by
 have:=len_le (κ:=key) (lo:=0) (hi:=64) h.srt (fun x hx=>by have:=h.nm x hx;show 0≤x.1∧x.1 < 64;omega) (by omega)
 omega
theorem OkA.put {A:Abs} (h:OkA A) {n p:Int} {l:List R4} (hn:0≤n∧n≤63) (hg:goodF p l) (hl:okL l):OkA (put key (n,p,l) A):=by
 refine ⟨srt_put h.srt,fun e he=>?_,fun e he=>?_,fun e he=>?_⟩ <;> rcases mem_put.1 he with rfl | ⟨hm,_⟩
 ·exact hn
 ·exact h.nm e hm
 ·exact hg
 ·exact h.good e hm
 ·exact hl
 ·exact h.ok e hm
theorem good_set {p:Int} {l:List R4} {k:Nat} {x:R4} (h:goodF p l) (hk:k≠0):goodF p (l.set k x):=by
 obtain ⟨h1,h2,h3,h4,h5⟩:=h;refine ⟨h1,h2,by rw [List.length_set];exact h3,by rw [List.length_set];exact h4,?_⟩;rw [List.length_set,← h5];unfold rat;rw [List.getD_eq_getElem?_getD,List.getD_eq_getElem?_getD,List.getElem?_set_ne (by omega)]
theorem okL_set {l:List R4} {k:Nat} {x:R4} (h:okL l) (hx:okR x):okL (l.set k x):=fun r hr=>by
 rcases List.mem_or_eq_of_mem_set hr with h1 | rfl
 ·exact h r h1
 ·exact hx
theorem okR_inc (r:R4):okR (inc r):=by
 unfold inc Fl.bytes okR;generalize num r=q;refine ⟨⟨?_,?_⟩,⟨?_,?_⟩,⟨?_,?_⟩,?_,?_⟩ <;> simp only <;> omega
theorem okR_new {l:List R4} {o r:Int} {x:R4} (h:okL l) (hx:okR x):okR (newR l o r x):=by
 unfold newR
 split
 ·exact hx
 ·split
  ·exact okR_inc _
  ·exact okR_at h _
theorem good_do {p:Int} {l:List R4} {o r:Int} {x:R4} (h:doE p l o r=0):goodF p (l.set r.toNat (newR l o r x)):=by
 obtain ⟨hg,ho,h0,h1⟩:=Fl.doE_of h
 by_cases hr:r=0
 ·subst hr
  have e:o=0:=by
   unfold doE at h;rw [if_pos hg,if_pos ho,if_pos ⟨h0,h1⟩] at h
   split at h
   ·omega
   ·omega
  subst e
  show goodF p (l.set 0 (newR l 0 0 x))
  have e2:newR l 0 0 x=rat l 0:=by unfold newR;rw [if_neg (by decide),if_neg (by decide)];rfl
  rw [e2,set_rat l 0 (by omega)];exact hg
 ·exact good_set hg (by omega)
theorem OkA.find {A:Abs} (h:OkA A) {n:Int} {e:Fil} (he:look key n A=some e):(0≤n∧n≤63)∧goodF e.2.1 e.2.2∧okL e.2.2∧e.1=n:=by
 obtain ⟨hm,hk⟩:=look_some he;have hk':e.1=n:=hk;exact ⟨hk' ▸ h.nm e hm,h.good e hm,h.ok e hm,hk'⟩
theorem OkA.add {A:Abs} (h:OkA A) {n p:Int} {l:List R4} (hl:okL l):OkA (addA A n p l):=by
 unfold addA
 split
 ·rename_i h0
  unfold addE at h0
  split at h0
  ·rename_i hn
   split at h0
   ·rename_i hg
    exact h.put hn hg hl
   ·omega
  ·omega
 ·exact h
theorem OkA.do {A:Abs} (h:OkA A) {o f r:Int} {x:R4} (hx:okR x):OkA (dA A o f r x):=by
 unfold dA
 split
 ·exact h
 ·rename_i e he
  split
  ·rename_i h0
   obtain ⟨hn,hg,hl,hk⟩:=h.find he;refine h.put hn ?_ (okL_set hl (okR_new hl hx));unfold dE at h0
   split at h0
   ·rw [he] at h0
    exact good_do h0
   ·omega
  ·exact h
theorem OkA.set {A:Abs} (h:OkA A) {n r:Int} {x:R4} (hx:okR x):OkA (sA A n r x):=by
 unfold sA
 split
 ·exact h
 ·rename_i e he
  split
  ·rename_i h0
   obtain ⟨hn,hg,hl,hk⟩:=h.find he;have:r≠0∧0≤r:=by
    unfold sB gB at h0;rw [he] at h0
    simp at h0
    omega
   exact h.put hn (good_set hg (by omega)) (okL_set hl hx)
  ·exact h
end Go.Proofs.YtelgnhmcnfibnaaGreatDoor.Fs
namespace Go.Proofs.YtelgnhmcnfibnaaGreatDoor.Sv
open Fl (R4 z4)
open Fs (Abs dE dV dA dD)
open Ad (goodB)
def be (a:Int):BitVec 8:=BitVec.ofInt 8 a
def bx (a b:Int):Int:=bits .xor .u8 a b
theorem bx_eq (a b:Int):bx a b=((be a ^^^ be b).toNat:Int):=by
 have h:=(be a ^^^ be b).isLt
 show IntKind.u8.wrap ((be a ^^^ be b).toNat:Int)=_
 generalize (be a ^^^ be b).toNat=n at *;simp only [IntKind.wrap,IntKind.bits,IntKind.signed]
 simp
 omega
theorem be_bx (a b:Int):be (bx a b)=be a ^^^ be b:=by
 rw [bx_eq]
 show BitVec.ofInt 8 _=_
 rw [BitVec.ofInt_natCast,BitVec.ofNat_toNat]
 simp
theorem bx_is (a b:Int):0≤bx a b∧bx a b≤255:=by
 have h:=(be a ^^^ be b).isLt;rw [bx_eq]
 omega
theorem be_inj {a b:Int} (ha:0≤a∧a≤255) (hb:0≤b∧b≤255) (h:be a=be b):a=b:=by
 have e:=congrArg BitVec.toNat h;unfold be at e;rw [BitVec.toNat_ofInt,BitVec.toNat_ofInt] at e
 simp at e
 omega
def ck3 (a b c:Int):Int:=bx (bx (bx 90 a) b) c
def ck4 (a b c d:Int):Int:=bx (bx (bx (bx 90 a) b) c) d
theorem ck3_is (a b c:Int):0≤ck3 a b c∧ck3 a b c≤255:=bx_is _ _
theorem ck4_is (a b c d:Int):0≤ck4 a b c d∧ck4 a b c d≤255:=bx_is _ _
theorem be_ck3 (a b c:Int):be (ck3 a b c)=be 90 ^^^ be a ^^^ be b ^^^ be c:=by unfold ck3;rw [be_bx,be_bx,be_bx]
theorem be_ck4 (a b c d:Int):be (ck4 a b c d)=be 90 ^^^ be a ^^^ be b ^^^ be c ^^^ be d:=by unfold ck4;rw [be_bx,be_bx,be_bx,be_bx]
theorem zero_of {t:Int} (ht:0≤t∧t≤255) (h:be t=0#8):t=0:=be_inj ht ⟨by omega,by omega⟩ (h.trans rfl)
section
variable {a b c d t:Int} (ht:0≤t∧t≤255)
include ht
end
abbrev B5:=Int×Int×Int×Int×Int
def z5:B5:=(0,0,0,0,0)
def askE (n o f r:Int):Int:=if 1≤n∧n≤254∧goodB o f r=true then 0 else 1
def askB (n o f r:Int):R4:=if askE n o f r=0 then (n,64 * o+f,r,ck3 n (64 * o+f) r) else z4
def datB (v:R4):B5:=(v.1,v.2.1,v.2.2.1,v.2.2.2,ck4 v.1 v.2.1 v.2.2.1 v.2.2.2)
def opnE (b:B5):Int:=if ck4 b.1 b.2.1 b.2.2.1 b.2.2.2.1=b.2.2.2.2 then 0 else 14
def opnV (b:B5):R4:=if opnE b=0 then (b.1,b.2.1,b.2.2.1,b.2.2.2.1) else z4
def hears (n:Int) (q:R4):Bool:=decide (ck3 q.1 q.2.1 q.2.2.1=q.2.2.2) && (decide (q.1=n) && goodB (q.2.1 / 64) (q.2.1 % 64) q.2.2.1)
def goes (n:Int) (q:R4) (b:B5):Bool:=hears n q && (decide (q.2.1 / 64≠1) || decide (opnE b=0))
def svX (q:R4) (b:B5):R4:=if q.2.1 / 64=1 then opnV b else z4
def svE (A:Abs) (q:R4):Int:=dE A (q.2.1 / 64) (q.2.1 % 64) q.2.2.1
def svO (A:Abs) (n:Int) (q:R4) (b:B5):Bool:=goes n q b && decide (svE A q=0)
def svB (A:Abs) (n:Int) (q:R4) (b:B5):B5:=if svO A n q b=true then datB (dV A (q.2.1 / 64) (q.2.1 % 64) q.2.2.1 (svX q b)) else z5
def svA (A:Abs) (n:Int) (q:R4) (b:B5):Abs:=if goes n q b=true then dA A (q.2.1 / 64) (q.2.1 % 64) q.2.2.1 (svX q b) else A
def tn4 (q:R4) (t:Nat→Int):R4:=(bx q.1 (t 0),bx q.2.1 (t 1),bx q.2.2.1 (t 2),bx q.2.2.2 (t 3))
def tn5 (b:B5) (t:Nat→Int) (k:Nat):B5:=(bx b.1 (t k),bx b.2.1 (t (k+1)),bx b.2.2.1 (t (k+2)),bx b.2.2.2.1 (t (k+3)),bx b.2.2.2.2 (t (k+4)))
section
variable (A:Abs) (n m o f r:Int) (v:R4) (t:Nat→Int)
def trQ:R4:=tn4 (askB m o f r) t
def trB:B5:=tn5 (datB v) t 4
def trE:Int:=if askE m o f r=0 then (if svO A n (trQ m o f r t) (trB v t)=true then opnE (tn5 (svB A n (trQ m o f r t) (trB v t)) t 9) else 13) else askE m o f r
def trV:R4:=if askE m o f r=0 then (if svO A n (trQ m o f r t) (trB v t)=true then opnV (tn5 (svB A n (trQ m o f r t) (trB v t)) t 9) else z4) else z4
def trA:Abs:=if askE m o f r=0 then svA A n (trQ m o f r t) (trB v t) else A
end
theorem be_zero:be 0=0#8:=rfl
theorem opn_dat (w:R4) (t:Nat→Int) (j:Nat):opnE (tn5 (datB w) t j)=0↔be (t j) ^^^ be (t (j+1)) ^^^ be (t (j+2)) ^^^ be (t (j+3))=be (t (j+4)):=by
 have h:∀ x y:Int,(if x=y then (0:Int) else 14)=0↔x=y:=fun x y=>by
  by_cases e:x=y
  ·rw [if_pos e];exact ⟨fun _=>e,fun _=>rfl⟩
  ·rw [if_neg e];exact ⟨fun g=>absurd g (by decide),fun g=>absurd g e⟩
 unfold opnE tn5 datB;simp only;rw [h];have hl:=ck4_is (bx w.1 (t j)) (bx w.2.1 (t (j+1))) (bx w.2.2.1 (t (j+2))) (bx w.2.2.2 (t (j+3)));have hr:=bx_is (ck4 w.1 w.2.1 w.2.2.1 w.2.2.2) (t (j+4));have key:∀ p a b c d x0 x1 x2 x3:BitVec 8,p ^^^ (a ^^^ x0) ^^^ (b ^^^ x1) ^^^ (c ^^^ x2) ^^^ (d ^^^ x3)=(p ^^^ a ^^^ b ^^^ c ^^^ d) ^^^ (x0 ^^^ x1 ^^^ x2 ^^^ x3):=fun p a b c d x0 x1 x2 x3=>by
  ac_rfl
 constructor
 ·intro e
  have e:=congrArg be e;rw [be_ck4,be_bx,be_bx,be_bx,be_bx,be_bx,be_ck4,key] at e;have:=congrArg (fun z=>(be 90 ^^^ be w.1 ^^^ be w.2.1 ^^^ be w.2.2.1 ^^^ be w.2.2.2) ^^^ z) e
  simpa only [← BitVec.xor_assoc,BitVec.xor_self,BitVec.zero_xor] using this
 ·intro e
  refine be_inj hl hr ?_;rw [be_ck4,be_bx,be_bx,be_bx,be_bx,be_bx,be_ck4,key,e]
theorem ck_ask (n o f r:Int) (h:askE n o f r=0) (t:Nat→Int):(ck3 (tn4 (askB n o f r) t).1 (tn4 (askB n o f r) t).2.1 (tn4 (askB n o f r) t).2.2.1=(tn4 (askB n o f r) t).2.2.2)↔be (t 0) ^^^ be (t 1) ^^^ be (t 2)=be (t 3):=by
 have e:askB n o f r=(n,64 * o+f,r,ck3 n (64 * o+f) r):=if_pos h;rw [e];unfold tn4;simp only;have hl:=ck3_is (bx n (t 0)) (bx (64 * o+f) (t 1)) (bx r (t 2));have hr:=bx_is (ck3 n (64 * o+f) r) (t 3);have key:∀ p a b c x0 x1 x2:BitVec 8,p ^^^ (a ^^^ x0) ^^^ (b ^^^ x1) ^^^ (c ^^^ x2)=(p ^^^ a ^^^ b ^^^ c) ^^^ (x0 ^^^ x1 ^^^ x2):=fun p a b c x0 x1 x2=>by ac_rfl
 constructor
 ·intro e
  have e:=congrArg be e;rw [be_ck3,be_bx,be_bx,be_bx,be_bx,be_ck3,key] at e;have:=congrArg (fun z=>(be 90 ^^^ be n ^^^ be (64 * o+f) ^^^ be r) ^^^ z) e
  simpa only [← BitVec.xor_assoc,BitVec.xor_self,BitVec.zero_xor] using this
 ·intro e
  refine be_inj hl hr ?_;rw [be_ck3,be_bx,be_bx,be_bx,be_bx,be_ck3,key,e]
def tOne (k:Nat) (y:Int) (i:Nat):Int:=if i=k then y else 0
theorem tOne_off {k i:Nat} (y:Int) (h:i≠k):tOne k y i=0:=if_neg h
theorem tOne_at (k:Nat) (y:Int):tOne k y k=y:=if_pos rfl
theorem be_ne {y:Int} (hy:0≤y∧y≤255) (h:y≠0):be y≠0#8:=fun e=>h (zero_of hy e)
theorem hears_turned {n o f r:Int} (h:askE n o f r=0) {k:Nat} (hk:k < 4) {y:Int} (hy:0≤y∧y≤255) (h0:y≠0) (m:Int):hears m (trQ n o f r (tOne k y))=false:=by
 have c:¬ (ck3 (trQ n o f r (tOne k y)).1 (trQ n o f r (tOne k y)).2.1 (trQ n o f r (tOne k y)).2.2.1=(trQ n o f r (tOne k y)).2.2.2):=by
  unfold trQ;rw [ck_ask n o f r h]
  intro e
  have hne:=be_ne hy h0
  match k,hk with
  | 0,_=>rw [tOne_at,tOne_off y (show 1≠0 by decide),tOne_off y (show 2≠0 by decide),tOne_off y (show 3≠0 by decide),be_zero] at e;exact hne (by simpa using e)
  | 1,_=>rw [tOne_at,tOne_off y (show 0≠1 by decide),tOne_off y (show 2≠1 by decide),tOne_off y (show 3≠1 by decide),be_zero] at e;exact hne (by simpa using e)
  | 2,_=>rw [tOne_at,tOne_off y (show 0≠2 by decide),tOne_off y (show 1≠2 by decide),tOne_off y (show 3≠2 by decide),be_zero] at e;exact hne (by simpa using e)
  | 3,_=>rw [tOne_at,tOne_off y (show 0≠3 by decide),tOne_off y (show 1≠3 by decide),tOne_off y (show 2≠3 by decide),be_zero] at e;exact hne (by simpa using e.symm)
 unfold hears;rw [decide_eq_false c]
 rfl
theorem opn_turned (w:R4) (j:Nat) {k:Nat} (h1:j≤k) (h2:k < j+5) {y:Int} (hy:0≤y∧y≤255) (h0:y≠0):opnE (tn5 (datB w) (tOne k y) j)≠0:=by
 rw [Ne,opn_dat]
 intro e
 have hne:=be_ne hy h0;obtain ⟨i,rfl⟩:∃ i,k=j+i:=⟨k - j,by omega⟩
 match i,(show i < 5 by omega) with
 | 0,_=>rw [Nat.add_zero,tOne_at,tOne_off y (show j+1≠j by omega),tOne_off y (show j+2≠j by omega),tOne_off y (show j+3≠j by omega),tOne_off y (show j+4≠j by omega),be_zero] at e;exact hne (by simpa using e)
 | 1,_=>rw [tOne_at,tOne_off y (show j≠j+1 by omega),tOne_off y (show j+2≠j+1 by omega),tOne_off y (show j+3≠j+1 by omega),tOne_off y (show j+4≠j+1 by omega),be_zero] at e;exact hne (by simpa using e)
 | 2,_=>rw [tOne_at,tOne_off y (show j≠j+2 by omega),tOne_off y (show j+1≠j+2 by omega),tOne_off y (show j+3≠j+2 by omega),tOne_off y (show j+4≠j+2 by omega),be_zero] at e;exact hne (by simpa using e)
 | 3,_=>rw [tOne_at,tOne_off y (show j≠j+3 by omega),tOne_off y (show j+1≠j+3 by omega),tOne_off y (show j+2≠j+3 by omega),tOne_off y (show j+4≠j+3 by omega),be_zero] at e;exact hne (by simpa using e)
 | 4,_=>rw [tOne_at,tOne_off y (show j≠j+4 by omega),tOne_off y (show j+1≠j+4 by omega),tOne_off y (show j+2≠j+4 by omega),tOne_off y (show j+3≠j+4 by omega),be_zero] at e;exact hne (by simpa using e.symm)
theorem tn4_congr (q:R4) {t t':Nat→Int} (h:∀ i,i < 4→t i=t' i):tn4 q t=tn4 q t':=by unfold tn4;rw [h 0 (by omega),h 1 (by omega),h 2 (by omega),h 3 (by omega)]
theorem tn5_congr (b:B5) {t t':Nat→Int} (j:Nat) (h:∀ i,j≤i→i < j+5→t i=t' i):tn5 b t j=tn5 b t' j:=by unfold tn5;rw [h j (by omega) (by omega),h (j+1) (by omega) (by omega),h (j+2) (by omega) (by omega),h (j+3) (by omega) (by omega),h (j+4) (by omega) (by omega)]
theorem svO_goes {A:Abs} {n:Int} {q:R4} {b:B5} (h:goes n q b=false):svO A n q b=false:=by unfold svO;rw [h];rfl
theorem goes_hears {n:Int} {q:R4} (b:B5) (h:hears n q=false):goes n q b=false:=by unfold goes;rw [h];rfl
theorem one (A:Abs) (n m o f r:Int) (v:R4) {k:Nat} (hk:k < 14) {y:Int} (hy:0≤y∧y≤255) (h0:y≠0) :
 (trE A n m o f r v (tOne k y)≠0∧(trA A n m o f r v (tOne k y)=A∨trA A n m o f r v (tOne k y)=trA A n m o f r v fun _=>0)) ∨
 (trE A n m o f r v (tOne k y)=trE A n m o f r v (fun _=>0)∧trV A n m o f r v (tOne k y)=trV A n m o f r v (fun _=>0)∧trA A n m o f r v (tOne k y)=trA A n m o f r v fun _=>0):=by
 by_cases ha:askE m o f r=0
 case neg=>right;unfold trE trV trA;rw [if_neg ha,if_neg ha,if_neg ha,if_neg ha,if_neg ha,if_neg ha];exact ⟨rfl,rfl,rfl⟩
 have dead:∀ t:Nat→Int,goes n (trQ m o f r t) (trB v t)=false→trE A n m o f r v t=13∧trV A n m o f r v t=z4∧trA A n m o f r v t=A:=fun t g=>by
  unfold trE trV trA svA;rw [if_pos ha,if_pos ha,if_pos ha,svO_goes g,g];exact ⟨if_neg (by decide),if_neg (by decide),if_neg (by decide)⟩
 by_cases h4:k < 4
 ·obtain ⟨e1,_,e3⟩:=dead _ (goes_hears _ (hears_turned ha h4 hy h0 n))
  exact .inl ⟨by rw [e1];decide,.inl e3⟩
 have hq:trQ m o f r (tOne k y)=trQ m o f r fun _=>0:=tn4_congr _ fun i hi=>tOne_off y (by omega)
 by_cases h9:k < 9
 ·have hb:∀ b,tn5 b (tOne k y) 9=tn5 b (fun _=>0) 9:=fun b=>tn5_congr b 9 fun i hi _=>tOne_off y (by omega)
  by_cases hw:(trQ m o f r fun _=>0).2.1 / 64=1
  ·have g:goes n (trQ m o f r (tOne k y)) (trB v (tOne k y))=false:=by
    unfold goes;rw [hq,hw,decide_eq_false (show ¬ opnE (trB v (tOne k y))=0 from opn_turned v 4 (by omega) (by omega) hy h0)]
    simp
   obtain ⟨e1,_,e3⟩:=dead _ g;exact .inl ⟨by rw [e1];decide,.inl e3⟩
  ·right
   have g:goes n (trQ m o f r (tOne k y)) (trB v (tOne k y))=goes n (trQ m o f r fun _=>0) (trB v fun _=>0):=by
    unfold goes;rw [hq,decide_eq_true hw]
    simp
   have x:svX (trQ m o f r (tOne k y)) (trB v (tOne k y))=svX (trQ m o f r fun _=>0) (trB v fun _=>0):=by
    unfold svX;rw [hq,if_neg hw,if_neg hw]
   have so:svO A n (trQ m o f r (tOne k y)) (trB v (tOne k y))=svO A n (trQ m o f r fun _=>0) (trB v fun _=>0):=by unfold svO;rw [g,hq]
   have sb:svB A n (trQ m o f r (tOne k y)) (trB v (tOne k y))=svB A n (trQ m o f r fun _=>0) (trB v fun _=>0):=by unfold svB;rw [so,x,hq]
   have sa:svA A n (trQ m o f r (tOne k y)) (trB v (tOne k y))=svA A n (trQ m o f r fun _=>0) (trB v fun _=>0):=by unfold svA;rw [g,x,hq]
   unfold trE trV trA;rw [so,sb,sa,hb];exact ⟨rfl,rfl,rfl⟩
 ·have hb:trB v (tOne k y)=trB v fun _=>0:=tn5_congr _ 4 fun i _ hi=>tOne_off y (by omega)
  have ea:trA A n m o f r v (tOne k y)=trA A n m o f r v fun _=>0:=by unfold trA;rw [hq,hb]
  cases so:svO A n (trQ m o f r fun _=>0) (trB v fun _=>0) with
  | true =>
    left
    refine ⟨?_,.inr ea⟩;unfold trE;rw [if_pos ha,hq,hb,so,if_pos rfl];unfold svB;rw [so,if_pos rfl];exact opn_turned _ 9 (by omega) (by omega) hy h0
  | false =>
    right
    refine ⟨?_,?_,ea⟩
    ·unfold trE;rw [hq,hb,so];rfl
    ·unfold trV;rw [hq,hb,so];rfl
end Go.Proofs.YtelgnhmcnfibnaaGreatDoor.Sv
namespace Go.Proofs.YtelgnhmcnfibnaaGreatDoor.Sv
open Go.ChangeShapes Go.WideShapes Go.ChangeAt Go.RowKit Go.Deep
theorem bytes_of {H:Type} {enc:TypeId×Value→H} {W:World} {v:Value} {base:Nat} {sp:Nat→Bool} {held:Bool} {d:DataW H} {p:List MemPlace} {r:Reach} {b0:Nat} {T:TypeId} {n:Nat}
 (hu:Tryz.prog.underlying T=some (.array n 5)) (hn:Tryz.prog.cellsOf T=n) (hv:Value.okWide Tryz.prog W r b0 T v) (h:DataW.Trod enc Tryz.prog W base sp held T v d p) :
 ∃ b:List Int,b.length=n∧v = .agg (b.map (Value.int .u8)).toArray∧∀ x∈b,0≤x∧x≤255:=by
 obtain ⟨cs,rfl,hs⟩:=Fl.okWide_array hu hv;rw [hn] at hs;have c1:Tryz.prog.cellsOf 5=1:=by kernel_rfl
 obtain ⟨fuel,hf⟩:=h;obtain ⟨xs,m,_,_,_,hx,hi⟩:=DataW.trod_array hu hf;have get:∀ i (hi':i < n),∃ b,cs[i]'(by omega) = .int .u8 b∧0≤b∧b≤255:=fun i hi'=>by
  have e:=hi i hi';have hl:i < xs.length:=by omega
  rw [c1,List.getElem?_eq_getElem hl,Nat.mul_one] at e;obtain ⟨b,hb,_,wb⟩:=DataW.trod_int Tryz.underlying5 (x:=xs[i]) e;have hlt:i < cs.toList.length:=by simpa using (show i < cs.size by omega)
  have hd:((Value.agg cs).cells.toList.drop i).take 1 = [cs[i]'(by omega)]:=by
   show (cs.toList.drop i).take 1=_
   rw [List.drop_eq_getElem_cons hlt]
   simp
  rw [hd] at hb;exact ⟨b,by simpa using hb,bounds_u8 wb⟩
 refine ⟨(List.range n).map fun i=>if h:i < n then (get i h).choose else 0,by simp,?_,fun x hx=>?_⟩
 ·congr 1
  apply Array.ext
  ·simp [hs]
  ·intro i h1 h2
   have hi':i < n:=by omega
   simp only [List.getElem_toArray,List.getElem_map,List.getElem_range,hi',dif_pos];exact (get i hi').choose_spec.1
 ·obtain ⟨i,hi',rfl⟩:=List.mem_map.1 hx
  have hi':=List.mem_range.1 hi';simp only [hi',dif_pos];exact (get i hi').choose_spec.2
theorem b4_of {H:Type} {enc:TypeId×Value→H} {W:World} {v:Value} {base:Nat} {sp:Nat→Bool} {held:Bool} {d:DataW H} {p:List MemPlace} {r:Reach} {b0:Nat} {T:TypeId}
 (hu:Tryz.prog.underlying T=some (.array 4 5)) (hn:Tryz.prog.cellsOf T=4) (hv:Value.okWide Tryz.prog W r b0 T v) (h:DataW.Trod enc Tryz.prog W base sp held T v d p):∃ x:Fl.R4,v=Fl.rec4 x∧Fl.okR x:=by
 obtain ⟨b,hl,rfl,hb⟩:=bytes_of hu hn hv h
 match b,hl,hb with
 | [x0,x1,x2,x3],_,hb=>exact ⟨(x0,x1,x2,x3),rfl,hb _ (by simp),hb _ (by simp),hb _ (by simp),hb _ (by simp)⟩
def val5 (b:B5):Value:=.agg #[.int .u8 b.1,.int .u8 b.2.1,.int .u8 b.2.2.1,.int .u8 b.2.2.2.1,.int .u8 b.2.2.2.2]
def is5 (b:B5):Prop:=(0≤b.1∧b.1≤255)∧(0≤b.2.1∧b.2.1≤255)∧(0≤b.2.2.1∧b.2.2.1≤255)∧(0≤b.2.2.2.1∧b.2.2.2.1≤255)∧(0≤b.2.2.2.2∧b.2.2.2.2≤255)
theorem b5_of {H:Type} {enc:TypeId×Value→H} {W:World} {v:Value} {base:Nat} {sp:Nat→Bool} {held:Bool} {d:DataW H} {p:List MemPlace} {r:Reach} {b0:Nat} {T:TypeId}
 (hu:Tryz.prog.underlying T=some (.array 5 5)) (hn:Tryz.prog.cellsOf T=5) (hv:Value.okWide Tryz.prog W r b0 T v) (h:DataW.Trod enc Tryz.prog W base sp held T v d p):∃ x:B5,v=val5 x∧is5 x:=by
 obtain ⟨b,hl,rfl,hb⟩:=bytes_of hu hn hv h
 match b,hl,hb with
 | [x0,x1,x2,x3,x4],_,hb=>exact ⟨(x0,x1,x2,x3,x4),rfl,hb _ (by simp),hb _ (by simp),hb _ (by simp),hb _ (by simp),hb _ (by simp)⟩
end Go.Proofs.YtelgnhmcnfibnaaGreatDoor.Sv
