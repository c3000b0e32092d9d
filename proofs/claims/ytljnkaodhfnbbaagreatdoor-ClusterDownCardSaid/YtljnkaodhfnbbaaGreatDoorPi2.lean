import Derived.Test.YtljnkaodhfnbbaaGreatDoorPi1
import Derived.Test.YtljnkaodhfnbbaaGreatDoorChecked
import Derived.WalkKit
import Derived.LoopTactic
import Derived.Outline
import Derived.Deep.Draws
import Derived.DeepKeys
import Derived.Laws.ResultCell
import Derived.Lib.Hide
import Derived.Maps.OwnSet
set_option maxRecDepth 100000
namespace Go.Proofs.YtljnkaodhfnbbaaGreatDoor.Sf
open Go.RowKit
open Sd (light light_value By Cl)
structure Fl where
 idx:Nat
 slot:Nat
 cs:Array Value
 ty:TypeId
def fill (F:List Fl) (x:Nat→Value) (a:Act):Act:=F.foldl (fun a f=>a.put (some f.slot) (x f.slot)) a
theorem put_comm (a:Act) {d e:Nat} (h:d≠e) (u v:Value):(a.put (some d) u).put (some e) v=(a.put (some e) v).put (some d) u:=by
 simp only [Act.put];rw [Array.setIfInBounds_comm _ _ h]
theorem put_put (a:Act) (d:Nat) (u v:Value):(a.put (some d) u).put (some d) v=a.put (some d) v:=by
 simp only [Act.put,Array.setIfInBounds_setIfInBounds]
theorem fill_put (x:Nat→Value) (dst:Option Nat) (v:Value):∀ (F:List Fl) (a:Act),(∀ f∈F,dst≠some f.slot)→(fill F x a).put dst v=fill F x (a.put dst v)
 | [],a,_=>rfl
 | f :: r,a,h=>by
   have ih:=fill_put x dst v r (a.put (some f.slot) (x f.slot)) fun g hg=>h g (List.mem_cons_of_mem _ hg)
   show (fill r x (a.put (some f.slot) (x f.slot))).put dst v=fill r x ((a.put dst v).put (some f.slot) (x f.slot))
   rw [ih]
   cases dst with
   | none=>rfl
   | some d=>rw [put_comm a (fun e=>h f (List.mem_cons_self ..) (by rw [e])) (x f.slot) v]
theorem fill_congr {x y:Nat→Value} : ∀ (F:List Fl) (a:Act),(∀ f∈F,x f.slot=y f.slot)→fill F x a=fill F y a
 | [],_,_=>rfl
 | f :: r,a,h=>by
   show fill r x (a.put (some f.slot) (x f.slot))=fill r y (a.put (some f.slot) (y f.slot))
   rw [h f (List.mem_cons_self ..),fill_congr r _ fun g hg=>h g (List.mem_cons_of_mem _ hg)]
def upd (x:Nat→Value) (s:Nat) (v:Value) (k:Nat):Value:=if k=s then v else x k
theorem fill_set (x:Nat→Value) (s:Nat) (v:Value):∀ (F:List Fl) (a:Act),(F.map (·.slot)).Nodup→(∃ f∈F,f.slot=s)→(fill F x a).put (some s) v=fill F (upd x s v) a
 | [],a,_,h=>by obtain ⟨_,h,_⟩:=h;cases h
 | f :: r,a,hn,h=>by
   rw [List.map_cons,List.nodup_cons] at hn
   show (fill r x (a.put (some f.slot) (x f.slot))).put (some s) v=fill r (upd x s v) (a.put (some f.slot) (upd x s v f.slot))
   by_cases e:f.slot=s
   ·have hne:∀ g∈r,g.slot≠s:=fun g hg e'=>hn.1 (List.mem_map.2 ⟨g,hg,by rw [e,e']⟩)
    rw [fill_put x (some s) v r _ fun g hg e'=>hne g hg (Option.some.inj e').symm,e,put_put];rw [show upd x s v s=v by simp [upd]];exact fill_congr r _ fun g hg=>by simp [upd,hne g hg]
   ·obtain ⟨g,hg,hs⟩:=h
    have hg':g∈r:=by
     rcases List.mem_cons.1 hg with rfl | k
     ·exact absurd hs e
     ·exact k
    rw [show upd x s v f.slot=x f.slot by simp [upd,e]];exact fill_set x s v r _ hn.2 ⟨g,hg',hs⟩
def marks (L:Array Bool) (d:List Nat):Array Bool:=d.foldl (fun L i=>L.setIfInBounds i true) L
theorem marks_get:∀ (d:List Nat) (L:Array Bool) (k:Nat),(marks L d)[k]? = if k∈d then (L[k]?).map (fun _=>true) else L[k]?
 | [],L,k=>by simp [marks]
 | i :: r,L,k=>by
   show (marks (L.setIfInBounds i true) r)[k]? = _
   rw [marks_get r,Array.getElem?_setIfInBounds]
   by_cases hi:i=k
   ·subst hi
    by_cases hl:i < L.size
    ·simp [hl]
    ·simp [hl]
   ·have hk:k≠i:=fun e=>hi e.symm
    simp [hi,hk]
theorem marks_size:∀ (d:List Nat) (L:Array Bool),(marks L d).size=L.size
 | [],_=>rfl
 | j :: r,L=>by show (marks (L.setIfInBounds j true) r).size=_;rw [marks_size r,Array.size_setIfInBounds]
theorem marks_set (L:Array Bool) (d:List Nat) (i:Nat):(marks L d).setIfInBounds i true=marks (L.setIfInBounds i true) d:=by
 refine Array.ext_getElem? fun k=>?_;rw [Array.getElem?_setIfInBounds,marks_get,marks_get,Array.getElem?_setIfInBounds];rw [marks_size]
 by_cases hi:i=k
 ·subst hi
  by_cases hl:i < L.size <;> by_cases hd:i∈d <;> simp [hl,hd]
 ·simp [hi]
def doneOf (F:List Fl) (m:Nat→Bool):List Nat:=(F.filter fun f=>m f.idx).map (·.idx)
theorem mem_done {F:List Fl} {m:Nat→Bool} {k:Nat} : k∈doneOf F m↔m k=true∧∃ f∈F,f.idx=k:=by
 unfold doneOf;rw [List.mem_map]
 constructor
 ·rintro ⟨f,hf,rfl⟩
  rw [List.mem_filter] at hf;exact ⟨hf.2,f,hf.1,rfl⟩
 ·rintro ⟨hm,f,hf,rfl⟩
  exact ⟨f,List.mem_filter.2 ⟨hf,hm⟩,rfl⟩
def on (m:Nat→Bool) (j k:Nat):Bool:=k == j || m k
theorem marks_on (L:Array Bool) (F:List Fl) (m:Nat→Bool) (f:Fl) (hf:f∈F):(marks L (doneOf F m)).setIfInBounds f.idx true=marks L (doneOf F (on m f.idx)):=by
 rw [marks_set];refine Array.ext_getElem? fun k=>?_;rw [marks_get,marks_get,Array.getElem?_setIfInBounds]
 by_cases e:f.idx=k
 ·subst e
  have h2:f.idx∈doneOf F (on m f.idx):=mem_done.2 ⟨by simp [on],f,hf,rfl⟩;rw [if_pos h2]
  by_cases hl:f.idx < L.size <;> by_cases hd:f.idx∈doneOf F m <;> simp [hl,hd]
 ·have hiff:(k∈doneOf F (on m f.idx))↔(k∈doneOf F m):=by
   have hb:(k == f.idx)=false:=by simpa using fun h=>e h.symm
   rw [mem_done,mem_done]
   simp [on,hb]
  by_cases hd:k∈doneOf F m
  ·rw [if_pos hd,if_pos (hiff.2 hd)];simp [e]
  ·rw [if_neg hd,if_neg (fun h=>hd (hiff.1 h))];simp [e]
def allMasks:List Fl→(List Nat→Bool)→Bool
 | [],k=>k []
 | f :: r,k=>allMasks r k && allMasks r (fun d=>k (f.idx :: d))
theorem allMasks_spec:∀ (F:List Fl) (k:List Nat→Bool),allMasks F k=true→∀ m,k (doneOf F m)=true
 | [],k,h,m=>h
 | f :: r,k,h,m=>by
   unfold allMasks at h;rw [Bool.and_eq_true] at h;unfold doneOf;rw [List.filter_cons]
   cases hm:m f.idx with
   | true=>rw [if_pos rfl];exact allMasks_spec r _ h.2 m
   | false=>rw [if_neg (by simp)];exact allMasks_spec r _ h.1 m
def good (ops:Array Oper):List (Nat×Nat)→List Fl→Array Bool→Bool
 | [],F,L=>F.isEmpty && (Region.ready .any ops L).isEmpty
 | (0,i) :: r,F,L =>
   (match ops[i]? with
    | some o=>light o.op && F.all (fun f=>o.dst != some f.slot) && allMasks F (fun d=>Region.free .any ops (marks L d) i && (Region.ready .any ops (marks L d)).contains i)
    | none=>false) && good ops r F (L.setIfInBounds i true)
 | (1,i) :: r,F,L =>
   (match ops[i]? with
    | some o=>F.all (fun f=>o.dst != some f.slot) && allMasks F (fun d=>!(Region.ready .any ops (marks L d)).isEmpty && (Region.ready .any ops (marks L d)).all fun j=>j == i || F.any fun f=>f.idx == j && !d.contains j)
    | none=>false) && good ops r F (L.setIfInBounds i true)
 | (_,i) :: r,f :: F,L =>
   (ops[i]?).isSome && allMasks (f :: F) (fun d=>d.contains f.idx || (!(Region.ready .any ops (marks L d)).isEmpty && (Region.ready .any ops (marks L d)).all fun j=>(f :: F).any fun g=>g.idx == j && !d.contains j)) && good ops r F (L.setIfInBounds f.idx true)
 | (_,_) :: _,[],_=>false
def wpSf (P:Program) (ops:Array Oper) (C:World→Prop) (Q:Exit→Act→World→Prop) (n0:Nat):List (Nat×Oper)→List Fl→List (Nat×Nat)→List Nat→Act→World→Prop
 | [],_,_,_,a,w=>∀ w',Below w.heap.size w w'→C w'→Q .normal a w'
 | (0,o) :: r,F,H,L,a,w=>∀ x,wpQuiet P ops C (fun a'=>wpSf P ops C Q n0 r F H L a' w) [o] (fill F x a)
 | (1,o) :: r,F,H,L,a,w=>∀ x w',Below w.heap.size w w'→C w'→Region.wanted o (yielded ops (fill F x a).tmps)=true ∧
     o.wp P (fill F x a) w' (fun a'' w''=>C w''∧w'.heap.size≤w''.heap.size∧(F≠[]→Below w'.heap.size w' w'')∧wpSf P ops C Q n0 r F ((w'.heap.size,w''.heap.size) :: H) L a'' w'') Q
 | (_,_) :: r,F,H,L,a,w=>match F with
   | []=>False
   | f :: F=>∀ g w',Below w.heap.size w w'→C w'→w'.heap[g]? = some (.cells f.cs f.ty (0,0))→n0≤g→(∀ p∈H,g < p.1∨p.2≤g)→g ∉ L→wpSf P ops C Q n0 r F H (g :: L) (a.put (some f.slot) (.pointer (some ⟨g,0,none⟩))) w'
def picks (l:List Oper):List (Nat×Nat)→List (Nat×Oper)
 | []=>[]
 | (k,i) :: r=>match l[i]? with
   | some o=>(k,o) :: picks l r
   | none=>picks l r
structure Inv (F:List Fl) (m:Nat→Bool) (x:Nat→Value) (a:Act) (n0:Nat) (H:List (Nat×Nat)) (L:List Nat) (w:World):Prop where
 old:∀ f∈F,m f.idx=false→x f.slot=a.tmps.getD f.slot undef
 new:∀ f∈F,m f.idx=true→∃ g,x f.slot = .pointer (some ⟨g,0,none⟩)∧w.heap[g]? = some (.cells f.cs f.ty (0,0))∧n0≤g∧(∀ p∈H,g < p.1∨p.2≤g)∧g ∉ L
 apart:∀ f∈F,∀ f'∈F,f.slot≠f'.slot→m f.idx=true→m f'.idx=true→x f.slot≠x f'.slot
 past:∀ p∈H,p.2≤w.heap.size
 met:∀ g∈L,g < w.heap.size
theorem getD_put (a:Act) (dst:Option Nat) (v:Value) (s:Nat) (h:dst≠some s):(a.put dst v).tmps.getD s undef=a.tmps.getD s undef:=by
 cases dst with
 | none=>rfl
 | some d =>
   have hd:d≠s:=fun e=>h (by rw [e]);simp only [Act.put,Array.getD_eq_getD_getElem?,Array.getElem?_setIfInBounds,if_neg hd]
theorem fill_idem (x:Nat→Value):∀ (F:List Fl) (a:Act),fill F x (fill F x a)=fill F x a
 | [],_=>rfl
 | f :: r,a=>by
   show fill r x ((fill r x (a.put (some f.slot) (x f.slot))).put (some f.slot) (x f.slot))=fill r x (a.put (some f.slot) (x f.slot))
   have e:∀ (r:List Fl) (b:Act),(fill r x (b.put (some f.slot) (x f.slot))).put (some f.slot) (x f.slot)=fill r x (b.put (some f.slot) (x f.slot)):=by
    intro r
    induction r with
    | nil=>intro b;exact put_put b _ _ _
    | cons g r ih =>
      intro b
      show (fill r x ((b.put (some f.slot) (x f.slot)).put (some g.slot) (x g.slot))).put (some f.slot) (x f.slot)=fill r x ((b.put (some f.slot) (x f.slot)).put (some g.slot) (x g.slot))
      by_cases h:f.slot=g.slot
      ·rw [← h,put_put];exact ih b
      ·rw [put_comm b h,ih]
   rw [e];exact fill_idem x r _
def withD (a:Act) (ds:List Deferred):Act:={ a with defers:=ds }
theorem fill_D (x:Nat→Value) (ds:List Deferred):∀ (F:List Fl) (a:Act),withD (fill F x a) ds=fill F x (withD a ds)
 | [],_=>rfl
 | f :: r,a=>by
   show withD (fill r x (a.put (some f.slot) (x f.slot))) ds=fill r x ((withD a ds).put (some f.slot) (x f.slot))
   rw [fill_D x ds r]
   rfl
theorem getD_fill (x:Nat→Value) (s:Nat):∀ (F:List Fl) (a:Act),(∀ f∈F,f.slot=s→x s=a.tmps.getD s undef)→(fill F x a).tmps.getD s undef=a.tmps.getD s undef
 | [],_,_=>rfl
 | f :: r,a,h=>by
   have e:(a.put (some f.slot) (x f.slot)).tmps.getD s undef=a.tmps.getD s undef:=by
    by_cases hs:f.slot=s
    ·subst hs
     have:=h f (List.mem_cons_self ..) rfl;simp only [Act.put,Array.getD_eq_getD_getElem?,Array.getElem?_setIfInBounds] at *
     by_cases hl:f.slot < a.tmps.size
     ·simp [hl] at *;exact this
     ·simp [hl]
    ·exact getD_put a _ _ s (fun k=>hs (Option.some.inj k))
   show (fill r x (a.put (some f.slot) (x f.slot))).tmps.getD s undef=_
   rw [getD_fill x s r _ fun g hg k=>by rw [e];exact h g (List.mem_cons_of_mem _ hg) k,e]
theorem wp_put {P:Program} {o:Oper} {a:Act} {w:World} {K:Act→World→Prop} {Q:Exit→Act→World→Prop} (h:o.wp P a w K Q):o.wp P a w (fun a' w'=>(∃ ds v,a'=(withD a ds).put o.dst v)∧K a' w') Q:=by
 unfold Oper.wp at *
 cases hr:(execOp a.eval o).run P w with
 | halt y w1=>rw [hr] at h;cases y <;> exact h
 | ok nx w1 =>
   rw [hr] at h
   cases nx with
   | value v=>exact ⟨⟨a.defers,v,rfl⟩,h⟩
   | skip=>exact ⟨⟨a.defers,undef,rfl⟩,h⟩
   | defer d=>exact ⟨⟨d :: a.defers,undef,rfl⟩,h⟩
   | enter f args =>
     refine Calls.mono h fun e w'' k=>?_
     cases e with
     | returned v=>exact ⟨⟨a.defers,v,rfl⟩,k⟩
     | panicked c=>exact k
     | outgrown=>exact k
   | row r args=>exact Rows.mono h fun v w'' k=>⟨⟨a.defers,v,rfl⟩,k⟩
   | _=>exact h
def left:List Fl→(Nat→Bool)→Nat
 | [],_=>0
 | f :: r,m=>left r m+(if m f.idx then 0 else 1)
theorem on_le (m:Nat→Bool) (j k:Nat):(if on m j k then 0 else 1)≤(if m k then 0 else 1):=by
 unfold on
 cases (k == j) <;> cases m k <;> simp
theorem left_mono (m:Nat→Bool) (j:Nat):∀ r:List Fl,left r (on m j)≤left r m
 | []=>Nat.le_refl _
 | g :: r=>Nat.add_le_add (left_mono m j r) (on_le m j g.idx)
theorem left_on:∀ (F:List Fl) (m:Nat→Bool) (f:Fl),f∈F→m f.idx=false→left F (on m f.idx)+1≤left F m
 | g :: r,m,f,hf,hm=>by
   have a:=left_mono m f.idx r;have b:=on_le m f.idx g.idx;unfold left
   rcases List.mem_cons.1 hf with e | k
   ·subst e
    have:on m f.idx f.idx=true:=by simp [on]
    rw [this,hm]
    simp
    exact a
   ·have ih:=left_on r m f k hm
    omega
theorem nodup_same:∀ {F:List Fl},(F.map (·.slot)).Nodup→∀ f∈F,∀ g∈F,g.slot=f.slot→g=f
 | [],_,f,hf,_,_,_=>by cases hf
 | b :: r,hn,f,hf,g,hg,e=>by
   rw [List.map_cons,List.nodup_cons] at hn
   rcases List.mem_cons.1 hg with h1 | hg'
   ·rcases List.mem_cons.1 hf with h2 | hf'
    ·rw [h1,h2]
    ·exact absurd (List.mem_map.2 ⟨f,hf',by rw [← e,h1]⟩) hn.1
   ·rcases List.mem_cons.1 hf with h2 | hf'
    ·exact absurd (List.mem_map.2 ⟨g,hg',by rw [e,h2]⟩) hn.1
    ·exact nodup_same hn.2 f hf' g hg' e
section
variable {P:Program} {l:List Oper} {C:World→Prop} {Q:Exit→Act→World→Prop} {n0:Nat}
def FlOk (P:Program) (l:List Oper) (f:Fl):Prop:=∃ o,l.toArray[f.idx]? = some o∧o.dst=some f.slot∧o.guard=none∧∀ ρ w,(execOp ρ o).run P w = .ok (.value (.pointer (some ⟨w.heap.size,0,none⟩))) (w.alloc (.cells f.cs f.ty))
theorem Inv.step {F:List Fl} {m:Nat→Bool} {x:Nat→Value} {a:Act} {H:List (Nat×Nat)} {L:List Nat} {w:World} (h:Inv F m x a n0 H L w) (hn:(F.map (·.slot)).Nodup) (hi:∀ f∈F,∀ f'∈F,f.idx=f'.idx→f.slot=f'.slot) (h0:n0≤w.heap.size) (f:Fl) (hf:f∈F) (hm:m f.idx=false) :
 Inv F (on m f.idx) (upd x f.slot (.pointer (some ⟨w.heap.size,0,none⟩))) a n0 H L (w.alloc (.cells f.cs f.ty)):=by
 have same:∀ g∈F,g.slot=f.slot→g=f:=nodup_same hn f hf;have on_:∀ g∈F,g.slot≠f.slot→on m f.idx g.idx=m g.idx:=fun g hg hne=>by
  have hb:(g.idx == f.idx)=false:=by simpa using fun e=>hne (hi g hg f hf e)
  simp [on,hb]
 have onf:on m f.idx f.idx=true:=by simp [on]
 refine ⟨fun g hg hmg=>?_,fun g hg hmg=>?_,fun g hg g' hg' hne hmg hmg'=>?_,fun p hp=>?_,fun g hg=>?_⟩
 ·by_cases e:g.slot=f.slot
  ·rw [same g hg e,onf] at hmg;cases hmg
  ·rw [on_ g hg e] at hmg
   simp only [upd,if_neg e];exact h.old g hg hmg
 ·by_cases e:g.slot=f.slot
  ·obtain rfl:=same g hg e
   exact ⟨w.heap.size,by simp [upd],heap_alloc_new w _,h0,fun p hp=>.inr (h.past p hp),fun hl=>by have:=h.met _ hl;omega⟩
  ·rw [on_ g hg e] at hmg
   obtain ⟨b,h1,h2,h3⟩:=h.new g hg hmg;exact ⟨b,by simp only [upd,if_neg e];exact h1,(Below.heap_alloc w _ b (lt_of_block h2)).trans h2,h3⟩
 ·by_cases e:g.slot=f.slot
  ·have e':g'.slot≠f.slot:=fun k=>hne (e.trans k.symm)
   rw [on_ g' hg' e'] at hmg';obtain ⟨b,h1,h2,_⟩:=h.new g' hg' hmg';have:=lt_of_block h2;simp only [upd,if_pos e,if_neg e',h1]
   simp <;> omega
  ·by_cases e':g'.slot=f.slot
   ·rw [on_ g hg e] at hmg
    obtain ⟨b,h1,h2,_⟩:=h.new g hg hmg;have:=lt_of_block h2;simp only [upd,if_neg e,if_pos e',h1]
    simp <;> omega
   ·rw [on_ g hg e] at hmg
    rw [on_ g' hg' e'] at hmg';simp only [upd,if_neg e,if_neg e'];exact h.apart g hg g' hg' hne hmg hmg'
 ·have:=h.past p hp
  simp
  omega
 ·have:=h.met g hg
  simp
  omega
def cnt:List (Nat×Nat)→Nat
 | []=>0
 | (0,_) :: r=>cnt r+1
 | (1,_) :: r=>cnt r+1
 | (_+2,_) :: r=>cnt r
def Holds (P:Program) (l:List Oper) (C:World→Prop) (Q:Exit→Act→World→Prop) (n0:Nat) (n:Nat):Prop :=
 ∀ (sc:List (Nat×Nat)) (F:List Fl) (H:List (Nat×Nat)) (L:List Nat) (listed:Array Bool) (fuel:Nat) (a:Act) (w:World) (m:Nat→Bool) (x:Nat→Value) (w':World),
  2 * fuel+sc.length≤n→good l.toArray sc F listed=true→(∀ f∈F,FlOk P l f)→(F.map (·.slot)).Nodup→(∀ f∈F,∀ f'∈F,f.idx=f'.idx→f.slot=f'.slot)→Inv F m x a n0 H L w'→Below w.heap.size w w'→C w' →
  cnt sc+left F m≤fuel→wpSf P l.toArray C Q n0 (picks l sc) F H L a w→wpAnyH P .any l.toArray Q C fuel (marks listed (doneOf F m)) (fill F x a) w'
theorem wanted_none {o:Oper} {y:Nat→Option Bool} (h:o.guard=none):Region.wanted o y=true:=by simp [Region.wanted,h]
theorem float {n:Nat} (ih:Holds P l C Q n0 n) (hC:∀ w,C w→n0≤w.heap.size) (hA:∀ w o,C w→C (w.alloc o)) {sc:List (Nat×Nat)} {F:List Fl} {H:List (Nat×Nat)} {L:List Nat} {listed:Array Bool} {fuel:Nat} {a:Act} {w:World} {m:Nat→Bool} {x:Nat→Value} {w':World}
 (hn:2 * (fuel+1)+sc.length≤n+1) (hg:good l.toArray sc F listed=true) (hF:∀ f∈F,FlOk P l f) (hs:(F.map (·.slot)).Nodup) (hi:∀ f∈F,∀ f'∈F,f.idx=f'.idx→f.slot=f'.slot) (hI:Inv F m x a n0 H L w') (hb:Below w.heap.size w w') (hc:C w')
 (hf:cnt sc+left F m≤fuel+1) (h:wpSf P l.toArray C Q n0 (picks l sc) F H L a w) (f:Fl) (hff:f∈F) (hm:m f.idx=false) :
 wpOp P l.toArray Q f.idx (fun a' w'=>C w'∧wpAnyH P .any l.toArray Q C fuel ((marks listed (doneOf F m)).setIfInBounds f.idx true) a' w') (fill F x a) w':=by
 obtain ⟨o,ho,hd,hgd,hrun⟩:=hF f hff;unfold wpOp;simp only [ho,wanted_none hgd,if_true];refine .inl ?_;unfold Oper.wp;rw [hrun];rw [Oper.upon_value,hd,fill_set x f.slot _ F a hs ⟨f,hff,rfl⟩,marks_on listed F m f hff];have lo:=left_on F m f hff hm;exact ⟨hA _ _ hc,ih sc F H L listed fuel a w _ _ _ (by omega) hg hF hs hi (hI.step hs hi (hC _ hc) f hff hm) (hb.trans ((Below.refl _ _).alloc hb.size _)) (hA _ _ hc) (by omega) h⟩
theorem holds (hsel:Region.noSelect l.toArray=true) (hQ:∀ c d v a w,Q (.panic c) (Act.put a d v) w→Q (.panic c) a w) (hC:∀ w,C w→n0≤w.heap.size) (hA:∀ w o,C w→C (w.alloc o)):∀ n,Holds P l C Q n0 n:=by
 intro n
 induction n with
 | zero =>
   intro sc F H L listed fuel a w m x w' hn hg hF hs hi hI hb hc hf h
   have e:sc = []:=List.length_eq_zero_iff.1 (by omega);subst e;unfold good at hg;simp only [Bool.and_eq_true,List.isEmpty_iff] at hg;obtain ⟨rfl,hr⟩:=hg;exact wpAnyH_done hr (h w' hb hc) fuel
 | succ n ih =>
   intro sc F H L listed fuel a w m x w' hn hg hF hs hi hI hb hc hf h
   match sc,hg,h,hn,hf with
   | [],hg,h,_,_ =>
     unfold good at hg;simp only [Bool.and_eq_true,List.isEmpty_iff] at hg;obtain ⟨rfl,hr⟩:=hg;exact wpAnyH_done hr (h w' hb hc) fuel
   | (0,i) :: r,hg,h,hn,hf =>
     have hg':(_ && good l.toArray r F (listed.setIfInBounds i true))=true:=hg;rw [Bool.and_eq_true] at hg';obtain ⟨hg1,hg2⟩:=hg'
     cases ho:l[i]? with
     | none=>simp [ho] at hg1
     | some o =>
       have hop:l.toArray[i]? = some o:=by simp [ho]
       rw [hop] at hg1;simp only [Bool.and_eq_true,List.all_eq_true] at hg1;obtain ⟨⟨hl,hds⟩,hm⟩:=hg1;have hds':∀ f∈F,o.dst≠some f.slot:=fun f hf=>by simpa using hds f hf
       have hm':=allMasks_spec F _ hm m;simp only [Bool.and_eq_true] at hm';rw [picks,ho] at h;obtain ⟨fuel,rfl⟩:∃ k,fuel=k+1:=⟨fuel - 1,by simp only [cnt] at hf;omega⟩;have q:=h x;unfold wpQuiet at q;have next:∀ v',wpSf P l.toArray C Q n0 (picks l r) F H L ((fill F x a).put o.dst v') w→wpAnyH P .any l.toArray Q C fuel ((marks listed (doneOf F m)).setIfInBounds i true) ((fill F x a).put o.dst v') w':=fun v' hnx=>by
        have k:=ih r F H L (listed.setIfInBounds i true) fuel ((fill F x a).put o.dst v') w m x w' (by simp at hn;omega) hg2 hF hs hi ⟨fun f hff hmf=>?_,hI.new,hI.apart,hI.past,hI.met⟩ hb hc (by simp only [cnt] at hf;omega) hnx
        ·rw [fill_put x o.dst v' F a hds',fill_idem,← marks_set] at k
         rw [fill_put x o.dst v' F a hds'];exact k
        ·rw [getD_put _ o.dst v' f.slot (hds' f hff),getD_fill x f.slot F a fun g hg e=>by rw [← e];obtain rfl:=nodup_same hs f hff g hg e;exact hI.old g hg hmf]
         exact hI.old f hff hmf
       by_cases hw:Region.wanted o (yielded l.toArray (fill F x a).tmps)=true
       ·rw [if_pos hw] at q
        obtain ⟨v',hv',e⟩:=q;refine wpAnyH_take (v:=v') hop hsel hm'.1 hm'.2 (fun c a w=>hQ c _ _ a w) (.inl ⟨hw,fun w2 hw2=>?_⟩) hc (next v' e);have q2:=hv' w2 hw2;unfold Oper.quietAt at q2
        cases e2:(execOp (fill F x a).eval o).run P w2 with
        | halt y w1=>rw [e2] at q2;cases q2
        | ok nx w1 =>
          obtain ⟨u,rfl⟩:=light_value hl e2;rw [e2] at q2;obtain ⟨e3,e4⟩:=q2;rw [e3,e4]
       ·rw [if_neg hw] at q
        exact wpAnyH_take (v:=undef) hop hsel hm'.1 hm'.2 (fun c a w=>hQ c _ _ a w) (.inr ⟨by simpa using hw,rfl⟩) hc (next undef q)
   | (1,i) :: r,hg,h,hn,hf =>
     have hg0:=hg;have h0:=h;have hg':(_ && good l.toArray r F (listed.setIfInBounds i true))=true:=hg;rw [Bool.and_eq_true] at hg';obtain ⟨hg1,hg2⟩:=hg'
     cases ho:l[i]? with
     | none=>simp [ho] at hg1
     | some o =>
       have hop:l.toArray[i]? = some o:=by simp [ho]
       rw [hop] at hg1;simp only [Bool.and_eq_true,List.all_eq_true] at hg1;obtain ⟨hds,hm⟩:=hg1;have hds':∀ f∈F,o.dst≠some f.slot:=fun f hf=>by simpa using hds f hf
       have hm':=allMasks_spec F _ hm m;simp only [Bool.and_eq_true,List.all_eq_true] at hm';rw [picks,ho] at h;obtain ⟨hw,hwp⟩:=h x w' hb hc;obtain ⟨fuel,rfl⟩:∃ k,fuel=k+1:=⟨fuel - 1,by simp only [cnt] at hf;omega⟩;refine wpAnyH_all rfl (fun e=>by rw [e] at hm';simp at hm') fun j hj=>?_;have hj':=hm'.2 j hj;rw [Bool.or_eq_true] at hj'
       rcases hj' with e | hfl
       ·obtain rfl:j=i:=by simpa using e
        unfold wpOp;simp only [hop,hw,if_true];refine .inl (Oper.wp_mono (fun a'' w'' hh=>?_) (wp_put hwp));obtain ⟨⟨ds,v,rfl⟩,c2,hsz,hbel,hT⟩:=hh;refine ⟨c2,?_⟩;have k:=ih r F _ L (listed.setIfInBounds j true) fuel ((withD (fill F x a) ds).put o.dst v) w'' m x w'' (by simp at hn;omega) hg2 hF hs hi ⟨fun f hff hmf=>?_,fun f hff hmf=>?_,hI.apart,fun p hp=>?_,fun g hg=>Nat.lt_of_lt_of_le (hI.met g hg) hsz⟩ (Below.refl _ _) c2 (by simp only [cnt] at hf;omega) hT
        ·rw [fill_D,fill_put x o.dst v F _ hds',fill_idem,← marks_set] at k
         rw [fill_D,fill_put x o.dst v F _ hds'];exact k
        ·rw [fill_D,getD_put _ o.dst v f.slot (hds' f hff),getD_fill x f.slot F _ fun g hg e=>by rw [← e];obtain rfl:=nodup_same hs f hff g hg e;exact hI.old g hg hmf]
         exact hI.old f hff hmf
        ·obtain ⟨g,g1,g2,g3,g4,g5⟩:=hI.new f hff hmf
         refine ⟨g,g1,((hbel (List.ne_nil_of_mem hff)).block g (lt_of_block g2)).trans g2,g3,fun p hp=>?_,g5⟩
         rcases List.mem_cons.1 hp with rfl | hp
         ·exact .inl (lt_of_block g2)
         ·exact g4 p hp
        ·rcases List.mem_cons.1 hp with rfl | hp
         ·exact Nat.le_refl _
         ·exact Nat.le_trans (hI.past p hp) hsz
       ·obtain ⟨f,hff,he⟩:=List.any_eq_true.1 hfl
        rw [Bool.and_eq_true] at he;obtain rfl:f.idx=j:=by simpa using he.1
        have hmf:m f.idx=false:=by
         have hd:f.idx ∉ doneOf F m:=by simpa using he.2
         rw [mem_done] at hd
         cases hmm:m f.idx with
         | false=>rfl
         | true=>exact absurd ⟨hmm,f,hff,rfl⟩ hd
        exact float ih hC hA hn hg0 hF hs hi hI hb hc hf h0 f hff hmf
   | (k+2,i) :: r,hg,h,hn,hf =>
     have hg0:=hg;have h0:=h
     match F,hg,h,hF,hs,hi,hI,hf,hg0,h0 with
     | [],hg,h,_,_,_,_,_,_,_=>simp [good] at hg
     | f :: F,hg,h,hF,hs,hi,hI,hf,hg0,h0 =>
       have hg':((l.toArray[i]?).isSome && allMasks (f :: F) _ && good l.toArray r F (listed.setIfInBounds f.idx true))=true:=hg;rw [Bool.and_eq_true,Bool.and_eq_true] at hg';obtain ⟨⟨hio,hm⟩,hg2⟩:=hg';have hm':=allMasks_spec (f :: F) _ hm m
       cases hmm:m f.idx with
       | true =>
         obtain ⟨g,g1,g2,g3,g4,g5⟩:=hI.new f (List.mem_cons_self ..) hmm;have hp:∀ {o:Oper},wpSf P l.toArray C Q n0 ((k+2,o) :: picks l r) (f :: F) H L a w→wpSf P l.toArray C Q n0 (picks l r) F H (g :: L) (a.put (some f.slot) (.pointer (some ⟨g,0,none⟩))) w':=fun h=>h g w' hb hc g2 g3 g4 g5;have hT:wpSf P l.toArray C Q n0 (picks l r) F H (g :: L) (a.put (some f.slot) (.pointer (some ⟨g,0,none⟩))) w':=by
          cases ho:l[i]? with
          | none=>simp [ho] at hio
          | some o =>
            rw [picks,ho] at h;exact hp h
         have hd:doneOf (f :: F) m=f.idx :: doneOf F m:=by unfold doneOf;rw [List.filter_cons,if_pos hmm];rfl
         rw [hd]
         show wpAnyH P .any l.toArray Q C fuel (marks (listed.setIfInBounds f.idx true) (doneOf F m)) (fill F x (a.put (some f.slot) (x f.slot))) w'
         rw [g1];rw [List.map_cons,List.nodup_cons] at hs;have hne:∀ f'∈F,f.slot≠f'.slot:=fun f' h' e=>hs.1 (List.mem_map.2 ⟨f',h',e.symm⟩);refine ih r F H (g :: L) _ fuel _ w' m x w' (by simp at hn;omega) hg2 (fun f' h'=>hF f' (List.mem_cons_of_mem _ h')) hs.2 (fun a ha b hb=>hi a (List.mem_cons_of_mem _ ha) b (List.mem_cons_of_mem _ hb)) ⟨fun f' h' hmf=>?_,fun f' h' hmf=>?_,fun f' h' f'' h''=>hI.apart f' (List.mem_cons_of_mem _ h') f'' (List.mem_cons_of_mem _ h''),hI.past,fun b hb=>?_⟩ (Below.refl _ _) hc ?_ hT
         ·rw [getD_put a _ _ f'.slot (fun e=>hne f' h' (Option.some.inj e))]
          exact hI.old f' (List.mem_cons_of_mem _ h') hmf
         ·obtain ⟨b,b1,b2,b3,b4,b5⟩:=hI.new f' (List.mem_cons_of_mem _ h') hmf
          refine ⟨b,b1,b2,b3,b4,fun hl=>?_⟩
          rcases List.mem_cons.1 hl with e | hl
          ·exact hI.apart f' (List.mem_cons_of_mem _ h') f (List.mem_cons_self ..) (fun e=>hne f' h' e.symm) hmf hmm (by rw [b1,g1,e])
          ·exact b5 hl
         ·rcases List.mem_cons.1 hb with rfl | hb
          ·exact lt_of_block g2
          ·exact hI.met b hb
         ·simp only [cnt,left,hmm] at hf
          simpa using hf
       | false =>
         have hd:(doneOf (f :: F) m).contains f.idx=false:=by
          have:f.idx ∉ doneOf (f :: F) m:=fun h=>by rw [mem_done,hmm] at h;simp at h
          simpa using this
         rw [hd,Bool.false_or] at hm';simp only [Bool.and_eq_true,List.all_eq_true] at hm';have lf:=left_on (f :: F) m f (List.mem_cons_self ..) hmm;obtain ⟨fuel,rfl⟩:∃ k,fuel=k+1:=⟨fuel - 1,by omega⟩;refine wpAnyH_all rfl (fun e=>by rw [e] at hm';simp at hm') fun j hj=>?_;obtain ⟨f',hff,he⟩:=List.any_eq_true.1 (hm'.2 j hj);rw [Bool.and_eq_true] at he;obtain rfl:f'.idx=j:=by simpa using he.1
         have hmf:m f'.idx=false:=by
          have hd:f'.idx ∉ doneOf (f :: F) m:=by simpa using he.2
          rw [mem_done] at hd
          cases hmm:m f'.idx with
          | false=>rfl
          | true=>exact absurd ⟨hmm,f',hff,rfl⟩ hd
         exact float ih hC hA hn hg0 hF hs hi hI hb hc hf h0 f' hff hmf
theorem fill_self (a:Act):∀ F:List Fl,fill F (fun s=>a.tmps.getD s undef) a=a
 | []=>rfl
 | f :: r=>by
   have e:a.put (some f.slot) (a.tmps.getD f.slot undef)=a:=by
    simp only [Act.put];have:a.tmps.setIfInBounds f.slot (a.tmps.getD f.slot undef)=a.tmps:=by
     refine Array.ext_getElem? fun k=>?_;rw [Array.getElem?_setIfInBounds]
     by_cases hk:f.slot=k
     ·subst hk
      by_cases hl:f.slot < a.tmps.size
      ·simp [hl]
      ·simp [hl]
     ·simp [hk]
    rw [this]
   show fill r (fun s=>a.tmps.getD s undef) (a.put (some f.slot) (a.tmps.getD f.slot undef))=a
   rw [e];exact fill_self a r
theorem left_all:∀ F:List Fl,left F (fun _=>false)=F.length
 | []=>rfl
 | f :: r=>by show left r _+1=r.length+1;rw [left_all r]
theorem start {id:Nat} {l:List Oper} {Q:Exit→Act→World→Prop} {a:Act} {w:World} (sc:List (Nat×Nat)) (F:List Fl) (hm:P.follows .mixedOrders=true) (hs:Region.noSelect l.toArray=true)
 (hg:good l.toArray sc F (Array.replicate l.toArray.size false)=true) (hc:cnt sc+F.length≤l.toArray.size) (hn:(F.map (·.slot)).Nodup) (hi:∀ f∈F,∀ f'∈F,f.idx=f'.idx→f.slot=f'.slot) (hF:∀ f∈F,FlOk P l f)
 (h:wpSf P l.toArray (fun w'=>∃ p:By w,w'=p.world) (NoPanic Q) w.heap.size (picks l sc) F [] [] a w.drew):(Code.region id l.toArray true).wp P Q a w :=
 wp_region_noPanic (wp_region_held_drew (S:=Cl w) hm (Cl.of (Below.refl _ _).drew) fun _=>by
  have hd:doneOf F (fun _=>false) = []:=by unfold doneOf;simp
  have k:=holds (P:=P) (l:=l) (C:=Cl w) (Q:=NoPanic Q) (n0:=w.heap.size) hs (fun _ _ _ _ _ h=>h) (fun w' h=>h.bel.size) (fun w' o h=>Cl.of (h.bel.alloc h.bel.size o)) (2 * l.toArray.size+sc.length) sc F [] [] (Array.replicate l.toArray.size false) l.toArray.size a w.drew (fun _=>false) (fun s=>a.tmps.getD s undef) w.drew
   (Nat.le_refl _) hg hF hn hi ⟨fun _ _ _=>rfl,fun _ _ h=>(by cases h),fun _ _ _ _ _ h=>(by cases h),fun _ hp=>(by cases hp),fun _ hg=>(by cases hg)⟩ (Below.refl _ _) (Cl.of (Below.refl _ _).drew) (by rw [left_all];exact hc) h
  rw [hd,fill_self] at k
  exact k)
section
variable {ops:Array Oper} {a:Act} {w:World} {o:Oper} {r:List (Nat×Oper)} {F:List Fl} {H:List (Nat×Nat)} {L:List Nat}
theorem lit (h:∀ x,wpQuiet P ops C (fun a'=>wpSf P ops C Q n0 r F H L a' w) [o] (fill F x a)):wpSf P ops C Q n0 ((0,o) :: r) F H L a w:=h
theorem call (h:∀ x w',Below w.heap.size w w'→C w'→Region.wanted o (yielded ops (fill F x a).tmps)=true ∧
 ∀ K:Act→World→Prop,(∀ a'' w'',C w''→w'.heap.size≤w''.heap.size→(F≠[]→Below w'.heap.size w' w'')→wpSf P ops C Q n0 r F ((w'.heap.size,w''.heap.size) :: H) L a'' w''→K a'' w'')→o.wp P (fill F x a) w' K Q) :
 wpSf P ops C Q n0 ((1,o) :: r) F H L a w:=fun x w' hb hc=>⟨(h x w' hb hc).1,(h x w' hb hc).2 _ fun _ _ c s b k=>⟨c,s,b,k⟩⟩
theorem meet {f:Fl} (h:∀ g w',Below w.heap.size w w'→C w'→w'.heap[g]? = some (.cells f.cs f.ty (0,0))→n0≤g→(∀ p∈H,g < p.1∨p.2≤g)→g ∉ L→wpSf P ops C Q n0 r F H (g :: L) (a.put (some f.slot) (.pointer (some ⟨g,0,none⟩))) w') :
 wpSf P ops C Q n0 ((2,o) :: r) (f :: F) H L a w:=h
theorem done {Q:Exit→Act→World→Prop} (h:∀ w',Below w.heap.size w w'→C w'→Q .normal a w'):wpSf P ops C (NoPanic Q) n0 [] F H L a w:=h
end
end
end Go.Proofs.YtljnkaodhfnbbaaGreatDoor.Sf
namespace Go.Proofs.YtljnkaodhfnbbaaGreatDoor.Fl
open Go.RowKit
open Rw (Rd Ow At)
attribute [local irreducible] Sd.wpSd wpQuiet Sf.wpSf
theorem rat_set (l:List R4) (k:Nat) (hk:k < l.length) (y:R4):rat (l.set k y) k=y:=by simp [rat,List.getD,hk]
theorem set_rat (l:List R4) (k:Nat) (hk:k < l.length):l.set k (rat l k)=l:=by
 have:rat l k=l[k]:=by simp [rat,List.getD,List.getElem?_eq_getElem hk]
 rw [this,List.set_getElem_self]
theorem own4 {w:World} {B:Nat} {l:List R4} {g n cap:Nat} (h:Ow K4 w B 42 (.slice (some ⟨g,0,none⟩) n cap) l) (k:Nat) (hk:k < l.length) :
 (w.cell? ⟨g,k * 4,none⟩=some (.int .u8 (rat l k).1)∧w.cell? ⟨g,k * 4+1,none⟩=some (.int .u8 (rat l k).2.1)∧w.cell? ⟨g,k * 4+2,none⟩=some (.int .u8 (rat l k).2.2.1)∧w.cell? ⟨g,k * 4+3,none⟩=some (.int .u8 (rat l k).2.2.2))∧(∀ j,w.frozen? ⟨g,j,none⟩=false)∧B≤g∧g < w.heap.size:=by
 obtain ⟨g',cap',eg,h1,h2,_,_,hf,hA⟩:=h.form (by omega);have e:g=g':=by
  injection eg with e1;injection e1 with e1;injection e1 with e1 _ _
 subst e;have c:=at4 hA k hk;simp only [Nat.zero_add] at c;exact ⟨c,hf,h1,h2⟩
theorem own_form {w:World} {B:Nat} {l:List R4} {u:Value} (h:Ow K4 w B 42 u l) (hl:0 < l.length):∃ g cap,u = .slice (some ⟨g,0,none⟩) l.length cap:=by
 obtain ⟨g,cap,e,_⟩:=h.form hl;exact ⟨g,cap,e⟩
structure Have (w:World) (p:Int) (v:Value) (x:R4) (gF:Nat) (u:Value) (m:List R4) (W:World):Prop where
 st:Start w p v x W
 row:W.heap[gF]? = some (.cells #[.int .i64 p,u] 70 (0,0))
 own:Ow K4 W (w.heap.size+4) 42 u m
 ge:w.heap.size+4≤gF
 ne:u.ownBlock≠some gF
theorem Have.mono {w W W':World} {p:Int} {v u:Value} {x:R4} {gF:Nat} {m:List R4} (h:Have w p v x gF u m W) (b:Below W.heap.size W W'):Have w p v x gF u m W' :=
 ⟨h.st.mono b,(b.block _ (lt_of_block h.row)).trans h.row,h.own.keep b,h.ge,h.ne⟩
theorem Have.put {w W:World} {p:Int} {v:Value} {x:R4} {gF gu n cu:Nat} {m:List R4} (h:Have w p v x gF (.slice (some ⟨gu,0,none⟩) n cu) m W) (hn:n=m.length) (k:Nat) (hk:k < m.length) (y:R4) :
 Have w p v x gF (.slice (some ⟨gu,0,none⟩) n cu) (m.set k y) (sto4 W gu (k * 4) y):=by
 have hge:=(own4 h.own k hk).2.2.1;have hne:gF≠gu:=fun e=>h.ne (by rw [e];rfl);exact ⟨⟨sto4_other h.st.box (by omega),sto4_other h.st.arg (by omega),sto4_other h.st.res1 (by omega),sto4_other h.st.res2 (by omega),by rw [sto4_size];exact h.st.siz,sto4_below h.st.bel (by omega)⟩,sto4_other h.row hne,sto4_own h.own hn k hk y,h.ge,h.ne⟩
def Last (w:World) (p:Int) (gF:Nat) (u:Value) (m:List R4) (W:World):Prop:=W.heap[gF]? = some (.cells #[.int .i64 p,u] 70 (0,0))∧Ow K4 W (w.heap.size+4) 42 u m
set_option maxHeartbeats 1000000 in
theorem do_no (w:World) (p:Int) (a:Option Addr) (n cap:Nat) (l:List R4) (R:Rd K4 w (.slice a n cap) l) (op rec:Int) (x:R4) (he:¬ doE p l op rec=0):Calls Tryz.prog 178 #[file p (.slice a n cap),.int .i64 op,.int .i64 rec,rec4 x] w (DoPost w p l op rec x):=by
 have S0:Hid (Start w p (.slice a n cap) x ((((w.alloc (.cells #[.int .i64 p,.slice a n cap] 70)).alloc (.cells #[.int .u8 x.1,.int .u8 x.2.1,.int .u8 x.2.2.1,.int .u8 x.2.2.2] 42)).alloc (.cells #[.int .i64 0,.slice none 0 0] 70)).alloc (.cells #[.int .u8 0,.int .u8 0,.int .u8 0,.int .u8 0] 42))):=Lib.hid (Start.of w p _ x);have WR:=Lib.hid (wrong_any _ p _ l (R.below S0.out.bel) op rec);have E:Hid (∀ w',Below w.heap.size w w'→DoPost w p l op rec x (.returned (.tuple #[file 0 (.slice none 0 0),rec4 z4,.int .i64 (doE p l op rec)])) w'):=fun w' h=>⟨.slice none 0 0,by rw [if_neg he,if_neg he],by rw [if_neg he];exact Ow.nil _ _ _,h⟩;have hd:(doE p l op rec != 0)=true:=by simpa using he
 clear R he;generalize doE p l op rec=d at *;unfold file rec4 at *
 go_enter Tryz.func178,Tryz.ntmps178
 go_wp2_with fail;generalize (((w.alloc (.cells #[.int .i64 p,.slice a n cap] 70)).alloc (.cells #[.int .u8 x.1,.int .u8 x.2.1,.int .u8 x.2.2.1,.int .u8 x.2.2.2] 42)).alloc (.cells #[.int .i64 0,.slice none 0 0] 70)).alloc (.cells #[.int .u8 0,.int .u8 0,.int .u8 0,.int .u8 0] 42)=W at *;refine WR.out.mono ?_;rintro e w1 ⟨rfl,b1⟩;have S1:=Lib.hid (S0.out.mono b1);clear b1 S0 WR;have c0:w1.cell? ⟨w.heap.size+2,0,none⟩=some (.int .i64 0):=row_cell S1.out.res1 0;have c1:w1.cell? ⟨w.heap.size+2,1,none⟩=some (.slice none 0 0):=row_cell S1.out.res1 1;have d0:w1.cell? ⟨w.heap.size+3,0,none⟩=some (.int .u8 0):=row_cell S1.out.res2 0;have d1:w1.cell? ⟨w.heap.size+3,1,none⟩=some (.int .u8 0):=row_cell S1.out.res2 1;have d2:w1.cell? ⟨w.heap.size+3,2,none⟩=some (.int .u8 0):=row_cell S1.out.res2 2;have d3:w1.cell? ⟨w.heap.size+3,3,none⟩=some (.int .u8 0):=row_cell S1.out.res2 3;have f0:=row_frozen S1.out.res1 0;have f1:=row_frozen S1.out.res1 1;have k0:=row_frozen S1.out.res2 0;have k1:=row_frozen S1.out.res2 1;have k2:=row_frozen S1.out.res2 2;have k3:=row_frozen S1.out.res2 3;have R1:=Lib.hid (sto4_other (g:=w.heap.size+3) (o:=0) (r:=z4) (sto2_row S1.out.res1 0 (.slice none 0 0)) (by omega));have R2:=Lib.hid (sto4_row (sto2_other (g:=w.heap.size+2) (p:=0) (v:=.slice none 0 0) S1.out.res2 (by omega)) z4);have B2:=Lib.hid (sto4_below (o:=0) (r:=z4) (sto2_below (p:=0) (v:=.slice none 0 0) S1.out.bel (show w.heap.size≤w.heap.size+2 by omega)) (show w.heap.size≤w.heap.size+3 by omega));clear S1;go_wp2
 (try simp only [Exit.inBlock,Exit.then])
 exact bodyPost_ret (results_do (p:=8) (q:=9) (r:=10) rfl _ _ (w.heap.size+2) (w.heap.size+3) 0 (.slice none 0 0) z4 d rfl rfl rfl R1.out R2.out) rfl (E.out _ B2.out)
structure Read (w:World) (p:Int) (v:Value) (gF:Nat) (u:Value) (W:World):Prop where
 box:W.heap[w.heap.size]? = some (.cells #[.int .i64 p,v] 70 (0,0))
 row:W.heap[gF]? = some (.cells #[.int .i64 p,u] 70 (0,0))
 bel:Below w.heap.size w W
theorem doE_of {p op rec:Int} {l:List R4} (h:doE p l op rec=0):goodF p l∧(0≤op∧op≤2)∧0≤rec∧rec < l.length:=by
 by_cases h1:goodF p l
 ·by_cases h2:0≤op∧op≤2
  ·by_cases h3:0≤rec∧rec < l.length
   ·exact ⟨h1,h2,h3⟩
   ·rw [doE_4 h1 h2 h3] at h;omega
  ·rw [doE_1 h1 h2] at h;omega
 ·rw [doE_2 h1] at h;omega
set_option maxHeartbeats 4000000 in
theorem do_yes (w:World) (p:Int) (a:Option Addr) (n cap:Nat) (l:List R4) (R:Rd K4 w (.slice a n cap) l) (hl:okL l) (op:Int) (k:Nat) (x:R4) (he:doE p l op k=0) (ho:0≤op∧op≤2) (hk:k < l.length) (h256:l.length≤256):Calls Tryz.prog 178 #[file p (.slice a n cap),.int .i64 op,.int .i64 (k:Int),rec4 x] w (DoPost w p l op k x):=by
 obtain ⟨b,off,rfl,hA⟩:∃ b off,a=some ⟨b,off,none⟩∧At K4 w b off l:=by
  obtain ⟨a',cap',e,_,_,h4⟩:=R;injection e with e1 e2 e3;subst e1;exact h4 (by omega)
 have hn:n=l.length:=by
  obtain ⟨a',cap',e,_⟩:=R;injection e
 have S0:Hid (Start w p (.slice (some ⟨b,off,none⟩) n cap) x ((((w.alloc (.cells #[.int .i64 p,.slice (some ⟨b,off,none⟩) n cap] 70)).alloc (.cells #[.int .u8 x.1,.int .u8 x.2.1,.int .u8 x.2.2.1,.int .u8 x.2.2.2] 42)).alloc (.cells #[.int .i64 0,.slice none 0 0] 70)).alloc (.cells #[.int .u8 0,.int .u8 0,.int .u8 0,.int .u8 0] 42))):=Lib.hid (Start.of w p _ x);have WR:=Lib.hid (at_int he (wrong_any _ p _ l (R.below S0.out.bel) op k));have E:Hid (∀ y u w',y=newR l op k x→Ow K4 w' w.heap.size 42 u (l.set k y)→Below w.heap.size w w'→DoPost w p l op k x (.returned (.tuple #[file p u,rec4 y,.int .i64 0])) w'):=fun y u w' hy h hb=>⟨u,by rw [if_pos he,if_pos he,he,hy],by rw [if_pos he,← hy,Int.toNat_natCast];exact h,hb⟩;have HLL:=Lib.hid (And.intro hk (And.intro hn h256));have RR:=Lib.hid R;have HA:=Lib.hid hA;have OK:=Lib.hid hl;have hkn:k < n:=by omega
 have hn0:n < 2147483648:=by omega
 clear he R hA hl hn h256 hk;unfold file rec4 at *
 go_enter Tryz.func178,Tryz.ntmps178
 go_wp2_with fail;generalize (((w.alloc (.cells #[.int .i64 p,.slice (some ⟨b,off,none⟩) n cap] 70)).alloc (.cells #[.int .u8 x.1,.int .u8 x.2.1,.int .u8 x.2.2.1,.int .u8 x.2.2.2] 42)).alloc (.cells #[.int .i64 0,.slice none 0 0] 70)).alloc (.cells #[.int .u8 0,.int .u8 0,.int .u8 0,.int .u8 0] 42)=W at *;refine WR.out.mono ?_;rintro e w1 ⟨rfl,b1⟩;have S1:=Lib.hid (S0.out.mono b1);clear b1 S0 WR;go_wp2_with fail;have s0:=Sd.cell_by (show w1.cell? ⟨w.heap.size,0,none⟩=some (.int .i64 p) from row_cell S1.out.box 0);have s1:=Sd.cell_by (show w1.cell? ⟨w.heap.size,1,none⟩=some (.slice (some ⟨b,off,none⟩) n cap) from row_cell S1.out.box 1);refine Sf.start [(0,0),(0,1),(0,2),(0,3),(1,4),(0,5),(2,6),(1,7)] [⟨6,12,#[.int .i64 0,.slice none 0 0],70⟩] (by kernel_rfl) (by kernel_rfl) (by kernel_rfl) (by decide) (by decide) ?_ ?_ ?_
 ·simp
 ·intro f hf
  simp only [List.mem_cons,List.not_mem_nil,or_false] at hf;subst hf;exact ⟨_,rfl,rfl,rfl,fun ρ w=>by go_simp⟩
 dsimp only [Sf.picks,List.getElem?_cons_succ,List.getElem?_cons_zero];have BW:=Lib.hid ((Below.refl w1.heap.size w1).drew)
 repeat (refine Sf.lit (fun xs=>?_);simp only [Sf.fill,List.foldl_cons,List.foldl_nil];quiet_step (fail);refine wpQuiet_nil ?_)
 refine Sf.call (fun xs w3 hb hc=>⟨by rfl,fun K hK=>?_⟩);have B3:=Lib.hid (BW.out.trans (hb.mono BW.out.size));clear hb hc BW;simp only [Sf.fill,List.foldl_cons,List.foldl_nil];go_simp;have R3:=RR.out.below (S1.out.bel.trans (B3.out.mono (by have:=S1.out.siz;omega)));refine (clone_any _ _ l R3 (by have:=HLL.out.2.2;omega)).mono ?_;rintro e4 w4 ⟨u,rfl,o4,b4⟩;obtain ⟨gu,cu,rfl⟩:=own_form o4 (by have:=HLL.out.1;omega);rw [← HLL.out.2.1] at o4 ⊢;have B4:=Lib.hid (B3.out.trans (b4.mono B3.out.size));have O4:=Lib.hid o4;refine hK _ _ (Sd.Cl.of B4.out) b4.size (fun _=>b4) ?_;clear hK K b4 o4 R3
 repeat (refine Sf.lit (fun xs=>?_);simp only [Sf.fill,List.foldl_cons,List.foldl_nil];quiet_step (fail);refine wpQuiet_nil ?_)
 refine Sf.meet (fun gF w7 hb hc row n7 hH hL=>?_);have B7:=Lib.hid (B4.out.trans (hb.mono B4.out.size));have N7:=Lib.hid (O4.out.range (hH _ (List.mem_cons_self ..)));have O7:=Lib.hid (O4.out.keep hb);have R7:Hid (w7.heap[gF]? = some (.cells #[.int .i64 0,.slice none 0 0] 70 (0,0))):=row;clear hb hc row hH hL B4 O4;refine Sf.call (fun xs w9 hb hc=>⟨by rfl,fun K hK=>?_⟩);have B9:=Lib.hid (B7.out.trans (hb.mono B7.out.size));have O9:=Lib.hid (O7.out.keep hb);have R9:=(hb.block _ (lt_of_block R7.out)).trans R7.out;have c0:w9.cell? ⟨gF,0,none⟩=some (.int .i64 0):=row_cell R9 0;have c1:w9.cell? ⟨gF,1,none⟩=some (.slice none 0 0):=row_cell R9 1;have f0:=row_frozen R9 0;have f1:=row_frozen R9 1;have RA:=sto2_row R9 p (.slice (some ⟨gu,0,none⟩) n cu);have BA:=sto2_below (p:=p) (v:=.slice (some ⟨gu,0,none⟩) n cu) B9.out n7;have OA:=sto2_off (u:=.slice (some ⟨gu,0,none⟩) n cu) O9.out N7.out p;have hs1:=S1.out.siz;have hs3:=B3.out.size;have HB:Hid (Have w p (.slice (some ⟨b,off,none⟩) n cap) x gF (.slice (some ⟨gu,0,none⟩) n cu) l (sto2 w9 gF p (.slice (some ⟨gu,0,none⟩) n cu))):=⟨S1.out.mono BA,RA,OA.low (by omega),by omega,N7.out⟩;have hsz:=sto2_size w9 gF p (.slice (some ⟨gu,0,none⟩) n cu);clear hb hc B7 O7 R7 R9 RA OA B9 O9 N7;simp only [Sf.fill,List.foldl_nil];go_simp;refine hK _ _ (Sd.Cl.of BA) (by rw [← hsz];exact Nat.le_refl _) (fun h=>absurd rfl h) ?_;clear hK K c0 c1 f0 f1
 show Sf.wpSf _ _ _ _ _ _ _ _ _ _ (sto2 w9 gF p (.slice (some ⟨gu,0,none⟩) n cu))
 clear BA hsz;generalize sto2 w9 gF p (.slice (some ⟨gu,0,none⟩) n cu)=wA at *;refine Sf.done (fun wB hb hc=>?_);have HV:=Lib.hid (HB.out.mono hb);clear hb hc HB S1 B3 s0 s1 n7 hs1 hs3
 rcases (by omega:op=0∨op=1∨op=2) with rfl | rfl | rfl
 ·obtain ⟨y,hy⟩:∃ y,rat l k=y:=⟨_,rfl⟩
  have EY:Hid (∀ u w',Ow K4 w' w.heap.size 42 u (l.set k y)→Below w.heap.size w w'→DoPost w p l 0 k x (.returned (.tuple #[file p u,rec4 y,.int .i64 0])) w'):=fun u w'=>E.out y u w' (by rw [← hy];unfold newR;rw [if_neg (by decide),if_neg (by decide),Int.toNat_natCast]);rw [← set_rat l k HLL.out.1,hy] at HV;clear E hy;go_wp2_with fail;generalize wB=Wz at *;obtain ⟨⟨c0,c1,c2,c3⟩,_,_,_⟩:=own4 HV.out.own k (by rw [List.length_set];exact HLL.out.1);rw [rat_set l k HLL.out.1] at c0 c1 c2 c3;have C0:Last w p gF (.slice (some ⟨gu,0,none⟩) n cu) (l.set k y) Wz.drew:=⟨HV.out.row,HV.out.own⟩;have r0:=Sc.cell_in (C:=Last w p gF (.slice (some ⟨gu,0,none⟩) n cu) (l.set k y)) (a:=⟨gF,0,none⟩) (fun W' h=>row_cell h.1 0);have r1:=Sc.cell_in (C:=Last w p gF (.slice (some ⟨gu,0,none⟩) n cu) (l.set k y)) (a:=⟨gF,1,none⟩) (fun W' h=>row_cell h.1 1);have HQ:Hid (∀ W',Last w p gF (.slice (some ⟨gu,0,none⟩) n cu) (l.set k y) W'→(W'.cell? ⟨gu,k * 4,none⟩=some (.int .u8 y.1)∧W'.cell? ⟨gu,k * 4+1,none⟩=some (.int .u8 y.2.1)∧W'.cell? ⟨gu,k * 4+2,none⟩=some (.int .u8 y.2.2.1)∧W'.cell? ⟨gu,k * 4+3,none⟩=some (.int .u8 y.2.2.2))):=fun W' h=>by
   have:=(own4 h.2 k (by rw [List.length_set];exact HLL.out.1)).1;rw [rat_set l k HLL.out.1] at this;exact this
  have q0:=Sc.cell_in (C:=Last w p gF (.slice (some ⟨gu,0,none⟩) n cu) (l.set k y)) (fun W' h=>(HQ.out W' h).1);have q1:=Sc.cell_in (C:=Last w p gF (.slice (some ⟨gu,0,none⟩) n cu) (l.set k y)) (fun W' h=>(HQ.out W' h).2.1);have q2:=Sc.cell_in (C:=Last w p gF (.slice (some ⟨gu,0,none⟩) n cu) (l.set k y)) (fun W' h=>(HQ.out W' h).2.2.1);have q3:=Sc.cell_in (C:=Last w p gF (.slice (some ⟨gu,0,none⟩) n cu) (l.set k y)) (fun W' h=>(HQ.out W' h).2.2.2);have ne:Nonempty (Sc.In (Last w p gF (.slice (some ⟨gu,0,none⟩) n cu) (l.set k y))):=⟨⟨_,C0⟩⟩;clear c0 c1 c2 c3 HQ;refine Sc.start (Last w p gF (.slice (some ⟨gu,0,none⟩) n cu) (l.set k y)) [(false,0),(false,1),(false,2),(false,3),(false,4),(false,5),(true,6),(true,7),(false,8)] (by kernel_rfl) (by kernel_rfl) (by kernel_rfl) C0 ?_;dsimp only [Sd.picks,List.getElem?_cons_succ,List.getElem?_cons_zero]
  repeat (refine Sd.lit ?_;quiet_step (fail);refine wpQuiet_nil ?_)
  have HD:Hid (Have w p (.slice (some ⟨b,off,none⟩) n cap) x gF (.slice (some ⟨gu,0,none⟩) n cu) (l.set k y) Wz.drew):=HV.out.mono ((Below.refl _ _).drew);clear HV r0 r1 q0 q1 q2 q3 C0;generalize Wz.drew=Wy at *;refine Sd.call (by rfl) (fun K hK=>?_);have c0:Wy.cell? ⟨w.heap.size+2,0,none⟩=some (.int .i64 0):=row_cell HD.out.st.res1 0;have c1:Wy.cell? ⟨w.heap.size+2,1,none⟩=some (.slice none 0 0):=row_cell HD.out.st.res1 1;have f0:=row_frozen HD.out.st.res1 0;have f1:=row_frozen HD.out.st.res1 1;have hge:=(own4 HD.out.own k (by rw [List.length_set];exact HLL.out.1)).2.2.1;have hF:=HD.out.ge;have n1:(Value.slice (some ⟨gu,0,none⟩) n cu).ownBlock≠some (w.heap.size+2):=fun e=>by simp [Value.ownBlock] at e;omega
  have n2:(Value.slice (some ⟨gu,0,none⟩) n cu).ownBlock≠some (w.heap.size+3):=fun e=>by simp [Value.ownBlock] at e;omega
  have L1:Last w p gF (.slice (some ⟨gu,0,none⟩) n cu) (l.set k y) (sto2 Wy (w.heap.size+2) p (.slice (some ⟨gu,0,none⟩) n cu)):=⟨sto2_other HD.out.row (by omega),sto2_off HD.out.own n1 p⟩;have R1:=Lib.hid (sto2_row HD.out.st.res1 p (.slice (some ⟨gu,0,none⟩) n cu));have R2:=sto2_other (g:=w.heap.size+2) (p:=p) (v:=.slice (some ⟨gu,0,none⟩) n cu) HD.out.st.res2 (by omega);have B1:=Lib.hid (sto2_below (p:=p) (v:=.slice (some ⟨gu,0,none⟩) n cu) HD.out.st.bel (show w.heap.size≤w.heap.size+2 by omega));clear HD;go_simp;refine hK _ _ (Sc.Cl.of L1) ?_;clear hK K c0 c1 f0 f1
  show Sd.wpSd _ _ _ _ _ _ (sto2 Wy (w.heap.size+2) p (.slice (some ⟨gu,0,none⟩) n cu))
  generalize sto2 Wy (w.heap.size+2) p (.slice (some ⟨gu,0,none⟩) n cu)=Wx at *;refine Sd.call (by rfl) (fun K hK=>?_);have d0:Wx.cell? ⟨w.heap.size+3,0,none⟩=some (.int .u8 0):=row_cell R2 0;have d1:Wx.cell? ⟨w.heap.size+3,1,none⟩=some (.int .u8 0):=row_cell R2 1;have d2:Wx.cell? ⟨w.heap.size+3,2,none⟩=some (.int .u8 0):=row_cell R2 2;have d3:Wx.cell? ⟨w.heap.size+3,3,none⟩=some (.int .u8 0):=row_cell R2 3;have k0:=row_frozen R2 0;have k1:=row_frozen R2 1;have k2:=row_frozen R2 2;have k3:=row_frozen R2 3;have L2:Last w p gF (.slice (some ⟨gu,0,none⟩) n cu) (l.set k y) (sto4 Wx (w.heap.size+3) 0 y):=⟨sto4_other L1.1 (by omega),sto4_off L1.2 n2 y⟩;have R3:=Lib.hid (sto4_row R2 y);have R4:=Lib.hid (sto4_other (g:=w.heap.size+3) (o:=0) (r:=y) R1.out (by omega));have B2:=Lib.hid (sto4_below (o:=0) (r:=y) B1.out (show w.heap.size≤w.heap.size+3 by omega));clear R2 R1 B1 L1;go_simp;refine hK _ _ (Sc.Cl.of L2) ?_;clear hK K d0 d1 d2 d3 k0 k1 k2 k3
  show Sd.wpSd _ _ _ _ _ _ (sto4 Wx (w.heap.size+3) 0 y)
  have O2:=Lib.hid L2.2;clear L2;generalize sto4 Wx (w.heap.size+3) 0 y=Ww at *
  repeat (refine Sd.lit ?_;quiet_step (fail);refine wpQuiet_nil ?_)
  refine Sd.done ?_;go_wp2
  (try simp only [Exit.inBlock,Exit.then])
  exact bodyPost_ret (results_do (p:=8) (q:=9) (r:=10) rfl _ _ (w.heap.size+2) (w.heap.size+3) p _ y 0 rfl rfl rfl R4.out R3.out) rfl (EY.out _ _ (O2.out.low (by omega)) B2.out)
 ·have EY:Hid (∀ u w',Ow K4 w' w.heap.size 42 u (l.set k x)→Below w.heap.size w w'→DoPost w p l 1 k x (.returned (.tuple #[file p u,rec4 x,.int .i64 0])) w'):=fun u w'=>E.out x u w' (by unfold newR;rw [if_pos rfl])
  have HP:=Lib.hid (HV.out.put HLL.out.2.1 k HLL.out.1 x);obtain ⟨⟨c0,c1,c2,c3⟩,hfr,_,_⟩:=own4 HV.out.own k HLL.out.1;have f0:=hfr (k * 4);have f1:=hfr (k * 4+1);have f2:=hfr (k * 4+2);have f3:=hfr (k * 4+3);have r1:wB.cell? ⟨gF,1,none⟩=some (.slice (some ⟨gu,0,none⟩) n cu):=row_cell HV.out.row 1;have a0:wB.cell? ⟨w.heap.size+1,0,none⟩=some (.int .u8 x.1):=row_cell HV.out.st.arg 0;have a1:wB.cell? ⟨w.heap.size+1,1,none⟩=some (.int .u8 x.2.1):=row_cell HV.out.st.arg 1;have a2:wB.cell? ⟨w.heap.size+1,2,none⟩=some (.int .u8 x.2.2.1):=row_cell HV.out.st.arg 2;have a3:wB.cell? ⟨w.heap.size+1,3,none⟩=some (.int .u8 x.2.2.2):=row_cell HV.out.st.arg 3;clear E hfr HV;go_wp2_with fail;clear c0 c1 c2 c3 f0 f1 f2 f3 r1 a0 a1 a2 a3
  show Code.wp _ _ _ _ (sto4 wB gu (k * 4) x)
  generalize sto4 wB gu (k * 4) x=Wz at *;have HV:=HP;clear HP;obtain ⟨⟨c0,c1,c2,c3⟩,_,_,_⟩:=own4 HV.out.own k (by rw [List.length_set];exact HLL.out.1);rw [rat_set l k HLL.out.1] at c0 c1 c2 c3;have C0:Last w p gF (.slice (some ⟨gu,0,none⟩) n cu) (l.set k x) Wz.drew:=⟨HV.out.row,HV.out.own⟩;have r0:=Sc.cell_in (C:=Last w p gF (.slice (some ⟨gu,0,none⟩) n cu) (l.set k x)) (a:=⟨gF,0,none⟩) (fun W' h=>row_cell h.1 0);have r1:=Sc.cell_in (C:=Last w p gF (.slice (some ⟨gu,0,none⟩) n cu) (l.set k x)) (a:=⟨gF,1,none⟩) (fun W' h=>row_cell h.1 1);have HQ:Hid (∀ W',Last w p gF (.slice (some ⟨gu,0,none⟩) n cu) (l.set k x) W'→(W'.cell? ⟨gu,k * 4,none⟩=some (.int .u8 x.1)∧W'.cell? ⟨gu,k * 4+1,none⟩=some (.int .u8 x.2.1)∧W'.cell? ⟨gu,k * 4+2,none⟩=some (.int .u8 x.2.2.1)∧W'.cell? ⟨gu,k * 4+3,none⟩=some (.int .u8 x.2.2.2))):=fun W' h=>by
   have:=(own4 h.2 k (by rw [List.length_set];exact HLL.out.1)).1;rw [rat_set l k HLL.out.1] at this;exact this
  have q0:=Sc.cell_in (C:=Last w p gF (.slice (some ⟨gu,0,none⟩) n cu) (l.set k x)) (fun W' h=>(HQ.out W' h).1);have q1:=Sc.cell_in (C:=Last w p gF (.slice (some ⟨gu,0,none⟩) n cu) (l.set k x)) (fun W' h=>(HQ.out W' h).2.1);have q2:=Sc.cell_in (C:=Last w p gF (.slice (some ⟨gu,0,none⟩) n cu) (l.set k x)) (fun W' h=>(HQ.out W' h).2.2.1);have q3:=Sc.cell_in (C:=Last w p gF (.slice (some ⟨gu,0,none⟩) n cu) (l.set k x)) (fun W' h=>(HQ.out W' h).2.2.2);have ne:Nonempty (Sc.In (Last w p gF (.slice (some ⟨gu,0,none⟩) n cu) (l.set k x))):=⟨⟨_,C0⟩⟩;clear c0 c1 c2 c3 HQ;refine Sc.start (Last w p gF (.slice (some ⟨gu,0,none⟩) n cu) (l.set k x)) [(false,0),(false,1),(false,2),(false,3),(false,4),(false,5),(true,6),(true,7),(false,8)] (by kernel_rfl) (by kernel_rfl) (by kernel_rfl) C0 ?_;dsimp only [Sd.picks,List.getElem?_cons_succ,List.getElem?_cons_zero]
  repeat (refine Sd.lit ?_;quiet_step (fail);refine wpQuiet_nil ?_)
  have HD:Hid (Have w p (.slice (some ⟨b,off,none⟩) n cap) x gF (.slice (some ⟨gu,0,none⟩) n cu) (l.set k x) Wz.drew):=HV.out.mono ((Below.refl _ _).drew);clear HV r0 r1 q0 q1 q2 q3 C0;generalize Wz.drew=Wy at *;refine Sd.call (by rfl) (fun K hK=>?_);have c0:Wy.cell? ⟨w.heap.size+2,0,none⟩=some (.int .i64 0):=row_cell HD.out.st.res1 0;have c1:Wy.cell? ⟨w.heap.size+2,1,none⟩=some (.slice none 0 0):=row_cell HD.out.st.res1 1;have f0:=row_frozen HD.out.st.res1 0;have f1:=row_frozen HD.out.st.res1 1;have hge:=(own4 HD.out.own k (by rw [List.length_set];exact HLL.out.1)).2.2.1;have hF:=HD.out.ge;have n1:(Value.slice (some ⟨gu,0,none⟩) n cu).ownBlock≠some (w.heap.size+2):=fun e=>by simp [Value.ownBlock] at e;omega
  have n2:(Value.slice (some ⟨gu,0,none⟩) n cu).ownBlock≠some (w.heap.size+3):=fun e=>by simp [Value.ownBlock] at e;omega
  have L1:Last w p gF (.slice (some ⟨gu,0,none⟩) n cu) (l.set k x) (sto2 Wy (w.heap.size+2) p (.slice (some ⟨gu,0,none⟩) n cu)):=⟨sto2_other HD.out.row (by omega),sto2_off HD.out.own n1 p⟩;have R1:=Lib.hid (sto2_row HD.out.st.res1 p (.slice (some ⟨gu,0,none⟩) n cu));have R2:=sto2_other (g:=w.heap.size+2) (p:=p) (v:=.slice (some ⟨gu,0,none⟩) n cu) HD.out.st.res2 (by omega);have B1:=Lib.hid (sto2_below (p:=p) (v:=.slice (some ⟨gu,0,none⟩) n cu) HD.out.st.bel (show w.heap.size≤w.heap.size+2 by omega));clear HD;go_simp;refine hK _ _ (Sc.Cl.of L1) ?_;clear hK K c0 c1 f0 f1
  show Sd.wpSd _ _ _ _ _ _ (sto2 Wy (w.heap.size+2) p (.slice (some ⟨gu,0,none⟩) n cu))
  generalize sto2 Wy (w.heap.size+2) p (.slice (some ⟨gu,0,none⟩) n cu)=Wx at *;refine Sd.call (by rfl) (fun K hK=>?_);have d0:Wx.cell? ⟨w.heap.size+3,0,none⟩=some (.int .u8 0):=row_cell R2 0;have d1:Wx.cell? ⟨w.heap.size+3,1,none⟩=some (.int .u8 0):=row_cell R2 1;have d2:Wx.cell? ⟨w.heap.size+3,2,none⟩=some (.int .u8 0):=row_cell R2 2;have d3:Wx.cell? ⟨w.heap.size+3,3,none⟩=some (.int .u8 0):=row_cell R2 3;have k0:=row_frozen R2 0;have k1:=row_frozen R2 1;have k2:=row_frozen R2 2;have k3:=row_frozen R2 3;have L2:Last w p gF (.slice (some ⟨gu,0,none⟩) n cu) (l.set k x) (sto4 Wx (w.heap.size+3) 0 x):=⟨sto4_other L1.1 (by omega),sto4_off L1.2 n2 x⟩;have R3:=Lib.hid (sto4_row R2 x);have R4:=Lib.hid (sto4_other (g:=w.heap.size+3) (o:=0) (r:=x) R1.out (by omega));have B2:=Lib.hid (sto4_below (o:=0) (r:=x) B1.out (show w.heap.size≤w.heap.size+3 by omega));clear R2 R1 B1 L1;go_simp;refine hK _ _ (Sc.Cl.of L2) ?_;clear hK K d0 d1 d2 d3 k0 k1 k2 k3
  show Sd.wpSd _ _ _ _ _ _ (sto4 Wx (w.heap.size+3) 0 x)
  have O2:=Lib.hid L2.2;clear L2;generalize sto4 Wx (w.heap.size+3) 0 x=Ww at *
  repeat (refine Sd.lit ?_;quiet_step (fail);refine wpQuiet_nil ?_)
  refine Sd.done ?_;go_wp2
  (try simp only [Exit.inBlock,Exit.then])
  exact bodyPost_ret (results_do (p:=8) (q:=9) (r:=10) rfl _ _ (w.heap.size+2) (w.heap.size+3) p _ x 0 rfl rfl rfl R4.out R3.out) rfl (EY.out _ _ (O2.out.low (by omega)) B2.out)
 ·have hy:=okR_at OK.out k
  have EY:Hid (∀ u w',Ow K4 w' w.heap.size 42 u (l.set k (inc (rat l k)))→Below w.heap.size w w'→DoPost w p l 2 k x (.returned (.tuple #[file p u,rec4 (inc (rat l k)),.int .i64 0])) w'):=fun u w'=>E.out _ u w' (by unfold newR;rw [if_neg (by decide),if_pos rfl,Int.toNat_natCast]);have INC:=Lib.hid (fun w=>one_any w (rat l k) hy);clear E hy;go_wp2_with fail;have C0:Read w p (.slice (some ⟨b,off,none⟩) n cap) gF (.slice (some ⟨gu,0,none⟩) n cu) wB.drew:=⟨(HV.out.mono (Below.refl wB.heap.size wB).drew).st.box,(HV.out.mono (Below.refl wB.heap.size wB).drew).row,(HV.out.mono (Below.refl wB.heap.size wB).drew).st.bel⟩;have r1:=Sc.cell_in (C:=Read w p (.slice (some ⟨b,off,none⟩) n cap) gF (.slice (some ⟨gu,0,none⟩) n cu)) (a:=⟨gF,1,none⟩) (fun W' h=>row_cell h.row 1);have r2:=Sc.cell_in (C:=Read w p (.slice (some ⟨b,off,none⟩) n cap) gF (.slice (some ⟨gu,0,none⟩) n cu)) (a:=⟨w.heap.size,1,none⟩) (fun W' h=>row_cell h.box 1);have HQ:=Lib.hid (fun (W':World) (h:Read w p (.slice (some ⟨b,off,none⟩) n cap) gF (.slice (some ⟨gu,0,none⟩) n cu) W')=>at4 (HA.out.below h.bel) k HLL.out.1);have q0:=Sc.cell_in (C:=Read w p (.slice (some ⟨b,off,none⟩) n cap) gF (.slice (some ⟨gu,0,none⟩) n cu)) (fun W' h=>(HQ.out W' h).1);have q1:=Sc.cell_in (C:=Read w p (.slice (some ⟨b,off,none⟩) n cap) gF (.slice (some ⟨gu,0,none⟩) n cu)) (fun W' h=>(HQ.out W' h).2.1);have q2:=Sc.cell_in (C:=Read w p (.slice (some ⟨b,off,none⟩) n cap) gF (.slice (some ⟨gu,0,none⟩) n cu)) (fun W' h=>(HQ.out W' h).2.2.1);have q3:=Sc.cell_in (C:=Read w p (.slice (some ⟨b,off,none⟩) n cap) gF (.slice (some ⟨gu,0,none⟩) n cu)) (fun W' h=>(HQ.out W' h).2.2.2);have ne:Nonempty (Sc.In (Read w p (.slice (some ⟨b,off,none⟩) n cap) gF (.slice (some ⟨gu,0,none⟩) n cu))):=⟨⟨_,C0⟩⟩;clear HQ;refine Sc.start (Read w p (.slice (some ⟨b,off,none⟩) n cap) gF (.slice (some ⟨gu,0,none⟩) n cu)) [(false,0),(false,1),(false,2),(false,3),(false,4),(false,5),(false,6),(false,7),(true,8),(false,9),(true,10)] (by kernel_rfl) (by kernel_rfl) (by kernel_rfl) C0 ?_;dsimp only [Sd.picks,List.getElem?_cons_succ,List.getElem?_cons_zero]
  repeat (refine Sd.lit ?_;quiet_step (fail);refine wpQuiet_nil ?_)
  refine Sd.call (by rfl) (fun K hK=>?_);have IC:=INC.out;unfold rec4 at IC;go_simp;refine (IC _).mono ?_;rintro e w3 ⟨rfl,b3⟩;have HB:Hid (Have w p (.slice (some ⟨b,off,none⟩) n cap) x gF (.slice (some ⟨gu,0,none⟩) n cu) l w3):=HV.out.mono (Below.trans ((Below.refl wB.heap.size wB).drew) b3);refine hK _ _ (Sc.Cl.of ⟨HB.out.st.box,HB.out.row,HB.out.st.bel⟩) ?_;clear hK K b3 HV IC INC C0;generalize inc (rat l k)=y at *
  repeat (refine Sd.lit ?_;quiet_step (fail);refine wpQuiet_nil ?_)
  clear r1 r2 q0 q1 q2 q3;refine Sd.call (by rfl) (fun K hK=>?_);have HP:=Lib.hid (HB.out.put HLL.out.2.1 k HLL.out.1 y);obtain ⟨⟨c0,c1,c2,c3⟩,hfr,_,_⟩:=own4 HB.out.own k HLL.out.1;have f0:=hfr (k * 4);have f1:=hfr (k * 4+1);have f2:=hfr (k * 4+2);have f3:=hfr (k * 4+3);clear hfr HB;go_simp;refine hK _ _ (Sc.Cl.of ⟨HP.out.st.box,HP.out.row,HP.out.st.bel⟩) ?_;clear hK K c0 c1 c2 c3 f0 f1 f2 f3 ne
  show Sd.wpSd _ _ _ _ _ _ (sto4 w3 gu (k * 4) y)
  generalize sto4 w3 gu (k * 4) y=Wz at *;have HV:=HP;clear HP;refine Sd.done ?_;go_wp2_with fail;obtain ⟨⟨c0,c1,c2,c3⟩,_,_,_⟩:=own4 HV.out.own k (by rw [List.length_set];exact HLL.out.1);rw [rat_set l k HLL.out.1] at c0 c1 c2 c3;have C0:Last w p gF (.slice (some ⟨gu,0,none⟩) n cu) (l.set k y) Wz.drew:=⟨HV.out.row,HV.out.own⟩;have r0:=Sc.cell_in (C:=Last w p gF (.slice (some ⟨gu,0,none⟩) n cu) (l.set k y)) (a:=⟨gF,0,none⟩) (fun W' h=>row_cell h.1 0);have r1:=Sc.cell_in (C:=Last w p gF (.slice (some ⟨gu,0,none⟩) n cu) (l.set k y)) (a:=⟨gF,1,none⟩) (fun W' h=>row_cell h.1 1);have HQ:Hid (∀ W',Last w p gF (.slice (some ⟨gu,0,none⟩) n cu) (l.set k y) W'→(W'.cell? ⟨gu,k * 4,none⟩=some (.int .u8 y.1)∧W'.cell? ⟨gu,k * 4+1,none⟩=some (.int .u8 y.2.1)∧W'.cell? ⟨gu,k * 4+2,none⟩=some (.int .u8 y.2.2.1)∧W'.cell? ⟨gu,k * 4+3,none⟩=some (.int .u8 y.2.2.2))):=fun W' h=>by
   have:=(own4 h.2 k (by rw [List.length_set];exact HLL.out.1)).1;rw [rat_set l k HLL.out.1] at this;exact this
  have q0:=Sc.cell_in (C:=Last w p gF (.slice (some ⟨gu,0,none⟩) n cu) (l.set k y)) (fun W' h=>(HQ.out W' h).1);have q1:=Sc.cell_in (C:=Last w p gF (.slice (some ⟨gu,0,none⟩) n cu) (l.set k y)) (fun W' h=>(HQ.out W' h).2.1);have q2:=Sc.cell_in (C:=Last w p gF (.slice (some ⟨gu,0,none⟩) n cu) (l.set k y)) (fun W' h=>(HQ.out W' h).2.2.1);have q3:=Sc.cell_in (C:=Last w p gF (.slice (some ⟨gu,0,none⟩) n cu) (l.set k y)) (fun W' h=>(HQ.out W' h).2.2.2);have ne:Nonempty (Sc.In (Last w p gF (.slice (some ⟨gu,0,none⟩) n cu) (l.set k y))):=⟨⟨_,C0⟩⟩;clear c0 c1 c2 c3 HQ;refine Sc.start (Last w p gF (.slice (some ⟨gu,0,none⟩) n cu) (l.set k y)) [(false,0),(false,1),(false,2),(false,3),(false,4),(false,5),(true,6),(true,7),(false,8)] (by kernel_rfl) (by kernel_rfl) (by kernel_rfl) C0 ?_;dsimp only [Sd.picks,List.getElem?_cons_succ,List.getElem?_cons_zero]
  repeat (refine Sd.lit ?_;quiet_step (fail);refine wpQuiet_nil ?_)
  have HD:Hid (Have w p (.slice (some ⟨b,off,none⟩) n cap) x gF (.slice (some ⟨gu,0,none⟩) n cu) (l.set k y) Wz.drew):=HV.out.mono ((Below.refl _ _).drew);clear HV r0 r1 q0 q1 q2 q3 C0;generalize Wz.drew=Wy at *;refine Sd.call (by rfl) (fun K hK=>?_);have c0:Wy.cell? ⟨w.heap.size+2,0,none⟩=some (.int .i64 0):=row_cell HD.out.st.res1 0;have c1:Wy.cell? ⟨w.heap.size+2,1,none⟩=some (.slice none 0 0):=row_cell HD.out.st.res1 1;have f0:=row_frozen HD.out.st.res1 0;have f1:=row_frozen HD.out.st.res1 1;have hge:=(own4 HD.out.own k (by rw [List.length_set];exact HLL.out.1)).2.2.1;have hF:=HD.out.ge;have n1:(Value.slice (some ⟨gu,0,none⟩) n cu).ownBlock≠some (w.heap.size+2):=fun e=>by simp [Value.ownBlock] at e;omega
  have n2:(Value.slice (some ⟨gu,0,none⟩) n cu).ownBlock≠some (w.heap.size+3):=fun e=>by simp [Value.ownBlock] at e;omega
  have L1:Last w p gF (.slice (some ⟨gu,0,none⟩) n cu) (l.set k y) (sto2 Wy (w.heap.size+2) p (.slice (some ⟨gu,0,none⟩) n cu)):=⟨sto2_other HD.out.row (by omega),sto2_off HD.out.own n1 p⟩;have R1:=Lib.hid (sto2_row HD.out.st.res1 p (.slice (some ⟨gu,0,none⟩) n cu));have R2:=sto2_other (g:=w.heap.size+2) (p:=p) (v:=.slice (some ⟨gu,0,none⟩) n cu) HD.out.st.res2 (by omega);have B1:=Lib.hid (sto2_below (p:=p) (v:=.slice (some ⟨gu,0,none⟩) n cu) HD.out.st.bel (show w.heap.size≤w.heap.size+2 by omega));clear HD;go_simp;refine hK _ _ (Sc.Cl.of L1) ?_;clear hK K c0 c1 f0 f1
  show Sd.wpSd _ _ _ _ _ _ (sto2 Wy (w.heap.size+2) p (.slice (some ⟨gu,0,none⟩) n cu))
  generalize sto2 Wy (w.heap.size+2) p (.slice (some ⟨gu,0,none⟩) n cu)=Wx at *;refine Sd.call (by rfl) (fun K hK=>?_);have d0:Wx.cell? ⟨w.heap.size+3,0,none⟩=some (.int .u8 0):=row_cell R2 0;have d1:Wx.cell? ⟨w.heap.size+3,1,none⟩=some (.int .u8 0):=row_cell R2 1;have d2:Wx.cell? ⟨w.heap.size+3,2,none⟩=some (.int .u8 0):=row_cell R2 2;have d3:Wx.cell? ⟨w.heap.size+3,3,none⟩=some (.int .u8 0):=row_cell R2 3;have k0:=row_frozen R2 0;have k1:=row_frozen R2 1;have k2:=row_frozen R2 2;have k3:=row_frozen R2 3;have L2:Last w p gF (.slice (some ⟨gu,0,none⟩) n cu) (l.set k y) (sto4 Wx (w.heap.size+3) 0 y):=⟨sto4_other L1.1 (by omega),sto4_off L1.2 n2 y⟩;have R3:=Lib.hid (sto4_row R2 y);have R4:=Lib.hid (sto4_other (g:=w.heap.size+3) (o:=0) (r:=y) R1.out (by omega));have B2:=Lib.hid (sto4_below (o:=0) (r:=y) B1.out (show w.heap.size≤w.heap.size+3 by omega));clear R2 R1 B1 L1;go_simp;refine hK _ _ (Sc.Cl.of L2) ?_;clear hK K d0 d1 d2 d3 k0 k1 k2 k3
  show Sd.wpSd _ _ _ _ _ _ (sto4 Wx (w.heap.size+3) 0 y)
  have O2:=Lib.hid L2.2;clear L2;generalize sto4 Wx (w.heap.size+3) 0 y=Ww at *
  repeat (refine Sd.lit ?_;quiet_step (fail);refine wpQuiet_nil ?_)
  refine Sd.done ?_;go_wp2
  (try simp only [Exit.inBlock,Exit.then])
  exact bodyPost_ret (results_do (p:=8) (q:=9) (r:=10) rfl _ _ (w.heap.size+2) (w.heap.size+3) p _ y 0 rfl rfl rfl R4.out R3.out) rfl (EY.out _ _ (O2.out.low (by omega)) B2.out)
theorem do_any (w:World) (p:Int) (v:Value) (l:List R4) (R:Rd K4 w v l) (hl:okL l) (op rec:Int) (x:R4):Calls Tryz.prog 178 #[file p v,.int .i64 op,.int .i64 rec,rec4 x] w (DoPost w p l op rec x):=by
 obtain ⟨a,cap,rfl,_⟩:=R.slice
 by_cases he:doE p l op rec=0
 ·obtain ⟨hg,ho,hr⟩:=doE_of he
  obtain ⟨k,rfl⟩:∃ k:Nat,rec=k:=⟨rec.toNat,by omega⟩;exact do_yes w p a _ cap l R hl op k x he ho (by omega) hg.2.2.2.1
 ·exact do_no w p a _ cap l R op rec x he
end Go.Proofs.YtljnkaodhfnbbaaGreatDoor.Fl
namespace Go.Proofs.YtljnkaodhfnbbaaGreatDoor.Ad
open Go.RowKit
def good (o f r:Int):Prop:=0≤o∧o≤2∧0≤f∧f≤63∧0≤r∧r≤255
instance (o f r:Int):Decidable (good o f r):=by unfold good;infer_instance
def goodB (o f r:Int):Bool:=decide (good o f r)
def addr (o f r:Int):Value:=.agg #[.int .i64 o,.int .i64 f,.int .i64 r]
def pair (a b:Int):Value:=.agg #[.int .u8 a,.int .u8 b]
theorem ret_bool {a b:Bool} (h:a=b):Ending.returned (.bool a) = .returned (.bool b):=by rw [h]
end Go.Proofs.YtljnkaodhfnbbaaGreatDoor.Ad
namespace Go.Proofs.YtljnkaodhfnbbaaGreatDoor.Fs
open Go.RowKit
open Fl (R4 z4 K4 rec4 rat goodF goodFB okR okL doE newR okR_at okR_z set_rat inc num bytes file hdr)
open Ad (goodB)
section
variable {α:Type} (κ:α→Int)
def ins (c:α):List α→List α
 | []=>[c]
 | y :: r=>if κ c < κ y then c :: y :: r else y :: ins c r
def put (c:α) (l:List α):List α:=ins κ c (l.filter fun y=>decide (¬ κ y=κ c))
def look (n:Int) (l:List α):Option α:=l.find? fun y=>decide (κ y=n)
def Srt (l:List α):Prop:=l.Pairwise fun y z=>κ y < κ z
variable {κ}
theorem mem_ins {c x:α} : ∀ {l:List α},x∈ins κ c l↔x=c∨x∈l
 | []=>by simp [ins]
 | y :: r=>by
   unfold ins
   split
   ·simp
   ·simp only [List.mem_cons,mem_ins (l:=r)]
    constructor
    ·rintro (h | h | h)
     ·exact .inr (.inl h)
     ·exact .inl h
     ·exact .inr (.inr h)
    ·rintro (h | h | h)
     ·exact .inr (.inl h)
     ·exact .inl h
     ·exact .inr (.inr h)
theorem mem_put {c x:α} {l:List α} : x∈put κ c l↔x=c∨x∈l∧κ x≠κ c:=by
 unfold put;rw [mem_ins,List.mem_filter]
 simp
theorem srt_ins {c:α} : ∀ {l:List α},Srt κ l→(∀ x∈l,κ x≠κ c)→Srt κ (ins κ c l)
 | [],_,_=>by simp [ins,Srt]
 | y :: r,h,hn=>by
   obtain ⟨h1,h2⟩:=List.pairwise_cons.1 h;unfold ins
   split
   ·rename_i hlt
    refine List.pairwise_cons.2 ⟨fun z hz=>?_,h⟩
    rcases List.mem_cons.1 hz with rfl | hz
    ·exact hlt
    ·exact Int.lt_trans hlt (h1 z hz)
   ·rename_i hlt
    have hy:=hn y List.mem_cons_self;refine List.pairwise_cons.2 ⟨fun z hz=>?_,srt_ins h2 fun x hx=>hn x (List.mem_cons_of_mem _ hx)⟩
    rcases mem_ins.1 hz with rfl | hz
    ·omega
    ·exact h1 z hz
theorem srt_put {c:α} {l:List α} (h:Srt κ l):Srt κ (put κ c l):=by
 unfold put;exact srt_ins (h.filter _) fun x hx=>by simpa using (List.mem_filter.1 hx).2
theorem look_none {n:Int} {l:List α} : look κ n l=none↔∀ x∈l,κ x≠n:=by
 unfold look;rw [List.find?_eq_none]
 simp
theorem look_some {n:Int} {l:List α} {c:α} (h:look κ n l=some c):c∈l∧κ c=n:=by
 unfold look at h;exact ⟨List.mem_of_find?_eq_some h,by simpa using List.find?_some h⟩
theorem look_at {l:List α} {c:α} (h:Srt κ l) (hc:c∈l):look κ (κ c) l=some c:=by
 induction l with
 | nil=>cases hc
 | cons y r ih =>
   obtain ⟨h1,h2⟩:=List.pairwise_cons.1 h;unfold look;rw [List.find?_cons]
   rcases List.mem_cons.1 hc with rfl | hc'
   ·simp
   ·have:=h1 c hc'
    rw [decide_eq_false (by omega)];exact ih h2 hc'
theorem put_new {c:α} {l:List α} (h:look κ (κ c) l=none):put κ c l=ins κ c l:=by
 unfold put;rw [List.filter_eq_self.2]
 intro x hx
 simpa using look_none.1 h x hx
theorem ins_at {c:α} : ∀ {l:List α} {k:Nat},(∀ x∈l.take k,κ x < κ c)→(∀ x,l[k]? = some x→κ c < κ x)→ins κ c l=l.take k ++ c :: l.drop k
 | [],k,_,_=>by simp [ins]
 | y :: r,0,_,h2=>by
   have:=h2 y rfl
   simp [ins,this]
 | y :: r,k+1,h1,h2=>by
   have hy:κ y < κ c:=h1 y (by simp);unfold ins;rw [if_neg (by omega),ins_at (l:=r) (k:=k) (fun x hx=>h1 x (by simp [hx])) (fun x hx=>h2 x (by simpa using hx))]
   rfl
theorem filter_other {c:α} : ∀ {r:List α},(∀ x∈r,κ c < κ x)→r.filter (fun y=>decide (¬ κ y=κ c))=r:=fun {r} h=>List.filter_eq_self.2 fun x hx=>by have:=h x hx;simpa using (by omega:¬ κ x=κ c)
theorem put_set {c:α} : ∀ {l:List α} {k:Nat} {x:α},Srt κ l→l[k]? = some x→κ x=κ c→put κ c l=l.set k c
 | y :: r,0,x,h,hx,e=>by
   obtain rfl:y=x:=by simpa using hx
   obtain ⟨h1,h2⟩:=List.pairwise_cons.1 h;have hf:=filter_other (c:=c) (κ:=κ) (r:=r) fun z hz=>by have:=h1 z hz;omega
   unfold put;rw [List.filter_cons,if_neg (by simp [e]),hf]
   cases r with
   | nil=>rfl
   | cons z s =>
     have:=h1 z List.mem_cons_self;unfold ins;rw [if_pos (by omega)]
     rfl
 | y :: r,k+1,x,h,hx,e=>by
   obtain ⟨h1,h2⟩:=List.pairwise_cons.1 h;have hx':r[k]? = some x:=by simpa using hx
   have hlt:=h1 x (List.mem_of_getElem? hx');have ih:=put_set (c:=c) h2 hx' e;unfold put at ih ⊢;rw [List.filter_cons,if_pos (by simp;omega)];unfold ins;rw [if_neg (by omega),ih]
   rfl
variable {β:Type} {κ':β→Int} {f:α→β}
theorem map_ins (hf:∀ x,κ' (f x)=κ x) (c:α):∀ l:List α,(ins κ c l).map f=ins κ' (f c) (l.map f)
 | []=>rfl
 | y :: r=>by
   simp only [ins,List.map_cons,hf]
   split
   ·rfl
   ·rw [List.map_cons,map_ins hf c r]
theorem map_put (hf:∀ x,κ' (f x)=κ x) (c:α) (l:List α):(put κ c l).map f=put κ' (f c) (l.map f):=by
 unfold put;rw [map_ins hf,List.filter_map]
 congr 2
 exact congrArg (fun q=>List.filter q l) (funext fun x=>by simp [hf])
theorem map_look (hf:∀ x,κ' (f x)=κ x) (n:Int) (l:List α):look κ' n (l.map f)=(look κ n l).map f:=by
 unfold look;rw [List.find?_map]
 congr 1
 exact congrArg (fun q=>List.find? q l) (funext fun x=>by simp [hf])
theorem map_srt (hf:∀ x,κ' (f x)=κ x) {l:List α} : Srt κ' (l.map f)↔Srt κ l:=by
 unfold Srt;rw [List.pairwise_map]
 simp [hf]
theorem len_le:∀ {l:List α} {lo hi:Int},Srt κ l→(∀ x∈l,lo≤κ x∧κ x < hi)→lo≤hi→(l.length:Int)≤hi - lo
 | [],lo,hi,_,_,h=>by simp;omega
 | y :: r,lo,hi,h,hb,hle=>by
   obtain ⟨h1,h2⟩:=List.pairwise_cons.1 h;have hy:=hb y List.mem_cons_self;have:=len_le (l:=r) (lo:=κ y+1) (hi:=hi) h2 (fun x hx=>⟨h1 x hx,(hb x (List.mem_cons_of_mem _ hx)).2⟩) (by omega);simp only [List.length_cons]
   omega
end
abbrev Fil:=Int×Int×List R4
abbrev Abs:=List Fil
abbrev key (e:Fil):Int:=e.1
def addE (A:Abs) (n p:Int) (l:List R4):Int:=if 0≤n∧n≤63 then if goodF p l then if (look key n A).isSome then 10 else 0 else 2 else 1
def addA (A:Abs) (n p:Int) (l:List R4):Abs:=if addE A n p l=0 then put key (n,p,l) A else A
def dE (A:Abs) (o f r:Int):Int:=if goodB o f r=true then match look key f A with | none=>3 | some e=>doE e.2.1 e.2.2 o r else 1
def dV (A:Abs) (o f r:Int) (x:R4):R4:=match look key f A with | none=>z4 | some e=>if dE A o f r=0 then newR e.2.2 o r x else z4
def dA (A:Abs) (o f r:Int) (x:R4):Abs:=match look key f A with | none=>A | some e=>if dE A o f r=0 then put key (f,e.2.1,e.2.2.set r.toNat (newR e.2.2 o r x)) A else A
def dD (A:Abs) (o f r d:Int):Int:=if dE A o f r=5 then d+1 else d
def gB (A:Abs) (n r:Int):Bool:=match look key n A with | none=>false | some e=>decide (0≤r∧r < e.2.2.length)
def gV (A:Abs) (n r:Int):R4:=match look key n A with | none=>z4 | some e=>if 0≤r∧r < e.2.2.length then rat e.2.2 r.toNat else z4
def sB (A:Abs) (n r:Int):Bool:=gB A n r && decide (r≠0)
def sA (A:Abs) (n r:Int) (x:R4):Abs:=match look key n A with | none=>A | some e=>if sB A n r=true then put key (n,e.2.1,e.2.2.set r.toNat x) A else A
structure OkA (A:Abs):Prop where
 srt:Srt key A
 nm:∀ e∈A,0≤e.1∧e.1≤63
 good:∀ e∈A,goodF e.2.1 e.2.2
 ok:∀ e∈A,okL e.2.2
theorem OkA.nil:OkA []:=⟨List.Pairwise.nil,nofun,nofun,nofun⟩
theorem OkA.len {A:Abs} (h:OkA A):A.length≤64:=by
 have:=len_le (κ:=key) (lo:=0) (hi:=64) h.srt (fun x hx=>by have:=h.nm x hx;show 0≤x.1∧x.1 < 64;omega) (by omega)
 omega
theorem OkA.put {A:Abs} (h:OkA A) {n p:Int} {l:List R4} (hn:0≤n∧n≤63) (hg:goodF p l) (hl:okL l):OkA (put key (n,p,l) A):=by
 refine ⟨srt_put h.srt,fun e he=>?_,fun e he=>?_,fun e he=>?_⟩ <;> rcases mem_put.1 he with rfl | ⟨hm,_⟩
 ·exact hn
 ·exact h.nm e hm
 ·exact hg
 ·exact h.good e hm
 ·exact hl
 ·exact h.ok e hm
theorem good_set {p:Int} {l:List R4} {k:Nat} {x:R4} (h:goodF p l) (hk:k≠0):goodF p (l.set k x):=by
 obtain ⟨h1,h2,h3,h4,h5⟩:=h;refine ⟨h1,h2,by rw [List.length_set];exact h3,by rw [List.length_set];exact h4,?_⟩;rw [List.length_set,← h5];unfold rat;rw [List.getD_eq_getElem?_getD,List.getD_eq_getElem?_getD,List.getElem?_set_ne (by omega)]
theorem okL_set {l:List R4} {k:Nat} {x:R4} (h:okL l) (hx:okR x):okL (l.set k x):=fun r hr=>by
 rcases List.mem_or_eq_of_mem_set hr with h1 | rfl
 ·exact h r h1
 ·exact hx
theorem okR_inc (r:R4):okR (inc r):=by
 unfold inc Fl.bytes okR;generalize num r=q;refine ⟨⟨?_,?_⟩,⟨?_,?_⟩,⟨?_,?_⟩,?_,?_⟩ <;> simp only <;> omega
theorem okR_new {l:List R4} {o r:Int} {x:R4} (h:okL l) (hx:okR x):okR (newR l o r x):=by
 unfold newR
 split
 ·exact hx
 ·split
  ·exact okR_inc _
  ·exact okR_at h _
theorem good_do {p:Int} {l:List R4} {o r:Int} {x:R4} (h:doE p l o r=0):goodF p (l.set r.toNat (newR l o r x)):=by
 obtain ⟨hg,ho,h0,h1⟩:=Fl.doE_of h
 by_cases hr:r=0
 ·subst hr
  have e:o=0:=by
   unfold doE at h;rw [if_pos hg,if_pos ho,if_pos ⟨h0,h1⟩] at h
   split at h
   ·omega
   ·omega
  subst e
  show goodF p (l.set 0 (newR l 0 0 x))
  have e2:newR l 0 0 x=rat l 0:=by unfold newR;rw [if_neg (by decide),if_neg (by decide)];rfl
  rw [e2,set_rat l 0 (by omega)];exact hg
 ·exact good_set hg (by omega)
theorem OkA.find {A:Abs} (h:OkA A) {n:Int} {e:Fil} (he:look key n A=some e):(0≤n∧n≤63)∧goodF e.2.1 e.2.2∧okL e.2.2∧e.1=n:=by
 obtain ⟨hm,hk⟩:=look_some he;have hk':e.1=n:=hk;exact ⟨hk' ▸ h.nm e hm,h.good e hm,h.ok e hm,hk'⟩
theorem OkA.add {A:Abs} (h:OkA A) {n p:Int} {l:List R4} (hl:okL l):OkA (addA A n p l):=by
 unfold addA
 split
 ·rename_i h0
  unfold addE at h0
  split at h0
  ·rename_i hn
   split at h0
   ·rename_i hg
    exact h.put hn hg hl
   ·omega
  ·omega
 ·exact h
theorem OkA.do {A:Abs} (h:OkA A) {o f r:Int} {x:R4} (hx:okR x):OkA (dA A o f r x):=by
 unfold dA
 split
 ·exact h
 ·rename_i e he
  split
  ·rename_i h0
   obtain ⟨hn,hg,hl,hk⟩:=h.find he;refine h.put hn ?_ (okL_set hl (okR_new hl hx));unfold dE at h0
   split at h0
   ·rw [he] at h0
    exact good_do h0
   ·omega
  ·exact h
theorem OkA.set {A:Abs} (h:OkA A) {n r:Int} {x:R4} (hx:okR x):OkA (sA A n r x):=by
 unfold sA
 split
 ·exact h
 ·rename_i e he
  split
  ·rename_i h0
   obtain ⟨hn,hg,hl,hk⟩:=h.find he;have:r≠0∧0≤r:=by
    unfold sB gB at h0;rw [he] at h0
    simp at h0
    omega
   exact h.put hn (good_set hg (by omega)) (okL_set hl hx)
  ·exact h
end Go.Proofs.YtljnkaodhfnbbaaGreatDoor.Fs
namespace Go.Proofs.YtljnkaodhfnbbaaGreatDoor.Ro
open Go.RowKit
open Rw (Rd Ow At)
open Fl (R4 z4 rec4 K4 okR hdr rat goodF)
abbrev E5:=Int×Int×Int×Int×Int
def z5:E5:=(0,0,0,0,0)
def endE:E5:=(4,0,0,0,0)
def endR:R4:=(4,0,0,0)
def ent (x:E5):Value:=.agg #[.int .i64 x.1,.int .i64 x.2.1,.int .i64 x.2.2.1,.int .i64 x.2.2.2.1,.int .i64 x.2.2.2.2]
def K5:Rw.Kind E5:=⟨fun x=>[.int .i64 x.1,.int .i64 x.2.1,.int .i64 x.2.2.1,.int .i64 x.2.2.2.1,.int .i64 x.2.2.2.2],5,by decide,fun _=>rfl,fun _ u h=>by simp at h;rcases h with rfl | rfl | rfl | rfl | rfl <;> rfl,z5⟩
def place (s f r:Int):Prop:=1≤s∧s≤16∧0≤f∧f≤63∧1≤r∧r≤255
instance (s f r:Int):Decidable (place s f r):=by unfold place;infer_instance
def placeB (s f r:Int):Bool:=decide (place s f r)
def okE (x:E5):Prop:=(1≤x.1∧x.1≤3∧(x.1≠3∨x.2.2.2.2=0)∧place x.2.1 x.2.2.1 x.2.2.2.1∧0≤x.2.2.2.2∧x.2.2.2.2≤3)∨(x.1=4∧x.2.1=0∧x.2.2.1=0∧x.2.2.2.1=0∧x.2.2.2.2=0)
instance (x:E5):Decidable (okE x):=by unfold okE;infer_instance
def okB (x:E5):Bool:=decide (okE x)
theorem ok_yes {x:E5} (h:okE x):okB x=true:=decide_eq_true h
theorem ok_no {x:E5} (h:¬ okE x):okB x=false:=decide_eq_false h
def putR (x:E5):R4:=if okE x then (64 * x.2.2.2.2+x.1,x.2.1,x.2.2.1,x.2.2.2.1) else z4
def putN (x:E5):Int:=if okE x then 0 else 1
def takeX (v:R4):E5:=(v.1 % 64,v.2.1,v.2.2.1,v.2.2.2,v.1 / 64)
def takeE (v:R4):E5:=if okE (takeX v) then takeX v else z5
def takeN (v:R4):Int:=if okE (takeX v) then 0 else 2
theorem okE_bounds {x:E5} (h:okE x):(1≤x.1∧x.1≤4)∧(0≤x.2.1∧x.2.1≤16)∧(0≤x.2.2.1∧x.2.2.1≤63)∧(0≤x.2.2.2.1∧x.2.2.2.1≤255)∧0≤x.2.2.2.2∧x.2.2.2.2≤3:=by
 unfold okE place at h
 omega
theorem ok_slot {x:E5} (h:okE x):x.1≠4↔0 < x.2.1:=by
 unfold okE place at h
 omega
theorem at5 {w:World} {b off:Nat} {l:List E5} (h:At K5 w b off l) (i:Nat) (hi:i < l.length) :
 w.cell? ⟨b,off+i * 5,none⟩=some (.int .i64 (l.getD i z5).1)∧w.cell? ⟨b,off+i * 5+1,none⟩=some (.int .i64 (l.getD i z5).2.1)∧w.cell? ⟨b,off+i * 5+2,none⟩=some (.int .i64 (l.getD i z5).2.2.1)∧w.cell? ⟨b,off+i * 5+3,none⟩=some (.int .i64 (l.getD i z5).2.2.2.1)∧w.cell? ⟨b,off+i * 5+4,none⟩=some (.int .i64 (l.getD i z5).2.2.2.2) :=
 ⟨h i hi 0 _ rfl,h i hi 1 _ rfl,h i hi 2 _ rfl,h i hi 3 _ rfl,h i hi 4 _ rfl⟩
theorem infoE:(Tryz.prog.info? 87).map (fun i=>(i.zero,i.size,i.bytes))=some (some (.agg #[.int .i64 0,.int .i64 0,.int .i64 0,.int .i64 0,.int .i64 0]),5,40):=by kernel_rfl
theorem eq_ent (x y:E5) (w:World):(Op.equalIn 10000 87 (.agg #[.int .i64 x.1,.int .i64 x.2.1,.int .i64 x.2.2.1,.int .i64 x.2.2.2.1,.int .i64 x.2.2.2.2]) (.agg #[.int .i64 y.1,.int .i64 y.2.1,.int .i64 y.2.2.1,.int .i64 y.2.2.2.1,.int .i64 y.2.2.2.2])).run Tryz.prog w = .ok (decide (x=y)) w:=by
 have u3:=Tryz.underlying3;have a3:=Tryz.isAgg3;have z3:=Tryz.sizeOf3;have hS:Tryz.prog.underlying 87=some (.struct (Tryz.prog.fieldsOf 87)):=by kernel_rfl
 have hp:Tryz.prog.stoodInHeld 87=false:=by kernel_rfl
 obtain ⟨x1,x2,x3,x4,x5⟩:=x;obtain ⟨y1,y2,y3,y4,y5⟩:=y;rw [show (10000:Nat)=9999+1 from rfl,run_equalIn_agg w 9999 87 _ _ hS hp];simp only [Program.fieldsOf,Tryz.underlying87];go_simp
 by_cases h1:x1=y1 <;> by_cases h2:x2=y2 <;> by_cases h3:x3=y3 <;> by_cases h4:x4=y4 <;> by_cases h5:x5=y5 <;> simp [h1,h2,h3,h4,h5]
end Go.Proofs.YtljnkaodhfnbbaaGreatDoor.Ro
namespace Go.Proofs.YtljnkaodhfnbbaaGreatDoor.Ro
open Go.RowKit
open Rw (Rd Ow At)
open Fl (R4 z4 rec4 K4 okR okL hdr rat goodF)
def eat (l:List E5) (i:Nat):E5:=l.getD i z5
def prevS (l:List E5) (i:Nat):Int:=if i=0 then 0 else (eat l (i - 1)).2.1
def okAt (l:List E5) (i:Nat):Prop:=okE (eat l i)∧prevS l i < (eat l i).2.1
instance (l:List E5) (i:Nat):Decidable (okAt l i):=by unfold okAt;infer_instance
def mayP (l:List E5):Prop:=∀ i,i < l.length→okAt l i
instance (l:List E5):Decidable (mayP l):=by unfold mayP;infer_instance
def mayB (l:List E5):Bool:=decide (mayP l)
theorem prev_zero (l:List E5):prevS l 0=0:=rfl
theorem prev_next (l:List E5) (k:Nat):prevS l (k+1)=(eat l k).2.1:=rfl
theorem prev_ge {l:List E5} {n:Nat} (h:∀ i,i < n→okAt l i) (k:Nat) (hk:k≤n):(k:Int)≤prevS l k:=by
 induction k with
 | zero=>exact Int.le_refl _
 | succ k ih =>
   have h1:=ih (by omega);have h2:=(h k (by omega)).2;rw [prev_next]
   omega
theorem may_len {l:List E5} (h:mayP l):l.length≤16:=by
 have h1:=prev_ge h l.length (Nat.le_refl _)
 rcases e:l.length with _ | n
 ·omega
 ·rw [e,prev_next] at h1
  have:=(okE_bounds (h n (by omega)).1).2.1.2
  omega
theorem okAt_iff {l:List E5} {k:Nat} (h:∀ i,i < k→okAt l i):okAt l k↔okE (eat l k)∧(eat l k).1≠4∧¬ (0 < k∧(eat l k).2.1≤prevS l k):=by
 have h1:=prev_ge h k (Nat.le_refl _)
 constructor
 ·intro g
  exact ⟨g.1,(ok_slot g.1).2 (by have:=g.2;omega),by have:=g.2;omega⟩
 ·intro ⟨g1,g2,g3⟩
  refine ⟨g1,?_⟩;have:=(ok_slot g1).1 g2
  by_cases e:k=0
  ·subst e;rw [prev_zero];exact this
  ·omega
theorem eat_get {l:List E5} {i:Nat} (h:i < l.length):l[i]? = some (eat l i):=by
 unfold eat;rw [List.getD_eq_getElem?_getD,List.getElem?_eq_getElem h]
 rfl
theorem eat_mem {l:List E5} {i:Nat} (h:i < l.length):eat l i∈l:=List.mem_of_getElem? (eat_get h)
def scan:List R4→Option (List E5)
 | []=>some []
 | v :: r=>if okE (takeX v) then (if (takeX v).1=4 then some [] else (scan r).map (takeX v :: ·)) else none
def tabO (p:Int) (l:List R4):Option (List E5):=if goodF p l then (scan (l.drop 1)).filter mayB else none
def tabL (p:Int) (l:List R4):List E5:=(tabO p l).getD []
def tabN (p:Int) (l:List R4):Int:=if (tabO p l).isSome then 0 else 2
theorem tab_may (p:Int) (l:List R4):mayP (tabL p l):=by
 unfold tabL
 rcases e:tabO p l with _ | m
 ·intro i hi;exact absurd hi (by simp)
 ·unfold tabO at e
  by_cases h:goodF p l
  ·rw [if_pos h] at e
   rw [Option.filter_eq_some_iff] at e;exact of_decide_eq_true e.2
  ·rw [if_neg h] at e;cases e
theorem tab_bad {p:Int} {l:List R4} (h:¬ goodF p l):tabL p l = []∧tabN p l=2:=by
 have e:tabO p l=none:=by unfold tabO;rw [if_neg h]
 unfold tabL tabN;rw [e];exact ⟨rfl,rfl⟩
theorem tab_stop {p:Int} {l:List R4} (h:scan (l.drop 1)=none):tabL p l = []∧tabN p l=2:=by
 have e:tabO p l=none:=by unfold tabO;rw [h];split <;> rfl
 unfold tabL tabN;rw [e];exact ⟨rfl,rfl⟩
theorem tab_yes {p:Int} {l:List R4} {m:List E5} (hg:goodF p l) (h:scan (l.drop 1)=some m) (hm:mayP m):tabL p l=m∧tabN p l=0:=by
 have e:tabO p l=some m:=by unfold tabO;rw [if_pos hg,h,Option.filter_eq_some_iff];exact ⟨rfl,decide_eq_true hm⟩
 unfold tabL tabN;rw [e];exact ⟨rfl,rfl⟩
theorem tab_no {p:Int} {l:List R4} {m:List E5} (h:scan (l.drop 1)=some m) (hm:¬ mayP m):tabL p l = []∧tabN p l=2:=by
 have e:tabO p l=none:=by
  unfold tabO
  split
  ·rw [h]
   show (some m).filter mayB=none
   simp only [Option.filter,mayB,decide_eq_false hm,Bool.false_eq_true,if_false]
  ·rfl
 unfold tabL tabN;rw [e];exact ⟨rfl,rfl⟩
def Read (r:List R4) (k:Nat) (L:List E5):Prop:=L.length=k∧scan r=(scan (r.drop k)).map (L ++ ·)
theorem read_start (r:List R4):Read r 0 []:=⟨rfl,by simp⟩
theorem drop_cons {r:List R4} {k:Nat} (h:k < r.length):r.drop k=rat r k :: r.drop (k+1):=by
 rw [List.drop_eq_getElem_cons h]
 congr 1
 unfold rat;rw [List.getD_eq_getElem?_getD,List.getElem?_eq_getElem h]
 rfl
theorem read_bad {r:List R4} {k:Nat} {L:List E5} (h:Read r k L) (hk:k < r.length) (hb:¬ okE (takeX (rat r k))):scan r=none:=by
 rw [h.2,drop_cons hk];simp only [scan,if_neg hb,Option.map_none]
theorem read_end {r:List R4} {k:Nat} {L:List E5} (h:Read r k L) (hk:k < r.length) (hb:okE (takeX (rat r k))) (h4:(takeX (rat r k)).1=4):scan r=some L:=by
 rw [h.2,drop_cons hk];simp only [scan,if_pos hb,if_pos h4,Option.map_some,List.append_nil]
theorem read_next {r:List R4} {k:Nat} {L:List E5} (h:Read r k L) (hk:k < r.length) (hb:okE (takeX (rat r k))) (h4:(takeX (rat r k)).1≠4):Read r (k+1) (L ++ [takeX (rat r k)]):=by
 refine ⟨by rw [List.length_append,h.1];rfl,?_⟩;rw [h.2,drop_cons hk];simp only [scan,if_pos hb,if_neg h4,Option.map_map]
 congr 1
 funext m
 simp
theorem read_all {r:List R4} {L:List E5} (h:Read r r.length L):scan r=some L:=by
 rw [h.2,List.drop_length]
 simp [scan]
def fileL (l:List E5):List R4:=hdr 3 ((l.length:Int)+1) :: (l.map putR ++ [endR])
def fL (l:List E5):List R4:=if mayP l then fileL l else []
def fP (l:List E5):Int:=if mayP l then 3 else 0
def fN (l:List E5):Int:=if mayP l then 0 else 1
theorem may_each {l:List E5} (h:mayP l):∀ x∈l,okE x∧x.1≠4:=fun x hx=>by
 obtain ⟨i,hi,e⟩:=List.getElem_of_mem hx;have g:=(okAt_iff (fun j hj=>h j (by omega))).1 (h i hi);have e':eat l i=x:=by
  have:=eat_get hi;rw [List.getElem?_eq_getElem hi,e] at this;exact (Option.some.inj this).symm
 rw [e'] at g;exact ⟨g.1,g.2.1⟩
def part (h:R4) (l:List E5) (k:Nat):List R4:=h :: ((l.take k).map putR ++ List.replicate (l.length+1 - k) z4)
theorem part_len (h:R4) (l:List E5) (k:Nat) (hk:k≤l.length):(part h l k).length=l.length+2:=by
 simp [part,List.length_take]
 omega
theorem part_start (h:R4) (l:List E5):part h l 0=h :: List.replicate (l.length+1) z4:=by simp [part]
theorem take_next {l:List E5} {k:Nat} (hk:k < l.length):l.take (k+1)=l.take k ++ [eat l k]:=by
 rw [List.take_add_one,eat_get hk]
 rfl
theorem part_set (h:R4) {l:List E5} {k:Nat} (hk:k < l.length):(part h l k).set (1+k) (putR (eat l k))=part h l (k+1):=by
 have e1:(l.take k).length=k:=by rw [List.length_take];omega
 unfold part;rw [Nat.add_comm 1 k,List.set_cons_succ,List.set_append_right _ _ (by rw [List.length_map,e1];omega),List.length_map,e1,Nat.sub_self,take_next hk];rw [show l.length+1 - k=(l.length+1 - (k+1))+1 by omega,List.replicate_succ]
 simp
theorem part_end (h:R4) (l:List E5):(part h l l.length).set (1+l.length) endR=h :: (l.map putR ++ [endR]):=by
 unfold part;rw [Nat.add_comm 1,List.set_cons_succ,List.set_append_right _ _ (by simp),List.take_length];have e:l.length+1 - l.length=1:=by omega
 rw [e]
 simp
end Go.Proofs.YtljnkaodhfnbbaaGreatDoor.Ro
namespace Go.Proofs.YtljnkaodhfnbbaaGreatDoor.Ck
open Ro (E5 z5 eat mayP mayB okE okAt eat_get eat_mem prevS prev_next okE_bounds)
abbrev LL:=List (List E5)
def lat (L:LL) (n:Nat):List E5:=L.getD n []
theorem drop_lat {L:LL} {k:Nat} (h:k < L.length):L.drop k=lat L k :: L.drop (k+1):=by
 rw [List.drop_eq_getElem_cons h]
 congr 1
 unfold lat;rw [List.getD_eq_getElem?_getD,List.getElem?_eq_getElem h]
 rfl
theorem drop_eat {t:List E5} {i:Nat} (h:i < t.length):t.drop i=eat t i :: t.drop (i+1):=by
 rw [List.drop_eq_getElem_cons h]
 congr 1
 have:=eat_get h;rw [List.getElem?_eq_getElem h] at this;exact Option.some.inj this
theorem lat_take {L:LL} {n j:Nat} (h:j < n):lat (L.take n) j=lat L j:=by
 unfold lat;rw [List.getD_eq_getElem?_getD,List.getD_eq_getElem?_getD,List.getElem?_take,if_pos h]
def scn (p:Nat→E5→Bool):Nat→LL→Option (Nat×E5)
 | _,[]=>none
 | n,t :: r=>match t.find? (p n) with
   | some x=>some (n,x)
   | none=>scn p (n+1) r
def whoN (p:Nat→E5→Bool) (L:LL):Int:=match scn p 0 L with
 | some y=>y.1
 | none=>-1
def whoE (p:Nat→E5→Bool) (L:LL):E5:=match scn p 0 L with
 | some y=>y.2
 | none=>z5
def Ahead (p:Nat→E5→Bool) (L:LL) (k:Nat):Prop:=scn p 0 L=scn p k (L.drop k)
def Within (p:Nat→E5→Bool) (L:LL) (k i:Nat):Prop:=Ahead p L k∧(lat L k).find? (p k)=((lat L k).drop i).find? (p k)
section
variable {p:Nat→E5→Bool} {L:LL} {k i:Nat}
theorem ahead_zero:Ahead p L 0:=rfl
theorem within_zero (h:Ahead p L k):Within p L k 0:=⟨h,rfl⟩
theorem within_hit (h:Within p L k i) (hk:k < L.length) (hi:i < (lat L k).length) (hp:p k (eat (lat L k) i)=true):whoN p L=k∧whoE p L=eat (lat L k) i:=by
 have e:scn p 0 L=some (k,eat (lat L k) i):=by
  rw [h.1,drop_lat hk];simp only [scn,h.2,drop_eat hi,List.find?_cons,hp]
 unfold whoN whoE;rw [e];exact ⟨rfl,rfl⟩
theorem within_next (h:Within p L k i) (hi:i < (lat L k).length) (hp:p k (eat (lat L k) i)=false):Within p L k (i+1):=by
 refine ⟨h.1,?_⟩;rw [h.2,drop_eat hi,List.find?_cons,hp]
theorem within_end (h:Within p L k (lat L k).length) (hk:k < L.length):Ahead p L (k+1):=by
 unfold Ahead;have e:=h.2;rw [List.drop_length] at e;rw [h.1,drop_lat hk];simp only [scn,e,List.find?_nil]
theorem ahead_end (h:Ahead p L L.length):whoN p L = -1∧whoE p L=z5:=by
 have e:scn p 0 L=none:=by rw [h,List.drop_length];rfl
 unfold whoN whoE;rw [e];exact ⟨rfl,rfl⟩
end
theorem scn_some {p:Nat→E5→Bool} : ∀ {L:LL} {n0 n:Nat} {x:E5},scn p n0 L=some (n,x)→∃ k,n=n0+k∧k < L.length∧x∈lat L k∧p n x=true∧∀ j,j < k→∀ y∈lat L j,p (n0+j) y=false
 | [],_,_,_,h=>by cases h
 | t :: r,n0,n,x,h=>by
   rcases e:t.find? (p n0) with _ | y
   ·simp only [scn,e] at h
    obtain ⟨k,e1,h1,h2,h3,h4⟩:=scn_some h;refine ⟨k+1,by omega,by simp;omega,h2,h3,fun j hj y hy=>?_⟩
    rcases j with _ | j
    ·rw [List.find?_eq_none] at e
     simpa using e y hy
    ·have:=h4 j (by omega) y hy
     rw [show n0+(j+1)=n0+1+j by omega];exact this
   ·simp only [scn,e,Option.some.injEq,Prod.mk.injEq] at h
    obtain ⟨rfl,rfl⟩:=h;exact ⟨0,rfl,by simp,List.mem_of_find?_eq_some e,List.find?_some e,fun j hj=>absurd hj (Nat.not_lt_zero _)⟩
theorem scn_none {p:Nat→E5→Bool} : ∀ {L:LL} {n0:Nat},scn p n0 L=none→∀ k,k < L.length→∀ x∈lat L k,p (n0+k) x=false
 | [],_,_,k,hk=>by cases hk
 | t :: r,n0,h,k,hk=>by
   rcases e:t.find? (p n0) with _ | y
   ·simp only [scn,e] at h
    intro x hx
    rcases k with _ | k
    ·rw [List.find?_eq_none] at e
     simpa using e x hx
    ·have:=scn_none h k (by simpa using hk) x hx
     rw [show n0+(k+1)=n0+1+k by omega];exact this
   ·simp only [scn,e] at h
    cases h
theorem find_congr {p q:E5→Bool} : ∀ {t:List E5},(∀ x∈t,p x=q x)→t.find? p=t.find? q
 | [],_=>rfl
 | x :: r,h=>by rw [List.find?_cons,List.find?_cons,h x (List.mem_cons_self ..),find_congr fun y hy=>h y (List.mem_cons_of_mem _ hy)]
theorem scn_congr {p q:Nat→E5→Bool} : ∀ {L:LL} {n0:Nat},(∀ k,k < L.length→∀ x∈lat L k,p (n0+k) x=q (n0+k) x)→scn p n0 L=scn q n0 L
 | [],_,_=>rfl
 | t :: r,n0,h=>by
   have e:t.find? (p n0)=t.find? (q n0):=find_congr fun x hx=>h 0 (by simp) x hx;have ih:=scn_congr (p:=p) (q:=q) (L:=r) (n0:=n0+1) fun k hk x hx=>by
    have:=h (k+1) (by simp;omega) x hx;rw [show n0+1+k=n0+(k+1) by omega];exact this
   simp only [scn,e,ih]
theorem who_cases (p:Nat→E5→Bool) (L:LL):(∃ n x,n < L.length∧x∈lat L n∧p n x=true∧(∀ m,m < n→∀ y∈lat L m,p m y=false)∧whoN p L=n∧whoE p L=x)∨((∀ n,n < L.length→∀ x∈lat L n,p n x=false)∧whoN p L = -1∧whoE p L=z5):=by
 rcases e:scn p 0 L with _ | ⟨n,x⟩
 ·right
  refine ⟨fun n hn x hx=>by simpa using scn_none e n hn x hx,?_,?_⟩
  ·unfold whoN;rw [e]
  ·unfold whoE;rw [e]
 ·left
  obtain ⟨k,e1,h1,h2,h3,h4⟩:=scn_some e;obtain rfl:n=k:=by omega
  refine ⟨n,x,h1,h2,h3,fun m hm y hy=>by simpa using h4 m hm y hy,?_,?_⟩
  ·unfold whoN;rw [e]
  ·unfold whoE;rw [e]
theorem who_congr {p q:Nat→E5→Bool} {L:LL} (h:∀ k,k < L.length→∀ x∈lat L k,p k x=q k x):whoN p L=whoN q L∧whoE p L=whoE q L:=by
 have e:scn p 0 L=scn q 0 L:=scn_congr fun k hk x hx=>by simpa using h k hk x hx
 unfold whoN whoE;rw [e];exact ⟨rfl,rfl⟩
theorem who_hit {p:Nat→E5→Bool} {L:LL} {n:Nat} {x:E5} (hn:n < L.length) (hx:x∈lat L n) (hp:p n x=true):0≤whoN p L∧whoN p L≤n:=by
 rcases who_cases p L with ⟨m,y,h1,h2,h3,h4,e,_⟩ | ⟨h,e,_⟩
 ·rw [e]
  refine ⟨by omega,?_⟩
  by_cases g:n < m
  ·have:=h4 n g x hx
   rw [hp] at this
   cases this
  ·omega
 ·have:=h n hn x hx
  rw [hp] at this
  cases this
def idx (q:List E5→Bool):Nat→LL→Int
 | _,[]=>-1
 | n,t :: r=>if q t then n else idx q (n+1) r
def IAhead (q:List E5→Bool) (L:LL) (k:Nat):Prop:=idx q 0 L=idx q k (L.drop k)
section
variable {q:List E5→Bool} {L:LL} {k:Nat}
theorem iahead_zero:IAhead q L 0:=rfl
theorem iahead_hit (h:IAhead q L k) (hk:k < L.length) (hq:q (lat L k)=true):idx q 0 L=k:=by
 rw [h,drop_lat hk];simp only [idx,hq,if_true]
theorem iahead_next (h:IAhead q L k) (hk:k < L.length) (hq:q (lat L k)=false):IAhead q L (k+1):=by
 unfold IAhead;rw [h,drop_lat hk];simp only [idx,hq,Bool.false_eq_true,if_false]
theorem iahead_end (h:IAhead q L L.length):idx q 0 L = -1:=by rw [h,List.drop_length];rfl
end
theorem idx_all {q:List E5→Bool} : ∀ {L:LL} {n:Nat},idx q n L < 0→∀ k,k < L.length→q (lat L k)=false
 | [],_,_,k,hk=>by cases hk
 | t :: r,n,h,k,hk=>by
   by_cases e:q t=true
   ·simp only [idx,e,if_true] at h
    omega
   ·simp only [idx,e,Bool.false_eq_true,if_false] at h
    rcases k with _ | k
    ·show q t=false
     simpa using e
    ·exact idx_all h k (by simpa using hk)
def snd (s:Int) (_:Nat) (x:E5):Bool:=decide (x.1=1∧x.2.1=s)
def sN (s:Int) (L:LL):Int:=whoN (snd s) L
def sE (s:Int) (L:LL):E5:=whoE (snd s) L
theorem snd_yes {s:Int} {n:Nat} {x:E5} (h1:x.1=1) (h2:x.2.1=s):snd s n x=true:=decide_eq_true ⟨h1,h2⟩
theorem snd_no {s:Int} {n:Nat} {x:E5} (h:¬ (x.1=1∧x.2.1=s)):snd s n x=false:=decide_eq_false h
theorem snd_is {s:Int} {n:Nat} {x:E5} (h:snd s n x=true):x.1=1∧x.2.1=s:=of_decide_eq_true h
theorem sN_take {L:LL} {n:Nat} (hn:n≤L.length) (s:Int):0≤sN s (L.take n)↔0≤sN s L∧sN s L < n:=by
 unfold sN;have hl:(L.take n).length=n:=by rw [List.length_take];omega
 rcases who_cases (snd s) (L.take n) with ⟨m,y,h1,h2,h3,h4,e,_⟩ | ⟨h,e,_⟩
 ·rw [hl] at h1
  rw [lat_take h1] at h2;have g:=who_hit (p:=snd s) (L:=L) (by omega) h2 h3
  constructor
  ·intro _;omega
  ·intro _;omega
 ·constructor
  ·intro g;omega
  ·intro ⟨g1,g2⟩
   rcases who_cases (snd s) L with ⟨m,y,h1,h2,h3,h4,e',_⟩ | ⟨_,e',_⟩
   ·have hm:m < n:=by omega
    have:=h m (by omega) y (by rw [lat_take hm];exact h2);rw [h3] at this
    cases this
   ·omega
def bad (t:List E5):Bool:=!mayB t
def bI (L:LL):Int:=idx bad 0 L
def pc (L:LL) (n:Nat) (x:E5):Bool:=decide (x.1=1∧0≤sN x.2.1 (L.take n))
def pg (L:LL) (_:Nat) (x:E5):Bool:=decide (x.1=2∧sN x.2.1 L < 0)
def qc (F:Nat→Int) (n:Nat) (x:E5):Bool:=decide (x.1=1∧¬ F x.2.1.toNat=n)
def qg (F:Nat→Int) (_:Nat) (x:E5):Bool:=decide (x.1=2∧F x.2.1.toNat < 0)
def clN (L:LL):Int:=whoN (pc L) L
def gaN (L:LL):Int:=whoN (pg L) L
def sF (L:LL) (s:Nat):Int:=sN s L
def tN (L:LL):Int:=if 0≤bI L then bI L else if 0≤clN L then clN L else if 0≤gaN L then gaN L else -1
def tE (L:LL):Int:=if 0≤bI L then 2 else if 0≤clN L then 8 else if 0≤gaN L then 9 else 0
theorem t_form {L:LL} (h:0≤bI L):tN L=bI L∧tE L=2:=by unfold tN tE;rw [if_pos h,if_pos h];exact ⟨rfl,rfl⟩
theorem t_clash {L:LL} (h:¬ 0≤bI L) (h2:0≤clN L):tN L=clN L∧tE L=8:=by unfold tN tE;rw [if_neg h,if_neg h,if_pos h2,if_pos h2];exact ⟨rfl,rfl⟩
theorem t_gap {L:LL} (h:¬ 0≤bI L) (h2:¬ 0≤clN L) (h3:0≤gaN L):tN L=gaN L∧tE L=9:=by unfold tN tE;rw [if_neg h,if_neg h,if_neg h2,if_neg h2,if_pos h3,if_pos h3];exact ⟨rfl,rfl⟩
theorem t_ok {L:LL} (h:¬ 0≤bI L) (h2:¬ 0≤clN L) (h3:¬ 0≤gaN L):tN L = -1∧tE L=0:=by unfold tN tE;rw [if_neg h,if_neg h,if_neg h2,if_neg h2,if_neg h3,if_neg h3];exact ⟨rfl,rfl⟩
theorem may_all {L:LL} (h:¬ 0≤bI L):∀ k,k < L.length→mayP (lat L k):=fun k hk=>by
 have:=idx_all (q:=bad) (L:=L) (n:=0) (by unfold bI at h;omega) k hk;unfold bad mayB at this
 simpa using this
theorem may_slot {t:List E5} (h:mayP t) {x:E5} (hx:x∈t):0≤x.2.1∧x.2.1≤16:=(okE_bounds (Ro.may_each h x hx).1).2.1
theorem clash_same {L:LL} (h:¬ 0≤bI L):whoN (qc (sF L)) L=clN L:=by
 refine (who_congr fun k hk x hx=>?_).1;have b:=may_slot (may_all h k hk) hx;unfold qc pc sF;rw [show ((x.2.1.toNat:Nat):Int)=x.2.1 by omega]
 by_cases h1:x.1=1
 ·have g:=who_hit (p:=snd x.2.1) hk hx (snd_yes h1 rfl)
  have t:=sN_take (L:=L) (n:=k) (by omega) x.2.1;unfold sN at t ⊢
  apply decide_eq_decide.2
  constructor
  ·intro ⟨_,a⟩;exact ⟨h1,t.2 ⟨g.1,by omega⟩⟩
  ·intro ⟨_,a⟩;have:=t.1 a;exact ⟨h1,by omega⟩
 ·simp [h1]
theorem gap_same {L:LL} (h:¬ 0≤bI L):whoN (qg (sF L)) L=gaN L:=by
 refine (who_congr fun k hk x hx=>?_).1;have b:=may_slot (may_all h k hk) hx;unfold qg pg sF;rw [show ((x.2.1.toNat:Nat):Int)=x.2.1 by omega]
def all (p:E5→Bool) (L:LL):Nat:=L.flatten.countP p
section
end
end Go.Proofs.YtljnkaodhfnbbaaGreatDoor.Ck
namespace Go.Proofs.YtljnkaodhfnbbaaGreatDoor.Ua
open Go.RowKit
def bit (b:Int) (j:Nat):Bool:=decide (b / 2 ^ j % 2=1)
def par (F:Nat→Bool):Nat→Bool
 | 0=>false
 | k+1=>par F k != F (k+1)
def val (F:Nat→Bool):Nat→Nat
 | 0=>0
 | k+1=>val F k+if F (k+1) then 2 ^ k else 0
def upd (F:Nat→Bool) (k:Nat) (x:Bool) (i:Nat):Bool:=if i=k then x else F i
def put (b:Int) (k:Nat) (i:Nat):Bool:=if 1≤i∧i < k then bit b (i - 1) else false
def frm (b:Int) (odd:Bool):Nat→Bool:=upd (upd (put b 9) 9 (par (put b 9) 9 != odd)) 10 true
def turn (F:Nat→Bool) (m:Int) (k:Nat) (i:Nat):Bool:=if i < k then F i != bit m i else F i
def bad (F:Nat→Bool):Bool:=F 0 || !F 10
def tb (F:Nat→Bool):Int:=if bad F then 0 else val F 8
def tp (F:Nat→Bool):Bool:=if bad F then false else par F 9
def te (F:Nat→Bool):Int:=if bad F then 2 else 0
theorem par_congr {F G:Nat→Bool} : ∀ k,(∀ i,1≤i→i≤k→F i=G i)→par F k=par G k
 | 0,_=>rfl
 | k+1,h=>by rw [par,par,par_congr k (fun i h1 h2=>h i h1 (by omega)),h (k+1) (by omega) (by omega)]
theorem val_congr {F G:Nat→Bool} : ∀ k,(∀ i,1≤i→i≤k→F i=G i)→val F k=val G k
 | 0,_=>rfl
 | k+1,h=>by rw [val,val,val_congr k (fun i h1 h2=>h i h1 (by omega)),h (k+1) (by omega) (by omega)]
theorem val_lt (F:Nat→Bool):∀ k,val F k < 2 ^ k
 | 0=>Nat.lt_succ_self 0
 | k+1=>by have:=val_lt F k;rw [val,Nat.pow_succ];split <;> omega
theorem and_bit_all:∀ b:Fin 256,∀ j:Fin 8,(bits BinOp.and .u8 (b.val:Int) (2 ^ j.val) != 0)=decide ((b.val:Int) / 2 ^ j.val % 2=1):=by decide +kernel
theorem and_bit (b:Int) (j:Nat) (h0:0≤b) (h1:b≤255) (hj:j < 8):(bits BinOp.and .u8 b (2 ^ j) != 0)=bit b j:=by
 have:=and_bit_all ⟨b.toNat,by omega⟩ ⟨j,hj⟩;simp only at this;rw [show ((b.toNat:Nat):Int)=b by omega] at this;exact this
theorem or_bit_all:∀ b:Fin 256,∀ j:Fin 8,b.val < 2 ^ j.val→bits BinOp.or .u8 (b.val:Int) (2 ^ j.val)=((b.val+2 ^ j.val:Nat):Int):=by decide +kernel
theorem or_bit (b j:Nat) (hj:j < 8) (h:b < 2 ^ j):bits BinOp.or .u8 (b:Int) (2 ^ j)=((b+2 ^ j:Nat):Int) :=
 or_bit_all ⟨b,by have:2 ^ j≤2 ^ 7:=Nat.pow_le_pow_right (by omega) (by omega)
                  omega⟩ ⟨j,hj⟩ h
theorem and_i64 (x:Int) (c:Nat) (hc:c < 9223372036854775808):bits BinOp.and .i64 x (c:Int)=(((x % 18446744073709551616).toNat &&& c:Nat):Int):=by
 have e:(BitVec.ofInt 64 x &&& BitVec.ofInt 64 (c:Int)).toNat=(x % 18446744073709551616).toNat &&& c:=by
  rw [BitVec.toNat_and,BitVec.toNat_ofInt,BitVec.toNat_ofInt]
  congr 1
  simp
  omega
 show IntKind.i64.wrap (((BitVec.ofInt 64 x &&& BitVec.ofInt 64 (c:Int)).toNat:Nat):Int)=_
 rw [e];have l:(x % 18446744073709551616).toNat &&& c≤c:=Nat.and_le_right;exact IntWalk.i64_in _ (by omega)
theorem and_one (x:Int):bits BinOp.and .i64 x 1=x % 2:=by
 have:=and_i64 x 1 (by omega);rw [Nat.and_one_is_mod] at this;rw [show (1:Int)=((1:Nat):Int) from rfl,this]
 omega
theorem test_one (m:Int) (k:Nat):(bits BinOp.and .i64 (m / 2 ^ k) 1 == 1)=bit m k:=by rw [and_one];rfl
end Go.Proofs.YtljnkaodhfnbbaaGreatDoor.Ua
namespace Go.Proofs.YtljnkaodhfnbbaaGreatDoor.Pa
open Go.RowKit
open Fl (R4 z4 rat goodF okR okL)
open Fs (Fil Abs key Srt OkA gB gV sB sA dA dE dD dV addE addA look_some look_none look_at map_look put_set)
open Ro (E5 z5 okE eat mayP)
open Ck (LL lat sN sE tE)
open Ua (bit frm te tp tb upd)
def rb (v:R4) (b:Int):Int:=if b=0 then v.1 else if b=1 then v.2.1 else if b=2 then v.2.2.1 else v.2.2.2
def rs (v:R4) (b x:Int):R4:=if b=0 then (x,v.2.1,v.2.2.1,v.2.2.2) else if b=1 then (v.1,x,v.2.2.1,v.2.2.2) else if b=2 then (v.1,v.2.1,x,v.2.2.2) else (v.1,v.2.1,v.2.2.1,x)
def byt (x:Int):Prop:=0≤x∧x≤255
theorem rb_ok {v:R4} (h:okR v) (b:Int):byt (rb v b):=by
 obtain ⟨h1,h2,h3,h4⟩:=h;unfold rb byt
 split
 ·exact h1
 ·split
  ·exact h2
  ·split
   ·exact h3
   ·exact h4
theorem rs_ok {v:R4} (h:okR v) (b:Int) {x:Int} (hx:byt x):okR (rs v b x):=by
 obtain ⟨h1,h2,h3,h4⟩:=h;unfold rs
 split
 ·exact ⟨hx,h2,h3,h4⟩
 ·split
  ·exact ⟨h1,hx,h3,h4⟩
  ·split
   ·exact ⟨h1,h2,hx,h4⟩
   ·exact ⟨h1,h2,h3,hx⟩
theorem rs_swap (v:R4) {a b:Int} (h:a≠b) (ha:0≤a∧a≤3) (hb:0≤b∧b≤3) (x y:Int):rs (rs v a x) b y=rs (rs v b y) a x:=by
 obtain rfl | rfl | rfl | rfl:a=0∨a=1∨a=2∨a=3:=by omega
 all_goals
  obtain rfl | rfl | rfl | rfl:b=0∨b=1∨b=2∨b=3:=by omega
  all_goals first | (exact absurd rfl h) | rfl
theorem rs_twice (v:R4) (a x y:Int):rs (rs v a x) a y=rs v a y:=by
 unfold rs
 by_cases h0:a=0
 ·simp [h0]
 ·by_cases h1:a=1
  ·simp [h1]
  ·by_cases h2:a=2
   ·simp [h2]
   ·simp [h0,h1,h2]
abbrev Hr:=Int→Option Int
def mt (f r:Int) (x:E5):Bool:=decide (x.1=2∧x.2.2.1=f∧x.2.2.2.1=r)
def grp (t:List E5) (f r:Int):List E5:=t.filter (mt f r)
def allH (h:Hr) (l:List E5):Bool:=l.all fun x=>(h x.2.1).isSome
def mix (h:Hr) (l:List E5) (v:R4):R4:=l.foldl (fun v x=>rs v x.2.2.2.2 ((h x.2.1).getD 0)) v
def newV (h:Hr) (l:List E5) (v:R4):R4:=if allH h l=true then mix h l v else v
def okH (h:Hr):Prop:=∀ n y,h n=some y→byt y
def okY (l:List E5):Prop:=∀ x∈l,0≤x.2.2.2.2∧x.2.2.2.2≤3
theorem getD_ok {h:Hr} (hh:okH h) (n:Int):byt ((h n).getD 0):=by
 rcases e:h n with _ | y
 ·exact ⟨Int.le_refl _,by show (0:Int)≤255;omega⟩
 ·exact hh n y e
theorem mix_ok {h:Hr} (hh:okH h):∀ (l:List E5) {v:R4},okR v→okR (mix h l v)
 | [],_,hv=>hv
 | _ :: r,_,hv=>mix_ok hh r (rs_ok hv _ (getD_ok hh _))
theorem newV_ok {h:Hr} (hh:okH h) (l:List E5) {v:R4} (hv:okR v):okR (newV h l v):=by
 unfold newV
 split
 ·exact mix_ok hh l hv
 ·exact hv
theorem newV_nil (h:Hr) (v:R4):newV h [] v=v:=rfl
theorem mix_cons (h:Hr) (x:E5) (r:List E5) (v:R4):mix h (x :: r) v=mix h r (rs v x.2.2.2.2 ((h x.2.1).getD 0)):=rfl
theorem mix_rs {h:Hr} (a x:Int) (ha:0≤a∧a≤3):∀ (l:List E5) (v:R4),okY l→mix h l (rs v a x)=if l.any (fun y=>decide (y.2.2.2.2=a))=true then mix h l v else rs (mix h l v) a x
 | [],_,_=>rfl
 | y :: r,v,hy=>by
   have hr:okY r:=fun z hz=>hy z (List.mem_cons_of_mem _ hz);have hy0:=hy y (List.mem_cons_self ..);rw [mix_cons,mix_cons,List.any_cons]
   by_cases e:y.2.2.2.2=a
   ·rw [e,rs_twice,decide_eq_true (rfl:a=a),Bool.true_or,if_pos rfl]
   ·rw [decide_eq_false e,Bool.false_or,rs_swap _ (fun h=>e h.symm) ha hy0,mix_rs a x ha r _ hr]
theorem mix_mix {h:Hr} : ∀ (l:List E5) (v:R4),okY l→mix h l (mix h l v)=mix h l v
 | [],_,_=>rfl
 | x :: r,v,hy=>by
   have hr:okY r:=fun z hz=>hy z (List.mem_cons_of_mem _ hz);have hx:=hy x (List.mem_cons_self ..);have ih:=mix_mix (h:=h) r v hr;rw [mix_cons,mix_cons,mix_rs _ _ hx r v hr]
   split
   ·rename_i hany
    rw [mix_rs _ _ hx r _ hr,if_pos hany,ih]
   ·rename_i hany
    rw [rs_twice,mix_rs _ _ hx r _ hr,if_neg hany,ih]
theorem newV_newV {h:Hr} {l:List E5} (hy:okY l) (v:R4):newV h l (newV h l v)=newV h l v:=by
 unfold newV
 by_cases e:allH h l=true
 ·simp only [e,if_true]
  exact mix_mix l v hy
 ·simp only [e,if_false,Bool.false_eq_true]
def recF (h:Hr) (t:List E5) (V:Int→Int→Bool) (e:Fil):Fil:=(e.1,e.2.1,e.2.2.mapIdx fun k v=>if V e.1 k=true then newV h (grp t e.1 k) v else v)
def recV (h:Hr) (t:List E5) (V:Int→Int→Bool) (A:Abs):Abs:=A.map (recF h t V)
def recA (h:Hr) (t:List E5) (A:Abs):Abs:=recV h t (fun _ _=>true) A
section
variable {h:Hr} {t:List E5} {V:Int→Int→Bool} {A:Abs}
theorem recF_len (e:Fil):(recF h t V e).2.2.length=e.2.2.length:=by simp [recF]
theorem recF_get (e:Fil) (k:Nat):(recF h t V e).2.2[k]? = (e.2.2[k]?).map fun v=>if V e.1 k=true then newV h (grp t e.1 k) v else v:=by simp [recF]
theorem recF_rat (e:Fil) {k:Nat} (hk:k < e.2.2.length):rat (recF h t V e).2.2 k=if V e.1 k=true then newV h (grp t e.1 k) (rat e.2.2 k) else rat e.2.2 k:=by
 unfold rat;rw [List.getD_eq_getElem?_getD,List.getD_eq_getElem?_getD,recF_get,List.getElem?_eq_getElem hk]
 rfl
theorem rec_look (n:Int):Fs.look key n (recV h t V A)=(Fs.look key n A).map (recF h t V):=map_look (κ:=key) (κ':=key) (f:=recF h t V) (fun _=>rfl) n A
theorem rec_gB (n k:Int):gB (recV h t V A) n k=gB A n k:=by
 unfold gB;rw [rec_look]
 cases Fs.look key n A with
 | none=>rfl
 | some e=>simp [recF_len]
theorem rec_gV (n k:Int) (hg:gB A n k=true):gV (recV h t V A) n k=if V n k=true then newV h (grp t n k) (gV A n k) else gV A n k:=by
 unfold gB at hg;unfold gV;rw [rec_look]
 rcases e:Fs.look key n A with _ | c
 ·rw [e] at hg
  cases hg
 ·rw [e] at hg
  simp only [decide_eq_true_eq] at hg;obtain ⟨_,hk⟩:=look_some e;have hn:c.1=n:=hk;simp only [Option.map_some];rw [if_pos (by rw [recF_len];exact hg),if_pos hg,recF_rat c (by omega)];have ek:((k.toNat:Nat):Int)=k:=by omega
  rw [ek,hn]
theorem rec_none (hV:∀ n k,V n k=false):recV h t V A=A:=by
 unfold recV;rw [List.map_congr_left (g:=id) (fun e _=>?_),List.map_id];obtain ⟨n,p,l⟩:=e;simp only [recF,hV,id]
 congr 2
 exact List.ext_getElem? fun k=>by simp
theorem rec_congr {V':Int→Int→Bool} (hV:∀ n k,grp t n k≠[]→V n k=V' n k):recV h t V A=recV h t V' A:=by
 unfold recV;refine List.map_congr_left fun e _=>?_;unfold recF
 congr 2
 refine List.ext_getElem? fun k=>?_;simp only [List.getElem?_mapIdx]
 cases e.2.2[k]? with
 | none=>rfl
 | some v =>
   by_cases hg:grp t e.1 k = []
   ·simp [hg,newV_nil]
   ·simp [hV _ _ hg]
theorem rec_all (hV:∀ n k,grp t n k≠[]→V n k=true):recV h t V A=recA h t A:=rec_congr hV
def also (V:Int→Int→Bool) (n k:Int) (a b:Int):Bool:=V a b || decide (a=n∧b=k)
theorem rec_set (hA:OkA A) {n k:Int} (hg:gB A n k=true) (h0:k≠0) (hy:okY (grp t n k)):sA (recV h t V A) n k (newV h (grp t n k) (gV (recV h t V A) n k))=recV h t (also V n k) A:=by
 have hgr:gB (recV h t V A) n k=true:=(rec_gB n k).trans hg;have hsb:sB (recV h t V A) n k=true:=by unfold sB;rw [hgr,decide_eq_true h0];rfl
 have hv:=rec_gV (h:=h) (t:=t) (V:=V) n k hg;have hval:newV h (grp t n k) (gV (recV h t V A) n k)=newV h (grp t n k) (gV A n k):=by
  rw [hv]
  split
  ·exact newV_newV hy _
  ·rfl
 rw [hval];unfold gB at hg
 rcases e:Fs.look key n A with _ | c
 ·rw [e] at hg
  cases hg
 rw [e] at hg;simp only [decide_eq_true_eq] at hg;obtain ⟨hm,hk⟩:=look_some e;have hn:c.1=n:=hk;have hvA:gV A n k=rat c.2.2 k.toNat:=by unfold gV;rw [e];exact if_pos hg
 rw [hvA];unfold sA;rw [rec_look,e];simp only [Option.map_some];rw [if_pos hsb];obtain ⟨i,hi⟩:=List.getElem?_of_mem hm;have hsr:Srt key (recV h t V A):=(Fs.map_srt (κ:=key) (κ':=key) (f:=recF h t V) (fun _=>rfl)).2 hA.srt;have hir:(recV h t V A)[i]? = some (recF h t V c):=by unfold recV;rw [List.getElem?_map,hi];rfl
 rw [put_set (κ:=key) (c:=(n,(recF h t V c).2.1,(recF h t V c).2.2.set k.toNat (newV h (grp t n k) (rat c.2.2 k.toNat)))) hsr hir (show c.1=n from hn)];refine List.ext_getElem? fun j=>?_;rw [List.getElem?_set];have hlen:i < (recV h t V A).length:=(List.getElem?_eq_some_iff.1 hir).1
 by_cases hj:i=j
 ·subst hj
  rw [if_pos rfl,if_pos hlen];unfold recV;rw [List.getElem?_map,hi];simp only [Option.map_some,Option.some.injEq];unfold recF;refine Prod.ext hn.symm (Prod.ext rfl ?_);refine List.ext_getElem? fun q=>?_;simp only [List.getElem?_set,List.length_mapIdx,List.getElem?_mapIdx]
  by_cases hq:k.toNat=q
  ·subst hq
   have hql:k.toNat < c.2.2.length:=by omega
   rw [if_pos rfl,if_pos hql,List.getElem?_eq_getElem hql];have ek:((k.toNat:Nat):Int)=k:=by omega
   simp only [Option.map_some,ek,also,hn,and_self,decide_true,Bool.or_true,if_true]
   congr 2
   unfold rat;rw [List.getD_eq_getElem?_getD,List.getElem?_eq_getElem hql]
   rfl
  ·rw [if_neg hq]
   have hne:¬ (q:Int)=k:=by omega
   cases c.2.2[q]? with
   | none=>rfl
   | some v=>simp [also,hne]
 ·rw [if_neg hj]
  unfold recV;rw [List.getElem?_map,List.getElem?_map]
  rcases ej:A[j]? with _ | x
  ·rfl
  ·have hne:x.1≠n:=fun hx=>by
    have hxm:x∈A:=List.mem_of_getElem? ej;have q1:=look_at hA.srt hxm;rw [show key x=n from hx,e] at q1;injection q1 with q1;subst q1;have hi':=(List.getElem?_eq_some_iff.1 hi).1;have hj':=(List.getElem?_eq_some_iff.1 ej).1;have pw:=List.pairwise_iff_getElem.1 hA.srt;have g1:A[i]=c:=by have:=hi;rw [List.getElem?_eq_getElem hi'] at this;simpa using this
    have g2:A[j]=c:=by have:=ej;rw [List.getElem?_eq_getElem hj'] at this;simpa using this
    rcases Nat.lt_or_gt_of_ne hj with hlt | hlt
    ·have:=pw i j hi' hj' hlt
     rw [g1,g2] at this
     omega
    ·have:=pw j i hj' hi' hlt
     rw [g1,g2] at this
     omega
   simp only [Option.map_some,Option.some.injEq];unfold recF
   congr 2
   refine List.ext_getElem? fun q=>?_
   simp [also,hne]
theorem rec_out (hA:OkA A) {n k:Int} (hg:gB A n k=false):recV h t (also V n k) A=recV h t V A:=by
 unfold recV;refine List.map_congr_left fun e he=>?_;unfold recF
 congr 2
 refine List.ext_getElem? fun q=>?_;simp only [List.getElem?_mapIdx]
 by_cases hx:e.1=n∧(q:Int)=k
 ·obtain ⟨h1,h2⟩:=hx
  have q1:=look_at hA.srt he;rw [show key e=n from h1] at q1;unfold gB at hg;rw [q1] at hg;simp only [decide_eq_false_iff_not] at hg;rw [List.getElem?_eq_none (by omega)]
  rfl
 ·simp [also,hx]
end
end Go.Proofs.YtljnkaodhfnbbaaGreatDoor.Pa
namespace Go.Proofs.YtljnkaodhfnbbaaGreatDoor.Pa
open Go.RowKit
open Fl (R4 z4 rat goodF okR okL)
open Fs (Fil Abs key Srt OkA gB gV sB sA dA dE dD dV addE addA look_some look_none look_at map_look put_set)
open Ro (E5 z5 okE eat mayP eat_get)
open Ck (LL lat sN sE tE)
open Ua (bit frm te tp tb upd)
section
variable {h:Hr} {t:List E5} {V:Int→Int→Bool} {A:Abs}
def rcv1 (h:Hr) (l:List E5) (f r:Int) (A:Abs):Abs:=if (gB A f r && allH h l)=true then sA A f r (mix h l (gV A f r)) else A
theorem rcv1_next (hA:OkA A) {f r:Int} (h0:r≠0) (hy:okY (grp t f r)):rcv1 h (grp t f r) f r (recV h t V A)=recV h t (also V f r) A:=by
 unfold rcv1;rw [rec_gB]
 by_cases hg:gB A f r=true
 ·by_cases ha:allH h (grp t f r)=true
  ·rw [hg,ha,show (true && true)=true from rfl,if_pos rfl,← rec_set hA hg h0 hy]
   congr 1
   unfold newV;rw [if_pos ha]
  ·rw [if_neg (by simp [ha])]
   unfold recV;refine List.map_congr_left fun e _=>?_;unfold recF
   congr 2
   refine List.ext_getElem? fun q=>?_;simp only [List.getElem?_mapIdx]
   by_cases hx:e.1=f∧(q:Int)=r
   ·obtain ⟨h1,h2⟩:=hx
    rw [h1,h2];have:∀ v,newV h (grp t f r) v=v:=fun v=>by unfold newV;rw [if_neg ha]
    simp only [this,ite_self]
   ·simp [also,hx]
 ·rw [if_neg (by simp [hg]),rec_out hA (by simpa using hg)]
def seen (t:List E5) (j:Nat) (n k:Int):Bool:=(t.take j).any (mt n k)
theorem take_eat {j:Nat} (hj:j < t.length):t.take (j+1)=t.take j ++ [eat t j]:=by rw [List.take_add_one,eat_get hj];rfl
def ex1 (s:Abs×Int) (x:E5):Abs×Int:=if x.1=3 then (dA s.1 2 x.2.2.1 x.2.2.2.1 z4,dD s.1 2 x.2.2.1 x.2.2.2.1 s.2) else s
def exU (t:List E5) (s:Abs×Int) (j:Nat):Abs×Int:=(t.take j).foldl ex1 s
def apS (h:Hr) (t:List E5) (s:Abs×Int):Abs×Int:=t.foldl ex1 (recA h t s.1,s.2)
theorem exU_zero (s:Abs×Int):exU t s 0=s:=rfl
theorem exU_next (s:Abs×Int) {j:Nat} (hj:j < t.length):exU t s (j+1)=ex1 (exU t s j) (eat t j):=by unfold exU;rw [take_eat hj,List.foldl_append];rfl
theorem exU_yes (s:Abs×Int) {j:Nat} (hj:j < t.length) (h3:(eat t j).1=3):exU t s (j+1)=(dA (exU t s j).1 2 (eat t j).2.2.1 (eat t j).2.2.2.1 z4,dD (exU t s j).1 2 (eat t j).2.2.1 (eat t j).2.2.2.1 (exU t s j).2):=by
 rw [exU_next s hj];unfold ex1;rw [if_pos h3]
theorem exU_no (s:Abs×Int) {j:Nat} (hj:j < t.length) (h3:(eat t j).1≠3):exU t s (j+1)=exU t s j:=by
 rw [exU_next s hj];unfold ex1;rw [if_neg h3]
theorem exU_end (h:Hr) (s:Abs×Int):exU t (recA h t s.1,s.2) t.length=apS h t s:=by unfold exU apS;rw [List.take_length]
theorem dD_le {A:Abs} {o f r d:Int} : d≤dD A o f r d∧dD A o f r d≤d+1:=by unfold dD;split <;> omega
theorem exU_d (s:Abs×Int):∀ j,s.2≤(exU t s j).2∧(exU t s j).2≤s.2+j
 | 0=>by rw [exU_zero];omega
 | j+1=>by
   have ih:=exU_d s j
   by_cases hj:j < t.length
   ·rw [exU_next s hj]
    unfold ex1
    split
    ·have:=dD_le (A:=(exU t s j).1) (o:=2) (f:=(eat t j).2.2.1) (r:=(eat t j).2.2.2.1) (d:=(exU t s j).2)
     simp only
     omega
    ·omega
   ·have:exU t s (j+1)=exU t s j:=by unfold exU;rw [List.take_of_length_le (by omega),List.take_of_length_le (by omega)]
    rw [this]
    omega
end
def tn (F:Nat→Bool) (m:Int) (i:Nat):Bool:=if 1≤i∧i < 11 then F i != bit m i else F i
abbrev S2:=Int×Int
def z2:S2:=(0,0)
def pat (P:List S2) (i:Nat):S2:=P.getD i z2
def sq1 (s:Int) (F:Nat→Bool) (x:S2):Nat→Bool:=if x.1=s then tn F x.2 else F
def sq (P:List S2) (s:Int) (F:Nat→Bool) (j:Nat):Nat→Bool:=(P.take j).foldl (sq1 s) F
theorem sq_next (P:List S2) (s:Int) (F:Nat→Bool) {j:Nat} (hj:j < P.length):sq P s F (j+1)=sq1 s (sq P s F j) (pat P j):=by
 unfold sq;have:P.take (j+1)=P.take j ++ [pat P j]:=by
  rw [List.take_add_one,List.getElem?_eq_getElem hj];unfold pat;rw [List.getD_eq_getElem?_getD,List.getElem?_eq_getElem hj]
  rfl
 rw [this,List.foldl_append]
 rfl
theorem sq_yes (P:List S2) (s:Int) (F:Nat→Bool) {j:Nat} (hj:j < P.length) (h:(pat P j).1=s):sq P s F (j+1)=tn (sq P s F j) (pat P j).2:=by rw [sq_next P s F hj];unfold sq1;rw [if_pos h]
theorem sq_no (P:List S2) (s:Int) (F:Nat→Bool) {j:Nat} (hj:j < P.length) (h:(pat P j).1≠s):sq P s F (j+1)=sq P s F j:=by rw [sq_next P s F hj];unfold sq1;rw [if_neg h]
theorem and_2046_all:∀ r:Fin 2048,r.val &&& 2046=r.val / 2 * 2:=by decide +kernel
theorem and_2046 (x:Int):bits BinOp.and .i64 x 2046=x / 2 % 1024 * 2:=by
 have h:=Ua.and_i64 x 2046 (by decide);have h2:((x % 18446744073709551616).toNat &&& 2046:Nat)=(x % 18446744073709551616).toNat % 2048 / 2 * 2:=by
  have a:=and_2046_all ⟨(x % 18446744073709551616).toNat % 2048,Nat.mod_lt _ (by omega)⟩;simp only at a;rw [← a];have e:(x % 18446744073709551616).toNat % 2048=(x % 18446744073709551616).toNat &&& (2 ^ 11 - 1):=by rw [Nat.and_two_pow_sub_one_eq_mod]
  rw [e,Nat.and_assoc]
  rfl
 rw [show ((2046:Int))=((2046:Nat):Int) from rfl,h,h2]
 omega
theorem bit_2046 (x:Int) {i:Nat} (hi:i < 11):bit (x / 2 % 1024 * 2) i=(decide (1≤i) && bit x i):=by
 unfold bit
 rcases Nat.lt_or_ge i 1 with h | h
 ·obtain rfl:i=0:=by omega
  simp
 ·rw [decide_eq_true h,Bool.true_and,decide_eq_decide]
  obtain rfl | rfl | rfl | rfl | rfl | rfl | rfl | rfl | rfl | rfl:i=1∨i=2∨i=3∨i=4∨i=5∨i=6∨i=7∨i=8∨i=9∨i=10:=by omega
  all_goals simp only [Int.reducePow];omega
theorem tn_code (F:Nat→Bool) (m:Int) (i:Nat) (hi:i < 11):Ua.turn F (bits BinOp.and .i64 m 2046) 11 i=tn F m i:=by
 rw [and_2046];unfold Ua.turn tn;rw [if_pos hi,bit_2046 m hi]
 by_cases h:1≤i
 ·simp [h,hi]
 ·simp [h]
abbrev Sts:=List (Abs×Int)
def sat (S:Sts) (n:Int):Abs×Int:=S.getD n.toNat ([],0)
def vat (V:List Bool) (n:Int):Bool:=V.getD n.toNat false
def snB (S:Sts) (T:LL) (V:List Bool) (s:Int):Bool:=decide (0≤sN s T) && vat V (sN s T) && gB (sat S (sN s T)).1 (sE s T).2.2.1 (sE s T).2.2.2.1
def snX (S:Sts) (T:LL) (s:Int):Int:=rb (gV (sat S (sN s T)).1 (sE s T).2.2.1 (sE s T).2.2.2.1) (sE s T).2.2.2.2
def sbN (S:Sts) (T:LL) (V:List Bool) (s:Int):Int:=if snB S T V s=true then sN s T else -1
def sbX (S:Sts) (T:LL) (V:List Bool) (s:Int):Int:=if snB S T V s=true then snX S T s else 0
def lowF (_:Nat):Bool:=false
def frF (S:Sts) (T:LL) (V:List Bool) (P:List S2) (s:Int):Nat→Bool:=if snB S T V s=true then sq P s (frm (snX S T s) false) P.length else lowF
def hrB (S:Sts) (T:LL) (V:List Bool) (P:List S2) (s:Int):Bool:=snB S T V s && decide (te (frF S T V P s)=0) && !tp (frF S T V P s)
def hrV (S:Sts) (T:LL) (V:List Bool) (P:List S2) (s:Int):Int:=if hrB S T V P s=true then tb (frF S T V P s) else 0
def hr (S:Sts) (T:LL) (V:List Bool) (P:List S2):Hr:=fun s=>if 1≤s∧s≤16∧hrB S T V P s=true then some (hrV S T V P s) else none
theorem tb_byt (F:Nat→Bool):byt (tb F):=by
 unfold tb byt
 split
 ·omega
 ·have:=Ua.val_lt F 8
  omega
theorem hrV_byt (S:Sts) (T:LL) (V:List Bool) (P:List S2) (s:Int):byt (hrV S T V P s):=by
 unfold hrV
 split
 ·exact tb_byt _
 ·unfold byt;omega
theorem hr_ok (S:Sts) (T:LL) (V:List Bool) (P:List S2):okH (hr S T V P):=fun n y h=>by
 unfold hr at h
 split at h
 ·injection h with h;subst h;exact hrV_byt S T V P n
 ·cases h
def rdE (S:Sts) (T:LL) (V:List Bool):Int:=if 1≤S.length∧S.length≤32∧T.length=S.length∧V.length=S.length then tE T else 1
def rdS (S:Sts) (T:LL) (V:List Bool) (h:Hr):Sts:=(List.range S.length).map fun (i:Nat)=>if vat V i=true then apS h (lat T i) (sat S i) else sat S i
theorem rdS_len (S:Sts) (T:LL) (V:List Bool) (h:Hr):(rdS S T V h).length=S.length:=by simp [rdS]
theorem rdS_at (S:Sts) (T:LL) (V:List Bool) (h:Hr) {i:Nat} (hi:i < S.length):sat (rdS S T V h) i=if vat V i=true then apS h (lat T i) (sat S i) else sat S i:=by
 show (rdS S T V h).getD ((i:Int)).toNat _=_
 rw [Int.toNat_natCast,List.getD_eq_getElem?_getD];unfold rdS;rw [List.getElem?_map,List.getElem?_range hi]
 rfl
end Go.Proofs.YtljnkaodhfnbbaaGreatDoor.Pa
