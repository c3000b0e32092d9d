import Derived.Test.YtljnkaodhfnbbaaGreatDoorPc1
import Derived.Test.YtljnkaodhfnbbaaGreatDoorChecked
import Derived.WalkKit
import Derived.LoopTactic
import Derived.Outline
import Derived.Deep.Draws
import Derived.DeepKeys
import Derived.Laws.ResultCell
import Derived.Lib.Hide
import Derived.Maps.OwnSet
import Derived.Test.YtljnkaodhfnbbaaGreatDoorShelfK
import Derived.Maps.OwnOps
set_option maxRecDepth 100000
namespace Go.Proofs.YtljnkaodhfnbbaaGreatDoor.Sf
open Go.RowKit
open Sd (light light_value By Cl)
structure Fl where
 idx:Nat
 slot:Nat
 cs:Array Value
 ty:TypeId
def fill (F:List Fl) (x:Nat→Value) (a:Act):Act:=F.foldl (fun a f=>a.put (some f.slot) (x f.slot)) a
theorem put_comm (a:Act) {d e:Nat} (h:d≠e) (u v:Value):(a.put (some d) u).put (some e) v=(a.put (some e) v).put (some d) u:=by
 simp only [Act.put];rw [Array.setIfInBounds_comm _ _ h]
theorem put_put (a:Act) (d:Nat) (u v:Value):(a.put (some d) u).put (some d) v=a.put (some d) v:=by
 simp only [Act.put,Array.setIfInBounds_setIfInBounds]
theorem fill_put (x:Nat→Value) (dst:Option Nat) (v:Value):∀ (F:List Fl) (a:Act),(∀ f∈F,dst≠some f.slot)→(fill F x a).put dst v=fill F x (a.put dst v)
 | [],a,_=>rfl
 | f :: r,a,h=>by
   have ih:=fill_put x dst v r (a.put (some f.slot) (x f.slot)) fun g hg=>h g (List.mem_cons_of_mem _ hg)
   show (fill r x (a.put (some f.slot) (x f.slot))).put dst v=fill r x ((a.put dst v).put (some f.slot) (x f.slot))
   rw [ih]
   cases dst with
   | none=>rfl
   | some d=>rw [put_comm a (fun e=>h f (List.mem_cons_self ..) (by rw [e])) (x f.slot) v]
theorem fill_congr {x y:Nat→Value} : ∀ (F:List Fl) (a:Act),(∀ f∈F,x f.slot=y f.slot)→fill F x a=fill F y a
 | [],_,_=>rfl
 | f :: r,a,h=>by
   show fill r x (a.put (some f.slot) (x f.slot))=fill r y (a.put (some f.slot) (y f.slot))
   rw [h f (List.mem_cons_self ..),fill_congr r _ fun g hg=>h g (List.mem_cons_of_mem _ hg)]
def upd (x:Nat→Value) (s:Nat) (v:Value) (k:Nat):Value:=if k=s then v else x k
theorem fill_set (x:Nat→Value) (s:Nat) (v:Value):∀ (F:List Fl) (a:Act),(F.map (·.slot)).Nodup→(∃ f∈F,f.slot=s)→(fill F x a).put (some s) v=fill F (upd x s v) a
 | [],a,_,h=>by obtain ⟨_,h,_⟩:=h;cases h
 | f :: r,a,hn,h=>by
   rw [List.map_cons,List.nodup_cons] at hn
   show (fill r x (a.put (some f.slot) (x f.slot))).put (some s) v=fill r (upd x s v) (a.put (some f.slot) (upd x s v f.slot))
   by_cases e:f.slot=s
   ·have hne:∀ g∈r,g.slot≠s:=fun g hg e'=>hn.1 (List.mem_map.2 ⟨g,hg,by rw [e,e']⟩)
    rw [fill_put x (some s) v r _ fun g hg e'=>hne g hg (Option.some.inj e').symm,e,put_put];rw [show upd x s v s=v by simp [upd]];exact fill_congr r _ fun g hg=>by simp [upd,hne g hg]
   ·obtain ⟨g,hg,hs⟩:=h
    have hg':g∈r:=by
     rcases List.mem_cons.1 hg with rfl | k
     ·exact absurd hs e
     ·exact k
    rw [show upd x s v f.slot=x f.slot by simp [upd,e]];exact fill_set x s v r _ hn.2 ⟨g,hg',hs⟩
def marks (L:Array Bool) (d:List Nat):Array Bool:=d.foldl (fun L i=>L.setIfInBounds i true) L
theorem marks_get:∀ (d:List Nat) (L:Array Bool) (k:Nat),(marks L d)[k]? = if k∈d then (L[k]?).map (fun _=>true) else L[k]?
 | [],L,k=>by simp [marks]
 | i :: r,L,k=>by
   show (marks (L.setIfInBounds i true) r)[k]? = _
   rw [marks_get r,Array.getElem?_setIfInBounds]
   by_cases hi:i=k
   ·subst hi
    by_cases hl:i < L.size
    ·simp [hl]
    ·simp [hl]
   ·have hk:k≠i:=fun e=>hi e.symm
    simp [hi,hk]
theorem marks_size:∀ (d:List Nat) (L:Array Bool),(marks L d).size=L.size
 | [],_=>rfl
 | j :: r,L=>by show (marks (L.setIfInBounds j true) r).size=_;rw [marks_size r,Array.size_setIfInBounds]
theorem marks_set (L:Array Bool) (d:List Nat) (i:Nat):(marks L d).setIfInBounds i true=marks (L.setIfInBounds i true) d:=by
 refine Array.ext_getElem? fun k=>?_;rw [Array.getElem?_setIfInBounds,marks_get,marks_get,Array.getElem?_setIfInBounds];rw [marks_size]
 by_cases hi:i=k
 ·subst hi
  by_cases hl:i < L.size <;> by_cases hd:i∈d <;> simp [hl,hd]
 ·simp [hi]
def doneOf (F:List Fl) (m:Nat→Bool):List Nat:=(F.filter fun f=>m f.idx).map (·.idx)
theorem mem_done {F:List Fl} {m:Nat→Bool} {k:Nat} : k∈doneOf F m↔m k=true∧∃ f∈F,f.idx=k:=by
 unfold doneOf;rw [List.mem_map]
 constructor
 ·rintro ⟨f,hf,rfl⟩
  rw [List.mem_filter] at hf;exact ⟨hf.2,f,hf.1,rfl⟩
 ·rintro ⟨hm,f,hf,rfl⟩
  exact ⟨f,List.mem_filter.2 ⟨hf,hm⟩,rfl⟩
def on (m:Nat→Bool) (j k:Nat):Bool:=k == j || m k
theorem marks_on (L:Array Bool) (F:List Fl) (m:Nat→Bool) (f:Fl) (hf:f∈F):(marks L (doneOf F m)).setIfInBounds f.idx true=marks L (doneOf F (on m f.idx)):=by
 rw [marks_set];refine Array.ext_getElem? fun k=>?_;rw [marks_get,marks_get,Array.getElem?_setIfInBounds]
 by_cases e:f.idx=k
 ·subst e
  have h2:f.idx∈doneOf F (on m f.idx):=mem_done.2 ⟨by simp [on],f,hf,rfl⟩;rw [if_pos h2]
  by_cases hl:f.idx < L.size <;> by_cases hd:f.idx∈doneOf F m <;> simp [hl,hd]
 ·have hiff:(k∈doneOf F (on m f.idx))↔(k∈doneOf F m):=by
   have hb:(k == f.idx)=false:=by simpa using fun h=>e h.symm
   rw [mem_done,mem_done]
   simp [on,hb]
  by_cases hd:k∈doneOf F m
  ·rw [if_pos hd,if_pos (hiff.2 hd)];simp [e]
  ·rw [if_neg hd,if_neg (fun h=>hd (hiff.1 h))];simp [e]
def allMasks:List Fl→(List Nat→Bool)→Bool
 | [],k=>k []
 | f :: r,k=>allMasks r k && allMasks r (fun d=>k (f.idx :: d))
theorem allMasks_spec:∀ (F:List Fl) (k:List Nat→Bool),allMasks F k=true→∀ m,k (doneOf F m)=true
 | [],k,h,m=>h
 | f :: r,k,h,m=>by
   unfold allMasks at h;rw [Bool.and_eq_true] at h;unfold doneOf;rw [List.filter_cons]
   cases hm:m f.idx with
   | true=>rw [if_pos rfl];exact allMasks_spec r _ h.2 m
   | false=>rw [if_neg (by simp)];exact allMasks_spec r _ h.1 m
def good (ops:Array Oper):List (Nat×Nat)→List Fl→Array Bool→Bool
 | [],F,L=>F.isEmpty && (Region.ready .any ops L).isEmpty
 | (0,i) :: r,F,L =>
   (match ops[i]? with
    | some o=>light o.op && F.all (fun f=>o.dst != some f.slot) && allMasks F (fun d=>Region.free .any ops (marks L d) i && (Region.ready .any ops (marks L d)).contains i)
    | none=>false) && good ops r F (L.setIfInBounds i true)
 | (1,i) :: r,F,L =>
   (match ops[i]? with
    | some o=>F.all (fun f=>o.dst != some f.slot) && allMasks F (fun d=>!(Region.ready .any ops (marks L d)).isEmpty && (Region.ready .any ops (marks L d)).all fun j=>j == i || F.any fun f=>f.idx == j && !d.contains j)
    | none=>false) && good ops r F (L.setIfInBounds i true)
 | (_,i) :: r,f :: F,L =>
   (ops[i]?).isSome && allMasks (f :: F) (fun d=>d.contains f.idx || (!(Region.ready .any ops (marks L d)).isEmpty && (Region.ready .any ops (marks L d)).all fun j=>(f :: F).any fun g=>g.idx == j && !d.contains j)) && good ops r F (L.setIfInBounds f.idx true)
 | (_,_) :: _,[],_=>false
def wpSf (P:Program) (ops:Array Oper) (C:World→Prop) (Q:Exit→Act→World→Prop) (n0:Nat):List (Nat×Oper)→List Fl→List (Nat×Nat)→List Nat→Act→World→Prop
 | [],_,_,_,a,w=>∀ w',Below w.heap.size w w'→C w'→Q .normal a w'
 | (0,o) :: r,F,H,L,a,w=>∀ x,wpQuiet P ops C (fun a'=>wpSf P ops C Q n0 r F H L a' w) [o] (fill F x a)
 | (1,o) :: r,F,H,L,a,w=>∀ x w',Below w.heap.size w w'→C w'→Region.wanted o (yielded ops (fill F x a).tmps)=true ∧
     o.wp P (fill F x a) w' (fun a'' w''=>C w''∧w'.heap.size≤w''.heap.size∧(F≠[]→Below w'.heap.size w' w'')∧wpSf P ops C Q n0 r F ((w'.heap.size,w''.heap.size) :: H) L a'' w'') Q
 | (_,_) :: r,F,H,L,a,w=>match F with
   | []=>False
   | f :: F=>∀ g w',Below w.heap.size w w'→C w'→w'.heap[g]? = some (.cells f.cs f.ty (0,0))→n0≤g→(∀ p∈H,g < p.1∨p.2≤g)→g ∉ L→wpSf P ops C Q n0 r F H (g :: L) (a.put (some f.slot) (.pointer (some ⟨g,0,none⟩))) w'
def picks (l:List Oper):List (Nat×Nat)→List (Nat×Oper)
 | []=>[]
 | (k,i) :: r=>match l[i]? with
   | some o=>(k,o) :: picks l r
   | none=>picks l r
structure Inv (F:List Fl) (m:Nat→Bool) (x:Nat→Value) (a:Act) (n0:Nat) (H:List (Nat×Nat)) (L:List Nat) (w:World):Prop where
 old:∀ f∈F,m f.idx=false→x f.slot=a.tmps.getD f.slot undef
 new:∀ f∈F,m f.idx=true→∃ g,x f.slot = .pointer (some ⟨g,0,none⟩)∧w.heap[g]? = some (.cells f.cs f.ty (0,0))∧n0≤g∧(∀ p∈H,g < p.1∨p.2≤g)∧g ∉ L
 apart:∀ f∈F,∀ f'∈F,f.slot≠f'.slot→m f.idx=true→m f'.idx=true→x f.slot≠x f'.slot
 past:∀ p∈H,p.2≤w.heap.size
 met:∀ g∈L,g < w.heap.size
theorem getD_put (a:Act) (dst:Option Nat) (v:Value) (s:Nat) (h:dst≠some s):(a.put dst v).tmps.getD s undef=a.tmps.getD s undef:=by
 cases dst with
 | none=>rfl
 | some d =>
   have hd:d≠s:=fun e=>h (by rw [e]);simp only [Act.put,Array.getD_eq_getD_getElem?,Array.getElem?_setIfInBounds,if_neg hd]
theorem fill_idem (x:Nat→Value):∀ (F:List Fl) (a:Act),fill F x (fill F x a)=fill F x a
 | [],_=>rfl
 | f :: r,a=>by
   show fill r x ((fill r x (a.put (some f.slot) (x f.slot))).put (some f.slot) (x f.slot))=fill r x (a.put (some f.slot) (x f.slot))
   have e:∀ (r:List Fl) (b:Act),(fill r x (b.put (some f.slot) (x f.slot))).put (some f.slot) (x f.slot)=fill r x (b.put (some f.slot) (x f.slot)):=by
    intro r
    induction r with
    | nil=>intro b;exact put_put b _ _ _
    | cons g r ih =>
      intro b
      show (fill r x ((b.put (some f.slot) (x f.slot)).put (some g.slot) (x g.slot))).put (some f.slot) (x f.slot)=fill r x ((b.put (some f.slot) (x f.slot)).put (some g.slot) (x g.slot))
      by_cases h:f.slot=g.slot
      ·rw [← h,put_put];exact ih b
      ·rw [put_comm b h,ih]
   rw [e];exact fill_idem x r _
def withD (a:Act) (ds:List Deferred):Act:={ a with defers:=ds }
theorem fill_D (x:Nat→Value) (ds:List Deferred):∀ (F:List Fl) (a:Act),withD (fill F x a) ds=fill F x (withD a ds)
 | [],_=>rfl
 | f :: r,a=>by
   show withD (fill r x (a.put (some f.slot) (x f.slot))) ds=fill r x ((withD a ds).put (some f.slot) (x f.slot))
   rw [fill_D x ds r]
   rfl
theorem getD_fill (x:Nat→Value) (s:Nat):∀ (F:List Fl) (a:Act),(∀ f∈F,f.slot=s→x s=a.tmps.getD s undef)→(fill F x a).tmps.getD s undef=a.tmps.getD s undef
 | [],_,_=>rfl
 | f :: r,a,h=>by
   have e:(a.put (some f.slot) (x f.slot)).tmps.getD s undef=a.tmps.getD s undef:=by
    by_cases hs:f.slot=s
    ·subst hs
     have:=h f (List.mem_cons_self ..) rfl;simp only [Act.put,Array.getD_eq_getD_getElem?,Array.getElem?_setIfInBounds] at *
     by_cases hl:f.slot < a.tmps.size
     ·simp [hl] at *;exact this
     ·simp [hl]
    ·exact getD_put a _ _ s (fun k=>hs (Option.some.inj k))
   show (fill r x (a.put (some f.slot) (x f.slot))).tmps.getD s undef=_
   rw [getD_fill x s r _ fun g hg k=>by rw [e];exact h g (List.mem_cons_of_mem _ hg) k,e]
theorem wp_put {P:Program} {o:Oper} {a:Act} {w:World} {K:Act→World→Prop} {Q:Exit→Act→World→Prop} (h:o.wp P a w K Q):o.wp P a w (fun a' w'=>(∃ ds v,a'=(withD a ds).put o.dst v)∧K a' w') Q:=by
 unfold Oper.wp at *
 cases hr:(execOp a.eval o).run P w with
 | halt y w1=>rw [hr] at h;cases y <;> exact h
 | ok nx w1 =>
   rw [hr] at h
   cases nx with
   | value v=>exact ⟨⟨a.defers,v,rfl⟩,h⟩
   | skip=>exact ⟨⟨a.defers,undef,rfl⟩,h⟩
   | defer d=>exact ⟨⟨d :: a.defers,undef,rfl⟩,h⟩
   | enter f args =>
     refine Calls.mono h fun e w'' k=>?_
     cases e with
     | returned v=>exact ⟨⟨a.defers,v,rfl⟩,k⟩
     | panicked c=>exact k
     | outgrown=>exact k
   | row r args=>exact Rows.mono h fun v w'' k=>⟨⟨a.defers,v,rfl⟩,k⟩
   | _=>exact h
def left:List Fl→(Nat→Bool)→Nat
 | [],_=>0
 | f :: r,m=>left r m+(if m f.idx then 0 else 1)
theorem on_le (m:Nat→Bool) (j k:Nat):(if on m j k then 0 else 1)≤(if m k then 0 else 1):=by
 unfold on
 cases (k == j) <;> cases m k <;> simp
theorem left_mono (m:Nat→Bool) (j:Nat):∀ r:List Fl,left r (on m j)≤left r m
 | []=>Nat.le_refl _
 | g :: r=>Nat.add_le_add (left_mono m j r) (on_le m j g.idx)
theorem left_on:∀ (F:List Fl) (m:Nat→Bool) (f:Fl),f∈F→m f.idx=false→left F (on m f.idx)+1≤left F m
 | g :: r,m,f,hf,hm=>by
   have a:=left_mono m f.idx r;have b:=on_le m f.idx g.idx;unfold left
   rcases List.mem_cons.1 hf with e | k
   ·subst e
    have:on m f.idx f.idx=true:=by simp [on]
    rw [this,hm]
    simp
    exact a
   ·have ih:=left_on r m f k hm
    omega
theorem nodup_same:∀ {F:List Fl},(F.map (·.slot)).Nodup→∀ f∈F,∀ g∈F,g.slot=f.slot→g=f
 | [],_,f,hf,_,_,_=>by cases hf
 | b :: r,hn,f,hf,g,hg,e=>by
   rw [List.map_cons,List.nodup_cons] at hn
   rcases List.mem_cons.1 hg with h1 | hg'
   ·rcases List.mem_cons.1 hf with h2 | hf'
    ·rw [h1,h2]
    ·exact absurd (List.mem_map.2 ⟨f,hf',by rw [← e,h1]⟩) hn.1
   ·rcases List.mem_cons.1 hf with h2 | hf'
    ·exact absurd (List.mem_map.2 ⟨g,hg',by rw [e,h2]⟩) hn.1
    ·exact nodup_same hn.2 f hf' g hg' e
section
variable {P:Program} {l:List Oper} {C:World→Prop} {Q:Exit→Act→World→Prop} {n0:Nat}
def FlOk (P:Program) (l:List Oper) (f:Fl):Prop:=∃ o,l.toArray[f.idx]? = some o∧o.dst=some f.slot∧o.guard=none∧∀ ρ w,(execOp ρ o).run P w = .ok (.value (.pointer (some ⟨w.heap.size,0,none⟩))) (w.alloc (.cells f.cs f.ty))
theorem Inv.step {F:List Fl} {m:Nat→Bool} {x:Nat→Value} {a:Act} {H:List (Nat×Nat)} {L:List Nat} {w:World} (h:Inv F m x a n0 H L w) (hn:(F.map (·.slot)).Nodup) (hi:∀ f∈F,∀ f'∈F,f.idx=f'.idx→f.slot=f'.slot) (h0:n0≤w.heap.size) (f:Fl) (hf:f∈F) (hm:m f.idx=false) :
 Inv F (on m f.idx) (upd x f.slot (.pointer (some ⟨w.heap.size,0,none⟩))) a n0 H L (w.alloc (.cells f.cs f.ty)):=by
 have same:∀ g∈F,g.slot=f.slot→g=f:=nodup_same hn f hf;have on_:∀ g∈F,g.slot≠f.slot→on m f.idx g.idx=m g.idx:=fun g hg hne=>by
  have hb:(g.idx == f.idx)=false:=by simpa using fun e=>hne (hi g hg f hf e)
  simp [on,hb]
 have onf:on m f.idx f.idx=true:=by simp [on]
 refine ⟨fun g hg hmg=>?_,fun g hg hmg=>?_,fun g hg g' hg' hne hmg hmg'=>?_,fun p hp=>?_,fun g hg=>?_⟩
 ·by_cases e:g.slot=f.slot
  ·rw [same g hg e,onf] at hmg;cases hmg
  ·rw [on_ g hg e] at hmg
   simp only [upd,if_neg e];exact h.old g hg hmg
 ·by_cases e:g.slot=f.slot
  ·obtain rfl:=same g hg e
   exact ⟨w.heap.size,by simp [upd],heap_alloc_new w _,h0,fun p hp=>.inr (h.past p hp),fun hl=>by have:=h.met _ hl;omega⟩
  ·rw [on_ g hg e] at hmg
   obtain ⟨b,h1,h2,h3⟩:=h.new g hg hmg;exact ⟨b,by simp only [upd,if_neg e];exact h1,(Below.heap_alloc w _ b (lt_of_block h2)).trans h2,h3⟩
 ·by_cases e:g.slot=f.slot
  ·have e':g'.slot≠f.slot:=fun k=>hne (e.trans k.symm)
   rw [on_ g' hg' e'] at hmg';obtain ⟨b,h1,h2,_⟩:=h.new g' hg' hmg';have:=lt_of_block h2;simp only [upd,if_pos e,if_neg e',h1]
   simp <;> omega
  ·by_cases e':g'.slot=f.slot
   ·rw [on_ g hg e] at hmg
    obtain ⟨b,h1,h2,_⟩:=h.new g hg hmg;have:=lt_of_block h2;simp only [upd,if_neg e,if_pos e',h1]
    simp <;> omega
   ·rw [on_ g hg e] at hmg
    rw [on_ g' hg' e'] at hmg';simp only [upd,if_neg e,if_neg e'];exact h.apart g hg g' hg' hne hmg hmg'
 ·have:=h.past p hp
  simp
  omega
 ·have:=h.met g hg
  simp
  omega
def cnt:List (Nat×Nat)→Nat
 | []=>0
 | (0,_) :: r=>cnt r+1
 | (1,_) :: r=>cnt r+1
 | (_+2,_) :: r=>cnt r
def Holds (P:Program) (l:List Oper) (C:World→Prop) (Q:Exit→Act→World→Prop) (n0:Nat) (n:Nat):Prop :=
 ∀ (sc:List (Nat×Nat)) (F:List Fl) (H:List (Nat×Nat)) (L:List Nat) (listed:Array Bool) (fuel:Nat) (a:Act) (w:World) (m:Nat→Bool) (x:Nat→Value) (w':World),
  2 * fuel+sc.length≤n→good l.toArray sc F listed=true→(∀ f∈F,FlOk P l f)→(F.map (·.slot)).Nodup→(∀ f∈F,∀ f'∈F,f.idx=f'.idx→f.slot=f'.slot)→Inv F m x a n0 H L w'→Below w.heap.size w w'→C w' →
  cnt sc+left F m≤fuel→wpSf P l.toArray C Q n0 (picks l sc) F H L a w→wpAnyH P .any l.toArray Q C fuel (marks listed (doneOf F m)) (fill F x a) w'
theorem wanted_none {o:Oper} {y:Nat→Option Bool} (h:o.guard=none):Region.wanted o y=true:=by simp [Region.wanted,h]
theorem float {n:Nat} (ih:Holds P l C Q n0 n) (hC:∀ w,C w→n0≤w.heap.size) (hA:∀ w o,C w→C (w.alloc o)) {sc:List (Nat×Nat)} {F:List Fl} {H:List (Nat×Nat)} {L:List Nat} {listed:Array Bool} {fuel:Nat} {a:Act} {w:World} {m:Nat→Bool} {x:Nat→Value} {w':World}
 (hn:2 * (fuel+1)+sc.length≤n+1) (hg:good l.toArray sc F listed=true) (hF:∀ f∈F,FlOk P l f) (hs:(F.map (·.slot)).Nodup) (hi:∀ f∈F,∀ f'∈F,f.idx=f'.idx→f.slot=f'.slot) (hI:Inv F m x a n0 H L w') (hb:Below w.heap.size w w') (hc:C w')
 (hf:cnt sc+left F m≤fuel+1) (h:wpSf P l.toArray C Q n0 (picks l sc) F H L a w) (f:Fl) (hff:f∈F) (hm:m f.idx=false) :
 wpOp P l.toArray Q f.idx (fun a' w'=>C w'∧wpAnyH P .any l.toArray Q C fuel ((marks listed (doneOf F m)).setIfInBounds f.idx true) a' w') (fill F x a) w':=by
 obtain ⟨o,ho,hd,hgd,hrun⟩:=hF f hff;unfold wpOp;simp only [ho,wanted_none hgd,if_true];refine .inl ?_;unfold Oper.wp;rw [hrun];rw [Oper.upon_value,hd,fill_set x f.slot _ F a hs ⟨f,hff,rfl⟩,marks_on listed F m f hff];have lo:=left_on F m f hff hm;exact ⟨hA _ _ hc,ih sc F H L listed fuel a w _ _ _ (by omega) hg hF hs hi (hI.step hs hi (hC _ hc) f hff hm) (hb.trans ((Below.refl _ _).alloc hb.size _)) (hA _ _ hc) (by omega) h⟩
theorem holds (hsel:Region.noSelect l.toArray=true) (hQ:∀ c d v a w,Q (.panic c) (Act.put a d v) w→Q (.panic c) a w) (hC:∀ w,C w→n0≤w.heap.size) (hA:∀ w o,C w→C (w.alloc o)):∀ n,Holds P l C Q n0 n:=by
 intro n
 induction n with
 | zero =>
   intro sc F H L listed fuel a w m x w' hn hg hF hs hi hI hb hc hf h
   have e:sc = []:=List.length_eq_zero_iff.1 (by omega);subst e;unfold good at hg;simp only [Bool.and_eq_true,List.isEmpty_iff] at hg;obtain ⟨rfl,hr⟩:=hg;exact wpAnyH_done hr (h w' hb hc) fuel
 | succ n ih =>
   intro sc F H L listed fuel a w m x w' hn hg hF hs hi hI hb hc hf h
   match sc,hg,h,hn,hf with
   | [],hg,h,_,_ =>
     unfold good at hg;simp only [Bool.and_eq_true,List.isEmpty_iff] at hg;obtain ⟨rfl,hr⟩:=hg;exact wpAnyH_done hr (h w' hb hc) fuel
   | (0,i) :: r,hg,h,hn,hf =>
     have hg':(_ && good l.toArray r F (listed.setIfInBounds i true))=true:=hg;rw [Bool.and_eq_true] at hg';obtain ⟨hg1,hg2⟩:=hg'
     cases ho:l[i]? with
     | none=>simp [ho] at hg1
     | some o =>
       have hop:l.toArray[i]? = some o:=by simp [ho]
       rw [hop] at hg1;simp only [Bool.and_eq_true,List.all_eq_true] at hg1;obtain ⟨⟨hl,hds⟩,hm⟩:=hg1;have hds':∀ f∈F,o.dst≠some f.slot:=fun f hf=>by simpa using hds f hf
       have hm':=allMasks_spec F _ hm m;simp only [Bool.and_eq_true] at hm';rw [picks,ho] at h;obtain ⟨fuel,rfl⟩:∃ k,fuel=k+1:=⟨fuel - 1,by simp only [cnt] at hf;omega⟩;have q:=h x;unfold wpQuiet at q;have next:∀ v',wpSf P l.toArray C Q n0 (picks l r) F H L ((fill F x a).put o.dst v') w→wpAnyH P .any l.toArray Q C fuel ((marks listed (doneOf F m)).setIfInBounds i true) ((fill F x a).put o.dst v') w':=fun v' hnx=>by
        have k:=ih r F H L (listed.setIfInBounds i true) fuel ((fill F x a).put o.dst v') w m x w' (by simp at hn;omega) hg2 hF hs hi ⟨fun f hff hmf=>?_,hI.new,hI.apart,hI.past,hI.met⟩ hb hc (by simp only [cnt] at hf;omega) hnx
        ·rw [fill_put x o.dst v' F a hds',fill_idem,← marks_set] at k
         rw [fill_put x o.dst v' F a hds'];exact k
        ·rw [getD_put _ o.dst v' f.slot (hds' f hff),getD_fill x f.slot F a fun g hg e=>by rw [← e];obtain rfl:=nodup_same hs f hff g hg e;exact hI.old g hg hmf]
         exact hI.old f hff hmf
       by_cases hw:Region.wanted o (yielded l.toArray (fill F x a).tmps)=true
       ·rw [if_pos hw] at q
        obtain ⟨v',hv',e⟩:=q;refine wpAnyH_take (v:=v') hop hsel hm'.1 hm'.2 (fun c a w=>hQ c _ _ a w) (.inl ⟨hw,fun w2 hw2=>?_⟩) hc (next v' e);have q2:=hv' w2 hw2;unfold Oper.quietAt at q2
        cases e2:(execOp (fill F x a).eval o).run P w2 with
        | halt y w1=>rw [e2] at q2;cases q2
        | ok nx w1 =>
          obtain ⟨u,rfl⟩:=light_value hl e2;rw [e2] at q2;obtain ⟨e3,e4⟩:=q2;rw [e3,e4]
       ·rw [if_neg hw] at q
        exact wpAnyH_take (v:=undef) hop hsel hm'.1 hm'.2 (fun c a w=>hQ c _ _ a w) (.inr ⟨by simpa using hw,rfl⟩) hc (next undef q)
   | (1,i) :: r,hg,h,hn,hf =>
     have hg0:=hg;have h0:=h;have hg':(_ && good l.toArray r F (listed.setIfInBounds i true))=true:=hg;rw [Bool.and_eq_true] at hg';obtain ⟨hg1,hg2⟩:=hg'
     cases ho:l[i]? with
     | none=>simp [ho] at hg1
     | some o =>
       have hop:l.toArray[i]? = some o:=by simp [ho]
       rw [hop] at hg1;simp only [Bool.and_eq_true,List.all_eq_true] at hg1;obtain ⟨hds,hm⟩:=hg1;have hds':∀ f∈F,o.dst≠some f.slot:=fun f hf=>by simpa using hds f hf
       have hm':=allMasks_spec F _ hm m;simp only [Bool.and_eq_true,List.all_eq_true] at hm';rw [picks,ho] at h;obtain ⟨hw,hwp⟩:=h x w' hb hc;obtain ⟨fuel,rfl⟩:∃ k,fuel=k+1:=⟨fuel - 1,by simp only [cnt] at hf;omega⟩;refine wpAnyH_all rfl (fun e=>by rw [e] at hm';simp at hm') fun j hj=>?_;have hj':=hm'.2 j hj;rw [Bool.or_eq_true] at hj'
       rcases hj' with e | hfl
       ·obtain rfl:j=i:=by simpa using e
        unfold wpOp;simp only [hop,hw,if_true];refine .inl (Oper.wp_mono (fun a'' w'' hh=>?_) (wp_put hwp));obtain ⟨⟨ds,v,rfl⟩,c2,hsz,hbel,hT⟩:=hh;refine ⟨c2,?_⟩;have k:=ih r F _ L (listed.setIfInBounds j true) fuel ((withD (fill F x a) ds).put o.dst v) w'' m x w'' (by simp at hn;omega) hg2 hF hs hi ⟨fun f hff hmf=>?_,fun f hff hmf=>?_,hI.apart,fun p hp=>?_,fun g hg=>Nat.lt_of_lt_of_le (hI.met g hg) hsz⟩ (Below.refl _ _) c2 (by simp only [cnt] at hf;omega) hT
        ·rw [fill_D,fill_put x o.dst v F _ hds',fill_idem,← marks_set] at k
         rw [fill_D,fill_put x o.dst v F _ hds'];exact k
        ·rw [fill_D,getD_put _ o.dst v f.slot (hds' f hff),getD_fill x f.slot F _ fun g hg e=>by rw [← e];obtain rfl:=nodup_same hs f hff g hg e;exact hI.old g hg hmf]
         exact hI.old f hff hmf
        ·obtain ⟨g,g1,g2,g3,g4,g5⟩:=hI.new f hff hmf
         refine ⟨g,g1,((hbel (List.ne_nil_of_mem hff)).block g (lt_of_block g2)).trans g2,g3,fun p hp=>?_,g5⟩
         rcases List.mem_cons.1 hp with rfl | hp
         ·exact .inl (lt_of_block g2)
         ·exact g4 p hp
        ·rcases List.mem_cons.1 hp with rfl | hp
         ·exact Nat.le_refl _
         ·exact Nat.le_trans (hI.past p hp) hsz
       ·obtain ⟨f,hff,he⟩:=List.any_eq_true.1 hfl
        rw [Bool.and_eq_true] at he;obtain rfl:f.idx=j:=by simpa using he.1
        have hmf:m f.idx=false:=by
         have hd:f.idx ∉ doneOf F m:=by simpa using he.2
         rw [mem_done] at hd
         cases hmm:m f.idx with
         | false=>rfl
         | true=>exact absurd ⟨hmm,f,hff,rfl⟩ hd
        exact float ih hC hA hn hg0 hF hs hi hI hb hc hf h0 f hff hmf
   | (k+2,i) :: r,hg,h,hn,hf =>
     have hg0:=hg;have h0:=h
     match F,hg,h,hF,hs,hi,hI,hf,hg0,h0 with
     | [],hg,h,_,_,_,_,_,_,_=>simp [good] at hg
     | f :: F,hg,h,hF,hs,hi,hI,hf,hg0,h0 =>
       have hg':((l.toArray[i]?).isSome && allMasks (f :: F) _ && good l.toArray r F (listed.setIfInBounds f.idx true))=true:=hg;rw [Bool.and_eq_true,Bool.and_eq_true] at hg';obtain ⟨⟨hio,hm⟩,hg2⟩:=hg';have hm':=allMasks_spec (f :: F) _ hm m
       cases hmm:m f.idx with
       | true =>
         obtain ⟨g,g1,g2,g3,g4,g5⟩:=hI.new f (List.mem_cons_self ..) hmm;have hp:∀ {o:Oper},wpSf P l.toArray C Q n0 ((k+2,o) :: picks l r) (f :: F) H L a w→wpSf P l.toArray C Q n0 (picks l r) F H (g :: L) (a.put (some f.slot) (.pointer (some ⟨g,0,none⟩))) w':=fun h=>h g w' hb hc g2 g3 g4 g5;have hT:wpSf P l.toArray C Q n0 (picks l r) F H (g :: L) (a.put (some f.slot) (.pointer (some ⟨g,0,none⟩))) w':=by
          cases ho:l[i]? with
          | none=>simp [ho] at hio
          | some o =>
            rw [picks,ho] at h;exact hp h
         have hd:doneOf (f :: F) m=f.idx :: doneOf F m:=by unfold doneOf;rw [List.filter_cons,if_pos hmm];rfl
         rw [hd]
         show wpAnyH P .any l.toArray Q C fuel (marks (listed.setIfInBounds f.idx true) (doneOf F m)) (fill F x (a.put (some f.slot) (x f.slot))) w'
         rw [g1];rw [List.map_cons,List.nodup_cons] at hs;have hne:∀ f'∈F,f.slot≠f'.slot:=fun f' h' e=>hs.1 (List.mem_map.2 ⟨f',h',e.symm⟩);refine ih r F H (g :: L) _ fuel _ w' m x w' (by simp at hn;omega) hg2 (fun f' h'=>hF f' (List.mem_cons_of_mem _ h')) hs.2 (fun a ha b hb=>hi a (List.mem_cons_of_mem _ ha) b (List.mem_cons_of_mem _ hb)) ⟨fun f' h' hmf=>?_,fun f' h' hmf=>?_,fun f' h' f'' h''=>hI.apart f' (List.mem_cons_of_mem _ h') f'' (List.mem_cons_of_mem _ h''),hI.past,fun b hb=>?_⟩ (Below.refl _ _) hc ?_ hT
         ·rw [getD_put a _ _ f'.slot (fun e=>hne f' h' (Option.some.inj e))]
          exact hI.old f' (List.mem_cons_of_mem _ h') hmf
         ·obtain ⟨b,b1,b2,b3,b4,b5⟩:=hI.new f' (List.mem_cons_of_mem _ h') hmf
          refine ⟨b,b1,b2,b3,b4,fun hl=>?_⟩
          rcases List.mem_cons.1 hl with e | hl
          ·exact hI.apart f' (List.mem_cons_of_mem _ h') f (List.mem_cons_self ..) (fun e=>hne f' h' e.symm) hmf hmm (by rw [b1,g1,e])
          ·exact b5 hl
         ·rcases List.mem_cons.1 hb with rfl | hb
          ·exact lt_of_block g2
          ·exact hI.met b hb
         ·simp only [cnt,left,hmm] at hf
          simpa using hf
       | false =>
         have hd:(doneOf (f :: F) m).contains f.idx=false:=by
          have:f.idx ∉ doneOf (f :: F) m:=fun h=>by rw [mem_done,hmm] at h;simp at h
          simpa using this
         rw [hd,Bool.false_or] at hm';simp only [Bool.and_eq_true,List.all_eq_true] at hm';have lf:=left_on (f :: F) m f (List.mem_cons_self ..) hmm;obtain ⟨fuel,rfl⟩:∃ k,fuel=k+1:=⟨fuel - 1,by omega⟩;refine wpAnyH_all rfl (fun e=>by rw [e] at hm';simp at hm') fun j hj=>?_;obtain ⟨f',hff,he⟩:=List.any_eq_true.1 (hm'.2 j hj);rw [Bool.and_eq_true] at he;obtain rfl:f'.idx=j:=by simpa using he.1
         have hmf:m f'.idx=false:=by
          have hd:f'.idx ∉ doneOf (f :: F) m:=by simpa using he.2
          rw [mem_done] at hd
          cases hmm:m f'.idx with
          | false=>rfl
          | true=>exact absurd ⟨hmm,f',hff,rfl⟩ hd
         exact float ih hC hA hn hg0 hF hs hi hI hb hc hf h0 f' hff hmf
theorem fill_self (a:Act):∀ F:List Fl,fill F (fun s=>a.tmps.getD s undef) a=a
 | []=>rfl
 | f :: r=>by
   have e:a.put (some f.slot) (a.tmps.getD f.slot undef)=a:=by
    simp only [Act.put];have:a.tmps.setIfInBounds f.slot (a.tmps.getD f.slot undef)=a.tmps:=by
     refine Array.ext_getElem? fun k=>?_;rw [Array.getElem?_setIfInBounds]
     by_cases hk:f.slot=k
     ·subst hk
      by_cases hl:f.slot < a.tmps.size
      ·simp [hl]
      ·simp [hl]
     ·simp [hk]
    rw [this]
   show fill r (fun s=>a.tmps.getD s undef) (a.put (some f.slot) (a.tmps.getD f.slot undef))=a
   rw [e];exact fill_self a r
theorem left_all:∀ F:List Fl,left F (fun _=>false)=F.length
 | []=>rfl
 | f :: r=>by show left r _+1=r.length+1;rw [left_all r]
theorem start {id:Nat} {l:List Oper} {Q:Exit→Act→World→Prop} {a:Act} {w:World} (sc:List (Nat×Nat)) (F:List Fl) (hm:P.follows .mixedOrders=true) (hs:Region.noSelect l.toArray=true)
 (hg:good l.toArray sc F (Array.replicate l.toArray.size false)=true) (hc:cnt sc+F.length≤l.toArray.size) (hn:(F.map (·.slot)).Nodup) (hi:∀ f∈F,∀ f'∈F,f.idx=f'.idx→f.slot=f'.slot) (hF:∀ f∈F,FlOk P l f)
 (h:wpSf P l.toArray (fun w'=>∃ p:By w,w'=p.world) (NoPanic Q) w.heap.size (picks l sc) F [] [] a w.drew):(Code.region id l.toArray true).wp P Q a w :=
 wp_region_noPanic (wp_region_held_drew (S:=Cl w) hm (Cl.of (Below.refl _ _).drew) fun _=>by
  have hd:doneOf F (fun _=>false) = []:=by unfold doneOf;simp
  have k:=holds (P:=P) (l:=l) (C:=Cl w) (Q:=NoPanic Q) (n0:=w.heap.size) hs (fun _ _ _ _ _ h=>h) (fun w' h=>h.bel.size) (fun w' o h=>Cl.of (h.bel.alloc h.bel.size o)) (2 * l.toArray.size+sc.length) sc F [] [] (Array.replicate l.toArray.size false) l.toArray.size a w.drew (fun _=>false) (fun s=>a.tmps.getD s undef) w.drew
   (Nat.le_refl _) hg hF hn hi ⟨fun _ _ _=>rfl,fun _ _ h=>(by cases h),fun _ _ _ _ _ h=>(by cases h),fun _ hp=>(by cases hp),fun _ hg=>(by cases hg)⟩ (Below.refl _ _) (Cl.of (Below.refl _ _).drew) (by rw [left_all];exact hc) h
  rw [hd,fill_self] at k
  exact k)
section
variable {ops:Array Oper} {a:Act} {w:World} {o:Oper} {r:List (Nat×Oper)} {F:List Fl} {H:List (Nat×Nat)} {L:List Nat}
theorem lit (h:∀ x,wpQuiet P ops C (fun a'=>wpSf P ops C Q n0 r F H L a' w) [o] (fill F x a)):wpSf P ops C Q n0 ((0,o) :: r) F H L a w:=h
theorem call (h:∀ x w',Below w.heap.size w w'→C w'→Region.wanted o (yielded ops (fill F x a).tmps)=true ∧
 ∀ K:Act→World→Prop,(∀ a'' w'',C w''→w'.heap.size≤w''.heap.size→(F≠[]→Below w'.heap.size w' w'')→wpSf P ops C Q n0 r F ((w'.heap.size,w''.heap.size) :: H) L a'' w''→K a'' w'')→o.wp P (fill F x a) w' K Q) :
 wpSf P ops C Q n0 ((1,o) :: r) F H L a w:=fun x w' hb hc=>⟨(h x w' hb hc).1,(h x w' hb hc).2 _ fun _ _ c s b k=>⟨c,s,b,k⟩⟩
theorem meet {f:Fl} (h:∀ g w',Below w.heap.size w w'→C w'→w'.heap[g]? = some (.cells f.cs f.ty (0,0))→n0≤g→(∀ p∈H,g < p.1∨p.2≤g)→g ∉ L→wpSf P ops C Q n0 r F H (g :: L) (a.put (some f.slot) (.pointer (some ⟨g,0,none⟩))) w') :
 wpSf P ops C Q n0 ((2,o) :: r) (f :: F) H L a w:=h
theorem done {Q:Exit→Act→World→Prop} (h:∀ w',Below w.heap.size w w'→C w'→Q .normal a w'):wpSf P ops C (NoPanic Q) n0 [] F H L a w:=h
end
end
end Go.Proofs.YtljnkaodhfnbbaaGreatDoor.Sf
namespace Go.Proofs.YtljnkaodhfnbbaaGreatDoor.Fl
open Go.RowKit
open Rw (Rd Ow At)
attribute [local irreducible] Sd.wpSd wpQuiet Sf.wpSf
theorem rat_set (l:List R4) (k:Nat) (hk:k < l.length) (y:R4):rat (l.set k y) k=y:=by simp [rat,List.getD,hk]
theorem set_rat (l:List R4) (k:Nat) (hk:k < l.length):l.set k (rat l k)=l:=by
 have:rat l k=l[k]:=by simp [rat,List.getD,List.getElem?_eq_getElem hk]
 rw [this,List.set_getElem_self]
theorem own4 {w:World} {B:Nat} {l:List R4} {g n cap:Nat} (h:Ow K4 w B 42 (.slice (some ⟨g,0,none⟩) n cap) l) (k:Nat) (hk:k < l.length) :
 (w.cell? ⟨g,k * 4,none⟩=some (.int .u8 (rat l k).1)∧w.cell? ⟨g,k * 4+1,none⟩=some (.int .u8 (rat l k).2.1)∧w.cell? ⟨g,k * 4+2,none⟩=some (.int .u8 (rat l k).2.2.1)∧w.cell? ⟨g,k * 4+3,none⟩=some (.int .u8 (rat l k).2.2.2))∧(∀ j,w.frozen? ⟨g,j,none⟩=false)∧B≤g∧g < w.heap.size:=by
 obtain ⟨g',cap',eg,h1,h2,_,_,hf,hA⟩:=h.form (by omega);have e:g=g':=by
  injection eg with e1;injection e1 with e1;injection e1 with e1 _ _
 subst e;have c:=at4 hA k hk;simp only [Nat.zero_add] at c;exact ⟨c,hf,h1,h2⟩
theorem own_form {w:World} {B:Nat} {l:List R4} {u:Value} (h:Ow K4 w B 42 u l) (hl:0 < l.length):∃ g cap,u = .slice (some ⟨g,0,none⟩) l.length cap:=by
 obtain ⟨g,cap,e,_⟩:=h.form hl;exact ⟨g,cap,e⟩
structure Have (w:World) (p:Int) (v:Value) (x:R4) (gF:Nat) (u:Value) (m:List R4) (W:World):Prop where
 st:Start w p v x W
 row:W.heap[gF]? = some (.cells #[.int .i64 p,u] 70 (0,0))
 own:Ow K4 W (w.heap.size+4) 42 u m
 ge:w.heap.size+4≤gF
 ne:u.ownBlock≠some gF
theorem Have.mono {w W W':World} {p:Int} {v u:Value} {x:R4} {gF:Nat} {m:List R4} (h:Have w p v x gF u m W) (b:Below W.heap.size W W'):Have w p v x gF u m W' :=
 ⟨h.st.mono b,(b.block _ (lt_of_block h.row)).trans h.row,h.own.keep b,h.ge,h.ne⟩
theorem Have.put {w W:World} {p:Int} {v:Value} {x:R4} {gF gu n cu:Nat} {m:List R4} (h:Have w p v x gF (.slice (some ⟨gu,0,none⟩) n cu) m W) (hn:n=m.length) (k:Nat) (hk:k < m.length) (y:R4) :
 Have w p v x gF (.slice (some ⟨gu,0,none⟩) n cu) (m.set k y) (sto4 W gu (k * 4) y):=by
 have hge:=(own4 h.own k hk).2.2.1;have hne:gF≠gu:=fun e=>h.ne (by rw [e];rfl);exact ⟨⟨sto4_other h.st.box (by omega),sto4_other h.st.arg (by omega),sto4_other h.st.res1 (by omega),sto4_other h.st.res2 (by omega),by rw [sto4_size];exact h.st.siz,sto4_below h.st.bel (by omega)⟩,sto4_other h.row hne,sto4_own h.own hn k hk y,h.ge,h.ne⟩
def Last (w:World) (p:Int) (gF:Nat) (u:Value) (m:List R4) (W:World):Prop:=W.heap[gF]? = some (.cells #[.int .i64 p,u] 70 (0,0))∧Ow K4 W (w.heap.size+4) 42 u m
set_option maxHeartbeats 1000000 in
theorem do_no (w:World) (p:Int) (a:Option Addr) (n cap:Nat) (l:List R4) (R:Rd K4 w (.slice a n cap) l) (op rec:Int) (x:R4) (he:¬ doE p l op rec=0):Calls Tryz.prog 178 #[file p (.slice a n cap),.int .i64 op,.int .i64 rec,rec4 x] w (DoPost w p l op rec x):=by
 have S0:Hid (Start w p (.slice a n cap) x ((((w.alloc (.cells #[.int .i64 p,.slice a n cap] 70)).alloc (.cells #[.int .u8 x.1,.int .u8 x.2.1,.int .u8 x.2.2.1,.int .u8 x.2.2.2] 42)).alloc (.cells #[.int .i64 0,.slice none 0 0] 70)).alloc (.cells #[.int .u8 0,.int .u8 0,.int .u8 0,.int .u8 0] 42))):=Lib.hid (Start.of w p _ x);have WR:=Lib.hid (wrong_any _ p _ l (R.below S0.out.bel) op rec);have E:Hid (∀ w',Below w.heap.size w w'→DoPost w p l op rec x (.returned (.tuple #[file 0 (.slice none 0 0),rec4 z4,.int .i64 (doE p l op rec)])) w'):=fun w' h=>⟨.slice none 0 0,by rw [if_neg he,if_neg he],by rw [if_neg he];exact Ow.nil _ _ _,h⟩;have hd:(doE p l op rec != 0)=true:=by simpa using he
 clear R he;generalize doE p l op rec=d at *;unfold file rec4 at *
 go_enter Tryz.func178,Tryz.ntmps178
 go_wp2_with fail;generalize (((w.alloc (.cells #[.int .i64 p,.slice a n cap] 70)).alloc (.cells #[.int .u8 x.1,.int .u8 x.2.1,.int .u8 x.2.2.1,.int .u8 x.2.2.2] 42)).alloc (.cells #[.int .i64 0,.slice none 0 0] 70)).alloc (.cells #[.int .u8 0,.int .u8 0,.int .u8 0,.int .u8 0] 42)=W at *;refine WR.out.mono ?_;rintro e w1 ⟨rfl,b1⟩;have S1:=Lib.hid (S0.out.mono b1);clear b1 S0 WR;have c0:w1.cell? ⟨w.heap.size+2,0,none⟩=some (.int .i64 0):=row_cell S1.out.res1 0;have c1:w1.cell? ⟨w.heap.size+2,1,none⟩=some (.slice none 0 0):=row_cell S1.out.res1 1;have d0:w1.cell? ⟨w.heap.size+3,0,none⟩=some (.int .u8 0):=row_cell S1.out.res2 0;have d1:w1.cell? ⟨w.heap.size+3,1,none⟩=some (.int .u8 0):=row_cell S1.out.res2 1;have d2:w1.cell? ⟨w.heap.size+3,2,none⟩=some (.int .u8 0):=row_cell S1.out.res2 2;have d3:w1.cell? ⟨w.heap.size+3,3,none⟩=some (.int .u8 0):=row_cell S1.out.res2 3;have f0:=row_frozen S1.out.res1 0;have f1:=row_frozen S1.out.res1 1;have k0:=row_frozen S1.out.res2 0;have k1:=row_frozen S1.out.res2 1;have k2:=row_frozen S1.out.res2 2;have k3:=row_frozen S1.out.res2 3;have R1:=Lib.hid (sto4_other (g:=w.heap.size+3) (o:=0) (r:=z4) (sto2_row S1.out.res1 0 (.slice none 0 0)) (by omega));have R2:=Lib.hid (sto4_row (sto2_other (g:=w.heap.size+2) (p:=0) (v:=.slice none 0 0) S1.out.res2 (by omega)) z4);have B2:=Lib.hid (sto4_below (o:=0) (r:=z4) (sto2_below (p:=0) (v:=.slice none 0 0) S1.out.bel (show w.heap.size≤w.heap.size+2 by omega)) (show w.heap.size≤w.heap.size+3 by omega));clear S1;go_wp2
 (try simp only [Exit.inBlock,Exit.then])
 exact bodyPost_ret (results_do (p:=8) (q:=9) (r:=10) rfl _ _ (w.heap.size+2) (w.heap.size+3) 0 (.slice none 0 0) z4 d rfl rfl rfl R1.out R2.out) rfl (E.out _ B2.out)
structure Read (w:World) (p:Int) (v:Value) (gF:Nat) (u:Value) (W:World):Prop where
 box:W.heap[w.heap.size]? = some (.cells #[.int .i64 p,v] 70 (0,0))
 row:W.heap[gF]? = some (.cells #[.int .i64 p,u] 70 (0,0))
 bel:Below w.heap.size w W
theorem doE_of {p op rec:Int} {l:List R4} (h:doE p l op rec=0):goodF p l∧(0≤op∧op≤2)∧0≤rec∧rec < l.length:=by
 by_cases h1:goodF p l
 ·by_cases h2:0≤op∧op≤2
  ·by_cases h3:0≤rec∧rec < l.length
   ·exact ⟨h1,h2,h3⟩
   ·rw [doE_4 h1 h2 h3] at h;omega
  ·rw [doE_1 h1 h2] at h;omega
 ·rw [doE_2 h1] at h;omega
set_option maxHeartbeats 4000000 in
theorem do_yes (w:World) (p:Int) (a:Option Addr) (n cap:Nat) (l:List R4) (R:Rd K4 w (.slice a n cap) l) (hl:okL l) (op:Int) (k:Nat) (x:R4) (he:doE p l op k=0) (ho:0≤op∧op≤2) (hk:k < l.length) (h256:l.length≤256):Calls Tryz.prog 178 #[file p (.slice a n cap),.int .i64 op,.int .i64 (k:Int),rec4 x] w (DoPost w p l op k x):=by
 obtain ⟨b,off,rfl,hA⟩:∃ b off,a=some ⟨b,off,none⟩∧At K4 w b off l:=by
  obtain ⟨a',cap',e,_,_,h4⟩:=R;injection e with e1 e2 e3;subst e1;exact h4 (by omega)
 have hn:n=l.length:=by
  obtain ⟨a',cap',e,_⟩:=R;injection e
 have S0:Hid (Start w p (.slice (some ⟨b,off,none⟩) n cap) x ((((w.alloc (.cells #[.int .i64 p,.slice (some ⟨b,off,none⟩) n cap] 70)).alloc (.cells #[.int .u8 x.1,.int .u8 x.2.1,.int .u8 x.2.2.1,.int .u8 x.2.2.2] 42)).alloc (.cells #[.int .i64 0,.slice none 0 0] 70)).alloc (.cells #[.int .u8 0,.int .u8 0,.int .u8 0,.int .u8 0] 42))):=Lib.hid (Start.of w p _ x);have WR:=Lib.hid (at_int he (wrong_any _ p _ l (R.below S0.out.bel) op k));have E:Hid (∀ y u w',y=newR l op k x→Ow K4 w' w.heap.size 42 u (l.set k y)→Below w.heap.size w w'→DoPost w p l op k x (.returned (.tuple #[file p u,rec4 y,.int .i64 0])) w'):=fun y u w' hy h hb=>⟨u,by rw [if_pos he,if_pos he,he,hy],by rw [if_pos he,← hy,Int.toNat_natCast];exact h,hb⟩;have HLL:=Lib.hid (And.intro hk (And.intro hn h256));have RR:=Lib.hid R;have HA:=Lib.hid hA;have OK:=Lib.hid hl;have hkn:k < n:=by omega
 have hn0:n < 2147483648:=by omega
 clear he R hA hl hn h256 hk;unfold file rec4 at *
 go_enter Tryz.func178,Tryz.ntmps178
 go_wp2_with fail;generalize (((w.alloc (.cells #[.int .i64 p,.slice (some ⟨b,off,none⟩) n cap] 70)).alloc (.cells #[.int .u8 x.1,.int .u8 x.2.1,.int .u8 x.2.2.1,.int .u8 x.2.2.2] 42)).alloc (.cells #[.int .i64 0,.slice none 0 0] 70)).alloc (.cells #[.int .u8 0,.int .u8 0,.int .u8 0,.int .u8 0] 42)=W at *;refine WR.out.mono ?_;rintro e w1 ⟨rfl,b1⟩;have S1:=Lib.hid (S0.out.mono b1);clear b1 S0 WR;go_wp2_with fail;have s0:=Sd.cell_by (show w1.cell? ⟨w.heap.size,0,none⟩=some (.int .i64 p) from row_cell S1.out.box 0);have s1:=Sd.cell_by (show w1.cell? ⟨w.heap.size,1,none⟩=some (.slice (some ⟨b,off,none⟩) n cap) from row_cell S1.out.box 1);refine Sf.start [(0,0),(0,1),(0,2),(0,3),(1,4),(0,5),(2,6),(1,7)] [⟨6,12,#[.int .i64 0,.slice none 0 0],70⟩] (by kernel_rfl) (by kernel_rfl) (by kernel_rfl) (by decide) (by decide) ?_ ?_ ?_
 ·simp
 ·intro f hf
  simp only [List.mem_cons,List.not_mem_nil,or_false] at hf;subst hf;exact ⟨_,rfl,rfl,rfl,fun ρ w=>by go_simp⟩
 dsimp only [Sf.picks,List.getElem?_cons_succ,List.getElem?_cons_zero];have BW:=Lib.hid ((Below.refl w1.heap.size w1).drew)
 repeat (refine Sf.lit (fun xs=>?_);simp only [Sf.fill,List.foldl_cons,List.foldl_nil];quiet_step (fail);refine wpQuiet_nil ?_)
 refine Sf.call (fun xs w3 hb hc=>⟨by rfl,fun K hK=>?_⟩);have B3:=Lib.hid (BW.out.trans (hb.mono BW.out.size));clear hb hc BW;simp only [Sf.fill,List.foldl_cons,List.foldl_nil];go_simp;have R3:=RR.out.below (S1.out.bel.trans (B3.out.mono (by have:=S1.out.siz;omega)));refine (clone_any _ _ l R3 (by have:=HLL.out.2.2;omega)).mono ?_;rintro e4 w4 ⟨u,rfl,o4,b4⟩;obtain ⟨gu,cu,rfl⟩:=own_form o4 (by have:=HLL.out.1;omega);rw [← HLL.out.2.1] at o4 ⊢;have B4:=Lib.hid (B3.out.trans (b4.mono B3.out.size));have O4:=Lib.hid o4;refine hK _ _ (Sd.Cl.of B4.out) b4.size (fun _=>b4) ?_;clear hK K b4 o4 R3
 repeat (refine Sf.lit (fun xs=>?_);simp only [Sf.fill,List.foldl_cons,List.foldl_nil];quiet_step (fail);refine wpQuiet_nil ?_)
 refine Sf.meet (fun gF w7 hb hc row n7 hH hL=>?_);have B7:=Lib.hid (B4.out.trans (hb.mono B4.out.size));have N7:=Lib.hid (O4.out.range (hH _ (List.mem_cons_self ..)));have O7:=Lib.hid (O4.out.keep hb);have R7:Hid (w7.heap[gF]? = some (.cells #[.int .i64 0,.slice none 0 0] 70 (0,0))):=row;clear hb hc row hH hL B4 O4;refine Sf.call (fun xs w9 hb hc=>⟨by rfl,fun K hK=>?_⟩);have B9:=Lib.hid (B7.out.trans (hb.mono B7.out.size));have O9:=Lib.hid (O7.out.keep hb);have R9:=(hb.block _ (lt_of_block R7.out)).trans R7.out;have c0:w9.cell? ⟨gF,0,none⟩=some (.int .i64 0):=row_cell R9 0;have c1:w9.cell? ⟨gF,1,none⟩=some (.slice none 0 0):=row_cell R9 1;have f0:=row_frozen R9 0;have f1:=row_frozen R9 1;have RA:=sto2_row R9 p (.slice (some ⟨gu,0,none⟩) n cu);have BA:=sto2_below (p:=p) (v:=.slice (some ⟨gu,0,none⟩) n cu) B9.out n7;have OA:=sto2_off (u:=.slice (some ⟨gu,0,none⟩) n cu) O9.out N7.out p;have hs1:=S1.out.siz;have hs3:=B3.out.size;have HB:Hid (Have w p (.slice (some ⟨b,off,none⟩) n cap) x gF (.slice (some ⟨gu,0,none⟩) n cu) l (sto2 w9 gF p (.slice (some ⟨gu,0,none⟩) n cu))):=⟨S1.out.mono BA,RA,OA.low (by omega),by omega,N7.out⟩;have hsz:=sto2_size w9 gF p (.slice (some ⟨gu,0,none⟩) n cu);clear hb hc B7 O7 R7 R9 RA OA B9 O9 N7;simp only [Sf.fill,List.foldl_nil];go_simp;refine hK _ _ (Sd.Cl.of BA) (by rw [← hsz];exact Nat.le_refl _) (fun h=>absurd rfl h) ?_;clear hK K c0 c1 f0 f1
 show Sf.wpSf _ _ _ _ _ _ _ _ _ _ (sto2 w9 gF p (.slice (some ⟨gu,0,none⟩) n cu))
 clear BA hsz;generalize sto2 w9 gF p (.slice (some ⟨gu,0,none⟩) n cu)=wA at *;refine Sf.done (fun wB hb hc=>?_);have HV:=Lib.hid (HB.out.mono hb);clear hb hc HB S1 B3 s0 s1 n7 hs1 hs3
 rcases (by omega:op=0∨op=1∨op=2) with rfl | rfl | rfl
 ·obtain ⟨y,hy⟩:∃ y,rat l k=y:=⟨_,rfl⟩
  have EY:Hid (∀ u w',Ow K4 w' w.heap.size 42 u (l.set k y)→Below w.heap.size w w'→DoPost w p l 0 k x (.returned (.tuple #[file p u,rec4 y,.int .i64 0])) w'):=fun u w'=>E.out y u w' (by rw [← hy];unfold newR;rw [if_neg (by decide),if_neg (by decide),Int.toNat_natCast]);rw [← set_rat l k HLL.out.1,hy] at HV;clear E hy;go_wp2_with fail;generalize wB=Wz at *;obtain ⟨⟨c0,c1,c2,c3⟩,_,_,_⟩:=own4 HV.out.own k (by rw [List.length_set];exact HLL.out.1);rw [rat_set l k HLL.out.1] at c0 c1 c2 c3;have C0:Last w p gF (.slice (some ⟨gu,0,none⟩) n cu) (l.set k y) Wz.drew:=⟨HV.out.row,HV.out.own⟩;have r0:=Sc.cell_in (C:=Last w p gF (.slice (some ⟨gu,0,none⟩) n cu) (l.set k y)) (a:=⟨gF,0,none⟩) (fun W' h=>row_cell h.1 0);have r1:=Sc.cell_in (C:=Last w p gF (.slice (some ⟨gu,0,none⟩) n cu) (l.set k y)) (a:=⟨gF,1,none⟩) (fun W' h=>row_cell h.1 1);have HQ:Hid (∀ W',Last w p gF (.slice (some ⟨gu,0,none⟩) n cu) (l.set k y) W'→(W'.cell? ⟨gu,k * 4,none⟩=some (.int .u8 y.1)∧W'.cell? ⟨gu,k * 4+1,none⟩=some (.int .u8 y.2.1)∧W'.cell? ⟨gu,k * 4+2,none⟩=some (.int .u8 y.2.2.1)∧W'.cell? ⟨gu,k * 4+3,none⟩=some (.int .u8 y.2.2.2))):=fun W' h=>by
   have:=(own4 h.2 k (by rw [List.length_set];exact HLL.out.1)).1;rw [rat_set l k HLL.out.1] at this;exact this
  have q0:=Sc.cell_in (C:=Last w p gF (.slice (some ⟨gu,0,none⟩) n cu) (l.set k y)) (fun W' h=>(HQ.out W' h).1);have q1:=Sc.cell_in (C:=Last w p gF (.slice (some ⟨gu,0,none⟩) n cu) (l.set k y)) (fun W' h=>(HQ.out W' h).2.1);have q2:=Sc.cell_in (C:=Last w p gF (.slice (some ⟨gu,0,none⟩) n cu) (l.set k y)) (fun W' h=>(HQ.out W' h).2.2.1);have q3:=Sc.cell_in (C:=Last w p gF (.slice (some ⟨gu,0,none⟩) n cu) (l.set k y)) (fun W' h=>(HQ.out W' h).2.2.2);have ne:Nonempty (Sc.In (Last w p gF (.slice (some ⟨gu,0,none⟩) n cu) (l.set k y))):=⟨⟨_,C0⟩⟩;clear c0 c1 c2 c3 HQ;refine Sc.start (Last w p gF (.slice (some ⟨gu,0,none⟩) n cu) (l.set k y)) [(false,0),(false,1),(false,2),(false,3),(false,4),(false,5),(true,6),(true,7),(false,8)] (by kernel_rfl) (by kernel_rfl) (by kernel_rfl) C0 ?_;dsimp only [Sd.picks,List.getElem?_cons_succ,List.getElem?_cons_zero]
  repeat (refine Sd.lit ?_;quiet_step (fail);refine wpQuiet_nil ?_)
  have HD:Hid (Have w p (.slice (some ⟨b,off,none⟩) n cap) x gF (.slice (some ⟨gu,0,none⟩) n cu) (l.set k y) Wz.drew):=HV.out.mono ((Below.refl _ _).drew);clear HV r0 r1 q0 q1 q2 q3 C0;generalize Wz.drew=Wy at *;refine Sd.call (by rfl) (fun K hK=>?_);have c0:Wy.cell? ⟨w.heap.size+2,0,none⟩=some (.int .i64 0):=row_cell HD.out.st.res1 0;have c1:Wy.cell? ⟨w.heap.size+2,1,none⟩=some (.slice none 0 0):=row_cell HD.out.st.res1 1;have f0:=row_frozen HD.out.st.res1 0;have f1:=row_frozen HD.out.st.res1 1;have hge:=(own4 HD.out.own k (by rw [List.length_set];exact HLL.out.1)).2.2.1;have hF:=HD.out.ge;have n1:(Value.slice (some ⟨gu,0,none⟩) n cu).ownBlock≠some (w.heap.size+2):=fun e=>by simp [Value.ownBlock] at e;omega
  have n2:(Value.slice (some ⟨gu,0,none⟩) n cu).ownBlock≠some (w.heap.size+3):=fun e=>by simp [Value.ownBlock] at e;omega
  have L1:Last w p gF (.slice (some ⟨gu,0,none⟩) n cu) (l.set k y) (sto2 Wy (w.heap.size+2) p (.slice (some ⟨gu,0,none⟩) n cu)):=⟨sto2_other HD.out.row (by omega),sto2_off HD.out.own n1 p⟩;have R1:=Lib.hid (sto2_row HD.out.st.res1 p (.slice (some ⟨gu,0,none⟩) n cu));have R2:=sto2_other (g:=w.heap.size+2) (p:=p) (v:=.slice (some ⟨gu,0,none⟩) n cu) HD.out.st.res2 (by omega);have B1:=Lib.hid (sto2_below (p:=p) (v:=.slice (some ⟨gu,0,none⟩) n cu) HD.out.st.bel (show w.heap.size≤w.heap.size+2 by omega));clear HD;go_simp;refine hK _ _ (Sc.Cl.of L1) ?_;clear hK K c0 c1 f0 f1
  show Sd.wpSd _ _ _ _ _ _ (sto2 Wy (w.heap.size+2) p (.slice (some ⟨gu,0,none⟩) n cu))
  generalize sto2 Wy (w.heap.size+2) p (.slice (some ⟨gu,0,none⟩) n cu)=Wx at *;refine Sd.call (by rfl) (fun K hK=>?_);have d0:Wx.cell? ⟨w.heap.size+3,0,none⟩=some (.int .u8 0):=row_cell R2 0;have d1:Wx.cell? ⟨w.heap.size+3,1,none⟩=some (.int .u8 0):=row_cell R2 1;have d2:Wx.cell? ⟨w.heap.size+3,2,none⟩=some (.int .u8 0):=row_cell R2 2;have d3:Wx.cell? ⟨w.heap.size+3,3,none⟩=some (.int .u8 0):=row_cell R2 3;have k0:=row_frozen R2 0;have k1:=row_frozen R2 1;have k2:=row_frozen R2 2;have k3:=row_frozen R2 3;have L2:Last w p gF (.slice (some ⟨gu,0,none⟩) n cu) (l.set k y) (sto4 Wx (w.heap.size+3) 0 y):=⟨sto4_other L1.1 (by omega),sto4_off L1.2 n2 y⟩;have R3:=Lib.hid (sto4_row R2 y);have R4:=Lib.hid (sto4_other (g:=w.heap.size+3) (o:=0) (r:=y) R1.out (by omega));have B2:=Lib.hid (sto4_below (o:=0) (r:=y) B1.out (show w.heap.size≤w.heap.size+3 by omega));clear R2 R1 B1 L1;go_simp;refine hK _ _ (Sc.Cl.of L2) ?_;clear hK K d0 d1 d2 d3 k0 k1 k2 k3
  show Sd.wpSd _ _ _ _ _ _ (sto4 Wx (w.heap.size+3) 0 y)
  have O2:=Lib.hid L2.2;clear L2;generalize sto4 Wx (w.heap.size+3) 0 y=Ww at *
  repeat (refine Sd.lit ?_;quiet_step (fail);refine wpQuiet_nil ?_)
  refine Sd.done ?_;go_wp2
  (try simp only [Exit.inBlock,Exit.then])
  exact bodyPost_ret (results_do (p:=8) (q:=9) (r:=10) rfl _ _ (w.heap.size+2) (w.heap.size+3) p _ y 0 rfl rfl rfl R4.out R3.out) rfl (EY.out _ _ (O2.out.low (by omega)) B2.out)
 ·have EY:Hid (∀ u w',Ow K4 w' w.heap.size 42 u (l.set k x)→Below w.heap.size w w'→DoPost w p l 1 k x (.returned (.tuple #[file p u,rec4 x,.int .i64 0])) w'):=fun u w'=>E.out x u w' (by unfold newR;rw [if_pos rfl])
  have HP:=Lib.hid (HV.out.put HLL.out.2.1 k HLL.out.1 x);obtain ⟨⟨c0,c1,c2,c3⟩,hfr,_,_⟩:=own4 HV.out.own k HLL.out.1;have f0:=hfr (k * 4);have f1:=hfr (k * 4+1);have f2:=hfr (k * 4+2);have f3:=hfr (k * 4+3);have r1:wB.cell? ⟨gF,1,none⟩=some (.slice (some ⟨gu,0,none⟩) n cu):=row_cell HV.out.row 1;have a0:wB.cell? ⟨w.heap.size+1,0,none⟩=some (.int .u8 x.1):=row_cell HV.out.st.arg 0;have a1:wB.cell? ⟨w.heap.size+1,1,none⟩=some (.int .u8 x.2.1):=row_cell HV.out.st.arg 1;have a2:wB.cell? ⟨w.heap.size+1,2,none⟩=some (.int .u8 x.2.2.1):=row_cell HV.out.st.arg 2;have a3:wB.cell? ⟨w.heap.size+1,3,none⟩=some (.int .u8 x.2.2.2):=row_cell HV.out.st.arg 3;clear E hfr HV;go_wp2_with fail;clear c0 c1 c2 c3 f0 f1 f2 f3 r1 a0 a1 a2 a3
  show Code.wp _ _ _ _ (sto4 wB gu (k * 4) x)
  generalize sto4 wB gu (k * 4) x=Wz at *;have HV:=HP;clear HP;obtain ⟨⟨c0,c1,c2,c3⟩,_,_,_⟩:=own4 HV.out.own k (by rw [List.length_set];exact HLL.out.1);rw [rat_set l k HLL.out.1] at c0 c1 c2 c3;have C0:Last w p gF (.slice (some ⟨gu,0,none⟩) n cu) (l.set k x) Wz.drew:=⟨HV.out.row,HV.out.own⟩;have r0:=Sc.cell_in (C:=Last w p gF (.slice (some ⟨gu,0,none⟩) n cu) (l.set k x)) (a:=⟨gF,0,none⟩) (fun W' h=>row_cell h.1 0);have r1:=Sc.cell_in (C:=Last w p gF (.slice (some ⟨gu,0,none⟩) n cu) (l.set k x)) (a:=⟨gF,1,none⟩) (fun W' h=>row_cell h.1 1);have HQ:Hid (∀ W',Last w p gF (.slice (some ⟨gu,0,none⟩) n cu) (l.set k x) W'→(W'.cell? ⟨gu,k * 4,none⟩=some (.int .u8 x.1)∧W'.cell? ⟨gu,k * 4+1,none⟩=some (.int .u8 x.2.1)∧W'.cell? ⟨gu,k * 4+2,none⟩=some (.int .u8 x.2.2.1)∧W'.cell? ⟨gu,k * 4+3,none⟩=some (.int .u8 x.2.2.2))):=fun W' h=>by
   have:=(own4 h.2 k (by rw [List.length_set];exact HLL.out.1)).1;rw [rat_set l k HLL.out.1] at this;exact this
  have q0:=Sc.cell_in (C:=Last w p gF (.slice (some ⟨gu,0,none⟩) n cu) (l.set k x)) (fun W' h=>(HQ.out W' h).1);have q1:=Sc.cell_in (C:=Last w p gF (.slice (some ⟨gu,0,none⟩) n cu) (l.set k x)) (fun W' h=>(HQ.out W' h).2.1);have q2:=Sc.cell_in (C:=Last w p gF (.slice (some ⟨gu,0,none⟩) n cu) (l.set k x)) (fun W' h=>(HQ.out W' h).2.2.1);have q3:=Sc.cell_in (C:=Last w p gF (.slice (some ⟨gu,0,none⟩) n cu) (l.set k x)) (fun W' h=>(HQ.out W' h).2.2.2);have ne:Nonempty (Sc.In (Last w p gF (.slice (some ⟨gu,0,none⟩) n cu) (l.set k x))):=⟨⟨_,C0⟩⟩;clear c0 c1 c2 c3 HQ;refine Sc.start (Last w p gF (.slice (some ⟨gu,0,none⟩) n cu) (l.set k x)) [(false,0),(false,1),(false,2),(false,3),(false,4),(false,5),(true,6),(true,7),(false,8)] (by kernel_rfl) (by kernel_rfl) (by kernel_rfl) C0 ?_;dsimp only [Sd.picks,List.getElem?_cons_succ,List.getElem?_cons_zero]
  repeat (refine Sd.lit ?_;quiet_step (fail);refine wpQuiet_nil ?_)
  have HD:Hid (Have w p (.slice (some ⟨b,off,none⟩) n cap) x gF (.slice (some ⟨gu,0,none⟩) n cu) (l.set k x) Wz.drew):=HV.out.mono ((Below.refl _ _).drew);clear HV r0 r1 q0 q1 q2 q3 C0;generalize Wz.drew=Wy at *;refine Sd.call (by rfl) (fun K hK=>?_);have c0:Wy.cell? ⟨w.heap.size+2,0,none⟩=some (.int .i64 0):=row_cell HD.out.st.res1 0;have c1:Wy.cell? ⟨w.heap.size+2,1,none⟩=some (.slice none 0 0):=row_cell HD.out.st.res1 1;have f0:=row_frozen HD.out.st.res1 0;have f1:=row_frozen HD.out.st.res1 1;have hge:=(own4 HD.out.own k (by rw [List.length_set];exact HLL.out.1)).2.2.1;have hF:=HD.out.ge;have n1:(Value.slice (some ⟨gu,0,none⟩) n cu).ownBlock≠some (w.heap.size+2):=fun e=>by simp [Value.ownBlock] at e;omega
  have n2:(Value.slice (some ⟨gu,0,none⟩) n cu).ownBlock≠some (w.heap.size+3):=fun e=>by simp [Value.ownBlock] at e;omega
  have L1:Last w p gF (.slice (some ⟨gu,0,none⟩) n cu) (l.set k x) (sto2 Wy (w.heap.size+2) p (.slice (some ⟨gu,0,none⟩) n cu)):=⟨sto2_other HD.out.row (by omega),sto2_off HD.out.own n1 p⟩;have R1:=Lib.hid (sto2_row HD.out.st.res1 p (.slice (some ⟨gu,0,none⟩) n cu));have R2:=sto2_other (g:=w.heap.size+2) (p:=p) (v:=.slice (some ⟨gu,0,none⟩) n cu) HD.out.st.res2 (by omega);have B1:=Lib.hid (sto2_below (p:=p) (v:=.slice (some ⟨gu,0,none⟩) n cu) HD.out.st.bel (show w.heap.size≤w.heap.size+2 by omega));clear HD;go_simp;refine hK _ _ (Sc.Cl.of L1) ?_;clear hK K c0 c1 f0 f1
  show Sd.wpSd _ _ _ _ _ _ (sto2 Wy (w.heap.size+2) p (.slice (some ⟨gu,0,none⟩) n cu))
  generalize sto2 Wy (w.heap.size+2) p (.slice (some ⟨gu,0,none⟩) n cu)=Wx at *;refine Sd.call (by rfl) (fun K hK=>?_);have d0:Wx.cell? ⟨w.heap.size+3,0,none⟩=some (.int .u8 0):=row_cell R2 0;have d1:Wx.cell? ⟨w.heap.size+3,1,none⟩=some (.int .u8 0):=row_cell R2 1;have d2:Wx.cell? ⟨w.heap.size+3,2,none⟩=some (.int .u8 0):=row_cell R2 2;have d3:Wx.cell? ⟨w.heap.size+3,3,none⟩=some (.int .u8 0):=row_cell R2 3;have k0:=row_frozen R2 0;have k1:=row_frozen R2 1;have k2:=row_frozen R2 2;have k3:=row_frozen R2 3;have L2:Last w p gF (.slice (some ⟨gu,0,none⟩) n cu) (l.set k x) (sto4 Wx (w.heap.size+3) 0 x):=⟨sto4_other L1.1 (by omega),sto4_off L1.2 n2 x⟩;have R3:=Lib.hid (sto4_row R2 x);have R4:=Lib.hid (sto4_other (g:=w.heap.size+3) (o:=0) (r:=x) R1.out (by omega));have B2:=Lib.hid (sto4_below (o:=0) (r:=x) B1.out (show w.heap.size≤w.heap.size+3 by omega));clear R2 R1 B1 L1;go_simp;refine hK _ _ (Sc.Cl.of L2) ?_;clear hK K d0 d1 d2 d3 k0 k1 k2 k3
  show Sd.wpSd _ _ _ _ _ _ (sto4 Wx (w.heap.size+3) 0 x)
  have O2:=Lib.hid L2.2;clear L2;generalize sto4 Wx (w.heap.size+3) 0 x=Ww at *
  repeat (refine Sd.lit ?_;quiet_step (fail);refine wpQuiet_nil ?_)
  refine Sd.done ?_;go_wp2
  (try simp only [Exit.inBlock,Exit.then])
  exact bodyPost_ret (results_do (p:=8) (q:=9) (r:=10) rfl _ _ (w.heap.size+2) (w.heap.size+3) p _ x 0 rfl rfl rfl R4.out R3.out) rfl (EY.out _ _ (O2.out.low (by omega)) B2.out)
 ·have hy:=okR_at OK.out k
  have EY:Hid (∀ u w',Ow K4 w' w.heap.size 42 u (l.set k (inc (rat l k)))→Below w.heap.size w w'→DoPost w p l 2 k x (.returned (.tuple #[file p u,rec4 (inc (rat l k)),.int .i64 0])) w'):=fun u w'=>E.out _ u w' (by unfold newR;rw [if_neg (by decide),if_pos rfl,Int.toNat_natCast]);have INC:=Lib.hid (fun w=>one_any w (rat l k) hy);clear E hy;go_wp2_with fail;have C0:Read w p (.slice (some ⟨b,off,none⟩) n cap) gF (.slice (some ⟨gu,0,none⟩) n cu) wB.drew:=⟨(HV.out.mono (Below.refl wB.heap.size wB).drew).st.box,(HV.out.mono (Below.refl wB.heap.size wB).drew).row,(HV.out.mono (Below.refl wB.heap.size wB).drew).st.bel⟩;have r1:=Sc.cell_in (C:=Read w p (.slice (some ⟨b,off,none⟩) n cap) gF (.slice (some ⟨gu,0,none⟩) n cu)) (a:=⟨gF,1,none⟩) (fun W' h=>row_cell h.row 1);have r2:=Sc.cell_in (C:=Read w p (.slice (some ⟨b,off,none⟩) n cap) gF (.slice (some ⟨gu,0,none⟩) n cu)) (a:=⟨w.heap.size,1,none⟩) (fun W' h=>row_cell h.box 1);have HQ:=Lib.hid (fun (W':World) (h:Read w p (.slice (some ⟨b,off,none⟩) n cap) gF (.slice (some ⟨gu,0,none⟩) n cu) W')=>at4 (HA.out.below h.bel) k HLL.out.1);have q0:=Sc.cell_in (C:=Read w p (.slice (some ⟨b,off,none⟩) n cap) gF (.slice (some ⟨gu,0,none⟩) n cu)) (fun W' h=>(HQ.out W' h).1);have q1:=Sc.cell_in (C:=Read w p (.slice (some ⟨b,off,none⟩) n cap) gF (.slice (some ⟨gu,0,none⟩) n cu)) (fun W' h=>(HQ.out W' h).2.1);have q2:=Sc.cell_in (C:=Read w p (.slice (some ⟨b,off,none⟩) n cap) gF (.slice (some ⟨gu,0,none⟩) n cu)) (fun W' h=>(HQ.out W' h).2.2.1);have q3:=Sc.cell_in (C:=Read w p (.slice (some ⟨b,off,none⟩) n cap) gF (.slice (some ⟨gu,0,none⟩) n cu)) (fun W' h=>(HQ.out W' h).2.2.2);have ne:Nonempty (Sc.In (Read w p (.slice (some ⟨b,off,none⟩) n cap) gF (.slice (some ⟨gu,0,none⟩) n cu))):=⟨⟨_,C0⟩⟩;clear HQ;refine Sc.start (Read w p (.slice (some ⟨b,off,none⟩) n cap) gF (.slice (some ⟨gu,0,none⟩) n cu)) [(false,0),(false,1),(false,2),(false,3),(false,4),(false,5),(false,6),(false,7),(true,8),(false,9),(true,10)] (by kernel_rfl) (by kernel_rfl) (by kernel_rfl) C0 ?_;dsimp only [Sd.picks,List.getElem?_cons_succ,List.getElem?_cons_zero]
  repeat (refine Sd.lit ?_;quiet_step (fail);refine wpQuiet_nil ?_)
  refine Sd.call (by rfl) (fun K hK=>?_);have IC:=INC.out;unfold rec4 at IC;go_simp;refine (IC _).mono ?_;rintro e w3 ⟨rfl,b3⟩;have HB:Hid (Have w p (.slice (some ⟨b,off,none⟩) n cap) x gF (.slice (some ⟨gu,0,none⟩) n cu) l w3):=HV.out.mono (Below.trans ((Below.refl wB.heap.size wB).drew) b3);refine hK _ _ (Sc.Cl.of ⟨HB.out.st.box,HB.out.row,HB.out.st.bel⟩) ?_;clear hK K b3 HV IC INC C0;generalize inc (rat l k)=y at *
  repeat (refine Sd.lit ?_;quiet_step (fail);refine wpQuiet_nil ?_)
  clear r1 r2 q0 q1 q2 q3;refine Sd.call (by rfl) (fun K hK=>?_);have HP:=Lib.hid (HB.out.put HLL.out.2.1 k HLL.out.1 y);obtain ⟨⟨c0,c1,c2,c3⟩,hfr,_,_⟩:=own4 HB.out.own k HLL.out.1;have f0:=hfr (k * 4);have f1:=hfr (k * 4+1);have f2:=hfr (k * 4+2);have f3:=hfr (k * 4+3);clear hfr HB;go_simp;refine hK _ _ (Sc.Cl.of ⟨HP.out.st.box,HP.out.row,HP.out.st.bel⟩) ?_;clear hK K c0 c1 c2 c3 f0 f1 f2 f3 ne
  show Sd.wpSd _ _ _ _ _ _ (sto4 w3 gu (k * 4) y)
  generalize sto4 w3 gu (k * 4) y=Wz at *;have HV:=HP;clear HP;refine Sd.done ?_;go_wp2_with fail;obtain ⟨⟨c0,c1,c2,c3⟩,_,_,_⟩:=own4 HV.out.own k (by rw [List.length_set];exact HLL.out.1);rw [rat_set l k HLL.out.1] at c0 c1 c2 c3;have C0:Last w p gF (.slice (some ⟨gu,0,none⟩) n cu) (l.set k y) Wz.drew:=⟨HV.out.row,HV.out.own⟩;have r0:=Sc.cell_in (C:=Last w p gF (.slice (some ⟨gu,0,none⟩) n cu) (l.set k y)) (a:=⟨gF,0,none⟩) (fun W' h=>row_cell h.1 0);have r1:=Sc.cell_in (C:=Last w p gF (.slice (some ⟨gu,0,none⟩) n cu) (l.set k y)) (a:=⟨gF,1,none⟩) (fun W' h=>row_cell h.1 1);have HQ:Hid (∀ W',Last w p gF (.slice (some ⟨gu,0,none⟩) n cu) (l.set k y) W'→(W'.cell? ⟨gu,k * 4,none⟩=some (.int .u8 y.1)∧W'.cell? ⟨gu,k * 4+1,none⟩=some (.int .u8 y.2.1)∧W'.cell? ⟨gu,k * 4+2,none⟩=some (.int .u8 y.2.2.1)∧W'.cell? ⟨gu,k * 4+3,none⟩=some (.int .u8 y.2.2.2))):=fun W' h=>by
   have:=(own4 h.2 k (by rw [List.length_set];exact HLL.out.1)).1;rw [rat_set l k HLL.out.1] at this;exact this
  have q0:=Sc.cell_in (C:=Last w p gF (.slice (some ⟨gu,0,none⟩) n cu) (l.set k y)) (fun W' h=>(HQ.out W' h).1);have q1:=Sc.cell_in (C:=Last w p gF (.slice (some ⟨gu,0,none⟩) n cu) (l.set k y)) (fun W' h=>(HQ.out W' h).2.1);have q2:=Sc.cell_in (C:=Last w p gF (.slice (some ⟨gu,0,none⟩) n cu) (l.set k y)) (fun W' h=>(HQ.out W' h).2.2.1);have q3:=Sc.cell_in (C:=Last w p gF (.slice (some ⟨gu,0,none⟩) n cu) (l.set k y)) (fun W' h=>(HQ.out W' h).2.2.2);have ne:Nonempty (Sc.In (Last w p gF (.slice (some ⟨gu,0,none⟩) n cu) (l.set k y))):=⟨⟨_,C0⟩⟩;clear c0 c1 c2 c3 HQ;refine Sc.start (Last w p gF (.slice (some ⟨gu,0,none⟩) n cu) (l.set k y)) [(false,0),(false,1),(false,2),(false,3),(false,4),(false,5),(true,6),(true,7),(false,8)] (by kernel_rfl) (by kernel_rfl) (by kernel_rfl) C0 ?_;dsimp only [Sd.picks,List.getElem?_cons_succ,List.getElem?_cons_zero]
  repeat (refine Sd.lit ?_;quiet_step (fail);refine wpQuiet_nil ?_)
  have HD:Hid (Have w p (.slice (some ⟨b,off,none⟩) n cap) x gF (.slice (some ⟨gu,0,none⟩) n cu) (l.set k y) Wz.drew):=HV.out.mono ((Below.refl _ _).drew);clear HV r0 r1 q0 q1 q2 q3 C0;generalize Wz.drew=Wy at *;refine Sd.call (by rfl) (fun K hK=>?_);have c0:Wy.cell? ⟨w.heap.size+2,0,none⟩=some (.int .i64 0):=row_cell HD.out.st.res1 0;have c1:Wy.cell? ⟨w.heap.size+2,1,none⟩=some (.slice none 0 0):=row_cell HD.out.st.res1 1;have f0:=row_frozen HD.out.st.res1 0;have f1:=row_frozen HD.out.st.res1 1;have hge:=(own4 HD.out.own k (by rw [List.length_set];exact HLL.out.1)).2.2.1;have hF:=HD.out.ge;have n1:(Value.slice (some ⟨gu,0,none⟩) n cu).ownBlock≠some (w.heap.size+2):=fun e=>by simp [Value.ownBlock] at e;omega
  have n2:(Value.slice (some ⟨gu,0,none⟩) n cu).ownBlock≠some (w.heap.size+3):=fun e=>by simp [Value.ownBlock] at e;omega
  have L1:Last w p gF (.slice (some ⟨gu,0,none⟩) n cu) (l.set k y) (sto2 Wy (w.heap.size+2) p (.slice (some ⟨gu,0,none⟩) n cu)):=⟨sto2_other HD.out.row (by omega),sto2_off HD.out.own n1 p⟩;have R1:=Lib.hid (sto2_row HD.out.st.res1 p (.slice (some ⟨gu,0,none⟩) n cu));have R2:=sto2_other (g:=w.heap.size+2) (p:=p) (v:=.slice (some ⟨gu,0,none⟩) n cu) HD.out.st.res2 (by omega);have B1:=Lib.hid (sto2_below (p:=p) (v:=.slice (some ⟨gu,0,none⟩) n cu) HD.out.st.bel (show w.heap.size≤w.heap.size+2 by omega));clear HD;go_simp;refine hK _ _ (Sc.Cl.of L1) ?_;clear hK K c0 c1 f0 f1
  show Sd.wpSd _ _ _ _ _ _ (sto2 Wy (w.heap.size+2) p (.slice (some ⟨gu,0,none⟩) n cu))
  generalize sto2 Wy (w.heap.size+2) p (.slice (some ⟨gu,0,none⟩) n cu)=Wx at *;refine Sd.call (by rfl) (fun K hK=>?_);have d0:Wx.cell? ⟨w.heap.size+3,0,none⟩=some (.int .u8 0):=row_cell R2 0;have d1:Wx.cell? ⟨w.heap.size+3,1,none⟩=some (.int .u8 0):=row_cell R2 1;have d2:Wx.cell? ⟨w.heap.size+3,2,none⟩=some (.int .u8 0):=row_cell R2 2;have d3:Wx.cell? ⟨w.heap.size+3,3,none⟩=some (.int .u8 0):=row_cell R2 3;have k0:=row_frozen R2 0;have k1:=row_frozen R2 1;have k2:=row_frozen R2 2;have k3:=row_frozen R2 3;have L2:Last w p gF (.slice (some ⟨gu,0,none⟩) n cu) (l.set k y) (sto4 Wx (w.heap.size+3) 0 y):=⟨sto4_other L1.1 (by omega),sto4_off L1.2 n2 y⟩;have R3:=Lib.hid (sto4_row R2 y);have R4:=Lib.hid (sto4_other (g:=w.heap.size+3) (o:=0) (r:=y) R1.out (by omega));have B2:=Lib.hid (sto4_below (o:=0) (r:=y) B1.out (show w.heap.size≤w.heap.size+3 by omega));clear R2 R1 B1 L1;go_simp;refine hK _ _ (Sc.Cl.of L2) ?_;clear hK K d0 d1 d2 d3 k0 k1 k2 k3
  show Sd.wpSd _ _ _ _ _ _ (sto4 Wx (w.heap.size+3) 0 y)
  have O2:=Lib.hid L2.2;clear L2;generalize sto4 Wx (w.heap.size+3) 0 y=Ww at *
  repeat (refine Sd.lit ?_;quiet_step (fail);refine wpQuiet_nil ?_)
  refine Sd.done ?_;go_wp2
  (try simp only [Exit.inBlock,Exit.then])
  exact bodyPost_ret (results_do (p:=8) (q:=9) (r:=10) rfl _ _ (w.heap.size+2) (w.heap.size+3) p _ y 0 rfl rfl rfl R4.out R3.out) rfl (EY.out _ _ (O2.out.low (by omega)) B2.out)
theorem do_any (w:World) (p:Int) (v:Value) (l:List R4) (R:Rd K4 w v l) (hl:okL l) (op rec:Int) (x:R4):Calls Tryz.prog 178 #[file p v,.int .i64 op,.int .i64 rec,rec4 x] w (DoPost w p l op rec x):=by
 obtain ⟨a,cap,rfl,_⟩:=R.slice
 by_cases he:doE p l op rec=0
 ·obtain ⟨hg,ho,hr⟩:=doE_of he
  obtain ⟨k,rfl⟩:∃ k:Nat,rec=k:=⟨rec.toNat,by omega⟩;exact do_yes w p a _ cap l R hl op k x he ho (by omega) hg.2.2.2.1
 ·exact do_no w p a _ cap l R op rec x he
end Go.Proofs.YtljnkaodhfnbbaaGreatDoor.Fl
namespace Go.Proofs.YtljnkaodhfnbbaaGreatDoor.Ad
open Go.RowKit
def good (o f r:Int):Prop:=0≤o∧o≤2∧0≤f∧f≤63∧0≤r∧r≤255
instance (o f r:Int):Decidable (good o f r):=by unfold good;infer_instance
def goodB (o f r:Int):Bool:=decide (good o f r)
def addr (o f r:Int):Value:=.agg #[.int .i64 o,.int .i64 f,.int .i64 r]
def pair (a b:Int):Value:=.agg #[.int .u8 a,.int .u8 b]
theorem ret_bool {a b:Bool} (h:a=b):Ending.returned (.bool a) = .returned (.bool b):=by rw [h]
end Go.Proofs.YtljnkaodhfnbbaaGreatDoor.Ad
namespace Go.Proofs.YtljnkaodhfnbbaaGreatDoor.Fs
open Go.RowKit
open Fl (R4 z4 K4 rec4 rat goodF goodFB okR okL doE newR okR_at okR_z set_rat inc num bytes file hdr)
open Ad (goodB)
section
variable {α:Type} (κ:α→Int)
def ins (c:α):List α→List α
 | []=>[c]
 | y :: r=>if κ c < κ y then c :: y :: r else y :: ins c r
def put (c:α) (l:List α):List α:=ins κ c (l.filter fun y=>decide (¬ κ y=κ c))
def look (n:Int) (l:List α):Option α:=l.find? fun y=>decide (κ y=n)
def Srt (l:List α):Prop:=l.Pairwise fun y z=>κ y < κ z
variable {κ}
theorem mem_ins {c x:α} : ∀ {l:List α},x∈ins κ c l↔x=c∨x∈l
 | []=>by simp [ins]
 | y :: r=>by
   unfold ins
   split
   ·simp
   ·simp only [List.mem_cons,mem_ins (l:=r)]
    constructor
    ·rintro (h | h | h)
     ·exact .inr (.inl h)
     ·exact .inl h
     ·exact .inr (.inr h)
    ·rintro (h | h | h)
     ·exact .inr (.inl h)
     ·exact .inl h
     ·exact .inr (.inr h)
theorem mem_put {c x:α} {l:List α} : x∈put κ c l↔x=c∨x∈l∧κ x≠κ c:=by
 unfold put;rw [mem_ins,List.mem_filter]
 simp
theorem srt_ins {c:α} : ∀ {l:List α},Srt κ l→(∀ x∈l,κ x≠κ c)→Srt κ (ins κ c l)
 | [],_,_=>by simp [ins,Srt]
 | y :: r,h,hn=>by
   obtain ⟨h1,h2⟩:=List.pairwise_cons.1 h;unfold ins
   split
   ·rename_i hlt
    refine List.pairwise_cons.2 ⟨fun z hz=>?_,h⟩
    rcases List.mem_cons.1 hz with rfl | hz
    ·exact hlt
    ·exact Int.lt_trans hlt (h1 z hz)
   ·rename_i hlt
    have hy:=hn y List.mem_cons_self;refine List.pairwise_cons.2 ⟨fun z hz=>?_,srt_ins h2 fun x hx=>hn x (List.mem_cons_of_mem _ hx)⟩
    rcases mem_ins.1 hz with rfl | hz
    ·omega
    ·exact h1 z hz
theorem srt_put {c:α} {l:List α} (h:Srt κ l):Srt κ (put κ c l):=by
 unfold put;exact srt_ins (h.filter _) fun x hx=>by simpa using (List.mem_filter.1 hx).2
theorem look_none {n:Int} {l:List α} : look κ n l=none↔∀ x∈l,κ x≠n:=by
 unfold look;rw [List.find?_eq_none]
 simp
theorem look_some {n:Int} {l:List α} {c:α} (h:look κ n l=some c):c∈l∧κ c=n:=by
 unfold look at h;exact ⟨List.mem_of_find?_eq_some h,by simpa using List.find?_some h⟩
theorem look_at {l:List α} {c:α} (h:Srt κ l) (hc:c∈l):look κ (κ c) l=some c:=by
 induction l with
 | nil=>cases hc
 | cons y r ih =>
   obtain ⟨h1,h2⟩:=List.pairwise_cons.1 h;unfold look;rw [List.find?_cons]
   rcases List.mem_cons.1 hc with rfl | hc'
   ·simp
   ·have:=h1 c hc'
    rw [decide_eq_false (by omega)];exact ih h2 hc'
theorem put_new {c:α} {l:List α} (h:look κ (κ c) l=none):put κ c l=ins κ c l:=by
 unfold put;rw [List.filter_eq_self.2]
 intro x hx
 simpa using look_none.1 h x hx
theorem ins_at {c:α} : ∀ {l:List α} {k:Nat},(∀ x∈l.take k,κ x < κ c)→(∀ x,l[k]? = some x→κ c < κ x)→ins κ c l=l.take k ++ c :: l.drop k
 | [],k,_,_=>by simp [ins]
 | y :: r,0,_,h2=>by
   have:=h2 y rfl
   simp [ins,this]
 | y :: r,k+1,h1,h2=>by
   have hy:κ y < κ c:=h1 y (by simp);unfold ins;rw [if_neg (by omega),ins_at (l:=r) (k:=k) (fun x hx=>h1 x (by simp [hx])) (fun x hx=>h2 x (by simpa using hx))]
   rfl
theorem filter_other {c:α} : ∀ {r:List α},(∀ x∈r,κ c < κ x)→r.filter (fun y=>decide (¬ κ y=κ c))=r:=fun {r} h=>List.filter_eq_self.2 fun x hx=>by have:=h x hx;simpa using (by omega:¬ κ x=κ c)
theorem put_set {c:α} : ∀ {l:List α} {k:Nat} {x:α},Srt κ l→l[k]? = some x→κ x=κ c→put κ c l=l.set k c
 | y :: r,0,x,h,hx,e=>by
   obtain rfl:y=x:=by simpa using hx
   obtain ⟨h1,h2⟩:=List.pairwise_cons.1 h;have hf:=filter_other (c:=c) (κ:=κ) (r:=r) fun z hz=>by have:=h1 z hz;omega
   unfold put;rw [List.filter_cons,if_neg (by simp [e]),hf]
   cases r with
   | nil=>rfl
   | cons z s =>
     have:=h1 z List.mem_cons_self;unfold ins;rw [if_pos (by omega)]
     rfl
 | y :: r,k+1,x,h,hx,e=>by
   obtain ⟨h1,h2⟩:=List.pairwise_cons.1 h;have hx':r[k]? = some x:=by simpa using hx
   have hlt:=h1 x (List.mem_of_getElem? hx');have ih:=put_set (c:=c) h2 hx' e;unfold put at ih ⊢;rw [List.filter_cons,if_pos (by simp;omega)];unfold ins;rw [if_neg (by omega),ih]
   rfl
variable {β:Type} {κ':β→Int} {f:α→β}
theorem map_ins (hf:∀ x,κ' (f x)=κ x) (c:α):∀ l:List α,(ins κ c l).map f=ins κ' (f c) (l.map f)
 | []=>rfl
 | y :: r=>by
   simp only [ins,List.map_cons,hf]
   split
   ·rfl
   ·rw [List.map_cons,map_ins hf c r]
theorem map_put (hf:∀ x,κ' (f x)=κ x) (c:α) (l:List α):(put κ c l).map f=put κ' (f c) (l.map f):=by
 unfold put;rw [map_ins hf,List.filter_map]
 congr 2
 exact congrArg (fun q=>List.filter q l) (funext fun x=>by simp [hf])
theorem map_look (hf:∀ x,κ' (f x)=κ x) (n:Int) (l:List α):look κ' n (l.map f)=(look κ n l).map f:=by
 unfold look;rw [List.find?_map]
 congr 1
 exact congrArg (fun q=>List.find? q l) (funext fun x=>by simp [hf])
theorem map_srt (hf:∀ x,κ' (f x)=κ x) {l:List α} : Srt κ' (l.map f)↔Srt κ l:=by
 unfold Srt;rw [List.pairwise_map]
 simp [hf]
theorem len_le:∀ {l:List α} {lo hi:Int},Srt κ l→(∀ x∈l,lo≤κ x∧κ x < hi)→lo≤hi→(l.length:Int)≤hi - lo
 | [],lo,hi,_,_,h=>by simp;omega
 | y :: r,lo,hi,h,hb,hle=>by
   obtain ⟨h1,h2⟩:=List.pairwise_cons.1 h;have hy:=hb y List.mem_cons_self;have:=len_le (l:=r) (lo:=κ y+1) (hi:=hi) h2 (fun x hx=>⟨h1 x hx,(hb x (List.mem_cons_of_mem _ hx)).2⟩) (by omega);simp only [List.length_cons]
   omega
end
abbrev Fil:=Int×Int×List R4
abbrev Abs:=List Fil
abbrev key (e:Fil):Int:=e.1
def addE (A:Abs) (n p:Int) (l:List R4):Int:=if 0≤n∧n≤63 then if goodF p l then if (look key n A).isSome then 10 else 0 else 2 else 1
def addA (A:Abs) (n p:Int) (l:List R4):Abs:=if addE A n p l=0 then put key (n,p,l) A else A
def dE (A:Abs) (o f r:Int):Int:=if goodB o f r=true then match look key f A with | none=>3 | some e=>doE e.2.1 e.2.2 o r else 1
def dV (A:Abs) (o f r:Int) (x:R4):R4:=match look key f A with | none=>z4 | some e=>if dE A o f r=0 then newR e.2.2 o r x else z4
def dA (A:Abs) (o f r:Int) (x:R4):Abs:=match look key f A with | none=>A | some e=>if dE A o f r=0 then put key (f,e.2.1,e.2.2.set r.toNat (newR e.2.2 o r x)) A else A
def dD (A:Abs) (o f r d:Int):Int:=if dE A o f r=5 then d+1 else d
def gB (A:Abs) (n r:Int):Bool:=match look key n A with | none=>false | some e=>decide (0≤r∧r < e.2.2.length)
def gV (A:Abs) (n r:Int):R4:=match look key n A with | none=>z4 | some e=>if 0≤r∧r < e.2.2.length then rat e.2.2 r.toNat else z4
def sB (A:Abs) (n r:Int):Bool:=gB A n r && decide (r≠0)
def sA (A:Abs) (n r:Int) (x:R4):Abs:=match look key n A with | none=>A | some e=>if sB A n r=true then put key (n,e.2.1,e.2.2.set r.toNat x) A else A
structure OkA (A:Abs):Prop where
 srt:Srt key A
 nm:∀ e∈A,0≤e.1∧e.1≤63
 good:∀ e∈A,goodF e.2.1 e.2.2
 ok:∀ e∈A,okL e.2.2
theorem OkA.nil:OkA []:=⟨List.Pairwise.nil,nofun,nofun,nofun⟩
theorem OkA.len {A:Abs} (h:OkA A):A.length≤64:=by
 have:=len_le (κ:=key) (lo:=0) (hi:=64) h.srt (fun x hx=>by have:=h.nm x hx;show 0≤x.1∧x.1 < 64;omega) (by omega)
 omega
theorem OkA.put {A:Abs} (h:OkA A) {n p:Int} {l:List R4} (hn:0≤n∧n≤63) (hg:goodF p l) (hl:okL l):OkA (put key (n,p,l) A):=by
 refine ⟨srt_put h.srt,fun e he=>?_,fun e he=>?_,fun e he=>?_⟩ <;> rcases mem_put.1 he with rfl | ⟨hm,_⟩
 ·exact hn
 ·exact h.nm e hm
 ·exact hg
 ·exact h.good e hm
 ·exact hl
 ·exact h.ok e hm
theorem good_set {p:Int} {l:List R4} {k:Nat} {x:R4} (h:goodF p l) (hk:k≠0):goodF p (l.set k x):=by
 obtain ⟨h1,h2,h3,h4,h5⟩:=h;refine ⟨h1,h2,by rw [List.length_set];exact h3,by rw [List.length_set];exact h4,?_⟩;rw [List.length_set,← h5];unfold rat;rw [List.getD_eq_getElem?_getD,List.getD_eq_getElem?_getD,List.getElem?_set_ne (by omega)]
theorem okL_set {l:List R4} {k:Nat} {x:R4} (h:okL l) (hx:okR x):okL (l.set k x):=fun r hr=>by
 rcases List.mem_or_eq_of_mem_set hr with h1 | rfl
 ·exact h r h1
 ·exact hx
theorem okR_inc (r:R4):okR (inc r):=by
 unfold inc Fl.bytes okR;generalize num r=q;refine ⟨⟨?_,?_⟩,⟨?_,?_⟩,⟨?_,?_⟩,?_,?_⟩ <;> simp only <;> omega
theorem okR_new {l:List R4} {o r:Int} {x:R4} (h:okL l) (hx:okR x):okR (newR l o r x):=by
 unfold newR
 split
 ·exact hx
 ·split
  ·exact okR_inc _
  ·exact okR_at h _
theorem good_do {p:Int} {l:List R4} {o r:Int} {x:R4} (h:doE p l o r=0):goodF p (l.set r.toNat (newR l o r x)):=by
 obtain ⟨hg,ho,h0,h1⟩:=Fl.doE_of h
 by_cases hr:r=0
 ·subst hr
  have e:o=0:=by
   unfold doE at h;rw [if_pos hg,if_pos ho,if_pos ⟨h0,h1⟩] at h
   split at h
   ·omega
   ·omega
  subst e
  show goodF p (l.set 0 (newR l 0 0 x))
  have e2:newR l 0 0 x=rat l 0:=by unfold newR;rw [if_neg (by decide),if_neg (by decide)];rfl
  rw [e2,set_rat l 0 (by omega)];exact hg
 ·exact good_set hg (by omega)
theorem OkA.find {A:Abs} (h:OkA A) {n:Int} {e:Fil} (he:look key n A=some e):(0≤n∧n≤63)∧goodF e.2.1 e.2.2∧okL e.2.2∧e.1=n:=by
 obtain ⟨hm,hk⟩:=look_some he;have hk':e.1=n:=hk;exact ⟨hk' ▸ h.nm e hm,h.good e hm,h.ok e hm,hk'⟩
theorem OkA.add {A:Abs} (h:OkA A) {n p:Int} {l:List R4} (hl:okL l):OkA (addA A n p l):=by
 unfold addA
 split
 ·rename_i h0
  unfold addE at h0
  split at h0
  ·rename_i hn
   split at h0
   ·rename_i hg
    exact h.put hn hg hl
   ·omega
  ·omega
 ·exact h
theorem OkA.do {A:Abs} (h:OkA A) {o f r:Int} {x:R4} (hx:okR x):OkA (dA A o f r x):=by
 unfold dA
 split
 ·exact h
 ·rename_i e he
  split
  ·rename_i h0
   obtain ⟨hn,hg,hl,hk⟩:=h.find he;refine h.put hn ?_ (okL_set hl (okR_new hl hx));unfold dE at h0
   split at h0
   ·rw [he] at h0
    exact good_do h0
   ·omega
  ·exact h
theorem OkA.set {A:Abs} (h:OkA A) {n r:Int} {x:R4} (hx:okR x):OkA (sA A n r x):=by
 unfold sA
 split
 ·exact h
 ·rename_i e he
  split
  ·rename_i h0
   obtain ⟨hn,hg,hl,hk⟩:=h.find he;have:r≠0∧0≤r:=by
    unfold sB gB at h0;rw [he] at h0
    simp at h0
    omega
   exact h.put hn (good_set hg (by omega)) (okL_set hl hx)
  ·exact h
end Go.Proofs.YtljnkaodhfnbbaaGreatDoor.Fs
namespace Go.Proofs.YtljnkaodhfnbbaaGreatDoor.Fs
open Go.RowKit Go.Maps
open Fl (R4 z4 K4 rec4 rat goodF goodFB okR okL doE newR file)
open Rw (Rd Ow At)
structure Ent where
 n:Int
 p:Int
 a:Option Addr
 cap:Nat
 l:List R4
def Ent.sl (c:Ent):Value:=.slice c.a c.l.length c.cap
def Ent.file (c:Ent):Value:=Fl.file c.p c.sl
def Ent.abs (c:Ent):Fil:=(c.n,c.p,c.l)
def E3:Rw.Kind Ent:=⟨fun c=>[.int .i64 c.n,.int .i64 c.p,c.sl],3,by decide,fun _=>rfl,fun _ u h=>by simp [Ent.sl] at h;rcases h with rfl | rfl | rfl <;> rfl,⟨0,0,none,0,[]⟩⟩
theorem abs_key (c:Ent):key c.abs=c.n:=rfl
structure Only (G:Nat→Prop) (w w':World):Prop where
 os:w'.os=w.os
 tape:w'.tape=w.tape
 output:w'.output=w.output
 size:w.heap.size≤w'.heap.size
 block:∀ k,k < w.heap.size→¬ G k→w'.heap[k]? = w.heap[k]?
def Fx (G:Nat→Prop) (w w':World) (k:Nat):Prop:=G k∨(w.heap.size≤k∧k < w'.heap.size)
section
variable {G:Nat→Prop} {w w' w'':World}
theorem Only.refl (G:Nat→Prop) (w:World):Only G w w:=⟨rfl,rfl,rfl,Nat.le_refl _,fun _ _ _=>rfl⟩
theorem Only.of_below (h:Below w.heap.size w w'):Only G w w':=⟨h.os,h.tape,h.output,h.size,fun k hk _=>h.block k hk⟩
theorem Only.mono {G':Nat→Prop} (h:Only G w w') (hg:∀ k,k < w.heap.size→G k→G' k):Only G' w w':=⟨h.os,h.tape,h.output,h.size,fun k hk hn=>h.block k hk fun g=>hn (hg k hk g)⟩
theorem Only.trans {G':Nat→Prop} (h:Only G w w') (k:Only G' w' w'') (hg:∀ k,k < w.heap.size→G' k→G k):Only G w w'' :=
 ⟨k.os.trans h.os,k.tape.trans h.tape,k.output.trans h.output,Nat.le_trans h.size k.size,fun i hi hn=>(k.block i (Nat.lt_of_lt_of_le hi h.size) fun g=>hn (hg i hi g)).trans (h.block i hi hn)⟩
theorem Only.then (h:Only G w w') (b:Below w'.heap.size w' w''):Only G w w'':=h.trans (Only.of_below (G:=fun _=>False) b) fun _ _ g=>g.elim
theorem Only.set (G:Nat→Prop) (w:World) {a:Addr} (ha:G a.block) (u:Value):Only G w (w.setCell a u) :=
 ⟨rfl,rfl,rfl,by simp [World.setCell],fun k _ hn=>Below.heap_setCell w a u k fun e=>hn (e ▸ ha)⟩
theorem Only.grown {b:Nat} (hb:G b) (h:w.grownBy w' (some b)):Only G w w':=⟨h.os,h.tape,h.output,h.size,fun k hk hn=>h.block k hk fun e=>hn (by injection e with e;exact e ▸ hb)⟩
theorem Only.below {B:Nat} (h:Only G w w') (hB:B≤w.heap.size) (hG:∀ k,G k→B≤k):Below B w w' :=
 ⟨h.os,h.tape,h.output,h.size,fun k hk=>h.block k (by omega) fun g=>by have:=hG k g;omega⟩
theorem Only.cell (h:Only G w w') {a:Addr} {v:Value} (hc:w.cell? a=some v) (hn:¬ G a.block):w'.cell? a=some v :=
 (World.cell?_of_block (h.block a.block (World.block_lt_of_cell? _ _ hc) hn)).trans hc
theorem Fx.of {k:Nat} (h:G k):Fx G w w' k:=.inl h
theorem Fx.not {k:Nat} (h:¬ G k) (hk:k < w.heap.size):¬ Fx G w w' k:=by rintro (g | ⟨g,_⟩);exact h g;omega
theorem Fx.low (h:∀ k,G k→k < w.heap.size) (hs:w.heap.size≤w'.heap.size):∀ k,Fx G w w' k→k < w'.heap.size:=by
 rintro k (g | ⟨_,g⟩)
 ·have:=h k g;omega
 ·exact g
end
section
variable {α:Type} {K:Rw.Kind α} {G:Nat→Prop} {w w':World} {v:Value} {l:List α}
theorem rd_only (h:Rd K w v l) (hn:0 < l.length→∀ k,v.ownBlock=some k→¬ G k) (ho:Only G w w'):Rd K w' v l:=by
 obtain ⟨a,cap,rfl,h1,h2,h3⟩:=h;refine ⟨a,cap,rfl,h1,h2,fun h0=>?_⟩;obtain ⟨b,off,rfl,hA⟩:=h3 h0;exact ⟨b,off,rfl,fun i hi j u hu=>ho.cell (hA i hi j u hu) (hn h0 b rfl)⟩
theorem rd_low (h:Rd K w v l) (h0:0 < l.length):∀ k,v.ownBlock=some k→k < w.heap.size:=by
 obtain ⟨a,cap,rfl,h1,h2,h3⟩:=h;obtain ⟨b,off,rfl,hA⟩:=h3 h0
 intro k hk
 obtain rfl:b=k:=by simpa [Value.ownBlock] using hk
 obtain ⟨j,hj⟩:∃ u,(K.enc (l.getD 0 K.dft))[0]? = some u:=⟨_,List.getElem?_eq_getElem (by rw [K.len];exact K.pos)⟩;exact World.block_lt_of_cell? _ _ (hA 0 h0 0 _ hj)
theorem rd_fx (h:Rd K w v l) (hn:0 < l.length→∀ k,v.ownBlock=some k→¬ G k):0 < l.length→∀ k,v.ownBlock=some k→¬ Fx G w w' k :=
 fun h0 k hk=>Fx.not (hn h0 k hk) (rd_low h h0 k hk)
theorem ow_only {B E:Nat} (h:Ow K w B E v l) (hn:∀ k,v.ownBlock=some k→¬ G k) (ho:Only G w w'):Ow K w' B E v l:=by
 obtain ⟨h1,h2⟩:=h;refine ⟨h1,?_⟩
 rcases h2 with h2 | ⟨g,cap,cur,rfl,hB,hh,r⟩
 ·exact .inl h2
 ·exact .inr ⟨g,cap,cur,rfl,hB,(ho.block g (lt_of_block hh) (hn g rfl)).trans hh,r⟩
theorem ow_new {B E:Nat} (h:Ow K w B E v l):∀ k,v.ownBlock=some k→B≤k∧k < w.heap.size:=fun k hk=>World.ownsRow.lt h k hk
end
def Rh (v:Value):Option (DataW Value×List MemPlace):=some (.held v,[])
def ent (c:Ent):Lit×DataW Value:=(.int .i64 c.n,.held c.file)
def dat (C:List Ent):DataW Value:=.map (C.map ent)
theorem law:Keyed Tryz.prog 3:=int_keyed Tryz.underlying3
theorem zeroF (w:World):(zeroValue 70).run Tryz.prog w = .ok (file 0 (.slice none 0 0)) w:=by kernel_rfl
def Wf (n:Int):Prop:=(Lit.int .i64 n).wf=true
theorem keyI {n:Int} (h:Wf n):keyOf Tryz.prog 3 (.int .i64 n)=some (.int .i64 n):=keyOf_int_mk Tryz.underlying3 h
theorem insert_ent (c:Ent):∀ l:List Ent,DataW.insert (ent c) (l.map ent)=(ins Ent.n c l).map ent
 | []=>rfl
 | y :: r=>by
   simp only [List.map_cons,DataW.insert,ins,ent,Lit.before,decide_eq_true_eq]
   split
   ·rfl
   ·have:=insert_ent c r
    simp only [ent] at this;rw [this]
    rfl
theorem filter_ent (c:Ent) (l:List Ent):(l.map ent).filter (fun p=>!p.1.sameKey (ent c).1)=(l.filter fun y=>decide (¬ y.n=c.n)).map ent:=by
 rw [List.filter_map]
 congr 1
 exact congrArg (fun q=>List.filter q l) (funext fun x=>by simp [ent,Lit.sameKey])
theorem dat_put (c:Ent) (l:List Ent):(dat l).put (.int .i64 c.n) (.held c.file)=dat (put Ent.n c l):=by
 unfold dat DataW.put put;simp only;rw [← insert_ent,← filter_ent]
 rfl
theorem find_ent (n:Int):∀ l:List Ent,(l.map ent).find? (fun p=>p.1.sameKey (.int .i64 n))=(look Ent.n n l).map ent:=fun l=>by
 unfold look;rw [List.find?_map]
 congr 1
 exact congrArg (fun q=>List.find? q l) (funext fun x=>by simp [ent,Lit.sameKey])
def lv (C:List Ent) (n:Int):Value:=match look Ent.n n C with | none=>file 0 (.slice none 0 0) | some c=>c.file
def lb (C:List Ent) (n:Int):Bool:=(look Ent.n n C).isSome
theorem dat_at (n:Int) (l:List Ent):(dat l).atKey (.int .i64 n) (.held (file 0 (.slice none 0 0))) = .held (lv l n):=by
 unfold dat DataW.atKey lv;simp only [find_ent]
 cases look Ent.n n l <;> rfl
theorem dat_has (n:Int) (l:List Ent):Maps.has (dat l) (.int .i64 n)=lb l n:=by
 have e:∀ q:Lit×DataW Value→Bool,(l.map ent).any q=((l.map ent).find? q).isSome:=fun q=>by
  rw [Bool.eq_iff_iff,List.any_eq_true,List.find?_isSome]
 show (l.map ent).any (fun p=>p.1.sameKey (.int .i64 n))=_
 rw [e,find_ent,Option.isSome_map]
 rfl
theorem tight {w:World} {b n:Nat} {C:List Ent} (h:w.ownsMap Tryz.prog 3 Rh b n (dat C)):w.ownsMap Tryz.prog 3 Rh b C.length (dat C):=by
 obtain ⟨es,clock,hb,F,hs,hD⟩:=h;refine ⟨es,clock,hb,F,?_,hD⟩;have e:C.map ent=(es.toList.map (Go.WideElems.rg Tryz.prog 3 Rh)).foldr DataW.insert []:=by unfold dat at hD;injection hD
 have:=congrArg List.length e;rw [length_read,List.length_map] at this
 omega
def Mp (w:World) (F:Nat→Prop) (m:Value) (C:List Ent):Prop:=(m = .map none∧C = [])∨∃ b,m = .map (some b)∧F b∧w.ownsMap Tryz.prog 3 Rh b C.length (dat C)
theorem run_look {w:World} {F:Nat→Prop} {m:Value} {C:List Ent} (M:Mp w F m C) {n:Int} (hn:Wf n) (c:Bool) :
 (Instr.lookup 176 m (.int .i64 n) c).run Tryz.prog w = .ok (if c then .tuple #[lv C n,.bool (lb C n)] else lv C n) w:=by
 rcases M with ⟨rfl,rfl⟩ | ⟨b,rfl,_,h⟩
 ·exact Maps.look_nil c law Tryz.underlying176 (zeroF w) (keyI hn)
 ·cases c with
  | false =>
    obtain ⟨v,ps,hr,hv⟩:=h.lookup law Tryz.underlying176 (zeroF w) (zd:=.held (file 0 (.slice none 0 0))) (zp:=[]) rfl (keyI hn);rw [dat_at] at hv;have:v=lv C n:=by simp [Rh] at hv;exact hv.1
    rw [hr,this]
    rfl
  | true =>
    obtain ⟨v,ps,hr,hv⟩:=h.look_ok law Tryz.underlying176 (zeroF w) (zd:=.held (file 0 (.slice none 0 0))) (zp:=[]) rfl (keyI hn);rw [dat_at] at hv;have:v=lv C n:=by simp [Rh] at hv;exact hv.1
    rw [hr,this,dat_has]
    rfl
theorem run_put {w:World} {F:Nat→Prop} {b:Nat} {C:List Ent} (M:Mp w F (.map (some b)) C) (c:Ent) (hn:Wf c.n) (hl:C.length < maxLen) :
 ∃ w',(Instr.mapUpdate 176 (.map (some b)) (.int .i64 c.n) c.file).run Tryz.prog w = .ok () w'∧Mp w' F (.map (some b)) (put Ent.n c C)∧w.grownBy w' (some b):=by
 rcases M with ⟨h,_⟩ | ⟨b',e,hF,h⟩
 ·cases h
 ·obtain rfl:b=b':=by injection e with e;injection e
  obtain ⟨w',hr,h',hg⟩:=h.update law Tryz.underlying176 hl (keyI hn) (d:=.held c.file) (ps:=[]) rfl;rw [dat_put] at h';exact ⟨w',hr,.inr ⟨b,rfl,hF,tight h'⟩,hg⟩
section
variable {ops:Array Oper} {rest:List Oper} {o:Oper} {a:Act} {Q:Exit→Act→World→Prop} {K:Act→World→Prop} {w:World} {F:Nat→Prop}
theorem at_look {m:Value} {C:List Ent} (hgd:Region.wanted o (yielded ops a.tmps)=true) (p x:Operand) (c:Bool) (hop:o.op = .lookup 176 p x c) (hm:a.eval p=m) (M:Mp w F m C) (n:Int) (hx:a.eval x = .int .i64 n) (hn:Wf n)
 (h:wpList Tryz.prog ops Q rest (a.put o.dst (if c then .tuple #[lv C n,.bool (lb C n)] else lv C n)) w):wpList Tryz.prog ops Q (o :: rest) a w:=by
 refine BigFrame.wpList_want hgd fun K' hK=>?_;have hr:=run_look M hn c;unfold Oper.wp
 simp [execOp,hop,hm,hx,hr,Result.andThen]
 exact hK _ _ (by simpa using h)
theorem wp_put {b:Nat} {C:List Ent} (p x v:Operand) (hop:o.op = .mapUpdate 176 p x v) (hm:a.eval p = .map (some b)) (M:Mp w F (.map (some b)) C) (c:Ent) (hx:a.eval x = .int .i64 c.n) (hv:a.eval v=c.file) (hn:Wf c.n) (hl:C.length < maxLen)
 (h:∀ w',Mp w' F (.map (some b)) (put Ent.n c C)→w.grownBy w' (some b)→K (a.put o.dst undef) w'):o.wp Tryz.prog a w K Q:=by
 obtain ⟨w',hr,h1,h2⟩:=run_put M c hn hl;unfold Oper.wp
 simp [execOp,hop,hm,hx,hv,hr,Result.andThen]
 exact h w' h1 h2
end
section
variable {w w':World} {F G:Nat→Prop} {m:Value} {C:List Ent}
theorem Mp.only (h:Mp w F m C) (hn:∀ k,F k→¬ G k) (ho:Only G w w'):Mp w' F m C:=by
 rcases h with h | ⟨b,rfl,hF,h⟩
 ·exact .inl h
 ·have hlt:=h.lt
  obtain ⟨es,clock,hb,Ft,hs,hD⟩:=h;exact .inr ⟨b,rfl,hF,es,clock,(ho.block b hlt (hn b hF)).trans hb,Ft,hs,hD⟩
theorem Mp.wide (h:Mp w F m C) (hF:∀ k,F k→G k):Mp w G m C:=by
 rcases h with h | ⟨b,rfl,hb,h⟩
 ·exact .inl h
 ·exact .inr ⟨b,rfl,hF b hb,h⟩
theorem Mp.kept (h:Mp w F m C) (hb:∀ b,m = .map (some b)→w'.heap[b]? = w.heap[b]?):Mp w' F m C:=by
 rcases h with h | ⟨b,rfl,hF,h⟩
 ·exact .inl h
 ·obtain ⟨es,clock,h1,Ft,hs,hD⟩:=h
  exact .inr ⟨b,rfl,hF,es,clock,(hb b rfl).trans h1,Ft,hs,hD⟩
theorem Mp.isMap {b:Nat} (h:Mp w F (.map (some b)) C):F b∧∃ es clock,w.heap[b]? = some (.map es clock):=by
 rcases h with ⟨h,_⟩ | ⟨b',e,hF,h⟩
 ·cases h
 ·obtain rfl:b=b':=by injection e with e;injection e
  obtain ⟨es,clock,hb,_⟩:=h;exact ⟨hF,es,clock,hb⟩
end
def apart (c c':Ent):Prop:=∀ k,c.sl.ownBlock=some k→c'.sl.ownBlock≠some k
structure Sto (w:World) (s:Nat) (F:Nat→Prop) (m:Value) (C:List Ent) (d:Int):Prop where
 row:w.heap[s]? = some (.cells #[m,.int .i64 d] 178 (0,0))
 foot:F s
 mp:Mp w F m C
 own:∀ c∈C,Ow K4 w 0 42 c.sl c.l
 mine:∀ c∈C,∀ k,c.sl.ownBlock=some k→F k
 apart:C.Pairwise apart
 ok:OkA (C.map Ent.abs)
 low:∀ k,F k→k < w.heap.size
def St (w:World) (s:Nat) (F:Nat→Prop) (A:Abs) (d:Int):Prop:=∃ m C,Sto w s F m C d∧C.map Ent.abs=A
section
variable {w w':World} {s:Nat} {F G:Nat→Prop} {m:Value} {C:List Ent} {A:Abs} {d:Int}
theorem Sto.only (h:Sto w s F m C d) (hn:∀ k,F k→¬ G k) (ho:Only G w w'):Sto w' s F m C d :=
 ⟨(ho.block s (lt_of_block h.row) (hn s h.foot)).trans h.row,h.foot,h.mp.only hn ho,fun c hc=>ow_only (h.own c hc) (fun k hk=>hn k (h.mine c hc k hk)) ho,h.mine,h.apart,h.ok,fun k hk=>Nat.lt_of_lt_of_le (h.low k hk) ho.size⟩
theorem Sto.wide (h:Sto w s F m C d) (hF:∀ k,F k→G k) (hl:∀ k,G k→k < w.heap.size):Sto w s G m C d :=
 ⟨h.row,hF s h.foot,h.mp.wide hF,h.own,fun c hc k hk=>hF k (h.mine c hc k hk),h.apart,h.ok,hl⟩
theorem Sto.below (h:Sto w s F m C d) (hb:Below w.heap.size w w'):Sto w' s F m C d:=h.only (G:=fun _=>False) (fun _ _ g=>g) (Only.of_below hb)
theorem St.only (h:St w s F A d) (hn:∀ k,F k→¬ G k) (ho:Only G w w'):St w' s F A d:=by
 obtain ⟨m,C,h,e⟩:=h;exact ⟨m,C,h.only hn ho,e⟩
theorem St.wide (h:St w s F A d) (hF:∀ k,F k→G k) (hl:∀ k,G k→k < w.heap.size):St w s G A d:=by
 obtain ⟨m,C,h,e⟩:=h;exact ⟨m,C,h.wide hF hl,e⟩
theorem St.below (h:St w s F A d) (hb:Below w.heap.size w w'):St w' s F A d:=by
 obtain ⟨m,C,h,e⟩:=h;exact ⟨m,C,h.below hb,e⟩
theorem St.fx (h:St w s F A d) (hb:Below w.heap.size w w'):St w' s (Fx F w w') A d:=by
 have hl:∀ k,F k→k < w.heap.size:=by obtain ⟨m,C,h,_⟩:=h;exact h.low
 exact (h.below hb).wide (fun k hk=>.inl hk) (Fx.low hl hb.size)
theorem St.low (h:St w s F A d):∀ k,F k→k < w.heap.size:=by obtain ⟨m,C,h,_⟩:=h;exact h.low
theorem St.foot (h:St w s F A d):F s:=by obtain ⟨m,C,h,_⟩:=h;exact h.foot
theorem St.okA (h:St w s F A d):OkA A:=by obtain ⟨m,C,h,e⟩:=h;rw [← e];exact h.ok
theorem Sto.len (h:Sto w s F m C d):C.length≤64:=by have:=h.ok.len;rwa [List.length_map] at this
theorem abs_look (n:Int) (C:List Ent):look key n (C.map Ent.abs)=(look Ent.n n C).map Ent.abs:=map_look (κ:=Ent.n) (κ':=key) abs_key n C
theorem abs_put (c:Ent) (C:List Ent):(put Ent.n c C).map Ent.abs=put key c.abs (C.map Ent.abs):=map_put (κ:=Ent.n) (κ':=key) abs_key c C
theorem Sto.find (h:Sto w s F m C d) {n:Int} {c:Ent} (hc:look Ent.n n C=some c):Ow K4 w 0 42 c.sl c.l∧goodF c.p c.l∧okL c.l∧c.n=n∧(0≤n∧n≤63)∧c∈C:=by
 obtain ⟨hm,hk⟩:=look_some hc;have hma:c.abs∈C.map Ent.abs:=List.mem_map_of_mem hm;have:=h.ok.nm _ hma;exact ⟨h.own c hm,h.ok.good _ hma,h.ok.ok _ hma,hk,hk ▸ this,hm⟩
theorem Sto.off (h:Sto w s F m C d) {c:Ent} (hc:c∈C):c.sl.ownBlock≠some s∧∀ b,m = .map (some b)→c.sl.ownBlock≠some b:=by
 refine ⟨(h.own c hc).apart h.row (by decide),fun b hb e=>?_⟩;subst hb;obtain ⟨_,es,clock,hm⟩:=h.mp.isMap;obtain ⟨_,h2⟩:=h.own c hc
 rcases h2 with ⟨e2,_⟩ | ⟨g,cap,cur,e2,_,hh,_⟩
 ·rw [e2] at e;cases e
 ·rw [e2] at e
  obtain rfl:g=b:=by simpa [Value.ownBlock] using e
  rw [hh] at hm
  cases hm
theorem Sto.map_ne {b:Nat} (h:Sto w s F (.map (some b)) C d):b≠s:=fun e=>by
 subst e;obtain ⟨_,es,clock,hm⟩:=h.mp.isMap;rw [h.row] at hm
 cases hm
end
structure Lst (F:Nat→Prop) (w:World) (v:Value) (L:List Ent):Prop where
 rd:Rd E3 w v L
 off:0 < L.length→∀ k,v.ownBlock=some k→¬ F k
 file:∀ c∈L,Rd K4 w c.sl c.l
 foff:∀ c∈L,0 < c.l.length→∀ k,c.sl.ownBlock=some k→¬ F k
def Ls (F:Nat→Prop) (w:World) (v:Value) (A:Abs):Prop:=∃ L,Lst F w v L∧L.map Ent.abs=A
section
variable {w w':World} {F G:Nat→Prop} {v:Value} {L:List Ent} {A:Abs}
theorem Lst.only (h:Lst F w v L) (ho:Only F w w'):Lst (Fx F w w') w' v L :=
 ⟨rd_only h.rd h.off ho,rd_fx h.rd h.off,fun c hc=>rd_only (h.file c hc) (h.foff c hc) ho,fun c hc=>rd_fx (h.file c hc) (h.foff c hc)⟩
theorem Lst.mono (h:Lst F w v L) (hg:∀ k,k < w.heap.size→G k→F k):Lst G w v L :=
 ⟨h.rd,fun h0 k hk g=>h.off h0 k hk (hg k (rd_low h.rd h0 k hk) g),h.file,fun c hc h0 k hk g=>h.foff c hc h0 k hk (hg k (rd_low (h.file c hc) h0 k hk) g)⟩
theorem Lst.below (h:Lst F w v L) (hb:Below w.heap.size w w'):Lst F w' v L :=
 ⟨h.rd.below hb,h.off,fun c hc=>(h.file c hc).below hb,h.foff⟩
theorem Ls.only (h:Ls F w v A) (ho:Only F w w'):Ls (Fx F w w') w' v A:=by obtain ⟨L,h,e⟩:=h;exact ⟨L,h.only ho,e⟩
theorem Ls.mono (h:Ls F w v A) (hg:∀ k,k < w.heap.size→G k→F k):Ls G w v A:=by obtain ⟨L,h,e⟩:=h;exact ⟨L,h.mono hg,e⟩
theorem Ls.below (h:Ls F w v A) (hb:Below w.heap.size w w'):Ls F w' v A:=by obtain ⟨L,h,e⟩:=h;exact ⟨L,h.below hb,e⟩
end
structure Rst (w:World) (r:Nat) (F:Nat→Prop) (v:Value) (L:List Ent) (d:Int):Prop where
 row:w.heap[r]? = some (.cells #[v,.int .i64 d] 50 (0,0))
 off:¬ F r
 list:Lst (fun k=>F k∨k=r) w v L
 ok:OkA (L.map Ent.abs)
def Rs (w:World) (r:Nat) (F:Nat→Prop) (A:Abs) (d:Int):Prop:=∃ v L,Rst w r F v L d∧L.map Ent.abs=A
section
variable {w w':World} {r:Nat} {F G:Nat→Prop} {v:Value} {L:List Ent} {A:Abs} {d:Int}
theorem Rst.only (h:Rst w r F v L d) (ho:Only F w w'):Rst w' r (Fx F w w') v L d :=
 ⟨(ho.block r (lt_of_block h.row) h.off).trans h.row,Fx.not h.off (lt_of_block h.row),
   (h.list.only (ho.mono fun _ _ g=>.inl g)).mono fun k _ g=>by
     rcases g with (g | g) | g
     ·exact .inl (.inl g)
     ·exact .inr g
     ·exact .inl (.inr g),h.ok⟩
theorem Rst.below (h:Rst w r F v L d) (hb:Below w.heap.size w w'):Rst w' r F v L d:=⟨(hb.block r (lt_of_block h.row)).trans h.row,h.off,h.list.below hb,h.ok⟩
theorem Rs.only (h:Rs w r F A d) (ho:Only F w w'):Rs w' r (Fx F w w') A d:=by obtain ⟨v,L,h,e⟩:=h;exact ⟨v,L,h.only ho,e⟩
theorem Rs.below (h:Rs w r F A d) (hb:Below w.heap.size w w'):Rs w' r F A d:=by obtain ⟨v,L,h,e⟩:=h;exact ⟨v,L,h.below hb,e⟩
theorem Rst.len (h:Rst w r F v L d):L.length≤64:=by have:=h.ok.len;rwa [List.length_map] at this
end
end Go.Proofs.YtljnkaodhfnbbaaGreatDoor.Fs
namespace Go.Proofs.YtljnkaodhfnbbaaGreatDoor.Fs
open Go.RowKit Go.Maps Go.Sort Go.Shelf
open Rw (Rd Ow At)
theorem sortsL (m:Nat):AnyZI.SortsIn Tryz.prog sortedL_ren Fence.wide m :=
 ⟨fun blk off cap ss W hH hblk hsz=>callsIn_wide.2 (AnyM.slices_Sort_int sortL blk off cap ss W hH hblk hsz),
  fun p cap W=>callsIn_wide.2 (AnyM.slices_Sort_int_none sortL p cap W)⟩
theorem keys_any (mb:Option Nat) (W:World):Calls Tryz.prog 129 #[.map mb] W fun e w'=>e = .returned (.func (.func 175) #[] #[.pointer (some ⟨W.heap.size,0,none⟩)])∧w'=W.alloc (.cells #[.map mb] 176) :=
 (callsIn_wide (n:=5)).1 (AnyZI.keys_in keysL Fence.wide 5 trivial rfl mb W)
def KI:Rw.Kind Int:=Rw.int .i64
theorem flat_int:∀ l:List Int,KI.flat l=l.map encZ
 | []=>rfl
 | a :: r=>by
   have:=flat_int r
   show [Value.int .i64 a] ++ KI.flat r=_
   rw [this]
   rfl
theorem keys_dat (C:List Ent):intKeys (dat C)=C.map Ent.n:=by
 show (C.map ent).map (fun p=>Go.intOf p.1)=_
 rw [List.map_map]
 rfl
theorem sort_keys {C:List Ent} (h:Srt Ent.n C) {ss:List Int} (hp:ss.Perm (intKeys (dat C))):ss.mergeSort (fun x y=>decide (x≤y))=C.map Ent.n:=by
 have e:=mergeSort_of_perm_i hp
 show ss.mergeSort leI=_
 rw [e,keys_dat];refine List.mergeSort_of_pairwise ?_;rw [List.pairwise_map];exact h.imp fun h=>by simp only [leI,decide_eq_true_eq];exact Int.le_of_lt h
theorem size_dat (C:List Ent):Maps.size (dat C)=C.length:=by unfold dat Maps.size;simp
def SortPost (w:World) (C:List Ent) (e:Ending) (w':World):Prop:=∃ v,e = .returned v∧Ow KI w' w.heap.size 3 v (C.map Ent.n)∧Below w.heap.size w w'
set_option maxHeartbeats 1000000 in
theorem sorted_any {w:World} {F:Nat→Prop} {mb:Option Nat} {C:List Ent} (M:Mp w F (.map mb) C) (hs:Srt Ent.n C) (hl:C.length≤64) :
 Calls Tryz.prog 128 #[.func (.func 175) #[] #[.pointer (some ⟨w.heap.size,0,none⟩)]] (w.alloc (.cells #[.map mb] 176)) (SortPost w C):=by
 have B0:Below w.heap.size w (w.alloc (.cells #[.map mb] 176)):=(Below.refl w.heap.size w).alloc (Nat.le_refl _) _
 rcases M with ⟨e,rfl⟩ | ⟨b,e,_,hown⟩
 ·obtain rfl:mb=none:=by injection e
  have hseq:SeqGives Fence.wide 2 Tryz.prog 175 #[.pointer (some ⟨w.heap.size,0,none⟩)] encZ (fun ss:List Int=>ss = []) 0 (w.alloc (.cells #[.map none] 176)) :=
   AnyZI.keys_gives_nil (ρ:=keysL_ren) { keysL with } Fence.wide _ trivial rfl w.heap.size _ (by simp) (by simp)
  have cS:=AnyZI.sorted_in sortedL Fence.wide 5 trivial trivial trivial trivial rfl (by omega) (sortsL _) (enters_of Tryz.func174 (by kernel_rfl) rfl) 175 #[.pointer (some ⟨w.heap.size,0,none⟩)] trivial (enters_of Tryz.func175 (by kernel_rfl) rfl) _ 0 (Nat.zero_le _) (by omega) _ hseq;refine ((callsIn_wide (n:=5)).1 cS).mono ?_;rintro e w' ⟨v,ss,rfl,rfl,hrow,hnil,hb⟩;obtain rfl:v = .slice none 0 0:=hnil.2 rfl;exact ⟨_,rfl,Ow.nil _ _ _,B0.trans (hb.mono (by simp))⟩
 ·obtain rfl:mb=some b:=by injection e
  have hbl:=hown.lt;have hseq:SeqGives Fence.wide 2 Tryz.prog 175 #[.pointer (some ⟨w.heap.size,0,none⟩)] encZ (fun ss=>ss.Perm (intKeys (dat C))) (Maps.size (dat C)) (w.alloc (.cells #[.map (some b)] 176)) :=
   AnyZI.keys_gives (ρ:=keysL_ren) { keysL with } Fence.wide _ trivial rfl (by omega) w.heap.size b C.length (dat C) _ (by simp) (by simp) (by
    obtain ⟨es,clock,hb,Ft,hs,hD⟩:=hown
    exact ⟨es,clock,(Below.heap_alloc _ _ b hbl).trans hb,Ft,hs,hD⟩)
  have cS:=AnyZI.sorted_in sortedL Fence.wide 5 trivial trivial trivial trivial rfl (by omega) (sortsL _) (enters_of Tryz.func174 (by kernel_rfl) rfl) 175 #[.pointer (some ⟨w.heap.size,0,none⟩)] trivial (enters_of Tryz.func175 (by kernel_rfl) rfl) _ _ (by rw [size_dat];unfold maxLen;omega) (by rw [size_dat];omega) _ hseq;refine ((callsIn_wide (n:=5)).1 cS).mono ?_;rintro e w' ⟨v,ss,rfl,hS,hrow,hnil,hb⟩;refine ⟨v,rfl,?_,B0.trans (hb.mono (by simp))⟩;have e1:=sort_keys hs hS;have e2:ss.length=(C.map Ent.n).length:=by rw [← keys_dat];exact hS.length_eq
  show w'.ownsRow w.heap.size 3 1 v (C.map Ent.n).length (KI.flat (C.map Ent.n))
  rw [flat_int,← e1,List.length_mergeSort];exact ownsRow_base_a hrow (by simp)
end Go.Proofs.YtljnkaodhfnbbaaGreatDoor.Fs
namespace Go.Proofs.YtljnkaodhfnbbaaGreatDoor.Fs
open Go.RowKit Go.Maps
open Fl (R4 z4 K4 rec4 rat goodF goodFB okR okL doE newR file arr4 sto2 sto4 sto2_row sto2_other sto2_below sto2_size sto2_off sto4_row sto4_other sto4_below sto4_size row_cell row_frozen clone_any own_form ret_bool at4)
open Rw (Rd Ow At)
theorem results_rec {fn:Func} {p r:Tmp} (h:fn.results=#[.cell p 42,.tmp r]) (tmps:Array Value) (w:World) (g:Nat) (y:R4) (v:Value)
 (hp:tmps.getD p undef = .pointer (some ⟨g,0,none⟩)) (hr:tmps.getD r undef=v) (h1:w.heap[g]? = some (.cells (arr4 y) 42 (0,0))) :
 (results fn tmps).run Tryz.prog w = .ok (.tuple #[rec4 y,v]) w:=by
 have e2:=run_loadVar_row (P:=Tryz.prog) w g 42 42 (arr4 y) (0,0) _ h1 Tryz.underlying42 rfl (by show _=some 4;kernel_rfl);have hp':tmps[p]?.getD undef = .pointer (some ⟨g,0,none⟩):=by simpa using hp
 have hr':tmps[r]?.getD undef=v:=by simpa using hr
 simp only [results,h]
 simp [Result.andThen,hp',hr',asAddr,e2,rec4,arr4]
section
variable {ops:Array Oper} {rest:List Oper} {o:Oper} {a:Act} {Q:Exit→Act→World→Prop} {w:World} {F:Nat→Prop} {m:Value} {C:List Ent}
theorem at_look0 (hgd:Region.wanted o (yielded ops a.tmps)=true) (p x:Operand) (hop:o.op = .lookup 176 p x false) (M:Mp w F m C) (hm:a.eval p=m) (n:Int) (hx:a.eval x = .int .i64 n) (hn:Wf n) (v:Value) (hv:lv C n=v)
 (h:wpList Tryz.prog ops Q rest (a.put o.dst v) w):wpList Tryz.prog ops Q (o :: rest) a w:=at_look hgd p x false hop hm M n hx hn (by rw [hv];exact h)
theorem at_look1 (hgd:Region.wanted o (yielded ops a.tmps)=true) (p x:Operand) (hop:o.op = .lookup 176 p x true) (M:Mp w F m C) (hm:a.eval p=m) (n:Int) (hx:a.eval x = .int .i64 n) (hn:Wf n) (v:Value) (hv:lv C n=v) (b:Bool) (hb:lb C n=b)
 (h:wpList Tryz.prog ops Q rest (a.put o.dst (.tuple #[v,.bool b])) w):wpList Tryz.prog ops Q (o :: rest) a w:=at_look hgd p x true hop hm M n hx hn (by rw [hv,hb];exact h)
end
theorem lv_none {C:List Ent} {n:Int} (h:look Ent.n n C=none):lv C n = .agg #[.int .i64 0,.slice none 0 0]:=by unfold lv;rw [h];rfl
theorem lv_some {C:List Ent} {n:Int} {c:Ent} (h:look Ent.n n C=some c):lv C n = .agg #[.int .i64 c.p,.slice c.a c.l.length c.cap]:=by unfold lv;rw [h];rfl
theorem lb_none {C:List Ent} {n:Int} (h:look Ent.n n C=none):lb C n=false:=by unfold lb;rw [h];rfl
theorem lb_some {C:List Ent} {n:Int} {c:Ent} (h:look Ent.n n C=some c):lb C n=true:=by unfold lb;rw [h];rfl
theorem run_fieldF (p:Int) (a:Option Addr) (n cap:Nat) (w:World):(Instr.field 70 (.agg #[.int .i64 p,.slice a n cap]) 1).run Tryz.prog w = .ok (.slice a n cap) w:=by kernel_rfl
def CopyPost (w:World) (p:Int) (l:List R4) (e:Ending) (w':World):Prop:=∃ u,e = .returned (file p u)∧Ow K4 w' w.heap.size 42 u l∧Below w.heap.size w w'
theorem two_files (w:World) (p:Int) (v:Value) (q:Int) (u:Value):((w.alloc (.cells #[.int .i64 p,v] 70)).alloc (.cells #[.int .i64 q,u] 70)).heap[w.heap.size]? = some (.cells #[.int .i64 p,v] 70 (0,0))∧((w.alloc (.cells #[.int .i64 p,v] 70)).alloc (.cells #[.int .i64 q,u] 70)).heap[w.heap.size+1]? = some (.cells #[.int .i64 q,u] 70 (0,0))∧Below w.heap.size w ((w.alloc (.cells #[.int .i64 p,v] 70)).alloc (.cells #[.int .i64 q,u] 70))∧((w.alloc (.cells #[.int .i64 p,v] 70)).alloc (.cells #[.int .i64 q,u] 70)).heap.size=w.heap.size+2:=by
 refine ⟨(Below.heap_alloc _ _ _ (by simp)).trans (heap_alloc_new w _),?_,((Below.refl w.heap.size w).alloc (Nat.le_refl _) _).alloc (by simp) _,by simp⟩;have:=heap_alloc_new (w.alloc (.cells #[.int .i64 p,v] 70)) (.cells #[.int .i64 q,u] 70)
 simpa using this
def Bx (g:Nat) (p:Int) (v:Value) (W:World):Prop:=W.heap[g]? = some (.cells #[.int .i64 p,v] 70 (0,0))
set_option maxHeartbeats 1000000 in
theorem copied_any (w:World) (p:Int) (v:Value) (l:List R4) (R:Rd K4 w v l) (hl:l.length≤260):Calls Tryz.prog 130 #[file p v] w (CopyPost w p l):=by
 obtain ⟨h1,h2,hB,hz⟩:=two_files w p v 0 (.slice none 0 0);have H1:=Lib.hid h1;have H2:=Lib.hid h2;have HB:=Lib.hid hB;have HZ:=Lib.hid hz;have RR:=Lib.hid R;have HL:=Lib.hid hl;obtain ⟨a,cap,rfl,_⟩:=R.slice;clear h1 h2 hB hz R hl;generalize hn:l.length=n at *;have HN:=Lib.hid hn;clear hn;unfold file at *
 go_enter Tryz.func130,Tryz.ntmps130
 go_wp2_with fail;generalize ((w.alloc (.cells #[.int .i64 p,.slice a n cap] 70)).alloc (.cells #[.int .i64 0,.slice none 0 0] 70))=W at *;have r0:=Sc.cell_in (C:=Bx w.heap.size p (.slice a n cap)) (a:=⟨w.heap.size,0,none⟩) (fun W' h=>row_cell h 0);have r1:=Sc.cell_in (C:=Bx w.heap.size p (.slice a n cap)) (a:=⟨w.heap.size,1,none⟩) (fun W' h=>row_cell h 1);have C0:Bx w.heap.size p (.slice a n cap) W.drew:=H1.out;have ne:Nonempty (Sc.In (Bx w.heap.size p (.slice a n cap))):=⟨⟨_,C0⟩⟩;refine Sc.start (Bx w.heap.size p (.slice a n cap)) [(false,0),(false,1),(false,2),(false,3),(true,4),(false,5),(true,6)] (by kernel_rfl) (by kernel_rfl) (by kernel_rfl) C0 ?_;dsimp only [Sd.picks,List.getElem?_cons_succ,List.getElem?_cons_zero]
 repeat (refine Sd.lit ?_;quiet_step (fail);refine wpQuiet_nil ?_)
 refine Sd.call (by rfl) (fun K hK=>?_);go_simp;have B0:=Lib.hid (HB.out.trans (((Below.refl W.heap.size W).drew).mono HB.out.size));refine (clone_any _ _ l (RR.out.below B0.out) (by rw [HN.out];exact HL.out)).mono ?_;rintro e w2 ⟨u,rfl,o2,b2⟩;have hzz:=HZ.out;have O2:=Lib.hid o2;have B2:=Lib.hid (B0.out.trans (b2.mono (by show w.heap.size≤W.heap.size;omega)));have G1:w2.heap[w.heap.size]? = _:=(b2.block _ (by show w.heap.size < W.heap.size;omega)).trans C0;have G2:=(b2.block (w.heap.size+1) (by show w.heap.size+1 < W.heap.size;omega)).trans H2.out;have N2:u.ownBlock≠some (w.heap.size+1):=o2.range (.inl (by show _ < W.heap.size;omega));have hWz:w.heap.size+2≤W.drew.heap.size:=by show _≤W.heap.size;omega
 obtain ⟨au,cu,rfl,_⟩:=o2.slice;refine hK _ _ (Sc.Cl.of G1) ?_;clear hK K b2 o2 B0 C0 HB H1 H2 r0 r1 RR
 repeat (refine Sd.lit ?_;quiet_step (fail);refine wpQuiet_nil ?_)
 refine Sd.call (by rfl) (fun K hK=>?_);have c0:w2.cell? ⟨w.heap.size+1,0,none⟩=some (.int .i64 0):=row_cell G2 0;have c1:w2.cell? ⟨w.heap.size+1,1,none⟩=some (.slice none 0 0):=row_cell G2 1;have f0:=row_frozen G2 0;have f1:=row_frozen G2 1;have RA:=Lib.hid (sto2_row G2 p (.slice au l.length cu));have OA:=Lib.hid (sto2_off (u:=.slice au l.length cu) O2.out N2 p);have BA:=Lib.hid (sto2_below (p:=p) (v:=.slice au l.length cu) B2.out (show w.heap.size≤w.heap.size+1 by omega));have L1:Bx w.heap.size p (.slice a n cap) (sto2 w2 (w.heap.size+1) p (.slice au l.length cu)):=sto2_other G1 (by omega);have hWy:=Lib.hid hWz;clear G1 G2 O2 B2 N2 hWz hzz HZ;go_simp;refine hK _ _ (Sc.Cl.of L1) ?_;clear hK K c0 c1 f0 f1
 show Sd.wpSd _ _ _ _ _ _ (sto2 w2 (w.heap.size+1) p (.slice au l.length cu))
 generalize sto2 w2 (w.heap.size+1) p (.slice au l.length cu)=w3 at *;refine Sd.done ?_;go_wp2
 (try simp only [Exit.inBlock,Exit.then])
 refine bodyPost_ret (v:=file p (.slice au l.length cu)) ?_ rfl ⟨_,rfl,OA.out.low (by have:=hWy.out;omega),BA.out⟩;exact results_cell_row (p:=2) rfl _ _ (w.heap.size+1) 70 _ (0,0) _ rfl RA.out Tryz.underlying70 rfl (by show _=some 2;kernel_rfl)
theorem new_any (w:World):Calls Tryz.prog 76 #[] w fun e w'=>e = .returned (.pointer (some ⟨w.heap.size,0,none⟩))∧w'=w.alloc (.cells #[.map none,.int .i64 0] 178):=by
 go_enter Tryz.func76,Tryz.ntmps76
 go_wp2
 go_ret
 exact ⟨rfl,rfl⟩
end Go.Proofs.YtljnkaodhfnbbaaGreatDoor.Fs
namespace Go.Proofs.YtljnkaodhfnbbaaGreatDoor.Fs
open Go.RowKit Go.Maps
open Fl (R4 z4 K4 rec4 rat goodF goodFB okR okL file row_cell row_frozen)
open Rw (Rd Ow At)
theorem infoE3:(Tryz.prog.info? 72).map (fun i=>(i.zero,i.size,i.bytes))=some (some (.agg #[.int .i64 0,.int .i64 0,.slice none 0 0]),3,40):=by kernel_rfl
theorem run_buildN (n p:Int) (a:Option Addr) (q cap:Nat) (w:World):(Instr.build 72 #[(0,.int .i64 n),(1,.agg #[.int .i64 p,.slice a q cap])]).run Tryz.prog w = .ok (.agg #[.int .i64 n,.int .i64 p,.slice a q cap]) w:=by kernel_rfl
theorem copied_agg (w:World) (p:Int) (v:Value) (l:List R4) (q:Nat) (R:Rd K4 w v l) (hl:l.length≤260) (hq:l.length=q):Calls Tryz.prog 130 #[.agg #[.int .i64 p,v]] w fun e w'=>∃ a cap,e = .returned (.agg #[.int .i64 p,.slice a q cap])∧Ow K4 w' w.heap.size 42 (.slice a q cap) l∧Below w.heap.size w w' :=
 (copied_any w p v l R hl).mono fun e w' ⟨u,h1,h2,h3⟩=>by
   obtain ⟨a,cap,rfl,_⟩:=h2.slice;rw [hq] at h1 h2;exact ⟨a,cap,h1,h2,h3⟩
theorem ow_far {α:Type} {K:Rw.Kind α} {w w':World} {B E T:Nat} {v:Value} {l:List α} (h:Ow K w B E v l) (hne:E≠T) (f:Rw.Far T w w'):Ow K w' B E v l:=by
 obtain ⟨h1,h2⟩:=h;refine ⟨h1,?_⟩
 rcases h2 with h2 | ⟨g,cap,cur,e,hB,hh,r⟩
 ·exact .inl h2
 ·exact .inr ⟨g,cap,cur,e,hB,f g _ _ hh hne,r⟩
def FRel (w:World) (C:List Ent) (v:Value) (k:Nat) (wr:World):Prop:=∃ L:List Ent,Ow E3 wr w.heap.size 72 v L∧L.map Ent.abs=(C.take k).map Ent.abs∧(∀ c∈L,Ow K4 wr w.heap.size 42 c.sl c.l)∧Below w.heap.size w wr
def FilesPost (w:World) (A:Abs) (e:Ending) (w':World):Prop:=∃ v,e = .returned v∧(∀ F:Nat→Prop,(∀ k,F k→k < w.heap.size)→Ls F w' v A)∧Below w.heap.size w w'
theorem ls_of {w w2 w':World} {C:List Ent} {v:Value} {A:Abs} (h:FRel w2 C v C.length w') (hA:C.map Ent.abs=A) (hb:w.heap.size≤w2.heap.size) (F:Nat→Prop) (hF:∀ k,F k→k < w.heap.size):Ls F w' v A:=by
 obtain ⟨L,o,e,r,b⟩:=h;rw [List.take_length] at e;exact ⟨L,⟨o.rd,fun _ k hk g=>by have:=(ow_new o k hk).1;have:=hF k g;omega,fun c hc=>(r c hc).rd,fun c hc _ k hk g=>by have:=(ow_new (r c hc) k hk).1;have:=hF k g;omega⟩,e.trans hA⟩
set_option maxHeartbeats 4000000 in
theorem files_any {w:World} {s:Nat} {F:Nat→Prop} {A:Abs} {d:Int} (S:St w s F A d):Calls Tryz.prog 70 #[.pointer (some ⟨s,0,none⟩)] w (FilesPost w A):=by
 obtain ⟨m,C,h,hA⟩:=S;obtain ⟨mb,rfl⟩:∃ mb,m = .map mb:=by
  rcases h.mp with ⟨e,_⟩ | ⟨b,e,_⟩
  ·exact ⟨_,e⟩
  ·exact ⟨_,e⟩
 have srt:Srt Ent.n C:=(map_srt (κ:=Ent.n) (κ':=key) abs_key).1 h.ok.srt;have c0:w.cell? ⟨s,0,none⟩=some (.map mb):=row_cell h.row 0;have SO:=Lib.hid (sorted_any h.mp srt h.len);have SS:=Lib.hid h;have HL:=Lib.hid h.len;have HS:=Lib.hid srt;have HA:=Lib.hid hA;clear h hA srt
 go_enter Tryz.func70,Tryz.ntmps70
 go_wp2_with (first
  | (go_at_call 129;refine (keys_any _ _).mono ?_;rintro e w1 ⟨rfl,rfl⟩)
  | (go_at_call 128;refine SO.out.mono ?_;rintro e w2 ⟨vk,rfl,ok,b2⟩;obtain ⟨ka,kc,rfl,hkc⟩:=ok.slice;rw [List.length_map] at ok ⊢))
 have OK:=Lib.hid ok;have B2:=Lib.hid b2;have S2:=Lib.hid (SS.out.below b2);clear c0 ok b2 SO SS hkc;generalize hn:C.length=n at *;have HN:=Lib.hid hn;clear hn
 go_loopw [3,15] (fun v i wr=>∃ k:Nat,k≤n∧i = .int .i64 k∧Hid (FRel w2 C v k wr)) (fun _ i _=>n - (intOf i).toNat)
 case atStart=>exact ⟨0,Nat.zero_le _,rfl,[],Ow.nil _ _ _,by simp,nofun,Below.refl _ _⟩
 case round =>
  obtain ⟨k,hk,rfl,R⟩:=hrel
  by_cases hlt:k < n
  ·obtain ⟨L,oL,eL,rL,bL⟩:=R.out
   have hkC:k < C.length:=by have:=HN.out;omega
   obtain ⟨⟨cn,cp,ca,cc,cl⟩,hc⟩:∃ c:Ent,C[k]? = some c:=⟨_,List.getElem?_eq_getElem hkC⟩;obtain ⟨g,off,ek,hK⟩:∃ g cap,(Value.slice ka n kc) = .slice (some ⟨g,0,none⟩) n cap∧w2.cell? ⟨g,k,none⟩=some (.int .i64 cn):=by
    obtain ⟨g,cap,e1,_,_,_,_,_,hAt⟩:=OK.out.form (by rw [List.length_map];omega);rw [List.length_map,HN.out] at e1;have c:=hAt k (by rw [List.length_map];exact hkC) 0 (.int .i64 ((C.map Ent.n).getD k 0)) rfl;have e0:(C.map Ent.n).getD k 0=cn:=by rw [List.getD_eq_getElem?_getD,List.getElem?_map,hc];rfl
    rw [e0] at c;have e:0+k * KI.n+0=k:=by show 0+k * 1+0=k;omega
    rw [e] at c;exact ⟨g,cap,e1,c⟩
   obtain ⟨rfl,rfl⟩:ka=some ⟨g,0,none⟩∧kc=off:=by injection ek with e1 _ e3;exact ⟨e1,e3⟩
   have kr:=(bL.cell (World.block_lt_of_cell? _ _ hK)).trans hK;have SR:=S2.out.below bL;have c0:wr.cell? ⟨s,0,none⟩=some (.map mb):=row_cell SR.row 0;have M:=Lib.hid SR.mp;have hin:=List.mem_of_getElem? hc;have hl:look Ent.n cn C=some ⟨cn,cp,ca,cc,cl⟩:=look_at HS.out hin;have LV:=Lib.hid (lv_some hl);obtain ⟨ho,hg,-,-,hnm,-⟩:=SR.find hl;have WN:Hid (Wf cn):=WalkArith.wf_i64 (by omega);have RC:=Lib.hid (ho.rd);have GL:Hid (cl.length≤260):=by have:=hg.2.2.2.1;show cl.length≤260;simp only at this;omega
   have TK:Hid (∀ e:Ent,e.abs=(cn,cp,cl)→(L ++ [e]).map Ent.abs=(C.take (k+1)).map Ent.abs):=fun e he=>by
    rw [List.take_add_one,hc,List.map_append,List.map_append,eL]
    show _ ++ [e.abs]=_ ++ [(cn,cp,cl)]
    rw [he]
   have LL:Hid (L.length≤64):=by
    have e:=congrArg List.length eL;rw [List.length_map,List.length_map,List.length_take] at e;have:=HL.out
    show _≤64
    omega
   have OL:=Lib.hid oL;have RL:=Lib.hid rL;have BL:=Lib.hid bL;obtain ⟨va,vc,ev,-⟩:=oL.slice;clear R hK ek SR hin hl ho hg hnm oL rL bL eL hkC hc;unfold Ent.sl at RC;simp only at *;generalize hq:cl.length=q at *;have HQ:=Lib.hid hq;clear hq;generalize hLl:L.length=Ln at *;have HLl:=Lib.hid hLl;subst ev;clear hLl;have CA:=fun W (hb:Below wr.heap.size wr W)=>copied_agg W cp (.slice ca q cc) cl q (by have:=RC.out.below hb;exact this) (by rw [HQ.out];exact GL.out) HQ.out;have CC:=Lib.hid CA;clear CA;have hF:=run_fieldF;have hBN:=run_buildN;have hn64:n≤64:=HL.out;have hw2:Hid (w2.heap.size≤wr.heap.size):=BL.out.size
   go_wp2_with (first
    | (at_lookup;refine at_look0 rfl _ _ rfl M.out rfl _ rfl WN.out _ LV.out ?_)
    | (go_at_call 130;refine (CC.out _ (Below.refl _ _)).mono ?_;rintro e w3 ⟨ua,uc,rfl,o3,b3⟩;have O3:=Lib.hid o3;have B3:=Lib.hid b3;clear o3 b3)
    | (at_builtin;refine Rw.push_far (K:=E3) Tryz.underlying47 infoE3 rfl (by omega) rfl _ _ rfl w2.heap.size _ L ?e0 ((OL.out.keep B3.out).alloc _) _ ⟨cn,cp,ua,uc,cl⟩ rfl ?d1 ?d2 ?d3 ?_))
   case e0=>rfl
   case d1 =>
    intro j u hu
    unfold E3 Ent.sl at hu;simp only [HQ.out] at hu
    match j,hu with
    | 0,hu=>simp at hu;subst hu;go_simp
    | 1,hu=>simp at hu;subst hu;go_simp
    | 2,hu=>simp at hu;subst hu;go_simp
    | j+3,hu=>simp at hu
   case d2=>rw [HLl.out];have:=LL.out;omega
   case d3=>have:=B3.out.size;have:=hw2.out;simp;omega
   intro v' w4 o4 b4 f4
   have N2:Hid (FRel w2 C v' (k+1) w4):=by
    have hs3:=B3.out.size;have hs2:=hw2.out;refine ⟨L ++ [⟨cn,cp,ua,uc,cl⟩],o4,TK.out _ rfl,fun c hc=>?_,((BL.out.trans (B3.out.mono hs2)).alloc (by omega) _).trans b4⟩
    rcases List.mem_append.1 hc with hc | hc
    ·exact ow_far (((RL.out c hc).keep B3.out).alloc _) (by decide) f4
    ·obtain rfl:c=_:=List.mem_singleton.1 hc
     have o:Ow K4 w3 wr.heap.size 42 (⟨cn,cp,ua,uc,cl⟩:Ent).sl cl:=by unfold Ent.sl;rw [HQ.out];exact O3.out
     exact ow_far ((o.low hs2).alloc _) (by decide) f4
   clear o4 b4 f4;go_wp2
   go_roundw
   case rel=>exact ⟨k+1,by omega,by go_num,N2⟩
   case measure=>simp [intOf];omega
  ·obtain rfl:k=n:=by omega
   have E:=Lib.hid (fun (F:Nat→Prop) (hF:∀ k,F k→k < w.heap.size)=>ls_of (w:=w) (by rw [HN.out];exact R.out) HA.out B2.out.size F hF);have BR:Hid (Below w2.heap.size w2 wr):=by obtain ⟨_,_,_,_,b⟩:=R.out;exact b
   clear R;go_wp2
   go_ret
   exact ⟨_,rfl,E.out,B2.out.trans (BR.out.mono B2.out.size)⟩
end Go.Proofs.YtljnkaodhfnbbaaGreatDoor.Fs
namespace Go.Proofs.YtljnkaodhfnbbaaGreatDoor.Fs
open Go.RowKit Go.Maps
open Fl (R4 z4 K4 rec4 rat goodF goodFB okR okL doE newR file arr4 sto2 sto4 sto2_row sto2_other sto2_below sto2_size sto2_off sto4_row sto4_other sto4_below sto4_size row_cell row_frozen own_form ret_bool at4)
open Rw (Rd Ow At)
theorem gB_none {C:List Ent} {n r:Int} (h:look Ent.n n C=none):gB (C.map Ent.abs) n r=false:=by unfold gB;rw [abs_look,h];rfl
theorem gB_some {C:List Ent} {n r:Int} {c:Ent} (h:look Ent.n n C=some c):gB (C.map Ent.abs) n r=decide (0≤r∧r < c.l.length):=by unfold gB;rw [abs_look,h];rfl
theorem gV_none {C:List Ent} {n r:Int} (h:look Ent.n n C=none):gV (C.map Ent.abs) n r=z4:=by unfold gV;rw [abs_look,h];rfl
theorem gV_some {C:List Ent} {n r:Int} {c:Ent} (h:look Ent.n n C=some c):gV (C.map Ent.abs) n r=if 0≤r∧r < c.l.length then rat c.l r.toNat else z4:=by unfold gV;rw [abs_look,h];rfl
set_option maxHeartbeats 400000 in
theorem has_any {w:World} {s:Nat} {F:Nat→Prop} {m:Value} {C:List Ent} {d:Int} (S:Sto w s F m C d) {n:Int} (hn:Wf n) (r:Int) :
 Calls Tryz.prog 85 #[.pointer (some ⟨s,0,none⟩),.int .i64 n,.int .i64 r] w fun e w'=>e = .returned (.bool (gB (C.map Ent.abs) n r))∧Below w.heap.size w w':=by
 have hF:=run_fieldF;have c0:w.cell? ⟨s,0,none⟩=some m:=row_cell S.row 0;have M:=Lib.hid S.mp;have HN:=Lib.hid hn;clear S hn
 cases hk:look Ent.n n C with
 | none =>
   have E:=Lib.hid (gB_none (r:=r) hk);have L:=Lib.hid (lv_none hk);clear hk
   by_cases hr:0≤r
   ·go_enter Tryz.func85,Tryz.ntmps85
    go_wp2_with (at_lookup;refine at_look0 rfl _ _ rfl M.out rfl _ rfl HN.out _ L.out ?_)
    go_ret
    exact ⟨ret_bool (by rw [E.out];exact decide_eq_false (by omega)),Below.refl _ _⟩
   ·go_enter Tryz.func85,Tryz.ntmps85
    go_wp2_with (at_lookup;refine at_look0 rfl _ _ rfl M.out rfl _ rfl HN.out _ L.out ?_)
    go_ret
    exact ⟨ret_bool E.out.symm,Below.refl _ _⟩
 | some c =>
   have E:=Lib.hid (gB_some (r:=r) hk);have L:=Lib.hid (lv_some hk);clear hk;generalize c.l.length=k at *
   by_cases hr:0≤r
   ·by_cases h2:r < (k:Int)
    ·go_enter Tryz.func85,Tryz.ntmps85
     go_wp2_with (at_lookup;refine at_look0 rfl _ _ rfl M.out rfl _ rfl HN.out _ L.out ?_)
     go_ret
     exact ⟨ret_bool (by rw [E.out,decide_eq_true ⟨hr,h2⟩]),Below.refl _ _⟩
    ·go_enter Tryz.func85,Tryz.ntmps85
     go_wp2_with (at_lookup;refine at_look0 rfl _ _ rfl M.out rfl _ rfl HN.out _ L.out ?_)
     go_ret
     exact ⟨ret_bool (by rw [E.out,decide_eq_false (fun h=>by omega)]),Below.refl _ _⟩
   ·go_enter Tryz.func85,Tryz.ntmps85
    go_wp2_with (at_lookup;refine at_look0 rfl _ _ rfl M.out rfl _ rfl HN.out _ L.out ?_)
    go_ret
    exact ⟨ret_bool (by rw [E.out,decide_eq_false (fun h=>by omega)]),Below.refl _ _⟩
def GetPost (w:World) (y:R4) (b:Bool) (e:Ending) (w':World):Prop:=e = .returned (.tuple #[rec4 y,.bool b])∧Below w.heap.size w w'
theorem one_rec (w:World):(w.alloc (.cells (arr4 z4) 42)).heap[w.heap.size]? = some (.cells (arr4 z4) 42 (0,0))∧Below w.heap.size w (w.alloc (.cells (arr4 z4) 42))∧(w.alloc (.cells (arr4 z4) 42)).heap.size=w.heap.size+1:=⟨heap_alloc_new w _,(Below.refl w.heap.size w).alloc (Nat.le_refl _) _,by simp⟩
set_option maxHeartbeats 400000 in
theorem get_no (w:World) (s:Value) (n r:Int) (hh:∀ W,Below w.heap.size w W→Calls Tryz.prog 85 #[s,.int .i64 n,.int .i64 r] W fun e w'=>e = .returned (.bool false)∧Below W.heap.size W w') :
 Calls Tryz.prog 31 #[s,.int .i64 n,.int .i64 r] w (GetPost w z4 false):=by
 obtain ⟨h1,hB,hz⟩:=one_rec w;have H1:=Lib.hid h1;have HB:=Lib.hid hB;have HH:=Lib.hid (hh _ hB);have HZ:=Lib.hid hz;clear h1 hB hz hh;unfold arr4 z4 at *
 go_enter Tryz.func31,Tryz.ntmps31
 go_wp2_with fail;generalize (w.alloc (.cells #[.int .u8 0,.int .u8 0,.int .u8 0,.int .u8 0] 42))=W at *;refine HH.out.mono ?_;rintro e w1 ⟨rfl,b1⟩;have hz:=HZ.out;have G:w1.heap[w.heap.size]? = some (.cells (arr4 z4) 42 (0,0)):=(b1.block _ (by omega)).trans H1.out;have B1:=Lib.hid (HB.out.trans (b1.mono HB.out.size));have d0:w1.cell? ⟨w.heap.size,0,none⟩=some (.int .u8 0):=row_cell G 0;have d1:w1.cell? ⟨w.heap.size,1,none⟩=some (.int .u8 0):=row_cell G 1;have d2:w1.cell? ⟨w.heap.size,2,none⟩=some (.int .u8 0):=row_cell G 2;have d3:w1.cell? ⟨w.heap.size,3,none⟩=some (.int .u8 0):=row_cell G 3;have k0:=row_frozen G 0;have k1:=row_frozen G 1;have k2:=row_frozen G 2;have k3:=row_frozen G 3;have R2:=Lib.hid (sto4_row G z4);have B2:=Lib.hid (sto4_below (o:=0) (r:=z4) B1.out (show w.heap.size≤w.heap.size by omega));clear b1 HH HB H1 HZ hz G B1;go_wp2
 (try simp only [Exit.inBlock,Exit.then])
 exact bodyPost_ret (results_rec (p:=6) (r:=7) rfl _ _ w.heap.size z4 (.bool false) rfl rfl R2.out) rfl ⟨rfl,B2.out⟩
set_option maxHeartbeats 400000 in
theorem get_yes {w:World} {s:Nat} {F:Nat→Prop} {m:Value} {C:List Ent} {d:Int} (S:Sto w s F m C d) {n:Int} (hn:Wf n) (k:Nat) {c:Ent} (hc:look Ent.n n C=some c) (hk:k < c.l.length) :
 Calls Tryz.prog 31 #[.pointer (some ⟨s,0,none⟩),.int .i64 n,.int .i64 (k:Int)] w (GetPost w (rat c.l k) true):=by
 obtain ⟨h1,hB,hz⟩:=one_rec w;have H1:=Lib.hid h1;have HB:=Lib.hid hB;have HZ:=Lib.hid hz;have hh:=has_any (S.below hB) hn (k:Int);rw [gB_some hc,decide_eq_true (⟨by omega,by omega⟩:0≤(k:Int)∧(k:Int) < c.l.length)] at hh;have HH:=Lib.hid hh;have SS:=Lib.hid S;have HN:=Lib.hid hn;have L:=Lib.hid (lv_some hc);obtain ⟨ho,_⟩:=S.find hc;obtain ⟨g,cap,e1,_,_,_,_,_,hA⟩:=ho.form (by omega);obtain ⟨cn,cp,ca,ccap,cl⟩:=c;obtain ⟨rfl,rfl⟩:ca=some ⟨g,0,none⟩∧ccap=cap:=by
  unfold Ent.sl at e1;injection e1 with e1 e2 e3;exact ⟨e1,e3⟩
 have A4':=at4 hA k hk;rw [Nat.zero_add] at A4';have A4:=Lib.hid A4';clear A4';have hk':k < cl.length:=hk;clear h1 hB hz hh ho e1 hA hc S hn hk;simp only at *;generalize rat cl k=y at *;generalize cl.length=q at *;have y4:Hid (arr4 y=#[.int .u8 y.1,.int .u8 y.2.1,.int .u8 y.2.2.1,.int .u8 y.2.2.2]):=rfl;unfold arr4 z4 at H1 HB HZ HH
 go_enter Tryz.func31,Tryz.ntmps31
 go_wp2_with fail;generalize (w.alloc (.cells #[.int .u8 0,.int .u8 0,.int .u8 0,.int .u8 0] 42))=W at *;refine HH.out.mono ?_;rintro e w1 ⟨rfl,b1⟩;have hz:=HZ.out;have G:w1.heap[w.heap.size]? = some (.cells (arr4 z4) 42 (0,0)):=(b1.block _ (by omega)).trans H1.out;have B1:=Lib.hid (HB.out.trans (b1.mono HB.out.size));have S1:=SS.out.below B1.out;have M1:=Lib.hid S1.mp;have c0:w1.cell? ⟨s,0,none⟩=some m:=row_cell S1.row 0;have hF:=run_fieldF;have q0:=(B1.out.cell (World.block_lt_of_cell? _ _ A4.out.1)).trans A4.out.1;have q1:=(B1.out.cell (World.block_lt_of_cell? _ _ A4.out.2.1)).trans A4.out.2.1;have q2:=(B1.out.cell (World.block_lt_of_cell? _ _ A4.out.2.2.1)).trans A4.out.2.2.1;have q3:=(B1.out.cell (World.block_lt_of_cell? _ _ A4.out.2.2.2)).trans A4.out.2.2.2;have d0:w1.cell? ⟨w.heap.size,0,none⟩=some (.int .u8 0):=row_cell G 0;have d1:w1.cell? ⟨w.heap.size,1,none⟩=some (.int .u8 0):=row_cell G 1;have d2:w1.cell? ⟨w.heap.size,2,none⟩=some (.int .u8 0):=row_cell G 2;have d3:w1.cell? ⟨w.heap.size,3,none⟩=some (.int .u8 0):=row_cell G 3;have k0:=row_frozen G 0;have k1:=row_frozen G 1;have k2:=row_frozen G 2;have k3:=row_frozen G 3;have R2:=Lib.hid (sto4_row G y);have B2:=Lib.hid (sto4_below (o:=0) (r:=y) B1.out (show w.heap.size≤w.heap.size by omega));clear b1 HH HB H1 HZ hz G B1 S1 SS A4
 go_wp2_with (at_lookup;refine at_look0 rfl _ _ rfl M1.out rfl _ rfl HN.out _ L.out ?_)
 (try simp only [Exit.inBlock,Exit.then])
 exact bodyPost_ret (results_rec (p:=6) (r:=7) rfl _ _ w.heap.size y (.bool true) rfl rfl R2.out) rfl ⟨rfl,B2.out⟩
theorem get_any {w:World} {s:Nat} {F:Nat→Prop} {m:Value} {C:List Ent} {d:Int} (S:Sto w s F m C d) {n:Int} (hn:Wf n) (r:Int) :
 Calls Tryz.prog 31 #[.pointer (some ⟨s,0,none⟩),.int .i64 n,.int .i64 r] w (GetPost w (gV (C.map Ent.abs) n r) (gB (C.map Ent.abs) n r)):=by
 cases hk:look Ent.n n C with
 | none =>
   rw [gV_none hk,gB_none hk];refine get_no w _ n r fun W hb=>?_;have:=has_any (S.below hb) hn r
   rwa [gB_none hk] at this
 | some c =>
   by_cases hr:0≤r∧r < c.l.length
   ·obtain ⟨k,rfl⟩:∃ k:Nat,r=k:=⟨r.toNat,by omega⟩
    rw [gV_some hk,gB_some hk,if_pos hr,decide_eq_true hr,Int.toNat_natCast];exact get_yes S hn k hk (by omega)
   ·rw [gV_some hk,gB_some hk,if_neg hr,decide_eq_false hr]
    refine get_no w _ n r fun W hb=>?_;have:=has_any (S.below hb) hn r
    rwa [gB_some hk,decide_eq_false hr] at this
end Go.Proofs.YtljnkaodhfnbbaaGreatDoor.Fs
namespace Go.Proofs.YtljnkaodhfnbbaaGreatDoor.Fs
open Go.RowKit Go.Maps
open Fl (R4 z4 K4 rec4 rat goodF goodFB okR okL doE newR file arr4 sto4 sto4_own sto4_other sto4_size sto4_below own4 row_cell)
open Rw (Rd Ow At)
theorem apart_symm {c e:Ent} (h:apart c e):apart e c:=fun k hk hc=>h k hc hk
theorem pw_mem {α:Type} {R:α→α→Prop} (sy:∀ {x y},R x y→R y x):∀ {l:List α},l.Pairwise R→∀ {x y},x∈l→y∈l→x≠y→R x y
 | [],_,_,_,hx,_,_=>by cases hx
 | a :: r,h,x,y,hx,hy,hne=>by
   obtain ⟨h1,h2⟩:=List.pairwise_cons.1 h
   rcases List.mem_cons.1 hx with ex | hx <;> rcases List.mem_cons.1 hy with ey | hy
   ·exact (hne (ex.trans ey.symm)).elim
   ·rw [ex];exact h1 _ hy
   ·rw [ey];exact sy (h1 _ hx)
   ·exact pw_mem sy h2 hx hy hne
theorem pw_ins {α:Type} {κ:α→Int} {R:α→α→Prop} (sy:∀ {x y},R x y→R y x) {c:α} : ∀ {l:List α},l.Pairwise R→(∀ x∈l,R c x)→(ins κ c l).Pairwise R
 | [],_,_=>by simp [ins]
 | y :: r,h,hc=>by
   obtain ⟨h1,h2⟩:=List.pairwise_cons.1 h;unfold ins
   split
   ·exact List.pairwise_cons.2 ⟨hc,h⟩
   ·refine List.pairwise_cons.2 ⟨fun z hz=>?_,pw_ins sy h2 fun x hx=>hc x (List.mem_cons_of_mem _ hx)⟩
    rcases mem_ins.1 hz with rfl | hz
    ·exact sy (hc y List.mem_cons_self)
    ·exact h1 z hz
theorem pw_put {c:Ent} {C:List Ent} (h:C.Pairwise apart) (hc:∀ e∈C,e.n≠c.n→apart c e):(put Ent.n c C).Pairwise apart:=by
 unfold put;refine pw_ins apart_symm (h.filter _) fun e he=>?_;obtain ⟨h1,h2⟩:=List.mem_filter.1 he;exact hc e h1 (by simpa using h2)
section
variable {w w':World} {s:Nat} {F F':Nat→Prop} {m m':Value} {C:List Ent} {d d':Int} {c:Ent}
theorem Sto.put (h:Sto w s F m C d) (row:w'.heap[s]? = some (.cells #[m',.int .i64 d'] 178 (0,0))) (hF:∀ k,F k→F' k) (mp:Mp w' F' m' (put Ent.n c C)) (old:∀ e∈C,e.n≠c.n→Ow K4 w' 0 42 e.sl e.l)
 (new:Ow K4 w' 0 42 c.sl c.l) (mine:∀ k,c.sl.ownBlock=some k→F' k) (far:∀ e∈C,e.n≠c.n→Fs.apart c e) (hn:0≤c.n∧c.n≤63) (hg:goodF c.p c.l) (hl:okL c.l) (low:∀ k,F' k→k < w'.heap.size):Sto w' s F' m' (Fs.put Ent.n c C) d':=by
 refine ⟨row,hF s h.foot,mp,fun e he=>?_,fun e he k hk=>?_,pw_put h.apart far,?_,low⟩
 ·rcases mem_put.1 he with rfl | ⟨he,hne⟩
  ·exact new
  ·exact old e he hne
 ·rcases mem_put.1 he with rfl | ⟨he,hne⟩
  ·exact mine k hk
  ·exact hF k (h.mine e he k hk)
 ·rw [abs_put]
  exact h.ok.put hn hg hl
def Ent.recs (c:Ent) (l:List R4):Ent:=⟨c.n,c.p,c.a,c.cap,l⟩
theorem recs_sl (c:Ent) {l:List R4} (h:l.length=c.l.length):(c.recs l).sl=c.sl:=by unfold Ent.recs Ent.sl;rw [h]
theorem dat_recs {i:Nat} (hi:C[i]? = some c) {l:List R4} (h:l.length=c.l.length):dat (C.set i (c.recs l))=dat C:=by
 unfold dat;rw [List.map_set];have:ent (c.recs l)=ent c:=by unfold ent Ent.file;rw [recs_sl c h];rfl
 rw [this]
 congr 1
 refine List.ext_getElem? fun j=>?_;rw [List.getElem?_set]
 split
 ·rename_i hij
  subst hij;rw [List.getElem?_map,hi];have:=(List.getElem?_eq_some_iff.1 hi).1
  simp [this]
 ·rfl
theorem Sto.write {g n cap:Nat} {k:Nat} {x:R4} (h:Sto w s F m C d) (hc:c∈C) (hs:c.sl = .slice (some ⟨g,0,none⟩) n cap) (hk:k < c.l.length) (h0:k≠0) (hx:okR x) :
 Sto (sto4 w g (k * 4) x) s F m (Fs.put Ent.n (c.recs (c.l.set k x)) C) d∧Only F w (sto4 w g (k * 4) x):=by
 have hg:F g:=h.mine c hc g (by rw [hs];rfl);obtain ⟨n1,n2⟩:=h.off hc;rw [hs] at n1 n2;have ng:s≠g:=fun e=>n1 (by rw [e];rfl);have hsl:(c.recs (c.l.set k x)).sl=c.sl:=recs_sl c (by rw [List.length_set]);have own:=h.own c hc;rw [hs] at own;have hn:n=c.l.length:=by unfold Ent.sl at hs;injection hs with _ hs _;exact hs.symm
 have hcm:c.abs∈C.map Ent.abs:=List.mem_map_of_mem hc;obtain ⟨i,hi⟩:=List.getElem?_of_mem hc;have srt:Srt Ent.n C:=(map_srt (κ:=Ent.n) (κ':=key) abs_key).1 h.ok.srt;have hput:Fs.put Ent.n (c.recs (c.l.set k x)) C=C.set i (c.recs (c.l.set k x)):=put_set srt hi rfl;have hdat:dat (Fs.put Ent.n (c.recs (c.l.set k x)) C)=dat C:=by rw [hput];exact dat_recs hi (by rw [List.length_set])
 have off:∀ e∈C,e.n≠c.n→Fs.apart c e:=fun e he hne=>pw_mem apart_symm h.apart hc he fun e'=>hne (by rw [e']);have hGood:goodF c.p (c.l.set k x):=good_set (h.ok.good _ hcm) h0;have hOk:okL (c.l.set k x):=okL_set (h.ok.ok _ hcm) hx;have hMp:Mp (sto4 w g (k * 4) x) F m (Fs.put Ent.n (c.recs (c.l.set k x)) C):=by
  have M:Mp (sto4 w g (k * 4) x) F m C:=h.mp.kept fun b hb=>sto4_other rfl fun e=>n2 b hb (by rw [e];rfl)
  rcases M with ⟨rfl,rfl⟩ | ⟨b,rfl,hF,hm⟩
  ·cases hc
  ·refine .inr ⟨b,rfl,hF,?_⟩
   rw [hdat,hput,List.length_set];exact hm
 have hRow:=sto4_other (g:=g) (o:=k * 4) (r:=x) h.row ng;have hOld:∀ e∈C,e.n≠(c.recs (c.l.set k x)).n→Ow K4 (sto4 w g (k * 4) x) 0 42 e.sl e.l:=fun e he hne=>by
  have o:=h.own e he;have a:=off e he hne g (by rw [hs];rfl);exact Fl.sto4_off o a x
 have hNew:Ow K4 (sto4 w g (k * 4) x) 0 42 (c.recs (c.l.set k x)).sl (c.l.set k x):=by
  rw [hsl,hs];exact sto4_own own hn k hk x
 refine ⟨h.put hRow (fun k hk=>hk) hMp hOld hNew (fun j hj=>h.mine c hc j (by rw [← hsl];exact hj)) (fun e he hne j hj=>off e he hne j (by rw [← hsl];exact hj)) (h.ok.nm _ hcm) hGood hOk (by rw [sto4_size];exact h.low),?_⟩;have O1:∀ W:World,∀ o v,Only F W (W.setCell ⟨g,o,none⟩ v):=fun W o v=>Only.set F W hg v;unfold sto4;exact (((O1 _ _ _).trans (O1 _ _ _) fun _ _ g=>g).trans (O1 _ _ _) fun _ _ g=>g).trans (O1 _ _ _) fun _ _ g=>g
end
end Go.Proofs.YtljnkaodhfnbbaaGreatDoor.Fs
