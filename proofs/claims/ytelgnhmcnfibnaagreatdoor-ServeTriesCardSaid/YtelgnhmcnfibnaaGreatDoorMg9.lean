import Derived.Test.YtelgnhmcnfibnaaGreatDoorMg8
import Derived.Test.YtelgnhmcnfibnaaGreatDoorMg1
import Derived.Deep.Cut
import Derived.Shelf.Abstract
import Derived.Great.BuildSlice
import Derived.Test.YtelgnhmcnfibnaaGreatDoorMg7
import Derived.Test.YtelgnhmcnfibnaaGreatDoorRows
import Derived.LaidHandle
import Derived.LaidLaws
import Derived.LaidMore
import Derived.Stop.Joined
import Derived.Test.YtelgnhmcnfibnaaGreatDoorMg6
import Derived.ProofKit
import Derived.OpenShut
import Derived.ChangeOld
import Derived.Deep.Slices
import Derived.WideShapes
set_option maxRecDepth 100000
namespace Go.Proofs.YtelgnhmcnfibnaaGreatDoor.Ro
open Go.RowKit
open Rw (Rd Ow At)
open Fl (R4 z4 rec4 K4 okR hdr rat file ret_bool at_bool at4 row_cell row_frozen newP newL sto4 sto4_own sto4_other sto4_below sto2 sto2_row sto2_below sto2_off)
attribute [local irreducible] Sd.wpSd wpQuiet
structure FRel (w:World) (h:R4) (l:List E5) (g gF N cap k:Nat) (wr:World):Prop where
 row:wr.heap[gF]? = some (.cells #[.int .i64 3,.slice (some ⟨g,0,none⟩) N cap] 71 (0,0))
 res:wr.heap[w.heap.size]? = some (.cells #[.int .i64 0,.slice none 0 0] 71 (0,0))
 own:Ow K4 wr (w.heap.size+1) 26 (.slice (some ⟨g,0,none⟩) N cap) (part h l k)
 bel:Below w.heap.size w wr
end Go.Proofs.YtelgnhmcnfibnaaGreatDoor.Ro
namespace Go.Proofs.YtelgnhmcnfibnaaGreatDoor.Ck
open Go.RowKit
open Ro (E5 z5 eat ent K5 mayB mayP)
open Rw (Rd Ow At)
open Fl (ret_bool at_bool row_cell row_frozen file)
attribute [local irreducible] Sd.wpSd wpQuiet
def no (_:Nat):Int:=0
end Go.Proofs.YtelgnhmcnfibnaaGreatDoor.Ck
namespace Go.Proofs.YtelgnhmcnfibnaaGreatDoor.Ck
open Go.RowKit
open Ro (E5 z5 eat ent K5 mayB mayP)
open Rw (Rd Ow At)
open Fl (ret_bool at_bool row_cell row_frozen file)
attribute [local irreducible] Sd.wpSd wpQuiet
end Go.Proofs.YtelgnhmcnfibnaaGreatDoor.Ck
namespace Go.Proofs.YtelgnhmcnfibnaaGreatDoor.Ck
open Go.RowKit
open Ro (E5 z5 eat ent K5)
open Rw (Rd Ow At)
open Fl (ret_bool at_bool row_cell row_frozen)
end Go.Proofs.YtelgnhmcnfibnaaGreatDoor.Ck
namespace Go.Proofs.YtelgnhmcnfibnaaGreatDoor.Sg
open Go.RowKit
open Sd (light light_value)
open Sc (In Cl)
structure Fl where
 idx:Nat
 slot:Nat
 src:Nat
 val:Value
 ty:TypeId
def Fl.cs (f:Fl):Array Value:=#[f.val]
def sl1 (g:Nat):Value:=.slice (some ⟨g,0,none⟩) 1 1
theorem sl1_inj {g h:Nat} : sl1 g=sl1 h↔g=h:=⟨fun e=>by unfold sl1 at e;injection e with e;injection e with e;injection e,fun e=>by rw [e]⟩
def fill (F:List Fl) (x:Nat→Value) (a:Act):Act:=F.foldl (fun a f=>a.put (some f.slot) (x f.slot)) a
theorem put_comm (a:Act) {d e:Nat} (h:d≠e) (u v:Value):(a.put (some d) u).put (some e) v=(a.put (some e) v).put (some d) u:=by
 simp only [Act.put];rw [Array.setIfInBounds_comm _ _ h]
theorem put_put (a:Act) (d:Nat) (u v:Value):(a.put (some d) u).put (some d) v=a.put (some d) v:=by
 simp only [Act.put,Array.setIfInBounds_setIfInBounds]
theorem fill_put (x:Nat→Value) (dst:Option Nat) (v:Value):∀ (F:List Fl) (a:Act),(∀ f∈F,dst≠some f.slot)→(fill F x a).put dst v=fill F x (a.put dst v)
 | [],a,_=>rfl
 | f :: r,a,h=>by
   have ih:=fill_put x dst v r (a.put (some f.slot) (x f.slot)) fun g hg=>h g (List.mem_cons_of_mem _ hg)
   show (fill r x (a.put (some f.slot) (x f.slot))).put dst v=fill r x ((a.put dst v).put (some f.slot) (x f.slot))
   rw [ih]
   cases dst with
   | none=>rfl
   | some d=>rw [put_comm a (fun e=>h f (List.mem_cons_self ..) (by rw [e])) (x f.slot) v]
theorem fill_congr {x y:Nat→Value} : ∀ (F:List Fl) (a:Act),(∀ f∈F,x f.slot=y f.slot)→fill F x a=fill F y a
 | [],_,_=>rfl
 | f :: r,a,h=>by
   show fill r x (a.put (some f.slot) (x f.slot))=fill r y (a.put (some f.slot) (y f.slot))
   rw [h f (List.mem_cons_self ..),fill_congr r _ fun g hg=>h g (List.mem_cons_of_mem _ hg)]
def upd (x:Nat→Value) (s:Nat) (v:Value) (k:Nat):Value:=if k=s then v else x k
theorem fill_set (x:Nat→Value) (s:Nat) (v:Value):∀ (F:List Fl) (a:Act),(F.map (·.slot)).Nodup→(∃ f∈F,f.slot=s)→(fill F x a).put (some s) v=fill F (upd x s v) a
 | [],a,_,h=>by obtain ⟨_,h,_⟩:=h;cases h
 | f :: r,a,hn,h=>by
   rw [List.map_cons,List.nodup_cons] at hn
   show (fill r x (a.put (some f.slot) (x f.slot))).put (some s) v=fill r (upd x s v) (a.put (some f.slot) (upd x s v f.slot))
   by_cases e:f.slot=s
   ·have hne:∀ g∈r,g.slot≠s:=fun g hg e'=>hn.1 (List.mem_map.2 ⟨g,hg,by rw [e,e']⟩)
    rw [fill_put x (some s) v r _ fun g hg e'=>hne g hg (Option.some.inj e').symm,e,put_put];rw [show upd x s v s=v by simp [upd]];exact fill_congr r _ fun g hg=>by simp [upd,hne g hg]
   ·obtain ⟨g,hg,hs⟩:=h
    have hg':g∈r:=by
     rcases List.mem_cons.1 hg with rfl | k
     ·exact absurd hs e
     ·exact k
    rw [show upd x s v f.slot=x f.slot by simp [upd,e]];exact fill_set x s v r _ hn.2 ⟨g,hg',hs⟩
def marks (L:Array Bool) (d:List Nat):Array Bool:=d.foldl (fun L i=>L.setIfInBounds i true) L
theorem marks_get:∀ (d:List Nat) (L:Array Bool) (k:Nat),(marks L d)[k]? = if k∈d then (L[k]?).map (fun _=>true) else L[k]?
 | [],L,k=>by simp [marks]
 | i :: r,L,k=>by
   show (marks (L.setIfInBounds i true) r)[k]? = _
   rw [marks_get r,Array.getElem?_setIfInBounds]
   by_cases hi:i=k
   ·subst hi
    by_cases hl:i < L.size
    ·simp [hl]
    ·simp [hl]
   ·have hk:k≠i:=fun e=>hi e.symm
    simp [hi,hk]
theorem marks_size:∀ (d:List Nat) (L:Array Bool),(marks L d).size=L.size
 | [],_=>rfl
 | j :: r,L=>by show (marks (L.setIfInBounds j true) r).size=_;rw [marks_size r,Array.size_setIfInBounds]
theorem marks_set (L:Array Bool) (d:List Nat) (i:Nat):(marks L d).setIfInBounds i true=marks (L.setIfInBounds i true) d:=by
 refine Array.ext_getElem? fun k=>?_;rw [Array.getElem?_setIfInBounds,marks_get,marks_get,Array.getElem?_setIfInBounds];rw [marks_size]
 by_cases hi:i=k
 ·subst hi
  by_cases hl:i < L.size <;> by_cases hd:i∈d <;> simp [hl,hd]
 ·simp [hi]
def doneOf (F:List Fl) (m:Nat→Bool):List Nat:=(F.filter fun f=>m f.idx).map (·.idx)
theorem mem_done {F:List Fl} {m:Nat→Bool} {k:Nat} : k∈doneOf F m↔m k=true∧∃ f∈F,f.idx=k:=by
 unfold doneOf;rw [List.mem_map]
 constructor
 ·rintro ⟨f,hf,rfl⟩
  rw [List.mem_filter] at hf;exact ⟨hf.2,f,hf.1,rfl⟩
 ·rintro ⟨hm,f,hf,rfl⟩
  exact ⟨f,List.mem_filter.2 ⟨hf,hm⟩,rfl⟩
def on (m:Nat→Bool) (j k:Nat):Bool:=k == j || m k
theorem marks_on (L:Array Bool) (F:List Fl) (m:Nat→Bool) (f:Fl) (hf:f∈F):(marks L (doneOf F m)).setIfInBounds f.idx true=marks L (doneOf F (on m f.idx)):=by
 rw [marks_set];refine Array.ext_getElem? fun k=>?_;rw [marks_get,marks_get,Array.getElem?_setIfInBounds]
 by_cases e:f.idx=k
 ·subst e
  have h2:f.idx∈doneOf F (on m f.idx):=mem_done.2 ⟨by simp [on],f,hf,rfl⟩;rw [if_pos h2]
  by_cases hl:f.idx < L.size <;> by_cases hd:f.idx∈doneOf F m <;> simp [hl,hd]
 ·have hiff:(k∈doneOf F (on m f.idx))↔(k∈doneOf F m):=by
   have hb:(k == f.idx)=false:=by simpa using fun h=>e h.symm
   rw [mem_done,mem_done]
   simp [on,hb]
  by_cases hd:k∈doneOf F m
  ·rw [if_pos hd,if_pos (hiff.2 hd)];simp [e]
  ·rw [if_neg hd,if_neg (fun h=>hd (hiff.1 h))];simp [e]
def allMasks:List Fl→(List Nat→Bool)→Bool
 | [],k=>k []
 | f :: r,k=>allMasks r k && allMasks r (fun d=>k (f.idx :: d))
theorem allMasks_spec:∀ (F:List Fl) (k:List Nat→Bool),allMasks F k=true→∀ m,k (doneOf F m)=true
 | [],k,h,m=>h
 | f :: r,k,h,m=>by
   unfold allMasks at h;rw [Bool.and_eq_true] at h;unfold doneOf;rw [List.filter_cons]
   cases hm:m f.idx with
   | true=>rw [if_pos rfl];exact allMasks_spec r _ h.2 m
   | false=>rw [if_neg (by simp)];exact allMasks_spec r _ h.1 m
def good (ops:Array Oper):List (Nat×Nat)→List Fl→Array Bool→Bool
 | [],F,L=>F.isEmpty && (Region.ready .any ops L).isEmpty
 | (0,i) :: r,F,L =>
   (match ops[i]? with
    | some o=>light o.op && F.all (fun f=>o.dst != some f.slot && o.dst != some f.src) && allMasks F (fun d=>Region.free .any ops (marks L d) i && (Region.ready .any ops (marks L d)).contains i)
    | none=>false) && good ops r F (L.setIfInBounds i true)
 | (1,i) :: r,F,L =>
   (match ops[i]? with
    | some o=>F.all (fun f=>o.dst != some f.slot && o.dst != some f.src) && allMasks F (fun d=>!(Region.ready .any ops (marks L d)).isEmpty && (Region.ready .any ops (marks L d)).all fun j=>j == i || F.any fun f=>f.idx == j && !d.contains j)
    | none=>false) && good ops r F (L.setIfInBounds i true)
 | (_,i) :: r,f :: F,L =>
   (ops[i]?).isSome && allMasks (f :: F) (fun d=>d.contains f.idx || (!(Region.ready .any ops (marks L d)).isEmpty && (Region.ready .any ops (marks L d)).all fun j=>(f :: F).any fun g=>g.idx == j && !d.contains j)) && good ops r F (L.setIfInBounds f.idx true)
 | (_,_) :: _,[],_=>false
def wpSg (P:Program) (ops:Array Oper) (C:World→Prop) (Q:Exit→Act→World→Prop) (n0:Nat):List (Nat×Oper)→List Fl→List (Nat×Nat)→List Nat→Act→World→Prop
 | [],_,_,_,a,w=>∀ w',Below w.heap.size w w'→C w'→Q .normal a w'
 | (0,o) :: r,F,H,L,a,w=>∀ x,wpQuiet P ops C (fun a'=>wpSg P ops C Q n0 r F H L a' w) [o] (fill F x a)
 | (1,o) :: r,F,H,L,a,w=>∀ x w',Below w.heap.size w w'→C w'→Region.wanted o (yielded ops (fill F x a).tmps)=true ∧
     o.wp P (fill F x a) w' (fun a'' w''=>C w''∧w'.heap.size≤w''.heap.size∧(∀ g,n0≤g→g < w'.heap.size→w''.heap[g]? = w'.heap[g]?)∧wpSg P ops C Q n0 r F ((w'.heap.size,w''.heap.size) :: H) L a'' w'') Q
 | (_,_) :: r,F,H,L,a,w=>match F with
   | []=>False
   | f :: F=>∀ g w',Below w.heap.size w w'→C w'→w'.heap[g]? = some (.cells f.cs f.ty (0,0))→n0≤g→(∀ p∈H,g < p.1∨p.2≤g)→g ∉ L→wpSg P ops C Q n0 r F H (g :: L) (a.put (some f.slot) (sl1 g)) w'
def picks (l:List Oper):List (Nat×Nat)→List (Nat×Oper)
 | []=>[]
 | (k,i) :: r=>match l[i]? with
   | some o=>(k,o) :: picks l r
   | none=>picks l r
structure Inv (F:List Fl) (m:Nat→Bool) (x:Nat→Value) (a:Act) (n0:Nat) (H:List (Nat×Nat)) (L:List Nat) (w:World):Prop where
 ne:∀ f∈F,∀ g∈F,f.slot≠g.src
 src:∀ f∈F,a.tmps.getD f.src undef=f.val
 old:∀ f∈F,m f.idx=false→x f.slot=a.tmps.getD f.slot undef
 new:∀ f∈F,m f.idx=true→∃ g,x f.slot=sl1 g∧w.heap[g]? = some (.cells f.cs f.ty (0,0))∧n0≤g∧(∀ p∈H,g < p.1∨p.2≤g)∧g ∉ L
 apart:∀ f∈F,∀ f'∈F,f.slot≠f'.slot→m f.idx=true→m f'.idx=true→x f.slot≠x f'.slot
 past:∀ p∈H,p.2≤w.heap.size
 met:∀ g∈L,g < w.heap.size
theorem getD_put (a:Act) (dst:Option Nat) (v:Value) (s:Nat) (h:dst≠some s):(a.put dst v).tmps.getD s undef=a.tmps.getD s undef:=by
 cases dst with
 | none=>rfl
 | some d =>
   have hd:d≠s:=fun e=>h (by rw [e]);simp only [Act.put,Array.getD_eq_getD_getElem?,Array.getElem?_setIfInBounds,if_neg hd]
theorem fill_idem (x:Nat→Value):∀ (F:List Fl) (a:Act),fill F x (fill F x a)=fill F x a
 | [],_=>rfl
 | f :: r,a=>by
   show fill r x ((fill r x (a.put (some f.slot) (x f.slot))).put (some f.slot) (x f.slot))=fill r x (a.put (some f.slot) (x f.slot))
   have e:∀ (r:List Fl) (b:Act),(fill r x (b.put (some f.slot) (x f.slot))).put (some f.slot) (x f.slot)=fill r x (b.put (some f.slot) (x f.slot)):=by
    intro r
    induction r with
    | nil=>intro b;exact put_put b _ _ _
    | cons g r ih =>
      intro b
      show (fill r x ((b.put (some f.slot) (x f.slot)).put (some g.slot) (x g.slot))).put (some f.slot) (x f.slot)=fill r x ((b.put (some f.slot) (x f.slot)).put (some g.slot) (x g.slot))
      by_cases h:f.slot=g.slot
      ·rw [← h,put_put];exact ih b
      ·rw [put_comm b h,ih]
   rw [e];exact fill_idem x r _
def withD (a:Act) (ds:List Deferred):Act:={ a with defers:=ds }
theorem fill_D (x:Nat→Value) (ds:List Deferred):∀ (F:List Fl) (a:Act),withD (fill F x a) ds=fill F x (withD a ds)
 | [],_=>rfl
 | f :: r,a=>by
   show withD (fill r x (a.put (some f.slot) (x f.slot))) ds=fill r x ((withD a ds).put (some f.slot) (x f.slot))
   rw [fill_D x ds r]
   rfl
theorem getD_fill (x:Nat→Value) (s:Nat):∀ (F:List Fl) (a:Act),(∀ f∈F,f.slot=s→x s=a.tmps.getD s undef)→(fill F x a).tmps.getD s undef=a.tmps.getD s undef
 | [],_,_=>rfl
 | f :: r,a,h=>by
   have e:(a.put (some f.slot) (x f.slot)).tmps.getD s undef=a.tmps.getD s undef:=by
    by_cases hs:f.slot=s
    ·subst hs
     have:=h f (List.mem_cons_self ..) rfl;simp only [Act.put,Array.getD_eq_getD_getElem?,Array.getElem?_setIfInBounds] at *
     by_cases hl:f.slot < a.tmps.size
     ·simp [hl] at *;exact this
     ·simp [hl]
    ·exact getD_put a _ _ s (fun k=>hs (Option.some.inj k))
   show (fill r x (a.put (some f.slot) (x f.slot))).tmps.getD s undef=_
   rw [getD_fill x s r _ fun g hg k=>by rw [e];exact h g (List.mem_cons_of_mem _ hg) k,e]
theorem wp_put {P:Program} {o:Oper} {a:Act} {w:World} {K:Act→World→Prop} {Q:Exit→Act→World→Prop} (h:o.wp P a w K Q):o.wp P a w (fun a' w'=>(∃ ds v,a'=(withD a ds).put o.dst v)∧K a' w') Q:=by
 unfold Oper.wp at *
 cases hr:(execOp a.eval o).run P w with
 | halt y w1=>rw [hr] at h;cases y <;> exact h
 | ok nx w1 =>
   rw [hr] at h
   cases nx with
   | value v=>exact ⟨⟨a.defers,v,rfl⟩,h⟩
   | skip=>exact ⟨⟨a.defers,undef,rfl⟩,h⟩
   | defer d=>exact ⟨⟨d :: a.defers,undef,rfl⟩,h⟩
   | enter f args =>
     refine Calls.mono h fun e w'' k=>?_
     cases e with
     | returned v=>exact ⟨⟨a.defers,v,rfl⟩,k⟩
     | panicked c=>exact k
     | outgrown=>exact k
   | row r args=>exact Rows.mono h fun v w'' k=>⟨⟨a.defers,v,rfl⟩,k⟩
   | _=>exact h
def left:List Fl→(Nat→Bool)→Nat
 | [],_=>0
 | f :: r,m=>left r m+(if m f.idx then 0 else 1)
theorem on_le (m:Nat→Bool) (j k:Nat):(if on m j k then 0 else 1)≤(if m k then 0 else 1):=by
 unfold on
 cases (k == j) <;> cases m k <;> simp
theorem left_mono (m:Nat→Bool) (j:Nat):∀ r:List Fl,left r (on m j)≤left r m
 | []=>Nat.le_refl _
 | g :: r=>Nat.add_le_add (left_mono m j r) (on_le m j g.idx)
theorem left_on:∀ (F:List Fl) (m:Nat→Bool) (f:Fl),f∈F→m f.idx=false→left F (on m f.idx)+1≤left F m
 | g :: r,m,f,hf,hm=>by
   have a:=left_mono m f.idx r;have b:=on_le m f.idx g.idx;unfold left
   rcases List.mem_cons.1 hf with e | k
   ·subst e
    have:on m f.idx f.idx=true:=by simp [on]
    rw [this,hm]
    simp
    exact a
   ·have ih:=left_on r m f k hm
    omega
theorem nodup_same:∀ {F:List Fl},(F.map (·.slot)).Nodup→∀ f∈F,∀ g∈F,g.slot=f.slot→g=f
 | [],_,f,hf,_,_,_=>by cases hf
 | b :: r,hn,f,hf,g,hg,e=>by
   rw [List.map_cons,List.nodup_cons] at hn
   rcases List.mem_cons.1 hg with h1 | hg'
   ·rcases List.mem_cons.1 hf with h2 | hf'
    ·rw [h1,h2]
    ·exact absurd (List.mem_map.2 ⟨f,hf',by rw [← e,h1]⟩) hn.1
   ·rcases List.mem_cons.1 hf with h2 | hf'
    ·exact absurd (List.mem_map.2 ⟨g,hg',by rw [e,h2]⟩) hn.1
    ·exact nodup_same hn.2 f hf' g hg' e
section
variable {P:Program} {l:List Oper} {C:World→Prop} {Q:Exit→Act→World→Prop} {n0:Nat}
def FlOk (P:Program) (l:List Oper) (f:Fl):Prop:=∃ o,l.toArray[f.idx]? = some o∧o.dst=some f.slot∧o.guard=none∧∀ ρ w,ρ (.tmp f.src)=f.val→(execOp ρ o).run P w = .ok (.value (sl1 w.heap.size)) (w.alloc (.cells f.cs f.ty))
theorem Inv.step {F:List Fl} {m:Nat→Bool} {x:Nat→Value} {a:Act} {H:List (Nat×Nat)} {L:List Nat} {w:World} (h:Inv F m x a n0 H L w) (hn:(F.map (·.slot)).Nodup) (hi:∀ f∈F,∀ f'∈F,f.idx=f'.idx→f.slot=f'.slot) (h0:n0≤w.heap.size) (f:Fl) (hf:f∈F) (hm:m f.idx=false) :
 Inv F (on m f.idx) (upd x f.slot (sl1 w.heap.size)) a n0 H L (w.alloc (.cells f.cs f.ty)):=by
 have same:∀ g∈F,g.slot=f.slot→g=f:=nodup_same hn f hf;have on_:∀ g∈F,g.slot≠f.slot→on m f.idx g.idx=m g.idx:=fun g hg hne=>by
  have hb:(g.idx == f.idx)=false:=by simpa using fun e=>hne (hi g hg f hf e)
  simp [on,hb]
 have onf:on m f.idx f.idx=true:=by simp [on]
 refine ⟨h.ne,h.src,fun g hg hmg=>?_,fun g hg hmg=>?_,fun g hg g' hg' hne hmg hmg'=>?_,fun p hp=>?_,fun g hg=>?_⟩
 ·by_cases e:g.slot=f.slot
  ·rw [same g hg e,onf] at hmg;cases hmg
  ·rw [on_ g hg e] at hmg
   simp only [upd,if_neg e];exact h.old g hg hmg
 ·by_cases e:g.slot=f.slot
  ·obtain rfl:=same g hg e
   exact ⟨w.heap.size,by simp [upd],heap_alloc_new w _,h0,fun p hp=>.inr (h.past p hp),fun hl=>by have:=h.met _ hl;omega⟩
  ·rw [on_ g hg e] at hmg
   obtain ⟨b,h1,h2,h3⟩:=h.new g hg hmg;exact ⟨b,by simp only [upd,if_neg e];exact h1,(Below.heap_alloc w _ b (lt_of_block h2)).trans h2,h3⟩
 ·by_cases e:g.slot=f.slot
  ·have e':g'.slot≠f.slot:=fun k=>hne (e.trans k.symm)
   rw [on_ g' hg' e'] at hmg';obtain ⟨b,h1,h2,_⟩:=h.new g' hg' hmg';have:=lt_of_block h2;simp only [upd,if_pos e,if_neg e',h1];exact fun k=>by have:=sl1_inj.1 k;omega
  ·by_cases e':g'.slot=f.slot
   ·rw [on_ g hg e] at hmg
    obtain ⟨b,h1,h2,_⟩:=h.new g hg hmg;have:=lt_of_block h2;simp only [upd,if_neg e,if_pos e',h1];exact fun k=>by have:=sl1_inj.1 k;omega
   ·rw [on_ g hg e] at hmg
    rw [on_ g' hg' e'] at hmg';simp only [upd,if_neg e,if_neg e'];exact h.apart g hg g' hg' hne hmg hmg'
 ·have:=h.past p hp
  simp
  omega
 ·have:=h.met g hg
  simp
  omega
def cnt:List (Nat×Nat)→Nat
 | []=>0
 | (0,_) :: r=>cnt r+1
 | (1,_) :: r=>cnt r+1
 | (_+2,_) :: r=>cnt r
def Holds (P:Program) (l:List Oper) (C:World→Prop) (Q:Exit→Act→World→Prop) (n0:Nat) (n:Nat):Prop :=
 ∀ (sc:List (Nat×Nat)) (F:List Fl) (H:List (Nat×Nat)) (L:List Nat) (listed:Array Bool) (fuel:Nat) (a:Act) (w:World) (m:Nat→Bool) (x:Nat→Value) (w':World),
  2 * fuel+sc.length≤n→good l.toArray sc F listed=true→(∀ f∈F,FlOk P l f)→(F.map (·.slot)).Nodup→(∀ f∈F,∀ f'∈F,f.idx=f'.idx→f.slot=f'.slot)→Inv F m x a n0 H L w'→Below w.heap.size w w'→C w' →
  cnt sc+left F m≤fuel→wpSg P l.toArray C Q n0 (picks l sc) F H L a w→wpAnyH P .any l.toArray Q C fuel (marks listed (doneOf F m)) (fill F x a) w'
theorem wanted_none {o:Oper} {y:Nat→Option Bool} (h:o.guard=none):Region.wanted o y=true:=by simp [Region.wanted,h]
theorem float {n:Nat} (ih:Holds P l C Q n0 n) (hC:∀ w,C w→n0≤w.heap.size) (hA:∀ w o,C w→C (w.alloc o)) {sc:List (Nat×Nat)} {F:List Fl} {H:List (Nat×Nat)} {L:List Nat} {listed:Array Bool} {fuel:Nat} {a:Act} {w:World} {m:Nat→Bool} {x:Nat→Value} {w':World}
 (hn:2 * (fuel+1)+sc.length≤n+1) (hg:good l.toArray sc F listed=true) (hF:∀ f∈F,FlOk P l f) (hs:(F.map (·.slot)).Nodup) (hi:∀ f∈F,∀ f'∈F,f.idx=f'.idx→f.slot=f'.slot) (hI:Inv F m x a n0 H L w') (hb:Below w.heap.size w w') (hc:C w')
 (hf:cnt sc+left F m≤fuel+1) (h:wpSg P l.toArray C Q n0 (picks l sc) F H L a w) (f:Fl) (hff:f∈F) (hm:m f.idx=false) :
 wpOp P l.toArray Q f.idx (fun a' w'=>C w'∧wpAnyH P .any l.toArray Q C fuel ((marks listed (doneOf F m)).setIfInBounds f.idx true) a' w') (fill F x a) w':=by
 obtain ⟨o,ho,hd,hgd,hrun⟩:=hF f hff;unfold wpOp;simp only [ho,wanted_none hgd,if_true];refine .inl ?_;unfold Oper.wp;rw [hrun _ _ (by show (fill F x a).tmps.getD f.src undef=f.val;rw [getD_fill x f.src F a fun g hg e=>absurd e (hI.ne g hg f hff)];exact hI.src f hff)];rw [Oper.upon_value,hd,fill_set x f.slot _ F a hs ⟨f,hff,rfl⟩,marks_on listed F m f hff];have lo:=left_on F m f hff hm;exact ⟨hA _ _ hc,ih sc F H L listed fuel a w _ _ _ (by omega) hg hF hs hi (hI.step hs hi (hC _ hc) f hff hm) (hb.trans ((Below.refl _ _).alloc hb.size _)) (hA _ _ hc) (by omega) h⟩
theorem holds (hsel:Region.noSelect l.toArray=true) (hQ:∀ c d v a w,Q (.panic c) (Act.put a d v) w→Q (.panic c) a w) (hC:∀ w,C w→n0≤w.heap.size) (hA:∀ w o,C w→C (w.alloc o)):∀ n,Holds P l C Q n0 n:=by
 intro n
 induction n with
 | zero =>
   intro sc F H L listed fuel a w m x w' hn hg hF hs hi hI hb hc hf h
   have e:sc = []:=List.length_eq_zero_iff.1 (by omega);subst e;unfold good at hg;simp only [Bool.and_eq_true,List.isEmpty_iff] at hg;obtain ⟨rfl,hr⟩:=hg;exact wpAnyH_done hr (h w' hb hc) fuel
 | succ n ih =>
   intro sc F H L listed fuel a w m x w' hn hg hF hs hi hI hb hc hf h
   match sc,hg,h,hn,hf with
   | [],hg,h,_,_ =>
     unfold good at hg;simp only [Bool.and_eq_true,List.isEmpty_iff] at hg;obtain ⟨rfl,hr⟩:=hg;exact wpAnyH_done hr (h w' hb hc) fuel
   | (0,i) :: r,hg,h,hn,hf =>
     have hg':(_ && good l.toArray r F (listed.setIfInBounds i true))=true:=hg;rw [Bool.and_eq_true] at hg';obtain ⟨hg1,hg2⟩:=hg'
     cases ho:l[i]? with
     | none=>simp [ho] at hg1
     | some o =>
       have hop:l.toArray[i]? = some o:=by simp [ho]
       rw [hop] at hg1;simp only [Bool.and_eq_true,List.all_eq_true] at hg1;obtain ⟨⟨hl,hds⟩,hm⟩:=hg1;have hds':∀ f∈F,o.dst≠some f.slot:=fun f hf=>by have:=hds f hf;simp at this;simpa using this.1
       have hdr:∀ f∈F,o.dst≠some f.src:=fun f hf=>by have:=hds f hf;simp at this;simpa using this.2
       have hm':=allMasks_spec F _ hm m;simp only [Bool.and_eq_true] at hm';rw [picks,ho] at h;obtain ⟨fuel,rfl⟩:∃ k,fuel=k+1:=⟨fuel - 1,by simp only [cnt] at hf;omega⟩;have q:=h x;unfold wpQuiet at q;have next:∀ v',wpSg P l.toArray C Q n0 (picks l r) F H L ((fill F x a).put o.dst v') w→wpAnyH P .any l.toArray Q C fuel ((marks listed (doneOf F m)).setIfInBounds i true) ((fill F x a).put o.dst v') w':=fun v' hnx=>by
        have k:=ih r F H L (listed.setIfInBounds i true) fuel ((fill F x a).put o.dst v') w m x w' (by simp at hn;omega) hg2 hF hs hi ⟨hI.ne,fun f hff=>by rw [getD_put _ o.dst v' f.src (hdr f hff),getD_fill x f.src F a fun g hg e=>absurd e (hI.ne g hg f hff)];exact hI.src f hff,fun f hff hmf=>?_,hI.new,hI.apart,hI.past,hI.met⟩ hb hc (by simp only [cnt] at hf;omega) hnx
        ·rw [fill_put x o.dst v' F a hds',fill_idem,← marks_set] at k
         rw [fill_put x o.dst v' F a hds'];exact k
        ·rw [getD_put _ o.dst v' f.slot (hds' f hff),getD_fill x f.slot F a fun g hg e=>by rw [← e];obtain rfl:=nodup_same hs f hff g hg e;exact hI.old g hg hmf]
         exact hI.old f hff hmf
       by_cases hw:Region.wanted o (yielded l.toArray (fill F x a).tmps)=true
       ·rw [if_pos hw] at q
        obtain ⟨v',hv',e⟩:=q;refine wpAnyH_take (v:=v') hop hsel hm'.1 hm'.2 (fun c a w=>hQ c _ _ a w) (.inl ⟨hw,fun w2 hw2=>?_⟩) hc (next v' e);have q2:=hv' w2 hw2;unfold Oper.quietAt at q2
        cases e2:(execOp (fill F x a).eval o).run P w2 with
        | halt y w1=>rw [e2] at q2;cases q2
        | ok nx w1 =>
          obtain ⟨u,rfl⟩:=light_value hl e2;rw [e2] at q2;obtain ⟨e3,e4⟩:=q2;rw [e3,e4]
       ·rw [if_neg hw] at q
        exact wpAnyH_take (v:=undef) hop hsel hm'.1 hm'.2 (fun c a w=>hQ c _ _ a w) (.inr ⟨by simpa using hw,rfl⟩) hc (next undef q)
   | (1,i) :: r,hg,h,hn,hf =>
     have hg0:=hg;have h0:=h;have hg':(_ && good l.toArray r F (listed.setIfInBounds i true))=true:=hg;rw [Bool.and_eq_true] at hg';obtain ⟨hg1,hg2⟩:=hg'
     cases ho:l[i]? with
     | none=>simp [ho] at hg1
     | some o =>
       have hop:l.toArray[i]? = some o:=by simp [ho]
       rw [hop] at hg1;simp only [Bool.and_eq_true,List.all_eq_true] at hg1;obtain ⟨hds,hm⟩:=hg1;have hds':∀ f∈F,o.dst≠some f.slot:=fun f hf=>by have:=hds f hf;simp at this;simpa using this.1
       have hdr:∀ f∈F,o.dst≠some f.src:=fun f hf=>by have:=hds f hf;simp at this;simpa using this.2
       have hm':=allMasks_spec F _ hm m;simp only [Bool.and_eq_true,List.all_eq_true] at hm';rw [picks,ho] at h;obtain ⟨hw,hwp⟩:=h x w' hb hc;obtain ⟨fuel,rfl⟩:∃ k,fuel=k+1:=⟨fuel - 1,by simp only [cnt] at hf;omega⟩;refine wpAnyH_all rfl (fun e=>by rw [e] at hm';simp at hm') fun j hj=>?_;have hj':=hm'.2 j hj;rw [Bool.or_eq_true] at hj'
       rcases hj' with e | hfl
       ·obtain rfl:j=i:=by simpa using e
        unfold wpOp;simp only [hop,hw,if_true];refine .inl (Oper.wp_mono (fun a'' w'' hh=>?_) (wp_put hwp));obtain ⟨⟨ds,v,rfl⟩,c2,hsz,hbel,hT⟩:=hh;refine ⟨c2,?_⟩;have k:=ih r F _ L (listed.setIfInBounds j true) fuel ((withD (fill F x a) ds).put o.dst v) w'' m x w'' (by simp at hn;omega) hg2 hF hs hi ⟨hI.ne,fun f hff=>by rw [fill_D,getD_put _ o.dst v f.src (hdr f hff),getD_fill x f.src F _ fun g hg e=>absurd e (hI.ne g hg f hff)];exact hI.src f hff,fun f hff hmf=>?_,fun f hff hmf=>?_,hI.apart,fun p hp=>?_,fun g hg=>Nat.lt_of_lt_of_le (hI.met g hg) hsz⟩ (Below.refl _ _) c2 (by simp only [cnt] at hf;omega) hT
        ·rw [fill_D,fill_put x o.dst v F _ hds',fill_idem,← marks_set] at k
         rw [fill_D,fill_put x o.dst v F _ hds'];exact k
        ·rw [fill_D,getD_put _ o.dst v f.slot (hds' f hff),getD_fill x f.slot F _ fun g hg e=>by rw [← e];obtain rfl:=nodup_same hs f hff g hg e;exact hI.old g hg hmf]
         exact hI.old f hff hmf
        ·obtain ⟨g,g1,g2,g3,g4,g5⟩:=hI.new f hff hmf
         refine ⟨g,g1,(hbel g g3 (lt_of_block g2)).trans g2,g3,fun p hp=>?_,g5⟩
         rcases List.mem_cons.1 hp with rfl | hp
         ·exact .inl (lt_of_block g2)
         ·exact g4 p hp
        ·rcases List.mem_cons.1 hp with rfl | hp
         ·exact Nat.le_refl _
         ·exact Nat.le_trans (hI.past p hp) hsz
       ·obtain ⟨f,hff,he⟩:=List.any_eq_true.1 hfl
        rw [Bool.and_eq_true] at he;obtain rfl:f.idx=j:=by simpa using he.1
        have hmf:m f.idx=false:=by
         have hd:f.idx ∉ doneOf F m:=by simpa using he.2
         rw [mem_done] at hd
         cases hmm:m f.idx with
         | false=>rfl
         | true=>exact absurd ⟨hmm,f,hff,rfl⟩ hd
        exact float ih hC hA hn hg0 hF hs hi hI hb hc hf h0 f hff hmf
   | (k+2,i) :: r,hg,h,hn,hf =>
     have hg0:=hg;have h0:=h
     match F,hg,h,hF,hs,hi,hI,hf,hg0,h0 with
     | [],hg,h,_,_,_,_,_,_,_=>simp [good] at hg
     | f :: F,hg,h,hF,hs,hi,hI,hf,hg0,h0 =>
       have hg':((l.toArray[i]?).isSome && allMasks (f :: F) _ && good l.toArray r F (listed.setIfInBounds f.idx true))=true:=hg;rw [Bool.and_eq_true,Bool.and_eq_true] at hg';obtain ⟨⟨hio,hm⟩,hg2⟩:=hg';have hm':=allMasks_spec (f :: F) _ hm m
       cases hmm:m f.idx with
       | true =>
         obtain ⟨g,g1,g2,g3,g4,g5⟩:=hI.new f (List.mem_cons_self ..) hmm;have hp:∀ {o:Oper},wpSg P l.toArray C Q n0 ((k+2,o) :: picks l r) (f :: F) H L a w→wpSg P l.toArray C Q n0 (picks l r) F H (g :: L) (a.put (some f.slot) (sl1 g)) w':=fun h=>h g w' hb hc g2 g3 g4 g5;have hT:wpSg P l.toArray C Q n0 (picks l r) F H (g :: L) (a.put (some f.slot) (sl1 g)) w':=by
          cases ho:l[i]? with
          | none=>simp [ho] at hio
          | some o =>
            rw [picks,ho] at h;exact hp h
         have hd:doneOf (f :: F) m=f.idx :: doneOf F m:=by unfold doneOf;rw [List.filter_cons,if_pos hmm];rfl
         rw [hd]
         show wpAnyH P .any l.toArray Q C fuel (marks (listed.setIfInBounds f.idx true) (doneOf F m)) (fill F x (a.put (some f.slot) (x f.slot))) w'
         rw [g1];rw [List.map_cons,List.nodup_cons] at hs;have hne:∀ f'∈F,f.slot≠f'.slot:=fun f' h' e=>hs.1 (List.mem_map.2 ⟨f',h',e.symm⟩);refine ih r F H (g :: L) _ fuel _ w' m x w' (by simp at hn;omega) hg2 (fun f' h'=>hF f' (List.mem_cons_of_mem _ h')) hs.2 (fun a ha b hb=>hi a (List.mem_cons_of_mem _ ha) b (List.mem_cons_of_mem _ hb)) ⟨fun a ha b hb=>hI.ne a (List.mem_cons_of_mem _ ha) b (List.mem_cons_of_mem _ hb),fun f' h'=>by rw [getD_put a _ _ f'.src (fun e=>hI.ne f (List.mem_cons_self ..) f' (List.mem_cons_of_mem _ h') (Option.some.inj e))];exact hI.src f' (List.mem_cons_of_mem _ h'),fun f' h' hmf=>?_,fun f' h' hmf=>?_,fun f' h' f'' h''=>hI.apart f' (List.mem_cons_of_mem _ h') f'' (List.mem_cons_of_mem _ h''),hI.past,fun b hb=>?_⟩ (Below.refl _ _) hc ?_ hT
         ·rw [getD_put a _ _ f'.slot (fun e=>hne f' h' (Option.some.inj e))]
          exact hI.old f' (List.mem_cons_of_mem _ h') hmf
         ·obtain ⟨b,b1,b2,b3,b4,b5⟩:=hI.new f' (List.mem_cons_of_mem _ h') hmf
          refine ⟨b,b1,b2,b3,b4,fun hl=>?_⟩
          rcases List.mem_cons.1 hl with e | hl
          ·exact hI.apart f' (List.mem_cons_of_mem _ h') f (List.mem_cons_self ..) (fun e=>hne f' h' e.symm) hmf hmm (by rw [b1,g1,e])
          ·exact b5 hl
         ·rcases List.mem_cons.1 hb with rfl | hb
          ·exact lt_of_block g2
          ·exact hI.met b hb
         ·simp only [cnt,left,hmm] at hf
          simpa using hf
       | false =>
         have hd:(doneOf (f :: F) m).contains f.idx=false:=by
          have:f.idx ∉ doneOf (f :: F) m:=fun h=>by rw [mem_done,hmm] at h;simp at h
          simpa using this
         rw [hd,Bool.false_or] at hm';simp only [Bool.and_eq_true,List.all_eq_true] at hm';have lf:=left_on (f :: F) m f (List.mem_cons_self ..) hmm;obtain ⟨fuel,rfl⟩:∃ k,fuel=k+1:=⟨fuel - 1,by omega⟩;refine wpAnyH_all rfl (fun e=>by rw [e] at hm';simp at hm') fun j hj=>?_;obtain ⟨f',hff,he⟩:=List.any_eq_true.1 (hm'.2 j hj);rw [Bool.and_eq_true] at he;obtain rfl:f'.idx=j:=by simpa using he.1
         have hmf:m f'.idx=false:=by
          have hd:f'.idx ∉ doneOf (f :: F) m:=by simpa using he.2
          rw [mem_done] at hd
          cases hmm:m f'.idx with
          | false=>rfl
          | true=>exact absurd ⟨hmm,f',hff,rfl⟩ hd
         exact float ih hC hA hn hg0 hF hs hi hI hb hc hf h0 f' hff hmf
theorem fill_self (a:Act):∀ F:List Fl,fill F (fun s=>a.tmps.getD s undef) a=a
 | []=>rfl
 | f :: r=>by
   have e:a.put (some f.slot) (a.tmps.getD f.slot undef)=a:=by
    simp only [Act.put];have:a.tmps.setIfInBounds f.slot (a.tmps.getD f.slot undef)=a.tmps:=by
     refine Array.ext_getElem? fun k=>?_;rw [Array.getElem?_setIfInBounds]
     by_cases hk:f.slot=k
     ·subst hk
      by_cases hl:f.slot < a.tmps.size
      ·simp [hl]
      ·simp [hl]
     ·simp [hk]
    rw [this]
   show fill r (fun s=>a.tmps.getD s undef) (a.put (some f.slot) (a.tmps.getD f.slot undef))=a
   rw [e];exact fill_self a r
theorem left_all:∀ F:List Fl,left F (fun _=>false)=F.length
 | []=>rfl
 | f :: r=>by show left r _+1=r.length+1;rw [left_all r]
def picksL (l:List Oper):List Nat→List Oper
 | []=>[]
 | i :: r=>match l[i]? with
   | some o=>o :: picksL l r
   | none=>picksL l r
def goodL (ops:Array Oper):List Nat→Array Bool→Bool
 | [],_=>true
 | i :: r,L=>(match ops[i]? with
   | some o=>light o.op && Region.free .any ops L i && (Region.ready .any ops L).contains i
   | none=>false) && goodL ops r (L.setIfInBounds i true)
def wpL (P:Program) (ops:Array Oper) (C:World→Prop) (K:Act→Prop):List Oper→Act→Prop
 | [],a=>K a
 | o :: r,a=>wpQuiet P ops C (fun a'=>wpL P ops C K r a') [o] a
theorem lights {P:Program} {l:List Oper} {C:World→Prop} {Q:Exit→Act→World→Prop} {w:World} {K:Act→Prop} {fuel:Nat} (hs:Region.noSelect l.toArray=true) (hQ:∀ c d v a w,Q (.panic c) (Act.put a d v) w→Q (.panic c) a w) (hC:C w) :
 ∀ (sc:List Nat) (listed:Array Bool) (a:Act),goodL l.toArray sc listed=true→(∀ a',K a'→wpAnyH P .any l.toArray Q C fuel (marks listed sc) a' w)→wpL P l.toArray C K (picksL l sc) a→wpAnyH P .any l.toArray Q C (fuel+sc.length) listed a w
 | [],listed,a,_,hk,h=>hk a h
 | i :: r,listed,a,hg,hk,h=>by
   unfold goodL at hg;rw [Bool.and_eq_true] at hg;obtain ⟨hg1,hg2⟩:=hg;have hll:l.toArray[i]? = l[i]?:=by rw [List.getElem?_toArray]
   cases ho:l[i]? with
   | none=>rw [hll,ho] at hg1;cases hg1
   | some o =>
     rw [hll,ho] at hg1;have hop:l.toArray[i]? = some o:=hll.trans ho;have hp:picksL l (i :: r)=o :: picksL l r:=by rw [picksL,ho]
     rw [hp] at h;simp only [Bool.and_eq_true] at hg1;obtain ⟨⟨hl,hf⟩,hr⟩:=hg1;unfold wpL at h
     show wpAnyH P .any l.toArray Q C ((fuel+r.length)+1) listed a w
     by_cases hw:Region.wanted o (yielded l.toArray a.tmps)=true
     ·unfold wpQuiet at h
      rw [if_pos hw] at h;obtain ⟨v,hv,hn⟩:=h;refine wpAnyH_take (v:=v) hop hs hf hr (fun c a w=>hQ c _ _ a w) (.inl ⟨hw,fun w' hw'=>?_⟩) hC (lights hs hQ hC r _ _ hg2 hk hn);have q:=hv w' hw';unfold Oper.quietAt at q
      cases e:(execOp a.eval o).run P w' with
      | halt x w1=>rw [e] at q;cases q
      | ok n w1 =>
        obtain ⟨u,rfl⟩:=light_value hl e;rw [e] at q;obtain ⟨e1,e2⟩:=q;rw [e1,e2]
     ·unfold wpQuiet at h
      rw [if_neg hw] at h;exact wpAnyH_take (v:=undef) hop hs hf hr (fun c a w=>hQ c _ _ a w) (.inr ⟨by simpa using hw,rfl⟩) hC (lights hs hQ hC r _ _ hg2 hk h)
theorem start {id:Nat} {l:List Oper} {Q:Exit→Act→World→Prop} {a:Act} {w:World} (C:World→Prop) (ls:List Nat) (sc:List (Nat×Nat)) (F:List Fl) (hm:P.follows .mixedOrders=true) (hs:Region.noSelect l.toArray=true)
 (hgl:goodL l.toArray ls (Array.replicate l.toArray.size false)=true) (hg:good l.toArray sc F (marks (Array.replicate l.toArray.size false) ls)=true) (hc:cnt sc+F.length+ls.length=l.toArray.size) (hn:(F.map (·.slot)).Nodup) (hi:∀ f∈F,∀ f'∈F,f.idx=f'.idx→f.slot=f'.slot) (hx:∀ f∈F,∀ g∈F,f.slot≠g.src) (hF:∀ f∈F,FlOk P l f)
 (h0:C w.drew) (hn0:∀ w',C w'→w.heap.size≤w'.heap.size) (hA:∀ w' o,C w'→C (w'.alloc o))
 (h:wpL P l.toArray (fun w'=>∃ p:In C,w'=p.world) (fun a'=>(∀ f∈F,a'.tmps.getD f.src undef=f.val)∧wpSg P l.toArray (fun w'=>∃ p:In C,w'=p.world) (NoPanic Q) w.heap.size (picks l sc) F [] [] a' w.drew) (picksL l ls) a):(Code.region id l.toArray true).wp P Q a w :=
 wp_region_noPanic (wp_region_held_drew (S:=fun w'=>∃ p:In C,w'=p.world) hm (Cl.of h0) fun _=>by
  have hfu:l.toArray.size=(cnt sc+F.length)+ls.length:=by omega
  rw [hfu];rw [← hfu];refine (show wpAnyH P .any l.toArray (NoPanic Q) (fun w'=>∃ p:In C,w'=p.world) ((cnt sc+F.length)+ls.length) (Array.replicate l.toArray.size false) a w.drew from ?_) |> fun k=>by rw [← hfu] at k;exact k
  refine lights hs (fun _ _ _ _ _ h=>h) (Cl.of h0) ls _ a hgl (fun a' ha=>?_) h;obtain ⟨hsrc,ha⟩:=ha;have hd:doneOf F (fun _=>false) = []:=by unfold doneOf;simp
  have k:=holds (P:=P) (l:=l) (C:=fun w'=>∃ p:In C,w'=p.world) (Q:=NoPanic Q) (n0:=w.heap.size) hs (fun _ _ _ _ _ h=>h) (fun w' h=>by obtain ⟨p,rfl⟩:=h;exact hn0 _ p.ok) (fun w' o h=>by obtain ⟨p,rfl⟩:=h;exact Cl.of (hA _ _ p.ok)) (2 * (cnt sc+F.length)+sc.length) sc F [] [] (marks (Array.replicate l.toArray.size false) ls) (cnt sc+F.length) a' w.drew (fun _=>false) (fun s=>a'.tmps.getD s undef) w.drew
   (Nat.le_refl _) hg hF hn hi ⟨hx,hsrc,fun _ _ _=>rfl,fun _ _ h=>(by cases h),fun _ _ _ _ _ h=>(by cases h),fun _ hp=>(by cases hp),fun _ hg=>(by cases hg)⟩ (Below.refl _ _) (Cl.of h0) (by rw [left_all];exact Nat.le_refl _) ha
  rw [hd,fill_self] at k
  exact k)
section
variable {ops:Array Oper} {a:Act} {w:World} {o:Oper} {r:List (Nat×Oper)} {F:List Fl} {H:List (Nat×Nat)} {L:List Nat}
theorem lit (h:∀ x,wpQuiet P ops C (fun a'=>wpSg P ops C Q n0 r F H L a' w) [o] (fill F x a)):wpSg P ops C Q n0 ((0,o) :: r) F H L a w:=h
theorem call (h:∀ x w',Below w.heap.size w w'→C w'→Region.wanted o (yielded ops (fill F x a).tmps)=true ∧
 ∀ K:Act→World→Prop,(∀ a'' w'',C w''→w'.heap.size≤w''.heap.size→(∀ g,n0≤g→g < w'.heap.size→w''.heap[g]? = w'.heap[g]?)→wpSg P ops C Q n0 r F ((w'.heap.size,w''.heap.size) :: H) L a'' w''→K a'' w'')→o.wp P (fill F x a) w' K Q) :
 wpSg P ops C Q n0 ((1,o) :: r) F H L a w:=fun x w' hb hc=>⟨(h x w' hb hc).1,(h x w' hb hc).2 _ fun _ _ c s b k=>⟨c,s,b,k⟩⟩
theorem meet {f:Fl} (h:∀ g w',Below w.heap.size w w'→C w'→w'.heap[g]? = some (.cells f.cs f.ty (0,0))→n0≤g→(∀ p∈H,g < p.1∨p.2≤g)→g ∉ L→wpSg P ops C Q n0 r F H (g :: L) (a.put (some f.slot) (sl1 g)) w') :
 wpSg P ops C Q n0 ((2,o) :: r) (f :: F) H L a w:=h
theorem done {Q:Exit→Act→World→Prop} (h:∀ w',Below w.heap.size w w'→C w'→Q .normal a w'):wpSg P ops C (NoPanic Q) n0 [] F H L a w:=h
end
end
end Go.Proofs.YtelgnhmcnfibnaaGreatDoor.Sg
namespace Go.Proofs.YtelgnhmcnfibnaaGreatDoor.Pa
open Go.RowKit Go.Maps
open Fs (Abs St Rs Rst Only Fx Lst Ent OkA addE addA put key ins ow_only put_new ins_at look_none AddPost)
open Rw (Rd Ow At Kind)
open Ro (E5 K5 okE)
open Ck (LL lat RdL Hd sl zh)
open Fl (R4)
theorem add_next {A:Abs} (h:OkA A) {k:Nat} {n p:Int} {l:List R4} (hc:A[k]? = some (n,p,l)):addE (A.take k) n p l=0∧addA (A.take k) n p l=A.take (k+1):=by
 have hk:k < A.length:=by
  by_cases hk:k < A.length
  ·exact hk
  ·rw [List.getElem?_eq_none (by omega)] at hc;cases hc
 have hm:(n,p,l)∈A:=List.mem_of_getElem? hc;have lt:∀ x∈A.take k,key x < n:=fun x hx=>by
  obtain ⟨i,hi⟩:=List.mem_iff_getElem?.1 hx;have hik:i < k:=by
   have:i < (A.take k).length:=by
    by_cases q:i < (A.take k).length
    ·exact q
    ·rw [List.getElem?_eq_none (by omega)] at hi;cases hi
   rw [List.length_take] at this
   omega
  rw [List.getElem?_take,if_pos hik] at hi;have q:=List.pairwise_iff_getElem.1 h.srt i k (by omega) hk hik;rw [List.getElem?_eq_getElem (by omega)] at hi;rw [List.getElem?_eq_getElem hk] at hc;injection hi with hi;injection hc with hc;rw [hi,hc] at q;exact q
 have hn:Fs.look key n (A.take k)=none:=look_none.2 fun x hx=>by have:=lt x hx;omega
 have e0:addE (A.take k) n p l=0:=by
  unfold addE;rw [if_pos (h.nm _ hm),if_pos (h.good _ hm),hn]
  rfl
 refine ⟨e0,?_⟩;unfold addA;rw [if_pos e0,put_new (c:=(n,p,l)) hn,ins_at (k:=(A.take k).length) (fun x hx=>lt x (List.mem_of_mem_take hx)) (fun x hx=>by rw [List.getElem?_eq_none (Nat.le_refl _)] at hx;cases hx),List.take_length,List.drop_length];rw [List.take_add_one,hc]
 rfl
structure Cel where
 files:Hd
 table:Hd
 live:Bool
 steps:Hd
 F:List Ent
 T:List E5
 S:List S2
def celD:Cel:=⟨zh,zh,false,zh,[],[],[]⟩
def KC:Rw.Kind Cel:=⟨fun c=>[sl c.files,sl c.table,.bool c.live,sl c.steps],4,by decide,fun _=>rfl,fun _ u h=>by simp [sl] at h;rcases h with rfl | rfl | rfl | rfl <;> rfl,celD⟩
def Q4 (o1 o2 o3 o4:Value) (b:Nat):Prop:=o1.ownBlock=some b∨o2.ownBlock=some b∨o3.ownBlock=some b∨o4.ownBlock=some b
def St4 (w:World) (s:Nat) (A:Abs) (Q:Nat→Prop):Prop:=∃ F,St w s F A 0∧∀ b,F b→¬ Q b
theorem St4.grow {w w':World} {s:Nat} {A:Abs} {Q Q':Nat→Prop} (h:St4 w s A Q) (o:Only Q w w') (hq:∀ b,Q' b→Fx Q w w' b):St4 w' s A Q':=by
 obtain ⟨F,h,d⟩:=h;refine ⟨F,h.only d o,fun b hb g=>?_⟩
 rcases hq b g with g | ⟨g,_⟩
 ·exact d b hb g
 ·have:=h.low b hb;omega
section
variable {w wr w':World} {n:Nat} {P R:List Nat} {S:Sts} {o1 o2 o3 o4 o':Value} {l1 l2:List Nat} {l3:List Hd} {l4:List Bool}
end
structure J4I (W:World) (Q:Nat→Prop) (s r:Nat) (A:Abs) (j:Nat) (F:Nat→Prop) (wr:World):Prop where
 st:St wr s F (A.take j) 0
 rs:Rs wr r (fun k=>Q k∨F k) A 0
 hi:∀ k,F k→W.heap.size≤k
 bel:Below W.heap.size W wr
section
variable {W wr w':World} {Q:Nat→Prop} {s r j:Nat} {A:Abs} {F:Nat→Prop}
theorem J4I.below (h:J4I W Q s r A j F wr) (b:Below wr.heap.size wr w'):J4I W Q s r A j F w':=⟨h.st.below b,Fs.Rs.below h.rs b,h.hi,h.bel.trans (b.mono h.bel.size)⟩
theorem J4I.step (h:J4I W Q s r A j F wr) (a:St w' s (Fx F wr w') (A.take (j+1)) 0) (o:Only F wr w'):J4I W Q s r A (j+1) (Fx F wr w') w':=by
 have hz:=h.bel.size;refine ⟨a,rs_mono (Fs.Rs.only h.rs (o.mono fun _ _ g=>.inr g)) fun k _ g=>?_,fun k g=>?_,h.bel.trans (o.below hz h.hi)⟩
 ·rcases g with g | g | g
  ·exact .inl (.inl g)
  ·exact .inl (.inr g)
  ·exact .inr g
 ·rcases g with g | g
  ·exact h.hi k g
  ·omega
theorem J4I.done (h:J4I W Q s r A A.length F wr) (hQ:∀ k,Q k→k < W.heap.size):St4 wr s A Q∧Rs wr r Q A 0:=by
 refine ⟨⟨F,by have:=h.st;rw [List.take_length] at this;exact this,fun b hb g=>?_⟩,rs_mono h.rs fun k _ g=>.inl g⟩;have:=h.hi b hb;have:=hQ b g
 omega
end
end Go.Proofs.YtelgnhmcnfibnaaGreatDoor.Pa
namespace Go.Proofs.YtelgnhmcnfibnaaGreatDoor.Pa
open Go.RowKit Go.Maps
open Fs (Abs St Rs Rst Only Fx Lst Ent OkA addE addA new_any new_st below_new add_any AddPost at3 E3 ow_only)
open Rw (Rd Ow At Kind)
open Ro (E5 K5 okE)
open Ck (LL lat RdL Hd sl zh)
open Fl (R4 K4 okL row_cell row_frozen file)
attribute [local irreducible] Sd.wpSd wpQuiet Sg.wpSg
structure JC (r b o:Nat) (lv:Value) (n p:Int) (u:Value) (W:World):Prop where
 r:W.cell? ⟨r,0,none⟩=some lv
 n:W.cell? ⟨b,o,none⟩=some (.int .i64 n)
 p:W.cell? ⟨b,o+1,none⟩=some (.int .i64 p)
 u:W.cell? ⟨b,o+2,none⟩=some u
end Go.Proofs.YtelgnhmcnfibnaaGreatDoor.Pa
namespace Go.Proofs.YtelgnhmcnfibnaaGreatDoor.Sv
open Go.RowKit Go.Maps
open Fs (Abs St Rs Rst Only Fx Lst Ent OkA addE addA new_st below_new add_any AddPost at3 E3 ow_only)
open Pa (Fls stL rstore_is RstIs J4I JC add_next rs_mono ptr)
open Rw (Rd Ow At Kind)
open Fl (R4 K4 okL row_cell row_frozen file)
attribute [local irreducible] Sd.wpSd wpQuiet
def Ows (B:Nat) (w:World) (k:Nat):Prop:=B≤k∧k < w.heap.size
def BdPost (w:World) (B:Nat) (A:Abs) (e:Ending) (w':World):Prop:=∃ s r F,e = .returned (.tuple #[ptr s,ptr r])∧J4I w (Ows B w) s r A A.length F w'∧w.heap.size≤r
theorem results_tmp2 {fn:Func} {t u:Tmp} (h:fn.results=#[.tmp t,.tmp u]) (tmps:Array Value) (P:Program) (w:World):(results fn tmps).run P w = .ok (.tuple #[tmps.getD t undef,tmps.getD u undef]) w:=by
 simp [results,h]
set_option maxHeartbeats 1000000 in
theorem build_any {w:World} {v:Value} {L:List Ent} {B:Nat} (H:Fls w v L B) (hB:B≤w.heap.size):Calls Tryz.prog 9 #[v] w (BdPost w B (stL L)):=by
 have b1:=below_new w (.cells #[.map none,.int .i64 0] 93);have hz:(w.alloc (.cells #[.map none,.int .i64 0] 93)).heap.size=w.heap.size+1:=by simp
 have N1:=Lib.hid (new_st w);have B1:=Lib.hid b1;have HB:=Lib.hid hB;have RS:=Lib.hid (rstore_is (w:=w.alloc (.cells #[.map none,.int .i64 0] 93)) (B:=B) (H.below b1) (by omega));have HZ:=Lib.hid hz;unfold RstIs ptr at RS;rw [hz] at RS;generalize stL L=A at *;clear b1 hz H hB
 go_enter Tryz.func9,Tryz.ntmps9
 go_wp2_with (go_at_call 25;refine (Fs.new_any _).mono ?_;rintro e w1 ⟨rfl,rfl⟩)
 go_wp2_with fail;refine RS.out.mono ?_;rintro e w2 ⟨rfl,rs2,b2⟩
 have J0:Hid (J4I w (Ows B w) w.heap.size (w.heap.size+1) A 0 (fun x=>x=w.heap.size) w2):=Lib.hid ⟨by rw [List.take_zero];exact N1.out.below (by rw [HZ.out];exact b2),rs_mono rs2 (fun x _ g=>by
  have:=HB.out
  rcases g with g | g
  ·exact ⟨g.1,by have:=g.2;omega⟩
  ·subst g;exact ⟨by omega,by omega⟩),fun x hx=>by subst hx;exact Nat.le_refl _,B1.out.trans (b2.mono (by omega))⟩
 clear RS N1 rs2 b2 B1 HZ HB;generalize hgs:w.heap.size=gs at J0;have HR:Hid (w.heap.size≤gs+1):=Lib.hid (by omega);clear hgs;generalize gs+1=r at *;go_wp2
 go_loopw [6] (fun i wr'=>∃ (j:Nat) (G:Nat→Prop),j≤A.length∧i = .int .i64 j∧Hid (J4I w (Ows B w) gs r A j G wr')) (fun i _=>A.length - (intOf i).toNat)
 case atStart=>exact ⟨0,_,Nat.zero_le _,rfl,J0⟩
 case round =>
  obtain ⟨j,G,hj,rfl,J⟩:=hrel;clear J0;obtain ⟨vL,Ln,⟨row,off1,list,ok1⟩,eL⟩:=J.out.rs;obtain ⟨la,lc,rfl,_,hmL,hL⟩:=list.rd;have lenL:Ln.length=A.length:=by rw [← eL,List.length_map]
  have ROW:=Lib.hid row;have c3:=row_cell row 0;have OKA:Hid (OkA A):=Lib.hid (by rw [← eL];exact ok1);unfold maxLen at hmL;clear row ok1
  by_cases hjl:j < A.length
  ·obtain ⟨b1,of1,rfl,A2⟩:=hL (by omega)
   have LI:=Lib.hid list;obtain ⟨e,he⟩:∃ e:Ent,Ln[j]? = some e:=⟨_,List.getElem?_eq_getElem (by omega)⟩;obtain ⟨d0,d1,d2⟩:=at3 A2 he;have he':A[j]? = some (e.n,e.p,e.l):=by rw [← eL,List.getElem?_map,he];rfl
   have AN:=Lib.hid (add_next OKA.out he');have RE:=Lib.hid (list.file e (List.mem_of_getElem? he));have OE:=Lib.hid (OKA.out.ok _ (List.mem_of_getElem? he'));have NB:Hid (¬ G b1):=Lib.hid (fun g=>list.off (by omega) b1 rfl (.inl (.inr g)));have NR:Hid (¬ G r):=Lib.hid (fun g=>off1 (.inr g));clear list hL A2 he he' off1 eL;obtain ⟨en,ep,ea,ec,el⟩:=e;unfold Ent.sl at d2 RE;simp only at d0 d1 d2 RE OE AN;rw [lenL] at c3;generalize hq:A.length=q at *;generalize hel:el.length=eq at *;have D0:=Lib.hid d0;have D1:=Lib.hid d1;have D2:=Lib.hid d2;go_upto_region 5 with fail;have CC:JC r b1 (of1+j * 3) (.slice (some ⟨b1,of1,none⟩) q lc) en ep (.slice ea eq ec) wr.drew:=⟨c3,D0.out,D1.out,D2.out⟩;have x0:=Sc.cell_in (C:=JC r b1 (of1+j * 3) (.slice (some ⟨b1,of1,none⟩) q lc) en ep (.slice ea eq ec)) (a:=⟨r,0,none⟩) (fun W' h=>h.r);have x1:=Sc.cell_in (C:=JC r b1 (of1+j * 3) (.slice (some ⟨b1,of1,none⟩) q lc) en ep (.slice ea eq ec)) (a:=⟨b1,of1+j * 3,none⟩) (fun W' h=>h.n);have x2:=Sc.cell_in (C:=JC r b1 (of1+j * 3) (.slice (some ⟨b1,of1,none⟩) q lc) en ep (.slice ea eq ec)) (a:=⟨b1,of1+j * 3+1,none⟩) (fun W' h=>h.p);have x3:=Sc.cell_in (C:=JC r b1 (of1+j * 3) (.slice (some ⟨b1,of1,none⟩) q lc) en ep (.slice ea eq ec)) (a:=⟨b1,of1+j * 3+2,none⟩) (fun W' h=>h.u);have x4:=Sc.cell_in (C:=JC r b1 (of1+j * 3) (.slice (some ⟨b1,of1,none⟩) q lc) en ep (.slice ea eq ec)) (a:=⟨b1,of1+j * 3+1+1,none⟩) (fun W' h=>h.u);have ne:Nonempty (Sc.In (JC r b1 (of1+j * 3) (.slice (some ⟨b1,of1,none⟩) q lc) en ep (.slice ea eq ec))):=⟨⟨_,CC⟩⟩;have J1:=Lib.hid (J.out.below (Below.refl wr.heap.size wr).drew);have AD:=Lib.hid (add_any J1.out.st en ep (.slice ea eq ec) el RE.out OE.out);unfold file AddPost at AD;rw [AN.out.1,AN.out.2] at AD;refine Sc.start (JC r b1 (of1+j * 3) (.slice (some ⟨b1,of1,none⟩) q lc) en ep (.slice ea eq ec)) [(false,0),(false,1),(false,2),(false,3),(false,4),(false,5),(false,6),(false,7),(false,8),(false,9),(false,10),(false,11),(false,12),(false,13),(false,14),(false,15),(false,16),(true,17)] (by kernel_rfl) (by kernel_rfl) (by kernel_rfl) CC ?_;dsimp only [Sd.picks,List.getElem?_cons_succ,List.getElem?_cons_zero]
   repeat (refine Sd.lit ?_;quiet_step (fail);refine wpQuiet_nil ?_)
   clear x0 x1 x2 x3 x4 c3 D0 D1 D2 d0 d1 d2 J;generalize wr.drew=Wd at *;refine Sd.call (by rfl) (fun K hK=>?_);go_simp;refine AD.out.mono ?_;rintro e w5 ⟨rfl,st5,o5⟩;refine hK _ _ (Sc.Cl.of ⟨o5.cell CC.r NR.out,o5.cell CC.n NB.out,o5.cell CC.p NB.out,o5.cell CC.u NB.out⟩) ?_;have J5:=Lib.hid (J1.out.step st5 o5);clear hK K st5 o5 AD CC J1 ROW;refine Sd.done ?_;go_wp2
   go_roundw
   case rel=>exact ⟨j+1,_,by omega,by go_num,J5⟩
   case measure=>simp [intOf];omega
  ·obtain rfl:j=A.length:=by omega
   rw [lenL] at c3;have JJ:=Lib.hid J.out;clear J list ROW;generalize hm:A.length=m at *;have HM:=Lib.hid hm;clear hm;go_wp2
   (try simp only [Exit.inBlock,Exit.then])
   exact bodyPost_ret (v:=.tuple #[ptr gs,ptr r]) (results_tmp2 (t:=2) (u:=3) rfl _ _ _) rfl ⟨gs,r,G,rfl,by rw [HM.out];exact JJ.out,HR.out⟩
end Go.Proofs.YtelgnhmcnfibnaaGreatDoor.Sv
namespace Go.Proofs.YtelgnhmcnfibnaaGreatDoor.Sv
open Go.RowKit Go.Maps
open Fs (Abs St Rs Only Fx Glob Ls Ent Dd Cb files_any FilesPost same_is denied_st)
open Pa (Fls stL J4I rs_mono)
open Fl (R4 z4 rec4 arr4 okR row_cell row_frozen eq_rec)
open Ad (addr)
attribute [local irreducible] Sd.wpSd wpQuiet
theorem dd_of {W w':World} {Q:Nat→Prop} {s r k:Nat} {A:Abs} {F:Nat→Prop} (h:J4I W Q s r A k F w') (hk:k=A.length) (hr:W.heap.size≤r):Dd W s r F A 0 A 0 w':=by
 subst hk;exact ⟨by have:=h.st;rwa [List.take_length] at this,rs_mono h.rs fun _ _ g=>.inr g,h.hi,hr,h.bel⟩
theorem cb_of {W w':World} {Q:Nat→Prop} {s r k g:Nat} {A:Abs} {F:Nat→Prop} {cs:Array Value} {t:TypeId} (h:J4I W Q s r A k F w') (hr:W.heap.size≤r) (row:W.heap[g]? = some (.cells cs t (0,0))):Cb F r w' g cs t :=
 have l:=lt_of_block row
 ⟨(h.bel.block g l).trans row,fun f=>by have:=h.hi g f;omega,by omega⟩
theorem nil_no (A:Abs) (n:Int) (q:R4) (b:B5):rpO true A n q b=false:=by
 unfold rpO;refine decide_eq_false ?_;unfold obE xE
 split
 ·simp
 ·split
  ·decide
  ·split
   ·decide
   ·split <;> decide
theorem only_below {w w':World} (o:Only (fun _=>False) w w'):Below w.heap.size w w':=o.below (Nat.le_refl _) nofun
structure Bo (w:World) (o f r:Int) (v q:R4) (b:B5) (W:World):Prop where
 a:W.heap[w.heap.size]? = some (.cells #[.int .i64 o,.int .i64 f,.int .i64 r] 24 (0,0))
 v:W.heap[w.heap.size+1]? = some (.cells (arr4 v) 26 (0,0))
 q:W.heap[w.heap.size+2]? = some (.cells (arr4 q) 25 (0,0))
 d:W.heap[w.heap.size+3]? = some (.cells (arr5 b) 27 (0,0))
 bel:Below w.heap.size w W
 siz:w.heap.size+4≤W.heap.size
theorem Bo.mono {w W W':World} {o f r:Int} {v q:R4} {b:B5} (h:Bo w o f r v q b W) (k:Below W.heap.size W W'):Bo w o f r v q b W' :=
 have s:=h.siz
 ⟨(k.block _ (by omega)).trans h.a,(k.block _ (by omega)).trans h.v,(k.block _ (by omega)).trans h.q,(k.block _ (by omega)).trans h.d,h.bel.trans (k.mono h.bel.size),Nat.le_trans h.siz k.size⟩
theorem bo_of (w:World) (o f r:Int) (v q:R4) (b:B5):Bo w o f r v q b ((((w.alloc (.cells #[.int .i64 o,.int .i64 f,.int .i64 r] 24)).alloc (.cells (arr4 v) 26)).alloc (.cells (arr4 q) 25)).alloc (.cells (arr5 b) 27)):=by
 obtain ⟨h1,h2,h3,h4,h5,h6⟩:=four_new w (.cells #[.int .i64 o,.int .i64 f,.int .i64 r] 24) (.cells (arr4 v) 26) (.cells (arr4 q) 25) (.cells (arr5 b) 27);exact ⟨h1,h2,h3,h4,h5,by omega⟩
set_option maxHeartbeats 4000000 in
theorem bytes_law {w:World} {vl:Value} {L:List Ent} (hg:Glob w) (H:Fls w vl L w.heap.size) (n:Int) (o f r:Int) (v q:R4) (hq:okR q) (b:B5) (hb:is5 b) :
 Calls Tryz.prog 3 #[vl,.int .i64 n,addr o f r,rec4 v,rec4 q,val5 b] w fun e w'=>e = .returned (.bool true)∧Below w.heap.size w w':=by
 have S0:Hid (Bo w o f r v q b ((((w.alloc (.cells #[.int .i64 o,.int .i64 f,.int .i64 r] 24)).alloc (.cells #[.int .u8 v.1,.int .u8 v.2.1,.int .u8 v.2.2.1,.int .u8 v.2.2.2] 26)).alloc (.cells #[.int .u8 q.1,.int .u8 q.2.1,.int .u8 q.2.2.1,.int .u8 q.2.2.2] 25)).alloc (.cells #[.int .u8 b.1,.int .u8 b.2.1,.int .u8 b.2.2.1,.int .u8 b.2.2.2.1,.int .u8 b.2.2.2.2] 27))):=Lib.hid (bo_of w o f r v q b);have HG:=Lib.hid hg;have HH:=Lib.hid H;have HQ:=Lib.hid hq;have HB:=Lib.hid hb;clear hg H hq hb;unfold rec4 val5 addr
 go_enter Tryz.func3,Tryz.ntmps3
 go_wp2_with fail;generalize (((w.alloc (.cells #[.int .i64 o,.int .i64 f,.int .i64 r] 24)).alloc (.cells #[.int .u8 v.1,.int .u8 v.2.1,.int .u8 v.2.2.1,.int .u8 v.2.2.2] 26)).alloc (.cells #[.int .u8 q.1,.int .u8 q.2.1,.int .u8 q.2.2.1,.int .u8 q.2.2.2] 25)).alloc (.cells #[.int .u8 b.1,.int .u8 b.2.1,.int .u8 b.2.2.1,.int .u8 b.2.2.2.1,.int .u8 b.2.2.2.2] 27)=W0 at *;have AK:Hid (∀ W,Calls Tryz.prog 5 #[.int .i64 n,.agg #[.int .i64 o,.int .i64 f,.int .i64 r]] W (AskPost W n o f r)):=Lib.hid fun W=>sask_any W n o f r;have RK:Hid (∀ W,Calls Tryz.prog 6 #[.int .i64 n,.agg #[.int .i64 o,.int .i64 f,.int .i64 r]] W (AskPost W n o f r)):=Lib.hid fun W=>rask_any W n o f r;have OK:Hid (∀ W,Calls Tryz.prog 7 #[.agg #[.int .u8 b.1,.int .u8 b.2.1,.int .u8 b.2.2.1,.int .u8 b.2.2.2.1,.int .u8 b.2.2.2.2]] W (OpnPost W b)):=Lib.hid fun W=>open_any W b;have RO:Hid (∀ W,Calls Tryz.prog 8 #[.agg #[.int .u8 b.1,.int .u8 b.2.1,.int .u8 b.2.2.1,.int .u8 b.2.2.2.1,.int .u8 b.2.2.2.2]] W (OpnPost W b)):=Lib.hid fun W=>ropen_any W b;unfold AskPost at AK RK;unfold OpnPost at OK RO;generalize askB n o f r=X at AK RK;generalize askE n o f r=XE at AK RK;generalize opnV b=P at OK RO;generalize opnE b=PE at OK RO;unfold rec4 at AK RK OK RO;refine (AK.out _).mono ?_;rintro e w1 ⟨rfl,bw⟩;have S1:=Lib.hid ((S0.out.mono bw).mono (Fs.below_new w1 (.cells #[.int .u8 X.1,.int .u8 X.2.1,.int .u8 X.2.2.1,.int .u8 X.2.2.2] 25)));have RX:Hid ((w1.alloc (.cells #[.int .u8 X.1,.int .u8 X.2.1,.int .u8 X.2.2.1,.int .u8 X.2.2.2] 25)).heap[w1.heap.size]? = some (.cells #[.int .u8 X.1,.int .u8 X.2.1,.int .u8 X.2.2.1,.int .u8 X.2.2.2] 25 (0,0))):=Lib.hid (heap_alloc_new w1 _);clear bw S0 AK;go_upto_region 2 with fail;generalize w1.alloc (.cells #[.int .u8 X.1,.int .u8 X.2.1,.int .u8 X.2.2.1,.int .u8 X.2.2.2] 25)=W1 at *;generalize hgx:w1.heap.size=gx at *;clear hgx;have a0:W1.cell? ⟨w.heap.size,0,none⟩=some (.int .i64 o):=row_cell S1.out.a 0;have a1:W1.cell? ⟨w.heap.size,1,none⟩=some (.int .i64 f):=row_cell S1.out.a 1;have a2:W1.cell? ⟨w.heap.size,2,none⟩=some (.int .i64 r):=row_cell S1.out.a 2;go_wp2_with fail;clear a0 a1 a2;refine (RK.out _).mono ?_;rintro e w2 ⟨rfl,bw⟩;have S2:=Lib.hid ((S1.out.mono bw).mono (Fs.below_new w2 (.cells #[.int .u8 X.1,.int .u8 X.2.1,.int .u8 X.2.2.1,.int .u8 X.2.2.2] 25)));have RX:=Lib.hid (((bw.trans ((Fs.below_new w2 (.cells #[.int .u8 X.1,.int .u8 X.2.1,.int .u8 X.2.2.1,.int .u8 X.2.2.2] 25)).mono bw.size)).block _ (lt_of_block RX.out)).trans RX.out);have RY:Hid ((w2.alloc (.cells #[.int .u8 X.1,.int .u8 X.2.1,.int .u8 X.2.2.1,.int .u8 X.2.2.2] 25)).heap[w2.heap.size]? = some (.cells #[.int .u8 X.1,.int .u8 X.2.1,.int .u8 X.2.2.1,.int .u8 X.2.2.2] 25 (0,0))):=Lib.hid (heap_alloc_new w2 _);clear bw S1 RK;go_upto_region 3 with fail;generalize w2.alloc (.cells #[.int .u8 X.1,.int .u8 X.2.1,.int .u8 X.2.2.1,.int .u8 X.2.2.2] 25)=W2 at *;generalize hgy:w2.heap.size=gy at *;clear hgy;have e0:W2.cell? ⟨w.heap.size+3,0,none⟩=some (.int .u8 b.1):=row_cell S2.out.d 0;have e1:W2.cell? ⟨w.heap.size+3,1,none⟩=some (.int .u8 b.2.1):=row_cell S2.out.d 1;have e2:W2.cell? ⟨w.heap.size+3,2,none⟩=some (.int .u8 b.2.2.1):=row_cell S2.out.d 2;have e3:W2.cell? ⟨w.heap.size+3,3,none⟩=some (.int .u8 b.2.2.2.1):=row_cell S2.out.d 3;have e4:W2.cell? ⟨w.heap.size+3,4,none⟩=some (.int .u8 b.2.2.2.2):=row_cell S2.out.d 4;go_wp2_with fail;clear e0 e1 e2 e3 e4;refine (OK.out _).mono ?_;rintro e w3 ⟨rfl,bw⟩;have S3:=Lib.hid ((S2.out.mono bw).mono (Fs.below_new w3 (.cells #[.int .u8 P.1,.int .u8 P.2.1,.int .u8 P.2.2.1,.int .u8 P.2.2.2] 26)));have RX:=Lib.hid (((bw.trans ((Fs.below_new w3 (.cells #[.int .u8 P.1,.int .u8 P.2.1,.int .u8 P.2.2.1,.int .u8 P.2.2.2] 26)).mono bw.size)).block _ (lt_of_block RX.out)).trans RX.out);have RY:=Lib.hid (((bw.trans ((Fs.below_new w3 (.cells #[.int .u8 P.1,.int .u8 P.2.1,.int .u8 P.2.2.1,.int .u8 P.2.2.2] 26)).mono bw.size)).block _ (lt_of_block RY.out)).trans RY.out);have RP:Hid ((w3.alloc (.cells #[.int .u8 P.1,.int .u8 P.2.1,.int .u8 P.2.2.1,.int .u8 P.2.2.2] 26)).heap[w3.heap.size]? = some (.cells #[.int .u8 P.1,.int .u8 P.2.1,.int .u8 P.2.2.1,.int .u8 P.2.2.2] 26 (0,0))):=Lib.hid (heap_alloc_new w3 _);clear bw S2 OK;go_upto_region 4 with fail;generalize w3.alloc (.cells #[.int .u8 P.1,.int .u8 P.2.1,.int .u8 P.2.2.1,.int .u8 P.2.2.2] 26)=W3 at *;generalize hgp:w3.heap.size=gp at *;clear hgp;have e0:W3.cell? ⟨w.heap.size+3,0,none⟩=some (.int .u8 b.1):=row_cell S3.out.d 0;have e1:W3.cell? ⟨w.heap.size+3,1,none⟩=some (.int .u8 b.2.1):=row_cell S3.out.d 1;have e2:W3.cell? ⟨w.heap.size+3,2,none⟩=some (.int .u8 b.2.2.1):=row_cell S3.out.d 2;have e3:W3.cell? ⟨w.heap.size+3,3,none⟩=some (.int .u8 b.2.2.2.1):=row_cell S3.out.d 3;have e4:W3.cell? ⟨w.heap.size+3,4,none⟩=some (.int .u8 b.2.2.2.2):=row_cell S3.out.d 4;go_wp2_with fail;clear e0 e1 e2 e3 e4;refine (RO.out _).mono ?_;rintro e w4 ⟨rfl,bw⟩;have S4:=Lib.hid ((S3.out.mono bw).mono (Fs.below_new w4 (.cells #[.int .u8 P.1,.int .u8 P.2.1,.int .u8 P.2.2.1,.int .u8 P.2.2.2] 26)));have RX:=Lib.hid (((bw.trans ((Fs.below_new w4 (.cells #[.int .u8 P.1,.int .u8 P.2.1,.int .u8 P.2.2.1,.int .u8 P.2.2.2] 26)).mono bw.size)).block _ (lt_of_block RX.out)).trans RX.out);have RY:=Lib.hid (((bw.trans ((Fs.below_new w4 (.cells #[.int .u8 P.1,.int .u8 P.2.1,.int .u8 P.2.2.1,.int .u8 P.2.2.2] 26)).mono bw.size)).block _ (lt_of_block RY.out)).trans RY.out);have RP:=Lib.hid (((bw.trans ((Fs.below_new w4 (.cells #[.int .u8 P.1,.int .u8 P.2.1,.int .u8 P.2.2.1,.int .u8 P.2.2.2] 26)).mono bw.size)).block _ (lt_of_block RP.out)).trans RP.out);have RQ:Hid ((w4.alloc (.cells #[.int .u8 P.1,.int .u8 P.2.1,.int .u8 P.2.2.1,.int .u8 P.2.2.2] 26)).heap[w4.heap.size]? = some (.cells #[.int .u8 P.1,.int .u8 P.2.1,.int .u8 P.2.2.1,.int .u8 P.2.2.2] 26 (0,0))):=Lib.hid (heap_alloc_new w4 _);clear bw S3 RO;go_upto_region 5 with fail;generalize w4.alloc (.cells #[.int .u8 P.1,.int .u8 P.2.1,.int .u8 P.2.2.1,.int .u8 P.2.2.2] 26)=W4 at *;generalize hgq:w4.heap.size=gq at *;clear hgq;go_wp2_with fail;refine (build_any (HH.out.below S4.out.bel) S4.out.bel.size).mono ?_;rintro e w5 ⟨s,rr,F,rfl,J,hr⟩;generalize stL L=A at *;have DD:=Lib.hid (dd_of J rfl hr);have G5:=Lib.hid (HG.out.below (S4.out.bel));have KQ:=Lib.hid (cb_of J hr S4.out.q);have KD:=Lib.hid (cb_of J hr S4.out.d);have KV:=Lib.hid (cb_of J hr S4.out.v);have KX:=Lib.hid (cb_of J hr RX.out);have KY:=Lib.hid (cb_of J hr RY.out);have KP:=Lib.hid (cb_of J hr RP.out);have KW:=Lib.hid (cb_of J hr RQ.out);have BL:=Lib.hid S4.out.bel;clear J hr S4 RX RY RP RQ HH;unfold Pa.ptr;have x0:w5.cell? ⟨w.heap.size+2,0,none⟩=some (.int .u8 q.1):=row_cell KQ.out.row 0;have x1:w5.cell? ⟨w.heap.size+2,1,none⟩=some (.int .u8 q.2.1):=row_cell KQ.out.row 1;have x2:w5.cell? ⟨w.heap.size+2,2,none⟩=some (.int .u8 q.2.2.1):=row_cell KQ.out.row 2;have x3:w5.cell? ⟨w.heap.size+2,3,none⟩=some (.int .u8 q.2.2.2):=row_cell KQ.out.row 3;have e0:w5.cell? ⟨w.heap.size+3,0,none⟩=some (.int .u8 b.1):=row_cell KD.out.row 0;have e1:w5.cell? ⟨w.heap.size+3,1,none⟩=some (.int .u8 b.2.1):=row_cell KD.out.row 1;have e2:w5.cell? ⟨w.heap.size+3,2,none⟩=some (.int .u8 b.2.2.1):=row_cell KD.out.row 2;have e3:w5.cell? ⟨w.heap.size+3,3,none⟩=some (.int .u8 b.2.2.2.1):=row_cell KD.out.row 3;have e4:w5.cell? ⟨w.heap.size+3,4,none⟩=some (.int .u8 b.2.2.2.2):=row_cell KD.out.row 4;have SV:=serve_any (nd_of DD.out.st (DD.out.glob G5.out).1 (DD.out.glob G5.out).2) (by decide) n q HQ.out b HB.out;have RV:=Lib.hid (fun W F d (h:Rs W rr F A d) hF (hd:0≤d∧d < 1000000)=>rserve_any h hF hd n q HQ.out b HB.out);have NV:=Lib.hid (fun W (hg:Glob W)=>serve_any (w:=W) (p:=.pointer none) (F:=fun _=>False) (A:=[]) (d:=0) (z:=true) ⟨nofun,hg,nofun,nofun,fun _=>rfl⟩ (by decide) n q HQ.out b HB.out);unfold SvPost at SV NV;unfold RsvPost at RV;rw [nil_no] at NV;generalize rpB false A n q b=B at *;generalize rpO false A n q b=O at *;generalize obA false A n q b=A' at *;generalize rpB true [] n q b=NB at *;unfold rec4 val5 at SV RV NV;go_wp2_with fail;clear x0 x1 x2 x3 e0 e1 e2 e3 e4;refine SV.mono ?_;rintro e w6 ⟨rfl,nd,on⟩;have DA:=Lib.hid (DD.out.inS nd.store on);have KQ:=Lib.hid (KQ.out.inS on);have KD:=Lib.hid (KD.out.inS on);have KV:=Lib.hid (KV.out.inS on);have KX:=Lib.hid (KX.out.inS on);have KY:=Lib.hid (KY.out.inS on);have KP:=Lib.hid (KP.out.inS on);have KW:=Lib.hid (KW.out.inS on);clear SV nd on DD HQ HB;generalize Fx F w5 w6=F6 at *;have DD:=Lib.hid (DA.out.below (Fs.below_new w6 (.cells #[.int .u8 B.1,.int .u8 B.2.1,.int .u8 B.2.2.1,.int .u8 B.2.2.2.1,.int .u8 B.2.2.2.2] 27)));have KB:=Lib.hid (DA.out.box #[.int .u8 B.1,.int .u8 B.2.1,.int .u8 B.2.2.1,.int .u8 B.2.2.2.1,.int .u8 B.2.2.2.2] 27);have KQ:=Lib.hid (KQ.out.below (Fs.below_new w6 (.cells #[.int .u8 B.1,.int .u8 B.2.1,.int .u8 B.2.2.1,.int .u8 B.2.2.2.1,.int .u8 B.2.2.2.2] 27)));have KD:=Lib.hid (KD.out.below (Fs.below_new w6 (.cells #[.int .u8 B.1,.int .u8 B.2.1,.int .u8 B.2.2.1,.int .u8 B.2.2.2.1,.int .u8 B.2.2.2.2] 27)));have KV:=Lib.hid (KV.out.below (Fs.below_new w6 (.cells #[.int .u8 B.1,.int .u8 B.2.1,.int .u8 B.2.2.1,.int .u8 B.2.2.2.1,.int .u8 B.2.2.2.2] 27)));have KX:=Lib.hid (KX.out.below (Fs.below_new w6 (.cells #[.int .u8 B.1,.int .u8 B.2.1,.int .u8 B.2.2.1,.int .u8 B.2.2.2.1,.int .u8 B.2.2.2.2] 27)));have KY:=Lib.hid (KY.out.below (Fs.below_new w6 (.cells #[.int .u8 B.1,.int .u8 B.2.1,.int .u8 B.2.2.1,.int .u8 B.2.2.2.1,.int .u8 B.2.2.2.2] 27)));have KP:=Lib.hid (KP.out.below (Fs.below_new w6 (.cells #[.int .u8 B.1,.int .u8 B.2.1,.int .u8 B.2.2.1,.int .u8 B.2.2.2.1,.int .u8 B.2.2.2.2] 27)));have KW:=Lib.hid (KW.out.below (Fs.below_new w6 (.cells #[.int .u8 B.1,.int .u8 B.2.1,.int .u8 B.2.2.1,.int .u8 B.2.2.2.1,.int .u8 B.2.2.2.2] 27)));clear DA;go_upto_region 7 with fail;generalize w6.alloc (.cells #[.int .u8 B.1,.int .u8 B.2.1,.int .u8 B.2.2.1,.int .u8 B.2.2.2.1,.int .u8 B.2.2.2.2] 27)=W6 at *;generalize hgb:w6.heap.size=gb at *;clear hgb;have x0:W6.cell? ⟨w.heap.size+2,0,none⟩=some (.int .u8 q.1):=row_cell KQ.out.row 0;have x1:W6.cell? ⟨w.heap.size+2,1,none⟩=some (.int .u8 q.2.1):=row_cell KQ.out.row 1;have x2:W6.cell? ⟨w.heap.size+2,2,none⟩=some (.int .u8 q.2.2.1):=row_cell KQ.out.row 2;have x3:W6.cell? ⟨w.heap.size+2,3,none⟩=some (.int .u8 q.2.2.2):=row_cell KQ.out.row 3;have e0:W6.cell? ⟨w.heap.size+3,0,none⟩=some (.int .u8 b.1):=row_cell KD.out.row 0;have e1:W6.cell? ⟨w.heap.size+3,1,none⟩=some (.int .u8 b.2.1):=row_cell KD.out.row 1;have e2:W6.cell? ⟨w.heap.size+3,2,none⟩=some (.int .u8 b.2.2.1):=row_cell KD.out.row 2;have e3:W6.cell? ⟨w.heap.size+3,3,none⟩=some (.int .u8 b.2.2.2.1):=row_cell KD.out.row 3;have e4:W6.cell? ⟨w.heap.size+3,4,none⟩=some (.int .u8 b.2.2.2.2):=row_cell KD.out.row 4;go_wp2_with fail;clear x0 x1 x2 x3 e0 e1 e2 e3 e4;refine (RV.out W6 F6 0 DD.out.rs DD.out.st.low (by decide)).mono ?_;rintro e w7 ⟨rfl,rs,on⟩;have DA:=Lib.hid (DD.out.inR rs on);have KQ:=Lib.hid (KQ.out.inR on);have KD:=Lib.hid (KD.out.inR on);have KV:=Lib.hid (KV.out.inR on);have KX:=Lib.hid (KX.out.inR on);have KY:=Lib.hid (KY.out.inR on);have KP:=Lib.hid (KP.out.inR on);have KW:=Lib.hid (KW.out.inR on);have KB:=Lib.hid (KB.out.inR on);clear rs on DD RV;have DD:=Lib.hid (DA.out.below (Fs.below_new w7 (.cells #[.int .u8 B.1,.int .u8 B.2.1,.int .u8 B.2.2.1,.int .u8 B.2.2.2.1,.int .u8 B.2.2.2.2] 27)));have KC:=Lib.hid (DA.out.box #[.int .u8 B.1,.int .u8 B.2.1,.int .u8 B.2.2.1,.int .u8 B.2.2.2.1,.int .u8 B.2.2.2.2] 27);have KQ:=Lib.hid (KQ.out.below (Fs.below_new w7 (.cells #[.int .u8 B.1,.int .u8 B.2.1,.int .u8 B.2.2.1,.int .u8 B.2.2.2.1,.int .u8 B.2.2.2.2] 27)));have KD:=Lib.hid (KD.out.below (Fs.below_new w7 (.cells #[.int .u8 B.1,.int .u8 B.2.1,.int .u8 B.2.2.1,.int .u8 B.2.2.2.1,.int .u8 B.2.2.2.2] 27)));have KV:=Lib.hid (KV.out.below (Fs.below_new w7 (.cells #[.int .u8 B.1,.int .u8 B.2.1,.int .u8 B.2.2.1,.int .u8 B.2.2.2.1,.int .u8 B.2.2.2.2] 27)));have KX:=Lib.hid (KX.out.below (Fs.below_new w7 (.cells #[.int .u8 B.1,.int .u8 B.2.1,.int .u8 B.2.2.1,.int .u8 B.2.2.2.1,.int .u8 B.2.2.2.2] 27)));have KY:=Lib.hid (KY.out.below (Fs.below_new w7 (.cells #[.int .u8 B.1,.int .u8 B.2.1,.int .u8 B.2.2.1,.int .u8 B.2.2.2.1,.int .u8 B.2.2.2.2] 27)));have KP:=Lib.hid (KP.out.below (Fs.below_new w7 (.cells #[.int .u8 B.1,.int .u8 B.2.1,.int .u8 B.2.2.1,.int .u8 B.2.2.2.1,.int .u8 B.2.2.2.2] 27)));have KW:=Lib.hid (KW.out.below (Fs.below_new w7 (.cells #[.int .u8 B.1,.int .u8 B.2.1,.int .u8 B.2.2.1,.int .u8 B.2.2.2.1,.int .u8 B.2.2.2.2] 27)));have KB:=Lib.hid (KB.out.below (Fs.below_new w7 (.cells #[.int .u8 B.1,.int .u8 B.2.1,.int .u8 B.2.2.1,.int .u8 B.2.2.2.1,.int .u8 B.2.2.2.2] 27)));clear DA;go_upto_region 8 with fail;generalize w7.alloc (.cells #[.int .u8 B.1,.int .u8 B.2.1,.int .u8 B.2.2.1,.int .u8 B.2.2.2.1,.int .u8 B.2.2.2.2] 27)=W7 at *;generalize hgc:w7.heap.size=gc at *;clear hgc;have x0:W7.cell? ⟨w.heap.size+2,0,none⟩=some (.int .u8 q.1):=row_cell KQ.out.row 0;have x1:W7.cell? ⟨w.heap.size+2,1,none⟩=some (.int .u8 q.2.1):=row_cell KQ.out.row 1;have x2:W7.cell? ⟨w.heap.size+2,2,none⟩=some (.int .u8 q.2.2.1):=row_cell KQ.out.row 2;have x3:W7.cell? ⟨w.heap.size+2,3,none⟩=some (.int .u8 q.2.2.2):=row_cell KQ.out.row 3;have e0:W7.cell? ⟨w.heap.size+3,0,none⟩=some (.int .u8 b.1):=row_cell KD.out.row 0;have e1:W7.cell? ⟨w.heap.size+3,1,none⟩=some (.int .u8 b.2.1):=row_cell KD.out.row 1;have e2:W7.cell? ⟨w.heap.size+3,2,none⟩=some (.int .u8 b.2.2.1):=row_cell KD.out.row 2;have e3:W7.cell? ⟨w.heap.size+3,3,none⟩=some (.int .u8 b.2.2.2.1):=row_cell KD.out.row 3;have e4:W7.cell? ⟨w.heap.size+3,4,none⟩=some (.int .u8 b.2.2.2.2):=row_cell KD.out.row 4;go_wp2_with fail;clear x0 x1 x2 x3 e0 e1 e2 e3 e4;refine (NV.out W7 (DD.out.glob G5.out).1).mono ?_;rintro e w8 ⟨rfl,_,on⟩;have bw:=(only_below on).trans ((Fs.below_new w8 (.cells #[.int .u8 NB.1,.int .u8 NB.2.1,.int .u8 NB.2.2.1,.int .u8 NB.2.2.2.1,.int .u8 NB.2.2.2.2] 27)).mono (only_below on).size);clear on NV;have DD:=Lib.hid (DD.out.below bw);have KQ:=Lib.hid (KQ.out.below bw);have KD:=Lib.hid (KD.out.below bw);have KV:=Lib.hid (KV.out.below bw);have KX:=Lib.hid (KX.out.below bw);have KY:=Lib.hid (KY.out.below bw);have KP:=Lib.hid (KP.out.below bw);have KW:=Lib.hid (KW.out.below bw);have KB:=Lib.hid (KB.out.below bw);have KC:=Lib.hid (KC.out.below bw);clear bw;go_upto_region 9 with fail;generalize w8.alloc (.cells #[.int .u8 NB.1,.int .u8 NB.2.1,.int .u8 NB.2.2.1,.int .u8 NB.2.2.2.1,.int .u8 NB.2.2.2.2] 27)=W8 at *;obtain ⟨rv,rl,hrr,hra⟩:=id DD.out.rs;have LR:Hid (Ls (fun k=>F6 k∨k=rr) W8 rv A'):=⟨rl,hrr.list,hra⟩;generalize obD false A n q b 0=D at *;have z0:=Sd.cell_by (show W8.cell? ⟨rr,0,none⟩=some rv from row_cell hrr.row 0);have z1:=Sd.cell_by (show W8.cell? ⟨rr,1,none⟩=some (.int .i64 D) from row_cell hrr.row 1);have LE:=Lib.hid DD.out.st.okA.len;clear hrr hra rl;have ax0:=Sd.cell_by (show W8.cell? ⟨gx,0,none⟩=some (.int .u8 X.1) from row_cell KX.out.row 0);have ax1:=Sd.cell_by (show W8.cell? ⟨gx,1,none⟩=some (.int .u8 X.2.1) from row_cell KX.out.row 1);have ax2:=Sd.cell_by (show W8.cell? ⟨gx,2,none⟩=some (.int .u8 X.2.2.1) from row_cell KX.out.row 2);have ax3:=Sd.cell_by (show W8.cell? ⟨gx,3,none⟩=some (.int .u8 X.2.2.2) from row_cell KX.out.row 3);have ay0:=Sd.cell_by (show W8.cell? ⟨gy,0,none⟩=some (.int .u8 X.1) from row_cell KY.out.row 0);have ay1:=Sd.cell_by (show W8.cell? ⟨gy,1,none⟩=some (.int .u8 X.2.1) from row_cell KY.out.row 1);have ay2:=Sd.cell_by (show W8.cell? ⟨gy,2,none⟩=some (.int .u8 X.2.2.1) from row_cell KY.out.row 2);have ay3:=Sd.cell_by (show W8.cell? ⟨gy,3,none⟩=some (.int .u8 X.2.2.2) from row_cell KY.out.row 3);have ap0:=Sd.cell_by (show W8.cell? ⟨gp,0,none⟩=some (.int .u8 P.1) from row_cell KP.out.row 0);have ap1:=Sd.cell_by (show W8.cell? ⟨gp,1,none⟩=some (.int .u8 P.2.1) from row_cell KP.out.row 1);have ap2:=Sd.cell_by (show W8.cell? ⟨gp,2,none⟩=some (.int .u8 P.2.2.1) from row_cell KP.out.row 2);have ap3:=Sd.cell_by (show W8.cell? ⟨gp,3,none⟩=some (.int .u8 P.2.2.2) from row_cell KP.out.row 3);have aq0:=Sd.cell_by (show W8.cell? ⟨gq,0,none⟩=some (.int .u8 P.1) from row_cell KW.out.row 0);have aq1:=Sd.cell_by (show W8.cell? ⟨gq,1,none⟩=some (.int .u8 P.2.1) from row_cell KW.out.row 1);have aq2:=Sd.cell_by (show W8.cell? ⟨gq,2,none⟩=some (.int .u8 P.2.2.1) from row_cell KW.out.row 2);have aq3:=Sd.cell_by (show W8.cell? ⟨gq,3,none⟩=some (.int .u8 P.2.2.2) from row_cell KW.out.row 3);have av0:=Sd.cell_by (show W8.cell? ⟨w.heap.size+1,0,none⟩=some (.int .u8 v.1) from row_cell KV.out.row 0);have av1:=Sd.cell_by (show W8.cell? ⟨w.heap.size+1,1,none⟩=some (.int .u8 v.2.1) from row_cell KV.out.row 1);have av2:=Sd.cell_by (show W8.cell? ⟨w.heap.size+1,2,none⟩=some (.int .u8 v.2.2.1) from row_cell KV.out.row 2);have av3:=Sd.cell_by (show W8.cell? ⟨w.heap.size+1,3,none⟩=some (.int .u8 v.2.2.2) from row_cell KV.out.row 3);have ab0:=Sd.cell_by (show W8.cell? ⟨gb,0,none⟩=some (.int .u8 B.1) from row_cell KB.out.row 0);have ab1:=Sd.cell_by (show W8.cell? ⟨gb,1,none⟩=some (.int .u8 B.2.1) from row_cell KB.out.row 1);have ab2:=Sd.cell_by (show W8.cell? ⟨gb,2,none⟩=some (.int .u8 B.2.2.1) from row_cell KB.out.row 2);have ab3:=Sd.cell_by (show W8.cell? ⟨gb,3,none⟩=some (.int .u8 B.2.2.2.1) from row_cell KB.out.row 3);have ab4:=Sd.cell_by (show W8.cell? ⟨gb,4,none⟩=some (.int .u8 B.2.2.2.2) from row_cell KB.out.row 4);have ac0:=Sd.cell_by (show W8.cell? ⟨gc,0,none⟩=some (.int .u8 B.1) from row_cell KC.out.row 0);have ac1:=Sd.cell_by (show W8.cell? ⟨gc,1,none⟩=some (.int .u8 B.2.1) from row_cell KC.out.row 1);have ac2:=Sd.cell_by (show W8.cell? ⟨gc,2,none⟩=some (.int .u8 B.2.2.1) from row_cell KC.out.row 2);have ac3:=Sd.cell_by (show W8.cell? ⟨gc,3,none⟩=some (.int .u8 B.2.2.2.1) from row_cell KC.out.row 3);have ac4:=Sd.cell_by (show W8.cell? ⟨gc,4,none⟩=some (.int .u8 B.2.2.2.2) from row_cell KC.out.row 4);have ea:∀ W,(Op.equalIn 10000 25 (.agg #[.int .u8 X.1,.int .u8 X.2.1,.int .u8 X.2.2.1,.int .u8 X.2.2.2]) (.agg #[.int .u8 X.1,.int .u8 X.2.1,.int .u8 X.2.2.1,.int .u8 X.2.2.2])).run Tryz.prog W = .ok true W:=fun W=>by have:=eq_a4 X X W;rwa [decide_eq_true rfl] at this
 have er:∀ W,(Op.equalIn 10000 26 (.agg #[.int .u8 P.1,.int .u8 P.2.1,.int .u8 P.2.2.1,.int .u8 P.2.2.2]) (.agg #[.int .u8 P.1,.int .u8 P.2.1,.int .u8 P.2.2.1,.int .u8 P.2.2.2])).run Tryz.prog W = .ok true W:=fun W=>by have:=eq_rec P P W;rwa [decide_eq_true rfl] at this
 have eb:∀ W,(Op.equalIn 10000 27 (.agg #[.int .u8 B.1,.int .u8 B.2.1,.int .u8 B.2.2.1,.int .u8 B.2.2.2.1,.int .u8 B.2.2.2.2]) (.agg #[.int .u8 B.1,.int .u8 B.2.1,.int .u8 B.2.2.1,.int .u8 B.2.2.2.1,.int .u8 B.2.2.2.2])).run Tryz.prog W = .ok true W:=fun W=>by have:=eq_b5 B B W;rwa [decide_eq_true rfl] at this
 have D1:Hid (∀ W,Calls Tryz.prog 13 #[.agg #[.int .u8 v.1,.int .u8 v.2.1,.int .u8 v.2.2.1,.int .u8 v.2.2.2]] W fun e w'=>e = .returned (val5 (datB v))∧Below W.heap.size W w'):=Lib.hid fun W=>data_any W v;have D2:Hid (∀ W,Calls Tryz.prog 14 #[.agg #[.int .u8 v.1,.int .u8 v.2.1,.int .u8 v.2.2.1,.int .u8 v.2.2.2]] W fun e w'=>e = .returned (val5 (datB v))∧Below W.heap.size W w'):=Lib.hid fun W=>rdata_any W v;generalize datB v=V at *;have ev:∀ W,(Op.equalIn 10000 27 (.agg #[.int .u8 V.1,.int .u8 V.2.1,.int .u8 V.2.2.1,.int .u8 V.2.2.2.1,.int .u8 V.2.2.2.2]) (.agg #[.int .u8 V.1,.int .u8 V.2.1,.int .u8 V.2.2.1,.int .u8 V.2.2.2.1,.int .u8 V.2.2.2.2])).run Tryz.prog W = .ok true W:=fun W=>by have:=eq_b5 V V W;rwa [decide_eq_true rfl] at this
 unfold val5 at D1 D2;refine Sd.start [(true,0),(false,1),(false,2),(false,3),(false,4),(false,5),(false,6),(false,7),(false,8),(false,9),(false,10),(false,11),(false,12),(false,13),(false,14),(false,15),(false,16),(false,17),(false,18),(false,19),(false,20),(false,21),(false,22),(false,24),(true,23),(true,25),(false,26),(false,27),(false,28),(false,29),(false,30),(false,31),(false,32),(false,33),(false,34),(false,35),(false,36),(false,37),(false,38),(false,39),(false,40),(false,41),(false,42),(false,43),(false,45),(false,46),(false,47),(false,48),(true,44),(true,49),(false,50),(false,51),(false,52),(false,54),(false,55),(false,56),(false,57),(true,53),(false,58),(false,59),(false,60)] (by kernel_rfl) (by kernel_rfl) (by kernel_rfl) ?_;dsimp only [Sd.picks,List.getElem?_cons_succ,List.getElem?_cons_zero];have B0:=Lib.hid ((Below.refl W8.heap.size W8).drew);generalize W8.drew=Y0 at *;refine Sd.call (by rfl) (fun K hK=>?_);go_simp;refine (awake_any Y0 (DD.out.below B0.out |>.glob G5.out).1).mono ?_;rintro e Y1 ⟨rfl,b⟩;have B1:=Lib.hid (B0.out.trans (b.mono B0.out.size));refine hK _ _ (Sd.Cl.of B1.out) ?_;clear hK K b B0
 repeat (refine Sd.lit ?_;quiet_step (fail);refine wpQuiet_nil ?_)
 refine Sd.call (by rfl) (fun K hK=>?_);go_simp;refine (D1.out Y1).mono ?_;rintro e Y2 ⟨rfl,b⟩;have B2:=Lib.hid (B1.out.trans (b.mono B1.out.size));refine hK _ _ (Sd.Cl.of B2.out) ?_;clear hK K b B1;refine Sd.call (by rfl) (fun K hK=>?_);go_simp;refine (D2.out Y2).mono ?_;rintro e Y3 ⟨rfl,b⟩;have B3:=Lib.hid (B2.out.trans (b.mono B2.out.size));refine hK _ _ (Sd.Cl.of B3.out) ?_;clear hK K b B2
 repeat (refine Sd.lit ?_;quiet_step (fail);refine wpQuiet_nil ?_)
 refine Sd.call (by rfl) (fun K hK=>?_);go_simp;refine (files_any (DD.out.below B3.out).st).mono ?_;rintro e Y4 ⟨u,rfl,hls,b⟩;have LV:=Lib.hid (hls F6 (DD.out.below B3.out).st.low);clear hls;have B4:=Lib.hid (B3.out.trans (b.mono B3.out.size));refine hK _ _ (Sd.Cl.of B4.out) ?_;clear hK K b B3;refine Sd.call (by rfl) (fun K hK=>?_);go_simp;refine (same_is LV.out (LR.out.below B4.out) LE.out).mono ?_;rintro e Y5 ⟨rfl,b⟩;have B5:=Lib.hid (B4.out.trans (b.mono B4.out.size));refine hK _ _ (Sd.Cl.of B5.out) ?_;clear hK K b B4
 repeat (refine Sd.lit ?_;quiet_step (fail);refine wpQuiet_nil ?_)
 refine Sd.call (by rfl) (fun K hK=>?_);go_simp;refine (denied_st (DD.out.below B5.out).st).mono ?_;rintro e Y6 ⟨rfl,b⟩;have B6:=Lib.hid (B5.out.trans (b.mono B5.out.size));refine hK _ _ (Sd.Cl.of B6.out) ?_;clear hK K b B5
 repeat (refine Sd.lit ?_;quiet_step (fail);refine wpQuiet_nil ?_)
 refine Sd.done ?_;have BB:=Lib.hid (BL.out.trans ((DD.out.below B6.out).bel.mono BL.out.size));go_wp2
 go_ret
 exact ⟨rfl,BB.out⟩
end Go.Proofs.YtelgnhmcnfibnaaGreatDoor.Sv
namespace Go.Proofs.YtelgnhmcnfibnaaGreatDoor.Sv
open Go.RowKit Go.Maps
open Fl (R4 z4 rec4 arr4 okR row_cell row_frozen sto4 sto4_below okR_z)
open Fs (Abs Only Fx Rs results_rec)
open Ad (addr)
attribute [local irreducible] Sd.wpSd wpQuiet Sz.wpSz
def RtyPost (w:World) (rp:Nat) (F:Nat→Prop) (A:Abs) (d:Int) (n m o f r:Int) (v:R4) (t:Nat→Int) (e:Ending) (w':World):Prop :=
 e = .returned (.tuple #[rec4 (tyV false A n m o f r v t),.int .i64 (tyE false A n m o f r v t)])∧Rs w' rp F (tyA false A n m o f r v t) (tyD false A n m o f r v t d)∧Only (fun k=>k=rp) w w'
structure Rt0 (w:World) (o f r:Int) (v:R4) (t:Nat→Int) (W:World):Prop where
 a:W.heap[w.heap.size]? = some (.cells #[.int .i64 o,.int .i64 f,.int .i64 r] 24 (0,0))
 v:W.heap[w.heap.size+1]? = some (.cells (arr4 v) 26 (0,0))
 t:RowF W (w.heap.size+2) 52 14 t
 r:W.heap[w.heap.size+3]? = some (.cells (arr4 z4) 26 (0,0))
 bel:Below w.heap.size w W
 siz:w.heap.size+4≤W.heap.size
section
variable {w W W':World} {o f r:Int} {v:R4} {t:Nat→Int}
theorem Rt0.only (h:Rt0 w o f r v t W) {G:Nat→Prop} (k:Only G W W') (hG:∀ j,G j→w.heap.size+4≤j):Rt0 w o f r v t W' :=
 have s:=h.siz;have e:∀ j,j < w.heap.size+4→W'.heap[j]? = W.heap[j]?:=fun j hj=>k.block _ (by omega) (fun g=>by have:=hG _ g;omega)
 ⟨(e _ (by omega)).trans h.a,(e _ (by omega)).trans h.v,h.t.kept (e _ (by omega)),(e _ (by omega)).trans h.r,h.bel.trans (k.below h.bel.size fun j g=>by have:=hG _ g;omega),Nat.le_trans h.siz k.size⟩
theorem Rt0.mono (h:Rt0 w o f r v t W) (k:Below W.heap.size W W'):Rt0 w o f r v t W':=h.only (G:=fun _=>False) (Only.of_below k) nofun
end
theorem rt0_of (w:World) (o f r:Int) (v:R4) (t:Nat→Int):Rt0 w o f r v t ((((w.alloc (.cells #[.int .i64 o,.int .i64 f,.int .i64 r] 24)).alloc (.cells (arr4 v) 26)).alloc (.cells (bs 14 t) 52)).alloc (.cells (arr4 z4) 26)):=by
 obtain ⟨h1,h2,h3,h4,h5,h6⟩:=four_new w (.cells #[.int .i64 o,.int .i64 f,.int .i64 r] 24) (.cells (arr4 v) 26) (.cells (bs 14 t) 52) (.cells (arr4 z4) 26);exact ⟨h1,h2,h3,h4,h5,by omega⟩
theorem ixb_at {P:Program} {t e:TypeId} {n:Nat} (h:P.underlying t=some (.array n e)) (hs:∀ W,(sizeOf e).run P W = .ok 1 W) (g off k:Nat) (hk:k < n) (W:World):(Instr.indexAt t (.pointer (some ⟨g,off,none⟩)) (.int .i64 (k:Int))).run P W = .ok (.pointer (some ⟨g,off+k,none⟩)) W:=by
 have:(0:Int)≤(k:Int)∧(k:Int) < (n:Int):=⟨by omega,by omega⟩
 simp [Instr.indexAt,run_underlying h,Instr.sureAddr,asIntOf,hs,Addr.add,hk]
theorem ix4 (g k:Nat) (hk:k < 4) (W:World):(Instr.indexAt 25 (.pointer (some ⟨g,0,none⟩)) (.int .i64 (k:Int))).run Tryz.prog W = .ok (.pointer (some ⟨g,k,none⟩)) W:=by
 have:=ixb_at Tryz.underlying25 Tryz.sizeOf5 g 0 k hk W
 rwa [Nat.zero_add] at this
theorem ix5k (g k:Nat) (hk:k < 5) (W:World):(Instr.indexAt 27 (.pointer (some ⟨g,0,none⟩)) (.int .i64 (k:Int))).run Tryz.prog W = .ok (.pointer (some ⟨g,k,none⟩)) W:=by
 have:=ixb_at Tryz.underlying27 Tryz.sizeOf5 g 0 k hk W
 rwa [Nat.zero_add] at this
theorem ix14 (g k:Nat) (hk:k < 14) (W:World):(Instr.indexAt 52 (.pointer (some ⟨g,0,none⟩)) (.int .i64 (k:Int))).run Tryz.prog W = .ok (.pointer (some ⟨g,k,none⟩)) W:=by
 have:=ixb_at Tryz.underlying52 Tryz.sizeOf5 g 0 k hk W
 rwa [Nat.zero_add] at this
theorem ix14p (g j k:Nat) (hk:j+k < 14) (W:World):(Instr.indexAt 52 (.pointer (some ⟨g,0,none⟩)) (.int .i64 ((j:Int)+(k:Int)))).run Tryz.prog W = .ok (.pointer (some ⟨g,j+k,none⟩)) W:=by
 have:=ix14 g (j+k) hk W
 rwa [Int.natCast_add] at this
set_option maxHeartbeats 4000000 in
theorem rtry_any {w:World} {rp:Nat} {F:Nat→Prop} {A:Abs} {d:Int} (R:Rs w rp F A d) (hF:∀ k,F k→k < w.heap.size) (hd:0≤d∧d < 1000000) (n m o f r:Int) (v:R4) (t:Nat→Int) :
 Calls Tryz.prog 19 #[.pointer (some ⟨rp,0,none⟩),.int .i64 n,.int .i64 m,addr o f r,rec4 v,.agg (bs 14 t)] w (RtyPost w rp F A d n m o f r v t):=by
 have S0:Hid (Rt0 w o f r v t ((((w.alloc (.cells #[.int .i64 o,.int .i64 f,.int .i64 r] 24)).alloc (.cells #[.int .u8 v.1,.int .u8 v.2.1,.int .u8 v.2.2.1,.int .u8 v.2.2.2] 26)).alloc (.cells (bs 14 t) 52)).alloc (.cells #[.int .u8 0,.int .u8 0,.int .u8 0,.int .u8 0] 26))):=Lib.hid (rt0_of w o f r v t);have RR:=Lib.hid R;have HF:=Lib.hid hF;have AK:Hid (∀ W,Calls Tryz.prog 6 #[.int .i64 m,.agg #[.int .i64 o,.int .i64 f,.int .i64 r]] W (AskPost W m o f r)):=Lib.hid fun W=>rask_any W m o f r;have DA:Hid (∀ W,Calls Tryz.prog 14 #[.agg #[.int .u8 v.1,.int .u8 v.2.1,.int .u8 v.2.2.1,.int .u8 v.2.2.2]] W fun e w'=>e = .returned (val5 (datB v))∧Below W.heap.size W w'):=Lib.hid fun W=>rdata_any W v;have SV:=Lib.hid (fun W (h:Rs W rp (Fx F w W) A d) (hl:∀ k,Fx F w W k→k < W.heap.size)=>rserve_any h hl hd n (trQ m o f r t) (okR_tn4 _ _) (trB v t) (is5_tn5 _ _ _));have FIN:Hid (∀ e u w',e=tyE false A n m o f r v t→u=tyV false A n m o f r v t→(Rs w' rp F (tyA false A n m o f r v t) (tyD false A n m o f r v t d)∧Only (fun k=>k=rp) w w')→RtyPost w rp F A d n m o f r v t (.returned (.tuple #[rec4 u,.int .i64 e])) w'):=Lib.hid fun e u w' h1 h2 h=>by subst h1 h2;exact ⟨rfl,h⟩
 unfold tyE tyV tyA tyD at FIN;unfold AskPost at AK;unfold RsvPost rpB rpO at SV;have TQ:Hid (trQ m o f r t=tn4 (askB m o f r) t):=Lib.hid rfl;have TB:Hid (trB v t=tn5 (datB v) t 4):=Lib.hid rfl;clear R hF hd;generalize hq:trQ m o f r t=Q2 at *;generalize hb:trB v t=B2 at *;generalize askB m o f r=Q1 at *;generalize askE m o f r=E1 at *;generalize datB v=B1 at *;generalize obV false A n Q2 B2=V at *;generalize obE false A n Q2 B2=E at *;generalize obA false A n Q2 B2=A' at *;generalize obD false A n Q2 B2 d=D' at *;clear hq hb;unfold rec4 addr at *
 go_enter Tryz.func19,Tryz.ntmps19
 go_wp2_with fail;generalize (((w.alloc (.cells #[.int .i64 o,.int .i64 f,.int .i64 r] 24)).alloc (.cells #[.int .u8 v.1,.int .u8 v.2.1,.int .u8 v.2.2.1,.int .u8 v.2.2.2] 26)).alloc (.cells (bs 14 t) 52)).alloc (.cells #[.int .u8 0,.int .u8 0,.int .u8 0,.int .u8 0] 26)=W at *;refine (AK.out W).mono ?_;rintro e w1 ⟨rfl,bw⟩;have S1:=Lib.hid ((S0.out.mono bw).mono ((Below.refl w1.heap.size w1).alloc (Nat.le_refl _) (.cells #[.int .u8 Q1.1,.int .u8 Q1.2.1,.int .u8 Q1.2.2.1,.int .u8 Q1.2.2.2] 25)));have QR1:Hid (RowF (w1.alloc (.cells #[.int .u8 Q1.1,.int .u8 Q1.2.1,.int .u8 Q1.2.2.1,.int .u8 Q1.2.2.2] 25)) w1.heap.size 25 4 (f4 Q1)):=Lib.hid (heap_alloc_new w1 _);have GQ:Hid (w.heap.size+4≤w1.heap.size):=Lib.hid (S0.out.mono bw).siz;clear bw S0 AK;go_upto_region 2 with fail;generalize w1.alloc (.cells #[.int .u8 Q1.1,.int .u8 Q1.2.1,.int .u8 Q1.2.2.1,.int .u8 Q1.2.2.2] 25)=W1 at *;generalize hgq:w1.heap.size=gq at *;clear hgq
 by_cases hE:E1=0
 ·subst hE
  simp only [if_true] at FIN;have v0:W1.cell? ⟨w.heap.size+1,0,none⟩=some (.int .u8 v.1):=row_cell S1.out.v 0;have v1:W1.cell? ⟨w.heap.size+1,1,none⟩=some (.int .u8 v.2.1):=row_cell S1.out.v 1;have v2:W1.cell? ⟨w.heap.size+1,2,none⟩=some (.int .u8 v.2.2.1):=row_cell S1.out.v 2;have v3:W1.cell? ⟨w.heap.size+1,3,none⟩=some (.int .u8 v.2.2.2):=row_cell S1.out.v 3;unfold val5 at DA;go_wp2_with fail;clear v0 v1 v2 v3;refine (DA.out W1).mono ?_;rintro e w2 ⟨rfl,bw⟩;have S0:=Lib.hid ((S1.out.mono bw).mono ((Below.refl w2.heap.size w2).alloc (Nat.le_refl _) (.cells #[.int .u8 B1.1,.int .u8 B1.2.1,.int .u8 B1.2.2.1,.int .u8 B1.2.2.2.1,.int .u8 B1.2.2.2.2] 27)));have QR2:=Lib.hid (QR1.out.kept ((Below.heap_alloc w2 (.cells #[.int .u8 B1.1,.int .u8 B1.2.1,.int .u8 B1.2.2.1,.int .u8 B1.2.2.2.1,.int .u8 B1.2.2.2.2] 27) gq (Nat.lt_of_lt_of_le QR1.out.lt bw.size)).trans (bw.block gq QR1.out.lt)));have BR0:Hid (RowF (w2.alloc (.cells #[.int .u8 B1.1,.int .u8 B1.2.1,.int .u8 B1.2.2.1,.int .u8 B1.2.2.2.1,.int .u8 B1.2.2.2.2] 27)) w2.heap.size 27 5 (f5 B1)):=Lib.hid (heap_alloc_new w2 _);have GB:Hid (gq < w2.heap.size):=Lib.hid (Nat.lt_of_lt_of_le QR1.out.lt bw.size);clear bw S1 DA QR1;go_upto_region 6 with fail;generalize w2.alloc (.cells #[.int .u8 B1.1,.int .u8 B1.2.1,.int .u8 B1.2.2.1,.int .u8 B1.2.2.2.1,.int .u8 B1.2.2.2.2] 27)=W2 at *;generalize hgb:w2.heap.size=gb at *;clear hgb;have QS:Hid (RowF W2 gq 25 4 (tF (f4 Q1) t 0 0)):=Lib.hid (QR2.out.to fun i _=>by unfold tF;rw [if_neg (by omega)]);clear QR2
  go_loopw [17] (fun i wr=>∃ k:Nat,k≤4∧i = .int .i64 k∧Hid (RowF wr gq 25 4 (tF (f4 Q1) t 0 k))∧Hid (Rt0 w o f r v t wr)∧Hid (RowF wr gb 27 5 (f5 B1))) (fun i _=>4 - (intOf i).toNat)
  case atStart=>exact ⟨0,Nat.zero_le _,rfl,QS,S0,BR0⟩
  case round =>
   obtain ⟨k,hk,rfl,RW,S,BR⟩:=hrel;clear QS S0 BR0
   by_cases hlt:k < 4
   ·have hkm:(k:Int) < 4:=by omega
    go_upto_region 8 with fail;have c0:=RW.out.cell hlt;rw [tF_at] at c0;have lt:=RW.out.lt;have s0:=S.out.t.cell (k:=k) (by omega);have lt2:=S.out.t.lt;have x0:=Sc.cell_in (C:=Below wr.heap.size wr) (a:=⟨gq,k,none⟩) (v:=.int .u8 (f4 Q1 k)) (fun W' h=>(h.cell lt).trans c0);have x1:=Sc.cell_in (C:=Below wr.heap.size wr) (a:=⟨w.heap.size+2,k,none⟩) (v:=.int .u8 (t (k))) (fun W' h=>(h.cell lt2).trans s0);have ne:Nonempty (Sc.In (Below wr.heap.size wr)):=⟨⟨_,Below.refl _ _⟩⟩;have NX:=Lib.hid (fun W (h:RowF W gq 25 4 (tF (f4 Q1) t 0 k))=>(h.set_ k (bx ((f4 Q1) k) (t (0+k)))).to fun i _=>tF_next (f4 Q1) t 0 k i);rw [Nat.zero_add] at NX;generalize t (k)=tk at *;generalize hfk:(f4 Q1) k=fk at *;clear hfk;have ia:=ix4 gq k hlt;have ib:=ix14 (w.heap.size+2) k (by omega);refine Sz.start (Below wr.heap.size wr) [(false,0),(false,1),(false,2),(false,3),(false,4),(false,5),(false,6),(false,7),(false,8)] 9 (by kernel_rfl) (by kernel_rfl) (by kernel_rfl) rfl rfl (Below.refl _ _).drew ?_;dsimp only [Sd.picks,List.getElem?_cons_succ,List.getElem?_cons_zero]
    repeat (refine Sz.lit ?_;quiet_step (fail);refine wpQuiet_nil ?_)
    refine Sz.done ?_;clear x0 x1 ne s0 lt2 ia ib;have R1:Hid (RowF wr.drew gq 25 4 (tF (f4 Q1) t 0 k)):=RW.out;have c1:wr.drew.cell? ⟨gq,k,none⟩=some (.int .u8 fk):=c0;have f1:=R1.out.frozen k;have R2:=Lib.hid (NX.out _ R1.out);have on:Only (fun k=>k=gq) wr (wr.drew.setCell ⟨gq,k,none⟩ (.int .u8 (bx fk tk))):=(Only.of_below (Below.refl wr.heap.size wr).drew).trans (Only.set (fun k=>k=gq) _ (a:=⟨gq,k,none⟩) rfl _) fun _ _ h=>h;have S2:=Lib.hid (S.out.only on fun j e=>by have:=GQ.out;omega);have BR2:=Lib.hid (BR.out.kept (on.block gb BR.out.lt (fun e=>by have:=GB.out;omega)));unfold bx at R2 S2 BR2;clear R1 NX c0 lt RW on S BR;generalize wr.drew=W at *;go_simp;refine NoPanic.normal ?_;go_wp2
    go_roundw
    case rel=>exact ⟨k+1,by omega,by go_num,R2,S2,BR2⟩
    case measure=>simp [intOf];omega
   ·have Q4:Hid (RowF wr gq 25 4 (f4 Q2)):=Lib.hid (by
     have h:=RW.out;obtain rfl:k=4:=by omega
     rw [TQ.out]
     exact h.to fun i hi=>tF_4 Q1 t i hi)
    have BS:Hid (RowF wr gb 27 5 (tF (f5 B1) t 4 0)):=Lib.hid (BR.out.to fun i _=>by unfold tF;rw [if_neg (by omega)]);have S0:=S;have QR0:=Q4;clear RW BR TQ S Q4;go_upto_region 10 with fail;clear hlt hk;generalize wr=w4 at *;generalize (k:Int)=k4 at *
    go_loopw [18] (fun i wr=>∃ k:Nat,k≤5∧i = .int .i64 k∧Hid (RowF wr gb 27 5 (tF (f5 B1) t 4 k))∧Hid (Rt0 w o f r v t wr)∧Hid (RowF wr gq 25 4 (f4 Q2))) (fun i _=>5 - (intOf i).toNat)
    case atStart=>exact ⟨0,Nat.zero_le _,rfl,BS,S0,QR0⟩
    case round =>
     obtain ⟨k,hk,rfl,RW,S,QR⟩:=hrel;clear BS S0 QR0
     by_cases hlt:k < 5
     ·have hkm:(k:Int) < 5:=by omega
      have wk:IntKind.i64.wrap (4+(k:Int))=4+(k:Int):=IntWalk.i64_in _ (by omega);go_upto_region 12 with fail;have c0:=RW.out.cell hlt;rw [tF_at] at c0;have lt:=RW.out.lt;have s0:=S.out.t.cell (k:=4+k) (by omega);have lt2:=S.out.t.lt;have x0:=Sc.cell_in (C:=Below wr.heap.size wr) (a:=⟨gb,k,none⟩) (v:=.int .u8 (f5 B1 k)) (fun W' h=>(h.cell lt).trans c0);have x1:=Sc.cell_in (C:=Below wr.heap.size wr) (a:=⟨w.heap.size+2,4+k,none⟩) (v:=.int .u8 (t (4+k))) (fun W' h=>(h.cell lt2).trans s0);have ne:Nonempty (Sc.In (Below wr.heap.size wr)):=⟨⟨_,Below.refl _ _⟩⟩;have NX:=Lib.hid (fun W (h:RowF W gb 27 5 (tF (f5 B1) t 4 k))=>(h.set_ k (bx ((f5 B1) k) (t (4+k)))).to fun i _=>tF_next (f5 B1) t 4 k i);generalize t (4+k)=tk at *;generalize hfk:(f5 B1) k=fk at *;clear hfk;have ia:=ix5k gb k hlt;have ib:∀ W,(Instr.indexAt 52 (.pointer (some ⟨w.heap.size+2,0,none⟩)) (.int .i64 (4+(k:Int)))).run Tryz.prog W = .ok (.pointer (some ⟨w.heap.size+2,4+k,none⟩)) W:=ix14p (w.heap.size+2) 4 k (by omega);refine Sz.start (Below wr.heap.size wr) [(false,0),(false,1),(false,2),(false,3),(false,4),(false,5),(false,6),(false,7),(false,8),(false,9)] 10 (by kernel_rfl) (by kernel_rfl) (by kernel_rfl) rfl rfl (Below.refl _ _).drew ?_;dsimp only [Sd.picks,List.getElem?_cons_succ,List.getElem?_cons_zero]
      repeat (refine Sz.lit ?_;quiet_step (fail);refine wpQuiet_nil ?_)
      refine Sz.done ?_;clear x0 x1 ne s0 lt2 ia ib;have R1:Hid (RowF wr.drew gb 27 5 (tF (f5 B1) t 4 k)):=RW.out;have c1:wr.drew.cell? ⟨gb,k,none⟩=some (.int .u8 fk):=c0;have f1:=R1.out.frozen k;have R2:=Lib.hid (NX.out _ R1.out);have on:Only (fun k=>k=gb) wr (wr.drew.setCell ⟨gb,k,none⟩ (.int .u8 (bx fk tk))):=(Only.of_below (Below.refl wr.heap.size wr).drew).trans (Only.set (fun k=>k=gb) _ (a:=⟨gb,k,none⟩) rfl _) fun _ _ h=>h;have S2:=Lib.hid (S.out.only on fun j e=>by have:=GQ.out;have:=GB.out;omega);have QR2:=Lib.hid (QR.out.kept (on.block gq QR.out.lt (fun e=>by have:=GB.out;omega)));unfold bx at R2 S2 QR2;clear R1 NX c0 lt RW on S QR;generalize wr.drew=W at *;go_simp;refine NoPanic.normal ?_;go_wp2
      go_roundw
      case rel=>exact ⟨k+1,by omega,by go_num,R2,S2,QR2⟩
      case measure=>simp [intOf];omega
     ·have B4:Hid (RowF wr gb 27 5 (f5 B2)):=Lib.hid (by
       have h:=RW.out;obtain rfl:k=5:=by omega
       rw [TB.out]
       exact h.to fun i hi=>tF_5 B1 t 4 i hi)
      have q0:wr.cell? ⟨gq,0,none⟩=some (.int .u8 Q2.1):=QR.out.cell (by decide);have q1:wr.cell? ⟨gq,1,none⟩=some (.int .u8 Q2.2.1):=QR.out.cell (by decide);have q2:wr.cell? ⟨gq,2,none⟩=some (.int .u8 Q2.2.2.1):=QR.out.cell (by decide);have q3:wr.cell? ⟨gq,3,none⟩=some (.int .u8 Q2.2.2.2):=QR.out.cell (by decide);have b0:wr.cell? ⟨gb,0,none⟩=some (.int .u8 B2.1):=B4.out.cell (by decide);have b1:wr.cell? ⟨gb,1,none⟩=some (.int .u8 B2.2.1):=B4.out.cell (by decide);have b2:wr.cell? ⟨gb,2,none⟩=some (.int .u8 B2.2.2.1):=B4.out.cell (by decide);have b3:wr.cell? ⟨gb,3,none⟩=some (.int .u8 B2.2.2.2.1):=B4.out.cell (by decide);have b4:wr.cell? ⟨gb,4,none⟩=some (.int .u8 B2.2.2.2.2):=B4.out.cell (by decide);have SVW:=SV.out wr (Fs.Rs.only RR.out (Only.of_below S.out.bel)) (Fx.low HF.out S.out.bel.size);unfold val5 at SVW;clear SV
      by_cases h0:E=0
      ·rw [if_pos h0,decide_eq_true h0] at SVW
       rw [if_pos h0,if_pos h0] at FIN;clear h0;generalize datB V=D at *;have HSV:=Lib.hid SVW;clear SVW RW TB B4 QR;go_wp2_with fail;clear q0 q1 q2 q3 b0 b1 b2 b3 b4;refine HSV.out.mono ?_;rintro e w5 ⟨rfl,rs,on⟩;have DONE:Hid (∀ w',Only (fun j=>w.heap.size≤j∧j < wr.heap.size) w5 w'→Rs w' rp F A' D'∧Only (fun k=>k=rp) w w'):=Lib.hid fun w' k=>rs_fin S.out.bel rs on k;have RLT:rp < w.heap.size:=by obtain ⟨_,_,h,_⟩:=RR.out;exact lt_of_block h.row
       have L5:Hid (w.heap.size+4≤wr.heap.size∧wr.heap.size≤w5.heap.size):=Lib.hid ⟨S.out.siz,on.size⟩;have b6:=(Below.refl w5.heap.size w5).alloc (Nat.le_refl _) (.cells #[.int .u8 D.1,.int .u8 D.2.1,.int .u8 D.2.2.1,.int .u8 D.2.2.2.1,.int .u8 D.2.2.2.2] 27);have R5:=(on.block _ (lt_of_block S.out.r) (fun g=>by omega)).trans S.out.r;have T5:=S.out.t.kept (on.block _ S.out.t.lt (fun g=>by omega));have SR0:=Lib.hid ((b6.block _ (lt_of_block R5)).trans R5);have ST0:=Lib.hid (T5.kept (b6.block _ T5.lt));have SK0:Hid (Only (fun j=>w.heap.size≤j∧j < wr.heap.size) w5 (w5.alloc (.cells #[.int .u8 D.1,.int .u8 D.2.1,.int .u8 D.2.2.1,.int .u8 D.2.2.2.1,.int .u8 D.2.2.2.2] 27))):=Lib.hid (Only.of_below b6);have DR0:Hid (RowF (w5.alloc (.cells #[.int .u8 D.1,.int .u8 D.2.1,.int .u8 D.2.2.1,.int .u8 D.2.2.2.1,.int .u8 D.2.2.2.2] 27)) w5.heap.size 27 5 (f5 D)):=Lib.hid (heap_alloc_new w5 _);clear rs on RLT b6 R5 T5 HSV S RR GQ GB HF;generalize wr.heap.size=zz at *;generalize (k:Int)=k5 at *;clear hlt hk;go_upto_region 17 with fail;generalize w5.alloc (.cells #[.int .u8 D.1,.int .u8 D.2.1,.int .u8 D.2.2.1,.int .u8 D.2.2.2.1,.int .u8 D.2.2.2.2] 27)=W6 at *;generalize hg5:w5.heap.size=g5 at *;have HG5:=Lib.hid hg5;clear hg5;have DS:Hid (RowF W6 g5 27 5 (tF (f5 D) t 9 0)):=Lib.hid (DR0.out.to fun i _=>by unfold tF;rw [if_neg (by omega)]);clear DR0
       go_loopw [21] (fun i wr=>∃ k:Nat,k≤5∧i = .int .i64 k∧Hid (RowF wr g5 27 5 (tF (f5 D) t 9 k))∧Hid (RowF wr (w.heap.size+2) 52 14 t)∧Hid (wr.heap[w.heap.size+3]? = some (.cells (arr4 z4) 26 (0,0)))∧Hid (Only (fun j=>w.heap.size≤j∧j < zz) w5 wr)) (fun i _=>5 - (intOf i).toNat)
       case atStart=>exact ⟨0,Nat.zero_le _,rfl,DS,ST0,SR0,SK0⟩
       case round =>
        obtain ⟨k,hk,rfl,RW,ST,SR,SK⟩:=hrel;clear DS ST0 SR0 SK0
        by_cases hlt:k < 5
        ·have hkm:(k:Int) < 5:=by omega
         have wk:IntKind.i64.wrap (9+(k:Int))=9+(k:Int):=IntWalk.i64_in _ (by omega);go_upto_region 19 with fail;have c0:=RW.out.cell hlt;rw [tF_at] at c0;have lt:=RW.out.lt;have s0:=ST.out.cell (k:=9+k) (by omega);have lt2:=ST.out.lt;have x0:=Sc.cell_in (C:=Below wr.heap.size wr) (a:=⟨g5,k,none⟩) (v:=.int .u8 (f5 D k)) (fun W' h=>(h.cell lt).trans c0);have x1:=Sc.cell_in (C:=Below wr.heap.size wr) (a:=⟨w.heap.size+2,9+k,none⟩) (v:=.int .u8 (t (9+k))) (fun W' h=>(h.cell lt2).trans s0);have ne:Nonempty (Sc.In (Below wr.heap.size wr)):=⟨⟨_,Below.refl _ _⟩⟩;have NX:=Lib.hid (fun W (h:RowF W g5 27 5 (tF (f5 D) t 9 k))=>(h.set_ k (bx (f5 D k) (t (9+k)))).to fun i _=>tF_next (f5 D) t 9 k i);generalize t (9+k)=tk at *;generalize hfk:f5 D k=fk at *;clear hfk;have ia:=ix5k g5 k hlt;have ib:∀ W,(Instr.indexAt 52 (.pointer (some ⟨w.heap.size+2,0,none⟩)) (.int .i64 (9+(k:Int)))).run Tryz.prog W = .ok (.pointer (some ⟨w.heap.size+2,9+k,none⟩)) W:=ix14p (w.heap.size+2) 9 k (by omega);refine Sz.start (Below wr.heap.size wr) [(false,0),(false,1),(false,2),(false,3),(false,4),(false,5),(false,6),(false,7),(false,8),(false,9)] 10 (by kernel_rfl) (by kernel_rfl) (by kernel_rfl) rfl rfl (Below.refl _ _).drew ?_;dsimp only [Sd.picks,List.getElem?_cons_succ,List.getElem?_cons_zero]
         repeat (refine Sz.lit ?_;quiet_step (fail);refine wpQuiet_nil ?_)
         refine Sz.done ?_;clear x0 x1 ne s0 lt2 ia ib;have R1:Hid (RowF wr.drew g5 27 5 (tF (f5 D) t 9 k)):=RW.out;have c1:wr.drew.cell? ⟨g5,k,none⟩=some (.int .u8 fk):=c0;have f1:=R1.out.frozen k;have R2:=Lib.hid (NX.out _ R1.out);have on:Only (fun k=>k=g5) wr (wr.drew.setCell ⟨g5,k,none⟩ (.int .u8 (bx fk tk))):=(Only.of_below (Below.refl wr.heap.size wr).drew).trans (Only.set (fun k=>k=g5) _ (a:=⟨g5,k,none⟩) rfl _) fun _ _ h=>h;have ST2:=Lib.hid (ST.out.kept (on.block _ ST.out.lt (fun e=>by have:=L5.out;have:=HG5.out;omega)));have SR2:=Lib.hid ((on.block _ (lt_of_block SR.out) (fun e=>by have:=L5.out;have:=HG5.out;omega)).trans SR.out);have SK2:=Lib.hid (SK.out.trans on fun j hj e=>by have:=HG5.out;omega);unfold bx at R2 ST2 SR2 SK2;clear R1 NX c0 lt RW on ST SR SK;generalize wr.drew=W at *;go_simp;refine NoPanic.normal ?_;go_wp2
         go_roundw
         case rel=>exact ⟨k+1,by omega,by go_num,R2,ST2,SR2,SK2⟩
         case measure=>simp [intOf];omega
        ·generalize hb3:tn5 D t 9=B3 at *
         have DR:Hid (RowF wr g5 27 5 (f5 B3)):=Lib.hid (by
          have h:=RW.out;obtain rfl:k=5:=by omega
          rw [← hb3]
          exact h.to fun i hi=>tF_5 D t 9 i hi)
         clear hb3 RW ST;have OP:=ropen_any wr B3;unfold OpnPost val5 rec4 at OP;have b0:wr.cell? ⟨g5,0,none⟩=some (.int .u8 B3.1):=DR.out.cell (by decide);have b1:wr.cell? ⟨g5,1,none⟩=some (.int .u8 B3.2.1):=DR.out.cell (by decide);have b2:wr.cell? ⟨g5,2,none⟩=some (.int .u8 B3.2.2.1):=DR.out.cell (by decide);have b3:wr.cell? ⟨g5,3,none⟩=some (.int .u8 B3.2.2.2.1):=DR.out.cell (by decide);have b4:wr.cell? ⟨g5,4,none⟩=some (.int .u8 B3.2.2.2.2):=DR.out.cell (by decide);generalize opnE B3=OE at *;generalize opnV B3=OV at *;have HOP:=Lib.hid OP;clear OP;go_wp2_with fail;clear b0 b1 b2 b3 b4;refine HOP.out.mono ?_;rintro e w10 ⟨rfl,b10⟩;have RA:=(b10.block _ (lt_of_block SR.out)).trans SR.out;have K10:=Lib.hid (DONE.out _ ((SK.out.then b10).trans (st4_only w10 (w.heap.size+3) OV) fun j _ e=>by have:=L5.out;subst e;exact ⟨by omega,by omega⟩));have R3:=Lib.hid (Fl.sto4_row RA OV);have d0:w10.cell? ⟨w.heap.size+3,0,none⟩=some (.int .u8 0):=row_cell RA 0;have d1:w10.cell? ⟨w.heap.size+3,1,none⟩=some (.int .u8 0):=row_cell RA 1;have d2:w10.cell? ⟨w.heap.size+3,2,none⟩=some (.int .u8 0):=row_cell RA 2;have d3:w10.cell? ⟨w.heap.size+3,3,none⟩=some (.int .u8 0):=row_cell RA 3;have k0:=row_frozen RA 0;have k1:=row_frozen RA 1;have k2:=row_frozen RA 2;have k3:=row_frozen RA 3;clear b10 SK DONE HOP DR RA SR;go_wp2
         (try simp only [Exit.inBlock,Exit.then])
         exact bodyPost_ret (results_rec (p:=12) (r:=13) rfl _ _ (w.heap.size+3) OV (.int .i64 OE) rfl rfl R3.out) rfl (FIN.out OE OV _ rfl rfl K10.out)
      ·rw [if_neg h0,decide_eq_false h0] at SVW
       rw [if_neg h0,if_neg h0] at FIN;clear h0;generalize z5=D at SVW;have HSV:=Lib.hid SVW;clear SVW RW TB B4 QR;go_wp2_with fail;clear q0 q1 q2 q3 b0 b1 b2 b3 b4;refine HSV.out.mono ?_;rintro e w5 ⟨rfl,rs,on⟩;have DONE:Hid (∀ w',Only (fun j=>w.heap.size≤j∧j < wr.heap.size) w5 w'→Rs w' rp F A' D'∧Only (fun k=>k=rp) w w'):=Lib.hid fun w' k=>rs_fin S.out.bel rs on k;have RLT:rp < w.heap.size:=by obtain ⟨_,_,h,_⟩:=RR.out;exact lt_of_block h.row
       have L5:Hid (w.heap.size+4≤wr.heap.size∧wr.heap.size≤w5.heap.size):=Lib.hid ⟨S.out.siz,on.size⟩;have b6:=(Below.refl w5.heap.size w5).alloc (Nat.le_refl _) (.cells #[.int .u8 D.1,.int .u8 D.2.1,.int .u8 D.2.2.1,.int .u8 D.2.2.2.1,.int .u8 D.2.2.2.2] 27);have R5:=(on.block _ (lt_of_block S.out.r) (fun g=>by omega)).trans S.out.r;have T5:=S.out.t.kept (on.block _ S.out.t.lt (fun g=>by omega));have SR0:=Lib.hid ((b6.block _ (lt_of_block R5)).trans R5);have ST0:=Lib.hid (T5.kept (b6.block _ T5.lt));have SK0:Hid (Only (fun j=>w.heap.size≤j∧j < wr.heap.size) w5 (w5.alloc (.cells #[.int .u8 D.1,.int .u8 D.2.1,.int .u8 D.2.2.1,.int .u8 D.2.2.2.1,.int .u8 D.2.2.2.2] 27))):=Lib.hid (Only.of_below b6);have DR0:Hid (RowF (w5.alloc (.cells #[.int .u8 D.1,.int .u8 D.2.1,.int .u8 D.2.2.1,.int .u8 D.2.2.2.1,.int .u8 D.2.2.2.2] 27)) w5.heap.size 27 5 (f5 D)):=Lib.hid (heap_alloc_new w5 _);clear rs on RLT b6 R5 T5 HSV S RR GQ GB HF;have K10:=Lib.hid (DONE.out _ (SK0.out.trans (st4_only _ (w.heap.size+3) z4) fun j _ e=>by have:=L5.out;subst e;exact ⟨by omega,by omega⟩));clear ST0 SK0 DONE DR0;generalize (k:Int)=k5 at *;clear hlt hk;go_upto_region 14 with fail;generalize w5.alloc (.cells #[.int .u8 D.1,.int .u8 D.2.1,.int .u8 D.2.2.1,.int .u8 D.2.2.2.1,.int .u8 D.2.2.2.2] 27)=W6 at *;have R3:=Lib.hid (Fl.sto4_row SR0.out z4);have d0:W6.cell? ⟨w.heap.size+3,0,none⟩=some (.int .u8 0):=row_cell SR0.out 0;have d1:W6.cell? ⟨w.heap.size+3,1,none⟩=some (.int .u8 0):=row_cell SR0.out 1;have d2:W6.cell? ⟨w.heap.size+3,2,none⟩=some (.int .u8 0):=row_cell SR0.out 2;have d3:W6.cell? ⟨w.heap.size+3,3,none⟩=some (.int .u8 0):=row_cell SR0.out 3;have k0:=row_frozen SR0.out 0;have k1:=row_frozen SR0.out 1;have k2:=row_frozen SR0.out 2;have k3:=row_frozen SR0.out 3;clear SR0;go_wp2
       (try simp only [Exit.inBlock,Exit.then])
       exact bodyPost_ret (results_rec (p:=12) (r:=13) rfl _ _ (w.heap.size+3) z4 (.int .i64 13) rfl rfl R3.out) rfl (FIN.out 13 z4 _ rfl rfl K10.out)
 ·have R3:=Lib.hid (Fl.sto4_row S1.out.r z4)
  have B3:=Lib.hid (sto4_below (o:=0) (r:=z4) S1.out.bel (show w.heap.size≤w.heap.size+3 by omega));have d0:W1.cell? ⟨w.heap.size+3,0,none⟩=some (.int .u8 0):=row_cell S1.out.r 0;have d1:W1.cell? ⟨w.heap.size+3,1,none⟩=some (.int .u8 0):=row_cell S1.out.r 1;have d2:W1.cell? ⟨w.heap.size+3,2,none⟩=some (.int .u8 0):=row_cell S1.out.r 2;have d3:W1.cell? ⟨w.heap.size+3,3,none⟩=some (.int .u8 0):=row_cell S1.out.r 3;have k0:=row_frozen S1.out.r 0;have k1:=row_frozen S1.out.r 1;have k2:=row_frozen S1.out.r 2;have k3:=row_frozen S1.out.r 3;rw [if_neg hE,if_neg hE,if_neg hE,if_neg hE] at FIN;have FF:=Lib.hid (And.intro (Fs.Rs.below RR.out B3.out) (Only.of_below (G:=fun k=>k=rp) B3.out));clear S1 QR1 DA SV;go_wp2
  (try simp only [Exit.inBlock,Exit.then])
  exact bodyPost_ret (results_rec (p:=12) (r:=13) rfl _ _ (w.heap.size+3) z4 (.int .i64 E1) rfl rfl R3.out) rfl (FIN.out E1 z4 _ rfl rfl FF.out)
end Go.Proofs.YtelgnhmcnfibnaaGreatDoor.Sv
namespace Go.Proofs.YtelgnhmcnfibnaaGreatDoor.Fs
open Go.ChangeShapes Go.WideShapes Go.ChangeAt Go.RowKit Go.Deep
open Rw (Rd Ow At)
open Fl (R4 z4 K4 rec4 okR okL rec_cells recs_of)
section
variable {H:Type} {enc:TypeId×Value→H} {W:World} {base fuel:Nat} {sp:Nat→Bool} {held:Bool} {cs:List Value} {x:DataW H×List MemPlace}
theorem file_cells (h:DataW.trod enc Tryz.prog W base sp held fuel 71 cs=some x):∃ q u l,cs = [.int .i64 q,u]∧Rd K4 W u l∧okL l:=by
 have c2:Tryz.prog.cellsOf 71=2:=by kernel_rfl
 have c1:Tryz.prog.cellsOf 3=1:=by kernel_rfl
 have c3:Tryz.prog.cellsOf 69=1:=by kernel_rfl
 obtain ⟨xs,m,_,_,hs,hx,hi⟩:=DataW.trod_struct Tryz.underlying71 h;rw [c2] at hs
 match cs,hs,xs,hx,hi with
 | [u,v],_,[x0,x1],_,hi =>
   have e0:DataW.trod enc Tryz.prog W base sp held m 3 (([u,v].drop 0).take (Tryz.prog.cellsOf 3))=some x0:=hi 0 _ rfl;have e1:DataW.trod enc Tryz.prog W base sp held m 69 (([u,v].drop 1).take (Tryz.prog.cellsOf 69))=some x1:=hi 1 _ rfl;rw [c1] at e0;rw [c3] at e1;obtain ⟨a,ha,_⟩:=DataW.trod_int Tryz.underlying3 (x:=x0) e0
   simp at ha
   subst ha;obtain ⟨l,R,ok⟩:=recs_of (u:=v) e1;exact ⟨a,v,l,rfl,R,ok⟩
end
def laid : List (String × DataW Unit) := [("errors.errorType", Rows.laid_errors_errorType)]
theorem et : Tryz.prog.globalNamed "errors.errorType" = some 0 := by kernel_rfl
theorem rt : (Tryz.prog.cutTypes.find? (·.1 == "internal/reflectlite.rtype")).map (·.2) = some 135 := by kernel_rfl
theorem oneRow:((List.range 215).filter fun t=>Tryz.prog.rowNamed t [101,114,114,111,114]) = [75]:=by kernel_rfl
theorem tsize:Tryz.prog.types.size=215:=by kernel_rfl
theorem glob_of {W:World} (h:laidMetH Tryz.prog laid W):Glob W:=by
 have h':laidMet Tryz.prog [] W∧handlesMet Tryz.prog laid W:=h;obtain ⟨name,u,ty,e1,e2,e3,e4,e5⟩:=h'.2 _ (List.mem_singleton.2 rfl);have en:name = [101,114,114,111,114]:=(Option.some.inj e1).symm;subst en;obtain rfl:=Option.some.inj (rt.symm.trans e2);have hm:ty∈(List.range 215).filter fun t=>Tryz.prog.rowNamed t [101,114,114,111,114]:=List.mem_filter.2 ⟨List.mem_range.2 (by rw [← tsize];exact e3),e4⟩;rw [oneRow] at hm;obtain rfl:=List.mem_singleton.1 hm;have hh:typeHandle Tryz.prog 75 = .pointer (some ⟨1,75,none⟩):=by kernel_rfl
 rw [hh] at e5;have:=World.var?_cell et e5 0;unfold Glob
 simpa using this
noncomputable def laidWorld (os:Os):World :=
 let w0:=World.holding Tryz.prog os ⟨#[],#[],[]⟩
 { w0 with heap:=w0.heap.modify 0 fun
  | .cells _ t frozen=>.cells #[.iface 135 (.agg #[.pointer (some ⟨1,75,none⟩)])] t frozen
  | o=>o }
theorem laidWorld_met (os:Os) (args:Array Value):laidMetH Tryz.prog laid ((laidWorld os).forCall (fun _ _=>0) ⟨#[],args,[]⟩).memory :=
 laidMetH_of_parts (laidMet_nil _ _) (by kernel_rfl)
end Go.Proofs.YtelgnhmcnfibnaaGreatDoor.Fs
namespace Go.Proofs.YtelgnhmcnfibnaaGreatDoor.Ro
open Go.ChangeShapes Go.WideShapes Go.ChangeAt Go.RowKit Go.Deep
open Rw (Rd Ow At)
end Go.Proofs.YtelgnhmcnfibnaaGreatDoor.Ro
