import Derived.Test.YtljnkaodhfnbbaaGreatDoorPc1
import Derived.Test.YtljnkaodhfnbbaaGreatDoorPc4
import Derived.Great.BuildSlice
import Derived.Test.YtljnkaodhfnbbaaGreatDoorPc5
import Derived.Test.YtljnkaodhfnbbaaGreatDoorPc3
import Derived.Below
import Derived.WalkKit
import Derived.Laws.AppendOwn
import Derived.OneCell
import Derived.Deep.Draws
import Derived.Lib.Hide
import Derived.Test.YtljnkaodhfnbbaaGreatDoorChecked
import Derived.LoopTactic
import Derived.Outline
import Derived.Deep.LoopGhost
import Derived.BigQuiet
import Derived.Deep.QuietTactic
import Derived.WalkSmall
import Derived.Laws.StructEq
import Derived.Shelf.SlicesE.Kit
set_option maxRecDepth 100000
namespace Go.Proofs.YtljnkaodhfnbbaaGreatDoor.Sg
open Go.RowKit
open Sd (light light_value)
open Sc (In Cl)
def lst (zs:List Nat) (listed:Array Bool):Bool:=zs.any fun z=>listed.getD z false
def wpAnyE (P:Program) (md:Region.Mode) (ops:Array Oper) (Q:Exit→Act→World→Prop) (S:World→Prop) (zs:List Nat):Nat→Array Bool→Act→World→Prop
 | 0,listed,a,w=>Region.ready md ops listed = []∧Q .normal a w
 | fuel+1,listed,a,w =>
   (Region.ready md ops listed = []→Q .normal a w) ∧
   ∀ i∈Region.ready md ops listed,wpOp P ops Q i (fun a' w'=>(i∈zs∨lst zs listed=true∨S w')∧wpAnyE P md ops Q S zs fuel (listed.setIfInBounds i true) a' w') a w
section
variable {P:Program} {md:Region.Mode} {ops:Array Oper} {Q:Exit→Act→World→Prop} {S:World→Prop} {zs:List Nat}
theorem any_of:∀ (fuel:Nat) (listed:Array Bool) (a:Act) (w:World),wpAnyE P md ops Q S zs fuel listed a w→wpAny P md ops Q fuel listed a w
 | 0,_,_,_,h=>h
 | fuel+1,_,_,_,h=>⟨h.1,fun i hi=>wpOp_mono (fun a' w' h'=>any_of fuel _ a' w' h'.2) (h.2 i hi)⟩
theorem lst_set {zs:List Nat} {j:Nat} {listed:Array Bool} (h:j ∉ zs):lst zs (listed.setIfInBounds j true)=lst zs listed:=by
 unfold lst;rw [Bool.eq_iff_iff,List.any_eq_true,List.any_eq_true];have e:∀ z∈zs,(listed.setIfInBounds j true).getD z false=listed.getD z false:=fun z hz=>by
  have ne:j≠z:=fun e=>h (e ▸ hz)
  simp [Array.getD_eq_getD_getElem?,ne]
 constructor
 ·rintro ⟨z,hz,g⟩
  exact ⟨z,hz,by rw [← e z hz];exact g⟩
 ·rintro ⟨z,hz,g⟩
  exact ⟨z,hz,by rw [e z hz];exact g⟩
theorem lst_in {zs:List Nat} {j:Nat} {listed:Array Bool} (h:j∈zs) (hl:listed.getD j true=false):lst zs (listed.setIfInBounds j true)=true:=by
 unfold lst;refine List.any_eq_true.2 ⟨j,h,?_⟩;have hs:j < listed.size:=by
  rcases Nat.lt_or_ge j listed.size with h' | h'
  ·exact h'
  ·simp [Array.getElem?_eq_none h'] at hl
 simp [Array.getD_eq_getD_getElem?,hs]
theorem lst_up {zs:List Nat} {j:Nat} {listed:Array Bool} (h:lst zs listed=true):lst zs (listed.setIfInBounds j true)=true:=by
 unfold lst at *;obtain ⟨z,hz,g⟩:=List.any_eq_true.1 h;refine List.any_eq_true.2 ⟨z,hz,?_⟩
 by_cases e:j=z
 ·subst e
  have hs:j < listed.size:=by
   rcases Nat.lt_or_ge j listed.size with h' | h'
   ·exact h'
   ·simp [Array.getD_eq_getD_getElem?,Array.getElem?_eq_none h'] at g
  simp [Array.getD_eq_getD_getElem?,hs]
 ·simp only [Array.getD_eq_getD_getElem?,Array.getElem?_setIfInBounds,e,if_false] at g ⊢
  exact g
theorem firstU {i:Nat} {oi:Oper} {v:Value} (hi:ops[i]? = some oi) (hiz:i ∉ zs) (hsel:∀ (j:Nat) (o:Oper) cs b,ops[j]? = some o→o.op≠.select cs b)
 (hQ:∀ c a w,Q (.panic c) (a.put oi.dst v) w→Q (.panic c) a w) :
 ∀ (fuel:Nat) (listed:Array Bool) (a:Act) (w:World),
  (∀ j oj,ops[j]? = some oj→j≠i→listed.getD j true=false→(∀ e∈oj.after,Region.binds md e=true→e.on≠i)→oi.apart ops oj=true) →
  i∈Region.ready md ops listed→YieldsIf P ops (fun _=>True) oi v a→(lst zs listed=true∨S w) →
  wpAnyE P md ops Q S zs fuel (listed.setIfInBounds i true) (a.put oi.dst v) w→wpAnyE P md ops Q S zs (fuel+1) listed a w:=by
 intro fuel
 induction fuel with
 | zero =>
   intro listed a w _ hr hy hS H
   refine ⟨fun h=>(by rw [h] at hr;cases hr),fun j hj=>?_⟩
   by_cases hji:j=i
   ·subst hji;exact hy.wpOp hi trivial ⟨.inr hS,H⟩
   ·have:=ready_mono hj hji
    rw [H.1] at this
    cases this
 | succ fuel ih =>
   intro listed a w hfree hr hy hS H
   refine ⟨fun h=>(by rw [h] at hr;cases hr),fun j hj=>?_⟩
   by_cases hji:j=i
   ·subst hji;exact hy.wpOp hi trivial ⟨.inr hS,H⟩
   ·have h1:=H.2 j (ready_mono hj hji)
    obtain ⟨hjun,oj,hoj,hall⟩:=mem_ready.1 hj;have hnot:∀ e∈oj.after,Region.binds md e=true→e.on≠i:=fun e he hb heq=>by
     have h1:=hall e he hb;have h0:=(mem_ready.1 hr).1;rw [heq] at h1
     rcases Nat.lt_or_ge i listed.size with h' | h'
     ·simp [h'] at h0 h1;rw [h0] at h1;cases h1
     ·simp [Array.getElem?_eq_none h'] at h1
    have h2:=wpOp_putIf hoj (hfree j oj hoj hji hjun hnot) (fun cs b=>hsel i oi cs b hi) (fun cs b=>hsel j oj cs b hoj) hQ hy h1;have hfree':∀ k ok,ops[k]? = some ok→k≠i→(listed.setIfInBounds j true).getD k true=false →
     (∀ e∈ok.after,Region.binds md e=true→e.on≠i)→oi.apart ops ok=true:=fun k ok hk hki hun hno=>by
     refine hfree k ok hk hki ?_ hno
     by_cases hjk:j=k
     ·subst hjk;exact hjun
     ·rw [getD_set_ne true hjk] at hun;exact hun
    refine wpOp_mono (fun a' w' h3=>?_) h2;have hq:j∈zs∨lst zs listed=true∨S w':=by
     rcases h3.2.1 with g | g | g
     ·exact .inl g
     ·rw [lst_set hiz] at g;exact .inr (.inl g)
     ·exact .inr (.inr g)
    have hS':lst zs (listed.setIfInBounds j true)=true∨S w':=by
     rcases hq with g | g | g
     ·exact .inl (lst_in g hjun)
     ·exact .inl (lst_up g)
     ·exact .inr g
    refine ⟨hq,ih (listed.setIfInBounds j true) a' w' hfree' (ready_mono hr (Ne.symm hji)) h3.1 hS' ?_⟩;rw [Array.setIfInBounds_comm _ _ hji];exact h3.2.2
theorem first {i:Nat} {oi:Oper} {v:Value} (hi:ops[i]? = some oi) (hsel:∀ (j:Nat) (o:Oper) cs b,ops[j]? = some o→o.op≠.select cs b)
 (hQ:∀ c a w,Q (.panic c) (a.put oi.dst v) w→Q (.panic c) a w) :
 ∀ (fuel:Nat) (listed:Array Bool) (a:Act) (w:World),(∀ z∈zs,Sz.Blocks md ops z i listed)→lst zs listed=false →
  (∀ j oj,ops[j]? = some oj→j≠i→listed.getD j true=false→(∀ e∈oj.after,Region.binds md e=true→e.on≠i)→oi.apart ops oj=true) →
  i∈Region.ready md ops listed→YieldsIf P ops S oi v a→S w →
  wpAnyE P md ops Q S zs fuel (listed.setIfInBounds i true) (a.put oi.dst v) w→wpAnyE P md ops Q S zs (fuel+1) listed a w:=by
 intro fuel
 induction fuel with
 | zero =>
   intro listed a w _ _ _ hr hy hS H
   refine ⟨fun h=>(by rw [h] at hr;cases hr),fun j hj=>?_⟩
   by_cases hji:j=i
   ·subst hji;exact hy.wpOp hi hS ⟨.inr (.inr hS),H⟩
   ·have:=ready_mono hj hji
    rw [H.1] at this
    cases this
 | succ fuel ih =>
   intro listed a w hz hl0 hfree hr hy hS H
   refine ⟨fun h=>(by rw [h] at hr;cases hr),fun j hj=>?_⟩
   by_cases hji:j=i
   ·subst hji;exact hy.wpOp hi hS ⟨.inr (.inr hS),H⟩
   ·have h1:=H.2 j (ready_mono hj hji)
    obtain ⟨hjun,oj,hoj,hall⟩:=mem_ready.1 hj;have hnot:∀ e∈oj.after,Region.binds md e=true→e.on≠i:=fun e he hb heq=>by
     have h1:=hall e he hb;have h0:=(mem_ready.1 hr).1;rw [heq] at h1
     rcases Nat.lt_or_ge i listed.size with h' | h'
     ·simp [h'] at h0 h1;rw [h0] at h1;cases h1
     ·simp [Array.getElem?_eq_none h'] at h1
    have low:∀ {k:Nat},listed.getD k true=false→listed.getD k false=false:=fun {k} h=>by
     rcases Nat.lt_or_ge k listed.size with h' | h'
     ·simp [h'] at h ⊢;exact h
     ·simp [Array.getElem?_eq_none h'] at h
    have hjz:j ∉ zs:=fun hm=>by
     obtain ⟨oz,ez,hoz,hez,hbz,hnl,_⟩:=hz j hm;rw [hoj] at hoz;obtain rfl:=Option.some.inj hoz;have:=hall ez hez hbz;rw [low hnl] at this
     cases this
    have hz':∀ z∈zs,Sz.Blocks md ops z i (listed.setIfInBounds j true):=fun z hm=>by
     obtain ⟨oz,ez,hoz,hez,hbz,hnl,hor⟩:=hz z hm;have hje:j≠ez.on:=fun e=>by
      rcases hor with h | ⟨ok,hok,e',he',hb',hon⟩
      ·exact hji (e.trans h)
      ·rw [← e,hoj] at hok
       obtain rfl:=Option.some.inj hok;exact hnot e' he' hb' hon
     exact ⟨oz,ez,hoz,hez,hbz,by rw [getD_set_ne true hje];exact hnl,hor⟩
    have h2:=wpOp_putIf hoj (hfree j oj hoj hji hjun hnot) (fun cs b=>hsel i oi cs b hi) (fun cs b=>hsel j oj cs b hoj) hQ hy h1;have hfree':∀ k ok,ops[k]? = some ok→k≠i→(listed.setIfInBounds j true).getD k true=false →
     (∀ e∈ok.after,Region.binds md e=true→e.on≠i)→oi.apart ops ok=true:=fun k ok hk hki hun hno=>by
     refine hfree k ok hk hki ?_ hno
     by_cases hjk:j=k
     ·subst hjk;exact hjun
     ·rw [getD_set_ne true hjk] at hun;exact hun
    refine wpOp_mono (fun a' w' h3=>?_) h2;have hi2:i ∉ zs:=fun hm=>by
     obtain ⟨oz,ez,hoz,hez,hbz,hnl,_⟩:=hz i hm;obtain ⟨_,oi',hoi',hall'⟩:=mem_ready.1 hr;rw [hoz] at hoi';obtain rfl:=Option.some.inj hoi';have:=hall' ez hez hbz;rw [low hnl] at this
     cases this
    have hl1:lst zs (listed.setIfInBounds i true)=false:=by rw [lst_set hi2];exact hl0
    have hl2:lst zs (listed.setIfInBounds j true)=false:=by rw [lst_set hjz];exact hl0
    have hS':S w':=(h3.2.1.resolve_left hjz).resolve_left (by rw [hl1];decide);refine ⟨.inr (.inr hS'),ih (listed.setIfInBounds j true) a' w' hz' hl2 hfree' (ready_mono hr (Ne.symm hji)) h3.1 hS' ?_⟩;rw [Array.setIfInBounds_comm _ _ hji];exact h3.2.2
theorem fin {listed:Array Bool} {a:Act} {w:World} (hr:Region.ready md ops listed = []) (h:Q .normal a w) :
 ∀ fuel,wpAnyE P md ops Q S zs fuel listed a w
 | 0=>⟨hr,h⟩
 | _+1=>⟨fun _=>h,by rw [hr];simp⟩
theorem all {rs:List Nat} {fuel:Nat} {listed:Array Bool} {a:Act} {w:World} (hr:Region.ready md ops listed=rs) (hne:rs≠[])
 (h:∀ i∈rs,wpOp P ops Q i (fun a' w'=>(i∈zs∨lst zs listed=true∨S w')∧wpAnyE P md ops Q S zs fuel (listed.setIfInBounds i true) a' w') a w):wpAnyE P md ops Q S zs (fuel+1) listed a w :=
 ⟨fun h0=>absurd (hr ▸ h0) hne,hr ▸ h⟩
end
def okB (ops:Array Oper) (zs:List Nat) (i:Nat) (listed:Array Bool):Bool:=(zs.all fun z=>Sz.blocksB ops z i listed) && !lst zs listed
theorem takeU {P:Program} {ops:Array Oper} {Q:Exit→Act→World→Prop} {S:World→Prop} {zs:List Nat} {i fuel:Nat} {oi:Oper} {v:Value} {listed:Array Bool} {a:Act} {w:World} (hz:zs.contains i=false) (hi:ops[i]? = some oi) (hs:Region.noSelect ops=true) (hf:Region.free .any ops listed i=true) (hr:(Region.ready .any ops listed).contains i=true)
 (hQ:∀ c a w,Q (.panic c) (a.put oi.dst v) w→Q (.panic c) a w) (hy:YieldsIf P ops (fun _=>True) oi v a) (hS:S w) (h:wpAnyE P .any ops Q S zs fuel (listed.setIfInBounds i true) (a.put oi.dst v) w):wpAnyE P .any ops Q S zs (fuel+1) listed a w :=
 firstU (v:=v) hi (by simpa using hz) (Region.noSelect_spec hs) hQ fuel listed a w (Region.free_spec hi hf) (by simpa using hr) hy (.inr hS) h
theorem take {P:Program} {ops:Array Oper} {Q:Exit→Act→World→Prop} {S:World→Prop} {zs:List Nat} {i fuel:Nat} {oi:Oper} {v:Value} {listed:Array Bool} {a:Act} {w:World} (hz:okB ops zs i listed=true) (hi:ops[i]? = some oi) (hs:Region.noSelect ops=true) (hf:Region.free .any ops listed i=true) (hr:(Region.ready .any ops listed).contains i=true)
 (hQ:∀ c a w,Q (.panic c) (a.put oi.dst v) w→Q (.panic c) a w) (hy:YieldsIf P ops S oi v a) (hS:S w) (h:wpAnyE P .any ops Q S zs fuel (listed.setIfInBounds i true) (a.put oi.dst v) w):wpAnyE P .any ops Q S zs (fuel+1) listed a w :=
 first (v:=v) hi (Region.noSelect_spec hs) hQ fuel listed a w (fun z hm=>Sz.blocks_of (List.all_eq_true.1 (by unfold okB at hz;rw [Bool.and_eq_true] at hz;exact hz.1) z hm)) (by unfold okB at hz;rw [Bool.and_eq_true] at hz;simpa using hz.2) (Region.free_spec hi hf) (by simpa using hr) hy hS h
structure Fl where
 idx:Nat
 slot:Nat
 src:Nat
 val:Value
 ty:TypeId
 cs:Array Value
 n:Nat
def sln (n g:Nat):Value:=.slice (some ⟨g,0,none⟩) n n
theorem sln_inj {n m g h:Nat} (e:sln n g=sln m h):g=h:=by unfold sln at e;injection e with e;injection e with e;injection e
def fill (F:List Fl) (x:Nat→Value) (a:Act):Act:=F.foldl (fun a f=>a.put (some f.slot) (x f.slot)) a
theorem put_comm (a:Act) {d e:Nat} (h:d≠e) (u v:Value):(a.put (some d) u).put (some e) v=(a.put (some e) v).put (some d) u:=by
 simp only [Act.put];rw [Array.setIfInBounds_comm _ _ h]
theorem put_put (a:Act) (d:Nat) (u v:Value):(a.put (some d) u).put (some d) v=a.put (some d) v:=by
 simp only [Act.put,Array.setIfInBounds_setIfInBounds]
theorem fill_put (x:Nat→Value) (dst:Option Nat) (v:Value):∀ (F:List Fl) (a:Act),(∀ f∈F,dst≠some f.slot)→(fill F x a).put dst v=fill F x (a.put dst v)
 | [],a,_=>rfl
 | f :: r,a,h=>by
   have ih:=fill_put x dst v r (a.put (some f.slot) (x f.slot)) fun g hg=>h g (List.mem_cons_of_mem _ hg)
   show (fill r x (a.put (some f.slot) (x f.slot))).put dst v=fill r x ((a.put dst v).put (some f.slot) (x f.slot))
   rw [ih]
   cases dst with
   | none=>rfl
   | some d=>rw [put_comm a (fun e=>h f (List.mem_cons_self ..) (by rw [e])) (x f.slot) v]
theorem fill_congr {x y:Nat→Value} : ∀ (F:List Fl) (a:Act),(∀ f∈F,x f.slot=y f.slot)→fill F x a=fill F y a
 | [],_,_=>rfl
 | f :: r,a,h=>by
   show fill r x (a.put (some f.slot) (x f.slot))=fill r y (a.put (some f.slot) (y f.slot))
   rw [h f (List.mem_cons_self ..),fill_congr r _ fun g hg=>h g (List.mem_cons_of_mem _ hg)]
def upd (x:Nat→Value) (s:Nat) (v:Value) (k:Nat):Value:=if k=s then v else x k
theorem fill_set (x:Nat→Value) (s:Nat) (v:Value):∀ (F:List Fl) (a:Act),(F.map (·.slot)).Nodup→(∃ f∈F,f.slot=s)→(fill F x a).put (some s) v=fill F (upd x s v) a
 | [],a,_,h=>by obtain ⟨_,h,_⟩:=h;cases h
 | f :: r,a,hn,h=>by
   rw [List.map_cons,List.nodup_cons] at hn
   show (fill r x (a.put (some f.slot) (x f.slot))).put (some s) v=fill r (upd x s v) (a.put (some f.slot) (upd x s v f.slot))
   by_cases e:f.slot=s
   ·have hne:∀ g∈r,g.slot≠s:=fun g hg e'=>hn.1 (List.mem_map.2 ⟨g,hg,by rw [e,e']⟩)
    rw [fill_put x (some s) v r _ fun g hg e'=>hne g hg (Option.some.inj e').symm,e,put_put];rw [show upd x s v s=v by simp [upd]];exact fill_congr r _ fun g hg=>by simp [upd,hne g hg]
   ·obtain ⟨g,hg,hs⟩:=h
    have hg':g∈r:=by
     rcases List.mem_cons.1 hg with rfl | k
     ·exact absurd hs e
     ·exact k
    rw [show upd x s v f.slot=x f.slot by simp [upd,e]];exact fill_set x s v r _ hn.2 ⟨g,hg',hs⟩
def marks (L:Array Bool) (d:List Nat):Array Bool:=d.foldl (fun L i=>L.setIfInBounds i true) L
theorem marks_get:∀ (d:List Nat) (L:Array Bool) (k:Nat),(marks L d)[k]? = if k∈d then (L[k]?).map (fun _=>true) else L[k]?
 | [],L,k=>by simp [marks]
 | i :: r,L,k=>by
   show (marks (L.setIfInBounds i true) r)[k]? = _
   rw [marks_get r,Array.getElem?_setIfInBounds]
   by_cases hi:i=k
   ·subst hi
    by_cases hl:i < L.size
    ·simp [hl]
    ·simp [hl]
   ·have hk:k≠i:=fun e=>hi e.symm
    simp [hi,hk]
theorem marks_size:∀ (d:List Nat) (L:Array Bool),(marks L d).size=L.size
 | [],_=>rfl
 | j :: r,L=>by show (marks (L.setIfInBounds j true) r).size=_;rw [marks_size r,Array.size_setIfInBounds]
theorem marks_set (L:Array Bool) (d:List Nat) (i:Nat):(marks L d).setIfInBounds i true=marks (L.setIfInBounds i true) d:=by
 refine Array.ext_getElem? fun k=>?_;rw [Array.getElem?_setIfInBounds,marks_get,marks_get,Array.getElem?_setIfInBounds];rw [marks_size]
 by_cases hi:i=k
 ·subst hi
  by_cases hl:i < L.size <;> by_cases hd:i∈d <;> simp [hl,hd]
 ·simp [hi]
def doneOf (F:List Fl) (m:Nat→Bool):List Nat:=(F.filter fun f=>m f.idx).map (·.idx)
theorem mem_done {F:List Fl} {m:Nat→Bool} {k:Nat} : k∈doneOf F m↔m k=true∧∃ f∈F,f.idx=k:=by
 unfold doneOf;rw [List.mem_map]
 constructor
 ·rintro ⟨f,hf,rfl⟩
  rw [List.mem_filter] at hf;exact ⟨hf.2,f,hf.1,rfl⟩
 ·rintro ⟨hm,f,hf,rfl⟩
  exact ⟨f,List.mem_filter.2 ⟨hf,hm⟩,rfl⟩
def on (m:Nat→Bool) (j k:Nat):Bool:=k == j || m k
theorem marks_on (L:Array Bool) (F:List Fl) (m:Nat→Bool) (f:Fl) (hf:f∈F):(marks L (doneOf F m)).setIfInBounds f.idx true=marks L (doneOf F (on m f.idx)):=by
 rw [marks_set];refine Array.ext_getElem? fun k=>?_;rw [marks_get,marks_get,Array.getElem?_setIfInBounds]
 by_cases e:f.idx=k
 ·subst e
  have h2:f.idx∈doneOf F (on m f.idx):=mem_done.2 ⟨by simp [on],f,hf,rfl⟩;rw [if_pos h2]
  by_cases hl:f.idx < L.size <;> by_cases hd:f.idx∈doneOf F m <;> simp [hl,hd]
 ·have hiff:(k∈doneOf F (on m f.idx))↔(k∈doneOf F m):=by
   have hb:(k == f.idx)=false:=by simpa using fun h=>e h.symm
   rw [mem_done,mem_done]
   simp [on,hb]
  by_cases hd:k∈doneOf F m
  ·rw [if_pos hd,if_pos (hiff.2 hd)];simp [e]
  ·rw [if_neg hd,if_neg (fun h=>hd (hiff.1 h))];simp [e]
def allMasks:List Fl→(List Nat→Bool)→Bool
 | [],k=>k []
 | f :: r,k=>allMasks r k && allMasks r (fun d=>k (f.idx :: d))
theorem allMasks_spec:∀ (F:List Fl) (k:List Nat→Bool),allMasks F k=true→∀ m,k (doneOf F m)=true
 | [],k,h,m=>h
 | f :: r,k,h,m=>by
   unfold allMasks at h;rw [Bool.and_eq_true] at h;unfold doneOf;rw [List.filter_cons]
   cases hm:m f.idx with
   | true=>rw [if_pos rfl];exact allMasks_spec r _ h.2 m
   | false=>rw [if_neg (by simp)];exact allMasks_spec r _ h.1 m
def goodT (ops:Array Oper):List Nat→Array Bool→Bool
 | [],L=>(Region.ready .any ops L).isEmpty
 | z :: r,L=>(match ops[z]? with
   | some o=>o.guard.isNone
   | none=>false) && Region.ready .any ops L == [z] && goodT ops r (L.setIfInBounds z true)
def good (ops:Array Oper) (zs:List Nat):List (Nat×Nat)→List Fl→Array Bool→Bool
 | [],F,L=>F.isEmpty && goodT ops zs L
 | (0,i) :: r,F,L =>
   (match ops[i]? with
    | some o=>light o.op && F.all (fun f=>o.dst != some f.slot && o.dst != some f.src) && allMasks F (fun d=>Region.free .any ops (marks L d) i && (Region.ready .any ops (marks L d)).contains i && okB ops zs i (marks L d))
    | none=>false) && good ops zs r F (L.setIfInBounds i true)
 | (1,i) :: r,F,L =>
   (match ops[i]? with
    | some o=>F.all (fun f=>o.dst != some f.slot && o.dst != some f.src) && allMasks F (fun d=>!(Region.ready .any ops (marks L d)).isEmpty && (Region.ready .any ops (marks L d)).all fun j=>j == i || F.any fun f=>f.idx == j && !d.contains j)
    | none=>false) && good ops zs r F (L.setIfInBounds i true)
 | (_,i) :: r,f :: F,L =>
   (ops[i]?).isSome && allMasks (f :: F) (fun d=>d.contains f.idx || (!(Region.ready .any ops (marks L d)).isEmpty && (Region.ready .any ops (marks L d)).all fun j=>(f :: F).any fun g=>g.idx == j && !d.contains j)) && good ops zs r F (L.setIfInBounds f.idx true)
 | (_,_) :: _,[],_=>false
def wpT (P:Program) (Q:Exit→Act→World→Prop):List Oper→Act→World→Prop
 | [],a,w=>Q .normal a w
 | o :: r,a,w=>o.wp P a w (fun a' w'=>wpT P Q r a' w') Q
def wpSg (P:Program) (ops:Array Oper) (C:World→Prop) (Q:Exit→Act→World→Prop) (tl:List Oper) (n0:Nat):List (Nat×Oper)→List Fl→List (Nat×Nat)→List Nat→Act→World→Prop
 | [],_,_,_,a,w=>∀ w',Below w.heap.size w w'→C w'→wpT P Q tl a w'
 | (0,o) :: r,F,H,L,a,w=>∀ x,wpQuiet P ops C (fun a'=>wpSg P ops C Q tl n0 r F H L a' w) [o] (fill F x a)
 | (1,o) :: r,F,H,L,a,w=>∀ x w',Below w.heap.size w w'→C w'→Region.wanted o (yielded ops (fill F x a).tmps)=true ∧
     o.wp P (fill F x a) w' (fun a'' w''=>C w''∧w'.heap.size≤w''.heap.size∧(F = []∨∀ g,n0≤g→g < w'.heap.size→w''.heap[g]? = w'.heap[g]?)∧wpSg P ops C Q tl n0 r F ((w'.heap.size,w''.heap.size) :: H) L a'' w'') Q
 | (_,_) :: r,F,H,L,a,w=>match F with
   | []=>False
   | f :: F=>∀ g w',Below w.heap.size w w'→C w'→w'.heap[g]? = some (.cells f.cs f.ty (0,0))→n0≤g→(∀ p∈H,g < p.1∨p.2≤g)→g ∉ L→wpSg P ops C Q tl n0 r F H (g :: L) (a.put (some f.slot) (sln f.n g)) w'
def picks (l:List Oper):List (Nat×Nat)→List (Nat×Oper)
 | []=>[]
 | (k,i) :: r=>match l[i]? with
   | some o=>(k,o) :: picks l r
   | none=>picks l r
structure Inv (F:List Fl) (m:Nat→Bool) (x:Nat→Value) (a:Act) (n0:Nat) (H:List (Nat×Nat)) (L:List Nat) (w:World):Prop where
 ne:∀ f∈F,∀ g∈F,f.slot≠g.src
 src:∀ f∈F,a.tmps.getD f.src undef=f.val
 old:∀ f∈F,m f.idx=false→x f.slot=a.tmps.getD f.slot undef
 new:∀ f∈F,m f.idx=true→∃ g,x f.slot=sln f.n g∧w.heap[g]? = some (.cells f.cs f.ty (0,0))∧n0≤g∧(∀ p∈H,g < p.1∨p.2≤g)∧g ∉ L
 apart:∀ f∈F,∀ f'∈F,f.slot≠f'.slot→m f.idx=true→m f'.idx=true→∀ b b':Nat,x f.slot=sln f.n b→x f'.slot=sln f'.n b'→b≠b'
 past:∀ p∈H,p.2≤w.heap.size
 met:∀ g∈L,g < w.heap.size
theorem getD_put (a:Act) (dst:Option Nat) (v:Value) (s:Nat) (h:dst≠some s):(a.put dst v).tmps.getD s undef=a.tmps.getD s undef:=by
 cases dst with
 | none=>rfl
 | some d =>
   have hd:d≠s:=fun e=>h (by rw [e]);simp only [Act.put,Array.getD_eq_getD_getElem?,Array.getElem?_setIfInBounds,if_neg hd]
theorem fill_idem (x:Nat→Value):∀ (F:List Fl) (a:Act),fill F x (fill F x a)=fill F x a
 | [],_=>rfl
 | f :: r,a=>by
   show fill r x ((fill r x (a.put (some f.slot) (x f.slot))).put (some f.slot) (x f.slot))=fill r x (a.put (some f.slot) (x f.slot))
   have e:∀ (r:List Fl) (b:Act),(fill r x (b.put (some f.slot) (x f.slot))).put (some f.slot) (x f.slot)=fill r x (b.put (some f.slot) (x f.slot)):=by
    intro r
    induction r with
    | nil=>intro b;exact put_put b _ _ _
    | cons g r ih =>
      intro b
      show (fill r x ((b.put (some f.slot) (x f.slot)).put (some g.slot) (x g.slot))).put (some f.slot) (x f.slot)=fill r x ((b.put (some f.slot) (x f.slot)).put (some g.slot) (x g.slot))
      by_cases h:f.slot=g.slot
      ·rw [← h,put_put];exact ih b
      ·rw [put_comm b h,ih]
   rw [e];exact fill_idem x r _
def withD (a:Act) (ds:List Deferred):Act:={ a with defers:=ds }
theorem fill_D (x:Nat→Value) (ds:List Deferred):∀ (F:List Fl) (a:Act),withD (fill F x a) ds=fill F x (withD a ds)
 | [],_=>rfl
 | f :: r,a=>by
   show withD (fill r x (a.put (some f.slot) (x f.slot))) ds=fill r x ((withD a ds).put (some f.slot) (x f.slot))
   rw [fill_D x ds r]
   rfl
theorem getD_fill (x:Nat→Value) (s:Nat):∀ (F:List Fl) (a:Act),(∀ f∈F,f.slot=s→x s=a.tmps.getD s undef)→(fill F x a).tmps.getD s undef=a.tmps.getD s undef
 | [],_,_=>rfl
 | f :: r,a,h=>by
   have e:(a.put (some f.slot) (x f.slot)).tmps.getD s undef=a.tmps.getD s undef:=by
    by_cases hs:f.slot=s
    ·subst hs
     have:=h f (List.mem_cons_self ..) rfl;simp only [Act.put,Array.getD_eq_getD_getElem?,Array.getElem?_setIfInBounds] at *
     by_cases hl:f.slot < a.tmps.size
     ·simp [hl] at *;exact this
     ·simp [hl]
    ·exact getD_put a _ _ s (fun k=>hs (Option.some.inj k))
   show (fill r x (a.put (some f.slot) (x f.slot))).tmps.getD s undef=_
   rw [getD_fill x s r _ fun g hg k=>by rw [e];exact h g (List.mem_cons_of_mem _ hg) k,e]
theorem wp_put {P:Program} {o:Oper} {a:Act} {w:World} {K:Act→World→Prop} {Q:Exit→Act→World→Prop} (h:o.wp P a w K Q):o.wp P a w (fun a' w'=>(∃ ds v,a'=(withD a ds).put o.dst v)∧K a' w') Q:=by
 unfold Oper.wp at *
 cases hr:(execOp a.eval o).run P w with
 | halt y w1=>rw [hr] at h;cases y <;> exact h
 | ok nx w1 =>
   rw [hr] at h
   cases nx with
   | value v=>exact ⟨⟨a.defers,v,rfl⟩,h⟩
   | skip=>exact ⟨⟨a.defers,undef,rfl⟩,h⟩
   | defer d=>exact ⟨⟨d :: a.defers,undef,rfl⟩,h⟩
   | enter f args =>
     refine Calls.mono h fun e w'' k=>?_
     cases e with
     | returned v=>exact ⟨⟨a.defers,v,rfl⟩,k⟩
     | panicked c=>exact k
     | outgrown=>exact k
   | row r args=>exact Rows.mono h fun v w'' k=>⟨⟨a.defers,v,rfl⟩,k⟩
   | _=>exact h
def left:List Fl→(Nat→Bool)→Nat
 | [],_=>0
 | f :: r,m=>left r m+(if m f.idx then 0 else 1)
theorem on_le (m:Nat→Bool) (j k:Nat):(if on m j k then 0 else 1)≤(if m k then 0 else 1):=by
 unfold on
 cases (k == j) <;> cases m k <;> simp
theorem left_mono (m:Nat→Bool) (j:Nat):∀ r:List Fl,left r (on m j)≤left r m
 | []=>Nat.le_refl _
 | g :: r=>Nat.add_le_add (left_mono m j r) (on_le m j g.idx)
theorem left_on:∀ (F:List Fl) (m:Nat→Bool) (f:Fl),f∈F→m f.idx=false→left F (on m f.idx)+1≤left F m
 | g :: r,m,f,hf,hm=>by
   have a:=left_mono m f.idx r;have b:=on_le m f.idx g.idx;unfold left
   rcases List.mem_cons.1 hf with e | k
   ·subst e
    have:on m f.idx f.idx=true:=by simp [on]
    rw [this,hm]
    simp
    exact a
   ·have ih:=left_on r m f k hm
    omega
theorem nodup_same:∀ {F:List Fl},(F.map (·.slot)).Nodup→∀ f∈F,∀ g∈F,g.slot=f.slot→g=f
 | [],_,f,hf,_,_,_=>by cases hf
 | b :: r,hn,f,hf,g,hg,e=>by
   rw [List.map_cons,List.nodup_cons] at hn
   rcases List.mem_cons.1 hg with h1 | hg'
   ·rcases List.mem_cons.1 hf with h2 | hf'
    ·rw [h1,h2]
    ·exact absurd (List.mem_map.2 ⟨f,hf',by rw [← e,h1]⟩) hn.1
   ·rcases List.mem_cons.1 hf with h2 | hf'
    ·exact absurd (List.mem_map.2 ⟨g,hg',by rw [e,h2]⟩) hn.1
    ·exact nodup_same hn.2 f hf' g hg' e
section
variable {P:Program} {l:List Oper} {C:World→Prop} {Q:Exit→Act→World→Prop} {n0:Nat} {zs:List Nat} {tl:List Oper}
def FlOk (P:Program) (l:List Oper) (f:Fl):Prop:=∃ o,l.toArray[f.idx]? = some o∧o.dst=some f.slot∧o.guard=none∧∀ (a:Act) w,a.eval (.tmp f.src)=f.val→(execOp a.eval o).run P w = .ok (.value (sln f.n w.heap.size)) (w.alloc (.cells f.cs f.ty))
theorem Inv.step {F:List Fl} {m:Nat→Bool} {x:Nat→Value} {a:Act} {H:List (Nat×Nat)} {L:List Nat} {w:World} (h:Inv F m x a n0 H L w) (hn:(F.map (·.slot)).Nodup) (hi:∀ f∈F,∀ f'∈F,f.idx=f'.idx→f.slot=f'.slot) (h0:n0≤w.heap.size) (f:Fl) (hf:f∈F) (hm:m f.idx=false) :
 Inv F (on m f.idx) (upd x f.slot (sln f.n w.heap.size)) a n0 H L (w.alloc (.cells f.cs f.ty)):=by
 have same:∀ g∈F,g.slot=f.slot→g=f:=nodup_same hn f hf;have on_:∀ g∈F,g.slot≠f.slot→on m f.idx g.idx=m g.idx:=fun g hg hne=>by
  have hb:(g.idx == f.idx)=false:=by simpa using fun e=>hne (hi g hg f hf e)
  simp [on,hb]
 have onf:on m f.idx f.idx=true:=by simp [on]
 refine ⟨h.ne,h.src,fun g hg hmg=>?_,fun g hg hmg=>?_,fun g hg g' hg' hne hmg hmg'=>?_,fun p hp=>?_,fun g hg=>?_⟩
 ·by_cases e:g.slot=f.slot
  ·rw [same g hg e,onf] at hmg;cases hmg
  ·rw [on_ g hg e] at hmg
   simp only [upd,if_neg e];exact h.old g hg hmg
 ·by_cases e:g.slot=f.slot
  ·obtain rfl:=same g hg e
   exact ⟨w.heap.size,by simp [upd],heap_alloc_new w _,h0,fun p hp=>.inr (h.past p hp),fun hl=>by have:=h.met _ hl;omega⟩
  ·rw [on_ g hg e] at hmg
   obtain ⟨b,h1,h2,h3⟩:=h.new g hg hmg;exact ⟨b,by simp only [upd,if_neg e];exact h1,(Below.heap_alloc w _ b (lt_of_block h2)).trans h2,h3⟩
 ·by_cases e:g.slot=f.slot
  ·have e':g'.slot≠f.slot:=fun k=>hne (e.trans k.symm)
   rw [on_ g' hg' e'] at hmg';obtain ⟨b,h1,h2,_⟩:=h.new g' hg' hmg';have:=lt_of_block h2;simp only [upd,if_pos e,if_neg e',h1]
   intro c c' k k' q
   have:=sln_inj k;have:=sln_inj k'
   omega
  ·by_cases e':g'.slot=f.slot
   ·rw [on_ g hg e] at hmg
    obtain ⟨b,h1,h2,_⟩:=h.new g hg hmg;have:=lt_of_block h2;simp only [upd,if_neg e,if_pos e',h1]
    intro c c' k k' q
    have:=sln_inj k;have:=sln_inj k'
    omega
   ·rw [on_ g hg e] at hmg
    rw [on_ g' hg' e'] at hmg';simp only [upd,if_neg e,if_neg e'];exact h.apart g hg g' hg' hne hmg hmg'
 ·have:=h.past p hp
  simp
  omega
 ·have:=h.met g hg
  simp
  omega
def cnt (k:Nat):List (Nat×Nat)→Nat
 | []=>k
 | (0,_) :: r=>cnt k r+1
 | (1,_) :: r=>cnt k r+1
 | (_+2,_) :: r=>cnt k r
def picksL (l:List Oper):List Nat→List Oper
 | []=>[]
 | i :: r=>match l[i]? with
   | some o=>o :: picksL l r
   | none=>picksL l r
theorem tail {P:Program} {l:List Oper} {C:World→Prop} {Q:Exit→Act→World→Prop} {zs:List Nat} : ∀ (ys:List Nat) (listed:Array Bool) (fuel:Nat) (a:Act) (w:World),(∀ z∈ys,z∈zs)→ys.length≤fuel→goodT l.toArray ys listed=true→wpT P Q (picksL l ys) a w→wpAnyE P .any l.toArray Q C zs fuel listed a w
 | [],listed,fuel,a,w,_,_,hg,h=>by
   unfold goodT at hg;exact fin (by simpa using hg) h fuel
 | z :: r,listed,0,a,w,_,hl,_,_=>by simp at hl
 | z :: r,listed,fuel+1,a,w,hs,hl,hg,h=>by
   unfold goodT at hg;simp only [Bool.and_eq_true,beq_iff_eq] at hg;obtain ⟨⟨hg1,hr⟩,hg2⟩:=hg;have hll:l.toArray[z]? = l[z]?:=by rw [List.getElem?_toArray]
   cases ho:l[z]? with
   | none=>rw [hll,ho] at hg1;cases hg1
   | some o =>
     rw [hll,ho] at hg1;have hgd:o.guard=none:=by simpa using hg1
     have hop:l.toArray[z]? = some o:=hll.trans ho;rw [picksL,ho] at h;refine all hr (by simp) fun j hj=>?_;obtain rfl:j=z:=by simpa using hj
     unfold wpOp;simp only [hop];rw [if_pos (by simp [Region.wanted,hgd])];exact .inl (Oper.wp_mono (fun a' w' k=>⟨.inl (hs j (List.mem_cons_self ..)),tail r _ fuel a' w' (fun z hz=>hs z (List.mem_cons_of_mem _ hz)) (by simp at hl;omega) hg2 k⟩) h)
def Holds (P:Program) (l:List Oper) (C:World→Prop) (Q:Exit→Act→World→Prop) (zs:List Nat) (n0:Nat) (n:Nat):Prop :=
 ∀ (sc:List (Nat×Nat)) (F:List Fl) (H:List (Nat×Nat)) (L:List Nat) (listed:Array Bool) (fuel:Nat) (a:Act) (w:World) (m:Nat→Bool) (x:Nat→Value) (w':World),
  2 * fuel+sc.length≤n→good l.toArray zs sc F listed=true→(∀ f∈F,FlOk P l f)→(F.map (·.slot)).Nodup→(∀ f∈F,∀ f'∈F,f.idx=f'.idx→f.slot=f'.slot)→Inv F m x a n0 H L w'→Below w.heap.size w w'→C w' →
  cnt zs.length sc+left F m≤fuel→wpSg P l.toArray C Q (picksL l zs) n0 (picks l sc) F H L a w→wpAnyE P .any l.toArray Q C zs fuel (marks listed (doneOf F m)) (fill F x a) w'
theorem wanted_none {o:Oper} {y:Nat→Option Bool} (h:o.guard=none):Region.wanted o y=true:=by simp [Region.wanted,h]
theorem float {n:Nat} (ih:Holds P l C Q zs n0 n) (hC:∀ w,C w→n0≤w.heap.size) (hA:∀ w o,C w→C (w.alloc o)) {sc:List (Nat×Nat)} {F:List Fl} {H:List (Nat×Nat)} {L:List Nat} {listed:Array Bool} {fuel:Nat} {a:Act} {w:World} {m:Nat→Bool} {x:Nat→Value} {w':World}
 (hn:2 * (fuel+1)+sc.length≤n+1) (hg:good l.toArray zs sc F listed=true) (hF:∀ f∈F,FlOk P l f) (hs:(F.map (·.slot)).Nodup) (hi:∀ f∈F,∀ f'∈F,f.idx=f'.idx→f.slot=f'.slot) (hI:Inv F m x a n0 H L w') (hb:Below w.heap.size w w') (hc:C w')
 (hf:cnt zs.length sc+left F m≤fuel+1) (h:wpSg P l.toArray C Q (picksL l zs) n0 (picks l sc) F H L a w) (f:Fl) (hff:f∈F) (hm:m f.idx=false) :
 wpOp P l.toArray Q f.idx (fun a' w'=>(f.idx∈zs∨lst zs (marks listed (doneOf F m))=true∨C w')∧wpAnyE P .any l.toArray Q C zs fuel ((marks listed (doneOf F m)).setIfInBounds f.idx true) a' w') (fill F x a) w':=by
 obtain ⟨o,ho,hd,hgd,hrun⟩:=hF f hff;unfold wpOp;simp only [ho,wanted_none hgd,if_true];refine .inl ?_;unfold Oper.wp;rw [hrun _ _ (by show (fill F x a).tmps.getD f.src undef=f.val;rw [getD_fill x f.src F a fun g hg e=>absurd e (hI.ne g hg f hff)];exact hI.src f hff)];rw [Oper.upon_value,hd,fill_set x f.slot _ F a hs ⟨f,hff,rfl⟩,marks_on listed F m f hff];have lo:=left_on F m f hff hm;exact ⟨.inr (.inr (hA _ _ hc)),ih sc F H L listed fuel a w _ _ _ (by omega) hg hF hs hi (hI.step hs hi (hC _ hc) f hff hm) (hb.trans ((Below.refl _ _).alloc hb.size _)) (hA _ _ hc) (by omega) h⟩
theorem holds (hsel:Region.noSelect l.toArray=true) (hQ:∀ c d v a w,Q (.panic c) (Act.put a d v) w→Q (.panic c) a w) (hC:∀ w,C w→n0≤w.heap.size) (hA:∀ w o,C w→C (w.alloc o)):∀ n,Holds P l C Q zs n0 n:=by
 intro n
 induction n with
 | zero =>
   intro sc F H L listed fuel a w m x w' hn hg hF hs hi hI hb hc hf h
   have e:sc = []:=List.length_eq_zero_iff.1 (by omega);subst e;unfold good at hg;simp only [Bool.and_eq_true,List.isEmpty_iff] at hg;obtain ⟨rfl,hr⟩:=hg;exact tail zs listed fuel _ _ (fun _ h=>h) (by simp only [cnt] at hf;omega) hr (h w' hb hc)
 | succ n ih =>
   intro sc F H L listed fuel a w m x w' hn hg hF hs hi hI hb hc hf h
   match sc,hg,h,hn,hf with
   | [],hg,h,_,hf =>
     unfold good at hg;simp only [Bool.and_eq_true,List.isEmpty_iff] at hg;obtain ⟨rfl,hr⟩:=hg;exact tail zs listed fuel _ _ (fun _ h=>h) (by simp only [cnt] at hf;omega) hr (h w' hb hc)
   | (0,i) :: r,hg,h,hn,hf =>
     have hg':(_ && good l.toArray zs r F (listed.setIfInBounds i true))=true:=hg;rw [Bool.and_eq_true] at hg';obtain ⟨hg1,hg2⟩:=hg'
     cases ho:l[i]? with
     | none=>simp [ho] at hg1
     | some o =>
       have hop:l.toArray[i]? = some o:=by simp [ho]
       rw [hop] at hg1;simp only [Bool.and_eq_true,List.all_eq_true] at hg1;obtain ⟨⟨hl,hds⟩,hm⟩:=hg1;have hds':∀ f∈F,o.dst≠some f.slot:=fun f hf=>by have:=hds f hf;simp at this;simpa using this.1
       have hdr:∀ f∈F,o.dst≠some f.src:=fun f hf=>by have:=hds f hf;simp at this;simpa using this.2
       have hm':=allMasks_spec F _ hm m;simp only [Bool.and_eq_true] at hm';rw [picks,ho] at h;obtain ⟨fuel,rfl⟩:∃ k,fuel=k+1:=⟨fuel - 1,by simp only [cnt] at hf;omega⟩;have q:=h x;unfold wpQuiet at q;have next:∀ v',wpSg P l.toArray C Q (picksL l zs) n0 (picks l r) F H L ((fill F x a).put o.dst v') w→wpAnyE P .any l.toArray Q C zs fuel ((marks listed (doneOf F m)).setIfInBounds i true) ((fill F x a).put o.dst v') w':=fun v' hnx=>by
        have k:=ih r F H L (listed.setIfInBounds i true) fuel ((fill F x a).put o.dst v') w m x w' (by simp at hn;omega) hg2 hF hs hi ⟨hI.ne,fun f hff=>by rw [getD_put _ o.dst v' f.src (hdr f hff),getD_fill x f.src F a fun g hg e=>absurd e (hI.ne g hg f hff)];exact hI.src f hff,fun f hff hmf=>?_,hI.new,hI.apart,hI.past,hI.met⟩ hb hc (by simp only [cnt] at hf;omega) hnx
        ·rw [fill_put x o.dst v' F a hds',fill_idem,← marks_set] at k
         rw [fill_put x o.dst v' F a hds'];exact k
        ·rw [getD_put _ o.dst v' f.slot (hds' f hff),getD_fill x f.slot F a fun g hg e=>by rw [← e];obtain rfl:=nodup_same hs f hff g hg e;exact hI.old g hg hmf]
         exact hI.old f hff hmf
       by_cases hw:Region.wanted o (yielded l.toArray (fill F x a).tmps)=true
       ·rw [if_pos hw] at q
        obtain ⟨v',hv',e⟩:=q;refine take (v:=v') hm'.2 hop hsel hm'.1.1 hm'.1.2 (fun c a w=>hQ c _ _ a w) (.inl ⟨hw,fun w2 hw2=>?_⟩) hc (next v' e);have q2:=hv' w2 hw2;unfold Oper.quietAt at q2
        cases e2:(execOp (fill F x a).eval o).run P w2 with
        | halt y w1=>rw [e2] at q2;cases q2
        | ok nx w1 =>
          obtain ⟨u,rfl⟩:=light_value hl e2;rw [e2] at q2;obtain ⟨e3,e4⟩:=q2;rw [e3,e4]
       ·rw [if_neg hw] at q
        exact take (v:=undef) hm'.2 hop hsel hm'.1.1 hm'.1.2 (fun c a w=>hQ c _ _ a w) (.inr ⟨by simpa using hw,rfl⟩) hc (next undef q)
   | (1,i) :: r,hg,h,hn,hf =>
     have hg0:=hg;have h0:=h;have hg':(_ && good l.toArray zs r F (listed.setIfInBounds i true))=true:=hg;rw [Bool.and_eq_true] at hg';obtain ⟨hg1,hg2⟩:=hg'
     cases ho:l[i]? with
     | none=>simp [ho] at hg1
     | some o =>
       have hop:l.toArray[i]? = some o:=by simp [ho]
       rw [hop] at hg1;simp only [Bool.and_eq_true,List.all_eq_true] at hg1;obtain ⟨hds,hm⟩:=hg1;have hds':∀ f∈F,o.dst≠some f.slot:=fun f hf=>by have:=hds f hf;simp at this;simpa using this.1
       have hdr:∀ f∈F,o.dst≠some f.src:=fun f hf=>by have:=hds f hf;simp at this;simpa using this.2
       have hm':=allMasks_spec F _ hm m;simp only [Bool.and_eq_true,List.all_eq_true] at hm';rw [picks,ho] at h;obtain ⟨hw,hwp⟩:=h x w' hb hc;obtain ⟨fuel,rfl⟩:∃ k,fuel=k+1:=⟨fuel - 1,by simp only [cnt] at hf;omega⟩;refine all rfl (fun e=>by rw [e] at hm';simp at hm') fun j hj=>?_;have hj':=hm'.2 j hj;rw [Bool.or_eq_true] at hj'
       rcases hj' with e | hfl
       ·obtain rfl:j=i:=by simpa using e
        unfold wpOp;simp only [hop,hw,if_true];refine .inl (Oper.wp_mono (fun a'' w'' hh=>?_) (wp_put hwp));obtain ⟨⟨ds,v,rfl⟩,c2,hsz,hbel,hT⟩:=hh;refine ⟨.inr (.inr c2),?_⟩;have k:=ih r F _ L (listed.setIfInBounds j true) fuel ((withD (fill F x a) ds).put o.dst v) w'' m x w'' (by simp at hn;omega) hg2 hF hs hi ⟨hI.ne,fun f hff=>by rw [fill_D,getD_put _ o.dst v f.src (hdr f hff),getD_fill x f.src F _ fun g hg e=>absurd e (hI.ne g hg f hff)];exact hI.src f hff,fun f hff hmf=>?_,fun f hff hmf=>?_,hI.apart,fun p hp=>?_,fun g hg=>Nat.lt_of_lt_of_le (hI.met g hg) hsz⟩ (Below.refl _ _) c2 (by simp only [cnt] at hf;omega) hT
        ·rw [fill_D,fill_put x o.dst v F _ hds',fill_idem,← marks_set] at k
         rw [fill_D,fill_put x o.dst v F _ hds'];exact k
        ·rw [fill_D,getD_put _ o.dst v f.slot (hds' f hff),getD_fill x f.slot F _ fun g hg e=>by rw [← e];obtain rfl:=nodup_same hs f hff g hg e;exact hI.old g hg hmf]
         exact hI.old f hff hmf
        ·obtain ⟨g,g1,g2,g3,g4,g5⟩:=hI.new f hff hmf
         refine ⟨g,g1,((hbel.resolve_left fun e=>by rw [e] at hff;cases hff) g g3 (lt_of_block g2)).trans g2,g3,fun p hp=>?_,g5⟩
         rcases List.mem_cons.1 hp with rfl | hp
         ·exact .inl (lt_of_block g2)
         ·exact g4 p hp
        ·rcases List.mem_cons.1 hp with rfl | hp
         ·exact Nat.le_refl _
         ·exact Nat.le_trans (hI.past p hp) hsz
       ·obtain ⟨f,hff,he⟩:=List.any_eq_true.1 hfl
        rw [Bool.and_eq_true] at he;obtain rfl:f.idx=j:=by simpa using he.1
        have hmf:m f.idx=false:=by
         have hd:f.idx ∉ doneOf F m:=by simpa using he.2
         rw [mem_done] at hd
         cases hmm:m f.idx with
         | false=>rfl
         | true=>exact absurd ⟨hmm,f,hff,rfl⟩ hd
        exact float ih hC hA hn hg0 hF hs hi hI hb hc hf h0 f hff hmf
   | (k+2,i) :: r,hg,h,hn,hf =>
     have hg0:=hg;have h0:=h
     match F,hg,h,hF,hs,hi,hI,hf,hg0,h0 with
     | [],hg,h,_,_,_,_,_,_,_=>simp [good] at hg
     | f :: F,hg,h,hF,hs,hi,hI,hf,hg0,h0 =>
       have hg':((l.toArray[i]?).isSome && allMasks (f :: F) _ && good l.toArray zs r F (listed.setIfInBounds f.idx true))=true:=hg;rw [Bool.and_eq_true,Bool.and_eq_true] at hg';obtain ⟨⟨hio,hm⟩,hg2⟩:=hg';have hm':=allMasks_spec (f :: F) _ hm m
       cases hmm:m f.idx with
       | true =>
         obtain ⟨g,g1,g2,g3,g4,g5⟩:=hI.new f (List.mem_cons_self ..) hmm;have hp:∀ {o:Oper},wpSg P l.toArray C Q (picksL l zs) n0 ((k+2,o) :: picks l r) (f :: F) H L a w→wpSg P l.toArray C Q (picksL l zs) n0 (picks l r) F H (g :: L) (a.put (some f.slot) (sln f.n g)) w':=fun h=>h g w' hb hc g2 g3 g4 g5;have hT:wpSg P l.toArray C Q (picksL l zs) n0 (picks l r) F H (g :: L) (a.put (some f.slot) (sln f.n g)) w':=by
          cases ho:l[i]? with
          | none=>simp [ho] at hio
          | some o =>
            rw [picks,ho] at h;exact hp h
         have hd:doneOf (f :: F) m=f.idx :: doneOf F m:=by unfold doneOf;rw [List.filter_cons,if_pos hmm];rfl
         rw [hd]
         show wpAnyE P .any l.toArray Q C zs fuel (marks (listed.setIfInBounds f.idx true) (doneOf F m)) (fill F x (a.put (some f.slot) (x f.slot))) w'
         rw [g1];rw [List.map_cons,List.nodup_cons] at hs;have hne:∀ f'∈F,f.slot≠f'.slot:=fun f' h' e=>hs.1 (List.mem_map.2 ⟨f',h',e.symm⟩);refine ih r F H (g :: L) _ fuel _ w' m x w' (by simp at hn;omega) hg2 (fun f' h'=>hF f' (List.mem_cons_of_mem _ h')) hs.2 (fun a ha b hb=>hi a (List.mem_cons_of_mem _ ha) b (List.mem_cons_of_mem _ hb)) ⟨fun a ha b hb=>hI.ne a (List.mem_cons_of_mem _ ha) b (List.mem_cons_of_mem _ hb),fun f' h'=>by rw [getD_put a _ _ f'.src (fun e=>hI.ne f (List.mem_cons_self ..) f' (List.mem_cons_of_mem _ h') (Option.some.inj e))];exact hI.src f' (List.mem_cons_of_mem _ h'),fun f' h' hmf=>?_,fun f' h' hmf=>?_,fun f' h' f'' h''=>hI.apart f' (List.mem_cons_of_mem _ h') f'' (List.mem_cons_of_mem _ h''),hI.past,fun b hb=>?_⟩ (Below.refl _ _) hc ?_ hT
         ·rw [getD_put a _ _ f'.slot (fun e=>hne f' h' (Option.some.inj e))]
          exact hI.old f' (List.mem_cons_of_mem _ h') hmf
         ·obtain ⟨b,b1,b2,b3,b4,b5⟩:=hI.new f' (List.mem_cons_of_mem _ h') hmf
          refine ⟨b,b1,b2,b3,b4,fun hl=>?_⟩
          rcases List.mem_cons.1 hl with e | hl
          ·exact hI.apart f' (List.mem_cons_of_mem _ h') f (List.mem_cons_self ..) (fun e=>hne f' h' e.symm) hmf hmm b g b1 g1 e
          ·exact b5 hl
         ·rcases List.mem_cons.1 hb with rfl | hb
          ·exact lt_of_block g2
          ·exact hI.met b hb
         ·simp only [cnt,left,hmm] at hf
          simpa using hf
       | false =>
         have hd:(doneOf (f :: F) m).contains f.idx=false:=by
          have:f.idx ∉ doneOf (f :: F) m:=fun h=>by rw [mem_done,hmm] at h;simp at h
          simpa using this
         rw [hd,Bool.false_or] at hm';simp only [Bool.and_eq_true,List.all_eq_true] at hm';have lf:=left_on (f :: F) m f (List.mem_cons_self ..) hmm;obtain ⟨fuel,rfl⟩:∃ k,fuel=k+1:=⟨fuel - 1,by omega⟩;refine all rfl (fun e=>by rw [e] at hm';simp at hm') fun j hj=>?_;obtain ⟨f',hff,he⟩:=List.any_eq_true.1 (hm'.2 j hj);rw [Bool.and_eq_true] at he;obtain rfl:f'.idx=j:=by simpa using he.1
         have hmf:m f'.idx=false:=by
          have hd:f'.idx ∉ doneOf (f :: F) m:=by simpa using he.2
          rw [mem_done] at hd
          cases hmm:m f'.idx with
          | false=>rfl
          | true=>exact absurd ⟨hmm,f',hff,rfl⟩ hd
         exact float ih hC hA hn hg0 hF hs hi hI hb hc hf h0 f' hff hmf
theorem fill_self (a:Act):∀ F:List Fl,fill F (fun s=>a.tmps.getD s undef) a=a
 | []=>rfl
 | f :: r=>by
   have e:a.put (some f.slot) (a.tmps.getD f.slot undef)=a:=by
    simp only [Act.put];have:a.tmps.setIfInBounds f.slot (a.tmps.getD f.slot undef)=a.tmps:=by
     refine Array.ext_getElem? fun k=>?_;rw [Array.getElem?_setIfInBounds]
     by_cases hk:f.slot=k
     ·subst hk
      by_cases hl:f.slot < a.tmps.size
      ·simp [hl]
      ·simp [hl]
     ·simp [hk]
    rw [this]
   show fill r (fun s=>a.tmps.getD s undef) (a.put (some f.slot) (a.tmps.getD f.slot undef))=a
   rw [e];exact fill_self a r
theorem left_all:∀ F:List Fl,left F (fun _=>false)=F.length
 | []=>rfl
 | f :: r=>by show left r _+1=r.length+1;rw [left_all r]
def goodL (ops:Array Oper) (zs:List Nat):List Nat→Array Bool→Bool
 | [],_=>true
 | i :: r,L=>(match ops[i]? with
   | some o=>light o.op && Region.free .any ops L i && (Region.ready .any ops L).contains i && okB ops zs i L
   | none=>false) && goodL ops zs r (L.setIfInBounds i true)
def wpL (P:Program) (ops:Array Oper) (C:World→Prop) (K:Act→Prop):List Oper→Act→Prop
 | [],a=>K a
 | o :: r,a=>wpQuiet P ops C (fun a'=>wpL P ops C K r a') [o] a
theorem lights {P:Program} {l:List Oper} {C:World→Prop} {Q:Exit→Act→World→Prop} {w:World} {K:Act→Prop} {zs:List Nat} {fuel:Nat} (hs:Region.noSelect l.toArray=true) (hQ:∀ c d v a w,Q (.panic c) (Act.put a d v) w→Q (.panic c) a w) (hC:C w) :
 ∀ (sc:List Nat) (listed:Array Bool) (a:Act),goodL l.toArray zs sc listed=true→(∀ a',K a'→wpAnyE P .any l.toArray Q C zs fuel (marks listed sc) a' w)→wpL P l.toArray C K (picksL l sc) a→wpAnyE P .any l.toArray Q C zs (fuel+sc.length) listed a w
 | [],listed,a,_,hk,h=>hk a h
 | i :: r,listed,a,hg,hk,h=>by
   unfold goodL at hg;rw [Bool.and_eq_true] at hg;obtain ⟨hg1,hg2⟩:=hg;have hll:l.toArray[i]? = l[i]?:=by rw [List.getElem?_toArray]
   cases ho:l[i]? with
   | none=>rw [hll,ho] at hg1;cases hg1
   | some o =>
     rw [hll,ho] at hg1;have hop:l.toArray[i]? = some o:=hll.trans ho;have hp:picksL l (i :: r)=o :: picksL l r:=by rw [picksL,ho]
     rw [hp] at h;simp only [Bool.and_eq_true] at hg1;obtain ⟨⟨⟨hl,hf⟩,hr⟩,hbk⟩:=hg1;unfold wpL at h
     show wpAnyE P .any l.toArray Q C zs ((fuel+r.length)+1) listed a w
     by_cases hw:Region.wanted o (yielded l.toArray a.tmps)=true
     ·unfold wpQuiet at h
      rw [if_pos hw] at h;obtain ⟨v,hv,hn⟩:=h;refine take (v:=v) hbk hop hs hf hr (fun c a w=>hQ c _ _ a w) (.inl ⟨hw,fun w' hw'=>?_⟩) hC (lights hs hQ hC r _ _ hg2 hk hn);have q:=hv w' hw';unfold Oper.quietAt at q
      cases e:(execOp a.eval o).run P w' with
      | halt x w1=>rw [e] at q;cases q
      | ok n w1 =>
        obtain ⟨u,rfl⟩:=light_value hl e;rw [e] at q;obtain ⟨e1,e2⟩:=q;rw [e1,e2]
     ·unfold wpQuiet at h
      rw [if_neg hw] at h;exact take (v:=undef) hbk hop hs hf hr (fun c a w=>hQ c _ _ a w) (.inr ⟨by simpa using hw,rfl⟩) hC (lights hs hQ hC r _ _ hg2 hk h)
def goodU (ops:Array Oper) (zs:List Nat):List Nat→Array Bool→Bool
 | [],_=>true
 | i :: r,L=>(match ops[i]? with
   | some o=>light o.op && Region.free .any ops L i && (Region.ready .any ops L).contains i && !zs.contains i
   | none=>false) && goodU ops zs r (L.setIfInBounds i true)
theorem lightsU {P:Program} {l:List Oper} {C:World→Prop} {Q:Exit→Act→World→Prop} {w:World} {K:Act→Prop} {zs:List Nat} {fuel:Nat} (hs:Region.noSelect l.toArray=true) (hQ:∀ c d v a w,Q (.panic c) (Act.put a d v) w→Q (.panic c) a w) (hC:C w) :
 ∀ (sc:List Nat) (listed:Array Bool) (a:Act),goodU l.toArray zs sc listed=true→(∀ a',K a'→wpAnyE P .any l.toArray Q C zs fuel (marks listed sc) a' w)→wpL P l.toArray (fun w'=>∃ p:In (fun _=>True),w'=p.world) K (picksL l sc) a→wpAnyE P .any l.toArray Q C zs (fuel+sc.length) listed a w
 | [],listed,a,_,hk,h=>hk a h
 | i :: r,listed,a,hg,hk,h=>by
   unfold goodU at hg;rw [Bool.and_eq_true] at hg;obtain ⟨hg1,hg2⟩:=hg;have hll:l.toArray[i]? = l[i]?:=by rw [List.getElem?_toArray]
   cases ho:l[i]? with
   | none=>rw [hll,ho] at hg1;cases hg1
   | some o =>
     rw [hll,ho] at hg1;have hop:l.toArray[i]? = some o:=hll.trans ho;have hp:picksL l (i :: r)=o :: picksL l r:=by rw [picksL,ho]
     rw [hp] at h;simp only [Bool.and_eq_true] at hg1;obtain ⟨⟨⟨hl,hf⟩,hr⟩,hbk⟩:=hg1;have hbk:zs.contains i=false:=by simpa using hbk
     unfold wpL at h
     show wpAnyE P .any l.toArray Q C zs ((fuel+r.length)+1) listed a w
     by_cases hw:Region.wanted o (yielded l.toArray a.tmps)=true
     ·unfold wpQuiet at h
      rw [if_pos hw] at h;obtain ⟨v,hv,hn⟩:=h;refine takeU (v:=v) hbk hop hs hf hr (fun c a w=>hQ c _ _ a w) (.inl ⟨hw,fun w' _=>?_⟩) hC (lightsU hs hQ hC r _ _ hg2 hk hn);have q:=hv w' ⟨⟨w',trivial⟩,rfl⟩;unfold Oper.quietAt at q
      cases e:(execOp a.eval o).run P w' with
      | halt x w1=>rw [e] at q;cases q
      | ok n w1 =>
        obtain ⟨u,rfl⟩:=light_value hl e;rw [e] at q;obtain ⟨e1,e2⟩:=q;rw [e1,e2]
     ·unfold wpQuiet at h
      rw [if_neg hw] at h;exact takeU (v:=undef) hbk hop hs hf hr (fun c a w=>hQ c _ _ a w) (.inr ⟨by simpa using hw,rfl⟩) hC (lightsU hs hQ hC r _ _ hg2 hk h)
theorem startU {id:Nat} {l:List Oper} {Q:Exit→Act→World→Prop} {a:Act} {w:World} (C:World→Prop) (us ls:List Nat) (sc:List (Nat×Nat)) (zs:List Nat) (F:List Fl) (hm:P.follows .mixedOrders=true) (hs:Region.noSelect l.toArray=true) (hgu:goodU l.toArray zs us (Array.replicate l.toArray.size false)=true)
 (hgl:goodL l.toArray zs ls (marks (Array.replicate l.toArray.size false) us)=true) (hg:good l.toArray zs sc F (marks (marks (Array.replicate l.toArray.size false) us) ls)=true) (hc:cnt zs.length sc+F.length+ls.length+us.length=l.toArray.size) (hn:(F.map (·.slot)).Nodup) (hi:∀ f∈F,∀ f'∈F,f.idx=f'.idx→f.slot=f'.slot) (hx:∀ f∈F,∀ g∈F,f.slot≠g.src) (hF:∀ f∈F,FlOk P l f)
 (h0:C w.drew) (hn0:∀ w',C w'→w.heap.size≤w'.heap.size) (hA:∀ w' o,C w'→C (w'.alloc o))
 (h:wpL P l.toArray (fun w'=>∃ p:In (fun _=>True),w'=p.world) (fun a0=>wpL P l.toArray (fun w'=>∃ p:In C,w'=p.world) (fun a'=>(∀ f∈F,a'.tmps.getD f.src undef=f.val)∧wpSg P l.toArray (fun w'=>∃ p:In C,w'=p.world) (NoPanic Q) (picksL l zs) w.heap.size (picks l sc) F [] [] a' w.drew) (picksL l ls) a0) (picksL l us) a):(Code.region id l.toArray true).wp P Q a w :=
 wp_region_noPanic (wp_region_any hm (any_of (S:=fun w'=>∃ p:In C,w'=p.world) (zs:=zs) _ _ _ _ (by
  have hll:=lightsU (fuel:=cnt zs.length sc+F.length+ls.length) (zs:=zs) (C:=fun w'=>∃ p:In C,w'=p.world) (Q:=NoPanic Q) hs (fun _ _ _ _ _ h=>h) (Cl.of h0) us _ a hgu (fun a0 ha0=>?_) h
  ·rw [hc] at hll
   exact hll
  refine lights (fuel:=cnt zs.length sc+F.length) (zs:=zs) (C:=fun w'=>∃ p:In C,w'=p.world) (Q:=NoPanic Q) hs (fun _ _ _ _ _ h=>h) (Cl.of h0) ls _ a0 hgl (fun a' ha=>?_) ha0;obtain ⟨hsrc,ha⟩:=ha;have hd:doneOf F (fun _=>false) = []:=by unfold doneOf;simp
  have k:=holds (P:=P) (l:=l) (C:=fun w'=>∃ p:In C,w'=p.world) (Q:=NoPanic Q) (zs:=zs) (n0:=w.heap.size) hs (fun _ _ _ _ _ h=>h) (fun w' h=>by obtain ⟨p,rfl⟩:=h;exact hn0 _ p.ok) (fun w' o h=>by obtain ⟨p,rfl⟩:=h;exact Cl.of (hA _ _ p.ok)) (2 * (cnt zs.length sc+F.length)+sc.length) sc F [] [] (marks (marks (Array.replicate l.toArray.size false) us) ls) (cnt zs.length sc+F.length) a' w.drew (fun _=>false) (fun s=>a'.tmps.getD s undef) w.drew
   (Nat.le_refl _) hg hF hn hi ⟨hx,hsrc,fun _ _ _=>rfl,fun _ _ h=>(by cases h),fun _ _ _ _ _ h=>(by cases h),fun _ hp=>(by cases hp),fun _ hg=>(by cases hg)⟩ (Below.refl _ _) (Cl.of h0) (by rw [left_all];exact Nat.le_refl _) ha
  rw [hd,fill_self] at k
  exact k)))
theorem startT {id:Nat} {l:List Oper} {Q:Exit→Act→World→Prop} {a:Act} {w:World} (C:World→Prop) (ls:List Nat) (sc:List (Nat×Nat)) (zs:List Nat) (F:List Fl) (hm:P.follows .mixedOrders=true) (hs:Region.noSelect l.toArray=true)
 (hgl:goodL l.toArray zs ls (Array.replicate l.toArray.size false)=true) (hg:good l.toArray zs sc F (marks (Array.replicate l.toArray.size false) ls)=true) (hc:cnt zs.length sc+F.length+ls.length=l.toArray.size) (hn:(F.map (·.slot)).Nodup) (hi:∀ f∈F,∀ f'∈F,f.idx=f'.idx→f.slot=f'.slot) (hx:∀ f∈F,∀ g∈F,f.slot≠g.src) (hF:∀ f∈F,FlOk P l f)
 (h0:C w.drew) (hn0:∀ w',C w'→w.heap.size≤w'.heap.size) (hA:∀ w' o,C w'→C (w'.alloc o))
 (h:wpL P l.toArray (fun w'=>∃ p:In C,w'=p.world) (fun a'=>(∀ f∈F,a'.tmps.getD f.src undef=f.val)∧wpSg P l.toArray (fun w'=>∃ p:In C,w'=p.world) (NoPanic Q) (picksL l zs) w.heap.size (picks l sc) F [] [] a' w.drew) (picksL l ls) a):(Code.region id l.toArray true).wp P Q a w :=
 startU C [] ls sc zs F hm hs rfl hgl hg hc hn hi hx hF h0 hn0 hA h
theorem start {id:Nat} {l:List Oper} {Q:Exit→Act→World→Prop} {a:Act} {w:World} (C:World→Prop) (ls:List Nat) (sc:List (Nat×Nat)) (F:List Fl) (hm:P.follows .mixedOrders=true) (hs:Region.noSelect l.toArray=true)
 (hgl:goodL l.toArray [] ls (Array.replicate l.toArray.size false)=true) (hg:good l.toArray [] sc F (marks (Array.replicate l.toArray.size false) ls)=true) (hc:cnt 0 sc+F.length+ls.length=l.toArray.size) (hn:(F.map (·.slot)).Nodup) (hi:∀ f∈F,∀ f'∈F,f.idx=f'.idx→f.slot=f'.slot) (hx:∀ f∈F,∀ g∈F,f.slot≠g.src) (hF:∀ f∈F,FlOk P l f)
 (h0:C w.drew) (hn0:∀ w',C w'→w.heap.size≤w'.heap.size) (hA:∀ w' o,C w'→C (w'.alloc o))
 (h:wpL P l.toArray (fun w'=>∃ p:In C,w'=p.world) (fun a'=>(∀ f∈F,a'.tmps.getD f.src undef=f.val)∧wpSg P l.toArray (fun w'=>∃ p:In C,w'=p.world) (NoPanic Q) [] w.heap.size (picks l sc) F [] [] a' w.drew) (picksL l ls) a):(Code.region id l.toArray true).wp P Q a w :=
 startT C ls sc [] F hm hs hgl hg hc hn hi hx hF h0 hn0 hA h
section
variable {ops:Array Oper} {a:Act} {w:World} {o:Oper} {r:List (Nat×Oper)} {F:List Fl} {H:List (Nat×Nat)} {L:List Nat}
theorem lit (h:∀ x,wpQuiet P ops C (fun a'=>wpSg P ops C Q tl n0 r F H L a' w) [o] (fill F x a)):wpSg P ops C Q tl n0 ((0,o) :: r) F H L a w:=h
theorem call (h:∀ x w',Below w.heap.size w w'→C w'→Region.wanted o (yielded ops (fill F x a).tmps)=true ∧
 ∀ K:Act→World→Prop,(∀ a'' w'',C w''→w'.heap.size≤w''.heap.size→(∀ g,n0≤g→g < w'.heap.size→w''.heap[g]? = w'.heap[g]?)→wpSg P ops C Q tl n0 r F ((w'.heap.size,w''.heap.size) :: H) L a'' w''→K a'' w'')→o.wp P (fill F x a) w' K Q) :
 wpSg P ops C Q tl n0 ((1,o) :: r) F H L a w:=fun x w' hb hc=>⟨(h x w' hb hc).1,(h x w' hb hc).2 _ fun _ _ c s b k=>⟨c,s,.inr b,k⟩⟩
theorem meet {f:Fl} (h:∀ g w',Below w.heap.size w w'→C w'→w'.heap[g]? = some (.cells f.cs f.ty (0,0))→n0≤g→(∀ p∈H,g < p.1∨p.2≤g)→g ∉ L→wpSg P ops C Q tl n0 r F H (g :: L) (a.put (some f.slot) (sln f.n g)) w') :
 wpSg P ops C Q tl n0 ((2,o) :: r) (f :: F) H L a w:=h
theorem done {Q:Exit→Act→World→Prop} (h:∀ w',Below w.heap.size w w'→C w'→Q .normal a w'):wpSg P ops C (NoPanic Q) [] n0 [] F H L a w:=h
end
end
end Go.Proofs.YtljnkaodhfnbbaaGreatDoor.Sg
namespace Go.Proofs.YtljnkaodhfnbbaaGreatDoor.Pa
open Go.RowKit Go.Maps
open Fs (Abs St Rs Rst Only Fx Lst Ent OkA addE addA put key ins ow_only put_new ins_at look_none AddPost)
open Rw (Rd Ow At Kind)
open Ro (E5 K5 okE)
open Ck (LL lat RdL KS Hd sl zh)
open Fl (R4)
theorem add_next {A:Abs} (h:OkA A) {k:Nat} {n p:Int} {l:List R4} (hc:A[k]? = some (n,p,l)):addE (A.take k) n p l=0∧addA (A.take k) n p l=A.take (k+1):=by
 have hk:k < A.length:=by
  by_cases hk:k < A.length
  ·exact hk
  ·rw [List.getElem?_eq_none (by omega)] at hc;cases hc
 have hm:(n,p,l)∈A:=List.mem_of_getElem? hc;have lt:∀ x∈A.take k,key x < n:=fun x hx=>by
  obtain ⟨i,hi⟩:=List.mem_iff_getElem?.1 hx;have hik:i < k:=by
   have:i < (A.take k).length:=by
    by_cases q:i < (A.take k).length
    ·exact q
    ·rw [List.getElem?_eq_none (by omega)] at hi;cases hi
   rw [List.length_take] at this
   omega
  rw [List.getElem?_take,if_pos hik] at hi;have q:=List.pairwise_iff_getElem.1 h.srt i k (by omega) hk hik;rw [List.getElem?_eq_getElem (by omega)] at hi;rw [List.getElem?_eq_getElem hk] at hc;injection hi with hi;injection hc with hc;rw [hi,hc] at q;exact q
 have hn:Fs.look key n (A.take k)=none:=look_none.2 fun x hx=>by have:=lt x hx;omega
 have e0:addE (A.take k) n p l=0:=by
  unfold addE;rw [if_pos (h.nm _ hm),if_pos (h.good _ hm),hn]
  rfl
 refine ⟨e0,?_⟩;unfold addA;rw [if_pos e0,put_new (c:=(n,p,l)) hn,ins_at (k:=(A.take k).length) (fun x hx=>lt x (List.mem_of_mem_take hx)) (fun x hx=>by rw [List.getElem?_eq_none (Nat.le_refl _)] at hx;cases hx),List.take_length,List.drop_length];rw [List.take_add_one,hc]
 rfl
structure Cel where
 files:Hd
 table:Hd
 live:Bool
 steps:Hd
 F:List Ent
 T:List E5
 S:List S2
def celD:Cel:=⟨zh,zh,false,zh,[],[],[]⟩
def KC:Rw.Kind Cel:=⟨fun c=>[sl c.files,sl c.table,.bool c.live,sl c.steps],4,by decide,fun _=>rfl,fun _ u h=>by simp [sl] at h;rcases h with rfl | rfl | rfl | rfl <;> rfl,celD⟩
def cel (L:List Cel) (i:Nat):Cel:=L.getD i celD
structure Cls (w:World) (v:Value) (L:List Cel):Prop where
 rd:Rd KC w v L
 file:∀ i,i < L.length→Fls w (sl (cel L i).files) (cel L i).F w.heap.size
 tab:∀ i,i < L.length→Rd K5 w (sl (cel L i).table) (cel L i).T
 stp:∀ i,i < L.length→Rd K2 w (sl (cel L i).steps) (cel L i).S
theorem at_cel {w:World} {b off:Nat} {L:List Cel} (h:At KC w b off L) {i:Nat} (hi:i < L.length):w.cell? ⟨b,off+i * 4,none⟩=some (sl (cel L i).files)∧w.cell? ⟨b,off+i * 4+1,none⟩=some (sl (cel L i).table)∧w.cell? ⟨b,off+i * 4+2,none⟩=some (.bool (cel L i).live) :=
 ⟨h i hi 0 _ rfl,h i hi 1 _ rfl,h i hi 2 _ rfl⟩
theorem at_cel3 {w:World} {b off:Nat} {L:List Cel} (h:At KC w b off L) {i:Nat} (hi:i < L.length):w.cell? ⟨b,off+i * 4+3,none⟩=some (sl (cel L i).steps):=h i hi 3 _ rfl
def Q4 (o1 o2 o3 o4:Value) (b:Nat):Prop:=o1.ownBlock=some b∨o2.ownBlock=some b∨o3.ownBlock=some b∨o4.ownBlock=some b
theorem ow_apart {α β:Type} {K:Kind α} {J:Kind β} {w:World} {B B' E E':Nat} {v v':Value} {l:List α} {l':List β} (h:Ow K w B E v l) (h':Ow J w B' E' v' l') (hE:E≠E'):∀ k,v.ownBlock=some k→v'.ownBlock≠some k:=fun k hk=>by
 obtain ⟨_,h⟩:=h
 rcases h with ⟨rfl,_⟩ | ⟨g,cap,cur,rfl,_,hh,_⟩
 ·simp [Value.ownBlock] at hk
 ·simp only [Value.ownBlock,Option.some.injEq] at hk
  subst hk;exact h'.apart hh hE
def St4 (w:World) (s:Nat) (A:Abs) (Q:Nat→Prop):Prop:=∃ F,St w s F A 0∧∀ b,F b→¬ Q b
theorem St4.grow {w w':World} {s:Nat} {A:Abs} {Q Q':Nat→Prop} (h:St4 w s A Q) (o:Only Q w w') (hq:∀ b,Q' b→Fx Q w w' b):St4 w' s A Q':=by
 obtain ⟨F,h,d⟩:=h;refine ⟨F,h.only d o,fun b hb g=>?_⟩
 rcases hq b g with g | ⟨g,_⟩
 ·exact d b hb g
 ·have:=h.low b hb;omega
theorem rs4_grow {w w':World} {r:Nat} {A:Abs} {d:Int} {Q Q':Nat→Prop} (h:Rs w r Q A d) (o:Only Q w w') (hq:∀ b,Q' b→Fx Q w w' b):Rs w' r Q' A d:=rs_mono (Fs.Rs.only h o) fun k _ g=>hq k g
structure B4I (w:World) (n:Nat) (P R:List Nat) (S:Sts) (o1:Value) (l1:List Nat) (o2:Value) (l2:List Nat) (o3:Value) (l3:List Hd) (o4:Value) (l4:List Bool) (wr:World):Prop where
 w1:Ow KN wr w.heap.size 89 o1 l1
 w2:Ow KN wr w.heap.size 51 o2 l2
 w3:Ow KS wr w.heap.size 85 o3 l3
 w4:Ow KB wr w.heap.size 4 o4 l4
 st:∀ i,i < n→St4 wr (P.getD i 0) (sat S i).1 (Q4 o1 o2 o3 o4)
 rf:∀ i,i < n→Rs wr (R.getD i 0) (Q4 o1 o2 o3 o4) (sat S i).1 0
 bel:Below w.heap.size w wr
section
variable {w wr w':World} {n:Nat} {P R:List Nat} {S:Sts} {o1 o2 o3 o4 o':Value} {l1 l2:List Nat} {l3:List Hd} {l4:List Bool}
theorem B4I.below (h:B4I w n P R S o1 l1 o2 l2 o3 l3 o4 l4 wr) (b:Below wr.heap.size wr w'):B4I w n P R S o1 l1 o2 l2 o3 l3 o4 l4 w' :=
 ⟨h.w1.keep b,h.w2.keep b,h.w3.keep b,h.w4.keep b,fun i hi=>by obtain ⟨F,a,d⟩:=h.st i hi;exact ⟨F,a.below b,d⟩,fun i hi=>Fs.Rs.below (h.rf i hi) b,h.bel.trans (b.mono h.bel.size)⟩
theorem B4I.low (h:B4I w n P R S o1 l1 o2 l2 o3 l3 o4 l4 wr):∀ k,Q4 o1 o2 o3 o4 k→w.heap.size≤k∧k < wr.heap.size:=fun k g=>by
 rcases g with g | g | g | g
 ·exact World.ownsRow.lt h.w1 k g
 ·exact World.ownsRow.lt h.w2 k g
 ·exact World.ownsRow.lt h.w3 k g
 ·exact World.ownsRow.lt h.w4 k g
theorem q_fx {q q':Option Nat} {Q:Nat→Prop} (hq:q'=q∨∃ g,q'=some g∧wr.heap.size≤g) (hl:∀ g,q'=some g→g < w'.heap.size) (h:∀ k,q=some k→Q k):∀ k,q'=some k→Fx Q wr w' k:=fun k e=>by
 rcases hq with rfl | ⟨g,rfl,hg⟩
 ·exact .inl (h k e)
 ·exact .inr ⟨by injection e with e;omega,hl _ e⟩
theorem B4I.grown (h:B4I w n P R S o1 l1 o2 l2 o3 l3 o4 l4 wr) {q:Option Nat} (gr:wr.grownBy w' q) (hq:∀ k,q=some k→Q4 o1 o2 o3 o4 k):Only (Q4 o1 o2 o3 o4) wr w'∧Below w.heap.size w w' :=
 ⟨(only_grown gr).mono fun k _ e=>hq k e,h.bel.grown gr h.bel.size fun j e=>(h.low j (hq j e)).1⟩
theorem B4I.push1 (h:B4I w n P R S o1 l1 o2 l2 o3 l3 o4 l4 wr) {x:Nat} (own:Ow KN w' w.heap.size 89 o' (l1 ++ [x])) (gr:wr.grownBy w' o1.ownBlock) (hq:o'.ownBlock=o1.ownBlock∨∃ g,o'.ownBlock=some g∧wr.heap.size≤g):B4I w n P R S o' (l1 ++ [x]) o2 l2 o3 l3 o4 l4 w':=by
 obtain ⟨o,b⟩:=h.grown gr fun k e=>.inl e;have fx:∀ k,Q4 o' o2 o3 o4 k→Fx (Q4 o1 o2 o3 o4) wr w' k:=fun k g=>by
  rcases g with g | g
  ·exact q_fx hq (fun g e=>(World.ownsRow.lt own g e).2) (fun k e=>.inl e) k g
  ·exact .inl (.inr g)
 exact ⟨own,ow_only h.w2 (fun k e=>ow_apart h.w2 h.w1 (by decide) k e) (only_grown gr),ow_only h.w3 (fun k e=>ow_apart h.w3 h.w1 (by decide) k e) (only_grown gr),ow_only h.w4 (fun k e=>ow_apart h.w4 h.w1 (by decide) k e) (only_grown gr),fun i hi=>(h.st i hi).grow o fx,fun i hi=>rs4_grow (h.rf i hi) o fx,b⟩
theorem B4I.push2 (h:B4I w n P R S o1 l1 o2 l2 o3 l3 o4 l4 wr) {x:Nat} (own:Ow KN w' w.heap.size 51 o' (l2 ++ [x])) (gr:wr.grownBy w' o2.ownBlock) (hq:o'.ownBlock=o2.ownBlock∨∃ g,o'.ownBlock=some g∧wr.heap.size≤g):B4I w n P R S o1 l1 o' (l2 ++ [x]) o3 l3 o4 l4 w':=by
 obtain ⟨o,b⟩:=h.grown gr fun k e=>.inr (.inl e);have fx:∀ k,Q4 o1 o' o3 o4 k→Fx (Q4 o1 o2 o3 o4) wr w' k:=fun k g=>by
  rcases g with g | g | g
  ·exact .inl (.inl g)
  ·exact q_fx hq (fun g e=>(World.ownsRow.lt own g e).2) (fun k e=>.inr (.inl e)) k g
  ·exact .inl (.inr (.inr g))
 exact ⟨ow_only h.w1 (fun k e=>ow_apart h.w1 h.w2 (by decide) k e) (only_grown gr),own,ow_only h.w3 (fun k e=>ow_apart h.w3 h.w2 (by decide) k e) (only_grown gr),ow_only h.w4 (fun k e=>ow_apart h.w4 h.w2 (by decide) k e) (only_grown gr),fun i hi=>(h.st i hi).grow o fx,fun i hi=>rs4_grow (h.rf i hi) o fx,b⟩
theorem B4I.push3 (h:B4I w n P R S o1 l1 o2 l2 o3 l3 o4 l4 wr) {x:Hd} (own:Ow KS w' w.heap.size 85 o' (l3 ++ [x])) (gr:wr.grownBy w' o3.ownBlock) (hq:o'.ownBlock=o3.ownBlock∨∃ g,o'.ownBlock=some g∧wr.heap.size≤g):B4I w n P R S o1 l1 o2 l2 o' (l3 ++ [x]) o4 l4 w':=by
 obtain ⟨o,b⟩:=h.grown gr fun k e=>.inr (.inr (.inl e));have fx:∀ k,Q4 o1 o2 o' o4 k→Fx (Q4 o1 o2 o3 o4) wr w' k:=fun k g=>by
  rcases g with g | g | g | g
  ·exact .inl (.inl g)
  ·exact .inl (.inr (.inl g))
  ·exact q_fx hq (fun g e=>(World.ownsRow.lt own g e).2) (fun k e=>.inr (.inr (.inl e))) k g
  ·exact .inl (.inr (.inr (.inr g)))
 exact ⟨ow_only h.w1 (fun k e=>ow_apart h.w1 h.w3 (by decide) k e) (only_grown gr),ow_only h.w2 (fun k e=>ow_apart h.w2 h.w3 (by decide) k e) (only_grown gr),own,ow_only h.w4 (fun k e=>ow_apart h.w4 h.w3 (by decide) k e) (only_grown gr),fun i hi=>(h.st i hi).grow o fx,fun i hi=>rs4_grow (h.rf i hi) o fx,b⟩
theorem B4I.push4 (h:B4I w n P R S o1 l1 o2 l2 o3 l3 o4 l4 wr) {x:Bool} (own:Ow KB w' w.heap.size 4 o' (l4 ++ [x])) (gr:wr.grownBy w' o4.ownBlock) (hq:o'.ownBlock=o4.ownBlock∨∃ g,o'.ownBlock=some g∧wr.heap.size≤g):B4I w n P R S o1 l1 o2 l2 o3 l3 o' (l4 ++ [x]) w':=by
 obtain ⟨o,b⟩:=h.grown gr fun k e=>.inr (.inr (.inr e));have fx:∀ k,Q4 o1 o2 o3 o' k→Fx (Q4 o1 o2 o3 o4) wr w' k:=fun k g=>by
  rcases g with g | g | g | g
  ·exact .inl (.inl g)
  ·exact .inl (.inr (.inl g))
  ·exact .inl (.inr (.inr (.inl g)))
  ·exact q_fx hq (fun g e=>(World.ownsRow.lt own g e).2) (fun k e=>.inr (.inr (.inr e))) k g
 exact ⟨ow_only h.w1 (fun k e=>ow_apart h.w1 h.w4 (by decide) k e) (only_grown gr),ow_only h.w2 (fun k e=>ow_apart h.w2 h.w4 (by decide) k e) (only_grown gr),ow_only h.w3 (fun k e=>ow_apart h.w3 h.w4 (by decide) k e) (only_grown gr),own,fun i hi=>(h.st i hi).grow o fx,fun i hi=>rs4_grow (h.rf i hi) o fx,b⟩
theorem B4I.start (w:World):B4I w 0 [] [] [] (.slice (some ⟨w.heap.size,0,none⟩) 0 0) [] (.slice (some ⟨(w.alloc (.cells #[] 89)).heap.size,0,none⟩) 0 0) [] (.slice (some ⟨((w.alloc (.cells #[] 89)).alloc (.cells #[] 51)).heap.size,0,none⟩) 0 0) [] (.slice (some ⟨(((w.alloc (.cells #[] 89)).alloc (.cells #[] 51)).alloc (.cells #[] 85)).heap.size,0,none⟩) 0 0) []
 ((((w.alloc (.cells #[] 89)).alloc (.cells #[] 51)).alloc (.cells #[] 85)).alloc (.cells #[] 4)):=by
 have b1:Below w.heap.size w (w.alloc (.cells #[] 89)):=(Below.refl _ _).alloc (Nat.le_refl _) _;have b2:=b1.alloc b1.size (.cells #[] 51);have b3:=b2.alloc b2.size (.cells #[] 85);have b4:=b3.alloc b3.size (.cells #[] 4);exact ⟨(((Rw.Ow.made _ _ _ (Nat.le_refl _)).alloc _).alloc _).alloc _,((Rw.Ow.made _ _ _ b1.size).alloc _).alloc _,(Rw.Ow.made _ _ _ b2.size).alloc _,Rw.Ow.made _ _ _ b3.size,fun i hi=>by omega,fun i hi=>by omega,b4⟩
theorem B4I.more {s r:Nat} {A:Abs} (h:B4I w n P R S o1 l1 o2 l2 o3 l3 o4 l4 wr) (hp:P.length=n) (hr:R.length=n) (hs:S.length=n) (a:St4 wr s A (Q4 o1 o2 o3 o4)) (b:Rs wr r (Q4 o1 o2 o3 o4) A 0):B4I w (n+1) (P ++ [s]) (R ++ [r]) (S ++ [(A,0)]) o1 l1 o2 l2 o3 l3 o4 l4 wr:=by
 have g:∀ (l:List Nat) x i,l.length=n→i < n+1→(l ++ [x]).getD i 0=if i < n then l.getD i 0 else x:=fun l x i hl hi=>by
  rw [List.getD_eq_getElem?_getD,List.getElem?_append,hl]
  split
  ·rw [List.getD_eq_getElem?_getD]
  ·obtain rfl:i=n:=by omega
   simp
 have gs:∀ i:Nat,i < n+1→sat (S ++ [(A,0)]) i=if i < n then sat S i else (A,0):=fun i hi=>by
  unfold sat;rw [Int.toNat_natCast,List.getD_eq_getElem?_getD,List.getElem?_append,hs]
  split
  ·rw [List.getD_eq_getElem?_getD]
  ·obtain rfl:i=n:=by omega
   simp
 refine ⟨h.w1,h.w2,h.w3,h.w4,fun i hi=>?_,fun i hi=>?_,h.bel⟩
 ·rw [g P s i hp hi,gs i hi]
  by_cases q:i < n
  ·rw [if_pos q,if_pos q];exact h.st i q
  ·rw [if_neg q,if_neg q];exact a
 ·rw [g R r i hr hi,gs i hi]
  by_cases q:i < n
  ·rw [if_pos q,if_pos q];exact h.rf i q
  ·rw [if_neg q,if_neg q];exact b
end
structure J4I (W:World) (Q:Nat→Prop) (s r:Nat) (A:Abs) (j:Nat) (F:Nat→Prop) (wr:World):Prop where
 st:St wr s F (A.take j) 0
 rs:Rs wr r (fun k=>Q k∨F k) A 0
 hi:∀ k,F k→W.heap.size≤k
 bel:Below W.heap.size W wr
section
variable {W wr w':World} {Q:Nat→Prop} {s r j:Nat} {A:Abs} {F:Nat→Prop}
theorem J4I.below (h:J4I W Q s r A j F wr) (b:Below wr.heap.size wr w'):J4I W Q s r A j F w':=⟨h.st.below b,Fs.Rs.below h.rs b,h.hi,h.bel.trans (b.mono h.bel.size)⟩
theorem J4I.step (h:J4I W Q s r A j F wr) (a:St w' s (Fx F wr w') (A.take (j+1)) 0) (o:Only F wr w'):J4I W Q s r A (j+1) (Fx F wr w') w':=by
 have hz:=h.bel.size;refine ⟨a,rs_mono (Fs.Rs.only h.rs (o.mono fun _ _ g=>.inr g)) fun k _ g=>?_,fun k g=>?_,h.bel.trans (o.below hz h.hi)⟩
 ·rcases g with g | g | g
  ·exact .inl (.inl g)
  ·exact .inl (.inr g)
  ·exact .inr g
 ·rcases g with g | g
  ·exact h.hi k g
  ·omega
theorem J4I.done (h:J4I W Q s r A A.length F wr) (hQ:∀ k,Q k→k < W.heap.size):St4 wr s A Q∧Rs wr r Q A 0:=by
 refine ⟨⟨F,by have:=h.st;rw [List.take_length] at this;exact this,fun b hb g=>?_⟩,rs_mono h.rs fun k _ g=>.inl g⟩;have:=h.hi b hb;have:=hQ b g
 omega
end
end Go.Proofs.YtljnkaodhfnbbaaGreatDoor.Pa
namespace Go.Proofs.YtljnkaodhfnbbaaGreatDoor.Pa
open Go.ChangeShapes Go.WideShapes Go.ChangeAt Go.RowKit Go.Deep
open Rw (Rd Ow At)
open Fl (R4 z4 K4 okR okL)
open Fs (Ent E3 file_cells)
open Ro (E5 K5 ent_cells)
open Ck (Hd sl zh)
theorem open_rd {α:Type} {K:Rw.Kind α} (Q:α→Prop) {H:Type} {enc:TypeId×Value→H} {W:World} {u:Value} {base fuel:Nat} {sp:Nat→Bool} {held:Bool} {x:DataW H×List MemPlace} {T E:TypeId}
 (hu:Tryz.prog.underlying T=some (.slice E)) (hc:Tryz.prog.cellsOf E=K.n) (el:∀ {n:Nat} {cs:List Value} {y:DataW H×List MemPlace},DataW.trod enc Tryz.prog W base sp held n E cs=some y→∃ r:α,cs=K.enc r∧Q r)
 (h:DataW.trod enc Tryz.prog W base sp held fuel T [u]=some x):∃ l,Rd K W u l∧∀ r∈l,Q r:=by
 rcases open_slice hu h with ⟨e,_⟩ | ⟨a,len,cap,m,n,D,Pl,e,_,hl,hm,hmm,_,hx⟩
 ·simp at e
  subst e;exact ⟨[],Rw.Rd.nil _,fun r hr=>by cases hr⟩
 ·simp at e
  subst e;have hlm:len≤m:=by rw [hmm];split <;> omega
  have each:∀ i,i < m→∃ r:α,Q r∧∀ j u,(K.enc r)[j]? = some u→W.cell? (a.add (i * K.n+j))=some u:=fun i hi=>by
   obtain ⟨cs',h1,h2⟩:=hx i hi;rw [hc] at h1;obtain ⟨_,hlen,hcell⟩:=World.cells?_some h1;obtain ⟨r,rfl,ok⟩:=el h2;refine ⟨r,ok,fun j u hu=>?_⟩;have hj:j < K.n:=by have:=(List.getElem?_eq_some_iff.1 hu).1;rw [hlen] at this;exact this
   have e:=hcell j hj;rw [add_add] at e;exact e.trans hu
  haveI:Inhabited α:=⟨K.dft⟩
  obtain ⟨q,hq⟩:=choose_lt each;have hlen:((List.range len).map q).length=len:=by simp
  have get:∀ i,i < len→((List.range len).map q).getD i K.dft=q i:=fun i hi=>by simp [List.getD,hi]
  refine ⟨(List.range len).map q,⟨some a,cap,by rw [hlen],⟨by rw [hlen];exact hl,nofun⟩,hm,fun h0=>?_⟩,fun r hr=>?_⟩
  ·rw [hlen] at h0
   obtain ⟨b,off,spot⟩:=a;have hp:0 < (K.enc (q 0)).length:=by rw [K.len];exact K.pos
   have c0:=(hq 0 (by omega)).2 0 _ (List.getElem?_eq_getElem hp);have hs:spot=none:=by simpa [Addr.add] using World.cell?_spot c0
   subst hs;refine ⟨b,off,rfl,fun i hi j u hu=>?_⟩;rw [hlen] at hi;have hu':(K.enc (q i))[j]? = some u:=by rw [← get i hi];exact hu
   have c:=(hq i (by omega)).2 j u hu';rw [add_plain] at c
   show W.cell? ⟨b,off+i * K.n+j,none⟩=some u
   rw [Nat.add_assoc];exact c
  ·obtain ⟨i,hi,rfl⟩:=List.mem_map.1 hr
   exact (hq i (by have:=List.mem_range.1 hi;omega)).1
section
variable {H:Type} {enc:TypeId×Value→H} {W:World} {base fuel:Nat} {sp:Nat→Bool} {held:Bool} {cs:List Value} {x:DataW H×List MemPlace}
theorem named_cells (h:DataW.trod enc Tryz.prog W base sp held fuel 72 cs=some x):∃ c:Ent,cs=E3.enc c∧Rd K4 W c.sl c.l∧okL c.l:=by
 have c3:Tryz.prog.cellsOf 72=3:=by kernel_rfl
 have c1:Tryz.prog.cellsOf 3=1:=by kernel_rfl
 have c2:Tryz.prog.cellsOf 70=2:=by kernel_rfl
 obtain ⟨xs,m,_,_,hs,hx,hi⟩:=DataW.trod_struct Tryz.underlying72 h;rw [c3] at hs
 match cs,hs,xs,hx,hi with
 | [u0,u1,u2],_,[x0,x1],_,hi =>
   have e0:DataW.trod enc Tryz.prog W base sp held m 3 (([u0,u1,u2].drop 0).take (Tryz.prog.cellsOf 3))=some x0:=hi 0 _ rfl;have e1:DataW.trod enc Tryz.prog W base sp held m 70 (([u0,u1,u2].drop 1).take (Tryz.prog.cellsOf 70))=some x1:=hi 1 _ rfl;rw [c1] at e0;rw [c2] at e1;obtain ⟨k,hk,_,wk⟩:=DataW.trod_int Tryz.underlying3 (x:=x0) e0;obtain ⟨p,u,l,h3,R,okl⟩:=file_cells e1;obtain ⟨a,cap,rfl,_⟩:=R.slice;have k' : [u0] = [.int .i64 k]:=hk;have h3' : [u1,u2] = [.int .i64 p,.slice a l.length cap]:=h3;simp only [List.cons.injEq,and_true] at k' h3';obtain rfl:=k';obtain ⟨rfl,rfl⟩:=h3';exact ⟨⟨k,p,a,cap,l⟩,rfl,R,okl⟩
theorem spoil_cells (h:DataW.trod enc Tryz.prog W base sp held fuel 155 cs=some x):∃ c:S2,cs=K2.enc c∧True:=by
 have c3:Tryz.prog.cellsOf 155=2:=by kernel_rfl
 have c1:Tryz.prog.cellsOf 3=1:=by kernel_rfl
 obtain ⟨xs,m,_,_,hs,hx,hi⟩:=DataW.trod_struct Tryz.underlying155 h;rw [c3] at hs
 match cs,hs,xs,hx,hi with
 | [u0,u1],_,[x0,x1],_,hi =>
   have e0:DataW.trod enc Tryz.prog W base sp held m 3 (([u0,u1].drop 0).take (Tryz.prog.cellsOf 3))=some x0:=hi 0 _ rfl;have e1:DataW.trod enc Tryz.prog W base sp held m 3 (([u0,u1].drop 1).take (Tryz.prog.cellsOf 3))=some x1:=hi 1 _ rfl;rw [c1] at e0 e1;obtain ⟨k,hk,_,_⟩:=DataW.trod_int Tryz.underlying3 (x:=x0) e0;obtain ⟨p,hp,_,_⟩:=DataW.trod_int Tryz.underlying3 (x:=x1) e1;have k' : [u0] = [.int .i64 k]:=hk;have p' : [u1] = [.int .i64 p]:=hp;simp only [List.cons.injEq,and_true] at k' p';obtain rfl:=k';obtain rfl:=p';exact ⟨(k,p),rfl,trivial⟩
theorem step_cells (h:DataW.trod enc Tryz.prog W base sp held fuel 108 cs=some x):∃ c:S2,cs=K2.enc c∧True:=by
 have c3:Tryz.prog.cellsOf 108=2:=by kernel_rfl
 have c1:Tryz.prog.cellsOf 3=1:=by kernel_rfl
 obtain ⟨xs,m,_,_,hs,hx,hi⟩:=DataW.trod_struct Tryz.underlying108 h;rw [c3] at hs
 match cs,hs,xs,hx,hi with
 | [u0,u1],_,[x0,x1],_,hi =>
   have e0:DataW.trod enc Tryz.prog W base sp held m 3 (([u0,u1].drop 0).take (Tryz.prog.cellsOf 3))=some x0:=hi 0 _ rfl;have e1:DataW.trod enc Tryz.prog W base sp held m 3 (([u0,u1].drop 1).take (Tryz.prog.cellsOf 3))=some x1:=hi 1 _ rfl;rw [c1] at e0 e1;obtain ⟨k,hk,_,_⟩:=DataW.trod_int Tryz.underlying3 (x:=x0) e0;obtain ⟨p,hp,_,_⟩:=DataW.trod_int Tryz.underlying3 (x:=x1) e1;have k' : [u0] = [.int .i64 k]:=hk;have p' : [u1] = [.int .i64 p]:=hp;simp only [List.cons.injEq,and_true] at k' p';obtain rfl:=k';obtain rfl:=p';exact ⟨(k,p),rfl,trivial⟩
def CelOk (W:World) (c:Cel):Prop:=Rd E3 W (sl c.files) c.F∧(∀ e∈c.F,Rd K4 W e.sl e.l∧okL e.l)∧Rd K5 W (sl c.table) c.T∧Rd K2 W (sl c.steps) c.S
theorem any_slice {T E:TypeId} {u:Value} (hu:Tryz.prog.underlying T=some (.slice E)) (h:DataW.trod enc Tryz.prog W base sp held fuel T [u]=some x):∃ s:Hd,u=sl s:=by
 rcases open_slice hu h with ⟨e,_⟩ | ⟨a,len,cap,m,n,D,Pl,e,_⟩
 ·simp at e
  exact ⟨zh,e⟩
 ·simp at e
  exact ⟨(some a,len,cap),e⟩
theorem cell_cells (h:DataW.trod enc Tryz.prog W base sp held fuel 167 cs=some x):∃ c:Cel,cs=KC.enc c∧CelOk W c:=by
 have c4:Tryz.prog.cellsOf 167=4:=by kernel_rfl
 have d0:Tryz.prog.cellsOf 47=1:=by kernel_rfl
 have d1:Tryz.prog.cellsOf 85=1:=by kernel_rfl
 have d2:Tryz.prog.cellsOf 4=1:=by kernel_rfl
 have d3:Tryz.prog.cellsOf 103=1:=by kernel_rfl
 obtain ⟨xs,m,_,_,hs,hx,hi⟩:=DataW.trod_struct Tryz.underlying167 h;rw [c4] at hs
 match cs,hs,xs,hx,hi with
 | [u0,u1,u2,u3],_,[x0,x1,x2,x3],_,hi =>
   have e0:DataW.trod enc Tryz.prog W base sp held m 47 (([u0,u1,u2,u3].drop 0).take (Tryz.prog.cellsOf 47))=some x0:=hi 0 _ rfl;have e1:DataW.trod enc Tryz.prog W base sp held m 85 (([u0,u1,u2,u3].drop 1).take (Tryz.prog.cellsOf 85))=some x1:=hi 1 _ rfl;have e2:DataW.trod enc Tryz.prog W base sp held m 4 (([u0,u1,u2,u3].drop 2).take (Tryz.prog.cellsOf 4))=some x2:=hi 2 _ rfl;have e3:DataW.trod enc Tryz.prog W base sp held m 103 (([u0,u1,u2,u3].drop 3).take (Tryz.prog.cellsOf 103))=some x3:=hi 3 _ rfl;rw [d0] at e0;rw [d1] at e1;rw [d2] at e2;rw [d3] at e3;obtain ⟨F,RF,QF⟩:=open_rd (K:=E3) (fun c=>Rd K4 W c.sl c.l∧okL c.l) Tryz.underlying47 (by kernel_rfl) (fun h=>named_cells h) (u:=u0) e0;obtain ⟨T,RT,_⟩:=open_rd (K:=K5) (fun _=>True) Tryz.underlying85 (by kernel_rfl) (fun h=>by obtain ⟨r,e⟩:=ent_cells h;exact ⟨r,e,trivial⟩) (u:=u1) e1;obtain ⟨b,hb,_⟩:=DataW.trod_bool Tryz.underlying4 (x:=x2) e2;obtain ⟨SS,RS,_⟩:=open_rd (K:=K2) (fun _=>True) Tryz.underlying103 (by kernel_rfl) (fun h=>step_cells h) (u:=u3) e3;obtain ⟨s3,rfl⟩:=any_slice Tryz.underlying103 (u:=u3) e3;obtain ⟨s0,rfl⟩:=any_slice Tryz.underlying47 (u:=u0) e0;obtain ⟨s1,rfl⟩:=any_slice Tryz.underlying85 (u:=u1) e1;have b' : [u2] = [.bool b]:=hb;simp only [List.cons.injEq,and_true] at b';obtain rfl:=b';exact ⟨⟨s0,s1,b,s3,F,T,SS⟩,rfl,RF,QF,RT,RS⟩
end
theorem cells_of {H:Type} {enc:TypeId×Value→H} {W:World} {v:Value} {base:Nat} {sp:Nat→Bool} {held:Bool} {d:DataW H} {p:List MemPlace} {r:Reach} {b0:Nat}
 (hv:Value.okWide Tryz.prog W r b0 77 v) (h:DataW.Trod enc Tryz.prog W base sp held 77 v d p):∃ L,Cls W v L:=by
 obtain ⟨a,len,cap,rfl⟩:=okWide_slice Tryz.underlying77 hv;obtain ⟨fuel,hf⟩:=h;obtain ⟨L,R,Q⟩:=open_rd (K:=KC) (CelOk W) Tryz.underlying77 (by kernel_rfl) (fun h=>cell_cells h) (u:=.slice a len cap) hf;have at_:∀ i,i < L.length→cel L i∈L:=fun i hi=>by
  unfold cel;rw [List.getD_eq_getElem?_getD,List.getElem?_eq_getElem hi];exact List.getElem_mem hi
 refine ⟨L,R,fun i hi=>?_,fun i hi=>(Q _ (at_ i hi)).2.2.1,fun i hi=>(Q _ (at_ i hi)).2.2.2⟩;obtain ⟨q1,q2,_⟩:=Q _ (at_ i hi);have mem:∀ j,j < (cel L i).F.length→eatF (cel L i).F j∈(cel L i).F:=fun j hj=>by
  unfold eatF;rw [List.getD_eq_getElem?_getD,List.getElem?_eq_getElem hj];exact List.getElem_mem hj
 exact ⟨q1,fun j hj=>q2 _ (mem j hj),fun j hj h0 k hk=>Fs.rd_low (q2 _ (mem j hj)).1 h0 k hk⟩
theorem spoils_of {H:Type} {enc:TypeId×Value→H} {W:World} {v:Value} {base:Nat} {sp:Nat→Bool} {held:Bool} {d:DataW H} {p:List MemPlace} {r:Reach} {b0:Nat}
 (hv:Value.okWide Tryz.prog W r b0 37 v) (h:DataW.Trod enc Tryz.prog W base sp held 37 v d p):∃ l,Rd K2 W v l:=by
 obtain ⟨a,len,cap,rfl⟩:=okWide_slice Tryz.underlying37 hv;obtain ⟨fuel,hf⟩:=h;obtain ⟨l,R,_⟩:=open_rd (K:=K2) (fun _=>True) Tryz.underlying37 (by kernel_rfl) (fun h=>spoil_cells h) (u:=.slice a len cap) hf;exact ⟨l,R⟩
end Go.Proofs.YtljnkaodhfnbbaaGreatDoor.Pa
namespace Go.Proofs.YtljnkaodhfnbbaaGreatDoor.Tk
def fr (A:Nat→Int):Nat→Int
 | 0=>0
 | k+1=>A k
def rt (R:Nat→Int):Nat→Int
 | 0=>0
 | k+1=>R k
def sm (A R:Nat→Int):Nat→Int
 | 0=>0
 | k+1=>sm A R k+(A k - fr A k) * (1000000+rt R k)
def AtStop (A:Nat→Int) (n:Nat) (t:Int) (k:Nat):Prop:=k≤n∧(∀ i,i < k→A i < t)∧(k < n→t≤A k)
theorem AtStop.uniq {A:Nat→Int} {n:Nat} {t:Int} {k j:Nat} (h:AtStop A n t k) (g:AtStop A n t j):k=j:=by
 obtain ⟨h1,h2,h3⟩:=h;obtain ⟨g1,g2,g3⟩:=g
 rcases Nat.lt_trichotomy k j with c | c | c
 ·have a:=h3 (by omega);have b:=g2 k c;omega
 ·exact c
 ·have a:=g3 (by omega);have b:=h2 j c;omega
theorem AtStop.ex (A:Nat→Int) (n:Nat) (t:Int):∃ k,AtStop A n t k:=by
 induction n with
 | zero=>exact ⟨0,Nat.le_refl _,fun i h=>by omega,fun h=>by omega⟩
 | succ n ih =>
   obtain ⟨k,h1,h2,h3⟩:=ih
   by_cases hk:k < n
   ·exact ⟨k,by omega,h2,fun _=>h3 hk⟩
   ·obtain rfl:k=n:=by omega
    by_cases ha:A k < t
    ·refine ⟨k+1,by omega,fun i hi=>?_,fun h=>by omega⟩
     by_cases e:i=k
     ·subst e;exact ha
     ·exact h2 i (by omega)
    ·exact ⟨k,by omega,h2,fun _=>by omega⟩
noncomputable def stop (A:Nat→Int) (n:Nat) (t:Int):Nat:=(AtStop.ex A n t).choose
theorem stop_at (A:Nat→Int) (n:Nat) (t:Int):AtStop A n t (stop A n t):=(AtStop.ex A n t).choose_spec
theorem stop_eq {A:Nat→Int} {n:Nat} {t:Int} {k:Nat} (h:AtStop A n t k):stop A n t=k:=(stop_at A n t).uniq h
def pp (A R:Nat→Int) (k:Nat) (t:Int):Int:=sm A R k+(t - fr A k) * (1000000+rt R k)
noncomputable def PP (A R:Nat→Int) (n:Nat) (t:Int):Int:=pp A R (stop A n t) t
theorem PP_eq {A R:Nat→Int} {n:Nat} {t:Int} {k:Nat} (h:AtStop A n t k):PP A R n t=pp A R k t:=by rw [PP,stop_eq h]
def clamp (t:Int):Int:=if t < 0 then 0 else if 4294967296 < t then 4294967296 else t
theorem clamp_lo (t:Int):0≤clamp t:=by unfold clamp;split <;> (try split) <;> omega
theorem clamp_hi (t:Int):clamp t≤4294967296:=by unfold clamp;split <;> (try split) <;> omega
theorem clamp_id {t:Int} (h:0≤t) (h':t≤4294967296):clamp t=t:=by unfold clamp;split <;> (try split) <;> omega
noncomputable def Loc (A R:Nat→Int) (n:Nat) (t:Int):Int:=PP A R n (clamp t) / 1000000
structure GoodP (n:Nat) (A R:Nat→Int):Prop where
 len:n≤64
 at_:∀ i,i < n→0≤A i∧A i≤4294967296
 rate:∀ i,i < n→-20000≤R i∧R i≤20000
 up:∀ i,i+1 < n→A i < A (i+1)
noncomputable def goodB (n:Nat) (A R:Nat→Int):Bool:=@decide (GoodP n A R) (Classical.propDecidable _)
theorem goodB_true {n:Nat} {A R:Nat→Int} : goodB n A R=true↔GoodP n A R:=by unfold goodB;exact @decide_eq_true_iff _ (Classical.propDecidable _)
theorem goodB_yes {n:Nat} {A R:Nat→Int} (h:GoodP n A R):goodB n A R=true:=goodB_true.2 h
theorem goodB_no {n:Nat} {A R:Nat→Int} (h:¬ GoodP n A R):goodB n A R=false:=by
 cases e:goodB n A R with
 | false=>rfl
 | true=>exact absurd (goodB_true.1 e) h
section
variable {n:Nat} {A R:Nat→Int}
theorem rt_bd (g:GoodP n A R) (k:Nat) (h:k≤n) : -20000≤rt R k∧rt R k≤20000:=by
 cases k with
 | zero=>exact ⟨by simp [rt],by simp [rt]⟩
 | succ k=>exact g.rate k (by omega)
theorem fr_bd (g:GoodP n A R) (k:Nat) (h:k≤n):0≤fr A k∧fr A k≤4294967296:=by
 cases k with
 | zero=>exact ⟨by simp [fr],by simp [fr]⟩
 | succ k=>exact g.at_ k (by omega)
theorem fr_le (g:GoodP n A R) (k:Nat) (h:k < n):fr A k≤A k:=by
 cases k with
 | zero=>exact (g.at_ 0 h).1
 | succ k=>exact Int.le_of_lt (g.up k h)
theorem mul_bd {d c:Int} (h:0≤d) (h1:980000≤c) (h2:c≤1020000):d * 980000≤d * c∧d * c≤d * 1020000 :=
 ⟨Int.mul_le_mul_of_nonneg_left h1 h,Int.mul_le_mul_of_nonneg_left h2 h⟩
theorem sm_bd (g:GoodP n A R) (k:Nat) (h:k≤n):fr A k * 980000≤sm A R k∧sm A R k≤fr A k * 1020000:=by
 induction k with
 | zero=>simp [fr,sm]
 | succ k ih =>
   have i:=ih (by omega);have b:=rt_bd g k (by omega);have f:=fr_le g k (by omega);have m:=mul_bd (d:=A k - fr A k) (c:=1000000+rt R k) (by omega) (by omega) (by omega)
   show A k * 980000≤sm A R k+(A k - fr A k) * (1000000+rt R k)∧sm A R k+(A k - fr A k) * (1000000+rt R k)≤A k * 1020000
   generalize (A k - fr A k) * (1000000+rt R k)=z at m ⊢
   omega
theorem pp_bd (g:GoodP n A R) (k:Nat) (h:k≤n) (t:Int) (ht:fr A k≤t):t * 980000≤pp A R k t∧pp A R k t≤t * 1020000:=by
 have i:=sm_bd g k h;have b:=rt_bd g k h;have m:=mul_bd (d:=t - fr A k) (c:=1000000+rt R k) (by omega) (by omega) (by omega);unfold pp;generalize (t - fr A k) * (1000000+rt R k)=z at m ⊢
 omega
theorem stop_fr {t:Int} {k:Nat} (h0:0≤t) (h:AtStop A n t k):fr A k≤t:=by
 cases k with
 | zero=>exact h0
 | succ k=>exact Int.le_of_lt (h.2.1 k (by omega))
theorem PP_bd (g:GoodP n A R) (t:Int) (h0:0≤t):t * 980000≤PP A R n t∧PP A R n t≤t * 1020000:=by
 have s:=stop_at A n t;exact pp_bd g _ s.1 t (stop_fr h0 s)
theorem PP_succ (g:GoodP n A R) (t:Int):∃ c,980000≤c∧c≤1020000∧PP A R n (t+1)=PP A R n t+c:=by
 have s:=stop_at A n t;generalize hk:stop A n t=k at s;obtain ⟨s1,s2,s3⟩:=s;rw [PP_eq ⟨s1,s2,s3⟩]
 by_cases hn:k < n∧A k < t+1
 ·obtain ⟨hn,ha⟩:=hn
  have e:A k=t:=by have:=s3 hn;omega
  have st:AtStop A n (t+1) (k+1):=by
   refine ⟨hn,fun i hi=>?_,fun h=>?_⟩
   ·by_cases c:i=k
    ·subst c;exact ha
    ·have:=s2 i (by omega);omega
   ·have:=g.up k h;omega
  rw [PP_eq st];have b:=g.rate k hn;refine ⟨1000000+R k,by omega,by omega,?_⟩
  show sm A R k+(A k - fr A k) * (1000000+rt R k)+(t+1 - A k) * (1000000+R k)=sm A R k+(t - fr A k) * (1000000+rt R k)+(1000000+R k)
  rw [e,show t+1 - t=1 by omega,Int.one_mul]
 ·have st:AtStop A n (t+1) k:=by
   refine ⟨s1,fun i hi=>?_,fun h=>?_⟩
   ·have:=s2 i hi;omega
   ·have:=s3 h;omega
  rw [PP_eq st];have b:=rt_bd g k s1;refine ⟨1000000+rt R k,by omega,by omega,?_⟩;unfold pp;rw [show t+1 - fr A k=(t - fr A k)+1 by omega,Int.add_mul,Int.one_mul]
  omega
theorem PP_zero (g:GoodP n A R):PP A R n 0=0:=by have:=PP_bd g 0 (by decide);omega
theorem PP_add (g:GoodP n A R) (t:Int) (d:Nat):PP A R n t+980000 * d≤PP A R n (t+d)∧PP A R n (t+d)≤PP A R n t+1020000 * d:=by
 induction d with
 | zero=>simp
 | succ d ih =>
   obtain ⟨c,c1,c2,e⟩:=PP_succ g (t+d);rw [show t+((d+1:Nat):Int)=t+d+1 by omega,e]
   omega
theorem PP_mono (g:GoodP n A R) {t u:Int} (h:t≤u):PP A R n t≤PP A R n u:=by
 have:=(PP_add g t (u - t).toNat).1;rw [show t+((u - t).toNat:Int)=u by omega] at this
 omega
theorem clamp_mono {t u:Int} (h:t≤u):clamp t≤clamp u:=by unfold clamp;repeat' split <;> omega
theorem Loc_mono (g:GoodP n A R) {t u:Int} (h:t≤u):Loc A R n t≤Loc A R n u:=by
 unfold Loc;have:=PP_mono g (clamp_mono h)
 omega
theorem Loc_bd (g:GoodP n A R) (t:Int) (h0:0≤t) (h1:t≤4294967296):Loc A R n t≤t+t / 50∧t - t / 50 - 1≤Loc A R n t:=by
 unfold Loc;rw [clamp_id h0 h1];have:=PP_bd g t h0
 omega
end
structure IsG (A R:Nat→Int) (n:Nat) (m g:Int):Prop where
 lo:0≤g
 hi:g≤4294967296
 before:∀ t,0≤t→t < g→Loc A R n t < m
 there:g < 4294967296→m≤Loc A R n g
theorem IsG.uniq {A R:Nat→Int} {n:Nat} {m g k:Int} (h:IsG A R n m g) (i:IsG A R n m k):g=k:=by
 have a:=h.lo;have b:=h.hi;have c:=i.lo;have d:=i.hi
 rcases Int.lt_trichotomy g k with e | e | e
 ·have x:=h.there (by omega);have y:=i.before g a e;omega
 ·exact e
 ·have x:=i.there (by omega);have y:=h.before k c e;omega
theorem first_or (f:Int→Int) (m:Int) (N:Nat):(∃ g:Int,0≤g∧g < N∧(∀ t,0≤t→t < g→f t < m)∧m≤f g)∨(∀ t:Int,0≤t→t < N→f t < m):=by
 induction N with
 | zero=>exact .inr fun t h h'=>by omega
 | succ N ih =>
   rcases ih with ⟨g,g0,g1,g2,g3⟩ | h
   ·exact .inl ⟨g,g0,by omega,g2,g3⟩
   ·by_cases c:f N < m
    ·refine .inr fun t t0 t1=>?_
     by_cases e:t=N
     ·subst e;exact c
     ·exact h t t0 (by omega)
    ·exact .inl ⟨N,by omega,by omega,h,by omega⟩
theorem IsG.ex (A R:Nat→Int) (n:Nat) (m:Int):∃ g,IsG A R n m g:=by
 generalize hN:(4294967296:Int).toNat=N;have e:(N:Int)=4294967296:=by omega
 rcases first_or (Loc A R n) m N with ⟨g,g0,g1,g2,g3⟩ | h
 ·exact ⟨g,g0,by omega,g2,fun _=>g3⟩
 ·exact ⟨4294967296,by omega,by omega,fun t t0 t1=>h t t0 (by omega),fun h=>by omega⟩
noncomputable def Glo (A R:Nat→Int) (n:Nat) (m:Int):Int:=(IsG.ex A R n m).choose
theorem Glo_is (A R:Nat→Int) (n:Nat) (m:Int):IsG A R n m (Glo A R n m):=(IsG.ex A R n m).choose_spec
theorem Glo_eq {A R:Nat→Int} {n:Nat} {m g:Int} (h:IsG A R n m g):Glo A R n m=g:=(Glo_is A R n m).uniq h
theorem IsG.of_meet {A R:Nat→Int} {n:Nat} {m g:Int} (h0:0≤g) (h1:g≤4294967296) (hl:∀ t,0≤t→t < g→Loc A R n t < m) (hh:g < 4294967296→m≤Loc A R n g):IsG A R n m g:=⟨h0,h1,hl,hh⟩
end Go.Proofs.YtljnkaodhfnbbaaGreatDoor.Tk
namespace Go.Proofs.YtljnkaodhfnbbaaGreatDoor.Sp
open Go.RowKit
abbrev S2:=Int×Int
def fr (l:List S2) (i:Nat):Int:=(l.getD i (0,0)).1
def tp (l:List S2) (i:Nat):Int:=(l.getD i (0,0)).2
def flat:List S2→List Value
 | []=>[]
 | s :: r=>.int .i64 s.1 :: .int .i64 s.2 :: flat r
theorem flat_length:∀ l:List S2,(flat l).length=l.length * 2
 | []=>rfl
 | s :: r=>by simp [flat,flat_length r];omega
theorem flat_append:∀ a b:List S2,flat (a ++ b)=flat a ++ flat b
 | [],_=>rfl
 | s :: r,b=>by simp [flat,flat_append r b]
theorem flat_get:∀ (l:List S2) (i:Nat),i < l.length→(flat l)[i * 2]? = some (.int .i64 (fr l i))∧(flat l)[i * 2+1]? = some (.int .i64 (tp l i))
 | s :: r,0,_=>⟨rfl,rfl⟩
 | s :: r,i+1,h=>by
   have ih:=flat_get r i (by simpa using h);have e:(i+1) * 2=i * 2+1+1:=by omega
   rw [e];exact ih
def At (w:World) (b off:Nat) (l:List S2):Prop:=∀ i,i < l.length→w.cell? ⟨b,off+i * 2,none⟩=some (.int .i64 (fr l i))∧w.cell? ⟨b,off+i * 2+1,none⟩=some (.int .i64 (tp l i))
def Sp (w:World) (v:Value) (l:List S2):Prop:=∃ a cap,v = .slice a l.length cap∧l.length≤cap∧cap≤maxLen∧(0 < l.length→∃ b off,a=some ⟨b,off,none⟩∧At w b off l)
def Own (w:World) (B E:Nat) (v:Value) (l:List S2):Prop:=w.ownsRow B E 2 v l.length (flat l)
theorem At.below {w w':World} {b off:Nat} {l:List S2} (h:At w b off l) (hb:Below w.heap.size w w'):At w' b off l:=fun i hi=>by
 obtain ⟨c1,c2⟩:=h i hi;exact ⟨(hb.cell (World.block_lt_of_cell? _ _ c1)).trans c1,(hb.cell (World.block_lt_of_cell? _ _ c2)).trans c2⟩
theorem Sp.below {w w':World} {v:Value} {l:List S2} (h:Sp w v l) (hb:Below w.heap.size w w'):Sp w' v l:=by
 obtain ⟨a,cap,e,h1,h2,h3⟩:=h;exact ⟨a,cap,e,h1,h2,fun hp=>by obtain ⟨b,off,ea,hA⟩:=h3 hp;exact ⟨b,off,ea,hA.below hb⟩⟩
theorem Sp.slice {w:World} {v:Value} {l:List S2} (h:Sp w v l):∃ a cap,v = .slice a l.length cap∧cap≤maxLen:=by
 obtain ⟨a,cap,e,_,h2,_⟩:=h;exact ⟨a,cap,e,h2⟩
theorem Own.nil (w:World) (B E:Nat):Own w B E (.slice none 0 0) []:=World.ownsRow_nil _ _ _ _
theorem Own.made (w:World) (B E:Nat) (hB:B≤w.heap.size):Own (w.alloc (.cells #[] E)) B E (.slice (some ⟨w.heap.size,0,none⟩) 0 0) [] :=
 World.ownsRow_made w #[] 0 hB (by unfold maxLen;omega) (by simp)
theorem Own.sp {w:World} {B E:Nat} {v:Value} {l:List S2} (h:Own w B E v l):Sp w v l:=by
 have hc:=fun g hg j u=>World.ownsRow.cells h (g:=g) hg j u;obtain ⟨_,h⟩:=h
 rcases h with ⟨rfl,h0⟩ | ⟨g,cap,cur,rfl,_,_,h1,h2,_⟩
 ·exact ⟨none,0,by rw [h0],by omega,by unfold maxLen;omega,fun h=>by omega⟩
 ·refine ⟨_,cap,rfl,h1,h2,fun _=>⟨g,0,rfl,fun i hi=>?_⟩⟩
  obtain ⟨g1,g2⟩:=flat_get l i hi;have c1:=hc g rfl _ _ g1;have c2:=hc g rfl _ _ g2;simp only [Addr.add_lit] at c1 c2;exact ⟨c1,by rw [← Nat.add_assoc] at c2;exact c2⟩
theorem Own.form {w:World} {B E:Nat} {v:Value} {l:List S2} (h:Own w B E v l) (hl:0 < l.length):∃ g cap,v = .slice (some ⟨g,0,none⟩) l.length cap∧B≤g∧g < w.heap.size∧l.length≤cap∧cap≤maxLen∧w.frozen? ⟨g,0,none⟩=false ∧
 (∀ i,i < l.length→w.cell? ⟨g,i * 2,none⟩=some (.int .i64 (fr l i))∧w.cell? ⟨g,i * 2+1,none⟩=some (.int .i64 (tp l i))∧w.frozen? ⟨g,i * 2,none⟩=false∧w.frozen? ⟨g,i * 2+1,none⟩=false):=by
 have hc:=fun g hg j u=>World.ownsRow.cells h (g:=g) hg j u;obtain ⟨_,h⟩:=h
 rcases h with ⟨_,h0⟩ | ⟨g,cap,cur,rfl,hB,hh,h1,h2,_⟩
 ·omega
 ·refine ⟨g,cap,rfl,hB,lt_of_block hh,h1,h2,by simp [World.frozen?,hh],fun i hi=>?_⟩
  obtain ⟨g1,g2⟩:=flat_get l i hi;have c1:=hc g rfl _ _ g1;have c2:=hc g rfl _ _ g2;simp only [Addr.add_lit,Nat.zero_add] at c1 c2;exact ⟨c1,c2,by simp [World.frozen?,hh],by simp [World.frozen?,hh]⟩
theorem Own.slice {w:World} {B E:Nat} {v:Value} {l:List S2} (h:Own w B E v l):∃ a cap,v = .slice a l.length cap∧l.length≤cap∧cap≤maxLen:=by
 obtain ⟨_,h⟩:=h
 rcases h with ⟨rfl,h0⟩ | ⟨g,cap,cur,rfl,_,_,h1,h2,_⟩
 ·exact ⟨none,0,by rw [h0],by omega,by unfold maxLen;omega⟩
 ·exact ⟨_,_,rfl,h1,h2⟩
theorem Own.alloc {w:World} {B E:Nat} {v:Value} {l:List S2} (h:Own w B E v l) (o:Obj):Own (w.alloc o) B E v l:=World.ownsRow.alloc h o
theorem Own.draw {w:World} {B E:Nat} {v:Value} {l:List S2} (h:Own w B E v l) (n:Nat):Own (w.drewN n) B E v l:=h
theorem Own.keep {w w':World} {B E:Nat} {v:Value} {l:List S2} (h:Own w B E v l) (hb:Below w.heap.size w w'):Own w' B E v l:=by
 obtain ⟨h1,h2⟩:=h;refine ⟨h1,?_⟩
 rcases h2 with h2 | ⟨g,cap,cur,e,hB,hh,r⟩
 ·exact .inl h2
 ·exact .inr ⟨g,cap,cur,e,hB,(hb.block g (lt_of_block hh)).trans hh,r⟩
theorem heap_setCell_same {w:World} {g j:Nat} {cur:Array Value} {E:TypeId} (hh:w.heap[g]? = some (.cells cur E (0,0))) (u:Value):(w.setCell ⟨g,j,none⟩ u).heap[g]? = some (.cells (cur.setIfInBounds j u) E (0,0)):=by
 have hlt:=lt_of_block hh;have h':w.heap[g] = .cells cur E (0,0):=by simpa [Array.getElem?_eq_getElem hlt] using hh
 show (w.heap.modify g _)[g]? = _
 rw [Array.getElem?_eq_getElem (by simpa using hlt),Array.getElem_modify_self,h']
 rfl
theorem flat_set:∀ (l:List S2) (i:Nat) (x:Int),i < l.length→(flat l).set (i * 2+1) (.int .i64 x)=flat (l.set i (fr l i,x))
 | s :: r,0,x,_=>rfl
 | s :: r,i+1,x,h=>by
   have ih:=flat_set r i x (by simpa using h);have e:(i+1) * 2+1=(i * 2+1)+1+1:=by omega
   rw [e]
   show Value.int .i64 s.1 :: Value.int .i64 s.2 :: (flat r).set (i * 2+1) (.int .i64 x)=_
   rw [ih]
   rfl
theorem Own.set {w:World} {B E g cap:Nat} {l:List S2} (h:Own w B E (.slice (some ⟨g,0,none⟩) l.length cap) l) (i:Nat) (hi:i < l.length) (x:Int) :
 Own (w.setCell ⟨g,i * 2+1,none⟩ (.int .i64 x)) B E (.slice (some ⟨g,0,none⟩) l.length cap) (l.set i (fr l i,x)):=by
 obtain ⟨h1,h2⟩:=h;refine ⟨by rw [flat_length],?_⟩
 rcases h2 with ⟨e,_⟩ | ⟨g',cap',cur,e,hB,hh,k1,k2,k3,k4⟩
 ·simp at e
 ·injection e with e1 e2 e3
  injection e1 with e1;injection e1 with e1;subst e1 e3;refine .inr ⟨_,_,_,by rw [List.length_set],hB,heap_setCell_same hh _,by rw [List.length_set];exact k1,k2,by simp [k3],?_⟩;rw [← flat_set l i x hi,← k4,List.length_set]
  simp [List.take_set]
theorem Own.push {w':World} {B E:Nat} {v':Value} {l:List S2} {s:S2} (h:w'.ownsRow B E 2 v' (l.length+1) (flat l ++ [.int .i64 s.1,.int .i64 s.2])):Own w' B E v' (l ++ [s]):=by
 show w'.ownsRow B E 2 v' (l ++ [s]).length (flat (l ++ [s]))
 rw [flat_append,List.length_append];exact h
end Go.Proofs.YtljnkaodhfnbbaaGreatDoor.Sp
namespace Go.Proofs.YtljnkaodhfnbbaaGreatDoor.Wi
open Sp
theorem ltge (a b:Int):a < b∨b≤a:=by omega
def Low (l:List S2) (t:Int):Prop:=∃ s∈l,s.1≤t∧t < s.2
def inB (t:Int) (s:S2):Bool:=decide (s.1≤t) && decide (t < s.2)
def lowB (l:List S2) (t:Int):Bool:=l.any (inB t)
theorem lowB_iff {l:List S2} {t:Int} : lowB l t=true↔Low l t:=by
 simp [lowB,Low,inB,List.any_eq_true]
theorem lowB_false {l:List S2} {t:Int} : lowB l t=false↔¬ Low l t:=by
 rw [← lowB_iff];simp
def Plain (l:List S2):Prop:=(∀ s∈l,s.1 < s.2)∧l.Pairwise (fun a b=>a.2 < b.1)
theorem mem_fr {l:List S2} {i:Nat} (h:i < l.length):(fr l i,tp l i)∈l:=by
 have e:l.getD i (0,0)=l[i]:=by simp [h]
 show ((l.getD i (0,0)).1,(l.getD i (0,0)).2)∈l
 rw [e];exact List.getElem_mem h
theorem mem_iff {l:List S2} {s:S2} : s∈l↔∃ i,i < l.length∧fr l i=s.1∧tp l i=s.2:=by
 constructor
 ·intro h
  obtain ⟨i,hi,e⟩:=List.getElem_of_mem h;exact ⟨i,hi,by simp [fr,hi,e],by simp [tp,hi,e]⟩
 ·rintro ⟨i,hi,e1,e2⟩
  have:=mem_fr hi;rw [e1,e2] at this;exact this
theorem low_iff {l:List S2} {t:Int} : Low l t↔∃ i,i < l.length∧fr l i≤t∧t < tp l i:=by
 constructor
 ·rintro ⟨s,hs,h⟩
  obtain ⟨i,hi,e1,e2⟩:=mem_iff.1 hs;exact ⟨i,hi,by omega,by omega⟩
 ·rintro ⟨i,hi,h⟩
  exact ⟨_,mem_fr hi,h⟩
theorem low_append {a b:List S2} {t:Int} : Low (a ++ b) t↔Low a t∨Low b t:=by
 constructor
 ·rintro ⟨s,hs,h⟩
  rcases List.mem_append.1 hs with h' | h'
  ·exact .inl ⟨s,h',h⟩
  ·exact .inr ⟨s,h',h⟩
 ·rintro (⟨s,hs,h⟩ | ⟨s,hs,h⟩)
  ·exact ⟨s,List.mem_append_left _ hs,h⟩
  ·exact ⟨s,List.mem_append_right _ hs,h⟩
theorem low_nil {t:Int} : ¬ Low [] t:=by rintro ⟨s,hs,_⟩;simp at hs
theorem low_cons {s:S2} {r:List S2} {t:Int} : Low (s :: r) t↔(s.1≤t∧t < s.2)∨Low r t:=by
 constructor
 ·rintro ⟨x,hx,h⟩
  rcases List.mem_cons.1 hx with rfl | h'
  ·exact .inl h
  ·exact .inr ⟨x,h',h⟩
 ·rintro (h | ⟨x,hx,h⟩)
  ·exact ⟨s,List.mem_cons_self,h⟩
  ·exact ⟨x,List.mem_cons_of_mem _ hx,h⟩
theorem low_one {s:S2} {t:Int} : Low [s] t↔s.1≤t∧t < s.2:=by
 rw [low_cons];exact ⟨fun h=>h.resolve_right low_nil,.inl⟩
theorem plain_nil:Plain []:=⟨fun s h=>by simp at h,List.Pairwise.nil⟩
theorem plain_snoc {l:List S2} {s:S2} : Plain (l ++ [s])↔Plain l∧s.1 < s.2∧∀ x∈l,x.2 < s.1:=by
 unfold Plain;rw [List.pairwise_append]
 constructor
 ·rintro ⟨h1,h2,_,h3⟩
  exact ⟨⟨fun x hx=>h1 x (List.mem_append_left _ hx),h2⟩,h1 s (by simp),fun x hx=>h3 x hx s (by simp)⟩
 ·rintro ⟨⟨h1,h2⟩,h3,h4⟩
  refine ⟨fun x hx=>?_,h2,List.pairwise_singleton _ _,fun x hx y hy=>?_⟩
  ·rcases List.mem_append.1 hx with h | h
   ·exact h1 x h
   ·simp at h;subst h;exact h3
  ·simp at hy;subst hy;exact h4 x hx
theorem plain_cons {l:List S2} {s:S2} : Plain (s :: l)↔Plain l∧s.1 < s.2∧∀ x∈l,s.2 < x.1:=by
 unfold Plain;rw [List.pairwise_cons]
 constructor
 ·rintro ⟨h1,h2,h3⟩
  exact ⟨⟨fun x hx=>h1 x (List.mem_cons_of_mem _ hx),h3⟩,h1 s List.mem_cons_self,h2⟩
 ·rintro ⟨⟨h1,h2⟩,h3,h4⟩
  refine ⟨fun x hx=>?_,h4,h2⟩
  rcases List.mem_cons.1 hx with rfl | h
  ·exact h3
  ·exact h1 x h
theorem plain_not_to {l:List S2} (h:Plain l):∀ s∈l,¬ Low l s.2:=by
 induction l with
 | nil=>intro s hs;simp at hs
 | cons a r ih =>
   obtain ⟨hp,ha,hr⟩:=plain_cons.1 h
   intro s hs hl
   rw [low_cons] at hl
   rcases List.mem_cons.1 hs with rfl | hs
   ·rcases hl with hl | ⟨x,hx,h1,h2⟩
    ·omega
    ·have:=hr x hx;omega
   ·rcases hl with hl | hl
    ·have:=hr s hs;have:=hp.1 s hs;omega
    ·exact ih hp s hs hl
theorem plain_one:∀ {a b:List S2},Plain a→Plain b→(∀ t,Low a t↔Low b t)→a=b
 | [],[],_,_,_=>rfl
 | [],s :: r,_,hb,h=>by
   obtain ⟨_,h1,_⟩:=plain_cons.1 hb;exact absurd ((h s.1).2 (low_cons.2 (.inl ⟨by omega,h1⟩))) low_nil
 | s :: r,[],ha,_,h=>by
   obtain ⟨_,h1,_⟩:=plain_cons.1 ha;exact absurd ((h s.1).1 (low_cons.2 (.inl ⟨by omega,h1⟩))) low_nil
 | s :: r,s' :: r',ha,hb,h=>by
   obtain ⟨hr,h1,h2⟩:=plain_cons.1 ha;obtain ⟨hr',h1',h2'⟩:=plain_cons.1 hb;have lo:s'.1≤s.1:=by
    obtain ⟨x,hx,hx1,_⟩:=(h s.1).1 (low_cons.2 (.inl ⟨by omega,h1⟩))
    rcases List.mem_cons.1 hx with rfl | hx
    ·exact hx1
    ·have:=h2' x hx;omega
   have lo':s.1≤s'.1:=by
    obtain ⟨x,hx,hx1,_⟩:=(h s'.1).2 (low_cons.2 (.inl ⟨by omega,h1'⟩))
    rcases List.mem_cons.1 hx with rfl | hx
    ·exact hx1
    ·have:=h2 x hx;omega
   have hi:s'.2≤s.2:=by
    rcases ltge s.2 s'.2 with c | c
    ·exact absurd ((h s.2).2 (low_cons.2 (.inl ⟨by omega,c⟩))) (plain_not_to ha s List.mem_cons_self)
    ·exact c
   have hi':s.2≤s'.2:=by
    rcases ltge s'.2 s.2 with c | c
    ·exact absurd ((h s'.2).1 (low_cons.2 (.inl ⟨by omega,c⟩))) (plain_not_to hb s' List.mem_cons_self)
    ·exact c
   have e:s=s':=Prod.ext (by omega) (by omega);subst e;have er:r=r':=plain_one hr hr' fun t=>by
    constructor
    ·intro ht
     obtain ⟨x,hx,hx1,_⟩:=ht;have:=h2 x hx
     rcases low_cons.1 ((h t).1 (low_cons.2 (.inr ⟨x,hx,hx1,by assumption⟩))) with c | c
     ·omega
     ·exact c
    ·intro ht
     obtain ⟨x,hx,hx1,_⟩:=ht;have:=h2' x hx
     rcases low_cons.1 ((h t).2 (low_cons.2 (.inr ⟨x,hx,hx1,by assumption⟩))) with c | c
     ·omega
     ·exact c
   rw [er]
structure JoinInv (S:List S2) (k:Nat) (l:List S2):Prop where
 plain:Plain l
 low:∀ t,Low l t↔Low (S.take k) t
 ahead:∀ x∈l,∀ i,k≤i→i < S.length→x.1≤fr S i
structure Srt (S:List S2):Prop where
 ticks:∀ i,i < S.length→fr S i < tp S i
 up:∀ i j,i≤j→j < S.length→fr S i≤fr S j
theorem take_snoc {S:List S2} {k:Nat} (h:k < S.length):S.take (k+1)=S.take k ++ [(fr S k,tp S k)]:=by
 rw [List.take_succ_eq_append_getElem h];have e:(fr S k,tp S k)=S[k]:=by simp [fr,tp,h]
 rw [e]
theorem JoinInv.zero (S:List S2):JoinInv S 0 []:=⟨plain_nil,fun t=>by simp,fun x hx=>by simp at hx⟩
theorem JoinInv.push {S l:List S2} {k:Nat} (hS:Srt S) (h:JoinInv S k l) (hk:k < S.length) (hl:∀ x∈l,x.2 < fr S k):JoinInv S (k+1) (l ++ [(fr S k,tp S k)]):=by
 refine ⟨plain_snoc.2 ⟨h.plain,hS.ticks k hk,hl⟩,fun t=>?_,fun x hx i h1 h2=>?_⟩
 ·rw [take_snoc hk,low_append,low_append,h.low]
 ·rcases List.mem_append.1 hx with c | c
  ·exact h.ahead x c i (by omega) h2
  ·simp at c;subst c;exact hS.up k i (by omega) h2
theorem JoinInv.grow {S p:List S2} {q:S2} {k:Nat} (h:JoinInv S k (p ++ [q])) (hk:k < S.length) (hl:fr S k≤q.2) (m:Int) (hm:(q.2≤m∧tp S k≤m)∧(m=q.2∨m=tp S k)):JoinInv S (k+1) (p ++ [(q.1,m)]):=by
 obtain ⟨hp,hq,hx⟩:=plain_snoc.1 h.plain;have ha:=h.ahead q (by simp) k (by omega) hk;refine ⟨plain_snoc.2 ⟨hp,by show q.1 < m;omega,hx⟩,fun t=>?_,fun x hx i h1 h2=>?_⟩
 ·have:=h.low t
  rw [low_append,low_one] at this;rw [take_snoc hk,low_append,low_append,low_one,low_one,← this]
  constructor
  ·rintro (c | c)
   ·exact .inl (.inl c)
   ·by_cases d:t < q.2
    ·exact .inl (.inr ⟨c.1,d⟩)
    ·exact .inr ⟨by show fr S k≤t;omega,by show t < tp S k;have:=c.2;simp at this;omega⟩
  ·rintro ((c | c) | c)
   ·exact .inl c
   ·exact .inr ⟨c.1,by show t < m;omega⟩
   ·exact .inr ⟨by show q.1≤t;have:=c.1;simp at this;omega,by show t < m;have:=c.2;simp at this;omega⟩
 ·rcases List.mem_append.1 hx with c | c
  ·exact h.ahead x (List.mem_append_left _ c) i (by omega) h2
  ·simp at c;subst c;exact h.ahead q (by simp) i (by omega) h2
theorem JoinInv.all {S l:List S2} (h:JoinInv S S.length l):Plain l∧∀ t,Low l t↔Low S t:=⟨h.plain,fun t=>by rw [h.low,List.take_length]⟩
def lastc:List S2→Int
 | []=>-1099511627777
 | [s]=>s.2
 | _ :: s :: r=>lastc (s :: r)
theorem lastc_tp:∀ (l:List S2),0 < l.length→lastc l=tp l (l.length - 1)
 | [_],_=>rfl
 | a :: b :: r,_=>by
   have:=lastc_tp (b :: r) (by simp)
   show lastc (b :: r)=_
   rw [this]
   simp [tp]
theorem lastc_le:∀ {l:List S2},Plain l→∀ x∈l,x.2≤lastc l
 | [s],_,x,hx=>by simp at hx;subst hx;exact Int.le_refl _
 | a :: b :: r,h,x,hx=>by
   obtain ⟨h1,h2,h3⟩:=plain_cons.1 h
   show x.2≤lastc (b :: r)
   rcases List.mem_cons.1 hx with rfl | hx
   ·have a1:=h3 b (by simp)
    have a2:=h1.1 b (by simp);have a3:=lastc_le h1 b (by simp)
    omega
   ·exact lastc_le h1 x hx
def Meets (a b:List S2):Prop:=∃ t,Low a t∧Low b t
end Go.Proofs.YtljnkaodhfnbbaaGreatDoor.Wi
namespace Go.Proofs.YtljnkaodhfnbbaaGreatDoor.Wi
open Go.RowKit Go.Proofs.YtljnkaodhfnbbaaGreatDoor.Sp
theorem ret_bool {a b:Bool} (h:a=b):Ending.returned (.bool a) = .returned (.bool b):=by rw [h]
theorem ret_int {a b:Int} (h:a=b):Ending.returned (.int .i64 a) = .returned (.int .i64 b):=by rw [h]
theorem infoS:(Tryz.prog.info? 186).map (fun i=>(i.zero,i.size,i.bytes))=some (some (.agg #[.int .i64 0,.int .i64 0]),2,16):=by kernel_rfl
theorem addr_zero (a:Addr):a.add 0=a:=by cases a;simp [Addr.add]
theorem push_step {w:World} {ops:Array Oper} {rest:List Oper} {o:Oper} {a:Act} {Q:Exit→Act→World→Prop} (hgd:o.guard=none) (s x:Operand)
 (ho:o.op = .call { callee:=.builtin .append,args:=#[s,x],argTypes:=#[95,95] }) (B:Nat) (v:Value) (l:List S2) (hs:a.eval s=v) (hown:Sp.Own w B 186 v l)
 (ad:Addr) (p q:Int) (hx:a.eval x = .slice (some ad) 1 1) (h0:w.cell? ad=some (.int .i64 p)) (h1:w.cell? (ad.add 1)=some (.int .i64 q)) (hlen:l.length < 4398046511104) (hB:B≤w.heap.size)
 (h:∀ v' w',Sp.Own w' B 186 v' (l ++ [(p,q)])→Below B w w'→wpList Tryz.prog ops Q rest (a.put o.dst v') w'):wpList Tryz.prog ops Q (o :: rest) a w:=by
 obtain ⟨i0,hi,hz0,hz1,hz2⟩:=info_parts infoS;refine wpList_append_own _ hgd s x 95 ho B 186 i0 (.agg #[.int .i64 0,.int .i64 0]) 2 16 Tryz.underlying95 hi hz0 hz1 hz2 rfl (by decide) v l.length (flat l) hs hown ad 1 1 [.int .i64 p,.int .i64 q] hx rfl ?_ ?_ ?_ ?_ hB ?_
 ·intro j u hj
  match j,hj with
  | 0,hj=>simp at hj;subst hj;rw [addr_zero];exact h0
  | 1,hj=>simp at hj;subst hj;exact h1
  | j+2,hj=>simp at hj
 ·intro u hu
  simp at hu
  rcases hu with rfl | rfl <;> rfl
 ·unfold maxLen;omega
 ·omega
 ·intro v' w' h2 h3 _
  exact h v' w' (Sp.Own.push (s:=(p,q)) h2) ((Below.refl B w).grown h3 hB fun k hk=>(World.ownsRow.lt hown k hk).1)
theorem ticks_any (w:World) (a b:Int):Calls Tryz.prog 93 #[.agg #[.int .i64 a,.int .i64 b]] w fun e w'=>e = .returned (.bool (decide (a < b)))∧Below w.heap.size w w':=by
 go_enter Tryz.func93,Tryz.ntmps93
 go_wp2
 go_ret
 exact ⟨rfl,(Below.refl _ _).alloc (Nat.le_refl _) _⟩
theorem nan_any (w:World) (a:Int):Calls Tryz.prog 226 #[.int .i64 a] w fun e w'=>e = .returned (.bool false)∧w=w':=by
 go_enter Tryz.func226,Tryz.ntmps226
 go_wp2
 go_ret
 exact ⟨by simp,rfl⟩
def cmpI (a b:Int):Int:=if a < b then -1 else if b < a then 1 else 0
theorem compare_any (w:World) (a b:Int):Calls Tryz.prog 192 #[.int .i64 a,.int .i64 b] w fun e w'=>e = .returned (.int .i64 (cmpI a b))∧w=w':=by
 by_cases h:a < b
 ·go_enter Tryz.func192,Tryz.ntmps192
  go_wp2_with (go_at_call 226;refine (nan_any _ _).mono ?_;rintro e w' ⟨rfl,rfl⟩)
  go_ret
  exact ⟨ret_int (by simp [cmpI,h]),rfl⟩
 ·by_cases h2:b < a
  ·go_enter Tryz.func192,Tryz.ntmps192
   go_wp2_with (go_at_call 226;refine (nan_any _ _).mono ?_;rintro e w' ⟨rfl,rfl⟩)
   go_ret
   exact ⟨ret_int (by simp [cmpI,h,h2]),rfl⟩
  ·go_enter Tryz.func192,Tryz.ntmps192
   go_wp2_with (go_at_call 226;refine (nan_any _ _).mono ?_;rintro e w' ⟨rfl,rfl⟩)
   go_ret
   exact ⟨ret_int (by rw [cmpI,if_neg (by omega),if_neg (by omega)]),rfl⟩
def Made (w:World) (P:List S2→Prop) (e:Ending) (w':World):Prop:=∃ v x,e = .returned v∧Sp.Own w' w.heap.size 186 v x∧P x∧Below w.heap.size w w'
end Go.Proofs.YtljnkaodhfnbbaaGreatDoor.Wi
namespace Go.Proofs.YtljnkaodhfnbbaaGreatDoor.Wi
open Go.RowKit Go.Proofs.YtljnkaodhfnbbaaGreatDoor.Sp
noncomputable def meetB (a b:List S2):Bool:=@decide (Meets a b) (Classical.propDecidable _)
theorem meetB_true {a b:List S2} (h:Meets a b):meetB a b=true:=by unfold meetB;exact @decide_eq_true _ (Classical.propDecidable _) h
theorem meetB_false {a b:List S2} (h:¬ Meets a b):meetB a b=false:=by unfold meetB;exact @decide_eq_false _ (Classical.propDecidable _) h
theorem at_bool {P:Program} {f:Nat} {args:Array Value} {w:World} {B:Nat} {a b:Bool} (e:a=b) (c:Calls P f args w fun e w'=>e = .returned (.bool a)∧Below B w w'):Calls P f args w fun e w'=>e = .returned (.bool b)∧Below B w w':=by rw [← e];exact c
end Go.Proofs.YtljnkaodhfnbbaaGreatDoor.Wi
namespace Go.Proofs.YtljnkaodhfnbbaaGreatDoor.Wi
open Go.RowKit Go.Proofs.YtljnkaodhfnbbaaGreatDoor.Sp
def PlainOf (X l:List S2):Prop:=Plain l∧∀ t,Low l t↔Low X t
theorem PlainOf.one {x a b:List S2} (ha:PlainOf x a) (hb:PlainOf x b):a=b:=plain_one ha.1 hb.1 fun t=>(ha.2 t).trans (hb.2 t).symm
end Go.Proofs.YtljnkaodhfnbbaaGreatDoor.Wi
namespace Go.Proofs.YtljnkaodhfnbbaaGreatDoor.Se
open Sp Go.Proofs.YtljnkaodhfnbbaaGreatDoor.Wi
open Tk (GoodP Glo IsG Glo_is Glo_eq)
section
variable {n:Nat} {A R:Nat→Int}
theorem Glo_in (A R:Nat→Int) (n:Nat) (m:Int):0≤Glo A R n m∧Glo A R n m≤4294967296:=⟨(Glo_is A R n m).lo,(Glo_is A R n m).hi⟩
theorem Glo_mono {a b:Int} (h:a≤b):Glo A R n a≤Glo A R n b:=by
 have x:=Glo_is A R n a;have y:=Glo_is A R n b;have y0:=y.lo;have x1:=x.hi
 rcases Wi.ltge (Glo A R n b) (Glo A R n a) with c | c
 ·have p:=y.there (by omega)
  have q:=x.before _ y.lo c
  omega
 ·exact c
theorem Loc_step (g:GoodP n A R) (t:Int) (h0:0≤t) (h1:t < 4294967296):Tk.Loc A R n (t+1)≤Tk.Loc A R n t+2:=by
 obtain ⟨c,_,c1,e⟩:=Tk.PP_succ g t;unfold Tk.Loc;rw [Tk.clamp_id (by omega) (by omega),Tk.clamp_id (by omega) (by omega),e]
 omega
theorem Glo_there (g:GoodP n A R) {a:Int} (h1:a≤4000000000):Glo A R n a < 4294967296:=by
 have x:=Glo_is A R n a;have b:=(Tk.Loc_bd g 4294967295 (by omega) (by omega)).2;have x1:=x.hi
 rcases Wi.ltge (Glo A R n a) 4294967296 with c | c
 ·exact c
 ·have:=x.before 4294967295 (by omega) (by omega)
  omega
theorem Glo_at (g:GoodP n A R) {a:Int} (h1:a≤4000000000):a≤Tk.Loc A R n (Glo A R n a):=(Glo_is A R n a).there (Glo_there g h1)
theorem Loc_zero (g:GoodP n A R):Tk.Loc A R n 0=0:=by
 rw [Tk.Loc,Tk.clamp_id (by omega) (by omega),Tk.PP_zero g]
 rfl
theorem Glo_no (g:GoodP n A R) {a:Int} (h0:0≤a):Tk.Loc A R n (Glo A R n a)≤a+1:=by
 have x:=Glo_is A R n a;have x0:=x.lo;have x1:=x.hi
 rcases Wi.ltge 0 (Glo A R n a) with c | c
 ·have p:=x.before (Glo A R n a - 1) (by omega) (by omega)
  have s:=Loc_step g (Glo A R n a - 1) (by omega) (by omega);rw [show Glo A R n a - 1+1=Glo A R n a by omega] at s
  omega
 ·have e:Glo A R n a=0:=by omega
  rw [e,Loc_zero g]
  omega
theorem Glo_lt (g:GoodP n A R) {a b:Int} (h0:0≤a) (h:a+2≤b) (h1:b≤4000000000):Glo A R n a < Glo A R n b:=by
 have p:=Glo_no g h0;have q:=Glo_at g h1;have m:=Glo_mono (A:=A) (R:=R) (n:=n) (show a≤b by omega)
 rcases Wi.ltge (Glo A R n a) (Glo A R n b) with c | c
 ·exact c
 ·have e:Glo A R n a=Glo A R n b:=by omega
  rw [e] at p
  omega
end
def lows (g:Int→Int) (F:Nat→Bool) (m:Int):Nat→List S2
 | 0=>[]
 | k+1=>if F k then lows g F m k else lows g F m k ++ [(g (m+16 * k),g (m+16 * k+16))]
section
variable {g:Int→Int} {F:Nat→Bool} {m:Int}
theorem lows_hi {k:Nat} (h:F k=true):lows g F m (k+1)=lows g F m k:=by rw [lows,if_pos h]
theorem lows_lo {k:Nat} (h:F k=false):lows g F m (k+1)=lows g F m k ++ [(g (m+16 * k),g (m+16 * k+16))]:=by rw [lows,if_neg (by simp [h])]
theorem lows_len:∀ k,(lows g F m k).length≤k
 | 0=>Nat.le_refl _
 | k+1=>by
   have:=lows_len k;rw [lows]
   split
   ·omega
   ·simp;omega
theorem lows_mem {s:S2} : ∀ {k},s∈lows g F m k↔∃ i:Nat,i < k∧F i=false∧s=(g (m+16 * i),g (m+16 * i+16))
 | 0=>by simp [lows]
 | k+1=>by
   cases h:F k with
   | true =>
     rw [lows_hi h,lows_mem]
     constructor
     ·rintro ⟨i,a,b⟩
      exact ⟨i,by omega,b⟩
     ·rintro ⟨i,a,b,c⟩
      by_cases e:i=k
      ·subst e;rw [h] at b;cases b
      ·exact ⟨i,by omega,b,c⟩
   | false =>
     rw [lows_lo h,List.mem_append,lows_mem]
     constructor
     ·rintro (⟨i,a,b⟩ | c)
      ·exact ⟨i,by omega,b⟩
      ·exact ⟨k,by omega,h,by simpa using c⟩
     ·rintro ⟨i,a,b,c⟩
      by_cases e:i=k
      ·subst e;exact .inr (by simpa using c)
      ·exact .inl ⟨i,by omega,b,c⟩
end
end Go.Proofs.YtljnkaodhfnbbaaGreatDoor.Se
namespace Go.Proofs.YtljnkaodhfnbbaaGreatDoor.Sa
open Sp Go.Proofs.YtljnkaodhfnbbaaGreatDoor.Wi Go.Proofs.YtljnkaodhfnbbaaGreatDoor.Se
open Tk (GoodP Glo IsG Glo_is Glo_eq PP)
structure Calm (n:Nat) (A R:Nat→Int) (B:Int):Prop where
 good:GoodP n A R
 lo:0≤B
 bd:∀ i,i < n→-B≤R i∧R i≤B
section
variable {n:Nat} {A R:Nat→Int} {B:Int}
theorem Calm.rt (g:Calm n A R B) (k:Nat) (h:k≤n) : -B≤Tk.rt R k∧Tk.rt R k≤B:=by
 have:=g.lo
 cases k with
 | zero=>exact ⟨by simp [Tk.rt];omega,by simp [Tk.rt];omega⟩
 | succ k=>exact g.bd k (by omega)
theorem PP_one (g:Calm n A R B) (t:Int):∃ c,1000000 - B≤c∧c≤1000000+B∧PP A R n (t+1)=PP A R n t+c:=by
 have s:=Tk.stop_at A n t;generalize hk:Tk.stop A n t=k at s;obtain ⟨s1,s2,s3⟩:=s;rw [Tk.PP_eq ⟨s1,s2,s3⟩]
 by_cases hn:k < n∧A k < t+1
 ·obtain ⟨hn,ha⟩:=hn
  have e:A k=t:=by have:=s3 hn;omega
  have st:Tk.AtStop A n (t+1) (k+1):=by
   refine ⟨hn,fun i hi=>?_,fun h=>?_⟩
   ·by_cases c:i=k
    ·subst c;exact ha
    ·have:=s2 i (by omega);omega
   ·have:=g.good.up k h;omega
  rw [Tk.PP_eq st];have b:=g.bd k hn;refine ⟨1000000+R k,by omega,by omega,?_⟩
  show Tk.sm A R k+(A k - Tk.fr A k) * (1000000+Tk.rt R k)+(t+1 - A k) * (1000000+R k)=Tk.sm A R k+(t - Tk.fr A k) * (1000000+Tk.rt R k)+(1000000+R k)
  rw [e,show t+1 - t=1 by omega,Int.one_mul]
 ·have st:Tk.AtStop A n (t+1) k:=by
   refine ⟨s1,fun i hi=>?_,fun h=>?_⟩
   ·have:=s2 i hi;omega
   ·have:=s3 h;omega
  rw [Tk.PP_eq st];have b:=g.rt k s1;refine ⟨1000000+Tk.rt R k,by omega,by omega,?_⟩;unfold Tk.pp;rw [show t+1 - Tk.fr A k=(t - Tk.fr A k)+1 by omega,Int.add_mul,Int.one_mul]
  omega
theorem PP_more (g:Calm n A R B) (t:Int) (d:Nat):PP A R n t+(1000000 - B) * d≤PP A R n (t+d)∧PP A R n (t+d)≤PP A R n t+(1000000+B) * d:=by
 induction d with
 | zero=>simp
 | succ d ih =>
   obtain ⟨c,c1,c2,e⟩:=PP_one g (t+d);rw [show t+((d+1:Nat):Int)=t+d+1 by omega,e];have e1:(1000000 - B) * ((d+1:Nat):Int)=(1000000 - B) * d+(1000000 - B):=by rw [show ((d+1:Nat):Int)=d+1 by omega,Int.mul_add,Int.mul_one]
   have e2:(1000000+B) * ((d+1:Nat):Int)=(1000000+B) * d+(1000000+B):=by rw [show ((d+1:Nat):Int)=d+1 by omega,Int.mul_add,Int.mul_one]
   rw [e1,e2];generalize (1000000 - B) * (d:Int)=x at *;generalize (1000000+B) * (d:Int)=y at *
   omega
theorem PP_span (g:Calm n A R B) {t u:Int} (h:t≤u):PP A R n t+(1000000 - B) * (u - t)≤PP A R n u∧PP A R n u≤PP A R n t+(1000000+B) * (u - t):=by
 have:=PP_more g t (u - t).toNat;rw [show t+((u - t).toNat:Int)=u by omega,show ((u - t).toNat:Int)=u - t by omega] at this;exact this
theorem Calm.up {B':Int} (g:Calm n A R B) (h:B≤B'):Calm n A R B':=⟨g.good,by have:=g.lo;omega,fun i hi=>by have:=g.bd i hi;omega⟩
theorem Glo_parts (g:Calm n A R B) {a:Int} (h0:0≤a) (h1:a≤4000000000):1000000 * a≤PP A R n (Glo A R n a)∧PP A R n (Glo A R n a)≤1000000 * a+999999+B:=by
 have x:=Glo_is A R n a;have x0:=x.lo;have x1:=Glo_there g.good h1;have q:=Glo_at g.good h1;have b0:=g.lo;unfold Tk.Loc at q;rw [Tk.clamp_id (by omega) (by omega)] at q;refine ⟨by omega,?_⟩
 rcases Wi.ltge 0 (Glo A R n a) with c | c
 ·have p:=x.before (Glo A R n a - 1) (by omega) (by omega)
  unfold Tk.Loc at p;rw [Tk.clamp_id (by omega) (by omega)] at p;obtain ⟨d,_,d1,e⟩:=PP_one g (Glo A R n a - 1);rw [show Glo A R n a - 1+1=Glo A R n a by omega] at e
  omega
 ·have e:Glo A R n a=0:=by omega
  rw [e,Tk.PP_zero g.good]
  omega
theorem Glo_le {a u:Int} (h0:0≤u) (h:1000000 * a≤PP A R n u):Glo A R n a≤u:=by
 have x:=Glo_is A R n a
 rcases Wi.ltge u (Glo A R n a) with c | c
 ·have p:=x.before u h0 c
  have:=x.hi;unfold Tk.Loc at p;rw [Tk.clamp_id (by omega) (by omega)] at p
  omega
 ·exact c
theorem lt_Glo (g:Calm n A R B) {a u:Int} (h1:a≤4000000000) (h:PP A R n u < 1000000 * a):u < Glo A R n a:=by
 have q:=Glo_at g.good h1;have x0:=(Glo_is A R n a).lo;have x1:=Glo_there g.good h1;unfold Tk.Loc at q;rw [Tk.clamp_id (by omega) (by omega)] at q
 rcases Wi.ltge u (Glo A R n a) with c | c
 ·exact c
 ·have:=Tk.PP_mono g.good c
  omega
end
def maj (a b c:Bool):Bool:=a && b || a && c || b && c
def heard (low:Int→Bool) (g:Int→Int) (N:Int) (i:Nat):Bool:=maj (!low (g (N+16 * i+7))) (!low (g (N+16 * i+8))) (!low (g (N+16 * i+9)))
theorem maj_same (a:Bool):maj a a a=a:=by cases a <;> rfl
theorem look_in {n n':Nat} {A R A' R':Nat→Int} (g:Calm n A R 10000) (g':Calm n' A' R' 10000) {m:Int} (m0:0≤m) (m1:m≤1073741824) (i:Nat) (hi:i < 11) (j:Int) (j0:7≤j) (j1:j≤9) :
 Glo A R n (m+16 * i)≤Glo A' R' n' (Tk.Loc A' R' n' (Glo A R n m)+16 * i+j)∧Glo A' R' n' (Tk.Loc A' R' n' (Glo A R n m)+16 * i+j) < Glo A R n (m+16 * i+16):=by
 have t:=Glo_parts g m0 (by omega);have t0:=(Glo_is A R n m).lo;have t1:=Glo_there g.good (show m≤4000000000 by omega);have t2:Glo A R n m≤1100000000:=by
  have b:=PP_span g (show 0≤Glo A R n m from t0);rw [Tk.PP_zero g.good] at b
  omega
 have l:=Tk.Loc_bd g'.good (Glo A R n m) t0 (by omega);have lp:1000000 * Tk.Loc A' R' n' (Glo A R n m)≤PP A' R' n' (Glo A R n m)∧PP A' R' n' (Glo A R n m)≤1000000 * Tk.Loc A' R' n' (Glo A R n m)+999999:=by
  unfold Tk.Loc;rw [Tk.clamp_id (by omega) (by omega)]
  omega
 have l0:0≤Tk.Loc A' R' n' (Glo A R n m):=by
  unfold Tk.Loc;rw [Tk.clamp_id (by omega) (by omega)];have:=(Tk.PP_bd g'.good (Glo A R n m) t0).1
  omega
 generalize Tk.Loc A' R' n' (Glo A R n m)=N at *;have u:=Glo_parts g' (a:=N+16 * i+j) (by omega) (by omega);have u0:=(Glo_is A' R' n' (N+16 * i+j)).lo;generalize Glo A' R' n' (N+16 * i+j)=U at *;have tu:Glo A R n m≤U:=by
  rcases Wi.ltge U (Glo A R n m) with c | c
  ·have:=Tk.PP_mono g'.good (show U≤Glo A R n m by omega)
   omega
  ·exact c
 have b:=PP_span g tu;have b':=PP_span g' tu;generalize Glo A R n m=T at *;have lo:1000000 * (m+16 * (i:Int))≤PP A R n U:=by omega
 have hi':PP A R n U < 1000000 * (m+16 * (i:Int)+16):=by omega
 exact ⟨Glo_le u0 lo,lt_Glo g (by omega) hi'⟩
theorem Loc_all (A R:Nat→Int) (n:Nat) (g:GoodP n A R) (t:Int):0≤Tk.Loc A R n t∧Tk.Loc A R n t≤4400000000:=by
 have h0:=Tk.clamp_lo t;have h1:=Tk.clamp_hi t;have:=Tk.PP_bd g (Tk.clamp t) h0;unfold Tk.Loc
 omega
end Go.Proofs.YtljnkaodhfnbbaaGreatDoor.Sa
namespace Go.Proofs.YtljnkaodhfnbbaaGreatDoor.Wi
open Sp
def idx (p:S2→Bool) (l:List S2):Int:=match (List.range l.length).find? (fun i=>p (fr l i,tp l i)) with
 | some i=>i
 | none=>-1
theorem idx_hit {p:S2→Bool} {l:List S2} {i:Nat} (hi:i < l.length) (hp:p (fr l i,tp l i)=true) (hn:∀ j,j < i→p (fr l j,tp l j)=false):idx p l=i:=by
 have e:(List.range l.length).find? (fun i=>p (fr l i,tp l i))=some i:=by
  rw [List.find?_range_eq_some];exact ⟨hp,by simpa using hi,fun j hj=>by simp [hn j hj]⟩
 simp [idx,e]
theorem idx_miss {p:S2→Bool} {l:List S2} (hn:∀ j,j < l.length→p (fr l j,tp l j)=false):idx p l = -1:=by
 have e:(List.range l.length).find? (fun i=>p (fr l i,tp l i))=none:=by
  rw [List.find?_eq_none]
  intro i hi
  simp [hn i (by simpa using hi)]
 simp [idx,e]
theorem idx_cases (p:S2→Bool) (l:List S2):(∃ i:Nat,i < l.length∧p (fr l i,tp l i)=true∧(∀ j,j < i→p (fr l j,tp l j)=false)∧idx p l=i)∨((∀ j,j < l.length→p (fr l j,tp l j)=false)∧idx p l = -1):=by
 rcases h:(List.range l.length).find? (fun i=>p (fr l i,tp l i)) with _ | i
 ·right
  rw [List.find?_eq_none] at h;have hn:∀ j,j < l.length→p (fr l j,tp l j)=false:=fun j hj=>by simpa using h j (by simpa using hj)
  exact ⟨hn,idx_miss hn⟩
 ·left
  rw [List.find?_range_eq_some] at h;have hi:i < l.length:=by simpa using h.2.1
  have hn:∀ j,j < i→p (fr l j,tp l j)=false:=fun j hj=>by simpa using h.2.2 j hj
  exact ⟨i,hi,h.1,hn,idx_hit hi h.1 hn⟩
def fallP (f t:Int) (s:S2):Bool:=decide (f≤s.1) && decide (s.1 < t)
def FallV (x:List S2) (f t:Int):Int×Bool:=if 0≤idx (fallP f t) x then (fr x (idx (fallP f t) x).toNat,true) else (0,false)
theorem fall_hit {x:List S2} {f t:Int} {i:Nat} (e:idx (fallP f t) x=i):FallV x f t=(fr x i,true):=by
 unfold FallV;rw [e,if_pos (by omega)]
 simp
theorem fall_miss {x:List S2} {f t:Int} (e:idx (fallP f t) x = -1):FallV x f t=(0,false):=by
 unfold FallV;rw [e,if_neg (by omega)]
end Go.Proofs.YtljnkaodhfnbbaaGreatDoor.Wi
namespace Go.Proofs.YtljnkaodhfnbbaaGreatDoor.Bu
open Sp Go.Proofs.YtljnkaodhfnbbaaGreatDoor.Wi Go.Proofs.YtljnkaodhfnbbaaGreatDoor.Se Go.Proofs.YtljnkaodhfnbbaaGreatDoor.Sa
open Tk (GoodP Glo IsG Glo_is Glo_eq PP)
structure Osc where
 n:Nat
 A:Nat→Int
 R:Nat→Int
noncomputable def Osc.g (o:Osc) (m:Int):Int:=Glo o.A o.R o.n m
def Osc.calm (o:Osc):Prop:=Sa.Calm o.n o.A o.R 2000
theorem ahead {o p:Osc} (ho:o.calm) (hp:p.calm) {a b:Int} (a0:0≤a) (a1:a≤4000) (hab:a+18≤b) (b1:b≤5000):o.g a < p.g b:=by
 unfold Osc.calm at ho hp;unfold Osc.g;have t:=(Glo_parts ho a0 (by omega)).2;have t0:=(Glo_is o.A o.R o.n a).lo;generalize Glo o.A o.R o.n a=T at *;have s:=(PP_span ho t0).1;have s':=(PP_span hp t0).2;rw [Tk.PP_zero ho.good] at s;rw [Tk.PP_zero hp.good] at s';exact lt_Glo hp (by omega) (by omega)
theorem Osc.mono (o:Osc) {a b:Int} (h:a≤b):o.g a≤o.g b:=Glo_mono h
abbrev Frs:=Nat→Option (Osc×(Nat→Bool))
structure Fit (f:Frs):Prop where
 calm:∀ k o F,f k=some (o,F)→o.calm
 low:∀ k o F,f k=some (o,F)→F 0=false
def LowK (f:Frs) (k:Nat) (u:Int):Prop:=∃ o F,f k=some (o,F)∧∃ i:Nat,i < 11∧F i=false∧o.g (224 * k+16 * i)≤u∧u < o.g (224 * k+16 * i+16)
def LowL (f:Frs) (u:Int):Prop:=∃ k:Nat,1≤k∧k≤16∧LowK f k u
section
variable {f:Frs}
theorem lowK_in {k:Nat} {u:Int} {o:Osc} {F:Nat→Bool} (e:f k=some (o,F)) (h:LowK f k u):o.g (224 * k)≤u∧u < o.g (224 * k+176):=by
 obtain ⟨o',F',e',i,hi,_,h1,h2⟩:=h;rw [e] at e';injection e' with e';injection e' with e1 _;subst e1;have:=o.mono (show 224 * (k:Int)≤224 * k+16 * i by omega);have:=o.mono (show 224 * (k:Int)+16 * i+16≤224 * k+176 by omega)
 omega
theorem lowK_ex {k:Nat} {u:Int} (h:LowK f k u):∃ o F,f k=some (o,F):=by
 obtain ⟨o,F,e,_⟩:=h;exact ⟨o,F,e⟩
theorem apart (hf:Fit f) {k k':Nat} (h2:k≤16) (h4:k'≤16) {u:Int} (h:LowK f k u) (h':LowK f k' u):k=k':=by
 obtain ⟨o,F,e⟩:=lowK_ex h;obtain ⟨o',F',e'⟩:=lowK_ex h';have a:=lowK_in e h;have b:=lowK_in e' h';have c:=hf.calm k o F e;have d:=hf.calm k' o' F' e'
 rcases Nat.lt_trichotomy k k' with q | q | q
 ·have:=ahead c d (a:=224 * k+176) (b:=224 * k') (by omega) (by omega) (by omega) (by omega)
  omega
 ·exact q
 ·have:=ahead d c (a:=224 * k'+176) (b:=224 * k) (by omega) (by omega) (by omega) (by omega)
  omega
theorem other (hf:Fit f) {r:Osc} (hr:r.calm) {k k':Nat} (h1:1≤k) (h2:k≤16) (h3:1≤k') (h4:k'≤16) (hne:k'≠k) {u:Int} (u0:r.g (224 * k - 20)≤u+1) (u1:u < r.g (224 * k+20)):¬ LowK f k' u:=fun h=>by
 obtain ⟨o,F,e⟩:=lowK_ex h;have a:=lowK_in e h;have c:=hf.calm k' o F e
 rcases Nat.lt_or_gt_of_ne hne with q | q
 ·have:=ahead c hr (a:=224 * k'+176) (b:=224 * k - 20) (by omega) (by omega) (by omega) (by omega)
  omega
 ·have:=ahead hr c (a:=224 * k+20) (b:=224 * k') (by omega) (by omega) (by omega) (by omega)
  omega
theorem other' (hf:Fit f) {k k':Nat} (h2:k≤16) (h4:k'≤16) (hne:k'≠k) {o:Osc} {F:Nat→Bool} (e:f k=some (o,F)) {u:Int} (u0:o.g (224 * k)≤u) (u1:u < o.g (224 * k+176)):¬ LowK f k' u:=fun h=>by
 obtain ⟨o',F',e'⟩:=lowK_ex h;have b:=lowK_in e' h;have c:=hf.calm k o F e;have d:=hf.calm k' o' F' e'
 rcases Nat.lt_or_gt_of_ne hne with q | q
 ·have:=ahead d c (a:=224 * k'+176) (b:=224 * k) (by omega) (by omega) (by omega) (by omega)
  omega
 ·have:=ahead c d (a:=224 * k+176) (b:=224 * k') (by omega) (by omega) (by omega) (by omega)
  omega
theorem bit_low (hf:Fit f) {k:Nat} (h1:1≤k) (h2:k≤16) {o:Osc} {F:Nat→Bool} (e:f k=some (o,F)) {i:Nat} (hi:i < 11) {u:Int} (u0:o.g (224 * k+16 * i)≤u) (u1:u < o.g (224 * k+16 * i+16)):LowL f u↔F i=false:=by
 constructor
 ·rintro ⟨k',h3,h4,h⟩
  have m0:=o.mono (show 224 * (k:Int)≤224 * k+16 * i by omega);have m1:=o.mono (show 224 * (k:Int)+16 * i+16≤224 * k+176 by omega)
  by_cases q:k'=k
  ·subst q
   obtain ⟨o',F',e',i',hi',hF,a,b⟩:=h;rw [e] at e';injection e' with e';injection e' with e1 e2;subst e1 e2
   rcases Nat.lt_trichotomy i' i with c | c | c
   ·have:=o.mono (show 224 * (k':Int)+16 * i'+16≤224 * k'+16 * i by omega)
    omega
   ·subst c;exact hF
   ·have:=o.mono (show 224 * (k':Int)+16 * i+16≤224 * k'+16 * i' by omega)
    omega
  ·exact absurd h (other' hf h2 h4 q e (by omega) (by omega))
 ·exact fun hF=>⟨k,h1,h2,o,F,e,i,hi,hF,u0,u1⟩
theorem first_low (hf:Fit f) {k:Nat} (h1:1≤k) (h2:k≤16) {o:Osc} {F:Nat→Bool} (e:f k=some (o,F)):LowL f (o.g (224 * k)):=by
 have c:Sa.Calm o.n o.A o.R 2000:=hf.calm k o F e;have q:=Glo_lt c.good (a:=224 * (k:Int)) (b:=224 * k+16) (by omega) (by omega) (by omega);refine (bit_low hf h1 h2 e (i:=0) (by omega) (u:=o.g (224 * k)) ?_ ?_).2 (hf.low k o F e)
 ·simp
 ·show o.g (224 * (k:Int)) < o.g (224 * (k:Int)+16 * ((0:Nat):Int)+16)
  rw [show 224 * (k:Int)+16 * ((0:Nat):Int)+16=224 * k+16 by omega];exact q
end
section
variable {f:Frs} {x l:List S2}
theorem plain_begin (hx:Plain x) {s:S2} (hs:s∈x):Low x s.1∧¬ Low x (s.1 - 1):=by
 refine ⟨⟨s,hs,Int.le_refl _,hx.1 s hs⟩,?_⟩;rintro ⟨q,hq,a,b⟩;obtain ⟨i,hi,e1⟩:=List.getElem_of_mem hs;obtain ⟨j,hj,e2⟩:=List.getElem_of_mem hq;have pw:=List.pairwise_iff_getElem.1 hx.2
 rcases Nat.lt_trichotomy i j with c | c | c
 ·have:=pw i j hi hj c
  rw [e1,e2] at this;have:=hx.1 s hs
  omega
 ·subst c
  rw [e1] at e2;subst e2
  omega
 ·have:=pw j i hj hi c
  rw [e1,e2] at this
  omega
theorem begin_plain {t:Int} (h:Low x t) (h':¬ Low x (t - 1)):∃ s∈x,s.1=t:=by
 obtain ⟨s,hs,a,b⟩:=h;refine ⟨s,hs,?_⟩
 rcases Wi.ltge s.1 t with c | c
 ·exact absurd ⟨s,hs,by omega,by omega⟩ h'
 ·omega
theorem not_before (hf:Fit f) {r:Osc} (hr:r.calm) {k:Nat} (h1:1≤k) (h2:k≤16) {o:Osc} {F:Nat→Bool} (e:f k=some (o,F)) {u:Int} (u0:r.g (224 * k - 20)≤u+1) (u1:u < o.g (224 * k)):¬ LowL f u:=by
 rintro ⟨k',h3,h4,h⟩;have c:=hf.calm k o F e
 by_cases q:k'=k
 ·subst q
  have:=(lowK_in e h).1
  omega
 ·have:=ahead c hr (a:=224 * k) (b:=224 * k+20) (by omega) (by omega) (by omega) (by omega)
  exact other hf hr h1 h2 h3 h4 q u0 (by omega) h
theorem fall_some (hf:Fit f) (hx:Plain x) (hl:∀ u,Low x u↔LowL f u) {r:Osc} (hr:r.calm) {k:Nat} (h1:1≤k) (h2:k≤16) {o:Osc} {F:Nat→Bool} (e:f k=some (o,F)):FallV x (r.g (224 * k - 20)) (r.g (224 * k+20))=(o.g (224 * k),true):=by
 have c:=hf.calm k o F e;have a0:=ahead hr c (a:=224 * k - 20) (b:=224 * k) (by omega) (by omega) (by omega) (by omega);have a1:=ahead c hr (a:=224 * k) (b:=224 * k+20) (by omega) (by omega) (by omega) (by omega);have b0:Low x (o.g (224 * k)):=(hl _).2 (first_low hf h1 h2 e);have b1:¬ Low x (o.g (224 * k) - 1):=fun h=>not_before hf hr h1 h2 e (by omega) (by omega) ((hl _).1 h);obtain ⟨s,hs,es⟩:=begin_plain b0 b1;obtain ⟨i,hi,e1,e2⟩:=mem_iff.1 hs;have hp:fallP (r.g (224 * k - 20)) (r.g (224 * k+20)) (fr x i,tp x i)=true:=by
  unfold fallP;rw [e1,es];simp only [Bool.and_eq_true,decide_eq_true_eq]
  omega
 have hn:∀ j,j < i→fallP (r.g (224 * k - 20)) (r.g (224 * k+20)) (fr x j,tp x j)=false:=fun j hj=>by
  rcases hq:fallP (r.g (224 * k - 20)) (r.g (224 * k+20)) (fr x j,tp x j) with _ | _
  ·rfl
  ·exfalso
   unfold fallP at hq;simp only [Bool.and_eq_true,decide_eq_true_eq] at hq;have hm:=mem_fr (l:=x) (i:=j) (by omega);have g:=(plain_begin hx hm).1;have lt:fr x j < o.g (224 * k):=by
    have pw:=List.pairwise_iff_getElem.1 hx.2;have hmi:=mem_fr hi;have q1:=hx.1 _ hm;have:=hx.1 _ hmi;have gj:x[j]? = some (fr x j,tp x j):=by
     have:=List.getElem?_eq_getElem (show j < x.length by omega);rw [this]
     simp [fr,tp,List.getD_eq_getElem?_getD,List.getElem?_eq_getElem (show j < x.length by omega)]
    have gi:x[i]? = some (fr x i,tp x i):=by
     rw [List.getElem?_eq_getElem hi]
     simp [fr,tp,List.getD_eq_getElem?_getD,List.getElem?_eq_getElem hi]
    have q:=pw j i (by omega) hi hj;rw [List.getElem?_eq_getElem (by omega)] at gj;rw [List.getElem?_eq_getElem hi] at gi;injection gj with gj;injection gi with gi;rw [gj,gi] at q;simp only at q q1
    omega
   exact not_before hf hr h1 h2 e (by omega) lt ((hl _).1 g)
 rw [fall_hit (idx_hit hi hp hn),e1,es]
theorem fall_none (hf:Fit f) (hx:Plain x) (hl:∀ u,Low x u↔LowL f u) {r:Osc} (hr:r.calm) {k:Nat} (h1:1≤k) (h2:k≤16) (e:f k=none):FallV x (r.g (224 * k - 20)) (r.g (224 * k+20))=(0,false):=by
 refine fall_miss (idx_miss fun j hj=>?_)
 rcases hq:fallP (r.g (224 * k - 20)) (r.g (224 * k+20)) (fr x j,tp x j) with _ | _
 ·rfl
 ·exfalso
  unfold fallP at hq;simp only [Bool.and_eq_true,decide_eq_true_eq] at hq;obtain ⟨k',h3,h4,h⟩:=(hl _).1 (plain_begin hx (mem_fr hj)).1
  by_cases q:k'=k
  ·subst q
   obtain ⟨o,F,e',_⟩:=h;rw [e] at e'
   cases e'
  ·exact other hf hr h1 h2 h3 h4 q (by simp only;omega) (by simp only;omega) h
theorem heard_bus (hf:Fit f) (hl:∀ u,Low l u↔LowL f u) {r:Osc} (hr:r.calm) {k:Nat} (h1:1≤k) (h2:k≤16) {o:Osc} {F:Nat→Bool} (e:f k=some (o,F)) {i:Nat} (hi:i < 11) :
 heard (lowB l) (Glo r.A r.R r.n) (Tk.Loc r.A r.R r.n (o.g (224 * k))) i=F i:=by
 have c:Sa.Calm o.n o.A o.R 10000:=Sa.Calm.up (hf.calm k o F e) (by omega);have d:Sa.Calm r.n r.A r.R 10000:=Sa.Calm.up hr (by omega);have look:∀ j:Int,7≤j→j≤9→lowB l (Glo r.A r.R r.n (Tk.Loc r.A r.R r.n (o.g (224 * k))+16 * i+j)) = !F i:=fun j j0 j1=>by
  obtain ⟨q0,q1⟩:=look_in c d (m:=224 * (k:Int)) (by omega) (by omega) i hi j j0 j1;have b:=bit_low hf h1 h2 e hi (u:=Glo r.A r.R r.n (Tk.Loc r.A r.R r.n (o.g (224 * k))+16 * i+j)) q0 q1
  rcases hF:F i with _ | _
  ·exact lowB_iff.2 ((hl _).2 (b.2 hF))
  ·refine lowB_false.2 fun h=>?_
   have:=b.1 ((hl _).1 h);rw [hF] at this
   cases this
 unfold heard;rw [look 7 (by omega) (by omega),look 8 (by omega) (by omega),look 9 (by omega) (by omega),maj_same]
 simp
end
end Go.Proofs.YtljnkaodhfnbbaaGreatDoor.Bu
