import Derived.Test.YtdbdacceecnpmaaGreatDoorQr1
import Derived.Great.BuildSlice
set_option maxRecDepth 100000
set_option maxHeartbeats 4000000
namespace Go.Proofs.YtdbdacceecnpmaaGreatDoor
open Go.Proofs.Tryz
open Fl (K4 R4 bytes doE file goodF goodFB inc newR num okL okR okR_at okR_z rat rec4 z4)
open Rw (At Ow Rd)
namespace Sg
open Go.RowKit
open Sd (light light_value)
open Sc (In Cl)
def lst (zs:List Nat) (listed:Array Bool):Bool:=zs.any fun z=>listed.getD z false
def wpAnyE (P:Program) (md:Region.Mode) (ops:Array Oper) (Q:Exit->Act->World->Prop) (S:World->Prop) (zs:List Nat):Nat->Array Bool->Act->World->Prop
 | 0,listed,a,w=>Region.ready md ops listed = []/\Q .normal a w
 | fuel+1,listed,a,w =>
   (Region.ready md ops listed = []->Q .normal a w) /\
   ∀ i∈Region.ready md ops listed,wpOp P ops Q i (fun a' w'=>(i∈zs\/lst zs listed=true\/S w')/\wpAnyE P md ops Q S zs fuel (listed.setIfInBounds i true) a' w') a w
section
variable {P:Program} {md:Region.Mode} {ops:Array Oper} {Q:Exit->Act->World->Prop} {S:World->Prop} {zs:List Nat}
theorem any_of:∀ (fuel:Nat) (listed:Array Bool) (a:Act) (w:World),wpAnyE P md ops Q S zs fuel listed a w->wpAny P md ops Q fuel listed a w
 | 0,_,_,_,h=>h
 | fuel+1,_,_,_,h=>⟨h.1,fun i hi=>wpOp_mono (fun a' w' h'=>any_of fuel _ a' w' h'.2) (h.2 i hi)⟩
variable {j i fuel:Nat} {listed:Array Bool}
theorem lst_set (h:j ∉ zs):lst zs (listed.setIfInBounds j true)=lst zs listed:=by
 unfold lst;rw [Bool.eq_iff_iff,bP,bP];have e:∀ z∈zs,(listed.setIfInBounds j true).getD z false=listed.getD z false:=fun z hz=>by
  have ne:j≠z:=fun e=>h (e ▸ hz)
  simp [Array.getD_eq_getD_getElem?,ne]
 constructor
 ·rintro ⟨z,hz,g⟩
  exact ⟨z,hz,by rw [← e z hz];exact g⟩
 ·rintro ⟨z,hz,g⟩
  exact ⟨z,hz,by rw [e z hz];exact g⟩
theorem lst_in (h:j∈zs) (hl:listed.getD j true=false):lst zs (listed.setIfInBounds j true)=true:=by
 unfold lst;refine bP.2 ⟨j,h,?_⟩;have hs:j < listed.size:=by
  rcases cM j listed.size with h' | h'
  ·exact h'
  ·simp [Array.getElem?_eq_none h'] at hl
 simp [Array.getD_eq_getD_getElem?,hs]
theorem lst_up (h:lst zs listed=true):lst zs (listed.setIfInBounds j true)=true:=by
 unfold lst at *;obtain ⟨z,hz,g⟩:=bP.1 h;refine bP.2 ⟨z,hz,?_⟩
 by_cases e:j=z
 ·subst e
  have hs:j < listed.size:=by
   rcases cM j listed.size with h' | h'
   ·exact h'
   ·simp [Array.getD_eq_getD_getElem?,Array.getElem?_eq_none h'] at g
  simp [Array.getD_eq_getD_getElem?,hs]
 ·simp only [bJ,aP,e,if_false] at g ⊢
  exact g
variable {oi:Oper} {v:Value}
theorem firstU (hi:ops[i]? = some oi) (hiz:i ∉ zs) (hsel:∀ (j:Nat) (o:Oper) cs b,ops[j]? = some o->o.op≠.select cs b)
 (hQ:∀ c a w,Q (.panic c) (a.put oi.dst v) w->Q (.panic c) a w) :
 ∀ (fuel:Nat) (listed:Array Bool) (a:Act) (w:World),
  (∀ j oj,ops[j]? = some oj->j≠i->listed.getD j true=false->(∀ e∈oj.after,Region.binds md e=true->e.on≠i)->oi.apart ops oj=true) ->
  i∈Region.ready md ops listed->YieldsIf P ops (fun _=>True) oi v a->(lst zs listed=true\/S w) ->
  wpAnyE P md ops Q S zs fuel (listed.setIfInBounds i true) (a.put oi.dst v) w->wpAnyE P md ops Q S zs (fuel+1) listed a w:=by
 intro fuel
 induction fuel with
 | zero =>
   intro listed a w _ hr hy hS H
   refine ⟨fun h=>(by rw [h] at hr;cases hr),fun j hj=>?_⟩
   by_cases hji:j=i
   ·subst hji;exact hy.wpOp hi trivial ⟨.inr hS,H⟩
   ·have:=ready_mono hj hji
    rw [H.1] at this
    cases this
 | succ fuel ih =>
   intro listed a w hfree hr hy hS H
   refine ⟨fun h=>(by rw [h] at hr;cases hr),fun j hj=>?_⟩
   by_cases hji:j=i
   ·subst hji;exact hy.wpOp hi trivial ⟨.inr hS,H⟩
   ·have h1:=H.2 j (ready_mono hj hji)
    obtain ⟨hjun,oj,hoj,hall⟩:=mem_ready.1 hj;have hnot:∀ e∈oj.after,Region.binds md e=true->e.on≠i:=fun e he hb heq=>by
     have h1:=hall e he hb;have h0:=(mem_ready.1 hr).1;rw [heq] at h1
     rcases cM i listed.size with h' | h'
     ·simp [h'] at h0 h1;rw [h0] at h1;cases h1
     ·simp [Array.getElem?_eq_none h'] at h1
    have h2:=wpOp_putIf hoj (hfree j oj hoj hji hjun hnot) (fun cs b=>hsel i oi cs b hi) (fun cs b=>hsel j oj cs b hoj) hQ hy h1;have hfree':∀ k ok,ops[k]? = some ok->k≠i->(listed.setIfInBounds j true).getD k true=false ->
     (∀ e∈ok.after,Region.binds md e=true->e.on≠i)->oi.apart ops ok=true:=fun k ok hk hki hun hno=>by
     refine hfree k ok hk hki ?_ hno
     by_cases hjk:j=k
     ·subst hjk;exact hjun
     ·rw [getD_set_ne true hjk] at hun;exact hun
    refine wpOp_mono (fun a' w' h3=>?_) h2;have hq:j∈zs\/lst zs listed=true\/S w':=by
     rcases h3.2.1 with g | g | g
     ·exact .inl g
     ·rw [lst_set hiz] at g;exact .inr (.inl g)
     ·exact .inr (.inr g)
    have hS':lst zs (listed.setIfInBounds j true)=true\/S w':=by
     rcases hq with g | g | g
     ·exact .inl (lst_in g hjun)
     ·exact .inl (lst_up g)
     ·exact .inr g
    refine ⟨hq,ih (listed.setIfInBounds j true) a' w' hfree' (ready_mono hr (Ne.symm hji)) h3.1 hS' ?_⟩;rw [cW _ _ hji];exact h3.2.2
theorem first (hi:ops[i]? = some oi) (hsel:∀ (j:Nat) (o:Oper) cs b,ops[j]? = some o->o.op≠.select cs b)
 (hQ:∀ c a w,Q (.panic c) (a.put oi.dst v) w->Q (.panic c) a w) :
 ∀ (fuel:Nat) (listed:Array Bool) (a:Act) (w:World),(∀ z∈zs,Sz.Blocks md ops z i listed)->lst zs listed=false ->
  (∀ j oj,ops[j]? = some oj->j≠i->listed.getD j true=false->(∀ e∈oj.after,Region.binds md e=true->e.on≠i)->oi.apart ops oj=true) ->
  i∈Region.ready md ops listed->YieldsIf P ops S oi v a->S w ->
  wpAnyE P md ops Q S zs fuel (listed.setIfInBounds i true) (a.put oi.dst v) w->wpAnyE P md ops Q S zs (fuel+1) listed a w:=by
 intro fuel
 induction fuel with
 | zero =>
   intro listed a w _ _ _ hr hy hS H
   refine ⟨fun h=>(by rw [h] at hr;cases hr),fun j hj=>?_⟩
   by_cases hji:j=i
   ·subst hji;exact hy.wpOp hi hS ⟨.inr (.inr hS),H⟩
   ·have:=ready_mono hj hji
    rw [H.1] at this
    cases this
 | succ fuel ih =>
   intro listed a w hz hl0 hfree hr hy hS H
   refine ⟨fun h=>(by rw [h] at hr;cases hr),fun j hj=>?_⟩
   by_cases hji:j=i
   ·subst hji;exact hy.wpOp hi hS ⟨.inr (.inr hS),H⟩
   ·have h1:=H.2 j (ready_mono hj hji)
    obtain ⟨hjun,oj,hoj,hall⟩:=mem_ready.1 hj;have hnot:∀ e∈oj.after,Region.binds md e=true->e.on≠i:=fun e he hb heq=>by
     have h1:=hall e he hb;have h0:=(mem_ready.1 hr).1;rw [heq] at h1
     rcases cM i listed.size with h' | h'
     ·simp [h'] at h0 h1;rw [h0] at h1;cases h1
     ·simp [Array.getElem?_eq_none h'] at h1
    have low:∀ {k:Nat},listed.getD k true=false->listed.getD k false=false:=fun {k} h=>by
     rcases cM k listed.size with h' | h'
     ·simp [h'] at h ⊢;exact h
     ·simp [Array.getElem?_eq_none h'] at h
    have hjz:j ∉ zs:=fun hm=>by
     obtain ⟨oz,ez,hoz,hez,hbz,hnl,_⟩:=hz j hm;rw [hoj] at hoz;obtain rfl:=bh hoz;have:=hall ez hez hbz;rw [low hnl] at this
     cases this
    have hz':∀ z∈zs,Sz.Blocks md ops z i (listed.setIfInBounds j true):=fun z hm=>by
     obtain ⟨oz,ez,hoz,hez,hbz,hnl,hor⟩:=hz z hm;have hje:j≠ez.on:=fun e=>by
      rcases hor with h | ⟨ok,hok,e',he',hb',hon⟩
      ·exact hji (e.trans h)
      ·rw [← e,hoj] at hok
       obtain rfl:=bh hok;exact hnot e' he' hb' hon
     exact ⟨oz,ez,hoz,hez,hbz,by rw [getD_set_ne true hje];exact hnl,hor⟩
    have h2:=wpOp_putIf hoj (hfree j oj hoj hji hjun hnot) (fun cs b=>hsel i oi cs b hi) (fun cs b=>hsel j oj cs b hoj) hQ hy h1;have hfree':∀ k ok,ops[k]? = some ok->k≠i->(listed.setIfInBounds j true).getD k true=false ->
     (∀ e∈ok.after,Region.binds md e=true->e.on≠i)->oi.apart ops ok=true:=fun k ok hk hki hun hno=>by
     refine hfree k ok hk hki ?_ hno
     by_cases hjk:j=k
     ·subst hjk;exact hjun
     ·rw [getD_set_ne true hjk] at hun;exact hun
    refine wpOp_mono (fun a' w' h3=>?_) h2;have hi2:i ∉ zs:=fun hm=>by
     obtain ⟨oz,ez,hoz,hez,hbz,hnl,_⟩:=hz i hm;obtain ⟨_,oi',hoi',hall'⟩:=mem_ready.1 hr;rw [hoz] at hoi';obtain rfl:=bh hoi';have:=hall' ez hez hbz;rw [low hnl] at this
     cases this
    have hl1:lst zs (listed.setIfInBounds i true)=false:=by rw [lst_set hi2];exact hl0
    have hl2:lst zs (listed.setIfInBounds j true)=false:=by rw [lst_set hjz];exact hl0
    have hS':S w':=(h3.2.1.resolve_left hjz).resolve_left (by rw [hl1];decide);refine ⟨.inr (.inr hS'),ih (listed.setIfInBounds j true) a' w' hz' hl2 hfree' (ready_mono hr (Ne.symm hji)) h3.1 hS' ?_⟩;rw [cW _ _ hji];exact h3.2.2
variable {a:Act} {w:World}
theorem fin (hr:Region.ready md ops listed = []) (h:Q .normal a w) :
 ∀ fuel,wpAnyE P md ops Q S zs fuel listed a w
 | 0=>⟨hr,h⟩
 | _+1=>⟨fun _=>h,by rw [hr];simp⟩
theorem all {rs:List Nat} (hr:Region.ready md ops listed=rs) (hne:rs≠[])
 (h:∀ i∈rs,wpOp P ops Q i (fun a' w'=>(i∈zs\/lst zs listed=true\/S w')/\wpAnyE P md ops Q S zs fuel (listed.setIfInBounds i true) a' w') a w):wpAnyE P md ops Q S zs (fuel+1) listed a w :=
 ⟨fun h0=>absurd (hr ▸ h0) hne,hr ▸ h⟩
end
def okB (ops:Array Oper) (zs:List Nat) (i:Nat) (listed:Array Bool):Bool:=(zs.all fun z=>Sz.blocksB ops z i listed) && !lst zs listed
variable {P:Program} {ops:Array Oper} {Q:Exit->Act->World->Prop} {S:World->Prop} {zs:List Nat} {i fuel g h s e k:Nat} {oi o:Oper} {v:Value} {listed:Array Bool} {a:Act} {w:World}
theorem takeU (hz:zs.contains i=false) (hi:ops[i]? = some oi) (hs:Region.noSelect ops=true) (hf:Region.free .any ops listed i=true) (hr:(Region.ready .any ops listed).contains i=true)
 (hQ:∀ c a w,Q (.panic c) (a.put oi.dst v) w->Q (.panic c) a w) (hy:YieldsIf P ops (fun _=>True) oi v a) (hS:S w) (h:wpAnyE P .any ops Q S zs fuel (listed.setIfInBounds i true) (a.put oi.dst v) w):wpAnyE P .any ops Q S zs (fuel+1) listed a w :=
 firstU (v:=v) hi (by simpa using hz) (Region.noSelect_spec hs) hQ fuel listed a w (Region.free_spec hi hf) (by simpa using hr) hy (.inr hS) h
theorem take (hz:okB ops zs i listed=true) (hi:ops[i]? = some oi) (hs:Region.noSelect ops=true) (hf:Region.free .any ops listed i=true) (hr:(Region.ready .any ops listed).contains i=true)
 (hQ:∀ c a w,Q (.panic c) (a.put oi.dst v) w->Q (.panic c) a w) (hy:YieldsIf P ops S oi v a) (hS:S w) (h:wpAnyE P .any ops Q S zs fuel (listed.setIfInBounds i true) (a.put oi.dst v) w):wpAnyE P .any ops Q S zs (fuel+1) listed a w :=
 first (v:=v) hi (Region.noSelect_spec hs) hQ fuel listed a w (fun z hm=>Sz.blocks_of (bQ.1 (by unfold okB at hz;rw [aG] at hz;exact hz.1) z hm)) (by unfold okB at hz;rw [aG] at hz;simpa using hz.2) (Region.free_spec hi hf) (by simpa using hr) hy hS h
structure Fl where
 idx:Nat
 slot:Nat
 cs:Array Value
 ty:TypeId
 sv:Option (Nat×Value)
 n:Option Nat
def sln (n:Option Nat) (g:Nat):Value:=match n with
 | some n=>.slice (some ⟨g,0,none⟩) n n
 | none=>.pointer (some ⟨g,0,none⟩)
theorem sln_inj {n m:Option Nat} (e:sln n g=sln m h):g=h:=by
 cases n <;> cases m <;> (unfold sln at e;first | cases e;rfl | cases e)
def Fl.off (f:Fl) (d:Option Nat):Bool:=match f.sv with
 | none=>true
 | some s=>d != some s.1
variable {f:Fl}
theorem off_spec {d:Option Nat} (h:f.off d=true) (s:Nat) (v:Value) (e:f.sv=some (s,v)):d≠some s:=by
 unfold Fl.off at h;rw [e] at h
 simpa using h
def Fl.at (f:Fl) (a:Act):Prop:=∀ s v,f.sv=some (s,v)->a.tmps.getD s undef=v
theorem ne_of {g:Fl} (h:some f.slot≠g.sv.map (·.1)) (e:g.sv=some (s,v)):f.slot≠s:=fun k=>h (by rw [e,k];rfl)
def fill (F:List Fl) (x:Nat->Value) (a:Act):Act:=F.foldl (fun a f=>a.put (some f.slot) (x f.slot)) a
theorem put_comm (a:Act) {d:Nat} (h:d≠e) (u v:Value):(a.put (some d) u).put (some e) v=(a.put (some e) v).put (some d) u:=by
 simp only [Act.put];rw [cW _ _ h]
theorem put_put (a:Act) (d:Nat) (u v:Value):(a.put (some d) u).put (some d) v=a.put (some d) v:=by
 simp only [Act.put,Array.setIfInBounds_setIfInBounds]
theorem fill_put (x:Nat->Value) (dst:Option Nat) (v:Value):∀ (F:List Fl) (a:Act),(∀ f∈F,dst≠some f.slot)->(fill F x a).put dst v=fill F x (a.put dst v)
 | [],a,_=>rfl
 | f :: r,a,h=>by
   have ih:=fill_put x dst v r (a.put (some f.slot) (x f.slot)) fun g hg=>h g (aJ _ hg)
   show (fill r x (a.put (some f.slot) (x f.slot))).put dst v=fill r x ((a.put dst v).put (some f.slot) (x f.slot))
   rw [ih]
   cases dst with
   | none=>rfl
   | some d=>rw [put_comm a (fun e=>h f (aO ..) (by rw [e])) (x f.slot) v]
theorem fill_congr {x y:Nat->Value} : ∀ (F:List Fl) (a:Act),(∀ f∈F,x f.slot=y f.slot)->fill F x a=fill F y a
 | [],_,_=>rfl
 | f :: r,a,h=>by
   show fill r x (a.put (some f.slot) (x f.slot))=fill r y (a.put (some f.slot) (y f.slot))
   rw [h f (aO ..),fill_congr r _ fun g hg=>h g (aJ _ hg)]
def upd (x:Nat->Value) (s:Nat) (v:Value) (k:Nat):Value:=if k=s then v else x k
theorem fill_set (x:Nat->Value) (s:Nat) (v:Value):∀ (F:List Fl) (a:Act),(F.map (·.slot)).Nodup->(∃ f∈F,f.slot=s)->(fill F x a).put (some s) v=fill F (upd x s v) a
 | [],a,_,h=>by obtain ⟨_,h,_⟩:=h;cases h
 | f :: r,a,hn,h=>by
   rw [dg,List.nodup_cons] at hn
   show (fill r x (a.put (some f.slot) (x f.slot))).put (some s) v=fill r (upd x s v) (a.put (some f.slot) (upd x s v f.slot))
   by_cases e:f.slot=s
   ·have hne:∀ g∈r,g.slot≠s:=fun g hg e'=>hn.1 (bE.2 ⟨g,hg,by rw [e,e']⟩)
    rw [fill_put x (some s) v r _ fun g hg e'=>hne g hg (bh e').symm,e,put_put];rw [show upd x s v s=v by simp [upd]];exact fill_congr r _ fun g hg=>by simp [upd,hne g hg]
   ·obtain ⟨g,hg,hs⟩:=h
    have hg':g∈r:=by
     rcases aN.1 hg with rfl | k
     ·exact absurd hs e
     ·exact k
    rw [show upd x s v f.slot=x f.slot by simp [upd,e]];exact fill_set x s v r _ hn.2 ⟨g,hg',hs⟩
def marks (L:Array Bool) (d:List Nat):Array Bool:=d.foldl (fun L i=>L.setIfInBounds i true) L
theorem marks_get:∀ (d:List Nat) (L:Array Bool) (k:Nat),(marks L d)[k]? = if k∈d then (L[k]?).map (fun _=>true) else L[k]?
 | [],L,k=>by simp [marks]
 | i :: r,L,k=>by
   show (marks (L.setIfInBounds i true) r)[k]? = _
   rw [marks_get r,aP]
   by_cases hi:i=k
   ·subst hi
    by_cases hl:i < L.size
    ·simp [hl]
    ·simp [hl]
   ·have hk:k≠i:=fun e=>hi e.symm
    simp [hi,hk]
theorem marks_size:∀ (d:List Nat) (L:Array Bool),(marks L d).size=L.size
 | [],_=>rfl
 | j :: r,L=>by show (marks (L.setIfInBounds j true) r).size=_;rw [marks_size r,Array.size_setIfInBounds]
theorem marks_set (L:Array Bool) (d:List Nat) (i:Nat):(marks L d).setIfInBounds i true=marks (L.setIfInBounds i true) d:=by
 refine Array.ext_getElem? fun k=>?_;rw [aP,marks_get,marks_get,aP];rw [marks_size]
 by_cases hi:i=k
 ·subst hi
  by_cases hl:i < L.size <;> by_cases hd:i∈d <;> simp [hl,hd]
 ·simp [hi]
def doneOf (F:List Fl) (m:Nat->Bool):List Nat:=(F.filter fun f=>m f.idx).map (·.idx)
theorem mem_done {F:List Fl} {m:Nat->Bool} : k∈doneOf F m↔m k=true/\∃ f∈F,f.idx=k:=by
 unfold doneOf;rw [bE]
 constructor
 ·rintro ⟨f,hf,rfl⟩
  rw [cg] at hf;exact ⟨hf.2,f,hf.1,rfl⟩
 ·rintro ⟨hm,f,hf,rfl⟩
  exact ⟨f,cg.2 ⟨hf,hm⟩,rfl⟩
def on (m:Nat->Bool) (j k:Nat):Bool:=k == j || m k
theorem marks_on (L:Array Bool) (F:List Fl) (m:Nat->Bool) (f:Fl) (hf:f∈F):(marks L (doneOf F m)).setIfInBounds f.idx true=marks L (doneOf F (on m f.idx)):=by
 rw [marks_set];refine Array.ext_getElem? fun k=>?_;rw [marks_get,marks_get,aP]
 by_cases e:f.idx=k
 ·subst e
  have h2:f.idx∈doneOf F (on m f.idx):=mem_done.2 ⟨by simp [on],f,hf,rfl⟩;rw [aj h2]
  by_cases hl:f.idx < L.size <;> by_cases hd:f.idx∈doneOf F m <;> simp [hl,hd]
 ·have hiff:(k∈doneOf F (on m f.idx))↔(k∈doneOf F m):=by
   have hb:(k == f.idx)=false:=by simpa using fun h=>e h.symm
   rw [mem_done,mem_done]
   simp [on,hb]
  by_cases hd:k∈doneOf F m
  ·rw [aj hd,aj (hiff.2 hd)];simp [e]
  ·rw [ah hd,ah (fun h=>hd (hiff.1 h))];simp [e]
def allMasks:List Fl->(List Nat->Bool)->Bool
 | [],k=>k []
 | f :: r,k=>allMasks r k && allMasks r (fun d=>k (f.idx :: d))
theorem allMasks_spec:∀ (F:List Fl) (k:List Nat->Bool),allMasks F k=true->∀ m,k (doneOf F m)=true
 | [],k,h,m=>h
 | f :: r,k,h,m=>by
   unfold allMasks at h;rw [aG] at h;unfold doneOf;rw [List.filter_cons]
   cases hm:m f.idx with
   | true=>rw [aj rfl];exact allMasks_spec r _ h.2 m
   | false=>rw [ah (by simp)];exact allMasks_spec r _ h.1 m
def goodT (ops:Array Oper):List Nat->Array Bool->Bool
 | [],L=>(Region.ready .any ops L).isEmpty
 | z :: r,L=>(match ops[z]? with
   | some o=>o.guard.isNone
   | none=>false) && Region.ready .any ops L == [z] && goodT ops r (L.setIfInBounds z true)
def good (ops:Array Oper) (zs:List Nat):List (Nat×Nat)->List Fl->Array Bool->Bool
 | [],F,L=>F.isEmpty && goodT ops zs L
 | (0,i) :: r,F,L =>
   (match ops[i]? with
    | some o=>light o.op && F.all (fun f=>o.dst != some f.slot && f.off o.dst) && allMasks F (fun d=>Region.free .any ops (marks L d) i && (Region.ready .any ops (marks L d)).contains i && okB ops zs i (marks L d))
    | none=>false) && good ops zs r F (L.setIfInBounds i true)
 | (1,i) :: r,F,L =>
   (match ops[i]? with
    | some o=>F.all (fun f=>o.dst != some f.slot && f.off o.dst) && allMasks F (fun d=>!(Region.ready .any ops (marks L d)).isEmpty && (Region.ready .any ops (marks L d)).all fun j=>j == i || F.any fun f=>f.idx == j && !d.contains j)
    | none=>false) && good ops zs r F (L.setIfInBounds i true)
 | (_,i) :: r,f :: F,L =>
   (ops[i]?).isSome && allMasks (f :: F) (fun d=>d.contains f.idx || (!(Region.ready .any ops (marks L d)).isEmpty && (Region.ready .any ops (marks L d)).all fun j=>(f :: F).any fun g=>g.idx == j && !d.contains j)) && good ops zs r F (L.setIfInBounds f.idx true)
 | (_,_) :: _,[],_=>false
def wpT (P:Program) (Q:Exit->Act->World->Prop):List Oper->Act->World->Prop
 | [],a,w=>Q .normal a w
 | o :: r,a,w=>o.wp P a w (fun a' w'=>wpT P Q r a' w') Q
def wpSg (P:Program) (ops:Array Oper) (C:World->Prop) (Q:Exit->Act->World->Prop) (tl:List Oper) (n0:Nat):List (Nat×Oper)->List Fl->List (Nat×Nat)->List Nat->Act->World->Prop
 | [],_,_,_,a,w=>∀ w',Below w.heap.size w w'->C w'->wpT P Q tl a w'
 | (0,o) :: r,F,H,L,a,w=>∀ x,wpQuiet P ops C (fun a'=>wpSg P ops C Q tl n0 r F H L a' w) [o] (fill F x a)
 | (1,o) :: r,F,H,L,a,w=>∀ x w',Below w.heap.size w w'->C w'->Region.wanted o (yielded ops (fill F x a).tmps)=true /\
     o.wp P (fill F x a) w' (fun a'' w''=>C w''/\w'.heap.size<=w''.heap.size/\(F = []\/∀ g,n0<=g->g < w'.heap.size->(∀ p∈H,g < p.1\/p.2<=g)->g ∉ L->w''.heap[g]? = w'.heap[g]?)/\wpSg P ops C Q tl n0 r F ((w'.heap.size,w''.heap.size) :: H) L a'' w'') Q
 | (_,_) :: r,F,H,L,a,w=>match F with
   | []=>False
   | f :: F=>∀ g w',Below w.heap.size w w'->C w'->w'.heap[g]? = some (.cells f.cs f.ty (0,0))->n0<=g->(∀ p∈H,g < p.1\/p.2<=g)->g ∉ L->wpSg P ops C Q tl n0 r F H (g :: L) (a.put (some f.slot) (sln f.n g)) w'
def picks (l:List Oper):List (Nat×Nat)->List (Nat×Oper)
 | []=>[]
 | (k,i) :: r=>match l[i]? with
   | some o=>(k,o) :: picks l r
   | none=>picks l r
structure Inv (F:List Fl) (m:Nat->Bool) (x:Nat->Value) (a:Act) (n0:Nat) (H:List (Nat×Nat)) (L:List Nat) (w:World):Prop where
 ne:∀ f∈F,∀ g∈F,some f.slot≠g.sv.map (·.1)
 src:∀ f∈F,f.at a
 old:∀ f∈F,m f.idx=false->x f.slot=a.tmps.getD f.slot undef
 new:∀ f∈F,m f.idx=true->∃ g,x f.slot=sln f.n g/\w.heap[g]? = some (.cells f.cs f.ty (0,0))/\n0<=g/\(∀ p∈H,g < p.1\/p.2<=g)/\g ∉ L
 apart:∀ f∈F,∀ f'∈F,f.slot≠f'.slot->m f.idx=true->m f'.idx=true->∀ b b':Nat,x f.slot=sln f.n b->x f'.slot=sln f'.n b'->b≠b'
 past:∀ p∈H,p.2<=w.heap.size
 met:∀ g∈L,g < w.heap.size
theorem getD_put (a:Act) (dst:Option Nat) (v:Value) (s:Nat) (h:dst≠some s):(a.put dst v).tmps.getD s undef=a.tmps.getD s undef:=by
 cases dst with
 | none=>rfl
 | some d =>
   have hd:d≠s:=fun e=>h (by rw [e]);simp only [Act.put,bJ,aP,ah hd]
theorem fill_idem (x:Nat->Value):∀ (F:List Fl) (a:Act),fill F x (fill F x a)=fill F x a
 | [],_=>rfl
 | f :: r,a=>by
   show fill r x ((fill r x (a.put (some f.slot) (x f.slot))).put (some f.slot) (x f.slot))=fill r x (a.put (some f.slot) (x f.slot))
   have e:∀ (r:List Fl) (b:Act),(fill r x (b.put (some f.slot) (x f.slot))).put (some f.slot) (x f.slot)=fill r x (b.put (some f.slot) (x f.slot)):=by
    intro r
    induction r with
    | nil=>intro b;exact put_put b _ _ _
    | cons g r ih =>
      intro b
      show (fill r x ((b.put (some f.slot) (x f.slot)).put (some g.slot) (x g.slot))).put (some f.slot) (x f.slot)=fill r x ((b.put (some f.slot) (x f.slot)).put (some g.slot) (x g.slot))
      by_cases h:f.slot=g.slot
      ·rw [← h,put_put];exact ih b
      ·rw [put_comm b h,ih]
   rw [e];exact fill_idem x r _
def withD (a:Act) (ds:List Deferred):Act:={ a with defers:=ds }
theorem fill_D (x:Nat->Value) (ds:List Deferred):∀ (F:List Fl) (a:Act),withD (fill F x a) ds=fill F x (withD a ds)
 | [],_=>rfl
 | f :: r,a=>by
   show withD (fill r x (a.put (some f.slot) (x f.slot))) ds=fill r x ((withD a ds).put (some f.slot) (x f.slot))
   rw [fill_D x ds r]
   rfl
theorem getD_fill (x:Nat->Value) (s:Nat):∀ (F:List Fl) (a:Act),(∀ f∈F,f.slot=s->x s=a.tmps.getD s undef)->(fill F x a).tmps.getD s undef=a.tmps.getD s undef
 | [],_,_=>rfl
 | f :: r,a,h=>by
   have e:(a.put (some f.slot) (x f.slot)).tmps.getD s undef=a.tmps.getD s undef:=by
    by_cases hs:f.slot=s
    ·subst hs
     have:=h f (aO ..) rfl;simp only [Act.put,bJ,aP] at *
     by_cases hl:f.slot < a.tmps.size
     ·simp [hl] at *;exact this
     ·simp [hl]
    ·exact getD_put a _ _ s (fun k=>hs (bh k))
   show (fill r x (a.put (some f.slot) (x f.slot))).tmps.getD s undef=_
   rw [getD_fill x s r _ fun g hg k=>by rw [e];exact h g (aJ _ hg) k,e]
theorem wp_put {K:Act->World->Prop} (h:o.wp P a w K Q):o.wp P a w (fun a' w'=>(∃ ds v,a'=(withD a ds).put o.dst v)/\K a' w') Q:=by
 unfold Oper.wp at *
 cases hr:(execOp a.eval o).run P w with
 | halt y w1=>rw [hr] at h;cases y <;> exact h
 | ok nx w1 =>
   rw [hr] at h
   cases nx with
   | value v=>exact ⟨⟨a.defers,v,rfl⟩,h⟩
   | skip=>exact ⟨⟨a.defers,undef,rfl⟩,h⟩
   | defer d=>exact ⟨⟨d :: a.defers,undef,rfl⟩,h⟩
   | enter f args =>
     refine Calls.mono h fun e w'' k=>?_
     cases e with
     | returned v=>exact ⟨⟨a.defers,v,rfl⟩,k⟩
     | panicked c=>exact k
     | outgrown=>exact k
   | row r args=>exact Rows.mono h fun v w'' k=>⟨⟨a.defers,v,rfl⟩,k⟩
   | _=>exact h
def left:List Fl->(Nat->Bool)->Nat
 | [],_=>0
 | f :: r,m=>left r m+(if m f.idx then 0 else 1)
theorem on_le (m:Nat->Bool) (j k:Nat):(if on m j k then 0 else 1)<=(if m k then 0 else 1):=by
 unfold on
 cases (k == j) <;> cases m k <;> simp
theorem left_mono (m:Nat->Bool) (j:Nat):∀ r:List Fl,left r (on m j)<=left r m
 | []=>ac _
 | g :: r=>Nat.add_le_add (left_mono m j r) (on_le m j g.idx)
theorem left_on:∀ (F:List Fl) (m:Nat->Bool) (f:Fl),f∈F->m f.idx=false->left F (on m f.idx)+1<=left F m
 | g :: r,m,f,hf,hm=>by
   have a:=left_mono m f.idx r;have b:=on_le m f.idx g.idx;unfold left
   rcases aN.1 hf with e | k
   ·subst e
    have:on m f.idx f.idx=true:=by simp [on]
    rw [this,hm]
    simp
    exact a
   ·have ih:=left_on r m f k hm
    omega
theorem nodup_same:∀ {F:List Fl},(F.map (·.slot)).Nodup->∀ f∈F,∀ g∈F,g.slot=f.slot->g=f
 | [],_,f,hf,_,_,_=>by cases hf
 | b :: r,hn,f,hf,g,hg,e=>by
   rw [dg,List.nodup_cons] at hn
   rcases aN.1 hg with h1 | hg'
   ·rcases aN.1 hf with h2 | hf'
    ·rw [h1,h2]
    ·exact absurd (bE.2 ⟨f,hf',by rw [← e,h1]⟩) hn.1
   ·rcases aN.1 hf with h2 | hf'
    ·exact absurd (bE.2 ⟨g,hg',by rw [e,h2]⟩) hn.1
    ·exact nodup_same hn.2 f hf' g hg' e
section
variable {P:Program} {l:List Oper} {C:World->Prop} {Q:Exit->Act->World->Prop} {n0:Nat} {zs:List Nat} {tl:List Oper}
def FlOk (P:Program) (l:List Oper) (f:Fl):Prop:=∃ o,l.toArray[f.idx]? = some o/\o.dst=some f.slot/\o.guard=none/\∀ (a:Act) w,f.at a->(execOp a.eval o).run P w = .ok (.value (sln f.n w.heap.size)) (w.alloc (.cells f.cs f.ty))
variable {F:List Fl} {m:Nat->Bool} {x:Nat->Value} {H sc:List (Nat×Nat)} {L:List Nat}
theorem Inv.step (h:Inv F m x a n0 H L w) (hn:(F.map (·.slot)).Nodup) (hi:∀ f∈F,∀ f'∈F,f.idx=f'.idx->f.slot=f'.slot) (h0:n0<=w.heap.size) (f:Fl) (hf:f∈F) (hm:m f.idx=false) :
 Inv F (on m f.idx) (upd x f.slot (sln f.n w.heap.size)) a n0 H L (w.alloc (.cells f.cs f.ty)):=by
 have same:=nodup_same hn f hf;have on_:∀ g∈F,g.slot≠f.slot->on m f.idx g.idx=m g.idx:=fun g hg hne=>by
  have hb:(g.idx == f.idx)=false:=by simpa using fun e=>hne (hi g hg f hf e)
  simp [on,hb]
 have onf:on m f.idx f.idx=true:=by simp [on]
 refine ⟨h.ne,h.src,fun g hg hmg=>?_,fun g hg hmg=>?_,fun g hg g' hg' hne hmg hmg'=>?_,fun p hp=>?_,fun g hg=>?_⟩
 ·by_cases e:g.slot=f.slot
  ·rw [same g hg e,onf] at hmg;cases hmg
  ·rw [on_ g hg e] at hmg
   simp only [upd,ah e];exact h.old g hg hmg
 ·by_cases e:g.slot=f.slot
  ·obtain rfl:=same g hg e
   exact ⟨w.heap.size,by simp [upd],am w _,h0,fun p hp=>.inr (h.past p hp),fun hl=>by have:=h.met _ hl;omega⟩
  ·rw [on_ g hg e] at hmg
   obtain ⟨b,h1,h2,h3⟩:=h.new g hg hmg;exact ⟨b,by simp only [upd,ah e];exact h1,(aQ w _ b (ay h2)).trans h2,h3⟩
 ·by_cases e:g.slot=f.slot
  ·have e':g'.slot≠f.slot:=fun k=>hne (e.trans k.symm)
   rw [on_ g' hg' e'] at hmg';obtain ⟨b,h1,h2,_⟩:=h.new g' hg' hmg';have:=ay h2;simp only [upd,aj e,ah e',h1]
   intro c c' k k' q
   have:=sln_inj k;have:=sln_inj k'
   omega
  ·by_cases e':g'.slot=f.slot
   ·rw [on_ g hg e] at hmg
    obtain ⟨b,h1,h2,_⟩:=h.new g hg hmg;have:=ay h2;simp only [upd,ah e,aj e',h1]
    intro c c' k k' q
    have:=sln_inj k;have:=sln_inj k'
    omega
   ·rw [on_ g hg e] at hmg
    rw [on_ g' hg' e'] at hmg';simp only [upd,ah e,ah e'];exact h.apart g hg g' hg' hne hmg hmg'
 ·have:=h.past p hp
  simp
  omega
 ·have:=h.met g hg
  simp
  omega
def cnt (k:Nat):List (Nat×Nat)->Nat
 | []=>k
 | (0,_) :: r=>cnt k r+1
 | (1,_) :: r=>cnt k r+1
 | (_+2,_) :: r=>cnt k r
def picksL (l:List Oper):List Nat->List Oper
 | []=>[]
 | i :: r=>match l[i]? with
   | some o=>o :: picksL l r
   | none=>picksL l r
theorem tail {P:Program} {l:List Oper} {C:World->Prop} {Q:Exit->Act->World->Prop} {zs:List Nat} : ∀ (ys:List Nat) (listed:Array Bool) (fuel:Nat) (a:Act) (w:World),(∀ z∈ys,z∈zs)->ys.length<=fuel->goodT l.toArray ys listed=true->wpT P Q (picksL l ys) a w->wpAnyE P .any l.toArray Q C zs fuel listed a w
 | [],listed,fuel,a,w,_,_,hg,h=>by
   unfold goodT at hg;exact fin (by simpa using hg) h fuel
 | z :: r,listed,0,a,w,_,hl,_,_=>by simp at hl
 | z :: r,listed,fuel+1,a,w,hs,hl,hg,h=>by
   unfold goodT at hg;simp only [aG,beq_iff_eq] at hg;obtain ⟨⟨hg1,hr⟩,hg2⟩:=hg;have hll:l.toArray[z]? = l[z]?:=by rw [cy]
   cases ho:l[z]? with
   | none=>rw [hll,ho] at hg1;cases hg1
   | some o =>
     rw [hll,ho] at hg1;have hgd:o.guard=none:=by simpa using hg1
     have hop:=hll.trans ho;rw [picksL,ho] at h;refine all hr (by simp) fun j hj=>?_;obtain rfl:j=z:=by simpa using hj
     unfold wpOp;simp only [hop];rw [aj (by simp [Region.wanted,hgd])];exact .inl (Oper.wp_mono (fun a' w' k=>⟨.inl (hs j (aO ..)),tail r _ fuel a' w' (fun z hz=>hs z (aJ _ hz)) (by simp at hl;omega) hg2 k⟩) h)
def Holds (P:Program) (l:List Oper) (C:World->Prop) (Q:Exit->Act->World->Prop) (zs:List Nat) (n0:Nat) (n:Nat):Prop :=
 ∀ (sc:List (Nat×Nat)) (F:List Fl) (H:List (Nat×Nat)) (L:List Nat) (listed:Array Bool) (fuel:Nat) (a:Act) (w:World) (m:Nat->Bool) (x:Nat->Value) (w':World),
  2 * fuel+sc.length<=n->good l.toArray zs sc F listed=true->(∀ f∈F,FlOk P l f)->(F.map (·.slot)).Nodup->(∀ f∈F,∀ f'∈F,f.idx=f'.idx->f.slot=f'.slot)->Inv F m x a n0 H L w'->Below w.heap.size w w'->C w' ->
  cnt zs.length sc+left F m<=fuel->wpSg P l.toArray C Q (picksL l zs) n0 (picks l sc) F H L a w->wpAnyE P .any l.toArray Q C zs fuel (marks listed (doneOf F m)) (fill F x a) w'
theorem wanted_none {y:Nat->Option Bool} (h:o.guard=none):Region.wanted o y=true:=by simp [Region.wanted,h]
variable {n id:Nat}
theorem float (ih:Holds P l C Q zs n0 n) (hC:∀ w,C w->n0<=w.heap.size) (hA:∀ w o,C w->C (w.alloc o)) {w':World}
 (hn:2 * (fuel+1)+sc.length<=n+1) (hg:good l.toArray zs sc F listed=true) (hF:∀ f∈F,FlOk P l f) (hs:(F.map (·.slot)).Nodup) (hi:∀ f∈F,∀ f'∈F,f.idx=f'.idx->f.slot=f'.slot) (hI:Inv F m x a n0 H L w') (hb:Below w.heap.size w w') (hc:C w')
 (hf:cnt zs.length sc+left F m<=fuel+1) (h:wpSg P l.toArray C Q (picksL l zs) n0 (picks l sc) F H L a w) (f:Fl) (hff:f∈F) (hm:m f.idx=false) :
 wpOp P l.toArray Q f.idx (fun a' w'=>(f.idx∈zs\/lst zs (marks listed (doneOf F m))=true\/C w')/\wpAnyE P .any l.toArray Q C zs fuel ((marks listed (doneOf F m)).setIfInBounds f.idx true) a' w') (fill F x a) w':=by
 obtain ⟨o,ho,hd,hgd,hrun⟩:=hF f hff;unfold wpOp;simp only [ho,wanted_none hgd,if_true];refine .inl ?_;unfold Oper.wp;rw [hrun _ _ (fun s u e=>by rw [getD_fill x s F a fun g hg k=>absurd k (ne_of (hI.ne g hg f hff) e)];exact hI.src f hff s u e)];rw [Oper.upon_value,hd,fill_set x f.slot _ F a hs ⟨f,hff,rfl⟩,marks_on listed F m f hff];have lo:=left_on F m f hff hm;exact ⟨.inr (.inr (hA _ _ hc)),ih sc F H L listed fuel a w _ _ _ (by omega) hg hF hs hi (hI.step hs hi (hC _ hc) f hff hm) (hb.trans ((aa _ _).alloc hb.size _)) (hA _ _ hc) (by omega) h⟩
theorem holds (hsel:Region.noSelect l.toArray=true) (hQ:∀ c d v a w,Q (.panic c) (Act.put a d v) w->Q (.panic c) a w) (hC:∀ w,C w->n0<=w.heap.size) (hA:∀ w o,C w->C (w.alloc o)):∀ n,Holds P l C Q zs n0 n:=by
 intro n
 induction n with
 | zero =>
   intro sc F H L listed fuel a w m x w' hn hg hF hs hi hI hb hc hf h
   have e:sc = []:=bt.1 (by omega);subst e;unfold good at hg;simp only [aG,List.isEmpty_iff] at hg;obtain ⟨rfl,hr⟩:=hg;exact tail zs listed fuel _ _ (fun _ h=>h) (by simp only [cnt] at hf;omega) hr (h w' hb hc)
 | succ n ih =>
   intro sc F H L listed fuel a w m x w' hn hg hF hs hi hI hb hc hf h
   match sc,hg,h,hn,hf with
   | [],hg,h,_,hf =>
     unfold good at hg;simp only [aG,List.isEmpty_iff] at hg;obtain ⟨rfl,hr⟩:=hg;exact tail zs listed fuel _ _ (fun _ h=>h) (by simp only [cnt] at hf;omega) hr (h w' hb hc)
   | (0,i) :: r,hg,h,hn,hf =>
     have hg':(_ && good l.toArray zs r F (listed.setIfInBounds i true))=true:=hg;rw [aG] at hg';obtain ⟨hg1,hg2⟩:=hg'
     cases ho:l[i]? with
     | none=>simp [ho] at hg1
     | some o =>
       have hop:l.toArray[i]? = some o:=by simp [ho]
       rw [hop] at hg1;simp only [aG,bQ] at hg1;obtain ⟨⟨hl,hds⟩,hm⟩:=hg1;have hds':∀ f∈F,o.dst≠some f.slot:=fun f hf=>by have:=hds f hf;simp at this;simpa using this.1
       have hdr:=fun f hf=>off_spec (hds f hf).2;have hm':=allMasks_spec F _ hm m;simp only [aG] at hm';rw [picks,ho] at h;obtain ⟨fuel,rfl⟩:∃ k,fuel=k+1:=⟨fuel - 1,by simp only [cnt] at hf;omega⟩;have q:=h x;unfold wpQuiet at q;have next:∀ v',wpSg P l.toArray C Q (picksL l zs) n0 (picks l r) F H L ((fill F x a).put o.dst v') w->wpAnyE P .any l.toArray Q C zs fuel ((marks listed (doneOf F m)).setIfInBounds i true) ((fill F x a).put o.dst v') w':=fun v' hnx=>by
        have k:=ih r F H L (listed.setIfInBounds i true) fuel ((fill F x a).put o.dst v') w m x w' (by simp at hn;omega) hg2 hF hs hi ⟨hI.ne,fun f hff s u e=>by rw [getD_put _ o.dst v' s (hdr f hff s u e),getD_fill x s F a fun g hg k=>absurd k (ne_of (hI.ne g hg f hff) e)];exact hI.src f hff s u e,fun f hff hmf=>?_,hI.new,hI.apart,hI.past,hI.met⟩ hb hc (by simp only [cnt] at hf;omega) hnx
        ·rw [fill_put x o.dst v' F a hds',fill_idem,← marks_set] at k
         rw [fill_put x o.dst v' F a hds'];exact k
        ·rw [getD_put _ o.dst v' f.slot (hds' f hff),getD_fill x f.slot F a fun g hg e=>by rw [← e];obtain rfl:=nodup_same hs f hff g hg e;exact hI.old g hg hmf]
         exact hI.old f hff hmf
       by_cases hw:Region.wanted o (yielded l.toArray (fill F x a).tmps)=true
       ·rw [aj hw] at q
        obtain ⟨v',hv',e⟩:=q;refine take (v:=v') hm'.2 hop hsel hm'.1.1 hm'.1.2 (fun c a w=>hQ c _ _ a w) (.inl ⟨hw,fun w2 hw2=>?_⟩) hc (next v' e);have q2:=hv' w2 hw2;unfold Oper.quietAt at q2
        cases e2:(execOp (fill F x a).eval o).run P w2 with
        | halt y w1=>rw [e2] at q2;cases q2
        | ok nx w1 =>
          obtain ⟨u,rfl⟩:=light_value hl e2;rw [e2] at q2;obtain ⟨e3,e4⟩:=q2;rw [e3,e4]
       ·rw [ah hw] at q
        exact take (v:=undef) hm'.2 hop hsel hm'.1.1 hm'.1.2 (fun c a w=>hQ c _ _ a w) (.inr ⟨by simpa using hw,rfl⟩) hc (next undef q)
   | (1,i) :: r,hg,h,hn,hf =>
     have hg0:=hg;have h0:=h;have hg':(_ && good l.toArray zs r F (listed.setIfInBounds i true))=true:=hg;rw [aG] at hg';obtain ⟨hg1,hg2⟩:=hg'
     cases ho:l[i]? with
     | none=>simp [ho] at hg1
     | some o =>
       have hop:l.toArray[i]? = some o:=by simp [ho]
       rw [hop] at hg1;simp only [aG,bQ] at hg1;obtain ⟨hds,hm⟩:=hg1;have hds':∀ f∈F,o.dst≠some f.slot:=fun f hf=>by have:=hds f hf;simp at this;simpa using this.1
       have hdr:=fun f hf=>off_spec (hds f hf).2;have hm':=allMasks_spec F _ hm m;simp only [aG,bQ] at hm';rw [picks,ho] at h;obtain ⟨hw,hwp⟩:=h x w' hb hc;obtain ⟨fuel,rfl⟩:∃ k,fuel=k+1:=⟨fuel - 1,by simp only [cnt] at hf;omega⟩;refine all rfl (fun e=>by rw [e] at hm';simp at hm') fun j hj=>?_;have hj':=hm'.2 j hj;rw [Bool.or_eq_true] at hj'
       rcases hj' with e | hfl
       ·obtain rfl:j=i:=by simpa using e
        unfold wpOp;simp only [hop,hw,if_true];refine .inl (Oper.wp_mono (fun a'' w'' hh=>?_) (wp_put hwp));obtain ⟨⟨ds,v,rfl⟩,c2,hsz,hbel,hT⟩:=hh;refine ⟨.inr (.inr c2),?_⟩;have k:=ih r F _ L (listed.setIfInBounds j true) fuel ((withD (fill F x a) ds).put o.dst v) w'' m x w'' (by simp at hn;omega) hg2 hF hs hi ⟨hI.ne,fun f hff s u e=>by rw [fill_D,getD_put _ o.dst v s (hdr f hff s u e),getD_fill x s F _ fun g hg k=>absurd k (ne_of (hI.ne g hg f hff) e)];exact hI.src f hff s u e,fun f hff hmf=>?_,fun f hff hmf=>?_,hI.apart,fun p hp=>?_,fun g hg=>aV (hI.met g hg) hsz⟩ (aa _ _) c2 (by simp only [cnt] at hf;omega) hT
        ·rw [fill_D,fill_put x o.dst v F _ hds',fill_idem,← marks_set] at k
         rw [fill_D,fill_put x o.dst v F _ hds'];exact k
        ·rw [fill_D,getD_put _ o.dst v f.slot (hds' f hff),getD_fill x f.slot F _ fun g hg e=>by rw [← e];obtain rfl:=nodup_same hs f hff g hg e;exact hI.old g hg hmf]
         exact hI.old f hff hmf
        ·obtain ⟨g,g1,g2,g3,g4,g5⟩:=hI.new f hff hmf
         refine ⟨g,g1,((hbel.resolve_left fun e=>by rw [e] at hff;cases hff) g g3 (ay g2) g4 g5).trans g2,g3,fun p hp=>?_,g5⟩
         rcases aN.1 hp with rfl | hp
         ·exact .inl (ay g2)
         ·exact g4 p hp
        ·rcases aN.1 hp with rfl | hp
         ·exact ac _
         ·exact aX (hI.past p hp) hsz
       ·obtain ⟨f,hff,he⟩:=bP.1 hfl
        rw [aG] at he;obtain rfl:f.idx=j:=by simpa using he.1
        have hmf:m f.idx=false:=by
         have hd:f.idx ∉ doneOf F m:=by simpa using he.2
         rw [mem_done] at hd
         cases hmm:m f.idx with
         | false=>rfl
         | true=>exact absurd ⟨hmm,f,hff,rfl⟩ hd
        exact float ih hC hA hn hg0 hF hs hi hI hb hc hf h0 f hff hmf
   | (k+2,i) :: r,hg,h,hn,hf =>
     have hg0:=hg;have h0:=h
     match F,hg,h,hF,hs,hi,hI,hf,hg0,h0 with
     | [],hg,h,_,_,_,_,_,_,_=>simp [good] at hg
     | f :: F,hg,h,hF,hs,hi,hI,hf,hg0,h0 =>
       have hg':((l.toArray[i]?).isSome && allMasks (f :: F) _ && good l.toArray zs r F (listed.setIfInBounds f.idx true))=true:=hg;rw [aG,aG] at hg';obtain ⟨⟨hio,hm⟩,hg2⟩:=hg';have hm':=allMasks_spec (f :: F) _ hm m
       cases hmm:m f.idx with
       | true =>
         obtain ⟨g,g1,g2,g3,g4,g5⟩:=hI.new f (aO ..) hmm;have hp:∀ {o:Oper},wpSg P l.toArray C Q (picksL l zs) n0 ((k+2,o) :: picks l r) (f :: F) H L a w->wpSg P l.toArray C Q (picksL l zs) n0 (picks l r) F H (g :: L) (a.put (some f.slot) (sln f.n g)) w':=fun h=>h g w' hb hc g2 g3 g4 g5;have hT:wpSg P l.toArray C Q (picksL l zs) n0 (picks l r) F H (g :: L) (a.put (some f.slot) (sln f.n g)) w':=by
          cases ho:l[i]? with
          | none=>simp [ho] at hio
          | some o =>
            rw [picks,ho] at h;exact hp h
         have hd:doneOf (f :: F) m=f.idx :: doneOf F m:=by unfold doneOf;rw [List.filter_cons,aj hmm];rfl
         rw [hd]
         show wpAnyE P .any l.toArray Q C zs fuel (marks (listed.setIfInBounds f.idx true) (doneOf F m)) (fill F x (a.put (some f.slot) (x f.slot))) w'
         rw [g1];rw [dg,List.nodup_cons] at hs;have hne:∀ f'∈F,f.slot≠f'.slot:=fun f' h' e=>hs.1 (bE.2 ⟨f',h',e.symm⟩);refine ih r F H (g :: L) _ fuel _ w' m x w' (by simp at hn;omega) hg2 (fun f' h'=>hF f' (aJ _ h')) hs.2 (fun a ha b hb=>hi a (aJ _ ha) b (aJ _ hb)) ⟨fun a ha b hb=>hI.ne a (aJ _ ha) b (aJ _ hb),fun f' h' s u e=>by rw [getD_put a _ _ s (fun k=>ne_of (hI.ne f (aO ..) f' (aJ _ h')) e (bh k))];exact hI.src f' (aJ _ h') s u e,fun f' h' hmf=>?_,fun f' h' hmf=>?_,fun f' h' f'' h''=>hI.apart f' (aJ _ h') f'' (aJ _ h''),hI.past,fun b hb=>?_⟩ (aa _ _) hc ?_ hT
         ·rw [getD_put a _ _ f'.slot (fun e=>hne f' h' (bh e))]
          exact hI.old f' (aJ _ h') hmf
         ·obtain ⟨b,b1,b2,b3,b4,b5⟩:=hI.new f' (aJ _ h') hmf
          refine ⟨b,b1,b2,b3,b4,fun hl=>?_⟩
          rcases aN.1 hl with e | hl
          ·exact hI.apart f' (aJ _ h') f (aO ..) (fun e=>hne f' h' e.symm) hmf hmm b g b1 g1 e
          ·exact b5 hl
         ·rcases aN.1 hb with rfl | hb
          ·exact ay g2
          ·exact hI.met b hb
         ·simp only [cnt,left,hmm] at hf
          simpa using hf
       | false =>
         have hd:(doneOf (f :: F) m).contains f.idx=false:=by
          have:f.idx ∉ doneOf (f :: F) m:=fun h=>by rw [mem_done,hmm] at h;simp at h
          simpa using this
         rw [hd,Bool.false_or] at hm';simp only [aG,bQ] at hm';have lf:=left_on (f :: F) m f (aO ..) hmm;obtain ⟨fuel,rfl⟩:∃ k,fuel=k+1:=⟨fuel - 1,by omega⟩;refine all rfl (fun e=>by rw [e] at hm';simp at hm') fun j hj=>?_;obtain ⟨f',hff,he⟩:=bP.1 (hm'.2 j hj);rw [aG] at he;obtain rfl:f'.idx=j:=by simpa using he.1
         have hmf:m f'.idx=false:=by
          have hd:f'.idx ∉ doneOf (f :: F) m:=by simpa using he.2
          rw [mem_done] at hd
          cases hmm:m f'.idx with
          | false=>rfl
          | true=>exact absurd ⟨hmm,f',hff,rfl⟩ hd
         exact float ih hC hA hn hg0 hF hs hi hI hb hc hf h0 f' hff hmf
theorem fill_self (a:Act):∀ F:List Fl,fill F (fun s=>a.tmps.getD s undef) a=a
 | []=>rfl
 | f :: r=>by
   have e:a.put (some f.slot) (a.tmps.getD f.slot undef)=a:=by
    simp only [Act.put];have:a.tmps.setIfInBounds f.slot (a.tmps.getD f.slot undef)=a.tmps:=by
     refine Array.ext_getElem? fun k=>?_;rw [aP]
     by_cases hk:f.slot=k
     ·subst hk
      by_cases hl:f.slot < a.tmps.size
      ·simp [hl]
      ·simp [hl]
     ·simp [hk]
    rw [this]
   show fill r (fun s=>a.tmps.getD s undef) (a.put (some f.slot) (a.tmps.getD f.slot undef))=a
   rw [e];exact fill_self a r
theorem left_all:∀ F:List Fl,left F (fun _=>false)=F.length
 | []=>rfl
 | f :: r=>by show left r _+1=r.length+1;rw [left_all r]
def goodL (ops:Array Oper) (zs:List Nat):List Nat->Array Bool->Bool
 | [],_=>true
 | i :: r,L=>(match ops[i]? with
   | some o=>light o.op && Region.free .any ops L i && (Region.ready .any ops L).contains i && okB ops zs i L
   | none=>false) && goodL ops zs r (L.setIfInBounds i true)
def wpL (P:Program) (ops:Array Oper) (C:World->Prop) (K:Act->Prop):List Oper->Act->Prop
 | [],a=>K a
 | o :: r,a=>wpQuiet P ops C (fun a'=>wpL P ops C K r a') [o] a
theorem lights {P:Program} {l:List Oper} {C:World->Prop} {Q:Exit->Act->World->Prop} {w:World} {K:Act->Prop} {zs:List Nat} {fuel:Nat} (hs:Region.noSelect l.toArray=true) (hQ:∀ c d v a w,Q (.panic c) (Act.put a d v) w->Q (.panic c) a w) (hC:C w) :
 ∀ (sc:List Nat) (listed:Array Bool) (a:Act),goodL l.toArray zs sc listed=true->(∀ a',K a'->wpAnyE P .any l.toArray Q C zs fuel (marks listed sc) a' w)->wpL P l.toArray C K (picksL l sc) a->wpAnyE P .any l.toArray Q C zs (fuel+sc.length) listed a w
 | [],listed,a,_,hk,h=>hk a h
 | i :: r,listed,a,hg,hk,h=>by
   unfold goodL at hg;rw [aG] at hg;obtain ⟨hg1,hg2⟩:=hg;have hll:l.toArray[i]? = l[i]?:=by rw [cy]
   cases ho:l[i]? with
   | none=>rw [hll,ho] at hg1;cases hg1
   | some o =>
     rw [hll,ho] at hg1;have hop:=hll.trans ho;have hp:picksL l (i :: r)=o :: picksL l r:=by rw [picksL,ho]
     rw [hp] at h;simp only [aG] at hg1;obtain ⟨⟨⟨hl,hf⟩,hr⟩,hbk⟩:=hg1;unfold wpL at h
     show wpAnyE P .any l.toArray Q C zs ((fuel+r.length)+1) listed a w
     by_cases hw:Region.wanted o (yielded l.toArray a.tmps)=true
     ·unfold wpQuiet at h
      rw [aj hw] at h;obtain ⟨v,hv,hn⟩:=h;refine take (v:=v) hbk hop hs hf hr (fun c a w=>hQ c _ _ a w) (.inl ⟨hw,fun w' hw'=>?_⟩) hC (lights hs hQ hC r _ _ hg2 hk hn);have q:=hv w' hw';unfold Oper.quietAt at q
      cases e:(execOp a.eval o).run P w' with
      | halt x w1=>rw [e] at q;cases q
      | ok n w1 =>
        obtain ⟨u,rfl⟩:=light_value hl e;rw [e] at q;obtain ⟨e1,e2⟩:=q;rw [e1,e2]
     ·unfold wpQuiet at h
      rw [ah hw] at h;exact take (v:=undef) hbk hop hs hf hr (fun c a w=>hQ c _ _ a w) (.inr ⟨by simpa using hw,rfl⟩) hC (lights hs hQ hC r _ _ hg2 hk h)
def goodU (ops:Array Oper) (zs:List Nat):List Nat->Array Bool->Bool
 | [],_=>true
 | i :: r,L=>(match ops[i]? with
   | some o=>light o.op && Region.free .any ops L i && (Region.ready .any ops L).contains i && !zs.contains i
   | none=>false) && goodU ops zs r (L.setIfInBounds i true)
theorem lightsU {P:Program} {l:List Oper} {C:World->Prop} {Q:Exit->Act->World->Prop} {w:World} {K:Act->Prop} {zs:List Nat} {fuel:Nat} (hs:Region.noSelect l.toArray=true) (hQ:∀ c d v a w,Q (.panic c) (Act.put a d v) w->Q (.panic c) a w) (hC:C w) :
 ∀ (sc:List Nat) (listed:Array Bool) (a:Act),goodU l.toArray zs sc listed=true->(∀ a',K a'->wpAnyE P .any l.toArray Q C zs fuel (marks listed sc) a' w)->wpL P l.toArray (fun w'=>∃ p:In (fun _=>True),w'=p.world) K (picksL l sc) a->wpAnyE P .any l.toArray Q C zs (fuel+sc.length) listed a w
 | [],listed,a,_,hk,h=>hk a h
 | i :: r,listed,a,hg,hk,h=>by
   unfold goodU at hg;rw [aG] at hg;obtain ⟨hg1,hg2⟩:=hg;have hll:l.toArray[i]? = l[i]?:=by rw [cy]
   cases ho:l[i]? with
   | none=>rw [hll,ho] at hg1;cases hg1
   | some o =>
     rw [hll,ho] at hg1;have hop:=hll.trans ho;have hp:picksL l (i :: r)=o :: picksL l r:=by rw [picksL,ho]
     rw [hp] at h;simp only [aG] at hg1;obtain ⟨⟨⟨hl,hf⟩,hr⟩,hbk⟩:=hg1;have hbk:zs.contains i=false:=by simpa using hbk
     unfold wpL at h
     show wpAnyE P .any l.toArray Q C zs ((fuel+r.length)+1) listed a w
     by_cases hw:Region.wanted o (yielded l.toArray a.tmps)=true
     ·unfold wpQuiet at h
      rw [aj hw] at h;obtain ⟨v,hv,hn⟩:=h;refine takeU (v:=v) hbk hop hs hf hr (fun c a w=>hQ c _ _ a w) (.inl ⟨hw,fun w' _=>?_⟩) hC (lightsU hs hQ hC r _ _ hg2 hk hn);have q:=hv w' ⟨⟨w',trivial⟩,rfl⟩;unfold Oper.quietAt at q
      cases e:(execOp a.eval o).run P w' with
      | halt x w1=>rw [e] at q;cases q
      | ok n w1 =>
        obtain ⟨u,rfl⟩:=light_value hl e;rw [e] at q;obtain ⟨e1,e2⟩:=q;rw [e1,e2]
     ·unfold wpQuiet at h
      rw [ah hw] at h;exact takeU (v:=undef) hbk hop hs hf hr (fun c a w=>hQ c _ _ a w) (.inr ⟨by simpa using hw,rfl⟩) hC (lightsU hs hQ hC r _ _ hg2 hk h)
theorem startV (C:World->Prop) (us ls vs:List Nat) (sc:List (Nat×Nat)) (zs:List Nat) (F:List Fl) (hm:P.follows .mixedOrders=true) (hs:Region.noSelect l.toArray=true) (hgu:goodU l.toArray zs us (Array.replicate l.toArray.size false)=true)
 (hgl:goodL l.toArray zs ls (marks (Array.replicate l.toArray.size false) us)=true) (hgv:goodU l.toArray zs vs (marks (marks (Array.replicate l.toArray.size false) us) ls)=true) (hg:good l.toArray zs sc F (marks (marks (marks (Array.replicate l.toArray.size false) us) ls) vs)=true) (hc:cnt zs.length sc+F.length+vs.length+ls.length+us.length=l.toArray.size) (hn:(F.map (·.slot)).Nodup) (hi:∀ f∈F,∀ f'∈F,f.idx=f'.idx->f.slot=f'.slot) (hx:∀ f∈F,∀ g∈F,some f.slot≠g.sv.map (·.1)) (hF:∀ f∈F,FlOk P l f)
 (h0:C w.drew) (hn0:∀ w',C w'->w.heap.size<=w'.heap.size) (hA:∀ w' o,C w'->C (w'.alloc o))
 (h:wpL P l.toArray (fun w'=>∃ p:In (fun _=>True),w'=p.world) (fun a0=>wpL P l.toArray (fun w'=>∃ p:In C,w'=p.world) (fun a1=>wpL P l.toArray (fun w'=>∃ p:In (fun _=>True),w'=p.world) (fun a'=>(∀ f∈F,f.at a')/\wpSg P l.toArray (fun w'=>∃ p:In C,w'=p.world) (NoPanic Q) (picksL l zs) w.heap.size (picks l sc) F [] [] a' w.drew) (picksL l vs) a1) (picksL l ls) a0) (picksL l us) a):(Code.region id l.toArray true).wp P Q a w :=
 wp_region_noPanic (wp_region_any hm (any_of (S:=fun w'=>∃ p:In C,w'=p.world) (zs:=zs) _ _ _ _ (by
  have hll:=lightsU (fuel:=cnt zs.length sc+F.length+vs.length+ls.length) (zs:=zs) (C:=fun w'=>∃ p:In C,w'=p.world) (Q:=NoPanic Q) hs (fun _ _ _ _ _ h=>h) (Cl.of h0) us _ a hgu (fun a0 ha0=>?_) h
  ·rw [hc] at hll
   exact hll
  refine lights (fuel:=cnt zs.length sc+F.length+vs.length) (zs:=zs) (C:=fun w'=>∃ p:In C,w'=p.world) (Q:=NoPanic Q) hs (fun _ _ _ _ _ h=>h) (Cl.of h0) ls _ a0 hgl (fun a1 ha1=>?_) ha0;refine lightsU (fuel:=cnt zs.length sc+F.length) (zs:=zs) (C:=fun w'=>∃ p:In C,w'=p.world) (Q:=NoPanic Q) hs (fun _ _ _ _ _ h=>h) (Cl.of h0) vs _ a1 hgv (fun a' ha=>?_) ha1;obtain ⟨hsrc,ha⟩:=ha;have hd:doneOf F (fun _=>false) = []:=by unfold doneOf;simp
  have k:=holds (P:=P) (l:=l) (C:=fun w'=>∃ p:In C,w'=p.world) (Q:=NoPanic Q) (zs:=zs) (n0:=w.heap.size) hs (fun _ _ _ _ _ h=>h) (fun w' h=>by obtain ⟨p,rfl⟩:=h;exact hn0 _ p.ok) (fun w' o h=>by obtain ⟨p,rfl⟩:=h;exact Cl.of (hA _ _ p.ok)) (2 * (cnt zs.length sc+F.length)+sc.length) sc F [] [] (marks (marks (marks (Array.replicate l.toArray.size false) us) ls) vs) (cnt zs.length sc+F.length) a' w.drew (fun _=>false) (fun s=>a'.tmps.getD s undef) w.drew
   (ac _) hg hF hn hi ⟨hx,hsrc,fun _ _ _=>rfl,fun _ _ h=>(by cases h),fun _ _ _ _ _ h=>(by cases h),fun _ hp=>(by cases hp),fun _ hg=>(by cases hg)⟩ (aa _ _) (Cl.of h0) (by rw [left_all];exact ac _) ha
  rw [hd,fill_self] at k
  exact k)))
theorem startU (C:World->Prop) (us ls:List Nat) (sc:List (Nat×Nat)) (zs:List Nat) (F:List Fl) (hm:P.follows .mixedOrders=true) (hs:Region.noSelect l.toArray=true) (hgu:goodU l.toArray zs us (Array.replicate l.toArray.size false)=true)
 (hgl:goodL l.toArray zs ls (marks (Array.replicate l.toArray.size false) us)=true) (hg:good l.toArray zs sc F (marks (marks (Array.replicate l.toArray.size false) us) ls)=true) (hc:cnt zs.length sc+F.length+ls.length+us.length=l.toArray.size) (hn:(F.map (·.slot)).Nodup) (hi:∀ f∈F,∀ f'∈F,f.idx=f'.idx->f.slot=f'.slot) (hx:∀ f∈F,∀ g∈F,some f.slot≠g.sv.map (·.1)) (hF:∀ f∈F,FlOk P l f)
 (h0:C w.drew) (hn0:∀ w',C w'->w.heap.size<=w'.heap.size) (hA:∀ w' o,C w'->C (w'.alloc o))
 (h:wpL P l.toArray (fun w'=>∃ p:In (fun _=>True),w'=p.world) (fun a0=>wpL P l.toArray (fun w'=>∃ p:In C,w'=p.world) (fun a'=>(∀ f∈F,f.at a')/\wpSg P l.toArray (fun w'=>∃ p:In C,w'=p.world) (NoPanic Q) (picksL l zs) w.heap.size (picks l sc) F [] [] a' w.drew) (picksL l ls) a0) (picksL l us) a):(Code.region id l.toArray true).wp P Q a w :=
 startV C us ls [] sc zs F hm hs hgu hgl rfl hg hc hn hi hx hF h0 hn0 hA h
theorem startT (C:World->Prop) (ls:List Nat) (sc:List (Nat×Nat)) (zs:List Nat) (F:List Fl) (hm:P.follows .mixedOrders=true) (hs:Region.noSelect l.toArray=true)
 (hgl:goodL l.toArray zs ls (Array.replicate l.toArray.size false)=true) (hg:good l.toArray zs sc F (marks (Array.replicate l.toArray.size false) ls)=true) (hc:cnt zs.length sc+F.length+ls.length=l.toArray.size) (hn:(F.map (·.slot)).Nodup) (hi:∀ f∈F,∀ f'∈F,f.idx=f'.idx->f.slot=f'.slot) (hx:∀ f∈F,∀ g∈F,some f.slot≠g.sv.map (·.1)) (hF:∀ f∈F,FlOk P l f)
 (h0:C w.drew) (hn0:∀ w',C w'->w.heap.size<=w'.heap.size) (hA:∀ w' o,C w'->C (w'.alloc o))
 (h:wpL P l.toArray (fun w'=>∃ p:In C,w'=p.world) (fun a'=>(∀ f∈F,f.at a')/\wpSg P l.toArray (fun w'=>∃ p:In C,w'=p.world) (NoPanic Q) (picksL l zs) w.heap.size (picks l sc) F [] [] a' w.drew) (picksL l ls) a):(Code.region id l.toArray true).wp P Q a w :=
 startU C [] ls sc zs F hm hs rfl hgl hg hc hn hi hx hF h0 hn0 hA h
theorem start (C:World->Prop) (ls:List Nat) (sc:List (Nat×Nat)) (F:List Fl) (hm:P.follows .mixedOrders=true) (hs:Region.noSelect l.toArray=true)
 (hgl:goodL l.toArray [] ls (Array.replicate l.toArray.size false)=true) (hg:good l.toArray [] sc F (marks (Array.replicate l.toArray.size false) ls)=true) (hc:cnt 0 sc+F.length+ls.length=l.toArray.size) (hn:(F.map (·.slot)).Nodup) (hi:∀ f∈F,∀ f'∈F,f.idx=f'.idx->f.slot=f'.slot) (hx:∀ f∈F,∀ g∈F,some f.slot≠g.sv.map (·.1)) (hF:∀ f∈F,FlOk P l f)
 (h0:C w.drew) (hn0:∀ w',C w'->w.heap.size<=w'.heap.size) (hA:∀ w' o,C w'->C (w'.alloc o))
 (h:wpL P l.toArray (fun w'=>∃ p:In C,w'=p.world) (fun a'=>(∀ f∈F,f.at a')/\wpSg P l.toArray (fun w'=>∃ p:In C,w'=p.world) (NoPanic Q) [] w.heap.size (picks l sc) F [] [] a' w.drew) (picksL l ls) a):(Code.region id l.toArray true).wp P Q a w :=
 startT C ls sc [] F hm hs hgl hg hc hn hi hx hF h0 hn0 hA h
theorem startP (sc:List (Nat×Nat)) (F:List Fl) (hm:P.follows .mixedOrders=true) (hs:Region.noSelect l.toArray=true)
 (hg:(good l.toArray [] sc F (Array.replicate l.toArray.size false) && F.all fun f=>f.sv.isNone)=true) (hc:cnt 0 sc+F.length<=l.toArray.size) (hn:(F.map (·.slot)).Nodup) (hi:∀ f∈F,∀ f'∈F,f.idx=f'.idx->f.slot=f'.slot) (hF:∀ f∈F,FlOk P l f)
 (h:wpSg P l.toArray (fun w'=>∃ p:Sd.By w,w'=p.world) (NoPanic Q) [] w.heap.size (picks l sc) F [] [] a w.drew):(Code.region id l.toArray true).wp P Q a w :=
 wp_region_noPanic (wp_region_any hm (any_of (S:=Sd.Cl w) (zs:=[]) _ _ _ _ (by
  have hd:doneOf F (fun _=>false) = []:=by unfold doneOf;simp
  rw [aG,bQ] at hg;have hv:∀ f∈F,f.sv=none:=fun f hf=>by simpa using hg.2 f hf
  have k:=holds (P:=P) (l:=l) (C:=Sd.Cl w) (Q:=NoPanic Q) (zs:=[]) (n0:=w.heap.size) hs (fun _ _ _ _ _ h=>h) (fun w' h=>h.bel.size) (fun w' o h=>Sd.Cl.of (h.bel.alloc h.bel.size o)) (2 * l.toArray.size+sc.length) sc F [] [] (Array.replicate l.toArray.size false) l.toArray.size a w.drew (fun _=>false) (fun s=>a.tmps.getD s undef) w.drew
   (ac _) hg.1 hF hn hi ⟨fun f _ g hg=>by rw [hv g hg];exact fun e=>(by cases e),fun f hf s u e=>(by rw [hv f hf] at e;cases e),fun _ _ _=>rfl,fun _ _ h=>(by cases h),fun _ _ _ _ _ h=>(by cases h),fun _ hp=>(by cases hp),fun _ hg=>(by cases hg)⟩ (aa _ _) (Sd.Cl.of (aa _ _).drew) (by rw [left_all];exact hc) h
  rw [hd,fill_self] at k
  exact k)))
theorem okP {cs:Array Value} {ty:TypeId} (h1:l.toArray[i]? = some o) (h2:o.dst=some s) (h3:o.guard=none) (h:∀ ρ w,(execOp ρ o).run P w = .ok (.value (.pointer (some ⟨w.heap.size,0,none⟩))) (w.alloc (.cells cs ty))):FlOk P l ⟨i,s,cs,ty,none,none⟩:=⟨o,h1,h2,h3,fun a w _=>h a.eval w⟩
section
variable {ops:Array Oper} {a:Act} {w:World} {o:Oper} {r:List (Nat×Oper)} {F:List Fl} {H:List (Nat×Nat)} {L:List Nat}
theorem lit (h:∀ x,wpQuiet P ops C (fun a'=>wpSg P ops C Q tl n0 r F H L a' w) [o] (fill F x a)):wpSg P ops C Q tl n0 ((0,o) :: r) F H L a w:=h
theorem call (h:∀ x w',Below w.heap.size w w'->C w'->Region.wanted o (yielded ops (fill F x a).tmps)=true /\
 ∀ K:Act->World->Prop,(∀ a'' w'',C w''->w'.heap.size<=w''.heap.size->(∀ g,n0<=g->g < w'.heap.size->w''.heap[g]? = w'.heap[g]?)->wpSg P ops C Q tl n0 r F ((w'.heap.size,w''.heap.size) :: H) L a'' w''->K a'' w'')->o.wp P (fill F x a) w' K Q) :
 wpSg P ops C Q tl n0 ((1,o) :: r) F H L a w:=fun x w' hb hc=>⟨(h x w' hb hc).1,(h x w' hb hc).2 _ fun _ _ c s b k=>⟨c,s,.inr fun g h1 h2 _ _=>b g h1 h2,k⟩⟩
theorem call0 (h:∀ x w',Below w.heap.size w w'->C w'->Region.wanted o (yielded ops (fill [] x a).tmps)=true /\
 ∀ K:Act->World->Prop,(∀ a'' w'',C w''->w'.heap.size<=w''.heap.size->wpSg P ops C Q tl n0 r [] ((w'.heap.size,w''.heap.size) :: H) L a'' w''->K a'' w'')->o.wp P (fill [] x a) w' K Q) :
 wpSg P ops C Q tl n0 ((1,o) :: r) [] H L a w:=fun x w' hb hc=>⟨(h x w' hb hc).1,(h x w' hb hc).2 _ fun _ _ c s k=>⟨c,s,.inl rfl,k⟩⟩
theorem callB (h:∀ x w',Below w.heap.size w w'->C w'->Region.wanted o (yielded ops (fill F x a).tmps)=true /\
 ∀ K:Act->World->Prop,(∀ a'' w'',C w''->w'.heap.size<=w''.heap.size->(F≠[]->Below w'.heap.size w' w'')->wpSg P ops C Q tl n0 r F ((w'.heap.size,w''.heap.size) :: H) L a'' w''->K a'' w'')->o.wp P (fill F x a) w' K Q) :
 wpSg P ops C Q tl n0 ((1,o) :: r) F H L a w:=fun x w' hb hc=>⟨(h x w' hb hc).1,(h x w' hb hc).2 _ fun _ _ c s b k=>⟨c,s,match F,b with
  | [],_=>.inl rfl
  | _ :: _,b=>.inr fun g _ hg _ _=>(b (by simp)).block g hg,k⟩⟩
theorem meetP {cs:Array Value} {ty:TypeId} (h:∀ g w',Below w.heap.size w w'->C w'->w'.heap[g]? = some (.cells cs ty (0,0))->n0<=g->(∀ p∈H,g < p.1\/p.2<=g)->g ∉ L->wpSg P ops C Q tl n0 r F H (g :: L) (a.put (some s) (.pointer (some ⟨g,0,none⟩))) w') :
 wpSg P ops C Q tl n0 ((2,o) :: r) (⟨i,s,cs,ty,none,none⟩ :: F) H L a w:=h
theorem done (h:∀ w',Below w.heap.size w w'->C w'->Q .normal a w'):wpSg P ops C (NoPanic Q) [] n0 [] F H L a w:=h
theorem doneT (h:∀ w',Below w.heap.size w w'->C w'->wpT P Q tl a w'):wpSg P ops C Q tl n0 [] F H L a w:=h
theorem lastT {r:List Oper} (h:∀ K:Act->World->Prop,(∀ a' w',wpT P Q r a' w'->K a' w')->o.wp P a w K Q):wpT P Q (o :: r) a w:=h _ fun _ _ k=>k
theorem endT (h:Q .normal a w):wpT P (NoPanic Q) [] a w:=h
end
end
end Sg
namespace Fl
open Go.RowKit
attribute [local irreducible] Sd.wpSd wpQuiet Sg.wpSg
theorem rat_set (l:List R4) (k:Nat) (hk:k < l.length) (y:R4):rat (l.set k y) k=y:=by simp [rat,List.getD,hk]
theorem set_rat (l:List R4) (k:Nat) (hk:k < l.length):l.set k (rat l k)=l:=by
 have:rat l k=l[k]:=by simp [rat,List.getD,List.getElem?_eq_getElem hk]
 rw [this,List.set_getElem_self]
variable {w W:World} {B g n cap gF gu cu:Nat} {l m:List R4}
theorem own4 (h:Ow K4 w B 36 (.slice (some ⟨g,0,none⟩) n cap) l) (k:Nat) (hk:k < l.length) :
 (w.cell? ⟨g,k * 4,none⟩=some (.int .u8 (rat l k).1)/\w.cell? ⟨g,k * 4+1,none⟩=some (.int .u8 (rat l k).2.1)/\w.cell? ⟨g,k * 4+2,none⟩=some (.int .u8 (rat l k).2.2.1)/\w.cell? ⟨g,k * 4+3,none⟩=some (.int .u8 (rat l k).2.2.2))/\(∀ j,w.frozen? ⟨g,j,none⟩=false)/\B<=g/\g < w.heap.size:=by
 obtain ⟨g',cap',eg,h1,h2,_,_,hf,hA⟩:=h.form (by omega);have e:g=g':=by
  injection eg with e1;injection e1 with e1;injection e1 with e1 _ _
 subst e;have c:=at4 hA k hk;simp only [cd] at c;exact ⟨c,hf,h1,h2⟩
theorem own_form {u:Value} (h:Ow K4 w B 36 u l) (hl:0 < l.length):∃ g cap,u = .slice (some ⟨g,0,none⟩) l.length cap:=by
 obtain ⟨g,cap,e,_⟩:=h.form hl;exact ⟨g,cap,e⟩
structure Have (w:World) (p:Int) (v:Value) (x:R4) (gF:Nat) (u:Value) (m:List R4) (W:World):Prop where
 st:Start w p v x W
 row:W.heap[gF]? = some (.cells #[.int .i64 p,u] 83 (0,0))
 own:Ow K4 W (w.heap.size+4) 36 u m
 ge:w.heap.size+4<=gF
 ne:u.ownBlock≠some gF
theorem Have.mono {w W W':World} {p:Int} {v u:Value} {x:R4} {gF:Nat} {m:List R4} (h:Have w p v x gF u m W) (b:Below W.heap.size W W'):Have w p v x gF u m W' :=
 ⟨h.st.mono b,bBl b h.row,h.own.keep b,h.ge,h.ne⟩
variable {p op rec:Int}
theorem Have.put {v:Value} {x:R4} (h:Have w p v x gF (.slice (some ⟨gu,0,none⟩) n cu) m W) (hn:n=m.length) (k:Nat) (hk:k < m.length) (y:R4) :
 Have w p v x gF (.slice (some ⟨gu,0,none⟩) n cu) (m.set k y) (sto4 W gu (k * 4) y):=by
 have hge:=(own4 h.own k hk).2.2.1;have hne:gF≠gu:=fun e=>h.ne (by rw [e];rfl);exact ⟨⟨sto4_other h.st.box (by omega),sto4_other h.st.arg (by omega),sto4_other h.st.res1 (by omega),sto4_other h.st.res2 (by omega),by rw [sto4_size];exact h.st.siz,sto4_below h.st.bel (by omega)⟩,sto4_other h.row hne,sto4_own h.own hn k hk y,h.ge,h.ne⟩
def Last (w:World) (p:Int) (gF:Nat) (u:Value) (m:List R4) (W:World):Prop:=W.heap[gF]? = some (.cells #[.int .i64 p,u] 83 (0,0))/\Ow K4 W (w.heap.size+4) 36 u m
theorem do_no (w:World) (p:Int) (a:Option Addr) (n cap:Nat) (l:List R4) (R:Rd K4 w (.slice a n cap) l) (op rec:Int) (x:R4) (he:¬ doE p l op rec=0):Calls prog 106 #[file p (.slice a n cap),.int .i64 op,.int .i64 rec,rec4 x] w (DoPost w p l op rec x):=by
 have S0:Hid (Start w p (.slice a n cap) x ((((w.alloc (.cells #[.int .i64 p,.slice a n cap] 83)).alloc (.cells #[.int .u8 x.1,.int .u8 x.2.1,.int .u8 x.2.2.1,.int .u8 x.2.2.2] 36)).alloc (.cells #[.int .i64 0,.slice none 0 0] 83)).alloc (.cells #[.int .u8 0,.int .u8 0,.int .u8 0,.int .u8 0] 36))):=Hh (Start.of w p _ x);have WR:=Hh (wrong_any _ p _ l (R.below S0.bel) op rec);have E:Hid (∀ w',Below w.heap.size w w'->DoPost w p l op rec x (.returned (.tuple #[file 0 (.slice none 0 0),rec4 z4,.int .i64 (doE p l op rec)])) w'):=fun w' h=>⟨.slice none 0 0,by rw [ah he,ah he],by rw [ah he];exact Ow.nil _ _ _,h⟩;have hd:(doE p l op rec != 0)=true:=by simpa using he
 clear R he;generalize doE p l op rec=d at *;unfold file rec4 at *
 go_enter func106,ntmps106
 go_wp2_with fail;generalize (((w.alloc (.cells #[.int .i64 p,.slice a n cap] 83)).alloc (.cells #[.int .u8 x.1,.int .u8 x.2.1,.int .u8 x.2.2.1,.int .u8 x.2.2.2] 36)).alloc (.cells #[.int .i64 0,.slice none 0 0] 83)).alloc (.cells #[.int .u8 0,.int .u8 0,.int .u8 0,.int .u8 0] 36)=W at *;refine WR.mono ?_;rintro e w1 ⟨rfl,b1⟩;have S1:=Hh (S0.mono b1);clear b1 S0 WR;obtain ⟨c0,c1⟩:=rc2 S1.res1;obtain ⟨d0,d1,d2,d3⟩:=rc4 S1.res2;obtain ⟨f0,f1⟩:=fz2 S1.res1;obtain ⟨k0,k1,k2,k3⟩:=fz4 S1.res2;have R1:=Hh (sto4_other (g:=w.heap.size+3) (o:=0) (r:=z4) (sto2_row S1.res1 0 (.slice none 0 0)) (by omega));have R2:=Hh (sto4_row (sto2_other (g:=w.heap.size+2) (p:=0) (v:=.slice none 0 0) S1.res2 (by omega)) z4);have B2:=Hh (sto4_below (o:=0) (r:=z4) (sto2_below (p:=0) (v:=.slice none 0 0) S1.bel (show w.heap.size<=w.heap.size+2 by omega)) (show w.heap.size<=w.heap.size+3 by omega));clear S1;go_wp2
 (try simp only [Exit.inBlock,Exit.then])
 exact aA (results_do (p:=8) (q:=9) (r:=10) rfl _ _ (w.heap.size+2) (w.heap.size+3) 0 (.slice none 0 0) z4 d rfl rfl rfl R1 R2) rfl (E _ B2)
structure Read (w:World) (p:Int) (v:Value) (gF:Nat) (u:Value) (W:World):Prop where
 box:W.heap[w.heap.size]? = some (.cells #[.int .i64 p,v] 83 (0,0))
 row:W.heap[gF]? = some (.cells #[.int .i64 p,u] 83 (0,0))
 bel:Below w.heap.size w W
theorem doE_of (h:doE p l op rec=0):goodF p l/\(0<=op/\op<=2)/\0<=rec/\rec < l.length:=by
 by_cases h1:goodF p l
 ·by_cases h2:0<=op/\op<=2
  ·by_cases h3:0<=rec/\rec < l.length
   ·exact ⟨h1,h2,h3⟩
   ·rw [doE_4 h1 h2 h3] at h;omega
  ·rw [doE_1 h1 h2] at h;omega
 ·rw [doE_2 h1] at h;omega
theorem do_yes (w:World) (p:Int) (a:Option Addr) (n cap:Nat) (l:List R4) (R:Rd K4 w (.slice a n cap) l) (hl:okL l) (op:Int) (k:Nat) (x:R4) (he:doE p l op k=0) (ho:0<=op/\op<=2) (hk:k < l.length) (h256:l.length<=256):Calls prog 106 #[file p (.slice a n cap),.int .i64 op,.int .i64 (k:Int),rec4 x] w (DoPost w p l op k x):=by
 obtain ⟨b,off,rfl,hA⟩:∃ b off,a=some ⟨b,off,none⟩/\At K4 w b off l:=by
  obtain ⟨a',cap',e,_,_,h4⟩:=R;injection e with e1 e2 e3;subst e1;exact h4 (by omega)
 have hn:n=l.length:=by
  obtain ⟨a',cap',e,_⟩:=R;injection e
 have S0:Hid (Start w p (.slice (some ⟨b,off,none⟩) n cap) x ((((w.alloc (.cells #[.int .i64 p,.slice (some ⟨b,off,none⟩) n cap] 83)).alloc (.cells #[.int .u8 x.1,.int .u8 x.2.1,.int .u8 x.2.2.1,.int .u8 x.2.2.2] 36)).alloc (.cells #[.int .i64 0,.slice none 0 0] 83)).alloc (.cells #[.int .u8 0,.int .u8 0,.int .u8 0,.int .u8 0] 36))):=Hh (Start.of w p _ x);have WR:=Hh (at_int he (wrong_any _ p _ l (R.below S0.bel) op k));obtain ⟨y,hy⟩:∃ y,newR l op k x=y:=⟨_,rfl⟩;have EY:Hid (∀ u w',Ow K4 w' w.heap.size 36 u (l.set k y)->Below w.heap.size w w'->DoPost w p l op k x (.returned (.tuple #[file p u,rec4 y,.int .i64 0])) w'):=fun u w' h hb=>⟨u,by rw [aj he,aj he,he,hy],by rw [aj he,hy,a7];exact h,hb⟩;have HLL:=Hh (bT hk (bT hn h256));have RR:=Hh R;have HA:=Hh hA;have OK:=Hh hl;have hkn:k < n:=by omega
 have hn0:n < 2147483648:=by omega
 clear he R hA hl hn h256 hk;unfold file rec4 at *
 go_enter func106,ntmps106
 go_wp2_with fail;generalize (((w.alloc (.cells #[.int .i64 p,.slice (some ⟨b,off,none⟩) n cap] 83)).alloc (.cells #[.int .u8 x.1,.int .u8 x.2.1,.int .u8 x.2.2.1,.int .u8 x.2.2.2] 36)).alloc (.cells #[.int .i64 0,.slice none 0 0] 83)).alloc (.cells #[.int .u8 0,.int .u8 0,.int .u8 0,.int .u8 0] 36)=W at *;refine WR.mono ?_;rintro e w1 ⟨rfl,b1⟩;have S1:=Hh (S0.mono b1);clear b1 S0 WR;go_wp2_with fail;have s0:=Sd.cell_by (Fl.rc S1.box 0);have s1:=Sd.cell_by (Fl.rc S1.box 1);refine Sg.startP [(0,0),(0,1),(0,2),(0,3),(1,4),(0,5),(2,6),(1,7)] [⟨6,12,#[.int .i64 0,.slice none 0 0],83,none,none⟩] (by kernel_rfl) (by kernel_rfl) (by kernel_rfl) (by decide) (by decide) ?_ ?_ ?_
 ·simp
 ·intro f hf
  simp only [aN,bp,cG] at hf;subst hf;exact Sg.okP rfl rfl rfl fun ρ w=>by go_simp
 dsimp only [Sg.picks,List.getElem?_cons_succ,List.getElem?_cons_zero];have BW:=Hh ((aa w1.heap.size w1).drew)
 repeat (refine Sg.lit (fun xs=>?_);simp only [Sg.fill,aK,aD];quiet_step (fail);refine az ?_)
 refine Sg.callB (fun xs w3 hb hc=>⟨by rfl,fun K hK=>?_⟩);have B3:=bTr BW hb;clear hb hc BW;simp only [Sg.fill,aK,aD];go_simp;have R3:=RR.below (S1.bel.trans (B3.mono (by have:=S1.out.siz;omega)));refine (clone_any _ _ l R3 (by have:=HLL.out.2.2;omega)).mono ?_;rintro e4 w4 ⟨u,rfl,o4,b4⟩;obtain ⟨gu,cu,rfl⟩:=own_form o4 (by have:=HLL.out.1;omega);rw [← HLL.out.2.1] at o4 ⊢;have B4:=bTr B3 b4;have O4:=Hh o4;refine hK _ _ (Sd.Cl.of B4) b4.size (fun _=>b4) ?_;clear hK K b4 o4 R3
 repeat (refine Sg.lit (fun xs=>?_);simp only [Sg.fill,aK,aD];quiet_step (fail);refine az ?_)
 refine Sg.meetP (fun gF w7 hb hc row n7 hH hL=>?_);have B7:=bTr B4 hb;have N7:=Hh (O4.range (hH _ (aO ..)));have O7:=Hh (O4.keep hb);have R7:=Hh (row);clear hb hc row hH hL B4 O4;refine Sg.callB (fun xs w9 hb hc=>⟨by rfl,fun K hK=>?_⟩);have B9:=bTr B7 hb;have O9:=Hh (O7.keep hb);have R9:=bBl hb R7;obtain ⟨c0,c1,f0,f1⟩:=rf2 R9;have RA:=sto2_row R9 p (.slice (some ⟨gu,0,none⟩) n cu);have BA:=sto2_below (p:=p) (v:=.slice (some ⟨gu,0,none⟩) n cu) B9 n7;have OA:=sto2_off (u:=.slice (some ⟨gu,0,none⟩) n cu) O9 N7 p;have hs1:=S1.siz;have hs3:=B3.size;have HB:Hid (Have w p (.slice (some ⟨b,off,none⟩) n cap) x gF (.slice (some ⟨gu,0,none⟩) n cu) l (sto2 w9 gF p (.slice (some ⟨gu,0,none⟩) n cu))):=⟨S1.mono BA,RA,OA.low (by omega),by omega,N7.out⟩;have hsz:=sto2_size w9 gF p (.slice (some ⟨gu,0,none⟩) n cu);clear hb hc B7 O7 R7 R9 RA OA B9 O9 N7;simp only [Sg.fill,aD];go_simp;refine hK _ _ (Sd.Cl.of BA) (by rw [← hsz];exact ac _) (fun h=>absurd rfl h) ?_;clear hK K c0 c1 f0 f1
 show Sg.wpSg _ _ _ _ _ _ _ _ _ _ _ (sto2 w9 gF p (.slice (some ⟨gu,0,none⟩) n cu))
 clear BA hsz;generalize sto2 w9 gF p (.slice (some ⟨gu,0,none⟩) n cu)=wA at *;refine Sg.done (fun wB hb hc=>?_);have HV:=Hh (HB.mono hb);clear hb hc HB S1 B3 s0 s1 n7 hs1 hs3;unfold newR at hy
 replace hy:=Hh hy
 rcases (by omega:op=0\/op=1\/op=2) with rfl | rfl | rfl
 case' inl =>
  rw [ah (by decide),ah (by decide),a7] at hy;rw [← set_rat l k HLL.out.1,hy.out] at HV;go_wp2_with fail;generalize wB=Wz at *
 case' inr.inl =>
  rw [aj rfl] at hy;have hx:=hy.symm;subst hx;have HP:=Hh (HV.put HLL.out.2.1 k HLL.out.1 y);obtain ⟨⟨c0,c1,c2,c3⟩,hfr,_,_⟩:=own4 HV.own k HLL.out.1;have f0:=hfr (k * 4);have f1:=hfr (k * 4+1);have f2:=hfr (k * 4+2);have f3:=hfr (k * 4+3);have r1:=Fl.rc HV.row 1;obtain ⟨a0,a1,a2,a3⟩:=rc4 HV.st.arg;clear hfr HV;go_wp2_with fail;clear c0 c1 c2 c3 f0 f1 f2 f3 r1 a0 a1 a2 a3
  show Code.wp _ _ _ _ (sto4 wB gu (k * 4) y)
  generalize sto4 wB gu (k * 4) y=Wz at *;have HV:=HP;clear HP
 case' inr.inr =>
  have hR:=okR_at OK k;rw [ah (by decide),aj rfl,a7] at hy;have INC:=Hh (fun w=>one_any w (rat l k) hR);clear hR;go_wp2_with fail;have C0:Read w p (.slice (some ⟨b,off,none⟩) n cap) gF (.slice (some ⟨gu,0,none⟩) n cu) wB.drew:=⟨(HV.mono (aa wB.heap.size wB).drew).st.box,(HV.mono (aa wB.heap.size wB).drew).row,(HV.mono (aa wB.heap.size wB).drew).st.bel⟩;have r1:=Sc.cell_in (C:=Read w p (.slice (some ⟨b,off,none⟩) n cap) gF (.slice (some ⟨gu,0,none⟩) n cu)) (a:=⟨gF,1,none⟩) (fun W' h=>row_cell h.row 1);have r2:=Sc.cell_in (C:=Read w p (.slice (some ⟨b,off,none⟩) n cap) gF (.slice (some ⟨gu,0,none⟩) n cu)) (a:=⟨w.heap.size,1,none⟩) (fun W' h=>row_cell h.box 1);have HQ:=Hh (fun (W':World) (h:Read w p (.slice (some ⟨b,off,none⟩) n cap) gF (.slice (some ⟨gu,0,none⟩) n cu) W')=>at4 (HA.below h.bel) k HLL.out.1);have q0:=Sc.cell_in (C:=Read w p (.slice (some ⟨b,off,none⟩) n cap) gF (.slice (some ⟨gu,0,none⟩) n cu)) (fun W' h=>(HQ W' h).1);have q1:=Sc.cell_in (C:=Read w p (.slice (some ⟨b,off,none⟩) n cap) gF (.slice (some ⟨gu,0,none⟩) n cu)) (fun W' h=>(HQ W' h).2.1);have q2:=Sc.cell_in (C:=Read w p (.slice (some ⟨b,off,none⟩) n cap) gF (.slice (some ⟨gu,0,none⟩) n cu)) (fun W' h=>(HQ W' h).2.2.1);have q3:=Sc.cell_in (C:=Read w p (.slice (some ⟨b,off,none⟩) n cap) gF (.slice (some ⟨gu,0,none⟩) n cu)) (fun W' h=>(HQ W' h).2.2.2);have ne:Nonempty (Sc.In (Read w p (.slice (some ⟨b,off,none⟩) n cap) gF (.slice (some ⟨gu,0,none⟩) n cu))):=⟨⟨_,C0⟩⟩;clear HQ;refine Sc.start (Read w p (.slice (some ⟨b,off,none⟩) n cap) gF (.slice (some ⟨gu,0,none⟩) n cu)) [(false,0),(false,1),(false,2),(false,3),(false,4),(false,5),(false,6),(false,7),(true,8),(false,9),(true,10)] (by kernel_rfl) (by kernel_rfl) (by kernel_rfl) C0 ?_;dsimp only [Sd.picks,List.getElem?_cons_succ,List.getElem?_cons_zero]
  repeat (refine Sd.lit ?_;quiet_step (fail);refine az ?_)
  refine Sd.call (by rfl) (fun K hK=>?_);have IC:=INC.out;unfold rec4 at IC;go_simp;refine (IC _).mono ?_;rintro e w3 ⟨rfl,b3⟩;have HB:=Hh (HV.mono (cC ((aa wB.heap.size wB).drew) b3));refine hK _ _ (Sc.Cl.of ⟨HB.st.box,HB.row,HB.st.bel⟩) ?_;clear hK K b3 HV IC INC C0;rw [hy.out]
  repeat (refine Sd.lit ?_;quiet_step (fail);refine az ?_)
  clear r1 r2 q0 q1 q2 q3;refine Sd.call (by rfl) (fun K hK=>?_);have HP:=Hh (HB.put HLL.out.2.1 k HLL.out.1 y);obtain ⟨⟨c0,c1,c2,c3⟩,hfr,_,_⟩:=own4 HB.own k HLL.out.1;have f0:=hfr (k * 4);have f1:=hfr (k * 4+1);have f2:=hfr (k * 4+2);have f3:=hfr (k * 4+3);clear hfr HB;go_simp;refine hK _ _ (Sc.Cl.of ⟨HP.st.box,HP.row,HP.st.bel⟩) ?_;clear hK K c0 c1 c2 c3 f0 f1 f2 f3 ne
  show Sd.wpSd _ _ _ _ _ _ (sto4 w3 gu (k * 4) y)
  generalize sto4 w3 gu (k * 4) y=Wz at *;have HV:=HP;clear HP;refine Sd.done ?_;go_wp2_with fail
 all_goals
  obtain ⟨⟨c0,c1,c2,c3⟩,_,_,_⟩:=own4 HV.own k (by rw [aT];exact HLL.out.1);rw [rat_set l k HLL.out.1] at c0 c1 c2 c3;have C0:Last w p gF (.slice (some ⟨gu,0,none⟩) n cu) (l.set k y) Wz.drew:=⟨HV.row,HV.own⟩;have r0:=Sc.cell_in (C:=Last w p gF (.slice (some ⟨gu,0,none⟩) n cu) (l.set k y)) (a:=⟨gF,0,none⟩) (fun W' h=>row_cell h.1 0);have r1:=Sc.cell_in (C:=Last w p gF (.slice (some ⟨gu,0,none⟩) n cu) (l.set k y)) (a:=⟨gF,1,none⟩) (fun W' h=>row_cell h.1 1);have HQ:Hid (∀ W',Last w p gF (.slice (some ⟨gu,0,none⟩) n cu) (l.set k y) W'->(W'.cell? ⟨gu,k * 4,none⟩=some (.int .u8 y.1)/\W'.cell? ⟨gu,k * 4+1,none⟩=some (.int .u8 y.2.1)/\W'.cell? ⟨gu,k * 4+2,none⟩=some (.int .u8 y.2.2.1)/\W'.cell? ⟨gu,k * 4+3,none⟩=some (.int .u8 y.2.2.2))):=fun W' h=>by
   have:=(own4 h.2 k (by rw [aT];exact HLL.out.1)).1;rw [rat_set l k HLL.out.1] at this;exact this
  have q0:=Sc.cell_in (C:=Last w p gF (.slice (some ⟨gu,0,none⟩) n cu) (l.set k y)) (fun W' h=>(HQ W' h).1);have q1:=Sc.cell_in (C:=Last w p gF (.slice (some ⟨gu,0,none⟩) n cu) (l.set k y)) (fun W' h=>(HQ W' h).2.1);have q2:=Sc.cell_in (C:=Last w p gF (.slice (some ⟨gu,0,none⟩) n cu) (l.set k y)) (fun W' h=>(HQ W' h).2.2.1);have q3:=Sc.cell_in (C:=Last w p gF (.slice (some ⟨gu,0,none⟩) n cu) (l.set k y)) (fun W' h=>(HQ W' h).2.2.2);have ne:Nonempty (Sc.In (Last w p gF (.slice (some ⟨gu,0,none⟩) n cu) (l.set k y))):=⟨⟨_,C0⟩⟩;clear c0 c1 c2 c3 HQ;refine Sc.start (Last w p gF (.slice (some ⟨gu,0,none⟩) n cu) (l.set k y)) [(false,0),(false,1),(false,2),(false,3),(false,4),(false,5),(true,6),(true,7),(false,8)] (by kernel_rfl) (by kernel_rfl) (by kernel_rfl) C0 ?_;dsimp only [Sd.picks,List.getElem?_cons_succ,List.getElem?_cons_zero]
  repeat (refine Sd.lit ?_;quiet_step (fail);refine az ?_)
  have HD:=Hh (HV.mono ((aa _ _).drew));clear HV r0 r1 q0 q1 q2 q3 C0;generalize Wz.drew=Wy at *;refine Sd.call (by rfl) (fun K hK=>?_);obtain ⟨c0,c1,f0,f1⟩:=rf2 HD.st.res1;have hge:=(own4 HD.own k (by rw [aT];exact HLL.out.1)).2.2.1;have hF:=HD.ge;have n1:(Value.slice (some ⟨gu,0,none⟩) n cu).ownBlock≠some (w.heap.size+2):=fun e=>by simp [Value.ownBlock] at e;omega
  have n2:(Value.slice (some ⟨gu,0,none⟩) n cu).ownBlock≠some (w.heap.size+3):=fun e=>by simp [Value.ownBlock] at e;omega
  have L1:Last w p gF (.slice (some ⟨gu,0,none⟩) n cu) (l.set k y) (sto2 Wy (w.heap.size+2) p (.slice (some ⟨gu,0,none⟩) n cu)):=⟨sto2_other HD.row (by omega),sto2_off HD.out.own n1 p⟩;have R1:=Hh (sto2_row HD.st.res1 p (.slice (some ⟨gu,0,none⟩) n cu));have R2:=sto2_other (g:=w.heap.size+2) (p:=p) (v:=.slice (some ⟨gu,0,none⟩) n cu) HD.st.res2 (by omega);have B1:=Hh (sto2_below (p:=p) (v:=.slice (some ⟨gu,0,none⟩) n cu) HD.st.bel (show w.heap.size<=w.heap.size+2 by omega));clear HD;go_simp;refine hK _ _ (Sc.Cl.of L1) ?_;clear hK K c0 c1 f0 f1
  show Sd.wpSd _ _ _ _ _ _ (sto2 Wy (w.heap.size+2) p (.slice (some ⟨gu,0,none⟩) n cu))
  generalize sto2 Wy (w.heap.size+2) p (.slice (some ⟨gu,0,none⟩) n cu)=Wx at *;refine Sd.call (by rfl) (fun K hK=>?_);obtain ⟨d0,d1,d2,d3,k0,k1,k2,k3⟩:=rf4 R2;have L2:Last w p gF (.slice (some ⟨gu,0,none⟩) n cu) (l.set k y) (sto4 Wx (w.heap.size+3) 0 y):=⟨sto4_other L1.1 (by omega),sto4_off L1.2 n2 y⟩;have R3:=Hh (sto4_row R2 y);have R4:=Hh (sto4_other (g:=w.heap.size+3) (o:=0) (r:=y) R1 (by omega));have B2:=Hh (sto4_below (o:=0) (r:=y) B1 (show w.heap.size<=w.heap.size+3 by omega));clear R2 R1 B1 L1;go_simp;refine hK _ _ (Sc.Cl.of L2) ?_;clear hK K d0 d1 d2 d3 k0 k1 k2 k3
  show Sd.wpSd _ _ _ _ _ _ (sto4 Wx (w.heap.size+3) 0 y)
  have O2:=Hh L2.2;clear L2;generalize sto4 Wx (w.heap.size+3) 0 y=Ww at *
  repeat (refine Sd.lit ?_;quiet_step (fail);refine az ?_)
  refine Sd.done ?_;go_wp2
  (try simp only [Exit.inBlock,Exit.then])
  exact aA (results_do (p:=8) (q:=9) (r:=10) rfl _ _ (w.heap.size+2) (w.heap.size+3) p _ y 0 rfl rfl rfl R4 R3) rfl (EY _ _ (O2.low (by omega)) B2.out)
theorem do_any (w:World) (p:Int) (v:Value) (l:List R4) (R:Rd K4 w v l) (hl:okL l) (op rec:Int) (x:R4):Calls prog 106 #[file p v,.int .i64 op,.int .i64 rec,rec4 x] w (DoPost w p l op rec x):=by
 obtain ⟨a,cap,rfl,_⟩:=R.slice
 by_cases he:doE p l op rec=0
 ·obtain ⟨hg,ho,hr⟩:=doE_of he
  obtain ⟨k,rfl⟩:∃ k:Nat,rec=k:=⟨rec.toNat,by omega⟩;exact do_yes w p a _ cap l R hl op k x he ho (by omega) hg.2.2.2.1
 ·exact do_no w p a _ cap l R op rec x he
end Fl
namespace Ad
open Go.RowKit
def good (o f r:Int):Prop:=0<=o/\o<=2/\0<=f/\f<=63/\0<=r/\r<=255
instance (o f r:Int):Decidable (good o f r):=by unfold good;infer_instance
def goodB (o f r:Int):Bool:=decide (good o f r)
def addr (o f r:Int):Value:=.agg #[.int .i64 o,.int .i64 f,.int .i64 r]
def pair (a b:Int):Value:=.agg #[.int .u8 a,.int .u8 b]
theorem ret_bool {a b:Bool} (h:a=b):Ending.returned (.bool a) = .returned (.bool b):=by rw [h]
end Ad
namespace Fs
open Go.RowKit
open Fl (set_rat hdr)
open Ad (goodB)
section
variable {α:Type} (κ:α->Int)
def ins (c:α):List α->List α
 | []=>[c]
 | y :: r=>if κ c < κ y then c :: y :: r else y :: ins c r
def put (c:α) (l:List α):List α:=ins κ c (l.filter fun y=>decide (¬ κ y=κ c))
def look (n:Int) (l:List α):Option α:=l.find? fun y=>decide (κ y=n)
def Srt (l:List α):Prop:=l.Pairwise fun y z=>κ y < κ z
variable {κ}
theorem mem_ins {c x:α} : ∀ {l:List α},x∈ins κ c l↔x=c\/x∈l
 | []=>by simp [ins]
 | y :: r=>by
   unfold ins
   split
   ·simp
   ·simp only [aN,mem_ins (l:=r)]
    constructor
    ·rintro (h | h | h)
     ·exact .inr (.inl h)
     ·exact .inl h
     ·exact .inr (.inr h)
    ·rintro (h | h | h)
     ·exact .inr (.inl h)
     ·exact .inl h
     ·exact .inr (.inr h)
variable {c x:α} {l:List α}
theorem mem_put : x∈put κ c l↔x=c\/x∈l/\κ x≠κ c:=by
 unfold put;rw [mem_ins,cg]
 simp
theorem srt_ins {c:α} : ∀ {l:List α},Srt κ l->(∀ x∈l,κ x≠κ c)->Srt κ (ins κ c l)
 | [],_,_=>by simp [ins,Srt]
 | y :: r,h,hn=>by
   obtain ⟨h1,h2⟩:=bs.1 h;unfold ins
   split
   ·rename_i hlt
    refine bs.2 ⟨fun z hz=>?_,h⟩
    rcases aN.1 hz with rfl | hz
    ·exact hlt
    ·exact Int.lt_trans hlt (h1 z hz)
   ·rename_i hlt
    have hy:=hn y aO;refine bs.2 ⟨fun z hz=>?_,srt_ins h2 fun x hx=>hn x (aJ _ hx)⟩
    rcases mem_ins.1 hz with rfl | hz
    ·omega
    ·exact h1 z hz
theorem srt_put (h:Srt κ l):Srt κ (put κ c l):=by
 unfold put;exact srt_ins (h.filter _) fun x hx=>by simpa using (cg.1 hx).2
variable {n:Int}
theorem look_none : look κ n l=none↔∀ x∈l,κ x≠n:=by
 unfold look;rw [cZ]
 simp
theorem look_some (h:look κ n l=some c):c∈l/\κ c=n:=by
 unfold look at h;exact ⟨List.mem_of_find?_eq_some h,by simpa using List.find?_some h⟩
theorem look_at (h:Srt κ l) (hc:c∈l):look κ (κ c) l=some c:=by
 induction l with
 | nil=>cases hc
 | cons y r ih =>
   obtain ⟨h1,h2⟩:=bs.1 h;unfold look;rw [List.find?_cons]
   rcases aN.1 hc with rfl | hc'
   ·simp
   ·have:=h1 c hc'
    rw [ak (by omega)];exact ih h2 hc'
theorem put_new (h:look κ (κ c) l=none):put κ c l=ins κ c l:=by
 unfold put;rw [List.filter_eq_self.2]
 intro x hx
 simpa using look_none.1 h x hx
theorem ins_at {c:α} : ∀ {l:List α} {k:Nat},(∀ x∈l.take k,κ x < κ c)->(∀ x,l[k]? = some x->κ c < κ x)->ins κ c l=l.take k ++ c :: l.drop k
 | [],k,_,_=>by simp [ins]
 | y :: r,0,_,h2=>by
   have:=h2 y rfl
   simp [ins,this]
 | y :: r,k+1,h1,h2=>by
   have hy:=h1 y (by simp);unfold ins;rw [ah (by omega),ins_at (l:=r) (k:=k) (fun x hx=>h1 x (by simp [hx])) (fun x hx=>h2 x (by simpa using hx))]
   rfl
theorem filter_other : ∀ {r:List α},(∀ x∈r,κ c < κ x)->r.filter (fun y=>decide (¬ κ y=κ c))=r:=fun {r} h=>List.filter_eq_self.2 fun x hx=>by have:=h x hx;simpa using (by omega:¬ κ x=κ c)
theorem put_set {c:α} : ∀ {l:List α} {k:Nat} {x:α},Srt κ l->l[k]? = some x->κ x=κ c->put κ c l=l.set k c
 | y :: r,0,x,h,hx,e=>by
   obtain rfl:y=x:=by simpa using hx
   obtain ⟨h1,h2⟩:=bs.1 h;have hf:=filter_other (c:=c) (κ:=κ) (r:=r) fun z hz=>by have:=h1 z hz;omega
   unfold put;rw [List.filter_cons,ah (by simp [e]),hf]
   cases r with
   | nil=>rfl
   | cons z s =>
     have:=h1 z aO;unfold ins;rw [aj (by omega)]
     rfl
 | y :: r,k+1,x,h,hx,e=>by
   obtain ⟨h1,h2⟩:=bs.1 h;have hx':r[k]? = some x:=by simpa using hx
   have hlt:=h1 x (bo hx');have ih:=put_set (c:=c) h2 hx' e;unfold put at ih ⊢;rw [List.filter_cons,aj (by simp;omega)];unfold ins;rw [ah (by omega),ih]
   rfl
variable {β:Type} {κ':β->Int} {f:α->β}
theorem map_ins (hf:∀ x,κ' (f x)=κ x) (c:α):∀ l:List α,(ins κ c l).map f=ins κ' (f c) (l.map f)
 | []=>rfl
 | y :: r=>by
   simp only [ins,dg,hf]
   split
   ·rfl
   ·rw [dg,map_ins hf c r]
theorem map_put (hf:∀ x,κ' (f x)=κ x) (c:α) (l:List α):(put κ c l).map f=put κ' (f c) (l.map f):=by
 unfold put;rw [map_ins hf,List.filter_map]
 congr 2
 exact bF (fun q=>List.filter q l) (funext fun x=>by simp [hf])
theorem map_look (hf:∀ x,κ' (f x)=κ x) (n:Int) (l:List α):look κ' n (l.map f)=(look κ n l).map f:=by
 unfold look;rw [List.find?_map]
 congr 1
 exact bF (fun q=>List.find? q l) (funext fun x=>by simp [hf])
theorem map_srt (hf:∀ x,κ' (f x)=κ x) : Srt κ' (l.map f)↔Srt κ l:=by
 unfold Srt;rw [List.pairwise_map]
 simp [hf]
theorem len_le:∀ {l:List α} {lo hi:Int},Srt κ l->(∀ x∈l,lo<=κ x/\κ x < hi)->lo<=hi->(l.length:Int)<=hi - lo
 | [],lo,hi,_,_,h=>by simp;omega
 | y :: r,lo,hi,h,hb,hle=>by
   obtain ⟨h1,h2⟩:=bs.1 h;have hy:=hb y aO;have:=len_le (l:=r) (lo:=κ y+1) (hi:=hi) h2 (fun x hx=>⟨h1 x hx,(hb x (aJ _ hx)).2⟩) (by omega);simp only [cj]
   omega
end
abbrev Fil:=Int×Int×List R4
abbrev Abs:=List Fil
abbrev key (e:Fil):Int:=e.1
def addE (A:Abs) (n p:Int) (l:List R4):Int:=if 0<=n/\n<=63 then if goodF p l then if (look key n A).isSome then 10 else 0 else 2 else 1
def addA (A:Abs) (n p:Int) (l:List R4):Abs:=if addE A n p l=0 then put key (n,p,l) A else A
def dE (A:Abs) (o f r:Int):Int:=if goodB o f r=true then match look key f A with | none=>3 | some e=>doE e.2.1 e.2.2 o r else 1
def dV (A:Abs) (o f r:Int) (x:R4):R4:=match look key f A with | none=>z4 | some e=>if dE A o f r=0 then newR e.2.2 o r x else z4
def dA (A:Abs) (o f r:Int) (x:R4):Abs:=match look key f A with | none=>A | some e=>if dE A o f r=0 then put key (f,e.2.1,e.2.2.set r.toNat (newR e.2.2 o r x)) A else A
def dD (A:Abs) (o f r d:Int):Int:=if dE A o f r=5 then d+1 else d
def gB (A:Abs) (n r:Int):Bool:=match look key n A with | none=>false | some e=>decide (0<=r/\r < e.2.2.length)
def gV (A:Abs) (n r:Int):R4:=match look key n A with | none=>z4 | some e=>if 0<=r/\r < e.2.2.length then rat e.2.2 r.toNat else z4
def sB (A:Abs) (n r:Int):Bool:=gB A n r && decide (r≠0)
def sA (A:Abs) (n r:Int) (x:R4):Abs:=match look key n A with | none=>A | some e=>if sB A n r=true then put key (n,e.2.1,e.2.2.set r.toNat x) A else A
structure OkA (A:Abs):Prop where
 srt:Srt key A
 nm:∀ e∈A,0<=e.1/\e.1<=63
 good:∀ e∈A,goodF e.2.1 e.2.2
 ok:∀ e∈A,okL e.2.2
theorem OkA.nil:OkA []:=⟨cN,nofun,nofun,nofun⟩
variable {A:Abs}
theorem OkA.len (h:OkA A):A.length<=64:=by
 have:=len_le (κ:=key) (lo:=0) (hi:=64) h.srt (fun x hx=>by have:=h.nm x hx;show 0<=x.1/\x.1 < 64;omega) (by omega)
 omega
theorem OkA.put {A:Abs} (h:OkA A) {n p:Int} {l:List R4} (hn:0<=n/\n<=63) (hg:goodF p l) (hl:okL l):OkA (put key (n,p,l) A):=by
 refine ⟨srt_put h.srt,fun e he=>?_,fun e he=>?_,fun e he=>?_⟩ <;> rcases mem_put.1 he with rfl | ⟨hm,_⟩
 ·exact hn
 ·exact h.nm e hm
 ·exact hg
 ·exact h.good e hm
 ·exact hl
 ·exact h.ok e hm
variable {p o r n f:Int} {l:List R4} {k:Nat} {x:R4}
theorem good_set (h:goodF p l) (hk:k≠0):goodF p (l.set k x):=by
 obtain ⟨h1,h2,h3,h4,h5⟩:=h;refine ⟨h1,h2,by rw [aT];exact h3,by rw [aT];exact h4,?_⟩;rw [aT,← h5];unfold rat;rw [af,af,List.getElem?_set_ne (by omega)]
theorem okL_set (h:okL l) (hx:okR x):okL (l.set k x):=fun r hr=>by
 rcases List.mem_or_eq_of_mem_set hr with h1 | rfl
 ·exact h r h1
 ·exact hx
theorem okR_inc (r:R4):okR (inc r):=by
 unfold inc Fl.bytes okR;generalize num r=q;refine ⟨⟨?_,?_⟩,⟨?_,?_⟩,⟨?_,?_⟩,?_,?_⟩ <;> simp only <;> omega
theorem okR_new (h:okL l) (hx:okR x):okR (newR l o r x):=by
 unfold newR
 split
 ·exact hx
 ·split
  ·exact okR_inc _
  ·exact okR_at h _
theorem good_do (h:doE p l o r=0):goodF p (l.set r.toNat (newR l o r x)):=by
 obtain ⟨hg,ho,h0,h1⟩:=Fl.doE_of h
 by_cases hr:r=0
 ·subst hr
  have e:o=0:=by
   unfold doE at h;rw [aj hg,aj ho,aj ⟨h0,h1⟩] at h
   split at h
   ·omega
   ·omega
  subst e
  show goodF p (l.set 0 (newR l 0 0 x))
  have e2:newR l 0 0 x=rat l 0:=by unfold newR;rw [ah (by decide),ah (by decide)];rfl
  rw [e2,set_rat l 0 (by omega)];exact hg
 ·exact good_set hg (by omega)
theorem OkA.find (h:OkA A) {e:Fil} (he:look key n A=some e):(0<=n/\n<=63)/\goodF e.2.1 e.2.2/\okL e.2.2/\e.1=n:=by
 obtain ⟨hm,hk⟩:=look_some he;have hk':=hk;exact ⟨hk' ▸ h.nm e hm,h.good e hm,h.ok e hm,hk'⟩
theorem OkA.add (h:OkA A) (hl:okL l):OkA (addA A n p l):=by
 unfold addA
 split
 ·rename_i h0
  unfold addE at h0
  split at h0
  ·rename_i hn
   split at h0
   ·rename_i hg
    exact h.put hn hg hl
   ·omega
  ·omega
 ·exact h
theorem OkA.do (h:OkA A) (hx:okR x):OkA (dA A o f r x):=by
 unfold dA
 split
 ·exact h
 ·rename_i e he
  split
  ·rename_i h0
   obtain ⟨hn,hg,hl,hk⟩:=h.find he;refine h.put hn ?_ (okL_set hl (okR_new hl hx));unfold dE at h0
   split at h0
   ·rw [he] at h0
    exact good_do h0
   ·omega
  ·exact h
theorem OkA.set (h:OkA A) (hx:okR x):OkA (sA A n r x):=by
 unfold sA
 split
 ·exact h
 ·rename_i e he
  split
  ·rename_i h0
   obtain ⟨hn,hg,hl,hk⟩:=h.find he;have:r≠0/\0<=r:=by
    unfold sB gB at h0;rw [he] at h0
    simp at h0
    omega
   exact h.put hn (good_set hg (by omega)) (okL_set hl hx)
  ·exact h
end Fs
namespace Ro
open Go.RowKit
open Fl (hdr)
abbrev E5:=Int×Int×Int×Int×Int
def z5:E5:=(0,0,0,0,0)
def endE:E5:=(4,0,0,0,0)
def endR:R4:=(4,0,0,0)
def ent (x:E5):Value:=.agg #[.int .i64 x.1,.int .i64 x.2.1,.int .i64 x.2.2.1,.int .i64 x.2.2.2.1,.int .i64 x.2.2.2.2]
def K5:Rw.Kind E5:=⟨fun x=>[.int .i64 x.1,.int .i64 x.2.1,.int .i64 x.2.2.1,.int .i64 x.2.2.2.1,.int .i64 x.2.2.2.2],5,by decide,fun _=>rfl,fun _ u h=>by simp at h;rcases h with rfl | rfl | rfl | rfl | rfl <;> rfl,z5⟩
def place (s f r:Int):Prop:=1<=s/\s<=16/\0<=f/\f<=63/\1<=r/\r<=255
instance (s f r:Int):Decidable (place s f r):=by unfold place;infer_instance
def placeB (s f r:Int):Bool:=decide (place s f r)
def okE (x:E5):Prop:=(1<=x.1/\x.1<=3/\(x.1≠3\/x.2.2.2.2=0)/\place x.2.1 x.2.2.1 x.2.2.2.1/\0<=x.2.2.2.2/\x.2.2.2.2<=3)\/(x.1=4/\x.2.1=0/\x.2.2.1=0/\x.2.2.2.1=0/\x.2.2.2.2=0)
instance (x:E5):Decidable (okE x):=by unfold okE;infer_instance
def okB (x:E5):Bool:=decide (okE x)
variable {x:E5}
theorem ok_yes (h:okE x):okB x=true:=an h
theorem ok_no (h:¬ okE x):okB x=false:=ak h
def putR (x:E5):R4:=if okE x then (64 * x.2.2.2.2+x.1,x.2.1,x.2.2.1,x.2.2.2.1) else z4
def putN (x:E5):Int:=if okE x then 0 else 1
def takeX (v:R4):E5:=(v.1 % 64,v.2.1,v.2.2.1,v.2.2.2,v.1 / 64)
def takeE (v:R4):E5:=if okE (takeX v) then takeX v else z5
def takeN (v:R4):Int:=if okE (takeX v) then 0 else 2
theorem okE_bounds (h:okE x):(1<=x.1/\x.1<=4)/\(0<=x.2.1/\x.2.1<=16)/\(0<=x.2.2.1/\x.2.2.1<=63)/\(0<=x.2.2.2.1/\x.2.2.2.1<=255)/\0<=x.2.2.2.2/\x.2.2.2.2<=3:=by
 unfold okE place at h
 omega
theorem ok_slot (h:okE x):x.1≠4↔0 < x.2.1:=by
 unfold okE place at h
 omega
variable {b n k i:Nat} {l m L:List E5}
theorem at5 {w:World} {off:Nat} (h:At K5 w b off l) (i:Nat) (hi:i < l.length) :
 w.cell? ⟨b,off+i * 5,none⟩=some (.int .i64 (l.getD i z5).1)/\w.cell? ⟨b,off+i * 5+1,none⟩=some (.int .i64 (l.getD i z5).2.1)/\w.cell? ⟨b,off+i * 5+2,none⟩=some (.int .i64 (l.getD i z5).2.2.1)/\w.cell? ⟨b,off+i * 5+3,none⟩=some (.int .i64 (l.getD i z5).2.2.2.1)/\w.cell? ⟨b,off+i * 5+4,none⟩=some (.int .i64 (l.getD i z5).2.2.2.2) :=
 ⟨h i hi 0 _ rfl,h i hi 1 _ rfl,h i hi 2 _ rfl,h i hi 3 _ rfl,h i hi 4 _ rfl⟩
theorem infoE:(prog.info? 244).map (fun i=>(i.zero,i.size,i.bytes))=some (some (.agg #[.int .i64 0,.int .i64 0,.int .i64 0,.int .i64 0,.int .i64 0]),5,40):=by kernel_rfl
theorem eq_ent (x y:E5) (w:World):(Op.equalIn 10000 244 (.agg #[.int .i64 x.1,.int .i64 x.2.1,.int .i64 x.2.2.1,.int .i64 x.2.2.2.1,.int .i64 x.2.2.2.2]) (.agg #[.int .i64 y.1,.int .i64 y.2.1,.int .i64 y.2.2.1,.int .i64 y.2.2.2.1,.int .i64 y.2.2.2.2])).run prog w = .ok (decide (x=y)) w:=by
 have u3:=underlying3;have a3:=isAgg3;have z3:=sizeOf3;have hS:prog.underlying 244=some (.struct (prog.fieldsOf 244)):=by kernel_rfl
 have hp:prog.stoodInHeld 244=false:=by kernel_rfl
 obtain ⟨x1,x2,x3,x4,x5⟩:=x;obtain ⟨y1,y2,y3,y4,y5⟩:=y;rw [show (10000:Nat)=9999+1 from rfl,run_equalIn_agg w 9999 244 _ _ hS hp];simp only [Program.fieldsOf,underlying244];go_simp
 by_cases h1:x1=y1 <;> by_cases h2:x2=y2 <;> by_cases h3:x3=y3 <;> by_cases h4:x4=y4 <;> by_cases h5:x5=y5 <;> simp [h1,h2,h3,h4,h5]
def eat (l:List E5) (i:Nat):E5:=l.getD i z5
def prevS (l:List E5) (i:Nat):Int:=if i=0 then 0 else (eat l (i - 1)).2.1
def okAt (l:List E5) (i:Nat):Prop:=okE (eat l i)/\prevS l i < (eat l i).2.1
instance (l:List E5) (i:Nat):Decidable (okAt l i):=by unfold okAt;infer_instance
def mayP (l:List E5):Prop:=∀ i,i < l.length->okAt l i
instance (l:List E5):Decidable (mayP l):=by unfold mayP;infer_instance
def mayB (l:List E5):Bool:=decide (mayP l)
theorem prev_zero (l:List E5):prevS l 0=0:=rfl
theorem prev_next (l:List E5) (k:Nat):prevS l (k+1)=(eat l k).2.1:=rfl
theorem prev_ge (h:∀ i,i < n->okAt l i) (k:Nat) (hk:k<=n):(k:Int)<=prevS l k:=by
 induction k with
 | zero=>exact cP _
 | succ k ih =>
   have h1:=ih (by omega);have h2:=(h k (by omega)).2;rw [prev_next]
   omega
theorem may_len (h:mayP l):l.length<=16:=by
 have h1:=prev_ge h l.length (ac _)
 rcases e:l.length with _ | n
 ·omega
 ·rw [e,prev_next] at h1
  have:=(okE_bounds (h n (by omega)).1).2.1.2
  omega
theorem okAt_iff (h:∀ i,i < k->okAt l i):okAt l k↔okE (eat l k)/\(eat l k).1≠4/\¬ (0 < k/\(eat l k).2.1<=prevS l k):=by
 have h1:=prev_ge h k (ac _)
 constructor
 ·intro g
  exact ⟨g.1,(ok_slot g.1).2 (by have:=g.2;omega),by have:=g.2;omega⟩
 ·intro ⟨g1,g2,g3⟩
  refine ⟨g1,?_⟩;have:=(ok_slot g1).1 g2
  by_cases e:k=0
  ·subst e;rw [prev_zero];exact this
  ·omega
theorem eat_get (h:i < l.length):l[i]? = some (eat l i):=by
 unfold eat;rw [af,ai h]
 rfl
theorem eat_mem (h:i < l.length):eat l i∈l:=bo (eat_get h)
def scan:List R4->Option (List E5)
 | []=>some []
 | v :: r=>if okE (takeX v) then (if (takeX v).1=4 then some [] else (scan r).map (takeX v :: ·)) else none
def tabO (p:Int) (l:List R4):Option (List E5):=if goodF p l then (scan (l.drop 1)).filter mayB else none
def tabL (p:Int) (l:List R4):List E5:=(tabO p l).getD []
def tabN (p:Int) (l:List R4):Int:=if (tabO p l).isSome then 0 else 2
theorem tab_may (p:Int) (l:List R4):mayP (tabL p l):=by
 unfold tabL
 rcases e:tabO p l with _ | m
 ·intro i hi;exact absurd hi (by simp)
 ·unfold tabO at e
  by_cases h:goodF p l
  ·rw [aj h] at e
   rw [Option.filter_eq_some_iff] at e;exact of_decide_eq_true e.2
  ·rw [ah h] at e;cases e
variable {p:Int}
theorem tab_bad {l:List R4} (h:¬ goodF p l):tabL p l = []/\tabN p l=2:=by
 have e:tabO p l=none:=by unfold tabO;rw [ah h]
 unfold tabL tabN;rw [e];exact ⟨rfl,rfl⟩
theorem tab_stop {l:List R4} (h:scan (l.drop 1)=none):tabL p l = []/\tabN p l=2:=by
 have e:tabO p l=none:=by unfold tabO;rw [h];split <;> rfl
 unfold tabL tabN;rw [e];exact ⟨rfl,rfl⟩
theorem tab_yes {l:List R4} (hg:goodF p l) (h:scan (l.drop 1)=some m) (hm:mayP m):tabL p l=m/\tabN p l=0:=by
 have e:tabO p l=some m:=by unfold tabO;rw [aj hg,h,Option.filter_eq_some_iff];exact ⟨rfl,an hm⟩
 unfold tabL tabN;rw [e];exact ⟨rfl,rfl⟩
theorem tab_no {l:List R4} (h:scan (l.drop 1)=some m) (hm:¬ mayP m):tabL p l = []/\tabN p l=2:=by
 have e:tabO p l=none:=by
  unfold tabO
  split
  ·rw [h]
   show (some m).filter mayB=none
   simp only [Option.filter,mayB,ak hm,cE,if_false]
  ·rfl
 unfold tabL tabN;rw [e];exact ⟨rfl,rfl⟩
def Read (r:List R4) (k:Nat) (L:List E5):Prop:=L.length=k/\scan r=(scan (r.drop k)).map (L ++ ·)
theorem read_start (r:List R4):Read r 0 []:=⟨rfl,by simp⟩
variable {r:List R4}
theorem drop_cons (h:k < r.length):r.drop k=rat r k :: r.drop (k+1):=by
 rw [List.drop_eq_getElem_cons h]
 congr 1
 unfold rat;rw [af,ai h]
 rfl
theorem read_bad (h:Read r k L) (hk:k < r.length) (hb:¬ okE (takeX (rat r k))):scan r=none:=by
 rw [h.2,drop_cons hk];simp only [scan,ah hb,Option.map_none]
theorem read_end (h:Read r k L) (hk:k < r.length) (hb:okE (takeX (rat r k))) (h4:(takeX (rat r k)).1=4):scan r=some L:=by
 rw [h.2,drop_cons hk];simp only [scan,aj hb,aj h4,bS,List.append_nil]
theorem read_next (h:Read r k L) (hk:k < r.length) (hb:okE (takeX (rat r k))) (h4:(takeX (rat r k)).1≠4):Read r (k+1) (L ++ [takeX (rat r k)]):=by
 refine ⟨by rw [bj,h.1];rfl,?_⟩;rw [h.2,drop_cons hk];simp only [scan,aj hb,ah h4,Option.map_map]
 congr 1
 funext m
 simp
theorem read_all (h:Read r r.length L):scan r=some L:=by
 rw [h.2,List.drop_length]
 simp [scan]
def fileL (l:List E5):List R4:=hdr 3 ((l.length:Int)+1) :: (l.map putR ++ [endR])
def fL (l:List E5):List R4:=if mayP l then fileL l else []
def fP (l:List E5):Int:=if mayP l then 3 else 0
def fN (l:List E5):Int:=if mayP l then 0 else 1
theorem may_each (h:mayP l):∀ x∈l,okE x/\x.1≠4:=fun x hx=>by
 obtain ⟨i,hi,e⟩:=bK hx;have g:=(okAt_iff (fun j hj=>h j (by omega))).1 (h i hi);have e':eat l i=x:=by
  have:=eat_get hi;rw [ai hi,e] at this;exact (bh this).symm
 rw [e'] at g;exact ⟨g.1,g.2.1⟩
def part (h:R4) (l:List E5) (k:Nat):List R4:=h :: ((l.take k).map putR ++ List.replicate (l.length+1 - k) z4)
theorem part_len (h:R4) (l:List E5) (k:Nat) (hk:k<=l.length):(part h l k).length=l.length+2:=by
 simp [part,List.length_take]
 omega
theorem part_start (h:R4) (l:List E5):part h l 0=h :: List.replicate (l.length+1) z4:=by simp [part]
theorem take_next (hk:k < l.length):l.take (k+1)=l.take k ++ [eat l k]:=by
 rw [bG,eat_get hk]
 rfl
theorem part_set (h:R4) (hk:k < l.length):(part h l k).set (1+k) (putR (eat l k))=part h l (k+1):=by
 have e1:(l.take k).length=k:=by rw [aW];omega
 unfold part;rw [Nat.add_comm 1 k,List.set_cons_succ,cH _ _ (by rw [aL,e1];omega),aL,e1,Nat.sub_self,take_next hk];rw [show l.length+1 - k=(l.length+1 - (k+1))+1 by omega,List.replicate_succ]
 simp
theorem part_end (h:R4) (l:List E5):(part h l l.length).set (1+l.length) endR=h :: (l.map putR ++ [endR]):=by
 unfold part;rw [Nat.add_comm 1,List.set_cons_succ,cH _ _ (by simp),br];have e:l.length+1 - l.length=1:=by omega
 rw [e]
 simp
end Ro
namespace Ck
open Ro (E5 z5 eat mayP mayB okE okAt eat_get eat_mem prevS prev_next okE_bounds)
abbrev LL:=List (List E5)
def lat (L:LL) (n:Nat):List E5:=L.getD n []
variable {L:LL}
theorem drop_lat {k:Nat} (h:k < L.length):L.drop k=lat L k :: L.drop (k+1):=by
 rw [List.drop_eq_getElem_cons h]
 congr 1
 unfold lat;rw [af,ai h]
 rfl
theorem drop_eat {t:List E5} {i:Nat} (h:i < t.length):t.drop i=eat t i :: t.drop (i+1):=by
 rw [List.drop_eq_getElem_cons h]
 congr 1
 have:=eat_get h;rw [ai h] at this;exact bh this
theorem lat_take {n j:Nat} (h:j < n):lat (L.take n) j=lat L j:=by
 unfold lat;rw [af,af,db,aj h]
def scn (p:Nat->E5->Bool):Nat->LL->Option (Nat×E5)
 | _,[]=>none
 | n,t :: r=>match t.find? (p n) with
   | some x=>some (n,x)
   | none=>scn p (n+1) r
def whoN (p:Nat->E5->Bool) (L:LL):Int:=match scn p 0 L with
 | some y=>y.1
 | none=>-1
def whoE (p:Nat->E5->Bool) (L:LL):E5:=match scn p 0 L with
 | some y=>y.2
 | none=>z5
def Ahead (p:Nat->E5->Bool) (L:LL) (k:Nat):Prop:=scn p 0 L=scn p k (L.drop k)
def Within (p:Nat->E5->Bool) (L:LL) (k i:Nat):Prop:=Ahead p L k/\(lat L k).find? (p k)=((lat L k).drop i).find? (p k)
section
variable {p:Nat->E5->Bool} {L:LL} {k i:Nat}
theorem ahead_zero:Ahead p L 0:=rfl
theorem within_zero (h:Ahead p L k):Within p L k 0:=⟨h,rfl⟩
theorem within_hit (h:Within p L k i) (hk:k < L.length) (hi:i < (lat L k).length) (hp:p k (eat (lat L k) i)=true):whoN p L=k/\whoE p L=eat (lat L k) i:=by
 have e:scn p 0 L=some (k,eat (lat L k) i):=by
  rw [h.1,drop_lat hk];simp only [scn,h.2,drop_eat hi,List.find?_cons,hp]
 unfold whoN whoE;rw [e];exact ⟨rfl,rfl⟩
theorem within_next (h:Within p L k i) (hi:i < (lat L k).length) (hp:p k (eat (lat L k) i)=false):Within p L k (i+1):=by
 refine ⟨h.1,?_⟩;rw [h.2,drop_eat hi,List.find?_cons,hp]
theorem within_end (h:Within p L k (lat L k).length) (hk:k < L.length):Ahead p L (k+1):=by
 unfold Ahead;have e:=h.2;rw [List.drop_length] at e;rw [h.1,drop_lat hk];simp only [scn,e,List.find?_nil]
theorem ahead_end (h:Ahead p L L.length):whoN p L = -1/\whoE p L=z5:=by
 have e:scn p 0 L=none:=by rw [h,List.drop_length];rfl
 unfold whoN whoE;rw [e];exact ⟨rfl,rfl⟩
end
theorem scn_some {p:Nat->E5->Bool} : ∀ {L:LL} {n0 n:Nat} {x:E5},scn p n0 L=some (n,x)->∃ k,n=n0+k/\k < L.length/\x∈lat L k/\p n x=true/\∀ j,j < k->∀ y∈lat L j,p (n0+j) y=false
 | [],_,_,_,h=>by cases h
 | t :: r,n0,n,x,h=>by
   rcases e:t.find? (p n0) with _ | y
   ·simp only [scn,e] at h
    obtain ⟨k,e1,h1,h2,h3,h4⟩:=scn_some h;refine ⟨k+1,by omega,by simp;omega,h2,h3,fun j hj y hy=>?_⟩
    rcases j with _ | j
    ·rw [cZ] at e
     simpa using e y hy
    ·have:=h4 j (by omega) y hy
     rw [show n0+(j+1)=n0+1+j by omega];exact this
   ·simp only [scn,e,bY,Prod.mk.injEq] at h
    obtain ⟨rfl,rfl⟩:=h;exact ⟨0,rfl,by simp,List.mem_of_find?_eq_some e,List.find?_some e,fun j hj=>absurd hj (ci _)⟩
theorem scn_none {p:Nat->E5->Bool} : ∀ {L:LL} {n0:Nat},scn p n0 L=none->∀ k,k < L.length->∀ x∈lat L k,p (n0+k) x=false
 | [],_,_,k,hk=>by cases hk
 | t :: r,n0,h,k,hk=>by
   rcases e:t.find? (p n0) with _ | y
   ·simp only [scn,e] at h
    intro x hx
    rcases k with _ | k
    ·rw [cZ] at e
     simpa using e x hx
    ·have:=scn_none h k (by simpa using hk) x hx
     rw [show n0+(k+1)=n0+1+k by omega];exact this
   ·simp only [scn,e] at h
    cases h
theorem find_congr {p q:E5->Bool} : ∀ {t:List E5},(∀ x∈t,p x=q x)->t.find? p=t.find? q
 | [],_=>rfl
 | x :: r,h=>by rw [List.find?_cons,List.find?_cons,h x (aO ..),find_congr fun y hy=>h y (aJ _ hy)]
theorem scn_congr {p q:Nat->E5->Bool} : ∀ {L:LL} {n0:Nat},(∀ k,k < L.length->∀ x∈lat L k,p (n0+k) x=q (n0+k) x)->scn p n0 L=scn q n0 L
 | [],_,_=>rfl
 | t :: r,n0,h=>by
   have e:t.find? (p n0)=t.find? (q n0):=find_congr fun x hx=>h 0 (by simp) x hx;have ih:=scn_congr (p:=p) (q:=q) (L:=r) (n0:=n0+1) fun k hk x hx=>by
    have:=h (k+1) (by simp;omega) x hx;rw [show n0+1+k=n0+(k+1) by omega];exact this
   simp only [scn,e,ih]
theorem who_cases (p:Nat->E5->Bool) (L:LL):(∃ n x,n < L.length/\x∈lat L n/\p n x=true/\(∀ m,m < n->∀ y∈lat L m,p m y=false)/\whoN p L=n/\whoE p L=x)\/((∀ n,n < L.length->∀ x∈lat L n,p n x=false)/\whoN p L = -1/\whoE p L=z5):=by
 rcases e:scn p 0 L with _ | ⟨n,x⟩
 ·right
  refine ⟨fun n hn x hx=>by simpa using scn_none e n hn x hx,?_,?_⟩
  ·unfold whoN;rw [e]
  ·unfold whoE;rw [e]
 ·left
  obtain ⟨k,e1,h1,h2,h3,h4⟩:=scn_some e;obtain rfl:n=k:=by omega
  refine ⟨n,x,h1,h2,h3,fun m hm y hy=>by simpa using h4 m hm y hy,?_,?_⟩
  ·unfold whoN;rw [e]
  ·unfold whoE;rw [e]
variable {p q:Nat->E5->Bool}
theorem who_congr (h:∀ k,k < L.length->∀ x∈lat L k,p k x=q k x):whoN p L=whoN q L/\whoE p L=whoE q L:=by
 have e:scn p 0 L=scn q 0 L:=scn_congr fun k hk x hx=>by simpa using h k hk x hx
 unfold whoN whoE;rw [e];exact ⟨rfl,rfl⟩
theorem who_hit {n:Nat} {x:E5} (hn:n < L.length) (hx:x∈lat L n) (hp:p n x=true):0<=whoN p L/\whoN p L<=n:=by
 rcases who_cases p L with ⟨m,y,h1,h2,h3,h4,e,_⟩ | ⟨h,e,_⟩
 ·rw [e]
  refine ⟨by omega,?_⟩
  by_cases g:n < m
  ·have:=h4 n g x hx
   rw [hp] at this
   cases this
  ·omega
 ·have:=h n hn x hx
  rw [hp] at this
  cases this
def idx (q:List E5->Bool):Nat->LL->Int
 | _,[]=>-1
 | n,t :: r=>if q t then n else idx q (n+1) r
def IAhead (q:List E5->Bool) (L:LL) (k:Nat):Prop:=idx q 0 L=idx q k (L.drop k)
section
variable {q:List E5->Bool} {L:LL} {k:Nat}
theorem iahead_zero:IAhead q L 0:=rfl
theorem iahead_hit (h:IAhead q L k) (hk:k < L.length) (hq:q (lat L k)=true):idx q 0 L=k:=by
 rw [h,drop_lat hk];simp only [idx,hq,if_true]
theorem iahead_next (h:IAhead q L k) (hk:k < L.length) (hq:q (lat L k)=false):IAhead q L (k+1):=by
 unfold IAhead;rw [h,drop_lat hk];simp only [idx,hq,cE,if_false]
theorem iahead_end (h:IAhead q L L.length):idx q 0 L = -1:=by rw [h,List.drop_length];rfl
end
theorem idx_all {q:List E5->Bool} : ∀ {L:LL} {n:Nat},idx q n L < 0->∀ k,k < L.length->q (lat L k)=false
 | [],_,_,k,hk=>by cases hk
 | t :: r,n,h,k,hk=>by
   by_cases e:q t=true
   ·simp only [idx,e,if_true] at h
    omega
   ·simp only [idx,e,cE,if_false] at h
    rcases k with _ | k
    ·show q t=false
     simpa using e
    ·exact idx_all h k (by simpa using hk)
def snd (s:Int) (_:Nat) (x:E5):Bool:=decide (x.1=1/\x.2.1=s)
def sN (s:Int) (L:LL):Int:=whoN (snd s) L
def sE (s:Int) (L:LL):E5:=whoE (snd s) L
variable {s:Int} {n:Nat} {x:E5}
theorem snd_yes (h1:x.1=1) (h2:x.2.1=s):snd s n x=true:=an ⟨h1,h2⟩
theorem snd_no (h:¬ (x.1=1/\x.2.1=s)):snd s n x=false:=ak h
theorem snd_is (h:snd s n x=true):x.1=1/\x.2.1=s:=of_decide_eq_true h
theorem sN_take (hn:n<=L.length) (s:Int):0<=sN s (L.take n)↔0<=sN s L/\sN s L < n:=by
 unfold sN;have hl:(L.take n).length=n:=by rw [aW];omega
 rcases who_cases (snd s) (L.take n) with ⟨m,y,h1,h2,h3,h4,e,_⟩ | ⟨h,e,_⟩
 ·rw [hl] at h1
  rw [lat_take h1] at h2;have g:=who_hit (p:=snd s) (L:=L) (by omega) h2 h3
  constructor
  ·intro _;omega
  ·intro _;omega
 ·constructor
  ·intro g;omega
  ·intro ⟨g1,g2⟩
   rcases who_cases (snd s) L with ⟨m,y,h1,h2,h3,h4,e',_⟩ | ⟨_,e',_⟩
   ·have hm:m < n:=by omega
    have:=h m (by omega) y (by rw [lat_take hm];exact h2);rw [h3] at this
    cases this
   ·omega
def bad (t:List E5):Bool:=!mayB t
def bI (L:LL):Int:=idx bad 0 L
def pc (L:LL) (n:Nat) (x:E5):Bool:=decide (x.1=1/\0<=sN x.2.1 (L.take n))
def pg (L:LL) (_:Nat) (x:E5):Bool:=decide (x.1=2/\sN x.2.1 L < 0)
def qc (F:Nat->Int) (n:Nat) (x:E5):Bool:=decide (x.1=1/\¬ F x.2.1.toNat=n)
def qg (F:Nat->Int) (_:Nat) (x:E5):Bool:=decide (x.1=2/\F x.2.1.toNat < 0)
def clN (L:LL):Int:=whoN (pc L) L
def gaN (L:LL):Int:=whoN (pg L) L
def sF (L:LL) (s:Nat):Int:=sN s L
def tN (L:LL):Int:=if 0<=bI L then bI L else if 0<=clN L then clN L else if 0<=gaN L then gaN L else -1
def tE (L:LL):Int:=if 0<=bI L then 2 else if 0<=clN L then 8 else if 0<=gaN L then 9 else 0
theorem t_form (h:0<=bI L):tN L=bI L/\tE L=2:=by unfold tN tE;rw [aj h,aj h];exact ⟨rfl,rfl⟩
theorem t_clash (h:¬ 0<=bI L) (h2:0<=clN L):tN L=clN L/\tE L=8:=by unfold tN tE;rw [ah h,ah h,aj h2,aj h2];exact ⟨rfl,rfl⟩
theorem t_gap (h:¬ 0<=bI L) (h2:¬ 0<=clN L) (h3:0<=gaN L):tN L=gaN L/\tE L=9:=by unfold tN tE;rw [ah h,ah h,ah h2,ah h2,aj h3,aj h3];exact ⟨rfl,rfl⟩
theorem t_ok (h:¬ 0<=bI L) (h2:¬ 0<=clN L) (h3:¬ 0<=gaN L):tN L = -1/\tE L=0:=by unfold tN tE;rw [ah h,ah h,ah h2,ah h2,ah h3,ah h3];exact ⟨rfl,rfl⟩
theorem may_all (h:¬ 0<=bI L):∀ k,k < L.length->mayP (lat L k):=fun k hk=>by
 have:=idx_all (q:=bad) (L:=L) (n:=0) (by unfold bI at h;omega) k hk;unfold bad mayB at this
 simpa using this
theorem may_slot {t:List E5} (h:mayP t) (hx:x∈t):0<=x.2.1/\x.2.1<=16:=(okE_bounds (Ro.may_each h x hx).1).2.1
theorem clash_same (h:¬ 0<=bI L):whoN (qc (sF L)) L=clN L:=by
 refine (who_congr fun k hk x hx=>?_).1;have b:=may_slot (may_all h k hk) hx;unfold qc pc sF;rw [show ((x.2.1.toNat:Nat):Int)=x.2.1 by omega]
 by_cases h1:x.1=1
 ·have g:=who_hit (p:=snd x.2.1) hk hx (snd_yes h1 rfl)
  have t:=sN_take (L:=L) (n:=k) (by omega) x.2.1;unfold sN at t ⊢
  apply bf.2
  constructor
  ·intro ⟨_,a⟩;exact ⟨h1,t.2 ⟨g.1,by omega⟩⟩
  ·intro ⟨_,a⟩;have:=t.1 a;exact ⟨h1,by omega⟩
 ·simp [h1]
theorem gap_same (h:¬ 0<=bI L):whoN (qg (sF L)) L=gaN L:=by
 refine (who_congr fun k hk x hx=>?_).1;have b:=may_slot (may_all h k hk) hx;unfold qg pg sF;rw [show ((x.2.1.toNat:Nat):Int)=x.2.1 by omega]
def all (p:E5->Bool) (L:LL):Nat:=L.flatten.countP p
section
end
end Ck
namespace Ua
open Go.RowKit
def bit (b:Int) (j:Nat):Bool:=decide (b / 2 ^ j % 2=1)
def par (F:Nat->Bool):Nat->Bool
 | 0=>false
 | k+1=>par F k != F (k+1)
def val (F:Nat->Bool):Nat->Nat
 | 0=>0
 | k+1=>val F k+if F (k+1) then 2 ^ k else 0
def upd (F:Nat->Bool) (k:Nat) (x:Bool) (i:Nat):Bool:=if i=k then x else F i
def put (b:Int) (k:Nat) (i:Nat):Bool:=if 1<=i/\i < k then bit b (i - 1) else false
def frm (b:Int) (odd:Bool):Nat->Bool:=upd (upd (put b 9) 9 (par (put b 9) 9 != odd)) 10 true
def turn (F:Nat->Bool) (m:Int) (k:Nat) (i:Nat):Bool:=if i < k then F i != bit m i else F i
def bad (F:Nat->Bool):Bool:=F 0 || !F 10
def tb (F:Nat->Bool):Int:=if bad F then 0 else val F 8
def tp (F:Nat->Bool):Bool:=if bad F then false else par F 9
def te (F:Nat->Bool):Int:=if bad F then 2 else 0
theorem par_congr {F G:Nat->Bool} : ∀ k,(∀ i,1<=i->i<=k->F i=G i)->par F k=par G k
 | 0,_=>rfl
 | k+1,h=>by rw [par,par,par_congr k (fun i h1 h2=>h i h1 (by omega)),h (k+1) (by omega) (by omega)]
theorem val_congr {F G:Nat->Bool} : ∀ k,(∀ i,1<=i->i<=k->F i=G i)->val F k=val G k
 | 0,_=>rfl
 | k+1,h=>by rw [val,val,val_congr k (fun i h1 h2=>h i h1 (by omega)),h (k+1) (by omega) (by omega)]
theorem val_lt (F:Nat->Bool):∀ k,val F k < 2 ^ k
 | 0=>Nat.lt_succ_self 0
 | k+1=>by have:=val_lt F k;rw [val,Nat.pow_succ];split <;> omega
theorem and_bit_all:∀ b:Fin 256,∀ j:Fin 8,(bits BinOp.and .u8 (b.val:Int) (2 ^ j.val) != 0)=decide ((b.val:Int) / 2 ^ j.val % 2=1):=by decide +kernel
theorem and_bit (b:Int) (j:Nat) (h0:0<=b) (h1:b<=255) (hj:j < 8):(bits BinOp.and .u8 b (2 ^ j) != 0)=bit b j:=by
 have:=and_bit_all ⟨b.toNat,by omega⟩ ⟨j,hj⟩;simp only at this;rw [show ((b.toNat:Nat):Int)=b by omega] at this;exact this
theorem or_bit_all:∀ b:Fin 256,∀ j:Fin 8,b.val < 2 ^ j.val->bits BinOp.or .u8 (b.val:Int) (2 ^ j.val)=((b.val+2 ^ j.val:Nat):Int):=by decide +kernel
theorem or_bit (b j:Nat) (hj:j < 8) (h:b < 2 ^ j):bits BinOp.or .u8 (b:Int) (2 ^ j)=((b+2 ^ j:Nat):Int) :=
 or_bit_all ⟨b,by have:2 ^ j<=2 ^ 7:=Nat.pow_le_pow_right (by omega) (by omega)
                  omega⟩ ⟨j,hj⟩ h
theorem and_i64 (x:Int) (c:Nat) (hc:c < 9223372036854775808):bits BinOp.and .i64 x (c:Int)=(((x % 18446744073709551616).toNat &&& c:Nat):Int):=by
 have e:(BitVec.ofInt 64 x &&& BitVec.ofInt 64 (c:Int)).toNat=(x % 18446744073709551616).toNat &&& c:=by
  rw [BitVec.toNat_and,BitVec.toNat_ofInt,BitVec.toNat_ofInt]
  congr 1
  simp
  omega
 show IntKind.i64.wrap (((BitVec.ofInt 64 x &&& BitVec.ofInt 64 (c:Int)).toNat:Nat):Int)=_
 rw [e];have l:(x % 18446744073709551616).toNat &&& c<=c:=Nat.and_le_right;exact aR _ (by omega)
theorem and_one (x:Int):bits BinOp.and .i64 x 1=x % 2:=by
 have:=and_i64 x 1 (by omega);rw [Nat.and_one_is_mod] at this;rw [show (1:Int)=((1:Nat):Int) from rfl,this]
 omega
theorem test_one (m:Int) (k:Nat):(bits BinOp.and .i64 (m / 2 ^ k) 1 == 1)=bit m k:=by rw [and_one];rfl
end Ua
namespace Pa
open Go.RowKit
open Fs (Fil Abs key Srt OkA gB gV sB sA dA dE dD dV addE addA look_some look_none look_at map_look put_set)
open Ro (E5 z5 okE eat mayP)
open Ck (LL lat sN sE tE)
open Ua (bit frm te tp tb upd)
def rb (v:R4) (b:Int):Int:=if b=0 then v.1 else if b=1 then v.2.1 else if b=2 then v.2.2.1 else v.2.2.2
def rs (v:R4) (b x:Int):R4:=if b=0 then (x,v.2.1,v.2.2.1,v.2.2.2) else if b=1 then (v.1,x,v.2.2.1,v.2.2.2) else if b=2 then (v.1,v.2.1,x,v.2.2.2) else (v.1,v.2.1,v.2.2.1,x)
def byt (x:Int):Prop:=0<=x/\x<=255
variable {v:R4}
theorem rb_ok (h:okR v) (b:Int):byt (rb v b):=by
 obtain ⟨h1,h2,h3,h4⟩:=h;unfold rb byt
 split
 ·exact h1
 ·split
  ·exact h2
  ·split
   ·exact h3
   ·exact h4
theorem rs_ok (h:okR v) (b:Int) {x:Int} (hx:byt x):okR (rs v b x):=by
 obtain ⟨h1,h2,h3,h4⟩:=h;unfold rs
 split
 ·exact ⟨hx,h2,h3,h4⟩
 ·split
  ·exact ⟨h1,hx,h3,h4⟩
  ·split
   ·exact ⟨h1,h2,hx,h4⟩
   ·exact ⟨h1,h2,h3,hx⟩
theorem rs_swap (v:R4) {a b:Int} (h:a≠b) (ha:0<=a/\a<=3) (hb:0<=b/\b<=3) (x y:Int):rs (rs v a x) b y=rs (rs v b y) a x:=by
 obtain rfl | rfl | rfl | rfl:a=0\/a=1\/a=2\/a=3:=by omega
 all_goals
  obtain rfl | rfl | rfl | rfl:b=0\/b=1\/b=2\/b=3:=by omega
  all_goals first | (exact absurd rfl h) | rfl
theorem rs_twice (v:R4) (a x y:Int):rs (rs v a x) a y=rs v a y:=by
 unfold rs
 by_cases h0:a=0
 ·simp [h0]
 ·by_cases h1:a=1
  ·simp [h1]
  ·by_cases h2:a=2
   ·simp [h2]
   ·simp [h0,h1,h2]
abbrev Hr:=Int->Option Int
def mt (f r:Int) (x:E5):Bool:=decide (x.1=2/\x.2.2.1=f/\x.2.2.2.1=r)
def grp (t:List E5) (f r:Int):List E5:=t.filter (mt f r)
def allH (h:Hr) (l:List E5):Bool:=l.all fun x=>(h x.2.1).isSome
def mix (h:Hr) (l:List E5) (v:R4):R4:=l.foldl (fun v x=>rs v x.2.2.2.2 ((h x.2.1).getD 0)) v
def newV (h:Hr) (l:List E5) (v:R4):R4:=if allH h l=true then mix h l v else v
def okH (h:Hr):Prop:=∀ n y,h n=some y->byt y
def okY (l:List E5):Prop:=∀ x∈l,0<=x.2.2.2.2/\x.2.2.2.2<=3
variable {h:Hr}
theorem getD_ok (hh:okH h) (n:Int):byt ((h n).getD 0):=by
 rcases e:h n with _ | y
 ·exact ⟨cP _,by show (0:Int)<=255;omega⟩
 ·exact hh n y e
theorem mix_ok {h:Hr} (hh:okH h):∀ (l:List E5) {v:R4},okR v->okR (mix h l v)
 | [],_,hv=>hv
 | _ :: r,_,hv=>mix_ok hh r (rs_ok hv _ (getD_ok hh _))
theorem newV_ok (hh:okH h) (l:List E5) (hv:okR v):okR (newV h l v):=by
 unfold newV
 split
 ·exact mix_ok hh l hv
 ·exact hv
theorem newV_nil (h:Hr) (v:R4):newV h [] v=v:=rfl
theorem mix_cons (h:Hr) (x:E5) (r:List E5) (v:R4):mix h (x :: r) v=mix h r (rs v x.2.2.2.2 ((h x.2.1).getD 0)):=rfl
theorem mix_rs {h:Hr} (a x:Int) (ha:0<=a/\a<=3):∀ (l:List E5) (v:R4),okY l->mix h l (rs v a x)=if l.any (fun y=>decide (y.2.2.2.2=a))=true then mix h l v else rs (mix h l v) a x
 | [],_,_=>rfl
 | y :: r,v,hy=>by
   have hr:okY r:=fun z hz=>hy z (aJ _ hz);have hy0:=hy y (aO ..);rw [mix_cons,mix_cons,List.any_cons]
   by_cases e:y.2.2.2.2=a
   ·rw [e,rs_twice,an (rfl:a=a),Bool.true_or,aj rfl]
   ·rw [ak e,Bool.false_or,rs_swap _ (fun h=>e h.symm) ha hy0,mix_rs a x ha r _ hr]
theorem mix_mix {h:Hr} : ∀ (l:List E5) (v:R4),okY l->mix h l (mix h l v)=mix h l v
 | [],_,_=>rfl
 | x :: r,v,hy=>by
   have hr:okY r:=fun z hz=>hy z (aJ _ hz);have hx:=hy x (aO ..);have ih:=mix_mix (h:=h) r v hr;rw [mix_cons,mix_cons,mix_rs _ _ hx r v hr]
   split
   ·rename_i hany
    rw [mix_rs _ _ hx r _ hr,aj hany,ih]
   ·rename_i hany
    rw [rs_twice,mix_rs _ _ hx r _ hr,ah hany,ih]
theorem newV_newV {l:List E5} (hy:okY l) (v:R4):newV h l (newV h l v)=newV h l v:=by
 unfold newV
 by_cases e:allH h l=true
 ·simp only [e,if_true]
  exact mix_mix l v hy
 ·simp only [e,if_false,cE]
def recF (h:Hr) (t:List E5) (V:Int->Int->Bool) (e:Fil):Fil:=(e.1,e.2.1,e.2.2.mapIdx fun k v=>if V e.1 k=true then newV h (grp t e.1 k) v else v)
def recV (h:Hr) (t:List E5) (V:Int->Int->Bool) (A:Abs):Abs:=A.map (recF h t V)
def recA (h:Hr) (t:List E5) (A:Abs):Abs:=recV h t (fun _ _=>true) A
section
variable {h:Hr} {t:List E5} {V:Int->Int->Bool} {A:Abs}
theorem recF_len (e:Fil):(recF h t V e).2.2.length=e.2.2.length:=by simp [recF]
theorem recF_get (e:Fil) (k:Nat):(recF h t V e).2.2[k]? = (e.2.2[k]?).map fun v=>if V e.1 k=true then newV h (grp t e.1 k) v else v:=by simp [recF]
theorem recF_rat (e:Fil) {k:Nat} (hk:k < e.2.2.length):rat (recF h t V e).2.2 k=if V e.1 k=true then newV h (grp t e.1 k) (rat e.2.2 k) else rat e.2.2 k:=by
 unfold rat;rw [af,af,recF_get,ai hk]
 rfl
theorem rec_look (n:Int):Fs.look key n (recV h t V A)=(Fs.look key n A).map (recF h t V):=map_look (κ:=key) (κ':=key) (f:=recF h t V) (fun _=>rfl) n A
theorem rec_gB (n k:Int):gB (recV h t V A) n k=gB A n k:=by
 unfold gB;rw [rec_look]
 cases Fs.look key n A with
 | none=>rfl
 | some e=>simp [recF_len]
theorem rec_gV (n k:Int) (hg:gB A n k=true):gV (recV h t V A) n k=if V n k=true then newV h (grp t n k) (gV A n k) else gV A n k:=by
 unfold gB at hg;unfold gV;rw [rec_look]
 rcases e:Fs.look key n A with _ | c
 ·rw [e] at hg
  cases hg
 ·rw [e] at hg
  simp only [aZ] at hg;obtain ⟨_,hk⟩:=look_some e;have hn:c.1=n:=hk;simp only [bS];rw [aj (by rw [recF_len];exact hg),aj hg,recF_rat c (by omega)];have ek:((k.toNat:Nat):Int)=k:=by omega
  rw [ek,hn]
theorem rec_none (hV:∀ n k,V n k=false):recV h t V A=A:=by
 unfold recV;rw [List.map_congr_left (g:=id) (fun e _=>?_),List.map_id];obtain ⟨n,p,l⟩:=e;simp only [recF,hV,id]
 congr 2
 exact bZ fun k=>by simp
theorem rec_congr {V':Int->Int->Bool} (hV:∀ n k,grp t n k≠[]->V n k=V' n k):recV h t V A=recV h t V' A:=by
 unfold recV;refine List.map_congr_left fun e _=>?_;unfold recF
 congr 2
 refine bZ fun k=>?_;simp only [List.getElem?_mapIdx]
 cases e.2.2[k]? with
 | none=>rfl
 | some v =>
   by_cases hg:grp t e.1 k = []
   ·simp [hg,newV_nil]
   ·simp [hV _ _ hg]
theorem rec_all (hV:∀ n k,grp t n k≠[]->V n k=true):recV h t V A=recA h t A:=rec_congr hV
def also (V:Int->Int->Bool) (n k:Int) (a b:Int):Bool:=V a b || decide (a=n/\b=k)
variable {k n:Int}
theorem rec_set (hA:OkA A) (hg:gB A n k=true) (h0:k≠0) (hy:okY (grp t n k)):sA (recV h t V A) n k (newV h (grp t n k) (gV (recV h t V A) n k))=recV h t (also V n k) A:=by
 have hgr:gB (recV h t V A) n k=true:=(rec_gB n k).trans hg;have hsb:sB (recV h t V A) n k=true:=by unfold sB;rw [hgr,an h0];rfl
 have hv:=rec_gV (h:=h) (t:=t) (V:=V) n k hg;have hval:newV h (grp t n k) (gV (recV h t V A) n k)=newV h (grp t n k) (gV A n k):=by
  rw [hv]
  split
  ·exact newV_newV hy _
  ·rfl
 rw [hval];unfold gB at hg
 rcases e:Fs.look key n A with _ | c
 ·rw [e] at hg
  cases hg
 rw [e] at hg;simp only [aZ] at hg;obtain ⟨hm,hk⟩:=look_some e;have hn:=hk;have hvA:gV A n k=rat c.2.2 k.toNat:=by unfold gV;rw [e];exact aj hg
 rw [hvA];unfold sA;rw [rec_look,e];simp only [bS];rw [aj hsb];obtain ⟨i,hi⟩:=bH hm;have hsr:Srt key (recV h t V A):=(Fs.map_srt (κ:=key) (κ':=key) (f:=recF h t V) (fun _=>rfl)).2 hA.srt;have hir:(recV h t V A)[i]? = some (recF h t V c):=by unfold recV;rw [a9,hi];rfl
 rw [put_set (κ:=key) (c:=(n,(recF h t V c).2.1,(recF h t V c).2.2.set k.toNat (newV h (grp t n k) (rat c.2.2 k.toNat)))) hsr hir (show c.1=n from hn)];refine bZ fun j=>?_;rw [cQ];have hlen:=(aM.1 hir).1
 by_cases hj:i=j
 ·subst hj
  rw [aj rfl,aj hlen];unfold recV;rw [a9,hi];simp only [bS,bY];unfold recF;refine Prod.ext hn.symm (Prod.ext rfl ?_);refine bZ fun q=>?_;simp only [cQ,List.length_mapIdx,List.getElem?_mapIdx]
  by_cases hq:k.toNat=q
  ·subst hq
   have hql:k.toNat < c.2.2.length:=by omega
   rw [aj rfl,aj hql,ai hql];have ek:((k.toNat:Nat):Int)=k:=by omega
   simp only [bS,ek,also,hn,and_self,decide_true,Bool.or_true,if_true]
   congr 2
   unfold rat;rw [af,ai hql]
   rfl
  ·rw [ah hq]
   have hne:¬ (q:Int)=k:=by omega
   cases c.2.2[q]? with
   | none=>rfl
   | some v=>simp [also,hne]
 ·rw [ah hj]
  unfold recV;rw [a9,a9]
  rcases ej:A[j]? with _ | x
  ·rfl
  ·have hne:x.1≠n:=fun hx=>by
    have hxm:=bo ej;have q1:=look_at hA.srt hxm;rw [show key x=n from hx,e] at q1;injection q1 with q1;subst q1;have hi':=(aM.1 hi).1;have hj':=(aM.1 ej).1;have pw:=cx.1 hA.srt;have g1:A[i]=c:=by have:=hi;rw [ai hi'] at this;simpa using this
    have g2:A[j]=c:=by have:=ej;rw [ai hj'] at this;simpa using this
    rcases Nat.lt_or_gt_of_ne hj with hlt | hlt
    ·have:=pw i j hi' hj' hlt
     rw [g1,g2] at this
     omega
    ·have:=pw j i hj' hi' hlt
     rw [g1,g2] at this
     omega
   simp only [bS,bY];unfold recF
   congr 2
   refine bZ fun q=>?_
   simp [also,hne]
theorem rec_out (hA:OkA A) (hg:gB A n k=false):recV h t (also V n k) A=recV h t V A:=by
 unfold recV;refine List.map_congr_left fun e he=>?_;unfold recF
 congr 2
 refine bZ fun q=>?_;simp only [List.getElem?_mapIdx]
 by_cases hx:e.1=n/\(q:Int)=k
 ·obtain ⟨h1,h2⟩:=hx
  have q1:=look_at hA.srt he;rw [show key e=n from h1] at q1;unfold gB at hg;rw [q1] at hg;simp only [decide_eq_false_iff_not] at hg;rw [cI (by omega)]
  rfl
 ·simp [also,hx]
end
end Pa
