import Derived.Test.YtdbdacceecnpmaaGreatDoorQo1
import Derived.Great.BuildSlice
set_option maxRecDepth 100000
set_option maxHeartbeats 4000000
namespace Go.Proofs.YtdbdacceecnpmaaGreatDoor
open Go.Proofs.Tryz
open Fl (K4 R4 aG aL bG bJ bytes dF file inc jP jf kJ newR num rat z4)
open Rw (At Ow Rd)
namespace Sg
open Go.RowKit
open Sd (sM eH)
open Sc (In Cl)
def Dy (zs:List Nat) (listed:Array Bool):Bool:=zs.any fun z=>listed.getD z false
def cK (P:Program) (md:Region.Mode) (ops:Array Oper) (Q:Exit->Act->World->Prop) (S:World->Prop) (zs:List Nat):Nat->Array Bool->Act->World->Prop
 | 0,listed,a,w=>Region.ready md ops listed = []/\Q .normal a w
 | fuel+1,listed,a,w =>
   (Region.ready md ops listed = []->Q .normal a w) /\
   ∀ i∈Region.ready md ops listed,wpOp P ops Q i (fun a' w'=>(i∈zs\/Dy zs listed=true\/S w')/\cK P md ops Q S zs fuel (listed.setIfInBounds i true) a' w') a w
section
variable {P:Program} {md:Region.Mode} {ops:Array Oper} {Q:Exit->Act->World->Prop} {S:World->Prop} {zs:List Nat}
theorem rY:∀ (fuel:Nat) (listed:Array Bool) (a:Act) (w:World),cK P md ops Q S zs fuel listed a w->wpAny P md ops Q fuel listed a w
 | 0,_,_,_,h=>h
 | fuel+1,_,_,_,h=>⟨h.1,fun i hi=>wpOp_mono (fun a' w' h'=>rY fuel _ a' w' h'.2) (h.2 i hi)⟩
variable {j i fuel:Nat} {listed:Array Bool}
theorem Bp (h:j ∉ zs):Dy zs (listed.setIfInBounds j true)=Dy zs listed:=by
 unfold Dy;rw [Bool.eq_iff_iff,eQ,eQ];have e:∀ z∈zs,(listed.setIfInBounds j true).getD z false=listed.getD z false:=fun z hz=>by
  have ne:j≠z:=fun e=>h (e ▸ hz)
  simp [Array.getD_eq_getD_getElem?,ne]
 constructor
 ·rintro ⟨z,hz,g⟩
  exact ⟨z,hz,by rw [← e z hz];exact g⟩
 ·rintro ⟨z,hz,g⟩
  exact ⟨z,hz,by rw [e z hz];exact g⟩
theorem aaO (h:j∈zs) (hl:listed.getD j true=false):Dy zs (listed.setIfInBounds j true)=true:=by
 unfold Dy;refine eQ.2 ⟨j,h,?_⟩;have hs:j < listed.size:=by
  rcases ij j listed.size with h' | h'
  ·exact h'
  ·simp [Array.getElem?_eq_none h'] at hl
 simp [Array.getD_eq_getD_getElem?,hs]
theorem aaX (h:Dy zs listed=true):Dy zs (listed.setIfInBounds j true)=true:=by
 unfold Dy at *;obtain ⟨z,hz,g⟩:=eQ.1 h;refine eQ.2 ⟨z,hz,?_⟩
 by_cases e:j=z
 ·subst e
  have hs:j < listed.size:=by
   rcases ij j listed.size with h' | h'
   ·exact h'
   ·simp [Array.getD_eq_getD_getElem?,Array.getElem?_eq_none h'] at g
  simp [Array.getD_eq_getD_getElem?,hs]
 ·simp only [eh,cE,e,if_false] at g ⊢
  exact g
variable {oi:Oper} {v:Value}
theorem aaP (hi:ops[i]? = some oi) (hiz:i ∉ zs) (hsel:∀ (j:Nat) (o:Oper) cs b,ops[j]? = some o->o.op≠.select cs b)
 (hQ:∀ c a w,Q (.panic c) (a.put oi.dst v) w->Q (.panic c) a w) :
 ∀ (fuel:Nat) (listed:Array Bool) (a:Act) (w:World),
  (∀ j oj,ops[j]? = some oj->j≠i->listed.getD j true=false->(∀ e∈oj.after,Region.binds md e=true->e.on≠i)->oi.apart ops oj=true) ->
  i∈Region.ready md ops listed->YieldsIf P ops (fun _=>True) oi v a->(Dy zs listed=true\/S w) ->
  cK P md ops Q S zs fuel (listed.setIfInBounds i true) (a.put oi.dst v) w->cK P md ops Q S zs (fuel+1) listed a w:=by
 intro fuel
 induction fuel with
 | zero =>
   intro listed a w _ hr hy hS H
   refine ⟨fun h=>(by rw [h] at hr;cases hr),fun j hj=>?_⟩
   by_cases hji:j=i
   ·subst hji;exact hy.wpOp hi trivial ⟨.inr hS,H⟩
   ·have:=ready_mono hj hji
    rw [H.1] at this
    cases this
 | succ fuel ih =>
   intro listed a w hfree hr hy hS H
   refine ⟨fun h=>(by rw [h] at hr;cases hr),fun j hj=>?_⟩
   by_cases hji:j=i
   ·subst hji;exact hy.wpOp hi trivial ⟨.inr hS,H⟩
   ·have h1:=H.2 j (ready_mono hj hji)
    obtain ⟨hjun,oj,hoj,hall⟩:=mem_ready.1 hj;have hnot:∀ e∈oj.after,Region.binds md e=true->e.on≠i:=fun e he hb heq=>by
     have h1:=hall e he hb;have h0:=(mem_ready.1 hr).1;rw [heq] at h1
     rcases ij i listed.size with h' | h'
     ·simp [h'] at h0 h1;rw [h0] at h1;cases h1
     ·simp [Array.getElem?_eq_none h'] at h1
    have h2:=wpOp_putIf hoj (hfree j oj hoj hji hjun hnot) (fun cs b=>hsel i oi cs b hi) (fun cs b=>hsel j oj cs b hoj) hQ hy h1;have hfree':∀ k ok,ops[k]? = some ok->k≠i->(listed.setIfInBounds j true).getD k true=false ->
     (∀ e∈ok.after,Region.binds md e=true->e.on≠i)->oi.apart ops ok=true:=fun k ok hk hki hun hno=>by
     refine hfree k ok hk hki ?_ hno
     by_cases hjk:j=k
     ·subst hjk;exact hjun
     ·rw [getD_set_ne true hjk] at hun;exact hun
    refine wpOp_mono (fun a' w' h3=>?_) h2;have hq:j∈zs\/Dy zs listed=true\/S w':=by
     rcases h3.2.1 with g | g | g
     ·exact .inl g
     ·rw [Bp hiz] at g;exact .inr (.inl g)
     ·exact .inr (.inr g)
    have hS':Dy zs (listed.setIfInBounds j true)=true\/S w':=by
     rcases hq with g | g | g
     ·exact .inl (aaO g hjun)
     ·exact .inl (aaX g)
     ·exact .inr g
    refine ⟨hq,ih (listed.setIfInBounds j true) a' w' hfree' (ready_mono hr (Ne.symm hji)) h3.1 hS' ?_⟩;rw [iv _ _ hji];exact h3.2.2
theorem first (hi:ops[i]? = some oi) (hsel:∀ (j:Nat) (o:Oper) cs b,ops[j]? = some o->o.op≠.select cs b)
 (hQ:∀ c a w,Q (.panic c) (a.put oi.dst v) w->Q (.panic c) a w) :
 ∀ (fuel:Nat) (listed:Array Bool) (a:Act) (w:World),(∀ z∈zs,Sz.wM md ops z i listed)->Dy zs listed=false ->
  (∀ j oj,ops[j]? = some oj->j≠i->listed.getD j true=false->(∀ e∈oj.after,Region.binds md e=true->e.on≠i)->oi.apart ops oj=true) ->
  i∈Region.ready md ops listed->YieldsIf P ops S oi v a->S w ->
  cK P md ops Q S zs fuel (listed.setIfInBounds i true) (a.put oi.dst v) w->cK P md ops Q S zs (fuel+1) listed a w:=by
 intro fuel
 induction fuel with
 | zero =>
   intro listed a w _ _ _ hr hy hS H
   refine ⟨fun h=>(by rw [h] at hr;cases hr),fun j hj=>?_⟩
   by_cases hji:j=i
   ·subst hji;exact hy.wpOp hi hS ⟨.inr (.inr hS),H⟩
   ·have:=ready_mono hj hji
    rw [H.1] at this
    cases this
 | succ fuel ih =>
   intro listed a w hz hl0 hfree hr hy hS H
   refine ⟨fun h=>(by rw [h] at hr;cases hr),fun j hj=>?_⟩
   by_cases hji:j=i
   ·subst hji;exact hy.wpOp hi hS ⟨.inr (.inr hS),H⟩
   ·have h1:=H.2 j (ready_mono hj hji)
    obtain ⟨hjun,oj,hoj,hall⟩:=mem_ready.1 hj;have hnot:∀ e∈oj.after,Region.binds md e=true->e.on≠i:=fun e he hb heq=>by
     have h1:=hall e he hb;have h0:=(mem_ready.1 hr).1;rw [heq] at h1
     rcases ij i listed.size with h' | h'
     ·simp [h'] at h0 h1;rw [h0] at h1;cases h1
     ·simp [Array.getElem?_eq_none h'] at h1
    have low:∀ {k:Nat},listed.getD k true=false->listed.getD k false=false:=fun {k} h=>by
     rcases ij k listed.size with h' | h'
     ·simp [h'] at h ⊢;exact h
     ·simp [Array.getElem?_eq_none h'] at h
    have hjz:j ∉ zs:=fun hm=>by
     obtain ⟨oz,ez,hoz,hez,hbz,hnl,_⟩:=hz j hm;rw [hoj] at hoz;obtain rfl:=db hoz;have:=hall ez hez hbz;rw [low hnl] at this
     cases this
    have hz':∀ z∈zs,Sz.wM md ops z i (listed.setIfInBounds j true):=fun z hm=>by
     obtain ⟨oz,ez,hoz,hez,hbz,hnl,hor⟩:=hz z hm;have hje:j≠ez.on:=fun e=>by
      rcases hor with h | ⟨ok,hok,e',he',hb',hon⟩
      ·exact hji (e.trans h)
      ·rw [← e,hoj] at hok
       obtain rfl:=db hok;exact hnot e' he' hb' hon
     exact ⟨oz,ez,hoz,hez,hbz,by rw [getD_set_ne true hje];exact hnl,hor⟩
    have h2:=wpOp_putIf hoj (hfree j oj hoj hji hjun hnot) (fun cs b=>hsel i oi cs b hi) (fun cs b=>hsel j oj cs b hoj) hQ hy h1;have hfree':∀ k ok,ops[k]? = some ok->k≠i->(listed.setIfInBounds j true).getD k true=false ->
     (∀ e∈ok.after,Region.binds md e=true->e.on≠i)->oi.apart ops ok=true:=fun k ok hk hki hun hno=>by
     refine hfree k ok hk hki ?_ hno
     by_cases hjk:j=k
     ·subst hjk;exact hjun
     ·rw [getD_set_ne true hjk] at hun;exact hun
    refine wpOp_mono (fun a' w' h3=>?_) h2;have hi2:i ∉ zs:=fun hm=>by
     obtain ⟨oz,ez,hoz,hez,hbz,hnl,_⟩:=hz i hm;obtain ⟨_,oi',hoi',hall'⟩:=mem_ready.1 hr;rw [hoz] at hoi';obtain rfl:=db hoi';have:=hall' ez hez hbz;rw [low hnl] at this
     cases this
    have hl1:Dy zs (listed.setIfInBounds i true)=false:=by rw [Bp hi2];exact hl0
    have hl2:Dy zs (listed.setIfInBounds j true)=false:=by rw [Bp hjz];exact hl0
    have hS':S w':=(h3.2.1.resolve_left hjz).resolve_left (by rw [hl1];decide);refine ⟨.inr (.inr hS'),ih (listed.setIfInBounds j true) a' w' hz' hl2 hfree' (ready_mono hr (Ne.symm hji)) h3.1 hS' ?_⟩;rw [iv _ _ hji];exact h3.2.2
variable {a:Act} {w:World}
theorem fin (hr:Region.ready md ops listed = []) (h:Q .normal a w) :
 ∀ fuel,cK P md ops Q S zs fuel listed a w
 | 0=>⟨hr,h⟩
 | _+1=>⟨fun _=>h,by rw [hr];simp⟩
theorem all {rs:List Nat} (hr:Region.ready md ops listed=rs) (hne:rs≠[])
 (h:∀ i∈rs,wpOp P ops Q i (fun a' w'=>(i∈zs\/Dy zs listed=true\/S w')/\cK P md ops Q S zs fuel (listed.setIfInBounds i true) a' w') a w):cK P md ops Q S zs (fuel+1) listed a w :=
 ⟨fun h0=>absurd (hr ▸ h0) hne,hr ▸ h⟩
end
def okB (ops:Array Oper) (zs:List Nat) (i:Nat) (listed:Array Bool):Bool:=(zs.all fun z=>Sz.tY ops z i listed) && !Dy zs listed
variable {P:Program} {ops:Array Oper} {Q:Exit->Act->World->Prop} {S:World->Prop} {zs:List Nat} {i fuel g h s e k:Nat} {oi o:Oper} {v:Value} {listed:Array Bool} {a:Act} {w:World}
theorem Zj (hz:zs.contains i=false) (hi:ops[i]? = some oi) (hs:Region.noSelect ops=true) (hf:Region.free .any ops listed i=true) (hr:(Region.ready .any ops listed).contains i=true)
 (hQ:∀ c a w,Q (.panic c) (a.put oi.dst v) w->Q (.panic c) a w) (hy:YieldsIf P ops (fun _=>True) oi v a) (hS:S w) (h:cK P .any ops Q S zs fuel (listed.setIfInBounds i true) (a.put oi.dst v) w):cK P .any ops Q S zs (fuel+1) listed a w :=
 aaP (v:=v) hi (by simpa using hz) (Region.noSelect_spec hs) hQ fuel listed a w (Region.free_spec hi hf) (by simpa using hr) hy (.inr hS) h
theorem take (hz:okB ops zs i listed=true) (hi:ops[i]? = some oi) (hs:Region.noSelect ops=true) (hf:Region.free .any ops listed i=true) (hr:(Region.ready .any ops listed).contains i=true)
 (hQ:∀ c a w,Q (.panic c) (a.put oi.dst v) w->Q (.panic c) a w) (hy:YieldsIf P ops S oi v a) (hS:S w) (h:cK P .any ops Q S zs fuel (listed.setIfInBounds i true) (a.put oi.dst v) w):cK P .any ops Q S zs (fuel+1) listed a w :=
 first (v:=v) hi (Region.noSelect_spec hs) hQ fuel listed a w (fun z hm=>Sz.rP (eS.1 (by unfold okB at hz;rw [cg] at hz;exact hz.1) z hm)) (by unfold okB at hz;rw [cg] at hz;simpa using hz.2) (Region.free_spec hi hf) (by simpa using hr) hy hS h
structure Fl where
 idx:Nat
 slot:Nat
 cs:Array Value
 ty:TypeId
 sv:Option (Nat×Value)
 n:Option Nat
def Um (n:Option Nat) (g:Nat):Value:=match n with
 | some n=>.slice (some ⟨g,0,none⟩) n n
 | none=>.pointer (some ⟨g,0,none⟩)
theorem vg {n m:Option Nat} (e:Um n g=Um m h):g=h:=by
 cases n <;> cases m <;> (unfold Um at e;first | cases e;rfl | cases e)
def Fl.off (f:Fl) (d:Option Nat):Bool:=match f.sv with
 | none=>true
 | some s=>d != some s.1
variable {f:Fl}
theorem DR {d:Option Nat} (h:f.off d=true) (s:Nat) (v:Value) (e:f.sv=some (s,v)):d≠some s:=by
 unfold Fl.off at h;rw [e] at h
 simpa using h
def Fl.at (f:Fl) (a:Act):Prop:=∀ s v,f.sv=some (s,v)->a.tmps.getD s undef=v
theorem ne_of {g:Fl} (h:some f.slot≠g.sv.map (·.1)) (e:g.sv=some (s,v)):f.slot≠s:=fun k=>h (by rw [e,k];rfl)
def fill (F:List Fl) (x:Nat->Value) (a:Act):Act:=F.foldl (fun a f=>a.put (some f.slot) (x f.slot)) a
theorem put_comm (a:Act) {d:Nat} (h:d≠e) (u v:Value):(a.put (some d) u).put (some e) v=(a.put (some e) v).put (some d) u:=by
 simp only [Act.put];rw [iv _ _ h]
theorem Dg (a:Act) (d:Nat) (u v:Value):(a.put (some d) u).put (some d) v=a.put (some d) v:=by
 simp only [Act.put,Array.setIfInBounds_setIfInBounds]
theorem kC (x:Nat->Value) (dst:Option Nat) (v:Value):∀ (F:List Fl) (a:Act),(∀ f∈F,dst≠some f.slot)->(fill F x a).put dst v=fill F x (a.put dst v)
 | [],a,_=>rfl
 | f :: r,a,h=>by
   have ih:=kC x dst v r (a.put (some f.slot) (x f.slot)) fun g hg=>h g (cC _ hg)
   show (fill r x (a.put (some f.slot) (x f.slot))).put dst v=fill r x ((a.put dst v).put (some f.slot) (x f.slot))
   rw [ih]
   cases dst with
   | none=>rfl
   | some d=>rw [put_comm a (fun e=>h f (cG ..) (by rw [e])) (x f.slot) v]
theorem yY {x y:Nat->Value} : ∀ (F:List Fl) (a:Act),(∀ f∈F,x f.slot=y f.slot)->fill F x a=fill F y a
 | [],_,_=>rfl
 | f :: r,a,h=>by
   show fill r x (a.put (some f.slot) (x f.slot))=fill r y (a.put (some f.slot) (y f.slot))
   rw [h f (cG ..),yY r _ fun g hg=>h g (cC _ hg)]
def upd (x:Nat->Value) (s:Nat) (v:Value) (k:Nat):Value:=if k=s then v else x k
theorem Gg (x:Nat->Value) (s:Nat) (v:Value):∀ (F:List Fl) (a:Act),(F.map (·.slot)).Nodup->(∃ f∈F,f.slot=s)->(fill F x a).put (some s) v=fill F (upd x s v) a
 | [],a,_,h=>by obtain ⟨_,h,_⟩:=h;cases h
 | f :: r,a,hn,h=>by
   rw [i4,List.nodup_cons] at hn
   show (fill r x (a.put (some f.slot) (x f.slot))).put (some s) v=fill r (upd x s v) (a.put (some f.slot) (upd x s v f.slot))
   by_cases e:f.slot=s
   ·have hne:∀ g∈r,g.slot≠s:=fun g hg e'=>hn.1 (dC.2 ⟨g,hg,by rw [e,e']⟩)
    rw [kC x (some s) v r _ fun g hg e'=>hne g hg (db e').symm,e,Dg];rw [show upd x s v s=v by simp [upd]];exact yY r _ fun g hg=>by simp [upd,hne g hg]
   ·obtain ⟨g,hg,hs⟩:=h
    have hg':g∈r:=by
     rcases cy.1 hg with rfl | k
     ·exact absurd hs e
     ·exact k
    rw [show upd x s v f.slot=x f.slot by simp [upd,e]];exact Gg x s v r _ hn.2 ⟨g,hg',hs⟩
def marks (L:Array Bool) (d:List Nat):Array Bool:=d.foldl (fun L i=>L.setIfInBounds i true) L
theorem kD:∀ (d:List Nat) (L:Array Bool) (k:Nat),(marks L d)[k]? = if k∈d then (L[k]?).map (fun _=>true) else L[k]?
 | [],L,k=>by simp [marks]
 | i :: r,L,k=>by
   show (marks (L.setIfInBounds i true) r)[k]? = _
   rw [kD r,cE]
   by_cases hi:i=k
   ·subst hi
    by_cases hl:i < L.size
    ·simp [hl]
    ·simp [hl]
   ·have hk:k≠i:=fun e=>hi e.symm
    simp [hi,hk]
theorem xq:∀ (d:List Nat) (L:Array Bool),(marks L d).size=L.size
 | [],_=>rfl
 | j :: r,L=>by show (marks (L.setIfInBounds j true) r).size=_;rw [xq r,Array.size_setIfInBounds]
theorem rJ (L:Array Bool) (d:List Nat) (i:Nat):(marks L d).setIfInBounds i true=marks (L.setIfInBounds i true) d:=by
 refine Array.ext_getElem? fun k=>?_;rw [cE,kD,kD,cE];rw [xq]
 by_cases hi:i=k
 ·subst hi
  by_cases hl:i < L.size <;> by_cases hd:i∈d <;> simp [hl,hd]
 ·simp [hi]
def bS (F:List Fl) (m:Nat->Bool):List Nat:=(F.filter fun f=>m f.idx).map (·.idx)
theorem kg {F:List Fl} {m:Nat->Bool} : k∈bS F m↔m k=true/\∃ f∈F,f.idx=k:=by
 unfold bS;rw [dC]
 constructor
 ·rintro ⟨f,hf,rfl⟩
  rw [fX] at hf;exact ⟨hf.2,f,hf.1,rfl⟩
 ·rintro ⟨hm,f,hf,rfl⟩
  exact ⟨f,fX.2 ⟨hf,hm⟩,rfl⟩
def on (m:Nat->Bool) (j k:Nat):Bool:=k == j || m k
theorem QJ (L:Array Bool) (F:List Fl) (m:Nat->Bool) (f:Fl) (hf:f∈F):(marks L (bS F m)).setIfInBounds f.idx true=marks L (bS F (on m f.idx)):=by
 rw [rJ];refine Array.ext_getElem? fun k=>?_;rw [kD,kD,cE]
 by_cases e:f.idx=k
 ·subst e
  have h2:f.idx∈bS F (on m f.idx):=kg.2 ⟨by simp [on],f,hf,rfl⟩;rw [az h2]
  by_cases hl:f.idx < L.size <;> by_cases hd:f.idx∈bS F m <;> simp [hl,hd]
 ·have hiff:(k∈bS F (on m f.idx))↔(k∈bS F m):=by
   have hb:(k == f.idx)=false:=by simpa using fun h=>e h.symm
   rw [kg,kg]
   simp [on,hb]
  by_cases hd:k∈bS F m
  ·rw [az hd,az (hiff.2 hd)];simp [e]
  ·rw [aq hd,aq (fun h=>hd (hiff.1 h))];simp [e]
def iG:List Fl->(List Nat->Bool)->Bool
 | [],k=>k []
 | f :: r,k=>iG r k && iG r (fun d=>k (f.idx :: d))
theorem fK:∀ (F:List Fl) (k:List Nat->Bool),iG F k=true->∀ m,k (bS F m)=true
 | [],k,h,m=>h
 | f :: r,k,h,m=>by
   unfold iG at h;rw [cg] at h;unfold bS;rw [List.filter_cons]
   cases hm:m f.idx with
   | true=>rw [az rfl];exact fK r _ h.2 m
   | false=>rw [aq (by simp)];exact fK r _ h.1 m
def GI (ops:Array Oper):List Nat->Array Bool->Bool
 | [],L=>(Region.ready .any ops L).isEmpty
 | z :: r,L=>(match ops[z]? with
   | some o=>o.guard.isNone
   | none=>false) && Region.ready .any ops L == [z] && GI ops r (L.setIfInBounds z true)
def good (ops:Array Oper) (zs:List Nat):List (Nat×Nat)->List Fl->Array Bool->Bool
 | [],F,L=>F.isEmpty && GI ops zs L
 | (0,i) :: r,F,L =>
   (match ops[i]? with
    | some o=>sM o.op && F.all (fun f=>o.dst != some f.slot && f.off o.dst) && iG F (fun d=>Region.free .any ops (marks L d) i && (Region.ready .any ops (marks L d)).contains i && okB ops zs i (marks L d))
    | none=>false) && good ops zs r F (L.setIfInBounds i true)
 | (1,i) :: r,F,L =>
   (match ops[i]? with
    | some o=>F.all (fun f=>o.dst != some f.slot && f.off o.dst) && iG F (fun d=>!(Region.ready .any ops (marks L d)).isEmpty && (Region.ready .any ops (marks L d)).all fun j=>j == i || F.any fun f=>f.idx == j && !d.contains j)
    | none=>false) && good ops zs r F (L.setIfInBounds i true)
 | (_,i) :: r,f :: F,L =>
   (ops[i]?).isSome && iG (f :: F) (fun d=>d.contains f.idx || (!(Region.ready .any ops (marks L d)).isEmpty && (Region.ready .any ops (marks L d)).all fun j=>(f :: F).any fun g=>g.idx == j && !d.contains j)) && good ops zs r F (L.setIfInBounds f.idx true)
 | (_,_) :: _,[],_=>false
def wpT (P:Program) (Q:Exit->Act->World->Prop):List Oper->Act->World->Prop
 | [],a,w=>Q .normal a w
 | o :: r,a,w=>o.wp P a w (fun a' w'=>wpT P Q r a' w') Q
def dx (P:Program) (ops:Array Oper) (C:World->Prop) (Q:Exit->Act->World->Prop) (tl:List Oper) (n0:Nat):List (Nat×Oper)->List Fl->List (Nat×Nat)->List Nat->Act->World->Prop
 | [],_,_,_,a,w=>∀ w',Below w.heap.size w w'->C w'->wpT P Q tl a w'
 | (0,o) :: r,F,H,L,a,w=>∀ x,wpQuiet P ops C (fun a'=>dx P ops C Q tl n0 r F H L a' w) [o] (fill F x a)
 | (1,o) :: r,F,H,L,a,w=>∀ x w',Below w.heap.size w w'->C w'->Region.wanted o (yielded ops (fill F x a).tmps)=true /\
     o.wp P (fill F x a) w' (fun a'' w''=>C w''/\w'.heap.size<=w''.heap.size/\(F = []\/∀ g,n0<=g->g < w'.heap.size->(∀ p∈H,g < p.1\/p.2<=g)->g ∉ L->w''.heap[g]? = w'.heap[g]?)/\dx P ops C Q tl n0 r F ((w'.heap.size,w''.heap.size) :: H) L a'' w'') Q
 | (_,_) :: r,F,H,L,a,w=>match F with
   | []=>False
   | f :: F=>∀ g w',Below w.heap.size w w'->C w'->w'.heap[g]? = some (.cells f.cs f.ty (0,0))->n0<=g->(∀ p∈H,g < p.1\/p.2<=g)->g ∉ L->dx P ops C Q tl n0 r F H (g :: L) (a.put (some f.slot) (Um f.n g)) w'
def aK (l:List Oper):List (Nat×Nat)->List (Nat×Oper)
 | []=>[]
 | (k,i) :: r=>match l[i]? with
   | some o=>(k,o) :: aK l r
   | none=>aK l r
structure Inv (F:List Fl) (m:Nat->Bool) (x:Nat->Value) (a:Act) (n0:Nat) (H:List (Nat×Nat)) (L:List Nat) (w:World):Prop where
 ne:∀ f∈F,∀ g∈F,some f.slot≠g.sv.map (·.1)
 src:∀ f∈F,f.at a
 old:∀ f∈F,m f.idx=false->x f.slot=a.tmps.getD f.slot undef
 new:∀ f∈F,m f.idx=true->∃ g,x f.slot=Um f.n g/\w.heap[g]? = some (.cells f.cs f.ty (0,0))/\n0<=g/\(∀ p∈H,g < p.1\/p.2<=g)/\g ∉ L
 apart:∀ f∈F,∀ f'∈F,f.slot≠f'.slot->m f.idx=true->m f'.idx=true->∀ b b':Nat,x f.slot=Um f.n b->x f'.slot=Um f'.n b'->b≠b'
 past:∀ p∈H,p.2<=w.heap.size
 met:∀ g∈L,g < w.heap.size
theorem jy (a:Act) (dst:Option Nat) (v:Value) (s:Nat) (h:dst≠some s):(a.put dst v).tmps.getD s undef=a.tmps.getD s undef:=by
 cases dst with
 | none=>rfl
 | some d =>
   have hd:d≠s:=fun e=>h (by rw [e]);simp only [Act.put,eh,cE,aq hd]
theorem rA (x:Nat->Value):∀ (F:List Fl) (a:Act),fill F x (fill F x a)=fill F x a
 | [],_=>rfl
 | f :: r,a=>by
   show fill r x ((fill r x (a.put (some f.slot) (x f.slot))).put (some f.slot) (x f.slot))=fill r x (a.put (some f.slot) (x f.slot))
   have e:∀ (r:List Fl) (b:Act),(fill r x (b.put (some f.slot) (x f.slot))).put (some f.slot) (x f.slot)=fill r x (b.put (some f.slot) (x f.slot)):=by
    intro r
    induction r with
    | nil=>intro b;exact Dg b _ _ _
    | cons g r ih =>
      intro b
      show (fill r x ((b.put (some f.slot) (x f.slot)).put (some g.slot) (x g.slot))).put (some f.slot) (x f.slot)=fill r x ((b.put (some f.slot) (x f.slot)).put (some g.slot) (x g.slot))
      by_cases h:f.slot=g.slot
      ·rw [← h,Dg];exact ih b
      ·rw [put_comm b h,ih]
   rw [e];exact rA x r _
def A8 (a:Act) (ds:List Deferred):Act:={ a with defers:=ds }
theorem xx (x:Nat->Value) (ds:List Deferred):∀ (F:List Fl) (a:Act),A8 (fill F x a) ds=fill F x (A8 a ds)
 | [],_=>rfl
 | f :: r,a=>by
   show A8 (fill r x (a.put (some f.slot) (x f.slot))) ds=fill r x ((A8 a ds).put (some f.slot) (x f.slot))
   rw [xx x ds r]
   rfl
theorem jb (x:Nat->Value) (s:Nat):∀ (F:List Fl) (a:Act),(∀ f∈F,f.slot=s->x s=a.tmps.getD s undef)->(fill F x a).tmps.getD s undef=a.tmps.getD s undef
 | [],_,_=>rfl
 | f :: r,a,h=>by
   have e:(a.put (some f.slot) (x f.slot)).tmps.getD s undef=a.tmps.getD s undef:=by
    by_cases hs:f.slot=s
    ·subst hs
     have:=h f (cG ..) rfl;simp only [Act.put,eh,cE] at *
     by_cases hl:f.slot < a.tmps.size
     ·simp [hl] at *;exact this
     ·simp [hl]
    ·exact jy a _ _ s (fun k=>hs (db k))
   show (fill r x (a.put (some f.slot) (x f.slot))).tmps.getD s undef=_
   rw [jb x s r _ fun g hg k=>by rw [e];exact h g (cC _ hg) k,e]
theorem qQ {K:Act->World->Prop} (h:o.wp P a w K Q):o.wp P a w (fun a' w'=>(∃ ds v,a'=(A8 a ds).put o.dst v)/\K a' w') Q:=by
 unfold Oper.wp at *
 cases hr:(execOp a.eval o).run P w with
 | halt y w1=>rw [hr] at h;cases y <;> exact h
 | ok nx w1 =>
   rw [hr] at h
   cases nx with
   | value v=>exact ⟨⟨a.defers,v,rfl⟩,h⟩
   | skip=>exact ⟨⟨a.defers,undef,rfl⟩,h⟩
   | defer d=>exact ⟨⟨d :: a.defers,undef,rfl⟩,h⟩
   | enter f args =>
     refine Calls.mono h fun e w'' k=>?_
     cases e with
     | returned v=>exact ⟨⟨a.defers,v,rfl⟩,k⟩
     | panicked c=>exact k
     | outgrown=>exact k
   | row r args=>exact Rows.mono h fun v w'' k=>⟨⟨a.defers,v,rfl⟩,k⟩
   | _=>exact h
def left:List Fl->(Nat->Bool)->Nat
 | [],_=>0
 | f :: r,m=>left r m+(if m f.idx then 0 else 1)
theorem Zy (m:Nat->Bool) (j k:Nat):(if on m j k then 0 else 1)<=(if m k then 0 else 1):=by
 unfold on
 cases (k == j) <;> cases m k <;> simp
theorem A9 (m:Nat->Bool) (j:Nat):∀ r:List Fl,left r (on m j)<=left r m
 | []=>am _
 | g :: r=>Nat.add_le_add (A9 m j r) (Zy m j g.idx)
theorem Cc:∀ (F:List Fl) (m:Nat->Bool) (f:Fl),f∈F->m f.idx=false->left F (on m f.idx)+1<=left F m
 | g :: r,m,f,hf,hm=>by
   have a:=A9 m f.idx r;have b:=Zy m f.idx g.idx;unfold left
   rcases cy.1 hf with e | k
   ·subst e
    have:on m f.idx f.idx=true:=by simp [on]
    rw [this,hm]
    simp
    exact a
   ·have ih:=Cc r m f k hm
    omega
theorem lG:∀ {F:List Fl},(F.map (·.slot)).Nodup->∀ f∈F,∀ g∈F,g.slot=f.slot->g=f
 | [],_,f,hf,_,_,_=>by cases hf
 | b :: r,hn,f,hf,g,hg,e=>by
   rw [i4,List.nodup_cons] at hn
   rcases cy.1 hg with h1 | hg'
   ·rcases cy.1 hf with h2 | hf'
    ·rw [h1,h2]
    ·exact absurd (dC.2 ⟨f,hf',by rw [← e,h1]⟩) hn.1
   ·rcases cy.1 hf with h2 | hf'
    ·exact absurd (dC.2 ⟨g,hg',by rw [e,h2]⟩) hn.1
    ·exact lG hn.2 f hf' g hg' e
section
variable {P:Program} {l:List Oper} {C:World->Prop} {Q:Exit->Act->World->Prop} {n0:Nat} {zs:List Nat} {tl:List Oper}
def Gj (P:Program) (l:List Oper) (f:Fl):Prop:=∃ o,l.toArray[f.idx]? = some o/\o.dst=some f.slot/\o.guard=none/\∀ (a:Act) w,f.at a->(execOp a.eval o).run P w = .ok (.value (Um f.n w.heap.size)) (w.alloc (.cells f.cs f.ty))
variable {F:List Fl} {m:Nat->Bool} {x:Nat->Value} {H sc:List (Nat×Nat)} {L:List Nat}
theorem Inv.step (h:Inv F m x a n0 H L w) (hn:(F.map (·.slot)).Nodup) (hi:∀ f∈F,∀ f'∈F,f.idx=f'.idx->f.slot=f'.slot) (h0:n0<=w.heap.size) (f:Fl) (hf:f∈F) (hm:m f.idx=false) :
 Inv F (on m f.idx) (upd x f.slot (Um f.n w.heap.size)) a n0 H L (w.alloc (.cells f.cs f.ty)):=by
 have same:=lG hn f hf;have on_:∀ g∈F,g.slot≠f.slot->on m f.idx g.idx=m g.idx:=fun g hg hne=>by
  have hb:(g.idx == f.idx)=false:=by simpa using fun e=>hne (hi g hg f hf e)
  simp [on,hb]
 have onf:on m f.idx f.idx=true:=by simp [on]
 refine ⟨h.ne,h.src,fun g hg hmg=>?_,fun g hg hmg=>?_,fun g hg g' hg' hne hmg hmg'=>?_,fun p hp=>?_,fun g hg=>?_⟩
 ·by_cases e:g.slot=f.slot
  ·rw [same g hg e,onf] at hmg;cases hmg
  ·rw [on_ g hg e] at hmg
   simp only [upd,aq e];exact h.old g hg hmg
 ·by_cases e:g.slot=f.slot
  ·obtain rfl:=same g hg e
   exact ⟨w.heap.size,by simp [upd],bi w _,h0,fun p hp=>.inr (h.past p hp),fun hl=>by have:=h.met _ hl;omega⟩
  ·rw [on_ g hg e] at hmg
   obtain ⟨b,h1,h2,h3⟩:=h.new g hg hmg;exact ⟨b,by simp only [upd,aq e];exact h1,(cD w _ b (bp h2)).trans h2,h3⟩
 ·by_cases e:g.slot=f.slot
  ·have e':g'.slot≠f.slot:=fun k=>hne (e.trans k.symm)
   rw [on_ g' hg' e'] at hmg';obtain ⟨b,h1,h2,_⟩:=h.new g' hg' hmg';have:=bp h2;simp only [upd,az e,aq e',h1]
   intro c c' k k' q
   have:=vg k;have:=vg k'
   omega
  ·by_cases e':g'.slot=f.slot
   ·rw [on_ g hg e] at hmg
    obtain ⟨b,h1,h2,_⟩:=h.new g hg hmg;have:=bp h2;simp only [upd,aq e,az e',h1]
    intro c c' k k' q
    have:=vg k;have:=vg k'
    omega
   ·rw [on_ g hg e] at hmg
    rw [on_ g' hg' e'] at hmg';simp only [upd,aq e,aq e'];exact h.apart g hg g' hg' hne hmg hmg'
 ·have:=h.past p hp
  simp
  omega
 ·have:=h.met g hg
  simp
  omega
def cnt (k:Nat):List (Nat×Nat)->Nat
 | []=>k
 | (0,_) :: r=>cnt k r+1
 | (1,_) :: r=>cnt k r+1
 | (_+2,_) :: r=>cnt k r
def bK (l:List Oper):List Nat->List Oper
 | []=>[]
 | i :: r=>match l[i]? with
   | some o=>o :: bK l r
   | none=>bK l r
theorem tail {P:Program} {l:List Oper} {C:World->Prop} {Q:Exit->Act->World->Prop} {zs:List Nat} : ∀ (ys:List Nat) (listed:Array Bool) (fuel:Nat) (a:Act) (w:World),(∀ z∈ys,z∈zs)->ys.length<=fuel->GI l.toArray ys listed=true->wpT P Q (bK l ys) a w->cK P .any l.toArray Q C zs fuel listed a w
 | [],listed,fuel,a,w,_,_,hg,h=>by
   unfold GI at hg;exact fin (by simpa using hg) h fuel
 | z :: r,listed,0,a,w,_,hl,_,_=>by simp at hl
 | z :: r,listed,fuel+1,a,w,hs,hl,hg,h=>by
   unfold GI at hg;simp only [cg,beq_iff_eq] at hg;obtain ⟨⟨hg1,hr⟩,hg2⟩:=hg;have hll:l.toArray[z]? = l[z]?:=by rw [gc]
   cases ho:l[z]? with
   | none=>rw [hll,ho] at hg1;cases hg1
   | some o =>
     rw [hll,ho] at hg1;have hgd:o.guard=none:=by simpa using hg1
     have hop:=hll.trans ho;rw [bK,ho] at h;refine all hr (by simp) fun j hj=>?_;obtain rfl:j=z:=by simpa using hj
     unfold wpOp;simp only [hop];rw [az (by simp [Region.wanted,hgd])];exact .inl (Oper.wp_mono (fun a' w' k=>⟨.inl (hs j (cG ..)),tail r _ fuel a' w' (fun z hz=>hs z (cC _ hz)) (by simp at hl;omega) hg2 k⟩) h)
def Holds (P:Program) (l:List Oper) (C:World->Prop) (Q:Exit->Act->World->Prop) (zs:List Nat) (n0:Nat) (n:Nat):Prop :=
 ∀ (sc:List (Nat×Nat)) (F:List Fl) (H:List (Nat×Nat)) (L:List Nat) (listed:Array Bool) (fuel:Nat) (a:Act) (w:World) (m:Nat->Bool) (x:Nat->Value) (w':World),
  2 * fuel+sc.length<=n->good l.toArray zs sc F listed=true->(∀ f∈F,Gj P l f)->(F.map (·.slot)).Nodup->(∀ f∈F,∀ f'∈F,f.idx=f'.idx->f.slot=f'.slot)->Inv F m x a n0 H L w'->Below w.heap.size w w'->C w' ->
  cnt zs.length sc+left F m<=fuel->dx P l.toArray C Q (bK l zs) n0 (aK l sc) F H L a w->cK P .any l.toArray Q C zs fuel (marks listed (bS F m)) (fill F x a) w'
theorem Ee {y:Nat->Option Bool} (h:o.guard=none):Region.wanted o y=true:=by simp [Region.wanted,h]
variable {n id:Nat}
theorem float (ih:Holds P l C Q zs n0 n) (hC:∀ w,C w->n0<=w.heap.size) (hA:∀ w o,C w->C (w.alloc o)) {w':World}
 (hn:2 * (fuel+1)+sc.length<=n+1) (hg:good l.toArray zs sc F listed=true) (hF:∀ f∈F,Gj P l f) (hs:(F.map (·.slot)).Nodup) (hi:∀ f∈F,∀ f'∈F,f.idx=f'.idx->f.slot=f'.slot) (hI:Inv F m x a n0 H L w') (hb:Below w.heap.size w w') (hc:C w')
 (hf:cnt zs.length sc+left F m<=fuel+1) (h:dx P l.toArray C Q (bK l zs) n0 (aK l sc) F H L a w) (f:Fl) (hff:f∈F) (hm:m f.idx=false) :
 wpOp P l.toArray Q f.idx (fun a' w'=>(f.idx∈zs\/Dy zs (marks listed (bS F m))=true\/C w')/\cK P .any l.toArray Q C zs fuel ((marks listed (bS F m)).setIfInBounds f.idx true) a' w') (fill F x a) w':=by
 obtain ⟨o,ho,hd,hgd,hrun⟩:=hF f hff;unfold wpOp;simp only [ho,Ee hgd,if_true];refine .inl ?_;unfold Oper.wp;rw [hrun _ _ (fun s u e=>by rw [jb x s F a fun g hg k=>absurd k (ne_of (hI.ne g hg f hff) e)];exact hI.src f hff s u e)];rw [Oper.upon_value,hd,Gg x f.slot _ F a hs ⟨f,hff,rfl⟩,QJ listed F m f hff];have lo:=Cc F m f hff hm;exact ⟨.inr (.inr (hA _ _ hc)),ih sc F H L listed fuel a w _ _ _ (by omega) hg hF hs hi (hI.step hs hi (hC _ hc) f hff hm) (hb.trans ((af _ _).alloc hb.size _)) (hA _ _ hc) (by omega) h⟩
theorem holds (hsel:Region.noSelect l.toArray=true) (hQ:∀ c d v a w,Q (.panic c) (Act.put a d v) w->Q (.panic c) a w) (hC:∀ w,C w->n0<=w.heap.size) (hA:∀ w o,C w->C (w.alloc o)):∀ n,Holds P l C Q zs n0 n:=by
 intro n
 induction n with
 | zero =>
   intro sc F H L listed fuel a w m x w' hn hg hF hs hi hI hb hc hf h
   have e:sc = []:=dr.1 (by omega);subst e;unfold good at hg;simp only [cg,List.isEmpty_iff] at hg;obtain ⟨rfl,hr⟩:=hg;exact tail zs listed fuel _ _ (fun _ h=>h) (by simp only [cnt] at hf;omega) hr (h w' hb hc)
 | succ n ih =>
   intro sc F H L listed fuel a w m x w' hn hg hF hs hi hI hb hc hf h
   match sc,hg,h,hn,hf with
   | [],hg,h,_,hf =>
     unfold good at hg;simp only [cg,List.isEmpty_iff] at hg;obtain ⟨rfl,hr⟩:=hg;exact tail zs listed fuel _ _ (fun _ h=>h) (by simp only [cnt] at hf;omega) hr (h w' hb hc)
   | (0,i) :: r,hg,h,hn,hf =>
     have hg':(_ && good l.toArray zs r F (listed.setIfInBounds i true))=true:=hg;rw [cg] at hg';obtain ⟨hg1,hg2⟩:=hg'
     cases ho:l[i]? with
     | none=>simp [ho] at hg1
     | some o =>
       have hop:l.toArray[i]? = some o:=by simp [ho]
       rw [hop] at hg1;simp only [cg,eS] at hg1;obtain ⟨⟨hl,hds⟩,hm⟩:=hg1;have hds':∀ f∈F,o.dst≠some f.slot:=fun f hf=>by have:=hds f hf;simp at this;simpa using this.1
       have hdr:=fun f hf=>DR (hds f hf).2;have hm':=fK F _ hm m;simp only [cg] at hm';rw [aK,ho] at h;obtain ⟨fuel,rfl⟩:∃ k,fuel=k+1:=⟨fuel - 1,by simp only [cnt] at hf;omega⟩;have q:=h x;unfold wpQuiet at q;have next:∀ v',dx P l.toArray C Q (bK l zs) n0 (aK l r) F H L ((fill F x a).put o.dst v') w->cK P .any l.toArray Q C zs fuel ((marks listed (bS F m)).setIfInBounds i true) ((fill F x a).put o.dst v') w':=fun v' hnx=>by
        have k:=ih r F H L (listed.setIfInBounds i true) fuel ((fill F x a).put o.dst v') w m x w' (by simp at hn;omega) hg2 hF hs hi ⟨hI.ne,fun f hff s u e=>by rw [jy _ o.dst v' s (hdr f hff s u e),jb x s F a fun g hg k=>absurd k (ne_of (hI.ne g hg f hff) e)];exact hI.src f hff s u e,fun f hff hmf=>?_,hI.new,hI.apart,hI.past,hI.met⟩ hb hc (by simp only [cnt] at hf;omega) hnx
        ·rw [kC x o.dst v' F a hds',rA,← rJ] at k
         rw [kC x o.dst v' F a hds'];exact k
        ·rw [jy _ o.dst v' f.slot (hds' f hff),jb x f.slot F a fun g hg e=>by rw [← e];obtain rfl:=lG hs f hff g hg e;exact hI.old g hg hmf]
         exact hI.old f hff hmf
       by_cases hw:Region.wanted o (yielded l.toArray (fill F x a).tmps)=true
       ·rw [az hw] at q
        obtain ⟨v',hv',e⟩:=q;refine take (v:=v') hm'.2 hop hsel hm'.1.1 hm'.1.2 (fun c a w=>hQ c _ _ a w) (.inl ⟨hw,fun w2 hw2=>?_⟩) hc (next v' e);have q2:=hv' w2 hw2;unfold Oper.quietAt at q2
        cases e2:(execOp (fill F x a).eval o).run P w2 with
        | halt y w1=>rw [e2] at q2;cases q2
        | ok nx w1 =>
          obtain ⟨u,rfl⟩:=eH hl e2;rw [e2] at q2;obtain ⟨e3,e4⟩:=q2;rw [e3,e4]
       ·rw [aq hw] at q
        exact take (v:=undef) hm'.2 hop hsel hm'.1.1 hm'.1.2 (fun c a w=>hQ c _ _ a w) (.inr ⟨by simpa using hw,rfl⟩) hc (next undef q)
   | (1,i) :: r,hg,h,hn,hf =>
     have hg0:=hg;have h0:=h;have hg':(_ && good l.toArray zs r F (listed.setIfInBounds i true))=true:=hg;rw [cg] at hg';obtain ⟨hg1,hg2⟩:=hg'
     cases ho:l[i]? with
     | none=>simp [ho] at hg1
     | some o =>
       have hop:l.toArray[i]? = some o:=by simp [ho]
       rw [hop] at hg1;simp only [cg,eS] at hg1;obtain ⟨hds,hm⟩:=hg1;have hds':∀ f∈F,o.dst≠some f.slot:=fun f hf=>by have:=hds f hf;simp at this;simpa using this.1
       have hdr:=fun f hf=>DR (hds f hf).2;have hm':=fK F _ hm m;simp only [cg,eS] at hm';rw [aK,ho] at h;obtain ⟨hw,hwp⟩:=h x w' hb hc;obtain ⟨fuel,rfl⟩:∃ k,fuel=k+1:=⟨fuel - 1,by simp only [cnt] at hf;omega⟩;refine all rfl (fun e=>by rw [e] at hm';simp at hm') fun j hj=>?_;have hj':=hm'.2 j hj;rw [Bool.or_eq_true] at hj'
       rcases hj' with e | hfl
       ·obtain rfl:j=i:=by simpa using e
        unfold wpOp;simp only [hop,hw,if_true];refine .inl (Oper.wp_mono (fun a'' w'' hh=>?_) (qQ hwp));obtain ⟨⟨ds,v,rfl⟩,c2,hsz,hbel,hT⟩:=hh;refine ⟨.inr (.inr c2),?_⟩;have k:=ih r F _ L (listed.setIfInBounds j true) fuel ((A8 (fill F x a) ds).put o.dst v) w'' m x w'' (by simp at hn;omega) hg2 hF hs hi ⟨hI.ne,fun f hff s u e=>by rw [xx,jy _ o.dst v s (hdr f hff s u e),jb x s F _ fun g hg k=>absurd k (ne_of (hI.ne g hg f hff) e)];exact hI.src f hff s u e,fun f hff hmf=>?_,fun f hff hmf=>?_,hI.apart,fun p hp=>?_,fun g hg=>cL (hI.met g hg) hsz⟩ (af _ _) c2 (by simp only [cnt] at hf;omega) hT
        ·rw [xx,kC x o.dst v F _ hds',rA,← rJ] at k
         rw [xx,kC x o.dst v F _ hds'];exact k
        ·rw [xx,jy _ o.dst v f.slot (hds' f hff),jb x f.slot F _ fun g hg e=>by rw [← e];obtain rfl:=lG hs f hff g hg e;exact hI.old g hg hmf]
         exact hI.old f hff hmf
        ·obtain ⟨g,g1,g2,g3,g4,g5⟩:=hI.new f hff hmf
         refine ⟨g,g1,((hbel.resolve_left fun e=>by rw [e] at hff;cases hff) g g3 (bp g2) g4 g5).trans g2,g3,fun p hp=>?_,g5⟩
         rcases cy.1 hp with rfl | hp
         ·exact .inl (bp g2)
         ·exact g4 p hp
        ·rcases cy.1 hp with rfl | hp
         ·exact am _
         ·exact cP (hI.past p hp) hsz
       ·obtain ⟨f,hff,he⟩:=eQ.1 hfl
        rw [cg] at he;obtain rfl:f.idx=j:=by simpa using he.1
        have hmf:m f.idx=false:=by
         have hd:f.idx ∉ bS F m:=by simpa using he.2
         rw [kg] at hd
         cases hmm:m f.idx with
         | false=>rfl
         | true=>exact absurd ⟨hmm,f,hff,rfl⟩ hd
        exact float ih hC hA hn hg0 hF hs hi hI hb hc hf h0 f hff hmf
   | (k+2,i) :: r,hg,h,hn,hf =>
     have hg0:=hg;have h0:=h
     match F,hg,h,hF,hs,hi,hI,hf,hg0,h0 with
     | [],hg,h,_,_,_,_,_,_,_=>simp [good] at hg
     | f :: F,hg,h,hF,hs,hi,hI,hf,hg0,h0 =>
       have hg':((l.toArray[i]?).isSome && iG (f :: F) _ && good l.toArray zs r F (listed.setIfInBounds f.idx true))=true:=hg;rw [cg,cg] at hg';obtain ⟨⟨hio,hm⟩,hg2⟩:=hg';have hm':=fK (f :: F) _ hm m
       cases hmm:m f.idx with
       | true =>
         obtain ⟨g,g1,g2,g3,g4,g5⟩:=hI.new f (cG ..) hmm;have hp:∀ {o:Oper},dx P l.toArray C Q (bK l zs) n0 ((k+2,o) :: aK l r) (f :: F) H L a w->dx P l.toArray C Q (bK l zs) n0 (aK l r) F H (g :: L) (a.put (some f.slot) (Um f.n g)) w':=fun h=>h g w' hb hc g2 g3 g4 g5;have hT:dx P l.toArray C Q (bK l zs) n0 (aK l r) F H (g :: L) (a.put (some f.slot) (Um f.n g)) w':=by
          cases ho:l[i]? with
          | none=>simp [ho] at hio
          | some o =>
            rw [aK,ho] at h;exact hp h
         have hd:bS (f :: F) m=f.idx :: bS F m:=by unfold bS;rw [List.filter_cons,az hmm];rfl
         rw [hd]
         show cK P .any l.toArray Q C zs fuel (marks (listed.setIfInBounds f.idx true) (bS F m)) (fill F x (a.put (some f.slot) (x f.slot))) w'
         rw [g1];rw [i4,List.nodup_cons] at hs;have hne:∀ f'∈F,f.slot≠f'.slot:=fun f' h' e=>hs.1 (dC.2 ⟨f',h',e.symm⟩);refine ih r F H (g :: L) _ fuel _ w' m x w' (by simp at hn;omega) hg2 (fun f' h'=>hF f' (cC _ h')) hs.2 (fun a ha b hb=>hi a (cC _ ha) b (cC _ hb)) ⟨fun a ha b hb=>hI.ne a (cC _ ha) b (cC _ hb),fun f' h' s u e=>by rw [jy a _ _ s (fun k=>ne_of (hI.ne f (cG ..) f' (cC _ h')) e (db k))];exact hI.src f' (cC _ h') s u e,fun f' h' hmf=>?_,fun f' h' hmf=>?_,fun f' h' f'' h''=>hI.apart f' (cC _ h') f'' (cC _ h''),hI.past,fun b hb=>?_⟩ (af _ _) hc ?_ hT
         ·rw [jy a _ _ f'.slot (fun e=>hne f' h' (db e))]
          exact hI.old f' (cC _ h') hmf
         ·obtain ⟨b,b1,b2,b3,b4,b5⟩:=hI.new f' (cC _ h') hmf
          refine ⟨b,b1,b2,b3,b4,fun hl=>?_⟩
          rcases cy.1 hl with e | hl
          ·exact hI.apart f' (cC _ h') f (cG ..) (fun e=>hne f' h' e.symm) hmf hmm b g b1 g1 e
          ·exact b5 hl
         ·rcases cy.1 hb with rfl | hb
          ·exact bp g2
          ·exact hI.met b hb
         ·simp only [cnt,left,hmm] at hf
          simpa using hf
       | false =>
         have hd:(bS (f :: F) m).contains f.idx=false:=by
          have:f.idx ∉ bS (f :: F) m:=fun h=>by rw [kg,hmm] at h;simp at h
          simpa using this
         rw [hd,Bool.false_or] at hm';simp only [cg,eS] at hm';have lf:=Cc (f :: F) m f (cG ..) hmm;obtain ⟨fuel,rfl⟩:∃ k,fuel=k+1:=⟨fuel - 1,by omega⟩;refine all rfl (fun e=>by rw [e] at hm';simp at hm') fun j hj=>?_;obtain ⟨f',hff,he⟩:=eQ.1 (hm'.2 j hj);rw [cg] at he;obtain rfl:f'.idx=j:=by simpa using he.1
         have hmf:m f'.idx=false:=by
          have hd:f'.idx ∉ bS (f :: F) m:=by simpa using he.2
          rw [kg] at hd
          cases hmm:m f'.idx with
          | false=>rfl
          | true=>exact absurd ⟨hmm,f',hff,rfl⟩ hd
         exact float ih hC hA hn hg0 hF hs hi hI hb hc hf h0 f' hff hmf
theorem qJ (a:Act):∀ F:List Fl,fill F (fun s=>a.tmps.getD s undef) a=a
 | []=>rfl
 | f :: r=>by
   have e:a.put (some f.slot) (a.tmps.getD f.slot undef)=a:=by
    simp only [Act.put];have:a.tmps.setIfInBounds f.slot (a.tmps.getD f.slot undef)=a.tmps:=by
     refine Array.ext_getElem? fun k=>?_;rw [cE]
     by_cases hk:f.slot=k
     ·subst hk
      by_cases hl:f.slot < a.tmps.size
      ·simp [hl]
      ·simp [hl]
     ·simp [hk]
    rw [this]
   show fill r (fun s=>a.tmps.getD s undef) (a.put (some f.slot) (a.tmps.getD f.slot undef))=a
   rw [e];exact qJ a r
theorem xH:∀ F:List Fl,left F (fun _=>false)=F.length
 | []=>rfl
 | f :: r=>by show left r _+1=r.length+1;rw [xH r]
def wG (ops:Array Oper) (zs:List Nat):List Nat->Array Bool->Bool
 | [],_=>true
 | i :: r,L=>(match ops[i]? with
   | some o=>sM o.op && Region.free .any ops L i && (Region.ready .any ops L).contains i && okB ops zs i L
   | none=>false) && wG ops zs r (L.setIfInBounds i true)
def Jp (P:Program) (ops:Array Oper) (C:World->Prop) (K:Act->Prop):List Oper->Act->Prop
 | [],a=>K a
 | o :: r,a=>wpQuiet P ops C (fun a'=>Jp P ops C K r a') [o] a
theorem JK {P:Program} {l:List Oper} {C:World->Prop} {Q:Exit->Act->World->Prop} {w:World} {K:Act->Prop} {zs:List Nat} {fuel:Nat} (hs:Region.noSelect l.toArray=true) (hQ:∀ c d v a w,Q (.panic c) (Act.put a d v) w->Q (.panic c) a w) (hC:C w) :
 ∀ (sc:List Nat) (listed:Array Bool) (a:Act),wG l.toArray zs sc listed=true->(∀ a',K a'->cK P .any l.toArray Q C zs fuel (marks listed sc) a' w)->Jp P l.toArray C K (bK l sc) a->cK P .any l.toArray Q C zs (fuel+sc.length) listed a w
 | [],listed,a,_,hk,h=>hk a h
 | i :: r,listed,a,hg,hk,h=>by
   unfold wG at hg;rw [cg] at hg;obtain ⟨hg1,hg2⟩:=hg;have hll:l.toArray[i]? = l[i]?:=by rw [gc]
   cases ho:l[i]? with
   | none=>rw [hll,ho] at hg1;cases hg1
   | some o =>
     rw [hll,ho] at hg1;have hop:=hll.trans ho;have hp:bK l (i :: r)=o :: bK l r:=by rw [bK,ho]
     rw [hp] at h;simp only [cg] at hg1;obtain ⟨⟨⟨hl,hf⟩,hr⟩,hbk⟩:=hg1;unfold Jp at h
     show cK P .any l.toArray Q C zs ((fuel+r.length)+1) listed a w
     by_cases hw:Region.wanted o (yielded l.toArray a.tmps)=true
     ·unfold wpQuiet at h
      rw [az hw] at h;obtain ⟨v,hv,hn⟩:=h;refine take (v:=v) hbk hop hs hf hr (fun c a w=>hQ c _ _ a w) (.inl ⟨hw,fun w' hw'=>?_⟩) hC (JK hs hQ hC r _ _ hg2 hk hn);have q:=hv w' hw';unfold Oper.quietAt at q
      cases e:(execOp a.eval o).run P w' with
      | halt x w1=>rw [e] at q;cases q
      | ok n w1 =>
        obtain ⟨u,rfl⟩:=eH hl e;rw [e] at q;obtain ⟨e1,e2⟩:=q;rw [e1,e2]
     ·unfold wpQuiet at h
      rw [aq hw] at h;exact take (v:=undef) hbk hop hs hf hr (fun c a w=>hQ c _ _ a w) (.inr ⟨by simpa using hw,rfl⟩) hC (JK hs hQ hC r _ _ hg2 hk h)
def As (ops:Array Oper) (zs:List Nat):List Nat->Array Bool->Bool
 | [],_=>true
 | i :: r,L=>(match ops[i]? with
   | some o=>sM o.op && Region.free .any ops L i && (Region.ready .any ops L).contains i && !zs.contains i
   | none=>false) && As ops zs r (L.setIfInBounds i true)
theorem vD {P:Program} {l:List Oper} {C:World->Prop} {Q:Exit->Act->World->Prop} {w:World} {K:Act->Prop} {zs:List Nat} {fuel:Nat} (hs:Region.noSelect l.toArray=true) (hQ:∀ c d v a w,Q (.panic c) (Act.put a d v) w->Q (.panic c) a w) (hC:C w) :
 ∀ (sc:List Nat) (listed:Array Bool) (a:Act),As l.toArray zs sc listed=true->(∀ a',K a'->cK P .any l.toArray Q C zs fuel (marks listed sc) a' w)->Jp P l.toArray (fun w'=>∃ p:In (fun _=>True),w'=p.world) K (bK l sc) a->cK P .any l.toArray Q C zs (fuel+sc.length) listed a w
 | [],listed,a,_,hk,h=>hk a h
 | i :: r,listed,a,hg,hk,h=>by
   unfold As at hg;rw [cg] at hg;obtain ⟨hg1,hg2⟩:=hg;have hll:l.toArray[i]? = l[i]?:=by rw [gc]
   cases ho:l[i]? with
   | none=>rw [hll,ho] at hg1;cases hg1
   | some o =>
     rw [hll,ho] at hg1;have hop:=hll.trans ho;have hp:bK l (i :: r)=o :: bK l r:=by rw [bK,ho]
     rw [hp] at h;simp only [cg] at hg1;obtain ⟨⟨⟨hl,hf⟩,hr⟩,hbk⟩:=hg1;have hbk:zs.contains i=false:=by simpa using hbk
     unfold Jp at h
     show cK P .any l.toArray Q C zs ((fuel+r.length)+1) listed a w
     by_cases hw:Region.wanted o (yielded l.toArray a.tmps)=true
     ·unfold wpQuiet at h
      rw [az hw] at h;obtain ⟨v,hv,hn⟩:=h;refine Zj (v:=v) hbk hop hs hf hr (fun c a w=>hQ c _ _ a w) (.inl ⟨hw,fun w' _=>?_⟩) hC (vD hs hQ hC r _ _ hg2 hk hn);have q:=hv w' ⟨⟨w',trivial⟩,rfl⟩;unfold Oper.quietAt at q
      cases e:(execOp a.eval o).run P w' with
      | halt x w1=>rw [e] at q;cases q
      | ok n w1 =>
        obtain ⟨u,rfl⟩:=eH hl e;rw [e] at q;obtain ⟨e1,e2⟩:=q;rw [e1,e2]
     ·unfold wpQuiet at h
      rw [aq hw] at h;exact Zj (v:=undef) hbk hop hs hf hr (fun c a w=>hQ c _ _ a w) (.inr ⟨by simpa using hw,rfl⟩) hC (vD hs hQ hC r _ _ hg2 hk h)
theorem Ux (C:World->Prop) (us ls vs:List Nat) (sc:List (Nat×Nat)) (zs:List Nat) (F:List Fl) (hm:P.follows .mixedOrders=true) (hs:Region.noSelect l.toArray=true) (hgu:As l.toArray zs us (Array.replicate l.toArray.size false)=true)
 (hgl:wG l.toArray zs ls (marks (Array.replicate l.toArray.size false) us)=true) (hgv:As l.toArray zs vs (marks (marks (Array.replicate l.toArray.size false) us) ls)=true) (hg:good l.toArray zs sc F (marks (marks (marks (Array.replicate l.toArray.size false) us) ls) vs)=true) (hc:cnt zs.length sc+F.length+vs.length+ls.length+us.length=l.toArray.size) (hn:(F.map (·.slot)).Nodup) (hi:∀ f∈F,∀ f'∈F,f.idx=f'.idx->f.slot=f'.slot) (hx:∀ f∈F,∀ g∈F,some f.slot≠g.sv.map (·.1)) (hF:∀ f∈F,Gj P l f)
 (h0:C w.drew) (hn0:∀ w',C w'->w.heap.size<=w'.heap.size) (hA:∀ w' o,C w'->C (w'.alloc o))
 (h:Jp P l.toArray (fun w'=>∃ p:In (fun _=>True),w'=p.world) (fun a0=>Jp P l.toArray (fun w'=>∃ p:In C,w'=p.world) (fun a1=>Jp P l.toArray (fun w'=>∃ p:In (fun _=>True),w'=p.world) (fun a'=>(∀ f∈F,f.at a')/\dx P l.toArray (fun w'=>∃ p:In C,w'=p.world) (NoPanic Q) (bK l zs) w.heap.size (aK l sc) F [] [] a' w.drew) (bK l vs) a1) (bK l ls) a0) (bK l us) a):(Code.region id l.toArray true).wp P Q a w :=
 wp_region_noPanic (wp_region_any hm (rY (S:=fun w'=>∃ p:In C,w'=p.world) (zs:=zs) _ _ _ _ (by
  have hll:=vD (fuel:=cnt zs.length sc+F.length+vs.length+ls.length) (zs:=zs) (C:=fun w'=>∃ p:In C,w'=p.world) (Q:=NoPanic Q) hs (fun _ _ _ _ _ h=>h) (Cl.of h0) us _ a hgu (fun a0 ha0=>?_) h
  ·rw [hc] at hll
   exact hll
  refine JK (fuel:=cnt zs.length sc+F.length+vs.length) (zs:=zs) (C:=fun w'=>∃ p:In C,w'=p.world) (Q:=NoPanic Q) hs (fun _ _ _ _ _ h=>h) (Cl.of h0) ls _ a0 hgl (fun a1 ha1=>?_) ha0;refine vD (fuel:=cnt zs.length sc+F.length) (zs:=zs) (C:=fun w'=>∃ p:In C,w'=p.world) (Q:=NoPanic Q) hs (fun _ _ _ _ _ h=>h) (Cl.of h0) vs _ a1 hgv (fun a' ha=>?_) ha1;obtain ⟨hsrc,ha⟩:=ha;have hd:bS F (fun _=>false) = []:=by unfold bS;simp
  have k:=holds (P:=P) (l:=l) (C:=fun w'=>∃ p:In C,w'=p.world) (Q:=NoPanic Q) (zs:=zs) (n0:=w.heap.size) hs (fun _ _ _ _ _ h=>h) (fun w' h=>by obtain ⟨p,rfl⟩:=h;exact hn0 _ p.ok) (fun w' o h=>by obtain ⟨p,rfl⟩:=h;exact Cl.of (hA _ _ p.ok)) (2 * (cnt zs.length sc+F.length)+sc.length) sc F [] [] (marks (marks (marks (Array.replicate l.toArray.size false) us) ls) vs) (cnt zs.length sc+F.length) a' w.drew (fun _=>false) (fun s=>a'.tmps.getD s undef) w.drew
   (am _) hg hF hn hi ⟨hx,hsrc,fun _ _ _=>rfl,fun _ _ h=>(by cases h),fun _ _ _ _ _ h=>(by cases h),fun _ hp=>(by cases hp),fun _ hg=>(by cases hg)⟩ (af _ _) (Cl.of h0) (by rw [xH];exact am _) ha
  rw [hd,qJ] at k
  exact k)))
theorem abm (C:World->Prop) (us ls:List Nat) (sc:List (Nat×Nat)) (zs:List Nat) (F:List Fl) (hm:P.follows .mixedOrders=true) (hs:Region.noSelect l.toArray=true) (hgu:As l.toArray zs us (Array.replicate l.toArray.size false)=true)
 (hgl:wG l.toArray zs ls (marks (Array.replicate l.toArray.size false) us)=true) (hg:good l.toArray zs sc F (marks (marks (Array.replicate l.toArray.size false) us) ls)=true) (hc:cnt zs.length sc+F.length+ls.length+us.length=l.toArray.size) (hn:(F.map (·.slot)).Nodup) (hi:∀ f∈F,∀ f'∈F,f.idx=f'.idx->f.slot=f'.slot) (hx:∀ f∈F,∀ g∈F,some f.slot≠g.sv.map (·.1)) (hF:∀ f∈F,Gj P l f)
 (h0:C w.drew) (hn0:∀ w',C w'->w.heap.size<=w'.heap.size) (hA:∀ w' o,C w'->C (w'.alloc o))
 (h:Jp P l.toArray (fun w'=>∃ p:In (fun _=>True),w'=p.world) (fun a0=>Jp P l.toArray (fun w'=>∃ p:In C,w'=p.world) (fun a'=>(∀ f∈F,f.at a')/\dx P l.toArray (fun w'=>∃ p:In C,w'=p.world) (NoPanic Q) (bK l zs) w.heap.size (aK l sc) F [] [] a' w.drew) (bK l ls) a0) (bK l us) a):(Code.region id l.toArray true).wp P Q a w :=
 Ux C us ls [] sc zs F hm hs hgu hgl rfl hg hc hn hi hx hF h0 hn0 hA h
theorem aby (C:World->Prop) (ls:List Nat) (sc:List (Nat×Nat)) (zs:List Nat) (F:List Fl) (hm:P.follows .mixedOrders=true) (hs:Region.noSelect l.toArray=true)
 (hgl:wG l.toArray zs ls (Array.replicate l.toArray.size false)=true) (hg:good l.toArray zs sc F (marks (Array.replicate l.toArray.size false) ls)=true) (hc:cnt zs.length sc+F.length+ls.length=l.toArray.size) (hn:(F.map (·.slot)).Nodup) (hi:∀ f∈F,∀ f'∈F,f.idx=f'.idx->f.slot=f'.slot) (hx:∀ f∈F,∀ g∈F,some f.slot≠g.sv.map (·.1)) (hF:∀ f∈F,Gj P l f)
 (h0:C w.drew) (hn0:∀ w',C w'->w.heap.size<=w'.heap.size) (hA:∀ w' o,C w'->C (w'.alloc o))
 (h:Jp P l.toArray (fun w'=>∃ p:In C,w'=p.world) (fun a'=>(∀ f∈F,f.at a')/\dx P l.toArray (fun w'=>∃ p:In C,w'=p.world) (NoPanic Q) (bK l zs) w.heap.size (aK l sc) F [] [] a' w.drew) (bK l ls) a):(Code.region id l.toArray true).wp P Q a w :=
 abm C [] ls sc zs F hm hs rfl hgl hg hc hn hi hx hF h0 hn0 hA h
theorem start (C:World->Prop) (ls:List Nat) (sc:List (Nat×Nat)) (F:List Fl) (hm:P.follows .mixedOrders=true) (hs:Region.noSelect l.toArray=true)
 (hgl:wG l.toArray [] ls (Array.replicate l.toArray.size false)=true) (hg:good l.toArray [] sc F (marks (Array.replicate l.toArray.size false) ls)=true) (hc:cnt 0 sc+F.length+ls.length=l.toArray.size) (hn:(F.map (·.slot)).Nodup) (hi:∀ f∈F,∀ f'∈F,f.idx=f'.idx->f.slot=f'.slot) (hx:∀ f∈F,∀ g∈F,some f.slot≠g.sv.map (·.1)) (hF:∀ f∈F,Gj P l f)
 (h0:C w.drew) (hn0:∀ w',C w'->w.heap.size<=w'.heap.size) (hA:∀ w' o,C w'->C (w'.alloc o))
 (h:Jp P l.toArray (fun w'=>∃ p:In C,w'=p.world) (fun a'=>(∀ f∈F,f.at a')/\dx P l.toArray (fun w'=>∃ p:In C,w'=p.world) (NoPanic Q) [] w.heap.size (aK l sc) F [] [] a' w.drew) (bK l ls) a):(Code.region id l.toArray true).wp P Q a w :=
 aby C ls sc [] F hm hs hgl hg hc hn hi hx hF h0 hn0 hA h
theorem startP (sc:List (Nat×Nat)) (F:List Fl) (hm:P.follows .mixedOrders=true) (hs:Region.noSelect l.toArray=true)
 (hg:(good l.toArray [] sc F (Array.replicate l.toArray.size false) && F.all fun f=>f.sv.isNone)=true) (hc:cnt 0 sc+F.length<=l.toArray.size) (hn:(F.map (·.slot)).Nodup) (hi:∀ f∈F,∀ f'∈F,f.idx=f'.idx->f.slot=f'.slot) (hF:∀ f∈F,Gj P l f)
 (h:dx P l.toArray (fun w'=>∃ p:Sd.By w,w'=p.world) (NoPanic Q) [] w.heap.size (aK l sc) F [] [] a w.drew):(Code.region id l.toArray true).wp P Q a w :=
 wp_region_noPanic (wp_region_any hm (rY (S:=Sd.Cl w) (zs:=[]) _ _ _ _ (by
  have hd:bS F (fun _=>false) = []:=by unfold bS;simp
  rw [cg,eS] at hg;have hv:∀ f∈F,f.sv=none:=fun f hf=>by simpa using hg.2 f hf
  have k:=holds (P:=P) (l:=l) (C:=Sd.Cl w) (Q:=NoPanic Q) (zs:=[]) (n0:=w.heap.size) hs (fun _ _ _ _ _ h=>h) (fun w' h=>h.aD.size) (fun w' o h=>Sd.Cl.of (h.aD.alloc h.aD.size o)) (2 * l.toArray.size+sc.length) sc F [] [] (Array.replicate l.toArray.size false) l.toArray.size a w.drew (fun _=>false) (fun s=>a.tmps.getD s undef) w.drew
   (am _) hg.1 hF hn hi ⟨fun f _ g hg=>by rw [hv g hg];exact fun e=>(by cases e),fun f hf s u e=>(by rw [hv f hf] at e;cases e),fun _ _ _=>rfl,fun _ _ h=>(by cases h),fun _ _ _ _ _ h=>(by cases h),fun _ hp=>(by cases hp),fun _ hg=>(by cases hg)⟩ (af _ _) (Sd.Cl.of (af _ _).drew) (by rw [xH];exact hc) h
  rw [hd,qJ] at k
  exact k)))
theorem Vx {cs:Array Value} {ty:TypeId} (h1:l.toArray[i]? = some o) (h2:o.dst=some s) (h3:o.guard=none) (h:∀ ρ w,(execOp ρ o).run P w = .ok (.value (.pointer (some ⟨w.heap.size,0,none⟩))) (w.alloc (.cells cs ty))):Gj P l ⟨i,s,cs,ty,none,none⟩:=⟨o,h1,h2,h3,fun a w _=>h a.eval w⟩
section
variable {ops:Array Oper} {a:Act} {w:World} {o:Oper} {r:List (Nat×Oper)} {F:List Fl} {H:List (Nat×Nat)} {L:List Nat}
theorem lit (h:∀ x,wpQuiet P ops C (fun a'=>dx P ops C Q tl n0 r F H L a' w) [o] (fill F x a)):dx P ops C Q tl n0 ((0,o) :: r) F H L a w:=h
theorem call (h:∀ x w',Below w.heap.size w w'->C w'->Region.wanted o (yielded ops (fill F x a).tmps)=true /\
 ∀ K:Act->World->Prop,(∀ a'' w'',C w''->w'.heap.size<=w''.heap.size->(∀ g,n0<=g->g < w'.heap.size->w''.heap[g]? = w'.heap[g]?)->dx P ops C Q tl n0 r F ((w'.heap.size,w''.heap.size) :: H) L a'' w''->K a'' w'')->o.wp P (fill F x a) w' K Q) :
 dx P ops C Q tl n0 ((1,o) :: r) F H L a w:=fun x w' hb hc=>⟨(h x w' hb hc).1,(h x w' hb hc).2 _ fun _ _ c s b k=>⟨c,s,.inr fun g h1 h2 _ _=>b g h1 h2,k⟩⟩
theorem abV (h:∀ x w',Below w.heap.size w w'->C w'->Region.wanted o (yielded ops (fill [] x a).tmps)=true /\
 ∀ K:Act->World->Prop,(∀ a'' w'',C w''->w'.heap.size<=w''.heap.size->dx P ops C Q tl n0 r [] ((w'.heap.size,w''.heap.size) :: H) L a'' w''->K a'' w'')->o.wp P (fill [] x a) w' K Q) :
 dx P ops C Q tl n0 ((1,o) :: r) [] H L a w:=fun x w' hb hc=>⟨(h x w' hb hc).1,(h x w' hb hc).2 _ fun _ _ c s k=>⟨c,s,.inl rfl,k⟩⟩
theorem iQ (h:∀ x w',Below w.heap.size w w'->C w'->Region.wanted o (yielded ops (fill F x a).tmps)=true /\
 ∀ K:Act->World->Prop,(∀ a'' w'',C w''->w'.heap.size<=w''.heap.size->(F≠[]->Below w'.heap.size w' w'')->dx P ops C Q tl n0 r F ((w'.heap.size,w''.heap.size) :: H) L a'' w''->K a'' w'')->o.wp P (fill F x a) w' K Q) :
 dx P ops C Q tl n0 ((1,o) :: r) F H L a w:=fun x w' hb hc=>⟨(h x w' hb hc).1,(h x w' hb hc).2 _ fun _ _ c s b k=>⟨c,s,match F,b with
  | [],_=>.inl rfl
  | _ :: _,b=>.inr fun g _ hg _ _=>(b (by simp)).block g hg,k⟩⟩
theorem nW {cs:Array Value} {ty:TypeId} (h:∀ g w',Below w.heap.size w w'->C w'->w'.heap[g]? = some (.cells cs ty (0,0))->n0<=g->(∀ p∈H,g < p.1\/p.2<=g)->g ∉ L->dx P ops C Q tl n0 r F H (g :: L) (a.put (some s) (.pointer (some ⟨g,0,none⟩))) w') :
 dx P ops C Q tl n0 ((2,o) :: r) (⟨i,s,cs,ty,none,none⟩ :: F) H L a w:=h
theorem done (h:∀ w',Below w.heap.size w w'->C w'->Q .normal a w'):dx P ops C (NoPanic Q) [] n0 [] F H L a w:=h
theorem acA (h:∀ w',Below w.heap.size w w'->C w'->wpT P Q tl a w'):dx P ops C Q tl n0 [] F H L a w:=h
theorem lastT {r:List Oper} (h:∀ K:Act->World->Prop,(∀ a' w',wpT P Q r a' w'->K a' w')->o.wp P a w K Q):wpT P Q (o :: r) a w:=h _ fun _ _ k=>k
theorem ado (h:Q .normal a w):wpT P (NoPanic Q) [] a w:=h
end
end
end Sg
namespace Fl
open Go.RowKit
attribute [local irreducible] Sd.aU wpQuiet Sg.dx
theorem L5 (l:List R4) (k:Nat) (hk:k < l.length) (y:R4):rat (l.set k y) k=y:=by simp [rat,List.getD,hk]
theorem Cj (l:List R4) (k:Nat) (hk:k < l.length):l.set k (rat l k)=l:=by
 have:rat l k=l[k]:=by simp [rat,List.getD,List.getElem?_eq_getElem hk]
 rw [this,List.set_getElem_self]
variable {w W:World} {B g n cap gF gu cu:Nat} {l m:List R4}
theorem Ci (h:Ow K4 w B 36 (.slice (some ⟨g,0,none⟩) n cap) l) (k:Nat) (hk:k < l.length) :
 (w.cell? ⟨g,k * 4,none⟩=some (.int .u8 (rat l k).1)/\w.cell? ⟨g,k * 4+1,none⟩=some (.int .u8 (rat l k).2.1)/\w.cell? ⟨g,k * 4+2,none⟩=some (.int .u8 (rat l k).2.2.1)/\w.cell? ⟨g,k * 4+3,none⟩=some (.int .u8 (rat l k).2.2.2))/\(∀ j,w.frozen? ⟨g,j,none⟩=false)/\B<=g/\g < w.heap.size:=by
 obtain ⟨g',cap',eg,h1,h2,_,_,hf,hA⟩:=h.form (by omega);have e:g=g':=by
  injection eg with e1;injection e1 with e1;injection e1 with e1 _ _
 subst e;have c:=at4 hA k hk;simp only [fd] at c;exact ⟨c,hf,h1,h2⟩
theorem wI {u:Value} (h:Ow K4 w B 36 u l) (hl:0 < l.length):∃ g cap,u = .slice (some ⟨g,0,none⟩) l.length cap:=by
 obtain ⟨g,cap,e,_⟩:=h.form hl;exact ⟨g,cap,e⟩
structure Have (w:World) (p:Int) (v:Value) (x:R4) (gF:Nat) (u:Value) (m:List R4) (W:World):Prop where
 st:Start w p v x W
 row:W.heap[gF]? = some (.cells #[.int .i64 p,u] 83 (0,0))
 own:Ow K4 W (w.heap.size+4) 36 u m
 ge:w.heap.size+4<=gF
 ne:u.ownBlock≠some gF
theorem Have.mono {w W W':World} {p:Int} {v u:Value} {x:R4} {gF:Nat} {m:List R4} (h:Have w p v x gF u m W) (b:Below W.heap.size W W'):Have w p v x gF u m W' :=
 ⟨h.st.mono b,bU b h.row,h.own.keep b,h.ge,h.ne⟩
variable {p op rec:Int}
theorem Have.put {v:Value} {x:R4} (h:Have w p v x gF (.slice (some ⟨gu,0,none⟩) n cu) m W) (hn:n=m.length) (k:Nat) (hk:k < m.length) (y:R4) :
 Have w p v x gF (.slice (some ⟨gu,0,none⟩) n cu) (m.set k y) (bf W gu (k * 4) y):=by
 have hge:=(Ci h.own k hk).2.2.1;have hne:gF≠gu:=fun e=>h.ne (by rw [e];rfl);exact ⟨⟨aH h.st.box (by omega),aH h.st.arg (by omega),aH h.st.res1 (by omega),aH h.st.res2 (by omega),by rw [bP];exact h.st.Jw,aJ h.st.aD (by omega)⟩,aH h.row hne,fG h.own hn k hk y,h.ge,h.ne⟩
def Last (w:World) (p:Int) (gF:Nat) (u:Value) (m:List R4) (W:World):Prop:=W.heap[gF]? = some (.cells #[.int .i64 p,u] 83 (0,0))/\Ow K4 W (w.heap.size+4) 36 u m
theorem Tm (w:World) (p:Int) (a:Option Addr) (n cap:Nat) (l:List R4) (R:Rd K4 w (.slice a n cap) l) (op rec:Int) (x:R4) (he:¬ jf p l op rec=0):Calls prog 106 #[file p (.slice a n cap),.int .i64 op,.int .i64 rec,aG x] w (oN w p l op rec x):=by
 have S0:Hid (Start w p (.slice a n cap) x ((((w.alloc (.cells #[.int .i64 p,.slice a n cap] 83)).alloc (.cells #[.int .u8 x.1,.int .u8 x.2.1,.int .u8 x.2.2.1,.int .u8 x.2.2.2] 36)).alloc (.cells #[.int .i64 0,.slice none 0 0] 83)).alloc (.cells #[.int .u8 0,.int .u8 0,.int .u8 0,.int .u8 0] 36))):=Hh (Start.of w p _ x);have WR:=Hh (Al _ p _ l (R.below S0.aD) op rec);have E:Hid (∀ w',Below w.heap.size w w'->oN w p l op rec x (.returned (.tuple #[file 0 (.slice none 0 0),aG z4,.int .i64 (jf p l op rec)])) w'):=fun w' h=>⟨.slice none 0 0,by rw [aq he,aq he],by rw [aq he];exact Ow.nil _ _ _,h⟩;have hd:(jf p l op rec != 0)=true:=by simpa using he
 clear R he;generalize jf p l op rec=d at *;unfold file aG at *
 go_enter func106,ntmps106
 go_wp2_with fail;generalize (((w.alloc (.cells #[.int .i64 p,.slice a n cap] 83)).alloc (.cells #[.int .u8 x.1,.int .u8 x.2.1,.int .u8 x.2.2.1,.int .u8 x.2.2.2] 36)).alloc (.cells #[.int .i64 0,.slice none 0 0] 83)).alloc (.cells #[.int .u8 0,.int .u8 0,.int .u8 0,.int .u8 0] 36)=W at *;refine WR.mono ?_;rintro e w1 ⟨rfl,b1⟩;have S1:=Hh (S0.mono b1);clear b1 S0 WR;obtain ⟨c0,c1⟩:=BO S1.res1;obtain ⟨d0,d1,d2,d3⟩:=Ib S1.res2;obtain ⟨f0,f1⟩:=fz2 S1.res1;obtain ⟨k0,k1,k2,k3⟩:=fz4 S1.res2;have R1:=Hh (aH (g:=w.heap.size+3) (o:=0) (r:=z4) (aY S1.res1 0 (.slice none 0 0)) (by omega));have R2:=Hh (aR (dQ (g:=w.heap.size+2) (p:=0) (v:=.slice none 0 0) S1.res2 (by omega)) z4);have B2:=Hh (aJ (o:=0) (r:=z4) (aM (p:=0) (v:=.slice none 0 0) S1.aD (show w.heap.size<=w.heap.size+2 by omega)) (show w.heap.size<=w.heap.size+3 by omega));clear S1;go_wp2
 (try simp only [Exit.inBlock,Exit.then])
 exact bs (vV (p:=8) (q:=9) (r:=10) rfl _ _ (w.heap.size+2) (w.heap.size+3) 0 (.slice none 0 0) z4 d rfl rfl rfl R1 R2) rfl (E _ B2)
structure Read (w:World) (p:Int) (v:Value) (gF:Nat) (u:Value) (W:World):Prop where
 box:W.heap[w.heap.size]? = some (.cells #[.int .i64 p,v] 83 (0,0))
 row:W.heap[gF]? = some (.cells #[.int .i64 p,u] 83 (0,0))
 aD:Below w.heap.size w W
theorem TD (h:jf p l op rec=0):aL p l/\(0<=op/\op<=2)/\0<=rec/\rec < l.length:=by
 by_cases h1:aL p l
 ·by_cases h2:0<=op/\op<=2
  ·by_cases h3:0<=rec/\rec < l.length
   ·exact ⟨h1,h2,h3⟩
   ·rw [Zt h1 h2 h3] at h;omega
  ·rw [ZM h1 h2] at h;omega
 ·rw [Zl h1] at h;omega
theorem I8 (w:World) (p:Int) (a:Option Addr) (n cap:Nat) (l:List R4) (R:Rd K4 w (.slice a n cap) l) (hl:dF l) (op:Int) (k:Nat) (x:R4) (he:jf p l op k=0) (ho:0<=op/\op<=2) (hk:k < l.length) (h256:l.length<=256):Calls prog 106 #[file p (.slice a n cap),.int .i64 op,.int .i64 (k:Int),aG x] w (oN w p l op k x):=by
 obtain ⟨b,off,rfl,hA⟩:∃ b off,a=some ⟨b,off,none⟩/\At K4 w b off l:=by
  obtain ⟨a',cap',e,_,_,h4⟩:=R;injection e with e1 e2 e3;subst e1;exact h4 (by omega)
 have hn:n=l.length:=by
  obtain ⟨a',cap',e,_⟩:=R;injection e
 have S0:Hid (Start w p (.slice (some ⟨b,off,none⟩) n cap) x ((((w.alloc (.cells #[.int .i64 p,.slice (some ⟨b,off,none⟩) n cap] 83)).alloc (.cells #[.int .u8 x.1,.int .u8 x.2.1,.int .u8 x.2.2.1,.int .u8 x.2.2.2] 36)).alloc (.cells #[.int .i64 0,.slice none 0 0] 83)).alloc (.cells #[.int .u8 0,.int .u8 0,.int .u8 0,.int .u8 0] 36))):=Hh (Start.of w p _ x);have WR:=Hh (Ki he (Al _ p _ l (R.below S0.aD) op k));obtain ⟨y,hy⟩:∃ y,newR l op k x=y:=⟨_,rfl⟩;have EY:Hid (∀ u w',Ow K4 w' w.heap.size 36 u (l.set k y)->Below w.heap.size w w'->oN w p l op k x (.returned (.tuple #[file p u,aG y,.int .i64 0])) w'):=fun u w' h hb=>⟨u,by rw [az he,az he,he,hy],by rw [az he,hy,cU];exact h,hb⟩;have HLL:=Hh (fh hk (fh hn h256));have RR:=Hh R;have HA:=Hh hA;have OK:=Hh hl;have hkn:k < n:=by omega
 have hn0:n < 2147483648:=by omega
 clear he R hA hl hn h256 hk;unfold file aG at *
 go_enter func106,ntmps106
 go_wp2_with fail;generalize (((w.alloc (.cells #[.int .i64 p,.slice (some ⟨b,off,none⟩) n cap] 83)).alloc (.cells #[.int .u8 x.1,.int .u8 x.2.1,.int .u8 x.2.2.1,.int .u8 x.2.2.2] 36)).alloc (.cells #[.int .i64 0,.slice none 0 0] 83)).alloc (.cells #[.int .u8 0,.int .u8 0,.int .u8 0,.int .u8 0] 36)=W at *;refine WR.mono ?_;rintro e w1 ⟨rfl,b1⟩;have S1:=Hh (S0.mono b1);clear b1 S0 WR;go_wp2_with fail;have s0:=Sd.aC (Fl.rc S1.box 0);have s1:=Sd.aC (Fl.rc S1.box 1);refine Sg.startP [(0,0),(0,1),(0,2),(0,3),(1,4),(0,5),(2,6),(1,7)] [⟨6,12,#[.int .i64 0,.slice none 0 0],83,none,none⟩] (by kernel_rfl) (by kernel_rfl) (by kernel_rfl) (by decide) (by decide) ?_ ?_ ?_
 ·simp
 ·intro f hf
  simp only [cy,dj,gR] at hf;subst hf;exact Sg.Vx rfl rfl rfl fun ρ w=>by go_simp
 dsimp only [Sg.aK,List.getElem?_cons_succ,List.getElem?_cons_zero];have BW:=Hh ((af w1.heap.size w1).drew)
 repeat (refine Sg.lit (fun xs=>?_);simp only [Sg.fill,cz,ce];quiet_step (fail);refine br ?_)
 refine Sg.iQ (fun xs w3 hb hc=>⟨by rfl,fun K hK=>?_⟩);have B3:=aN BW hb;clear hb hc BW;simp only [Sg.fill,cz,ce];go_simp;have R3:=RR.below (S1.aD.trans (B3.mono (by have:=S1.out.Jw;omega)));refine (qN _ _ l R3 (by have:=HLL.out.2.2;omega)).mono ?_;rintro e4 w4 ⟨u,rfl,o4,b4⟩;obtain ⟨gu,cu,rfl⟩:=wI o4 (by have:=HLL.out.1;omega);rw [← HLL.out.2.1] at o4 ⊢;have B4:=aN B3 b4;have O4:=Hh o4;refine hK _ _ (Sd.Cl.of B4) b4.size (fun _=>b4) ?_;clear hK K b4 o4 R3
 repeat (refine Sg.lit (fun xs=>?_);simp only [Sg.fill,cz,ce];quiet_step (fail);refine br ?_)
 refine Sg.nW (fun gF w7 hb hc row n7 hH hL=>?_);have B7:=aN B4 hb;have N7:=Hh (O4.range (hH _ (cG ..)));have O7:=Hh (O4.keep hb);have R7:=Hh (row);clear hb hc row hH hL B4 O4;refine Sg.iQ (fun xs w9 hb hc=>⟨by rfl,fun K hK=>?_⟩);have B9:=aN B7 hb;have O9:=Hh (O7.keep hb);have R9:=bU hb R7;obtain ⟨c0,c1,f0,f1⟩:=Bw R9;have RA:=aY R9 p (.slice (some ⟨gu,0,none⟩) n cu);have BA:=aM (p:=p) (v:=.slice (some ⟨gu,0,none⟩) n cu) B9 n7;have OA:=dW (u:=.slice (some ⟨gu,0,none⟩) n cu) O9 N7 p;have hs1:=S1.Jw;have hs3:=B3.size;have HB:Hid (Have w p (.slice (some ⟨b,off,none⟩) n cap) x gF (.slice (some ⟨gu,0,none⟩) n cu) l (fD w9 gF p (.slice (some ⟨gu,0,none⟩) n cu))):=⟨S1.mono BA,RA,OA.low (by omega),by omega,N7.out⟩;have hsz:=eZ w9 gF p (.slice (some ⟨gu,0,none⟩) n cu);clear hb hc B7 O7 R7 R9 RA OA B9 O9 N7;simp only [Sg.fill,ce];go_simp;refine hK _ _ (Sd.Cl.of BA) (by rw [← hsz];exact am _) (fun h=>absurd rfl h) ?_;clear hK K c0 c1 f0 f1
 show Sg.dx _ _ _ _ _ _ _ _ _ _ _ (fD w9 gF p (.slice (some ⟨gu,0,none⟩) n cu))
 clear BA hsz;generalize fD w9 gF p (.slice (some ⟨gu,0,none⟩) n cu)=wA at *;refine Sg.done (fun wB hb hc=>?_);have HV:=Hh (HB.mono hb);clear hb hc HB S1 B3 s0 s1 n7 hs1 hs3;unfold newR at hy
 replace hy:=Hh hy
 rcases (by omega:op=0\/op=1\/op=2) with rfl | rfl | rfl
 case' inl =>
  rw [aq (by decide),aq (by decide),cU] at hy;rw [← Cj l k HLL.out.1,hy.out] at HV;go_wp2_with fail;generalize wB=Wz at *
 case' inr.inl =>
  rw [az rfl] at hy;have hx:=hy.symm;subst hx;have HP:=Hh (HV.put HLL.out.2.1 k HLL.out.1 y);obtain ⟨⟨c0,c1,c2,c3⟩,hfr,_,_⟩:=Ci HV.own k HLL.out.1;have f0:=hfr (k * 4);have f1:=hfr (k * 4+1);have f2:=hfr (k * 4+2);have f3:=hfr (k * 4+3);have r1:=Fl.rc HV.row 1;obtain ⟨a0,a1,a2,a3⟩:=Ib HV.st.arg;clear hfr HV;go_wp2_with fail;clear c0 c1 c2 c3 f0 f1 f2 f3 r1 a0 a1 a2 a3
  show Code.wp _ _ _ _ (bf wB gu (k * 4) y)
  generalize bf wB gu (k * 4) y=Wz at *;have HV:=HP;clear HP
 case' inr.inr =>
  have hR:=jP OK k;rw [aq (by decide),az rfl,cU] at hy;have INC:=Hh (fun w=>Xy w (rat l k) hR);clear hR;go_wp2_with fail;have C0:Read w p (.slice (some ⟨b,off,none⟩) n cap) gF (.slice (some ⟨gu,0,none⟩) n cu) wB.drew:=⟨(HV.mono (af wB.heap.size wB).drew).st.box,(HV.mono (af wB.heap.size wB).drew).row,(HV.mono (af wB.heap.size wB).drew).st.aD⟩;have r1:=Sc.ay (C:=Read w p (.slice (some ⟨b,off,none⟩) n cap) gF (.slice (some ⟨gu,0,none⟩) n cu)) (a:=⟨gF,1,none⟩) (fun W' h=>ah h.row 1);have r2:=Sc.ay (C:=Read w p (.slice (some ⟨b,off,none⟩) n cap) gF (.slice (some ⟨gu,0,none⟩) n cu)) (a:=⟨w.heap.size,1,none⟩) (fun W' h=>ah h.box 1);have HQ:=Hh (fun (W':World) (h:Read w p (.slice (some ⟨b,off,none⟩) n cap) gF (.slice (some ⟨gu,0,none⟩) n cu) W')=>at4 (HA.below h.aD) k HLL.out.1);have q0:=Sc.ay (C:=Read w p (.slice (some ⟨b,off,none⟩) n cap) gF (.slice (some ⟨gu,0,none⟩) n cu)) (fun W' h=>(HQ W' h).1);have q1:=Sc.ay (C:=Read w p (.slice (some ⟨b,off,none⟩) n cap) gF (.slice (some ⟨gu,0,none⟩) n cu)) (fun W' h=>(HQ W' h).2.1);have q2:=Sc.ay (C:=Read w p (.slice (some ⟨b,off,none⟩) n cap) gF (.slice (some ⟨gu,0,none⟩) n cu)) (fun W' h=>(HQ W' h).2.2.1);have q3:=Sc.ay (C:=Read w p (.slice (some ⟨b,off,none⟩) n cap) gF (.slice (some ⟨gu,0,none⟩) n cu)) (fun W' h=>(HQ W' h).2.2.2);have ne:Nonempty (Sc.In (Read w p (.slice (some ⟨b,off,none⟩) n cap) gF (.slice (some ⟨gu,0,none⟩) n cu))):=⟨⟨_,C0⟩⟩;clear HQ;refine Sc.start (Read w p (.slice (some ⟨b,off,none⟩) n cap) gF (.slice (some ⟨gu,0,none⟩) n cu)) [(false,0),(false,1),(false,2),(false,3),(false,4),(false,5),(false,6),(false,7),(true,8),(false,9),(true,10)] (by kernel_rfl) (by kernel_rfl) (by kernel_rfl) C0 ?_;dsimp only [Sd.aK,List.getElem?_cons_succ,List.getElem?_cons_zero]
  repeat (refine Sd.lit ?_;quiet_step (fail);refine br ?_)
  refine Sd.call (by rfl) (fun K hK=>?_);have IC:=INC.out;unfold aG at IC;go_simp;refine (IC _).mono ?_;rintro e w3 ⟨rfl,b3⟩;have HB:=Hh (HV.mono (gC ((af wB.heap.size wB).drew) b3));refine hK _ _ (Sc.Cl.of ⟨HB.st.box,HB.row,HB.st.aD⟩) ?_;clear hK K b3 HV IC INC C0;rw [hy.out]
  repeat (refine Sd.lit ?_;quiet_step (fail);refine br ?_)
  clear r1 r2 q0 q1 q2 q3;refine Sd.call (by rfl) (fun K hK=>?_);have HP:=Hh (HB.put HLL.out.2.1 k HLL.out.1 y);obtain ⟨⟨c0,c1,c2,c3⟩,hfr,_,_⟩:=Ci HB.own k HLL.out.1;have f0:=hfr (k * 4);have f1:=hfr (k * 4+1);have f2:=hfr (k * 4+2);have f3:=hfr (k * 4+3);clear hfr HB;go_simp;refine hK _ _ (Sc.Cl.of ⟨HP.st.box,HP.row,HP.st.aD⟩) ?_;clear hK K c0 c1 c2 c3 f0 f1 f2 f3 ne
  show Sd.aU _ _ _ _ _ _ (bf w3 gu (k * 4) y)
  generalize bf w3 gu (k * 4) y=Wz at *;have HV:=HP;clear HP;refine Sd.done ?_;go_wp2_with fail
 all_goals
  obtain ⟨⟨c0,c1,c2,c3⟩,_,_,_⟩:=Ci HV.own k (by rw [cI];exact HLL.out.1);rw [L5 l k HLL.out.1] at c0 c1 c2 c3;have C0:Last w p gF (.slice (some ⟨gu,0,none⟩) n cu) (l.set k y) Wz.drew:=⟨HV.row,HV.own⟩;have r0:=Sc.ay (C:=Last w p gF (.slice (some ⟨gu,0,none⟩) n cu) (l.set k y)) (a:=⟨gF,0,none⟩) (fun W' h=>ah h.1 0);have r1:=Sc.ay (C:=Last w p gF (.slice (some ⟨gu,0,none⟩) n cu) (l.set k y)) (a:=⟨gF,1,none⟩) (fun W' h=>ah h.1 1);have HQ:Hid (∀ W',Last w p gF (.slice (some ⟨gu,0,none⟩) n cu) (l.set k y) W'->(W'.cell? ⟨gu,k * 4,none⟩=some (.int .u8 y.1)/\W'.cell? ⟨gu,k * 4+1,none⟩=some (.int .u8 y.2.1)/\W'.cell? ⟨gu,k * 4+2,none⟩=some (.int .u8 y.2.2.1)/\W'.cell? ⟨gu,k * 4+3,none⟩=some (.int .u8 y.2.2.2))):=fun W' h=>by
   have:=(Ci h.2 k (by rw [cI];exact HLL.out.1)).1;rw [L5 l k HLL.out.1] at this;exact this
  have q0:=Sc.ay (C:=Last w p gF (.slice (some ⟨gu,0,none⟩) n cu) (l.set k y)) (fun W' h=>(HQ W' h).1);have q1:=Sc.ay (C:=Last w p gF (.slice (some ⟨gu,0,none⟩) n cu) (l.set k y)) (fun W' h=>(HQ W' h).2.1);have q2:=Sc.ay (C:=Last w p gF (.slice (some ⟨gu,0,none⟩) n cu) (l.set k y)) (fun W' h=>(HQ W' h).2.2.1);have q3:=Sc.ay (C:=Last w p gF (.slice (some ⟨gu,0,none⟩) n cu) (l.set k y)) (fun W' h=>(HQ W' h).2.2.2);have ne:Nonempty (Sc.In (Last w p gF (.slice (some ⟨gu,0,none⟩) n cu) (l.set k y))):=⟨⟨_,C0⟩⟩;clear c0 c1 c2 c3 HQ;refine Sc.start (Last w p gF (.slice (some ⟨gu,0,none⟩) n cu) (l.set k y)) [(false,0),(false,1),(false,2),(false,3),(false,4),(false,5),(true,6),(true,7),(false,8)] (by kernel_rfl) (by kernel_rfl) (by kernel_rfl) C0 ?_;dsimp only [Sd.aK,List.getElem?_cons_succ,List.getElem?_cons_zero]
  repeat (refine Sd.lit ?_;quiet_step (fail);refine br ?_)
  have HD:=Hh (HV.mono ((af _ _).drew));clear HV r0 r1 q0 q1 q2 q3 C0;generalize Wz.drew=Wy at *;refine Sd.call (by rfl) (fun K hK=>?_);obtain ⟨c0,c1,f0,f1⟩:=Bw HD.st.res1;have hge:=(Ci HD.own k (by rw [cI];exact HLL.out.1)).2.2.1;have hF:=HD.ge;have n1:(Value.slice (some ⟨gu,0,none⟩) n cu).ownBlock≠some (w.heap.size+2):=fun e=>by simp [Value.ownBlock] at e;omega
  have n2:(Value.slice (some ⟨gu,0,none⟩) n cu).ownBlock≠some (w.heap.size+3):=fun e=>by simp [Value.ownBlock] at e;omega
  have L1:Last w p gF (.slice (some ⟨gu,0,none⟩) n cu) (l.set k y) (fD Wy (w.heap.size+2) p (.slice (some ⟨gu,0,none⟩) n cu)):=⟨dQ HD.row (by omega),dW HD.out.own n1 p⟩;have R1:=Hh (aY HD.st.res1 p (.slice (some ⟨gu,0,none⟩) n cu));have R2:=dQ (g:=w.heap.size+2) (p:=p) (v:=.slice (some ⟨gu,0,none⟩) n cu) HD.st.res2 (by omega);have B1:=Hh (aM (p:=p) (v:=.slice (some ⟨gu,0,none⟩) n cu) HD.st.aD (show w.heap.size<=w.heap.size+2 by omega));clear HD;go_simp;refine hK _ _ (Sc.Cl.of L1) ?_;clear hK K c0 c1 f0 f1
  show Sd.aU _ _ _ _ _ _ (fD Wy (w.heap.size+2) p (.slice (some ⟨gu,0,none⟩) n cu))
  generalize fD Wy (w.heap.size+2) p (.slice (some ⟨gu,0,none⟩) n cu)=Wx at *;refine Sd.call (by rfl) (fun K hK=>?_);obtain ⟨d0,d1,d2,d3,k0,k1,k2,k3⟩:=tL R2;have L2:Last w p gF (.slice (some ⟨gu,0,none⟩) n cu) (l.set k y) (bf Wx (w.heap.size+3) 0 y):=⟨aH L1.1 (by omega),Hw L1.2 n2 y⟩;have R3:=Hh (aR R2 y);have R4:=Hh (aH (g:=w.heap.size+3) (o:=0) (r:=y) R1 (by omega));have B2:=Hh (aJ (o:=0) (r:=y) B1 (show w.heap.size<=w.heap.size+3 by omega));clear R2 R1 B1 L1;go_simp;refine hK _ _ (Sc.Cl.of L2) ?_;clear hK K d0 d1 d2 d3 k0 k1 k2 k3
  show Sd.aU _ _ _ _ _ _ (bf Wx (w.heap.size+3) 0 y)
  have O2:=Hh L2.2;clear L2;generalize bf Wx (w.heap.size+3) 0 y=Ww at *
  repeat (refine Sd.lit ?_;quiet_step (fail);refine br ?_)
  refine Sd.done ?_;go_wp2
  (try simp only [Exit.inBlock,Exit.then])
  exact bs (vV (p:=8) (q:=9) (r:=10) rfl _ _ (w.heap.size+2) (w.heap.size+3) p _ y 0 rfl rfl rfl R4 R3) rfl (EY _ _ (O2.low (by omega)) B2.out)
theorem Dl (w:World) (p:Int) (v:Value) (l:List R4) (R:Rd K4 w v l) (hl:dF l) (op rec:Int) (x:R4):Calls prog 106 #[file p v,.int .i64 op,.int .i64 rec,aG x] w (oN w p l op rec x):=by
 obtain ⟨a,cap,rfl,_⟩:=R.slice
 by_cases he:jf p l op rec=0
 ·obtain ⟨hg,ho,hr⟩:=TD he
  obtain ⟨k,rfl⟩:∃ k:Nat,rec=k:=⟨rec.toNat,by omega⟩;exact I8 w p a _ cap l R hl op k x he ho (by omega) hg.2.2.2.1
 ·exact Tm w p a _ cap l R op rec x he
end Fl
namespace Ad
open Go.RowKit
def good (o f r:Int):Prop:=0<=o/\o<=2/\0<=f/\f<=63/\0<=r/\r<=255
instance (o f r:Int):Decidable (good o f r):=by unfold good;infer_instance
def cB (o f r:Int):Bool:=decide (good o f r)
def addr (o f r:Int):Value:=.agg #[.int .i64 o,.int .i64 f,.int .i64 r]
def pair (a b:Int):Value:=.agg #[.int .u8 a,.int .u8 b]
theorem ak {a b:Bool} (h:a=b):Ending.returned (.bool a) = .returned (.bool b):=by rw [h]
end Ad
namespace Fs
open Go.RowKit
open Fl (Cj hdr)
open Ad (cB)
section
variable {α:Type} (κ:α->Int)
def ins (c:α):List α->List α
 | []=>[c]
 | y :: r=>if κ c < κ y then c :: y :: r else y :: ins c r
def put (c:α) (l:List α):List α:=ins κ c (l.filter fun y=>decide (¬ κ y=κ c))
def look (n:Int) (l:List α):Option α:=l.find? fun y=>decide (κ y=n)
def qB (l:List α):Prop:=l.Pairwise fun y z=>κ y < κ z
variable {κ}
theorem tZ {c x:α} : ∀ {l:List α},x∈ins κ c l↔x=c\/x∈l
 | []=>by simp [ins]
 | y :: r=>by
   unfold ins
   split
   ·simp
   ·simp only [cy,tZ (l:=r)]
    constructor
    ·rintro (h | h | h)
     ·exact .inr (.inl h)
     ·exact .inl h
     ·exact .inr (.inr h)
    ·rintro (h | h | h)
     ·exact .inr (.inl h)
     ·exact .inl h
     ·exact .inr (.inr h)
variable {c x:α} {l:List α}
theorem vO : x∈put κ c l↔x=c\/x∈l/\κ x≠κ c:=by
 unfold put;rw [tZ,fX]
 simp
theorem LU {c:α} : ∀ {l:List α},qB κ l->(∀ x∈l,κ x≠κ c)->qB κ (ins κ c l)
 | [],_,_=>by simp [ins,qB]
 | y :: r,h,hn=>by
   obtain ⟨h1,h2⟩:=dm.1 h;unfold ins
   split
   ·rename_i hlt
    refine dm.2 ⟨fun z hz=>?_,h⟩
    rcases cy.1 hz with rfl | hz
    ·exact hlt
    ·exact Int.lt_trans hlt (h1 z hz)
   ·rename_i hlt
    have hy:=hn y cG;refine dm.2 ⟨fun z hz=>?_,LU h2 fun x hx=>hn x (cC _ hx)⟩
    rcases tZ.1 hz with rfl | hz
    ·omega
    ·exact h1 z hz
theorem VF (h:qB κ l):qB κ (put κ c l):=by
 unfold put;exact LU (h.filter _) fun x hx=>by simpa using (fX.1 hx).2
variable {n:Int}
theorem dN : look κ n l=none↔∀ x∈l,κ x≠n:=by
 unfold look;rw [iS]
 simp
theorem gH (h:look κ n l=some c):c∈l/\κ c=n:=by
 unfold look at h;exact ⟨List.mem_of_find?_eq_some h,by simpa using List.find?_some h⟩
theorem jI (h:qB κ l) (hc:c∈l):look κ (κ c) l=some c:=by
 induction l with
 | nil=>cases hc
 | cons y r ih =>
   obtain ⟨h1,h2⟩:=dm.1 h;unfold look;rw [List.find?_cons]
   rcases cy.1 hc with rfl | hc'
   ·simp
   ·have:=h1 c hc'
    rw [bh (by omega)];exact ih h2 hc'
theorem BC (h:look κ (κ c) l=none):put κ c l=ins κ c l:=by
 unfold put;rw [List.filter_eq_self.2]
 intro x hx
 simpa using dN.1 h x hx
theorem Dr {c:α} : ∀ {l:List α} {k:Nat},(∀ x∈l.take k,κ x < κ c)->(∀ x,l[k]? = some x->κ c < κ x)->ins κ c l=l.take k ++ c :: l.drop k
 | [],k,_,_=>by simp [ins]
 | y :: r,0,_,h2=>by
   have:=h2 y rfl
   simp [ins,this]
 | y :: r,k+1,h1,h2=>by
   have hy:=h1 y (by simp);unfold ins;rw [aq (by omega),Dr (l:=r) (k:=k) (fun x hx=>h1 x (by simp [hx])) (fun x hx=>h2 x (by simpa using hx))]
   rfl
theorem Bv : ∀ {r:List α},(∀ x∈r,κ c < κ x)->r.filter (fun y=>decide (¬ κ y=κ c))=r:=fun {r} h=>List.filter_eq_self.2 fun x hx=>by have:=h x hx;simpa using (by omega:¬ κ x=κ c)
theorem nP {c:α} : ∀ {l:List α} {k:Nat} {x:α},qB κ l->l[k]? = some x->κ x=κ c->put κ c l=l.set k c
 | y :: r,0,x,h,hx,e=>by
   obtain rfl:y=x:=by simpa using hx
   obtain ⟨h1,h2⟩:=dm.1 h;have hf:=Bv (c:=c) (κ:=κ) (r:=r) fun z hz=>by have:=h1 z hz;omega
   unfold put;rw [List.filter_cons,aq (by simp [e]),hf]
   cases r with
   | nil=>rfl
   | cons z s =>
     have:=h1 z cG;unfold ins;rw [az (by omega)]
     rfl
 | y :: r,k+1,x,h,hx,e=>by
   obtain ⟨h1,h2⟩:=dm.1 h;have hx':r[k]? = some x:=by simpa using hx
   have hlt:=h1 x (di hx');have ih:=nP (c:=c) h2 hx' e;unfold put at ih ⊢;rw [List.filter_cons,az (by simp;omega)];unfold ins;rw [aq (by omega),ih]
   rfl
variable {β:Type} {κ':β->Int} {f:α->β}
theorem Ml (hf:∀ x,κ' (f x)=κ x) (c:α):∀ l:List α,(ins κ c l).map f=ins κ' (f c) (l.map f)
 | []=>rfl
 | y :: r=>by
   simp only [ins,i4,hf]
   split
   ·rfl
   ·rw [i4,Ml hf c r]
theorem Yc (hf:∀ x,κ' (f x)=κ x) (c:α) (l:List α):(put κ c l).map f=put κ' (f c) (l.map f):=by
 unfold put;rw [Ml hf,List.filter_map]
 congr 2
 exact dv (fun q=>List.filter q l) (funext fun x=>by simp [hf])
theorem pE (hf:∀ x,κ' (f x)=κ x) (n:Int) (l:List α):look κ' n (l.map f)=(look κ n l).map f:=by
 unfold look;rw [List.find?_map]
 congr 1
 exact dv (fun q=>List.find? q l) (funext fun x=>by simp [hf])
theorem vB (hf:∀ x,κ' (f x)=κ x) : qB κ' (l.map f)↔qB κ l:=by
 unfold qB;rw [List.pairwise_map]
 simp [hf]
theorem Uo:∀ {l:List α} {lo hi:Int},qB κ l->(∀ x∈l,lo<=κ x/\κ x < hi)->lo<=hi->(l.length:Int)<=hi - lo
 | [],lo,hi,_,_,h=>by simp;omega
 | y :: r,lo,hi,h,hb,hle=>by
   obtain ⟨h1,h2⟩:=dm.1 h;have hy:=hb y cG;have:=Uo (l:=r) (lo:=κ y+1) (hi:=hi) h2 (fun x hx=>⟨h1 x hx,(hb x (cC _ hx)).2⟩) (by omega);simp only [eN]
   omega
end
abbrev sH:=Int×Int×List R4
abbrev aT:=List sH
abbrev key (e:sH):Int:=e.1
def jq (A:aT) (n p:Int) (l:List R4):Int:=if 0<=n/\n<=63 then if aL p l then if (look key n A).isSome then 10 else 0 else 2 else 1
def oh (A:aT) (n p:Int) (l:List R4):aT:=if jq A n p l=0 then put key (n,p,l) A else A
def dE (A:aT) (o f r:Int):Int:=if cB o f r=true then match look key f A with | none=>3 | some e=>jf e.2.1 e.2.2 o r else 1
def dV (A:aT) (o f r:Int) (x:R4):R4:=match look key f A with | none=>z4 | some e=>if dE A o f r=0 then newR e.2.2 o r x else z4
def dA (A:aT) (o f r:Int) (x:R4):aT:=match look key f A with | none=>A | some e=>if dE A o f r=0 then put key (f,e.2.1,e.2.2.set r.toNat (newR e.2.2 o r x)) A else A
def dD (A:aT) (o f r d:Int):Int:=if dE A o f r=5 then d+1 else d
def gB (A:aT) (n r:Int):Bool:=match look key n A with | none=>false | some e=>decide (0<=r/\r < e.2.2.length)
def gV (A:aT) (n r:Int):R4:=match look key n A with | none=>z4 | some e=>if 0<=r/\r < e.2.2.length then rat e.2.2 r.toNat else z4
def sB (A:aT) (n r:Int):Bool:=gB A n r && decide (r≠0)
def sA (A:aT) (n r:Int) (x:R4):aT:=match look key n A with | none=>A | some e=>if sB A n r=true then put key (n,e.2.1,e.2.2.set r.toNat x) A else A
structure eY (A:aT):Prop where
 zm:qB key A
 nm:∀ e∈A,0<=e.1/\e.1<=63
 good:∀ e∈A,aL e.2.1 e.2.2
 ok:∀ e∈A,dF e.2.2
theorem eY.nil:eY []:=⟨ik,nofun,nofun,nofun⟩
variable {A:aT}
theorem eY.len (h:eY A):A.length<=64:=by
 have:=Uo (κ:=key) (lo:=0) (hi:=64) h.zm (fun x hx=>by have:=h.nm x hx;show 0<=x.1/\x.1 < 64;omega) (by omega)
 omega
theorem eY.put {A:aT} (h:eY A) {n p:Int} {l:List R4} (hn:0<=n/\n<=63) (hg:aL p l) (hl:dF l):eY (put key (n,p,l) A):=by
 refine ⟨VF h.zm,fun e he=>?_,fun e he=>?_,fun e he=>?_⟩ <;> rcases vO.1 he with rfl | ⟨hm,_⟩
 ·exact hn
 ·exact h.nm e hm
 ·exact hg
 ·exact h.good e hm
 ·exact hl
 ·exact h.ok e hm
variable {p o r n f:Int} {l:List R4} {k:Nat} {x:R4}
theorem yK (h:aL p l) (hk:k≠0):aL p (l.set k x):=by
 obtain ⟨h1,h2,h3,h4,h5⟩:=h;refine ⟨h1,h2,by rw [cI];exact h3,by rw [cI];exact h4,?_⟩;rw [cI,← h5];unfold rat;rw [an,an,List.getElem?_set_ne (by omega)]
theorem vC (h:dF l) (hx:bJ x):dF (l.set k x):=fun r hr=>by
 rcases List.mem_or_eq_of_mem_set hr with h1 | rfl
 ·exact h r h1
 ·exact hx
theorem Yo (r:R4):bJ (inc r):=by
 unfold inc Fl.bytes bJ;generalize num r=q;refine ⟨⟨?_,?_⟩,⟨?_,?_⟩,⟨?_,?_⟩,?_,?_⟩ <;> simp only <;> omega
theorem Dj (h:dF l) (hx:bJ x):bJ (newR l o r x):=by
 unfold newR
 split
 ·exact hx
 ·split
  ·exact Yo _
  ·exact jP h _
theorem KQ (h:jf p l o r=0):aL p (l.set r.toNat (newR l o r x)):=by
 obtain ⟨hg,ho,h0,h1⟩:=Fl.TD h
 by_cases hr:r=0
 ·subst hr
  have e:o=0:=by
   unfold jf at h;rw [az hg,az ho,az ⟨h0,h1⟩] at h
   split at h
   ·omega
   ·omega
  subst e
  show aL p (l.set 0 (newR l 0 0 x))
  have e2:newR l 0 0 x=rat l 0:=by unfold newR;rw [aq (by decide),aq (by decide)];rfl
  rw [e2,Cj l 0 (by omega)];exact hg
 ·exact yK hg (by omega)
theorem eY.find (h:eY A) {e:sH} (he:look key n A=some e):(0<=n/\n<=63)/\aL e.2.1 e.2.2/\dF e.2.2/\e.1=n:=by
 obtain ⟨hm,hk⟩:=gH he;have hk':=hk;exact ⟨hk' ▸ h.nm e hm,h.good e hm,h.ok e hm,hk'⟩
theorem eY.add (h:eY A) (hl:dF l):eY (oh A n p l):=by
 unfold oh
 split
 ·rename_i h0
  unfold jq at h0
  split at h0
  ·rename_i hn
   split at h0
   ·rename_i hg
    exact h.put hn hg hl
   ·omega
  ·omega
 ·exact h
theorem eY.do (h:eY A) (hx:bJ x):eY (dA A o f r x):=by
 unfold dA
 split
 ·exact h
 ·rename_i e he
  split
  ·rename_i h0
   obtain ⟨hn,hg,hl,hk⟩:=h.find he;refine h.put hn ?_ (vC hl (Dj hl hx));unfold dE at h0
   split at h0
   ·rw [he] at h0
    exact KQ h0
   ·omega
  ·exact h
theorem eY.set (h:eY A) (hx:bJ x):eY (sA A n r x):=by
 unfold sA
 split
 ·exact h
 ·rename_i e he
  split
  ·rename_i h0
   obtain ⟨hn,hg,hl,hk⟩:=h.find he;have:r≠0/\0<=r:=by
    unfold sB gB at h0;rw [he] at h0
    simp at h0
    omega
   exact h.put hn (yK hg (by omega)) (vC hl hx)
  ·exact h
end Fs
namespace Ro
open Go.RowKit
open Fl (hdr)
abbrev E5:=Int×Int×Int×Int×Int
def z5:E5:=(0,0,0,0,0)
def Cm:E5:=(4,0,0,0,0)
def qG:R4:=(4,0,0,0)
def ent (x:E5):Value:=.agg #[.int .i64 x.1,.int .i64 x.2.1,.int .i64 x.2.2.1,.int .i64 x.2.2.2.1,.int .i64 x.2.2.2.2]
def K5:Rw.Kind E5:=⟨fun x=>[.int .i64 x.1,.int .i64 x.2.1,.int .i64 x.2.2.1,.int .i64 x.2.2.2.1,.int .i64 x.2.2.2.2],5,by decide,fun _=>rfl,fun _ u h=>by simp at h;rcases h with rfl | rfl | rfl | rfl | rfl <;> rfl,z5⟩
def place (s f r:Int):Prop:=1<=s/\s<=16/\0<=f/\f<=63/\1<=r/\r<=255
instance (s f r:Int):Decidable (place s f r):=by unfold place;infer_instance
def Ik (s f r:Int):Bool:=decide (place s f r)
def gT (x:E5):Prop:=(1<=x.1/\x.1<=3/\(x.1≠3\/x.2.2.2.2=0)/\place x.2.1 x.2.2.1 x.2.2.2.1/\0<=x.2.2.2.2/\x.2.2.2.2<=3)\/(x.1=4/\x.2.1=0/\x.2.2.1=0/\x.2.2.2.1=0/\x.2.2.2.2=0)
instance (x:E5):Decidable (gT x):=by unfold gT;infer_instance
def okB (x:E5):Bool:=decide (gT x)
variable {x:E5}
theorem nY (h:gT x):okB x=true:=bj h
theorem TH (h:¬ gT x):okB x=false:=bh h
def zw (x:E5):R4:=if gT x then (64 * x.2.2.2.2+x.1,x.2.1,x.2.2.1,x.2.2.2.1) else z4
def SC (x:E5):Int:=if gT x then 0 else 1
def gL (v:R4):E5:=(v.1 % 64,v.2.1,v.2.2.1,v.2.2.2,v.1 / 64)
def DW (v:R4):E5:=if gT (gL v) then gL v else z5
def takeN (v:R4):Int:=if gT (gL v) then 0 else 2
theorem bT (h:gT x):(1<=x.1/\x.1<=4)/\(0<=x.2.1/\x.2.1<=16)/\(0<=x.2.2.1/\x.2.2.1<=63)/\(0<=x.2.2.2.1/\x.2.2.2.1<=255)/\0<=x.2.2.2.2/\x.2.2.2.2<=3:=by
 unfold gT place at h
 omega
theorem Lr (h:gT x):x.1≠4↔0 < x.2.1:=by
 unfold gT place at h
 omega
variable {b n k i:Nat} {l m L:List E5}
theorem Ih {w:World} {off:Nat} (h:At K5 w b off l) (i:Nat) (hi:i < l.length) :
 w.cell? ⟨b,off+i * 5,none⟩=some (.int .i64 (l.getD i z5).1)/\w.cell? ⟨b,off+i * 5+1,none⟩=some (.int .i64 (l.getD i z5).2.1)/\w.cell? ⟨b,off+i * 5+2,none⟩=some (.int .i64 (l.getD i z5).2.2.1)/\w.cell? ⟨b,off+i * 5+3,none⟩=some (.int .i64 (l.getD i z5).2.2.2.1)/\w.cell? ⟨b,off+i * 5+4,none⟩=some (.int .i64 (l.getD i z5).2.2.2.2) :=
 ⟨h i hi 0 _ rfl,h i hi 1 _ rfl,h i hi 2 _ rfl,h i hi 3 _ rfl,h i hi 4 _ rfl⟩
theorem Zn:(prog.info? 244).map (fun i=>(i.zero,i.size,i.bytes))=some (some (.agg #[.int .i64 0,.int .i64 0,.int .i64 0,.int .i64 0,.int .i64 0]),5,40):=by kernel_rfl
theorem SF (x y:E5) (w:World):(Op.equalIn 10000 244 (.agg #[.int .i64 x.1,.int .i64 x.2.1,.int .i64 x.2.2.1,.int .i64 x.2.2.2.1,.int .i64 x.2.2.2.2]) (.agg #[.int .i64 y.1,.int .i64 y.2.1,.int .i64 y.2.2.1,.int .i64 y.2.2.2.1,.int .i64 y.2.2.2.2])).run prog w = .ok (decide (x=y)) w:=by
 have u3:=underlying3;have a3:=isAgg3;have z3:=sizeOf3;have hS:prog.underlying 244=some (.struct (prog.fieldsOf 244)):=by kernel_rfl
 have hp:prog.stoodInHeld 244=false:=by kernel_rfl
 obtain ⟨x1,x2,x3,x4,x5⟩:=x;obtain ⟨y1,y2,y3,y4,y5⟩:=y;rw [show (10000:Nat)=9999+1 from rfl,run_equalIn_agg w 9999 244 _ _ hS hp];simp only [Program.fieldsOf,underlying244];go_simp
 by_cases h1:x1=y1 <;> by_cases h2:x2=y2 <;> by_cases h3:x3=y3 <;> by_cases h4:x4=y4 <;> by_cases h5:x5=y5 <;> simp [h1,h2,h3,h4,h5]
def dJ (l:List E5) (i:Nat):E5:=l.getD i z5
def kL (l:List E5) (i:Nat):Int:=if i=0 then 0 else (dJ l (i - 1)).2.1
def qF (l:List E5) (i:Nat):Prop:=gT (dJ l i)/\kL l i < (dJ l i).2.1
instance (l:List E5) (i:Nat):Decidable (qF l i):=by unfold qF;infer_instance
def gW (l:List E5):Prop:=∀ i,i < l.length->qF l i
instance (l:List E5):Decidable (gW l):=by unfold gW;infer_instance
def fA (l:List E5):Bool:=decide (gW l)
theorem prev_zero (l:List E5):kL l 0=0:=rfl
theorem prev_next (l:List E5) (k:Nat):kL l (k+1)=(dJ l k).2.1:=rfl
theorem KO (h:∀ i,i < n->qF l i) (k:Nat) (hk:k<=n):(k:Int)<=kL l k:=by
 induction k with
 | zero=>exact im _
 | succ k ih =>
   have h1:=ih (by omega);have h2:=(h k (by omega)).2;rw [prev_next]
   omega
theorem lq (h:gW l):l.length<=16:=by
 have h1:=KO h l.length (am _)
 rcases e:l.length with _ | n
 ·omega
 ·rw [e,prev_next] at h1
  have:=(bT (h n (by omega)).1).2.1.2
  omega
theorem Uk (h:∀ i,i < k->qF l i):qF l k↔gT (dJ l k)/\(dJ l k).1≠4/\¬ (0 < k/\(dJ l k).2.1<=kL l k):=by
 have h1:=KO h k (am _)
 constructor
 ·intro g
  exact ⟨g.1,(Lr g.1).2 (by have:=g.2;omega),by have:=g.2;omega⟩
 ·intro ⟨g1,g2,g3⟩
  refine ⟨g1,?_⟩;have:=(Lr g1).1 g2
  by_cases e:k=0
  ·subst e;rw [prev_zero];exact this
  ·omega
theorem iY (h:i < l.length):l[i]? = some (dJ l i):=by
 unfold dJ;rw [an,aw h]
 rfl
theorem iC (h:i < l.length):dJ l i∈l:=di (iY h)
def scan:List R4->Option (List E5)
 | []=>some []
 | v :: r=>if gT (gL v) then (if (gL v).1=4 then some [] else (scan r).map (gL v :: ·)) else none
def tK (p:Int) (l:List R4):Option (List E5):=if aL p l then (scan (l.drop 1)).filter fA else none
def kY (p:Int) (l:List R4):List E5:=(tK p l).getD []
def qX (p:Int) (l:List R4):Int:=if (tK p l).isSome then 0 else 2
theorem Mg (p:Int) (l:List R4):gW (kY p l):=by
 unfold kY
 rcases e:tK p l with _ | m
 ·intro i hi;exact absurd hi (by simp)
 ·unfold tK at e
  by_cases h:aL p l
  ·rw [az h] at e
   rw [Option.filter_eq_some_iff] at e;exact of_decide_eq_true e.2
  ·rw [aq h] at e;cases e
variable {p:Int}
theorem XJ {l:List R4} (h:¬ aL p l):kY p l = []/\qX p l=2:=by
 have e:tK p l=none:=by unfold tK;rw [aq h]
 unfold kY qX;rw [e];exact ⟨rfl,rfl⟩
theorem Vs {l:List R4} (h:scan (l.drop 1)=none):kY p l = []/\qX p l=2:=by
 have e:tK p l=none:=by unfold tK;rw [h];split <;> rfl
 unfold kY qX;rw [e];exact ⟨rfl,rfl⟩
theorem YQ {l:List R4} (hg:aL p l) (h:scan (l.drop 1)=some m) (hm:gW m):kY p l=m/\qX p l=0:=by
 have e:tK p l=some m:=by unfold tK;rw [az hg,h,Option.filter_eq_some_iff];exact ⟨rfl,bj hm⟩
 unfold kY qX;rw [e];exact ⟨rfl,rfl⟩
theorem aba {l:List R4} (h:scan (l.drop 1)=some m) (hm:¬ gW m):kY p l = []/\qX p l=2:=by
 have e:tK p l=none:=by
  unfold tK
  split
  ·rw [h]
   show (some m).filter fA=none
   simp only [Option.filter,fA,bh hm,gO,if_false]
  ·rfl
 unfold kY qX;rw [e];exact ⟨rfl,rfl⟩
def Read (r:List R4) (k:Nat) (L:List E5):Prop:=L.length=k/\scan r=(scan (r.drop k)).map (L ++ ·)
theorem J4 (r:List R4):Read r 0 []:=⟨rfl,by simp⟩
variable {r:List R4}
theorem drop_cons (h:k < r.length):r.drop k=rat r k :: r.drop (k+1):=by
 rw [List.drop_eq_getElem_cons h]
 congr 1
 unfold rat;rw [an,aw h]
 rfl
theorem UA (h:Read r k L) (hk:k < r.length) (hb:¬ gT (gL (rat r k))):scan r=none:=by
 rw [h.2,drop_cons hk];simp only [scan,aq hb,Option.map_none]
theorem TU (h:Read r k L) (hk:k < r.length) (hb:gT (gL (rat r k))) (h4:(gL (rat r k)).1=4):scan r=some L:=by
 rw [h.2,drop_cons hk];simp only [scan,az hb,az h4,fe,List.append_nil]
theorem OE (h:Read r k L) (hk:k < r.length) (hb:gT (gL (rat r k))) (h4:(gL (rat r k)).1≠4):Read r (k+1) (L ++ [gL (rat r k)]):=by
 refine ⟨by rw [cW,h.1];rfl,?_⟩;rw [h.2,drop_cons hk];simp only [scan,az hb,aq h4,Option.map_map]
 congr 1
 funext m
 simp
theorem TQ (h:Read r r.length L):scan r=some L:=by
 rw [h.2,List.drop_length]
 simp [scan]
def bE (l:List E5):List R4:=hdr 3 ((l.length:Int)+1) :: (l.map zw ++ [qG])
def fL (l:List E5):List R4:=if gW l then bE l else []
def fP (l:List E5):Int:=if gW l then 3 else 0
def fN (l:List E5):Int:=if gW l then 0 else 1
theorem yS (h:gW l):∀ x∈l,gT x/\x.1≠4:=fun x hx=>by
 obtain ⟨i,hi,e⟩:=ew hx;have g:=(Uk (fun j hj=>h j (by omega))).1 (h i hi);have e':dJ l i=x:=by
  have:=iY hi;rw [aw hi,e] at this;exact (db this).symm
 rw [e'] at g;exact ⟨g.1,g.2.1⟩
def part (h:R4) (l:List E5) (k:Nat):List R4:=h :: ((l.take k).map zw ++ List.replicate (l.length+1 - k) z4)
theorem zi (h:R4) (l:List E5) (k:Nat) (hk:k<=l.length):(part h l k).length=l.length+2:=by
 simp [part,List.length_take]
 omega
theorem nZ (h:R4) (l:List E5):part h l 0=h :: List.replicate (l.length+1) z4:=by simp [part]
theorem nJ (hk:k < l.length):l.take (k+1)=l.take k ++ [dJ l k]:=by
 rw [ed,iY hk]
 rfl
theorem yD (h:R4) (hk:k < l.length):(part h l k).set (1+k) (zw (dJ l k))=part h l (k+1):=by
 have e1:(l.take k).length=k:=by rw [cM];omega
 unfold part;rw [Nat.add_comm 1 k,List.set_cons_succ,hJ _ _ (by rw [cm,e1];omega),cm,e1,Nat.sub_self,nJ hk];rw [show l.length+1 - k=(l.length+1 - (k+1))+1 by omega,List.replicate_succ]
 simp
theorem wO (h:R4) (l:List E5):(part h l l.length).set (1+l.length) qG=h :: (l.map zw ++ [qG]):=by
 unfold part;rw [Nat.add_comm 1,List.set_cons_succ,hJ _ _ (by simp),df];have e:l.length+1 - l.length=1:=by omega
 rw [e]
 simp
end Ro
namespace Ck
open Ro (E5 z5 dJ gW fA gT qF iY iC kL prev_next bT)
abbrev LL:=List (List E5)
def dH (L:LL) (n:Nat):List E5:=L.getD n []
variable {L:LL}
theorem pM {k:Nat} (h:k < L.length):L.drop k=dH L k :: L.drop (k+1):=by
 rw [List.drop_eq_getElem_cons h]
 congr 1
 unfold dH;rw [an,aw h]
 rfl
theorem En {t:List E5} {i:Nat} (h:i < t.length):t.drop i=dJ t i :: t.drop (i+1):=by
 rw [List.drop_eq_getElem_cons h]
 congr 1
 have:=iY h;rw [aw h] at this;exact db this
theorem yO {n j:Nat} (h:j < n):dH (L.take n) j=dH L j:=by
 unfold dH;rw [an,an,i2,az h]
def zK (p:Nat->E5->Bool):Nat->LL->Option (Nat×E5)
 | _,[]=>none
 | n,t :: r=>match t.find? (p n) with
   | some x=>some (n,x)
   | none=>zK p (n+1) r
def jD (p:Nat->E5->Bool) (L:LL):Int:=match zK p 0 L with
 | some y=>y.1
 | none=>-1
def l5 (p:Nat->E5->Bool) (L:LL):E5:=match zK p 0 L with
 | some y=>y.2
 | none=>z5
def sQ (p:Nat->E5->Bool) (L:LL) (k:Nat):Prop:=zK p 0 L=zK p k (L.drop k)
def oH (p:Nat->E5->Bool) (L:LL) (k i:Nat):Prop:=sQ p L k/\(dH L k).find? (p k)=((dH L k).drop i).find? (p k)
section
variable {p:Nat->E5->Bool} {L:LL} {k i:Nat}
theorem ahead_zero:sQ p L 0:=rfl
theorem H7 (h:sQ p L k):oH p L k 0:=⟨h,rfl⟩
theorem Ir (h:oH p L k i) (hk:k < L.length) (hi:i < (dH L k).length) (hp:p k (dJ (dH L k) i)=true):jD p L=k/\l5 p L=dJ (dH L k) i:=by
 have e:zK p 0 L=some (k,dJ (dH L k) i):=by
  rw [h.1,pM hk];simp only [zK,h.2,En hi,List.find?_cons,hp]
 unfold jD l5;rw [e];exact ⟨rfl,rfl⟩
theorem Gy (h:oH p L k i) (hi:i < (dH L k).length) (hp:p k (dJ (dH L k) i)=false):oH p L k (i+1):=by
 refine ⟨h.1,?_⟩;rw [h.2,En hi,List.find?_cons,hp]
theorem IB (h:oH p L k (dH L k).length) (hk:k < L.length):sQ p L (k+1):=by
 unfold sQ;have e:=h.2;rw [List.drop_length] at e;rw [h.1,pM hk];simp only [zK,e,List.find?_nil]
theorem Of (h:sQ p L L.length):jD p L = -1/\l5 p L=z5:=by
 have e:zK p 0 L=none:=by rw [h,List.drop_length];rfl
 unfold jD l5;rw [e];exact ⟨rfl,rfl⟩
end
theorem Gw {p:Nat->E5->Bool} : ∀ {L:LL} {n0 n:Nat} {x:E5},zK p n0 L=some (n,x)->∃ k,n=n0+k/\k < L.length/\x∈dH L k/\p n x=true/\∀ j,j < k->∀ y∈dH L j,p (n0+j) y=false
 | [],_,_,_,h=>by cases h
 | t :: r,n0,n,x,h=>by
   rcases e:t.find? (p n0) with _ | y
   ·simp only [zK,e] at h
    obtain ⟨k,e1,h1,h2,h3,h4⟩:=Gw h;refine ⟨k+1,by omega,by simp;omega,h2,h3,fun j hj y hy=>?_⟩
    rcases j with _ | j
    ·rw [iS] at e
     simpa using e y hy
    ·have:=h4 j (by omega) y hy
     rw [show n0+(j+1)=n0+1+j by omega];exact this
   ·simp only [zK,e,fw,Prod.mk.injEq] at h
    obtain ⟨rfl,rfl⟩:=h;exact ⟨0,rfl,by simp,List.mem_of_find?_eq_some e,List.find?_some e,fun j hj=>absurd hj (eM _)⟩
theorem He {p:Nat->E5->Bool} : ∀ {L:LL} {n0:Nat},zK p n0 L=none->∀ k,k < L.length->∀ x∈dH L k,p (n0+k) x=false
 | [],_,_,k,hk=>by cases hk
 | t :: r,n0,h,k,hk=>by
   rcases e:t.find? (p n0) with _ | y
   ·simp only [zK,e] at h
    intro x hx
    rcases k with _ | k
    ·rw [iS] at e
     simpa using e x hx
    ·have:=He h k (by simpa using hk) x hx
     rw [show n0+(k+1)=n0+1+k by omega];exact this
   ·simp only [zK,e] at h
    cases h
theorem find_congr {p q:E5->Bool} : ∀ {t:List E5},(∀ x∈t,p x=q x)->t.find? p=t.find? q
 | [],_=>rfl
 | x :: r,h=>by rw [List.find?_cons,List.find?_cons,h x (cG ..),find_congr fun y hy=>h y (cC _ hy)]
theorem Az {p q:Nat->E5->Bool} : ∀ {L:LL} {n0:Nat},(∀ k,k < L.length->∀ x∈dH L k,p (n0+k) x=q (n0+k) x)->zK p n0 L=zK q n0 L
 | [],_,_=>rfl
 | t :: r,n0,h=>by
   have e:t.find? (p n0)=t.find? (q n0):=find_congr fun x hx=>h 0 (by simp) x hx;have ih:=Az (p:=p) (q:=q) (L:=r) (n0:=n0+1) fun k hk x hx=>by
    have:=h (k+1) (by simp;omega) x hx;rw [show n0+1+k=n0+(k+1) by omega];exact this
   simp only [zK,e,ih]
theorem iZ (p:Nat->E5->Bool) (L:LL):(∃ n x,n < L.length/\x∈dH L n/\p n x=true/\(∀ m,m < n->∀ y∈dH L m,p m y=false)/\jD p L=n/\l5 p L=x)\/((∀ n,n < L.length->∀ x∈dH L n,p n x=false)/\jD p L = -1/\l5 p L=z5):=by
 rcases e:zK p 0 L with _ | ⟨n,x⟩
 ·right
  refine ⟨fun n hn x hx=>by simpa using He e n hn x hx,?_,?_⟩
  ·unfold jD;rw [e]
  ·unfold l5;rw [e]
 ·left
  obtain ⟨k,e1,h1,h2,h3,h4⟩:=Gw e;obtain rfl:n=k:=by omega
  refine ⟨n,x,h1,h2,h3,fun m hm y hy=>by simpa using h4 m hm y hy,?_,?_⟩
  ·unfold jD;rw [e]
  ·unfold l5;rw [e]
variable {p q:Nat->E5->Bool}
theorem Ab (h:∀ k,k < L.length->∀ x∈dH L k,p k x=q k x):jD p L=jD q L/\l5 p L=l5 q L:=by
 have e:zK p 0 L=zK q 0 L:=Az fun k hk x hx=>by simpa using h k hk x hx
 unfold jD l5;rw [e];exact ⟨rfl,rfl⟩
theorem CG {n:Nat} {x:E5} (hn:n < L.length) (hx:x∈dH L n) (hp:p n x=true):0<=jD p L/\jD p L<=n:=by
 rcases iZ p L with ⟨m,y,h1,h2,h3,h4,e,_⟩ | ⟨h,e,_⟩
 ·rw [e]
  refine ⟨by omega,?_⟩
  by_cases g:n < m
  ·have:=h4 n g x hx
   rw [hp] at this
   cases this
  ·omega
 ·have:=h n hn x hx
  rw [hp] at this
  cases this
def idx (q:List E5->Bool):Nat->LL->Int
 | _,[]=>-1
 | n,t :: r=>if q t then n else idx q (n+1) r
def jC (q:List E5->Bool) (L:LL) (k:Nat):Prop:=idx q 0 L=idx q k (L.drop k)
section
variable {q:List E5->Bool} {L:LL} {k:Nat}
theorem FP:jC q L 0:=rfl
theorem JQ (h:jC q L k) (hk:k < L.length) (hq:q (dH L k)=true):idx q 0 L=k:=by
 rw [h,pM hk];simp only [idx,hq,if_true]
theorem DJ (h:jC q L k) (hk:k < L.length) (hq:q (dH L k)=false):jC q L (k+1):=by
 unfold jC;rw [h,pM hk];simp only [idx,hq,gO,if_false]
theorem JA (h:jC q L L.length):idx q 0 L = -1:=by rw [h,List.drop_length];rfl
end
theorem Ko {q:List E5->Bool} : ∀ {L:LL} {n:Nat},idx q n L < 0->∀ k,k < L.length->q (dH L k)=false
 | [],_,_,k,hk=>by cases hk
 | t :: r,n,h,k,hk=>by
   by_cases e:q t=true
   ·simp only [idx,e,if_true] at h
    omega
   ·simp only [idx,e,gO,if_false] at h
    rcases k with _ | k
    ·show q t=false
     simpa using e
    ·exact Ko h k (by simpa using hk)
def snd (s:Int) (_:Nat) (x:E5):Bool:=decide (x.1=1/\x.2.1=s)
def sN (s:Int) (L:LL):Int:=jD (snd s) L
def sE (s:Int) (L:LL):E5:=l5 (snd s) L
variable {s:Int} {n:Nat} {x:E5}
theorem MN (h1:x.1=1) (h2:x.2.1=s):snd s n x=true:=bj ⟨h1,h2⟩
theorem abe (h:¬ (x.1=1/\x.2.1=s)):snd s n x=false:=bh h
theorem Ra (h:snd s n x=true):x.1=1/\x.2.1=s:=of_decide_eq_true h
theorem Xp (hn:n<=L.length) (s:Int):0<=sN s (L.take n)↔0<=sN s L/\sN s L < n:=by
 unfold sN;have hl:(L.take n).length=n:=by rw [cM];omega
 rcases iZ (snd s) (L.take n) with ⟨m,y,h1,h2,h3,h4,e,_⟩ | ⟨h,e,_⟩
 ·rw [hl] at h1
  rw [yO h1] at h2;have g:=CG (p:=snd s) (L:=L) (by omega) h2 h3
  constructor
  ·intro _;omega
  ·intro _;omega
 ·constructor
  ·intro g;omega
  ·intro ⟨g1,g2⟩
   rcases iZ (snd s) L with ⟨m,y,h1,h2,h3,h4,e',_⟩ | ⟨_,e',_⟩
   ·have hm:m < n:=by omega
    have:=h m (by omega) y (by rw [yO hm];exact h2);rw [h3] at this
    cases this
   ·omega
def bad (t:List E5):Bool:=!fA t
def bI (L:LL):Int:=idx bad 0 L
def pc (L:LL) (n:Nat) (x:E5):Bool:=decide (x.1=1/\0<=sN x.2.1 (L.take n))
def pg (L:LL) (_:Nat) (x:E5):Bool:=decide (x.1=2/\sN x.2.1 L < 0)
def qc (F:Nat->Int) (n:Nat) (x:E5):Bool:=decide (x.1=1/\¬ F x.2.1.toNat=n)
def qg (F:Nat->Int) (_:Nat) (x:E5):Bool:=decide (x.1=2/\F x.2.1.toNat < 0)
def VC (L:LL):Int:=jD (pc L) L
def Vt (L:LL):Int:=jD (pg L) L
def sF (L:LL) (s:Nat):Int:=sN s L
def tN (L:LL):Int:=if 0<=bI L then bI L else if 0<=VC L then VC L else if 0<=Vt L then Vt L else -1
def tE (L:LL):Int:=if 0<=bI L then 2 else if 0<=VC L then 8 else if 0<=Vt L then 9 else 0
theorem Sm (h:0<=bI L):tN L=bI L/\tE L=2:=by unfold tN tE;rw [az h,az h];exact ⟨rfl,rfl⟩
theorem WQ (h:¬ 0<=bI L) (h2:0<=VC L):tN L=VC L/\tE L=8:=by unfold tN tE;rw [aq h,aq h,az h2,az h2];exact ⟨rfl,rfl⟩
theorem Zo (h:¬ 0<=bI L) (h2:¬ 0<=VC L) (h3:0<=Vt L):tN L=Vt L/\tE L=9:=by unfold tN tE;rw [aq h,aq h,aq h2,aq h2,az h3,az h3];exact ⟨rfl,rfl⟩
theorem adM (h:¬ 0<=bI L) (h2:¬ 0<=VC L) (h3:¬ 0<=Vt L):tN L = -1/\tE L=0:=by unfold tN tE;rw [aq h,aq h,aq h2,aq h2,aq h3,aq h3];exact ⟨rfl,rfl⟩
theorem iW (h:¬ 0<=bI L):∀ k,k < L.length->gW (dH L k):=fun k hk=>by
 have:=Ko (q:=bad) (L:=L) (n:=0) (by unfold bI at h;omega) k hk;unfold bad fA at this
 simpa using this
theorem xB {t:List E5} (h:gW t) (hx:x∈t):0<=x.2.1/\x.2.1<=16:=(bT (Ro.yS h x hx).1).2.1
theorem Jc (h:¬ 0<=bI L):jD (qc (sF L)) L=VC L:=by
 refine (Ab fun k hk x hx=>?_).1;have b:=xB (iW h k hk) hx;unfold qc pc sF;rw [show ((x.2.1.toNat:Nat):Int)=x.2.1 by omega]
 by_cases h1:x.1=1
 ·have g:=CG (p:=snd x.2.1) hk hx (MN h1 rfl)
  have t:=Xp (L:=L) (n:=k) (by omega) x.2.1;unfold sN at t ⊢
  apply cY.2
  constructor
  ·intro ⟨_,a⟩;exact ⟨h1,t.2 ⟨g.1,by omega⟩⟩
  ·intro ⟨_,a⟩;have:=t.1 a;exact ⟨h1,by omega⟩
 ·simp [h1]
theorem QN (h:¬ 0<=bI L):jD (qg (sF L)) L=Vt L:=by
 refine (Ab fun k hk x hx=>?_).1;have b:=xB (iW h k hk) hx;unfold qg pg sF;rw [show ((x.2.1.toNat:Nat):Int)=x.2.1 by omega]
def all (p:E5->Bool) (L:LL):Nat:=L.flatten.countP p
section
end
end Ck
namespace Ua
open Go.RowKit
def bit (b:Int) (j:Nat):Bool:=decide (b / 2 ^ j % 2=1)
def par (F:Nat->Bool):Nat->Bool
 | 0=>false
 | k+1=>par F k != F (k+1)
def val (F:Nat->Bool):Nat->Nat
 | 0=>0
 | k+1=>val F k+if F (k+1) then 2 ^ k else 0
def upd (F:Nat->Bool) (k:Nat) (x:Bool) (i:Nat):Bool:=if i=k then x else F i
def put (b:Int) (k:Nat) (i:Nat):Bool:=if 1<=i/\i < k then bit b (i - 1) else false
def zX (b:Int) (odd:Bool):Nat->Bool:=upd (upd (put b 9) 9 (par (put b 9) 9 != odd)) 10 true
def turn (F:Nat->Bool) (m:Int) (k:Nat) (i:Nat):Bool:=if i < k then F i != bit m i else F i
def bad (F:Nat->Bool):Bool:=F 0 || !F 10
def tb (F:Nat->Bool):Int:=if bad F then 0 else val F 8
def tp (F:Nat->Bool):Bool:=if bad F then false else par F 9
def te (F:Nat->Bool):Int:=if bad F then 2 else 0
theorem AJ {F G:Nat->Bool} : ∀ k,(∀ i,1<=i->i<=k->F i=G i)->par F k=par G k
 | 0,_=>rfl
 | k+1,h=>by rw [par,par,AJ k (fun i h1 h2=>h i h1 (by omega)),h (k+1) (by omega) (by omega)]
theorem val_congr {F G:Nat->Bool} : ∀ k,(∀ i,1<=i->i<=k->F i=G i)->val F k=val G k
 | 0,_=>rfl
 | k+1,h=>by rw [val,val,val_congr k (fun i h1 h2=>h i h1 (by omega)),h (k+1) (by omega) (by omega)]
theorem JY (F:Nat->Bool):∀ k,val F k < 2 ^ k
 | 0=>Nat.lt_succ_self 0
 | k+1=>by have:=JY F k;rw [val,Nat.pow_succ];split <;> omega
theorem Eh:∀ b:Fin 256,∀ j:Fin 8,(bits BinOp.and .u8 (b.val:Int) (2 ^ j.val) != 0)=decide ((b.val:Int) / 2 ^ j.val % 2=1):=by decide +kernel
theorem Wj (b:Int) (j:Nat) (h0:0<=b) (h1:b<=255) (hj:j < 8):(bits BinOp.and .u8 b (2 ^ j) != 0)=bit b j:=by
 have:=Eh ⟨b.toNat,by omega⟩ ⟨j,hj⟩;simp only at this;rw [show ((b.toNat:Nat):Int)=b by omega] at this;exact this
theorem JH:∀ b:Fin 256,∀ j:Fin 8,b.val < 2 ^ j.val->bits BinOp.or .u8 (b.val:Int) (2 ^ j.val)=((b.val+2 ^ j.val:Nat):Int):=by decide +kernel
theorem or_bit (b j:Nat) (hj:j < 8) (h:b < 2 ^ j):bits BinOp.or .u8 (b:Int) (2 ^ j)=((b+2 ^ j:Nat):Int) :=
 JH ⟨b,by have:2 ^ j<=2 ^ 7:=Nat.pow_le_pow_right (by omega) (by omega)
          omega⟩ ⟨j,hj⟩ h
theorem Ms (x:Int) (c:Nat) (hc:c < 9223372036854775808):bits BinOp.and .i64 x (c:Int)=(((x % 18446744073709551616).toNat &&& c:Nat):Int):=by
 have e:(BitVec.ofInt 64 x &&& BitVec.ofInt 64 (c:Int)).toNat=(x % 18446744073709551616).toNat &&& c:=by
  rw [BitVec.toNat_and,BitVec.toNat_ofInt,BitVec.toNat_ofInt]
  congr 1
  simp
  omega
 show IntKind.i64.wrap (((BitVec.ofInt 64 x &&& BitVec.ofInt 64 (c:Int)).toNat:Nat):Int)=_
 rw [e];have l:(x % 18446744073709551616).toNat &&& c<=c:=Nat.and_le_right;exact cH _ (by omega)
theorem and_one (x:Int):bits BinOp.and .i64 x 1=x % 2:=by
 have:=Ms x 1 (by omega);rw [Nat.and_one_is_mod] at this;rw [show (1:Int)=((1:Nat):Int) from rfl,this]
 omega
theorem Et (m:Int) (k:Nat):(bits BinOp.and .i64 (m / 2 ^ k) 1 == 1)=bit m k:=by rw [and_one];rfl
end Ua
namespace Pa
open Go.RowKit
open Fs (sH aT key qB eY gB gV sB sA dA dE dD dV jq oh gH dN jI pE nP)
open Ro (E5 z5 gT dJ gW)
open Ck (LL dH sN sE tE)
open Ua (bit zX te tp tb upd)
def rb (v:R4) (b:Int):Int:=if b=0 then v.1 else if b=1 then v.2.1 else if b=2 then v.2.2.1 else v.2.2.2
def rs (v:R4) (b x:Int):R4:=if b=0 then (x,v.2.1,v.2.2.1,v.2.2.2) else if b=1 then (v.1,x,v.2.2.1,v.2.2.2) else if b=2 then (v.1,v.2.1,x,v.2.2.2) else (v.1,v.2.1,v.2.2.1,x)
def jS (x:Int):Prop:=0<=x/\x<=255
variable {v:R4}
theorem abL (h:bJ v) (b:Int):jS (rb v b):=by
 obtain ⟨h1,h2,h3,h4⟩:=h;unfold rb jS
 split
 ·exact h1
 ·split
  ·exact h2
  ·split
   ·exact h3
   ·exact h4
theorem acG (h:bJ v) (b:Int) {x:Int} (hx:jS x):bJ (rs v b x):=by
 obtain ⟨h1,h2,h3,h4⟩:=h;unfold rs
 split
 ·exact ⟨hx,h2,h3,h4⟩
 ·split
  ·exact ⟨h1,hx,h3,h4⟩
  ·split
   ·exact ⟨h1,h2,hx,h4⟩
   ·exact ⟨h1,h2,h3,hx⟩
theorem Yg (v:R4) {a b:Int} (h:a≠b) (ha:0<=a/\a<=3) (hb:0<=b/\b<=3) (x y:Int):rs (rs v a x) b y=rs (rs v b y) a x:=by
 obtain rfl | rfl | rfl | rfl:a=0\/a=1\/a=2\/a=3:=by omega
 all_goals
  obtain rfl | rfl | rfl | rfl:b=0\/b=1\/b=2\/b=3:=by omega
  all_goals first | (exact absurd rfl h) | rfl
theorem Gl (v:R4) (a x y:Int):rs (rs v a x) a y=rs v a y:=by
 unfold rs
 by_cases h0:a=0
 ·simp [h0]
 ·by_cases h1:a=1
  ·simp [h1]
  ·by_cases h2:a=2
   ·simp [h2]
   ·simp [h0,h1,h2]
abbrev Hr:=Int->Option Int
def mt (f r:Int) (x:E5):Bool:=decide (x.1=2/\x.2.2.1=f/\x.2.2.2.1=r)
def jc (t:List E5) (f r:Int):List E5:=t.filter (mt f r)
def QM (h:Hr) (l:List E5):Bool:=l.all fun x=>(h x.2.1).isSome
def mix (h:Hr) (l:List E5) (v:R4):R4:=l.foldl (fun v x=>rs v x.2.2.2.2 ((h x.2.1).getD 0)) v
def newV (h:Hr) (l:List E5) (v:R4):R4:=if QM h l=true then mix h l v else v
def VY (h:Hr):Prop:=∀ n y,h n=some y->jS y
def Zp (l:List E5):Prop:=∀ x∈l,0<=x.2.2.2.2/\x.2.2.2.2<=3
variable {h:Hr}
theorem WY (hh:VY h) (n:Int):jS ((h n).getD 0):=by
 rcases e:h n with _ | y
 ·exact ⟨im _,by show (0:Int)<=255;omega⟩
 ·exact hh n y e
theorem IK {h:Hr} (hh:VY h):∀ (l:List E5) {v:R4},bJ v->bJ (mix h l v)
 | [],_,hv=>hv
 | _ :: r,_,hv=>IK hh r (acG hv _ (WY hh _))
theorem VH (hh:VY h) (l:List E5) (hv:bJ v):bJ (newV h l v):=by
 unfold newV
 split
 ·exact IK hh l hv
 ·exact hv
theorem Hq (h:Hr) (v:R4):newV h [] v=v:=rfl
theorem pW (h:Hr) (x:E5) (r:List E5) (v:R4):mix h (x :: r) v=mix h r (rs v x.2.2.2.2 ((h x.2.1).getD 0)):=rfl
theorem Bz {h:Hr} (a x:Int) (ha:0<=a/\a<=3):∀ (l:List E5) (v:R4),Zp l->mix h l (rs v a x)=if l.any (fun y=>decide (y.2.2.2.2=a))=true then mix h l v else rs (mix h l v) a x
 | [],_,_=>rfl
 | y :: r,v,hy=>by
   have hr:Zp r:=fun z hz=>hy z (cC _ hz);have hy0:=hy y (cG ..);rw [pW,pW,List.any_cons]
   by_cases e:y.2.2.2.2=a
   ·rw [e,Gl,bj (rfl:a=a),Bool.true_or,az rfl]
   ·rw [bh e,Bool.false_or,Yg _ (fun h=>e h.symm) ha hy0,Bz a x ha r _ hr]
theorem L8 {h:Hr} : ∀ (l:List E5) (v:R4),Zp l->mix h l (mix h l v)=mix h l v
 | [],_,_=>rfl
 | x :: r,v,hy=>by
   have hr:Zp r:=fun z hz=>hy z (cC _ hz);have hx:=hy x (cG ..);have ih:=L8 (h:=h) r v hr;rw [pW,pW,Bz _ _ hx r v hr]
   split
   ·rename_i hany
    rw [Bz _ _ hx r _ hr,az hany,ih]
   ·rename_i hany
    rw [Gl,Bz _ _ hx r _ hr,aq hany,ih]
theorem Nt {l:List E5} (hy:Zp l) (v:R4):newV h l (newV h l v)=newV h l v:=by
 unfold newV
 by_cases e:QM h l=true
 ·simp only [e,if_true]
  exact L8 l v hy
 ·simp only [e,if_false,gO]
def kX (h:Hr) (t:List E5) (V:Int->Int->Bool) (e:sH):sH:=(e.1,e.2.1,e.2.2.mapIdx fun k v=>if V e.1 k=true then newV h (jc t e.1 k) v else v)
def dR (h:Hr) (t:List E5) (V:Int->Int->Bool) (A:aT):aT:=A.map (kX h t V)
def tJ (h:Hr) (t:List E5) (A:aT):aT:=dR h t (fun _ _=>true) A
section
variable {h:Hr} {t:List E5} {V:Int->Int->Bool} {A:aT}
theorem mM (e:sH):(kX h t V e).2.2.length=e.2.2.length:=by simp [kX]
theorem Em (e:sH) (k:Nat):(kX h t V e).2.2[k]? = (e.2.2[k]?).map fun v=>if V e.1 k=true then newV h (jc t e.1 k) v else v:=by simp [kX]
theorem Fv (e:sH) {k:Nat} (hk:k < e.2.2.length):rat (kX h t V e).2.2 k=if V e.1 k=true then newV h (jc t e.1 k) (rat e.2.2 k) else rat e.2.2 k:=by
 unfold rat;rw [an,an,Em,aw hk]
 rfl
theorem yh (n:Int):Fs.look key n (dR h t V A)=(Fs.look key n A).map (kX h t V):=pE (κ:=key) (κ':=key) (f:=kX h t V) (fun _=>rfl) n A
theorem UO (n k:Int):gB (dR h t V A) n k=gB A n k:=by
 unfold gB;rw [yh]
 cases Fs.look key n A with
 | none=>rfl
 | some e=>simp [mM]
theorem ZU (n k:Int) (hg:gB A n k=true):gV (dR h t V A) n k=if V n k=true then newV h (jc t n k) (gV A n k) else gV A n k:=by
 unfold gB at hg;unfold gV;rw [yh]
 rcases e:Fs.look key n A with _ | c
 ·rw [e] at hg
  cases hg
 ·rw [e] at hg
  simp only [cQ] at hg;obtain ⟨_,hk⟩:=gH e;have hn:c.1=n:=hk;simp only [fe];rw [az (by rw [mM];exact hg),az hg,Fv c (by omega)];have ek:((k.toNat:Nat):Int)=k:=by omega
  rw [ek,hn]
theorem Hf (hV:∀ n k,V n k=false):dR h t V A=A:=by
 unfold dR;rw [List.map_congr_left (g:=id) (fun e _=>?_),List.map_id];obtain ⟨n,p,l⟩:=e;simp only [kX,hV,id]
 congr 2
 exact fS fun k=>by simp
theorem nH {V':Int->Int->Bool} (hV:∀ n k,jc t n k≠[]->V n k=V' n k):dR h t V A=dR h t V' A:=by
 unfold dR;refine List.map_congr_left fun e _=>?_;unfold kX
 congr 2
 refine fS fun k=>?_;simp only [List.getElem?_mapIdx]
 cases e.2.2[k]? with
 | none=>rfl
 | some v =>
   by_cases hg:jc t e.1 k = []
   ·simp [hg,Hq]
   ·simp [hV _ _ hg]
theorem XV (hV:∀ n k,jc t n k≠[]->V n k=true):dR h t V A=tJ h t A:=nH hV
def also (V:Int->Int->Bool) (n k:Int) (a b:Int):Bool:=V a b || decide (a=n/\b=k)
variable {k n:Int}
theorem WG (hA:eY A) (hg:gB A n k=true) (h0:k≠0) (hy:Zp (jc t n k)):sA (dR h t V A) n k (newV h (jc t n k) (gV (dR h t V A) n k))=dR h t (also V n k) A:=by
 have hgr:gB (dR h t V A) n k=true:=(UO n k).trans hg;have hsb:sB (dR h t V A) n k=true:=by unfold sB;rw [hgr,bj h0];rfl
 have hv:=ZU (h:=h) (t:=t) (V:=V) n k hg;have hval:newV h (jc t n k) (gV (dR h t V A) n k)=newV h (jc t n k) (gV A n k):=by
  rw [hv]
  split
  ·exact Nt hy _
  ·rfl
 rw [hval];unfold gB at hg
 rcases e:Fs.look key n A with _ | c
 ·rw [e] at hg
  cases hg
 rw [e] at hg;simp only [cQ] at hg;obtain ⟨hm,hk⟩:=gH e;have hn:=hk;have hvA:gV A n k=rat c.2.2 k.toNat:=by unfold gV;rw [e];exact az hg
 rw [hvA];unfold sA;rw [yh,e];simp only [fe];rw [az hsb];obtain ⟨i,hi⟩:=ef hm;have hsr:qB key (dR h t V A):=(Fs.vB (κ:=key) (κ':=key) (f:=kX h t V) (fun _=>rfl)).2 hA.zm;have hir:(dR h t V A)[i]? = some (kX h t V c):=by unfold dR;rw [cX,hi];rfl
 rw [nP (κ:=key) (c:=(n,(kX h t V c).2.1,(kX h t V c).2.2.set k.toNat (newV h (jc t n k) (rat c.2.2 k.toNat)))) hsr hir (show c.1=n from hn)];refine fS fun j=>?_;rw [ip];have hlen:=(cA.1 hir).1
 by_cases hj:i=j
 ·subst hj
  rw [az rfl,az hlen];unfold dR;rw [cX,hi];simp only [fe,fw];unfold kX;refine Prod.ext hn.symm (Prod.ext rfl ?_);refine fS fun q=>?_;simp only [ip,List.length_mapIdx,List.getElem?_mapIdx]
  by_cases hq:k.toNat=q
  ·subst hq
   have hql:k.toNat < c.2.2.length:=by omega
   rw [az rfl,az hql,aw hql];have ek:((k.toNat:Nat):Int)=k:=by omega
   simp only [fe,ek,also,hn,and_self,decide_true,Bool.or_true,if_true]
   congr 2
   unfold rat;rw [an,aw hql]
   rfl
  ·rw [aq hq]
   have hne:¬ (q:Int)=k:=by omega
   cases c.2.2[q]? with
   | none=>rfl
   | some v=>simp [also,hne]
 ·rw [aq hj]
  unfold dR;rw [cX,cX]
  rcases ej:A[j]? with _ | x
  ·rfl
  ·have hne:x.1≠n:=fun hx=>by
    have hxm:=di ej;have q1:=jI hA.zm hxm;rw [show key x=n from hx,e] at q1;injection q1 with q1;subst q1;have hi':=(cA.1 hi).1;have hj':=(cA.1 ej).1;have pw:=f8.1 hA.zm;have g1:A[i]=c:=by have:=hi;rw [aw hi'] at this;simpa using this
    have g2:A[j]=c:=by have:=ej;rw [aw hj'] at this;simpa using this
    rcases Nat.lt_or_gt_of_ne hj with hlt | hlt
    ·have:=pw i j hi' hj' hlt
     rw [g1,g2] at this
     omega
    ·have:=pw j i hj' hi' hlt
     rw [g1,g2] at this
     omega
   simp only [fe,fw];unfold kX
   congr 2
   refine fS fun q=>?_
   simp [also,hne]
theorem XL (hA:eY A) (hg:gB A n k=false):dR h t (also V n k) A=dR h t V A:=by
 unfold dR;refine List.map_congr_left fun e he=>?_;unfold kX
 congr 2
 refine fS fun q=>?_;simp only [List.getElem?_mapIdx]
 by_cases hx:e.1=n/\(q:Int)=k
 ·obtain ⟨h1,h2⟩:=hx
  have q1:=jI hA.zm he;rw [show key e=n from h1] at q1;unfold gB at hg;rw [q1] at hg;simp only [decide_eq_false_iff_not] at hg;rw [hM (by omega)]
  rfl
 ·simp [also,hx]
end
end Pa
