import Derived.Test.YtljnkaodhfnbbaaGreatDoorPa1
import Derived.Maps.OwnOps
import Derived.Maps.OwnSet
import Derived.Shelf.Abstract
import Derived.Deep.Cut
import Derived.Lib.BufferMore
import Derived.Deep.LoopGhost
import Derived.WalkKit
set_option maxRecDepth 100000
namespace Go.Proofs.YtljnkaodhfnbbaaGreatDoor.Sz
open Go.RowKit
open Sd (light light_value picks)
open Sc (In)
def wpAnyZ (P:Program) (md:Region.Mode) (ops:Array Oper) (Q:Exit→Act→World→Prop) (S:World→Prop) (z:Nat):Nat→Array Bool→Act→World→Prop
 | 0,listed,a,w=>Region.ready md ops listed = []∧Q .normal a w
 | fuel+1,listed,a,w =>
   (Region.ready md ops listed = []→Q .normal a w) ∧
   ∀ i∈Region.ready md ops listed,wpOp P ops Q i (fun a' w'=>(i=z∨S w')∧wpAnyZ P md ops Q S z fuel (listed.setIfInBounds i true) a' w') a w
section
variable {P:Program} {md:Region.Mode} {ops:Array Oper} {Q:Exit→Act→World→Prop} {S:World→Prop} {z:Nat}
theorem any_of:∀ (fuel:Nat) (listed:Array Bool) (a:Act) (w:World),wpAnyZ P md ops Q S z fuel listed a w→wpAny P md ops Q fuel listed a w
 | 0,_,_,_,h=>h
 | fuel+1,_,_,_,h=>⟨h.1,fun i hi=>wpOp_mono (fun a' w' h'=>any_of fuel _ a' w' h'.2) (h.2 i hi)⟩
def Blocks (md:Region.Mode) (ops:Array Oper) (z i:Nat) (listed:Array Bool):Prop:=∃ oz e,ops[z]? = some oz∧e∈oz.after∧Region.binds md e=true∧listed.getD e.on true=false∧(e.on=i∨∃ ok,ops[e.on]? = some ok∧∃ e'∈ok.after,Region.binds md e'=true∧e'.on=i)
theorem first {i:Nat} {oi:Oper} {v:Value} (hi:ops[i]? = some oi) (hsel:∀ (j:Nat) (o:Oper) cs b,ops[j]? = some o→o.op≠.select cs b)
 (hQ:∀ c a w,Q (.panic c) (a.put oi.dst v) w→Q (.panic c) a w) :
 ∀ (fuel:Nat) (listed:Array Bool) (a:Act) (w:World),Blocks md ops z i listed →
  (∀ j oj,ops[j]? = some oj→j≠i→listed.getD j true=false→(∀ e∈oj.after,Region.binds md e=true→e.on≠i)→oi.apart ops oj=true) →
  i∈Region.ready md ops listed→YieldsIf P ops S oi v a→S w →
  wpAnyZ P md ops Q S z fuel (listed.setIfInBounds i true) (a.put oi.dst v) w→wpAnyZ P md ops Q S z (fuel+1) listed a w:=by
 intro fuel
 induction fuel with
 | zero =>
   intro listed a w _ _ hr hy hS H
   refine ⟨fun h=>(by rw [h] at hr;cases hr),fun j hj=>?_⟩
   by_cases hji:j=i
   ·subst hji;exact hy.wpOp hi hS ⟨.inr hS,H⟩
   ·have:=ready_mono hj hji
    rw [H.1] at this
    cases this
 | succ fuel ih =>
   intro listed a w hz hfree hr hy hS H
   refine ⟨fun h=>(by rw [h] at hr;cases hr),fun j hj=>?_⟩
   by_cases hji:j=i
   ·subst hji;exact hy.wpOp hi hS ⟨.inr hS,H⟩
   ·have h1:=H.2 j (ready_mono hj hji)
    obtain ⟨hjun,oj,hoj,hall⟩:=mem_ready.1 hj;have hnot:∀ e∈oj.after,Region.binds md e=true→e.on≠i:=fun e he hb heq=>by
     have h1:=hall e he hb;have h0:=(mem_ready.1 hr).1;rw [heq] at h1
     rcases Nat.lt_or_ge i listed.size with h' | h'
     ·simp [h'] at h0 h1;rw [h0] at h1;cases h1
     ·simp [Array.getElem?_eq_none h'] at h1
    obtain ⟨oz,ez,hoz,hez,hbz,hnl,hor⟩:=hz;have low:∀ {k:Nat},listed.getD k true=false→listed.getD k false=false:=fun {k} h=>by
     rcases Nat.lt_or_ge k listed.size with h' | h'
     ·simp [h'] at h ⊢;exact h
     ·simp [Array.getElem?_eq_none h'] at h
    have hjz:j≠z:=fun e=>by
     subst e;rw [hoj] at hoz;obtain rfl:=Option.some.inj hoz;have:=hall ez hez hbz;rw [low hnl] at this
     cases this
    have hje:j≠ez.on:=fun e=>by
     rcases hor with h | ⟨ok,hok,e',he',hb',hon⟩
     ·exact hji (e.trans h)
     ·rw [← e,hoj] at hok
      obtain rfl:=Option.some.inj hok;exact hnot e' he' hb' hon
    have hz':Blocks md ops z i (listed.setIfInBounds j true):=⟨oz,ez,hoz,hez,hbz,by rw [getD_set_ne true hje];exact hnl,hor⟩;have h2:=wpOp_putIf hoj (hfree j oj hoj hji hjun hnot) (fun cs b=>hsel i oi cs b hi) (fun cs b=>hsel j oj cs b hoj) hQ hy h1;have hfree':∀ k ok,ops[k]? = some ok→k≠i→(listed.setIfInBounds j true).getD k true=false →
     (∀ e∈ok.after,Region.binds md e=true→e.on≠i)→oi.apart ops ok=true:=fun k ok hk hki hun hno=>by
     refine hfree k ok hk hki ?_ hno
     by_cases hjk:j=k
     ·subst hjk;exact hjun
     ·rw [getD_set_ne true hjk] at hun;exact hun
    refine wpOp_mono (fun a' w' h3=>?_) h2;have hS':S w':=h3.2.1.resolve_left hjz;refine ⟨.inr hS',ih (listed.setIfInBounds j true) a' w' hz' hfree' (ready_mono hr (Ne.symm hji)) h3.1 hS' ?_⟩;rw [Array.setIfInBounds_comm _ _ hji];exact h3.2.2
theorem fin {listed:Array Bool} {a:Act} {w:World} (hr:Region.ready md ops listed = []) (h:Q .normal a w) :
 ∀ fuel,wpAnyZ P md ops Q S z fuel listed a w
 | 0=>⟨hr,h⟩
 | _+1=>⟨fun _=>h,by rw [hr];simp⟩
theorem all {rs:List Nat} {fuel:Nat} {listed:Array Bool} {a:Act} {w:World} (hr:Region.ready md ops listed=rs) (hne:rs≠[])
 (h:∀ i∈rs,wpOp P ops Q i (fun a' w'=>(i=z∨S w')∧wpAnyZ P md ops Q S z fuel (listed.setIfInBounds i true) a' w') a w):wpAnyZ P md ops Q S z (fuel+1) listed a w :=
 ⟨fun h0=>absurd (hr ▸ h0) hne,hr ▸ h⟩
end
def blocksB (ops:Array Oper) (z i:Nat) (listed:Array Bool):Bool:=match ops[z]? with
 | some oz=>oz.after.any fun e=>Region.binds .any e && !listed.getD e.on true && (e.on == i || match ops[e.on]? with
   | some ok=>ok.after.any fun e'=>Region.binds .any e' && e'.on == i
   | none=>false)
 | none=>false
theorem blocks_of {ops:Array Oper} {z i:Nat} {listed:Array Bool} (h:blocksB ops z i listed=true):Blocks .any ops z i listed:=by
 unfold blocksB at h
 cases ho:ops[z]? with
 | none=>rw [ho] at h;cases h
 | some oz =>
   rw [ho] at h;obtain ⟨e,he,hb⟩:=Array.any_eq_true'.1 h;simp only [Bool.and_eq_true,Bool.not_eq_true',Bool.or_eq_true,beq_iff_eq] at hb;obtain ⟨⟨hb1,hb2⟩,hb3⟩:=hb;refine ⟨oz,e,ho,he,hb1,hb2,?_⟩
   rcases hb3 with h3 | h3
   ·exact .inl h3
   ·cases hk:ops[e.on]? with
    | none=>rw [hk] at h3;cases h3
    | some ok =>
      rw [hk] at h3;obtain ⟨e',he',hb'⟩:=Array.any_eq_true'.1 h3;simp only [Bool.and_eq_true,beq_iff_eq] at hb';exact .inr ⟨ok,rfl,e',he',hb'.1,hb'.2⟩
def good (ops:Array Oper) (z:Nat):List (Bool×Nat)→Array Bool→Nat→Bool
 | _,_,0=>false
 | [],listed,_+1=>Region.ready .any ops listed == [z] && (Region.ready .any ops (listed.setIfInBounds z true)).isEmpty
 | (h,i) :: r,listed,fuel+1 =>
   (match ops[i]? with
    | some o=>i != z && (if h then Region.ready .any ops listed == [i] else light o.op && Region.free .any ops listed i && (Region.ready .any ops listed).contains i && blocksB ops z i listed)
    | none=>false) && good ops z r (listed.setIfInBounds i true) fuel
def wpSz (P:Program) (ops:Array Oper) (C:World→Prop) (Q:Exit→Act→World→Prop) (E:Act→World→Prop):List (Bool×Oper)→Act→World→Prop
 | [],a,w=>E a w
 | (false,o) :: r,a,w=>wpQuiet P ops C (fun a'=>wpSz P ops C Q E r a' w) [o] a
 | (true,o) :: r,a,w=>if Region.wanted o (yielded ops a.tmps) then o.wp P a w (fun a' w'=>C w'∧wpSz P ops C Q E r a' w') Q else wpSz P ops C Q E r (a.put o.dst undef) w
theorem sound {P:Program} {l:List Oper} {C:World→Prop} {Q:Exit→Act→World→Prop} {z:Nat} {oz:Oper} (hs:Region.noSelect l.toArray=true) (hQ:∀ c d v a w,Q (.panic c) (Act.put a d v) w→Q (.panic c) a w)
 (hoz:l[z]? = some oz) (hgd:oz.guard=none) :
 ∀ (sc:List (Bool×Nat)) (listed:Array Bool) (fuel:Nat) (a:Act) (w:World),good l.toArray z sc listed fuel=true→C w→wpSz P l.toArray C Q (fun a w=>oz.wp P a w (fun a' w'=>Q .normal a' w') Q) (picks l sc) a w→wpAnyZ P .any l.toArray Q C z fuel listed a w
 | [],listed,0,a,w,hg,_,h=>by cases hg
 | [],listed,fuel+1,a,w,hg,_,h=>by
   unfold good at hg;simp only [Bool.and_eq_true,beq_iff_eq,List.isEmpty_iff] at hg;refine all hg.1 (by simp) fun j hj=>?_;obtain rfl:j=z:=by simpa using hj
   have hop:l.toArray[j]? = some oz:=by rw [List.getElem?_toArray];exact hoz
   unfold wpOp;simp only [hop];rw [if_pos (by simp [Region.wanted,hgd])];exact .inl (Oper.wp_mono (fun a' w' k=>⟨by simp,fin hg.2 k fuel⟩) h)
 | _ :: _,_,0,_,_,hg,_,_=>by cases hg
 | (b,i) :: r,listed,fuel+1,a,w,hg,hC,h=>by
   unfold good at hg;simp only [Bool.and_eq_true] at hg;obtain ⟨hg1,hg2⟩:=hg;have hll:l.toArray[i]? = l[i]?:=by rw [List.getElem?_toArray]
   cases ho:l[i]? with
   | none=>rw [hll,ho] at hg1;cases hg1
   | some o =>
     rw [hll,ho] at hg1;simp only [Bool.and_eq_true,bne_iff_ne,ne_eq] at hg1;obtain ⟨_,hg1⟩:=hg1;have hop:l.toArray[i]? = some o:=hll.trans ho;have hp:picks l ((b,i) :: r)=(b,o) :: picks l r:=by rw [picks,ho]
     rw [hp] at h
     cases b with
     | true =>
       simp only [if_true,beq_iff_eq] at hg1;refine all hg1 (by simp) fun j hj=>?_;obtain rfl:j=i:=by simpa using hj
       unfold wpOp;simp only [hop];unfold wpSz at h
       by_cases hw:Region.wanted o (yielded l.toArray a.tmps)=true
       ·rw [if_pos hw] at h ⊢
        exact .inl (Oper.wp_mono (fun a' w' ⟨c,k⟩=>⟨.inr c,sound hs hQ hoz hgd r _ fuel a' w' hg2 c k⟩) h)
       ·rw [if_neg hw] at h ⊢
        exact ⟨.inr hC,sound hs hQ hoz hgd r _ fuel _ w hg2 hC h⟩
     | false =>
       simp only [Bool.false_eq_true,if_false,Bool.and_eq_true] at hg1;obtain ⟨⟨⟨hk,hf⟩,hr⟩,hbl⟩:=hg1;have hr':i∈Region.ready .any l.toArray listed:=by simpa using hr
       unfold wpSz at h
       by_cases hw:Region.wanted o (yielded l.toArray a.tmps)=true
       ·unfold wpQuiet at h
        rw [if_pos hw] at h;obtain ⟨v,hv,hn⟩:=h;refine first (v:=v) hop (Region.noSelect_spec hs) (fun c a w=>hQ c _ _ a w) fuel listed a w (blocks_of hbl) (Region.free_spec hop hf) hr' (.inl ⟨hw,fun w' hw'=>?_⟩) hC (sound hs hQ hoz hgd r _ fuel _ w hg2 hC hn)
        have q:=hv w' hw';unfold Oper.quietAt at q
        cases e:(execOp a.eval o).run P w' with
        | halt x w1=>rw [e] at q;cases q
        | ok n w1 =>
          obtain ⟨u,rfl⟩:=light_value hk e;rw [e] at q;obtain ⟨e1,e2⟩:=q;rw [e1,e2]
       ·unfold wpQuiet at h
        rw [if_neg hw] at h;exact first (v:=undef) hop (Region.noSelect_spec hs) (fun c a w=>hQ c _ _ a w) fuel listed a w (blocks_of hbl) (Region.free_spec hop hf) hr' (.inr ⟨by simpa using hw,rfl⟩) hC (sound hs hQ hoz hgd r _ fuel _ w hg2 hC h)
theorem start {P:Program} {id:Nat} {l:List Oper} {Q:Exit→Act→World→Prop} {a:Act} {w:World} {oz:Oper} (C:World→Prop) (sc:List (Bool×Nat)) (z:Nat) (hm:P.follows .mixedOrders=true) (hs:Region.noSelect l.toArray=true)
 (hg:good l.toArray z sc (Array.replicate l.toArray.size false) l.toArray.size=true) (hoz:l[z]? = some oz) (hgd:oz.guard=none) (h0:C w.drew)
 (h:wpSz P l.toArray (fun w'=>∃ p:In C,w'=p.world) (NoPanic Q) (fun a w=>oz.wp P a w (fun a' w'=>NoPanic Q .normal a' w') (NoPanic Q)) (picks l sc) a w.drew):(Code.region id l.toArray true).wp P Q a w :=
 wp_region_noPanic (wp_region_any hm (any_of _ _ _ _ (sound hs (fun _ _ _ _ _ h=>h) hoz hgd sc _ _ a _ hg (Sc.Cl.of h0) h)))
section
variable {P:Program} {ops:Array Oper} {C:World→Prop} {Q:Exit→Act→World→Prop} {E:Act→World→Prop} {a:Act} {w:World} {o:Oper} {r:List (Bool×Oper)}
theorem done (h:E a w):wpSz P ops C Q E [] a w:=h
theorem lit (h:wpQuiet P ops C (fun a'=>wpSz P ops C Q E r a' w) [o] a):wpSz P ops C Q E ((false,o) :: r) a w:=h
theorem call (hw:Region.wanted o (yielded ops a.tmps)=true) (h:∀ K:Act→World→Prop,(∀ a w,C w→wpSz P ops C Q E r a w→K a w)→o.wp P a w K Q):wpSz P ops C Q E ((true,o) :: r) a w:=by
 unfold wpSz;rw [if_pos hw];exact h _ fun a w c k=>⟨c,k⟩
end
end Go.Proofs.YtljnkaodhfnbbaaGreatDoor.Sz
namespace Go.Proofs.YtljnkaodhfnbbaaGreatDoor.Nm
open Go.RowKit Go.Maps
open Rw (Rd Ow At)
open Fl (ret_bool at_bool row_cell)
attribute [local irreducible] Sd.wpSd wpQuiet Sz.wpSz
def Wq (q:IntKind) (n:Int):Prop:=(Lit.int q n).wf=true
def Rh (v:Value):Option (DataW Value×List MemPlace):=some (.held v,[])
theorem zeroI (w:World):(zeroValue 3).run Tryz.prog w = .ok (.int .i64 0) w:=by kernel_rfl
structure HIs (q:IntKind) (D:DataW Value) (h:Hr):Prop where
 has:∀ n,Wq q n→Maps.has D (.int q n)=(h n).isSome
 val:∀ n y,Wq q n→h n=some y→∀ z,D.atKey (.int q n) z = .held (.int .i64 y)
def MB (q:IntKind) (kt:TypeId) (w:World) (b N:Nat) (h:Hr):Prop:=∃ D,w.ownsMap Tryz.prog kt Rh b N D∧HIs q D h
section
variable {q:IntKind} {kt mt:TypeId} {w w':World} {h:Hr} {b N:Nat}
theorem MB.lt (M:MB q kt w b N h):b < w.heap.size:=by obtain ⟨D,o,_⟩:=M;exact o.lt
theorem MB.kept (M:MB q kt w b N h) (e:w'.heap[b]? = w.heap[b]?):MB q kt w' b N h:=by
 obtain ⟨D,⟨es,clock,hb,F,hs,hD⟩,I⟩:=M;exact ⟨D,⟨es,clock,e.trans hb,F,hs,hD⟩,I⟩
theorem MB.below (M:MB q kt w b N h) (hb:Below w.heap.size w w'):MB q kt w' b N h:=M.kept (hb.block b M.lt)
theorem mb_new (q:IntKind) (kt:TypeId) (w:World):MB q kt (w.alloc (.map #[] 0)) w.heap.size 0 (fun _=>none):=⟨_,World.ownsMap_made _ _ _ _,fun _ _=>rfl,fun _ _ _ h=>by cases h⟩
variable (hk:Tryz.prog.underlying kt=some (.int q)) (hm:Tryz.prog.underlying mt=some (.map kt 3))
include hk hm
theorem run_mlook (M:MB q kt w b N h) {n:Int} (hn:Wq q n):(Instr.lookup mt (.map (some b)) (.int q n) true).run Tryz.prog w = .ok (.tuple #[.int .i64 ((h n).getD 0),.bool (h n).isSome]) w:=by
 obtain ⟨D,o,I⟩:=M;obtain ⟨u,ps,hr,hu⟩:=o.look_ok (int_keyed hk) hm (zeroI w) (zd:=.held (.int .i64 0)) (zp:=[]) rfl (keyOf_int_mk hk hn);rw [hr,I.has n hn];have:u = .int .i64 ((h n).getD 0):=by
  have e:DataW.held u=D.atKey (.int q n) (.held (.int .i64 0)):=by simp [Rh] at hu;exact hu.1
  rcases ey:h n with _ | y
  ·have:=I.has n hn
   rw [ey] at this;rw [atKey_of_not_has this] at e;injection e
  ·rw [I.val n y hn ey] at e
   injection e
 rw [this]
theorem at_mlook {ops:Array Oper} {rest:List Oper} {o:Oper} {a:Act} {Q:Exit→Act→World→Prop} (hgd:Region.wanted o (yielded ops a.tmps)=true) (p x:Operand) (hop:o.op = .lookup mt p x true) (hp:a.eval p = .map (some b)) (M:MB q kt w b N h) (n:Int) (hx:a.eval x = .int q n) (hn:Wq q n) (y:Int) (z:Bool) (hy:(h n).getD 0=y) (hz:(h n).isSome=z)
 (hK:wpList Tryz.prog ops Q rest (a.put o.dst (.tuple #[.int .i64 y,.bool z])) w):wpList Tryz.prog ops Q (o :: rest) a w:=by
 refine BigFrame.wpList_want hgd fun K' hK'=>?_;have hr:=run_mlook hk hm M hn;rw [hy,hz] at hr;unfold Oper.wp
 simp [execOp,hop,hp,hx,hr,Result.andThen]
 exact hK' _ _ hK
omit hm in
theorem HIs.put {D:DataW Value} (I:HIs q D h) (hD:IsMap D) {n y:Int} (hn:Wq q n):HIs q (D.put (.int q n) (.held (.int .i64 y))) (hput h n y) where
 has m hm:=by
  unfold hput
  by_cases e:m=n
  ·subst e
   rw [has_put_same hD ((int_keyed hk).key (keyOf_int_mk hk hn)),if_pos rfl]
   rfl
  ·rw [has_put_other (fun e2=>e (by injection e2)),if_neg e]
   exact I.has m hm
 val m z hm hz u:=by
  unfold hput at hz
  by_cases e:m=n
  ·subst e
   rw [if_pos rfl] at hz;injection hz with hz;subst hz;exact atKey_put_same hD ((int_keyed hk).key (keyOf_int_mk hk hn)) _ _
  ·rw [if_neg e] at hz
   rw [atKey_put_other (fun e2=>e (by injection e2))];exact I.val m z hm hz u
theorem wp_mput {o:Oper} {a:Act} {Q:Exit→Act→World→Prop} {K:Act→World→Prop} (p x u:Operand) (hop:o.op = .mapUpdate mt p x u) (hp:a.eval p = .map (some b)) (M:MB q kt w b N h) (hN:N < maxLen) (n y:Int) (hx:a.eval x = .int q n) (hu:a.eval u = .int .i64 y) (hn:Wq q n)
 (hK:∀ w',MB q kt w' b (N+1) (hput h n y)→w.grownBy w' (some b)→K (a.put o.dst undef) w'):o.wp Tryz.prog a w K Q:=by
 obtain ⟨D,o',I⟩:=M;obtain ⟨w',hr,h',hg⟩:=o'.update (int_keyed hk) hm hN (keyOf_int_mk hk hn) (val:=.int .i64 y) (d:=.held (.int .i64 y)) (ps:=[]) rfl;unfold Oper.wp
 simp [execOp,hop,hp,hx,hu,hr,Result.andThen]
 exact hK w' ⟨_,h',I.put hk o'.isMap hn⟩ hg
end
def Wh (q:IntKind) (kt:TypeId) (w:World) (p:Nat) (h:Hr):Prop:=∃ b N,w.cell? ⟨p,0,none⟩=some (.map (some b))∧MB q kt w b N h
theorem Wh.below {q:IntKind} {kt:TypeId} {w w':World} {p:Nat} {h:Hr} (W:Wh q kt w p h) (hb:Below w.heap.size w w'):Wh q kt w' p h:=by
 obtain ⟨b,N,c,M⟩:=W;exact ⟨b,N,(hb.cell (World.block_lt_of_cell? _ _ c)).trans c,M.below hb⟩
def OwnerPost (q:IntKind) (kt:TypeId) (g:Nat) (w:World) (h:Hr) (e:Ending) (w':World):Prop:=∃ p,e = .returned (.func (.func g) #[] #[.pointer (some ⟨p,0,none⟩)])∧Wh q kt w' p h∧Below w.heap.size w w'
def NameOf (q:IntKind) (g:Nat) (f:S→Int) (w:World):Prop:=∀ (W:World) (x:S),Below w.heap.size w W→Calls Tryz.prog g #[.agg #[.int .u64 x.1,.int .i64 x.2]] W fun e w'=>e = .returned (.int q (f x))∧Below W.heap.size W w'
theorem phys_any (w:World):NameOf .u64 101 (·.1) w:=fun W x _=>by
 have B0:=Lib.hid ((Below.refl W.heap.size W).alloc (Nat.le_refl _) (.cells #[.int .u64 x.1,.int .i64 x.2] 128))
 go_enter Tryz.func101,Tryz.ntmps101
 go_wp2
 go_ret
 exact ⟨rfl,B0.out⟩
theorem short_any (w:World):NameOf .i64 103 (·.2) w:=fun W x _=>by
 have B0:=Lib.hid ((Below.refl W.heap.size W).alloc (Nat.le_refl _) (.cells #[.int .u64 x.1,.int .i64 x.2] 128))
 go_enter Tryz.func103,Tryz.ntmps103
 go_wp2
 go_ret
 exact ⟨rfl,B0.out⟩
structure OI (q:IntKind) (kt mt:TypeId) (f:S→Int) (l:List S) (w:World) (p b k:Nat) (wr:World):Prop where
 cell:wr.heap[p]? = some (.cells #[.map (some b)] mt (0,0))
 map:MB q kt wr b k (ltK f l k)
 bel:Below w.heap.size w wr
 lob:w.heap.size≤b
 lop:w.heap.size≤p
 ne:b≠p
theorem OI.below {q:IntKind} {kt mt:TypeId} {f:S→Int} {l:List S} {w wr w':World} {p b k:Nat} (I:OI q kt mt f l w p b k wr) (hb:Below wr.heap.size wr w'):OI q kt mt f l w p b k w' :=
 ⟨(hb.block p (lt_of_block I.cell)).trans I.cell,I.map.below hb,I.bel.trans (hb.mono I.bel.size),I.lob,I.lop,I.ne⟩
theorem OI.next {q:IntKind} {kt mt:TypeId} {f:S→Int} {l:List S} {w wr w':World} {p b k:Nat} (I:OI q kt mt f l w p b k wr) (M:MB q kt w' b (k+1) (hput (ltK f l k) (f (sa l k)) k)) (g:wr.grownBy w' (some b)):OI q kt mt f l w p b (k+1) w' :=
 ⟨(g.block p (lt_of_block I.cell) (fun e=>I.ne (by injection e with e;exact e.symm))).trans I.cell,M,I.bel.grown g I.bel.size (fun k e=>by injection e with e;exact e ▸ I.lob),I.lob,I.lop,I.ne⟩
theorem oi_start (q:IntKind) (kt mt:TypeId) (f:S→Int) (l:List S) (w:World):OI q kt mt f l w (w.heap.size+1) w.heap.size 0 ((w.alloc (.map #[] 0)).alloc (.cells #[.map (some w.heap.size)] mt)) :=
 ⟨by have:=heap_alloc_new (w.alloc (.map #[] 0)) (.cells #[.map (some w.heap.size)] mt);simpa using this,(mb_new q kt w).below ((Below.refl _ _).alloc (Nat.le_refl _) _),((Below.refl w.heap.size w).alloc (Nat.le_refl _) _).alloc (by simp) _,Nat.le_refl _,Nat.le_succ _,by omega⟩
theorem OI.wh {q:IntKind} {kt mt:TypeId} {f:S→Int} {l:List S} {w wr:World} {p b k:Nat} (I:OI q kt mt f l w p b k wr):Wh q kt wr p (ltK f l k):=⟨b,k,row_cell I.cell 0,I.map⟩
set_option maxHeartbeats 2000000 in
theorem ownerU_any (w:World) (v:Value) (l:List S) (g:Nat) (f:S→Int) (eg:∀ args w,(callFunc g args).run Tryz.prog w = .ok (.enter g args) w) (R:Rd KV w v l) (hp:NameOf .u64 g f w) (hw:∀ i,i < l.length→Wq .u64 (f (sa l i))) :
 Calls Tryz.prog 100 #[v,.func (.func g) #[] #[]] w (OwnerPost .u64 126 153 w (ltK f l l.length)):=by
 have hmm:=@run_makeMap Tryz.prog;have hmf:∀ (fn:Fn) (first cap:Array Value) (w:World),(Instr.makeFunc fn first cap).run Tryz.prog w = .ok (.func fn first cap) w:=fun _ _ _ _=>rfl;have I0:=Lib.hid (oi_start .u64 126 257 f l w);have HP:=Lib.hid hp;have HW:=Lib.hid hw;have FIN:Hid (∀ wr p b,OI .u64 126 257 f l w p b l.length wr→OwnerPost .u64 126 153 w (ltK f l l.length) (.returned (.func (.func 153) #[] #[.pointer (some ⟨p,0,none⟩)])) wr):=fun wr p b I=>⟨p,rfl,I.wh,I.bel⟩;obtain ⟨a,cap,rfl,⟨hlc,_⟩,hm,hA⟩:=R;have HA:=Lib.hid hA;unfold maxLen at hm;clear hA hp hw;generalize hn:l.length=n at *;have HN:=Lib.hid hn;clear hn
 go_enter Tryz.func100,Tryz.ntmps100
 go_upto_region 2 with fail;clear hmm;generalize (w.alloc (.map #[] 0)).alloc (.cells #[.map (some w.heap.size)] 257)=w0 at *;generalize w.heap.size+1=p at *;generalize w.heap.size=b0 at I0;go_wp2
 go_loopw [11] (fun i wr=>∃ k:Nat,k≤n∧i = .int .i64 k∧Hid (OI .u64 126 257 f l w p b0 k wr)) (fun i _=>n - (intOf i).toNat)
 case atStart=>exact ⟨0,Nat.zero_le _,rfl,I0⟩
 case round =>
  clear I0;obtain ⟨k,hk,rfl,I⟩:=hrel
  by_cases hlt:k < n
  ·obtain ⟨b,off,rfl,A⟩:=HA.out (by omega)
   obtain ⟨c0,c1⟩:=atV (A.below I.out.bel) (i:=k) (by have:=HN.out;omega);have HAA:=Lib.hid A;have WK:=Lib.hid (HW.out k hlt);have NX:Hid (∀ wr w',OI .u64 126 257 f l w p b0 k wr→MB .u64 126 w' b0 (k+1) (hput (ltK f l k) (f (sa l k)) k)→wr.grownBy w' (some b0)→OI .u64 126 257 f l w p b0 (k+1) w'):=fun wr w' I M g=>I.next M g;clear A HA HW FIN;generalize sa l k=x at *;go_upto_region 5 with fail;have X1:=heap_alloc_new wr (.cells #[.int .u64 x.1,.int .i64 x.2] 128);have I1:=Lib.hid (I.out.below ((Below.refl wr.heap.size wr).alloc (Nat.le_refl _) (.cells #[.int .u64 x.1,.int .i64 x.2] 128)));clear c0 c1 I;generalize wr.alloc (.cells #[.int .u64 x.1,.int .i64 x.2] 128)=W at *;generalize wr.heap.size=gx at *;have x0:=Sc.cell_in (C:=Below W.heap.size W) (a:=⟨gx,0,none⟩) (v:=.int .u64 x.1) (fun W' h=>(h.cell (lt_of_block X1)).trans (row_cell X1 0));have x1:=Sc.cell_in (C:=Below W.heap.size W) (a:=⟨gx,1,none⟩) (v:=.int .i64 x.2) (fun W' h=>(h.cell (lt_of_block X1)).trans (row_cell X1 1));have xp:=Sc.cell_in (C:=Below W.heap.size W) (a:=⟨p,0,none⟩) (v:=.map (some b0)) (fun W' h=>(h.cell (lt_of_block I1.out.cell)).trans (row_cell I1.out.cell 0));have ne:Nonempty (Sc.In (Below W.heap.size W)):=⟨⟨_,Below.refl _ _⟩⟩;clear X1;refine Sz.start (Below W.heap.size W) [(false,0),(false,1),(false,2),(false,4),(true,3)] 5 (by kernel_rfl) (by kernel_rfl) (by kernel_rfl) rfl rfl (Below.refl _ _).drew ?_;dsimp only [Sd.picks,List.getElem?_cons_succ,List.getElem?_cons_zero]
   iterate 4 (refine Sz.lit ?_;quiet_step (fail);refine wpQuiet_nil ?_)
   refine Sz.call (by rfl) (fun K hK=>?_);clear x0 x1 xp ne;go_simp;refine (HP.out W.drew x I1.out.bel.drew).mono ?_;rintro e w1 ⟨rfl,b1⟩;have B1:=(Below.refl W.heap.size W).drew.trans b1;have I2:=Lib.hid (I1.out.below B1);refine hK _ _ (Sc.Cl.of B1) ?_;clear hK K b1 B1 I1;refine Sz.done ?_;refine wp_mput Tryz.underlying126 Tryz.underlying257 _ _ _ rfl rfl I2.out.map (by unfold maxLen;omega) (f x) k rfl rfl WK.out ?_
   intro w2 m2 g2
   have I3:=Lib.hid (NX.out _ _ I2.out m2 g2);clear m2 g2 I2 NX;refine NoPanic.normal ?_;go_wp2
   go_roundw
   case rel=>exact ⟨k+1,by omega,by go_num,I3⟩
   case measure=>simp [intOf];omega
  ·obtain rfl:k=n:=by omega
   have E:=Lib.hid (FIN.out _ _ _ I.out);go_wp2
   go_ret
   exact E.out
set_option maxHeartbeats 1000000 in
theorem whoU_any {w:World} {p:Nat} {h:Hr} (W:Wh .u64 126 w p h) (n:Int) (hn:Wq .u64 n):Calls Tryz.prog 153 #[.int .u64 n,.pointer (some ⟨p,0,none⟩)] w fun e w'=>e = .returned (.int .i64 ((h n).getD (-1)))∧Below w.heap.size w w':=by
 obtain ⟨b,N,c,M⟩:=W;have MM:=Lib.hid M;have HN:=Lib.hid hn;clear M hn
 rcases e:h n with _ | y
 ·have E1:Hid ((h n).getD 0=0):=by rw [e];rfl
  have E2:Hid ((h n).isSome=false):=by rw [e];rfl
  clear e
  go_enter Tryz.func153,Tryz.ntmps153
  go_wp2_with (at_lookup;refine at_mlook Tryz.underlying126 Tryz.underlying257 rfl _ _ rfl rfl MM.out _ rfl HN.out _ _ E1.out E2.out ?_)
  go_ret
  exact ⟨rfl,Below.refl _ _⟩
 ·have E1:Hid ((h n).getD 0=y):=by rw [e];rfl
  have E2:Hid ((h n).isSome=true):=by rw [e];rfl
  clear e
  go_enter Tryz.func153,Tryz.ntmps153
  go_wp2_with (at_lookup;refine at_mlook Tryz.underlying126 Tryz.underlying257 rfl _ _ rfl rfl MM.out _ rfl HN.out _ _ E1.out E2.out ?_)
  go_ret
  exact ⟨rfl,Below.refl _ _⟩
set_option maxHeartbeats 2000000 in
theorem ownerI_any (w:World) (v:Value) (l:List S) (g:Nat) (f:S→Int) (eg:∀ args w,(callFunc g args).run Tryz.prog w = .ok (.enter g args) w) (R:Rd KV w v l) (hp:NameOf .i64 g f w) (hw:∀ i,i < l.length→Wq .i64 (f (sa l i))) :
 Calls Tryz.prog 102 #[v,.func (.func g) #[] #[]] w (OwnerPost .i64 3 154 w (ltK f l l.length)):=by
 have hmm:=@run_makeMap Tryz.prog;have hmf:∀ (fn:Fn) (first cap:Array Value) (w:World),(Instr.makeFunc fn first cap).run Tryz.prog w = .ok (.func fn first cap) w:=fun _ _ _ _=>rfl;have I0:=Lib.hid (oi_start .i64 3 258 f l w);have HP:=Lib.hid hp;have HW:=Lib.hid hw;have FIN:Hid (∀ wr p b,OI .i64 3 258 f l w p b l.length wr→OwnerPost .i64 3 154 w (ltK f l l.length) (.returned (.func (.func 154) #[] #[.pointer (some ⟨p,0,none⟩)])) wr):=fun wr p b I=>⟨p,rfl,I.wh,I.bel⟩;obtain ⟨a,cap,rfl,⟨hlc,_⟩,hm,hA⟩:=R;have HA:=Lib.hid hA;unfold maxLen at hm;clear hA hp hw;generalize hn:l.length=n at *;have HN:=Lib.hid hn;clear hn
 go_enter Tryz.func102,Tryz.ntmps102
 go_upto_region 2 with fail;clear hmm;generalize (w.alloc (.map #[] 0)).alloc (.cells #[.map (some w.heap.size)] 258)=w0 at *;generalize w.heap.size+1=p at *;generalize w.heap.size=b0 at I0;go_wp2
 go_loopw [11] (fun i wr=>∃ k:Nat,k≤n∧i = .int .i64 k∧Hid (OI .i64 3 258 f l w p b0 k wr)) (fun i _=>n - (intOf i).toNat)
 case atStart=>exact ⟨0,Nat.zero_le _,rfl,I0⟩
 case round =>
  clear I0;obtain ⟨k,hk,rfl,I⟩:=hrel
  by_cases hlt:k < n
  ·obtain ⟨b,off,rfl,A⟩:=HA.out (by omega)
   obtain ⟨c0,c1⟩:=atV (A.below I.out.bel) (i:=k) (by have:=HN.out;omega);have HAA:=Lib.hid A;have WK:=Lib.hid (HW.out k hlt);have NX:Hid (∀ wr w',OI .i64 3 258 f l w p b0 k wr→MB .i64 3 w' b0 (k+1) (hput (ltK f l k) (f (sa l k)) k)→wr.grownBy w' (some b0)→OI .i64 3 258 f l w p b0 (k+1) w'):=fun wr w' I M g=>I.next M g;clear A HA HW FIN;generalize sa l k=x at *;go_upto_region 5 with fail;have X1:=heap_alloc_new wr (.cells #[.int .u64 x.1,.int .i64 x.2] 128);have I1:=Lib.hid (I.out.below ((Below.refl wr.heap.size wr).alloc (Nat.le_refl _) (.cells #[.int .u64 x.1,.int .i64 x.2] 128)));clear c0 c1 I;generalize wr.alloc (.cells #[.int .u64 x.1,.int .i64 x.2] 128)=W at *;generalize wr.heap.size=gx at *;have x0:=Sc.cell_in (C:=Below W.heap.size W) (a:=⟨gx,0,none⟩) (v:=.int .u64 x.1) (fun W' h=>(h.cell (lt_of_block X1)).trans (row_cell X1 0));have x1:=Sc.cell_in (C:=Below W.heap.size W) (a:=⟨gx,1,none⟩) (v:=.int .i64 x.2) (fun W' h=>(h.cell (lt_of_block X1)).trans (row_cell X1 1));have xp:=Sc.cell_in (C:=Below W.heap.size W) (a:=⟨p,0,none⟩) (v:=.map (some b0)) (fun W' h=>(h.cell (lt_of_block I1.out.cell)).trans (row_cell I1.out.cell 0));have ne:Nonempty (Sc.In (Below W.heap.size W)):=⟨⟨_,Below.refl _ _⟩⟩;clear X1;refine Sz.start (Below W.heap.size W) [(false,0),(false,1),(false,2),(false,4),(true,3)] 5 (by kernel_rfl) (by kernel_rfl) (by kernel_rfl) rfl rfl (Below.refl _ _).drew ?_;dsimp only [Sd.picks,List.getElem?_cons_succ,List.getElem?_cons_zero]
   iterate 4 (refine Sz.lit ?_;quiet_step (fail);refine wpQuiet_nil ?_)
   refine Sz.call (by rfl) (fun K hK=>?_);clear x0 x1 xp ne;go_simp;refine (HP.out W.drew x I1.out.bel.drew).mono ?_;rintro e w1 ⟨rfl,b1⟩;have B1:=(Below.refl W.heap.size W).drew.trans b1;have I2:=Lib.hid (I1.out.below B1);refine hK _ _ (Sc.Cl.of B1) ?_;clear hK K b1 B1 I1;refine Sz.done ?_;refine wp_mput Tryz.underlying3 Tryz.underlying258 _ _ _ rfl rfl I2.out.map (by unfold maxLen;omega) (f x) k rfl rfl WK.out ?_
   intro w2 m2 g2
   have I3:=Lib.hid (NX.out _ _ I2.out m2 g2);clear m2 g2 I2 NX;refine NoPanic.normal ?_;go_wp2
   go_roundw
   case rel=>exact ⟨k+1,by omega,by go_num,I3⟩
   case measure=>simp [intOf];omega
  ·obtain rfl:k=n:=by omega
   have E:=Lib.hid (FIN.out _ _ _ I.out);go_wp2
   go_ret
   exact E.out
set_option maxHeartbeats 1000000 in
theorem whoI_any {w:World} {p:Nat} {h:Hr} (W:Wh .i64 3 w p h) (n:Int) (hn:Wq .i64 n):Calls Tryz.prog 154 #[.int .i64 n,.pointer (some ⟨p,0,none⟩)] w fun e w'=>e = .returned (.int .i64 ((h n).getD (-1)))∧Below w.heap.size w w':=by
 obtain ⟨b,N,c,M⟩:=W;have MM:=Lib.hid M;have HN:=Lib.hid hn;clear M hn
 rcases e:h n with _ | y
 ·have E1:Hid ((h n).getD 0=0):=by rw [e];rfl
  have E2:Hid ((h n).isSome=false):=by rw [e];rfl
  clear e
  go_enter Tryz.func154,Tryz.ntmps154
  go_wp2_with (at_lookup;refine at_mlook Tryz.underlying3 Tryz.underlying258 rfl _ _ rfl rfl MM.out _ rfl HN.out _ _ E1.out E2.out ?_)
  go_ret
  exact ⟨rfl,Below.refl _ _⟩
 ·have E1:Hid ((h n).getD 0=y):=by rw [e];rfl
  have E2:Hid ((h n).isSome=true):=by rw [e];rfl
  clear e
  go_enter Tryz.func154,Tryz.ntmps154
  go_wp2_with (at_lookup;refine at_mlook Tryz.underlying3 Tryz.underlying258 rfl _ _ rfl rfl MM.out _ rfl HN.out _ _ E1.out E2.out ?_)
  go_ret
  exact ⟨rfl,Below.refl _ _⟩
end Go.Proofs.YtljnkaodhfnbbaaGreatDoor.Nm
namespace Go.Proofs.YtljnkaodhfnbbaaGreatDoor.Nm
open Go.RowKit
open Rw (Rd Ow At)
open Fl (ret_bool at_bool row_cell)
attribute [local irreducible] Sd.wpSd wpQuiet Sz.wpSz
theorem ret_i64 {a b:Int} (h:a=b):Ending.returned (.int .i64 a) = .returned (.int .i64 b):=by rw [h]
theorem Fit.u {l:List S} (h:Fit l) {i:Nat} (hi:i < l.length):Wq .u64 (sa l i).1:=WalkArith.wf_u64 (by have:=h i hi;omega)
theorem Fit.i {l:List S} (h:Fit l) {i:Nat} (hi:i < l.length):Wq .i64 (sa l i).2:=WalkArith.wf_i64 (by have:=h i hi;omega)
set_option maxHeartbeats 4000000 in
theorem good_any (w:World) (v:Value) (l:List S) (R:Rd KV w v l) (F:Fit l):Calls Tryz.prog 46 #[v] w fun e w'=>e = .returned (.bool (gdB l))∧Below w.heap.size w w':=by
 have eg1:∀ args w,(callFunc 101 args).run Tryz.prog w = .ok (.enter 101 args) w:=enters_of Tryz.func101 (by kernel_rfl) rfl;have eg2:∀ args w,(callFunc 103 args).run Tryz.prog w = .ok (.enter 103 args) w:=enters_of Tryz.func103 (by kernel_rfl) rfl;have C1:=Lib.hid (ownerU_any w v l _ (·.1) eg1 R (phys_any w) fun i hi=>F.u hi);have C2:=Lib.hid (fun W (b:Below w.heap.size w W)=>ownerI_any W v l _ (·.2) eg2 (R.below b) (short_any W) fun i hi=>F.i hi);have LEN:Hid (¬ l.length≤32→false=gdB l):=fun h=>(gdB_no fun g=>h g.len).symm;have NO:Hid (∀ k,k < l.length→¬ okL l k→false=gdB l):=fun k hk h=>(gdB_no fun g=>h (gd_each g hk)).symm;have YES:Hid (l.length≤32→(∀ i,i < l.length→okL l i)→true=gdB l):=fun h0 h=>(gdB_yes (gd_yes h0 h)).symm;have OK:Hid (∀ k,okL l k↔((0≤(sa l k).2∧(sa l k).2≤254)∧(ltK (·.1) l l.length (sa l k).1).getD (-1)=k∧((sa l k).2=0∨(ltK (·.2) l l.length (sa l k).2).getD (-1)=k))):=fun k=>Iff.rfl;have WU:Hid (∀ k,k < l.length→Wq .u64 (sa l k).1):=fun k hk=>F.u hk;have WI:Hid (∀ k,k < l.length→Wq .i64 (sa l k).2):=fun k hk=>F.i hk;obtain ⟨a,cap,rfl,_,hm,hA⟩:=R;have HA:=Lib.hid hA;unfold maxLen at hm;clear hA F eg1 eg2;generalize hu:ltK (fun x=>x.1) l l.length=hU at *;generalize hi:ltK (fun x=>x.2) l l.length=hI at *;clear hu hi;generalize hn:l.length=n at *;have HN:=Lib.hid hn;clear hn
 by_cases h32:n≤32
 ·clear LEN
  have h32':¬ (32:Int) < n:=by omega
  go_enter Tryz.func46,Tryz.ntmps46
  go_wp2_with fail;refine C1.out.mono ?_;rintro e w1 ⟨p1,rfl,wh1,b1⟩;have WH1:=Lib.hid wh1;have B1:=Lib.hid b1;have C3:=Lib.hid (C2.out w1 b1);clear C1 C2 b1 wh1;go_wp2_with fail;refine C3.out.mono ?_;rintro e w2 ⟨p2,rfl,wh2,b2⟩;have B2:=Lib.hid (B1.out.trans (b2.mono B1.out.size));have WU2:=Lib.hid (WH1.out.below b2);have WI2:=Lib.hid wh2;clear C3 b2 wh2 WH1 B1;go_wp2
  go_loopw [16] (fun i wr=>∃ k:Nat,k≤n∧i = .int .i64 k∧Hid (Below w.heap.size w wr)∧Hid (Wh .u64 126 wr p1 hU)∧Hid (Wh .i64 3 wr p2 hI)∧Hid (∀ i,i < k→okL l i)) (fun i _=>n - (intOf i).toNat)
  case atStart=>exact ⟨0,Nat.zero_le _,rfl,B2,WU2,WI2,fun i hi=>absurd hi (Nat.not_lt_zero i)⟩
  case round =>
   clear B2 WU2 WI2;obtain ⟨k,hk,rfl,bw,wu,wi,hs⟩:=hrel
   by_cases hlt:k < n
   ·obtain ⟨b,off,rfl,A⟩:=HA.out (by omega)
    obtain ⟨c0,c1⟩:=atV (A.below bw.out) (i:=k) (by have:=HN.out;omega);have HAA:=Lib.hid A;have NOk:=Lib.hid (NO.out k hlt);have OKk:=Lib.hid (OK.out k);have WUk:=Lib.hid (WU.out k hlt);have WIk:=Lib.hid (WI.out k hlt);have ST:Hid (okL l k→∀ i,i < k+1→okL l i):=fun h i hi=>by
     by_cases e:i=k
     ·rw [e];exact h
     ·exact hs.out i (by omega)
    clear A NO YES OK WU WI hs;generalize okL l k=okp at *;generalize sa l k=x at *;go_upto_region 8 with fail;have X1:=Lib.hid (heap_alloc_new wr (.cells #[.int .u64 x.1,.int .i64 x.2] 128));have b1:=(Below.refl wr.heap.size wr).alloc (Nat.le_refl _) (.cells #[.int .u64 x.1,.int .i64 x.2] 128);have B1:=Lib.hid (bw.out.trans (b1.mono bw.out.size));have wu1:=Lib.hid (wu.out.below b1);have wi1:=Lib.hid (wi.out.below b1);clear c0 c1 wu wi b1 bw;generalize wr.alloc (.cells #[.int .u64 x.1,.int .i64 x.2] 128)=W at *;generalize wr.heap.size=gx at *;have x0:W.cell? ⟨gx,0,none⟩=some (.int .u64 x.1):=row_cell X1.out 0;have x1:W.cell? ⟨gx,1,none⟩=some (.int .i64 x.2):=row_cell X1.out 1
    by_cases h1:x.2 < 0
    ·have E:=Lib.hid (NOk.out fun g=>by have:=OKk.out.1 g;omega)
     clear NOk OKk ST;go_wp2
     go_ret
     exact ⟨ret_bool E.out,B1.out⟩
    ·by_cases h2:254 < x.2
     ·have E:=Lib.hid (NOk.out fun g=>by have:=OKk.out.1 g;omega)
      clear NOk OKk ST;go_wp2
      go_ret
      exact ⟨ret_bool E.out,B1.out⟩
     ·have CU:=Lib.hid (whoU_any wu1.out x.1 WUk.out)
      generalize hz:(hU x.1).getD (-1)=z at *
      by_cases h3:z=(k:Int)
      ·subst h3
       have OK2:=Lib.hid (OKk.out);go_wp2_with fail;refine CU.out.mono ?_;rintro e w3 ⟨rfl,b3⟩;have B3:=Lib.hid (B1.out.trans (b3.mono B1.out.size));have wu3:=Lib.hid (wu1.out.below b3);have wi3:=Lib.hid (wi1.out.below b3);have X3:=Lib.hid ((b3.block gx (lt_of_block X1.out)).trans X1.out);clear b3 B1 wu1 wi1 x0 x1 X1 CU;have x1:w3.cell? ⟨gx,1,none⟩=some (.int .i64 x.2):=row_cell X3.out 1
       by_cases h4:x.2=0
       ·have HS:=Lib.hid (ST.out (OKk.out.2 ⟨⟨by omega,by omega⟩,trivial,.inl h4⟩))
        have h4':(x.2 != 0)=false:=by rw [h4];rfl
        have h4'':decide (x.2=0)=true:=decide_eq_true h4;clear NOk OKk OK2 ST h1 h2;go_wp2
        go_roundw
        case rel=>exact ⟨k+1,by omega,by go_num,B3,wu3,wi3,HS⟩
        case measure=>simp [intOf];omega
       ·have CI:=Lib.hid (whoI_any wi3.out x.2 WIk.out)
        generalize hy:(hI x.2).getD (-1)=y at *
        by_cases h5:y=(k:Int)
        ·have HS:=Lib.hid (ST.out (OKk.out.2 ⟨⟨by omega,by omega⟩,trivial,.inr h5⟩))
         subst h5;clear NOk OKk OK2 ST;go_wp2_with fail;refine CI.out.mono ?_;rintro e w4 ⟨rfl,b4⟩;have B4:=Lib.hid (B3.out.trans (b4.mono B3.out.size));have wu4:=Lib.hid (wu3.out.below b4);have wi4:=Lib.hid (wi3.out.below b4);clear b4 B3 wu3 wi3 CI;go_wp2
         go_roundw
         case rel=>exact ⟨k+1,by omega,by go_num,B4,wu4,wi4,HS⟩
         case measure=>simp [intOf];omega
        ·have E:=Lib.hid (NOk.out fun g=>by rcases (OKk.out.1 g).2.2 with q | q;exact h4 q;exact h5 q)
         clear NOk OKk OK2 ST;have h4b:(x.2 != 0)=true:=bne_iff_ne.2 h4;have h5b:(y != (k:Int))=true:=bne_iff_ne.2 h5;go_wp2_with fail;refine CI.out.mono ?_;rintro e w4 ⟨rfl,b4⟩;have B4:=Lib.hid (B3.out.trans (b4.mono B3.out.size));clear b4 B3 CI;go_wp2
         go_ret
         exact ⟨ret_bool E.out,B4.out⟩
      ·have E:=Lib.hid (NOk.out fun g=>h3 (OKk.out.1 g).2.1)
       clear NOk OKk ST;go_wp2_with fail;refine CU.out.mono ?_;rintro e w3 ⟨rfl,b3⟩;have B3:=Lib.hid (B1.out.trans (b3.mono B1.out.size));clear b3 B1 CU;go_wp2
       go_ret
       exact ⟨ret_bool E.out,B3.out⟩
   ·obtain rfl:k=n:=by omega
    have E:=Lib.hid (YES.out h32 hs.out);go_wp2
    go_ret
    exact ⟨ret_bool E.out,bw.out⟩
 ·have E:=Lib.hid (LEN.out h32)
  have h33:(32:Int) < n:=by omega
  clear C1 C2 NO YES OK WU WI LEN
  go_enter Tryz.func46,Tryz.ntmps46
  go_wp2
  go_ret
  exact ⟨ret_bool E.out,Below.refl _ _⟩
set_option maxHeartbeats 1000000 in
theorem free_any (w:World) (v:Value) (l:List S) (R:Rd KV w v l) (F:Fit l) (most:Int):Calls Tryz.prog 105 #[v,.int .i64 most] w (FreePost w l most):=by
 have eg2:∀ args w,(callFunc 103 args).run Tryz.prog w = .ok (.enter 103 args) w:=enters_of Tryz.func103 (by kernel_rfl) rfl;have C1:=Lib.hid (ownerI_any w v l _ (·.2) eg2 R (short_any w) fun i hi=>F.i hi);have HIT:Hid (∀ (k:Nat) w',FrAt l most k→k≤254→(k:Int)≤most→hs l k=false→Below w.heap.size w w'→FreePost w l most (.returned (.tuple #[.int .i64 (k:Int),.bool true])) w'):=fun k w' h h1 h2 h3 b=>by
  obtain ⟨e1,e2⟩:=fr_hit h h1 h2 h3;exact ⟨by rw [e1,e2],b⟩
 have END:Hid (∀ (k:Nat) w',FrAt l most k→(k=255∨most < k)→Below w.heap.size w w'→FreePost w l most (.returned (.tuple #[.int .i64 0,.bool false])) w'):=fun k w' h h1 b=>by
  obtain ⟨e1,e2⟩:=fr_end h h1;exact ⟨by rw [e1,e2];rfl,b⟩
 have NX:Hid (∀ k:Nat,FrAt l most k→k≤254→(k:Int)≤most→hs l k=true→FrAt l most (k+1)):=fun k h h1 h2 h3=>fr_next h h1 h2 h3;have S0:Hid (FrAt l most 1):=fr_start l most;have WF:Hid (∀ n:Int,decide ((ltK (·.2) l l.length n).getD (-1) < 0) = !hs l n):=fun n=>who_free l n;obtain ⟨a,cap,rfl,_⟩:=R.slice;clear R F eg2;generalize hi:ltK (fun x=>x.2) l l.length=hI at *;clear hi;generalize l.length=n at *
 go_enter Tryz.func105,Tryz.ntmps105
 go_wp2_with fail;refine C1.out.mono ?_;rintro e w1 ⟨p,rfl,wh,b1⟩;have WH:=Lib.hid wh;have B1:=Lib.hid b1;clear C1 wh b1;go_wp2
 go_loopw [7] (fun i wr=>∃ k:Nat,k≤255∧i = .int .i64 k∧Hid (Below w.heap.size w wr)∧Hid (Wh .i64 3 wr p hI)∧Hid (FrAt l most k)) (fun i _=>255 - (intOf i).toNat)
 case atStart=>exact ⟨1,by omega,rfl,B1,WH,S0⟩
 case round =>
  clear B1 WH S0;obtain ⟨k,hk,rfl,bw,wh,hs_⟩:=hrel
  by_cases h1:(k:Int)≤min most 254
  ·have h2:k≤254:=by omega
   have C:=Lib.hid (whoI_any wh.out (k:Int) (WalkArith.wf_i64 (by omega)));have P1:=Lib.hid (fun w'=>HIT.out k w' hs_.out h2 (by omega));have P2:=Lib.hid (NX.out k hs_.out h2 (by omega));have WK:=Lib.hid (WF.out k);clear WF HIT END NX hs_;have h1a:(k:Int)≤most:=by omega
   have h1b:(k:Int)≤254:=by omega
   clear h1;generalize (hI k).getD (-1)=z at *;generalize hs l k=q at *
   cases q with
   | false =>
     have P:=Lib.hid (fun w' h=>P1.out w' rfl h);have h3:z < 0:=by have:=WK.out;simpa using this
     clear P1 P2 WK
     by_cases hm:most≤254
     all_goals
      go_wp2_with fail;refine C.out.mono ?_;rintro e w2 ⟨rfl,b2⟩;have B2:=Lib.hid (bw.out.trans (b2.mono bw.out.size));clear b2 C;go_wp2
      go_ret2
      exact P.out _ B2.out
   | true =>
     have P:=Lib.hid (P2.out rfl);have h3:¬ z < 0:=by have:=WK.out;simpa using this
     clear P1 P2 WK
     by_cases hm:most≤254
     all_goals
      go_wp2_with fail;refine C.out.mono ?_;rintro e w2 ⟨rfl,b2⟩;have B2:=Lib.hid (bw.out.trans (b2.mono bw.out.size));have wh2:=Lib.hid (wh.out.below b2);clear b2 C;go_wp2
      go_roundw
      case rel=>exact ⟨k+1,by omega,by go_num,B2,wh2,P⟩
      case measure=>simp [intOf];omega
  ·have P:=Lib.hid (END.out k wr hs_.out (by omega) bw.out)
   clear WF HIT END NX hs_
   by_cases hm:most≤254
   ·have h2:¬ (k:Int)≤most:=by omega
    clear h1;go_wp2
    go_ret2
    exact P.out
   ·have h2:¬ (k:Int)≤254:=by omega
    clear h1;go_wp2
    go_ret2
    exact P.out
set_option maxHeartbeats 4000000 in
theorem nameless_any (w:World) (v:Value) (l:List S) (R:Rd KV w v l):Calls Tryz.prog 109 #[v] w fun e w'=>e = .returned (.int .i64 (ls l))∧Below w.heap.size w w':=by
 have NX:Hid (∀ k,(sa l k).2=0∧(lsK l k < 0∨(sa l k).1 < (sa l (lsK l k).toNat).1)→lsK l (k+1)=k):=fun k h=>ls_next h;have ST:Hid (∀ k,¬ ((sa l k).2=0∧(lsK l k < 0∨(sa l k).1 < (sa l (lsK l k).toNat).1))→lsK l (k+1)=lsK l k):=fun k h=>ls_stay h;have CS:Hid (∀ k,lsK l k = -1∨∃ i:Nat,lsK l k=i∧i < k):=fun k=>lsK_cases l k;have L0:Hid (lsK l 0 = -1):=rfl;have END:Hid (∀ z,lsK l l.length=z→z=ls l):=fun z h=>h.symm;obtain ⟨a,cap,rfl,_,hm,hA⟩:=R;have HA:=Lib.hid hA;unfold maxLen at hm;clear hA;generalize ls l=res at *;generalize hn:l.length=n at *;have HN:=Lib.hid hn;clear hn
 go_enter Tryz.func109,Tryz.ntmps109
 go_wp2
 go_loopw [3,8] (fun at_ i wr=>∃ (k:Nat) (z:Int),k≤n∧i = .int .i64 k∧at_ = .int .i64 z∧Hid (Below w.heap.size w wr)∧Hid (lsK l k=z)) (fun _ i _=>n - (intOf i).toNat)
 case atStart=>exact ⟨0,-1,Nat.zero_le _,rfl,rfl,Below.refl _ _,L0⟩
 case round =>
  obtain ⟨k,z,hk,rfl,rfl,bw,hs⟩:=hrel
  by_cases hlt:k < n
  ·obtain ⟨b,off,rfl,A⟩:=HA.out (by omega)
   obtain ⟨c0,c1⟩:=atV (A.below bw.out) (i:=k) (by have:=HN.out;omega);have HAA:=Lib.hid A;have NXk:=Lib.hid (NX.out k);have STk:=Lib.hid (ST.out k);rw [hs.out] at NXk STk;have CSk:=CS.out k;rw [hs.out] at CSk;clear A NX ST END L0 hs;generalize hx:sa l k=x at *;clear hx;have CK:=Lib.hid CSk;clear CSk;go_upto_region 5 with fail;have X1:=Lib.hid (heap_alloc_new wr (.cells #[.int .u64 x.1,.int .i64 x.2] 128));have b1:=(Below.refl wr.heap.size wr).alloc (Nat.le_refl _) (.cells #[.int .u64 x.1,.int .i64 x.2] 128);have B1:=Lib.hid (bw.out.trans (b1.mono bw.out.size));clear c0 c1 b1 bw;generalize wr.alloc (.cells #[.int .u64 x.1,.int .i64 x.2] 128)=W at *;generalize wr.heap.size=gx at *;have x0:W.cell? ⟨gx,0,none⟩=some (.int .u64 x.1):=row_cell X1.out 0;have x1:W.cell? ⟨gx,1,none⟩=some (.int .i64 x.2):=row_cell X1.out 1
   by_cases p1:x.2=0
   ·have q1:decide (x.2=0)=true:=decide_eq_true p1
    have q1b:(x.2 == 0)=true:=beq_iff_eq.2 p1
    rcases CK.out with rfl | ⟨i,rfl,hi⟩
    ·have ST1:=Lib.hid (NXk.out ⟨p1,.inl (by decide)⟩)
     clear NXk STk p1 CK
     go_quiet (fail)
     go_wp2
     go_roundw
     case rel=>exact ⟨k+1,_,by omega,by go_num,rfl,below_drewN B1.out _,ST1⟩
     case measure=>simp [intOf];omega
    ·obtain ⟨d0,d1⟩:=atV (HAA.out.below B1.out) (i:=i) (by have:=HN.out;omega)
     have q2:decide ((i:Int) < 0)=false:=decide_eq_false (by omega);rw [Int.toNat_natCast] at NXk STk;clear CK
     by_cases p2:x.1 < (sa l i).1
     ·have ST1:=Lib.hid (NXk.out ⟨p1,.inr p2⟩)
      have q3:decide (x.1 < (sa l i).1)=true:=decide_eq_true p2;clear NXk STk p1 p2;generalize sa l i=y at *
      go_quiet (fail)
      go_wp2
      go_roundw
      case rel=>exact ⟨k+1,_,by omega,by go_num,rfl,below_drewN B1.out _,ST1⟩
      case measure=>simp [intOf];omega
     ·have ST1:=Lib.hid (STk.out (by rintro ⟨_,g | g⟩;omega;exact p2 g))
      have q3:decide (x.1 < (sa l i).1)=false:=decide_eq_false p2;clear NXk STk p1 p2;generalize sa l i=y at *
      go_quiet (fail)
      go_wp2
      go_roundw
      case rel=>exact ⟨k+1,_,by omega,by go_num,rfl,below_drewN B1.out _,ST1⟩
      case measure=>simp [intOf];omega
   ·have ST1:=Lib.hid (STk.out fun g=>p1 g.1)
    have q1:decide (x.2=0)=false:=decide_eq_false p1;have q1b:(x.2 == 0)=false:=beq_eq_false_iff_ne.2 p1;clear NXk STk p1 CK
    go_quiet (fail)
    go_wp2
    go_roundw
    case rel=>exact ⟨k+1,_,by omega,by go_num,rfl,below_drewN B1.out _,ST1⟩
    case measure=>simp [intOf];omega
  ·obtain rfl:k=n:=by omega
   have E:=Lib.hid (END.out z hs.out);clear hs NX ST CS L0 END;go_wp2
   go_ret
   exact ⟨ret_i64 E.out,bw.out⟩
def LeastPost (w:World) (l:List S) (e:Ending) (w':World):Prop:=e = .returned (.tuple #[.int .u64 (lsP l),.bool (decide (0≤ls l))])∧Below w.heap.size w w'
set_option maxHeartbeats 1000000 in
theorem least_any (w:World) (v:Value) (l:List S) (R:Rd KV w v l):Calls Tryz.prog 106 #[v] w (LeastPost w l):=by
 have C:=Lib.hid (nameless_any w v l R);have CS:Hid (ls l = -1∨∃ i:Nat,ls l=i∧i < l.length):=lsK_cases l l.length;have END1:Hid (∀ w',ls l = -1→Below w.heap.size w w'→LeastPost w l (.returned (.tuple #[.int .u64 0,.bool false])) w'):=fun w' e b=>by
  refine ⟨?_,b⟩;unfold lsP;rw [e]
  rfl
 have END2:Hid (∀ (i:Nat) w',ls l=i→Below w.heap.size w w'→LeastPost w l (.returned (.tuple #[.int .u64 (sa l i).1,.bool true])) w'):=fun i w' e b=>by
  refine ⟨?_,b⟩;unfold lsP;rw [e,if_neg (by omega),Int.toNat_natCast,decide_eq_true (by omega:(0:Int)≤i)]
 obtain ⟨a,cap,rfl,_,hm,hA⟩:=R;have HA:=Lib.hid hA;unfold maxLen at hm;clear hA;generalize hn:l.length=n at *;have HN:=Lib.hid hn;clear hn;generalize hz:ls l=z at *;clear hz
 rcases CS.out with rfl | ⟨i,rfl,hi⟩
 ·have E:=Lib.hid (fun w'=>END1.out w' rfl)
  clear END1 END2 CS
  go_enter Tryz.func106,Tryz.ntmps106
  go_wp2_with fail;refine C.out.mono ?_;rintro e w1 ⟨rfl,b1⟩;have B1:=Lib.hid b1;clear b1 C;go_wp2
  go_ret2
  exact E.out _ B1.out
 ·have E:=Lib.hid (fun w'=>END2.out i w' rfl)
  have q2:¬ ((i:Int) < 0):=by omega
  obtain ⟨b,off,rfl,A⟩:=HA.out (by omega);have HAA:=Lib.hid A;clear END1 END2 CS A HA
  go_enter Tryz.func106,Tryz.ntmps106
  go_wp2_with fail;refine C.out.mono ?_;rintro e w1 ⟨rfl,b1⟩;obtain ⟨d0,d1⟩:=atV (HAA.out.below b1) (i:=i) (by have:=HN.out;omega);have B1:=Lib.hid b1;clear b1 C;generalize sa l i=y at *;go_wp2
  go_ret2
  exact E.out _ B1.out
def ClonePost (w:World) (l:List S) (e:Ending) (w':World):Prop:=∃ u,e = .returned u∧Ow KV w' w.heap.size 128 u l∧Below w.heap.size w w'
set_option maxHeartbeats 400000 in
theorem clone_any (w:World) (v:Value) (l:List S) (R:Rd KV w v l) (hl:l.length≤260):Calls Tryz.prog 104 #[v] w (ClonePost w l):=by
 have R0:=Lib.hid R;obtain ⟨a,cap,rfl,⟨h1,h2⟩,hm,_⟩:=R
 cases a with
 | none =>
   have hc:=h2 rfl;have e:l = []:=List.length_eq_zero_iff.1 (by omega);subst e hc;clear h1 h2 hm R0;have hnil:∀ W,(binOp .eql 122 (.slice none 0 0) (.slice none 0 0)).run Tryz.prog W = .ok (.bool true) W:=fun W=>Lib.run_eql_slice_nil_nil W _ _ Tryz.underlying122
   go_enter Tryz.func104,Tryz.ntmps104
   go_wp2
   go_ret
   exact ⟨_,rfl,Ow.nil _ _ _,Below.refl _ _⟩
 | some a =>
   have O:=Lib.hid (Ow.made (K:=KV) w w.heap.size 128 (Nat.le_refl _));have BB:=Lib.hid ((Below.refl w.heap.size w).alloc (Nat.le_refl _) (.cells #[] 128));have RB:=Lib.hid (R0.out.below BB.out);have HL:=Lib.hid hl;have HA:Hid (∀ (v':Value) (w':World),Ow KV w' w.heap.size 128 v' ([] ++ l)→Ow KV w' w.heap.size 128 v' l):=fun v' w' h=>by rw [List.nil_append] at h;exact h
   clear h1 h2 R0 hl;have hnil:∀ n W,(binOp .eql 122 (.slice (some a) n cap) (.slice none 0 0)).run Tryz.prog W = .ok (.bool false) W:=fun n W=>Lib.run_eql_slice_some_nil W _ _ _ Tryz.underlying122
   go_enter Tryz.func104,Tryz.ntmps104
   go_wp2_with (at_builtin;refine Rw.all_step Tryz.underlying122 infoV rfl (by omega) rfl _ _ rfl w.heap.size _ _ rfl O.out _ _ rfl RB.out ?c1 ?c2 ?_)
   case c1=>have:=HL.out;simp;omega
   case c2=>simp
   intro v' w' o2 b2
   have E:Hid (ClonePost w l (.returned v') w'):=⟨v',rfl,HA.out _ _ o2,BB.out.trans b2⟩;obtain ⟨a',c',L',rfl⟩:∃ a c L,v' = .slice a L c:=by obtain ⟨a,c,e,_,_⟩:=o2.slice;exact ⟨a,c,_,e⟩
   clear o2 b2 HA RB O;go_wp2
   go_ret
   exact E.out
end Go.Proofs.YtljnkaodhfnbbaaGreatDoor.Nm
namespace Go.Proofs.YtljnkaodhfnbbaaGreatDoor.Nm
open Go.RowKit
open Rw (Rd Ow At)
open Fl (ret_bool at_bool row_cell)
attribute [local irreducible] Sd.wpSd wpQuiet Sz.wpSz
def asL (l:List S) (most:Int):List S:=(asg (l.length+1) l most).1
def asE (l:List S) (most:Int):Int:=(asg (l.length+1) l most).2
def AssignPost (w:World) (l:List S) (most:Int) (e:Ending) (w':World):Prop:=∃ u,e = .returned (.tuple #[u,.int .i64 (asE l most)])∧Ow KV w' w.heap.size 128 u (asL l most)∧Below w.heap.size w w'
theorem fr_le (l:List S) (most:Int):fr l most≤254:=by
 rcases Nat.eq_zero_or_pos (fr l most) with h | h
 ·omega
 ·have:=(frF_some (l:=l) (most:=most) (f:=254) (n:=1) (by omega) h).2.1
  change fr l most < 1+254 at this
  omega
theorem fr_pos {l:List S} {most:Int} : frB l most=true↔0 < fr l most:=by unfold frB;exact decide_eq_true_iff
structure As (w:World) (B:Nat) (l:List S) (most:Int) (v:Value) (f:Nat) (c:List S) (wr:World):Prop where
 own:Ow KV wr B 128 v c
 bel:Below B w wr
 len:c.length=l.length
 fit:Fit c
 cnt:cn c < f
 eq:asg (l.length+1) l most=asg f c most
section
variable {w wr w':World} {B:Nat} {l c:List S} {most:Int} {v:Value} {f:Nat}
theorem As.below (h:As w B l most v f c wr) (b:Below wr.heap.size wr w') (hB:B≤wr.heap.size):As w B l most v f c w':=⟨h.own.keep b,h.bel.trans (b.mono hB),h.len,h.fit,h.cnt,h.eq⟩
theorem As.start (h:Ow KV wr w.heap.size 128 v l) (b:Below w.heap.size w wr) (F:Fit l):As w w.heap.size l most v (l.length+1) l wr:=⟨h,b,rfl,F,Nat.lt_succ_of_le (cn_le l),rfl⟩
theorem As.done (h:As w w.heap.size l most v f c wr) (e:ls c < 0):AssignPost w l most (.returned (.tuple #[v,.int .i64 0])) wr:=by
 obtain ⟨f,rfl⟩:∃ g,f=g+1:=⟨f - 1,by have:=h.cnt;omega⟩;have e2:=h.eq;rw [asg_done e] at e2;refine ⟨v,by unfold asE;rw [e2],?_,h.bel⟩;unfold asL;rw [e2];exact h.own
theorem As.full (h:As w w.heap.size l most v f c wr) (e:¬ ls c < 0) (e0:fr c most=0):AssignPost w l most (.returned (.tuple #[v,.int .i64 11])) wr:=by
 obtain ⟨f,rfl⟩:∃ g,f=g+1:=⟨f - 1,by have:=h.cnt;omega⟩;have e2:=h.eq;rw [asg_full e e0] at e2;refine ⟨v,by unfold asE;rw [e2],?_,h.bel⟩;unfold asL;rw [e2];exact h.own
theorem As.next {g cap:Nat} {i:Nat} (h:As w B l most (.slice (some ⟨g,0,none⟩) c.length cap) f c wr) (hi:i < c.length) (e:ls c=i) (e0:0 < fr c most) (hB:B≤g) (h0:(sa c i).2=0):As w B l most (.slice (some ⟨g,0,none⟩) c.length cap) (f - 1) (c.set i ((sa c i).1,(fr c most:Int))) (wr.setCell ⟨g,i * 2+1,none⟩ (.int .i64 (fr c most)))∧f - 1 < f:=by
 have hf:=h.cnt;obtain ⟨f,rfl⟩:∃ g,f=g+1:=⟨f - 1,by omega⟩;have hc:=cn_set (x:=((sa c i).1,(fr c most:Int))) hi h0 (by simp;omega);have hle:=fr_le c most;have hl:(c.set i ((sa c i).1,(fr c most:Int))).length=c.length:=List.length_set;have ho:=Ow.set h.own i 1 hi (by decide) (.int .i64 (fr c most)) ((sa c i).1,(fr c most:Int)) rfl;refine ⟨⟨ho,h.bel.setCell hB _,hl.trans h.len,h.fit.set hi ⟨(h.fit i hi).1,?_,?_⟩,?_,?_⟩,by omega⟩
 ·show _≤(fr c most:Int);omega
 ·show (fr c most:Int) < _;omega
 ·show cn _ < f+1 - 1;omega
 ·rw [h.eq,asg_next e e0];rfl
end
set_option maxHeartbeats 2000000 in
theorem assign_any (w:World) (v:Value) (l:List S) (R:Rd KV w v l) (F:Fit l) (hl:l.length≤260) (most:Int):Calls Tryz.prog 48 #[v,.int .i64 most] w (AssignPost w l most):=by
 have CL:=Lib.hid (clone_any w v l R hl);have HL:=Lib.hid hl;have ST:Hid (∀ u wr,Ow KV wr w.heap.size 128 u l→Below w.heap.size w wr→As w w.heap.size l most u (l.length+1) l wr):=fun u wr h b=>As.start h b F;obtain ⟨a,cap,rfl,_⟩:=R.slice;clear R F hl
 go_enter Tryz.func48,Tryz.ntmps48
 go_wp2_with fail;refine CL.out.mono ?_;rintro e w1 ⟨u,rfl,o1,b1⟩;obtain ⟨a1,c1,rfl,_,hc1⟩:=o1.slice;have A1:=Lib.hid (ST.out _ _ o1 b1);have CN:=Lib.hid (nameless_any w1 _ l o1.rd);clear CL o1 b1 ST;generalize hn:l.length=n at *;have HN:=Lib.hid hn;clear hn;go_wp2_with fail;refine CN.out.mono ?_;rintro e w2 ⟨rfl,b2⟩;have A2:=Lib.hid (A1.out.below b2 A1.out.bel.size);clear A1 b2 CN;go_wp2
 go_loopg [7] (n+1) (fun gg z wr=>∃ c,z = .int .i64 (ls c)∧Hid (As w w.heap.size l most (.slice a1 n c1) gg c wr))
 case atStart=>exact ⟨l,rfl,A2⟩
 case round =>
  clear A2;obtain ⟨c,rfl,I⟩:=hrel;have CF:=Lib.hid (free_any wr _ c I.out.own.rd I.out.fit most);have HLc:=Lib.hid (I.out.len.trans HN.out)
  rcases ls_spec c with ⟨e,_⟩ | ⟨i,e,hi,h0,_⟩
  ·have E:=Lib.hid (I.out.done (by omega))
   rw [e];clear I CF e;go_wp2
   go_ret2
   exact E.out
  ·rw [e]
   have hin:i < n:=by have:=HLc.out;omega
   have HE:=Lib.hid e;have H0:=Lib.hid h0;have HI:=Lib.hid hi;clear e h0 hi
   by_cases hf:0 < fr c most
   ·have hb:frB c most=true:=fr_pos.2 hf
    have HF:=Lib.hid hf;have Q:Hid (FreePost wr c most=fun e w'=>e = .returned (.tuple #[.int .i64 (fr c most),.bool true])∧Below wr.heap.size wr w'):=Lib.hid (by unfold FreePost;rw [hb]);rw [Q.out] at CF;obtain ⟨g,cap',e,hg,hgl,_,_,hfz,hA⟩:=I.out.own.form (by have:=HI.out;omega);injection e with e1 e2 e3;subst e1 e3;clear hf hb Q e2;have HA:=Lib.hid hA;clear hA;have HG:=Lib.hid hg;have FRO:=Lib.hid hfz;clear hg hfz;go_wp2_with fail;refine CF.out.mono ?_;rintro e w3 ⟨rfl,b3⟩;have I3:=Lib.hid (I.out.below b3 I.out.bel.size);have fz:w3.frozen? ⟨g,i * 2+1,none⟩=false:=(b3.frozen (p:=⟨g,i * 2+1,none⟩) hgl).trans (FRO.out _);obtain ⟨d0,d1⟩:=atV (HA.out.below b3) (i:=i) HI.out;simp only [Nat.zero_add] at d0 d1;have NXT:=Lib.hid (As.next (by rw [HLc.out];exact I3.out) HI.out HE.out HF.out HG.out H0.out);rw [HLc.out] at NXT;clear I3 b3 CF I HA FRO;generalize fr c most=m at *;generalize hc':c.set i ((sa c i).1,(m:Int))=c' at *;clear hc';generalize sa c i=x at *;have A3:=Lib.hid NXT.out.1;have LT:=Lib.hid NXT.out.2;clear NXT;have CN:=Lib.hid (nameless_any _ _ _ A3.out.own.rd);have ZB:=Lib.hid A3.out.bel.size;go_wp2_with fail;generalize w3.setCell ⟨g,i * 2+1,none⟩ (.int .i64 (m:Int))=W at *;clear d0 d1 fz;refine CN.out.mono ?_;rintro e w4 ⟨rfl,b4⟩;have A4:=Lib.hid (A3.out.below b4 ZB.out);clear A3 b4 CN;go_wp2
    go_roundg (gk - 1)
    case rel=>exact ⟨c',rfl,A4⟩
    case measure=>exact LT.out
   ·have hb:frB c most=false:=by
     cases q:frB c most with
     | false=>rfl
     | true=>exact absurd (fr_pos.1 q) hf
    have h0:fr c most=0:=by omega
    have E:=Lib.hid (I.out.full (by rw [HE.out];omega) h0);have Q:Hid (FreePost wr c most=fun e w'=>e = .returned (.tuple #[.int .i64 0,.bool false])∧Below wr.heap.size wr w'):=Lib.hid (by unfold FreePost;rw [hb,h0];rfl);rw [Q.out] at CF;have FULL:Hid (∀ w',Below wr.heap.size wr w'→AssignPost w l most (.returned (.tuple #[.slice a1 n c1,.int .i64 11])) w'):=Lib.hid (fun w' b=>(I.out.below b I.out.bel.size).full (by rw [HE.out];omega) h0);clear hb Q h0 hf E I;go_wp2_with fail;refine CF.out.mono ?_;rintro e w3 ⟨rfl,b3⟩;have E:=Lib.hid (FULL.out _ b3);clear b3 FULL CF;go_wp2
    go_ret2
    exact E.out
end Go.Proofs.YtljnkaodhfnbbaaGreatDoor.Nm
namespace Go.Proofs.YtljnkaodhfnbbaaGreatDoor.Bp
open Go.RowKit
open Rw (Rd Ow At)
open Fl (ret_bool at_bool)
open Nm (S zS sa sa_get sa_set mem_sa Gd KV atV Fit infoV ls ls_spec cn cn_le fr frB fr_pos fr_le lsP FreePost)
def RunPost (w:World) (l:List S) (most:Int) (L:List Bool) (e:Ending) (w':World):Prop:=∃ u,e = .returned (.tuple #[u,.int .i64 (rnN l most L),.int .i64 (rnE l most L)])∧Ow KV w' w.heap.size 128 u (rnL l most L)∧Below w.heap.size w w'
structure Rs (w:World) (B:Nat) (l:List S) (most:Int) (L:List Bool) (v:Value) (f r:Nat) (c:List S) (wr:World):Prop where
 own:Ow KV wr B 128 v c
 bel:Below B w wr
 len:c.length=l.length
 fit:Fit c
 mu:mu L c r < f
 cnt:cn c≤cn l
 top:r+67 * cn c≤L.length+66+67 * cn l
 eq:rn most L (L.length+l.length+1) l 0=rn most L f c r
section
variable {w wr w':World} {B:Nat} {l c:List S} {most:Int} {L:List Bool} {v:Value} {f r:Nat}
theorem Rs.below (h:Rs w B l most L v f r c wr) (b:Below wr.heap.size wr w') (hB:B≤wr.heap.size):Rs w B l most L v f r c w':=⟨h.own.keep b,h.bel.trans (b.mono hB),h.len,h.fit,h.mu,h.cnt,h.top,h.eq⟩
theorem Rs.start (h:Ow KV wr w.heap.size 128 v l) (b:Below w.heap.size w wr) (F:Fit l):Rs w w.heap.size l most L v (L.length+l.length+1) 0 l wr:=⟨h,b,rfl,F,by unfold Bp.mu;have:=cn_le l;omega,Nat.le_refl _,by omega,rfl⟩
theorem Rs.suc (h:Rs w B l most L v f r c wr):∃ g,f=g+1:=⟨f - 1,by have:=h.mu;omega⟩
theorem Rs.full (h:Rs w w.heap.size l most L v f r c wr) (e:0≤ls c∧fr c most=0):RunPost w l most L (.returned (.tuple #[v,.int .i64 r,.int .i64 11])) wr:=by
 obtain ⟨f,rfl⟩:=h.suc;have e2:=h.eq;rw [rn_full e] at e2;refine ⟨v,by unfold rnN rnE;rw [e2],?_,h.bel⟩;unfold rnL;rw [e2];exact h.own
theorem Rs.done (h:Rs w w.heap.size l most L v f r c wr) (e:¬ (0≤ls c∧fr c most=0)) (e0:sB c L r=false∧sN c L r=1∧gon L r=false):RunPost w l most L (.returned (.tuple #[v,.int .i64 ((r+1:Nat):Int),.int .i64 0])) wr:=by
 obtain ⟨f,rfl⟩:=h.suc;have e2:=h.eq;rw [rn_done e e0] at e2;refine ⟨v,by unfold rnN rnE;rw [e2],?_,h.bel⟩;unfold rnL;rw [e2];exact h.own
theorem Rs.again (h:Rs w B l most L v f r c wr) (e:¬ (0≤ls c∧fr c most=0)) (e0:¬ (sB c L r=false∧sN c L r=1∧gon L r=false)) (e1:sB c L r=false):Rs w B l most L v (f - 1) (r+sN c L r) c wr∧f - 1 < f:=by
 obtain ⟨f,rfl⟩:=h.suc;obtain ⟨m1,m2⟩:=again_mu (fit_low h.fit) e0 e1;have h1:=h.mu;have h2:=h.top;have h3:=h.cnt;refine ⟨⟨h.own,h.bel,h.len,h.fit,by show _ < f;omega,h3,by rcases s_many c L r with g | g <;> omega,?_⟩,by omega⟩;rw [h.eq,rn_again e e0 e1]
 rfl
theorem Rs.named (h:Rs w B l most L v f r c wr) (e:¬ (0≤ls c∧fr c most=0)) (e1:sB c L r=true) (own:Ow KV w' B 128 v (nm (sP c L r) (fr c most) c)) (bel:Below B w w'):Rs w B l most L v (f - 1) (r+67) (nm (sP c L r) (fr c most) c) w'∧f - 1 < f:=by
 obtain ⟨f,rfl⟩:=h.suc;obtain ⟨m1,m2⟩:=named_mu (fit_low h.fit) e e1;have h1:=h.mu;have h2:=h.top;have h3:=h.cnt;refine ⟨⟨own,bel,(nm_len _ _ _).trans h.len,fun i hi=>?_,by show _ < f;omega,by omega,by omega,?_⟩,by omega⟩
 ·rw [nm_len] at hi
  rw [nm_sa hi];have:=h.fit i hi;have:=fr_le c most;unfold nmd
  split
  ·simp only
   omega
  ·exact h.fit i hi
 ·rw [h.eq,rn_named e e1]
  rfl
theorem Rs.room (h:Rs w B l most L v f r c wr) (hl:l.length≤260) (hL:L.length≤1000):r≤100000:=by
 have:=h.top;have:=cn_le l
 omega
end
end Go.Proofs.YtljnkaodhfnbbaaGreatDoor.Bp
namespace Go.Proofs.YtljnkaodhfnbbaaGreatDoor.Bp
open Go.RowKit
open Rw (Rd Ow At)
open Fl (ret_bool at_bool row_cell)
open Nm (S zS sa sa_get sa_set mem_sa Gd KV atV Fit ret_i64)
def ix (q:S→Bool) (l:List S):Int:=if l.any q=true then (l.findIdx q:Int) else -1
theorem get_sa {l:List S} {i:Nat} (h:i < l.length):l[i]=sa l i:=by
 have:=sa_get h;rw [List.getElem?_eq_getElem h] at this;exact Option.some.inj this
theorem ix_hit {q:S→Bool} {l:List S} {i:Nat} (hi:i < l.length) (h:q (sa l i)=true) (hm:∀ j,j < i→q (sa l j)=false):ix q l=i:=by
 have ha:l.any q=true:=List.any_eq_true.2 ⟨_,mem_sa.2 ⟨i,hi,rfl⟩,h⟩;unfold ix;rw [if_pos ha,(List.findIdx_eq hi).2 ⟨by rw [get_sa];exact h,fun j hj=>by rw [get_sa];exact hm j hj⟩]
theorem ix_miss {q:S→Bool} {l:List S} (hm:∀ j,j < l.length→q (sa l j)=false):ix q l = -1:=by
 have ha:¬ l.any q=true:=fun h=>by
  obtain ⟨x,hx,h⟩:=List.any_eq_true.1 h;obtain ⟨i,hi,rfl⟩:=mem_sa.1 hx;rw [hm i hi] at h
  cases h
 unfold ix;rw [if_neg ha]
theorem ix_any (q:S→Bool) (l:List S):decide (0≤ix q l)=l.any q:=by
 unfold ix
 cases h:l.any q with
 | true=>simp
 | false=>simp
theorem ix_at {q:S→Bool} {l:List S} (h:l.any q=true):∃ i:Nat,ix q l=i∧i < l.length∧q (sa l i)=true:=by
 obtain ⟨x,hx,hq⟩:=List.any_eq_true.1 h;have hlt:l.findIdx q < l.length:=List.findIdx_lt_length_of_exists ⟨x,hx,hq⟩;refine ⟨l.findIdx q,by unfold ix;rw [if_pos h],hlt,?_⟩;rw [← get_sa hlt];exact List.findIdx_getElem
def qa (c:Int) (x:S):Bool:=decide (x.2=0∧x.1≤c)
def qh (p:Int) (x:S):Bool:=decide (x.2=0∧x.1=p)
theorem any_qa (l:List S) (c:Int):decide (0≤ix (qa c) l)=ans l c:=ix_any _ _
theorem any_qh (l:List S) (p:Int):decide (0≤ix (qh p) l)=hd l p:=ix_any _ _
def PredS (g:Nat) (lb:Array Value) (p:S→Bool) (w:World):Prop :=
 ∀ (W:World) (a b:Int),Below w.heap.size w W→Calls Tryz.prog g (#[.agg #[.int .u64 a,.int .i64 b]] ++ lb) W fun e w'=>e = .returned (.bool (p (a,b)))∧Below w.heap.size w w'
set_option maxHeartbeats 1000000 in
theorem index_any (w:World) (v:Value) (l:List S) (g:Nat) (lb:Array Value) (p:S→Bool) (eg:∀ args w,(callFunc g args).run Tryz.prog w = .ok (.enter g args) w) (R:Rd KV w v l) (hp:PredS g lb p w) :
 Calls Tryz.prog 196 #[v,.func (.func g) #[] lb] w fun e w'=>e = .returned (.int .i64 (ix p l))∧Below w.heap.size w w':=by
 obtain ⟨a,cap,rfl,_,hm,hA⟩:=R;have HA:=Lib.hid hA;have HP:=Lib.hid hp;have HH:Hid (∀ i,i < l.length→p ((sa l i).1,(sa l i).2)=true→(∀ j,j < i→p ((sa l j).1,(sa l j).2)=false)→ix p l=i):=fun i=>ix_hit;have HM:Hid ((∀ j,j < l.length→p ((sa l j).1,(sa l j).2)=false)→ix p l = -1):=ix_miss;clear hA hp;generalize hr:ix p l=r at *;clear hr;generalize hn:l.length=n at *;have HN:=Lib.hid hn;clear hn;unfold maxLen at hm
 go_enter Tryz.func196,Tryz.ntmps196
 go_wp2
 go_loopw [8] (fun i wr=>∃ k:Nat,k≤n∧i = .int .i64 k∧Hid (∀ j,j < k→p ((sa l j).1,(sa l j).2)=false)∧Hid (Below w.heap.size w wr)) (fun i _=>n - (intOf i).toNat)
 case atStart=>exact ⟨0,Nat.zero_le _,rfl,fun j hj=>by omega,Below.refl _ _⟩
 case round =>
  obtain ⟨k,hk,rfl,hs,hb⟩:=hrel
  by_cases hlt:k < n
  ·obtain ⟨b,off,rfl,hA⟩:=HA.out (by omega)
   obtain ⟨d1,d2⟩:=atV (hA.below hb.out) (i:=k) (by have:=HN.out;omega);have HAA:=Lib.hid hA;clear hA;have hc:=HP.out wr (sa l k).1 (sa l k).2 hb.out
   cases hq:p ((sa l k).1,(sa l k).2) with
   | true =>
     rw [hq] at hc;have C:=Lib.hid hc;have HR:=Lib.hid (HH.out k hlt hq hs.out);clear hc hq HH HM HP;generalize sa l k=x at *;go_wp2_with fail;refine C.out.mono ?_;rintro e w1 ⟨rfl,b1⟩;go_wp2
     go_ret
     exact ⟨ret_i64 HR.out.symm,b1⟩
   | false =>
     rw [hq] at hc;have C:=Lib.hid hc;have ST:Hid (∀ j,j < k+1→p ((sa l j).1,(sa l j).2)=false):=fun j hj=>by
      by_cases e:j=k
      ·rw [e];exact hq
      ·exact hs.out j (by omega)
     clear hc hq HH HM HP hs;generalize sa l k=x at *;go_wp2_with fail;refine C.out.mono ?_;rintro e w1 ⟨rfl,b1⟩;have B1:=Lib.hid b1;clear b1;go_wp2
     go_roundw
     case rel=>exact ⟨k+1,by omega,by go_num,ST,B1⟩
     case measure=>simp [intOf];omega
  ·obtain rfl:k=n:=by omega
   have HR:=Lib.hid (HM.out hs.out);go_wp2
   go_ret
   exact ⟨ret_i64 HR.out.symm,hb.out⟩
theorem contains_any (w:World) (v:Value) (l:List S) (g:Nat) (lb:Array Value) (p:S→Bool) (eg:∀ args w,(callFunc g args).run Tryz.prog w = .ok (.enter g args) w) (R:Rd KV w v l) (hp:PredS g lb p w) :
 Calls Tryz.prog 227 #[v,.func (.func g) #[] lb] w fun e w'=>e = .returned (.bool (decide (0≤ix p l)))∧Below w.heap.size w w':=by
 have C:=Lib.hid (index_any w v l g lb p eg R hp);clear eg R hp;generalize ix p l=r at *
 go_enter Tryz.func227,Tryz.ntmps227
 go_wp2_with fail;refine C.out.mono ?_;rintro e w1 ⟨rfl,b1⟩;go_wp2
 go_ret
 exact ⟨rfl,b1⟩
theorem aclos_any (w:World) (B:Nat) (c:Int) (hc:w.cell? ⟨B,0,none⟩=some (.int .u64 c)):PredS 228 #[.pointer (some ⟨B,0,none⟩)] (qa c) w:=fun W a b hb=>by
 have hlt:=World.block_lt_of_cell? _ _ hc;have d:=(hb.cell hlt).trans hc;have hz:=hb.size;have hBW:B < W.heap.size:=Nat.lt_of_lt_of_le hlt hz;clear hc hlt
 show Calls Tryz.prog 228 #[.agg #[.int .u64 a,.int .i64 b],.pointer (some ⟨B,0,none⟩)] W _
 have HB:=Lib.hid (hb.alloc hz (.cells #[.int .u64 a,.int .i64 b] 128));clear hb
 by_cases h1:b=0
 ·have q1:(b == 0)=true:=beq_iff_eq.2 h1
  have q1':decide (b=0)=true:=decide_eq_true h1
  by_cases h2:a≤c
  ·have E:Hid (qa c (a,b)=true):=Lib.hid (by simp [qa,h1,h2])
   rw [E.out];clear E h1
   go_enter Tryz.func228,Tryz.ntmps228
   go_wp2
   go_ret
   exact ⟨rfl,HB.out⟩
  ·have E:Hid (qa c (a,b)=false):=Lib.hid (by simp [qa,h2])
   rw [E.out];clear E h1
   go_enter Tryz.func228,Tryz.ntmps228
   go_wp2
   go_ret
   exact ⟨rfl,HB.out⟩
 ·have q1:(b == 0)=false:=beq_eq_false_iff_ne.2 h1
  have q1':decide (b=0)=false:=decide_eq_false h1;have E:Hid (qa c (a,b)=false):=Lib.hid (by simp [qa,h1]);rw [E.out];clear E
  go_enter Tryz.func228,Tryz.ntmps228
  go_wp2
  go_ret
  exact ⟨rfl,HB.out⟩
theorem nclos_any (w:World) (B:Nat) (c:Int) (hc:w.cell? ⟨B,0,none⟩=some (.int .u64 c)):PredS 197 #[.pointer (some ⟨B,0,none⟩)] (qh c) w:=fun W a b hb=>by
 have hlt:=World.block_lt_of_cell? _ _ hc;have d:=(hb.cell hlt).trans hc;have hz:=hb.size;have hBW:B < W.heap.size:=Nat.lt_of_lt_of_le hlt hz;clear hc hlt
 show Calls Tryz.prog 197 #[.agg #[.int .u64 a,.int .i64 b],.pointer (some ⟨B,0,none⟩)] W _
 have HB:=Lib.hid (hb.alloc hz (.cells #[.int .u64 a,.int .i64 b] 128));clear hb
 by_cases h1:b=0
 ·have q1:(b == 0)=true:=beq_iff_eq.2 h1
  have q1':decide (b=0)=true:=decide_eq_true h1
  by_cases h2:a=c
  ·have E:Hid (qh c (a,b)=true):=Lib.hid (by simp [qh,h1,h2])
   have q2:(a == c)=true:=beq_iff_eq.2 h2;have q2':decide (a=c)=true:=decide_eq_true h2;rw [E.out];clear E h1 h2
   go_enter Tryz.func197,Tryz.ntmps197
   go_wp2
   go_ret
   exact ⟨rfl,HB.out⟩
  ·have E:Hid (qh c (a,b)=false):=Lib.hid (by simp [qh,h2])
   have q2:(a == c)=false:=beq_eq_false_iff_ne.2 h2;have q2':decide (a=c)=false:=decide_eq_false h2;rw [E.out];clear E h1
   go_enter Tryz.func197,Tryz.ntmps197
   go_wp2
   go_ret
   exact ⟨rfl,HB.out⟩
 ·have q1:(b == 0)=false:=beq_eq_false_iff_ne.2 h1
  have q1':decide (b=0)=false:=decide_eq_false h1;have E:Hid (qh c (a,b)=false):=Lib.hid (by simp [qh,h1]);rw [E.out];clear E
  go_enter Tryz.func197,Tryz.ntmps197
  go_wp2
  go_ret
  exact ⟨rfl,HB.out⟩
theorem answers_any (w:World) (v:Value) (l:List S) (R:Rd KV w v l) (c:Int):Calls Tryz.prog 195 #[v,.int .u64 c] w fun e w'=>e = .returned (.bool (ans l c))∧Below w.heap.size w w':=by
 have eg:∀ args w,(callFunc 228 args).run Tryz.prog w = .ok (.enter 228 args) w:=enters_of Tryz.func228 (by kernel_rfl) rfl;have hb:Below w.heap.size w (w.alloc (.cells #[.int .u64 c] 126)):=(Below.refl _ _).alloc (Nat.le_refl _) _;have c0:=contains_any (w.alloc (.cells #[.int .u64 c] 126)) v l 228 #[.pointer (some ⟨w.heap.size,0,none⟩)] (qa c) eg (R.below hb) (aclos_any _ _ _ (by go_simp));rw [any_qa] at c0;have C:=Lib.hid c0;have HB:=Lib.hid hb;obtain ⟨a,cap,rfl,_⟩:=R.slice;clear c0 hb R eg;have hmf:∀ (fn:Fn) (first cap:Array Value) (w:World),(Instr.makeFunc fn first cap).run Tryz.prog w = .ok (.func fn first cap) w:=fun _ _ _ _=>rfl;generalize ans l c=r at *
 go_enter Tryz.func195,Tryz.ntmps195
 go_wp2_with fail;refine C.out.mono ?_;rintro e w1 ⟨rfl,b1⟩;go_wp2
 go_ret
 exact ⟨rfl,HB.out.trans (b1.mono (by simp))⟩
theorem nameless_any (w:World) (v:Value) (l:List S) (R:Rd KV w v l) (c:Int):Calls Tryz.prog 156 #[v,.int .u64 c] w fun e w'=>e = .returned (.int .i64 (ix (qh c) l))∧Below w.heap.size w w':=by
 have eg:∀ args w,(callFunc 197 args).run Tryz.prog w = .ok (.enter 197 args) w:=enters_of Tryz.func197 (by kernel_rfl) rfl;have hb:Below w.heap.size w (w.alloc (.cells #[.int .u64 c] 126)):=(Below.refl _ _).alloc (Nat.le_refl _) _;have c0:=index_any (w.alloc (.cells #[.int .u64 c] 126)) v l 197 #[.pointer (some ⟨w.heap.size,0,none⟩)] (qh c) eg (R.below hb) (nclos_any _ _ _ (by go_simp));have C:=Lib.hid c0;have HB:=Lib.hid hb;obtain ⟨a,cap,rfl,_⟩:=R.slice;clear c0 hb R eg;have hmf:∀ (fn:Fn) (first cap:Array Value) (w:World),(Instr.makeFunc fn first cap).run Tryz.prog w = .ok (.func fn first cap) w:=fun _ _ _ _=>rfl;generalize ix (qh c) l=r at *
 go_enter Tryz.func156,Tryz.ntmps156
 go_wp2_with fail;refine C.out.mono ?_;rintro e w1 ⟨rfl,b1⟩;go_wp2
 go_ret
 exact ⟨rfl,HB.out.trans (b1.mono (by simp))⟩
theorem missed_any (w:World) (v:Value) (L:List Bool) (R:Rd KG w v L) (i:Nat):Calls Tryz.prog 157 #[v,.int .i64 i] w fun e w'=>e = .returned (.bool (gon L i))∧w'=w:=by
 obtain ⟨a,cap,rfl,_,hm,hA⟩:=R;have HA:=Lib.hid hA;unfold maxLen at hm;have OFF:Hid (L.length≤i→false=gon L i):=fun h=>(gon_off h).symm;clear hA;generalize hn:L.length=n at *;have HN:=Lib.hid hn;clear hn
 by_cases h:i < n
 ·obtain ⟨b,off,rfl,A⟩:=HA.out (by omega)
  have c0:=atG A (i:=i) (by rw [HN.out];exact h);have HAA:=Lib.hid A;clear A OFF;generalize gon L i=g at *
  go_enter Tryz.func157,Tryz.ntmps157
  go_wp2
  go_ret
  exact ⟨ret_bool (by simp),rfl⟩
 ·have E:=Lib.hid (OFF.out (by omega))
  clear OFF HA
  go_enter Tryz.func157,Tryz.ntmps157
  go_wp2
  go_ret
  exact ⟨ret_bool E.out,rfl⟩
def BehPost (w:World) (L:List Bool) (r:Nat) (e:Ending) (w':World):Prop:=∃ u,e = .returned u∧Rd KG w' u (L.drop r)∧Below w.heap.size w w'
theorem rd_drop {α:Type} {K:Rw.Kind α} {w:World} {l:List α} {a:Option Addr} {cap n m k:Nat} (h:Rd K w (.slice a n cap) l) (hn:l.length=n) (hm:m≤n) (e:K.n=1) (c':Nat) (a':Option Addr) (hc:c'=cap - m) (hk:k=n - m) (ha:a'=none→c'=0) (ha2:m < n→a'=a.map (·.add m)):Rd K w (.slice a' k c') (l.drop m):=by
 obtain ⟨a,cap1,e1,⟨h1,_⟩,h3,h4⟩:=h;injection e1 with e1 e2 e3;subst e1 e3 hk;refine ⟨a',c',by rw [List.length_drop,hn],⟨by rw [List.length_drop];omega,ha⟩,by omega,fun hp=>?_⟩;rw [List.length_drop] at hp;obtain ⟨b,off,rfl,hA⟩:=h4 (by omega);refine ⟨b,off+m,by rw [ha2 (by omega)];simp [Addr.add_lit],fun i hi j u hu=>?_⟩;rw [List.length_drop] at hi;have q:=hA (m+i) (by omega) j u (by rw [← hu,List.getD,List.getD,List.getElem?_drop]);rw [e,Nat.mul_one] at q;rw [e,Nat.mul_one,Nat.add_assoc off m i];exact q
set_option maxHeartbeats 1000000 in
theorem behind_any (w:World) (v:Value) (L:List Bool) (R:Rd KG w v L) (r:Nat):Calls Tryz.prog 108 #[v,.int .i64 r] w (BehPost w L r):=by
 have RR:=Lib.hid R;obtain ⟨a,cap,rfl,⟨hlc,hno⟩,hm,hA⟩:=R;unfold maxLen at hm
 have FIN:Hid (∀ (m k c':Nat) (a':Option Addr),m≤L.length→L.drop m=L.drop r→k=L.length - m→c'=cap - m→(a'=a∧cap=m∨a'=a.map (·.add m))→BehPost w L r (.returned (.slice a' k c')) w):=Lib.hid (fun m k c' a' h1 h2 h3 h4 h5=>⟨_,rfl,by
  rw [← h2];refine rd_drop RR.out rfl h1 rfl c' a' h4 h3 (fun e=>?_) (fun e=>?_)
  ·subst e
   cases a with
   | none=>have:=hno rfl;omega
   | some x=>rcases h5 with h5 | h5 <;> simp at h5
  ·rcases h5 with h5 | h5
   ·omega
   ·exact h5,Below.refl _ _⟩)
 have D:Hid (L.length < r→L.drop L.length=L.drop r):=Lib.hid (fun h=>by rw [List.drop_eq_nil_of_le (by omega),List.drop_eq_nil_of_le (by omega)]);clear hA hno RR;generalize hn:L.length=n at *;have HN:=Lib.hid hn;clear hn
 by_cases h:n < r
 ·have F:=Lib.hid (fun k c' a'=>FIN.out n k c' a' (Nat.le_refl _) (D.out h))
  clear FIN D
  by_cases hc:cap=n
  ·subst hc
   have E:=Lib.hid (F.out 0 0 a (by omega) (by omega) (.inl ⟨rfl,rfl⟩));clear F
   go_enter Tryz.func108,Tryz.ntmps108
   go_wp2
   go_ret
   exact E.out
  ·have E:=Lib.hid (F.out 0 (cap - n) _ (by omega) rfl (.inr rfl))
   clear F
   go_enter Tryz.func108,Tryz.ntmps108
   go_wp2
   go_ret
   exact E.out
 ·have F:=Lib.hid (fun k c' a'=>FIN.out r k c' a' (by omega) rfl)
  clear FIN D
  by_cases hc:cap=r
  ·subst hc
   have E:=Lib.hid (F.out 0 0 a (by omega) (by omega) (.inl ⟨rfl,rfl⟩));clear F
   go_enter Tryz.func108,Tryz.ntmps108
   go_wp2
   go_ret
   exact E.out
  ·have E:=Lib.hid (F.out (n - r) (cap - r) _ rfl rfl (.inr rfl))
   clear F
   go_enter Tryz.func108,Tryz.ntmps108
   go_wp2
   go_ret
   exact E.out
end Go.Proofs.YtljnkaodhfnbbaaGreatDoor.Bp
namespace Go.Proofs.YtljnkaodhfnbbaaGreatDoor.Bp
open Go.RowKit
open Rw (Rd Ow At)
open Fl (ret_bool at_bool row_cell)
open Nm (S zS sa sa_get sa_set mem_sa Gd KV atV Fit ret_i64)
def Ear (W:World) (g:Nat) (u:Value) (r:Nat):Prop:=W.heap[g]? = some (.cells #[u,.int .i64 r] 308 (0,0))
theorem Ear.below {W W':World} {g r:Nat} {u:Value} (h:Ear W g u r) (b:Below W.heap.size W W'):Ear W' g u r:=(b.block g (lt_of_block h)).trans h
theorem Ear.next {W:World} {g r:Nat} {u:Value} (h:Ear W g u r):Ear (W.setCell ⟨g,1,none⟩ (.int .i64 ((r:Int)+1))) g u (r+1):=by
 have:=Rw.heap_setCell_same (j:=1) h (.int .i64 ((r:Int)+1));refine this.trans ?_
 simp
theorem Ear.cells {W:World} {g r:Nat} {u:Value} (h:Ear W g u r):W.cell? ⟨g,0,none⟩=some u∧W.cell? ⟨g,1,none⟩=some (.int .i64 r)∧W.frozen? ⟨g,1,none⟩=false:=⟨row_cell h 0,row_cell h 1,by unfold Ear at h;simp [World.frozen?,h]⟩
def HearPost (w:World) (B g:Nat) (u:Value) (r:Nat) (q:Bool) (e:Ending) (w':World):Prop:=e = .returned (.bool q)∧Ear w' g u (r+1)∧Below B w w'
set_option maxHeartbeats 1000000 in
theorem hears_any (w:World) (B g:Nat) (hB:B≤g) (u:Value) (L:List Bool) (r:Nat) (E:Ear w g u r) (G:Rd KG w u L) (hr:r≤1000000) (q:Bool):Calls Tryz.prog 194 #[.pointer (some ⟨g,0,none⟩),.bool q] w (HearPost w B g u r (q && !gon L r)):=by
 have C:Hid (∀ n,Calls Tryz.prog 157 #[u,.int .i64 r] (w.drewN n) fun e w''=>e = .returned (.bool (gon L r))∧∃ m,w''=w.drewN m):=Lib.hid (fun n=>(missed_any (w.drewN n) u L (G.below (below_drewN (Below.refl _ _) n)) r).mono (by rintro e w' ⟨rfl,rfl⟩;exact ⟨rfl,n,rfl⟩));obtain ⟨a,cap,rfl,_⟩:=G.slice;clear G;generalize L.length=n at *;generalize gon L r=y at *;have EE:=Lib.hid E;obtain ⟨c0,c1,fz⟩:=E.cells;clear E;have wr:IntKind.i64.wrap ((r:Int)+1)=(r:Int)+1:=IntWalk.i64_in _ (by omega)
 go_enter Tryz.func194,Tryz.ntmps194
 go_wp2
 go_quiet ((go_at_call 157;exact C.out _))
 generalize hW:w.drewN _=W at *;have EW:Hid (Ear W g (.slice a n cap) r):=Lib.hid (by rw [← hW];exact EE.out);have BW:Hid (Below B w W):=Lib.hid (by rw [← hW];exact below_drewN (Below.refl _ _) _);clear hW c0 c1 fz C EE;obtain ⟨c0,c1,fz⟩:=EW.out.cells;have FIN:Hid (∀ z,z=(q && !y)→HearPost w B g (.slice a n cap) r (q && !y) (.returned (.bool z)) (W.setCell ⟨g,1,none⟩ (.int .i64 ((r:Int)+1)))):=Lib.hid (fun z h=>⟨by rw [h],EW.out.next,BW.out.setCell hB _⟩);clear EW BW
 cases q with
 | false =>
   go_wp2
   go_ret
   exact FIN.out _ rfl
 | true =>
   cases y with
   | false =>
     go_wp2
     go_ret
     exact FIN.out _ rfl
   | true =>
     go_wp2
     go_ret
     exact FIN.out _ rfl
theorem sK_wide (l:List S) (L:List Bool) (r:Nat):∀ k,k≤64→(sK l L r k).2 - (sK l L r k).1=(2:Int) ^ (64 - k) - 1
 | 0,_=>(by decide:top - 0=(2:Int) ^ 64 - 1)
 | k+1,hk=>by
   have h:=sK_wide l L r k (by omega);have hI:=sK_in l L r k;have hp:(2:Int) ^ (64 - k)=2 * (2:Int) ^ (64 - (k+1)):=by
    rw [show 64 - k=(64 - (k+1))+1 by omega,Int.pow_succ]
    omega
   have h1:0 < (2:Int) ^ (64 - (k+1)):=Int.pow_pos (by decide)
   show (nxt l (gon L (r+(k+1))) (sK l L r k)).2 - (nxt l (gon L (r+(k+1))) (sK l L r k)).1=_
   rw [hp] at h;generalize (2:Int) ^ (64 - (k+1))=P at *;generalize sK l L r k=s at *;generalize gon L (r+(k+1))=g at *;have hm:mid s.1 s.2=(s.1+s.2) / 2:=rfl;have ht:=hI.ht;unfold nxt
   split
   ·show mid s.1 s.2 - s.1=P - 1
    omega
   ·rw [if_neg (by omega)]
    show s.2 - (mid s.1 s.2+1)=P - 1
    omega
set_option maxHeartbeats 1600000 in
theorem search_any (w:World) (v u:Value) (l:List S) (L:List Bool) (R:Rd KV w v l) (G:Rd KG w u L):Calls Tryz.prog 155 #[v,u] w (SearchPost w l L 0):=by
 have RR:=Lib.hid R;have GG:=Lib.hid G;have OFF:Hid (∀ w',off l L 0=true→Below w.heap.size w w'→SearchPost w l L 0 (.returned (.tuple #[.int .u64 0,.int .i64 1,.bool false])) w'):=fun w' h b=>by
  obtain ⟨e1,e2,e3⟩:=s_off h;exact ⟨by rw [e1,e2,e3];rfl,b⟩
 have YES:Hid (∀ w' z,off l L 0=false→(sK l L 0 64).2=z→(hd l z && !gon L 65)=true→Below w.heap.size w w'→SearchPost w l L 0 (.returned (.tuple #[.int .u64 z,.int .i64 66,.bool true])) w'):=fun w' z h hz h1 b=>by
  obtain ⟨e1,e2,e3⟩:=s_yes h (by unfold fd;rw [hz,Nat.zero_add];exact h1);exact ⟨by rw [e1,e2,e3,hz];rfl,b⟩
 have NO:Hid (∀ w' z,off l L 0=false→(sK l L 0 64).2=z→(hd l z && !gon L 65)=false→Below w.heap.size w w'→SearchPost w l L 0 (.returned (.tuple #[.int .u64 0,.int .i64 66,.bool false])) w'):=fun w' z h hz h1 b=>by
  obtain ⟨e1,e2,e3⟩:=s_no h (by unfold fd;rw [hz,Nat.zero_add];exact h1);exact ⟨by rw [e1,e2,e3];rfl,b⟩
 have OF:Hid (off l L 0 = !(ans l 18446744073709551615 && !gon L 0)):=Lib.hid (by show (!ans l 18446744073709551615 || gon L 0)=_;cases ans l 18446744073709551615 <;> cases gon L 0 <;> rfl);have AN:=Lib.hid (fun W (b:Below w.heap.size w W) c=>answers_any W v l (R.below b) c);have NA:=Lib.hid (fun W (b:Below w.heap.size w W) c=>nameless_any W v l (R.below b) c);have HR:=Lib.hid (fun W (b:Below w.heap.size w W) r (E:Ear W w.heap.size u r) hr q=>hears_any W w.heap.size w.heap.size (Nat.le_refl _) u L r E (G.below b) hr q);have SI:=Lib.hid (sK_in l L 0);have SW:=Lib.hid (sK_wide l L 0);have SN:Hid (∀ k,sK l L 0 (k+1)=nxt l (gon L (k+1)) (sK l L 0 k)):=fun k=>by
  show nxt l (gon L (0+(k+1))) _=_
  rw [Nat.zero_add]
 have S0:Hid (sK l L 0 0=(0,18446744073709551615)):=rfl;have BB:=Lib.hid ((Below.refl w.heap.size w).alloc (Nat.le_refl _) (.cells #[u,.int .i64 0] 308));have E0:Hid (Ear (w.alloc (.cells #[u,.int .i64 0] 308)) w.heap.size u 0):=Lib.hid (heap_alloc_new w (.cells #[u,.int .i64 0] 308));obtain ⟨a,cap,rfl,_⟩:=R.slice;obtain ⟨a',cap',rfl,_⟩:=G.slice;clear R G;generalize l.length=n at *;generalize L.length=n' at *
 go_enter Tryz.func155,Tryz.ntmps155
 go_upto_region 2 with fail;generalize w.alloc (.cells #[.slice a' n' cap',.int .i64 0] 308)=w0 at *;have CA:=Lib.hid (AN.out w0 BB.out 18446744073709551615);generalize ans l 18446744073709551615=z0 at *;go_wp2_with fail;refine CA.out.mono ?_;rintro e w1 ⟨rfl,b1⟩;have E1:=Lib.hid (E0.out.below b1);have B1:=Lib.hid (BB.out.trans (b1.mono BB.out.size));have C1:=Lib.hid (HR.out w1 B1.out 0 E1.out (by omega) z0);clear b1 CA E0 BB;generalize gon L 0=g0 at *;generalize (z0 && !g0)=q at *;go_wp2_with fail;refine C1.out.mono ?_;rintro e w2 ⟨rfl,e2,b2⟩;have E2:=Lib.hid e2;have B2:=Lib.hid (B1.out.trans b2);clear e2 b2 C1 E1 B1
 cases q with
 | false =>
   have E:=Lib.hid (fun w'=>OFF.out w' OF.out);obtain ⟨c0,c1,_⟩:=E2.out.cells;clear OFF YES NO OF AN NA HR SI SW SN S0 E2;go_wp2
   go_quiet (fail)
   go_wp2
   go_ret3
   exact E.out _ (below_drewN B2.out _)
 | true =>
   clear OFF;go_wp2
   go_loopw [8,9,19] (fun lo hi i wr=>∃ (k:Nat) (s:Int×Int),k≤64∧i = .int .i64 k∧lo = .int .u64 s.1∧hi = .int .u64 s.2∧Hid (sK l L 0 k=s)∧Hid (Below w.heap.size w wr)∧Hid (Ear wr w.heap.size (.slice a' n' cap') (k+1))) (fun _ _ i _=>64 - (intOf i).toNat)
   case atStart=>exact ⟨0,(0,18446744073709551615),by omega,rfl,rfl,rfl,S0,B2,E2⟩
   case round =>
    clear B2 S0 E2;obtain ⟨k,s,hk,rfl,rfl,rfl,hs,bw,ew⟩:=hrel;have SIk:=SI.out k;rw [hs.out] at SIk
    by_cases hlt:k < 64
    ·have SNk:=Lib.hid (SN.out k)
     rw [hs.out] at SNk;have WD:=SW.out k (by omega);rw [hs.out,show 64 - k=(63 - k)+1 by omega,Int.pow_succ] at WD;have hP:0 < (2:Int) ^ (63 - k):=Int.pow_pos (by decide);generalize (2:Int) ^ (63 - k)=P at *;have hm:mid s.1 s.2=s.1+(s.2 - s.1) / 2:=by unfold mid;omega
     obtain ⟨i1,i2,i3,i4,i5⟩:=SIk;unfold top at i2 i4;have m0:s.1+(s.2 - s.1) / 2 < s.2:=by omega
     have wr1:IntKind.u64.wrap (s.2 - s.1)=s.2 - s.1:=IntWalk.u64_in _ (by omega);have wr2:IntKind.u64.wrap (Int.tdiv (s.2 - s.1) 2)=(s.2 - s.1) / 2:=IntWalk.u64_quo _ _ (by omega);have wr3:IntKind.u64.wrap (s.1+(s.2 - s.1) / 2)=mid s.1 s.2:=by rw [hm];exact IntWalk.u64_in _ (by omega)
     have NY:Hid (ans l (mid s.1 s.2)=true→gon L (k+1)=false→sK l L 0 (k+1)=(s.1,mid s.1 s.2)):=Lib.hid (fun h g=>by rw [SNk.out,g];exact nxt_yes h);have NN:Hid (¬ (ans l (mid s.1 s.2)=true∧gon L (k+1)=false)→sK l L 0 (k+1)=(mid s.1 s.2+1,s.2)):=Lib.hid (fun h=>by rw [SNk.out];exact nxt_no h (by rw [hm];unfold top;omega));have m1:mid s.1 s.2≤18446744073709551614:=by omega
     have wr4:IntKind.u64.wrap (mid s.1 s.2+1)=mid s.1 s.2+1:=IntWalk.u64_in _ (by omega);clear SNk hs SN SI YES NO SW OF hm m0 WD hP i1 i2 i3 i4 i5 NA;have AK:=Lib.hid (AN.out wr bw.out (mid s.1 s.2));have HK:=Lib.hid (fun W b E q=>HR.out W b (k+1) E (by omega) q);clear AN HR;generalize mid s.1 s.2=m at *;generalize gon L (k+1)=g at *;generalize ans l m=q at *;generalize hd':(s.2 - s.1) / 2=dd at *;clear hd';go_wp2_with fail;refine AK.out.mono ?_;rintro e w3 ⟨rfl,b3⟩;have E3:=Lib.hid (ew.out.below b3);have B3:=Lib.hid (bw.out.trans (b3.mono bw.out.size));have C3:=Lib.hid (HK.out w3 B3.out E3.out q);clear b3 AK bw ew HK;have NX:Hid (((q && !g)=true→sK l L 0 (k+1)=(s.1,m))∧((q && !g)=false→sK l L 0 (k+1)=(m+1,s.2))):=Lib.hid ⟨fun h=>by cases q <;> cases g <;> first | exact absurd h (by decide) | exact NY.out rfl rfl,fun h=>NN.out (by rintro ⟨rfl,rfl⟩;exact absurd h (by decide))⟩;clear NY NN;generalize (q && !g)=z at *;go_wp2_with fail;refine C3.out.mono ?_;rintro e w4 ⟨rfl,e4,b4⟩;have E4:=Lib.hid e4;have B4:=Lib.hid (B3.out.trans b4);clear e4 b4 C3 E3 B3
     cases z with
     | true =>
       have HN2:=Lib.hid (NX.out.1 rfl);clear NX;go_wp2
       go_roundw
       case rel=>exact ⟨k+1,(s.1,m),by omega,by go_num,rfl,rfl,HN2,B4,E4⟩
       case measure=>simp [intOf];omega
     | false =>
       have HN2:=Lib.hid (NX.out.2 rfl);clear NX;go_wp2
       go_roundw
       case rel=>exact ⟨k+1,(m+1,s.2),by omega,by go_num,rfl,rfl,HN2,B4,E4⟩
       case measure=>simp [intOf];omega
    ·obtain rfl:k=64:=by omega
     have Y:=Lib.hid (fun w' h1 b=>YES.out w' s.2 OF.out (congrArg (·.2) hs.out) h1 b);have N:=Lib.hid (fun w' h1 b=>NO.out w' s.2 OF.out (congrArg (·.2) hs.out) h1 b);have CN:=Lib.hid (NA.out wr bw.out s.2);have HK:=Lib.hid (fun W b E q=>HR.out W b 65 E (by omega) q);have AQ:=Lib.hid (any_qh l s.2);clear YES NO hs SI SW SN AN HR NA OF SIk hlt hk;generalize s.2=z at *;generalize s.1=lo at *;generalize ix (qh z) l=y at *;generalize hd l z=q at *;generalize gon L 65=g at *
     cases q with
     | true =>
       have hy:=of_decide_eq_true AQ.out;have HK2:=Lib.hid (fun W b E=>HK.out W b E true);clear HK AQ;generalize (true && !g)=x at *;go_wp2_with fail;refine CN.out.mono ?_;rintro e w3 ⟨rfl,b3⟩;have E3:=Lib.hid (ew.out.below b3);have B3:=Lib.hid (bw.out.trans (b3.mono bw.out.size));have C3:=Lib.hid (HK2.out w3 B3.out E3.out);clear b3 CN bw ew HK2;go_wp2_with fail;refine C3.out.mono ?_;rintro e w4 ⟨rfl,e4,b4⟩;have B4:=Lib.hid (B3.out.trans b4);obtain ⟨c0,c1,_⟩:=Ear.cells e4;clear e4 b4 C3 E3 B3
       cases x with
       | true =>
         have E:=Lib.hid (fun w'=>Y.out w' rfl);clear Y N;go_wp2
         go_quiet (fail)
         go_wp2
         go_ret3
         exact E.out _ (below_drewN B4.out _)
       | false =>
         have E:=Lib.hid (fun w'=>N.out w' rfl);clear Y N;go_wp2
         go_quiet (fail)
         go_wp2
         go_ret3
         exact E.out _ (below_drewN B4.out _)
     | false =>
       have hy:=AQ.out;have hy2:y < 0:=by have:=of_decide_eq_false AQ.out;omega
       have HK2:=Lib.hid (fun W b E=>HK.out W b E false);clear HK AQ;generalize (false && !g)=x at *;go_wp2_with fail;refine CN.out.mono ?_;rintro e w3 ⟨rfl,b3⟩;have E3:=Lib.hid (ew.out.below b3);have B3:=Lib.hid (bw.out.trans (b3.mono bw.out.size));have C3:=Lib.hid (HK2.out w3 B3.out E3.out);clear b3 CN bw ew HK2;go_wp2_with fail;refine C3.out.mono ?_;rintro e w4 ⟨rfl,e4,b4⟩;have B4:=Lib.hid (B3.out.trans b4);obtain ⟨c0,c1,_⟩:=Ear.cells e4;clear e4 b4 C3 E3 B3
       cases x with
       | true =>
         have E:=Lib.hid (fun w'=>Y.out w' rfl);clear Y N;go_wp2
         go_quiet (fail)
         go_wp2
         go_ret3
         exact E.out _ (below_drewN B4.out _)
       | false =>
         have E:=Lib.hid (fun w'=>N.out w' rfl);clear Y N;go_wp2
         go_quiet (fail)
         go_wp2
         go_ret3
         exact E.out _ (below_drewN B4.out _)
end Go.Proofs.YtljnkaodhfnbbaaGreatDoor.Bp
namespace Go.Proofs.YtljnkaodhfnbbaaGreatDoor.Bp
open Go.RowKit
open Rw (Rd Ow At)
open Fl (ret_bool at_bool row_cell)
open Nm (S zS sa sa_get sa_set mem_sa Gd KV atV Fit ret_i64 ls fr)
theorem sK_drop (l:List S) (L:List Bool) (r i:Nat):∀ k,sK l (L.drop r) i k=sK l L (r+i) k
 | 0=>rfl
 | k+1=>by
   show nxt l (gon (L.drop r) (i+(k+1))) (sK l (L.drop r) i k)=nxt l (gon L (r+i+(k+1))) (sK l L (r+i) k)
   rw [gon_drop,sK_drop l L r i k,Nat.add_assoc]
theorem off_drop (l:List S) (L:List Bool) (r i:Nat):off l (L.drop r) i=off l L (r+i):=by unfold off;rw [gon_drop]
theorem fd_drop (l:List S) (L:List Bool) (r i:Nat):fd l (L.drop r) i=fd l L (r+i):=by unfold fd;rw [gon_drop,sK_drop,Nat.add_assoc]
theorem sB_drop (l:List S) (L:List Bool) (r i:Nat):sB l (L.drop r) i=sB l L (r+i):=by unfold sB;rw [off_drop,fd_drop]
theorem sN_drop (l:List S) (L:List Bool) (r i:Nat):sN l (L.drop r) i=sN l L (r+i):=by unfold sN;rw [off_drop]
theorem sP_drop (l:List S) (L:List Bool) (r i:Nat):sP l (L.drop r) i=sP l L (r+i):=by unfold sP;rw [sB_drop,sK_drop]
theorem search_at (w:World) (v u:Value) (l:List S) (L:List Bool) (q:Nat) (R:Rd KV w v l) (G:Rd KG w u (L.drop q)):Calls Tryz.prog 155 #[v,u] w (SearchPost w l L q) :=
 (search_any w v u l (L.drop q) R G).mono fun e w' h=>by
   unfold SearchPost at h ⊢;rw [sP_drop,sN_drop,sB_drop] at h;exact h
theorem missed_at (w:World) (u:Value) (L:List Bool) (q:Nat) (G:Rd KG w u (L.drop q)):Calls Tryz.prog 157 #[u,.int .i64 0] w fun e w'=>e = .returned (.bool (gon L q))∧w'=w :=
 (missed_any w u (L.drop q) G 0).mono fun e w' h=>by
   rw [gon_drop] at h;exact h
inductive Ag (c:List S) (L:List Bool) (r:Nat):Nat→Prop
 | nil:Ag c L r r
 | snoc {q:Nat} : Ag c L r q→¬ (sB c L q=false∧sN c L q=1∧gon L q=false)→sB c L q=false→Ag c L r (q+sN c L q)
theorem Ag.drop {c:List S} {L:List Bool} {r q:Nat} (h:Ag c (L.drop r) 0 q):Ag c L r (r+q):=by
 induction h with
 | nil=>exact .nil
 | snoc _ h1 h2 ih =>
   rw [sB_drop,sN_drop,gon_drop] at h1;rw [sB_drop] at h2;rw [sN_drop,← Nat.add_assoc];exact .snoc ih h1 h2
def FindPost (w:World) (l:List S) (M:List Bool) (e:Ending) (w':World):Prop:=∃ q:Nat,Ag l M 0 q∧Below w.heap.size w w'∧((sB l M q=true∧e = .returned (.tuple #[.int .i64 (ix (qh (sP l M q)) l),.int .i64 ((q:Int)+66)]))∨((sB l M q=false∧sN l M q=1∧gon M q=false)∧e = .returned (.tuple #[.int .i64 (-1),.int .i64 ((q:Int)+1)])))
set_option maxHeartbeats 4000000 in
theorem find_any (w:World) (v u:Value) (l:List S) (M:List Bool) (R:Rd KV w v l) (F:Fit l) (G:Rd KG w u M) (hM:M.length≤1000):Calls Tryz.prog 107 #[v,u] w (FindPost w l M):=by
 have CB:=Lib.hid (fun W (b:Below w.heap.size w W) q=>behind_any W u M (G.below b) q);have CS:=Lib.hid (fun W (b:Below w.heap.size w W) u' q (G':Rd KG W u' (M.drop q))=>search_at W v u' l M q (R.below b) G');have CN:=Lib.hid (fun W (b:Below w.heap.size w W) c=>nameless_any W v l (R.below b) c);have CM:=Lib.hid (fun W u' q (G':Rd KG W u' (M.drop q))=>missed_at W u' M q G');have YES:Hid (∀ q w',Ag l M 0 q→Below w.heap.size w w'→sB l M q=true→FindPost w l M (.returned (.tuple #[.int .i64 (ix (qh (sP l M q)) l),.int .i64 ((q:Int)+66)])) w'):=Lib.hid (fun q w' h b e=>⟨q,h,b,.inl ⟨e,rfl⟩⟩);have NO:Hid (∀ q w',Ag l M 0 q→Below w.heap.size w w'→(sB l M q=false∧sN l M q=1∧gon M q=false)→FindPost w l M (.returned (.tuple #[.int .i64 (-1),.int .i64 ((q:Int)+1)])) w'):=Lib.hid (fun q w' h b e=>⟨q,h,b,.inr ⟨e,rfl⟩⟩);have AG:Hid (∀ q,Ag l M 0 q→¬ (sB l M q=false∧sN l M q=1∧gon M q=false)→sB l M q=false→q < M.length∧Ag l M 0 (q+sN l M q)):=Lib.hid (fun q h h1 h2=>⟨(again_mu (fit_low F) h1 h2).1,.snoc h h1 h2⟩);obtain ⟨a,cap,rfl,_⟩:=R.slice;obtain ⟨a',cap',rfl,_⟩:=G.slice;clear R G F;generalize l.length=n at *;generalize M.length=n' at *
 go_enter Tryz.func107,Tryz.ntmps107
 go_wp2
 go_loopw [5] (fun i wr=>∃ q:Nat,q≤n'+66∧i = .int .i64 q∧Hid (Ag l M 0 q)∧Hid (Below w.heap.size w wr)) (fun i _=>n' - (intOf i).toNat)
 case atStart=>exact ⟨0,by omega,rfl,.nil,Below.refl _ _⟩
 case round =>
  obtain ⟨q,hq,rfl,ag,bw⟩:=hrel;have C1:=Lib.hid (CB.out wr bw.out q);have Y:=Lib.hid (fun w' b h=>YES.out q w' ag.out b h);have N:=Lib.hid (fun w' b h=>NO.out q w' ag.out b h);have A:=Lib.hid (fun h1 h2=>AG.out q ag.out h1 h2);have X0:Hid (sN l M q=1∨sN l M q=66):=Lib.hid (s_many l M q);have X1:Hid (sB l M q=true→sN l M q=66):=Lib.hid (fun h=>(s_found h).1);have CS1:=Lib.hid (fun W b u' G'=>CS.out W b u' q G');have CM1:=Lib.hid (fun W u' G'=>CM.out W u' q G');have w1':IntKind.i64.wrap ((q:Int)+1)=(q:Int)+1:=IntWalk.i64_in _ (by omega);have w66:IntKind.i64.wrap ((q:Int)+66)=(q:Int)+66:=IntWalk.i64_in _ (by omega);clear YES NO AG CB CS CM ag;unfold SearchPost at CS1;generalize sB l M q=b at *;generalize sP l M q=p at *;generalize sN l M q=k at *;generalize gon M q=g at *;go_wp2_with fail;refine C1.out.mono ?_;rintro e w1 ⟨u1,rfl,g1,b1⟩;have B1:=Lib.hid (bw.out.trans (b1.mono bw.out.size));have G1:=Lib.hid g1;have C2:=Lib.hid (CS1.out w1 B1.out u1 g1);have U1:=Lib.hid g1.slice;obtain ⟨ax,cx,rfl,_⟩:=U1.out;clear C1 g1 b1 bw CS1 U1;generalize (M.drop q).length=nx at *
  cases b with
  | true =>
    obtain rfl:=X1.out rfl;have C3:Hid (Calls Tryz.prog 155 #[.slice a n cap,.slice ax nx cx] w1 fun e w'=>e = .returned (.tuple #[.int .u64 p,.int .i64 66,.bool true])∧Below w1.heap.size w1 w'):=C2.out;clear X0 X1 N A CM1 C2 w1' G1;go_wp2_with fail;refine C3.out.mono ?_;rintro e w2 ⟨rfl,b2⟩;have B2:=Lib.hid (B1.out.trans (b2.mono B1.out.size));have C4:=Lib.hid (CN.out w2 B2.out p);clear C3 B1 b2 CN;generalize ix (qh p) l=y at *;go_wp2_with fail;refine C4.out.mono ?_;rintro e w3 ⟨rfl,b3⟩;have E:=Lib.hid (Y.out w3 (B2.out.trans (b3.mono B2.out.size)) (by trivial));clear C4 B2 b3 Y;go_wp2
    go_ret2
    exact E.out
  | false =>
    clear Y X1 CN
    rcases X0.out with rfl | rfl
    ·have C3:Hid (Calls Tryz.prog 155 #[.slice a n cap,.slice ax nx cx] w1 fun e w'=>e = .returned (.tuple #[.int .u64 p,.int .i64 1,.bool false])∧Below w1.heap.size w1 w'):=C2.out
     clear X0 C2 w66;go_wp2_with fail;refine C3.out.mono ?_;rintro e w2 ⟨rfl,b2⟩;have B2:=Lib.hid (B1.out.trans (b2.mono B1.out.size));have C4:=Lib.hid (CM1.out w2 _ (G1.out.below b2));clear C3 B1 b2 G1 CM1
     cases g with
     | false =>
       have E:=Lib.hid (N.out w2 B2.out ⟨by trivial,by trivial,by trivial⟩);clear N A B2;go_wp2_with fail;refine C4.out.mono ?_;rintro e w3 ⟨rfl,rfl⟩;go_wp2
       go_ret2
       exact E.out
     | true =>
       have E:=Lib.hid (A.out (fun h=>by cases h.2.2) (by trivial));clear N A;have hqn:=E.out.1;go_wp2_with fail;refine C4.out.mono ?_;rintro e w3 ⟨rfl,rfl⟩;go_wp2
       go_roundw
       case rel=>exact ⟨q+1,by omega,by go_num,E.out.2,B2⟩
       case measure=>simp [intOf];omega
    ·have C3:Hid (Calls Tryz.prog 155 #[.slice a n cap,.slice ax nx cx] w1 fun e w'=>e = .returned (.tuple #[.int .u64 p,.int .i64 66,.bool false])∧Below w1.heap.size w1 w'):=C2.out
     have E:=Lib.hid (A.out (fun h=>absurd h.2.1 (by decide)) (by trivial));have hqn:=E.out.1;clear X0 C2 w1' N A G1 CM1;go_wp2_with fail;refine C3.out.mono ?_;rintro e w2 ⟨rfl,b2⟩;have B2:=Lib.hid (B1.out.trans (b2.mono B1.out.size));clear C3 B1 b2;go_wp2
     go_roundw
     case rel=>exact ⟨q+66,by omega,by go_num,E.out.2,B2⟩
     case measure=>simp [intOf];omega
end Go.Proofs.YtljnkaodhfnbbaaGreatDoor.Bp
namespace Go.Proofs.YtljnkaodhfnbbaaGreatDoor.Bp
open Go.RowKit
open Rw (Rd Ow At)
open Fl (ret_bool at_bool row_cell)
open Nm (S zS sa sa_get sa_set mem_sa Gd KV atV Fit ret_i64 ls cn fr frB fr_pos FreePost free_any LeastPost least_any lsP clone_any)
theorem nm_one {c:List S} (gd:Gd c) {i:Nat} (hi:i < c.length) {p n:Int} (hp:(sa c i).1=p):c.set i ((sa c i).1,n)=nm p n c:=by
 refine Nm.sa_same (by rw [List.length_set,nm_len]) fun j hj=>?_;rw [List.length_set] at hj;rw [sa_set hi,nm_sa hj];unfold nmd
 by_cases e:j=i
 ·subst e
  rw [if_pos rfl,if_pos hp]
 ·rw [if_neg e,if_neg fun q=>e (gd.phys hj hi (q.trans hp.symm))]
section
variable {w wr w':World} {B:Nat} {l c:List S} {most:Int} {L:List Bool} {v:Value} {f r q:Nat}
theorem Rs.chain (h:Rs w B l most L v f r c wr) (e:¬ (0≤ls c∧fr c most=0)) (ag:Ag c L r q):∃ f',f'≤f∧Rs w B l most L v f' q c wr:=by
 induction ag with
 | nil=>exact ⟨f,Nat.le_refl _,h⟩
 | snoc _ h1 h2 ih =>
   obtain ⟨f',hf,h'⟩:=ih;exact ⟨f' - 1,by omega,(h'.again e h1 h2).1⟩
theorem Rs.put {g cap i:Nat} (h:Rs w B l most L (.slice (some ⟨g,0,none⟩) c.length cap) f r c wr) (gd:Gd c) (e:¬ (0≤ls c∧fr c most=0)) (ag:Ag c L r q) (e1:sB c L q=true) (hi:i < c.length) (hx:qh (sP c L q) (sa c i)=true) (hB:B≤g):∃ f' c',f' < f∧Gd c'∧Rs w B l most L (.slice (some ⟨g,0,none⟩) c.length cap) f' (q+67) c' (wr.setCell ⟨g,i * 2+1,none⟩ (.int .i64 (fr c most))):=by
 obtain ⟨f',hf,h'⟩:=h.chain e ag;have hx':=of_decide_eq_true hx;have ho:=Ow.set h'.own i 1 hi (by decide) (.int .i64 (fr c most)) ((sa c i).1,(fr c most:Int)) rfl;rw [nm_one gd hi hx'.2] at ho;obtain ⟨k1,k2⟩:=h'.named (w':=wr.setCell ⟨g,i * 2+1,none⟩ (.int .i64 (fr c most))) e e1 ho (h'.bel.setCell hB _);exact ⟨_,_,by omega,(Kb.step (Kb.start gd) (named_pos (fit_low h'.fit) e e1).1 ⟨i,hi,hx'⟩).gd,k1⟩
theorem Rs.end_ (h:Rs w w.heap.size l most L v f r c wr) (e:¬ (0≤ls c∧fr c most=0)) (ag:Ag c L r q) (e0:sB c L q=false∧sN c L q=1∧gon L q=false):RunPost w l most L (.returned (.tuple #[v,.int .i64 ((q:Int)+1),.int .i64 0])) wr:=by
 obtain ⟨f',_,h'⟩:=h.chain e ag;exact h'.done e e0
theorem Rs.far (h:Rs w B l most L v f r c wr) (e:¬ (0≤ls c∧fr c most=0)) (ag:Ag c L r q) (hl:l.length≤260) (hL:L.length≤1000):q≤100000:=by
 obtain ⟨f',_,h'⟩:=h.chain e ag;exact h'.room hl hL
end
set_option maxHeartbeats 8000000 in
set_option maxRecDepth 100000 in
theorem run_any (w:World) (v u:Value) (l:List S) (L:List Bool) (R:Rd KV w v l) (F:Fit l) (gd:Gd l) (G:Rd KG w u L) (hL:L.length≤1000) (most:Int):Calls Tryz.prog 47 #[v,.int .i64 most,u] w (RunPost w l most L):=by
 have hl:l.length≤260:=by have:=gd.len;omega
 have CL:=Lib.hid (clone_any w v l R hl);have HL:=Lib.hid hl;have HLL:=Lib.hid hL;have GD:=Lib.hid gd;have GG:=Lib.hid G;have ST:Hid (∀ u wr,Ow KV wr w.heap.size 128 u l→Below w.heap.size w wr→Rs w w.heap.size l most L u (L.length+l.length+1) 0 l wr):=fun u wr h b=>Rs.start h b F;obtain ⟨a,cap,rfl,_⟩:=R.slice;obtain ⟨a',cap',rfl,_⟩:=G.slice;clear R F gd G hl hL
 go_enter Tryz.func47,Tryz.ntmps47
 go_wp2_with fail;refine CL.out.mono ?_;rintro e w1 ⟨u,rfl,o1,b1⟩;obtain ⟨a1,c1,rfl,_,hc1⟩:=o1.slice;have A1:=Lib.hid (ST.out _ _ o1 b1);clear CL o1 b1 ST;generalize hn:l.length=n at *;have HN:=Lib.hid hn;clear hn;generalize hn':L.length=n' at *;have HN':=Lib.hid hn';clear hn';go_wp2
 go_loopg [10] (n'+n+1) (fun gg z wr=>∃ (r:Nat) (c:List S),z = .int .i64 r∧Hid (Rs w w.heap.size l most L (.slice a1 n c1) gg r c wr)∧Hid (Gd c))
 case atStart=>exact ⟨0,l,rfl,A1,GD⟩
 case round =>
  clear A1 GD;obtain ⟨r,c,rfl,I,GD⟩:=hrel;have rm:=I.out.room (by rw [HN.out];exact HL.out) (by rw [HN'.out];exact HLL.out);have CF:=Lib.hid (free_any wr _ c I.out.own.rd I.out.fit most);have CN:=Lib.hid (fun W (b:Below wr.heap.size wr W)=>least_any W _ c (I.out.own.rd.below b));have G0:=Lib.hid (GG.out.below (I.out.bel));have CB:=Lib.hid (fun W (b:Below wr.heap.size wr W)=>behind_any W _ L (G0.out.below b) r);have CS:=Lib.hid (fun W u' (b:Below wr.heap.size wr W) (G':Rd KG W u' (L.drop r))=>find_any W _ u' c (L.drop r) (I.out.own.rd.below b) I.out.fit G' (by rw [List.length_drop];have:=HN'.out;have:=HLL.out;omega));have HLc:=Lib.hid (I.out.len.trans HN.out);unfold LeastPost at CN;unfold FreePost at CF;generalize lsP c=lp at *
  by_cases hP:0≤ls c∧fr c most=0
  ·have hb:frB c most=false:=by
    cases q:frB c most with
    | false=>rfl
    | true=>have:=fr_pos.1 q;omega
   have hls:decide (0≤ls c)=true:=decide_eq_true hP.1;have FULL:=Lib.hid (fun w' (b:Below wr.heap.size wr w')=>(I.out.below b I.out.bel.size).full hP);rw [hb] at CF;rw [hls] at CN;clear I CS CB hb G0 hls hP GD;generalize (fr c most:Int)=m at *;go_wp2_with fail;refine CF.out.mono ?_;rintro e w2 ⟨rfl,b2⟩;have B2:=Lib.hid b2;have C3:=Lib.hid (CN.out w2 b2);clear b2 CN CF;go_wp2_with fail;refine C3.out.mono ?_;rintro e w3 ⟨rfl,b3⟩;have E:=Lib.hid (FULL.out _ (B2.out.trans (b3.mono B2.out.size)));clear b3 C3 FULL B2;go_wp2
   go_ret3
   exact E.out
  ·have HP:=Lib.hid hP
   have hcase:decide (0≤ls c)=false∨(decide (0≤ls c)=true∧frB c most=true):=by
    by_cases q:0≤ls c
    ·exact .inr ⟨decide_eq_true q,fr_pos.2 (Nat.pos_of_ne_zero fun g=>hP ⟨q,g⟩)⟩
    ·exact .inl (decide_eq_false q)
   clear hP;have Z0:=Lib.hid hcase;clear hcase;generalize decide (0≤ls c)=x at *;generalize frB c most=y at *
   rcases Z0.out with rfl | ⟨rfl,rfl⟩
   all_goals
    clear Z0;go_wp2_with fail;refine CF.out.mono ?_;rintro e w2 ⟨rfl,b2⟩;have B2:=Lib.hid b2;have C3:=Lib.hid (CN.out w2 b2);clear b2 CN CF;go_wp2_with fail;refine C3.out.mono ?_;rintro e w3 ⟨rfl,b3⟩;have B3:=Lib.hid (B2.out.trans (b3.mono B2.out.size));have C4:=Lib.hid (CB.out w3 B3.out);clear b3 C3 B2 CB;go_wp2_with fail;refine C4.out.mono ?_;rintro e w4 ⟨u4,rfl,g4,b4⟩;have B4:=Lib.hid (B3.out.trans (b4.mono B3.out.size));have C5:=Lib.hid (CS.out w4 u4 B4.out g4);obtain ⟨ax,cx,rfl,_⟩:=g4.slice;clear g4 b4 C4 B3 CS G0;generalize (L.drop r).length=nx at *;go_wp2_with fail;refine C5.out.mono ?_;rintro e w5 ⟨q,ag,b5,hh⟩;have AG:=Lib.hid ag.drop;have B5:=B4.out.trans (b5.mono B4.out.size);have I5:=Lib.hid (I.out.below B5 I.out.bel.size);have q1:=I5.out.far HP.out AG.out (by rw [HN.out];exact HL.out) (by rw [HN'.out];exact HLL.out);clear ag b5 C5 B4 B5 I
    rcases hh with ⟨e1,rfl⟩ | ⟨e0,rfl⟩
    ·rw [sB_drop] at e1
     rw [sP_drop];obtain ⟨i,ei,hi,hq⟩:=ix_at (q:=qh (sP c L (r+q))) (l:=c) (hd_iff.2 (by obtain ⟨_,h⟩:=s_found e1;exact h));rw [ei];have HE1:=Lib.hid e1;have HI:=Lib.hid hi;have HQ:=Lib.hid hq;clear e1 ei hq;obtain ⟨g,cap2,e,hg,hgl,_,_,hfz,hA⟩:=I5.out.own.form (by omega);injection e with ea eb ec;subst ea ec;obtain ⟨d0,d1⟩:=atV hA (i:=i) hi;simp only [Nat.zero_add] at d0 d1;have fz:=hfz (i * 2+1);have NXT:=Lib.hid (Rs.put (by rw [HLc.out];exact I5.out) GD.out HP.out AG.out HE1.out HI.out HQ.out hg);rw [HLc.out] at NXT;have hin:i < n:=by have:=HLc.out;omega
     clear I5 AG HE1 HQ hA hfz hg GD HP eb hi;generalize sa c i=x at *;generalize (fr c most:Int)=m at *;have wa:IntKind.i64.wrap ((r:Int)+((q:Int)+66))=(r:Int)+((q:Int)+66):=IntWalk.i64_in _ (by omega);have wb:IntKind.i64.wrap ((r:Int)+((q:Int)+66)+1)=(r:Int)+((q:Int)+66)+1:=IntWalk.i64_in _ (by omega);go_wp2;obtain ⟨f',c',hf,gd',I'⟩:=NXT.out
     go_roundg f'
     case rel=>exact ⟨r+q+67,c',by go_num,Lib.hid I',Lib.hid gd'⟩
     case measure=>exact hf
    ·rw [sB_drop,sN_drop,gon_drop] at e0
     have E:=Lib.hid (I5.out.end_ HP.out AG.out e0);have wa:IntKind.i64.wrap ((r:Int)+((q:Int)+1))=(r:Int)+((q:Int)+1):=IntWalk.i64_in _ (by omega);rw [show ((r+q:Nat):Int)+1=(r:Int)+((q:Int)+1) by omega] at E;clear e0 I5 AG GD HP;go_wp2
     go_ret3
     exact E.out
end Go.Proofs.YtljnkaodhfnbbaaGreatDoor.Bp
namespace Go.Proofs.YtljnkaodhfnbbaaGreatDoor.Wn
open Nm (S sa sa_get sa_set mem_sa Gd ls ls_spec cn cn_set cn_le fr asg asg_next asg_done asg_full asL asE)
open Bp (Low top gon ans ans_iff ans_no ans_top s_found s_least s_off sK_least sB sN sP off nm nm_one rn rn_full rn_done rn_named rnL rnN rnE Kb gon_off)
theorem none_lost (i:Nat):gon [] i=false:=gon_off (Nat.zero_le i)
theorem found_least {c:List S} {r:Nat} (hl:Low c) {i:Nat} (hi:i < c.length) (h0:(sa c i).2=0) (hm:∀ j,j < c.length→(sa c j).2=0→(sa c i).1≤(sa c j).1):sB c [] r=true∧sP c [] r=(sa c i).1:=by
 have ha:ans c top=true:=ans_iff.2 ⟨i,hi,h0,(hl i hi).2⟩;have hb:sB c [] r=true:=s_least hl (fun j _=>none_lost j) ha;refine ⟨hb,?_⟩;obtain ⟨_,j,hj,hj0,e⟩:=s_found hb;obtain ⟨h1,h2,h3,h4⟩:=sK_least hl (r:=r) (fun j _=>none_lost j) ha 64 (Nat.le_refl _);have eq:(Bp.sK c [] r 64).1=(Bp.sK c [] r 64).2:=by
  rw [Nat.sub_self] at h4;have:(2:Int) ^ 0=1:=rfl
  omega
 have ez:sP c [] r=(Bp.sK c [] r 64).2:=if_pos hb;have le:¬ (sa c i).1 < sP c [] r:=fun g=>by
  have:=ans_no.1 (h2 (sa c i).1 (by omega)) i hi h0
  omega
 have:=hm j hj hj0
 omega
theorem rn_asg {most:Int} : ∀ {f r:Nat} {c:List S},Gd c→Low c→cn c < f→∃ r',rn most [] f c r=((asg f c most).1,r',(asg f c most).2)∧r'≤r+67 * cn c+1
 | 0,_,_,_,_,h=>by omega
 | f+1,r,c,gd,hl,hc=>by
   rcases ls_spec c with ⟨e,hn⟩ | ⟨i,e,hi,h0,hm⟩
   ·have ha:ans c top=false:=ans_no.2 fun i hi h0=>absurd h0 (hn i hi)
    have ho:off c [] r=true:=by unfold off;rw [ha];rfl
    obtain ⟨s1,s2,_⟩:=s_off ho;rw [rn_done (by omega) ⟨s1,s2,none_lost r⟩,asg_done (by omega)];exact ⟨r+1,rfl,by omega⟩
   ·by_cases hf:fr c most=0
    ·rw [rn_full ⟨by omega,hf⟩,asg_full (by omega) hf]
     exact ⟨r,rfl,by omega⟩
    ·obtain ⟨s1,s2⟩:=found_least (r:=r) hl hi h0 hm
     rw [rn_named (by omega) s1,asg_next e (by omega),s2,← nm_one gd hi rfl];have hs:=cn_set (x:=((sa c i).1,(fr c most:Int))) hi h0 (by simp;omega);have gd2:=(Kb.step (Kb.start gd) (most:=most) (p:=(sa c i).1) (by omega) ⟨i,hi,h0,rfl⟩).gd;have hl2:=hl.nm (p:=(sa c i).1) (n:=(fr c most:Int));rw [← nm_one gd hi rfl] at gd2 hl2;obtain ⟨r',e1,e2⟩:=rn_asg (most:=most) (f:=f) (r:=r+67) gd2 hl2 (by omega);exact ⟨r',e1,by omega⟩
theorem run_asg {l:List S} (most:Int) (gd:Gd l) (hl:Low l):rnL l most []=asL l most∧rnE l most []=asE l most∧rnN l most []≤67 * cn l+1:=by
 have hc:=cn_le l;obtain ⟨r',e1,e2⟩:=rn_asg (most:=most) (f:=l.length+1) (r:=0) gd hl (by omega);have e:rn most [] (([]:List Bool).length+l.length+1) l 0=rn most [] (l.length+1) l 0:=by rw [List.length_nil,Nat.zero_add]
 unfold rnL rnE rnN asL asE;rw [e,e1];exact ⟨rfl,rfl,(by omega:r'≤67 * cn l+1)⟩
end Go.Proofs.YtljnkaodhfnbbaaGreatDoor.Wn
namespace Go.Proofs.YtljnkaodhfnbbaaGreatDoor.Ro
open Go.RowKit
open Rw (Rd Ow At)
open Fl (R4 z4 rec4 K4 okR hdr rat goodF)
abbrev E5:=Int×Int×Int×Int×Int
def z5:E5:=(0,0,0,0,0)
def endE:E5:=(4,0,0,0,0)
def endR:R4:=(4,0,0,0)
def ent (x:E5):Value:=.agg #[.int .i64 x.1,.int .i64 x.2.1,.int .i64 x.2.2.1,.int .i64 x.2.2.2.1,.int .i64 x.2.2.2.2]
def K5:Rw.Kind E5:=⟨fun x=>[.int .i64 x.1,.int .i64 x.2.1,.int .i64 x.2.2.1,.int .i64 x.2.2.2.1,.int .i64 x.2.2.2.2],5,by decide,fun _=>rfl,fun _ u h=>by simp at h;rcases h with rfl | rfl | rfl | rfl | rfl <;> rfl,z5⟩
def place (s f r:Int):Prop:=1≤s∧s≤16∧0≤f∧f≤63∧1≤r∧r≤255
instance (s f r:Int):Decidable (place s f r):=by unfold place;infer_instance
def placeB (s f r:Int):Bool:=decide (place s f r)
def okE (x:E5):Prop:=(1≤x.1∧x.1≤3∧(x.1≠3∨x.2.2.2.2=0)∧place x.2.1 x.2.2.1 x.2.2.2.1∧0≤x.2.2.2.2∧x.2.2.2.2≤3)∨(x.1=4∧x.2.1=0∧x.2.2.1=0∧x.2.2.2.1=0∧x.2.2.2.2=0)
instance (x:E5):Decidable (okE x):=by unfold okE;infer_instance
def okB (x:E5):Bool:=decide (okE x)
theorem ok_yes {x:E5} (h:okE x):okB x=true:=decide_eq_true h
theorem ok_no {x:E5} (h:¬ okE x):okB x=false:=decide_eq_false h
def putR (x:E5):R4:=if okE x then (64 * x.2.2.2.2+x.1,x.2.1,x.2.2.1,x.2.2.2.1) else z4
def putN (x:E5):Int:=if okE x then 0 else 1
def takeX (v:R4):E5:=(v.1 % 64,v.2.1,v.2.2.1,v.2.2.2,v.1 / 64)
def takeE (v:R4):E5:=if okE (takeX v) then takeX v else z5
def takeN (v:R4):Int:=if okE (takeX v) then 0 else 2
theorem okE_bounds {x:E5} (h:okE x):(1≤x.1∧x.1≤4)∧(0≤x.2.1∧x.2.1≤16)∧(0≤x.2.2.1∧x.2.2.1≤63)∧(0≤x.2.2.2.1∧x.2.2.2.1≤255)∧0≤x.2.2.2.2∧x.2.2.2.2≤3:=by
 unfold okE place at h
 omega
theorem ok_slot {x:E5} (h:okE x):x.1≠4↔0 < x.2.1:=by
 unfold okE place at h
 omega
theorem at5 {w:World} {b off:Nat} {l:List E5} (h:At K5 w b off l) (i:Nat) (hi:i < l.length) :
 w.cell? ⟨b,off+i * 5,none⟩=some (.int .i64 (l.getD i z5).1)∧w.cell? ⟨b,off+i * 5+1,none⟩=some (.int .i64 (l.getD i z5).2.1)∧w.cell? ⟨b,off+i * 5+2,none⟩=some (.int .i64 (l.getD i z5).2.2.1)∧w.cell? ⟨b,off+i * 5+3,none⟩=some (.int .i64 (l.getD i z5).2.2.2.1)∧w.cell? ⟨b,off+i * 5+4,none⟩=some (.int .i64 (l.getD i z5).2.2.2.2) :=
 ⟨h i hi 0 _ rfl,h i hi 1 _ rfl,h i hi 2 _ rfl,h i hi 3 _ rfl,h i hi 4 _ rfl⟩
theorem infoE:(Tryz.prog.info? 87).map (fun i=>(i.zero,i.size,i.bytes))=some (some (.agg #[.int .i64 0,.int .i64 0,.int .i64 0,.int .i64 0,.int .i64 0]),5,40):=by kernel_rfl
theorem eq_ent (x y:E5) (w:World):(Op.equalIn 10000 87 (.agg #[.int .i64 x.1,.int .i64 x.2.1,.int .i64 x.2.2.1,.int .i64 x.2.2.2.1,.int .i64 x.2.2.2.2]) (.agg #[.int .i64 y.1,.int .i64 y.2.1,.int .i64 y.2.2.1,.int .i64 y.2.2.2.1,.int .i64 y.2.2.2.2])).run Tryz.prog w = .ok (decide (x=y)) w:=by
 have u3:=Tryz.underlying3;have a3:=Tryz.isAgg3;have z3:=Tryz.sizeOf3;have hS:Tryz.prog.underlying 87=some (.struct (Tryz.prog.fieldsOf 87)):=by kernel_rfl
 have hp:Tryz.prog.stoodInHeld 87=false:=by kernel_rfl
 obtain ⟨x1,x2,x3,x4,x5⟩:=x;obtain ⟨y1,y2,y3,y4,y5⟩:=y;rw [show (10000:Nat)=9999+1 from rfl,run_equalIn_agg w 9999 87 _ _ hS hp];simp only [Program.fieldsOf,Tryz.underlying87];go_simp
 by_cases h1:x1=y1 <;> by_cases h2:x2=y2 <;> by_cases h3:x3=y3 <;> by_cases h4:x4=y4 <;> by_cases h5:x5=y5 <;> simp [h1,h2,h3,h4,h5]
end Go.Proofs.YtljnkaodhfnbbaaGreatDoor.Ro
namespace Go.Proofs.YtljnkaodhfnbbaaGreatDoor.Ro
open Go.RowKit
open Rw (Rd Ow At)
open Fl (R4 z4 rec4 K4 okR okL hdr rat goodF)
def eat (l:List E5) (i:Nat):E5:=l.getD i z5
def prevS (l:List E5) (i:Nat):Int:=if i=0 then 0 else (eat l (i - 1)).2.1
def okAt (l:List E5) (i:Nat):Prop:=okE (eat l i)∧prevS l i < (eat l i).2.1
instance (l:List E5) (i:Nat):Decidable (okAt l i):=by unfold okAt;infer_instance
def mayP (l:List E5):Prop:=∀ i,i < l.length→okAt l i
instance (l:List E5):Decidable (mayP l):=by unfold mayP;infer_instance
def mayB (l:List E5):Bool:=decide (mayP l)
theorem prev_zero (l:List E5):prevS l 0=0:=rfl
theorem prev_next (l:List E5) (k:Nat):prevS l (k+1)=(eat l k).2.1:=rfl
theorem prev_ge {l:List E5} {n:Nat} (h:∀ i,i < n→okAt l i) (k:Nat) (hk:k≤n):(k:Int)≤prevS l k:=by
 induction k with
 | zero=>exact Int.le_refl _
 | succ k ih =>
   have h1:=ih (by omega);have h2:=(h k (by omega)).2;rw [prev_next]
   omega
theorem may_len {l:List E5} (h:mayP l):l.length≤16:=by
 have h1:=prev_ge h l.length (Nat.le_refl _)
 rcases e:l.length with _ | n
 ·omega
 ·rw [e,prev_next] at h1
  have:=(okE_bounds (h n (by omega)).1).2.1.2
  omega
theorem okAt_iff {l:List E5} {k:Nat} (h:∀ i,i < k→okAt l i):okAt l k↔okE (eat l k)∧(eat l k).1≠4∧¬ (0 < k∧(eat l k).2.1≤prevS l k):=by
 have h1:=prev_ge h k (Nat.le_refl _)
 constructor
 ·intro g
  exact ⟨g.1,(ok_slot g.1).2 (by have:=g.2;omega),by have:=g.2;omega⟩
 ·intro ⟨g1,g2,g3⟩
  refine ⟨g1,?_⟩;have:=(ok_slot g1).1 g2
  by_cases e:k=0
  ·subst e;rw [prev_zero];exact this
  ·omega
theorem eat_get {l:List E5} {i:Nat} (h:i < l.length):l[i]? = some (eat l i):=by
 unfold eat;rw [List.getD_eq_getElem?_getD,List.getElem?_eq_getElem h]
 rfl
theorem eat_mem {l:List E5} {i:Nat} (h:i < l.length):eat l i∈l:=List.mem_of_getElem? (eat_get h)
def scan:List R4→Option (List E5)
 | []=>some []
 | v :: r=>if okE (takeX v) then (if (takeX v).1=4 then some [] else (scan r).map (takeX v :: ·)) else none
def tabO (p:Int) (l:List R4):Option (List E5):=if goodF p l then (scan (l.drop 1)).filter mayB else none
def tabL (p:Int) (l:List R4):List E5:=(tabO p l).getD []
def tabN (p:Int) (l:List R4):Int:=if (tabO p l).isSome then 0 else 2
theorem tab_may (p:Int) (l:List R4):mayP (tabL p l):=by
 unfold tabL
 rcases e:tabO p l with _ | m
 ·intro i hi;exact absurd hi (by simp)
 ·unfold tabO at e
  by_cases h:goodF p l
  ·rw [if_pos h] at e
   rw [Option.filter_eq_some_iff] at e;exact of_decide_eq_true e.2
  ·rw [if_neg h] at e;cases e
theorem tab_bad {p:Int} {l:List R4} (h:¬ goodF p l):tabL p l = []∧tabN p l=2:=by
 have e:tabO p l=none:=by unfold tabO;rw [if_neg h]
 unfold tabL tabN;rw [e];exact ⟨rfl,rfl⟩
theorem tab_stop {p:Int} {l:List R4} (h:scan (l.drop 1)=none):tabL p l = []∧tabN p l=2:=by
 have e:tabO p l=none:=by unfold tabO;rw [h];split <;> rfl
 unfold tabL tabN;rw [e];exact ⟨rfl,rfl⟩
theorem tab_yes {p:Int} {l:List R4} {m:List E5} (hg:goodF p l) (h:scan (l.drop 1)=some m) (hm:mayP m):tabL p l=m∧tabN p l=0:=by
 have e:tabO p l=some m:=by unfold tabO;rw [if_pos hg,h,Option.filter_eq_some_iff];exact ⟨rfl,decide_eq_true hm⟩
 unfold tabL tabN;rw [e];exact ⟨rfl,rfl⟩
theorem tab_no {p:Int} {l:List R4} {m:List E5} (h:scan (l.drop 1)=some m) (hm:¬ mayP m):tabL p l = []∧tabN p l=2:=by
 have e:tabO p l=none:=by
  unfold tabO
  split
  ·rw [h]
   show (some m).filter mayB=none
   simp only [Option.filter,mayB,decide_eq_false hm,Bool.false_eq_true,if_false]
  ·rfl
 unfold tabL tabN;rw [e];exact ⟨rfl,rfl⟩
def Read (r:List R4) (k:Nat) (L:List E5):Prop:=L.length=k∧scan r=(scan (r.drop k)).map (L ++ ·)
theorem read_start (r:List R4):Read r 0 []:=⟨rfl,by simp⟩
theorem drop_cons {r:List R4} {k:Nat} (h:k < r.length):r.drop k=rat r k :: r.drop (k+1):=by
 rw [List.drop_eq_getElem_cons h]
 congr 1
 unfold rat;rw [List.getD_eq_getElem?_getD,List.getElem?_eq_getElem h]
 rfl
theorem read_bad {r:List R4} {k:Nat} {L:List E5} (h:Read r k L) (hk:k < r.length) (hb:¬ okE (takeX (rat r k))):scan r=none:=by
 rw [h.2,drop_cons hk];simp only [scan,if_neg hb,Option.map_none]
theorem read_end {r:List R4} {k:Nat} {L:List E5} (h:Read r k L) (hk:k < r.length) (hb:okE (takeX (rat r k))) (h4:(takeX (rat r k)).1=4):scan r=some L:=by
 rw [h.2,drop_cons hk];simp only [scan,if_pos hb,if_pos h4,Option.map_some,List.append_nil]
theorem read_next {r:List R4} {k:Nat} {L:List E5} (h:Read r k L) (hk:k < r.length) (hb:okE (takeX (rat r k))) (h4:(takeX (rat r k)).1≠4):Read r (k+1) (L ++ [takeX (rat r k)]):=by
 refine ⟨by rw [List.length_append,h.1];rfl,?_⟩;rw [h.2,drop_cons hk];simp only [scan,if_pos hb,if_neg h4,Option.map_map]
 congr 1
 funext m
 simp
theorem read_all {r:List R4} {L:List E5} (h:Read r r.length L):scan r=some L:=by
 rw [h.2,List.drop_length]
 simp [scan]
def fileL (l:List E5):List R4:=hdr 3 ((l.length:Int)+1) :: (l.map putR ++ [endR])
def fL (l:List E5):List R4:=if mayP l then fileL l else []
def fP (l:List E5):Int:=if mayP l then 3 else 0
def fN (l:List E5):Int:=if mayP l then 0 else 1
theorem may_each {l:List E5} (h:mayP l):∀ x∈l,okE x∧x.1≠4:=fun x hx=>by
 obtain ⟨i,hi,e⟩:=List.getElem_of_mem hx;have g:=(okAt_iff (fun j hj=>h j (by omega))).1 (h i hi);have e':eat l i=x:=by
  have:=eat_get hi;rw [List.getElem?_eq_getElem hi,e] at this;exact (Option.some.inj this).symm
 rw [e'] at g;exact ⟨g.1,g.2.1⟩
def part (h:R4) (l:List E5) (k:Nat):List R4:=h :: ((l.take k).map putR ++ List.replicate (l.length+1 - k) z4)
theorem part_len (h:R4) (l:List E5) (k:Nat) (hk:k≤l.length):(part h l k).length=l.length+2:=by
 simp [part,List.length_take]
 omega
theorem part_start (h:R4) (l:List E5):part h l 0=h :: List.replicate (l.length+1) z4:=by simp [part]
theorem take_next {l:List E5} {k:Nat} (hk:k < l.length):l.take (k+1)=l.take k ++ [eat l k]:=by
 rw [List.take_add_one,eat_get hk]
 rfl
theorem part_set (h:R4) {l:List E5} {k:Nat} (hk:k < l.length):(part h l k).set (1+k) (putR (eat l k))=part h l (k+1):=by
 have e1:(l.take k).length=k:=by rw [List.length_take];omega
 unfold part;rw [Nat.add_comm 1 k,List.set_cons_succ,List.set_append_right _ _ (by rw [List.length_map,e1];omega),List.length_map,e1,Nat.sub_self,take_next hk];rw [show l.length+1 - k=(l.length+1 - (k+1))+1 by omega,List.replicate_succ]
 simp
theorem part_end (h:R4) (l:List E5):(part h l l.length).set (1+l.length) endR=h :: (l.map putR ++ [endR]):=by
 unfold part;rw [Nat.add_comm 1,List.set_cons_succ,List.set_append_right _ _ (by simp),List.take_length];have e:l.length+1 - l.length=1:=by omega
 rw [e]
 simp
end Go.Proofs.YtljnkaodhfnbbaaGreatDoor.Ro
namespace Go.Proofs.YtljnkaodhfnbbaaGreatDoor.Ck
open Ro (E5 z5 eat mayP mayB okE okAt eat_get eat_mem prevS prev_next okE_bounds)
abbrev LL:=List (List E5)
def lat (L:LL) (n:Nat):List E5:=L.getD n []
theorem drop_lat {L:LL} {k:Nat} (h:k < L.length):L.drop k=lat L k :: L.drop (k+1):=by
 rw [List.drop_eq_getElem_cons h]
 congr 1
 unfold lat;rw [List.getD_eq_getElem?_getD,List.getElem?_eq_getElem h]
 rfl
theorem drop_eat {t:List E5} {i:Nat} (h:i < t.length):t.drop i=eat t i :: t.drop (i+1):=by
 rw [List.drop_eq_getElem_cons h]
 congr 1
 have:=eat_get h;rw [List.getElem?_eq_getElem h] at this;exact Option.some.inj this
theorem lat_take {L:LL} {n j:Nat} (h:j < n):lat (L.take n) j=lat L j:=by
 unfold lat;rw [List.getD_eq_getElem?_getD,List.getD_eq_getElem?_getD,List.getElem?_take,if_pos h]
def scn (p:Nat→E5→Bool):Nat→LL→Option (Nat×E5)
 | _,[]=>none
 | n,t :: r=>match t.find? (p n) with
   | some x=>some (n,x)
   | none=>scn p (n+1) r
def whoN (p:Nat→E5→Bool) (L:LL):Int:=match scn p 0 L with
 | some y=>y.1
 | none=>-1
def whoE (p:Nat→E5→Bool) (L:LL):E5:=match scn p 0 L with
 | some y=>y.2
 | none=>z5
def Ahead (p:Nat→E5→Bool) (L:LL) (k:Nat):Prop:=scn p 0 L=scn p k (L.drop k)
def Within (p:Nat→E5→Bool) (L:LL) (k i:Nat):Prop:=Ahead p L k∧(lat L k).find? (p k)=((lat L k).drop i).find? (p k)
section
variable {p:Nat→E5→Bool} {L:LL} {k i:Nat}
theorem ahead_zero:Ahead p L 0:=rfl
theorem within_zero (h:Ahead p L k):Within p L k 0:=⟨h,rfl⟩
theorem within_hit (h:Within p L k i) (hk:k < L.length) (hi:i < (lat L k).length) (hp:p k (eat (lat L k) i)=true):whoN p L=k∧whoE p L=eat (lat L k) i:=by
 have e:scn p 0 L=some (k,eat (lat L k) i):=by
  rw [h.1,drop_lat hk];simp only [scn,h.2,drop_eat hi,List.find?_cons,hp]
 unfold whoN whoE;rw [e];exact ⟨rfl,rfl⟩
theorem within_next (h:Within p L k i) (hi:i < (lat L k).length) (hp:p k (eat (lat L k) i)=false):Within p L k (i+1):=by
 refine ⟨h.1,?_⟩;rw [h.2,drop_eat hi,List.find?_cons,hp]
theorem within_end (h:Within p L k (lat L k).length) (hk:k < L.length):Ahead p L (k+1):=by
 unfold Ahead;have e:=h.2;rw [List.drop_length] at e;rw [h.1,drop_lat hk];simp only [scn,e,List.find?_nil]
theorem ahead_end (h:Ahead p L L.length):whoN p L = -1∧whoE p L=z5:=by
 have e:scn p 0 L=none:=by rw [h,List.drop_length];rfl
 unfold whoN whoE;rw [e];exact ⟨rfl,rfl⟩
end
theorem scn_some {p:Nat→E5→Bool} : ∀ {L:LL} {n0 n:Nat} {x:E5},scn p n0 L=some (n,x)→∃ k,n=n0+k∧k < L.length∧x∈lat L k∧p n x=true∧∀ j,j < k→∀ y∈lat L j,p (n0+j) y=false
 | [],_,_,_,h=>by cases h
 | t :: r,n0,n,x,h=>by
   rcases e:t.find? (p n0) with _ | y
   ·simp only [scn,e] at h
    obtain ⟨k,e1,h1,h2,h3,h4⟩:=scn_some h;refine ⟨k+1,by omega,by simp;omega,h2,h3,fun j hj y hy=>?_⟩
    rcases j with _ | j
    ·rw [List.find?_eq_none] at e
     simpa using e y hy
    ·have:=h4 j (by omega) y hy
     rw [show n0+(j+1)=n0+1+j by omega];exact this
   ·simp only [scn,e,Option.some.injEq,Prod.mk.injEq] at h
    obtain ⟨rfl,rfl⟩:=h;exact ⟨0,rfl,by simp,List.mem_of_find?_eq_some e,List.find?_some e,fun j hj=>absurd hj (Nat.not_lt_zero _)⟩
theorem scn_none {p:Nat→E5→Bool} : ∀ {L:LL} {n0:Nat},scn p n0 L=none→∀ k,k < L.length→∀ x∈lat L k,p (n0+k) x=false
 | [],_,_,k,hk=>by cases hk
 | t :: r,n0,h,k,hk=>by
   rcases e:t.find? (p n0) with _ | y
   ·simp only [scn,e] at h
    intro x hx
    rcases k with _ | k
    ·rw [List.find?_eq_none] at e
     simpa using e x hx
    ·have:=scn_none h k (by simpa using hk) x hx
     rw [show n0+(k+1)=n0+1+k by omega];exact this
   ·simp only [scn,e] at h
    cases h
theorem find_congr {p q:E5→Bool} : ∀ {t:List E5},(∀ x∈t,p x=q x)→t.find? p=t.find? q
 | [],_=>rfl
 | x :: r,h=>by rw [List.find?_cons,List.find?_cons,h x (List.mem_cons_self ..),find_congr fun y hy=>h y (List.mem_cons_of_mem _ hy)]
theorem scn_congr {p q:Nat→E5→Bool} : ∀ {L:LL} {n0:Nat},(∀ k,k < L.length→∀ x∈lat L k,p (n0+k) x=q (n0+k) x)→scn p n0 L=scn q n0 L
 | [],_,_=>rfl
 | t :: r,n0,h=>by
   have e:t.find? (p n0)=t.find? (q n0):=find_congr fun x hx=>h 0 (by simp) x hx;have ih:=scn_congr (p:=p) (q:=q) (L:=r) (n0:=n0+1) fun k hk x hx=>by
    have:=h (k+1) (by simp;omega) x hx;rw [show n0+1+k=n0+(k+1) by omega];exact this
   simp only [scn,e,ih]
theorem who_cases (p:Nat→E5→Bool) (L:LL):(∃ n x,n < L.length∧x∈lat L n∧p n x=true∧(∀ m,m < n→∀ y∈lat L m,p m y=false)∧whoN p L=n∧whoE p L=x)∨((∀ n,n < L.length→∀ x∈lat L n,p n x=false)∧whoN p L = -1∧whoE p L=z5):=by
 rcases e:scn p 0 L with _ | ⟨n,x⟩
 ·right
  refine ⟨fun n hn x hx=>by simpa using scn_none e n hn x hx,?_,?_⟩
  ·unfold whoN;rw [e]
  ·unfold whoE;rw [e]
 ·left
  obtain ⟨k,e1,h1,h2,h3,h4⟩:=scn_some e;obtain rfl:n=k:=by omega
  refine ⟨n,x,h1,h2,h3,fun m hm y hy=>by simpa using h4 m hm y hy,?_,?_⟩
  ·unfold whoN;rw [e]
  ·unfold whoE;rw [e]
theorem who_congr {p q:Nat→E5→Bool} {L:LL} (h:∀ k,k < L.length→∀ x∈lat L k,p k x=q k x):whoN p L=whoN q L∧whoE p L=whoE q L:=by
 have e:scn p 0 L=scn q 0 L:=scn_congr fun k hk x hx=>by simpa using h k hk x hx
 unfold whoN whoE;rw [e];exact ⟨rfl,rfl⟩
theorem who_hit {p:Nat→E5→Bool} {L:LL} {n:Nat} {x:E5} (hn:n < L.length) (hx:x∈lat L n) (hp:p n x=true):0≤whoN p L∧whoN p L≤n:=by
 rcases who_cases p L with ⟨m,y,h1,h2,h3,h4,e,_⟩ | ⟨h,e,_⟩
 ·rw [e]
  refine ⟨by omega,?_⟩
  by_cases g:n < m
  ·have:=h4 n g x hx
   rw [hp] at this
   cases this
  ·omega
 ·have:=h n hn x hx
  rw [hp] at this
  cases this
def idx (q:List E5→Bool):Nat→LL→Int
 | _,[]=>-1
 | n,t :: r=>if q t then n else idx q (n+1) r
def IAhead (q:List E5→Bool) (L:LL) (k:Nat):Prop:=idx q 0 L=idx q k (L.drop k)
section
variable {q:List E5→Bool} {L:LL} {k:Nat}
theorem iahead_zero:IAhead q L 0:=rfl
theorem iahead_hit (h:IAhead q L k) (hk:k < L.length) (hq:q (lat L k)=true):idx q 0 L=k:=by
 rw [h,drop_lat hk];simp only [idx,hq,if_true]
theorem iahead_next (h:IAhead q L k) (hk:k < L.length) (hq:q (lat L k)=false):IAhead q L (k+1):=by
 unfold IAhead;rw [h,drop_lat hk];simp only [idx,hq,Bool.false_eq_true,if_false]
theorem iahead_end (h:IAhead q L L.length):idx q 0 L = -1:=by rw [h,List.drop_length];rfl
end
theorem idx_all {q:List E5→Bool} : ∀ {L:LL} {n:Nat},idx q n L < 0→∀ k,k < L.length→q (lat L k)=false
 | [],_,_,k,hk=>by cases hk
 | t :: r,n,h,k,hk=>by
   by_cases e:q t=true
   ·simp only [idx,e,if_true] at h
    omega
   ·simp only [idx,e,Bool.false_eq_true,if_false] at h
    rcases k with _ | k
    ·show q t=false
     simpa using e
    ·exact idx_all h k (by simpa using hk)
def snd (s:Int) (_:Nat) (x:E5):Bool:=decide (x.1=1∧x.2.1=s)
def sN (s:Int) (L:LL):Int:=whoN (snd s) L
def sE (s:Int) (L:LL):E5:=whoE (snd s) L
theorem snd_yes {s:Int} {n:Nat} {x:E5} (h1:x.1=1) (h2:x.2.1=s):snd s n x=true:=decide_eq_true ⟨h1,h2⟩
theorem snd_no {s:Int} {n:Nat} {x:E5} (h:¬ (x.1=1∧x.2.1=s)):snd s n x=false:=decide_eq_false h
theorem snd_is {s:Int} {n:Nat} {x:E5} (h:snd s n x=true):x.1=1∧x.2.1=s:=of_decide_eq_true h
theorem sN_take {L:LL} {n:Nat} (hn:n≤L.length) (s:Int):0≤sN s (L.take n)↔0≤sN s L∧sN s L < n:=by
 unfold sN;have hl:(L.take n).length=n:=by rw [List.length_take];omega
 rcases who_cases (snd s) (L.take n) with ⟨m,y,h1,h2,h3,h4,e,_⟩ | ⟨h,e,_⟩
 ·rw [hl] at h1
  rw [lat_take h1] at h2;have g:=who_hit (p:=snd s) (L:=L) (by omega) h2 h3
  constructor
  ·intro _;omega
  ·intro _;omega
 ·constructor
  ·intro g;omega
  ·intro ⟨g1,g2⟩
   rcases who_cases (snd s) L with ⟨m,y,h1,h2,h3,h4,e',_⟩ | ⟨_,e',_⟩
   ·have hm:m < n:=by omega
    have:=h m (by omega) y (by rw [lat_take hm];exact h2);rw [h3] at this
    cases this
   ·omega
def bad (t:List E5):Bool:=!mayB t
def bI (L:LL):Int:=idx bad 0 L
def pc (L:LL) (n:Nat) (x:E5):Bool:=decide (x.1=1∧0≤sN x.2.1 (L.take n))
def pg (L:LL) (_:Nat) (x:E5):Bool:=decide (x.1=2∧sN x.2.1 L < 0)
def qc (F:Nat→Int) (n:Nat) (x:E5):Bool:=decide (x.1=1∧¬ F x.2.1.toNat=n)
def qg (F:Nat→Int) (_:Nat) (x:E5):Bool:=decide (x.1=2∧F x.2.1.toNat < 0)
def clN (L:LL):Int:=whoN (pc L) L
def gaN (L:LL):Int:=whoN (pg L) L
def sF (L:LL) (s:Nat):Int:=sN s L
def tN (L:LL):Int:=if 0≤bI L then bI L else if 0≤clN L then clN L else if 0≤gaN L then gaN L else -1
def tE (L:LL):Int:=if 0≤bI L then 2 else if 0≤clN L then 8 else if 0≤gaN L then 9 else 0
theorem t_form {L:LL} (h:0≤bI L):tN L=bI L∧tE L=2:=by unfold tN tE;rw [if_pos h,if_pos h];exact ⟨rfl,rfl⟩
theorem t_clash {L:LL} (h:¬ 0≤bI L) (h2:0≤clN L):tN L=clN L∧tE L=8:=by unfold tN tE;rw [if_neg h,if_neg h,if_pos h2,if_pos h2];exact ⟨rfl,rfl⟩
theorem t_gap {L:LL} (h:¬ 0≤bI L) (h2:¬ 0≤clN L) (h3:0≤gaN L):tN L=gaN L∧tE L=9:=by unfold tN tE;rw [if_neg h,if_neg h,if_neg h2,if_neg h2,if_pos h3,if_pos h3];exact ⟨rfl,rfl⟩
theorem t_ok {L:LL} (h:¬ 0≤bI L) (h2:¬ 0≤clN L) (h3:¬ 0≤gaN L):tN L = -1∧tE L=0:=by unfold tN tE;rw [if_neg h,if_neg h,if_neg h2,if_neg h2,if_neg h3,if_neg h3];exact ⟨rfl,rfl⟩
theorem may_all {L:LL} (h:¬ 0≤bI L):∀ k,k < L.length→mayP (lat L k):=fun k hk=>by
 have:=idx_all (q:=bad) (L:=L) (n:=0) (by unfold bI at h;omega) k hk;unfold bad mayB at this
 simpa using this
theorem may_slot {t:List E5} (h:mayP t) {x:E5} (hx:x∈t):0≤x.2.1∧x.2.1≤16:=(okE_bounds (Ro.may_each h x hx).1).2.1
theorem clash_same {L:LL} (h:¬ 0≤bI L):whoN (qc (sF L)) L=clN L:=by
 refine (who_congr fun k hk x hx=>?_).1;have b:=may_slot (may_all h k hk) hx;unfold qc pc sF;rw [show ((x.2.1.toNat:Nat):Int)=x.2.1 by omega]
 by_cases h1:x.1=1
 ·have g:=who_hit (p:=snd x.2.1) hk hx (snd_yes h1 rfl)
  have t:=sN_take (L:=L) (n:=k) (by omega) x.2.1;unfold sN at t ⊢
  apply decide_eq_decide.2
  constructor
  ·intro ⟨_,a⟩;exact ⟨h1,t.2 ⟨g.1,by omega⟩⟩
  ·intro ⟨_,a⟩;have:=t.1 a;exact ⟨h1,by omega⟩
 ·simp [h1]
theorem gap_same {L:LL} (h:¬ 0≤bI L):whoN (qg (sF L)) L=gaN L:=by
 refine (who_congr fun k hk x hx=>?_).1;have b:=may_slot (may_all h k hk) hx;unfold qg pg sF;rw [show ((x.2.1.toNat:Nat):Int)=x.2.1 by omega]
def all (p:E5→Bool) (L:LL):Nat:=L.flatten.countP p
section
end
end Go.Proofs.YtljnkaodhfnbbaaGreatDoor.Ck
namespace Go.Proofs.YtljnkaodhfnbbaaGreatDoor.Ua
open Go.RowKit
def bit (b:Int) (j:Nat):Bool:=decide (b / 2 ^ j % 2=1)
def par (F:Nat→Bool):Nat→Bool
 | 0=>false
 | k+1=>par F k != F (k+1)
def val (F:Nat→Bool):Nat→Nat
 | 0=>0
 | k+1=>val F k+if F (k+1) then 2 ^ k else 0
def upd (F:Nat→Bool) (k:Nat) (x:Bool) (i:Nat):Bool:=if i=k then x else F i
def put (b:Int) (k:Nat) (i:Nat):Bool:=if 1≤i∧i < k then bit b (i - 1) else false
def frm (b:Int) (odd:Bool):Nat→Bool:=upd (upd (put b 9) 9 (par (put b 9) 9 != odd)) 10 true
def turn (F:Nat→Bool) (m:Int) (k:Nat) (i:Nat):Bool:=if i < k then F i != bit m i else F i
def bad (F:Nat→Bool):Bool:=F 0 || !F 10
def tb (F:Nat→Bool):Int:=if bad F then 0 else val F 8
def tp (F:Nat→Bool):Bool:=if bad F then false else par F 9
def te (F:Nat→Bool):Int:=if bad F then 2 else 0
theorem par_congr {F G:Nat→Bool} : ∀ k,(∀ i,1≤i→i≤k→F i=G i)→par F k=par G k
 | 0,_=>rfl
 | k+1,h=>by rw [par,par,par_congr k (fun i h1 h2=>h i h1 (by omega)),h (k+1) (by omega) (by omega)]
theorem val_congr {F G:Nat→Bool} : ∀ k,(∀ i,1≤i→i≤k→F i=G i)→val F k=val G k
 | 0,_=>rfl
 | k+1,h=>by rw [val,val,val_congr k (fun i h1 h2=>h i h1 (by omega)),h (k+1) (by omega) (by omega)]
theorem val_lt (F:Nat→Bool):∀ k,val F k < 2 ^ k
 | 0=>Nat.lt_succ_self 0
 | k+1=>by have:=val_lt F k;rw [val,Nat.pow_succ];split <;> omega
theorem and_bit_all:∀ b:Fin 256,∀ j:Fin 8,(bits BinOp.and .u8 (b.val:Int) (2 ^ j.val) != 0)=decide ((b.val:Int) / 2 ^ j.val % 2=1):=by decide +kernel
theorem and_bit (b:Int) (j:Nat) (h0:0≤b) (h1:b≤255) (hj:j < 8):(bits BinOp.and .u8 b (2 ^ j) != 0)=bit b j:=by
 have:=and_bit_all ⟨b.toNat,by omega⟩ ⟨j,hj⟩;simp only at this;rw [show ((b.toNat:Nat):Int)=b by omega] at this;exact this
theorem or_bit_all:∀ b:Fin 256,∀ j:Fin 8,b.val < 2 ^ j.val→bits BinOp.or .u8 (b.val:Int) (2 ^ j.val)=((b.val+2 ^ j.val:Nat):Int):=by decide +kernel
theorem or_bit (b j:Nat) (hj:j < 8) (h:b < 2 ^ j):bits BinOp.or .u8 (b:Int) (2 ^ j)=((b+2 ^ j:Nat):Int) :=
 or_bit_all ⟨b,by have:2 ^ j≤2 ^ 7:=Nat.pow_le_pow_right (by omega) (by omega)
                  omega⟩ ⟨j,hj⟩ h
theorem and_i64 (x:Int) (c:Nat) (hc:c < 9223372036854775808):bits BinOp.and .i64 x (c:Int)=(((x % 18446744073709551616).toNat &&& c:Nat):Int):=by
 have e:(BitVec.ofInt 64 x &&& BitVec.ofInt 64 (c:Int)).toNat=(x % 18446744073709551616).toNat &&& c:=by
  rw [BitVec.toNat_and,BitVec.toNat_ofInt,BitVec.toNat_ofInt]
  congr 1
  simp
  omega
 show IntKind.i64.wrap (((BitVec.ofInt 64 x &&& BitVec.ofInt 64 (c:Int)).toNat:Nat):Int)=_
 rw [e];have l:(x % 18446744073709551616).toNat &&& c≤c:=Nat.and_le_right;exact IntWalk.i64_in _ (by omega)
theorem and_one (x:Int):bits BinOp.and .i64 x 1=x % 2:=by
 have:=and_i64 x 1 (by omega);rw [Nat.and_one_is_mod] at this;rw [show (1:Int)=((1:Nat):Int) from rfl,this]
 omega
theorem test_one (m:Int) (k:Nat):(bits BinOp.and .i64 (m / 2 ^ k) 1 == 1)=bit m k:=by rw [and_one];rfl
end Go.Proofs.YtljnkaodhfnbbaaGreatDoor.Ua
