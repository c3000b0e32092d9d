/- Regions that draw their order and hold calls whose results are only known by what they are: walked once, in one order that the prover names, in which each light operation comes up as soon as it may and each call alone. -/
import Derived.WalkKit
import Derived.Test.YtfbhmhgmebaoaaaAb
import Derived.OrdersHeld
import Derived.Deep.RegionHeld3
import Derived.Deep.QuietTactic
import Derived.BigQuiet
namespace Go.Proofs.Ytfbhmhgmebaoaaa.Sd
open Go.RowKit

def isLen : Callee → Bool
  | .builtin .len => true
  | _ => false
/-- Operations that yield a value or halt, and enter nothing. -/
def light : Op → Bool
  | .call c => isLen c.callee
  | .move _ => true | .assign _ => true | .pick .. => true | .load .. => true | .binOp .. => true | .unOp .. => true | .convert .. => true
  | .fieldAddr .. => true | .field .. => true | .indexAddr .. => true | .index .. => true | .extract .. => true | .build .. => true
  | .nilCheck _ => true | .lookup .. => true | .makeInterface .. => true | .slice .. => true
  | _ => false

theorem value_of {P : Program} {s : Sem Value} {w w' : World} {n : Next} (h : (do let x ← s; pure (Next.value x) : Sem Next).run P w = .ok n w') : ∃ v, n = .value v := by
  simp only [Sem.run_bind, Sem.run_pure] at h
  cases e : s.run P w with
  | ok x w1 => rw [e] at h; simp only [Result.andThen] at h; injection h with h1 h2; exact ⟨x, h1.symm⟩
  | halt x w1 => rw [e] at h; simp only [Result.andThen] at h; cases h
def OnlyV (s : Sem Next) : Prop := ∀ (P : Program) (w w' : World) (n : Next), s.run P w = .ok n w' → ∃ v, n = .value v
theorem ov_bind {β : Type} (s : Sem β) (f : β → Sem Next) (h : ∀ x, OnlyV (f x)) : OnlyV (s >>= f) := fun P w w' n hr => by
  rw [Sem.run_bind] at hr
  cases e : s.run P w with
  | ok x w1 => rw [e] at hr; exact h x P w1 w' n hr
  | halt x w1 => rw [e] at hr; cases hr
theorem ov_pure (v : Value) : OnlyV (pure (Next.value v)) := fun P w w' n h => by simp only [Sem.run_pure] at h; injection h with h1 h2; exact ⟨_, h1.symm⟩
theorem nil_value {ρ : Operand → Value} {o : Oper} {x : Operand} {P : Program} {w w' : World} {n : Next} (ho : o.op = .nilCheck x) (h : (execOp ρ o).run P w = .ok n w') : ∃ v, n = .value v := by
  unfold execOp at h
  rw [ho] at h
  simp only at h
  split at h
  · simp [runtimePanic] at h
  · simp [runtimePanic] at h
  · simp [runtimePanic] at h
  · split at h
    · simp [runtimePanic] at h
    · refine ov_bind _ _ (fun p => ov_bind _ _ fun r => ?_) P w w' n h
      split
      · exact ov_bind _ _ fun _ => ov_pure _
      · exact ov_pure _
    · simp only [Sem.run_pure] at h; injection h with h1 h2; exact ⟨_, h1.symm⟩
  · simp only [Sem.run_pure] at h; injection h with h1 h2; exact ⟨_, h1.symm⟩
theorem len_value {ρ : Operand → Value} {o : Oper} {c : Call} {P : Program} {w w' : World} {n : Next} (ho : o.op = .call c) (hc : isLen c.callee = true) (h : (execOp ρ o).run P w = .ok n w') : ∃ v, n = .value v := by
  obtain ⟨f, cas, ts⟩ := c
  cases f with
  | builtin b =>
    cases b with
    | len =>
      unfold execOp at h
      rw [ho] at h
      simp only [resolve, Sem.run_bind, Sem.run_pure, Result.andThen, invoke, builtin] at h
      exact value_of (s := Builtin.len_ _ _ _) (by simpa only [Sem.run_bind, Sem.run_pure, Result.andThen] using h)
    | _ => cases hc
  | _ => cases hc
theorem light_value {P : Program} {ρ : Operand → Value} {o : Oper} {w w' : World} {n : Next} (hl : light o.op = true) (h : (execOp ρ o).run P w = .ok n w') : ∃ v, n = .value v := by
  by_cases hc : ∃ x, o.op = .nilCheck x
  · obtain ⟨x, hx⟩ := hc
    exact nil_value hx h
  by_cases hd : ∃ c, o.op = .call c
  · obtain ⟨c, hx⟩ := hd
    rw [hx] at hl
    exact len_value hx hl h
  unfold execOp at h
  cases ho : o.op <;> rw [ho] at hl h <;> first | (exact (hd ⟨_, ho⟩).elim) | (cases hl; done) | (exact (hc ⟨_, ho⟩).elim) | skip
  all_goals first
    | exact value_of h
    | (simp only [Sem.run_pure] at h; injection h with h1 h2; exact ⟨_, h1.symm⟩)
    | (simp only [Sem.run_bind, Sem.run_pure] at h
       revert h
       cases (asBool _).run P w with
       | ok x w1 => intro h; simp only [Result.andThen] at h; injection h with h1 h2; exact ⟨_, h1.symm⟩
       | halt x w1 => intro h; simp only [Result.andThen] at h; cases h)

/-- The order that the prover names, as operations: true: a call, carried out alone; false: a light one, taken at once. -/
def picks (l : List Oper) : List (Bool × Nat) → List (Bool × Oper)
  | [] => []
  | (h, i) :: r => match l[i]? with
    | some o => (h, o) :: picks l r
    | none => picks l r
/-- May the region be walked in that order, whatever order it draws? -/
def good (ops : Array Oper) : List (Bool × Nat) → Array Bool → Nat → Bool
  | [], listed, _ => (Region.ready .any ops listed).isEmpty
  | _ :: _, _, 0 => false
  | (h, i) :: r, listed, fuel + 1 =>
    (match ops[i]? with
     | some o => if h then Region.ready .any ops listed == [i] else light o.op && Region.free .any ops listed i && (Region.ready .any ops listed).contains i
     | none => false) && good ops r (listed.setIfInBounds i true) fuel

def wpSd (P : Program) (ops : Array Oper) (C : World → Prop) (Q : Exit → Act → World → Prop) : List (Bool × Oper) → Act → World → Prop
  | [], a, w => Q .normal a w
  | (false, o) :: r, a, w => wpQuiet P ops C (fun a' => wpSd P ops C Q r a' w) [o] a
  | (true, o) :: r, a, w => if Region.wanted o (yielded ops a.tmps) then o.wp P a w (fun a' w' => C w' ∧ wpSd P ops C Q r a' w') Q else wpSd P ops C Q r (a.put o.dst undef) w

theorem sound {P : Program} {l : List Oper} {C : World → Prop} {Q : Exit → Act → World → Prop} (hs : Region.noSelect l.toArray = true) (hQ : ∀ c d v a w, Q (.panic c) (Act.put a d v) w → Q (.panic c) a w) :
    ∀ (sc : List (Bool × Nat)) (listed : Array Bool) (fuel : Nat) (a : Act) (w : World), good l.toArray sc listed fuel = true → C w → wpSd P l.toArray C Q (picks l sc) a w → wpAnyH P .any l.toArray Q C fuel listed a w
  | [], listed, fuel, a, w, hg, _, h => wpAnyH_done (List.isEmpty_iff.1 hg) h fuel
  | _ :: _, _, 0, _, _, hg, _, _ => by cases hg
  | (b, i) :: r, listed, fuel + 1, a, w, hg, hC, h => by
    unfold good at hg
    simp only [Bool.and_eq_true] at hg
    obtain ⟨hg1, hg2⟩ := hg
    have hll : l.toArray[i]? = l[i]? := by rw [List.getElem?_toArray]
    cases ho : l[i]? with
    | none => rw [hll, ho] at hg1; cases hg1
    | some o =>
      rw [hll, ho] at hg1
      have hop := hll.trans ho
      have hp : picks l ((b, i) :: r) = (b, o) :: picks l r := by rw [picks, ho]
      rw [hp] at h
      cases b with
      | true =>
        simp only [if_true, beq_iff_eq] at hg1
        refine wpAnyH_all hg1 (by simp) fun j hj => ?_
        obtain rfl : j = i := by simpa using hj
        unfold wpOp
        simp only [hop]
        unfold wpSd at h
        by_cases hw : Region.wanted o (yielded l.toArray a.tmps) = true
        · rw [if_pos hw] at h ⊢
          exact .inl (Oper.wp_mono (fun a' w' ⟨c, k⟩ => ⟨c, sound hs hQ r _ fuel a' w' hg2 c k⟩) h)
        · rw [if_neg hw] at h ⊢
          exact ⟨hC, sound hs hQ r _ fuel _ w hg2 hC h⟩
      | false =>
        simp only [Bool.false_eq_true, if_false, Bool.and_eq_true] at hg1
        obtain ⟨⟨hk, hf⟩, hr⟩ := hg1
        unfold wpSd at h
        by_cases hw : Region.wanted o (yielded l.toArray a.tmps) = true
        · unfold wpQuiet at h
          rw [if_pos hw] at h
          obtain ⟨v, hv, hn⟩ := h
          refine wpAnyH_take (v := v) hop hs hf hr (fun c a w => hQ c _ _ a w) (.inl ⟨hw, fun w' hw' => ?_⟩) hC (sound hs hQ r _ fuel _ w hg2 hC hn)
          have q := hv w' hw'
          unfold Oper.quietAt at q
          cases e : (execOp a.eval o).run P w' with
          | halt x w1 => rw [e] at q; cases q
          | ok n w1 =>
            obtain ⟨u, rfl⟩ := light_value hk e
            rw [e] at q
            obtain ⟨e1, e2⟩ := q
            rw [e1, e2]
        · unfold wpQuiet at h
          rw [if_neg hw] at h
          exact wpAnyH_take (v := undef) hop hs hf hr (fun c a w => hQ c _ _ a w) (.inr ⟨by simpa using hw, rfl⟩) hC (sound hs hQ r _ fuel _ w hg2 hC h)

/-- A world that is w but for what is new. -/
structure By (w : World) where
  world : World
  below : Below w.heap.size w world
instance (w : World) : Nonempty (By w) := ⟨⟨w, Below.refl _ _⟩⟩
def Cl (w : World) (w' : World) : Prop := ∃ p : By w, w' = p.world
theorem Cl.of {w w' : World} (h : Below w.heap.size w w') : Cl w w' := ⟨⟨w', h⟩, rfl⟩
theorem Cl.bel {w w' : World} (h : Cl w w') : Below w.heap.size w w' := by obtain ⟨p, rfl⟩ := h; exact p.below
/-- A cell that was there, in every world of the class. -/
theorem cell_by {w : World} {a : Addr} {v : Value} (h : w.cell? a = some v) (p : By w) : p.world.cell? a = some v := bCe p.below h

/-- The beginning: the region from the world behind its draw on, in the order 'sc'. -/
theorem start {P : Program} {id : Nat} {l : List Oper} {Q : Exit → Act → World → Prop} {a : Act} {w : World} (sc : List (Bool × Nat)) (hm : P.follows .mixedOrders = true) (hs : Region.noSelect l.toArray = true)
    (hg : good l.toArray sc (Array.replicate l.toArray.size false) l.toArray.size = true) (h : wpSd P l.toArray (fun w' => ∃ p : By w, w' = p.world) (NoPanic Q) (picks l sc) a w.drew) : (Code.region id l.toArray true).wp P Q a w :=
  wp_region_noPanic (wp_region_held_drew (S := fun w' => ∃ p : By w, w' = p.world) hm ⟨⟨w.drew, (Below.refl _ _).drew⟩, rfl⟩ fun _ => sound hs (fun _ _ _ _ _ h => h) sc _ _ a _ hg ⟨⟨w.drew, (Below.refl _ _).drew⟩, rfl⟩ h)
section
variable {P : Program} {ops : Array Oper} {C : World → Prop} {Q : Exit → Act → World → Prop} {a : Act} {w : World} {o : Oper} {r : List (Bool × Oper)}
theorem done (h : Q .normal a w) : wpSd P ops C (NoPanic Q) [] a w := h
theorem lit (h : wpQuiet P ops C (fun a' => wpSd P ops C Q r a' w) [o] a) : wpSd P ops C Q ((false, o) :: r) a w := h
/-- A call. -/
theorem call (hw : Region.wanted o (yielded ops a.tmps) = true) (h : ∀ K : Act → World → Prop, (∀ a w, C w → wpSd P ops C Q r a w → K a w) → o.wp P a w K Q) : wpSd P ops C Q ((true, o) :: r) a w := by
  unfold wpSd
  rw [if_pos hw]
  exact h _ fun a w c k => ⟨c, k⟩
/-- A call that is passed over. -/
theorem past (hw : Region.wanted o (yielded ops a.tmps) = false) (h : wpSd P ops C Q r (a.put o.dst undef) w) : wpSd P ops C Q ((true, o) :: r) a w := by
  unfold wpSd
  rw [if_neg (by rw [hw]; exact Bool.false_ne_true)]
  exact h
end

end Go.Proofs.Ytfbhmhgmebaoaaa.Sd
