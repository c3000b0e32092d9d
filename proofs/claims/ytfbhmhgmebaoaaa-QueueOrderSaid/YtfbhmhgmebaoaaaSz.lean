/- As XSc, of a region whose last operation, which waits for all others, may turn what the light ones read. -/
import Derived.Test.YtfbhmhgmebaoaaaSc
namespace Go.Proofs.Ytfbhmhgmebaoaaa.Sz
open Go.RowKit
open Go.Proofs.Ytfbhmhgmebaoaaa.Sd (light light_value picks)
open Go.Proofs.Ytfbhmhgmebaoaaa.Sc (In)

/-- Whatever order is picked: S holds behind every operation but number z. -/
def wpAnyZ (P : Program) (md : Region.Mode) (ops : Array Oper) (Q : Exit → Act → World → Prop) (S : World → Prop) (z : Nat) : Nat → Array Bool → Act → World → Prop
  | 0, listed, a, w => Region.ready md ops listed = [] ∧ Q .normal a w
  | fuel + 1, listed, a, w =>
    (Region.ready md ops listed = [] → Q .normal a w) ∧
    ∀ i ∈ Region.ready md ops listed, wpOp P ops Q i (fun a' w' => (i = z ∨ S w') ∧ wpAnyZ P md ops Q S z fuel (listed.setIfInBounds i true) a' w') a w
section
variable {P : Program} {md : Region.Mode} {ops : Array Oper} {Q : Exit → Act → World → Prop} {S : World → Prop} {z : Nat}
theorem any_of : ∀ (fuel : Nat) (listed : Array Bool) (a : Act) (w : World), wpAnyZ P md ops Q S z fuel listed a w → wpAny P md ops Q fuel listed a w
  | 0, _, _, _, h => h
  | fuel + 1, _, _, _, h => ⟨h.1, fun i hi => wpOp_mono (fun a' w' h' => any_of fuel _ a' w' h'.2) (h.2 i hi)⟩
/-- Number z can't come up ahead of number i: it waits for it, or for one that is still to come up and waits for it. -/
def Blocks (md : Region.Mode) (ops : Array Oper) (z i : Nat) (listed : Array Bool) : Prop := ∃ oz e, ops[z]? = some oz ∧ e ∈ oz.after ∧ Region.binds md e = true ∧ listed.getD e.on true = false ∧ (e.on = i ∨ ∃ ok, ops[e.on]? = some ok ∧ ∃ e' ∈ ok.after, Region.binds md e' = true ∧ e'.on = i)
theorem first {i : Nat} {oi : Oper} {v : Value} (hi : ops[i]? = some oi) (hsel : ∀ (j : Nat) (o : Oper) cs b, ops[j]? = some o → o.op ≠ .select cs b)
    (hQ : ∀ c a w, Q (.panic c) (a.put oi.dst v) w → Q (.panic c) a w) :
    ∀ (fuel : Nat) (listed : Array Bool) (a : Act) (w : World), Blocks md ops z i listed →
      (∀ j oj, ops[j]? = some oj → j ≠ i → listed.getD j true = false → (∀ e ∈ oj.after, Region.binds md e = true → e.on ≠ i) → oi.apart ops oj = true) →
      i ∈ Region.ready md ops listed → YieldsIf P ops S oi v a → S w →
      wpAnyZ P md ops Q S z fuel (listed.setIfInBounds i true) (a.put oi.dst v) w → wpAnyZ P md ops Q S z (fuel + 1) listed a w := by
  intro fuel
  induction fuel with
  | zero =>
    intro listed a w _ _ hr hy hS H
    refine ⟨fun h => (by rw [h] at hr; cases hr), fun j hj => ?_⟩
    by_cases hji : j = i
    · subst hji; exact hy.wpOp hi hS ⟨.inr hS, H⟩
    · have := ready_mono hj hji
      rw [H.1] at this
      cases this
  | succ fuel ih =>
    intro listed a w hz hfree hr hy hS H
    refine ⟨fun h => (by rw [h] at hr; cases hr), fun j hj => ?_⟩
    by_cases hji : j = i
    · subst hji; exact hy.wpOp hi hS ⟨.inr hS, H⟩
    · have h1 := H.2 j (ready_mono hj hji)
      obtain ⟨hjun, oj, hoj, hall⟩ := mem_ready.1 hj
      have hnot : ∀ e ∈ oj.after, Region.binds md e = true → e.on ≠ i := fun e he hb heq => by
        have h1 := hall e he hb
        have h0 := (mem_ready.1 hr).1
        rw [heq] at h1
        rcases Nat.lt_or_ge i listed.size with h' | h'
        · simp [h'] at h0 h1; rw [h0] at h1; cases h1
        · simp [Array.getElem?_eq_none h'] at h1
      obtain ⟨oz, ez, hoz, hez, hbz, hnl, hor⟩ := hz
      have low : ∀ {k : Nat}, listed.getD k true = false → listed.getD k false = false := fun {k} h => by
        rcases Nat.lt_or_ge k listed.size with h' | h'
        · simp [h'] at h ⊢; exact h
        · simp [Array.getElem?_eq_none h'] at h
      have hjz : j ≠ z := fun e => by
        subst e
        rw [hoj] at hoz
        obtain rfl := Option.some.inj hoz
        have := hall ez hez hbz
        rw [low hnl] at this
        cases this
      have hje : j ≠ ez.on := fun e => by
        rcases hor with h | ⟨ok, hok, e', he', hb', hon⟩
        · exact hji (e.trans h)
        · rw [← e, hoj] at hok
          obtain rfl := Option.some.inj hok
          exact hnot e' he' hb' hon
      have hz' : Blocks md ops z i (listed.setIfInBounds j true) := ⟨oz, ez, hoz, hez, hbz, by rw [getD_set_ne true hje]; exact hnl, hor⟩
      have h2 := wpOp_putIf hoj (hfree j oj hoj hji hjun hnot) (fun cs b => hsel i oi cs b hi) (fun cs b => hsel j oj cs b hoj) hQ hy h1
      have hfree' : ∀ k ok, ops[k]? = some ok → k ≠ i → (listed.setIfInBounds j true).getD k true = false →
          (∀ e ∈ ok.after, Region.binds md e = true → e.on ≠ i) → oi.apart ops ok = true := fun k ok hk hki hun hno => by
        refine hfree k ok hk hki ?_ hno
        by_cases hjk : j = k
        · subst hjk; exact hjun
        · rw [getD_set_ne true hjk] at hun; exact hun
      refine wpOp_mono (fun a' w' h3 => ?_) h2
      have hS' := h3.2.1.resolve_left hjz
      refine ⟨.inr hS', ih (listed.setIfInBounds j true) a' w' hz' hfree' (ready_mono hr (Ne.symm hji)) h3.1 hS' ?_⟩
      rw [Array.setIfInBounds_comm _ _ hji]
      exact h3.2.2
theorem fin {listed : Array Bool} {a : Act} {w : World} (hr : Region.ready md ops listed = []) (h : Q .normal a w) :
    ∀ fuel, wpAnyZ P md ops Q S z fuel listed a w
  | 0 => ⟨hr, h⟩
  | _ + 1 => ⟨fun _ => h, by rw [hr]; simp⟩
theorem all {rs : List Nat} {fuel : Nat} {listed : Array Bool} {a : Act} {w : World} (hr : Region.ready md ops listed = rs) (hne : rs ≠ [])
    (h : ∀ i ∈ rs, wpOp P ops Q i (fun a' w' => (i = z ∨ S w') ∧ wpAnyZ P md ops Q S z fuel (listed.setIfInBounds i true) a' w') a w) : wpAnyZ P md ops Q S z (fuel + 1) listed a w :=
  ⟨fun h0 => absurd (hr ▸ h0) hne, hr ▸ h⟩
end

def blocksB (ops : Array Oper) (z i : Nat) (listed : Array Bool) : Bool := match ops[z]? with
  | some oz => oz.after.any fun e => Region.binds .any e && !listed.getD e.on true && (e.on == i || match ops[e.on]? with
    | some ok => ok.after.any fun e' => Region.binds .any e' && e'.on == i
    | none => false)
  | none => false
theorem blocks_of {ops : Array Oper} {z i : Nat} {listed : Array Bool} (h : blocksB ops z i listed = true) : Blocks .any ops z i listed := by
  unfold blocksB at h
  cases ho : ops[z]? with
  | none => rw [ho] at h; cases h
  | some oz =>
    rw [ho] at h
    obtain ⟨e, he, hb⟩ := Array.any_eq_true'.1 h
    simp only [Bool.and_eq_true, Bool.not_eq_true', Bool.or_eq_true, beq_iff_eq] at hb
    obtain ⟨⟨hb1, hb2⟩, hb3⟩ := hb
    refine ⟨oz, e, ho, he, hb1, hb2, ?_⟩
    rcases hb3 with h3 | h3
    · exact .inl h3
    · cases hk : ops[e.on]? with
      | none => rw [hk] at h3; cases h3
      | some ok =>
        rw [hk] at h3
        obtain ⟨e', he', hb'⟩ := Array.any_eq_true'.1 h3
        simp only [Bool.and_eq_true, beq_iff_eq] at hb'
        exact .inr ⟨ok, rfl, e', he', hb'.1, hb'.2⟩
/-- May the region be walked in that order, number z at its end? -/
def good (ops : Array Oper) (z : Nat) : List (Bool × Nat) → Array Bool → Nat → Bool
  | _, _, 0 => false
  | [], listed, _ + 1 => Region.ready .any ops listed == [z] && (Region.ready .any ops (listed.setIfInBounds z true)).isEmpty
  | (h, i) :: r, listed, fuel + 1 =>
    (match ops[i]? with
     | some o => i != z && (if h then Region.ready .any ops listed == [i] else light o.op && Region.free .any ops listed i && (Region.ready .any ops listed).contains i && blocksB ops z i listed)
     | none => false) && good ops z r (listed.setIfInBounds i true) fuel

def wpSz (P : Program) (ops : Array Oper) (C : World → Prop) (Q : Exit → Act → World → Prop) (E : Act → World → Prop) : List (Bool × Oper) → Act → World → Prop
  | [], a, w => E a w
  | (false, o) :: r, a, w => wpQuiet P ops C (fun a' => wpSz P ops C Q E r a' w) [o] a
  | (true, o) :: r, a, w => if Region.wanted o (yielded ops a.tmps) then o.wp P a w (fun a' w' => C w' ∧ wpSz P ops C Q E r a' w') Q else wpSz P ops C Q E r (a.put o.dst undef) w

theorem sound {P : Program} {l : List Oper} {C : World → Prop} {Q : Exit → Act → World → Prop} {z : Nat} {oz : Oper} (hs : Region.noSelect l.toArray = true) (hQ : ∀ c d v a w, Q (.panic c) (Act.put a d v) w → Q (.panic c) a w)
    (hoz : l[z]? = some oz) (hgd : oz.guard = none) :
    ∀ (sc : List (Bool × Nat)) (listed : Array Bool) (fuel : Nat) (a : Act) (w : World), good l.toArray z sc listed fuel = true → C w → wpSz P l.toArray C Q (fun a w => oz.wp P a w (fun a' w' => Q .normal a' w') Q) (picks l sc) a w → wpAnyZ P .any l.toArray Q C z fuel listed a w
  | [], listed, 0, a, w, hg, _, h => by cases hg
  | [], listed, fuel + 1, a, w, hg, _, h => by
    unfold good at hg
    simp only [Bool.and_eq_true, beq_iff_eq, List.isEmpty_iff] at hg
    refine all hg.1 (by simp) fun j hj => ?_
    obtain rfl : j = z := by simpa using hj
    have hop : l.toArray[j]? = some oz := by rw [List.getElem?_toArray]; exact hoz
    unfold wpOp
    simp only [hop]
    rw [if_pos (by simp [Region.wanted, hgd])]
    exact .inl (Oper.wp_mono (fun a' w' k => ⟨by simp, fin hg.2 k fuel⟩) h)
  | _ :: _, _, 0, _, _, hg, _, _ => by cases hg
  | (b, i) :: r, listed, fuel + 1, a, w, hg, hC, h => by
    unfold good at hg
    simp only [Bool.and_eq_true] at hg
    obtain ⟨hg1, hg2⟩ := hg
    have hll : l.toArray[i]? = l[i]? := by rw [List.getElem?_toArray]
    cases ho : l[i]? with
    | none => rw [hll, ho] at hg1; cases hg1
    | some o =>
      rw [hll, ho] at hg1
      simp only [Bool.and_eq_true, bne_iff_ne, ne_eq] at hg1
      obtain ⟨_, hg1⟩ := hg1
      have hop := hll.trans ho
      have hp : picks l ((b, i) :: r) = (b, o) :: picks l r := by rw [picks, ho]
      rw [hp] at h
      cases b with
      | true =>
        simp only [if_true, beq_iff_eq] at hg1
        refine all hg1 (by simp) fun j hj => ?_
        obtain rfl : j = i := by simpa using hj
        unfold wpOp
        simp only [hop]
        unfold wpSz at h
        by_cases hw : Region.wanted o (yielded l.toArray a.tmps) = true
        · rw [if_pos hw] at h ⊢
          exact .inl (Oper.wp_mono (fun a' w' ⟨c, k⟩ => ⟨.inr c, sound hs hQ hoz hgd r _ fuel a' w' hg2 c k⟩) h)
        · rw [if_neg hw] at h ⊢
          exact ⟨.inr hC, sound hs hQ hoz hgd r _ fuel _ w hg2 hC h⟩
      | false =>
        simp only [Bool.false_eq_true, if_false, Bool.and_eq_true] at hg1
        obtain ⟨⟨⟨hk, hf⟩, hr⟩, hbl⟩ := hg1
        have hr' : i ∈ Region.ready .any l.toArray listed := by simpa using hr
        unfold wpSz at h
        by_cases hw : Region.wanted o (yielded l.toArray a.tmps) = true
        · unfold wpQuiet at h
          rw [if_pos hw] at h
          obtain ⟨v, hv, hn⟩ := h
          refine first (v := v) hop (Region.noSelect_spec hs) (fun c a w => hQ c _ _ a w) fuel listed a w (blocks_of hbl) (Region.free_spec hop hf) hr' (.inl ⟨hw, fun w' hw' => ?_⟩) hC (sound hs hQ hoz hgd r _ fuel _ w hg2 hC hn)
          have q := hv w' hw'
          unfold Oper.quietAt at q
          cases e : (execOp a.eval o).run P w' with
          | halt x w1 => rw [e] at q; cases q
          | ok n w1 =>
            obtain ⟨u, rfl⟩ := light_value hk e
            rw [e] at q
            obtain ⟨e1, e2⟩ := q
            rw [e1, e2]
        · unfold wpQuiet at h
          rw [if_neg hw] at h
          exact first (v := undef) hop (Region.noSelect_spec hs) (fun c a w => hQ c _ _ a w) fuel listed a w (blocks_of hbl) (Region.free_spec hop hf) hr' (.inr ⟨by simpa using hw, rfl⟩) hC (sound hs hQ hoz hgd r _ fuel _ w hg2 hC h)

/-- The beginning: the order of all but the last operation, number z. -/
theorem start {P : Program} {id : Nat} {l : List Oper} {Q : Exit → Act → World → Prop} {a : Act} {w : World} {oz : Oper} (C : World → Prop) (sc : List (Bool × Nat)) (z : Nat) (hm : P.follows .mixedOrders = true) (hs : Region.noSelect l.toArray = true)
    (hg : good l.toArray z sc (Array.replicate l.toArray.size false) l.toArray.size = true) (hoz : l[z]? = some oz) (hgd : oz.guard = none) (h0 : C w.drew)
    (h : wpSz P l.toArray (fun w' => ∃ p : In C, w' = p.world) (NoPanic Q) (fun a w => oz.wp P a w (fun a' w' => NoPanic Q .normal a' w') (NoPanic Q)) (picks l sc) a w.drew) : (Code.region id l.toArray true).wp P Q a w :=
  wp_region_noPanic (wp_region_any hm (any_of _ _ _ _ (sound hs (fun _ _ _ _ _ h => h) hoz hgd sc _ _ a _ hg (Sc.Cl.of h0) h)))
section
variable {P : Program} {ops : Array Oper} {C : World → Prop} {Q : Exit → Act → World → Prop} {E : Act → World → Prop} {a : Act} {w : World} {o : Oper} {r : List (Bool × Oper)}
theorem done (h : E a w) : wpSz P ops C Q E [] a w := h
theorem lit (h : wpQuiet P ops C (fun a' => wpSz P ops C Q E r a' w) [o] a) : wpSz P ops C Q E ((false, o) :: r) a w := h
theorem call (hw : Region.wanted o (yielded ops a.tmps) = true) (h : ∀ K : Act → World → Prop, (∀ a w, C w → wpSz P ops C Q E r a w → K a w) → o.wp P a w K Q) : wpSz P ops C Q E ((true, o) :: r) a w := by
  unfold wpSz
  rw [if_pos hw]
  exact h _ fun a w c k => ⟨c, k⟩
end

end Go.Proofs.Ytfbhmhgmebaoaaa.Sz
