/- The three statements of layer 2, walked: each returns true and writes nothing that was there. -/
import Derived.Test.YtkhgaacokbebiaaWiAwake
namespace Go.Proofs.Ytkhgaacokbebiaa.Wi
open Go.RowKit Go.Proofs.Ytkhgaacokbebiaa.Sp

/-- 'list = append(list, other...)', of a list that is the call's own, and another one that it made. -/
theorem all_step {w : World} {ops : Array Oper} {rest : List Oper} {o : Oper} {a : Act} {Q : Exit → Act → World → Prop} (hgd : Region.wanted o (yielded ops a.tmps) = true) (s x : Operand)
    (ho : o.op = .call { callee := .builtin .append, args := #[s, x], argTypes := #[32, 32] }) (B : Nat) (v : Value) (l : List S2) (hs : a.eval s = v) (hown : Own w B 37 v l)
    (B' : Nat) (u : Value) (y : List S2) (hx : a.eval x = u) (hu : Own w B' 37 u y) (hlen : l.length + y.length < 4398046511104) (hB : B ≤ w.heap.size)
    (h : ∀ v' w', Own w' B 37 v' (l ++ y) → Below B w w' → wpList Try.prog ops Q rest (a.put o.dst v') w') : wpList Try.prog ops Q (o :: rest) a w := by
  obtain ⟨i0, hi, hz0, hz1, hz2⟩ := info_parts infoS
  have hcells := fun g hg j u => World.ownsRow.cells hu (g := g) hg j u
  obtain ⟨hul, hu2⟩ := hu
  rcases hu2 with ⟨rfl, h0⟩ | ⟨g, cap, cur, rfl, _, _, _, _, _, _⟩
  · have ey : y = [] := List.length_eq_zero_iff.1 h0
    refine BigFrame.wpList_want hgd fun K hK => ?_
    have hrun := run_append_owned_none (P := Try.prog) (w := w) B 32 o.type 37 i0 2 Try.underlying32 hi v l.length (flat l) hown
    unfold Oper.wp
    have hk := hK _ _ (h v w (by rw [ey, List.append_nil]; exact hown) (Below.refl _ _))
    simp [execOp, ho, resolve, invoke, builtin, hs, hx, hrun, Result.andThen]
    exact hk
  · refine BigFrame.wpList_want hgd fun K hK => ?_
    refine wp_append_own _ s x 32 ho B 37 i0 (.agg #[.int .i64 0, .int .i64 0]) 2 16 Try.underlying32 hi hz0 hz1 hz2 rfl (by decide) v l.length (flat l) hs hown ⟨g, 0, none⟩ y.length cap (flat y) hx (flat_length y) ?_ (flat_one y) ?_ ?_ hB ?_
    · exact fun j u hj => hcells g rfl j u hj
    · unfold maxLen; omega
    · omega
    · intro v' w' h2 h3 _
      refine hK _ _ (h v' w' ?_ ((Below.refl B w).grown h3 hB fun k hk => (World.ownsRow.lt hown k hk).1))
      show w'.ownsRow B 37 2 v' (l ++ y).length (flat (l ++ y))
      rw [flat_append, List.length_append]
      exact h2

theorem same_of {x a b : List S2} (ha : PlainOf x a) (hb : PlainOf x b) : sameB a b = true := by rw [ha.one hb]; simp [sameB]
theorem near_append {x y : List S2} (hx : Near x) (hy : Near y) : Near (x ++ y) := by
  have e : ∀ i, i < (x ++ y).length → (i < x.length ∧ fr (x ++ y) i = fr x i ∧ tp (x ++ y) i = tp x i) ∨ (i - x.length < y.length ∧ fr (x ++ y) i = fr y (i - x.length) ∧ tp (x ++ y) i = tp y (i - x.length)) := fun i hi => by
    by_cases c : i < x.length
    · exact .inl ⟨c, by simp [fr, List.getD, List.getElem?_append_left c], by simp [tp, List.getD, List.getElem?_append_left c]⟩
    · have c' : x.length ≤ i := by omega
      exact .inr ⟨by simp at hi; omega, by simp [fr, List.getD, List.getElem?_append_right c'], by simp [tp, List.getD, List.getElem?_append_right c']⟩
  refine ⟨fun i hi => ?_, fun i hi => ?_, fun i hi => ?_, fun i hi => ?_⟩
  · rcases e i hi with ⟨c, e1, e2⟩ | ⟨c, e1, e2⟩
    · rw [e1]; exact hx.f0 _ c
    · rw [e1]; exact hy.f0 _ c
  · rcases e i hi with ⟨c, e1, e2⟩ | ⟨c, e1, e2⟩
    · rw [e1]; exact hx.f1 _ c
    · rw [e1]; exact hy.f1 _ c
  · rcases e i hi with ⟨c, e1, e2⟩ | ⟨c, e1, e2⟩
    · rw [e2]; exact hx.t0 _ c
    · rw [e2]; exact hy.t0 _ c
  · rcases e i hi with ⟨c, e1, e2⟩ | ⟨c, e1, e2⟩
    · rw [e2]; exact hx.t1 _ c
    · rw [e2]; exact hy.t1 _ c

theorem fall_one {w : World} {l : List S2} {f t : Int} {x : List S2} (hx : PlainOf l x) {e : Ending} {w' : World} (h : FallPost w l f t e w') : e = .returned (.tuple #[.int .i64 (FallV x f t).1, .bool (FallV x f t).2]) ∧ Below w.heap.size w w' := by
  obtain ⟨y, hy, he, hb⟩ := h
  have : y = x := hy.one hx
  subst this
  exact ⟨he, hb⟩

theorem low_or {x y l : List S2} (h : PlainOf (x ++ y) l) (t : Int) : lowB l t = (lowB x t || lowB y t) := by
  rw [Bool.eq_iff_iff, Bool.or_eq_true, lowB_iff, lowB_iff, lowB_iff, h.2, low_append]
theorem plain_self {l : List S2} (h : Plain l) : PlainOf l l := ⟨h, fun _ => Iff.rfl⟩
theorem same_self {x l m : List S2} (h : PlainOf x l) (hm : PlainOf l m) : sameB m l = true := by rw [hm.one (plain_self h.1)]; simp [sameB]
theorem same_swap {x y l m : List S2} (h : PlainOf (x ++ y) l) (hm : PlainOf (y ++ x) m) : sameB m l = true := by
  have : PlainOf (x ++ y) m := ⟨hm.1, fun t => by rw [hm.2, low_append, low_append]; exact Or.comm⟩
  rw [this.one h]; simp [sameB]
theorem meet_swap (x y : List S2) : meetB y x = meetB x y := by
  by_cases h : Meets x y
  · rw [meetB_true h, meetB_true (meets_comm.1 h)]
  · rw [meetB_false h, meetB_false fun k => h (meets_comm.1 k)]

end Go.Proofs.Ytkhgaacokbebiaa.Wi
