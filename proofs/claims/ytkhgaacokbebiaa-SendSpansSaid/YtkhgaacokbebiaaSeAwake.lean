/- The fixed fact of layer 4: that it is true. -/
import Derived.Test.YtkhgaacokbebiaaSeSpans
import Derived.Test.YtkhgaacokbebiaaSeRef
namespace Go.Proofs.Ytkhgaacokbebiaa.Se
open Go.RowKit Go.Proofs.Ytkhgaacokbebiaa.Tk Go.Proofs.Ytkhgaacokbebiaa.Sp
open Go.Proofs.Ytkhgaacokbebiaa.Wi (PlainOf Plain Made plain_one low_one Low sameB sp_one same_any)
open Go.Proofs.Ytkhgaacokbebiaa.Ua (arr Row frm rput_any)

def zero (_ : Nat) : Int := 0
theorem steps_nil (w : World) : Tk.Steps w (.slice none 0 0) 0 zero zero := .inl ⟨none, 0, rfl, by unfold maxLen; omega, rfl⟩
theorem frm_high (i : Nat) (h : i < 11) : frm 255 true i = decide (i ≠ 0) := by
  rcases (by omega : i = 0 ∨ i = 1 ∨ i = 2 ∨ i = 3 ∨ i = 4 ∨ i = 5 ∨ i = 6 ∨ i = 7 ∨ i = 8 ∨ i = 9 ∨ i = 10) with rfl | rfl | rfl | rfl | rfl | rfl | rfl | rfl | rfl | rfl | rfl <;> decide +kernel
theorem lows_ex (t : Int) : Wi.Low (lows (Glo zero zero 0) (frm 255 true) 100 11) t ↔ 100 ≤ t ∧ t < 116 := by
  constructor
  · rintro ⟨s, hs, a, b⟩
    obtain ⟨i, hi, hf, rfl⟩ := lows_mem.1 hs
    rw [frm_high i hi] at hf
    have : i = 0 := by simpa using hf
    subst this
    have e0 : Glo zero zero 0 100 = 100 := Glo0 _ _ _ (by omega) (by omega)
    have e1 : Glo zero zero 0 116 = 116 := Glo0 _ _ _ (by omega) (by omega)
    simp at a b
    omega
  · rintro ⟨a, b⟩
    refine ⟨(Glo zero zero 0 (100 + 16 * (0 : Nat)), Glo zero zero 0 (100 + 16 * (0 : Nat) + 16)), lows_mem.2 ⟨0, by omega, by decide +kernel, rfl⟩, ?_⟩
    rw [Glo0 _ _ _ (by omega) (by omega), Glo0 _ _ _ (by omega) (by omega)]
    simp
    omega
theorem spans_ex {l : List S2} (h : PlainOf (lows (Glo zero zero 0) (frm 255 true) 100 11) l) : l = [(100, 116)] := by
  refine plain_one h.1 ⟨fun s hs => by simp at hs; subst hs; decide, List.pairwise_singleton _ _⟩ fun t => ?_
  rw [h.2, lows_ex, low_one]

set_option maxHeartbeats 1000000 in
theorem awake_any (w : World) : Calls Try.prog 6 #[] w fun e w' => e = .returned (.bool true) ∧ Below w.heap.size w w' := by
  go_enter Try.func6, Try.ntmps6
  go_wp2_with fail
  refine (rput_any _ 255 true (by omega) (by omega)).mono ?_
  rintro e w1 ⟨rfl, b1⟩
  have B1 := Lib.hid b1
  clear b1
  go_wp2_with fail
  refine (spans_any _ _ 0 zero zero (steps_nil _) (good0 _ _) 100 (by omega) (by omega) (frm 255 true)).mono ?_
  rintro e w2 ⟨v1, l, rfl, hown, hpo, b2⟩
  obtain rfl := spans_ex hpo
  have B2 := Lib.hid (B1.out.trans (b2.mono B1.out.size))
  have S2 := Lib.hid hown.sp
  obtain ⟨a1, c1, rfl, _⟩ := hown.sp.slice
  clear hown hpo b2
  go_wp2_with fail
  refine (window_any _ _ 0 zero zero (steps_nil _) (good0 _ _) 2 (by omega) (by omega)).mono ?_
  rintro e w3 ⟨rfl, b3⟩
  rw [Glo0 zero zero (224 * 2) (by omega) (by omega), Glo0 zero zero (224 * 2 + 224) (by omega) (by omega)]
  have B3 := Lib.hid (B2.out.trans (b3.mono B2.out.size))
  have S3 := Lib.hid (S2.out.below b3)
  have z3 := B3.out.size
  clear b3 S2
  have T3 := Lib.hid (S3.out.below ((Below.refl _ _).alloc (Nat.le_refl _) (.cells #[.int .i64 100, .int .i64 116] 37)))
  go_wp2_with fail
  refine (Wi.at_bool (show sameB [(100, 116)] [(100, 116)] = true by simp [sameB]) (same_any _ _ _ _ _ T3.out (sp_one w3 100 116))).mono ?_
  rintro e w4 ⟨rfl, b4⟩
  have B4 := Lib.hid ((B3.out.alloc z3 _).trans (b4.mono (by simp; omega)))
  clear b4
  go_wp2
  go_ret
  exact ⟨rfl, B4.out⟩

end Go.Proofs.Ytkhgaacokbebiaa.Se
