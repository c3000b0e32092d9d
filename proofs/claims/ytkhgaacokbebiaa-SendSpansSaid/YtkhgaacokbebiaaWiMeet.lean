/- wire.Meet: is there a tick at which both are low? -/
import Derived.Test.YtkhgaacokbebiaaWiFall
import Derived.Shelf.SlSortCmp.QuietGrown
namespace Go.Proofs.Ytkhgaacokbebiaa.Wi
open Go.RowKit Go.Sort Go.Proofs.Ytkhgaacokbebiaa.Sp

/-- What is asked of a predicate on numbers. -/
def PredN (g : Nat) (lb : Array Value) (f : Int → Bool) (n : Int) (w : World) : Prop :=
  ∀ (W : World) (i : Int), 0 ≤ i → i < n → Below w.heap.size w W → Calls Try.prog g (#[.int .i64 i] ++ lb) W fun e w' => e = .returned (.bool (f i)) ∧ Below w.heap.size w w'
/-- What a search hands back. -/
def Found (f : Int → Bool) (n r : Int) : Prop := 0 ≤ r ∧ r ≤ n ∧ (r < n → f r = true) ∧ (0 < r → f (r - 1) = false)
def FoundPost (w : World) (f : Int → Bool) (n : Int) (e : Ending) (w' : World) : Prop := ∃ r, e = .returned (.int .i64 r) ∧ Found f n r ∧ Below w.heap.size w w'

set_option maxHeartbeats 1000000 in
theorem search_any (w : World) (g : Nat) (lb : Array Value) (f : Int → Bool) (n : Int) (eg : ∀ args w, (callFunc g args).run Try.prog w = .ok (.enter g args) w) (h0 : 0 ≤ n) (h1 : n ≤ 4611686018427387904) (hp : PredN g lb f n w) :
    Calls Try.prog 20 #[.int .i64 n, .func (.func g) #[] lb] w (FoundPost w f n) := by
  have HP := Lib.hid hp
  clear hp
  go_enter Try.func20, Try.ntmps20
  go_wp2
  go_loopw [5, 6] (fun i j wr => ∃ lo hi : Int, 0 ≤ lo ∧ lo ≤ hi ∧ hi ≤ n ∧ i = .int .i64 lo ∧ j = .int .i64 hi ∧ Hid (0 < lo → f (lo - 1) = false) ∧ Hid (hi < n → f hi = true) ∧ Hid (Below w.heap.size w wr)) (fun i j _ => (intOf j - intOf i).toNat)
  case atStart => exact ⟨0, n, by omega, by omega, by omega, rfl, rfl, fun h => by omega, fun h => by omega, Below.refl _ _⟩
  case round =>
    obtain ⟨lo, hi, a0, a1, a2, rfl, rfl, il, ih, hb⟩ := hrel
    by_cases hlt : lo < hi
    · have c := HP.out wr ((lo + hi) / 2) (by omega) (by omega) hb.out
      cases hm : f ((lo + hi) / 2) with
      | true =>
        rw [hm] at c
        have C := Lib.hid c
        have HM := Lib.hid hm
        clear c hm
        go_wp2_with fail
        refine C.out.mono ?_
        rintro e w1 ⟨rfl, hb1⟩
        have HB1 := Lib.hid hb1
        clear hb1
        go_wp2
        go_roundw
        case rel => exact ⟨lo, (lo + hi) / 2, a0, by omega, by omega, rfl, rfl, il, fun _ => HM.out, HB1⟩
        case measure => simp [intOf]; omega
      | false =>
        rw [hm] at c
        have C := Lib.hid c
        have HM : Hid (0 < (lo + hi) / 2 + 1 → f ((lo + hi) / 2 + 1 - 1) = false) := fun _ => by rw [show (lo + hi) / 2 + 1 - 1 = (lo + hi) / 2 by omega]; exact hm
        clear c hm
        go_wp2_with fail
        refine C.out.mono ?_
        rintro e w1 ⟨rfl, hb1⟩
        have HB1 := Lib.hid hb1
        clear hb1
        go_wp2
        go_roundw
        case rel => exact ⟨(lo + hi) / 2 + 1, hi, by omega, by omega, by omega, rfl, rfl, HM, ih, HB1⟩
        case measure => simp [intOf]; omega
    · obtain rfl : lo = hi := by omega
      go_wp2
      go_ret
      exact ⟨lo, rfl, ⟨a0, a2, ih.out, il.out⟩, hb.out⟩

theorem plain_apart {x : List S2} (h : Plain x) {i j : Nat} (hij : i < j) (hj : j < x.length) : tp x i < fr x j := by
  have := (List.pairwise_iff_getElem.1 h.2) i j (by omega) hj hij
  simpa [tp, fr, hj, show i < x.length by omega] using this
theorem plain_ticks {x : List S2} (h : Plain x) {i : Nat} (hi : i < x.length) : fr x i < tp x i := h.1 _ (mem_fr hi)
theorem plain_up {x : List S2} (h : Plain x) {i j : Nat} (hij : i ≤ j) (hj : j < x.length) : tp x i ≤ tp x j ∧ fr x i ≤ fr x j := by
  rcases Nat.lt_or_ge i j with c | c
  · have a := plain_apart h c hj
    have b := plain_ticks h hj
    have d := plain_ticks h (show i < x.length by omega)
    omega
  · rw [show i = j by omega]; exact ⟨Int.le_refl _, Int.le_refl _⟩

/-- Does a span meet the plain list? -/
noncomputable def hitB (x : List S2) (s : S2) : Bool := @decide (∃ t, (s.1 ≤ t ∧ t < s.2) ∧ Low x t) (Classical.propDecidable _)
theorem hit_true {x : List S2} {s : S2} (h : ∃ t, (s.1 ≤ t ∧ t < s.2) ∧ Low x t) : hitB x s = true := by unfold hitB; exact @decide_eq_true _ (Classical.propDecidable _) h
theorem hit_false {x : List S2} {s : S2} (h : ¬ ∃ t, (s.1 ≤ t ∧ t < s.2) ∧ Low x t) : hitB x s = false := by unfold hitB; exact @decide_eq_false _ (Classical.propDecidable _) h
theorem of_hit {x : List S2} {s : S2} (h : hitB x s = true) : ∃ t, (s.1 ≤ t ∧ t < s.2) ∧ Low x t := by unfold hitB at h; exact @of_decide_eq_true _ (Classical.propDecidable _) h

def endF (x : List S2) (a : Int) (i : Int) : Bool := decide (a < tp x i.toNat)
theorem hit_no {x : List S2} {a b : Int} (h : ¬ a < b) : hitB x (a, b) = false := hit_false fun ⟨t, h1, _⟩ => by simp at h1; omega
theorem hit_end {x : List S2} {a b r : Int} (hp : Plain x) (h : Found (endF x a) x.length r) (hr : ¬ r < x.length) : hitB x (a, b) = false := hit_false fun ⟨t, h1, h2⟩ => by
  obtain ⟨i, hi, c1, c2⟩ := low_iff.1 h2
  obtain ⟨f0, f1, _, f3⟩ := h
  have e := f3 (by omega)
  simp [endF] at e h1
  have := (plain_up hp (show i ≤ r.toNat - 1 by omega) (by omega)).1
  omega
theorem hit_in {x : List S2} {a b r : Int} (hp : Plain x) (hab : a < b) (h : Found (endF x a) x.length r) (hr : r < x.length) : hitB x (a, b) = decide (fr x r.toNat < b) := by
  obtain ⟨f0, f1, f2, f3⟩ := h
  have e := f2 hr
  simp [endF] at e
  have t := plain_ticks hp (show r.toNat < x.length by omega)
  by_cases c : fr x r.toNat < b
  · rw [decide_eq_true c]
    refine hit_true ⟨max a (fr x r.toNat), ⟨by show a ≤ _; omega, by show _ < b; omega⟩, low_iff.2 ⟨r.toNat, by omega, by omega, by omega⟩⟩
  · rw [decide_eq_false c]
    refine hit_false fun ⟨t, h1, h2⟩ => ?_
    obtain ⟨i, hi, c1, c2⟩ := low_iff.1 h2
    simp at h1
    rcases Nat.lt_or_ge i r.toNat with k | k
    · have e3 := f3 (by omega)
      simp [endF] at e3
      have := (plain_up hp (show i ≤ r.toNat - 1 by omega) (by omega)).1
      omega
    · have := (plain_up hp k hi).2
      omega
theorem idx_meet {x y l : List S2} (h : PlainOf y x) : decide (0 ≤ idx (hitB x) l) = meetB l y := by
  rcases idx_cases (hitB x) l with ⟨i, hi, hp, _, e⟩ | ⟨hn, e⟩
  · rw [e]
    obtain ⟨t, h1, h2⟩ := of_hit hp
    rw [meetB_true ⟨t, low_iff.2 ⟨i, hi, h1⟩, (h.2 t).1 h2⟩]
    simp
  · rw [e, meetB_false fun ⟨t, h1, h2⟩ => by
      obtain ⟨i, hi, k⟩ := low_iff.1 h1
      have := hn i hi
      have hh : hitB x (fr l i, tp l i) = true := hit_true ⟨t, k, (h.2 t).2 h2⟩
      rw [hh] at this
      simp at this]
    simp

theorem below_grow {B : Nat} {a w : World} (h : Below B a w) (hB : B ≤ w.heap.size) (n : Nat) (os : Array Obj) : Below B a (grow (w.drewN n) os) := by
  refine ⟨h.os, h.tape, h.output, ?_, fun k hk => ?_⟩
  · show a.heap.size ≤ (w.heap ++ os).size
    have := h.size
    simp; omega
  · show (w.heap ++ os)[k]? = _
    rw [Array.getElem?_append_left (by omega)]
    exact h.block k hk
theorem ticks_grow (w : World) (a b : Int) (r : Bool) (hr : decide (a < b) = r) : Calls Try.prog 23 #[.agg #[.int .i64 a, .int .i64 b]] w fun e w' => e = .returned (.bool r) ∧ ∃ q os', w' = grow (w.drewN q) os' := by
  subst hr
  go_enter Try.func23, Try.ntmps23
  go_wp2
  go_ret
  exact ⟨rfl, 0, _, by rw [alloc_eq_grow]; rfl⟩

end Go.Proofs.Ytkhgaacokbebiaa.Wi
