/- sort.Search, of any predicate on numbers. -/
import Derived.Test.YtfoaneckegkhcaaSpMem
import Derived.Test.YtfoaneckegkhcaaChecked
import Derived.LoopTactic
import Derived.Outline
import Derived.Deep.LoopGhost
import Derived.WalkSmall
namespace Go.Proofs.Ytfoaneckegkhcaa.Srch
open Go.RowKit Go.Proofs.Ytfoaneckegkhcaa.Sp

/-- What is asked of a predicate on numbers. -/
def PredN (g : Nat) (lb : Array Value) (f : Int → Bool) (n : Int) (w : World) : Prop :=
  ∀ (W : World) (i : Int), 0 ≤ i → i < n → Below w.heap.size w W → Calls Try.prog g (#[.int .i64 i] ++ lb) W fun e w' => e = .returned (.bool (f i)) ∧ Below w.heap.size w w'
/-- What a search hands back. -/
def Found (f : Int → Bool) (n r : Int) : Prop := 0 ≤ r ∧ r ≤ n ∧ (r < n → f r = true) ∧ (0 < r → f (r - 1) = false)
def FoundPost (w : World) (f : Int → Bool) (n : Int) (e : Ending) (w' : World) : Prop := ∃ r, e = .returned (.int .i64 r) ∧ Found f n r ∧ Below w.heap.size w w'

set_option maxHeartbeats 1000000 in
theorem search_any (w : World) (g : Nat) (lb : Array Value) (f : Int → Bool) (n : Int) (eg : ∀ args w, (callFunc g args).run Try.prog w = .ok (.enter g args) w) (h0 : 0 ≤ n) (h1 : n ≤ 4611686018427387904) (hp : PredN g lb f n w) :
    Calls Try.prog 19 #[.int .i64 n, .func (.func g) #[] lb] w (FoundPost w f n) := by
  have HP := Lib.hid hp
  clear hp
  go_enter Try.func19, Try.ntmps19
  go_wp2
  go_loopw [5, 6] (fun i j wr => ∃ lo hi : Int, 0 ≤ lo ∧ lo ≤ hi ∧ hi ≤ n ∧ i = .int .i64 lo ∧ j = .int .i64 hi ∧ Hid (0 < lo → f (lo - 1) = false) ∧ Hid (hi < n → f hi = true) ∧ Hid (Below w.heap.size w wr)) (fun i j _ => (intOf j - intOf i).toNat)
  case atStart => exact ⟨0, n, by omega, by omega, by omega, rfl, rfl, fun h => by omega, fun h => by omega, Below.refl _ _⟩
  case round =>
    obtain ⟨lo, hi, a0, a1, a2, rfl, rfl, il, ih, hb⟩ := hrel
    by_cases hlt : lo < hi
    · have c := HP.out wr ((lo + hi) / 2) (by omega) (by omega) hb.out
      cases hm : f ((lo + hi) / 2) with
      | true =>
        rw [hm] at c
        have C := Lib.hid c
        have HM := Lib.hid hm
        clear c hm
        go_wp2_with fail
        refine C.out.mono ?_
        rintro e w1 ⟨rfl, hb1⟩
        have HB1 := Lib.hid hb1
        clear hb1
        go_wp2
        go_roundw
        case rel => exact ⟨lo, (lo + hi) / 2, a0, by omega, by omega, rfl, rfl, il, fun _ => HM.out, HB1⟩
        case measure => simp [intOf]; omega
      | false =>
        rw [hm] at c
        have C := Lib.hid c
        have HM : Hid (0 < (lo + hi) / 2 + 1 → f ((lo + hi) / 2 + 1 - 1) = false) := fun _ => by rw [show (lo + hi) / 2 + 1 - 1 = (lo + hi) / 2 by omega]; exact hm
        clear c hm
        go_wp2_with fail
        refine C.out.mono ?_
        rintro e w1 ⟨rfl, hb1⟩
        have HB1 := Lib.hid hb1
        clear hb1
        go_wp2
        go_roundw
        case rel => exact ⟨(lo + hi) / 2 + 1, hi, by omega, by omega, by omega, rfl, rfl, HM, ih, HB1⟩
        case measure => simp [intOf]; omega
    · obtain rfl : lo = hi := by omega
      go_wp2
      go_ret
      exact ⟨lo, rfl, ⟨a0, a2, ih.out, il.out⟩, hb.out⟩

end Go.Proofs.Ytfoaneckegkhcaa.Srch
