/- The document's own Low, Same and Meet of spans. -/
import Derived.Test.YtfoaneckegkhcaaWiBase
import Derived.Laws.StructEq
import Derived.Shelf.SlicesE.Kit
namespace Go.Proofs.Ytfoaneckegkhcaa.Wi
open Go.RowKit Go.Proofs.Ytfoaneckegkhcaa.Sp

theorem rlow_any (w : World) (v : Value) (l : List S2) (h : Sp w v l) (t : Int) : Calls Try.prog 26 #[v, .int .i64 t] w fun e w' => e = .returned (.bool (lowB l t)) ∧ w = w' := by
  obtain ⟨a, cap, rfl, h1, h2, h3⟩ := h
  have H3 := Lib.hid h3
  clear h3
  have hy : ∀ i, i < l.length → (fr l i ≤ t ∧ t < tp l i) → lowB l t = true := fun i hi hh => lowB_iff.2 (low_iff.2 ⟨i, hi, hh⟩)
  have hno : (∀ i, i < l.length → ¬ (fr l i ≤ t ∧ t < tp l i)) → lowB l t = false := fun hh => lowB_false.2 fun hl => by
    obtain ⟨i, hi, k⟩ := low_iff.1 hl
    exact hh i hi k
  have HY := Lib.hid hy
  have HO := Lib.hid hno
  clear hy hno
  generalize hr : lowB l t = r at *
  clear hr
  generalize hn : l.length = n at *
  have HN := Lib.hid hn
  clear hn
  unfold maxLen at h2
  go_enter Try.func26, Try.ntmps26
  go_wp2
  go_loop [5] (fun i => ∃ k : Nat, k ≤ n ∧ i = .int .i64 k ∧ Hid (∀ j, j < k → ¬ (fr l j ≤ t ∧ t < tp l j))) (fun i => n - (intOf i).toNat)
  case atStart => exact ⟨0, Nat.zero_le _, rfl, fun j hj => by omega⟩
  case round =>
    obtain ⟨k, hk, rfl, hs⟩ := hrel
    by_cases hlt : k < n
    · obtain ⟨b, off, rfl, hA⟩ := H3.out (by omega)
      obtain ⟨c1, c2⟩ := hA k (by have := HN.out; omega)
      have HA := Lib.hid hA
      clear hA
      have step : ¬ (fr l k ≤ t ∧ t < tp l k) → Hid (∀ j, j < k + 1 → ¬ (fr l j ≤ t ∧ t < tp l j)) := fun hx j hj => by
        by_cases e : j = k
        · rw [e]; exact hx
        · exact hs.out j (by omega)
      have ST := Lib.hid step
      clear step
      by_cases p1 : fr l k ≤ t
      · by_cases p2 : t < tp l k
        · have hr := HY.out k hlt ⟨p1, p2⟩
          have HR := Lib.hid hr
          clear hr
          go_wp2
          go_ret
          exact ⟨ret_bool HR.out.symm, rfl⟩
        · go_wp2
          go_round
          case rel => exact ⟨k + 1, by omega, by go_num, ST.out (by omega)⟩
          case measure => simp [intOf]; omega
      · go_wp2
        go_round
        case rel => exact ⟨k + 1, by omega, by go_num, ST.out (by omega)⟩
        case measure => simp [intOf]; omega
    · obtain rfl : k = n := by omega
      have hr := HO.out hs.out
      have HR := Lib.hid hr
      clear hr
      go_wp2
      go_ret
      exact ⟨ret_bool HR.out.symm, rfl⟩

theorem neqS (a b c d : Int) (w : World) : (binOp .neq 45 (.agg #[.int .i64 a, .int .i64 b]) (.agg #[.int .i64 c, .int .i64 d])).run Try.prog w = .ok (.bool (!(a == c && b == d))) w := by
  have u3 := Try.underlying3
  have a3 := Try.isAgg3
  have z3 := Try.sizeOf3
  have hS : Try.prog.underlying 45 = some (.struct (Try.prog.fieldsOf 45)) := by kernel_rfl
  have hp : Try.prog.stoodInHeld 45 = false := by kernel_rfl
  rw [run_neq_struct, show (10000 : Nat) = 9999 + 1 from rfl, run_equalIn_agg w 9999 45 _ _ hS hp]
  simp only [Program.fieldsOf, Try.underlying45]
  go_simp
  by_cases h1 : a = c <;> by_cases h2 : b = d <;> simp [h1, h2]

/-- Are lists one? -/
def sameB (a b : List S2) : Bool := decide (a = b)
theorem same_yes {a b : List S2} (h : a.length = b.length) (hh : ∀ i, i < a.length → fr a i = fr b i ∧ tp a i = tp b i) : a = b := by
  refine List.ext_getElem h fun i h1 h2 => ?_
  have := hh i h1
  simp only [fr, tp, List.getD_eq_getElem?_getD, List.getElem?_eq_getElem h1, List.getElem?_eq_getElem h2, Option.getD_some] at this
  exact Prod.ext this.1 this.2

theorem fr_of_eq {x y : List S2} (h : x = y) (i : Nat) : fr x i = fr y i ∧ tp x i = tp y i := by rw [h]; exact ⟨rfl, rfl⟩
/-- Do they meet? -/
noncomputable def meetB (a b : List S2) : Bool := @decide (Meets a b) (Classical.propDecidable _)
theorem meetB_true {a b : List S2} (h : Meets a b) : meetB a b = true := by unfold meetB; exact @decide_eq_true _ (Classical.propDecidable _) h
theorem meetB_false {a b : List S2} (h : ¬ Meets a b) : meetB a b = false := by unfold meetB; exact @decide_eq_false _ (Classical.propDecidable _) h

theorem at_bool' {P : Program} {f : Nat} {args : Array Value} {w : World} {a b : Bool} (e : a = b) (c : Calls P f args w fun e w' => e = .returned (.bool a) ∧ w = w') : Calls P f args w fun e w' => e = .returned (.bool b) ∧ w = w' := by rw [← e]; exact c
theorem at_bool {P : Program} {f : Nat} {args : Array Value} {w : World} {B : Nat} {a b : Bool} (e : a = b) (c : Calls P f args w fun e w' => e = .returned (.bool a) ∧ Below B w w') : Calls P f args w fun e w' => e = .returned (.bool b) ∧ Below B w w' := by rw [← e]; exact c

theorem quiet_left {P : Program} {f : FuncId} {args : Array Value} {w : World} {n : Nat} {v : Value}
    (h : Calls P f args (w.drewN n) fun e w' => e = .returned v ∧ w.drewN n = w') : Calls P f args (w.drewN n) fun e w'' => e = .returned v ∧ ∃ m, w'' = w.drewN m :=
  h.mono fun _ _ ⟨he, hm⟩ => ⟨he, n, hm.symm⟩

end Go.Proofs.Ytfoaneckegkhcaa.Wi
