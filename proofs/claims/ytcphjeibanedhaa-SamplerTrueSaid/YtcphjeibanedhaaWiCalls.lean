/- wire.High and wire.Fall, by what slices.IndexFunc and slices.ContainsFunc do at a list of spans. -/
import Derived.Test.YtcphjeibanedhaaWiJoin
import Derived.Test.YtcphjeibanedhaaWiRJoin
namespace Go.Proofs.Ytcphjeibanedhaa.Wi
open Go.RowKit Go.Proofs.Ytcphjeibanedhaa.Sp

/-- The first place at which p holds, or -1. -/
def idx (p : S2 → Bool) (l : List S2) : Int := match (List.range l.length).find? (fun i => p (fr l i, tp l i)) with
  | some i => i
  | none => -1
theorem idx_hit {p : S2 → Bool} {l : List S2} {i : Nat} (hi : i < l.length) (hp : p (fr l i, tp l i) = true) (hn : ∀ j, j < i → p (fr l j, tp l j) = false) : idx p l = i := by
  have e : (List.range l.length).find? (fun i => p (fr l i, tp l i)) = some i := by
    rw [List.find?_range_eq_some]
    exact ⟨hp, by simpa using hi, fun j hj => by simp [hn j hj]⟩
  simp [idx, e]
theorem idx_miss {p : S2 → Bool} {l : List S2} (hn : ∀ j, j < l.length → p (fr l j, tp l j) = false) : idx p l = -1 := by
  have e : (List.range l.length).find? (fun i => p (fr l i, tp l i)) = none := by
    rw [List.find?_eq_none]
    intro i hi
    simp [hn i (by simpa using hi)]
  simp [idx, e]
theorem idx_cases (p : S2 → Bool) (l : List S2) : (∃ i : Nat, i < l.length ∧ p (fr l i, tp l i) = true ∧ (∀ j, j < i → p (fr l j, tp l j) = false) ∧ idx p l = i) ∨ ((∀ j, j < l.length → p (fr l j, tp l j) = false) ∧ idx p l = -1) := by
  rcases h : (List.range l.length).find? (fun i => p (fr l i, tp l i)) with _ | i
  · right
    rw [List.find?_eq_none] at h
    have hn : ∀ j, j < l.length → p (fr l j, tp l j) = false := fun j hj => by simpa using h j (by simpa using hj)
    exact ⟨hn, idx_miss hn⟩
  · left
    rw [List.find?_range_eq_some] at h
    have hi : i < l.length := by simpa using h.2.1
    have hn : ∀ j, j < i → p (fr l j, tp l j) = false := fun j hj => by simpa using h.2.2 j hj
    exact ⟨i, hi, h.1, hn, idx_hit hi h.1 hn⟩
theorem idx_low (t : Int) (l : List S2) : decide (0 ≤ idx (inB t) l) = lowB l t := by
  rcases idx_cases (inB t) l with ⟨i, hi, hp, _, e⟩ | ⟨hn, e⟩
  · rw [e]
    have : lowB l t = true := lowB_iff.2 (low_iff.2 ⟨i, hi, by simpa [inB] using hp⟩)
    rw [this]; simp
  · rw [e]
    have : lowB l t = false := lowB_false.2 fun h => by
      obtain ⟨i, hi, h1, h2⟩ := low_iff.1 h
      have := hn i hi
      simp [inB, h1] at this
      omega
    rw [this]; simp

/-- What is asked of a predicate: it may make memory, but leaves all that was there. -/
def PredS (g : Nat) (lb : Array Value) (p : S2 → Bool) (w : World) : Prop :=
  ∀ (W : World) (a b : Int), Below w.heap.size w W → Calls Try.prog g (#[.agg #[.int .i64 a, .int .i64 b]] ++ lb) W fun e w' => e = .returned (.bool (p (a, b))) ∧ Below w.heap.size w w'

set_option maxHeartbeats 1000000 in
theorem index_any (w : World) (v : Value) (l : List S2) (g : Nat) (lb : Array Value) (p : S2 → Bool) (eg : ∀ args w, (callFunc g args).run Try.prog w = .ok (.enter g args) w) (h : Sp w v l) (hp : PredS g lb p w) :
    Calls Try.prog 29 #[v, .func (.func g) #[] lb] w fun e w' => e = .returned (.int .i64 (idx p l)) ∧ Below w.heap.size w w' := by
  obtain ⟨a, cap, rfl, h1, h2, h3⟩ := h
  have H3 := Lib.hid h3
  have HP := Lib.hid hp
  have hhit : ∀ i, i < l.length → p (fr l i, tp l i) = true → (∀ j, j < i → p (fr l j, tp l j) = false) → idx p l = i := fun i => idx_hit
  have hmiss : (∀ j, j < l.length → p (fr l j, tp l j) = false) → idx p l = -1 := idx_miss
  have HH := Lib.hid hhit
  have HM := Lib.hid hmiss
  clear h3 hp hhit hmiss
  generalize hr : idx p l = r at *
  clear hr
  generalize hn : l.length = n at *
  have HN := Lib.hid hn
  clear hn
  unfold maxLen at h2
  go_enter Try.func29, Try.ntmps29
  go_wp2
  go_loopw [8] (fun i wr => ∃ k : Nat, k ≤ n ∧ i = .int .i64 k ∧ Hid (∀ j, j < k → p (fr l j, tp l j) = false) ∧ Hid (Below w.heap.size w wr)) (fun i _ => n - (intOf i).toNat)
  case atStart => exact ⟨0, Nat.zero_le _, rfl, fun j hj => by omega, Below.refl _ _⟩
  case round =>
    obtain ⟨k, hk, rfl, hs, hb⟩ := hrel
    by_cases hlt : k < n
    · obtain ⟨b, off, rfl, hA⟩ := H3.out (by omega)
      obtain ⟨c1, c2⟩ := hA k (by have := HN.out; omega)
      have HA := Lib.hid hA
      clear hA
      have d1 := (hb.out.cell (World.block_lt_of_cell? _ _ c1)).trans c1
      have d2 := (hb.out.cell (World.block_lt_of_cell? _ _ c2)).trans c2
      clear c1 c2
      have hc := HP.out wr (fr l k) (tp l k) hb.out
      cases hq : p (fr l k, tp l k) with
      | true =>
        rw [hq] at hc
        have C := Lib.hid hc
        have HR := Lib.hid (HH.out k hlt hq hs.out)
        clear hc hq
        go_wp2_with fail
        refine C.out.mono ?_
        rintro e w1 ⟨rfl, b1⟩
        go_wp2
        go_ret
        exact ⟨ret_int HR.out.symm, b1⟩
      | false =>
        rw [hq] at hc
        have C := Lib.hid hc
        have ST : Hid (∀ j, j < k + 1 → p (fr l j, tp l j) = false) := fun j hj => by
          by_cases e : j = k
          · rw [e]; exact hq
          · exact hs.out j (by omega)
        clear hc hq
        go_wp2_with fail
        refine C.out.mono ?_
        rintro e w1 ⟨rfl, b1⟩
        have B1 := Lib.hid b1
        clear b1
        go_wp2
        go_roundw
        case rel => exact ⟨k + 1, by omega, by go_num, ST, B1⟩
        case measure => simp [intOf]; omega
    · obtain rfl : k = n := by omega
      have HR := Lib.hid (HM.out hs.out)
      go_wp2
      go_ret
      exact ⟨ret_int HR.out.symm, hb.out⟩

theorem contains_any (w : World) (v : Value) (l : List S2) (g : Nat) (lb : Array Value) (p : S2 → Bool) (eg : ∀ args w, (callFunc g args).run Try.prog w = .ok (.enter g args) w) (h : Sp w v l) (hp : PredS g lb p w) :
    Calls Try.prog 37 #[v, .func (.func g) #[] lb] w fun e w' => e = .returned (.bool (decide (0 ≤ idx p l))) ∧ Below w.heap.size w w' := by
  have C := Lib.hid (index_any w v l g lb p eg h hp)
  clear eg h hp
  generalize idx p l = r at *
  go_enter Try.func37, Try.ntmps37
  go_wp2_with fail
  refine C.out.mono ?_
  rintro e w1 ⟨rfl, b1⟩
  go_wp2
  go_ret
  exact ⟨rfl, b1⟩

theorem hclos_any (w : World) (B : Nat) (t : Int) (hc : w.cell? ⟨B, 0, none⟩ = some (.int .i64 t)) : PredS 38 #[.pointer (some ⟨B, 0, none⟩)] (inB t) w := fun W a b hb => by
  have hlt := World.block_lt_of_cell? _ _ hc
  have d := (hb.cell hlt).trans hc
  have hz := hb.size
  have hBW : B < W.heap.size := Nat.lt_of_lt_of_le hlt hz
  clear hc hlt
  show Calls Try.prog 38 #[.agg #[.int .i64 a, .int .i64 b], .pointer (some ⟨B, 0, none⟩)] W _
  by_cases h1 : a ≤ t
  · by_cases h2 : t < b
    · have e : inB t (a, b) = true := by simp [inB, h1, h2]
      rw [e]
      clear e
      have HB := Lib.hid (hb.alloc hz (.cells #[.int .i64 a, .int .i64 b] 44))
      clear hb
      go_enter Try.func38, Try.ntmps38
      go_wp2
      go_ret
      exact ⟨rfl, HB.out⟩
    · have e : inB t (a, b) = false := by simp [inB, h2]
      rw [e]
      clear e
      have HB := Lib.hid (hb.alloc hz (.cells #[.int .i64 a, .int .i64 b] 44))
      clear hb
      go_enter Try.func38, Try.ntmps38
      go_wp2
      go_ret
      exact ⟨rfl, HB.out⟩
  · have e : inB t (a, b) = false := by simp [inB, h1]
    rw [e]
    clear e
    have HB := Lib.hid (hb.alloc hz (.cells #[.int .i64 a, .int .i64 b] 44))
    clear hb
    go_enter Try.func38, Try.ntmps38
    go_wp2
    go_ret
    exact ⟨rfl, HB.out⟩

/-- wire.High. -/
theorem high_any (w : World) (v : Value) (l : List S2) (h : Sp w v l) (t : Int) : Calls Try.prog 35 #[v, .int .i64 t] w fun e w' => e = .returned (.bool (!lowB l t)) ∧ Below w.heap.size w w' := by
  have eg : ∀ args w, (callFunc 38 args).run Try.prog w = .ok (.enter 38 args) w := enters_of Try.func38 (by kernel_rfl) rfl
  have hb : Below w.heap.size w (w.alloc (.cells #[.int .i64 t] 3)) := (Below.refl _ _).alloc (Nat.le_refl _) _
  have c := contains_any (w.alloc (.cells #[.int .i64 t] 3)) v l 38 #[.pointer (some ⟨w.heap.size, 0, none⟩)] (inB t) eg (h.below hb) (hclos_any _ _ _ (by go_simp))
  rw [idx_low] at c
  have C := Lib.hid c
  have HB := Lib.hid hb
  obtain ⟨a, cap, rfl, _⟩ := h.slice
  clear c hb h eg
  have hmf : ∀ (fn : Fn) (first cap : Array Value) (w : World), (Instr.makeFunc fn first cap).run Try.prog w = .ok (.func fn first cap) w := fun _ _ _ _ => rfl
  generalize lowB l t = r at *
  go_enter Try.func35, Try.ntmps35
  go_wp2_with fail
  refine C.out.mono ?_
  rintro e w1 ⟨rfl, b1⟩
  go_wp2
  go_ret
  exact ⟨rfl, HB.out.trans (b1.mono (by simp))⟩

end Go.Proofs.Ytcphjeibanedhaa.Wi
