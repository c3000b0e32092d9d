/- slices.Equal of records, and file.Same. -/
import Derived.Test.YtghdjdejdpknjaaFlSmall
import Derived.Test.YtghdjdejdpknjaaQk
namespace Go.Proofs.Ytghdjdejdpknjaa.Fl
open Go.RowKit
open Go.Proofs.Ytghdjdejdpknjaa.Rw (Rd Ow At)

def eqB (l l' : List R4) : Bool := decide (l = l')
set_option maxHeartbeats 1000000 in
theorem equal_any (w : World) (v v' : Value) (l l' : List R4) (R : Rd K4 w v l) (R' : Rd K4 w v' l') : Calls Try.prog 24 #[v, v'] w fun e w' => e = .returned (.bool (eqB l l')) ∧ Below w.heap.size w w' := by
  have HNO : Hid (¬ l = l' → false = eqB l l') := fun h => (decide_eq_false h).symm
  have HYES : Hid (l = l' → true = eqB l l') := fun b => (decide_eq_true b).symm
  have HL : Hid (l.length = l'.length → (∀ i, i < l.length → rat l i = rat l' i) → l = l') := fun a b => list_same a b
  obtain ⟨a, cap, rfl, _, hm, hA⟩ := R
  obtain ⟨a', cap', rfl, _, hm', hA'⟩ := R'
  have HA := Lib.hid hA
  have HA' := Lib.hid hA'
  unfold maxLen at hm hm'
  clear hA hA'
  have HNE : Hid (l.length ≠ l'.length → ¬ (l = l')) := fun h2 h => h2 (by rw [h])
  generalize hn : l.length = n at *
  generalize hn' : l'.length = n' at *
  have HN := Lib.hid hn
  have HN' := Lib.hid hn'
  clear hn hn'
  by_cases h2 : n = n'
  · subst h2
    go_enter Try.func24, Try.ntmps24
    go_wp2
    go_loopw [13, 5] (fun i j wr => ∃ k : Nat, k ≤ n ∧ i = .int .i64 k ∧ Hid (Below w.heap.size w wr) ∧ Hid (∀ i, i < k → rat l i = rat l' i)) (fun i j _ => n - (intOf i).toNat)
    case atStart => exact ⟨0, Nat.zero_le _, rfl, Below.refl _ _, fun i hi => by omega⟩
    case round =>
      obtain ⟨j, hj, rfl, bw, hs⟩ := hrel
      by_cases hlt : j < n
      · obtain ⟨b, off, rfl, A⟩ := HA.out (by omega)
        obtain ⟨b', off', rfl, A'⟩ := HA'.out (by omega)
        obtain ⟨c0, c1, c2, c3⟩ := at4 (A.below bw.out) j (by have := HN.out; omega)
        obtain ⟨d0, d1, d2, d3⟩ := at4 (A'.below bw.out) j (by have := HN'.out; omega)
        have HAA := Lib.hid A
        have HAA' := Lib.hid A'
        clear A A'
        have es := eq_rec (rat l j) (rat l' j)
        by_cases he : rat l j = rat l' j
        · have ST : Hid (∀ i, i < j + 1 → rat l i = rat l' i) := fun i hi => by
            by_cases e : i = j
            · rw [e]; exact he
            · exact hs.out i (by omega)
          rw [decide_eq_true he] at es
          clear he
          generalize rat l j = r at *
          generalize rat l' j = r' at *
          go_wp2
          go_quiet (fail)
          go_wp2
          go_roundw
          case rel => exact ⟨j + 1, by omega, by go_num, below_drewN bw.out _, ST⟩
          case measure => simp [intOf]; omega
        · have E := Lib.hid (HNO.out (fun h => he (by rw [h])))
          rw [decide_eq_false he] at es
          clear he
          generalize rat l j = r at *
          generalize rat l' j = r' at *
          go_wp2
          go_quiet (fail)
          go_wp2
          go_ret
          exact ⟨ret_bool E.out, below_drewN bw.out _⟩
      · obtain rfl : j = n := by omega
        have E := Lib.hid (HYES.out (HL.out (by trivial) (fun i hi => hs.out i hi)))
        go_wp2
        go_ret
        exact ⟨ret_bool E.out, bw.out⟩
  · have E := Lib.hid (HNO.out (HNE.out h2))
    have h3 : ¬ ((n : Int) = n') := by omega
    clear HL HA HA' HYES HNO
    go_enter Try.func24, Try.ntmps24
    go_wp2
    go_ret
    exact ⟨ret_bool E.out, Below.refl _ _⟩

set_option maxHeartbeats 400000 in
theorem same_any (w : World) (p p' : Int) (v v' : Value) (l l' : List R4) (R : Rd K4 w v l) (R' : Rd K4 w v' l') : Calls Try.prog 20 #[file p v, file p' v'] w fun e w' => e = .returned (.bool (sameF p l p' l')) ∧ Below w.heap.size w w' := by
  have bb := ((Below.refl w.heap.size w).alloc (Nat.le_refl _) (.cells #[.int .i64 p, v] 25)).alloc (by simp) (.cells #[.int .i64 p', v'] 25)
  have B0 := Lib.hid bb
  have Q := Lib.hid (equal_any _ v v' l l' (R.below bb) (R'.below bb))
  obtain ⟨a, cap, rfl, _⟩ := R
  obtain ⟨a', cap', rfl, _⟩ := R'
  clear bb
  generalize l.length = n at *
  generalize l'.length = n' at *
  unfold file
  by_cases h : p = p'
  · subst h
    have E : Hid (eqB l l' = sameF p l p l') := Lib.hid (by unfold eqB sameF; rw [decide_eq_decide]; exact ⟨fun h => ⟨rfl, h⟩, fun h => h.2⟩)
    go_enter Try.func20, Try.ntmps20
    go_wp2_with fail
    refine Q.out.mono ?_
    rintro e w1 ⟨rfl, b1⟩
    have B1 := Lib.hid (B0.out.trans (b1.mono B0.out.size))
    clear b1 Q
    generalize eqB l l' = bq at *
    go_wp2
    go_ret
    exact ⟨ret_bool E.out, B1.out⟩
  · have E : Hid (false = sameF p l p' l') := Lib.hid (decide_eq_false (fun k => h k.1)).symm
    go_enter Try.func20, Try.ntmps20
    go_wp2
    go_ret
    exact ⟨ret_bool E.out, B0.out⟩

end Go.Proofs.Ytghdjdejdpknjaa.Fl
