/- At most seventy numbers; lists held against each other; the fixed fact of layer 13. -/
import Derived.Test.YtghdjdejdpknjaaReSeq
namespace Go.Proofs.Ytghdjdejdpknjaa.Re
open Go.RowKit
open Go.Proofs.Ytghdjdejdpknjaa.Rw (Rd Ow At)
open Go.Proofs.Ytghdjdejdpknjaa.Fl (R4 z4 rec4 K4 okR hdr rat file ret_bool at_bool row_cell row_frozen)

theorem rd_cut {α : Type} {K : Rw.Kind α} {w : World} {v : Value} {l : List α} {a : Option Addr} {n cap k : Nat} (R : Rd K w v l) (e : v = .slice a n cap) (hk : k ≤ l.length) (h0 : 0 < k) : Rd K w (.slice a k cap) (l.take k) := by
  obtain ⟨a', cap', e', ⟨h1, h2⟩, h3, h4⟩ := R
  rw [e] at e'
  injection e' with e1 e2 e3
  subst e1 e3
  have hl : (l.take k).length = k := by rw [List.length_take]; omega
  refine ⟨a, cap, by rw [hl], ⟨by rw [hl]; omega, h2⟩, h3, fun _ => ?_⟩
  obtain ⟨b, off, rfl, hA⟩ := h4 (by omega)
  refine ⟨b, off, rfl, fun i hi j u hu => ?_⟩
  rw [hl] at hi
  refine hA i (by omega) j u ?_
  rw [← hu, List.getD, List.getD, List.getElem?_take, if_pos hi]
def SomePost (w : World) (l : List Int) (e : Ending) (w' : World) : Prop := ∃ u, e = .returned u ∧ Rd KI w' u (l.take 70) ∧ Below w.heap.size w w'
set_option maxHeartbeats 400000 in
theorem some_any (w : World) (v : Value) (l : List Int) (R : Rd KI w v l) : Calls Try.prog 6 #[v] w (SomePost w l) := by
  have R0 := Lib.hid R
  obtain ⟨a, cap, rfl, ⟨h1, h1'⟩, hm, hA⟩ := R
  have HA := Lib.hid hA
  unfold maxLen at hm
  clear hA
  by_cases h : 70 < l.length
  · obtain ⟨b, off, rfl, _⟩ := HA.out (by omega)
    have E : Hid (SomePost w l (.returned (.slice (some ⟨b, off, none⟩) 70 cap)) w) := Lib.hid ⟨_, rfl, rd_cut R0.out rfl (by omega) (by omega), Below.refl _ _⟩
    clear R0 HA
    generalize l.length = n at *
    go_enter Try.func6, Try.ntmps6
    go_wp2
    go_ret
    exact E.out
  · have ht : l.take 70 = l := List.take_of_length_le (by omega)
    have E : Hid (SomePost w l (.returned (.slice a l.length cap)) w) := Lib.hid ⟨_, rfl, by rw [ht]; exact R0.out, Below.refl _ _⟩
    clear R0 HA
    generalize l.length = n at *
    go_enter Try.func6, Try.ntmps6
    go_wp2
    go_ret
    exact E.out

def sameB (l l' : List Int) : Bool := decide (l = l')
set_option maxHeartbeats 1000000 in
theorem same_any (w : World) (v v' : Value) (l l' : List Int) (R : Rd KI w v l) (R' : Rd KI w v' l') : Calls Try.prog 14 #[v, v'] w fun e w' => e = .returned (.bool (sameB l l')) ∧ Below w.heap.size w w' := by
  have HNO : Hid (¬ l = l' → false = sameB l l') := Lib.hid (fun h => (decide_eq_false h).symm)
  have HYES : Hid (l = l' → true = sameB l l') := Lib.hid (fun b => (decide_eq_true b).symm)
  have HL : Hid (l.length = l'.length → (∀ i, i < l.length → iat l i = iat l' i) → l = l') := Lib.hid (fun a b => ints_same a b)
  obtain ⟨a, cap, rfl, _, hm, hA⟩ := R
  obtain ⟨a', cap', rfl, _, hm', hA'⟩ := R'
  have HA := Lib.hid hA
  have HA' := Lib.hid hA'
  unfold maxLen at hm hm'
  clear hA hA'
  have HNE : Hid (l.length ≠ l'.length → ¬ (l = l')) := Lib.hid (fun h2 h => h2 (by rw [h]))
  generalize hn : l.length = n at *
  generalize hn' : l'.length = n' at *
  have HN := Lib.hid hn
  have HN' := Lib.hid hn'
  clear hn hn'
  by_cases h2 : n = n'
  · subst h2
    go_enter Try.func14, Try.ntmps14
    go_wp2
    go_loopw [5] (fun i wr => ∃ k : Nat, k ≤ n ∧ i = .int .i64 k ∧ Hid (Below w.heap.size w wr) ∧ Hid (∀ i, i < k → iat l i = iat l' i)) (fun i _ => n - (intOf i).toNat)
    case atStart => exact ⟨0, Nat.zero_le _, rfl, Lib.hid (Below.refl _ _), Lib.hid (fun i hi => by omega)⟩
    case round =>
      obtain ⟨j, hj, rfl, bw, hs⟩ := hrel
      by_cases hlt : j < n
      · obtain ⟨b, off, rfl, A⟩ := HA.out (by omega)
        obtain ⟨b', off', rfl, A'⟩ := HA'.out (by omega)
        have c0 := at1 (A.below bw.out) j (by have := HN.out; omega)
        have d0 := at1 (A'.below bw.out) j (by have := HN'.out; omega)
        have HAA := Lib.hid A
        have HAA' := Lib.hid A'
        clear A A'
        by_cases he : iat l j = iat l' j
        · have ST : Hid (∀ i, i < j + 1 → iat l i = iat l' i) := Lib.hid (fun i hi => by
            by_cases e : i = j
            · rw [e]; exact he
            · exact hs.out i (by omega))
          have es : (iat l j == iat l' j) = true := by simp [he]
          clear he
          generalize iat l j = r at *
          generalize iat l' j = r' at *
          go_wp2
          go_quiet (fail)
          go_wp2
          go_roundw
          case rel => exact ⟨j + 1, by omega, by go_num, Lib.hid (below_drewN bw.out _), ST⟩
          case measure => simp [intOf]; omega
        · have E := Lib.hid (HNO.out (fun h => he (by rw [h])))
          have es : (iat l j == iat l' j) = false := by simp [he]
          clear he
          generalize iat l j = r at *
          generalize iat l' j = r' at *
          go_wp2
          go_quiet (fail)
          go_wp2
          go_ret
          exact ⟨ret_bool E.out, below_drewN bw.out _⟩
      · obtain rfl : j = n := by omega
        have E := Lib.hid (HYES.out (HL.out (by trivial) (fun i hi => hs.out i hi)))
        go_wp2
        go_ret
        exact ⟨ret_bool E.out, bw.out⟩
  · have E := Lib.hid (HNO.out (HNE.out h2))
    have h3 : ¬ ((n : Int) = n') := by omega
    clear HL HA HA' HYES HNO
    go_enter Try.func14, Try.ntmps14
    go_wp2
    go_ret
    exact ⟨ret_bool E.out, Below.refl _ _⟩

theorem two_seq : seqP [2, 5] := by decide
theorem six_no : ¬ seqP [6] := by decide
theorem two_next : nxP [2, 5] 1 := by decide

set_option maxHeartbeats 2000000 in
theorem awake_any (w : World) : Calls Try.prog 12 #[] w fun e w' => e = .returned (.bool true) ∧ Below w.heap.size w w' := by
  have P1 : Hid (∀ w v, Rd KI w v [2, 5] → Calls Try.prog 5 #[v] w fun e w' => ∃ u, e = .returned (.tuple #[.agg #[.int .i64 3, u], .int .i64 0]) ∧ Rd K4 w' u (fileL [2, 5]) ∧ Below w.heap.size w w') := Lib.hid (fun w v R => (file_any w v [2, 5] R).mono fun e w' ⟨u, he, hu, hb⟩ => ⟨u, by rw [he]; unfold fP fN; rw [if_pos two_seq, if_pos two_seq]; rfl, by unfold fL at hu; rw [if_pos two_seq] at hu; exact hu, hb⟩)
  have P2 : Hid (∀ w v, Rd K4 w v (fileL [2, 5]) → Calls Try.prog 8 #[.agg #[.int .i64 3, v]] w fun e w' => ∃ u, e = .returned (.tuple #[u, .int .i64 0]) ∧ Rd KI w' u [2, 5] ∧ Below w.heap.size w w') := Lib.hid (fun w v R => (sequence_any w 3 v (fileL [2, 5]) R (ok_file two_seq)).mono fun e w' ⟨u, he, hu, hb⟩ => ⟨u, by rw [he, (seq_file two_seq).2], by rw [(seq_file two_seq).1] at hu; exact hu, hb⟩)
  have P3 : Hid (∀ w v, Rd KI w v [2, 5] → Calls Try.prog 10 #[v, .int .i64 1] w fun e w' => e = .returned (.tuple #[.int .i64 5, .int .i64 0, .int .i64 0]) ∧ Below w.heap.size w w') := Lib.hid (fun w v R => (next_any w v [2, 5] 1 R).mono fun e w' ⟨he, hb⟩ => ⟨by rw [he, show nR [2, 5] 1 = 5 by decide, show nT [2, 5] 1 = 0 by decide, show nE [2, 5] 1 = 0 by decide], hb⟩)
  have P4 : Hid (∀ w v, Rd KI w v [6] → Calls Try.prog 5 #[v] w fun e w' => ∃ u, e = .returned (.tuple #[.agg #[.int .i64 0, u], .int .i64 1]) ∧ Rd K4 w' u [] ∧ Below w.heap.size w w') := Lib.hid (fun w v R => (file_any w v [6] R).mono fun e w' ⟨u, he, hu, hb⟩ => ⟨u, by rw [he]; unfold fP fN; rw [if_neg six_no, if_neg six_no]; rfl, by unfold fL at hu; rw [if_neg six_no] at hu; exact hu, hb⟩)
  have L1 : Hid (∀ W : World, Rd KI (W.alloc (.cells #[.int .i64 2, .int .i64 5] 3)) (.slice (some ⟨W.heap.size, 0, none⟩) 2 2) [2, 5]) := Lib.hid (fun W => (Rw.Ow.lit (K := KI) W W.heap.size 3 [2, 5] (Nat.le_refl _) (by unfold maxLen; simp)).rd)
  have L2 : Hid (∀ W : World, Rd KI (W.alloc (.cells #[.int .i64 6] 3)) (.slice (some ⟨W.heap.size, 0, none⟩) 1 1) [6]) := Lib.hid (fun W => (Rw.Ow.lit (K := KI) W W.heap.size 3 [6] (Nat.le_refl _) (by unfold maxLen; simp)).rd)
  have BL : Hid (∀ (W : World) o, Below W.heap.size W (W.alloc o)) := Lib.hid (fun W o => (Below.refl _ _).alloc (Nat.le_refl _) o)
  go_enter Try.func12, Try.ntmps12
  go_wp2_with fail
  refine (P1.out _ _ (L1.out _)).mono ?_
  rintro e w1 ⟨u1, rfl, r1, b1⟩
  obtain ⟨a1, n1, k1, rfl⟩ : ∃ a n c, u1 = .slice a n c := by obtain ⟨a, c, e, _⟩ := r1; exact ⟨a, _, c, e⟩
  go_upto_region 2 with fail
  have b1' := (BL.out w (.cells #[.int .i64 2, .int .i64 5] 3)).trans ((b1.alloc b1.size (.cells #[.int .i64 3, .slice a1 n1 k1] 25)).mono (by simp))
  have F1 := heap_alloc_new w1 (.cells #[.int .i64 3, .slice a1 n1 k1] 25)
  have R1 := Lib.hid (r1.below (BL.out w1 (.cells #[.int .i64 3, .slice a1 n1 k1] 25)))
  have B1 := Lib.hid b1'
  generalize w1.alloc (.cells #[.int .i64 3, .slice a1 n1 k1] 25) = W1 at *
  generalize w1.heap.size = g1 at *
  have c0 : W1.cell? ⟨g1, 0, none⟩ = some (.int .i64 3) := row_cell F1 0
  have c1 : W1.cell? ⟨g1, 1, none⟩ = some (.slice a1 n1 k1) := row_cell F1 1
  clear b1 b1' r1 P1 L1
  go_wp2_with fail
  refine (P2.out _ _ R1.out).mono ?_
  rintro e w2 ⟨u2, rfl, r2, b2⟩
  obtain ⟨a2, k2, rfl, _⟩ : ∃ a c, u2 = .slice a 2 c ∧ c = c := by obtain ⟨a, c, e, _⟩ := r2; exact ⟨a, c, e, rfl⟩
  have B2 := Lib.hid (B1.out.trans (b2.mono B1.out.size))
  clear c0 c1 b2 B1 R1 F1 P2
  go_wp2_with fail
  refine (P3.out _ _ r2).mono ?_
  rintro e w3 ⟨rfl, b3⟩
  have B3 := Lib.hid (B2.out.trans (b3.mono B2.out.size))
  clear b3 r2 B2 P3
  go_wp2_with fail
  refine (P4.out _ _ (L2.out _)).mono ?_
  rintro e w4 ⟨u4, rfl, r4, b4⟩
  obtain ⟨a4, n4, k4, rfl⟩ : ∃ a n c, u4 = .slice a n c := by obtain ⟨a, c, e, _⟩ := r4; exact ⟨a, _, c, e⟩
  have B4 := Lib.hid ((B3.out.trans ((BL.out w3 (.cells #[.int .i64 6] 3)).mono B3.out.size)).trans (b4.mono (Nat.le_trans B3.out.size (by simp))))
  have B5 := Lib.hid (B4.out.alloc B4.out.size (.cells #[.int .i64 0, .slice a4 n4 k4] 25))
  clear b4 r4 B3 P4 L2 B4
  go_wp2
  go_ret
  exact ⟨ret_bool (by first | rfl | simp), B5.out⟩

end Go.Proofs.Ytghdjdejdpknjaa.Re
