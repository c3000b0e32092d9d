/- rose.isSequence, the document's May; Next of both. -/
import Derived.Test.YtghdjdejdpknjaaReMem
namespace Go.Proofs.Ytghdjdejdpknjaa.Re
open Go.RowKit
open Go.Proofs.Ytghdjdejdpknjaa.Rw (Rd Ow At)
open Go.Proofs.Ytghdjdejdpknjaa.Fl (R4 z4 rec4 K4 okR hdr rat goodF ret_bool at_bool)
attribute [local irreducible] wpQuiet

set_option maxHeartbeats 1000000 in
theorem isseq_any (w : World) (v : Value) (l : List Int) (R : Rd KI w v l) : Calls Try.prog 15 #[v] w fun e w' => e = .returned (.bool (seqB l)) ∧ Below w.heap.size w w' := by
  have HNO : Hid (∀ k, k < l.length → ¬ okI (iat l k) → false = seqB l) := Lib.hid (fun k hk h => seq_no hk h)
  have HLO : Hid (¬ (0 < l.length ∧ l.length ≤ 64) → false = seqB l) := Lib.hid (fun h => seq_long h)
  have HYES : Hid (0 < l.length ∧ l.length ≤ 64 → (∀ i, i < l.length → okI (iat l i)) → true = seqB l) := Lib.hid (fun h g => seq_yes h g)
  obtain ⟨a, cap, rfl, _, hm, hA⟩ := R
  have HA := Lib.hid hA
  unfold maxLen at hm
  clear hA
  generalize hn : l.length = n at *
  have HN := Lib.hid hn
  clear hn
  rcases (by omega : n = 0 ∨ 64 < n ∨ (0 < n ∧ n ≤ 64)) with h | h | h
  · have E := Lib.hid (HLO.out (by omega))
    have h0 : ((n : Int) == 0) = true := by rw [h]; rfl
    clear HNO HLO HYES HA HN h
    go_enter Try.func15, Try.ntmps15
    go_wp2
    go_ret
    exact ⟨ret_bool E.out, Below.refl _ _⟩
  · have E := Lib.hid (HLO.out (by omega))
    have h0 : ((n : Int) == 0) = false := by simp; omega
    clear HNO HLO HYES HA HN
    go_enter Try.func15, Try.ntmps15
    go_wp2
    go_ret
    exact ⟨ret_bool E.out, Below.refl _ _⟩
  · have h0 : ((n : Int) == 0) = false := by simp; omega
    have h64 : n ≤ 64 := h.2
    have HY := Lib.hid (HYES.out h)
    clear HLO HYES h
    go_enter Try.func15, Try.ntmps15
    go_wp2
    go_loopw [15] (fun i wr => ∃ k : Nat, k ≤ n ∧ i = .int .i64 k ∧ Hid (Below w.heap.size w wr) ∧ Hid (∀ i, i < k → okI (iat l i))) (fun i _ => n - (intOf i).toNat)
    case atStart => exact ⟨0, Nat.zero_le _, rfl, Lib.hid (Below.refl _ _), Lib.hid (fun i hi => by omega)⟩
    case round =>
      obtain ⟨k, hk, rfl, bw, hs⟩ := hrel
      by_cases hlt : k < n
      · obtain ⟨b, off, rfl, A⟩ := HA.out (by omega)
        have c0 := at1 (A.below bw.out) k (by have := HN.out; omega)
        have P1 := Lib.hid (HNO.out k hlt)
        have P3 : Hid (okI (iat l k) → ∀ i, i < k + 1 → okI (iat l i)) := Lib.hid (fun g i hi => by
          by_cases e : i = k
          · rw [e]; exact g
          · exact hs.out i (by omega))
        have HAA := Lib.hid A
        clear A
        unfold okI at P1 P3
        generalize iat l k = x at *
        rcases (by omega : x < 0 ∨ (0 ≤ x ∧ 6 ≤ x) ∨ (0 ≤ x ∧ x ≤ 5)) with h | ⟨h, h2⟩ | ⟨h, h2⟩
        · have E := Lib.hid (P1.out (by omega))
          clear P1 P3
          go_wp2
          go_ret
          exact ⟨ret_bool E.out, bw.out⟩
        · have E := Lib.hid (P1.out (by omega))
          clear P1 P3
          go_wp2
          go_ret
          exact ⟨ret_bool E.out, bw.out⟩
        · have ST := Lib.hid (P3.out ⟨h, h2⟩)
          clear P1 P3
          go_wp2
          go_roundw
          case rel => exact ⟨k + 1, by omega, by go_num, bw, ST⟩
          case measure => simp [intOf]; omega
      · obtain rfl : k = n := by omega
        have E := Lib.hid (HY.out (fun i hi => hs.out i hi))
        go_wp2
        go_ret
        exact ⟨ret_bool E.out, bw.out⟩

set_option maxHeartbeats 1000000 in
theorem rmay_any (w : World) (v : Value) (l : List Int) (R : Rd KI w v l) : Calls Try.prog 17 #[v] w fun e w' => e = .returned (.bool (seqB l)) ∧ Below w.heap.size w w' := by
  have HNO : Hid (∀ k, k < l.length → ¬ okI (iat l k) → false = seqB l) := Lib.hid (fun k hk h => seq_no hk h)
  have HLO : Hid (¬ (0 < l.length ∧ l.length ≤ 64) → false = seqB l) := Lib.hid (fun h => seq_long h)
  have HYES : Hid (0 < l.length ∧ l.length ≤ 64 → (∀ i, i < l.length → okI (iat l i)) → true = seqB l) := Lib.hid (fun h g => seq_yes h g)
  obtain ⟨a, cap, rfl, _, hm, hA⟩ := R
  have HA := Lib.hid hA
  unfold maxLen at hm
  clear hA
  generalize hn : l.length = n at *
  have HN := Lib.hid hn
  clear hn
  go_enter Try.func17, Try.ntmps17
  go_wp2
  go_loopw [3] (fun i wr => ∃ k : Nat, k ≤ n ∧ i = .int .i64 k ∧ Hid (Below w.heap.size w wr) ∧ Hid (∀ i, i < k → okI (iat l i))) (fun i _ => n - (intOf i).toNat)
  case atStart => exact ⟨0, Nat.zero_le _, rfl, Lib.hid (Below.refl _ _), Lib.hid (fun i hi => by omega)⟩
  case round =>
    obtain ⟨k, hk, rfl, bw, hs⟩ := hrel
    by_cases hlt : k < n
    · obtain ⟨b, off, rfl, A⟩ := HA.out (by omega)
      have c0 := at1 (A.below bw.out) k (by have := HN.out; omega)
      have P1 := Lib.hid (HNO.out k hlt)
      have P3 : Hid (okI (iat l k) → ∀ i, i < k + 1 → okI (iat l i)) := Lib.hid (fun g i hi => by
        by_cases e : i = k
        · rw [e]; exact g
        · exact hs.out i (by omega))
      have HAA := Lib.hid A
      clear A
      unfold okI at P1 P3
      generalize iat l k = x at *
      rcases (by omega : x < 0 ∨ (0 ≤ x ∧ 6 ≤ x) ∨ (0 ≤ x ∧ x ≤ 5)) with h | ⟨h, h2⟩ | ⟨h, h2⟩
      · have E := Lib.hid (P1.out (by omega))
        clear P1 P3
        go_wp2
        go_ret
        exact ⟨ret_bool E.out, bw.out⟩
      · have E := Lib.hid (P1.out (by omega))
        clear P1 P3
        go_wp2
        go_ret
        exact ⟨ret_bool E.out, bw.out⟩
      · have ST := Lib.hid (P3.out ⟨h, h2⟩)
        clear P1 P3
        go_wp2
        go_roundw
        case rel => exact ⟨k + 1, by omega, by go_num, bw, ST⟩
        case measure => simp [intOf]; omega
    · obtain rfl : k = n := by omega
      rcases (by omega : k = 0 ∨ 64 < k ∨ (0 < k ∧ k ≤ 64)) with h | h | h
      · have E := Lib.hid (HLO.out (by omega))
        have h0 : ¬ ((0 : Int) < (k : Int)) := by omega
        clear HNO HLO HYES
        go_wp2
        go_ret
        exact ⟨ret_bool E.out, bw.out⟩
      · have E := Lib.hid (HLO.out (by omega))
        have h0 : (0 : Int) < (k : Int) := by omega
        have h1 : ¬ ((k : Int) < 65) := by omega
        clear HNO HLO HYES
        go_wp2
        go_ret
        exact ⟨ret_bool (by simpa [h1] using E.out), bw.out⟩
      · have E := Lib.hid (HYES.out h (fun i hi => hs.out i hi))
        have h0 : (0 : Int) < (k : Int) := by omega
        have h1 : (k : Int) < 65 := by omega
        clear HNO HLO HYES
        go_wp2
        go_ret
        exact ⟨ret_bool (by simpa [h1] using E.out), bw.out⟩

set_option maxHeartbeats 1000000 in
theorem next_any (w : World) (v : Value) (l : List Int) (t : Int) (R : Rd KI w v l) : Calls Try.prog 10 #[v, .int .i64 t] w (NextPost w l t) := by
  have R0 := Lib.hid R
  have IS := Lib.hid (fun w v R => isseq_any w v l R)
  by_cases hs : seqP l
  · have hb : seqB l = true := decide_eq_true hs
    rw [hb] at IS
    have HS := Lib.hid hs
    have hl := hs.1
    clear hb hs
    by_cases ht : 0 ≤ t ∧ t < l.length
    · obtain ⟨k, rfl⟩ : ∃ k : Nat, t = k := ⟨t.toNat, by omega⟩
      have hk : k < l.length := by omega
      have NP : nxP l k := ⟨HS.out, ht.1, ht.2⟩
      have EL := Lib.hid (fun h w' hb => next_last (w := w) (w' := w') NP h hb)
      have EM := Lib.hid (fun h w' hb => next_more (w := w) (w' := w') NP h hb)
      obtain ⟨a, cap, rfl, _, hm, hA⟩ := R
      obtain ⟨b, off, rfl, hA2⟩ := hA (by omega)
      have c0 := at1 hA2 k hk
      clear hA hA2 NP HS ht
      generalize iat l k = x at *
      generalize hn : l.length = n at *
      have W0 : IntKind.i64.wrap ((n : Int) - 1) = (n : Int) - 1 := IntWalk.i64_in _ (by omega)
      have W1 : IntKind.i64.wrap ((k : Int) + 1) = (k : Int) + 1 := IntWalk.i64_in _ (by omega)
      clear hn hm
      by_cases h1 : k + 1 = n
      · have E := Lib.hid (EL.out h1)
        have t0 : ¬ ((k : Int) < 0) := by omega
        have t1 : ¬ ((n : Int) - 1 < k) := by omega
        have t2 : ¬ ((k : Int) < (n : Int) - 1) := by omega
        have H1 := Lib.hid h1
        clear EL EM h1
        go_enter Try.func10, Try.ntmps10
        go_wp2_with fail
        refine (IS.out _ _ R0.out).mono ?_
        rintro e w1 ⟨rfl, b1⟩
        have d0 := (b1.cell (World.block_lt_of_cell? _ _ c0)).trans c0
        have E1 := Lib.hid (E.out _ b1)
        clear b1
        go_wp2
        go_ret3
        exact E1.out
      · have E := Lib.hid (EM.out h1)
        have t0 : ¬ ((k : Int) < 0) := by omega
        have t1 : ¬ ((n : Int) - 1 < k) := by omega
        have t2 : (k : Int) < (n : Int) - 1 := by omega
        have H1 := Lib.hid h1
        clear EL EM h1
        go_enter Try.func10, Try.ntmps10
        go_wp2_with fail
        refine (IS.out _ _ R0.out).mono ?_
        rintro e w1 ⟨rfl, b1⟩
        have d0 := (b1.cell (World.block_lt_of_cell? _ _ c0)).trans c0
        have E1 := Lib.hid (E.out _ b1)
        clear b1
        go_wp2
        go_ret3
        exact E1.out
    · have NP : ¬ nxP l t := fun h => ht h.2
      have E := Lib.hid (fun w' hb => next_no (w := w) NP w' hb)
      obtain ⟨a, cap, rfl, _, hm, hA⟩ := R
      clear hA HS NP
      generalize hn : l.length = n at *
      have W0 : IntKind.i64.wrap ((n : Int) - 1) = (n : Int) - 1 := IntWalk.i64_in _ (by omega)
      clear hn hm
      rcases (by omega : t < 0 ∨ (0 ≤ t ∧ (n : Int) - 1 < t)) with h | ⟨h, h2⟩
      all_goals
        clear ht
        go_enter Try.func10, Try.ntmps10
        go_wp2_with fail
        refine (IS.out _ _ R0.out).mono ?_
        rintro e w1 ⟨rfl, b1⟩
        have E1 := Lib.hid (E.out _ b1)
        clear b1
        go_wp2
        go_ret3
        exact E1.out
  · have hb : seqB l = false := decide_eq_false hs
    rw [hb] at IS
    have NP : ¬ nxP l t := fun h => hs h.1
    have E := Lib.hid (fun w' hb => next_no (w := w) NP w' hb)
    obtain ⟨a, cap, rfl, _, hm, hA⟩ := R
    clear hA hs NP hb
    unfold maxLen at hm
    generalize l.length = n at *
    have W0 : IntKind.i64.wrap ((n : Int) - 1) = (n : Int) - 1 := IntWalk.i64_in _ (by omega)
    go_enter Try.func10, Try.ntmps10
    go_wp2_with fail
    refine (IS.out _ _ R0.out).mono ?_
    rintro e w1 ⟨rfl, b1⟩
    have E1 := Lib.hid (E.out _ b1)
    clear b1
    go_wp2
    go_ret3
    exact E1.out

set_option maxHeartbeats 1000000 in
theorem rnext_any (w : World) (v : Value) (l : List Int) (t : Int) (R : Rd KI w v l) : Calls Try.prog 11 #[v, .int .i64 t] w (NextPost w l t) := by
  have R0 := Lib.hid R
  have IS := Lib.hid (fun w v R => rmay_any w v l R)
  by_cases hs : seqP l
  · have hb : seqB l = true := decide_eq_true hs
    rw [hb] at IS
    have HS := Lib.hid hs
    have hl := hs.1
    clear hb hs
    by_cases ht : 0 ≤ t ∧ t < l.length
    · obtain ⟨k, rfl⟩ : ∃ k : Nat, t = k := ⟨t.toNat, by omega⟩
      have hk : k < l.length := by omega
      have NP : nxP l k := ⟨HS.out, ht.1, ht.2⟩
      have EL := Lib.hid (fun h w' hb => next_last (w := w) (w' := w') NP h hb)
      have EM := Lib.hid (fun h w' hb => next_more (w := w) (w' := w') NP h hb)
      obtain ⟨a, cap, rfl, _, hm, hA⟩ := R
      obtain ⟨b, off, rfl, hA2⟩ := hA (by omega)
      have c0 := at1 hA2 k hk
      clear hA hA2 NP HS ht
      generalize iat l k = x at *
      generalize hn : l.length = n at *
      have W0 : IntKind.i64.wrap ((n : Int) - 1) = (n : Int) - 1 := IntWalk.i64_in _ (by omega)
      have W1 : IntKind.i64.wrap ((k : Int) + 1) = (k : Int) + 1 := IntWalk.i64_in _ (by omega)
      clear hn hm
      by_cases h1 : k + 1 = n
      · have E := Lib.hid (EL.out h1)
        have t0 : ¬ ((k : Int) < 0) := by omega
        have t1 : ¬ ((n : Int) ≤ k) := by omega
        have t2 : ((k : Int) == (n : Int) - 1) = true := by simp; omega
        have H1 := Lib.hid h1
        clear EL EM h1
        go_enter Try.func11, Try.ntmps11
        go_wp2_with fail
        refine (IS.out _ _ R0.out).mono ?_
        rintro e w1 ⟨rfl, b1⟩
        have d0 := (b1.cell (World.block_lt_of_cell? _ _ c0)).trans c0
        have E1 := Lib.hid (E.out _ b1)
        clear b1
        go_wp2
        go_ret3
        exact E1.out
      · have E := Lib.hid (EM.out h1)
        have t0 : ¬ ((k : Int) < 0) := by omega
        have t1 : ¬ ((n : Int) ≤ k) := by omega
        have t2 : ((k : Int) == (n : Int) - 1) = false := by simp; omega
        have H1 := Lib.hid h1
        clear EL EM h1
        go_enter Try.func11, Try.ntmps11
        go_wp2_with fail
        refine (IS.out _ _ R0.out).mono ?_
        rintro e w1 ⟨rfl, b1⟩
        have d0 := (b1.cell (World.block_lt_of_cell? _ _ c0)).trans c0
        have E1 := Lib.hid (E.out _ b1)
        clear b1
        go_wp2
        go_ret3
        exact E1.out
    · have NP : ¬ nxP l t := fun h => ht h.2
      have E := Lib.hid (fun w' hb => next_no (w := w) NP w' hb)
      obtain ⟨a, cap, rfl, _, hm, hA⟩ := R
      clear hA HS NP
      generalize hn : l.length = n at *
      have W0 : IntKind.i64.wrap ((n : Int) - 1) = (n : Int) - 1 := IntWalk.i64_in _ (by omega)
      clear hn hm
      rcases (by omega : t < 0 ∨ (0 ≤ t ∧ (n : Int) ≤ t)) with h | ⟨h, h2⟩
      all_goals
        clear ht
        go_enter Try.func11, Try.ntmps11
        go_wp2_with fail
        refine (IS.out _ _ R0.out).mono ?_
        rintro e w1 ⟨rfl, b1⟩
        have E1 := Lib.hid (E.out _ b1)
        clear b1
        go_wp2
        go_ret3
        exact E1.out
  · have hb : seqB l = false := decide_eq_false hs
    rw [hb] at IS
    have NP : ¬ nxP l t := fun h => hs h.1
    have E := Lib.hid (fun w' hb => next_no (w := w) NP w' hb)
    obtain ⟨a, cap, rfl, _, hm, hA⟩ := R
    clear hA hs NP hb
    unfold maxLen at hm
    generalize l.length = n at *
    have W0 : IntKind.i64.wrap ((n : Int) - 1) = (n : Int) - 1 := IntWalk.i64_in _ (by omega)
    go_enter Try.func11, Try.ntmps11
    go_wp2_with fail
    refine (IS.out _ _ R0.out).mono ?_
    rintro e w1 ⟨rfl, b1⟩
    have E1 := Lib.hid (E.out _ b1)
    clear b1
    go_wp2
    go_ret3
    exact E1.out

end Go.Proofs.Ytghdjdejdpknjaa.Re
