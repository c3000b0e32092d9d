/- rodl.isTable, and the document's May: which entries may be a table. -/
import Derived.Test.YtnigbihofebfhaaRoGood
import Derived.Test.YtnigbihofebfhaaRoRef
import Derived.Test.YtnigbihofebfhaaRoList
namespace Go.Proofs.Ytnigbihofebfhaa.Ro
open Go.RowKit
open Go.Proofs.Ytnigbihofebfhaa.Rw (Rd Ow At)
open Go.Proofs.Ytnigbihofebfhaa.Fl (R4 z4 rec4 K4 okR hdr rat goodF ret_bool at_bool)
attribute [local irreducible] wpQuiet

set_option maxHeartbeats 1000000 in
theorem istable_any (w : World) (v : Value) (l : List E5) (R : Rd K5 w v l) : Calls Try.prog 24 #[v] w fun e w' => e = .returned (.bool (mayB l)) ∧ Below w.heap.size w w' := by
  have HNO : Hid (∀ k, k < l.length → ¬ okAt l k → false = mayB l) := fun k hk h => (decide_eq_false (fun g => h (g k hk))).symm
  have HYES : Hid ((∀ i, i < l.length → okAt l i) → true = mayB l) := fun h => (decide_eq_true h).symm
  obtain ⟨a, cap, rfl, _, hm, hA⟩ := R
  have HA := Lib.hid hA
  unfold maxLen at hm
  clear hA
  generalize hn : l.length = n at *
  have HN := Lib.hid hn
  clear hn
  go_enter Try.func24, Try.ntmps24
  go_wp2
  go_loopw [8, 3] (fun i s wr => ∃ k : Nat, k ≤ n ∧ i = .int .i64 k ∧ s = .int .i64 (prevS l k) ∧ Hid (Below w.heap.size w wr) ∧ Hid (∀ i, i < k → okAt l i)) (fun i _ _ => n - (intOf i).toNat)
  case atStart => exact ⟨0, Nat.zero_le _, rfl, rfl, Below.refl _ _, fun i hi => by omega⟩
  case round =>
    obtain ⟨k, hk, rfl, rfl, bw, hs⟩ := hrel
    by_cases hlt : k < n
    · obtain ⟨b, off, rfl, A⟩ := HA.out (by omega)
      obtain ⟨c0, c1, c2, c3, c4⟩ := at5 (A.below bw.out) k (by have := HN.out; omega)
      have HAA := Lib.hid A
      have GA := Lib.hid (fun w => good_any w (eat l k))
      have hno := HNO.out k hlt
      have hok : okAt l k ↔ okE (eat l k) ∧ prevS l k < (eat l k).2.1 := Iff.rfl
      have hst : okAt l k → ∀ i, i < k + 1 → okAt l i := fun g i hi => by
        by_cases e : i = k
        · rw [e]; exact g
        · exact hs.out i (by omega)
      have hpn := prev_next l k
      rw [show l.getD k z5 = eat l k from rfl] at c0 c1 c2 c3 c4
      clear A
      unfold ent at GA
      have P1 := Lib.hid hno
      have P2 := Lib.hid hok
      have P3 := Lib.hid hst
      have P4 := Lib.hid hpn
      clear hno hok hst hpn
      by_cases h1 : okE (eat l k)
      · rw [ok_yes h1] at GA
        have H1 := Lib.hid h1
        clear h1
        by_cases h2 : (eat l k).2.1 ≤ prevS l k
        · have E := Lib.hid (P1.out (fun g => by have := (P2.out.1 g).2; omega))
          clear P1 P2 P3 P4
          generalize prevS l k = ps at *
          generalize eat l k = x at *
          go_wp2_with fail
          refine (GA.out _).mono ?_
          rintro e w1 ⟨rfl, b1⟩
          have e1 : w1.cell? ⟨wr.heap.size, 1, none⟩ = some (.int .i64 x.2.1) := (b1.cell (by simp)).trans (by go_simp)
          have B1 := Lib.hid ((bw.out.alloc bw.out.size _).trans (b1.mono (Nat.le_trans bw.out.size (by simp))))
          clear b1
          go_wp2
          go_ret
          exact ⟨ret_bool E.out, B1.out⟩
        · have ST := Lib.hid (P3.out (P2.out.2 ⟨H1.out, by omega⟩))
          have PN := Lib.hid P4.out
          clear P1 P2 P3 P4
          generalize prevS l k = ps at *
          generalize eat l k = x at *
          have h3 : ps < x.2.1 := by omega
          go_wp2_with fail
          refine (GA.out _).mono ?_
          rintro e w1 ⟨rfl, b1⟩
          have e1 : w1.cell? ⟨wr.heap.size, 1, none⟩ = some (.int .i64 x.2.1) := (b1.cell (by simp)).trans (by go_simp)
          have B1 := Lib.hid ((bw.out.alloc bw.out.size _).trans (b1.mono (Nat.le_trans bw.out.size (by simp))))
          clear b1
          go_wp2
          go_roundw
          case rel => exact ⟨k + 1, by omega, by go_num, by rw [PN.out], B1, ST⟩
          case measure => simp [intOf]; omega
      · have E := Lib.hid (P1.out (fun g => h1 (P2.out.1 g).1))
        rw [ok_no h1] at GA
        clear P1 P2 P3 P4 h1
        generalize prevS l k = ps at *
        generalize eat l k = x at *
        go_wp2_with fail
        refine (GA.out _).mono ?_
        rintro e w1 ⟨rfl, b1⟩
        have B1 := Lib.hid ((bw.out.alloc bw.out.size _).trans (b1.mono (Nat.le_trans bw.out.size (by simp))))
        clear b1
        go_wp2
        go_ret
        exact ⟨ret_bool E.out, B1.out⟩
    · obtain rfl : k = n := by omega
      have E := Lib.hid (HYES.out (fun i hi => hs.out i hi))
      generalize prevS l k = ps at *
      go_wp2
      go_ret
      exact ⟨ret_bool E.out, bw.out⟩

set_option maxHeartbeats 4000000 in
theorem rmay_any (w : World) (v : Value) (l : List E5) (R : Rd K5 w v l) : Calls Try.prog 17 #[v] w fun e w' => e = .returned (.bool (mayB l)) ∧ Below w.heap.size w w' := by
  have HNO : Hid (∀ k, k < l.length → ¬ okAt l k → false = mayB l) := fun k hk h => (decide_eq_false (fun g => h (g k hk))).symm
  have HYES : Hid ((∀ i, i < l.length → okAt l i) → true = mayB l) := fun h => (decide_eq_true h).symm
  have HLEN : Hid ((∀ i, i < l.length → okAt l i) → l.length ≤ 16) := fun h => may_len h
  obtain ⟨a, cap, rfl, _, hm, hA⟩ := R
  have HA := Lib.hid hA
  unfold maxLen at hm
  clear hA
  generalize hn : l.length = n at *
  have HN := Lib.hid hn
  clear hn
  go_enter Try.func17, Try.ntmps17
  go_wp2
  go_loopw [3] (fun i wr => ∃ k : Nat, k ≤ n ∧ i = .int .i64 k ∧ Hid (Below w.heap.size w wr) ∧ Hid (∀ i, i < k → okAt l i)) (fun i _ => n - (intOf i).toNat)
  case atStart => exact ⟨0, Nat.zero_le _, rfl, Below.refl _ _, fun i hi => by omega⟩
  case round =>
    obtain ⟨k, hk, rfl, bw, hs⟩ := hrel
    by_cases hlt : k < n
    · obtain ⟨b, off, rfl, A⟩ := HA.out (by omega)
      obtain ⟨c0, c1, c2, c3, c4⟩ := at5 (A.below bw.out) k (by have := HN.out; omega)
      have HAA := Lib.hid A
      have GA := Lib.hid (fun w => rgood_any w (eat l k))
      have hok := okAt_iff hs.out
      have P1 := Lib.hid (HNO.out k hlt)
      have P2 := Lib.hid hok
      have P3 : Hid (okAt l k → ∀ i, i < k + 1 → okAt l i) := fun g i hi => by
        by_cases e : i = k
        · rw [e]; exact g
        · exact hs.out i (by omega)
      rw [show l.getD k z5 = eat l k from rfl] at c0 c1 c2 c3 c4
      replace c0 := Qb.cell_by c0
      replace c1 := Qb.cell_by c1
      replace c2 := Qb.cell_by c2
      replace c3 := Qb.cell_by c3
      replace c4 := Qb.cell_by c4
      clear A hok HNO HYES HLEN
      unfold ent at GA
      by_cases h1 : okE (eat l k)
      · rw [ok_yes h1] at GA
        have H1 := Lib.hid h1
        clear h1
        by_cases h2 : (eat l k).1 = 4
        · have E := Lib.hid (P1.out (fun g => (P2.out.1 g).2.1 h2))
          clear P1 P2 P3 H1
          generalize eat l k = x at *
          obtain ⟨x1, x2, x3, x4, x5⟩ := x
          simp only at *
          subst h2
          go_wp2
          refine Qb.wp_region_by (by kernel_rfl) (by kernel_rfl) ?_
          repeat (first | (refine Qk.skip (by rfl) (by rfl) ?_) | (quiet_step ((go_at_call 22; with_reducible exact Qb.of_below (GA.out _)))))
          refine wpQuiet_nil ?_
          intro _ hw'
          obtain ⟨pp, rfl⟩ := hw'
          go_wp2
          go_ret
          exact ⟨ret_bool E.out, bw.out.trans (pp.below.mono bw.out.size)⟩
        · by_cases hk0 : k = 0
          · have ST := Lib.hid (P3.out (P2.out.2 ⟨H1.out, h2, fun g => by omega⟩))
            clear P1 P2 P3 H1
            generalize eat l k = x at *
            have h2' : decide (x.1 = 4) = false := decide_eq_false h2
            have k0 : decide (0 < k) = false := decide_eq_false (by omega)
            clear hk0
            go_wp2
            refine Qb.wp_region_by (by kernel_rfl) (by kernel_rfl) ?_
            repeat (first | (refine Qk.skip (by rfl) (by rfl) ?_) | (quiet_step ((go_at_call 22; with_reducible exact Qb.of_below (GA.out _)))))
            refine wpQuiet_nil ?_
            intro _ hw'
            obtain ⟨pp, rfl⟩ := hw'
            have B1 := Lib.hid (bw.out.trans (pp.below.mono bw.out.size))
            go_wp2
            go_roundw
            case rel => exact ⟨k + 1, by omega, by go_num, B1, ST⟩
            case measure => simp [intOf]; omega
          · obtain ⟨j, hj⟩ : ∃ j, k = j + 1 := ⟨k - 1, by omega⟩
            have hjn : j < n := by omega
            obtain ⟨_, d1, _, _, _⟩ := at5 (HAA.out.below bw.out) j (by have := HN.out; omega)
            rw [show l.getD j z5 = eat l j from rfl] at d1
            replace d1 := Qb.cell_by d1
            have k0 : decide (0 < k) = true := decide_eq_true (by omega)
            have W0 : IntKind.i64.wrap ((k : Int) - 1) = (j : Int) := by rw [IntWalk.i64_in _ (by omega)]; omega
            have h2' : decide ((eat l k).1 = 4) = false := decide_eq_false h2
            have HJ := Lib.hid hj
            rw [show prevS l k = (eat l j).2.1 by rw [hj, prev_next]] at P2
            clear hj hk0
            by_cases h3 : (eat l k).2.1 ≤ (eat l j).2.1
            · have E := Lib.hid (P1.out (fun g => (P2.out.1 g).2.2 ⟨by have := HJ.out; omega, h3⟩))
              have h3' : decide ((eat l k).2.1 ≤ (eat l j).2.1) = true := decide_eq_true h3
              clear P1 P2 P3 H1
              generalize eat l k = x at *
              generalize eat l j = y at *
              go_wp2
              refine Qb.wp_region_by (by kernel_rfl) (by kernel_rfl) ?_
              repeat (first | (refine Qk.skip (by rfl) (by rfl) ?_) | (quiet_step ((go_at_call 22; with_reducible exact Qb.of_below (GA.out _)))))
              refine wpQuiet_nil ?_
              intro _ hw'
              obtain ⟨pp, rfl⟩ := hw'
              go_wp2
              go_ret
              exact ⟨ret_bool E.out, bw.out.trans (pp.below.mono bw.out.size)⟩
            · have ST := Lib.hid (P3.out (P2.out.2 ⟨H1.out, h2, fun g => h3 g.2⟩))
              have h3' : decide ((eat l k).2.1 ≤ (eat l j).2.1) = false := decide_eq_false h3
              clear P1 P2 P3 H1
              generalize eat l k = x at *
              generalize eat l j = y at *
              go_wp2
              refine Qb.wp_region_by (by kernel_rfl) (by kernel_rfl) ?_
              repeat (first | (refine Qk.skip (by rfl) (by rfl) ?_) | (quiet_step ((go_at_call 22; with_reducible exact Qb.of_below (GA.out _)))))
              refine wpQuiet_nil ?_
              intro _ hw'
              obtain ⟨pp, rfl⟩ := hw'
              have B1 := Lib.hid (bw.out.trans (pp.below.mono bw.out.size))
              go_wp2
              go_roundw
              case rel => exact ⟨k + 1, by omega, by go_num, B1, ST⟩
              case measure => simp [intOf]; omega
      · have E := Lib.hid (P1.out (fun g => h1 (P2.out.1 g).1))
        rw [ok_no h1] at GA
        clear P1 P2 P3 h1
        generalize eat l k = x at *
        go_wp2
        refine Qb.wp_region_by (by kernel_rfl) (by kernel_rfl) ?_
        repeat (first | (refine Qk.skip (by rfl) (by rfl) ?_) | (quiet_step ((go_at_call 22; with_reducible exact Qb.of_below (GA.out _)))))
        refine wpQuiet_nil ?_
        intro _ hw'
        obtain ⟨pp, rfl⟩ := hw'
        go_wp2
        go_ret
        exact ⟨ret_bool E.out, bw.out.trans (pp.below.mono bw.out.size)⟩
    · obtain rfl : k = n := by omega
      have E := Lib.hid (HYES.out (fun i hi => hs.out i hi))
      have h64 : (k : Int) ≤ 64 := by have := HLEN.out (fun i hi => hs.out i hi); omega
      have h64' : decide ((k : Int) ≤ 64) = true := decide_eq_true h64
      go_wp2
      go_ret
      exact ⟨ret_bool (by rw [← E.out]), bw.out⟩

end Go.Proofs.Ytnigbihofebfhaa.Ro
