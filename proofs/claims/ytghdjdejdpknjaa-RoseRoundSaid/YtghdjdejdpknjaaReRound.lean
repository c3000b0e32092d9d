/- RoseRound, walked. -/
import Derived.Test.YtghdjdejdpknjaaReAwake
import Derived.Deep.Cut
namespace Go.Proofs.Ytghdjdejdpknjaa.Re
open Go.RowKit
open Go.Proofs.Ytghdjdejdpknjaa.Rw (Rd Ow At)
open Go.Proofs.Ytghdjdejdpknjaa.Fl (R4 z4 rec4 K4 okR okL hdr rat file ret_bool at_bool row_cell row_frozen)
set_option maxRecDepth 100000

theorem next_turn {n k j : Nat} (hn : 0 < n) (hj : k % n = j) : (k + 1) % n = if j + 1 = n then 0 else j + 1 := by
  have h1 : j < n := by rw [← hj]; exact Nat.mod_lt _ hn
  rw [Nat.add_mod, hj]
  by_cases h : j + 1 = n
  · rw [if_pos h]
    by_cases h2 : n = 1
    · subst h2; omega
    · rw [Nat.mod_eq_of_lt (show 1 < n by omega), h, Nat.mod_self]
  · rw [if_neg h, Nat.mod_eq_of_lt (show 1 < n by omega), Nat.mod_eq_of_lt (by omega)]

set_option maxHeartbeats 4000000 in
theorem round_law (w : World) (v : Value) (l : List Int) (Q : Rd KI w v l) : Calls Try.prog 4 #[v] w fun e w' => e = .returned (.bool true) ∧ Below w.heap.size w w' := by
  have SO := Lib.hid (some_any w v l Q)
  clear Q
  unfold SomePost at SO
  generalize l.take 70 = l2 at *
  have F1 := Lib.hid (fun w v R => file_any w v l2 R)
  unfold FilePost file at F1
  have BL : Hid (∀ (W : World) o, Below W.heap.size W (W.alloc o)) := Lib.hid (fun W o => (Below.refl _ _).alloc (Nat.le_refl _) o)
  go_enter Try.func4, Try.ntmps4
  go_wp2_with fail
  refine SO.out.mono ?_
  rintro e w1 ⟨u1, rfl, r1, b1⟩
  have R1 := Lib.hid r1
  obtain ⟨a1, k1, rfl, _, hm1, hA1⟩ := r1
  have HA := Lib.hid hA1
  unfold maxLen at hm1
  clear hA1
  by_cases hs : seqP l2
  · have e1 : fP l2 = 3 := if_pos hs
    have e2 : fN l2 = 0 := if_pos hs
    have e3 : fL l2 = fileL l2 := if_pos hs
    rw [e1, e2, e3] at F1
    clear e1 e2 e3
    have S1 : Hid (∀ w v, Rd K4 w v (fileL l2) → Calls Try.prog 8 #[.agg #[.int .i64 3, v]] w fun e w' => ∃ u, e = .returned (.tuple #[u, .int .i64 0]) ∧ Rd KI w' u l2 ∧ Below w.heap.size w w') := Lib.hid (fun w v R => (sequence_any w 3 v (fileL l2) R (ok_file hs)).mono fun e w' ⟨u, he, hu, hb⟩ => ⟨u, by rw [he, (seq_file hs).2], by rw [(seq_file hs).1] at hu; exact hu, hb⟩)
    have NX : Hid (∀ w v (j : Nat), j < l2.length → Rd KI w v l2 → Calls Try.prog 10 #[v, .int .i64 (j : Int)] w fun e w' => e = .returned (.tuple #[.int .i64 (iat l2 j), .int .i64 (((if j + 1 = l2.length then 0 else j + 1 : Nat) : Nat) : Int), .int .i64 0]) ∧ Below w.heap.size w w') := Lib.hid (fun w v j hj R => (next_any w v l2 j R).mono fun e w' ⟨he, hb⟩ => ⟨by
      have np : nxP l2 j := ⟨hs, by omega, by omega⟩
      rw [he]
      unfold nR nT nE
      rw [if_pos np, if_pos np, if_pos np]
      by_cases h : j + 1 = l2.length
      · rw [if_pos h, if_pos (by omega)]; rfl
      · rw [if_neg h, if_neg (by omega)]; rfl, hb⟩)
    have SA := Lib.hid (fun w v u R R' => at_bool (show sameB l2 l2 = true from decide_eq_true rfl) (same_any w v u l2 l2 R R'))
    have hl := hs.1
    clear hs
    generalize hn : l2.length = n at *
    have HN := Lib.hid hn
    clear hn
    go_wp2_with fail
    refine (F1.out _ _ R1.out).mono ?_
    rintro e w2 ⟨u2, rfl, r2, b2⟩
    obtain ⟨a2, n2, k2, rfl⟩ : ∃ a n c, u2 = .slice a n c := by obtain ⟨a, c, e, _⟩ := r2; exact ⟨a, _, c, e⟩
    have b2' := b2.alloc b2.size (.cells #[.int .i64 3, .slice a2 n2 k2] 25)
    have B2 := Lib.hid (b1.trans (b2'.mono b1.size))
    have R2 := Lib.hid (R1.out.below b2')
    have HA2 : Hid (0 < n → ∃ b off, a1 = some ⟨b, off, none⟩ ∧ At KI (w2.alloc (.cells #[.int .i64 3, .slice a2 n2 k2] 25)) b off l2) := Lib.hid (fun h => by obtain ⟨b, off, e, A⟩ := HA.out h; exact ⟨b, off, e, A.below b2'⟩)
    have Y2 := Lib.hid (heap_alloc_new w2 (.cells #[.int .i64 3, .slice a2 n2 k2] 25))
    have P2 := Lib.hid (r2.below (BL.out w2 (.cells #[.int .i64 3, .slice a2 n2 k2] 25)))
    clear b1 b2 b2' r2 R1 HA F1 SO
    go_upto_region 5 with fail
    generalize w2.alloc (.cells #[.int .i64 3, .slice a2 n2 k2] 25) = W2 at *
    generalize w2.heap.size = g2 at *
    have c0 : W2.cell? ⟨g2, 0, none⟩ = some (.int .i64 3) := row_cell Y2.out 0
    have c1 : W2.cell? ⟨g2, 1, none⟩ = some (.slice a2 n2 k2) := row_cell Y2.out 1
    go_wp2_with fail
    refine (S1.out _ _ P2.out).mono ?_
    rintro e w3 ⟨u3, rfl, r3, b3⟩
    obtain ⟨a3, n3, k3, rfl⟩ : ∃ a n c, u3 = .slice a n c := by obtain ⟨a, c, e, _⟩ := r3; exact ⟨a, _, c, e⟩
    have R3 := Lib.hid (R2.out.below b3)
    clear c0 c1 P2 Y2 S1
    go_wp2_with fail
    refine (SA.out _ _ _ r3 R3.out).mono ?_
    rintro e w4 ⟨rfl, b4⟩
    have b4' := b3.trans (b4.mono b3.size)
    have B4 := Lib.hid (B2.out.trans (b4'.mono B2.out.size))
    have R4' := Lib.hid (R2.out.below b4')
    have HA4 : Hid (0 < n → ∃ b off, a1 = some ⟨b, off, none⟩ ∧ At KI w4 b off l2) := Lib.hid (fun h => by obtain ⟨b, off, e, A⟩ := HA2.out h; exact ⟨b, off, e, A.below b4'⟩)
    clear r3 b3 b4 b4' R3 R2 HA2 SA B2
    go_wp2
    have hn64 := hl.2
    have hn0 := hl.1
    clear hl
    go_loopw [8, 9] (fun t i wr => ∃ k j : Nat, k ≤ 2 * n ∧ i = .int .i64 k ∧ t = .int .i64 j ∧ Hid (k % n = j) ∧ Hid (Below w4.heap.size w4 wr)) (fun _ i _ => 2 * n - (intOf i).toNat)
    case atStart => exact ⟨0, 0, Nat.zero_le _, rfl, rfl, Lib.hid (Nat.zero_mod _), Lib.hid (Below.refl _ _)⟩
    case round =>
      obtain ⟨k, j, hk, rfl, rfl, hj, bw⟩ := hrel
      by_cases hlt : k < 2 * n
      · have hjn : j < n := by rw [← hj.out]; exact Nat.mod_lt _ hn0
        have NT := Lib.hid (next_turn hn0 hj.out)
        have NJ := Lib.hid (fun w v R => NX.out w v j hjn R)
        obtain ⟨b, off, rfl, A⟩ := HA4.out hn0
        have cw := at1 (A.below bw.out) j (by rw [HN.out]; exact hjn)
        have hmod : Int.tmod (k : Int) (n : Int) = (j : Int) := by rw [Int.tmod_eq_emod_of_nonneg (by omega), ← hj.out]; rfl
        have R5 := Lib.hid (R4'.out.below bw.out)
        have AA := Lib.hid A
        clear A
        generalize iat l2 j = x at *
        generalize (if j + 1 = n then 0 else j + 1 : Nat) = j2 at *
        go_wp2_with fail
        refine (NJ.out _ _ R5.out).mono ?_
        rintro e w5 ⟨rfl, b5⟩
        have c5 := (b5.cell (World.block_lt_of_cell? _ _ cw)).trans cw
        have B5 := Lib.hid (bw.out.trans (b5.mono bw.out.size))
        clear b5 cw bw R5 NJ
        go_wp2
        go_roundw
        case rel => exact ⟨k + 1, j2, by omega, by go_num, rfl, NT, B5⟩
        case measure => simp [intOf]; omega
      · obtain rfl : k = 2 * n := by omega
        have h0 : j = 0 := by rw [← hj.out]; exact Nat.mul_mod_left _ _
        subst h0
        have B5 := Lib.hid (B4.out.trans (bw.out.mono B4.out.size))
        go_wp2_with fail
        refine (awake_any _).mono ?_
        rintro e w5 ⟨rfl, b5⟩
        have B6 := Lib.hid (B5.out.trans (b5.mono B5.out.size))
        clear b5 bw B5 B4
        go_wp2
        go_ret
        exact ⟨ret_bool (by first | rfl | simp), B6.out⟩
  · have e2 : fN l2 = 1 := if_neg hs
    have e3 : fL l2 = [] := if_neg hs
    rw [e2, e3] at F1
    clear e2 e3 hs
    generalize fP l2 = fp at *
    generalize l2.length = n at *
    go_wp2_with fail
    refine (F1.out _ _ R1.out).mono ?_
    rintro e w2 ⟨u2, rfl, r2, b2⟩
    obtain ⟨a2, k2, rfl⟩ : ∃ a c, u2 = .slice a 0 c := by obtain ⟨a, c, e, _⟩ := r2; exact ⟨a, c, e⟩
    have b2' := b2.alloc b2.size (.cells #[.int .i64 fp, .slice a2 0 k2] 25)
    have B2 := Lib.hid (b1.trans (b2'.mono b1.size))
    have Y2 := Lib.hid (heap_alloc_new w2 (.cells #[.int .i64 fp, .slice a2 0 k2] 25))
    clear b1 b2 b2' r2 R1 HA F1 SO
    go_upto_region 4 with fail
    generalize w2.alloc (.cells #[.int .i64 fp, .slice a2 0 k2] 25) = W2 at *
    generalize w2.heap.size = g2 at *
    go_wp2_with fail
    refine (awake_any _).mono ?_
    rintro e w5 ⟨rfl, b5⟩
    have c1 : w5.cell? ⟨g2, 1, none⟩ = some (.slice a2 0 k2) := row_cell ((b5.block _ (lt_of_block Y2.out)).trans Y2.out) 1
    have B6 := Lib.hid (B2.out.trans (b5.mono B2.out.size))
    clear b5 B2 Y2
    go_wp2
    go_ret
    exact ⟨ret_bool (by first | rfl | simp), B6.out⟩

end Go.Proofs.Ytghdjdejdpknjaa.Re
