/- file.Good. -/
import Derived.Test.YtghdjdejdpknjaaFlSmall
import Derived.Test.YtghdjdejdpknjaaQk
namespace Go.Proofs.Ytghdjdejdpknjaa.Fl
open Go.RowKit
open Go.Proofs.Ytghdjdejdpknjaa.Rw (Rd Ow At)
attribute [local irreducible] Sd.wpSd wpQuiet

set_option maxHeartbeats 400000 in
theorem good_perm (w : World) (p : Int) (a : Option Addr) (n cap : Nat) (h : ¬ (0 ≤ p ∧ p ≤ 7)) : Calls Try.prog 19 #[.agg #[.int .i64 p, .slice a n cap]] w fun e w' => e = .returned (.bool false) ∧ Below w.heap.size w w' := by
  have B0 := Lib.hid ((Below.refl w.heap.size w).alloc (Nat.le_refl _) (.cells #[.int .i64 p, .slice a n cap] 25))
  have HP := Lib.hid (fun w => at_bool (perm_no h) (perm_any w p))
  clear h
  have k0 := Sd.cell_by (show (w.alloc (.cells #[.int .i64 p, .slice a n cap] 25)).cell? ⟨w.heap.size, 0, none⟩ = some (.int .i64 p) by go_simp)
  go_enter Try.func19, Try.ntmps19
  go_wp2_with fail
  generalize w.alloc (.cells #[.int .i64 p, .slice a n cap] 25) = W at *
  refine Sd.start [(false, 0), (false, 1), (true, 2), (false, 3), (false, 4), (false, 5), (false, 6), (false, 7), (false, 8), (false, 9), (false, 10), (false, 11), (false, 12), (false, 13), (false, 14), (false, 15), (false, 16), (false, 17), (false, 18), (false, 19), (true, 20), (false, 21), (false, 22), (false, 23)] (by kernel_rfl) (by kernel_rfl) (by kernel_rfl) ?_
  dsimp only [Sd.picks, List.getElem?_cons_succ, List.getElem?_cons_zero]
  iterate 2 (refine Sd.lit ?_; quiet_step (fail); refine wpQuiet_nil ?_)
  refine Sd.call (by rfl) (fun K hK => ?_)
  go_simp
  refine (HP.out _).mono ?_
  rintro e w1 ⟨rfl, b1⟩
  have C1 := Lib.hid (Below.trans ((Below.refl W.heap.size W).drew) b1)
  refine hK _ _ (Sd.Cl.of C1.out) ?_
  clear hK K b1
  iterate 17 (refine Sd.lit ?_; (first | (refine Qk.skip (by rfl) (by rfl) ?_) | quiet_step (fail)); refine wpQuiet_nil ?_)
  refine Qk.past (by rfl) (by rfl) ?_
  iterate 3 (refine Sd.lit ?_; (first | (refine Qk.skip (by rfl) (by rfl) ?_) | quiet_step (fail)); refine wpQuiet_nil ?_)
  refine Sd.done ?_
  go_wp2
  go_ret
  exact ⟨rfl, B0.out.trans (C1.out.mono B0.out.size)⟩

set_option maxHeartbeats 400000 in
theorem good_none (w : World) (p : Int) (a : Option Addr) (n cap : Nat) (h : 0 ≤ p ∧ p ≤ 7) (hn : n < 1) : Calls Try.prog 19 #[.agg #[.int .i64 p, .slice a n cap]] w fun e w' => e = .returned (.bool false) ∧ Below w.heap.size w w' := by
  have B0 := Lib.hid ((Below.refl w.heap.size w).alloc (Nat.le_refl _) (.cells #[.int .i64 p, .slice a n cap] 25))
  have HP := Lib.hid (fun w => at_bool (perm_yes h.1 h.2) (perm_any w p))
  have hn2 : decide ((1 : Int) ≤ n) = false := decide_eq_false (by omega)
  clear h hn
  have k0 := Sd.cell_by (show (w.alloc (.cells #[.int .i64 p, .slice a n cap] 25)).cell? ⟨w.heap.size, 0, none⟩ = some (.int .i64 p) by go_simp)
  go_enter Try.func19, Try.ntmps19
  go_wp2_with fail
  generalize w.alloc (.cells #[.int .i64 p, .slice a n cap] 25) = W at *
  refine Sd.start [(false, 0), (false, 1), (true, 2), (false, 3), (false, 4), (false, 5), (false, 6), (false, 7), (false, 8), (false, 9), (false, 10), (false, 11), (false, 12), (false, 13), (false, 14), (false, 15), (false, 16), (false, 17), (false, 18), (false, 19), (true, 20), (false, 21), (false, 22), (false, 23)] (by kernel_rfl) (by kernel_rfl) (by kernel_rfl) ?_
  dsimp only [Sd.picks, List.getElem?_cons_succ, List.getElem?_cons_zero]
  iterate 2 (refine Sd.lit ?_; quiet_step (fail); refine wpQuiet_nil ?_)
  refine Sd.call (by rfl) (fun K hK => ?_)
  go_simp
  refine (HP.out _).mono ?_
  rintro e w1 ⟨rfl, b1⟩
  have C1 := Lib.hid (Below.trans ((Below.refl W.heap.size W).drew) b1)
  refine hK _ _ (Sd.Cl.of C1.out) ?_
  clear hK K b1
  iterate 17 (refine Sd.lit ?_; (first | (refine Qk.skip (by rfl) (by rfl) ?_) | quiet_step (fail)); refine wpQuiet_nil ?_)
  refine Qk.past (by rfl) (by rfl) ?_
  iterate 3 (refine Sd.lit ?_; (first | (refine Qk.skip (by rfl) (by rfl) ?_) | quiet_step (fail)); refine wpQuiet_nil ?_)
  refine Sd.done ?_
  go_wp2
  go_ret
  exact ⟨rfl, B0.out.trans (C1.out.mono B0.out.size)⟩

set_option maxHeartbeats 400000 in
theorem good_many (w : World) (p : Int) (a : Option Addr) (n cap : Nat) (h : 0 ≤ p ∧ p ≤ 7) (hn : 256 < n) : Calls Try.prog 19 #[.agg #[.int .i64 p, .slice a n cap]] w fun e w' => e = .returned (.bool false) ∧ Below w.heap.size w w' := by
  have B0 := Lib.hid ((Below.refl w.heap.size w).alloc (Nat.le_refl _) (.cells #[.int .i64 p, .slice a n cap] 25))
  have HP := Lib.hid (fun w => at_bool (perm_yes h.1 h.2) (perm_any w p))
  have hn2 : decide ((1 : Int) ≤ n) = true := decide_eq_true (by omega)
  have hn3 : decide ((n : Int) ≤ 256) = false := decide_eq_false (by omega)
  clear h hn
  have k0 := Sd.cell_by (show (w.alloc (.cells #[.int .i64 p, .slice a n cap] 25)).cell? ⟨w.heap.size, 0, none⟩ = some (.int .i64 p) by go_simp)
  go_enter Try.func19, Try.ntmps19
  go_wp2_with fail
  generalize w.alloc (.cells #[.int .i64 p, .slice a n cap] 25) = W at *
  refine Sd.start [(false, 0), (false, 1), (true, 2), (false, 3), (false, 4), (false, 5), (false, 6), (false, 7), (false, 8), (false, 9), (false, 10), (false, 11), (false, 12), (false, 13), (false, 14), (false, 15), (false, 16), (false, 17), (false, 18), (false, 19), (true, 20), (false, 21), (false, 22), (false, 23)] (by kernel_rfl) (by kernel_rfl) (by kernel_rfl) ?_
  dsimp only [Sd.picks, List.getElem?_cons_succ, List.getElem?_cons_zero]
  iterate 2 (refine Sd.lit ?_; quiet_step (fail); refine wpQuiet_nil ?_)
  refine Sd.call (by rfl) (fun K hK => ?_)
  go_simp
  refine (HP.out _).mono ?_
  rintro e w1 ⟨rfl, b1⟩
  have C1 := Lib.hid (Below.trans ((Below.refl W.heap.size W).drew) b1)
  refine hK _ _ (Sd.Cl.of C1.out) ?_
  clear hK K b1
  iterate 17 (refine Sd.lit ?_; (first | (refine Qk.skip (by rfl) (by rfl) ?_) | quiet_step (fail)); refine wpQuiet_nil ?_)
  refine Qk.past (by rfl) (by rfl) ?_
  iterate 3 (refine Sd.lit ?_; (first | (refine Qk.skip (by rfl) (by rfl) ?_) | quiet_step (fail)); refine wpQuiet_nil ?_)
  refine Sd.done ?_
  go_wp2
  go_ret
  exact ⟨rfl, B0.out.trans (C1.out.mono B0.out.size)⟩

set_option maxHeartbeats 1000000 in
theorem good_any (w : World) (p : Int) (v : Value) (l : List R4) (R : Rd K4 w v l) : Calls Try.prog 19 #[file p v] w fun e w' => e = .returned (.bool (goodFB p l)) ∧ Below w.heap.size w w' := by
  have B0 := Lib.hid ((Below.refl w.heap.size w).alloc (Nat.le_refl _) (.cells #[.int .i64 p, v] 25))
  have R0 := Lib.hid (R.below B0.out)
  have HNO : Hid (¬ goodF p l → false = goodFB p l) := fun h => (decide_eq_false h).symm
  have HD : Hid (0 ≤ p → p ≤ 7 → 1 ≤ l.length → l.length ≤ 256 → decide (rat l 0 = hdr p ((l.length : Int) - 1)) = goodFB p l) := fun a b c d => by
    unfold goodFB
    rw [decide_eq_decide]
    exact ⟨fun h => ⟨a, b, c, d, h⟩, fun h => h.2.2.2.2⟩
  clear R
  unfold file
  obtain ⟨a, cap, rfl, _, hm, hA⟩ := R0.out
  have HA := Lib.hid hA
  unfold maxLen at hm
  clear hA R0
  by_cases h1 : 0 ≤ p ∧ p ≤ 7
  · have hp := fun w => at_bool (perm_yes h1.1 h1.2) (perm_any w p)
    have HP := Lib.hid hp
    clear hp
    obtain ⟨h1, h2⟩ := h1
    by_cases h3 : 1 ≤ l.length
    · by_cases h4 : l.length ≤ 256
      · have E := Lib.hid (HD.out h1 h2 h3 h4)
        have hh := fun w => hdr_any w p ((l.length : Int) - 1) h1 h2 (by omega) (by omega)
        obtain ⟨b, off, rfl, hA⟩ := HA.out (by omega)
        obtain ⟨c0, c1, c2, c3⟩ := at4_0 hA (by omega)
        have q0 := Qb.cell_by c0
        have q1 := Qb.cell_by c1
        have q2 := Qb.cell_by c2
        have q3 := Qb.cell_by c3
        clear hA HA HD HNO c0 c1 c2 c3
        generalize rat l 0 = r at *
        generalize l.length = n at *
        generalize hdr p ((n : Int) - 1) = q at *
        unfold rec4 at hh
        have HH := Lib.hid hh
        clear hh
        have es := eq_rec r q
        have W0 : IntKind.i64.wrap ((n : Int) - 1) = (n : Int) - 1 := IntWalk.i64_in _ (by omega)
        have hn1 : 0 < n := by omega
        have hn2 : (1 : Int) ≤ n := by omega
        have hn3 : (n : Int) ≤ 256 := by omega
        have k0 := Qb.cell_by (show (w.alloc (.cells #[.int .i64 p, .slice (some ⟨b, off, none⟩) n cap] 25)).cell? ⟨w.heap.size, 0, none⟩ = some (.int .i64 p) by go_simp)
        have k1 := Qb.cell_by (show (w.alloc (.cells #[.int .i64 p, .slice (some ⟨b, off, none⟩) n cap] 25)).cell? ⟨w.heap.size, 1, none⟩ = some (.slice (some ⟨b, off, none⟩) n cap) by go_simp)
        go_enter Try.func19, Try.ntmps19
        go_wp2_with fail
        refine Qb.wp_region_by (by kernel_rfl) (by kernel_rfl) ?_
        repeat (quiet_step ((first | (go_at_call 22; with_reducible exact Qb.of_below (HP.out _)) | (go_at_call 23; with_reducible exact Qb.of_below (HH.out _)))))
        refine wpQuiet_nil ?_
        intro _ hw'
        obtain ⟨pp, rfl⟩ := hw'
        go_wp2
        go_ret
        exact ⟨ret_bool E.out, B0.out.trans (pp.below.mono B0.out.size)⟩
      · exact at_bool (HNO.out (fun h => by obtain ⟨_, _, _, _, _⟩ := h; omega)) (good_many w p a _ cap ⟨h1, h2⟩ (by omega))
    · exact at_bool (HNO.out (fun h => by obtain ⟨_, _, _, _, _⟩ := h; omega)) (good_none w p a _ cap ⟨h1, h2⟩ (by omega))
  · exact at_bool (HNO.out (fun h => by obtain ⟨_, _, _, _, _⟩ := h; omega)) (good_perm w p a _ cap h1)

end Go.Proofs.Ytghdjdejdpknjaa.Fl
