/- watch.Round: opener, wait, hear. -/
import Derived.Test.YtabhpafmppmigaaWtDeed
namespace Go.Proofs.Ytabhpafmppmigaa.Wt
open Go.RowKit
open Go.Proofs.Ytabhpafmppmigaa.Fl (ret_bool at_bool row_cell row_frozen)
open Go.Proofs.Ytabhpafmppmigaa.Fs (Only)
attribute [local irreducible] Sd.wpSd wpQuiet

/-! ### wait, hear -/
def hZ (r z : Int) : Int := if r = 2 ∨ r = 3 then 0 else z
def wZ (r z : Int) : Int := if r = 2 ∨ r = 3 then z + 1 else z

theorem wait0 {w : World} {s : Nat} {r0 z0 r1 z1 : Int} (h : RowM w s r0 z0 r1 z1) (hz : 0 ≤ z0 ∧ z0 ≤ 1000000) : Calls Try.prog 18 #[.pointer (some ⟨s, 0, none⟩)] w fun e w' => e = .returned (.tuple #[]) ∧ RowM w' s r0 (wZ r0 z0) r1 z1 ∧ Only (fun b => b = s) w w' := by
  have c0 : w.cell? ⟨s, 0, none⟩ = some (.int .i64 r0) := row_cell h 0
  have c1 : w.cell? ⟨s, 1, none⟩ = some (.int .i64 z0) := row_cell h 1
  have f0 := row_frozen h 0
  have f1 := row_frozen h 1
  have R := Lib.hid h
  clear h
  by_cases h2 : r0 = 2
  · subst h2
    have wr : IntKind.i64.wrap (z0 + 1) = z0 + 1 := IntWalk.i64_in _ (by omega)
    have F : Hid (RowM (w.setCell ⟨s, 1, none⟩ (.int .i64 (z0 + 1))) s 2 (wZ 2 z0) r1 z1 ∧ Only (fun b => b = s) w (w.setCell ⟨s, 1, none⟩ (.int .i64 (z0 + 1)))) := Lib.hid ⟨R.out.set1 _, only_set s 1 _ _⟩
    clear R hz
    go_enter Try.func18, Try.ntmps18
    go_wp2
    first | go_end0 | refine bodyPost_ret (results_none rfl _ _ _) rfl ?_
    exact ⟨rfl, F.out⟩
  · by_cases h3 : r0 = 3
    · subst h3
      clear h2
      have wr : IntKind.i64.wrap (z0 + 1) = z0 + 1 := IntWalk.i64_in _ (by omega)
      have F : Hid (RowM (w.setCell ⟨s, 1, none⟩ (.int .i64 (z0 + 1))) s 3 (wZ 3 z0) r1 z1 ∧ Only (fun b => b = s) w (w.setCell ⟨s, 1, none⟩ (.int .i64 (z0 + 1)))) := Lib.hid ⟨R.out.set1 _, only_set s 1 _ _⟩
      clear R hz
      go_enter Try.func18, Try.ntmps18
      go_wp2
      first | go_end0 | refine bodyPost_ret (results_none rfl _ _ _) rfl ?_
      exact ⟨rfl, F.out⟩
    · have e1 : wZ r0 z0 = z0 := if_neg (by omega)
      have F : Hid (RowM w s r0 (wZ r0 z0) r1 z1 ∧ Only (fun b => b = s) w w) := Lib.hid ⟨by rw [e1]; exact R.out, Only.refl _ _⟩
      have q2 : (r0 == 2) = false := beq_eq_false_iff_ne.2 h2
      have q3 : (r0 == 3) = false := beq_eq_false_iff_ne.2 h3
      clear R h2 h3 e1
      go_enter Try.func18, Try.ntmps18
      go_wp2
      first | go_end0 | refine bodyPost_ret (results_none rfl _ _ _) rfl ?_
      exact ⟨rfl, F.out⟩

theorem wait1 {w : World} {s : Nat} {r0 z0 r1 z1 : Int} (h : RowM w s r0 z0 r1 z1) (hz : 0 ≤ z1 ∧ z1 ≤ 1000000) : Calls Try.prog 18 #[.pointer (some ⟨s, 2, none⟩)] w fun e w' => e = .returned (.tuple #[]) ∧ RowM w' s r0 z0 r1 (wZ r1 z1) ∧ Only (fun b => b = s) w w' := by
  have c0 : w.cell? ⟨s, 2, none⟩ = some (.int .i64 r1) := row_cell h 2
  have c1 : w.cell? ⟨s, 3, none⟩ = some (.int .i64 z1) := row_cell h 3
  have f0 := row_frozen h 2
  have f1 := row_frozen h 3
  have R := Lib.hid h
  clear h
  by_cases h2 : r1 = 2
  · subst h2
    have wr : IntKind.i64.wrap (z1 + 1) = z1 + 1 := IntWalk.i64_in _ (by omega)
    have F : Hid (RowM (w.setCell ⟨s, 3, none⟩ (.int .i64 (z1 + 1))) s r0 z0 2 (wZ 2 z1) ∧ Only (fun b => b = s) w (w.setCell ⟨s, 3, none⟩ (.int .i64 (z1 + 1)))) := Lib.hid ⟨R.out.set3 _, only_set s 3 _ _⟩
    clear R hz
    go_enter Try.func18, Try.ntmps18
    go_wp2
    first | go_end0 | refine bodyPost_ret (results_none rfl _ _ _) rfl ?_
    exact ⟨rfl, F.out⟩
  · by_cases h3 : r1 = 3
    · subst h3
      clear h2
      have wr : IntKind.i64.wrap (z1 + 1) = z1 + 1 := IntWalk.i64_in _ (by omega)
      have F : Hid (RowM (w.setCell ⟨s, 3, none⟩ (.int .i64 (z1 + 1))) s r0 z0 3 (wZ 3 z1) ∧ Only (fun b => b = s) w (w.setCell ⟨s, 3, none⟩ (.int .i64 (z1 + 1)))) := Lib.hid ⟨R.out.set3 _, only_set s 3 _ _⟩
      clear R hz
      go_enter Try.func18, Try.ntmps18
      go_wp2
      first | go_end0 | refine bodyPost_ret (results_none rfl _ _ _) rfl ?_
      exact ⟨rfl, F.out⟩
    · have e1 : wZ r1 z1 = z1 := if_neg (by omega)
      have F : Hid (RowM w s r0 z0 r1 (wZ r1 z1) ∧ Only (fun b => b = s) w w) := Lib.hid ⟨by rw [e1]; exact R.out, Only.refl _ _⟩
      have q2 : (r1 == 2) = false := beq_eq_false_iff_ne.2 h2
      have q3 : (r1 == 3) = false := beq_eq_false_iff_ne.2 h3
      clear R h2 h3 e1
      go_enter Try.func18, Try.ntmps18
      go_wp2
      first | go_end0 | refine bodyPost_ret (results_none rfl _ _ _) rfl ?_
      exact ⟨rfl, F.out⟩

theorem hear0 {w : World} {s : Nat} {r0 z0 r1 z1 : Int} (h : RowM w s r0 z0 r1 z1) : Calls Try.prog 19 #[.pointer (some ⟨s, 0, none⟩)] w fun e w' => e = .returned (.tuple #[]) ∧ RowM w' s (hdN r0) (hZ r0 z0) r1 z1 ∧ Only (fun b => b = s) w w' := by
  have c0 : w.cell? ⟨s, 0, none⟩ = some (.int .i64 r0) := row_cell h 0
  have c1 : w.cell? ⟨s, 1, none⟩ = some (.int .i64 z0) := row_cell h 1
  have f0 := row_frozen h 0
  have f1 := row_frozen h 1
  have R := Lib.hid h
  clear h
  by_cases h2 : r0 = 2
  · subst h2
    have F : Hid (RowM (w.setCell ⟨s, 1, none⟩ (.int .i64 0)) s (hdN 2) (hZ 2 z0) r1 z1 ∧ Only (fun b => b = s) w (w.setCell ⟨s, 1, none⟩ (.int .i64 0))) := Lib.hid ⟨R.out.set1 _, only_set s 1 _ _⟩
    clear R
    go_enter Try.func19, Try.ntmps19
    go_wp2
    first | go_end0 | refine bodyPost_ret (results_none rfl _ _ _) rfl ?_
    exact ⟨rfl, F.out⟩
  · by_cases h3 : r0 = 3
    · subst h3
      clear h2
      have F : Hid (RowM ((w.setCell ⟨s, 0, none⟩ (.int .i64 2)).setCell ⟨s, 1, none⟩ (.int .i64 0)) s (hdN 3) (hZ 3 z0) r1 z1 ∧ Only (fun b => b = s) w ((w.setCell ⟨s, 0, none⟩ (.int .i64 2)).setCell ⟨s, 1, none⟩ (.int .i64 0))) := Lib.hid ⟨(R.out.set0 _).set1 _, (only_set s 0 _ _).trans (only_set s 1 _ _) (fun _ _ q => q)⟩
      clear R
      go_enter Try.func19, Try.ntmps19
      go_wp2
      first | go_end0 | refine bodyPost_ret (results_none rfl _ _ _) rfl ?_
      exact ⟨rfl, F.out⟩
    · have e1 : hZ r0 z0 = z0 := if_neg (by omega)
      have e2 : hdN r0 = r0 := if_neg h3
      have F : Hid (RowM w s (hdN r0) (hZ r0 z0) r1 z1 ∧ Only (fun b => b = s) w w) := Lib.hid ⟨by rw [e1, e2]; exact R.out, Only.refl _ _⟩
      have q2 : (r0 == 2) = false := beq_eq_false_iff_ne.2 h2
      have q3 : (r0 == 3) = false := beq_eq_false_iff_ne.2 h3
      clear R h2 h3 e1 e2
      go_enter Try.func19, Try.ntmps19
      go_wp2
      first | go_end0 | refine bodyPost_ret (results_none rfl _ _ _) rfl ?_
      exact ⟨rfl, F.out⟩

theorem hear1 {w : World} {s : Nat} {r0 z0 r1 z1 : Int} (h : RowM w s r0 z0 r1 z1) : Calls Try.prog 19 #[.pointer (some ⟨s, 2, none⟩)] w fun e w' => e = .returned (.tuple #[]) ∧ RowM w' s r0 z0 (hdN r1) (hZ r1 z1) ∧ Only (fun b => b = s) w w' := by
  have c0 : w.cell? ⟨s, 2, none⟩ = some (.int .i64 r1) := row_cell h 2
  have c1 : w.cell? ⟨s, 3, none⟩ = some (.int .i64 z1) := row_cell h 3
  have f0 := row_frozen h 2
  have f1 := row_frozen h 3
  have R := Lib.hid h
  clear h
  by_cases h2 : r1 = 2
  · subst h2
    have F : Hid (RowM (w.setCell ⟨s, 3, none⟩ (.int .i64 0)) s r0 z0 (hdN 2) (hZ 2 z1) ∧ Only (fun b => b = s) w (w.setCell ⟨s, 3, none⟩ (.int .i64 0))) := Lib.hid ⟨R.out.set3 _, only_set s 3 _ _⟩
    clear R
    go_enter Try.func19, Try.ntmps19
    go_wp2
    first | go_end0 | refine bodyPost_ret (results_none rfl _ _ _) rfl ?_
    exact ⟨rfl, F.out⟩
  · by_cases h3 : r1 = 3
    · subst h3
      clear h2
      have F : Hid (RowM ((w.setCell ⟨s, 2, none⟩ (.int .i64 2)).setCell ⟨s, 3, none⟩ (.int .i64 0)) s r0 z0 (hdN 3) (hZ 3 z1) ∧ Only (fun b => b = s) w ((w.setCell ⟨s, 2, none⟩ (.int .i64 2)).setCell ⟨s, 3, none⟩ (.int .i64 0))) := Lib.hid ⟨(R.out.set2 _).set3 _, (only_set s 2 _ _).trans (only_set s 3 _ _) (fun _ _ q => q)⟩
      clear R
      go_enter Try.func19, Try.ntmps19
      go_wp2
      first | go_end0 | refine bodyPost_ret (results_none rfl _ _ _) rfl ?_
      exact ⟨rfl, F.out⟩
    · have e1 : hZ r1 z1 = z1 := if_neg (by omega)
      have e2 : hdN r1 = r1 := if_neg h3
      have F : Hid (RowM w s r0 z0 (hdN r1) (hZ r1 z1) ∧ Only (fun b => b = s) w w) := Lib.hid ⟨by rw [e1, e2]; exact R.out, Only.refl _ _⟩
      have q2 : (r1 == 2) = false := beq_eq_false_iff_ne.2 h2
      have q3 : (r1 == 3) = false := beq_eq_false_iff_ne.2 h3
      clear R h2 h3 e1 e2
      go_enter Try.func19, Try.ntmps19
      go_wp2
      first | go_end0 | refine bodyPost_ret (results_none rfl _ _ _) rfl ?_
      exact ⟨rfl, F.out⟩

/-! ### opener -/
theorem opn_du (a : A) (z0 z1 : Int) (t : Nat) (v : Vm a z0 z1 t) : (a.r0 = 1 → opn a = 0) ∧ (a.r0 ≠ 1 → a.r1 = 1 → opn a = 1) ∧ (a.r0 ≠ 1 → a.r1 ≠ 1 → (du a.r0 z0 0 = true → opn a = 0) ∧ (du a.r0 z0 0 = false → (du a.r1 z1 1 = true → opn a = 1) ∧ (du a.r1 z1 1 = false → opn a = -1))) := by
  have e0 := v.e0
  have e1 := v.e1
  have D0 : du a.r0 z0 0 = true ↔ d0 a := by
    unfold du d0
    simp only [Bool.or_eq_true, Bool.and_eq_true, decide_eq_true_eq]
    by_cases h2 : a.r0 = 2
    · rw [e0 (.inl h2)]; omega
    · by_cases h3 : a.r0 = 3
      · rw [e0 (.inr h3)]; omega
      · omega
  have D1 : du a.r1 z1 1 = true ↔ d1 a := by
    unfold du d1
    simp only [Bool.or_eq_true, Bool.and_eq_true, decide_eq_true_eq]
    by_cases h2 : a.r1 = 2
    · rw [e1 (.inl h2)]; omega
    · by_cases h3 : a.r1 = 3
      · rw [e1 (.inr h3)]; omega
      · omega
  rcases opn_parts a with ⟨e, g, _⟩ | ⟨e, g0, g, _⟩ | ⟨e, g0, g1, g2, g3, _⟩
  · refine ⟨fun _ => e, fun n0 y => ?_, fun n0 n1 => ⟨fun _ => e, fun y => ?_⟩⟩
    · rcases g with g | ⟨_, g, _⟩
      · exact absurd g n0
      · exact absurd y g
    · rcases g with g | ⟨_, _, g⟩
      · exact absurd g n0
      · rw [D0.2 g] at y; exact Bool.noConfusion y
  · refine ⟨fun y => absurd y g0, fun _ _ => e, fun _ n1 => ⟨fun y => ?_, fun _ => ⟨fun _ => e, fun y => ?_⟩⟩⟩
    · rcases g with g | ⟨_, g, _⟩
      · exact absurd g n1
      · exact absurd (D0.1 y) g
    · rcases g with g | ⟨_, _, g⟩
      · exact absurd g n1
      · rw [D1.2 g] at y; exact Bool.noConfusion y
  · refine ⟨fun y => absurd y g0, fun _ y => absurd y g1, fun _ _ => ⟨fun y => absurd (D0.1 y) g2, fun _ => ⟨fun y => absurd (D1.1 y) g3, fun _ => e⟩⟩⟩

set_option maxHeartbeats 4000000 in
theorem opener_any {w : World} {s t : Nat} {a : A} (P : Pr w s a t) : Calls Try.prog 17 #[.pointer (some ⟨s, 0, none⟩)] w fun e w' => e = .returned (.int .i64 (opn a)) ∧ Below w.heap.size w w' := by
  obtain ⟨z0, z1, hr, hv⟩ := P
  have O := Lib.hid (opn_du a z0 z1 t hv)
  have c0 : w.cell? ⟨s, 0, none⟩ = some (.int .i64 a.r0) := row_cell hr 0
  have c1 : w.cell? ⟨s, 1, none⟩ = some (.int .i64 z0) := row_cell hr 1
  have c2 : w.cell? ⟨s, 2, none⟩ = some (.int .i64 a.r1) := row_cell hr 2
  have c3 : w.cell? ⟨s, 3, none⟩ = some (.int .i64 z1) := row_cell hr 3
  have R := Lib.hid hr
  clear hr hv
  generalize opn a = o at *
  generalize a.r0 = x0 at *
  generalize a.r1 = x1 at *
  have i0 : ∀ W : World, (Instr.index 41 (.agg #[.int .i64 x0, .int .i64 z0, .int .i64 x1, .int .i64 z1]) (.int .i64 0)).run Try.prog W = .ok (.agg #[.int .i64 x0, .int .i64 z0]) W := fun W => rfl
  have i1 : ∀ W : World, (Instr.index 41 (.agg #[.int .i64 x0, .int .i64 z0, .int .i64 x1, .int .i64 z1]) (.int .i64 1)).run Try.prog W = .ok (.agg #[.int .i64 x1, .int .i64 z1]) W := fun W => rfl
  go_enter Try.func17, Try.ntmps17
  go_wp2
  go_loopw [11] (fun i wr => ∃ k : Nat, k ≤ 2 ∧ i = .int .i64 k ∧ Hid (Below w.heap.size w wr) ∧ Hid (1 ≤ k → x0 ≠ 1) ∧ Hid (2 ≤ k → x1 ≠ 1)) (fun i _ => 2 - (intOf i).toNat)
  case atStart => exact ⟨0, by omega, rfl, Lib.hid (Below.refl _ _), Lib.hid (fun h => by omega), Lib.hid (fun h => by omega)⟩
  case round =>
    obtain ⟨k, hk, rfl, BB, N0, N1⟩ := hrel
    rcases (by omega : k = 0 ∨ k = 1 ∨ k = 2) with rfl | rfl | h2
    · have B1 : Hid (Below w.heap.size w (wr.alloc (.cells #[.int .i64 x0, .int .i64 z0] 40))) := Lib.hid (BB.out.alloc BB.out.size _)
      by_cases h : x0 = 1
      · have E := Lib.hid (O.out.1 h)
        clear O N0 N1 c0 c1 c2 c3
        subst h
        go_wp2
        go_ret
        exact ⟨congrArg (fun z => Ending.returned (.int .i64 z)) E.out.symm, B1.out⟩
      · have q : (x0 == 1) = false := beq_eq_false_iff_ne.2 h
        have N := Lib.hid (fun _ : 1 ≤ 1 => h)
        clear N0 c0 c1 c2 c3 h
        go_wp2
        go_roundw
        case rel => exact ⟨1, by omega, rfl, B1, N, Lib.hid (fun h => by omega)⟩
        case measure => simp [intOf]
    · have B1 : Hid (Below w.heap.size w (wr.alloc (.cells #[.int .i64 x1, .int .i64 z1] 40))) := Lib.hid (BB.out.alloc BB.out.size _)
      by_cases h : x1 = 1
      · have E := Lib.hid (O.out.2.1 (N0.out (by omega)) h)
        clear O N0 N1 c0 c1 c2 c3
        subst h
        go_wp2
        go_ret
        exact ⟨congrArg (fun z => Ending.returned (.int .i64 z)) E.out.symm, B1.out⟩
      · have q : (x1 == 1) = false := beq_eq_false_iff_ne.2 h
        have N := Lib.hid (fun _ : 2 ≤ 2 => h)
        have N' := Lib.hid (fun _ : 1 ≤ 2 => N0.out (by omega))
        clear N0 c0 c1 c2 c3 h
        go_wp2
        go_roundw
        case rel => exact ⟨2, by omega, rfl, B1, N', N⟩
        case measure => simp [intOf]
    · have O2 := Lib.hid (O.out.2.2 (N0.out (by omega)) (N1.out (by omega)))
      have R1 := Lib.hid (R.out.below BB.out)
      have c0 : wr.cell? ⟨s, 0, none⟩ = some (.int .i64 x0) := row_cell R1.out 0
      have c1 : wr.cell? ⟨s, 1, none⟩ = some (.int .i64 z0) := row_cell R1.out 1
      have c2 : wr.cell? ⟨s, 2, none⟩ = some (.int .i64 x1) := row_cell R1.out 2
      have c3 : wr.cell? ⟨s, 3, none⟩ = some (.int .i64 z1) := row_cell R1.out 3
      have hk2 : ¬ (k : Int) < 2 := by omega
      clear O N0 N1 R R1 h2 hk
      go_upto_region 7 with fail
      clear hk2
      generalize (k : Int) = k2 at *
      go_wp2
      go_loopw [24] (fun i wr => ∃ k : Nat, k ≤ 2 ∧ i = .int .i64 k ∧ Hid (Below w.heap.size w wr) ∧ Hid (1 ≤ k → du x0 z0 0 = false) ∧ Hid (2 ≤ k → du x1 z1 1 = false)) (fun i _ => 2 - (intOf i).toNat)
      case atStart => exact ⟨0, by omega, rfl, BB, Lib.hid (fun h => by omega), Lib.hid (fun h => by omega)⟩
      case round =>
        clear BB c0 c1 c2 c3
        obtain ⟨k, hk, rfl, BB, N0, N1⟩ := hrel
        rcases (by omega : k = 0 ∨ k = 1 ∨ k = 2) with rfl | rfl | rfl
        · have B1 : Hid (Below w.heap.size w (wr.alloc (.cells #[.int .i64 x0, .int .i64 z0] 40))) := Lib.hid (BB.out.alloc BB.out.size _)
          have D := Lib.hid (due_any (wr.alloc (.cells #[.int .i64 x0, .int .i64 z0] 40)) x0 z0 0 (by omega))
          clear N0 N1
          generalize hd : du x0 z0 0 = d at *
          have HD := Lib.hid hd
          clear hd
          go_wp2_with fail
          refine D.out.mono ?_
          rintro e w2 ⟨rfl, b2⟩
          have B2 := Lib.hid (B1.out.trans (b2.mono B1.out.size))
          clear b2 D B1 BB
          cases d with
          | true =>
            have E := Lib.hid (O2.out.1 rfl)
            clear O2 HD
            go_wp2
            go_ret
            exact ⟨congrArg (fun z => Ending.returned (.int .i64 z)) E.out.symm, B2.out⟩
          | false =>
            go_wp2
            go_roundw
            case rel => exact ⟨1, by omega, rfl, B2, Lib.hid (fun _ => trivial), Lib.hid (fun h => by omega)⟩
            case measure => simp [intOf]
        · have B1 : Hid (Below w.heap.size w (wr.alloc (.cells #[.int .i64 x1, .int .i64 z1] 40))) := Lib.hid (BB.out.alloc BB.out.size _)
          have D := Lib.hid (due_any (wr.alloc (.cells #[.int .i64 x1, .int .i64 z1] 40)) x1 z1 1 (by omega))
          have O3 := Lib.hid (O2.out.2 (N0.out (by omega)))
          have N' := Lib.hid (fun _ : 1 ≤ 2 => N0.out (by omega))
          clear N0 N1 O2
          generalize hd : du x1 z1 1 = d at *
          have HD := Lib.hid hd
          clear hd
          go_wp2_with fail
          refine D.out.mono ?_
          rintro e w2 ⟨rfl, b2⟩
          have B2 := Lib.hid (B1.out.trans (b2.mono B1.out.size))
          clear b2 D B1 BB
          cases d with
          | true =>
            have E := Lib.hid (O3.out.1 rfl)
            clear O3 HD N'
            go_wp2
            go_ret
            exact ⟨congrArg (fun z => Ending.returned (.int .i64 z)) E.out.symm, B2.out⟩
          | false =>
            clear O3
            go_wp2
            go_roundw
            case rel => exact ⟨2, by omega, rfl, B2, N', Lib.hid (fun _ => trivial)⟩
            case measure => simp [intOf]
        · have E := Lib.hid ((O2.out.2 (N0.out (by omega))).2 (N1.out (by omega)))
          clear O2 N0 N1
          go_wp2
          go_ret
          exact ⟨congrArg (fun z => Ending.returned (.int .i64 z)) E.out.symm, BB.out⟩

end Go.Proofs.Ytabhpafmppmigaa.Wt
