/- rodl.Put and rodl.Take: an entry as a record, a record as an entry. -/
import Derived.Test.YtnigbihofebfhaaRoGood
namespace Go.Proofs.Ytnigbihofebfhaa.Ro
open Go.RowKit
open Go.Proofs.Ytnigbihofebfhaa.Rw (Rd Ow At)
open Go.Proofs.Ytnigbihofebfhaa.Fl (R4 z4 rec4 K4 okR hdr rat goodF ret_bool at_bool)

set_option maxHeartbeats 1000000 in
theorem put_any (w : World) (x : E5) : Calls Try.prog 26 #[ent x] w fun e w' => e = .returned (.tuple #[rec4 (putR x), .int .i64 (putN x)]) ∧ Below w.heap.size w w' := by
  obtain ⟨k, s, f, r, b⟩ := x
  have B0 := Lib.hid (((Below.refl w.heap.size w).alloc (Nat.le_refl _) (.cells #[.int .i64 k, .int .i64 s, .int .i64 f, .int .i64 r, .int .i64 b] 30)).alloc (by simp) (.cells #[.int .u8 0, .int .u8 0, .int .u8 0, .int .u8 0] 54))
  have GA := Lib.hid (good_any ((w.alloc (.cells #[.int .i64 k, .int .i64 s, .int .i64 f, .int .i64 r, .int .i64 b] 30)).alloc (.cells #[.int .u8 0, .int .u8 0, .int .u8 0, .int .u8 0] 54)) (k, s, f, r, b))
  unfold ent at GA
  by_cases hg : okE (k, s, f, r, b)
  · rw [ok_yes hg] at GA
    have EP : Hid (putR (k, s, f, r, b) = (64 * b + k, s, f, r)) := Lib.hid (if_pos hg)
    have EN : Hid (putN (k, s, f, r, b) = 0) := Lib.hid (if_pos hg)
    obtain ⟨⟨g1, g2⟩, ⟨g3, g4⟩, ⟨g5, g6⟩, ⟨g7, g8⟩, g9, g10⟩ := okE_bounds hg
    clear hg
    simp only at g1 g2 g3 g4 g5 g6 g7 g8 g9 g10 GA
    unfold ent
    go_enter Try.func26, Try.ntmps26
    go_wp2_with fail
    refine GA.out.mono ?_
    rintro e w1 ⟨rfl, b1⟩
    have B1 := Lib.hid (B0.out.trans (b1.mono B0.out.size))
    have c0 : w1.cell? ⟨w.heap.size, 0, none⟩ = some (.int .i64 k) := (b1.cell (by simp; omega)).trans (by go_simp)
    have c1 : w1.cell? ⟨w.heap.size, 1, none⟩ = some (.int .i64 s) := (b1.cell (by simp; omega)).trans (by go_simp)
    have c2 : w1.cell? ⟨w.heap.size, 2, none⟩ = some (.int .i64 f) := (b1.cell (by simp; omega)).trans (by go_simp)
    have c3 : w1.cell? ⟨w.heap.size, 3, none⟩ = some (.int .i64 r) := (b1.cell (by simp; omega)).trans (by go_simp)
    have c4 : w1.cell? ⟨w.heap.size, 4, none⟩ = some (.int .i64 b) := (b1.cell (by simp; omega)).trans (by go_simp)
    have k0 : w1.cell? ⟨w.heap.size + 1, 0, none⟩ = some (.int .u8 0) := (b1.cell (by simp)).trans (by go_simp)
    have k1 : w1.cell? ⟨w.heap.size + 1, 1, none⟩ = some (.int .u8 0) := (b1.cell (by simp)).trans (by go_simp)
    have k2 : w1.cell? ⟨w.heap.size + 1, 2, none⟩ = some (.int .u8 0) := (b1.cell (by simp)).trans (by go_simp)
    have k3 : w1.cell? ⟨w.heap.size + 1, 3, none⟩ = some (.int .u8 0) := (b1.cell (by simp)).trans (by go_simp)
    have m0 : w1.frozen? ⟨w.heap.size + 1, 0, none⟩ = false := (b1.frozen (by simp)).trans (by go_simp)
    have m1 : w1.frozen? ⟨w.heap.size + 1, 1, none⟩ = false := (b1.frozen (by simp)).trans (by go_simp)
    have m2 : w1.frozen? ⟨w.heap.size + 1, 2, none⟩ = false := (b1.frozen (by simp)).trans (by go_simp)
    have m3 : w1.frozen? ⟨w.heap.size + 1, 3, none⟩ = false := (b1.frozen (by simp)).trans (by go_simp)
    have hz : w.heap.size + 2 ≤ w1.heap.size := by have := b1.size; simp at this; omega
    clear b1 GA B0
    go_wp2
    (try simp only [Exit.inBlock, Exit.then])
    refine bodyPost_ret (v := .tuple #[rec4 (64 * b + k, s, f, r), .int .i64 0]) ?_ rfl ⟨by rw [EP.out, EN.out], ?_⟩
    · rw [results_cell_tmp rfl]; go_simp; rfl
    · exact (((B1.out.setCell (by simp) _).setCell (by simp) _).setCell (by simp) _).setCell (by simp) _
  · rw [ok_no hg] at GA
    have EP : Hid (putR (k, s, f, r, b) = z4) := Lib.hid (if_neg hg)
    have EN : Hid (putN (k, s, f, r, b) = 1) := Lib.hid (if_neg hg)
    clear hg
    simp only at GA
    unfold ent
    go_enter Try.func26, Try.ntmps26
    go_wp2_with fail
    refine GA.out.mono ?_
    rintro e w1 ⟨rfl, b1⟩
    have B1 := Lib.hid (B0.out.trans (b1.mono B0.out.size))
    have k0 : w1.cell? ⟨w.heap.size + 1, 0, none⟩ = some (.int .u8 0) := (b1.cell (by simp)).trans (by go_simp)
    have k1 : w1.cell? ⟨w.heap.size + 1, 1, none⟩ = some (.int .u8 0) := (b1.cell (by simp)).trans (by go_simp)
    have k2 : w1.cell? ⟨w.heap.size + 1, 2, none⟩ = some (.int .u8 0) := (b1.cell (by simp)).trans (by go_simp)
    have k3 : w1.cell? ⟨w.heap.size + 1, 3, none⟩ = some (.int .u8 0) := (b1.cell (by simp)).trans (by go_simp)
    have m0 : w1.frozen? ⟨w.heap.size + 1, 0, none⟩ = false := (b1.frozen (by simp)).trans (by go_simp)
    have m1 : w1.frozen? ⟨w.heap.size + 1, 1, none⟩ = false := (b1.frozen (by simp)).trans (by go_simp)
    have m2 : w1.frozen? ⟨w.heap.size + 1, 2, none⟩ = false := (b1.frozen (by simp)).trans (by go_simp)
    have m3 : w1.frozen? ⟨w.heap.size + 1, 3, none⟩ = false := (b1.frozen (by simp)).trans (by go_simp)
    have hz : w.heap.size + 2 ≤ w1.heap.size := by have := b1.size; simp at this; omega
    clear b1 GA B0
    go_wp2
    (try simp only [Exit.inBlock, Exit.then])
    refine bodyPost_ret (v := .tuple #[rec4 z4, .int .i64 1]) ?_ rfl ⟨by rw [EP.out, EN.out], ?_⟩
    · rw [results_cell_tmp rfl]; go_simp; rfl
    · exact (((B1.out.setCell (by simp) _).setCell (by simp) _).setCell (by simp) _).setCell (by simp) _

end Go.Proofs.Ytnigbihofebfhaa.Ro
