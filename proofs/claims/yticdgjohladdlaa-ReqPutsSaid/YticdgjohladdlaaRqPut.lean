/- Layer 21: the document's Put: a request's bytes. -/
import Derived.Test.YticdgjohladdlaaRqRef
import Derived.Test.YticdgjohladdlaaAb
namespace Go.Proofs.Yticdgjohladdlaa.Rq
open Go.RowKit
open Go.Proofs.Yticdgjohladdlaa.Rw (Rd Ow At)
open Go.Proofs.Yticdgjohladdlaa.Fl (R4 z4)
set_option maxRecDepth 100000

set_option maxHeartbeats 4000000 in
theorem rput_bad (w : World) (x : Q) (hg : ¬ good x) : Calls Try.prog 7 #[qV x] w (PutPost w x) := by
  have B0 := Lib.hid ((Below.refl w.heap.size w).alloc (Nat.le_refl _) (.cells (qA x) 25))
  have GR := Lib.hid (at_bool (show goodB x = false from decide_eq_false hg) (rgood_any (w.alloc (.cells (qA x) 25)) x))
  have E : Hid (∀ w', Below w.heap.size w w' → PutPost w x (.returned (.tuple #[.slice none 0 0, .int .i64 1])) w') := fun w' b => ⟨_, by rw [if_neg hg], by rw [if_neg hg]; exact Rw.Ow.nil _ _ _, b⟩
  clear hg
  unfold qV at *
  go_enter Try.func7, Try.ntmps7
  unfold qA at *
  go_wp2_with fail
  refine GR.out.mono ?_
  rintro e w1 ⟨rfl, b1⟩
  have B1 := bTr B0 b1
  clear b1 B0 GR
  go_wp2
  go_ret2
  exact E.out _ B1

set_option maxHeartbeats 8000000 in
theorem rput_good (w : World) (x : Q) (hg : good x) : Calls Try.prog 7 #[qV x] w (PutPost w x) := by
  have B0 := Lib.hid ((Below.refl w.heap.size w).alloc (Nat.le_refl _) (.cells (qA x) 25))
  have R0 := Lib.hid (heap_alloc_new w (.cells (qA x) 25))
  have GR := Lib.hid (at_bool (show goodB x = true from decide_eq_true hg) (rgood_any (w.alloc (.cells (qA x) 25)) x))
  have E : Hid (∀ v w', Ow KU w' w.heap.size 5 v (qb x) → Below w.heap.size w w' → PutPost w x (.returned (.tuple #[v, .int .i64 0])) w') := fun v w' o b => ⟨v, by rw [if_pos hg], by rw [if_pos hg]; exact o, b⟩
  obtain ⟨id, k, n, f, r, ⟨v0, v1, v2, v3⟩, key⟩ := x
  unfold good at hg
  unfold qV at *
  unfold qA at *
  unfold qb at E
  dsimp only at hg B0 R0 GR E ⊢
  obtain ⟨⟨h1, h2⟩, ⟨h3, h4⟩, ⟨h5, h6⟩, ⟨h7, h8⟩, ⟨h9, h10⟩, ⟨h11, h12⟩, _, _⟩ := hg
  have q1 : wrap64 (Int.tdiv id 256) % 256 = id / 256 := by rw [Int.tdiv_eq_ediv_of_nonneg h1]; unfold wrap64; omega
  have q2 : Int.tmod id 256 = id % 256 := Int.tmod_eq_emod_of_nonneg h1
  have q3 := u8_in (x := k) (by omega) (by omega)
  have q4 := u8_in (x := n) (by omega) (by omega)
  have q5 := u8_in (x := f) (by omega) (by omega)
  have q6 := u8_in (x := r) (by omega) (by omega)
  have q7 := u8_in (x := key) (by omega) (by omega)
  clear h1 h2 h3 h4 h5 h6 h7 h8 h9 h10 h11 h12
  go_enter Try.func7, Try.ntmps7
  go_wp2_with fail
  refine GR.out.mono ?_
  rintro e w1 ⟨rfl, b1⟩
  have B1 := bTr B0 b1
  have R1 := Lib.hid (bBl b1 R0.out)
  clear b1 B0 GR R0
  have c0 := rc1 R1.out 0
  have c1 := rc1 R1.out 1
  have c2 := rc1 R1.out 2
  have c3 := rc1 R1.out 3
  have c4 := rc1 R1.out 4
  have c9 := rc1 R1.out 9
  go_upto_region 4 with fail
  have L3 : Hid (Ow KU (w1.alloc (.cells #[.int .u8 0, .int .u8 7, .int .u8 (id / 256), .int .u8 (id % 256), .int .u8 k, .int .u8 n, .int .u8 f, .int .u8 r, .int .u8 key] 5)) w.heap.size 5 (.slice (some ⟨w1.heap.size, 0, none⟩) 9 9) [0, 7, id / 256, id % 256, k, n, f, r, key]) := Lib.hid (Rw.Ow.lit (K := KU) w1 w.heap.size 5 [0, 7, id / 256, id % 256, k, n, f, r, key] B1.out.size (by unfold maxLen; simp))
  have B3 := Lib.hid (B1.out.alloc B1.out.size (.cells #[.int .u8 0, .int .u8 7, .int .u8 (id / 256), .int .u8 (id % 256), .int .u8 k, .int .u8 n, .int .u8 f, .int .u8 r, .int .u8 key] 5))
  have R3 := Lib.hid (bBl ((Below.refl w1.heap.size w1).alloc (Nat.le_refl _) (.cells #[.int .u8 0, .int .u8 7, .int .u8 (id / 256), .int .u8 (id % 256), .int .u8 k, .int .u8 n, .int .u8 f, .int .u8 r, .int .u8 key] 5)) R1.out)
  have X3 := Lib.hid (heap_alloc_new w1 (.cells #[.int .u8 0, .int .u8 7, .int .u8 (id / 256), .int .u8 (id % 256), .int .u8 k, .int .u8 n, .int .u8 f, .int .u8 r, .int .u8 key] 5))
  have hsz := B1.out.size
  have hlt := lt_of_block R1.out
  clear R1 B1 c0 c1 c2 c3 c4 c9 q1 q2 q3 q4 q5 q6 q7
  generalize w1.alloc (.cells #[.int .u8 0, .int .u8 7, .int .u8 (id / 256), .int .u8 (id % 256), .int .u8 k, .int .u8 n, .int .u8 f, .int .u8 r, .int .u8 key] 5) = W at *
  generalize w1.heap.size = g at *
  have c1 := rc1 R3.out 1
  by_cases h2 : k = 2
  · subst h2
    have x1 := rc1 X3.out 1
    have f1 := fz1 X3.out 1
    have O5 : Hid (Ow KU (W.setCell ⟨g, 1, none⟩ (.int .u8 11)) w.heap.size 5 (.slice (some ⟨g, 0, none⟩) 9 9) [0, 11, id / 256, id % 256, 2, n, f, r, key]) := Lib.hid (L3.out.set 1 0 (by simp) (by decide) (.int .u8 11) 11 rfl)
    have B5 := Lib.hid (B3.out.setCell (p := ⟨g, 1, none⟩) hsz (.int .u8 11))
    have R5 := Lib.hid ((Below.heap_setCell W ⟨g, 1, none⟩ (.int .u8 11) w.heap.size (by show w.heap.size ≠ g; omega)).trans R3.out)
    clear L3 B3 R3 X3 hlt
    go_upto_region 6 with fail
    clear c1 x1 f1 hsz
    generalize W.setCell ⟨g, 1, none⟩ (.int .u8 11) = W5 at *
    have c5 := rc1 R5.out 5
    have c6 := rc1 R5.out 6
    have c7 := rc1 R5.out 7
    have c8 := rc1 R5.out 8
    have O6 := Lib.hid (O5.out.alloc (.cells #[.int .u8 v0, .int .u8 v1, .int .u8 v2, .int .u8 v3] 5))
    have L6 : Hid (Rd KU (W5.alloc (.cells #[.int .u8 v0, .int .u8 v1, .int .u8 v2, .int .u8 v3] 5)) (.slice (some ⟨W5.heap.size, 0, none⟩) 4 4) [v0, v1, v2, v3]) := Lib.hid (Rw.Ow.lit (K := KU) W5 0 5 [v0, v1, v2, v3] (Nat.zero_le _) (by unfold maxLen; simp)).rd
    have B6 := Lib.hid (B5.out.alloc B5.out.size (.cells #[.int .u8 v0, .int .u8 v1, .int .u8 v2, .int .u8 v3] 5))
    clear O5 B5 R5
    go_wp2_with (at_builtin; refine Rw.all_step (K := KU) Try.underlying26 infoU rfl (by omega) rfl _ _ rfl w.heap.size _ _ rfl O6.out _ [v0, v1, v2, v3] rfl L6.out ?c1 ?c2 ?_)
    case c2 => have := B6.out.size; simpa using this
    intro v7 w7 o7 b7
    have B7 := Lib.hid (B6.out.trans b7)
    have F := Lib.hid (E.out v7 w7 o7 B7.out)
    clear E o7 b7 B7 B6 O6 L6 c5 c6 c7 c8
    go_wp2
    go_ret2
    exact F.out
  · have e2 := beq_eq_false_iff_ne.2 h2
    have e3 : decide (k = 2) = false := decide_eq_false h2
    have F := Lib.hid (E.out (.slice (some ⟨g, 0, none⟩) 9 9) W (by rw [if_neg h2, if_neg h2]; exact L3.out) B3.out)
    clear E L3 B3 R3 X3 h2
    go_wp2
    go_ret2
    exact F.out

theorem rput_any (w : World) (x : Q) : Calls Try.prog 7 #[qV x] w (PutPost w x) := by
  by_cases hg : good x
  · exact rput_good w x hg
  · exact rput_bad w x hg

end Go.Proofs.Yticdgjohladdlaa.Rq
