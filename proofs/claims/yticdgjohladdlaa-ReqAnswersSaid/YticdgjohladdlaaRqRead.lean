/- Layer 21: the document's Read: the reply of bytes. -/
import Derived.Test.YticdgjohladdlaaRqAns
import Derived.Test.YticdgjohladdlaaSg
import Derived.Laws.BytesArg
import Derived.Laws.Tables
namespace Go.Proofs.Yticdgjohladdlaa.Rq
open Go.RowKit
open Go.Proofs.Yticdgjohladdlaa.Rw (Rd Ow At)
open Go.Proofs.Yticdgjohladdlaa.Fl (R4 z4)
set_option maxRecDepth 100000
attribute [local irreducible] Sd.wpSd wpQuiet Sg.wpSg

set_option maxHeartbeats 4000000 in
theorem rread_len (w : World) (a : Option Addr) (cap : Nat) (l : List Int) (hl : l.length ≠ 9) : Calls Try.prog 16 #[.slice a l.length cap] w (ReadPost w l) := by
  have E : Hid (∀ w', Below w.heap.size w w' → ReadPost w l (.returned (.tuple #[yV zY, .int .i64 2])) w') := fun w' b => ⟨by rw [if_neg fun h => hl h.1, if_neg fun h => hl h.1], b⟩
  have B0 := Lib.hid ((Below.refl w.heap.size w).alloc (Nat.le_refl _) (.cells (yA zY) 40))
  have R0 := Lib.hid (heap_alloc_new w (.cells (yA zY) 40))
  generalize l.length = n at *
  have h9 : ¬ (n : Int) = 9 := by omega
  unfold yV yA zY z4 at *
  dsimp only at E B0 R0
  go_enter Try.func16, Try.ntmps16
  go_wp2
  (try simp only [Exit.inBlock, Exit.then])
  exact bodyPost_ret (results_reply (p := 2) (r := 3) rfl _ _ w.heap.size _ rfl rfl R0.out rfl) rfl (E.out _ B0.out)

theorem below_row {B : Nat} {a w : World} (h : Below B a w) (g : Nat) (cs : Array Value) (hg : B ≤ g) : Below B a (w.setRow g cs) :=
  ⟨h.os, h.tape, h.output, by simpa [World.setRow] using h.size, fun k hk => (setRow_other w g k cs (by omega)).trans (h.block k hk)⟩

set_option maxHeartbeats 8000000 in
theorem rread_nine (w : World) (v : Value) (b0 b1 b2 b3 b4 b5 b6 b7 b8 : Int) (hb : ∀ x ∈ [b0, b1, b2, b3, b4, b5, b6, b7, b8], 0 ≤ x ∧ x < 256) (R : Rd KU w v [b0, b1, b2, b3, b4, b5, b6, b7, b8]) : Calls Try.prog 16 #[v] w (ReadPost w [b0, b1, b2, b3, b4, b5, b6, b7, b8]) := by
  obtain ⟨a, cap, rfl, _, _, h9⟩ := R
  obtain ⟨b, off, rfl, hA⟩ := h9 (Nat.succ_pos _)
  have c : ∀ k x, [b0, b1, b2, b3, b4, b5, b6, b7, b8][k]? = some x → w.cell? ⟨b, off + k, none⟩ = some (.int .u8 x) := fun k x e => hA.flat k _ (by
    have : KU.flat [b0, b1, b2, b3, b4, b5, b6, b7, b8] = [b0, b1, b2, b3, b4, b5, b6, b7, b8].map (Value.int .u8) := rfl
    rw [this, List.getElem?_map, e]; rfl)
  have B0 := Lib.hid ((Below.refl w.heap.size w).alloc (Nat.le_refl _) (.cells (yA zY) 40))
  have R0 := Lib.hid (heap_alloc_new w (.cells (yA zY) 40))
  have HA := Lib.hid hA
  have g2 := hb b2 (by simp)
  have g3 := hb b3 (by simp)
  have g4 := hb b4 (by simp)
  have e2 : IntKind.i64.wrap b2 = b2 := IntWalk.i64_in _ (by omega)
  have e3 : IntKind.i64.wrap b3 = b3 := IntWalk.i64_in _ (by omega)
  have e4 : IntKind.i64.wrap b4 = b4 := IntWalk.i64_in _ (by omega)
  have e5 : IntKind.i64.wrap (b2 * 256) = b2 * 256 := IntWalk.i64_in _ (by omega)
  have e6 : IntKind.i64.wrap (b2 * 256 + b3) = b2 * 256 + b3 := IntWalk.i64_in _ (by omega)
  clear h9
  show Calls _ _ #[.slice (some ⟨b, off, none⟩) 9 cap] _ _
  unfold yA zY z4 at *
  dsimp only at B0 R0
  go_enter Try.func16, Try.ntmps16
  go_wp2_with fail
  have d2 := Sd.cell_by (bCe B0.out (c 2 b2 rfl))
  have d3 := Sd.cell_by (bCe B0.out (c 3 b3 rfl))
  have d4 := Sd.cell_by (bCe B0.out (c 4 b4 rfl))
  have d5 := Sd.cell_by (bCe B0.out (c 5 b5 rfl))
  have d6 := Sd.cell_by (bCe B0.out (c 6 b6 rfl))
  have d7 := Sd.cell_by (bCe B0.out (c 7 b7 rfl))
  have d8 := Sd.cell_by (bCe B0.out (c 8 b8 rfl))
  generalize w.alloc (.cells #[.int .i64 0, .int .i64 0, .int .u8 0, .int .u8 0, .int .u8 0, .int .u8 0] 40) = W at *
  refine Sg.startP [(0, 0), (0, 1), (0, 2), (0, 3), (0, 4), (0, 5), (0, 6), (0, 7), (0, 8), (0, 9), (0, 10), (0, 11), (0, 12), (0, 13), (0, 14), (0, 15), (0, 16), (0, 17), (0, 18), (0, 19), (0, 20), (0, 21), (0, 22), (0, 23), (0, 24), (0, 25), (0, 26), (0, 27), (2, 28), (1, 29)] [⟨28, 4, #[.int .i64 0, .int .i64 0, .int .u8 0, .int .u8 0, .int .u8 0, .int .u8 0], 40, none, none⟩] (by kernel_rfl) (by kernel_rfl) (by kernel_rfl) (by decide) (by decide) ?_ ?_ ?_
  · simp
  · intro f hf
    simp only [List.mem_cons, List.not_mem_nil, or_false] at hf
    subst hf
    exact Sg.okP rfl rfl rfl fun ρ w => by go_simp
  dsimp only [Sg.picks, List.getElem?_cons_succ, List.getElem?_cons_zero]
  have BW := Lib.hid ((Below.refl W.heap.size W).drew)
  repeat (refine Sg.lit (fun xs => ?_); simp only [Sg.fill, List.foldl_cons, List.foldl_nil]; quiet_step (fail); refine wpQuiet_nil ?_)
  refine Sg.meetP (fun gF w7 hb hc row n7 hH hL => ?_)
  have B7 := bTr BW hb
  have R7 := Lib.hid (row)
  clear hb hc row hH hL BW
  refine Sg.callB (fun xs w9 hb hc => ⟨by rfl, fun K hK => ?_⟩)
  have B9 := bTr B7 hb
  have R9 := Lib.hid (bBl hb R7)
  clear hb hc B7 R7
  simp only [Sg.fill, List.foldl_nil]
  try simp only [e2, e3, e4, e5, e6]
  refine wp_store_row 40 _ _ rfl gF #[.int .i64 (b2 * 256 + b3), .int .i64 b4, .int .u8 b5, .int .u8 b6, .int .u8 b7, .int .u8 b8] rfl rfl 40 _ R9.out (by kernel_rfl) rfl (by simp [Value.oneCell']) ?_
  have RA := Lib.hid (setRow_heap w9 gF _ #[.int .i64 (b2 * 256 + b3), .int .i64 b4, .int .u8 b5, .int .u8 b6, .int .u8 b7, .int .u8 b8] _ _ R9.out)
  have BA := Lib.hid (below_row B9.out gF #[.int .i64 (b2 * 256 + b3), .int .i64 b4, .int .u8 b5, .int .u8 b6, .int .u8 b7, .int .u8 b8] n7)
  have hsz : (w9.setRow gF #[.int .i64 (b2 * 256 + b3), .int .i64 b4, .int .u8 b5, .int .u8 b6, .int .u8 b7, .int .u8 b8]).heap.size = w9.heap.size := by simp [World.setRow]
  refine hK _ _ (Sd.Cl.of BA.out) (by rw [hsz]; exact Nat.le_refl _) (fun h => absurd rfl h) ?_
  clear hK K hsz
  generalize w9.setRow gF #[.int .i64 (b2 * 256 + b3), .int .i64 b4, .int .u8 b5, .int .u8 b6, .int .u8 b7, .int .u8 b8] = wA at *
  refine Sg.done (fun wB hb hc => ?_)
  have BB := bTr BA.out hb
  have RB := Lib.hid (bBl hb RA.out)
  clear hb hc BA RA B9 R9 d2 d3 d4 d5 d6 d7 d8
  have k0 := rc1 RB.out 0
  have k1 := rc1 RB.out 1
  have k2 := rc1 RB.out 2
  have k3 := rc1 RB.out 3
  have k4 := rc1 RB.out 4
  have k5 := rc1 RB.out 5
  have GR := Lib.hid (ranswer_any wB ⟨b2 * 256 + b3, b4, (b5, b6, b7, b8)⟩)
  have RW := Lib.hid (bBl BB.out R0.out)
  have BX := bTr B0.out BB.out
  unfold yV yA at GR
  dsimp only at GR
  go_wp2_with fail
  refine GR.out.mono ?_
  rintro e w1 ⟨u, rfl, o1, b1⟩
  have B1 := bTr BX.out b1
  have RW1 := Lib.hid (bBl b1 RW.out)
  have RB1 := Lib.hid (bBl b1 RB.out)
  have A1 := Lib.hid ((HA.out.below B0.out).below (BB.out.trans (b1.mono BB.out.size)))
  clear GR RW BX b1 BB RB B0 R0 k0 k1 k2 k3 k4 k5
  by_cases hm : may ⟨b2 * 256 + b3, b4, (b5, b6, b7, b8)⟩
  · rw [if_pos hm] at o1
    rw [if_pos hm]
    obtain ⟨a', cap', rfl, _, _, hh⟩ := o1.rd
    obtain ⟨b', off', rfl, A'⟩ := hh (Nat.succ_pos _)
    rw [show (yb ⟨b2 * 256 + b3, b4, (b5, b6, b7, b8)⟩).length = 9 from rfl]
    have s1 := run_convert_bytes_arg (P := Try.prog) w1 26 5 Try.underlying26 Try.underlying5 b' off' 9 cap' _ rfl (cells_at A') 9 Try.underlying9
    have s2 := run_convert_bytes_arg (P := Try.prog) w1 26 5 Try.underlying26 Try.underlying5 b off 9 cap _ rfl (cells_at A1.out) 9 Try.underlying9
    have hyb : ∀ x ∈ yb ⟨b2 * 256 + b3, b4, (b5, b6, b7, b8)⟩, 0 ≤ x ∧ x < 256 := fun x hx => by
      unfold yb at hx
      dsimp only at hx
      simp only [List.mem_cons, List.not_mem_nil, or_false] at hx
      have := hb b5 (by simp)
      have := hb b6 (by simp)
      have := hb b7 (by simp)
      have := hb b8 (by simp)
      omega
    by_cases he : yb ⟨b2 * 256 + b3, b4, (b5, b6, b7, b8)⟩ = [b0, b1, b2, b3, b4, b5, b6, b7, b8]
    · have ht : ((strOfNums (yb ⟨b2 * 256 + b3, b4, (b5, b6, b7, b8)⟩)).toList == (strOfNums [b0, b1, b2, b3, b4, b5, b6, b7, b8]).toList) = true := by rw [he]; exact beq_self_eq_true _
      have hY : isY [b0, b1, b2, b3, b4, b5, b6, b7, b8] := ⟨rfl, hm, he⟩
      have F := Lib.hid (show ReadPost w [b0, b1, b2, b3, b4, b5, b6, b7, b8] (.returned (.tuple #[.agg #[.int .i64 (b2 * 256 + b3), .int .i64 b4, .int .u8 b5, .int .u8 b6, .int .u8 b7, .int .u8 b8], .int .i64 0])) (w1.setRow w.heap.size #[.int .i64 (b2 * 256 + b3), .int .i64 b4, .int .u8 b5, .int .u8 b6, .int .u8 b7, .int .u8 b8]) from ⟨by rw [if_pos hY, if_pos hY]; rfl, below_row B1.out _ _ (Nat.le_refl _)⟩)
      have k0 := rc1 RB1.out 0
      have k1 := rc1 RB1.out 1
      have k2 := rc1 RB1.out 2
      have k3 := rc1 RB1.out 3
      have k4 := rc1 RB1.out 4
      have k5 := rc1 RB1.out 5
      clear hyb o1 A' A1 HA hA B1
      generalize strOfNums (yb ⟨b2 * 256 + b3, b4, (b5, b6, b7, b8)⟩) = s at *
      generalize strOfNums [b0, b1, b2, b3, b4, b5, b6, b7, b8] = t at *
      go_wp2_with ((with_reducible refine wpList_store_row (o := ⟨none, _, _, _, _, _⟩) rfl 40 _ _ rfl w.heap.size #[.int .i64 (b2 * 256 + b3), .int .i64 b4, .int .u8 b5, .int .u8 b6, .int .u8 b7, .int .u8 b8] rfl rfl _ _ RW1.out (by kernel_rfl) rfl (by simp [Value.oneCell']) ?_))
      exact bodyPost_ret (results_reply (p := 2) (r := 3) rfl _ _ w.heap.size _ rfl rfl (setRow_heap w1 w.heap.size _ _ _ _ RW1.out) rfl) rfl F.out
    · have ht : ((strOfNums (yb ⟨b2 * 256 + b3, b4, (b5, b6, b7, b8)⟩)).toList == (strOfNums [b0, b1, b2, b3, b4, b5, b6, b7, b8]).toList) = false := beq_eq_false_iff_ne.2 fun h => he (str_eq hyb hb h)
      have hY : ¬ isY [b0, b1, b2, b3, b4, b5, b6, b7, b8] := fun h => he h.2.2
      have F := Lib.hid (show ReadPost w [b0, b1, b2, b3, b4, b5, b6, b7, b8] (.returned (.tuple #[.agg #[.int .i64 0, .int .i64 0, .int .u8 0, .int .u8 0, .int .u8 0, .int .u8 0], .int .i64 2])) (w1.setRow w.heap.size #[.int .i64 0, .int .i64 0, .int .u8 0, .int .u8 0, .int .u8 0, .int .u8 0]) from ⟨by rw [if_neg hY, if_neg hY]; rfl, below_row B1.out _ _ (Nat.le_refl _)⟩)
      clear hyb o1 A' A1 HA hA B1
      generalize strOfNums (yb ⟨b2 * 256 + b3, b4, (b5, b6, b7, b8)⟩) = s at *
      generalize strOfNums [b0, b1, b2, b3, b4, b5, b6, b7, b8] = t at *
      go_wp2_with ((with_reducible refine wpList_store_row (o := ⟨none, _, _, _, _, _⟩) rfl 40 _ _ rfl w.heap.size #[.int .i64 0, .int .i64 0, .int .u8 0, .int .u8 0, .int .u8 0, .int .u8 0] rfl rfl _ _ RW1.out (by kernel_rfl) rfl (by simp [Value.oneCell']) ?_))
      exact bodyPost_ret (results_reply (p := 2) (r := 3) rfl _ _ w.heap.size _ rfl rfl (setRow_heap w1 w.heap.size _ _ _ _ RW1.out) rfl) rfl F.out
  · rw [if_neg hm]
    have hY : ¬ isY [b0, b1, b2, b3, b4, b5, b6, b7, b8] := fun h => hm h.2.1
    have F := Lib.hid (show ReadPost w [b0, b1, b2, b3, b4, b5, b6, b7, b8] (.returned (.tuple #[.agg #[.int .i64 0, .int .i64 0, .int .u8 0, .int .u8 0, .int .u8 0, .int .u8 0], .int .i64 2])) (w1.setRow w.heap.size #[.int .i64 0, .int .i64 0, .int .u8 0, .int .u8 0, .int .u8 0, .int .u8 0]) from ⟨by rw [if_neg hY, if_neg hY]; rfl, below_row B1.out _ _ (Nat.le_refl _)⟩)
    clear A1 HA hA B1 o1
    go_wp2_with ((with_reducible refine wpList_store_row (o := ⟨none, _, _, _, _, _⟩) rfl 40 _ _ rfl w.heap.size #[.int .i64 0, .int .i64 0, .int .u8 0, .int .u8 0, .int .u8 0, .int .u8 0] rfl rfl _ _ RW1.out (by kernel_rfl) rfl (by simp [Value.oneCell']) ?_))
    exact bodyPost_ret (results_reply (p := 2) (r := 3) rfl _ _ w.heap.size _ rfl rfl (setRow_heap w1 w.heap.size _ _ _ _ RW1.out) rfl) rfl F.out

theorem rread_any (w : World) (v : Value) (l : List Int) (hb : ∀ x ∈ l, 0 ≤ x ∧ x < 256) (R : Rd KU w v l) : Calls Try.prog 16 #[v] w (ReadPost w l) := by
  by_cases h : l.length = 9
  · match l, h with
    | [_, _, _, _, _, _, _, _, _], _ => exact rread_nine w v _ _ _ _ _ _ _ _ _ hb R
  · obtain ⟨a, cap, rfl, _⟩ := R
    exact rread_len w a cap l h

end Go.Proofs.Yticdgjohladdlaa.Rq
