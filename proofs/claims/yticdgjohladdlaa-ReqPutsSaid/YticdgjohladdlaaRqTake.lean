/- Layer 21: the document's Take: what bytes would have to be. -/
import Derived.Test.YticdgjohladdlaaRqPut
import Derived.Test.YticdgjohladdlaaRqCid
import Derived.Test.YticdgjohladdlaaSg
import Derived.Test.YticdgjohladdlaaSc
namespace Go.Proofs.Yticdgjohladdlaa.Rq
open Go.RowKit
open Go.Proofs.Yticdgjohladdlaa.Rw (Rd Ow At)
open Go.Proofs.Yticdgjohladdlaa.Fl (R4 z4)
set_option maxRecDepth 100000
attribute [local irreducible] Sd.wpSd wpQuiet Sg.wpSg

set_option maxHeartbeats 4000000 in
theorem rtake_len (w : World) (a : Option Addr) (cap : Nat) (l : List Int) (hl : l.length ≠ 9) (hk : l.length ≠ 13) : Calls Try.prog 9 #[.slice a l.length cap] w (TakePost w l) := by
  have hY : ¬ isQ l := fun h => h.1.elim hl hk
  have E : Hid (∀ w', Below w.heap.size w w' → TakePost w l (.returned (.tuple #[qV zQ, .int .i64 2])) w') := fun w' b => ⟨by rw [if_neg hY, if_neg hY], b⟩
  have B0 := Lib.hid ((Below.refl w.heap.size w).alloc (Nat.le_refl _) (.cells (qA zQ) 25))
  have R0 := Lib.hid (heap_alloc_new w (.cells (qA zQ) 25))
  clear hY
  generalize l.length = n at *
  have h9 : ¬ (n : Int) = 9 := by omega
  have h13 : ¬ (n : Int) = 13 := by omega
  have m9 : ((n : Int) != 9) = true := bne_iff_ne.2 h9
  have m13 : ((n : Int) != 13) = true := bne_iff_ne.2 h13
  unfold qV qA zQ z4 at *
  dsimp only at E B0 R0
  go_enter Try.func9, Try.ntmps9
  go_wp2
  (try simp only [Exit.inBlock, Exit.then])
  exact bodyPost_ret (results_request (p := 2) (r := 3) rfl _ _ w.heap.size _ rfl rfl R0.out rfl) rfl (E.out _ B0.out)

/-- The four bytes behind the ninth one, where there are thirteen. -/
def vof (l : List Int) : R4 := if l.length = 13 then (l.getD 9 0, l.getD 10 0, l.getD 11 0, l.getD 12 0) else z4
theorem row_set4 {w : World} {g : Nat} {p0 p1 p2 p3 p4 q : Value} {E : TypeId} (h : w.heap[g]? = some (.cells #[p0, p1, p2, p3, p4, .int .u8 0, .int .u8 0, .int .u8 0, .int .u8 0, q] E (0, 0))) (a b c d : Int) :
    ((((w.setCell ⟨g, 5, none⟩ (.int .u8 a)).setCell ⟨g, 6, none⟩ (.int .u8 b)).setCell ⟨g, 7, none⟩ (.int .u8 c)).setCell ⟨g, 8, none⟩ (.int .u8 d)).heap[g]? = some (.cells #[p0, p1, p2, p3, p4, .int .u8 a, .int .u8 b, .int .u8 c, .int .u8 d, q] E (0, 0)) :=
  Rw.heap_setCell_same (Rw.heap_setCell_same (Rw.heap_setCell_same (Rw.heap_setCell_same h _) _) _) _

set_option maxHeartbeats 8000000 in
theorem rtake_read (w : World) (b off cap : Nat) (l : List Int) (hl : l.length = 9 ∨ l.length = 13) (hb : ∀ x ∈ l, 0 ≤ x ∧ x < 256) (hA : At KU w b off l) : Calls Try.prog 9 #[.slice (some ⟨b, off, none⟩) l.length cap] w (TakePost w l) := by
  have E : Hid (∀ c w', decide (good (qof l) ∧ qb (qof l) = l) = c → Below w.heap.size w w' → TakePost w l (.returned (.tuple #[qV (if c then qof l else zQ), .int .i64 (if c then 0 else 2)])) w') := fun c w' hc b => by
    refine ⟨?_, b⟩
    rw [← hc]
    by_cases h : isQ l
    · rw [if_pos h, if_pos h, decide_eq_true h.2, if_pos rfl, if_pos rfl]
    · rw [if_neg h, if_neg h, decide_eq_false fun k => h ⟨hl, k⟩]
      rfl
  have ge := getD_byte hb
  have c := cells_at hA
  have B0 := Lib.hid ((Below.refl w.heap.size w).alloc (Nat.le_refl _) (.cells (qA zQ) 25))
  have R0 := Lib.hid (heap_alloc_new w (.cells (qA zQ) 25))
  have HA := Lib.hid hA
  have HB := Lib.hid hb
  have d2 := Sd.cell_by (bCe B0.out (c 2 (by omega)))
  have d3 := Sd.cell_by (bCe B0.out (c 3 (by omega)))
  have d4 := Sd.cell_by (bCe B0.out (c 4 (by omega)))
  have d5 := Sd.cell_by (bCe B0.out (c 5 (by omega)))
  have d6 := Sd.cell_by (bCe B0.out (c 6 (by omega)))
  have d7 := Sd.cell_by (bCe B0.out (c 7 (by omega)))
  have d8 := Sd.cell_by (bCe B0.out (c 8 (by omega)))
  have e2 : IntKind.i64.wrap (l.getD 2 0) = l.getD 2 0 := IntWalk.i64_in _ (by have := ge 2; omega)
  have e3 : IntKind.i64.wrap (l.getD 3 0) = l.getD 3 0 := IntWalk.i64_in _ (by have := ge 3; omega)
  have e4 : IntKind.i64.wrap (l.getD 4 0) = l.getD 4 0 := IntWalk.i64_in _ (by have := ge 4; omega)
  have e5 : IntKind.i64.wrap (l.getD 5 0) = l.getD 5 0 := IntWalk.i64_in _ (by have := ge 5; omega)
  have e6 : IntKind.i64.wrap (l.getD 6 0) = l.getD 6 0 := IntWalk.i64_in _ (by have := ge 6; omega)
  have e7 : IntKind.i64.wrap (l.getD 7 0) = l.getD 7 0 := IntWalk.i64_in _ (by have := ge 7; omega)
  have e8 : IntKind.i64.wrap (l.getD 8 0) = l.getD 8 0 := IntWalk.i64_in _ (by have := ge 8; omega)
  have e10 : IntKind.i64.wrap (l.getD 2 0 * 256) = l.getD 2 0 * 256 := IntWalk.i64_in _ (by have := ge 2; omega)
  have e11 : IntKind.i64.wrap (l.getD 2 0 * 256 + l.getD 3 0) = l.getD 2 0 * 256 + l.getD 3 0 := IntWalk.i64_in _ (by have := ge 2; have := ge 3; omega)
  have MC : Hid (l.length = 13 → w.cell? ⟨b, off + 9, none⟩ = some (.int .u8 (vof l).1) ∧ w.cell? ⟨b, off + 10, none⟩ = some (.int .u8 (vof l).2.1) ∧ w.cell? ⟨b, off + 11, none⟩ = some (.int .u8 (vof l).2.2.1) ∧ w.cell? ⟨b, off + 12, none⟩ = some (.int .u8 (vof l).2.2.2)) := Lib.hid fun h => by
    unfold vof
    rw [if_pos h]
    exact ⟨c 9 (by omega), c 10 (by omega), c 11 (by omega), c 12 (by omega)⟩
  have MZ : Hid (l.length = 9 → vof l = z4) := Lib.hid fun h => if_neg (by omega)
  have GV : Hid (okV (vof l)) := Lib.hid (by
    unfold vof
    by_cases h : l.length = 13
    · rw [if_pos h]; exact ⟨ge 9, ge 10, ge 11, ge 12⟩
    · rw [if_neg h]; exact ⟨by decide, by decide, by decide, by decide⟩)
  have QE : Hid (qof l = ⟨l.getD 2 0 * 256 + l.getD 3 0, l.getD 4 0, l.getD 5 0, l.getD 6 0, l.getD 7 0, vof l, l.getD 8 0⟩) := Lib.hid rfl
  clear c ge hA hb
  generalize vof l = u at *
  obtain ⟨u0, u1, u2, u3⟩ := u
  generalize l.getD 2 0 = b2 at *
  generalize l.getD 3 0 = b3 at *
  generalize l.getD 4 0 = b4 at *
  generalize l.getD 5 0 = b5 at *
  generalize l.getD 6 0 = b6 at *
  generalize l.getD 7 0 = b7 at *
  generalize l.getD 8 0 = b8 at *
  unfold qA zQ z4 at B0 R0 d2 d3 d4 d5 d6 d7 d8
  unfold z4 at MZ
  dsimp only at B0 R0 d2 d3 d4 d5 d6 d7 d8 MC
  generalize hn : l.length = n at *
  have HN := Lib.hid hn
  clear hn
  rcases hl with rfl | rfl
  all_goals
    go_enter Try.func9, Try.ntmps9
    go_wp2_with fail
    generalize w.alloc (.cells #[.int .i64 0, .int .i64 0, .int .i64 0, .int .i64 0, .int .i64 0, .int .u8 0, .int .u8 0, .int .u8 0, .int .u8 0, .int .i64 0] 25) = W at *
    refine Sg.startP [(0, 0), (0, 1), (0, 2), (0, 3), (0, 4), (0, 5), (0, 6), (0, 7), (0, 8), (0, 9), (0, 10), (0, 11), (0, 12), (0, 13), (0, 14), (0, 15), (0, 16), (0, 17), (0, 18), (0, 19), (0, 20), (0, 21), (0, 22), (0, 23), (0, 24), (0, 25), (0, 26), (0, 27), (0, 28), (0, 29), (0, 30), (2, 31), (1, 32)] [⟨31, 4, #[.int .i64 0, .int .i64 0, .int .i64 0, .int .i64 0, .int .i64 0, .int .u8 0, .int .u8 0, .int .u8 0, .int .u8 0, .int .i64 0], 25, none, none⟩] (by kernel_rfl) (by kernel_rfl) (by kernel_rfl) (by decide) (by decide) ?_ ?_ ?_
    · simp
    · intro f hf
      simp only [List.mem_cons, List.not_mem_nil, or_false] at hf
      subst hf
      exact Sg.okP rfl rfl rfl fun ρ w => by go_simp
    dsimp only [Sg.picks, List.getElem?_cons_succ, List.getElem?_cons_zero]
    have BW := Lib.hid ((Below.refl W.heap.size W).drew)
    repeat (refine Sg.lit (fun xs => ?_); simp only [Sg.fill, List.foldl_cons, List.foldl_nil]; quiet_step (fail); refine wpQuiet_nil ?_)
    refine Sg.meetP (fun gF w7 hb hc row n7 hH hL => ?_)
    have B7 := bTr BW hb
    have R7 := Lib.hid (row)
    clear hb hc row hH hL BW
    refine Sg.callB (fun xs w9 hb hc => ⟨by rfl, fun K hK => ?_⟩)
    have B9 := bTr B7 hb
    have R9 := Lib.hid (bBl hb R7)
    clear hb hc B7 R7
    simp only [Sg.fill, List.foldl_nil]
    refine wp_store_row 25 _ _ rfl gF #[.int .i64 (b2 * 256 + b3), .int .i64 b4, .int .i64 b5, .int .i64 b6, .int .i64 b7, .int .u8 0, .int .u8 0, .int .u8 0, .int .u8 0, .int .i64 b8] rfl rfl 25 _ R9.out (by kernel_rfl) rfl (by simp [Value.oneCell']) ?_
    have RA := Lib.hid (setRow_heap w9 gF _ #[.int .i64 (b2 * 256 + b3), .int .i64 b4, .int .i64 b5, .int .i64 b6, .int .i64 b7, .int .u8 0, .int .u8 0, .int .u8 0, .int .u8 0, .int .i64 b8] _ _ R9.out)
    have BA := Lib.hid (below_setRow B9.out n7 #[.int .i64 (b2 * 256 + b3), .int .i64 b4, .int .i64 b5, .int .i64 b6, .int .i64 b7, .int .u8 0, .int .u8 0, .int .u8 0, .int .u8 0, .int .i64 b8])
    have hsz : (w9.setRow gF #[.int .i64 (b2 * 256 + b3), .int .i64 b4, .int .i64 b5, .int .i64 b6, .int .i64 b7, .int .u8 0, .int .u8 0, .int .u8 0, .int .u8 0, .int .i64 b8]).heap.size = w9.heap.size := by simp [World.setRow]
    refine hK _ _ (Sd.Cl.of BA.out) (by rw [hsz]; exact Nat.le_refl _) (fun h => absurd rfl h) ?_
    clear hK K hsz
    generalize w9.setRow gF #[.int .i64 (b2 * 256 + b3), .int .i64 b4, .int .i64 b5, .int .i64 b6, .int .i64 b7, .int .u8 0, .int .u8 0, .int .u8 0, .int .u8 0, .int .i64 b8] = wA at *
    refine Sg.done (fun wB hb hc => ?_)
    have BB := bTr BA.out hb
    have RB := Lib.hid (bBl hb RA.out)
    have BX := bTr B0.out BB.out
    have n8 : w.heap.size < gF := Nat.lt_of_lt_of_le (lt_of_block R0.out) n7
    clear hb hc BA RA B9 R9 d2 d3 d4 d5 d6 d7 d8 e2 e3 e4 e5 e6 e7 e8 e10 e11
    have RW := Lib.hid (bBl BB.out R0.out)
    clear BB B0 R0 n7
    generalize b2 * 256 + b3 = I at *
  case' refine_3 =>
    have hz := MZ.out trivial
    injection hz with z0 hz
    injection hz with z1 hz
    injection hz with z2 z3
    have RD : Hid (wB.heap[gF]? = some (.cells #[.int .i64 I, .int .i64 b4, .int .i64 b5, .int .i64 b6, .int .i64 b7, .int .u8 u0, .int .u8 u1, .int .u8 u2, .int .u8 u3, .int .i64 b8] 25 (0, 0))) := Lib.hid (by rw [z0, z1, z2, z3]; exact RB.out)
    have BD := Lib.hid BX.out
    clear RB BX MC MZ z0 z1 z2 z3
    generalize wB = wD at *
  rotate_left
  case' refine_3 =>
    obtain ⟨x9, x10, x11, x12⟩ := MC.out trivial
    have d9 := Sc.cell_in (C := fun W' => Below w.heap.size w W') (fun W' h => bCe h x9)
    have d10 := Sc.cell_in (C := fun W' => Below w.heap.size w W') (fun W' h => bCe h x10)
    have d11 := Sc.cell_in (C := fun W' => Below w.heap.size w W') (fun W' h => bCe h x11)
    have d12 := Sc.cell_in (C := fun W' => Below w.heap.size w W') (fun W' h => bCe h x12)
    have C0 := BX.out.drew
    have ne : Nonempty (Sc.In (fun W' => Below w.heap.size w W')) := ⟨⟨_, C0⟩⟩
    have RC : Hid (wB.drew.heap[gF]? = some (.cells #[.int .i64 I, .int .i64 b4, .int .i64 b5, .int .i64 b6, .int .i64 b7, .int .u8 0, .int .u8 0, .int .u8 0, .int .u8 0, .int .i64 b8] 25 (0, 0))) := RB
    have RWC : Hid (wB.drew.heap[w.heap.size]? = some (.cells #[.int .i64 0, .int .i64 0, .int .i64 0, .int .i64 0, .int .i64 0, .int .u8 0, .int .u8 0, .int .u8 0, .int .u8 0, .int .i64 0] 25 (0, 0))) := RW
    have BC := Lib.hid C0
    clear MC MZ x9 x10 x11 x12
    go_wp2_with fail
    refine Sc.start (fun W' => Below w.heap.size w W') [(false, 0), (false, 1), (false, 2), (false, 3), (false, 4), (false, 5), (false, 6), (false, 7), (false, 8), (false, 9), (false, 10), (false, 11), (false, 12), (false, 13), (true, 14)] (by kernel_rfl) (by kernel_rfl) (by kernel_rfl) C0 ?_
    dsimp only [Sd.picks, List.getElem?_cons_succ, List.getElem?_cons_zero]
    repeat (refine Sd.lit ?_; quiet_step (fail); refine wpQuiet_nil ?_)
    clear RB RW BX C0 d9 d10 d11 d12
    generalize wB.drew = wC at *
    refine Sd.call (by rfl) (fun K hK => ?_)
    have q5 := rc1 RC.out 5
    have q6 := rc1 RC.out 6
    have q7 := rc1 RC.out 7
    have q8 := rc1 RC.out 8
    have f5 := fz1 RC.out 5
    have f6 := fz1 RC.out 6
    have f7 := fz1 RC.out 7
    have f8 := fz1 RC.out 8
    go_simp
    have hle : w.heap.size ≤ gF := Nat.le_of_lt n8
    have BD := Lib.hid ((((BC.out.setCell (p := ⟨gF, 5, none⟩) hle (.int .u8 u0)).setCell (p := ⟨gF, 6, none⟩) hle (.int .u8 u1)).setCell (p := ⟨gF, 7, none⟩) hle (.int .u8 u2)).setCell (p := ⟨gF, 8, none⟩) hle (.int .u8 u3))
    have RD := Lib.hid (row_set4 RC.out u0 u1 u2 u3)
    have hne : w.heap.size ≠ gF := by omega
    have RW : Hid (((((wC.setCell ⟨gF, 5, none⟩ (.int .u8 u0)).setCell ⟨gF, 6, none⟩ (.int .u8 u1)).setCell ⟨gF, 7, none⟩ (.int .u8 u2)).setCell ⟨gF, 8, none⟩ (.int .u8 u3)).heap[w.heap.size]? = some (.cells #[.int .i64 0, .int .i64 0, .int .i64 0, .int .i64 0, .int .i64 0, .int .u8 0, .int .u8 0, .int .u8 0, .int .u8 0, .int .i64 0] 25 (0, 0))) := Lib.hid ((Below.heap_setCell _ _ _ _ hne).trans ((Below.heap_setCell _ _ _ _ hne).trans ((Below.heap_setCell _ _ _ _ hne).trans ((Below.heap_setCell _ _ _ _ hne).trans RWC.out))))
    refine hK _ _ (Sc.Cl.of BD.out) ?_
    clear hK K q5 q6 q7 q8 f5 f6 f7 f8 hle hne RC RWC BC ne
    refine Sd.done ?_
    generalize (((wC.setCell ⟨gF, 5, none⟩ (.int .u8 u0)).setCell ⟨gF, 6, none⟩ (.int .u8 u1)).setCell ⟨gF, 7, none⟩ (.int .u8 u2)).setCell ⟨gF, 8, none⟩ (.int .u8 u3) = wD at *
  all_goals
    rw [QE.out] at E
    have k0 := rc1 RD.out 0
    have k1 := rc1 RD.out 1
    have k2 := rc1 RD.out 2
    have k3 := rc1 RD.out 3
    have k4 := rc1 RD.out 4
    have k5 := rc1 RD.out 5
    have k6 := rc1 RD.out 6
    have k7 := rc1 RD.out 7
    have k8 := rc1 RD.out 8
    have k9 := rc1 RD.out 9
    have GR := Lib.hid (rput_any wD ⟨I, b4, b5, b6, b7, (u0, u1, u2, u3), b8⟩)
    unfold qV qA at GR
    dsimp only at GR
    go_wp2_with fail
    refine GR.out.mono ?_
    rintro e w1 ⟨u, rfl, o1, b1⟩
    have B1 := bTr BD.out b1
    have RW1 := Lib.hid (bBl b1 RW.out)
    have RD1 := Lib.hid (bBl b1 RD.out)
    have A1 := Lib.hid (HA.out.below B1.out)
    clear GR RW b1 RD BD k0 k1 k2 k3 k4 k5 k6 k7 k8 k9
    by_cases hm : good ⟨I, b4, b5, b6, b7, (u0, u1, u2, u3), b8⟩
    · rw [if_pos hm] at o1
      rw [if_pos hm]
      obtain ⟨a', cap', rfl, _, _, hh⟩ := o1.rd
      obtain ⟨b', off', rfl, A'⟩ := hh (by rcases qb_len ⟨I, b4, b5, b6, b7, (u0, u1, u2, u3), b8⟩ with h | h <;> omega)
      have hyb := qb_byte hm GV.out
      have s1 := run_convert_bytes_arg (P := Try.prog) w1 26 5 Try.underlying26 Try.underlying5 b' off' _ cap' _ rfl (cells_at A') 9 Try.underlying9
      have s2 := run_convert_bytes_arg (P := Try.prog) w1 26 5 Try.underlying26 Try.underlying5 b off _ cap l HN.out (HN.out ▸ cells_at A1.out) 9 Try.underlying9
      by_cases he : qb ⟨I, b4, b5, b6, b7, (u0, u1, u2, u3), b8⟩ = l
      · have ht : ((strOfNums (qb ⟨I, b4, b5, b6, b7, (u0, u1, u2, u3), b8⟩)).toList == (strOfNums l).toList) = true := by rw [he]; exact beq_self_eq_true _
        have F : Hid (TakePost w l (.returned (.tuple #[.agg #[.int .i64 I, .int .i64 b4, .int .i64 b5, .int .i64 b6, .int .i64 b7, .int .u8 u0, .int .u8 u1, .int .u8 u2, .int .u8 u3, .int .i64 b8], .int .i64 0])) (w1.setRow w.heap.size #[.int .i64 I, .int .i64 b4, .int .i64 b5, .int .i64 b6, .int .i64 b7, .int .u8 u0, .int .u8 u1, .int .u8 u2, .int .u8 u3, .int .i64 b8])) := Lib.hid (E.out true _ (decide_eq_true ⟨hm, he⟩) (below_setRow B1.out (Nat.le_refl _) #[.int .i64 I, .int .i64 b4, .int .i64 b5, .int .i64 b6, .int .i64 b7, .int .u8 u0, .int .u8 u1, .int .u8 u2, .int .u8 u3, .int .i64 b8]))
        have k0 := rc1 RD1.out 0
        have k1 := rc1 RD1.out 1
        have k2 := rc1 RD1.out 2
        have k3 := rc1 RD1.out 3
        have k4 := rc1 RD1.out 4
        have k5 := rc1 RD1.out 5
        have k6 := rc1 RD1.out 6
        have k7 := rc1 RD1.out 7
        have k8 := rc1 RD1.out 8
        have k9 := rc1 RD1.out 9
        clear hyb o1 A' A1 HA HB hm he B1 E GV QE
        generalize (qb ⟨I, b4, b5, b6, b7, (u0, u1, u2, u3), b8⟩).length = n at *
        generalize strOfNums (qb ⟨I, b4, b5, b6, b7, (u0, u1, u2, u3), b8⟩) = s at *
        generalize strOfNums l = t at *
        go_wp2_with ((with_reducible refine wpList_store_row (o := ⟨none, _, _, _, _, _⟩) rfl 25 _ _ rfl w.heap.size #[.int .i64 I, .int .i64 b4, .int .i64 b5, .int .i64 b6, .int .i64 b7, .int .u8 u0, .int .u8 u1, .int .u8 u2, .int .u8 u3, .int .i64 b8] rfl rfl _ _ RW1.out (by kernel_rfl) rfl (by simp [Value.oneCell']) ?_))
        exact bodyPost_ret (results_request (p := 2) (r := 3) rfl _ _ w.heap.size _ rfl rfl (setRow_heap w1 w.heap.size _ _ _ _ RW1.out) rfl) rfl F.out
      · have ht : ((strOfNums (qb ⟨I, b4, b5, b6, b7, (u0, u1, u2, u3), b8⟩)).toList == (strOfNums l).toList) = false := beq_eq_false_iff_ne.2 fun h => he (str_eq hyb HB.out h)
        have F : Hid (TakePost w l (.returned (.tuple #[.agg #[.int .i64 0, .int .i64 0, .int .i64 0, .int .i64 0, .int .i64 0, .int .u8 0, .int .u8 0, .int .u8 0, .int .u8 0, .int .i64 0], .int .i64 2])) (w1.setRow w.heap.size #[.int .i64 0, .int .i64 0, .int .i64 0, .int .i64 0, .int .i64 0, .int .u8 0, .int .u8 0, .int .u8 0, .int .u8 0, .int .i64 0])) := Lib.hid (E.out false _ (decide_eq_false fun h => he h.2) (below_setRow B1.out (Nat.le_refl _) #[.int .i64 0, .int .i64 0, .int .i64 0, .int .i64 0, .int .i64 0, .int .u8 0, .int .u8 0, .int .u8 0, .int .u8 0, .int .i64 0]))
        clear hyb o1 A' A1 HA HB hm he B1 E GV QE
        generalize (qb ⟨I, b4, b5, b6, b7, (u0, u1, u2, u3), b8⟩).length = n at *
        generalize strOfNums (qb ⟨I, b4, b5, b6, b7, (u0, u1, u2, u3), b8⟩) = s at *
        generalize strOfNums l = t at *
        go_wp2_with ((with_reducible refine wpList_store_row (o := ⟨none, _, _, _, _, _⟩) rfl 25 _ _ rfl w.heap.size #[.int .i64 0, .int .i64 0, .int .i64 0, .int .i64 0, .int .i64 0, .int .u8 0, .int .u8 0, .int .u8 0, .int .u8 0, .int .i64 0] rfl rfl _ _ RW1.out (by kernel_rfl) rfl (by simp [Value.oneCell']) ?_))
        exact bodyPost_ret (results_request (p := 2) (r := 3) rfl _ _ w.heap.size _ rfl rfl (setRow_heap w1 w.heap.size _ _ _ _ RW1.out) rfl) rfl F.out
    · rw [if_neg hm]
      have F : Hid (TakePost w l (.returned (.tuple #[.agg #[.int .i64 0, .int .i64 0, .int .i64 0, .int .i64 0, .int .i64 0, .int .u8 0, .int .u8 0, .int .u8 0, .int .u8 0, .int .i64 0], .int .i64 2])) (w1.setRow w.heap.size #[.int .i64 0, .int .i64 0, .int .i64 0, .int .i64 0, .int .i64 0, .int .u8 0, .int .u8 0, .int .u8 0, .int .u8 0, .int .i64 0])) := Lib.hid (E.out false _ (decide_eq_false fun h => hm h.1) (below_setRow B1.out (Nat.le_refl _) #[.int .i64 0, .int .i64 0, .int .i64 0, .int .i64 0, .int .i64 0, .int .u8 0, .int .u8 0, .int .u8 0, .int .u8 0, .int .i64 0]))
      clear o1 A1 HA HB hm B1 E GV QE
      go_wp2_with ((with_reducible refine wpList_store_row (o := ⟨none, _, _, _, _, _⟩) rfl 25 _ _ rfl w.heap.size #[.int .i64 0, .int .i64 0, .int .i64 0, .int .i64 0, .int .i64 0, .int .u8 0, .int .u8 0, .int .u8 0, .int .u8 0, .int .i64 0] rfl rfl _ _ RW1.out (by kernel_rfl) rfl (by simp [Value.oneCell']) ?_))
      exact bodyPost_ret (results_request (p := 2) (r := 3) rfl _ _ w.heap.size _ rfl rfl (setRow_heap w1 w.heap.size _ _ _ _ RW1.out) rfl) rfl F.out

theorem rtake_any (w : World) (v : Value) (l : List Int) (hb : ∀ x ∈ l, 0 ≤ x ∧ x < 256) (R : Rd KU w v l) : Calls Try.prog 9 #[v] w (TakePost w l) := by
  obtain ⟨a, cap, rfl, _, _, h2⟩ := R
  by_cases h : l.length = 9 ∨ l.length = 13
  · obtain ⟨b, off, rfl, hA⟩ := h2 (by omega)
    exact rtake_read w b off cap l h hb hA
  · exact rtake_len w a cap l (fun k => h (.inl k)) (fun k => h (.inr k))

end Go.Proofs.Yticdgjohladdlaa.Rq
