/- ifs: has, Get, by their contracts. -/
import Derived.Test.YtoeemngekioldaaDoorFsSmall
namespace Go.Proofs.YtoeemngekioldaaDoor.Fs
open Go.RowKit Go.Maps
open Go.Proofs.YtoeemngekioldaaDoor.Fl (R4 z4 K4 rec4 rat goodF goodFB okR okL doE newR file arr4 sto2 sto4 sto2_row sto2_other sto2_below sto2_size sto2_off sto4_row sto4_other sto4_below sto4_size row_cell row_frozen own_form ret_bool at4)
open Go.Proofs.YtoeemngekioldaaDoor.Rw (Rd Ow At)
set_option maxRecDepth 100000

theorem gB_none {C : List Ent} {n r : Int} (h : look Ent.n n C = none) : gB (C.map Ent.abs) n r = false := by unfold gB; rw [abs_look, h]; rfl
theorem gB_some {C : List Ent} {n r : Int} {c : Ent} (h : look Ent.n n C = some c) : gB (C.map Ent.abs) n r = decide (0 ≤ r ∧ r < c.l.length) := by unfold gB; rw [abs_look, h]; rfl
theorem gV_none {C : List Ent} {n r : Int} (h : look Ent.n n C = none) : gV (C.map Ent.abs) n r = z4 := by unfold gV; rw [abs_look, h]; rfl
theorem gV_some {C : List Ent} {n r : Int} {c : Ent} (h : look Ent.n n C = some c) : gV (C.map Ent.abs) n r = if 0 ≤ r ∧ r < c.l.length then rat c.l r.toNat else z4 := by unfold gV; rw [abs_look, h]; rfl

set_option maxHeartbeats 400000 in
theorem has_any {w : World} {s : Nat} {F : Nat → Prop} {m : Value} {C : List Ent} {d : Int} (S : Sto w s F m C d) {n : Int} (hn : Wf n) (r : Int) :
    Calls Tryd.prog 25 #[.pointer (some ⟨s, 0, none⟩), .int .i64 n, .int .i64 r] w fun e w' => e = .returned (.bool (gB (C.map Ent.abs) n r)) ∧ Below w.heap.size w w' := by
  have hF := run_fieldF
  have c0 : w.cell? ⟨s, 0, none⟩ = some m := row_cell S.row 0
  have M := Lib.hid S.mp
  have HN := Lib.hid hn
  clear S hn
  cases hk : look Ent.n n C with
  | none =>
    have E := Lib.hid (gB_none (r := r) hk)
    have L := Lib.hid (lv_none hk)
    clear hk
    by_cases hr : 0 ≤ r
    · go_enter Tryd.func25, Tryd.ntmps25
      go_wp2_with (at_lookup; refine at_look0 rfl _ _ rfl M.out rfl _ rfl HN.out _ L.out ?_)
      go_ret
      exact ⟨ret_bool (by rw [E.out]; exact decide_eq_false (by omega)), Below.refl _ _⟩
    · go_enter Tryd.func25, Tryd.ntmps25
      go_wp2_with (at_lookup; refine at_look0 rfl _ _ rfl M.out rfl _ rfl HN.out _ L.out ?_)
      go_ret
      exact ⟨ret_bool E.out.symm, Below.refl _ _⟩
  | some c =>
    have E := Lib.hid (gB_some (r := r) hk)
    have L := Lib.hid (lv_some hk)
    clear hk
    generalize c.l.length = k at *
    by_cases hr : 0 ≤ r
    · by_cases h2 : r < (k : Int)
      · go_enter Tryd.func25, Tryd.ntmps25
        go_wp2_with (at_lookup; refine at_look0 rfl _ _ rfl M.out rfl _ rfl HN.out _ L.out ?_)
        go_ret
        exact ⟨ret_bool (by rw [E.out, decide_eq_true ⟨hr, h2⟩]), Below.refl _ _⟩
      · go_enter Tryd.func25, Tryd.ntmps25
        go_wp2_with (at_lookup; refine at_look0 rfl _ _ rfl M.out rfl _ rfl HN.out _ L.out ?_)
        go_ret
        exact ⟨ret_bool (by rw [E.out, decide_eq_false (fun h => by omega)]), Below.refl _ _⟩
    · go_enter Tryd.func25, Tryd.ntmps25
      go_wp2_with (at_lookup; refine at_look0 rfl _ _ rfl M.out rfl _ rfl HN.out _ L.out ?_)
      go_ret
      exact ⟨ret_bool (by rw [E.out, decide_eq_false (fun h => by omega)]), Below.refl _ _⟩
theorem has_nil (w : World) (n r : Int) : Calls Tryd.prog 25 #[.pointer none, .int .i64 n, .int .i64 r] w fun e w' => e = .returned (.bool false) ∧ Below w.heap.size w w' := by
  go_enter Tryd.func25, Tryd.ntmps25
  go_wp2
  go_ret
  exact ⟨rfl, Below.refl _ _⟩

def GetPost (w : World) (y : R4) (b : Bool) (e : Ending) (w' : World) : Prop := e = .returned (.tuple #[rec4 y, .bool b]) ∧ Below w.heap.size w w'
/-- A record's place, of nothing. -/
theorem one_rec (w : World) : (w.alloc (.cells (arr4 z4) 32)).heap[w.heap.size]? = some (.cells (arr4 z4) 32 (0, 0)) ∧ Below w.heap.size w (w.alloc (.cells (arr4 z4) 32)) ∧ (w.alloc (.cells (arr4 z4) 32)).heap.size = w.heap.size + 1 := ⟨heap_alloc_new w _, (Below.refl w.heap.size w).alloc (Nat.le_refl _) _, by simp⟩
set_option maxHeartbeats 400000 in
theorem get_no (w : World) (s : Value) (n r : Int) (hh : ∀ W, Below w.heap.size w W → Calls Tryd.prog 25 #[s, .int .i64 n, .int .i64 r] W fun e w' => e = .returned (.bool false) ∧ Below W.heap.size W w') :
    Calls Tryd.prog 14 #[s, .int .i64 n, .int .i64 r] w (GetPost w z4 false) := by
  obtain ⟨h1, hB, hz⟩ := one_rec w
  have H1 := Lib.hid h1
  have HB := Lib.hid hB
  have HH := Lib.hid (hh _ hB)
  have HZ := Lib.hid hz
  clear h1 hB hz hh
  unfold arr4 z4 at *
  go_enter Tryd.func14, Tryd.ntmps14
  go_wp2_with fail
  generalize (w.alloc (.cells #[.int .u8 0, .int .u8 0, .int .u8 0, .int .u8 0] 32)) = W at *
  refine HH.out.mono ?_
  rintro e w1 ⟨rfl, b1⟩
  have hz := HZ.out
  have G : w1.heap[w.heap.size]? = some (.cells (arr4 z4) 32 (0, 0)) := (b1.block _ (by omega)).trans H1.out
  have B1 := Lib.hid (HB.out.trans (b1.mono HB.out.size))
  have d0 : w1.cell? ⟨w.heap.size, 0, none⟩ = some (.int .u8 0) := row_cell G 0
  have d1 : w1.cell? ⟨w.heap.size, 1, none⟩ = some (.int .u8 0) := row_cell G 1
  have d2 : w1.cell? ⟨w.heap.size, 2, none⟩ = some (.int .u8 0) := row_cell G 2
  have d3 : w1.cell? ⟨w.heap.size, 3, none⟩ = some (.int .u8 0) := row_cell G 3
  have k0 := row_frozen G 0
  have k1 := row_frozen G 1
  have k2 := row_frozen G 2
  have k3 := row_frozen G 3
  have R2 := Lib.hid (sto4_row G z4)
  have B2 := Lib.hid (sto4_below (o := 0) (r := z4) B1.out (show w.heap.size ≤ w.heap.size by omega))
  clear b1 HH HB H1 HZ hz G B1
  go_wp2
  (try simp only [Exit.inBlock, Exit.then])
  exact bodyPost_ret (results_rec (p := 6) (r := 7) rfl _ _ w.heap.size z4 (.bool false) rfl rfl R2.out) rfl ⟨rfl, B2.out⟩
set_option maxHeartbeats 400000 in
theorem get_yes {w : World} {s : Nat} {F : Nat → Prop} {m : Value} {C : List Ent} {d : Int} (S : Sto w s F m C d) {n : Int} (hn : Wf n) (k : Nat) {c : Ent} (hc : look Ent.n n C = some c) (hk : k < c.l.length) :
    Calls Tryd.prog 14 #[.pointer (some ⟨s, 0, none⟩), .int .i64 n, .int .i64 (k : Int)] w (GetPost w (rat c.l k) true) := by
  obtain ⟨h1, hB, hz⟩ := one_rec w
  have H1 := Lib.hid h1
  have HB := Lib.hid hB
  have HZ := Lib.hid hz
  have hh := has_any (S.below hB) hn (k : Int)
  rw [gB_some hc, decide_eq_true (⟨by omega, by omega⟩ : 0 ≤ (k : Int) ∧ (k : Int) < c.l.length)] at hh
  have HH := Lib.hid hh
  have SS := Lib.hid S
  have HN := Lib.hid hn
  have L := Lib.hid (lv_some hc)
  obtain ⟨ho, _⟩ := S.find hc
  obtain ⟨g, cap, e1, _, _, _, _, _, hA⟩ := ho.form (by omega)
  obtain ⟨cn, cp, ca, ccap, cl⟩ := c
  obtain ⟨rfl, rfl⟩ : ca = some ⟨g, 0, none⟩ ∧ ccap = cap := by
    unfold Ent.sl at e1
    injection e1 with e1 e2 e3
    exact ⟨e1, e3⟩
  have A4' := at4 hA k hk
  rw [Nat.zero_add] at A4'
  have A4 := Lib.hid A4'
  clear A4'
  have hk' : k < cl.length := hk
  clear h1 hB hz hh ho e1 hA hc S hn hk
  simp only at *
  generalize rat cl k = y at *
  generalize cl.length = q at *
  have y4 : Hid (arr4 y = #[.int .u8 y.1, .int .u8 y.2.1, .int .u8 y.2.2.1, .int .u8 y.2.2.2]) := rfl
  unfold arr4 z4 at H1 HB HZ HH
  go_enter Tryd.func14, Tryd.ntmps14
  go_wp2_with fail
  generalize (w.alloc (.cells #[.int .u8 0, .int .u8 0, .int .u8 0, .int .u8 0] 32)) = W at *
  refine HH.out.mono ?_
  rintro e w1 ⟨rfl, b1⟩
  have hz := HZ.out
  have G : w1.heap[w.heap.size]? = some (.cells (arr4 z4) 32 (0, 0)) := (b1.block _ (by omega)).trans H1.out
  have B1 := Lib.hid (HB.out.trans (b1.mono HB.out.size))
  have S1 := SS.out.below B1.out
  have M1 := Lib.hid S1.mp
  have c0 : w1.cell? ⟨s, 0, none⟩ = some m := row_cell S1.row 0
  have hF := run_fieldF
  have q0 := (B1.out.cell (World.block_lt_of_cell? _ _ A4.out.1)).trans A4.out.1
  have q1 := (B1.out.cell (World.block_lt_of_cell? _ _ A4.out.2.1)).trans A4.out.2.1
  have q2 := (B1.out.cell (World.block_lt_of_cell? _ _ A4.out.2.2.1)).trans A4.out.2.2.1
  have q3 := (B1.out.cell (World.block_lt_of_cell? _ _ A4.out.2.2.2)).trans A4.out.2.2.2
  have d0 : w1.cell? ⟨w.heap.size, 0, none⟩ = some (.int .u8 0) := row_cell G 0
  have d1 : w1.cell? ⟨w.heap.size, 1, none⟩ = some (.int .u8 0) := row_cell G 1
  have d2 : w1.cell? ⟨w.heap.size, 2, none⟩ = some (.int .u8 0) := row_cell G 2
  have d3 : w1.cell? ⟨w.heap.size, 3, none⟩ = some (.int .u8 0) := row_cell G 3
  have k0 := row_frozen G 0
  have k1 := row_frozen G 1
  have k2 := row_frozen G 2
  have k3 := row_frozen G 3
  have R2 := Lib.hid (sto4_row G y)
  have B2 := Lib.hid (sto4_below (o := 0) (r := y) B1.out (show w.heap.size ≤ w.heap.size by omega))
  clear b1 HH HB H1 HZ hz G B1 S1 SS A4
  go_wp2_with (at_lookup; refine at_look0 rfl _ _ rfl M1.out rfl _ rfl HN.out _ L.out ?_)
  (try simp only [Exit.inBlock, Exit.then])
  exact bodyPost_ret (results_rec (p := 6) (r := 7) rfl _ _ w.heap.size y (.bool true) rfl rfl R2.out) rfl ⟨rfl, B2.out⟩
theorem get_any {w : World} {s : Nat} {F : Nat → Prop} {m : Value} {C : List Ent} {d : Int} (S : Sto w s F m C d) {n : Int} (hn : Wf n) (r : Int) :
    Calls Tryd.prog 14 #[.pointer (some ⟨s, 0, none⟩), .int .i64 n, .int .i64 r] w (GetPost w (gV (C.map Ent.abs) n r) (gB (C.map Ent.abs) n r)) := by
  cases hk : look Ent.n n C with
  | none =>
    rw [gV_none hk, gB_none hk]
    refine get_no w _ n r fun W hb => ?_
    have := has_any (S.below hb) hn r
    rwa [gB_none hk] at this
  | some c =>
    by_cases hr : 0 ≤ r ∧ r < c.l.length
    · obtain ⟨k, rfl⟩ : ∃ k : Nat, r = k := ⟨r.toNat, by omega⟩
      rw [gV_some hk, gB_some hk, if_pos hr, decide_eq_true hr, Int.toNat_natCast]
      exact get_yes S hn k hk (by omega)
    · rw [gV_some hk, gB_some hk, if_neg hr, decide_eq_false hr]
      refine get_no w _ n r fun W hb => ?_
      have := has_any (S.below hb) hn r
      rwa [gB_some hk, decide_eq_false hr] at this
theorem get_nil (w : World) (n r : Int) : Calls Tryd.prog 14 #[.pointer none, .int .i64 n, .int .i64 r] w (GetPost w z4 false) := get_no w _ n r fun W _ => has_nil W n r

end Go.Proofs.YtoeemngekioldaaDoor.Fs
