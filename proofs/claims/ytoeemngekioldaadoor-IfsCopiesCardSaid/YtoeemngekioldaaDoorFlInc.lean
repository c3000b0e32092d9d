/- file.oneMore. -/
import Derived.Test.YtoeemngekioldaaDoorFlOne
namespace Go.Proofs.YtoeemngekioldaaDoor.Fl
open Go.RowKit Go.Shelf
attribute [local go_sem] Oper.semAt_some

theorem row_kept {A B : World} {row : Option Nat} {g : Nat} {cs : Array Value} {t : TypeId} (h : A.heap[g]? = some (.cells cs t (0, 0))) (hg : A.grownBy B row) (hr : ∀ r, row = some r → ∃ o : Obj, A.heap[r]? = some o ∧ o.isCells = false) : B.heap[g]? = some (.cells cs t (0, 0)) :=
  (grownBy_keeps_cells hg hr h rfl).trans h
/-- What holds between two rounds. -/
structure Mid (w : World) (r q : R4) (W : World) : Prop where
  row : RowAt W w.heap.size q
  res : RowAt W (w.heap.size + 1) z4
  box : BoxAt W (w.heap.size + 2) w.heap.size
  bel : Below w.heap.size w W
theorem Mid.own {w : World} {r q : R4} {A B : World} {row : Option Nat} (h : Mid w r q A) (hg : A.grownBy B row) (hr : ∀ x, row = some x → w.heap.size + 3 ≤ x ∧ ∃ o : Obj, A.heap[x]? = some o ∧ o.isCells = false) : Mid w r q B :=
  ⟨row_kept h.row hg fun x e => (hr x e).2, row_kept h.res hg fun x e => (hr x e).2, row_kept h.box hg fun x e => (hr x e).2, h.bel.grown hg h.bel.size fun k e => by have := (hr k e).1; omega⟩
theorem byt_put {W : World} {b : Nat} {q : R4} (h : RowAt W b q) : ∀ i, i < 4 → RowAt (W.setCell ⟨b, i, none⟩ (.int .u8 ((byt q i + 1) % 256))) b (bump q i) := fun i hi => by
  have := Rw.heap_setCell_same (j := i) h (.int .u8 ((byt q i + 1) % 256))
  rw [← wrap8] at this ⊢
  rcases (by omega : i = 0 ∨ i = 1 ∨ i = 2 ∨ i = 3) with rfl | rfl | rfl | rfl <;> exact this
theorem row_setOther {W : World} {b g i : Nat} {v : Value} {cs : Array Value} {t : TypeId} (h : W.heap[g]? = some (.cells cs t (0, 0))) (hne : g ≠ b) : (W.setCell ⟨b, i, none⟩ v).heap[g]? = some (.cells cs t (0, 0)) := (Below.heap_setCell W ⟨b, i, none⟩ v g hne).trans h
theorem Mid.step {w : World} {r q : R4} {W : World} (h : Mid w r q W) {i : Nat} (hi : i < 4) : Mid w r (bump q i) (W.setCell ⟨w.heap.size, i, none⟩ (.int .u8 ((byt q i + 1) % 256))) :=
  ⟨byt_put h.row i hi, row_setOther h.res (by omega), row_setOther h.box (by omega), h.bel.setCell (p := ⟨w.heap.size, i, none⟩) (Nat.le_refl _) _⟩
theorem byt_bump (q : R4) (i : Nat) (hi : i < 4) : byt (bump q i) i = (byt q i + 1) % 256 := by
  rw [← wrap8]
  rcases (by omega : i = 0 ∨ i = 1 ∨ i = 2 ∨ i = 3) with rfl | rfl | rfl | rfl <;> rfl
theorem res_put {W : World} {b : Nat} {q : R4} (h : RowAt W b z4) : RowAt ((((W.setCell ⟨b, 0, none⟩ (.int .u8 (byt q 0))).setCell ⟨b, 1, none⟩ (.int .u8 (byt q 1))).setCell ⟨b, 2, none⟩ (.int .u8 (byt q 2))).setCell ⟨b, 3, none⟩ (.int .u8 (byt q 3))) b q :=
  Rw.heap_setCell_same (Rw.heap_setCell_same (Rw.heap_setCell_same (Rw.heap_setCell_same h _) _) _) _
theorem oth_put {W : World} {b g : Nat} {q : R4} {o : Obj} (h : W.heap[g]? = some o) (hne : g ≠ b) : ((((W.setCell ⟨b, 0, none⟩ (.int .u8 (byt q 0))).setCell ⟨b, 1, none⟩ (.int .u8 (byt q 1))).setCell ⟨b, 2, none⟩ (.int .u8 (byt q 2))).setCell ⟨b, 3, none⟩ (.int .u8 (byt q 3))).heap[g]? = some o :=
  (Below.heap_setCell _ _ _ _ hne).trans ((Below.heap_setCell _ _ _ _ hne).trans ((Below.heap_setCell _ _ _ _ hne).trans ((Below.heap_setCell _ _ _ _ hne).trans h)))
theorem bel_put {w W : World} {b : Nat} {q : R4} (h : Below w.heap.size w W) (hb : w.heap.size ≤ b) : Below w.heap.size w ((((W.setCell ⟨b, 0, none⟩ (.int .u8 (byt q 0))).setCell ⟨b, 1, none⟩ (.int .u8 (byt q 1))).setCell ⟨b, 2, none⟩ (.int .u8 (byt q 2))).setCell ⟨b, 3, none⟩ (.int .u8 (byt q 3))) :=
  (((h.setCell (p := ⟨b, 0, none⟩) hb _).setCell (p := ⟨b, 1, none⟩) hb _).setCell (p := ⟨b, 2, none⟩) hb _).setCell (p := ⟨b, 3, none⟩) hb _

set_option maxRecDepth 100000 in
set_option maxHeartbeats 2000000 in
theorem one_in (F : Fence) (n : Nat) (h1 : F.fn 49) (h2 : F.fn 59) (h3 : F.fn 73) (hro : F.round = none) (hn : 3 ≤ n) (w : World) (r : R4) (hr : okR r) :
    CallsIn F n Tryd.prog 49 #[rec4 r] w fun e W' => e = .returned (rec4 (inc r)) ∧ Below w.heap.size w W' := by
  have hn1 : 1 ≤ n := by omega
  unfold rec4
  refine callsIn_of_wp_marks Tryd.func49 rfl h1 ?_ hro
  simp only [Tryd.ntmps49, List.size_toArray, List.length_cons, List.length_nil, Nat.reduceAdd, Nat.reduceSub, Array.replicate_succ, Array.replicate_zero, List.push_toArray, List.append_toArray, List.nil_append, List.cons_append]
  gi_wp2_with (gi_at_call 59; refine (back_in F (n - 1) h2 hro _ _ _ _).mono ?_; rintro e w' ⟨rfl, rfl⟩)
  obtain ⟨W0, hW0⟩ : ∃ W0, ((w.alloc (.cells #[.int .u8 r.1, .int .u8 r.2.1, .int .u8 r.2.2.1, .int .u8 r.2.2.2] 32)).alloc (.cells #[.int .u8 0, .int .u8 0, .int .u8 0, .int .u8 0] 32)).alloc (.cells #[.slice (some ⟨w.heap.size, 0, none⟩) 4 4] 130) = W0 := ⟨_, rfl⟩
  have M0 : Mid w r r W0 := by
    have z1 : ∀ o, (w.alloc o).heap.size = w.heap.size + 1 := fun o => by simp
    have z2 : ∀ o o', ((w.alloc o).alloc o').heap.size = w.heap.size + 2 := fun o o' => by simp
    subst hW0
    refine ⟨?_, ?_, ?_, (((Below.refl w.heap.size w).alloc (Nat.le_refl _) _).alloc (by simp) _).alloc (by simp; omega) _⟩
    · exact (Below.heap_alloc _ _ _ (by rw [z2]; omega)).trans ((Below.heap_alloc _ _ _ (by rw [z1]; omega)).trans (heap_alloc_new w _))
    · have := heap_alloc_new (w.alloc (.cells #[.int .u8 r.1, .int .u8 r.2.1, .int .u8 r.2.2.1, .int .u8 r.2.2.2] 32)) (.cells #[.int .u8 0, .int .u8 0, .int .u8 0, .int .u8 0] 32)
      rw [z1] at this
      exact (Below.heap_alloc _ _ _ (by rw [z2]; omega)).trans this
    · have := heap_alloc_new ((w.alloc (.cells #[.int .u8 r.1, .int .u8 r.2.1, .int .u8 r.2.2.1, .int .u8 r.2.2.2] 32)).alloc (.cells #[.int .u8 0, .int .u8 0, .int .u8 0, .int .u8 0] 32)) (.cells #[.slice (some ⟨w.heap.size, 0, none⟩) 4 4] 130)
      rw [z2] at this
      exact this
  have hsz : W0.heap.size = w.heap.size + 3 := by rw [← hW0]; simp
  rw [hW0]
  refine wpIn_rangeFunc_ownG hro hn1 (gf := 73) (lb := #[.pointer (some ⟨w.heap.size + 2, 0, none⟩)]) rfl h3 (enters_of Tryd.func73 (by kernel_rfl) rfl)
    (back_stops F (n - 1) h3 hro (by omega) (w.heap.size + 2) w.heap.size W0 M0.box ⟨_, M0.row⟩) (fun h k => Kp.trans h k) (Kp.put (by omega) (by omega)) (Below.refl _ _) (fun _ => rfl)
    (fun pre W => zs r (ixs pre) ∧ Mid w r (over r (ixs pre)) W)
    (fun c pre W => c = .exit 0 ∧ ∃ ini i, ixs pre = ini ++ [i] ∧ zs r ini ∧ byt (over r (ini ++ [i])) i ≠ 0 ∧ Mid w r (over r (ini ++ [i])) W)
    (fun s A B row hs hg hr => ⟨hs.1, hs.2.own hg (by rw [← hsz]; exact hr)⟩)
    (fun c s A B row hs hg hr => by obtain ⟨h1, ini, i, e1, e2, e3, e4⟩ := hs; exact ⟨h1, ini, i, e1, e2, e3, e4.own hg (by rw [← hsz]; exact hr)⟩)
    ⟨trivial, M0⟩
    (fun x => { tmps := #[.agg #[.int .u8 r.1, .int .u8 r.2.1, .int .u8 r.2.2.1, .int .u8 r.2.2.2], .pointer (some ⟨w.heap.size, 0, none⟩), .pointer (some ⟨w.heap.size + 1, 0, none⟩), .int .i64 (x.1.val : Int), .slice (some ⟨w.heap.size, 0, none⟩) 4 4, .func (.func 73) #[] #[.pointer (some ⟨w.heap.size + 2, 0, none⟩)], .int .i64 (x.1.val : Int), .int .u8 x.2, undef, undef, undef, undef, undef, undef, undef, undef, undef, undef], defers := [] }) ?assign ?body ?done ?stop
  case assign =>
    intro l x W K hK
    gi_wp2
    exact hK
  case body =>
    rintro l pre ⟨⟨i, hi⟩, v⟩ W ⟨hz, M⟩ _
    have hc := row_cellN M.row hi
    have hf := row_frozen M.row i
    have MS := Lib.hid (M.step hi)
    have ei : ixs (pre ++ [((⟨i, hi⟩, v) : Rnd)]) = ixs pre ++ [i] := by simp [ixs]
    have e1 := over_snoc r (ixs pre) i
    have e2 := byt_bump (over r (ixs pre)) i hi
    have hne := Lib.hid (And.intro ei (And.intro e1 e2))
    have HZ := Lib.hid (And.intro hz (zs_snoc (ixs pre) r i hz))
    clear ei e1 e2 hz
    have Y := hi
    rcases (by omega : i = 0 ∨ i = 1 ∨ i = 2 ∨ i = 3) with rfl | rfl | rfl | rfl
    all_goals gi_wp2
    all_goals obtain ⟨ei, e1, e2⟩ := hne.out
    · exact ⟨(KeepsOthers.setCell _ _ _).from _, rfl, _, _, ei, HZ.out.1, by rw [e1, e2]; first | assumption | (rename_i hx; simpa using hx), by rw [e1]; exact MS.out⟩
    · exact ⟨(KeepsOthers.setCell _ _ _).from _, ⟨fun _ => MS.out.box, fun _ => ⟨_, MS.out.row⟩⟩, by rw [ei]; exact HZ.out.2 (by rw [e1, e2]; first | assumption | (rename_i hx; simpa using hx)), by rw [ei, e1]; exact MS.out⟩
    · exact ⟨(KeepsOthers.setCell _ _ _).from _, rfl, _, _, ei, HZ.out.1, by rw [e1, e2]; first | assumption | (rename_i hx; simpa using hx), by rw [e1]; exact MS.out⟩
    · exact ⟨(KeepsOthers.setCell _ _ _).from _, ⟨fun _ => MS.out.box, fun _ => ⟨_, MS.out.row⟩⟩, by rw [ei]; exact HZ.out.2 (by rw [e1, e2]; first | assumption | (rename_i hx; simpa using hx)), by rw [ei, e1]; exact MS.out⟩
    · exact ⟨(KeepsOthers.setCell _ _ _).from _, rfl, _, _, ei, HZ.out.1, by rw [e1, e2]; first | assumption | (rename_i hx; simpa using hx), by rw [e1]; exact MS.out⟩
    · exact ⟨(KeepsOthers.setCell _ _ _).from _, ⟨fun _ => MS.out.box, fun _ => ⟨_, MS.out.row⟩⟩, by rw [ei]; exact HZ.out.2 (by rw [e1, e2]; first | assumption | (rename_i hx; simpa using hx)), by rw [ei, e1]; exact MS.out⟩
    · exact ⟨(KeepsOthers.setCell _ _ _).from _, rfl, _, _, ei, HZ.out.1, by rw [e1, e2]; first | assumption | (rename_i hx; simpa using hx), by rw [e1]; exact MS.out⟩
    · exact ⟨(KeepsOthers.setCell _ _ _).from _, ⟨fun _ => MS.out.box, fun _ => ⟨_, MS.out.row⟩⟩, by rw [ei]; exact HZ.out.2 (by rw [e1, e2]; first | assumption | (rename_i hx; simpa using hx)), by rw [ei, e1]; exact MS.out⟩
  case done =>
    rintro D ys W hD hys ⟨hz, M⟩ hK
    rw [hys] at hz M
    rw [over_all hr hz] at M
    have hc0 := row_cellN M.row (m := 0) (by omega)
    have hc1 := row_cellN M.row (m := 1) (by omega)
    have hc2 := row_cellN M.row (m := 2) (by omega)
    have hc3 := row_cellN M.row (m := 3) (by omega)
    have d0 := row_cellN M.res (m := 0) (by omega)
    have d1 := row_cellN M.res (m := 1) (by omega)
    have d2 := row_cellN M.res (m := 2) (by omega)
    have d3 := row_cellN M.res (m := 3) (by omega)
    have f0 := row_frozen M.res 0
    have f1 := row_frozen M.res 1
    have f2 := row_frozen M.res 2
    have f3 := row_frozen M.res 3
    gi_wp2
    have hK' := oth_put (b := w.heap.size + 1) (q := inc r) hK (by omega)
    have RR := res_put (q := inc r) M.res
    refine ⟨by simp, .inl ⟨_, _, rfl, run_takeDeferred hK', ?_⟩⟩
    refine ⟨_, results_cell_row (p := 2) rfl _ _ (w.heap.size + 1) 32 (arr (inc r)) (0, 0) _ rfl ((World.putObj_heap_other (by omega)).trans RR) Tryd.underlying32 rfl (by show _ = some 4; kernel_rfl), rfl, ?_⟩
    exact (bel_put M.bel (by omega)).trans ((belowK_b (w := w) (Nat.le_refl _) _ D _ _ (by omega) hK' rfl rfl))
  case stop =>
    rintro D c pre W hD ⟨k, hk, e⟩ ⟨rfl, ini, i, e1, e2, e3, M⟩ hK
    rw [over_stop hr hk (e1.symm.trans e) e2 e3] at M
    have hc0 := row_cellN M.row (m := 0) (by omega)
    have hc1 := row_cellN M.row (m := 1) (by omega)
    have hc2 := row_cellN M.row (m := 2) (by omega)
    have hc3 := row_cellN M.row (m := 3) (by omega)
    have d0 := row_cellN M.res (m := 0) (by omega)
    have d1 := row_cellN M.res (m := 1) (by omega)
    have d2 := row_cellN M.res (m := 2) (by omega)
    have d3 := row_cellN M.res (m := 3) (by omega)
    have f0 := row_frozen M.res 0
    have f1 := row_frozen M.res 1
    have f2 := row_frozen M.res 2
    have f3 := row_frozen M.res 3
    gi_wp2
    have hK' := oth_put (b := w.heap.size + 1) (q := inc r) hK (by omega)
    have RR := res_put (q := inc r) M.res
    refine ⟨by simp, .inl ⟨_, _, rfl, run_takeDeferred hK', ?_⟩⟩
    refine ⟨_, results_cell_row (p := 2) rfl _ _ (w.heap.size + 1) 32 (arr (inc r)) (0, 0) _ rfl ((World.putObj_heap_other (by omega)).trans RR) Tryd.underlying32 rfl (by show _ = some 4; kernel_rfl), rfl, ?_⟩
    exact (bel_put M.bel (by omega)).trans ((belowK_b (w := w) (Nat.le_refl _) _ D _ _ (by omega) hK' rfl rfl))

theorem one_any (w : World) (r : R4) (hr : okR r) : Calls Tryd.prog 49 #[rec4 r] w fun e w' => e = .returned (rec4 (inc r)) ∧ Below w.heap.size w w' :=
  (callsIn_wide (n := 3)).1 (one_in Fence.wide 3 trivial trivial trivial rfl (Nat.le_refl _) w r hr)

end Go.Proofs.YtoeemngekioldaaDoor.Fl
