/- IfsNobody, walked. -/
import Derived.Test.YtoeemngekioldaaDoorFsAwake
import Derived.Test.YtoeemngekioldaaDoorFlFew
namespace Go.Proofs.YtoeemngekioldaaDoor.Fs
open Go.RowKit Go.Maps
open Go.Proofs.YtoeemngekioldaaDoor.Fl (R4 z4 K4 rec4 rat goodF goodFB okR okL file arr4 row_cell row_frozen)
open Go.Proofs.YtoeemngekioldaaDoor.Rw (Rd Ow At)
set_option maxRecDepth 100000

/-- A deed: what is done, to what, with which record, and which file. -/
structure De where
  k : Int
  o : Int
  f : Int
  r : Int
  x : R4
  p : Int
  a : Option Addr
  cap : Nat
  l : List R4
def De.cells (D : De) : List Value := [.int .u8 D.k, .int .i64 D.o, .int .i64 D.f, .int .i64 D.r, .int .u8 D.x.1, .int .u8 D.x.2.1, .int .u8 D.x.2.2.1, .int .u8 D.x.2.2.2, .int .i64 D.p, .slice D.a D.l.length D.cap]
def De.sl (D : De) : Value := .slice D.a D.l.length D.cap
/-- A deed that can be read. -/
structure De.Ok (D : De) (w : World) : Prop where
  kb : 0 ≤ D.k ∧ D.k ≤ 255
  wf : Wf D.f
  x : okR D.x
  rd : Rd K4 w D.sl D.l
  ok : okL D.l

theorem set_nil (w : World) (n r : Int) (x : R4) : Calls Tryd.prog 10 #[.pointer none, .int .i64 n, .int .i64 r, rec4 x] w fun e w' => e = .returned (.bool false) ∧ Below w.heap.size w w' := by
  by_cases h : r = 0
  · subst h
    exact set_zero w _ n x
  · exact set_none w _ n r x h fun W _ => has_nil W n r
theorem copy_nil (w : World) : Calls Tryd.prog 20 #[.pointer none] w fun e w' => e = .returned (.pointer none) ∧ Below w.heap.size w w' := by
  go_enter Tryd.func20, Tryd.ntmps20
  go_wp2
  go_ret
  exact ⟨rfl, Below.refl _ _⟩
theorem few_val (w : World) (p : Int) (a : Option Addr) (q cap : Nat) (l : List R4) (R : Rd K4 w (.slice a q cap) l) : Calls Tryd.prog 8 #[.agg #[.int .i64 p, .slice a q cap]] w fun e w' => e = .returned (.agg #[.int .i64 p, .slice a (min q 260) cap]) ∧ Below w.heap.size w w' :=
  (few_any w p _ l R).mono fun e w' ⟨u, h1, _, _, h4, h5⟩ => by
    obtain rfl := h4 a q cap rfl
    exact ⟨h1, h5⟩

set_option maxHeartbeats 4000000 in
theorem nobody_any (w : World) (hg : Glob w) (D : De) (hD : D.Ok w) : Calls Tryd.prog 5 #[.agg D.cells.toArray] w fun e w' => e = .returned (.bool true) ∧ Below w.heap.size w w' := by
  have RV := Lib.hid hD.rd
  have HG := Lib.hid hg
  clear hD hg
  obtain ⟨k, o, f, r, x, p, a, cap, l⟩ := D
  unfold De.sl De.cells at *
  simp only at *
  generalize l.length = q at *
  have B0 := Lib.hid (below_new w (.cells #[.int .u8 k, .int .i64 o, .int .i64 f, .int .i64 r, .int .u8 x.1, .int .u8 x.2.1, .int .u8 x.2.2.1, .int .u8 x.2.2.2, .int .i64 p, .slice a q cap] 37))
  have G0 := Lib.hid (heap_alloc_new w (.cells #[.int .u8 k, .int .i64 o, .int .i64 f, .int .i64 r, .int .u8 x.1, .int .u8 x.2.1, .int .u8 x.2.2.1, .int .u8 x.2.2.2, .int .i64 p, .slice a q cap] 37))
  go_enter Tryd.func5, Tryd.ntmps5
  go_upto_region 2 with fail
  generalize (w.alloc (.cells #[.int .u8 k, .int .i64 o, .int .i64 f, .int .i64 r, .int .u8 x.1, .int .u8 x.2.1, .int .u8 x.2.2.1, .int .u8 x.2.2.2, .int .i64 p, .slice a q cap] 37)) = W at *
  have c1 : W.cell? ⟨w.heap.size, 1, none⟩ = some (.int .i64 o) := row_cell G0.out 1
  have c2 : W.cell? ⟨w.heap.size, 2, none⟩ = some (.int .i64 f) := row_cell G0.out 2
  have c3 : W.cell? ⟨w.heap.size, 3, none⟩ = some (.int .i64 r) := row_cell G0.out 3
  have c4 : W.cell? ⟨w.heap.size, 4, none⟩ = some (.int .u8 x.1) := row_cell G0.out 4
  have c5 : W.cell? ⟨w.heap.size, 5, none⟩ = some (.int .u8 x.2.1) := row_cell G0.out 5
  have c6 : W.cell? ⟨w.heap.size, 6, none⟩ = some (.int .u8 x.2.2.1) := row_cell G0.out 6
  have c7 : W.cell? ⟨w.heap.size, 7, none⟩ = some (.int .u8 x.2.2.2) := row_cell G0.out 7
  go_wp2_with fail
  clear c1 c2 c3 c4 c5 c6 c7
  have DO := do_nil W o f r x
  unfold Ad.addr rec4 at DO
  refine DO.mono ?_
  rintro e w1 ⟨rfl, b1⟩
  have bb := below_new w1 (.cells #[.int .u8 0, .int .u8 0, .int .u8 0, .int .u8 0] 32)
  have B1 := Lib.hid (B0.out.trans ((b1.trans (bb.mono b1.size)).mono B0.out.size))
  have G1 := Lib.hid (((b1.trans (bb.mono b1.size)).block w.heap.size (lt_of_block G0.out)).trans G0.out)
  clear DO b1 bb B0 G0
  unfold rec4 z4
  go_upto_region 3 with fail
  generalize (w1.alloc (.cells #[.int .u8 0, .int .u8 0, .int .u8 0, .int .u8 0] 32)) = W1 at *
  have c2 : W1.cell? ⟨w.heap.size, 2, none⟩ = some (.int .i64 f) := row_cell G1.out 2
  have c3 : W1.cell? ⟨w.heap.size, 3, none⟩ = some (.int .i64 r) := row_cell G1.out 3
  go_wp2_with fail
  clear c2 c3
  refine (get_nil W1 f r).mono ?_
  rintro e w2 ⟨rfl, b2⟩
  have bb := below_new w2 (.cells #[.int .u8 0, .int .u8 0, .int .u8 0, .int .u8 0] 32)
  have B2 := Lib.hid (B1.out.trans ((b2.trans (bb.mono b2.size)).mono B1.out.size))
  have G2 := Lib.hid (((b2.trans (bb.mono b2.size)).block w.heap.size (lt_of_block G1.out)).trans G1.out)
  clear b2 bb B1 G1
  unfold rec4 z4
  go_upto_region 4 with fail
  generalize (w2.alloc (.cells #[.int .u8 0, .int .u8 0, .int .u8 0, .int .u8 0] 32)) = W2 at *
  have s2 := Qb.cell_by (show W2.cell? ⟨w.heap.size, 2, none⟩ = some (.int .i64 f) from row_cell G2.out 2)
  have s3 := Qb.cell_by (show W2.cell? ⟨w.heap.size, 3, none⟩ = some (.int .i64 r) from row_cell G2.out 3)
  have s4 := Qb.cell_by (show W2.cell? ⟨w.heap.size, 4, none⟩ = some (.int .u8 x.1) from row_cell G2.out 4)
  have s5 := Qb.cell_by (show W2.cell? ⟨w.heap.size, 5, none⟩ = some (.int .u8 x.2.1) from row_cell G2.out 5)
  have s6 := Qb.cell_by (show W2.cell? ⟨w.heap.size, 6, none⟩ = some (.int .u8 x.2.2.1) from row_cell G2.out 6)
  have s7 := Qb.cell_by (show W2.cell? ⟨w.heap.size, 7, none⟩ = some (.int .u8 x.2.2.2) from row_cell G2.out 7)
  have s8 := Qb.cell_by (show W2.cell? ⟨w.heap.size, 8, none⟩ = some (.int .i64 p) from row_cell G2.out 8)
  have s9 := Qb.cell_by (show W2.cell? ⟨w.heap.size, 9, none⟩ = some (.slice a q cap) from row_cell G2.out 9)
  have AW := Lib.hid (fun (P : Qb.By W2) => awake_any P.world ((HG.out.below B2.out).below P.below))
  have FE := Lib.hid (fun (P : Qb.By W2) => few_val P.world p a q cap l ((RV.out.below B2.out).below P.below))
  have SN := Lib.hid (fun W => set_nil W f r x)
  unfold rec4 at SN
  refine Qb.wp_region_by (by kernel_rfl) (by kernel_rfl) ?_
  repeat (quiet_step ((first
    | (go_at_call 17; exact Qb.of_below (AW.out _))
    | (go_at_call 8; exact Qb.of_below (FE.out _))
    | (go_at_call 7; exact Qb.of_below (add_nil _ _ _ _ _ _))
    | (go_at_call 10; exact Qb.of_below (SN.out _))
    | (go_at_call 16; exact Qb.of_below (denied_nil _))
    | (go_at_call 19; exact Qb.of_below (files_nil _))
    | (go_at_call 20; exact Qb.of_below (copy_nil _)))))
  refine wpQuiet_nil ?_
  intro _ hw'
  obtain ⟨pp, rfl⟩ := hw'
  go_wp2
  go_ret
  exact ⟨rfl, B2.out.trans (pp.below.mono B2.out.size)⟩

end Go.Proofs.YtoeemngekioldaaDoor.Fs
