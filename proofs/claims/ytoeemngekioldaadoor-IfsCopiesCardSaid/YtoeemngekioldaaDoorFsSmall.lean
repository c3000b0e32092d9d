/- ifs: copied, New, Denied, has, Get, by their contracts. -/
import Derived.Test.YtoeemngekioldaaDoorFsMem
import Derived.LoopTactic
import Derived.Outline
import Derived.Maps.OwnOps
namespace Go.Proofs.YtoeemngekioldaaDoor.Fs
open Go.RowKit Go.Maps
open Go.Proofs.YtoeemngekioldaaDoor.Fl (R4 z4 K4 rec4 rat goodF goodFB okR okL doE newR file arr4 sto2 sto4 sto2_row sto2_other sto2_below sto2_size sto2_off sto4_row sto4_other sto4_below sto4_size row_cell row_frozen clone_any own_form ret_bool at4)
open Go.Proofs.YtoeemngekioldaaDoor.Rw (Rd Ow At)
set_option maxRecDepth 100000

/-- What hands back a record and one thing more. -/
theorem results_rec {fn : Func} {p r : Tmp} (h : fn.results = #[.cell p 32, .tmp r]) (tmps : Array Value) (w : World) (g : Nat) (y : R4) (v : Value)
    (hp : tmps.getD p undef = .pointer (some ⟨g, 0, none⟩)) (hr : tmps.getD r undef = v) (h1 : w.heap[g]? = some (.cells (arr4 y) 32 (0, 0))) :
    (results fn tmps).run Tryd.prog w = .ok (.tuple #[rec4 y, v]) w := by
  have e2 := run_loadVar_row (P := Tryd.prog) w g 32 32 (arr4 y) (0, 0) _ h1 Tryd.underlying32 rfl (by show _ = some 4; kernel_rfl)
  have hp' : tmps[p]?.getD undef = .pointer (some ⟨g, 0, none⟩) := by simpa using hp
  have hr' : tmps[r]?.getD undef = v := by simpa using hr
  simp only [results, h]
  simp [Result.andThen, hp', hr', asAddr, e2, rec4, arr4]

/-! ### looking into a store's map -/
section
variable {ops : Array Oper} {rest : List Oper} {o : Oper} {a : Act} {Q : Exit → Act → World → Prop} {w : World} {F : Nat → Prop} {m : Value} {C : List Ent}
theorem at_look0 (hgd : Region.wanted o (yielded ops a.tmps) = true) (p x : Operand) (hop : o.op = .lookup 59 p x false) (M : Mp w F m C) (hm : a.eval p = m) (n : Int) (hx : a.eval x = .int .i64 n) (hn : Wf n) (v : Value) (hv : lv C n = v)
    (h : wpList Tryd.prog ops Q rest (a.put o.dst v) w) : wpList Tryd.prog ops Q (o :: rest) a w := at_look hgd p x false hop hm M n hx hn (by rw [hv]; exact h)
theorem at_look1 (hgd : Region.wanted o (yielded ops a.tmps) = true) (p x : Operand) (hop : o.op = .lookup 59 p x true) (M : Mp w F m C) (hm : a.eval p = m) (n : Int) (hx : a.eval x = .int .i64 n) (hn : Wf n) (v : Value) (hv : lv C n = v) (b : Bool) (hb : lb C n = b)
    (h : wpList Tryd.prog ops Q rest (a.put o.dst (.tuple #[v, .bool b])) w) : wpList Tryd.prog ops Q (o :: rest) a w := at_look hgd p x true hop hm M n hx hn (by rw [hv, hb]; exact h)
end
theorem lv_none {C : List Ent} {n : Int} (h : look Ent.n n C = none) : lv C n = .agg #[.int .i64 0, .slice none 0 0] := by unfold lv; rw [h]; rfl
theorem lv_some {C : List Ent} {n : Int} {c : Ent} (h : look Ent.n n C = some c) : lv C n = .agg #[.int .i64 c.p, .slice c.a c.l.length c.cap] := by unfold lv; rw [h]; rfl
theorem lb_none {C : List Ent} {n : Int} (h : look Ent.n n C = none) : lb C n = false := by unfold lb; rw [h]; rfl
theorem lb_some {C : List Ent} {n : Int} {c : Ent} (h : look Ent.n n C = some c) : lb C n = true := by unfold lb; rw [h]; rfl

theorem run_fieldF (p : Int) (a : Option Addr) (n cap : Nat) (w : World) : (Instr.field 35 (.agg #[.int .i64 p, .slice a n cap]) 1).run Tryd.prog w = .ok (.slice a n cap) w := by kernel_rfl

/-! ### copied -/
def CopyPost (w : World) (p : Int) (l : List R4) (e : Ending) (w' : World) : Prop := ∃ u, e = .returned (file p u) ∧ Ow K4 w' w.heap.size 32 u l ∧ Below w.heap.size w w'
theorem two_files (w : World) (p : Int) (v : Value) (q : Int) (u : Value) : ((w.alloc (.cells #[.int .i64 p, v] 35)).alloc (.cells #[.int .i64 q, u] 35)).heap[w.heap.size]? = some (.cells #[.int .i64 p, v] 35 (0, 0)) ∧ ((w.alloc (.cells #[.int .i64 p, v] 35)).alloc (.cells #[.int .i64 q, u] 35)).heap[w.heap.size + 1]? = some (.cells #[.int .i64 q, u] 35 (0, 0)) ∧ Below w.heap.size w ((w.alloc (.cells #[.int .i64 p, v] 35)).alloc (.cells #[.int .i64 q, u] 35)) ∧ ((w.alloc (.cells #[.int .i64 p, v] 35)).alloc (.cells #[.int .i64 q, u] 35)).heap.size = w.heap.size + 2 := by
  refine ⟨(Below.heap_alloc _ _ _ (by simp)).trans (heap_alloc_new w _), ?_, ((Below.refl w.heap.size w).alloc (Nat.le_refl _) _).alloc (by simp) _, by simp⟩
  have := heap_alloc_new (w.alloc (.cells #[.int .i64 p, v] 35)) (.cells #[.int .i64 q, u] 35)
  simpa using this
def Bx (g : Nat) (p : Int) (v : Value) (W : World) : Prop := W.heap[g]? = some (.cells #[.int .i64 p, v] 35 (0, 0))
set_option maxHeartbeats 1000000 in
theorem copied_any (w : World) (p : Int) (v : Value) (l : List R4) (R : Rd K4 w v l) (hl : l.length ≤ 260) : Calls Tryd.prog 23 #[file p v] w (CopyPost w p l) := by
  obtain ⟨h1, h2, hB, hz⟩ := two_files w p v 0 (.slice none 0 0)
  have H1 := Lib.hid h1
  have H2 := Lib.hid h2
  have HB := Lib.hid hB
  have HZ := Lib.hid hz
  have RR := Lib.hid R
  have HL := Lib.hid hl
  obtain ⟨a, cap, rfl, _⟩ := R.slice
  clear h1 h2 hB hz R hl
  generalize hn : l.length = n at *
  have HN := Lib.hid hn
  clear hn
  unfold file at *
  go_enter Tryd.func23, Tryd.ntmps23
  go_wp2_with fail
  generalize ((w.alloc (.cells #[.int .i64 p, .slice a n cap] 35)).alloc (.cells #[.int .i64 0, .slice none 0 0] 35)) = W at *
  have r0 := Sc.cell_in (C := Bx w.heap.size p (.slice a n cap)) (a := ⟨w.heap.size, 0, none⟩) (fun W' h => row_cell h 0)
  have r1 := Sc.cell_in (C := Bx w.heap.size p (.slice a n cap)) (a := ⟨w.heap.size, 1, none⟩) (fun W' h => row_cell h 1)
  have C0 : Bx w.heap.size p (.slice a n cap) W.drew := H1.out
  have ne : Nonempty (Sc.In (Bx w.heap.size p (.slice a n cap))) := ⟨⟨_, C0⟩⟩
  refine Sc.start (Bx w.heap.size p (.slice a n cap)) [(false, 0), (false, 1), (false, 2), (false, 3), (true, 4), (false, 5), (true, 6)] (by kernel_rfl) (by kernel_rfl) (by kernel_rfl) C0 ?_
  dsimp only [Sd.picks, List.getElem?_cons_succ, List.getElem?_cons_zero]
  repeat (refine Sd.lit ?_; quiet_step (fail); refine wpQuiet_nil ?_)
  refine Sd.call (by rfl) (fun K hK => ?_)
  go_simp
  have B0 := Lib.hid (HB.out.trans (((Below.refl W.heap.size W).drew).mono HB.out.size))
  refine (clone_any _ _ l (RR.out.below B0.out) (by rw [HN.out]; exact HL.out)).mono ?_
  rintro e w2 ⟨u, rfl, o2, b2⟩
  have hzz := HZ.out
  have O2 := Lib.hid o2
  have B2 := Lib.hid (B0.out.trans (b2.mono (by show w.heap.size ≤ W.heap.size; omega)))
  have G1 : w2.heap[w.heap.size]? = _ := (b2.block _ (by show w.heap.size < W.heap.size; omega)).trans C0
  have G2 := (b2.block (w.heap.size + 1) (by show w.heap.size + 1 < W.heap.size; omega)).trans H2.out
  have N2 : u.ownBlock ≠ some (w.heap.size + 1) := o2.range (.inl (by show _ < W.heap.size; omega))
  have hWz : w.heap.size + 2 ≤ W.drew.heap.size := by show _ ≤ W.heap.size; omega
  obtain ⟨au, cu, rfl, _⟩ := o2.slice
  refine hK _ _ (Sc.Cl.of G1) ?_
  clear hK K b2 o2 B0 C0 HB H1 H2 r0 r1 RR
  repeat (refine Sd.lit ?_; quiet_step (fail); refine wpQuiet_nil ?_)
  refine Sd.call (by rfl) (fun K hK => ?_)
  have c0 : w2.cell? ⟨w.heap.size + 1, 0, none⟩ = some (.int .i64 0) := row_cell G2 0
  have c1 : w2.cell? ⟨w.heap.size + 1, 1, none⟩ = some (.slice none 0 0) := row_cell G2 1
  have f0 := row_frozen G2 0
  have f1 := row_frozen G2 1
  have RA := Lib.hid (sto2_row G2 p (.slice au l.length cu))
  have OA := Lib.hid (sto2_off (u := .slice au l.length cu) O2.out N2 p)
  have BA := Lib.hid (sto2_below (p := p) (v := .slice au l.length cu) B2.out (show w.heap.size ≤ w.heap.size + 1 by omega))
  have L1 : Bx w.heap.size p (.slice a n cap) (sto2 w2 (w.heap.size + 1) p (.slice au l.length cu)) := sto2_other G1 (by omega)
  have hWy := Lib.hid hWz
  clear G1 G2 O2 B2 N2 hWz hzz HZ
  go_simp
  refine hK _ _ (Sc.Cl.of L1) ?_
  clear hK K c0 c1 f0 f1
  show Sd.wpSd _ _ _ _ _ _ (sto2 w2 (w.heap.size + 1) p (.slice au l.length cu))
  generalize sto2 w2 (w.heap.size + 1) p (.slice au l.length cu) = w3 at *
  refine Sd.done ?_
  go_wp2
  (try simp only [Exit.inBlock, Exit.then])
  refine bodyPost_ret (v := file p (.slice au l.length cu)) ?_ rfl ⟨_, rfl, OA.out.low (by have := hWy.out; omega), BA.out⟩
  exact results_cell_row (p := 2) rfl _ _ (w.heap.size + 1) 35 _ (0, 0) _ rfl RA.out Tryd.underlying35 rfl (by show _ = some 2; kernel_rfl)

/-! ### New, Denied -/
theorem new_any (w : World) : Calls Tryd.prog 6 #[] w fun e w' => e = .returned (.pointer (some ⟨w.heap.size, 0, none⟩)) ∧ w' = w.alloc (.cells #[.map none, .int .i64 0] 61) := by
  go_enter Tryd.func6, Tryd.ntmps6
  go_wp2
  go_ret
  exact ⟨rfl, rfl⟩
theorem denied_any {w : World} {s : Nat} {F : Nat → Prop} {m : Value} {C : List Ent} {d : Int} (S : Sto w s F m C d) :
    Calls Tryd.prog 16 #[.pointer (some ⟨s, 0, none⟩)] w fun e w' => e = .returned (.int .i64 d) ∧ Below w.heap.size w w' := by
  have c1 : w.cell? ⟨s, 1, none⟩ = some (.int .i64 d) := row_cell S.row 1
  clear S
  go_enter Tryd.func16, Tryd.ntmps16
  go_wp2
  go_ret
  exact ⟨rfl, Below.refl _ _⟩
theorem denied_nil (w : World) : Calls Tryd.prog 16 #[.pointer none] w fun e w' => e = .returned (.int .i64 0) ∧ Below w.heap.size w w' := by
  go_enter Tryd.func16, Tryd.ntmps16
  go_wp2
  go_ret
  exact ⟨rfl, Below.refl _ _⟩

end Go.Proofs.YtoeemngekioldaaDoor.Fs
