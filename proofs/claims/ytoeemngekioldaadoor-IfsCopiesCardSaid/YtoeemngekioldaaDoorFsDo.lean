/- ifs: Do, by its contract. -/
import Derived.Test.YtoeemngekioldaaDoorFsAskY
import Derived.Test.YtoeemngekioldaaDoorAdCode
import Derived.Deep.Cut
namespace Go.Proofs.YtoeemngekioldaaDoor.Fs
open Go.RowKit Go.Maps
open Go.Proofs.YtoeemngekioldaaDoor.Fl (R4 z4 K4 rec4 rat goodF goodFB okR okL doE newR file arr4 sto2 sto4 sto4_row sto4_other sto4_below sto4_size row_cell row_frozen)
open Go.Proofs.YtoeemngekioldaaDoor.Ad (goodB)
open Go.Proofs.YtoeemngekioldaaDoor.Rw (Rd Ow At)
set_option maxRecDepth 100000

theorem ask_any {w : World} {s : Nat} {F : Nat → Prop} {m : Value} {C : List Ent} {d : Int} (S : Sto w s F m C d) (o f r : Int) (x : R4) (hx : okR x) (hn : goodB o f r = true) :
    (∃ k, k ≠ 0 ∧ dE (C.map Ent.abs) o f r = k ∧ Calls Tryd.prog 27 #[.pointer (some ⟨s, 0, none⟩), Ad.addr o f r, rec4 x] w (AskNo w f k)) ∨
    (dE (C.map Ent.abs) o f r = 0 ∧ Calls Tryd.prog 27 #[.pointer (some ⟨s, 0, none⟩), Ad.addr o f r, rec4 x] w (AskYes w s F d (dV (C.map Ent.abs) o f r x) (dA (C.map Ent.abs) o f r x))) := by
  have hg : Ad.good o f r := of_decide_eq_true hn
  have wf : Wf f := WalkArith.wf_i64 (by unfold Ad.good at hg; omega)
  cases hk : look Ent.n f C with
  | none => exact .inl ⟨3, by decide, by unfold dE; rw [if_pos hn, look_abs, hk]; rfl, ask_none S o f r x wf hk⟩
  | some c =>
    have e : dE (C.map Ent.abs) o f r = doE c.p c.l o r := by unfold dE; rw [if_pos hn, look_abs, hk]; rfl
    by_cases h0 : doE c.p c.l o r = 0
    · refine .inr ⟨e.trans h0, ?_⟩
      have e1 : dV (C.map Ent.abs) o f r x = newR c.l o r x := by
        unfold dV
        rw [e, h0, look_abs, hk]
        rfl
      have e2 : dA (C.map Ent.abs) o f r x = put key (f, c.p, c.l.set r.toNat (newR c.l o r x)) (C.map Ent.abs) := by
        unfold dA
        rw [e, h0, look_abs, hk]
        rfl
      rw [e1, e2]
      rcases S.mp with ⟨_, rfl⟩ | ⟨b, rfl, _, _⟩
      · cases hk
      · exact ask_ok S o f r x hx wf hk h0
    · exact .inl ⟨_, h0, e, ask_err S o f r _ x wf hk rfl h0⟩

/-- One more was not let. -/
theorem Sto.count {w : World} {s : Nat} {F : Nat → Prop} {m : Value} {C : List Ent} {d : Int} (h : Sto w s F m C d) (d' : Int) : Sto (w.setCell ⟨s, 1, none⟩ (.int .i64 d')) s F m C d' ∧ Only F w (w.setCell ⟨s, 1, none⟩ (.int .i64 d')) := by
  have O : Only (fun k => k = s) w (w.setCell ⟨s, 1, none⟩ (.int .i64 d')) := Only.set (fun k => k = s) w (a := ⟨s, 1, none⟩) rfl _
  refine ⟨⟨?_, h.foot, h.mp.kept fun b hb => ?_, fun c hc => ow_only (G := fun k => k = s) (h.own c hc) (fun k hk e => (h.off hc).1 (e ▸ hk)) O, h.mine, h.apart, h.ok, fun k hk => Nat.lt_of_lt_of_le (h.low k hk) O.size⟩, O.mono fun k _ e => e ▸ h.foot⟩
  · have := Rw.heap_setCell_same (j := 1) h.row (.int .i64 d')
    rw [this]
    simp
  · subst hb
    exact Below.heap_setCell w _ _ b h.map_ne
def DoSPost (w : World) (s : Nat) (F : Nat → Prop) (d : Int) (y : R4) (k : Int) (A' : Abs) (e : Ending) (w' : World) : Prop := e = .returned (.tuple #[rec4 y, .int .i64 k]) ∧ St w' s (Fx F w w') A' d ∧ Only F w w'
theorem o_sto4 (W : World) (g : Nat) (y : R4) : Only (fun k => k = g) W (sto4 W g 0 y) := by
  have O1 : ∀ W : World, ∀ o v, Only (fun k => k = g) W (W.setCell ⟨g, o, none⟩ v) := fun W o v => Only.set (fun k => k = g) W (a := ⟨g, o, none⟩) rfl v
  exact (((O1 _ _ _).trans (O1 _ _ _) fun _ _ g => g).trans (O1 _ _ _) fun _ _ g => g).trans (O1 _ _ _) fun _ _ g => g

def DoNo (w : World) (k : Int) (e : Ending) (w' : World) : Prop := e = .returned (.tuple #[rec4 z4, .int .i64 k]) ∧ Below w.heap.size w w'
set_option maxHeartbeats 1000000 in
theorem do_nil (w : World) (o f r : Int) (x : R4) : Calls Tryd.prog 12 #[.pointer none, Ad.addr o f r, rec4 x] w (DoNo w 1) := by
  have A0 := ask0_of w o f r x
  have S0 : Hid (Ask0 w o f r x (((w.alloc (.cells #[.int .i64 o, .int .i64 f, .int .i64 r] 30)).alloc (.cells #[.int .u8 x.1, .int .u8 x.2.1, .int .u8 x.2.2.1, .int .u8 x.2.2.2] 32)).alloc (.cells #[.int .u8 0, .int .u8 0, .int .u8 0, .int .u8 0] 32))) := A0
  clear A0
  unfold rec4
  unfold Ad.addr
  go_enter Tryd.func12, Tryd.ntmps12
  go_upto_region 2 with fail
  generalize (((w.alloc (.cells #[.int .i64 o, .int .i64 f, .int .i64 r] 30)).alloc (.cells #[.int .u8 x.1, .int .u8 x.2.1, .int .u8 x.2.2.1, .int .u8 x.2.2.2] 32)).alloc (.cells #[.int .u8 0, .int .u8 0, .int .u8 0, .int .u8 0] 32)) = W at *
  have d0 : W.cell? ⟨w.heap.size + 2, 0, none⟩ = some (.int .u8 0) := row_cell S0.out.res 0
  have d1 : W.cell? ⟨w.heap.size + 2, 1, none⟩ = some (.int .u8 0) := row_cell S0.out.res 1
  have d2 : W.cell? ⟨w.heap.size + 2, 2, none⟩ = some (.int .u8 0) := row_cell S0.out.res 2
  have d3 : W.cell? ⟨w.heap.size + 2, 3, none⟩ = some (.int .u8 0) := row_cell S0.out.res 3
  have k0 := row_frozen S0.out.res 0
  have k1 := row_frozen S0.out.res 1
  have k2 := row_frozen S0.out.res 2
  have k3 := row_frozen S0.out.res 3
  have R3 := Lib.hid (sto4_row S0.out.res z4)
  have B3 := Lib.hid (sto4_below (o := 0) (r := z4) S0.out.bel (show w.heap.size ≤ w.heap.size + 2 by omega))
  clear S0
  go_wp2
  (try simp only [Exit.inBlock, Exit.then])
  exact bodyPost_ret (results_rec (p := 6) (r := 7) rfl _ _ (w.heap.size + 2) z4 (.int .i64 1) rfl rfl R3.out) rfl ⟨rfl, B3.out⟩
set_option maxHeartbeats 1000000 in
theorem do_1 (w : World) (s : Nat) (o f r : Int) (x : R4) (hn : goodB o f r = false) : Calls Tryd.prog 12 #[.pointer (some ⟨s, 0, none⟩), Ad.addr o f r, rec4 x] w (DoNo w 1) := by
  have A0 := ask0_of w o f r x
  have S0 : Hid (Ask0 w o f r x (((w.alloc (.cells #[.int .i64 o, .int .i64 f, .int .i64 r] 30)).alloc (.cells #[.int .u8 x.1, .int .u8 x.2.1, .int .u8 x.2.2.1, .int .u8 x.2.2.2] 32)).alloc (.cells #[.int .u8 0, .int .u8 0, .int .u8 0, .int .u8 0] 32))) := A0
  have GA : ∀ W, Calls Tryd.prog 26 #[Ad.addr o f r] W fun e w' => e = .returned (.bool false) ∧ Below W.heap.size W w' := fun W => by have := Ad.good_any W o f r; rwa [hn] at this
  have HG := Lib.hid GA
  clear A0 GA hn
  unfold rec4
  unfold Ad.addr at *
  go_enter Tryd.func12, Tryd.ntmps12
  have AC := S0.out
  have a0 := row_cell AC.adr 0
  have a1 := row_cell AC.adr 1
  have a2 := row_cell AC.adr 2
  clear AC
  go_wp2_with fail
  generalize (((w.alloc (.cells #[.int .i64 o, .int .i64 f, .int .i64 r] 30)).alloc (.cells #[.int .u8 x.1, .int .u8 x.2.1, .int .u8 x.2.2.1, .int .u8 x.2.2.2] 32)).alloc (.cells #[.int .u8 0, .int .u8 0, .int .u8 0, .int .u8 0] 32)) = W at *
  refine (HG.out _).mono ?_
  rintro e w1 ⟨rfl, b1⟩
  have S2 := Lib.hid (S0.out.mono b1)
  clear b1 HG S0 a0 a1 a2
  have d0 : w1.cell? ⟨w.heap.size + 2, 0, none⟩ = some (.int .u8 0) := row_cell S2.out.res 0
  have d1 : w1.cell? ⟨w.heap.size + 2, 1, none⟩ = some (.int .u8 0) := row_cell S2.out.res 1
  have d2 : w1.cell? ⟨w.heap.size + 2, 2, none⟩ = some (.int .u8 0) := row_cell S2.out.res 2
  have d3 : w1.cell? ⟨w.heap.size + 2, 3, none⟩ = some (.int .u8 0) := row_cell S2.out.res 3
  have k0 := row_frozen S2.out.res 0
  have k1 := row_frozen S2.out.res 1
  have k2 := row_frozen S2.out.res 2
  have k3 := row_frozen S2.out.res 3
  have R3 := Lib.hid (sto4_row S2.out.res z4)
  have B3 := Lib.hid (sto4_below (o := 0) (r := z4) S2.out.bel (show w.heap.size ≤ w.heap.size + 2 by omega))
  clear S2
  go_wp2
  (try simp only [Exit.inBlock, Exit.then])
  exact bodyPost_ret (results_rec (p := 6) (r := 7) rfl _ _ (w.heap.size + 2) z4 (.int .i64 1) rfl rfl R3.out) rfl ⟨rfl, B3.out⟩
set_option maxHeartbeats 2000000 in
theorem do_no (w : World) (s : Nat) (o f r k : Int) (x : R4) (hg : Glob w) (h5 : k ≠ 5) (hn : goodB o f r = true) (ha : ∀ W, Below w.heap.size w W → w.heap.size + 3 ≤ W.heap.size → Calls Tryd.prog 27 #[.pointer (some ⟨s, 0, none⟩), Ad.addr o f r, rec4 x] W (AskNo W f k)) :
    Calls Tryd.prog 12 #[.pointer (some ⟨s, 0, none⟩), Ad.addr o f r, rec4 x] w (DoNo w k) := by
  have A0 := ask0_of w o f r x
  have S0 : Hid (Ask0 w o f r x (((w.alloc (.cells #[.int .i64 o, .int .i64 f, .int .i64 r] 30)).alloc (.cells #[.int .u8 x.1, .int .u8 x.2.1, .int .u8 x.2.2.1, .int .u8 x.2.2.2] 32)).alloc (.cells #[.int .u8 0, .int .u8 0, .int .u8 0, .int .u8 0] 32))) := A0
  have HGL := Lib.hid hg
  have H5 := Lib.hid (decide_eq_false h5)
  clear hg h5
  have GA : ∀ W, Calls Tryd.prog 26 #[Ad.addr o f r] W fun e w' => e = .returned (.bool true) ∧ Below W.heap.size W w' := fun W => by have := Ad.good_any W o f r; rwa [hn] at this
  have HG := Lib.hid GA
  have HA := Lib.hid ha
  clear A0 GA hn ha
  unfold rec4 at *
  unfold Ad.addr at *
  go_enter Tryd.func12, Tryd.ntmps12
  have AC := S0.out
  have a0 := row_cell AC.adr 0
  have a1 := row_cell AC.adr 1
  have a2 := row_cell AC.adr 2
  clear AC
  go_wp2_with fail
  generalize (((w.alloc (.cells #[.int .i64 o, .int .i64 f, .int .i64 r] 30)).alloc (.cells #[.int .u8 x.1, .int .u8 x.2.1, .int .u8 x.2.2.1, .int .u8 x.2.2.2] 32)).alloc (.cells #[.int .u8 0, .int .u8 0, .int .u8 0, .int .u8 0] 32)) = W at *
  refine (HG.out _).mono ?_
  rintro e w1 ⟨rfl, b1⟩
  have S1 := Lib.hid (S0.out.mono b1)
  clear b1 HG S0 a0 a1 a2
  have a0 : w1.cell? ⟨w.heap.size, 0, none⟩ = some (.int .i64 o) := row_cell S1.out.adr 0
  have a1 : w1.cell? ⟨w.heap.size, 1, none⟩ = some (.int .i64 f) := row_cell S1.out.adr 1
  have a2 : w1.cell? ⟨w.heap.size, 2, none⟩ = some (.int .i64 r) := row_cell S1.out.adr 2
  have x0 : w1.cell? ⟨w.heap.size + 1, 0, none⟩ = some (.int .u8 x.1) := row_cell S1.out.arg 0
  have x1 : w1.cell? ⟨w.heap.size + 1, 1, none⟩ = some (.int .u8 x.2.1) := row_cell S1.out.arg 1
  have x2 : w1.cell? ⟨w.heap.size + 1, 2, none⟩ = some (.int .u8 x.2.2.1) := row_cell S1.out.arg 2
  have x3 : w1.cell? ⟨w.heap.size + 1, 3, none⟩ = some (.int .u8 x.2.2.2) := row_cell S1.out.arg 3
  go_wp2_with fail
  refine (HA.out w1 S1.out.bel S1.out.siz).mono ?_
  rintro e w2 ⟨rfl, b2⟩
  have B2 := Lib.hid (((Below.refl w2.heap.size w2).alloc (Nat.le_refl _) (.cells #[.int .u8 0, .int .u8 0, .int .u8 0, .int .u8 0] 32)))
  have S2 := Lib.hid ((S1.out.mono b2).mono B2.out)
  clear b2 S1 a0 a1 a2 x0 x1 x2 x3 HA
  unfold rec4 z4 fault flt
  go_wp2_with fail
  clear B2
  generalize (w2.alloc (.cells #[.int .u8 0, .int .u8 0, .int .u8 0, .int .u8 0] 32)) = W2 at *
  have IS := Lib.hid (is_any f k W2)
  rw [H5.out] at IS
  unfold fault flt at IS
  refine IS.out.mono ?_
  rintro e w4 ⟨rfl, b4⟩
  have S4 := Lib.hid (S2.out.mono b4)
  clear b4 IS S2
  go_wp2_with fail
  have NU := number_any f k w4 (HGL.out.below S4.out.bel)
  unfold fault flt at NU
  refine NU.mono ?_
  rintro e w5 ⟨rfl, b5⟩
  have S5 := Lib.hid (S4.out.mono b5)
  clear b5 S4 NU
  have d0 : w5.cell? ⟨w.heap.size + 2, 0, none⟩ = some (.int .u8 0) := row_cell S5.out.res 0
  have d1 : w5.cell? ⟨w.heap.size + 2, 1, none⟩ = some (.int .u8 0) := row_cell S5.out.res 1
  have d2 : w5.cell? ⟨w.heap.size + 2, 2, none⟩ = some (.int .u8 0) := row_cell S5.out.res 2
  have d3 : w5.cell? ⟨w.heap.size + 2, 3, none⟩ = some (.int .u8 0) := row_cell S5.out.res 3
  have k0 := row_frozen S5.out.res 0
  have k1 := row_frozen S5.out.res 1
  have k2 := row_frozen S5.out.res 2
  have k3 := row_frozen S5.out.res 3
  have R3 := Lib.hid (sto4_row S5.out.res z4)
  have B3 := Lib.hid (sto4_below (o := 0) (r := z4) S5.out.bel (show w.heap.size ≤ w.heap.size + 2 by omega))
  clear S5
  go_wp2
  (try simp only [Exit.inBlock, Exit.then])
  exact bodyPost_ret (results_rec (p := 6) (r := 7) rfl _ _ (w.heap.size + 2) z4 (.int .i64 k) rfl rfl R3.out) rfl ⟨rfl, B3.out⟩
set_option maxHeartbeats 2000000 in
theorem do_5 {w : World} {s : Nat} {F : Nat → Prop} {m : Value} {C : List Ent} {d : Int} (S : Sto w s F m C d) (o f r : Int) (x : R4) (hg : Glob w) (h0 : ¬ F 0) (hd : 0 ≤ d ∧ d < 1000000) (hn : goodB o f r = true) (ha : ∀ W, Below w.heap.size w W → w.heap.size + 3 ≤ W.heap.size → Calls Tryd.prog 27 #[.pointer (some ⟨s, 0, none⟩), Ad.addr o f r, rec4 x] W (AskNo W f 5)) :
    Calls Tryd.prog 12 #[.pointer (some ⟨s, 0, none⟩), Ad.addr o f r, rec4 x] w (DoSPost w s F (d + 1) z4 5 (C.map Ent.abs)) := by
  have A0 := ask0_of w o f r x
  have S0 : Hid (Ask0 w o f r x (((w.alloc (.cells #[.int .i64 o, .int .i64 f, .int .i64 r] 30)).alloc (.cells #[.int .u8 x.1, .int .u8 x.2.1, .int .u8 x.2.2.1, .int .u8 x.2.2.2] 32)).alloc (.cells #[.int .u8 0, .int .u8 0, .int .u8 0, .int .u8 0] 32))) := A0
  have HGL := Lib.hid hg
  have SS := Lib.hid S
  have HF0 := Lib.hid h0
  have W0 : IntKind.i64.wrap (d + 1) = d + 1 := IntWalk.i64_in _ (by omega)
  clear hg S h0 hd
  have GA : ∀ W, Calls Tryd.prog 26 #[Ad.addr o f r] W fun e w' => e = .returned (.bool true) ∧ Below W.heap.size W w' := fun W => by have := Ad.good_any W o f r; rwa [hn] at this
  have HG := Lib.hid GA
  have HA := Lib.hid ha
  clear A0 GA hn ha
  unfold rec4 at *
  unfold Ad.addr at *
  go_enter Tryd.func12, Tryd.ntmps12
  have AC := S0.out
  have a0 := row_cell AC.adr 0
  have a1 := row_cell AC.adr 1
  have a2 := row_cell AC.adr 2
  clear AC
  go_wp2_with fail
  generalize (((w.alloc (.cells #[.int .i64 o, .int .i64 f, .int .i64 r] 30)).alloc (.cells #[.int .u8 x.1, .int .u8 x.2.1, .int .u8 x.2.2.1, .int .u8 x.2.2.2] 32)).alloc (.cells #[.int .u8 0, .int .u8 0, .int .u8 0, .int .u8 0] 32)) = W at *
  refine (HG.out _).mono ?_
  rintro e w1 ⟨rfl, b1⟩
  have S1 := Lib.hid (S0.out.mono b1)
  clear b1 HG S0 a0 a1 a2
  have a0 : w1.cell? ⟨w.heap.size, 0, none⟩ = some (.int .i64 o) := row_cell S1.out.adr 0
  have a1 : w1.cell? ⟨w.heap.size, 1, none⟩ = some (.int .i64 f) := row_cell S1.out.adr 1
  have a2 : w1.cell? ⟨w.heap.size, 2, none⟩ = some (.int .i64 r) := row_cell S1.out.adr 2
  have x0 : w1.cell? ⟨w.heap.size + 1, 0, none⟩ = some (.int .u8 x.1) := row_cell S1.out.arg 0
  have x1 : w1.cell? ⟨w.heap.size + 1, 1, none⟩ = some (.int .u8 x.2.1) := row_cell S1.out.arg 1
  have x2 : w1.cell? ⟨w.heap.size + 1, 2, none⟩ = some (.int .u8 x.2.2.1) := row_cell S1.out.arg 2
  have x3 : w1.cell? ⟨w.heap.size + 1, 3, none⟩ = some (.int .u8 x.2.2.2) := row_cell S1.out.arg 3
  go_wp2_with fail
  refine (HA.out w1 S1.out.bel S1.out.siz).mono ?_
  rintro e w2 ⟨rfl, b2⟩
  have B2 := Lib.hid (((Below.refl w2.heap.size w2).alloc (Nat.le_refl _) (.cells #[.int .u8 0, .int .u8 0, .int .u8 0, .int .u8 0] 32)))
  have S2 := Lib.hid ((S1.out.mono b2).mono B2.out)
  clear b2 S1 a0 a1 a2 x0 x1 x2 x3 HA
  unfold rec4 z4 fault flt
  go_wp2_with fail
  clear B2
  generalize (w2.alloc (.cells #[.int .u8 0, .int .u8 0, .int .u8 0, .int .u8 0] 32)) = W2 at *
  have IS := Lib.hid (is_any f 5 W2)
  rw [show decide ((5 : Int) = 5) = true from rfl] at IS
  unfold fault flt at IS
  refine IS.out.mono ?_
  rintro e w4 ⟨rfl, b4⟩
  have S4 := Lib.hid (S2.out.mono b4)
  clear b4 IS S2
  have T4 := SS.out.below S4.out.bel
  have c1 : w4.cell? ⟨s, 1, none⟩ = some (.int .i64 d) := row_cell T4.row 1
  have f1 : w4.frozen? ⟨s, 1, none⟩ = false := row_frozen T4.row 1
  obtain ⟨t5, t6⟩ := T4.count (d + 1)
  have T5 := Lib.hid t5
  have O5 := Lib.hid t6
  have GL5 : Hid (Glob (w4.setCell ⟨s, 1, none⟩ (.int .i64 (d + 1)))) := (HGL.out.below S4.out.bel).only HF0.out t6
  have N5 : Hid (Ask0 w o f r x (w4.setCell ⟨s, 1, none⟩ (.int .i64 (d + 1)))) ∨ True := .inr trivial
  have hsl := SS.out.low s SS.out.foot
  have A5 : Hid ((w4.setCell ⟨s, 1, none⟩ (.int .i64 (d + 1))).heap[w.heap.size + 2]? = some (.cells (arr4 z4) 32 (0, 0))) := (Below.heap_setCell w4 ⟨s, 1, none⟩ _ _ (by show w.heap.size + 2 ≠ s; omega)).trans S4.out.res
  have BB : Hid (Only F w (w4.setCell ⟨s, 1, none⟩ (.int .i64 (d + 1)))) := (Only.of_below S4.out.bel).trans t6 fun _ _ g => g
  clear T4 t5 t6 N5 S4
  go_wp2_with fail
  clear c1 f1
  generalize w4.setCell ⟨s, 1, none⟩ (.int .i64 (d + 1)) = w5 at *
  have NU := number_any f 5 w5 GL5.out
  unfold fault flt at NU
  refine NU.mono ?_
  rintro e w6 ⟨rfl, b6⟩
  have T6 := Lib.hid (T5.out.below b6)
  have A6 := Lib.hid ((b6.block _ (lt_of_block A5.out)).trans A5.out)
  have O6 := Lib.hid (BB.out.then b6)
  clear b6 NU T5 A5 BB O5
  have d0 : w6.cell? ⟨w.heap.size + 2, 0, none⟩ = some (.int .u8 0) := row_cell A6.out 0
  have d1 : w6.cell? ⟨w.heap.size + 2, 1, none⟩ = some (.int .u8 0) := row_cell A6.out 1
  have d2 : w6.cell? ⟨w.heap.size + 2, 2, none⟩ = some (.int .u8 0) := row_cell A6.out 2
  have d3 : w6.cell? ⟨w.heap.size + 2, 3, none⟩ = some (.int .u8 0) := row_cell A6.out 3
  have k0 := row_frozen A6.out 0
  have k1 := row_frozen A6.out 1
  have k2 := row_frozen A6.out 2
  have k3 := row_frozen A6.out 3
  have R3 := Lib.hid (sto4_row A6.out z4)
  have O7 : Only F w (sto4 w6 (w.heap.size + 2) 0 z4) := O6.out.trans (o_sto4 w6 (w.heap.size + 2) z4) fun k hk e => by omega
  have FIN : Hid (DoSPost w s F (d + 1) z4 5 (C.map Ent.abs) (.returned (.tuple #[rec4 z4, .int .i64 5])) (sto4 w6 (w.heap.size + 2) 0 z4)) := ⟨rfl, ⟨m, C, (T6.out.only (G := fun k => k = w.heap.size + 2) (fun k hk e => by have := SS.out.low k hk; omega) (o_sto4 w6 (w.heap.size + 2) z4)).wide (fun k hk => .inl hk) (Fx.low SS.out.low O7.size), rfl⟩, O7⟩
  clear A6 O6 O7 T6
  go_wp2
  (try simp only [Exit.inBlock, Exit.then])
  exact bodyPost_ret (results_rec (p := 6) (r := 7) rfl _ _ (w.heap.size + 2) z4 (.int .i64 5) rfl rfl R3.out) rfl FIN.out
set_option maxHeartbeats 2000000 in
theorem do_yes (w : World) (s : Nat) (F : Nat → Prop) (d : Int) (A' : Abs) (y : R4) (o f r : Int) (x : R4) (hF : ∀ k, F k → k < w.heap.size) (hn : goodB o f r = true) (ha : ∀ W, Below w.heap.size w W → w.heap.size + 3 ≤ W.heap.size → Calls Tryd.prog 27 #[.pointer (some ⟨s, 0, none⟩), Ad.addr o f r, rec4 x] W (AskYes W s F d y A')) :
    Calls Tryd.prog 12 #[.pointer (some ⟨s, 0, none⟩), Ad.addr o f r, rec4 x] w (DoSPost w s F d y 0 A') := by
  have A0 := ask0_of w o f r x
  have S0 : Hid (Ask0 w o f r x (((w.alloc (.cells #[.int .i64 o, .int .i64 f, .int .i64 r] 30)).alloc (.cells #[.int .u8 x.1, .int .u8 x.2.1, .int .u8 x.2.2.1, .int .u8 x.2.2.2] 32)).alloc (.cells #[.int .u8 0, .int .u8 0, .int .u8 0, .int .u8 0] 32))) := A0
  have HF := Lib.hid hF
  clear hF
  have GA : ∀ W, Calls Tryd.prog 26 #[Ad.addr o f r] W fun e w' => e = .returned (.bool true) ∧ Below W.heap.size W w' := fun W => by have := Ad.good_any W o f r; rwa [hn] at this
  have HG := Lib.hid GA
  have HA := Lib.hid ha
  clear A0 GA hn ha
  unfold rec4 at *
  unfold Ad.addr at *
  go_enter Tryd.func12, Tryd.ntmps12
  have AC := S0.out
  have a0 := row_cell AC.adr 0
  have a1 := row_cell AC.adr 1
  have a2 := row_cell AC.adr 2
  clear AC
  go_wp2_with fail
  generalize (((w.alloc (.cells #[.int .i64 o, .int .i64 f, .int .i64 r] 30)).alloc (.cells #[.int .u8 x.1, .int .u8 x.2.1, .int .u8 x.2.2.1, .int .u8 x.2.2.2] 32)).alloc (.cells #[.int .u8 0, .int .u8 0, .int .u8 0, .int .u8 0] 32)) = W at *
  refine (HG.out _).mono ?_
  rintro e w1 ⟨rfl, b1⟩
  have S1 := Lib.hid (S0.out.mono b1)
  clear b1 HG S0 a0 a1 a2
  have a0 : w1.cell? ⟨w.heap.size, 0, none⟩ = some (.int .i64 o) := row_cell S1.out.adr 0
  have a1 : w1.cell? ⟨w.heap.size, 1, none⟩ = some (.int .i64 f) := row_cell S1.out.adr 1
  have a2 : w1.cell? ⟨w.heap.size, 2, none⟩ = some (.int .i64 r) := row_cell S1.out.adr 2
  have x0 : w1.cell? ⟨w.heap.size + 1, 0, none⟩ = some (.int .u8 x.1) := row_cell S1.out.arg 0
  have x1 : w1.cell? ⟨w.heap.size + 1, 1, none⟩ = some (.int .u8 x.2.1) := row_cell S1.out.arg 1
  have x2 : w1.cell? ⟨w.heap.size + 1, 2, none⟩ = some (.int .u8 x.2.2.1) := row_cell S1.out.arg 2
  have x3 : w1.cell? ⟨w.heap.size + 1, 3, none⟩ = some (.int .u8 x.2.2.2) := row_cell S1.out.arg 3
  go_wp2_with fail
  refine (HA.out w1 S1.out.bel S1.out.siz).mono ?_
  rintro e w2 ⟨rfl, t2, o2⟩
  have hwl : w.heap.size + 3 ≤ w2.heap.size := Nat.le_trans S1.out.siz o2.size
  have RW : w2.heap[w.heap.size + 2]? = some (.cells (arr4 z4) 32 (0, 0)) := (o2.block _ (by have := S1.out.siz; omega) (fun g => by have := HF.out _ g; omega)).trans S1.out.res
  obtain ⟨g1, g2, g3⟩ := box_rec w2 y
  have B2 := Lib.hid g2
  have T2 := Lib.hid (t2.below g2)
  have A6 : Hid ((w2.alloc (.cells (arr4 y) 32)).heap[w.heap.size + 2]? = some (.cells (arr4 z4) 32 (0, 0))) := (g2.block _ (by omega)).trans RW
  have Y6 := Lib.hid g1
  have hF2 : Hid (∀ k, Fx F w1 w2 k → k ≠ w.heap.size + 2 ∧ (F k ∨ w.heap.size ≤ k)) := fun k hk => by
    have := S1.out.siz
    rcases hk with hk | ⟨hk, _⟩
    · have := HF.out k hk
      exact ⟨by omega, .inl hk⟩
    · exact ⟨by omega, .inr (by omega)⟩
  have O6 : Hid (Only F w (w2.alloc (.cells (arr4 y) 32))) := ((Only.of_below S1.out.bel).trans o2 fun _ _ g => g).then g2
  clear g1 g2 g3 t2 o2 S1 a0 a1 a2 x0 x1 x2 x3 HA RW B2
  unfold rec4
  have Y4 : Hid (arr4 y = #[.int .u8 y.1, .int .u8 y.2.1, .int .u8 y.2.2.1, .int .u8 y.2.2.2]) := rfl
  rw [Y4.out] at T2 A6 Y6 O6
  have y0 : (w2.alloc (.cells #[.int .u8 y.1, .int .u8 y.2.1, .int .u8 y.2.2.1, .int .u8 y.2.2.2] 32)).cell? ⟨w2.heap.size, 0, none⟩ = some (.int .u8 y.1) := row_cell Y6.out 0
  go_upto_region 5 with fail
  clear y0
  generalize (w2.alloc (.cells #[.int .u8 y.1, .int .u8 y.2.1, .int .u8 y.2.2.1, .int .u8 y.2.2.2] 32)) = w6 at *
  have y0 : w6.cell? ⟨w2.heap.size, 0, none⟩ = some (.int .u8 y.1) := row_cell Y6.out 0
  have y1 : w6.cell? ⟨w2.heap.size, 1, none⟩ = some (.int .u8 y.2.1) := row_cell Y6.out 1
  have y2 : w6.cell? ⟨w2.heap.size, 2, none⟩ = some (.int .u8 y.2.2.1) := row_cell Y6.out 2
  have y3 : w6.cell? ⟨w2.heap.size, 3, none⟩ = some (.int .u8 y.2.2.2) := row_cell Y6.out 3
  have d0 : w6.cell? ⟨w.heap.size + 2, 0, none⟩ = some (.int .u8 0) := row_cell A6.out 0
  have d1 : w6.cell? ⟨w.heap.size + 2, 1, none⟩ = some (.int .u8 0) := row_cell A6.out 1
  have d2 : w6.cell? ⟨w.heap.size + 2, 2, none⟩ = some (.int .u8 0) := row_cell A6.out 2
  have d3 : w6.cell? ⟨w.heap.size + 2, 3, none⟩ = some (.int .u8 0) := row_cell A6.out 3
  have k0 := row_frozen A6.out 0
  have k1 := row_frozen A6.out 1
  have k2 := row_frozen A6.out 2
  have k3 := row_frozen A6.out 3
  have R3 := Lib.hid (sto4_row A6.out y)
  have O7 : Only F w (sto4 w6 (w.heap.size + 2) 0 y) := O6.out.trans (o_sto4 w6 (w.heap.size + 2) y) fun k hk e => by omega
  have FIN : Hid (DoSPost w s F d y 0 A' (.returned (.tuple #[rec4 y, .int .i64 0])) (sto4 w6 (w.heap.size + 2) 0 y)) := by
    have T7 := T2.out.only (G := fun k => k = w.heap.size + 2) (fun k hk e => (hF2.out k hk).1 e) (o_sto4 w6 (w.heap.size + 2) y)
    refine ⟨rfl, T7.wide (fun k hk => ?_) (Fx.low HF.out O7.size), O7⟩
    rcases (hF2.out k hk).2 with h | h
    · exact .inl h
    · exact .inr ⟨h, T7.low k hk⟩
  clear A6 O6 O7 T2 hF2
  go_wp2
  (try simp only [Exit.inBlock, Exit.then])
  exact bodyPost_ret (results_rec (p := 6) (r := 7) rfl _ _ (w.heap.size + 2) y (.int .i64 0) rfl rfl R3.out) rfl FIN.out

theorem dos_any {w : World} {s : Nat} {F : Nat → Prop} {A : Abs} {d : Int} (S : St w s F A d) (hg : Glob w) (h0 : ¬ F 0) (hd : 0 ≤ d ∧ d < 1000000) (o f r : Int) (x : R4) (hx : okR x) :
    Calls Tryd.prog 12 #[.pointer (some ⟨s, 0, none⟩), Ad.addr o f r, rec4 x] w (DoSPost w s F (dD A o f r d) (dV A o f r x) (dE A o f r) (dA A o f r x)) := by
  obtain ⟨m, C, h, rfl⟩ := S
  have no : ∀ k e w', dE (C.map Ent.abs) o f r = k → k ≠ 0 → k ≠ 5 → DoNo w k e w' → DoSPost w s F (dD (C.map Ent.abs) o f r d) (dV (C.map Ent.abs) o f r x) (dE (C.map Ent.abs) o f r) (dA (C.map Ent.abs) o f r x) e w' := fun k e w' hk h0 h5 ⟨he, b⟩ => by
    have e1 : dV (C.map Ent.abs) o f r x = z4 := by unfold dV; split; rfl; rw [hk, if_neg h0]
    have e2 : dA (C.map Ent.abs) o f r x = C.map Ent.abs := by unfold dA; split; rfl; rw [hk, if_neg h0]
    have e3 : dD (C.map Ent.abs) o f r d = d := by unfold dD; rw [hk, if_neg h5]
    rw [e1, e2, e3, hk]
    exact ⟨he, St.fx ⟨m, C, h, rfl⟩ b, Only.of_below b⟩
  cases hn : goodB o f r with
  | false => exact (do_1 w s o f r x hn).mono fun e w' => no 1 e w' (by unfold dE; rw [if_neg (by rw [hn]; decide)]) (by decide) (by decide)
  | true =>
    by_cases hz : dE (C.map Ent.abs) o f r = 0
    · have e3 : dD (C.map Ent.abs) o f r d = d := by unfold dD; rw [hz, if_neg (by decide)]
      rw [e3, hz]
      refine do_yes w s F d _ _ o f r x h.low hn fun W hb _ => ?_
      rcases ask_any (h.below hb) o f r x hx hn with ⟨k, h1, h2, _⟩ | ⟨_, h3⟩
      · exact absurd (h2.symm.trans hz) h1
      · exact h3
    · have ask : ∀ W, Below w.heap.size w W → w.heap.size + 3 ≤ W.heap.size → Calls Tryd.prog 27 #[.pointer (some ⟨s, 0, none⟩), Ad.addr o f r, rec4 x] W (AskNo W f (dE (C.map Ent.abs) o f r)) := fun W hb _ => by
        rcases ask_any (h.below hb) o f r x hx hn with ⟨k, h1, h2, h3⟩ | ⟨h3, _⟩
        · rw [h2]; exact h3
        · exact absurd h3 hz
      by_cases h5 : dE (C.map Ent.abs) o f r = 5
      · have e1 : dV (C.map Ent.abs) o f r x = z4 := by unfold dV; split; rfl; rw [h5, if_neg (by decide)]
        have e2 : dA (C.map Ent.abs) o f r x = C.map Ent.abs := by unfold dA; split; rfl; rw [h5, if_neg (by decide)]
        have e3 : dD (C.map Ent.abs) o f r d = d + 1 := by unfold dD; rw [h5, if_pos rfl]
        rw [e1, e2, e3]
        rw [h5] at ask ⊢
        exact do_5 h o f r x hg h0 hd hn ask
      · exact (do_no w s o f r _ x hg h5 hn ask).mono fun e w' => no _ e w' rfl hz h5

end Go.Proofs.YtoeemngekioldaaDoor.Fs
