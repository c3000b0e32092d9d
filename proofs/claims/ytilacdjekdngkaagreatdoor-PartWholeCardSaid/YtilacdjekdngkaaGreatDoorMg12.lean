/- Texts joined: PaAwake, FlArgs, FsArgs, RoArgs, PaArgs, PaWmath. -/
import Derived.Test.YtilacdjekdngkaaGreatDoorMg11
import Derived.Test.YtilacdjekdngkaaGreatDoorMg8
import Derived.Test.YtilacdjekdngkaaGreatDoorMg5
import Derived.Test.YtilacdjekdngkaaGreatDoorMg1
import Derived.ProofKit
import Derived.OpenShut
import Derived.ChangeOld
import Derived.Deep.Slices
import Derived.WideShapes
import Derived.Test.YtilacdjekdngkaaGreatDoorRows
import Derived.LaidHandle
import Derived.LaidLaws
import Derived.LaidMore
import Derived.Stop.Joined
import Derived.Test.YtilacdjekdngkaaGreatDoorMg2
import Derived.Test.YtilacdjekdngkaaGreatDoorMg9

/- The fixed fact of layer 14, walked. -/
namespace Go.Proofs.YtilacdjekdngkaaGreatDoor.Pa
open Go.RowKit Go.Maps
open Go.Proofs.YtilacdjekdngkaaGreatDoor.Fs (Abs St Rs Only Fx Wf Glob Aw addE addA gV gB get_st GetPost new_any new_st below_new add_any AddPost)
open Go.Proofs.YtilacdjekdngkaaGreatDoor.Rw (Rd Ow At)
open Go.Proofs.YtilacdjekdngkaaGreatDoor.Ro (E5 z5 K5 ent)
open Go.Proofs.YtilacdjekdngkaaGreatDoor.Ck (LL lat RdL rdl_two RowE)
open Go.Proofs.YtilacdjekdngkaaGreatDoor.Fl (R4 z4 K4 rec4 rat goodF okR okL file newL newP row_cell row_frozen rnew_own RnewOwn eq_rec ret_bool)
set_option maxRecDepth 100000

/-- A round that may not be. -/
theorem round_no {w : World} {vs vt vl vp : Value} {ps : List (Option Nat)} {T : LL} {V : List Bool} (HS : Rd KP w vs ps) (HT : RdL w vt T) (HV : Rd KB w vl V) (hE : fE ps T V ≠ 0) :
    Calls Tryz.prog 6 #[vs, vt, vl, vp] w fun e w' => e = .returned (.tuple #[.slice none 0 0, .int .i64 (fE ps T V)]) ∧ Below w.heap.size w w' := by
  have FA := Lib.hid (fault_any w vs vt vl ps T V HS HT HV)
  have hne : (fE ps T V != 0) = true := by simpa using hE
  have HEE := Lib.hid hE
  clear HS HT HV hE
  generalize fE ps T V = E at *
  go_enter Tryz.func6, Tryz.ntmps6
  go_wp2_with fail
  refine FA.out.mono ?_
  rintro e w1 ⟨rfl, b1⟩
  have B1 := Lib.hid b1
  clear b1 FA
  go_wp2
  go_ret2
  exact ⟨rfl, B1.out⟩

def h0 : R4 := (1, 3, 165, 167)
def la : List R4 := [h0, (7, 8, 0, 0)]
def lb : List R4 := [h0, (9, 10, 0, 0)]
theorem new31 : newL 3 (1 : Nat) = [h0, z4] := by decide +kernel
def A1 : Abs := [(1, 3, la)]
def B1 : Abs := [(1, 3, lb)]
theorem okR_h : okR h0 := ⟨⟨by decide, by decide⟩, ⟨by decide, by decide⟩, ⟨by decide, by decide⟩, by decide, by decide⟩
theorem okR_a : okR (7, 8, 0, 0) := ⟨⟨by decide, by decide⟩, ⟨by decide, by decide⟩, ⟨by decide, by decide⟩, by decide, by decide⟩
theorem okR_b : okR (9, 10, 0, 0) := ⟨⟨by decide, by decide⟩, ⟨by decide, by decide⟩, ⟨by decide, by decide⟩, by decide, by decide⟩
theorem okL_a : okL la := fun r hr => by
  simp only [la, List.mem_cons, List.not_mem_nil, or_false] at hr
  rcases hr with rfl | rfl
  · exact okR_h
  · exact okR_a
theorem okL_b : okL lb := fun r hr => by
  simp only [lb, List.mem_cons, List.not_mem_nil, or_false] at hr
  rcases hr with rfl | rfl
  · exact okR_h
  · exact okR_b
theorem add_a : addE [] 1 3 la = 0 ∧ addA [] 1 3 la = A1 := ⟨by kernel_rfl, by kernel_rfl⟩
theorem add_b : addE [] 1 3 lb = 0 ∧ addA [] 1 3 lb = B1 := ⟨by kernel_rfl, by kernel_rfl⟩
def S0 : Sts := [(A1, 0), (B1, 0)]
def T0 : LL := [[(1, 1, 1, 1, 0), (2, 2, 1, 1, 0)], [(2, 1, 1, 1, 0), (1, 2, 1, 1, 0)]]
theorem r_e : rdE S0 T0 [true, true] = 0 := by decide +kernel
theorem r_len : (rdL S0 T0 [true, true] []).length = 2 := by kernel_rfl
theorem r_0 : gV (sat (rdL S0 T0 [true, true] []) 0).1 1 1 = (9, 8, 0, 0) := by kernel_rfl
theorem r_1 : gV (sat (rdL S0 T0 [true, true] []) 1).1 1 1 = (7, 10, 0, 0) := by kernel_rfl
theorem f_nil (s : Nat) : fE [some s, none] [] [] = 1 := rfl

/-- Two stores of the call's own. -/
structure Two (w : World) (s1 s2 : Nat) (F1 F2 : Nat → Prop) (A1 A2 : Abs) (W : World) : Prop where
  a : Aw w s1 F1 A1 0 W
  b : Aw w s2 F2 A2 0 W
  ap : ∀ k, F1 k → ¬ F2 k
section
variable {w W W' : World} {s1 s2 : Nat} {F1 F2 : Nat → Prop} {A1 A2 A' : Abs}
theorem Two.below (h : Two w s1 s2 F1 F2 A1 A2 W) (b : Below W.heap.size W W') : Two w s1 s2 F1 F2 A1 A2 W' := ⟨h.a.below b, h.b.below b, h.ap⟩
theorem Two.step1 (h : Two w s1 s2 F1 F2 A1 A2 W) (st : St W' s1 (Fx F1 W W') A' 0) (o : Only F1 W W') : Two w s1 s2 (Fx F1 W W') F2 A' A2 W' :=
  ⟨h.a.next st o, ⟨h.b.st.only (fun k g g' => h.ap k g' g) o, h.b.lo, (h.a.next st o).bel⟩, fun k g g' => by
    rcases g with g | ⟨g, _⟩
    · exact h.ap k g g'
    · have := h.b.st.low k g'; omega⟩
theorem Two.step2 (h : Two w s1 s2 F1 F2 A1 A2 W) (st : St W' s2 (Fx F2 W W') A' 0) (o : Only F2 W W') : Two w s1 s2 F1 (Fx F2 W W') A1 A' W' :=
  ⟨⟨h.a.st.only h.ap o, h.a.lo, (h.b.next st o).bel⟩, h.b.next st o, fun k g g' => by
    rcases g' with g' | ⟨g', _⟩
    · exact h.ap k g g'
    · have := h.a.st.low k g; omega⟩
/-- Another block is written. -/
theorem Two.other (h : Two w s1 s2 F1 F2 A1 A2 W) {g : Nat} (hw : w.heap.size ≤ g) (h1 : ¬ F1 g) (h2 : ¬ F2 g) (o : Only (fun k => k = g) W W') : Two w s1 s2 F1 F2 A1 A2 W' :=
  ⟨⟨h.a.st.only (fun k a e => h1 (by subst e; exact a)) o, h.a.lo, h.a.bel.trans (o.below h.a.bel.size fun k e => by subst e; exact hw)⟩, ⟨h.b.st.only (fun k a e => h2 (by subst e; exact a)) o, h.b.lo, h.b.bel.trans (o.below h.b.bel.size fun k e => by subst e; exact hw)⟩, h.ap⟩
end
theorem two_new (w : World) : Two w w.heap.size (w.heap.size + 1) (fun k => k = w.heap.size) (fun k => k = w.heap.size + 1) [] [] ((w.alloc (.cells #[.map none, .int .i64 0] 97)).alloc (.cells #[.map none, .int .i64 0] 97)) := by
  have b1 := below_new w (.cells #[.map none, .int .i64 0] 97)
  have hz : (w.alloc (.cells #[.map none, .int .i64 0] 97)).heap.size = w.heap.size + 1 := by simp
  have n2 := new_st (w.alloc (.cells #[.map none, .int .i64 0] 97))
  rw [hz] at n2
  have b2 := below_new (w.alloc (.cells #[.map none, .int .i64 0] 97)) (.cells #[.map none, .int .i64 0] 97)
  exact ⟨⟨(new_st w).below b2, fun k e => by subst e; exact Nat.le_refl _, b1.trans (b2.mono b1.size)⟩, ⟨n2, fun k e => by omega, b1.trans (b2.mono b1.size)⟩, fun k e e' => by omega⟩

/-- A block that is no part of either store. -/
structure Fre (F1 F2 : Nat → Prop) (W : World) (B g : Nat) : Prop where
  n1 : ¬ F1 g
  n2 : ¬ F2 g
  lt : g < W.heap.size
  ge : B ≤ g
section
variable {F1 F2 : Nat → Prop} {W W' : World} {B g : Nat} {o : Option Obj}
theorem Fre.step1 (h : Fre F1 F2 W B g) (o : Only F1 W W') : Fre (Fx F1 W W') F2 W' B g := ⟨Fx.not h.n1 h.lt, h.n2, Nat.lt_of_lt_of_le h.lt o.size, h.ge⟩
theorem Fre.step2 (h : Fre F1 F2 W B g) (o : Only F2 W W') : Fre F1 (Fx F2 W W') W' B g := ⟨h.n1, Fx.not h.n2 h.lt, Nat.lt_of_lt_of_le h.lt o.size, h.ge⟩
theorem Fre.grow (h : Fre F1 F2 W B g) (o : W.heap.size ≤ W'.heap.size) : Fre F1 F2 W' B g := ⟨h.n1, h.n2, Nat.lt_of_lt_of_le h.lt o, h.ge⟩
theorem Fre.new {w : World} {s1 s2 : Nat} {A1 A2 : Abs} (h : Two w s1 s2 F1 F2 A1 A2 W) (hg : W.heap.size ≤ g) (hl : g < W'.heap.size) : Fre F1 F2 W' w.heap.size g :=
  ⟨fun f => by have := h.a.st.low _ f; omega, fun f => by have := h.b.st.low _ f; omega, hl, by have := h.a.bel.size; omega⟩
end
theorem own_sto4 {W : World} {B E g cap : Nat} {r : R4} (h : Ow K4 W B E (.slice (some ⟨g, 0, none⟩) 2 cap) [r, z4]) (x : R4) : Ow K4 (Fl.sto4 W g 4 x) B E (.slice (some ⟨g, 0, none⟩) 2 cap) [r, x] := by
  obtain ⟨x0, x1, x2, x3⟩ := x
  have h1 := h.set 1 0 (by simp) (by decide) (.int .u8 x0) (x0, 0, 0, 0) rfl
  have h2 := Ow.set h1 1 1 (by simp) (by decide) (.int .u8 x1) (x0, x1, 0, 0) rfl
  have h3 := Ow.set h2 1 2 (by simp) (by decide) (.int .u8 x2) (x0, x1, x2, 0) rfl
  have h4 := Ow.set h3 1 3 (by simp) (by decide) (.int .u8 x3) (x0, x1, x2, x3) rfl
  exact h4
theorem only_sto4 (W : World) (g k : Nat) (x : R4) : Only (fun j => j = g) W (Fl.sto4 W g k x) :=
  (((Only.set (fun j => j = g) W (a := ⟨g, k, none⟩) rfl _).trans (Only.set (fun j => j = g) _ (a := ⟨g, k + 1, none⟩) rfl _) fun _ _ h => h).trans (Only.set (fun j => j = g) _ (a := ⟨g, k + 2, none⟩) rfl _) fun _ _ h => h).trans (Only.set (fun j => j = g) _ (a := ⟨g, k + 3, none⟩) rfl _) fun _ _ h => h

set_option maxHeartbeats 2000000 in
theorem awake_any (w : World) (hg : Glob w) : Calls Tryz.prog 12 #[] w fun e w' => e = .returned (.bool true) ∧ Below w.heap.size w w' := by
  have HG := Lib.hid hg
  clear hg
  have T0' := Lib.hid (two_new w)
  have NW := Lib.hid (fun W => rnew_own W 3 1 (by decide))
  unfold RnewOwn at NW
  rw [new31] at NW
  unfold file at NW
  go_enter Tryz.func12, Tryz.ntmps12
  go_wp2_with (go_at_call 21; refine (new_any _).mono ?_; rintro e w1 ⟨rfl, rfl⟩)
  go_wp2_with fail
  generalize ((w.alloc (.cells #[.map none, .int .i64 0] 97)).alloc (.cells #[.map none, .int .i64 0] 97)) = W1 at *
  refine (NW.out _).mono ?_
  rintro e w2 ⟨v, rfl, ow2, b2⟩
  obtain ⟨gv, cap, ev, hB, hlt, h2, hm, fz, hA⟩ := ow2.form (by decide)
  have ev' : v = .slice (some ⟨gv, 0, none⟩) 2 cap := ev
  subst ev'
  clear ev
  have T2 := Lib.hid (T0'.out.below b2)
  have FV := Lib.hid (Fre.new T0'.out hB hlt)
  clear T0' b2 NW
  go_upto_region 3 with fail
  have bn := below_new w2 (.cells #[.int .i64 3, .slice (some ⟨gv, 0, none⟩) 2 cap] 67)
  have T3 := Lib.hid (T2.out.below bn)
  have FV3 := Lib.hid (FV.out.grow bn.size)
  have FF3 : Hid (Fre (fun k => k = w.heap.size) (fun k => k = w.heap.size + 1) (w2.alloc (.cells #[.int .i64 3, .slice (some ⟨gv, 0, none⟩) 2 cap] 67)) w.heap.size w2.heap.size) := Lib.hid (Fre.new T2.out (Nat.le_refl _) (by simp))
  have RF3 := Lib.hid (heap_alloc_new w2 (.cells #[.int .i64 3, .slice (some ⟨gv, 0, none⟩) 2 cap] 67))
  have OV3 := Lib.hid (ow2.alloc (.cells #[.int .i64 3, .slice (some ⟨gv, 0, none⟩) 2 cap] 67))
  have NE := Lib.hid (show gv ≠ w2.heap.size by omega)
  have hA3 := hA.below bn
  have fz3 := fun k => (bn.frozen (p := ⟨gv, k, none⟩) hlt).trans (fz k)
  clear T2 FV bn hA fz ow2 hB hlt h2 hm
  generalize (w2.alloc (.cells #[.int .i64 3, .slice (some ⟨gv, 0, none⟩) 2 cap] 67)) = W3 at *
  generalize w2.heap.size = g3 at *
  have x1 : W3.cell? ⟨g3, 1, none⟩ = some (.slice (some ⟨gv, 0, none⟩) 2 cap) := row_cell RF3.out 1
  have d0 : W3.cell? ⟨gv, 4, none⟩ = some (.int .u8 0) := hA3 1 (by decide) 0 _ rfl
  have d1 : W3.cell? ⟨gv, 5, none⟩ = some (.int .u8 0) := hA3 1 (by decide) 1 _ rfl
  have d2 : W3.cell? ⟨gv, 6, none⟩ = some (.int .u8 0) := hA3 1 (by decide) 2 _ rfl
  have d3 : W3.cell? ⟨gv, 7, none⟩ = some (.int .u8 0) := hA3 1 (by decide) 3 _ rfl
  have f0 := fz3 4
  have f1 := fz3 5
  have f2 := fz3 6
  have f3 := fz3 7
  have T4 := Lib.hid (T3.out.other FV3.out.ge FV3.out.n1 FV3.out.n2 (only_sto4 W3 gv 4 (7, 8, 0, 0)))
  have OV4 := Lib.hid (own_sto4 OV3.out (7, 8, 0, 0))
  have RF4 := Lib.hid (Fl.sto4_other (o := 4) (r := (7, 8, 0, 0)) RF3.out (fun e => NE.out e.symm))
  have FV4 := Lib.hid (FV3.out.grow (Nat.le_of_eq (Fl.sto4_size W3 gv 4 (7, 8, 0, 0)).symm))
  have FF4 := Lib.hid (FF3.out.grow (Nat.le_of_eq (Fl.sto4_size W3 gv 4 (7, 8, 0, 0)).symm))
  clear T3 OV3 RF3 FV3 FF3 hA3 fz3
  go_upto_region 4 with fail
  clear x1 d0 d1 d2 d3 f0 f1 f2 f3
  show Code.wp _ _ _ _ (Fl.sto4 W3 gv 4 (7, 8, 0, 0))
  generalize Fl.sto4 W3 gv 4 (7, 8, 0, 0) = W4 at *
  have y0 : W4.cell? ⟨g3, 0, none⟩ = some (.int .i64 3) := row_cell RF4.out 0
  have y1 : W4.cell? ⟨g3, 1, none⟩ = some (.slice (some ⟨gv, 0, none⟩) 2 cap) := row_cell RF4.out 1
  have AD := add_any T4.out.a.st 1 3 (.slice (some ⟨gv, 0, none⟩) 2 cap) la OV4.out.rd okL_a
  rw [add_a.1, add_a.2] at AD
  unfold file AddPost at AD
  have AD' := Lib.hid AD
  clear AD
  go_wp2_with fail
  clear y0 y1
  refine AD'.out.mono ?_
  rintro e w5 ⟨rfl, st, o⟩
  have T5 := Lib.hid (T4.out.step1 st o)
  have FF5 := Lib.hid (FF4.out.step1 o)
  have RF5 := Lib.hid ((o.block g3 FF4.out.lt FF4.out.n1).trans RF4.out)
  have OV5 := Lib.hid (Fs.ow_only OV4.out (fun k e g => FV4.out.n1 (by injection e with e; subst e; exact g)) o)
  clear AD' st o T4 FF4 RF4 OV4 FV4
  generalize Fx (fun k => k = w.heap.size) W4 w5 = F1 at *
  go_upto_region 5 with fail
  obtain ⟨gv', cap', ev, hB, hlt, h2, hm, fz, hA⟩ := OV5.out.form (by decide)
  injection ev with e1 e2 e3
  injection e1 with e1
  injection e1 with e1
  subst e1 e3
  have x1 : w5.cell? ⟨g3, 1, none⟩ = some (.slice (some ⟨gv, 0, none⟩) 2 cap) := row_cell RF5.out 1
  have f1 := row_frozen RF5.out 1
  have d0 : w5.cell? ⟨gv, 0, none⟩ = some (.int .u8 1) := hA 0 (by decide) 0 _ rfl
  have d1 : w5.cell? ⟨gv, 1, none⟩ = some (.int .u8 3) := hA 0 (by decide) 1 _ rfl
  have d2 : w5.cell? ⟨gv, 2, none⟩ = some (.int .u8 165) := hA 0 (by decide) 2 _ rfl
  have d3 : w5.cell? ⟨gv, 3, none⟩ = some (.int .u8 167) := hA 0 (by decide) 3 _ rfl
  clear hB h2 hm fz hA OV5 e2
  have NE6 := Lib.hid (show g3 ≠ w5.heap.size from Nat.ne_of_lt FF5.out.lt)
  have lg := FF5.out.lt
  generalize hz5 : w5.heap.size = z5' at *
  go_upto_region 6 with fail
  clear x1 f1 d0 d1 d2 d3 lg
  have HZ5 := Lib.hid hz5
  clear hz5
  have T5s := Lib.hid (T5.out.other (W' := w5.setCell ⟨g3, 1, none⟩ (.slice (some ⟨z5', 0, none⟩) 2 2)) FF5.out.ge FF5.out.n1 FF5.out.n2 (Only.set (fun k => k = g3) w5 (a := ⟨g3, 1, none⟩) rfl _))
  have RF6 := Lib.hid (Rw.heap_setCell_same (j := 1) RF5.out (.slice (some ⟨z5', 0, none⟩) 2 2))
  have hs : (w5.setCell ⟨g3, 1, none⟩ (.slice (some ⟨z5', 0, none⟩) 2 2)).heap.size = z5' := by simp [HZ5.out]
  generalize (w5.setCell ⟨g3, 1, none⟩ (.slice (some ⟨z5', 0, none⟩) 2 2)) = W5 at *
  have bn := below_new W5 (.cells #[.int .u8 1, .int .u8 3, .int .u8 165, .int .u8 167, .int .u8 9, .int .u8 10, .int .u8 0, .int .u8 0] 71)
  have OB := Rw.Ow.lit (K := K4) W5 w.heap.size 71 lb T5s.out.a.bel.size (by unfold maxLen; simp [lb])
  have e8 : (Rw.Kind.flat K4 lb).toArray = #[.int .u8 1, .int .u8 3, .int .u8 165, .int .u8 167, .int .u8 9, .int .u8 10, .int .u8 0, .int .u8 0] := rfl
  rw [e8, hs] at OB
  have OB6 := Lib.hid OB
  have T6 := Lib.hid (T5s.out.below bn)
  have RF7 := Lib.hid ((bn.block g3 (lt_of_block RF6.out)).trans RF6.out)
  clear e8 OB hs bn T5s RF6 FF5 RF5 T5 HZ5 NE6
  generalize (W5.alloc (.cells #[.int .u8 1, .int .u8 3, .int .u8 165, .int .u8 167, .int .u8 9, .int .u8 10, .int .u8 0, .int .u8 0] 71)) = W6 at *
  have y0 : W6.cell? ⟨g3, 0, none⟩ = some (.int .i64 3) := row_cell RF7.out 0
  have y1 : W6.cell? ⟨g3, 1, none⟩ = some (.slice (some ⟨z5', 0, none⟩) 2 2) := row_cell RF7.out 1
  have AD := add_any T6.out.b.st 1 3 (.slice (some ⟨z5', 0, none⟩) 2 2) lb OB6.out.rd okL_b
  rw [add_b.1, add_b.2] at AD
  unfold file AddPost at AD
  have AD' := Lib.hid AD
  clear AD
  go_wp2_with fail
  clear y0 y1
  refine AD'.out.mono ?_
  rintro e w7 ⟨rfl, st, o⟩
  have T7 := Lib.hid (T6.out.step2 st o)
  clear AD' st o T6 OB6 RF7
  generalize Fx (fun k => k = w.heap.size + 1) W6 w7 = F2 at *
  go_wp2_with fail
  have RN8 : Hid (Rd KN (w7.alloc (.cells #[.pointer (some ⟨w.heap.size, 0, none⟩), .pointer (some ⟨w.heap.size + 1, 0, none⟩)] 38)) (.slice (some ⟨w7.heap.size, 0, none⟩) 2 2) [w.heap.size, w.heap.size + 1]) := Lib.hid (Rw.Ow.lit (K := KN) w7 w7.heap.size 38 [w.heap.size, w.heap.size + 1] (Nat.le_refl _) (by unfold maxLen; simp)).rd
  have T8 := Lib.hid (T7.out.below (below_new w7 (.cells #[.pointer (some ⟨w.heap.size, 0, none⟩), .pointer (some ⟨w.heap.size + 1, 0, none⟩)] 38)))
  clear T7
  generalize (w7.alloc (.cells #[.pointer (some ⟨w.heap.size, 0, none⟩), .pointer (some ⟨w.heap.size + 1, 0, none⟩)] 38)) = W8 at *
  generalize w7.heap.size = g8 at *
  refine (entry_any _ 1 1).mono ?_
  rintro e w9 ⟨rfl, b9⟩
  have T9 := Lib.hid (T8.out.below b9)
  have RN9 := Lib.hid (RN8.out.below b9)
  clear T8 RN8 b9
  unfold ent
  go_wp2_with fail
  refine (entry_any _ 2 2).mono ?_
  rintro e w10 ⟨rfl, b10⟩
  have T10 := Lib.hid (T9.out.below b10)
  have RN10 := Lib.hid (RN9.out.below b10)
  clear T9 RN9 b10
  unfold ent
  go_wp2_with fail
  have bn := below_new w10 (.cells #[.int .i64 1, .int .i64 1, .int .i64 1, .int .i64 1, .int .i64 0, .int .i64 2, .int .i64 2, .int .i64 1, .int .i64 1, .int .i64 0] 75)
  have E11 : Hid (Rd K5 (w10.alloc (.cells #[.int .i64 1, .int .i64 1, .int .i64 1, .int .i64 1, .int .i64 0, .int .i64 2, .int .i64 2, .int .i64 1, .int .i64 1, .int .i64 0] 75)) (.slice (some ⟨w10.heap.size, 0, none⟩) 2 2) [(1, 1, 1, 1, 0), (2, 2, 1, 1, 0)]) := Lib.hid (Rw.Ow.lit (K := K5) w10 w10.heap.size 75 [(1, 1, 1, 1, 0), (2, 2, 1, 1, 0)] (Nat.le_refl _) (by unfold maxLen; simp)).rd
  have T11 := Lib.hid (T10.out.below bn)
  have RN11 := Lib.hid (RN10.out.below bn)
  clear T10 RN10 bn
  generalize (w10.alloc (.cells #[.int .i64 1, .int .i64 1, .int .i64 1, .int .i64 1, .int .i64 0, .int .i64 2, .int .i64 2, .int .i64 1, .int .i64 1, .int .i64 0] 75)) = W11 at *
  generalize w10.heap.size = g10 at *
  refine (entry_any _ 2 1).mono ?_
  rintro e w12 ⟨rfl, b12⟩
  have T12 := Lib.hid (T11.out.below b12)
  have RN12 := Lib.hid (RN11.out.below b12)
  have E12 := Lib.hid (E11.out.below b12)
  clear T11 RN11 E11 b12
  unfold ent
  go_wp2_with fail
  refine (entry_any _ 1 2).mono ?_
  rintro e w13 ⟨rfl, b13⟩
  have T13 := Lib.hid (T12.out.below b13)
  have RN13 := Lib.hid (RN12.out.below b13)
  have E13 := Lib.hid (E12.out.below b13)
  clear T12 RN12 E12 b13
  unfold ent
  go_wp2_with fail
  have bn := below_new w13 (.cells #[.int .i64 2, .int .i64 1, .int .i64 1, .int .i64 1, .int .i64 0, .int .i64 1, .int .i64 2, .int .i64 1, .int .i64 1, .int .i64 0] 75)
  have D14 : Hid (Rd K5 (w13.alloc (.cells #[.int .i64 2, .int .i64 1, .int .i64 1, .int .i64 1, .int .i64 0, .int .i64 1, .int .i64 2, .int .i64 1, .int .i64 1, .int .i64 0] 75)) (.slice (some ⟨w13.heap.size, 0, none⟩) 2 2) [(2, 1, 1, 1, 0), (1, 2, 1, 1, 0)]) := Lib.hid (Rw.Ow.lit (K := K5) w13 w13.heap.size 75 [(2, 1, 1, 1, 0), (1, 2, 1, 1, 0)] (Nat.le_refl _) (by unfold maxLen; simp)).rd
  have T14 := Lib.hid (T13.out.below bn)
  have RN14 := Lib.hid (RN13.out.below bn)
  have E14 := Lib.hid (E13.out.below bn)
  have hz14 : (w13.alloc (.cells #[.int .i64 2, .int .i64 1, .int .i64 1, .int .i64 1, .int .i64 0, .int .i64 1, .int .i64 2, .int .i64 1, .int .i64 1, .int .i64 0] 75)).heap.size = w13.heap.size + 1 := by simp
  clear T13 RN13 E13 bn
  generalize (w13.alloc (.cells #[.int .i64 2, .int .i64 1, .int .i64 1, .int .i64 1, .int .i64 0, .int .i64 1, .int .i64 2, .int .i64 1, .int .i64 1, .int .i64 0] 75)) = W14 at *
  generalize w13.heap.size = g13 at *
  have bn := below_new W14 (.cells #[.slice (some ⟨g10, 0, none⟩) 2 2, .slice (some ⟨g13, 0, none⟩) 2 2] 59)
  have L15 : Hid (RdL (W14.alloc (.cells #[.slice (some ⟨g10, 0, none⟩) 2 2, .slice (some ⟨g13, 0, none⟩) 2 2] 59)) (.slice (some ⟨W14.heap.size, 0, none⟩) 2 2) T0) := Lib.hid (rdl_two (heap_alloc_new W14 _) (E14.out.below bn) (D14.out.below bn))
  have T15 := Lib.hid (T14.out.below bn)
  have RN15 := Lib.hid (RN14.out.below bn)
  have hz15 : (W14.alloc (.cells #[.slice (some ⟨g10, 0, none⟩) 2 2, .slice (some ⟨g13, 0, none⟩) 2 2] 59)).heap.size = g13 + 1 + 1 := by simp [hz14]
  rw [hz14] at L15
  have HZ := Lib.hid hz15
  clear T14 RN14 E14 D14 bn hz14 hz15
  generalize (W14.alloc (.cells #[.slice (some ⟨g10, 0, none⟩) 2 2, .slice (some ⟨g13, 0, none⟩) 2 2] 59)) = W15 at *
  have bn := below_new W15 (.cells #[.bool true, .bool true] 4)
  have V16 := (Rw.Ow.lit (K := KB) W15 W15.heap.size 4 [true, true] (Nat.le_refl _) (by unfold maxLen; simp)).rd
  have e2 : (Rw.Kind.flat KB [true, true]).toArray = #[.bool true, .bool true] := rfl
  rw [e2, HZ.out] at V16
  have V16' : Hid (Rd KB (W15.alloc (.cells #[.bool true, .bool true] 4)) (.slice (some ⟨g13 + 1 + 1, 0, none⟩) 2 2) [true, true]) := Lib.hid V16
  have T16 := Lib.hid (T15.out.below bn)
  have RN16 := Lib.hid (RN15.out.below bn)
  have L16 := Lib.hid (L15.out.below bn)
  clear T15 RN15 L15 bn V16 e2 HZ
  generalize (W15.alloc (.cells #[.bool true, .bool true] 4)) = W16 at *
  have RO := round_any (w := W16) (S := S0) (T := T0) (V := [true, true]) (P := []) ⟨_, RN16.out, rfl, fun i hi => by
      match i, hi with
      | 0, _ => exact ⟨F1, T16.out.a.st⟩
      | 1, _ => exact ⟨F2, T16.out.b.st⟩⟩ L16.out V16'.out (Rw.Rd.nil _) (HG.out.below T16.out.a.bel) (fun i hi => by
      match i, hi with
      | 0, _ => exact ⟨by decide, by decide⟩
      | 1, _ => exact ⟨by decide, by decide⟩)
  rw [r_e] at RO
  unfold RoundPost at RO
  refine RO.mono ?_
  rintro e w17 ⟨v, rfl, ⟨ps, rd, pl, each⟩, b17⟩
  rw [r_len] at pl each
  have H0 : Has w17 (ps.getD 0 0) (sat (rdL S0 T0 [true, true] []) 0) := each 0 (by decide)
  have H1 : Has w17 (ps.getD 1 0) (sat (rdL S0 T0 [true, true] []) 1) := each 1 (by decide)
  have T17 := Lib.hid (T16.out.below b17)
  clear RO T16 RN16 L16 V16' each b17
  have X0 := Lib.hid r_0
  have X1 := Lib.hid r_1
  generalize rdL S0 T0 [true, true] [] = S' at *
  obtain ⟨va, vc, rfl, _, hvm, h3⟩ := rd
  rw [pl] at h3 ⊢
  obtain ⟨b, off, rfl, A⟩ := h3 (by decide)
  have c0 : w17.cell? ⟨b, off, none⟩ = some (ptr (ps.getD 0 0)) := by have := atN A (i := 0) (by omega); simpa using this
  have c1 : w17.cell? ⟨b, off + 1, none⟩ = some (ptr (ps.getD 1 0)) := atN A (i := 1) (by omega)
  unfold ptr at c0 c1
  unfold maxLen at hvm
  generalize ps.getD 0 0 = p0 at *
  generalize ps.getD 1 0 = p1 at *
  obtain ⟨F3, G3⟩ := H0
  obtain ⟨F4, G4⟩ := H1
  have G3' := Lib.hid G3
  have G4' := Lib.hid G4
  have C1 := Lib.hid c1
  have lb : b < w17.heap.size := World.block_lt_of_cell? _ _ c0
  clear A h3 G3 G4 c1
  go_wp2_with fail
  have GE := get_st G3'.out (n := 1) (WalkArith.wf_i64 (by decide)) 1
  unfold GetPost at GE
  rw [show gV (sat S' 0).1 1 1 = (9, 8, 0, 0) from X0.out] at GE
  generalize gB (sat S' 0).1 1 1 = q0 at GE
  refine GE.mono ?_
  rintro e w18 ⟨rfl, b18⟩
  have T18 := Lib.hid ((T17.out.below b18).below (below_new w18 (.cells #[.int .u8 9, .int .u8 8, .int .u8 0, .int .u8 0] 71)))
  have bb := b18.trans ((below_new w18 (.cells #[.int .u8 9, .int .u8 8, .int .u8 0, .int .u8 0] 71)).mono b18.size)
  have C1' := Lib.hid ((bb.cell lb).trans C1.out)
  have G4s := Lib.hid (G4'.out.below bb)
  have K8 := Lib.hid (heap_alloc_new w18 (.cells #[.int .u8 9, .int .u8 8, .int .u8 0, .int .u8 0] 71))
  have lb' := Nat.lt_of_lt_of_le lb bb.size
  clear GE c0 G3' G4' C1 T17 X0 b18 bb lb
  unfold rec4
  go_upto_region 12 with fail
  generalize (w18.alloc (.cells #[.int .u8 9, .int .u8 8, .int .u8 0, .int .u8 0] 71)) = W18 at *
  generalize w18.heap.size = g18 at *
  have c1 := C1'.out
  go_wp2_with fail
  clear c1
  have GE := get_st G4s.out (n := 1) (WalkArith.wf_i64 (by decide)) 1
  unfold GetPost at GE
  rw [show gV (sat S' 1).1 1 1 = (7, 10, 0, 0) from X1.out] at GE
  generalize gB (sat S' 1).1 1 1 = q1 at GE
  refine GE.mono ?_
  rintro e w19 ⟨rfl, b19⟩
  have T19 := Lib.hid ((T18.out.below b19).below (below_new w19 (.cells #[.int .u8 7, .int .u8 10, .int .u8 0, .int .u8 0] 71)))
  have bb := b19.trans ((below_new w19 (.cells #[.int .u8 7, .int .u8 10, .int .u8 0, .int .u8 0] 71)).mono b19.size)
  have K8s := Lib.hid ((bb.block _ (lt_of_block K8.out)).trans K8.out)
  have K9 := Lib.hid (heap_alloc_new w19 (.cells #[.int .u8 7, .int .u8 10, .int .u8 0, .int .u8 0] 71))
  clear GE G4s C1' T18 X1 b19 bb lb' K8
  unfold rec4
  go_upto_region 13 with fail
  generalize (w19.alloc (.cells #[.int .u8 7, .int .u8 10, .int .u8 0, .int .u8 0] 71)) = W19 at *
  generalize w19.heap.size = g19 at *
  have bn := below_new W19 (.cells #[.pointer (some ⟨w.heap.size, 0, none⟩), .pointer none] 38)
  have RP := (Rw.Ow.lit (K := KP) W19 W19.heap.size 38 [some w.heap.size, none] (Nat.le_refl _) (by unfold maxLen; simp)).rd
  have RO := round_no (vp := .slice none 0 0) (T := []) (V := []) RP ⟨none, 0, rfl, ⟨Nat.le_refl _, fun _ => rfl⟩, by unfold maxLen; omega, fun h => by simp at h⟩ (Rw.Rd.nil _) (by rw [f_nil]; decide)
  rw [f_nil] at RO
  have RO' := Lib.hid RO
  have bh := Lib.hid bn
  clear RO RP bn
  go_wp2_with fail
  refine RO'.out.mono ?_
  rintro e w20 ⟨rfl, b20⟩
  have bb := bh.out.trans (b20.mono bh.out.size)
  have T20 := Lib.hid (T19.out.below bb)
  have K8 := Lib.hid ((bb.block _ (lt_of_block K8s.out)).trans K8s.out)
  have K9s := Lib.hid ((bb.block _ (lt_of_block K9.out)).trans K9.out)
  clear RO' bh b20 bb T19 K8s K9
  go_upto_region 14 with fail
  have x0 : w20.cell? ⟨g18, 0, none⟩ = some (.int .u8 9) := row_cell K8.out 0
  have x1 : w20.cell? ⟨g18, 1, none⟩ = some (.int .u8 8) := row_cell K8.out 1
  have x2 : w20.cell? ⟨g18, 2, none⟩ = some (.int .u8 0) := row_cell K8.out 2
  have x3 : w20.cell? ⟨g18, 3, none⟩ = some (.int .u8 0) := row_cell K8.out 3
  have y0 : w20.cell? ⟨g19, 0, none⟩ = some (.int .u8 7) := row_cell K9s.out 0
  have y1 : w20.cell? ⟨g19, 1, none⟩ = some (.int .u8 10) := row_cell K9s.out 1
  have y2 : w20.cell? ⟨g19, 2, none⟩ = some (.int .u8 0) := row_cell K9s.out 2
  have y3 : w20.cell? ⟨g19, 3, none⟩ = some (.int .u8 0) := row_cell K9s.out 3
  have es : ∀ w, (Op.equalIn 10000 71 (.agg #[.int .u8 9, .int .u8 8, .int .u8 0, .int .u8 0]) (.agg #[.int .u8 9, .int .u8 8, .int .u8 0, .int .u8 0])).run Tryz.prog w = .ok true w := fun w => by
    have := eq_rec (9, 8, 0, 0) (9, 8, 0, 0) w
    simpa using this
  have es' : ∀ w, (Op.equalIn 10000 71 (.agg #[.int .u8 7, .int .u8 10, .int .u8 0, .int .u8 0]) (.agg #[.int .u8 7, .int .u8 10, .int .u8 0, .int .u8 0])).run Tryz.prog w = .ok true w := fun w => by
    have := eq_rec (7, 10, 0, 0) (7, 10, 0, 0) w
    simpa using this
  go_wp2
  go_ret
  exact ⟨rfl, T20.out.a.bel⟩

end Go.Proofs.YtilacdjekdngkaaGreatDoor.Pa

/- Arguments of layer 9: what reads as a record, as a file. -/
namespace Go.Proofs.YtilacdjekdngkaaGreatDoor.Fl
set_option maxRecDepth 100000
open Go.ChangeShapes Go.WideShapes Go.ChangeAt Go.RowKit Go.Deep
open Go.Proofs.YtilacdjekdngkaaGreatDoor.Rw (Rd Ow At)

theorem okWide_array {P : Program} {w : World} {r : Reach} {base n : Nat} {t e : TypeId} {v : Value} (ht : P.underlying t = some (.array n e)) (h : Value.okWide P w r base t v) : ∃ cs, v = .agg cs ∧ cs.size = P.cellsOf t := by
  simp only [Value.okWide, ht] at h
  obtain ⟨cs, h1, h2, _⟩ := h
  exact ⟨cs, h1, h2⟩
theorem rec_cells {H : Type} {enc : TypeId × Value → H} {W : World} {base fuel : Nat} {sp : Nat → Bool} {held : Bool} {cs : List Value} {x : DataW H × List MemPlace}
    (h : DataW.trod enc Tryz.prog W base sp held fuel 71 cs = some x) : ∃ r : R4, cs = K4.enc r ∧ okR r := by
  have c4 : Tryz.prog.cellsOf 71 = 4 := by kernel_rfl
  have c1 : Tryz.prog.cellsOf 5 = 1 := by kernel_rfl
  obtain ⟨xs, m, _, _, hs, hx, hi⟩ := DataW.trod_array Tryz.underlying71 h
  rw [c4] at hs
  match cs, hs, xs, hx, hi with
  | [u0, u1, u2, u3], _, [x0, x1, x2, x3], _, hi =>
    have e0 := hi 0 (by omega)
    have e1 := hi 1 (by omega)
    have e2 := hi 2 (by omega)
    have e3 := hi 3 (by omega)
    rw [c1] at e0 e1 e2 e3
    obtain ⟨a, ha, _, wa⟩ := DataW.trod_int Tryz.underlying5 (x := x0) e0
    obtain ⟨b, hb, _, wb⟩ := DataW.trod_int Tryz.underlying5 (x := x1) e1
    obtain ⟨c, hc, _, wc⟩ := DataW.trod_int Tryz.underlying5 (x := x2) e2
    obtain ⟨d, hd, _, wd⟩ := DataW.trod_int Tryz.underlying5 (x := x3) e3
    simp at ha hb hc hd
    subst ha hb hc hd
    exact ⟨(a, b, c, d), rfl, bounds_u8 wa, bounds_u8 wb, bounds_u8 wc, bounds_u8 wd⟩
theorem rec_of {H : Type} {enc : TypeId × Value → H} {W : World} {v : Value} {base : Nat} {sp : Nat → Bool} {held : Bool} {d : DataW H} {p : List MemPlace} {r : Reach} {b0 : Nat}
    (hv : Value.okWide Tryz.prog W r b0 71 v) (h : DataW.Trod enc Tryz.prog W base sp held 71 v d p) : ∃ x : R4, v = rec4 x ∧ okR x := by
  obtain ⟨⟨l⟩, rfl, hs⟩ := okWide_array Tryz.underlying71 hv
  obtain ⟨fuel, hf⟩ := h
  obtain ⟨x, e, ok⟩ := rec_cells hf
  have e' : l = K4.enc x := e
  subst e'
  exact ⟨x, rfl, ok⟩
theorem recs_of {H : Type} {enc : TypeId × Value → H} {W : World} {u : Value} {base fuel : Nat} {sp : Nat → Bool} {held : Bool} {x : DataW H × List MemPlace}
    (h : DataW.trod enc Tryz.prog W base sp held fuel 65 [u] = some x) : ∃ l, Rd K4 W u l ∧ okL l := by
  have c4 : Tryz.prog.cellsOf 71 = 4 := by kernel_rfl
  rcases open_slice Tryz.underlying65 h with ⟨e, _⟩ | ⟨a, len, cap, m, n, D, Pl, e, _, hl, hm, hmm, _, hx⟩
  · simp at e
    subst e
    exact ⟨[], Rw.Rd.nil _, fun r hr => by cases hr⟩
  · simp at e
    subst e
    have hlm : len ≤ m := by rw [hmm]; split <;> omega
    have each : ∀ i, i < m → ∃ r : R4, okR r ∧ ∀ j u, (K4.enc r)[j]? = some u → W.cell? (a.add (i * 4 + j)) = some u := fun i hi => by
      obtain ⟨cs', h1, h2⟩ := hx i hi
      rw [c4] at h1
      obtain ⟨_, hlen, hcell⟩ := World.cells?_some h1
      obtain ⟨r, rfl, ok⟩ := rec_cells h2
      refine ⟨r, ok, fun j u hu => ?_⟩
      have hj : j < 4 := by have := (List.getElem?_eq_some_iff.1 hu).1; rw [hlen] at this; exact this
      have e := hcell j hj
      rw [add_add] at e
      exact e.trans hu
    obtain ⟨q, hq⟩ := choose_lt each
    have hlen : ((List.range len).map q).length = len := by simp
    have get : ∀ i, i < len → ((List.range len).map q).getD i z4 = q i := fun i hi => by simp [List.getD, hi]
    refine ⟨(List.range len).map q, ⟨some a, cap, by rw [hlen], ⟨by rw [hlen]; exact hl, nofun⟩, hm, fun h0 => ?_⟩, fun r hr => ?_⟩
    · rw [hlen] at h0
      obtain ⟨b, off, spot⟩ := a
      have c0 := (hq 0 (by omega)).2 0 _ rfl
      have hs : spot = none := by simpa [Addr.add] using World.cell?_spot c0
      subst hs
      refine ⟨b, off, rfl, fun i hi j u hu => ?_⟩
      rw [hlen] at hi
      have hu' : (K4.enc (q i))[j]? = some u := by rw [← get i hi]; exact hu
      have c := (hq i (by omega)).2 j u hu'
      rw [add_plain] at c
      show W.cell? ⟨b, off + i * 4 + j, none⟩ = some u
      rw [Nat.add_assoc]
      exact c
    · obtain ⟨i, hi, rfl⟩ := List.mem_map.1 hr
      exact (hq i (by have := List.mem_range.1 hi; omega)).1
theorem file_of {H : Type} {enc : TypeId × Value → H} {W : World} {v : Value} {base : Nat} {sp : Nat → Bool} {held : Bool} {d : DataW H} {p : List MemPlace} {r : Reach} {b0 : Nat}
    (hv : Value.okWide Tryz.prog W r b0 67 v) (h : DataW.Trod enc Tryz.prog W base sp held 67 v d p) : ∃ q u l, v = file q u ∧ Rd K4 W u l ∧ okL l := by
  obtain ⟨⟨l⟩, rfl, hs⟩ := WideShapes.okWide_struct Tryz.underlying67 hv
  have c2 : Tryz.prog.cellsOf 67 = 2 := by kernel_rfl
  have c1 : Tryz.prog.cellsOf 3 = 1 := by kernel_rfl
  have c3 : Tryz.prog.cellsOf 65 = 1 := by kernel_rfl
  rw [c2] at hs
  obtain ⟨fuel, hf⟩ := h
  obtain ⟨xs, m, _, _, _, hx, hi⟩ := DataW.trod_struct Tryz.underlying67 hf
  match l, hs, xs, hx, hi with
  | [u, v], _, [x0, x1], _, hi =>
    have e0 : DataW.trod enc Tryz.prog W base sp held m 3 (([u, v].drop 0).take (Tryz.prog.cellsOf 3)) = some x0 := hi 0 _ rfl
    have e1 : DataW.trod enc Tryz.prog W base sp held m 65 (([u, v].drop 1).take (Tryz.prog.cellsOf 65)) = some x1 := hi 1 _ rfl
    rw [c1] at e0
    rw [c3] at e1
    obtain ⟨a, ha, _⟩ := DataW.trod_int Tryz.underlying3 (x := x0) e0
    simp at ha
    subst ha
    obtain ⟨l, R, ok⟩ := recs_of (u := v) e1
    exact ⟨a, v, l, rfl, R, ok⟩

end Go.Proofs.YtilacdjekdngkaaGreatDoor.Fl

/- Arguments of layer 10: deeds, and lists of deeds; the variable of package errors. -/
namespace Go.Proofs.YtilacdjekdngkaaGreatDoor.Fs
set_option maxRecDepth 100000
open Go.ChangeShapes Go.WideShapes Go.ChangeAt Go.RowKit Go.Deep
open Go.Proofs.YtilacdjekdngkaaGreatDoor.Rw (Rd Ow At)
open Go.Proofs.YtilacdjekdngkaaGreatDoor.Fl (R4 z4 K4 rec4 okR okL rec_cells recs_of)

section
variable {H : Type} {enc : TypeId × Value → H} {W : World} {base fuel : Nat} {sp : Nat → Bool} {held : Bool} {cs : List Value} {x : DataW H × List MemPlace}
theorem addr_cells (h : DataW.trod enc Tryz.prog W base sp held fuel 118 cs = some x) : ∃ o f r : Int, cs = [.int .i64 o, .int .i64 f, .int .i64 r] ∧ Wf f := by
  have c3 : Tryz.prog.cellsOf 118 = 3 := by kernel_rfl
  have c1 : Tryz.prog.cellsOf 3 = 1 := by kernel_rfl
  obtain ⟨xs, m, _, _, hs, hx, hi⟩ := DataW.trod_struct Tryz.underlying118 h
  rw [c3] at hs
  match cs, hs, xs, hx, hi with
  | [u0, u1, u2], _, [x0, x1, x2], _, hi =>
    have e0 : DataW.trod enc Tryz.prog W base sp held m 3 (([u0, u1, u2].drop 0).take (Tryz.prog.cellsOf 3)) = some x0 := hi 0 _ rfl
    have e1 : DataW.trod enc Tryz.prog W base sp held m 3 (([u0, u1, u2].drop 1).take (Tryz.prog.cellsOf 3)) = some x1 := hi 1 _ rfl
    have e2 : DataW.trod enc Tryz.prog W base sp held m 3 (([u0, u1, u2].drop 2).take (Tryz.prog.cellsOf 3)) = some x2 := hi 2 _ rfl
    rw [c1] at e0 e1 e2
    obtain ⟨a, ha, _, wa⟩ := DataW.trod_int Tryz.underlying3 (x := x0) e0
    obtain ⟨b, hb, _, wb⟩ := DataW.trod_int Tryz.underlying3 (x := x1) e1
    obtain ⟨c, hc, _, wc⟩ := DataW.trod_int Tryz.underlying3 (x := x2) e2
    simp at ha hb hc
    subst ha hb hc
    exact ⟨a, b, c, rfl, wb⟩
theorem file_cells (h : DataW.trod enc Tryz.prog W base sp held fuel 67 cs = some x) : ∃ q u l, cs = [.int .i64 q, u] ∧ Rd K4 W u l ∧ okL l := by
  have c2 : Tryz.prog.cellsOf 67 = 2 := by kernel_rfl
  have c1 : Tryz.prog.cellsOf 3 = 1 := by kernel_rfl
  have c3 : Tryz.prog.cellsOf 65 = 1 := by kernel_rfl
  obtain ⟨xs, m, _, _, hs, hx, hi⟩ := DataW.trod_struct Tryz.underlying67 h
  rw [c2] at hs
  match cs, hs, xs, hx, hi with
  | [u, v], _, [x0, x1], _, hi =>
    have e0 : DataW.trod enc Tryz.prog W base sp held m 3 (([u, v].drop 0).take (Tryz.prog.cellsOf 3)) = some x0 := hi 0 _ rfl
    have e1 : DataW.trod enc Tryz.prog W base sp held m 65 (([u, v].drop 1).take (Tryz.prog.cellsOf 65)) = some x1 := hi 1 _ rfl
    rw [c1] at e0
    rw [c3] at e1
    obtain ⟨a, ha, _⟩ := DataW.trod_int Tryz.underlying3 (x := x0) e0
    simp at ha
    subst ha
    obtain ⟨l, R, ok⟩ := recs_of (u := v) e1
    exact ⟨a, v, l, rfl, R, ok⟩
end

/-! ### the variable of package errors -/
def laid : List (String × DataW Unit) := [("errors.errorType", Rows.laid_errors_errorType)]
theorem et : Tryz.prog.globalNamed "errors.errorType" = some 0 := by kernel_rfl
theorem rt : (Tryz.prog.cutTypes.find? (·.1 == "internal/reflectlite.rtype")).map (·.2) = some 188 := by kernel_rfl
theorem oneRow : ((List.range 259).filter fun t => Tryz.prog.rowNamed t [101, 114, 114, 111, 114]) = [141] := by kernel_rfl
theorem tsize : Tryz.prog.types.size = 259 := by kernel_rfl
theorem glob_of {W : World} (h : laidMetH Tryz.prog laid W) : Glob W := by
  have h' : laidMet Tryz.prog [] W ∧ handlesMet Tryz.prog laid W := h
  obtain ⟨name, u, ty, e1, e2, e3, e4, e5⟩ := h'.2 _ (List.mem_singleton.2 rfl)
  have en : name = [101, 114, 114, 111, 114] := (Option.some.inj e1).symm
  subst en
  obtain rfl := Option.some.inj (rt.symm.trans e2)
  have hm : ty ∈ (List.range 259).filter fun t => Tryz.prog.rowNamed t [101, 114, 114, 111, 114] := List.mem_filter.2 ⟨List.mem_range.2 (by rw [← tsize]; exact e3), e4⟩
  rw [oneRow] at hm
  obtain rfl := List.mem_singleton.1 hm
  have hh : typeHandle Tryz.prog 141 = .pointer (some ⟨1, 141, none⟩) := by kernel_rfl
  rw [hh] at e5
  have := World.var?_cell et e5 0
  unfold Glob
  simpa using this
/-- A world that meets the condition: the settled one, the variable's cell laid. -/
noncomputable def laidWorld (os : Os) : World :=
  let w0 := World.holding Tryz.prog os ⟨#[], #[], []⟩
  { w0 with heap := w0.heap.modify 0 fun
      | .cells _ t frozen => .cells #[.iface 188 (.agg #[.pointer (some ⟨1, 141, none⟩)])] t frozen
      | o => o }
theorem laidWorld_met (os : Os) (args : Array Value) : laidMetH Tryz.prog laid ((laidWorld os).forCall (fun _ _ => 0) ⟨#[], args, []⟩).memory :=
  laidMetH_of_parts (laidMet_nil _ _) (by kernel_rfl)

end Go.Proofs.YtilacdjekdngkaaGreatDoor.Fs

/- Arguments of layer 11: what reads as an entry, as a slice of entries. -/
namespace Go.Proofs.YtilacdjekdngkaaGreatDoor.Ro
set_option maxRecDepth 100000
open Go.ChangeShapes Go.WideShapes Go.ChangeAt Go.RowKit Go.Deep
open Go.Proofs.YtilacdjekdngkaaGreatDoor.Rw (Rd Ow At)

theorem ent_cells {H : Type} {enc : TypeId × Value → H} {W : World} {base fuel : Nat} {sp : Nat → Bool} {held : Bool} {cs : List Value} {x : DataW H × List MemPlace}
    (h : DataW.trod enc Tryz.prog W base sp held fuel 75 cs = some x) : ∃ r : E5, cs = K5.enc r := by
  have c5 : Tryz.prog.cellsOf 75 = 5 := by kernel_rfl
  have c1 : Tryz.prog.cellsOf 3 = 1 := by kernel_rfl
  obtain ⟨xs, m, _, _, hs, hx, hi⟩ := DataW.trod_struct Tryz.underlying75 h
  rw [c5] at hs
  match cs, hs, xs, hx, hi with
  | [u0, u1, u2, u3, u4], _, [x0, x1, x2, x3, x4], _, hi =>
    have e0 : DataW.trod enc Tryz.prog W base sp held m 3 (([u0, u1, u2, u3, u4].drop 0).take (Tryz.prog.cellsOf 3)) = some x0 := hi 0 _ rfl
    have e1 : DataW.trod enc Tryz.prog W base sp held m 3 (([u0, u1, u2, u3, u4].drop 1).take (Tryz.prog.cellsOf 3)) = some x1 := hi 1 _ rfl
    have e2 : DataW.trod enc Tryz.prog W base sp held m 3 (([u0, u1, u2, u3, u4].drop 2).take (Tryz.prog.cellsOf 3)) = some x2 := hi 2 _ rfl
    have e3 : DataW.trod enc Tryz.prog W base sp held m 3 (([u0, u1, u2, u3, u4].drop 3).take (Tryz.prog.cellsOf 3)) = some x3 := hi 3 _ rfl
    have e4 : DataW.trod enc Tryz.prog W base sp held m 3 (([u0, u1, u2, u3, u4].drop 4).take (Tryz.prog.cellsOf 3)) = some x4 := hi 4 _ rfl
    rw [c1] at e0 e1 e2 e3 e4
    obtain ⟨a, ha, _⟩ := DataW.trod_int Tryz.underlying3 (x := x0) e0
    obtain ⟨b, hb, _⟩ := DataW.trod_int Tryz.underlying3 (x := x1) e1
    obtain ⟨c, hc, _⟩ := DataW.trod_int Tryz.underlying3 (x := x2) e2
    obtain ⟨d, hd, _⟩ := DataW.trod_int Tryz.underlying3 (x := x3) e3
    obtain ⟨e, he, _⟩ := DataW.trod_int Tryz.underlying3 (x := x4) e4
    simp at ha hb hc hd he
    subst ha hb hc hd he
    exact ⟨(a, b, c, d, e), rfl⟩
theorem ent_of {H : Type} {enc : TypeId × Value → H} {W : World} {v : Value} {base : Nat} {sp : Nat → Bool} {held : Bool} {d : DataW H} {p : List MemPlace} {r : Reach} {b0 : Nat}
    (hv : Value.okWide Tryz.prog W r b0 75 v) (h : DataW.Trod enc Tryz.prog W base sp held 75 v d p) : ∃ x : E5, v = ent x := by
  obtain ⟨⟨l⟩, rfl, hs⟩ := WideShapes.okWide_struct Tryz.underlying75 hv
  obtain ⟨fuel, hf⟩ := h
  obtain ⟨x, e⟩ := ent_cells hf
  have e' : l = K5.enc x := e
  subst e'
  exact ⟨x, rfl⟩
theorem ents_of {H : Type} {enc : TypeId × Value → H} {W : World} {v : Value} {base : Nat} {sp : Nat → Bool} {held : Bool} {d : DataW H} {p : List MemPlace} {r : Reach} {b0 : Nat}
    (hv : Value.okWide Tryz.prog W r b0 59 v) (h : DataW.Trod enc Tryz.prog W base sp held 59 v d p) : ∃ l, Rd K5 W v l := by
  have c5 : Tryz.prog.cellsOf 75 = 5 := by kernel_rfl
  obtain ⟨a0, len0, cap0, rfl⟩ := okWide_slice Tryz.underlying59 hv
  obtain ⟨fuel, hf⟩ := h
  rcases open_slice Tryz.underlying59 hf with ⟨e, _⟩ | ⟨a, len, cap, m, n, D, Pl, e, _, hl, hm, hmm, _, hx⟩
  · simp [Value.cells] at e
    obtain ⟨rfl, rfl, rfl⟩ := e
    exact ⟨[], Rw.Rd.nil _⟩
  · simp [Value.cells] at e
    obtain ⟨rfl, rfl, rfl⟩ := e
    have hlm : len0 ≤ m := by rw [hmm]; split <;> omega
    have each : ∀ i, i < m → ∃ r : E5, ∀ j u, (K5.enc r)[j]? = some u → W.cell? (a.add (i * 5 + j)) = some u := fun i hi => by
      obtain ⟨cs', h1, h2⟩ := hx i hi
      rw [c5] at h1
      obtain ⟨_, hlen, hcell⟩ := World.cells?_some h1
      obtain ⟨r, rfl⟩ := ent_cells h2
      refine ⟨r, fun j u hu => ?_⟩
      have hj : j < 5 := by have := (List.getElem?_eq_some_iff.1 hu).1; rw [hlen] at this; exact this
      have e := hcell j hj
      rw [add_add] at e
      exact e.trans hu
    obtain ⟨q, hq⟩ := choose_lt each
    have hlen : ((List.range len0).map q).length = len0 := by simp
    have get : ∀ i, i < len0 → ((List.range len0).map q).getD i z5 = q i := fun i hi => by simp [List.getD, hi]
    refine ⟨(List.range len0).map q, ⟨some a, cap0, by rw [hlen], ⟨by rw [hlen]; exact hl, nofun⟩, hm, fun h0 => ?_⟩⟩
    rw [hlen] at h0
    obtain ⟨b, off, spot⟩ := a
    have c0 := (hq 0 (by omega)) 0 _ rfl
    have hs : spot = none := by simpa [Addr.add] using World.cell?_spot c0
    subst hs
    refine ⟨b, off, rfl, fun i hi j u hu => ?_⟩
    rw [hlen] at hi
    have hu' : (K5.enc (q i))[j]? = some u := by rw [← get i hi]; exact hu
    have c := (hq i (by omega)) j u hu'
    rw [add_plain] at c
    show W.cell? ⟨b, off + i * 5 + j, none⟩ = some u
    rw [Nat.add_assoc]
    exact c

end Go.Proofs.YtilacdjekdngkaaGreatDoor.Ro

/- Arguments of layer 14: lists of cells, of spoils. -/
namespace Go.Proofs.YtilacdjekdngkaaGreatDoor.Pa
set_option maxRecDepth 100000
open Go.ChangeShapes Go.WideShapes Go.ChangeAt Go.RowKit Go.Deep
open Go.Proofs.YtilacdjekdngkaaGreatDoor.Rw (Rd Ow At)
open Go.Proofs.YtilacdjekdngkaaGreatDoor.Fl (R4 z4 K4 okR okL)
open Go.Proofs.YtilacdjekdngkaaGreatDoor.Fs (Ent E3 file_cells)
open Go.Proofs.YtilacdjekdngkaaGreatDoor.Ro (E5 K5 ent_cells)
open Go.Proofs.YtilacdjekdngkaaGreatDoor.Ck (Hd sl zh)

/-- A slice opened, its elements of any kind. -/
theorem open_rd {α : Type} {K : Rw.Kind α} (Q : α → Prop) {H : Type} {enc : TypeId × Value → H} {W : World} {u : Value} {base fuel : Nat} {sp : Nat → Bool} {held : Bool} {x : DataW H × List MemPlace} {T E : TypeId}
    (hu : Tryz.prog.underlying T = some (.slice E)) (hc : Tryz.prog.cellsOf E = K.n) (el : ∀ {n : Nat} {cs : List Value} {y : DataW H × List MemPlace}, DataW.trod enc Tryz.prog W base sp held n E cs = some y → ∃ r : α, cs = K.enc r ∧ Q r)
    (h : DataW.trod enc Tryz.prog W base sp held fuel T [u] = some x) : ∃ l, Rd K W u l ∧ ∀ r ∈ l, Q r := by
  rcases open_slice hu h with ⟨e, _⟩ | ⟨a, len, cap, m, n, D, Pl, e, _, hl, hm, hmm, _, hx⟩
  · simp at e
    subst e
    exact ⟨[], Rw.Rd.nil _, fun r hr => by cases hr⟩
  · simp at e
    subst e
    have hlm : len ≤ m := by rw [hmm]; split <;> omega
    have each : ∀ i, i < m → ∃ r : α, Q r ∧ ∀ j u, (K.enc r)[j]? = some u → W.cell? (a.add (i * K.n + j)) = some u := fun i hi => by
      obtain ⟨cs', h1, h2⟩ := hx i hi
      rw [hc] at h1
      obtain ⟨_, hlen, hcell⟩ := World.cells?_some h1
      obtain ⟨r, rfl, ok⟩ := el h2
      refine ⟨r, ok, fun j u hu => ?_⟩
      have hj : j < K.n := by have := (List.getElem?_eq_some_iff.1 hu).1; rw [hlen] at this; exact this
      have e := hcell j hj
      rw [add_add] at e
      exact e.trans hu
    haveI : Inhabited α := ⟨K.dft⟩
    obtain ⟨q, hq⟩ := choose_lt each
    have hlen : ((List.range len).map q).length = len := by simp
    have get : ∀ i, i < len → ((List.range len).map q).getD i K.dft = q i := fun i hi => by simp [List.getD, hi]
    refine ⟨(List.range len).map q, ⟨some a, cap, by rw [hlen], ⟨by rw [hlen]; exact hl, nofun⟩, hm, fun h0 => ?_⟩, fun r hr => ?_⟩
    · rw [hlen] at h0
      obtain ⟨b, off, spot⟩ := a
      have hp : 0 < (K.enc (q 0)).length := by rw [K.len]; exact K.pos
      have c0 := (hq 0 (by omega)).2 0 _ (List.getElem?_eq_getElem hp)
      have hs : spot = none := by simpa [Addr.add] using World.cell?_spot c0
      subst hs
      refine ⟨b, off, rfl, fun i hi j u hu => ?_⟩
      rw [hlen] at hi
      have hu' : (K.enc (q i))[j]? = some u := by rw [← get i hi]; exact hu
      have c := (hq i (by omega)).2 j u hu'
      rw [add_plain] at c
      show W.cell? ⟨b, off + i * K.n + j, none⟩ = some u
      rw [Nat.add_assoc]
      exact c
    · obtain ⟨i, hi, rfl⟩ := List.mem_map.1 hr
      exact (hq i (by have := List.mem_range.1 hi; omega)).1
section
variable {H : Type} {enc : TypeId × Value → H} {W : World} {base fuel : Nat} {sp : Nat → Bool} {held : Bool} {cs : List Value} {x : DataW H × List MemPlace}
theorem named_cells (h : DataW.trod enc Tryz.prog W base sp held fuel 69 cs = some x) : ∃ c : Ent, cs = E3.enc c ∧ Rd K4 W c.sl c.l ∧ okL c.l := by
  have c3 : Tryz.prog.cellsOf 69 = 3 := by kernel_rfl
  have c1 : Tryz.prog.cellsOf 3 = 1 := by kernel_rfl
  have c2 : Tryz.prog.cellsOf 67 = 2 := by kernel_rfl
  obtain ⟨xs, m, _, _, hs, hx, hi⟩ := DataW.trod_struct Tryz.underlying69 h
  rw [c3] at hs
  match cs, hs, xs, hx, hi with
  | [u0, u1, u2], _, [x0, x1], _, hi =>
    have e0 : DataW.trod enc Tryz.prog W base sp held m 3 (([u0, u1, u2].drop 0).take (Tryz.prog.cellsOf 3)) = some x0 := hi 0 _ rfl
    have e1 : DataW.trod enc Tryz.prog W base sp held m 67 (([u0, u1, u2].drop 1).take (Tryz.prog.cellsOf 67)) = some x1 := hi 1 _ rfl
    rw [c1] at e0
    rw [c2] at e1
    obtain ⟨k, hk, _, wk⟩ := DataW.trod_int Tryz.underlying3 (x := x0) e0
    obtain ⟨p, u, l, h3, R, okl⟩ := file_cells e1
    obtain ⟨a, cap, rfl, _⟩ := R.slice
    have k' : [u0] = [.int .i64 k] := hk
    have h3' : [u1, u2] = [.int .i64 p, .slice a l.length cap] := h3
    simp only [List.cons.injEq, and_true] at k' h3'
    obtain rfl := k'
    obtain ⟨rfl, rfl⟩ := h3'
    exact ⟨⟨k, p, a, cap, l⟩, rfl, R, okl⟩
theorem spoil_cells (h : DataW.trod enc Tryz.prog W base sp held fuel 64 cs = some x) : ∃ c : S2, cs = K2.enc c ∧ True := by
  have c3 : Tryz.prog.cellsOf 64 = 2 := by kernel_rfl
  have c1 : Tryz.prog.cellsOf 3 = 1 := by kernel_rfl
  obtain ⟨xs, m, _, _, hs, hx, hi⟩ := DataW.trod_struct Tryz.underlying64 h
  rw [c3] at hs
  match cs, hs, xs, hx, hi with
  | [u0, u1], _, [x0, x1], _, hi =>
    have e0 : DataW.trod enc Tryz.prog W base sp held m 3 (([u0, u1].drop 0).take (Tryz.prog.cellsOf 3)) = some x0 := hi 0 _ rfl
    have e1 : DataW.trod enc Tryz.prog W base sp held m 3 (([u0, u1].drop 1).take (Tryz.prog.cellsOf 3)) = some x1 := hi 1 _ rfl
    rw [c1] at e0 e1
    obtain ⟨k, hk, _, _⟩ := DataW.trod_int Tryz.underlying3 (x := x0) e0
    obtain ⟨p, hp, _, _⟩ := DataW.trod_int Tryz.underlying3 (x := x1) e1
    have k' : [u0] = [.int .i64 k] := hk
    have p' : [u1] = [.int .i64 p] := hp
    simp only [List.cons.injEq, and_true] at k' p'
    obtain rfl := k'
    obtain rfl := p'
    exact ⟨(k, p), rfl, trivial⟩
/-- What is known of a cell, as it lies in a world. -/
def CelOk (W : World) (c : Cel) : Prop := Rd E3 W (sl c.files) c.F ∧ (∀ e ∈ c.F, Rd K4 W e.sl e.l ∧ okL e.l) ∧ Rd K5 W (sl c.table) c.T
theorem any_slice {T E : TypeId} {u : Value} (hu : Tryz.prog.underlying T = some (.slice E)) (h : DataW.trod enc Tryz.prog W base sp held fuel T [u] = some x) : ∃ s : Hd, u = sl s := by
  rcases open_slice hu h with ⟨e, _⟩ | ⟨a, len, cap, m, n, D, Pl, e, _⟩
  · simp at e
    exact ⟨zh, e⟩
  · simp at e
    exact ⟨(some a, len, cap), e⟩
theorem cell_cells (h : DataW.trod enc Tryz.prog W base sp held fuel 83 cs = some x) : ∃ c : Cel, cs = KC.enc c ∧ CelOk W c := by
  have c4 : Tryz.prog.cellsOf 83 = 4 := by kernel_rfl
  have d0 : Tryz.prog.cellsOf 37 = 1 := by kernel_rfl
  have d1 : Tryz.prog.cellsOf 59 = 1 := by kernel_rfl
  have d2 : Tryz.prog.cellsOf 4 = 1 := by kernel_rfl
  have d3 : Tryz.prog.cellsOf 81 = 1 := by kernel_rfl
  obtain ⟨xs, m, _, _, hs, hx, hi⟩ := DataW.trod_struct Tryz.underlying83 h
  rw [c4] at hs
  match cs, hs, xs, hx, hi with
  | [u0, u1, u2, u3], _, [x0, x1, x2, x3], _, hi =>
    have e0 : DataW.trod enc Tryz.prog W base sp held m 37 (([u0, u1, u2, u3].drop 0).take (Tryz.prog.cellsOf 37)) = some x0 := hi 0 _ rfl
    have e1 : DataW.trod enc Tryz.prog W base sp held m 59 (([u0, u1, u2, u3].drop 1).take (Tryz.prog.cellsOf 59)) = some x1 := hi 1 _ rfl
    have e2 : DataW.trod enc Tryz.prog W base sp held m 4 (([u0, u1, u2, u3].drop 2).take (Tryz.prog.cellsOf 4)) = some x2 := hi 2 _ rfl
    have e3 : DataW.trod enc Tryz.prog W base sp held m 81 (([u0, u1, u2, u3].drop 3).take (Tryz.prog.cellsOf 81)) = some x3 := hi 3 _ rfl
    rw [d0] at e0
    rw [d1] at e1
    rw [d2] at e2
    rw [d3] at e3
    obtain ⟨F, RF, QF⟩ := open_rd (K := E3) (fun c => Rd K4 W c.sl c.l ∧ okL c.l) Tryz.underlying37 (by kernel_rfl) (fun h => named_cells h) (u := u0) e0
    obtain ⟨T, RT, _⟩ := open_rd (K := K5) (fun _ => True) Tryz.underlying59 (by kernel_rfl) (fun h => by obtain ⟨r, e⟩ := ent_cells h; exact ⟨r, e, trivial⟩) (u := u1) e1
    obtain ⟨b, hb, _⟩ := DataW.trod_bool Tryz.underlying4 (x := x2) e2
    obtain ⟨s3, rfl⟩ := any_slice Tryz.underlying81 (u := u3) e3
    obtain ⟨s0, rfl⟩ := any_slice Tryz.underlying37 (u := u0) e0
    obtain ⟨s1, rfl⟩ := any_slice Tryz.underlying59 (u := u1) e1
    have b' : [u2] = [.bool b] := hb
    simp only [List.cons.injEq, and_true] at b'
    obtain rfl := b'
    exact ⟨⟨s0, s1, b, s3, F, T⟩, rfl, RF, QF, RT⟩
end
theorem cells_of {H : Type} {enc : TypeId × Value → H} {W : World} {v : Value} {base : Nat} {sp : Nat → Bool} {held : Bool} {d : DataW H} {p : List MemPlace} {r : Reach} {b0 : Nat}
    (hv : Value.okWide Tryz.prog W r b0 22 v) (h : DataW.Trod enc Tryz.prog W base sp held 22 v d p) : ∃ L, Cls W v L := by
  obtain ⟨a, len, cap, rfl⟩ := okWide_slice Tryz.underlying22 hv
  obtain ⟨fuel, hf⟩ := h
  obtain ⟨L, R, Q⟩ := open_rd (K := KC) (CelOk W) Tryz.underlying22 (by kernel_rfl) (fun h => cell_cells h) (u := .slice a len cap) hf
  have at_ : ∀ i, i < L.length → cel L i ∈ L := fun i hi => by
    unfold cel
    rw [List.getD_eq_getElem?_getD, List.getElem?_eq_getElem hi]
    exact List.getElem_mem hi
  refine ⟨L, R, fun i hi => ?_, fun i hi => (Q _ (at_ i hi)).2.2⟩
  obtain ⟨q1, q2, _⟩ := Q _ (at_ i hi)
  have mem : ∀ j, j < (cel L i).F.length → eatF (cel L i).F j ∈ (cel L i).F := fun j hj => by
    unfold eatF
    rw [List.getD_eq_getElem?_getD, List.getElem?_eq_getElem hj]
    exact List.getElem_mem hj
  exact ⟨q1, fun j hj => q2 _ (mem j hj), fun j hj h0 k hk => Fs.rd_low (q2 _ (mem j hj)).1 h0 k hk⟩
theorem spoils_of {H : Type} {enc : TypeId × Value → H} {W : World} {v : Value} {base : Nat} {sp : Nat → Bool} {held : Bool} {d : DataW H} {p : List MemPlace} {r : Reach} {b0 : Nat}
    (hv : Value.okWide Tryz.prog W r b0 23 v) (h : DataW.Trod enc Tryz.prog W base sp held 23 v d p) : ∃ l, Rd K2 W v l := by
  obtain ⟨a, len, cap, rfl⟩ := okWide_slice Tryz.underlying23 hv
  obtain ⟨fuel, hf⟩ := h
  obtain ⟨l, R, _⟩ := open_rd (K := K2) (fun _ => True) Tryz.underlying23 (by kernel_rfl) (fun h => spoil_cells h) (u := .slice a len cap) hf
  exact ⟨l, R⟩

end Go.Proofs.YtilacdjekdngkaaGreatDoor.Pa

/- Plain mathematics of PartWhole: what is heard where nothing is turned and all are live, and where one bit is; a record behind such a round. -/
namespace Go.Proofs.YtilacdjekdngkaaGreatDoor.Pa
open Go.RowKit
open Go.Proofs.YtilacdjekdngkaaGreatDoor.Fl (R4 z4 rat goodF okR okL newR)
open Go.Proofs.YtilacdjekdngkaaGreatDoor.Fs (Fil Abs key Srt OkA gB gV sB sA dA dE dD dV look_some look_none look_at put_set)
open Go.Proofs.YtilacdjekdngkaaGreatDoor.Ro (E5 z5 okE eat mayP eat_get)
open Go.Proofs.YtilacdjekdngkaaGreatDoor.Ck (LL lat sN sE tE gaN pg who_hit t_gap)
open Go.Proofs.YtilacdjekdngkaaGreatDoor.Ua (bit frm te tp tb upd turn par)

/-! ### what is executed elsewhere -/
theorem look_put {A : Abs} (h : Srt key A) {c e : Fil} {n : Int} (hc : Fs.look key c.1 A = some e) : Fs.look key n (Fs.put key c A) = if n = c.1 then some c else Fs.look key n A := by
  have hs := Fs.srt_put (κ := key) (c := c) h
  by_cases hn : n = c.1
  · subst hn
    rw [if_pos rfl]
    exact look_at (κ := key) hs ((Fs.mem_put (κ := key)).2 (.inl rfl))
  · rw [if_neg hn]
    rcases e2 : Fs.look key n A with _ | d
    · rw [look_none (κ := key)] at e2 ⊢
      intro x hx
      rcases (Fs.mem_put (κ := key)).1 hx with rfl | ⟨hx, _⟩
      · exact fun g => hn g.symm
      · exact e2 x hx
    · obtain ⟨hm, hk⟩ := look_some (κ := key) e2
      have hd : d.1 = n := hk
      have hm2 : d ∈ Fs.put key c A := (Fs.mem_put (κ := key)).2 (.inr ⟨hm, fun g => hn (hd.symm.trans g)⟩)
      have := look_at (κ := key) hs hm2
      rw [show key d = n from hk] at this
      exact this
theorem gV_do {A : Abs} (hA : OkA A) {o f r n j : Int} {x : R4} (h : ¬ (f = n ∧ r = j)) : gV (dA A o f r x) n j = gV A n j := by
  unfold dA
  split
  · rfl
  · rename_i e he
    split
    · rename_i h0
      unfold gV
      rw [look_put (c := (f, e.2.1, e.2.2.set r.toNat (newR e.2.2 o r x))) hA.srt he]
      by_cases hn : n = f
      · subst hn
        rw [if_pos rfl, he]
        simp only [List.length_set]
        have hr : 0 ≤ r := by
          unfold dE at h0
          split at h0
          · rw [he] at h0
            exact (Fl.doE_of h0).2.2.1
          · omega
        split
        · rename_i hj
          unfold rat
          rw [List.getD_eq_getElem?_getD, List.getD_eq_getElem?_getD, List.getElem?_set_ne (by omega)]
        · rfl
      · rw [if_neg hn]
    · rfl
theorem gB_do {A : Abs} (hA : OkA A) {o f r n j : Int} {x : R4} : gB (dA A o f r x) n j = gB A n j := by
  unfold dA
  split
  · rfl
  · rename_i e he
    split
    · unfold gB
      rw [look_put (c := (f, e.2.1, e.2.2.set r.toNat (newR e.2.2 o r x))) hA.srt he]
      by_cases hn : n = f
      · subst hn
        rw [if_pos rfl, he]
        simp only [List.length_set]
      · rw [if_neg hn]
    · rfl
theorem gV_ex {n j : Int} : ∀ (t : List E5) {s : Abs × Int}, OkA s.1 → (∀ x ∈ t, ¬ (x.1 = 3 ∧ x.2.2.1 = n ∧ x.2.2.2.1 = j)) → gV (t.foldl ex1 s).1 n j = gV s.1 n j
  | [], _, _, _ => rfl
  | x :: r, s, hs, h => by
    have h0 := h x (List.mem_cons_self ..)
    have hr : ∀ y ∈ r, ¬ (y.1 = 3 ∧ y.2.2.1 = n ∧ y.2.2.2.1 = j) := fun y hy => h y (List.mem_cons_of_mem _ hy)
    rw [List.foldl_cons]
    by_cases h3 : x.1 = 3
    · have e : ex1 s x = (dA s.1 2 x.2.2.1 x.2.2.2.1 z4, dD s.1 2 x.2.2.1 x.2.2.2.1 s.2) := by unfold ex1; rw [if_pos h3]
      rw [e, gV_ex r (hs.do Fl.okR_z) hr]
      exact gV_do hs fun g => h0 ⟨h3, g⟩
    · have e : ex1 s x = s := by unfold ex1; rw [if_neg h3]
      rw [e]
      exact gV_ex r hs hr
theorem okA_rec {h : Hr} (hh : okH h) {t : List E5} {V : Int → Int → Bool} (hV : ∀ n, V n 0 = true → grp t n 0 = []) {A : Abs} (hA : OkA A) : OkA (recV h t V A) := by
  refine ⟨(Fs.map_srt (κ := key) (κ' := key) (f := recF h t V) (fun _ => rfl)).2 hA.srt, fun e he => ?_, fun e he => ?_, fun e he => ?_⟩
  all_goals
    obtain ⟨c, hc, rfl⟩ := List.mem_map.1 he
  · exact hA.nm c hc
  · obtain ⟨g1, g2, g3, g4, g5⟩ := hA.good c hc
    refine ⟨g1, g2, by rw [recF_len]; exact g3, by rw [recF_len]; exact g4, ?_⟩
    rw [recF_len]
    have := recF_rat (h := h) (t := t) (V := V) c (k := 0) (by omega)
    rw [show ((0 : Nat) : Int) = 0 from rfl] at this
    rw [this]
    split
    · rename_i hv
      rw [hV _ hv, newV_nil]
      exact g5
    · exact g5
  · intro r hr
    obtain ⟨k, hk⟩ := List.getElem?_of_mem hr
    rw [recF_get] at hk
    rcases e : c.2.2[k]? with _ | v
    · rw [e] at hk; cases hk
    · rw [e] at hk
      simp only [Option.map_some, Option.some.injEq] at hk
      have hv : okR v := hA.ok c hc v (List.mem_of_getElem? e)
      rw [← hk]
      split
      · exact newV_ok hh _ hv
      · exact hv
/-- A record behind a round, where nothing is executed on it. -/
theorem gV_ap {h : Hr} (hh : okH h) {t : List E5} (ok : ∀ x ∈ t, okE x) {A : Abs} {d : Int} (hA : OkA A) {n j : Int} (hg : gB A n j = true) (hx : ∀ x ∈ t, ¬ (x.1 = 3 ∧ x.2.2.1 = n ∧ x.2.2.2.1 = j)) : gV (apS h t (A, d)).1 n j = newV h (grp t n j) (gV A n j) := by
  unfold apS
  have h0 : ∀ n, (fun _ _ => true : Int → Int → Bool) n 0 = true → grp t n 0 = [] := fun n _ => List.filter_eq_nil_iff.2 fun x hx2 g => by
    have k := ok x hx2
    unfold mt at g
    have g := of_decide_eq_true g
    unfold okE Ro.place at k
    omega
  rw [gV_ex t (s := (recA h t A, d)) (okA_rec hh h0 hA) hx]
  show gV (recV h t (fun _ _ => true) A) n j = _
  rw [rec_gV n j hg, if_pos rfl]

/-! ### what is heard -/
section
variable {S : Sts} {T : LL} {V : List Bool} {s : Int}
theorem frF_nil (P : List S2) (h : ∀ x ∈ P, x.1 ≠ s) (hs : snB S T V s = true) : frF S T V P s = frm (snX S T s) false := by
  unfold frF
  rw [if_pos hs]
  unfold sq
  rw [List.take_length]
  induction P with
  | nil => rfl
  | cons x r ih =>
    have e : sq1 s (frm (snX S T s) false) x = frm (snX S T s) false := by unfold sq1; rw [if_neg (h x (List.mem_cons_self ..))]
    rw [List.foldl_cons, e]
    exact ih fun y hy => h y (List.mem_cons_of_mem _ hy)
/-- Where no frame of the slot is turned. -/
theorem hr_plain (ok : ∀ n, OkA (sat S n).1) (P : List S2) (h : ∀ x ∈ P, x.1 ≠ s) (h1 : 1 ≤ s) (h2 : s ≤ 16) : hr S T V P s = if snB S T V s = true then some (snX S T s) else none := by
  cases hs : snB S T V s with
  | false =>
    unfold hr hrB
    rw [hs]
    simp
  | true =>
    have hF := frF_nil P h hs
    have hb : byt (snX S T s) := rb_ok (gV_ok (ok _) _ _) _
    have hB : hrB S T V P s = true := by unfold hrB; rw [hs, hF, Ua.tp_frm, Ua.te_frm]; rfl
    unfold hr
    rw [if_pos ⟨h1, h2, hB⟩, if_pos rfl]
    unfold hrV
    rw [if_pos hB, hF, Ua.tb_frm _ _ hb.1 hb.2]
theorem bit_pow {j i : Nat} (hj : j < 11) (hi : i < 11) : bit ((2 ^ j : Nat) : Int) i = decide (i = j) := by
  have : ∀ j : Fin 11, ∀ i : Fin 11, bit ((2 ^ j.val : Nat) : Int) i.val = decide (i.val = j.val) := by decide +kernel
  exact this ⟨j, hj⟩ ⟨i, hi⟩
theorem par_pow {j : Nat} (h1 : 1 ≤ j) (h9 : j ≤ 9) : par (bit ((2 ^ j : Nat) : Int)) 9 = true := by
  have : ∀ j : Fin 10, 1 ≤ j.val → par (bit ((2 ^ j.val : Nat) : Int)) 9 = true := by decide +kernel
  exact this ⟨j, by omega⟩ h1
/-- Of a slot of which one bit is turned nothing is heard. -/
theorem hr_one {j : Nat} (h1 : 1 ≤ j) (h9 : j ≤ 9) : hr S T V [(s, ((2 ^ j : Nat) : Int))] s = none := by
  have hB : hrB S T V [(s, ((2 ^ j : Nat) : Int))] s = false := by
    unfold hrB
    cases hs : snB S T V s with
    | false => rfl
    | true =>
      have hF : frF S T V [(s, ((2 ^ j : Nat) : Int))] s = tn (frm (snX S T s) false) ((2 ^ j : Nat) : Int) := by
        unfold frF
        rw [if_pos hs]
        show sq1 s (frm (snX S T s) false) (s, ((2 ^ j : Nat) : Int)) = _
        unfold sq1
        rw [if_pos rfl]
      have hT : tp (tn (frm (snX S T s) false) ((2 ^ j : Nat) : Int)) = true := by
        have h0 : bit ((2 ^ j : Nat) : Int) 0 = false := by rw [bit_pow (by omega) (by omega), decide_eq_false (by omega)]
        have h10 : bit ((2 ^ j : Nat) : Int) 10 = false := by rw [bit_pow (by omega) (by omega), decide_eq_false (by omega)]
        have e : ∀ i, i < 11 → tn (frm (snX S T s) false) ((2 ^ j : Nat) : Int) i = turn (frm (snX S T s) false) ((2 ^ j : Nat) : Int) 11 i := fun i hi => by
          unfold tn turn
          by_cases q : 1 ≤ i
          · rw [if_pos ⟨q, hi⟩, if_pos hi]
          · obtain rfl : i = 0 := by omega
            rw [if_neg (by omega), if_pos hi, h0]
            simp
        have e2 : Ua.bad (tn (frm (snX S T s) false) ((2 ^ j : Nat) : Int)) = Ua.bad (turn (frm (snX S T s) false) ((2 ^ j : Nat) : Int) 11) := by unfold Ua.bad; rw [e 0 (by omega), e 10 (by omega)]
        have e3 := Ua.par_congr (F := tn (frm (snX S T s) false) ((2 ^ j : Nat) : Int)) (G := turn (frm (snX S T s) false) ((2 ^ j : Nat) : Int) 11) 9 (fun i _ h => e i (by omega))
        have t := Ua.tp_turn (snX S T s) false ((2 ^ j : Nat) : Int) h0 h10
        unfold tp at t ⊢
        rw [e2, e3, t, par_pow h1 h9]
        rfl
      rw [hF, hT]
      simp
  unfold hr
  rw [hB]
  simp
end
/-- Who receives where tables fit has a sender. -/
theorem has_sender {T : LL} (ok : tE T = 0) {k : Nat} (hk : k < T.length) {x : E5} (hx : x ∈ lat T k) (h2 : x.1 = 2) : 0 ≤ sN x.2.1 T := by
  by_cases h : 0 ≤ sN x.2.1 T
  · exact h
  · have hp : pg T k x = true := decide_eq_true ⟨h2, by omega⟩
    have := (who_hit (p := pg T) hk hx hp).1
    have g : 0 ≤ gaN T := this
    unfold tE at ok
    split at ok
    · omega
    · split at ok
      · omega
      · first
          | omega
          | (rw [if_pos g] at ok; omega)

/-! ### the law's own record -/
/-- As the law goes through a table: what is received is put in, where it was sent. -/
def wst (h : Hr) (n j : Int) (v : R4) (y : E5) : R4 := if (mt n j y && (h y.2.1).isSome) = true then rs v y.2.2.2.2 ((h y.2.1).getD 0) else v
def wV (h : Hr) (t : List E5) (n j : Int) (v : R4) (k : Nat) : R4 := (t.take k).foldl (wst h n j) v
def at_ (n j : Int) (y : E5) : Bool := decide (y.2.2.1 = n ∧ y.2.2.2.1 = j)
def wr1 (h : Hr) (n j : Int) (y : E5) : Bool := at_ n j y && (decide (y.1 = 3) || decide (y.1 = 2) && !(h y.2.1).isSome)
def wh1 (c n j : Int) (y : E5) : Bool := at_ n j y && (decide (y.1 = 2) && decide (y.2.1 = c))
def wR (h : Hr) (t : List E5) (n j : Int) (k : Nat) : Bool := (t.take k).any (wr1 h n j)
def wH (c : Int) (t : List E5) (n j : Int) (k : Nat) : Bool := (t.take k).any (wh1 c n j)
section
variable {h : Hr} {t : List E5} {n j c : Int} {v : R4} {k : Nat}
theorem wV_zero : wV h t n j v 0 = v := rfl
theorem wR_zero : wR h t n j 0 = false := by simp [wR]
theorem wH_zero : wH c t n j 0 = false := by simp [wH]
theorem wV_next (hk : k < t.length) : wV h t n j v (k + 1) = wst h n j (wV h t n j v k) (eat t k) := by unfold wV; rw [take_eat hk, List.foldl_append]; rfl
theorem wR_next (hk : k < t.length) : wR h t n j (k + 1) = (wR h t n j k || wr1 h n j (eat t k)) := by unfold wR; rw [take_eat hk, List.any_append]; simp
theorem wH_next (hk : k < t.length) : wH c t n j (k + 1) = (wH c t n j k || wh1 c n j (eat t k)) := by unfold wH; rw [take_eat hk, List.any_append]; simp
theorem mt_at (y : E5) : mt n j y = (decide (y.1 = 2) && at_ n j y) := by unfold mt at_; rw [← Bool.decide_and]
theorem wst_fold : ∀ (l : List E5) (v : R4), (∀ y ∈ l, mt n j y = true → (h y.2.1).isSome = true) → l.foldl (wst h n j) v = mix h (grp l n j) v
  | [], _, _ => rfl
  | y :: r, v, hl => by
    have hr : ∀ z ∈ r, mt n j z = true → (h z.2.1).isSome = true := fun z hz => hl z (List.mem_cons_of_mem _ hz)
    rw [List.foldl_cons]
    unfold grp
    by_cases e : mt n j y = true
    · have e2 := hl y (List.mem_cons_self ..) e
      rw [List.filter_cons_of_pos e, mix_cons, wst, if_pos (by rw [e, e2]; rfl)]
      exact wst_fold r _ hr
    · rw [List.filter_cons_of_neg e, wst, if_neg (by simp [e])]
      exact wst_fold r _ hr
/-- At the end of a table. -/
theorem w_end (hh : okH h) (ok : ∀ x ∈ t, okE x) {A : Abs} {d : Int} (hA : OkA A) (hg : gB A n j = true) (hr : wR h t n j t.length = false) :
    gV (apS h t (A, d)).1 n j = wV h t n j (gV A n j) t.length ∧
    ∀ h' : Hr, okH h' → (∀ s, s ≠ c → h' s = h s) → h' c = none → gV (apS h' t (A, d)).1 n j = if wH c t n j t.length = true then gV A n j else wV h t n j (gV A n j) t.length := by
  unfold wR at hr
  rw [List.take_length, List.any_eq_false] at hr
  have hx : ∀ x ∈ t, ¬ (x.1 = 3 ∧ x.2.2.1 = n ∧ x.2.2.2.1 = j) := fun x hx ⟨g1, g2, g3⟩ => hr x hx (by simp [wr1, at_, g1, g2, g3])
  have hm : ∀ y ∈ t, mt n j y = true → (h y.2.1).isSome = true := fun y hy g => by
    have q := hr y hy
    rw [mt_at, Bool.and_eq_true] at g
    unfold wr1 at q
    rw [g.1, g.2] at q
    rcases e : (h y.2.1).isSome with _ | _
    · rw [e] at q; simp at q
    · rfl
  have hall : allH h (grp t n j) = true := by
    unfold allH grp
    rw [List.all_eq_true]
    intro y hy
    obtain ⟨hy1, hy2⟩ := List.mem_filter.1 hy
    exact hm y hy1 hy2
  have hmix : mix h (grp t n j) (gV A n j) = wV h t n j (gV A n j) t.length := by
    unfold wV
    rw [List.take_length]
    exact (wst_fold t _ hm).symm
  refine ⟨?_, fun h' hh' hs hc => ?_⟩
  · rw [gV_ap hh ok hA hg hx]
    unfold newV
    rw [if_pos hall, hmix]
  · rw [gV_ap hh' ok hA hg hx]
    unfold wH
    rw [List.take_length]
    by_cases e : t.any (wh1 c n j) = true
    · rw [if_pos e]
      obtain ⟨y, hy, g⟩ := List.any_eq_true.1 e
      unfold wh1 at g
      simp only [Bool.and_eq_true, decide_eq_true_eq] at g
      obtain ⟨g1, g2, g3⟩ := g
      unfold newV
      rw [if_neg]
      intro q
      unfold allH grp at q
      rw [List.all_eq_true] at q
      have := q y (List.mem_filter.2 ⟨hy, by rw [mt_at, g1, decide_eq_true g2]; rfl⟩)
      rw [g3, hc] at this
      cases this
    · rw [if_neg e]
      have same : ∀ y ∈ grp t n j, h' y.2.1 = h y.2.1 := fun y hy => by
        obtain ⟨hy1, hy2⟩ := List.mem_filter.1 hy
        refine hs _ fun q => e (List.any_eq_true.2 ⟨y, hy1, ?_⟩)
        rw [mt_at, Bool.and_eq_true] at hy2
        unfold wh1
        rw [hy2.2, hy2.1, decide_eq_true q]
        rfl
      have ha : allH h' (grp t n j) = true := by
        unfold allH at hall ⊢
        rw [List.all_eq_true] at hall ⊢
        intro y hy
        rw [same y hy]
        exact hall y hy
      have hmx : ∀ (l : List E5) (v : R4), (∀ y ∈ l, h' y.2.1 = h y.2.1) → mix h' l v = mix h l v := fun l => by
        induction l with
        | nil => intro v _; rfl
        | cons y r ih =>
          intro v q
          rw [mix_cons, mix_cons, q y (List.mem_cons_self ..)]
          exact ih _ fun z hz => q z (List.mem_cons_of_mem _ hz)
      unfold newV
      rw [if_pos ha, hmx _ _ same, hmix]
end

/-! ### both rounds of the law -/
structure Wf2 (S : Sts) (T : LL) (h1 h2 : Hr) (c : Int) : Prop where
  o1 : okH h1
  o2 : okH h2
  no : h2 c = none
  same : ∀ s, s ≠ c → h2 s = h1 s
  hs : ∀ s, 1 ≤ s → s ≤ 16 → 0 ≤ sN s T → h1 s = if gB (sat S (sN s T)).1 (sE s T).2.2.1 (sE s T).2.2.2.1 = true then some (rb (gV (sat S (sN s T)).1 (sE s T).2.2.1 (sE s T).2.2.2.1) (sE s T).2.2.2.2) else none
theorem wf2_of {S : Sts} {T : LL} {V : List Bool} (okS : ∀ i, i < S.length → OkA (sat S i).1) (ok : tE T = 0) (hV : ∀ i, i < T.length → vat V i = true) {c : Int} {j : Nat} (h1 : 1 ≤ j) (h9 : j ≤ 9) : Wf2 S T (hr S T V []) (hr S T V [(c, ((2 ^ j : Nat) : Int))]) c := by
  have okA : ∀ n : Int, OkA (sat S n).1 := fun n => by
    by_cases h : n.toNat < S.length
    · have := okS n.toNat h
      unfold sat at this ⊢
      rwa [Int.toNat_natCast] at this
    · unfold sat
      rw [List.getD_eq_getElem?_getD, List.getElem?_eq_none (by omega)]
      exact OkA.nil
  refine ⟨hr_ok _ _ _ _, hr_ok _ _ _ _, hr_one h1 h9, fun s hs => ?_, fun s s1 s16 h0 => ?_⟩
  · by_cases hb : 1 ≤ s ∧ s ≤ 16
    · rw [hr_plain okA _ (fun x hx => by simp at hx; rw [hx]; exact fun e => hs e.symm) hb.1 hb.2, hr_plain okA [] (fun x hx => by cases hx) hb.1 hb.2]
    · unfold hr
      rw [if_neg fun g => hb ⟨g.1, g.2.1⟩, if_neg fun g => hb ⟨g.1, g.2.1⟩]
  · rw [hr_plain okA [] (fun x hx => by cases hx) s1 s16]
    obtain ⟨q, e, hq, _⟩ := sender_is ok h0
    have : snB S T V s = gB (sat S (sN s T)).1 (sE s T).2.2.1 (sE s T).2.2.2.1 := by
      unfold snB
      rw [decide_eq_true h0, e, hV q hq]
      rfl
    rw [this]
    rfl
theorem pow_w {j : Nat} (h : j ≤ 9) : wrap64 (2 ^ j) = ((2 ^ j : Nat) : Int) := by
  have : ∀ j : Fin 10, wrap64 (2 ^ j.val) = ((2 ^ j.val : Nat) : Int) := by decide +kernel
  exact this ⟨j, by omega⟩

end Go.Proofs.YtilacdjekdngkaaGreatDoor.Pa
