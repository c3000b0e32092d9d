/- file.Do. -/
import Derived.Test.YtoeemngekioldaaDoorFlWrong
import Derived.Test.YtoeemngekioldaaDoorFlNew
import Derived.Test.YtoeemngekioldaaDoorFlInc
import Derived.Test.YtoeemngekioldaaDoorSf
namespace Go.Proofs.YtoeemngekioldaaDoor.Fl
set_option maxRecDepth 100000
open Go.RowKit
open Go.Proofs.YtoeemngekioldaaDoor.Rw (Rd Ow At)
attribute [local irreducible] Sd.wpSd wpQuiet Sf.wpSf

theorem rat_set (l : List R4) (k : Nat) (hk : k < l.length) (y : R4) : rat (l.set k y) k = y := by simp [rat, List.getD, hk]
theorem set_rat (l : List R4) (k : Nat) (hk : k < l.length) : l.set k (rat l k) = l := by
  have : rat l k = l[k] := by simp [rat, List.getD, List.getElem?_eq_getElem hk]
  rw [this, List.set_getElem_self]
theorem own4 {w : World} {B : Nat} {l : List R4} {g n cap : Nat} (h : Ow K4 w B 32 (.slice (some ⟨g, 0, none⟩) n cap) l) (k : Nat) (hk : k < l.length) :
    (w.cell? ⟨g, k * 4, none⟩ = some (.int .u8 (rat l k).1) ∧ w.cell? ⟨g, k * 4 + 1, none⟩ = some (.int .u8 (rat l k).2.1) ∧ w.cell? ⟨g, k * 4 + 2, none⟩ = some (.int .u8 (rat l k).2.2.1) ∧ w.cell? ⟨g, k * 4 + 3, none⟩ = some (.int .u8 (rat l k).2.2.2)) ∧ (∀ j, w.frozen? ⟨g, j, none⟩ = false) ∧ B ≤ g ∧ g < w.heap.size := by
  obtain ⟨g', cap', eg, h1, h2, _, _, hf, hA⟩ := h.form (by omega)
  have e : g = g' := by
    injection eg with e1
    injection e1 with e1
    injection e1 with e1 _ _
  subst e
  have c := at4 hA k hk
  simp only [Nat.zero_add] at c
  exact ⟨c, hf, h1, h2⟩
theorem own_form {w : World} {B : Nat} {l : List R4} {u : Value} (h : Ow K4 w B 32 u l) (hl : 0 < l.length) : ∃ g cap, u = .slice (some ⟨g, 0, none⟩) l.length cap := by
  obtain ⟨g, cap, e, _⟩ := h.form hl
  exact ⟨g, cap, e⟩

/-- Where Do and its like stand when the file is copied. -/
structure Have (w : World) (p : Int) (v : Value) (x : R4) (gF : Nat) (u : Value) (m : List R4) (W : World) : Prop where
  st : Start w p v x W
  row : W.heap[gF]? = some (.cells #[.int .i64 p, u] 35 (0, 0))
  own : Ow K4 W (w.heap.size + 4) 32 u m
  ge : w.heap.size + 4 ≤ gF
  ne : u.ownBlock ≠ some gF
theorem Have.mono {w W W' : World} {p : Int} {v u : Value} {x : R4} {gF : Nat} {m : List R4} (h : Have w p v x gF u m W) (b : Below W.heap.size W W') : Have w p v x gF u m W' :=
  ⟨h.st.mono b, (b.block _ (lt_of_block h.row)).trans h.row, h.own.keep b, h.ge, h.ne⟩
theorem Have.put {w W : World} {p : Int} {v : Value} {x : R4} {gF gu n cu : Nat} {m : List R4} (h : Have w p v x gF (.slice (some ⟨gu, 0, none⟩) n cu) m W) (hn : n = m.length) (k : Nat) (hk : k < m.length) (y : R4) :
    Have w p v x gF (.slice (some ⟨gu, 0, none⟩) n cu) (m.set k y) (sto4 W gu (k * 4) y) := by
  have hge := (own4 h.own k hk).2.2.1
  have hne : gF ≠ gu := fun e => h.ne (by rw [e]; rfl)
  exact ⟨⟨sto4_other h.st.box (by omega), sto4_other h.st.arg (by omega), sto4_other h.st.res1 (by omega), sto4_other h.st.res2 (by omega), by rw [sto4_size]; exact h.st.siz, sto4_below h.st.bel (by omega)⟩, sto4_other h.row hne, sto4_own h.own hn k hk y, h.ge, h.ne⟩
/-- What the last region reads. -/
def Last (w : World) (p : Int) (gF : Nat) (u : Value) (m : List R4) (W : World) : Prop := W.heap[gF]? = some (.cells #[.int .i64 p, u] 35 (0, 0)) ∧ Ow K4 W (w.heap.size + 4) 32 u m

set_option maxHeartbeats 1000000 in
theorem do_no (w : World) (p : Int) (a : Option Addr) (n cap : Nat) (l : List R4) (R : Rd K4 w (.slice a n cap) l) (op rec : Int) (x : R4) (he : ¬ doE p l op rec = 0) : Calls Tryd.prog 41 #[file p (.slice a n cap), .int .i64 op, .int .i64 rec, rec4 x] w (DoPost w p l op rec x) := by
  have S0 : Hid (Start w p (.slice a n cap) x ((((w.alloc (.cells #[.int .i64 p, .slice a n cap] 35)).alloc (.cells #[.int .u8 x.1, .int .u8 x.2.1, .int .u8 x.2.2.1, .int .u8 x.2.2.2] 32)).alloc (.cells #[.int .i64 0, .slice none 0 0] 35)).alloc (.cells #[.int .u8 0, .int .u8 0, .int .u8 0, .int .u8 0] 32))) := Lib.hid (Start.of w p _ x)
  have WR := Lib.hid (wrong_any _ p _ l (R.below S0.out.bel) op rec)
  have E : Hid (∀ w', Below w.heap.size w w' → DoPost w p l op rec x (.returned (.tuple #[file 0 (.slice none 0 0), rec4 z4, .int .i64 (doE p l op rec)])) w') := fun w' h => ⟨.slice none 0 0, by rw [if_neg he, if_neg he], by rw [if_neg he]; exact Ow.nil _ _ _, h⟩
  have hd : (doE p l op rec != 0) = true := by simpa using he
  clear R he
  generalize doE p l op rec = d at *
  unfold file rec4 at *
  go_enter Tryd.func41, Tryd.ntmps41
  go_wp2_with fail
  generalize (((w.alloc (.cells #[.int .i64 p, .slice a n cap] 35)).alloc (.cells #[.int .u8 x.1, .int .u8 x.2.1, .int .u8 x.2.2.1, .int .u8 x.2.2.2] 32)).alloc (.cells #[.int .i64 0, .slice none 0 0] 35)).alloc (.cells #[.int .u8 0, .int .u8 0, .int .u8 0, .int .u8 0] 32) = W at *
  refine WR.out.mono ?_
  rintro e w1 ⟨rfl, b1⟩
  have S1 := Lib.hid (S0.out.mono b1)
  clear b1 S0 WR
  have c0 : w1.cell? ⟨w.heap.size + 2, 0, none⟩ = some (.int .i64 0) := row_cell S1.out.res1 0
  have c1 : w1.cell? ⟨w.heap.size + 2, 1, none⟩ = some (.slice none 0 0) := row_cell S1.out.res1 1
  have d0 : w1.cell? ⟨w.heap.size + 3, 0, none⟩ = some (.int .u8 0) := row_cell S1.out.res2 0
  have d1 : w1.cell? ⟨w.heap.size + 3, 1, none⟩ = some (.int .u8 0) := row_cell S1.out.res2 1
  have d2 : w1.cell? ⟨w.heap.size + 3, 2, none⟩ = some (.int .u8 0) := row_cell S1.out.res2 2
  have d3 : w1.cell? ⟨w.heap.size + 3, 3, none⟩ = some (.int .u8 0) := row_cell S1.out.res2 3
  have f0 := row_frozen S1.out.res1 0
  have f1 := row_frozen S1.out.res1 1
  have k0 := row_frozen S1.out.res2 0
  have k1 := row_frozen S1.out.res2 1
  have k2 := row_frozen S1.out.res2 2
  have k3 := row_frozen S1.out.res2 3
  have R1 := Lib.hid (sto4_other (g := w.heap.size + 3) (o := 0) (r := z4) (sto2_row S1.out.res1 0 (.slice none 0 0)) (by omega))
  have R2 := Lib.hid (sto4_row (sto2_other (g := w.heap.size + 2) (p := 0) (v := .slice none 0 0) S1.out.res2 (by omega)) z4)
  have B2 := Lib.hid (sto4_below (o := 0) (r := z4) (sto2_below (p := 0) (v := .slice none 0 0) S1.out.bel (show w.heap.size ≤ w.heap.size + 2 by omega)) (show w.heap.size ≤ w.heap.size + 3 by omega))
  clear S1
  go_wp2
  (try simp only [Exit.inBlock, Exit.then])
  exact bodyPost_ret (results_do (p := 8) (q := 9) (r := 10) rfl _ _ (w.heap.size + 2) (w.heap.size + 3) 0 (.slice none 0 0) z4 d rfl rfl rfl R1.out R2.out) rfl (E.out _ B2.out)

/-- What the region of oneMore reads. -/
structure Read (w : World) (p : Int) (v : Value) (gF : Nat) (u : Value) (W : World) : Prop where
  box : W.heap[w.heap.size]? = some (.cells #[.int .i64 p, v] 35 (0, 0))
  row : W.heap[gF]? = some (.cells #[.int .i64 p, u] 35 (0, 0))
  bel : Below w.heap.size w W
theorem doE_of {p op rec : Int} {l : List R4} (h : doE p l op rec = 0) : goodF p l ∧ (0 ≤ op ∧ op ≤ 2) ∧ 0 ≤ rec ∧ rec < l.length := by
  by_cases h1 : goodF p l
  · by_cases h2 : 0 ≤ op ∧ op ≤ 2
    · by_cases h3 : 0 ≤ rec ∧ rec < l.length
      · exact ⟨h1, h2, h3⟩
      · rw [doE_4 h1 h2 h3] at h; omega
    · rw [doE_1 h1 h2] at h; omega
  · rw [doE_2 h1] at h; omega

set_option maxHeartbeats 4000000 in
theorem do_yes (w : World) (p : Int) (a : Option Addr) (n cap : Nat) (l : List R4) (R : Rd K4 w (.slice a n cap) l) (hl : okL l) (op : Int) (k : Nat) (x : R4) (he : doE p l op k = 0) (ho : 0 ≤ op ∧ op ≤ 2) (hk : k < l.length) (h256 : l.length ≤ 256) : Calls Tryd.prog 41 #[file p (.slice a n cap), .int .i64 op, .int .i64 (k : Int), rec4 x] w (DoPost w p l op k x) := by
  obtain ⟨b, off, rfl, hA⟩ : ∃ b off, a = some ⟨b, off, none⟩ ∧ At K4 w b off l := by
    obtain ⟨a', cap', e, _, _, h4⟩ := R
    injection e with e1 e2 e3
    subst e1
    exact h4 (by omega)
  have hn : n = l.length := by
    obtain ⟨a', cap', e, _⟩ := R
    injection e
  have S0 : Hid (Start w p (.slice (some ⟨b, off, none⟩) n cap) x ((((w.alloc (.cells #[.int .i64 p, .slice (some ⟨b, off, none⟩) n cap] 35)).alloc (.cells #[.int .u8 x.1, .int .u8 x.2.1, .int .u8 x.2.2.1, .int .u8 x.2.2.2] 32)).alloc (.cells #[.int .i64 0, .slice none 0 0] 35)).alloc (.cells #[.int .u8 0, .int .u8 0, .int .u8 0, .int .u8 0] 32))) := Lib.hid (Start.of w p _ x)
  have WR := Lib.hid (at_int he (wrong_any _ p _ l (R.below S0.out.bel) op k))
  have E : Hid (∀ y u w', y = newR l op k x → Ow K4 w' w.heap.size 32 u (l.set k y) → Below w.heap.size w w' → DoPost w p l op k x (.returned (.tuple #[file p u, rec4 y, .int .i64 0])) w') := fun y u w' hy h hb => ⟨u, by rw [if_pos he, if_pos he, he, hy], by rw [if_pos he, ← hy, Int.toNat_natCast]; exact h, hb⟩
  have HLL := Lib.hid (And.intro hk (And.intro hn h256))
  have RR := Lib.hid R
  have HA := Lib.hid hA
  have OK := Lib.hid hl
  have hkn : k < n := by omega
  have hn0 : n < 2147483648 := by omega
  clear he R hA hl hn h256 hk
  unfold file rec4 at *
  go_enter Tryd.func41, Tryd.ntmps41
  go_wp2_with fail
  generalize (((w.alloc (.cells #[.int .i64 p, .slice (some ⟨b, off, none⟩) n cap] 35)).alloc (.cells #[.int .u8 x.1, .int .u8 x.2.1, .int .u8 x.2.2.1, .int .u8 x.2.2.2] 32)).alloc (.cells #[.int .i64 0, .slice none 0 0] 35)).alloc (.cells #[.int .u8 0, .int .u8 0, .int .u8 0, .int .u8 0] 32) = W at *
  refine WR.out.mono ?_
  rintro e w1 ⟨rfl, b1⟩
  have S1 := Lib.hid (S0.out.mono b1)
  clear b1 S0 WR
  go_wp2_with fail
  have s0 := Sd.cell_by (show w1.cell? ⟨w.heap.size, 0, none⟩ = some (.int .i64 p) from row_cell S1.out.box 0)
  have s1 := Sd.cell_by (show w1.cell? ⟨w.heap.size, 1, none⟩ = some (.slice (some ⟨b, off, none⟩) n cap) from row_cell S1.out.box 1)
  refine Sf.start [(0, 0), (0, 1), (0, 2), (0, 3), (1, 4), (0, 5), (2, 6), (1, 7)] [⟨6, 12, #[.int .i64 0, .slice none 0 0], 35⟩] (by kernel_rfl) (by kernel_rfl) (by kernel_rfl) (by decide) (by decide) ?_ ?_ ?_
  · simp
  · intro f hf
    simp only [List.mem_cons, List.not_mem_nil, or_false] at hf
    subst hf
    exact ⟨_, rfl, rfl, rfl, fun ρ w => by go_simp⟩
  dsimp only [Sf.picks, List.getElem?_cons_succ, List.getElem?_cons_zero]
  have BW := Lib.hid ((Below.refl w1.heap.size w1).drew)
  repeat (refine Sf.lit (fun xs => ?_); simp only [Sf.fill, List.foldl_cons, List.foldl_nil]; quiet_step (fail); refine wpQuiet_nil ?_)
  refine Sf.call (fun xs w3 hb hc => ⟨by rfl, fun K hK => ?_⟩)
  have B3 := Lib.hid (BW.out.trans (hb.mono BW.out.size))
  clear hb hc BW
  simp only [Sf.fill, List.foldl_cons, List.foldl_nil]
  go_simp
  have R3 := RR.out.below (S1.out.bel.trans (B3.out.mono (by have := S1.out.siz; omega)))
  refine (clone_any _ _ l R3 (by have := HLL.out.2.2; omega)).mono ?_
  rintro e4 w4 ⟨u, rfl, o4, b4⟩
  obtain ⟨gu, cu, rfl⟩ := own_form o4 (by have := HLL.out.1; omega)
  rw [← HLL.out.2.1] at o4 ⊢
  have B4 := Lib.hid (B3.out.trans (b4.mono B3.out.size))
  have O4 := Lib.hid o4
  refine hK _ _ (Sd.Cl.of B4.out) b4.size (fun _ => b4) ?_
  clear hK K b4 o4 R3
  repeat (refine Sf.lit (fun xs => ?_); simp only [Sf.fill, List.foldl_cons, List.foldl_nil]; quiet_step (fail); refine wpQuiet_nil ?_)
  refine Sf.meet (fun gF w7 hb hc row n7 hH hL => ?_)
  have B7 := Lib.hid (B4.out.trans (hb.mono B4.out.size))
  have N7 := Lib.hid (O4.out.range (hH _ (List.mem_cons_self ..)))
  have O7 := Lib.hid (O4.out.keep hb)
  have R7 : Hid (w7.heap[gF]? = some (.cells #[.int .i64 0, .slice none 0 0] 35 (0, 0))) := row
  clear hb hc row hH hL B4 O4
  refine Sf.call (fun xs w9 hb hc => ⟨by rfl, fun K hK => ?_⟩)
  have B9 := Lib.hid (B7.out.trans (hb.mono B7.out.size))
  have O9 := Lib.hid (O7.out.keep hb)
  have R9 := (hb.block _ (lt_of_block R7.out)).trans R7.out
  have c0 : w9.cell? ⟨gF, 0, none⟩ = some (.int .i64 0) := row_cell R9 0
  have c1 : w9.cell? ⟨gF, 1, none⟩ = some (.slice none 0 0) := row_cell R9 1
  have f0 := row_frozen R9 0
  have f1 := row_frozen R9 1
  have RA := sto2_row R9 p (.slice (some ⟨gu, 0, none⟩) n cu)
  have BA := sto2_below (p := p) (v := .slice (some ⟨gu, 0, none⟩) n cu) B9.out n7
  have OA := sto2_off (u := .slice (some ⟨gu, 0, none⟩) n cu) O9.out N7.out p
  have hs1 := S1.out.siz
  have hs3 := B3.out.size
  have HB : Hid (Have w p (.slice (some ⟨b, off, none⟩) n cap) x gF (.slice (some ⟨gu, 0, none⟩) n cu) l (sto2 w9 gF p (.slice (some ⟨gu, 0, none⟩) n cu))) := ⟨S1.out.mono BA, RA, OA.low (by omega), by omega, N7.out⟩
  have hsz := sto2_size w9 gF p (.slice (some ⟨gu, 0, none⟩) n cu)
  clear hb hc B7 O7 R7 R9 RA OA B9 O9 N7
  simp only [Sf.fill, List.foldl_nil]
  go_simp
  refine hK _ _ (Sd.Cl.of BA) (by rw [← hsz]; exact Nat.le_refl _) (fun h => absurd rfl h) ?_
  clear hK K c0 c1 f0 f1
  show Sf.wpSf _ _ _ _ _ _ _ _ _ _ (sto2 w9 gF p (.slice (some ⟨gu, 0, none⟩) n cu))
  clear BA hsz
  generalize sto2 w9 gF p (.slice (some ⟨gu, 0, none⟩) n cu) = wA at *
  refine Sf.done (fun wB hb hc => ?_)
  have HV := Lib.hid (HB.out.mono hb)
  clear hb hc HB S1 B3 s0 s1 n7 hs1 hs3
  rcases (by omega : op = 0 ∨ op = 1 ∨ op = 2) with rfl | rfl | rfl
  · obtain ⟨y, hy⟩ : ∃ y, rat l k = y := ⟨_, rfl⟩
    have EY : Hid (∀ u w', Ow K4 w' w.heap.size 32 u (l.set k y) → Below w.heap.size w w' → DoPost w p l 0 k x (.returned (.tuple #[file p u, rec4 y, .int .i64 0])) w') := fun u w' => E.out y u w' (by rw [← hy]; unfold newR; rw [if_neg (by decide), if_neg (by decide), Int.toNat_natCast])
    rw [← set_rat l k HLL.out.1, hy] at HV
    clear E hy
    go_wp2_with fail
    generalize wB = Wz at *
    obtain ⟨⟨c0, c1, c2, c3⟩, _, _, _⟩ := own4 HV.out.own k (by rw [List.length_set]; exact HLL.out.1)
    rw [rat_set l k HLL.out.1] at c0 c1 c2 c3
    have C0 : Last w p gF (.slice (some ⟨gu, 0, none⟩) n cu) (l.set k y) Wz.drew := ⟨HV.out.row, HV.out.own⟩
    have r0 := Sc.cell_in (C := Last w p gF (.slice (some ⟨gu, 0, none⟩) n cu) (l.set k y)) (a := ⟨gF, 0, none⟩) (fun W' h => row_cell h.1 0)
    have r1 := Sc.cell_in (C := Last w p gF (.slice (some ⟨gu, 0, none⟩) n cu) (l.set k y)) (a := ⟨gF, 1, none⟩) (fun W' h => row_cell h.1 1)
    have HQ : Hid (∀ W', Last w p gF (.slice (some ⟨gu, 0, none⟩) n cu) (l.set k y) W' → (W'.cell? ⟨gu, k * 4, none⟩ = some (.int .u8 y.1) ∧ W'.cell? ⟨gu, k * 4 + 1, none⟩ = some (.int .u8 y.2.1) ∧ W'.cell? ⟨gu, k * 4 + 2, none⟩ = some (.int .u8 y.2.2.1) ∧ W'.cell? ⟨gu, k * 4 + 3, none⟩ = some (.int .u8 y.2.2.2))) := fun W' h => by
      have := (own4 h.2 k (by rw [List.length_set]; exact HLL.out.1)).1
      rw [rat_set l k HLL.out.1] at this
      exact this
    have q0 := Sc.cell_in (C := Last w p gF (.slice (some ⟨gu, 0, none⟩) n cu) (l.set k y)) (fun W' h => (HQ.out W' h).1)
    have q1 := Sc.cell_in (C := Last w p gF (.slice (some ⟨gu, 0, none⟩) n cu) (l.set k y)) (fun W' h => (HQ.out W' h).2.1)
    have q2 := Sc.cell_in (C := Last w p gF (.slice (some ⟨gu, 0, none⟩) n cu) (l.set k y)) (fun W' h => (HQ.out W' h).2.2.1)
    have q3 := Sc.cell_in (C := Last w p gF (.slice (some ⟨gu, 0, none⟩) n cu) (l.set k y)) (fun W' h => (HQ.out W' h).2.2.2)
    have ne : Nonempty (Sc.In (Last w p gF (.slice (some ⟨gu, 0, none⟩) n cu) (l.set k y))) := ⟨⟨_, C0⟩⟩
    clear c0 c1 c2 c3 HQ
    refine Sc.start (Last w p gF (.slice (some ⟨gu, 0, none⟩) n cu) (l.set k y)) [(false, 0), (false, 1), (false, 2), (false, 3), (false, 4), (false, 5), (true, 6), (true, 7), (false, 8)] (by kernel_rfl) (by kernel_rfl) (by kernel_rfl) C0 ?_
    dsimp only [Sd.picks, List.getElem?_cons_succ, List.getElem?_cons_zero]
    repeat (refine Sd.lit ?_; quiet_step (fail); refine wpQuiet_nil ?_)
    have HD : Hid (Have w p (.slice (some ⟨b, off, none⟩) n cap) x gF (.slice (some ⟨gu, 0, none⟩) n cu) (l.set k y) Wz.drew) := HV.out.mono ((Below.refl _ _).drew)
    clear HV r0 r1 q0 q1 q2 q3 C0
    generalize Wz.drew = Wy at *
    refine Sd.call (by rfl) (fun K hK => ?_)
    have c0 : Wy.cell? ⟨w.heap.size + 2, 0, none⟩ = some (.int .i64 0) := row_cell HD.out.st.res1 0
    have c1 : Wy.cell? ⟨w.heap.size + 2, 1, none⟩ = some (.slice none 0 0) := row_cell HD.out.st.res1 1
    have f0 := row_frozen HD.out.st.res1 0
    have f1 := row_frozen HD.out.st.res1 1
    have hge := (own4 HD.out.own k (by rw [List.length_set]; exact HLL.out.1)).2.2.1
    have hF := HD.out.ge
    have n1 : (Value.slice (some ⟨gu, 0, none⟩) n cu).ownBlock ≠ some (w.heap.size + 2) := fun e => by simp [Value.ownBlock] at e; omega
    have n2 : (Value.slice (some ⟨gu, 0, none⟩) n cu).ownBlock ≠ some (w.heap.size + 3) := fun e => by simp [Value.ownBlock] at e; omega
    have L1 : Last w p gF (.slice (some ⟨gu, 0, none⟩) n cu) (l.set k y) (sto2 Wy (w.heap.size + 2) p (.slice (some ⟨gu, 0, none⟩) n cu)) := ⟨sto2_other HD.out.row (by omega), sto2_off HD.out.own n1 p⟩
    have R1 := Lib.hid (sto2_row HD.out.st.res1 p (.slice (some ⟨gu, 0, none⟩) n cu))
    have R2 := sto2_other (g := w.heap.size + 2) (p := p) (v := .slice (some ⟨gu, 0, none⟩) n cu) HD.out.st.res2 (by omega)
    have B1 := Lib.hid (sto2_below (p := p) (v := .slice (some ⟨gu, 0, none⟩) n cu) HD.out.st.bel (show w.heap.size ≤ w.heap.size + 2 by omega))
    clear HD
    go_simp
    refine hK _ _ (Sc.Cl.of L1) ?_
    clear hK K c0 c1 f0 f1
    show Sd.wpSd _ _ _ _ _ _ (sto2 Wy (w.heap.size + 2) p (.slice (some ⟨gu, 0, none⟩) n cu))
    generalize sto2 Wy (w.heap.size + 2) p (.slice (some ⟨gu, 0, none⟩) n cu) = Wx at *
    refine Sd.call (by rfl) (fun K hK => ?_)
    have d0 : Wx.cell? ⟨w.heap.size + 3, 0, none⟩ = some (.int .u8 0) := row_cell R2 0
    have d1 : Wx.cell? ⟨w.heap.size + 3, 1, none⟩ = some (.int .u8 0) := row_cell R2 1
    have d2 : Wx.cell? ⟨w.heap.size + 3, 2, none⟩ = some (.int .u8 0) := row_cell R2 2
    have d3 : Wx.cell? ⟨w.heap.size + 3, 3, none⟩ = some (.int .u8 0) := row_cell R2 3
    have k0 := row_frozen R2 0
    have k1 := row_frozen R2 1
    have k2 := row_frozen R2 2
    have k3 := row_frozen R2 3
    have L2 : Last w p gF (.slice (some ⟨gu, 0, none⟩) n cu) (l.set k y) (sto4 Wx (w.heap.size + 3) 0 y) := ⟨sto4_other L1.1 (by omega), sto4_off L1.2 n2 y⟩
    have R3 := Lib.hid (sto4_row R2 y)
    have R4 := Lib.hid (sto4_other (g := w.heap.size + 3) (o := 0) (r := y) R1.out (by omega))
    have B2 := Lib.hid (sto4_below (o := 0) (r := y) B1.out (show w.heap.size ≤ w.heap.size + 3 by omega))
    clear R2 R1 B1 L1
    go_simp
    refine hK _ _ (Sc.Cl.of L2) ?_
    clear hK K d0 d1 d2 d3 k0 k1 k2 k3
    show Sd.wpSd _ _ _ _ _ _ (sto4 Wx (w.heap.size + 3) 0 y)
    have O2 := Lib.hid L2.2
    clear L2
    generalize sto4 Wx (w.heap.size + 3) 0 y = Ww at *
    repeat (refine Sd.lit ?_; quiet_step (fail); refine wpQuiet_nil ?_)
    refine Sd.done ?_
    go_wp2
    (try simp only [Exit.inBlock, Exit.then])
    exact bodyPost_ret (results_do (p := 8) (q := 9) (r := 10) rfl _ _ (w.heap.size + 2) (w.heap.size + 3) p _ y 0 rfl rfl rfl R4.out R3.out) rfl (EY.out _ _ (O2.out.low (by omega)) B2.out)
  · have EY : Hid (∀ u w', Ow K4 w' w.heap.size 32 u (l.set k x) → Below w.heap.size w w' → DoPost w p l 1 k x (.returned (.tuple #[file p u, rec4 x, .int .i64 0])) w') := fun u w' => E.out x u w' (by unfold newR; rw [if_pos rfl])
    have HP := Lib.hid (HV.out.put HLL.out.2.1 k HLL.out.1 x)
    obtain ⟨⟨c0, c1, c2, c3⟩, hfr, _, _⟩ := own4 HV.out.own k HLL.out.1
    have f0 := hfr (k * 4)
    have f1 := hfr (k * 4 + 1)
    have f2 := hfr (k * 4 + 2)
    have f3 := hfr (k * 4 + 3)
    have r1 : wB.cell? ⟨gF, 1, none⟩ = some (.slice (some ⟨gu, 0, none⟩) n cu) := row_cell HV.out.row 1
    have a0 : wB.cell? ⟨w.heap.size + 1, 0, none⟩ = some (.int .u8 x.1) := row_cell HV.out.st.arg 0
    have a1 : wB.cell? ⟨w.heap.size + 1, 1, none⟩ = some (.int .u8 x.2.1) := row_cell HV.out.st.arg 1
    have a2 : wB.cell? ⟨w.heap.size + 1, 2, none⟩ = some (.int .u8 x.2.2.1) := row_cell HV.out.st.arg 2
    have a3 : wB.cell? ⟨w.heap.size + 1, 3, none⟩ = some (.int .u8 x.2.2.2) := row_cell HV.out.st.arg 3
    clear E hfr HV
    go_wp2_with fail
    clear c0 c1 c2 c3 f0 f1 f2 f3 r1 a0 a1 a2 a3
    show Code.wp _ _ _ _ (sto4 wB gu (k * 4) x)
    generalize sto4 wB gu (k * 4) x = Wz at *
    have HV := HP
    clear HP
    obtain ⟨⟨c0, c1, c2, c3⟩, _, _, _⟩ := own4 HV.out.own k (by rw [List.length_set]; exact HLL.out.1)
    rw [rat_set l k HLL.out.1] at c0 c1 c2 c3
    have C0 : Last w p gF (.slice (some ⟨gu, 0, none⟩) n cu) (l.set k x) Wz.drew := ⟨HV.out.row, HV.out.own⟩
    have r0 := Sc.cell_in (C := Last w p gF (.slice (some ⟨gu, 0, none⟩) n cu) (l.set k x)) (a := ⟨gF, 0, none⟩) (fun W' h => row_cell h.1 0)
    have r1 := Sc.cell_in (C := Last w p gF (.slice (some ⟨gu, 0, none⟩) n cu) (l.set k x)) (a := ⟨gF, 1, none⟩) (fun W' h => row_cell h.1 1)
    have HQ : Hid (∀ W', Last w p gF (.slice (some ⟨gu, 0, none⟩) n cu) (l.set k x) W' → (W'.cell? ⟨gu, k * 4, none⟩ = some (.int .u8 x.1) ∧ W'.cell? ⟨gu, k * 4 + 1, none⟩ = some (.int .u8 x.2.1) ∧ W'.cell? ⟨gu, k * 4 + 2, none⟩ = some (.int .u8 x.2.2.1) ∧ W'.cell? ⟨gu, k * 4 + 3, none⟩ = some (.int .u8 x.2.2.2))) := fun W' h => by
      have := (own4 h.2 k (by rw [List.length_set]; exact HLL.out.1)).1
      rw [rat_set l k HLL.out.1] at this
      exact this
    have q0 := Sc.cell_in (C := Last w p gF (.slice (some ⟨gu, 0, none⟩) n cu) (l.set k x)) (fun W' h => (HQ.out W' h).1)
    have q1 := Sc.cell_in (C := Last w p gF (.slice (some ⟨gu, 0, none⟩) n cu) (l.set k x)) (fun W' h => (HQ.out W' h).2.1)
    have q2 := Sc.cell_in (C := Last w p gF (.slice (some ⟨gu, 0, none⟩) n cu) (l.set k x)) (fun W' h => (HQ.out W' h).2.2.1)
    have q3 := Sc.cell_in (C := Last w p gF (.slice (some ⟨gu, 0, none⟩) n cu) (l.set k x)) (fun W' h => (HQ.out W' h).2.2.2)
    have ne : Nonempty (Sc.In (Last w p gF (.slice (some ⟨gu, 0, none⟩) n cu) (l.set k x))) := ⟨⟨_, C0⟩⟩
    clear c0 c1 c2 c3 HQ
    refine Sc.start (Last w p gF (.slice (some ⟨gu, 0, none⟩) n cu) (l.set k x)) [(false, 0), (false, 1), (false, 2), (false, 3), (false, 4), (false, 5), (true, 6), (true, 7), (false, 8)] (by kernel_rfl) (by kernel_rfl) (by kernel_rfl) C0 ?_
    dsimp only [Sd.picks, List.getElem?_cons_succ, List.getElem?_cons_zero]
    repeat (refine Sd.lit ?_; quiet_step (fail); refine wpQuiet_nil ?_)
    have HD : Hid (Have w p (.slice (some ⟨b, off, none⟩) n cap) x gF (.slice (some ⟨gu, 0, none⟩) n cu) (l.set k x) Wz.drew) := HV.out.mono ((Below.refl _ _).drew)
    clear HV r0 r1 q0 q1 q2 q3 C0
    generalize Wz.drew = Wy at *
    refine Sd.call (by rfl) (fun K hK => ?_)
    have c0 : Wy.cell? ⟨w.heap.size + 2, 0, none⟩ = some (.int .i64 0) := row_cell HD.out.st.res1 0
    have c1 : Wy.cell? ⟨w.heap.size + 2, 1, none⟩ = some (.slice none 0 0) := row_cell HD.out.st.res1 1
    have f0 := row_frozen HD.out.st.res1 0
    have f1 := row_frozen HD.out.st.res1 1
    have hge := (own4 HD.out.own k (by rw [List.length_set]; exact HLL.out.1)).2.2.1
    have hF := HD.out.ge
    have n1 : (Value.slice (some ⟨gu, 0, none⟩) n cu).ownBlock ≠ some (w.heap.size + 2) := fun e => by simp [Value.ownBlock] at e; omega
    have n2 : (Value.slice (some ⟨gu, 0, none⟩) n cu).ownBlock ≠ some (w.heap.size + 3) := fun e => by simp [Value.ownBlock] at e; omega
    have L1 : Last w p gF (.slice (some ⟨gu, 0, none⟩) n cu) (l.set k x) (sto2 Wy (w.heap.size + 2) p (.slice (some ⟨gu, 0, none⟩) n cu)) := ⟨sto2_other HD.out.row (by omega), sto2_off HD.out.own n1 p⟩
    have R1 := Lib.hid (sto2_row HD.out.st.res1 p (.slice (some ⟨gu, 0, none⟩) n cu))
    have R2 := sto2_other (g := w.heap.size + 2) (p := p) (v := .slice (some ⟨gu, 0, none⟩) n cu) HD.out.st.res2 (by omega)
    have B1 := Lib.hid (sto2_below (p := p) (v := .slice (some ⟨gu, 0, none⟩) n cu) HD.out.st.bel (show w.heap.size ≤ w.heap.size + 2 by omega))
    clear HD
    go_simp
    refine hK _ _ (Sc.Cl.of L1) ?_
    clear hK K c0 c1 f0 f1
    show Sd.wpSd _ _ _ _ _ _ (sto2 Wy (w.heap.size + 2) p (.slice (some ⟨gu, 0, none⟩) n cu))
    generalize sto2 Wy (w.heap.size + 2) p (.slice (some ⟨gu, 0, none⟩) n cu) = Wx at *
    refine Sd.call (by rfl) (fun K hK => ?_)
    have d0 : Wx.cell? ⟨w.heap.size + 3, 0, none⟩ = some (.int .u8 0) := row_cell R2 0
    have d1 : Wx.cell? ⟨w.heap.size + 3, 1, none⟩ = some (.int .u8 0) := row_cell R2 1
    have d2 : Wx.cell? ⟨w.heap.size + 3, 2, none⟩ = some (.int .u8 0) := row_cell R2 2
    have d3 : Wx.cell? ⟨w.heap.size + 3, 3, none⟩ = some (.int .u8 0) := row_cell R2 3
    have k0 := row_frozen R2 0
    have k1 := row_frozen R2 1
    have k2 := row_frozen R2 2
    have k3 := row_frozen R2 3
    have L2 : Last w p gF (.slice (some ⟨gu, 0, none⟩) n cu) (l.set k x) (sto4 Wx (w.heap.size + 3) 0 x) := ⟨sto4_other L1.1 (by omega), sto4_off L1.2 n2 x⟩
    have R3 := Lib.hid (sto4_row R2 x)
    have R4 := Lib.hid (sto4_other (g := w.heap.size + 3) (o := 0) (r := x) R1.out (by omega))
    have B2 := Lib.hid (sto4_below (o := 0) (r := x) B1.out (show w.heap.size ≤ w.heap.size + 3 by omega))
    clear R2 R1 B1 L1
    go_simp
    refine hK _ _ (Sc.Cl.of L2) ?_
    clear hK K d0 d1 d2 d3 k0 k1 k2 k3
    show Sd.wpSd _ _ _ _ _ _ (sto4 Wx (w.heap.size + 3) 0 x)
    have O2 := Lib.hid L2.2
    clear L2
    generalize sto4 Wx (w.heap.size + 3) 0 x = Ww at *
    repeat (refine Sd.lit ?_; quiet_step (fail); refine wpQuiet_nil ?_)
    refine Sd.done ?_
    go_wp2
    (try simp only [Exit.inBlock, Exit.then])
    exact bodyPost_ret (results_do (p := 8) (q := 9) (r := 10) rfl _ _ (w.heap.size + 2) (w.heap.size + 3) p _ x 0 rfl rfl rfl R4.out R3.out) rfl (EY.out _ _ (O2.out.low (by omega)) B2.out)
  · have hy := okR_at OK.out k
    have EY : Hid (∀ u w', Ow K4 w' w.heap.size 32 u (l.set k (inc (rat l k))) → Below w.heap.size w w' → DoPost w p l 2 k x (.returned (.tuple #[file p u, rec4 (inc (rat l k)), .int .i64 0])) w') := fun u w' => E.out _ u w' (by unfold newR; rw [if_neg (by decide), if_pos rfl, Int.toNat_natCast])
    have INC := Lib.hid (fun w => one_any w (rat l k) hy)
    clear E hy
    go_wp2_with fail
    have C0 : Read w p (.slice (some ⟨b, off, none⟩) n cap) gF (.slice (some ⟨gu, 0, none⟩) n cu) wB.drew := ⟨(HV.out.mono (Below.refl wB.heap.size wB).drew).st.box, (HV.out.mono (Below.refl wB.heap.size wB).drew).row, (HV.out.mono (Below.refl wB.heap.size wB).drew).st.bel⟩
    have r1 := Sc.cell_in (C := Read w p (.slice (some ⟨b, off, none⟩) n cap) gF (.slice (some ⟨gu, 0, none⟩) n cu)) (a := ⟨gF, 1, none⟩) (fun W' h => row_cell h.row 1)
    have r2 := Sc.cell_in (C := Read w p (.slice (some ⟨b, off, none⟩) n cap) gF (.slice (some ⟨gu, 0, none⟩) n cu)) (a := ⟨w.heap.size, 1, none⟩) (fun W' h => row_cell h.box 1)
    have HQ := Lib.hid (fun (W' : World) (h : Read w p (.slice (some ⟨b, off, none⟩) n cap) gF (.slice (some ⟨gu, 0, none⟩) n cu) W') => at4 (HA.out.below h.bel) k HLL.out.1)
    have q0 := Sc.cell_in (C := Read w p (.slice (some ⟨b, off, none⟩) n cap) gF (.slice (some ⟨gu, 0, none⟩) n cu)) (fun W' h => (HQ.out W' h).1)
    have q1 := Sc.cell_in (C := Read w p (.slice (some ⟨b, off, none⟩) n cap) gF (.slice (some ⟨gu, 0, none⟩) n cu)) (fun W' h => (HQ.out W' h).2.1)
    have q2 := Sc.cell_in (C := Read w p (.slice (some ⟨b, off, none⟩) n cap) gF (.slice (some ⟨gu, 0, none⟩) n cu)) (fun W' h => (HQ.out W' h).2.2.1)
    have q3 := Sc.cell_in (C := Read w p (.slice (some ⟨b, off, none⟩) n cap) gF (.slice (some ⟨gu, 0, none⟩) n cu)) (fun W' h => (HQ.out W' h).2.2.2)
    have ne : Nonempty (Sc.In (Read w p (.slice (some ⟨b, off, none⟩) n cap) gF (.slice (some ⟨gu, 0, none⟩) n cu))) := ⟨⟨_, C0⟩⟩
    clear HQ
    refine Sc.start (Read w p (.slice (some ⟨b, off, none⟩) n cap) gF (.slice (some ⟨gu, 0, none⟩) n cu)) [(false, 0), (false, 1), (false, 2), (false, 3), (false, 4), (false, 5), (false, 6), (false, 7), (true, 8), (false, 9), (true, 10)] (by kernel_rfl) (by kernel_rfl) (by kernel_rfl) C0 ?_
    dsimp only [Sd.picks, List.getElem?_cons_succ, List.getElem?_cons_zero]
    repeat (refine Sd.lit ?_; quiet_step (fail); refine wpQuiet_nil ?_)
    refine Sd.call (by rfl) (fun K hK => ?_)
    have IC := INC.out
    unfold rec4 at IC
    go_simp
    refine (IC _).mono ?_
    rintro e w3 ⟨rfl, b3⟩
    have HB : Hid (Have w p (.slice (some ⟨b, off, none⟩) n cap) x gF (.slice (some ⟨gu, 0, none⟩) n cu) l w3) := HV.out.mono (Below.trans ((Below.refl wB.heap.size wB).drew) b3)
    refine hK _ _ (Sc.Cl.of ⟨HB.out.st.box, HB.out.row, HB.out.st.bel⟩) ?_
    clear hK K b3 HV IC INC C0
    generalize inc (rat l k) = y at *
    repeat (refine Sd.lit ?_; quiet_step (fail); refine wpQuiet_nil ?_)
    clear r1 r2 q0 q1 q2 q3
    refine Sd.call (by rfl) (fun K hK => ?_)
    have HP := Lib.hid (HB.out.put HLL.out.2.1 k HLL.out.1 y)
    obtain ⟨⟨c0, c1, c2, c3⟩, hfr, _, _⟩ := own4 HB.out.own k HLL.out.1
    have f0 := hfr (k * 4)
    have f1 := hfr (k * 4 + 1)
    have f2 := hfr (k * 4 + 2)
    have f3 := hfr (k * 4 + 3)
    clear hfr HB
    go_simp
    refine hK _ _ (Sc.Cl.of ⟨HP.out.st.box, HP.out.row, HP.out.st.bel⟩) ?_
    clear hK K c0 c1 c2 c3 f0 f1 f2 f3 ne
    show Sd.wpSd _ _ _ _ _ _ (sto4 w3 gu (k * 4) y)
    generalize sto4 w3 gu (k * 4) y = Wz at *
    have HV := HP
    clear HP
    refine Sd.done ?_
    go_wp2_with fail
    obtain ⟨⟨c0, c1, c2, c3⟩, _, _, _⟩ := own4 HV.out.own k (by rw [List.length_set]; exact HLL.out.1)
    rw [rat_set l k HLL.out.1] at c0 c1 c2 c3
    have C0 : Last w p gF (.slice (some ⟨gu, 0, none⟩) n cu) (l.set k y) Wz.drew := ⟨HV.out.row, HV.out.own⟩
    have r0 := Sc.cell_in (C := Last w p gF (.slice (some ⟨gu, 0, none⟩) n cu) (l.set k y)) (a := ⟨gF, 0, none⟩) (fun W' h => row_cell h.1 0)
    have r1 := Sc.cell_in (C := Last w p gF (.slice (some ⟨gu, 0, none⟩) n cu) (l.set k y)) (a := ⟨gF, 1, none⟩) (fun W' h => row_cell h.1 1)
    have HQ : Hid (∀ W', Last w p gF (.slice (some ⟨gu, 0, none⟩) n cu) (l.set k y) W' → (W'.cell? ⟨gu, k * 4, none⟩ = some (.int .u8 y.1) ∧ W'.cell? ⟨gu, k * 4 + 1, none⟩ = some (.int .u8 y.2.1) ∧ W'.cell? ⟨gu, k * 4 + 2, none⟩ = some (.int .u8 y.2.2.1) ∧ W'.cell? ⟨gu, k * 4 + 3, none⟩ = some (.int .u8 y.2.2.2))) := fun W' h => by
      have := (own4 h.2 k (by rw [List.length_set]; exact HLL.out.1)).1
      rw [rat_set l k HLL.out.1] at this
      exact this
    have q0 := Sc.cell_in (C := Last w p gF (.slice (some ⟨gu, 0, none⟩) n cu) (l.set k y)) (fun W' h => (HQ.out W' h).1)
    have q1 := Sc.cell_in (C := Last w p gF (.slice (some ⟨gu, 0, none⟩) n cu) (l.set k y)) (fun W' h => (HQ.out W' h).2.1)
    have q2 := Sc.cell_in (C := Last w p gF (.slice (some ⟨gu, 0, none⟩) n cu) (l.set k y)) (fun W' h => (HQ.out W' h).2.2.1)
    have q3 := Sc.cell_in (C := Last w p gF (.slice (some ⟨gu, 0, none⟩) n cu) (l.set k y)) (fun W' h => (HQ.out W' h).2.2.2)
    have ne : Nonempty (Sc.In (Last w p gF (.slice (some ⟨gu, 0, none⟩) n cu) (l.set k y))) := ⟨⟨_, C0⟩⟩
    clear c0 c1 c2 c3 HQ
    refine Sc.start (Last w p gF (.slice (some ⟨gu, 0, none⟩) n cu) (l.set k y)) [(false, 0), (false, 1), (false, 2), (false, 3), (false, 4), (false, 5), (true, 6), (true, 7), (false, 8)] (by kernel_rfl) (by kernel_rfl) (by kernel_rfl) C0 ?_
    dsimp only [Sd.picks, List.getElem?_cons_succ, List.getElem?_cons_zero]
    repeat (refine Sd.lit ?_; quiet_step (fail); refine wpQuiet_nil ?_)
    have HD : Hid (Have w p (.slice (some ⟨b, off, none⟩) n cap) x gF (.slice (some ⟨gu, 0, none⟩) n cu) (l.set k y) Wz.drew) := HV.out.mono ((Below.refl _ _).drew)
    clear HV r0 r1 q0 q1 q2 q3 C0
    generalize Wz.drew = Wy at *
    refine Sd.call (by rfl) (fun K hK => ?_)
    have c0 : Wy.cell? ⟨w.heap.size + 2, 0, none⟩ = some (.int .i64 0) := row_cell HD.out.st.res1 0
    have c1 : Wy.cell? ⟨w.heap.size + 2, 1, none⟩ = some (.slice none 0 0) := row_cell HD.out.st.res1 1
    have f0 := row_frozen HD.out.st.res1 0
    have f1 := row_frozen HD.out.st.res1 1
    have hge := (own4 HD.out.own k (by rw [List.length_set]; exact HLL.out.1)).2.2.1
    have hF := HD.out.ge
    have n1 : (Value.slice (some ⟨gu, 0, none⟩) n cu).ownBlock ≠ some (w.heap.size + 2) := fun e => by simp [Value.ownBlock] at e; omega
    have n2 : (Value.slice (some ⟨gu, 0, none⟩) n cu).ownBlock ≠ some (w.heap.size + 3) := fun e => by simp [Value.ownBlock] at e; omega
    have L1 : Last w p gF (.slice (some ⟨gu, 0, none⟩) n cu) (l.set k y) (sto2 Wy (w.heap.size + 2) p (.slice (some ⟨gu, 0, none⟩) n cu)) := ⟨sto2_other HD.out.row (by omega), sto2_off HD.out.own n1 p⟩
    have R1 := Lib.hid (sto2_row HD.out.st.res1 p (.slice (some ⟨gu, 0, none⟩) n cu))
    have R2 := sto2_other (g := w.heap.size + 2) (p := p) (v := .slice (some ⟨gu, 0, none⟩) n cu) HD.out.st.res2 (by omega)
    have B1 := Lib.hid (sto2_below (p := p) (v := .slice (some ⟨gu, 0, none⟩) n cu) HD.out.st.bel (show w.heap.size ≤ w.heap.size + 2 by omega))
    clear HD
    go_simp
    refine hK _ _ (Sc.Cl.of L1) ?_
    clear hK K c0 c1 f0 f1
    show Sd.wpSd _ _ _ _ _ _ (sto2 Wy (w.heap.size + 2) p (.slice (some ⟨gu, 0, none⟩) n cu))
    generalize sto2 Wy (w.heap.size + 2) p (.slice (some ⟨gu, 0, none⟩) n cu) = Wx at *
    refine Sd.call (by rfl) (fun K hK => ?_)
    have d0 : Wx.cell? ⟨w.heap.size + 3, 0, none⟩ = some (.int .u8 0) := row_cell R2 0
    have d1 : Wx.cell? ⟨w.heap.size + 3, 1, none⟩ = some (.int .u8 0) := row_cell R2 1
    have d2 : Wx.cell? ⟨w.heap.size + 3, 2, none⟩ = some (.int .u8 0) := row_cell R2 2
    have d3 : Wx.cell? ⟨w.heap.size + 3, 3, none⟩ = some (.int .u8 0) := row_cell R2 3
    have k0 := row_frozen R2 0
    have k1 := row_frozen R2 1
    have k2 := row_frozen R2 2
    have k3 := row_frozen R2 3
    have L2 : Last w p gF (.slice (some ⟨gu, 0, none⟩) n cu) (l.set k y) (sto4 Wx (w.heap.size + 3) 0 y) := ⟨sto4_other L1.1 (by omega), sto4_off L1.2 n2 y⟩
    have R3 := Lib.hid (sto4_row R2 y)
    have R4 := Lib.hid (sto4_other (g := w.heap.size + 3) (o := 0) (r := y) R1.out (by omega))
    have B2 := Lib.hid (sto4_below (o := 0) (r := y) B1.out (show w.heap.size ≤ w.heap.size + 3 by omega))
    clear R2 R1 B1 L1
    go_simp
    refine hK _ _ (Sc.Cl.of L2) ?_
    clear hK K d0 d1 d2 d3 k0 k1 k2 k3
    show Sd.wpSd _ _ _ _ _ _ (sto4 Wx (w.heap.size + 3) 0 y)
    have O2 := Lib.hid L2.2
    clear L2
    generalize sto4 Wx (w.heap.size + 3) 0 y = Ww at *
    repeat (refine Sd.lit ?_; quiet_step (fail); refine wpQuiet_nil ?_)
    refine Sd.done ?_
    go_wp2
    (try simp only [Exit.inBlock, Exit.then])
    exact bodyPost_ret (results_do (p := 8) (q := 9) (r := 10) rfl _ _ (w.heap.size + 2) (w.heap.size + 3) p _ y 0 rfl rfl rfl R4.out R3.out) rfl (EY.out _ _ (O2.out.low (by omega)) B2.out)

theorem do_any (w : World) (p : Int) (v : Value) (l : List R4) (R : Rd K4 w v l) (hl : okL l) (op rec : Int) (x : R4) : Calls Tryd.prog 41 #[file p v, .int .i64 op, .int .i64 rec, rec4 x] w (DoPost w p l op rec x) := by
  obtain ⟨a, cap, rfl, _⟩ := R.slice
  by_cases he : doE p l op rec = 0
  · obtain ⟨hg, ho, hr⟩ := doE_of he
    obtain ⟨k, rfl⟩ : ∃ k : Nat, rec = k := ⟨rec.toNat, by omega⟩
    exact do_yes w p a _ cap l R hl op k x he ho (by omega) hg.2.2.2.1
  · exact do_no w p a _ cap l R op rec x he

end Go.Proofs.YtoeemngekioldaaDoor.Fl
