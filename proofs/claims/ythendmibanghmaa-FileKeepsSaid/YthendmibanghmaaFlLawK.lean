/- FileKeeps, walked. -/
import Derived.Test.YthendmibanghmaaFlSame
import Derived.Test.YthendmibanghmaaFlAwake
import Derived.Test.YthendmibanghmaaFlFew
import Derived.Test.YthendmibanghmaaQk
import Derived.Deep.Cut
namespace Go.Proofs.Ythendmibanghmaa.Fl
open Go.RowKit
open Go.Proofs.Ythendmibanghmaa.Rw (Rd Ow At)
attribute [local irreducible] Sd.wpSd wpQuiet

theorem okR_bytes {N : Int} (h0 : 0 ≤ N) (h1 : N < 4294967296) : okR (bytes N) := by
  unfold okR bytes
  refine ⟨⟨?_, ?_⟩, ⟨?_, ?_⟩, ⟨?_, ?_⟩, ?_, ?_⟩ <;> simp only <;> omega
theorem okR_inc (r : R4) : okR (inc r) := okR_bytes (by omega) (by omega)
theorem okR_new {l : List R4} {op : Int} {k : Int} {x : R4} (hl : okL l) (hx : okR x) : okR (newR l op k x) := by
  unfold newR
  split
  · exact hx
  · split
    · exact okR_inc _
    · exact okR_at hl _
theorem okL_set {l : List R4} (hl : okL l) (k : Nat) {y : R4} (hy : okR y) : okL (l.set k y) := fun r hr => by
  rcases List.mem_or_eq_of_mem_set hr with h | h
  · exact hl r h
  · rw [h]; exact hy
theorem rat_other (l : List R4) {i k : Nat} (h : i ≠ k) (y : R4) : rat (l.set k y) i = rat l i := by
  unfold rat
  rw [List.getD_eq_getElem?_getD, List.getD_eq_getElem?_getD, List.getElem?_set_ne (fun e => h e.symm)]
theorem cases4 {p op : Int} {k : Nat} {l : List R4} (h : doE p l op k = 0) : (op = 0 ∧ k = 0) ∨ 0 < k := by
  obtain ⟨h1, h2, h3⟩ := doE_of h
  have h4 : (k : Int) = 0 ∧ op = 0 ∨ 0 < (k : Int) ∧ p / need op % 2 = 1 := Decidable.byContradiction fun c => by rw [doE_5 h1 h2 h3 c] at h; omega
  omega
theorem keep_zero {p op : Int} {k : Nat} {l : List R4} (x : R4) (h : doE p l op k = 0) : rat (l.set k (newR l op k x)) 0 = rat l 0 := by
  have hk : k < l.length := by have := (doE_of h).2.2; omega
  rcases cases4 h with ⟨rfl, rfl⟩ | h0
  · rw [rat_set l 0 hk]; rfl
  · exact rat_other l (by omega) _
theorem keep_good {p op : Int} {k : Nat} {l : List R4} (x : R4) (h : doE p l op k = 0) : goodF p (l.set k (newR l op k x)) := by
  obtain ⟨h1, h2, h3, h4, h5⟩ := (doE_of h).1
  refine ⟨h1, h2, by rw [List.length_set]; exact h3, by rw [List.length_set]; exact h4, ?_⟩
  rw [keep_zero x h, List.length_set]
  exact h5
theorem keep_read {p : Int} {k : Nat} {m : List R4} (hg : goodF p m) (hk : k < m.length) : doE p m 0 k = 0 ∨ doE p m 0 k = 5 ∧ bits BinOp.and .i64 p 1 = 0 := by
  by_cases c : (k : Int) = 0 ∧ (0 : Int) = 0 ∨ 0 < (k : Int) ∧ p / need 0 % 2 = 1
  · exact .inl (doE_0 hg (by omega) (by omega) c)
  · refine .inr ⟨doE_5 hg (by omega) (by omega) c, ?_⟩
    have := (and_perm' (op := 0) hg.1 hg.2.1 (by omega) (by omega)).2 (fun e => c (.inr ⟨by omega, e⟩))
    exact this

set_option maxRecDepth 100000 in
set_option maxHeartbeats 1000000 in
theorem keeps_bad (w : World) (p : Int) (a : Option Addr) (n cap : Nat) (l : List R4) (R : Rd K4 w (.slice a n cap) l) (hl : okL l) (op rec : Int) (x : R4) (he : ¬ doE p (l.take 260) op rec = 0) :
    Calls Try.prog 5 #[file p (.slice a n cap), .int .i64 op, .int .i64 rec, rec4 x] w fun e w' => e = .returned (.bool true) ∧ Below w.heap.size w w' := by
  obtain ⟨t1, t2, bb⟩ := two_new w p (.slice a n cap) #[.int .u8 x.1, .int .u8 x.2.1, .int .u8 x.2.2.1, .int .u8 x.2.2.2]
  have B0 := Lib.hid bb
  have R0 := Lib.hid (R.below bb)
  have A0 := Lib.hid t2
  have DD : Hid (∀ W u, Rd K4 W u (l.take 260) → Calls Try.prog 6 #[file p u, .int .i64 op, .int .i64 rec, rec4 x] W (DoIs W 0 z4 [] (doE p (l.take 260) op rec))) := fun W u h => do_is W p u _ h (okL_take hl _) op rec x 0 z4 [] _ rfl (if_neg he) (if_neg he) (if_neg he)
  have hd : (doE p (l.take 260) op rec != 0) = true := by simpa using he
  have FW := Lib.hid (fun W u (h : Rd K4 W u l) => few_any W p u l h)
  unfold DoIs FewPost at *
  generalize doE p (l.take 260) op rec = d at *
  generalize l.take 260 = l' at *
  clear R hl he bb t1 t2
  unfold file rec4 z4 at *
  go_enter Try.func5, Try.ntmps5
  go_wp2_with fail
  generalize (w.alloc (.cells #[.int .i64 p, .slice a n cap] 24)).alloc (.cells #[.int .u8 x.1, .int .u8 x.2.1, .int .u8 x.2.2.1, .int .u8 x.2.2.2] 26) = W at *
  refine (FW.out _ _ R0.out).mono ?_
  rintro e w1 ⟨u1, rfl, r1, b1⟩
  obtain ⟨a1, n1, c1, rfl⟩ : ∃ a n c, u1 = .slice a n c := by obtain ⟨a, c, e, _⟩ := r1; exact ⟨a, _, c, e⟩
  have bz := (Below.refl w1.heap.size w1).alloc (Nat.le_refl _) (.cells #[.int .i64 p, .slice a1 n1 c1] 24)
  have B1 := Lib.hid (b1.trans (bz.mono b1.size))
  have R1 := Lib.hid (r1.below bz)
  have F1 := Lib.hid (heap_alloc_new w1 (.cells #[.int .i64 p, .slice a1 n1 c1] 24))
  clear r1 b1 bz FW R0
  go_upto_region 2 with fail
  generalize w1.alloc (.cells #[.int .i64 p, .slice a1 n1 c1] 24) = W1 at *
  have A1 := Lib.hid ((B1.out.block _ (lt_of_block A0.out)).trans A0.out)
  have k0 : W1.cell? ⟨w1.heap.size, 0, none⟩ = some (.int .i64 p) := row_cell F1.out 0
  have k1 : W1.cell? ⟨w1.heap.size, 1, none⟩ = some (.slice a1 n1 c1) := row_cell F1.out 1
  have j0 : W1.cell? ⟨w.heap.size + 1, 0, none⟩ = some (.int .u8 x.1) := row_cell A1.out 0
  have j1 : W1.cell? ⟨w.heap.size + 1, 1, none⟩ = some (.int .u8 x.2.1) := row_cell A1.out 1
  have j2 : W1.cell? ⟨w.heap.size + 1, 2, none⟩ = some (.int .u8 x.2.2.1) := row_cell A1.out 2
  have j3 : W1.cell? ⟨w.heap.size + 1, 3, none⟩ = some (.int .u8 x.2.2.2) := row_cell A1.out 3
  go_wp2_with fail
  refine (DD.out _ _ R1.out).mono ?_
  rintro e w2 ⟨u2, rfl, r2, b2⟩
  obtain ⟨a2, c2, rfl⟩ : ∃ a c, u2 = .slice a 0 c := by obtain ⟨a, c, e, _⟩ := r2; exact ⟨a, c, e⟩
  obtain ⟨t1, t2, t3⟩ := two_new w2 0 (.slice a2 0 c2) #[.int .u8 0, .int .u8 0, .int .u8 0, .int .u8 0]
  have B2 := Lib.hid (B1.out.trans ((b2.trans (t3.mono b2.size)).mono B1.out.size))
  have F2 := Lib.hid (And.intro t1 t2)
  clear r2 b2 t1 t2 t3 k0 k1 j0 j1 j2 j3 R1 A1 A0 F1 DD B1
  go_upto_region 4 with fail
  generalize (w2.alloc (.cells #[.int .i64 0, .slice a2 0 c2] 24)).alloc (.cells #[.int .u8 0, .int .u8 0, .int .u8 0, .int .u8 0] 26) = W2 at *
  go_wp2_with fail
  refine (awake_any _).mono ?_
  rintro e w3 ⟨rfl, b3⟩
  have B3 := Lib.hid (B2.out.trans (b3.mono B2.out.size))
  have k1 : w3.cell? ⟨w2.heap.size, 1, none⟩ = some (.slice a2 0 c2) := row_cell ((b3.block _ (lt_of_block F2.out.1)).trans F2.out.1) 1
  have G := (b3.block _ (lt_of_block F2.out.2)).trans F2.out.2
  have j0 : w3.cell? ⟨w2.heap.size + 1, 0, none⟩ = some (.int .u8 0) := row_cell G 0
  have j1 : w3.cell? ⟨w2.heap.size + 1, 1, none⟩ = some (.int .u8 0) := row_cell G 1
  have j2 : w3.cell? ⟨w2.heap.size + 1, 2, none⟩ = some (.int .u8 0) := row_cell G 2
  have j3 : w3.cell? ⟨w2.heap.size + 1, 3, none⟩ = some (.int .u8 0) := row_cell G 3
  have e1 : ∀ w, (Op.equalIn 10000 26 (.agg #[.int .u8 0, .int .u8 0, .int .u8 0, .int .u8 0]) (.agg #[.int .u8 0, .int .u8 0, .int .u8 0, .int .u8 0])).run Try.prog w = .ok true w := fun w => by have := eq_rec z4 z4 w; rwa [decide_eq_true rfl] at this
  clear b3 B2 F2 G
  go_wp2
  go_ret
  exact ⟨rfl, B0.out.trans (B3.out.mono B0.out.size)⟩

set_option maxRecDepth 100000 in
set_option maxHeartbeats 8000000 in
theorem keeps_ok (w : World) (p : Int) (a : Option Addr) (n cap : Nat) (l : List R4) (R : Rd K4 w (.slice a n cap) l) (hl : okL l) (op : Int) (k : Nat) (x : R4) (hx : okR x) (he : doE p (l.take 260) op k = 0) :
    Calls Try.prog 5 #[file p (.slice a n cap), .int .i64 op, .int .i64 (k : Int), rec4 x] w fun e w' => e = .returned (.bool true) ∧ Below w.heap.size w w' := by
  obtain ⟨t1, t2, bb⟩ := two_new w p (.slice a n cap) #[.int .u8 x.1, .int .u8 x.2.1, .int .u8 x.2.2.1, .int .u8 x.2.2.2]
  have B0 := Lib.hid bb
  have R0 := Lib.hid (R.below bb)
  have A0 := Lib.hid t2
  obtain ⟨hg, ho, hr⟩ := doE_of he
  have hk : k < (l.take 260).length := by omega
  have DD : Hid (∀ W u, Rd K4 W u (l.take 260) → Calls Try.prog 6 #[file p u, .int .i64 op, .int .i64 (k : Int), rec4 x] W (DoIs W p (newR (l.take 260) op k x) ((l.take 260).set k (newR (l.take 260) op k x)) 0)) := fun W u h => do_is W p u _ h (okL_take hl _) op k x p _ _ 0 he (if_pos rfl) (if_pos rfl) (by rw [if_pos rfl, Int.toNat_natCast])
  have HGood := keep_good x he
  have HZero := Lib.hid (keep_zero x he)
  have OKM := okL_set (okL_take hl 260) k (okR_new (op := op) (k := k) (okL_take hl 260) hx)
  have HY : Hid ((op = 0 → newR (l.take 260) op k x = rat (l.take 260) k) ∧ (op = 1 → newR (l.take 260) op k x = x)) := ⟨fun h => by rw [h]; unfold newR; rw [if_neg (by decide), if_neg (by decide), Int.toNat_natCast], fun h => by rw [h]; unfold newR; rw [if_pos rfl]⟩
  have H260 : Hid ((l.take 260).length ≤ 260) := Lib.hid (List.length_take_le ..)
  have FW := Lib.hid (fun W u (h : Rd K4 W u l) => few_any W p u l h)
  unfold DoIs FewPost at *
  generalize newR (l.take 260) op k x = y at *
  generalize l.take 260 = l' at *
  have HM := Lib.hid (rat_set l' k hk y)
  have HO := Lib.hid (fun i (h : i ≠ k) => rat_other l' h y)
  have HSame : Hid (op = 0 → l'.set k y = l') := fun h => by rw [HY.out.1 h]; exact set_rat l' k hk
  have hlen : (l'.set k y).length = l'.length := List.length_set ..
  have HLm := Lib.hid hlen
  have GG := Lib.hid (fun W u (h : Rd K4 W u (l'.set k y)) => at_bool (show goodFB p (l'.set k y) = true from decide_eq_true HGood) (good_any W p u _ h))
  have RD := keep_read HGood (k := k) (by rw [hlen]; exact hk)
  have D2 : Hid (∀ W u, Rd K4 W u (l'.set k y) → Calls Try.prog 6 #[file p u, .int .i64 0, .int .i64 (k : Int), rec4 z4] W (DoPost W p (l'.set k y) 0 k z4)) := fun W u h => do_any W p u _ h OKM 0 k z4
  have HN0 : Hid (newR (l'.set k y) 0 k z4 = y) := Lib.hid (by unfold newR; rw [if_neg (by decide), if_neg (by decide), Int.toNat_natCast]; exact rat_set l' k hk y)
  have D3 : Hid (∀ W u, Rd K4 W u (l'.set k y) → Calls Try.prog 6 #[file p u, .int .i64 0, .int .i64 (k : Int), rec4 z4] W (fun e w' => ∃ (q : Int) (r : R4) (a : Option Addr) (n c : Nat), e = .returned (.tuple #[file q (.slice a n c), rec4 r, .int .i64 (doE p (l'.set k y) 0 k)]) ∧ (doE p (l'.set k y) 0 k = 0 → r = y) ∧ Below W.heap.size W w')) := fun W u h => by
    refine (D2.out W u h).mono ?_
    rintro e w' ⟨v, e1, o, b⟩
    obtain ⟨a, c, e2, _⟩ := o.slice
    subst e2
    refine ⟨_, _, _, _, _, e1, fun hz => ?_, b⟩
    rw [if_pos hz, HN0.out]
  clear D2
  generalize doE p (l'.set k y) 0 k = d at *
  generalize hm : l'.set k y = m at *
  have HMM := Lib.hid hm
  clear R hl bb t1 t2 hg hr OKM HGood HN0 hm hlen hx he
  have HKL := Lib.hid hk
  generalize hn' : l'.length = n' at *
  have HL' := Lib.hid hn'
  clear hn'
  have hkn : (k : Int) < n' := by omega
  have hkn1 : decide ((k : Int) < 0) = false := decide_eq_false (by omega)
  have hkn2 : decide ((n' : Int) ≤ k) = false := decide_eq_false (by omega)
  unfold file rec4 z4 at *
  go_enter Try.func5, Try.ntmps5
  go_wp2_with fail
  generalize (w.alloc (.cells #[.int .i64 p, .slice a n cap] 24)).alloc (.cells #[.int .u8 x.1, .int .u8 x.2.1, .int .u8 x.2.2.1, .int .u8 x.2.2.2] 26) = W at *
  refine (FW.out _ _ R0.out).mono ?_
  rintro e w1 ⟨u1, rfl, r1, b1⟩
  obtain ⟨a1, c1, rfl⟩ : ∃ a c, u1 = .slice a n' c := by obtain ⟨a, c, e, _⟩ := r1; exact ⟨a, c, by rw [e, HL'.out]⟩
  have bz := (Below.refl w1.heap.size w1).alloc (Nat.le_refl _) (.cells #[.int .i64 p, .slice a1 n' c1] 24)
  have B1 := Lib.hid (b1.trans (bz.mono b1.size))
  have R1 := Lib.hid (r1.below bz)
  have F1 := Lib.hid (heap_alloc_new w1 (.cells #[.int .i64 p, .slice a1 n' c1] 24))
  clear r1 b1 bz FW R0
  go_upto_region 2 with fail
  generalize w1.alloc (.cells #[.int .i64 p, .slice a1 n' c1] 24) = W1 at *
  have A1 := Lib.hid ((B1.out.block _ (lt_of_block A0.out)).trans A0.out)
  have k0 : W1.cell? ⟨w1.heap.size, 0, none⟩ = some (.int .i64 p) := row_cell F1.out 0
  have k1 : W1.cell? ⟨w1.heap.size, 1, none⟩ = some (.slice a1 n' c1) := row_cell F1.out 1
  have j0 : W1.cell? ⟨w.heap.size + 1, 0, none⟩ = some (.int .u8 x.1) := row_cell A1.out 0
  have j1 : W1.cell? ⟨w.heap.size + 1, 1, none⟩ = some (.int .u8 x.2.1) := row_cell A1.out 1
  have j2 : W1.cell? ⟨w.heap.size + 1, 2, none⟩ = some (.int .u8 x.2.2.1) := row_cell A1.out 2
  have j3 : W1.cell? ⟨w.heap.size + 1, 3, none⟩ = some (.int .u8 x.2.2.2) := row_cell A1.out 3
  go_wp2_with fail
  refine (DD.out _ _ R1.out).mono ?_
  rintro e w2 ⟨u2, rfl, r2, b2⟩
  obtain ⟨a2, c2, rfl⟩ : ∃ a c, u2 = .slice a n' c := by obtain ⟨a, c, e, _⟩ := r2; exact ⟨a, c, by rw [e, HLm.out]⟩
  obtain ⟨t1, t2, t3⟩ := two_new w2 p (.slice a2 n' c2) #[.int .u8 y.1, .int .u8 y.2.1, .int .u8 y.2.2.1, .int .u8 y.2.2.2]
  have bz := b2.trans (t3.mono b2.size)
  have B2 := Lib.hid (B1.out.trans (bz.mono B1.out.size))
  have R2 := Lib.hid (r2.below t3)
  have R1' := Lib.hid (R1.out.below bz)
  have F2 := Lib.hid t1
  have G2 := Lib.hid t2
  have A2 := Lib.hid ((bz.block _ (lt_of_block A1.out)).trans A1.out)
  have F1' := Lib.hid ((bz.block _ (lt_of_block F1.out)).trans F1.out)
  clear r2 b2 t1 t2 t3 bz k0 k1 j0 j1 j2 j3 R1 A1 A0 F1 DD B1
  go_upto_region 5 with fail
  generalize (w2.alloc (.cells #[.int .i64 p, .slice a2 n' c2] 24)).alloc (.cells #[.int .u8 y.1, .int .u8 y.2.1, .int .u8 y.2.2.1, .int .u8 y.2.2.2] 26) = W2 at *
  obtain ⟨b1, o1, rfl, X1⟩ : ∃ b off, a1 = some ⟨b, off, none⟩ ∧ At K4 W2 b off l' := by
    obtain ⟨a', cap', e, _, _, h4⟩ := R1'.out
    injection e with e1 e2 e3
    subst e1
    exact h4 (by have := HL'.out; omega)
  obtain ⟨b2, o2, rfl, X2⟩ : ∃ b off, a2 = some ⟨b, off, none⟩ ∧ At K4 W2 b off m := by
    obtain ⟨a', cap', e, _, _, h4⟩ := R2.out
    injection e with e1 e2 e3
    subst e1
    exact h4 (by have := HLm.out; omega)
  have HX1 := Lib.hid X1
  have HX2 := Lib.hid X2
  obtain ⟨c0', c1', c2', c3'⟩ := at4 X2 k (by have := HLm.out; omega)
  rw [HM.out] at c0' c1' c2' c3'
  have q0 := Qb.cell_by c0'
  have q1 := Qb.cell_by c1'
  have q2 := Qb.cell_by c2'
  have q3 := Qb.cell_by c3'
  have s0 := Qb.cell_by (show W2.cell? ⟨w2.heap.size, 0, none⟩ = some (.int .i64 p) from row_cell F2.out 0)
  have s1 := Qb.cell_by (show W2.cell? ⟨w2.heap.size, 1, none⟩ = some (.slice (some ⟨b2, o2, none⟩) n' c2) from row_cell F2.out 1)
  have s2 := Qb.cell_by (show W2.cell? ⟨w1.heap.size, 0, none⟩ = some (.int .i64 p) from row_cell F1'.out 0)
  have s3 := Qb.cell_by (show W2.cell? ⟨w1.heap.size, 1, none⟩ = some (.slice (some ⟨b1, o1, none⟩) n' c1) from row_cell F1'.out 1)
  have y0 := Qb.cell_by (show W2.cell? ⟨w2.heap.size + 1, 0, none⟩ = some (.int .u8 y.1) from row_cell G2.out 0)
  have y1 := Qb.cell_by (show W2.cell? ⟨w2.heap.size + 1, 1, none⟩ = some (.int .u8 y.2.1) from row_cell G2.out 1)
  have y2 := Qb.cell_by (show W2.cell? ⟨w2.heap.size + 1, 2, none⟩ = some (.int .u8 y.2.2.1) from row_cell G2.out 2)
  have y3 := Qb.cell_by (show W2.cell? ⟨w2.heap.size + 1, 3, none⟩ = some (.int .u8 y.2.2.2) from row_cell G2.out 3)
  have es := eq_rec y y
  rw [decide_eq_true rfl] at es
  have HXk : k < n' := by omega
  clear X1 X2 c0' c1' c2' c3'
  refine Qb.wp_region_by (by kernel_rfl) (by kernel_rfl) ?_
  iterate 39 (quiet_step ((go_at_call 10; exact Qb.of_below (GG.out _ _ (R2.out.below (Qb.By.below _))))))
  refine wpQuiet_nil ?_
  intro _ hw'
  obtain ⟨pp, rfl⟩ := hw'
  have bV := pp.below
  generalize pp.world = V at *
  have BV := Lib.hid (B2.out.trans (bV.mono B2.out.size))
  have Y1 := Lib.hid (HX1.out.below bV)
  have Y2 := Lib.hid (HX2.out.below bV)
  have RV1 := Lib.hid (R1'.out.below bV)
  have RV2 := Lib.hid (R2.out.below bV)
  have FV1 := Lib.hid ((bV.block _ (lt_of_block F1'.out)).trans F1'.out)
  have FV2 := Lib.hid ((bV.block _ (lt_of_block F2.out)).trans F2.out)
  have GV2 := Lib.hid ((bV.block _ (lt_of_block G2.out)).trans G2.out)
  have AV2 := Lib.hid ((bV.block _ (lt_of_block A2.out)).trans A2.out)
  clear q0 q1 q2 q3 s0 s1 s2 s3 y0 y1 y2 y3 es bV HX1 HX2 R1' R2 F1' F2 G2 A2 B2 GG
  go_upto_region 8 with fail
  clear hkn hkn1 hkn2 hk HXk
  generalize decide (n' ≤ k) = g1 at *
  generalize hKK : (k : Int) = K at *
  have HK := Lib.hid hKK
  clear hKK
  generalize o2 + k * 4 = ok at *
  go_loopw [13] (fun i wr => ∃ j : Nat, j ≤ n' ∧ i = .int .i64 j ∧ Hid (Below V.heap.size V wr)) (fun i _ => n' - (intOf i).toNat)
  case atStart => exact ⟨0, Nat.zero_le _, rfl, Below.refl _ _⟩
  case round =>
    obtain ⟨j, hj, rfl, bw⟩ := hrel
    have h260 := H260.out
    by_cases hlt : j < n'
    · have s1 : wr.cell? ⟨w2.heap.size, 1, none⟩ = some (.slice (some ⟨b2, o2, none⟩) n' c2) := row_cell ((bw.out.block _ (lt_of_block FV2.out)).trans FV2.out) 1
      have s3 : wr.cell? ⟨w1.heap.size, 1, none⟩ = some (.slice (some ⟨b1, o1, none⟩) n' c1) := row_cell ((bw.out.block _ (lt_of_block FV1.out)).trans FV1.out) 1
      have t1 := Sd.cell_by s1
      have t3 := Sd.cell_by s3
      by_cases h0 : j = 0
      · subst h0
        obtain ⟨x0, x1, x2, x3⟩ := at4_0 (Y1.out.below bw.out) (by have := HL'.out; omega)
        obtain ⟨z0, z1, z2, z3⟩ := at4_0 (Y2.out.below bw.out) (by have := HLm.out; have := HL'.out; omega)
        rw [HZero.out] at z0 z1 z2 z3
        have es := eq_rec (rat l' 0) (rat l' 0)
        rw [decide_eq_true rfl] at es
        generalize rat l' 0 = r at *
        have m0 := Sd.cell_by x0
        have m1 := Sd.cell_by x1
        have m2 := Sd.cell_by x2
        have m3 := Sd.cell_by x3
        have v0 := Sd.cell_by z0
        have v1 := Sd.cell_by z1
        have v2 := Sd.cell_by z2
        have v3 := Sd.cell_by z3
        clear x0 x1 x2 x3 z0 z1 z2 z3
        by_cases hk0 : k = 0
        · obtain rfl : K = 0 := by have := HK.out; omega
          go_upto_region 10 with fail
          refine Sd.start [(false, 0), (false, 1), (false, 2), (false, 3), (false, 4), (false, 5), (false, 6), (false, 7), (false, 8), (false, 9), (false, 10), (false, 11), (false, 12), (false, 13), (false, 14), (false, 15), (false, 16), (false, 17), (false, 18), (false, 19), (false, 20), (false, 21), (false, 22), (false, 23), (false, 24), (false, 25), (false, 26), (false, 27), (false, 28), (false, 29), (false, 30), (false, 31), (false, 32)] (by kernel_rfl) (by kernel_rfl) (by kernel_rfl) ?_
          dsimp only [Sd.picks, List.getElem?_cons_succ, List.getElem?_cons_zero]
          iterate 33 (refine Sd.lit ?_; (first | (refine Qk.skip (by rfl) (by rfl) ?_) | quiet_step (fail)); refine wpQuiet_nil ?_)
          refine Sd.done ?_
          go_wp2
          go_roundw
          case rel => exact ⟨_, hlt, by go_num, Lib.hid bw.out.drew⟩
          case measure => simp [intOf] <;> omega
        · have hb2 : ¬ (0 : Int) = K := by have := HK.out; omega
          have hb : ((0 : Int) == K) = false := by simpa using hb2
          go_upto_region 10 with fail
          refine Sd.start [(false, 0), (false, 1), (false, 2), (false, 3), (false, 4), (false, 5), (false, 6), (false, 7), (false, 8), (false, 9), (false, 10), (false, 11), (false, 12), (false, 13), (false, 14), (false, 15), (false, 16), (false, 17), (false, 18), (false, 19), (false, 20), (false, 21), (false, 22), (false, 23), (false, 24), (false, 25), (false, 26), (false, 27), (false, 28), (false, 29), (false, 30), (false, 31), (false, 32)] (by kernel_rfl) (by kernel_rfl) (by kernel_rfl) ?_
          dsimp only [Sd.picks, List.getElem?_cons_succ, List.getElem?_cons_zero]
          iterate 33 (refine Sd.lit ?_; (first | (refine Qk.skip (by rfl) (by rfl) ?_) | quiet_step (fail)); refine wpQuiet_nil ?_)
          refine Sd.done ?_
          go_wp2
          go_roundw
          case rel => exact ⟨_, hlt, by go_num, Lib.hid bw.out.drew⟩
          case measure => simp [intOf] <;> omega
      · have hb0 : ((j : Int) == 0) = false := by simp; omega
        have hb1 : ¬ (j : Int) = 0 := by omega
        by_cases hjk : j = k
        · obtain rfl : K = (j : Int) := by have := HK.out; omega
          clear hjk
          go_upto_region 10 with fail
          refine Sd.start [(false, 0), (false, 1), (false, 2), (false, 3), (false, 4), (false, 5), (false, 6), (false, 7), (false, 8), (false, 9), (false, 10), (false, 11), (false, 12), (false, 13), (false, 14), (false, 15), (false, 16), (false, 17), (false, 18), (false, 19), (false, 20), (false, 21), (false, 22), (false, 23), (false, 24), (false, 25), (false, 26), (false, 27), (false, 28), (false, 29), (false, 30), (false, 31), (false, 32)] (by kernel_rfl) (by kernel_rfl) (by kernel_rfl) ?_
          dsimp only [Sd.picks, List.getElem?_cons_succ, List.getElem?_cons_zero]
          iterate 33 (refine Sd.lit ?_; (first | (refine Qk.skip (by rfl) (by rfl) ?_) | quiet_step (fail)); refine wpQuiet_nil ?_)
          refine Sd.done ?_
          go_wp2
          go_roundw
          case rel => exact ⟨_, hlt, by go_num, Lib.hid bw.out.drew⟩
          case measure => simp [intOf] <;> omega
        · obtain ⟨x0, x1, x2, x3⟩ := at4 (Y1.out.below bw.out) j (by have := HL'.out; omega)
          obtain ⟨z0, z1, z2, z3⟩ := at4 (Y2.out.below bw.out) j (by have := HLm.out; have := HL'.out; omega)
          rw [HO.out j hjk] at z0 z1 z2 z3
          have es := eq_rec (rat l' j) (rat l' j)
          rw [decide_eq_true rfl] at es
          generalize rat l' j = r at *
          have m0 := Sd.cell_by x0
          have m1 := Sd.cell_by x1
          have m2 := Sd.cell_by x2
          have m3 := Sd.cell_by x3
          have v0 := Sd.cell_by z0
          have v1 := Sd.cell_by z1
          have v2 := Sd.cell_by z2
          have v3 := Sd.cell_by z3
          have hb2 : ¬ (j : Int) = K := by have := HK.out; omega
          have hb : ((j : Int) == K) = false := by simpa using hb2
          clear x0 x1 x2 x3 z0 z1 z2 z3
          go_upto_region 10 with fail
          refine Sd.start [(false, 0), (false, 1), (false, 2), (false, 3), (false, 4), (false, 5), (false, 6), (false, 7), (false, 8), (false, 9), (false, 10), (false, 11), (false, 12), (false, 13), (false, 14), (false, 15), (false, 16), (false, 17), (false, 18), (false, 19), (false, 20), (false, 21), (false, 22), (false, 23), (false, 24), (false, 25), (false, 26), (false, 27), (false, 28), (false, 29), (false, 30), (false, 31), (false, 32)] (by kernel_rfl) (by kernel_rfl) (by kernel_rfl) ?_
          dsimp only [Sd.picks, List.getElem?_cons_succ, List.getElem?_cons_zero]
          iterate 33 (refine Sd.lit ?_; (first | (refine Qk.skip (by rfl) (by rfl) ?_) | quiet_step (fail)); refine wpQuiet_nil ?_)
          refine Sd.done ?_
          go_wp2
          go_roundw
          case rel => exact ⟨_, hlt, by go_num, Lib.hid bw.out.drew⟩
          case measure => simp [intOf] <;> omega
    · obtain rfl : j = n' := by omega
      have BW := Lib.hid (BV.out.trans (bw.out.mono BV.out.size))
      have F1w := Lib.hid ((bw.out.block _ (lt_of_block FV1.out)).trans FV1.out)
      have F2w := Lib.hid ((bw.out.block _ (lt_of_block FV2.out)).trans FV2.out)
      have G2w := Lib.hid ((bw.out.block _ (lt_of_block GV2.out)).trans GV2.out)
      have A2w := Lib.hid ((bw.out.block _ (lt_of_block AV2.out)).trans AV2.out)
      have RW1 := Lib.hid (RV1.out.below bw.out)
      have RW2 := Lib.hid (RV2.out.below bw.out)
      have s3 : wr.cell? ⟨w1.heap.size, 1, none⟩ = some (.slice (some ⟨b1, o1, none⟩) j c1) := row_cell F1w.out 1
      clear BV FV1 FV2 GV2 AV2 RV1 RV2 Y1 Y2 hj hlt h260 bw
      go_upto_region 12 with fail
      clear s3
      have k0 : wr.cell? ⟨w2.heap.size, 0, none⟩ = some (.int .i64 p) := row_cell F2w.out 0
      have k1 : wr.cell? ⟨w2.heap.size, 1, none⟩ = some (.slice (some ⟨b2, o2, none⟩) j c2) := row_cell F2w.out 1
      go_wp2_with fail
      refine (D3.out _ _ RW2.out).mono ?_
      rintro e w5 ⟨q5, r5, a5, n5, c5, rfl, h5, b5⟩
      obtain ⟨t1, t2, t3⟩ := two_new w5 q5 (.slice a5 n5 c5) #[.int .u8 r5.1, .int .u8 r5.2.1, .int .u8 r5.2.2.1, .int .u8 r5.2.2.2]
      have bz := b5.trans (t3.mono b5.size)
      have B6 := Lib.hid (BW.out.trans (bz.mono BW.out.size))
      have H5 := Lib.hid h5
      have T5 := Lib.hid t2
      have BZ := Lib.hid bz
      clear b5 t1 t2 t3 bz h5 k0 k1 BW D3
      go_upto_region 13 with fail
      generalize (w5.alloc (.cells #[.int .i64 q5, .slice a5 n5 c5] 24)).alloc (.cells #[.int .u8 r5.1, .int .u8 r5.2.1, .int .u8 r5.2.2.1, .int .u8 r5.2.2.2] 26) = W6 at *
      go_wp2_with fail
      refine (awake_any _).mono ?_
      rintro e w7 ⟨rfl, b7⟩
      have bq := BZ.out.trans (b7.mono BZ.out.size)
      have B7 := Lib.hid (B6.out.trans (b7.mono B6.out.size))
      have F1x := Lib.hid ((bq.block _ (lt_of_block F1w.out)).trans F1w.out)
      have F2x := Lib.hid ((bq.block _ (lt_of_block F2w.out)).trans F2w.out)
      have G2x := Lib.hid ((bq.block _ (lt_of_block G2w.out)).trans G2w.out)
      have A2x := Lib.hid ((bq.block _ (lt_of_block A2w.out)).trans A2w.out)
      have T5x := Lib.hid ((b7.block _ (lt_of_block T5.out)).trans T5.out)
      have RX1 := Lib.hid (RW1.out.below bq)
      have RX2 := Lib.hid (RW2.out.below bq)
      have f0 : w7.cell? ⟨w2.heap.size, 0, none⟩ = some (.int .i64 p) := row_cell F2x.out 0
      have f1 : w7.cell? ⟨w2.heap.size, 1, none⟩ = some (.slice (some ⟨b2, o2, none⟩) j c2) := row_cell F2x.out 1
      have f2 : w7.cell? ⟨w1.heap.size, 0, none⟩ = some (.int .i64 p) := row_cell F1x.out 0
      have f3 : w7.cell? ⟨w1.heap.size, 1, none⟩ = some (.slice (some ⟨b1, o1, none⟩) j c1) := row_cell F1x.out 1
      have y0 : w7.cell? ⟨w2.heap.size + 1, 0, none⟩ = some (.int .u8 y.1) := row_cell G2x.out 0
      have y1 : w7.cell? ⟨w2.heap.size + 1, 1, none⟩ = some (.int .u8 y.2.1) := row_cell G2x.out 1
      have y2 : w7.cell? ⟨w2.heap.size + 1, 2, none⟩ = some (.int .u8 y.2.2.1) := row_cell G2x.out 2
      have y3 : w7.cell? ⟨w2.heap.size + 1, 3, none⟩ = some (.int .u8 y.2.2.2) := row_cell G2x.out 3
      have r0 : w7.cell? ⟨w5.heap.size + 1, 0, none⟩ = some (.int .u8 r5.1) := row_cell T5x.out 0
      have r1 : w7.cell? ⟨w5.heap.size + 1, 1, none⟩ = some (.int .u8 r5.2.1) := row_cell T5x.out 1
      have r2 : w7.cell? ⟨w5.heap.size + 1, 2, none⟩ = some (.int .u8 r5.2.2.1) := row_cell T5x.out 2
      have r3 : w7.cell? ⟨w5.heap.size + 1, 3, none⟩ = some (.int .u8 r5.2.2.2) := row_cell T5x.out 3
      have es := eq_rec y y
      rw [decide_eq_true rfl] at es
      clear b7 bq BZ B6 F1w F2w G2w A2w T5 RW1 RW2
      rcases (by omega : op = 0 ∨ op = 1 ∨ op = 2) with rfl | rfl | rfl
      · have SM := Lib.hid (at_bool (show sameF p m p l' = true by rw [HSame.out rfl]; simp [sameF]) (same_any w7 p p _ _ m l' RX2.out RX1.out))
        unfold file at SM
        rcases RD with rfl | ⟨rfl, hp1⟩
        · obtain rfl := H5.out rfl
          go_wp2_with fail
          refine SM.out.mono ?_
          rintro e w8 ⟨rfl, b8⟩
          have B8 := Lib.hid (B7.out.trans (b8.mono B7.out.size))
          have g2 := (b8.block _ (lt_of_block G2x.out)).trans G2x.out
          have t5 := (b8.block _ (lt_of_block T5x.out)).trans T5x.out
          have y0 := (show w8.cell? ⟨w2.heap.size + 1, 0, none⟩ = some _ from row_cell g2 0)
          have y1 := (show w8.cell? ⟨w2.heap.size + 1, 1, none⟩ = some _ from row_cell g2 1)
          have y2 := (show w8.cell? ⟨w2.heap.size + 1, 2, none⟩ = some _ from row_cell g2 2)
          have y3 := (show w8.cell? ⟨w2.heap.size + 1, 3, none⟩ = some _ from row_cell g2 3)
          have r0 := (show w8.cell? ⟨w5.heap.size + 1, 0, none⟩ = some _ from row_cell t5 0)
          have r1 := (show w8.cell? ⟨w5.heap.size + 1, 1, none⟩ = some _ from row_cell t5 1)
          have r2 := (show w8.cell? ⟨w5.heap.size + 1, 2, none⟩ = some _ from row_cell t5 2)
          have r3 := (show w8.cell? ⟨w5.heap.size + 1, 3, none⟩ = some _ from row_cell t5 3)
          go_wp2
          go_ret
          exact ⟨rfl, B0.out.trans (B8.out.mono B0.out.size)⟩
        · go_wp2_with fail
          refine SM.out.mono ?_
          rintro e w8 ⟨rfl, b8⟩
          have B8 := Lib.hid (B7.out.trans (b8.mono B7.out.size))
          have f0' : w8.cell? ⟨w2.heap.size, 0, none⟩ = some (.int .i64 p) := row_cell ((b8.block _ (lt_of_block F2x.out)).trans F2x.out) 0
          go_wp2
          go_ret
          exact ⟨rfl, B0.out.trans (B8.out.mono B0.out.size)⟩
      · obtain rfl := HY.out.2 rfl
        have x0 : w7.cell? ⟨w.heap.size + 1, 0, none⟩ = some _ := row_cell A2x.out 0
        have x1 : w7.cell? ⟨w.heap.size + 1, 1, none⟩ = some _ := row_cell A2x.out 1
        have x2 : w7.cell? ⟨w.heap.size + 1, 2, none⟩ = some _ := row_cell A2x.out 2
        have x3 : w7.cell? ⟨w.heap.size + 1, 3, none⟩ = some _ := row_cell A2x.out 3
        rcases RD with rfl | ⟨rfl, hp1⟩
        · obtain rfl := H5.out rfl
          go_wp2
          go_ret
          exact ⟨rfl, B0.out.trans (B7.out.mono B0.out.size)⟩
        · go_wp2
          go_ret
          exact ⟨rfl, B0.out.trans (B7.out.mono B0.out.size)⟩
      · rcases RD with rfl | ⟨rfl, hp1⟩
        · obtain rfl := H5.out rfl
          go_wp2
          go_ret
          exact ⟨rfl, B0.out.trans (B7.out.mono B0.out.size)⟩
        · go_wp2
          go_ret
          exact ⟨rfl, B0.out.trans (B7.out.mono B0.out.size)⟩

theorem keeps_any (w : World) (p : Int) (v : Value) (l : List R4) (R : Rd K4 w v l) (hl : okL l) (op rec : Int) (x : R4) (hx : okR x) :
    Calls Try.prog 5 #[file p v, .int .i64 op, .int .i64 rec, rec4 x] w fun e w' => e = .returned (.bool true) ∧ Below w.heap.size w w' := by
  obtain ⟨a, cap, rfl, _⟩ := R.slice
  by_cases he : doE p (l.take 260) op rec = 0
  · obtain ⟨_, _, hr⟩ := doE_of he
    obtain ⟨k, rfl⟩ : ∃ k : Nat, rec = k := ⟨rec.toNat, by omega⟩
    exact keeps_ok w p a _ cap l R hl op k x hx he
  · exact keeps_bad w p a _ cap l R hl op rec x he

end Go.Proofs.Ythendmibanghmaa.Fl
