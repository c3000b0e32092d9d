/- file.New. -/
import Derived.Test.YtghdjdejdpknjaaFlBase
import Derived.OwnWalk
import Derived.Test.YtghdjdejdpknjaaSc
namespace Go.Proofs.Ytghdjdejdpknjaa.Fl
open Go.RowKit
open Go.Proofs.Ytghdjdejdpknjaa.Rw (Rd Ow At)
attribute [local irreducible] Sd.wpSd wpQuiet

theorem results_new {fn : Func} {p r : Tmp} (h : fn.results = #[.cell p 25, .tmp r]) (tmps : Array Value) (w : World) (g1 : Nat) (k : Int) (u : Value) (e : Int)
    (hp : tmps.getD p undef = .pointer (some ⟨g1, 0, none⟩)) (hr : tmps.getD r undef = .int .i64 e)
    (h1 : w.heap[g1]? = some (.cells #[.int .i64 k, u] 25 (0, 0))) :
    (results fn tmps).run Try.prog w = .ok (.tuple #[file k u, .int .i64 e]) w := by
  have e1 := run_loadVar_row (P := Try.prog) w g1 25 25 #[.int .i64 k, u] (0, 0) _ h1 Try.underlying25 rfl (by show _ = some 2; kernel_rfl)
  have hp' : tmps[p]?.getD undef = .pointer (some ⟨g1, 0, none⟩) := by simpa using hp
  have hr' : tmps[r]?.getD undef = .int .i64 e := by simpa using hr
  simp only [results, h]
  simp [Result.andThen, hp', hr', asAddr, e1, file]

set_option maxHeartbeats 1000000 in
theorem new_no (w : World) (p n : Int) (hp : ¬ newP p n) : Calls Try.prog 16 #[.int .i64 p, .int .i64 n] w (NewPost w p n) := by
  have B0 := Lib.hid ((Below.refl w.heap.size w).alloc (Nat.le_refl _) (.cells #[.int .i64 0, .slice none 0 0] 25))
  have E : Hid (∀ w', Below w.heap.size w w' → NewPost w p n (.returned (.tuple #[file 0 (.slice none 0 0), .int .i64 1])) w') := fun w' h => ⟨_, by rw [if_neg hp, if_neg hp], by rw [if_neg hp]; exact Rw.Rd.nil _, h⟩
  have hc : ¬ (0 ≤ p ∧ p ≤ 7) ∨ (0 ≤ p ∧ p ≤ 7) ∧ n < 0 ∨ (0 ≤ p ∧ p ≤ 7) ∧ 0 ≤ n ∧ 256 ≤ n := by
    unfold newP at hp
    omega
  clear hp
  rcases hc with h | ⟨h, h2⟩ | ⟨h, h2, h3⟩
  · have P0 := Lib.hid (fun w => at_bool (perm_no h) (perm_any w p))
    clear h
    go_enter Try.func16, Try.ntmps16
    go_wp2_with fail
    refine (P0.out _).mono ?_
    rintro e w1 ⟨rfl, b1⟩
    have z1 : w.heap.size < w1.heap.size := by have := b1.size; simp at this; omega
    have B1 := Lib.hid (B0.out.trans (b1.mono B0.out.size))
    have r0 : w1.heap[w.heap.size]? = some (.cells #[.int .i64 0, .slice none 0 0] 25 (0, 0)) := (b1.block _ (by simp)).trans (heap_alloc_new w _)
    have c0 : w1.cell? ⟨w.heap.size, 0, none⟩ = some (.int .i64 0) := row_cell r0 0
    have c1 : w1.cell? ⟨w.heap.size, 1, none⟩ = some (.slice none 0 0) := row_cell r0 1
    have f0 := row_frozen r0 0
    have f1 := row_frozen r0 1
    have RR := Lib.hid (sto2_row r0 0 (.slice none 0 0))
    clear b1 B0 r0
    go_wp2
    (try simp only [Exit.inBlock, Exit.then])
    exact bodyPost_ret (v := .tuple #[file 0 (.slice none 0 0), .int .i64 1]) (results_new (p := 4) (r := 5) rfl _ _ w.heap.size 0 _ 1 rfl rfl RR.out) rfl (E.out _ (sto2_below B1.out (Nat.le_refl _)))
  all_goals
    have P0 := Lib.hid (fun w => at_bool (perm_yes h.1 h.2) (perm_any w p))
    clear h
    go_enter Try.func16, Try.ntmps16
    go_wp2_with fail
    refine (P0.out _).mono ?_
    rintro e w1 ⟨rfl, b1⟩
    have z1 : w.heap.size < w1.heap.size := by have := b1.size; simp at this; omega
    have B1 := Lib.hid (B0.out.trans (b1.mono B0.out.size))
    have r0 : w1.heap[w.heap.size]? = some (.cells #[.int .i64 0, .slice none 0 0] 25 (0, 0)) := (b1.block _ (by simp)).trans (heap_alloc_new w _)
    have c0 : w1.cell? ⟨w.heap.size, 0, none⟩ = some (.int .i64 0) := row_cell r0 0
    have c1 : w1.cell? ⟨w.heap.size, 1, none⟩ = some (.slice none 0 0) := row_cell r0 1
    have f0 := row_frozen r0 0
    have f1 := row_frozen r0 1
    have RR := Lib.hid (sto2_row r0 0 (.slice none 0 0))
    clear b1 B0 r0
    go_wp2
    (try simp only [Exit.inBlock, Exit.then])
    exact bodyPost_ret (v := .tuple #[file 0 (.slice none 0 0), .int .i64 1]) (results_new (p := 4) (r := 5) rfl _ _ w.heap.size 0 _ 1 rfl rfl RR.out) rfl (E.out _ (sto2_below B1.out (Nat.le_refl _)))

theorem set_zero (h : R4) (n : Nat) : (List.replicate (n + 1) z4).set 0 h = h :: List.replicate n z4 := by rw [List.replicate_succ]; rfl

/-- A new file's records are the call's own. -/
def NewOwn (w : World) (p n : Int) (e : Ending) (w' : World) : Prop := ∃ u, e = .returned (.tuple #[file p u, .int .i64 0]) ∧ Ow K4 w' w.heap.size 47 u (newL p n) ∧ Below w.heap.size w w'
set_option maxRecDepth 100000 in
set_option maxHeartbeats 1000000 in
theorem new_own (w : World) (p n : Int) (hp : newP p n) : Calls Try.prog 16 #[.int .i64 p, .int .i64 n] w (NewOwn w p n) := by
  have B0 := Lib.hid ((Below.refl w.heap.size w).alloc (Nat.le_refl _) (.cells #[.int .i64 0, .slice none 0 0] 25))
  have HPN := Lib.hid hp
  obtain ⟨p0, p1, n0, n1⟩ := hp
  obtain ⟨m, rfl⟩ : ∃ m : Nat, n = m := ⟨n.toNat, by omega⟩
  have P0 := Lib.hid (fun w => at_bool (perm_yes p0 p1) (perm_any w p))
  have HH := Lib.hid (fun w => hdr_any w p m p0 p1 (by omega) (by omega))
  have NL : Hid (newL p m = hdr p m :: List.replicate m z4) := rfl
  have E : Hid (∀ u w', Ow K4 w' (w.heap.size + 1) 47 u (hdr p m :: List.replicate m z4) → Below w.heap.size w w' → NewOwn w p m (.returned (.tuple #[file p u, .int .i64 0])) w') := fun u w' h hb => ⟨_, rfl, by rw [NL.out]; exact h.low (Nat.le_succ _), hb⟩
  obtain ⟨i0, hi, hz0, hz1, hz2⟩ := info_parts infoR
  unfold rec4 at HH
  generalize hdr p m = h at *
  have hw1 : IntKind.i64.wrap (1 + (m : Int)) = ((m + 1 : Nat) : Int) := by rw [IntWalk.i64_in _ (by omega)]; omega
  go_enter Try.func16, Try.ntmps16
  go_wp2_with fail
  refine (P0.out _).mono ?_
  rintro e w1 ⟨rfl, b1⟩
  have z1 : w.heap.size + 1 ≤ w1.heap.size := by have := b1.size; simp at this; omega
  have B1 := Lib.hid (B0.out.trans (b1.mono B0.out.size))
  have r0 : w1.heap[w.heap.size]? = some (.cells #[.int .i64 0, .slice none 0 0] 25 (0, 0)) := (b1.block _ (by simp)).trans (heap_alloc_new w _)
  clear b1 B0
  have hn1 : ¬ ((m : Int) < 0) := by omega
  have hn2 : ¬ (256 ≤ (m : Int)) := by omega
  go_wp2_with (at_make; refine wpList_make_full _ rfl _ _ 23 rfl (w.heap.size + 1) 47 i0 _ 4 Try.underlying23 hi hz0 hz1 _ _ _ _ (m + 1) rfl rfl (by omega) (by omega) ?d1 ?d2 ?d3 ?_)
  case d1 => rw [hz2]; omega
  case d2 => unfold maxLen; omega
  case d3 => omega
  intro w2 o2 g2
  have O2 : Ow K4 w2 (w.heap.size + 1) 47 (.slice (some ⟨w1.heap.size, 0, none⟩) (m + 1) (m + 1)) (List.replicate (m + 1) z4) := by
    have e : (madeCells #[.int .u8 0, .int .u8 0, .int .u8 0, .int .u8 0] ((m + 1) * 4)).toList = K4.flat (List.replicate (m + 1) z4) := flat_zero (m + 1)
    rw [e] at o2
    show w2.ownsRow _ _ K4.n _ (List.replicate (m + 1) z4).length _
    rw [List.length_replicate]
    exact o2
  have b2 : Below w1.heap.size w1 w2 := (Below.refl w1.heap.size w1).grown g2 (Nat.le_refl _) (fun k e => by cases e)
  have B2 := Lib.hid (B1.out.trans (b2.mono (by omega)))
  have r2 := (b2.block _ (by omega)).trans r0
  have z2 : w1.heap.size < w2.heap.size := by
    obtain ⟨g, cap, e, _, hlt, _⟩ := O2.form (by rw [List.length_replicate]; omega)
    injection e with e1
    injection e1 with e1
    injection e1 with e1 _ _
    omega
  have OO := Lib.hid O2
  clear o2 g2 b2 r0 B1 O2
  go_wp2_with fail
  have row3 := heap_alloc_new w2 (.cells #[.int .i64 p, .slice (some ⟨w1.heap.size, 0, none⟩) (m + 1) (m + 1)] 25)
  have B3 := Lib.hid (B2.out.alloc B2.out.size (.cells #[.int .i64 p, .slice (some ⟨w1.heap.size, 0, none⟩) (m + 1) (m + 1)] 25))
  have O3 := Lib.hid (OO.out.alloc (.cells #[.int .i64 p, .slice (some ⟨w1.heap.size, 0, none⟩) (m + 1) (m + 1)] 25))
  have r3 := (Below.heap_alloc w2 (.cells #[.int .i64 p, .slice (some ⟨w1.heap.size, 0, none⟩) (m + 1) (m + 1)] 25) w.heap.size (by omega)).trans r2
  have z3 : w2.heap.size < (w2.alloc (.cells #[.int .i64 p, .slice (some ⟨w1.heap.size, 0, none⟩) (m + 1) (m + 1)] 25)).heap.size := by simp
  clear B2 OO r2
  generalize w2.alloc (.cells #[.int .i64 p, .slice (some ⟨w1.heap.size, 0, none⟩) (m + 1) (m + 1)] 25) = W at *
  generalize w2.heap.size = gF at *
  have C0 : (fun W' : World => W'.heap[gF]? = some (.cells #[.int .i64 p, .slice (some ⟨w1.heap.size, 0, none⟩) (m + 1) (m + 1)] 25 (0, 0))) W.drew := row3
  have k1 := Sc.cell_in (C := fun W' : World => W'.heap[gF]? = some (.cells #[.int .i64 p, .slice (some ⟨w1.heap.size, 0, none⟩) (m + 1) (m + 1)] 25 (0, 0))) (a := ⟨gF, 1, none⟩) (fun W' h => row_cell h 1)
  have k1' : W.cell? ⟨gF, 1, none⟩ = some (.slice (some ⟨w1.heap.size, 0, none⟩) (m + 1) (m + 1)) := row_cell row3 1
  have ne : Nonempty (Sc.In (fun W' : World => W'.heap[gF]? = some (.cells #[.int .i64 p, .slice (some ⟨w1.heap.size, 0, none⟩) (m + 1) (m + 1)] 25 (0, 0)))) := ⟨⟨_, C0⟩⟩
  have hm1 : 0 < m + 1 := by omega
  refine Sc.start (fun W' : World => W'.heap[gF]? = some (.cells #[.int .i64 p, .slice (some ⟨w1.heap.size, 0, none⟩) (m + 1) (m + 1)] 25 (0, 0))) [(false, 0), (false, 1), (false, 2), (false, 3), (true, 4), (false, 5), (true, 6)] (by kernel_rfl) (by kernel_rfl) (by kernel_rfl) C0 ?_
  dsimp only [Sd.picks, List.getElem?_cons_succ, List.getElem?_cons_zero]
  repeat (refine Sd.lit ?_; quiet_step (fail); refine wpQuiet_nil ?_)
  refine Sd.call (by rfl) (fun K hK => ?_)
  go_simp
  refine (HH.out _).mono ?_
  rintro e w4 ⟨rfl, b4⟩
  have b4' : Below W.heap.size W w4 := Below.trans ((Below.refl W.heap.size W).drew) b4
  have B4 := Lib.hid (B3.out.trans (b4'.mono B3.out.size))
  have row4 := (b4'.block _ (by omega)).trans row3
  have r4 := (b4'.block _ (by omega)).trans r3
  have O4 := Lib.hid (O3.out.keep b4')
  refine hK _ _ (Sc.Cl.of row4) ?_
  clear hK K b4 b4' B3 O3 row3 r3 k1'
  repeat (refine Sd.lit ?_; quiet_step (fail); refine wpQuiet_nil ?_)
  refine Sd.call (by rfl) (fun K hK => ?_)
  obtain ⟨g, cap, eg, _, hlt, _, _, hfr, hat⟩ := O4.out.form (by rw [List.length_replicate]; omega)
  have O5 := Lib.hid (sto4_own (i := 0) O4.out (by rw [List.length_replicate]) (by rw [List.length_replicate]; omega) h)
  rw [set_zero] at O5
  have hg1 : g = w1.heap.size := by
    injection eg with e1
    injection e1 with e1
    injection e1 with e1 _ _
    exact e1.symm
  subst hg1
  obtain ⟨c0, c1, c2, c3⟩ := at4_0 hat (by rw [List.length_replicate]; omega)
  have f0 := hfr 0
  have f1 := hfr 1
  have f2 := hfr 2
  have f3 := hfr 3
  have row5 := sto4_other (g := w1.heap.size) (o := 0) (r := h) row4 (by omega)
  have r5 := sto4_other (g := w1.heap.size) (o := 0) (r := h) r4 (by omega)
  have B5 := Lib.hid (sto4_below (o := 0) (r := h) B4.out (show w.heap.size ≤ w1.heap.size by omega))
  clear hfr hat O4 B4 eg
  go_simp
  refine hK _ _ (Sc.Cl.of row5) ?_
  clear hK K c0 c1 c2 c3 f0 f1 f2 f3 row4 r4 k1 ne C0
  refine Sd.done ?_
  have d0 : (sto4 w4 w1.heap.size 0 h).cell? ⟨gF, 0, none⟩ = some (.int .i64 p) := row_cell row5 0
  have d1 : (sto4 w4 w1.heap.size 0 h).cell? ⟨gF, 1, none⟩ = some (.slice (some ⟨w1.heap.size, 0, none⟩) (m + 1) (m + 1)) := row_cell row5 1
  have e0 : (sto4 w4 w1.heap.size 0 h).cell? ⟨w.heap.size, 0, none⟩ = some (.int .i64 0) := row_cell r5 0
  have e1 : (sto4 w4 w1.heap.size 0 h).cell? ⟨w.heap.size, 1, none⟩ = some (.slice none 0 0) := row_cell r5 1
  have f0 := row_frozen r5 0
  have f1 := row_frozen r5 1
  have hne : (Value.slice (some ⟨w1.heap.size, 0, none⟩) (m + 1) (m + 1)).ownBlock ≠ some w.heap.size := O5.out.range (.inl (by omega))
  have RR := Lib.hid (sto2_row r5 p (.slice (some ⟨w1.heap.size, 0, none⟩) (m + 1) (m + 1)))
  have O6 := Lib.hid (sto2_off (u := .slice (some ⟨w1.heap.size, 0, none⟩) (m + 1) (m + 1)) O5.out hne p)
  have B6 := Lib.hid (sto2_below (p := p) (v := .slice (some ⟨w1.heap.size, 0, none⟩) (m + 1) (m + 1)) B5.out (Nat.le_refl _))
  clear row5 r5 O5 B5 hne
  show Exit.then _ _ _ _ (sto4 w4 w1.heap.size 0 h)
  generalize sto4 w4 w1.heap.size 0 h = wS at *
  go_wp2
  (try simp only [Exit.inBlock, Exit.then])
  exact bodyPost_ret (v := .tuple #[file p _, .int .i64 0]) (results_new (p := 4) (r := 5) rfl _ _ w.heap.size p _ 0 rfl rfl RR.out) rfl (E.out _ _ O6.out B6.out)

theorem new_yes (w : World) (p n : Int) (hp : newP p n) : Calls Try.prog 16 #[.int .i64 p, .int .i64 n] w (NewPost w p n) :=
  (new_own w p n hp).mono fun e w' ⟨u, he, ho, hb⟩ => ⟨u, by rw [if_pos hp, if_pos hp]; exact he, by rw [if_pos hp]; exact ho.rd, hb⟩
theorem new_any (w : World) (p n : Int) : Calls Try.prog 16 #[.int .i64 p, .int .i64 n] w (NewPost w p n) := by
  by_cases h : newP p n
  · exact new_yes w p n h
  · exact new_no w p n h

end Go.Proofs.Ytghdjdejdpknjaa.Fl
