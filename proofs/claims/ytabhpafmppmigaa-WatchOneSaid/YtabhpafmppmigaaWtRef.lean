/- The document's two masters: New, silent, Crash, Restart, Round. -/
import Derived.Test.YtabhpafmppmigaaWtMath
import Derived.Test.YtabhpafmppmigaaFlSmall
import Derived.Test.YtabhpafmppmigaaFsMem
import Derived.Deep.Cut
import Derived.Deep.CutRange
namespace Go.Proofs.Ytabhpafmppmigaa.Wt
open Go.RowKit
open Go.Proofs.Ytabhpafmppmigaa.Fl (ret_bool at_bool row_cell row_frozen)
open Go.Proofs.Ytabhpafmppmigaa.Fs (Only)
attribute [local irreducible] Sd.wpSd wpQuiet

def rowP (r0 r1 s0 s1 n la : Int) : Array Value := #[.int .i64 r0, .int .i64 r1, .int .i64 s0, .int .i64 s1, .int .i64 n, .int .i64 la]
/-- The pair lies in block r. -/
def RowP (w : World) (r : Nat) (r0 r1 s0 s1 n la : Int) : Prop := w.heap[r]? = some (.cells (rowP r0 r1 s0 s1 n la) 35 (0, 0))
/-- What its times say, of so many rounds at most. -/
structure Vf (a : A) (s0 s1 n la : Int) (t : Nat) : Prop where
  b0 : 0 ≤ s0 ∧ s0 ≤ n
  b1 : 0 ≤ s1 ∧ s1 ≤ n
  bl : 0 ≤ la ∧ la ≤ n
  bn : n ≤ t
  e0 : a.r0 = 2 ∨ a.r0 = 3 → a.q0 = n - (if s0 < la then la else s0)
  e1 : a.r1 = 2 ∨ a.r1 = 3 → a.q1 = n - (if s1 < la then la else s1)
def Pf (w : World) (r : Nat) (a : A) (t : Nat) : Prop := ∃ s0 s1 n la, RowP w r a.r0 a.r1 s0 s1 n la ∧ Vf a s0 s1 n la t
theorem RowP.only {w w' : World} {r : Nat} {r0 r1 s0 s1 n la : Int} {G : Nat → Prop} (h : RowP w r r0 r1 s0 s1 n la) (o : Only G w w') (hn : ¬ G r) : RowP w' r r0 r1 s0 s1 n la := (o.block r (lt_of_block h) hn).trans h
theorem Pf.only {w w' : World} {r t : Nat} {a : A} {G : Nat → Prop} (h : Pf w r a t) (o : Only G w w') (hn : ¬ G r) : Pf w' r a t := by
  obtain ⟨s0, s1, n, la, hr, hv⟩ := h
  exact ⟨s0, s1, n, la, hr.only o hn, hv⟩
theorem Pf.below {w w' : World} {r t : Nat} {a : A} (h : Pf w r a t) (b : Below w.heap.size w w') : Pf w' r a t := h.only (G := fun _ => False) (Only.of_below b) (fun g => g)
theorem Pf.lt {w : World} {r t : Nat} {a : A} (h : Pf w r a t) : r < w.heap.size := by obtain ⟨_, _, _, _, hr, _⟩ := h; exact lt_of_block hr
section
variable {w : World} {r : Nat} {r0 r1 s0 s1 n la : Int} (h : RowP w r r0 r1 s0 s1 n la)
include h
theorem RowP.set0 (x : Int) : RowP (w.setCell ⟨r, 0, none⟩ (.int .i64 x)) r x r1 s0 s1 n la := Rw.heap_setCell_same h _
theorem RowP.set1 (x : Int) : RowP (w.setCell ⟨r, 1, none⟩ (.int .i64 x)) r r0 x s0 s1 n la := Rw.heap_setCell_same h _
theorem RowP.set2 (x : Int) : RowP (w.setCell ⟨r, 2, none⟩ (.int .i64 x)) r r0 r1 x s1 n la := Rw.heap_setCell_same h _
theorem RowP.set3 (x : Int) : RowP (w.setCell ⟨r, 3, none⟩ (.int .i64 x)) r r0 r1 s0 x n la := Rw.heap_setCell_same h _
theorem RowP.set4 (x : Int) : RowP (w.setCell ⟨r, 4, none⟩ (.int .i64 x)) r r0 r1 s0 s1 x la := Rw.heap_setCell_same h _
theorem RowP.set5 (x : Int) : RowP (w.setCell ⟨r, 5, none⟩ (.int .i64 x)) r r0 r1 s0 s1 n x := Rw.heap_setCell_same h _
end
theorem only_set (r k : Nat) (w : World) (u : Value) : Only (fun b => b = r) w (w.setCell ⟨r, k, none⟩ u) := Only.set (fun b => b = r) w (a := ⟨r, k, none⟩) rfl u
theorem only_two {r : Nat} {w w1 w2 : World} (h : Only (fun b => b = r) w w1) (g : Only (fun b => b = r) w1 w2) : Only (fun b => b = r) w w2 := h.trans g fun _ _ q => q

def NewPost (w : World) (e : Ending) (w' : World) : Prop := ∃ r, e = .returned (.pointer (some ⟨r, 0, none⟩)) ∧ Pf w' r new 0 ∧ w.heap.size ≤ r ∧ Below w.heap.size w w'
theorem rnew_any (w : World) : Calls Try.prog 7 #[] w (NewPost w) := by
  have E : Hid (NewPost w (.returned (.pointer (some ⟨w.heap.size, 0, none⟩))) (w.alloc (.cells #[.int .i64 1, .int .i64 2, .int .i64 0, .int .i64 0, .int .i64 0, .int .i64 0] 35))) := Lib.hid ⟨_, rfl, ⟨0, 0, 0, 0, heap_alloc_new w _, ⟨by decide, by decide, by decide, by decide, fun _ => rfl, fun _ => rfl⟩⟩, Nat.le_refl _, (Below.refl _ _).alloc (Nat.le_refl _) _⟩
  go_enter Try.func7, Try.ntmps7
  go_wp2
  go_ret
  exact E.out

/-! ### silent -/
def sil (s n la : Int) : Int := n - (if s < la then la else s)

theorem silent0 {w : World} {r : Nat} {r0 r1 s0 s1 n la : Int} (h : RowP w r r0 r1 s0 s1 n la) (b : (0 ≤ s0 ∧ s0 ≤ n) ∧ (0 ≤ la ∧ la ≤ n) ∧ n ≤ 100000) : Calls Try.prog 20 #[.pointer (some ⟨r, 0, none⟩), .int .i64 0] w fun e w' => e = .returned (.int .i64 (sil s0 n la)) ∧ Below w.heap.size w w' := by
  have c0 : w.cell? ⟨r, 2, none⟩ = some (.int .i64 s0) := row_cell h 2
  have c4 : w.cell? ⟨r, 4, none⟩ = some (.int .i64 n) := row_cell h 4
  have c5 : w.cell? ⟨r, 5, none⟩ = some (.int .i64 la) := row_cell h 5
  clear h
  by_cases q : s0 < la
  · have w1 : IntKind.i64.wrap (n - la) = n - la := IntWalk.i64_in _ (by omega)
    have E : Hid (Ending.returned (.int .i64 (n - la)) = .returned (.int .i64 (sil s0 n la))) := Lib.hid (by unfold sil; rw [if_pos q])
    go_enter Try.func20, Try.ntmps20
    go_wp2
    go_ret
    exact ⟨E.out, Below.refl _ _⟩
  · have w1 : IntKind.i64.wrap (n - s0) = n - s0 := IntWalk.i64_in _ (by omega)
    have E : Hid (Ending.returned (.int .i64 (n - s0)) = .returned (.int .i64 (sil s0 n la))) := Lib.hid (by unfold sil; rw [if_neg q])
    go_enter Try.func20, Try.ntmps20
    go_wp2
    go_ret
    exact ⟨E.out, Below.refl _ _⟩

theorem silent1 {w : World} {r : Nat} {r0 r1 s0 s1 n la : Int} (h : RowP w r r0 r1 s0 s1 n la) (b : (0 ≤ s1 ∧ s1 ≤ n) ∧ (0 ≤ la ∧ la ≤ n) ∧ n ≤ 100000) : Calls Try.prog 20 #[.pointer (some ⟨r, 0, none⟩), .int .i64 1] w fun e w' => e = .returned (.int .i64 (sil s1 n la)) ∧ Below w.heap.size w w' := by
  have c0 : w.cell? ⟨r, 3, none⟩ = some (.int .i64 s1) := row_cell h 3
  have c4 : w.cell? ⟨r, 4, none⟩ = some (.int .i64 n) := row_cell h 4
  have c5 : w.cell? ⟨r, 5, none⟩ = some (.int .i64 la) := row_cell h 5
  clear h
  by_cases q : s1 < la
  · have w1 : IntKind.i64.wrap (n - la) = n - la := IntWalk.i64_in _ (by omega)
    have E : Hid (Ending.returned (.int .i64 (n - la)) = .returned (.int .i64 (sil s1 n la))) := Lib.hid (by unfold sil; rw [if_pos q])
    go_enter Try.func20, Try.ntmps20
    go_wp2
    go_ret
    exact ⟨E.out, Below.refl _ _⟩
  · have w1 : IntKind.i64.wrap (n - s1) = n - s1 := IntWalk.i64_in _ (by omega)
    have E : Hid (Ending.returned (.int .i64 (n - s1)) = .returned (.int .i64 (sil s1 n la))) := Lib.hid (by unfold sil; rw [if_neg q])
    go_enter Try.func20, Try.ntmps20
    go_wp2
    go_ret
    exact ⟨E.out, Below.refl _ _⟩

/-! ### Crash, Restart -/
def DeedPost (w : World) (r : Nat) (x : Int) (a : A) (t : Nat) (e : Ending) (w' : World) : Prop := e = .returned (.int .i64 x) ∧ Pf w' r a t ∧ Only (fun b => b = r) w w'

theorem rcrash0 {w : World} {r t : Nat} {a : A} (P : Pf w r a t) : Calls Try.prog 9 #[.pointer (some ⟨r, 0, none⟩), .int .i64 0] w (DeedPost w r (crE a 0) (crA a 0) t) := by
  obtain ⟨s0, s1, n, la, hr, hv⟩ := P
  have e1 : crE a 0 = if a.r0 = 4 then 10 else 0 := rfl
  have e2 : crA a 0 = { a with r0 := 4 } := rfl
  have c0 : w.cell? ⟨r, 0, none⟩ = some (.int .i64 a.r0) := row_cell hr 0
  have f0 := row_frozen hr 0
  by_cases q : a.r0 = 4
  · have E : Hid (DeedPost w r (crE a 0) (crA a 0) t (.returned (.int .i64 10)) w) := Lib.hid ⟨by rw [e1, if_pos q], by rw [e2]; exact ⟨s0, s1, n, la, by rw [q] at hr; exact hr, ⟨hv.b0, hv.b1, hv.bl, hv.bn, (fun g => absurd g (by show ¬ ((4 : Int) = 2 ∨ (4 : Int) = 3); decide)), hv.e1⟩⟩, Only.refl _ _⟩
    rw [q] at c0
    clear hr hv e1 e2
    generalize crE a 0 = x at *
    generalize crA a 0 = a' at *
    go_enter Try.func9, Try.ntmps9
    go_wp2
    go_ret
    exact E.out
  · have E : Hid (DeedPost w r (crE a 0) (crA a 0) t (.returned (.int .i64 0)) (w.setCell ⟨r, 0, none⟩ (.int .i64 4))) := Lib.hid ⟨by rw [e1, if_neg q], by rw [e2]; exact ⟨s0, s1, n, la, hr.set0 4, ⟨hv.b0, hv.b1, hv.bl, hv.bn, (fun g => absurd g (by show ¬ ((4 : Int) = 2 ∨ (4 : Int) = 3); decide)), hv.e1⟩⟩, only_set r 0 w _⟩
    clear hr hv e1 e2
    generalize crE a 0 = x' at *
    generalize crA a 0 = a' at *
    generalize a.r0 = x at *
    go_enter Try.func9, Try.ntmps9
    go_wp2
    go_ret
    exact E.out

theorem rcrash1 {w : World} {r t : Nat} {a : A} (P : Pf w r a t) : Calls Try.prog 9 #[.pointer (some ⟨r, 0, none⟩), .int .i64 1] w (DeedPost w r (crE a 1) (crA a 1) t) := by
  obtain ⟨s0, s1, n, la, hr, hv⟩ := P
  have e1 : crE a 1 = if a.r1 = 4 then 10 else 0 := rfl
  have e2 : crA a 1 = { a with r1 := 4 } := rfl
  have c0 : w.cell? ⟨r, 1, none⟩ = some (.int .i64 a.r1) := row_cell hr 1
  have f0 := row_frozen hr 1
  by_cases q : a.r1 = 4
  · have E : Hid (DeedPost w r (crE a 1) (crA a 1) t (.returned (.int .i64 10)) w) := Lib.hid ⟨by rw [e1, if_pos q], by rw [e2]; exact ⟨s0, s1, n, la, by rw [q] at hr; exact hr, ⟨hv.b0, hv.b1, hv.bl, hv.bn, hv.e0, (fun g => absurd g (by show ¬ ((4 : Int) = 2 ∨ (4 : Int) = 3); decide))⟩⟩, Only.refl _ _⟩
    rw [q] at c0
    clear hr hv e1 e2
    generalize crE a 1 = x at *
    generalize crA a 1 = a' at *
    go_enter Try.func9, Try.ntmps9
    go_wp2
    go_ret
    exact E.out
  · have E : Hid (DeedPost w r (crE a 1) (crA a 1) t (.returned (.int .i64 0)) (w.setCell ⟨r, 1, none⟩ (.int .i64 4))) := Lib.hid ⟨by rw [e1, if_neg q], by rw [e2]; exact ⟨s0, s1, n, la, hr.set1 4, ⟨hv.b0, hv.b1, hv.bl, hv.bn, hv.e0, (fun g => absurd g (by show ¬ ((4 : Int) = 2 ∨ (4 : Int) = 3); decide))⟩⟩, only_set r 1 w _⟩
    clear hr hv e1 e2
    generalize crE a 1 = x' at *
    generalize crA a 1 = a' at *
    generalize a.r1 = x at *
    go_enter Try.func9, Try.ntmps9
    go_wp2
    go_ret
    exact E.out

theorem rcrash_any {w : World} {r t : Nat} {a : A} (P : Pf w r a t) (n : Int) : Calls Try.prog 9 #[.pointer (some ⟨r, 0, none⟩), .int .i64 n] w (DeedPost w r (crE a n) (crA a n) t) := by
  by_cases h0 : n = 0
  · subst h0; exact rcrash0 P
  · by_cases h1 : n = 1
    · subst h1; exact rcrash1 P
    · have E : Hid (DeedPost w r (crE a n) (crA a n) t (.returned (.int .i64 1)) w) := Lib.hid ⟨by unfold crE; rw [if_neg h0, if_neg h1], by unfold crA; rw [if_neg h0, if_neg h1]; exact P, Only.refl _ _⟩
      clear P
      have q0 : (n != 0) = true := bne_iff_ne.2 h0
      have q1 : (n != 1) = true := bne_iff_ne.2 h1
      go_enter Try.func9, Try.ntmps9
      go_wp2
      go_ret
      exact E.out

set_option maxHeartbeats 1000000 in
theorem rrestart0 {w : World} {r t : Nat} {a : A} (P : Pf w r a t) : Calls Try.prog 11 #[.pointer (some ⟨r, 0, none⟩), .int .i64 0] w (DeedPost w r (rsE a 0) (rsA a 0) t) := by
  obtain ⟨s0, s1, n, la, hr, hv⟩ := P
  have e1 : rsE a 0 = if a.r0 = 4 then 0 else 10 := rfl
  have e2 : rsA a 0 = if a.r0 = 4 then { a with r0 := 3, q0 := 0 } else a := rfl
  have c0 : w.cell? ⟨r, 0, none⟩ = some (.int .i64 a.r0) := row_cell hr 0
  by_cases q : a.r0 = 4
  · have FIN : Hid (∀ w', Only (fun b => b = r) w w' → RowP w' r a.r0 a.r1 s0 s1 n la → DeedPost w r (rsE a 0) (rsA a 0) t (.returned (.int .i64 0)) ((w'.setCell ⟨r, 0, none⟩ (.int .i64 3)).setCell ⟨r, 2, none⟩ (.int .i64 n))) := Lib.hid (fun w' oo hh => ⟨by rw [e1, if_pos q], by
      rw [e2, if_pos q]
      exact ⟨n, s1, n, la, (hh.set0 3).set2 n, ⟨⟨by have := hv.bl; omega, Int.le_refl _⟩, hv.b1, hv.bl, hv.bn, (fun _ => by show (0 : Int) = n - (if n < la then la else n); have := hv.bl; rw [if_neg (by omega)]; omega), hv.e1⟩⟩, only_two oo (only_two (only_set r 0 w' _) (only_set r 2 _ _))⟩)
    have OO : Hid (Only (fun b => b = r) w w.drew) := Lib.hid (Only.of_below (Below.refl _ _).drew)
    have HH : Hid (RowP w.drew r a.r0 a.r1 s0 s1 n la) := Lib.hid hr
    rw [q] at c0
    have D4 := Lib.hid q
    clear hr hv q e1 e2
    generalize rsE a 0 = x' at *
    generalize rsA a 0 = a' at *
    go_enter Try.func11, Try.ntmps11
    go_upto_region 5 with fail
    clear c0
    have E := Lib.hid (FIN.out _ OO.out HH.out)
    have R0 : RowP w.drew r a.r0 a.r1 s0 s1 n la := HH.out
    have c4 := Sc.cell_in (C := fun W => W.cell? ⟨r, 4, none⟩ = some (.int .i64 n)) (a := ⟨r, 4, none⟩) (fun W h => h)
    have C0 : w.drew.cell? ⟨r, 4, none⟩ = some (.int .i64 n) := row_cell R0 4
    have ne : Nonempty (Sc.In (fun W => W.cell? ⟨r, 4, none⟩ = some (.int .i64 n))) := ⟨⟨_, C0⟩⟩
    clear FIN OO HH
    refine Sc.start (fun W => W.cell? ⟨r, 4, none⟩ = some (.int .i64 n)) [(false, 0), (false, 1), (false, 2), (false, 3), (false, 4), (false, 5), (false, 6), (false, 7), (false, 8), (false, 9), (false, 10), (false, 12), (false, 13), (true, 11), (false, 14), (true, 15)] (by kernel_rfl) (by kernel_rfl) (by kernel_rfl) C0 ?_
    dsimp only [Sd.picks, List.getElem?_cons_succ, List.getElem?_cons_zero]
    repeat (refine Sd.lit ?_; quiet_step (fail); refine wpQuiet_nil ?_)
    clear c4
    generalize w.drew = W at *
    refine Sd.call (by rfl) (fun K hK => ?_)
    have d0 : W.cell? ⟨r, 0, none⟩ = some (.int .i64 a.r0) := row_cell R0 0
    have g0 := row_frozen R0 0
    have R1 : Hid (RowP (W.setCell ⟨r, 0, none⟩ (.int .i64 3)) r 3 a.r1 s0 s1 n la) := Lib.hid (R0.set0 3)
    clear R0 C0
    generalize a.r0 = x at *
    go_simp
    refine hK _ _ (Sc.Cl.of (row_cell R1.out 4)) ?_
    clear hK K d0 g0
    generalize W.setCell ⟨r, 0, none⟩ (.int .i64 3) = W1 at *
    repeat (refine Sd.lit ?_; quiet_step (fail); refine wpQuiet_nil ?_)
    refine Sd.call (by rfl) (fun K hK => ?_)
    have d0 : W1.cell? ⟨r, 2, none⟩ = some (.int .i64 s0) := row_cell R1.out 2
    have g0 := row_frozen R1.out 2
    have R2 : Hid (RowP (W1.setCell ⟨r, 2, none⟩ (.int .i64 n)) r 3 a.r1 n s1 n la) := Lib.hid (R1.out.set2 n)
    clear R1
    go_simp
    refine hK _ _ (Sc.Cl.of (row_cell R2.out 4)) ?_
    clear hK K d0 g0 R2
    generalize W1.setCell ⟨r, 2, none⟩ (.int .i64 n) = W2 at *
    refine Sd.done ?_
    go_wp2
    go_ret
    exact E.out
  · have E : Hid (DeedPost w r (rsE a 0) (rsA a 0) t (.returned (.int .i64 10)) w) := Lib.hid ⟨by rw [e1, if_neg q], by rw [e2, if_neg q]; exact ⟨s0, s1, n, la, hr, hv⟩, Only.refl _ _⟩
    clear hr hv e1 e2
    generalize rsE a 0 = x' at *
    generalize rsA a 0 = a' at *
    generalize a.r0 = x at *
    go_enter Try.func11, Try.ntmps11
    go_wp2
    go_ret
    exact E.out

set_option maxHeartbeats 1000000 in
theorem rrestart1 {w : World} {r t : Nat} {a : A} (P : Pf w r a t) : Calls Try.prog 11 #[.pointer (some ⟨r, 0, none⟩), .int .i64 1] w (DeedPost w r (rsE a 1) (rsA a 1) t) := by
  obtain ⟨s0, s1, n, la, hr, hv⟩ := P
  have e1 : rsE a 1 = if a.r1 = 4 then 0 else 10 := rfl
  have e2 : rsA a 1 = if a.r1 = 4 then { a with r1 := 3, q1 := 0 } else a := rfl
  have c0 : w.cell? ⟨r, 1, none⟩ = some (.int .i64 a.r1) := row_cell hr 1
  by_cases q : a.r1 = 4
  · have FIN : Hid (∀ w', Only (fun b => b = r) w w' → RowP w' r a.r0 a.r1 s0 s1 n la → DeedPost w r (rsE a 1) (rsA a 1) t (.returned (.int .i64 0)) ((w'.setCell ⟨r, 1, none⟩ (.int .i64 3)).setCell ⟨r, 3, none⟩ (.int .i64 n))) := Lib.hid (fun w' oo hh => ⟨by rw [e1, if_pos q], by
      rw [e2, if_pos q]
      exact ⟨s0, n, n, la, (hh.set1 3).set3 n, ⟨hv.b0, ⟨by have := hv.bl; omega, Int.le_refl _⟩, hv.bl, hv.bn, hv.e0, (fun _ => by show (0 : Int) = n - (if n < la then la else n); have := hv.bl; rw [if_neg (by omega)]; omega)⟩⟩, only_two oo (only_two (only_set r 1 w' _) (only_set r 3 _ _))⟩)
    have OO : Hid (Only (fun b => b = r) w w.drew) := Lib.hid (Only.of_below (Below.refl _ _).drew)
    have HH : Hid (RowP w.drew r a.r0 a.r1 s0 s1 n la) := Lib.hid hr
    rw [q] at c0
    have D4 := Lib.hid q
    clear hr hv q e1 e2
    generalize rsE a 1 = x' at *
    generalize rsA a 1 = a' at *
    go_enter Try.func11, Try.ntmps11
    go_upto_region 5 with fail
    clear c0
    have E := Lib.hid (FIN.out _ OO.out HH.out)
    have R0 : RowP w.drew r a.r0 a.r1 s0 s1 n la := HH.out
    have c4 := Sc.cell_in (C := fun W => W.cell? ⟨r, 4, none⟩ = some (.int .i64 n)) (a := ⟨r, 4, none⟩) (fun W h => h)
    have C0 : w.drew.cell? ⟨r, 4, none⟩ = some (.int .i64 n) := row_cell R0 4
    have ne : Nonempty (Sc.In (fun W => W.cell? ⟨r, 4, none⟩ = some (.int .i64 n))) := ⟨⟨_, C0⟩⟩
    clear FIN OO HH
    refine Sc.start (fun W => W.cell? ⟨r, 4, none⟩ = some (.int .i64 n)) [(false, 0), (false, 1), (false, 2), (false, 3), (false, 4), (false, 5), (false, 6), (false, 7), (false, 8), (false, 9), (false, 10), (false, 12), (false, 13), (true, 11), (false, 14), (true, 15)] (by kernel_rfl) (by kernel_rfl) (by kernel_rfl) C0 ?_
    dsimp only [Sd.picks, List.getElem?_cons_succ, List.getElem?_cons_zero]
    repeat (refine Sd.lit ?_; quiet_step (fail); refine wpQuiet_nil ?_)
    clear c4
    generalize w.drew = W at *
    refine Sd.call (by rfl) (fun K hK => ?_)
    have d0 : W.cell? ⟨r, 1, none⟩ = some (.int .i64 a.r1) := row_cell R0 1
    have g0 := row_frozen R0 1
    have R1 : Hid (RowP (W.setCell ⟨r, 1, none⟩ (.int .i64 3)) r a.r0 3 s0 s1 n la) := Lib.hid (R0.set1 3)
    clear R0 C0
    generalize a.r1 = x at *
    go_simp
    refine hK _ _ (Sc.Cl.of (row_cell R1.out 4)) ?_
    clear hK K d0 g0
    generalize W.setCell ⟨r, 1, none⟩ (.int .i64 3) = W1 at *
    repeat (refine Sd.lit ?_; quiet_step (fail); refine wpQuiet_nil ?_)
    refine Sd.call (by rfl) (fun K hK => ?_)
    have d0 : W1.cell? ⟨r, 3, none⟩ = some (.int .i64 s1) := row_cell R1.out 3
    have g0 := row_frozen R1.out 3
    have R2 : Hid (RowP (W1.setCell ⟨r, 3, none⟩ (.int .i64 n)) r a.r0 3 s0 n n la) := Lib.hid (R1.out.set3 n)
    clear R1
    go_simp
    refine hK _ _ (Sc.Cl.of (row_cell R2.out 4)) ?_
    clear hK K d0 g0 R2
    generalize W1.setCell ⟨r, 3, none⟩ (.int .i64 n) = W2 at *
    refine Sd.done ?_
    go_wp2
    go_ret
    exact E.out
  · have E : Hid (DeedPost w r (rsE a 1) (rsA a 1) t (.returned (.int .i64 10)) w) := Lib.hid ⟨by rw [e1, if_neg q], by rw [e2, if_neg q]; exact ⟨s0, s1, n, la, hr, hv⟩, Only.refl _ _⟩
    clear hr hv e1 e2
    generalize rsE a 1 = x' at *
    generalize rsA a 1 = a' at *
    generalize a.r1 = x at *
    go_enter Try.func11, Try.ntmps11
    go_wp2
    go_ret
    exact E.out

theorem rrestart_any {w : World} {r t : Nat} {a : A} (P : Pf w r a t) (n : Int) : Calls Try.prog 11 #[.pointer (some ⟨r, 0, none⟩), .int .i64 n] w (DeedPost w r (rsE a n) (rsA a n) t) := by
  by_cases h0 : n = 0
  · subst h0; exact rrestart0 P
  · by_cases h1 : n = 1
    · subst h1; exact rrestart1 P
    · have E : Hid (DeedPost w r (rsE a n) (rsA a n) t (.returned (.int .i64 1)) w) := Lib.hid ⟨by unfold rsE; rw [if_neg h0, if_neg h1], by unfold rsA; rw [if_neg h0, if_neg h1]; exact P, Only.refl _ _⟩
      clear P
      have q0 : (n != 0) = true := bne_iff_ne.2 h0
      have q1 : (n != 1) = true := bne_iff_ne.2 h1
      go_enter Try.func11, Try.ntmps11
      go_wp2
      go_ret
      exact E.out

end Go.Proofs.Ytabhpafmppmigaa.Wt
