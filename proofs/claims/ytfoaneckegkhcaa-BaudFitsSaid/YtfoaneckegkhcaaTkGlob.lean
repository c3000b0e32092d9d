/- What tick.Global and the document's own Global answer, of steps that may be: the first tick at which so much is counted. -/
import Derived.Test.YtfoaneckegkhcaaTkRParts
import Derived.Deep.RegionWith
namespace Go.Proofs.Ytfoaneckegkhcaa.Tk
open Go.RowKit

theorem Steps.drew {w : World} {v : Value} {n : Nat} {A R : Nat → Int} (h : Steps w v n A R) : Steps w.drew v n A R := h.below (Below.refl _ _).drew

theorem clos_any (w : World) (bl bn : Nat) (v : Value) (n : Nat) (A R : Nat → Int) (m t : Int) (S : Steps w v n A R) (g : GoodP n A R)
    (hl : w.cell? ⟨bl, 0, none⟩ = some v) (hn : w.cell? ⟨bn, 0, none⟩ = some (.int .i64 m)) :
    Calls Try.prog 31 (#[.int .i64 t] ++ #[.pointer (some ⟨bl, 0, none⟩), .pointer (some ⟨bn, 0, none⟩)]) w fun e w' => e = .returned (.bool (decide (m ≤ Loc A R n t))) ∧ Below w.heap.size w w' := by
  have LC : Hid (∀ W, Below w.heap.size w W → Calls Try.prog 15 #[v, .int .i64 t] W fun e w' => e = .returned (.int .i64 (Loc A R n t)) ∧ Below W.heap.size W w') := fun W hW => local_any W v n A R (S.below hW) g t
  have hlt := World.block_lt_of_cell? _ _ hn
  clear S g
  go_enter Try.func31, Try.ntmps31
  go_wp2_with fail
  go_region_with (go_at_call 15; refine (LC.out _ ?_).mono ?_; exact (Below.refl _ _).drew; rintro e w1 ⟨rfl, hb⟩; have hn1 := (hb.cell hlt).trans hn)
  all_goals go_wp2
  all_goals go_ret
  all_goals exact ⟨rfl, (Below.refl _ _).drew.trans hb⟩

theorem mid_lo {A R : Nat → Int} {n : Nat} {m lo hi : Int} (g : GoodP n A R) (h : ¬ m ≤ Loc A R n ((lo + hi) / 2)) : ∀ t, 0 ≤ t → t < (lo + hi) / 2 + 1 → Loc A R n t < m := fun t _ h1 => by
  have := Loc_mono g (show t ≤ (lo + hi) / 2 by omega)
  omega

set_option maxHeartbeats 400000 in
theorem search_any (w : World) (bl bn : Nat) (v : Value) (n : Nat) (A R : Nat → Int) (m : Int) (S : Steps w v n A R) (g : GoodP n A R)
    (hl : w.cell? ⟨bl, 0, none⟩ = some v) (hn : w.cell? ⟨bn, 0, none⟩ = some (.int .i64 m)) :
    Calls Try.prog 19 #[.int .i64 4294967296, .func (.func 31) #[] #[.pointer (some ⟨bl, 0, none⟩), .pointer (some ⟨bn, 0, none⟩)]] w fun e w' => e = .returned (.int .i64 (Glo A R n m)) ∧ Below w.heap.size w w' := by
  have CC : Hid (∀ W t, Below w.heap.size w W → Calls Try.prog 31 (#[.int .i64 t] ++ #[.pointer (some ⟨bl, 0, none⟩), .pointer (some ⟨bn, 0, none⟩)]) W fun e w' => e = .returned (.bool (decide (m ≤ Loc A R n t))) ∧ Below w.heap.size W w') := fun W t hW =>
    (clos_any W bl bn v n A R m t (S.below hW) g ((hW.cell (World.block_lt_of_cell? _ _ hl)).trans hl) ((hW.cell (World.block_lt_of_cell? _ _ hn)).trans hn)).mono fun e w' ⟨h1, h2⟩ => ⟨h1, h2.mono hW.size⟩
  have G := Lib.hid g
  clear S g hl hn
  go_enter Try.func19, Try.ntmps19
  go_wp2
  go_loopw [5, 6] (fun i j wr => ∃ lo hi : Int, 0 ≤ lo ∧ lo ≤ hi ∧ hi ≤ 4294967296 ∧ i = .int .i64 lo ∧ j = .int .i64 hi ∧ Hid (∀ t, 0 ≤ t → t < lo → Loc A R n t < m) ∧ Hid (hi < 4294967296 → m ≤ Loc A R n hi) ∧ Below w.heap.size w wr) (fun i j _ => (intOf j - intOf i).toNat)
  case atStart => exact ⟨0, 4294967296, by omega, by omega, by omega, rfl, rfl, fun t a b => by omega, fun h => by omega, Below.refl _ _⟩
  case round =>
    obtain ⟨lo, hi, h0, h1, h2, rfl, rfl, il, ih, hb⟩ := hrel
    by_cases hlt : lo < hi
    · by_cases hm : m ≤ Loc A R n ((lo + hi) / 2)
      · have HM := Lib.hid hm
        have hd : decide (m ≤ Loc A R n ((lo + hi) / 2)) = true := decide_eq_true hm
        have c := CC.out wr ((lo + hi) / 2) hb
        rw [hd] at c
        have C := Lib.hid c
        clear c hd hm
        go_wp2_with fail
        refine C.out.mono ?_
        rintro e w1 ⟨rfl, hb1⟩
        go_wp2
        go_roundw
        case rel => exact ⟨lo, (lo + hi) / 2, h0, by omega, by omega, rfl, rfl, il, fun _ => HM.out, hb.trans hb1⟩
        case measure => simp [intOf]; omega
      · have HM := Lib.hid hm
        have hd : decide (m ≤ Loc A R n ((lo + hi) / 2)) = false := decide_eq_false hm
        have c := CC.out wr ((lo + hi) / 2) hb
        rw [hd] at c
        have C := Lib.hid c
        clear c hd hm
        go_wp2_with fail
        refine C.out.mono ?_
        rintro e w1 ⟨rfl, hb1⟩
        go_wp2
        go_roundw
        case rel => exact ⟨(lo + hi) / 2 + 1, hi, by omega, by omega, by omega, rfl, rfl, mid_lo G.out (by have := HM.out; omega), ih, hb.trans hb1⟩
        case measure => simp [intOf]; omega
    · obtain rfl : lo = hi := by omega
      go_wp2
      go_ret
      exact ⟨ret_int (Glo_eq (IsG.of_meet h0 h2 il ih)).symm, hb⟩

theorem Steps.slice {w : World} {v : Value} {n : Nat} {A R : Nat → Int} (S : Steps w v n A R) : ∃ a l cap, v = .slice a l cap := by
  rcases S with ⟨a, cap, rfl, _⟩ | ⟨b, off, cap, rfl, _⟩
  · exact ⟨_, _, _, rfl⟩
  · exact ⟨_, _, _, rfl⟩

set_option maxHeartbeats 400000 in
/-- tick.Global, of steps that may be. -/
theorem global_any (w : World) (v : Value) (n : Nat) (A R : Nat → Int) (m : Int) (S : Steps w v n A R) (g : GoodP n A R) :
    Calls Try.prog 25 #[v, .int .i64 m] w fun e w' => e = .returned (.int .i64 (Glo A R n m)) ∧ Below w.heap.size w w' := by
  obtain ⟨a, l, cap, rfl⟩ := S.slice
  have hb : Below w.heap.size w ((w.alloc (.cells #[.slice a l cap] 23)).alloc (.cells #[.int .i64 m] 3)) := ((Below.refl _ _).alloc (Nat.le_refl _) _).alloc (by simp) _
  have c := search_any ((w.alloc (.cells #[.slice a l cap] 23)).alloc (.cells #[.int .i64 m] 3)) w.heap.size (w.heap.size + 1) (.slice a l cap) n A R m (S.below hb) g (by go_simp) (by go_simp)
  have C := Lib.hid c
  have HB := Lib.hid hb
  clear c hb S g
  have hmf : ∀ (fn : Fn) (first cap : Array Value) (w : World), (Instr.makeFunc fn first cap).run Try.prog w = .ok (.func fn first cap) w := fun _ _ _ _ => rfl
  go_enter Try.func25, Try.ntmps25
  go_wp2_with fail
  refine C.out.mono ?_
  rintro e w1 ⟨rfl, hb1⟩
  go_wp2
  go_ret
  exact ⟨rfl, HB.out.trans (hb1.mono (by simp; omega))⟩

theorem mid_lo' {A R : Nat → Int} {n : Nat} {m lo hi : Int} (g : GoodP n A R) (h : ¬ m ≤ Loc A R n (lo + (hi - lo) / 2)) : ∀ t, 0 ≤ t → t < lo + (hi - lo) / 2 + 1 → Loc A R n t < m := fun t _ h1 => by
  have := Loc_mono g (show t ≤ lo + (hi - lo) / 2 by omega)
  omega

end Go.Proofs.Ytfoaneckegkhcaa.Tk
