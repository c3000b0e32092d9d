/- What tick.parts, tick.Local and the document's own Local answer, of steps that may be. -/
import Derived.Test.YtfoaneckegkhcaaTkGood
import Derived.BigQuiet
import Derived.Deep.QuietTactic
import Derived.WalkSmall
namespace Go.Proofs.Ytfoaneckegkhcaa.Tk
open Go.RowKit

/-- The bounds of what stands in a round. -/
structure Bd (A R : Nat → Int) (n k : Nat) : Prop where
  f0 : 0 ≤ fr A k
  f1 : fr A k ≤ 4294967296
  r0 : -20000 ≤ rt R k
  r1 : rt R k ≤ 20000
  s0 : 0 ≤ sm A R k
  s1 : sm A R k ≤ 4380866641920
theorem Bd.of {A R : Nat → Int} {n : Nat} (g : GoodP n A R) (k : Nat) (h : k ≤ n) : 0 ≤ sm A R k ∧ sm A R k ≤ 4380866641920000 := by
  have f := fr_bd g k h
  have s := sm_bd g k h
  omega
theorem mul_rt {A R : Nat → Int} {n : Nat} (g : GoodP n A R) (k : Nat) (h : k ≤ n) (d : Int) (h0 : 0 ≤ d) (h1 : d ≤ 4294967296) : 0 ≤ d * (1000000 + rt R k) ∧ d * (1000000 + rt R k) ≤ 4380866641920000 := by
  have b := rt_bd g k h
  have m := mul_bd (d := d) (c := 1000000 + rt R k) h0 (by omega) (by omega)
  omega

theorem parts_none (w : World) (a : Option Addr) (cap : Nat) (t : Int) (h0 : 0 ≤ t) (h1 : t ≤ 4294967296) (A R : Nat → Int) : Calls Try.prog 22 #[.slice a 0 cap, .int .i64 t] w fun e w' => e = .returned (.int .i64 (PP A R 0 t)) ∧ Below w.heap.size w w' := by
  have e : PP A R 0 t = t * 1000000 := by
    rw [PP_eq (⟨Nat.le_refl _, fun i h => by omega, fun h => by omega⟩ : AtStop A 0 t 0)]
    show 0 + (t - 0) * (1000000 + 0) = _
    omega
  rw [e]
  go_enter Try.func22, Try.ntmps22
  go_wp2
  go_loopw [5, 6, 7, 12] (fun s f r i wr => i = .int .i64 0 ∧ s = .int .i64 0 ∧ f = .int .i64 0 ∧ r = .int .i64 0 ∧ Below w.heap.size w wr) (fun _ _ _ _ _ => 0)
  case atStart => exact ⟨rfl, rfl, rfl, rfl, Below.refl _ _⟩
  case round =>
    obtain ⟨rfl, rfl, rfl, rfl, hb⟩ := hrel
    go_wp2
    go_ret
    exact ⟨ret_int (by omega), hb⟩

set_option maxHeartbeats 400000 in
theorem parts_some (w : World) (b off n cap : Nat) (A R : Nat → Int) (g : GoodP n A R) (t : Int) (h0 : 0 ≤ t) (h1 : t ≤ 4294967296)
    (hc : ∀ i, i < n → w.cell? ⟨b, off + i * 2, none⟩ = some (.int .i64 (A i)) ∧ w.cell? ⟨b, off + i * 2 + 1, none⟩ = some (.int .i64 (R i))) :
    Calls Try.prog 22 #[.slice (some ⟨b, off, none⟩) n cap, .int .i64 t] w fun e w' => e = .returned (.int .i64 (PP A R n t)) ∧ Below w.heap.size w w' := by
  have HC := Lib.hid hc; clear hc
  have G := Lib.hid g; clear g
  have hn : n ≤ 64 := G.out.len
  go_enter Try.func22, Try.ntmps22
  go_wp2
  go_loopw [5, 6, 7, 12] (fun s f r i wr => ∃ k : Nat, k ≤ n ∧ i = .int .i64 k ∧ s = .int .i64 (sm A R k) ∧ f = .int .i64 (fr A k) ∧ r = .int .i64 (rt R k) ∧ Hid (∀ i, i < k → A i < t) ∧ Below w.heap.size w wr) (fun _ _ _ i _ => n - (intOf i).toNat)
  case atStart => exact ⟨0, Nat.zero_le _, rfl, rfl, rfl, rfl, fun i h => by omega, Below.refl _ _⟩
  case round =>
    obtain ⟨k, hk, rfl, rfl, rfl, rfl, hs, hb⟩ := hrel
    have fb := fr_bd G.out k hk
    have rb := rt_bd G.out k hk
    have sb := Bd.of G.out k hk
    by_cases hlt : k < n
    · obtain ⟨c1, c2⟩ := HC.out k hlt
      have d1 := (hb.cell (World.block_lt_of_cell? _ _ c1)).trans c1
      have d2 := (hb.cell (World.block_lt_of_cell? _ _ c2)).trans c2
      clear c1 c2
      have ab := G.out.at_ k hlt
      have fa := fr_le G.out k hlt
      have mb := mul_rt G.out k hk (A k - fr A k) (by omega) (by omega)
      by_cases ht : t ≤ A k
      · have hst : AtStop A n t k := ⟨hk, hs.out, fun _ => ht⟩
        have ft := stop_fr h0 hst
        have mc := mul_rt G.out k hk (t - fr A k) (by omega) (by omega)
        have HP := Lib.hid (PP_eq (R := R) hst)
        clear hst
        go_wp2
        go_ret
        exact ⟨ret_int (by rw [HP.out]; rfl), hb.alloc hb.size _⟩
      · go_wp2
        go_quiet (fail)
        go_wp2
        go_roundw
        case rel => exact ⟨k + 1, by omega, by go_num, rfl, rfl, rfl, (fun i hi => by
          by_cases e : i = k
          · subst e; omega
          · exact hs.out i (by omega)), below_drewN (hb.alloc hb.size _) _⟩
        case measure => simp [intOf]; omega
    · obtain rfl : k = n := by omega
      have hst : AtStop A k t k := ⟨hk, hs.out, fun h => by omega⟩
      have ft := stop_fr h0 hst
      have mc := mul_rt G.out k hk (t - fr A k) (by omega) (by omega)
      have HP := Lib.hid (PP_eq (R := R) hst)
      clear hst
      go_wp2
      go_ret
      exact ⟨ret_int (by rw [HP.out]; rfl), hb⟩

theorem parts_any (w : World) (v : Value) (n : Nat) (A R : Nat → Int) (h : Steps w v n A R) (g : GoodP n A R) (t : Int) (h0 : 0 ≤ t) (h1 : t ≤ 4294967296) :
    Calls Try.prog 22 #[v, .int .i64 t] w fun e w' => e = .returned (.int .i64 (PP A R n t)) ∧ Below w.heap.size w w' := by
  rcases h with ⟨a, cap, rfl, _, rfl⟩ | ⟨b, off, cap, rfl, _, _, hc⟩
  · exact parts_none w a cap t h0 h1 A R
  · exact parts_some w b off n cap A R g t h0 h1 hc

/-- tick.Local, of steps that may be. -/
theorem local_any (w : World) (v : Value) (n : Nat) (A R : Nat → Int) (h : Steps w v n A R) (g : GoodP n A R) (t : Int) :
    Calls Try.prog 15 #[v, .int .i64 t] w fun e w' => e = .returned (.int .i64 (Loc A R n t)) ∧ Below w.heap.size w w' := by
  have G := Lib.hid g; clear g
  have S := Lib.hid h; clear h
  by_cases ht : t ≤ 0
  · have e : Loc A R n t = 0 := by
      have c : clamp t = 0 := by unfold clamp; split <;> (try split) <;> omega
      rw [Loc, c, PP_zero G.out]; rfl
    have E := Lib.hid e; clear e
    go_enter Try.func15, Try.ntmps15
    go_wp2
    go_ret
    exact ⟨ret_int E.out.symm, Below.refl _ _⟩
  · by_cases hm : t ≤ 4294967296
    · have p := parts_any w v n A R S.out G.out t (by omega) hm
      have pb := PP_bd G.out t (by omega)
      have P := Lib.hid p; clear p
      have e : Loc A R n t = PP A R n t / 1000000 := by rw [Loc, clamp_id (by omega) hm]
      have E := Lib.hid e; clear e
      go_enter Try.func15, Try.ntmps15
      go_wp2_with fail
      refine P.out.mono ?_
      rintro e w' ⟨rfl, hb⟩
      go_wp2
      go_ret
      exact ⟨ret_int E.out.symm, hb⟩
    · have p := parts_any w v n A R S.out G.out 4294967296 (by omega) (by omega)
      have pb := PP_bd G.out 4294967296 (by omega)
      have P := Lib.hid p; clear p
      have e : Loc A R n t = PP A R n 4294967296 / 1000000 := by
        have c : clamp t = 4294967296 := by unfold clamp; split <;> (try split) <;> omega
        rw [Loc, c]
      have E := Lib.hid e; clear e
      go_enter Try.func15, Try.ntmps15
      go_wp2_with fail
      refine P.out.mono ?_
      rintro e w' ⟨rfl, hb⟩
      go_wp2
      go_ret
      exact ⟨ret_int E.out.symm, hb⟩

end Go.Proofs.Ytfoaneckegkhcaa.Tk
