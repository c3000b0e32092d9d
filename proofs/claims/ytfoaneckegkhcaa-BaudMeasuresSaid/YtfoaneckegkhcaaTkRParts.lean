/- What the document's own Local answers, of steps that may be: what tick.Local does. -/
import Derived.Test.YtfoaneckegkhcaaTkParts
namespace Go.Proofs.Ytfoaneckegkhcaa.Tk
open Go.RowKit

theorem three (t : Int) : (t < 0 ∧ clamp t = 0) ∨ (0 ≤ t ∧ 4294967296 < t ∧ clamp t = 4294967296) ∨ (0 ≤ t ∧ t ≤ 4294967296 ∧ clamp t = t) := by
  unfold clamp; split
  · exact .inl ⟨by omega, rfl⟩
  · split
    · exact .inr (.inl ⟨by omega, by omega, rfl⟩)
    · exact .inr (.inr ⟨by omega, by omega, rfl⟩)

theorem rlocal_none_neg (w : World) (a : Option Addr) (cap : Nat) (t : Int) (ta : t < 0) (A R : Nat → Int) : Calls Try.prog 17 #[.slice a 0 cap, .int .i64 t] w fun e w' => e = .returned (.int .i64 (Loc A R 0 t)) ∧ Below w.heap.size w w' := by
  have c : clamp t = 0 := by unfold clamp; split <;> (try split) <;> omega
  have e : Loc A R 0 t = 0 := by
    rw [Loc, c, PP_eq (⟨Nat.le_refl _, fun i h => by omega, fun h => by omega⟩ : AtStop A 0 0 0)]
    show (0 + (0 - 0) * (1000000 + 0)) / 1000000 = _
    omega
  have E := Lib.hid e; clear e
  clear c
  go_enter Try.func17, Try.ntmps17
  go_wp2
  go_loopw [5, 6, 7, 8] (fun s f r i wr => i = .int .i64 0 ∧ s = .int .i64 0 ∧ f = .int .i64 0 ∧ r = .int .i64 0 ∧ Below w.heap.size w wr) (fun _ _ _ _ _ => 0)
  case atStart => exact ⟨rfl, rfl, rfl, rfl, Below.refl _ _⟩
  case round =>
    obtain ⟨rfl, rfl, rfl, rfl, hb⟩ := hrel
    go_wp2
    go_ret
    exact ⟨ret_int (by rw [E.out]), hb⟩

set_option maxHeartbeats 400000 in
theorem rlocal_some_neg (w : World) (b off n cap : Nat) (A R : Nat → Int) (g : GoodP n A R) (t : Int) (ta : t < 0)
    (hc : ∀ i, i < n → w.cell? ⟨b, off + i * 2, none⟩ = some (.int .i64 (A i)) ∧ w.cell? ⟨b, off + i * 2 + 1, none⟩ = some (.int .i64 (R i))) :
    Calls Try.prog 17 #[.slice (some ⟨b, off, none⟩) n cap, .int .i64 t] w fun e w' => e = .returned (.int .i64 (Loc A R n t)) ∧ Below w.heap.size w w' := by
  have HC := Lib.hid hc; clear hc
  have G := Lib.hid g; clear g
  have hn : n ≤ 64 := G.out.len
  have e : Loc A R n t = 0 := by rw [Loc, show clamp t = 0 from by unfold clamp; split <;> (try split) <;> omega, PP_zero G.out]; rfl
  have E := Lib.hid e; clear e
  go_enter Try.func17, Try.ntmps17
  go_wp2
  go_loopw [5, 6, 7, 8] (fun s f r i wr => i = .int .i64 0 ∧ s = .int .i64 0 ∧ f = .int .i64 0 ∧ r = .int .i64 0 ∧ Below w.heap.size w wr) (fun _ _ _ _ _ => 0)
  case atStart => exact ⟨rfl, rfl, rfl, rfl, Below.refl _ _⟩
  case round =>
    obtain ⟨rfl, rfl, rfl, rfl, hb⟩ := hrel
    by_cases hlt : 0 < n
    · obtain ⟨c1, _⟩ := HC.out 0 hlt
      simp only [Nat.zero_mul, Nat.add_zero] at c1
      have d1 := (hb.cell (World.block_lt_of_cell? _ _ c1)).trans c1
      clear c1
      have ab := (G.out.at_ 0 hlt).1
      go_wp2
      go_ret
      exact ⟨ret_int (by rw [E.out]), hb⟩
    · obtain rfl : n = 0 := by omega
      go_wp2
      go_ret
      exact ⟨ret_int (by rw [E.out]), hb⟩

theorem rlocal_none_big (w : World) (a : Option Addr) (cap : Nat) (t : Int) (tb : 4294967296 < t) (A R : Nat → Int) : Calls Try.prog 17 #[.slice a 0 cap, .int .i64 t] w fun e w' => e = .returned (.int .i64 (Loc A R 0 t)) ∧ Below w.heap.size w w' := by
  have c : clamp t = 4294967296 := by unfold clamp; split <;> (try split) <;> omega
  have e : Loc A R 0 t = 4294967296 := by
    rw [Loc, c, PP_eq (⟨Nat.le_refl _, fun i h => by omega, fun h => by omega⟩ : AtStop A 0 4294967296 0)]
    show (0 + (4294967296 - 0) * (1000000 + 0)) / 1000000 = _
    omega
  have E := Lib.hid e; clear e
  clear c
  go_enter Try.func17, Try.ntmps17
  go_wp2
  go_loopw [5, 6, 7, 8] (fun s f r i wr => i = .int .i64 0 ∧ s = .int .i64 0 ∧ f = .int .i64 0 ∧ r = .int .i64 0 ∧ Below w.heap.size w wr) (fun _ _ _ _ _ => 0)
  case atStart => exact ⟨rfl, rfl, rfl, rfl, Below.refl _ _⟩
  case round =>
    obtain ⟨rfl, rfl, rfl, rfl, hb⟩ := hrel
    go_wp2
    go_ret
    exact ⟨ret_int (by rw [E.out]), hb⟩

set_option maxHeartbeats 400000 in
theorem rlocal_some_big (w : World) (b off n cap : Nat) (A R : Nat → Int) (g : GoodP n A R) (t : Int) (tb : 4294967296 < t)
    (hc : ∀ i, i < n → w.cell? ⟨b, off + i * 2, none⟩ = some (.int .i64 (A i)) ∧ w.cell? ⟨b, off + i * 2 + 1, none⟩ = some (.int .i64 (R i))) :
    Calls Try.prog 17 #[.slice (some ⟨b, off, none⟩) n cap, .int .i64 t] w fun e w' => e = .returned (.int .i64 (Loc A R n t)) ∧ Below w.heap.size w w' := by
  have HC := Lib.hid hc; clear hc
  have G := Lib.hid g; clear g
  have hn : n ≤ 64 := G.out.len
  have e : Loc A R n t = PP A R n 4294967296 / 1000000 := by rw [Loc, show clamp t = 4294967296 from by unfold clamp; split <;> (try split) <;> omega]
  have E := Lib.hid e; clear e
  have pb := PP_bd G.out 4294967296 (by omega)
  go_enter Try.func17, Try.ntmps17
  go_wp2
  go_loopw [5, 6, 7, 8] (fun s f r i wr => ∃ k : Nat, k ≤ n ∧ i = .int .i64 k ∧ s = .int .i64 (sm A R k) ∧ f = .int .i64 (fr A k) ∧ r = .int .i64 (rt R k) ∧ Hid (∀ i, i < k → A i < 4294967296) ∧ Below w.heap.size w wr) (fun _ _ _ i _ => n - (intOf i).toNat)
  case atStart => exact ⟨0, Nat.zero_le _, rfl, rfl, rfl, rfl, fun i h => by omega, Below.refl _ _⟩
  case round =>
    obtain ⟨k, hk, rfl, rfl, rfl, rfl, hs, hb⟩ := hrel
    have fb := fr_bd G.out k hk
    have rb := rt_bd G.out k hk
    have sb := Bd.of G.out k hk
    by_cases hlt : k < n
    · obtain ⟨c1, c2⟩ := HC.out k hlt
      have d1 := (hb.cell (World.block_lt_of_cell? _ _ c1)).trans c1
      have d2 := (hb.cell (World.block_lt_of_cell? _ _ c2)).trans c2
      clear c1 c2
      have ab := G.out.at_ k hlt
      have fa := fr_le G.out k hlt
      have mb := mul_rt G.out k hk (A k - fr A k) (by omega) (by omega)
      by_cases ht : 4294967296 ≤ A k
      · have hst : AtStop A n 4294967296 k := ⟨hk, hs.out, fun _ => ht⟩
        have ft := stop_fr (by omega) hst
        have mc := mul_rt G.out k hk (4294967296 - fr A k) (by omega) (by omega)
        have HP := Lib.hid (PP_eq (R := R) hst)
        rw [HP.out] at pb
        unfold pp at pb
        clear hst
        go_wp2
        go_ret
        exact ⟨ret_int (by rw [E.out, HP.out]; rfl), hb⟩
      · go_wp2
        go_quiet (fail)
        go_wp2
        go_roundw
        case rel => exact ⟨k + 1, by omega, by go_num, rfl, rfl, rfl, (fun i hi => by
          by_cases e : i = k
          · subst e; omega
          · exact hs.out i (by omega)), below_drewN hb _⟩
        case measure => simp [intOf]; omega
    · obtain rfl : k = n := by omega
      have hst : AtStop A k 4294967296 k := ⟨hk, hs.out, fun h => by omega⟩
      have ft := stop_fr (by omega) hst
      have mc := mul_rt G.out k hk (4294967296 - fr A k) (by omega) (by omega)
      have HP := Lib.hid (PP_eq (R := R) hst)
      rw [HP.out] at pb
      unfold pp at pb
      clear hst
      go_wp2
      go_ret
      exact ⟨ret_int (by rw [E.out, HP.out]; rfl), hb⟩

theorem rlocal_none_mid (w : World) (a : Option Addr) (cap : Nat) (t : Int) (ta : 0 ≤ t) (tb : t ≤ 4294967296) (A R : Nat → Int) : Calls Try.prog 17 #[.slice a 0 cap, .int .i64 t] w fun e w' => e = .returned (.int .i64 (Loc A R 0 t)) ∧ Below w.heap.size w w' := by
  have c : clamp t = t := clamp_id ta tb
  have e : Loc A R 0 t = t := by
    rw [Loc, c, PP_eq (⟨Nat.le_refl _, fun i h => by omega, fun h => by omega⟩ : AtStop A 0 t 0)]
    show (0 + (t - 0) * (1000000 + 0)) / 1000000 = _
    omega
  have E := Lib.hid e; clear e
  clear c
  go_enter Try.func17, Try.ntmps17
  go_wp2
  go_loopw [5, 6, 7, 8] (fun s f r i wr => i = .int .i64 0 ∧ s = .int .i64 0 ∧ f = .int .i64 0 ∧ r = .int .i64 0 ∧ Below w.heap.size w wr) (fun _ _ _ _ _ => 0)
  case atStart => exact ⟨rfl, rfl, rfl, rfl, Below.refl _ _⟩
  case round =>
    obtain ⟨rfl, rfl, rfl, rfl, hb⟩ := hrel
    go_wp2
    go_ret
    exact ⟨ret_int (by rw [E.out]), hb⟩

set_option maxHeartbeats 400000 in
theorem rlocal_some_mid (w : World) (b off n cap : Nat) (A R : Nat → Int) (g : GoodP n A R) (t : Int) (ta : 0 ≤ t) (tb : t ≤ 4294967296)
    (hc : ∀ i, i < n → w.cell? ⟨b, off + i * 2, none⟩ = some (.int .i64 (A i)) ∧ w.cell? ⟨b, off + i * 2 + 1, none⟩ = some (.int .i64 (R i))) :
    Calls Try.prog 17 #[.slice (some ⟨b, off, none⟩) n cap, .int .i64 t] w fun e w' => e = .returned (.int .i64 (Loc A R n t)) ∧ Below w.heap.size w w' := by
  have HC := Lib.hid hc; clear hc
  have G := Lib.hid g; clear g
  have hn : n ≤ 64 := G.out.len
  have e : Loc A R n t = PP A R n t / 1000000 := by rw [Loc, show clamp t = t from clamp_id ta tb]
  have E := Lib.hid e; clear e
  have pb := PP_bd G.out t (by omega)
  go_enter Try.func17, Try.ntmps17
  go_wp2
  go_loopw [5, 6, 7, 8] (fun s f r i wr => ∃ k : Nat, k ≤ n ∧ i = .int .i64 k ∧ s = .int .i64 (sm A R k) ∧ f = .int .i64 (fr A k) ∧ r = .int .i64 (rt R k) ∧ Hid (∀ i, i < k → A i < t) ∧ Below w.heap.size w wr) (fun _ _ _ i _ => n - (intOf i).toNat)
  case atStart => exact ⟨0, Nat.zero_le _, rfl, rfl, rfl, rfl, fun i h => by omega, Below.refl _ _⟩
  case round =>
    obtain ⟨k, hk, rfl, rfl, rfl, rfl, hs, hb⟩ := hrel
    have fb := fr_bd G.out k hk
    have rb := rt_bd G.out k hk
    have sb := Bd.of G.out k hk
    by_cases hlt : k < n
    · obtain ⟨c1, c2⟩ := HC.out k hlt
      have d1 := (hb.cell (World.block_lt_of_cell? _ _ c1)).trans c1
      have d2 := (hb.cell (World.block_lt_of_cell? _ _ c2)).trans c2
      clear c1 c2
      have ab := G.out.at_ k hlt
      have fa := fr_le G.out k hlt
      have mb := mul_rt G.out k hk (A k - fr A k) (by omega) (by omega)
      by_cases ht : t ≤ A k
      · have hst : AtStop A n t k := ⟨hk, hs.out, fun _ => ht⟩
        have ft := stop_fr (by omega) hst
        have mc := mul_rt G.out k hk (t - fr A k) (by omega) (by omega)
        have HP := Lib.hid (PP_eq (R := R) hst)
        rw [HP.out] at pb
        unfold pp at pb
        clear hst
        go_wp2
        go_ret
        exact ⟨ret_int (by rw [E.out, HP.out]; rfl), hb⟩
      · go_wp2
        go_quiet (fail)
        go_wp2
        go_roundw
        case rel => exact ⟨k + 1, by omega, by go_num, rfl, rfl, rfl, (fun i hi => by
          by_cases e : i = k
          · subst e; omega
          · exact hs.out i (by omega)), below_drewN hb _⟩
        case measure => simp [intOf]; omega
    · obtain rfl : k = n := by omega
      have hst : AtStop A k t k := ⟨hk, hs.out, fun h => by omega⟩
      have ft := stop_fr (by omega) hst
      have mc := mul_rt G.out k hk (t - fr A k) (by omega) (by omega)
      have HP := Lib.hid (PP_eq (R := R) hst)
      rw [HP.out] at pb
      unfold pp at pb
      clear hst
      go_wp2
      go_ret
      exact ⟨ret_int (by rw [E.out, HP.out]; rfl), hb⟩

/-- The document's own Local. -/
theorem rlocal_any (w : World) (v : Value) (n : Nat) (A R : Nat → Int) (h : Steps w v n A R) (g : GoodP n A R) (t : Int) :
    Calls Try.prog 17 #[v, .int .i64 t] w fun e w' => e = .returned (.int .i64 (Loc A R n t)) ∧ Below w.heap.size w w' := by
  rcases h with ⟨b, cap, rfl, _, rfl⟩ | ⟨b, off, cap, rfl, _, _, hc⟩
  · rcases three t with ⟨a, _⟩ | ⟨a, c, _⟩ | ⟨a, c, _⟩
    · exact rlocal_none_neg w b cap t a A R
    · exact rlocal_none_big w b cap t c A R
    · exact rlocal_none_mid w b cap t a c A R
  · rcases three t with ⟨a, _⟩ | ⟨a, c, _⟩ | ⟨a, c, _⟩
    · exact rlocal_some_neg w b off n cap A R g t a hc
    · exact rlocal_some_big w b off n cap A R g t c hc
    · exact rlocal_some_mid w b off n cap A R g t a c hc

end Go.Proofs.Ytfoaneckegkhcaa.Tk
