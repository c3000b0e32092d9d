/- The document's own functions of layer 6: the code of a round, the round of a byte, and in how many bits two frames part. -/
import Derived.Test.YtejibonnjbhcjaaDoorFiMath
import Derived.Test.YtejibonnjbhcjaaDoorUaMem
namespace Go.Proofs.YtejibonnjbhcjaaDoor.Fi
open Go.RowKit
open Go.Proofs.YtejibonnjbhcjaaDoor.Ua (arr Row)

theorem ret_two {k k' : IntKind} {a c : Int} {q : Int × Int} (h : (a, c) = q) : Ending.returned (.tuple #[.int k a, .int k' c]) = .returned (.tuple #[.int k q.1, .int k' q.2]) := by rw [← h]

set_option maxHeartbeats 400000 in
theorem rcode_any (w : World) (n : Int) : Calls Tryd.prog 6 #[.int .i64 n] w fun e w' => e = .returned (.tuple #[.int .u8 (codeV n).1, .int .i64 (codeV n).2]) ∧ Below w.heap.size w w' := by
  have hb := (Below.refl w.heap.size w).alloc (Nat.le_refl _) (.cells #[.int .u8 85, .int .u8 51, .int .u8 15, .int .u8 102, .int .u8 90, .int .u8 60, .int .u8 105, .int .u8 150] 42)
  have HB := Lib.hid hb
  clear hb
  by_cases h0 : n < 0
  · have E := Lib.hid (code_out (.inl h0)).symm
    go_enter Tryd.func6, Tryd.ntmps6
    go_wp2
    go_ret2
    exact ⟨ret_two E.out, HB.out⟩
  · by_cases h7 : 7 < n
    · have E := Lib.hid (code_out (.inr h7)).symm
      go_enter Tryd.func6, Tryd.ntmps6
      go_wp2
      go_ret2
      exact ⟨ret_two E.out, HB.out⟩
    · rcases (by omega : n = 0 ∨ n = 1 ∨ n = 2 ∨ n = 3 ∨ n = 4 ∨ n = 5 ∨ n = 6 ∨ n = 7) with rfl | rfl | rfl | rfl | rfl | rfl | rfl | rfl
      all_goals
        go_enter Tryd.func6, Tryd.ntmps6
        go_wp2
        go_ret2
        exact ⟨rfl, HB.out⟩

theorem at_two {P : Program} {f : Nat} {args : Array Value} {w : World} {k k' : IntKind} {a b c d : Int} (e : (a, b) = (c, d)) (h : Calls P f args w fun e w' => e = .returned (.tuple #[.int k a, .int k' b]) ∧ Below w.heap.size w w') :
    Calls P f args w fun e w' => e = .returned (.tuple #[.int k c, .int k' d]) ∧ Below w.heap.size w w' := by injection e with e1 e2; rw [← e1, ← e2]; exact h

set_option maxHeartbeats 400000 in
theorem rround_any (w : World) (b : Int) (odd : Bool) : Calls Tryd.prog 8 #[.int .u8 b, .bool odd] w fun e w' => e = .returned (.tuple #[.int .i64 (roundV b odd).1, .int .i64 (roundV b odd).2]) ∧ Below w.heap.size w w' := by
  cases odd with
  | false =>
    go_enter Tryd.func8, Tryd.ntmps8
    go_wp2
    go_ret2
    exact ⟨rfl, Below.refl _ _⟩
  | true =>
    go_enter Tryd.func8, Tryd.ntmps8
    go_wp2
    go_loopw [6] (fun i wr => ∃ k : Nat, k ≤ 8 ∧ i = .int .i64 k ∧ Hid (∀ j, j < k → isC b j = false) ∧ Below w.heap.size w wr) (fun i _ => 8 - (intOf i).toNat)
    case atStart => exact ⟨0, by omega, rfl, fun j hj => by omega, Below.refl _ _⟩
    case round =>
      obtain ⟨k, hk, rfl, hs, hb⟩ := hrel
      have HB := Lib.hid hb
      clear hb
      by_cases hlt : k < 8
      · have CA := Lib.hid (at_two (show ((codeV k).1, (codeV k).2) = (cd k, 0) by rw [code_in rfl hlt]) (rcode_any wr k))
        go_wp2_with fail
        refine CA.out.mono ?_
        rintro e w1 ⟨rfl, b1⟩
        have B1 := Lib.hid (HB.out.trans (b1.mono HB.out.size))
        clear b1 CA
        by_cases hc : cd k = b
        · have E := Lib.hid (round_hit hlt hc hs.out).symm
          go_wp2
          go_ret2
          exact ⟨ret_two E.out, B1.out⟩
        · have ST : Hid (∀ j, j < k + 1 → isC b j = false) := fun j hj => by
            by_cases e : j = k
            · rw [e]; simp [isC, hc]
            · exact hs.out j (by omega)
          go_wp2
          go_roundw
          case rel => exact ⟨k + 1, by omega, by go_num, ST, B1.out⟩
          case measure => simp [intOf]; omega
      · obtain rfl : k = 8 := by omega
        have E := Lib.hid (round_miss hs.out).symm
        go_wp2
        go_ret2
        exact ⟨ret_two E.out, HB.out⟩

set_option maxHeartbeats 400000 in
theorem rapart_any (w : World) (F G : Nat → Bool) : Calls Tryd.prog 11 #[.agg (arr F), .agg (arr G)] w fun e w' => e = .returned (.int .i64 (dif F G 11 : Nat)) ∧ Below w.heap.size w w' := by
  have hz : (w.alloc (.cells (arr F) 23)).heap.size = w.heap.size + 1 := by simp
  have R := (Row.new w F).alloc (.cells (arr G) 23)
  have R' := Row.new (w.alloc (.cells (arr F) 23)) G
  rw [hz] at R'
  have RF := Lib.hid R
  have RG := Lib.hid R'
  have B0 := Lib.hid (((Below.refl w.heap.size w).alloc (Nat.le_refl _) (.cells (arr F) 23)).alloc (by simp) (.cells (arr G) 23))
  clear R R' hz
  go_enter Tryd.func11, Tryd.ntmps11
  go_wp2
  go_loop [5, 6] (fun c i => ∃ k : Nat, k ≤ 11 ∧ i = .int .i64 k ∧ c = .int .i64 (dif F G k : Nat)) (fun _ i => 11 - (intOf i).toNat)
  case atStart => exact ⟨0, by omega, rfl, rfl⟩
  case round =>
    obtain ⟨k, hk, rfl, rfl⟩ := hrel
    have q := dif_le F G k
    by_cases hlt : k < 11
    · have c1 := RF.out.cell k hlt
      have c2 := RG.out.cell k hlt
      cases hF : F k <;> cases hG : G k
      all_goals
        rw [hF] at c1
        rw [hG] at c2
        first
          | (have E := Lib.hid (dif_same (F := F) (G := G) (k := k) (hF.trans hG.symm))
             clear hF hG
             go_wp2
             go_round
             case rel => exact ⟨k + 1, by omega, by go_num, by rw [E.out]⟩
             case measure => simp [intOf]; omega)
          | (have E := Lib.hid (dif_one (F := F) (G := G) (k := k) (by rw [hF, hG]; decide))
             clear hF hG
             go_wp2
             go_round
             case rel => exact ⟨k + 1, by omega, by go_num, by rw [E.out]; go_num⟩
             case measure => simp [intOf]; omega)
    · obtain rfl : k = 11 := by omega
      go_wp2
      go_ret
      exact ⟨rfl, B0.out⟩

end Go.Proofs.YtejibonnjbhcjaaDoor.Fi
