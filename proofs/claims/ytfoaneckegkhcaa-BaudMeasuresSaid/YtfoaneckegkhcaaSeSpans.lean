/- send.Spans: the plain list that is low just where a low bit is. -/
import Derived.Test.YtfoaneckegkhcaaSeDur
import Derived.Test.YtfoaneckegkhcaaSeIdx
import Derived.Test.YtfoaneckegkhcaaWiFall
import Derived.Test.YtfoaneckegkhcaaSeRef
namespace Go.Proofs.Ytfoaneckegkhcaa.Se
open Go.RowKit Go.Proofs.Ytfoaneckegkhcaa.Tk Go.Proofs.Ytfoaneckegkhcaa.Sp
open Go.Proofs.Ytfoaneckegkhcaa.Wi (PlainOf Made Gives JoinOf join_any rjoin_any rows_one plain_one_of push_step)
open Go.Proofs.Ytfoaneckegkhcaa.Ua (arr Row load_frame)

set_option maxHeartbeats 1000000 in
theorem spans_any (w : World) (v : Value) (n : Nat) (A R : Nat → Int) (S : Tk.Steps w v n A R) (g : GoodP n A R) (m : Int) (m0 : 0 ≤ m) (m1 : m ≤ 2147483648) (F : Nat → Bool) :
    Calls Try.prog 13 #[v, .int .i64 m, .agg (arr F)] w (Made w (PlainOf (lows (Glo A R n) F m 11))) := by
  have R0 := Lib.hid (Row.new w F)
  have B0 := Lib.hid ((Below.refl w.heap.size w).alloc (Nat.le_refl _) (.cells (arr F) 41))
  have S0 := Lib.hid S
  have G := Lib.hid g
  clear S g
  go_enter Try.func13, Try.ntmps13
  go_wp2_with ((with_reducible refine load_frame (o := ⟨some 10, _, _, _, _, _⟩) rfl _ rfl _ _ ?_ R0.out ?_); (exact rfl))
  go_loopw [7, 11] (fun v i wr => ∃ k : Nat, k ≤ 11 ∧ i = .int .i64 k ∧ Hid (LRel w (Glo A R n) F m v k wr)) (fun _ i _ => 11 - (intOf i).toNat)
  case atStart => exact ⟨0, by omega, rfl, Lib.hid ⟨Own.nil _ _ _, B0.out⟩⟩
  case round =>
    obtain ⟨k, hk, rfl, L⟩ := hrel
    by_cases hlt : k < 11
    · have ri := Ua.run_index_arr F k hlt
      cases hF : F k with
      | true =>
        have L' := Lib.hid (L.out.hi hF)
        rw [hF] at ri
        clear hF
        go_wp2
        go_roundw
        case rel => exact ⟨k + 1, by omega, by go_num, L'⟩
        case measure => simp [intOf]; omega
      | false =>
        rw [hF] at ri
        have HF := Lib.hid hF
        clear hF
        have s1 := S0.out.below L.out.bel
        have C := Lib.hid (during_any wr v n A R s1 G.out (m + 16 * k) 16 (by omega) (by omega) (by omega) (by omega))
        clear s1
        have hB := L.out.bel.size
        go_wp2_with fail
        refine C.out.mono ?_
        rintro e w1 ⟨rfl, b1⟩
        have hown := L.out.own.keep b1
        have hb1 := L.out.bel.trans (b1.mono hB)
        have z1 := b1.size
        have hll := lows_len (g := Glo A R n) (F := F) (m := m) k
        have LL := Lib.hid hll
        clear b1 hll
        go_wp2_with (at_builtin; refine push_step rfl _ _ rfl w.heap.size _ _ rfl (hown.alloc _) _ (Glo A R n (m + 16 * k)) (Glo A R n (m + 16 * k + 16)) rfl ?c1 ?c2 ?c3 ?c4 ?_)
        case c1 => go_simp
        case c2 => go_simp
        case c3 => have := LL.out; omega
        case c4 => simp; omega
        intro v' w2 hown2 hb2
        have L2 := Lib.hid (LRel.lo (g := Glo A R n) (m := m) HF.out hown2 ((hb1.alloc (by omega) _).trans hb2))
        clear hown2 hb2 hb1 hown
        go_wp2
        go_roundw
        case rel => exact ⟨k + 1, by omega, by go_num, L2⟩
        case measure => simp [intOf]; omega
    · obtain rfl : k = 11 := by omega
      have hB := L.out.bel.size
      obtain ⟨a, cap, rfl, _, _⟩ := L.out.own.slice
      have hll := lows_len (g := Glo A R n) (F := F) (m := m) 11
      have J := Lib.hid (join_any _ _ _ (rows_one L.out.own.sp) (by show 0 + (lows (Glo A R n) F m 11).length < _; omega))
      clear hll
      go_wp2_with fail
      refine J.out.mono ?_
      rintro e w1 ⟨v1, l, rfl, hown, hj, b1⟩
      have OW := Lib.hid (Wi.own_low hown (B' := w.heap.size) (by simp; omega))
      have PO := Lib.hid (plain_one_of hj)
      have B1 := Lib.hid ((L.out.bel.alloc hB _).trans (b1.mono (B' := w.heap.size) (by simp; omega)))
      clear hown hj b1
      go_wp2
      go_ret
      exact ⟨_, l, rfl, OW.out, PO.out, B1.out⟩

end Go.Proofs.Ytfoaneckegkhcaa.Se
