/- The document's own Spans of layer 4: the plain list that is low just where a low bit is. -/
import Derived.Test.YtkhgaacokbebiaaSeMath
import Derived.Test.YtkhgaacokbebiaaTkGlob
import Derived.Test.YtkhgaacokbebiaaUaRef
import Derived.Test.YtkhgaacokbebiaaWiJoin
namespace Go.Proofs.Ytkhgaacokbebiaa.Se
open Go.RowKit Go.Proofs.Ytkhgaacokbebiaa.Tk Go.Proofs.Ytkhgaacokbebiaa.Sp
open Go.Proofs.Ytkhgaacokbebiaa.Wi (PlainOf Made rjoin_any push_step own_low)
open Go.Proofs.Ytkhgaacokbebiaa.Ua (arr Row load_frame)

/-- What holds at the head of the loop over a frame's bits. -/
structure LRel (w : World) (g : Int → Int) (F : Nat → Bool) (m : Int) (v : Value) (k : Nat) (wr : World) : Prop where
  own : Own wr w.heap.size 37 v (lows g F m k)
  bel : Below w.heap.size w wr
theorem LRel.hi {w wr : World} {g : Int → Int} {F : Nat → Bool} {m : Int} {v : Value} {k : Nat} (h : LRel w g F m v k wr) (e : F k = true) : LRel w g F m v (k + 1) wr := ⟨by rw [lows_hi e]; exact h.own, h.bel⟩
theorem LRel.lo {w wr : World} {g : Int → Int} {F : Nat → Bool} {m : Int} {v : Value} {k : Nat} (e : F k = false) (ho : Own wr w.heap.size 37 v (lows g F m k ++ [(g (m + 16 * k), g (m + 16 * k + 16))])) (hb : Below w.heap.size w wr) : LRel w g F m v (k + 1) wr := ⟨by rw [lows_lo e]; exact ho, hb⟩

set_option maxHeartbeats 1000000 in
theorem rspans_any (w : World) (v : Value) (n : Nat) (A R : Nat → Int) (S : Tk.Steps w v n A R) (g : GoodP n A R) (m : Int) (m0 : 0 ≤ m) (m1 : m ≤ 2147483648) (F : Nat → Bool) :
    Calls Try.prog 10 #[v, .int .i64 m, .agg (arr F)] w (Made w (PlainOf (lows (Glo A R n) F m 11))) := by
  have R0 := Lib.hid (Row.new w F)
  have hb0 := (Below.refl w.heap.size w).alloc (Nat.le_refl _) (.cells (arr F) 25)
  have hz : (w.alloc (.cells (arr F) 25)).heap.size = w.heap.size + 1 := by simp
  have L0 : LRel (w.alloc (.cells (arr F) 25)) (Glo A R n) F m (.slice (some ⟨w.heap.size + 1, 0, none⟩) 0 0) 0 ((w.alloc (.cells (arr F) 25)).alloc (.cells #[] 37)) := by
    have h := Own.made (w.alloc (.cells (arr F) 25)) (w.alloc (.cells (arr F) 25)).heap.size 37 (Nat.le_refl _)
    refine ⟨?_, (Below.refl _ _).alloc (Nat.le_refl _) _⟩
    rw [show (some ⟨w.heap.size + 1, 0, none⟩ : Option Addr) = some ⟨(w.alloc (.cells (arr F) 25)).heap.size, 0, none⟩ by rw [hz]]
    exact h
  have L0' := Lib.hid L0
  have S0 := Lib.hid (S.below hb0)
  have B0 := Lib.hid hb0
  have G := Lib.hid g
  have HZ := Lib.hid hz
  clear S g hb0 L0 hz
  generalize hW : w.alloc (.cells (arr F) 25) = W at R0 L0' S0 B0 HZ
  have HW := Lib.hid hW
  clear hW
  go_enter Try.func10, Try.ntmps10
  go_wp2
  go_loopw [7, 8] (fun v i wr => ∃ k : Nat, k ≤ 11 ∧ i = .int .i64 k ∧ Hid (LRel W (Glo A R n) F m v k wr)) (fun _ i _ => 11 - (intOf i).toNat)
  case atStart => exact ⟨0, by omega, rfl, by rw [HW.out]; exact L0'⟩
  case round =>
    obtain ⟨k, hk, rfl, L⟩ := hrel
    have hB := L.out.bel.size
    have RW := Lib.hid (R0.out.below L.out.bel R0.out.lt)
    by_cases hlt : k < 11
    · have c := RW.out.cell k hlt
      cases hF : F k with
      | true =>
        have L' := Lib.hid (L.out.hi hF)
        rw [hF] at c
        clear hF
        go_wp2
        go_roundw
        case rel => exact ⟨k + 1, by omega, by go_num, L'⟩
        case measure => simp [intOf]; omega
      | false =>
        rw [hF] at c
        have HF := Lib.hid hF
        have s1 := Lib.hid (S0.out.below L.out.bel)
        clear hF
        go_wp2_with fail
        refine (rglobal_any _ _ _ _ _ (m + 16 * k) s1.out G.out).mono ?_
        rintro e w1 ⟨rfl, b1⟩
        have s2 := Lib.hid (s1.out.below b1)
        have O1 := Lib.hid (L.out.own.keep b1)
        have B1 := Lib.hid (L.out.bel.trans (b1.mono hB))
        clear b1 c
        go_wp2_with fail
        refine (rglobal_any _ _ _ _ _ (m + 16 * k + 16) s2.out G.out).mono ?_
        rintro e w2 ⟨rfl, b2⟩
        have hown := O1.out.keep b2
        have hb1 := B1.out.trans (b2.mono B1.out.size)
        have z1 := hb1.size
        have hll := lows_len (g := Glo A R n) (F := F) (m := m) k
        have LL := Lib.hid hll
        clear b2 hll O1 B1
        go_wp2_with (at_builtin; refine push_step rfl _ _ rfl W.heap.size _ _ rfl (hown.alloc _) _ (Glo A R n (m + 16 * k)) (Glo A R n (m + 16 * k + 16)) rfl ?c1 ?c2 ?c3 ?c4 ?_)
        case c1 => go_simp
        case c2 => go_simp
        case c3 => have := LL.out; omega
        case c4 => simp; omega
        intro v' w3 hown2 hb2
        have L2 := Lib.hid (LRel.lo (g := Glo A R n) (m := m) HF.out hown2 ((hb1.alloc (by omega) _).trans hb2))
        clear hown2 hb2 hb1 hown
        go_wp2
        go_roundw
        case rel => exact ⟨k + 1, by omega, by go_num, L2⟩
        case measure => simp [intOf]; omega
    · obtain rfl : k = 11 := by omega
      have NR := lows_near (g := Glo A R n) (F := F) (m := m) (Glo_in A R n) 11
      obtain ⟨a, cap, rfl, _, _⟩ := L.out.own.slice
      have J := Lib.hid (rjoin_any _ _ _ L.out.own.sp NR)
      clear NR
      go_wp2_with fail
      refine J.out.mono ?_
      rintro e w1 ⟨v1, l, rfl, hown, hj, b1⟩
      have hw : w.heap.size ≤ wr.heap.size := by have := HZ.out; omega
      have OW := Lib.hid (own_low hown hw)
      have PO := Lib.hid hj
      have B1 := Lib.hid ((B0.out.trans (L.out.bel.mono (by have := HZ.out; omega))).trans (b1.mono hw))
      clear hown hj b1
      go_wp2
      go_ret
      exact ⟨_, l, rfl, OW.out, PO.out, B1.out⟩

end Go.Proofs.Ytkhgaacokbebiaa.Se
