/- At most forty slaves, at most six hundred rounds; the fixed fact of layer 18. -/
import Derived.Test.YtbbbempdaipmnaaBpCode
namespace Go.Proofs.Ytbbbempdaipmnaa.Bp
open Go.RowKit
open Go.Proofs.Ytbbbempdaipmnaa.Rw (Rd Ow At)
open Go.Proofs.Ytbbbempdaipmnaa.Fl (ret_bool at_bool row_cell)
open Go.Proofs.Ytbbbempdaipmnaa.Nm (S Gd KV Fit FewPost rd_takeV sameB okP)

set_option maxHeartbeats 400000 in
theorem few_any (w : World) (v : Value) (l : List S) (R : Rd KV w v l) : Calls Try.prog 5 #[v] w (FewPost w l) := by
  have R0 := Lib.hid R
  obtain ⟨a, cap, rfl, ⟨h1, h1'⟩, hm, hA⟩ := R
  have HA := Lib.hid hA
  unfold maxLen at hm
  clear hA
  by_cases h : 40 < l.length
  · obtain ⟨b, off, rfl, _⟩ := HA.out (by omega)
    have E : Hid (FewPost w l (.returned (.slice (some ⟨b, off, none⟩) 40 cap)) w) := Lib.hid ⟨_, rfl, rd_takeV R0.out rfl (by omega) (by omega), Below.refl _ _⟩
    clear R0 HA
    generalize l.length = n at *
    go_enter Try.func5, Try.ntmps5
    go_wp2
    go_ret
    exact E.out
  · have ht : l.take 40 = l := List.take_of_length_le (by omega)
    have E : Hid (FewPost w l (.returned (.slice a l.length cap)) w) := Lib.hid ⟨_, rfl, by rw [ht]; exact R0.out, Below.refl _ _⟩
    clear R0 HA ht
    generalize l.length = n at *
    go_enter Try.func5, Try.ntmps5
    go_wp2
    go_ret
    exact E.out
def SomePost (w : World) (L : List Bool) (e : Ending) (w' : World) : Prop := ∃ u, e = .returned u ∧ Rd KG w' u (L.take 600) ∧ Below w.heap.size w w'
theorem rd_takeG {w : World} {v : Value} {l : List Bool} {a : Option Addr} {n cap k : Nat} (R : Rd KG w v l) (e : v = .slice a n cap) (hk : k ≤ l.length) (h0 : 0 < k) : Rd KG w (.slice a k cap) (l.take k) := by
  obtain ⟨a', cap', e', ⟨h1, h2⟩, h3, h4⟩ := R
  rw [e] at e'
  injection e' with e1 e2 e3
  subst e1 e3
  have hl : (l.take k).length = k := by rw [List.length_take]; omega
  refine ⟨a, cap, by rw [hl], ⟨by rw [hl]; omega, h2⟩, h3, fun _ => ?_⟩
  obtain ⟨b, off, rfl, hA⟩ := h4 (by omega)
  refine ⟨b, off, rfl, fun i hi j u hu => ?_⟩
  rw [hl] at hi
  refine hA i (by omega) j u ?_
  rw [← hu, List.getD, List.getD, List.getElem?_take, if_pos hi]
set_option maxHeartbeats 400000 in
theorem some_any (w : World) (v : Value) (L : List Bool) (R : Rd KG w v L) : Calls Try.prog 9 #[v] w (SomePost w L) := by
  have R0 := Lib.hid R
  obtain ⟨a, cap, rfl, ⟨h1, h1'⟩, hm, hA⟩ := R
  have HA := Lib.hid hA
  unfold maxLen at hm
  clear hA
  by_cases h : 600 < L.length
  · obtain ⟨b, off, rfl, _⟩ := HA.out (by omega)
    have E : Hid (SomePost w L (.returned (.slice (some ⟨b, off, none⟩) 600 cap)) w) := Lib.hid ⟨_, rfl, rd_takeG R0.out rfl (by omega) (by omega), Below.refl _ _⟩
    clear R0 HA
    generalize L.length = n at *
    go_enter Try.func9, Try.ntmps9
    go_wp2
    go_ret
    exact E.out
  · have ht : L.take 600 = L := List.take_of_length_le (by omega)
    have E : Hid (SomePost w L (.returned (.slice a L.length cap)) w) := Lib.hid ⟨_, rfl, by rw [ht]; exact R0.out, Below.refl _ _⟩
    clear R0 HA ht
    generalize L.length = n at *
    go_enter Try.func9, Try.ntmps9
    go_wp2
    go_ret
    exact E.out

def b0 : List S := [(9, 0), (4, 0)]
def b1 : List S := [(9, 2), (4, 1)]
theorem bfit0 : Fit b0 := by unfold Fit; decide
theorem bgd0 : Gd b0 := ⟨by decide, by unfold okP; decide⟩
theorem run0 : rn 254 [] (([] : List Bool).length + b0.length + 1) b0 0 = (b1, 135, 0) := by decide +kernel
theorem sea0 : sP b0 [] 0 = 4 ∧ sN b0 [] 0 = 66 ∧ sB b0 [] 0 = true := by decide +kernel
theorem sea1 : sN b0 [true] 0 = 1 ∧ sB b0 [true] 0 = false := by decide +kernel
theorem ans4 : ans b0 4 = true := by decide +kernel
theorem ans3 : ans b0 3 = false := by decide +kernel

set_option maxHeartbeats 2000000 in
theorem awake_any (w : World) : Calls Try.prog 7 #[] w fun e w' => e = .returned (.bool true) ∧ Below w.heap.size w w' := by
  have P1 : Hid (∀ w v, Rd KV w v b0 → Calls Try.prog 8 #[v, .int .i64 254, .slice none 0 0] w fun e w' => ∃ u, e = .returned (.tuple #[u, .int .i64 135, .int .i64 0]) ∧ Rd KV w' u b1 ∧ Below w.heap.size w w') := Lib.hid (fun w v R => (run_any w v _ b0 [] R bfit0 bgd0 (Rw.Rd.nil _) (by decide) 254).mono fun e w' ⟨u, he, hu, hb⟩ => ⟨u, by rw [he]; unfold rnN rnE; rw [run0]; rfl, by unfold rnL at hu; rw [run0] at hu; exact hu.rd, hb⟩)
  have P2 : Hid (∀ w v, Rd KV w v b0 → Calls Try.prog 11 #[v, .slice none 0 0] w fun e w' => e = .returned (.tuple #[.int .u64 4, .int .i64 66, .bool true]) ∧ Below w.heap.size w w') := Lib.hid (fun w v R => (search_any w v _ b0 [] R (Rw.Rd.nil _)).mono fun e w' ⟨he, hb⟩ => ⟨by rw [he, sea0.1, sea0.2.1, sea0.2.2]; rfl, hb⟩)
  have P3 : Hid (∀ w v u, Rd KV w v b0 → Rd KG w u [true] → Calls Try.prog 11 #[v, u] w fun e w' => e = .returned (.tuple #[.int .u64 (sP b0 [true] 0), .int .i64 1, .bool false]) ∧ Below w.heap.size w w') := Lib.hid (fun w v u R G => (search_any w v u b0 [true] R G).mono fun e w' ⟨he, hb⟩ => ⟨by rw [he, sea1.1, sea1.2]; rfl, hb⟩)
  have P4 : Hid (∀ w v u, Rd KV w v b1 → Rd KV w u b1 → Calls Try.prog 13 #[v, u] w fun e w' => e = .returned (.bool true) ∧ Below w.heap.size w w') := Lib.hid (fun w v u R R' => at_bool (show sameB b1 b1 = true by decide) (Nm.rsame_any w v u b1 b1 R R'))
  have P5 : Hid (∀ w v, Rd KV w v b0 → Calls Try.prog 14 #[v, .int .u64 4] w fun e w' => e = .returned (.bool true) ∧ Below w.heap.size w w') := Lib.hid (fun w v R => at_bool ans4 (answers_any w v b0 R 4))
  have P6 : Hid (∀ w v, Rd KV w v b0 → Calls Try.prog 14 #[v, .int .u64 3] w fun e w' => e = .returned (.bool false) ∧ Below w.heap.size w w') := Lib.hid (fun w v R => at_bool ans3 (answers_any w v b0 R 3))
  have L0 : Hid (∀ W : World, Rd KV (W.alloc (.cells #[.int .u64 9, .int .i64 0, .int .u64 4, .int .i64 0] 41)) (.slice (some ⟨W.heap.size, 0, none⟩) 2 2) b0) := Lib.hid (fun W => (Rw.Ow.lit (K := KV) W W.heap.size 41 b0 (Nat.le_refl _) (by unfold maxLen b0; simp)).rd)
  have L1 : Hid (∀ W : World, Rd KV (W.alloc (.cells #[.int .u64 9, .int .i64 2, .int .u64 4, .int .i64 1] 41)) (.slice (some ⟨W.heap.size, 0, none⟩) 2 2) b1) := Lib.hid (fun W => (Rw.Ow.lit (K := KV) W W.heap.size 41 b1 (Nat.le_refl _) (by unfold maxLen b1; simp)).rd)
  have L2 : Hid (∀ W : World, Rd KG (W.alloc (.cells #[.bool true] 4)) (.slice (some ⟨W.heap.size, 0, none⟩) 1 1) [true]) := Lib.hid (fun W => (Rw.Ow.lit (K := KG) W W.heap.size 4 [true] (Nat.le_refl _) (by unfold maxLen; simp)).rd)
  have BL : Hid (∀ (W : World) o, Below W.heap.size W (W.alloc o)) := Lib.hid (fun W o => (Below.refl _ _).alloc (Nat.le_refl _) o)
  go_enter Try.func7, Try.ntmps7
  go_upto_region 2 with fail
  have R0 := Lib.hid (L0.out w)
  have B0 := Lib.hid (BL.out w (.cells #[.int .u64 9, .int .i64 0, .int .u64 4, .int .i64 0] 41))
  generalize w.alloc (.cells #[.int .u64 9, .int .i64 0, .int .u64 4, .int .i64 0] 41) = W0 at *
  clear L0
  go_wp2_with fail
  refine (P1.out _ _ R0.out).mono ?_
  rintro e w1 ⟨u1, rfl, r1, b1'⟩
  obtain ⟨a1, n1, k1, rfl⟩ : ∃ a n c, u1 = .slice a n c := by obtain ⟨a, c, e, _⟩ := r1; exact ⟨a, _, c, e⟩
  have B1 := Lib.hid (B0.out.trans (b1'.mono B0.out.size))
  have R1 := Lib.hid (R0.out.below b1')
  have A1 := Lib.hid r1
  clear b1' B0 R0 r1 P1
  go_wp2_with fail
  refine (P2.out _ _ R1.out).mono ?_
  rintro e w2 ⟨rfl, b2⟩
  have B2 := Lib.hid (B1.out.trans (b2.mono B1.out.size))
  have R2 := Lib.hid (R1.out.below b2)
  have A2 := Lib.hid (A1.out.below b2)
  clear b2 B1 R1 A1 P2
  go_wp2_with fail
  have b3 := BL.out w2 (.cells #[.bool true] 4)
  have G3 := Lib.hid (L2.out w2)
  have B3 := Lib.hid (B2.out.trans (b3.mono B2.out.size))
  have R3 := Lib.hid (R2.out.below b3)
  have A3 := Lib.hid (A2.out.below b3)
  clear b3 B2 R2 A2 L2
  generalize w2.alloc (.cells #[.bool true] 4) = W3 at *
  refine (P3.out _ _ _ R3.out G3.out).mono ?_
  rintro e w4 ⟨rfl, b4⟩
  have B4 := Lib.hid (B3.out.trans (b4.mono B3.out.size))
  have R4 := Lib.hid (R3.out.below b4)
  have A4 := Lib.hid (A3.out.below b4)
  clear b4 B3 R3 A3 G3 P3
  generalize sP b0 [true] 0 = p at *
  go_wp2_with fail
  have b5 := BL.out w4 (.cells #[.int .u64 9, .int .i64 2, .int .u64 4, .int .i64 1] 41)
  have B5 := Lib.hid (B4.out.trans (b5.mono B4.out.size))
  have R5 := Lib.hid (R4.out.below b5)
  have A5 := Lib.hid (A4.out.below b5)
  have Q5 := Lib.hid (L1.out w4)
  clear b5 B4 R4 A4 L1
  generalize w4.alloc (.cells #[.int .u64 9, .int .i64 2, .int .u64 4, .int .i64 1] 41) = W5 at *
  refine (P4.out _ _ _ A5.out Q5.out).mono ?_
  rintro e w6 ⟨rfl, b6⟩
  have B6 := Lib.hid (B5.out.trans (b6.mono B5.out.size))
  have R6 := Lib.hid (R5.out.below b6)
  clear b6 B5 R5 A5 Q5 P4
  go_wp2_with fail
  refine (P5.out _ _ R6.out).mono ?_
  rintro e w7 ⟨rfl, b7⟩
  have B7 := Lib.hid (B6.out.trans (b7.mono B6.out.size))
  have R7 := Lib.hid (R6.out.below b7)
  clear b7 B6 R6 P5
  go_wp2_with fail
  refine (P6.out _ _ R7.out).mono ?_
  rintro e w8 ⟨rfl, b8⟩
  have B8 := Lib.hid (B7.out.trans (b8.mono B7.out.size))
  clear b8 B7 R7 P6
  go_wp2
  go_ret
  exact ⟨rfl, B8.out⟩

end Go.Proofs.Ytbbbempdaipmnaa.Bp
