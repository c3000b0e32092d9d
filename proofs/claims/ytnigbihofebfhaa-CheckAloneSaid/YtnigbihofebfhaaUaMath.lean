/- Plain mathematics of layer 3: bits of a number, frames as functions of their bits, their parity and their byte. -/
import Derived.WalkKit
namespace Go.Proofs.Ytnigbihofebfhaa.Ua
open Go.RowKit

/-- Bit j of a number, counted from the lowest one, 0. -/
def bit (b : Int) (j : Nat) : Bool := decide (b / 2 ^ j % 2 = 1)
/-- Of F 1 to F k: is an odd number high? -/
def par (F : Nat → Bool) : Nat → Bool
  | 0 => false
  | k + 1 => par F k != F (k + 1)
/-- The number that F 1 to F k stand for. -/
def val (F : Nat → Bool) : Nat → Nat
  | 0 => 0
  | k + 1 => val F k + if F (k + 1) then 2 ^ k else 0
/-- How many of F 1 to F k are high. -/
def cnt (F : Nat → Bool) : Nat → Nat
  | 0 => 0
  | k + 1 => cnt F k + if F (k + 1) then 1 else 0
def upd (F : Nat → Bool) (k : Nat) (x : Bool) (i : Nat) : Bool := if i = k then x else F i
/-- A byte's bits below bit k of its frame. -/
def put (b : Int) (k : Nat) (i : Nat) : Bool := if 1 ≤ i ∧ i < k then bit b (i - 1) else false
/-- A byte's frame. -/
def frm (b : Int) (odd : Bool) : Nat → Bool := upd (upd (put b 9) 9 (par (put b 9) 9 != odd)) 10 true
/-- A frame of which some bits below k are turned. -/
def turn (F : Nat → Bool) (m : Int) (k : Nat) (i : Nat) : Bool := if i < k then F i != bit m i else F i
/-- Is a frame none? -/
def bad (F : Nat → Bool) : Bool := F 0 || !F 10
def tb (F : Nat → Bool) : Int := if bad F then 0 else val F 8
def tp (F : Nat → Bool) : Bool := if bad F then false else par F 9
def te (F : Nat → Bool) : Int := if bad F then 2 else 0

theorem par_congr {F G : Nat → Bool} : ∀ k, (∀ i, 1 ≤ i → i ≤ k → F i = G i) → par F k = par G k
  | 0, _ => rfl
  | k + 1, h => by rw [par, par, par_congr k (fun i h1 h2 => h i h1 (by omega)), h (k + 1) (by omega) (by omega)]
theorem val_congr {F G : Nat → Bool} : ∀ k, (∀ i, 1 ≤ i → i ≤ k → F i = G i) → val F k = val G k
  | 0, _ => rfl
  | k + 1, h => by rw [val, val, val_congr k (fun i h1 h2 => h i h1 (by omega)), h (k + 1) (by omega) (by omega)]
theorem val_lt (F : Nat → Bool) : ∀ k, val F k < 2 ^ k
  | 0 => Nat.lt_succ_self 0
  | k + 1 => by have := val_lt F k; rw [val, Nat.pow_succ]; split <;> omega
theorem cnt_le (F : Nat → Bool) : ∀ k, cnt F k ≤ k
  | 0 => Nat.le_refl _
  | k + 1 => by have := cnt_le F k; rw [cnt]; split <;> omega
theorem cnt_par (F : Nat → Bool) : ∀ k, decide (cnt F k % 2 = 1) = par F k
  | 0 => rfl
  | k + 1 => by
    have ih := cnt_par F k
    rw [cnt, par, ← ih]
    by_cases h : F (k + 1) = true <;> by_cases c : cnt F k % 2 = 1 <;> simp [h, c] <;> omega
theorem par_turn (F : Nat → Bool) (m : Int) : ∀ k, k < 11 → par (turn F m 11) k = (par F k != par (bit m) k)
  | 0, _ => rfl
  | k + 1, h => by
    rw [par, par, par, par_turn F m k (by omega)]
    have : turn F m 11 (k + 1) = (F (k + 1) != bit m (k + 1)) := by unfold turn; rw [if_pos h]
    rw [this]
    cases par F k <;> cases par (bit m) k <;> cases F (k + 1) <;> cases bit m (k + 1) <;> rfl

theorem bit_div (b : Int) (j : Nat) : bit (b / 2 ^ j) 0 = bit b j := by simp [bit]
theorem bit_mod (b : Int) (j : Nat) : b / 2 ^ j % 2 = if bit b j then 1 else 0 := by
  unfold bit
  split
  · rename_i h; simpa using h
  · rename_i h; simp at h; omega
theorem pow_succ_int (k : Nat) : (2 : Int) ^ (k + 1) = 2 ^ k * 2 := Int.pow_succ _ _
theorem mod_step (b : Int) (k : Nat) : b % 2 ^ (k + 1) = b % 2 ^ k + b / 2 ^ k % 2 * 2 ^ k := by
  have e : b / (2 ^ k * 2) = b / 2 ^ k / 2 := (Int.ediv_ediv_of_nonneg (Int.le_of_lt (Int.pow_pos (by decide)))).symm
  rw [pow_succ_int, Int.emod_def b (2 ^ k * 2), Int.emod_def b (2 ^ k), Int.emod_def (b / 2 ^ k) 2, e]
  grind
theorem val_put (b : Int) : ∀ k, k ≤ 8 → (val (put b 9) k : Int) = b % 2 ^ k
  | 0, _ => by simp [val]
  | k + 1, h => by
    have ih := val_put b k (by omega)
    rw [mod_step, ← ih, val, bit_mod]
    have : put b 9 (k + 1) = bit b k := by unfold put; rw [if_pos (by omega)]; rfl
    rw [this]
    split <;> simp

theorem frm_0 (b : Int) (odd : Bool) : frm b odd 0 = false := rfl
theorem frm_10 (b : Int) (odd : Bool) : frm b odd 10 = true := rfl
theorem bad_frm (b : Int) (odd : Bool) : bad (frm b odd) = false := rfl
theorem frm_put (b : Int) (odd : Bool) (i : Nat) (h : i ≤ 8) : frm b odd i = put b 9 i := by
  unfold frm upd
  rw [if_neg (by omega), if_neg (by omega)]
theorem par_put9 (b : Int) : par (put b 9) 9 = par (put b 9) 8 := by
  show (par (put b 9) 8 != put b 9 9) = _
  have : put b 9 9 = false := by unfold put; rw [if_neg (by omega)]
  rw [this]; simp
theorem par_frm (b : Int) (odd : Bool) : par (frm b odd) 9 = odd := by
  show (par (frm b odd) 8 != frm b odd 9) = _
  rw [par_congr (G := put b 9) 8 (fun i _ h => frm_put b odd i h)]
  have : frm b odd 9 = (par (put b 9) 9 != odd) := rfl
  rw [this, par_put9]
  cases par (put b 9) 8 <;> cases odd <;> rfl
theorem tb_frm (b : Int) (odd : Bool) (h0 : 0 ≤ b) (h1 : b ≤ 255) : tb (frm b odd) = b := by
  unfold tb
  rw [bad_frm, if_neg (by simp), val_congr (G := put b 9) 8 (fun i _ h => frm_put b odd i h), val_put b 8 (by omega)]
  omega
theorem tp_frm (b : Int) (odd : Bool) : tp (frm b odd) = odd := by unfold tp; rw [bad_frm, par_frm]; simp
theorem te_frm (b : Int) (odd : Bool) : te (frm b odd) = 0 := rfl

/-- Some bits of 1 to 9 alone are turned. -/
theorem bits_in (m : Int) : bit (m / 2 % 512 * 2) 0 = false ∧ bit (m / 2 % 512 * 2) 10 = false := by
  unfold bit
  constructor
  · simp
  · simp only [decide_eq_false_iff_not]
    omega
theorem bad_turn (b : Int) (odd : Bool) (m : Int) (h0 : bit m 0 = false) (h1 : bit m 10 = false) : bad (turn (frm b odd) m 11) = false := by
  unfold bad turn
  simp [h0, h1, frm_0, frm_10]
theorem te_turn (b : Int) (odd : Bool) (m : Int) (h0 : bit m 0 = false) (h1 : bit m 10 = false) : te (turn (frm b odd) m 11) = 0 := by
  unfold te; rw [bad_turn b odd m h0 h1]; rfl
theorem tp_turn (b : Int) (odd : Bool) (m : Int) (h0 : bit m 0 = false) (h1 : bit m 10 = false) : tp (turn (frm b odd) m 11) = (odd != par (bit m) 9) := by
  unfold tp; rw [bad_turn b odd m h0 h1, par_turn _ _ 9 (by omega), par_frm]; rfl
theorem turn_turn (F : Nat → Bool) (m : Int) (i : Nat) (h : i < 11) : turn (turn F m 11) m 11 i = F i := by
  unfold turn
  rw [if_pos h, if_pos h]
  cases F i <;> cases bit m i <;> rfl

/-- How many bits below k of m are 1. -/
def ones (m : Int) : Nat → Nat
  | 0 => 0
  | k + 1 => ones m k + if bit m k then 1 else 0
theorem ones_le (m : Int) : ∀ k, ones m k ≤ k
  | 0 => Nat.le_refl _
  | k + 1 => by have := ones_le m k; rw [ones]; split <;> omega
theorem ones_cnt (m : Int) (h0 : bit m 0 = false) : ∀ k, ones m (k + 1) = cnt (bit m) k
  | 0 => by simp [ones, cnt, h0]
  | k + 1 => by rw [ones, ones_cnt m h0 k, cnt]
theorem ones_par (m : Int) (h0 : bit m 0 = false) (h1 : bit m 10 = false) : decide (ones m 11 % 2 = 1) = par (bit m) 9 := by
  rw [← cnt_par, ones_cnt m h0 10, cnt]
  simp [h1]

theorem and_bit_all : ∀ b : Fin 256, ∀ j : Fin 8, (bits BinOp.and .u8 (b.val : Int) (2 ^ j.val) != 0) = decide ((b.val : Int) / 2 ^ j.val % 2 = 1) := by decide +kernel
theorem and_bit (b : Int) (j : Nat) (h0 : 0 ≤ b) (h1 : b ≤ 255) (hj : j < 8) : (bits BinOp.and .u8 b (2 ^ j) != 0) = bit b j := by
  have := and_bit_all ⟨b.toNat, by omega⟩ ⟨j, hj⟩
  simp only at this
  rw [show ((b.toNat : Nat) : Int) = b by omega] at this
  exact this
theorem or_bit_all : ∀ b : Fin 256, ∀ j : Fin 8, b.val < 2 ^ j.val → bits BinOp.or .u8 (b.val : Int) (2 ^ j.val) = ((b.val + 2 ^ j.val : Nat) : Int) := by decide +kernel
theorem or_bit (b j : Nat) (hj : j < 8) (h : b < 2 ^ j) : bits BinOp.or .u8 (b : Int) (2 ^ j) = ((b + 2 ^ j : Nat) : Int) :=
  or_bit_all ⟨b, by have : 2 ^ j ≤ 2 ^ 7 := Nat.pow_le_pow_right (by omega) (by omega)
                    omega⟩ ⟨j, hj⟩ h
theorem and_i64 (x : Int) (c : Nat) (hc : c < 9223372036854775808) : bits BinOp.and .i64 x (c : Int) = (((x % 18446744073709551616).toNat &&& c : Nat) : Int) := by
  have e : (BitVec.ofInt 64 x &&& BitVec.ofInt 64 (c : Int)).toNat = (x % 18446744073709551616).toNat &&& c := by
    rw [BitVec.toNat_and, BitVec.toNat_ofInt, BitVec.toNat_ofInt]
    congr 1
    simp
    omega
  show IntKind.i64.wrap (((BitVec.ofInt 64 x &&& BitVec.ofInt 64 (c : Int)).toNat : Nat) : Int) = _
  rw [e]
  have l : (x % 18446744073709551616).toNat &&& c ≤ c := Nat.and_le_right
  exact IntWalk.i64_in _ (by omega)
theorem and_one (x : Int) : bits BinOp.and .i64 x 1 = x % 2 := by
  have := and_i64 x 1 (by omega)
  rw [Nat.and_one_is_mod] at this
  rw [show (1 : Int) = ((1 : Nat) : Int) from rfl, this]
  omega
theorem test_one (m : Int) (k : Nat) : (bits BinOp.and .i64 (m / 2 ^ k) 1 == 1) = bit m k := by rw [and_one]; rfl
theorem and_1022_all : ∀ r : Fin 1024, r.val &&& 1022 = r.val / 2 * 2 := by decide +kernel
theorem nat_and_1022 (X : Nat) : X &&& 1022 = X % 1024 / 2 * 2 := by
  have h : X &&& 1022 = (X % 1024) &&& 1022 := by
    have := Nat.and_two_pow_sub_one_eq_mod X 10
    rw [show X % 1024 = X % 2 ^ 10 from rfl, ← this, Nat.and_assoc]
    rfl
  rw [h]
  exact and_1022_all ⟨X % 1024, Nat.mod_lt _ (by omega)⟩
theorem and_1022 (x : Int) : bits BinOp.and .i64 x 1022 = x / 2 % 512 * 2 := by
  have := and_i64 x 1022 (by omega)
  rw [nat_and_1022] at this
  rw [show (1022 : Int) = ((1022 : Nat) : Int) from rfl, this]
  omega

end Go.Proofs.Ytnigbihofebfhaa.Ua
