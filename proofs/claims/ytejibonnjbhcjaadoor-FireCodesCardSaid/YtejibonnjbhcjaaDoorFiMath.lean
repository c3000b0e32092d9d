/- Plain mathematics of layer 6: the codes, the first place of a byte among them, in how many bits two frames part; that a frame is its byte's and its parity's; and that two codes' frames are four bits apart. -/
import Derived.Test.YtejibonnjbhcjaaDoorUaMath
namespace Go.Proofs.YtejibonnjbhcjaaDoor.Fi
open Go.Proofs.YtejibonnjbhcjaaDoor.Ua (bit par val cnt upd put frm turn bad tb tp te par_congr par_put9 val_lt)

/-- The codes of the rounds 0 to 7. -/
def cd (i : Nat) : Int := [85, 51, 15, 102, 90, 60, 105, 150].getD i 0
/-- The first of n places at which something holds, or -1. -/
def first (p : Nat → Bool) (n : Nat) : Int := match (List.range n).find? p with
  | some i => i
  | none => -1
theorem first_hit {p : Nat → Bool} {n i : Nat} (hi : i < n) (hp : p i = true) (hn : ∀ j, j < i → p j = false) : first p n = i := by
  have e : (List.range n).find? p = some i := by
    rw [List.find?_range_eq_some]
    exact ⟨hp, List.mem_range.2 hi, fun j hj => by simp [hn j hj]⟩
  unfold first; rw [e]
theorem first_miss {p : Nat → Bool} {n : Nat} (hn : ∀ j, j < n → p j = false) : first p n = -1 := by
  have e : (List.range n).find? p = none := by
    rw [List.find?_eq_none]
    intro j hj
    simp [hn j (List.mem_range.1 hj)]
  unfold first; rw [e]
theorem first_cases (p : Nat → Bool) : ∀ n : Nat, (∃ i, i < n ∧ p i = true ∧ (∀ j, j < i → p j = false) ∧ first p n = i) ∨ ((∀ j, j < n → p j = false) ∧ first p n = -1)
  | 0 => .inr ⟨fun j hj => by omega, first_miss fun j hj => by omega⟩
  | n + 1 => by
    rcases first_cases p n with ⟨i, hi, hp, hn, _⟩ | ⟨hn, _⟩
    · exact .inl ⟨i, by omega, hp, hn, first_hit (by omega) hp hn⟩
    · cases h : p n with
      | true => exact .inl ⟨n, by omega, h, hn, first_hit (by omega) h hn⟩
      | false =>
        have hn' : ∀ j, j < n + 1 → p j = false := fun j hj => by
          by_cases c : j = n
          · rw [c]; exact h
          · exact hn j (by omega)
        exact .inr ⟨hn', first_miss hn'⟩
def isC (b : Int) (i : Nat) : Bool := decide (cd i = b)
def codeV (n : Int) : Int × Int := if 0 ≤ n ∧ n ≤ 7 then (cd n.toNat, 0) else (0, 1)
def roundV (b : Int) (odd : Bool) : Int × Int := if odd then (if 0 ≤ first (isC b) 8 then (first (isC b) 8, 0) else (0, 7)) else (0, 6)
theorem code_in {n : Int} {i : Nat} (h : n = i) (hi : i < 8) : codeV n = (cd i, 0) := by unfold codeV; rw [if_pos (by omega), h]; rfl
theorem code_out {n : Int} (h : n < 0 ∨ 7 < n) : codeV n = (0, 1) := by unfold codeV; rw [if_neg (by omega)]
theorem round_even (b : Int) : roundV b false = (0, 6) := rfl
theorem round_hit {b : Int} {i : Nat} (hi : i < 8) (hp : cd i = b) (hn : ∀ j, j < i → isC b j = false) : roundV b true = ((i : Int), 0) := by
  have e := first_hit (p := isC b) hi (by simp [isC, hp]) hn
  unfold roundV; rw [if_pos rfl, e, if_pos (by omega)]
theorem round_miss {b : Int} (hn : ∀ j, j < 8 → isC b j = false) : roundV b true = (0, 7) := by
  have e := first_miss hn
  unfold roundV; rw [if_pos rfl, e, if_neg (by omega)]
theorem round_ok {b : Int} {odd : Bool} (h : (roundV b odd).2 = 0) : odd = true ∧ ∃ i : Nat, i < 8 ∧ cd i = b ∧ (roundV b odd).1 = i := by
  cases odd with
  | false => rw [round_even] at h; simp at h
  | true =>
    rcases first_cases (isC b) 8 with ⟨i, hi, hp, hn, _⟩ | ⟨hn, _⟩
    · have hb : cd i = b := by simpa [isC] using hp
      exact ⟨rfl, i, hi, hb, by rw [round_hit hi hb hn]⟩
    · rw [round_miss hn] at h; simp at h
theorem cd_byte (i : Nat) : 0 ≤ cd i ∧ cd i ≤ 255 := by
  by_cases h : i < 8
  · exact (show ∀ i : Fin 8, 0 ≤ cd i.val ∧ cd i.val ≤ 255 by decide) ⟨i, h⟩
  · have e : cd i = 0 := by unfold cd; rw [List.getD, List.getElem?_eq_none (by simp; omega)]; rfl
    omega

/-- In how many of the first k bits two frames part. -/
def dif (F G : Nat → Bool) : Nat → Nat
  | 0 => 0
  | k + 1 => dif F G k + (if F k = G k then 0 else 1)
theorem dif_le (F G : Nat → Bool) : ∀ k, dif F G k ≤ k
  | 0 => Nat.le_refl _
  | k + 1 => by have := dif_le F G k; unfold dif; split <;> omega
theorem dif_same {F G : Nat → Bool} {k : Nat} (h : F k = G k) : dif F G (k + 1) = dif F G k := by rw [dif, if_pos h, Nat.add_zero]
theorem dif_one {F G : Nat → Bool} {k : Nat} (h : F k ≠ G k) : dif F G (k + 1) = dif F G k + 1 := by rw [dif, if_neg h]
theorem dif_congr {F G H : Nat → Bool} : ∀ k, (∀ i, i < k → G i = H i) → dif F G k = dif F H k
  | 0, _ => rfl
  | k + 1, h => by rw [dif, dif, dif_congr k fun i hi => h i (by omega), h k (by omega)]

/-- The bits of a byte put together are what they were. -/
theorem bit_add (x : Int) (j k : Nat) (c : Bool) (h : j < k) : bit (x + (if c then 2 ^ k else 0)) j = bit x j := by
  cases c with
  | false => simp
  | true =>
    obtain ⟨d, rfl⟩ : ∃ d, k = j + (d + 1) := ⟨k - j - 1, by omega⟩
    have p : (0 : Int) < 2 ^ j := Int.pow_pos (by decide)
    have e : (2 : Int) ^ (j + (d + 1)) = 2 ^ j * (2 ^ d * 2) := by rw [Int.pow_add, Int.pow_succ]
    unfold bit
    rw [if_pos rfl, e, Int.add_mul_ediv_left _ _ (by omega)]
    congr 1
    rw [eq_iff_iff]
    generalize (2 : Int) ^ d = y
    omega
theorem bit_top (x k : Nat) (c : Bool) (h : x < 2 ^ k) : bit ((x : Int) + (if c then 2 ^ k else 0)) k = c := by
  have p : (0 : Int) < 2 ^ k := Int.pow_pos (by decide)
  have hx : (x : Int) < 2 ^ k := by exact_mod_cast h
  unfold bit
  cases c with
  | false => simp [Int.ediv_eq_zero_of_lt (show (0 : Int) ≤ x by omega) hx]
  | true =>
    have e : ((x : Int) + 2 ^ k) / 2 ^ k = 1 := by
      rw [Int.add_ediv_of_dvd_right (Int.dvd_refl _), Int.ediv_eq_zero_of_lt (by omega) hx, Int.ediv_self (by omega)]
      rfl
    simp [e]
theorem bit_val (G : Nat → Bool) : ∀ k j, j < k → bit (val G k : Nat) j = G (j + 1)
  | 0, j, h => by omega
  | k + 1, j, h => by
    have e : ((val G (k + 1) : Nat) : Int) = (val G k : Nat) + (if G (k + 1) then 2 ^ k else 0) := by
      show ((val G k + (if G (k + 1) then 2 ^ k else 0) : Nat) : Int) = _
      cases G (k + 1) <;> simp
    rw [e]
    by_cases c : j = k
    · subst c; exact bit_top _ _ _ (val_lt G j)
    · rw [bit_add _ _ _ _ (by omega)]; exact bit_val G k j (by omega)
/-- A frame that may be is that of its byte and its parity. -/
theorem frm_of {G : Nat → Bool} (h : bad G = false) (i : Nat) (hi : i < 11) : frm (tb G) (tp G) i = G i := by
  have h0 : G 0 = false := by unfold bad at h; simp at h; exact h.1
  have h10 : G 10 = true := by unfold bad at h; simp at h; exact h.2
  have eb : tb G = (val G 8 : Nat) := by unfold tb; rw [h]; rfl
  have ep : tp G = par G 9 := by unfold tp; rw [h]; rfl
  have pp : ∀ k, 1 ≤ k → k ≤ 8 → put (tb G) 9 k = G k := fun k k1 k8 => by
    unfold put
    rw [if_pos (by omega), eb, bit_val G 8 (k - 1) (by omega), show k - 1 + 1 = k by omega]
  by_cases c10 : i = 10
  · subst c10; rw [h10]; rfl
  · by_cases c9 : i = 9
    · subst c9
      show (par (put (tb G) 9) 9 != tp G) = G 9
      rw [ep, par_put9, par_congr 8 pp]
      show (par G 8 != (par G 8 != G 9)) = G 9
      cases par G 8 <;> cases G 9 <;> rfl
    · have e : frm (tb G) (tp G) i = put (tb G) 9 i := by unfold frm upd; rw [if_neg c10, if_neg c9]
      rw [e]
      by_cases c0 : i = 0
      · subst c0; rw [h0]; unfold put; rw [if_neg (by omega)]
      · exact pp i (by omega) (by omega)
theorem apart_codes : ∀ n m : Fin 8, (n = m → dif (frm (cd n.val) true) (frm (cd m.val) true) 11 = 0) ∧ (n ≠ m → 3 < dif (frm (cd n.val) true) (frm (cd m.val) true) 11) := by decide +kernel
/-- What opens a round is its code's frame. -/
theorem safe {n : Nat} (hn : n < 8) {G : Nat → Bool} (hb : bad G = false) (ho : (roundV (tb G) (tp G)).2 = 0) :
    ∃ m : Nat, (roundV (tb G) (tp G)).1 = m ∧ (m = n ∧ dif (frm (cd n) true) G 11 = 0 ∨ m ≠ n ∧ 3 < dif (frm (cd n) true) G 11) := by
  obtain ⟨hodd, m, hm, hc, e⟩ := round_ok ho
  refine ⟨m, e, ?_⟩
  have d : dif (frm (cd n) true) G 11 = dif (frm (cd n) true) (frm (cd m) true) 11 := by
    refine dif_congr 11 fun i hi => ?_
    have := frm_of hb i hi
    rw [hodd, ← hc] at this
    exact this.symm
  have a := apart_codes ⟨n, hn⟩ ⟨m, hm⟩
  rw [d]
  by_cases c : m = n
  · exact .inl ⟨c, a.1 (by simp [c])⟩
  · exact .inr ⟨c, a.2 (by simp; omega)⟩

end Go.Proofs.YtejibonnjbhcjaaDoor.Fi
