/- The document's Good, has, Free, Least and Same of slaves; at most forty of them. -/
import Derived.Test.YtbbbempdaipmnaaNmMem
import Derived.Test.YtbbbempdaipmnaaFlSmall
import Derived.BigQuiet
namespace Go.Proofs.Ytbbbempdaipmnaa.Nm
open Go.RowKit
open Go.Proofs.Ytbbbempdaipmnaa.Rw (Rd Ow At)
open Go.Proofs.Ytbbbempdaipmnaa.Fl (ret_bool at_bool)

set_option maxHeartbeats 4000000 in
theorem rgood_any (w : World) (v : Value) (l : List S) (R : Rd KV w v l) : Calls Try.prog 6 #[v] w fun e w' => e = .returned (.bool (gdB l)) ∧ Below w.heap.size w w' := by
  have N1 : Hid (∀ k, k < l.length → ¬ okN (sa l k) → false = gdB l) := fun k hk h => (gdB_no fun g => h (g.num hk)).symm
  have N2 : Hid (∀ k j, k < l.length → j < k → bad (sa l k) (sa l j) → false = gdB l) := fun k j hk hj h => (gdB_no fun g => (g.ok k hk).2 j hj h).symm
  have YES : Hid (okP l l.length → decide ((l.length : Int) ≤ 32) = gdB l) := fun h => by
    by_cases e : l.length ≤ 32
    · rw [gdB_yes ⟨e, h⟩]; exact decide_eq_true (by omega)
    · rw [gdB_no fun g => e g.len]; exact decide_eq_false (by omega)
  obtain ⟨a, cap, rfl, _, hm, hA⟩ := R
  have HA := Lib.hid hA
  unfold maxLen at hm
  clear hA
  generalize hn : l.length = n at *
  have HN := Lib.hid hn
  clear hn
  go_enter Try.func6, Try.ntmps6
  go_wp2
  go_loopw [3] (fun i wr => ∃ k : Nat, k ≤ n ∧ i = .int .i64 k ∧ Hid (Below w.heap.size w wr) ∧ Hid (okP l k)) (fun i _ => n - (intOf i).toNat)
  case atStart => exact ⟨0, Nat.zero_le _, rfl, Below.refl _ _, okP_zero l⟩
  case round =>
    obtain ⟨k, hk, rfl, bw, hs⟩ := hrel
    by_cases hlt : k < n
    · obtain ⟨b, off, rfl, A⟩ := HA.out (by omega)
      obtain ⟨c0, c1⟩ := atV (A.below bw.out) (i := k) (by have := HN.out; omega)
      have HAA := Lib.hid A
      clear A
      by_cases h1 : okN (sa l k)
      · obtain ⟨g1, g2⟩ := h1
        have OK1 : Hid (okN (sa l k)) := ⟨g1, g2⟩
        have J0 : Hid (∀ j, j < 0 → ¬ bad (sa l k) (sa l j)) := fun j hj => absurd hj (Nat.not_lt_zero j)
        have N2k := Lib.hid (N2.out k)
        have BAD : Hid (∀ j, bad (sa l k) (sa l j) ↔ ((sa l j).1 = (sa l k).1 ∨ ((sa l j).2 = (sa l k).2 ∧ 0 < (sa l k).2))) := fun j => Iff.rfl
        have NEXT : Hid ((∀ j, j < k → ¬ bad (sa l k) (sa l j)) → okP l (k + 1)) := fun h => okP_next hs.out OK1.out h
        clear N1 N2 OK1 hs
        generalize hx : sa l k = x at *
        have HX := Lib.hid hx
        clear hx
        go_wp2
        go_loopw [4] (fun i wr => ∃ j : Nat, j ≤ k ∧ i = .int .i64 j ∧ Hid (Below w.heap.size w wr) ∧ Hid (∀ i, i < j → ¬ bad x (sa l i))) (fun i _ => k - (intOf i).toNat)
        case atStart => exact ⟨0, Nat.zero_le _, rfl, bw, J0⟩
        case round =>
          clear c0 c1 bw J0
          obtain ⟨j, hj, rfl, bw, hs⟩ := hrel
          by_cases hjt : j < k
          · have hjn : j < n := by omega
            obtain ⟨d0, d1⟩ := atV (HAA.out.below bw.out) (i := j) (by have := HN.out; omega)
            obtain ⟨c0, c1⟩ := atV (HAA.out.below bw.out) (i := k) (by have := HN.out; omega)
            have SL := Lib.hid (fun (h : ¬ bad x (sa l j)) => show ∀ i, i < j + 1 → ¬ bad x (sa l i) from fun i hi => by
              by_cases e : i = j
              · rw [e]; exact h
              · exact hs.out i (by omega))
            have NOj := Lib.hid (N2k.out j hlt hjt)
            have BJ := Lib.hid (BAD.out j)
            clear hs
            rw [HX.out] at c0 c1
            generalize sa l j = y at *
            by_cases p1 : y.1 = x.1
            · have E := Lib.hid (NOj.out (BJ.out.2 (.inl p1)))
              have q1 : decide (y.1 = x.1) = true := decide_eq_true p1
              have q1b : (y.1 == x.1) = true := beq_iff_eq.2 p1
              clear p1
              go_wp2
              go_quiet (fail)
              go_wp2
              go_ret
              exact ⟨ret_bool E.out, below_drewN bw.out _⟩
            · have q1 : decide (y.1 = x.1) = false := decide_eq_false p1
              have q1b : (y.1 == x.1) = false := beq_eq_false_iff_ne.2 p1
              by_cases p2 : y.2 = x.2
              · have q2 : decide (y.2 = x.2) = true := decide_eq_true p2
                have q2b : (y.2 == x.2) = true := beq_iff_eq.2 p2
                by_cases p3 : 0 < x.2
                · have E := Lib.hid (NOj.out (BJ.out.2 (.inr ⟨p2, p3⟩)))
                  have q3 : decide (0 < x.2) = true := decide_eq_true p3
                  clear p1 p2 p3
                  go_wp2
                  go_quiet (fail)
                  go_wp2
                  go_ret
                  exact ⟨ret_bool E.out, below_drewN bw.out _⟩
                · have ST := Lib.hid (SL.out fun h => by rcases BJ.out.1 h with g | g; exact p1 g; exact p3 g.2)
                  have q3 : decide (0 < x.2) = false := decide_eq_false p3
                  clear p1 p2 p3
                  go_wp2
                  go_quiet (fail)
                  go_wp2
                  go_roundw
                  case rel => exact ⟨j + 1, by omega, by go_num, below_drewN bw.out _, ST⟩
                  case measure => simp [intOf]; omega
              · have ST := Lib.hid (SL.out fun h => by rcases BJ.out.1 h with g | g; exact p1 g; exact p2 g.1)
                have q2 : decide (y.2 = x.2) = false := decide_eq_false p2
                have q2b : (y.2 == x.2) = false := beq_eq_false_iff_ne.2 p2
                clear p1 p2
                go_wp2
                go_quiet (fail)
                go_wp2
                go_roundw
                case rel => exact ⟨j + 1, by omega, by go_num, below_drewN bw.out _, ST⟩
                case measure => simp [intOf]; omega
          · obtain rfl : j = k := by omega
            have ST := Lib.hid (NEXT.out hs.out)
            go_wp2
            go_roundw
            case rel => exact ⟨j + 1, by omega, by go_num, bw, ST⟩
            case measure => simp [intOf]; omega
      · have E := Lib.hid (N1.out k hlt h1)
        have h2 : (sa l k).2 < 0 ∨ 254 < (sa l k).2 := by unfold okN at h1; omega
        clear h1 N1 N2 YES hs
        generalize sa l k = x at *
        rcases h2 with h2 | h2
        · go_wp2
          go_ret
          exact ⟨ret_bool E.out, bw.out⟩
        · have h3 : ¬ x.2 < 0 := by omega
          go_wp2
          go_ret
          exact ⟨ret_bool E.out, bw.out⟩
    · obtain rfl : k = n := by omega
      have E := Lib.hid (YES.out hs.out)
      go_wp2
      go_ret
      exact ⟨ret_bool E.out, bw.out⟩

set_option maxHeartbeats 1000000 in
theorem has_any (w : World) (v : Value) (l : List S) (R : Rd KV w v l) (x : Int) : Calls Try.prog 36 #[v, .int .i64 x] w fun e w' => e = .returned (.bool (hs l x)) ∧ Below w.heap.size w w' := by
  have YES : Hid (∀ k, k < l.length → (sa l k).2 = x → true = hs l x) := fun k hk h => (hs_iff.2 ⟨k, hk, h⟩).symm
  have NO : Hid ((∀ k, k < l.length → (sa l k).2 ≠ x) → false = hs l x) := fun h => by
    cases e : hs l x with
    | false => rfl
    | true => obtain ⟨i, hi, g⟩ := hs_iff.1 e; exact absurd g (h i hi)
  obtain ⟨a, cap, rfl, _, hm, hA⟩ := R
  have HA := Lib.hid hA
  unfold maxLen at hm
  clear hA
  generalize hs l x = r at *
  generalize hn : l.length = n at *
  have HN := Lib.hid hn
  clear hn
  go_enter Try.func36, Try.ntmps36
  go_wp2
  go_loopw [5] (fun i wr => ∃ k : Nat, k ≤ n ∧ i = .int .i64 k ∧ Hid (Below w.heap.size w wr) ∧ Hid (∀ j, j < k → (sa l j).2 ≠ x)) (fun i _ => n - (intOf i).toNat)
  case atStart => exact ⟨0, Nat.zero_le _, rfl, Below.refl _ _, fun j hj => absurd hj (Nat.not_lt_zero j)⟩
  case round =>
    obtain ⟨k, hk, rfl, bw, hs⟩ := hrel
    by_cases hlt : k < n
    · obtain ⟨b, off, rfl, A⟩ := HA.out (by omega)
      obtain ⟨c0, c1⟩ := atV (A.below bw.out) (i := k) (by have := HN.out; omega)
      have HAA := Lib.hid A
      clear A
      by_cases h1 : (sa l k).2 = x
      · have E := Lib.hid (YES.out k hlt h1)
        rw [h1] at c1
        clear h1
        go_wp2
        go_ret
        exact ⟨ret_bool E.out, bw.out⟩
      · have ST : Hid (∀ j, j < k + 1 → (sa l j).2 ≠ x) := fun j hj => by
          by_cases e : j = k
          · rw [e]; exact h1
          · exact hs.out j (by omega)
        generalize sa l k = y at *
        go_wp2
        go_roundw
        case rel => exact ⟨k + 1, by omega, by go_num, bw, ST⟩
        case measure => simp [intOf]; omega
    · obtain rfl : k = n := by omega
      have E := Lib.hid (NO.out hs.out)
      go_wp2
      go_ret
      exact ⟨ret_bool E.out, bw.out⟩

/-! ### which is free -/
def frB (l : List S) (most : Int) : Bool := decide (0 < fr l most)
def FreePost (w : World) (l : List S) (most : Int) (e : Ending) (w' : World) : Prop := e = .returned (.tuple #[.int .i64 (fr l most), .bool (frB l most)]) ∧ Below w.heap.size w w'
/-- So far nothing was free. -/
def FrAt (l : List S) (most : Int) (k : Nat) : Prop := 1 ≤ k ∧ fr l most = frF l most k (255 - k)
theorem fr_start (l : List S) (most : Int) : FrAt l most 1 := ⟨Nat.le_refl _, rfl⟩
theorem fr_hit {l : List S} {most : Int} {k : Nat} (h : FrAt l most k) (h1 : k ≤ 254) (h2 : (k : Int) ≤ most) (h3 : hs l k = false) : fr l most = k ∧ frB l most = true := by
  have e : fr l most = k := by
    rw [h.2, show 255 - k = (254 - k) + 1 by omega, frF, if_pos h2, h3, if_neg (by decide)]
  exact ⟨e, decide_eq_true (by have := h.1; omega)⟩
theorem fr_next {l : List S} {most : Int} {k : Nat} (h : FrAt l most k) (h1 : k ≤ 254) (h2 : (k : Int) ≤ most) (h3 : hs l k = true) : FrAt l most (k + 1) := by
  refine ⟨by omega, ?_⟩
  rw [h.2, show 255 - k = (254 - k) + 1 by omega, frF, if_pos h2, h3, if_pos rfl, show 255 - (k + 1) = 254 - k by omega]
theorem fr_end {l : List S} {most : Int} {k : Nat} (h : FrAt l most k) (h1 : k = 255 ∨ most < k) : fr l most = 0 ∧ frB l most = false := by
  have e : fr l most = 0 := by
    rw [h.2]
    rcases h1 with h1 | h1
    · rw [h1]; rfl
    · rcases e : 255 - k with _ | f
      · rfl
      · rw [frF, if_neg (by omega)]
  exact ⟨e, decide_eq_false (by omega)⟩
set_option maxHeartbeats 1000000 in
theorem rfree_any (w : World) (v : Value) (l : List S) (R : Rd KV w v l) (most : Int) : Calls Try.prog 23 #[v, .int .i64 most] w (FreePost w l most) := by
  have HAS := Lib.hid (fun W (h : Below w.heap.size w W) x => has_any W v l (R.below h) x)
  have HIT : Hid (∀ (k : Nat) w', FrAt l most k → k ≤ 254 → (k : Int) ≤ most → hs l k = false → Below w.heap.size w w' → FreePost w l most (.returned (.tuple #[.int .i64 (k : Int), .bool true])) w') := fun k w' h h1 h2 h3 b => by
    obtain ⟨e1, e2⟩ := fr_hit h h1 h2 h3
    exact ⟨by rw [e1, e2], b⟩
  have END : Hid (∀ (k : Nat) w', FrAt l most k → (k = 255 ∨ most < k) → Below w.heap.size w w' → FreePost w l most (.returned (.tuple #[.int .i64 0, .bool false])) w') := fun k w' h h1 b => by
    obtain ⟨e1, e2⟩ := fr_end h h1
    exact ⟨by rw [e1, e2]; rfl, b⟩
  have NX : Hid (∀ k : Nat, FrAt l most k → k ≤ 254 → (k : Int) ≤ most → hs l k = true → FrAt l most (k + 1)) := fun k h h1 h2 h3 => fr_next h h1 h2 h3
  have S0 : Hid (FrAt l most 1) := fr_start l most
  obtain ⟨a, cap, rfl, _⟩ := R.slice
  clear R
  generalize l.length = n at *
  go_enter Try.func23, Try.ntmps23
  go_wp2
  go_loopw [6] (fun i wr => ∃ k : Nat, k ≤ 255 ∧ i = .int .i64 k ∧ Hid (Below w.heap.size w wr) ∧ Hid (FrAt l most k)) (fun i _ => 255 - (intOf i).toNat)
  case atStart => exact ⟨1, by omega, rfl, Below.refl _ _, S0⟩
  case round =>
    obtain ⟨k, hk, rfl, bw, hs_⟩ := hrel
    by_cases h1 : (k : Int) ≤ most
    · by_cases h2 : k ≤ 254
      · have h3 : (k : Int) ≤ 254 := by omega
        have C := Lib.hid (HAS.out wr bw.out k)
        have P1 := Lib.hid (fun w' => HIT.out k w' hs_.out h2 h1)
        have P2 := Lib.hid (NX.out k hs_.out h2 h1)
        clear HAS HIT END NX S0 hs_
        generalize hs l k = q at *
        cases q with
        | false =>
          have P := Lib.hid (fun w' h => P1.out w' rfl h)
          clear P1 P2
          go_wp2_with fail
          refine C.out.mono ?_
          rintro e w1 ⟨rfl, b1⟩
          have B1 := Lib.hid (bw.out.trans (b1.mono bw.out.size))
          clear b1 C
          go_wp2
          go_ret2
          exact P.out _ B1.out
        | true =>
          have P := Lib.hid (P2.out rfl)
          clear P1 P2
          go_wp2_with fail
          refine C.out.mono ?_
          rintro e w1 ⟨rfl, b1⟩
          have B1 := Lib.hid (bw.out.trans (b1.mono bw.out.size))
          clear b1 C
          go_wp2
          go_roundw
          case rel => exact ⟨k + 1, by omega, by go_num, B1, P⟩
          case measure => simp [intOf]; omega
      · have P := Lib.hid (END.out k wr hs_.out (.inl (by omega)) bw.out)
        have h3 : ¬ (k : Int) ≤ 254 := by omega
        clear HAS HIT END NX S0 hs_
        go_wp2
        go_ret2
        exact P.out
    · have P := Lib.hid (END.out k wr hs_.out (.inr (by omega)) bw.out)
      clear HAS HIT END NX S0 hs_
      go_wp2
      go_ret2
      exact P.out

/-! ### who is least -/
theorem ls_next {l : List S} {k : Nat} (h : (sa l k).2 = 0 ∧ (lsK l k < 0 ∨ (sa l k).1 < (sa l (lsK l k).toNat).1)) : lsK l (k + 1) = k := if_pos h
theorem ls_stay {l : List S} {k : Nat} (h : ¬ ((sa l k).2 = 0 ∧ (lsK l k < 0 ∨ (sa l k).1 < (sa l (lsK l k).toNat).1))) : lsK l (k + 1) = lsK l k := if_neg h
theorem lsK_cases (l : List S) (k : Nat) : lsK l k = -1 ∨ ∃ i : Nat, lsK l k = i ∧ i < k := by
  rcases lsK_spec l k with ⟨h, _⟩ | ⟨i, h, hi, _⟩
  · exact .inl h
  · exact .inr ⟨i, h, hi⟩
def lsP (l : List S) : Int := if ls l < 0 then 0 else (sa l (ls l).toNat).1
def RleastPost (w : World) (l : List S) (e : Ending) (w' : World) : Prop := e = .returned (.tuple #[.int .u64 (lsP l), .int .i64 (ls l)]) ∧ Below w.heap.size w w'
set_option maxHeartbeats 4000000 in
theorem rleast_any (w : World) (v : Value) (l : List S) (R : Rd KV w v l) : Calls Try.prog 22 #[v] w (RleastPost w l) := by
  have NX : Hid (∀ k, (sa l k).2 = 0 ∧ (lsK l k < 0 ∨ (sa l k).1 < (sa l (lsK l k).toNat).1) → lsK l (k + 1) = k) := fun k h => ls_next h
  have ST : Hid (∀ k, ¬ ((sa l k).2 = 0 ∧ (lsK l k < 0 ∨ (sa l k).1 < (sa l (lsK l k).toNat).1)) → lsK l (k + 1) = lsK l k) := fun k h => ls_stay h
  have CS : Hid (∀ k, lsK l k = -1 ∨ ∃ i : Nat, lsK l k = i ∧ i < k) := fun k => lsK_cases l k
  have L0 : Hid (lsK l 0 = -1) := rfl
  have END1 : Hid (∀ w', lsK l l.length = -1 → Below w.heap.size w w' → RleastPost w l (.returned (.tuple #[.int .u64 0, .int .i64 (-1)])) w') := fun w' h b => by
    have e : ls l = -1 := h
    refine ⟨?_, b⟩
    unfold lsP
    rw [e]
    rfl
  have END2 : Hid (∀ (i : Nat) w', lsK l l.length = i → Below w.heap.size w w' → RleastPost w l (.returned (.tuple #[.int .u64 (sa l i).1, .int .i64 (i : Int)])) w') := fun i w' h b => by
    have e : ls l = i := h
    refine ⟨?_, b⟩
    unfold lsP
    rw [e, if_neg (by omega), Int.toNat_natCast]
  obtain ⟨a, cap, rfl, _, hm, hA⟩ := R
  have HA := Lib.hid hA
  unfold maxLen at hm
  clear hA
  generalize hn : l.length = n at *
  have HN := Lib.hid hn
  clear hn
  go_enter Try.func22, Try.ntmps22
  go_wp2
  go_loopw [4, 5] (fun at_ i wr => ∃ (k : Nat) (z : Int), k ≤ n ∧ i = .int .i64 k ∧ at_ = .int .i64 z ∧ Hid (Below w.heap.size w wr) ∧ Hid (lsK l k = z)) (fun _ i _ => n - (intOf i).toNat)
  case atStart => exact ⟨0, -1, Nat.zero_le _, rfl, rfl, Below.refl _ _, L0⟩
  case round =>
    obtain ⟨k, z, hk, rfl, rfl, bw, hs⟩ := hrel
    by_cases hlt : k < n
    · obtain ⟨b, off, rfl, A⟩ := HA.out (by omega)
      obtain ⟨c0, c1⟩ := atV (A.below bw.out) (i := k) (by have := HN.out; omega)
      have HAA := Lib.hid A
      have NXk := Lib.hid (NX.out k)
      have STk := Lib.hid (ST.out k)
      rw [hs.out] at NXk STk
      have CSk := CS.out k
      rw [hs.out] at CSk
      clear A NX ST END1 END2 L0 hs
      by_cases p1 : (sa l k).2 = 0
      · rcases CSk with rfl | ⟨i, rfl, hi⟩
        · have ST1 := Lib.hid (NXk.out ⟨p1, .inl (by decide)⟩)
          have q1 : decide ((sa l k).2 = 0) = true := decide_eq_true p1
          have q1b : ((sa l k).2 == 0) = true := beq_iff_eq.2 p1
          clear NXk STk p1
          generalize sa l k = x at *
          go_wp2
          go_quiet (fail)
          go_wp2
          go_roundw
          case rel => exact ⟨k + 1, _, by omega, by go_num, rfl, below_drewN bw.out _, ST1⟩
          case measure => simp [intOf]; omega
        · obtain ⟨d0, d1⟩ := atV (HAA.out.below bw.out) (i := i) (by have := HN.out; omega)
          have q1 : decide ((sa l k).2 = 0) = true := decide_eq_true p1
          have q1b : ((sa l k).2 == 0) = true := beq_iff_eq.2 p1
          have q2 : decide ((i : Int) < 0) = false := decide_eq_false (by omega)
          rw [Int.toNat_natCast] at NXk STk
          by_cases p2 : (sa l k).1 < (sa l i).1
          · have ST1 := Lib.hid (NXk.out ⟨p1, .inr p2⟩)
            have q3 : decide ((sa l k).1 < (sa l i).1) = true := decide_eq_true p2
            clear NXk STk p1 p2
            generalize sa l k = x at *
            generalize sa l i = y at *
            go_wp2
            go_quiet (fail)
            go_wp2
            go_roundw
            case rel => exact ⟨k + 1, _, by omega, by go_num, rfl, below_drewN bw.out _, ST1⟩
            case measure => simp [intOf]; omega
          · have ST1 := Lib.hid (STk.out (by rintro ⟨_, g | g⟩; omega; exact p2 g))
            have q3 : decide ((sa l k).1 < (sa l i).1) = false := decide_eq_false p2
            clear NXk STk p1 p2
            generalize sa l k = x at *
            generalize sa l i = y at *
            go_wp2
            go_quiet (fail)
            go_wp2
            go_roundw
            case rel => exact ⟨k + 1, _, by omega, by go_num, rfl, below_drewN bw.out _, ST1⟩
            case measure => simp [intOf]; omega
      · have ST1 := Lib.hid (STk.out fun g => p1 g.1)
        have q1 : decide ((sa l k).2 = 0) = false := decide_eq_false p1
        have q1b : ((sa l k).2 == 0) = false := beq_eq_false_iff_ne.2 p1
        clear NXk STk p1 CSk
        generalize sa l k = x at *
        go_wp2
        go_quiet (fail)
        go_wp2
        go_roundw
        case rel => exact ⟨k + 1, _, by omega, by go_num, rfl, below_drewN bw.out _, ST1⟩
        case measure => simp [intOf]; omega
    · obtain rfl : k = n := by omega
      have CSk := CS.out k
      rw [hs.out] at CSk
      rcases CSk with rfl | ⟨i, rfl, hi⟩
      · have E := Lib.hid (END1.out wr hs.out bw.out)
        go_wp2
        go_ret2
        exact E.out
      · obtain ⟨b, off, rfl, A⟩ := HA.out (by omega)
        obtain ⟨d0, d1⟩ := atV (A.below bw.out) (i := i) (by have := HN.out; omega)
        have E := Lib.hid (END2.out i wr hs.out bw.out)
        have HAA := Lib.hid A
        have q2 : ¬ ((i : Int) < 0) := by omega
        clear A NX ST END1 END2 L0 hs CS
        generalize sa l i = y at *
        go_wp2
        go_ret2
        exact E.out

/-! ### held against each other -/
def sameB (l l' : List S) : Bool := decide (l = l')
theorem sa_same {l l' : List S} (h : l.length = l'.length) (e : ∀ i, i < l.length → sa l i = sa l' i) : l = l' :=
  List.ext_getElem? fun i => by
    by_cases hi : i < l.length
    · rw [sa_get hi, sa_get (by omega), e i hi]
    · rw [List.getElem?_eq_none (by omega), List.getElem?_eq_none (by omega)]
set_option maxHeartbeats 1000000 in
theorem rsame_any (w : World) (v v' : Value) (l l' : List S) (R : Rd KV w v l) (R' : Rd KV w v' l') : Calls Try.prog 13 #[v, v'] w fun e w' => e = .returned (.bool (sameB l l')) ∧ Below w.heap.size w w' := by
  have HNO : Hid (¬ l = l' → false = sameB l l') := fun h => (decide_eq_false h).symm
  have HYES : Hid (l = l' → true = sameB l l') := fun b => (decide_eq_true b).symm
  have HL : Hid (l.length = l'.length → (∀ i, i < l.length → sa l i = sa l' i) → l = l') := fun a b => sa_same a b
  obtain ⟨a, cap, rfl, _, hm, hA⟩ := R
  obtain ⟨a', cap', rfl, _, hm', hA'⟩ := R'
  have HA := Lib.hid hA
  have HA' := Lib.hid hA'
  unfold maxLen at hm hm'
  clear hA hA'
  have HNE : Hid (l.length ≠ l'.length → ¬ (l = l')) := fun h2 h => h2 (by rw [h])
  generalize hn : l.length = n at *
  generalize hn' : l'.length = n' at *
  have HN := Lib.hid hn
  have HN' := Lib.hid hn'
  clear hn hn'
  by_cases h2 : n = n'
  · subst h2
    go_enter Try.func13, Try.ntmps13
    go_wp2
    go_loopw [5] (fun i wr => ∃ k : Nat, k ≤ n ∧ i = .int .i64 k ∧ Hid (Below w.heap.size w wr) ∧ Hid (∀ i, i < k → sa l i = sa l' i)) (fun i _ => n - (intOf i).toNat)
    case atStart => exact ⟨0, Nat.zero_le _, rfl, Below.refl _ _, fun i hi => absurd hi (Nat.not_lt_zero i)⟩
    case round =>
      obtain ⟨j, hj, rfl, bw, hs⟩ := hrel
      by_cases hlt : j < n
      · obtain ⟨b, off, rfl, A⟩ := HA.out (by omega)
        obtain ⟨b', off', rfl, A'⟩ := HA'.out (by omega)
        obtain ⟨c0, c1⟩ := atV (A.below bw.out) (i := j) (by have := HN.out; omega)
        obtain ⟨d0, d1⟩ := atV (A'.below bw.out) (i := j) (by have := HN'.out; omega)
        have HAA := Lib.hid A
        have HAA' := Lib.hid A'
        clear A A'
        have es := eq_slave (sa l j) (sa l' j)
        by_cases he : sa l j = sa l' j
        · have ST : Hid (∀ i, i < j + 1 → sa l i = sa l' i) := fun i hi => by
            by_cases e : i = j
            · rw [e]; exact he
            · exact hs.out i (by omega)
          rw [decide_eq_true he] at es
          clear he
          generalize sa l j = r at *
          generalize sa l' j = r' at *
          go_wp2
          go_quiet (fail)
          go_wp2
          go_roundw
          case rel => exact ⟨j + 1, by omega, by go_num, below_drewN bw.out _, ST⟩
          case measure => simp [intOf]; omega
        · have E := Lib.hid (HNO.out (fun h => he (by rw [h])))
          rw [decide_eq_false he] at es
          clear he
          generalize sa l j = r at *
          generalize sa l' j = r' at *
          go_wp2
          go_quiet (fail)
          go_wp2
          go_ret
          exact ⟨ret_bool E.out, below_drewN bw.out _⟩
      · obtain rfl : j = n := by omega
        have E := Lib.hid (HYES.out (HL.out (by trivial) (fun i hi => hs.out i hi)))
        go_wp2
        go_ret
        exact ⟨ret_bool E.out, bw.out⟩
  · have E := Lib.hid (HNO.out (HNE.out h2))
    have h3 : ¬ ((n : Int) = n') := by omega
    clear HL HA HA' HYES HNO
    go_enter Try.func13, Try.ntmps13
    go_wp2
    go_ret
    exact ⟨ret_bool E.out, Below.refl _ _⟩

/-! ### at most forty -/
def FewPost (w : World) (l : List S) (e : Ending) (w' : World) : Prop := ∃ u, e = .returned u ∧ Rd KV w' u (l.take 40) ∧ Below w.heap.size w w'
theorem rd_takeV {w : World} {v : Value} {l : List S} {a : Option Addr} {n cap k : Nat} (R : Rd KV w v l) (e : v = .slice a n cap) (hk : k ≤ l.length) (h0 : 0 < k) : Rd KV w (.slice a k cap) (l.take k) := by
  obtain ⟨a', cap', e', ⟨h1, h2⟩, h3, h4⟩ := R
  rw [e] at e'
  injection e' with e1 e2 e3
  subst e1 e3
  have hl : (l.take k).length = k := by rw [List.length_take]; omega
  refine ⟨a, cap, by rw [hl], ⟨by rw [hl]; omega, h2⟩, h3, fun _ => ?_⟩
  obtain ⟨b, off, rfl, hA⟩ := h4 (by omega)
  refine ⟨b, off, rfl, fun i hi j u hu => ?_⟩
  rw [hl] at hi
  refine hA i (by omega) j u ?_
  rw [← hu, List.getD, List.getD, List.getElem?_take, if_pos hi]
end Go.Proofs.Ytbbbempdaipmnaa.Nm
