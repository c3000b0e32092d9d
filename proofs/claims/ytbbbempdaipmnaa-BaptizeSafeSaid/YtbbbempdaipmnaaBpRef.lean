/- The document's Answers, gone, half, Search; at most six hundred rounds. -/
import Derived.Test.YtbbbempdaipmnaaBpMath
import Derived.Test.YtbbbempdaipmnaaNmRef
namespace Go.Proofs.Ytbbbempdaipmnaa.Bp
open Go.RowKit
open Go.Proofs.Ytbbbempdaipmnaa.Rw (Rd Ow At)
open Go.Proofs.Ytbbbempdaipmnaa.Fl (ret_bool at_bool)
open Go.Proofs.Ytbbbempdaipmnaa.Nm (S zS sa sa_get sa_set mem_sa Gd KV atV Fit)

theorem fit_low {l : List S} (F : Fit l) : Low l := fun i hi => by
  have := (F i hi).1
  unfold top
  omega
/-- Rounds: is each lost? -/
def KG : Rw.Kind Bool := ⟨fun b => [.bool b], 1, by decide, fun _ => rfl, fun _ u h => by simp at h; subst h; rfl, false⟩
theorem atG {w : World} {b off : Nat} {L : List Bool} (h : At KG w b off L) {i : Nat} (hi : i < L.length) : w.cell? ⟨b, off + i, none⟩ = some (.bool (gon L i)) := by
  have c := h i hi 0 _ rfl
  simpa [KG, gon] using c

set_option maxHeartbeats 1000000 in
theorem ranswers_any (w : World) (v : Value) (l : List S) (R : Rd KV w v l) (c : Int) : Calls Try.prog 15 #[v, .int .u64 c] w fun e w' => e = .returned (.bool (ans l c)) ∧ Below w.heap.size w w' := by
  have YES : Hid (∀ k, k < l.length → (sa l k).2 = 0 → (sa l k).1 ≤ c → true = ans l c) := fun k hk h0 h => (ans_iff.2 ⟨k, hk, h0, h⟩).symm
  have NO : Hid ((∀ k, k < l.length → ¬ ((sa l k).2 = 0 ∧ (sa l k).1 ≤ c)) → false = ans l c) := fun h => (ans_no.2 fun i hi h0 => Int.not_le.1 fun g => h i hi ⟨h0, g⟩).symm
  obtain ⟨a, cap, rfl, _, hm, hA⟩ := R
  have HA := Lib.hid hA
  unfold maxLen at hm
  clear hA
  generalize ans l c = r at *
  generalize hn : l.length = n at *
  have HN := Lib.hid hn
  clear hn
  go_enter Try.func15, Try.ntmps15
  go_wp2
  go_loopw [5] (fun i wr => ∃ k : Nat, k ≤ n ∧ i = .int .i64 k ∧ Hid (Below w.heap.size w wr) ∧ Hid (∀ j, j < k → ¬ ((sa l j).2 = 0 ∧ (sa l j).1 ≤ c))) (fun i _ => n - (intOf i).toNat)
  case atStart => exact ⟨0, Nat.zero_le _, rfl, Below.refl _ _, fun j hj => absurd hj (Nat.not_lt_zero j)⟩
  case round =>
    obtain ⟨k, hk, rfl, bw, hs⟩ := hrel
    by_cases hlt : k < n
    · obtain ⟨b, off, rfl, A⟩ := HA.out (by omega)
      obtain ⟨c0, c1⟩ := atV (A.below bw.out) (i := k) (by have := HN.out; omega)
      have HAA := Lib.hid A
      have ST : Hid (¬ ((sa l k).2 = 0 ∧ (sa l k).1 ≤ c) → ∀ j, j < k + 1 → ¬ ((sa l j).2 = 0 ∧ (sa l j).1 ≤ c)) := fun h j hj => by
        by_cases e : j = k
        · rw [e]; exact h
        · exact hs.out j (by omega)
      have YESk := Lib.hid (YES.out k hlt)
      clear A hs YES NO
      generalize sa l k = x at *
      by_cases h1 : x.2 = 0
      · have q1 : (x.2 == 0) = true := beq_iff_eq.2 h1
        have q1' : decide (x.2 = 0) = true := decide_eq_true h1
        by_cases h2 : x.1 ≤ c
        · have E := Lib.hid (YESk.out h1 h2)
          clear YESk ST h1
          go_wp2
          go_ret
          exact ⟨ret_bool E.out, bw.out⟩
        · have HS := Lib.hid (ST.out fun g => h2 g.2)
          clear YESk ST h1
          go_wp2
          go_roundw
          case rel => exact ⟨k + 1, by omega, by go_num, bw, HS⟩
          case measure => simp [intOf]; omega
      · have HS := Lib.hid (ST.out fun g => h1 g.1)
        clear YESk ST
        go_wp2
        go_roundw
        case rel => exact ⟨k + 1, by omega, by go_num, bw, HS⟩
        case measure => simp [intOf]; omega
    · obtain rfl : k = n := by omega
      have E := Lib.hid (NO.out hs.out)
      go_wp2
      go_ret
      exact ⟨ret_bool E.out, bw.out⟩

theorem rgone_any (w : World) (v : Value) (L : List Bool) (R : Rd KG w v L) (i : Nat) : Calls Try.prog 24 #[v, .int .i64 i] w fun e w' => e = .returned (.bool (gon L i)) ∧ Below w.heap.size w w' := by
  obtain ⟨a, cap, rfl, _, hm, hA⟩ := R
  have HA := Lib.hid hA
  unfold maxLen at hm
  have OFF : Hid (L.length ≤ i → false = gon L i) := fun h => (gon_off h).symm
  clear hA
  generalize hn : L.length = n at *
  have HN := Lib.hid hn
  clear hn
  by_cases h : i < n
  · obtain ⟨b, off, rfl, A⟩ := HA.out (by omega)
    have c0 := atG A (i := i) (by rw [HN.out]; exact h)
    have HAA := Lib.hid A
    clear A OFF
    generalize gon L i = g at *
    go_enter Try.func24, Try.ntmps24
    go_wp2
    go_ret
    exact ⟨ret_bool (by simp), Below.refl _ _⟩
  · have E := Lib.hid (OFF.out (by omega))
    clear OFF HA
    go_enter Try.func24, Try.ntmps24
    go_wp2
    go_ret
    exact ⟨ret_bool E.out, Below.refl _ _⟩

theorem rhalf_any (w : World) (a b : Int) (ha : 0 ≤ a ∧ a ≤ top) (hb : 0 ≤ b ∧ b ≤ top) : Calls Try.prog 27 #[.int .u64 a, .int .u64 b] w fun e w' => e = .returned (.int .u64 (mid a b)) ∧ Below w.heap.size w w' := by
  unfold top at ha hb
  by_cases h : b < a
  · have e : mid a b = b + (a - b) / 2 := by unfold mid; omega
    have w1 : IntKind.u64.wrap (a - b) = a - b := IntWalk.u64_in _ (by omega)
    have w2 : IntKind.u64.wrap (Int.tdiv (a - b) 2) = (a - b) / 2 := IntWalk.u64_quo _ _ (by omega)
    have w3 : IntKind.u64.wrap (b + (a - b) / 2) = b + (a - b) / 2 := IntWalk.u64_in _ (by omega)
    have E := Lib.hid e
    clear e
    go_enter Try.func27, Try.ntmps27
    go_wp2
    go_ret
    exact ⟨congrArg (fun z => Ending.returned (.int .u64 z)) E.out.symm, Below.refl _ _⟩
  · have e : mid a b = a + (b - a) / 2 := by unfold mid; omega
    have w1 : IntKind.u64.wrap (b - a) = b - a := IntWalk.u64_in _ (by omega)
    have w2 : IntKind.u64.wrap (Int.tdiv (b - a) 2) = (b - a) / 2 := IntWalk.u64_quo _ _ (by omega)
    have w3 : IntKind.u64.wrap (a + (b - a) / 2) = a + (b - a) / 2 := IntWalk.u64_in _ (by omega)
    have E := Lib.hid e
    clear e
    go_enter Try.func27, Try.ntmps27
    go_wp2
    go_ret
    exact ⟨congrArg (fun z => Ending.returned (.int .u64 z)) E.out.symm, Below.refl _ _⟩

/-! ### Search -/
def SearchPost (w : World) (l : List S) (L : List Bool) (r : Nat) (e : Ending) (w' : World) : Prop := e = .returned (.tuple #[.int .u64 (sP l L r), .int .i64 (sN l L r), .bool (sB l L r)]) ∧ Below w.heap.size w w'
set_option maxHeartbeats 40000000 in
theorem rsearch_any (w : World) (v u : Value) (l : List S) (L : List Bool) (r : Nat) (R : Rd KV w v l) (G : Rd KG w u L) (hr : r ≤ 1000000) : Calls Try.prog 12 #[v, u, .int .i64 r] w (SearchPost w l L r) := by
  have RR := Lib.hid R
  have GG := Lib.hid G
  have OFF : Hid (∀ w', off l L r = true → Below w.heap.size w w' → SearchPost w l L r (.returned (.tuple #[.int .u64 0, .int .i64 1, .bool false])) w') := fun w' h b => by
    obtain ⟨e1, e2, e3⟩ := s_off h
    exact ⟨by rw [e1, e2, e3]; rfl, b⟩
  have YES : Hid (∀ w' z, off l L r = false → (sK l L r 64).2 = z → hd l z = true → gon L (r + 65) = false → Below w.heap.size w w' → SearchPost w l L r (.returned (.tuple #[.int .u64 z, .int .i64 66, .bool true])) w') := fun w' z h hz h1 h2 b => by
    obtain ⟨e1, e2, e3⟩ := s_yes h (by unfold fd; rw [hz, h1, h2]; rfl)
    exact ⟨by rw [e1, e2, e3, hz]; rfl, b⟩
  have NO : Hid (∀ w' z, off l L r = false → (sK l L r 64).2 = z → (hd l z = false ∨ gon L (r + 65) = true) → Below w.heap.size w w' → SearchPost w l L r (.returned (.tuple #[.int .u64 0, .int .i64 66, .bool false])) w') := fun w' z h hz h1 b => by
    obtain ⟨e1, e2, e3⟩ := s_no h (by unfold fd; rw [hz]; rcases h1 with h1 | h1 <;> rw [h1] <;> simp)
    exact ⟨by rw [e1, e2, e3]; rfl, b⟩
  have OF : Hid (off l L r = (!ans l top || gon L r)) := rfl
  have AN := Lib.hid (fun W (b : Below w.heap.size w W) c => ranswers_any W v l (R.below b) c)
  have GN := Lib.hid (fun W (b : Below w.heap.size w W) i => rgone_any W u L (G.below b) i)
  have HF := Lib.hid (fun W a b ha hb => rhalf_any W a b ha hb)
  have SI := Lib.hid (sK_in l L r)
  have SN : Hid (∀ k, sK l L r (k + 1) = nxt l (gon L (r + (k + 1))) (sK l L r k)) := fun k => rfl
  have S0 : Hid (sK l L r 0 = (0, 18446744073709551615)) := rfl
  obtain ⟨a, cap, rfl, _, hm, hA⟩ := R
  obtain ⟨a', cap', rfl, _⟩ := G.slice
  have HA := Lib.hid hA
  unfold maxLen at hm
  clear hA G
  generalize hn : l.length = n at *
  have HN := Lib.hid hn
  clear hn
  have CA := Lib.hid (AN.out w (Below.refl _ _) 18446744073709551615)
  rcases h0 : ans l 18446744073709551615 with _ | _
  · have HO : Hid (off l L r = true) := Lib.hid (by rw [OF.out, show ans l top = false from h0]; rfl)
    rw [h0] at CA
    clear h0
    go_enter Try.func12, Try.ntmps12
    go_wp2_with fail
    refine CA.out.mono ?_
    rintro e w1 ⟨rfl, b1⟩
    have E := Lib.hid (OFF.out w1 HO.out b1)
    clear b1 CA OFF YES NO AN GN HF SI SN S0 HA OF
    go_wp2
    go_ret3
    exact E.out
  · rw [h0] at CA
    have CG := Lib.hid (fun W b => GN.out W b r)
    rcases g0 : gon L r with _ | _
    · rw [g0] at CG
      have HO : Hid (off l L r = false) := Lib.hid (by rw [OF.out, show ans l top = true from h0, g0]; rfl)
      clear h0 g0 OFF OF
      go_enter Try.func12, Try.ntmps12
      go_wp2_with fail
      refine CA.out.mono ?_
      rintro e w1 ⟨rfl, b1⟩
      have B1 := Lib.hid b1
      have C1 := Lib.hid (CG.out w1 b1)
      clear b1 CA CG
      go_wp2_with fail
      refine C1.out.mono ?_
      rintro e w2 ⟨rfl, b2⟩
      have B2 := Lib.hid (B1.out.trans (b2.mono B1.out.size))
      clear b2 C1 B1
      go_wp2
      go_loopw [10, 11, 12] (fun lo hi i wr => ∃ (k : Nat) (s : Int × Int), k ≤ 64 ∧ i = .int .i64 ((k : Int) + 1) ∧ lo = .int .u64 s.1 ∧ hi = .int .u64 s.2 ∧ Hid (sK l L r k = s) ∧ Hid (Below w.heap.size w wr)) (fun _ _ i _ => 65 - (intOf i).toNat)
      case atStart => exact ⟨0, (0, 18446744073709551615), by omega, rfl, rfl, rfl, S0, B2⟩
      case round =>
        clear B2 S0
        obtain ⟨k, s, hk, rfl, rfl, rfl, hs, bw⟩ := hrel
        have SIk := SI.out k
        rw [hs.out] at SIk
        by_cases hlt : k < 64
        · have h64 : (k : Int) + 1 ≤ 64 := by omega
          have IN := Lib.hid SIk
          have SNk := Lib.hid (SN.out k)
          rw [hs.out] at SNk
          have CH := Lib.hid (HF.out wr s.1 s.2 ⟨SIk.lo, SIk.lt⟩ ⟨SIk.hi, SIk.ht⟩)
          have MD := Lib.hid SIk.mid
          have CB := Lib.hid (fun W (b : Below w.heap.size w W) => GN.out W b (r + (k + 1)))
          rw [show ((r + (k + 1) : Nat) : Int) = (r : Int) + ((k : Int) + 1) by omega] at CB
          have wk : IntKind.i64.wrap ((r : Int) + ((k : Int) + 1)) = (r : Int) + ((k : Int) + 1) := IntWalk.i64_in _ (by omega)
          have NY : Hid (ans l (mid s.1 s.2) = true → gon L (r + (k + 1)) = false → sK l L r (k + 1) = (s.1, mid s.1 s.2)) := Lib.hid (fun h g => by rw [SNk.out, g]; exact nxt_yes h)
          have NN : Hid (¬ (ans l (mid s.1 s.2) = true ∧ gon L (r + (k + 1)) = false) → mid s.1 s.2 ≠ 18446744073709551615 → sK l L r (k + 1) = (mid s.1 s.2 + 1, s.2)) := Lib.hid (fun h g => by rw [SNk.out]; exact nxt_no h g)
          have NT : Hid (¬ (ans l (mid s.1 s.2) = true ∧ gon L (r + (k + 1)) = false) → mid s.1 s.2 = 18446744073709551615 → sK l L r (k + 1) = s) := Lib.hid (fun h g => by rw [SNk.out]; exact nxt_top h g)
          clear SIk SNk hs SN SI YES NO HF IN
          have AK := Lib.hid (fun W b => AN.out W b (mid s.1 s.2))
          obtain ⟨m1, m2, _, _⟩ := MD.out
          unfold top at m2
          clear MD
          generalize mid s.1 s.2 = m at *
          generalize gon L (r + (k + 1)) = g at *
          generalize ans l m = q at *
          go_wp2_with fail
          refine CH.out.mono ?_
          rintro e w3 ⟨rfl, b3⟩
          have B3 := Lib.hid (bw.out.trans (b3.mono bw.out.size))
          have C3 := Lib.hid (AK.out w3 B3.out)
          clear b3 CH bw AK
          cases q with
          | true =>
            cases g with
            | false =>
              have HN2 := Lib.hid (NY.out rfl rfl)
              clear NY NN NT
              go_wp2_with fail
              refine C3.out.mono ?_
              rintro e w4 ⟨rfl, b4⟩
              have B4 := Lib.hid (B3.out.trans (b4.mono B3.out.size))
              have C4 := Lib.hid (CB.out w4 B4.out)
              clear b4 C3 B3 CB
              go_wp2_with fail
              refine C4.out.mono ?_
              rintro e w5 ⟨rfl, b5⟩
              have B5 := Lib.hid (B4.out.trans (b5.mono B4.out.size))
              clear b5 C4 B4
              go_wp2
              go_roundw
              case rel => exact ⟨k + 1, (s.1, m), by omega, by go_num, rfl, rfl, HN2, B5⟩
              case measure => simp [intOf]; omega
            | true =>
              by_cases hm : m = 18446744073709551615
              · have HN2 := Lib.hid (NT.out (fun g => by cases g.2) hm)
                clear NY NN NT
                have hm1 : (m != 18446744073709551615) = false := by rw [hm]; rfl
                clear hm
                go_wp2_with fail
                refine C3.out.mono ?_
                rintro e w4 ⟨rfl, b4⟩
                have B4 := Lib.hid (B3.out.trans (b4.mono B3.out.size))
                have C4 := Lib.hid (CB.out w4 B4.out)
                clear b4 C3 B3 CB
                go_wp2_with fail
                refine C4.out.mono ?_
                rintro e w5 ⟨rfl, b5⟩
                have B5 := Lib.hid (B4.out.trans (b5.mono B4.out.size))
                clear b5 C4 B4
                go_wp2
                go_roundw
                case rel => exact ⟨k + 1, s, by omega, by go_num, rfl, rfl, HN2, B5⟩
                case measure => simp [intOf]; omega
              · have HN2 := Lib.hid (NN.out (fun g => by cases g.2) hm)
                have wm : IntKind.u64.wrap (m + 1) = m + 1 := IntWalk.u64_in _ (by omega)
                have hm1 : (m != 18446744073709551615) = true := bne_iff_ne.2 hm
                clear hm
                clear NY NN NT
                go_wp2_with fail
                refine C3.out.mono ?_
                rintro e w4 ⟨rfl, b4⟩
                have B4 := Lib.hid (B3.out.trans (b4.mono B3.out.size))
                have C4 := Lib.hid (CB.out w4 B4.out)
                clear b4 C3 B3 CB
                go_wp2_with fail
                refine C4.out.mono ?_
                rintro e w5 ⟨rfl, b5⟩
                have B5 := Lib.hid (B4.out.trans (b5.mono B4.out.size))
                clear b5 C4 B4
                go_wp2
                go_roundw
                case rel => exact ⟨k + 1, (m + 1, s.2), by omega, by go_num, rfl, rfl, HN2, B5⟩
                case measure => simp [intOf]; omega
          | false =>
            clear CB
            by_cases hm : m = 18446744073709551615
            · have HN2 := Lib.hid (NT.out (fun g => by cases g.1) hm)
              clear NY NN NT
              have hm1 : (m != 18446744073709551615) = false := by rw [hm]; rfl
              clear hm
              go_wp2_with fail
              refine C3.out.mono ?_
              rintro e w4 ⟨rfl, b4⟩
              have B4 := Lib.hid (B3.out.trans (b4.mono B3.out.size))
              clear b4 C3 B3
              go_wp2
              go_roundw
              case rel => exact ⟨k + 1, s, by omega, by go_num, rfl, rfl, HN2, B4⟩
              case measure => simp [intOf]; omega
            · have HN2 := Lib.hid (NN.out (fun g => by cases g.1) hm)
              have wm : IntKind.u64.wrap (m + 1) = m + 1 := IntWalk.u64_in _ (by omega)
              have hm1 : (m != 18446744073709551615) = true := bne_iff_ne.2 hm
              clear hm
              clear NY NN NT
              go_wp2_with fail
              refine C3.out.mono ?_
              rintro e w4 ⟨rfl, b4⟩
              have B4 := Lib.hid (B3.out.trans (b4.mono B3.out.size))
              clear b4 C3 B3
              go_wp2
              go_roundw
              case rel => exact ⟨k + 1, (m + 1, s.2), by omega, by go_num, rfl, rfl, HN2, B4⟩
              case measure => simp [intOf]; omega
        · have hs64 := Lib.hid (show sK l L r 64 = s by rw [← hs.out, show k = 64 by omega])
          have hk65 : ¬ ((k : Int) + 1 ≤ 64) := by omega
          clear SIk SN SI AN HF hs
          have CB := Lib.hid (fun W (b : Below w.heap.size w W) => GN.out W b (r + 65))
          rw [show ((r + 65 : Nat) : Int) = (r : Int) + 65 by omega] at CB
          have wk : IntKind.i64.wrap ((r : Int) + 65) = (r : Int) + 65 := IntWalk.i64_in _ (by omega)
          have Y := Lib.hid (fun w' h1 h2 b => YES.out w' s.2 HO.out (congrArg (·.2) hs64.out) h1 h2 b)
          have N := Lib.hid (fun w' h1 b => NO.out w' s.2 HO.out (congrArg (·.2) hs64.out) h1 b)
          clear YES NO hs64 GN HO hlt hk
          generalize s.2 = z at *
          generalize s.1 = lo at *
          have HIT : Hid (∀ j, j < n → (sa l j).2 = 0 → (sa l j).1 = z → hd l z = true) := Lib.hid (fun j hj h1 h2 => hd_iff.2 ⟨j, by rw [HN.out]; exact hj, h1, h2⟩)
          have MISS : Hid ((∀ j, j < n → ¬ ((sa l j).2 = 0 ∧ (sa l j).1 = z)) → hd l z = false) := Lib.hid (fun h => hd_no.2 fun i hi => h i (by rw [← HN.out]; exact hi))
          generalize hd l z = hz at *
          generalize gon L (r + 65) = g at *
          go_wp2
          generalize ((k : Int) + 1) = i12 at *
          go_loopw [14] (fun i wr => ∃ j : Nat, j ≤ n ∧ i = .int .i64 j ∧ Hid (Below w.heap.size w wr) ∧ Hid (g = true ∨ ∀ i, i < j → ¬ ((sa l i).2 = 0 ∧ (sa l i).1 = z))) (fun i _ => n - (intOf i).toNat)
          case atStart => exact ⟨0, Nat.zero_le _, rfl, bw, Lib.hid (.inr fun i hi => absurd hi (Nat.not_lt_zero i))⟩
          case round =>
            clear bw
            obtain ⟨j, hj, rfl, bw, hs⟩ := hrel
            by_cases hjt : j < n
            · obtain ⟨b, off, rfl, A⟩ := HA.out (by omega)
              obtain ⟨c0, c1⟩ := atV (A.below bw.out) (i := j) (by have := HN.out; omega)
              have HAA := Lib.hid A
              have HITj := Lib.hid (HIT.out j hjt)
              have ST : Hid (¬ ((sa l j).2 = 0 ∧ (sa l j).1 = z) → g = true ∨ ∀ i, i < j + 1 → ¬ ((sa l i).2 = 0 ∧ (sa l i).1 = z)) := Lib.hid (fun h => hs.out.imp id fun q i hi => by
                by_cases e : i = j
                · rw [e]; exact h
                · exact q i (by omega))
              clear A hs HIT MISS
              generalize sa l j = x at *
              by_cases h1 : x.2 = 0
              · have q1 : (x.2 == 0) = true := beq_iff_eq.2 h1
                have q1' : decide (x.2 = 0) = true := decide_eq_true h1
                by_cases h2 : x.1 = z
                · have HZ := Lib.hid (HITj.out h1 h2)
                  have C1 := Lib.hid (CB.out wr bw.out)
                  have q2 : (x.1 == z) = true := beq_iff_eq.2 h2
                  have q2' : decide (x.1 = z) = true := decide_eq_true h2
                  clear h1 h2 HITj ST CB
                  cases g with
                  | false =>
                    have Y2 := Lib.hid (fun w' b => Y.out w' HZ.out rfl b)
                    clear Y N HZ
                    go_wp2_with fail
                    refine C1.out.mono ?_
                    rintro e w4 ⟨rfl, b4⟩
                    have E := Lib.hid (Y2.out w4 (bw.out.trans (b4.mono bw.out.size)))
                    clear b4 C1 bw Y2
                    go_wp2
                    go_ret3
                    exact E.out
                  | true =>
                    clear Y N HZ
                    go_wp2_with fail
                    refine C1.out.mono ?_
                    rintro e w4 ⟨rfl, b4⟩
                    have B4 := Lib.hid (bw.out.trans (b4.mono bw.out.size))
                    clear b4 C1 bw
                    go_wp2
                    go_roundw
                    case rel => exact ⟨j + 1, by omega, by go_num, B4, Lib.hid (.inl (by trivial))⟩
                    case measure => simp [intOf]; omega
                · have HS := Lib.hid (ST.out fun q => h2 q.2)
                  have q2 : (x.1 == z) = false := beq_eq_false_iff_ne.2 h2
                  have q2' : decide (x.1 = z) = false := decide_eq_false h2
                  clear ST HITj h1
                  go_wp2
                  go_roundw
                  case rel => exact ⟨j + 1, by omega, by go_num, bw, HS⟩
                  case measure => simp [intOf]; omega
              · have HS := Lib.hid (ST.out fun q => h1 q.1)
                clear ST HITj
                go_wp2
                go_roundw
                case rel => exact ⟨j + 1, by omega, by go_num, bw, HS⟩
                case measure => simp [intOf]; omega
            · obtain rfl : j = n := by omega
              have E := Lib.hid (N.out wr (hs.out.symm.imp MISS.out id) bw.out)
              clear Y N HIT MISS hs CB
              go_wp2
              go_ret3
              exact E.out
    · rw [g0] at CG
      have HO : Hid (off l L r = true) := Lib.hid (by rw [OF.out, show ans l top = true from h0, g0]; rfl)
      clear h0 g0
      go_enter Try.func12, Try.ntmps12
      go_wp2_with fail
      refine CA.out.mono ?_
      rintro e w1 ⟨rfl, b1⟩
      have B1 := Lib.hid b1
      have C1 := Lib.hid (CG.out w1 b1)
      clear b1 CA CG
      go_wp2_with fail
      refine C1.out.mono ?_
      rintro e w2 ⟨rfl, b2⟩
      have E := Lib.hid (OFF.out w2 HO.out (B1.out.trans (b2.mono B1.out.size)))
      clear b2 C1 B1 OFF YES NO AN GN HF SI SN S0 HA OF
      go_wp2
      go_ret3
      exact E.out

end Go.Proofs.Ytbbbempdaipmnaa.Bp
