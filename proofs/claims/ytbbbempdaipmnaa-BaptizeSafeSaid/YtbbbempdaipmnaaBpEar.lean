/- baptize: a master's ear; Search. -/
import Derived.Test.YtbbbempdaipmnaaBpIdx
namespace Go.Proofs.Ytbbbempdaipmnaa.Bp
open Go.RowKit
open Go.Proofs.Ytbbbempdaipmnaa.Rw (Rd Ow At)
open Go.Proofs.Ytbbbempdaipmnaa.Fl (ret_bool at_bool row_cell)
open Go.Proofs.Ytbbbempdaipmnaa.Nm (S zS sa sa_get sa_set mem_sa Gd KV atV Fit ret_i64)

/-- A master's ear lies in block g. -/
def Ear (W : World) (g : Nat) (u : Value) (r : Nat) : Prop := W.heap[g]? = some (.cells #[u, .int .i64 r] 54 (0, 0))
theorem Ear.below {W W' : World} {g r : Nat} {u : Value} (h : Ear W g u r) (b : Below W.heap.size W W') : Ear W' g u r := (b.block g (lt_of_block h)).trans h
theorem Ear.next {W : World} {g r : Nat} {u : Value} (h : Ear W g u r) : Ear (W.setCell ⟨g, 1, none⟩ (.int .i64 ((r : Int) + 1))) g u (r + 1) := by
  have := Rw.heap_setCell_same (j := 1) h (.int .i64 ((r : Int) + 1))
  refine this.trans ?_
  simp
theorem Ear.cells {W : World} {g r : Nat} {u : Value} (h : Ear W g u r) : W.cell? ⟨g, 0, none⟩ = some u ∧ W.cell? ⟨g, 1, none⟩ = some (.int .i64 r) ∧ W.frozen? ⟨g, 1, none⟩ = false := ⟨row_cell h 0, row_cell h 1, by unfold Ear at h; simp [World.frozen?, h]⟩
def HearPost (w : World) (B g : Nat) (u : Value) (r : Nat) (q : Bool) (e : Ending) (w' : World) : Prop := e = .returned (.bool q) ∧ Ear w' g u (r + 1) ∧ Below B w w'
set_option maxHeartbeats 1000000 in
theorem hears_any (w : World) (B g : Nat) (hB : B ≤ g) (u : Value) (L : List Bool) (r : Nat) (E : Ear w g u r) (G : Rd KG w u L) (hr : r ≤ 1000000) (q : Bool) : Calls Try.prog 25 #[.pointer (some ⟨g, 0, none⟩), .bool q] w (HearPost w B g u r (q && !gon L r)) := by
  have C : Hid (∀ n, Calls Try.prog 35 #[u, .int .i64 r] (w.drewN n) fun e w'' => e = .returned (.bool (gon L r)) ∧ ∃ m, w'' = w.drewN m) := Lib.hid (fun n => (missed_any (w.drewN n) u L (G.below (below_drewN (Below.refl _ _) n)) r).mono (by rintro e w' ⟨rfl, rfl⟩; exact ⟨rfl, n, rfl⟩))
  obtain ⟨a, cap, rfl, _⟩ := G.slice
  clear G
  generalize L.length = n at *
  generalize gon L r = y at *
  have EE := Lib.hid E
  obtain ⟨c0, c1, fz⟩ := E.cells
  clear E
  have wr : IntKind.i64.wrap ((r : Int) + 1) = (r : Int) + 1 := IntWalk.i64_in _ (by omega)
  go_enter Try.func25, Try.ntmps25
  go_wp2
  go_quiet ((go_at_call 35; exact C.out _))
  generalize hW : w.drewN _ = W at *
  have EW : Hid (Ear W g (.slice a n cap) r) := Lib.hid (by rw [← hW]; exact EE.out)
  have BW : Hid (Below B w W) := Lib.hid (by rw [← hW]; exact below_drewN (Below.refl _ _) _)
  clear hW c0 c1 fz C EE
  obtain ⟨c0, c1, fz⟩ := EW.out.cells
  have FIN : Hid (∀ z, z = (q && !y) → HearPost w B g (.slice a n cap) r (q && !y) (.returned (.bool z)) (W.setCell ⟨g, 1, none⟩ (.int .i64 ((r : Int) + 1)))) := Lib.hid (fun z h => ⟨by rw [h], EW.out.next, BW.out.setCell hB _⟩)
  clear EW BW
  cases q with
  | false =>
    go_wp2
    go_ret
    exact FIN.out _ rfl
  | true =>
    cases y with
    | false =>
      go_wp2
      go_ret
      exact FIN.out _ rfl
    | true =>
      go_wp2
      go_ret
      exact FIN.out _ rfl

/-- How wide what is left is. -/
theorem sK_wide (l : List S) (L : List Bool) (r : Nat) : ∀ k, k ≤ 64 → (sK l L r k).2 - (sK l L r k).1 = (2 : Int) ^ (64 - k) - 1
  | 0, _ => (by decide : top - 0 = (2 : Int) ^ 64 - 1)
  | k + 1, hk => by
    have h := sK_wide l L r k (by omega)
    have hI := sK_in l L r k
    have hp : (2 : Int) ^ (64 - k) = 2 * (2 : Int) ^ (64 - (k + 1)) := by
      rw [show 64 - k = (64 - (k + 1)) + 1 by omega, Int.pow_succ]
      omega
    have h1 : 0 < (2 : Int) ^ (64 - (k + 1)) := Int.pow_pos (by decide)
    show (nxt l (gon L (r + (k + 1))) (sK l L r k)).2 - (nxt l (gon L (r + (k + 1))) (sK l L r k)).1 = _
    rw [hp] at h
    generalize (2 : Int) ^ (64 - (k + 1)) = P at *
    generalize sK l L r k = s at *
    generalize gon L (r + (k + 1)) = g at *
    have hm : mid s.1 s.2 = (s.1 + s.2) / 2 := rfl
    have ht := hI.ht
    unfold nxt
    split
    · show mid s.1 s.2 - s.1 = P - 1
      omega
    · rw [if_neg (by omega)]
      show s.2 - (mid s.1 s.2 + 1) = P - 1
      omega

set_option maxHeartbeats 1600000 in
theorem search_any (w : World) (v u : Value) (l : List S) (L : List Bool) (R : Rd KV w v l) (G : Rd KG w u L) : Calls Try.prog 11 #[v, u] w (SearchPost w l L 0) := by
  have RR := Lib.hid R
  have GG := Lib.hid G
  have OFF : Hid (∀ w', off l L 0 = true → Below w.heap.size w w' → SearchPost w l L 0 (.returned (.tuple #[.int .u64 0, .int .i64 1, .bool false])) w') := fun w' h b => by
    obtain ⟨e1, e2, e3⟩ := s_off h
    exact ⟨by rw [e1, e2, e3]; rfl, b⟩
  have YES : Hid (∀ w' z, off l L 0 = false → (sK l L 0 64).2 = z → (hd l z && !gon L 65) = true → Below w.heap.size w w' → SearchPost w l L 0 (.returned (.tuple #[.int .u64 z, .int .i64 66, .bool true])) w') := fun w' z h hz h1 b => by
    obtain ⟨e1, e2, e3⟩ := s_yes h (by unfold fd; rw [hz, Nat.zero_add]; exact h1)
    exact ⟨by rw [e1, e2, e3, hz]; rfl, b⟩
  have NO : Hid (∀ w' z, off l L 0 = false → (sK l L 0 64).2 = z → (hd l z && !gon L 65) = false → Below w.heap.size w w' → SearchPost w l L 0 (.returned (.tuple #[.int .u64 0, .int .i64 66, .bool false])) w') := fun w' z h hz h1 b => by
    obtain ⟨e1, e2, e3⟩ := s_no h (by unfold fd; rw [hz, Nat.zero_add]; exact h1)
    exact ⟨by rw [e1, e2, e3]; rfl, b⟩
  have OF : Hid (off l L 0 = !(ans l 18446744073709551615 && !gon L 0)) := Lib.hid (by show (!ans l 18446744073709551615 || gon L 0) = _; cases ans l 18446744073709551615 <;> cases gon L 0 <;> rfl)
  have AN := Lib.hid (fun W (b : Below w.heap.size w W) c => answers_any W v l (R.below b) c)
  have NA := Lib.hid (fun W (b : Below w.heap.size w W) c => nameless_any W v l (R.below b) c)
  have HR := Lib.hid (fun W (b : Below w.heap.size w W) r (E : Ear W w.heap.size u r) hr q => hears_any W w.heap.size w.heap.size (Nat.le_refl _) u L r E (G.below b) hr q)
  have SI := Lib.hid (sK_in l L 0)
  have SW := Lib.hid (sK_wide l L 0)
  have SN : Hid (∀ k, sK l L 0 (k + 1) = nxt l (gon L (k + 1)) (sK l L 0 k)) := fun k => by
    show nxt l (gon L (0 + (k + 1))) _ = _
    rw [Nat.zero_add]
  have S0 : Hid (sK l L 0 0 = (0, 18446744073709551615)) := rfl
  have BB := Lib.hid ((Below.refl w.heap.size w).alloc (Nat.le_refl _) (.cells #[u, .int .i64 0] 54))
  have E0 : Hid (Ear (w.alloc (.cells #[u, .int .i64 0] 54)) w.heap.size u 0) := Lib.hid (heap_alloc_new w (.cells #[u, .int .i64 0] 54))
  obtain ⟨a, cap, rfl, _⟩ := R.slice
  obtain ⟨a', cap', rfl, _⟩ := G.slice
  clear R G
  generalize l.length = n at *
  generalize L.length = n' at *
  go_enter Try.func11, Try.ntmps11
  go_upto_region 2 with fail
  generalize w.alloc (.cells #[.slice a' n' cap', .int .i64 0] 54) = w0 at *
  have CA := Lib.hid (AN.out w0 BB.out 18446744073709551615)
  generalize ans l 18446744073709551615 = z0 at *
  go_wp2_with fail
  refine CA.out.mono ?_
  rintro e w1 ⟨rfl, b1⟩
  have E1 := Lib.hid (E0.out.below b1)
  have B1 := Lib.hid (BB.out.trans (b1.mono BB.out.size))
  have C1 := Lib.hid (HR.out w1 B1.out 0 E1.out (by omega) z0)
  clear b1 CA E0 BB
  generalize gon L 0 = g0 at *
  generalize (z0 && !g0) = q at *
  go_wp2_with fail
  refine C1.out.mono ?_
  rintro e w2 ⟨rfl, e2, b2⟩
  have E2 := Lib.hid e2
  have B2 := Lib.hid (B1.out.trans b2)
  clear e2 b2 C1 E1 B1
  cases q with
  | false =>
    have E := Lib.hid (fun w' => OFF.out w' OF.out)
    obtain ⟨c0, c1, _⟩ := E2.out.cells
    clear OFF YES NO OF AN NA HR SI SW SN S0 E2
    go_wp2
    go_quiet (fail)
    go_wp2
    go_ret3
    exact E.out _ (below_drewN B2.out _)
  | true =>
    clear OFF
    go_wp2
    go_loopw [8, 9, 19] (fun lo hi i wr => ∃ (k : Nat) (s : Int × Int), k ≤ 64 ∧ i = .int .i64 k ∧ lo = .int .u64 s.1 ∧ hi = .int .u64 s.2 ∧ Hid (sK l L 0 k = s) ∧ Hid (Below w.heap.size w wr) ∧ Hid (Ear wr w.heap.size (.slice a' n' cap') (k + 1))) (fun _ _ i _ => 64 - (intOf i).toNat)
    case atStart => exact ⟨0, (0, 18446744073709551615), by omega, rfl, rfl, rfl, S0, B2, E2⟩
    case round =>
      clear B2 S0 E2
      obtain ⟨k, s, hk, rfl, rfl, rfl, hs, bw, ew⟩ := hrel
      have SIk := SI.out k
      rw [hs.out] at SIk
      by_cases hlt : k < 64
      · have SNk := Lib.hid (SN.out k)
        rw [hs.out] at SNk
        have WD := SW.out k (by omega)
        rw [hs.out, show 64 - k = (63 - k) + 1 by omega, Int.pow_succ] at WD
        have hP : 0 < (2 : Int) ^ (63 - k) := Int.pow_pos (by decide)
        generalize (2 : Int) ^ (63 - k) = P at *
        have hm : mid s.1 s.2 = s.1 + (s.2 - s.1) / 2 := by unfold mid; omega
        obtain ⟨i1, i2, i3, i4, i5⟩ := SIk
        unfold top at i2 i4
        have m0 : s.1 + (s.2 - s.1) / 2 < s.2 := by omega
        have wr1 : IntKind.u64.wrap (s.2 - s.1) = s.2 - s.1 := IntWalk.u64_in _ (by omega)
        have wr2 : IntKind.u64.wrap (Int.tdiv (s.2 - s.1) 2) = (s.2 - s.1) / 2 := IntWalk.u64_quo _ _ (by omega)
        have wr3 : IntKind.u64.wrap (s.1 + (s.2 - s.1) / 2) = mid s.1 s.2 := by rw [hm]; exact IntWalk.u64_in _ (by omega)
        have NY : Hid (ans l (mid s.1 s.2) = true → gon L (k + 1) = false → sK l L 0 (k + 1) = (s.1, mid s.1 s.2)) := Lib.hid (fun h g => by rw [SNk.out, g]; exact nxt_yes h)
        have NN : Hid (¬ (ans l (mid s.1 s.2) = true ∧ gon L (k + 1) = false) → sK l L 0 (k + 1) = (mid s.1 s.2 + 1, s.2)) := Lib.hid (fun h => by rw [SNk.out]; exact nxt_no h (by rw [hm]; unfold top; omega))
        have m1 : mid s.1 s.2 ≤ 18446744073709551614 := by omega
        have wr4 : IntKind.u64.wrap (mid s.1 s.2 + 1) = mid s.1 s.2 + 1 := IntWalk.u64_in _ (by omega)
        clear SNk hs SN SI YES NO SW OF hm m0 WD hP i1 i2 i3 i4 i5 NA
        have AK := Lib.hid (AN.out wr bw.out (mid s.1 s.2))
        have HK := Lib.hid (fun W b E q => HR.out W b (k + 1) E (by omega) q)
        clear AN HR
        generalize mid s.1 s.2 = m at *
        generalize gon L (k + 1) = g at *
        generalize ans l m = q at *
        generalize hd' : (s.2 - s.1) / 2 = dd at *
        clear hd'
        go_wp2_with fail
        refine AK.out.mono ?_
        rintro e w3 ⟨rfl, b3⟩
        have E3 := Lib.hid (ew.out.below b3)
        have B3 := Lib.hid (bw.out.trans (b3.mono bw.out.size))
        have C3 := Lib.hid (HK.out w3 B3.out E3.out q)
        clear b3 AK bw ew HK
        have NX : Hid (((q && !g) = true → sK l L 0 (k + 1) = (s.1, m)) ∧ ((q && !g) = false → sK l L 0 (k + 1) = (m + 1, s.2))) := Lib.hid ⟨fun h => by cases q <;> cases g <;> first | exact absurd h (by decide) | exact NY.out rfl rfl, fun h => NN.out (by rintro ⟨rfl, rfl⟩; exact absurd h (by decide))⟩
        clear NY NN
        generalize (q && !g) = z at *
        go_wp2_with fail
        refine C3.out.mono ?_
        rintro e w4 ⟨rfl, e4, b4⟩
        have E4 := Lib.hid e4
        have B4 := Lib.hid (B3.out.trans b4)
        clear e4 b4 C3 E3 B3
        cases z with
        | true =>
          have HN2 := Lib.hid (NX.out.1 rfl)
          clear NX
          go_wp2
          go_roundw
          case rel => exact ⟨k + 1, (s.1, m), by omega, by go_num, rfl, rfl, HN2, B4, E4⟩
          case measure => simp [intOf]; omega
        | false =>
          have HN2 := Lib.hid (NX.out.2 rfl)
          clear NX
          go_wp2
          go_roundw
          case rel => exact ⟨k + 1, (m + 1, s.2), by omega, by go_num, rfl, rfl, HN2, B4, E4⟩
          case measure => simp [intOf]; omega
      · obtain rfl : k = 64 := by omega
        have Y := Lib.hid (fun w' h1 b => YES.out w' s.2 OF.out (congrArg (·.2) hs.out) h1 b)
        have N := Lib.hid (fun w' h1 b => NO.out w' s.2 OF.out (congrArg (·.2) hs.out) h1 b)
        have CN := Lib.hid (NA.out wr bw.out s.2)
        have HK := Lib.hid (fun W b E q => HR.out W b 65 E (by omega) q)
        have AQ := Lib.hid (any_qh l s.2)
        clear YES NO hs SI SW SN AN HR NA OF SIk hlt hk
        generalize s.2 = z at *
        generalize s.1 = lo at *
        generalize ix (qh z) l = y at *
        generalize hd l z = q at *
        generalize gon L 65 = g at *
        cases q with
        | true =>
          have hy := of_decide_eq_true AQ.out
          have HK2 := Lib.hid (fun W b E => HK.out W b E true)
          clear HK AQ
          generalize (true && !g) = x at *
          go_wp2_with fail
          refine CN.out.mono ?_
          rintro e w3 ⟨rfl, b3⟩
          have E3 := Lib.hid (ew.out.below b3)
          have B3 := Lib.hid (bw.out.trans (b3.mono bw.out.size))
          have C3 := Lib.hid (HK2.out w3 B3.out E3.out)
          clear b3 CN bw ew HK2
          go_wp2_with fail
          refine C3.out.mono ?_
          rintro e w4 ⟨rfl, e4, b4⟩
          have B4 := Lib.hid (B3.out.trans b4)
          obtain ⟨c0, c1, _⟩ := Ear.cells e4
          clear e4 b4 C3 E3 B3
          cases x with
          | true =>
            have E := Lib.hid (fun w' => Y.out w' rfl)
            clear Y N
            go_wp2
            go_quiet (fail)
            go_wp2
            go_ret3
            exact E.out _ (below_drewN B4.out _)
          | false =>
            have E := Lib.hid (fun w' => N.out w' rfl)
            clear Y N
            go_wp2
            go_quiet (fail)
            go_wp2
            go_ret3
            exact E.out _ (below_drewN B4.out _)
        | false =>
          have hy := AQ.out
          have hy2 : y < 0 := by have := of_decide_eq_false AQ.out; omega
          have HK2 := Lib.hid (fun W b E => HK.out W b E false)
          clear HK AQ
          generalize (false && !g) = x at *
          go_wp2_with fail
          refine CN.out.mono ?_
          rintro e w3 ⟨rfl, b3⟩
          have E3 := Lib.hid (ew.out.below b3)
          have B3 := Lib.hid (bw.out.trans (b3.mono bw.out.size))
          have C3 := Lib.hid (HK2.out w3 B3.out E3.out)
          clear b3 CN bw ew HK2
          go_wp2_with fail
          refine C3.out.mono ?_
          rintro e w4 ⟨rfl, e4, b4⟩
          have B4 := Lib.hid (B3.out.trans b4)
          obtain ⟨c0, c1, _⟩ := Ear.cells e4
          clear e4 b4 C3 E3 B3
          cases x with
          | true =>
            have E := Lib.hid (fun w' => Y.out w' rfl)
            clear Y N
            go_wp2
            go_quiet (fail)
            go_wp2
            go_ret3
            exact E.out _ (below_drewN B4.out _)
          | false =>
            have E := Lib.hid (fun w' => N.out w' rfl)
            clear Y N
            go_wp2
            go_quiet (fail)
            go_wp2
            go_ret3
            exact E.out _ (below_drewN B4.out _)

end Go.Proofs.Ytbbbempdaipmnaa.Bp
