/- name.Good, Free, nameless, Least; slices.Clone of slaves; name.Assign. -/
import Derived.Test.YtbbbempdaipmnaaNmMap
import Derived.Lib.BufferMore
import Derived.Deep.LoopGhost
namespace Go.Proofs.Ytbbbempdaipmnaa.Nm
open Go.RowKit
open Go.Proofs.Ytbbbempdaipmnaa.Rw (Rd Ow At)
open Go.Proofs.Ytbbbempdaipmnaa.Fl (ret_bool at_bool row_cell)
attribute [local irreducible] Sd.wpSd wpQuiet Sz.wpSz

theorem ret_i64 {a b : Int} (h : a = b) : Ending.returned (.int .i64 a) = .returned (.int .i64 b) := by rw [h]
theorem Fit.u {l : List S} (h : Fit l) {i : Nat} (hi : i < l.length) : Wq .u64 (sa l i).1 := WalkArith.wf_u64 (by have := h i hi; omega)
theorem Fit.i {l : List S} (h : Fit l) {i : Nat} (hi : i < l.length) : Wq .i64 (sa l i).2 := WalkArith.wf_i64 (by have := h i hi; omega)

set_option maxHeartbeats 4000000 in
theorem good_any (w : World) (v : Value) (l : List S) (R : Rd KV w v l) (F : Fit l) : Calls Try.prog 16 #[v] w fun e w' => e = .returned (.bool (gdB l)) ∧ Below w.heap.size w w' := by
  have eg1 : ∀ args w, (callFunc 31 args).run Try.prog w = .ok (.enter 31 args) w := enters_of Try.func31 (by kernel_rfl) rfl
  have eg2 : ∀ args w, (callFunc 33 args).run Try.prog w = .ok (.enter 33 args) w := enters_of Try.func33 (by kernel_rfl) rfl
  have C1 := Lib.hid (ownerU_any w v l _ (·.1) eg1 R (phys_any w) fun i hi => F.u hi)
  have C2 := Lib.hid (fun W (b : Below w.heap.size w W) => ownerI_any W v l _ (·.2) eg2 (R.below b) (short_any W) fun i hi => F.i hi)
  have LEN : Hid (¬ l.length ≤ 32 → false = gdB l) := fun h => (gdB_no fun g => h g.len).symm
  have NO : Hid (∀ k, k < l.length → ¬ okL l k → false = gdB l) := fun k hk h => (gdB_no fun g => h (gd_each g hk)).symm
  have YES : Hid (l.length ≤ 32 → (∀ i, i < l.length → okL l i) → true = gdB l) := fun h0 h => (gdB_yes (gd_yes h0 h)).symm
  have OK : Hid (∀ k, okL l k ↔ ((0 ≤ (sa l k).2 ∧ (sa l k).2 ≤ 254) ∧ (ltK (·.1) l l.length (sa l k).1).getD (-1) = k ∧ ((sa l k).2 = 0 ∨ (ltK (·.2) l l.length (sa l k).2).getD (-1) = k))) := fun k => Iff.rfl
  have WU : Hid (∀ k, k < l.length → Wq .u64 (sa l k).1) := fun k hk => F.u hk
  have WI : Hid (∀ k, k < l.length → Wq .i64 (sa l k).2) := fun k hk => F.i hk
  obtain ⟨a, cap, rfl, _, hm, hA⟩ := R
  have HA := Lib.hid hA
  unfold maxLen at hm
  clear hA F eg1 eg2
  generalize hu : ltK (fun x => x.1) l l.length = hU at *
  generalize hi : ltK (fun x => x.2) l l.length = hI at *
  clear hu hi
  generalize hn : l.length = n at *
  have HN := Lib.hid hn
  clear hn
  by_cases h32 : n ≤ 32
  · clear LEN
    have h32' : ¬ (32 : Int) < n := by omega
    go_enter Try.func16, Try.ntmps16
    go_wp2_with fail
    refine C1.out.mono ?_
    rintro e w1 ⟨p1, rfl, wh1, b1⟩
    have WH1 := Lib.hid wh1
    have B1 := Lib.hid b1
    have C3 := Lib.hid (C2.out w1 b1)
    clear C1 C2 b1 wh1
    go_wp2_with fail
    refine C3.out.mono ?_
    rintro e w2 ⟨p2, rfl, wh2, b2⟩
    have B2 := Lib.hid (B1.out.trans (b2.mono B1.out.size))
    have WU2 := Lib.hid (WH1.out.below b2)
    have WI2 := Lib.hid wh2
    clear C3 b2 wh2 WH1 B1
    go_wp2
    go_loopw [16] (fun i wr => ∃ k : Nat, k ≤ n ∧ i = .int .i64 k ∧ Hid (Below w.heap.size w wr) ∧ Hid (Wh .u64 24 wr p1 hU) ∧ Hid (Wh .i64 3 wr p2 hI) ∧ Hid (∀ i, i < k → okL l i)) (fun i _ => n - (intOf i).toNat)
    case atStart => exact ⟨0, Nat.zero_le _, rfl, B2, WU2, WI2, fun i hi => absurd hi (Nat.not_lt_zero i)⟩
    case round =>
      clear B2 WU2 WI2
      obtain ⟨k, hk, rfl, bw, wu, wi, hs⟩ := hrel
      by_cases hlt : k < n
      · obtain ⟨b, off, rfl, A⟩ := HA.out (by omega)
        obtain ⟨c0, c1⟩ := atV (A.below bw.out) (i := k) (by have := HN.out; omega)
        have HAA := Lib.hid A
        have NOk := Lib.hid (NO.out k hlt)
        have OKk := Lib.hid (OK.out k)
        have WUk := Lib.hid (WU.out k hlt)
        have WIk := Lib.hid (WI.out k hlt)
        have ST : Hid (okL l k → ∀ i, i < k + 1 → okL l i) := fun h i hi => by
          by_cases e : i = k
          · rw [e]; exact h
          · exact hs.out i (by omega)
        clear A NO YES OK WU WI hs
        generalize okL l k = okp at *
        generalize sa l k = x at *
        go_upto_region 8 with fail
        have X1 := Lib.hid (heap_alloc_new wr (.cells #[.int .u64 x.1, .int .i64 x.2] 41))
        have b1 := (Below.refl wr.heap.size wr).alloc (Nat.le_refl _) (.cells #[.int .u64 x.1, .int .i64 x.2] 41)
        have B1 := Lib.hid (bw.out.trans (b1.mono bw.out.size))
        have wu1 := Lib.hid (wu.out.below b1)
        have wi1 := Lib.hid (wi.out.below b1)
        clear c0 c1 wu wi b1 bw
        generalize wr.alloc (.cells #[.int .u64 x.1, .int .i64 x.2] 41) = W at *
        generalize wr.heap.size = gx at *
        have x0 : W.cell? ⟨gx, 0, none⟩ = some (.int .u64 x.1) := row_cell X1.out 0
        have x1 : W.cell? ⟨gx, 1, none⟩ = some (.int .i64 x.2) := row_cell X1.out 1
        by_cases h1 : x.2 < 0
        · have E := Lib.hid (NOk.out fun g => by have := OKk.out.1 g; omega)
          clear NOk OKk ST
          go_wp2
          go_ret
          exact ⟨ret_bool E.out, B1.out⟩
        · by_cases h2 : 254 < x.2
          · have E := Lib.hid (NOk.out fun g => by have := OKk.out.1 g; omega)
            clear NOk OKk ST
            go_wp2
            go_ret
            exact ⟨ret_bool E.out, B1.out⟩
          · have CU := Lib.hid (whoU_any wu1.out x.1 WUk.out)
            generalize hz : (hU x.1).getD (-1) = z at *
            by_cases h3 : z = (k : Int)
            · subst h3
              have OK2 := Lib.hid (OKk.out)
              go_wp2_with fail
              refine CU.out.mono ?_
              rintro e w3 ⟨rfl, b3⟩
              have B3 := Lib.hid (B1.out.trans (b3.mono B1.out.size))
              have wu3 := Lib.hid (wu1.out.below b3)
              have wi3 := Lib.hid (wi1.out.below b3)
              have X3 := Lib.hid ((b3.block gx (lt_of_block X1.out)).trans X1.out)
              clear b3 B1 wu1 wi1 x0 x1 X1 CU
              have x1 : w3.cell? ⟨gx, 1, none⟩ = some (.int .i64 x.2) := row_cell X3.out 1
              by_cases h4 : x.2 = 0
              · have HS := Lib.hid (ST.out (OKk.out.2 ⟨⟨by omega, by omega⟩, trivial, .inl h4⟩))
                have h4' : (x.2 != 0) = false := by rw [h4]; rfl
                have h4'' : decide (x.2 = 0) = true := decide_eq_true h4
                clear NOk OKk OK2 ST h1 h2
                go_wp2
                go_roundw
                case rel => exact ⟨k + 1, by omega, by go_num, B3, wu3, wi3, HS⟩
                case measure => simp [intOf]; omega
              · have CI := Lib.hid (whoI_any wi3.out x.2 WIk.out)
                generalize hy : (hI x.2).getD (-1) = y at *
                by_cases h5 : y = (k : Int)
                · have HS := Lib.hid (ST.out (OKk.out.2 ⟨⟨by omega, by omega⟩, trivial, .inr h5⟩))
                  subst h5
                  clear NOk OKk OK2 ST
                  go_wp2_with fail
                  refine CI.out.mono ?_
                  rintro e w4 ⟨rfl, b4⟩
                  have B4 := Lib.hid (B3.out.trans (b4.mono B3.out.size))
                  have wu4 := Lib.hid (wu3.out.below b4)
                  have wi4 := Lib.hid (wi3.out.below b4)
                  clear b4 B3 wu3 wi3 CI
                  go_wp2
                  go_roundw
                  case rel => exact ⟨k + 1, by omega, by go_num, B4, wu4, wi4, HS⟩
                  case measure => simp [intOf]; omega
                · have E := Lib.hid (NOk.out fun g => by rcases (OKk.out.1 g).2.2 with q | q; exact h4 q; exact h5 q)
                  clear NOk OKk OK2 ST
                  have h4b : (x.2 != 0) = true := bne_iff_ne.2 h4
                  have h5b : (y != (k : Int)) = true := bne_iff_ne.2 h5
                  go_wp2_with fail
                  refine CI.out.mono ?_
                  rintro e w4 ⟨rfl, b4⟩
                  have B4 := Lib.hid (B3.out.trans (b4.mono B3.out.size))
                  clear b4 B3 CI
                  go_wp2
                  go_ret
                  exact ⟨ret_bool E.out, B4.out⟩
            · have E := Lib.hid (NOk.out fun g => h3 (OKk.out.1 g).2.1)
              clear NOk OKk ST
              go_wp2_with fail
              refine CU.out.mono ?_
              rintro e w3 ⟨rfl, b3⟩
              have B3 := Lib.hid (B1.out.trans (b3.mono B1.out.size))
              clear b3 B1 CU
              go_wp2
              go_ret
              exact ⟨ret_bool E.out, B3.out⟩
      · obtain rfl : k = n := by omega
        have E := Lib.hid (YES.out h32 hs.out)
        go_wp2
        go_ret
        exact ⟨ret_bool E.out, bw.out⟩
  · have E := Lib.hid (LEN.out h32)
    have h33 : (32 : Int) < n := by omega
    clear C1 C2 NO YES OK WU WI LEN
    go_enter Try.func16, Try.ntmps16
    go_wp2
    go_ret
    exact ⟨ret_bool E.out, Below.refl _ _⟩

/-! ### which is free -/
set_option maxHeartbeats 1000000 in
theorem free_any (w : World) (v : Value) (l : List S) (R : Rd KV w v l) (F : Fit l) (most : Int) : Calls Try.prog 18 #[v, .int .i64 most] w (FreePost w l most) := by
  have eg2 : ∀ args w, (callFunc 33 args).run Try.prog w = .ok (.enter 33 args) w := enters_of Try.func33 (by kernel_rfl) rfl
  have C1 := Lib.hid (ownerI_any w v l _ (·.2) eg2 R (short_any w) fun i hi => F.i hi)
  have HIT : Hid (∀ (k : Nat) w', FrAt l most k → k ≤ 254 → (k : Int) ≤ most → hs l k = false → Below w.heap.size w w' → FreePost w l most (.returned (.tuple #[.int .i64 (k : Int), .bool true])) w') := fun k w' h h1 h2 h3 b => by
    obtain ⟨e1, e2⟩ := fr_hit h h1 h2 h3
    exact ⟨by rw [e1, e2], b⟩
  have END : Hid (∀ (k : Nat) w', FrAt l most k → (k = 255 ∨ most < k) → Below w.heap.size w w' → FreePost w l most (.returned (.tuple #[.int .i64 0, .bool false])) w') := fun k w' h h1 b => by
    obtain ⟨e1, e2⟩ := fr_end h h1
    exact ⟨by rw [e1, e2]; rfl, b⟩
  have NX : Hid (∀ k : Nat, FrAt l most k → k ≤ 254 → (k : Int) ≤ most → hs l k = true → FrAt l most (k + 1)) := fun k h h1 h2 h3 => fr_next h h1 h2 h3
  have S0 : Hid (FrAt l most 1) := fr_start l most
  have WF : Hid (∀ n : Int, decide ((ltK (·.2) l l.length n).getD (-1) < 0) = !hs l n) := fun n => who_free l n
  obtain ⟨a, cap, rfl, _⟩ := R.slice
  clear R F eg2
  generalize hi : ltK (fun x => x.2) l l.length = hI at *
  clear hi
  generalize l.length = n at *
  go_enter Try.func18, Try.ntmps18
  go_wp2_with fail
  refine C1.out.mono ?_
  rintro e w1 ⟨p, rfl, wh, b1⟩
  have WH := Lib.hid wh
  have B1 := Lib.hid b1
  clear C1 wh b1
  go_wp2
  go_loopw [7] (fun i wr => ∃ k : Nat, k ≤ 255 ∧ i = .int .i64 k ∧ Hid (Below w.heap.size w wr) ∧ Hid (Wh .i64 3 wr p hI) ∧ Hid (FrAt l most k)) (fun i _ => 255 - (intOf i).toNat)
  case atStart => exact ⟨1, by omega, rfl, B1, WH, S0⟩
  case round =>
    clear B1 WH S0
    obtain ⟨k, hk, rfl, bw, wh, hs_⟩ := hrel
    by_cases h1 : (k : Int) ≤ min most 254
    · have h2 : k ≤ 254 := by omega
      have C := Lib.hid (whoI_any wh.out (k : Int) (WalkArith.wf_i64 (by omega)))
      have P1 := Lib.hid (fun w' => HIT.out k w' hs_.out h2 (by omega))
      have P2 := Lib.hid (NX.out k hs_.out h2 (by omega))
      have WK := Lib.hid (WF.out k)
      clear WF HIT END NX hs_
      have h1a : (k : Int) ≤ most := by omega
      have h1b : (k : Int) ≤ 254 := by omega
      clear h1
      generalize (hI k).getD (-1) = z at *
      generalize hs l k = q at *
      cases q with
      | false =>
        have P := Lib.hid (fun w' h => P1.out w' rfl h)
        have h3 : z < 0 := by have := WK.out; simpa using this
        clear P1 P2 WK
        by_cases hm : most ≤ 254
        all_goals
          go_wp2_with fail
          refine C.out.mono ?_
          rintro e w2 ⟨rfl, b2⟩
          have B2 := Lib.hid (bw.out.trans (b2.mono bw.out.size))
          clear b2 C
          go_wp2
          go_ret2
          exact P.out _ B2.out
      | true =>
        have P := Lib.hid (P2.out rfl)
        have h3 : ¬ z < 0 := by have := WK.out; simpa using this
        clear P1 P2 WK
        by_cases hm : most ≤ 254
        all_goals
          go_wp2_with fail
          refine C.out.mono ?_
          rintro e w2 ⟨rfl, b2⟩
          have B2 := Lib.hid (bw.out.trans (b2.mono bw.out.size))
          have wh2 := Lib.hid (wh.out.below b2)
          clear b2 C
          go_wp2
          go_roundw
          case rel => exact ⟨k + 1, by omega, by go_num, B2, wh2, P⟩
          case measure => simp [intOf]; omega
    · have P := Lib.hid (END.out k wr hs_.out (by omega) bw.out)
      clear WF HIT END NX hs_
      by_cases hm : most ≤ 254
      · have h2 : ¬ (k : Int) ≤ most := by omega
        clear h1
        go_wp2
        go_ret2
        exact P.out
      · have h2 : ¬ (k : Int) ≤ 254 := by omega
        clear h1
        go_wp2
        go_ret2
        exact P.out

/-! ### who is least -/
set_option maxHeartbeats 4000000 in
theorem nameless_any (w : World) (v : Value) (l : List S) (R : Rd KV w v l) : Calls Try.prog 34 #[v] w fun e w' => e = .returned (.int .i64 (ls l)) ∧ Below w.heap.size w w' := by
  have NX : Hid (∀ k, (sa l k).2 = 0 ∧ (lsK l k < 0 ∨ (sa l k).1 < (sa l (lsK l k).toNat).1) → lsK l (k + 1) = k) := fun k h => ls_next h
  have ST : Hid (∀ k, ¬ ((sa l k).2 = 0 ∧ (lsK l k < 0 ∨ (sa l k).1 < (sa l (lsK l k).toNat).1)) → lsK l (k + 1) = lsK l k) := fun k h => ls_stay h
  have CS : Hid (∀ k, lsK l k = -1 ∨ ∃ i : Nat, lsK l k = i ∧ i < k) := fun k => lsK_cases l k
  have L0 : Hid (lsK l 0 = -1) := rfl
  have END : Hid (∀ z, lsK l l.length = z → z = ls l) := fun z h => h.symm
  obtain ⟨a, cap, rfl, _, hm, hA⟩ := R
  have HA := Lib.hid hA
  unfold maxLen at hm
  clear hA
  generalize ls l = res at *
  generalize hn : l.length = n at *
  have HN := Lib.hid hn
  clear hn
  go_enter Try.func34, Try.ntmps34
  go_wp2
  go_loopw [3, 8] (fun at_ i wr => ∃ (k : Nat) (z : Int), k ≤ n ∧ i = .int .i64 k ∧ at_ = .int .i64 z ∧ Hid (Below w.heap.size w wr) ∧ Hid (lsK l k = z)) (fun _ i _ => n - (intOf i).toNat)
  case atStart => exact ⟨0, -1, Nat.zero_le _, rfl, rfl, Below.refl _ _, L0⟩
  case round =>
    obtain ⟨k, z, hk, rfl, rfl, bw, hs⟩ := hrel
    by_cases hlt : k < n
    · obtain ⟨b, off, rfl, A⟩ := HA.out (by omega)
      obtain ⟨c0, c1⟩ := atV (A.below bw.out) (i := k) (by have := HN.out; omega)
      have HAA := Lib.hid A
      have NXk := Lib.hid (NX.out k)
      have STk := Lib.hid (ST.out k)
      rw [hs.out] at NXk STk
      have CSk := CS.out k
      rw [hs.out] at CSk
      clear A NX ST END L0 hs
      generalize hx : sa l k = x at *
      clear hx
      have CK := Lib.hid CSk
      clear CSk
      go_upto_region 5 with fail
      have X1 := Lib.hid (heap_alloc_new wr (.cells #[.int .u64 x.1, .int .i64 x.2] 41))
      have b1 := (Below.refl wr.heap.size wr).alloc (Nat.le_refl _) (.cells #[.int .u64 x.1, .int .i64 x.2] 41)
      have B1 := Lib.hid (bw.out.trans (b1.mono bw.out.size))
      clear c0 c1 b1 bw
      generalize wr.alloc (.cells #[.int .u64 x.1, .int .i64 x.2] 41) = W at *
      generalize wr.heap.size = gx at *
      have x0 : W.cell? ⟨gx, 0, none⟩ = some (.int .u64 x.1) := row_cell X1.out 0
      have x1 : W.cell? ⟨gx, 1, none⟩ = some (.int .i64 x.2) := row_cell X1.out 1
      by_cases p1 : x.2 = 0
      · have q1 : decide (x.2 = 0) = true := decide_eq_true p1
        have q1b : (x.2 == 0) = true := beq_iff_eq.2 p1
        rcases CK.out with rfl | ⟨i, rfl, hi⟩
        · have ST1 := Lib.hid (NXk.out ⟨p1, .inl (by decide)⟩)
          clear NXk STk p1 CK
          go_quiet (fail)
          go_wp2
          go_roundw
          case rel => exact ⟨k + 1, _, by omega, by go_num, rfl, below_drewN B1.out _, ST1⟩
          case measure => simp [intOf]; omega
        · obtain ⟨d0, d1⟩ := atV (HAA.out.below B1.out) (i := i) (by have := HN.out; omega)
          have q2 : decide ((i : Int) < 0) = false := decide_eq_false (by omega)
          rw [Int.toNat_natCast] at NXk STk
          clear CK
          by_cases p2 : x.1 < (sa l i).1
          · have ST1 := Lib.hid (NXk.out ⟨p1, .inr p2⟩)
            have q3 : decide (x.1 < (sa l i).1) = true := decide_eq_true p2
            clear NXk STk p1 p2
            generalize sa l i = y at *
            go_quiet (fail)
            go_wp2
            go_roundw
            case rel => exact ⟨k + 1, _, by omega, by go_num, rfl, below_drewN B1.out _, ST1⟩
            case measure => simp [intOf]; omega
          · have ST1 := Lib.hid (STk.out (by rintro ⟨_, g | g⟩; omega; exact p2 g))
            have q3 : decide (x.1 < (sa l i).1) = false := decide_eq_false p2
            clear NXk STk p1 p2
            generalize sa l i = y at *
            go_quiet (fail)
            go_wp2
            go_roundw
            case rel => exact ⟨k + 1, _, by omega, by go_num, rfl, below_drewN B1.out _, ST1⟩
            case measure => simp [intOf]; omega
      · have ST1 := Lib.hid (STk.out fun g => p1 g.1)
        have q1 : decide (x.2 = 0) = false := decide_eq_false p1
        have q1b : (x.2 == 0) = false := beq_eq_false_iff_ne.2 p1
        clear NXk STk p1 CK
        go_quiet (fail)
        go_wp2
        go_roundw
        case rel => exact ⟨k + 1, _, by omega, by go_num, rfl, below_drewN B1.out _, ST1⟩
        case measure => simp [intOf]; omega
    · obtain rfl : k = n := by omega
      have E := Lib.hid (END.out z hs.out)
      clear hs NX ST CS L0 END
      go_wp2
      go_ret
      exact ⟨ret_i64 E.out, bw.out⟩
def LeastPost (w : World) (l : List S) (e : Ending) (w' : World) : Prop := e = .returned (.tuple #[.int .u64 (lsP l), .bool (decide (0 ≤ ls l))]) ∧ Below w.heap.size w w'
set_option maxHeartbeats 1000000 in
theorem least_any (w : World) (v : Value) (l : List S) (R : Rd KV w v l) : Calls Try.prog 19 #[v] w (LeastPost w l) := by
  have C := Lib.hid (nameless_any w v l R)
  have CS : Hid (ls l = -1 ∨ ∃ i : Nat, ls l = i ∧ i < l.length) := lsK_cases l l.length
  have END1 : Hid (∀ w', ls l = -1 → Below w.heap.size w w' → LeastPost w l (.returned (.tuple #[.int .u64 0, .bool false])) w') := fun w' e b => by
    refine ⟨?_, b⟩
    unfold lsP
    rw [e]
    rfl
  have END2 : Hid (∀ (i : Nat) w', ls l = i → Below w.heap.size w w' → LeastPost w l (.returned (.tuple #[.int .u64 (sa l i).1, .bool true])) w') := fun i w' e b => by
    refine ⟨?_, b⟩
    unfold lsP
    rw [e, if_neg (by omega), Int.toNat_natCast, decide_eq_true (by omega : (0 : Int) ≤ i)]
  obtain ⟨a, cap, rfl, _, hm, hA⟩ := R
  have HA := Lib.hid hA
  unfold maxLen at hm
  clear hA
  generalize hn : l.length = n at *
  have HN := Lib.hid hn
  clear hn
  generalize hz : ls l = z at *
  clear hz
  rcases CS.out with rfl | ⟨i, rfl, hi⟩
  · have E := Lib.hid (fun w' => END1.out w' rfl)
    clear END1 END2 CS
    go_enter Try.func19, Try.ntmps19
    go_wp2_with fail
    refine C.out.mono ?_
    rintro e w1 ⟨rfl, b1⟩
    have B1 := Lib.hid b1
    clear b1 C
    go_wp2
    go_ret2
    exact E.out _ B1.out
  · have E := Lib.hid (fun w' => END2.out i w' rfl)
    have q2 : ¬ ((i : Int) < 0) := by omega
    obtain ⟨b, off, rfl, A⟩ := HA.out (by omega)
    have HAA := Lib.hid A
    clear END1 END2 CS A HA
    go_enter Try.func19, Try.ntmps19
    go_wp2_with fail
    refine C.out.mono ?_
    rintro e w1 ⟨rfl, b1⟩
    obtain ⟨d0, d1⟩ := atV (HAA.out.below b1) (i := i) (by have := HN.out; omega)
    have B1 := Lib.hid b1
    clear b1 C
    generalize sa l i = y at *
    go_wp2
    go_ret2
    exact E.out _ B1.out

/-! ### a copy -/
def ClonePost (w : World) (l : List S) (e : Ending) (w' : World) : Prop := ∃ u, e = .returned u ∧ Ow KV w' w.heap.size 41 u l ∧ Below w.heap.size w w'
set_option maxHeartbeats 400000 in
theorem clone_any (w : World) (v : Value) (l : List S) (R : Rd KV w v l) (hl : l.length ≤ 260) : Calls Try.prog 17 #[v] w (ClonePost w l) := by
  have R0 := Lib.hid R
  obtain ⟨a, cap, rfl, ⟨h1, h2⟩, hm, _⟩ := R
  cases a with
  | none =>
    have hc := h2 rfl
    have e : l = [] := List.length_eq_zero_iff.1 (by omega)
    subst e hc
    clear h1 h2 hm R0
    have hnil : ∀ W, (binOp .eql 22 (.slice none 0 0) (.slice none 0 0)).run Try.prog W = .ok (.bool true) W := fun W => Lib.run_eql_slice_nil_nil W _ _ Try.underlying22
    go_enter Try.func17, Try.ntmps17
    go_wp2
    go_ret
    exact ⟨_, rfl, Ow.nil _ _ _, Below.refl _ _⟩
  | some a =>
    have O := Lib.hid (Ow.made (K := KV) w w.heap.size 41 (Nat.le_refl _))
    have BB := Lib.hid ((Below.refl w.heap.size w).alloc (Nat.le_refl _) (.cells #[] 41))
    have RB := Lib.hid (R0.out.below BB.out)
    have HL := Lib.hid hl
    have HA : Hid (∀ (v' : Value) (w' : World), Ow KV w' w.heap.size 41 v' ([] ++ l) → Ow KV w' w.heap.size 41 v' l) := fun v' w' h => by rw [List.nil_append] at h; exact h
    clear h1 h2 R0 hl
    have hnil : ∀ n W, (binOp .eql 22 (.slice (some a) n cap) (.slice none 0 0)).run Try.prog W = .ok (.bool false) W := fun n W => Lib.run_eql_slice_some_nil W _ _ _ Try.underlying22
    go_enter Try.func17, Try.ntmps17
    go_wp2_with (at_builtin; refine Rw.all_step Try.underlying22 infoV rfl (by omega) rfl _ _ rfl w.heap.size _ _ rfl O.out _ _ rfl RB.out ?c1 ?c2 ?_)
    case c1 => have := HL.out; simp; omega
    case c2 => simp
    intro v' w' o2 b2
    have E : Hid (ClonePost w l (.returned v') w') := ⟨v', rfl, HA.out _ _ o2, BB.out.trans b2⟩
    obtain ⟨a', c', L', rfl⟩ : ∃ a c L, v' = .slice a L c := by obtain ⟨a, c, e, _, _⟩ := o2.slice; exact ⟨a, c, _, e⟩
    clear o2 b2 HA RB O
    go_wp2
    go_ret
    exact E.out

end Go.Proofs.Ytbbbempdaipmnaa.Nm
