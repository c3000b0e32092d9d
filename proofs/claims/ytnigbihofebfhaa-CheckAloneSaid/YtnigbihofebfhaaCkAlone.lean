/- CheckAlone, walked. -/
import Derived.Test.YtnigbihofebfhaaCkAwake
namespace Go.Proofs.Ytnigbihofebfhaa.Ck
open Go.RowKit
open Go.Proofs.Ytnigbihofebfhaa.Ro (E5 z5 eat ent K5 at5 eat_mem eq_ent)
open Go.Proofs.Ytnigbihofebfhaa.Rw (Rd Ow At)
open Go.Proofs.Ytnigbihofebfhaa.Fl (ret_bool at_bool row_cell row_frozen)

theorem cnt_lim {p : E5 → Bool} {L : LL} (h12 : L.length ≤ 12) (h70 : ∀ j, j < L.length → (lat L j).length ≤ 70) {k i : Nat} (hk : k < L.length) : cnt p L k i ≤ 910 := by
  have h1 := cnt_le (p := p) h70 k (by omega)
  have h2 := List.countP_le_length (p := p) (l := (lat L k).take i)
  have h3 := h70 k hk
  rw [List.length_take] at h2
  unfold cnt
  omega

set_option maxRecDepth 100000 in
set_option maxHeartbeats 8000000 in
theorem alone_law (w : World) (v : Value) (L : LL) (R : RdL w v L) : Calls Try.prog 4 #[v] w fun e w' => e = .returned (.bool true) ∧ Below w.heap.size w w' := by
  have T1 := Lib.hid (fun (W : World) (u : Value) (r : RdL W u (fewL L)) => tables_any W u (fewL L) r)
  have S1 := Lib.hid (fun (W : World) (u : Value) (s : Int) (r : RdL W u (fewL L)) => sender_any W u (fewL L) s r)
  have FW := Lib.hid (few_any w v L R)
  have FI := Lib.hid (fun h s => fits (L := fewL L) h s)
  have LIM := Lib.hid (fun (p : E5 → Bool) (k i : Nat) (h : k < (fewL L).length) => cnt_lim (p := p) (i := i) (few_len L) (few_each L) h)
  obtain ⟨a, cap, rfl, _⟩ := R.slice
  clear R
  unfold TabPost at T1
  unfold WhoPost at S1
  unfold FewPost at FW
  generalize tN (fewL L) = tn at *
  generalize tE (fewL L) = te at *
  generalize fewL L = M at *
  generalize L.length = n0 at *
  by_cases ht : te = 0
  · subst ht
    have FF := Lib.hid (FI.out rfl)
    clear FI
    go_enter Try.func4, Try.ntmps4
    go_wp2_with fail
    refine FW.out.mono ?_
    rintro e w1 ⟨u1, rfl, r1, b1⟩
    have Q1 := Lib.hid r1
    have B1 := Lib.hid b1
    obtain ⟨a1, k1, rfl, _, hm, hA⟩ := r1
    unfold maxLen at hm
    have HA := Lib.hid hA
    clear b1 FW hA
    generalize hn : M.length = n at *
    have HN := Lib.hid hn
    clear hn
    go_wp2_with fail
    refine (T1.out _ _ Q1.out).mono ?_
    rintro e w2 ⟨rfl, b2⟩
    have B2 := Lib.hid b2
    clear b2 T1
    go_wp2
    go_loopw [6] (fun i wr => ∃ s : Nat, 1 ≤ s ∧ s ≤ 17 ∧ i = .int .i64 s ∧ Hid (Below w1.heap.size w1 wr)) (fun i _ => 17 - (intOf i).toNat)
    case atStart => exact ⟨1, by omega, by omega, rfl, B2⟩
    case round =>
      clear B2
      obtain ⟨s, s1, s17, rfl, bs⟩ := hrel
      by_cases hs : s ≤ 16
      · have C0 : Hid (cnt (snd1 s) M 0 0 = 0 ∧ cnt (rcv s) M 0 0 = 0) := Lib.hid ⟨cnt_zero, cnt_zero⟩
        go_wp2
        go_loopw [9, 7, 8] (fun i x y wr => ∃ k : Nat, k ≤ n ∧ i = .int .i64 k ∧ x = .int .i64 (cnt (snd1 s) M k 0 : Nat) ∧ y = .int .i64 (cnt (rcv s) M k 0 : Nat) ∧ Hid (Below w1.heap.size w1 wr)) (fun i _ _ _ => n - (intOf i).toNat)
        case atStart => exact ⟨0, Nat.zero_le _, rfl, by rw [C0.out.1]; rfl, by rw [C0.out.2]; rfl, bs⟩
        case round =>
          clear bs C0
          obtain ⟨k, hk, rfl, rfl, rfl, bs⟩ := hrel
          by_cases hlt : k < n
          · obtain ⟨b, off, rfl, A⟩ := HA.out (by omega)
            obtain ⟨u, c, a', cap', rfl, _, hm', hA'⟩ := A k hlt
            have HC := Lib.hid c
            have HA' := Lib.hid hA'
            have HAA := Lib.hid A
            have HK := Lib.hid (show k < M.length by rw [HN.out]; exact hlt)
            have lc : b < w1.heap.size := World.block_lt_of_cell? _ _ c
            have c0 : _ := (bs.out.cell lc).trans c
            have NX := Lib.hid (And.intro (cnt_next (p := snd1 s) HK.out) (cnt_next (p := rcv s) HK.out))
            have LM := Lib.hid (fun i => And.intro (LIM.out (snd1 s) k i hlt) (LIM.out (rcv s) k i hlt))
            clear hA' c A
            unfold maxLen at hm'
            generalize hl : (lat M k).length = m at *
            have HL := Lib.hid hl
            clear hl
            have bs0 := bs
            go_wp2
            go_loopw [10, 7, 8] (fun i x y wr => ∃ i' : Nat, i' ≤ m ∧ i = .int .i64 i' ∧ x = .int .i64 (cnt (snd1 s) M k i' : Nat) ∧ y = .int .i64 (cnt (rcv s) M k i' : Nat) ∧ Hid (Below w1.heap.size w1 wr)) (fun i _ _ _ => m - (intOf i).toNat)
            case atStart => exact ⟨0, Nat.zero_le _, rfl, rfl, rfl, bs0⟩
            case round =>
              clear bs bs0 c0
              obtain ⟨i, hi, rfl, rfl, rfl, bs⟩ := hrel
              have c' : _ := (bs.out.cell lc).trans HC.out
              by_cases hit : i < m
              · obtain ⟨b', off', rfl, A'⟩ := HA'.out (by omega)
                have at0 := at5 A' i (by rw [HL.out]; exact hit)
                rw [show (lat M k).getD i z5 = eat (lat M k) i from rfl] at at0
                have AY := fun h => cnt_yes (p := snd1 s) (L := M) (k := k) (i := i) (by rw [HL.out]; exact hit) h
                have AN := fun h => cnt_no (p := snd1 s) (L := M) (k := k) (i := i) (by rw [HL.out]; exact hit) h
                have RY := fun h => cnt_yes (p := rcv s) (L := M) (k := k) (i := i) (by rw [HL.out]; exact hit) h
                have RN := fun h => cnt_no (p := rcv s) (L := M) (k := k) (i := i) (by rw [HL.out]; exact hit) h
                obtain ⟨l1, l2⟩ := LM.out i
                have HAA' := Lib.hid A'
                clear A'
                unfold snd1 at AY AN
                unfold rcv at RY RN
                generalize eat (lat M k) i = x at *
                obtain ⟨x1, x2, x3, x4, x5⟩ := x
                simp only at AY AN RY RN at0
                change _ → cnt (snd1 s) M k (i + 1) = cnt (snd1 s) M k i + 1 at AY
                change _ → cnt (snd1 s) M k (i + 1) = cnt (snd1 s) M k i at AN
                change _ → cnt (rcv s) M k (i + 1) = cnt (rcv s) M k i + 1 at RY
                change _ → cnt (rcv s) M k (i + 1) = cnt (rcv s) M k i at RN
                generalize cnt (snd1 s) M k i = p at *
                generalize cnt (rcv s) M k i = q at *
                obtain ⟨i0, i1, _, _, _⟩ := at0
                have l0 : b' < w1.heap.size := World.block_lt_of_cell? _ _ i0
                have k0 : wr.cell? ⟨b', off' + i * 5, none⟩ = _ := (bs.out.cell l0).trans i0
                have k1' : wr.cell? ⟨b', off' + i * 5 + 1, none⟩ = _ := (bs.out.cell l0).trans i1
                clear i0 i1
                by_cases h2 : x2 = s
                · subst h2
                  by_cases h1 : x1 = 1
                  · subst h1
                    have E1 := Lib.hid (AY (by simp))
                    have E2 := Lib.hid (RN (by simp))
                    clear AY AN RY RN
                    go_wp2
                    go_roundw
                    case rel => exact ⟨i + 1, by omega, by go_num, by rw [E1.out]; go_num, by rw [E2.out], bs⟩
                    case measure => simp [intOf]; omega
                  · by_cases h3 : x1 = 2
                    · subst h3
                      have E1 := Lib.hid (AN (by simp))
                      have E2 := Lib.hid (RY (by simp))
                      clear AY AN RY RN h1
                      go_wp2
                      go_roundw
                      case rel => exact ⟨i + 1, by omega, by go_num, by rw [E1.out], by rw [E2.out]; go_num, bs⟩
                      case measure => simp [intOf]; omega
                    · have E1 := Lib.hid (AN (by simp [h1]))
                      have E2 := Lib.hid (RN (by simp [h3]))
                      have h1' : (x1 == 1) = false := by simpa using h1
                      have h3' : (x1 == 2) = false := by simpa using h3
                      clear AY AN RY RN h1 h3
                      go_wp2
                      go_roundw
                      case rel => exact ⟨i + 1, by omega, by go_num, by rw [E1.out], by rw [E2.out], bs⟩
                      case measure => simp [intOf]; omega
                · have E1 := Lib.hid (AN (by simp [h2]))
                  have E2 := Lib.hid (RN (by simp [h2]))
                  have h2' : (x2 == (s : Int)) = false := by simpa using h2
                  clear AY AN RY RN h2
                  go_wp2
                  go_roundw
                  case rel => exact ⟨i + 1, by omega, by go_num, by rw [E1.out], by rw [E2.out], bs⟩
                  case measure => simp [intOf]; omega
              · obtain rfl : i = m := by omega
                go_wp2
                go_roundw
                case rel => exact ⟨k + 1, by omega, by go_num, by rw [← NX.out.1], by rw [← NX.out.2], bs⟩
                case measure => simp [intOf]; omega
          · obtain rfl : k = n := by omega
            have F0 := FF.out s
            rw [show all (snd1 s) M = cnt (snd1 s) M k 0 by rw [← HN.out]; exact cnt_end.symm, show all (rcv s) M = cnt (rcv s) M k 0 by rw [← HN.out]; exact cnt_end.symm] at F0
            have SN := Lib.hid (S1.out wr (.slice a1 k k1) s (Q1.out.below bs.out))
            generalize cnt (snd1 s) M k 0 = p at *
            generalize cnt (rcv s) M k 0 = q at *
            generalize sN (s : Int) M = sn at *
            generalize sE (s : Int) M = x at *
            obtain ⟨f1, f2, f3, f4⟩ := F0
            obtain ⟨pz, hp⟩ : ∃ z : Int, z = p := ⟨_, rfl⟩
            obtain ⟨qz, hq⟩ : ∃ z : Int, z = q := ⟨_, rfl⟩
            rw [← hp, ← hq]
            have g1 : pz = 0 ∧ ¬ 0 < qz ∧ ¬ 0 ≤ sn ∨ pz = 1 ∧ 0 < qz ∧ 0 ≤ sn ∧ x.2.1 = s ∨ pz = 1 ∧ ¬ 0 < qz ∧ 0 ≤ sn ∧ x.2.1 = s := by
              by_cases e : p = 1
              · have a1 := f3.2 e
                have a2 := f4 e
                omega
              · have a1 : ¬ 0 ≤ sn := fun h => e (f3.1 h)
                have a2 : ¬ 0 < q := fun h => e (f2 h)
                omega
            have G := Lib.hid g1
            clear f1 f2 f3 f4 hp hq g1 hlt
            unfold ent at SN
            go_wp2_with fail
            refine SN.out.mono ?_
            rintro e w3 ⟨rfl, b3⟩
            go_upto_region 20 with fail
            have bb := b3.alloc b3.size (.cells #[.int .i64 x.1, .int .i64 x.2.1, .int .i64 x.2.2.1, .int .i64 x.2.2.2.1, .int .i64 x.2.2.2.2] 30)
            have bs2 := Lib.hid (bs.out.trans (bb.mono bs.out.size))
            have X : RowE (w3.alloc (.cells #[.int .i64 x.1, .int .i64 x.2.1, .int .i64 x.2.2.1, .int .i64 x.2.2.2.1, .int .i64 x.2.2.2.2] 30)) w3.heap.size x := heap_alloc_new w3 _
            generalize w3.alloc (.cells #[.int .i64 x.1, .int .i64 x.2.1, .int .i64 x.2.2.1, .int .i64 x.2.2.2.1, .int .i64 x.2.2.2.2] 30) = W3 at *
            generalize w3.heap.size = gx at *
            have c1 : W3.cell? ⟨gx, 1, none⟩ = some (.int .i64 x.2.1) := row_cell X 1
            clear b3 bb bs X SN
            generalize x.2.1 = xs at *
            rcases G.out with ⟨rfl, h2, h3⟩ | ⟨rfl, h2, h3, rfl⟩ | ⟨rfl, h2, h3, rfl⟩
            · have h2' : decide (0 < qz) = false := decide_eq_false (by omega)
              have h3' : decide (0 ≤ sn) = false := decide_eq_false (by omega)
              clear G h2 h3
              go_wp2
              go_roundw
              case rel => exact ⟨s + 1, by omega, by omega, by go_num, bs2⟩
              case measure => simp [intOf]; omega
            · have h2' : decide (0 < qz) = true := decide_eq_true h2
              have h3' : decide (0 ≤ sn) = true := decide_eq_true h3
              clear G h2 h3
              go_wp2
              go_roundw
              case rel => exact ⟨s + 1, by omega, by omega, by go_num, bs2⟩
              case measure => simp [intOf]; omega
            · have h2' : decide (0 < qz) = false := decide_eq_false (by omega)
              have h3' : decide (0 ≤ sn) = true := decide_eq_true h3
              clear G h2 h3
              go_wp2
              go_roundw
              case rel => exact ⟨s + 1, by omega, by omega, by go_num, bs2⟩
              case measure => simp [intOf]; omega
      · obtain rfl : s = 17 := by omega
        have AW := Lib.hid (awake_any wr)
        go_wp2_with fail
        refine AW.out.mono ?_
        rintro e w3 ⟨rfl, b3⟩
        have B3 := Lib.hid (B1.out.trans ((bs.out.trans (b3.mono bs.out.size)).mono B1.out.size))
        clear b3
        go_wp2
        go_ret
        exact ⟨rfl, B3.out⟩
  · have hte : (te == 0) = false := by simpa using ht
    clear ht FI
    go_enter Try.func4, Try.ntmps4
    go_wp2_with fail
    refine FW.out.mono ?_
    rintro e w1 ⟨u1, rfl, r1, b1⟩
    have Q1 := Lib.hid r1
    have B1 := Lib.hid b1
    obtain ⟨a1, k1, rfl, _⟩ := r1.slice
    clear b1 FW
    generalize M.length = n at *
    go_wp2_with fail
    refine (T1.out _ _ Q1.out).mono ?_
    rintro e w2 ⟨rfl, b2⟩
    have B2 := Lib.hid (B1.out.trans (b2.mono B1.out.size))
    clear b2 T1
    go_wp2_with fail
    refine (awake_any w2).mono ?_
    rintro e w3 ⟨rfl, b3⟩
    have B3 := Lib.hid (B2.out.trans (b3.mono B2.out.size))
    clear b3
    go_wp2
    go_ret
    exact ⟨rfl, B3.out⟩

end Go.Proofs.Ytnigbihofebfhaa.Ck
