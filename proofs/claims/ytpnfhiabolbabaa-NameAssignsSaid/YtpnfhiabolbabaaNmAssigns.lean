/- NameAssigns: both sides answer the same functions of the list. -/
import Derived.Test.YtpnfhiabolbabaaNmAwake
namespace Go.Proofs.Ytpnfhiabolbabaa.Nm
open Go.RowKit
open Go.Proofs.Ytpnfhiabolbabaa.Rw (Rd Ow At)
open Go.Proofs.Ytpnfhiabolbabaa.Fl (ret_bool at_bool row_cell)

theorem Fit.take {l : List S} (h : Fit l) (n : Nat) : Fit (l.take n) := fun i hi => by
  have hl : i < l.length ∧ i < n := by rw [List.length_take] at hi; omega
  have : sa (l.take n) i = sa l i := by
    unfold sa
    rw [List.getD_eq_getElem?_getD, List.getD_eq_getElem?_getD, List.getElem?_take, if_pos hl.2]
  rw [this]
  exact h i hl.1
theorem Rd.form {w : World} {v : Value} {l : List S} (R : Rd KV w v l) : ∃ a n c, v = .slice a n c := by
  obtain ⟨a, c, e, _⟩ := R.slice
  exact ⟨a, _, c, e⟩

set_option maxHeartbeats 2000000 in
theorem assigns_law (w : World) (v : Value) (l : List S) (most : Int) (R : Rd KV w v l) (F : Fit l) : Calls Try.prog 3 #[v, .int .i64 most] w fun e w' => e = .returned (.bool true) ∧ Below w.heap.size w w' := by
  have CF := Lib.hid (few_any w v l R)
  have F1 := Lib.hid (F.take 40)
  have L1 : Hid ((l.take 40).length ≤ 260) := Lib.hid (by rw [List.length_take]; omega)
  obtain ⟨a, cap, rfl, _⟩ := R.slice
  clear R F
  generalize l.length = n at *
  unfold FewPost at CF
  generalize l.take 40 = x at *
  go_enter Try.func3, Try.ntmps3
  go_wp2_with fail
  refine CF.out.mono ?_
  rintro e w1 ⟨u, rfl, r1, b1⟩
  obtain ⟨a1, n1, c1, rfl⟩ := Rd.form r1
  have B1 := Lib.hid b1
  have R1 := Lib.hid r1
  have C1 := Lib.hid (good_any w1 _ x r1 F1.out)
  clear b1 r1 CF
  go_wp2_with fail
  refine C1.out.mono ?_
  rintro e w2 ⟨rfl, b2⟩
  have B2 := Lib.hid (B1.out.trans (b2.mono B1.out.size))
  have R2 := Lib.hid (R1.out.below b2)
  have C2 := Lib.hid (rgood_any w2 _ x R2.out)
  clear b2 C1 B1 R1
  go_wp2_with fail
  refine C2.out.mono ?_
  rintro e w3 ⟨rfl, b3⟩
  have B3 := Lib.hid (B2.out.trans (b3.mono B2.out.size))
  have R3 := Lib.hid (R2.out.below b3)
  have C3 := Lib.hid (rgood_any w3 _ x R3.out)
  clear b3 C2 B2 R2
  generalize gdB x = q at *
  cases q with
  | false =>
    go_wp2_with fail
    refine C3.out.mono ?_
    rintro e w4 ⟨rfl, b4⟩
    have B4 := Lib.hid (B3.out.trans (b4.mono B3.out.size))
    have C4 := Lib.hid (awake_any w4)
    clear b4 C3 B3 R3
    go_wp2_with fail
    refine C4.out.mono ?_
    rintro e w5 ⟨rfl, b5⟩
    have B5 := Lib.hid (B4.out.trans (b5.mono B4.out.size))
    clear b5 C4 B4
    go_wp2
    go_ret
    exact ⟨rfl, B5.out⟩
  | true =>
    go_wp2_with fail
    refine C3.out.mono ?_
    rintro e w4 ⟨rfl, b4⟩
    have B4 := Lib.hid (B3.out.trans (b4.mono B3.out.size))
    have R4 := Lib.hid (R3.out.below b4)
    have C4 := Lib.hid (assign_any w4 _ x R4.out F1.out L1.out most)
    have C5 := Lib.hid (fun W (R : Rd KV W (.slice a1 n1 c1) x) => rassign_any W _ x R F1.out L1.out most)
    unfold AssignPost at C4 C5
    generalize asE x most = ae at *
    generalize asL x most = al at *
    clear b4 C3 B3 R3
    go_wp2_with fail
    refine C4.out.mono ?_
    rintro e w5 ⟨ua, rfl, oa, b5⟩
    obtain ⟨a2, n2, c2, rfl⟩ := Rd.form oa.rd
    have B5 := Lib.hid (B4.out.trans (b5.mono B4.out.size))
    have R5 := Lib.hid (R4.out.below b5)
    have A5 := Lib.hid oa.rd
    have D5 := Lib.hid (C5.out w5 R5.out)
    clear b5 C4 C5 B4 R4 oa
    go_wp2_with fail
    refine D5.out.mono ?_
    rintro e w6 ⟨ub, rfl, ob, b6⟩
    obtain ⟨a3, n3, c3, rfl⟩ := Rd.form ob.rd
    have B6 := Lib.hid (B5.out.trans (b6.mono B5.out.size))
    have R6 := Lib.hid (R5.out.below b6)
    have A6 := Lib.hid (A5.out.below b6)
    have E6 := Lib.hid ob.rd
    have C6 := Lib.hid (free_any w6 _ x R6.out F1.out most)
    have C7 := Lib.hid (fun W (R : Rd KV W (.slice a1 n1 c1) x) => rfree_any W _ x R most)
    unfold FreePost at C6 C7
    generalize (fr x most : Int) = fv at *
    generalize frB x most = fb at *
    clear b6 D5 B5 R5 A5 ob
    go_wp2_with fail
    refine C6.out.mono ?_
    rintro e w7 ⟨rfl, b7⟩
    have B7 := Lib.hid (B6.out.trans (b7.mono B6.out.size))
    have R7 := Lib.hid (R6.out.below b7)
    have A7 := Lib.hid (A6.out.below b7)
    have E7 := Lib.hid (E6.out.below b7)
    have D7 := Lib.hid (C7.out w7 R7.out)
    clear b7 C6 C7 B6 R6 A6 E6
    go_wp2_with fail
    refine D7.out.mono ?_
    rintro e w8 ⟨rfl, b8⟩
    have B8 := Lib.hid (B7.out.trans (b8.mono B7.out.size))
    have R8 := Lib.hid (R7.out.below b8)
    have A8 := Lib.hid (A7.out.below b8)
    have E8 := Lib.hid (E7.out.below b8)
    have C8 := Lib.hid (least_any w8 _ x R8.out)
    have C9 := Lib.hid (fun W (R : Rd KV W (.slice a1 n1 c1) x) => rleast_any W _ x R)
    unfold LeastPost at C8
    unfold RleastPost at C9
    generalize lsP x = lv at *
    generalize ls x = lz at *
    clear b8 D7 B7 R7 A7 E7
    go_wp2_with fail
    refine C8.out.mono ?_
    rintro e w9 ⟨rfl, b9⟩
    have B9 := Lib.hid (B8.out.trans (b9.mono B8.out.size))
    have R9 := Lib.hid (R8.out.below b9)
    have A9 := Lib.hid (A8.out.below b9)
    have E9 := Lib.hid (E8.out.below b9)
    have D9 := Lib.hid (C9.out w9 R9.out)
    clear b9 C8 C9 B8 R8 A8 E8
    go_wp2_with fail
    refine D9.out.mono ?_
    rintro e w10 ⟨rfl, b10⟩
    have B10 := Lib.hid (B9.out.trans (b10.mono B9.out.size))
    have A10 := Lib.hid (A9.out.below b10)
    have E10 := Lib.hid (E9.out.below b10)
    have C10 := Lib.hid (awake_any w10)
    clear b10 D9 B9 R9 A9 E9
    go_wp2_with fail
    refine C10.out.mono ?_
    rintro e w11 ⟨rfl, b11⟩
    have B11 := Lib.hid (B10.out.trans (b11.mono B10.out.size))
    have S11 := Lib.hid (at_bool (show sameB al al = true from decide_eq_true rfl) (rsame_any w11 _ _ al al (A10.out.below b11) (E10.out.below b11)))
    clear b11 C10 B10 A10 E10
    go_wp2_with fail
    refine S11.out.mono ?_
    rintro e w12 ⟨rfl, b12⟩
    have B12 := Lib.hid (B11.out.trans (b12.mono B11.out.size))
    clear b12 S11 B11
    go_wp2
    go_ret
    exact ⟨ret_bool (by simp), B12.out⟩

end Go.Proofs.Ytpnfhiabolbabaa.Nm
