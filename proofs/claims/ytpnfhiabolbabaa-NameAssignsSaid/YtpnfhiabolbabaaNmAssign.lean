/- Names given one by one: name.Assign, and the document's. -/
import Derived.Test.YtpnfhiabolbabaaNmCode
namespace Go.Proofs.Ytpnfhiabolbabaa.Nm
open Go.RowKit
open Go.Proofs.Ytpnfhiabolbabaa.Rw (Rd Ow At)
open Go.Proofs.Ytpnfhiabolbabaa.Fl (ret_bool at_bool row_cell)
attribute [local irreducible] Sd.wpSd wpQuiet Sz.wpSz

def asL (l : List S) (most : Int) : List S := (asg (l.length + 1) l most).1
def asE (l : List S) (most : Int) : Int := (asg (l.length + 1) l most).2
def AssignPost (w : World) (l : List S) (most : Int) (e : Ending) (w' : World) : Prop := ∃ u, e = .returned (.tuple #[u, .int .i64 (asE l most)]) ∧ Ow KV w' w.heap.size 41 u (asL l most) ∧ Below w.heap.size w w'
theorem fr_le (l : List S) (most : Int) : fr l most ≤ 254 := by
  rcases Nat.eq_zero_or_pos (fr l most) with h | h
  · omega
  · have := (frF_some (l := l) (most := most) (f := 254) (n := 1) (by omega) h).2.1
    change fr l most < 1 + 254 at this
    omega
theorem fr_pos {l : List S} {most : Int} : frB l most = true ↔ 0 < fr l most := by unfold frB; exact decide_eq_true_iff
/-- So far. -/
structure As (w : World) (B : Nat) (l : List S) (most : Int) (v : Value) (f : Nat) (c : List S) (wr : World) : Prop where
  own : Ow KV wr B 41 v c
  bel : Below B w wr
  len : c.length = l.length
  fit : Fit c
  cnt : cn c < f
  eq : asg (l.length + 1) l most = asg f c most
section
variable {w wr w' : World} {B : Nat} {l c : List S} {most : Int} {v : Value} {f : Nat}
theorem As.below (h : As w B l most v f c wr) (b : Below wr.heap.size wr w') (hB : B ≤ wr.heap.size) : As w B l most v f c w' := ⟨h.own.keep b, h.bel.trans (b.mono hB), h.len, h.fit, h.cnt, h.eq⟩
theorem As.start (h : Ow KV wr w.heap.size 41 v l) (b : Below w.heap.size w wr) (F : Fit l) : As w w.heap.size l most v (l.length + 1) l wr := ⟨h, b, rfl, F, Nat.lt_succ_of_le (cn_le l), rfl⟩
theorem As.done (h : As w w.heap.size l most v f c wr) (e : ls c < 0) : AssignPost w l most (.returned (.tuple #[v, .int .i64 0])) wr := by
  obtain ⟨f, rfl⟩ : ∃ g, f = g + 1 := ⟨f - 1, by have := h.cnt; omega⟩
  have e2 := h.eq
  rw [asg_done e] at e2
  refine ⟨v, by unfold asE; rw [e2], ?_, h.bel⟩
  unfold asL
  rw [e2]
  exact h.own
theorem As.full (h : As w w.heap.size l most v f c wr) (e : ¬ ls c < 0) (e0 : fr c most = 0) : AssignPost w l most (.returned (.tuple #[v, .int .i64 11])) wr := by
  obtain ⟨f, rfl⟩ : ∃ g, f = g + 1 := ⟨f - 1, by have := h.cnt; omega⟩
  have e2 := h.eq
  rw [asg_full e e0] at e2
  refine ⟨v, by unfold asE; rw [e2], ?_, h.bel⟩
  unfold asL
  rw [e2]
  exact h.own
theorem As.next {g cap : Nat} {i : Nat} (h : As w B l most (.slice (some ⟨g, 0, none⟩) c.length cap) f c wr) (hi : i < c.length) (e : ls c = i) (e0 : 0 < fr c most) (hB : B ≤ g) (h0 : (sa c i).2 = 0) : As w B l most (.slice (some ⟨g, 0, none⟩) c.length cap) (f - 1) (c.set i ((sa c i).1, (fr c most : Int))) (wr.setCell ⟨g, i * 2 + 1, none⟩ (.int .i64 (fr c most))) ∧ f - 1 < f := by
  have hf := h.cnt
  obtain ⟨f, rfl⟩ : ∃ g, f = g + 1 := ⟨f - 1, by omega⟩
  have hc := cn_set (x := ((sa c i).1, (fr c most : Int))) hi h0 (by simp; omega)
  have hle := fr_le c most
  have hl : (c.set i ((sa c i).1, (fr c most : Int))).length = c.length := List.length_set
  have ho := Ow.set h.own i 1 hi (by decide) (.int .i64 (fr c most)) ((sa c i).1, (fr c most : Int)) rfl
  refine ⟨⟨ho, h.bel.setCell hB _, hl.trans h.len, h.fit.set hi ⟨(h.fit i hi).1, ?_, ?_⟩, ?_, ?_⟩, by omega⟩
  · show _ ≤ (fr c most : Int); omega
  · show (fr c most : Int) < _; omega
  · show cn _ < f + 1 - 1; omega
  · rw [h.eq, asg_next e e0]; rfl
end

set_option maxHeartbeats 2000000 in
theorem assign_any (w : World) (v : Value) (l : List S) (R : Rd KV w v l) (F : Fit l) (hl : l.length ≤ 260) (most : Int) : Calls Try.prog 9 #[v, .int .i64 most] w (AssignPost w l most) := by
  have CL := Lib.hid (clone_any w v l R hl)
  have HL := Lib.hid hl
  have ST : Hid (∀ u wr, Ow KV wr w.heap.size 41 u l → Below w.heap.size w wr → As w w.heap.size l most u (l.length + 1) l wr) := fun u wr h b => As.start h b F
  obtain ⟨a, cap, rfl, _⟩ := R.slice
  clear R F hl
  go_enter Try.func9, Try.ntmps9
  go_wp2_with fail
  refine CL.out.mono ?_
  rintro e w1 ⟨u, rfl, o1, b1⟩
  obtain ⟨a1, c1, rfl, _, hc1⟩ := o1.slice
  have A1 := Lib.hid (ST.out _ _ o1 b1)
  have CN := Lib.hid (nameless_any w1 _ l o1.rd)
  clear CL o1 b1 ST
  generalize hn : l.length = n at *
  have HN := Lib.hid hn
  clear hn
  go_wp2_with fail
  refine CN.out.mono ?_
  rintro e w2 ⟨rfl, b2⟩
  have A2 := Lib.hid (A1.out.below b2 A1.out.bel.size)
  clear A1 b2 CN
  go_wp2
  go_loopg [7] (n + 1) (fun gg z wr => ∃ c, z = .int .i64 (ls c) ∧ Hid (As w w.heap.size l most (.slice a1 n c1) gg c wr))
  case atStart => exact ⟨l, rfl, A2⟩
  case round =>
    clear A2
    obtain ⟨c, rfl, I⟩ := hrel
    have CF := Lib.hid (free_any wr _ c I.out.own.rd I.out.fit most)
    have HLc := Lib.hid (I.out.len.trans HN.out)
    rcases ls_spec c with ⟨e, _⟩ | ⟨i, e, hi, h0, _⟩
    · have E := Lib.hid (I.out.done (by omega))
      rw [e]
      clear I CF e
      go_wp2
      go_ret2
      exact E.out
    · rw [e]
      have hin : i < n := by have := HLc.out; omega
      have HE := Lib.hid e
      have H0 := Lib.hid h0
      have HI := Lib.hid hi
      clear e h0 hi
      by_cases hf : 0 < fr c most
      · have hb : frB c most = true := fr_pos.2 hf
        have HF := Lib.hid hf
        have Q : Hid (FreePost wr c most = fun e w' => e = .returned (.tuple #[.int .i64 (fr c most), .bool true]) ∧ Below wr.heap.size wr w') := Lib.hid (by unfold FreePost; rw [hb])
        rw [Q.out] at CF
        obtain ⟨g, cap', e, hg, hgl, _, _, hfz, hA⟩ := I.out.own.form (by have := HI.out; omega)
        injection e with e1 e2 e3
        subst e1 e3
        clear hf hb Q e2
        have HA := Lib.hid hA
        clear hA
        have HG := Lib.hid hg
        have FRO := Lib.hid hfz
        clear hg hfz
        go_wp2_with fail
        refine CF.out.mono ?_
        rintro e w3 ⟨rfl, b3⟩
        have I3 := Lib.hid (I.out.below b3 I.out.bel.size)
        have fz : w3.frozen? ⟨g, i * 2 + 1, none⟩ = false := (b3.frozen (p := ⟨g, i * 2 + 1, none⟩) hgl).trans (FRO.out _)
        obtain ⟨d0, d1⟩ := atV (HA.out.below b3) (i := i) HI.out
        simp only [Nat.zero_add] at d0 d1
        have NXT := Lib.hid (As.next (by rw [HLc.out]; exact I3.out) HI.out HE.out HF.out HG.out H0.out)
        rw [HLc.out] at NXT
        clear I3 b3 CF I HA FRO
        generalize fr c most = m at *
        generalize hc' : c.set i ((sa c i).1, (m : Int)) = c' at *
        clear hc'
        generalize sa c i = x at *
        have A3 := Lib.hid NXT.out.1
        have LT := Lib.hid NXT.out.2
        clear NXT
        have CN := Lib.hid (nameless_any _ _ _ A3.out.own.rd)
        have ZB := Lib.hid A3.out.bel.size
        go_wp2_with fail
        generalize w3.setCell ⟨g, i * 2 + 1, none⟩ (.int .i64 (m : Int)) = W at *
        clear d0 d1 fz
        refine CN.out.mono ?_
        rintro e w4 ⟨rfl, b4⟩
        have A4 := Lib.hid (A3.out.below b4 ZB.out)
        clear A3 b4 CN
        go_wp2
        go_roundg (gk - 1)
        case rel => exact ⟨c', rfl, A4⟩
        case measure => exact LT.out
      · have hb : frB c most = false := by
          cases q : frB c most with
          | false => rfl
          | true => exact absurd (fr_pos.1 q) hf
        have h0 : fr c most = 0 := by omega
        have E := Lib.hid (I.out.full (by rw [HE.out]; omega) h0)
        have Q : Hid (FreePost wr c most = fun e w' => e = .returned (.tuple #[.int .i64 0, .bool false]) ∧ Below wr.heap.size wr w') := Lib.hid (by unfold FreePost; rw [hb, h0]; rfl)
        rw [Q.out] at CF
        have FULL : Hid (∀ w', Below wr.heap.size wr w' → AssignPost w l most (.returned (.tuple #[.slice a1 n c1, .int .i64 11])) w') := Lib.hid (fun w' b => (I.out.below b I.out.bel.size).full (by rw [HE.out]; omega) h0)
        clear hb Q h0 hf E I
        go_wp2_with fail
        refine CF.out.mono ?_
        rintro e w3 ⟨rfl, b3⟩
        have E := Lib.hid (FULL.out _ b3)
        clear b3 FULL CF
        go_wp2
        go_ret2
        exact E.out

set_option maxHeartbeats 2000000 in
theorem rassign_any (w : World) (v : Value) (l : List S) (R : Rd KV w v l) (F : Fit l) (hl : l.length ≤ 260) (most : Int) : Calls Try.prog 10 #[v, .int .i64 most] w (AssignPost w l most) := by
  have HL := Lib.hid hl
  have ST : Hid (∀ u wr, Ow KV wr w.heap.size 41 u ([] ++ l) → Below w.heap.size w wr → As w w.heap.size l most u (l.length + 1) l wr) := fun u wr h b => As.start (by rw [List.nil_append] at h; exact h) b F
  have O := Lib.hid (Ow.made (K := KV) w w.heap.size 41 (Nat.le_refl _))
  have BB := Lib.hid ((Below.refl w.heap.size w).alloc (Nat.le_refl _) (.cells #[] 41))
  have RB := Lib.hid (R.below BB.out)
  obtain ⟨a, cap, rfl, _⟩ := R.slice
  clear R F hl
  go_enter Try.func10, Try.ntmps10
  go_wp2_with (at_builtin; refine Rw.all_step Try.underlying22 infoV rfl (by omega) rfl _ _ rfl w.heap.size _ _ rfl O.out _ _ rfl RB.out ?c1 ?c2 ?_)
  case c1 => have := HL.out; simp; omega
  case c2 => simp
  intro u w1 o1 b1
  have A1 := Lib.hid (ST.out _ _ o1 (BB.out.trans b1))
  clear ST o1 b1 RB O BB
  obtain ⟨a1, c1, rfl, _, hc1⟩ := A1.out.own.slice
  generalize hn : l.length = n at *
  have HN := Lib.hid hn
  clear hn
  go_wp2
  go_loopg [14] (n + 1) (fun gg z wr => ∃ c, Hid (As w w.heap.size l most (.slice a1 n c1) gg c wr))
  case atStart => exact ⟨l, A1⟩
  case round =>
    clear A1
    obtain ⟨c, I⟩ := hrel
    have CN := Lib.hid (rleast_any wr _ c I.out.own.rd)
    have CF := Lib.hid (fun W (b : Below wr.heap.size wr W) => rfree_any W _ c (I.out.own.rd.below b) most)
    have HLc := Lib.hid (I.out.len.trans HN.out)
    unfold RleastPost at CN
    generalize lsP c = lp at *
    rcases ls_spec c with ⟨e, _⟩ | ⟨i, e, hi, h0, _⟩
    · have E := Lib.hid (fun w' (b : Below wr.heap.size wr w') => (I.out.below b I.out.bel.size).done (by omega))
      rw [e] at CN
      clear I e
      go_wp2_with fail
      refine CN.out.mono ?_
      rintro e w2 ⟨rfl, b2⟩
      have B2 := Lib.hid b2
      have C3 := Lib.hid (CF.out w2 b2)
      unfold FreePost at C3
      generalize (fr c most : Int) = m at *
      generalize frB c most = q at *
      clear b2 CN CF
      go_wp2_with fail
      refine C3.out.mono ?_
      rintro e w3 ⟨rfl, b3⟩
      have E3 := Lib.hid (E.out w3 (B2.out.trans (b3.mono B2.out.size)))
      clear b3 C3 E
      go_wp2
      go_ret2
      exact E3.out
    · rw [e] at CN
      have hin : i < n := by have := HLc.out; omega
      have HE := Lib.hid e
      have H0 := Lib.hid h0
      have HI := Lib.hid hi
      have hi0 : ¬ (i : Int) < 0 := by omega
      clear e h0 hi
      by_cases hf : 0 < fr c most
      · have hb : frB c most = true := fr_pos.2 hf
        have HF := Lib.hid hf
        obtain ⟨g, cap', e, hg, hgl, _, _, hfz, hA⟩ := I.out.own.form (by have := HI.out; omega)
        injection e with e1 e2 e3
        subst e1 e3
        have HB := Lib.hid hb
        clear hf e2 hb
        have HA := Lib.hid hA
        clear hA
        have HG := Lib.hid hg
        have FRO := Lib.hid hfz
        clear hg hfz
        go_wp2_with fail
        refine CN.out.mono ?_
        rintro e w2 ⟨rfl, b2⟩
        have B2 := Lib.hid b2
        have C3 := Lib.hid (CF.out w2 b2)
        unfold FreePost at C3
        rw [HB.out] at C3
        clear b2 CN CF
        go_wp2_with fail
        refine C3.out.mono ?_
        rintro e w3 ⟨rfl, b3⟩
        have B3 := B2.out.trans (b3.mono B2.out.size)
        have I3 := Lib.hid (I.out.below B3 I.out.bel.size)
        have fz : w3.frozen? ⟨g, i * 2 + 1, none⟩ = false := (B3.frozen (p := ⟨g, i * 2 + 1, none⟩) hgl).trans (FRO.out _)
        obtain ⟨d0, d1⟩ := atV (HA.out.below B3) (i := i) HI.out
        simp only [Nat.zero_add] at d0 d1
        have NXT := Lib.hid (As.next (by rw [HLc.out]; exact I3.out) HI.out HE.out HF.out HG.out H0.out)
        rw [HLc.out] at NXT
        clear I3 b3 B3 B2 C3 I HA FRO HB
        generalize fr c most = m at *
        generalize hc' : c.set i ((sa c i).1, (m : Int)) = c' at *
        clear hc'
        generalize sa c i = x at *
        have A3 := Lib.hid NXT.out.1
        have LT := Lib.hid NXT.out.2
        clear NXT
        go_wp2
        go_roundg (gk - 1)
        case rel => exact ⟨c', A3⟩
        case measure => exact LT.out
      · have hb : frB c most = false := by
          cases q : frB c most with
          | false => rfl
          | true => exact absurd (fr_pos.1 q) hf
        have h0 : fr c most = 0 := by omega
        have HB := Lib.hid hb
        have HF0 := Lib.hid h0
        have FULL : Hid (∀ w', Below wr.heap.size wr w' → AssignPost w l most (.returned (.tuple #[.slice a1 n c1, .int .i64 11])) w') := Lib.hid (fun w' b => (I.out.below b I.out.bel.size).full (by rw [HE.out]; omega) h0)
        clear hb h0 hf I
        go_wp2_with fail
        refine CN.out.mono ?_
        rintro e w2 ⟨rfl, b2⟩
        have B2 := Lib.hid b2
        have C3 := Lib.hid (CF.out w2 b2)
        unfold FreePost at C3
        rw [HB.out, HF0.out] at C3
        clear b2 CN CF HB HF0
        go_wp2_with fail
        refine C3.out.mono ?_
        rintro e w3 ⟨rfl, b3⟩
        have E := Lib.hid (FULL.out _ (B2.out.trans (b3.mono B2.out.size)))
        clear b3 FULL C3
        go_wp2
        go_ret2
        exact E.out

end Go.Proofs.Ytpnfhiabolbabaa.Nm
