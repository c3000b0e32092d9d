/- baptize.Run: names for all, whatever answers are lost. -/
import Derived.Test.YtbbbempdaipmnaaBpFind
namespace Go.Proofs.Ytbbbempdaipmnaa.Bp
open Go.RowKit
open Go.Proofs.Ytbbbempdaipmnaa.Rw (Rd Ow At)
open Go.Proofs.Ytbbbempdaipmnaa.Fl (ret_bool at_bool row_cell)
open Go.Proofs.Ytbbbempdaipmnaa.Nm (S zS sa sa_get sa_set mem_sa Gd KV atV Fit ret_i64 ls cn fr frB fr_pos FreePost free_any LeastPost least_any lsP clone_any)

/-- Where long names are no one's twice, one is named where one was found. -/
theorem nm_one {c : List S} (gd : Gd c) {i : Nat} (hi : i < c.length) {p n : Int} (hp : (sa c i).1 = p) : c.set i ((sa c i).1, n) = nm p n c := by
  refine Nm.sa_same (by rw [List.length_set, nm_len]) fun j hj => ?_
  rw [List.length_set] at hj
  rw [sa_set hi, nm_sa hj]
  unfold nmd
  by_cases e : j = i
  · subst e
    rw [if_pos rfl, if_pos hp]
  · rw [if_neg e, if_neg fun q => e (gd.phys hj hi (q.trans hp.symm))]
section
variable {w wr w' : World} {B : Nat} {l c : List S} {most : Int} {L : List Bool} {v : Value} {f r q : Nat}
theorem Rs.chain (h : Rs w B l most L v f r c wr) (e : ¬ (0 ≤ ls c ∧ fr c most = 0)) (ag : Ag c L r q) : ∃ f', f' ≤ f ∧ Rs w B l most L v f' q c wr := by
  induction ag with
  | nil => exact ⟨f, Nat.le_refl _, h⟩
  | snoc _ h1 h2 ih =>
    obtain ⟨f', hf, h'⟩ := ih
    exact ⟨f' - 1, by omega, (h'.again e h1 h2).1⟩
theorem Rs.put {g cap i : Nat} (h : Rs w B l most L (.slice (some ⟨g, 0, none⟩) c.length cap) f r c wr) (gd : Gd c) (e : ¬ (0 ≤ ls c ∧ fr c most = 0)) (ag : Ag c L r q) (e1 : sB c L q = true) (hi : i < c.length) (hx : qh (sP c L q) (sa c i) = true) (hB : B ≤ g) : ∃ f' c', f' < f ∧ Gd c' ∧ Rs w B l most L (.slice (some ⟨g, 0, none⟩) c.length cap) f' (q + 67) c' (wr.setCell ⟨g, i * 2 + 1, none⟩ (.int .i64 (fr c most))) := by
  obtain ⟨f', hf, h'⟩ := h.chain e ag
  have hx' := of_decide_eq_true hx
  have ho := Ow.set h'.own i 1 hi (by decide) (.int .i64 (fr c most)) ((sa c i).1, (fr c most : Int)) rfl
  rw [nm_one gd hi hx'.2] at ho
  obtain ⟨k1, k2⟩ := h'.named (w' := wr.setCell ⟨g, i * 2 + 1, none⟩ (.int .i64 (fr c most))) e e1 ho (h'.bel.setCell hB _)
  exact ⟨_, _, by omega, (Kb.step (Kb.start gd) (named_pos (fit_low h'.fit) e e1).1 ⟨i, hi, hx'⟩).gd, k1⟩
theorem Rs.end_ (h : Rs w w.heap.size l most L v f r c wr) (e : ¬ (0 ≤ ls c ∧ fr c most = 0)) (ag : Ag c L r q) (e0 : sB c L q = false ∧ sN c L q = 1 ∧ gon L q = false) : RunPost w l most L (.returned (.tuple #[v, .int .i64 ((q : Int) + 1), .int .i64 0])) wr := by
  obtain ⟨f', _, h'⟩ := h.chain e ag
  exact h'.done e e0
theorem Rs.far (h : Rs w B l most L v f r c wr) (e : ¬ (0 ≤ ls c ∧ fr c most = 0)) (ag : Ag c L r q) (hl : l.length ≤ 260) (hL : L.length ≤ 1000) : q ≤ 100000 := by
  obtain ⟨f', _, h'⟩ := h.chain e ag
  exact h'.room hl hL
end

set_option maxHeartbeats 8000000 in
set_option maxRecDepth 100000 in
theorem run_any (w : World) (v u : Value) (l : List S) (L : List Bool) (R : Rd KV w v l) (F : Fit l) (gd : Gd l) (G : Rd KG w u L) (hL : L.length ≤ 1000) (most : Int) : Calls Try.prog 8 #[v, .int .i64 most, u] w (RunPost w l most L) := by
  have hl : l.length ≤ 260 := by have := gd.len; omega
  have CL := Lib.hid (clone_any w v l R hl)
  have HL := Lib.hid hl
  have HLL := Lib.hid hL
  have GD := Lib.hid gd
  have GG := Lib.hid G
  have ST : Hid (∀ u wr, Ow KV wr w.heap.size 41 u l → Below w.heap.size w wr → Rs w w.heap.size l most L u (L.length + l.length + 1) 0 l wr) := fun u wr h b => Rs.start h b F
  obtain ⟨a, cap, rfl, _⟩ := R.slice
  obtain ⟨a', cap', rfl, _⟩ := G.slice
  clear R F gd G hl hL
  go_enter Try.func8, Try.ntmps8
  go_wp2_with fail
  refine CL.out.mono ?_
  rintro e w1 ⟨u, rfl, o1, b1⟩
  obtain ⟨a1, c1, rfl, _, hc1⟩ := o1.slice
  have A1 := Lib.hid (ST.out _ _ o1 b1)
  clear CL o1 b1 ST
  generalize hn : l.length = n at *
  have HN := Lib.hid hn
  clear hn
  generalize hn' : L.length = n' at *
  have HN' := Lib.hid hn'
  clear hn'
  go_wp2
  go_loopg [10] (n' + n + 1) (fun gg z wr => ∃ (r : Nat) (c : List S), z = .int .i64 r ∧ Hid (Rs w w.heap.size l most L (.slice a1 n c1) gg r c wr) ∧ Hid (Gd c))
  case atStart => exact ⟨0, l, rfl, A1, GD⟩
  case round =>
    clear A1 GD
    obtain ⟨r, c, rfl, I, GD⟩ := hrel
    have rm := I.out.room (by rw [HN.out]; exact HL.out) (by rw [HN'.out]; exact HLL.out)
    have CF := Lib.hid (free_any wr _ c I.out.own.rd I.out.fit most)
    have CN := Lib.hid (fun W (b : Below wr.heap.size wr W) => least_any W _ c (I.out.own.rd.below b))
    have G0 := Lib.hid (GG.out.below (I.out.bel))
    have CB := Lib.hid (fun W (b : Below wr.heap.size wr W) => behind_any W _ L (G0.out.below b) r)
    have CS := Lib.hid (fun W u' (b : Below wr.heap.size wr W) (G' : Rd KG W u' (L.drop r)) => find_any W _ u' c (L.drop r) (I.out.own.rd.below b) I.out.fit G' (by rw [List.length_drop]; have := HN'.out; have := HLL.out; omega))
    have HLc := Lib.hid (I.out.len.trans HN.out)
    unfold LeastPost at CN
    unfold FreePost at CF
    generalize lsP c = lp at *
    by_cases hP : 0 ≤ ls c ∧ fr c most = 0
    · have hb : frB c most = false := by
        cases q : frB c most with
        | false => rfl
        | true => have := fr_pos.1 q; omega
      have hls : decide (0 ≤ ls c) = true := decide_eq_true hP.1
      have FULL := Lib.hid (fun w' (b : Below wr.heap.size wr w') => (I.out.below b I.out.bel.size).full hP)
      rw [hb] at CF
      rw [hls] at CN
      clear I CS CB hb G0 hls hP GD
      generalize (fr c most : Int) = m at *
      go_wp2_with fail
      refine CF.out.mono ?_
      rintro e w2 ⟨rfl, b2⟩
      have B2 := Lib.hid b2
      have C3 := Lib.hid (CN.out w2 b2)
      clear b2 CN CF
      go_wp2_with fail
      refine C3.out.mono ?_
      rintro e w3 ⟨rfl, b3⟩
      have E := Lib.hid (FULL.out _ (B2.out.trans (b3.mono B2.out.size)))
      clear b3 C3 FULL B2
      go_wp2
      go_ret3
      exact E.out
    · have HP := Lib.hid hP
      have hcase : decide (0 ≤ ls c) = false ∨ (decide (0 ≤ ls c) = true ∧ frB c most = true) := by
        by_cases q : 0 ≤ ls c
        · exact .inr ⟨decide_eq_true q, fr_pos.2 (Nat.pos_of_ne_zero fun g => hP ⟨q, g⟩)⟩
        · exact .inl (decide_eq_false q)
      clear hP
      have Z0 := Lib.hid hcase
      clear hcase
      generalize decide (0 ≤ ls c) = x at *
      generalize frB c most = y at *
      rcases Z0.out with rfl | ⟨rfl, rfl⟩
      all_goals
        clear Z0
        go_wp2_with fail
        refine CF.out.mono ?_
        rintro e w2 ⟨rfl, b2⟩
        have B2 := Lib.hid b2
        have C3 := Lib.hid (CN.out w2 b2)
        clear b2 CN CF
        go_wp2_with fail
        refine C3.out.mono ?_
        rintro e w3 ⟨rfl, b3⟩
        have B3 := Lib.hid (B2.out.trans (b3.mono B2.out.size))
        have C4 := Lib.hid (CB.out w3 B3.out)
        clear b3 C3 B2 CB
        go_wp2_with fail
        refine C4.out.mono ?_
        rintro e w4 ⟨u4, rfl, g4, b4⟩
        have B4 := Lib.hid (B3.out.trans (b4.mono B3.out.size))
        have C5 := Lib.hid (CS.out w4 u4 B4.out g4)
        obtain ⟨ax, cx, rfl, _⟩ := g4.slice
        clear g4 b4 C4 B3 CS G0
        generalize (L.drop r).length = nx at *
        go_wp2_with fail
        refine C5.out.mono ?_
        rintro e w5 ⟨q, ag, b5, hh⟩
        have AG := Lib.hid ag.drop
        have B5 := B4.out.trans (b5.mono B4.out.size)
        have I5 := Lib.hid (I.out.below B5 I.out.bel.size)
        have q1 := I5.out.far HP.out AG.out (by rw [HN.out]; exact HL.out) (by rw [HN'.out]; exact HLL.out)
        clear ag b5 C5 B4 B5 I
        rcases hh with ⟨e1, rfl⟩ | ⟨e0, rfl⟩
        · rw [sB_drop] at e1
          rw [sP_drop]
          obtain ⟨i, ei, hi, hq⟩ := ix_at (q := qh (sP c L (r + q))) (l := c) (hd_iff.2 (by obtain ⟨_, h⟩ := s_found e1; exact h))
          rw [ei]
          have HE1 := Lib.hid e1
          have HI := Lib.hid hi
          have HQ := Lib.hid hq
          clear e1 ei hq
          obtain ⟨g, cap2, e, hg, hgl, _, _, hfz, hA⟩ := I5.out.own.form (by omega)
          injection e with ea eb ec
          subst ea ec
          obtain ⟨d0, d1⟩ := atV hA (i := i) hi
          simp only [Nat.zero_add] at d0 d1
          have fz := hfz (i * 2 + 1)
          have NXT := Lib.hid (Rs.put (by rw [HLc.out]; exact I5.out) GD.out HP.out AG.out HE1.out HI.out HQ.out hg)
          rw [HLc.out] at NXT
          have hin : i < n := by have := HLc.out; omega
          clear I5 AG HE1 HQ hA hfz hg GD HP eb hi
          generalize sa c i = x at *
          generalize (fr c most : Int) = m at *
          have wa : IntKind.i64.wrap ((r : Int) + ((q : Int) + 66)) = (r : Int) + ((q : Int) + 66) := IntWalk.i64_in _ (by omega)
          have wb : IntKind.i64.wrap ((r : Int) + ((q : Int) + 66) + 1) = (r : Int) + ((q : Int) + 66) + 1 := IntWalk.i64_in _ (by omega)
          go_wp2
          obtain ⟨f', c', hf, gd', I'⟩ := NXT.out
          go_roundg f'
          case rel => exact ⟨r + q + 67, c', by go_num, Lib.hid I', Lib.hid gd'⟩
          case measure => exact hf
        · rw [sB_drop, sN_drop, gon_drop] at e0
          have E := Lib.hid (I5.out.end_ HP.out AG.out e0)
          have wa : IntKind.i64.wrap ((r : Int) + ((q : Int) + 1)) = (r : Int) + ((q : Int) + 1) := IntWalk.i64_in _ (by omega)
          rw [show ((r + q : Nat) : Int) + 1 = (r : Int) + ((q : Int) + 1) by omega] at E
          clear e0 I5 AG GD HP
          go_wp2
          go_ret3
          exact E.out

end Go.Proofs.Ytbbbempdaipmnaa.Bp
