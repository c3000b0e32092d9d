/- The document's own functions of layer 7; the spans that its statement takes. -/
import Derived.Test.YtfoaneckegkhcaaBaMath
import Derived.Test.YtfoaneckegkhcaaRw
import Derived.Test.YtfoaneckegkhcaaTkGlob
import Derived.Test.YtfoaneckegkhcaaWiBase
import Derived.Test.YtfoaneckegkhcaaSd
namespace Go.Proofs.Ytfoaneckegkhcaa.Ba
open Go.RowKit Go.Proofs.Ytfoaneckegkhcaa.Sp
open Go.Proofs.Ytfoaneckegkhcaa.Tk (GoodP rlocal_any)
open Go.Proofs.Ytfoaneckegkhcaa.Wi (PlainOf Near FallV rfall_any Few FewRel Made push_step near_nil near_snoc)
open Go.Proofs.Ytfoaneckegkhcaa.Sa (Loc_all)
open Go.Proofs.Ytfoaneckegkhcaa.Rw (Ow Rd)

/-- A list of ticks that the call has made: the first ones at which the line falls. -/
def FallsPost (w : World) (l : List S2) (f k : Int) (e : Ending) (w' : World) : Prop := ∃ v o, e = .returned v ∧ Ow (Rw.int .i64) w' w.heap.size 3 v o ∧ (∀ x, PlainOf l x → o = (starts x f).take k.toNat) ∧ Below w.heap.size w w'
theorem infoI : (Try.prog.info? 3).map (fun i => (i.zero, i.size, i.bytes)) = some (some (.int .i64 0), 1, 8) := by kernel_rfl

/-- What holds at the head of the loop over the falls. -/
structure FRel (w : World) (l : List S2) (f k : Int) (j : Nat) (c : Int) (v : Value) (o : List Int) (wr : World) : Prop where
  own : Ow (Rw.int .i64) wr w.heap.size 3 v o
  len : o.length = j
  most : (j : Int) ≤ k ∨ j = 0
  at_ : ∀ x, PlainOf l x → o ++ starts x c = starts x f
  bel : Below w.heap.size w wr
theorem FRel.all {w : World} {l : List S2} {f k : Int} {j : Nat} {c : Int} {v : Value} {o : List Int} {wr : World} (h : FRel w l f k j c v o wr) (hj : k ≤ j) (x : List S2) (hx : PlainOf l x) : o = (starts x f).take k.toNat := by
  have e : k.toNat = o.length := by have := h.len; have := h.most; omega
  rw [← h.at_ x hx, e, List.take_left]
theorem FRel.none {w : World} {l : List S2} {f k : Int} {j : Nat} {c : Int} {v : Value} {o : List Int} {wr : World} (h : FRel w l f k j c v o wr) (hj : j < k) {y : List S2} (hy : PlainOf l y) (e : starts y c = []) (x : List S2) (hx : PlainOf l x) : o = (starts x f).take k.toNat := by
  have a := h.at_ x hx
  rw [hx.one hy] at a ⊢
  rw [e, List.append_nil] at a
  rw [← a, List.take_of_length_le (by have := h.len; omega)]
theorem FRel.step {w : World} {l : List S2} {f k : Int} {j : Nat} {c : Int} {v v' : Value} {o : List Int} {wr w' : World} (h : FRel w l f k j c v o wr) (hj : j < k) {y : List S2} (hy : PlainOf l y) {t : Int} (e : starts y c = t :: starts y (t + 1))
    (ho : Ow (Rw.int .i64) w' w.heap.size 3 v' (o ++ [t])) (hb : Below w.heap.size w w') : FRel w l f k (j + 1) (t + 1) v' (o ++ [t]) w' :=
  ⟨ho, by rw [List.length_append, h.len]; rfl, .inl (by omega), fun x hx => by
    have a := h.at_ x hx
    rw [hx.one hy] at a ⊢
    rw [e] at a
    rw [List.append_assoc]
    exact a, hb⟩

set_option maxHeartbeats 1000000 in
theorem rfalls_any (w : World) (u : Value) (l : List S2) (P : Sp w u l) (N : Near l) (f k : Int) (k20 : k ≤ 20) : Calls Try.prog 11 #[u, .int .i64 f, .int .i64 k] w (FallsPost w l f k) := by
  have P0 := Lib.hid P
  have NL := Lib.hid N
  clear P N
  go_enter Try.func11, Try.ntmps11
  go_wp2
  go_loopw [1, 7, 8] (fun c v i wr => ∃ (j : Nat) (c' : Int) (o : List Int), j ≤ 20 ∧ i = .int .i64 j ∧ c = .int .i64 c' ∧ Hid (FRel w l f k j c' v o wr)) (fun _ _ i _ => 20 - (intOf i).toNat)
  case atStart => exact ⟨0, f, [], by omega, rfl, rfl, Ow.made _ _ _ (Nat.le_refl _), rfl, .inr rfl, fun x _ => rfl, (Below.refl _ _).alloc (Nat.le_refl _) _⟩
  case round =>
    obtain ⟨j, c, o, hj, rfl, rfl, F⟩ := hrel
    by_cases hlt : (j : Int) < k
    · go_wp2_with fail
      refine (rfall_any wr u l (P0.out.below F.out.bel) NL.out c 2199023255552).mono ?_
      rintro e w1 ⟨x, hx, rfl, b1⟩
      have PX := Lib.hid hx
      have O1 := Lib.hid (F.out.own.keep b1)
      have B1 := Lib.hid (F.out.bel.trans (b1.mono F.out.bel.size))
      have z1 := B1.out.size
      have hb : ∀ i, i < x.length → fr x i < 2199023255552 := fun i hi => by have := near_starts NL.out hx i hi; omega
      have lo := F.out.len
      clear b1
      rcases fall_starts hx.1 (c := c) hb with ⟨t, ft, fs, t0, t1, tl⟩ | ⟨ft, fs⟩
      · rw [ft]
        have t2 := (NL.out.low ((hx.2 _).1 tl)).1
        clear tl
        have FS := Lib.hid fs
        clear ft fs hb hx
        go_wp2_with (at_builtin; refine Rw.push_step Try.underlying33 infoI rfl (by omega) rfl _ _ rfl w.heap.size _ _ rfl (O1.out.alloc _) _ t rfl ?c1 ?c2 ?c3 ?_)
        case c1 =>
          intro j u hu
          match j, hu with
          | 0, hu => simp [Rw.int] at hu; subst hu; rw [Wi.addr_zero]; go_simp
        case c2 => omega
        case c3 => simp; omega
        intro v' w2 o2 b2
        have F2 := Lib.hid (F.out.step hlt PX.out FS.out o2 ((B1.out.alloc z1 _).trans b2))
        clear o2 b2
        go_wp2
        go_roundw
        case rel => exact ⟨j + 1, t + 1, o ++ [t], by omega, by go_num, by go_num, F2⟩
        case measure => simp [intOf]; omega
      · rw [ft]
        have FN := Lib.hid (fun x hx => F.out.none hlt PX.out fs x hx)
        clear ft fs hb hx
        go_wp2
        go_ret
        exact ⟨_, o, rfl, O1.out, FN.out, B1.out⟩
    · have FA := Lib.hid (fun x hx => F.out.all (by omega) x hx)
      go_wp2
      go_ret
      exact ⟨_, o, rfl, F.out.own, FA.out, F.out.bel⟩

def MeasPost (w : World) (l : List S2) (A R : Nat → Int) (n : Nat) (f t : Int) (e : Ending) (w' : World) : Prop :=
  ∃ x, PlainOf l x ∧ e = .returned (.tuple #[.int .i64 (MeasV x A R n f t).1, .int .i64 (MeasV x A R n f t).2]) ∧ Below w.heap.size w w'
theorem ret_meas {a c : Int} {q : Int × Int} (h : (a, c) = q) : Ending.returned (.tuple #[.int .i64 a, .int .i64 c]) = .returned (.tuple #[.int .i64 q.1, .int .i64 q.2]) := by rw [← h]

set_option maxHeartbeats 2000000 in
theorem rmeasure_any (w : World) (v u : Value) (l : List S2) (P : Sp w v l) (N : Near l) (n : Nat) (A R : Nat → Int) (S : Tk.Steps w u n A R) (g : GoodP n A R) (f t : Int) :
    Calls Try.prog 9 #[v, u, .int .i64 f, .int .i64 t] w (MeasPost w l A R n f t) := by
  have P0 := Lib.hid P
  have S0 := Lib.hid S
  have G := Lib.hid g
  have NL := Lib.hid N
  clear P S g N
  go_enter Try.func9, Try.ntmps9
  go_wp2_with fail
  refine (rfall_any _ _ _ P0.out NL.out f t).mono ?_
  rintro e w1 ⟨x, hx, rfl, b1⟩
  have PX := Lib.hid hx
  have B1 := Lib.hid b1
  have P1 := Lib.hid (P0.out.below b1)
  have S1 := Lib.hid (S0.out.below b1)
  clear b1 hx P0 S0
  generalize hv : FallV x f t = q
  obtain ⟨p, y⟩ := q
  cases y with
  | false =>
    have E := Lib.hid (meas_none (A := A) (R := R) (n := n) hv)
    clear hv
    go_wp2
    go_ret2
    exact ⟨x, PX.out, ret_meas E.out, B1.out⟩
  | true =>
    have HV := Lib.hid hv
    clear hv
    go_wp2_with fail
    refine (rfalls_any _ _ _ P1.out NL.out f 5 (by omega)).mono ?_
    rintro e w2 ⟨v2, o, rfl, o2, ho, b2⟩
    have HO := Lib.hid (ho x PX.out)
    have B2 := Lib.hid (B1.out.trans (b2.mono B1.out.size))
    have S2 := Lib.hid (S1.out.below b2)
    have O2 := Lib.hid o2
    obtain ⟨a2, cap2, rfl, h1, h2⟩ := o2.slice
    clear o2 ho b2 S1 P1
    unfold maxLen at h2
    by_cases h5 : 5 ≤ (starts x f).length
    · have E := Lib.hid (meas_yes (A := A) (R := R) (n := n) HV.out h5)
      have l5 : o.length = 5 := by rw [HO.out, List.length_take]; show min (Int.toNat 5) _ = 5; simp; omega
      have e0 : o.getD 0 0 = (starts x f).getD 0 0 := by rw [HO.out, List.getD, List.getElem?_take, if_pos (by decide)]; rfl
      have e4 : o.getD 4 0 = (starts x f).getD 4 0 := by rw [HO.out, List.getD, List.getElem?_take, if_pos (by decide)]; rfl
      rw [← e0, ← e4] at E
      obtain ⟨g2, cap3, es, _, _, _, _, _, hA⟩ := O2.out.form (by omega)
      have c0 := hA 0 (by omega) 0 _ rfl
      have c4 := hA 4 (by omega) 0 _ rfl
      have d0 : w2.cell? ⟨g2, 0, none⟩ = some (.int .i64 (o.getD 0 0)) := c0
      have d4 : w2.cell? ⟨g2, 4, none⟩ = some (.int .i64 (o.getD 4 0)) := c4
      injection es with es1 es2 es3
      subst es1
      clear hA c0 c4 e0 e4 HO es2 es3 O2
      rw [l5] at h1 ⊢
      clear l5
      generalize o.getD 0 0 = t0 at *
      generalize o.getD 4 0 = t4 at *
      have k0 := Loc_all A R n G.out t0
      have k4 := Loc_all A R n G.out t4
      have W0 : IntKind.i64.wrap (Tk.Loc A R n t4 - Tk.Loc A R n t0) = Tk.Loc A R n t4 - Tk.Loc A R n t0 := IntWalk.i64_in _ (by omega)
      go_wp2_with fail
      have q0 := Sd.cell_by d0
      have q4 := Sd.cell_by d4
      refine Sd.start [(false, 0), (false, 1), (false, 2), (false, 3), (false, 5), (false, 6), (false, 7), (false, 8), (true, 4), (true, 9), (false, 10), (false, 11), (false, 12)] (by kernel_rfl) (by kernel_rfl) (by kernel_rfl) ?_
      dsimp only [Sd.picks, List.getElem?_cons_succ, List.getElem?_cons_zero]
      repeat (refine Sd.lit ?_; quiet_step (fail); refine wpQuiet_nil ?_)
      refine Sd.call (by rfl) (fun K hK => ?_)
      go_simp
      refine (rlocal_any _ u n A R (S2.out.below ((Below.refl _ _).drew)) G.out t4).mono ?_
      rintro e w3 ⟨rfl, b3⟩
      have C3 := Lib.hid (Below.trans ((Below.refl w2.heap.size w2).drew) b3)
      refine hK _ _ (Sd.Cl.of C3.out) ?_
      clear hK K b3
      refine Sd.call (by rfl) (fun K hK => ?_)
      go_simp
      refine (rlocal_any _ u n A R (S2.out.below C3.out) G.out t0).mono ?_
      rintro e w4 ⟨rfl, b4⟩
      have C4 := Lib.hid (C3.out.trans (b4.mono C3.out.size))
      refine hK _ _ (Sd.Cl.of C4.out) ?_
      clear hK K b4
      repeat (refine Sd.lit ?_; quiet_step (fail); refine wpQuiet_nil ?_)
      refine Sd.done ?_
      go_wp2
      go_ret2
      exact ⟨x, PX.out, ret_meas E.out, B2.out.trans (C4.out.mono B2.out.size)⟩
    · have E := Lib.hid (meas_few (A := A) (R := R) (n := n) HV.out h5)
      have l5 : o.length < 5 := by rw [HO.out, List.length_take]; omega
      generalize o.length = m at *
      go_wp2
      go_ret2
      exact ⟨x, PX.out, ret_meas E.out, B2.out⟩

set_option maxHeartbeats 800000 in
theorem few_any (w : World) (v : Value) (l : List S2) (h : Sp w v l) : Calls Try.prog 7 #[v] w (Made w Few) := by
  obtain ⟨a, cap, rfl, h1, h2, h3⟩ := h
  have H3 := Lib.hid h3
  clear h3
  generalize hn : l.length = n at *
  have HN := Lib.hid hn
  clear hn
  unfold maxLen at h2
  go_enter Try.func7, Try.ntmps7
  go_wp2
  go_loopw [3, 4] (fun v i wr => ∃ k : Nat, k ≤ n ∧ k ≤ 16 ∧ i = .int .i64 k ∧ FewRel w.heap.size w v k wr) (fun _ i _ => n - (intOf i).toNat)
  case atStart => exact ⟨0, Nat.zero_le _, by omega, rfl, [], Own.made _ _ _ (Nat.le_refl _), by simp, near_nil, (Below.refl _ _).alloc (Nat.le_refl _) _, rfl⟩
  case round =>
    obtain ⟨k, hk, hk2, rfl, x, hown, hx, hN, hb, _⟩ := hrel
    have hB := hb.size
    by_cases hlt : k < n
    · by_cases h20 : k < 16
      · obtain ⟨b, off, rfl, hA⟩ := H3.out (by omega)
        obtain ⟨c1, c2⟩ := hA k (by have := HN.out; omega)
        have d1 := (hb.cell (World.block_lt_of_cell? _ _ c1)).trans c1
        have d2 := (hb.cell (World.block_lt_of_cell? _ _ c2)).trans c2
        have HA := Lib.hid hA
        clear c1 c2 hA
        by_cases h4 : -1099511627776 ≤ fr l k ∧ fr l k ≤ 1099511627776 ∧ -1099511627776 ≤ tp l k ∧ tp l k ≤ 1099511627776
        · obtain ⟨p0, p1, q0, q1⟩ := h4
          go_wp2_with (at_builtin; refine push_step rfl _ _ rfl w.heap.size _ _ rfl ((hown.alloc _).alloc _) _ (fr l k) (tp l k) rfl ?c1 ?c2 ?c3 ?c4 ?_)
          case c3 => omega
          case c4 => omega
          intro v' w1 hown1 hb1
          have R : FewRel w.heap.size w v' (k + 1) w1 := ⟨_, hown1, by simp; omega, near_snoc hN p0 p1 q0 q1, ((hb.alloc hB _).alloc (by simp; omega) _).trans hb1, rfl⟩
          clear hown1 hb1 hown
          go_wp2
          go_roundw
          case rel => exact ⟨k + 1, by omega, by omega, by go_num, R⟩
          case measure => simp [intOf]; omega
        · have R : FewRel w.heap.size w _ (k + 1) (wr.alloc (.cells #[.int .i64 (fr l k), .int .i64 (tp l k)] 45)) := ⟨x, hown.alloc _, by omega, hN, hb.alloc hB _, rfl⟩
          clear hown hb
          go_wp2
          all_goals first
            | (exfalso; omega)
            | (go_roundw
               case rel => exact ⟨k + 1, by omega, by omega, by go_num, R⟩
               case measure => simp [intOf]; omega)
      · go_wp2
        go_ret
        exact ⟨_, x, rfl, hown, ⟨by omega, hN⟩, hb⟩
    · go_wp2
      go_ret
      exact ⟨_, x, rfl, hown, ⟨by omega, hN⟩, hb⟩

end Go.Proofs.Ytfoaneckegkhcaa.Ba
