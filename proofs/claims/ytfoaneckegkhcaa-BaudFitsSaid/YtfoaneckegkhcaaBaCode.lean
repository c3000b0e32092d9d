/- baud.Falls and baud.Measure, walked. -/
import Derived.Test.YtfoaneckegkhcaaBaRef
import Derived.Test.YtfoaneckegkhcaaBaSmall
import Derived.Test.YtfoaneckegkhcaaTkParts
namespace Go.Proofs.Ytfoaneckegkhcaa.Ba
open Go.RowKit Go.Proofs.Ytfoaneckegkhcaa.Sp
open Go.Proofs.Ytfoaneckegkhcaa.Tk (GoodP local_any)
open Go.Proofs.Ytfoaneckegkhcaa.Wi (PlainOf Plain Near FallV fallP fall_hit fall_miss idx_hit idx_miss idx_cases join_any rows_one plain_one_of tot)
open Go.Proofs.Ytfoaneckegkhcaa.Srch (search_any)
open Go.Proofs.Ytfoaneckegkhcaa.Sa (Loc_all plain_before plain_span)
open Go.Proofs.Ytfoaneckegkhcaa.Rw (Ow Rd)

theorem plain_le {x : List S2} (hp : Plain x) {i j : Nat} (hij : i ≤ j) (hj : j < x.length) : fr x i ≤ fr x j := by
  rcases Nat.lt_or_ge i j with c | c
  · have := plain_before hp c hj
    have := plain_span hp (show i < x.length by omega)
    omega
  · rw [show i = j by omega]
    exact Int.le_refl _
/-- The beginnings from a tick on lie from there on where the search has come to. -/
theorem starts_found {x : List S2} (hp : Plain x) {f : Int} {r : Nat} (h : Srch.Found (fromF x f) x.length r) : starts x f = (x.map (·.1)).drop r := by
  obtain ⟨_, h1, h2, h3⟩ := h
  have a : ∀ t ∈ (x.take r).map (·.1), t < f := fun t ht => by
    obtain ⟨j, hj, hx, rfl⟩ := mem_take ht
    have e := h3 (by omega)
    have le := plain_le hp (show j ≤ r - 1 by omega) (by omega)
    simp only [fromF, decide_eq_false_iff_not] at e
    rw [show ((r : Int) - 1).toNat = r - 1 by omega] at e
    omega
  have b : ∀ t ∈ (x.drop r).map (·.1), f ≤ t := fun t ht => by
    obtain ⟨s, hs, rfl⟩ := List.mem_map.1 ht
    obtain ⟨j, hj, rfl⟩ := List.mem_iff_getElem.1 hs
    have hj' : j < x.length - r := by simpa using hj
    have e := h2 (by omega)
    have le := plain_le hp (show r ≤ r + j by omega) (by omega)
    simp only [fromF, decide_eq_true_eq, Int.toNat_natCast] at e
    have q : ((x.drop r)[j]).1 = fr x (r + j) := by simp [fr, show r + j < x.length by omega]
    rw [q]
    omega
  have e : x.map (·.1) = (x.take r).map (·.1) ++ (x.drop r).map (·.1) := by rw [← List.map_append, List.take_append_drop]
  unfold starts
  rw [← List.map_drop, e, List.filter_append, filter_none a, filter_all b, List.nil_append]
/-- Where it falls first, by these beginnings. -/
theorem fall_by {x : List S2} (hp : Plain x) (f t : Int) : (starts x f = [] ∧ FallV x f t = (0, false)) ∨
    (0 < (starts x f).length ∧ ((starts x f).getD 0 0 < t → FallV x f t = ((starts x f).getD 0 0, true)) ∧ (t ≤ (starts x f).getD 0 0 → FallV x f t = (0, false))) := by
  rcases idx_cases (fun s => decide (f ≤ s.1)) x with ⟨i, hi, hpi, hn, _⟩ | ⟨hn, _⟩
  · have hpi' : f ≤ fr x i := by simpa using hpi
    have hn' : ∀ j, j < i → fr x j < f := fun j hj => by have := hn j hj; simp at this; omega
    have e := starts_hit hp hi hpi' hn'
    rw [e]
    refine .inr ⟨by simp, fun h => ?_, fun h => ?_⟩
    · have h' : fr x i < t := h
      exact fall_hit (idx_hit hi (by simp [fallP, hpi', h']) fun j hj => by have := hn' j hj; simp [fallP]; omega)
    · have h' : t ≤ fr x i := h
      exact fall_miss (idx_miss fun j hj => by
        rcases Nat.lt_or_ge j i with c | c
        · have := hn' j c
          simp [fallP]
          omega
        · have := plain_le hp c hj
          simp [fallP]
          omega)
  · refine .inl ⟨starts_miss fun j hj => ?_, fall_miss (idx_miss fun j hj => ?_)⟩
    · have := hn j hj
      simp at this
      omega
    · have := hn j hj
      simp [fallP] at this ⊢
      omega

/-- What holds at the head of the loop: the first beginnings from there on. -/
structure LRel (w2 : World) (x : List S2) (r : Nat) (j : Nat) (v : Value) (o : List Int) (wr : World) : Prop where
  own : Ow (Rw.int .i64) wr w2.heap.size 3 v o
  val : o = ((x.map (·.1)).drop r).take j
  bel : Below w2.heap.size w2 wr
theorem LRel.len {w2 : World} {x : List S2} {r j : Nat} {v : Value} {o : List Int} {wr : World} (h : LRel w2 x r j v o wr) : o.length ≤ j := by
  rw [h.val, List.length_take]
  omega
theorem LRel.step {w2 : World} {x : List S2} {r j : Nat} {v v' : Value} {o : List Int} {wr w' : World} (h : LRel w2 x r j v o wr) (hj : r + j < x.length)
    (ho : Ow (Rw.int .i64) w' w2.heap.size 3 v' (o ++ [fr x (r + j)])) (hb : Below w2.heap.size w2 w') : LRel w2 x r (j + 1) v' (o ++ [fr x (r + j)]) w' :=
  ⟨ho, by
    rw [h.val, List.take_add_one, List.getElem?_drop, List.getElem?_map, List.getElem?_eq_getElem hj]
    simp [fr, hj], hb⟩
theorem LRel.done {w2 : World} {x : List S2} {r j : Nat} {v : Value} {o : List Int} {wr : World} {f k m : Int} (h : LRel w2 x r j v o wr) (hs : starts x f = (x.map (·.1)).drop r) (hr : r ≤ x.length)
    (hm : m = k ∧ k ≤ x.length - r ∨ m = (x.length : Int) - r ∧ (x.length : Int) - r ≤ k) (hj : ¬ (j : Int) < m) (hq : (j : Int) ≤ m ∨ j = 0) : o = (starts x f).take k.toNat := by
  rw [h.val, hs]
  have hl : ((x.map (·.1)).drop r).length = x.length - r := by simp
  rcases hm with ⟨rfl, hk⟩ | ⟨rfl, hk⟩
  · rw [show j = m.toNat by omega]
  · rw [List.take_of_length_le (by omega), List.take_of_length_le (by omega)]

/-- A list of ticks that the call has made, of the one plain list. -/
def FallsOne (w : World) (l : List S2) (f k : Int) (e : Ending) (w' : World) : Prop := ∃ x v o, PlainOf l x ∧ e = .returned v ∧ Ow (Rw.int .i64) w' w.heap.size 3 v o ∧ o = (starts x f).take k.toNat ∧ Below w.heap.size w w'

set_option maxHeartbeats 1000000 in
theorem falls_one (w : World) (u : Value) (l : List S2) (P : Sp w u l) (hl : l.length < 1099511627776) (f k : Int) (k20 : k ≤ 20) : Calls Try.prog 10 #[u, .int .i64 f, .int .i64 k] w (FallsOne w l f k) := by
  have eg : ∀ args w, (callFunc 20 args).run Try.prog w = .ok (.enter 20 args) w := enters_of Try.func20 (by kernel_rfl) rfl
  have hb1 : Below w.heap.size w (w.alloc (.cells #[.int .i64 f] 3)) := (Below.refl _ _).alloc (Nat.le_refl _) _
  have j := join_any ((w.alloc (.cells #[.int .i64 f] 3)).alloc (.cells #[u] 22)) _ [l] (rows_one (P.below hb1)) (by show 0 + l.length < _; omega)
  have ez : (w.alloc (.cells #[.int .i64 f] 3)).heap.size = w.heap.size + 1 := by simp
  rw [ez] at j
  clear ez
  have J := Lib.hid j
  have HB1 := Lib.hid hb1
  have EG := Lib.hid eg
  obtain ⟨a, cap, rfl, _⟩ := P.slice
  clear j hb1 eg P
  have hmf : ∀ (fn : Fn) (first cap : Array Value) (w : World), (Instr.makeFunc fn first cap).run Try.prog w = .ok (.func fn first cap) w := fun _ _ _ _ => rfl
  go_enter Try.func10, Try.ntmps10
  go_wp2_with fail
  refine J.out.mono ?_
  rintro e w1 ⟨v1, x, rfl, hown, hj, b1⟩
  have PO := Lib.hid (plain_one_of hj)
  have hxl : x.length < 1099511627776 := by have := hj.len; have e : tot [l] [l].length = 0 + l.length := rfl; omega
  have hsp := hown.sp
  have B1 : Below w.heap.size w w1 := (HB1.out.alloc (by first | (simp; done) | (simp; omega)) _).trans (b1.mono (by first | (simp; done) | (simp; omega)))
  have f1 : w1.cell? ⟨w.heap.size, 0, none⟩ = some (.int .i64 f) := (b1.cell (by first | (simp; done) | (simp; omega))).trans (by go_simp)
  have B2 : Below w1.heap.size w1 (w1.alloc (.cells #[v1] 22)) := (Below.refl _ _).alloc (Nat.le_refl _) _
  have f2 : (w1.alloc (.cells #[v1] 22)).cell? ⟨w.heap.size, 0, none⟩ = some (.int .i64 f) := (B2.cell (World.block_lt_of_cell? _ _ f1)).trans f1
  have C := Lib.hid (search_any (w1.alloc (.cells #[v1] 22)) 20 #[.pointer (some ⟨w1.heap.size, 0, none⟩), .pointer (some ⟨w.heap.size, 0, none⟩)] (fromF x f) x.length EG.out (by omega) (by omega) (bclos_any _ w1.heap.size w.heap.size f v1 x f2 (by go_simp) (hsp.below B2)))
  have BB := Lib.hid (B1.trans (B2.mono B1.size))
  have SP := Lib.hid (hsp.below B2)
  obtain ⟨a1, cap1, rfl, _⟩ := hsp.slice
  clear hown hj b1 hsp B1 B2 f1 f2
  go_wp2_with fail
  refine C.out.mono ?_
  rintro e w2 ⟨r, rfl, hf, b2⟩
  obtain ⟨r, rfl⟩ := Int.eq_ofNat_of_zero_le hf.1
  have HS := Lib.hid (starts_found PO.out.1 hf)
  have r1 : r ≤ x.length := by have := hf.2.1; omega
  have x3 : w2.cell? ⟨w1.heap.size, 0, none⟩ = some (.slice a1 x.length cap1) := (b2.cell (by simp)).trans (by go_simp)
  have SP2 := Lib.hid (SP.out.below b2)
  have B2 := Lib.hid (BB.out.trans (b2.mono BB.out.size))
  have z2 := B2.out.size
  clear hf b2 C EG J BB SP
  obtain ⟨_, _, eq, q1, q2, hA0⟩ := SP2.out
  injection eq with e1 e2 e3
  subst e1 e3
  have HA0 := Lib.hid hA0
  clear hA0 e2
  unfold maxLen at q2
  generalize hn : x.length = n at *
  have HN := Lib.hid hn
  clear hn
  go_wp2
  have hm : min k ((n : Int) - r) = k ∧ k ≤ n - r ∨ min k ((n : Int) - r) = (n : Int) - r ∧ (n : Int) - r ≤ k := by omega
  generalize min k ((n : Int) - r) = m at *
  have HM := Lib.hid hm
  have hm1 : m ≤ (n : Int) - r := by omega
  have hm2 : m ≤ 20 := by omega
  clear hm
  go_loopw [9, 24] (fun v i wr => ∃ (j : Nat) (o : List Int), ((j : Int) ≤ m ∨ j = 0) ∧ i = .int .i64 j ∧ Hid (LRel w2 x r j v o wr)) (fun _ i _ => 20 - (intOf i).toNat)
  case atStart => exact ⟨0, [], .inr rfl, rfl, Ow.nil _ _ _, rfl, Below.refl _ _⟩
  case round =>
    obtain ⟨j, o, hj, rfl, F⟩ := hrel
    by_cases hlt : (j : Int) < m
    · obtain ⟨b, off, rfl, hA⟩ := HA0.out (by omega)
      have c1 := (F.out.bel.cell (World.block_lt_of_cell? _ _ (hA (r + j) (by have := HN.out; omega)).1)).trans (hA (r + j) (by have := HN.out; omega)).1
      have d3 := (F.out.bel.cell (World.block_lt_of_cell? _ _ x3)).trans x3
      have HA := Lib.hid hA
      have ol := F.out.len
      have zr := F.out.bel.size
      clear hA
      go_wp2_with (at_builtin; refine Rw.push_step Try.underlying33 infoI rfl (by omega) rfl _ _ rfl w2.heap.size _ _ rfl (F.out.own.alloc _) _ (fr x (r + j)) rfl ?c1 ?c2 ?c3 ?_)
      case c1 =>
        intro i u hu
        match i, hu with
        | 0, hu => simp [Rw.int] at hu; subst hu; rw [Wi.addr_zero]; go_simp
      case c2 => omega
      case c3 => simp; omega
      intro v' w3 o3 b3
      have F2 := Lib.hid (F.out.step (by have := HN.out; omega) o3 ((F.out.bel.alloc zr _).trans b3))
      clear o3 b3
      go_wp2
      go_roundw
      case rel => exact ⟨j + 1, o ++ [fr x (r + j)], .inl (by omega), by go_num, F2⟩
      case measure => simp [intOf]; omega
    · have E := Lib.hid (F.out.done HS.out (by have := HN.out; omega) (by rw [HN.out]; exact HM.out) hlt hj)
      go_wp2
      go_ret
      exact ⟨x, _, o, PO.out, rfl, F.out.own.low z2, E.out, B2.out.trans (F.out.bel.mono z2)⟩

theorem falls_any (w : World) (u : Value) (l : List S2) (P : Sp w u l) (_ : Near l) (hl : l.length < 1099511627776) (f k : Int) (_ : 0 ≤ f) (k20 : k ≤ 20) : Calls Try.prog 10 #[u, .int .i64 f, .int .i64 k] w (FallsPost w l f k) :=
  (falls_one w u l P hl f k k20).mono fun e w' ⟨x, v, o, hx, he, ho, hv, hb⟩ => ⟨v, o, he, ho, fun y hy => by rw [hy.one hx]; exact hv, hb⟩

set_option maxHeartbeats 2000000 in
theorem measure_any (w : World) (v u : Value) (l : List S2) (P : Sp w v l) (_ : Near l) (hl : l.length < 1099511627776) (n : Nat) (A R : Nat → Int) (S : Tk.Steps w u n A R) (g : GoodP n A R) (f t : Int) (_ : 0 ≤ f) :
    Calls Try.prog 8 #[v, u, .int .i64 f, .int .i64 t] w (MeasPost w l A R n f t) := by
  have FO := Lib.hid (falls_one w v l P hl f 5 (by omega))
  have S0 := Lib.hid S
  have G := Lib.hid g
  obtain ⟨a, cap, rfl, _⟩ := P.slice
  clear P S g
  go_enter Try.func8, Try.ntmps8
  go_wp2_with fail
  refine FO.out.mono ?_
  rintro e w2 ⟨x, v2, o, hx, rfl, o2, ho, b2⟩
  have PX := Lib.hid hx
  have HO := Lib.hid ho
  have B2 := Lib.hid b2
  have S2 := Lib.hid (S0.out.below b2)
  have O2 := Lib.hid o2
  have ol : o.length = min 5 (starts x f).length := by rw [ho, List.length_take]; rfl
  obtain ⟨a2, cap2, rfl, h1, h2⟩ := o2.slice
  have FB := fall_by hx.1 f t
  clear hx o2 ho b2 S0 FO
  unfold maxLen at h2
  rcases FB with ⟨hs, hv⟩ | ⟨hs, hy, hn⟩
  · have E := Lib.hid (meas_none (A := A) (R := R) (n := n) hv)
    have l0 : o.length = 0 := by rw [ol, hs]; rfl
    rw [l0] at h1 ⊢
    clear hs hv ol l0
    go_wp2
    go_ret2
    exact ⟨x, PX.out, ret_meas E.out, B2.out⟩
  · have hpos : 0 < o.length := by omega
    have e0 : o.getD 0 0 = (starts x f).getD 0 0 := by rw [HO.out, List.getD, List.getElem?_take, if_pos (by decide)]; rfl
    obtain ⟨g2, cap3, es, _, _, _, _, _, hA⟩ := O2.out.form hpos
    have c0 := hA 0 hpos 0 _ rfl
    have d0 : w2.cell? ⟨g2, 0, none⟩ = some (.int .i64 (o.getD 0 0)) := c0
    injection es with es1 es2 es3
    subst es1
    have HA := Lib.hid hA
    clear hA c0 es2 es3
    by_cases ht : t ≤ (starts x f).getD 0 0
    · have E := Lib.hid (meas_none (A := A) (R := R) (n := n) (hn ht))
      rw [← e0] at ht
      clear hs hy hn e0
      generalize o.getD 0 0 = t0 at *
      generalize o.length = m at *
      clear ol
      go_wp2
      go_ret2
      exact ⟨x, PX.out, ret_meas E.out, B2.out⟩
    · have HV := Lib.hid (hy (by omega))
      by_cases h5 : 5 ≤ (starts x f).length
      · have E := Lib.hid (meas_yes (A := A) (R := R) (n := n) HV.out h5)
        have l5 : o.length = 5 := by omega
        have e4 : o.getD 4 0 = (starts x f).getD 4 0 := by rw [HO.out, List.getD, List.getElem?_take, if_pos (by decide)]; rfl
        have d4 : w2.cell? ⟨g2, 4, none⟩ = some (.int .i64 (o.getD 4 0)) := HA.out 4 (by omega) 0 _ rfl
        rw [← e0] at ht
        rw [← e0, ← e4] at E
        clear hs hy hn HV e0 e4 HO HA O2 ol
        rw [l5] at h1 ⊢
        clear l5 hpos
        generalize o.getD 0 0 = t0 at *
        generalize o.getD 4 0 = t4 at *
        have k0 := Loc_all A R n G.out t0
        have k4 := Loc_all A R n G.out t4
        have W0 : IntKind.i64.wrap (Tk.Loc A R n t4 - Tk.Loc A R n t0) = Tk.Loc A R n t4 - Tk.Loc A R n t0 := IntWalk.i64_in _ (by omega)
        go_wp2_with fail
        have q0 := Sd.cell_by d0
        have q4 := Sd.cell_by d4
        refine Sd.start [(false, 0), (false, 1), (false, 2), (false, 3), (false, 5), (false, 6), (false, 7), (false, 8), (true, 4), (true, 9), (false, 10), (false, 11), (false, 12)] (by kernel_rfl) (by kernel_rfl) (by kernel_rfl) ?_
        dsimp only [Sd.picks, List.getElem?_cons_succ, List.getElem?_cons_zero]
        repeat (refine Sd.lit ?_; quiet_step (fail); refine wpQuiet_nil ?_)
        refine Sd.call (by rfl) (fun K hK => ?_)
        go_simp
        refine (local_any _ u n A R (S2.out.below ((Below.refl _ _).drew)) G.out t4).mono ?_
        rintro e w3 ⟨rfl, b3⟩
        have C3 := Lib.hid (Below.trans ((Below.refl w2.heap.size w2).drew) b3)
        refine hK _ _ (Sd.Cl.of C3.out) ?_
        clear hK K b3
        refine Sd.call (by rfl) (fun K hK => ?_)
        go_simp
        refine (local_any _ u n A R (S2.out.below C3.out) G.out t0).mono ?_
        rintro e w4 ⟨rfl, b4⟩
        have C4 := Lib.hid (C3.out.trans (b4.mono C3.out.size))
        refine hK _ _ (Sd.Cl.of C4.out) ?_
        clear hK K b4
        repeat (refine Sd.lit ?_; quiet_step (fail); refine wpQuiet_nil ?_)
        refine Sd.done ?_
        go_wp2
        go_ret2
        exact ⟨x, PX.out, ret_meas E.out, B2.out.trans (C4.out.mono B2.out.size)⟩
      · have E := Lib.hid (meas_few (A := A) (R := R) (n := n) HV.out h5)
        have l5 : o.length < 5 := by omega
        rw [← e0] at ht
        clear hs hy hn HV e0 HO HA O2 ol
        generalize o.getD 0 0 = t0 at *
        generalize o.length = m at *
        have m0 : ((m : Int) == 0) = false := by simp; omega
        go_wp2
        go_ret2
        exact ⟨x, PX.out, ret_meas E.out, B2.out⟩

end Go.Proofs.Ytfoaneckegkhcaa.Ba
