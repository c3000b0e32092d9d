/- wire.Meet: is there a tick at which both are low? -/
import Derived.Test.YtajmigiagmdoeaaWiFall
import Derived.Shelf.SlSortCmp.QuietGrown
namespace Go.Proofs.Ytajmigiagmdoeaa.Wi
open Go.RowKit Go.Sort Go.Proofs.Ytajmigiagmdoeaa.Sp

/-- What is asked of a predicate on numbers. -/
def PredN (g : Nat) (lb : Array Value) (f : Int → Bool) (n : Int) (w : World) : Prop :=
  ∀ (W : World) (i : Int), 0 ≤ i → i < n → Below w.heap.size w W → Calls Try.prog g (#[.int .i64 i] ++ lb) W fun e w' => e = .returned (.bool (f i)) ∧ Below w.heap.size w w'
/-- What a search hands back. -/
def Found (f : Int → Bool) (n r : Int) : Prop := 0 ≤ r ∧ r ≤ n ∧ (r < n → f r = true) ∧ (0 < r → f (r - 1) = false)
def FoundPost (w : World) (f : Int → Bool) (n : Int) (e : Ending) (w' : World) : Prop := ∃ r, e = .returned (.int .i64 r) ∧ Found f n r ∧ Below w.heap.size w w'

set_option maxHeartbeats 1000000 in
theorem search_any (w : World) (g : Nat) (lb : Array Value) (f : Int → Bool) (n : Int) (eg : ∀ args w, (callFunc g args).run Try.prog w = .ok (.enter g args) w) (h0 : 0 ≤ n) (h1 : n ≤ 4611686018427387904) (hp : PredN g lb f n w) :
    Calls Try.prog 21 #[.int .i64 n, .func (.func g) #[] lb] w (FoundPost w f n) := by
  have HP := Lib.hid hp
  clear hp
  go_enter Try.func21, Try.ntmps21
  go_wp2
  go_loopw [5, 6] (fun i j wr => ∃ lo hi : Int, 0 ≤ lo ∧ lo ≤ hi ∧ hi ≤ n ∧ i = .int .i64 lo ∧ j = .int .i64 hi ∧ Hid (0 < lo → f (lo - 1) = false) ∧ Hid (hi < n → f hi = true) ∧ Hid (Below w.heap.size w wr)) (fun i j _ => (intOf j - intOf i).toNat)
  case atStart => exact ⟨0, n, by omega, by omega, by omega, rfl, rfl, fun h => by omega, fun h => by omega, Below.refl _ _⟩
  case round =>
    obtain ⟨lo, hi, a0, a1, a2, rfl, rfl, il, ih, hb⟩ := hrel
    by_cases hlt : lo < hi
    · have c := HP.out wr ((lo + hi) / 2) (by omega) (by omega) hb.out
      cases hm : f ((lo + hi) / 2) with
      | true =>
        rw [hm] at c
        have C := Lib.hid c
        have HM := Lib.hid hm
        clear c hm
        go_wp2_with fail
        refine C.out.mono ?_
        rintro e w1 ⟨rfl, hb1⟩
        have HB1 := Lib.hid hb1
        clear hb1
        go_wp2
        go_roundw
        case rel => exact ⟨lo, (lo + hi) / 2, a0, by omega, by omega, rfl, rfl, il, fun _ => HM.out, HB1⟩
        case measure => simp [intOf]; omega
      | false =>
        rw [hm] at c
        have C := Lib.hid c
        have HM : Hid (0 < (lo + hi) / 2 + 1 → f ((lo + hi) / 2 + 1 - 1) = false) := fun _ => by rw [show (lo + hi) / 2 + 1 - 1 = (lo + hi) / 2 by omega]; exact hm
        clear c hm
        go_wp2_with fail
        refine C.out.mono ?_
        rintro e w1 ⟨rfl, hb1⟩
        have HB1 := Lib.hid hb1
        clear hb1
        go_wp2
        go_roundw
        case rel => exact ⟨(lo + hi) / 2 + 1, hi, by omega, by omega, by omega, rfl, rfl, HM, ih, HB1⟩
        case measure => simp [intOf]; omega
    · obtain rfl : lo = hi := by omega
      go_wp2
      go_ret
      exact ⟨lo, rfl, ⟨a0, a2, ih.out, il.out⟩, hb.out⟩

theorem plain_apart {x : List S2} (h : Plain x) {i j : Nat} (hij : i < j) (hj : j < x.length) : tp x i < fr x j := by
  have := (List.pairwise_iff_getElem.1 h.2) i j (by omega) hj hij
  simpa [tp, fr, hj, show i < x.length by omega] using this
theorem plain_ticks {x : List S2} (h : Plain x) {i : Nat} (hi : i < x.length) : fr x i < tp x i := h.1 _ (mem_fr hi)
theorem plain_up {x : List S2} (h : Plain x) {i j : Nat} (hij : i ≤ j) (hj : j < x.length) : tp x i ≤ tp x j ∧ fr x i ≤ fr x j := by
  rcases Nat.lt_or_ge i j with c | c
  · have a := plain_apart h c hj
    have b := plain_ticks h hj
    have d := plain_ticks h (show i < x.length by omega)
    omega
  · rw [show i = j by omega]; exact ⟨Int.le_refl _, Int.le_refl _⟩

/-- Does a span meet the plain list? -/
noncomputable def hitB (x : List S2) (s : S2) : Bool := @decide (∃ t, (s.1 ≤ t ∧ t < s.2) ∧ Low x t) (Classical.propDecidable _)
theorem hit_true {x : List S2} {s : S2} (h : ∃ t, (s.1 ≤ t ∧ t < s.2) ∧ Low x t) : hitB x s = true := by unfold hitB; exact @decide_eq_true _ (Classical.propDecidable _) h
theorem hit_false {x : List S2} {s : S2} (h : ¬ ∃ t, (s.1 ≤ t ∧ t < s.2) ∧ Low x t) : hitB x s = false := by unfold hitB; exact @decide_eq_false _ (Classical.propDecidable _) h
theorem of_hit {x : List S2} {s : S2} (h : hitB x s = true) : ∃ t, (s.1 ≤ t ∧ t < s.2) ∧ Low x t := by unfold hitB at h; exact @of_decide_eq_true _ (Classical.propDecidable _) h

def endF (x : List S2) (a : Int) (i : Int) : Bool := decide (a < tp x i.toNat)
theorem hit_no {x : List S2} {a b : Int} (h : ¬ a < b) : hitB x (a, b) = false := hit_false fun ⟨t, h1, _⟩ => by simp at h1; omega
theorem hit_end {x : List S2} {a b r : Int} (hp : Plain x) (h : Found (endF x a) x.length r) (hr : ¬ r < x.length) : hitB x (a, b) = false := hit_false fun ⟨t, h1, h2⟩ => by
  obtain ⟨i, hi, c1, c2⟩ := low_iff.1 h2
  obtain ⟨f0, f1, _, f3⟩ := h
  have e := f3 (by omega)
  simp [endF] at e h1
  have := (plain_up hp (show i ≤ r.toNat - 1 by omega) (by omega)).1
  omega
theorem hit_in {x : List S2} {a b r : Int} (hp : Plain x) (hab : a < b) (h : Found (endF x a) x.length r) (hr : r < x.length) : hitB x (a, b) = decide (fr x r.toNat < b) := by
  obtain ⟨f0, f1, f2, f3⟩ := h
  have e := f2 hr
  simp [endF] at e
  have t := plain_ticks hp (show r.toNat < x.length by omega)
  by_cases c : fr x r.toNat < b
  · rw [decide_eq_true c]
    refine hit_true ⟨max a (fr x r.toNat), ⟨by show a ≤ _; omega, by show _ < b; omega⟩, low_iff.2 ⟨r.toNat, by omega, by omega, by omega⟩⟩
  · rw [decide_eq_false c]
    refine hit_false fun ⟨t, h1, h2⟩ => ?_
    obtain ⟨i, hi, c1, c2⟩ := low_iff.1 h2
    simp at h1
    rcases Nat.lt_or_ge i r.toNat with k | k
    · have e3 := f3 (by omega)
      simp [endF] at e3
      have := (plain_up hp (show i ≤ r.toNat - 1 by omega) (by omega)).1
      omega
    · have := (plain_up hp k hi).2
      omega
theorem idx_meet {x y l : List S2} (h : PlainOf y x) : decide (0 ≤ idx (hitB x) l) = meetB l y := by
  rcases idx_cases (hitB x) l with ⟨i, hi, hp, _, e⟩ | ⟨hn, e⟩
  · rw [e]
    obtain ⟨t, h1, h2⟩ := of_hit hp
    rw [meetB_true ⟨t, low_iff.2 ⟨i, hi, h1⟩, (h.2 t).1 h2⟩]
    simp
  · rw [e, meetB_false fun ⟨t, h1, h2⟩ => by
      obtain ⟨i, hi, k⟩ := low_iff.1 h1
      have := hn i hi
      have hh : hitB x (fr l i, tp l i) = true := hit_true ⟨t, k, (h.2 t).2 h2⟩
      rw [hh] at this
      simp at this]
    simp

set_option maxHeartbeats 1000000 in
theorem mclos1_any (w : World) (bs bp : Nat) (a : Int) (v : Value) (x : List S2) (hs : w.cell? ⟨bs, 0, none⟩ = some (.int .i64 a)) (hv : w.cell? ⟨bp, 0, none⟩ = some v) (h : Sp w v x) :
    PredN 22 #[.pointer (some ⟨bs, 0, none⟩), .pointer (some ⟨bp, 0, none⟩)] (endF x a) x.length w := fun W i i0 i1 hb => by
  obtain ⟨k, rfl⟩ := Int.eq_ofNat_of_zero_le i0
  have d1 := (hb.cell (World.block_lt_of_cell? _ _ hs)).trans hs
  have d2 := (hb.cell (World.block_lt_of_cell? _ _ hv)).trans hv
  have hk : k < x.length := by omega
  obtain ⟨a1, cap, rfl, q1, q2, hA0⟩ := h.below hb
  obtain ⟨b, off, rfl, hA⟩ := hA0 (by omega)
  have HA0 := Lib.hid hA0
  clear hA0
  have c2 := (hA k hk).2
  have HA := Lib.hid hA
  have HB := Lib.hid hb
  clear hs hv h hA hb i0
  unfold maxLen at q2
  have e : endF x a (k : Int) = decide (a < tp x k) := rfl
  rw [e]
  clear e
  generalize hn : x.length = n at *
  clear hn
  show Calls Try.prog 22 #[.int .i64 k, .pointer (some ⟨bs, 0, none⟩), .pointer (some ⟨bp, 0, none⟩)] W _
  go_enter Try.func22, Try.ntmps22
  go_wp2
  go_quiet (fail)
  go_wp2
  go_ret
  exact ⟨rfl, below_drewN HB.out _⟩

theorem below_grow {B : Nat} {a w : World} (h : Below B a w) (hB : B ≤ w.heap.size) (n : Nat) (os : Array Obj) : Below B a (grow (w.drewN n) os) := by
  refine ⟨h.os, h.tape, h.output, ?_, fun k hk => ?_⟩
  · show a.heap.size ≤ (w.heap ++ os).size
    have := h.size
    simp; omega
  · show (w.heap ++ os)[k]? = _
    rw [Array.getElem?_append_left (by omega)]
    exact h.block k hk
theorem ticks_grow (w : World) (a b : Int) (r : Bool) (hr : decide (a < b) = r) : Calls Try.prog 23 #[.agg #[.int .i64 a, .int .i64 b]] w fun e w' => e = .returned (.bool r) ∧ ∃ q os', w' = grow (w.drewN q) os' := by
  subst hr
  go_enter Try.func23, Try.ntmps23
  go_wp2
  go_ret
  exact ⟨rfl, 0, _, by rw [alloc_eq_grow]; rfl⟩

set_option maxHeartbeats 8000000 in
theorem mclos_any (w : World) (bp : Nat) (v : Value) (x : List S2) (hv : w.cell? ⟨bp, 0, none⟩ = some v) (h : Sp w v x) (hp : Plain x) (hlen : x.length < 1099511627776) :
    PredS 20 #[.pointer (some ⟨bp, 0, none⟩)] (hitB x) w := fun W a b hb => by
  have eg : ∀ args w, (callFunc 22 args).run Try.prog w = .ok (.enter 22 args) w := enters_of Try.func22 (by kernel_rfl) rfl
  have hlt := World.block_lt_of_cell? _ _ hv
  have hz := hb.size
  have hBW : bp < W.heap.size := Nat.lt_of_lt_of_le hlt hz
  have d := (hb.cell hlt).trans hv
  have hbW : Below W.heap.size W (W.alloc (.cells #[.int .i64 a, .int .i64 b] 33)) := (Below.refl _ _).alloc (Nat.le_refl _) _
  have hS1 := (h.below hb).below hbW
  have sc := search_any (W.alloc (.cells #[.int .i64 a, .int .i64 b] 33)) 22 #[.pointer (some ⟨W.heap.size, 0, none⟩), .pointer (some ⟨bp, 0, none⟩)] (endF x a) x.length eg (by omega) (by omega)
    (mclos1_any _ W.heap.size bp a v x (by go_simp) (by go_simp) hS1)
  have SC := Lib.hid sc
  have HS1 := Lib.hid hS1
  have HB := Lib.hid (hb.alloc hz (.cells #[.int .i64 a, .int .i64 b] 33))
  have HPL := Lib.hid hp
  obtain ⟨a1, cap, rfl, q1, q2, _⟩ := h
  clear sc hS1 hb hbW hv eg hp hlt
  have hmf : ∀ (fn : Fn) (first cap : Array Value) (w : World), (Instr.makeFunc fn first cap).run Try.prog w = .ok (.func fn first cap) w := fun _ _ _ _ => rfl
  unfold maxLen at q2
  generalize hres : hitB x (a, b) = res
  have HRES := Lib.hid hres
  clear hres
  show Calls Try.prog 20 #[.agg #[.int .i64 a, .int .i64 b], .pointer (some ⟨bp, 0, none⟩)] W _
  go_enter Try.func20, Try.ntmps20
  go_wp2_with fail
  refine SC.out.mono ?_
  rintro e w1 ⟨r, rfl, hf, b1⟩
  have HF := Lib.hid hf
  have r0 := hf.1
  have r1 := hf.2.1
  have x1 : w1.cell? ⟨W.heap.size, 0, none⟩ = some (.int .i64 a) := (b1.cell (by simp)).trans (by go_simp)
  have x2 : w1.cell? ⟨W.heap.size, 1, none⟩ = some (.int .i64 b) := (b1.cell (by simp)).trans (by go_simp)
  have x3 : w1.cell? ⟨bp, 0, none⟩ = some (.slice a1 x.length cap) := (b1.cell (by simp; omega)).trans (by go_simp)
  have HS2 := Lib.hid (HS1.out.below b1)
  have HB1 := Lib.hid (HB.out.trans (b1.mono (by simp; omega)))
  have l1 := World.block_lt_of_cell? _ _ x1
  have l2 := World.block_lt_of_cell? _ _ x2
  have l3 := World.block_lt_of_cell? _ _ x3
  clear hf b1 d
  have mixed : Try.prog.follows .mixedOrders = true := by kernel_rfl
  obtain ⟨k, rfl⟩ := Int.eq_ofNat_of_zero_le r0
  by_cases hab : a < b
  · by_cases hk : k < x.length
    · have hkz : (k : Int) < (x.length : Int) := by omega
      have hh := hit_in (b := b) HPL.out hab HF.out hkz
      rw [Int.toNat_natCast, HRES.out] at hh
      have HH := Lib.hid hh
      clear hh
      obtain ⟨_, _, eq, _, _, hA0⟩ := HS2.out
      injection eq with e1 e2 e3
      subst e1 e3
      obtain ⟨b', off, rfl, hA⟩ := hA0 (by omega)
      have c1 := (hA k hk).1
      have l4 := World.block_lt_of_cell? _ _ c1
      have HA := Lib.hid hA
      have HA0 := Lib.hid hA0
      clear hA hA0
      have HAB := Lib.hid hab
      clear hab
      generalize hn : x.length = n at *
      clear hn
      have gc := fun n' os' => ticks_grow (grow (w1.drewN n') os') a b true (decide_eq_true HAB.out)
      have g1 := cell_grown l1 x1
      have g2 := cell_grown l2 x2
      have g3 := cell_grown l3 x3
      have g4 := cell_grown l4 c1
      have z1 := HB1.out.size
      clear x1 x2 x3 l1 l2 l3 c1 l4
      go_wp2_with fail
      go_quiet_grown (first | (go_at_call 23; refine Calls.grown_of (gc _ _)))
      go_wp2
      go_ret
      exact ⟨ret_bool HH.out.symm, below_grow HB1.out z1 _ _⟩
    · have hh := hit_end (b := b) HPL.out HF.out (show ¬ (k : Int) < x.length by omega)
      rw [HRES.out] at hh
      have HH := Lib.hid hh
      clear hh
      have HAB := Lib.hid hab
      clear hab
      have hkz : decide (k < x.length) = false := by simp; omega
      generalize hn : x.length = n at *
      clear hn
      have gc := fun n' os' => ticks_grow (grow (w1.drewN n') os') a b true (decide_eq_true HAB.out)
      have g1 := cell_grown l1 x1
      have g2 := cell_grown l2 x2
      have g3 := cell_grown l3 x3
      have z1 := HB1.out.size
      clear x1 x2 x3 l1 l2 l3
      go_wp2_with fail
      go_quiet_grown (first | (go_at_call 23; refine Calls.grown_of (gc _ _)))
      go_wp2
      go_ret
      exact ⟨ret_bool HH.out.symm, below_grow HB1.out z1 _ _⟩
  · have hh := hit_no (x := x) hab
    rw [HRES.out] at hh
    have HH := Lib.hid hh
    clear hh
    have HAB := Lib.hid hab
    clear hab
    generalize hn : x.length = n at *
    clear hn
    have gc := fun n' os' => ticks_grow (grow (w1.drewN n') os') a b false (decide_eq_false (show ¬ a < b by have := HAB.out; omega))
    have g1 := cell_grown l1 x1
    have g2 := cell_grown l2 x2
    have g3 := cell_grown l3 x3
    have z1 := HB1.out.size
    clear x1 x2 x3 l1 l2 l3
    go_wp2_with fail
    go_quiet_grown (first | (go_at_call 23; refine Calls.grown_of (gc _ _)))
    go_wp2
    go_ret
    exact ⟨ret_bool HH.out.symm, below_grow HB1.out z1 _ _⟩

set_option maxHeartbeats 1000000 in
/-- wire.Meet. -/
theorem meet_any (w : World) (v u : Value) (l y : List S2) (hl : Sp w v l) (hy : Sp w u y) (hlen : y.length < 1099511627776) : Calls Try.prog 11 #[v, u] w fun e w' => e = .returned (.bool (meetB l y)) ∧ Below w.heap.size w w' := by
  have eg : ∀ args w, (callFunc 20 args).run Try.prog w = .ok (.enter 20 args) w := enters_of Try.func20 (by kernel_rfl) rfl
  have J := Lib.hid (join_any (w.alloc (.cells #[u] 22)) _ [y] (rows_one hy) (by show 0 + y.length < _; omega))
  have EG := Lib.hid eg
  have SL := Lib.hid hl
  obtain ⟨a, cap, rfl, _⟩ := hl.slice
  obtain ⟨a', cap', rfl, _⟩ := hy.slice
  generalize hres : meetB l y = res
  have HRES := Lib.hid hres
  clear eg hl hy hres
  have hmf : ∀ (fn : Fn) (first cap : Array Value) (w : World), (Instr.makeFunc fn first cap).run Try.prog w = .ok (.func fn first cap) w := fun _ _ _ _ => rfl
  go_enter Try.func11, Try.ntmps11
  go_wp2_with fail
  refine J.out.mono ?_
  rintro e w1 ⟨v1, x, rfl, hown, hj, b1⟩
  have PO := plain_one_of hj
  have hxl : x.length < 1099511627776 := by have := hj.len; have e : tot [y] [y].length = 0 + y.length := rfl; omega
  have hsp := hown.sp
  have B1 : Below w.heap.size w w1 := ((Below.refl _ _).alloc (Nat.le_refl _) _).trans (b1.mono (by simp))
  have B2 : Below w1.heap.size w1 (w1.alloc (.cells #[v1] 22)) := (Below.refl _ _).alloc (Nat.le_refl _) _
  have C := contains_any (w1.alloc (.cells #[v1] 22)) _ l 20 #[.pointer (some ⟨w1.heap.size, 0, none⟩)] (hitB x) EG.out ((SL.out.below B1).below B2) (mclos_any _ w1.heap.size v1 x (by go_simp) (hsp.below B2) PO.1 hxl)
  rw [idx_meet PO, HRES.out] at C
  have CC := Lib.hid C
  have BB := Lib.hid (B1.trans (B2.mono B1.size))
  obtain ⟨a1, cap1, rfl, _⟩ := hsp.slice
  clear hown hj b1 PO hxl hsp B1 B2 C
  go_wp2_with fail
  refine CC.out.mono ?_
  rintro e w2 ⟨rfl, b2⟩
  go_wp2
  go_ret
  exact ⟨rfl, BB.out.trans (b2.mono BB.out.size)⟩

end Go.Proofs.Ytajmigiagmdoeaa.Wi
