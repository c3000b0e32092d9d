/- The code's queue: a ring of eight, each a request and how often it was tried. -/
import Derived.Test.YtfbhmhgmebaoaaaQeMem
import Derived.Test.YtfbhmhgmebaoaaaSeg
namespace Go.Proofs.Ytfbhmhgmebaoaaa.Qe
open Go.RowKit
open Go.Proofs.Ytfbhmhgmebaoaaa.Rq (Q zQ qA qV)
open Go.Proofs.Ytfbhmhgmebaoaaa.Fl (R4 z4)
open Go.Proofs.Ytfbhmhgmebaoaaa.Fs (Only Fx)
set_option maxRecDepth 100000

/-- One who waits, as cells. -/
def eA (x : Q) (t : Int) : Array Value := #[.int .i64 x.id, .int .i64 x.k, .int .i64 x.n, .int .i64 x.f, .int .i64 x.r, .int .u8 x.v.1, .int .u8 x.v.2.1, .int .u8 x.v.2.2.1, .int .u8 x.v.2.2.2, .int .i64 x.key, .int .i64 t]
def trk (s : Qs) (k : Nat) : Int := if k = 0 then s.t else 0
/-- The cells of a ring: who waits, from place a on; a, and how many. -/
structure CqV (cs : Array Value) (s : Qs) (a : Nat) : Prop where
  sz : cs.size = 90
  ca : cs[88]? = some (.int .i64 a)
  cn : cs[89]? = some (.int .i64 s.L.length)
  lt : a < 8
  el : ∀ k, k < s.L.length → ∀ j, j < 11 → cs[(a + k) % 8 * 11 + j]? = (eA (s.L.getD k zQ) (trk s k))[j]?
def Cq (w : World) (g : Nat) (s : Qs) : Prop := ∃ cs a, w.heap[g]? = some (.cells cs 48 (0, 0)) ∧ CqV cs s a
theorem Cq.only {w w' : World} {g : Nat} {s : Qs} {G : Nat → Prop} (h : Cq w g s) (hn : ¬ G g) (ho : Only G w w') : Cq w' g s := by
  obtain ⟨cs, a, hr, hv⟩ := h
  exact ⟨cs, a, (ho.block g (lt_of_block hr) hn).trans hr, hv⟩
theorem Cq.lt {w : World} {g : Nat} {s : Qs} (h : Cq w g s) : g < w.heap.size := by
  obtain ⟨cs, a, hr, hv⟩ := h
  exact lt_of_block hr
theorem Cq.below {w w' : World} {g : Nat} {s : Qs} (h : Cq w g s) (b : Below w.heap.size w w') : Cq w' g s := h.only (G := fun _ => False) (fun f => f) (Only.of_below b)
def At1 (g : Nat) (k : Nat) : Prop := k = g
theorem eA_size (x : Q) (t : Int) : (eA x t).size = 11 := rfl
theorem eA_one (x : Q) (t : Int) : ∀ v ∈ (eA x t).toList, v.oneCell' = true := fun v hv => by
  simp [eA] at hv
  rcases hv with rfl | rfl | rfl | rfl | rfl | rfl | rfl | rfl | rfl | rfl | rfl <;> rfl
theorem getD_app {L : List Q} {x : Q} {k : Nat} (h : k < L.length) : (L ++ [x]).getD k zQ = L.getD k zQ := by rw [List.getD_eq_getElem?_getD, List.getD_eq_getElem?_getD, List.getElem?_append_left h]
/-- What an element stored into the ring leaves. -/
theorem ring_get {cs : Array Value} (hz : cs.size = 90) {p : Nat} (hp : p < 8) (x : Q) (t : Int) (k : Nat) : (splice cs.toList (p * 11) (eA x t).toList).toArray[k]? = if p * 11 ≤ k ∧ k < p * 11 + 11 then (eA x t)[k - p * 11]? else cs[k]? := by
  have hl : cs.toList.length = 90 := by simpa using hz
  have hx : (eA x t).toList.length = 11 := rfl
  have := Seg.get (L := cs.toList) (cs := (eA x t).toList) (off := p * 11) (by rw [hx, hl]; omega) k
  rw [hx] at this
  simpa using this
theorem ring_size {cs : Array Value} (hz : cs.size = 90) {p : Nat} (hp : p < 8) (x : Q) (t : Int) : (splice cs.toList (p * 11) (eA x t).toList).toArray.size = 90 := by
  have hl : cs.toList.length = 90 := by simpa using hz
  have hx : (eA x t).toList.length = 11 := rfl
  rw [List.size_toArray, length_splice _ _ _ (by rw [hx, hl]; omega), hl]
/-- One more, behind all. -/
theorem CqV.push {cs : Array Value} {s : Qs} {a : Nat} (h : CqV cs s a) (hk : ok s) (h8 : s.L.length < 8) (x : Q) : CqV ((splice cs.toList ((a + s.L.length) % 8 * 11) (eA x 0).toList).toArray.setIfInBounds 89 (.int .i64 (s.L.length + 1))) ⟨s.L ++ [x], s.t⟩ a := by
  have hp : (a + s.L.length) % 8 < 8 := Nat.mod_lt _ (by decide)
  have G := ring_get h.sz hp x 0
  have Z := ring_size h.sz hp x 0
  have ha := h.lt
  generalize (splice cs.toList ((a + s.L.length) % 8 * 11) (eA x 0).toList).toArray = cs' at *
  refine ⟨by simp [Z], by rw [Array.getElem?_setIfInBounds, if_neg (by decide), G, if_neg (by omega)]; exact h.ca, ?_, ha, fun k hkl j hj => ?_⟩
  · rw [Array.getElem?_setIfInBounds, if_pos rfl, if_pos (by omega)]
    simp
  · have hk' : k < s.L.length + 1 := by simpa using hkl
    rw [Array.getElem?_setIfInBounds, if_neg (by omega), G]
    by_cases hkk : k < s.L.length
    · rw [if_neg (by omega), h.el k hkk j hj]
      show (eA (s.L.getD k zQ) (trk s k))[j]? = (eA ((s.L ++ [x]).getD k zQ) (trk s k))[j]?
      rw [getD_app hkk]
    · obtain rfl : k = s.L.length := by omega
      rw [if_pos (by omega), show (a + s.L.length) % 8 * 11 + j - (a + s.L.length) % 8 * 11 = j by omega]
      have e1 : (s.L ++ [x]).getD s.L.length zQ = x := by rw [List.getD_eq_getElem?_getD]; simp
      have e2 : trk ⟨s.L ++ [x], s.t⟩ s.L.length = 0 := by
        unfold trk
        by_cases h0 : s.L.length = 0
        · rw [if_pos h0]; exact hk.2.2 (List.length_eq_zero_iff.1 h0)
        · rw [if_neg h0]
      show _ = (eA ((s.L ++ [x]).getD s.L.length zQ) (trk ⟨s.L ++ [x], s.t⟩ s.L.length))[j]?
      rw [e1, e2]
/-- The first one waits no more. -/
theorem CqV.pop {cs : Array Value} {s : Qs} {a : Nat} (h : CqV cs s a) (h8 : s.L.length ≤ 8) (h0 : 0 < s.L.length) : CqV (((splice cs.toList (a * 11) (eA zQ 0).toList).toArray.setIfInBounds 88 (.int .i64 ((a + 1) % 8 : Nat))).setIfInBounds 89 (.int .i64 (s.L.length - 1))) (poS s) ((a + 1) % 8) := by
  have G := ring_get h.sz h.lt zQ 0
  have Z := ring_size h.sz h.lt zQ 0
  have ha := h.lt
  have tl : (poS s).L.length = s.L.length - 1 := by simp [poS]
  generalize (splice cs.toList (a * 11) (eA zQ 0).toList).toArray = cs' at *
  refine ⟨by simp [Z], by rw [Array.getElem?_setIfInBounds, if_neg (by decide), Array.getElem?_setIfInBounds, if_pos rfl, if_pos (by omega)], ?_, Nat.mod_lt _ (by decide), fun k hkl j hj => ?_⟩
  · rw [Array.getElem?_setIfInBounds, if_pos rfl, if_pos (by simp [Z]), tl]
    congr 2
    omega
  · rw [tl] at hkl
    rw [Array.getElem?_setIfInBounds, if_neg (by omega), Array.getElem?_setIfInBounds, if_neg (by omega), G, if_neg (by omega)]
    have e := h.el (k + 1) (by omega) j hj
    rw [show ((a + 1) % 8 + k) % 8 = (a + (k + 1)) % 8 by omega, e]
    have e1 : (poS s).L.getD k zQ = s.L.getD (k + 1) zQ := by
      show s.L.tail.getD k zQ = _
      rw [List.getD_eq_getElem?_getD, List.getD_eq_getElem?_getD, List.getElem?_tail]
    have e2 : trk (poS s) k = 0 := by
      unfold trk
      by_cases hk0 : k = 0
      · rw [if_pos hk0]; rfl
      · rw [if_neg hk0]
    rw [e1, e2]
    rfl
/-- The first one was tried in vain. -/
theorem CqV.fail {cs : Array Value} {s : Qs} {a : Nat} (h : CqV cs s a) (h8 : s.L.length ≤ 8) (t : Int) : CqV (cs.setIfInBounds (a * 11 + 10) (.int .i64 t)) ⟨s.L, t⟩ a := by
  have ha := h.lt
  refine ⟨by simp [h.sz], by rw [Array.getElem?_setIfInBounds, if_neg (by omega)]; exact h.ca, by rw [Array.getElem?_setIfInBounds, if_neg (by omega)]; exact h.cn, ha, fun k hkl j hj => ?_⟩
  have hkl : k < s.L.length := hkl
  have e := h.el k hkl j hj
  rw [Array.getElem?_setIfInBounds]
  by_cases hk0 : k = 0
  · subst hk0
    rw [show (a + 0) % 8 = a by omega] at e ⊢
    by_cases hj0 : j = 10
    · subst hj0
      rw [if_pos rfl, if_pos (by rw [h.sz]; omega)]
      rfl
    · rw [if_neg (by omega), e]
      rcases (by omega : j = 0 ∨ j = 1 ∨ j = 2 ∨ j = 3 ∨ j = 4 ∨ j = 5 ∨ j = 6 ∨ j = 7 ∨ j = 8 ∨ j = 9) with rfl | rfl | rfl | rfl | rfl | rfl | rfl | rfl | rfl | rfl <;> rfl
  · rw [if_neg (by omega), e]
    have e2 : trk s k = trk ⟨s.L, t⟩ k := by unfold trk; rw [if_neg hk0, if_neg hk0]
    rw [e2]

end Go.Proofs.Ytfbhmhgmebaoaaa.Qe
