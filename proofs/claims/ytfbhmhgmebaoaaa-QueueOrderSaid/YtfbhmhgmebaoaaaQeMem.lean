/- The document's queue in memory. -/
import Derived.Test.YtfbhmhgmebaoaaaQeMath
import Derived.Test.YtfbhmhgmebaoaaaRqVal
import Derived.Test.YtfbhmhgmebaoaaaFsMem
namespace Go.Proofs.Ytfbhmhgmebaoaaa.Qe
open Go.RowKit
open Go.Proofs.Ytfbhmhgmebaoaaa.Rw (Rd Ow At)
open Go.Proofs.Ytfbhmhgmebaoaaa.Rq (Q zQ qA qV)
open Go.Proofs.Ytfbhmhgmebaoaaa.Fs (Only Fx rd_only)
set_option maxRecDepth 100000

/-- Requests, numbers as elements of a slice. -/
def KQ : Rw.Kind Q := ⟨fun x => (qA x).toList, 10, by decide, fun _ => rfl, fun x u h => by
  simp [qA] at h
  rcases h with rfl | rfl | rfl | rfl | rfl | rfl | rfl | rfl | rfl | rfl <;> rfl, zQ⟩
theorem infoQ : (Try.prog.info? 33).map (fun i => (i.zero, i.size, i.bytes)) = some (some (.agg #[.int .i64 0, .int .i64 0, .int .i64 0, .int .i64 0, .int .i64 0, .int .u8 0, .int .u8 0, .int .u8 0, .int .u8 0, .int .i64 0]), 10, 56) := by kernel_rfl
def KJ : Rw.Kind Int := Rw.int .i64
/-- The block that a slice lies in is of a type. -/
def Ty (F : Nat → Prop) (w : World) (E : TypeId) (v : Value) : Prop := ∀ k, v.ownBlock = some k → F k ∧ ∃ cs, w.heap[k]? = some (.cells cs E (0, 0))
structure RqV (w : World) (r : Nat) (F : Nat → Prop) (s : Qs) (v u : Value) : Prop where
  row : w.heap[r]? = some (.cells #[v, u] 29 (0, 0))
  rl : Rd KQ w v s.L
  rt : Rd KJ w u (tr s)
  tl : Ty F w 33 v
  tt : Ty F w 3 u
  fr : F r
  low : ∀ k, F k → k < w.heap.size
/-- The document's queue lies at block r, in blocks of F. -/
def Rq (w : World) (r : Nat) (F : Nat → Prop) (s : Qs) : Prop := ∃ v u, RqV w r F s v u
section
variable {w w' : World} {r : Nat} {F G : Nat → Prop} {s : Qs} {v u : Value}
theorem Ty.only {E : TypeId} (h : Ty F w E v) (hn : ∀ k, F k → ¬ G k) (ho : Only G w w') : Ty F w' E v := fun k e => by
  obtain ⟨f, cs, hc⟩ := h k e
  exact ⟨f, cs, (ho.block k (lt_of_block hc) (hn k f)).trans hc⟩
theorem Ty.not {E E' : TypeId} {cs : Array Value} {k : Nat} (h : Ty F w E v) (hk : w.heap[k]? = some (.cells cs E' (0, 0))) (hne : E ≠ E') : v.ownBlock ≠ some k := fun e => by
  obtain ⟨_, cs', hc⟩ := h k e
  rw [hk] at hc
  injection hc with hc
  injection hc with _ h2 _
  exact hne h2.symm
theorem RqV.only (h : RqV w r F s v u) (hn : ∀ k, F k → ¬ G k) (ho : Only G w w') : RqV w' r F s v u :=
  ⟨(ho.block r (lt_of_block h.row) (hn r h.fr)).trans h.row, rd_only h.rl (fun _ k e => hn k (h.tl k e).1) ho, rd_only h.rt (fun _ k e => hn k (h.tt k e).1) ho, h.tl.only hn ho, h.tt.only hn ho, h.fr, fun k f => Nat.lt_of_lt_of_le (h.low k f) ho.size⟩
theorem RqV.below (h : RqV w r F s v u) (b : Below w.heap.size w w') : RqV w' r F s v u := h.only (G := fun _ => False) (fun _ _ g => g) (Only.of_below b)
theorem Rq.only (h : Rq w r F s) (hn : ∀ k, F k → ¬ G k) (ho : Only G w w') : Rq w' r F s := by
  obtain ⟨v, u, h⟩ := h
  exact ⟨v, u, h.only hn ho⟩
theorem Rq.below (h : Rq w r F s) (b : Below w.heap.size w w') : Rq w' r F s := by
  obtain ⟨v, u, h⟩ := h
  exact ⟨v, u, h.below b⟩
theorem Rq.low (h : Rq w r F s) : ∀ k, F k → k < w.heap.size := by
  obtain ⟨v, u, h⟩ := h
  exact h.low
theorem Rq.fr (h : Rq w r F s) : F r := by
  obtain ⟨v, u, h⟩ := h
  exact h.fr
end

section
variable {α : Type} {K : Rw.Kind α} {w w' : World}
/-- A slice without its first element. -/
theorem rd_tail {b off n cap : Nat} {a : α} {l : List α} (h : Rd K w (.slice (some ⟨b, off, none⟩) n cap) (a :: l)) : Rd K w (.slice (some ⟨b, off + K.n, none⟩) (n - 1) (cap - 1)) l := by
  obtain ⟨a0, cap0, e, h1, h2, h3⟩ := h
  injection e with e1 e2 e3
  subst e2 e3
  obtain ⟨b', off', e4, hA⟩ := h3 (Nat.succ_pos _)
  rw [e4] at e1
  injection e1 with e1
  injection e1 with e1 e5
  subst e1 e5
  refine ⟨some ⟨b, off + K.n, none⟩, cap - 1, by simp, ⟨by have := h1.1; simp at this ⊢; omega, nofun⟩, by omega, fun h0 => ⟨b, off + K.n, rfl, fun i hi j u hu => ?_⟩⟩
  have c := hA (i + 1) (by simp; omega) j u (by simpa using hu)
  rw [show off + K.n + i * K.n + j = off + (i + 1) * K.n + j by rw [Nat.add_mul]; omega]
  exact c
theorem rd_last {b off n cap : Nat} {a : α} {l : List α} (h : Rd K w (.slice (some ⟨b, off, none⟩) n cap) (a :: l)) (hc : cap = 1) : Rd K w (.slice (some ⟨b, off, none⟩) (n - 1) 0) l := by
  obtain ⟨a0, cap0, e, h1, h2, h3⟩ := h
  injection e with e1 e2 e3
  have := h1.1
  simp at this
  obtain rfl : l = [] := List.length_eq_zero_iff.1 (by omega)
  exact ⟨some ⟨b, off, none⟩, 0, by simp [e2], ⟨by simp, nofun⟩, by unfold maxLen; omega, fun h0 => by simp at h0⟩
end
theorem ow_ty {α : Type} {K : Rw.Kind α} {w : World} {B E : Nat} {v : Value} {l : List α} (h : Ow K w B E v l) : ∀ k, v.ownBlock = some k → B ≤ k ∧ ∃ cs, w.heap[k]? = some (.cells cs E (0, 0)) := fun k e => by
  obtain ⟨_, h⟩ := h
  rcases h with ⟨rfl, _⟩ | ⟨g, cap, cur, rfl, hB, hh, _⟩
  · cases e
  · obtain rfl : g = k := by simpa [Value.ownBlock] using e
    exact ⟨hB, cur, hh⟩
/-- The first number written anew. -/
theorem rd_set {w : World} {b off n cap : Nat} {a : Int} {l : List Int} (h : Rd KJ w (.slice (some ⟨b, off, none⟩) n cap) (a :: l)) {cs : Array Value} {E : TypeId} (hb : w.heap[b]? = some (.cells cs E (0, 0))) (c : Int) : Rd KJ (w.setCell ⟨b, off, none⟩ (.int .i64 c)) (.slice (some ⟨b, off, none⟩) n cap) (c :: l) := by
  obtain ⟨a0, cap0, e, h1, h2, h3⟩ := h
  injection e with e1 e2 e3
  subst e2 e3
  obtain ⟨b', off', e4, hA⟩ := h3 (Nat.succ_pos _)
  rw [e4] at e1
  injection e1 with e1
  injection e1 with e1 e5
  subst e1 e5
  refine ⟨_, _, rfl, ⟨h1.1, nofun⟩, h2, fun _ => ⟨b, off, rfl, fun i hi j u hu => ?_⟩⟩
  have row := Rw.heap_setCell_same (j := off) hb (.int .i64 c)
  rcases j with _ | j
  · have c0 := hA 0 (Nat.succ_pos _) 0 (.int .i64 a) rfl
    rw [show off + 0 * KJ.n + 0 = off by omega, cell_of_row w b off cs E (0, 0) hb] at c0
    have hlt : off < cs.size := (Array.getElem?_eq_some_iff.1 c0).1
    rw [show off + i * KJ.n + 0 = off + i by show off + i * 1 + 0 = _; omega, cell_of_row _ b (off + i) _ E (0, 0) row]
    rcases i with _ | i
    · have hu' : some (Value.int .i64 c) = some u := hu
      rw [← hu', Array.getElem?_setIfInBounds]
      simp [hlt]
    · have ci := hA (i + 1) hi 0 u hu
      rw [show off + (i + 1) * KJ.n + 0 = off + (i + 1) by show off + (i + 1) * 1 + 0 = _; omega, cell_of_row w b _ cs E (0, 0) hb] at ci
      rw [Array.getElem?_setIfInBounds, if_neg (by omega)]
      exact ci
  · exact absurd hu (by simp [KJ, Rw.int])

/-- How often the first one was tried, counted. -/
theorem RqV.tried {w : World} {r b off n cap : Nat} {F : Nat → Prop} {a : Q} {l : List Q} {t : Int} {v : Value} (h : RqV w r F ⟨a :: l, t⟩ v (.slice (some ⟨b, off, none⟩) n cap)) (c : Int) : RqV (w.setCell ⟨b, off, none⟩ (.int .i64 c)) r F ⟨a :: l, c⟩ v (.slice (some ⟨b, off, none⟩) n cap) := by
  obtain ⟨fb, cs, hb⟩ := h.tt b rfl
  have ho := Only.set (fun k => k = b) w (a := ⟨b, off, none⟩) rfl (.int .i64 c)
  have nr : r ≠ b := fun e => by
    have := h.row
    rw [e, hb] at this
    injection this with this
    injection this with _ h2 _
    exact absurd h2 (by decide)
  refine ⟨(ho.block r (lt_of_block h.row) nr).trans h.row, rd_only (G := fun k => k = b) h.rl (fun _ k e g => h.tl.not hb (by decide) (g ▸ e)) ho, rd_set h.rt hb c, fun k e => ?_, fun k e => ?_, h.fr, fun k f => Nat.lt_of_lt_of_le (h.low k f) ho.size⟩
  · obtain ⟨f, cs', hc⟩ := h.tl k e
    exact ⟨f, cs', (ho.block k (lt_of_block hc) fun g => (h.tl.not hb (by decide)) (g ▸ e)).trans hc⟩
  · obtain rfl : b = k := by simpa [Value.ownBlock] using e
    exact ⟨fb, _, Rw.heap_setCell_same hb _⟩

/-- What a call's result is stored into was not there. -/
theorem Rq.res {w wS : World} {r : Nat} {F : Nat → Prop} {s : Qs} (h : Rq wS r F s) (ho : Only F w wS) (low : ∀ k, F k → k < w.heap.size) (cs : Array Value) : Rq (wS.setRow w.heap.size cs) r F s ∧ Only F w (wS.setRow w.heap.size cs) := by
  have hs : (wS.setRow w.heap.size cs).heap.size = wS.heap.size := by simp [World.setRow]
  have o : Only (fun k => k = w.heap.size) wS (wS.setRow w.heap.size cs) := ⟨rfl, rfl, rfl, by rw [hs]; exact Nat.le_refl _, fun k _ hn => setRow_other wS w.heap.size k cs (fun e => hn e)⟩
  exact ⟨h.only (fun k f g => by have := low k f; omega) o, ho.trans o fun k hk g => by omega⟩
/-- Both slices anew. -/
theorem RqV.stored {w w' : World} {r : Nat} {F : Nat → Prop} {s s' : Qs} {v u v' u' : Value} (h : RqV w r F s v u) (b : Below w.heap.size w w') (rl : Rd KQ w v' s'.L) (rt : Rd KJ w u' (tr s')) (hv : v'.ownBlock = v.ownBlock) (hu : u'.ownBlock = u.ownBlock) :
    Rq ((w'.setCell ⟨r, 0, none⟩ v').setCell ⟨r, 1, none⟩ u') r F s' ∧ Only F w ((w'.setCell ⟨r, 0, none⟩ v').setCell ⟨r, 1, none⟩ u') := by
  have h' := h.below b
  have o : Only (fun k => k = r) w' ((w'.setCell ⟨r, 0, none⟩ v').setCell ⟨r, 1, none⟩ u') := (Only.set (fun k => k = r) w' (a := ⟨r, 0, none⟩) rfl v').trans (Only.set (fun k => k = r) _ (a := ⟨r, 1, none⟩) rfl u') fun _ _ g => g
  have nl : ∀ k, v.ownBlock = some k → k ≠ r := fun k e g => h'.tl.not h'.row (by decide) (g ▸ e)
  have nt : ∀ k, u.ownBlock = some k → k ≠ r := fun k e g => h'.tt.not h'.row (by decide) (g ▸ e)
  refine ⟨⟨v', u', Rw.heap_setCell_same (Rw.heap_setCell_same h'.row v') u', rd_only (G := fun k => k = r) (rl.below b) (fun _ k e => nl k (hv ▸ e)) o, rd_only (G := fun k => k = r) (rt.below b) (fun _ k e => nt k (hu ▸ e)) o, fun k e => ?_, fun k e => ?_, h.fr, fun k f => Nat.lt_of_lt_of_le (h'.low k f) o.size⟩, (Only.of_below (G := F) b).trans o fun k _ g => g ▸ h.fr⟩
  · obtain ⟨f, cs, hc⟩ := h'.tl k (hv ▸ e)
    exact ⟨f, cs, (o.block k (lt_of_block hc) (nl k (hv ▸ e))).trans hc⟩
  · obtain ⟨f, cs, hc⟩ := h'.tt k (hu ▸ e)
    exact ⟨f, cs, (o.block k (lt_of_block hc) (nt k (hu ▸ e))).trans hc⟩

end Go.Proofs.Ytfbhmhgmebaoaaa.Qe
