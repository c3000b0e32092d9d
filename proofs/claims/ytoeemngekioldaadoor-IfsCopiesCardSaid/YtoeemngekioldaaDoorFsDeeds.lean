/- Lists of deeds, and both stores side by side. -/
import Derived.Test.YtoeemngekioldaaDoorFsNob
import Derived.Test.YtoeemngekioldaaDoorFsRadd
import Derived.Test.YtoeemngekioldaaDoorFsRdo
import Derived.Test.YtoeemngekioldaaDoorFsSame
namespace Go.Proofs.YtoeemngekioldaaDoor.Fs
open Go.RowKit Go.Maps
open Go.Proofs.YtoeemngekioldaaDoor.Fl (R4 z4 K4 rec4 rat goodF goodFB okR okL file arr4 row_cell row_frozen)
open Go.Proofs.YtoeemngekioldaaDoor.Rw (Rd Ow At)
set_option maxRecDepth 100000

def KD : Rw.Kind De := ⟨De.cells, 10, by decide, fun _ => rfl, fun D u h => by simp [De.cells] at h; rcases h with rfl | rfl | rfl | rfl | rfl | rfl | rfl | rfl | rfl | rfl <;> rfl, ⟨0, 0, 0, 0, z4, 0, none, 0, []⟩⟩
theorem at10 {w : World} {b off : Nat} {L : List De} (h : At KD w b off L) {i : Nat} {c : De} (hc : L[i]? = some c) : ∀ j u, c.cells[j]? = some u → w.cell? ⟨b, off + i * 10 + j, none⟩ = some u := by
  have hi := (List.getElem?_eq_some_iff.1 hc).1
  have e : L.getD i KD.dft = c := by rw [List.getD_eq_getElem?_getD, hc]; rfl
  intro j u hu
  exact h i hi j u (by rw [e]; exact hu)

/-- The code's store and the reference's. -/
structure Dd (w : World) (s r : Nat) (F : Nat → Prop) (A : Abs) (d : Int) (A' : Abs) (d' : Int) (W : World) : Prop where
  st : St W s F A d
  rs : Rs W r F A' d'
  lo : ∀ k, F k → w.heap.size ≤ k
  rlo : w.heap.size ≤ r
  bel : Below w.heap.size w W
section
variable {w W W' : World} {s r : Nat} {F : Nat → Prop} {A A' A2 : Abs} {d d' d2 : Int}
theorem Dd.off (h : Dd w s r F A d A' d' W) : ¬ F r := by obtain ⟨v, L, hh, _⟩ := h.rs; exact hh.off
theorem Dd.inS (h : Dd w s r F A d A' d' W) (st : St W' s (Fx F W W') A2 d2) (o : Only F W W') : Dd w s r (Fx F W W') A2 d2 A' d' W' :=
  ⟨st, h.rs.only o, fun k hk => by
    rcases hk with hk | ⟨hk, _⟩
    · exact h.lo k hk
    · have := h.bel.size; omega, h.rlo, h.bel.trans (o.below h.bel.size h.lo)⟩
theorem Dd.inR (h : Dd w s r F A d A' d' W) (rs : Rs W' r F A2 d2) (o : Only (fun k => k = r) W W') : Dd w s r F A d A2 d2 W' :=
  ⟨h.st.only (G := fun k => k = r) (fun k hk (e : k = r) => h.off (e ▸ hk)) o, rs, h.lo, h.rlo, h.bel.trans (o.below h.bel.size fun k hk => by subst hk; exact h.rlo)⟩
theorem Dd.below (h : Dd w s r F A d A' d' W) (b : Below W.heap.size W W') : Dd w s r F A d A' d' W' := ⟨h.st.below b, h.rs.below b, h.lo, h.rlo, h.bel.trans (b.mono h.bel.size)⟩
theorem Dd.glob (h : Dd w s r F A d A' d' W) (g : Glob w) : Glob W ∧ ¬ F 0 := ⟨g.below h.bel, fun hk => by have := h.lo _ hk; have : _ < w.heap.size := World.block_lt_of_cell? _ _ g; simp only at this; omega⟩
/-- A deed's file lies in what was there. -/
theorem Dd.offv (h : Dd w s r F A d A' d' W) {v u : Value} {l l' : List R4} (R : Rd K4 w v l) (hl : 0 < l'.length → 0 < l.length) (e : u.ownBlock = v.ownBlock) : 0 < l'.length → ∀ k, u.ownBlock = some k → ¬ (F k ∨ k = r) := fun h0 k hk hh => by
  rw [e] at hk
  have h1 := hl h0
  obtain ⟨a, cap, rfl, _, _, h3⟩ := R
  obtain ⟨b, off, rfl, hA⟩ := h3 h1
  obtain rfl : b = k := by simpa [Value.ownBlock] using hk
  have hlt : b < w.heap.size := World.block_lt_of_cell? _ _ (hA 0 h1 0 _ rfl)
  rcases hh with hh | rfl
  · have := h.lo _ hh; omega
  · have := h.rlo; omega
theorem rget_st {w : World} {r : Nat} {F : Nat → Prop} {A : Abs} {d : Int} (R : Rs w r F A d) (n k : Int) : Calls Tryd.prog 15 #[.pointer (some ⟨r, 0, none⟩), .int .i64 n, .int .i64 k] w (GetPost w (gV A n k) (gB A n k)) := by
  obtain ⟨v, L, h, rfl⟩ := R
  exact rget_any h n k
theorem dd_new (w : World) : Dd w w.heap.size (w.heap.size + 1) (fun k => k = w.heap.size) [] 0 [] 0 ((w.alloc (.cells #[.map none, .int .i64 0] 61)).alloc (.cells #[.slice none 0 0, .int .i64 0] 28)) := by
  have hb := below_new (w.alloc (.cells #[.map none, .int .i64 0] 61)) (.cells #[.slice none 0 0, .int .i64 0] 28)
  have hz : (w.alloc (.cells #[.map none, .int .i64 0] 61)).heap.size = w.heap.size + 1 := by simp
  have hr := heap_alloc_new (w.alloc (.cells #[.map none, .int .i64 0] 61)) (.cells #[.slice none 0 0, .int .i64 0] 28)
  rw [hz] at hr
  exact ⟨(new_st w).below hb, ⟨_, [], ⟨hr, by omega, ⟨Rw.Rd.nil _, (fun h => by simp at h), (fun c hc => by cases hc), (fun c hc => by cases hc)⟩, OkA.nil⟩, rfl⟩, fun k hk => by subst hk; exact Nat.le_refl _, by omega, (below_new w _).trans (hb.mono (by omega))⟩
/-- A block beside both. -/
structure Cb (F : Nat → Prop) (r : Nat) (W : World) (g : Nat) (cs : Array Value) (t : TypeId) : Prop where
  row : W.heap[g]? = some (.cells cs t (0, 0))
  off : ¬ F g
  ne : g ≠ r
theorem Cb.inS {g : Nat} {cs : Array Value} {t : TypeId} (h : Cb F r W g cs t) (o : Only F W W') : Cb (Fx F W W') r W' g cs t := ⟨(o.block g (lt_of_block h.row) h.off).trans h.row, Fx.not h.off (lt_of_block h.row), h.ne⟩
theorem Cb.inR {g : Nat} {cs : Array Value} {t : TypeId} (h : Cb F r W g cs t) (o : Only (fun k => k = r) W W') : Cb F r W' g cs t := ⟨(o.block g (lt_of_block h.row) h.ne).trans h.row, h.off, h.ne⟩
theorem Cb.below {g : Nat} {cs : Array Value} {t : TypeId} (h : Cb F r W g cs t) (b : Below W.heap.size W W') : Cb F r W' g cs t := ⟨(b.block g (lt_of_block h.row)).trans h.row, h.off, h.ne⟩
theorem Dd.box (h : Dd w s r F A d A' d' W) (cs : Array Value) (t : TypeId) : Cb F r (W.alloc (.cells cs t)) W.heap.size cs t := ⟨heap_alloc_new W _, fun hk => by have := h.st.low _ hk; omega, fun e => by obtain ⟨v, L, hh, _⟩ := h.rs; have := lt_of_block hh.row; omega⟩
end
theorem dD_le {A : Abs} {o f r d : Int} : d ≤ dD A o f r d ∧ dD A o f r d ≤ d + 1 := by unfold dD; split <;> omega

end Go.Proofs.YtoeemngekioldaaDoor.Fs
