/- Slices of slices of entries, and arrays of seventeen numbers, in memory. -/
import Derived.Test.YtnigbihofebfhaaCkMath
import Derived.Test.YtnigbihofebfhaaFlMem
import Derived.Test.YtnigbihofebfhaaUaMem
import Derived.Laws.Rows
import Derived.Deep.WholeRow
namespace Go.Proofs.Ytnigbihofebfhaa.Ck
open Go.RowKit
open Go.Proofs.Ytnigbihofebfhaa.Ro (E5 z5 eat ent K5 at5)
open Go.Proofs.Ytnigbihofebfhaa.Rw (Rd Ow At)

/-- A slice's head: where it begins, how long it is, how long it may be. -/
abbrev Hd := Option Addr × Nat × Nat
def zh : Hd := (none, 0, 0)
def sl (h : Hd) : Value := .slice h.1 h.2.1 h.2.2
def KS : Rw.Kind Hd := ⟨fun h => [sl h], 1, by decide, fun _ => rfl, fun _ u h => by simp at h; subst h; rfl, zh⟩
/-- The slice v reads as the lists. -/
def RdL (w : World) (v : Value) (L : LL) : Prop := ∃ a cap, v = .slice a L.length cap ∧ (L.length ≤ cap ∧ (a = none → cap = 0)) ∧ cap ≤ maxLen ∧
  (0 < L.length → ∃ b off, a = some ⟨b, off, none⟩ ∧ ∀ i, i < L.length → ∃ u, w.cell? ⟨b, off + i, none⟩ = some u ∧ Rd K5 w u (lat L i))
section
variable {w w' : World} {v : Value} {L : LL}
theorem RdL.below (h : RdL w v L) (hb : Below w.heap.size w w') : RdL w' v L := by
  obtain ⟨a, cap, e, h1, h2, h3⟩ := h
  refine ⟨a, cap, e, h1, h2, fun hp => ?_⟩
  obtain ⟨b, off, ea, hA⟩ := h3 hp
  refine ⟨b, off, ea, fun i hi => ?_⟩
  obtain ⟨u, c, r⟩ := hA i hi
  exact ⟨u, (hb.cell (World.block_lt_of_cell? _ _ c)).trans c, r.below hb⟩
theorem RdL.slice (h : RdL w v L) : ∃ a cap, v = .slice a L.length cap ∧ cap ≤ maxLen := by
  obtain ⟨a, cap, e, _, h2, _⟩ := h
  exact ⟨a, cap, e, h2⟩
/-- One of the lists: its head in its cell, and what it reads as. -/
theorem RdL.one (h : RdL w v L) {k : Nat} (hk : k < L.length) : ∃ b off cap a' cap', v = .slice (some ⟨b, off, none⟩) L.length cap ∧ w.cell? ⟨b, off + k, none⟩ = some (.slice a' (lat L k).length cap') ∧ cap' ≤ maxLen ∧
    (0 < (lat L k).length → ∃ b' off', a' = some ⟨b', off', none⟩ ∧ At K5 w b' off' (lat L k)) := by
  obtain ⟨a, cap, e, h1, h2, h3⟩ := h
  obtain ⟨b, off, rfl, hA⟩ := h3 (by omega)
  obtain ⟨u, c, a', cap', rfl, g1, g2, g3⟩ := hA k hk
  exact ⟨b, off, cap, a', cap', e, c, g2, g3⟩
theorem RdL.rd (h : RdL w v L) {k : Nat} (hk : k < L.length) {b off cap : Nat} (e : v = .slice (some ⟨b, off, none⟩) L.length cap) {u : Value} (c : w.cell? ⟨b, off + k, none⟩ = some u) : Rd K5 w u (lat L k) := by
  obtain ⟨a, cap', e', h1, h2, h3⟩ := h
  obtain ⟨b', off', rfl, hA⟩ := h3 (by omega)
  rw [e] at e'
  injection e' with e1 _ _
  injection e1 with e1
  injection e1 with e1 e2 _
  subst e1 e2
  obtain ⟨u', c', r⟩ := hA k hk
  rw [c] at c'
  injection c' with c'
  subst c'
  exact r
/-- The first n of them. -/
theorem RdL.take {a : Option Addr} {n cap : Nat} (h : RdL w (.slice a n cap) L) {k : Nat} (hk : k ≤ L.length) : RdL w (.slice a k cap) (L.take k) := by
  obtain ⟨a', cap', e, h1, h2, h3⟩ := h
  injection e with e1 e2 e3
  subst e1 e2 e3
  have hl : (L.take k).length = k := by rw [List.length_take]; omega
  refine ⟨a, cap, by rw [hl], ⟨by omega, h1.2⟩, h2, fun hp => ?_⟩
  rw [hl] at hp
  obtain ⟨b, off, rfl, hA⟩ := h3 (by omega)
  refine ⟨b, off, rfl, fun i hi => ?_⟩
  rw [hl] at hi
  rw [lat_take hi]
  exact hA i (by omega)
/-- Heads that each read as a list. -/
theorem rdl_of {hs : List Hd} (h : Rd KS w v hs) (hl : hs.length = L.length) (each : ∀ i, i < L.length → Rd K5 w (sl (hs.getD i zh)) (lat L i)) : RdL w v L := by
  obtain ⟨a, cap, e, h1, h2, h3⟩ := h
  rw [hl] at e h1 h3
  refine ⟨a, cap, e, h1, h2, fun hp => ?_⟩
  obtain ⟨b, off, ea, hA⟩ := h3 hp
  refine ⟨b, off, ea, fun i hi => ⟨_, ?_, each i hi⟩⟩
  have c := hA i (by rw [hl]; exact hi) 0 _ rfl
  simp only [KS, Nat.mul_one, Nat.add_zero] at c
  exact c
end
theorem rd_head {w : World} {v : Value} {l : List E5} (h : Rd K5 w v l) : ∃ hd : Hd, v = sl hd := by
  obtain ⟨a, cap, e, _⟩ := h
  exact ⟨(a, l.length, cap), e⟩

/-! ### arrays of seventeen numbers -/
def ar (F : Nat → Int) : Array Value := #[.int .i64 (F 0), .int .i64 (F 1), .int .i64 (F 2), .int .i64 (F 3), .int .i64 (F 4), .int .i64 (F 5), .int .i64 (F 6), .int .i64 (F 7), .int .i64 (F 8), .int .i64 (F 9), .int .i64 (F 10), .int .i64 (F 11), .int .i64 (F 12), .int .i64 (F 13), .int .i64 (F 14), .int .i64 (F 15), .int .i64 (F 16)]
def upI (F : Nat → Int) (k : Nat) (x : Int) (i : Nat) : Int := if i = k then x else F i
theorem ar_size (F : Nat → Int) : (ar F).size = 17 := rfl
theorem ar_one (F : Nat → Int) : (ar F).all (·.oneCell') = true := by simp [ar, Value.oneCell']
theorem lt17 {k : Nat} (h : k < 17) : k = 0 ∨ k = 1 ∨ k = 2 ∨ k = 3 ∨ k = 4 ∨ k = 5 ∨ k = 6 ∨ k = 7 ∨ k = 8 ∨ k = 9 ∨ k = 10 ∨ k = 11 ∨ k = 12 ∨ k = 13 ∨ k = 14 ∨ k = 15 ∨ k = 16 := by omega
theorem ar_get (F : Nat → Int) (k : Nat) (h : k < 17) : (ar F)[k]? = some (.int .i64 (F k)) := by
  rcases lt17 h with rfl | rfl | rfl | rfl | rfl | rfl | rfl | rfl | rfl | rfl | rfl | rfl | rfl | rfl | rfl | rfl | rfl <;> rfl
theorem ar_set (F : Nat → Int) (k : Nat) (h : k < 17) (x : Int) : (ar F).setIfInBounds k (.int .i64 x) = ar (upI F k x) := by
  rcases lt17 h with rfl | rfl | rfl | rfl | rfl | rfl | rfl | rfl | rfl | rfl | rfl | rfl | rfl | rfl | rfl | rfl | rfl <;> rfl
theorem ar_congr {F G : Nat → Int} (h : ∀ i, i < 17 → F i = G i) : ar F = ar G := by
  unfold ar
  rw [h 0 (by omega), h 1 (by omega), h 2 (by omega), h 3 (by omega), h 4 (by omega), h 5 (by omega), h 6 (by omega), h 7 (by omega), h 8 (by omega), h 9 (by omega), h 10 (by omega), h 11 (by omega), h 12 (by omega), h 13 (by omega), h 14 (by omega), h 15 (by omega), h 16 (by omega)]
/-- Block g holds just the array. -/
def RowI (w : World) (g : Nat) (F : Nat → Int) : Prop := w.heap[g]? = some (.cells (ar F) 39 (0, 0))
section
variable {w w' : World} {g : Nat} {F : Nat → Int}
theorem RowI.lt (h : RowI w g F) : g < w.heap.size := lt_of_block h
theorem RowI.cell (h : RowI w g F) (k : Nat) (hk : k < 17) : w.cell? ⟨g, k, none⟩ = some (.int .i64 (F k)) := by rw [cell_of_row w g k _ _ (0, 0) h, ar_get F k hk]
theorem RowI.frozen (h : RowI w g F) (k : Nat) : w.frozen? ⟨g, k, none⟩ = false := frozen_of_row w g k _ _ h
theorem RowI.new (w : World) (F : Nat → Int) : RowI (w.alloc (.cells (ar F) 39)) w.heap.size F := heap_alloc_new w _
theorem RowI.set_ (h : RowI w g F) (k : Nat) (hk : k < 17) (x : Int) : RowI (w.setCell ⟨g, k, none⟩ (.int .i64 x)) g (upI F k x) := by
  unfold RowI at h ⊢
  rw [heap_setCell_same w g k _ _ _ h, ar_set F k hk x]
theorem RowI.far (h : RowI w g F) {p : Addr} (hp : g ≠ p.block) (u : Value) : RowI (w.setCell p u) g F := (Below.heap_setCell w p u g hp).trans h
theorem RowI.row (h : RowI w g F) (G : Nat → Int) : RowI (w.setRow g (ar G)) g G := setRow_heap w g _ _ _ _ h
theorem RowI.below {B : Nat} (h : RowI w g F) (hb : Below B w w') (hg : g < B) : RowI w' g F := (hb.block g hg).trans h
theorem RowI.to {G : Nat → Int} (h : RowI w g F) (e : ∀ i, i < 17 → F i = G i) : RowI w g G := by unfold RowI at *; rw [h, ar_congr e]
end
theorem infoI (F : Nat → Int) : (Try.prog.info? 39).map (·.size) = some (ar F).size := by rw [ar_size]; kernel_rfl
theorem load_ar {ops : Array Oper} {rest : List Oper} {o : Oper} {a : Act} {w : World} {Q : Exit → Act → World → Prop} (hgd : o.guard = none) (x : Operand) (ho : o.op = .load 39 x)
    (g : Nat) (F : Nat → Int) (hx : a.eval x = .pointer (some ⟨g, 0, none⟩)) (hrow : RowI w g F) (h : wpList Try.prog ops Q rest (a.put o.dst (.agg (ar F))) w) : wpList Try.prog ops Q (o :: rest) a w :=
  wpList_load_row hgd _ x ho g hx _ _ _ _ hrow Try.underlying39 rfl (infoI _) h
theorem store_ar {ops : Array Oper} {rest : List Oper} {o : Oper} {a : Act} {w : World} {Q : Exit → Act → World → Prop} (hgd : o.guard = none) (x y : Operand) (ho : o.op = .store 39 x y)
    (g : Nat) (F G : Nat → Int) (hx : a.eval x = .pointer (some ⟨g, 0, none⟩)) (hy : a.eval y = .agg (ar F)) (hrow : RowI w g G) (h : wpList Try.prog ops Q rest (a.put o.dst undef) (w.setRow g (ar F))) : wpList Try.prog ops Q (o :: rest) a w :=
  wpList_store_row hgd _ x y ho g _ hx hy _ _ hrow (infoI _) rfl (ar_one _) h
/-- An array into a block that was just made. -/
theorem store_ar_new {ops : Array Oper} {rest : List Oper} {o : Oper} {a : Act} {w : World} {Q : Exit → Act → World → Prop} (hgd : o.guard = none) (x y : Operand) (ho : o.op = .store 39 x y)
    (F : Nat → Int) (hx : a.eval x = .pointer (some ⟨w.heap.size, 0, none⟩)) (hy : a.eval y = .agg (ar F)) (h : wpList Try.prog ops Q rest (a.put o.dst undef) (w.alloc (.cells (ar F) 39))) :
    wpList Try.prog ops Q (o :: rest) a (w.alloc (.cells #[.int .i64 0, .int .i64 0, .int .i64 0, .int .i64 0, .int .i64 0, .int .i64 0, .int .i64 0, .int .i64 0, .int .i64 0, .int .i64 0, .int .i64 0, .int .i64 0, .int .i64 0, .int .i64 0, .int .i64 0, .int .i64 0, .int .i64 0] 39)) :=
  store_ar hgd x y ho _ F (fun _ => 0) hx hy (RowI.new w (fun _ => 0)) (by rw [World.setRow_alloc_new]; exact h)
theorem copy_ar {ops : Array Oper} {rest : List Oper} {o o' : Oper} {a : Act} {w : World} {Q : Exit → Act → World → Prop} (hg : o.guard = none) (hg' : o'.guard = none) (x y : Operand) (d : Tmp) (ho : o.op = .load 39 x) (hd : o.dst = some d) (ho' : o'.op = .store 39 y (.tmp d))
    (g g' : Nat) (F G : Nat → Int) (hx : a.eval x = .pointer (some ⟨g, 0, none⟩)) (hy : (a.put (some d) (.agg (ar F))).eval y = .pointer (some ⟨g', 0, none⟩)) (hz : (a.put (some d) (.agg (ar F))).eval (.tmp d) = .agg (ar F)) (hrow : RowI w g F) (hrow' : RowI w g' G)
    (h : wpList Try.prog ops Q rest ((a.put (some d) (.agg (ar F))).put o'.dst undef) (w.setRow g' (ar F))) : wpList Try.prog ops Q (o :: o' :: rest) a w :=
  load_ar hg x ho g F hx hrow (by rw [hd]; exact store_ar hg' y (.tmp d) ho' g' F G hy hz hrow' h)
theorem results_ar {fn : Func} {p : Tmp} (h : fn.results = #[.cell p 39]) (tmps : Array Value) (w : World) (g : Nat) (F : Nat → Int) (hp : tmps.getD p undef = .pointer (some ⟨g, 0, none⟩)) (hrow : RowI w g F) :
    (results fn tmps).run Try.prog w = .ok (.agg (ar F)) w := results_cell_row h tmps w g _ _ _ _ hp hrow Try.underlying39 rfl (infoI _)
/-- Results: a number, and an entry that lies in a block. -/
def row5 (x : E5) : Array Value := #[.int .i64 x.1, .int .i64 x.2.1, .int .i64 x.2.2.1, .int .i64 x.2.2.2.1, .int .i64 x.2.2.2.2]
def RowE (w : World) (g : Nat) (x : E5) : Prop := w.heap[g]? = some (.cells (row5 x) 30 (0, 0))
theorem RowE.lt {w : World} {g : Nat} {x : E5} (h : RowE w g x) : g < w.heap.size := lt_of_block h
theorem RowE.below {B : Nat} {w w' : World} {g : Nat} {x : E5} (h : RowE w g x) (hb : Below B w w') (hg : g < B) : RowE w' g x := (hb.block g hg).trans h
theorem results_who {fn : Func} {p r : Tmp} (h : fn.results = #[.tmp r, .cell p 30]) (tmps : Array Value) (w : World) (g1 : Nat) (n : Int) (x : E5)
    (hp : tmps.getD p undef = .pointer (some ⟨g1, 0, none⟩)) (hr : tmps.getD r undef = .int .i64 n) (h1 : RowE w g1 x) :
    (results fn tmps).run Try.prog w = .ok (.tuple #[.int .i64 n, ent x]) w := by
  have e1 := run_loadVar_row (P := Try.prog) w g1 30 30 (row5 x) (0, 0) _ h1 Try.underlying30 rfl (by show _ = some 5; kernel_rfl)
  have hp' : tmps[p]?.getD undef = .pointer (some ⟨g1, 0, none⟩) := by simpa using hp
  have hr' : tmps[r]?.getD undef = .int .i64 n := by simpa using hr
  simp only [results, h]
  simp [Result.andThen, hp', hr', asAddr, e1, ent, row5]

end Go.Proofs.Ytnigbihofebfhaa.Ck
