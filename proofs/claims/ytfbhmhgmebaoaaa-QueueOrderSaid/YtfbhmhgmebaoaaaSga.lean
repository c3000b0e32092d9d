/- Appends and the blocks of literals in regions that draw their order. -/
import Derived.Test.YtfbhmhgmebaoaaaRw
import Derived.Test.YtfbhmhgmebaoaaaSg
import Derived.ArgAppend
import Derived.Maps.AppendAt
namespace Go.Proofs.Ytfbhmhgmebaoaaa.Fl
open Go.RowKit
open Go.Proofs.Ytfbhmhgmebaoaaa.Rw (Rd Ow At)
set_option maxRecDepth 100000
/-- 'append(list, other...)' of a list without room, as one operation. -/
theorem grow_op {P : Program} {α : Type} {K4 : Rw.Kind α} {w : World} {E : Nat} {o : Oper} {a : Act} {K : Act → World → Prop} {Q : Exit → Act → World → Prop} {T : TypeId} {z : Value} {bytes : Nat} (ht : P.underlying T = some (.slice E))
    (hi : (P.info? E).map (fun i => (i.zero, i.size, i.bytes)) = some (some z, K4.n, bytes)) (hz : z.cells.size = K4.n) (hby : bytes ≤ 64) (s x : Operand)
    (ho : o.op = .call { callee := .builtin .append, args := #[s, x], argTypes := #[T, T] }) (g : Addr) (hs : a.eval s = .slice (some g) 0 0)
    (b off cap : Nat) (y : List α) (hx : a.eval x = .slice (some ⟨b, off, none⟩) y.length cap) (hA : At K4 w b off y) (h0 : 0 < y.length) (hlen : y.length < 2199023255552)
    (h : ∀ v' w', Ow K4 w' w.heap.size E v' y → Below w.heap.size w w' → K (a.put o.dst v') w') : o.wp P a w K Q := by
  obtain ⟨i0, hi0, hz0, hz1, hz2⟩ := info_parts hi
  have hb : (0 + y.length) * bytes ≤ 140737488355328 := Nat.le_trans (Nat.mul_le_mul (show 0 + y.length ≤ 2199023255552 by omega) hby) (by omega)
  obtain ⟨v', w', hrun, r1, r2⟩ := run_append_arg_grows (P := P) w T o.type E i0 z K4.n bytes ht hi0 hz0 hz1 hz2 hz K4.pos g 0 0 [] (by simp) (by simp) ⟨b, off, none⟩ y.length cap (K4.flat y) (Rw.flat_length K4 y)
    (fun j u hj => by
      have e : (⟨b, off, none⟩ : Addr).add j = ⟨b, off + j, none⟩ := by simp [Addr.add]
      rw [e]
      exact hA.flat j u hj) (by omega) (by unfold maxLen; omega) hb
  rw [Nat.zero_add, List.nil_append] at r1
  have k := h v' w' r1 ((Below.refl w.heap.size w).grown r2 (Nat.le_refl _) (fun k e => by cases e))
  unfold Oper.wp
  simp [execOp, ho, resolve, invoke, builtin, hs, hx, hrun, Result.andThen]
  exact k
end Go.Proofs.Ytfbhmhgmebaoaaa.Fl
namespace Go.Proofs.Ytfbhmhgmebaoaaa.Pa
open Go.RowKit
open Go.Proofs.Ytfbhmhgmebaoaaa.Rw (Rd Ow At Kind)
set_option maxRecDepth 100000
/-- 'append(s, x)', of a list that is the call's own: where the new one lies, too. -/
theorem push_at {α : Type} {K : Kind α} {P : Program} {E : TypeId} {ops : Array Oper} {rest : List Oper} {o : Oper} {a : Act} {w : World} {Q : Exit → Act → World → Prop} {T : TypeId} {z : Value} {bytes : Nat} (ht : P.underlying T = some (.slice E))
    (hi : (P.info? E).map (fun i => (i.zero, i.size, i.bytes)) = some (some z, K.n, bytes)) (hz : z.cells.size = K.n) (hby : bytes ≤ 64) (hgd : o.guard = none) (s x : Operand)
    (ho : o.op = .call { callee := .builtin .append, args := #[s, x], argTypes := #[T, T] }) (B : Nat) (v : Value) (l : List α) (hs : a.eval s = v) (hown : Ow K w B E v l)
    (ad : Addr) (c : α) (hx : a.eval x = .slice (some ad) 1 1) (hc : ∀ j u, (K.enc c)[j]? = some u → w.cell? (ad.add j) = some u) (hlen : l.length < 2199023255552) (hB : B ≤ w.heap.size)
    (h : ∀ v' w', Ow K w' B E v' (l ++ [c]) → w.grownBy w' v.ownBlock → (v'.ownBlock = v.ownBlock ∨ ∃ g, v'.ownBlock = some g ∧ w.heap.size ≤ g) → wpList P ops Q rest (a.put o.dst v') w') : wpList P ops Q (o :: rest) a w := by
  obtain ⟨i0, hi0, hz0, hz1, hz2⟩ := info_parts hi
  have hb : (l.length + 1) * bytes ≤ 140737488355328 := Nat.le_trans (Nat.mul_le_mul (show l.length + 1 ≤ 2199023255552 by omega) hby) (by omega)
  refine wpList_append_own_at _ hgd s x T ho B E i0 z K.n bytes ht hi0 hz0 hz1 hz2 hz K.pos v l.length (K.flat l) hs hown ad 1 1 (K.enc c) hx (by rw [K.len, Nat.one_mul]) hc (K.one c) (by unfold maxLen; omega) hb hB ?_
  intro v' w' h2 h3 _ h5
  exact h v' w' (Rw.Ow.push h2) h3 (h5.imp id fun e => ⟨_, e, Nat.le_refl _⟩)
theorem wp_push_at {α : Type} {K : Kind α} {P : Program} {E : TypeId} {o : Oper} {a : Act} {w : World} {KK : Act → World → Prop} {Q : Exit → Act → World → Prop} {T : TypeId} {z : Value} {bytes : Nat} (ht : P.underlying T = some (.slice E))
    (hi : (P.info? E).map (fun i => (i.zero, i.size, i.bytes)) = some (some z, K.n, bytes)) (hz : z.cells.size = K.n) (hby : bytes ≤ 64) (s x : Operand)
    (ho : o.op = .call { callee := .builtin .append, args := #[s, x], argTypes := #[T, T] }) (B : Nat) (v : Value) (l : List α) (hs : a.eval s = v) (hown : Ow K w B E v l)
    (ad : Addr) (c : α) (hx : a.eval x = .slice (some ad) 1 1) (hc : ∀ j u, (K.enc c)[j]? = some u → w.cell? (ad.add j) = some u) (hlen : l.length < 2199023255552) (hB : B ≤ w.heap.size)
    (h : ∀ v' w', Ow K w' B E v' (l ++ [c]) → w.grownBy w' v.ownBlock → (v'.ownBlock = v.ownBlock ∨ ∃ g, v'.ownBlock = some g ∧ w.heap.size ≤ g) → KK (a.put o.dst v') w') : o.wp P a w KK Q := by
  obtain ⟨i0, hi0, hz0, hz1, hz2⟩ := info_parts hi
  have hb : (l.length + 1) * bytes ≤ 140737488355328 := Nat.le_trans (Nat.mul_le_mul (show l.length + 1 ≤ 2199023255552 by omega) hby) (by omega)
  obtain ⟨v', w', hr, h2, h3, _, h5⟩ := run_append_own_at (P := P) w B T o.type E i0 z K.n bytes ht hi0 hz0 hz1 hz2 hz K.pos v l.length (K.flat l) hown ad 1 1 (K.enc c) (by rw [K.len, Nat.one_mul]) hc (K.one c) (by unfold maxLen; omega) hb hB
  unfold Oper.wp execOp
  simp only [ho, resolve, invoke, builtin, Sem.run_bind, Sem.run_pure, Result.andThen_ok, List.map_toArray, List.map_cons, List.map_nil, hs, hx, hr]
  exact h v' w' (Rw.Ow.push h2) h3 (h5.imp id fun e => ⟨_, e, Nat.le_refl _⟩)
theorem flOk_of {P : Program} {l : List Oper} (f : Sg.Fl) (o : Oper) (t : TypeId) (z : Value) (bytes : Nat) {s : Nat} {v : Value} (ho : l.toArray[f.idx]? = some o) (hd : o.dst = some f.slot) (hg : o.guard = none) (hsv : f.sv = some (s, v)) (hop : o.op = .buildSlice t 1 #[(0, .tmp s)]) (hu : P.underlying t = some (.slice f.ty))
    (hi : (P.info? f.ty).map (fun i => (i.zero, i.size, i.bytes)) = some (some z, 1, bytes)) (hv : v.cells = #[v]) (hcs : f.cs = #[v] := by rfl) (hfn : f.n = some 1 := by rfl) : Sg.FlOk P l f := by
  obtain ⟨i0, hi0, hz0, hz1, hz2⟩ := info_parts hi
  refine ⟨o, ho, hd, hg, fun a0 w h0 => ?_⟩
  have hρ : a0.eval (.tmp s) = v := h0 s v hsv
  clear h0
  generalize a0.eval = ρ at *
  unfold execOp
  have hf : Instr.fill (fun i => some (i * i0.size, i0.size)) ((Array.range (1 * i0.size)).map (z.cells[· % z.cells.size]!)) ((#[(0, Operand.tmp s)] : Array (Nat × Operand)).map fun (i, x) => (i, ρ x)).toList = some #[v] := by
    rw [hz1]
    simp [Instr.fill, hρ, hv]
    rw [show Array.range 1 = #[0] from rfl, show ∀ g : Nat → Value, Array.map g #[0] = #[g 0] from fun g => by simp]
    rfl
  rw [hcs, hfn]
  simp only [hop, Sem.run_bind, run_buildSlice w t f.ty 1 _ #[v] i0 z hu hi0 hz0 (by rw [hz1]; omega) (by rw [hz1]; omega) hf, Result.andThen_ok]
  rfl
theorem lit1 {P : Program} {ops : Array Oper} {C : World → Prop} {K : Act → Prop} {o : Oper} {r : List Oper} {a : Act} (h : wpQuiet P ops C (fun a' => Sg.wpL P ops C K r a') [o] a) : Sg.wpL P ops C K (o :: r) a := h
theorem end1 {P : Program} {ops : Array Oper} {C : World → Prop} {K : Act → Prop} {a : Act} (h : K a) : Sg.wpL P ops C K [] a := h
end Go.Proofs.Ytfbhmhgmebaoaaa.Pa
namespace Go.Proofs.Ytfbhmhgmebaoaaa.Cu
open Go.RowKit
open Go.Proofs.Ytfbhmhgmebaoaaa.Rw (Rd Ow At Kind)
set_option maxRecDepth 100000
/-- 'append(list, other...)' as one operation, the first list the call's own. -/
theorem wp_all {α : Type} {K : Kind α} {P : Program} {E : TypeId} {o : Oper} {a : Act} {w : World} {KK : Act → World → Prop} {Q : Exit → Act → World → Prop} {T : TypeId} {z : Value} {bytes : Nat} (ht : P.underlying T = some (.slice E))
    (hi : (P.info? E).map (fun i => (i.zero, i.size, i.bytes)) = some (some z, K.n, bytes)) (hz : z.cells.size = K.n) (hby : bytes ≤ 64) (s x : Operand)
    (ho : o.op = .call { callee := .builtin .append, args := #[s, x], argTypes := #[T, T] }) (B : Nat) (v : Value) (l : List α) (hs : a.eval s = v) (hown : Ow K w B E v l)
    (u : Value) (y : List α) (hx : a.eval x = u) (hu : Rd K w u y) (hlen : l.length + y.length < 2199023255552) (hB : B ≤ w.heap.size)
    (h : ∀ v' w', Ow K w' B E v' (l ++ y) → w.grownBy w' v.ownBlock → KK (a.put o.dst v') w') : o.wp P a w KK Q := by
  obtain ⟨i0, hi0, hz0, hz1, hz2⟩ := info_parts hi
  obtain ⟨ad, cap, rfl, h1, h2, h3⟩ := hu
  have hb : (l.length + y.length) * bytes ≤ 140737488355328 := Nat.le_trans (Nat.mul_le_mul (show l.length + y.length ≤ 2199023255552 by omega) hby) (by omega)
  by_cases h0 : 0 < y.length
  · obtain ⟨b, off, rfl, hA⟩ := h3 h0
    refine wp_append_own _ s x T ho B E i0 z K.n bytes ht hi0 hz0 hz1 hz2 hz K.pos v l.length (K.flat l) hs hown ⟨b, off, none⟩ y.length cap (K.flat y) hx (Rw.flat_length K y) ?_ (Rw.flat_one K y) (by unfold maxLen; omega) hb hB ?_
    · intro j u hj
      have e : (⟨b, off, none⟩ : Addr).add j = ⟨b, off + j, none⟩ := by simp [Addr.add]
      rw [e]
      exact hA.flat j u hj
    · intro v' w' g2 g3 _
      refine h v' w' ?_ g3
      show w'.ownsRow B E K.n v' (l ++ y).length (K.flat (l ++ y))
      rw [Rw.flat_append, List.length_append]
      exact g2
  · have ey : y = [] := List.length_eq_zero_iff.1 (by omega)
    subst ey
    cases ad with
    | none =>
      obtain rfl := h1.2 rfl
      have hrun := run_append_owned_none (P := P) (w := w) B T o.type E i0 K.n ht hi0 v l.length (K.flat l) hown
      unfold Oper.wp
      have hk := h v w (by rw [List.append_nil]; exact hown) ⟨rfl, rfl, rfl, Nat.le_refl _, fun _ _ _ => rfl⟩
      have hx' := hx
      simp [execOp, ho, resolve, invoke, builtin, hs, hx', hrun, Result.andThen]
      exact hk
    | some ad =>
      refine wp_append_own _ s x T ho B E i0 z K.n bytes ht hi0 hz0 hz1 hz2 hz K.pos v l.length (K.flat l) hs hown ad 0 cap [] hx (by simp) (by simp) (by simp) (by unfold maxLen; simp at hlen; omega) (by simpa using hb) hB ?_
      intro v' w' g2 g3 _
      refine h v' w' ?_ g3
      show w'.ownsRow B E K.n v' (l ++ []).length (K.flat (l ++ []))
      rw [List.append_nil]
      simpa using g2
/-- An empty list's block, met. -/
theorem ow_met {α : Type} {K : Kind α} {w : World} {B E g : Nat} (h : w.heap[g]? = some (.cells #[] E (0, 0))) (hB : B ≤ g) : Ow K w B E (.slice (some ⟨g, 0, none⟩) 0 0) [] :=
  ⟨by show (K.flat ([] : List α)).length = 0 * K.n; simp [Rw.Kind.flat], .inr ⟨g, 0, #[], rfl, hB, h, Nat.le_refl _, by unfold maxLen; omega, by simp, by simp [Rw.Kind.flat]⟩⟩
/-- 'append([]T{}, list...)', as one operation: nothing that was there is turned. -/
theorem wp_copy {α : Type} {K : Kind α} {P : Program} {E : TypeId} {o : Oper} {a : Act} {w : World} {KK : Act → World → Prop} {Q : Exit → Act → World → Prop} {T : TypeId} {z : Value} {bytes : Nat} (ht : P.underlying T = some (.slice E))
    (hi : (P.info? E).map (fun i => (i.zero, i.size, i.bytes)) = some (some z, K.n, bytes)) (hz : z.cells.size = K.n) (hby : bytes ≤ 64) (s x : Operand)
    (ho : o.op = .call { callee := .builtin .append, args := #[s, x], argTypes := #[T, T] }) (B g : Nat) (hs : a.eval s = .slice (some ⟨g, 0, none⟩) 0 0) (hr : w.heap[g]? = some (.cells #[] E (0, 0))) (hB : B ≤ g)
    (u : Value) (y : List α) (hx : a.eval x = u) (hu : Rd K w u y) (hlen : y.length < 2199023255552)
    (h : ∀ v' w', Ow K w' B E v' y → Below w.heap.size w w' → KK (a.put o.dst v') w') : o.wp P a w KK Q := by
  have lt := lt_of_block hr
  by_cases h0 : 0 < y.length
  · obtain ⟨ad, cap, rfl, h1, h2, h3⟩ := hu
    obtain ⟨b, off, rfl, hA⟩ := h3 h0
    exact Fl.grow_op ht hi hz hby s x ho ⟨g, 0, none⟩ hs b off cap y hx hA h0 hlen fun v' w' hv b => h v' w' (hv.low (by omega)) b
  · have ey : y = [] := List.length_eq_zero_iff.1 (by omega)
    subst ey
    obtain ⟨i0, hi0, hz0, hz1, hz2⟩ := info_parts hi
    obtain ⟨ad, cap, rfl, h1, h2, h3⟩ := hu
    have hx' := hx
    have hrun : (Builtin.append_ #[T, T] o.type #[.slice (some ⟨g, 0, none⟩) 0 0, .slice ad 0 cap]).run P w = .ok (.slice (some ⟨g, 0, none⟩) 0 0) w := by
      cases ad with
      | none => simp [Builtin.append_, run_underlying ht, sizeOf, typeInfo, hi0, Builtin.lenOf, Builtin.firstCells, storeCells]
      | some ad => simp [Builtin.append_, run_underlying ht, sizeOf, typeInfo, hi0, Builtin.lenOf, Builtin.firstCells, storeCells, loadCells, loadCellsFrom, storeCells, Result.andThen]
    have k := h _ w (ow_met (K := K) hr hB) (Below.refl _ _)
    unfold Oper.wp
    simp [execOp, ho, resolve, invoke, builtin, hs, hx', hrun, Result.andThen]
    exact k
theorem fl_none {P : Program} {l : List Oper} (f : Sg.Fl) (o : Oper) (t : TypeId) (z : Value) (size bytes : Nat) (ho : l.toArray[f.idx]? = some o) (hd : o.dst = some f.slot) (hg : o.guard = none) (hop : o.op = .buildSlice t 0 #[]) (hu : P.underlying t = some (.slice f.ty))
    (hi : (P.info? f.ty).map (fun i => (i.zero, i.size, i.bytes)) = some (some z, size, bytes)) (hcs : f.cs = #[]) (hfn : f.n = some 0) : Sg.FlOk P l f := by
  obtain ⟨i0, hi0, hz0, hz1, hz2⟩ := info_parts hi
  refine ⟨o, ho, hd, hg, fun a0 w _ => ?_⟩
  generalize a0.eval = ρ at *
  unfold execOp
  have hr : (Instr.buildSlice t 0 #[]).run P w = .ok (.slice (some ⟨w.heap.size, 0, none⟩) 0 0) (w.alloc (.cells #[] f.ty)) := by
    simp [Instr.buildSlice, run_underlying hu, sizeOf, typeInfo, hi0, newRow, Instr.fill, show Array.range 0 = #[] from rfl]
  have hm : (Array.map (fun x : Nat × Operand => (x.fst, ρ x.snd)) #[]) = #[] := by simp
  rw [hcs, hfn]
  simp only [hop, Sem.run_bind, hm, hr, Result.andThen_ok]
  rfl
theorem fl_two {P : Program} {l : List Oper} (f : Sg.Fl) (o : Oper) (t : TypeId) (z : Value) (bytes : Nat) (x y : Value) {s : Nat} (ho : l.toArray[f.idx]? = some o) (hd : o.dst = some f.slot) (hg : o.guard = none) (hsv : f.sv = some (s, .agg #[x, y])) (hop : o.op = .buildSlice t 1 #[(0, .tmp s)]) (hu : P.underlying t = some (.slice f.ty))
    (hi : (P.info? f.ty).map (fun i => (i.zero, i.size, i.bytes)) = some (some z, 2, bytes)) (hcs : f.cs = #[x, y]) (hfn : f.n = some 1) : Sg.FlOk P l f := by
  obtain ⟨i0, hi0, hz0, hz1, hz2⟩ := info_parts hi
  refine ⟨o, ho, hd, hg, fun a0 w h0 => ?_⟩
  have hρ : a0.eval (.tmp s) = .agg #[x, y] := h0 s _ hsv
  clear h0
  generalize a0.eval = ρ at *
  unfold execOp
  have hf : Instr.fill (fun i => some (i * i0.size, i0.size)) ((Array.range (1 * i0.size)).map (z.cells[· % z.cells.size]!)) ((#[(0, Operand.tmp s)] : Array (Nat × Operand)).map fun (i, x) => (i, ρ x)).toList = some #[x, y] := by
    rw [hz1]
    simp [Instr.fill, hρ, Value.cells]
    rw [show Array.range 2 = #[0, 1] from rfl, show ∀ g : Nat → Value, Array.map g #[0, 1] = #[g 0, g 1] from fun g => by simp]
    rfl
  rw [hcs, hfn]
  simp only [hop, Sem.run_bind, run_buildSlice w t f.ty 1 _ #[x, y] i0 z hu hi0 hz0 (by rw [hz1]; omega) (by rw [hz1]; omega) hf, Result.andThen_ok]
  rfl
end Go.Proofs.Ytfbhmhgmebaoaaa.Cu
