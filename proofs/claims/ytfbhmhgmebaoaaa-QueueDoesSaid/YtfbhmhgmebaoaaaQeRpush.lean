/- The document's queue: Push. -/
import Derived.Test.YtfbhmhgmebaoaaaQeRpop
namespace Go.Proofs.Ytfbhmhgmebaoaaa.Qe
open Go.RowKit
open Go.Proofs.Ytfbhmhgmebaoaaa.Rw (Rd Ow At)
open Go.Proofs.Ytfbhmhgmebaoaaa.Rq (Q zQ qA qV)
open Go.Proofs.Ytfbhmhgmebaoaaa.Fl (R4 z4)
open Go.Proofs.Ytfbhmhgmebaoaaa.Fs (Only Fx rd_only)
open Go.Proofs.Ytfbhmhgmebaoaaa.Pa (lit1 end1 wp_push_at)
open Go.Proofs.Ytfbhmhgmebaoaaa.Cu (fl_none ow_met)
set_option maxRecDepth 100000
attribute [local irreducible] Sd.wpSd wpQuiet Sg.wpSg

theorem infoJ : (Try.prog.info? 3).map (fun i => (i.zero, i.size, i.bytes)) = some (some (.int .i64 0), 1, 8) := by kernel_rfl
/-- A literal of one element that is ten cells; of one number that is known. -/
theorem fl_ten {P : Program} {l : List Oper} (f : Sg.Fl) (o : Oper) (t : TypeId) (z : Value) (bytes : Nat) (c0 c1 c2 c3 c4 c5 c6 c7 c8 c9 : Value) {s : Nat} (ho : l.toArray[f.idx]? = some o) (hd : o.dst = some f.slot) (hg : o.guard = none) (hsv : f.sv = some (s, .agg #[c0, c1, c2, c3, c4, c5, c6, c7, c8, c9])) (hop : o.op = .buildSlice t 1 #[(0, .tmp s)]) (hu : P.underlying t = some (.slice f.ty))
    (hi : (P.info? f.ty).map (fun i => (i.zero, i.size, i.bytes)) = some (some z, 10, bytes)) (hcs : f.cs = #[c0, c1, c2, c3, c4, c5, c6, c7, c8, c9]) (hfn : f.n = some 1) : Sg.FlOk P l f := by
  obtain ⟨i0, hi0, hz0, hz1, hz2⟩ := info_parts hi
  refine ⟨o, ho, hd, hg, fun a0 w h0 => ?_⟩
  have hρ : a0.eval (.tmp s) = .agg #[c0, c1, c2, c3, c4, c5, c6, c7, c8, c9] := h0 s _ hsv
  clear h0
  generalize a0.eval = ρ at *
  unfold execOp
  have hf : Instr.fill (fun i => some (i * i0.size, i0.size)) ((Array.range (1 * i0.size)).map (z.cells[· % z.cells.size]!)) ((#[(0, Operand.tmp s)] : Array (Nat × Operand)).map fun (i, x) => (i, ρ x)).toList = some #[c0, c1, c2, c3, c4, c5, c6, c7, c8, c9] := by
    rw [hz1]
    simp [Instr.fill, hρ, Value.cells]
    rw [show Array.range 10 = #[0, 1, 2, 3, 4, 5, 6, 7, 8, 9] from rfl]
    simp
  rw [hcs, hfn]
  simp only [hop, Sem.run_bind, run_buildSlice w t f.ty 1 _ #[c0, c1, c2, c3, c4, c5, c6, c7, c8, c9] i0 z hu hi0 hz0 (by rw [hz1]; omega) (by rw [hz1]; omega) hf, Result.andThen_ok]
  rfl
theorem fl_const {P : Program} {l : List Oper} (f : Sg.Fl) (o : Oper) (t : TypeId) (z : Value) (bytes : Nat) (v : Value) (ho : l.toArray[f.idx]? = some o) (hd : o.dst = some f.slot) (hg : o.guard = none) (hop : o.op = .buildSlice t 1 #[(0, .const v)]) (hu : P.underlying t = some (.slice f.ty))
    (hi : (P.info? f.ty).map (fun i => (i.zero, i.size, i.bytes)) = some (some z, 1, bytes)) (hv : v.cells = #[v]) (hcs : f.cs = #[v] := by rfl) (hfn : f.n = some 1 := by rfl) : Sg.FlOk P l f := by
  obtain ⟨i0, hi0, hz0, hz1, hz2⟩ := info_parts hi
  refine ⟨o, ho, hd, hg, fun a0 w _ => ?_⟩
  have hρ : a0.eval (.const v) = v := rfl
  generalize a0.eval = ρ at *
  unfold execOp
  have hf : Instr.fill (fun i => some (i * i0.size, i0.size)) ((Array.range (1 * i0.size)).map (z.cells[· % z.cells.size]!)) ((#[(0, Operand.const v)] : Array (Nat × Operand)).map fun (i, x) => (i, ρ x)).toList = some #[v] := by
    rw [hz1]
    simp [Instr.fill, hρ, hv]
    rw [show Array.range 1 = #[0] from rfl, show ∀ g : Nat → Value, Array.map g #[0] = #[g 0] from fun g => by simp]
    rfl
  rw [hcs, hfn]
  simp only [hop, Sem.run_bind, run_buildSlice w t f.ty 1 _ #[v] i0 z hu hi0 hz0 (by rw [hz1]; omega) (by rw [hz1]; omega) hf, Result.andThen_ok]
  rfl

/-- 'append([]T{}, list...)', as one operation: nothing that was there is turned; where what it makes lies. -/
theorem wp_copy {α : Type} {K : Rw.Kind α} {P : Program} {E : TypeId} {o : Oper} {a : Act} {w : World} {KK : Act → World → Prop} {Q : Exit → Act → World → Prop} {T : TypeId} {z : Value} {bytes : Nat} (ht : P.underlying T = some (.slice E))
    (hi : (P.info? E).map (fun i => (i.zero, i.size, i.bytes)) = some (some z, K.n, bytes)) (hz : z.cells.size = K.n) (hby : bytes ≤ 64) (s x : Operand)
    (ho : o.op = .call { callee := .builtin .append, args := #[s, x], argTypes := #[T, T] }) (B g : Nat) (hs : a.eval s = .slice (some ⟨g, 0, none⟩) 0 0) (hr : w.heap[g]? = some (.cells #[] E (0, 0))) (hB : B ≤ g)
    (u : Value) (y : List α) (hx : a.eval x = u) (hu : Rd K w u y) (hlen : y.length < 2199023255552)
    (h : ∀ v' w', Ow K w' B E v' y → (∀ k, v'.ownBlock = some k → k = g ∨ w.heap.size ≤ k) → Below w.heap.size w w' → KK (a.put o.dst v') w') : o.wp P a w KK Q := by
  have lt := lt_of_block hr
  by_cases h0 : 0 < y.length
  · obtain ⟨ad, cap, rfl, h1, h2, h3⟩ := hu
    obtain ⟨b, off, rfl, hA⟩ := h3 h0
    exact Fl.grow_op ht hi hz hby s x ho ⟨g, 0, none⟩ hs b off cap y hx hA h0 hlen fun v' w' hv b => h v' w' (hv.low (by omega)) (fun k e => .inr (ow_ty hv k e).1) b
  · have ey : y = [] := List.length_eq_zero_iff.1 (by omega)
    subst ey
    obtain ⟨i0, hi0, hz0, hz1, hz2⟩ := info_parts hi
    obtain ⟨ad, cap, rfl, h1, h2, h3⟩ := hu
    have hx' := hx
    have hrun : (Builtin.append_ #[T, T] o.type #[.slice (some ⟨g, 0, none⟩) 0 0, .slice ad 0 cap]).run P w = .ok (.slice (some ⟨g, 0, none⟩) 0 0) w := by
      cases ad with
      | none => simp [Builtin.append_, run_underlying ht, sizeOf, typeInfo, hi0, Builtin.lenOf, Builtin.firstCells, storeCells]
      | some ad => simp [Builtin.append_, run_underlying ht, sizeOf, typeInfo, hi0, Builtin.lenOf, Builtin.firstCells, storeCells, loadCells, loadCellsFrom, storeCells, Result.andThen]
    have k := h _ w (ow_met (K := K) hr hB) (fun k e => .inl (by simpa [Value.ownBlock] using e.symm)) (Below.refl _ _)
    unfold Oper.wp
    simp [execOp, ho, resolve, invoke, builtin, hs, hx', hrun, Result.andThen]
    exact k

/-- What Push answers. -/
def PushPost (w : World) (r : Nat) (F : Nat → Prop) (s : Qs) (x : Q) (e : Ending) (w' : World) : Prop := e = .returned (.int .i64 (puE s)) ∧ Rq w' r (Fx F w w') (puS s x) ∧ Only F w w'
theorem Rq.wide {w : World} {r : Nat} {F G : Nat → Prop} {s : Qs} (h : Rq w r F s) (hg : ∀ k, F k → G k) (low : ∀ k, G k → k < w.heap.size) : Rq w r G s := by
  obtain ⟨v, u, h⟩ := h
  exact ⟨v, u, h.row, h.rl, h.rt, fun k e => ⟨hg k (h.tl k e).1, (h.tl k e).2⟩, fun k e => ⟨hg k (h.tt k e).1, (h.tt k e).2⟩, hg r h.fr, low⟩

set_option maxHeartbeats 4000000 in
theorem rpush_full {w : World} {r : Nat} {F : Nat → Prop} {s : Qs} (h : Rq w r F s) (x : Q) (h8 : 8 ≤ s.L.length) : Calls Try.prog 11 #[.pointer (some ⟨r, 0, none⟩), qV x] w (PushPost w r F s x) := by
  have FIN : Hid (∀ w', Below w.heap.size w w' → PushPost w r F s x (.returned (.int .i64 12)) w') := fun w' b => by
    unfold PushPost puE puS
    rw [if_pos h8, if_pos h8]
    exact ⟨rfl, (h.below b).wide (fun k g => .inl g) (Fx.low h.low b.size), Only.of_below b⟩
  have B0 := Lib.hid ((Below.refl w.heap.size w).alloc (Nat.le_refl _) (.cells (qA x) 33))
  obtain ⟨v, u, hq⟩ := h
  obtain ⟨a, cap, rfl, _⟩ := hq.rl.slice
  have D := Lib.hid (bBl B0.out hq.row)
  have d0 := rc1 D.out 0
  have h8' : (8 : Int) ≤ s.L.length := by omega
  clear hq
  generalize s.L.length = m at *
  unfold qV
  go_enter Try.func11, Try.ntmps11
  unfold qA at *
  go_wp2
  go_ret
  exact FIN.out _ B0.out

set_option maxHeartbeats 8000000 in
theorem rpush_room {w : World} {r : Nat} {F : Nat → Prop} {s : Qs} (h : Rq w r F s) (hk : ok s) (x : Q) (h8 : s.L.length < 8) : Calls Try.prog 11 #[.pointer (some ⟨r, 0, none⟩), qV x] w (PushPost w r F s x) := by
  have B0 := Lib.hid ((Below.refl w.heap.size w).alloc (Nat.le_refl _) (.cells (qA x) 33))
  have FIN : Hid (∀ W w' v' u', Below w.heap.size w W → Below W.heap.size W w' → Ow KQ w' W.heap.size 33 v' (s.L ++ [x]) → Ow KJ w' W.heap.size 3 u' (tr s ++ [0]) → PushPost w r F s x (.returned (.int .i64 0)) ((w'.setCell ⟨r, 0, none⟩ v').setCell ⟨r, 1, none⟩ u')) := Lib.hid (fun W w' v' u' b0 b1 o1 o2 => by
    have b := b0.trans (b1.mono b0.size)
    obtain ⟨v, u, hq⟩ := h
    have lr := lt_of_block hq.row
    have sz := b0.size
    have o : Only (fun k => k = r) w' ((w'.setCell ⟨r, 0, none⟩ v').setCell ⟨r, 1, none⟩ u') := (Only.set (fun k => k = r) w' (a := ⟨r, 0, none⟩) rfl v').trans (Only.set (fun k => k = r) _ (a := ⟨r, 1, none⟩) rfl u') fun _ _ g => g
    have hs : ((w'.setCell ⟨r, 0, none⟩ v').setCell ⟨r, 1, none⟩ u').heap.size = w'.heap.size := by simp
    have n1 : ∀ k, v'.ownBlock = some k → k ≠ r := fun k e => by have := (ow_ty o1 k e).1; omega
    have n2 : ∀ k, u'.ownBlock = some k → k ≠ r := fun k e => by have := (ow_ty o2 k e).1; omega
    unfold PushPost puE puS
    rw [if_neg (by omega), if_neg (by omega)]
    refine ⟨rfl, ⟨v', u', Rw.heap_setCell_same (Rw.heap_setCell_same (b.block r lr |>.trans hq.row) v') u', rd_only (G := fun k => k = r) o1.rd (fun _ => n1) o, by rw [tr_push hk]; exact rd_only (G := fun k => k = r) o2.rd (fun _ => n2) o, fun k e => ?_, fun k e => ?_, .inl hq.fr, Fx.low hq.low (by rw [hs]; exact b.size)⟩, (Only.of_below (G := F) b).trans o fun k _ g => g ▸ hq.fr⟩
    · obtain ⟨hB, cs, hc⟩ := ow_ty o1 k e
      exact ⟨.inr ⟨by omega, by rw [hs]; exact lt_of_block hc⟩, cs, (o.block k (lt_of_block hc) (n1 k e)).trans hc⟩
    · obtain ⟨hB, cs, hc⟩ := ow_ty o2 k e
      exact ⟨.inr ⟨by omega, by rw [hs]; exact lt_of_block hc⟩, cs, (o.block k (lt_of_block hc) (n2 k e)).trans hc⟩)
  obtain ⟨v, u, hq⟩ := h
  obtain ⟨a, cap, rfl, _⟩ := hq.rl.slice
  have ru := hq.rt.slice
  rw [tr_len] at ru
  obtain ⟨a', cap', rfl, _⟩ := ru
  have RL := Lib.hid (hq.rl.below B0)
  have RT := Lib.hid (hq.rt.below B0)
  have HN := Lib.hid (And.intro h8 (tr_len s))
  have D := Lib.hid (bBl B0.out hq.row)
  have R0 := Lib.hid (heap_alloc_new w (.cells (qA x) 33))
  have d0 := rc1 D.out 0
  have h8' : ¬ (8 : Int) ≤ s.L.length := by omega
  clear hq hk
  generalize hL : s.L = L at *
  generalize hT : tr s = T at *
  generalize hm : L.length = m at *
  have HM := Lib.hid hm
  clear hL hT hm h8
  obtain ⟨id, k, n, f, rr, ⟨v0, v1, v2, v3⟩, key⟩ := x
  unfold qV
  unfold qA at *
  dsimp only at B0 RL RT D R0 d0 ⊢
  go_enter Try.func11, Try.ntmps11
  go_upto_region 3 with fail
  generalize w.alloc (.cells #[.int .i64 id, .int .i64 k, .int .i64 n, .int .i64 f, .int .i64 rr, .int .u8 v0, .int .u8 v1, .int .u8 v2, .int .u8 v3, .int .i64 key] 33) = W at *
  have LX := lt_of_block R0.out
  have LR := lt_of_block D.out
  clear d0
  have c0 := Sc.cell_in (C := Below W.heap.size W) (a := ⟨r, 0, none⟩) (fun W' h => (h.cell LR).trans (rc1 D.out 0))
  have c1 := Sc.cell_in (C := Below W.heap.size W) (a := ⟨r, 1, none⟩) (fun W' h => (h.cell LR).trans (rc1 D.out 1))
  have x0 := Sc.cell_in (C := Below W.heap.size W) (a := ⟨w.heap.size, 0, none⟩) (fun W' h => (h.cell LX).trans (rc1 R0.out 0))
  have x1 := Sc.cell_in (C := Below W.heap.size W) (a := ⟨w.heap.size, 1, none⟩) (fun W' h => (h.cell LX).trans (rc1 R0.out 1))
  have x2 := Sc.cell_in (C := Below W.heap.size W) (a := ⟨w.heap.size, 2, none⟩) (fun W' h => (h.cell LX).trans (rc1 R0.out 2))
  have x3 := Sc.cell_in (C := Below W.heap.size W) (a := ⟨w.heap.size, 3, none⟩) (fun W' h => (h.cell LX).trans (rc1 R0.out 3))
  have x4 := Sc.cell_in (C := Below W.heap.size W) (a := ⟨w.heap.size, 4, none⟩) (fun W' h => (h.cell LX).trans (rc1 R0.out 4))
  have x5 := Sc.cell_in (C := Below W.heap.size W) (a := ⟨w.heap.size, 5, none⟩) (fun W' h => (h.cell LX).trans (rc1 R0.out 5))
  have x6 := Sc.cell_in (C := Below W.heap.size W) (a := ⟨w.heap.size, 6, none⟩) (fun W' h => (h.cell LX).trans (rc1 R0.out 6))
  have x7 := Sc.cell_in (C := Below W.heap.size W) (a := ⟨w.heap.size, 7, none⟩) (fun W' h => (h.cell LX).trans (rc1 R0.out 7))
  have x8 := Sc.cell_in (C := Below W.heap.size W) (a := ⟨w.heap.size, 8, none⟩) (fun W' h => (h.cell LX).trans (rc1 R0.out 8))
  have x9 := Sc.cell_in (C := Below W.heap.size W) (a := ⟨w.heap.size, 9, none⟩) (fun W' h => (h.cell LX).trans (rc1 R0.out 9))
  have ne : Nonempty (Sc.In (Below W.heap.size W)) := ⟨⟨_, Below.refl _ _⟩⟩
  have ne2 : Nonempty (Sc.In (fun _ : World => True)) := ⟨⟨W, trivial⟩⟩
  refine Sg.startU (Below W.heap.size W) [0, 1, 3, 4, 5, 12, 13, 14] [6, 8, 15] [(2, 2), (1, 7), (2, 9), (1, 10), (2, 11), (1, 16), (2, 17), (1, 18)] [19, 20, 21, 22, 23, 24]
    [⟨2, 13, #[], 33, none, some 0⟩, ⟨9, 20, #[.int .i64 id, .int .i64 k, .int .i64 n, .int .i64 f, .int .i64 rr, .int .u8 v0, .int .u8 v1, .int .u8 v2, .int .u8 v3, .int .i64 key], 33, some (19, .agg #[.int .i64 id, .int .i64 k, .int .i64 n, .int .i64 f, .int .i64 rr, .int .u8 v0, .int .u8 v1, .int .u8 v2, .int .u8 v3, .int .i64 key]), some 1⟩, ⟨11, 22, #[], 3, none, some 0⟩, ⟨17, 28, #[.int .i64 0], 3, none, some 1⟩]
    (by kernel_rfl) (by kernel_rfl) (by kernel_rfl) (by kernel_rfl) (by kernel_rfl) (by rfl) (by show ([13, 20, 22, 28] : List Nat).Nodup; decide)
    (by intro f hf f' hf'; simp only [List.mem_cons, List.not_mem_nil, or_false] at hf hf'; rcases hf with rfl | rfl | rfl | rfl <;> rcases hf' with rfl | rfl | rfl | rfl <;> simp)
    (by intro f hf f' hf'; simp only [List.mem_cons, List.not_mem_nil, or_false] at hf hf'; rcases hf with rfl | rfl | rfl | rfl <;> rcases hf' with rfl | rfl | rfl | rfl <;> simp)
    (by
      intro f hf
      simp only [List.mem_cons, List.not_mem_nil, or_false] at hf
      rcases hf with rfl | rfl | rfl | rfl
      · exact fl_none _ _ _ _ _ _ rfl rfl rfl rfl Try.underlying26 infoQ rfl rfl
      · exact fl_ten _ _ _ _ _ _ _ _ _ _ _ _ _ _ _ rfl rfl rfl rfl rfl Try.underlying26 infoQ rfl rfl
      · exact fl_none _ _ _ _ _ _ rfl rfl rfl rfl Try.underlying27 infoJ rfl rfl
      · exact fl_const _ _ _ _ _ _ rfl rfl rfl rfl Try.underlying27 infoJ rfl)
    ((Below.refl _ _).drew) (fun W' h => h.size) (fun W' o h => h.alloc h.size o) ?_
  dsimp only [Sg.picksL, List.getElem?_cons_succ, List.getElem?_cons_zero]
  repeat (refine lit1 ?_; quiet_step (fail); refine wpQuiet_nil ?_)
  refine end1 ⟨fun f hf => by simp only [List.mem_cons, List.not_mem_nil, or_false] at hf; rcases hf with rfl | rfl | rfl | rfl <;> (intro s v e; cases e <;> rfl), ?_⟩
  dsimp only [Sg.picks, List.getElem?_cons_succ, List.getElem?_cons_zero]
  clear c0 c1 x0 x1 x2 x3 x4 x5 x6 x7 x8 x9
  refine Sg.meet (fun g1 wm hb hc row n1 hH hL => ?_)
  have R1 := Lib.hid row
  have N1 := Lib.hid n1
  clear hb hc row n1 hH hL
  go_simp
  refine Sg.call (fun xs w2 hb hc => ⟨by rfl, fun K hK => ?_⟩)
  have r1 := bBl hb R1.out
  have bw : Below W.heap.size W w2 := by obtain ⟨p, rfl⟩ := hc; exact p.ok
  clear hb hc R1
  simp only [Sg.fill, List.foldl_cons, List.foldl_nil]
  refine wp_copy (K := KQ) Try.underlying26 infoQ rfl (by omega) _ _ rfl W.heap.size g1 (by rfl) r1 N1.out (.slice a m cap) L (by rfl) (RL.out.below bw) (by have := HN.out.1; have := HM.out; omega) ?_
  intro v7 w3 own ko bl
  have B3 := Lib.hid (bw.trans (bl.mono bw.size))
  refine hK _ _ (Sc.Cl.of B3.out) bl.size (fun g hg hl => bl.block g hl) ?_
  have O7 := Lib.hid own
  have KO := Lib.hid (And.intro ko fun k e => lt_of_block (ow_ty own k e).2.choose_spec)
  clear hK K own ko bl r1 bw N1 B3
  refine Sg.meet (fun g2 wm hb hc row n2 hH hL => ?_)
  have R2 := Lib.hid row
  have N2 := Lib.hid n2
  replace O7 := Lib.hid (O7.out.keep hb)
  clear hb hc row n2 hH hL
  go_simp
  refine Sg.callH (fun xs w4 hb hc => ⟨by rfl, fun K hK => ?_⟩)
  have r2 := bBl hb R2.out
  have bw : Below W.heap.size W w4 := by obtain ⟨p, rfl⟩ := hc; exact p.ok
  have o7 := O7.out.keep hb
  clear hb hc R2 O7 N2
  simp only [Sg.fill, List.foldl_cons, List.foldl_nil]
  refine wp_push_at (K := KQ) Try.underlying26 infoQ rfl (by omega) _ _ rfl W.heap.size v7 L rfl o7 ⟨g2, 0, none⟩ ⟨id, k, n, f, rr, (v0, v1, v2, v3), key⟩ (by rfl) (fun j u hu => by
    have c := cell_of_row w4 g2 j #[.int .i64 id, .int .i64 k, .int .i64 n, .int .i64 f, .int .i64 rr, .int .u8 v0, .int .u8 v1, .int .u8 v2, .int .u8 v3, .int .i64 key] _ (0, 0) r2
    have e : ∀ o : Nat, (⟨g2, o, none⟩ : Addr).add j = ⟨g2, o + j, none⟩ := fun o => by simp [Addr.add]
    rw [e 0, Nat.zero_add]
    exact c.trans (by rw [← Array.getElem?_toList]; exact hu)) (by have := HN.out.1; have := HM.out; omega) bw.size ?_
  intro v9 w5 own gr hq
  have b5 := bw.grown gr bw.size fun k e => (World.ownsRow.lt o7 k e).1
  refine hK _ _ (Sc.Cl.of b5) gr.size (fun g h1 h2 h3 h4 => gr.block g h2 fun e => ?_) ?_
  · have k1 := KO.out.1 g e.symm
    have k2 := KO.out.2 g e.symm
    have k3 := h3 _ (List.mem_cons_self ..)
    simp only [List.mem_cons, List.not_mem_nil, or_false, not_or] at h4
    omega
  have O9 := Lib.hid own
  clear hK K own gr hq r2 bw o7 b5 KO
  refine Sg.meet (fun g3 wm hb hc row n3 hH hL => ?_)
  have R3 := Lib.hid row
  have N3 := Lib.hid n3
  replace O9 := Lib.hid (O9.out.keep hb)
  clear hb hc row n3 hH hL
  go_simp
  refine Sg.call (fun xs w6 hb hc => ⟨by rfl, fun K hK => ?_⟩)
  have r3 := bBl hb R3.out
  have bw : Below W.heap.size W w6 := by obtain ⟨p, rfl⟩ := hc; exact p.ok
  have o9 := O9.out.keep hb
  clear hb hc R3 O9
  simp only [Sg.fill, List.foldl_cons, List.foldl_nil]
  refine wp_copy (K := KJ) Try.underlying27 infoJ rfl (by omega) _ _ rfl W.heap.size g3 (by rfl) r3 N3.out (.slice a' m cap') T (by rfl) (RT.out.below bw) (by have := HN.out.1; have := HN.out.2; omega) ?_
  intro v16 w7 own ko bl
  have B7 := Lib.hid (bw.trans (bl.mono bw.size))
  refine hK _ _ (Sc.Cl.of B7.out) bl.size (fun g hg hl => bl.block g hl) ?_
  have O9 := Lib.hid (o9.keep bl)
  have O16 := Lib.hid own
  clear hK K own ko bl r3 bw N3 B7 o9
  refine Sg.meet (fun g4 wm hb hc row n4 hH hL => ?_)
  have R4 := Lib.hid row
  have N4 := Lib.hid n4
  replace O9 := Lib.hid (O9.out.keep hb)
  replace O16 := Lib.hid (O16.out.keep hb)
  clear hb hc row n4 hH hL
  go_simp
  refine Sg.call0 (fun xs w8 hb hc => ⟨by rfl, fun K hK => ?_⟩)
  have r4 := bBl hb R4.out
  have bw : Below W.heap.size W w8 := by obtain ⟨p, rfl⟩ := hc; exact p.ok
  have o9 := O9.out.keep hb
  have o16 := O16.out.keep hb
  clear hb hc R4 O9 O16 N4
  simp only [Sg.fill, List.foldl_nil]
  refine wp_push_at (K := KJ) Try.underlying27 infoJ rfl (by omega) _ _ rfl W.heap.size v16 T rfl o16 ⟨g4, 0, none⟩ 0 (by rfl) (fun j u hu => by
    have c := cell_of_row w8 g4 j #[.int .i64 0] _ (0, 0) r4
    have e : ∀ o : Nat, (⟨g4, o, none⟩ : Addr).add j = ⟨g4, o + j, none⟩ := fun o => by simp [Addr.add]
    rw [e 0, Nat.zero_add]
    exact c.trans (by rw [← Array.getElem?_toList]; exact hu)) (by have := HN.out.1; have := HN.out.2; omega) bw.size ?_
  intro v18 w9 own gr hq
  have b9 := bw.grown gr bw.size fun k e => (World.ownsRow.lt o16 k e).1
  refine hK _ _ (Sc.Cl.of b9) gr.size ?_
  have O9 := Lib.hid (Fs.ow_only (G := fun k => v16.ownBlock = some k) o9 (fun k e g => by
    obtain ⟨_, c1, h1⟩ := ow_ty o9 k e
    obtain ⟨_, c2, h2⟩ := ow_ty o16 k g
    rw [h1] at h2
    injection h2 with h2
    injection h2 with _ h2 _
    exact absurd h2 (by decide)) ⟨gr.os, gr.tape, gr.output, gr.size, fun k hk hn => gr.block k hk fun e => hn e.symm⟩)
  have O18 := Lib.hid own
  have B9 := Lib.hid b9
  clear hK K own gr hq r4 bw o9 o16 b9
  refine Sg.doneT (fun w10 hb hc => ?_)
  have b10 := bTr B9.out hb
  have E := Lib.hid (FIN.out W w10 v9 v18 B0 b10 (O9.out.keep hb) (O18.out.keep hb))
  obtain ⟨a9, cap9, rfl, _⟩ := O9.out.slice
  obtain ⟨a18, cap18, rfl, _⟩ := O18.out.slice
  generalize (L ++ [(⟨id, k, n, f, rr, (v0, v1, v2, v3), key⟩ : Q)]).length = l9 at *
  generalize (T ++ [0]).length = l18 at *
  have z0 := (b10.cell LR).trans (rc1 D.out 0)
  have y0 := (b10.frozen LR).trans (fz1 D.out 0)
  have DS := Rw.heap_setCell_same (j := 0) (bBl b10 D.out) (.slice a9 l9 cap9)
  clear hb hc O9 O18 B9 FIN b10 D R0 RL RT LX LR
  refine Sg.lastT (fun K hK => ?_)
  go_simp
  refine hK _ _ ?_
  clear hK K
  refine Sg.lastT (fun K hK => ?_)
  go_simp
  refine hK _ _ ?_
  clear hK K
  refine Sg.lastT (fun K hK => ?_)
  go_simp
  refine hK _ _ ?_
  clear hK K z0 y0
  refine Sg.lastT (fun K hK => ?_)
  go_simp
  refine hK _ _ ?_
  clear hK K
  refine Sg.lastT (fun K hK => ?_)
  go_simp
  refine hK _ _ ?_
  clear hK K
  have z1 := rc1 DS 1
  have y1 := fz1 DS 1
  refine Sg.lastT (fun K hK => ?_)
  go_simp
  refine hK _ _ ?_
  clear hK K z1 y1 DS
  refine Sg.endT ?_
  generalize (w10.setCell ⟨r, 0, none⟩ (.slice a9 l9 cap9)).setCell ⟨r, 1, none⟩ (.slice a18 l18 cap18) = wS at *
  go_wp2
  go_ret
  exact E.out

theorem rpush_any {w : World} {r : Nat} {F : Nat → Prop} {s : Qs} (h : Rq w r F s) (hk : ok s) (x : Q) : Calls Try.prog 11 #[.pointer (some ⟨r, 0, none⟩), qV x] w (PushPost w r F s x) := by
  by_cases h8 : 8 ≤ s.L.length
  · exact rpush_full h x h8
  · exact rpush_room h hk x (by omega)

end Go.Proofs.Ytfbhmhgmebaoaaa.Qe
