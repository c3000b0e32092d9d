/- Layer 21: the code's Read: the reply of bytes. -/
import Derived.Test.YticdgjohladdlaaRqCid
import Derived.Test.YticdgjohladdlaaSg
import Derived.Test.YticdgjohladdlaaSc
namespace Go.Proofs.Yticdgjohladdlaa.Rq
open Go.RowKit
open Go.Proofs.Yticdgjohladdlaa.Rw (Rd Ow At)
open Go.Proofs.Yticdgjohladdlaa.Fl (R4 z4)
set_option maxRecDepth 100000
attribute [local irreducible] Sd.wpSd wpQuiet Sg.wpSg

set_option maxHeartbeats 4000000 in
theorem read_len (w : World) (a : Option Addr) (cap : Nat) (l : List Int) (hl : l.length ≠ 9) : Calls Try.prog 15 #[.slice a l.length cap] w (ReadPost w l) := by
  have E : Hid (∀ w', Below w.heap.size w w' → ReadPost w l (.returned (.tuple #[yV zY, .int .i64 2])) w') := fun w' b => ⟨by rw [if_neg fun h => hl h.1, if_neg fun h => hl h.1], b⟩
  have B0 := Lib.hid ((Below.refl w.heap.size w).alloc (Nat.le_refl _) (.cells (yA zY) 40))
  have R0 := Lib.hid (heap_alloc_new w (.cells (yA zY) 40))
  generalize l.length = n at *
  have h9 : ¬ (n : Int) = 9 := by omega
  have m9 : ((n : Int) != 9) = true := bne_iff_ne.2 h9
  unfold yV yA zY z4 at *
  dsimp only at E B0 R0
  go_enter Try.func15, Try.ntmps15
  go_wp2
  (try simp only [Exit.inBlock, Exit.then])
  exact bodyPost_ret (results_reply (p := 2) (r := 3) rfl _ _ w.heap.size _ rfl rfl R0.out rfl) rfl (E.out _ B0.out)

theorem splice_all (p0 p1 : Value) (a b c d : Int) : splice [p0, p1, .int .u8 0, .int .u8 0, .int .u8 0, .int .u8 0] 2 ([a, b, c, d].map (Value.int .u8)) = [p0, p1, .int .u8 a, .int .u8 b, .int .u8 c, .int .u8 d] := rfl

set_option maxHeartbeats 8000000 in
theorem read_nine (w : World) (b off cap : Nat) (l : List Int) (hl : l.length = 9) (hc : l.length ≤ cap) (hb : ∀ x ∈ l, 0 ≤ x ∧ x < 256) (hA : At KU w b off l) : Calls Try.prog 15 #[.slice (some ⟨b, off, none⟩) l.length cap] w (ReadPost w l) := by
  have E : Hid (∀ c w', decide (may (yof l) ∧ yb (yof l) = l) = c → Below w.heap.size w w' → ReadPost w l (.returned (.tuple #[yV (if c then yof l else zY), .int .i64 (if c then 0 else 2)])) w') := fun c w' hc b => by
    refine ⟨?_, b⟩
    rw [← hc]
    by_cases h : isY l
    · rw [if_pos h, if_pos h, decide_eq_true h.2, if_pos rfl, if_pos rfl]
    · rw [if_neg h, if_neg h, decide_eq_false fun k => h ⟨hl, k⟩]
      rfl
  have ge := getD_byte hb
  have c := cells_at hA
  have B0 := Lib.hid ((Below.refl w.heap.size w).alloc (Nat.le_refl _) (.cells (yA zY) 40))
  have R0 := Lib.hid (heap_alloc_new w (.cells (yA zY) 40))
  have HA := Lib.hid hA
  have HB := Lib.hid hb
  have HN := Lib.hid hl
  have c2 := bCe B0.out (c 2 (by omega))
  have c3 := bCe B0.out (c 3 (by omega))
  have d4 := Sd.cell_by (bCe B0.out (c 4 (by omega)))
  have g2 := ge 2
  have g3 := ge 3
  have e4 : IntKind.i64.wrap (l.getD 4 0) = l.getD 4 0 := IntWalk.i64_in _ (by have := ge 4; omega)
  have MC : Hid (w.cell? ⟨b, off + 5, none⟩ = some (.int .u8 (l.getD 5 0)) ∧ w.cell? ⟨b, off + 6, none⟩ = some (.int .u8 (l.getD 6 0)) ∧ w.cell? ⟨b, off + 7, none⟩ = some (.int .u8 (l.getD 7 0)) ∧ w.cell? ⟨b, off + 8, none⟩ = some (.int .u8 (l.getD 8 0))) := Lib.hid ⟨c 5 (by omega), c 6 (by omega), c 7 (by omega), c 8 (by omega)⟩
  have GV : Hid (okV (l.getD 5 0, l.getD 6 0, l.getD 7 0, l.getD 8 0)) := Lib.hid ⟨ge 5, ge 6, ge 7, ge 8⟩
  have QE : Hid (yof l = ⟨l.getD 2 0 * 256 + l.getD 3 0, l.getD 4 0, (l.getD 5 0, l.getD 6 0, l.getD 7 0, l.getD 8 0)⟩) := Lib.hid rfl
  rw [hl] at hc ⊢
  have hcap : ¬ cap = 5 := by omega
  clear c ge hA hb hl
  generalize l.getD 2 0 = b2 at *
  generalize l.getD 3 0 = b3 at *
  generalize l.getD 4 0 = b4 at *
  generalize l.getD 5 0 = u0 at *
  generalize l.getD 6 0 = u1 at *
  generalize l.getD 7 0 = u2 at *
  generalize l.getD 8 0 = u3 at *
  unfold yA zY z4 at B0 R0 d4 c2 c3
  dsimp only at B0 R0 d4 c2 c3
  go_enter Try.func15, Try.ntmps15
  go_wp2_with fail
  generalize w.alloc (.cells #[.int .i64 0, .int .i64 0, .int .u8 0, .int .u8 0, .int .u8 0, .int .u8 0] 40) = W at *
  refine Sg.startP [(0, 0), (0, 2), (0, 3), (0, 4), (0, 5), (1, 1), (0, 6), (2, 7), (1, 8)] [⟨7, 4, #[.int .i64 0, .int .i64 0, .int .u8 0, .int .u8 0, .int .u8 0, .int .u8 0], 40, none, none⟩] (by kernel_rfl) (by kernel_rfl) (by kernel_rfl) (by decide) (by decide) ?_ ?_ ?_
  · simp
  · intro f hf
    simp only [List.mem_cons, List.not_mem_nil, or_false] at hf
    subst hf
    exact Sg.okP rfl rfl rfl fun ρ w => by go_simp
  dsimp only [Sg.picks, List.getElem?_cons_succ, List.getElem?_cons_zero]
  have BW := Lib.hid ((Below.refl W.heap.size W).drew)
  repeat (refine Sg.lit (fun xs => ?_); simp only [Sg.fill, List.foldl_cons, List.foldl_nil]; quiet_step (fail); refine wpQuiet_nil ?_)
  refine Sg.callB (fun xs w5 hb hc => ⟨by rfl, fun K hK => ?_⟩)
  have B5 := bTr BW hb
  have ID := Lib.hid (id_any w5 b off 9 cap b2 b3 (by omega) (bCe B5.out c2) (bCe B5.out c3) g2 g3)
  clear hb hc BW
  simp only [Sg.fill, List.foldl_cons, List.foldl_nil]
  go_simp
  refine ID.out.mono ?_
  rintro e w6 ⟨rfl, b6'⟩
  have B6 := bTr B5.out b6'
  refine hK _ _ (Sd.Cl.of B6.out) b6'.size (fun _ => b6') ?_
  clear hK K ID B5 b6' c2 c3 g2 g3 d4
  repeat (refine Sg.lit (fun xs => ?_); simp only [Sg.fill, List.foldl_cons, List.foldl_nil]; quiet_step (fail); refine wpQuiet_nil ?_)
  refine Sg.meetP (fun gF w7 hb hc row n7 hH hL => ?_)
  have B7 := bTr B6.out hb
  have R7 := Lib.hid (row)
  clear hb hc row hH hL B6
  refine Sg.callB (fun xs w9 hb hc => ⟨by rfl, fun K hK => ?_⟩)
  have B9 := bTr B7.out hb
  have R9 := Lib.hid (bBl hb R7.out)
  clear hb hc B7 R7
  simp only [Sg.fill, List.foldl_nil]
  refine wp_store_row 40 _ _ rfl gF #[.int .i64 (b2 * 256 + b3), .int .i64 b4, .int .u8 0, .int .u8 0, .int .u8 0, .int .u8 0] rfl rfl 40 _ R9.out (by kernel_rfl) rfl (by simp [Value.oneCell']) ?_
  have RA := Lib.hid (setRow_heap w9 gF _ #[.int .i64 (b2 * 256 + b3), .int .i64 b4, .int .u8 0, .int .u8 0, .int .u8 0, .int .u8 0] _ _ R9.out)
  have BA := Lib.hid (below_setRow B9.out n7 #[.int .i64 (b2 * 256 + b3), .int .i64 b4, .int .u8 0, .int .u8 0, .int .u8 0, .int .u8 0])
  have hsz : (w9.setRow gF #[.int .i64 (b2 * 256 + b3), .int .i64 b4, .int .u8 0, .int .u8 0, .int .u8 0, .int .u8 0]).heap.size = w9.heap.size := by simp [World.setRow]
  refine hK _ _ (Sd.Cl.of BA.out) (by rw [hsz]; exact Nat.le_refl _) (fun h => absurd rfl h) ?_
  clear hK K hsz
  generalize w9.setRow gF #[.int .i64 (b2 * 256 + b3), .int .i64 b4, .int .u8 0, .int .u8 0, .int .u8 0, .int .u8 0] = wA at *
  refine Sg.done (fun wB hb hc => ?_)
  have BB := bTr BA.out hb
  have RB := Lib.hid (bBl hb RA.out)
  clear hb hc BA RA B9 R9
  have BX := bTr B0.out BB.out
  go_wp2_with fail
  have ne : Nonempty (Sc.In (fun _ : World => True)) := ⟨⟨wB, trivial⟩⟩
  refine Sc.start (fun _ => True) [(false, 0), (false, 1), (false, 2), (false, 3), (true, 4)] (by kernel_rfl) (by kernel_rfl) (by kernel_rfl) trivial ?_
  dsimp only [Sd.picks, List.getElem?_cons_succ, List.getElem?_cons_zero]
  repeat (refine Sd.lit ?_; quiet_step (fail); refine wpQuiet_nil ?_)
  refine Sd.call (by rfl) (fun K hK => ?_)
  refine wp_copy _ _ _ _ rfl 5 Try.underlying26 (by kernel_rfl) _ _ _ _ _ _ rfl rfl gF 2 _ 40 RB.out ([u0, u1, u2, u3].map (Value.int .u8)) rfl ?_ (Nat.le_refl 6) ?_ W.heap.size W (BB.out.trans (Below.refl _ _).drew) n7 ?_
  · refine fun _ => ⟨rfl, _, rfl, fun j v e => ?_⟩
    rw [show ∀ P : Nat, (⟨b, P, none⟩ : Addr).add j = ⟨b, P + j, none⟩ from fun P => by simp [Addr.add]]
    refine bCe BX.out.drew ?_
    obtain ⟨x5, x6, x7, x8⟩ := MC.out
    match j, e with
    | 0, e => cases e; exact x5
    | 1, e => cases e; exact x6
    | 2, e => cases e; exact x7
    | 3, e => cases e; exact x8
    | j + 4, e => simp at e
  · intro v hv
    obtain ⟨x, _, rfl⟩ := List.mem_map.1 hv
    rfl
  intro wD hrow bD
  rw [splice_all] at hrow
  have RD := Lib.hid hrow
  have BD := bTr B0.out bD
  have RW := Lib.hid (bBl bD R0.out)
  refine hK _ _ (Sc.Cl.of trivial) ?_
  clear hK K hrow bD MC BB RB BX ne hc hcap
  refine Sd.done ?_
  replace RD : Hid (wD.heap[gF]? = some (.cells #[.int .i64 (b2 * 256 + b3), .int .i64 b4, .int .u8 u0, .int .u8 u1, .int .u8 u2, .int .u8 u3] 40 (0, 0))) := RD
  generalize b2 * 256 + b3 = I at *
  rw [QE.out] at E
  have k0 := rc1 RD.out 0
  have k1 := rc1 RD.out 1
  have k2 := rc1 RD.out 2
  have k3 := rc1 RD.out 3
  have k4 := rc1 RD.out 4
  have k5 := rc1 RD.out 5
  have GR := Lib.hid (answer_any wD ⟨I, b4, (u0, u1, u2, u3)⟩)
  unfold yV yA at GR
  dsimp only at GR
  go_wp2_with fail
  refine GR.out.mono ?_
  rintro e w1 ⟨u, rfl, o1, b1⟩
  have B1 := bTr BD.out b1
  have RW1 := Lib.hid (bBl b1 RW.out)
  have RD1 := Lib.hid (bBl b1 RD.out)
  have A1 := Lib.hid (HA.out.below B1.out)
  clear GR RW b1 RD BD B0 R0 k0 k1 k2 k3 k4 k5
  by_cases hm : may ⟨I, b4, (u0, u1, u2, u3)⟩
  · rw [if_pos hm] at o1
    rw [if_pos hm]
    obtain ⟨a', cap', rfl, _, _, hh⟩ := o1.rd
    obtain ⟨b', off', rfl, A'⟩ := hh (Nat.succ_pos _)
    have hyb := yb_byte hm GV.out
    rw [show (yb ⟨I, b4, (u0, u1, u2, u3)⟩).length = 9 from rfl]
    by_cases he : yb ⟨I, b4, (u0, u1, u2, u3)⟩ = l
    · have EA := equal_any w1 b off 9 cap l b' off' 9 cap' _ HN.out rfl A1.out A' HB.out hyb true (decide_eq_true he.symm)
      have F : Hid (ReadPost w l (.returned (.tuple #[.agg #[.int .i64 I, .int .i64 b4, .int .u8 u0, .int .u8 u1, .int .u8 u2, .int .u8 u3], .int .i64 0])) (w1.setRow w.heap.size #[.int .i64 I, .int .i64 b4, .int .u8 u0, .int .u8 u1, .int .u8 u2, .int .u8 u3])) := Lib.hid (E.out true _ (decide_eq_true ⟨hm, he⟩) (below_setRow B1.out (Nat.le_refl _) #[.int .i64 I, .int .i64 b4, .int .u8 u0, .int .u8 u1, .int .u8 u2, .int .u8 u3]))
      have k0 := rc1 RD1.out 0
      have k1 := rc1 RD1.out 1
      have k2 := rc1 RD1.out 2
      have k3 := rc1 RD1.out 3
      have k4 := rc1 RD1.out 4
      have k5 := rc1 RD1.out 5
      clear hyb o1 A' A1 HA HB hm he B1 E GV QE
      go_wp2_with fail
      refine EA.mono ?_
      rintro e w2 ⟨rfl, rfl⟩
      go_wp2_with ((with_reducible refine wpList_store_row (o := ⟨none, _, _, _, _, _⟩) rfl 40 _ _ rfl w.heap.size #[.int .i64 I, .int .i64 b4, .int .u8 u0, .int .u8 u1, .int .u8 u2, .int .u8 u3] rfl rfl _ _ RW1.out (by kernel_rfl) rfl (by simp [Value.oneCell']) ?_))
      exact bodyPost_ret (results_reply (p := 2) (r := 3) rfl _ _ w.heap.size _ rfl rfl (setRow_heap w1 w.heap.size _ _ _ _ RW1.out) rfl) rfl F.out
    · have EA := equal_any w1 b off 9 cap l b' off' 9 cap' _ HN.out rfl A1.out A' HB.out hyb false (decide_eq_false fun h => he h.symm)
      have F : Hid (ReadPost w l (.returned (.tuple #[.agg #[.int .i64 0, .int .i64 0, .int .u8 0, .int .u8 0, .int .u8 0, .int .u8 0], .int .i64 2])) (w1.setRow w.heap.size #[.int .i64 0, .int .i64 0, .int .u8 0, .int .u8 0, .int .u8 0, .int .u8 0])) := Lib.hid (E.out false _ (decide_eq_false fun h => he h.2) (below_setRow B1.out (Nat.le_refl _) #[.int .i64 0, .int .i64 0, .int .u8 0, .int .u8 0, .int .u8 0, .int .u8 0]))
      clear hyb o1 A' A1 HA HB hm he B1 E GV QE
      go_wp2_with fail
      refine EA.mono ?_
      rintro e w2 ⟨rfl, rfl⟩
      go_wp2_with ((with_reducible refine wpList_store_row (o := ⟨none, _, _, _, _, _⟩) rfl 40 _ _ rfl w.heap.size #[.int .i64 0, .int .i64 0, .int .u8 0, .int .u8 0, .int .u8 0, .int .u8 0] rfl rfl _ _ RW1.out (by kernel_rfl) rfl (by simp [Value.oneCell']) ?_))
      exact bodyPost_ret (results_reply (p := 2) (r := 3) rfl _ _ w.heap.size _ rfl rfl (setRow_heap w1 w.heap.size _ _ _ _ RW1.out) rfl) rfl F.out
  · rw [if_neg hm]
    have F : Hid (ReadPost w l (.returned (.tuple #[.agg #[.int .i64 0, .int .i64 0, .int .u8 0, .int .u8 0, .int .u8 0, .int .u8 0], .int .i64 2])) (w1.setRow w.heap.size #[.int .i64 0, .int .i64 0, .int .u8 0, .int .u8 0, .int .u8 0, .int .u8 0])) := Lib.hid (E.out false _ (decide_eq_false fun h => hm h.1) (below_setRow B1.out (Nat.le_refl _) #[.int .i64 0, .int .i64 0, .int .u8 0, .int .u8 0, .int .u8 0, .int .u8 0]))
    clear o1 A1 HA HB hm B1 E GV QE
    go_wp2_with ((with_reducible refine wpList_store_row (o := ⟨none, _, _, _, _, _⟩) rfl 40 _ _ rfl w.heap.size #[.int .i64 0, .int .i64 0, .int .u8 0, .int .u8 0, .int .u8 0, .int .u8 0] rfl rfl _ _ RW1.out (by kernel_rfl) rfl (by simp [Value.oneCell']) ?_))
    exact bodyPost_ret (results_reply (p := 2) (r := 3) rfl _ _ w.heap.size _ rfl rfl (setRow_heap w1 w.heap.size _ _ _ _ RW1.out) rfl) rfl F.out

theorem read_any (w : World) (v : Value) (l : List Int) (hb : ∀ x ∈ l, 0 ≤ x ∧ x < 256) (R : Rd KU w v l) : Calls Try.prog 15 #[v] w (ReadPost w l) := by
  obtain ⟨a, cap, rfl, h1, _, h2⟩ := R
  by_cases h : l.length = 9
  · obtain ⟨b, off, rfl, hA⟩ := h2 (by omega)
    exact read_nine w b off cap l h h1.1 hb hA
  · exact read_len w a cap l h

end Go.Proofs.Yticdgjohladdlaa.Rq
