/- The document's queue: Pop. -/
import Derived.Test.YtfbhmhgmebaoaaaQeMem
import Derived.Test.YtfbhmhgmebaoaaaSga
import Derived.Test.YtfbhmhgmebaoaaaSc
namespace Go.Proofs.Ytfbhmhgmebaoaaa.Qe
open Go.RowKit
open Go.Proofs.Ytfbhmhgmebaoaaa.Rw (Rd Ow At)
open Go.Proofs.Ytfbhmhgmebaoaaa.Rq (Q zQ qA qV results_request)
open Go.Proofs.Ytfbhmhgmebaoaaa.Fl (R4 z4)
open Go.Proofs.Ytfbhmhgmebaoaaa.Fs (Only Fx rd_only)
open Go.Proofs.Ytfbhmhgmebaoaaa.Pa (lit1 end1)
set_option maxRecDepth 100000
attribute [local irreducible] Sd.wpSd wpQuiet Sg.wpSg

/-- What Pop answers. -/
def PopPost (w : World) (r : Nat) (F : Nat → Prop) (s : Qs) (e : Ending) (w' : World) : Prop := e = .returned (.tuple #[qV (fst s), .bool (has s)]) ∧ Rq w' r F (poS s) ∧ Only F w w'
theorem at_req {w : World} {b off : Nat} {x : Q} {l : List Q} (h : At KQ w b off (x :: l)) (j : Nat) (v : Value) (e : (qA x).toList[j]? = some v) : w.cell? ⟨b, off + j, none⟩ = some v := by
  have := h 0 (Nat.succ_pos _) j v e
  rwa [show off + 0 * KQ.n + j = off + j by omega] at this

set_option maxHeartbeats 4000000 in
theorem rpop_none {w : World} {r : Nat} {F : Nat → Prop} {s : Qs} (h : Rq w r F s) (hs : s.L = []) (h0 : poS s = s) : Calls Try.prog 7 #[.pointer (some ⟨r, 0, none⟩)] w (PopPost w r F s) := by
  have FIN : Hid (∀ w', Below w.heap.size w w' → PopPost w r F s (.returned (.tuple #[qV zQ, .bool false])) w') := fun w' b => by
    refine ⟨?_, by rw [h0]; exact h.below b, Only.of_below b⟩
    unfold fst has
    rw [hs]
    rfl
  have B0 := Lib.hid ((Below.refl w.heap.size w).alloc (Nat.le_refl _) (.cells (qA zQ) 33))
  have R0 := Lib.hid (heap_alloc_new w (.cells (qA zQ) 33))
  obtain ⟨v, u, hq⟩ := h
  obtain ⟨a, cap, rfl, _⟩ := hq.rl.slice
  have D := Lib.hid (bBl B0.out hq.row)
  rw [hs] at D
  have d0 := rc1 D.out 0
  clear hq hs h0
  unfold qV qA zQ z4 at *
  dsimp only at B0 R0 FIN d0 D
  go_enter Try.func7, Try.ntmps7
  go_wp2
  (try simp only [Exit.inBlock, Exit.then])
  exact bodyPost_ret (results_request (p := 2) (r := 3) rfl _ _ w.heap.size _ rfl rfl R0.out rfl) rfl (FIN.out _ B0.out)

set_option maxHeartbeats 8000000 in
theorem rpop_some {w : World} {r : Nat} {F : Nat → Prop} {x : Q} {l : List Q} {t : Int} (h : Rq w r F ⟨x :: l, t⟩) : Calls Try.prog 7 #[.pointer (some ⟨r, 0, none⟩)] w (PopPost w r F ⟨x :: l, t⟩) := by
  have low := Lib.hid h.low
  have B0 := Lib.hid ((Below.refl w.heap.size w).alloc (Nat.le_refl _) (.cells (qA zQ) 33))
  have R0 := Lib.hid (heap_alloc_new w (.cells (qA zQ) 33))
  obtain ⟨v, u, hq⟩ := h
  have TT : tr ⟨x :: l, t⟩ = t :: l.map fun _ => 0 := rfl
  have rl := hq.rl
  have rt := hq.rt
  rw [TT] at rt
  obtain ⟨a, cap, rfl, _, _, h2⟩ := rl
  obtain ⟨b, off, rfl, hA⟩ := h2 (Nat.succ_pos _)
  obtain ⟨a', cap', rfl, _, _, h2'⟩ := rt
  obtain ⟨b', off', rfl, hA'⟩ := h2' (Nat.succ_pos _)
  have rl := hq.rl
  have rt := hq.rt
  rw [TT] at rt
  rw [show (t :: l.map fun _ => (0 : Int)).length = (x :: l).length by simp] at *
  have LR := lt_of_block hq.row
  have ST : Hid (∀ w' v' u', Below w.heap.size w w' → Rd KQ w v' l → Rd KJ w u' (l.map fun _ => 0) → v'.ownBlock = some b → u'.ownBlock = some b' → Rq ((w'.setCell ⟨r, 0, none⟩ v').setCell ⟨r, 1, none⟩ u') r F (poS ⟨x :: l, t⟩) ∧ Only F w ((w'.setCell ⟨r, 0, none⟩ v').setCell ⟨r, 1, none⟩ u')) := fun w' v' u' bl d1 d2 e1 e2 =>
    hq.stored (s' := poS ⟨x :: l, t⟩) bl d1 (by rw [tr_pop]; exact d2) e1 e2
  have V1 : Hid (cap = 1 ∧ (∃ P N C, Hid (Value.slice (some ⟨b, off, none⟩) ((x :: l).length - 1) 0 = Value.slice (some ⟨b, P, none⟩) N C) ∧ Hid (Rd KQ w (Value.slice (some ⟨b, P, none⟩) N C) l)) ∨ ¬ cap = 1 ∧ ∃ P N C, Hid (Value.slice (some ⟨b, off + 10, none⟩) ((x :: l).length - 1) (cap - 1) = Value.slice (some ⟨b, P, none⟩) N C) ∧ Hid (Rd KQ w (Value.slice (some ⟨b, P, none⟩) N C) l)) := Lib.hid (by
    by_cases h : cap = 1
    · exact .inl ⟨h, _, _, _, rfl, rd_last rl h⟩
    · exact .inr ⟨h, _, _, _, rfl, rd_tail rl⟩)
  have V2 : Hid (cap' = 1 ∧ (∃ P N C, Hid (Value.slice (some ⟨b', off', none⟩) ((x :: l).length - 1) 0 = Value.slice (some ⟨b', P, none⟩) N C) ∧ Hid (Rd KJ w (Value.slice (some ⟨b', P, none⟩) N C) (l.map fun _ => 0))) ∨ ¬ cap' = 1 ∧ ∃ P N C, Hid (Value.slice (some ⟨b', off' + 1, none⟩) ((x :: l).length - 1) (cap' - 1) = Value.slice (some ⟨b', P, none⟩) N C) ∧ Hid (Rd KJ w (Value.slice (some ⟨b', P, none⟩) N C) (l.map fun _ => 0))) := Lib.hid (by
    by_cases h : cap' = 1
    · exact .inl ⟨h, _, _, _, rfl, rd_last rt h⟩
    · exact .inr ⟨h, _, _, _, rfl, rd_tail rt⟩)
  have D := Lib.hid (bBl B0.out hq.row)
  have d0 := rc1 D.out 0
  have d1 := rc1 D.out 1
  have g0 := fz1 D.out 0
  have g1 := fz1 D.out 1
  have RX : Hid (∀ j v, (qA x).toList[j]? = some v → (w.alloc (.cells (qA zQ) 33)).cell? ⟨b, off + j, none⟩ = some v) := Lib.hid fun j v e => bCe B0.out (at_req hA j v e)
  have hn : 0 < (x :: l).length := Nat.succ_pos _
  have FE : Hid (fst ⟨x :: l, t⟩ = x ∧ has ⟨x :: l, t⟩ = true) := Lib.hid ⟨rfl, rfl⟩
  clear hq rl rt hA hA' h2 h2' TT
  generalize (x :: l).length = m at *
  unfold PopPost
  obtain ⟨id, k, n, f, rr, ⟨v0, v1, v2, v3⟩, key⟩ := x
  rw [FE.out.1, FE.out.2]
  have e0 := RX.out 0 _ rfl
  rw [Nat.add_zero] at e0
  have e1 := RX.out 1 _ rfl
  have e2 := RX.out 2 _ rfl
  have e3 := RX.out 3 _ rfl
  have e4 := RX.out 4 _ rfl
  have e5 := RX.out 5 _ rfl
  have e6 := RX.out 6 _ rfl
  have e7 := RX.out 7 _ rfl
  have e8 := RX.out 8 _ rfl
  have e9 := RX.out 9 _ rfl
  clear RX FE
  have hm1 : (1 : Int) ≤ m := by omega
  have hm2 : ¬ (m : Int) = 0 := by omega
  unfold qV qA zQ z4 at *
  dsimp only at B0 R0 D d0 d1 g0 g1 e0 e1 e2 e3 e4 e5 e6 e7 e8 e9 ⊢
  go_enter Try.func7, Try.ntmps7
  go_upto_region 3 with fail
  generalize w.alloc (.cells #[.int .i64 0, .int .i64 0, .int .i64 0, .int .i64 0, .int .i64 0, .int .u8 0, .int .u8 0, .int .u8 0, .int .u8 0, .int .i64 0] 33) = W0 at *
  go_upto_region 4 with fail
  have bb := (Below.refl W0.heap.size W0).alloc (Nat.le_refl _) (.cells #[.int .i64 id, .int .i64 k, .int .i64 n, .int .i64 f, .int .i64 rr, .int .u8 v0, .int .u8 v1, .int .u8 v2, .int .u8 v3, .int .i64 key] 33)
  have BX := bTr B0.out bb
  have RR := Lib.hid (bBl bb R0.out)
  have RX := Lib.hid (heap_alloc_new W0 (.cells #[.int .i64 id, .int .i64 k, .int .i64 n, .int .i64 f, .int .i64 rr, .int .u8 v0, .int .u8 v1, .int .u8 v2, .int .u8 v3, .int .i64 key] 33))
  have DX := Lib.hid (bBl bb D.out)
  clear bb B0 R0 D d0 d1 g0 g1 e0 e1 e2 e3 e4 e5 e6 e7 e8 e9
  generalize W0.alloc (.cells #[.int .i64 id, .int .i64 k, .int .i64 n, .int .i64 f, .int .i64 rr, .int .u8 v0, .int .u8 v1, .int .u8 v2, .int .u8 v3, .int .i64 key] 33) = W at *
  generalize W0.heap.size = g4 at *
  have LW := lt_of_block DX.out
  have x0 := Sc.cell_in (C := Below W.heap.size W) (a := ⟨r, 0, none⟩) (fun W' h => (h.cell LW).trans (rc1 DX.out 0))
  have x1 := Sc.cell_in (C := Below W.heap.size W) (a := ⟨r, 1, none⟩) (fun W' h => (h.cell LW).trans (rc1 DX.out 1))
  have ne : Nonempty (Sc.In (Below W.heap.size W)) := ⟨⟨_, Below.refl _ _⟩⟩
  have ne2 : Nonempty (Sc.In (fun _ : World => True)) := ⟨⟨W, trivial⟩⟩
  rcases V1.out with ⟨hc1, P1, N1, C1, hv, RV⟩ | ⟨hc1, P1, N1, C1, hv, RV⟩
  all_goals rcases V2.out with ⟨hc2, P2, N2, C2, hu, RU⟩ | ⟨hc2, P2, N2, C2, hu, RU⟩
  all_goals
    clear V1 V2
    refine Sg.startV (Below W.heap.size W) [0, 1, 2, 3, 4, 7, 8, 9] [5, 10] [6, 11, 12, 13] [] [14, 15, 16, 17] [] (by kernel_rfl) (by kernel_rfl) (by kernel_rfl) (by kernel_rfl) (by kernel_rfl) (by kernel_rfl) (by rfl) (by decide) (fun f hf => by cases hf) (fun f hf => by cases hf) (fun f hf => by cases hf) ((Below.refl _ _).drew) (fun W' h => h.size) (fun W' o h => h.alloc h.size o) ?_
    dsimp only [Sg.picksL, List.getElem?_cons_succ, List.getElem?_cons_zero]
    repeat (refine lit1 ?_; quiet_step (fail); refine wpQuiet_nil ?_)
    refine end1 ⟨(fun f hf => by cases hf), ?_⟩
    refine Sg.doneT (fun w6 hb hc => ?_)
    have B6 : Below W.heap.size W w6 := by obtain ⟨p, rfl⟩ := hc; exact p.ok
    have z0 := (B6.cell LW).trans (rc1 DX.out 0)
    have z1 := (B6.cell LW).trans (rc1 DX.out 1)
    have y0 := (B6.frozen LW).trans (fz1 DX.out 0)
    have y1 := (B6.frozen LW).trans (fz1 DX.out 1)
    clear hb hc x0 x1 ne ne2
    refine Sg.lastT (fun K hK => ?_)
    go_simp
    refine hK _ _ ?_
    clear hK K
    refine Sg.lastT (fun K hK => ?_)
    go_simp
    refine hK _ _ ?_
    clear hK K
    refine Sg.lastT (fun K hK => ?_)
    go_simp
    refine hK _ _ ?_
    clear hK K
    rw [hv.out, hu.out]
    clear hv hu hc1 hc2 z0 z1 y0 y1
    have D6 := bBl B6 DX.out
    have DS := Rw.heap_setCell_same (j := 0) D6 (.slice (some ⟨b, P1, none⟩) N1 C1)
    have z1 := rc1 DS 1
    have y1 := fz1 DS 1
    refine Sg.lastT (fun K hK => ?_)
    go_simp
    refine hK _ _ ?_
    clear hK K
    refine Sg.endT ?_
    have S := Lib.hid (ST.out w6 _ _ (bTr BX.out B6) RV.out RU.out rfl rfl)
    have nr : g4 ≠ r := fun e => by
      have := RX.out
      rw [e, DX.out] at this
      injection this with this
      injection this with _ h2 _
      exact absurd h2 (by decide)
    have nw : w.heap.size ≠ r := by omega
    have XX := Lib.hid ((Below.heap_setCell (w6.setCell ⟨r, 0, none⟩ (.slice (some ⟨b, P1, none⟩) N1 C1)) ⟨r, 1, none⟩ (.slice (some ⟨b', P2, none⟩) N2 C2) g4 nr).trans ((Below.heap_setCell w6 ⟨r, 0, none⟩ (.slice (some ⟨b, P1, none⟩) N1 C1) g4 nr).trans (bBl B6 RX.out)))
    have RW := Lib.hid ((Below.heap_setCell (w6.setCell ⟨r, 0, none⟩ (.slice (some ⟨b, P1, none⟩) N1 C1)) ⟨r, 1, none⟩ (.slice (some ⟨b', P2, none⟩) N2 C2) w.heap.size nw).trans ((Below.heap_setCell w6 ⟨r, 0, none⟩ (.slice (some ⟨b, P1, none⟩) N1 C1) w.heap.size nw).trans (bBl B6 RR.out)))
    clear RV RU D6 DS z1 y1 B6 BX RX DX RR LW LR nr nw ST
    generalize (w6.setCell ⟨r, 0, none⟩ (.slice (some ⟨b, P1, none⟩) N1 C1)).setCell ⟨r, 1, none⟩ (.slice (some ⟨b', P2, none⟩) N2 C2) = wS at *
    have k0 := rc1 XX.out 0
    have k1 := rc1 XX.out 1
    have k2 := rc1 XX.out 2
    have k3 := rc1 XX.out 3
    have k4 := rc1 XX.out 4
    have k5 := rc1 XX.out 5
    have k6 := rc1 XX.out 6
    have k7 := rc1 XX.out 7
    have k8 := rc1 XX.out 8
    have k9 := rc1 XX.out 9
    have F := Lib.hid (Rq.res S.out.1 S.out.2 low.out #[.int .i64 id, .int .i64 k, .int .i64 n, .int .i64 f, .int .i64 rr, .int .u8 v0, .int .u8 v1, .int .u8 v2, .int .u8 v3, .int .i64 key])
    go_wp2_with ((with_reducible refine wpList_store_row (o := ⟨none, _, _, _, _, _⟩) rfl 33 _ _ rfl w.heap.size #[.int .i64 id, .int .i64 k, .int .i64 n, .int .i64 f, .int .i64 rr, .int .u8 v0, .int .u8 v1, .int .u8 v2, .int .u8 v3, .int .i64 key] rfl rfl _ _ RW.out (by kernel_rfl) rfl (by simp [Value.oneCell']) ?_))
    exact bodyPost_ret (results_request (p := 2) (r := 3) rfl _ _ w.heap.size _ rfl rfl (setRow_heap wS w.heap.size _ _ _ _ RW.out) rfl) rfl ⟨rfl, F.out⟩

theorem rpop_any {w : World} {r : Nat} {F : Nat → Prop} {s : Qs} (h : Rq w r F s) (h0 : s.L = [] → s.t = 0) : Calls Try.prog 7 #[.pointer (some ⟨r, 0, none⟩)] w (PopPost w r F s) := by
  obtain ⟨L, t⟩ := s
  cases L with
  | nil => exact rpop_none h rfl (by have := h0 rfl; simp only at this; subst this; rfl)
  | cons x l => exact rpop_some h

end Go.Proofs.Ytfbhmhgmebaoaaa.Qe
