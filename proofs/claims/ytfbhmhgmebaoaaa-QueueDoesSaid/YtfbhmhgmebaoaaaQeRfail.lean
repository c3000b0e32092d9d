/- The document's queue: Fail. -/
import Derived.Test.YtfbhmhgmebaoaaaQeRpop
import Derived.Test.YtfbhmhgmebaoaaaSga
import Derived.Test.YtfbhmhgmebaoaaaSc
namespace Go.Proofs.Ytfbhmhgmebaoaaa.Qe
open Go.RowKit
open Go.Proofs.Ytfbhmhgmebaoaaa.Rw (Rd Ow At)
open Go.Proofs.Ytfbhmhgmebaoaaa.Rq (Q zQ qA qV results_request)
open Go.Proofs.Ytfbhmhgmebaoaaa.Fl (R4 z4)
open Go.Proofs.Ytfbhmhgmebaoaaa.Fs (Only Fx rd_only)
open Go.Proofs.Ytfbhmhgmebaoaaa.Pa (lit1 end1)
set_option maxRecDepth 100000
attribute [local irreducible] Sd.wpSd wpQuiet Sg.wpSg

/-- What Fail answers. -/
def FailPost (w : World) (r : Nat) (F : Nat → Prop) (s : Qs) (e : Ending) (w' : World) : Prop := e = .returned (.tuple #[qV (faV s), .bool (faB s)]) ∧ Rq w' r F (faS s) ∧ Only F w w'

set_option maxHeartbeats 4000000 in
theorem rfail_none {w : World} {r : Nat} {F : Nat → Prop} {s : Qs} (h : Rq w r F s) (hs : s.L = []) : Calls Try.prog 9 #[.pointer (some ⟨r, 0, none⟩)] w (FailPost w r F s) := by
  have FIN : Hid (∀ w', Below w.heap.size w w' → FailPost w r F s (.returned (.tuple #[qV zQ, .bool false])) w') := fun w' b => by
    unfold FailPost faV faB faS
    rw [hs, if_neg (by simp), if_neg (by simp)]
    exact ⟨by simp, h.below b, Only.of_below b⟩
  have B0 := Lib.hid ((Below.refl w.heap.size w).alloc (Nat.le_refl _) (.cells (qA zQ) 33))
  have R0 := Lib.hid (heap_alloc_new w (.cells (qA zQ) 33))
  obtain ⟨v, u, hq⟩ := h
  obtain ⟨a, cap, rfl, _⟩ := hq.rl.slice
  have D := Lib.hid (bBl B0.out hq.row)
  rw [hs] at D
  have d0 := rc1 D.out 0
  clear hq hs
  unfold qV qA zQ z4 at *
  dsimp only at B0 R0 FIN d0 D
  go_enter Try.func9, Try.ntmps9
  go_wp2
  (try simp only [Exit.inBlock, Exit.then])
  exact bodyPost_ret (results_request (p := 2) (r := 3) rfl _ _ w.heap.size _ rfl rfl R0.out rfl) rfl (FIN.out _ B0.out)

theorem rd_first {w : World} {b off n cap : Nat} {c : Int} {l : List Int} (h : Rd KJ w (.slice (some ⟨b, off, none⟩) n cap) (c :: l)) : w.cell? ⟨b, off, none⟩ = some (.int .i64 c) := by
  obtain ⟨a0, cap0, e, h1, h2, h3⟩ := h
  injection e with e1 e2 e3
  obtain ⟨b', off', e4, hA⟩ := h3 (Nat.succ_pos _)
  rw [e4] at e1
  injection e1 with e1
  injection e1 with e1 e5
  subst e1 e5
  have := hA 0 (Nat.succ_pos _) 0 (.int .i64 c) rfl
  rwa [show off + 0 * KJ.n + 0 = off by omega] at this

set_option maxHeartbeats 8000000 in
theorem rfail_some {w : World} {r : Nat} {F : Nat → Prop} {x : Q} {l : List Q} {t : Int} (h : Rq w r F ⟨x :: l, t⟩) (ht : 0 ≤ t ∧ t ≤ 2) : Calls Try.prog 9 #[.pointer (some ⟨r, 0, none⟩)] w (FailPost w r F ⟨x :: l, t⟩) := by
  have low := Lib.hid h.low
  have B0 := Lib.hid ((Below.refl w.heap.size w).alloc (Nat.le_refl _) (.cells (qA zQ) 33))
  have R0 := Lib.hid (heap_alloc_new w (.cells (qA zQ) 33))
  obtain ⟨v, u, hq⟩ := h
  have TT : tr ⟨x :: l, t⟩ = t :: l.map fun _ => 0 := rfl
  have rl := hq.rl
  have rt := hq.rt
  rw [TT] at rt
  obtain ⟨a, cap, rfl, _, _, h2⟩ := rl
  obtain ⟨a', cap', rfl, _, _, h2'⟩ := rt
  obtain ⟨b', off', rfl, hA'⟩ := h2' (Nat.succ_pos _)
  rw [show (t :: l.map fun _ => (0 : Int)).length = (x :: l).length by simp] at *
  obtain ⟨fb, cs, hcs⟩ := hq.tt b' rfl
  have HQ := Lib.hid (hq.below B0.out)
  have FB := Lib.hid fb
  have D := Lib.hid (bBl B0.out hq.row)
  have c0 : w.cell? ⟨b', off', none⟩ = some (.int .i64 t) := by
    have := hA' 0 (Nat.succ_pos _) 0 (.int .i64 t) rfl
    rwa [show off' + 0 * KJ.n + 0 = off' by omega] at this
  have e0 := bCe B0.out c0
  have f0 := fz1 (bBl B0.out hcs) off'
  have d0 := rc1 D.out 0
  have d1 := rc1 D.out 1
  have hn : 0 < (x :: l).length := Nat.succ_pos _
  have FE : Hid (∀ t, faV ⟨x :: l, t⟩ = (if t = 2 then x else zQ) ∧ faB ⟨x :: l, t⟩ = decide (t = 2) ∧ faS ⟨x :: l, t⟩ = if t = 2 then poS ⟨x :: l, t⟩ else ⟨x :: l, t + 1⟩) := Lib.hid fun t => by
    unfold faV faB faS
    simp [fst]
  clear hq hA' h2 h2' TT hcs c0 fb
  generalize hm : (x :: l).length = m at *
  clear hm
  have hm1 : (1 : Int) ≤ m := by omega
  have hm2 : ¬ (m : Int) = 0 := by omega
  unfold FailPost
  rw [(FE.out t).1, (FE.out t).2.1, (FE.out t).2.2]
  clear FE
  unfold qV
  unfold qA zQ z4 at B0 R0 D d0 d1 HQ e0 f0
  dsimp only at B0 R0 D d0 d1 HQ e0 f0
  rcases (by omega : t = 0 ∨ t = 1 ∨ t = 2) with rfl | rfl | rfl
  all_goals
    clear ht
    go_enter Try.func9, Try.ntmps9
    go_upto_region 3 with fail
    generalize w.alloc (.cells #[.int .i64 0, .int .i64 0, .int .i64 0, .int .i64 0, .int .i64 0, .int .u8 0, .int .u8 0, .int .u8 0, .int .u8 0, .int .i64 0] 33) = W at *
  · go_upto_region 4 with fail
    have Q1 := Lib.hid (HQ.out.tried 1)
    have nb : w.heap.size ≠ b' := by have := low.out b' FB.out; omega
    have RW := Lib.hid ((Below.heap_setCell W ⟨b', off', none⟩ (.int .i64 1) w.heap.size nb).trans R0.out)
    have O1 : Hid (Only F w (W.setCell ⟨b', off', none⟩ (.int .i64 1))) := Lib.hid ((Only.of_below (G := F) B0.out).trans (Only.set (fun k => k = b') W (a := ⟨b', off', none⟩) rfl _) fun k _ g => g ▸ FB.out)
    clear HQ B0 R0 D d0 d1 e0 f0 nb FB
    generalize W.setCell ⟨b', off', none⟩ (.int .i64 1) = W4 at *
    have d1 := rc1 Q1.out.row 1
    have e0 := rd_first Q1.out.rt
    have F := Lib.hid (Rq.res ⟨_, _, Q1.out⟩ O1.out low.out #[.int .i64 0, .int .i64 0, .int .i64 0, .int .i64 0, .int .i64 0, .int .u8 0, .int .u8 0, .int .u8 0, .int .u8 0, .int .i64 0])
    clear Q1 O1 low
    go_wp2_with ((with_reducible refine wpList_store_row (o := ⟨none, _, _, _, _, _⟩) rfl 33 _ _ rfl w.heap.size #[.int .i64 0, .int .i64 0, .int .i64 0, .int .i64 0, .int .i64 0, .int .u8 0, .int .u8 0, .int .u8 0, .int .u8 0, .int .i64 0] rfl rfl _ _ RW.out (by kernel_rfl) rfl (by simp [Value.oneCell']) ?_))
    exact bodyPost_ret (results_request (p := 2) (r := 3) rfl _ _ w.heap.size _ rfl rfl (setRow_heap W4 w.heap.size _ _ _ _ RW.out) rfl) rfl ⟨rfl, F.out⟩
  · go_upto_region 4 with fail
    have Q1 := Lib.hid (HQ.out.tried 2)
    have nb : w.heap.size ≠ b' := by have := low.out b' FB.out; omega
    have RW := Lib.hid ((Below.heap_setCell W ⟨b', off', none⟩ (.int .i64 2) w.heap.size nb).trans R0.out)
    have O1 : Hid (Only F w (W.setCell ⟨b', off', none⟩ (.int .i64 2))) := Lib.hid ((Only.of_below (G := F) B0.out).trans (Only.set (fun k => k = b') W (a := ⟨b', off', none⟩) rfl _) fun k _ g => g ▸ FB.out)
    clear HQ B0 R0 D d0 d1 e0 f0 nb FB
    generalize W.setCell ⟨b', off', none⟩ (.int .i64 2) = W4 at *
    have d1 := rc1 Q1.out.row 1
    have e0 := rd_first Q1.out.rt
    have F := Lib.hid (Rq.res ⟨_, _, Q1.out⟩ O1.out low.out #[.int .i64 0, .int .i64 0, .int .i64 0, .int .i64 0, .int .i64 0, .int .u8 0, .int .u8 0, .int .u8 0, .int .u8 0, .int .i64 0])
    clear Q1 O1 low
    go_wp2_with ((with_reducible refine wpList_store_row (o := ⟨none, _, _, _, _, _⟩) rfl 33 _ _ rfl w.heap.size #[.int .i64 0, .int .i64 0, .int .i64 0, .int .i64 0, .int .i64 0, .int .u8 0, .int .u8 0, .int .u8 0, .int .u8 0, .int .i64 0] rfl rfl _ _ RW.out (by kernel_rfl) rfl (by simp [Value.oneCell']) ?_))
    exact bodyPost_ret (results_request (p := 2) (r := 3) rfl _ _ w.heap.size _ rfl rfl (setRow_heap W4 w.heap.size _ _ _ _ RW.out) rfl) rfl ⟨rfl, F.out⟩
  · go_upto_region 4 with fail
    have Q1 := Lib.hid (HQ.out.tried 3)
    have nb : w.heap.size ≠ b' := by have := low.out b' FB.out; omega
    have RW := Lib.hid ((Below.heap_setCell W ⟨b', off', none⟩ (.int .i64 3) w.heap.size nb).trans R0.out)
    have O1 : Hid (Only F w (W.setCell ⟨b', off', none⟩ (.int .i64 3))) := Lib.hid ((Only.of_below (G := F) B0.out).trans (Only.set (fun k => k = b') W (a := ⟨b', off', none⟩) rfl _) fun k _ g => g ▸ FB.out)
    clear HQ B0 R0 D d0 d1 e0 f0 nb FB
    generalize W.setCell ⟨b', off', none⟩ (.int .i64 3) = W4 at *
    have d1 := rc1 Q1.out.row 1
    have e0 := rd_first Q1.out.rt
    have PP : Hid (Calls Try.prog 7 #[.pointer (some ⟨r, 0, none⟩)] W4 fun e w' => e = .returned (.tuple #[qV x, .bool true]) ∧ Rq w' r F (poS ⟨x :: l, 3⟩) ∧ Only F W4 w') := Lib.hid (rpop_any ⟨_, _, Q1.out⟩ (fun h => by simp at h))
    have NF : ¬ F w.heap.size := fun g => Nat.lt_irrefl _ (low.out _ g)
    have LW := lt_of_block RW.out
    clear Q1
    obtain ⟨id, k, n, f, rr, ⟨v0, v1, v2, v3⟩, key⟩ := x
    unfold qV qA at PP
    dsimp only at PP
    go_wp2_with fail
    refine PP.out.mono ?_
    rintro e w5 ⟨rfl, q5, o5⟩
    have RW5 := Lib.hid ((o5.block w.heap.size LW NF).trans RW.out)
    have F := Lib.hid (Rq.res q5 (O1.out.trans o5 fun k _ g => g) low.out #[.int .i64 id, .int .i64 k, .int .i64 n, .int .i64 f, .int .i64 rr, .int .u8 v0, .int .u8 v1, .int .u8 v2, .int .u8 v3, .int .i64 key])
    clear PP q5 o5 O1 RW NF LW low
    go_wp2_with ((with_reducible refine wpList_store_row (o := ⟨none, _, _, _, _, _⟩) rfl 33 _ _ rfl w.heap.size #[.int .i64 id, .int .i64 k, .int .i64 n, .int .i64 f, .int .i64 rr, .int .u8 v0, .int .u8 v1, .int .u8 v2, .int .u8 v3, .int .i64 key] rfl rfl _ _ RW5.out (by kernel_rfl) rfl (by simp [Value.oneCell']) ?_))
    exact bodyPost_ret (results_request (p := 2) (r := 3) rfl _ _ w.heap.size _ rfl rfl (setRow_heap w5 w.heap.size _ _ _ _ RW5.out) rfl) rfl ⟨rfl, F.out⟩

theorem rfail_any {w : World} {r : Nat} {F : Nat → Prop} {s : Qs} (h : Rq w r F s) (h0 : 0 ≤ s.t ∧ s.t ≤ 2) : Calls Try.prog 9 #[.pointer (some ⟨r, 0, none⟩)] w (FailPost w r F s) := by
  obtain ⟨L, t⟩ := s
  cases L with
  | nil => exact rfail_none h rfl
  | cons x l => exact rfail_some h h0

end Go.Proofs.Ytfbhmhgmebaoaaa.Qe
