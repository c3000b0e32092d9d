/- Texts joined: PaFrame, UaRef, CkRef, PaRframe, PaRecd, PaRcv, PaApply, PaHeard, PaFault. -/
import Derived.Test.YtilacdjekdngkaaGreatDoorMg9
import Derived.Test.YtilacdjekdngkaaGreatDoorMg1
import Derived.Test.YtilacdjekdngkaaGreatDoorMg8
import Derived.Test.YtilacdjekdngkaaGreatDoorMg7
import Derived.Deep.Cut
import Derived.Test.YtilacdjekdngkaaGreatDoorMg3
import Derived.Maps.OwnOps
import Derived.Test.YtilacdjekdngkaaGreatDoorMg4
import Derived.Test.YtilacdjekdngkaaGreatDoorMg5
import Derived.Maps.RangeWalk

/- part.Frame and part.Heard: what goes over the line in a slot, and what is heard of it. -/
namespace Go.Proofs.YtilacdjekdngkaaGreatDoor.Pa
open Go.RowKit Go.Maps
open Go.Proofs.YtilacdjekdngkaaGreatDoor.Rw (Rd Ow At)
open Go.Proofs.YtilacdjekdngkaaGreatDoor.Fl (row_cell row_frozen)
open Go.Proofs.YtilacdjekdngkaaGreatDoor.Ck (LL lat sN sE tE RdL)
open Go.Proofs.YtilacdjekdngkaaGreatDoor.Ua (arr Row frm tb tp te put_any take_any turn_any info_of arr_one arr_congr below_setRow load_frame store_frame)
set_option maxRecDepth 100000
attribute [local irreducible] Sd.wpSd wpQuiet Sf.wpSf

def FramePost (w : World) (n : Int) (F : Nat → Bool) (b : Bool) (e : Ending) (w' : World) : Prop := e = .returned (.tuple #[.int .i64 n, .agg (arr F), .bool b]) ∧ Below w.heap.size w w'
theorem results_fr {fn : Func} {a p c : Tmp} (h : fn.results = #[.tmp a, .cell p 46, .tmp c]) (tmps : Array Value) (w : World) (g : Nat) (n : Value) (F : Nat → Bool) (b : Value)
    (ha : tmps.getD a undef = n) (hp : tmps.getD p undef = .pointer (some ⟨g, 0, none⟩)) (hc : tmps.getD c undef = b) (h1 : Row w g F) :
    (results fn tmps).run Tryz.prog w = .ok (.tuple #[n, .agg (arr F), b]) w := by
  have e1 := h1.load
  have hp' : tmps[p]?.getD undef = .pointer (some ⟨g, 0, none⟩) := by simpa using hp
  have ha' : tmps[a]?.getD undef = n := by simpa using ha
  have hc' : tmps[c]?.getD undef = b := by simpa using hc
  simp only [results, h]
  simp [Result.andThen, hp', ha', hc', asAddr, e1]
structure FrI (w wr : World) (F : Nat → Bool) : Prop where
  row : Row wr w.heap.size F
  bel : Below w.heap.size w wr
theorem FrI.below {w wr wr' : World} {F : Nat → Bool} (h : FrI w wr F) (b : Below wr.heap.size wr wr') : FrI w wr' F := ⟨h.row.below b h.row.lt, h.bel.trans (b.mono h.bel.size)⟩
theorem FrI.set {w wr : World} {F : Nat → Bool} (h : FrI w wr F) (G : Nat → Bool) : FrI w (wr.setRow w.heap.size (arr G)) G := ⟨h.row.row G, below_setRow h.bel _ _ (Nat.le_refl _)⟩
theorem FrI.to {w wr : World} {F G : Nat → Bool} (h : FrI w wr F) (e : ∀ i, i < 11 → F i = G i) : FrI w wr G := ⟨h.row.to e, h.bel⟩
theorem fr_new (w : World) : FrI w (w.alloc (.cells (arr lowF) 46)) lowF := ⟨Row.new w lowF, (Below.refl w.heap.size w).alloc (Nat.le_refl _) _⟩

theorem sbX_byt {w : World} {vs vt vl : Value} {S : Sts} {T : LL} {V : List Bool} (H : Ns w vs vt vl S T V) (s : Int) : byt (sbX S T V s) := by
  unfold sbX
  split
  · rename_i h
    have h0 : 0 ≤ sN s T := by
      unfold snB at h
      simp only [Bool.and_eq_true, decide_eq_true_eq] at h
      exact h.1.1
    obtain ⟨n, hn, hlt, _⟩ := sender_is H.ok h0
    obtain ⟨_, _, _, _, _, _, hS⟩ := H.st.one (k := n) (by rw [← H.lt]; exact hlt)
    unfold snX
    rw [hn]
    exact rb_ok (gV_ok hS.okA _ _) _
  · unfold byt; omega
set_option maxHeartbeats 1000000 in
theorem frame_any {w : World} {vs vt vl vp : Value} {S : Sts} {T : LL} {V : List Bool} {P : List S2} (H : Ns w vs vt vl S T V) (RP : Rd K2 w vp P) (s : Int) : Calls Tryz.prog 13 #[vs, vt, vl, vp, .int .i64 s] w (FramePost w (sbN S T V s) (frF S T V P s) (snB S T V s)) := by
  have SA := Lib.hid (fun W b => sent_any (H.below (w' := W) b) s)
  unfold SentPost at SA
  have F0 := Lib.hid (fr_new w)
  have RR := Lib.hid RP
  obtain ⟨ap, cp, rfl, _, hm, hA⟩ := RP
  have HA := Lib.hid hA
  unfold maxLen at hm
  have XB : Hid (snB S T V s = true → byt (sbX S T V s) ∧ frF S T V P s = sq P s (frm (sbX S T V s) false) P.length) := Lib.hid (fun h => ⟨sbX_byt H s, by
    unfold frF sbX
    rw [if_pos h, if_pos h]⟩)
  have LO : Hid (snB S T V s = false → frF S T V P s = lowF ∧ sbN S T V s = -1) := Lib.hid (fun h => by unfold frF sbN; rw [h]; exact ⟨rfl, rfl⟩)
  clear hA H
  generalize hn : P.length = n at *
  have HN := Lib.hid hn
  clear hn
  generalize frF S T V P s = FF at *
  generalize sbN S T V s = m at *
  generalize sbX S T V s = x at *
  generalize snB S T V s = bb at *
  go_enter Tryz.func13, Tryz.ntmps13
  go_wp2_with fail
  have F1 : Hid (FrI w (w.alloc (.cells #[.bool false, .bool false, .bool false, .bool false, .bool false, .bool false, .bool false, .bool false, .bool false, .bool false, .bool false] 46)) lowF) := F0
  clear F0
  generalize (w.alloc (.cells #[.bool false, .bool false, .bool false, .bool false, .bool false, .bool false, .bool false, .bool false, .bool false, .bool false, .bool false] 46)) = W at *
  refine (SA.out W F1.out.bel).mono ?_
  rintro e w1 ⟨rfl, b1⟩
  have F2 := Lib.hid (F1.out.below b1)
  clear b1 F1 SA
  cases hb : bb with
  | false =>
    have EF := Lib.hid (LO.out hb)
    clear LO XB
    have F3 := Lib.hid (F2.out.set lowF)
    go_wp2_with ((with_reducible refine store_frame (o := ⟨none, _, _, _, _, _⟩) rfl _ _ rfl w.heap.size lowF lowF ?_ ?_ F2.out.row ?_); (exact rfl); (exact rfl))
    (try simp only [Exit.inBlock, Exit.then])
    refine bodyPost_ret (results_fr rfl _ _ _ _ lowF _ rfl rfl rfl F3.out.row) rfl ?_
    exact ⟨by rw [EF.out.1, EF.out.2, hb]; exact rfl, F3.out.bel⟩
  | true =>
    have EF := Lib.hid (XB.out hb)
    clear LO XB
    obtain ⟨x0, x1⟩ := EF.out.1
    go_wp2_with fail
    refine (put_any w1 x false x0 x1).mono ?_
    rintro e w2 ⟨rfl, b2⟩
    have F3 := Lib.hid ((F2.out.below b2).set (frm x false))
    have F4 := Lib.hid (F2.out.below b2)
    clear b2 F2 x0 x1
    go_wp2_with (refine wpList_store_row rfl 46 _ _ rfl _ _ rfl rfl _ _ F4.out.row (info_of (frm x false)) rfl (arr_one _) ?_)
    clear F4
    generalize w2.setRow w.heap.size (arr (frm x false)) = W2 at *
    go_loopw [32] (fun i wr => ∃ k : Nat, k ≤ n ∧ i = .int .i64 k ∧ Hid (FrI w wr (sq P s (frm x false) k))) (fun i _ => n - (intOf i).toNat)
    case atStart => exact ⟨0, Nat.zero_le _, rfl, F3⟩
    case round =>
      obtain ⟨k, hk, rfl, I⟩ := hrel
      clear F3
      by_cases hlt : k < n
      · obtain ⟨b, off, rfl, A1⟩ := HA.out (by omega)
        obtain ⟨c0, c1⟩ := at2 (A1.below I.out.bel) (i := k) (by have := HN.out; omega)
        have Y := Lib.hid (sq_yes P s (frm x false) (j := k) (by have := HN.out; omega))
        have N := Lib.hid (sq_no P s (frm x false) (j := k) (by have := HN.out; omega))
        generalize pat P k = z at *
        obtain ⟨z1, z2⟩ := z
        simp only at c0 c1 Y N
        generalize hG : sq P s (frm x false) (k + 1) = G' at *
        have EG := Lib.hid hG
        clear hG
        generalize sq P s (frm x false) k = G at *
        have I1 := Lib.hid (I.out.below ((Below.refl wr.heap.size wr).alloc (Nat.le_refl _) (.cells #[.int .i64 z1, .int .i64 z2] 64)))
        clear A1 I
        by_cases h1 : z1 = s
        · subst h1
          have YY := Y.out rfl
          have TA := Lib.hid (turn_any (wr.alloc (.cells #[.int .i64 z1, .int .i64 z2] 64)) G (bits BinOp.and .i64 z2 2046))
          have TE : Hid (∀ i, i < 11 → Ua.turn G (bits BinOp.and .i64 z2 2046) 11 i = G' i) := Lib.hid (fun i hi => by rw [YY]; exact tn_code G z2 i hi)
          clear Y N YY
          have SP : Hid ((wr.alloc (.cells #[.int .i64 z1, .int .i64 z2] 64)).heap[wr.heap.size]? = some (.cells #[.int .i64 z1, .int .i64 z2] 64 (0, 0))) := Lib.hid (heap_alloc_new wr _)
          go_upto_region 9 with fail
          generalize (wr.alloc (.cells #[.int .i64 z1, .int .i64 z2] 64)) = W4 at *
          have s1 : W4.cell? ⟨wr.heap.size, 1, none⟩ = some (.int .i64 z2) := row_cell SP.out 1
          go_wp2_with (with_reducible refine load_frame (o := ⟨some 40, _, _, _, _, _⟩) rfl _ rfl w.heap.size G ?_ I1.out.row ?_); (exact rfl)
          refine TA.out.mono ?_
          rintro e w5 ⟨rfl, b5⟩
          have I5 := Lib.hid (I1.out.below b5)
          have I6 := Lib.hid ((I5.out.set (Ua.turn G (bits BinOp.and .i64 z2 2046) 11)).to TE.out)
          clear b5 I1 TA TE SP s1
          go_wp2_with ((with_reducible refine store_frame (o := ⟨none, _, _, _, _, _⟩) rfl _ _ rfl w.heap.size (Ua.turn G (bits BinOp.and .i64 z2 2046) 11) G ?_ ?_ I5.out.row ?_); (exact rfl); (exact rfl))
          go_roundw
          case rel => exact ⟨k + 1, by omega, by go_num, by rw [EG.out]; exact I6⟩
          case measure => simp [intOf]; omega
        · have I2 : Hid (FrI w (wr.alloc (.cells #[.int .i64 z1, .int .i64 z2] 64)) (sq P s (frm x false) (k + 1))) := by rw [EG.out, N.out h1]; exact I1
          have d1 : (z1 == s) = false := by simpa using h1
          clear Y N I1
          go_wp2
          go_roundw
          case rel => exact ⟨k + 1, by omega, by go_num, I2⟩
          case measure => simp [intOf]; omega
      · obtain rfl : k = n := by omega
        have EE := Lib.hid EF.out.2
        have FE : Hid (arr FF = arr (sq P s (frm x false) k)) := Lib.hid (by rw [EE.out])
        go_upto_region 11 with fail
        clear EF EE
        generalize sq P s (frm x false) k = G at *
        have C0 : FrI w wr.drew G := ⟨I.out.row, I.out.bel.trans ((Below.refl wr.heap.size wr).drew.mono I.out.bel.size)⟩
        have k0 := Sc.cell_in (C := fun W => FrI w W G) (a := ⟨w.heap.size, 0, none⟩) (fun W' h => h.row.cell 0 (by omega))
        have k1 := Sc.cell_in (C := fun W => FrI w W G) (a := ⟨w.heap.size, 1, none⟩) (fun W' h => h.row.cell 1 (by omega))
        have k2 := Sc.cell_in (C := fun W => FrI w W G) (a := ⟨w.heap.size, 2, none⟩) (fun W' h => h.row.cell 2 (by omega))
        have k3 := Sc.cell_in (C := fun W => FrI w W G) (a := ⟨w.heap.size, 3, none⟩) (fun W' h => h.row.cell 3 (by omega))
        have k4 := Sc.cell_in (C := fun W => FrI w W G) (a := ⟨w.heap.size, 4, none⟩) (fun W' h => h.row.cell 4 (by omega))
        have k5 := Sc.cell_in (C := fun W => FrI w W G) (a := ⟨w.heap.size, 5, none⟩) (fun W' h => h.row.cell 5 (by omega))
        have k6 := Sc.cell_in (C := fun W => FrI w W G) (a := ⟨w.heap.size, 6, none⟩) (fun W' h => h.row.cell 6 (by omega))
        have k7 := Sc.cell_in (C := fun W => FrI w W G) (a := ⟨w.heap.size, 7, none⟩) (fun W' h => h.row.cell 7 (by omega))
        have k8 := Sc.cell_in (C := fun W => FrI w W G) (a := ⟨w.heap.size, 8, none⟩) (fun W' h => h.row.cell 8 (by omega))
        have k9 := Sc.cell_in (C := fun W => FrI w W G) (a := ⟨w.heap.size, 9, none⟩) (fun W' h => h.row.cell 9 (by omega))
        have k10 := Sc.cell_in (C := fun W => FrI w W G) (a := ⟨w.heap.size, 10, none⟩) (fun W' h => h.row.cell 10 (by omega))
        have ne : Nonempty (Sc.In (fun W => FrI w W G)) := ⟨⟨_, C0⟩⟩
        refine Sc.start (fun W => FrI w W G) [(false, 0), (false, 1), (false, 2), (true, 3), (false, 4)] (by kernel_rfl) (by kernel_rfl) (by kernel_rfl) C0 ?_
        dsimp only [Sd.picks, List.getElem?_cons_succ, List.getElem?_cons_zero]
        repeat (refine Sd.lit ?_; quiet_step (fail); refine wpQuiet_nil ?_)
        refine Sd.call (by rfl) (fun K hK => ?_)
        refine wp_store_row 46 _ _ rfl w.heap.size (arr G) rfl rfl 46 _ C0.row (info_of G) rfl (arr_one G) ?_
        have C1 := C0.set G
        refine hK _ _ (Sc.Cl.of C1) ?_
        clear hK K k0 k1 k2 k3 k4 k5 k6 k7 k8 k9 k10 C0 I
        generalize wr.drew.setRow w.heap.size (arr G) = W9 at *
        refine Sd.lit ?_
        quiet_step (fail)
        refine wpQuiet_nil ?_
        refine Sd.done ?_
        have C2 := Lib.hid C1
        clear C1
        go_wp2
        (try simp only [Exit.inBlock, Exit.then])
        refine bodyPost_ret (results_fr rfl _ _ _ _ G _ rfl rfl rfl C2.out.row) rfl ?_
        exact ⟨by rw [FE.out, hb]; exact rfl, C2.out.bel⟩

end Go.Proofs.YtilacdjekdngkaaGreatDoor.Pa

/- The document's own Put, Take and Turn of layer 3. -/
namespace Go.Proofs.YtilacdjekdngkaaGreatDoor.Ua
open Go.RowKit

theorem div_step (b : Int) (k : Nat) : b / 2 ^ (k + 1) = b / 2 ^ k / 2 := by
  rw [pow_succ_int, Int.ediv_ediv_of_nonneg (Int.le_of_lt (Int.pow_pos (by decide)))]
theorem cnt_step (b : Int) (k : Nat) (h : k < 8) : (cnt (put b 9) (k + 1) : Int) = cnt (put b 9) k + b / 2 ^ k % 2 := by
  rw [cnt, bit_mod]
  have : put b 9 (k + 1) = bit b k := by unfold put; rw [if_pos (by omega)]; rfl
  rw [this]
  split <;> simp

theorem val_step {F : Nat → Bool} {k : Nat} (h : F (k + 1) = true) : (val F (k + 1) : Int) = val F k + (2 ^ k : Nat) := by rw [val, h]; simp
theorem val_same {F : Nat → Bool} {k : Nat} (h : F (k + 1) = false) : (val F (k + 1) : Int) = val F k := by rw [val, h]; simp
theorem cnt_one {F : Nat → Bool} {k : Nat} (h : F (k + 1) = true) : (cnt F (k + 1) : Int) = cnt F k + 1 := by rw [cnt, h]; simp
theorem cnt_same {F : Nat → Bool} {k : Nat} (h : F (k + 1) = false) : (cnt F (k + 1) : Int) = cnt F k := by rw [cnt, h]; simp
theorem two_pow_le {k : Nat} (h : k ≤ 8) : 1 ≤ 2 ^ k ∧ 2 ^ k ≤ 256 := ⟨Nat.one_le_two_pow, Nat.pow_le_pow_right (n := 2) (by omega) h⟩
/-- The parity's bit, as the document's own Put has it. -/
theorem nine (b : Int) (odd : Bool) (c : Nat) (h : c = cnt (put b 9) 8) :
    (if odd then ((c : Int) % 2 == 0) else ((c : Int) % 2 == 1)) = (par (put b 9) 9 != odd) := by
  rw [par_put9, ← cnt_par, ← h]
  have e0 : ((c : Int) % 2 == 0) = decide (c % 2 = 0) := by show decide ((c : Int) % 2 = 0) = _; rw [decide_eq_decide]; omega
  have e1 : ((c : Int) % 2 == 1) = decide (c % 2 = 1) := by show decide ((c : Int) % 2 = 1) = _; rw [decide_eq_decide]; omega
  rw [e0, e1]
  rcases (by omega : c % 2 = 0 ∨ c % 2 = 1) with e | e <;> cases odd <;> simp [e]

set_option maxHeartbeats 400000 in
theorem rput_any (w : World) (b : Int) (odd : Bool) (h0 : 0 ≤ b) (h1 : b ≤ 255) : Calls Tryz.prog 38 #[.int .u8 b, .bool odd] w fun e w' => e = .returned (.agg (arr (frm b odd))) ∧ Below w.heap.size w w' := by
  have T0 := Lib.hid (two_new w (put b 1) (fun i _ => (put_1 b i).symm))
  go_enter Tryz.func38, Tryz.ntmps38
  go_wp2
  go_loopw [6, 7, 8] (fun n c i wr => ∃ k : Nat, k ≤ 8 ∧ i = .int .i64 (k + 1 : Nat) ∧ n = .int .i64 (b / 2 ^ k) ∧ c = .int .i64 (cnt (put b 9) k : Nat) ∧ Hid (Two w wr (put b (k + 1)))) (fun _ _ i _ => 9 - (intOf i).toNat)
  case atStart => exact ⟨0, by omega, rfl, by rw [Int.pow_zero, Int.ediv_one], rfl, T0⟩
  case round =>
    obtain ⟨k, hk, rfl, rfl, rfl, T⟩ := hrel
    have n0 : 0 ≤ b / 2 ^ k := Int.ediv_nonneg h0 (Int.le_of_lt (Int.pow_pos (by decide)))
    have n1 : b / 2 ^ k ≤ 255 := Int.le_trans (Int.ediv_le_self _ h0) h1
    have q := cnt_le (put b 9) k
    by_cases hlt : k < 8
    · have c := T.out.2.1.cell (k + 1) (by omega)
      have f := T.out.2.1.frozen (k + 1)
      have CS := Lib.hid (cnt_step b k hlt)
      have DS := Lib.hid (div_step b k)
      have PS : Hid (∀ i, upd (put b (k + 1)) (k + 1) (decide (b / 2 ^ k % 2 = 1)) i = put b (k + 1 + 1) i) := put_step b (k + 1) (by omega)
      generalize cnt (put b 9) k = cc at *
      generalize b / 2 ^ k = N at *
      go_wp2
      go_roundw
      case rel => exact ⟨k + 1, by omega, by go_num, by rw [DS.out], by rw [CS.out], (T.out.set_ (k + 1) (by omega) _).to (fun i _ => PS.out i)⟩
      case measure => simp [intOf]; omega
    · obtain rfl : k = 8 := by omega
      have c9 := T.out.2.1.cell 9 (by omega)
      have c10 := T.out.2.1.cell 10 (by omega)
      have f9 := T.out.2.1.frozen 9
      have f10 := T.out.2.1.frozen 10
      have NN := Lib.hid (nine b odd (cnt (put b 9) 8) rfl)
      generalize cnt (put b 9) 8 = cc at *
      have h9 : 9 < 11 := by omega
      have h10 : 10 < 11 := by omega
      cases odd
      all_goals
        go_wp2_with ((with_reducible refine copy_frame (o := ⟨some 44, _, _, _, _, _⟩) rfl rfl _ _ _ rfl rfl rfl _ _ _ _ ?_ ?_ ?_ ((T.out.set_ 9 h9 _).set_ 10 h10 _).frame ((T.out.set_ 9 h9 _).set_ 10 h10 _).res ?_); (exact rfl); (exact rfl); (exact rfl))
        all_goals
          refine bodyPost_ret (results_frame rfl _ _ _ _ rfl (((T.out.set_ 9 h9 _).set_ 10 h10 _).1.row _)) rfl ⟨?_, ?_⟩
          · refine congrArg (fun x => Ending.returned (.agg (arr (upd (upd (put b 9) 9 x) 10 true)))) (Eq.trans ?_ NN.out)
            first
              | rfl
              | (simp only [if_true]; refine Eq.symm ?_; show decide ((cc : Int) % 2 = 0) = true; exact decide_eq_true (by omega))
          · exact below_setRow ((T.out.set_ 9 h9 _).set_ 10 h10 _).2.2 _ _ (Nat.le_refl _)
set_option maxHeartbeats 400000 in
theorem rtake_good (w : World) (F : Nat → Bool) (hb : bad F = false) : Calls Tryz.prog 41 #[.agg (arr F)] w fun e w' => e = .returned (.tuple #[.int .u8 (tb F), .bool (tp F), .int .i64 (te F)]) ∧ Below w.heap.size w w' := by
  have R0 := Lib.hid (Row.new w F)
  have B0 := Lib.hid ((Below.refl w.heap.size w).alloc (Nat.le_refl _) (.cells (arr F) 46))
  have c0 := R0.out.cell 0 (by omega)
  have c10 := R0.out.cell 10 (by omega)
  have OB := Lib.hid (of_good hb)
  unfold bad at hb
  simp at hb
  obtain ⟨h0, h10⟩ := hb
  rw [h0] at c0
  rw [h10] at c10
  clear h0 h10
  go_enter Tryz.func41, Tryz.ntmps41
  go_wp2
  go_loop [5, 6, 7, 8] (fun n p c i => ∃ k : Nat, k ≤ 8 ∧ i = .int .i64 (k + 1 : Nat) ∧ n = .int .i64 (val F k : Nat) ∧ p = .int .i64 (2 ^ k : Nat) ∧ c = .int .i64 (cnt F k : Nat)) (fun _ _ _ i => 9 - (intOf i).toNat)
  case atStart => exact ⟨0, by omega, rfl, rfl, rfl, rfl⟩
  case round =>
    obtain ⟨k, hk, rfl, rfl, rfl, rfl⟩ := hrel
    have q := cnt_le F k
    have v := val_lt F k
    obtain ⟨p1, p2⟩ := two_pow_le hk
    by_cases hlt : k < 8
    · have c := R0.out.cell (k + 1) (by omega)
      have PS : Hid (((2 ^ (k + 1) : Nat) : Int) = 2 * (2 ^ k : Nat)) := by show ((2 ^ (k + 1) : Nat) : Int) = _; rw [Nat.pow_succ]; omega
      cases hF : F (k + 1) with
      | true =>
        rw [hF] at c
        have V := Lib.hid (val_step hF)
        have C := Lib.hid (cnt_one hF)
        clear hF
        generalize 2 ^ k = P at *
        generalize val F k = vv at *
        generalize cnt F k = cc at *
        go_wp2
        go_round
        case rel => exact ⟨k + 1, by omega, by go_num, by rw [V.out], by rw [PS.out], by rw [C.out]⟩
        case measure => simp [intOf]; omega
      | false =>
        rw [hF] at c
        have V := Lib.hid (val_same hF)
        have C := Lib.hid (cnt_same hF)
        clear hF
        generalize 2 ^ k = P at *
        generalize val F k = vv at *
        generalize cnt F k = cc at *
        go_wp2
        go_round
        case rel => exact ⟨k + 1, by omega, by go_num, by rw [V.out], by rw [PS.out], by rw [C.out]⟩
        case measure => simp [intOf]; omega
    · obtain rfl : k = 8 := by omega
      have c9 := R0.out.cell 9 (by omega)
      have TP : Hid (decide (cnt F 9 % 2 = 1) = tp F) := (cnt_par F 9).trans OB.out.2.1
      cases hF : F 9 with
      | true =>
        rw [hF] at c9
        have C : Hid ((cnt F 9 : Int) = cnt F 8 + 1) := cnt_one (k := 8) hF
        clear hF
        generalize val F 8 = vv at *
        generalize cnt F 8 = cc at *
        go_wp2
        go_ret3
        exact ⟨ret_three OB.out.1 (by rw [← TP.out, Bool.eq_iff_iff]; have := C.out; simp; omega) OB.out.2.2, B0.out⟩
      | false =>
        rw [hF] at c9
        have C : Hid ((cnt F 9 : Int) = cnt F 8) := cnt_same (k := 8) hF
        clear hF
        generalize val F 8 = vv at *
        generalize cnt F 8 = cc at *
        go_wp2
        go_ret3
        exact ⟨ret_three OB.out.1 (by rw [← TP.out, Bool.eq_iff_iff]; have := C.out; simp; omega) OB.out.2.2, B0.out⟩

set_option maxHeartbeats 400000 in
theorem rtake_bad (w : World) (F : Nat → Bool) (hb : bad F = true) : Calls Tryz.prog 41 #[.agg (arr F)] w fun e w' => e = .returned (.tuple #[.int .u8 (tb F), .bool (tp F), .int .i64 (te F)]) ∧ Below w.heap.size w w' := by
  have R0 := Lib.hid (Row.new w F)
  have B0 := Lib.hid ((Below.refl w.heap.size w).alloc (Nat.le_refl _) (.cells (arr F) 46))
  have c0 := R0.out.cell 0 (by omega)
  have c10 := R0.out.cell 10 (by omega)
  have OB := Lib.hid (of_bad hb)
  unfold bad at hb
  cases h0 : F 0 with
  | true =>
    rw [h0] at c0
    clear hb
    go_enter Tryz.func41, Tryz.ntmps41
    go_wp2
    go_ret3
    exact ⟨ret_three OB.out.1 OB.out.2.1 OB.out.2.2, B0.out⟩
  | false =>
    have h10 : F 10 = false := by rw [h0] at hb; simpa using hb
    rw [h0] at c0
    rw [h10] at c10
    clear hb
    go_enter Tryz.func41, Tryz.ntmps41
    go_wp2
    go_ret3
    exact ⟨ret_three OB.out.1 OB.out.2.1 OB.out.2.2, B0.out⟩
theorem rtake_any (w : World) (F : Nat → Bool) : Calls Tryz.prog 41 #[.agg (arr F)] w fun e w' => e = .returned (.tuple #[.int .u8 (tb F), .bool (tp F), .int .i64 (te F)]) ∧ Below w.heap.size w w' := by
  cases h : bad F with
  | true => exact rtake_bad w F h
  | false => exact rtake_good w F h

/-- What of a frame has been copied, and turned, below bit k. -/
def rt (F : Nat → Bool) (m : Int) (k i : Nat) : Bool := if i < k then F i != bit m i else false
theorem rt_0 (F : Nat → Bool) (m : Int) (i : Nat) : false = rt F m 0 i := by unfold rt; rw [if_neg (by omega)]
theorem rt_all (F : Nat → Bool) (m : Int) (i : Nat) (h : i < 11) : rt F m 11 i = turn F m 11 i := by unfold rt turn; rw [if_pos h, if_pos h]
theorem rt_yes {F : Nat → Bool} {m : Int} {k : Nat} (h : bit m k = true) (i : Nat) : upd (upd (rt F m k) k (F k)) k (!F k) i = rt F m (k + 1) i := by
  unfold upd rt
  by_cases e : i = k
  · subst e; rw [if_pos rfl, if_pos (by omega), h]; simp
  · rw [if_neg e, if_neg e]
    by_cases c : i < k
    · rw [if_pos c, if_pos (by omega)]
    · rw [if_neg c, if_neg (by omega)]
theorem rt_no {F : Nat → Bool} {m : Int} {k : Nat} (h : bit m k = false) (i : Nat) : upd (rt F m k) k (F k) i = rt F m (k + 1) i := by
  unfold upd rt
  by_cases e : i = k
  · subst e; rw [if_pos rfl, if_pos (by omega), h]; simp
  · rw [if_neg e]
    by_cases c : i < k
    · rw [if_pos c, if_pos (by omega)]
    · rw [if_neg c, if_neg (by omega)]
/-- The three blocks of a frame that is turned into a new one. -/
def Own3 (w wr : World) (F G : Nat → Bool) : Prop := Row wr w.heap.size F ∧ Row wr (w.heap.size + 1) no ∧ Row wr (w.heap.size + 1 + 1) G ∧ Below w.heap.size w wr
theorem own3_new (w : World) (F G : Nat → Bool) (h : ∀ i, i < 11 → false = G i) : Own3 w (((w.alloc (.cells (arr F) 46)).alloc (.cells (arr no) 46)).alloc (.cells (arr no) 46)) F G := by
  obtain ⟨h1, h2, h3⟩ := own2_new w F
  refine ⟨h1.alloc _, h2.alloc _, ?_, h3.alloc (by simp; omega) _⟩
  have := Row.new ((w.alloc (.cells (arr F) 46)).alloc (.cells (arr no) 46)) no
  have e : ((w.alloc (.cells (arr F) 46)).alloc (.cells (arr no) 46)).heap.size = w.heap.size + 1 + 1 := by simp
  rw [e] at this
  exact this.to h
theorem Own3.set_ {w wr : World} {F G : Nat → Bool} (h : Own3 w wr F G) (k : Nat) (hk : k < 11) (x : Bool) : Own3 w (wr.setCell ⟨w.heap.size + 1 + 1, k, none⟩ (.bool x)) F (upd G k x) :=
  ⟨h.1.far (by simp; omega) _, h.2.1.far (by simp) _, h.2.2.1.set_ k hk x, h.2.2.2.setCell (by simp; omega) _⟩
theorem Own3.to {w wr : World} {F G H : Nat → Bool} (h : Own3 w wr F G) (e : ∀ i, i < 11 → G i = H i) : Own3 w wr F H := ⟨h.1, h.2.1, h.2.2.1.to e, h.2.2.2⟩

/-- A number as an unsigned one. -/
def un (m : Int) : Int := IntKind.u64.wrap m
theorem un_in (m : Int) : 0 ≤ un m ∧ un m ≤ 18446744073709551615 := by unfold un; rw [IntKind.wrap_u64]; omega
theorem un_bit (m : Int) (k : Nat) (h : k < 11) : (un m / 2 ^ k % 2 == 1) = bit m k := by
  show decide (un m / 2 ^ k % 2 = 1) = decide (m / 2 ^ k % 2 = 1)
  rw [decide_eq_decide]
  unfold un
  rw [IntKind.wrap_u64]
  rcases (by omega : k = 0 ∨ k = 1 ∨ k = 2 ∨ k = 3 ∨ k = 4 ∨ k = 5 ∨ k = 6 ∨ k = 7 ∨ k = 8 ∨ k = 9 ∨ k = 10) with rfl | rfl | rfl | rfl | rfl | rfl | rfl | rfl | rfl | rfl | rfl <;> simp <;> omega

set_option maxHeartbeats 400000 in
theorem rturn_any (w : World) (F : Nat → Bool) (m : Int) : Calls Tryz.prog 39 #[.agg (arr F), .int .i64 m] w fun e w' => e = .returned (.agg (arr (turn F m 11))) ∧ Below w.heap.size w w' := by
  have T0 := Lib.hid (own3_new w F (rt F m 0) (fun i _ => rt_0 F m i))
  go_enter Tryz.func39, Tryz.ntmps39
  go_wp2
  go_loopw [6, 7] (fun n i wr => ∃ k : Nat, k ≤ 11 ∧ i = .int .i64 k ∧ n = .int .u64 (un m / 2 ^ k) ∧ Hid (Own3 w wr F (rt F m k))) (fun _ i _ => 11 - (intOf i).toNat)
  case atStart => exact ⟨0, by omega, rfl, by rw [Int.pow_zero, Int.ediv_one]; rfl, T0⟩
  case round =>
    obtain ⟨k, hk, rfl, rfl, T⟩ := hrel
    obtain ⟨n0, n1⟩ := un_in m
    have N0 : 0 ≤ un m / 2 ^ k := Int.ediv_nonneg n0 (Int.le_of_lt (Int.pow_pos (by decide)))
    have N1 : un m / 2 ^ k ≤ 18446744073709551615 := Int.le_trans (Int.ediv_le_self _ n0) n1
    clear n0 n1
    by_cases hlt : k < 11
    · have c := T.out.1.cell k hlt
      have d := T.out.2.2.1.cell k hlt
      have f := T.out.2.2.1.frozen k
      have DS := Lib.hid (div_step (un m) k)
      have UB := un_bit m k hlt
      cases hb : bit m k with
      | true =>
        have TY := Lib.hid (rt_yes (F := F) hb)
        rw [hb] at UB
        clear hb
        generalize un m / 2 ^ k = N at *
        go_wp2
        go_roundw
        case rel => exact ⟨k + 1, by omega, by go_num, by rw [DS.out], ((T.out.set_ k hlt _).set_ k hlt _).to (fun i _ => TY.out i)⟩
        case measure => simp [intOf]; omega
      | false =>
        have TN := Lib.hid (rt_no (F := F) hb)
        rw [hb] at UB
        clear hb
        generalize un m / 2 ^ k = N at *
        go_wp2
        go_roundw
        case rel => exact ⟨k + 1, by omega, by go_num, by rw [DS.out], (T.out.set_ k hlt _).to (fun i _ => TN.out i)⟩
        case measure => simp [intOf]; omega
    · obtain rfl : k = 11 := by omega
      have AE : Hid (arr (turn F m 11) = arr (rt F m 11)) := arr_congr (fun i hi => (rt_all F m i hi).symm)
      go_wp2_with (first
        | (refine wpList_load_row rfl 46 _ rfl _ rfl _ _ _ _ T.out.2.2.1 Tryz.underlying46 rfl (info_of _) ?_)
        | (refine wpList_store_row rfl 46 _ _ rfl _ _ rfl rfl _ _ T.out.2.1 (info_of _) rfl (arr_one _) ?_))
      refine bodyPost_ret (results_cell_row rfl _ _ _ _ _ _ _ rfl (T.out.2.1.row _) Tryz.underlying46 rfl (info_of _)) rfl ⟨by rw [AE.out], ?_⟩
      exact below_setRow T.out.2.2.2 _ _ (by omega)

end Go.Proofs.YtilacdjekdngkaaGreatDoor.Ua

/- The document's own Sender. -/
namespace Go.Proofs.YtilacdjekdngkaaGreatDoor.Ck
open Go.RowKit
open Go.Proofs.YtilacdjekdngkaaGreatDoor.Ro (E5 z5 eat ent K5 at5 eat_mem mayB mayP)
open Go.Proofs.YtilacdjekdngkaaGreatDoor.Rw (Rd Ow At)
open Go.Proofs.YtilacdjekdngkaaGreatDoor.Fl (ret_bool at_bool row_cell row_frozen file)
attribute [local irreducible] Sd.wpSd wpQuiet

set_option maxHeartbeats 4000000 in
theorem rsender_any (w : World) (v : Value) (L : LL) (s : Int) (R : RdL w v L) : Calls Tryz.prog 20 #[v, .int .i64 s] w (WhoPost w (sN s L) (sE s L)) := by
  obtain ⟨a, cap, rfl, _, hm, hA⟩ := R
  have HA := Lib.hid hA
  have HH : Hid (∀ k i w', Within (snd s) L k i → k < L.length → i < (lat L k).length → snd s k (eat (lat L k) i) = true → Below w.heap.size w w' → WhoPost w (sN s L) (sE s L) (.returned (.tuple #[.int .i64 (k : Int), ent (eat (lat L k) i)])) w') := fun k i w' h hk hi hq b => by
    obtain ⟨e1, e2⟩ := within_hit h hk hi hq
    unfold sN sE
    rw [e1, e2]
    exact ⟨rfl, b⟩
  have HM : Hid (∀ w', Ahead (snd s) L L.length → Below w.heap.size w w' → WhoPost w (sN s L) (sE s L) (.returned (.tuple #[.int .i64 (-1), ent z5])) w') := fun w' h b => by
    obtain ⟨e1, e2⟩ := ahead_end h
    unfold sN sE
    rw [e1, e2]
    exact ⟨rfl, b⟩
  clear hA
  generalize sN s L = rn at *
  generalize sE s L = re at *
  unfold maxLen at hm
  generalize hn : L.length = n at *
  have HN := Lib.hid hn
  clear hn
  have R0 : Hid (RowE (w.alloc (.cells #[.int .i64 0, .int .i64 0, .int .i64 0, .int .i64 0, .int .i64 0] 75)) w.heap.size z5) := heap_alloc_new w _
  have B0 := Lib.hid ((Below.refl w.heap.size w).alloc (Nat.le_refl _) (.cells #[.int .i64 0, .int .i64 0, .int .i64 0, .int .i64 0, .int .i64 0] 75))
  go_enter Tryz.func20, Tryz.ntmps20
  go_wp2
  generalize w.alloc (.cells #[.int .i64 0, .int .i64 0, .int .i64 0, .int .i64 0, .int .i64 0] 75) = w0 at *
  go_loopw [6] (fun i wr => ∃ k : Nat, k ≤ n ∧ i = .int .i64 k ∧ Hid (RowE wr w.heap.size z5) ∧ Hid (Below w.heap.size w wr) ∧ Hid (Ahead (snd s) L k)) (fun i _ => n - (intOf i).toNat)
  case atStart => exact ⟨0, Nat.zero_le _, rfl, R0, B0, ahead_zero⟩
  case round =>
    obtain ⟨k, hk, rfl, rr, bw, hs⟩ := hrel
    by_cases hlt : k < n
    · obtain ⟨b, off, rfl, A⟩ := HA.out (by omega)
      obtain ⟨u, c, a', cap', rfl, _, hm', hA'⟩ := A k hlt
      have HC := Lib.hid c
      have HA' := Lib.hid hA'
      have HAA := Lib.hid A
      have HK := Lib.hid (show k < L.length by rw [HN.out]; exact hlt)
      clear hA' c A
      unfold maxLen at hm'
      generalize hl : (lat L k).length = m at *
      have HL := Lib.hid hl
      clear hl
      have W0 := Lib.hid (within_zero hs.out)
      clear hs
      go_wp2
      go_loopw [7] (fun i wr => ∃ j : Nat, j ≤ m ∧ i = .int .i64 j ∧ Hid (RowE wr w.heap.size z5) ∧ Hid (Below w.heap.size w wr) ∧ Hid (Within (snd s) L k j)) (fun i _ => m - (intOf i).toNat)
      case atStart => exact ⟨0, Nat.zero_le _, rfl, rr, bw, W0⟩
      case round =>
        clear rr bw W0
        obtain ⟨j, hj, rfl, rr, bw, hs⟩ := hrel
        have lc : b < w.heap.size := World.block_lt_of_cell? _ _ HC.out
        have c' := (bw.out.cell lc).trans HC.out
        by_cases hjt : j < m
        · obtain ⟨b', off', rfl, A'⟩ := HA'.out (by omega)
          have at0 := at5 A' j (by rw [HL.out]; exact hjt)
          rw [show (lat L k).getD j z5 = eat (lat L k) j from rfl] at at0
          have YES := Lib.hid (fun w' h hb => HH.out k j w' hs.out (by have := HK.out; rw [HN.out] at this; exact this) (by rw [HL.out]; exact hjt) h hb)
          have NO := Lib.hid (fun h => within_next hs.out (by rw [HL.out]; exact hjt) h)
          have PY := fun h1 h2 => snd_yes (s := s) (n := k) (x := eat (lat L k) j) h1 h2
          have PN := fun h => snd_no (s := s) (n := k) (x := eat (lat L k) j) h
          have HAA' := Lib.hid A'
          clear A' hs
          generalize eat (lat L k) j = x at *
          obtain ⟨x1, x2, x3, x4, x5⟩ := x
          simp only at PY PN at0
          generalize snd s k (x1, x2, x3, x4, x5) = q at *
          obtain ⟨i0, i1, i2, i3, i4⟩ := at0
          have l0 : b' < w.heap.size := World.block_lt_of_cell? _ _ i0
          have c0 := (bw.out.cell l0).trans i0
          have c1 : wr.cell? ⟨b', off' + j * 5 + 1, none⟩ = _ := (bw.out.cell l0).trans i1
          have II := Lib.hid (And.intro (And.intro i0 i1) (And.intro (And.intro i2 i3) i4))
          clear i0 i1 i2 i3 i4
          by_cases hq : x1 = 1 ∧ x2 = s
          · have Y := Lib.hid (fun w' hb => YES.out w' (PY hq.1 hq.2) hb)
            have h1 : (x1 == 1) = true := by simpa using hq.1
            have h2 : (x2 == s) = true := by simpa using hq.2
            clear PY PN YES NO hq
            go_upto_region 8 with fail
            clear c0 c1 c' h1 h2
            have C0 : Below w.heap.size w wr.drew := bw.out.drew
            have ne : Nonempty (Sc.In (fun W => Below w.heap.size w W)) := ⟨⟨_, C0⟩⟩
            have k0 := Sc.cell_in (C := fun W => Below w.heap.size w W) (a := ⟨b, off + k, none⟩) (v := .slice (some ⟨b', off', none⟩) m cap') (fun W h => (h.cell lc).trans HC.out)
            have x0 := Sc.cell_in (C := fun W => Below w.heap.size w W) (a := ⟨b', off' + j * 5, none⟩) (v := .int .i64 x1) (fun W h => (h.cell l0).trans II.out.1.1)
            have x1' := Sc.cell_in (C := fun W => Below w.heap.size w W) (a := ⟨b', off' + j * 5 + 1, none⟩) (v := .int .i64 x2) (fun W h => (h.cell l0).trans II.out.1.2)
            have x2' := Sc.cell_in (C := fun W => Below w.heap.size w W) (a := ⟨b', off' + j * 5 + 2, none⟩) (v := .int .i64 x3) (fun W h => (h.cell l0).trans II.out.2.1.1)
            have x3' := Sc.cell_in (C := fun W => Below w.heap.size w W) (a := ⟨b', off' + j * 5 + 3, none⟩) (v := .int .i64 x4) (fun W h => (h.cell l0).trans II.out.2.1.2)
            have x4' := Sc.cell_in (C := fun W => Below w.heap.size w W) (a := ⟨b', off' + j * 5 + 4, none⟩) (v := .int .i64 x5) (fun W h => (h.cell l0).trans II.out.2.2)
            refine Sc.start (fun W => Below w.heap.size w W) [(false, 0), (false, 1), (false, 2), (false, 3), (false, 4), (false, 5), (false, 6), (false, 7), (false, 8), (true, 9)] (by kernel_rfl) (by kernel_rfl) (by kernel_rfl) C0 ?_
            dsimp only [Sd.picks, List.getElem?_cons_succ, List.getElem?_cons_zero]
            iterate 9 (refine Sd.lit ?_; quiet_step (fail); refine wpQuiet_nil ?_)
            refine Sd.call (by rfl) (fun K hK => ?_)
            clear k0 x0 x1' x2' x3' x4' ne
            have R2 : Hid (RowE wr.drew w.heap.size z5) := Lib.hid rr.out
            clear rr bw
            generalize wr.drew = W2 at *
            have d0 : W2.cell? ⟨w.heap.size, 0, none⟩ = some (.int .i64 0) := row_cell R2.out 0
            have d1 : W2.cell? ⟨w.heap.size, 1, none⟩ = some (.int .i64 0) := row_cell R2.out 1
            have d2 : W2.cell? ⟨w.heap.size, 2, none⟩ = some (.int .i64 0) := row_cell R2.out 2
            have d3 : W2.cell? ⟨w.heap.size, 3, none⟩ = some (.int .i64 0) := row_cell R2.out 3
            have d4 : W2.cell? ⟨w.heap.size, 4, none⟩ = some (.int .i64 0) := row_cell R2.out 4
            have f0 : W2.frozen? ⟨w.heap.size, 0, none⟩ = false := row_frozen R2.out 0
            have f1 : W2.frozen? ⟨w.heap.size, 1, none⟩ = false := row_frozen R2.out 1
            have f2 : W2.frozen? ⟨w.heap.size, 2, none⟩ = false := row_frozen R2.out 2
            have f3 : W2.frozen? ⟨w.heap.size, 3, none⟩ = false := row_frozen R2.out 3
            have f4 : W2.frozen? ⟨w.heap.size, 4, none⟩ = false := row_frozen R2.out 4
            have R3 : Hid (RowE (sto5 W2 w.heap.size (x1, x2, x3, x4, x5)) w.heap.size (x1, x2, x3, x4, x5)) := Lib.hid (sto5_row (y := z5) R2.out _)
            have B3 := sto5_below (g := w.heap.size) (x := (x1, x2, x3, x4, x5)) C0 (Nat.le_refl _)
            clear C0 R2
            go_simp
            refine hK _ _ (Sc.Cl.of B3) ?_
            have B4 := Lib.hid B3
            clear hK K d0 d1 d2 d3 d4 f0 f1 f2 f3 f4 B3
            refine Sd.done ?_
            show Exit.then _ _ _ _ (sto5 W2 w.heap.size (x1, x2, x3, x4, x5))
            generalize sto5 W2 w.heap.size (x1, x2, x3, x4, x5) = wS at *
            go_wp2
            (try simp only [Exit.inBlock, Exit.then])
            exact bodyPost_ret (v := .tuple #[.int .i64 (k : Int), ent (x1, x2, x3, x4, x5)]) (results_who (p := 5) (r := 4) rfl _ _ w.heap.size k _ rfl rfl R3.out) rfl (Y.out _ B4.out)
          · have ST := Lib.hid (NO.out (PN hq))
            clear PY PN YES NO
            by_cases h1 : x1 = 1
            · have h2 : (x2 == s) = false := by simpa [h1] using hq
              have h1' : (x1 == 1) = true := by simpa using h1
              clear hq h1
              go_wp2
              go_roundw
              case rel => exact ⟨j + 1, by omega, by go_num, rr, bw, ST⟩
              case measure => simp [intOf]; omega
            · have h1' : (x1 == 1) = false := by simpa using h1
              clear hq h1
              go_wp2
              go_roundw
              case rel => exact ⟨j + 1, by omega, by go_num, rr, bw, ST⟩
              case measure => simp [intOf]; omega
        · obtain rfl : j = m := by omega
          have ST := Lib.hid (within_end (by rw [HL.out]; exact hs.out) HK.out)
          clear hs
          go_wp2
          go_roundw
          case rel => exact ⟨k + 1, by omega, by go_num, rr, bw, ST⟩
          case measure => simp [intOf]; omega
    · obtain rfl : k = n := by omega
      have d0 : wr.cell? ⟨w.heap.size, 0, none⟩ = some (.int .i64 0) := row_cell rr.out 0
      have d1 : wr.cell? ⟨w.heap.size, 1, none⟩ = some (.int .i64 0) := row_cell rr.out 1
      have d2 : wr.cell? ⟨w.heap.size, 2, none⟩ = some (.int .i64 0) := row_cell rr.out 2
      have d3 : wr.cell? ⟨w.heap.size, 3, none⟩ = some (.int .i64 0) := row_cell rr.out 3
      have d4 : wr.cell? ⟨w.heap.size, 4, none⟩ = some (.int .i64 0) := row_cell rr.out 4
      have f0 : wr.frozen? ⟨w.heap.size, 0, none⟩ = false := row_frozen rr.out 0
      have f1 : wr.frozen? ⟨w.heap.size, 1, none⟩ = false := row_frozen rr.out 1
      have f2 : wr.frozen? ⟨w.heap.size, 2, none⟩ = false := row_frozen rr.out 2
      have f3 : wr.frozen? ⟨w.heap.size, 3, none⟩ = false := row_frozen rr.out 3
      have f4 : wr.frozen? ⟨w.heap.size, 4, none⟩ = false := row_frozen rr.out 4
      have R3 : Hid (RowE (sto5 wr w.heap.size z5) w.heap.size z5) := Lib.hid (sto5_row (y := z5) rr.out z5)
      have B3 := Lib.hid (sto5_below (g := w.heap.size) (x := z5) bw.out (Nat.le_refl _))
      have E := Lib.hid (HM.out _ hs.out B3.out)
      go_wp2
      (try simp only [Exit.inBlock, Exit.then])
      exact bodyPost_ret (v := .tuple #[.int .i64 (-1), ent z5]) (results_who (p := 5) (r := 4) rfl _ _ w.heap.size (-1) z5 rfl rfl R3.out) rfl E.out

end Go.Proofs.YtilacdjekdngkaaGreatDoor.Ck

/- The document's Frame: what goes over the line in a slot. -/
namespace Go.Proofs.YtilacdjekdngkaaGreatDoor.Pa
open Go.RowKit Go.Maps
open Go.Proofs.YtilacdjekdngkaaGreatDoor.Fs (Abs St Only Fx Wf gB gV GetPost rget_st OkA)
open Go.Proofs.YtilacdjekdngkaaGreatDoor.Rw (Rd Ow At)
open Go.Proofs.YtilacdjekdngkaaGreatDoor.Ro (E5 z5 eat K5 at5 okE ent okE_bounds)
open Go.Proofs.YtilacdjekdngkaaGreatDoor.Ck (LL lat sN sE tE RdL rsender_any WhoPost)
open Go.Proofs.YtilacdjekdngkaaGreatDoor.Fl (R4 z4 rec4 okR arr4 row_cell row_frozen sto4 sto4_row sto4_other sto4_below sto4_size)
open Go.Proofs.YtilacdjekdngkaaGreatDoor.Ua (arr Row frm tb tp te upd rput_any rturn_any info_of arr_one arr_congr below_setRow load_frame store_frame store_new)
set_option maxRecDepth 100000
attribute [local irreducible] Sd.wpSd wpQuiet Sf.wpSf

theorem rget_has {w : World} {r : Nat} {x : Abs × Int} (H : Hrf w r x) (n k : Int) : Calls Tryz.prog 37 #[.pointer (some ⟨r, 0, none⟩), .int .i64 n, .int .i64 k] w (GetPost w (gV x.1 n k) (gB x.1 n k)) := rget_st H n k
/-- The result's block, and the frame's. -/
structure FrJ (w : World) (g : Nat) (F : Nat → Bool) (wr : World) : Prop where
  res : Row wr w.heap.size lowF
  row : Row wr g F
  gt : w.heap.size < g
  bel : Below w.heap.size w wr
theorem FrJ.below {w wr wr' : World} {g : Nat} {F : Nat → Bool} (h : FrJ w g F wr) (b : Below wr.heap.size wr wr') : FrJ w g F wr' := ⟨h.res.below b h.res.lt, h.row.below b h.row.lt, h.gt, h.bel.trans (b.mono h.bel.size)⟩
theorem FrJ.set {w wr : World} {g : Nat} {F : Nat → Bool} (h : FrJ w g F wr) (G : Nat → Bool) : FrJ w g G (wr.setRow g (arr G)) := ⟨(setRow_other wr g _ _ (by have := h.gt; omega)).trans h.res, h.row.row G, h.gt, below_setRow h.bel _ _ (by have := h.gt; omega)⟩
theorem FrJ.to {w wr : World} {g : Nat} {F G : Nat → Bool} (h : FrJ w g F wr) (e : ∀ i, i < 11 → F i = G i) : FrJ w g G wr := ⟨h.res, h.row.to e, h.gt, h.bel⟩
theorem fr_no {S : Sts} {T : LL} {V : List Bool} {P : List S2} {s : Int} {w w' : World} (h : snB S T V s = false) (b : Below w.heap.size w w') : FramePost w (sbN S T V s) (frF S T V P s) (snB S T V s) (.returned (.tuple #[.int .i64 (-1), .agg (arr lowF), .bool false])) w' := by
  refine ⟨?_, b⟩
  unfold sbN frF
  rw [h]
  rfl
theorem fr_yes {S : Sts} {T : LL} {V : List Bool} {P : List S2} {s : Int} {w w' : World} (h : snB S T V s = true) (b : Below w.heap.size w w') : FramePost w (sbN S T V s) (frF S T V P s) (snB S T V s) (.returned (.tuple #[.int .i64 (sN s T), .agg (arr (sq P s (frm (snX S T s) false) P.length)), .bool true])) w' := by
  refine ⟨?_, b⟩
  unfold sbN frF
  rw [h]
  rfl
def FrEnd (w : World) (n : Int) (F : Nat → Bool) (R : Ending → World → Prop) : Prop := ∀ w', Below w.heap.size w w' → R (.returned (.tuple #[.int .i64 n, .agg (arr F), .bool true])) w'

structure RfE (w : World) (g : Nat) (F : Nat → Bool) (W : World) : Prop where
  row : Row W g F
  bel : Below w.heap.size w W
/-- From the frame on: the spoils, one behind the other. -/
structure RfC (b off k : Nat) (m : Int) (g : Nat) (F : Nat → Bool) (W : World) : Prop where
  c : W.cell? ⟨b, off + k * 2 + 1, none⟩ = some (.int .i64 m)
  row : Row W g F

set_option maxHeartbeats 1000000 in
theorem rframe_any {w : World} {vs vt vl vp : Value} {S : Sts} {T : LL} {V : List Bool} {P : List S2} (H : Nr w vs vt vl S T V) (RP : Rd K2 w vp P) (s : Int) : Calls Tryz.prog 14 #[vs, vt, vl, vp, .int .i64 s] w (FramePost w (sbN S T V s) (frF S T V P s) (snB S T V s)) := by
  have SA := Lib.hid (fun W b => rsender_any W vt T s (H.tb.below (w' := W) b))
  unfold WhoPost at SA
  have NO := Lib.hid (fun h w' b => fr_no (S := S) (T := T) (V := V) (P := P) (s := s) (w := w) (w' := w') h b)
  have YES := Lib.hid (fun h w' b => fr_yes (S := S) (T := T) (V := V) (P := P) (s := s) (w := w) (w' := w') h b)
  have R0 : Hid (Row (w.alloc (.cells #[.bool false, .bool false, .bool false, .bool false, .bool false, .bool false, .bool false, .bool false, .bool false, .bool false, .bool false] 46)) w.heap.size lowF) := Lib.hid (Row.new w lowF)
  have B0 : Hid (Below w.heap.size w (w.alloc (.cells #[.bool false, .bool false, .bool false, .bool false, .bool false, .bool false, .bool false, .bool false, .bool false, .bool false, .bool false] 46))) := Lib.hid ((Below.refl w.heap.size w).alloc (Nat.le_refl _) _)
  obtain ⟨sa, cs, rfl, _⟩ := H.st.slice
  obtain ⟨al, cl, el, _⟩ := H.lv.slice
  rw [H.ll] at el
  subst el
  obtain ⟨ap, cp, rfl, _, hmp, hAP⟩ := RP
  have HAP := Lib.hid hAP
  unfold maxLen at hmp
  clear hAP
  generalize hnp : P.length = np at *
  have HNP := Lib.hid hnp
  clear hnp
  by_cases h0 : 0 ≤ sN s T
  · obtain ⟨n, hn, hlt, hmem, oke, hk1, hk2⟩ := sender_is H.ok h0
    obtain ⟨f0, r0, y0⟩ := (okE_bounds oke).2.2
    have hnS : n < S.length := by rw [← H.lt]; exact hlt
    have hnV : n < V.length := by rw [H.ll]; exact hnS
    obtain ⟨b, off, cap, sp, e1, cS, hS⟩ := H.st.one hnS
    injection e1 with e1 _ e2
    subst e1 e2
    obtain ⟨bl, ol, el2, AL⟩ : ∃ bl ol, al = some ⟨bl, ol, none⟩ ∧ At KB w bl ol V := by
      obtain ⟨a', c', e', _, _, h3⟩ := H.lv
      injection e' with q1 _ q2
      subst q1
      exact h3 (by omega)
    subst el2
    have cV := atB AL hnV
    have SB : Hid (snB S T V s = (vat V n && gB (sat S n).1 (sE s T).2.2.1 (sE s T).2.2.2.1)) := Lib.hid (by
      unfold snB
      rw [hn, decide_eq_true (Int.natCast_nonneg n), Bool.true_and])
    have SX : Hid (snX S T s = rb (gV (sat S n).1 (sE s T).2.2.1 (sE s T).2.2.2.1) (sE s T).2.2.2.2) := Lib.hid (by
      unfold snX
      rw [hn])
    have ev : V.getD n false = vat V n := rfl
    rw [ev] at cV
    rw [hn] at YES SA
    have BY : Hid (byt (snX S T s)) := Lib.hid (by rw [SX.out]; exact rb_ok (gV_ok hS.okA _ _) _)
    have SG : Hid (∀ W, Below w.heap.size w W → Calls Tryz.prog 37 #[.pointer (some ⟨sp, 0, none⟩), .int .i64 (sE s T).2.2.1, .int .i64 (sE s T).2.2.2.1] W (GetPost W (gV (sat S n).1 (sE s T).2.2.1 (sE s T).2.2.2.1) (gB (sat S n).1 (sE s T).2.2.1 (sE s T).2.2.2.1))) := Lib.hid (fun W b => rget_has (hS.below b) _ _)
    clear hmem hS H h0 hk1 hk2 hlt oke hn
    unfold GetPost at SG
    generalize gV (sat S n).1 (sE s T).2.2.1 (sE s T).2.2.2.1 = gv at *
    generalize gB (sat S n).1 (sE s T).2.2.1 (sE s T).2.2.2.1 = gb at *
    unfold ent at SA
    generalize snX S T s = X at *
    generalize sE s T = x at *
    obtain ⟨q, s', f, r, y⟩ := x
    simp only at y0 SX SA SG
    obtain ⟨j, rfl⟩ : ∃ j : Nat, y = j := ⟨y.toNat, by omega⟩
    have hj : j < 4 := by omega
    clear f0 r0 y0
    generalize snB S T V s = a3 at *
    generalize sbN S T V s = a1 at *
    generalize frF S T V P s = a2 at *
    generalize S.length = N at *
    have lS : b < w.heap.size := World.block_lt_of_cell? _ _ cS
    have lV : bl < w.heap.size := World.block_lt_of_cell? _ _ cV
    have CS := Lib.hid cS
    have CV := Lib.hid cV
    clear cS AL hnV
    go_enter Tryz.func14, Tryz.ntmps14
    go_wp2_with fail
    generalize (w.alloc (.cells #[.bool false, .bool false, .bool false, .bool false, .bool false, .bool false, .bool false, .bool false, .bool false, .bool false, .bool false] 46)) = W0 at *
    refine (SA.out W0 B0.out).mono ?_
    rintro e w1 ⟨rfl, b1⟩
    have R1 := Lib.hid (R0.out.below b1 R0.out.lt)
    have B1' := B0.out.trans (b1.mono B0.out.size)
    have R1' := Lib.hid (R1.out.below ((Below.refl w1.heap.size w1).alloc (Nat.le_refl _) (.cells #[.int .i64 q, .int .i64 s', .int .i64 f, .int .i64 r, .int .i64 (j : Int)] 75)) R1.out.lt)
    have X1 : Hid ((w1.alloc (.cells #[.int .i64 q, .int .i64 s', .int .i64 f, .int .i64 r, .int .i64 (j : Int)] 75)).heap[w1.heap.size]? = some (.cells #[.int .i64 q, .int .i64 s', .int .i64 f, .int .i64 r, .int .i64 (j : Int)] 75 (0, 0))) := Lib.hid (heap_alloc_new w1 _)
    have B1 := Lib.hid (B1'.alloc B1'.size (.cells #[.int .i64 q, .int .i64 s', .int .i64 f, .int .i64 r, .int .i64 (j : Int)] 75))
    have hg1 := R1.out.lt
    go_upto_region 2 with fail
    generalize (w1.alloc (.cells #[.int .i64 q, .int .i64 s', .int .i64 f, .int .i64 r, .int .i64 (j : Int)] 75)) = W at *
    clear b1 B1' SA R0 B0 R1
    generalize w1.heap.size = g at *
    have cV := (B1.out.cell lV).trans CV.out
    cases hv : vat V n with
    | false =>
      rw [hv] at cV
      have N2 := Lib.hid (NO.out (by rw [SB.out, hv]; rfl) (W.setRow w.heap.size (arr lowF)) (below_setRow B1.out _ _ (Nat.le_refl _)))
      clear NO YES SB SX
      go_wp2_with ((with_reducible refine store_frame (o := ⟨none, _, _, _, _, _⟩) rfl _ _ rfl w.heap.size lowF lowF ?_ ?_ R1'.out ?_); (exact rfl); (exact rfl))
      (try simp only [Exit.inBlock, Exit.then])
      refine bodyPost_ret (results_fr rfl _ _ _ _ lowF _ rfl rfl rfl (R1'.out.row lowF)) rfl ?_
      exact N2.out
    | true =>
      rw [hv] at cV
      go_upto_region 4 with fail
      have hgW := lt_of_block X1.out
      have cS := Sd.cell_by ((B1.out.cell lS).trans CS.out)
      have x2 := Sd.cell_by (show W.cell? ⟨g, 2, none⟩ = some (.int .i64 f) from row_cell X1.out 2)
      have x3 := Sd.cell_by (show W.cell? ⟨g, 3, none⟩ = some (.int .i64 r) from row_cell X1.out 3)
      refine Sf.start [(0, 0), (0, 1), (0, 2), (0, 3), (0, 4), (0, 5), (0, 6), (0, 7), (1, 8), (0, 9), (0, 10), (0, 11), (2, 12), (1, 13), (0, 14)] [⟨12, 15, #[.int .u8 0, .int .u8 0, .int .u8 0, .int .u8 0], 71⟩] (by kernel_rfl) (by kernel_rfl) (by kernel_rfl) (by decide) (by decide) ?_ ?_ ?_
      · simp
      · intro f hf
        simp only [List.mem_cons, List.not_mem_nil, or_false] at hf
        subst hf
        exact ⟨_, rfl, rfl, rfl, fun ρ w => by go_simp⟩
      dsimp only [Sf.picks, List.getElem?_cons_succ, List.getElem?_cons_zero]
      have BW := Lib.hid ((Below.refl W.heap.size W).drew)
      unfold ptr at cS
      repeat (refine Sf.lit (fun xs => ?_); simp only [Sf.fill, List.foldl_cons, List.foldl_nil]; quiet_step (fail); refine wpQuiet_nil ?_)
      refine Sf.call (fun xs w3 hb hc => ⟨by rfl, fun K hK => ?_⟩)
      have B3 := Lib.hid (BW.out.trans (hb.mono BW.out.size))
      clear hb hc BW
      simp only [Sf.fill, List.foldl_cons, List.foldl_nil]
      go_simp
      refine (SG.out w3 (B1.out.trans (B3.out.mono B1.out.size))).mono ?_
      rintro e4 w4 ⟨rfl, b4⟩
      have B4 := Lib.hid (B3.out.trans (b4.mono B3.out.size))
      refine hK _ _ (Sd.Cl.of B4.out) b4.size (fun _ => b4) ?_
      clear hK K b4 B3 SG
      unfold rec4
      repeat (refine Sf.lit (fun xs => ?_); simp only [Sf.fill, List.foldl_cons, List.foldl_nil]; quiet_step (fail); refine wpQuiet_nil ?_)
      refine Sf.meet (fun g7 w7 hb hc row n7 hH hL => ?_)
      have B7 := Lib.hid (B4.out.trans (hb.mono B4.out.size))
      have R7 : Hid (w7.heap[g7]? = some (.cells (arr4 z4) 71 (0, 0))) := Lib.hid row
      clear hb hc row hH hL B4
      repeat (refine Sf.lit (fun xs => ?_); simp only [Sf.fill, List.foldl_nil]; quiet_step (fail); refine wpQuiet_nil ?_)
      refine Sf.call (fun xs w9 hb hc => ⟨by rfl, fun K hK => ?_⟩)
      have B9 := Lib.hid (B7.out.trans (hb.mono B7.out.size))
      have R9 := (hb.block _ (lt_of_block R7.out)).trans R7.out
      have d0 : w9.cell? ⟨g7, 0, none⟩ = some (.int .u8 0) := row_cell R9 0
      have d1 : w9.cell? ⟨g7, 1, none⟩ = some (.int .u8 0) := row_cell R9 1
      have d2 : w9.cell? ⟨g7, 2, none⟩ = some (.int .u8 0) := row_cell R9 2
      have d3 : w9.cell? ⟨g7, 3, none⟩ = some (.int .u8 0) := row_cell R9 3
      have f0 : w9.frozen? ⟨g7, 0, none⟩ = false := row_frozen R9 0
      have f1 : w9.frozen? ⟨g7, 1, none⟩ = false := row_frozen R9 1
      have f2 : w9.frozen? ⟨g7, 2, none⟩ = false := row_frozen R9 2
      have f3 : w9.frozen? ⟨g7, 3, none⟩ = false := row_frozen R9 3
      have RA := sto4_row R9 gv
      have BA := sto4_below (o := 0) (r := gv) B9.out n7
      have hsz := sto4_size w9 g7 0 gv
      clear hb hc B7 R7 R9
      simp only [Sf.fill, List.foldl_nil]
      go_simp
      refine hK _ _ (Sd.Cl.of BA) (by rw [← hsz]; exact Nat.le_refl _) (fun h => absurd rfl h) ?_
      clear hK K d0 d1 d2 d3 f0 f1 f2 f3 hsz
      show Sf.wpSf _ _ _ _ _ _ _ _ _ _ (sto4 w9 g7 0 gv)
      have B10 := Lib.hid (B1.out.trans (BA.mono B1.out.size))
      have X10 := Lib.hid ((BA.block _ hgW).trans X1.out)
      have R10 := Lib.hid RA
      have F10 := Lib.hid (R1'.out.below BA R1'.out.lt)
      clear BA RA cS x2 x3 B9 B1 X1 CS CV n7 R1' cV
      generalize sto4 w9 g7 0 gv = wA at *
      repeat (refine Sf.lit (fun xs => ?_); simp only [Sf.fill, List.foldl_nil]; quiet_step (fail); refine wpQuiet_nil ?_)
      refine Sf.done (fun wB hb hc => ?_)
      have BB := Lib.hid (B10.out.trans (hb.mono B10.out.size))
      have XB := Lib.hid ((hb.block _ (lt_of_block X10.out)).trans X10.out)
      have RB := Lib.hid ((hb.block _ (lt_of_block R10.out)).trans R10.out)
      have FB := Lib.hid (F10.out.below hb F10.out.lt)
      clear hb hc B10 X10 R10 F10
      cases hb : gb with
      | false =>
        have N2 := Lib.hid (NO.out (by rw [SB.out, hv, hb]; rfl) (wB.setRow w.heap.size (arr lowF)) (below_setRow BB.out _ _ (Nat.le_refl _)))
        clear NO YES SB SX
        go_wp2_with ((with_reducible refine store_frame (o := ⟨none, _, _, _, _, _⟩) rfl _ _ rfl w.heap.size lowF lowF ?_ ?_ FB.out ?_); (exact rfl); (exact rfl))
        (try simp only [Exit.inBlock, Exit.then])
        refine bodyPost_ret (results_fr rfl _ _ _ _ lowF _ rfl rfl rfl (FB.out.row lowF)) rfl ?_
        exact N2.out
      | true =>
        have N2 := Lib.hid (YES.out (by rw [SB.out, hv, hb]; rfl))
        clear NO YES SB
        go_upto_region 7 with fail
        have x4 : wB.cell? ⟨g, 4, none⟩ = some (.int .i64 (j : Int)) := row_cell XB.out 4
        have rj : wB.cell? ⟨g7, j, none⟩ = some (.int .u8 X) := by rw [SX.out]; exact (row_cell RB.out j).trans (arr4_at gv hj)
        have PU := Lib.hid (rput_any wB X false BY.out.1 BY.out.2)
        clear SX XB RB cV ev
        go_wp2_with fail
        refine PU.out.mono ?_
        rintro e w11 ⟨rfl, b11⟩
        have J0 : Hid (FrJ w w11.heap.size (frm X false) (w11.alloc (.cells (arr (frm X false)) 46))) := Lib.hid (by
          have r1 := FB.out.below b11 FB.out.lt
          have b12 := BB.out.trans (b11.mono BB.out.size)
          exact ⟨r1.below ((Below.refl w11.heap.size w11).alloc (Nat.le_refl _) _) r1.lt, Row.new w11 _, r1.lt, b12.alloc b12.size _⟩)
        clear b11 PU FB BB x4 rj
        go_wp2_with ((with_reducible refine store_new (o := ⟨none, _, _, _, _, _⟩) rfl _ _ rfl (frm X false) ?_ ?_ ?_); (exact rfl); (exact rfl))
        generalize (w11.alloc (.cells (arr (frm X false)) 46)) = W12 at *
        generalize w11.heap.size = gf at *
        clear hj BY
        go_loopw [18] (fun i wr => ∃ k : Nat, k ≤ np ∧ i = .int .i64 k ∧ Hid (FrJ w gf (sq P s (frm X false) k) wr)) (fun i _ => np - (intOf i).toNat)
        case atStart => exact ⟨0, Nat.zero_le _, rfl, J0⟩
        case round =>
          obtain ⟨k, hk, rfl, I⟩ := hrel
          clear J0
          by_cases hlt : k < np
          · obtain ⟨b', off', rfl, A1⟩ := HAP.out (by omega)
            obtain ⟨c0, c1⟩ := at2 (A1.below I.out.bel) (i := k) (by have := HNP.out; omega)
            have Y := Lib.hid (sq_yes P s (frm X false) (j := k) (by have := HNP.out; omega))
            have NN := Lib.hid (sq_no P s (frm X false) (j := k) (by have := HNP.out; omega))
            generalize pat P k = z at *
            obtain ⟨z1, z2⟩ := z
            simp only at c0 c1 Y NN
            clear A1
            by_cases h1 : z1 = s
            · have YY := Lib.hid (Y.out h1)
              clear Y NN
              have d1 : (z1 != s) = false := by simpa using h1
              generalize hG : sq P s (frm X false) k = G at *
              have hgt := I.out.gt
              go_upto_region 12 with fail
              clear c0 d1
              have C1 := Lib.hid c1
              have k0 := Sd.cell_by (I.out.row.cell 0 (by omega))
              have k1 := Sd.cell_by (I.out.row.cell 1 (by omega))
              have k2 := Sd.cell_by (I.out.row.cell 2 (by omega))
              have k3 := Sd.cell_by (I.out.row.cell 3 (by omega))
              have k4 := Sd.cell_by (I.out.row.cell 4 (by omega))
              have k5 := Sd.cell_by (I.out.row.cell 5 (by omega))
              have k6 := Sd.cell_by (I.out.row.cell 6 (by omega))
              have k7 := Sd.cell_by (I.out.row.cell 7 (by omega))
              have k8 := Sd.cell_by (I.out.row.cell 8 (by omega))
              have k9 := Sd.cell_by (I.out.row.cell 9 (by omega))
              have k10 := Sd.cell_by (I.out.row.cell 10 (by omega))
              replace c1 := Sd.cell_by c1
              refine Sf.start [(0, 0), (0, 1), (0, 2), (0, 3), (0, 4), (0, 5), (1, 6), (2, 7), (1, 8)] [⟨7, 19, #[.bool false, .bool false, .bool false, .bool false, .bool false, .bool false, .bool false, .bool false, .bool false, .bool false, .bool false], 46⟩] (by kernel_rfl) (by kernel_rfl) (by kernel_rfl) (by decide) (by decide) ?_ ?_ ?_
              · simp
              · intro f hf
                simp only [List.mem_cons, List.not_mem_nil, or_false] at hf
                subst hf
                exact ⟨_, rfl, rfl, rfl, fun ρ w => by go_simp⟩
              dsimp only [Sf.picks, List.getElem?_cons_succ, List.getElem?_cons_zero]
              have BW := Lib.hid ((Below.refl wr.heap.size wr).drew)
              repeat (refine Sf.lit (fun xs => ?_); simp only [Sf.fill, List.foldl_cons, List.foldl_nil]; quiet_step (fail); refine wpQuiet_nil ?_)
              clear k0 k1 k2 k3 k4 k5 k6 k7 k8 k9 k10 c1
              refine Sf.call (fun xs w3 hb hc => ⟨by rfl, fun K hK => ?_⟩)
              have B3 := Lib.hid (BW.out.trans (hb.mono BW.out.size))
              clear hb hc BW
              simp only [Sf.fill, List.foldl_cons, List.foldl_nil]
              go_simp
              have TA := rturn_any w3 G z2
              unfold arr at TA
              refine TA.mono ?_
              rintro e4 w4 ⟨rfl, b4⟩
              have B4 := Lib.hid (B3.out.trans (b4.mono B3.out.size))
              refine hK _ _ (Sd.Cl.of B4.out) b4.size (fun _ => b4) ?_
              clear hK K b4 B3 TA
              refine Sf.meet (fun g7 w7 hb hc row n7 hH hL => ?_)
              have B7 := Lib.hid (B4.out.trans (hb.mono B4.out.size))
              have R7 : Hid (Row w7 g7 lowF) := Lib.hid row
              clear hb hc row hH hL B4
              refine Sf.call (fun xs w9 hb hc => ⟨by rfl, fun K hK => ?_⟩)
              have B9 := Lib.hid (B7.out.trans (hb.mono B7.out.size))
              have R9 := Lib.hid (R7.out.below hb R7.out.lt)
              clear hb hc B7 R7
              simp only [Sf.fill, List.foldl_nil]
              refine wp_store_row 46 _ _ rfl g7 (arr (Ua.turn G z2 11)) rfl rfl 46 _ R9.out (info_of _) rfl (arr_one _) ?_
              have RA := R9.out.row (Ua.turn G z2 11)
              have BA := below_setRow B9.out g7 (arr (Ua.turn G z2 11)) n7
              refine hK _ _ (Sd.Cl.of BA) (by rw [size_setRow]; exact Nat.le_refl _) (fun h => absurd rfl h) ?_
              have I9 := Lib.hid (I.out.below BA)
              have hne : g7 ≠ gf := by have := I.out.row.lt; omega
              have hge : w.heap.size ≤ g7 := Nat.le_trans I.out.bel.size n7
              have hne2 : g7 ≠ w.heap.size := by have := I.out.res.lt; omega
              have R10 := Lib.hid RA
              clear hK K BA RA B9 R9 I n7 C1
              generalize w9.setRow g7 (arr (Ua.turn G z2 11)) = wA at *
              refine Sf.done (fun wB hb hc => ?_)
              have IB := Lib.hid (I9.out.below hb)
              have RB := Lib.hid (R10.out.below hb R10.out.lt)
              clear hb hc I9 R10
              have q0 := IB.out.row.cell 0 (by omega)
              have q1 := RB.out.cell 0 (by omega)
              have q2 := RB.out.frozen 0
              have R2 := Lib.hid ((RB.out.set_ 0 (by omega) (G 0)).to (fun i hi => tn_ref G z2 i hi))
              have I2 : Hid (FrJ w gf G (wB.setCell ⟨g7, 0, none⟩ (.bool (G 0)))) := Lib.hid ⟨IB.out.res.far (by simpa using hne2.symm) _, IB.out.row.far (by simpa using hne.symm) _, IB.out.gt, IB.out.bel.setCell hge _⟩
              go_upto_region 14 with fail
              clear q0 q1 q2 RB IB
              generalize (wB.setCell ⟨g7, 0, none⟩ (.bool (G 0))) = W14 at *
              have I3 := Lib.hid (I2.out.set (tn G z2))
              go_wp2_with (first
                | ((with_reducible refine load_frame (o := ⟨some 79, _, _, _, _, _⟩) rfl _ rfl g7 (tn G z2) ?_ R2.out ?_); (exact rfl))
                | ((with_reducible refine store_frame (o := ⟨none, _, _, _, _, _⟩) rfl _ _ rfl gf (tn G z2) G ?_ ?_ I2.out.row ?_); (exact rfl); (exact rfl)))
              go_roundw
              case rel => exact ⟨k + 1, by omega, by go_num, by rw [YY.out]; exact I3⟩
              case measure => simp [intOf]; omega
            · have I2 : Hid (FrJ w gf (sq P s (frm X false) (k + 1)) wr) := Lib.hid (by rw [NN.out h1]; exact I.out)
              have d1 : (z1 != s) = true := by simpa using h1
              clear Y NN I
              go_wp2
              go_roundw
              case rel => exact ⟨k + 1, by omega, by go_num, I2⟩
              case measure => simp [intOf]; omega
          · obtain rfl : k = np := by omega
            go_upto_region 15 with fail
            clear hlt
            generalize sq P s (frm X false) k = G at *
            have hgt := I.out.gt
            have C0 : RfE w gf G wr.drew := ⟨I.out.row, I.out.bel.trans ((Below.refl wr.heap.size wr).drew.mono I.out.bel.size)⟩
            have RS0 : Row wr.drew w.heap.size lowF := I.out.res
            have k0 := Sc.cell_in (C := fun W => RfE w gf G W) (a := ⟨gf, 0, none⟩) (fun W' h => h.row.cell 0 (by omega))
            have k1 := Sc.cell_in (C := fun W => RfE w gf G W) (a := ⟨gf, 1, none⟩) (fun W' h => h.row.cell 1 (by omega))
            have k2 := Sc.cell_in (C := fun W => RfE w gf G W) (a := ⟨gf, 2, none⟩) (fun W' h => h.row.cell 2 (by omega))
            have k3 := Sc.cell_in (C := fun W => RfE w gf G W) (a := ⟨gf, 3, none⟩) (fun W' h => h.row.cell 3 (by omega))
            have k4 := Sc.cell_in (C := fun W => RfE w gf G W) (a := ⟨gf, 4, none⟩) (fun W' h => h.row.cell 4 (by omega))
            have k5 := Sc.cell_in (C := fun W => RfE w gf G W) (a := ⟨gf, 5, none⟩) (fun W' h => h.row.cell 5 (by omega))
            have k6 := Sc.cell_in (C := fun W => RfE w gf G W) (a := ⟨gf, 6, none⟩) (fun W' h => h.row.cell 6 (by omega))
            have k7 := Sc.cell_in (C := fun W => RfE w gf G W) (a := ⟨gf, 7, none⟩) (fun W' h => h.row.cell 7 (by omega))
            have k8 := Sc.cell_in (C := fun W => RfE w gf G W) (a := ⟨gf, 8, none⟩) (fun W' h => h.row.cell 8 (by omega))
            have k9 := Sc.cell_in (C := fun W => RfE w gf G W) (a := ⟨gf, 9, none⟩) (fun W' h => h.row.cell 9 (by omega))
            have k10 := Sc.cell_in (C := fun W => RfE w gf G W) (a := ⟨gf, 10, none⟩) (fun W' h => h.row.cell 10 (by omega))
            have ne : Nonempty (Sc.In (fun W => RfE w gf G W)) := ⟨⟨_, C0⟩⟩
            refine Sc.start (fun W => RfE w gf G W) [(false, 0), (false, 1), (false, 2), (true, 3), (false, 4)] (by kernel_rfl) (by kernel_rfl) (by kernel_rfl) C0 ?_
            dsimp only [Sd.picks, List.getElem?_cons_succ, List.getElem?_cons_zero]
            repeat (refine Sd.lit ?_; quiet_step (fail); refine wpQuiet_nil ?_)
            refine Sd.call (by rfl) (fun K hK => ?_)
            refine wp_store_row 46 _ _ rfl w.heap.size (arr G) rfl rfl 46 _ RS0 (info_of G) rfl (arr_one G) ?_
            have C1 : RfE w gf G (wr.drew.setRow w.heap.size (arr G)) := ⟨(setRow_other wr.drew w.heap.size gf _ (by omega)).trans C0.row, below_setRow C0.bel _ _ (Nat.le_refl _)⟩
            refine hK _ _ (Sc.Cl.of C1) ?_
            have R2 := Lib.hid (RS0.row G)
            clear hK K k0 k1 k2 k3 k4 k5 k6 k7 k8 k9 k10 C0 I RS0
            generalize wr.drew.setRow w.heap.size (arr G) = W9 at *
            refine Sd.lit ?_
            quiet_step (fail)
            refine wpQuiet_nil ?_
            refine Sd.done ?_
            have C2 := Lib.hid C1
            clear C1
            go_wp2
            (try simp only [Exit.inBlock, Exit.then])
            refine bodyPost_ret (results_fr rfl _ _ _ _ G _ rfl rfl rfl R2.out) rfl ?_
            exact N2.out _ C2.out.bel
  · have SBF : snB S T V s = false := by unfold snB; rw [decide_eq_false h0]; rfl
    have N2 := Lib.hid (NO.out SBF)
    clear NO YES SBF H
    generalize sbN S T V s = a1 at *
    generalize frF S T V P s = a2 at *
    generalize snB S T V s = a3 at *
    generalize sN s T = m at *
    generalize sE s T = x at *
    unfold ent at SA
    go_enter Tryz.func14, Tryz.ntmps14
    go_wp2_with fail
    generalize (w.alloc (.cells #[.bool false, .bool false, .bool false, .bool false, .bool false, .bool false, .bool false, .bool false, .bool false, .bool false, .bool false] 46)) = W0 at *
    refine (SA.out W0 B0.out).mono ?_
    rintro e w1 ⟨rfl, b1⟩
    have B1' := B0.out.trans (b1.mono B0.out.size)
    have B1 := Lib.hid (B1'.alloc B1'.size (.cells #[.int .i64 x.1, .int .i64 x.2.1, .int .i64 x.2.2.1, .int .i64 x.2.2.2.1, .int .i64 x.2.2.2.2] 75))
    have R1 := Lib.hid ((R0.out.below b1 R0.out.lt).below ((Below.refl w1.heap.size w1).alloc (Nat.le_refl _) (.cells #[.int .i64 x.1, .int .i64 x.2.1, .int .i64 x.2.2.1, .int .i64 x.2.2.2.1, .int .i64 x.2.2.2.2] 75)) (R0.out.below b1 R0.out.lt).lt)
    have hm0 : m < 0 := by omega
    clear b1 SA B1'
    go_wp2_with ((with_reducible refine store_frame (o := ⟨none, _, _, _, _, _⟩) rfl _ _ rfl w.heap.size lowF lowF ?_ ?_ R1.out ?_); (exact rfl); (exact rfl))
    (try simp only [Exit.inBlock, Exit.then])
    refine bodyPost_ret (results_fr rfl _ _ _ _ lowF _ rfl rfl rfl (R1.out.row lowF)) rfl ?_
    exact N2.out _ (below_setRow B1.out _ _ (Nat.le_refl _))

end Go.Proofs.YtilacdjekdngkaaGreatDoor.Pa

/- part.received: of each place, the entries that receive it. -/
namespace Go.Proofs.YtilacdjekdngkaaGreatDoor.Pa
open Go.RowKit Go.Maps
open Go.Proofs.YtilacdjekdngkaaGreatDoor.Fs (Wf law keyI Rh)
open Go.Proofs.YtilacdjekdngkaaGreatDoor.Rw (Rd Ow At)
open Go.Proofs.YtilacdjekdngkaaGreatDoor.Fl (row_cell row_frozen)
open Go.Proofs.YtilacdjekdngkaaGreatDoor.Ro (E5 z5 eat K5 at5 okE okB ok_yes ent good_any okE_bounds)
set_option maxRecDepth 100000
attribute [local irreducible] Sd.wpSd wpQuiet

structure RcI (w : World) (t : List E5) (k : Nat) (N : Nat) (vs : Int → Int → Value) (D : DataW Value) (wr : World) : Prop where
  gm : Gm wr w.heap.size N (t.take k) vs D
  le : N ≤ k
  bel : Below w.heap.size w wr
theorem RcI.below {w : World} {t : List E5} {k N : Nat} {vs : Int → Int → Value} {D : DataW Value} {wr wr' : World} (h : Hid (RcI w t k N vs D wr)) (b : Below wr.heap.size wr wr') : Hid (RcI w t k N vs D wr') := ⟨h.out.gm.below b, h.out.le, h.out.bel.trans (b.mono h.out.bel.size)⟩
def RecdPost (w : World) (t : List E5) (e : Ending) (w' : World) : Prop := ∃ b N vs D, e = .returned (.map (some b)) ∧ Gm w' b N t vs D ∧ w.heap.size ≤ b ∧ N ≤ t.length ∧ Below w.heap.size w w'
theorem Gm.to {w : World} {b N : Nat} {t t' : List E5} {vs : Int → Int → Value} {D : DataW Value} (h : Gm w b N t vs D) (e : ∀ f r, grp t f r = grp t' f r) : Gm w b N t' vs D :=
  ⟨h.own, fun f r hf hr => by rw [← e f r]; exact h.has f r hf hr, fun f r hf hr hg => h.val f r hf hr (by rw [e f r]; exact hg), fun f r hg => h.nil f r (by rw [e f r]; exact hg), fun f r => by rw [← e f r]; exact h.row f r, h.far⟩
theorem below_of (b : Nat) {w w1 w2 : World} {q : Option Nat} (h : Below b w w1) (hg : w1.grownBy w2 q) (hq : ∀ k, q = some k → b ≤ k) (hb : b ≤ w1.heap.size) : Below b w w2 := h.grown hg hb hq

set_option maxHeartbeats 400000 in
theorem received_any (w : World) (v : Value) (t : List E5) (R : Rd K5 w v t) (ok : ∀ x ∈ t, okE x) (hl : t.length ≤ 1000) : Calls Tryz.prog 42 #[v] w (RecdPost w t) := by
  have OK : Hid (∀ k, k < t.length → okE (eat t k)) := fun k hk => ok _ (Ro.eat_mem hk)
  have hmm := @run_makeMap Tryz.prog
  have G0 : Hid (RcI w t 0 0 (fun _ _ => .slice none 0 0) (.map []) (w.alloc (.map #[] 0))) := ⟨gm_new w, Nat.le_refl _, (Below.refl w.heap.size w).alloc (Nat.le_refl _) _⟩
  obtain ⟨a, cap, rfl, _, hm, hA⟩ := R
  have HA := Lib.hid hA
  clear hA ok
  generalize hn : t.length = n at *
  have HN := Lib.hid hn
  clear hn
  go_enter Tryz.func42, Tryz.ntmps42
  go_wp2
  clear hmm
  go_loopw [10] (fun i wr => ∃ (k : Nat) (N : Nat) (vs : Int → Int → Value) (D : DataW Value), k ≤ n ∧ i = .int .i64 k ∧ Hid (RcI w t k N vs D wr)) (fun i _ => n - (intOf i).toNat)
  case atStart => exact ⟨0, 0, _, _, Nat.zero_le _, rfl, G0⟩
  case round =>
    obtain ⟨k, N, vs, D, hk, rfl, I⟩ := hrel
    clear G0
    by_cases hlt : k < n
    · obtain ⟨b, off, rfl, A⟩ := HA.out (by omega)
      obtain ⟨c0, c1, c2, c3, c4⟩ := at5 (A.below I.out.bel) k (by have := HN.out; omega)
      rw [show t.getD k z5 = eat t k from rfl] at c0 c1 c2 c3 c4
      have oke := OK.out k (by have := HN.out; omega)
      have TK := Lib.hid (take_eat (t := t) (j := k) (by have := HN.out; omega))
      have NO : Hid ((eat t k).1 ≠ 2 → Hid (RcI w t (k + 1) N vs D wr)) := fun h => ⟨I.out.gm.to (fun f r => by rw [TK.out, grp_snoc, if_neg]; simp [mt, h]), by have := I.out.le; omega, I.out.bel⟩
      clear A OK
      generalize eat t k = x at *
      obtain ⟨q, s, f, r, y⟩ := x
      simp only at c0 c1 c2 c3 c4 NO
      have GA := Lib.hid (fun w => good_any w (q, s, f, r, y))
      rw [ok_yes oke] at GA
      unfold ent at GA
      simp only at GA
      have OKE := Lib.hid oke
      clear oke
      by_cases h2 : q = 2
      · clear NO
        subst h2
        obtain ⟨_, _, ⟨f0, f1⟩, ⟨r0, r1⟩, _⟩ := okE_bounds OKE.out
        simp only at f0 f1 r0 r1
        have WF := Lib.hid (wf_of (n := f) ⟨f0, by omega⟩)
        have WR := Lib.hid (wf_of (n := r) ⟨r0, by omega⟩)
        clear f0 f1 r0 r1
        go_wp2_with fail
        refine (GA.out _).mono ?_
        rintro e w1 ⟨rfl, b1⟩
        have X1 : Hid (w1.heap[wr.heap.size]? = some (.cells #[.int .i64 2, .int .i64 s, .int .i64 f, .int .i64 r, .int .i64 y] 75 (0, 0))) := Lib.hid ((b1.block _ (by simp)).trans (heap_alloc_new wr _))
        have B1 : Hid (Below wr.heap.size wr w1) := Lib.hid (((Below.refl wr.heap.size wr).alloc (Nat.le_refl _) _).trans (b1.mono (by simp)))
        have x2 : w1.cell? ⟨wr.heap.size, 2, none⟩ = some (.int .i64 f) := row_cell X1.out 2
        have x3 : w1.cell? ⟨wr.heap.size, 3, none⟩ = some (.int .i64 r) := row_cell X1.out 3
        clear b1 c0 c1 c2 c3 c4 GA
        go_upto_region 7 with fail
        have P2 : Hid ((w1.alloc (.cells #[.int .i64 f, .int .i64 r] 113)).heap[w1.heap.size]? = some (.cells #[.int .i64 f, .int .i64 r] 113 (0, 0))) := Lib.hid (heap_alloc_new w1 _)
        have B2 : Hid (Below w1.heap.size w1 (w1.alloc (.cells #[.int .i64 f, .int .i64 r] 113))) := Lib.hid ((Below.refl w1.heap.size w1).alloc (Nat.le_refl _) _)
        clear x2 x3
        generalize (w1.alloc (.cells #[.int .i64 f, .int .i64 r] 113)) = W at *
        have X2 := Lib.hid ((B2.out.block _ (lt_of_block X1.out)).trans X1.out)
        have GB := Lib.hid (B1.out.trans (B2.out.mono B1.out.size))
        have hgw : w1.heap.size < W.heap.size := lt_of_block P2.out
        generalize w1.heap.size = g2 at *
        clear B1 B2 X1
        have p0 : W.cell? ⟨g2, 0, none⟩ = some (.int .i64 f) := row_cell P2.out 0
        have p1 : W.cell? ⟨g2, 1, none⟩ = some (.int .i64 r) := row_cell P2.out 1
        have x0 : W.cell? ⟨wr.heap.size, 0, none⟩ = some (.int .i64 2) := row_cell X2.out 0
        have x1 : W.cell? ⟨wr.heap.size, 1, none⟩ = some (.int .i64 s) := row_cell X2.out 1
        have x2 : W.cell? ⟨wr.heap.size, 2, none⟩ = some (.int .i64 f) := row_cell X2.out 2
        have x3 : W.cell? ⟨wr.heap.size, 3, none⟩ = some (.int .i64 r) := row_cell X2.out 3
        have x4 : W.cell? ⟨wr.heap.size, 4, none⟩ = some (.int .i64 y) := row_cell X2.out 4
        have bL := (Below.refl W.heap.size W).alloc (Nat.le_refl _) (.cells #[.int .i64 2, .int .i64 s, .int .i64 f, .int .i64 r, .int .i64 y] 75)
        have GM := (I.out.gm.below (GB.out.trans (bL.mono (GB.out.size)))).step (x := (2, s, f, r, y)) (by have := I.out.le; unfold maxLen; omega) rfl WF.out WR.out
        obtain ⟨st, w2, hE, hg2, hz2, hS⟩ := GM
        simp only at hE hS
        have hwb : w.heap.size < wr.heap.size := I.out.gm.own.lt
        have hr2 := World.ownsRow.kept (World.ownsRow.alloc ((I.out.gm.row f r).keep GB.out) (.cells #[.int .i64 2, .int .i64 s, .int .i64 f, .int .i64 r, .int .i64 y] 75)) hg2 (.inr fun e => by have := World.ownsRow.lt (I.out.gm.row f r) _ e; omega)
        have L2 : Hid (w2.heap[W.heap.size]? = some (.cells #[.int .i64 2, .int .i64 s, .int .i64 f, .int .i64 r, .int .i64 y] 75 (0, 0))) := Lib.hid ((hg2.block _ (by simp) (fun e => by have := Option.some.inj e; have := GB.out.size; omega)).trans (heap_alloc_new W _))
        have hz3 : W.heap.size + 1 = w2.heap.size := by rw [hz2]; simp
        have BW : Hid (Below w.heap.size w w2) := Lib.hid (((I.out.bel.trans (GB.out.mono I.out.bel.size)).alloc (by have := GB.out.size; omega) (.cells #[.int .i64 2, .int .i64 s, .int .i64 f, .int .i64 r, .int .i64 y] 75)).grown hg2 (by have := GB.out.size; simp; omega) (fun k e => by injection e with e; omega))
        have O2 : Hid (Ow K5 w2 (w.heap.size + 1) 75 (vs f r) (grp (t.take k) f r)) := Lib.hid hr2
        have gw := GB.out.size
        have HX := Lib.hid (And.intro hwb (And.intro hz3 gw))
        have GX := Lib.hid hS
        obtain ⟨av, cv, ev, _⟩ := O2.out.slice
        generalize hgl : (grp (t.take k) f r).length = gl at ev
        have HGL := Lib.hid hgl
        have EV := Lib.hid ev
        unfold plc at hE
        rw [ev] at hE O2
        clear hg2 hz2 hS bL hr2 hwb hz3 gw ev hgl
        go_wp2_with (at_builtin; refine push_group rfl _ _ rfl (w.heap.size + 1) _ _ rfl O2.out _ ((2, s, f, r, y) : E5) rfl ?d1 ?d2 ?d3 ?_)
        case d1 =>
          intro j u hu
          match j, hu with
          | 0, hu => simp [K5] at hu; subst hu; exact row_cell L2.out 0
          | 1, hu => simp [K5] at hu; subst hu; exact row_cell L2.out 1
          | 2, hu => simp [K5] at hu; subst hu; exact row_cell L2.out 2
          | 3, hu => simp [K5] at hu; subst hu; exact row_cell L2.out 3
          | 4, hu => simp [K5] at hu; subst hu; exact row_cell L2.out 4
          | j + 5, hu => simp [K5] at hu
        case d2 => 
          have := List.length_filter_le (mt f r) (t.take k)
          have h2 : (t.take k).length ≤ 1000 := by rw [List.length_take]; have := HN.out; omega
          unfold grp
          omega
        case d3 => have := HX.out; omega
        intro v' w3 o3 g3 h3
        have hS := GX.out
        rw [EV.out] at hS
        obtain ⟨w4, D', hS4, g4, G4⟩ := hS w3 v' g3 o3 (h3.imp id fun ⟨g, e, h⟩ => ⟨g, e, h⟩)
        obtain ⟨av', cv', ev', _⟩ := o3.slice
        generalize (grp (t.take k) f r ++ [((2, s, f, r, y) : E5)]).length = gl' at ev'
        subst ev'
        have NEW : Hid (RcI w t (k + 1) (N + 1) (upP vs f r (.slice av' gl' cv')) D' w4) := Lib.hid ⟨by rw [TK.out]; exact G4, by have := I.out.le; omega, (BW.out.grown g3 (by have := HX.out; omega) (fun k e => by have := World.ownsRow.lt O2.out k e; omega)).grown g4 (by have := HX.out; have := g3.size; omega) (fun k e => by injection e with e; omega)⟩
        clear hS o3 g3 h3 g4 G4 hE
        go_wp2
        go_roundw
        case rel => exact ⟨k + 1, N + 1, _, D', by omega, by go_num, NEW⟩
        case measure => simp [intOf]; omega
      · have NN := NO.out h2
        clear NO
        have d2 : (q == 2) = false := by simpa using h2
        clear h2
        go_wp2
        go_roundw
        case rel => exact ⟨k + 1, N, vs, D, by omega, by go_num, RcI.below NN ((Below.refl wr.heap.size wr).alloc (Nat.le_refl _) _)⟩
        case measure => simp [intOf]; omega
    · obtain rfl : k = n := by omega
      have E : Hid (RecdPost w t (.returned (.map (some w.heap.size))) wr) := ⟨_, N, vs, D, rfl, by have h := I.out.gm; rw [← HN.out, List.take_length] at h; exact h, Nat.le_refl _, by have := I.out.le; have := HN.out; omega, I.out.bel⟩
      go_wp2
      go_ret
      exact E.out

end Go.Proofs.YtilacdjekdngkaaGreatDoor.Pa

/- part.receive: a record as its entries heard it. -/
namespace Go.Proofs.YtilacdjekdngkaaGreatDoor.Pa
open Go.RowKit Go.Maps
open Go.Proofs.YtilacdjekdngkaaGreatDoor.Fs (Abs St Only Fx Wf Rh gB gV sA sB set_any SetPost get_st GetPost)
open Go.Proofs.YtilacdjekdngkaaGreatDoor.Rw (Rd Ow At)
open Go.Proofs.YtilacdjekdngkaaGreatDoor.Ro (E5 z5 eat K5 at5 okE ent)
open Go.Proofs.YtilacdjekdngkaaGreatDoor.Fl (R4 z4 rec4 okR arr4 row_cell row_frozen)
set_option maxRecDepth 100000
attribute [local irreducible] Sd.wpSd wpQuiet

theorem arr4_set (v : R4) (x : Int) {j : Nat} (hj : j < 4) : (arr4 v).setIfInBounds j (.int .u8 x) = arr4 (rs v j x) := by
  obtain rfl | rfl | rfl | rfl : j = 0 ∨ j = 1 ∨ j = 2 ∨ j = 3 := by omega
  all_goals rfl
theorem arr4_get (v : R4) {j : Nat} (hj : j < 4) : (arr4 v)[j]? = some (.int .u8 (rb v j)) := by
  obtain rfl | rfl | rfl | rfl : j = 0 ∨ j = 1 ∨ j = 2 ∨ j = 3 := by omega
  all_goals rfl
structure RvI (w : World) (f r : Int) (gv : Nat) (v : R4) (wr : World) : Prop where
  bel : Below w.heap.size w wr
  box : wr.heap[w.heap.size]? = some (.cells #[.int .i64 f, .int .i64 r] 113 (0, 0))
  cel : wr.heap[gv]? = some (.cells (arr4 v) 71 (0, 0))
  gt : w.heap.size < gv
theorem RvI.below {w wr wr' : World} {f r : Int} {gv : Nat} {v : R4} (h : RvI w f r gv v wr) (b : Below wr.heap.size wr wr') : RvI w f r gv v wr' :=
  ⟨h.bel.trans (b.mono h.bel.size), (b.block _ (lt_of_block h.box)).trans h.box, (b.block _ (lt_of_block h.cel)).trans h.cel, h.gt⟩
theorem RvI.put {w wr : World} {f r : Int} {gv : Nat} {v : R4} (h : RvI w f r gv v wr) {j : Nat} (hj : j < 4) (x : Int) : RvI w f r gv (rs v j x) (wr.setCell ⟨gv, j, none⟩ (.int .u8 x)) :=
  ⟨h.bel.setCell (by have := h.gt; simp; omega) _, (Below.heap_setCell _ _ _ _ (by have := h.gt; simp; omega)).trans h.box, by rw [Rw.heap_setCell_same h.cel, arr4_set v x hj], h.gt⟩
def RcvPost (w : World) (s : Nat) (F : Nat → Prop) (d : Int) (A' : Abs) (e : Ending) (w' : World) : Prop := e = .returned (.tuple #[]) ∧ St w' s (Fx F w w') A' d ∧ Only F w w'
theorem mix_next {h : Hr} {l : List E5} {k : Nat} (hk : k < l.length) (v : R4) : mix h (l.take (k + 1)) v = rs (mix h (l.take k) v) (eat l k).2.2.2.2 ((h (eat l k).2.1).getD 0) := by
  unfold mix
  rw [take_eat hk, List.foldl_append]
  rfl

set_option maxHeartbeats 400000 in
theorem receive_any {w : World} {s : Nat} {F : Nat → Prop} {A : Abs} {d : Int} (S : St w s F A d) {f r : Int} (hf : Wf f) {v hv : Value} {l : List E5} (R : Rd K5 w v l) {h : Hr} (M : HMap w hv h) (hh : okH h) (hl : ∀ x ∈ l, Wf x.2.1 ∧ 0 ≤ x.2.2.2.2 ∧ x.2.2.2.2 ≤ 3) :
    Calls Tryz.prog 43 #[.pointer (some ⟨s, 0, none⟩), .agg #[.int .i64 f, .int .i64 r], v, hv] w (RcvPost w s F d (rcv1 h l f r A)) := by
  have HL : Hid (∀ k, k < l.length → Wf (eat l k).2.1 ∧ 0 ≤ (eat l k).2.2.2.2 ∧ (eat l k).2.2.2.2 ≤ 3) := fun k hk => hl _ (Ro.eat_mem hk)
  have G1 := Lib.hid (fun W (b : Below w.heap.size w W) => get_st (S.below b) hf r)
  have ok0 : okR (gV A f r) := by
    have hA := S.okA
    unfold gV
    split
    · exact Fl.okR_z
    · rename_i e he
      split
      · exact Fl.okR_at (hA.find he).2.2.1 _
      · exact Fl.okR_z
  have FIN : Hid (gB A f r = true → (∀ k, k < l.length → (h (eat l k).2.1).isSome = true) → rcv1 h l f r A = sA A f r (mix h l (gV A f r))) := fun hg ha => by
    unfold rcv1
    rw [if_pos]
    rw [hg, Bool.true_and]
    unfold allH
    rw [List.all_eq_true]
    intro x hx
    obtain ⟨k, hk, e⟩ := List.getElem_of_mem hx
    have e' : eat l k = x := by rw [← e]; unfold eat; rw [List.getD_eq_getElem?_getD, List.getElem?_eq_getElem hk]; rfl
    rw [← e']
    exact ha k hk
  have NOG : Hid (gB A f r = false → rcv1 h l f r A = A) := fun hg => by unfold rcv1; rw [if_neg (by simp [hg])]
  have NOH : Hid (∀ k, k < l.length → h (eat l k).2.1 = none → rcv1 h l f r A = A) := fun k hk e => by
    unfold rcv1
    rw [if_neg]
    intro ha
    rw [Bool.and_eq_true] at ha
    have := List.all_eq_true.1 ha.2 _ (Ro.eat_mem hk)
    rw [e] at this
    cases this
  have SET := Lib.hid (fun W (b : Below w.heap.size w W) => set_any (S.below b) hf r (mix h l (gV A f r)) (mix_ok hh l ok0))
  have SAME : Hid (∀ W, Below w.heap.size w W → rcv1 h l f r A = A → RcvPost w s F d (rcv1 h l f r A) (.returned (.tuple #[])) W) := fun W b e => ⟨rfl, by rw [e]; exact S.fx b, Only.of_below b⟩
  have END : Hid (∀ W W' x b, Below w.heap.size w W → rcv1 h l f r A = sA A f r x → SetPost W s F d b (sA A f r x) (.returned (.bool b)) W' → RcvPost w s F d (rcv1 h l f r A) (.returned (.tuple #[])) W') := fun W W' x b hb e ⟨_, q1, q2⟩ => by
    have o := (Only.of_below (G := F) hb).trans q2 fun _ _ g => g
    exact ⟨rfl, by rw [e]; exact q1.wide (fun k hk => by
      rcases hk with hk | ⟨hk, hk2⟩
      · exact .inl hk
      · exact .inr ⟨Nat.le_trans hb.size hk, hk2⟩) (Fx.low S.low o.size), o⟩
  have MM := Lib.hid M
  obtain ⟨a, cap, rfl, _, hm, hA⟩ := R
  have HA := Lib.hid hA
  unfold maxLen at hm
  clear hA hl S M hh ok0
  generalize hn : l.length = n at *
  have HN := Lib.hid hn
  clear hn
  generalize gV A f r = v0 at *
  have P0 : Hid ((w.alloc (.cells #[.int .i64 f, .int .i64 r] 113)).heap[w.heap.size]? = some (.cells #[.int .i64 f, .int .i64 r] 113 (0, 0))) := heap_alloc_new w _
  have B0 : Hid (Below w.heap.size w (w.alloc (.cells #[.int .i64 f, .int .i64 r] 113))) := (Below.refl w.heap.size w).alloc (Nat.le_refl _) _
  go_enter Tryz.func43, Tryz.ntmps43
  go_wp2_with fail
  generalize (w.alloc (.cells #[.int .i64 f, .int .i64 r] 113)) = W at *
  unfold GetPost at G1
  unfold rec4 at G1
  refine (G1.out W B0.out).mono ?_
  rintro e w1 ⟨rfl, b1⟩
  have I0 : Hid (RvI w f r w1.heap.size v0 (w1.alloc (.cells #[.int .u8 v0.1, .int .u8 v0.2.1, .int .u8 v0.2.2.1, .int .u8 v0.2.2.2] 71))) := by
    have b2 := B0.out.trans (b1.mono B0.out.size)
    have p1 := (b1.block _ (lt_of_block P0.out)).trans P0.out
    exact ⟨b2.alloc b2.size _, ((Below.refl w1.heap.size w1).alloc (Nat.le_refl _) _ |>.block _ (lt_of_block p1)).trans p1, heap_alloc_new w1 _, lt_of_block p1⟩
  clear P0 B0 b1 G1
  cases hg : gB A f r with
  | false =>
    have RES := Lib.hid (fun W b => SAME.out W b (NOG.out hg))
    clear SAME NOG FIN NOH END SET hg
    go_wp2
    refine bodyPost_ret (results_none rfl _ _ _) rfl ?_
    exact RES.out _ I0.out.bel
  | true =>
    have FN := Lib.hid (FIN.out hg)
    clear NOG FIN hg
    go_upto_region 3 with fail
    have hgv := I0.out.gt
    generalize (w1.alloc (.cells #[.int .u8 v0.1, .int .u8 v0.2.1, .int .u8 v0.2.2.1, .int .u8 v0.2.2.2] 71)) = W0 at *
    generalize w1.heap.size = gv at *
    go_wp2
    go_loopw [27] (fun i wr => ∃ k : Nat, k ≤ n ∧ i = .int .i64 k ∧ Hid (RvI w f r gv (mix h (l.take k) v0) wr) ∧ Hid (∀ j, j < k → (h (eat l j).2.1).isSome = true)) (fun i _ => n - (intOf i).toNat)
    case atStart => exact ⟨0, Nat.zero_le _, rfl, I0, fun j hj => by omega⟩
    case round =>
      obtain ⟨k, hk, rfl, I, HS⟩ := hrel
      clear I0
      by_cases hlt : k < n
      · obtain ⟨b, off, rfl, A1⟩ := HA.out (by omega)
        obtain ⟨c0, c1, c2, c3, c4⟩ := at5 (A1.below I.out.bel) k (by have := HN.out; omega)
        rw [show l.getD k z5 = eat l k from rfl] at c0 c1 c2 c3 c4
        obtain ⟨ws, y0, y3⟩ := HL.out k (by have := HN.out; omega)
        have MX := Lib.hid (mix_next (h := h) (l := l) (k := k) (by have := HN.out; omega) v0)
        have NH : Hid (h (eat l k).2.1 = none → rcv1 h l f r A = A) := fun e => NOH.out k (by have := HN.out; omega) e
        have SN : Hid ((h (eat l k).2.1).isSome = true → ∀ j, j < k + 1 → (h (eat l j).2.1).isSome = true) := fun g j hj => by
          by_cases e : j = k
          · rw [e]; exact g
          · exact HS.out j (by omega)
        clear A1 HS
        generalize eat l k = x at *
        obtain ⟨q, s', f', r', y⟩ := x
        simp only at c0 c1 c2 c3 c4 ws y0 y3 MX NH SN
        obtain ⟨j, rfl⟩ : ∃ j : Nat, y = j := ⟨y.toNat, by omega⟩
        have hj : j < 4 := by omega
        have WS := Lib.hid ws
        generalize mix h (l.take k) v0 = vv at *
        have I1 : Hid (RvI w f r gv vv (wr.alloc (.cells #[.int .i64 q, .int .i64 s', .int .i64 f', .int .i64 r', .int .i64 (j : Int)] 75))) := I.out.below ((Below.refl wr.heap.size wr).alloc (Nat.le_refl _) _)
        have M1 := Lib.hid (MM.out.below I1.out.bel)
        have hfz := row_frozen I1.out.cel j
        have hcj := (row_cell I1.out.cel j).trans (arr4_get vv hj)
        clear ws y0 y3
        cases hs : h s' with
        | none =>
          have RES := Lib.hid (SAME.out _ I1.out.bel (NH.out hs))
          clear SAME NH NOH SN MX FN SET END
          go_wp2_with (at_lookup; refine at_heard rfl _ _ rfl rfl M1.out s' rfl WS.out 0 false (by rw [hs]; rfl) (by rw [hs]; rfl) ?_)
          refine bodyPost_ret (results_none rfl _ _ _) rfl ?_
          exact RES.out
        | some y =>
          have SS := Lib.hid (SN.out (by rw [hs]; rfl))
          have MY : Hid (mix h (l.take (k + 1)) v0 = rs vv j y) := by rw [MX.out, hs]; exact Lib.hid rfl
          have I2 := Lib.hid (I1.out.put hj y)
          clear NH NOH SN MX
          go_wp2_with (at_lookup; refine at_heard rfl _ _ rfl rfl M1.out s' rfl WS.out y true (by rw [hs]; rfl) (by rw [hs]; rfl) ?_)
          go_roundw
          case rel => exact ⟨k + 1, by omega, by go_num, by rw [MY.out]; exact I2, SS⟩
          case measure => simp [intOf]; omega
      · obtain rfl : k = n := by omega
        have TK : l.take k = l := by rw [← HN.out, List.take_length]
        rw [TK] at I
        have EQ := Lib.hid (FN.out (fun j hj => HS.out j (by have := HN.out; omega)))
        have ED := Lib.hid (fun W' b q => END.out wr W' (mix h l v0) b I.out.bel EQ.out q)
        have ST := Lib.hid (SET.out wr I.out.bel)
        have p0 : wr.cell? ⟨w.heap.size, 0, none⟩ = some (.int .i64 f) := row_cell I.out.box 0
        have p1 : wr.cell? ⟨w.heap.size, 1, none⟩ = some (.int .i64 r) := row_cell I.out.box 1
        have q0 := row_cell I.out.cel 0
        have q1 := row_cell I.out.cel 1
        have q2 := row_cell I.out.cel 2
        have q3 := row_cell I.out.cel 3
        unfold arr4 at q0 q1 q2 q3
        unfold rec4 at ST
        clear HS FN NOH SAME SET END EQ TK
        generalize mix h l v0 = vv at *
        go_wp2_with fail
        refine ST.out.mono ?_
        rintro e w2 ⟨rfl, q1, q2⟩
        have RES := Lib.hid (ED.out w2 false ⟨rfl, q1, q2⟩)
        clear q1 q2 ED
        go_wp2
        go_end0
        exact RES.out

end Go.Proofs.YtilacdjekdngkaaGreatDoor.Pa

/- part.Apply: a node's store behind a round. -/
namespace Go.Proofs.YtilacdjekdngkaaGreatDoor.Pa
open Go.RowKit Go.Maps
open Go.Proofs.YtilacdjekdngkaaGreatDoor.Fs (Abs St Only Fx Wf Rh gB gV sA sB dA dD dE OkA copy_any CopySt dos_any DoSPost Glob rd_only)
open Go.Proofs.YtilacdjekdngkaaGreatDoor.Rw (Rd Ow At)
open Go.Proofs.YtilacdjekdngkaaGreatDoor.Ro (E5 z5 eat K5 at5 okE ent okE_bounds)
open Go.Proofs.YtilacdjekdngkaaGreatDoor.Fl (R4 z4 rec4 okR arr4 row_cell row_frozen)
set_option maxRecDepth 100000
attribute [local irreducible] Sd.wpSd wpQuiet

theorem ranges_kept {w w' : World} {b r n : Nat} {D : DataW Value} {left : Lit → Bool} {cnt : Nat} (h : w.ranges Tryz.prog 113 Rh b r n D left cnt) (hb : w'.heap[b]? = w.heap[b]?) (hr : w'.heap[r]? = w.heap[r]?) : w'.ranges Tryz.prog 113 Rh b r n D left cnt := by
  obtain ⟨es, clock, since, seen, c0, q1, q2, q3, q4, q5, q6⟩ := h
  exact ⟨es, clock, since, seen, c0, hb.trans q1, q2, q3, q4, hr.trans q5, q6⟩
def Vis (t : List E5) (left : Lit → Bool) (n k : Int) : Bool := decide (grp t n k ≠ []) && !left (pk n k)
/-- What stays through the first loop: the map of places, and its slices, lie between two bounds. -/
structure Fixed (w : World) (t : List E5) (b r N B0 B1 : Nat) (vs : Int → Int → Value) (D : DataW Value) : Prop where
  has : ∀ f r, Wf f → Wf r → Maps.has D (pk f r) = decide (grp t f r ≠ [])
  val : ∀ f r, Wf f → Wf r → grp t f r ≠ [] → ∀ z, D.atKey (pk f r) z = .held (vs f r)
  in_ : ∀ f r k, (vs f r).ownBlock = some k → B0 ≤ k ∧ k < B1
  inb : B0 ≤ b ∧ b < B1
  inr : B0 ≤ r ∧ r < B1
  le : w.heap.size ≤ B0
/-- What the first loop holds. -/
structure AI (w : World) (t : List E5) (h : Hr) (A : Abs) (d : Int) (b r N B0 B1 : Nat) (vs : Int → Int → Value) (D : DataW Value) (g : Nat) (wr : World) (left : Lit → Bool) (cnt : Nat) (F : Nat → Prop) : Prop where
  rg : wr.ranges Tryz.prog 113 Rh b r N D left cnt
  has : ∀ kl, left kl = true → Maps.has D kl = true
  st : St wr g F (recV h t (Vis t left) A) d
  row : ∀ f r, Rd K5 wr (vs f r) (grp t f r)
  lo : ∀ k, F k → w.heap.size ≤ k
  off : ∀ k, F k → k < B0 ∨ B1 ≤ k
  sz : B1 ≤ wr.heap.size
  bel : Below w.heap.size w wr
def ApPost (w : World) (x : Abs × Int) (e : Ending) (w' : World) : Prop := ∃ g F, e = .returned (ptr g) ∧ St w' g F x.1 x.2 ∧ (∀ k, F k → w.heap.size ≤ k) ∧ Below w.heap.size w w'
theorem grp_wf {t : List E5} (ok : ∀ x ∈ t, okE x) {n k : Int} (h : grp t n k ≠ []) : Wf n ∧ Wf k := by
  obtain ⟨x, hx⟩ := List.exists_mem_of_ne_nil _ h
  obtain ⟨h1, h2⟩ := List.mem_filter.1 hx
  obtain ⟨_, _, q1, q2, _⟩ := okE_bounds (ok x h1)
  simp only [mt, decide_eq_true_eq] at h2
  rw [← h2.2.1, ← h2.2.2]
  exact ⟨wf_of (by omega), wf_of (by omega)⟩
theorem grp_y {t : List E5} (ok : ∀ x ∈ t, okE x) (n k : Int) : okY (grp t n k) := fun x hx => by
  obtain ⟨_, _, _, _, q⟩ := okE_bounds (ok x (List.mem_filter.1 hx).1)
  exact q
theorem grp_r {t : List E5} (ok : ∀ x ∈ t, okE x) {n k : Int} (h : grp t n k ≠ []) : k ≠ 0 := by
  obtain ⟨x, hx⟩ := List.exists_mem_of_ne_nil _ h
  obtain ⟨h1, h2⟩ := List.mem_filter.1 hx
  simp only [mt, decide_eq_true_eq] at h2
  have := ok x h1
  unfold okE Ro.place at this
  omega
theorem grp_h {t : List E5} (ok : ∀ x ∈ t, okE x) (n k : Int) : ∀ x ∈ grp t n k, Wf x.2.1 ∧ 0 ≤ x.2.2.2.2 ∧ x.2.2.2.2 ≤ 3 := fun x hx => by
  obtain ⟨_, q1, _, _, q⟩ := okE_bounds (ok x (List.mem_filter.1 hx).1)
  exact ⟨wf_of (by omega), q⟩
theorem vis_next {t : List E5} (ok : ∀ x ∈ t, okE x) {left : Lit → Bool} {f r : Int} (hf : Wf f) (hr : Wf r) (hl : left (pk f r) = true) (hg : grp t f r ≠ []) {h : Hr} {A : Abs} (hA : OkA A) :
    rcv1 h (grp t f r) f r (recV h t (Vis t left) A) = recV h t (Vis t fun z => left z && !z.sameKey (pk f r)) A := by
  rw [rcv1_next hA (grp_r ok hg) (grp_y ok f r)]
  refine rec_congr fun n k hnk => ?_
  obtain ⟨hn, hk⟩ := grp_wf ok hnk
  unfold also Vis
  by_cases e : n = f ∧ k = r
  · obtain ⟨rfl, rfl⟩ := e
    have : (pk n k).sameKey (pk n k) = true := by simp [pk, Lit.sameKey]
    simp [hnk, this]
  · have : (pk n k).sameKey (pk f r) = false := sameKey_ne fun e2 => e (pk_inj hn hk hf hr e2)
    simp [this, e]
theorem vis_start {t : List E5} (ok : ∀ x ∈ t, okE x) {D : DataW Value} (hD : ∀ f r, Wf f → Wf r → Maps.has D (pk f r) = decide (grp t f r ≠ [])) (h : Hr) (A : Abs) : recV h t (Vis t (Maps.has D)) A = A := by
  rw [rec_congr (V' := fun _ _ => false) fun n k hnk => ?_]
  · exact rec_none fun _ _ => rfl
  · obtain ⟨hn, hk⟩ := grp_wf ok hnk
    unfold Vis
    rw [hD n k hn hk]
    simp [hnk]
theorem vis_end {t : List E5} {left : Lit → Bool} (hl : ∀ kl, left kl = false) (h : Hr) (A : Abs) : recV h t (Vis t left) A = recA h t A := rec_all fun n k hnk => by
  unfold Vis
  rw [hl]
  simp [hnk]

theorem copy_has {w : World} {s : Nat} {x : Abs × Int} (H : Has w s x) : Calls Tryz.prog 25 #[.pointer (some ⟨s, 0, none⟩)] w (CopySt w x.1 x.2) := by
  obtain ⟨F, S⟩ := H
  exact copy_any S
theorem glob_lt {w : World} (hg : Glob w) : 0 < w.heap.size := World.block_lt_of_cell? _ _ hg

/-- What the second loop holds. -/
structure XI (w : World) (g : Nat) (x : Abs × Int) (wr : World) (F : Nat → Prop) : Prop where
  st : St wr g F x.1 x.2
  lo : ∀ k, F k → w.heap.size ≤ k
  bel : Below w.heap.size w wr
theorem XI.below {w : World} {g : Nat} {x : Abs × Int} {wr wr' : World} {F : Nat → Prop} (h : XI w g x wr F) (b : Below wr.heap.size wr wr') : XI w g x wr' F := ⟨h.st.below b, h.lo, h.bel.trans (b.mono h.bel.size)⟩
theorem XI.step {w : World} {g : Nat} {x : Abs × Int} {wr wr' : World} {F : Nat → Prop} (h : XI w g x wr F) {x' : Abs × Int} (st : St wr' g (Fx F wr wr') x'.1 x'.2) (o : Only F wr wr') : XI w g x' wr' (Fx F wr wr') :=
  ⟨st, fun k hk => by
    rcases hk with hk | ⟨hk, _⟩
    · exact h.lo k hk
    · exact Nat.le_trans h.bel.size hk, h.bel.trans (o.below h.bel.size h.lo)⟩
theorem AI.step {w : World} {t : List E5} {h : Hr} {A A' : Abs} {d : Int} {b r N B0 B1 : Nat} {vs : Int → Int → Value} {D : DataW Value} {g : Nat} {wr w1 w2 : World} {left left' : Lit → Bool} {cnt cnt' : Nat} {F : Nat → Prop}
    (I : AI w t h A d b r N B0 B1 vs D g wr left cnt F) (X : Fixed w t b r N B0 B1 vs D) (rg : w1.ranges Tryz.prog 113 Rh b r N D left' cnt') (has : ∀ kl, left' kl = true → left kl = true) (g1 : wr.grownBy w1 (some r)) (st : St w2 g (Fx F w1 w2) A' d) (o : Only F w1 w2) (e : A' = recV h t (Vis t left') A) :
    AI w t h A d b r N B0 B1 vs D g w2 left' cnt' (Fx F w1 w2) := by
  have off : ∀ k, B0 ≤ k → k < B1 → ¬ F k := fun k h0 h1 hk => by rcases I.off k hk with h | h <;> omega
  have z1 := g1.size
  have hs := I.sz
  have ib := X.inb
  have ir := X.inr
  have le := X.le
  have eb := o.block b (by omega) (off b ib.1 ib.2)
  have er := o.block r (by omega) (off r ir.1 ir.2)
  have bw1 : Below w.heap.size w w1 := I.bel.grown g1 I.bel.size (fun j hj => by injection hj with hj; omega)
  refine ⟨ranges_kept rg eb er, fun kl hl => I.has kl (has kl hl), by rw [← e]; exact st, fun f r' => ?_, fun k hk => ?_, fun k hk => ?_, Nat.le_trans (Nat.le_trans hs z1) o.size, bw1.trans (o.below bw1.size I.lo)⟩
  · have R := I.row f r'
    obtain ⟨es, clock, since, seen, c0, _, _, _, _, hr, _⟩ := I.rg
    have R1 := rd_only R (G := fun k => k = r) (fun h0 k hk e => by
      subst e
      obtain ⟨a, cap, ea, _, _, h3⟩ := R
      obtain ⟨b', off', rfl, hA⟩ := h3 h0
      rw [ea] at hk
      obtain rfl : b' = k := by simpa [Value.ownBlock] using hk
      have c := hA 0 h0 0 _ rfl
      simp [World.cell?, hr] at c) (Only.grown rfl g1)
    exact rd_only R1 (fun h0 k hk => off k (X.in_ f r' k hk).1 (X.in_ f r' k hk).2) o
  · rcases hk with hk | ⟨hk, _⟩
    · exact I.lo k hk
    · exact Nat.le_trans bw1.size hk
  · rcases hk with hk | ⟨hk, _⟩
    · exact I.off k hk
    · exact .inr (by omega)

set_option maxHeartbeats 400000 in
theorem apply_any {w : World} {s : Nat} {x : Abs × Int} (H : Has w s x) (hg : Glob w) (hd : 0 ≤ x.2 ∧ x.2 < 900000) {v hv : Value} {t : List E5} (R : Rd K5 w v t) (ok : ∀ y ∈ t, okE y) (hl : t.length ≤ 100) {h : Hr} (M : HMap w hv h) (hh : okH h) :
    Calls Tryz.prog 17 #[.pointer (some ⟨s, 0, none⟩), v, hv] w (ApPost w (apS h t x)) := by
  have HG := Lib.hid hg
  have C0 := Lib.hid (copy_has H)
  have RR := Lib.hid R
  have MM := Lib.hid M
  have hA := Lib.hid H.okA
  obtain ⟨A, d⟩ := x
  unfold CopySt at C0
  simp only at C0 hd hA
  obtain ⟨a, cap, rfl, _, hm, hA0⟩ := R
  have HA0 := Lib.hid hA0
  clear hA0
  unfold maxLen at hm
  clear H M hg
  generalize hn : t.length = n at *
  have HN := Lib.hid hn
  have OKT := Lib.hid ok
  have HH := Lib.hid hh
  clear hn ok hh
  go_enter Tryz.func17, Tryz.ntmps17
  go_wp2_with fail
  refine C0.out.mono ?_
  rintro e w1 ⟨g, F1, rfl, s1, lo1, b1⟩
  have S1 := Lib.hid s1
  have LO1 := Lib.hid lo1
  have B1 := Lib.hid b1
  clear s1 lo1 b1 C0
  have RC := Lib.hid (received_any w1 _ t (RR.out.below B1.out) OKT.out (by have := HN.out; omega))
  go_wp2_with fail
  refine RC.out.mono ?_
  rintro e w2 ⟨b, N, vs, D, rfl, gm, hb, hN, b2⟩
  have GM := Lib.hid gm
  have B2 := Lib.hid b2
  have own2 := gm.own
  have HB := Lib.hid (And.intro hb hN)
  clear gm b2 RC hb hN
  go_wp2_with (first
    | (at_range; refine wpList_range_own _ rfl _ 110 rfl 113 59 keyedP Tryz.underlying110 _ b N _ rfl own2 ?_; intro w0 hrg0 hg0 hs0)
    | fail)
  go_frame
  have hz1 := B1.out.size
  have hz2 := B2.out.size
  have FX : Hid (Fixed w t b w2.heap.size N w1.heap.size w0.heap.size vs D) := Lib.hid ⟨GM.out.has, GM.out.val, fun f r k hk => by have := World.ownsRow.lt (GM.out.row f r) k hk; have := HB.out.1; omega, ⟨HB.out.1, by have := GM.out.own.lt; omega⟩, ⟨hz2, by omega⟩, hz1⟩
  have G0 : Hid (Below w2.heap.size w2 w0) := Lib.hid ((Below.refl _ _).grown hg0 (Nat.le_refl _) (fun j hj => by cases hj))
  have I0 : Hid (AI w t h A d b w2.heap.size N w1.heap.size w0.heap.size vs D g w0 (Maps.has D) (Maps.size D) F1) := Lib.hid
    ⟨hrg0, fun kl hk => hk, by rw [vis_start OKT.out GM.out.has]; exact (S1.out.below B2.out).below G0.out, fun f r => ((GM.out.row f r).rd).below G0.out, LO1.out, fun k hk => .inl (S1.out.low k hk), Nat.le_refl _, (B1.out.trans (B2.out.mono hz1)).trans (G0.out.mono (by omega))⟩
  clear hrg0 hg0 hs0 own2 G0 GM B1 B2 S1 LO1 hz1 hz2 HB
  generalize w2.heap.size = r0 at *
  generalize w1.heap.size = B0 at *
  generalize w0.heap.size = B1 at *
  go_loopw [9] (fun _ wr => ∃ left cnt F, Hid (AI w t h A d b r0 N B0 B1 vs D g wr left cnt F)) (fun _ wr => wr.rangeLeft b r0)
  case atStart => exact ⟨_, _, _, I0⟩
  case round =>
    obtain ⟨left, cnt, F, I⟩ := hrel
    clear I0
    have hrg := I.out.rg
    go_wp2_with (first
      | (at_next; refine wpList_next_ranges _ rfl _ rfl 113 keyedP Rh (fun p : Int × Int => plc p.1 p.2) id (fun key kl hkey => by obtain ⟨f, r, e, _⟩ := keyP_inv hkey; exact ⟨(f, r), e⟩) (fun v y _ => ⟨v, rfl⟩) b r0 N _ _ _ rfl hrg ?_ ?_)
      | fail)
    · intro hc0 hl0
      have SA : Hid (Has wr g (recA h t A, d)) := Lib.hid ⟨F, by have := I.out.st; rwa [vis_end hl0] at this⟩
      have XI0 : Hid (XI w g (exU t (recA h t A, d) 0) wr F) := Lib.hid ⟨by have := I.out.st; rwa [vis_end hl0] at this, I.out.lo, I.out.bel⟩
      have XD := Lib.hid (fun k => exU_d (t := t) (recA h t A, d) k)
      have XE := Lib.hid (exU_end (t := t) h (A, d))
      have XY := Lib.hid (fun k hk h3 => exU_yes (t := t) (recA h t A, d) (j := k) hk h3)
      have XN := Lib.hid (fun k hk h3 => exU_no (t := t) (recA h t A, d) (j := k) hk h3)
      clear SA hl0 hrg FX I
      generalize recA h t A = RA at *
      go_wp2
      clear hc0 cnt left
      go_loopw [29] (fun i wr => ∃ (k : Nat) (F : Nat → Prop), k ≤ n ∧ i = .int .i64 k ∧ Hid (XI w g (exU t (RA, d) k) wr F)) (fun i _ => n - (intOf i).toNat)
      case atStart => exact ⟨0, F, Nat.zero_le _, rfl, XI0⟩
      case round =>
        rename_i wr0 wr
        obtain ⟨k, F', hk, rfl, I⟩ := hrel
        clear XI0
        by_cases hlt : k < n
        · obtain ⟨b1, off, rfl, A1⟩ := HA0.out (by omega)
          obtain ⟨c0, c1, c2, c3, c4⟩ := at5 (A1.below I.out.bel) k (by have := HN.out; omega)
          rw [show t.getD k z5 = eat t k from rfl] at c0 c1 c2 c3 c4
          have okx := OKT.out _ (Ro.eat_mem (l := t) (i := k) (by have := HN.out; omega))
          have Y3 := Lib.hid (XY.out k (by have := HN.out; omega))
          have N3 := Lib.hid (XN.out k (by have := HN.out; omega))
          have DD := XD.out k
          generalize eat t k = x at *
          obtain ⟨q, s', f', r', y⟩ := x
          simp only at c0 c1 c2 c3 c4 Y3 N3
          have I1 := Lib.hid (I.out.below ((Below.refl wr.heap.size wr).alloc (Nat.le_refl _) (.cells #[.int .i64 q, .int .i64 s', .int .i64 f', .int .i64 r', .int .i64 y] 75)))
          clear A1 I
          by_cases h3 : q = 3
          · subst h3
            have Y4 := Lib.hid (Y3.out rfl)
            have DO := Lib.hid (dos_any I1.out.st (HG.out.below I1.out.bel) (fun hk => by have := I1.out.lo _ hk; have := glob_lt HG.out; omega) (by have := HN.out; omega) 2 f' r' z4 Fl.okR_z)
            unfold Ad.addr rec4 z4 at DO
            clear Y3 N3 okx DD
            go_wp2_with fail
            refine DO.out.mono ?_
            rintro e w5 ⟨rfl, q1, q2⟩
            have I2 := Lib.hid (I1.out.step (x' := exU t (RA, d) (k + 1)) (by rw [Y4.out]; exact q1) q2)
            clear q1 q2 DO I1
            go_wp2
            go_roundw
            case rel => exact ⟨k + 1, _, by omega, by go_num, I2⟩
            case measure => simp [intOf]; omega
          · have d3 : (q == 3) = false := by simpa using h3
            have N4 := N3.out h3
            have I2 : Hid (XI w g (exU t (RA, d) (k + 1)) (wr.alloc (.cells #[.int .i64 q, .int .i64 s', .int .i64 f', .int .i64 r', .int .i64 y] 75)) F') := by rw [N4]; exact I1
            clear Y3 N3 okx DD N4 I1
            go_wp2
            go_roundw
            case rel => exact ⟨k + 1, _, by omega, by go_num, I2⟩
            case measure => simp [intOf]; omega
        · obtain rfl : k = n := by omega
          have RES : Hid (ApPost w (apS h t (A, d)) (.returned (ptr g)) wr) := Lib.hid ⟨g, F', rfl, by have := I.out.st; rw [← HN.out] at this; rw [← XE.out]; exact this, I.out.lo, I.out.bel⟩
          go_wp2
          go_ret
          exact RES.out
    · intro f r u kl y y2 w1 cnt1 hkey hlk hv hat hrg1 hlt hg1 hs1 hen
      obtain ⟨f', r', e1, hf, hr⟩ := keyP_inv hkey
      obtain ⟨rfl, rfl⟩ : f = f' ∧ r = r' := by
        unfold plc at e1
        injection e1 with e1
        have h1 := congrArg (fun t : Array Value => t[0]?) e1
        have h2 := congrArg (fun t : Array Value => t[1]?) e1
        simp at h1 h2
        exact ⟨h1, h2⟩
      obtain rfl : kl = pk f r := by
        have := keyP hf hr
        rw [hkey] at this
        exact Option.some.inj this
      have hg := I.out.has _ hlk
      rw [FX.out.has f r hf hr, decide_eq_true_eq] at hg
      have hv' : u = vs f r := by
        obtain ⟨h2, _⟩ : DataW.held u = y ∧ [] = y2 := by simpa [Rh] using hv
        have h1 := hat .nil
        rw [FX.out.val f r hf hr hg, ← h2] at h1
        injection h1 with h1
        exact h1.symm
      subst hv'
      have hsz := I.out.sz
      have g1 := hg1
      have bw1 : Below w.heap.size w w1 := I.out.bel.grown hg1 I.out.bel.size (fun j hj => by injection hj with hj; have := FX.out.inr.1; have := FX.out.le; omega)
      have off : ∀ k, B0 ≤ k → k < B1 → ¬ F k := fun k h0 h1 hk => by rcases I.out.off k hk with h | h <;> omega
      have st1 : St w1 g F (recV h t (Vis t left) A) d := I.out.st.only (G := fun k => k = r0) (fun k hk e => by subst e; exact off k FX.out.inr.1 FX.out.inr.2 hk) (Only.grown rfl hg1)
      have R1 : Rd K5 w1 (vs f r) (grp t f r) := rd_only (I.out.row f r) (G := fun k => k = r0) (fun h0 k hk e => by
        subst e
        obtain ⟨es, clock, since, seen, c0, _, _, _, _, hr0, _⟩ := I.out.rg
        obtain ⟨a', cap', ea, _, _, h3⟩ := I.out.row f r
        obtain ⟨b', off', rfl, hA'⟩ := h3 h0
        rw [ea] at hk
        obtain rfl : b' = k := by simpa [Value.ownBlock] using hk
        have c := hA' 0 h0 0 _ rfl
        simp [World.cell?, hr0] at c) (Only.grown rfl hg1)
      have bx : Below w1.heap.size w1 (w1.alloc (.cells #[.int .i64 f, .int .i64 r] 113)) := (Below.refl _ _).alloc (Nat.le_refl _) _
      have RV := Lib.hid (receive_any (st1.below bx) hf (r := r) (R1.below bx) ((MM.out.below bw1).below bx) HH.out (grp_h OKT.out f r))
      have EQ : Hid (rcv1 h (grp t f r) f r (recV h t (Vis t left) A) = recV h t (Vis t fun z => left z && !z.sameKey (pk f r)) A) := Lib.hid (vis_next OKT.out hf hr hlk hg hA.out)
      have STEP : Hid (∀ w3 A', St w3 g (Fx F w1 w3) A' d → Only F w1 w3 → A' = recV h t (Vis t fun z => left z && !z.sameKey (pk f r)) A → AI w t h A d b r0 N B0 B1 vs D g w3 (fun z => left z && !z.sameKey (pk f r)) cnt1 (Fx F w1 w3)) := Lib.hid (fun w3 A' st o e => I.out.step FX.out hrg1 (fun kl hl => by simp at hl; exact hl.1) hg1 st o e)
      have BX := Lib.hid bx
      have LT := Lib.hid hlt
      have RG := Lib.hid I.out.rg
      obtain ⟨au, cu, ev, _⟩ := R1.slice
      rw [ev] at hen RV ⊢
      generalize (grp t f r).length = gl at *
      unfold plc at hen ⊢
      clear st1 R1 bx off bw1 hrg1 hlt hg1 g1 hs1 hat hv hlk hkey hg hrg hsz I e1 ev
      go_wp2_with fail
      refine RV.out.mono ?_
      rintro e w3 ⟨rfl, q1, q2⟩
      have o3 := (Only.of_below (G := F) BX.out).trans q2 fun _ _ g => g
      have NEW := Lib.hid (STEP.out w3 _ (by
        refine q1.wide (fun k hk => ?_) (fun k hk => ?_)
        · rcases hk with hk | ⟨hk, hk2⟩
          · exact .inl hk
          · exact .inr ⟨Nat.le_trans BX.out.size hk, hk2⟩
        · rcases hk with hk | ⟨_, hk⟩
          · exact q1.low k (.inl hk)
          · exact hk) o3 EQ.out)
      have MS : Hid (w3.rangeLeft b r0 < wr.rangeLeft b r0) := by
        show _ < _
        rw [NEW.out.rg.left_eq, RG.out.left_eq]
        exact LT.out
      clear q1 q2 o3 STEP EQ RG LT RV hen
      go_wp2
      go_roundw
      case rel => exact ⟨_, _, _, NEW⟩
      case measure => exact MS.out

end Go.Proofs.YtilacdjekdngkaaGreatDoor.Pa

/- part.Heard: what is heard in a slot. -/
namespace Go.Proofs.YtilacdjekdngkaaGreatDoor.Pa
open Go.RowKit Go.Maps
open Go.Proofs.YtilacdjekdngkaaGreatDoor.Rw (Rd Ow At)
open Go.Proofs.YtilacdjekdngkaaGreatDoor.Fl (row_cell row_frozen)
open Go.Proofs.YtilacdjekdngkaaGreatDoor.Ck (LL lat sN sE tE RdL)
open Go.Proofs.YtilacdjekdngkaaGreatDoor.Ua (arr Row frm tb tp te take_any info_of arr_one store_new load_frame)
set_option maxRecDepth 100000
attribute [local irreducible] Sd.wpSd wpQuiet Sf.wpSf

def HrdPost (w : World) (x : Int) (b : Bool) (e : Ending) (w' : World) : Prop := e = .returned (.tuple #[.int .u8 x, .bool b]) ∧ Below w.heap.size w w'
theorem hrd_no {S : Sts} {T : LL} {V : List Bool} {P : List S2} {s : Int} {w w' : World} (h : hrB S T V P s = false) (b : Below w.heap.size w w') : HrdPost w (hrV S T V P s) (hrB S T V P s) (.returned (.tuple #[.int .u8 0, .bool false])) w' := by
  refine ⟨?_, b⟩
  unfold hrV
  rw [h]
  rfl
theorem hrd_yes {S : Sts} {T : LL} {V : List Bool} {P : List S2} {s : Int} {w w' : World} (h : hrB S T V P s = true) (b : Below w.heap.size w w') : HrdPost w (hrV S T V P s) (hrB S T V P s) (.returned (.tuple #[.int .u8 (tb (frF S T V P s)), .bool true])) w' := by
  refine ⟨?_, b⟩
  unfold hrV
  rw [h]
  rfl

set_option maxHeartbeats 1000000 in
theorem heard_any {w : World} {vs vt vl vp : Value} {S : Sts} {T : LL} {V : List Bool} {P : List S2} (H : Ns w vs vt vl S T V) (RP : Rd K2 w vp P) (s : Int) : Calls Tryz.prog 15 #[vs, vt, vl, vp, .int .i64 s] w (HrdPost w (hrV S T V P s) (hrB S T V P s)) := by
  have FA := Lib.hid (frame_any H RP s)
  unfold FramePost at FA
  have NO := Lib.hid (fun h w' b => hrd_no (S := S) (T := T) (V := V) (P := P) (s := s) (w := w) (w' := w') h b)
  have YES := Lib.hid (fun h w' b => hrd_yes (S := S) (T := T) (V := V) (P := P) (s := s) (w := w) (w' := w') h b)
  have HB : Hid (hrB S T V P s = (snB S T V s && decide (te (frF S T V P s) = 0) && !tp (frF S T V P s))) := Lib.hid rfl
  clear H RP
  generalize hrV S T V P s = x at *
  generalize hrB S T V P s = hb at *
  generalize frF S T V P s = F at *
  generalize sbN S T V s = m at *
  generalize snB S T V s = bb at *
  go_enter Tryz.func15, Tryz.ntmps15
  go_wp2_with fail
  refine FA.out.mono ?_
  rintro e w1 ⟨rfl, b1⟩
  have B1 := Lib.hid (b1.alloc b1.size (.cells (arr F) 46))
  have R1 := Lib.hid (Row.new w1 F)
  clear b1 FA
  have TA := Lib.hid (take_any (w1.alloc (.cells (arr F) 46)) F)
  cases bb with
  | false =>
    have N2 := Lib.hid (NO.out (by rw [HB.out]; rfl) _ B1.out)
    clear NO YES HB TA
    go_wp2_with ((with_reducible refine store_new (o := ⟨none, _, _, _, _, _⟩) rfl _ _ rfl F ?_ ?_ ?_); (exact rfl); (exact rfl))
    go_ret2
    exact N2.out
  | true =>
    go_wp2_with (first
      | ((with_reducible refine store_new (o := ⟨none, _, _, _, _, _⟩) rfl _ _ rfl F ?_ ?_ ?_); (exact rfl); (exact rfl))
      | ((with_reducible refine load_frame (o := ⟨some 31, _, _, _, _, _⟩) rfl _ rfl w1.heap.size F ?_ R1.out ?_); (exact rfl)))
    refine TA.out.mono ?_
    rintro e w2 ⟨rfl, b2⟩
    have B2 := Lib.hid (B1.out.trans (b2.mono B1.out.size))
    clear b2 TA B1 R1
    generalize tp F = p at *
    by_cases he : te F = 0
    · cases p with
      | true =>
        have N2 := Lib.hid (NO.out (by rw [HB.out]; simp) _ B2.out)
        clear NO YES HB
        generalize tb F = y at *
        generalize te F = z at *
        go_wp2
        go_ret2
        exact N2.out
      | false =>
        have N2 := Lib.hid (YES.out (by rw [HB.out, decide_eq_true he]; rfl) _ B2.out)
        clear NO YES HB
        generalize tb F = y at *
        generalize te F = z at *
        subst he
        go_wp2
        go_ret2
        exact N2.out
    · have N2 := Lib.hid (NO.out (by rw [HB.out, decide_eq_false he]; rfl) _ B2.out)
      clear NO YES HB
      generalize tb F = y at *
      generalize te F = z at *
      have d0 : (z != 0) = true := by simpa using he
      go_wp2
      go_ret2
      exact N2.out

end Go.Proofs.YtilacdjekdngkaaGreatDoor.Pa

/- part.fault: why nodes may not be. -/
namespace Go.Proofs.YtilacdjekdngkaaGreatDoor.Pa
open Go.RowKit Go.Maps
open Go.Proofs.YtilacdjekdngkaaGreatDoor.Rw (Rd Ow At)
open Go.Proofs.YtilacdjekdngkaaGreatDoor.Fl (row_cell row_frozen ret_bool)
open Go.Proofs.YtilacdjekdngkaaGreatDoor.Ck (LL lat sN sE tE tN RdL tables_any TabPost)
set_option maxRecDepth 100000

/-- The place of the first one that is nil; below 0: none is. -/
def nI (ps : List (Option Nat)) : Int := match ps.findIdx? Option.isNone with | some k => k | none => -1
def nB (ps : List (Option Nat)) : Bool := ps.any Option.isNone
theorem nI_hit {ps : List (Option Nat)} {k : Nat} (hk : k < ps.length) (h : ∀ j, j < k → (ps.getD j none).isSome = true) (hn : ps.getD k none = none) : nI ps = k := by
  have e : ps.findIdx? Option.isNone = some k := by
    rw [List.findIdx?_eq_some_iff_getElem]
    refine ⟨hk, ?_, fun j hj => ?_⟩
    · rw [List.getD_eq_getElem?_getD, List.getElem?_eq_getElem hk] at hn
      have : ps[k] = none := hn
      rw [this]; rfl
    · have := h j hj
      rw [List.getD_eq_getElem?_getD, List.getElem?_eq_getElem (by omega)] at this
      have h2 : (ps[j]'(by omega)).isSome = true := this
      cases e2 : ps[j]'(by omega) with
      | none => rw [e2] at h2; cases h2
      | some q => simp
  unfold nI
  rw [e]
theorem nI_miss {ps : List (Option Nat)} (h : ∀ j, j < ps.length → (ps.getD j none).isSome = true) : nI ps = -1 := by
  have e : ps.findIdx? Option.isNone = none := by
    rw [List.findIdx?_eq_none_iff]
    intro x hx
    obtain ⟨j, hj, e⟩ := List.getElem_of_mem hx
    have := h j hj
    rw [List.getD_eq_getElem?_getD, List.getElem?_eq_getElem hj] at this
    have h2 : (ps[j]).isSome = true := this
    rw [e] at h2
    cases x with
    | none => cases h2
    | some q => rfl
  unfold nI
  rw [e]
theorem nB_is (ps : List (Option Nat)) : decide (0 ≤ nI ps) = nB ps := by
  unfold nI nB
  rcases e : ps.findIdx? Option.isNone with _ | k
  · have := List.findIdx?_eq_none_iff.1 e
    rw [show ps.any Option.isNone = false from List.any_eq_false.2 fun x hx => by have h := this x hx; cases x <;> simp_all]
    rfl
  · obtain ⟨hk, h, _⟩ := List.findIdx?_eq_some_iff_getElem.1 e
    rw [show ps.any Option.isNone = true from List.any_eq_true.2 ⟨_, List.getElem_mem hk, h⟩]
    exact decide_eq_true (Int.natCast_nonneg k)
theorem nB_some (l : List Nat) : nB (l.map some) = false := by
  unfold nB
  rw [List.any_eq_false]
  intro x hx
  obtain ⟨y, _, rfl⟩ := List.mem_map.1 hx
  simp

theorem eqIn_nil {P : Program} (W : World) (d : Nat) (t te : TypeId) (a : Addr) (h : P.underlying t = some (.pointer te)) : (Op.equalIn (d + 1) t (.pointer none) (.pointer (some a))).run P W = .ok false W := by
  simp [Op.equalIn, run_underlying h]
theorem eq_nil {P : Program} (W : World) (t te : TypeId) (a : Addr) (h : P.underlying t = some (.pointer te)) : (Op.equal t (.pointer none) (.pointer (some a))).run P W = .ok false W := eqIn_nil W 9999 t te a h
theorem eql_nil {P : Program} (W : World) (t te : TypeId) (a : Addr) (h : P.underlying t = some (.pointer te)) : (binOp .eql t (.pointer none) (.pointer (some a))).run P W = .ok (.bool false) W := by
  simp only [binOp]
  simp [eq_nil W t te a h]
theorem pt_eql (q : Nat) (W : World) : (binOp .eql 38 (.pointer none) (.pointer (some ⟨q, 0, none⟩))).run Tryz.prog W = .ok (.bool false) W := eql_nil W _ _ _ Tryz.underlying38
set_option maxHeartbeats 400000 in
theorem index_any (w : World) (v : Value) (ps : List (Option Nat)) (R : Rd KP w v ps) : Calls Tryz.prog 73 #[v, .pointer none] w fun e w' => e = .returned (.int .i64 (nI ps)) ∧ Below w.heap.size w w' := by
  have HIT : Hid (∀ k, k < ps.length → (∀ j, j < k → (ps.getD j none).isSome = true) → ps.getD k none = none → nI ps = k) := Lib.hid (fun k hk h hn => nI_hit hk h hn)
  have MISS : Hid ((∀ j, j < ps.length → (ps.getD j none).isSome = true) → nI ps = -1) := Lib.hid nI_miss
  obtain ⟨a, cap, rfl, _, hm, hA⟩ := R
  have HA := Lib.hid hA
  unfold maxLen at hm
  clear hA
  generalize hn : ps.length = n at *
  have HN := Lib.hid hn
  clear hn
  generalize nI ps = r at *
  go_enter Tryz.func73, Tryz.ntmps73
  go_wp2
  go_loopw [8] (fun i wr => ∃ k : Nat, k ≤ n ∧ i = .int .i64 k ∧ Hid (Below w.heap.size w wr) ∧ Hid (∀ j, j < k → (ps.getD j none).isSome = true)) (fun i _ => n - (intOf i).toNat)
  case atStart => exact ⟨0, Nat.zero_le _, rfl, Below.refl _ _, fun j hj => by omega⟩
  case round =>
    obtain ⟨k, hk, rfl, bw, hs⟩ := hrel
    by_cases hlt : k < n
    · obtain ⟨b, off, rfl, A1⟩ := HA.out (by omega)
      have c := atP (A1.below bw.out) (i := k) (by have := HN.out; omega)
      have HT := Lib.hid (HIT.out k hlt hs.out)
      have NX : Hid ((ps.getD k none).isSome = true → ∀ j, j < k + 1 → (ps.getD j none).isSome = true) := Lib.hid (fun g j hj => by
        by_cases e : j = k
        · rw [e]; exact g
        · exact hs.out j (by omega))
      clear A1
      cases hp : ps.getD k none with
      | none =>
        rw [hp] at c
        have E := Lib.hid (HT.out hp)
        unfold pv at c
        simp only [Option.map_none] at c
        clear HT NX HIT MISS
        go_wp2
        go_ret
        exact ⟨by rw [E.out]; rfl, bw.out⟩
      | some q =>
        rw [hp] at c
        have S1 := Lib.hid (NX.out (by rw [hp]; rfl))
        unfold pv at c
        simp only [Option.map_some] at c
        have hN := pt_eql q
        clear HT NX
        go_wp2
        go_roundw
        case rel => exact ⟨k + 1, by omega, by go_num, bw, S1⟩
        case measure => simp [intOf]; omega
    · obtain rfl : k = n := by omega
      have E := Lib.hid (MISS.out hs.out)
      go_wp2
      go_ret
      exact ⟨by rw [E.out]; rfl, bw.out⟩
theorem contains_any (w : World) (v : Value) (ps : List (Option Nat)) (R : Rd KP w v ps) : Calls Tryz.prog 51 #[v, .pointer none] w fun e w' => e = .returned (.bool (nB ps)) ∧ Below w.heap.size w w' := by
  have C := Lib.hid (index_any w v ps R)
  have E := Lib.hid (nB_is ps)
  clear R
  generalize nI ps = r at *
  generalize nB ps = q at *
  go_enter Tryz.func51, Tryz.ntmps51
  go_wp2_with fail
  refine C.out.mono ?_
  rintro e w1 ⟨rfl, b1⟩
  go_wp2
  go_ret
  exact ⟨by rw [← E.out]; rfl, b1⟩

def fE (ps : List (Option Nat)) (T : LL) (V : List Bool) : Int := if 1 ≤ ps.length ∧ ps.length ≤ 32 ∧ nB ps = false ∧ T.length = ps.length ∧ V.length = ps.length then tE T else 1
set_option maxHeartbeats 1000000 in
theorem fault_any (w : World) (vs vt vl : Value) (ps : List (Option Nat)) (T : LL) (V : List Bool) (RS : Rd KP w vs ps) (RT : RdL w vt T) (RV : Rd KB w vl V) : Calls Tryz.prog 24 #[vs, vt, vl] w fun e w' => e = .returned (.int .i64 (fE ps T V)) ∧ Below w.heap.size w w' := by
  have CA := Lib.hid (contains_any w vs ps RS)
  have TA := Lib.hid (fun W b => tables_any W vt T (RT.below b))
  unfold TabPost at TA
  have NO : Hid (¬ (1 ≤ ps.length ∧ ps.length ≤ 32 ∧ nB ps = false ∧ T.length = ps.length ∧ V.length = ps.length) → fE ps T V = 1) := Lib.hid (fun h => if_neg h)
  have YES : Hid ((1 ≤ ps.length ∧ ps.length ≤ 32 ∧ nB ps = false ∧ T.length = ps.length ∧ V.length = ps.length) → fE ps T V = tE T) := Lib.hid (fun h => if_pos h)
  obtain ⟨a1, c1, rfl, m1⟩ := RS.slice
  obtain ⟨a2, c2, rfl, m2⟩ := RT.slice
  obtain ⟨a3, c3, rfl, m3⟩ := RV.slice
  unfold maxLen at m1 m2 m3
  clear RS RT RV
  generalize ps.length = n at *
  generalize T.length = nt at *
  generalize V.length = nv at *
  generalize fE ps T V = r at *
  generalize nB ps = q at *
  generalize tE T = te at *
  generalize tN T = tn at *
  by_cases h1 : n < 1
  · have E := Lib.hid (NO.out (by omega))
    clear NO YES
    go_enter Tryz.func24, Tryz.ntmps24
    go_wp2
    go_ret
    exact ⟨by rw [E.out]; rfl, Below.refl _ _⟩
  · by_cases h2 : 32 < n
    · have E := Lib.hid (NO.out (by omega))
      clear NO YES
      go_enter Tryz.func24, Tryz.ntmps24
      go_wp2
      go_ret
      exact ⟨by rw [E.out]; rfl, Below.refl _ _⟩
    · cases q with
      | true =>
        have E := Lib.hid (NO.out (by rintro ⟨_, _, h, _⟩; cases h))
        clear NO YES
        go_enter Tryz.func24, Tryz.ntmps24
        go_wp2_with fail
        refine CA.out.mono ?_
        rintro e w1 ⟨rfl, b1⟩
        go_wp2
        go_ret
        exact ⟨by rw [E.out]; rfl, b1⟩
      | false =>
        by_cases h3 : nt = n
        · by_cases h4 : nv = n
          · have E := Lib.hid (YES.out ⟨by omega, by omega, rfl, h3, h4⟩)
            clear NO YES
            subst h3
            subst h4
            go_enter Tryz.func24, Tryz.ntmps24
            go_wp2_with fail
            refine CA.out.mono ?_
            rintro e w1 ⟨rfl, b1⟩
            go_wp2_with fail
            refine (TA.out w1 b1).mono ?_
            rintro e w2 ⟨rfl, b2⟩
            go_wp2
            go_ret
            exact ⟨by rw [E.out]; rfl, b1.trans (b2.mono b1.size)⟩
          · have E := Lib.hid (NO.out (by rintro ⟨_, _, _, _, h⟩; exact h4 h))
            clear NO YES
            subst h3
            have h5 : ((nv : Int) != (nt : Int)) = true := by simp; omega
            go_enter Tryz.func24, Tryz.ntmps24
            go_wp2_with fail
            refine CA.out.mono ?_
            rintro e w1 ⟨rfl, b1⟩
            go_wp2
            go_ret
            exact ⟨by rw [E.out]; rfl, b1⟩
        · have E := Lib.hid (NO.out (by rintro ⟨_, _, _, h, _⟩; exact h3 h))
          clear NO YES
          have h5 : ((nt : Int) != (n : Int)) = true := by simp; omega
          go_enter Tryz.func24, Tryz.ntmps24
          go_wp2_with fail
          refine CA.out.mono ?_
          rintro e w1 ⟨rfl, b1⟩
          go_wp2
          go_ret
          exact ⟨by rw [E.out]; rfl, b1⟩

end Go.Proofs.YtilacdjekdngkaaGreatDoor.Pa
