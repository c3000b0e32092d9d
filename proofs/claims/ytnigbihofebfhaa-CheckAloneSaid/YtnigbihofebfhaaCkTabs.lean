/- check.Sender, senders, isNoTable, slices.IndexFunc of tables, and check.Tables. -/
import Derived.Test.YtnigbihofebfhaaCkFind
import Derived.Test.YtnigbihofebfhaaRoFile
import Derived.Shelf.Abstract
namespace Go.Proofs.Ytnigbihofebfhaa.Ck
open Go.RowKit
open Go.Proofs.Ytnigbihofebfhaa.Ro (E5 z5 eat ent K5 at5 eat_mem mayB mayP)
open Go.Proofs.Ytnigbihofebfhaa.Rw (Rd Ow At)
open Go.Proofs.Ytnigbihofebfhaa.Fl (ret_bool at_bool row_cell row_frozen file)
attribute [local irreducible] Sd.wpSd wpQuiet

set_option maxHeartbeats 1000000 in
theorem sender_any (w : World) (v : Value) (L : LL) (s : Int) (R : RdL w v L) : Calls Try.prog 8 #[v, .int .i64 s] w (WhoPost w (sN s L) (sE s L)) := by
  have eg : ∀ args w, (callFunc 23 args).run Try.prog w = .ok (.enter 23 args) w := enters_of Try.func23 (by kernel_rfl) rfl
  have R0 : RowE (w.alloc (.cells #[.int .i64 0, .int .i64 0, .int .i64 0, .int .i64 0, .int .i64 0] 30)) w.heap.size z5 := heap_alloc_new w _
  have b0 := (Below.refl w.heap.size w).alloc (Nat.le_refl _) (.cells #[.int .i64 0, .int .i64 0, .int .i64 0, .int .i64 0, .int .i64 0] 30)
  have RV := R.below b0
  obtain ⟨a, cap, rfl, _⟩ := R.slice
  clear R
  have FA := Lib.hid (fun (W : World) (B : Nat) (hr : RdL W (.slice a L.length cap) L) (hc : W.cell? ⟨B, 0, none⟩ = some (.int .i64 s)) => find_any W _ L 23 #[.pointer (some ⟨B, 0, none⟩)] (snd s) eg hr (sclos_any W B s L hc))
  clear eg
  have RR := Lib.hid R0
  have BB := Lib.hid b0
  have RL := Lib.hid RV
  clear R0 b0 RV
  have E : Hid (∀ w', Below w.heap.size w w' → WhoPost w (sN s L) (sE s L) (.returned (.tuple #[.int .i64 (sN s L), ent (sE s L)])) w') := fun w' b => ⟨rfl, b⟩
  rw [show whoN (snd s) L = sN s L from rfl, show whoE (snd s) L = sE s L from rfl] at FA
  generalize sN s L = rn at *
  generalize sE s L = re at *
  generalize L.length = n at *
  go_enter Try.func8, Try.ntmps8
  go_upto_region 1 with fail
  generalize w.alloc (.cells #[.int .i64 0, .int .i64 0, .int .i64 0, .int .i64 0, .int .i64 0] 30) = w0 at *
  go_wp2_with fail
  refine (sending_any w0 s).mono ?_
  rintro e w1 ⟨rfl, rfl⟩
  have b1 := (Below.refl w0.heap.size w0).alloc (Nat.le_refl _) (.cells #[.int .i64 s] 3)
  have F := FA.out (w0.alloc (.cells #[.int .i64 s] 3)) w0.heap.size (RL.out.below b1) (by go_simp)
  have FB := Lib.hid F
  have R1 := Lib.hid (RR.out.below b1 RR.out.lt)
  have B1 := Lib.hid (BB.out.trans (b1.mono BB.out.size))
  clear FA RL RR BB b1 F
  generalize w0.heap.size = g0 at *
  generalize w0.alloc (.cells #[.int .i64 s] 3) = V at *
  go_wp2_with fail
  refine FB.out.mono ?_
  rintro e w2 ⟨rfl, b2⟩
  have R2 := Lib.hid (R1.out.below b2 R1.out.lt)
  have B2 := Lib.hid (B1.out.trans (b2.mono B1.out.size))
  clear FB R1 B1 b2
  have d0 : w2.cell? ⟨w.heap.size, 0, none⟩ = some (.int .i64 0) := row_cell R2.out 0
  have d1 : w2.cell? ⟨w.heap.size, 1, none⟩ = some (.int .i64 0) := row_cell R2.out 1
  have d2 : w2.cell? ⟨w.heap.size, 2, none⟩ = some (.int .i64 0) := row_cell R2.out 2
  have d3 : w2.cell? ⟨w.heap.size, 3, none⟩ = some (.int .i64 0) := row_cell R2.out 3
  have d4 : w2.cell? ⟨w.heap.size, 4, none⟩ = some (.int .i64 0) := row_cell R2.out 4
  have f0 : w2.frozen? ⟨w.heap.size, 0, none⟩ = false := row_frozen R2.out 0
  have f1 : w2.frozen? ⟨w.heap.size, 1, none⟩ = false := row_frozen R2.out 1
  have f2 : w2.frozen? ⟨w.heap.size, 2, none⟩ = false := row_frozen R2.out 2
  have f3 : w2.frozen? ⟨w.heap.size, 3, none⟩ = false := row_frozen R2.out 3
  have f4 : w2.frozen? ⟨w.heap.size, 4, none⟩ = false := row_frozen R2.out 4
  have R3 : Hid (RowE (sto5 w2 w.heap.size re) w.heap.size re) := Lib.hid (sto5_row (y := z5) R2.out re)
  have B3 := Lib.hid (sto5_below (g := w.heap.size) (x := re) B2.out (Nat.le_refl _))
  unfold ent
  go_wp2
  (try simp only [Exit.inBlock, Exit.then])
  exact bodyPost_ret (v := .tuple #[.int .i64 rn, ent re]) (results_who (p := 5) (r := 4) rfl _ _ w.heap.size rn re rfl rfl R3.out) rfl (E.out _ B3.out)

/-! ### senders -/
def no (_ : Nat) : Int := 0
def upto (L : LL) (k : Nat) (i : Nat) : Int := if i < k then sF L i else 0
theorem upto_zero (L : LL) (i : Nat) : no i = upto L 0 i := by unfold upto; rw [if_neg (Nat.not_lt_zero _)]; rfl
theorem upto_step (L : LL) (k i : Nat) : upI (upto L k) k (sN k L) i = upto L (k + 1) i := by
  unfold upI upto
  by_cases e : i = k
  · subst e; rw [if_pos rfl, if_pos (by omega)]; rfl
  · rw [if_neg e]
    by_cases c : i < k
    · rw [if_pos c, if_pos (by omega)]
    · rw [if_neg c, if_neg (by omega)]
structure TwoI (w wr : World) (F : Nat → Int) : Prop where
  res : RowI wr w.heap.size no
  out_ : RowI wr (w.heap.size + 1) F
  bel : Below w.heap.size w wr
theorem twoI_new (w : World) (F : Nat → Int) (h : ∀ i, i < 17 → no i = F i) : TwoI w ((w.alloc (.cells (ar no) 39)).alloc (.cells (ar no) 39)) F := by
  have e : (w.alloc (.cells (ar no) 39)).heap.size = w.heap.size + 1 := by simp
  have n2 := RowI.new (w.alloc (.cells (ar no) 39)) no
  rw [e] at n2
  exact ⟨(Below.heap_alloc _ _ _ (by simp)).trans (RowI.new w no), n2.to h, ((Below.refl _ _).alloc (Nat.le_refl _) _).alloc (by simp) _⟩
theorem TwoI.set_ {w wr : World} {F : Nat → Int} (h : TwoI w wr F) (k : Nat) (hk : k < 17) (x : Int) : TwoI w (wr.setCell ⟨w.heap.size + 1, k, none⟩ (.int .i64 x)) (upI F k x) :=
  ⟨h.1.far (by simp) _, h.2.set_ k hk x, h.3.setCell (by simp) _⟩
theorem TwoI.below {w wr w1 : World} {F : Nat → Int} (h : TwoI w wr F) (hb : Below wr.heap.size wr w1) : TwoI w w1 F :=
  ⟨h.1.below hb h.1.lt, h.2.below hb h.2.lt, h.3.trans (hb.mono h.3.size)⟩
theorem TwoI.to {w wr : World} {F G : Nat → Int} (h : TwoI w wr F) (e : ∀ i, i < 17 → F i = G i) : TwoI w wr G := ⟨h.1, h.2.to e, h.3⟩
theorem below_setRow {B : Nat} {a w : World} (h : Below B a w) (g : Nat) (cs : Array Value) (hg : B ≤ g) : Below B a (w.setRow g cs) :=
  ⟨h.os, h.tape, h.output, by rw [size_setRow]; exact h.size, fun k hk => (setRow_other w g k cs (by omega)).trans (h.block k hk)⟩

set_option maxHeartbeats 1000000 in
theorem senders_any (w : World) (v : Value) (L : LL) (R : RdL w v L) : Calls Try.prog 13 #[v] w fun e w' => e = .returned (.agg (ar (sF L))) ∧ Below w.heap.size w w' := by
  have T0 := Lib.hid (twoI_new w (upto L 0) (fun i _ => upto_zero L i))
  have SA := Lib.hid (fun (W : World) (s : Int) (hb : Below w.heap.size w W) => sender_any W v L s (R.below hb))
  have E : Hid (ar (upto L 17) = ar (sF L)) := Lib.hid (ar_congr fun i hi => if_pos hi)
  have ST := Lib.hid (upto_step L)
  obtain ⟨a, cap, rfl, _⟩ := R.slice
  clear R
  generalize L.length = n at *
  go_enter Try.func13, Try.ntmps13
  go_wp2
  go_loopw [5] (fun i wr => ∃ k : Nat, k ≤ 17 ∧ i = .int .i64 k ∧ Hid (TwoI w wr (upto L k))) (fun i _ => 17 - (intOf i).toNat)
  case atStart => exact ⟨0, Nat.zero_le _, rfl, T0⟩
  case round =>
    obtain ⟨k, hk, rfl, T⟩ := hrel
    by_cases hlt : k < 17
    · have C := Lib.hid (SA.out wr k T.out.bel)
      have UP := Lib.hid (ST.out k)
      generalize sN (k : Int) L = sn at *
      generalize sE (k : Int) L = se at *
      unfold WhoPost ent at C
      go_wp2_with fail
      refine C.out.mono ?_
      rintro e w1 ⟨rfl, b1⟩
      have T1 := Lib.hid (T.out.below b1)
      have c := T1.out.out_.cell k hlt
      have f := T1.out.out_.frozen k
      have T2 := Lib.hid ((T1.out.set_ k hlt sn).to (fun i _ => UP.out i))
      clear b1 T1 C
      go_wp2
      go_roundw
      case rel => exact ⟨k + 1, by omega, by go_num, T2⟩
      case measure => simp [intOf]; omega
    · obtain rfl : k = 17 := by omega
      go_wp2_with (first
        | (refine wpList_load_row rfl 39 _ rfl _ rfl _ _ _ _ T.out.out_ Try.underlying39 rfl (infoI _) ?_)
        | (refine wpList_store_row rfl 39 _ _ rfl _ _ rfl rfl _ _ T.out.res (infoI _) rfl (ar_one _) ?_))
      refine bodyPost_ret (results_ar rfl _ _ _ _ rfl (T.out.res.row _)) rfl ⟨by rw [E.out], ?_⟩
      exact below_setRow T.out.bel _ _ (Nat.le_refl _)

/-! ### the first list that is no table -/
theorem isno_any (w : World) (v : Value) (l : List E5) (R : Rd K5 w v l) : Calls Try.prog 12 #[v] w fun e w' => e = .returned (.bool (bad l)) ∧ Below w.heap.size w w' := by
  have FA := Lib.hid (Ro.file_any w v l R)
  have hb : bad l = !mayB l := rfl
  obtain ⟨a, cap, rfl, _⟩ := R
  unfold Ro.FilePost file at FA
  by_cases h : mayP l
  · have e1 : Ro.fN l = 0 := if_pos h
    have e2 : bad l = false := by rw [hb, show mayB l = true from decide_eq_true h]; rfl
    rw [e1] at FA
    rw [e2]
    generalize Ro.fP l = p at *
    generalize Ro.fL l = fl at *
    clear e1 e2 hb h
    generalize l.length = n at *
    go_enter Try.func12, Try.ntmps12
    go_wp2_with fail
    refine FA.out.mono ?_
    rintro e w1 ⟨u, rfl, r1, b1⟩
    obtain ⟨a1, c1, rfl, _⟩ := r1
    have HB := Lib.hid (fun o => b1.alloc b1.size o)
    clear b1
    go_wp2
    go_ret
    exact ⟨rfl, HB.out _⟩
  · have e1 : Ro.fN l = 1 := if_neg h
    have e2 : bad l = true := by rw [hb, show mayB l = false from decide_eq_false h]; rfl
    rw [e1] at FA
    rw [e2]
    generalize Ro.fP l = p at *
    generalize Ro.fL l = fl at *
    clear e1 e2 hb h
    generalize l.length = n at *
    go_enter Try.func12, Try.ntmps12
    go_wp2_with fail
    refine FA.out.mono ?_
    rintro e w1 ⟨u, rfl, r1, b1⟩
    obtain ⟨a1, c1, rfl, _⟩ := r1
    have HB := Lib.hid (fun o => b1.alloc b1.size o)
    clear b1
    go_wp2
    go_ret
    exact ⟨rfl, HB.out _⟩

set_option maxHeartbeats 1000000 in
theorem index_any (w : World) (v : Value) (L : LL) (g : Nat) (q : List E5 → Bool) (eg : ∀ args w, (callFunc g args).run Try.prog w = .ok (.enter g args) w) (R : RdL w v L)
    (hp : ∀ (W : World) (u : Value) (l : List E5), Rd K5 W u l → Calls Try.prog g #[u] W fun e w' => e = .returned (.bool (q l)) ∧ Below W.heap.size W w') :
    Calls Try.prog 11 #[v, .func (.func g) #[] #[]] w fun e w' => e = .returned (.int .i64 (idx q 0 L)) ∧ Below w.heap.size w w' := by
  obtain ⟨a, cap, rfl, _, hm, hA⟩ := R
  have HA := Lib.hid hA
  have HP := Lib.hid hp
  have HH : Hid (∀ k, IAhead q L k → k < L.length → q (lat L k) = true → idx q 0 L = k) := fun k => iahead_hit
  have HE : Hid (IAhead q L L.length → idx q 0 L = -1) := iahead_end
  have HX : Hid (∀ k, IAhead q L k → k < L.length → q (lat L k) = false → IAhead q L (k + 1)) := fun k => iahead_next
  clear hA hp
  generalize hr : idx q 0 L = r at *
  clear hr
  unfold maxLen at hm
  generalize hn : L.length = n at *
  have HN := Lib.hid hn
  clear hn
  go_enter Try.func11, Try.ntmps11
  go_wp2
  go_loopw [8] (fun i wr => ∃ k : Nat, k ≤ n ∧ i = .int .i64 k ∧ Hid (IAhead q L k) ∧ Hid (Below w.heap.size w wr)) (fun i _ => n - (intOf i).toNat)
  case atStart => exact ⟨0, Nat.zero_le _, rfl, iahead_zero, Below.refl _ _⟩
  case round =>
    obtain ⟨k, hk, rfl, hs, bw⟩ := hrel
    by_cases hlt : k < n
    · obtain ⟨b, off, rfl, A⟩ := HA.out (by omega)
      obtain ⟨u, c, ru⟩ := A k hlt
      have ru' := ru.below bw.out
      have c' := (bw.out.cell (World.block_lt_of_cell? _ _ c)).trans c
      have AA := Lib.hid A
      clear A
      have hc := HP.out wr u (lat L k) (ru.below bw.out)
      obtain ⟨a', cap', rfl, _⟩ := ru
      have C := Lib.hid hc
      have YES := fun h => HH.out k hs.out hlt h
      have NO := fun h => HX.out k hs.out hlt h
      clear hc ru' c
      generalize q (lat L k) = qq at *
      generalize (lat L k).length = m at *
      cases qq with
      | true =>
        have Y := Lib.hid (YES rfl)
        clear YES NO
        go_wp2_with fail
        refine C.out.mono ?_
        rintro e w1 ⟨rfl, b1⟩
        have B1 := Lib.hid (bw.out.trans (b1.mono bw.out.size))
        clear b1
        go_wp2
        go_ret
        exact ⟨Ua.ret_int Y.out.symm, B1.out⟩
      | false =>
        have N := Lib.hid (NO rfl)
        clear YES NO
        go_wp2_with fail
        refine C.out.mono ?_
        rintro e w1 ⟨rfl, b1⟩
        have B1 := Lib.hid (bw.out.trans (b1.mono bw.out.size))
        clear b1
        go_wp2
        go_roundw
        case rel => exact ⟨k + 1, by omega, by go_num, N, B1⟩
        case measure => simp [intOf]; omega
    · obtain rfl : k = n := by omega
      have E := Lib.hid (HE.out hs.out)
      go_wp2
      go_ret
      exact ⟨Ua.ret_int E.out.symm, bw.out⟩

end Go.Proofs.Ytnigbihofebfhaa.Ck
