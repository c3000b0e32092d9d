/- PartWhole, walked. -/
import Derived.Test.YtilacdjekdngkaaGreatDoorMg9
import Derived.Test.YtilacdjekdngkaaGreatDoorMg12
import Derived.Test.YtilacdjekdngkaaGreatDoorMg1
import Derived.Test.YtilacdjekdngkaaGreatDoorMg10
import Derived.Test.YtilacdjekdngkaaGreatDoorMg2
import Derived.Deep.CutRange
namespace Go.Proofs.YtilacdjekdngkaaGreatDoor.Pa
open Go.RowKit Go.Maps
open Go.Proofs.YtilacdjekdngkaaGreatDoor.Fs (Abs St Rs Rst Only Fx Wf Glob OkA Ls files_any FilesPost GetPost gV gB at3)
open Go.Proofs.YtilacdjekdngkaaGreatDoor.Rw (Rd Ow At)
open Go.Proofs.YtilacdjekdngkaaGreatDoor.Ro (E5 z5 K5 ent okE eat at5)
open Go.Proofs.YtilacdjekdngkaaGreatDoor.Ck (LL lat sN sE tE RdL)
open Go.Proofs.YtilacdjekdngkaaGreatDoor.Fl (R4 z4 K4 rec4 rat okR okL arr4 row_cell row_frozen ret_bool)
set_option maxRecDepth 100000
attribute [local irreducible] Sd.wpSd wpQuiet Sf.wpSf

/-- All are made live: the first k of them. -/
structure LvI (w1 : World) (B n k : Nat) (vl : Value) (wr : World) : Prop where
  own : ∃ V : List Bool, V.length = n ∧ Ow KB wr B 4 vl V ∧ ∀ i, i < k → V.getD i false = true
  only : Only (fun j => vl.ownBlock = some j) w1 wr
theorem LvI.next {w1 wr : World} {B n k g cap : Nat} (I : LvI w1 B n k (.slice (some ⟨g, 0, none⟩) n cap) wr) (hk : k < n) : LvI w1 B n (k + 1) (.slice (some ⟨g, 0, none⟩) n cap) (wr.setCell ⟨g, k, none⟩ (.bool true)) := by
  obtain ⟨⟨V, hV, O, h⟩, on⟩ := I
  subst hV
  have O2 := O.set k 0 hk (by decide) (.bool true) true rfl
  rw [show k * KB.n + 0 = k by show k * 1 + 0 = k; omega] at O2
  refine ⟨⟨V.set k true, by simp, by simpa using O2, fun i hi => ?_⟩, on.trans (Only.set (fun j => (Value.slice (some ⟨g, 0, none⟩) V.length cap).ownBlock = some j) wr (a := ⟨g, k, none⟩) rfl _) fun _ _ h => h⟩
  rw [List.getD_eq_getElem?_getD, List.getElem?_set]
  by_cases e : k = i
  · rw [if_pos e, if_pos (by omega)]
    rfl
  · rw [if_neg e, ← List.getD_eq_getElem?_getD]
    exact h i (by omega)
theorem LvI.one {w1 wr : World} {B n k cap : Nat} {a : Option Addr} (I : LvI w1 B n k (.slice a n cap) wr) (hk : k < n) : ∃ g, a = some ⟨g, 0, none⟩ ∧ (∃ u, wr.cell? ⟨g, k, none⟩ = some u) ∧ wr.frozen? ⟨g, k, none⟩ = false := by
  obtain ⟨⟨V, hV, O, h⟩, on⟩ := I
  obtain ⟨g, cap', e, _, _, _, _, hf, hA⟩ := O.form (by omega)
  injection e with e1 _ _
  refine ⟨g, e1, ?_, hf k⟩
  have := atB hA (i := k) (by omega)
  rw [Nat.zero_add] at this
  exact ⟨_, this⟩
/-- What stays through the law: the nodes, and what both rounds answered. -/
structure Hw (W : World) (vs vt va vb : Value) (S SA SB : Sts) (T : LL) : Prop where
  st : Stl W vs S
  tb : RdL W vt T
  a : Stl W va SA
  b : Stl W vb SB
theorem Hw.below {W W' : World} {vs vt va vb : Value} {S SA SB : Sts} {T : LL} (h : Hw W vs vt va vb S SA SB T) (b : Below W.heap.size W W') : Hw W' vs vt va vb S SA SB T :=
  ⟨h.st.below b, h.tb.below b, h.a.below b, h.b.below b⟩

/-- The law's own record, and the two that both rounds made of it. -/
structure WI (W0 : World) (gv gw gu : Nat) (v x u : R4) (wr : World) : Prop where
  rv : wr.heap[gv]? = some (.cells (arr4 v) 71 (0, 0))
  rx : wr.heap[gw]? = some (.cells (arr4 x) 71 (0, 0))
  ru : wr.heap[gu]? = some (.cells (arr4 u) 71 (0, 0))
  gev : W0.heap.size ≤ gv
  gew : W0.heap.size ≤ gw
  geu : W0.heap.size ≤ gu
  d1 : gv ≠ gw
  d2 : gv ≠ gu
  d3 : gw ≠ gu
  bel : Below W0.heap.size W0 wr
section
variable {W0 wr wr' : World} {gv gw gu : Nat} {v x u : R4}
theorem WI.below (H : WI W0 gv gw gu v x u wr) (b : Below wr.heap.size wr wr') : WI W0 gv gw gu v x u wr' :=
  ⟨(b.block _ (lt_of_block H.rv)).trans H.rv, (b.block _ (lt_of_block H.rx)).trans H.rx, (b.block _ (lt_of_block H.ru)).trans H.ru, H.gev, H.gew, H.geu, H.d1, H.d2, H.d3, H.bel.trans (b.mono H.bel.size)⟩
theorem WI.put (H : WI W0 gv gw gu v x u wr) {j : Nat} (hj : j < 4) (y : Int) : WI W0 gv gw gu (rs v j y) x u (wr.setCell ⟨gv, j, none⟩ (.int .u8 y)) :=
  ⟨by rw [Rw.heap_setCell_same H.rv, arr4_set v y hj], (Below.heap_setCell _ _ _ _ (by exact fun e => H.d1 e.symm)).trans H.rx, (Below.heap_setCell _ _ _ _ (by exact fun e => H.d2 e.symm)).trans H.ru, H.gev, H.gew, H.geu, H.d1, H.d2, H.d3, H.bel.setCell (by exact H.gev) _⟩
theorem WI.setX (H : WI W0 gv gw gu v x u wr) (y : R4) : WI W0 gv gw gu v y u (Fl.sto4 wr gw 0 y) :=
  ⟨Fl.sto4_other H.rv H.d1, Fl.sto4_row H.rx y, Fl.sto4_other H.ru (fun e => H.d3 e.symm), H.gev, H.gew, H.geu, H.d1, H.d2, H.d3, Fl.sto4_below H.bel H.gew⟩
theorem WI.setU (H : WI W0 gv gw gu v x u wr) (y : R4) : WI W0 gv gw gu v x y (Fl.sto4 wr gu 0 y) :=
  ⟨Fl.sto4_other H.rv H.d2, Fl.sto4_other H.rx H.d3, Fl.sto4_row H.ru y, H.gev, H.gew, H.geu, H.d1, H.d2, H.d3, Fl.sto4_below H.bel H.geu⟩
end
theorem wi_new (w : World) (y : R4) : WI w w.heap.size (w.heap.size + 1) (w.heap.size + 1 + 1) y z4 z4 (((w.alloc (.cells (arr4 y) 71)).alloc (.cells (arr4 z4) 71)).alloc (.cells (arr4 z4) 71)) := by
  have s1 : (w.alloc (.cells (arr4 y) 71)).heap.size = w.heap.size + 1 := by simp
  have s2 : ((w.alloc (.cells (arr4 y) 71)).alloc (.cells (arr4 z4) 71)).heap.size = w.heap.size + 1 + 1 := by simp
  have b1 : Below w.heap.size w (w.alloc (.cells (arr4 y) 71)) := (Below.refl _ _).alloc (Nat.le_refl _) _
  have b2 := b1.alloc b1.size (.cells (arr4 z4) 71)
  have b3 := b2.alloc b2.size (.cells (arr4 z4) 71)
  have r2 := heap_alloc_new (w.alloc (.cells (arr4 y) 71)) (.cells (arr4 z4) 71)
  rw [s1] at r2
  have r3 := heap_alloc_new ((w.alloc (.cells (arr4 y) 71)).alloc (.cells (arr4 z4) 71)) (.cells (arr4 z4) 71)
  rw [s2] at r3
  refine ⟨?_, ?_, r3, Nat.le_refl _, by omega, by omega, by omega, by omega, by omega, b3⟩
  · exact (Below.heap_alloc _ _ _ (by rw [s2]; omega)).trans ((Below.heap_alloc _ _ _ (by rw [s1]; omega)).trans (heap_alloc_new w _))
  · exact (Below.heap_alloc _ _ _ (by rw [s2]; omega)).trans r2
/-- What the law's Gets read: a store, and a file's number. -/
structure GcC (b1 o1 s b2 o2 : Nat) (n : Int) (W : World) : Prop where
  s : W.cell? ⟨b1, o1, none⟩ = some (.pointer (some ⟨s, 0, none⟩))
  n : W.cell? ⟨b2, o2, none⟩ = some (.int .i64 n)
theorem GcC.below {b1 o1 s b2 o2 : Nat} {n : Int} {W W' : World} (C : GcC b1 o1 s b2 o2 n W) (b : Below W.heap.size W W') : GcC b1 o1 s b2 o2 n W' := ⟨(b.cell (World.block_lt_of_cell? _ _ C.s)).trans C.s, (b.cell (World.block_lt_of_cell? _ _ C.n)).trans C.n⟩
theorem cell_sto4 {W : World} {g b o : Nat} {y : R4} {u : Value} (h : W.cell? ⟨b, o, none⟩ = some u) (hne : b ≠ g) : (Fl.sto4 W g 0 y).cell? ⟨b, o, none⟩ = some u := (only_sto4 W g 0 y).cell h hne
theorem GcC.sto {b1 o1 s b2 o2 g : Nat} {n : Int} {W : World} (C : GcC b1 o1 s b2 o2 n W) (h1 : b1 ≠ g) (h2 : b2 ≠ g) (y : R4) : GcC b1 o1 s b2 o2 n (Fl.sto4 W g 0 y) := ⟨cell_sto4 C.s h1, cell_sto4 C.n h2⟩
/-- What the law's store into its own record reads: two entries, and the record that was got. -/
structure VzC (gy : Nat) (y : E5) (gz : Nat) (z : E5) (gq : Nat) (qv : R4) (W : World) : Prop where
  y : W.heap[gy]? = some (.cells #[.int .i64 y.1, .int .i64 y.2.1, .int .i64 y.2.2.1, .int .i64 y.2.2.2.1, .int .i64 y.2.2.2.2] 75 (0, 0))
  z : W.heap[gz]? = some (.cells #[.int .i64 z.1, .int .i64 z.2.1, .int .i64 z.2.2.1, .int .i64 z.2.2.2.1, .int .i64 z.2.2.2.2] 75 (0, 0))
  q : W.heap[gq]? = some (.cells (arr4 qv) 71 (0, 0))
theorem VzC.put {gy gz gq g j : Nat} {y z : E5} {qv : R4} {W : World} {u : Value} (C : VzC gy y gz z gq qv W) (h1 : gy ≠ g) (h2 : gz ≠ g) (h3 : gq ≠ g) : VzC gy y gz z gq qv (W.setCell ⟨g, j, none⟩ u) :=
  ⟨(Below.heap_setCell _ _ _ _ (by exact h1)).trans C.y, (Below.heap_setCell _ _ _ _ (by exact h2)).trans C.z, (Below.heap_setCell _ _ _ _ (by exact h3)).trans C.q⟩
theorem info4 (y : R4) : (Tryz.prog.info? 71).map (·.size) = some (arr4 y).size := by
  rw [show (arr4 y).size = 4 from rfl]
  kernel_rfl
/-- A record's box, loaded where the order is drawn. -/
theorem lit_rec {ops : Array Oper} {w0 w : World} {Q : Exit → Act → World → Prop} {a : Act} {o : Oper} {r : List (Bool × Oper)} (hw : Region.wanted o (yielded ops a.tmps) = true) (p : Operand) (ho : o.op = .load 71 p) (g : Nat) (y : R4) (hp : a.eval p = .pointer (some ⟨g, 0, none⟩)) (hrow : w0.heap[g]? = some (.cells (arr4 y) 71 (0, 0)))
    (h : Sd.wpSd Tryz.prog ops (fun w' => ∃ p : Sd.By w0, w' = p.world) Q r (a.put o.dst (rec4 y)) w) : Sd.wpSd Tryz.prog ops (fun w' => ∃ p : Sd.By w0, w' = p.world) Q ((false, o) :: r) a w := by
  refine Sd.lit ?_
  unfold wpQuiet
  rw [if_pos hw]
  refine ⟨rec4 y, fun w' hw' => ?_, wpQuiet_nil h⟩
  obtain ⟨q, rfl⟩ := hw'
  have hr : q.world.heap[g]? = some (.cells (arr4 y) 71 (0, 0)) := (q.below.block _ (lt_of_block hrow)).trans hrow
  unfold Oper.quietAt execOp
  simp only [ho, hp, Instr.loadAt, Instr.sureAddr, Sem.run_bind, Sem.run_pure, Result.andThen_ok, run_loadVar_row _ g _ _ _ _ _ hr Tryz.underlying71 rfl (info4 y)]
  exact ⟨rfl, rfl⟩

set_option maxHeartbeats 40000000 in
theorem whole_law {w : World} (hg : Glob w) {v : Value} {L : List Cel} (H : Cls w v L) (a b : Int) (ha : 0 ≤ a ∧ a ≤ 255) (hb : 0 ≤ b ∧ b ≤ 255) : Calls Tryz.prog 4 #[v, .int .u8 a, .int .u8 b] w fun e w' => e = .returned (.bool true) ∧ Below w.heap.size w w' := by
  have HG := Lib.hid hg
  have BD := Lib.hid (build_any H)
  unfold BldPost at BD
  obtain ⟨a0, cap0, rfl, _⟩ := H.rd
  clear H hg
  generalize L.length = n0 at *
  have AW := Lib.hid (fun W (b : Below w.heap.size w W) => awake_any W (HG.out.below b))
  go_enter Tryz.func4, Tryz.ntmps4
  go_wp2_with fail
  refine BD.out.mono ?_
  rintro e w1 ⟨vs, vr, vt, vl, S, T, V, n, rfl, B, b1⟩
  have B1 := Lib.hid b1
  have SL := Lib.hid B.s
  have DEN := Lib.hid B.den
  have OKT := Lib.hid B.ok
  have FEW := Lib.hid B.few
  have TL := Lib.hid B.t
  have KEEP := Lib.hid B.keep
  have LOW : Hid (∀ k, vl.ownBlock = some k → w.heap.size ≤ k) := Lib.hid (fun k e => (World.ownsRow.lt B.own k e).1)
  have I0 : Hid (LvI w1 w.heap.size n 0 vl w1) := Lib.hid ⟨⟨V, B.v, B.own, fun i hi => by omega⟩, Only.refl _ _⟩
  obtain ⟨av, cv, ev, _⟩ := B.lv.slice
  rw [B.v] at ev
  subst ev
  have h8 := FEW.out
  clear B b1 BD
  go_wp2
  go_loopw [11] (fun i wr => ∃ k : Nat, k ≤ n ∧ i = .int .i64 k ∧ Hid (LvI w1 w.heap.size n k (.slice av n cv) wr)) (fun i _ => n - (intOf i).toNat)
  case atStart => exact ⟨0, Nat.zero_le _, rfl, I0⟩
  case round =>
    obtain ⟨k, hk, rfl, I⟩ := hrel
    clear I0
    by_cases hlt : k < n
    · obtain ⟨g, rfl, ⟨u, hu⟩, hf⟩ := I.out.one hlt
      have I2 := Lib.hid (I.out.next hlt)
      clear I
      go_wp2
      go_roundw
      case rel => exact ⟨k + 1, by omega, by go_num, I2⟩
      case measure => simp [intOf]; omega
    · obtain rfl : k = n := by omega
      obtain ⟨V', hV, O, hT⟩ := I.out.own
      have RV := Lib.hid O.rd
      have VL := Lib.hid hV
      have VT : Hid (∀ i : Nat, i < k → vat V' i = true) := Lib.hid (fun i hi => by unfold vat; rw [Int.toNat_natCast]; exact hT i hi)
      have ST := Lib.hid (KEEP.out wr I.out.only).1
      have RT := Lib.hid (KEEP.out wr I.out.only).2
      have B2 := Lib.hid (B1.out.trans (I.out.only.below B1.out.size (fun j e => by have := LOW.out j e; exact this)) )
      clear I O hT hV KEEP LOW
      have RO := round_any (w := wr) ST.out RT.out RV.out (Rw.Rd.nil wr) (HG.out.below B2.out) (fun i hi => by
        have := DEN.out i (by rw [← SL.out]; exact hi)
        rw [this]
        exact ⟨by decide, by decide⟩)
      unfold RoundPost at RO
      go_wp2_with fail
      refine RO.mono ?_
      rintro e w3 ⟨va, rfl, sa, b3⟩
      have B3 := Lib.hid (B2.out.trans (b3.mono B2.out.size))
      have ST3 := Lib.hid (ST.out.below b3)
      have RT3 := Lib.hid (RT.out.below b3)
      have RV3 := Lib.hid (RV.out.below b3)
      have SA3 := Lib.hid sa
      clear RO b3 B2 ST RT RV sa
      go_wp2_with fail
      have HJ : 1 ≤ (1 + b % 9).toNat ∧ (1 + b % 9).toNat ≤ 9 := by omega
      have HC : Hid (1 ≤ 1 + a % 16 ∧ 1 + a % 16 ≤ 16) := Lib.hid (by omega)
      generalize (1 + b % 9).toNat = j at *
      rw [pow_w HJ.2]
      generalize 1 + a % 16 = c at *
      generalize hm : ((2 ^ j : Nat) : Int) = m
      have HM := Lib.hid hm
      clear hm
      have RP : Hid (Rd K2 (w3.alloc (.cells #[.int .i64 c, .int .i64 m] 64)) (.slice (some ⟨w3.heap.size, 0, none⟩) 1 1) [(c, m)]) := Lib.hid (Rw.Ow.lit (K := K2) w3 w3.heap.size 64 [(c, m)] (Nat.le_refl _) (by unfold maxLen; simp)).rd
      have bm := (Below.refl w3.heap.size w3).alloc (Nat.le_refl _) (.cells #[.int .i64 c, .int .i64 m] 64)
      have B4 := Lib.hid (B3.out.trans (bm.mono B3.out.size))
      have ST4 := Lib.hid (ST3.out.below bm)
      have RT4 := Lib.hid (RT3.out.below bm)
      have RV4 := Lib.hid (RV3.out.below bm)
      have SA4 := Lib.hid (SA3.out.below bm)
      clear bm B3 ST3 RT3 RV3 SA3
      generalize (w3.alloc (.cells #[.int .i64 c, .int .i64 m] 64)) = W4 at *
      generalize w3.heap.size = g3 at RP ⊢
      have RO := round_any (w := W4) ST4.out RT4.out RV4.out RP.out (HG.out.below B4.out) (fun i hi => by
        have := DEN.out i (by rw [← SL.out]; exact hi)
        rw [this]
        exact ⟨by decide, by decide⟩)
      unfold RoundPost at RO
      refine RO.mono ?_
      rintro e w5 ⟨vb, rfl, sb, b5⟩
      have B5 := Lib.hid (B4.out.trans (b5.mono B4.out.size))
      have H5 : Hid (Hw w5 vs vt va vb S (rdL S T V' []) (rdL S T V' [(c, m)]) T) := Lib.hid ⟨ST4.out.below b5, RT4.out.below b5, SA4.out.below b5, sb⟩
      clear RO b5 B4 ST4 RT4 RV4 SA4 RP sb
      by_cases hE : rdE S T V' = 0
      · have tE0 : Ck.tE T = 0 := by
          unfold rdE at hE
          split at hE
          · exact hE
          · omega
        have WF := Lib.hid (wf2_of (S := S) (T := T) (V := V') (fun i hi => by obtain ⟨ps, _, _, e⟩ := H5.out.st; exact (e i hi).okA) tE0 (fun i hi => VT.out i (by rw [← TL.out]; exact hi)) (c := c) HJ.1 HJ.2)
        rw [HM.out] at WF
        have EA : Hid (∀ p : Nat, p < k → sat (rdL S T V' []) p = apS (hr S T V' []) (lat T p) (sat S p)) := Lib.hid (fun p hp => by unfold rdL; rw [if_pos hE, rdS_at _ _ _ _ (by rw [SL.out]; exact hp), VT.out p hp]; rfl)
        have EB : Hid (∀ p : Nat, p < k → sat (rdL S T V' [(c, m)]) p = apS (hr S T V' [(c, m)]) (lat T p) (sat S p)) := Lib.hid (fun p hp => by unfold rdL; rw [if_pos hE, rdS_at _ _ _ _ (by rw [SL.out]; exact hp), VT.out p hp]; rfl)
        have LA : Hid ((rdL S T V' []).length = k) := Lib.hid (by unfold rdL; rw [if_pos hE, rdS_len, SL.out])
        have LB : Hid ((rdL S T V' [(c, m)]).length = k) := Lib.hid (by unfold rdL; rw [if_pos hE, rdS_len, SL.out])
        generalize rdL S T V' [] = SA at *
        generalize rdL S T V' [(c, m)] = SB at *
        generalize hr S T V' [] = h1 at *
        generalize hr S T V' [(c, m)] = h2 at *
        rw [hE]
        obtain ⟨sa, cs, rfl, _⟩ := H5.out.st.slice
        obtain ⟨ta, ct, rfl, _⟩ := H5.out.tb.slice
        obtain ⟨aa, ca, rfl, _⟩ := H5.out.a.slice
        obtain ⟨ba, cb, rfl, _⟩ := H5.out.b.slice
        have sl := SL.out
        have tl := TL.out
        have la := LA.out
        have lb := LB.out
        rw [sl, tl, la, lb] at H5 ⊢
        have TE := Lib.hid tE0
        clear sl tl la lb hE tE0 HJ VT VL
        go_wp2
        have h8 := FEW.out
        go_loopw [17] (fun i wr => ∃ p : Nat, p ≤ k ∧ i = .int .i64 p ∧ Hid (Below w5.heap.size w5 wr)) (fun i _ => k - (intOf i).toNat)
        case atStart => exact ⟨0, Nat.zero_le _, rfl, Lib.hid (Below.refl _ _)⟩
        case round =>
          obtain ⟨p, hp, rfl, I⟩ := hrel
          by_cases hlt : p < k
          · have HP1 : Hid (p + 1 ≤ k) := Lib.hid hlt
            as_aux_lemma =>
              have H6 := Lib.hid (H5.out.below I.out)
              obtain ⟨b1, o1, c1, s1, e1, x1, g1⟩ := H6.out.st.one (k := p) (by have := SL.out; omega)
              obtain ⟨b2, o2, c2, a2, n2, e2, x2, _, _⟩ := H6.out.tb.one (k := p) (by have := TL.out; omega)
              have RT := Lib.hid (H6.out.tb.rd (k := p) (by have := TL.out; omega) e2 x2)
              obtain ⟨b3, o3, c3, s3, e3, x3, g3⟩ := H6.out.a.one (k := p) (by have := LA.out; omega)
              obtain ⟨b4, o4, c4, s4, e4, x4, g4⟩ := H6.out.b.one (k := p) (by have := LB.out; omega)
              rw [SL.out] at e1
              rw [TL.out] at e2
              rw [LA.out] at e3
              rw [LB.out] at e4
              injection e1 with e1 _ e1'
              injection e2 with e2 _ e2'
              injection e3 with e3 _ e3'
              injection e4 with e4 _ e4'
              subst e1 e1' e2 e2' e3 e3' e4 e4'
              have OKP := Lib.hid (OKT.out p hlt)
              have OKE := Lib.hid (tab_each TE.out (k := p) (by have := TL.out; omega))
              have SND : Hid (∀ x ∈ lat T p, x.1 = 2 → 0 ≤ sN x.2.1 T) := Lib.hid (fun x hx h2 => has_sender TE.out (by have := TL.out; omega) hx h2)
              have D0 := Lib.hid (DEN.out p hlt)
              have OA := Lib.hid g1.okA
              have GA := Lib.hid g3
              have GB := Lib.hid g4
              rw [EA.out p hlt] at GA
              rw [EB.out p hlt] at GB
              have FA : Hid (Calls Tryz.prog 10 #[.pointer (some ⟨s1, 0, none⟩)] wr (FilesPost wr (sat S p).1)) := Lib.hid (by obtain ⟨F, st⟩ := g1; exact files_any st)
              unfold FilesPost at FA
              have WE : Hid (∀ n j : Int, gB (sat S p).1 n j = true → wR h1 (lat T p) n j (lat T p).length = false → gV (apS h1 (lat T p) (sat S p)).1 n j = wV h1 (lat T p) n j (gV (sat S p).1 n j) (lat T p).length ∧ gV (apS h2 (lat T p) (sat S p)).1 n j = if wH c (lat T p) n j (lat T p).length = true then gV (sat S p).1 n j else wV h1 (lat T p) n j (gV (sat S p).1 n j) (lat T p).length) := Lib.hid (fun n j hg hr => by
                obtain ⟨r1, r2⟩ := w_end (c := c) (A := (sat S p).1) (d := (sat S p).2) WF.out.o1 (fun x hx => (OKE.out x hx).1) OA.out hg hr
                exact ⟨r1, r2 h2 WF.out.o2 WF.out.same WF.out.no⟩)
              clear g1 g3 g4 H6
              generalize sat S p = xs at *
              unfold ptr at x1 x3 x4
              have X2 := Lib.hid x2
              have X3 := Lib.hid x3
              have X4 := Lib.hid x4
              clear x2 x3 x4
              go_wp2_with fail
              refine FA.out.mono ?_
              rintro e w7 ⟨u7, rfl, ls7, b7⟩
              obtain ⟨LF, ls, eA⟩ := ls7 (fun _ => False) nofun
              have I7 := Lib.hid (I.out.trans (b7.mono I.out.size))
              have H7 := Lib.hid (H5.out.below I7.out)
              have RT7 := Lib.hid (RT.out.below b7)
              have X2' := Lib.hid ((b7.cell (World.block_lt_of_cell? _ _ X2.out)).trans X2.out)
              have X3' := Lib.hid ((b7.cell (World.block_lt_of_cell? _ _ X3.out)).trans X3.out)
              have X4' := Lib.hid ((b7.cell (World.block_lt_of_cell? _ _ X4.out)).trans X4.out)
              have GA7 := Lib.hid (GA.out.below b7)
              have GB7 := Lib.hid (GB.out.below b7)
              have FM : Hid (∀ (q : Nat) (c' : Fs.Ent), LF[q]? = some c' → Rd K4 w7 c'.sl c'.l ∧ c'.l.length ≤ 256 ∧ Wf c'.n ∧ ∀ j : Nat, j < c'.l.length → gB xs.1 c'.n j = true ∧ gV xs.1 c'.n j = rat c'.l j) := Lib.hid (fun q c' hc => by
                have hm := List.mem_of_getElem? hc
                have hA : c'.abs ∈ xs.1 := by rw [← eA]; exact List.mem_map_of_mem hm
                have hl := Fs.look_at (κ := Fs.key) OA.out.srt hA
                rw [Fs.abs_key] at hl
                have hg := OA.out.good _ hA
                have hn : 0 ≤ c'.n ∧ c'.n ≤ 63 := OA.out.nm _ hA
                refine ⟨ls.file c' hm, hg.2.2.2.1, wf_of ⟨hn.1, by have := hn.2; omega⟩, fun j hj => ?_⟩
                unfold gB gV
                rw [hl]
                refine ⟨decide_eq_true ⟨by omega, by show ((j : Nat) : Int) < (c'.l.length : Int); omega⟩, ?_⟩
                show (if _ then _ else _) = _
                rw [if_pos ⟨by omega, by show ((j : Nat) : Int) < (c'.l.length : Int); omega⟩, Int.toNat_natCast]
                rfl)
              have L64 : Hid (LF.length ≤ 64) := Lib.hid (by have := OA.out.len; rw [← eA, List.length_map] at this; exact this)
              obtain ⟨al, cl, el, _, _, hA7⟩ := ls.rd
              subst el
              have A7 := Lib.hid hA7
              clear ls7 ls eA b7 I FA RT X2 X3 X4 GA GB hA7 x1
              generalize hnf : LF.length = nf at *
              have HNF := Lib.hid hnf
              clear hnf
              go_wp2
              have l64 := L64.out
              go_loopw [19] (fun i wr => ∃ q : Nat, q ≤ nf ∧ i = .int .i64 q ∧ Hid (Below w7.heap.size w7 wr)) (fun i _ => nf - (intOf i).toNat)
              case atStart => exact ⟨0, Nat.zero_le _, rfl, Lib.hid (Below.refl _ _)⟩
              case round =>
                obtain ⟨q, hq, rfl, J⟩ := hrel
                by_cases hlq : q < nf
                · have HQ1 : Hid (q + 1 ≤ nf) := Lib.hid hlq
                  as_aux_lemma =>
                    obtain ⟨b5, o5, rfl, A5⟩ := A7.out (by omega)
                    obtain ⟨cc, hcc⟩ : ∃ cc, LF[q]? = some cc := ⟨_, List.getElem?_eq_getElem (by have := HNF.out; omega)⟩
                    obtain ⟨f1, f2, f3, f4⟩ := FM.out q cc hcc
                    obtain ⟨t0, _, t2⟩ := at3 A5 hcc
                    obtain ⟨cn, cp, ca, ck, cl'⟩ := cc
                    unfold Fs.Ent.sl at t2 f1
                    simp only at f1 f2 f3 f4 t0 t2
                    have R4' := Lib.hid f1
                    have WN := Lib.hid f3
                    have GG := Lib.hid f4
                    have T0 := Lib.hid t0
                    have T2 := Lib.hid t2
                    clear f1 f3 f4 t0 t2 hcc A5
                    generalize hnr : cl'.length = nr at *
                    have HNR := Lib.hid hnr
                    have F2 := Lib.hid f2
                    clear hnr
                    go_wp2
                    go_loopw [20] (fun i wr => ∃ j : Nat, j ≤ nr ∧ i = .int .i64 j ∧ Hid (Below w7.heap.size w7 wr)) (fun i _ => nr - (intOf i).toNat)
                    case atStart => exact ⟨0, Nat.zero_le _, rfl, J⟩
                    case round =>
                      obtain ⟨j, hj, rfl, KJ⟩ := hrel
                      have t0 : _ = some _ := (KJ.out.cell (World.block_lt_of_cell? _ _ T0.out)).trans T0.out
                      have t2 : _ = some _ := (KJ.out.cell (World.block_lt_of_cell? _ _ T2.out)).trans T2.out
                      by_cases hlj : j < nr
                      · have HJ1 : Hid (j + 1 ≤ nr) := Lib.hid hlj
                        as_aux_lemma =>
                          obtain ⟨gb, gv⟩ := GG.out j hlj
                          obtain ⟨a6, c6, e6, _, _, h6⟩ := R4'.out.below KJ.out
                          rw [HNR.out] at e6
                          injection e6 with e6 _ e6'
                          subst e6 e6'
                          obtain ⟨b6, o6, rfl, A6⟩ := h6 (by have := HNR.out; omega)
                          obtain ⟨r0, r1, r2, r3⟩ := Fl.at4 A6 j (by have := HNR.out; omega)
                          have GX := Lib.hid (fun W (b : Below w7.heap.size w7 W) => get_has (GA7.out.below b) WN.out (j : Int))
                          have GY := Lib.hid (fun W (b : Below w7.heap.size w7 W) => get_has (GB7.out.below b) WN.out (j : Int))
                          have WJ := Lib.hid (fun hr => WE.out cn j gb hr)
                          rw [gv] at WJ
                          unfold GetPost rec4 at GX GY
                          generalize gV (apS h1 (lat T p) xs).1 cn j = y1 at *
                          generalize gB (apS h1 (lat T p) xs).1 cn j = g1 at *
                          generalize gV (apS h2 (lat T p) xs).1 cn j = y2 at *
                          generalize gB (apS h2 (lat T p) xs).1 cn j = g2 at *
                          clear gb gv t0 A6 h6
                          have RR := Lib.hid (And.intro (And.intro r0 r1) (And.intro r2 r3))
                          go_upto_region 26 with fail
                          have W0 : Hid (WI wr wr.heap.size (wr.heap.size + 1) (wr.heap.size + 1 + 1) (rat cl' j) z4 z4 (((wr.alloc (.cells #[.int .u8 (rat cl' j).1, .int .u8 (rat cl' j).2.1, .int .u8 (rat cl' j).2.2.1, .int .u8 (rat cl' j).2.2.2] 71)).alloc (.cells #[.int .u8 0, .int .u8 0, .int .u8 0, .int .u8 0] 71)).alloc (.cells #[.int .u8 0, .int .u8 0, .int .u8 0, .int .u8 0] 71))) := Lib.hid (wi_new wr (rat cl' j))
                          generalize (((wr.alloc (.cells #[.int .u8 (rat cl' j).1, .int .u8 (rat cl' j).2.1, .int .u8 (rat cl' j).2.2.1, .int .u8 (rat cl' j).2.2.2] 71)).alloc (.cells #[.int .u8 0, .int .u8 0, .int .u8 0, .int .u8 0] 71)).alloc (.cells #[.int .u8 0, .int .u8 0, .int .u8 0, .int .u8 0] 71)) = V0 at *
                          generalize wr.heap.size + 1 + 1 = gu at W0 ⊢
                          generalize wr.heap.size + 1 = gw at W0 ⊢
                          generalize wr.heap.size = gv at W0 ⊢
                          clear r0 r1 r2 r3 t2
                          have N3 : Hid (b3 < w7.heap.size) := Lib.hid (World.block_lt_of_cell? _ _ X3'.out)
                          have N4 : Hid (b4 < w7.heap.size) := Lib.hid (World.block_lt_of_cell? _ _ X4'.out)
                          have N5 : Hid (b5 < w7.heap.size) := Lib.hid (World.block_lt_of_cell? _ _ T0.out)
                          have KV := Lib.hid (KJ.out.trans (W0.out.bel.mono KJ.out.size))
                          have C0 : GcC b3 (o3 + p) s3 b5 (o5 + q * 3) cn V0.drew := ⟨(KV.out.cell N3.out).trans X3'.out, (KV.out.cell N5.out).trans T0.out⟩
                          have ne : Nonempty (Sc.In (GcC b3 (o3 + p) s3 b5 (o5 + q * 3) cn)) := ⟨⟨_, C0⟩⟩
                          have t0 := Sc.cell_in (C := GcC b3 (o3 + p) s3 b5 (o5 + q * 3) cn) (a := ⟨b3, o3 + p, none⟩) (fun W' h => h.s)
                          have t1 := Sc.cell_in (C := GcC b3 (o3 + p) s3 b5 (o5 + q * 3) cn) (a := ⟨b5, o5 + q * 3, none⟩) (fun W' h => h.n)
                          refine Sc.start (GcC b3 (o3 + p) s3 b5 (o5 + q * 3) cn) [(false, 0), (false, 1), (false, 2), (false, 3), (false, 4), (false, 5), (false, 6), (false, 7), (false, 8), (false, 9), (true, 10), (false, 11), (false, 12), (false, 13), (true, 14)] (by kernel_rfl) (by kernel_rfl) (by kernel_rfl) C0 ?_
                          dsimp only [Sd.picks, List.getElem?_cons_succ, List.getElem?_cons_zero]
                          repeat (refine Sd.lit ?_; quiet_step (fail); refine wpQuiet_nil ?_)
                          have KD := Lib.hid (KV.out.trans ((Below.refl V0.heap.size V0).drew.mono KV.out.size))
                          have WD := Lib.hid (W0.out.below ((Below.refl V0.heap.size V0).drew))
                          have CD := Lib.hid C0
                          clear t0 t1 C0 W0 KV
                          generalize V0.drew = V1 at *
                          refine Sd.call (by rfl) (fun K hK => ?_)
                          go_simp
                          refine (GX.out _ KD.out).mono ?_
                          rintro e V2 ⟨rfl, b2'⟩
                          have K2' := Lib.hid (KD.out.trans (b2'.mono KD.out.size))
                          have W2 := Lib.hid (WD.out.below b2')
                          have C2 := Lib.hid (CD.out.below b2')
                          refine hK _ _ (Sc.Cl.of C2.out) ?_
                          clear hK K b2' KD WD CD GX
                          repeat (refine Sd.lit ?_; quiet_step (fail); refine wpQuiet_nil ?_)
                          have d0 : V2.cell? ⟨gw, 0, none⟩ = some (.int .u8 0) := row_cell W2.out.rx 0
                          have d1 : V2.cell? ⟨gw, 1, none⟩ = some (.int .u8 0) := row_cell W2.out.rx 1
                          have d2 : V2.cell? ⟨gw, 2, none⟩ = some (.int .u8 0) := row_cell W2.out.rx 2
                          have d3 : V2.cell? ⟨gw, 3, none⟩ = some (.int .u8 0) := row_cell W2.out.rx 3
                          have z0 := row_frozen W2.out.rx 0
                          have z1 := row_frozen W2.out.rx 1
                          have z2' := row_frozen W2.out.rx 2
                          have z3 := row_frozen W2.out.rx 3
                          have NW : Hid (w7.heap.size ≤ gw) := Lib.hid (Nat.le_trans KJ.out.size W2.out.gew)
                          have C3 := Lib.hid (C2.out.sto (g := gw) (by have := N3.out; have := NW.out; omega) (by have := N5.out; have := NW.out; omega) y1)
                          have W3 := Lib.hid (W2.out.setX y1)
                          have K3 := Lib.hid (Fl.sto4_below (o := 0) (r := y1) K2'.out NW.out)
                          refine Sd.call (by rfl) (fun K hK => ?_)
                          go_simp
                          refine hK _ (Fl.sto4 V2 gw 0 y1) (Sc.Cl.of C3.out) ?_
                          clear hK K d0 d1 d2 d3 z0 z1 z2' z3 W2 K2' C2 ne
                          refine Sd.done ?_
                          generalize Fl.sto4 V2 gw 0 y1 = V3 at *
                          go_upto_region 27 with fail
                          have C0 : GcC b4 (o4 + p) s4 b5 (o5 + q * 3) cn V3.drew := ⟨(K3.out.cell N4.out).trans X4'.out, C3.out.n⟩
                          have ne : Nonempty (Sc.In (GcC b4 (o4 + p) s4 b5 (o5 + q * 3) cn)) := ⟨⟨_, C0⟩⟩
                          have t0 := Sc.cell_in (C := GcC b4 (o4 + p) s4 b5 (o5 + q * 3) cn) (a := ⟨b4, o4 + p, none⟩) (fun W' h => h.s)
                          have t1 := Sc.cell_in (C := GcC b4 (o4 + p) s4 b5 (o5 + q * 3) cn) (a := ⟨b5, o5 + q * 3, none⟩) (fun W' h => h.n)
                          have W0 := W3
                          have KV := K3
                          clear W3 K3 C3
                          refine Sc.start (GcC b4 (o4 + p) s4 b5 (o5 + q * 3) cn) [(false, 0), (false, 1), (false, 2), (false, 3), (false, 4), (false, 5), (false, 6), (false, 7), (false, 8), (false, 9), (true, 10), (false, 11), (false, 12), (false, 13), (true, 14)] (by kernel_rfl) (by kernel_rfl) (by kernel_rfl) C0 ?_
                          dsimp only [Sd.picks, List.getElem?_cons_succ, List.getElem?_cons_zero]
                          repeat (refine Sd.lit ?_; quiet_step (fail); refine wpQuiet_nil ?_)
                          have KD := Lib.hid (KV.out.trans ((Below.refl V3.heap.size V3).drew.mono KV.out.size))
                          have WD := Lib.hid (W0.out.below ((Below.refl V3.heap.size V3).drew))
                          have CD := Lib.hid C0
                          clear t0 t1 C0 W0 KV
                          generalize V3.drew = V4 at *
                          refine Sd.call (by rfl) (fun K hK => ?_)
                          go_simp
                          refine (GY.out _ KD.out).mono ?_
                          rintro e V5 ⟨rfl, b2'⟩
                          have K2' := Lib.hid (KD.out.trans (b2'.mono KD.out.size))
                          have W2 := Lib.hid (WD.out.below b2')
                          have C2 := Lib.hid (CD.out.below b2')
                          refine hK _ _ (Sc.Cl.of C2.out) ?_
                          clear hK K b2' KD WD CD GY
                          repeat (refine Sd.lit ?_; quiet_step (fail); refine wpQuiet_nil ?_)
                          have d0 : V5.cell? ⟨gu, 0, none⟩ = some (.int .u8 0) := row_cell W2.out.ru 0
                          have d1 : V5.cell? ⟨gu, 1, none⟩ = some (.int .u8 0) := row_cell W2.out.ru 1
                          have d2 : V5.cell? ⟨gu, 2, none⟩ = some (.int .u8 0) := row_cell W2.out.ru 2
                          have d3 : V5.cell? ⟨gu, 3, none⟩ = some (.int .u8 0) := row_cell W2.out.ru 3
                          have z0 := row_frozen W2.out.ru 0
                          have z1 := row_frozen W2.out.ru 1
                          have z2' := row_frozen W2.out.ru 2
                          have z3 := row_frozen W2.out.ru 3
                          have NW : Hid (w7.heap.size ≤ gu) := Lib.hid (Nat.le_trans KJ.out.size W2.out.geu)
                          have C3 := Lib.hid (C2.out.sto (g := gu) (by have := N4.out; have := NW.out; omega) (by have := N5.out; have := NW.out; omega) y2)
                          have W6 := Lib.hid (W2.out.setU y2)
                          have K6 := Lib.hid (Fl.sto4_below (o := 0) (r := y2) K2'.out NW.out)
                          refine Sd.call (by rfl) (fun K hK => ?_)
                          go_simp
                          refine hK _ (Fl.sto4 V5 gu 0 y2) (Sc.Cl.of C3.out) ?_
                          clear hK K d0 d1 d2 d3 z0 z1 z2' z3 W2 K2' C2 ne
                          refine Sd.done ?_
                          generalize Fl.sto4 V5 gu 0 y2 = V6 at *
                          clear C3
                          obtain ⟨a2', c2', e2', _, _, HT2⟩ := RT7.out
                          injection e2' with e2a _ e2b
                          subst e2a e2b
                          have HT := Lib.hid HT2
                          clear HT2
                          generalize hlt' : lat T p = lt at *
                          have ELT := Lib.hid hlt'
                          clear hlt'
                          generalize hnt : lt.length = nt at *
                          have HNT := Lib.hid hnt
                          clear hnt
                          have NT : nt ≤ 70 := OKP.out
                          have x2 : _ = some _ := (K6.out.cell (World.block_lt_of_cell? _ _ X2'.out)).trans X2'.out
                          generalize rat cl' j = old at *
                          go_wp2
                          clear x2 K6
                          go_loopw [26, 25, 24] (fun i r hh wr5 => ∃ m : Nat, m ≤ nt ∧ i = .int .i64 m ∧ r = .bool (wR h1 lt cn j m) ∧ hh = .bool (wH c lt cn j m) ∧ Hid (WI wr gv gw gu (wV h1 lt cn j old m) y1 y2 wr5)) (fun i _ _ _ => nt - (intOf i).toNat)
                          case atStart => exact ⟨0, Nat.zero_le _, rfl, by rw [wR_zero], by rw [wH_zero], W6⟩
                          case round =>
                            rename_i wx wr
                            obtain ⟨m, hm, rfl, rfl, rfl, I⟩ := hrel
                            clear W6
                            have KX := Lib.hid (KJ.out.trans (I.out.bel.mono KJ.out.size))
                            have x2 : _ = some _ := (KX.out.cell (World.block_lt_of_cell? _ _ X2'.out)).trans X2'.out
                            by_cases hlm : m < nt
                            · have HM1 : Hid (m + 1 ≤ nt) := Lib.hid hlm
                              obtain ⟨b7, o7, rfl, A7'⟩ := HT.out (by omega)
                              obtain ⟨c0, c1', c2', c3', c4'⟩ := at5 (A7'.below KX.out) m (by have := HNT.out; omega)
                              rw [show lt.getD m z5 = eat lt m from rfl] at c0 c1' c2' c3' c4'
                              have hmem := Ro.eat_mem (l := lt) (i := m) (by have := HNT.out; omega)
                              have OKY := Lib.hid (OKE.out _ hmem)
                              have SY := Lib.hid (SND.out _ hmem)
                              have NR := Lib.hid (wR_next (h := h1) (n := cn) (j := (j : Int)) (t := lt) (k := m) (by have := HNT.out; omega))
                              have NH := Lib.hid (wH_next (c := c) (n := cn) (j := (j : Int)) (t := lt) (k := m) (by have := HNT.out; omega))
                              have NV := Lib.hid (wV_next (h := h1) (n := cn) (j := (j : Int)) (v := old) (t := lt) (k := m) (by have := HNT.out; omega))
                              generalize eat lt m = y at *
                              generalize wR h1 lt cn j m = ru at *
                              generalize wH c lt cn j m = hi at *
                              generalize wV h1 lt cn j old m = vv at *
                              obtain ⟨yk, ys, yf, yr, yy⟩ := y
                              simp only at c0 c1' c2' c3' c4' OKY SY
                              clear hmem A7'
                              have LGV : Hid (gv < wr.heap.size) := Lib.hid (lt_of_block I.out.rv)
                              have al := (Below.refl wr.heap.size wr).alloc (Nat.le_refl _) (.cells #[.int .i64 yk, .int .i64 ys, .int .i64 yf, .int .i64 yr, .int .i64 yy] 75)
                              have I1 := Lib.hid (I.out.below al)
                              have KX1 := Lib.hid (KX.out.trans (al.mono KX.out.size))
                              have YB : Hid ((wr.alloc (.cells #[.int .i64 yk, .int .i64 ys, .int .i64 yf, .int .i64 yr, .int .i64 yy] 75)).heap[wr.heap.size]? = some (.cells #[.int .i64 yk, .int .i64 ys, .int .i64 yf, .int .i64 yr, .int .i64 yy] 75 (0, 0))) := Lib.hid (heap_alloc_new wr _)
                              clear al
                              go_upto_region 33 with fail
                              clear c0 c1' c2' c3' c4' x2 I KX
                              generalize (wr.alloc (.cells #[.int .i64 yk, .int .i64 ys, .int .i64 yf, .int .i64 yr, .int .i64 yy] 75)) = Y at *
                              generalize wr.heap.size = gy at *
                              have t5 : Y.cell? ⟨b5, o5 + q * 3, none⟩ = some (.int .i64 cn) := (KX1.out.cell (World.block_lt_of_cell? _ _ T0.out)).trans T0.out
                              have T5 := Sd.cell_by t5
                              have Y2 := Sd.cell_by (show Y.cell? ⟨gy, 2, none⟩ = some (.int .i64 yf) from row_cell YB.out 2)
                              have Y3 := Sd.cell_by (show Y.cell? ⟨gy, 3, none⟩ = some (.int .i64 yr) from row_cell YB.out 3)
                              clear t5
                              by_cases hat : yf = cn ∧ yr = (j : Int)
                              · have ATT : Hid (at_ cn j (yk, ys, yf, yr, yy) = true) := Lib.hid (decide_eq_true hat)
                                obtain ⟨q1, q2⟩ := hat
                                subst yf
                                subst yr
                                refine Sd.start [(false, 0), (false, 1), (false, 2), (false, 3), (false, 4), (false, 5), (false, 6), (false, 7), (false, 8), (false, 9), (false, 10), (false, 11), (false, 12), (false, 13)] (by kernel_rfl) (by kernel_rfl) (by kernel_rfl) ?_
                                dsimp only [Sd.picks, List.getElem?_cons_succ, List.getElem?_cons_zero]
                                repeat (refine Sd.lit ?_; (first | (refine Qk.skip (by rfl) (by rfl) ?_) | quiet_step (fail)); refine wpQuiet_nil ?_)
                                refine Sd.done ?_
                                have dr := (Below.refl Y.heap.size Y).drew
                                have I2 := Lib.hid (I1.out.below dr)
                                have KX2 := Lib.hid (KX1.out.trans (dr.mono KX1.out.size))
                                have YB2 : Hid (_ = some _) := Lib.hid ((dr.block _ (lt_of_block YB.out)).trans YB.out)
                                clear dr T5 Y2 Y3 I1 KX1 YB
                                generalize Y.drew = Y1 at *
                                as_aux_lemma =>
                                  have k0 : Y1.cell? ⟨gy, 0, none⟩ = some (.int .i64 yk) := row_cell YB2.out 0
                                  have k1 : Y1.cell? ⟨gy, 1, none⟩ = some (.int .i64 ys) := row_cell YB2.out 1
                                  go_upto_region 34 with fail
                                  go_cut [25] from 167 to 246 (fun r wx => Value.bool (ru || decide (yk = 3)) = r ∧ Y1 = wx)
                                  case first =>
                                    cases ru with
                                    | true =>
                                      go_wp2
                                      go_meet
                                      exact ⟨rfl, rfl⟩
                                    | false =>
                                      by_cases h3 : yk = 3
                                      · have h3' : (yk == 3) = true := by simpa using h3
                                        have D1 := Lib.hid (decide_eq_true h3)
                                        clear h3
                                        go_wp2
                                        go_meet
                                        exact ⟨by rw [D1.out]; rfl, rfl⟩
                                      · have h3' : (yk == 3) = false := by simpa using h3
                                        have D1 := Lib.hid (decide_eq_false h3)
                                        clear h3
                                        go_wp2
                                        go_meet
                                        exact ⟨by rw [D1.out]; rfl, rfl⟩
                                  case rest =>
                                    obtain ⟨e1, e2⟩ := hcut
                                    subst e1
                                    subst e2
                                    go_upto_region 35 with fail
                                    go_cut [24] from 167 to 246 (fun hh wx => Value.bool (hi || (decide (yk = 2) && decide (ys = c))) = hh ∧ Y1 = wx)
                                    case first =>
                                      cases hi with
                                      | true =>
                                        go_wp2
                                        go_meet
                                        exact ⟨rfl, rfl⟩
                                      | false =>
                                        by_cases h2 : yk = 2
                                        · have h2' : (yk == 2) = true := by simpa using h2
                                          have D1 := Lib.hid (decide_eq_true h2)
                                          clear h2
                                          by_cases h3 : ys = c
                                          · have h3' : (ys == c) = true := by simpa using h3
                                            have D2 := Lib.hid (decide_eq_true h3)
                                            clear h3
                                            go_wp2
                                            go_meet
                                            exact ⟨by rw [D1.out, D2.out]; rfl, rfl⟩
                                          · have h3' : (ys == c) = false := by simpa using h3
                                            have D2 := Lib.hid (decide_eq_false h3)
                                            clear h3
                                            go_wp2
                                            go_meet
                                            exact ⟨by rw [D1.out, D2.out]; rfl, rfl⟩
                                        · have h2' : (yk == 2) = false := by simpa using h2
                                          have D1 := Lib.hid (decide_eq_false h2)
                                          clear h2
                                          go_wp2
                                          go_meet
                                          exact ⟨by rw [D1.out]; rfl, rfl⟩
                                    case rest =>
                                      obtain ⟨e1, e2⟩ := hcut
                                      subst e1
                                      subst e2
                                      by_cases h2 : yk = 2
                                      · subst yk
                                        as_aux_lemma =>
                                          have ok1 := OKY.out.1
                                          unfold okE Ro.place at ok1
                                          simp only at ok1
                                          have SY0 := SY.out rfl
                                          have HS := Lib.hid (WF.out.hs ys (by omega) (by omega) SY0)
                                          obtain ⟨sf, es, hsf, -, oz, -, -⟩ := sender_is TE.out SY0
                                          have RS := Lib.hid (fun W (b : Below w7.heap.size w7 W) => Ck.rsender_any W _ T ys (H7.out.tb.below b))
                                          unfold Ck.WhoPost ent at RS
                                          rw [es] at HS RS
                                          have bz := Ro.okE_bounds oz
                                          obtain ⟨yb, rfl⟩ : ∃ n : Nat, yy = n := ⟨yy.toNat, by omega⟩
                                          have hy4 : yb < 4 := by omega
                                          have SFK : Hid (sf < k) := Lib.hid (by have := TL.out; omega)
                                          generalize sE ys T = z at *
                                          obtain ⟨zk, zs, zf, zr, zz⟩ := z
                                          simp only at HS RS bz
                                          obtain ⟨zb, rfl⟩ : ∃ n : Nat, zz = n := ⟨zz.toNat, by omega⟩
                                          have hz4 : zb < 4 := by omega
                                          obtain ⟨b8, o8, c8, s8, e8, x8, g8⟩ := H7.out.st.one (k := sf) (by have := SL.out; have := SFK.out; omega)
                                          rw [SL.out] at e8
                                          injection e8 with e8 _ e8'
                                          injection e8 with e8
                                          injection e8 with e8a e8b
                                          subst e8a e8b e8'
                                          have GZ := Lib.hid (fun W (b : Below w7.heap.size w7 W) => get_has (g8.below b) (wf_of (n := zf) ⟨bz.2.2.1.1, by have := bz.2.2.1.2; omega⟩) zr)
                                          unfold GetPost rec4 at GZ
                                          generalize gV (sat S sf).1 zf zr = qv at *
                                          generalize gB (sat S sf).1 zf zr = qb at *
                                          unfold ptr at x8
                                          have X8 := Lib.hid x8
                                          clear x8 g8 oz SY0 hsf bz
                                          go_wp2_with fail
                                          refine (RS.out Y1 KX2.out).mono ?_
                                          rintro e w10 ⟨rfl, b10⟩
                                          clear k0 k1
                                          have I3 := Lib.hid (I2.out.below b10)
                                          have KX3 := Lib.hid (KX2.out.trans (b10.mono KX2.out.size))
                                          have YB3 : Hid (w10.heap[gy]? = some (.cells #[.int .i64 2, .int .i64 ys, .int .i64 cn, .int .i64 (j : Int), .int .i64 (yb : Int)] 75 (0, 0))) := Lib.hid ((b10.block _ (lt_of_block YB2.out)).trans YB2.out)
                                          have al := (Below.refl w10.heap.size w10).alloc (Nat.le_refl _) (.cells #[.int .i64 zk, .int .i64 zs, .int .i64 zf, .int .i64 zr, .int .i64 (zb : Int)] 75)
                                          have I4 := Lib.hid (I3.out.below al)
                                          have KX4 := Lib.hid (KX3.out.trans (al.mono KX3.out.size))
                                          have YB4 : Hid (_ = some (Obj.cells #[.int .i64 2, .int .i64 ys, .int .i64 cn, .int .i64 (j : Int), .int .i64 (yb : Int)] 75 (0, 0))) := Lib.hid ((al.block _ (lt_of_block YB3.out)).trans YB3.out)
                                          have ZB4 : Hid ((w10.alloc (.cells #[.int .i64 zk, .int .i64 zs, .int .i64 zf, .int .i64 zr, .int .i64 (zb : Int)] 75)).heap[w10.heap.size]? = some (.cells #[.int .i64 zk, .int .i64 zs, .int .i64 zf, .int .i64 zr, .int .i64 (zb : Int)] 75 (0, 0))) := Lib.hid (heap_alloc_new w10 _)
                                          have LGZ : Hid (gy < w10.heap.size) := Lib.hid (lt_of_block YB3.out)
                                          clear al b10 I2 I3 KX2 KX3 YB2 YB3 RS
                                          go_upto_region 40 with fail
                                          generalize (w10.alloc (.cells #[.int .i64 zk, .int .i64 zs, .int .i64 zf, .int .i64 zr, .int .i64 (zb : Int)] 75)) = Y2 at *
                                          generalize w10.heap.size = gz at *
                                          have x8 : Y2.cell? ⟨b1, o1 + sf, none⟩ = some (.pointer (some ⟨s8, 0, none⟩)) := (KX4.out.cell (World.block_lt_of_cell? _ _ X8.out)).trans X8.out
                                          have z2' : Y2.cell? ⟨gz, 2, none⟩ = some (.int .i64 zf) := row_cell ZB4.out 2
                                          have z3' : Y2.cell? ⟨gz, 3, none⟩ = some (.int .i64 zr) := row_cell ZB4.out 3
                                          replace x8 := Sd.cell_by x8
                                          replace z2' := Sd.cell_by z2'
                                          replace z3' := Sd.cell_by z3'
                                          have sfk := SFK.out
                                          refine Sf.start [(0, 0), (0, 1), (0, 2), (0, 3), (0, 4), (0, 5), (0, 6), (0, 7), (1, 8), (0, 9), (0, 10), (0, 11), (2, 12), (1, 13), (0, 14)] [⟨12, 30, #[.int .u8 0, .int .u8 0, .int .u8 0, .int .u8 0], 71⟩] (by kernel_rfl) (by kernel_rfl) (by kernel_rfl) (by decide) (by decide) ?_ ?_ ?_
                                          · simp
                                          · intro f hf
                                            simp only [List.mem_cons, List.not_mem_nil, or_false] at hf
                                            subst hf
                                            exact ⟨_, rfl, rfl, rfl, fun ρ w => by go_simp⟩
                                          dsimp only [Sf.picks, List.getElem?_cons_succ, List.getElem?_cons_zero]
                                          have BW := Lib.hid ((Below.refl Y2.heap.size Y2).drew)
                                          repeat (refine Sf.lit (fun xs => ?_); simp only [Sf.fill, List.foldl_cons, List.foldl_nil]; quiet_step (fail); refine wpQuiet_nil ?_)
                                          refine Sf.call (fun xs w11 hb hc => ⟨by rfl, fun K hK => ?_⟩)
                                          have B11 := Lib.hid (BW.out.trans (hb.mono BW.out.size))
                                          clear hb hc BW x8 z2' z3'
                                          simp only [Sf.fill, List.foldl_cons, List.foldl_nil]
                                          go_simp
                                          refine (GZ.out w11 (KX4.out.trans (B11.out.mono KX4.out.size))).mono ?_
                                          rintro e4 w12 ⟨rfl, b12⟩
                                          have B12 := Lib.hid (B11.out.trans (b12.mono B11.out.size))
                                          refine hK _ _ (Sd.Cl.of B12.out) b12.size (fun _ => b12) ?_
                                          clear hK K b12 B11 GZ
                                          repeat (refine Sf.lit (fun xs => ?_); simp only [Sf.fill, List.foldl_cons, List.foldl_nil]; quiet_step (fail); refine wpQuiet_nil ?_)
                                          refine Sf.meet (fun gq w13 hb hc row n13 hH hL => ?_)
                                          have B13 := Lib.hid (B12.out.trans (hb.mono B12.out.size))
                                          have R13 : Hid (w13.heap[gq]? = some (.cells (arr4 z4) 71 (0, 0))) := row
                                          clear hb hc row hH hL B12
                                          repeat (refine Sf.lit (fun xs => ?_); simp only [Sf.fill, List.foldl_nil]; quiet_step (fail); refine wpQuiet_nil ?_)
                                          refine Sf.call (fun xs w14 hb hc => ⟨by rfl, fun K hK => ?_⟩)
                                          have B14 := Lib.hid (B13.out.trans (hb.mono B13.out.size))
                                          have R14 : Hid (w14.heap[gq]? = some (.cells (arr4 z4) 71 (0, 0))) := Lib.hid ((hb.block _ (lt_of_block R13.out)).trans R13.out)
                                          have d0 : w14.cell? ⟨gq, 0, none⟩ = some (.int .u8 0) := row_cell R14.out 0
                                          have d1 : w14.cell? ⟨gq, 1, none⟩ = some (.int .u8 0) := row_cell R14.out 1
                                          have d2 : w14.cell? ⟨gq, 2, none⟩ = some (.int .u8 0) := row_cell R14.out 2
                                          have d3 : w14.cell? ⟨gq, 3, none⟩ = some (.int .u8 0) := row_cell R14.out 3
                                          have f0 := row_frozen R14.out 0
                                          have f1 := row_frozen R14.out 1
                                          have f2 := row_frozen R14.out 2
                                          have f3 := row_frozen R14.out 3
                                          have BA := Lib.hid (Fl.sto4_below (g := gq) (o := 0) (r := qv) B14.out n13)
                                          have RA := Lib.hid (Fl.sto4_row R14.out qv)
                                          have hsz := Fl.sto4_size w14 gq 0 qv
                                          clear hb hc B13 R13 R14
                                          simp only [Sf.fill, List.foldl_nil]
                                          go_simp
                                          refine hK _ (Fl.sto4 w14 gq 0 qv) (Sd.Cl.of BA.out) (by rw [hsz]; exact Nat.le_refl _) (fun h => absurd rfl h) ?_
                                          clear hK K d0 d1 d2 d3 f0 f1 f2 f3 hsz B14
                                          generalize Fl.sto4 w14 gq 0 qv = w15 at *
                                          repeat (refine Sf.lit (fun xs => ?_); simp only [Sf.fill, List.foldl_nil]; quiet_step (fail); refine wpQuiet_nil ?_)
                                          refine Sf.done (fun w16 hb hc => ?_)
                                          have BB := BA.out.trans (hb.mono BA.out.size)
                                          have QB : Hid (w16.heap[gq]? = some (.cells (arr4 qv) 71 (0, 0))) := Lib.hid ((hb.block _ (lt_of_block RA.out)).trans RA.out)
                                          have NQ : Hid (gz < gq) := Lib.hid (Nat.lt_of_lt_of_le (lt_of_block ZB4.out) n13)
                                          have I5 := Lib.hid (I4.out.below BB)
                                          have YB5 : Hid (w16.heap[gy]? = some (.cells #[.int .i64 2, .int .i64 ys, .int .i64 cn, .int .i64 (j : Int), .int .i64 (yb : Int)] 75 (0, 0))) := Lib.hid ((BB.block _ (lt_of_block YB4.out)).trans YB4.out)
                                          have ZB5 : Hid (w16.heap[gz]? = some (.cells #[.int .i64 zk, .int .i64 zs, .int .i64 zf, .int .i64 zr, .int .i64 (zb : Int)] 75 (0, 0))) := Lib.hid ((BB.block _ (lt_of_block ZB4.out)).trans ZB4.out)
                                          clear hb hc BB BA RA n13
                                          have MT : Hid (mt cn j (2, ys, cn, j, yb) = true) := Lib.hid (by rw [mt_at, ATT.out]; rfl)
                                          have NH2 : Hid (wH c lt cn j (m + 1) = (hi || decide (ys = c))) := Lib.hid (by rw [NH.out]; unfold wh1; rw [ATT.out]; simp)
                                          generalize (hi || decide (ys = c)) = hi2 at *
                                          have hm1 := HM1.out
                                          cases qb with
                                          | true =>
                                            have HV : h1 ys = some (rb qv zb) := by rw [HS.out]; rfl
                                            have NR2 : Hid (wR h1 lt cn j (m + 1) = ru) := Lib.hid (by rw [NR.out]; unfold wr1; rw [HV]; simp)
                                            have NV2 : Hid (wV h1 lt cn j old (m + 1) = rs vv yb (rb qv zb)) := Lib.hid (by rw [NV.out]; unfold wst; rw [MT.out, HV]; rfl)
                                            clear HS HV
                                            go_upto_region 42 with fail
                                            have C0 : VzC gy (2, ys, cn, (j : Int), (yb : Int)) gz (zk, zs, zf, zr, (zb : Int)) gq qv w16.drew := ⟨YB5.out, ZB5.out, QB.out⟩
                                            have ne : Nonempty (Sc.In (VzC gy (2, ys, cn, (j : Int), (yb : Int)) gz (zk, zs, zf, zr, (zb : Int)) gq qv)) := ⟨⟨_, C0⟩⟩
                                            have v0 := Sc.cell_in (C := VzC gy (2, ys, cn, (j : Int), (yb : Int)) gz (zk, zs, zf, zr, (zb : Int)) gq qv) (a := ⟨gy, 4, none⟩) (v := .int .i64 (yb : Int)) (fun W' h => row_cell h.y 4)
                                            have v1 := Sc.cell_in (C := VzC gy (2, ys, cn, (j : Int), (yb : Int)) gz (zk, zs, zf, zr, (zb : Int)) gq qv) (a := ⟨gz, 4, none⟩) (v := .int .i64 (zb : Int)) (fun W' h => row_cell h.z 4)
                                            have v2 := Sc.cell_in (C := VzC gy (2, ys, cn, (j : Int), (yb : Int)) gz (zk, zs, zf, zr, (zb : Int)) gq qv) (a := ⟨gq, zb, none⟩) (v := .int .u8 (rb qv zb)) (fun W' h => (row_cell h.q zb).trans (arr4_get qv hz4))
                                            have ir := ix_rec gq zb hz4
                                            have iv := ix_rec gv yb hy4
                                            refine Sc.start (VzC gy (2, ys, cn, (j : Int), (yb : Int)) gz (zk, zs, zf, zr, (zb : Int)) gq qv) [(false, 0), (false, 1), (false, 2), (false, 3), (false, 4), (false, 5), (false, 6), (true, 7)] (by kernel_rfl) (by kernel_rfl) (by kernel_rfl) C0 ?_
                                            dsimp only [Sd.picks, List.getElem?_cons_succ, List.getElem?_cons_zero]
                                            repeat (refine Sd.lit ?_; quiet_step (fail); refine wpQuiet_nil ?_)
                                            have I6 := Lib.hid (I5.out.below ((Below.refl w16.heap.size w16).drew))
                                            clear v0 v1 v2 ir iv I5
                                            generalize w16.drew = w17 at *
                                            have sc : w17.cell? ⟨gv, yb, none⟩ = some (.int .u8 (rb vv yb)) := (row_cell I6.out.rv yb).trans (arr4_get vv hy4)
                                            have sf' := row_frozen I6.out.rv yb
                                            have I7' := Lib.hid (I6.out.put hy4 (rb qv zb))
                                            have C1 : VzC gy (2, ys, cn, (j : Int), (yb : Int)) gz (zk, zs, zf, zr, (zb : Int)) gq qv (w17.setCell ⟨gv, yb, none⟩ (.int .u8 (rb qv zb))) := C0.put (by have := LGV.out; omega) (by have := LGV.out; have := LGZ.out; omega) (by have := LGV.out; have := LGZ.out; have := NQ.out; omega)
                                            refine Sd.call (by rfl) (fun K hK => ?_)
                                            go_simp
                                            refine hK _ _ (Sc.Cl.of C1) ?_
                                            clear hK K sc sf' C0 C1 ne I6
                                            refine Sd.done ?_
                                            go_wp2
                                            go_roundw
                                            case rel => exact ⟨m + 1, HM1.out, by go_num, by rw [NR2.out], by rw [NH2.out], by rw [NV2.out]; exact I7'⟩
                                            case measure => have := HM1.out; simp [intOf]; omega
                                          | false =>
                                            have HV : h1 ys = none := by rw [HS.out]; rfl
                                            have NR2 : Hid (wR h1 lt cn j (m + 1) = true) := Lib.hid (by rw [NR.out]; unfold wr1; rw [HV, ATT.out]; simp)
                                            have NV2 : Hid (wV h1 lt cn j old (m + 1) = vv) := Lib.hid (by rw [NV.out]; unfold wst; rw [HV]; simp)
                                            clear HS HV
                                            go_wp2
                                            go_roundw
                                            case rel => exact ⟨m + 1, HM1.out, by go_num, by rw [NR2.out], by rw [NH2.out], by rw [NV2.out]; exact I5⟩
                                            case measure => have := HM1.out; simp [intOf]; omega
                                      · have h2' : (yk == 2) = false := by simpa using h2
                                        have NR2 : Hid (wR h1 lt cn j (m + 1) = (ru || decide (yk = 3))) := Lib.hid (by rw [NR.out]; unfold wr1; rw [ATT.out, decide_eq_false h2]; simp)
                                        have NH2 : Hid (wH c lt cn j (m + 1) = (hi || (decide (yk = 2) && decide (ys = c)))) := Lib.hid (by rw [NH.out]; unfold wh1; rw [ATT.out]; simp)
                                        have NV2 : Hid (wV h1 lt cn j old (m + 1) = vv) := Lib.hid (by rw [NV.out]; unfold wst; rw [mt_at, decide_eq_false h2]; simp)
                                        generalize (hi || (decide (yk = 2) && decide (ys = c))) = hi2 at *
                                        generalize (ru || decide (yk = 3)) = ru2 at *
                                        clear h2
                                        have hm1 := HM1.out
                                        go_wp2
                                        go_roundw
                                        case rel => exact ⟨m + 1, HM1.out, by go_num, by rw [NR2.out], by rw [NH2.out], by rw [NV2.out]; exact I2⟩
                                        case measure => have := HM1.out; simp [intOf]; omega
                              · have ATF : Hid (at_ cn j (yk, ys, yf, yr, yy) = false) := Lib.hid (decide_eq_false hat)
                                have NR2 : Hid (wR h1 lt cn j (m + 1) = ru) := Lib.hid (by rw [NR.out]; unfold wr1; rw [ATF.out]; simp)
                                have NH2 : Hid (wH c lt cn j (m + 1) = hi) := Lib.hid (by rw [NH.out]; unfold wh1; rw [ATF.out]; simp)
                                have NV2 : Hid (wV h1 lt cn j old (m + 1) = vv) := Lib.hid (by rw [NV.out]; unfold wst; rw [mt_at, ATF.out]; simp)
                                by_cases hyf : yf = cn
                                · subst yf
                                  as_aux_lemma =>
                                    have hyr : (yr != (j : Int)) = true := by
                                      have : ¬ yr = (j : Int) := fun e => hat ⟨rfl, e⟩
                                      simpa using this
                                    clear hat
                                    refine Sd.start [(false, 0), (false, 1), (false, 2), (false, 3), (false, 4), (false, 5), (false, 6), (false, 7), (false, 8), (false, 9), (false, 10), (false, 11), (false, 12), (false, 13)] (by kernel_rfl) (by kernel_rfl) (by kernel_rfl) ?_
                                    dsimp only [Sd.picks, List.getElem?_cons_succ, List.getElem?_cons_zero]
                                    repeat (refine Sd.lit ?_; (first | (refine Qk.skip (by rfl) (by rfl) ?_) | quiet_step (fail)); refine wpQuiet_nil ?_)
                                    refine Sd.done ?_
                                    have I2 := Lib.hid (I1.out.below ((Below.refl Y.heap.size Y).drew))
                                    clear T5 Y2 Y3 I1 KX1 YB
                                    generalize Y.drew = Y1 at *
                                    have hm1 := HM1.out
                                    go_wp2
                                    go_roundw
                                    case rel => exact ⟨m + 1, HM1.out, by go_num, by rw [NR2.out], by rw [NH2.out], by rw [NV2.out]; exact I2⟩
                                    case measure => have := HM1.out; simp [intOf]; omega
                                · have hyf' : (yf != cn) = true := by simpa using hyf
                                  as_aux_lemma =>
                                    clear hat hyf
                                    refine Sd.start [(false, 0), (false, 1), (false, 2), (false, 3), (false, 4), (false, 5), (false, 6), (false, 7), (false, 8), (false, 9), (false, 10), (false, 11), (false, 12), (false, 13)] (by kernel_rfl) (by kernel_rfl) (by kernel_rfl) ?_
                                    dsimp only [Sd.picks, List.getElem?_cons_succ, List.getElem?_cons_zero]
                                    repeat (refine Sd.lit ?_; (first | (refine Qk.skip (by rfl) (by rfl) ?_) | quiet_step (fail)); refine wpQuiet_nil ?_)
                                    refine Sd.done ?_
                                    have I2 := Lib.hid (I1.out.below ((Below.refl Y.heap.size Y).drew))
                                    clear T5 Y2 Y3 I1 KX1 YB
                                    generalize Y.drew = Y1 at *
                                    have hm1 := HM1.out
                                    go_wp2
                                    go_roundw
                                    case rel => exact ⟨m + 1, HM1.out, by go_num, by rw [NR2.out], by rw [NH2.out], by rw [NV2.out]; exact I2⟩
                                    case measure => have := HM1.out; simp [intOf]; omega
                            · obtain rfl : m = nt := by omega
                              as_aux_lemma =>
                                generalize wH c lt cn j m = hi at *
                                generalize wV h1 lt cn j old m = vv at *
                                cases hru : wR h1 lt cn j m with
                                | true =>
                                  have J2 := KX
                                  have hj1 := HJ1.out
                                  clear WJ
                                  go_wp2
                                  go_roundw
                                  case rel => exact ⟨j + 1, HJ1.out, by go_num, J2⟩
                                  case measure => have := HJ1.out; simp [intOf]; omega
                                | false =>
                                  obtain ⟨w1', w2'⟩ := WJ.out hru
                                  subst w1'
                                  cases hi with
                                  | true =>
                                    rw [if_pos rfl] at w2'
                                    rw [w2'] at I
                                    clear w2'
                                    have es : ∀ w, (Op.equalIn 10000 71 (.agg #[.int .u8 y1.1, .int .u8 y1.2.1, .int .u8 y1.2.2.1, .int .u8 y1.2.2.2]) (.agg #[.int .u8 y1.1, .int .u8 y1.2.1, .int .u8 y1.2.2.1, .int .u8 y1.2.2.2])).run Tryz.prog w = .ok true w := fun w => by
                                      have := Fl.eq_rec y1 y1 w
                                      simpa using this
                                    have eo : ∀ w, (Op.equalIn 10000 71 (.agg #[.int .u8 old.1, .int .u8 old.2.1, .int .u8 old.2.2.1, .int .u8 old.2.2.2]) (.agg #[.int .u8 old.1, .int .u8 old.2.1, .int .u8 old.2.2.1, .int .u8 old.2.2.2])).run Tryz.prog w = .ok true w := fun w => by
                                      have := Fl.eq_rec old old w
                                      simpa using this
                                    obtain ⟨⟨p0, p1⟩, p2, p3⟩ := RR.out
                                    have q0 := Sd.cell_by ((I.out.bel.cell (World.block_lt_of_cell? _ _ p0)).trans p0)
                                    have q1 := Sd.cell_by ((I.out.bel.cell (World.block_lt_of_cell? _ _ p1)).trans p1)
                                    have q2 := Sd.cell_by ((I.out.bel.cell (World.block_lt_of_cell? _ _ p2)).trans p2)
                                    have q3 := Sd.cell_by ((I.out.bel.cell (World.block_lt_of_cell? _ _ p3)).trans p3)
                                    have q4 := Sd.cell_by ((KX.out.cell (World.block_lt_of_cell? _ _ T2.out)).trans T2.out)
                                    have hj1 := HJ1.out
                                    clear p0 p1 p2 p3
                                    go_upto_region 45 with fail
                                    refine Sd.start [(false, 0), (false, 1), (false, 2), (false, 3), (false, 4), (false, 5), (false, 6), (false, 7), (false, 8), (false, 9), (false, 10), (false, 11), (false, 12), (false, 13), (false, 14), (false, 15), (false, 16), (false, 17), (false, 18), (false, 19), (false, 20), (false, 21), (false, 22), (false, 23), (false, 24), (false, 25), (false, 26), (false, 27)] (by kernel_rfl) (by kernel_rfl) (by kernel_rfl) ?_
                                    dsimp only [Sd.picks, List.getElem?_cons_succ, List.getElem?_cons_zero]
                                    refine lit_rec (by rfl) _ rfl gw y1 rfl I.out.rx ?_
                                    refine lit_rec (by rfl) _ rfl gv y1 rfl I.out.rv ?_
                                    unfold rec4
                                    repeat (refine Sd.lit ?_; (first | (refine Qk.skip (by rfl) (by rfl) ?_) | quiet_step (fail)); refine wpQuiet_nil ?_)
                                    refine lit_rec (by rfl) _ rfl gu old rfl I.out.ru ?_
                                    unfold rec4
                                    repeat (refine Sd.lit ?_; (first | (refine Qk.skip (by rfl) (by rfl) ?_) | quiet_step (fail)); refine wpQuiet_nil ?_)
                                    refine Sd.done ?_
                                    have J2 := Lib.hid (KX.out.trans ((Below.refl wr.heap.size wr).drew.mono KX.out.size))
                                    clear es eo q0 q1 q2 q3 q4
                                    generalize wr.drew = wz at *
                                    go_wp2
                                    go_roundw
                                    case rel => exact ⟨j + 1, HJ1.out, by go_num, J2⟩
                                    case measure => have := HJ1.out; simp [intOf]; omega
                                  | false =>
                                    rw [if_neg Bool.false_ne_true] at w2'
                                    rw [w2'] at I
                                    clear w2'
                                    have es : ∀ w, (Op.equalIn 10000 71 (.agg #[.int .u8 y1.1, .int .u8 y1.2.1, .int .u8 y1.2.2.1, .int .u8 y1.2.2.2]) (.agg #[.int .u8 y1.1, .int .u8 y1.2.1, .int .u8 y1.2.2.1, .int .u8 y1.2.2.2])).run Tryz.prog w = .ok true w := fun w => by
                                      have := Fl.eq_rec y1 y1 w
                                      simpa using this
                                    have hj1 := HJ1.out
                                    go_upto_region 45 with fail
                                    refine Sd.start [(false, 0), (false, 1), (false, 2), (false, 3), (false, 4), (false, 5), (false, 6), (false, 7), (false, 8), (false, 9), (false, 10), (false, 11), (false, 12), (false, 13), (false, 14), (false, 15), (false, 16), (false, 17), (false, 18), (false, 19), (false, 20), (false, 21), (false, 22), (false, 23), (false, 24), (false, 25), (false, 26), (false, 27)] (by kernel_rfl) (by kernel_rfl) (by kernel_rfl) ?_
                                    dsimp only [Sd.picks, List.getElem?_cons_succ, List.getElem?_cons_zero]
                                    refine lit_rec (by rfl) _ rfl gw y1 rfl I.out.rx ?_
                                    refine lit_rec (by rfl) _ rfl gv y1 rfl I.out.rv ?_
                                    unfold rec4
                                    repeat (refine Sd.lit ?_; (first | (refine Qk.skip (by rfl) (by rfl) ?_) | quiet_step (fail)); refine wpQuiet_nil ?_)
                                    refine lit_rec (by rfl) _ rfl gu y1 rfl I.out.ru ?_
                                    refine lit_rec (by rfl) _ rfl gw y1 rfl I.out.rx ?_
                                    unfold rec4
                                    repeat (refine Sd.lit ?_; (first | (refine Qk.skip (by rfl) (by rfl) ?_) | quiet_step (fail)); refine wpQuiet_nil ?_)
                                    refine Sd.done ?_
                                    have J2 := Lib.hid (KX.out.trans ((Below.refl wr.heap.size wr).drew.mono KX.out.size))
                                    clear es
                                    generalize wr.drew = wz at *
                                    go_wp2
                                    go_roundw
                                    case rel => exact ⟨j + 1, HJ1.out, by go_num, J2⟩
                                    case measure => have := HJ1.out; simp [intOf]; omega
                      · obtain rfl : j = nr := by omega
                        have hq1 := HQ1.out
                        clear t0
                        go_wp2
                        go_roundw
                        case rel => exact ⟨q + 1, HQ1.out, by go_num, KJ⟩
                        case measure => have := HQ1.out; simp [intOf]; omega
                · obtain rfl : q = nf := by omega
                  have hp1 := HP1.out
                  have JJ := Lib.hid (I7.out.trans (J.out.mono I7.out.size))
                  go_wp2
                  go_roundw
                  case rel => exact ⟨p + 1, HP1.out, by go_num, JJ⟩
                  case measure => have := HP1.out; simp [intOf]; omega
          · obtain rfl : p = k := by omega
            have JJ := Lib.hid (B5.out.trans (I.out.mono B5.out.size))
            go_wp2_with fail
            refine (AW.out _ JJ.out).mono ?_
            rintro e v6 ⟨rfl, b6⟩
            have Z := Lib.hid (JJ.out.trans (b6.mono JJ.out.size))
            go_wp2
            go_ret
            exact ⟨rfl, Z.out⟩
      · have LA : Hid (rdL S T V' [] = []) := Lib.hid (if_neg hE)
        have LB : Hid (rdL S T V' [(c, m)] = []) := Lib.hid (if_neg hE)
        rw [LA.out, LB.out] at H5
        obtain ⟨aa, ca, rfl, _⟩ := H5.out.a.slice
        obtain ⟨ba, cb, rfl, _⟩ := H5.out.b.slice
        have hne : (rdE S T V' != 0) = true := by simpa using hE
        clear LA LB hE H5 VT
        generalize rdE S T V' = E at *
        go_wp2_with fail
        refine (AW.out _ B5.out).mono ?_
        rintro e v6 ⟨rfl, b6⟩
        have Z := Lib.hid (B5.out.trans (b6.mono B5.out.size))
        go_wp2
        go_ret
        exact ⟨rfl, Z.out⟩

end Go.Proofs.YtilacdjekdngkaaGreatDoor.Pa
