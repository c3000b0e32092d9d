/- The document's own functions of layer 9: the header, new files, what may be, what is alike. -/
import Derived.Test.YtoeemngekioldaaDoorFlMem
import Derived.Test.YtoeemngekioldaaDoorQb
import Derived.Laws.Rows
import Derived.Deep.WholeRow
namespace Go.Proofs.YtoeemngekioldaaDoor.Fl
open Go.RowKit
open Go.Proofs.YtoeemngekioldaaDoor.Rw (Rd Ow At)

set_option maxHeartbeats 400000 in
theorem rhdr_any (w : World) (p n : Int) (p0 : 0 ≤ p) (p1 : p ≤ 7) (n0 : 0 ≤ n) (n1 : n ≤ 255) : Calls Tryd.prog 36 #[.int .i64 p, .int .i64 n] w fun e w' => e = .returned (rec4 (hdr p n)) ∧ Below w.heap.size w w' := by
  go_enter Tryd.func36, Tryd.ntmps36
  go_wp2
  (try simp only [Exit.inBlock, Exit.then])
  refine bodyPost_ret (v := rec4 (hdr p n)) ?_ rfl ⟨rfl, ?_⟩
  · exact results_cell_row (p := 4) rfl _ _ w.heap.size 32 _ (0, 0) _ rfl (heap_alloc_new w _) Tryd.underlying32 rfl (by show _ = some 4; kernel_rfl)
  · exact (Below.refl w.heap.size w).alloc (Nat.le_refl _) _

set_option maxHeartbeats 1000000 in
theorem rgood_any (w : World) (p : Int) (v : Value) (l : List R4) (R : Rd K4 w v l) : Calls Tryd.prog 21 #[file p v] w fun e w' => e = .returned (.bool (goodFB p l)) ∧ Below w.heap.size w w' := by
  have B0 := Lib.hid ((Below.refl w.heap.size w).alloc (Nat.le_refl _) (.cells #[.int .i64 p, v] 35))
  have R0 := Lib.hid (R.below B0.out)
  have HNO : Hid (¬ goodF p l → false = goodFB p l) := fun h => (decide_eq_false h).symm
  have HD : Hid (0 ≤ p → p ≤ 7 → 1 ≤ l.length → l.length ≤ 256 → decide (rat l 0 = hdr p ((l.length : Int) - 1)) = goodFB p l) := fun a b c d => by
    unfold goodFB
    rw [decide_eq_decide]
    exact ⟨fun h => ⟨a, b, c, d, h⟩, fun h => h.2.2.2.2⟩
  clear R
  unfold file
  by_cases h1 : 0 ≤ p
  · by_cases h2 : p ≤ 7
    · obtain ⟨a, cap, rfl, _, hm, hA⟩ := R0.out
      have HA := Lib.hid hA
      unfold maxLen at hm
      clear hA R0
      by_cases h3 : 1 ≤ l.length
      · by_cases h4 : l.length ≤ 256
        · have E := Lib.hid (HD.out h1 h2 h3 h4)
          have hh := fun w => rhdr_any w p ((l.length : Int) - 1) h1 h2 (by omega) (by omega)
          obtain ⟨b, off, rfl, hA⟩ := HA.out (by omega)
          obtain ⟨c0, c1, c2, c3⟩ := at4_0 hA (by omega)
          have q0 := Qb.cell_by c0
          have q1 := Qb.cell_by c1
          have q2 := Qb.cell_by c2
          have q3 := Qb.cell_by c3
          clear hA HA HD HNO c0 c1 c2 c3
          generalize rat l 0 = r at *
          generalize l.length = n at *
          generalize hdr p ((n : Int) - 1) = q at *
          unfold rec4 at hh
          have HH := Lib.hid hh
          clear hh
          have es := eq_rec r q
          have hn0 : ((n : Int) == 0) = false := by simp; omega
          have W0 : IntKind.i64.wrap ((n : Int) - 1) = (n : Int) - 1 := IntWalk.i64_in _ (by omega)
          have hn1 : 0 < n := by omega
          have hn2 : (0 : Int) < n := by omega
          have k0 := Qb.cell_by (show (w.alloc (.cells #[.int .i64 p, .slice (some ⟨b, off, none⟩) n cap] 35)).cell? ⟨w.heap.size, 0, none⟩ = some (.int .i64 p) by go_simp)
          have k1 := Qb.cell_by (show (w.alloc (.cells #[.int .i64 p, .slice (some ⟨b, off, none⟩) n cap] 35)).cell? ⟨w.heap.size, 1, none⟩ = some (.slice (some ⟨b, off, none⟩) n cap) by go_simp)
          go_enter Tryd.func21, Tryd.ntmps21
          go_wp2_with fail
          refine Qb.wp_region_by (by kernel_rfl) (by kernel_rfl) ?_
          repeat (quiet_step ((go_at_call 36; with_reducible exact Qb.of_below (HH.out _))))
          refine wpQuiet_nil ?_
          intro _ hw'
          obtain ⟨pp, rfl⟩ := hw'
          go_wp2
          go_ret
          exact ⟨ret_bool E.out, B0.out.trans (pp.below.mono B0.out.size)⟩
        · have E := Lib.hid (HNO.out (fun h => by obtain ⟨_, _, _, _, _⟩ := h; omega))
          generalize l.length = n at *
          go_enter Tryd.func21, Tryd.ntmps21
          go_wp2
          go_ret
          exact ⟨ret_bool E.out, B0.out⟩
      · have E := Lib.hid (HNO.out (fun h => by obtain ⟨_, _, _, _, _⟩ := h; omega))
        have h5 : l.length = 0 := by omega
        generalize l.length = n at *
        subst h5
        go_enter Tryd.func21, Tryd.ntmps21
        go_wp2
        go_ret
        exact ⟨ret_bool E.out, B0.out⟩
    · have E := Lib.hid (HNO.out (fun h => by obtain ⟨_, _, _, _, _⟩ := h; omega))
      go_enter Tryd.func21, Tryd.ntmps21
      go_wp2
      go_ret
      exact ⟨ret_bool E.out, B0.out⟩
  · have E := Lib.hid (HNO.out (fun h => by obtain ⟨_, _, _, _, _⟩ := h; omega))
    go_enter Tryd.func21, Tryd.ntmps21
    go_wp2
    go_ret
    exact ⟨ret_bool E.out, B0.out⟩

def sameF (p : Int) (l : List R4) (p' : Int) (l' : List R4) : Bool := decide (p = p' ∧ l = l')
theorem list_same {l l' : List R4} (hl : l.length = l'.length) (h : ∀ i, i < l.length → rat l i = rat l' i) : l = l' := by
  refine List.ext_getElem hl fun i h1 h2 => ?_
  have := h i h1
  simpa [rat, List.getD, List.getElem?_eq_getElem h1, List.getElem?_eq_getElem h2] using this

set_option maxHeartbeats 1000000 in
theorem rsame_any (w : World) (p p' : Int) (v v' : Value) (l l' : List R4) (R : Rd K4 w v l) (R' : Rd K4 w v' l') : Calls Tryd.prog 33 #[file p v, file p' v'] w fun e w' => e = .returned (.bool (sameF p l p' l')) ∧ Below w.heap.size w w' := by
  have B0 := Lib.hid (((Below.refl w.heap.size w).alloc (Nat.le_refl _) (.cells #[.int .i64 p, v] 35)).alloc (by simp) (.cells #[.int .i64 p', v'] 35))
  have R0 := Lib.hid (R.below B0.out)
  have R0' := Lib.hid (R'.below B0.out)
  have HNO : Hid (¬ (p = p' ∧ l = l') → false = sameF p l p' l') := fun h => (decide_eq_false h).symm
  have HYES : Hid (p = p' → l = l' → true = sameF p l p' l') := fun a b => (decide_eq_true ⟨a, b⟩).symm
  have HL : Hid (l.length = l'.length → (∀ i, i < l.length → rat l i = rat l' i) → l = l') := fun a b => list_same a b
  clear R R'
  unfold file
  by_cases h1 : p = p'
  · obtain ⟨a, cap, rfl, _, hm, hA⟩ := R0.out
    obtain ⟨a', cap', rfl, _, hm', hA'⟩ := R0'.out
    have HA := Lib.hid hA
    have HA' := Lib.hid hA'
    unfold maxLen at hm hm'
    clear hA hA' R0 R0'
    subst h1
    have HNE : Hid (l.length ≠ l'.length → ¬ (p = p ∧ l = l')) := fun h2 h => h2 (by rw [h.2])
    generalize hn : l.length = n at *
    generalize hn' : l'.length = n' at *
    have HN := Lib.hid hn
    have HN' := Lib.hid hn'
    clear hn hn'
    by_cases h2 : n = n'
    · subst h2
      have k0 : ((w.alloc (.cells #[.int .i64 p, .slice a n cap] 35)).alloc (.cells #[.int .i64 p, .slice a' n cap'] 35)).cell? ⟨w.heap.size, 1, none⟩ = some (.slice a n cap) := by go_simp
      have k1 : ((w.alloc (.cells #[.int .i64 p, .slice a n cap] 35)).alloc (.cells #[.int .i64 p, .slice a' n cap'] 35)).cell? ⟨w.heap.size + 1, 1, none⟩ = some (.slice a' n cap') := by go_simp
      have K0 := Lib.hid k0
      have K1 := Lib.hid k1
      clear k0 k1
      go_enter Tryd.func33, Tryd.ntmps33
      go_wp2
      generalize (w.alloc (.cells #[.int .i64 p, .slice a n cap] 35)).alloc (.cells #[.int .i64 p, .slice a' n cap'] 35) = W at *
      go_loopw [5] (fun i wr => ∃ j : Nat, j ≤ n ∧ i = .int .i64 j ∧ Hid (Below W.heap.size W wr) ∧ Hid (∀ i, i < j → rat l i = rat l' i)) (fun i _ => n - (intOf i).toNat)
      case atStart => exact ⟨0, Nat.zero_le _, rfl, Below.refl _ _, fun i hi => by omega⟩
      case round =>
        obtain ⟨j, hj, rfl, bw, hs⟩ := hrel
        have k0 := (bw.out.cell (World.block_lt_of_cell? _ _ K0.out)).trans K0.out
        have k1 := (bw.out.cell (World.block_lt_of_cell? _ _ K1.out)).trans K1.out
        by_cases hlt : j < n
        · obtain ⟨b, off, rfl, A⟩ := HA.out (by omega)
          obtain ⟨b', off', rfl, A'⟩ := HA'.out (by omega)
          obtain ⟨c0, c1, c2, c3⟩ := at4 (A.below bw.out) j (by have := HN.out; omega)
          obtain ⟨d0, d1, d2, d3⟩ := at4 (A'.below bw.out) j (by have := HN'.out; omega)
          have HAA := Lib.hid A
          have HAA' := Lib.hid A'
          clear A A'
          have es := eq_rec (rat l j) (rat l' j)
          by_cases he : rat l j = rat l' j
          · have ST : Hid (∀ i, i < j + 1 → rat l i = rat l' i) := fun i hi => by
              by_cases e : i = j
              · rw [e]; exact he
              · exact hs.out i (by omega)
            rw [decide_eq_true he] at es
            clear he
            generalize rat l j = r at *
            generalize rat l' j = r' at *
            go_wp2
            go_quiet (fail)
            go_wp2
            go_roundw
            case rel => exact ⟨j + 1, by omega, by go_num, below_drewN bw.out _, ST⟩
            case measure => simp [intOf]; omega
          · have E := Lib.hid (HNO.out (fun h => he (by rw [h.2])))
            rw [decide_eq_false he] at es
            clear he
            generalize rat l j = r at *
            generalize rat l' j = r' at *
            go_wp2
            go_quiet (fail)
            go_wp2
            go_ret
            exact ⟨ret_bool E.out, B0.out.trans ((below_drewN bw.out _).mono B0.out.size)⟩
        · obtain rfl : j = n := by omega
          have E := Lib.hid (HYES.out (by trivial) (HL.out (by trivial) (fun i hi => hs.out i hi)))
          go_wp2
          go_ret
          exact ⟨ret_bool E.out, B0.out.trans (bw.out.mono B0.out.size)⟩
    · have E := Lib.hid (HNO.out (HNE.out h2))
      have h3 : ¬ ((n : Int) = n') := by omega
      clear HL HA HA' HYES HNO
      go_enter Tryd.func33, Tryd.ntmps33
      go_wp2
      go_ret
      exact ⟨ret_bool E.out, B0.out⟩
  · have E := Lib.hid (HNO.out (fun h => h1 h.1))
    obtain ⟨a, cap, rfl, _⟩ := R0.out
    obtain ⟨a', cap', rfl, _⟩ := R0'.out
    go_enter Tryd.func33, Tryd.ntmps33
    go_wp2
    go_ret
    exact ⟨ret_bool E.out, B0.out⟩

/-- What a new file is. -/
def newP (p n : Int) : Prop := 0 ≤ p ∧ p ≤ 7 ∧ 0 ≤ n ∧ n ≤ 255
instance (p n : Int) : Decidable (newP p n) := by unfold newP; infer_instance
def newL (p n : Int) : List R4 := hdr p n :: List.replicate n.toNat z4
def NewPost (w : World) (p n : Int) (e : Ending) (w' : World) : Prop := ∃ v, e = .returned (.tuple #[file (if newP p n then p else 0) v, .int .i64 (if newP p n then 0 else 1)]) ∧ Rd K4 w' v (if newP p n then newL p n else []) ∧ Below w.heap.size w w'

theorem row_cell {w : World} {g : Nat} {cs : Array Value} {t : TypeId} (h : w.heap[g]? = some (.cells cs t (0, 0))) (k : Nat) : w.cell? ⟨g, k, none⟩ = cs[k]? := cell_of_row w g k cs t (0, 0) h
theorem row_frozen {w : World} {g : Nat} {cs : Array Value} {t : TypeId} (h : w.heap[g]? = some (.cells cs t (0, 0))) (k : Nat) : w.frozen? ⟨g, k, none⟩ = false := frozen_of_row w g k _ _ h
/-- What holds at the head of the loop over the records. -/
structure NRel (w : World) (p : Int) (h : R4) (g k : Nat) (v : Value) (wr : World) : Prop where
  row : wr.heap[g]? = some (.cells #[.int .i64 p, v] 35 (0, 0))
  res : wr.heap[w.heap.size]? = some (.cells #[.int .i64 0, .slice none 0 0] 35 (0, 0))
  own : Ow K4 wr (w.heap.size + 1) 32 v (h :: List.replicate k z4)
  bel : Below w.heap.size w wr
  lt : w.heap.size < g

set_option maxHeartbeats 1000000 in
theorem rnew_any (w : World) (p n : Int) : Calls Tryd.prog 32 #[.int .i64 p, .int .i64 n] w (NewPost w p n) := by
  have B0 := Lib.hid ((Below.refl w.heap.size w).alloc (Nat.le_refl _) (.cells #[.int .i64 0, .slice none 0 0] 35))
  by_cases hp : newP p n
  · have HPN := Lib.hid hp
    obtain ⟨p0, p1, n0, n1⟩ := hp
    obtain ⟨m, rfl⟩ : ∃ m : Nat, n = m := ⟨n.toNat, by omega⟩
    have HH := Lib.hid (rhdr_any (w.alloc (.cells #[.int .i64 0, .slice none 0 0] 35)) p m p0 p1 (by omega) (by omega))
    have NL : Hid (newL p m = hdr p m :: List.replicate m z4) := rfl
    unfold rec4 at HH
    generalize hdr p m = h at *
    go_enter Tryd.func32, Tryd.ntmps32
    go_wp2_with fail
    refine HH.out.mono ?_
    rintro e w1 ⟨rfl, b1⟩
    have z1 : w.heap.size < w1.heap.size := by have := b1.size; simp at this; omega
    have B1 := Lib.hid (B0.out.trans (b1.mono B0.out.size))
    have r0 : w1.heap[w.heap.size]? = some (.cells #[.int .i64 0, .slice none 0 0] 35 (0, 0)) := (b1.block _ (by simp)).trans (heap_alloc_new w _)
    have hz : (w1.alloc (.cells #[.int .u8 h.1, .int .u8 h.2.1, .int .u8 h.2.2.1, .int .u8 h.2.2.2] 32)).heap.size = w1.heap.size + 1 := by simp
    have N0 : NRel w p h (w1.heap.size + 1) 0 (.slice (some ⟨w1.heap.size, 0, none⟩) 1 1) ((w1.alloc (.cells #[.int .u8 h.1, .int .u8 h.2.1, .int .u8 h.2.2.1, .int .u8 h.2.2.2] 32)).alloc (.cells #[.int .i64 p, .slice (some ⟨w1.heap.size, 0, none⟩) 1 1] 35)) := by
      refine ⟨?_, ?_, (Ow.lit (K := K4) w1 (w.heap.size + 1) 32 [h] (by omega) (by unfold maxLen; simp)).alloc _, (B1.out.alloc (by omega) _).alloc (by rw [hz]; omega) _, by omega⟩
      · have := heap_alloc_new (w1.alloc (.cells #[.int .u8 h.1, .int .u8 h.2.1, .int .u8 h.2.2.1, .int .u8 h.2.2.2] 32)) (.cells #[.int .i64 p, .slice (some ⟨w1.heap.size, 0, none⟩) 1 1] 35)
        rw [hz] at this
        exact this
      · exact (Below.heap_alloc _ _ _ (by rw [hz]; omega)).trans ((Below.heap_alloc _ _ _ z1).trans r0)
    have NR := Lib.hid N0
    clear b1 N0 r0 HH hz
    go_wp2
    generalize (w1.alloc (.cells #[.int .u8 h.1, .int .u8 h.2.1, .int .u8 h.2.2.1, .int .u8 h.2.2.2] 32)).alloc (.cells #[.int .i64 p, .slice (some ⟨w1.heap.size, 0, none⟩) 1 1] 35) = W at *
    generalize w1.heap.size + 1 = g at *
    generalize Value.slice (some ⟨w1.heap.size, 0, none⟩) 1 1 = v0 at *
    go_loopw [7] (fun i wr => ∃ (k : Nat) (v : Value), k ≤ m ∧ i = .int .i64 k ∧ Hid (NRel w p h g k v wr)) (fun i _ => m - (intOf i).toNat)
    case atStart => exact ⟨0, v0, Nat.zero_le _, rfl, NR⟩
    case round =>
      obtain ⟨k, v, hk, rfl, R⟩ := hrel
      obtain ⟨av, cv, ev, _, _⟩ := R.out.own.slice
      generalize hL : (h :: List.replicate k z4).length = L at ev
      clear hL
      have gs := lt_of_block R.out.row
      have c1 : wr.cell? ⟨g, 1, none⟩ = some v := row_cell R.out.row 1
      subst ev
      by_cases hlt : k < m
      · go_wp2_with (at_builtin; refine Rw.push_far Tryd.underlying33 infoR rfl (by omega) rfl _ _ rfl (w.heap.size + 1) _ _ rfl (R.out.own.alloc _) _ z4 rfl ?d1 ?d2 ?d3 ?_)
        case d1 =>
          intro j u hu
          match j, hu with
          | 0, hu => simp [K4, z4] at hu; subst hu; go_simp
          | 1, hu => simp [K4, z4] at hu; subst hu; go_simp
          | 2, hu => simp [K4, z4] at hu; subst hu; go_simp
          | 3, hu => simp [K4, z4] at hu; subst hu; go_simp
          | j + 4, hu => simp [K4] at hu
        case d2 => simp; omega
        case d3 => have := R.out.lt; simp; omega
        intro v' w2 o2 b2 f2
        have rr := f2 g _ _ ((Below.heap_alloc wr _ g gs).trans R.out.row) (by decide)
        have rs := f2 w.heap.size _ _ ((Below.heap_alloc wr _ w.heap.size (lt_of_block R.out.res)).trans R.out.res) (by decide)
        have d1 : w2.cell? ⟨g, 1, none⟩ = some (.slice av L cv) := row_cell rr 1
        have e1 := row_frozen rr 1
        have N2 : Hid (NRel w p h g (k + 1) v' (w2.setCell ⟨g, 1, none⟩ v')) := by
          have hB := R.out.bel.size
          refine ⟨Rw.heap_setCell_same rr _, (Below.heap_setCell w2 _ _ w.heap.size (by have := R.out.lt; simp; omega)).trans rs, ?_, ?_, R.out.lt⟩
          · have e : (h :: List.replicate k z4) ++ [z4] = h :: List.replicate (k + 1) z4 := by rw [List.replicate_succ']; rfl
            rw [← e]
            exact o2.far (p := ⟨g, 1, none⟩) rr (by decide) _
          · exact (((R.out.bel.alloc hB _).trans (b2.mono (by omega))).setCell (by have := R.out.lt; simp; omega) _)
        obtain ⟨av', cv', L', rfl⟩ : ∃ a c L, v' = .slice a L c := by obtain ⟨a, c, e, _, _⟩ := o2.slice; exact ⟨a, c, _, e⟩
        clear rr rs o2 b2 f2
        go_wp2
        go_roundw
        case rel => exact ⟨k + 1, _, by omega, by go_num, N2⟩
        case measure => simp [intOf]; omega
      · obtain rfl : k = m := by omega
        have c0 : wr.cell? ⟨g, 0, none⟩ = some (.int .i64 p) := row_cell R.out.row 0
        have r0 : wr.cell? ⟨w.heap.size, 0, none⟩ = some (.int .i64 0) := row_cell R.out.res 0
        have r1 : wr.cell? ⟨w.heap.size, 1, none⟩ = some (.slice none 0 0) := row_cell R.out.res 1
        have s0 := row_frozen R.out.res 0
        have s1 := row_frozen R.out.res 1
        have E2 : Hid (NewPost w p k (.returned (.tuple #[file p (.slice av L cv), .int .i64 0])) ((wr.setCell ⟨w.heap.size, 0, none⟩ (.int .i64 p)).setCell ⟨w.heap.size, 1, none⟩ (.slice av L cv))) := by
          have o1 := R.out.own.far (p := ⟨w.heap.size, 0, none⟩) R.out.res (by decide) (.int .i64 p)
          have rr := Rw.heap_setCell_same (j := 0) R.out.res (.int .i64 p)
          refine ⟨_, by rw [if_pos HPN.out, if_pos HPN.out], ?_, (R.out.bel.setCell (Nat.le_refl _) _).setCell (Nat.le_refl _) _⟩
          rw [if_pos HPN.out, NL.out]
          exact (o1.far (p := ⟨w.heap.size, 1, none⟩) rr (by decide) _).rd
        go_wp2
        (try simp only [Exit.inBlock, Exit.then])
        refine bodyPost_ret (v := .tuple #[file p (.slice av L cv), .int .i64 0]) ?_ rfl E2.out
        rw [results_cell_tmp rfl]; go_simp; rfl
  · have E : Hid (NewPost w p n (.returned (.tuple #[file 0 (.slice none 0 0), .int .i64 1])) (w.alloc (.cells #[.int .i64 0, .slice none 0 0] 35))) := ⟨_, by rw [if_neg hp, if_neg hp], by rw [if_neg hp]; exact Rw.Rd.nil _, B0.out⟩
    by_cases h1 : p < 0
    · go_enter Tryd.func32, Tryd.ntmps32
      go_wp2
      (try simp only [Exit.inBlock, Exit.then])
      refine bodyPost_ret (v := .tuple #[file 0 (.slice none 0 0), .int .i64 1]) ?_ rfl E.out
      rw [results_cell_tmp rfl]; go_simp; rfl
    · by_cases h2 : 7 < p
      · go_enter Tryd.func32, Tryd.ntmps32
        go_wp2
        (try simp only [Exit.inBlock, Exit.then])
        refine bodyPost_ret (v := .tuple #[file 0 (.slice none 0 0), .int .i64 1]) ?_ rfl E.out
        rw [results_cell_tmp rfl]; go_simp; rfl
      · by_cases h3 : n < 0
        · go_enter Tryd.func32, Tryd.ntmps32
          go_wp2
          (try simp only [Exit.inBlock, Exit.then])
          refine bodyPost_ret (v := .tuple #[file 0 (.slice none 0 0), .int .i64 1]) ?_ rfl E.out
          rw [results_cell_tmp rfl]; go_simp; rfl
        · have h4 : 255 < n := by
            rcases Int.lt_or_le 255 n with c | c
            · exact c
            · exact absurd (show newP p n from ⟨by omega, by omega, by omega, by omega⟩) hp
          go_enter Tryd.func32, Tryd.ntmps32
          go_wp2
          (try simp only [Exit.inBlock, Exit.then])
          refine bodyPost_ret (v := .tuple #[file 0 (.slice none 0 0), .int .i64 1]) ?_ rfl E.out
          rw [results_cell_tmp rfl]; go_simp; rfl

end Go.Proofs.YtoeemngekioldaaDoor.Fl
