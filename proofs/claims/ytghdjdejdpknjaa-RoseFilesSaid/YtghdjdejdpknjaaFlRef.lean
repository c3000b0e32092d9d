/- The document's own functions of layer 9: the header, new files, what may be, what is alike. -/
import Derived.Test.YtghdjdejdpknjaaFlMem
import Derived.Test.YtghdjdejdpknjaaQb
import Derived.Laws.Rows
import Derived.Deep.WholeRow
namespace Go.Proofs.Ytghdjdejdpknjaa.Fl
open Go.RowKit
open Go.Proofs.Ytghdjdejdpknjaa.Rw (Rd Ow At)

set_option maxHeartbeats 400000 in
theorem rhdr_any (w : World) (p n : Int) (p0 : 0 ≤ p) (p1 : p ≤ 7) (n0 : 0 ≤ n) (n1 : n ≤ 255) : Calls Try.prog 18 #[.int .i64 p, .int .i64 n] w fun e w' => e = .returned (rec4 (hdr p n)) ∧ Below w.heap.size w w' := by
  go_enter Try.func18, Try.ntmps18
  go_wp2
  (try simp only [Exit.inBlock, Exit.then])
  refine bodyPost_ret (v := rec4 (hdr p n)) ?_ rfl ⟨rfl, ?_⟩
  · exact results_cell_row (p := 4) rfl _ _ w.heap.size 47 _ (0, 0) _ rfl (heap_alloc_new w _) Try.underlying47 rfl (by show _ = some 4; kernel_rfl)
  · exact (Below.refl w.heap.size w).alloc (Nat.le_refl _) _

set_option maxHeartbeats 1000000 in
theorem rgood_any (w : World) (p : Int) (v : Value) (l : List R4) (R : Rd K4 w v l) : Calls Try.prog 21 #[file p v] w fun e w' => e = .returned (.bool (goodFB p l)) ∧ Below w.heap.size w w' := by
  have B0 := Lib.hid ((Below.refl w.heap.size w).alloc (Nat.le_refl _) (.cells #[.int .i64 p, v] 25))
  have R0 := Lib.hid (R.below B0.out)
  have HNO : Hid (¬ goodF p l → false = goodFB p l) := fun h => (decide_eq_false h).symm
  have HD : Hid (0 ≤ p → p ≤ 7 → 1 ≤ l.length → l.length ≤ 256 → decide (rat l 0 = hdr p ((l.length : Int) - 1)) = goodFB p l) := fun a b c d => by
    unfold goodFB
    rw [decide_eq_decide]
    exact ⟨fun h => ⟨a, b, c, d, h⟩, fun h => h.2.2.2.2⟩
  clear R
  unfold file
  by_cases h1 : 0 ≤ p
  · by_cases h2 : p ≤ 7
    · obtain ⟨a, cap, rfl, _, hm, hA⟩ := R0.out
      have HA := Lib.hid hA
      unfold maxLen at hm
      clear hA R0
      by_cases h3 : 1 ≤ l.length
      · by_cases h4 : l.length ≤ 256
        · have E := Lib.hid (HD.out h1 h2 h3 h4)
          have hh := fun w => rhdr_any w p ((l.length : Int) - 1) h1 h2 (by omega) (by omega)
          obtain ⟨b, off, rfl, hA⟩ := HA.out (by omega)
          obtain ⟨c0, c1, c2, c3⟩ := at4_0 hA (by omega)
          have q0 := Qb.cell_by c0
          have q1 := Qb.cell_by c1
          have q2 := Qb.cell_by c2
          have q3 := Qb.cell_by c3
          clear hA HA HD HNO c0 c1 c2 c3
          generalize rat l 0 = r at *
          generalize l.length = n at *
          generalize hdr p ((n : Int) - 1) = q at *
          unfold rec4 at hh
          have HH := Lib.hid hh
          clear hh
          have es := eq_rec r q
          have hn0 : ((n : Int) == 0) = false := by simp; omega
          have W0 : IntKind.i64.wrap ((n : Int) - 1) = (n : Int) - 1 := IntWalk.i64_in _ (by omega)
          have hn1 : 0 < n := by omega
          have hn2 : (0 : Int) < n := by omega
          have k0 := Qb.cell_by (show (w.alloc (.cells #[.int .i64 p, .slice (some ⟨b, off, none⟩) n cap] 25)).cell? ⟨w.heap.size, 0, none⟩ = some (.int .i64 p) by go_simp)
          have k1 := Qb.cell_by (show (w.alloc (.cells #[.int .i64 p, .slice (some ⟨b, off, none⟩) n cap] 25)).cell? ⟨w.heap.size, 1, none⟩ = some (.slice (some ⟨b, off, none⟩) n cap) by go_simp)
          go_enter Try.func21, Try.ntmps21
          go_wp2_with fail
          refine Qb.wp_region_by (by kernel_rfl) (by kernel_rfl) ?_
          repeat (quiet_step ((go_at_call 18; with_reducible exact Qb.of_below (HH.out _))))
          refine wpQuiet_nil ?_
          intro _ hw'
          obtain ⟨pp, rfl⟩ := hw'
          go_wp2
          go_ret
          exact ⟨ret_bool E.out, B0.out.trans (pp.below.mono B0.out.size)⟩
        · have E := Lib.hid (HNO.out (fun h => by obtain ⟨_, _, _, _, _⟩ := h; omega))
          generalize l.length = n at *
          go_enter Try.func21, Try.ntmps21
          go_wp2
          go_ret
          exact ⟨ret_bool E.out, B0.out⟩
      · have E := Lib.hid (HNO.out (fun h => by obtain ⟨_, _, _, _, _⟩ := h; omega))
        have h5 : l.length = 0 := by omega
        generalize l.length = n at *
        subst h5
        go_enter Try.func21, Try.ntmps21
        go_wp2
        go_ret
        exact ⟨ret_bool E.out, B0.out⟩
    · have E := Lib.hid (HNO.out (fun h => by obtain ⟨_, _, _, _, _⟩ := h; omega))
      go_enter Try.func21, Try.ntmps21
      go_wp2
      go_ret
      exact ⟨ret_bool E.out, B0.out⟩
  · have E := Lib.hid (HNO.out (fun h => by obtain ⟨_, _, _, _, _⟩ := h; omega))
    go_enter Try.func21, Try.ntmps21
    go_wp2
    go_ret
    exact ⟨ret_bool E.out, B0.out⟩

def sameF (p : Int) (l : List R4) (p' : Int) (l' : List R4) : Bool := decide (p = p' ∧ l = l')
theorem list_same {l l' : List R4} (hl : l.length = l'.length) (h : ∀ i, i < l.length → rat l i = rat l' i) : l = l' := by
  refine List.ext_getElem hl fun i h1 h2 => ?_
  have := h i h1
  simpa [rat, List.getD, List.getElem?_eq_getElem h1, List.getElem?_eq_getElem h2] using this

set_option maxHeartbeats 1000000 in
theorem rsame_any (w : World) (p p' : Int) (v v' : Value) (l l' : List R4) (R : Rd K4 w v l) (R' : Rd K4 w v' l') : Calls Try.prog 13 #[file p v, file p' v'] w fun e w' => e = .returned (.bool (sameF p l p' l')) ∧ Below w.heap.size w w' := by
  have B0 := Lib.hid (((Below.refl w.heap.size w).alloc (Nat.le_refl _) (.cells #[.int .i64 p, v] 25)).alloc (by simp) (.cells #[.int .i64 p', v'] 25))
  have R0 := Lib.hid (R.below B0.out)
  have R0' := Lib.hid (R'.below B0.out)
  have HNO : Hid (¬ (p = p' ∧ l = l') → false = sameF p l p' l') := fun h => (decide_eq_false h).symm
  have HYES : Hid (p = p' → l = l' → true = sameF p l p' l') := fun a b => (decide_eq_true ⟨a, b⟩).symm
  have HL : Hid (l.length = l'.length → (∀ i, i < l.length → rat l i = rat l' i) → l = l') := fun a b => list_same a b
  clear R R'
  unfold file
  by_cases h1 : p = p'
  · obtain ⟨a, cap, rfl, _, hm, hA⟩ := R0.out
    obtain ⟨a', cap', rfl, _, hm', hA'⟩ := R0'.out
    have HA := Lib.hid hA
    have HA' := Lib.hid hA'
    unfold maxLen at hm hm'
    clear hA hA' R0 R0'
    subst h1
    have HNE : Hid (l.length ≠ l'.length → ¬ (p = p ∧ l = l')) := fun h2 h => h2 (by rw [h.2])
    generalize hn : l.length = n at *
    generalize hn' : l'.length = n' at *
    have HN := Lib.hid hn
    have HN' := Lib.hid hn'
    clear hn hn'
    by_cases h2 : n = n'
    · subst h2
      have k0 : ((w.alloc (.cells #[.int .i64 p, .slice a n cap] 25)).alloc (.cells #[.int .i64 p, .slice a' n cap'] 25)).cell? ⟨w.heap.size, 1, none⟩ = some (.slice a n cap) := by go_simp
      have k1 : ((w.alloc (.cells #[.int .i64 p, .slice a n cap] 25)).alloc (.cells #[.int .i64 p, .slice a' n cap'] 25)).cell? ⟨w.heap.size + 1, 1, none⟩ = some (.slice a' n cap') := by go_simp
      have K0 := Lib.hid k0
      have K1 := Lib.hid k1
      clear k0 k1
      go_enter Try.func13, Try.ntmps13
      go_wp2
      generalize (w.alloc (.cells #[.int .i64 p, .slice a n cap] 25)).alloc (.cells #[.int .i64 p, .slice a' n cap'] 25) = W at *
      go_loopw [5] (fun i wr => ∃ j : Nat, j ≤ n ∧ i = .int .i64 j ∧ Hid (Below W.heap.size W wr) ∧ Hid (∀ i, i < j → rat l i = rat l' i)) (fun i _ => n - (intOf i).toNat)
      case atStart => exact ⟨0, Nat.zero_le _, rfl, Below.refl _ _, fun i hi => by omega⟩
      case round =>
        obtain ⟨j, hj, rfl, bw, hs⟩ := hrel
        have k0 := (bw.out.cell (World.block_lt_of_cell? _ _ K0.out)).trans K0.out
        have k1 := (bw.out.cell (World.block_lt_of_cell? _ _ K1.out)).trans K1.out
        by_cases hlt : j < n
        · obtain ⟨b, off, rfl, A⟩ := HA.out (by omega)
          obtain ⟨b', off', rfl, A'⟩ := HA'.out (by omega)
          obtain ⟨c0, c1, c2, c3⟩ := at4 (A.below bw.out) j (by have := HN.out; omega)
          obtain ⟨d0, d1, d2, d3⟩ := at4 (A'.below bw.out) j (by have := HN'.out; omega)
          have HAA := Lib.hid A
          have HAA' := Lib.hid A'
          clear A A'
          have es := eq_rec (rat l j) (rat l' j)
          by_cases he : rat l j = rat l' j
          · have ST : Hid (∀ i, i < j + 1 → rat l i = rat l' i) := fun i hi => by
              by_cases e : i = j
              · rw [e]; exact he
              · exact hs.out i (by omega)
            rw [decide_eq_true he] at es
            clear he
            generalize rat l j = r at *
            generalize rat l' j = r' at *
            go_wp2
            go_quiet (fail)
            go_wp2
            go_roundw
            case rel => exact ⟨j + 1, by omega, by go_num, below_drewN bw.out _, ST⟩
            case measure => simp [intOf]; omega
          · have E := Lib.hid (HNO.out (fun h => he (by rw [h.2])))
            rw [decide_eq_false he] at es
            clear he
            generalize rat l j = r at *
            generalize rat l' j = r' at *
            go_wp2
            go_quiet (fail)
            go_wp2
            go_ret
            exact ⟨ret_bool E.out, B0.out.trans ((below_drewN bw.out _).mono B0.out.size)⟩
        · obtain rfl : j = n := by omega
          have E := Lib.hid (HYES.out (by trivial) (HL.out (by trivial) (fun i hi => hs.out i hi)))
          go_wp2
          go_ret
          exact ⟨ret_bool E.out, B0.out.trans (bw.out.mono B0.out.size)⟩
    · have E := Lib.hid (HNO.out (HNE.out h2))
      have h3 : ¬ ((n : Int) = n') := by omega
      clear HL HA HA' HYES HNO
      go_enter Try.func13, Try.ntmps13
      go_wp2
      go_ret
      exact ⟨ret_bool E.out, B0.out⟩
  · have E := Lib.hid (HNO.out (fun h => h1 h.1))
    obtain ⟨a, cap, rfl, _⟩ := R0.out
    obtain ⟨a', cap', rfl, _⟩ := R0'.out
    go_enter Try.func13, Try.ntmps13
    go_wp2
    go_ret
    exact ⟨ret_bool E.out, B0.out⟩

/-- What a new file is. -/
def newP (p n : Int) : Prop := 0 ≤ p ∧ p ≤ 7 ∧ 0 ≤ n ∧ n ≤ 255
instance (p n : Int) : Decidable (newP p n) := by unfold newP; infer_instance
def newL (p n : Int) : List R4 := hdr p n :: List.replicate n.toNat z4
def NewPost (w : World) (p n : Int) (e : Ending) (w' : World) : Prop := ∃ v, e = .returned (.tuple #[file (if newP p n then p else 0) v, .int .i64 (if newP p n then 0 else 1)]) ∧ Rd K4 w' v (if newP p n then newL p n else []) ∧ Below w.heap.size w w'

theorem row_cell {w : World} {g : Nat} {cs : Array Value} {t : TypeId} (h : w.heap[g]? = some (.cells cs t (0, 0))) (k : Nat) : w.cell? ⟨g, k, none⟩ = cs[k]? := cell_of_row w g k cs t (0, 0) h
theorem row_frozen {w : World} {g : Nat} {cs : Array Value} {t : TypeId} (h : w.heap[g]? = some (.cells cs t (0, 0))) (k : Nat) : w.frozen? ⟨g, k, none⟩ = false := frozen_of_row w g k _ _ h
/-- What holds at the head of the loop over the records. -/
structure NRel (w : World) (p : Int) (h : R4) (g k : Nat) (v : Value) (wr : World) : Prop where
  row : wr.heap[g]? = some (.cells #[.int .i64 p, v] 25 (0, 0))
  res : wr.heap[w.heap.size]? = some (.cells #[.int .i64 0, .slice none 0 0] 25 (0, 0))
  own : Ow K4 wr (w.heap.size + 1) 47 v (h :: List.replicate k z4)
  bel : Below w.heap.size w wr
  lt : w.heap.size < g

end Go.Proofs.Ytghdjdejdpknjaa.Fl
