/- Lists of entries held against each other; at most seventy entries; a file with at most 260 records. -/
import Derived.Test.YtchbccaokoiodaaRoList
import Derived.Test.YtchbccaokoiodaaRoGood
import Derived.Test.YtchbccaokoiodaaFlFew
namespace Go.Proofs.Ytchbccaokoiodaa.Ro
open Go.RowKit
open Go.Proofs.Ytchbccaokoiodaa.Rw (Rd Ow At)
open Go.Proofs.Ytchbccaokoiodaa.Fl (R4 z4 rec4 K4 okR hdr rat file ret_bool at_bool rd_take results_file FewPost)

def sameB (l l' : List E5) : Bool := decide (l = l')
set_option maxHeartbeats 1000000 in
theorem rsame_any (w : World) (v v' : Value) (l l' : List E5) (R : Rd K5 w v l) (R' : Rd K5 w v' l') : Calls Try.prog 19 #[v, v'] w fun e w' => e = .returned (.bool (sameB l l')) ∧ Below w.heap.size w w' := by
  have HNO : Hid (¬ l = l' → false = sameB l l') := fun h => (decide_eq_false h).symm
  have HYES : Hid (l = l' → true = sameB l l') := fun b => (decide_eq_true b).symm
  have HL : Hid (l.length = l'.length → (∀ i, i < l.length → eat l i = eat l' i) → l = l') := fun a b => ent_same a b
  obtain ⟨a, cap, rfl, _, hm, hA⟩ := R
  obtain ⟨a', cap', rfl, _, hm', hA'⟩ := R'
  have HA := Lib.hid hA
  have HA' := Lib.hid hA'
  unfold maxLen at hm hm'
  clear hA hA'
  have HNE : Hid (l.length ≠ l'.length → ¬ (l = l')) := fun h2 h => h2 (by rw [h])
  generalize hn : l.length = n at *
  generalize hn' : l'.length = n' at *
  have HN := Lib.hid hn
  have HN' := Lib.hid hn'
  clear hn hn'
  by_cases h2 : n = n'
  · subst h2
    go_enter Try.func19, Try.ntmps19
    go_wp2
    go_loopw [5] (fun i wr => ∃ k : Nat, k ≤ n ∧ i = .int .i64 k ∧ Hid (Below w.heap.size w wr) ∧ Hid (∀ i, i < k → eat l i = eat l' i)) (fun i _ => n - (intOf i).toNat)
    case atStart => exact ⟨0, Nat.zero_le _, rfl, Below.refl _ _, fun i hi => by omega⟩
    case round =>
      obtain ⟨j, hj, rfl, bw, hs⟩ := hrel
      by_cases hlt : j < n
      · obtain ⟨b, off, rfl, A⟩ := HA.out (by omega)
        obtain ⟨b', off', rfl, A'⟩ := HA'.out (by omega)
        obtain ⟨c0, c1, c2, c3, c4⟩ := at5 (A.below bw.out) j (by have := HN.out; omega)
        obtain ⟨d0, d1, d2, d3, d4⟩ := at5 (A'.below bw.out) j (by have := HN'.out; omega)
        rw [show l.getD j z5 = eat l j from rfl] at c0 c1 c2 c3 c4
        rw [show l'.getD j z5 = eat l' j from rfl] at d0 d1 d2 d3 d4
        have HAA := Lib.hid A
        have HAA' := Lib.hid A'
        clear A A'
        have es := eq_ent (eat l j) (eat l' j)
        by_cases he : eat l j = eat l' j
        · have ST : Hid (∀ i, i < j + 1 → eat l i = eat l' i) := fun i hi => by
            by_cases e : i = j
            · rw [e]; exact he
            · exact hs.out i (by omega)
          rw [decide_eq_true he] at es
          clear he
          generalize eat l j = r at *
          generalize eat l' j = r' at *
          go_wp2
          go_quiet (fail)
          go_wp2
          go_roundw
          case rel => exact ⟨j + 1, by omega, by go_num, below_drewN bw.out _, ST⟩
          case measure => simp [intOf]; omega
        · have E := Lib.hid (HNO.out (fun h => he (by rw [h])))
          rw [decide_eq_false he] at es
          clear he
          generalize eat l j = r at *
          generalize eat l' j = r' at *
          go_wp2
          go_quiet (fail)
          go_wp2
          go_ret
          exact ⟨ret_bool E.out, below_drewN bw.out _⟩
      · obtain rfl : j = n := by omega
        have E := Lib.hid (HYES.out (HL.out (by trivial) (fun i hi => hs.out i hi)))
        go_wp2
        go_ret
        exact ⟨ret_bool E.out, bw.out⟩
  · have E := Lib.hid (HNO.out (HNE.out h2))
    have h3 : ¬ ((n : Int) = n') := by omega
    clear HL HA HA' HYES HNO
    go_enter Try.func19, Try.ntmps19
    go_wp2
    go_ret
    exact ⟨ret_bool E.out, Below.refl _ _⟩

set_option maxHeartbeats 400000 in
theorem few_any (w : World) (p : Int) (v : Value) (l : List R4) (R : Rd K4 w v l) : Calls Try.prog 14 #[file p v] w (FewPost w p l) := by
  have R0 := Lib.hid R
  obtain ⟨a, cap, rfl, ⟨h1, h1'⟩, hm, hA⟩ := R
  have HA := Lib.hid hA
  unfold maxLen at hm
  clear hA
  have hz : ∀ o, (w.alloc o).heap.size = w.heap.size + 1 := fun o => by simp
  have rw_ : ∀ o o', ((w.alloc o).alloc o').heap[w.heap.size + 1]? = some o' := fun o o' => by have := heap_alloc_new (w.alloc o) o'; rw [hz] at this; exact this
  have bb : ∀ o o', Below w.heap.size w ((w.alloc o).alloc o') := fun o o' => ((Below.refl w.heap.size w).alloc (Nat.le_refl _) o).alloc (by simp) o'
  have RW := Lib.hid rw_
  have BB := Lib.hid bb
  clear hz rw_ bb
  unfold file
  by_cases h : 260 < l.length
  · obtain ⟨b, off, rfl, _⟩ := HA.out (by omega)
    have E : Hid (∀ w', Below w.heap.size w w' → FewPost w p l (.returned (.agg #[.int .i64 p, .slice (some ⟨b, off, none⟩) 260 cap])) w') := fun w' hb => ⟨_, rfl, (rd_take R0.out rfl (by omega) (by omega)).below hb, hb⟩
    clear R0 HA
    generalize l.length = n at *
    go_enter Try.func14, Try.ntmps14
    go_wp2
    (try simp only [Exit.inBlock, Exit.then])
    exact bodyPost_ret (results_file (p := 2) rfl _ _ (w.heap.size + 1) p _ rfl (RW.out _ _)) rfl (E.out _ (BB.out _ _))
  · have ht : l.take 260 = l := List.take_of_length_le (by omega)
    have E : Hid (∀ w', Below w.heap.size w w' → FewPost w p l (.returned (.agg #[.int .i64 p, .slice a l.length cap])) w') := fun w' hb => ⟨_, rfl, by rw [ht]; exact R0.out.below hb, hb⟩
    clear R0 HA
    generalize l.length = n at *
    go_enter Try.func14, Try.ntmps14
    go_wp2
    (try simp only [Exit.inBlock, Exit.then])
    exact bodyPost_ret (results_file (p := 2) rfl _ _ (w.heap.size + 1) p _ rfl (RW.out _ _)) rfl (E.out _ (BB.out _ _))

/-- At most seventy entries. -/
def SomePost (w : World) (l : List E5) (e : Ending) (w' : World) : Prop := ∃ u, e = .returned u ∧ Rd K5 w' u (l.take 70) ∧ Below w.heap.size w w'
theorem rd_take5 {w : World} {v : Value} {l : List E5} {a : Option Addr} {n cap k : Nat} (R : Rd K5 w v l) (e : v = .slice a n cap) (hk : k ≤ l.length) (h0 : 0 < k) : Rd K5 w (.slice a k cap) (l.take k) := by
  obtain ⟨a', cap', e', ⟨h1, h2⟩, h3, h4⟩ := R
  rw [e] at e'
  injection e' with e1 e2 e3
  subst e1 e3
  have hl : (l.take k).length = k := by rw [List.length_take]; omega
  refine ⟨a, cap, by rw [hl], ⟨by rw [hl]; omega, h2⟩, h3, fun _ => ?_⟩
  obtain ⟨b, off, rfl, hA⟩ := h4 (by omega)
  refine ⟨b, off, rfl, fun i hi j u hu => ?_⟩
  rw [hl] at hi
  refine hA i (by omega) j u ?_
  rw [← hu, List.getD, List.getD, List.getElem?_take, if_pos hi]
set_option maxHeartbeats 400000 in
theorem some_any (w : World) (v : Value) (l : List E5) (R : Rd K5 w v l) : Calls Try.prog 17 #[v] w (SomePost w l) := by
  have R0 := Lib.hid R
  obtain ⟨a, cap, rfl, ⟨h1, h1'⟩, hm, hA⟩ := R
  have HA := Lib.hid hA
  unfold maxLen at hm
  clear hA
  by_cases h : 70 < l.length
  · obtain ⟨b, off, rfl, _⟩ := HA.out (by omega)
    have E : Hid (SomePost w l (.returned (.slice (some ⟨b, off, none⟩) 70 cap)) w) := Lib.hid ⟨_, rfl, rd_take5 R0.out rfl (by omega) (by omega), Below.refl _ _⟩
    clear R0 HA
    generalize l.length = n at *
    go_enter Try.func17, Try.ntmps17
    go_wp2
    go_ret
    exact E.out
  · have ht : l.take 70 = l := List.take_of_length_le (by omega)
    have E : Hid (SomePost w l (.returned (.slice a l.length cap)) w) := Lib.hid ⟨_, rfl, by rw [ht]; exact R0.out, Below.refl _ _⟩
    clear R0 HA ht
    generalize l.length = n at *
    go_enter Try.func17, Try.ntmps17
    go_wp2
    go_ret
    exact E.out

end Go.Proofs.Ytchbccaokoiodaa.Ro
