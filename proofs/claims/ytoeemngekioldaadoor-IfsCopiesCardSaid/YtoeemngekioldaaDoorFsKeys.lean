/- The numbers of a store's files, sorted, by the library's contracts. -/
import Derived.Test.YtoeemngekioldaaDoorShelfK
import Derived.Test.YtoeemngekioldaaDoorFsMem
namespace Go.Proofs.YtoeemngekioldaaDoor.Fs
open Go.RowKit Go.Maps Go.Sort Go.Shelf
open Go.Proofs.YtoeemngekioldaaDoor.Rw (Rd Ow At)
set_option maxRecDepth 100000

theorem sortsL (m : Nat) : AnyZI.SortsIn Tryd.prog sortedL_ren Fence.wide m :=
  ⟨fun blk off cap ss W hH hblk hsz => callsIn_wide.2 (AnyM.slices_Sort_int sortL blk off cap ss W hH hblk hsz),
   fun p cap W => callsIn_wide.2 (AnyM.slices_Sort_int_none sortL p cap W)⟩
theorem keys_any (mb : Option Nat) (W : World) : Calls Tryd.prog 35 #[.map mb] W fun e w' => e = .returned (.func (.func 47) #[] #[.pointer (some ⟨W.heap.size, 0, none⟩)]) ∧ w' = W.alloc (.cells #[.map mb] 59) :=
  (callsIn_wide (n := 5)).1 (AnyZI.keys_in keysL Fence.wide 5 trivial rfl mb W)
def KI : Rw.Kind Int := Rw.int .i64
theorem flat_int : ∀ l : List Int, KI.flat l = l.map encZ
  | [] => rfl
  | a :: r => by
    have := flat_int r
    show [Value.int .i64 a] ++ KI.flat r = _
    rw [this]
    rfl
theorem keys_dat (C : List Ent) : intKeys (dat C) = C.map Ent.n := by
  show (C.map ent).map (fun p => Go.intOf p.1) = _
  rw [List.map_map]
  rfl
theorem sort_keys {C : List Ent} (h : Srt Ent.n C) {ss : List Int} (hp : ss.Perm (intKeys (dat C))) : ss.mergeSort (fun x y => decide (x ≤ y)) = C.map Ent.n := by
  have e := mergeSort_of_perm_i hp
  show ss.mergeSort leI = _
  rw [e, keys_dat]
  refine List.mergeSort_of_pairwise ?_
  rw [List.pairwise_map]
  exact h.imp fun h => by simp only [leI, decide_eq_true_eq]; exact Int.le_of_lt h
theorem size_dat (C : List Ent) : Maps.size (dat C) = C.length := by unfold dat Maps.size; simp
def SortPost (w : World) (C : List Ent) (e : Ending) (w' : World) : Prop := ∃ v, e = .returned v ∧ Ow KI w' w.heap.size 3 v (C.map Ent.n) ∧ Below w.heap.size w w'
set_option maxHeartbeats 1000000 in
theorem sorted_any {w : World} {F : Nat → Prop} {mb : Option Nat} {C : List Ent} (M : Mp w F (.map mb) C) (hs : Srt Ent.n C) (hl : C.length ≤ 64) :
    Calls Tryd.prog 34 #[.func (.func 47) #[] #[.pointer (some ⟨w.heap.size, 0, none⟩)]] (w.alloc (.cells #[.map mb] 59)) (SortPost w C) := by
  have B0 : Below w.heap.size w (w.alloc (.cells #[.map mb] 59)) := (Below.refl w.heap.size w).alloc (Nat.le_refl _) _
  rcases M with ⟨e, rfl⟩ | ⟨b, e, _, hown⟩
  · obtain rfl : mb = none := by injection e
    have hseq : SeqGives Fence.wide 2 Tryd.prog 47 #[.pointer (some ⟨w.heap.size, 0, none⟩)] encZ (fun ss : List Int => ss = []) 0 (w.alloc (.cells #[.map none] 59)) :=
      AnyZI.keys_gives_nil (ρ := keysL_ren) { keysL with } Fence.wide _ trivial rfl w.heap.size _ (by simp) (by simp)
    have cS := AnyZI.sorted_in sortedL Fence.wide 5 trivial trivial trivial trivial rfl (by omega) (sortsL _) (enters_of Tryd.func46 (by kernel_rfl) rfl) 47 #[.pointer (some ⟨w.heap.size, 0, none⟩)] trivial (enters_of Tryd.func47 (by kernel_rfl) rfl) _ 0 (Nat.zero_le _) (by omega) _ hseq
    refine ((callsIn_wide (n := 5)).1 cS).mono ?_
    rintro e w' ⟨v, ss, rfl, rfl, hrow, hnil, hb⟩
    obtain rfl : v = .slice none 0 0 := hnil.2 rfl
    exact ⟨_, rfl, Ow.nil _ _ _, B0.trans (hb.mono (by simp))⟩
  · obtain rfl : mb = some b := by injection e
    have hbl := hown.lt
    have hseq : SeqGives Fence.wide 2 Tryd.prog 47 #[.pointer (some ⟨w.heap.size, 0, none⟩)] encZ (fun ss => ss.Perm (intKeys (dat C))) (Maps.size (dat C)) (w.alloc (.cells #[.map (some b)] 59)) :=
      AnyZI.keys_gives (ρ := keysL_ren) { keysL with } Fence.wide _ trivial rfl (by omega) w.heap.size b C.length (dat C) _ (by simp) (by simp) (by
        obtain ⟨es, clock, hb, Ft, hs, hD⟩ := hown
        exact ⟨es, clock, (Below.heap_alloc _ _ b hbl).trans hb, Ft, hs, hD⟩)
    have cS := AnyZI.sorted_in sortedL Fence.wide 5 trivial trivial trivial trivial rfl (by omega) (sortsL _) (enters_of Tryd.func46 (by kernel_rfl) rfl) 47 #[.pointer (some ⟨w.heap.size, 0, none⟩)] trivial (enters_of Tryd.func47 (by kernel_rfl) rfl) _ _ (by rw [size_dat]; unfold maxLen; omega) (by rw [size_dat]; omega) _ hseq
    refine ((callsIn_wide (n := 5)).1 cS).mono ?_
    rintro e w' ⟨v, ss, rfl, hS, hrow, hnil, hb⟩
    refine ⟨v, rfl, ?_, B0.trans (hb.mono (by simp))⟩
    have e1 := sort_keys hs hS
    have e2 : ss.length = (C.map Ent.n).length := by rw [← keys_dat]; exact hS.length_eq
    show w'.ownsRow w.heap.size 3 1 v (C.map Ent.n).length (KI.flat (C.map Ent.n))
    rw [flat_int, ← e1, List.length_mergeSort]
    exact ownsRow_base_a hrow (by simp)

end Go.Proofs.YtoeemngekioldaaDoor.Fs
