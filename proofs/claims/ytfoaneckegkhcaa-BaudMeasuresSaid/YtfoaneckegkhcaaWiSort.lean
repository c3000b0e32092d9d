/- Sorting spans by their beginnings: what slices.SortFunc does to a list that is the call's own. -/
import Derived.Test.YtfoaneckegkhcaaWiBase
import Derived.Test.YtfoaneckegkhcaaShelf
import Derived.Shelf.SlSortCmp.WholeK
import Derived.Shelf.SlSortCmp.NoneTotal
namespace Go.Proofs.Ytfoaneckegkhcaa.Wi
open Go.Shelf Go.RowKit Go.Lib Go.Sort Go.Proofs.Ytfoaneckegkhcaa.Sp

def enc (x : S2) : List Value := [.int .i64 x.1, .int .i64 x.2]
def cf (x y : S2) : Int := cmpI x.1 y.1
theorem lt_cf (x y : S2) : ltOf cf x y = decide (x.1 < y.1) := by
  unfold ltOf cf cmpI
  by_cases h1 : x.1 < y.1
  · simp [h1]
  · by_cases h2 : y.1 < x.1 <;> simp [h1, h2]
theorem swo : SWO (ltOf cf) where
  irrefl x := by rw [lt_cf]; simp
  trans x y z h1 h2 := by rw [lt_cf] at *; simp at *; omega
  ntrans x y z h1 h2 := by rw [lt_cf] at *; simp at *; omega

set_option maxHeartbeats 400000 in
theorem clos_any (x y : S2) (W : World) : Calls Try.prog 29 #[.agg #[.int .i64 x.1, .int .i64 x.2], .agg #[.int .i64 y.1, .int .i64 y.2]] W fun e w' => e = .returned (.int .i64 (cf x y)) ∧ ∃ q os', w' = grow (W.drewN q) os' := by
  have hcon := fun W' => compare_any W' x.1 y.1
  have HC := Lib.hid hcon
  clear hcon
  unfold cf
  generalize cmpI x.1 y.1 = r at HC ⊢
  go_enter Try.func29, Try.ntmps29
  go_wp2_with (go_at_call 30; refine (HC.out _).mono ?_; rintro e w' ⟨rfl, rfl⟩)
  go_ret
  exact ⟨rfl, 0, _, by rw [alloc_eq_grow, alloc_eq_grow, grow_grow]; rfl⟩
theorem lays (blk off size : Nat) (w : World) : CmpLays Try.prog 29 #[] enc 2 cf blk off size w := fun _ _ _ _ x y => clos_any x y _

theorem get_fr (l : List S2) (i : Nat) : l.toArray[i]! = (fr l i, tp l i) := by
  by_cases h : i < l.length
  · rw [getElem!_pos l.toArray i (by simpa using h)]
    simp [fr, tp, h]
  · rw [getElem!_neg l.toArray i (by simpa using h)]
    simp [fr, tp, h]
    rfl
theorem holds_of {w : World} {g : Nat} {l : List S2} (h : ∀ i, i < l.length → w.cell? ⟨g, i * 2, none⟩ = some (.int .i64 (fr l i)) ∧ w.cell? ⟨g, i * 2 + 1, none⟩ = some (.int .i64 (tp l i)) ∧ w.frozen? ⟨g, i * 2, none⟩ = false ∧ w.frozen? ⟨g, i * 2 + 1, none⟩ = false) :
    HoldsK enc 2 w g 0 l.toArray := by
  intro j hj
  have hj' : j < l.length * 2 := by simpa using hj
  obtain ⟨c0, c1, f0, f1⟩ := h (j / 2) (by omega)
  rw [get_flatK enc 2 l.toArray j (by simpa using hj'), get_fr]
  rcases (by omega : j % 2 = 0 ∨ j % 2 = 1) with e | e
  · have ej : 0 + j = j / 2 * 2 := by omega
    rw [ej, e]
    exact ⟨c0, f0⟩
  · have ej : 0 + j = j / 2 * 2 + 1 := by omega
    rw [ej, e]
    exact ⟨c1, f1⟩

/-- What a sort leaves: the same spans, by their beginnings; below B all is as it was. -/
def SortedTo (W : World) (B : Nat) (v : Value) (x : List S2) (w' : World) : Prop :=
  ∃ x', Sp w' v x' ∧ x'.length = x.length ∧ (∀ s, s ∈ x' ↔ s ∈ x) ∧ (∀ i j, i ≤ j → j < x'.length → fr x' i ≤ fr x' j) ∧ Below B W w'

theorem below_world {W : World} {B g m : Nat} (hB : B ≤ g) (hg : g < W.heap.size) (d : Array S2) (os : Array Obj) : Below B W (sortWorldK enc 2 W g 0 m d os) := by
  refine ⟨rfl, rfl, rfl, ?_, fun k hk => ?_⟩
  · show W.heap.size ≤ ((W.heap.modify g _) ++ os).size
    simp
  · show ((W.heap.modify g _) ++ os)[k]? = _
    rw [Array.getElem?_append_left (by simp; omega), Array.getElem?_modify, if_neg (by omega)]

theorem sorted_to {W : World} {B g cap m : Nat} {x : List S2} {d' : Array S2} {os : Array Obj} (hB : B ≤ g) (hg : g < W.heap.size) (h1 : x.length ≤ cap) (h2 : cap ≤ maxLen) (hH : HoldsK enc 2 W g 0 x.toArray)
    (hp : PermIn 0 x.toArray.size x.toArray d') (hs : SortedIn (ltOf cf) 0 x.toArray.size d') : SortedTo W B (.slice (some ⟨g, 0, none⟩) x.length cap) x (sortWorldK enc 2 W g 0 m d' os) := by
  obtain ⟨hsz, _, hperm⟩ := hp
  have hlen : d'.toList.length = x.length := by simpa using hsz
  have hperm' : d'.toList.Perm x := by
    have e1 : d'.extract 0 x.toArray.size = d' := by rw [← hsz]; simp
    have e2 : x.toArray.extract 0 x.toArray.size = x.toArray := by simp
    rw [e1, e2] at hperm
    simpa using hperm
  have hH' : HoldsK enc 2 (sortWorldK enc 2 W g 0 m d' os) g 0 d' := by
    unfold sortWorldK
    refine holdsK_grow _ _ _ _ _ _ _ (by show g < (putRowK enc 2 (Sort.ahead W m) g 0 d').heap.size; rw [size_putRowK]; exact hg) ?_
    exact holdsK_putRowK enc 2 (Sort.ahead W m) g 0 x.toArray d' hH hsz
  have hsz' : d'.size = x.length := by simpa using hsz
  have hget : ∀ i, i < x.length → d'[i]! = (fr d'.toList i, tp d'.toList i) := fun i hi => by
    have := get_fr d'.toList i
    simpa using this
  refine ⟨d'.toList, ⟨some ⟨g, 0, none⟩, cap, by rw [hlen], by rw [hlen]; exact h1, h2, fun _ => ⟨g, 0, rfl, fun i hi => ?_⟩⟩, hlen, fun s => hperm'.mem_iff, fun i j hij hj => ?_, below_world hB hg _ _⟩
  · rw [hlen] at hi
    have c0 := (hH'.cell (i := i) (c := 0) (by omega) (by omega)).1
    have c1 := (hH'.cell (i := i) (c := 1) (by omega) (by omega)).1
    rw [hget i hi] at c0 c1
    exact ⟨c0, c1⟩
  · rw [hlen] at hj
    rcases Nat.lt_or_ge i j with c | c
    · have := hs i j (by omega) c (by simpa using hj)
      rw [lt_cf, hget i (by omega), hget j hj] at this
      simp at this
      exact this
    · rw [show i = j by omega]
      exact Int.le_refl _

theorem sort_some (W : World) (B : Nat) (v : Value) (x : List S2) (hown : Own W B 45 v x) (h0 : 0 < x.length) (hlen : x.length < 1099511627776) :
    Calls Try.prog 28 #[v, .func (.func 29) #[] #[]] W fun e w' => e = .returned (.tuple #[]) ∧ SortedTo W B v x w' := by
  obtain ⟨g, cap, rfl, hB, hg, h1, h2, _, hc⟩ := hown.form h0
  have eg : ∀ args w, (callFunc 29 args).run Try.prog w = .ok (.enter 29 args) w := enters_of Try.func29 (by kernel_rfl) rfl
  have hH := holds_of hc
  have hcon := AnyQ.slices_SortFunc Wi.sortFunc 2 Try.isAgg45 Try.sizeOf45 enc (fun _ => rfl) (fun x v hv => by simp [enc] at hv; rcases hv with rfl | rfl <;> rfl) cf swo 29 #[] g 0 cap x.toArray W eg (lays g 0 x.toArray.size W) hH hg (by simp; omega)
  change Calls Try.prog 28 _ _ _ at hcon
  refine hcon.mono ?_
  rintro e w' ⟨rfl, d', n, os, hp, hs, rfl⟩
  exact ⟨rfl, sorted_to hB hg h1 h2 hH hp hs⟩
theorem sort_any (W : World) (B : Nat) (v : Value) (x : List S2) (hown : Own W B 45 v x) (hlen : x.length < 1099511627776) :
    Calls Try.prog 28 #[v, .func (.func 29) #[] #[]] W fun e w' => e = .returned (.tuple #[]) ∧ SortedTo W B v x w' := by
  rcases Nat.eq_zero_or_pos x.length with z | z
  · have hsp := hown.sp
    obtain ⟨a, cap, rfl, _⟩ := hown.slice
    have hcon := AnyF.slices_SortFunc_none (ρ := Wi.sortFunc_ren) Wi.sortFunc a cap (.func (.func 29) #[] #[]) W
    change Calls Try.prog 28 _ _ _ at hcon
    rw [z]
    refine hcon.mono ?_
    rintro e w' ⟨rfl, rfl⟩
    have e : x = [] := List.length_eq_zero_iff.1 z
    subst e
    exact ⟨rfl, [], hsp, rfl, fun s => Iff.rfl, fun i j _ h => by simp at h, Below.refl _ _⟩
  · exact sort_some W B v x hown z hlen

end Go.Proofs.Ytfoaneckegkhcaa.Wi
