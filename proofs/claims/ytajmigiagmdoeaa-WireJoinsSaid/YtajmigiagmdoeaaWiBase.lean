/- The small functions of layer 2: which span has ticks, which of two begins first; appending a span; the spans that a statement takes. -/
import Derived.Test.YtajmigiagmdoeaaWiMath
import Derived.Test.YtajmigiagmdoeaaChecked
import Derived.LoopTactic
import Derived.Outline
import Derived.Deep.LoopGhost
import Derived.BigQuiet
import Derived.Deep.QuietTactic
import Derived.WalkSmall
namespace Go.Proofs.Ytajmigiagmdoeaa.Wi
open Go.RowKit Go.Proofs.Ytajmigiagmdoeaa.Sp

theorem ret_bool {a b : Bool} (h : a = b) : Ending.returned (.bool a) = .returned (.bool b) := by rw [h]
theorem ret_int {a b : Int} (h : a = b) : Ending.returned (.int .i64 a) = .returned (.int .i64 b) := by rw [h]

theorem infoS : (Try.prog.info? 33).map (fun i => (i.zero, i.size, i.bytes)) = some (some (.agg #[.int .i64 0, .int .i64 0]), 2, 16) := by kernel_rfl

theorem addr_zero (a : Addr) : a.add 0 = a := by cases a; simp [Addr.add]
/-- 'list = append(list, s)', of a list that is the call's own. -/
theorem push_step {w : World} {ops : Array Oper} {rest : List Oper} {o : Oper} {a : Act} {Q : Exit → Act → World → Prop} (hgd : o.guard = none) (s x : Operand)
    (ho : o.op = .call { callee := .builtin .append, args := #[s, x], argTypes := #[22, 22] }) (B : Nat) (v : Value) (l : List S2) (hs : a.eval s = v) (hown : Own w B 33 v l)
    (ad : Addr) (p q : Int) (hx : a.eval x = .slice (some ad) 1 1) (h0 : w.cell? ad = some (.int .i64 p)) (h1 : w.cell? (ad.add 1) = some (.int .i64 q)) (hlen : l.length < 4398046511104) (hB : B ≤ w.heap.size)
    (h : ∀ v' w', Own w' B 33 v' (l ++ [(p, q)]) → Below B w w' → wpList Try.prog ops Q rest (a.put o.dst v') w') : wpList Try.prog ops Q (o :: rest) a w := by
  obtain ⟨i0, hi, hz0, hz1, hz2⟩ := info_parts infoS
  refine wpList_append_own _ hgd s x 22 ho B 33 i0 (.agg #[.int .i64 0, .int .i64 0]) 2 16 Try.underlying22 hi hz0 hz1 hz2 rfl (by decide) v l.length (flat l) hs hown ad 1 1 [.int .i64 p, .int .i64 q] hx rfl ?_ ?_ ?_ ?_ hB ?_
  · intro j u hj
    match j, hj with
    | 0, hj => simp at hj; subst hj; rw [addr_zero]; exact h0
    | 1, hj => simp at hj; subst hj; exact h1
    | j + 2, hj => simp at hj
  · intro u hu
    simp at hu
    rcases hu with rfl | rfl <;> rfl
  · unfold maxLen; omega
  · omega
  · intro v' w' h2 h3 _
    exact h v' w' (Own.push (s := (p, q)) h2) ((Below.refl B w).grown h3 hB fun k hk => (World.ownsRow.lt hown k hk).1)

theorem ticks_any (w : World) (a b : Int) : Calls Try.prog 23 #[.agg #[.int .i64 a, .int .i64 b]] w fun e w' => e = .returned (.bool (decide (a < b))) ∧ Below w.heap.size w w' := by
  go_enter Try.func23, Try.ntmps23
  go_wp2
  go_ret
  exact ⟨rfl, (Below.refl _ _).alloc (Nat.le_refl _) _⟩

theorem nan_any (w : World) (a : Int) : Calls Try.prog 32 #[.int .i64 a] w fun e w' => e = .returned (.bool false) ∧ w = w' := by
  go_enter Try.func32, Try.ntmps32
  go_wp2
  go_ret
  exact ⟨by simp, rfl⟩

def cmpI (a b : Int) : Int := if a < b then -1 else if b < a then 1 else 0
theorem compare_any (w : World) (a b : Int) : Calls Try.prog 29 #[.int .i64 a, .int .i64 b] w fun e w' => e = .returned (.int .i64 (cmpI a b)) ∧ w = w' := by
  by_cases h : a < b
  · go_enter Try.func29, Try.ntmps29
    go_wp2_with (go_at_call 32; refine (nan_any _ _).mono ?_; rintro e w' ⟨rfl, rfl⟩)
    go_ret
    exact ⟨ret_int (by simp [cmpI, h]), rfl⟩
  · by_cases h2 : b < a
    · go_enter Try.func29, Try.ntmps29
      go_wp2_with (go_at_call 32; refine (nan_any _ _).mono ?_; rintro e w' ⟨rfl, rfl⟩)
      go_ret
      exact ⟨ret_int (by simp [cmpI, h, h2]), rfl⟩
    · go_enter Try.func29, Try.ntmps29
      go_wp2_with (go_at_call 32; refine (nan_any _ _).mono ?_; rintro e w' ⟨rfl, rfl⟩)
      go_ret
      exact ⟨ret_int (by rw [cmpI, if_neg (by omega), if_neg (by omega)]), rfl⟩

theorem near_snoc {l : List S2} {p q : Int} (h : Near l) (p0 : -1099511627776 ≤ p) (p1 : p ≤ 1099511627776) (q0 : -1099511627776 ≤ q) (q1 : q ≤ 1099511627776) : Near (l ++ [(p, q)]) := by
  have e : ∀ i, i < (l ++ [(p, q)]).length → (i < l.length ∧ fr (l ++ [(p, q)]) i = fr l i ∧ tp (l ++ [(p, q)]) i = tp l i) ∨ (fr (l ++ [(p, q)]) i = p ∧ tp (l ++ [(p, q)]) i = q) := fun i hi => by
    by_cases c : i < l.length
    · exact .inl ⟨c, by simp [fr, List.getD, List.getElem?_append_left c], by simp [tp, List.getD, List.getElem?_append_left c]⟩
    · have : i = l.length := by simp at hi; omega
      subst this
      exact .inr ⟨by simp [fr], by simp [tp]⟩
  refine ⟨fun i hi => ?_, fun i hi => ?_, fun i hi => ?_, fun i hi => ?_⟩
  · rcases e i hi with ⟨c, e1, e2⟩ | ⟨e1, e2⟩
    · rw [e1]; exact h.f0 i c
    · rw [e1]; exact p0
  · rcases e i hi with ⟨c, e1, e2⟩ | ⟨e1, e2⟩
    · rw [e1]; exact h.f1 i c
    · rw [e1]; exact p1
  · rcases e i hi with ⟨c, e1, e2⟩ | ⟨e1, e2⟩
    · rw [e2]; exact h.t0 i c
    · rw [e2]; exact q0
  · rcases e i hi with ⟨c, e1, e2⟩ | ⟨e1, e2⟩
    · rw [e2]; exact h.t1 i c
    · rw [e2]; exact q1
theorem near_nil : Near [] := ⟨fun i hi => by simp at hi, fun i hi => by simp at hi, fun i hi => by simp at hi, fun i hi => by simp at hi⟩

/-- A list that the call has made: below its beginning all is as it was. -/
def Made (w : World) (P : List S2 → Prop) (e : Ending) (w' : World) : Prop := ∃ v x, e = .returned v ∧ Own w' w.heap.size 33 v x ∧ P x ∧ Below w.heap.size w w'
/-- Some few spans, none far off. -/
def Few (x : List S2) : Prop := x.length ≤ 20 ∧ Near x

def FewRel (W0 : Nat) (w : World) (v : Value) (k : Nat) (wr : World) : Prop := ∃ x : List S2, Own wr W0 33 v x ∧ x.length ≤ k ∧ Near x ∧ Below w.heap.size w wr ∧ W0 = w.heap.size

set_option maxHeartbeats 800000 in
theorem few_any (w : World) (v : Value) (l : List S2) (h : Sp w v l) : Calls Try.prog 6 #[v] w (Made w Few) := by
  obtain ⟨a, cap, rfl, h1, h2, h3⟩ := h
  have H3 := Lib.hid h3
  clear h3
  generalize hn : l.length = n at *
  have HN := Lib.hid hn
  clear hn
  unfold maxLen at h2
  go_enter Try.func6, Try.ntmps6
  go_wp2
  go_loopw [3, 4] (fun v i wr => ∃ k : Nat, k ≤ n ∧ k ≤ 20 ∧ i = .int .i64 k ∧ FewRel w.heap.size w v k wr) (fun _ i _ => n - (intOf i).toNat)
  case atStart => exact ⟨0, Nat.zero_le _, by omega, rfl, [], Own.made _ _ _ (Nat.le_refl _), by simp, near_nil, (Below.refl _ _).alloc (Nat.le_refl _) _, rfl⟩
  case round =>
    obtain ⟨k, hk, hk2, rfl, x, hown, hx, hN, hb, _⟩ := hrel
    have hB := hb.size
    by_cases hlt : k < n
    · by_cases h20 : k < 20
      · obtain ⟨b, off, rfl, hA⟩ := H3.out (by omega)
        obtain ⟨c1, c2⟩ := hA k (by have := HN.out; omega)
        have d1 := (hb.cell (World.block_lt_of_cell? _ _ c1)).trans c1
        have d2 := (hb.cell (World.block_lt_of_cell? _ _ c2)).trans c2
        have HA := Lib.hid hA
        clear c1 c2 hA
        by_cases h4 : -1099511627776 ≤ fr l k ∧ fr l k ≤ 1099511627776 ∧ -1099511627776 ≤ tp l k ∧ tp l k ≤ 1099511627776
        · obtain ⟨p0, p1, q0, q1⟩ := h4
          go_wp2_with (at_builtin; refine push_step rfl _ _ rfl w.heap.size _ _ rfl ((hown.alloc _).alloc _) _ (fr l k) (tp l k) rfl ?c1 ?c2 ?c3 ?c4 ?_)
          case c3 => omega
          case c4 => omega
          intro v' w1 hown1 hb1
          have R : FewRel w.heap.size w v' (k + 1) w1 := ⟨_, hown1, by simp; omega, near_snoc hN p0 p1 q0 q1, ((hb.alloc hB _).alloc (by simp; omega) _).trans hb1, rfl⟩
          clear hown1 hb1 hown
          go_wp2
          go_roundw
          case rel => exact ⟨k + 1, by omega, by omega, by go_num, R⟩
          case measure => simp [intOf]; omega
        · have R : FewRel w.heap.size w _ (k + 1) (wr.alloc (.cells #[.int .i64 (fr l k), .int .i64 (tp l k)] 33)) := ⟨x, hown.alloc _, by omega, hN, hb.alloc hB _, rfl⟩
          clear hown hb
          go_wp2
          all_goals first
            | (exfalso; omega)
            | (go_roundw
               case rel => exact ⟨k + 1, by omega, by omega, by go_num, R⟩
               case measure => simp [intOf]; omega)
      · go_wp2
        go_ret
        exact ⟨_, x, rfl, hown, ⟨by omega, hN⟩, hb⟩
    · go_wp2
      go_ret
      exact ⟨_, x, rfl, hown, ⟨by omega, hN⟩, hb⟩

end Go.Proofs.Ytajmigiagmdoeaa.Wi
