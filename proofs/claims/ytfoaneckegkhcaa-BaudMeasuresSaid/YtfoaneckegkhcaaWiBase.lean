/- The small functions of layer 2: which span has ticks, which of two begins first; appending a span; the spans that a statement takes. -/
import Derived.Test.YtfoaneckegkhcaaWiMath
import Derived.Test.YtfoaneckegkhcaaChecked
import Derived.LoopTactic
import Derived.Outline
import Derived.Deep.LoopGhost
import Derived.BigQuiet
import Derived.Deep.QuietTactic
import Derived.WalkSmall
namespace Go.Proofs.Ytfoaneckegkhcaa.Wi
open Go.RowKit Go.Proofs.Ytfoaneckegkhcaa.Sp

theorem ret_bool {a b : Bool} (h : a = b) : Ending.returned (.bool a) = .returned (.bool b) := by rw [h]
theorem ret_int {a b : Int} (h : a = b) : Ending.returned (.int .i64 a) = .returned (.int .i64 b) := by rw [h]

theorem infoS : (Try.prog.info? 45).map (fun i => (i.zero, i.size, i.bytes)) = some (some (.agg #[.int .i64 0, .int .i64 0]), 2, 16) := by kernel_rfl

theorem addr_zero (a : Addr) : a.add 0 = a := by cases a; simp [Addr.add]
/-- 'list = append(list, s)', of a list that is the call's own. -/
theorem push_step {w : World} {ops : Array Oper} {rest : List Oper} {o : Oper} {a : Act} {Q : Exit → Act → World → Prop} (hgd : o.guard = none) (s x : Operand)
    (ho : o.op = .call { callee := .builtin .append, args := #[s, x], argTypes := #[22, 22] }) (B : Nat) (v : Value) (l : List S2) (hs : a.eval s = v) (hown : Own w B 45 v l)
    (ad : Addr) (p q : Int) (hx : a.eval x = .slice (some ad) 1 1) (h0 : w.cell? ad = some (.int .i64 p)) (h1 : w.cell? (ad.add 1) = some (.int .i64 q)) (hlen : l.length < 4398046511104) (hB : B ≤ w.heap.size)
    (h : ∀ v' w', Own w' B 45 v' (l ++ [(p, q)]) → Below B w w' → wpList Try.prog ops Q rest (a.put o.dst v') w') : wpList Try.prog ops Q (o :: rest) a w := by
  obtain ⟨i0, hi, hz0, hz1, hz2⟩ := info_parts infoS
  refine wpList_append_own _ hgd s x 22 ho B 45 i0 (.agg #[.int .i64 0, .int .i64 0]) 2 16 Try.underlying22 hi hz0 hz1 hz2 rfl (by decide) v l.length (flat l) hs hown ad 1 1 [.int .i64 p, .int .i64 q] hx rfl ?_ ?_ ?_ ?_ hB ?_
  · intro j u hj
    match j, hj with
    | 0, hj => simp at hj; subst hj; rw [addr_zero]; exact h0
    | 1, hj => simp at hj; subst hj; exact h1
    | j + 2, hj => simp at hj
  · intro u hu
    simp at hu
    rcases hu with rfl | rfl <;> rfl
  · unfold maxLen; omega
  · omega
  · intro v' w' h2 h3 _
    exact h v' w' (Own.push (s := (p, q)) h2) ((Below.refl B w).grown h3 hB fun k hk => (World.ownsRow.lt hown k hk).1)

theorem ticks_any (w : World) (a b : Int) : Calls Try.prog 27 #[.agg #[.int .i64 a, .int .i64 b]] w fun e w' => e = .returned (.bool (decide (a < b))) ∧ Below w.heap.size w w' := by
  go_enter Try.func27, Try.ntmps27
  go_wp2
  go_ret
  exact ⟨rfl, (Below.refl _ _).alloc (Nat.le_refl _) _⟩

theorem nan_any (w : World) (a : Int) : Calls Try.prog 34 #[.int .i64 a] w fun e w' => e = .returned (.bool false) ∧ w = w' := by
  go_enter Try.func34, Try.ntmps34
  go_wp2
  go_ret
  exact ⟨by simp, rfl⟩

def cmpI (a b : Int) : Int := if a < b then -1 else if b < a then 1 else 0
theorem compare_any (w : World) (a b : Int) : Calls Try.prog 30 #[.int .i64 a, .int .i64 b] w fun e w' => e = .returned (.int .i64 (cmpI a b)) ∧ w = w' := by
  by_cases h : a < b
  · go_enter Try.func30, Try.ntmps30
    go_wp2_with (go_at_call 34; refine (nan_any _ _).mono ?_; rintro e w' ⟨rfl, rfl⟩)
    go_ret
    exact ⟨ret_int (by simp [cmpI, h]), rfl⟩
  · by_cases h2 : b < a
    · go_enter Try.func30, Try.ntmps30
      go_wp2_with (go_at_call 34; refine (nan_any _ _).mono ?_; rintro e w' ⟨rfl, rfl⟩)
      go_ret
      exact ⟨ret_int (by simp [cmpI, h, h2]), rfl⟩
    · go_enter Try.func30, Try.ntmps30
      go_wp2_with (go_at_call 34; refine (nan_any _ _).mono ?_; rintro e w' ⟨rfl, rfl⟩)
      go_ret
      exact ⟨ret_int (by rw [cmpI, if_neg (by omega), if_neg (by omega)]), rfl⟩

theorem near_snoc {l : List S2} {p q : Int} (h : Near l) (p0 : -1099511627776 ≤ p) (p1 : p ≤ 1099511627776) (q0 : -1099511627776 ≤ q) (q1 : q ≤ 1099511627776) : Near (l ++ [(p, q)]) := by
  have e : ∀ i, i < (l ++ [(p, q)]).length → (i < l.length ∧ fr (l ++ [(p, q)]) i = fr l i ∧ tp (l ++ [(p, q)]) i = tp l i) ∨ (fr (l ++ [(p, q)]) i = p ∧ tp (l ++ [(p, q)]) i = q) := fun i hi => by
    by_cases c : i < l.length
    · exact .inl ⟨c, by simp [fr, List.getD, List.getElem?_append_left c], by simp [tp, List.getD, List.getElem?_append_left c]⟩
    · have : i = l.length := by simp at hi; omega
      subst this
      exact .inr ⟨by simp [fr], by simp [tp]⟩
  refine ⟨fun i hi => ?_, fun i hi => ?_, fun i hi => ?_, fun i hi => ?_⟩
  · rcases e i hi with ⟨c, e1, e2⟩ | ⟨e1, e2⟩
    · rw [e1]; exact h.f0 i c
    · rw [e1]; exact p0
  · rcases e i hi with ⟨c, e1, e2⟩ | ⟨e1, e2⟩
    · rw [e1]; exact h.f1 i c
    · rw [e1]; exact p1
  · rcases e i hi with ⟨c, e1, e2⟩ | ⟨e1, e2⟩
    · rw [e2]; exact h.t0 i c
    · rw [e2]; exact q0
  · rcases e i hi with ⟨c, e1, e2⟩ | ⟨e1, e2⟩
    · rw [e2]; exact h.t1 i c
    · rw [e2]; exact q1
theorem near_nil : Near [] := ⟨fun i hi => by simp at hi, fun i hi => by simp at hi, fun i hi => by simp at hi, fun i hi => by simp at hi⟩

/-- A list that the call has made: below its beginning all is as it was. -/
def Made (w : World) (P : List S2 → Prop) (e : Ending) (w' : World) : Prop := ∃ v x, e = .returned v ∧ Own w' w.heap.size 45 v x ∧ P x ∧ Below w.heap.size w w'
/-- Some few spans, none far off. -/
def Few (x : List S2) : Prop := x.length ≤ 20 ∧ Near x

def FewRel (W0 : Nat) (w : World) (v : Value) (k : Nat) (wr : World) : Prop := ∃ x : List S2, Own wr W0 45 v x ∧ x.length ≤ k ∧ Near x ∧ Below w.heap.size w wr ∧ W0 = w.heap.size

theorem sp_one (W : World) (a b : Int) : Sp (W.alloc (.cells #[.int .i64 a, .int .i64 b] 45)) (.slice (some ⟨W.heap.size, 0, none⟩) 1 1) [(a, b)] :=
  ⟨_, 1, rfl, Nat.le_refl _, by unfold maxLen; omega, fun _ => ⟨_, _, rfl, fun i hi => by
    have : i = 0 := by simp at hi; omega
    subst this
    exact ⟨by go_simp; rfl, by go_simp; rfl⟩⟩⟩
theorem sp_two (W : World) (a b c d : Int) : Sp (W.alloc (.cells #[.int .i64 a, .int .i64 b, .int .i64 c, .int .i64 d] 45)) (.slice (some ⟨W.heap.size, 0, none⟩) 2 2) [(a, b), (c, d)] :=
  ⟨_, 2, rfl, Nat.le_refl _, by unfold maxLen; omega, fun _ => ⟨_, _, rfl, fun i hi => by
    rcases (by simp at hi; omega : i = 0 ∨ i = 1) with rfl | rfl
    · exact ⟨by go_simp; rfl, by go_simp; rfl⟩
    · exact ⟨by go_simp; rfl, by go_simp; rfl⟩⟩⟩

end Go.Proofs.Ytfoaneckegkhcaa.Wi
