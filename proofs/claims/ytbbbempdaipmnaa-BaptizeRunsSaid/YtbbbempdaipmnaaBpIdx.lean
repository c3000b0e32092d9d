/- baptize: slices.IndexFunc, ContainsFunc of slaves; Answers, nameless, missed, behind. -/
import Derived.Test.YtbbbempdaipmnaaBpRrun
namespace Go.Proofs.Ytbbbempdaipmnaa.Bp
open Go.RowKit
open Go.Proofs.Ytbbbempdaipmnaa.Rw (Rd Ow At)
open Go.Proofs.Ytbbbempdaipmnaa.Fl (ret_bool at_bool row_cell)
open Go.Proofs.Ytbbbempdaipmnaa.Nm (S zS sa sa_get sa_set mem_sa Gd KV atV Fit ret_i64)

/-- The place of the first one that is so; below 0: none is. -/
def ix (q : S → Bool) (l : List S) : Int := if l.any q = true then (l.findIdx q : Int) else -1
theorem get_sa {l : List S} {i : Nat} (h : i < l.length) : l[i] = sa l i := by
  have := sa_get h
  rw [List.getElem?_eq_getElem h] at this
  exact Option.some.inj this
theorem ix_hit {q : S → Bool} {l : List S} {i : Nat} (hi : i < l.length) (h : q (sa l i) = true) (hm : ∀ j, j < i → q (sa l j) = false) : ix q l = i := by
  have ha : l.any q = true := List.any_eq_true.2 ⟨_, mem_sa.2 ⟨i, hi, rfl⟩, h⟩
  unfold ix
  rw [if_pos ha, (List.findIdx_eq hi).2 ⟨by rw [get_sa]; exact h, fun j hj => by rw [get_sa]; exact hm j hj⟩]
theorem ix_miss {q : S → Bool} {l : List S} (hm : ∀ j, j < l.length → q (sa l j) = false) : ix q l = -1 := by
  have ha : ¬ l.any q = true := fun h => by
    obtain ⟨x, hx, h⟩ := List.any_eq_true.1 h
    obtain ⟨i, hi, rfl⟩ := mem_sa.1 hx
    rw [hm i hi] at h
    cases h
  unfold ix
  rw [if_neg ha]
theorem ix_any (q : S → Bool) (l : List S) : decide (0 ≤ ix q l) = l.any q := by
  unfold ix
  cases h : l.any q with
  | true => simp
  | false => simp
theorem ix_at {q : S → Bool} {l : List S} (h : l.any q = true) : ∃ i : Nat, ix q l = i ∧ i < l.length ∧ q (sa l i) = true := by
  obtain ⟨x, hx, hq⟩ := List.any_eq_true.1 h
  have hlt : l.findIdx q < l.length := List.findIdx_lt_length_of_exists ⟨x, hx, hq⟩
  refine ⟨l.findIdx q, by unfold ix; rw [if_pos h], hlt, ?_⟩
  rw [← get_sa hlt]
  exact List.findIdx_getElem
def qa (c : Int) (x : S) : Bool := decide (x.2 = 0 ∧ x.1 ≤ c)
def qh (p : Int) (x : S) : Bool := decide (x.2 = 0 ∧ x.1 = p)
theorem any_qa (l : List S) (c : Int) : decide (0 ≤ ix (qa c) l) = ans l c := ix_any _ _
theorem any_qh (l : List S) (p : Int) : decide (0 ≤ ix (qh p) l) = hd l p := ix_any _ _

/-- What is asked of a predicate: it may make memory, but leaves all that was there. -/
def PredS (g : Nat) (lb : Array Value) (p : S → Bool) (w : World) : Prop :=
  ∀ (W : World) (a b : Int), Below w.heap.size w W → Calls Try.prog g (#[.agg #[.int .u64 a, .int .i64 b]] ++ lb) W fun e w' => e = .returned (.bool (p (a, b))) ∧ Below w.heap.size w w'

set_option maxHeartbeats 1000000 in
theorem index_any (w : World) (v : Value) (l : List S) (g : Nat) (lb : Array Value) (p : S → Bool) (eg : ∀ args w, (callFunc g args).run Try.prog w = .ok (.enter g args) w) (R : Rd KV w v l) (hp : PredS g lb p w) :
    Calls Try.prog 37 #[v, .func (.func g) #[] lb] w fun e w' => e = .returned (.int .i64 (ix p l)) ∧ Below w.heap.size w w' := by
  obtain ⟨a, cap, rfl, _, hm, hA⟩ := R
  have HA := Lib.hid hA
  have HP := Lib.hid hp
  have HH : Hid (∀ i, i < l.length → p ((sa l i).1, (sa l i).2) = true → (∀ j, j < i → p ((sa l j).1, (sa l j).2) = false) → ix p l = i) := fun i => ix_hit
  have HM : Hid ((∀ j, j < l.length → p ((sa l j).1, (sa l j).2) = false) → ix p l = -1) := ix_miss
  clear hA hp
  generalize hr : ix p l = r at *
  clear hr
  generalize hn : l.length = n at *
  have HN := Lib.hid hn
  clear hn
  unfold maxLen at hm
  go_enter Try.func37, Try.ntmps37
  go_wp2
  go_loopw [8] (fun i wr => ∃ k : Nat, k ≤ n ∧ i = .int .i64 k ∧ Hid (∀ j, j < k → p ((sa l j).1, (sa l j).2) = false) ∧ Hid (Below w.heap.size w wr)) (fun i _ => n - (intOf i).toNat)
  case atStart => exact ⟨0, Nat.zero_le _, rfl, fun j hj => by omega, Below.refl _ _⟩
  case round =>
    obtain ⟨k, hk, rfl, hs, hb⟩ := hrel
    by_cases hlt : k < n
    · obtain ⟨b, off, rfl, hA⟩ := HA.out (by omega)
      obtain ⟨d1, d2⟩ := atV (hA.below hb.out) (i := k) (by have := HN.out; omega)
      have HAA := Lib.hid hA
      clear hA
      have hc := HP.out wr (sa l k).1 (sa l k).2 hb.out
      cases hq : p ((sa l k).1, (sa l k).2) with
      | true =>
        rw [hq] at hc
        have C := Lib.hid hc
        have HR := Lib.hid (HH.out k hlt hq hs.out)
        clear hc hq HH HM HP
        generalize sa l k = x at *
        go_wp2_with fail
        refine C.out.mono ?_
        rintro e w1 ⟨rfl, b1⟩
        go_wp2
        go_ret
        exact ⟨ret_i64 HR.out.symm, b1⟩
      | false =>
        rw [hq] at hc
        have C := Lib.hid hc
        have ST : Hid (∀ j, j < k + 1 → p ((sa l j).1, (sa l j).2) = false) := fun j hj => by
          by_cases e : j = k
          · rw [e]; exact hq
          · exact hs.out j (by omega)
        clear hc hq HH HM HP hs
        generalize sa l k = x at *
        go_wp2_with fail
        refine C.out.mono ?_
        rintro e w1 ⟨rfl, b1⟩
        have B1 := Lib.hid b1
        clear b1
        go_wp2
        go_roundw
        case rel => exact ⟨k + 1, by omega, by go_num, ST, B1⟩
        case measure => simp [intOf]; omega
    · obtain rfl : k = n := by omega
      have HR := Lib.hid (HM.out hs.out)
      go_wp2
      go_ret
      exact ⟨ret_i64 HR.out.symm, hb.out⟩

theorem contains_any (w : World) (v : Value) (l : List S) (g : Nat) (lb : Array Value) (p : S → Bool) (eg : ∀ args w, (callFunc g args).run Try.prog w = .ok (.enter g args) w) (R : Rd KV w v l) (hp : PredS g lb p w) :
    Calls Try.prog 28 #[v, .func (.func g) #[] lb] w fun e w' => e = .returned (.bool (decide (0 ≤ ix p l))) ∧ Below w.heap.size w w' := by
  have C := Lib.hid (index_any w v l g lb p eg R hp)
  clear eg R hp
  generalize ix p l = r at *
  go_enter Try.func28, Try.ntmps28
  go_wp2_with fail
  refine C.out.mono ?_
  rintro e w1 ⟨rfl, b1⟩
  go_wp2
  go_ret
  exact ⟨rfl, b1⟩

theorem aclos_any (w : World) (B : Nat) (c : Int) (hc : w.cell? ⟨B, 0, none⟩ = some (.int .u64 c)) : PredS 29 #[.pointer (some ⟨B, 0, none⟩)] (qa c) w := fun W a b hb => by
  have hlt := World.block_lt_of_cell? _ _ hc
  have d := (hb.cell hlt).trans hc
  have hz := hb.size
  have hBW : B < W.heap.size := Nat.lt_of_lt_of_le hlt hz
  clear hc hlt
  show Calls Try.prog 29 #[.agg #[.int .u64 a, .int .i64 b], .pointer (some ⟨B, 0, none⟩)] W _
  have HB := Lib.hid (hb.alloc hz (.cells #[.int .u64 a, .int .i64 b] 41))
  clear hb
  by_cases h1 : b = 0
  · have q1 : (b == 0) = true := beq_iff_eq.2 h1
    have q1' : decide (b = 0) = true := decide_eq_true h1
    by_cases h2 : a ≤ c
    · have E : Hid (qa c (a, b) = true) := Lib.hid (by simp [qa, h1, h2])
      rw [E.out]
      clear E h1
      go_enter Try.func29, Try.ntmps29
      go_wp2
      go_ret
      exact ⟨rfl, HB.out⟩
    · have E : Hid (qa c (a, b) = false) := Lib.hid (by simp [qa, h2])
      rw [E.out]
      clear E h1
      go_enter Try.func29, Try.ntmps29
      go_wp2
      go_ret
      exact ⟨rfl, HB.out⟩
  · have q1 : (b == 0) = false := beq_eq_false_iff_ne.2 h1
    have q1' : decide (b = 0) = false := decide_eq_false h1
    have E : Hid (qa c (a, b) = false) := Lib.hid (by simp [qa, h1])
    rw [E.out]
    clear E
    go_enter Try.func29, Try.ntmps29
    go_wp2
    go_ret
    exact ⟨rfl, HB.out⟩

theorem nclos_any (w : World) (B : Nat) (c : Int) (hc : w.cell? ⟨B, 0, none⟩ = some (.int .u64 c)) : PredS 38 #[.pointer (some ⟨B, 0, none⟩)] (qh c) w := fun W a b hb => by
  have hlt := World.block_lt_of_cell? _ _ hc
  have d := (hb.cell hlt).trans hc
  have hz := hb.size
  have hBW : B < W.heap.size := Nat.lt_of_lt_of_le hlt hz
  clear hc hlt
  show Calls Try.prog 38 #[.agg #[.int .u64 a, .int .i64 b], .pointer (some ⟨B, 0, none⟩)] W _
  have HB := Lib.hid (hb.alloc hz (.cells #[.int .u64 a, .int .i64 b] 41))
  clear hb
  by_cases h1 : b = 0
  · have q1 : (b == 0) = true := beq_iff_eq.2 h1
    have q1' : decide (b = 0) = true := decide_eq_true h1
    by_cases h2 : a = c
    · have E : Hid (qh c (a, b) = true) := Lib.hid (by simp [qh, h1, h2])
      have q2 : (a == c) = true := beq_iff_eq.2 h2
      have q2' : decide (a = c) = true := decide_eq_true h2
      rw [E.out]
      clear E h1 h2
      go_enter Try.func38, Try.ntmps38
      go_wp2
      go_ret
      exact ⟨rfl, HB.out⟩
    · have E : Hid (qh c (a, b) = false) := Lib.hid (by simp [qh, h2])
      have q2 : (a == c) = false := beq_eq_false_iff_ne.2 h2
      have q2' : decide (a = c) = false := decide_eq_false h2
      rw [E.out]
      clear E h1
      go_enter Try.func38, Try.ntmps38
      go_wp2
      go_ret
      exact ⟨rfl, HB.out⟩
  · have q1 : (b == 0) = false := beq_eq_false_iff_ne.2 h1
    have q1' : decide (b = 0) = false := decide_eq_false h1
    have E : Hid (qh c (a, b) = false) := Lib.hid (by simp [qh, h1])
    rw [E.out]
    clear E
    go_enter Try.func38, Try.ntmps38
    go_wp2
    go_ret
    exact ⟨rfl, HB.out⟩

theorem answers_any (w : World) (v : Value) (l : List S) (R : Rd KV w v l) (c : Int) : Calls Try.prog 14 #[v, .int .u64 c] w fun e w' => e = .returned (.bool (ans l c)) ∧ Below w.heap.size w w' := by
  have eg : ∀ args w, (callFunc 29 args).run Try.prog w = .ok (.enter 29 args) w := enters_of Try.func29 (by kernel_rfl) rfl
  have hb : Below w.heap.size w (w.alloc (.cells #[.int .u64 c] 24)) := (Below.refl _ _).alloc (Nat.le_refl _) _
  have c0 := contains_any (w.alloc (.cells #[.int .u64 c] 24)) v l 29 #[.pointer (some ⟨w.heap.size, 0, none⟩)] (qa c) eg (R.below hb) (aclos_any _ _ _ (by go_simp))
  rw [any_qa] at c0
  have C := Lib.hid c0
  have HB := Lib.hid hb
  obtain ⟨a, cap, rfl, _⟩ := R.slice
  clear c0 hb R eg
  have hmf : ∀ (fn : Fn) (first cap : Array Value) (w : World), (Instr.makeFunc fn first cap).run Try.prog w = .ok (.func fn first cap) w := fun _ _ _ _ => rfl
  generalize ans l c = r at *
  go_enter Try.func14, Try.ntmps14
  go_wp2_with fail
  refine C.out.mono ?_
  rintro e w1 ⟨rfl, b1⟩
  go_wp2
  go_ret
  exact ⟨rfl, HB.out.trans (b1.mono (by simp))⟩

theorem nameless_any (w : World) (v : Value) (l : List S) (R : Rd KV w v l) (c : Int) : Calls Try.prog 26 #[v, .int .u64 c] w fun e w' => e = .returned (.int .i64 (ix (qh c) l)) ∧ Below w.heap.size w w' := by
  have eg : ∀ args w, (callFunc 38 args).run Try.prog w = .ok (.enter 38 args) w := enters_of Try.func38 (by kernel_rfl) rfl
  have hb : Below w.heap.size w (w.alloc (.cells #[.int .u64 c] 24)) := (Below.refl _ _).alloc (Nat.le_refl _) _
  have c0 := index_any (w.alloc (.cells #[.int .u64 c] 24)) v l 38 #[.pointer (some ⟨w.heap.size, 0, none⟩)] (qh c) eg (R.below hb) (nclos_any _ _ _ (by go_simp))
  have C := Lib.hid c0
  have HB := Lib.hid hb
  obtain ⟨a, cap, rfl, _⟩ := R.slice
  clear c0 hb R eg
  have hmf : ∀ (fn : Fn) (first cap : Array Value) (w : World), (Instr.makeFunc fn first cap).run Try.prog w = .ok (.func fn first cap) w := fun _ _ _ _ => rfl
  generalize ix (qh c) l = r at *
  go_enter Try.func26, Try.ntmps26
  go_wp2_with fail
  refine C.out.mono ?_
  rintro e w1 ⟨rfl, b1⟩
  go_wp2
  go_ret
  exact ⟨rfl, HB.out.trans (b1.mono (by simp))⟩

theorem missed_any (w : World) (v : Value) (L : List Bool) (R : Rd KG w v L) (i : Nat) : Calls Try.prog 35 #[v, .int .i64 i] w fun e w' => e = .returned (.bool (gon L i)) ∧ w' = w := by
  obtain ⟨a, cap, rfl, _, hm, hA⟩ := R
  have HA := Lib.hid hA
  unfold maxLen at hm
  have OFF : Hid (L.length ≤ i → false = gon L i) := fun h => (gon_off h).symm
  clear hA
  generalize hn : L.length = n at *
  have HN := Lib.hid hn
  clear hn
  by_cases h : i < n
  · obtain ⟨b, off, rfl, A⟩ := HA.out (by omega)
    have c0 := atG A (i := i) (by rw [HN.out]; exact h)
    have HAA := Lib.hid A
    clear A OFF
    generalize gon L i = g at *
    go_enter Try.func35, Try.ntmps35
    go_wp2
    go_ret
    exact ⟨ret_bool (by simp), rfl⟩
  · have E := Lib.hid (OFF.out (by omega))
    clear OFF HA
    go_enter Try.func35, Try.ntmps35
    go_wp2
    go_ret
    exact ⟨ret_bool E.out, rfl⟩

/-- Behind some of them. -/
def BehPost (w : World) (L : List Bool) (r : Nat) (e : Ending) (w' : World) : Prop := ∃ u, e = .returned u ∧ Rd KG w' u (L.drop r) ∧ Below w.heap.size w w'
theorem rd_drop {α : Type} {K : Rw.Kind α} {w : World} {l : List α} {a : Option Addr} {cap n m k : Nat} (h : Rd K w (.slice a n cap) l) (hn : l.length = n) (hm : m ≤ n) (e : K.n = 1) (c' : Nat) (a' : Option Addr) (hc : c' = cap - m) (hk : k = n - m) (ha : a' = none → c' = 0) (ha2 : m < n → a' = a.map (·.add m)) : Rd K w (.slice a' k c') (l.drop m) := by
  obtain ⟨a, cap1, e1, ⟨h1, _⟩, h3, h4⟩ := h
  injection e1 with e1 e2 e3
  subst e1 e3 hk
  refine ⟨a', c', by rw [List.length_drop, hn], ⟨by rw [List.length_drop]; omega, ha⟩, by omega, fun hp => ?_⟩
  rw [List.length_drop] at hp
  obtain ⟨b, off, rfl, hA⟩ := h4 (by omega)
  refine ⟨b, off + m, by rw [ha2 (by omega)]; simp [Addr.add_lit], fun i hi j u hu => ?_⟩
  rw [List.length_drop] at hi
  have q := hA (m + i) (by omega) j u (by rw [← hu, List.getD, List.getD, List.getElem?_drop])
  rw [e, Nat.mul_one] at q
  rw [e, Nat.mul_one, Nat.add_assoc off m i]
  exact q
set_option maxHeartbeats 1000000 in
theorem behind_any (w : World) (v : Value) (L : List Bool) (R : Rd KG w v L) (r : Nat) : Calls Try.prog 21 #[v, .int .i64 r] w (BehPost w L r) := by
  have RR := Lib.hid R
  obtain ⟨a, cap, rfl, ⟨hlc, hno⟩, hm, hA⟩ := R
  unfold maxLen at hm
  have FIN : Hid (∀ (m k c' : Nat) (a' : Option Addr), m ≤ L.length → L.drop m = L.drop r → k = L.length - m → c' = cap - m → (a' = a ∧ cap = m ∨ a' = a.map (·.add m)) → BehPost w L r (.returned (.slice a' k c')) w) := Lib.hid (fun m k c' a' h1 h2 h3 h4 h5 => ⟨_, rfl, by
    rw [← h2]
    refine rd_drop RR.out rfl h1 rfl c' a' h4 h3 (fun e => ?_) (fun e => ?_)
    · subst e
      cases a with
      | none => have := hno rfl; omega
      | some x => rcases h5 with h5 | h5 <;> simp at h5
    · rcases h5 with h5 | h5
      · omega
      · exact h5, Below.refl _ _⟩)
  have D : Hid (L.length < r → L.drop L.length = L.drop r) := Lib.hid (fun h => by rw [List.drop_eq_nil_of_le (by omega), List.drop_eq_nil_of_le (by omega)])
  clear hA hno RR
  generalize hn : L.length = n at *
  have HN := Lib.hid hn
  clear hn
  by_cases h : n < r
  · have F := Lib.hid (fun k c' a' => FIN.out n k c' a' (Nat.le_refl _) (D.out h))
    clear FIN D
    by_cases hc : cap = n
    · subst hc
      have E := Lib.hid (F.out 0 0 a (by omega) (by omega) (.inl ⟨rfl, rfl⟩))
      clear F
      go_enter Try.func21, Try.ntmps21
      go_wp2
      go_ret
      exact E.out
    · have E := Lib.hid (F.out 0 (cap - n) _ (by omega) rfl (.inr rfl))
      clear F
      go_enter Try.func21, Try.ntmps21
      go_wp2
      go_ret
      exact E.out
  · have F := Lib.hid (fun k c' a' => FIN.out r k c' a' (by omega) rfl)
    clear FIN D
    by_cases hc : cap = r
    · subst hc
      have E := Lib.hid (F.out 0 0 a (by omega) (by omega) (.inl ⟨rfl, rfl⟩))
      clear F
      go_enter Try.func21, Try.ntmps21
      go_wp2
      go_ret
      exact E.out
    · have E := Lib.hid (F.out (n - r) (cap - r) _ rfl rfl (.inr rfl))
      clear F
      go_enter Try.func21, Try.ntmps21
      go_wp2
      go_ret
      exact E.out

end Go.Proofs.Ytbbbempdaipmnaa.Bp
