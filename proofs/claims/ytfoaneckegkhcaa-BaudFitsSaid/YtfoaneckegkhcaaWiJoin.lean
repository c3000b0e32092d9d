/- wire.Join: the plain list that is low at just the ticks at which one of the lists is. -/
import Derived.Test.YtfoaneckegkhcaaWiSort
import Derived.Test.YtfoaneckegkhcaaWiRef
import Derived.StillTailTactics
namespace Go.Proofs.Ytfoaneckegkhcaa.Wi
open Go.RowKit Go.Proofs.Ytfoaneckegkhcaa.Sp

/-- A slice of slices of spans. -/
def Rows (w : World) (v : Value) (ls : List (List S2)) : Prop := ∃ a cap, v = .slice a ls.length cap ∧ ls.length ≤ cap ∧ cap ≤ maxLen ∧ (0 < ls.length → ∃ b off, a = some ⟨b, off, none⟩ ∧ ∀ i, i < ls.length → ∃ u, w.cell? ⟨b, off + i, none⟩ = some u ∧ Sp w u (ls.getD i []))
def tot (ls : List (List S2)) : Nat → Nat
  | 0 => 0
  | k + 1 => tot ls k + (ls.getD k []).length
theorem tot_mono (ls : List (List S2)) {i j : Nat} (h : i ≤ j) : tot ls i ≤ tot ls j := by
  induction j with
  | zero => rw [show i = 0 by omega]; exact Nat.le_refl _
  | succ j ih =>
    by_cases e : i = j + 1
    · rw [e]; exact Nat.le_refl _
    · have := ih (by omega)
      show tot ls i ≤ tot ls j + _
      omega

/-- What is gathered of the first k rows, and of j of the next one. -/
structure Acc (ls : List (List S2)) (k j : Nat) (x : List S2) : Prop where
  ticks : ∀ s ∈ x, s.1 < s.2
  low : ∀ t, Low x t ↔ (∃ i, i < k ∧ Low (ls.getD i []) t) ∨ Low ((ls.getD k []).take j) t
  len : x.length ≤ tot ls k + j
theorem Acc.zero (ls : List (List S2)) : Acc ls 0 0 [] := ⟨fun s h => by simp at h, fun t => by
  constructor
  · exact fun h => absurd h low_nil
  · rintro (⟨i, h, _⟩ | h)
    · omega
    · simp at h; exact h, by simp⟩
theorem Acc.push {ls : List (List S2)} {k j : Nat} {x : List S2} (h : Acc ls k j x) (hj : j < (ls.getD k []).length) (ht : fr (ls.getD k []) j < tp (ls.getD k []) j) : Acc ls k (j + 1) (x ++ [(fr (ls.getD k []) j, tp (ls.getD k []) j)]) := by
  refine ⟨fun s hs => ?_, fun t => ?_, by have := h.len; simp; omega⟩
  · rcases List.mem_append.1 hs with c | c
    · exact h.ticks s c
    · simp at c; subst c; exact ht
  · rw [low_append, h.low, take_snoc hj, low_append, or_assoc]
theorem Acc.skip {ls : List (List S2)} {k j : Nat} {x : List S2} (h : Acc ls k j x) (hj : j < (ls.getD k []).length) (ht : ¬ fr (ls.getD k []) j < tp (ls.getD k []) j) : Acc ls k (j + 1) x := by
  refine ⟨h.ticks, fun t => ?_, by have := h.len; omega⟩
  rw [h.low, take_snoc hj, low_append, low_one]
  constructor
  · rintro (c | c)
    · exact .inl c
    · exact .inr (.inl c)
  · rintro (c | c | c)
    · exact .inl c
    · exact .inr c
    · have c1 := c.1; have c2 := c.2; simp at c1 c2; omega
theorem Acc.next {ls : List (List S2)} {k : Nat} {x : List S2} (h : Acc ls k (ls.getD k []).length x) : Acc ls (k + 1) 0 x := by
  refine ⟨h.ticks, fun t => ?_, by have := h.len; show x.length ≤ tot ls k + _ + 0; omega⟩
  rw [h.low, List.take_length]
  constructor
  · rintro (⟨i, hi, c⟩ | c)
    · exact .inl ⟨i, by omega, c⟩
    · exact .inl ⟨k, by omega, c⟩
  · rintro (⟨i, hi, c⟩ | c)
    · by_cases e : i = k
      · subst e; exact .inr c
      · exact .inl ⟨i, by omega, c⟩
    · simp at c; exact absurd c low_nil

/-- What is sorted of the rows. -/
structure SortOf (ls : List (List S2)) (x : List S2) : Prop where
  srt : Srt x
  low : ∀ t, Low x t ↔ ∃ i, i < ls.length ∧ Low (ls.getD i []) t
  len : x.length ≤ tot ls ls.length
theorem low_mem {x y : List S2} (h : ∀ s, s ∈ x ↔ s ∈ y) (t : Int) : Low x t ↔ Low y t := ⟨fun ⟨s, a, b⟩ => ⟨s, (h s).1 a, b⟩, fun ⟨s, a, b⟩ => ⟨s, (h s).2 a, b⟩⟩
theorem SortOf.of {ls : List (List S2)} {x x' : List S2} (h : Acc ls ls.length 0 x) (hl : x'.length = x.length) (hm : ∀ s, s ∈ x' ↔ s ∈ x) (hu : ∀ i j, i ≤ j → j < x'.length → fr x' i ≤ fr x' j) : SortOf ls x' := by
  refine ⟨⟨fun i hi => h.ticks _ ((hm _).1 (mem_fr hi)), hu⟩, fun t => ?_, by have := h.len; omega⟩
  rw [low_mem hm, h.low]
  constructor
  · rintro (c | c)
    · exact c
    · simp at c; exact absurd c low_nil
  · exact .inl
/-- A list that is handed back: below its beginning all is as it was. -/
def Gives (w : World) (P : List S2 → Prop) (e : Ending) (w' : World) : Prop := ∃ v x, e = .returned v ∧ Sp w' v x ∧ P x ∧ Below w.heap.size w w'

def SRel (w : World) (ls : List (List S2)) (v : Value) (k j : Nat) (wr : World) : Prop := ∃ x, Own wr w.heap.size 45 v x ∧ Acc ls k j x ∧ Below w.heap.size w wr

set_option maxHeartbeats 1000000 in
theorem sorted_any (w : World) (v : Value) (ls : List (List S2)) (h : Rows w v ls) (hlen : tot ls ls.length < 1099511627776) : Calls Try.prog 24 #[v] w (Gives w (SortOf ls)) := by
  obtain ⟨a, cap, rfl, h1, h2, h3⟩ := h
  have H3 := Lib.hid h3
  have HT := Lib.hid hlen
  clear h3 hlen
  generalize hn : ls.length = n at *
  have HN := Lib.hid hn
  clear hn
  unfold maxLen at h2
  go_enter Try.func24, Try.ntmps24
  go_wp2
  go_loopw [3, 10] (fun v i wr => ∃ k : Nat, k ≤ n ∧ i = .int .i64 k ∧ SRel w ls v k 0 wr) (fun _ i _ => n - (intOf i).toNat)
  case atStart => exact ⟨0, Nat.zero_le _, rfl, [], Own.nil _ _ _, Acc.zero ls, Below.refl _ _⟩
  case round =>
    obtain ⟨k, hk, rfl, x, hown, hacc, hb⟩ := hrel
    have HA := Lib.hid hacc
    clear hacc
    by_cases hlt : k < n
    · obtain ⟨b, off, rfl, hrows⟩ := H3.out (by omega)
      obtain ⟨u, c1, hu⟩ := hrows k (by have := HN.out; omega)
      have HR := Lib.hid hrows
      clear hrows
      have d1 := (hb.cell (World.block_lt_of_cell? _ _ c1)).trans c1
      clear c1
      obtain ⟨ra, rcap, rfl, r1, r2, r3⟩ := hu
      have R3 := Lib.hid r3
      clear r3
      generalize hm : (ls.getD k []).length = m at *
      have HM := Lib.hid hm
      clear hm
      unfold maxLen at r2
      obtain ⟨wo, rfl⟩ : ∃ wo : World, wo = wr := ⟨_, rfl⟩
      have hw : SRel w ls _ k 0 wo := ⟨x, hown, HA.out, hb⟩
      have HW := Lib.hid hw
      clear hw hown hb
      have TB : Hid (tot ls k + m ≤ 1099511627775) := by
        have e := tot_mono ls (show k + 1 ≤ ls.length by have := HN.out; omega)
        have e2 : tot ls (k + 1) = tot ls k + (ls.getD k []).length := rfl
        have := HT.out
        have := HM.out
        have := HN.out
        show tot ls k + m ≤ 1099511627775
        subst n
        omega
      go_wp2
      go_loopw [3, 16] (fun v i wr => ∃ j : Nat, j ≤ m ∧ i = .int .i64 j ∧ SRel w ls v k j wr) (fun _ i _ => m - (intOf i).toNat)
      case atStart => exact ⟨0, Nat.zero_le _, rfl, HW.out⟩
      case round =>
        obtain ⟨j, hj, rfl, y, hown, hacc, hb⟩ := hrel
        have hB := hb.size
        have hyl := hacc.len
        have HAY := Lib.hid hacc
        clear hacc
        by_cases hltj : j < m
        · obtain ⟨b', off', rfl, hA⟩ := R3.out (by omega)
          obtain ⟨c1, c2⟩ := hA j (by have := HM.out; omega)
          have HAt := Lib.hid hA
          clear hA
          have e1 := (hb.cell (World.block_lt_of_cell? _ _ c1)).trans c1
          have e2 := (hb.cell (World.block_lt_of_cell? _ _ c2)).trans c2
          clear c1 c2
          by_cases ht : fr (ls.getD k []) j < tp (ls.getD k []) j
          · have PU := Lib.hid (HAY.out.push (by have := HM.out; omega) ht)
            generalize fr (ls.getD k []) j = p at *
            generalize tp (ls.getD k []) j = q at *
            have HT := Lib.hid ht
            clear ht
            go_wp2_with fail
            refine (at_bool (decide_eq_true HT.out) (ticks_any _ _ _)).mono ?_
            rintro e w1 ⟨rfl, b1⟩
            have f1 : w1.cell? ⟨wr.heap.size, 0, none⟩ = some (.int .i64 p) := (b1.cell (by simp)).trans (by go_simp)
            have f2 : w1.cell? ⟨wr.heap.size, 1, none⟩ = some (.int .i64 q) := (b1.cell (by simp)).trans (by go_simp)
            have z1 := b1.size
            simp at z1
            have hown1 := (hown.alloc (.cells #[.int .i64 p, .int .i64 q] 45)).keep b1
            have hb1 := (hb.alloc hB (.cells #[.int .i64 p, .int .i64 q] 45)).trans (b1.mono (B' := w.heap.size) (by simp; omega))
            clear hown hb b1
            go_wp2_with (at_builtin; refine push_step rfl _ _ rfl w.heap.size _ _ rfl (hown1.alloc _) _ p q rfl ?c1 ?c2 ?c3 ?c4 ?_)
            case c1 => go_simp
            case c2 => go_simp
            case c3 => have := TB.out; omega
            case c4 => simp; omega
            intro v' w2 hown2 hb2
            have R : SRel w ls v' k (j + 1) w2 := ⟨_, hown2, PU.out, (hb1.alloc (by omega) _).trans hb2⟩
            clear hown2 hb2 hown1 hb1 f1 f2
            go_wp2
            go_roundw
            case rel => exact ⟨j + 1, by omega, by go_num, R⟩
            case measure => simp [intOf]; omega
          · have PU := Lib.hid (HAY.out.skip (by have := HM.out; omega) ht)
            generalize fr (ls.getD k []) j = p at *
            generalize tp (ls.getD k []) j = q at *
            have HT := Lib.hid ht
            clear ht
            go_wp2_with fail
            refine (at_bool (decide_eq_false (show ¬ p < q by have := HT.out; omega)) (ticks_any _ _ _)).mono ?_
            rintro e w1 ⟨rfl, b1⟩
            have R : SRel w ls _ k (j + 1) w1 := ⟨_, (hown.alloc (.cells #[.int .i64 p, .int .i64 q] 45)).keep b1, PU.out, (hb.alloc hB (.cells #[.int .i64 p, .int .i64 q] 45)).trans (b1.mono (B' := w.heap.size) (by simp; omega))⟩
            clear hown hb b1
            go_wp2
            go_roundw
            case rel => exact ⟨j + 1, by omega, by go_num, R⟩
            case measure => simp [intOf]; omega
        · obtain rfl : j = m := by omega
          have R : SRel w ls _ (k + 1) 0 wr := ⟨_, hown, (by have := HAY.out; rw [← HM.out] at this; exact this.next), hb⟩
          clear hown hb
          go_wp2
          go_roundw
          case rel => exact ⟨k + 1, by omega, by go_num, R⟩
          case measure => simp [intOf]; omega
    · obtain rfl : k = n := by omega
      have hxl : x.length < 1099511627776 := by have := HA.out.len; have := HT.out; omega
      have hs := sort_any wr w.heap.size _ x hown hxl
      have HS := Lib.hid hs
      clear hs
      go_wp2_with fail
      refine HS.out.mono ?_
      rintro e w1 ⟨rfl, hst⟩
      have ST := Lib.hid hst
      clear hst
      go_wp2
      go_ret
      obtain ⟨x', s1, s2, s3, s4, s5⟩ := ST.out
      exact ⟨_, x', rfl, s1, SortOf.of (by rw [HN.out]; exact HA.out) s2 s3 s4, hb.trans s5⟩

/-- What is joined of the rows. -/
structure JoinOf (ls : List (List S2)) (l : List S2) : Prop where
  plain : Plain l
  low : ∀ t, Low l t ↔ ∃ i, i < ls.length ∧ Low (ls.getD i []) t
  len : l.length ≤ tot ls ls.length

structure JRel (w w1 : World) (S : List S2) (v : Value) (k : Nat) (l : List S2) (wr : World) : Prop where
  own : Own wr w1.heap.size 45 v l
  inv : JoinInv S k l
  len : l.length ≤ k
  bel1 : Below w1.heap.size w1 wr
  bel : Below w.heap.size w w1
theorem own_low {w : World} {B B' E : Nat} {v : Value} {l : List S2} (h : Own w B E v l) (hB : B' ≤ B) : Own w B' E v l := by
  obtain ⟨h1, h2⟩ := h
  refine ⟨h1, ?_⟩
  rcases h2 with h2 | ⟨g, cap, cur, e, hg, r⟩
  · exact .inl h2
  · exact .inr ⟨g, cap, cur, e, by omega, r⟩
theorem snoc_of {l : List S2} {m : Nat} (h : l.length = m + 1) : l = l.take m ++ [(fr l m, tp l m)] := by
  have e := take_snoc (S := l) (k := m) (by omega)
  rw [← e, ← h, List.take_length]
theorem set_last {l : List S2} {m : Nat} (h : l.length = m + 1) (x : Int) : l.set m (fr l m, x) = l.take m ++ [(fr l m, x)] := by
  have e := snoc_of h
  have hm : (l.take m).length = m := by simp; omega
  generalize fr l m = p at *
  generalize tp l m = q at *
  generalize l.take m = t at *
  subst e
  rw [List.set_append_right _ _ (by omega), hm]
  simp
theorem JRel.push {w w1 wr w2 : World} {S l : List S2} {v v' : Value} {k : Nat} (h : JRel w w1 S v k l wr) (hS : Srt S) (hk : k < S.length) (hl : l = [] ∨ lastc l < fr S k) (hown : Own w2 w1.heap.size 45 v' (l ++ [(fr S k, tp S k)])) (hb : Below w1.heap.size w1 w2) : JRel w w1 S v' (k + 1) (l ++ [(fr S k, tp S k)]) w2 := by
  refine ⟨hown, h.inv.push hS hk fun x hx => ?_, by have := h.len; simp; omega, hb, h.bel⟩
  rcases hl with e | e
  · rw [e] at hx; simp at hx
  · have := lastc_le h.inv.plain x hx; omega
theorem JRel.grow {w w1 wr w2 : World} {S l : List S2} {v : Value} {k m : Nat} (h : JRel w w1 S v k l wr) (hk : k < S.length) (hm : l.length = m + 1) (hl : fr S k ≤ tp l m) (hown : Own w2 w1.heap.size 45 v (l.set m (fr l m, max (tp l m) (tp S k)))) (hb : Below w1.heap.size w1 w2) : JRel w w1 S v (k + 1) (l.set m (fr l m, max (tp l m) (tp S k))) w2 := by
  refine ⟨hown, ?_, by have := h.len; simp; omega, hb, h.bel⟩
  have e := snoc_of hm
  have inv := h.inv
  rw [e] at inv
  have g := inv.grow hk hl (max (tp l m) (tp S k)) (by omega)
  rw [set_last hm]
  exact g

set_option maxHeartbeats 1000000 in
theorem join_any (w : World) (v : Value) (ls : List (List S2)) (h : Rows w v ls) (hlen : tot ls ls.length < 1099511627776) : Calls Try.prog 18 #[v] w (Made w (JoinOf ls)) := by
  have hs := sorted_any w v ls h hlen
  have HS := Lib.hid hs
  obtain ⟨a, cap, rfl, _, _, _⟩ := h
  have HT := Lib.hid hlen
  clear hs hlen
  generalize hn : ls.length = n at *
  have HN := Lib.hid hn
  clear hn
  go_enter Try.func18, Try.ntmps18
  go_wp2_with fail
  refine HS.out.mono ?_
  rintro e w1 ⟨v1, S, rfl, hSp, hSo, hb0⟩
  obtain ⟨a1, cap1, rfl, r1, r2, r3⟩ := hSp
  have R3 := Lib.hid r3
  have SO := Lib.hid hSo
  clear r3 hSo
  generalize hm : S.length = n1 at *
  have HM := Lib.hid hm
  clear hm
  unfold maxLen at r2
  have hz0 := hb0.size
  go_wp2
  go_loopw [3, 10] (fun v i wr => ∃ (k : Nat) (l : List S2), k ≤ n1 ∧ i = .int .i64 k ∧ JRel w w1 S v k l wr) (fun _ i _ => n1 - (intOf i).toNat)
  case atStart => exact ⟨0, [], Nat.zero_le _, rfl, Own.nil _ _ _, JoinInv.zero S, by simp, Below.refl _ _, hb0⟩
  case round =>
    obtain ⟨k, l, hk, rfl, hR⟩ := hrel
    have HR := Lib.hid hR
    have hb := hR.bel1
    have hB := hb.size
    have hlk := hR.len
    clear hR
    by_cases hlt : k < n1
    · obtain ⟨b, off, rfl, hA⟩ := R3.out (by omega)
      obtain ⟨c1, c2⟩ := hA k (by have := HM.out; omega)
      have HA := Lib.hid hA
      clear hA
      have d1 := (hb.cell (World.block_lt_of_cell? _ _ c1)).trans c1
      have d2 := (hb.cell (World.block_lt_of_cell? _ _ c2)).trans c2
      clear c1 c2
      have TB : Hid (l.length < 1099511627776) := by
        have := SO.out.len
        have := HT.out
        have := HM.out
        have := HN.out
        show l.length < 1099511627776
        subst n
        omega
      rcases Nat.eq_zero_or_pos l.length with z | z
      · have NX := fun v' w2 (h1 : Own w2 w1.heap.size 45 v' (l ++ [(fr S k, tp S k)])) (h2 : Below w1.heap.size w1 w2) => HR.out.push SO.out.srt (by have := HM.out; omega) (.inl (List.length_eq_zero_iff.1 z)) h1 h2
        have NX := Lib.hid NX
        obtain ⟨a3, cap3, rfl, _, _⟩ := HR.out.own.slice
        generalize hl : l.length = len at *
        have HL := Lib.hid hl
        clear hl
        subst z
        generalize hp : fr S k = p at *
        generalize hq : tp S k = q at *
        go_wp2
        go_quiet (fail)
        have hown := ((HR.out.own.alloc (.cells #[.int .i64 p, .int .i64 q] 45)).draw nq)
        go_wp2_with (at_builtin; refine push_step rfl _ _ rfl w1.heap.size _ _ rfl (hown.alloc _) _ p q rfl ?c1 ?c2 ?c3 ?c4 ?_)
        case c1 => go_simp
        case c2 => go_simp
        case c3 => have := HL.out; omega
        case c4 => simp; omega
        intro v' w2 hown2 hb2
        have R := NX.out v' w2 hown2 ((below_drewN (hb.alloc hB _) nq).alloc (by simp; omega) _ |>.trans hb2)
        clear hown2 hb2 hown
        go_wp2
        go_roundw
        case rel => exact ⟨k + 1, _, by omega, by go_num, R⟩
        case measure => simp [intOf]; omega
      · obtain ⟨m, hm1⟩ : ∃ m, l.length = m + 1 := ⟨l.length - 1, by omega⟩
        obtain ⟨g, cap3, rfl, g1, g2, _, _, _, hcells⟩ := HR.out.own.form z
        obtain ⟨e0, e1, _, f1⟩ := hcells m (by omega)
        clear hcells z
        have hlc : lastc l = tp l m := by rw [lastc_tp l (by omega), hm1]; rfl
        by_cases hle : fr S k ≤ tp l m
        · have NX := fun w2 h1 h2 => HR.out.grow (w2 := w2) (by have := HM.out; omega) hm1 hle h1 h2
          have NX := Lib.hid NX
          have OW := Lib.hid HR.out.own
          have ST := Lib.hid (fun (W : World) (h : Own W w1.heap.size 45 (.slice (some ⟨g, 0, none⟩) l.length cap3) l) => h.set m (by omega) (max (tp l m) (tp S k)))
          generalize hl : l.length = len at *
          have HL := Lib.hid hl
          clear hl
          subst hm1
          clear hlc
          generalize hp : fr S k = p at *
          generalize hq : tp S k = q at *
          generalize hp' : fr l m = p' at *
          generalize hq' : tp l m = q' at *
          go_wp2
          go_quiet (fail)
          go_wp2
          have x0 : ((wr.alloc (.cells #[.int .i64 p, .int .i64 q] 45)).drewN nq).cell? ⟨wr.heap.size, 1, none⟩ = some (.int .i64 q) := by go_simp
          have x1 : ((wr.alloc (.cells #[.int .i64 p, .int .i64 q] 45)).drewN nq).cell? ⟨g, m * 2 + 1, none⟩ = some (.int .i64 q') := by go_simp
          have x2 : ((wr.alloc (.cells #[.int .i64 p, .int .i64 q] 45)).drewN nq).frozen? ⟨g, m * 2 + 1, none⟩ = false := by go_simp
          generalize hwq : (wr.alloc (.cells #[.int .i64 p, .int .i64 q] 45)).drewN nq = wq at x0 x1 x2 ⊢
          have HWQ := Lib.hid hwq
          clear hwq
          go_region
          have OQ : Hid (Own wq w1.heap.size 45 (.slice (some ⟨g, 0, none⟩) (m + 1) cap3) l) := by
            rw [← HWQ.out]
            exact (OW.out.alloc _).draw nq
          have BQ : Hid (Below w1.heap.size w1 wq) := by
            rw [← HWQ.out]
            exact below_drewN (hb.alloc hB _) nq
          have R := NX.out _ (show Own ((wq.setCell ⟨g, m * 2 + 1, none⟩ (.int .i64 (max q' q))).drew) _ _ _ _ from ST.out wq OQ.out) ((BQ.out.setCell (p := ⟨g, m * 2 + 1, none⟩) g1 _).drew)
          have R' := Lib.hid R
          clear R x0 x1 x2
          go_wp2
          go_roundw
          case rel => exact ⟨k + 1, _, by omega, by go_num, R'.out⟩
          case measure => simp [intOf]; omega
        · have NX := fun v' w2 (h1 : Own w2 w1.heap.size 45 v' (l ++ [(fr S k, tp S k)])) (h2 : Below w1.heap.size w1 w2) => HR.out.push SO.out.srt (by have := HM.out; omega) (.inr (by omega)) h1 h2
          have NX := Lib.hid NX
          have OW := Lib.hid HR.out.own
          generalize hl : l.length = len at *
          have HL := Lib.hid hl
          clear hl
          subst hm1
          clear hlc
          generalize hp : fr S k = p at *
          generalize hq : tp S k = q at *
          generalize hq' : tp l m = q' at *
          go_wp2
          go_quiet (fail)
          have hown := ((OW.out.alloc (.cells #[.int .i64 p, .int .i64 q] 45)).draw nq)
          go_wp2_with (at_builtin; refine push_step rfl _ _ rfl w1.heap.size _ _ rfl (hown.alloc _) _ p q rfl ?c1 ?c2 ?c3 ?c4 ?_)
          case c1 => go_simp
          case c2 => go_simp
          case c3 => have := HL.out; have := TB.out; omega
          case c4 => simp; omega
          intro v' w2 hown2 hb2
          have R := NX.out v' w2 hown2 ((below_drewN (hb.alloc hB _) nq).alloc (by simp; omega) _ |>.trans hb2)
          clear hown2 hb2 hown
          go_wp2
          go_roundw
          case rel => exact ⟨k + 1, _, by omega, by go_num, R⟩
          case measure => simp [intOf]; omega
    · obtain rfl : k = n1 := by omega
      have inv := HR.out.inv
      rw [← HM.out] at inv
      have al := inv.all
      have J : JoinOf ls l := ⟨al.1, fun t => (al.2 t).trans (SO.out.low t), by have := SO.out.len; have := HM.out; omega⟩
      have JJ := Lib.hid J
      have OW := Lib.hid (own_low HR.out.own hz0)
      have BB := Lib.hid (HR.out.bel.trans (hb.mono hz0))
      clear inv al J
      go_wp2
      go_ret
      exact ⟨_, l, rfl, OW.out, JJ.out, BB.out⟩

end Go.Proofs.Ytfoaneckegkhcaa.Wi
