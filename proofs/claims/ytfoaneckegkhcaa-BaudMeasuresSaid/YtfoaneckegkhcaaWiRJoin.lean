/- The document's own Join of spans, and its Fall. -/
import Derived.Test.YtfoaneckegkhcaaWiRef
namespace Go.Proofs.Ytfoaneckegkhcaa.Wi
open Go.RowKit Go.Proofs.Ytfoaneckegkhcaa.Sp

def PlainOf (X l : List S2) : Prop := Plain l ∧ ∀ t, Low l t ↔ Low X t
/-- What a scan for the least beginning has found. -/
structure Scan (X l : List S2) (k : Nat) (any : Bool) (best : Int) : Prop where
  no : any = false → ∀ i, i < k → ¬ Cand X l i
  yes : any = true → (∃ i, i < k ∧ Cand X l i ∧ fr X i = best) ∧ ∀ i, i < k → Cand X l i → best ≤ fr X i
theorem Scan.zero (X l : List S2) : Scan X l 0 false 0 := ⟨fun _ i h => by omega, fun h => by simp at h⟩
theorem Scan.skip {X l : List S2} {k : Nat} {any : Bool} {best : Int} (h : Scan X l k any best) (hc : ¬ Cand X l k) : Scan X l (k + 1) any best := by
  refine ⟨fun a i hi => ?_, fun a => ?_⟩
  · by_cases e : i = k
    · rw [e]; exact hc
    · exact h.no a i (by omega)
  · obtain ⟨⟨i, h1, h2, h3⟩, h4⟩ := h.yes a
    refine ⟨⟨i, by omega, h2, h3⟩, fun j hj cj => ?_⟩
    by_cases e : j = k
    · rw [e] at cj; exact absurd cj hc
    · exact h4 j (by omega) cj
theorem Scan.over {X l : List S2} {k : Nat} {best : Int} (h : Scan X l k true best) (hle : best ≤ fr X k) : Scan X l (k + 1) true best := by
  refine ⟨fun a => by simp at a, fun a => ?_⟩
  obtain ⟨⟨i, h1, h2, h3⟩, h4⟩ := h.yes a
  refine ⟨⟨i, by omega, h2, h3⟩, fun j hj cj => ?_⟩
  by_cases e : j = k
  · rw [e]; exact hle
  · exact h4 j (by omega) cj
theorem Scan.first {X l : List S2} {k : Nat} {best : Int} (h : Scan X l k false best) (hc : Cand X l k) : Scan X l (k + 1) true (fr X k) := by
  refine ⟨fun a => by simp at a, fun _ => ⟨⟨k, by omega, hc, rfl⟩, fun j hj cj => ?_⟩⟩
  by_cases e : j = k
  · rw [e]; exact Int.le_refl _
  · exact absurd cj (h.no rfl j (by omega))
theorem Scan.less {X l : List S2} {k : Nat} {best : Int} (h : Scan X l k true best) (hc : Cand X l k) (hlt : fr X k < best) : Scan X l (k + 1) true (fr X k) := by
  refine ⟨fun a => by simp at a, fun _ => ⟨⟨k, by omega, hc, rfl⟩, fun j hj cj => ?_⟩⟩
  by_cases e : j = k
  · rw [e]; exact Int.le_refl _
  · have := (h.yes rfl).2 j (by omega) cj; omega

structure RRel (w : World) (X : List S2) (v : Value) (l : List S2) (wr : World) : Prop where
  own : Own wr w.heap.size 45 v l
  up : Up X l
  len : (l.length : Int) ≤ lastc l + 1099511627777
  top : lastc l ≤ 1099511627776
  bel : Below w.heap.size w wr

theorem RRel.out {w wr : World} {X l : List S2} {v : Value} (h : RRel w X v l wr) : ∃ a cap, v = .slice a l.length cap ∧ l.length ≤ cap ∧ cap ≤ maxLen ∧ ((l.length = 0 ∧ lastc l = -1099511627777) ∨ ∃ m g, l.length = m + 1 ∧ a = some ⟨g, 0, none⟩ ∧ wr.cell? ⟨g, m * 2 + 1, none⟩ = some (.int .i64 (lastc l))) := by
  rcases Nat.eq_zero_or_pos l.length with z | z
  · obtain ⟨a, cap, e, h1, h2⟩ := h.own.slice
    have : l = [] := List.length_eq_zero_iff.1 z
    exact ⟨a, cap, e, h1, h2, .inl ⟨z, by rw [this]; rfl⟩⟩
  · obtain ⟨g, cap, e, _, _, h1, h2, _, hc⟩ := h.own.form z
    refine ⟨_, cap, e, h1, h2, .inr ⟨l.length - 1, g, by omega, rfl, ?_⟩⟩
    rw [lastc_tp l z]
    exact (hc (l.length - 1) (by omega)).2.1
theorem rrel_push {w wr w1 : World} {X l : List S2} {v v' : Value} {any : Bool} {best to : Int} (hN : Near X) (h : RRel w X v l wr) (hs : Scan X l X.length any best) (ha : any = true) (h1 : best ≤ to) (h2 : to ≤ 1099511627776) (run : ∀ u, best ≤ u → u < to → Low X u) (hto : ¬ Low X to)
    (hown : Own w1 w.heap.size 45 v' (l ++ [(best, to)])) (hb : Below w.heap.size w w1) : RRel w X v' (l ++ [(best, to)]) w1 ∧ lastc l < to ∧ lastc (l ++ [(best, to)]) = to := by
  obtain ⟨⟨i, hi, ci, e⟩, least⟩ := hs.yes ha
  subst e
  obtain ⟨u1, u2, u3⟩ := h.up.push hN hi ci least h1 run hto
  have := h.len
  exact ⟨⟨hown, u1, by rw [u3]; simp; omega, by rw [u3]; exact h2, hb⟩, u2, u3⟩

set_option maxHeartbeats 2000000 in
set_option maxRecDepth 100000 in
theorem rjoin_any (w : World) (v : Value) (X : List S2) (h : Sp w v X) (hN : Near X) : Calls Try.prog 23 #[v] w (Made w (PlainOf X)) := by
  have LX : Hid (∀ W t, Below w.heap.size w W → Calls Try.prog 26 #[v, .int .i64 t] W fun e w' => e = .returned (.bool (lowB X t)) ∧ W = w') := fun W t hW => rlow_any W v X (h.below hW) t
  obtain ⟨a, cap, rfl, h1, h2, h3⟩ := h
  have H3 := Lib.hid h3
  have HNR := Lib.hid hN
  clear h3 hN
  obtain ⟨F, hF⟩ : ∃ F : Nat, ((1099511627776 : Int) - (-1099511627777)).toNat ≤ F := ⟨_, Nat.le_refl _⟩
  generalize hn : X.length = n at *
  have HN := Lib.hid hn
  clear hn
  unfold maxLen at h2
  go_enter Try.func23, Try.ntmps23
  go_wp2
  go_loopg [3] F (fun gg v wr => ∃ l, RRel w X v l wr ∧ (1099511627776 - lastc l).toNat ≤ gg)
  case atStart => exact ⟨[], ⟨Own.made _ _ _ (Nat.le_refl _), ⟨plain_nil, fun t ht => absurd ht low_nil, fun t _ => .inr fun x hx => by simp at hx⟩, by simp [lastc], by simp [lastc], (Below.refl _ _).alloc (Nat.le_refl _) _⟩, hF⟩
  case round =>
    obtain ⟨l, hR, hg⟩ := hrel
    obtain ⟨a3, cap3, rfl, k1, k2, hout⟩ := hR.out
    have OUT := Lib.hid hout
    have RR := Lib.hid hR
    have hb := hR.bel
    have htop := hR.top
    have hlen := hR.len
    clear hout hR
    generalize hm : l.length = len at *
    have HM := Lib.hid hm
    clear hm
    unfold maxLen at k2
    go_wp2
    go_loop [4, 5, 6] (fun b y i => ∃ (k : Nat) (an : Bool) (best : Int), k ≤ n ∧ b = .int .i64 best ∧ y = .bool an ∧ i = .int .i64 k ∧ Scan X l k an best) (fun _ _ i => n - (intOf i).toNat)
    case atStart => exact ⟨0, false, 0, Nat.zero_le _, rfl, rfl, rfl, Scan.zero X l⟩
    case round =>
      obtain ⟨k, an, best, hk, rfl, rfl, rfl, hs⟩ := hrel
      by_cases hlt : k < n
      · obtain ⟨b, off, rfl, hA⟩ := H3.out (by omega)
        obtain ⟨c1, c2⟩ := hA k (by have := HN.out; omega)
        have HA := Lib.hid hA
        clear hA
        have d1 := (hb.cell (World.block_lt_of_cell? _ _ c1)).trans c1
        have d2 := (hb.cell (World.block_lt_of_cell? _ _ c2)).trans c2
        clear c1 c2
        have n0 := HNR.out.f0 k (by have := HN.out; omega)
        have n1 := HNR.out.f1 k (by have := HN.out; omega)
        have HS := Lib.hid hs
        clear hs
        by_cases p1 : fr X k < tp X k
        · have lc := LX.out wr (fr X k - 1) hb
          have LC := Lib.hid lc
          clear lc
          cases p2 : lowB X (fr X k - 1) with
          | true =>
            have ns := HS.out.skip fun c => c.2.1 (lowB_iff.1 p2)
            have P2 := Lib.hid p2
            have NS := Lib.hid ns
            clear p2 ns
            go_wp2_with (go_at_call 26; refine (at_bool' P2.out LC.out).mono ?_; rintro e w' ⟨rfl, rfl⟩)
            go_round
            case rel => exact ⟨k + 1, an, best, by omega, rfl, rfl, by go_num, NS.out⟩
            case measure => simp [intOf]; omega
          | false =>
            have P2 := Lib.hid p2
            clear p2
            have key : ∀ (ok : Bool), (ok = true → lastc l < fr X k) → (ok = true → Cand X l k) := fun ok h1 h2 => ⟨p1, lowB_false.1 P2.out, h1 h2⟩
            have KEY := Lib.hid key
            clear key
            rcases OUT.out with ⟨rfl, hl⟩ | ⟨m, g, rfl, rfl, hcell⟩
            · have cd : Cand X l k := KEY.out true (fun _ => by omega) rfl
              have CD := Lib.hid cd
              clear cd
              cases an with
              | false =>
                have NS := Lib.hid (HS.out.first CD.out)
                go_wp2_with (go_at_call 26; refine (at_bool' P2.out LC.out).mono ?_; rintro e w' ⟨rfl, rfl⟩)
                go_round
                case rel => exact ⟨k + 1, true, fr X k, by omega, rfl, rfl, by go_num, NS.out⟩
                case measure => simp [intOf]; omega
              | true =>
                by_cases p4 : fr X k < best
                · have NS := Lib.hid (HS.out.less CD.out p4)
                  go_wp2_with (go_at_call 26; refine (at_bool' P2.out LC.out).mono ?_; rintro e w' ⟨rfl, rfl⟩)
                  go_round
                  case rel => exact ⟨k + 1, true, fr X k, by omega, rfl, rfl, by go_num, NS.out⟩
                  case measure => simp [intOf]; omega
                · have NS := Lib.hid (HS.out.over (by omega))
                  go_wp2_with (go_at_call 26; refine (at_bool' P2.out LC.out).mono ?_; rintro e w' ⟨rfl, rfl⟩)
                  go_round
                  case rel => exact ⟨k + 1, true, best, by omega, rfl, rfl, by go_num, NS.out⟩
                  case measure => simp [intOf]; omega
            · by_cases p3 : lastc l < fr X k
              · have cd : Cand X l k := KEY.out true (fun _ => p3) rfl
                have CD := Lib.hid cd
                clear cd
                cases an with
                | false =>
                  have NS := Lib.hid (HS.out.first CD.out)
                  go_wp2_with (go_at_call 26; refine (at_bool' P2.out LC.out).mono ?_; rintro e w' ⟨rfl, rfl⟩)
                  go_round
                  case rel => exact ⟨k + 1, true, fr X k, by omega, rfl, rfl, by go_num, NS.out⟩
                  case measure => simp [intOf]; omega
                | true =>
                  by_cases p4 : fr X k < best
                  · have NS := Lib.hid (HS.out.less CD.out p4)
                    go_wp2_with (go_at_call 26; refine (at_bool' P2.out LC.out).mono ?_; rintro e w' ⟨rfl, rfl⟩)
                    go_round
                    case rel => exact ⟨k + 1, true, fr X k, by omega, rfl, rfl, by go_num, NS.out⟩
                    case measure => simp [intOf]; omega
                  · have NS := Lib.hid (HS.out.over (by omega))
                    go_wp2_with (go_at_call 26; refine (at_bool' P2.out LC.out).mono ?_; rintro e w' ⟨rfl, rfl⟩)
                    go_round
                    case rel => exact ⟨k + 1, true, best, by omega, rfl, rfl, by go_num, NS.out⟩
                    case measure => simp [intOf]; omega
              · have NS := Lib.hid (HS.out.skip fun c => p3 c.2.2)
                go_wp2_with (go_at_call 26; refine (at_bool' P2.out LC.out).mono ?_; rintro e w' ⟨rfl, rfl⟩)
                go_round
                case rel => exact ⟨k + 1, an, best, by omega, rfl, rfl, by go_num, NS.out⟩
                case measure => simp [intOf]; omega
        · have NS := Lib.hid (HS.out.skip fun c => p1 c.1)
          go_wp2
          go_round
          case rel => exact ⟨k + 1, an, best, by omega, rfl, rfl, by go_num, NS.out⟩
          case measure => simp [intOf]; omega
      · obtain rfl : k = n := by omega
        have HS := Lib.hid hs
        clear hs
        cases an with
        | false =>
          have dn := RR.out.up.done HNR.out (fun i hi => HS.out.no rfl i (by have := HN.out; omega))
          have DN := Lib.hid dn
          clear dn
          go_wp2
          go_ret
          exact ⟨_, l, rfl, RR.out.own, ⟨RR.out.up.plain, DN.out⟩, hb⟩
        | true =>
          obtain ⟨wo, rfl⟩ : ∃ wo : World, wo = wr := ⟨_, rfl⟩
          have ⟨b0, b1⟩ : best ≤ 1099511627776 ∧ -1099511627776 ≤ best := by
            obtain ⟨⟨i, hi, _, e⟩, _⟩ := HS.out.yes rfl
            have := HNR.out.f1 i (by have := HN.out; omega)
            have := HNR.out.f0 i (by have := HN.out; omega)
            omega
          go_wp2
          go_loop [8] (fun t => ∃ to : Int, t = .int .i64 to ∧ best ≤ to ∧ to ≤ 1099511627776 ∧ Hid (∀ u, best ≤ u → u < to → Low X u)) (fun t => (1099511627776 - intOf t).toNat)
          case atStart => exact ⟨best, rfl, Int.le_refl _, b0, fun u a b => by omega⟩
          case round =>
            obtain ⟨to, rfl, t0, t1, hrun⟩ := hrel
            have lc := LX.out wo to hb
            have LC := Lib.hid lc
            clear lc
            cases p2 : lowB X to with
            | true =>
              have P2 := Lib.hid p2
              clear p2
              go_wp2_with (go_at_call 26; refine (at_bool' P2.out LC.out).mono ?_; rintro e w' ⟨rfl, rfl⟩)
              go_loop [8, 9] (fun t i => ∃ (j : Nat) (to' : Int), j ≤ k ∧ t = .int .i64 to' ∧ i = .int .i64 j ∧ to ≤ to' ∧ to' ≤ 1099511627776 ∧ Hid (∀ u, best ≤ u → u < to' → Low X u) ∧ Hid (∀ i, i < j → fr X i ≤ to → to < tp X i → to < to')) (fun _ i => k - (intOf i).toNat)
              case atStart => exact ⟨0, to, Nat.zero_le _, rfl, rfl, Int.le_refl _, t1, hrun, fun i h => by omega⟩
              case round =>
                obtain ⟨j, to', hj, rfl, rfl, q0, q1, hrun', hall⟩ := hrel
                by_cases hlt : j < k
                · obtain ⟨b, off, rfl, hA⟩ := H3.out (by omega)
                  obtain ⟨c1, c2⟩ := hA j (by have := HN.out; omega)
                  have HA := Lib.hid hA
                  clear hA
                  have d1 := (hb.cell (World.block_lt_of_cell? _ _ c1)).trans c1
                  have d2 := (hb.cell (World.block_lt_of_cell? _ _ c2)).trans c2
                  clear c1 c2
                  have n2 := HNR.out.t1 j (by have := HN.out; omega)
                  by_cases p3 : fr X j ≤ to' ∧ to' < tp X j
                  · obtain ⟨p3, p4⟩ := p3
                    have R1 : Hid (∀ u, best ≤ u → u < tp X j → Low X u) := fun u e1 e2 => by
                      by_cases c : u < to'
                      · exact hrun'.out u e1 c
                      · exact low_iff.2 ⟨j, by have := HN.out; omega, by omega, e2⟩
                    have R2 : Hid (∀ i, i < j + 1 → fr X i ≤ to → to < tp X i → to < tp X j) := fun i _ _ _ => by omega
                    go_wp2
                    go_round
                    case rel => exact ⟨j + 1, tp X j, by omega, rfl, by go_num, by omega, n2, R1, R2⟩
                    case measure => simp [intOf]; omega
                  · have R2 : Hid (∀ i, i < j + 1 → fr X i ≤ to → to < tp X i → to < to') := fun i e1 e2 e3 => by
                      by_cases c : i = j
                      · subst c; omega
                      · exact hall.out i (by omega) e2 e3
                    by_cases p5 : fr X j ≤ to'
                    · have p6 : tp X j ≤ to' := by omega
                      clear p3
                      go_wp2
                      go_round
                      case rel => exact ⟨j + 1, to', by omega, rfl, by go_num, q0, q1, hrun', R2⟩
                      case measure => simp [intOf]; omega
                    · clear p3
                      go_wp2
                      go_round
                      case rel => exact ⟨j + 1, to', by omega, rfl, by go_num, q0, q1, hrun', R2⟩
                      case measure => simp [intOf]; omega
                · obtain rfl : j = k := by omega
                  have up : to < to' := by
                    obtain ⟨i, hi, e1, e2⟩ := low_iff.1 (lowB_iff.1 P2.out)
                    exact hall.out i (by have := HN.out; omega) e1 e2
                  go_wp2
                  go_round
                  case rel => exact ⟨to', rfl, by omega, q1, hrun'⟩
                  case measure => simp [intOf]; omega
            | false =>
              have P2 := Lib.hid p2
              clear p2
              go_wp2_with (first
                | (go_at_call 26; refine (at_bool' P2.out LC.out).mono ?_; rintro e w' ⟨rfl, rfl⟩)
                | (at_builtin; refine push_step rfl _ _ rfl w.heap.size _ _ rfl (RR.out.own.alloc _) _ best to rfl ?c1 ?c2 ?c3 ?c4 ?_))
              case c1 => go_simp
              case c2 => go_simp
              case c3 => have := HM.out; omega
              case c4 => have := hb.size; simp; omega
              intro v' w1 hown1 hb1
              have hR' := rrel_push HNR.out RR.out (by rw [HN.out]; exact HS.out) rfl t0 t1 hrun.out (lowB_false.1 P2.out) hown1 ((hb.alloc hb.size _).trans hb1)
              have R' := Lib.hid hR'
              clear hR' hown1 hb1
              have g1 := R'.out.2.1
              have g2 := R'.out.2.2
              have G2 := Lib.hid g2
              clear g2
              go_wp2
              go_roundg ((1099511627776 - to).toNat)
              case rel => exact ⟨_, R'.out.1, by rw [G2.out]; omega⟩
              case measure => omega
theorem PlainOf.one {x a b : List S2} (ha : PlainOf x a) (hb : PlainOf x b) : a = b := plain_one ha.1 hb.1 fun t => (ha.2 t).trans (hb.2 t).symm
theorem same_of {x a b : List S2} (ha : PlainOf x a) (hb : PlainOf x b) : sameB a b = true := by rw [ha.one hb]; simp [sameB]

end Go.Proofs.Ytfoaneckegkhcaa.Wi
