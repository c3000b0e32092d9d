/- WatchOne: never more than one is active, and who has restarted waits. -/
import Derived.Test.YtabhpafmppmigaaWtDoes
namespace Go.Proofs.Ytabhpafmppmigaa.Wt
open Go.RowKit
open Go.Proofs.Ytabhpafmppmigaa.Fl (ret_bool at_bool row_cell row_frozen)
open Go.Proofs.Ytabhpafmppmigaa.Fs (Only)
open Go.Proofs.Ytabhpafmppmigaa.Rw (Rd Ow At)

/-- The law's own two arrays: who has heard a round, and how long ago each restarted. -/
structure Ar (w : World) (h g : Nat) (h0 h1 : Bool) (s0 s1 : Int) : Prop where
  hh : w.heap[h]? = some (.cells #[.bool h0, .bool h1] 38 (0, 0))
  gg : w.heap[g]? = some (.cells #[.int .i64 s0, .int .i64 s1] 33 (0, 0))
section
variable {w w' : World} {h g : Nat} {h0 h1 : Bool} {s0 s1 : Int} (A : Ar w h g h0 h1 s0 s1)
include A
theorem Ar.only {G : Nat → Prop} (o : Only G w w') (n1 : ¬ G h) (n2 : ¬ G g) : Ar w' h g h0 h1 s0 s1 := ⟨(o.block h (lt_of_block A.hh) n1).trans A.hh, (o.block g (lt_of_block A.gg) n2).trans A.gg⟩
theorem Ar.below (b : Below w.heap.size w w') : Ar w' h g h0 h1 s0 s1 := A.only (G := fun _ => False) (Only.of_below b) (fun q => q) (fun q => q)
theorem Ar.seth0 (ne : h ≠ g) (x : Bool) : Ar (w.setCell ⟨h, 0, none⟩ (.bool x)) h g x h1 s0 s1 := ⟨Rw.heap_setCell_same A.hh _, (Below.heap_setCell w ⟨h, 0, none⟩ _ g (fun e => ne e.symm)).trans A.gg⟩
theorem Ar.seth1 (ne : h ≠ g) (x : Bool) : Ar (w.setCell ⟨h, 1, none⟩ (.bool x)) h g h0 x s0 s1 := ⟨Rw.heap_setCell_same A.hh _, (Below.heap_setCell w ⟨h, 1, none⟩ _ g (fun e => ne e.symm)).trans A.gg⟩
theorem Ar.setg0 (ne : h ≠ g) (x : Int) : Ar (w.setCell ⟨g, 0, none⟩ (.int .i64 x)) h g h0 h1 x s1 := ⟨(Below.heap_setCell w ⟨g, 0, none⟩ _ h ne).trans A.hh, Rw.heap_setCell_same A.gg _⟩
theorem Ar.setg1 (ne : h ≠ g) (x : Int) : Ar (w.setCell ⟨g, 1, none⟩ (.int .i64 x)) h g h0 h1 s0 x := ⟨(Below.heap_setCell w ⟨g, 1, none⟩ _ h ne).trans A.hh, Rw.heap_setCell_same A.gg _⟩
end
theorem one_rl {a : A} (ok : Ok a) : ¬ (a.r0 = 1 ∧ a.r1 = 1) := ok.one
theorem rs_range {a : A} {n : Int} (h : rsE a n = 0) : n = 0 ∨ n = 1 := by
  unfold rsE at h
  by_cases e0 : n = 0
  · exact .inl e0
  · rw [if_neg e0] at h
    by_cases e1 : n = 1
    · exact .inr e1
    · rw [if_neg e1] at h
      exact absurd h (by decide)

set_option maxHeartbeats 8000000 in
set_option maxRecDepth 100000 in
theorem one_law (w : World) (v : Value) (l : List D2) (R : Rd KW w v l) (F : Fd l) : Calls Try.prog 4 #[v] w fun e w' => e = .returned (.bool true) ∧ Below w.heap.size w w' := by
  have FF : Hid (∀ k, k < l.length → 0 ≤ (da l k).1 ∧ (da l k).1 ≤ 255) := Lib.hid F
  have C0 := Lib.hid (new_any w)
  obtain ⟨a, cap, rfl, _, hm, hA⟩ := R
  have HA := Lib.hid hA
  unfold maxLen at hm
  clear hA F
  generalize hn : l.length = n at *
  have HN := Lib.hid hn
  clear hn
  go_enter Try.func4, Try.ntmps4
  go_wp2_with fail
  refine C0.out.mono ?_
  rintro e w1 ⟨s, rfl, p1, hs, b1⟩
  have P1 := Lib.hid p1
  have B1 := Lib.hid b1
  have HS := Lib.hid hs
  clear C0 p1 b1 hs
  go_upto_region 3 with fail
  have b2 : Below w1.heap.size w1 ((w1.alloc (.cells #[.bool true, .bool true] 38)).alloc (.cells #[.int .i64 0, .int .i64 0] 33)) := ((Below.refl _ _).alloc (Nat.le_refl _) _).alloc (by simp) _
  have A2 : Hid (Ar ((w1.alloc (.cells #[.bool true, .bool true] 38)).alloc (.cells #[.int .i64 0, .int .i64 0] 33)) w1.heap.size (w1.heap.size + 1) true true 0 0) := Lib.hid ⟨(Below.heap_alloc _ _ _ (by simp)).trans (heap_alloc_new w1 _), by have := heap_alloc_new (w1.alloc (.cells #[.bool true, .bool true] 38)) (.cells #[.int .i64 0, .int .i64 0] 33); simpa using this⟩
  have P2 := Lib.hid (P1.out.below b2)
  have B2 := Lib.hid (B1.out.trans (b2.mono B1.out.size))
  have HH : Hid (w.heap.size ≤ w1.heap.size) := Lib.hid B1.out.size
  have NS : Hid (s < w1.heap.size) := Lib.hid P1.out.lt
  clear b2 P1 B1
  generalize (w1.alloc (.cells #[.bool true, .bool true] 38)).alloc (.cells #[.int .i64 0, .int .i64 0] 33) = W2 at *
  generalize hh : w1.heap.size = h at *
  clear hh
  generalize hg : h + 1 = g at *
  have NG : Hid (h < g) := Lib.hid (by omega)
  clear hg
  go_wp2
  go_loopw [6] (fun i wr => ∃ (k : Nat) (a : A) (t : Nat) (h0 h1 : Bool) (s0 s1 : Int), k ≤ n ∧ k ≤ 120 ∧ i = .int .i64 k ∧ t ≤ k ∧ (0 ≤ s0 ∧ s0 ≤ k) ∧ (0 ≤ s1 ∧ s1 ≤ k) ∧ Hid (Pr wr s a t) ∧ Hid (Ok a) ∧ Hid (Hd a h0 h1 s0 s1) ∧ Hid (Ar wr h g h0 h1 s0 s1) ∧ Hid (Below w.heap.size w wr)) (fun i _ => n - (intOf i).toNat)
  case atStart => exact ⟨0, new, 0, true, true, 0, 0, Nat.zero_le _, Nat.zero_le _, rfl, Nat.zero_le _, by omega, by omega, P2, ok_new, hd_new, A2, B2⟩
  case round =>
    clear P2 A2 B2
    obtain ⟨k, a, t, h0, h1, s0, s1, hk, hk2, rfl, ht, hs0, hs1, PP, OK, HE, AR, BB⟩ := hrel
    by_cases hlt : k < n ∧ k < 120
    · obtain ⟨hkn, hk120⟩ := hlt
      obtain ⟨b, off, rfl, A⟩ := HA.out (by omega)
      obtain ⟨c0, c1⟩ := atW (A.below BB.out) (i := k) (by rw [HN.out]; exact hkn)
      have HAA := Lib.hid A
      obtain ⟨x0, x255⟩ := FF.out k hkn
      clear A
      generalize da l k = x at *
      have hmod : Int.tmod x.1 5 = x.1 % 5 := Int.tmod_eq_emod_of_nonneg x0
      have wmod : IntKind.u8.wrap (x.1 % 5) = x.1 % 5 := IntWalk.u8_in _ (by omega)
      have hm0 : 0 ≤ x.1 % 5 ∧ x.1 % 5 ≤ 4 := by omega
      go_upto_region 16 with fail
      generalize x.1 % 5 = md at *
      generalize x.2 = nn at *
      clear hmod wmod c0 c1
      by_cases m0 : md = 0
      · subst m0
        have CA := Lib.hid (crash_any PP.out nn)
        clear hm0
        go_wp2_with fail
        refine CA.out.mono ?_
        rintro e w6 ⟨rfl, p6, o6⟩
        have B6 := Lib.hid (low BB.out o6 HS.out)
        obtain ⟨a', t6, h0', h1', s0', s1', h6, q0', q1', P6, O6, H6, A6⟩ : ∃ (a' : A) (t6 : Nat) (h0' h1' : Bool) (s0' s1' : Int), t6 ≤ k + 1 ∧ (0 ≤ s0' ∧ s0' ≤ ((k + 1 : Nat) : Int)) ∧ (0 ≤ s1' ∧ s1' ≤ ((k + 1 : Nat) : Int)) ∧ Hid (Pr w6 s a' t6) ∧ Hid (Ok a') ∧ Hid (Hd a' h0' h1' s0' s1') ∧ Hid (Ar w6 h g h0' h1' s0' s1') := ⟨crA a nn, t, h0, h1, s0, s1, by omega, by omega, by omega, Lib.hid p6, Lib.hid (OK.out.cr nn), Lib.hid (HE.out.cr nn), Lib.hid (AR.out.only o6 (by have := NS.out; omega) (by have := NS.out; have := NG.out; omega))⟩
        clear p6 o6 CA PP OK HE AR BB hs0 hs1
        generalize crE a nn = er at *
        go_upto_region 23 with fail
        have K0 : Hid (Calls Try.prog 14 #[.pointer (some ⟨s, 0, none⟩), .int .i64 0] w6 fun e w' => e = .returned (.int .i64 a'.r0) ∧ Below w6.heap.size w6 w') := Lib.hid (role_any P6.out 0)
        have K1 : Hid (∀ W, Below w6.heap.size w6 W → Calls Try.prog 14 #[.pointer (some ⟨s, 0, none⟩), .int .i64 1] W fun e w' => e = .returned (.int .i64 a'.r1) ∧ Below W.heap.size W w') := Lib.hid (fun W h => role_any (P6.out.below h) 1)
        have ON := Lib.hid (one_rl O6.out)
        generalize hz0 : a'.r0 = z0 at *
        generalize hz1 : a'.r1 = z1 at *
        clear hz0 hz1
        by_cases g0 : z0 = 1
        · have g1 : ¬ z1 = 1 := fun q => ON.out ⟨g0, q⟩
          have e0 : (z0 == 1) = true := beq_iff_eq.2 g0
          have e1 : (z1 == 1) = false := beq_eq_false_iff_ne.2 g1
          clear g0 ON
          go_wp2_with fail
          refine K0.out.mono ?_
          rintro e w8 ⟨rfl, b8⟩
          have B8 := Lib.hid b8
          clear b8 K0
          go_wp2_with fail
          refine (K1.out w8 B8.out).mono ?_
          rintro e w9 ⟨rfl, b9⟩
          have B9 := Lib.hid (B8.out.trans (b9.mono B8.out.size))
          have P9 := Lib.hid (P6.out.below B9.out)
          have A9 := Lib.hid (A6.out.below B9.out)
          have BB9 := Lib.hid (B6.out.trans (B9.out.mono B6.out.size))
          clear b9 K1 P6 A6 B6 B8 B9
          go_wp2
          go_roundw
          case rel => exact ⟨k + 1, a', t6, h0', h1', s0', s1', by omega, by omega, by go_num, h6, q0', q1', P9, O6, H6, A9, BB9⟩
          case measure => simp [intOf]; omega
        · have e0 : (z0 == 1) = false := beq_eq_false_iff_ne.2 g0
          clear ON
          go_wp2_with fail
          refine K0.out.mono ?_
          rintro e w8 ⟨rfl, b8⟩
          have P9 := Lib.hid (P6.out.below b8)
          have A9 := Lib.hid (A6.out.below b8)
          have BB9 := Lib.hid (B6.out.trans (b8.mono B6.out.size))
          clear b8 K0 K1 P6 A6 B6
          go_wp2
          go_roundw
          case rel => exact ⟨k + 1, a', t6, h0', h1', s0', s1', by omega, by omega, by go_num, h6, q0', q1', P9, O6, H6, A9, BB9⟩
          case measure => simp [intOf]; omega
      · by_cases m1 : md = 1
        · subst m1
          by_cases hr0 : rsE a nn = 0
          · rcases rs_range hr0 with g0 | g1
            · have e0 : nn = 0 := g0
              subst e0
              have CA := Lib.hid (restart_any PP.out 0)
              rw [hr0] at CA
              have HE2 := Lib.hid (HE.out.rs0 hr0)
              clear hm0 m0 hr0
              go_wp2_with fail
              refine CA.out.mono ?_
              rintro e w5 ⟨rfl, p5, o5⟩
              have B5 := Lib.hid (low BB.out o5 HS.out)
              have P5 := Lib.hid p5
              have AR5 := Lib.hid (AR.out.only o5 (by have := NS.out; omega) (by have := NS.out; have := NG.out; omega))
              have O5 := Lib.hid (OK.out.rs 0)
              clear p5 o5 CA PP OK HE AR BB
              have c0 : w5.cell? ⟨h, 0, none⟩ = some (.bool h0) := row_cell AR5.out.hh 0
              have f0 := row_frozen AR5.out.hh 0
              have c1 : w5.cell? ⟨g, 0, none⟩ = some (.int .i64 s0) := row_cell AR5.out.gg 0
              have f1 := row_frozen AR5.out.gg 0
              have ngh : h ≠ g := by have := NG.out; omega
              have AR6 := Lib.hid ((AR5.out.seth0 ngh false).setg0 ngh 0)
              have OO6 : Hid (Only (fun b => b = h ∨ b = g) w5 ((w5.setCell ⟨h, 0, none⟩ (.bool false)).setCell ⟨g, 0, none⟩ (.int .i64 0))) := Lib.hid ((Only.set (fun b => b = h ∨ b = g) w5 (a := ⟨h, 0, none⟩) (.inl rfl) _).trans (Only.set (fun b => b = h ∨ b = g) _ (a := ⟨g, 0, none⟩) (.inr rfl) _) fun _ _ q => q)
              have PP6 := Lib.hid (P5.out.only OO6.out (by have := NS.out; have := NG.out; omega))
              have B6 := Lib.hid (B5.out.trans (OO6.out.below B5.out.size (by intro b hb; have := HH.out; have := NG.out; omega)))
              clear P5 AR5 B5 OO6
              go_upto_region 23 with fail
              clear c0 f0 c1 f1
              generalize (w5.setCell ⟨h, 0, none⟩ (.bool false)).setCell ⟨g, 0, none⟩ (.int .i64 0) = w6 at *
              obtain ⟨a', t6, h0', h1', s0', s1', h6, q0', q1', P6, O6, H6, A6⟩ : ∃ (a' : A) (t6 : Nat) (h0' h1' : Bool) (s0' s1' : Int), t6 ≤ k + 1 ∧ (0 ≤ s0' ∧ s0' ≤ ((k + 1 : Nat) : Int)) ∧ (0 ≤ s1' ∧ s1' ≤ ((k + 1 : Nat) : Int)) ∧ Hid (Pr w6 s a' t6) ∧ Hid (Ok a') ∧ Hid (Hd a' h0' h1' s0' s1') ∧ Hid (Ar w6 h g h0' h1' s0' s1') := ⟨rsA a 0, t, false, h1, 0, s1, by omega, by omega, by omega, PP6, O5, HE2, AR6⟩
              clear PP6 O5 HE2 AR6 hs0 hs1
              have K0 : Hid (Calls Try.prog 14 #[.pointer (some ⟨s, 0, none⟩), .int .i64 0] w6 fun e w' => e = .returned (.int .i64 a'.r0) ∧ Below w6.heap.size w6 w') := Lib.hid (role_any P6.out 0)
              have K1 : Hid (∀ W, Below w6.heap.size w6 W → Calls Try.prog 14 #[.pointer (some ⟨s, 0, none⟩), .int .i64 1] W fun e w' => e = .returned (.int .i64 a'.r1) ∧ Below W.heap.size W w') := Lib.hid (fun W h => role_any (P6.out.below h) 1)
              have ON := Lib.hid (one_rl O6.out)
              generalize hz0 : a'.r0 = z0 at *
              generalize hz1 : a'.r1 = z1 at *
              clear hz0 hz1
              by_cases g0 : z0 = 1
              · have g1 : ¬ z1 = 1 := fun q => ON.out ⟨g0, q⟩
                have e0 : (z0 == 1) = true := beq_iff_eq.2 g0
                have e1 : (z1 == 1) = false := beq_eq_false_iff_ne.2 g1
                clear g0 ON
                go_wp2_with fail
                refine K0.out.mono ?_
                rintro e w8 ⟨rfl, b8⟩
                have B8 := Lib.hid b8
                clear b8 K0
                go_wp2_with fail
                refine (K1.out w8 B8.out).mono ?_
                rintro e w9 ⟨rfl, b9⟩
                have B9 := Lib.hid (B8.out.trans (b9.mono B8.out.size))
                have P9 := Lib.hid (P6.out.below B9.out)
                have A9 := Lib.hid (A6.out.below B9.out)
                have BB9 := Lib.hid (B6.out.trans (B9.out.mono B6.out.size))
                clear b9 K1 P6 A6 B6 B8 B9
                go_wp2
                go_roundw
                case rel => exact ⟨k + 1, a', t6, h0', h1', s0', s1', by omega, by omega, by go_num, h6, q0', q1', P9, O6, H6, A9, BB9⟩
                case measure => simp [intOf]; omega
              · have e0 : (z0 == 1) = false := beq_eq_false_iff_ne.2 g0
                clear ON
                go_wp2_with fail
                refine K0.out.mono ?_
                rintro e w8 ⟨rfl, b8⟩
                have P9 := Lib.hid (P6.out.below b8)
                have A9 := Lib.hid (A6.out.below b8)
                have BB9 := Lib.hid (B6.out.trans (b8.mono B6.out.size))
                clear b8 K0 K1 P6 A6 B6
                go_wp2
                go_roundw
                case rel => exact ⟨k + 1, a', t6, h0', h1', s0', s1', by omega, by omega, by go_num, h6, q0', q1', P9, O6, H6, A9, BB9⟩
                case measure => simp [intOf]; omega
            · have e0 : nn = 1 := g1
              subst e0
              have CA := Lib.hid (restart_any PP.out 1)
              rw [hr0] at CA
              have HE2 := Lib.hid (HE.out.rs1 hr0)
              clear hm0 m0 hr0
              go_wp2_with fail
              refine CA.out.mono ?_
              rintro e w5 ⟨rfl, p5, o5⟩
              have B5 := Lib.hid (low BB.out o5 HS.out)
              have P5 := Lib.hid p5
              have AR5 := Lib.hid (AR.out.only o5 (by have := NS.out; omega) (by have := NS.out; have := NG.out; omega))
              have O5 := Lib.hid (OK.out.rs 1)
              clear p5 o5 CA PP OK HE AR BB
              have c0 : w5.cell? ⟨h, 1, none⟩ = some (.bool h1) := row_cell AR5.out.hh 1
              have f0 := row_frozen AR5.out.hh 1
              have c1 : w5.cell? ⟨g, 1, none⟩ = some (.int .i64 s1) := row_cell AR5.out.gg 1
              have f1 := row_frozen AR5.out.gg 1
              have ngh : h ≠ g := by have := NG.out; omega
              have AR6 := Lib.hid ((AR5.out.seth1 ngh false).setg1 ngh 0)
              have OO6 : Hid (Only (fun b => b = h ∨ b = g) w5 ((w5.setCell ⟨h, 1, none⟩ (.bool false)).setCell ⟨g, 1, none⟩ (.int .i64 0))) := Lib.hid ((Only.set (fun b => b = h ∨ b = g) w5 (a := ⟨h, 1, none⟩) (.inl rfl) _).trans (Only.set (fun b => b = h ∨ b = g) _ (a := ⟨g, 1, none⟩) (.inr rfl) _) fun _ _ q => q)
              have PP6 := Lib.hid (P5.out.only OO6.out (by have := NS.out; have := NG.out; omega))
              have B6 := Lib.hid (B5.out.trans (OO6.out.below B5.out.size (by intro b hb; have := HH.out; have := NG.out; omega)))
              clear P5 AR5 B5 OO6
              go_upto_region 23 with fail
              clear c0 f0 c1 f1
              generalize (w5.setCell ⟨h, 1, none⟩ (.bool false)).setCell ⟨g, 1, none⟩ (.int .i64 0) = w6 at *
              obtain ⟨a', t6, h0', h1', s0', s1', h6, q0', q1', P6, O6, H6, A6⟩ : ∃ (a' : A) (t6 : Nat) (h0' h1' : Bool) (s0' s1' : Int), t6 ≤ k + 1 ∧ (0 ≤ s0' ∧ s0' ≤ ((k + 1 : Nat) : Int)) ∧ (0 ≤ s1' ∧ s1' ≤ ((k + 1 : Nat) : Int)) ∧ Hid (Pr w6 s a' t6) ∧ Hid (Ok a') ∧ Hid (Hd a' h0' h1' s0' s1') ∧ Hid (Ar w6 h g h0' h1' s0' s1') := ⟨rsA a 1, t, h0, false, s0, 0, by omega, by omega, by omega, PP6, O5, HE2, AR6⟩
              clear PP6 O5 HE2 AR6 hs0 hs1
              have K0 : Hid (Calls Try.prog 14 #[.pointer (some ⟨s, 0, none⟩), .int .i64 0] w6 fun e w' => e = .returned (.int .i64 a'.r0) ∧ Below w6.heap.size w6 w') := Lib.hid (role_any P6.out 0)
              have K1 : Hid (∀ W, Below w6.heap.size w6 W → Calls Try.prog 14 #[.pointer (some ⟨s, 0, none⟩), .int .i64 1] W fun e w' => e = .returned (.int .i64 a'.r1) ∧ Below W.heap.size W w') := Lib.hid (fun W h => role_any (P6.out.below h) 1)
              have ON := Lib.hid (one_rl O6.out)
              generalize hz0 : a'.r0 = z0 at *
              generalize hz1 : a'.r1 = z1 at *
              clear hz0 hz1
              by_cases g0 : z0 = 1
              · have g1 : ¬ z1 = 1 := fun q => ON.out ⟨g0, q⟩
                have e0 : (z0 == 1) = true := beq_iff_eq.2 g0
                have e1 : (z1 == 1) = false := beq_eq_false_iff_ne.2 g1
                clear g0 ON
                go_wp2_with fail
                refine K0.out.mono ?_
                rintro e w8 ⟨rfl, b8⟩
                have B8 := Lib.hid b8
                clear b8 K0
                go_wp2_with fail
                refine (K1.out w8 B8.out).mono ?_
                rintro e w9 ⟨rfl, b9⟩
                have B9 := Lib.hid (B8.out.trans (b9.mono B8.out.size))
                have P9 := Lib.hid (P6.out.below B9.out)
                have A9 := Lib.hid (A6.out.below B9.out)
                have BB9 := Lib.hid (B6.out.trans (B9.out.mono B6.out.size))
                clear b9 K1 P6 A6 B6 B8 B9
                go_wp2
                go_roundw
                case rel => exact ⟨k + 1, a', t6, h0', h1', s0', s1', by omega, by omega, by go_num, h6, q0', q1', P9, O6, H6, A9, BB9⟩
                case measure => simp [intOf]; omega
              · have e0 : (z0 == 1) = false := beq_eq_false_iff_ne.2 g0
                clear ON
                go_wp2_with fail
                refine K0.out.mono ?_
                rintro e w8 ⟨rfl, b8⟩
                have P9 := Lib.hid (P6.out.below b8)
                have A9 := Lib.hid (A6.out.below b8)
                have BB9 := Lib.hid (B6.out.trans (b8.mono B6.out.size))
                clear b8 K0 K1 P6 A6 B6
                go_wp2
                go_roundw
                case rel => exact ⟨k + 1, a', t6, h0', h1', s0', s1', by omega, by omega, by go_num, h6, q0', q1', P9, O6, H6, A9, BB9⟩
                case measure => simp [intOf]; omega
          · have CA := Lib.hid (restart_any PP.out nn)
            rw [rsN hr0] at CA
            have er0 : (rsE a nn == 0) = false := beq_eq_false_iff_ne.2 hr0
            clear hm0 m0 hr0
            generalize rsE a nn = er at *
            go_wp2_with fail
            refine CA.out.mono ?_
            rintro e w6 ⟨rfl, p6, o6⟩
            have B6 := Lib.hid (low BB.out o6 HS.out)
            obtain ⟨a', t6, h0', h1', s0', s1', h6, q0', q1', P6, O6, H6, A6⟩ : ∃ (a' : A) (t6 : Nat) (h0' h1' : Bool) (s0' s1' : Int), t6 ≤ k + 1 ∧ (0 ≤ s0' ∧ s0' ≤ ((k + 1 : Nat) : Int)) ∧ (0 ≤ s1' ∧ s1' ≤ ((k + 1 : Nat) : Int)) ∧ Hid (Pr w6 s a' t6) ∧ Hid (Ok a') ∧ Hid (Hd a' h0' h1' s0' s1') ∧ Hid (Ar w6 h g h0' h1' s0' s1') := ⟨a, t, h0, h1, s0, s1, by omega, by omega, by omega, Lib.hid p6, OK, HE, Lib.hid (AR.out.only o6 (by have := NS.out; omega) (by have := NS.out; have := NG.out; omega))⟩
            clear p6 o6 CA PP OK HE AR BB hs0 hs1
            go_upto_region 23 with fail
            have K0 : Hid (Calls Try.prog 14 #[.pointer (some ⟨s, 0, none⟩), .int .i64 0] w6 fun e w' => e = .returned (.int .i64 a'.r0) ∧ Below w6.heap.size w6 w') := Lib.hid (role_any P6.out 0)
            have K1 : Hid (∀ W, Below w6.heap.size w6 W → Calls Try.prog 14 #[.pointer (some ⟨s, 0, none⟩), .int .i64 1] W fun e w' => e = .returned (.int .i64 a'.r1) ∧ Below W.heap.size W w') := Lib.hid (fun W h => role_any (P6.out.below h) 1)
            have ON := Lib.hid (one_rl O6.out)
            generalize hz0 : a'.r0 = z0 at *
            generalize hz1 : a'.r1 = z1 at *
            clear hz0 hz1
            by_cases g0 : z0 = 1
            · have g1 : ¬ z1 = 1 := fun q => ON.out ⟨g0, q⟩
              have e0 : (z0 == 1) = true := beq_iff_eq.2 g0
              have e1 : (z1 == 1) = false := beq_eq_false_iff_ne.2 g1
              clear g0 ON
              go_wp2_with fail
              refine K0.out.mono ?_
              rintro e w8 ⟨rfl, b8⟩
              have B8 := Lib.hid b8
              clear b8 K0
              go_wp2_with fail
              refine (K1.out w8 B8.out).mono ?_
              rintro e w9 ⟨rfl, b9⟩
              have B9 := Lib.hid (B8.out.trans (b9.mono B8.out.size))
              have P9 := Lib.hid (P6.out.below B9.out)
              have A9 := Lib.hid (A6.out.below B9.out)
              have BB9 := Lib.hid (B6.out.trans (B9.out.mono B6.out.size))
              clear b9 K1 P6 A6 B6 B8 B9
              go_wp2
              go_roundw
              case rel => exact ⟨k + 1, a', t6, h0', h1', s0', s1', by omega, by omega, by go_num, h6, q0', q1', P9, O6, H6, A9, BB9⟩
              case measure => simp [intOf]; omega
            · have e0 : (z0 == 1) = false := beq_eq_false_iff_ne.2 g0
              clear ON
              go_wp2_with fail
              refine K0.out.mono ?_
              rintro e w8 ⟨rfl, b8⟩
              have P9 := Lib.hid (P6.out.below b8)
              have A9 := Lib.hid (A6.out.below b8)
              have BB9 := Lib.hid (B6.out.trans (b8.mono B6.out.size))
              clear b8 K0 K1 P6 A6 B6
              go_wp2
              go_roundw
              case rel => exact ⟨k + 1, a', t6, h0', h1', s0', s1', by omega, by omega, by go_num, h6, q0', q1', P9, O6, H6, A9, BB9⟩
              case measure => simp [intOf]; omega
        · have q0 : (md == 0) = false := beq_eq_false_iff_ne.2 m0
          have q1 : (md == 1) = false := beq_eq_false_iff_ne.2 m1
          have CA := Lib.hid (round_any PP.out (by omega))
          obtain ⟨u0, u1, u2⟩ := HE.out.rnd OK.out
          have U0 := Lib.hid u0
          have U1 := Lib.hid u1
          have U2 := Lib.hid u2
          have OC := Lib.hid (opn_cases a)
          have OA := Lib.hid (opn_active a)
          have O5 := Lib.hid OK.out.rnd
          clear m0 m1 hm0 u0 u1 u2
          go_wp2_with fail
          refine CA.out.mono ?_
          rintro e w5 ⟨rfl, p5, o5⟩
          have B5 := Lib.hid (low BB.out o5 HS.out)
          have P5 := Lib.hid p5
          have AR5 := Lib.hid (AR.out.only o5 (by have := NS.out; omega) (by have := NS.out; have := NG.out; omega))
          have RL := Lib.hid (fun x => role_any p5 x)
          clear p5 o5 CA PP OK HE AR BB
          generalize opn a = oo at *
          generalize rnd a = a1 at *
          go_upto_region 9 with fail
          go_cut [59] from 13 to 106 (fun rr wx => Value.bool false = rr ∧ Hid (Below w5.heap.size w5 wx))
          case first =>
            rcases OC.out with rfl | rfl | rfl
            · clear U0 U1 U2 OA RL
              go_wp2
              go_meet
              exact ⟨rfl, Lib.hid (Below.refl _ _)⟩
            · have RL1 : Hid (Calls Try.prog 14 #[.pointer (some ⟨s, 0, none⟩), .int .i64 0] w5 fun e w' => e = .returned (.int .i64 1) ∧ Below w5.heap.size w5 w') := Lib.hid (by have := RL.out 0; rw [OA.out (by decide)] at this; exact this)
              have UU := Lib.hid (U0.out rfl)
              have c0 : w5.cell? ⟨h, 0, none⟩ = some (.bool h0) := row_cell AR5.out.hh 0
              have c1 : w5.cell? ⟨g, 0, none⟩ = some (.int .i64 s0) := row_cell AR5.out.gg 0
              clear U0 U1 U2 OA RL OC
              cases h0 with
              | true =>
                clear UU
                go_wp2_with fail
                refine RL1.out.mono ?_
                rintro e w7 ⟨rfl, b7⟩
                have c0 := (b7.cell (World.block_lt_of_cell? _ _ c0)).trans c0
                have c1 := (b7.cell (World.block_lt_of_cell? _ _ c1)).trans c1
                have B7 := Lib.hid b7
                clear b7 RL1
                go_wp2
                go_meet
                exact ⟨rfl, B7⟩
              | false =>
                have u8 : ¬ s0 < 8 := by rcases UU.out with g | g; cases g; omega
                clear UU
                go_wp2_with fail
                refine RL1.out.mono ?_
                rintro e w7 ⟨rfl, b7⟩
                have c0 := (b7.cell (World.block_lt_of_cell? _ _ c0)).trans c0
                have c1 := (b7.cell (World.block_lt_of_cell? _ _ c1)).trans c1
                have B7 := Lib.hid b7
                clear b7 RL1
                go_wp2
                go_meet
                exact ⟨congrArg Value.bool (decide_eq_false (by omega)).symm, B7⟩
            · have RL1 : Hid (Calls Try.prog 14 #[.pointer (some ⟨s, 0, none⟩), .int .i64 1] w5 fun e w' => e = .returned (.int .i64 1) ∧ Below w5.heap.size w5 w') := Lib.hid (by have := RL.out 1; rw [OA.out (by decide)] at this; exact this)
              have UU := Lib.hid (U1.out rfl)
              have c0 : w5.cell? ⟨h, 1, none⟩ = some (.bool h1) := row_cell AR5.out.hh 1
              have c1 : w5.cell? ⟨g, 1, none⟩ = some (.int .i64 s1) := row_cell AR5.out.gg 1
              clear U0 U1 U2 OA RL OC
              cases h1 with
              | true =>
                clear UU
                go_wp2_with fail
                refine RL1.out.mono ?_
                rintro e w7 ⟨rfl, b7⟩
                have c0 := (b7.cell (World.block_lt_of_cell? _ _ c0)).trans c0
                have c1 := (b7.cell (World.block_lt_of_cell? _ _ c1)).trans c1
                have B7 := Lib.hid b7
                clear b7 RL1
                go_wp2
                go_meet
                exact ⟨rfl, B7⟩
              | false =>
                have u8 : ¬ s1 < 8 := by rcases UU.out with g | g; cases g; omega
                clear UU
                go_wp2_with fail
                refine RL1.out.mono ?_
                rintro e w7 ⟨rfl, b7⟩
                have c0 := (b7.cell (World.block_lt_of_cell? _ _ c0)).trans c0
                have c1 := (b7.cell (World.block_lt_of_cell? _ _ c1)).trans c1
                have B7 := Lib.hid b7
                clear b7 RL1
                go_wp2
                go_meet
                exact ⟨congrArg Value.bool (decide_eq_false (by omega)).symm, B7⟩
          case rest =>
            obtain ⟨e1, BC⟩ := hcut
            subst e1
            have P6 := Lib.hid (P5.out.below BC.out)
            have AR6 := Lib.hid (AR5.out.below BC.out)
            have B6 := Lib.hid (B5.out.trans (BC.out.mono B5.out.size))
            clear P5 AR5 B5 BC RL U0 U1 OA OC
            generalize hob : decide (0 ≤ oo) = ob at *
            go_wp2
            go_loopw [9] (fun i wr => ∃ j : Nat, j ≤ 2 ∧ i = .int .i64 j ∧ Hid (Pr wr s a1 (t + 1)) ∧ Hid (Ar wr h g (if 0 < j then h0 || ob else h0) (if 1 < j then h1 || ob else h1) (if 0 < j then s0 + 1 else s0) (if 1 < j then s1 + 1 else s1)) ∧ Hid (Below w.heap.size w wr)) (fun i _ => 2 - (intOf i).toNat)
            case atStart => exact ⟨0, by omega, rfl, P6, AR6, B6⟩
            case round =>
              clear P6 AR6 B6
              obtain ⟨j, hj, rfl, PP, AR, BB⟩ := hrel
              rcases (by omega : j = 0 ∨ j = 1 ∨ j = 2) with rfl | rfl | rfl
              · have AR : Hid (Ar wr h g h0 h1 s0 s1) := AR
                have c0 : wr.cell? ⟨h, 0, none⟩ = some (.bool h0) := row_cell AR.out.hh 0
                have f0 := row_frozen AR.out.hh 0
                have c1 : wr.cell? ⟨g, 0, none⟩ = some (.int .i64 s0) := row_cell AR.out.gg 0
                have f1 := row_frozen AR.out.gg 0
                have ngh : h ≠ g := by have := NG.out; omega
                have ws : IntKind.i64.wrap (s0 + 1) = s0 + 1 := IntWalk.i64_in _ (by omega)
                have SET : Hid (∀ x : Bool, x = (h0 || ob) → Hid (Pr ((wr.setCell ⟨h, 0, none⟩ (.bool x)).setCell ⟨g, 0, none⟩ (.int .i64 (s0 + 1))) s a1 (t + 1)) ∧ Hid (Ar ((wr.setCell ⟨h, 0, none⟩ (.bool x)).setCell ⟨g, 0, none⟩ (.int .i64 (s0 + 1))) h g (h0 || ob) h1 (s0 + 1) s1) ∧ Hid (Below w.heap.size w ((wr.setCell ⟨h, 0, none⟩ (.bool x)).setCell ⟨g, 0, none⟩ (.int .i64 (s0 + 1))))) := Lib.hid (fun x hx => by
                  have OO6 : Only (fun b => b = h ∨ b = g) wr ((wr.setCell ⟨h, 0, none⟩ (.bool x)).setCell ⟨g, 0, none⟩ (.int .i64 (s0 + 1))) := (Only.set (fun b => b = h ∨ b = g) wr (a := ⟨h, 0, none⟩) (.inl rfl) _).trans (Only.set (fun b => b = h ∨ b = g) _ (a := ⟨g, 0, none⟩) (.inr rfl) _) fun _ _ q => q
                  refine ⟨Lib.hid (PP.out.only OO6 (by have := NS.out; have := NG.out; omega)), Lib.hid ?_, Lib.hid (BB.out.trans (OO6.below BB.out.size (by intro b hb; have := HH.out; have := NG.out; omega)))⟩
                  subst hx
                  exact (AR.out.seth0 ngh _).setg0 ngh _)
                clear PP AR BB
                cases h0 with
                | true =>
                  obtain ⟨PX, AX, BX⟩ := SET.out true rfl
                  clear SET
                  go_wp2
                  go_roundw
                  case rel => exact ⟨1, by omega, by go_num, PX, AX, BX⟩
                  case measure => simp [intOf]
                | false =>
                  obtain ⟨PX, AX, BX⟩ := SET.out ob rfl
                  clear SET
                  go_wp2
                  go_roundw
                  case rel => exact ⟨1, by omega, by go_num, PX, AX, BX⟩
                  case measure => simp [intOf]
              · have AR : Hid (Ar wr h g (h0 || ob) h1 (s0 + 1) s1) := AR
                have c0 : wr.cell? ⟨h, 1, none⟩ = some (.bool h1) := row_cell AR.out.hh 1
                have f0 := row_frozen AR.out.hh 1
                have c1 : wr.cell? ⟨g, 1, none⟩ = some (.int .i64 s1) := row_cell AR.out.gg 1
                have f1 := row_frozen AR.out.gg 1
                have ngh : h ≠ g := by have := NG.out; omega
                have ws : IntKind.i64.wrap (s1 + 1) = s1 + 1 := IntWalk.i64_in _ (by omega)
                have SET : Hid (∀ x : Bool, x = (h1 || ob) → Hid (Pr ((wr.setCell ⟨h, 1, none⟩ (.bool x)).setCell ⟨g, 1, none⟩ (.int .i64 (s1 + 1))) s a1 (t + 1)) ∧ Hid (Ar ((wr.setCell ⟨h, 1, none⟩ (.bool x)).setCell ⟨g, 1, none⟩ (.int .i64 (s1 + 1))) h g (h0 || ob) (h1 || ob) (s0 + 1) (s1 + 1)) ∧ Hid (Below w.heap.size w ((wr.setCell ⟨h, 1, none⟩ (.bool x)).setCell ⟨g, 1, none⟩ (.int .i64 (s1 + 1))))) := Lib.hid (fun x hx => by
                  have OO6 : Only (fun b => b = h ∨ b = g) wr ((wr.setCell ⟨h, 1, none⟩ (.bool x)).setCell ⟨g, 1, none⟩ (.int .i64 (s1 + 1))) := (Only.set (fun b => b = h ∨ b = g) wr (a := ⟨h, 1, none⟩) (.inl rfl) _).trans (Only.set (fun b => b = h ∨ b = g) _ (a := ⟨g, 1, none⟩) (.inr rfl) _) fun _ _ q => q
                  refine ⟨Lib.hid (PP.out.only OO6 (by have := NS.out; have := NG.out; omega)), Lib.hid ?_, Lib.hid (BB.out.trans (OO6.below BB.out.size (by intro b hb; have := HH.out; have := NG.out; omega)))⟩
                  subst hx
                  exact (AR.out.seth1 ngh _).setg1 ngh _)
                clear PP AR BB
                cases h1 with
                | true =>
                  obtain ⟨PX, AX, BX⟩ := SET.out true rfl
                  clear SET
                  go_wp2
                  go_roundw
                  case rel => exact ⟨2, by omega, by go_num, PX, AX, BX⟩
                  case measure => simp [intOf]
                | false =>
                  obtain ⟨PX, AX, BX⟩ := SET.out ob rfl
                  clear SET
                  go_wp2
                  go_roundw
                  case rel => exact ⟨2, by omega, by go_num, PX, AX, BX⟩
                  case measure => simp [intOf]
              · have AR : Hid (Ar wr h g (h0 || ob) (h1 || ob) (s0 + 1) (s1 + 1)) := AR
                generalize hw6 : wr = w6 at *
                clear hw6
                obtain ⟨a', t6, h0', h1', s0', s1', h6, q0', q1', P6, O6, H6, A6⟩ : ∃ (a' : A) (t6 : Nat) (h0' h1' : Bool) (s0' s1' : Int), t6 ≤ k + 1 ∧ (0 ≤ s0' ∧ s0' ≤ ((k + 1 : Nat) : Int)) ∧ (0 ≤ s1' ∧ s1' ≤ ((k + 1 : Nat) : Int)) ∧ Hid (Pr w6 s a' t6) ∧ Hid (Ok a') ∧ Hid (Hd a' h0' h1' s0' s1') ∧ Hid (Ar w6 h g h0' h1' s0' s1') := ⟨a1, t + 1, h0 || ob, h1 || ob, s0 + 1, s1 + 1, by omega, by omega, by omega, PP, O5, U2, AR⟩
                clear PP AR U2 O5 hob
                go_upto_region 23 with fail
                have K0 : Hid (Calls Try.prog 14 #[.pointer (some ⟨s, 0, none⟩), .int .i64 0] w6 fun e w' => e = .returned (.int .i64 a'.r0) ∧ Below w6.heap.size w6 w') := Lib.hid (role_any P6.out 0)
                have K1 : Hid (∀ W, Below w6.heap.size w6 W → Calls Try.prog 14 #[.pointer (some ⟨s, 0, none⟩), .int .i64 1] W fun e w' => e = .returned (.int .i64 a'.r1) ∧ Below W.heap.size W w') := Lib.hid (fun W h => role_any (P6.out.below h) 1)
                have ON := Lib.hid (one_rl O6.out)
                generalize hz0 : a'.r0 = z0 at *
                generalize hz1 : a'.r1 = z1 at *
                clear hz0 hz1
                by_cases g0 : z0 = 1
                · have g1 : ¬ z1 = 1 := fun q => ON.out ⟨g0, q⟩
                  have e0 : (z0 == 1) = true := beq_iff_eq.2 g0
                  have e1 : (z1 == 1) = false := beq_eq_false_iff_ne.2 g1
                  clear g0 ON
                  go_wp2_with fail
                  refine K0.out.mono ?_
                  rintro e w8 ⟨rfl, b8⟩
                  have B8 := Lib.hid b8
                  clear b8 K0
                  go_wp2_with fail
                  refine (K1.out w8 B8.out).mono ?_
                  rintro e w9 ⟨rfl, b9⟩
                  have B9 := Lib.hid (B8.out.trans (b9.mono B8.out.size))
                  have P9 := Lib.hid (P6.out.below B9.out)
                  have A9 := Lib.hid (A6.out.below B9.out)
                  have BB9 := Lib.hid (BB.out.trans (B9.out.mono BB.out.size))
                  clear b9 K1 P6 A6 BB B8 B9
                  go_wp2
                  go_roundw
                  case rel => exact ⟨k + 1, a', t6, h0', h1', s0', s1', by omega, by omega, by go_num, h6, q0', q1', P9, O6, H6, A9, BB9⟩
                  case measure => simp [intOf]; omega
                · have e0 : (z0 == 1) = false := beq_eq_false_iff_ne.2 g0
                  clear ON
                  go_wp2_with fail
                  refine K0.out.mono ?_
                  rintro e w8 ⟨rfl, b8⟩
                  have P9 := Lib.hid (P6.out.below b8)
                  have A9 := Lib.hid (A6.out.below b8)
                  have BB9 := Lib.hid (BB.out.trans (b8.mono BB.out.size))
                  clear b8 K0 K1 P6 A6 BB
                  go_wp2
                  go_roundw
                  case rel => exact ⟨k + 1, a', t6, h0', h1', s0', s1', by omega, by omega, by go_num, h6, q0', q1', P9, O6, H6, A9, BB9⟩
                  case measure => simp [intOf]; omega
    · have C4 := Lib.hid (awake_any wr)
      have hcase : ¬ k < n ∨ (k < n ∧ ¬ k < 120) := by omega
      clear hlt PP OK HE AR
      rcases hcase with h | ⟨h, h'⟩
      all_goals
        go_wp2_with fail
        refine C4.out.mono ?_
        rintro e w4 ⟨rfl, b4⟩
        have B4 := Lib.hid (BB.out.trans (b4.mono BB.out.size))
        clear b4 C4 BB
        go_wp2
        go_ret
        exact ⟨rfl, B4.out⟩

end Go.Proofs.Ytabhpafmppmigaa.Wt
