/- WatchDoes: both pairs side by side, by any deeds. -/
import Derived.Test.YtabhpafmppmigaaWtAwake
namespace Go.Proofs.Ytabhpafmppmigaa.Wt
open Go.RowKit
open Go.Proofs.Ytabhpafmppmigaa.Fl (ret_bool at_bool row_cell row_frozen)
open Go.Proofs.Ytabhpafmppmigaa.Fs (Only)
open Go.Proofs.Ytabhpafmppmigaa.Rw (Rd Ow At)
attribute [local irreducible] Sd.wpSd wpQuiet

/-- A deed: its kind, and a number. -/
abbrev D2 := Int × Int
def KW : Rw.Kind D2 := ⟨fun x => [.int .u8 x.1, .int .i64 x.2], 2, by decide, fun _ => rfl, fun _ u h => by simp at h; rcases h with rfl | rfl <;> rfl, (0, 0)⟩
def da (l : List D2) (i : Nat) : D2 := l.getD i (0, 0)
theorem atW {w : World} {b off : Nat} {l : List D2} (h : At KW w b off l) {i : Nat} (hi : i < l.length) :
    w.cell? ⟨b, off + i * 2, none⟩ = some (.int .u8 (da l i).1) ∧ w.cell? ⟨b, off + i * 2 + 1, none⟩ = some (.int .i64 (da l i).2) :=
  ⟨h i hi 0 _ rfl, h i hi 1 _ rfl⟩
def Fd (l : List D2) : Prop := ∀ i, i < l.length → 0 ≤ (da l i).1 ∧ (da l i).1 ≤ 255
theorem Pf.wide {w : World} {r t t' : Nat} {a : A} (h : Pf w r a t) (ht : t ≤ t') : Pf w r a t' := by
  obtain ⟨s0, s1, n, la, hr, hv⟩ := h
  exact ⟨s0, s1, n, la, hr, ⟨hv.b0, hv.b1, hv.bl, by have := hv.bn; omega, hv.e0, hv.e1⟩⟩
theorem Pf.cells {w : World} {r t : Nat} {a : A} (h : Pf w r a t) : w.cell? ⟨r, 0, none⟩ = some (.int .i64 a.r0) ∧ w.cell? ⟨r, 1, none⟩ = some (.int .i64 a.r1) := by
  obtain ⟨s0, s1, n, la, hr, hv⟩ := h
  exact ⟨row_cell hr 0, row_cell hr 1⟩

set_option maxHeartbeats 8000000 in
set_option maxRecDepth 100000 in
theorem does_law (w : World) (v : Value) (l : List D2) (R : Rd KW w v l) (F : Fd l) : Calls Try.prog 3 #[v] w fun e w' => e = .returned (.bool true) ∧ Below w.heap.size w w' := by
  have FF : Hid (∀ k, k < l.length → 0 ≤ (da l k).1 ∧ (da l k).1 ≤ 255) := Lib.hid F
  have C0 := Lib.hid (new_any w)
  have CR := Lib.hid (fun w => rnew_any w)
  obtain ⟨a, cap, rfl, _, hm, hA⟩ := R
  have HA := Lib.hid hA
  unfold maxLen at hm
  clear hA F
  generalize hn : l.length = n at *
  have HN := Lib.hid hn
  clear hn
  go_enter Try.func3, Try.ntmps3
  go_wp2_with fail
  refine C0.out.mono ?_
  rintro e w1 ⟨s, rfl, p1, hs, b1⟩
  have P1 := Lib.hid p1
  have B1 := Lib.hid b1
  have HS := Lib.hid hs
  have C1 := Lib.hid (CR.out w1)
  clear C0 CR p1 b1 hs
  go_wp2_with fail
  refine C1.out.mono ?_
  rintro e w2 ⟨r, rfl, f2, hr, b2⟩
  have F2 := Lib.hid f2
  have P2 := Lib.hid (P1.out.below b2)
  have B2 := Lib.hid (B1.out.trans (b2.mono B1.out.size))
  have HR : Hid (w.heap.size ≤ r) := Lib.hid (Nat.le_trans B1.out.size hr)
  have NE : Hid (s ≠ r) := Lib.hid (by have := P1.out.lt; omega)
  clear C1 f2 hr b2 P1 B1
  go_wp2
  go_loopw [5] (fun i wr => ∃ (k : Nat) (a : A) (t t' : Nat), k ≤ n ∧ k ≤ 120 ∧ i = .int .i64 k ∧ t ≤ k ∧ t' ≤ k ∧ Hid (Pr wr s a t) ∧ Hid (Pf wr r a t') ∧ Hid (Below w.heap.size w wr)) (fun i _ => n - (intOf i).toNat)
  case atStart => exact ⟨0, new, 0, 0, Nat.zero_le _, Nat.zero_le _, rfl, Nat.zero_le _, Nat.zero_le _, P2, F2, B2⟩
  case round =>
    clear P2 F2 B2
    obtain ⟨k, a, t, t', hk, hk2, rfl, ht, ht', PP, PF, BB⟩ := hrel
    by_cases hlt : k < n ∧ k < 120
    · obtain ⟨hkn, hk120⟩ := hlt
      obtain ⟨b, off, rfl, A⟩ := HA.out (by omega)
      have AA := Lib.hid (atW A (i := k) (by rw [HN.out]; exact hkn))
      obtain ⟨c0, c1⟩ := atW (A.below BB.out) (i := k) (by rw [HN.out]; exact hkn)
      have HAA := Lib.hid A
      obtain ⟨x0, x255⟩ := FF.out k hkn
      clear A
      generalize da l k = x at *
      have hmod : Int.tmod x.1 5 = x.1 % 5 := Int.tmod_eq_emod_of_nonneg x0
      have wmod : IntKind.u8.wrap (x.1 % 5) = x.1 % 5 := IntWalk.u8_in _ (by omega)
      have hm0 : 0 ≤ x.1 % 5 ∧ x.1 % 5 ≤ 4 := by omega
      go_upto_region 8 with fail
      generalize x.1 % 5 = md at *
      clear hmod wmod
      by_cases m0 : md = 0
      · subst m0
        clear hm0
        skip
        have CA := Lib.hid (crash_any PP.out x.2)
        have CB := Lib.hid (fun W (f : Pf W r a t') => rcrash_any f x.2)
        go_upto_region 9 with fail
        have xn := Sc.cell_in (C := Below w.heap.size w) (a := ⟨b, off + k * 2 + 1, none⟩) (v := .int .i64 x.2) (fun W' h => (h.cell (World.block_lt_of_cell? _ _ AA.out.2)).trans AA.out.2)
        have ne : Nonempty (Sc.In (Below w.heap.size w)) := ⟨⟨_, Below.refl _ _⟩⟩
        clear c0 c1
        refine Sc.start (Below w.heap.size w) [(false, 0), (false, 1), (false, 2), (false, 3), (false, 4), (false, 5), (false, 7), (false, 8), (false, 9), (false, 10), (false, 11), (false, 12), (true, 6), (true, 13), (false, 14)] (by kernel_rfl) (by kernel_rfl) (by kernel_rfl) BB.out.drew ?_
        dsimp only [Sd.picks, List.getElem?_cons_succ, List.getElem?_cons_zero]
        repeat (refine Sd.lit ?_; quiet_step (fail); refine wpQuiet_nil ?_)
        have BD := Lib.hid BB.out.drew
        have PD := Lib.hid (PP.out.below (Below.refl wr.heap.size wr).drew)
        have FD := Lib.hid (PF.out.below (Below.refl wr.heap.size wr).drew)
        have CA := Lib.hid (crash_any PD.out x.2)
        clear PP PF BB
        generalize wr.drew = W1 at *
        refine Sd.call (by rfl) (fun K hK => ?_)
        go_simp
        refine CA.out.mono ?_
        rintro e w4 ⟨rfl, p4, o4⟩
        have B4 := low BD.out o4 HS.out
        have P4 := Lib.hid p4
        have F4 := Lib.hid (FD.out.only o4 NE.out.symm)
        refine hK _ _ (Sc.Cl.of B4) ?_
        have B4' := Lib.hid B4
        have CC := Lib.hid (CB.out w4 F4.out)
        clear hK K p4 o4 B4 PD FD CA CB BD
        go_simp
        refine Sd.call (by rfl) (fun K hK => ?_)
        go_simp
        refine CC.out.mono ?_
        rintro e w6 ⟨rfl, f6, o6⟩
        have B6' := low B4'.out o6 HR.out
        obtain ⟨t6, h6, P6⟩ : ∃ t6, t6 ≤ k + 1 ∧ Hid (Pr w6 s (crA a x.2) t6) := ⟨t, by omega, Lib.hid (P4.out.only o6 NE.out)⟩
        obtain ⟨t7, h7, F6⟩ : ∃ t7, t7 ≤ k + 1 ∧ Hid (Pf w6 r (crA a x.2) t7) := ⟨t', by omega, Lib.hid f6⟩
        refine hK _ _ (Sc.Cl.of B6') ?_
        have B6 := Lib.hid B6'
        clear hK K f6 o6 B6' P4 F4 B4' CC xn
        go_simp
        repeat (refine Sd.lit ?_; quiet_step (fail); refine wpQuiet_nil ?_)
        refine Sd.done ?_
        clear ne
        generalize crA a x.2 = a' at *
        generalize crE a x.2 = er at *
        go_upto_region 14 with fail
        obtain ⟨d0, d1⟩ := F6.out.cells
        have E0 := Sd.cell_by d0
        have E1 := Sd.cell_by d1
        have K0 : Hid (∀ W, Below w6.heap.size w6 W → Calls Try.prog 14 #[.pointer (some ⟨s, 0, none⟩), .int .i64 0] W fun e w' => e = .returned (.int .i64 a'.r0) ∧ Below W.heap.size W w') := Lib.hid (fun W h => role_any (P6.out.below h) 0)
        have K1 : Hid (∀ W, Below w6.heap.size w6 W → Calls Try.prog 14 #[.pointer (some ⟨s, 0, none⟩), .int .i64 1] W fun e w' => e = .returned (.int .i64 a'.r1) ∧ Below W.heap.size W w') := Lib.hid (fun W h => role_any (P6.out.below h) 1)
        clear d0 d1
        generalize hx0 : a'.r0 = z0 at *
        generalize hx1 : a'.r1 = z1 at *
        clear hx0 hx1
        have nz0 : (z0 != z0) = false := by simp
        have nz1 : (z1 != z1) = false := by simp
        refine Sd.start [(false, 0), (false, 2), (false, 3), (false, 4), (false, 5), (false, 6), (true, 1), (false, 7), (false, 8), (false, 9), (false, 11), (false, 12), (false, 13), (false, 14), (false, 15), (true, 10), (false, 16), (false, 17)] (by kernel_rfl) (by kernel_rfl) (by kernel_rfl) ?_
        dsimp only [Sd.picks, List.getElem?_cons_succ, List.getElem?_cons_zero]
        iterate 6 (refine Sd.lit ?_; quiet_step (fail); refine wpQuiet_nil ?_)
        refine Sd.call (by rfl) (fun K hK => ?_)
        go_simp
        refine (K0.out w6.drew (Below.refl _ _).drew).mono ?_
        rintro e w8 ⟨rfl, b8⟩
        have B8 := Lib.hid ((Below.refl w6.heap.size w6).drew.trans b8)
        refine hK _ _ (Sd.Cl.of B8.out) ?_
        clear hK K b8 K0
        go_simp
        iterate 8 (refine Sd.lit ?_; quiet_step (fail); refine wpQuiet_nil ?_)
        refine Sd.call (by rfl) (fun K hK => ?_)
        go_simp
        refine (K1.out w8 B8.out).mono ?_
        rintro e w9 ⟨rfl, b9⟩
        have B9 := Lib.hid (B8.out.trans (b9.mono B8.out.size))
        refine hK _ _ (Sd.Cl.of B9.out) ?_
        clear hK K b9 K1 E0 E1
        go_simp
        repeat (refine Sd.lit ?_; quiet_step (fail); refine wpQuiet_nil ?_)
        refine Sd.done ?_
        have P9 := Lib.hid (P6.out.below B9.out)
        have F9 := Lib.hid (F6.out.below B9.out)
        have BB9 := Lib.hid (B6.out.trans (B9.out.mono B6.out.size))
        clear P6 F6 B6 B8 B9
        go_wp2
        go_roundw
        case rel => exact ⟨k + 1, a', t6, t7, by omega, by omega, by go_num, h6, h7, P9, F9, BB9⟩
        case measure => simp [intOf]; omega
      by_cases m1 : md = 1
      · subst m1
        clear hm0 m0
        skip
        have CA := Lib.hid (restart_any PP.out x.2)
        have CB := Lib.hid (fun W (f : Pf W r a t') => rrestart_any f x.2)
        go_upto_region 12 with fail
        have xn := Sc.cell_in (C := Below w.heap.size w) (a := ⟨b, off + k * 2 + 1, none⟩) (v := .int .i64 x.2) (fun W' h => (h.cell (World.block_lt_of_cell? _ _ AA.out.2)).trans AA.out.2)
        have ne : Nonempty (Sc.In (Below w.heap.size w)) := ⟨⟨_, Below.refl _ _⟩⟩
        clear c0 c1
        refine Sc.start (Below w.heap.size w) [(false, 0), (false, 1), (false, 2), (false, 3), (false, 4), (false, 5), (false, 7), (false, 8), (false, 9), (false, 10), (false, 11), (false, 12), (true, 6), (true, 13), (false, 14)] (by kernel_rfl) (by kernel_rfl) (by kernel_rfl) BB.out.drew ?_
        dsimp only [Sd.picks, List.getElem?_cons_succ, List.getElem?_cons_zero]
        repeat (refine Sd.lit ?_; quiet_step (fail); refine wpQuiet_nil ?_)
        have BD := Lib.hid BB.out.drew
        have PD := Lib.hid (PP.out.below (Below.refl wr.heap.size wr).drew)
        have FD := Lib.hid (PF.out.below (Below.refl wr.heap.size wr).drew)
        have CA := Lib.hid (restart_any PD.out x.2)
        clear PP PF BB
        generalize wr.drew = W1 at *
        refine Sd.call (by rfl) (fun K hK => ?_)
        go_simp
        refine CA.out.mono ?_
        rintro e w4 ⟨rfl, p4, o4⟩
        have B4 := low BD.out o4 HS.out
        have P4 := Lib.hid p4
        have F4 := Lib.hid (FD.out.only o4 NE.out.symm)
        refine hK _ _ (Sc.Cl.of B4) ?_
        have B4' := Lib.hid B4
        have CC := Lib.hid (CB.out w4 F4.out)
        clear hK K p4 o4 B4 PD FD CA CB BD
        go_simp
        refine Sd.call (by rfl) (fun K hK => ?_)
        go_simp
        refine CC.out.mono ?_
        rintro e w6 ⟨rfl, f6, o6⟩
        have B6' := low B4'.out o6 HR.out
        obtain ⟨t6, h6, P6⟩ : ∃ t6, t6 ≤ k + 1 ∧ Hid (Pr w6 s (rsA a x.2) t6) := ⟨t, by omega, Lib.hid (P4.out.only o6 NE.out)⟩
        obtain ⟨t7, h7, F6⟩ : ∃ t7, t7 ≤ k + 1 ∧ Hid (Pf w6 r (rsA a x.2) t7) := ⟨t', by omega, Lib.hid f6⟩
        refine hK _ _ (Sc.Cl.of B6') ?_
        have B6 := Lib.hid B6'
        clear hK K f6 o6 B6' P4 F4 B4' CC xn
        go_simp
        repeat (refine Sd.lit ?_; quiet_step (fail); refine wpQuiet_nil ?_)
        refine Sd.done ?_
        clear ne
        generalize rsA a x.2 = a' at *
        generalize rsE a x.2 = er at *
        go_upto_region 14 with fail
        obtain ⟨d0, d1⟩ := F6.out.cells
        have E0 := Sd.cell_by d0
        have E1 := Sd.cell_by d1
        have K0 : Hid (∀ W, Below w6.heap.size w6 W → Calls Try.prog 14 #[.pointer (some ⟨s, 0, none⟩), .int .i64 0] W fun e w' => e = .returned (.int .i64 a'.r0) ∧ Below W.heap.size W w') := Lib.hid (fun W h => role_any (P6.out.below h) 0)
        have K1 : Hid (∀ W, Below w6.heap.size w6 W → Calls Try.prog 14 #[.pointer (some ⟨s, 0, none⟩), .int .i64 1] W fun e w' => e = .returned (.int .i64 a'.r1) ∧ Below W.heap.size W w') := Lib.hid (fun W h => role_any (P6.out.below h) 1)
        clear d0 d1
        generalize hx0 : a'.r0 = z0 at *
        generalize hx1 : a'.r1 = z1 at *
        clear hx0 hx1
        have nz0 : (z0 != z0) = false := by simp
        have nz1 : (z1 != z1) = false := by simp
        refine Sd.start [(false, 0), (false, 2), (false, 3), (false, 4), (false, 5), (false, 6), (true, 1), (false, 7), (false, 8), (false, 9), (false, 11), (false, 12), (false, 13), (false, 14), (false, 15), (true, 10), (false, 16), (false, 17)] (by kernel_rfl) (by kernel_rfl) (by kernel_rfl) ?_
        dsimp only [Sd.picks, List.getElem?_cons_succ, List.getElem?_cons_zero]
        iterate 6 (refine Sd.lit ?_; quiet_step (fail); refine wpQuiet_nil ?_)
        refine Sd.call (by rfl) (fun K hK => ?_)
        go_simp
        refine (K0.out w6.drew (Below.refl _ _).drew).mono ?_
        rintro e w8 ⟨rfl, b8⟩
        have B8 := Lib.hid ((Below.refl w6.heap.size w6).drew.trans b8)
        refine hK _ _ (Sd.Cl.of B8.out) ?_
        clear hK K b8 K0
        go_simp
        iterate 8 (refine Sd.lit ?_; quiet_step (fail); refine wpQuiet_nil ?_)
        refine Sd.call (by rfl) (fun K hK => ?_)
        go_simp
        refine (K1.out w8 B8.out).mono ?_
        rintro e w9 ⟨rfl, b9⟩
        have B9 := Lib.hid (B8.out.trans (b9.mono B8.out.size))
        refine hK _ _ (Sd.Cl.of B9.out) ?_
        clear hK K b9 K1 E0 E1
        go_simp
        repeat (refine Sd.lit ?_; quiet_step (fail); refine wpQuiet_nil ?_)
        refine Sd.done ?_
        have P9 := Lib.hid (P6.out.below B9.out)
        have F9 := Lib.hid (F6.out.below B9.out)
        have BB9 := Lib.hid (B6.out.trans (B9.out.mono B6.out.size))
        clear P6 F6 B6 B8 B9
        go_wp2
        go_roundw
        case rel => exact ⟨k + 1, a', t6, t7, by omega, by omega, by go_num, h6, h7, P9, F9, BB9⟩
        case measure => simp [intOf]; omega
      · have q0 : (md == 0) = false := beq_eq_false_iff_ne.2 m0
        have q1 : (md == 1) = false := beq_eq_false_iff_ne.2 m1
        have CA := Lib.hid (round_any PP.out (by omega))
        have CB := Lib.hid (fun W (f : Pf W r a t') => rround_any f (by omega))
        clear m0 m1 hm0 c0 c1
        go_wp2_with fail
        refine CA.out.mono ?_
        rintro e w4 ⟨rfl, p4, o4⟩
        have B4 := Lib.hid (low BB.out o4 HS.out)
        have P4 := Lib.hid p4
        have F4 := Lib.hid (PF.out.only o4 NE.out.symm)
        have CC := Lib.hid (CB.out w4 F4.out)
        clear p4 o4 PP PF BB CA CB
        go_wp2_with fail
        refine CC.out.mono ?_
        rintro e w6 ⟨rfl, f6, o6⟩
        have B6 := Lib.hid (low B4.out o6 HR.out)
        obtain ⟨t6, h6, P6⟩ : ∃ t6, t6 ≤ k + 1 ∧ Hid (Pr w6 s (rnd a) t6) := ⟨t + 1, by omega, Lib.hid (P4.out.only o6 NE.out)⟩
        obtain ⟨t7, h7, F6⟩ : ∃ t7, t7 ≤ k + 1 ∧ Hid (Pf w6 r (rnd a) t7) := ⟨t' + 1, by omega, Lib.hid f6⟩
        clear f6 o6 P4 F4 B4 CC
        generalize rnd a = a' at *
        generalize opn a = er at *
        go_upto_region 14 with fail
        obtain ⟨d0, d1⟩ := F6.out.cells
        have E0 := Sd.cell_by d0
        have E1 := Sd.cell_by d1
        have K0 : Hid (∀ W, Below w6.heap.size w6 W → Calls Try.prog 14 #[.pointer (some ⟨s, 0, none⟩), .int .i64 0] W fun e w' => e = .returned (.int .i64 a'.r0) ∧ Below W.heap.size W w') := Lib.hid (fun W h => role_any (P6.out.below h) 0)
        have K1 : Hid (∀ W, Below w6.heap.size w6 W → Calls Try.prog 14 #[.pointer (some ⟨s, 0, none⟩), .int .i64 1] W fun e w' => e = .returned (.int .i64 a'.r1) ∧ Below W.heap.size W w') := Lib.hid (fun W h => role_any (P6.out.below h) 1)
        clear d0 d1
        generalize hx0 : a'.r0 = z0 at *
        generalize hx1 : a'.r1 = z1 at *
        clear hx0 hx1
        have nz0 : (z0 != z0) = false := by simp
        have nz1 : (z1 != z1) = false := by simp
        refine Sd.start [(false, 0), (false, 2), (false, 3), (false, 4), (false, 5), (false, 6), (true, 1), (false, 7), (false, 8), (false, 9), (false, 11), (false, 12), (false, 13), (false, 14), (false, 15), (true, 10), (false, 16), (false, 17)] (by kernel_rfl) (by kernel_rfl) (by kernel_rfl) ?_
        dsimp only [Sd.picks, List.getElem?_cons_succ, List.getElem?_cons_zero]
        iterate 6 (refine Sd.lit ?_; quiet_step (fail); refine wpQuiet_nil ?_)
        refine Sd.call (by rfl) (fun K hK => ?_)
        go_simp
        refine (K0.out w6.drew (Below.refl _ _).drew).mono ?_
        rintro e w8 ⟨rfl, b8⟩
        have B8 := Lib.hid ((Below.refl w6.heap.size w6).drew.trans b8)
        refine hK _ _ (Sd.Cl.of B8.out) ?_
        clear hK K b8 K0
        go_simp
        iterate 8 (refine Sd.lit ?_; quiet_step (fail); refine wpQuiet_nil ?_)
        refine Sd.call (by rfl) (fun K hK => ?_)
        go_simp
        refine (K1.out w8 B8.out).mono ?_
        rintro e w9 ⟨rfl, b9⟩
        have B9 := Lib.hid (B8.out.trans (b9.mono B8.out.size))
        refine hK _ _ (Sd.Cl.of B9.out) ?_
        clear hK K b9 K1 E0 E1
        go_simp
        repeat (refine Sd.lit ?_; quiet_step (fail); refine wpQuiet_nil ?_)
        refine Sd.done ?_
        have P9 := Lib.hid (P6.out.below B9.out)
        have F9 := Lib.hid (F6.out.below B9.out)
        have BB9 := Lib.hid (B6.out.trans (B9.out.mono B6.out.size))
        clear P6 F6 B6 B8 B9
        go_wp2
        go_roundw
        case rel => exact ⟨k + 1, a', t6, t7, by omega, by omega, by go_num, h6, h7, P9, F9, BB9⟩
        case measure => simp [intOf]; omega
    · have C4 := Lib.hid (awake_any wr)
      have K2 : Hid (∀ W, Below wr.heap.size wr W → Calls Try.prog 14 #[.pointer (some ⟨s, 0, none⟩), .int .i64 2] W fun e w' => e = .returned (.int .i64 0) ∧ Below W.heap.size W w') := Lib.hid (fun W h => role_any (PP.out.below h) 2)
      have K3 : Hid (∀ W, Below wr.heap.size wr W → Calls Try.prog 14 #[.pointer (some ⟨s, 0, none⟩), .int .i64 (-1)] W fun e w' => e = .returned (.int .i64 0) ∧ Below W.heap.size W w') := Lib.hid (fun W h => role_any (PP.out.below h) (-1))
      have hcase : ¬ k < n ∨ (k < n ∧ ¬ k < 120) := by omega
      clear hlt PP PF
      rcases hcase with h | ⟨h, h'⟩
      all_goals
        go_wp2_with fail
        refine C4.out.mono ?_
        rintro e w4 ⟨rfl, b4⟩
        have B4 := Lib.hid b4
        have C5 := Lib.hid (K2.out w4 b4)
        clear b4 C4 K2
        go_wp2_with fail
        refine C5.out.mono ?_
        rintro e w5 ⟨rfl, b5⟩
        have B5 := Lib.hid (B4.out.trans (b5.mono B4.out.size))
        have C6 := Lib.hid (K3.out w5 B5.out)
        clear b5 C5 K3 B4
        go_wp2_with fail
        refine C6.out.mono ?_
        rintro e w6 ⟨rfl, b6⟩
        have B6 := Lib.hid (BB.out.trans ((B5.out.trans (b6.mono B5.out.size)).mono BB.out.size))
        clear b6 C6 B5 BB
        go_wp2
        go_ret
        exact ⟨rfl, B6.out⟩

end Go.Proofs.Ytabhpafmppmigaa.Wt
