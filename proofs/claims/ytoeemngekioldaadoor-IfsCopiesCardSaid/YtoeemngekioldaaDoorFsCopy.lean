/- Copy of a store. -/
import Derived.Test.YtoeemngekioldaaDoorFsAddY
import Derived.Maps.Range
import Derived.Maps.RangeWalk
import Derived.Maps.RangeRun
import Derived.Deep.Cut
namespace Go.Proofs.YtoeemngekioldaaDoor.Fs
open Go.RowKit Go.Maps
open Go.Proofs.YtoeemngekioldaaDoor.Fl (R4 z4 K4 rec4 rat goodF goodFB okR okL file arr4 row_cell row_frozen)
open Go.Proofs.YtoeemngekioldaaDoor.Rw (Rd Ow At)
set_option maxRecDepth 100000
attribute [local irreducible] Sd.wpSd wpQuiet

theorem grown_of {w w' : World} (h : Below w.heap.size w w') : w.grownBy w' none := ⟨h.os, h.tape, h.output, h.size, fun k hk _ => h.block k hk⟩
theorem srt_eq : ∀ {A B : Abs}, Srt key A → Srt key B → (∀ e, e ∈ A ↔ e ∈ B) → A = B
  | [], [], _, _, _ => rfl
  | [], b :: B, _, _, h => by have := (h b).2 (List.mem_cons_self ..); cases this
  | a :: A, [], _, _, h => by have := (h a).1 (List.mem_cons_self ..); cases this
  | a :: A, b :: B, ha, hb, h => by
    obtain ⟨ha1, ha2⟩ := List.pairwise_cons.1 ha
    obtain ⟨hb1, hb2⟩ := List.pairwise_cons.1 hb
    have e : a = b := by
      rcases List.mem_cons.1 ((h a).1 (List.mem_cons_self ..)) with e | e
      · exact e
      · rcases List.mem_cons.1 ((h b).2 (List.mem_cons_self ..)) with e2 | e2
        · exact e2.symm
        · have := ha1 b e2; have := hb1 a e; omega
    subst e
    congr 1
    refine srt_eq ha2 hb2 fun e => ⟨fun he => ?_, fun he => ?_⟩
    · rcases List.mem_cons.1 ((h e).1 (List.mem_cons_of_mem _ he)) with rfl | h2
      · have := ha1 e he; omega
      · exact h2
    · rcases List.mem_cons.1 ((h e).2 (List.mem_cons_of_mem _ he)) with rfl | h2
      · have := hb1 e he; omega
      · exact h2
theorem St.as {w : World} {s : Nat} {F : Nat → Prop} {A : Abs} {d d' : Int} {m : Value} {T : TypeId} (h : St w s F A d) (row : w.heap[s]? = some (.cells #[m, .int .i64 d'] T (0, 0))) : ∃ C, Sto w s F m C d ∧ C.map Ent.abs = A := by
  obtain ⟨m', C, h, e⟩ := h
  have r := h.row.symm.trans row
  injection r with r
  injection r with r _ _
  have e4 := congrArg (fun t : Array Value => t[0]?) r
  simp at e4
  subst e4
  exact ⟨C, h, e⟩
theorem below_new1 (W : World) (o : Obj) : Below W.heap.size W (W.alloc o) := (Below.refl _ W).alloc (Nat.le_refl _) o
def CopySt (w : World) (A : Abs) (d : Int) (e : Ending) (w' : World) : Prop := ∃ g F, e = .returned (.pointer (some ⟨g, 0, none⟩)) ∧ St w' g F A d ∧ (∀ k, F k → w.heap.size ≤ k) ∧ Below w.heap.size w w'
/-- What the loop holds. -/
structure CI (w : World) (b : Nat) (C : List Ent) (d : Int) (wr : World) (left : Lit → Bool) (cnt : Nat) (F : Nat → Prop) (C2 : List Ent) : Prop where
  rg : wr.ranges Tryd.prog 3 Rh b (w.heap.size + 2) C.length (dat C) left cnt
  has : ∀ kl, left kl = true → Maps.has (dat C) kl = true
  st : Sto wr (w.heap.size + 1) F (.map (some w.heap.size)) C2 d
  mem : ∀ e, e ∈ C2.map Ent.abs ↔ e ∈ C.map Ent.abs ∧ left (.int .i64 e.1) = false
  lo : ∀ k, F k → w.heap.size ≤ k
  off : ¬ F (w.heap.size + 2)
  bel : Below w.heap.size w wr
theorem copy0 (w : World) (d : Int) : Sto ((w.alloc (.map #[] 0)).alloc (.cells #[.map (some w.heap.size), .int .i64 d] 61)) (w.heap.size + 1) (fun k => k = w.heap.size ∨ k = w.heap.size + 1) (.map (some w.heap.size)) [] d := by
  have hz : (w.alloc (.map #[] 0)).heap.size = w.heap.size + 1 := by simp
  have hr := heap_alloc_new (w.alloc (.map #[] 0)) (.cells #[.map (some w.heap.size), .int .i64 d] 61)
  rw [hz] at hr
  have mp : Mp (w.alloc (.map #[] 0)) (fun k => k = w.heap.size ∨ k = w.heap.size + 1) (.map (some w.heap.size)) [] := .inr ⟨w.heap.size, rfl, .inl rfl, World.ownsMap_made _ _ _ _⟩
  refine ⟨hr, .inr rfl, mp.kept fun b hb => ?_, nofun, nofun, List.Pairwise.nil, OkA.nil, fun k hk => ?_⟩
  · injection hb with hb
    injection hb with hb
    subst hb
    exact Below.heap_alloc _ _ _ (by omega)
  · simp
    omega
set_option maxHeartbeats 4000000 in
theorem copy_some {w : World} {s b : Nat} {F : Nat → Prop} {C : List Ent} {d : Int} (S : Sto w s F (.map (some b)) C d) : Calls Tryd.prog 20 #[.pointer (some ⟨s, 0, none⟩)] w (CopySt w (C.map Ent.abs) d) := by
  have SS := Lib.hid S
  have hsl := S.low s S.foot
  obtain ⟨hFb, _⟩ := S.mp.isMap
  have hbl := S.low b hFb
  have hown : w.ownsMap Tryd.prog 3 Rh b C.length (dat C) := by
    rcases S.mp with ⟨e, _⟩ | ⟨b', e, _, h⟩
    · cases e
    · injection e with e
      injection e with e
      subst e
      exact h
  have hmm := @run_makeMap Tryd.prog
  have e1 : (w.alloc (.map #[] 0)).heap.size = w.heap.size + 1 := by simp
  have B1 : Below w.heap.size w (w.alloc (.map #[] 0)) := (Below.refl w.heap.size w).alloc (Nat.le_refl _) _
  have c1 : (w.alloc (.map #[] 0)).cell? ⟨s, 1, none⟩ = some (.int .i64 d) := row_cell (S.below B1).row 1
  have S2 := Lib.hid (copy0 w d)
  have e2 : ((w.alloc (.map #[] 0)).alloc (.cells #[.map (some w.heap.size), .int .i64 d] 61)).heap.size = w.heap.size + 2 := by simp
  have B2 : Below w.heap.size w ((w.alloc (.map #[] 0)).alloc (.cells #[.map (some w.heap.size), .int .i64 d] 61)) := B1.alloc B1.size _
  have c0 : ((w.alloc (.map #[] 0)).alloc (.cells #[.map (some w.heap.size), .int .i64 d] 61)).cell? ⟨s, 0, none⟩ = some (.map (some b)) := row_cell (S.below B2).row 0
  have own2 : ((w.alloc (.map #[] 0)).alloc (.cells #[.map (some w.heap.size), .int .i64 d] 61)).ownsMap Tryd.prog 3 Rh b C.length (dat C) := hown.kept (grown_of B2) (by simp)
  clear S hown
  go_enter Tryd.func20, Tryd.ntmps20
  go_wp2_with (first
    | (at_range; refine wpList_range_own _ rfl _ 59 rfl 3 35 law Tryd.underlying59 _ b C.length _ rfl own2 ?_; intro w0 hrg0 hg0 hs0)
    | fail)
  go_frame
  clear c0 c1 hmm
  rw [e2] at hrg0 hs0 ⊢
  go_loopw [4] (fun _ wr => ∃ left cnt F2 C2, Hid (CI w b C d wr left cnt F2 C2)) (fun _ wr => wr.rangeLeft b (w.heap.size + 2))
  case atStart =>
    have B3 : Below ((w.alloc (.map #[] 0)).alloc (.cells #[.map (some w.heap.size), .int .i64 d] 61)).heap.size ((w.alloc (.map #[] 0)).alloc (.cells #[.map (some w.heap.size), .int .i64 d] 61)) w0 := (Below.refl _ _).grown hg0 (Nat.le_refl _) (fun j hj => by cases hj)
    refine ⟨_, _, _, [], ⟨hrg0, fun kl h => h, S2.out.below B3, fun e => ⟨nofun, fun ⟨h1, h2⟩ => ?_⟩, fun k hk => by rcases hk with rfl | rfl <;> omega, fun hk => by rcases hk with hk | hk <;> omega, B2.trans (B3.mono (by omega))⟩⟩
    obtain ⟨c, hc, rfl⟩ := List.mem_map.1 h1
    rw [dat_has, lb, Option.isSome_eq_false_iff, Option.isNone_iff_eq_none] at h2
    exact absurd rfl (look_none.1 h2 c hc)
  case round =>
    obtain ⟨left, cnt, F2, C2, I⟩ := hrel
    have hrg := I.out.rg
    clear hrg0 hg0 hs0 own2 B1 B2 e1 e2 S2
    go_wp2_with (first
      | (at_next; refine wpList_next_ranges _ rfl _ rfl 3 law Rh (Value.int .i64) id (fun key kl hkey => by obtain ⟨x, rfl, _⟩ := Maps.keyOf_int_inv Tryd.underlying3 hkey; exact ⟨x, rfl⟩) (fun v y _ => ⟨v, rfl⟩) b (w.heap.size + 2) C.length _ _ _ rfl hrg ?_ ?_)
      | fail)
    · intro hc0 hl0
      clear hrg
      have RES : Hid (CopySt w (C.map Ent.abs) d (.returned (.pointer (some ⟨w.heap.size + 1, 0, none⟩))) wr) := by
        have e : C2.map Ent.abs = C.map Ent.abs := srt_eq I.out.st.ok.srt SS.out.ok.srt fun e => (I.out.mem e).trans ⟨fun h => h.1, fun h => ⟨h, hl0 _⟩⟩
        exact ⟨_, F2, rfl, ⟨_, C2, I.out.st, e⟩, I.out.lo, I.out.bel⟩
      go_wp2
      go_ret
      exact RES.out
    · intro x v kl y y2 w1 cnt1 hkey hlk hv hat hrg1 hlt hg1 hs1 hen
      obtain ⟨x', ex, rfl, hwx⟩ := Maps.keyOf_int_inv Tryd.underlying3 hkey
      cases ex
      have hh := I.out.has _ hlk
      rw [dat_has] at hh
      obtain ⟨c, hc⟩ : ∃ c, look Ent.n x C = some c := Option.isSome_iff_exists.1 hh
      have hv' : v = c.file := by
        have h1 := hat (.held (file 0 (.slice none 0 0)))
        rw [dat_at, lv_some hc] at h1
        obtain ⟨h2, _⟩ : DataW.held v = y ∧ [] = y2 := by simpa [Rh] using hv
        have h3 := h1.trans h2.symm
        injection h3 with h3
        exact h3.symm
      subst hv'
      obtain ⟨fo, fg, fl, fn, fr, fm⟩ := SS.out.find hc
      have hsb : w.heap.size + 2 < w1.heap.size := by have := hrg.lt; omega
      have B1 : Below w.heap.size w w1 := I.out.bel.grown hg1 I.out.bel.size (fun j hj => by cases hj; omega)
      have O1 : Only (fun k => k = w.heap.size + 2) wr w1 := Only.grown rfl hg1
      have S1 := Lib.hid (I.out.st.only (G := fun k => k = w.heap.size + 2) (fun k hk (e : k = w.heap.size + 2) => I.out.off (e ▸ hk)) O1)
      have R1 := Lib.hid (((SS.out.below B1).own c fm).rd)
      have BB := Lib.hid B1
      have RG := Lib.hid hrg1
      have RG0 := Lib.hid hrg
      have FF := Lib.hid (And.intro fo (And.intro fg (And.intro fl (And.intro fr hlt))))
      have HM := Lib.hid (And.intro hlk hwx)
      clear hkey hh hat hv hc fo fg fl hrg1 hg1 hs1 B1 O1 fr hrg hlt hlk
      obtain ⟨cn, cp, ca, cc, cl⟩ := c
      simp only at fn
      subst fn
      unfold Ent.sl at R1
      simp only at R1
      have hq : cl.length ≤ 260 := by have : cl.length ≤ 256 := FF.out.2.1.2.2.2.1; omega
      unfold Ent.file Fl.file Ent.sl at hen ⊢
      simp only at hen ⊢
      go_upto_region 7 with fail
      have H1 := heap_alloc_new w1 (.cells #[.int .i64 cp, .slice ca cl.length cc] 35)
      have hb1 := below_new1 w1 (.cells #[.int .i64 cp, .slice ca cl.length cc] 35)
      have hz2 : (w1.alloc (.cells #[.int .i64 cp, .slice ca cl.length cc] 35)).heap.size = w1.heap.size + 1 := by simp
      have W2g : Below w1.heap.size w1 (w1.alloc (.cells #[.int .i64 cp, .slice ca cl.length cc] 35)).drew := hb1.trans ((Below.refl w1.heap.size _).drew)
      have S2 := Lib.hid (S1.out.below W2g)
      have C0 : AddC (w.heap.size + 1) (.map (some w.heap.size)) d w1.heap.size cp (.slice ca cl.length cc) (w1.alloc (.cells #[.int .i64 cp, .slice ca cl.length cc] 35)).drew := ⟨S2.out.row, H1⟩
      have WB := Lib.hid W2g
      have hsz : w1.heap.size + 1 = (w1.alloc (.cells #[.int .i64 cp, .slice ca cl.length cc] 35)).drew.heap.size := hz2.symm
      clear H1 hb1 hz2 W2g hen
      generalize (w1.alloc (.cells #[.int .i64 cp, .slice ca cl.length cc] 35)) = W2 at *
      have k0 := Sc.cell_in (C := AddC (w.heap.size + 1) (.map (some w.heap.size)) d w1.heap.size cp (.slice ca cl.length cc)) (a := ⟨w.heap.size + 1, 0, none⟩) (fun W' h => row_cell h.row 0)
      have r0 := Sc.cell_in (C := AddC (w.heap.size + 1) (.map (some w.heap.size)) d w1.heap.size cp (.slice ca cl.length cc)) (a := ⟨w1.heap.size, 0, none⟩) (fun W' h => row_cell h.box 0)
      have r1 := Sc.cell_in (C := AddC (w.heap.size + 1) (.map (some w.heap.size)) d w1.heap.size cp (.slice ca cl.length cc)) (a := ⟨w1.heap.size, 1, none⟩) (fun W' h => row_cell h.box 1)
      have ne : Nonempty (Sc.In (AddC (w.heap.size + 1) (.map (some w.heap.size)) d w1.heap.size cp (.slice ca cl.length cc))) := ⟨⟨_, C0⟩⟩
      refine Sc.start (AddC (w.heap.size + 1) (.map (some w.heap.size)) d w1.heap.size cp (.slice ca cl.length cc)) [(false, 0), (false, 1), (false, 2), (false, 3), (false, 4), (false, 5), (true, 6), (true, 7)] (by kernel_rfl) (by kernel_rfl) (by kernel_rfl) C0 ?_
      dsimp only [Sd.picks, List.getElem?_cons_succ, List.getElem?_cons_zero]
      repeat (refine Sd.lit ?_; quiet_step (fail); refine wpQuiet_nil ?_)
      clear k0 r0 r1
      generalize W2.drew = Wd at *
      refine Sd.call (by rfl) (fun K hK => ?_)
      have CA := copied_any Wd cp (.slice ca cl.length cc) cl (R1.out.below WB.out) hq
      unfold file at CA
      go_simp
      refine CA.mono ?_
      rintro e w3 ⟨u, rfl, o3, b3⟩
      have S3 := S2.out.below b3
      have W3 := Lib.hid (WB.out.trans (b3.mono (by omega)))
      have G3 : w3.heap[w1.heap.size]? = _ := (b3.block _ (by omega)).trans C0.box
      refine hK _ _ (Sc.Cl.of ⟨S3.row, G3⟩) ?_
      have O3 := Lib.hid o3
      have M3 := Lib.hid S3.mp
      have T3 := Lib.hid S3
      have RR3 := Lib.hid S3.row
      have GG3 := Lib.hid G3
      have BD := Lib.hid b3
      clear hK K CA b3 o3 S3 G3 C0
      obtain ⟨au, cu, rfl, _⟩ := O3.out.slice
      refine Sd.call (by rfl) (fun K hK => ?_)
      have hl2 := T3.out.len
      refine wp_put _ _ _ rfl rfl M3.out ⟨cn, cp, au, cu, cl⟩ rfl rfl HM.out.2 (by unfold maxLen; omega) (fun w4 m4 g4 => ?_)
      have hws := lt_of_block RR3.out
      have hwg := lt_of_block GG3.out
      have row4 := (g4.block (w.heap.size + 1) hws (by intro e; injection e with e; omega)).trans RR3.out
      refine hK _ _ (Sc.Cl.of ⟨row4, (g4.block w1.heap.size hwg (by intro e; injection e with e; omega)).trans GG3.out⟩) ?_
      have NEW : ∃ F4 C4, Hid (CI w b C d w4 (fun z => left z && !z.sameKey (.int .i64 cn)) cnt1 F4 C4) := by
        obtain ⟨P1, P2⟩ := S2.out.place (c := ⟨cn, cp, au, cu, cl⟩) BD.out g4 m4 O3.out FF.out.2.2.2.1 FF.out.2.1 FF.out.2.2.1
        obtain ⟨C4, P3, P4⟩ := P1.as row4
        have rg3 := RG.out.kept (grown_of W3.out) (by simp) (by simp)
        have rg4 := rg3.kept g4 (fun e => by have := Option.some.inj e; omega) (fun e => by have := Option.some.inj e; omega)
        have hB1 := hsb
        have hb3 := W3.out.size
        refine ⟨_, C4, ⟨rg4, fun kl h => I.out.has kl (by simp at h; exact h.1), P3, fun e => ?_, fun k hk => ?_, fun hk => ?_, (BB.out.trans (W3.out.mono (by omega))).grown g4 (by omega) (fun j hj => by cases hj; exact Nat.le_refl _)⟩⟩
        · rw [P4, abs_put, mem_put, I.out.mem]
          show _ ↔ _ ∧ (left (.int .i64 e.1) && !(Lit.int .i64 e.1).sameKey (.int .i64 cn)) = false
          have hin : (cn, cp, cl) ∈ C.map Ent.abs := List.mem_map.2 ⟨_, fm, rfl⟩
          have hsk : (Lit.int .i64 e.1).sameKey (.int .i64 cn) = decide (e.1 = cn) := by simp [Lit.sameKey]
          rw [hsk]
          constructor
          · rintro (rfl | ⟨⟨h1, h2⟩, h3⟩)
            · exact ⟨hin, by simp [Ent.abs]⟩
            · exact ⟨h1, by rw [h2]; rfl⟩
          · rintro ⟨h1, h2⟩
            by_cases he : e.1 = cn
            · left
              have q1 := look_at SS.out.ok.srt h1
              have q2 := look_at SS.out.ok.srt hin
              have : look key (key e) (C.map Ent.abs) = look key (key (cn, cp, cl)) (C.map Ent.abs) := by rw [show key e = key (cn, cp, cl) from he]
              exact Option.some.inj (q1.symm.trans (this.trans q2))
            · right
              simp [he] at h2
              exact ⟨⟨h1, h2⟩, he⟩
        · rcases hk with hk | ⟨hk, _⟩
          · exact I.out.lo k hk
          · omega
        · rcases hk with hk | ⟨hk, _⟩
          · exact I.out.off hk
          · omega
      clear hK K m4 g4 row4
      refine Sd.done ?_
      obtain ⟨F4, C4, NEW⟩ := NEW
      have MS : Hid (w4.rangeLeft b (w.heap.size + 2) < wr.rangeLeft b (w.heap.size + 2)) := by
        show _ < _
        rw [NEW.out.rg.left_eq, RG0.out.left_eq]
        exact FF.out.2.2.2.2
      go_wp2
      go_roundw
      case rel => exact ⟨_, _, _, _, NEW⟩
      case measure => exact MS.out
set_option maxHeartbeats 1000000 in
theorem copy_none {w : World} {s : Nat} {F : Nat → Prop} {C : List Ent} {d : Int} (S : Sto w s F (.map none) C d) : Calls Tryd.prog 20 #[.pointer (some ⟨s, 0, none⟩)] w (CopySt w (C.map Ent.abs) d) := by
  obtain rfl : C = [] := by
    rcases S.mp with ⟨_, e⟩ | ⟨b, e, _⟩
    · exact e
    · cases e
  have hmm := @run_makeMap Tryd.prog
  have e1 : (w.alloc (.map #[] 0)).heap.size = w.heap.size + 1 := by simp
  have B1 : Below w.heap.size w (w.alloc (.map #[] 0)) := (Below.refl w.heap.size w).alloc (Nat.le_refl _) _
  have c1 : (w.alloc (.map #[] 0)).cell? ⟨s, 1, none⟩ = some (.int .i64 d) := row_cell (S.below B1).row 1
  have S2 := copy0 w d
  have e2 : ((w.alloc (.map #[] 0)).alloc (.cells #[.map (some w.heap.size), .int .i64 d] 61)).heap.size = w.heap.size + 2 := by simp
  have B2 : Below w.heap.size w ((w.alloc (.map #[] 0)).alloc (.cells #[.map (some w.heap.size), .int .i64 d] 61)) := B1.alloc B1.size _
  have c0 : ((w.alloc (.map #[] 0)).alloc (.cells #[.map (some w.heap.size), .int .i64 d] 61)).cell? ⟨s, 0, none⟩ = some (.map none) := row_cell (S.below B2).row 0
  have hrg := run_range_nilMap (P := Tryd.prog) ((w.alloc (.map #[] 0)).alloc (.cells #[.map (some w.heap.size), .int .i64 d] 61)) 59 3 35 Tryd.underlying59
  have hnx : ∀ ty, (Instr.next (.pointer (some ⟨((w.alloc (.map #[] 0)).alloc (.cells #[.map (some w.heap.size), .int .i64 d] 61)).heap.size, 0, none⟩)) false ty).run Tryd.prog (((w.alloc (.map #[] 0)).alloc (.cells #[.map (some w.heap.size), .int .i64 d] 61)).alloc (.mapIter none 0 #[] 0)) = _ := fun ty => run_next_nilMap _ ty 0 0 #[]
  have RES : Hid (CopySt w (([] : List Ent).map Ent.abs) d (.returned (.pointer (some ⟨w.heap.size + 1, 0, none⟩))) (((w.alloc (.map #[] 0)).alloc (.cells #[.map (some w.heap.size), .int .i64 d] 61)).alloc (.mapIter none 0 #[] 0))) :=
    ⟨_, _, rfl, ⟨_, [], S2.below ((Below.refl _ _).alloc (Nat.le_refl _) _), rfl⟩, fun k hk => by rcases hk with rfl | rfl <;> omega, B2.alloc B2.size _⟩
  rw [e2] at hrg hnx
  clear S S2 B1 B2
  go_enter Tryd.func20, Tryd.ntmps20
  go_wp2
  refine wp_loop_rounds 1 ?_
  rw [rounds_succ]
  go_wp2
  go_ret
  exact RES.out
theorem copy_any {w : World} {s : Nat} {F : Nat → Prop} {A : Abs} {d : Int} (S : St w s F A d) : Calls Tryd.prog 20 #[.pointer (some ⟨s, 0, none⟩)] w (CopySt w A d) := by
  obtain ⟨m, C, h, rfl⟩ := S
  rcases h.mp with ⟨rfl, _⟩ | ⟨b, rfl, _⟩
  · exact copy_none h
  · exact copy_some h

end Go.Proofs.YtoeemngekioldaaDoor.Fs
