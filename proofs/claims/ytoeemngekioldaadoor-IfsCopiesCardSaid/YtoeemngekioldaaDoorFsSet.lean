/- ifs: Set, by its contract. -/
import Derived.Test.YtoeemngekioldaaDoorFsSto
namespace Go.Proofs.YtoeemngekioldaaDoor.Fs
open Go.RowKit Go.Maps
open Go.Proofs.YtoeemngekioldaaDoor.Fl (R4 z4 K4 rec4 rat goodF goodFB okR okL doE newR file arr4 sto4 sto4_own sto4_other sto4_size sto4_below own4 row_cell row_frozen ret_bool)
open Go.Proofs.YtoeemngekioldaaDoor.Rw (Rd Ow At)
set_option maxRecDepth 100000
attribute [local irreducible] Sd.wpSd wpQuiet Sf.wpSf

def SetPost (w : World) (s : Nat) (F : Nat → Prop) (d : Int) (b : Bool) (A' : Abs) (e : Ending) (w' : World) : Prop := e = .returned (.bool b) ∧ St w' s (Fx F w w') A' d ∧ Only F w w'
theorem sB_some {C : List Ent} {n r : Int} {c : Ent} (h : look Ent.n n C = some c) (h0 : 0 ≤ r) (h1 : r < c.l.length) (h2 : r ≠ 0) : sB (C.map Ent.abs) n r = true := by
  unfold sB
  rw [gB_some h, decide_eq_true ⟨h0, h1⟩, decide_eq_true h2]
  rfl
theorem sA_some {C : List Ent} {n r : Int} {c : Ent} (h : look Ent.n n C = some c) (h0 : 0 ≤ r) (h1 : r < c.l.length) (h2 : r ≠ 0) (x : R4) : sA (C.map Ent.abs) n r x = (put Ent.n (c.recs (c.l.set r.toNat x)) C).map Ent.abs := by
  have hb := sB_some h h0 h1 h2
  have he : look key n (C.map Ent.abs) = some c.abs := by rw [abs_look, h]; rfl
  unfold sA
  rw [he]
  simp only [hb, if_true]
  rw [abs_put]
  obtain ⟨_, rfl⟩ := look_some h
  rfl
theorem sA_no {A : Abs} {n r : Int} (h : sB A n r = false) (x : R4) : sA A n r x = A := by
  unfold sA
  split
  · rfl
  · rw [h]; rfl
theorem box_rec (w : World) (x : R4) : (w.alloc (.cells (arr4 x) 32)).heap[w.heap.size]? = some (.cells (arr4 x) 32 (0, 0)) ∧ Below w.heap.size w (w.alloc (.cells (arr4 x) 32)) ∧ (w.alloc (.cells (arr4 x) 32)).heap.size = w.heap.size + 1 := ⟨heap_alloc_new w _, (Below.refl w.heap.size w).alloc (Nat.le_refl _) _, by simp⟩
set_option maxHeartbeats 400000 in
theorem set_zero (w : World) (s : Value) (n : Int) (x : R4) : Calls Tryd.prog 10 #[s, .int .i64 n, .int .i64 0, rec4 x] w fun e w' => e = .returned (.bool false) ∧ Below w.heap.size w w' := by
  unfold rec4
  go_enter Tryd.func10, Tryd.ntmps10
  go_wp2
  go_ret
  exact ⟨rfl, (Below.refl w.heap.size w).alloc (Nat.le_refl _) _⟩
set_option maxHeartbeats 400000 in
theorem set_none (w : World) (s : Value) (n r : Int) (x : R4) (hr : r ≠ 0) (hh : ∀ W, Below w.heap.size w W → Calls Tryd.prog 25 #[s, .int .i64 n, .int .i64 r] W fun e w' => e = .returned (.bool false) ∧ Below W.heap.size W w') :
    Calls Tryd.prog 10 #[s, .int .i64 n, .int .i64 r, rec4 x] w fun e w' => e = .returned (.bool false) ∧ Below w.heap.size w w' := by
  obtain ⟨h1, hB, hz⟩ := box_rec w x
  have HB := Lib.hid hB
  have HH := Lib.hid (hh _ hB)
  clear h1 hB hz hh
  have hr0 : (r == 0) = false := by simpa using hr
  unfold rec4
  unfold arr4 at *
  go_enter Tryd.func10, Tryd.ntmps10
  go_wp2_with fail
  refine HH.out.mono ?_
  rintro e w1 ⟨rfl, b1⟩
  have B1 := Lib.hid (HB.out.trans (b1.mono HB.out.size))
  clear b1 HH HB
  go_wp2
  go_ret
  exact ⟨rfl, B1.out⟩
/-- What the region that writes reads. -/
structure SetC (s : Nat) (F : Nat → Prop) (m : Value) (C : List Ent) (d : Int) (g : Nat) (x : R4) (W : World) : Prop where
  row : W.heap[s]? = some (.cells #[m, .int .i64 d] 61 (0, 0))
  mp : Mp W F m C
  box : W.heap[g]? = some (.cells (arr4 x) 32 (0, 0))
set_option maxHeartbeats 1000000 in
theorem set_yes {w : World} {s : Nat} {F : Nat → Prop} {m : Value} {C : List Ent} {d : Int} (S : Sto w s F m C d) {n : Int} (hn : Wf n) (k : Nat) (x : R4) (hx : okR x) {c : Ent} (hc : look Ent.n n C = some c) (hk : k < c.l.length) (hk0 : k ≠ 0) :
    Calls Tryd.prog 10 #[.pointer (some ⟨s, 0, none⟩), .int .i64 n, .int .i64 (k : Int), rec4 x] w (SetPost w s F d true ((put Ent.n (c.recs (c.l.set k x)) C).map Ent.abs)) := by
  obtain ⟨h1, hB, hz⟩ := box_rec w x
  have H1 := Lib.hid h1
  have HB := Lib.hid hB
  have HZ := Lib.hid hz
  have hh := has_any (S.below hB) hn (k : Int)
  rw [gB_some hc, decide_eq_true (⟨by omega, by omega⟩ : 0 ≤ (k : Int) ∧ (k : Int) < c.l.length)] at hh
  have HH := Lib.hid hh
  have SS := Lib.hid S
  have HN := Lib.hid hn
  have L := Lib.hid (lv_some hc)
  obtain ⟨ho, _, _, _, _, hm⟩ := S.find hc
  obtain ⟨g, cap, e1, _, _, _, _, _, _⟩ := ho.form (by omega)
  have ea : c.a = some ⟨g, 0, none⟩ := by unfold Ent.sl at e1; injection e1
  rw [ea] at L
  have FIN : Hid (∀ W, Below w.heap.size w W → SetPost w s F d true ((put Ent.n (c.recs (c.l.set k x)) C).map Ent.abs) (.returned (.bool true)) (sto4 W g (k * 4) x)) := fun W hb => by
    obtain ⟨S1, O1⟩ := (S.below hb).write hm e1 hk hk0 hx
    have O2 := (Only.of_below (G := F) hb).trans O1 fun _ _ g => g
    exact ⟨rfl, ⟨_, _, S1.wide (fun j hj => .inl hj) (Fx.low S.low O2.size), rfl⟩, O2⟩
  have OW := Lib.hid (And.intro ho (And.intro e1 hk))
  have CB : Hid (∀ W, SetC s F m C d w.heap.size x W → ∀ g', g = g' → ((sto4 W g' (k * 4) x).heap[s]? = some (.cells #[m, .int .i64 d] 61 (0, 0)) ∧ Mp (sto4 W g' (k * 4) x) F m C ∧ (sto4 W g' (k * 4) x).heap[w.heap.size]? = some (.cells (arr4 x) 32 (0, 0)))) := fun W h g' eg => by
    subst eg
    obtain ⟨n1, n2⟩ := S.off hm
    rw [e1] at n1 n2
    have hgl := S.low g (S.mine c hm g (by rw [e1]; rfl))
    exact ⟨sto4_other h.row fun e => n1 (by rw [e]; rfl), h.mp.kept fun b hb => sto4_other rfl fun e => n2 b hb (by rw [e]; rfl), sto4_other h.box (by omega)⟩
  have hq : k < c.l.length := hk
  clear h1 hB hz hh ho e1 hc S hn hk hm ea
  generalize put Ent.n (c.recs (c.l.set k x)) C = C' at *
  have hr0 : ((k : Int) == 0) = false := by simpa using hk0
  have OW2 : Hid (∀ W, Below w.heap.size w W → (W.cell? ⟨g, k * 4, none⟩ = some (.int .u8 (rat c.l k).1) ∧ W.cell? ⟨g, k * 4 + 1, none⟩ = some (.int .u8 (rat c.l k).2.1) ∧ W.cell? ⟨g, k * 4 + 2, none⟩ = some (.int .u8 (rat c.l k).2.2.1) ∧ W.cell? ⟨g, k * 4 + 3, none⟩ = some (.int .u8 (rat c.l k).2.2.2)) ∧ (∀ j, W.frozen? ⟨g, j, none⟩ = false)) := fun W hb => by
    have o := OW.out.1.keep hb
    rw [OW.out.2.1] at o
    have := own4 o k OW.out.2.2
    exact ⟨this.1, this.2.1⟩
  clear OW
  generalize rat c.l k = y0 at *
  generalize c.l.length = q at *
  generalize c.p = p at *
  generalize c.cap = ccap at *
  unfold rec4
  have X4 : Hid (arr4 x = #[.int .u8 x.1, .int .u8 x.2.1, .int .u8 x.2.2.1, .int .u8 x.2.2.2]) := rfl
  unfold arr4 at H1 HB HZ HH
  go_enter Tryd.func10, Tryd.ntmps10
  go_wp2_with fail
  generalize (w.alloc (.cells #[.int .u8 x.1, .int .u8 x.2.1, .int .u8 x.2.2.1, .int .u8 x.2.2.2] 32)) = W at *
  refine HH.out.mono ?_
  rintro e w1 ⟨rfl, b1⟩
  have hz := HZ.out
  have G : w1.heap[w.heap.size]? = some (.cells (arr4 x) 32 (0, 0)) := (b1.block _ (by omega)).trans H1.out
  have B1 := Lib.hid (HB.out.trans (b1.mono HB.out.size))
  have S1 := SS.out.below B1.out
  have C0 : SetC s F m C d w.heap.size x w1.drew := ⟨S1.row, S1.mp, G⟩
  clear b1 HH HB H1 HZ hz G S1 SS
  go_wp2_with fail
  have hF := run_fieldF
  have c0 := Sc.cell_in (C := SetC s F m C d w.heap.size x) (a := ⟨s, 0, none⟩) (fun W' h => row_cell h.row 0)
  have x0 := Sc.cell_in (C := SetC s F m C d w.heap.size x) (a := ⟨w.heap.size, 0, none⟩) (v := .int .u8 x.1) (fun W' h => row_cell h.box 0)
  have x1 := Sc.cell_in (C := SetC s F m C d w.heap.size x) (a := ⟨w.heap.size, 1, none⟩) (v := .int .u8 x.2.1) (fun W' h => row_cell h.box 1)
  have x2 := Sc.cell_in (C := SetC s F m C d w.heap.size x) (a := ⟨w.heap.size, 2, none⟩) (v := .int .u8 x.2.2.1) (fun W' h => row_cell h.box 2)
  have x3 := Sc.cell_in (C := SetC s F m C d w.heap.size x) (a := ⟨w.heap.size, 3, none⟩) (v := .int .u8 x.2.2.2) (fun W' h => row_cell h.box 3)
  have hlk : ∀ P : Sc.In (SetC s F m C d w.heap.size x), (Instr.lookup 59 m (.int .i64 n) false).run Tryd.prog P.world = .ok (.agg #[.int .i64 p, .slice (some ⟨g, 0, none⟩) q ccap]) P.world := fun P => by
    have := run_look P.ok.mp HN.out false
    rw [L.out] at this
    exact this
  have ne : Nonempty (Sc.In (SetC s F m C d w.heap.size x)) := ⟨⟨_, C0⟩⟩
  refine Sc.start (SetC s F m C d w.heap.size x) [(false, 0), (false, 1), (false, 2), (false, 3), (false, 4), (false, 5), (false, 6), (false, 7), (false, 8), (false, 9), (true, 10)] (by kernel_rfl) (by kernel_rfl) (by kernel_rfl) C0 ?_
  dsimp only [Sd.picks, List.getElem?_cons_succ, List.getElem?_cons_zero]
  repeat (refine Sd.lit ?_; quiet_step (fail); refine wpQuiet_nil ?_)
  have BW : Below w.heap.size w w1.drew := B1.out.trans ((Below.refl _ _).drew)
  obtain ⟨⟨d0, d1, d2, d3⟩, hfr⟩ := OW2.out w1.drew BW
  have f0 := hfr (k * 4)
  have f1 := hfr (k * 4 + 1)
  have f2 := hfr (k * 4 + 2)
  have f3 := hfr (k * 4 + 3)
  have L1 : SetC s F m C d w.heap.size x (sto4 w1.drew g (k * 4) x) := by
    obtain ⟨a1, a2, a3⟩ := CB.out _ C0 _ rfl
    exact ⟨a1, a2, a3⟩
  have RES := Lib.hid (FIN.out w1.drew BW)
  clear hfr OW2 CB FIN C0 B1 BW
  generalize w1.drew = W1 at *
  refine Sd.call (by rfl) (fun K hK => ?_)
  go_simp
  refine hK _ _ (Sc.Cl.of L1) ?_
  clear hK K d0 d1 d2 d3 f0 f1 f2 f3 c0 x0 x1 x2 x3 hlk
  show Sd.wpSd _ _ _ _ _ _ (sto4 W1 g (k * 4) x)
  generalize sto4 W1 g (k * 4) x = W2 at *
  refine Sd.done ?_
  go_wp2
  go_ret
  exact RES.out
theorem set_any {w : World} {s : Nat} {F : Nat → Prop} {A : Abs} {d : Int} (S : St w s F A d) {n : Int} (hn : Wf n) (r : Int) (x : R4) (hx : okR x) :
    Calls Tryd.prog 10 #[.pointer (some ⟨s, 0, none⟩), .int .i64 n, .int .i64 r, rec4 x] w (SetPost w s F d (sB A n r) (sA A n r x)) := by
  obtain ⟨m, C, h, rfl⟩ := S
  have no : ∀ e w', sB (C.map Ent.abs) n r = false → (e = .returned (.bool false) ∧ Below w.heap.size w w') → SetPost w s F d (sB (C.map Ent.abs) n r) (sA (C.map Ent.abs) n r x) e w' := fun e w' hb ⟨he, b⟩ => by
    unfold SetPost
    rw [hb, sA_no hb x]
    exact ⟨he, St.fx ⟨m, C, h, rfl⟩ b, Only.of_below b⟩
  by_cases hr : r = 0
  · subst hr
    exact (set_zero w _ n x).mono fun e w' => no e w' (by unfold sB; simp)
  · have none : gB (C.map Ent.abs) n r = false → Calls Tryd.prog 10 #[.pointer (some ⟨s, 0, none⟩), .int .i64 n, .int .i64 r, rec4 x] w (SetPost w s F d (sB (C.map Ent.abs) n r) (sA (C.map Ent.abs) n r x)) := fun hg =>
      (set_none w _ n r x hr fun W hb => by
        have := has_any (h.below hb) hn r
        rwa [hg] at this).mono fun e w' => no e w' (by unfold sB; rw [hg]; rfl)
    cases hk : look Ent.n n C with
    | none => exact none (gB_none hk)
    | some c =>
      by_cases h2 : 0 ≤ r ∧ r < c.l.length
      · rw [sB_some hk h2.1 h2.2 hr, sA_some hk h2.1 h2.2 hr]
        obtain ⟨k, rfl⟩ : ∃ k : Nat, r = k := ⟨r.toNat, by omega⟩
        rw [Int.toNat_natCast]
        exact set_yes h hn k x hx hk (by omega) (by omega)
      · exact none (by rw [gB_some hk, decide_eq_false h2])

end Go.Proofs.YtoeemngekioldaaDoor.Fs
