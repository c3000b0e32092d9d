/- The document's own store: where a file is; Get. -/
import Derived.Test.YtoeemngekioldaaDoorFsGet
namespace Go.Proofs.YtoeemngekioldaaDoor.Fs
open Go.RowKit Go.Maps
open Go.Proofs.YtoeemngekioldaaDoor.Fl (R4 z4 K4 rec4 rat goodF goodFB okR okL file arr4 sto4 sto4_row sto4_below row_cell row_frozen at4)
open Go.Proofs.YtoeemngekioldaaDoor.Rw (Rd Ow At)
set_option maxRecDepth 100000

theorem ret_i {a b : Int} (h : a = b) : Ending.returned (.int .i64 a) = .returned (.int .i64 b) := by rw [h]
theorem at3 {w : World} {b off : Nat} {L : List Ent} (h : At E3 w b off L) {i : Nat} {c : Ent} (hc : L[i]? = some c) :
    w.cell? ⟨b, off + i * 3, none⟩ = some (.int .i64 c.n) ∧ w.cell? ⟨b, off + i * 3 + 1, none⟩ = some (.int .i64 c.p) ∧ w.cell? ⟨b, off + i * 3 + 2, none⟩ = some c.sl := by
  have hi := (List.getElem?_eq_some_iff.1 hc).1
  have e : L.getD i E3.dft = c := by rw [List.getD_eq_getElem?_getD, hc]; rfl
  exact ⟨h i hi 0 _ (by rw [e]; rfl), h i hi 1 _ (by rw [e]; rfl), h i hi 2 _ (by rw [e]; rfl)⟩
/-- Where the file n is in the list; below 0: nowhere. -/
def Ix (L : List Ent) (n q : Int) : Prop := (q = -1 ∧ ∀ x ∈ L, x.n ≠ n) ∨ ∃ i : Nat, ∃ c, q = i ∧ L[i]? = some c ∧ c.n = n ∧ ∀ j, j < i → ∀ e, L[j]? = some e → e.n ≠ n
theorem ix_none {L : List Ent} {n : Int} (h : look Ent.n n L = none) : Ix L n (-1) := .inl ⟨rfl, look_none.1 h⟩
theorem ix_some {L : List Ent} {n : Int} {c : Ent} (hs : Srt Ent.n L) (h : look Ent.n n L = some c) : ∃ i : Nat, L[i]? = some c ∧ Ix L n i := by
  obtain ⟨hm, hn⟩ := look_some h
  obtain ⟨i, hi⟩ := List.getElem?_of_mem hm
  refine ⟨i, hi, .inr ⟨i, c, rfl, hi, hn, fun j hj e he => ?_⟩⟩
  obtain ⟨hi1, hi2⟩ := List.getElem?_eq_some_iff.1 hi
  obtain ⟨hj1, hj2⟩ := List.getElem?_eq_some_iff.1 he
  have := List.pairwise_iff_getElem.1 hs j i hj1 hi1 hj
  rw [hi2, hj2] at this
  omega
set_option maxHeartbeats 1000000 in
theorem rix_any {w : World} {r : Nat} {F : Nat → Prop} {v : Value} {L : List Ent} {d : Int} (R : Rst w r F v L d) {n q : Int} (hq : Ix L n q) :
    Calls Tryd.prog 24 #[.pointer (some ⟨r, 0, none⟩), .int .i64 n] w fun e w' => e = .returned (.int .i64 q) ∧ Below w.heap.size w w' := by
  have c0 : w.cell? ⟨r, 0, none⟩ = some v := row_cell R.row 0
  have hlen := R.len
  obtain ⟨a, cap, rfl, _, _, h3⟩ := R.list.rd
  have H3 := Lib.hid h3
  have HQ := Lib.hid hq
  clear R h3 hq
  generalize hn : L.length = N at *
  have HN := Lib.hid hn
  have C0 := Lib.hid c0
  clear hn c0
  go_enter Tryd.func24, Tryd.ntmps24
  go_wp2
  go_loopw [5] (fun i wr => ∃ k : Nat, k ≤ N ∧ i = .int .i64 k ∧ Hid (∀ j, j < k → ∀ e, L[j]? = some e → e.n ≠ n) ∧ Hid (Below w.heap.size w wr)) (fun i _ => N - (intOf i).toNat)
  case atStart => exact ⟨0, Nat.zero_le _, rfl, fun j hj => by omega, Below.refl _ _⟩
  case round =>
    obtain ⟨k, hk, rfl, hb, B⟩ := hrel
    have c0 := (B.out.cell (World.block_lt_of_cell? _ _ C0.out)).trans C0.out
    by_cases hlt : k < N
    · have hkL : k < L.length := by have := HN.out; omega
      obtain ⟨c, hc⟩ : ∃ c, L[k]? = some c := ⟨_, List.getElem?_eq_getElem hkL⟩
      obtain ⟨b, off, rfl, hA⟩ := H3.out (by omega)
      obtain ⟨x0, _, _⟩ := at3 (hA.below B.out) hc
      by_cases he : c.n = n
      · have E : Hid (q = k) := by
          rcases HQ.out with ⟨_, h⟩ | ⟨i, c', e1, h1, h2, h3⟩
          · exact absurd he (h c (List.mem_of_getElem? hc))
          · have : i = k := by
              rcases Nat.lt_trichotomy i k with h | h | h
              · exact absurd h2 (hb.out i h c' h1)
              · exact h
              · exact absurd he (h3 k h c hc)
            show q = k
            rw [e1, this]
        clear hc hkL hA
        generalize c.n = cn at *
        subst he
        go_wp2
        go_ret
        exact ⟨ret_i E.out.symm, B.out⟩
      · have NB : Hid (∀ j, j < k + 1 → ∀ e, L[j]? = some e → e.n ≠ n) := fun j hj e hje => by
          by_cases ej : j = k
          · subst ej
            rw [hc] at hje
            obtain rfl := Option.some.inj hje
            exact he
          · exact hb.out j (by omega) e hje
        clear hc hkL hA
        generalize c.n = cn at *
        go_wp2
        go_roundw
        case rel => exact ⟨k + 1, by omega, by go_num, NB, B⟩
        case measure => simp [intOf]; omega
    · obtain rfl : k = N := by omega
      have E : Hid (q = -1) := by
        rcases HQ.out with ⟨h, _⟩ | ⟨i, c', e1, h1, h2, h3⟩
        · exact h
        · have := (List.getElem?_eq_some_iff.1 h1).1
          exact absurd h2 (hb.out i (by have := HN.out; omega) c' h1)
      go_wp2
      go_ret
      exact ⟨ret_i E.out.symm, B.out⟩

set_option maxHeartbeats 1000000 in
theorem rget_none {w : World} {r : Nat} {F : Nat → Prop} {v : Value} {L : List Ent} {d : Int} (R : Rst w r F v L d) {n : Int} (k : Int) (hq : Ix L n (-1)) :
    Calls Tryd.prog 15 #[.pointer (some ⟨r, 0, none⟩), .int .i64 n, .int .i64 k] w (GetPost w z4 false) := by
  obtain ⟨h1, hB, hz⟩ := one_rec w
  have H1 := Lib.hid h1
  have HB := Lib.hid hB
  have HZ := Lib.hid hz
  have RR := Lib.hid R
  have HX := Lib.hid (rix_any (R.below hB) hq)
  clear h1 hB hz R hq RR
  unfold arr4 z4 at H1 HB HZ HX
  go_enter Tryd.func15, Tryd.ntmps15
  go_wp2_with fail
  generalize (w.alloc (.cells #[.int .u8 0, .int .u8 0, .int .u8 0, .int .u8 0] 32)) = W at *
  refine HX.out.mono ?_
  rintro e w1 ⟨rfl, b1⟩
  have hz := HZ.out
  have G : w1.heap[w.heap.size]? = some (.cells (arr4 z4) 32 (0, 0)) := (b1.block _ (by omega)).trans H1.out
  have B1 := Lib.hid (HB.out.trans (b1.mono HB.out.size))
  have d0 : w1.cell? ⟨w.heap.size, 0, none⟩ = some (.int .u8 0) := row_cell G 0
  have d1 : w1.cell? ⟨w.heap.size, 1, none⟩ = some (.int .u8 0) := row_cell G 1
  have d2 : w1.cell? ⟨w.heap.size, 2, none⟩ = some (.int .u8 0) := row_cell G 2
  have d3 : w1.cell? ⟨w.heap.size, 3, none⟩ = some (.int .u8 0) := row_cell G 3
  have k0 := row_frozen G 0
  have k1 := row_frozen G 1
  have k2 := row_frozen G 2
  have k3 := row_frozen G 3
  have R2 := Lib.hid (sto4_row G z4)
  have B2 := Lib.hid (sto4_below (o := 0) (r := z4) B1.out (show w.heap.size ≤ w.heap.size by omega))
  clear b1 HX HB H1 HZ hz G B1
  go_wp2
  (try simp only [Exit.inBlock, Exit.then])
  exact bodyPost_ret (results_rec (p := 6) (r := 7) rfl _ _ w.heap.size z4 (.bool false) rfl rfl R2.out) rfl ⟨rfl, B2.out⟩

set_option maxHeartbeats 1000000 in
theorem rget_no {w : World} {r : Nat} {F : Nat → Prop} {v : Value} {L : List Ent} {d : Int} (R : Rst w r F v L d) {n : Int} (k : Int) {i : Nat} {c : Ent} (hi : L[i]? = some c) (hq : Ix L n i) (hk : ¬ (0 ≤ k ∧ k < c.l.length)) :
    Calls Tryd.prog 15 #[.pointer (some ⟨r, 0, none⟩), .int .i64 n, .int .i64 k] w (GetPost w z4 false) := by
  obtain ⟨h1, hB, hz⟩ := one_rec w
  have H1 := Lib.hid h1
  have HB := Lib.hid hB
  have HZ := Lib.hid hz
  have RR := Lib.hid R
  have HX := Lib.hid (rix_any (R.below hB) hq)
  have hlen := R.len
  have hiL := (List.getElem?_eq_some_iff.1 hi).1
  obtain ⟨a, cap, rfl, _, _, h3⟩ := R.list.rd
  obtain ⟨b, off, rfl, hA⟩ := h3 (by omega)
  have A3 := Lib.hid (at3 hA hi)
  have FR := Lib.hid (R.list.file c (List.mem_of_getElem? hi))
  have CR := Lib.hid (row_cell R.row 0)
  have hlt : i < L.length := hiL
  obtain ⟨cn, cp, ca, cc, cl⟩ := c
  unfold Ent.sl at A3 FR
  simp only at *
  have HK := Lib.hid hk
  clear hk
  generalize hcl : cl.length = q at *
  clear hcl FR
  clear h1 hB hz R hq h3 hA hi RR hiL
  generalize L.length = N at *
  unfold arr4 z4 at H1 HB HZ HX
  go_enter Tryd.func15, Tryd.ntmps15
  go_wp2_with fail
  generalize (w.alloc (.cells #[.int .u8 0, .int .u8 0, .int .u8 0, .int .u8 0] 32)) = W at *
  refine HX.out.mono ?_
  rintro e w1 ⟨rfl, b1⟩
  have hz := HZ.out
  have G : w1.heap[w.heap.size]? = some (.cells (arr4 z4) 32 (0, 0)) := (b1.block _ (by omega)).trans H1.out
  have B1 := Lib.hid (HB.out.trans (b1.mono HB.out.size))
  have CELL := Lib.hid (fun (p : Addr) (u : Value) (h : w.cell? p = some u) => (B1.out.cell (World.block_lt_of_cell? _ _ h)).trans h)
  have c0 : w1.cell? ⟨r, 0, none⟩ = some (.slice (some ⟨b, off, none⟩) N cap) := CELL.out _ _ CR.out
  have c2 := CELL.out _ _ A3.out.2.2
  have d0 : w1.cell? ⟨w.heap.size, 0, none⟩ = some (.int .u8 0) := row_cell G 0
  have d1 : w1.cell? ⟨w.heap.size, 1, none⟩ = some (.int .u8 0) := row_cell G 1
  have d2 : w1.cell? ⟨w.heap.size, 2, none⟩ = some (.int .u8 0) := row_cell G 2
  have d3 : w1.cell? ⟨w.heap.size, 3, none⟩ = some (.int .u8 0) := row_cell G 3
  have k0 := row_frozen G 0
  have k1 := row_frozen G 1
  have k2 := row_frozen G 2
  have k3 := row_frozen G 3
  by_cases hk0 : k < 0
  · have R2 := Lib.hid (sto4_row G z4)
    have B2 := Lib.hid (sto4_below (o := 0) (r := z4) B1.out (show w.heap.size ≤ w.heap.size by omega))
    clear b1 HX HB H1 HZ hz G B1 CELL A3 CR
    go_wp2
    (try simp only [Exit.inBlock, Exit.then])
    exact bodyPost_ret (results_rec (p := 6) (r := 7) rfl _ _ w.heap.size z4 (.bool false) rfl rfl R2.out) rfl ⟨rfl, B2.out⟩
  · have hkq : (q : Int) ≤ k := by have := HK.out; omega
    have R2 := Lib.hid (sto4_row G z4)
    have B2 := Lib.hid (sto4_below (o := 0) (r := z4) B1.out (show w.heap.size ≤ w.heap.size by omega))
    clear b1 HX HB H1 HZ hz G B1 CELL A3 CR
    go_wp2
    (try simp only [Exit.inBlock, Exit.then])
    exact bodyPost_ret (results_rec (p := 6) (r := 7) rfl _ _ w.heap.size z4 (.bool false) rfl rfl R2.out) rfl ⟨rfl, B2.out⟩

set_option maxHeartbeats 1000000 in
theorem rget_yes {w : World} {r : Nat} {F : Nat → Prop} {v : Value} {L : List Ent} {d : Int} (R : Rst w r F v L d) {n : Int} (k : Nat) {i : Nat} {c : Ent} (hi : L[i]? = some c) (hq : Ix L n i) (hk : k < c.l.length) :
    Calls Tryd.prog 15 #[.pointer (some ⟨r, 0, none⟩), .int .i64 n, .int .i64 (k : Int)] w (GetPost w (rat c.l k) true) := by
  obtain ⟨h1, hB, hz⟩ := one_rec w
  have H1 := Lib.hid h1
  have HB := Lib.hid hB
  have HZ := Lib.hid hz
  have RR := Lib.hid R
  have HX := Lib.hid (rix_any (R.below hB) hq)
  have hlen := R.len
  have hiL := (List.getElem?_eq_some_iff.1 hi).1
  obtain ⟨a, cap, rfl, _, _, h3⟩ := R.list.rd
  obtain ⟨b, off, rfl, hA⟩ := h3 (by omega)
  have A3 := Lib.hid (at3 hA hi)
  have FR := Lib.hid (R.list.file c (List.mem_of_getElem? hi))
  have CR := Lib.hid (row_cell R.row 0)
  have hlt : i < L.length := hiL
  obtain ⟨cn, cp, ca, cc, cl⟩ := c
  unfold Ent.sl at A3 FR
  simp only at *
  have hk0 : k < cl.length := hk
  obtain ⟨fa, fcap, ef, _, _, f3⟩ := FR.out
  obtain ⟨fb, fo, ef2, fA⟩ := f3 (by omega)
  obtain ⟨rfl, rfl⟩ : ca = some ⟨fb, fo, none⟩ ∧ cc = fcap := by injection ef with e1 _ e3; exact ⟨e1.trans ef2, e3⟩
  have F4 := Lib.hid (at4 fA k hk0)
  clear ef ef2 f3 fA FR hk
  generalize rat cl k = y at *
  generalize hcl : cl.length = q at *
  clear hcl
  clear h1 hB hz R hq h3 hA hi RR hiL
  generalize L.length = N at *
  unfold arr4 z4 at H1 HB HZ HX
  go_enter Tryd.func15, Tryd.ntmps15
  go_wp2_with fail
  generalize (w.alloc (.cells #[.int .u8 0, .int .u8 0, .int .u8 0, .int .u8 0] 32)) = W at *
  refine HX.out.mono ?_
  rintro e w1 ⟨rfl, b1⟩
  have hz := HZ.out
  have G : w1.heap[w.heap.size]? = some (.cells (arr4 z4) 32 (0, 0)) := (b1.block _ (by omega)).trans H1.out
  have B1 := Lib.hid (HB.out.trans (b1.mono HB.out.size))
  have CELL := Lib.hid (fun (p : Addr) (u : Value) (h : w.cell? p = some u) => (B1.out.cell (World.block_lt_of_cell? _ _ h)).trans h)
  have c0 : w1.cell? ⟨r, 0, none⟩ = some (.slice (some ⟨b, off, none⟩) N cap) := CELL.out _ _ CR.out
  have c2 := CELL.out _ _ A3.out.2.2
  have d0 : w1.cell? ⟨w.heap.size, 0, none⟩ = some (.int .u8 0) := row_cell G 0
  have d1 : w1.cell? ⟨w.heap.size, 1, none⟩ = some (.int .u8 0) := row_cell G 1
  have d2 : w1.cell? ⟨w.heap.size, 2, none⟩ = some (.int .u8 0) := row_cell G 2
  have d3 : w1.cell? ⟨w.heap.size, 3, none⟩ = some (.int .u8 0) := row_cell G 3
  have k0 := row_frozen G 0
  have k1 := row_frozen G 1
  have k2 := row_frozen G 2
  have k3 := row_frozen G 3
  obtain ⟨y0, y1, y2, y3⟩ := F4.out
  have q0 := CELL.out _ _ y0
  have q1 := CELL.out _ _ y1
  have q2 := CELL.out _ _ y2
  have q3 := CELL.out _ _ y3
  clear y0 y1 y2 y3 F4
  have R2 := Lib.hid (sto4_row G y)
  have B2 := Lib.hid (sto4_below (o := 0) (r := y) B1.out (show w.heap.size ≤ w.heap.size by omega))
  clear b1 HX HB H1 HZ hz G B1 CELL A3 CR
  go_wp2
  (try simp only [Exit.inBlock, Exit.then])
  exact bodyPost_ret (results_rec (p := 6) (r := 7) rfl _ _ w.heap.size y (.bool true) rfl rfl R2.out) rfl ⟨rfl, B2.out⟩

theorem srtL {L : List Ent} (h : OkA (L.map Ent.abs)) : Srt Ent.n L := (map_srt (κ := Ent.n) (κ' := key) abs_key).1 h.srt
theorem rget_any {w : World} {r : Nat} {F : Nat → Prop} {v : Value} {L : List Ent} {d : Int} (R : Rst w r F v L d) (n k : Int) :
    Calls Tryd.prog 15 #[.pointer (some ⟨r, 0, none⟩), .int .i64 n, .int .i64 k] w (GetPost w (gV (L.map Ent.abs) n k) (gB (L.map Ent.abs) n k)) := by
  cases hk : look Ent.n n L with
  | none =>
    rw [gV_none hk, gB_none hk]
    exact rget_none R k (ix_none hk)
  | some c =>
    obtain ⟨i, hi, hq⟩ := ix_some (srtL R.ok) hk
    by_cases hr : 0 ≤ k ∧ k < c.l.length
    · obtain ⟨j, rfl⟩ : ∃ j : Nat, k = j := ⟨k.toNat, by omega⟩
      rw [gV_some hk, gB_some hk, if_pos hr, decide_eq_true hr, Int.toNat_natCast]
      exact rget_yes R j hi hq (by omega)
    · rw [gV_some hk, gB_some hk, if_neg hr, decide_eq_false hr]
      exact rget_no R k hi hq hr

end Go.Proofs.YtoeemngekioldaaDoor.Fs
