/- The document's own store: Do. -/
import Derived.Test.YtoeemngekioldaaDoorFsRset
import Derived.Test.YtoeemngekioldaaDoorFsDo
import Derived.Test.YtoeemngekioldaaDoorFlRdo
import Derived.Test.YtoeemngekioldaaDoorSf
namespace Go.Proofs.YtoeemngekioldaaDoor.Fs
open Go.RowKit Go.Maps
open Go.Proofs.YtoeemngekioldaaDoor.Fl (R4 z4 K4 rec4 rat goodF goodFB okR okL doE newR file arr4 sto2 sto4 sto2_row sto2_other sto2_below sto2_size sto2_off sto4_row sto4_other sto4_below sto4_size sto4_off row_cell row_frozen rdo_any)
open Go.Proofs.YtoeemngekioldaaDoor.Ad (goodB)
open Go.Proofs.YtoeemngekioldaaDoor.Rw (Rd Ow At)
set_option maxRecDepth 100000
attribute [local irreducible] Sd.wpSd wpQuiet Sf.wpSf

theorem rdo_err (w : World) (p : Int) (v : Value) (l : List R4) (R : Rd K4 w v l) (hl : okL l) (o r k : Int) (x : R4) (he : doE p l o r = k) (hk : k ≠ 0) : Calls Tryd.prog 31 #[file p v, .int .i64 o, .int .i64 r, rec4 x] w fun e w' => ∃ a cap, e = .returned (.tuple #[file 0 (.slice a 0 cap), rec4 z4, .int .i64 k]) ∧ Below w.heap.size w w' :=
  (rdo_any w p v l R hl o r x).mono fun e w' ⟨u, h1, h2, h3⟩ => by
    rw [he, if_neg hk] at h2
    obtain ⟨a, cap, rfl, _⟩ := h2.slice
    rw [he, if_neg hk, if_neg hk] at h1
    exact ⟨a, cap, h1, h3⟩
theorem rdo_ok (w : World) (p : Int) (v : Value) (l : List R4) (R : Rd K4 w v l) (hl : okL l) (o r : Int) (x : R4) (he : doE p l o r = 0) : Calls Tryd.prog 31 #[file p v, .int .i64 o, .int .i64 r, rec4 x] w fun e w' => ∃ a cap, e = .returned (.tuple #[file p (.slice a l.length cap), rec4 (newR l o r x), .int .i64 0]) ∧ Ow K4 w' w.heap.size 32 (.slice a l.length cap) (l.set r.toNat (newR l o r x)) ∧ Below w.heap.size w w' :=
  (rdo_any w p v l R hl o r x).mono fun e w' ⟨u, h1, h2, h3⟩ => by
    rw [he, if_pos rfl] at h2
    obtain ⟨a, cap, rfl, _⟩ := h2.slice
    rw [List.length_set] at h1 h2
    rw [he, if_pos rfl, if_pos rfl] at h1
    exact ⟨a, cap, h1, h2, h3⟩
def RDPost (w : World) (r : Nat) (F : Nat → Prop) (d : Int) (y : R4) (k : Int) (A' : Abs) (e : Ending) (w' : World) : Prop := e = .returned (.tuple #[rec4 y, .int .i64 k]) ∧ Rs w' r F A' d ∧ Only (fun k => k = r) w w'

set_option maxHeartbeats 1000000 in
theorem rdos_1 (w : World) (s : Nat) (o f j : Int) (x : R4) (hn : goodB o f j = false) : Calls Tryd.prog 13 #[.pointer (some ⟨s, 0, none⟩), Ad.addr o f j, rec4 x] w (DoNo w 1) := by
  have A0 := ask0_of w o f j x
  have S0 : Hid (Ask0 w o f j x (((w.alloc (.cells #[.int .i64 o, .int .i64 f, .int .i64 j] 30)).alloc (.cells #[.int .u8 x.1, .int .u8 x.2.1, .int .u8 x.2.2.1, .int .u8 x.2.2.2] 32)).alloc (.cells #[.int .u8 0, .int .u8 0, .int .u8 0, .int .u8 0] 32))) := A0
  have GA : ∀ W, Calls Tryd.prog 30 #[Ad.addr o f j] W fun e w' => e = .returned (.bool false) ∧ Below W.heap.size W w' := fun W => by have := Ad.rgood_any W o f j; rwa [hn] at this
  have HG := Lib.hid GA
  clear A0 GA hn
  unfold rec4
  unfold Ad.addr at *
  have AC := S0.out
  have a0 := row_cell AC.adr 0
  have a1 := row_cell AC.adr 1
  have a2 := row_cell AC.adr 2
  clear AC
  go_enter Tryd.func13, Tryd.ntmps13
  go_wp2_with fail
  clear a0 a1 a2
  generalize (((w.alloc (.cells #[.int .i64 o, .int .i64 f, .int .i64 j] 30)).alloc (.cells #[.int .u8 x.1, .int .u8 x.2.1, .int .u8 x.2.2.1, .int .u8 x.2.2.2] 32)).alloc (.cells #[.int .u8 0, .int .u8 0, .int .u8 0, .int .u8 0] 32)) = W at *
  refine (HG.out _).mono ?_
  rintro e w1 ⟨rfl, b1⟩
  have S1 := Lib.hid (S0.out.mono b1)
  clear b1 HG S0
  have d0 : w1.cell? ⟨w.heap.size + 2, 0, none⟩ = some (.int .u8 0) := row_cell S1.out.res 0
  have d1 : w1.cell? ⟨w.heap.size + 2, 1, none⟩ = some (.int .u8 0) := row_cell S1.out.res 1
  have d2 : w1.cell? ⟨w.heap.size + 2, 2, none⟩ = some (.int .u8 0) := row_cell S1.out.res 2
  have d3 : w1.cell? ⟨w.heap.size + 2, 3, none⟩ = some (.int .u8 0) := row_cell S1.out.res 3
  have k0 := row_frozen S1.out.res 0
  have k1 := row_frozen S1.out.res 1
  have k2 := row_frozen S1.out.res 2
  have k3 := row_frozen S1.out.res 3
  have R3 := Lib.hid (sto4_row S1.out.res z4)
  have B3 := Lib.hid (sto4_below (o := 0) (r := z4) S1.out.bel (show w.heap.size ≤ w.heap.size + 2 by omega))
  clear S1
  go_wp2
  (try simp only [Exit.inBlock, Exit.then])
  exact bodyPost_ret (results_rec (p := 6) (r := 7) rfl _ _ (w.heap.size + 2) z4 (.int .i64 1) rfl rfl R3.out) rfl ⟨rfl, B3.out⟩
set_option maxHeartbeats 1000000 in
theorem rdos_3 {w : World} {r : Nat} {F : Nat → Prop} {v : Value} {L : List Ent} {d : Int} (R : Rst w r F v L d) (o f j : Int) (x : R4) (hn : goodB o f j = true) (hq : Ix L f (-1)) : Calls Tryd.prog 13 #[.pointer (some ⟨r, 0, none⟩), Ad.addr o f j, rec4 x] w (DoNo w 3) := by
  have IX := Lib.hid (fun W (hb : Below w.heap.size w W) => rix_any (R.below hb) hq)
  clear hq R
  have A0 := ask0_of w o f j x
  have S0 : Hid (Ask0 w o f j x (((w.alloc (.cells #[.int .i64 o, .int .i64 f, .int .i64 j] 30)).alloc (.cells #[.int .u8 x.1, .int .u8 x.2.1, .int .u8 x.2.2.1, .int .u8 x.2.2.2] 32)).alloc (.cells #[.int .u8 0, .int .u8 0, .int .u8 0, .int .u8 0] 32))) := A0
  have GA : ∀ W, Calls Tryd.prog 30 #[Ad.addr o f j] W fun e w' => e = .returned (.bool true) ∧ Below W.heap.size W w' := fun W => by have := Ad.rgood_any W o f j; rwa [hn] at this
  have HG := Lib.hid GA
  clear A0 GA hn
  unfold rec4
  unfold Ad.addr at *
  have AC := S0.out
  have a0 := row_cell AC.adr 0
  have a1 := row_cell AC.adr 1
  have a2 := row_cell AC.adr 2
  clear AC
  go_enter Tryd.func13, Tryd.ntmps13
  go_wp2_with fail
  clear a0 a1 a2
  generalize (((w.alloc (.cells #[.int .i64 o, .int .i64 f, .int .i64 j] 30)).alloc (.cells #[.int .u8 x.1, .int .u8 x.2.1, .int .u8 x.2.2.1, .int .u8 x.2.2.2] 32)).alloc (.cells #[.int .u8 0, .int .u8 0, .int .u8 0, .int .u8 0] 32)) = W at *
  refine (HG.out _).mono ?_
  rintro e w1 ⟨rfl, b1⟩
  have S1 := Lib.hid (S0.out.mono b1)
  clear b1 HG S0
  have a1 : w1.cell? ⟨w.heap.size, 1, none⟩ = some (.int .i64 f) := row_cell S1.out.adr 1
  go_wp2_with fail
  refine (IX.out _ S1.out.bel).mono ?_
  rintro e w2 ⟨rfl, b2⟩
  have S2 := Lib.hid (S1.out.mono b2)
  clear b2 IX S1 a1
  have d0 : w2.cell? ⟨w.heap.size + 2, 0, none⟩ = some (.int .u8 0) := row_cell S2.out.res 0
  have d1 : w2.cell? ⟨w.heap.size + 2, 1, none⟩ = some (.int .u8 0) := row_cell S2.out.res 1
  have d2 : w2.cell? ⟨w.heap.size + 2, 2, none⟩ = some (.int .u8 0) := row_cell S2.out.res 2
  have d3 : w2.cell? ⟨w.heap.size + 2, 3, none⟩ = some (.int .u8 0) := row_cell S2.out.res 3
  have k0 := row_frozen S2.out.res 0
  have k1 := row_frozen S2.out.res 1
  have k2 := row_frozen S2.out.res 2
  have k3 := row_frozen S2.out.res 3
  have R3 := Lib.hid (sto4_row S2.out.res z4)
  have B3 := Lib.hid (sto4_below (o := 0) (r := z4) S2.out.bel (show w.heap.size ≤ w.heap.size + 2 by omega))
  clear S2
  go_wp2
  (try simp only [Exit.inBlock, Exit.then])
  exact bodyPost_ret (results_rec (p := 6) (r := 7) rfl _ _ (w.heap.size + 2) z4 (.int .i64 3) rfl rfl R3.out) rfl ⟨rfl, B3.out⟩
set_option maxHeartbeats 4000000 in
theorem rdos_err {w : World} {r : Nat} {F : Nat → Prop} {v : Value} {L : List Ent} {d : Int} (R : Rst w r F v L d) (o f j k : Int) (x : R4) (hn : goodB o f j = true) {i : Nat} {c : Ent} (hi : L[i]? = some c) (hq : Ix L f i) (he : doE c.p c.l o j = k) (h0 : k ≠ 0) (hd : 0 ≤ d ∧ d < 1000000) (d' : Int) (hd' : d' = if k = 5 then d + 1 else d) :
    Calls Tryd.prog 13 #[.pointer (some ⟨r, 0, none⟩), Ad.addr o f j, rec4 x] w (RDPost w r F d' z4 k (L.map Ent.abs)) := by
  have IX := Lib.hid (fun W (hb : Below w.heap.size w W) => rix_any (R.below hb) hq)
  have RR := Lib.hid R
  have hlen := R.len
  have hil : i < L.length := (List.getElem?_eq_some_iff.1 hi).1
  have hrl : r < w.heap.size := lt_of_block R.row
  have hmem := List.mem_of_getElem? hi
  have hcm : c.abs ∈ L.map Ent.abs := List.mem_map_of_mem hmem
  have FR := Lib.hid (R.list.file c hmem)
  have FO := Lib.hid (R.list.foff c hmem)
  have OKC := Lib.hid (R.ok.ok _ hcm)
  have HI := Lib.hid hi
  obtain ⟨va, vcap, rfl, _, _, h3⟩ := R.list.rd
  obtain ⟨b, off, rfl, hA⟩ := h3 (by omega)
  have A3 := Lib.hid (at3 hA hi)
  have CR := Lib.hid (row_cell R.row 0)
  have A0 := ask0_of w o f j x
  have S0 : Hid (Ask0 w o f j x (((w.alloc (.cells #[.int .i64 o, .int .i64 f, .int .i64 j] 30)).alloc (.cells #[.int .u8 x.1, .int .u8 x.2.1, .int .u8 x.2.2.1, .int .u8 x.2.2.2] 32)).alloc (.cells #[.int .u8 0, .int .u8 0, .int .u8 0, .int .u8 0] 32))) := A0
  have GA : ∀ W, Calls Tryd.prog 30 #[Ad.addr o f j] W fun e w' => e = .returned (.bool true) ∧ Below W.heap.size W w' := fun W => by have := Ad.rgood_any W o f j; rwa [hn] at this
  have HG := Lib.hid GA
  clear A0 GA hn
  have DO := Lib.hid (fun W (hb : Below w.heap.size w W) => rdo_err W c.p c.sl c.l (FR.out.below hb) OKC.out o j k x he h0)
  have hk1 : (k == 0) = false := by simpa using h0
  have HD := Lib.hid hd'
  have W0 : IntKind.i64.wrap (d + 1) = d + 1 := IntWalk.i64_in _ (by omega)
  clear R hi hq h3 hA hmem hcm he h0 hd hd' FR FO
  unfold Ent.sl at A3 DO
  generalize hN : L.length = N at *
  have HN := Lib.hid hN
  generalize hQ : c.l.length = q at *
  clear hN hQ
  unfold file rec4 at DO
  unfold rec4
  unfold Ad.addr at *
  have AC := S0.out
  have a0 := row_cell AC.adr 0
  have a1 := row_cell AC.adr 1
  have a2 := row_cell AC.adr 2
  clear AC
  go_enter Tryd.func13, Tryd.ntmps13
  go_wp2_with fail
  clear a0 a1 a2
  generalize (((w.alloc (.cells #[.int .i64 o, .int .i64 f, .int .i64 j] 30)).alloc (.cells #[.int .u8 x.1, .int .u8 x.2.1, .int .u8 x.2.2.1, .int .u8 x.2.2.2] 32)).alloc (.cells #[.int .u8 0, .int .u8 0, .int .u8 0, .int .u8 0] 32)) = W at *
  refine (HG.out _).mono ?_
  rintro e w1 ⟨rfl, b1⟩
  have S1 := Lib.hid (S0.out.mono b1)
  clear b1 HG S0
  have a1 : w1.cell? ⟨w.heap.size, 1, none⟩ = some (.int .i64 f) := row_cell S1.out.adr 1
  go_wp2_with fail
  refine (IX.out _ S1.out.bel).mono ?_
  rintro e w2 ⟨rfl, b2⟩
  have S2 := Lib.hid (S1.out.mono b2)
  clear b2 IX S1 a1
  have hi0 : ¬ ((i : Int) < 0) := by omega
  go_wp2_with fail
  have CELL := Lib.hid (fun (p : Addr) (u : Value) (h : w.cell? p = some u) => (S2.out.bel.cell (World.block_lt_of_cell? _ _ h)).trans h)
  have s0 := Sd.cell_by (show w2.cell? ⟨r, 0, none⟩ = some (.slice (some ⟨b, off, none⟩) N vcap) from CELL.out _ _ CR.out)
  have s1 := Sd.cell_by (CELL.out _ _ A3.out.2.1)
  have s2 := Sd.cell_by (show w2.cell? ⟨b, off + i * 3 + 2, none⟩ = some (.slice c.a q c.cap) from CELL.out _ _ A3.out.2.2)
  have s3 := Sd.cell_by (show w2.cell? ⟨w.heap.size, 0, none⟩ = some (.int .i64 o) from row_cell S2.out.adr 0)
  have s4 := Sd.cell_by (show w2.cell? ⟨w.heap.size, 2, none⟩ = some (.int .i64 j) from row_cell S2.out.adr 2)
  have s5 := Sd.cell_by (show w2.cell? ⟨w.heap.size + 1, 0, none⟩ = some (.int .u8 x.1) from row_cell S2.out.arg 0)
  have s6 := Sd.cell_by (show w2.cell? ⟨w.heap.size + 1, 1, none⟩ = some (.int .u8 x.2.1) from row_cell S2.out.arg 1)
  have s7 := Sd.cell_by (show w2.cell? ⟨w.heap.size + 1, 2, none⟩ = some (.int .u8 x.2.2.1) from row_cell S2.out.arg 2)
  have s8 := Sd.cell_by (show w2.cell? ⟨w.heap.size + 1, 3, none⟩ = some (.int .u8 x.2.2.2) from row_cell S2.out.arg 3)
  refine Sf.start [(0, 0), (0, 1), (0, 2), (0, 3), (0, 4), (0, 5), (0, 6), (0, 7), (0, 8), (0, 9), (0, 10), (0, 11), (0, 12), (1, 13), (0, 14), (0, 15), (0, 16), (0, 17), (2, 18), (2, 19), (1, 20), (1, 21), (0, 22)] [⟨18, 9, #[.int .i64 0, .slice none 0 0], 35⟩, ⟨19, 10, #[.int .u8 0, .int .u8 0, .int .u8 0, .int .u8 0], 32⟩] (by kernel_rfl) (by kernel_rfl) (by kernel_rfl) (by decide) (by decide) ?_ ?_ ?_
  · simp
  · intro f hf
    simp only [List.mem_cons, List.not_mem_nil, or_false] at hf
    rcases hf with rfl | rfl
    · exact ⟨_, rfl, rfl, rfl, fun ρ w => by go_simp⟩
    · exact ⟨_, rfl, rfl, rfl, fun ρ w => by go_simp⟩
  dsimp only [Sf.picks, List.getElem?_cons_succ, List.getElem?_cons_zero]
  have BW := Lib.hid ((Below.refl w2.heap.size w2).drew)
  repeat (refine Sf.lit (fun xs => ?_); simp only [Sf.fill, List.foldl_cons, List.foldl_nil]; quiet_step (fail); refine wpQuiet_nil ?_)
  refine Sf.call (fun xs w3 hb hc => ⟨by rfl, fun K hK => ?_⟩)
  have B3 := Lib.hid (BW.out.trans (hb.mono BW.out.size))
  clear hb hc BW s0 s1 s2 s3 s4 s5 s6 s7 s8
  simp only [Sf.fill, List.foldl_cons, List.foldl_nil]
  go_simp
  have DOW := DO.out w3 (S2.out.bel.trans (B3.out.mono S2.out.bel.size))
  refine DOW.mono ?_
  rintro e w4 ⟨ua, ucap, rfl, b4⟩
  have B4 := Lib.hid (B3.out.trans (b4.mono B3.out.size))
  refine hK _ _ (Sd.Cl.of B4.out) b4.size (fun _ => b4) ?_
  clear hK K DOW
  repeat (refine Sf.lit (fun xs => ?_); simp only [Sf.fill, List.foldl_cons, List.foldl_nil]; quiet_step (fail); refine wpQuiet_nil ?_)
  refine Sf.meet (fun g9 w5 hb hc row n9 hH hL => ?_)
  have B5 := Lib.hid (B4.out.trans (hb.mono B4.out.size))
  have R5 : Hid (w5.heap[g9]? = some (.cells #[.int .i64 0, .slice none 0 0] 35 (0, 0))) := row
  clear hb hc row hH hL B4
  refine Sf.meet (fun g10 w6 hb hc row n10 hH hL => ?_)
  have B6 := Lib.hid (B5.out.trans (hb.mono B5.out.size))
  have Q6 : Hid (w6.heap[g10]? = some (.cells (arr4 z4) 32 (0, 0))) := row
  have R6 := Lib.hid ((hb.block _ (lt_of_block R5.out)).trans R5.out)
  have D9 : g10 ≠ g9 := fun e => hL (by rw [e]; exact List.mem_cons_self ..)
  clear hb hc row hH hL B5 R5
  refine Sf.call (fun xs w7 hb hc => ⟨by rfl, fun K hK => ?_⟩)
  have B7 := Lib.hid (B6.out.trans (hb.mono B6.out.size))
  have Q7 := (hb.block _ (lt_of_block Q6.out)).trans Q6.out
  have R7 := (hb.block _ (lt_of_block R6.out)).trans R6.out
  have c0 : w7.cell? ⟨g9, 0, none⟩ = some (.int .i64 0) := row_cell R7 0
  have c1 : w7.cell? ⟨g9, 1, none⟩ = some (.slice none 0 0) := row_cell R7 1
  have f0 := row_frozen R7 0
  have f1 := row_frozen R7 1
  have R8 := Lib.hid (sto2_row R7 0 (.slice ua 0 ucap))
  have Q8 := Lib.hid (sto2_other (g := g9) (p := 0) (v := .slice ua 0 ucap) Q7 D9)
  have B8 := Lib.hid (sto2_below (p := 0) (v := .slice ua 0 ucap) B7.out n9)
  have hsz := sto2_size w7 g9 0 (.slice ua 0 ucap)
  clear hb hc B6 B7 Q6 Q7 R6 R7
  simp only [Sf.fill, List.foldl_nil]
  go_simp
  refine hK _ _ (Sd.Cl.of B8.out) (by rw [← hsz]; exact Nat.le_refl _) (fun h => absurd rfl h) ?_
  clear hK K c0 c1 f0 f1 hsz
  show Sf.wpSf _ _ _ _ _ _ _ _ _ _ (sto2 w7 g9 0 (.slice ua 0 ucap))
  generalize sto2 w7 g9 0 (.slice ua 0 ucap) = w8 at *
  refine Sf.call (fun xs w9 hb hc => ⟨by rfl, fun K hK => ?_⟩)
  have B9 := Lib.hid (B8.out.trans (hb.mono B8.out.size))
  have Q9 := (hb.block _ (lt_of_block Q8.out)).trans Q8.out
  have R9 := (hb.block _ (lt_of_block R8.out)).trans R8.out
  have c0 : w9.cell? ⟨g10, 0, none⟩ = some (.int .u8 0) := row_cell Q9 0
  have c1 : w9.cell? ⟨g10, 1, none⟩ = some (.int .u8 0) := row_cell Q9 1
  have c2 : w9.cell? ⟨g10, 2, none⟩ = some (.int .u8 0) := row_cell Q9 2
  have c3 : w9.cell? ⟨g10, 3, none⟩ = some (.int .u8 0) := row_cell Q9 3
  have f0 := row_frozen Q9 0
  have f1 := row_frozen Q9 1
  have f2 := row_frozen Q9 2
  have f3 := row_frozen Q9 3
  have QA := Lib.hid (sto4_row Q9 z4)
  have RA := Lib.hid (sto4_other (g := g10) (o := 0) (r := z4) R9 (fun e => D9 e.symm))
  have BA := Lib.hid (sto4_below (o := 0) (r := z4) B9.out n10)
  have hsz := sto4_size w9 g10 0 z4
  clear hb hc B8 B9 Q8 Q9 R8 R9
  simp only [Sf.fill, List.foldl_nil]
  go_simp
  refine hK _ _ (Sd.Cl.of BA.out) (by rw [← hsz]; exact Nat.le_refl _) (fun h => absurd rfl h) ?_
  clear hK K c0 c1 c2 c3 f0 f1 f2 f3 hsz
  show Sf.wpSf _ _ _ _ _ _ _ _ _ _ (sto4 w9 g10 0 z4)
  generalize sto4 w9 g10 0 z4 = wA at *
  repeat (refine Sf.lit (fun xs => ?_); simp only [Sf.fill, List.foldl_nil]; quiet_step (fail); refine wpQuiet_nil ?_)
  refine Sf.done (fun wB hb hc => ?_)
  have BX := Lib.hid (BA.out.trans (hb.mono BA.out.size))
  have G9 := Lib.hid ((hb.block _ (lt_of_block RA.out)).trans RA.out)
  have G10 := Lib.hid ((hb.block _ (lt_of_block QA.out)).trans QA.out)
  have S3 := Lib.hid (S2.out.mono BX.out)
  clear hb hc BA RA QA CELL
  clear G9 G10 D9 n9 n10 BX S2
  have hrow : Hid (wB.heap[r]? = _) := (S3.out.bel.block r hrl).trans RR.out.row
  by_cases h5 : k = 5
  · subst h5
    have c1 : wB.cell? ⟨r, 1, none⟩ = some (.int .i64 d) := row_cell hrow.out 1
    have f1 := row_frozen hrow.out 1
    have Rw' := Lib.hid (Rw.heap_setCell_same (j := 1) hrow.out (.int .i64 (d + 1)))
    have Rs' := Lib.hid ((Below.heap_setCell wB ⟨r, 1, none⟩ (.int .i64 (d + 1)) (w.heap.size + 2) (by show w.heap.size + 2 ≠ r; omega)).trans S3.out.res)
    have OO : Hid (Only (fun k => k = r) w (wB.setCell ⟨r, 1, none⟩ (.int .i64 (d + 1)))) := (Only.of_below S3.out.bel).trans (Only.set (fun k => k = r) wB (a := ⟨r, 1, none⟩) rfl _) fun _ _ g => g
    go_upto_region 10 with fail
    clear c1 f1 S3 hrow
    generalize wB.setCell ⟨r, 1, none⟩ (.int .i64 (d + 1)) = wC at *
    have d0 : wC.cell? ⟨w.heap.size + 2, 0, none⟩ = some (.int .u8 0) := row_cell Rs'.out 0
    have d1 : wC.cell? ⟨w.heap.size + 2, 1, none⟩ = some (.int .u8 0) := row_cell Rs'.out 1
    have d2 : wC.cell? ⟨w.heap.size + 2, 2, none⟩ = some (.int .u8 0) := row_cell Rs'.out 2
    have d3 : wC.cell? ⟨w.heap.size + 2, 3, none⟩ = some (.int .u8 0) := row_cell Rs'.out 3
    have k0 := row_frozen Rs'.out 0
    have k1 := row_frozen Rs'.out 1
    have k2 := row_frozen Rs'.out 2
    have k3 := row_frozen Rs'.out 3
    have R3 := Lib.hid (sto4_row Rs'.out z4)
    have RES : Hid (RDPost w r F d' z4 5 (L.map Ent.abs) (.returned (.tuple #[rec4 z4, .int .i64 5])) (sto4 wC (w.heap.size + 2) 0 z4)) := by
      have O9 : Only (fun k => k = r) w (sto4 wC (w.heap.size + 2) 0 z4) := OO.out.trans (Only.of_from (B := w.heap.size) (sto4_below (o := 0) (r := z4) (Below.refl w.heap.size wC) (by omega))) fun k hk g => by omega
      refine ⟨rfl, ⟨_, L, ⟨?_, RR.out.off, ⟨rd_only (G := fun k => k = r) RR.out.list.rd (fun h0 k hk e => RR.out.list.off h0 k hk (.inr e)) O9, RR.out.list.off, fun c hc => rd_only (G := fun k => k = r) (RR.out.list.file c hc) (fun h0 k hk e => RR.out.list.foff c hc h0 k hk (.inr e)) O9, RR.out.list.foff⟩, RR.out.ok⟩, rfl⟩, O9⟩
      rw [HD.out, if_pos rfl]
      have := sto4_other (g := w.heap.size + 2) (o := 0) (r := z4) Rw'.out (by omega)
      rw [this]
      simp
    clear Rs' OO Rw'
    go_wp2
    (try simp only [Exit.inBlock, Exit.then])
    exact bodyPost_ret (results_rec (p := 6) (r := 7) rfl _ _ (w.heap.size + 2) z4 (.int .i64 5) rfl rfl R3.out) rfl RES.out
  · have hk5 : (k == 5) = false := by simpa using h5
    have d0 : wB.cell? ⟨w.heap.size + 2, 0, none⟩ = some (.int .u8 0) := row_cell S3.out.res 0
    have d1 : wB.cell? ⟨w.heap.size + 2, 1, none⟩ = some (.int .u8 0) := row_cell S3.out.res 1
    have d2 : wB.cell? ⟨w.heap.size + 2, 2, none⟩ = some (.int .u8 0) := row_cell S3.out.res 2
    have d3 : wB.cell? ⟨w.heap.size + 2, 3, none⟩ = some (.int .u8 0) := row_cell S3.out.res 3
    have k0 := row_frozen S3.out.res 0
    have k1 := row_frozen S3.out.res 1
    have k2 := row_frozen S3.out.res 2
    have k3 := row_frozen S3.out.res 3
    have R3 := Lib.hid (sto4_row S3.out.res z4)
    have B3 := Lib.hid (sto4_below (o := 0) (r := z4) S3.out.bel (show w.heap.size ≤ w.heap.size + 2 by omega))
    have RES : Hid (RDPost w r F d' z4 k (L.map Ent.abs) (.returned (.tuple #[rec4 z4, .int .i64 k])) (sto4 wB (w.heap.size + 2) 0 z4)) := by
      rw [HD.out, if_neg h5]
      exact ⟨rfl, ⟨_, L, RR.out.below B3.out, rfl⟩, Only.of_below B3.out⟩
    clear S3 hrow
    go_wp2
    (try simp only [Exit.inBlock, Exit.then])
    exact bodyPost_ret (results_rec (p := 6) (r := 7) rfl _ _ (w.heap.size + 2) z4 (.int .i64 k) rfl rfl R3.out) rfl RES.out
set_option maxHeartbeats 4000000 in
theorem rdos_0 {w : World} {r : Nat} {F : Nat → Prop} {v : Value} {L : List Ent} {d : Int} (R : Rst w r F v L d) (hF : ∀ k, F k → k < w.heap.size) (o f j : Int) (x : R4) (hx : okR x) (hn : goodB o f j = true) {i : Nat} {c : Ent} (hi : L[i]? = some c) (hq : Ix L f i) (he : doE c.p c.l o j = 0) :
    Calls Tryd.prog 13 #[.pointer (some ⟨r, 0, none⟩), Ad.addr o f j, rec4 x] w (RDPost w r F d (newR c.l o j x) 0 ((L.set i (⟨c.n, c.p, none, 0, c.l.set j.toNat (newR c.l o j x)⟩ : Ent)).map Ent.abs)) := by
  have IX := Lib.hid (fun W (hb : Below w.heap.size w W) => rix_any (R.below hb) hq)
  have RR := Lib.hid R
  have hlen := R.len
  have hil : i < L.length := (List.getElem?_eq_some_iff.1 hi).1
  have hrl : r < w.heap.size := lt_of_block R.row
  have hmem := List.mem_of_getElem? hi
  have hcm : c.abs ∈ L.map Ent.abs := List.mem_map_of_mem hmem
  have FR := Lib.hid (R.list.file c hmem)
  have FO := Lib.hid (R.list.foff c hmem)
  have OKC := Lib.hid (R.ok.ok _ hcm)
  have HI := Lib.hid hi
  obtain ⟨va, vcap, rfl, _, _, h3⟩ := R.list.rd
  obtain ⟨b, off, rfl, hA⟩ := h3 (by omega)
  have A3 := Lib.hid (at3 hA hi)
  have CR := Lib.hid (row_cell R.row 0)
  have A0 := ask0_of w o f j x
  have S0 : Hid (Ask0 w o f j x (((w.alloc (.cells #[.int .i64 o, .int .i64 f, .int .i64 j] 30)).alloc (.cells #[.int .u8 x.1, .int .u8 x.2.1, .int .u8 x.2.2.1, .int .u8 x.2.2.2] 32)).alloc (.cells #[.int .u8 0, .int .u8 0, .int .u8 0, .int .u8 0] 32))) := A0
  have GA : ∀ W, Calls Tryd.prog 30 #[Ad.addr o f j] W fun e w' => e = .returned (.bool true) ∧ Below W.heap.size W w' := fun W => by have := Ad.rgood_any W o f j; rwa [hn] at this
  have HG := Lib.hid GA
  clear A0 GA hn
  have DO := Lib.hid (fun W (hb : Below w.heap.size w W) => rdo_ok W c.p c.sl c.l (FR.out.below hb) OKC.out o j x he)
  have hok : okL c.l := R.ok.ok _ hcm
  have FIN : Hid (∀ (ua : Option Addr) (uc : Nat) (v' : Value) (W : World), Only (fun k => k = r) w W → W.heap[r]? = some (.cells #[v', .int .i64 d] 28 (0, 0)) → Ow E3 W w.heap.size 56 v' (L.set i (⟨c.n, c.p, ua, uc, c.l.set j.toNat (newR c.l o j x)⟩ : Ent)) → Ow K4 W w.heap.size 32 (.slice ua c.l.length uc) (c.l.set j.toNat (newR c.l o j x)) → RDPost w r F d (newR c.l o j x) 0 ((L.set i (⟨c.n, c.p, none, 0, c.l.set j.toNat (newR c.l o j x)⟩ : Ent)).map Ent.abs) (.returned (.tuple #[rec4 (newR c.l o j x), .int .i64 0])) W) := fun ua uc v' W O row own new => by
    have e : (L.set i (⟨c.n, c.p, ua, uc, c.l.set j.toNat (newR c.l o j x)⟩ : Ent)).map Ent.abs = (L.set i (⟨c.n, c.p, none, 0, c.l.set j.toNat (newR c.l o j x)⟩ : Ent)).map Ent.abs := by rw [List.map_set, List.map_set]; rfl
    have e3 : put Ent.n (⟨c.n, c.p, none, 0, c.l.set j.toNat (newR c.l o j x)⟩ : Ent) L = L.set i (⟨c.n, c.p, none, 0, c.l.set j.toNat (newR c.l o j x)⟩ : Ent) := put_set (srtL R.ok) hi rfl
    have ok : OkA ((L.set i (⟨c.n, c.p, none, 0, c.l.set j.toNat (newR c.l o j x)⟩ : Ent)).map Ent.abs) := by
      rw [← e3, abs_put]
      exact R.ok.put (R.ok.nm _ hcm) (good_do he) (okL_set hok (okR_new hok hx))
    have new' : Ow K4 W w.heap.size 32 (⟨c.n, c.p, ua, uc, c.l.set j.toNat (newR c.l o j x)⟩ : Ent).sl (c.l.set j.toNat (newR c.l o j x)) := by unfold Ent.sl; rw [List.length_set]; exact new
    refine ⟨rfl, ⟨v', _, R.next hF O row own (fun e he => ?_) (by rw [e]; exact ok), e⟩, O⟩
    rcases List.mem_or_eq_of_mem_set he with h | rfl
    · exact .inl h
    · exact .inr (gd_new hF hrl new')
  clear R hi hq hF h3 hA hmem hcm he FR FO OKC hok hx
  unfold Ent.sl at A3 DO
  have ESL : Hid (∀ ua uc, (⟨c.n, c.p, ua, uc, c.l.set j.toNat (newR c.l o j x)⟩ : Ent).sl = .slice ua c.l.length uc) := fun ua uc => by unfold Ent.sl; rw [List.length_set]
  generalize hN : L.length = N at *
  have HN := Lib.hid hN
  generalize hQ : c.l.length = q at *
  generalize c.l.set j.toNat (newR c.l o j x) = l2 at *
  generalize newR c.l o j x = y at *
  generalize hcp : c.p = p at *
  have HCP := Lib.hid hcp
  clear hN hQ hcp
  unfold file rec4 at DO
  unfold rec4
  unfold Ad.addr at *
  have AC := S0.out
  have a0 := row_cell AC.adr 0
  have a1 := row_cell AC.adr 1
  have a2 := row_cell AC.adr 2
  clear AC
  go_enter Tryd.func13, Tryd.ntmps13
  go_wp2_with fail
  clear a0 a1 a2
  generalize (((w.alloc (.cells #[.int .i64 o, .int .i64 f, .int .i64 j] 30)).alloc (.cells #[.int .u8 x.1, .int .u8 x.2.1, .int .u8 x.2.2.1, .int .u8 x.2.2.2] 32)).alloc (.cells #[.int .u8 0, .int .u8 0, .int .u8 0, .int .u8 0] 32)) = W at *
  refine (HG.out _).mono ?_
  rintro e w1 ⟨rfl, b1⟩
  have S1 := Lib.hid (S0.out.mono b1)
  clear b1 HG S0
  have a1 : w1.cell? ⟨w.heap.size, 1, none⟩ = some (.int .i64 f) := row_cell S1.out.adr 1
  go_wp2_with fail
  refine (IX.out _ S1.out.bel).mono ?_
  rintro e w2 ⟨rfl, b2⟩
  have S2 := Lib.hid (S1.out.mono b2)
  clear b2 IX S1 a1
  have hi0 : ¬ ((i : Int) < 0) := by omega
  go_wp2_with fail
  have CELL := Lib.hid (fun (p : Addr) (u : Value) (h : w.cell? p = some u) => (S2.out.bel.cell (World.block_lt_of_cell? _ _ h)).trans h)
  have s0 := Sd.cell_by (show w2.cell? ⟨r, 0, none⟩ = some (.slice (some ⟨b, off, none⟩) N vcap) from CELL.out _ _ CR.out)
  have s1 := Sd.cell_by (CELL.out _ _ A3.out.2.1)
  have s2 := Sd.cell_by (show w2.cell? ⟨b, off + i * 3 + 2, none⟩ = some (.slice c.a q c.cap) from CELL.out _ _ A3.out.2.2)
  have s3 := Sd.cell_by (show w2.cell? ⟨w.heap.size, 0, none⟩ = some (.int .i64 o) from row_cell S2.out.adr 0)
  have s4 := Sd.cell_by (show w2.cell? ⟨w.heap.size, 2, none⟩ = some (.int .i64 j) from row_cell S2.out.adr 2)
  have s5 := Sd.cell_by (show w2.cell? ⟨w.heap.size + 1, 0, none⟩ = some (.int .u8 x.1) from row_cell S2.out.arg 0)
  have s6 := Sd.cell_by (show w2.cell? ⟨w.heap.size + 1, 1, none⟩ = some (.int .u8 x.2.1) from row_cell S2.out.arg 1)
  have s7 := Sd.cell_by (show w2.cell? ⟨w.heap.size + 1, 2, none⟩ = some (.int .u8 x.2.2.1) from row_cell S2.out.arg 2)
  have s8 := Sd.cell_by (show w2.cell? ⟨w.heap.size + 1, 3, none⟩ = some (.int .u8 x.2.2.2) from row_cell S2.out.arg 3)
  refine Sf.start [(0, 0), (0, 1), (0, 2), (0, 3), (0, 4), (0, 5), (0, 6), (0, 7), (0, 8), (0, 9), (0, 10), (0, 11), (0, 12), (1, 13), (0, 14), (0, 15), (0, 16), (0, 17), (2, 18), (2, 19), (1, 20), (1, 21), (0, 22)] [⟨18, 9, #[.int .i64 0, .slice none 0 0], 35⟩, ⟨19, 10, #[.int .u8 0, .int .u8 0, .int .u8 0, .int .u8 0], 32⟩] (by kernel_rfl) (by kernel_rfl) (by kernel_rfl) (by decide) (by decide) ?_ ?_ ?_
  · simp
  · intro f hf
    simp only [List.mem_cons, List.not_mem_nil, or_false] at hf
    rcases hf with rfl | rfl
    · exact ⟨_, rfl, rfl, rfl, fun ρ w => by go_simp⟩
    · exact ⟨_, rfl, rfl, rfl, fun ρ w => by go_simp⟩
  dsimp only [Sf.picks, List.getElem?_cons_succ, List.getElem?_cons_zero]
  have BW := Lib.hid ((Below.refl w2.heap.size w2).drew)
  repeat (refine Sf.lit (fun xs => ?_); simp only [Sf.fill, List.foldl_cons, List.foldl_nil]; quiet_step (fail); refine wpQuiet_nil ?_)
  refine Sf.call (fun xs w3 hb hc => ⟨by rfl, fun K hK => ?_⟩)
  have B3 := Lib.hid (BW.out.trans (hb.mono BW.out.size))
  clear hb hc BW s0 s1 s2 s3 s4 s5 s6 s7 s8
  simp only [Sf.fill, List.foldl_cons, List.foldl_nil]
  go_simp
  have DOW := DO.out w3 (S2.out.bel.trans (B3.out.mono S2.out.bel.size))
  refine DOW.mono ?_
  rintro e w4 ⟨ua, ucap, rfl, o4, b4⟩
  have B4 := Lib.hid (B3.out.trans (b4.mono B3.out.size))
  refine hK _ _ (Sd.Cl.of B4.out) b4.size (fun _ => b4) ?_
  clear hK K DOW
  have O4 := Lib.hid o4
  have NR : Hid (∀ g, (g < w3.heap.size ∨ w4.heap.size ≤ g) → Value.ownBlock (.slice ua q ucap) ≠ some g) := fun g hg => O4.out.range hg
  have hw3 : Hid (w2.heap.size ≤ w3.heap.size) := B3.out.size
  clear b4 o4
  repeat (refine Sf.lit (fun xs => ?_); simp only [Sf.fill, List.foldl_cons, List.foldl_nil]; quiet_step (fail); refine wpQuiet_nil ?_)
  refine Sf.meet (fun g9 w5 hb hc row n9 hH hL => ?_)
  have B5 := Lib.hid (B4.out.trans (hb.mono B4.out.size))
  have R5 : Hid (w5.heap[g9]? = some (.cells #[.int .i64 0, .slice none 0 0] 35 (0, 0))) := row
  have N9 := Lib.hid (NR.out g9 (hH _ (List.mem_cons_self ..)))
  have O5 := Lib.hid (O4.out.keep hb)
  clear O4
  clear hb hc row hH hL B4
  refine Sf.meet (fun g10 w6 hb hc row n10 hH hL => ?_)
  have B6 := Lib.hid (B5.out.trans (hb.mono B5.out.size))
  have Q6 : Hid (w6.heap[g10]? = some (.cells (arr4 z4) 32 (0, 0))) := row
  have R6 := Lib.hid ((hb.block _ (lt_of_block R5.out)).trans R5.out)
  have D9 : g10 ≠ g9 := fun e => hL (by rw [e]; exact List.mem_cons_self ..)
  have N10 := Lib.hid (NR.out g10 (hH _ (List.mem_cons_self ..)))
  have O6 := Lib.hid (O5.out.keep hb)
  clear O5 NR
  clear hb hc row hH hL B5 R5
  refine Sf.call (fun xs w7 hb hc => ⟨by rfl, fun K hK => ?_⟩)
  have B7 := Lib.hid (B6.out.trans (hb.mono B6.out.size))
  have Q7 := (hb.block _ (lt_of_block Q6.out)).trans Q6.out
  have R7 := (hb.block _ (lt_of_block R6.out)).trans R6.out
  have c0 : w7.cell? ⟨g9, 0, none⟩ = some (.int .i64 0) := row_cell R7 0
  have c1 : w7.cell? ⟨g9, 1, none⟩ = some (.slice none 0 0) := row_cell R7 1
  have f0 := row_frozen R7 0
  have f1 := row_frozen R7 1
  have R8 := Lib.hid (sto2_row R7 p (.slice ua q ucap))
  have Q8 := Lib.hid (sto2_other (g := g9) (p := p) (v := .slice ua q ucap) Q7 D9)
  have B8 := Lib.hid (sto2_below (p := p) (v := .slice ua q ucap) B7.out n9)
  have hsz := sto2_size w7 g9 p (.slice ua q ucap)
  have O8 := Lib.hid (sto2_off (u := .slice ua q ucap) (O6.out.keep hb) N9.out p)
  clear O6
  clear hb hc B6 B7 Q6 Q7 R6 R7
  simp only [Sf.fill, List.foldl_nil]
  go_simp
  refine hK _ _ (Sd.Cl.of B8.out) (by rw [← hsz]; exact Nat.le_refl _) (fun h => absurd rfl h) ?_
  clear hK K c0 c1 f0 f1 hsz
  show Sf.wpSf _ _ _ _ _ _ _ _ _ _ (sto2 w7 g9 p (.slice ua q ucap))
  generalize sto2 w7 g9 p (.slice ua q ucap) = w8 at *
  refine Sf.call (fun xs w9 hb hc => ⟨by rfl, fun K hK => ?_⟩)
  have B9 := Lib.hid (B8.out.trans (hb.mono B8.out.size))
  have Q9 := (hb.block _ (lt_of_block Q8.out)).trans Q8.out
  have R9 := (hb.block _ (lt_of_block R8.out)).trans R8.out
  have c0 : w9.cell? ⟨g10, 0, none⟩ = some (.int .u8 0) := row_cell Q9 0
  have c1 : w9.cell? ⟨g10, 1, none⟩ = some (.int .u8 0) := row_cell Q9 1
  have c2 : w9.cell? ⟨g10, 2, none⟩ = some (.int .u8 0) := row_cell Q9 2
  have c3 : w9.cell? ⟨g10, 3, none⟩ = some (.int .u8 0) := row_cell Q9 3
  have f0 := row_frozen Q9 0
  have f1 := row_frozen Q9 1
  have f2 := row_frozen Q9 2
  have f3 := row_frozen Q9 3
  have QA := Lib.hid (sto4_row Q9 y)
  have RA := Lib.hid (sto4_other (g := g10) (o := 0) (r := y) R9 (fun e => D9 e.symm))
  have BA := Lib.hid (sto4_below (o := 0) (r := y) B9.out n10)
  have hsz := sto4_size w9 g10 0 y
  have OA := Lib.hid (sto4_off (o := 0) (O8.out.keep hb) N10.out y)
  clear O8
  clear hb hc B8 B9 Q8 Q9 R8 R9
  simp only [Sf.fill, List.foldl_nil]
  go_simp
  refine hK _ _ (Sd.Cl.of BA.out) (by rw [← hsz]; exact Nat.le_refl _) (fun h => absurd rfl h) ?_
  clear hK K c0 c1 c2 c3 f0 f1 f2 f3 hsz
  show Sf.wpSf _ _ _ _ _ _ _ _ _ _ (sto4 w9 g10 0 y)
  generalize sto4 w9 g10 0 y = wA at *
  repeat (refine Sf.lit (fun xs => ?_); simp only [Sf.fill, List.foldl_nil]; quiet_step (fail); refine wpQuiet_nil ?_)
  refine Sf.done (fun wB hb hc => ?_)
  have BX := Lib.hid (BA.out.trans (hb.mono BA.out.size))
  have G9 := Lib.hid ((hb.block _ (lt_of_block RA.out)).trans RA.out)
  have G10 := Lib.hid ((hb.block _ (lt_of_block QA.out)).trans QA.out)
  have S3 := Lib.hid (S2.out.mono BX.out)
  have OX := Lib.hid (OA.out.keep hb)
  clear OA
  clear hb hc BA RA QA CELL
  have hw2w : Hid (w.heap.size + 3 ≤ w2.heap.size) := S2.out.siz
  have hrow : Hid (wB.heap[r]? = _) := (S3.out.bel.block r hrl).trans RR.out.row
  have B4 := Lib.hid (S3.out.bel.alloc S3.out.bel.size (.cells #[] 56))
  have R4' := RR.out.below B4.out
  have c0 : (wB.alloc (.cells #[] 56)).cell? ⟨r, 0, none⟩ = some (.slice (some ⟨b, off, none⟩) N vcap) := row_cell R4'.row 0
  have RDL := Lib.hid R4'.list.rd
  have OM := Lib.hid (Rw.Ow.made (K := E3) wB wB.heap.size 56 (Nat.le_refl _))
  have hn9 : Hid (w2.heap.size ≤ g9) := n9
  have hn10 : Hid (w2.heap.size ≤ g10) := n10
  clear R4' D9 n9 n10 BX hi0
  go_wp2_with (at_builtin; refine Rw.all_step (K := E3) Tryd.underlying26 infoE3 rfl (by omega) rfl _ _ rfl wB.heap.size _ _ rfl OM.out _ L rfl RDL.out ?c1 ?c2 ?_)
  case c1 => simp only [List.length_nil]; have := HN.out; omega
  case c2 => simp
  intro v5 w5 o5 b5
  obtain ⟨g5, cap5, e5⟩ : ∃ g cap, v5 = .slice (some ⟨g, 0, none⟩) N cap := by
    obtain ⟨g, cap, e, _⟩ := o5.form (by have := HN.out; omega)
    rw [HN.out] at e
    exact ⟨g, cap, e⟩
  subst e5
  have bB5 : Below wB.heap.size wB w5 := ((Below.refl wB.heap.size wB).alloc (Nat.le_refl _) _).trans b5
  have Rw5 := (bB5.block r (lt_of_block hrow.out)).trans hrow.out
  have c5 : w5.cell? ⟨r, 0, none⟩ = some (.slice (some ⟨b, off, none⟩) N vcap) := row_cell Rw5 0
  have f5 := row_frozen Rw5 0
  have hr2 : r < w2.heap.size := by have := hw2w.out; omega
  have Row6 := Lib.hid (Rw.heap_setCell_same (j := 0) Rw5 (.slice (some ⟨g5, 0, none⟩) N cap5))
  have O6 : Hid (Only (fun k => k = r) w (w5.setCell ⟨r, 0, none⟩ (.slice (some ⟨g5, 0, none⟩) N cap5))) := ((Only.of_below S3.out.bel).then bB5).trans (Only.set (fun k => k = r) w5 (a := ⟨r, 0, none⟩) rfl _) fun _ _ g => g
  have OW6 := Lib.hid (o5.far (p := ⟨r, 0, none⟩) Rw5 (by decide) (.slice (some ⟨g5, 0, none⟩) N cap5))
  have other : ∀ k, k < wB.heap.size → k ≠ r → (w5.setCell ⟨r, 0, none⟩ (.slice (some ⟨g5, 0, none⟩) N cap5)).heap[k]? = wB.heap[k]? := fun k hk hne => (Below.heap_setCell w5 ⟨r, 0, none⟩ _ k hne).trans (bB5.block k hk)
  have N6 := Lib.hid ((other g9 (lt_of_block G9.out) (by have := hn9.out; omega)).trans G9.out)
  have M6 := Lib.hid ((other g10 (lt_of_block G10.out) (by have := hn10.out; omega)).trans G10.out)
  have T6 := Lib.hid ((other (w.heap.size + 2) (lt_of_block S3.out.res) (by omega)).trans S3.out.res)
  have U6 : Hid (Ow K4 (w5.setCell ⟨r, 0, none⟩ (.slice (some ⟨g5, 0, none⟩) N cap5)) w3.heap.size 32 (.slice ua q ucap) l2) := (OX.out.keep bB5).off (p := ⟨r, 0, none⟩) (OX.out.range (.inl (by have := hw3.out; show r < _; omega))) _
  have hwB : Hid (g9 < wB.heap.size ∧ g10 < wB.heap.size ∧ w.heap.size + 3 ≤ wB.heap.size) := ⟨lt_of_block G9.out, lt_of_block G10.out, S3.out.siz⟩
  have UB : Hid (∀ g, (Value.slice ua q ucap).ownBlock = some g → g < wB.heap.size) := fun g h => (ow_new OX.out g h).2
  clear b5 o5 Rw5 bB5 other B4 OM RDL c0 hrow G9 G10 S3 OX S2
  go_upto_region 12 with fail
  clear c5 f5
  generalize w5.setCell ⟨r, 0, none⟩ (.slice (some ⟨g5, 0, none⟩) N cap5) = w6 at *
  obtain ⟨_, _, hg5, _⟩ := own3 OW6.out HI.out
  have HG5 := Lib.hid hg5
  clear hg5
  have C0 : RC r (.slice (some ⟨g5, 0, none⟩) N cap5) d g9 p (.slice ua q ucap) w6.drew := ⟨Row6.out, N6.out⟩
  have c0 := Sc.cell_in (C := RC r (.slice (some ⟨g5, 0, none⟩) N cap5) d g9 p (.slice ua q ucap)) (a := ⟨r, 0, none⟩) (fun W' h => row_cell h.row 0)
  have r0 := Sc.cell_in (C := RC r (.slice (some ⟨g5, 0, none⟩) N cap5) d g9 p (.slice ua q ucap)) (a := ⟨g9, 0, none⟩) (fun W' h => row_cell h.box 0)
  have r1 := Sc.cell_in (C := RC r (.slice (some ⟨g5, 0, none⟩) N cap5) d g9 p (.slice ua q ucap)) (a := ⟨g9, 1, none⟩) (fun W' h => row_cell h.box 1)
  have ne : Nonempty (Sc.In (RC r (.slice (some ⟨g5, 0, none⟩) N cap5) d g9 p (.slice ua q ucap))) := ⟨⟨_, C0⟩⟩
  refine Sc.start (RC r (.slice (some ⟨g5, 0, none⟩) N cap5) d g9 p (.slice ua q ucap)) [(false, 0), (false, 1), (false, 2), (false, 3), (false, 4), (false, 5), (false, 6), (false, 7), (true, 8)] (by kernel_rfl) (by kernel_rfl) (by kernel_rfl) C0 ?_
  dsimp only [Sd.picks, List.getElem?_cons_succ, List.getElem?_cons_zero]
  repeat (refine Sd.lit ?_; quiet_step (fail); refine wpQuiet_nil ?_)
  have OW7 : Hid (Ow E3 w6.drew wB.heap.size 56 (.slice (some ⟨g5, 0, none⟩) N cap5) L) := OW6.out
  have U7 : Hid (Ow K4 w6.drew w3.heap.size 32 (.slice ua q ucap) l2) := U6.out
  have O7 : Hid (Only (fun k => k = r) w w6.drew) := O6.out.then ((Below.refl _ _).drew)
  have Row7 : Hid (w6.drew.heap[r]? = _) := Row6.out
  have N7 : Hid (w6.drew.heap[g9]? = _) := N6.out
  have M7 : Hid (w6.drew.heap[g10]? = _) := M6.out
  have T7 : Hid (w6.drew.heap[w.heap.size + 2]? = _) := T6.out
  clear c0 r0 r1 C0 OW6 U6 O6 Row6 N6 M6 T6
  generalize w6.drew = w7 at *
  refine Sd.call (by rfl) (fun K hK => ?_)
  obtain ⟨⟨_, q1, q2⟩, hfr, _, _⟩ := own3 OW7.out HI.out
  unfold Ent.sl at q2
  have f1 := hfr (i * 3 + 1)
  have f2 := hfr (i * 3 + 2)
  have hwg : w.heap.size ≤ g5 := by have := HG5.out; have := hwB.out.2.2; omega
  have old : ∀ k, k ≠ g5 → ((w7.setCell ⟨g5, i * 3 + 1, none⟩ (.int .i64 p)).setCell ⟨g5, i * 3 + 2, none⟩ (.slice ua q ucap)).heap[k]? = w7.heap[k]? := fun k hk => (Below.heap_setCell _ ⟨g5, i * 3 + 2, none⟩ _ k hk).trans (Below.heap_setCell _ ⟨g5, i * 3 + 1, none⟩ _ k hk)
  have g5r : r ≠ g5 := by omega
  have g59 : g9 ≠ g5 := by have := HG5.out; have := hwB.out.1; omega
  have g510 : g10 ≠ g5 := by have := HG5.out; have := hwB.out.2.1; omega
  have g52 : w.heap.size + 2 ≠ g5 := by have := HG5.out; have := hwB.out.2.2; omega
  have Row8 := Lib.hid ((old r g5r).trans Row7.out)
  have M8 := Lib.hid ((old g10 g510).trans M7.out)
  have T8 := Lib.hid ((old _ g52).trans T7.out)
  have CC : RC r (.slice (some ⟨g5, 0, none⟩) N cap5) d g9 p (.slice ua q ucap) ((w7.setCell ⟨g5, i * 3 + 1, none⟩ (.int .i64 p)).setCell ⟨g5, i * 3 + 2, none⟩ (.slice ua q ucap)) := ⟨(old r g5r).trans Row7.out, (old g9 g59).trans N7.out⟩
  have OW8 : Hid (Ow E3 ((w7.setCell ⟨g5, i * 3 + 1, none⟩ (.int .i64 p)).setCell ⟨g5, i * 3 + 2, none⟩ (.slice ua q ucap)) w.heap.size 56 (.slice (some ⟨g5, 0, none⟩) N cap5) (L.set i (⟨c.n, p, ua, ucap, l2⟩ : Ent))) := by
    have := set3 (c' := ⟨c.n, p, ua, ucap, l2⟩) OW7.out HN.out.symm HI.out rfl HCP.out.symm
    rw [ESL.out] at this
    exact this.low (by have := hwB.out.2.2; omega)
  have n8 : ∀ jj, (Value.slice ua q ucap).ownBlock ≠ some (⟨g5, jj, none⟩ : Addr).block := fun jj e => by
    have := UB.out g5 e
    have := HG5.out
    omega
  have U8 : Hid (Ow K4 ((w7.setCell ⟨g5, i * 3 + 1, none⟩ (.int .i64 p)).setCell ⟨g5, i * 3 + 2, none⟩ (.slice ua q ucap)) w3.heap.size 32 (.slice ua q ucap) l2) := (U7.out.off (n8 _) _).off (n8 _) _
  have O8 : Hid (Only (fun k => k = r) w ((w7.setCell ⟨g5, i * 3 + 1, none⟩ (.int .i64 p)).setCell ⟨g5, i * 3 + 2, none⟩ (.slice ua q ucap))) := O7.out.trans (Only.of_from (B := w.heap.size) (((Below.refl w.heap.size w7).setCell (p := ⟨g5, i * 3 + 1, none⟩) hwg _).setCell (p := ⟨g5, i * 3 + 2, none⟩) hwg _)) fun k hk g => by omega
  have hg52 := Lib.hid g52
  clear hfr old g5r g59 g510 g52 n8 OW7 U7 O7 Row7 N7 M7 T7
  go_simp
  refine hK _ _ (Sc.Cl.of CC) ?_
  clear hK K q1 q2 f1 f2 CC
  generalize (w7.setCell ⟨g5, i * 3 + 1, none⟩ (.int .i64 p)).setCell ⟨g5, i * 3 + 2, none⟩ (.slice ua q ucap) = w8' at *
  refine Sd.done ?_
  have y0 : w8'.cell? ⟨g10, 0, none⟩ = some (.int .u8 y.1) := row_cell M8.out 0
  have y1 : w8'.cell? ⟨g10, 1, none⟩ = some (.int .u8 y.2.1) := row_cell M8.out 1
  have y2 : w8'.cell? ⟨g10, 2, none⟩ = some (.int .u8 y.2.2.1) := row_cell M8.out 2
  have y3 : w8'.cell? ⟨g10, 3, none⟩ = some (.int .u8 y.2.2.2) := row_cell M8.out 3
  have d0 : w8'.cell? ⟨w.heap.size + 2, 0, none⟩ = some (.int .u8 0) := row_cell T8.out 0
  have d1 : w8'.cell? ⟨w.heap.size + 2, 1, none⟩ = some (.int .u8 0) := row_cell T8.out 1
  have d2 : w8'.cell? ⟨w.heap.size + 2, 2, none⟩ = some (.int .u8 0) := row_cell T8.out 2
  have d3 : w8'.cell? ⟨w.heap.size + 2, 3, none⟩ = some (.int .u8 0) := row_cell T8.out 3
  have k0 := row_frozen T8.out 0
  have k1 := row_frozen T8.out 1
  have k2 := row_frozen T8.out 2
  have k3 := row_frozen T8.out 3
  have R3 := Lib.hid (sto4_row T8.out y)
  have n52 : (Value.slice (some ⟨g5, 0, none⟩) N cap5).ownBlock ≠ some (w.heap.size + 2) := fun e => by
    have : g5 = w.heap.size + 2 := by simpa [Value.ownBlock] using e
    exact hg52.out this.symm
  have RES : Hid (RDPost w r F d y 0 ((L.set i (⟨c.n, p, none, 0, l2⟩ : Ent)).map Ent.abs) (.returned (.tuple #[rec4 y, .int .i64 0])) (sto4 w8' (w.heap.size + 2) 0 y)) := by
    refine FIN.out ua ucap (.slice (some ⟨g5, 0, none⟩) N cap5) _ (O8.out.trans (Only.of_from (B := w.heap.size) (sto4_below (o := 0) (r := y) (Below.refl w.heap.size w8') (by omega))) fun k hk g => by omega) (sto4_other Row8.out (by omega)) ?_ ?_
    · exact (((OW8.out.off (p := ⟨w.heap.size + 2, 0, none⟩) n52 _).off (p := ⟨w.heap.size + 2, 0 + 1, none⟩) n52 _).off (p := ⟨w.heap.size + 2, 0 + 2, none⟩) n52 _).off (p := ⟨w.heap.size + 2, 0 + 3, none⟩) n52 _
    · exact (sto4_off (o := 0) U8.out (U8.out.range (.inl (by have := hw3.out; have := hw2w.out; omega))) y).low (by have := hw3.out; have := hw2w.out; omega)
  clear M8 T8 OW8 U8 O8 Row8 n52 FIN
  go_wp2
  (try simp only [Exit.inBlock, Exit.then])
  exact bodyPost_ret (results_rec (p := 6) (r := 7) rfl _ _ (w.heap.size + 2) y (.int .i64 0) rfl rfl R3.out) rfl RES.out

theorem rdos_any {w : World} {r : Nat} {F : Nat → Prop} {A : Abs} {d : Int} (R : Rs w r F A d) (hF : ∀ k, F k → k < w.heap.size) (hd : 0 ≤ d ∧ d < 1000000) (o f j : Int) (x : R4) (hx : okR x) :
    Calls Tryd.prog 13 #[.pointer (some ⟨r, 0, none⟩), Ad.addr o f j, rec4 x] w (RDPost w r F (dD A o f j d) (dV A o f j x) (dE A o f j) (dA A o f j x)) := by
  obtain ⟨v, L, h, rfl⟩ := R
  have no : ∀ k e w', dE (L.map Ent.abs) o f j = k → k ≠ 0 → k ≠ 5 → DoNo w k e w' → RDPost w r F (dD (L.map Ent.abs) o f j d) (dV (L.map Ent.abs) o f j x) (dE (L.map Ent.abs) o f j) (dA (L.map Ent.abs) o f j x) e w' := fun k e w' hk h0 h5 ⟨he, b⟩ => by
    have e1 : dV (L.map Ent.abs) o f j x = z4 := by unfold dV; split; rfl; rw [hk, if_neg h0]
    have e2 : dA (L.map Ent.abs) o f j x = L.map Ent.abs := by unfold dA; split; rfl; rw [hk, if_neg h0]
    have e3 : dD (L.map Ent.abs) o f j d = d := by unfold dD; rw [hk, if_neg h5]
    rw [e1, e2, e3, hk]
    exact ⟨he, ⟨v, L, h.below b, rfl⟩, Only.of_below b⟩
  cases hn : goodB o f j with
  | false => exact (rdos_1 w r o f j x hn).mono fun e w' => no 1 e w' (by unfold dE; rw [if_neg (by rw [hn]; decide)]) (by decide) (by decide)
  | true =>
    cases hk : look Ent.n f L with
    | none => exact (rdos_3 h o f j x hn (ix_none hk)).mono fun e w' => no 3 e w' (by unfold dE; rw [if_pos hn, look_abs, hk]; rfl) (by decide) (by decide)
    | some c =>
      obtain ⟨i, hi, hq⟩ := ix_some (srtL h.ok) hk
      have e : dE (L.map Ent.abs) o f j = doE c.p c.l o j := by unfold dE; rw [if_pos hn, look_abs, hk]; rfl
      by_cases h0 : doE c.p c.l o j = 0
      · have e1 : dV (L.map Ent.abs) o f j x = newR c.l o j x := by
          unfold dV
          rw [e, h0, look_abs, hk]
          rfl
        have e2 : dA (L.map Ent.abs) o f j x = (L.set i (⟨c.n, c.p, none, 0, c.l.set j.toNat (newR c.l o j x)⟩ : Ent)).map Ent.abs := by
          have e4 : put Ent.n (⟨c.n, c.p, none, 0, c.l.set j.toNat (newR c.l o j x)⟩ : Ent) L = L.set i (⟨c.n, c.p, none, 0, c.l.set j.toNat (newR c.l o j x)⟩ : Ent) := put_set (srtL h.ok) hi rfl
          rw [← e4, abs_put]
          unfold dA
          rw [e, h0, look_abs, hk]
          obtain ⟨_, rfl⟩ := look_some hk
          rfl
        have e3 : dD (L.map Ent.abs) o f j d = d := by unfold dD; rw [e, h0, if_neg (by decide)]
        rw [e1, e2, e3, e, h0]
        exact rdos_0 h hF o f j x hx hn hi hq h0
      · have e1 : dV (L.map Ent.abs) o f j x = z4 := by
          unfold dV
          split
          · rfl
          · rw [e, if_neg h0]
        have e2 : dA (L.map Ent.abs) o f j x = L.map Ent.abs := by
          unfold dA
          split
          · rfl
          · rw [e, if_neg h0]
        rw [e1, e2, e]
        exact rdos_err h o f j _ x hn hi hq rfl h0 hd _ (by unfold dD; rw [e])

end Go.Proofs.YtoeemngekioldaaDoor.Fs
