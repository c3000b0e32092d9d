/- Texts joined: FsRdo, FsSame, FsDeeds, UaMem, CkMem, PaMem, PaMaps, PaList. -/
import Derived.Test.YtilacdjekdngkaaGreatDoorMg5
import Derived.Test.YtilacdjekdngkaaGreatDoorMg6
import Derived.Test.YtilacdjekdngkaaGreatDoorMg2
import Derived.Test.YtilacdjekdngkaaGreatDoorMg1
import Derived.Test.YtilacdjekdngkaaGreatDoorMg3
import Derived.Test.YtilacdjekdngkaaGreatDoorChecked
import Derived.Laws.Rows
import Derived.Deep.WholeRow
import Derived.DeepKeys
import Derived.LoopTactic
import Derived.Outline
import Derived.Deep.LoopGhost
import Derived.Deep.Draws
import Derived.Lib.Hide
import Derived.Test.YtilacdjekdngkaaGreatDoorMg4
import Derived.WideKeyEntry
import Derived.DeepKeys5
import Derived.Maps.AppendAt

/- The document's own store: Do. -/
namespace Go.Proofs.YtilacdjekdngkaaGreatDoor.Fs
open Go.RowKit Go.Maps
open Go.Proofs.YtilacdjekdngkaaGreatDoor.Fl (R4 z4 K4 rec4 rat goodF goodFB okR okL doE newR file arr4 sto2 sto4 sto2_row sto2_other sto2_below sto2_size sto2_off sto4_row sto4_other sto4_below sto4_size sto4_off row_cell row_frozen rdo_any)
open Go.Proofs.YtilacdjekdngkaaGreatDoor.Ad (goodB)
open Go.Proofs.YtilacdjekdngkaaGreatDoor.Rw (Rd Ow At)
set_option maxRecDepth 100000
attribute [local irreducible] Sd.wpSd wpQuiet Sf.wpSf

theorem rdo_err (w : World) (p : Int) (v : Value) (l : List R4) (R : Rd K4 w v l) (hl : okL l) (o r k : Int) (x : R4) (he : doE p l o r = k) (hk : k ≠ 0) : Calls Tryz.prog 70 #[file p v, .int .i64 o, .int .i64 r, rec4 x] w fun e w' => ∃ a cap, e = .returned (.tuple #[file 0 (.slice a 0 cap), rec4 z4, .int .i64 k]) ∧ Below w.heap.size w w' :=
  (rdo_any w p v l R hl o r x).mono fun e w' ⟨u, h1, h2, h3⟩ => by
    rw [he, if_neg hk] at h2
    obtain ⟨a, cap, rfl, _⟩ := h2.slice
    rw [he, if_neg hk, if_neg hk] at h1
    exact ⟨a, cap, h1, h3⟩
theorem rdo_ok (w : World) (p : Int) (v : Value) (l : List R4) (R : Rd K4 w v l) (hl : okL l) (o r : Int) (x : R4) (he : doE p l o r = 0) : Calls Tryz.prog 70 #[file p v, .int .i64 o, .int .i64 r, rec4 x] w fun e w' => ∃ a cap, e = .returned (.tuple #[file p (.slice a l.length cap), rec4 (newR l o r x), .int .i64 0]) ∧ Ow K4 w' w.heap.size 71 (.slice a l.length cap) (l.set r.toNat (newR l o r x)) ∧ Below w.heap.size w w' :=
  (rdo_any w p v l R hl o r x).mono fun e w' ⟨u, h1, h2, h3⟩ => by
    rw [he, if_pos rfl] at h2
    obtain ⟨a, cap, rfl, _⟩ := h2.slice
    rw [List.length_set] at h1 h2
    rw [he, if_pos rfl, if_pos rfl] at h1
    exact ⟨a, cap, h1, h2, h3⟩
def RDPost (w : World) (r : Nat) (F : Nat → Prop) (d : Int) (y : R4) (k : Int) (A' : Abs) (e : Ending) (w' : World) : Prop := e = .returned (.tuple #[rec4 y, .int .i64 k]) ∧ Rs w' r F A' d ∧ Only (fun k => k = r) w w'

set_option maxHeartbeats 1000000 in
theorem rdos_1 (w : World) (s : Nat) (o f j : Int) (x : R4) (hn : goodB o f j = false) : Calls Tryz.prog 46 #[.pointer (some ⟨s, 0, none⟩), Ad.addr o f j, rec4 x] w (DoNo w 1) := by
  have A0 := ask0_of w o f j x
  have S0 : Hid (Ask0 w o f j x (((w.alloc (.cells #[.int .i64 o, .int .i64 f, .int .i64 j] 118)).alloc (.cells #[.int .u8 x.1, .int .u8 x.2.1, .int .u8 x.2.2.1, .int .u8 x.2.2.2] 71)).alloc (.cells #[.int .u8 0, .int .u8 0, .int .u8 0, .int .u8 0] 71))) := A0
  have GA : ∀ W, Calls Tryz.prog 69 #[Ad.addr o f j] W fun e w' => e = .returned (.bool false) ∧ Below W.heap.size W w' := fun W => by have := Ad.rgood_any W o f j; rwa [hn] at this
  have HG := Lib.hid GA
  clear A0 GA hn
  unfold rec4
  unfold Ad.addr at *
  have AC := S0.out
  have a0 := row_cell AC.adr 0
  have a1 := row_cell AC.adr 1
  have a2 := row_cell AC.adr 2
  clear AC
  go_enter Tryz.func46, Tryz.ntmps46
  go_wp2_with fail
  clear a0 a1 a2
  generalize (((w.alloc (.cells #[.int .i64 o, .int .i64 f, .int .i64 j] 118)).alloc (.cells #[.int .u8 x.1, .int .u8 x.2.1, .int .u8 x.2.2.1, .int .u8 x.2.2.2] 71)).alloc (.cells #[.int .u8 0, .int .u8 0, .int .u8 0, .int .u8 0] 71)) = W at *
  refine (HG.out _).mono ?_
  rintro e w1 ⟨rfl, b1⟩
  have S1 := Lib.hid (S0.out.mono b1)
  clear b1 HG S0
  have d0 : w1.cell? ⟨w.heap.size + 2, 0, none⟩ = some (.int .u8 0) := row_cell S1.out.res 0
  have d1 : w1.cell? ⟨w.heap.size + 2, 1, none⟩ = some (.int .u8 0) := row_cell S1.out.res 1
  have d2 : w1.cell? ⟨w.heap.size + 2, 2, none⟩ = some (.int .u8 0) := row_cell S1.out.res 2
  have d3 : w1.cell? ⟨w.heap.size + 2, 3, none⟩ = some (.int .u8 0) := row_cell S1.out.res 3
  have k0 := row_frozen S1.out.res 0
  have k1 := row_frozen S1.out.res 1
  have k2 := row_frozen S1.out.res 2
  have k3 := row_frozen S1.out.res 3
  have R3 := Lib.hid (sto4_row S1.out.res z4)
  have B3 := Lib.hid (sto4_below (o := 0) (r := z4) S1.out.bel (show w.heap.size ≤ w.heap.size + 2 by omega))
  clear S1
  go_wp2
  (try simp only [Exit.inBlock, Exit.then])
  exact bodyPost_ret (results_rec (p := 6) (r := 7) rfl _ _ (w.heap.size + 2) z4 (.int .i64 1) rfl rfl R3.out) rfl ⟨rfl, B3.out⟩
set_option maxHeartbeats 1000000 in
theorem rdos_3 {w : World} {r : Nat} {F : Nat → Prop} {v : Value} {L : List Ent} {d : Int} (R : Rst w r F v L d) (o f j : Int) (x : R4) (hn : goodB o f j = true) (hq : Ix L f (-1)) : Calls Tryz.prog 46 #[.pointer (some ⟨r, 0, none⟩), Ad.addr o f j, rec4 x] w (DoNo w 3) := by
  have IX := Lib.hid (fun W (hb : Below w.heap.size w W) => rix_any (R.below hb) hq)
  clear hq R
  have A0 := ask0_of w o f j x
  have S0 : Hid (Ask0 w o f j x (((w.alloc (.cells #[.int .i64 o, .int .i64 f, .int .i64 j] 118)).alloc (.cells #[.int .u8 x.1, .int .u8 x.2.1, .int .u8 x.2.2.1, .int .u8 x.2.2.2] 71)).alloc (.cells #[.int .u8 0, .int .u8 0, .int .u8 0, .int .u8 0] 71))) := A0
  have GA : ∀ W, Calls Tryz.prog 69 #[Ad.addr o f j] W fun e w' => e = .returned (.bool true) ∧ Below W.heap.size W w' := fun W => by have := Ad.rgood_any W o f j; rwa [hn] at this
  have HG := Lib.hid GA
  clear A0 GA hn
  unfold rec4
  unfold Ad.addr at *
  have AC := S0.out
  have a0 := row_cell AC.adr 0
  have a1 := row_cell AC.adr 1
  have a2 := row_cell AC.adr 2
  clear AC
  go_enter Tryz.func46, Tryz.ntmps46
  go_wp2_with fail
  clear a0 a1 a2
  generalize (((w.alloc (.cells #[.int .i64 o, .int .i64 f, .int .i64 j] 118)).alloc (.cells #[.int .u8 x.1, .int .u8 x.2.1, .int .u8 x.2.2.1, .int .u8 x.2.2.2] 71)).alloc (.cells #[.int .u8 0, .int .u8 0, .int .u8 0, .int .u8 0] 71)) = W at *
  refine (HG.out _).mono ?_
  rintro e w1 ⟨rfl, b1⟩
  have S1 := Lib.hid (S0.out.mono b1)
  clear b1 HG S0
  have a1 : w1.cell? ⟨w.heap.size, 1, none⟩ = some (.int .i64 f) := row_cell S1.out.adr 1
  go_wp2_with fail
  refine (IX.out _ S1.out.bel).mono ?_
  rintro e w2 ⟨rfl, b2⟩
  have S2 := Lib.hid (S1.out.mono b2)
  clear b2 IX S1 a1
  have d0 : w2.cell? ⟨w.heap.size + 2, 0, none⟩ = some (.int .u8 0) := row_cell S2.out.res 0
  have d1 : w2.cell? ⟨w.heap.size + 2, 1, none⟩ = some (.int .u8 0) := row_cell S2.out.res 1
  have d2 : w2.cell? ⟨w.heap.size + 2, 2, none⟩ = some (.int .u8 0) := row_cell S2.out.res 2
  have d3 : w2.cell? ⟨w.heap.size + 2, 3, none⟩ = some (.int .u8 0) := row_cell S2.out.res 3
  have k0 := row_frozen S2.out.res 0
  have k1 := row_frozen S2.out.res 1
  have k2 := row_frozen S2.out.res 2
  have k3 := row_frozen S2.out.res 3
  have R3 := Lib.hid (sto4_row S2.out.res z4)
  have B3 := Lib.hid (sto4_below (o := 0) (r := z4) S2.out.bel (show w.heap.size ≤ w.heap.size + 2 by omega))
  clear S2
  go_wp2
  (try simp only [Exit.inBlock, Exit.then])
  exact bodyPost_ret (results_rec (p := 6) (r := 7) rfl _ _ (w.heap.size + 2) z4 (.int .i64 3) rfl rfl R3.out) rfl ⟨rfl, B3.out⟩
set_option maxHeartbeats 4000000 in
theorem rdos_err {w : World} {r : Nat} {F : Nat → Prop} {v : Value} {L : List Ent} {d : Int} (R : Rst w r F v L d) (o f j k : Int) (x : R4) (hn : goodB o f j = true) {i : Nat} {c : Ent} (hi : L[i]? = some c) (hq : Ix L f i) (he : doE c.p c.l o j = k) (h0 : k ≠ 0) (hd : 0 ≤ d ∧ d < 1000000) (d' : Int) (hd' : d' = if k = 5 then d + 1 else d) :
    Calls Tryz.prog 46 #[.pointer (some ⟨r, 0, none⟩), Ad.addr o f j, rec4 x] w (RDPost w r F d' z4 k (L.map Ent.abs)) := by
  have IX := Lib.hid (fun W (hb : Below w.heap.size w W) => rix_any (R.below hb) hq)
  have RR := Lib.hid R
  have hlen := R.len
  have hil : i < L.length := (List.getElem?_eq_some_iff.1 hi).1
  have hrl : r < w.heap.size := lt_of_block R.row
  have hmem := List.mem_of_getElem? hi
  have hcm : c.abs ∈ L.map Ent.abs := List.mem_map_of_mem hmem
  have FR := Lib.hid (R.list.file c hmem)
  have FO := Lib.hid (R.list.foff c hmem)
  have OKC := Lib.hid (R.ok.ok _ hcm)
  have HI := Lib.hid hi
  obtain ⟨va, vcap, rfl, _, _, h3⟩ := R.list.rd
  obtain ⟨b, off, rfl, hA⟩ := h3 (by omega)
  have A3 := Lib.hid (at3 hA hi)
  have CR := Lib.hid (row_cell R.row 0)
  have A0 := ask0_of w o f j x
  have S0 : Hid (Ask0 w o f j x (((w.alloc (.cells #[.int .i64 o, .int .i64 f, .int .i64 j] 118)).alloc (.cells #[.int .u8 x.1, .int .u8 x.2.1, .int .u8 x.2.2.1, .int .u8 x.2.2.2] 71)).alloc (.cells #[.int .u8 0, .int .u8 0, .int .u8 0, .int .u8 0] 71))) := A0
  have GA : ∀ W, Calls Tryz.prog 69 #[Ad.addr o f j] W fun e w' => e = .returned (.bool true) ∧ Below W.heap.size W w' := fun W => by have := Ad.rgood_any W o f j; rwa [hn] at this
  have HG := Lib.hid GA
  clear A0 GA hn
  have DO := Lib.hid (fun W (hb : Below w.heap.size w W) => rdo_err W c.p c.sl c.l (FR.out.below hb) OKC.out o j k x he h0)
  have hk1 : (k == 0) = false := by simpa using h0
  have HD := Lib.hid hd'
  have W0 : IntKind.i64.wrap (d + 1) = d + 1 := IntWalk.i64_in _ (by omega)
  clear R hi hq h3 hA hmem hcm he h0 hd hd' FR FO
  unfold Ent.sl at A3 DO
  generalize hN : L.length = N at *
  have HN := Lib.hid hN
  generalize hQ : c.l.length = q at *
  clear hN hQ
  unfold file rec4 at DO
  unfold rec4
  unfold Ad.addr at *
  have AC := S0.out
  have a0 := row_cell AC.adr 0
  have a1 := row_cell AC.adr 1
  have a2 := row_cell AC.adr 2
  clear AC
  go_enter Tryz.func46, Tryz.ntmps46
  go_wp2_with fail
  clear a0 a1 a2
  generalize (((w.alloc (.cells #[.int .i64 o, .int .i64 f, .int .i64 j] 118)).alloc (.cells #[.int .u8 x.1, .int .u8 x.2.1, .int .u8 x.2.2.1, .int .u8 x.2.2.2] 71)).alloc (.cells #[.int .u8 0, .int .u8 0, .int .u8 0, .int .u8 0] 71)) = W at *
  refine (HG.out _).mono ?_
  rintro e w1 ⟨rfl, b1⟩
  have S1 := Lib.hid (S0.out.mono b1)
  clear b1 HG S0
  have a1 : w1.cell? ⟨w.heap.size, 1, none⟩ = some (.int .i64 f) := row_cell S1.out.adr 1
  go_wp2_with fail
  refine (IX.out _ S1.out.bel).mono ?_
  rintro e w2 ⟨rfl, b2⟩
  have S2 := Lib.hid (S1.out.mono b2)
  clear b2 IX S1 a1
  have hi0 : ¬ ((i : Int) < 0) := by omega
  go_wp2_with fail
  have CELL := Lib.hid (fun (p : Addr) (u : Value) (h : w.cell? p = some u) => (S2.out.bel.cell (World.block_lt_of_cell? _ _ h)).trans h)
  have s0 := Sd.cell_by (show w2.cell? ⟨r, 0, none⟩ = some (.slice (some ⟨b, off, none⟩) N vcap) from CELL.out _ _ CR.out)
  have s1 := Sd.cell_by (CELL.out _ _ A3.out.2.1)
  have s2 := Sd.cell_by (show w2.cell? ⟨b, off + i * 3 + 2, none⟩ = some (.slice c.a q c.cap) from CELL.out _ _ A3.out.2.2)
  have s3 := Sd.cell_by (show w2.cell? ⟨w.heap.size, 0, none⟩ = some (.int .i64 o) from row_cell S2.out.adr 0)
  have s4 := Sd.cell_by (show w2.cell? ⟨w.heap.size, 2, none⟩ = some (.int .i64 j) from row_cell S2.out.adr 2)
  have s5 := Sd.cell_by (show w2.cell? ⟨w.heap.size + 1, 0, none⟩ = some (.int .u8 x.1) from row_cell S2.out.arg 0)
  have s6 := Sd.cell_by (show w2.cell? ⟨w.heap.size + 1, 1, none⟩ = some (.int .u8 x.2.1) from row_cell S2.out.arg 1)
  have s7 := Sd.cell_by (show w2.cell? ⟨w.heap.size + 1, 2, none⟩ = some (.int .u8 x.2.2.1) from row_cell S2.out.arg 2)
  have s8 := Sd.cell_by (show w2.cell? ⟨w.heap.size + 1, 3, none⟩ = some (.int .u8 x.2.2.2) from row_cell S2.out.arg 3)
  refine Sf.start [(0, 0), (0, 1), (0, 2), (0, 3), (0, 4), (0, 5), (0, 6), (0, 7), (0, 8), (0, 9), (0, 10), (0, 11), (0, 12), (1, 13), (0, 14), (0, 15), (0, 16), (0, 17), (2, 18), (2, 19), (1, 20), (1, 21), (0, 22)] [⟨18, 9, #[.int .i64 0, .slice none 0 0], 67⟩, ⟨19, 10, #[.int .u8 0, .int .u8 0, .int .u8 0, .int .u8 0], 71⟩] (by kernel_rfl) (by kernel_rfl) (by kernel_rfl) (by decide) (by decide) ?_ ?_ ?_
  · simp
  · intro f hf
    simp only [List.mem_cons, List.not_mem_nil, or_false] at hf
    rcases hf with rfl | rfl
    · exact ⟨_, rfl, rfl, rfl, fun ρ w => by go_simp⟩
    · exact ⟨_, rfl, rfl, rfl, fun ρ w => by go_simp⟩
  dsimp only [Sf.picks, List.getElem?_cons_succ, List.getElem?_cons_zero]
  have BW := Lib.hid ((Below.refl w2.heap.size w2).drew)
  repeat (refine Sf.lit (fun xs => ?_); simp only [Sf.fill, List.foldl_cons, List.foldl_nil]; quiet_step (fail); refine wpQuiet_nil ?_)
  refine Sf.call (fun xs w3 hb hc => ⟨by rfl, fun K hK => ?_⟩)
  have B3 := Lib.hid (BW.out.trans (hb.mono BW.out.size))
  clear hb hc BW s0 s1 s2 s3 s4 s5 s6 s7 s8
  simp only [Sf.fill, List.foldl_cons, List.foldl_nil]
  go_simp
  have DOW := DO.out w3 (S2.out.bel.trans (B3.out.mono S2.out.bel.size))
  refine DOW.mono ?_
  rintro e w4 ⟨ua, ucap, rfl, b4⟩
  have B4 := Lib.hid (B3.out.trans (b4.mono B3.out.size))
  refine hK _ _ (Sd.Cl.of B4.out) b4.size (fun _ => b4) ?_
  clear hK K DOW
  repeat (refine Sf.lit (fun xs => ?_); simp only [Sf.fill, List.foldl_cons, List.foldl_nil]; quiet_step (fail); refine wpQuiet_nil ?_)
  refine Sf.meet (fun g9 w5 hb hc row n9 hH hL => ?_)
  have B5 := Lib.hid (B4.out.trans (hb.mono B4.out.size))
  have R5 : Hid (w5.heap[g9]? = some (.cells #[.int .i64 0, .slice none 0 0] 67 (0, 0))) := row
  clear hb hc row hH hL B4
  refine Sf.meet (fun g10 w6 hb hc row n10 hH hL => ?_)
  have B6 := Lib.hid (B5.out.trans (hb.mono B5.out.size))
  have Q6 : Hid (w6.heap[g10]? = some (.cells (arr4 z4) 71 (0, 0))) := row
  have R6 := Lib.hid ((hb.block _ (lt_of_block R5.out)).trans R5.out)
  have D9 : g10 ≠ g9 := fun e => hL (by rw [e]; exact List.mem_cons_self ..)
  clear hb hc row hH hL B5 R5
  refine Sf.call (fun xs w7 hb hc => ⟨by rfl, fun K hK => ?_⟩)
  have B7 := Lib.hid (B6.out.trans (hb.mono B6.out.size))
  have Q7 := (hb.block _ (lt_of_block Q6.out)).trans Q6.out
  have R7 := (hb.block _ (lt_of_block R6.out)).trans R6.out
  have c0 : w7.cell? ⟨g9, 0, none⟩ = some (.int .i64 0) := row_cell R7 0
  have c1 : w7.cell? ⟨g9, 1, none⟩ = some (.slice none 0 0) := row_cell R7 1
  have f0 := row_frozen R7 0
  have f1 := row_frozen R7 1
  have R8 := Lib.hid (sto2_row R7 0 (.slice ua 0 ucap))
  have Q8 := Lib.hid (sto2_other (g := g9) (p := 0) (v := .slice ua 0 ucap) Q7 D9)
  have B8 := Lib.hid (sto2_below (p := 0) (v := .slice ua 0 ucap) B7.out n9)
  have hsz := sto2_size w7 g9 0 (.slice ua 0 ucap)
  clear hb hc B6 B7 Q6 Q7 R6 R7
  simp only [Sf.fill, List.foldl_nil]
  go_simp
  refine hK _ _ (Sd.Cl.of B8.out) (by rw [← hsz]; exact Nat.le_refl _) (fun h => absurd rfl h) ?_
  clear hK K c0 c1 f0 f1 hsz
  show Sf.wpSf _ _ _ _ _ _ _ _ _ _ (sto2 w7 g9 0 (.slice ua 0 ucap))
  generalize sto2 w7 g9 0 (.slice ua 0 ucap) = w8 at *
  refine Sf.call (fun xs w9 hb hc => ⟨by rfl, fun K hK => ?_⟩)
  have B9 := Lib.hid (B8.out.trans (hb.mono B8.out.size))
  have Q9 := (hb.block _ (lt_of_block Q8.out)).trans Q8.out
  have R9 := (hb.block _ (lt_of_block R8.out)).trans R8.out
  have c0 : w9.cell? ⟨g10, 0, none⟩ = some (.int .u8 0) := row_cell Q9 0
  have c1 : w9.cell? ⟨g10, 1, none⟩ = some (.int .u8 0) := row_cell Q9 1
  have c2 : w9.cell? ⟨g10, 2, none⟩ = some (.int .u8 0) := row_cell Q9 2
  have c3 : w9.cell? ⟨g10, 3, none⟩ = some (.int .u8 0) := row_cell Q9 3
  have f0 := row_frozen Q9 0
  have f1 := row_frozen Q9 1
  have f2 := row_frozen Q9 2
  have f3 := row_frozen Q9 3
  have QA := Lib.hid (sto4_row Q9 z4)
  have RA := Lib.hid (sto4_other (g := g10) (o := 0) (r := z4) R9 (fun e => D9 e.symm))
  have BA := Lib.hid (sto4_below (o := 0) (r := z4) B9.out n10)
  have hsz := sto4_size w9 g10 0 z4
  clear hb hc B8 B9 Q8 Q9 R8 R9
  simp only [Sf.fill, List.foldl_nil]
  go_simp
  refine hK _ _ (Sd.Cl.of BA.out) (by rw [← hsz]; exact Nat.le_refl _) (fun h => absurd rfl h) ?_
  clear hK K c0 c1 c2 c3 f0 f1 f2 f3 hsz
  show Sf.wpSf _ _ _ _ _ _ _ _ _ _ (sto4 w9 g10 0 z4)
  generalize sto4 w9 g10 0 z4 = wA at *
  repeat (refine Sf.lit (fun xs => ?_); simp only [Sf.fill, List.foldl_nil]; quiet_step (fail); refine wpQuiet_nil ?_)
  refine Sf.done (fun wB hb hc => ?_)
  have BX := Lib.hid (BA.out.trans (hb.mono BA.out.size))
  have G9 := Lib.hid ((hb.block _ (lt_of_block RA.out)).trans RA.out)
  have G10 := Lib.hid ((hb.block _ (lt_of_block QA.out)).trans QA.out)
  have S3 := Lib.hid (S2.out.mono BX.out)
  clear hb hc BA RA QA CELL
  clear G9 G10 D9 n9 n10 BX S2
  have hrow : Hid (wB.heap[r]? = _) := (S3.out.bel.block r hrl).trans RR.out.row
  by_cases h5 : k = 5
  · subst h5
    have c1 : wB.cell? ⟨r, 1, none⟩ = some (.int .i64 d) := row_cell hrow.out 1
    have f1 := row_frozen hrow.out 1
    have Rw' := Lib.hid (Rw.heap_setCell_same (j := 1) hrow.out (.int .i64 (d + 1)))
    have Rs' := Lib.hid ((Below.heap_setCell wB ⟨r, 1, none⟩ (.int .i64 (d + 1)) (w.heap.size + 2) (by show w.heap.size + 2 ≠ r; omega)).trans S3.out.res)
    have OO : Hid (Only (fun k => k = r) w (wB.setCell ⟨r, 1, none⟩ (.int .i64 (d + 1)))) := (Only.of_below S3.out.bel).trans (Only.set (fun k => k = r) wB (a := ⟨r, 1, none⟩) rfl _) fun _ _ g => g
    go_upto_region 10 with fail
    clear c1 f1 S3 hrow
    generalize wB.setCell ⟨r, 1, none⟩ (.int .i64 (d + 1)) = wC at *
    have d0 : wC.cell? ⟨w.heap.size + 2, 0, none⟩ = some (.int .u8 0) := row_cell Rs'.out 0
    have d1 : wC.cell? ⟨w.heap.size + 2, 1, none⟩ = some (.int .u8 0) := row_cell Rs'.out 1
    have d2 : wC.cell? ⟨w.heap.size + 2, 2, none⟩ = some (.int .u8 0) := row_cell Rs'.out 2
    have d3 : wC.cell? ⟨w.heap.size + 2, 3, none⟩ = some (.int .u8 0) := row_cell Rs'.out 3
    have k0 := row_frozen Rs'.out 0
    have k1 := row_frozen Rs'.out 1
    have k2 := row_frozen Rs'.out 2
    have k3 := row_frozen Rs'.out 3
    have R3 := Lib.hid (sto4_row Rs'.out z4)
    have RES : Hid (RDPost w r F d' z4 5 (L.map Ent.abs) (.returned (.tuple #[rec4 z4, .int .i64 5])) (sto4 wC (w.heap.size + 2) 0 z4)) := by
      have O9 : Only (fun k => k = r) w (sto4 wC (w.heap.size + 2) 0 z4) := OO.out.trans (Only.of_from (B := w.heap.size) (sto4_below (o := 0) (r := z4) (Below.refl w.heap.size wC) (by omega))) fun k hk g => by omega
      refine ⟨rfl, ⟨_, L, ⟨?_, RR.out.off, ⟨rd_only (G := fun k => k = r) RR.out.list.rd (fun h0 k hk e => RR.out.list.off h0 k hk (.inr e)) O9, RR.out.list.off, fun c hc => rd_only (G := fun k => k = r) (RR.out.list.file c hc) (fun h0 k hk e => RR.out.list.foff c hc h0 k hk (.inr e)) O9, RR.out.list.foff⟩, RR.out.ok⟩, rfl⟩, O9⟩
      rw [HD.out, if_pos rfl]
      have := sto4_other (g := w.heap.size + 2) (o := 0) (r := z4) Rw'.out (by omega)
      rw [this]
      simp
    clear Rs' OO Rw'
    go_wp2
    (try simp only [Exit.inBlock, Exit.then])
    exact bodyPost_ret (results_rec (p := 6) (r := 7) rfl _ _ (w.heap.size + 2) z4 (.int .i64 5) rfl rfl R3.out) rfl RES.out
  · have hk5 : (k == 5) = false := by simpa using h5
    have d0 : wB.cell? ⟨w.heap.size + 2, 0, none⟩ = some (.int .u8 0) := row_cell S3.out.res 0
    have d1 : wB.cell? ⟨w.heap.size + 2, 1, none⟩ = some (.int .u8 0) := row_cell S3.out.res 1
    have d2 : wB.cell? ⟨w.heap.size + 2, 2, none⟩ = some (.int .u8 0) := row_cell S3.out.res 2
    have d3 : wB.cell? ⟨w.heap.size + 2, 3, none⟩ = some (.int .u8 0) := row_cell S3.out.res 3
    have k0 := row_frozen S3.out.res 0
    have k1 := row_frozen S3.out.res 1
    have k2 := row_frozen S3.out.res 2
    have k3 := row_frozen S3.out.res 3
    have R3 := Lib.hid (sto4_row S3.out.res z4)
    have B3 := Lib.hid (sto4_below (o := 0) (r := z4) S3.out.bel (show w.heap.size ≤ w.heap.size + 2 by omega))
    have RES : Hid (RDPost w r F d' z4 k (L.map Ent.abs) (.returned (.tuple #[rec4 z4, .int .i64 k])) (sto4 wB (w.heap.size + 2) 0 z4)) := by
      rw [HD.out, if_neg h5]
      exact ⟨rfl, ⟨_, L, RR.out.below B3.out, rfl⟩, Only.of_below B3.out⟩
    clear S3 hrow
    go_wp2
    (try simp only [Exit.inBlock, Exit.then])
    exact bodyPost_ret (results_rec (p := 6) (r := 7) rfl _ _ (w.heap.size + 2) z4 (.int .i64 k) rfl rfl R3.out) rfl RES.out
set_option maxHeartbeats 4000000 in
theorem rdos_0 {w : World} {r : Nat} {F : Nat → Prop} {v : Value} {L : List Ent} {d : Int} (R : Rst w r F v L d) (hF : ∀ k, F k → k < w.heap.size) (o f j : Int) (x : R4) (hx : okR x) (hn : goodB o f j = true) {i : Nat} {c : Ent} (hi : L[i]? = some c) (hq : Ix L f i) (he : doE c.p c.l o j = 0) :
    Calls Tryz.prog 46 #[.pointer (some ⟨r, 0, none⟩), Ad.addr o f j, rec4 x] w (RDPost w r F d (newR c.l o j x) 0 ((L.set i (⟨c.n, c.p, none, 0, c.l.set j.toNat (newR c.l o j x)⟩ : Ent)).map Ent.abs)) := by
  have IX := Lib.hid (fun W (hb : Below w.heap.size w W) => rix_any (R.below hb) hq)
  have RR := Lib.hid R
  have hlen := R.len
  have hil : i < L.length := (List.getElem?_eq_some_iff.1 hi).1
  have hrl : r < w.heap.size := lt_of_block R.row
  have hmem := List.mem_of_getElem? hi
  have hcm : c.abs ∈ L.map Ent.abs := List.mem_map_of_mem hmem
  have FR := Lib.hid (R.list.file c hmem)
  have FO := Lib.hid (R.list.foff c hmem)
  have OKC := Lib.hid (R.ok.ok _ hcm)
  have HI := Lib.hid hi
  obtain ⟨va, vcap, rfl, _, _, h3⟩ := R.list.rd
  obtain ⟨b, off, rfl, hA⟩ := h3 (by omega)
  have A3 := Lib.hid (at3 hA hi)
  have CR := Lib.hid (row_cell R.row 0)
  have A0 := ask0_of w o f j x
  have S0 : Hid (Ask0 w o f j x (((w.alloc (.cells #[.int .i64 o, .int .i64 f, .int .i64 j] 118)).alloc (.cells #[.int .u8 x.1, .int .u8 x.2.1, .int .u8 x.2.2.1, .int .u8 x.2.2.2] 71)).alloc (.cells #[.int .u8 0, .int .u8 0, .int .u8 0, .int .u8 0] 71))) := A0
  have GA : ∀ W, Calls Tryz.prog 69 #[Ad.addr o f j] W fun e w' => e = .returned (.bool true) ∧ Below W.heap.size W w' := fun W => by have := Ad.rgood_any W o f j; rwa [hn] at this
  have HG := Lib.hid GA
  clear A0 GA hn
  have DO := Lib.hid (fun W (hb : Below w.heap.size w W) => rdo_ok W c.p c.sl c.l (FR.out.below hb) OKC.out o j x he)
  have hok : okL c.l := R.ok.ok _ hcm
  have FIN : Hid (∀ (ua : Option Addr) (uc : Nat) (v' : Value) (W : World), Only (fun k => k = r) w W → W.heap[r]? = some (.cells #[v', .int .i64 d] 41 (0, 0)) → Ow E3 W w.heap.size 69 v' (L.set i (⟨c.n, c.p, ua, uc, c.l.set j.toNat (newR c.l o j x)⟩ : Ent)) → Ow K4 W w.heap.size 71 (.slice ua c.l.length uc) (c.l.set j.toNat (newR c.l o j x)) → RDPost w r F d (newR c.l o j x) 0 ((L.set i (⟨c.n, c.p, none, 0, c.l.set j.toNat (newR c.l o j x)⟩ : Ent)).map Ent.abs) (.returned (.tuple #[rec4 (newR c.l o j x), .int .i64 0])) W) := fun ua uc v' W O row own new => by
    have e : (L.set i (⟨c.n, c.p, ua, uc, c.l.set j.toNat (newR c.l o j x)⟩ : Ent)).map Ent.abs = (L.set i (⟨c.n, c.p, none, 0, c.l.set j.toNat (newR c.l o j x)⟩ : Ent)).map Ent.abs := by rw [List.map_set, List.map_set]; rfl
    have e3 : put Ent.n (⟨c.n, c.p, none, 0, c.l.set j.toNat (newR c.l o j x)⟩ : Ent) L = L.set i (⟨c.n, c.p, none, 0, c.l.set j.toNat (newR c.l o j x)⟩ : Ent) := put_set (srtL R.ok) hi rfl
    have ok : OkA ((L.set i (⟨c.n, c.p, none, 0, c.l.set j.toNat (newR c.l o j x)⟩ : Ent)).map Ent.abs) := by
      rw [← e3, abs_put]
      exact R.ok.put (R.ok.nm _ hcm) (good_do he) (okL_set hok (okR_new hok hx))
    have new' : Ow K4 W w.heap.size 71 (⟨c.n, c.p, ua, uc, c.l.set j.toNat (newR c.l o j x)⟩ : Ent).sl (c.l.set j.toNat (newR c.l o j x)) := by unfold Ent.sl; rw [List.length_set]; exact new
    refine ⟨rfl, ⟨v', _, R.next hF O row own (fun e he => ?_) (by rw [e]; exact ok), e⟩, O⟩
    rcases List.mem_or_eq_of_mem_set he with h | rfl
    · exact .inl h
    · exact .inr (gd_new hF hrl new')
  clear R hi hq hF h3 hA hmem hcm he FR FO OKC hok hx
  unfold Ent.sl at A3 DO
  have ESL : Hid (∀ ua uc, (⟨c.n, c.p, ua, uc, c.l.set j.toNat (newR c.l o j x)⟩ : Ent).sl = .slice ua c.l.length uc) := fun ua uc => by unfold Ent.sl; rw [List.length_set]
  generalize hN : L.length = N at *
  have HN := Lib.hid hN
  generalize hQ : c.l.length = q at *
  generalize c.l.set j.toNat (newR c.l o j x) = l2 at *
  generalize newR c.l o j x = y at *
  generalize hcp : c.p = p at *
  have HCP := Lib.hid hcp
  clear hN hQ hcp
  unfold file rec4 at DO
  unfold rec4
  unfold Ad.addr at *
  have AC := S0.out
  have a0 := row_cell AC.adr 0
  have a1 := row_cell AC.adr 1
  have a2 := row_cell AC.adr 2
  clear AC
  go_enter Tryz.func46, Tryz.ntmps46
  go_wp2_with fail
  clear a0 a1 a2
  generalize (((w.alloc (.cells #[.int .i64 o, .int .i64 f, .int .i64 j] 118)).alloc (.cells #[.int .u8 x.1, .int .u8 x.2.1, .int .u8 x.2.2.1, .int .u8 x.2.2.2] 71)).alloc (.cells #[.int .u8 0, .int .u8 0, .int .u8 0, .int .u8 0] 71)) = W at *
  refine (HG.out _).mono ?_
  rintro e w1 ⟨rfl, b1⟩
  have S1 := Lib.hid (S0.out.mono b1)
  clear b1 HG S0
  have a1 : w1.cell? ⟨w.heap.size, 1, none⟩ = some (.int .i64 f) := row_cell S1.out.adr 1
  go_wp2_with fail
  refine (IX.out _ S1.out.bel).mono ?_
  rintro e w2 ⟨rfl, b2⟩
  have S2 := Lib.hid (S1.out.mono b2)
  clear b2 IX S1 a1
  have hi0 : ¬ ((i : Int) < 0) := by omega
  go_wp2_with fail
  have CELL := Lib.hid (fun (p : Addr) (u : Value) (h : w.cell? p = some u) => (S2.out.bel.cell (World.block_lt_of_cell? _ _ h)).trans h)
  have s0 := Sd.cell_by (show w2.cell? ⟨r, 0, none⟩ = some (.slice (some ⟨b, off, none⟩) N vcap) from CELL.out _ _ CR.out)
  have s1 := Sd.cell_by (CELL.out _ _ A3.out.2.1)
  have s2 := Sd.cell_by (show w2.cell? ⟨b, off + i * 3 + 2, none⟩ = some (.slice c.a q c.cap) from CELL.out _ _ A3.out.2.2)
  have s3 := Sd.cell_by (show w2.cell? ⟨w.heap.size, 0, none⟩ = some (.int .i64 o) from row_cell S2.out.adr 0)
  have s4 := Sd.cell_by (show w2.cell? ⟨w.heap.size, 2, none⟩ = some (.int .i64 j) from row_cell S2.out.adr 2)
  have s5 := Sd.cell_by (show w2.cell? ⟨w.heap.size + 1, 0, none⟩ = some (.int .u8 x.1) from row_cell S2.out.arg 0)
  have s6 := Sd.cell_by (show w2.cell? ⟨w.heap.size + 1, 1, none⟩ = some (.int .u8 x.2.1) from row_cell S2.out.arg 1)
  have s7 := Sd.cell_by (show w2.cell? ⟨w.heap.size + 1, 2, none⟩ = some (.int .u8 x.2.2.1) from row_cell S2.out.arg 2)
  have s8 := Sd.cell_by (show w2.cell? ⟨w.heap.size + 1, 3, none⟩ = some (.int .u8 x.2.2.2) from row_cell S2.out.arg 3)
  refine Sf.start [(0, 0), (0, 1), (0, 2), (0, 3), (0, 4), (0, 5), (0, 6), (0, 7), (0, 8), (0, 9), (0, 10), (0, 11), (0, 12), (1, 13), (0, 14), (0, 15), (0, 16), (0, 17), (2, 18), (2, 19), (1, 20), (1, 21), (0, 22)] [⟨18, 9, #[.int .i64 0, .slice none 0 0], 67⟩, ⟨19, 10, #[.int .u8 0, .int .u8 0, .int .u8 0, .int .u8 0], 71⟩] (by kernel_rfl) (by kernel_rfl) (by kernel_rfl) (by decide) (by decide) ?_ ?_ ?_
  · simp
  · intro f hf
    simp only [List.mem_cons, List.not_mem_nil, or_false] at hf
    rcases hf with rfl | rfl
    · exact ⟨_, rfl, rfl, rfl, fun ρ w => by go_simp⟩
    · exact ⟨_, rfl, rfl, rfl, fun ρ w => by go_simp⟩
  dsimp only [Sf.picks, List.getElem?_cons_succ, List.getElem?_cons_zero]
  have BW := Lib.hid ((Below.refl w2.heap.size w2).drew)
  repeat (refine Sf.lit (fun xs => ?_); simp only [Sf.fill, List.foldl_cons, List.foldl_nil]; quiet_step (fail); refine wpQuiet_nil ?_)
  refine Sf.call (fun xs w3 hb hc => ⟨by rfl, fun K hK => ?_⟩)
  have B3 := Lib.hid (BW.out.trans (hb.mono BW.out.size))
  clear hb hc BW s0 s1 s2 s3 s4 s5 s6 s7 s8
  simp only [Sf.fill, List.foldl_cons, List.foldl_nil]
  go_simp
  have DOW := DO.out w3 (S2.out.bel.trans (B3.out.mono S2.out.bel.size))
  refine DOW.mono ?_
  rintro e w4 ⟨ua, ucap, rfl, o4, b4⟩
  have B4 := Lib.hid (B3.out.trans (b4.mono B3.out.size))
  refine hK _ _ (Sd.Cl.of B4.out) b4.size (fun _ => b4) ?_
  clear hK K DOW
  have O4 := Lib.hid o4
  have NR : Hid (∀ g, (g < w3.heap.size ∨ w4.heap.size ≤ g) → Value.ownBlock (.slice ua q ucap) ≠ some g) := fun g hg => O4.out.range hg
  have hw3 : Hid (w2.heap.size ≤ w3.heap.size) := B3.out.size
  clear b4 o4
  repeat (refine Sf.lit (fun xs => ?_); simp only [Sf.fill, List.foldl_cons, List.foldl_nil]; quiet_step (fail); refine wpQuiet_nil ?_)
  refine Sf.meet (fun g9 w5 hb hc row n9 hH hL => ?_)
  have B5 := Lib.hid (B4.out.trans (hb.mono B4.out.size))
  have R5 : Hid (w5.heap[g9]? = some (.cells #[.int .i64 0, .slice none 0 0] 67 (0, 0))) := row
  have N9 := Lib.hid (NR.out g9 (hH _ (List.mem_cons_self ..)))
  have O5 := Lib.hid (O4.out.keep hb)
  clear O4
  clear hb hc row hH hL B4
  refine Sf.meet (fun g10 w6 hb hc row n10 hH hL => ?_)
  have B6 := Lib.hid (B5.out.trans (hb.mono B5.out.size))
  have Q6 : Hid (w6.heap[g10]? = some (.cells (arr4 z4) 71 (0, 0))) := row
  have R6 := Lib.hid ((hb.block _ (lt_of_block R5.out)).trans R5.out)
  have D9 : g10 ≠ g9 := fun e => hL (by rw [e]; exact List.mem_cons_self ..)
  have N10 := Lib.hid (NR.out g10 (hH _ (List.mem_cons_self ..)))
  have O6 := Lib.hid (O5.out.keep hb)
  clear O5 NR
  clear hb hc row hH hL B5 R5
  refine Sf.call (fun xs w7 hb hc => ⟨by rfl, fun K hK => ?_⟩)
  have B7 := Lib.hid (B6.out.trans (hb.mono B6.out.size))
  have Q7 := (hb.block _ (lt_of_block Q6.out)).trans Q6.out
  have R7 := (hb.block _ (lt_of_block R6.out)).trans R6.out
  have c0 : w7.cell? ⟨g9, 0, none⟩ = some (.int .i64 0) := row_cell R7 0
  have c1 : w7.cell? ⟨g9, 1, none⟩ = some (.slice none 0 0) := row_cell R7 1
  have f0 := row_frozen R7 0
  have f1 := row_frozen R7 1
  have R8 := Lib.hid (sto2_row R7 p (.slice ua q ucap))
  have Q8 := Lib.hid (sto2_other (g := g9) (p := p) (v := .slice ua q ucap) Q7 D9)
  have B8 := Lib.hid (sto2_below (p := p) (v := .slice ua q ucap) B7.out n9)
  have hsz := sto2_size w7 g9 p (.slice ua q ucap)
  have O8 := Lib.hid (sto2_off (u := .slice ua q ucap) (O6.out.keep hb) N9.out p)
  clear O6
  clear hb hc B6 B7 Q6 Q7 R6 R7
  simp only [Sf.fill, List.foldl_nil]
  go_simp
  refine hK _ _ (Sd.Cl.of B8.out) (by rw [← hsz]; exact Nat.le_refl _) (fun h => absurd rfl h) ?_
  clear hK K c0 c1 f0 f1 hsz
  show Sf.wpSf _ _ _ _ _ _ _ _ _ _ (sto2 w7 g9 p (.slice ua q ucap))
  generalize sto2 w7 g9 p (.slice ua q ucap) = w8 at *
  refine Sf.call (fun xs w9 hb hc => ⟨by rfl, fun K hK => ?_⟩)
  have B9 := Lib.hid (B8.out.trans (hb.mono B8.out.size))
  have Q9 := (hb.block _ (lt_of_block Q8.out)).trans Q8.out
  have R9 := (hb.block _ (lt_of_block R8.out)).trans R8.out
  have c0 : w9.cell? ⟨g10, 0, none⟩ = some (.int .u8 0) := row_cell Q9 0
  have c1 : w9.cell? ⟨g10, 1, none⟩ = some (.int .u8 0) := row_cell Q9 1
  have c2 : w9.cell? ⟨g10, 2, none⟩ = some (.int .u8 0) := row_cell Q9 2
  have c3 : w9.cell? ⟨g10, 3, none⟩ = some (.int .u8 0) := row_cell Q9 3
  have f0 := row_frozen Q9 0
  have f1 := row_frozen Q9 1
  have f2 := row_frozen Q9 2
  have f3 := row_frozen Q9 3
  have QA := Lib.hid (sto4_row Q9 y)
  have RA := Lib.hid (sto4_other (g := g10) (o := 0) (r := y) R9 (fun e => D9 e.symm))
  have BA := Lib.hid (sto4_below (o := 0) (r := y) B9.out n10)
  have hsz := sto4_size w9 g10 0 y
  have OA := Lib.hid (sto4_off (o := 0) (O8.out.keep hb) N10.out y)
  clear O8
  clear hb hc B8 B9 Q8 Q9 R8 R9
  simp only [Sf.fill, List.foldl_nil]
  go_simp
  refine hK _ _ (Sd.Cl.of BA.out) (by rw [← hsz]; exact Nat.le_refl _) (fun h => absurd rfl h) ?_
  clear hK K c0 c1 c2 c3 f0 f1 f2 f3 hsz
  show Sf.wpSf _ _ _ _ _ _ _ _ _ _ (sto4 w9 g10 0 y)
  generalize sto4 w9 g10 0 y = wA at *
  repeat (refine Sf.lit (fun xs => ?_); simp only [Sf.fill, List.foldl_nil]; quiet_step (fail); refine wpQuiet_nil ?_)
  refine Sf.done (fun wB hb hc => ?_)
  have BX := Lib.hid (BA.out.trans (hb.mono BA.out.size))
  have G9 := Lib.hid ((hb.block _ (lt_of_block RA.out)).trans RA.out)
  have G10 := Lib.hid ((hb.block _ (lt_of_block QA.out)).trans QA.out)
  have S3 := Lib.hid (S2.out.mono BX.out)
  have OX := Lib.hid (OA.out.keep hb)
  clear OA
  clear hb hc BA RA QA CELL
  have hw2w : Hid (w.heap.size + 3 ≤ w2.heap.size) := S2.out.siz
  have hrow : Hid (wB.heap[r]? = _) := (S3.out.bel.block r hrl).trans RR.out.row
  have B4 := Lib.hid (S3.out.bel.alloc S3.out.bel.size (.cells #[] 69))
  have R4' := RR.out.below B4.out
  have c0 : (wB.alloc (.cells #[] 69)).cell? ⟨r, 0, none⟩ = some (.slice (some ⟨b, off, none⟩) N vcap) := row_cell R4'.row 0
  have RDL := Lib.hid R4'.list.rd
  have OM := Lib.hid (Rw.Ow.made (K := E3) wB wB.heap.size 69 (Nat.le_refl _))
  have hn9 : Hid (w2.heap.size ≤ g9) := n9
  have hn10 : Hid (w2.heap.size ≤ g10) := n10
  clear R4' D9 n9 n10 BX hi0
  go_wp2_with (at_builtin; refine Rw.all_step (K := E3) Tryz.underlying37 infoE3 rfl (by omega) rfl _ _ rfl wB.heap.size _ _ rfl OM.out _ L rfl RDL.out ?c1 ?c2 ?_)
  case c1 => simp only [List.length_nil]; have := HN.out; omega
  case c2 => simp
  intro v5 w5 o5 b5
  obtain ⟨g5, cap5, e5⟩ : ∃ g cap, v5 = .slice (some ⟨g, 0, none⟩) N cap := by
    obtain ⟨g, cap, e, _⟩ := o5.form (by have := HN.out; omega)
    rw [HN.out] at e
    exact ⟨g, cap, e⟩
  subst e5
  have bB5 : Below wB.heap.size wB w5 := ((Below.refl wB.heap.size wB).alloc (Nat.le_refl _) _).trans b5
  have Rw5 := (bB5.block r (lt_of_block hrow.out)).trans hrow.out
  have c5 : w5.cell? ⟨r, 0, none⟩ = some (.slice (some ⟨b, off, none⟩) N vcap) := row_cell Rw5 0
  have f5 := row_frozen Rw5 0
  have hr2 : r < w2.heap.size := by have := hw2w.out; omega
  have Row6 := Lib.hid (Rw.heap_setCell_same (j := 0) Rw5 (.slice (some ⟨g5, 0, none⟩) N cap5))
  have O6 : Hid (Only (fun k => k = r) w (w5.setCell ⟨r, 0, none⟩ (.slice (some ⟨g5, 0, none⟩) N cap5))) := ((Only.of_below S3.out.bel).then bB5).trans (Only.set (fun k => k = r) w5 (a := ⟨r, 0, none⟩) rfl _) fun _ _ g => g
  have OW6 := Lib.hid (o5.far (p := ⟨r, 0, none⟩) Rw5 (by decide) (.slice (some ⟨g5, 0, none⟩) N cap5))
  have other : ∀ k, k < wB.heap.size → k ≠ r → (w5.setCell ⟨r, 0, none⟩ (.slice (some ⟨g5, 0, none⟩) N cap5)).heap[k]? = wB.heap[k]? := fun k hk hne => (Below.heap_setCell w5 ⟨r, 0, none⟩ _ k hne).trans (bB5.block k hk)
  have N6 := Lib.hid ((other g9 (lt_of_block G9.out) (by have := hn9.out; omega)).trans G9.out)
  have M6 := Lib.hid ((other g10 (lt_of_block G10.out) (by have := hn10.out; omega)).trans G10.out)
  have T6 := Lib.hid ((other (w.heap.size + 2) (lt_of_block S3.out.res) (by omega)).trans S3.out.res)
  have U6 : Hid (Ow K4 (w5.setCell ⟨r, 0, none⟩ (.slice (some ⟨g5, 0, none⟩) N cap5)) w3.heap.size 71 (.slice ua q ucap) l2) := (OX.out.keep bB5).off (p := ⟨r, 0, none⟩) (OX.out.range (.inl (by have := hw3.out; show r < _; omega))) _
  have hwB : Hid (g9 < wB.heap.size ∧ g10 < wB.heap.size ∧ w.heap.size + 3 ≤ wB.heap.size) := ⟨lt_of_block G9.out, lt_of_block G10.out, S3.out.siz⟩
  have UB : Hid (∀ g, (Value.slice ua q ucap).ownBlock = some g → g < wB.heap.size) := fun g h => (ow_new OX.out g h).2
  clear b5 o5 Rw5 bB5 other B4 OM RDL c0 hrow G9 G10 S3 OX S2
  go_upto_region 12 with fail
  clear c5 f5
  generalize w5.setCell ⟨r, 0, none⟩ (.slice (some ⟨g5, 0, none⟩) N cap5) = w6 at *
  obtain ⟨_, _, hg5, _⟩ := own3 OW6.out HI.out
  have HG5 := Lib.hid hg5
  clear hg5
  have C0 : RC r (.slice (some ⟨g5, 0, none⟩) N cap5) d g9 p (.slice ua q ucap) w6.drew := ⟨Row6.out, N6.out⟩
  have c0 := Sc.cell_in (C := RC r (.slice (some ⟨g5, 0, none⟩) N cap5) d g9 p (.slice ua q ucap)) (a := ⟨r, 0, none⟩) (fun W' h => row_cell h.row 0)
  have r0 := Sc.cell_in (C := RC r (.slice (some ⟨g5, 0, none⟩) N cap5) d g9 p (.slice ua q ucap)) (a := ⟨g9, 0, none⟩) (fun W' h => row_cell h.box 0)
  have r1 := Sc.cell_in (C := RC r (.slice (some ⟨g5, 0, none⟩) N cap5) d g9 p (.slice ua q ucap)) (a := ⟨g9, 1, none⟩) (fun W' h => row_cell h.box 1)
  have ne : Nonempty (Sc.In (RC r (.slice (some ⟨g5, 0, none⟩) N cap5) d g9 p (.slice ua q ucap))) := ⟨⟨_, C0⟩⟩
  refine Sc.start (RC r (.slice (some ⟨g5, 0, none⟩) N cap5) d g9 p (.slice ua q ucap)) [(false, 0), (false, 1), (false, 2), (false, 3), (false, 4), (false, 5), (false, 6), (false, 7), (true, 8)] (by kernel_rfl) (by kernel_rfl) (by kernel_rfl) C0 ?_
  dsimp only [Sd.picks, List.getElem?_cons_succ, List.getElem?_cons_zero]
  repeat (refine Sd.lit ?_; quiet_step (fail); refine wpQuiet_nil ?_)
  have OW7 : Hid (Ow E3 w6.drew wB.heap.size 69 (.slice (some ⟨g5, 0, none⟩) N cap5) L) := OW6.out
  have U7 : Hid (Ow K4 w6.drew w3.heap.size 71 (.slice ua q ucap) l2) := U6.out
  have O7 : Hid (Only (fun k => k = r) w w6.drew) := O6.out.then ((Below.refl _ _).drew)
  have Row7 : Hid (w6.drew.heap[r]? = _) := Row6.out
  have N7 : Hid (w6.drew.heap[g9]? = _) := N6.out
  have M7 : Hid (w6.drew.heap[g10]? = _) := M6.out
  have T7 : Hid (w6.drew.heap[w.heap.size + 2]? = _) := T6.out
  clear c0 r0 r1 C0 OW6 U6 O6 Row6 N6 M6 T6
  generalize w6.drew = w7 at *
  refine Sd.call (by rfl) (fun K hK => ?_)
  obtain ⟨⟨_, q1, q2⟩, hfr, _, _⟩ := own3 OW7.out HI.out
  unfold Ent.sl at q2
  have f1 := hfr (i * 3 + 1)
  have f2 := hfr (i * 3 + 2)
  have hwg : w.heap.size ≤ g5 := by have := HG5.out; have := hwB.out.2.2; omega
  have old : ∀ k, k ≠ g5 → ((w7.setCell ⟨g5, i * 3 + 1, none⟩ (.int .i64 p)).setCell ⟨g5, i * 3 + 2, none⟩ (.slice ua q ucap)).heap[k]? = w7.heap[k]? := fun k hk => (Below.heap_setCell _ ⟨g5, i * 3 + 2, none⟩ _ k hk).trans (Below.heap_setCell _ ⟨g5, i * 3 + 1, none⟩ _ k hk)
  have g5r : r ≠ g5 := by omega
  have g59 : g9 ≠ g5 := by have := HG5.out; have := hwB.out.1; omega
  have g510 : g10 ≠ g5 := by have := HG5.out; have := hwB.out.2.1; omega
  have g52 : w.heap.size + 2 ≠ g5 := by have := HG5.out; have := hwB.out.2.2; omega
  have Row8 := Lib.hid ((old r g5r).trans Row7.out)
  have M8 := Lib.hid ((old g10 g510).trans M7.out)
  have T8 := Lib.hid ((old _ g52).trans T7.out)
  have CC : RC r (.slice (some ⟨g5, 0, none⟩) N cap5) d g9 p (.slice ua q ucap) ((w7.setCell ⟨g5, i * 3 + 1, none⟩ (.int .i64 p)).setCell ⟨g5, i * 3 + 2, none⟩ (.slice ua q ucap)) := ⟨(old r g5r).trans Row7.out, (old g9 g59).trans N7.out⟩
  have OW8 : Hid (Ow E3 ((w7.setCell ⟨g5, i * 3 + 1, none⟩ (.int .i64 p)).setCell ⟨g5, i * 3 + 2, none⟩ (.slice ua q ucap)) w.heap.size 69 (.slice (some ⟨g5, 0, none⟩) N cap5) (L.set i (⟨c.n, p, ua, ucap, l2⟩ : Ent))) := by
    have := set3 (c' := ⟨c.n, p, ua, ucap, l2⟩) OW7.out HN.out.symm HI.out rfl HCP.out.symm
    rw [ESL.out] at this
    exact this.low (by have := hwB.out.2.2; omega)
  have n8 : ∀ jj, (Value.slice ua q ucap).ownBlock ≠ some (⟨g5, jj, none⟩ : Addr).block := fun jj e => by
    have := UB.out g5 e
    have := HG5.out
    omega
  have U8 : Hid (Ow K4 ((w7.setCell ⟨g5, i * 3 + 1, none⟩ (.int .i64 p)).setCell ⟨g5, i * 3 + 2, none⟩ (.slice ua q ucap)) w3.heap.size 71 (.slice ua q ucap) l2) := (U7.out.off (n8 _) _).off (n8 _) _
  have O8 : Hid (Only (fun k => k = r) w ((w7.setCell ⟨g5, i * 3 + 1, none⟩ (.int .i64 p)).setCell ⟨g5, i * 3 + 2, none⟩ (.slice ua q ucap))) := O7.out.trans (Only.of_from (B := w.heap.size) (((Below.refl w.heap.size w7).setCell (p := ⟨g5, i * 3 + 1, none⟩) hwg _).setCell (p := ⟨g5, i * 3 + 2, none⟩) hwg _)) fun k hk g => by omega
  have hg52 := Lib.hid g52
  clear hfr old g5r g59 g510 g52 n8 OW7 U7 O7 Row7 N7 M7 T7
  go_simp
  refine hK _ _ (Sc.Cl.of CC) ?_
  clear hK K q1 q2 f1 f2 CC
  generalize (w7.setCell ⟨g5, i * 3 + 1, none⟩ (.int .i64 p)).setCell ⟨g5, i * 3 + 2, none⟩ (.slice ua q ucap) = w8' at *
  refine Sd.done ?_
  have y0 : w8'.cell? ⟨g10, 0, none⟩ = some (.int .u8 y.1) := row_cell M8.out 0
  have y1 : w8'.cell? ⟨g10, 1, none⟩ = some (.int .u8 y.2.1) := row_cell M8.out 1
  have y2 : w8'.cell? ⟨g10, 2, none⟩ = some (.int .u8 y.2.2.1) := row_cell M8.out 2
  have y3 : w8'.cell? ⟨g10, 3, none⟩ = some (.int .u8 y.2.2.2) := row_cell M8.out 3
  have d0 : w8'.cell? ⟨w.heap.size + 2, 0, none⟩ = some (.int .u8 0) := row_cell T8.out 0
  have d1 : w8'.cell? ⟨w.heap.size + 2, 1, none⟩ = some (.int .u8 0) := row_cell T8.out 1
  have d2 : w8'.cell? ⟨w.heap.size + 2, 2, none⟩ = some (.int .u8 0) := row_cell T8.out 2
  have d3 : w8'.cell? ⟨w.heap.size + 2, 3, none⟩ = some (.int .u8 0) := row_cell T8.out 3
  have k0 := row_frozen T8.out 0
  have k1 := row_frozen T8.out 1
  have k2 := row_frozen T8.out 2
  have k3 := row_frozen T8.out 3
  have R3 := Lib.hid (sto4_row T8.out y)
  have n52 : (Value.slice (some ⟨g5, 0, none⟩) N cap5).ownBlock ≠ some (w.heap.size + 2) := fun e => by
    have : g5 = w.heap.size + 2 := by simpa [Value.ownBlock] using e
    exact hg52.out this.symm
  have RES : Hid (RDPost w r F d y 0 ((L.set i (⟨c.n, p, none, 0, l2⟩ : Ent)).map Ent.abs) (.returned (.tuple #[rec4 y, .int .i64 0])) (sto4 w8' (w.heap.size + 2) 0 y)) := by
    refine FIN.out ua ucap (.slice (some ⟨g5, 0, none⟩) N cap5) _ (O8.out.trans (Only.of_from (B := w.heap.size) (sto4_below (o := 0) (r := y) (Below.refl w.heap.size w8') (by omega))) fun k hk g => by omega) (sto4_other Row8.out (by omega)) ?_ ?_
    · exact (((OW8.out.off (p := ⟨w.heap.size + 2, 0, none⟩) n52 _).off (p := ⟨w.heap.size + 2, 0 + 1, none⟩) n52 _).off (p := ⟨w.heap.size + 2, 0 + 2, none⟩) n52 _).off (p := ⟨w.heap.size + 2, 0 + 3, none⟩) n52 _
    · exact (sto4_off (o := 0) U8.out (U8.out.range (.inl (by have := hw3.out; have := hw2w.out; omega))) y).low (by have := hw3.out; have := hw2w.out; omega)
  clear M8 T8 OW8 U8 O8 Row8 n52 FIN
  go_wp2
  (try simp only [Exit.inBlock, Exit.then])
  exact bodyPost_ret (results_rec (p := 6) (r := 7) rfl _ _ (w.heap.size + 2) y (.int .i64 0) rfl rfl R3.out) rfl RES.out

theorem rdos_any {w : World} {r : Nat} {F : Nat → Prop} {A : Abs} {d : Int} (R : Rs w r F A d) (hF : ∀ k, F k → k < w.heap.size) (hd : 0 ≤ d ∧ d < 1000000) (o f j : Int) (x : R4) (hx : okR x) :
    Calls Tryz.prog 46 #[.pointer (some ⟨r, 0, none⟩), Ad.addr o f j, rec4 x] w (RDPost w r F (dD A o f j d) (dV A o f j x) (dE A o f j) (dA A o f j x)) := by
  obtain ⟨v, L, h, rfl⟩ := R
  have no : ∀ k e w', dE (L.map Ent.abs) o f j = k → k ≠ 0 → k ≠ 5 → DoNo w k e w' → RDPost w r F (dD (L.map Ent.abs) o f j d) (dV (L.map Ent.abs) o f j x) (dE (L.map Ent.abs) o f j) (dA (L.map Ent.abs) o f j x) e w' := fun k e w' hk h0 h5 ⟨he, b⟩ => by
    have e1 : dV (L.map Ent.abs) o f j x = z4 := by unfold dV; split; rfl; rw [hk, if_neg h0]
    have e2 : dA (L.map Ent.abs) o f j x = L.map Ent.abs := by unfold dA; split; rfl; rw [hk, if_neg h0]
    have e3 : dD (L.map Ent.abs) o f j d = d := by unfold dD; rw [hk, if_neg h5]
    rw [e1, e2, e3, hk]
    exact ⟨he, ⟨v, L, h.below b, rfl⟩, Only.of_below b⟩
  cases hn : goodB o f j with
  | false => exact (rdos_1 w r o f j x hn).mono fun e w' => no 1 e w' (by unfold dE; rw [if_neg (by rw [hn]; decide)]) (by decide) (by decide)
  | true =>
    cases hk : look Ent.n f L with
    | none => exact (rdos_3 h o f j x hn (ix_none hk)).mono fun e w' => no 3 e w' (by unfold dE; rw [if_pos hn, look_abs, hk]; rfl) (by decide) (by decide)
    | some c =>
      obtain ⟨i, hi, hq⟩ := ix_some (srtL h.ok) hk
      have e : dE (L.map Ent.abs) o f j = doE c.p c.l o j := by unfold dE; rw [if_pos hn, look_abs, hk]; rfl
      by_cases h0 : doE c.p c.l o j = 0
      · have e1 : dV (L.map Ent.abs) o f j x = newR c.l o j x := by
          unfold dV
          rw [e, h0, look_abs, hk]
          rfl
        have e2 : dA (L.map Ent.abs) o f j x = (L.set i (⟨c.n, c.p, none, 0, c.l.set j.toNat (newR c.l o j x)⟩ : Ent)).map Ent.abs := by
          have e4 : put Ent.n (⟨c.n, c.p, none, 0, c.l.set j.toNat (newR c.l o j x)⟩ : Ent) L = L.set i (⟨c.n, c.p, none, 0, c.l.set j.toNat (newR c.l o j x)⟩ : Ent) := put_set (srtL h.ok) hi rfl
          rw [← e4, abs_put]
          unfold dA
          rw [e, h0, look_abs, hk]
          obtain ⟨_, rfl⟩ := look_some hk
          rfl
        have e3 : dD (L.map Ent.abs) o f j d = d := by unfold dD; rw [e, h0, if_neg (by decide)]
        rw [e1, e2, e3, e, h0]
        exact rdos_0 h hF o f j x hx hn hi hq h0
      · have e1 : dV (L.map Ent.abs) o f j x = z4 := by
          unfold dV
          split
          · rfl
          · rw [e, if_neg h0]
        have e2 : dA (L.map Ent.abs) o f j x = L.map Ent.abs := by
          unfold dA
          split
          · rfl
          · rw [e, if_neg h0]
        rw [e1, e2, e]
        exact rdos_err h o f j _ x hn hi hq rfl h0 hd _ (by unfold dD; rw [e])

end Go.Proofs.YtilacdjekdngkaaGreatDoor.Fs

/- Lists of files held against each other. -/
namespace Go.Proofs.YtilacdjekdngkaaGreatDoor.Fs
open Go.RowKit Go.Maps
open Go.Proofs.YtilacdjekdngkaaGreatDoor.Fl (R4 z4 K4 rec4 rat file rsame_any sameF ret_bool)
open Go.Proofs.YtilacdjekdngkaaGreatDoor.Rw (Rd Ow At)
set_option maxRecDepth 100000
attribute [local irreducible] wpQuiet
instance decR4 : DecidableEq R4 := @instDecidableEqProd _ _ _ (@instDecidableEqProd _ _ _ (@instDecidableEqProd _ _ _ _))
instance decFil : DecidableEq Fil := @instDecidableEqProd _ _ _ (@instDecidableEqProd _ _ _ (@instDecidableEqList _ decR4))
instance decAbs (A B : Abs) : Decidable (A = B) := @instDecidableEqList _ decFil A B



theorem below_drew {B : Nat} {w w' : World} (h : Below B w w') (n : Nat) : Below B w (w'.drewN n) := ⟨h.os, h.tape, h.output, h.size, h.block⟩
set_option maxHeartbeats 2000000 in
theorem same_any {w : World} {F F' : Nat → Prop} {v v' : Value} {L L' : List Ent} (h : Lst F w v L) (h' : Lst F' w v' L') (hlen : L.length ≤ 64) :
    Calls Tryz.prog 9 #[v, v'] w fun e w' => e = .returned (.bool (decide (L.map Ent.abs = L'.map Ent.abs))) ∧ Below w.heap.size w w' := by
  obtain ⟨a, cap, rfl, _, _, h3⟩ := h.rd
  obtain ⟨a', cap', rfl, _, _, h3'⟩ := h'.rd
  have H3 := Lib.hid h3
  have H3' := Lib.hid h3'
  have FL := Lib.hid h.file
  have FL' := Lib.hid h'.file
  clear h h' h3 h3'
  by_cases hl : L.length = L'.length
  · have HL := Lib.hid hl
    rw [← hl]
    rw [← hl] at H3'
    clear hl
    generalize hn : L.length = N at *
    have HN := Lib.hid hn
    clear hn
    go_enter Tryz.func9, Tryz.ntmps9
    go_wp2
    go_loopw [5] (fun i wr => ∃ k : Nat, k ≤ N ∧ i = .int .i64 k ∧ Hid ((L.take k).map Ent.abs = (L'.take k).map Ent.abs) ∧ Hid (Below w.heap.size w wr)) (fun i _ => N - (intOf i).toNat)
    case atStart => exact ⟨0, Nat.zero_le _, rfl, rfl, Below.refl _ _⟩
    case round =>
      obtain ⟨k, hk, rfl, E, B⟩ := hrel
      by_cases hlt : k < N
      · have hkL : k < L.length := by have := HN.out; omega
        have hkL' : k < L'.length := by have := HL.out; have := HN.out; omega
        obtain ⟨⟨cn, cp, ca, cc, cl⟩, hc⟩ : ∃ c : Ent, L[k]? = some c := ⟨_, List.getElem?_eq_getElem hkL⟩
        obtain ⟨⟨dn, dp, da, dc, dl⟩, hd⟩ : ∃ c : Ent, L'[k]? = some c := ⟨_, List.getElem?_eq_getElem hkL'⟩
        obtain ⟨b, off, rfl, hA⟩ := H3.out (by omega)
        obtain ⟨b', off', rfl, hA'⟩ := H3'.out (by omega)
        obtain ⟨x0, x1, x2⟩ := at3 (hA.below B.out) hc
        obtain ⟨y0, y1, y2⟩ := at3 (hA'.below B.out) hd
        unfold Ent.sl at x2 y2
        simp only at x0 x1 x2 y0 y1 y2
        have RC : Hid (Rd K4 w (.slice ca cl.length cc) cl) := FL.out _ (List.mem_of_getElem? hc)
        have RD : Hid (Rd K4 w (.slice da dl.length dc) dl) := FL'.out _ (List.mem_of_getElem? hd)
        have NO : Hid (¬ (cn = dn ∧ cp = dp ∧ cl = dl) → ¬ (L.map Ent.abs = L'.map Ent.abs)) := fun hne e => by
          have e1 := congrArg (fun l : List Fil => l[k]?) e
          simp only [List.getElem?_map, hc, hd, Option.map_some, Ent.abs] at e1
          injection e1 with e1
          injection e1 with e1 e2
          injection e2 with e2 e3
          exact hne ⟨e1, e2, e3⟩
        have YES : Hid (cn = dn → cp = dp → cl = dl → (L.take (k + 1)).map Ent.abs = (L'.take (k + 1)).map Ent.abs) := fun e1 e2 e3 => by
          rw [List.take_add_one, List.take_add_one, hc, hd, List.map_append, List.map_append, E.out]
          simp [Ent.abs, e1, e2, e3]
        have SA := Lib.hid (fun W (hb : Below w.heap.size w W) => rsame_any W cp dp (.slice ca cl.length cc) (.slice da dl.length dc) cl dl (RC.out.below hb) (RD.out.below hb))
        clear hc hd hA hA' hkL hkL'
        by_cases he : cn = dn
        · subst he
          cases hs : sameF cp cl dp dl with
          | false =>
            rw [hs] at SA
            have RES : Hid (decide (L.map Ent.abs = L'.map Ent.abs) = false) := decide_eq_false (NO.out fun ⟨_, e2, e3⟩ => by unfold sameF at hs; rw [decide_eq_true ⟨e2, e3⟩] at hs; cases hs)
            clear NO YES RC RD hs
            generalize cl.length = q at *
            generalize dl.length = q' at *
            unfold file at SA
            go_wp2_with fail
            have s0 := Qb.cell_by x0
            have s1 := Qb.cell_by x1
            have s2 := Qb.cell_by x2
            have t0 := Qb.cell_by y0
            have t1 := Qb.cell_by y1
            have t2 := Qb.cell_by y2
            clear x0 x1 x2 y0 y1 y2
            have SB := Lib.hid (fun (P : Qb.By wr) => SA.out P.world (B.out.trans (P.below.mono B.out.size)))
            refine Qb.wp_region_by (by kernel_rfl) (by kernel_rfl) ?_
            repeat (quiet_step ((go_at_call 28; exact Qb.of_below (SB.out _))))
            refine wpQuiet_nil ?_
            intro _ hw'
            obtain ⟨pp, rfl⟩ := hw'
            go_wp2
            go_ret
            exact ⟨ret_bool RES.out.symm, B.out.trans (pp.below.mono B.out.size)⟩
          | true =>
            rw [hs] at SA
            have ST : Hid ((L.take (k + 1)).map Ent.abs = (L'.take (k + 1)).map Ent.abs) := by
              have := of_decide_eq_true hs
              exact YES.out rfl this.1 this.2
            clear NO YES RC RD hs
            generalize cl.length = q at *
            generalize dl.length = q' at *
            unfold file at SA
            go_wp2_with fail
            have s0 := Qb.cell_by x0
            have s1 := Qb.cell_by x1
            have s2 := Qb.cell_by x2
            have t0 := Qb.cell_by y0
            have t1 := Qb.cell_by y1
            have t2 := Qb.cell_by y2
            clear x0 x1 x2 y0 y1 y2
            have SB := Lib.hid (fun (P : Qb.By wr) => SA.out P.world (B.out.trans (P.below.mono B.out.size)))
            refine Qb.wp_region_by (by kernel_rfl) (by kernel_rfl) ?_
            repeat (quiet_step ((go_at_call 28; exact Qb.of_below (SB.out _))))
            refine wpQuiet_nil ?_
            intro _ hw'
            obtain ⟨pp, rfl⟩ := hw'
            clear s0 s1 s2 t0 t1 t2 SB SA
            have BP := Lib.hid (B.out.trans (pp.below.mono B.out.size))
            generalize pp.world = wp at *
            go_wp2
            go_roundw
            case rel => exact ⟨k + 1, by omega, by go_num, ST, BP⟩
            case measure => simp [intOf]; omega
        · have RES : Hid (decide (L.map Ent.abs = L'.map Ent.abs) = false) := decide_eq_false (NO.out fun h => he h.1)
          clear NO YES RC RD SA
          generalize cl.length = q at *
          generalize dl.length = q' at *
          go_wp2_with fail
          have s0 := Qb.cell_by x0
          have s1 := Qb.cell_by x1
          have s2 := Qb.cell_by x2
          have t0 := Qb.cell_by y0
          have t1 := Qb.cell_by y1
          have t2 := Qb.cell_by y2
          clear x0 x1 x2 y0 y1 y2
          refine Qb.wp_region_by (by kernel_rfl) (by kernel_rfl) ?_
          repeat (quiet_step (fail))
          refine wpQuiet_nil ?_
          intro _ hw'
          obtain ⟨pp, rfl⟩ := hw'
          go_wp2
          go_ret
          exact ⟨ret_bool RES.out.symm, B.out.trans (pp.below.mono B.out.size)⟩
      · obtain rfl : k = N := by omega
        have RES : Hid (decide (L.map Ent.abs = L'.map Ent.abs) = true) := by
          have e := E.out
          rw [List.take_of_length_le (by have := HN.out; omega), List.take_of_length_le (by have := HN.out; have := HL.out; omega)] at e
          exact decide_eq_true e
        go_wp2
        go_ret
        exact ⟨ret_bool RES.out.symm, B.out⟩
  · have RES : Hid (decide (L.map Ent.abs = L'.map Ent.abs) = false) := decide_eq_false fun e => hl (by have := congrArg List.length e; rwa [List.length_map, List.length_map] at this)
    have h3 : ¬ ((L.length : Int) = L'.length) := by omega
    clear hl H3 H3' FL FL'
    generalize L.length = N at *
    generalize L'.length = N' at *
    go_enter Tryz.func9, Tryz.ntmps9
    go_wp2
    go_ret
    exact ⟨ret_bool RES.out.symm, Below.refl _ _⟩
theorem same_is {w : World} {F F' : Nat → Prop} {v v' : Value} {A : Abs} (h : Ls F w v A) (h' : Ls F' w v' A) (hlen : A.length ≤ 64) :
    Calls Tryz.prog 9 #[v, v'] w fun e w' => e = .returned (.bool true) ∧ Below w.heap.size w w' := by
  obtain ⟨L, hL, rfl⟩ := h
  obtain ⟨L', hL', e⟩ := h'
  have := same_any hL hL' (by rwa [List.length_map] at hlen)
  rwa [decide_eq_true e.symm] at this

end Go.Proofs.YtilacdjekdngkaaGreatDoor.Fs

/- Lists of deeds, and both stores side by side. -/
namespace Go.Proofs.YtilacdjekdngkaaGreatDoor.Fs
open Go.RowKit Go.Maps
open Go.Proofs.YtilacdjekdngkaaGreatDoor.Fl (R4 z4 K4 rec4 rat goodF goodFB okR okL file arr4 row_cell row_frozen)
open Go.Proofs.YtilacdjekdngkaaGreatDoor.Rw (Rd Ow At)
set_option maxRecDepth 100000

def KD : Rw.Kind De := ⟨De.cells, 10, by decide, fun _ => rfl, fun D u h => by simp [De.cells] at h; rcases h with rfl | rfl | rfl | rfl | rfl | rfl | rfl | rfl | rfl | rfl <;> rfl, ⟨0, 0, 0, 0, z4, 0, none, 0, []⟩⟩
theorem at10 {w : World} {b off : Nat} {L : List De} (h : At KD w b off L) {i : Nat} {c : De} (hc : L[i]? = some c) : ∀ j u, c.cells[j]? = some u → w.cell? ⟨b, off + i * 10 + j, none⟩ = some u := by
  have hi := (List.getElem?_eq_some_iff.1 hc).1
  have e : L.getD i KD.dft = c := by rw [List.getD_eq_getElem?_getD, hc]; rfl
  intro j u hu
  exact h i hi j u (by rw [e]; exact hu)

/-- The code's store and the reference's. -/
structure Dd (w : World) (s r : Nat) (F : Nat → Prop) (A : Abs) (d : Int) (A' : Abs) (d' : Int) (W : World) : Prop where
  st : St W s F A d
  rs : Rs W r F A' d'
  lo : ∀ k, F k → w.heap.size ≤ k
  rlo : w.heap.size ≤ r
  bel : Below w.heap.size w W
section
variable {w W W' : World} {s r : Nat} {F : Nat → Prop} {A A' A2 : Abs} {d d' d2 : Int}
theorem Dd.off (h : Dd w s r F A d A' d' W) : ¬ F r := by obtain ⟨v, L, hh, _⟩ := h.rs; exact hh.off
theorem Dd.inS (h : Dd w s r F A d A' d' W) (st : St W' s (Fx F W W') A2 d2) (o : Only F W W') : Dd w s r (Fx F W W') A2 d2 A' d' W' :=
  ⟨st, h.rs.only o, fun k hk => by
    rcases hk with hk | ⟨hk, _⟩
    · exact h.lo k hk
    · have := h.bel.size; omega, h.rlo, h.bel.trans (o.below h.bel.size h.lo)⟩
theorem Dd.inR (h : Dd w s r F A d A' d' W) (rs : Rs W' r F A2 d2) (o : Only (fun k => k = r) W W') : Dd w s r F A d A2 d2 W' :=
  ⟨h.st.only (G := fun k => k = r) (fun k hk (e : k = r) => h.off (e ▸ hk)) o, rs, h.lo, h.rlo, h.bel.trans (o.below h.bel.size fun k hk => by subst hk; exact h.rlo)⟩
theorem Dd.below (h : Dd w s r F A d A' d' W) (b : Below W.heap.size W W') : Dd w s r F A d A' d' W' := ⟨h.st.below b, h.rs.below b, h.lo, h.rlo, h.bel.trans (b.mono h.bel.size)⟩
theorem Dd.glob (h : Dd w s r F A d A' d' W) (g : Glob w) : Glob W ∧ ¬ F 0 := ⟨g.below h.bel, fun hk => by have := h.lo _ hk; have : _ < w.heap.size := World.block_lt_of_cell? _ _ g; simp only at this; omega⟩
/-- A deed's file lies in what was there. -/
theorem Dd.offv (h : Dd w s r F A d A' d' W) {v u : Value} {l l' : List R4} (R : Rd K4 w v l) (hl : 0 < l'.length → 0 < l.length) (e : u.ownBlock = v.ownBlock) : 0 < l'.length → ∀ k, u.ownBlock = some k → ¬ (F k ∨ k = r) := fun h0 k hk hh => by
  rw [e] at hk
  have h1 := hl h0
  obtain ⟨a, cap, rfl, _, _, h3⟩ := R
  obtain ⟨b, off, rfl, hA⟩ := h3 h1
  obtain rfl : b = k := by simpa [Value.ownBlock] using hk
  have hlt : b < w.heap.size := World.block_lt_of_cell? _ _ (hA 0 h1 0 _ rfl)
  rcases hh with hh | rfl
  · have := h.lo _ hh; omega
  · have := h.rlo; omega
theorem rget_st {w : World} {r : Nat} {F : Nat → Prop} {A : Abs} {d : Int} (R : Rs w r F A d) (n k : Int) : Calls Tryz.prog 37 #[.pointer (some ⟨r, 0, none⟩), .int .i64 n, .int .i64 k] w (GetPost w (gV A n k) (gB A n k)) := by
  obtain ⟨v, L, h, rfl⟩ := R
  exact rget_any h n k
theorem dd_new (w : World) : Dd w w.heap.size (w.heap.size + 1) (fun k => k = w.heap.size) [] 0 [] 0 ((w.alloc (.cells #[.map none, .int .i64 0] 97)).alloc (.cells #[.slice none 0 0, .int .i64 0] 41)) := by
  have hb := below_new (w.alloc (.cells #[.map none, .int .i64 0] 97)) (.cells #[.slice none 0 0, .int .i64 0] 41)
  have hz : (w.alloc (.cells #[.map none, .int .i64 0] 97)).heap.size = w.heap.size + 1 := by simp
  have hr := heap_alloc_new (w.alloc (.cells #[.map none, .int .i64 0] 97)) (.cells #[.slice none 0 0, .int .i64 0] 41)
  rw [hz] at hr
  exact ⟨(new_st w).below hb, ⟨_, [], ⟨hr, by omega, ⟨Rw.Rd.nil _, (fun h => by simp at h), (fun c hc => by cases hc), (fun c hc => by cases hc)⟩, OkA.nil⟩, rfl⟩, fun k hk => by subst hk; exact Nat.le_refl _, by omega, (below_new w _).trans (hb.mono (by omega))⟩
/-- A block beside both. -/
structure Cb (F : Nat → Prop) (r : Nat) (W : World) (g : Nat) (cs : Array Value) (t : TypeId) : Prop where
  row : W.heap[g]? = some (.cells cs t (0, 0))
  off : ¬ F g
  ne : g ≠ r
theorem Cb.inS {g : Nat} {cs : Array Value} {t : TypeId} (h : Cb F r W g cs t) (o : Only F W W') : Cb (Fx F W W') r W' g cs t := ⟨(o.block g (lt_of_block h.row) h.off).trans h.row, Fx.not h.off (lt_of_block h.row), h.ne⟩
theorem Cb.inR {g : Nat} {cs : Array Value} {t : TypeId} (h : Cb F r W g cs t) (o : Only (fun k => k = r) W W') : Cb F r W' g cs t := ⟨(o.block g (lt_of_block h.row) h.ne).trans h.row, h.off, h.ne⟩
theorem Cb.below {g : Nat} {cs : Array Value} {t : TypeId} (h : Cb F r W g cs t) (b : Below W.heap.size W W') : Cb F r W' g cs t := ⟨(b.block g (lt_of_block h.row)).trans h.row, h.off, h.ne⟩
theorem Dd.box (h : Dd w s r F A d A' d' W) (cs : Array Value) (t : TypeId) : Cb F r (W.alloc (.cells cs t)) W.heap.size cs t := ⟨heap_alloc_new W _, fun hk => by have := h.st.low _ hk; omega, fun e => by obtain ⟨v, L, hh, _⟩ := h.rs; have := lt_of_block hh.row; omega⟩
end
theorem dD_le {A : Abs} {o f r d : Int} : d ≤ dD A o f r d ∧ dD A o f r d ≤ d + 1 := by unfold dD; split <;> omega

end Go.Proofs.YtilacdjekdngkaaGreatDoor.Fs

/- Arrays of eleven bools: as values, in memory, written in one place, handed on and compared. -/
namespace Go.Proofs.YtilacdjekdngkaaGreatDoor.Ua
open Go.RowKit

/-- The eleven cells of a frame. -/
def arr (F : Nat → Bool) : Array Value := #[.bool (F 0), .bool (F 1), .bool (F 2), .bool (F 3), .bool (F 4), .bool (F 5), .bool (F 6), .bool (F 7), .bool (F 8), .bool (F 9), .bool (F 10)]
theorem arr_size (F : Nat → Bool) : (arr F).size = 11 := rfl
theorem arr_one (F : Nat → Bool) : (arr F).all (·.oneCell') = true := by simp [arr, Value.oneCell']
theorem arr_get (F : Nat → Bool) (k : Nat) (h : k < 11) : (arr F)[k]? = some (.bool (F k)) := by
  rcases (by omega : k = 0 ∨ k = 1 ∨ k = 2 ∨ k = 3 ∨ k = 4 ∨ k = 5 ∨ k = 6 ∨ k = 7 ∨ k = 8 ∨ k = 9 ∨ k = 10) with rfl | rfl | rfl | rfl | rfl | rfl | rfl | rfl | rfl | rfl | rfl <;> rfl
theorem arr_set (F : Nat → Bool) (k : Nat) (h : k < 11) (x : Bool) : (arr F).setIfInBounds k (.bool x) = arr (upd F k x) := by
  rcases (by omega : k = 0 ∨ k = 1 ∨ k = 2 ∨ k = 3 ∨ k = 4 ∨ k = 5 ∨ k = 6 ∨ k = 7 ∨ k = 8 ∨ k = 9 ∨ k = 10) with rfl | rfl | rfl | rfl | rfl | rfl | rfl | rfl | rfl | rfl | rfl <;> rfl
theorem arr_congr {F G : Nat → Bool} (h : ∀ i, i < 11 → F i = G i) : arr F = arr G := by
  unfold arr
  rw [h 0 (by omega), h 1 (by omega), h 2 (by omega), h 3 (by omega), h 4 (by omega), h 5 (by omega), h 6 (by omega), h 7 (by omega), h 8 (by omega), h 9 (by omega), h 10 (by omega)]

/-- Block g holds just the frame. -/
def Row (w : World) (g : Nat) (F : Nat → Bool) : Prop := w.heap[g]? = some (.cells (arr F) 46 (0, 0))
section
variable {w w' : World} {g : Nat} {F : Nat → Bool}
theorem Row.lt (h : Row w g F) : g < w.heap.size := lt_of_block h
theorem Row.cell (h : Row w g F) (k : Nat) (hk : k < 11) : w.cell? ⟨g, k, none⟩ = some (.bool (F k)) := by rw [cell_of_row w g k _ _ (0, 0) h, arr_get F k hk]
theorem Row.frozen (h : Row w g F) (k : Nat) : w.frozen? ⟨g, k, none⟩ = false := frozen_of_row w g k _ _ h
theorem Row.new (w : World) (F : Nat → Bool) : Row (w.alloc (.cells (arr F) 46)) w.heap.size F := heap_alloc_new w _
theorem Row.draw (h : Row w g F) (n : Nat) : Row (w.drewN n) g F := h
theorem Row.alloc (h : Row w g F) (o : Obj) : Row (w.alloc o) g F := (Below.heap_alloc w o g h.lt).trans h
theorem Row.set_ (h : Row w g F) (k : Nat) (hk : k < 11) (x : Bool) : Row (w.setCell ⟨g, k, none⟩ (.bool x)) g (upd F k x) := by
  unfold Row at h ⊢
  rw [heap_setCell_same w g k _ _ _ h, arr_set F k hk x]
theorem Row.far (h : Row w g F) {p : Addr} (hp : g ≠ p.block) (u : Value) : Row (w.setCell p u) g F := (Below.heap_setCell w p u g hp).trans h
theorem Row.row (h : Row w g F) (G : Nat → Bool) : Row (w.setRow g (arr G)) g G := setRow_heap w g _ _ _ _ h
theorem Row.below {B : Nat} (h : Row w g F) (hb : Below B w w') (hg : g < B) : Row w' g F := (hb.block g hg).trans h
theorem Row.to {G : Nat → Bool} (h : Row w g F) (e : ∀ i, i < 11 → F i = G i) : Row w g G := by unfold Row at *; rw [h, arr_congr e]
theorem Row.load (h : Row w g F) : (loadVar 46 ⟨g, 0, none⟩).run Tryz.prog w = .ok (.agg (arr F)) w :=
  run_loadVar_row w g _ _ (arr F) (0, 0) _ h Tryz.underlying46 rfl (by rw [arr_size]; kernel_rfl)
end
theorem info : (Tryz.prog.info? 46).map (·.size) = some 11 := by kernel_rfl
theorem info_of (F : Nat → Bool) : (Tryz.prog.info? 46).map (·.size) = some (arr F).size := by rw [arr_size]; exact info

/-- The whole frame out of its block, and into one; a result that lies in a block. -/
theorem load_frame {ops : Array Oper} {rest : List Oper} {o : Oper} {a : Act} {w : World} {Q : Exit → Act → World → Prop} (hgd : o.guard = none) (x : Operand) (ho : o.op = .load 46 x)
    (g : Nat) (F : Nat → Bool) (hx : a.eval x = .pointer (some ⟨g, 0, none⟩)) (hrow : Row w g F) (h : wpList Tryz.prog ops Q rest (a.put o.dst (.agg (arr F))) w) : wpList Tryz.prog ops Q (o :: rest) a w :=
  wpList_load_row hgd _ x ho g hx _ _ _ _ hrow Tryz.underlying46 rfl (info_of _) h
theorem store_frame {ops : Array Oper} {rest : List Oper} {o : Oper} {a : Act} {w : World} {Q : Exit → Act → World → Prop} (hgd : o.guard = none) (x y : Operand) (ho : o.op = .store 46 x y)
    (g : Nat) (F G : Nat → Bool) (hx : a.eval x = .pointer (some ⟨g, 0, none⟩)) (hy : a.eval y = .agg (arr F)) (hrow : Row w g G) (h : wpList Tryz.prog ops Q rest (a.put o.dst undef) (w.setRow g (arr F))) : wpList Tryz.prog ops Q (o :: rest) a w :=
  wpList_store_row hgd _ x y ho g _ hx hy _ _ hrow (info_of _) rfl (arr_one _) h
/-- A frame into a block that was just made. -/
theorem store_new {ops : Array Oper} {rest : List Oper} {o : Oper} {a : Act} {w : World} {Q : Exit → Act → World → Prop} (hgd : o.guard = none) (x y : Operand) (ho : o.op = .store 46 x y)
    (F : Nat → Bool) (hx : a.eval x = .pointer (some ⟨w.heap.size, 0, none⟩)) (hy : a.eval y = .agg (arr F)) (h : wpList Tryz.prog ops Q rest (a.put o.dst undef) (w.alloc (.cells (arr F) 46))) :
    wpList Tryz.prog ops Q (o :: rest) a (w.alloc (.cells #[.bool false, .bool false, .bool false, .bool false, .bool false, .bool false, .bool false, .bool false, .bool false, .bool false, .bool false] 46)) :=
  store_frame hgd x y ho _ F (fun _ => false) hx hy (Row.new w (fun _ => false)) (by rw [World.setRow_alloc_new]; exact h)
/-- The last two operations of a function that hands a frame back: out of its block, and into the result's. -/
theorem copy_frame {ops : Array Oper} {rest : List Oper} {o o' : Oper} {a : Act} {w : World} {Q : Exit → Act → World → Prop} (hg : o.guard = none) (hg' : o'.guard = none) (x y : Operand) (d : Tmp) (ho : o.op = .load 46 x) (hd : o.dst = some d) (ho' : o'.op = .store 46 y (.tmp d))
    (g g' : Nat) (F G : Nat → Bool) (hx : a.eval x = .pointer (some ⟨g, 0, none⟩)) (hy : (a.put (some d) (.agg (arr F))).eval y = .pointer (some ⟨g', 0, none⟩)) (hz : (a.put (some d) (.agg (arr F))).eval (.tmp d) = .agg (arr F)) (hrow : Row w g F) (hrow' : Row w g' G)
    (h : wpList Tryz.prog ops Q rest ((a.put (some d) (.agg (arr F))).put o'.dst undef) (w.setRow g' (arr F))) : wpList Tryz.prog ops Q (o :: o' :: rest) a w :=
  load_frame hg x ho g F hx hrow (by rw [hd]; exact store_frame hg' y (.tmp d) ho' g' F G hy hz hrow' h)
theorem results_frame {fn : Func} {p : Tmp} (h : fn.results = #[.cell p 46]) (tmps : Array Value) (w : World) (g : Nat) (F : Nat → Bool) (hp : tmps.getD p undef = .pointer (some ⟨g, 0, none⟩)) (hrow : Row w g F) :
    (results fn tmps).run Tryz.prog w = .ok (.agg (arr F)) w := results_cell_row h tmps w g _ _ _ _ hp hrow Tryz.underlying46 rfl (info_of _)

theorem below_setRow {B : Nat} {a w : World} (h : Below B a w) (g : Nat) (cs : Array Value) (hg : B ≤ g) : Below B a (w.setRow g cs) :=
  ⟨h.os, h.tape, h.output, by rw [size_setRow]; exact h.size, fun k hk => (setRow_other w g k cs (by omega)).trans (h.block k hk)⟩

theorem ret_bool {a b : Bool} (h : a = b) : Ending.returned (.bool a) = .returned (.bool b) := by rw [h]
theorem ret_int {k : IntKind} {a b : Int} (h : a = b) : Ending.returned (.int k a) = .returned (.int k b) := by rw [h]
theorem ret_arr {F G : Nat → Bool} (h : ∀ i, i < 11 → F i = G i) : Ending.returned (.agg (arr F)) = .returned (.agg (arr G)) := by rw [arr_congr h]
/-- Two frames that are one are equal to Go. -/
theorem key_arr (F : Nat → Bool) : ∃ l, keyOf Tryz.prog 46 (.agg (arr F)) = some l := Option.isSome_iff_exists.1 (by kernel_rfl)
theorem eq_same (F : Nat → Bool) (w : World) : (Op.equalIn 10000 46 (.agg (arr F)) (.agg (arr F))).run Tryz.prog w = .ok true w := by
  obtain ⟨l, hl⟩ := key_arr F
  obtain ⟨r, hr, hiff⟩ := run_equal_deep (P := Tryz.prog) w (m := 2) (by omega) (by kernel_rfl) (by kernel_rfl) hl hl
  rw [hiff.2 rfl] at hr
  exact hr

theorem at_frame {P : Program} {f : Nat} {args : Array Value} {w : World} {F G : Nat → Bool} (e : ∀ i, i < 11 → F i = G i) (c : Calls P f args w fun e w' => e = .returned (.agg (arr F)) ∧ Below w.heap.size w w') : Calls P f args w fun e w' => e = .returned (.agg (arr G)) ∧ Below w.heap.size w w' := by rw [← arr_congr e]; exact c
theorem at_three {P : Program} {f : Nat} {args : Array Value} {w : World} {a c a' c' : Int} {p b' : Bool} (e1 : a = a') (e2 : p = b') (e3 : c = c') (h : Calls P f args w fun e w' => e = .returned (.tuple #[.int .u8 a, .bool p, .int .i64 c]) ∧ Below w.heap.size w w') :
    Calls P f args w fun e w' => e = .returned (.tuple #[.int .u8 a', .bool b', .int .i64 c']) ∧ Below w.heap.size w w' := by rw [← e1, ← e2, ← e3]; exact h

end Go.Proofs.YtilacdjekdngkaaGreatDoor.Ua

/- Slices of slices of entries, and arrays of seventeen numbers, in memory. -/
namespace Go.Proofs.YtilacdjekdngkaaGreatDoor.Ck
open Go.RowKit
open Go.Proofs.YtilacdjekdngkaaGreatDoor.Ro (E5 z5 eat ent K5 at5)
open Go.Proofs.YtilacdjekdngkaaGreatDoor.Rw (Rd Ow At)

/-- A slice's head: where it begins, how long it is, how long it may be. -/
abbrev Hd := Option Addr × Nat × Nat
def zh : Hd := (none, 0, 0)
def sl (h : Hd) : Value := .slice h.1 h.2.1 h.2.2
def KS : Rw.Kind Hd := ⟨fun h => [sl h], 1, by decide, fun _ => rfl, fun _ u h => by simp at h; subst h; rfl, zh⟩
/-- The slice v reads as the lists. -/
def RdL (w : World) (v : Value) (L : LL) : Prop := ∃ a cap, v = .slice a L.length cap ∧ (L.length ≤ cap ∧ (a = none → cap = 0)) ∧ cap ≤ maxLen ∧
  (0 < L.length → ∃ b off, a = some ⟨b, off, none⟩ ∧ ∀ i, i < L.length → ∃ u, w.cell? ⟨b, off + i, none⟩ = some u ∧ Rd K5 w u (lat L i))
section
variable {w w' : World} {v : Value} {L : LL}
theorem RdL.below (h : RdL w v L) (hb : Below w.heap.size w w') : RdL w' v L := by
  obtain ⟨a, cap, e, h1, h2, h3⟩ := h
  refine ⟨a, cap, e, h1, h2, fun hp => ?_⟩
  obtain ⟨b, off, ea, hA⟩ := h3 hp
  refine ⟨b, off, ea, fun i hi => ?_⟩
  obtain ⟨u, c, r⟩ := hA i hi
  exact ⟨u, (hb.cell (World.block_lt_of_cell? _ _ c)).trans c, r.below hb⟩
theorem RdL.slice (h : RdL w v L) : ∃ a cap, v = .slice a L.length cap ∧ cap ≤ maxLen := by
  obtain ⟨a, cap, e, _, h2, _⟩ := h
  exact ⟨a, cap, e, h2⟩
/-- One of the lists: its head in its cell, and what it reads as. -/
theorem RdL.one (h : RdL w v L) {k : Nat} (hk : k < L.length) : ∃ b off cap a' cap', v = .slice (some ⟨b, off, none⟩) L.length cap ∧ w.cell? ⟨b, off + k, none⟩ = some (.slice a' (lat L k).length cap') ∧ cap' ≤ maxLen ∧
    (0 < (lat L k).length → ∃ b' off', a' = some ⟨b', off', none⟩ ∧ At K5 w b' off' (lat L k)) := by
  obtain ⟨a, cap, e, h1, h2, h3⟩ := h
  obtain ⟨b, off, rfl, hA⟩ := h3 (by omega)
  obtain ⟨u, c, a', cap', rfl, g1, g2, g3⟩ := hA k hk
  exact ⟨b, off, cap, a', cap', e, c, g2, g3⟩
theorem RdL.rd (h : RdL w v L) {k : Nat} (hk : k < L.length) {b off cap : Nat} (e : v = .slice (some ⟨b, off, none⟩) L.length cap) {u : Value} (c : w.cell? ⟨b, off + k, none⟩ = some u) : Rd K5 w u (lat L k) := by
  obtain ⟨a, cap', e', h1, h2, h3⟩ := h
  obtain ⟨b', off', rfl, hA⟩ := h3 (by omega)
  rw [e] at e'
  injection e' with e1 _ _
  injection e1 with e1
  injection e1 with e1 e2 _
  subst e1 e2
  obtain ⟨u', c', r⟩ := hA k hk
  rw [c] at c'
  injection c' with c'
  subst c'
  exact r
/-- The first n of them. -/
theorem RdL.take {a : Option Addr} {n cap : Nat} (h : RdL w (.slice a n cap) L) {k : Nat} (hk : k ≤ L.length) : RdL w (.slice a k cap) (L.take k) := by
  obtain ⟨a', cap', e, h1, h2, h3⟩ := h
  injection e with e1 e2 e3
  subst e1 e2 e3
  have hl : (L.take k).length = k := by rw [List.length_take]; omega
  refine ⟨a, cap, by rw [hl], ⟨by omega, h1.2⟩, h2, fun hp => ?_⟩
  rw [hl] at hp
  obtain ⟨b, off, rfl, hA⟩ := h3 (by omega)
  refine ⟨b, off, rfl, fun i hi => ?_⟩
  rw [hl] at hi
  rw [lat_take hi]
  exact hA i (by omega)
/-- Heads that each read as a list. -/
theorem rdl_of {hs : List Hd} (h : Rd KS w v hs) (hl : hs.length = L.length) (each : ∀ i, i < L.length → Rd K5 w (sl (hs.getD i zh)) (lat L i)) : RdL w v L := by
  obtain ⟨a, cap, e, h1, h2, h3⟩ := h
  rw [hl] at e h1 h3
  refine ⟨a, cap, e, h1, h2, fun hp => ?_⟩
  obtain ⟨b, off, ea, hA⟩ := h3 hp
  refine ⟨b, off, ea, fun i hi => ⟨_, ?_, each i hi⟩⟩
  have c := hA i (by rw [hl]; exact hi) 0 _ rfl
  simp only [KS, Nat.mul_one, Nat.add_zero] at c
  exact c
end
theorem rd_head {w : World} {v : Value} {l : List E5} (h : Rd K5 w v l) : ∃ hd : Hd, v = sl hd := by
  obtain ⟨a, cap, e, _⟩ := h
  exact ⟨(a, l.length, cap), e⟩

/-! ### arrays of seventeen numbers -/
def ar (F : Nat → Int) : Array Value := #[.int .i64 (F 0), .int .i64 (F 1), .int .i64 (F 2), .int .i64 (F 3), .int .i64 (F 4), .int .i64 (F 5), .int .i64 (F 6), .int .i64 (F 7), .int .i64 (F 8), .int .i64 (F 9), .int .i64 (F 10), .int .i64 (F 11), .int .i64 (F 12), .int .i64 (F 13), .int .i64 (F 14), .int .i64 (F 15), .int .i64 (F 16)]
def upI (F : Nat → Int) (k : Nat) (x : Int) (i : Nat) : Int := if i = k then x else F i
theorem ar_size (F : Nat → Int) : (ar F).size = 17 := rfl
theorem ar_one (F : Nat → Int) : (ar F).all (·.oneCell') = true := by simp [ar, Value.oneCell']
theorem lt17 {k : Nat} (h : k < 17) : k = 0 ∨ k = 1 ∨ k = 2 ∨ k = 3 ∨ k = 4 ∨ k = 5 ∨ k = 6 ∨ k = 7 ∨ k = 8 ∨ k = 9 ∨ k = 10 ∨ k = 11 ∨ k = 12 ∨ k = 13 ∨ k = 14 ∨ k = 15 ∨ k = 16 := by omega
theorem ar_get (F : Nat → Int) (k : Nat) (h : k < 17) : (ar F)[k]? = some (.int .i64 (F k)) := by
  rcases lt17 h with rfl | rfl | rfl | rfl | rfl | rfl | rfl | rfl | rfl | rfl | rfl | rfl | rfl | rfl | rfl | rfl | rfl <;> rfl
theorem ar_set (F : Nat → Int) (k : Nat) (h : k < 17) (x : Int) : (ar F).setIfInBounds k (.int .i64 x) = ar (upI F k x) := by
  rcases lt17 h with rfl | rfl | rfl | rfl | rfl | rfl | rfl | rfl | rfl | rfl | rfl | rfl | rfl | rfl | rfl | rfl | rfl <;> rfl
theorem ar_congr {F G : Nat → Int} (h : ∀ i, i < 17 → F i = G i) : ar F = ar G := by
  unfold ar
  rw [h 0 (by omega), h 1 (by omega), h 2 (by omega), h 3 (by omega), h 4 (by omega), h 5 (by omega), h 6 (by omega), h 7 (by omega), h 8 (by omega), h 9 (by omega), h 10 (by omega), h 11 (by omega), h 12 (by omega), h 13 (by omega), h 14 (by omega), h 15 (by omega), h 16 (by omega)]
/-- Block g holds just the array. -/
def RowI (w : World) (g : Nat) (F : Nat → Int) : Prop := w.heap[g]? = some (.cells (ar F) 150 (0, 0))
section
variable {w w' : World} {g : Nat} {F : Nat → Int}
theorem RowI.lt (h : RowI w g F) : g < w.heap.size := lt_of_block h
theorem RowI.cell (h : RowI w g F) (k : Nat) (hk : k < 17) : w.cell? ⟨g, k, none⟩ = some (.int .i64 (F k)) := by rw [cell_of_row w g k _ _ (0, 0) h, ar_get F k hk]
theorem RowI.frozen (h : RowI w g F) (k : Nat) : w.frozen? ⟨g, k, none⟩ = false := frozen_of_row w g k _ _ h
theorem RowI.new (w : World) (F : Nat → Int) : RowI (w.alloc (.cells (ar F) 150)) w.heap.size F := heap_alloc_new w _
theorem RowI.set_ (h : RowI w g F) (k : Nat) (hk : k < 17) (x : Int) : RowI (w.setCell ⟨g, k, none⟩ (.int .i64 x)) g (upI F k x) := by
  unfold RowI at h ⊢
  rw [heap_setCell_same w g k _ _ _ h, ar_set F k hk x]
theorem RowI.far (h : RowI w g F) {p : Addr} (hp : g ≠ p.block) (u : Value) : RowI (w.setCell p u) g F := (Below.heap_setCell w p u g hp).trans h
theorem RowI.row (h : RowI w g F) (G : Nat → Int) : RowI (w.setRow g (ar G)) g G := setRow_heap w g _ _ _ _ h
theorem RowI.below {B : Nat} (h : RowI w g F) (hb : Below B w w') (hg : g < B) : RowI w' g F := (hb.block g hg).trans h
theorem RowI.to {G : Nat → Int} (h : RowI w g F) (e : ∀ i, i < 17 → F i = G i) : RowI w g G := by unfold RowI at *; rw [h, ar_congr e]
end
theorem infoI (F : Nat → Int) : (Tryz.prog.info? 150).map (·.size) = some (ar F).size := by rw [ar_size]; kernel_rfl
theorem load_ar {ops : Array Oper} {rest : List Oper} {o : Oper} {a : Act} {w : World} {Q : Exit → Act → World → Prop} (hgd : o.guard = none) (x : Operand) (ho : o.op = .load 150 x)
    (g : Nat) (F : Nat → Int) (hx : a.eval x = .pointer (some ⟨g, 0, none⟩)) (hrow : RowI w g F) (h : wpList Tryz.prog ops Q rest (a.put o.dst (.agg (ar F))) w) : wpList Tryz.prog ops Q (o :: rest) a w :=
  wpList_load_row hgd _ x ho g hx _ _ _ _ hrow Tryz.underlying150 rfl (infoI _) h
theorem store_ar {ops : Array Oper} {rest : List Oper} {o : Oper} {a : Act} {w : World} {Q : Exit → Act → World → Prop} (hgd : o.guard = none) (x y : Operand) (ho : o.op = .store 150 x y)
    (g : Nat) (F G : Nat → Int) (hx : a.eval x = .pointer (some ⟨g, 0, none⟩)) (hy : a.eval y = .agg (ar F)) (hrow : RowI w g G) (h : wpList Tryz.prog ops Q rest (a.put o.dst undef) (w.setRow g (ar F))) : wpList Tryz.prog ops Q (o :: rest) a w :=
  wpList_store_row hgd _ x y ho g _ hx hy _ _ hrow (infoI _) rfl (ar_one _) h
/-- An array into a block that was just made. -/
theorem store_ar_new {ops : Array Oper} {rest : List Oper} {o : Oper} {a : Act} {w : World} {Q : Exit → Act → World → Prop} (hgd : o.guard = none) (x y : Operand) (ho : o.op = .store 150 x y)
    (F : Nat → Int) (hx : a.eval x = .pointer (some ⟨w.heap.size, 0, none⟩)) (hy : a.eval y = .agg (ar F)) (h : wpList Tryz.prog ops Q rest (a.put o.dst undef) (w.alloc (.cells (ar F) 150))) :
    wpList Tryz.prog ops Q (o :: rest) a (w.alloc (.cells #[.int .i64 0, .int .i64 0, .int .i64 0, .int .i64 0, .int .i64 0, .int .i64 0, .int .i64 0, .int .i64 0, .int .i64 0, .int .i64 0, .int .i64 0, .int .i64 0, .int .i64 0, .int .i64 0, .int .i64 0, .int .i64 0, .int .i64 0] 150)) :=
  store_ar hgd x y ho _ F (fun _ => 0) hx hy (RowI.new w (fun _ => 0)) (by rw [World.setRow_alloc_new]; exact h)
theorem copy_ar {ops : Array Oper} {rest : List Oper} {o o' : Oper} {a : Act} {w : World} {Q : Exit → Act → World → Prop} (hg : o.guard = none) (hg' : o'.guard = none) (x y : Operand) (d : Tmp) (ho : o.op = .load 150 x) (hd : o.dst = some d) (ho' : o'.op = .store 150 y (.tmp d))
    (g g' : Nat) (F G : Nat → Int) (hx : a.eval x = .pointer (some ⟨g, 0, none⟩)) (hy : (a.put (some d) (.agg (ar F))).eval y = .pointer (some ⟨g', 0, none⟩)) (hz : (a.put (some d) (.agg (ar F))).eval (.tmp d) = .agg (ar F)) (hrow : RowI w g F) (hrow' : RowI w g' G)
    (h : wpList Tryz.prog ops Q rest ((a.put (some d) (.agg (ar F))).put o'.dst undef) (w.setRow g' (ar F))) : wpList Tryz.prog ops Q (o :: o' :: rest) a w :=
  load_ar hg x ho g F hx hrow (by rw [hd]; exact store_ar hg' y (.tmp d) ho' g' F G hy hz hrow' h)
theorem results_ar {fn : Func} {p : Tmp} (h : fn.results = #[.cell p 150]) (tmps : Array Value) (w : World) (g : Nat) (F : Nat → Int) (hp : tmps.getD p undef = .pointer (some ⟨g, 0, none⟩)) (hrow : RowI w g F) :
    (results fn tmps).run Tryz.prog w = .ok (.agg (ar F)) w := results_cell_row h tmps w g _ _ _ _ hp hrow Tryz.underlying150 rfl (infoI _)
/-- Results: a number, and an entry that lies in a block. -/
def row5 (x : E5) : Array Value := #[.int .i64 x.1, .int .i64 x.2.1, .int .i64 x.2.2.1, .int .i64 x.2.2.2.1, .int .i64 x.2.2.2.2]
def RowE (w : World) (g : Nat) (x : E5) : Prop := w.heap[g]? = some (.cells (row5 x) 75 (0, 0))
theorem RowE.lt {w : World} {g : Nat} {x : E5} (h : RowE w g x) : g < w.heap.size := lt_of_block h
theorem RowE.below {B : Nat} {w w' : World} {g : Nat} {x : E5} (h : RowE w g x) (hb : Below B w w') (hg : g < B) : RowE w' g x := (hb.block g hg).trans h
theorem results_who {fn : Func} {p r : Tmp} (h : fn.results = #[.tmp r, .cell p 75]) (tmps : Array Value) (w : World) (g1 : Nat) (n : Int) (x : E5)
    (hp : tmps.getD p undef = .pointer (some ⟨g1, 0, none⟩)) (hr : tmps.getD r undef = .int .i64 n) (h1 : RowE w g1 x) :
    (results fn tmps).run Tryz.prog w = .ok (.tuple #[.int .i64 n, ent x]) w := by
  have e1 := run_loadVar_row (P := Tryz.prog) w g1 75 75 (row5 x) (0, 0) _ h1 Tryz.underlying75 rfl (by show _ = some 5; kernel_rfl)
  have hp' : tmps[p]?.getD undef = .pointer (some ⟨g1, 0, none⟩) := by simpa using hp
  have hr' : tmps[r]?.getD undef = .int .i64 n := by simpa using hr
  simp only [results, h]
  simp [Result.andThen, hp', hr', asAddr, e1, ent, row5]

end Go.Proofs.YtilacdjekdngkaaGreatDoor.Ck

/- Nodes in memory: lists of stores, of tables, of bools, of spoils; and the map of what was heard. -/
namespace Go.Proofs.YtilacdjekdngkaaGreatDoor.Pa
open Go.RowKit Go.Maps
open Go.Proofs.YtilacdjekdngkaaGreatDoor.Fl (R4 z4 K4 rec4 rat okR okL arr4 row_cell row_frozen)
open Go.Proofs.YtilacdjekdngkaaGreatDoor.Fs (Abs St Rs Only Fx gB gV sB sA dA dE dD Wf OkA law keyI Rh)
open Go.Proofs.YtilacdjekdngkaaGreatDoor.Rw (Rd Ow At)
open Go.Proofs.YtilacdjekdngkaaGreatDoor.Ro (E5 z5 okE eat K5 at5 ent may_each okE_bounds)
open Go.Proofs.YtilacdjekdngkaaGreatDoor.Ck (LL lat sN sE tE bI RdL who_cases who_ge may_all)
set_option maxRecDepth 100000

/-! ### kinds of elements -/
def ptr (s : Nat) : Value := .pointer (some ⟨s, 0, none⟩)
def KN : Rw.Kind Nat := ⟨fun s => [ptr s], 1, by decide, fun _ => rfl, fun _ u h => by simp at h; subst h; rfl, 0⟩
def pv (p : Option Nat) : Value := .pointer (p.map fun s => ⟨s, 0, none⟩)
def KP : Rw.Kind (Option Nat) := ⟨fun p => [pv p], 1, by decide, fun _ => rfl, fun p u h => by simp at h; subst h; cases p <;> rfl, none⟩
def KB : Rw.Kind Bool := ⟨fun b => [.bool b], 1, by decide, fun _ => rfl, fun _ u h => by simp at h; subst h; rfl, false⟩
def K2 : Rw.Kind S2 := ⟨fun x => [.int .i64 x.1, .int .i64 x.2], 2, by decide, fun _ => rfl, fun _ u h => by simp at h; rcases h with rfl | rfl <;> rfl, z2⟩
section
variable {w : World} {b off : Nat}
theorem atN {l : List Nat} (h : At KN w b off l) {i : Nat} (hi : i < l.length) : w.cell? ⟨b, off + i, none⟩ = some (ptr (l.getD i 0)) := by
  have c := h i hi 0 _ rfl
  simpa [KN] using c
theorem atP {l : List (Option Nat)} (h : At KP w b off l) {i : Nat} (hi : i < l.length) : w.cell? ⟨b, off + i, none⟩ = some (pv (l.getD i none)) := by
  have c := h i hi 0 _ rfl
  simpa [KP] using c
theorem atB {l : List Bool} (h : At KB w b off l) {i : Nat} (hi : i < l.length) : w.cell? ⟨b, off + i, none⟩ = some (.bool (l.getD i false)) := by
  have c := h i hi 0 _ rfl
  simpa [KB] using c
theorem at2 {l : List S2} (h : At K2 w b off l) {i : Nat} (hi : i < l.length) : w.cell? ⟨b, off + i * 2, none⟩ = some (.int .i64 (pat l i).1) ∧ w.cell? ⟨b, off + i * 2 + 1, none⟩ = some (.int .i64 (pat l i).2) :=
  ⟨h i hi 0 _ rfl, h i hi 1 _ rfl⟩
theorem rd_some {v : Value} {l : List Nat} (h : Rd KN w v l) : Rd KP w v (l.map some) := by
  obtain ⟨a, cap, e, h1, h2, h3⟩ := h
  refine ⟨a, cap, by rw [List.length_map]; exact e, by rw [List.length_map]; exact h1, h2, fun h0 => ?_⟩
  rw [List.length_map] at h0
  obtain ⟨b, off, ea, hA⟩ := h3 h0
  refine ⟨b, off, ea, fun i hi j u hu => ?_⟩
  rw [List.length_map] at hi
  have : KP.enc ((l.map some).getD i KP.dft) = KN.enc (l.getD i KN.dft) := by
    rw [List.getD_eq_getElem?_getD, List.getElem?_map, List.getElem?_eq_getElem hi, List.getD_eq_getElem?_getD, List.getElem?_eq_getElem hi]
    rfl
  rw [this] at hu
  exact hA i hi j u hu
end

/-! ### stores -/
def Has (w : World) (s : Nat) (x : Abs × Int) : Prop := ∃ F, St w s F x.1 x.2
def Hrf (w : World) (r : Nat) (x : Abs × Int) : Prop := Rs w r (fun _ => False) x.1 x.2
def Stl (w : World) (v : Value) (S : Sts) : Prop := ∃ ps : List Nat, Rd KN w v ps ∧ ps.length = S.length ∧ ∀ i, i < S.length → Has w (ps.getD i 0) (sat S i)
def Rfl (w : World) (v : Value) (S : Sts) : Prop := ∃ ps : List Nat, Rd KN w v ps ∧ ps.length = S.length ∧ ∀ i, i < S.length → Hrf w (ps.getD i 0) (sat S i)
section
variable {w w' : World} {s : Nat} {x : Abs × Int} {v : Value} {S : Sts}
theorem Has.below (h : Has w s x) (b : Below w.heap.size w w') : Has w' s x := by obtain ⟨F, h⟩ := h; exact ⟨F, h.below b⟩
theorem Hrf.below (h : Hrf w s x) (b : Below w.heap.size w w') : Hrf w' s x := Fs.Rs.below h b
theorem Has.okA (h : Has w s x) : OkA x.1 := by obtain ⟨F, h⟩ := h; exact h.okA
theorem Hrf.okA (h : Hrf w s x) : OkA x.1 := by obtain ⟨v, L, h, e⟩ := h; rw [← e]; exact h.ok
theorem Stl.below (h : Stl w v S) (b : Below w.heap.size w w') : Stl w' v S := by obtain ⟨ps, h1, h2, h3⟩ := h; exact ⟨ps, h1.below b, h2, fun i hi => (h3 i hi).below b⟩
theorem Rfl.below (h : Rfl w v S) (b : Below w.heap.size w w') : Rfl w' v S := by obtain ⟨ps, h1, h2, h3⟩ := h; exact ⟨ps, h1.below b, h2, fun i hi => (h3 i hi).below b⟩
theorem Stl.slice (h : Stl w v S) : ∃ a cap, v = .slice a S.length cap ∧ cap ≤ maxLen := by obtain ⟨ps, h1, h2, _⟩ := h; rw [← h2]; exact h1.slice
theorem Rfl.slice (h : Rfl w v S) : ∃ a cap, v = .slice a S.length cap ∧ cap ≤ maxLen := by obtain ⟨ps, h1, h2, _⟩ := h; rw [← h2]; exact h1.slice
/-- One of them. -/
theorem Stl.one (h : Stl w v S) {k : Nat} (hk : k < S.length) : ∃ b off cap s, v = .slice (some ⟨b, off, none⟩) S.length cap ∧ w.cell? ⟨b, off + k, none⟩ = some (ptr s) ∧ Has w s (sat S k) := by
  obtain ⟨ps, h1, h2, h3⟩ := h
  obtain ⟨a, cap, e, _, _, g⟩ := h1
  obtain ⟨b, off, rfl, hA⟩ := g (by omega)
  exact ⟨b, off, cap, _, by rw [← h2]; exact e, atN hA (by omega), h3 k hk⟩
theorem Rfl.one (h : Rfl w v S) {k : Nat} (hk : k < S.length) : ∃ b off cap s, v = .slice (some ⟨b, off, none⟩) S.length cap ∧ w.cell? ⟨b, off + k, none⟩ = some (ptr s) ∧ Hrf w s (sat S k) := by
  obtain ⟨ps, h1, h2, h3⟩ := h
  obtain ⟨a, cap, e, _, _, g⟩ := h1
  obtain ⟨b, off, rfl, hA⟩ := g (by omega)
  exact ⟨b, off, cap, _, by rw [← h2]; exact e, atN hA (by omega), h3 k hk⟩
end

/-! ### nodes -/
/-- Nodes that may be, as the program has them. -/
structure Ns (w : World) (vs vt vl : Value) (S : Sts) (T : LL) (V : List Bool) : Prop where
  st : Stl w vs S
  tb : RdL w vt T
  lv : Rd KB w vl V
  lt : T.length = S.length
  ll : V.length = S.length
  ok : tE T = 0
/-- As the document has them. -/
structure Nr (w : World) (vs vt vl : Value) (S : Sts) (T : LL) (V : List Bool) : Prop where
  st : Rfl w vs S
  tb : RdL w vt T
  lv : Rd KB w vl V
  lt : T.length = S.length
  ll : V.length = S.length
  ok : tE T = 0
section
variable {w w' : World} {vs vt vl : Value} {S : Sts} {T : LL} {V : List Bool}
theorem Ns.below (h : Ns w vs vt vl S T V) (b : Below w.heap.size w w') : Ns w' vs vt vl S T V := ⟨h.st.below b, h.tb.below b, h.lv.below b, h.lt, h.ll, h.ok⟩
theorem Nr.below (h : Nr w vs vt vl S T V) (b : Below w.heap.size w w') : Nr w' vs vt vl S T V := ⟨h.st.below b, h.tb.below b, h.lv.below b, h.lt, h.ll, h.ok⟩
theorem wf_of {n : Int} (h : 0 ≤ n ∧ n ≤ 1000) : Wf n := by
  have e1 : IntKind.i64.min = -9223372036854775808 := rfl
  have e2 : IntKind.i64.max = 9223372036854775807 := rfl
  show (decide (IntKind.i64.min ≤ n) && decide (n ≤ IntKind.i64.max)) = true
  rw [e1, e2, Bool.and_eq_true, decide_eq_true_eq, decide_eq_true_eq]
  omega
theorem not_bad (h : tE T = 0) : ¬ 0 ≤ bI T := fun g => by
  have := (Ck.t_form g).2
  omega
/-- Of a table that may be. -/
theorem tab_each (h : tE T = 0) {k : Nat} (hk : k < T.length) : ∀ x ∈ lat T k, okE x ∧ x.1 ≠ 4 := may_each (may_all (not_bad h) k hk)
end

end Go.Proofs.YtilacdjekdngkaaGreatDoor.Pa

/- The maps of layer 14: of slots, what was heard; of records' places, the entries that receive them. -/
namespace Go.Proofs.YtilacdjekdngkaaGreatDoor.Pa
open Go.RowKit Go.Maps
open Go.Proofs.YtilacdjekdngkaaGreatDoor.Fs (Wf law keyI Rh)
open Go.Proofs.YtilacdjekdngkaaGreatDoor.Rw (Rd Ow At)
open Go.Proofs.YtilacdjekdngkaaGreatDoor.Ro (E5 z5 eat K5)
set_option maxRecDepth 100000

/-! ### what was heard -/
def bv (y : Int) : Value := .int .u8 y
structure HIs (D : DataW Value) (h : Hr) : Prop where
  has : ∀ n, Wf n → Maps.has D (.int .i64 n) = (h n).isSome
  val : ∀ n y, Wf n → h n = some y → ∀ z, D.atKey (.int .i64 n) z = .held (bv y)
/-- Block b is a map that says what h says. -/
def HBl (w : World) (b N : Nat) (h : Hr) : Prop := ∃ D, w.ownsMap Tryz.prog 3 Rh b N D ∧ HIs D h
def HMap (w : World) (v : Value) (h : Hr) : Prop := ∃ b N, v = .map (some b) ∧ HBl w b N h
theorem zeroB (w : World) : (zeroValue 5).run Tryz.prog w = .ok (.int .u8 0) w := by kernel_rfl
section
variable {w w' : World} {v : Value} {h : Hr} {b N : Nat}
theorem HBl.lt (M : HBl w b N h) : b < w.heap.size := by obtain ⟨D, o, _⟩ := M; exact o.lt
theorem HBl.kept (M : HBl w b N h) (e : w'.heap[b]? = w.heap[b]?) : HBl w' b N h := by
  obtain ⟨D, ⟨es, clock, hb, F, hs, hD⟩, I⟩ := M
  exact ⟨D, ⟨es, clock, e.trans hb, F, hs, hD⟩, I⟩
theorem HBl.below (M : HBl w b N h) (hb : Below w.heap.size w w') : HBl w' b N h := M.kept (hb.block b M.lt)
theorem HMap.below (M : HMap w v h) (hb : Below w.heap.size w w') : HMap w' v h := by
  obtain ⟨b, N, e, M⟩ := M
  exact ⟨b, N, e, M.below hb⟩
theorem HMap.only {G : Nat → Prop} (M : HMap w v h) (ho : Fs.Only G w w') (hn : ∀ b, v = .map (some b) → ¬ G b) : HMap w' v h := by
  obtain ⟨b, N, e, M⟩ := M
  exact ⟨b, N, e, M.kept (ho.block b M.lt (hn b e))⟩
theorem run_heard (M : HMap w v h) {n : Int} (hn : Wf n) : (Instr.lookup 57 v (.int .i64 n) true).run Tryz.prog w = .ok (.tuple #[bv ((h n).getD 0), .bool (h n).isSome]) w := by
  obtain ⟨b, N, rfl, D, o, I⟩ := M
  obtain ⟨u, ps, hr, hu⟩ := o.look_ok law Tryz.underlying57 (zeroB w) (zd := .held (bv 0)) (zp := []) rfl (keyI hn)
  rw [hr, I.has n hn]
  have : u = bv ((h n).getD 0) := by
    have e : DataW.held u = D.atKey (.int .i64 n) (.held (bv 0)) := by simp [Rh] at hu; exact hu.1
    rcases ey : h n with _ | y
    · have := I.has n hn
      rw [ey] at this
      rw [atKey_of_not_has this] at e
      injection e
    · rw [I.val n y hn ey] at e
      injection e
  rw [this]
theorem at_heard {ops : Array Oper} {rest : List Oper} {o : Oper} {a : Act} {Q : Exit → Act → World → Prop} (hgd : Region.wanted o (yielded ops a.tmps) = true) (p x : Operand) (hop : o.op = .lookup 57 p x true) (hm : a.eval p = v) (M : HMap w v h) (n : Int) (hx : a.eval x = .int .i64 n) (hn : Wf n) (y : Int) (q : Bool) (hy : (h n).getD 0 = y) (hq : (h n).isSome = q)
    (hK : wpList Tryz.prog ops Q rest (a.put o.dst (.tuple #[.int .u8 y, .bool q])) w) : wpList Tryz.prog ops Q (o :: rest) a w := by
  refine BigFrame.wpList_want hgd fun K' hK' => ?_
  have hr := run_heard M hn
  rw [hy, hq] at hr
  unfold Oper.wp
  simp [execOp, hop, hm, hx, hr, Result.andThen]
  exact hK' _ _ (by simpa [bv] using hK)
/-- One slot more. -/
def hput (h : Hr) (n y : Int) : Hr := fun m => if m = n then some y else h m
theorem HIs.put {D : DataW Value} (I : HIs D h) (hD : IsMap D) {n y : Int} (hn : Wf n) : HIs (D.put (.int .i64 n) (.held (bv y))) (hput h n y) where
  has m hm := by
    unfold hput
    by_cases e : m = n
    · subst e
      rw [has_put_same hD (law.key (keyI hn)), if_pos rfl]
      rfl
    · rw [has_put_other (fun e2 => e (by injection e2)), if_neg e]
      exact I.has m hm
  val m z hm hz u := by
    unfold hput at hz
    by_cases e : m = n
    · subst e
      rw [if_pos rfl] at hz
      injection hz with hz
      subst hz
      exact atKey_put_same hD (law.key (keyI hn)) _ _
    · rw [if_neg e] at hz
      rw [atKey_put_other (fun e2 => e (by injection e2))]
      exact I.val m z hm hz u
theorem run_hput (M : HBl w b N h) (hN : N < maxLen) {n y : Int} (hn : Wf n) : ∃ w', (Instr.mapUpdate 57 (.map (some b)) (.int .i64 n) (bv y)).run Tryz.prog w = .ok () w' ∧ HBl w' b (N + 1) (hput h n y) ∧ w.grownBy w' (some b) := by
  obtain ⟨D, o, I⟩ := M
  obtain ⟨w', hr, h', hg⟩ := o.update law Tryz.underlying57 hN (keyI hn) (val := bv y) (d := .held (bv y)) (ps := []) rfl
  exact ⟨w', hr, ⟨_, h', I.put o.isMap hn⟩, hg⟩
theorem at_hput {ops : Array Oper} {rest : List Oper} {o : Oper} {a : Act} {Q : Exit → Act → World → Prop} (hgd : Region.wanted o (yielded ops a.tmps) = true) (p x u : Operand) (hop : o.op = .mapUpdate 57 p x u) (hm : a.eval p = .map (some b)) (M : HBl w b N h) (hN : N < maxLen) (n y : Int) (hx : a.eval x = .int .i64 n) (hu : a.eval u = .int .u8 y) (hn : Wf n)
    (hK : ∀ w', HBl w' b (N + 1) (hput h n y) → w.grownBy w' (some b) → wpList Tryz.prog ops Q rest (a.put o.dst undef) w') : wpList Tryz.prog ops Q (o :: rest) a w := by
  refine BigFrame.wpList_want hgd fun K' hK' => ?_
  obtain ⟨w', hr, h1, h2⟩ := run_hput M hN (y := y) hn
  unfold bv at hr
  unfold Oper.wp
  simp [execOp, hop, hm, hx, hu, hr, Result.andThen]
  exact hK' _ _ (hK w' h1 h2)
theorem hbl_new (w : World) : HBl (w.alloc (.map #[] 0)) w.heap.size 0 (fun _ => none) := ⟨_, World.ownsMap_made _ _ _ _, fun _ _ => rfl, fun _ _ _ h => by cases h⟩
end

/-! ### places -/
def plc (f r : Int) : Value := .agg #[.int .i64 f, .int .i64 r]
theorem laidOutP : laidOutB Tryz.prog = true := by kernel_rfl
theorem lawP : WideMaps.KeyLaw Tryz.prog 113 := deep_law_laid laidOutP (m := 2) (by omega) (of_decide_eq_true (by kernel_rfl)) (by kernel_rfl) (by kernel_rfl)
theorem keyedP : Keyed Tryz.prog 113 := Keyed.of_law lawP
theorem cellsP : Tryz.prog.cellsOf 113 = 2 := by kernel_rfl
theorem cellsI : Tryz.prog.cellsOf 3 = 1 := by kernel_rfl
theorem sizeP : ∃ m, Tryz.prog.types.size = m + 1 := by
  have : 0 < Tryz.prog.types.size := of_decide_eq_true (by kernel_rfl)
  exact ⟨Tryz.prog.types.size - 1, (Nat.succ_pred_eq_of_pos this).symm⟩
theorem litsI (d : Nat) (f : Int) : Tryz.prog.keyLits (d + 1) 3 [.int .i64 f] = if (Lit.int .i64 f).wf = true then some [.int .i64 f] else none := by
  unfold Program.keyLits
  simp [Tryz.underlying3]
theorem keyP {f r : Int} (hf : Wf f) (hr : Wf r) : keyOf Tryz.prog 113 (plc f r) = some (.string (keyBytes [.int .i64 f, .int .i64 r])) := by
  have h1 : Tryz.prog.keyType 113 = true := by kernel_rfl
  have h2 : (plc f r).formed Tryz.prog 113 = true := by simp [plc, Value.formed, Tryz.underlying113, cellsP]
  obtain ⟨m, hm⟩ := sizeP
  have h4 : Tryz.prog.keyLits (Tryz.prog.types.size + 1) 113 (plc f r).cells.toList = some [.int .i64 f, .int .i64 r] := by
    have e : (plc f r).cells.toList = [.int .i64 f, .int .i64 r] := rfl
    have f1 : (Lit.int .i64 f).wf = true := hf
    have f2 : (Lit.int .i64 r).wf = true := hr
    have g1 := litsI m f
    have g2 := litsI m r
    rw [if_pos f1] at g1
    rw [if_pos f2] at g2
    rw [e, hm]
    unfold Program.keyLits
    simp [Tryz.underlying113, cellsP, cellsI, g1, g2]
  unfold keyOf
  simp only [Tryz.underlying113, h1, h2, h4, Bool.and_self, if_true, Option.map_some]
theorem keyP_inv {v : Value} {kl : Lit} (h : keyOf Tryz.prog 113 v = some kl) : ∃ f r, v = plc f r ∧ Wf f ∧ Wf r := by
  unfold keyOf at h
  simp only [Tryz.underlying113] at h
  split at h
  · rename_i hc
    rw [Bool.and_eq_true] at hc
    obtain ⟨_, hfm⟩ := hc
    obtain ⟨xs, rfl, hs⟩ : ∃ xs, v = .agg xs ∧ xs.size = 2 := by
      cases v <;> simp [Value.formed, Tryz.underlying113, cellsP] at hfm
      exact ⟨_, rfl, hfm⟩
    obtain ⟨m, hm⟩ := sizeP
    obtain ⟨l⟩ := xs
    match l, hs with
    | [a, b], _ =>
      have e : (Value.agg (Array.mk [a, b])).cells.toList = [a, b] := rfl
      rw [e, hm] at h
      unfold Program.keyLits at h
      simp [Tryz.underlying113, cellsP, cellsI] at h
      rcases e1 : Tryz.prog.keyLits (m + 1) 3 [a] with _ | x
      · rw [e1] at h
        simp at h
      · rcases e2 : Tryz.prog.keyLits (m + 1) 3 [b] with _ | y
        · rw [e1, e2] at h
          simp at h
        · obtain ⟨n, h5, _⟩ := keyLits_int' Tryz.underlying3 e1
          obtain ⟨m', h8, _⟩ := keyLits_int' Tryz.underlying3 e2
          obtain rfl : a = .int .i64 n := by simpa using h5
          obtain rfl : b = .int .i64 m' := by simpa using h8
          refine ⟨n, m', rfl, ?_, ?_⟩
          · rw [litsI] at e1
            by_cases g : (Lit.int .i64 n).wf = true
            · exact g
            · rw [if_neg g] at e1; cases e1
          · rw [litsI] at e2
            by_cases g : (Lit.int .i64 m').wf = true
            · exact g
            · rw [if_neg g] at e2; cases e2
  · cases h

def pk (f r : Int) : Lit := .string (keyBytes [.int .i64 f, .int .i64 r])
theorem pk_inj {f r f' r' : Int} (h1 : Wf f) (h2 : Wf r) (h3 : Wf f') (h4 : Wf r') (e : pk f r = pk f' r') : f = f' ∧ r = r' := by
  have k1 := keyP h1 h2
  have k2 := keyP h3 h4
  rw [show Lit.string (keyBytes [.int .i64 f', .int .i64 r']) = pk f r from e.symm] at k2
  have := keyedP.inj k1 k2
  unfold plc at this
  injection this with this
  have e1 := congrArg (fun t : Array Value => t[0]?) this
  have e2 := congrArg (fun t : Array Value => t[1]?) this
  simp at e1 e2
  exact ⟨e1, e2⟩

/-! ### entries by places -/
/-- Block b is the map of the places of t's entries: of each, a slice of its own. -/
structure Gm (w : World) (b N : Nat) (t : List E5) (vs : Int → Int → Value) (D : DataW Value) : Prop where
  own : w.ownsMap Tryz.prog 113 Rh b N D
  has : ∀ f r, Wf f → Wf r → Maps.has D (pk f r) = decide (grp t f r ≠ [])
  val : ∀ f r, Wf f → Wf r → grp t f r ≠ [] → ∀ z, D.atKey (pk f r) z = .held (vs f r)
  nil : ∀ f r, grp t f r = [] → vs f r = .slice none 0 0
  row : ∀ f r, Ow K5 w (b + 1) 75 (vs f r) (grp t f r)
  far : ∀ f r f' r', ¬ (f = f' ∧ r = r') → ∀ k, (vs f r).ownBlock = some k → (vs f' r').ownBlock ≠ some k
theorem zeroS (w : World) : (zeroValue 59).run Tryz.prog w = .ok (.slice none 0 0) w := by kernel_rfl
section
variable {w w' : World} {b N : Nat} {t : List E5} {vs : Int → Int → Value} {D : DataW Value}
theorem grp_nil (f r : Int) : grp [] f r = [] := rfl
theorem gm_new (w : World) : Gm (w.alloc (.map #[] 0)) w.heap.size 0 [] (fun _ _ => .slice none 0 0) (.map []) :=
  ⟨World.ownsMap_made _ _ _ _, fun _ _ _ _ => by simp [grp_nil, Maps.has], fun _ _ _ _ h => absurd rfl h, fun _ _ _ => rfl, fun _ _ => Ow.nil _ _ _, fun _ _ _ _ _ k h => by simp [Value.ownBlock] at h⟩
theorem Gm.below (G : Gm w b N t vs D) (hb : Below w.heap.size w w') : Gm w' b N t vs D :=
  ⟨G.own.kept (Fs.grown_of hb) (fun h => by cases h), G.has, G.val, G.nil, fun f r => (G.row f r).keep hb, G.far⟩
theorem grp_snoc (t : List E5) (x : E5) (f r : Int) : grp (t ++ [x]) f r = if mt f r x = true then grp t f r ++ [x] else grp t f r := by
  unfold grp
  rw [List.filter_append]
  by_cases h : mt f r x = true
  · simp [h]
  · simp [h]
theorem mt_self {x : E5} (h : x.1 = 2) : mt x.2.2.1 x.2.2.2.1 x = true := by simp [mt, h]
theorem mt_other {x : E5} {f r : Int} (h : ¬ (f = x.2.2.1 ∧ r = x.2.2.2.1)) : mt f r x = false := by
  unfold mt
  rw [decide_eq_false]
  rintro ⟨_, h1, h2⟩
  exact h ⟨h1.symm, h2.symm⟩
def upP (vs : Int → Int → Value) (f r : Int) (u : Value) (a c : Int) : Value := if a = f ∧ c = r then u else vs a c
/-- 'm[p] = append(m[p], x)': the entry and its stamp; and then the store. -/
theorem Gm.step (G : Gm w b N t vs D) (hN : N < maxLen) {x : E5} (h2 : x.1 = 2) (hf : Wf x.2.2.1) (hr : Wf x.2.2.2.1) :
    ∃ st w1, (Instr.mapEntry 110 (.map (some b)) (plc x.2.2.1 x.2.2.2.1)).run Tryz.prog w = .ok (.tuple #[vs x.2.2.1 x.2.2.2.1, .int .i64 ((st : Nat) : Int)]) w1 ∧ w.grownBy w1 (some b) ∧ w1.heap.size = w.heap.size ∧
      ∀ w2 u, w1.grownBy w2 (vs x.2.2.1 x.2.2.2.1).ownBlock → Ow K5 w2 (b + 1) 75 u (grp t x.2.2.1 x.2.2.2.1 ++ [x]) → (u.ownBlock = (vs x.2.2.1 x.2.2.2.1).ownBlock ∨ ∃ g, u.ownBlock = some g ∧ w1.heap.size ≤ g) →
        ∃ w3 D', (Instr.entryStore 110 (.map (some b)) (.int .i64 ((st : Nat) : Int)) u).run Tryz.prog w2 = .ok () w3 ∧ w2.grownBy w3 (some b) ∧ Gm w3 b (N + 1) (t ++ [x]) (upP vs x.2.2.1 x.2.2.2.1 u) D' := by
  obtain ⟨k, s, f, r, y⟩ := x
  simp only at h2 hf hr ⊢
  subst h2
  have hkey := keyP hf hr
  obtain ⟨es, clock, hb, F, hs, hD⟩ := G.own
  obtain ⟨v0, st, es1, clock1, hE, hcase, hS⟩ := WideElems.entry_then_store (w := w) lawP Tryz.underlying110 zeroS hb F hkey
  have hv0 : v0 = vs f r := by
    have hl := Maps.fit_look false keyedP Tryz.underlying110 (zeroS w) hb F hkey
    rw [← hD] at hl
    rcases hl with ⟨_, hno, hat⟩ | ⟨e1, y1, hm1, hk1, _, hR, hat, _⟩
    · have h1 : Maps.has D (pk f r) = false := has_false_of_atKey hat
      rw [G.has f r hf hr, decide_eq_false_iff_not, Classical.not_not] at h1
      rw [G.nil f r h1]
      rcases hcase with ⟨e0, hm0, hk0, _⟩ | ⟨_, hz⟩
      · exact absurd hk0 (hno e0 hm0)
      · exact hz
    · have h1 : Maps.has D (pk f r) = true := has_true_of_atKey hat
      rw [G.has f r hf hr, decide_eq_true_eq] at h1
      have h3 := (hat .nil).symm.trans (G.val f r hf hr h1 .nil)
      have h4 : y1 = (.held e1.val, []) := by simp [Rh] at hR; exact hR.symm
      rw [h4] at h3
      injection h3 with h3
      rcases hcase with ⟨e0, hm0, hk0, hv⟩ | ⟨hno, _⟩
      · have he := entry_eq_of_key ((MapKept.stamped_iff es clock).1 F.stamped).2.2 hm0 hm1 (hk0.trans hk1.symm)
        rw [hv, he, h3]
      · exact absurd hk1 (hno e1 hm1)
  subst hv0
  have hg1 : w.grownBy (ChangeMaps.setBlock w b (.map es1 clock1)) (some b) := ⟨rfl, rfl, rfl, by simp [ChangeMaps.setBlock], fun i _ hi => ChangeMaps.heap_setBlock_other hb _ (fun e => hi (by rw [e]))⟩
  have hb1 : (ChangeMaps.setBlock w b (.map es1 clock1)).heap[b]? = some (.map es1 clock1) := ChangeMaps.heap_setBlock_same hb _
  have hz1 : (ChangeMaps.setBlock w b (.map es1 clock1)).heap.size = w.heap.size := by simp [ChangeMaps.setBlock]
  have hbl : b < w.heap.size := G.own.lt
  have ownb : ∀ a c, (vs a c).ownBlock ≠ some b := fun a c e => by have := World.ownsRow.lt (G.row a c) b e; omega
  refine ⟨st, _, hE, hg1, hz1, fun w2 u hg2 hu hub => ?_⟩
  have hb2 : w2.heap[b]? = some (.map es1 clock1) := (hg2.block b (by rw [hz1]; exact hbl) (fun e => ownb f r e.symm)).trans hb1
  obtain ⟨es', clock', hS1, hS2⟩ := hS w2 u hb2
  obtain ⟨w', hU, hO, _⟩ := G.own.update keyedP Tryz.underlying110 hN hkey (val := u) (d := .held u) (ps := []) rfl
  have hw' : w' = ChangeMaps.setBlock w b (.map es' clock') := by
    rw [hU] at hS2
    injection hS2
  subst hw'
  have hg3 : w2.grownBy (ChangeMaps.setBlock w2 b (.map es' clock')) (some b) := ⟨rfl, rfl, rfl, by simp [ChangeMaps.setBlock], fun i _ hi => ChangeMaps.heap_setBlock_other hb2 _ (fun e => hi (by rw [e]))⟩
  have hO3 : (ChangeMaps.setBlock w2 b (.map es' clock')).ownsMap Tryz.prog 113 Rh b (N + 1) (D.put (pk f r) (.held u)) := by
    obtain ⟨es3, clock3, q1, q2, q3, q4⟩ := hO
    rw [ChangeMaps.heap_setBlock_same hb] at q1
    exact ⟨es3, clock3, (ChangeMaps.heap_setBlock_same hb2 _).trans q1, q2, q3, q4⟩
  have hself : mt f r (2, s, f, r, y) = true := by simp [mt]
  have hoth : ∀ a c, ¬ (a = f ∧ c = r) → mt a c (2, s, f, r, y) = false := fun a c h => by
    unfold mt
    rw [decide_eq_false]
    rintro ⟨_, h1, h2⟩
    exact h ⟨h1.symm, h2.symm⟩
  have ownu : ∀ k, u.ownBlock = some k → b + 1 ≤ k ∧ k < w2.heap.size := fun k e => World.ownsRow.lt hu k e
  have hdiff : ∀ a c, ¬ (a = f ∧ c = r) → ∀ k, (vs a c).ownBlock = some k → u.ownBlock ≠ some k := fun a c h k hk e => by
    rcases hub with e2 | ⟨g, e2, hg⟩
    · exact G.far a c f r h k hk (e2.symm.trans e)
    · rw [e2] at e
      injection e with e
      have := (World.ownsRow.lt (G.row a c) k hk).2
      omega
  refine ⟨_, _, hS1, hg3, hO3, fun a c ha hc => ?_, fun a c ha hc hne z => ?_, fun a c hn => ?_, fun a c => ?_, fun a c a' c' hne k hk => ?_⟩
  · rw [grp_snoc]
    by_cases e : a = f ∧ c = r
    · obtain ⟨rfl, rfl⟩ := e
      rw [show Maps.has (D.put (pk a c) (.held u)) (pk a c) = true from has_put_same G.own.isMap (keyedP.key hkey) _, hself, if_pos rfl]
      simp
    · rw [has_put_other (fun e2 => e (pk_inj ha hc hf hr e2)), hoth a c e, if_neg (by simp)]
      exact G.has a c ha hc
  · rw [grp_snoc] at hne
    unfold upP
    by_cases e : a = f ∧ c = r
    · obtain ⟨rfl, rfl⟩ := e
      rw [if_pos ⟨rfl, rfl⟩]
      exact atKey_put_same G.own.isMap (keyedP.key hkey) _ _
    · rw [hoth a c e, if_neg (by simp)] at hne
      rw [atKey_put_other (fun e2 => e (pk_inj ha hc hf hr e2)), if_neg e]
      exact G.val a c ha hc hne z
  · rw [grp_snoc] at hn
    unfold upP
    by_cases e : a = f ∧ c = r
    · obtain ⟨rfl, rfl⟩ := e
      rw [hself, if_pos rfl] at hn
      simp at hn
    · rw [hoth a c e, if_neg (by simp)] at hn
      rw [if_neg e]
      exact G.nil a c hn
  · rw [grp_snoc]
    unfold upP
    by_cases e : a = f ∧ c = r
    · obtain ⟨rfl, rfl⟩ := e
      rw [hself, if_pos rfl, if_pos ⟨rfl, rfl⟩]
      exact World.ownsRow.kept hu hg3 (.inr fun e2 => by have := (ownu b e2).1; omega)
    · rw [hoth a c e, if_neg e, if_neg Bool.false_ne_true]
      have r1 := World.ownsRow.kept (G.row a c) hg1 (.inr (ownb a c))
      have r2 := World.ownsRow.kept r1 hg2 (by
        rcases e3 : (vs a c).ownBlock with _ | k
        · exact .inl rfl
        · exact .inr fun e4 => G.far a c f r e k e3 e4.symm)
      exact World.ownsRow.kept r2 hg3 (.inr (ownb a c))
  · unfold upP at hk ⊢
    by_cases e : a = f ∧ c = r
    · rw [if_pos e] at hk
      by_cases e' : a' = f ∧ c' = r
      · exact absurd ⟨e.1.trans e'.1.symm, e.2.trans e'.2.symm⟩ hne
      · rw [if_neg e']
        exact fun e4 => hdiff a' c' e' k e4 hk
    · rw [if_neg e] at hk
      by_cases e' : a' = f ∧ c' = r
      · rw [if_pos e']
        exact hdiff a c e k hk
      · rw [if_neg e']
        exact G.far a c a' c' hne k hk
end

/-- 'append(s, x)' of a slice of entries that is the call's own: where the new one lies, too. -/
theorem push_group {ops : Array Oper} {rest : List Oper} {o : Oper} {a : Act} {w : World} {Q : Exit → Act → World → Prop} (hgd : o.guard = none) (s x : Operand)
    (ho : o.op = .call { callee := .builtin .append, args := #[s, x], argTypes := #[59, 59] }) (B : Nat) (v : Value) (l : List E5) (hs : a.eval s = v) (hown : Ow K5 w B 75 v l)
    (ad : Addr) (c : E5) (hx : a.eval x = .slice (some ad) 1 1) (hc : ∀ j u, (K5.enc c)[j]? = some u → w.cell? (ad.add j) = some u) (hlen : l.length < 100000) (hB : B ≤ w.heap.size)
    (h : ∀ v' w', Ow K5 w' B 75 v' (l ++ [c]) → w.grownBy w' v.ownBlock → (v'.ownBlock = v.ownBlock ∨ ∃ g, v'.ownBlock = some g ∧ w.heap.size ≤ g) → wpList Tryz.prog ops Q rest (a.put o.dst v') w') : wpList Tryz.prog ops Q (o :: rest) a w := by
  obtain ⟨i0, hi0, hz0, hz1, hz2⟩ := info_parts Ro.infoE
  refine wpList_append_own_at _ hgd s x 59 ho B 75 i0 _ 5 40 Tryz.underlying59 hi0 hz0 hz1 hz2 rfl (by omega) v l.length (K5.flat l) hs hown ad 1 1 (K5.enc c) hx (by rw [K5.len]; rfl) hc (K5.one c) (by unfold maxLen; omega) (by omega) hB ?_
  intro v' w' h2 h3 _ h5
  exact h v' w' (Rw.Ow.push h2) h3 (h5.imp id fun e => ⟨_, e, Nat.le_refl _⟩)

end Go.Proofs.YtilacdjekdngkaaGreatDoor.Pa

/- Lists of stores that the call itself makes, one by one: what has been made stays as it is when the list grows. -/
namespace Go.Proofs.YtilacdjekdngkaaGreatDoor.Pa
open Go.RowKit Go.Maps
open Go.Proofs.YtilacdjekdngkaaGreatDoor.Fs (Abs St Rs Rst Only Fx Lst)
open Go.Proofs.YtilacdjekdngkaaGreatDoor.Rw (Rd Ow At Kind)
set_option maxRecDepth 100000

/-- 'append(s, x)', of a list that is the call's own: where the new one lies, too. -/
theorem push_at {α : Type} {K : Kind α} {P : Program} {E : TypeId} {ops : Array Oper} {rest : List Oper} {o : Oper} {a : Act} {w : World} {Q : Exit → Act → World → Prop} {T : TypeId} {z : Value} {bytes : Nat} (ht : P.underlying T = some (.slice E))
    (hi : (P.info? E).map (fun i => (i.zero, i.size, i.bytes)) = some (some z, K.n, bytes)) (hz : z.cells.size = K.n) (hby : bytes ≤ 64) (hgd : o.guard = none) (s x : Operand)
    (ho : o.op = .call { callee := .builtin .append, args := #[s, x], argTypes := #[T, T] }) (B : Nat) (v : Value) (l : List α) (hs : a.eval s = v) (hown : Ow K w B E v l)
    (ad : Addr) (c : α) (hx : a.eval x = .slice (some ad) 1 1) (hc : ∀ j u, (K.enc c)[j]? = some u → w.cell? (ad.add j) = some u) (hlen : l.length < 2199023255552) (hB : B ≤ w.heap.size)
    (h : ∀ v' w', Ow K w' B E v' (l ++ [c]) → w.grownBy w' v.ownBlock → (v'.ownBlock = v.ownBlock ∨ ∃ g, v'.ownBlock = some g ∧ w.heap.size ≤ g) → wpList P ops Q rest (a.put o.dst v') w') : wpList P ops Q (o :: rest) a w := by
  obtain ⟨i0, hi0, hz0, hz1, hz2⟩ := info_parts hi
  have hb : (l.length + 1) * bytes ≤ 140737488355328 := Nat.le_trans (Nat.mul_le_mul (show l.length + 1 ≤ 2199023255552 by omega) hby) (by omega)
  refine wpList_append_own_at _ hgd s x T ho B E i0 z K.n bytes ht hi0 hz0 hz1 hz2 hz K.pos v l.length (K.flat l) hs hown ad 1 1 (K.enc c) hx (by rw [K.len, Nat.one_mul]) hc (K.one c) (by unfold maxLen; omega) hb hB ?_
  intro v' w' h2 h3 _ h5
  exact h v' w' (Rw.Ow.push h2) h3 (h5.imp id fun e => ⟨_, e, Nat.le_refl _⟩)

theorem wp_push_at {α : Type} {K : Kind α} {P : Program} {E : TypeId} {o : Oper} {a : Act} {w : World} {KK : Act → World → Prop} {Q : Exit → Act → World → Prop} {T : TypeId} {z : Value} {bytes : Nat} (ht : P.underlying T = some (.slice E))
    (hi : (P.info? E).map (fun i => (i.zero, i.size, i.bytes)) = some (some z, K.n, bytes)) (hz : z.cells.size = K.n) (hby : bytes ≤ 64) (s x : Operand)
    (ho : o.op = .call { callee := .builtin .append, args := #[s, x], argTypes := #[T, T] }) (B : Nat) (v : Value) (l : List α) (hs : a.eval s = v) (hown : Ow K w B E v l)
    (ad : Addr) (c : α) (hx : a.eval x = .slice (some ad) 1 1) (hc : ∀ j u, (K.enc c)[j]? = some u → w.cell? (ad.add j) = some u) (hlen : l.length < 2199023255552) (hB : B ≤ w.heap.size)
    (h : ∀ v' w', Ow K w' B E v' (l ++ [c]) → w.grownBy w' v.ownBlock → (v'.ownBlock = v.ownBlock ∨ ∃ g, v'.ownBlock = some g ∧ w.heap.size ≤ g) → KK (a.put o.dst v') w') : o.wp P a w KK Q := by
  obtain ⟨i0, hi0, hz0, hz1, hz2⟩ := info_parts hi
  have hb : (l.length + 1) * bytes ≤ 140737488355328 := Nat.le_trans (Nat.mul_le_mul (show l.length + 1 ≤ 2199023255552 by omega) hby) (by omega)
  obtain ⟨v', w', hr, h2, h3, _, h5⟩ := run_append_own_at (P := P) w B T o.type E i0 z K.n bytes ht hi0 hz0 hz1 hz2 hz K.pos v l.length (K.flat l) hown ad 1 1 (K.enc c) (by rw [K.len, Nat.one_mul]) hc (K.one c) (by unfold maxLen; omega) hb hB
  unfold Oper.wp execOp
  simp only [ho, resolve, invoke, builtin, Sem.run_bind, Sem.run_pure, Result.andThen_ok, List.map_toArray, List.map_cons, List.map_nil, hs, hx, hr]
  exact h v' w' (Rw.Ow.push h2) h3 (h5.imp id fun e => ⟨_, e, Nat.le_refl _⟩)

/-- A store of the program's, apart from a block. -/
def SAp (w : World) (s : Nat) (x : Abs × Int) (q : Option Nat) : Prop := ∃ F, St w s F x.1 x.2 ∧ ∀ k, F k → q ≠ some k
/-- A store of the document's, apart from a block. -/
def RAp (w : World) (r : Nat) (x : Abs × Int) (q : Option Nat) : Prop := Rs w r (fun k => q = some k) x.1 x.2
/-- What a list's elements are, as long as but the list's own block is written. -/
structure Good (Ap : World → Nat → Abs × Int → Option Nat → Prop) : Prop where
  below : ∀ {w w' s x q}, Ap w s x q → Below w.heap.size w w' → Ap w' s x q
  grow : ∀ {w w' s x q q'}, Ap w s x q → w.grownBy w' q → (q' = q ∨ ∃ g, q' = some g ∧ w.heap.size ≤ g) → (∀ g, q' = some g → g < w'.heap.size) → Ap w' s x q'
theorem only_grown {w w' : World} {q : Option Nat} (h : w.grownBy w' q) : Only (fun k => q = some k) w w' := ⟨h.os, h.tape, h.output, h.size, fun k hk hn => h.block k hk fun e => hn e.symm⟩
theorem sap_good : Good SAp where
  below := fun ⟨F, h, d⟩ b => ⟨F, h.below b, d⟩
  grow := fun ⟨F, h, d⟩ g hq _ => ⟨F, h.only (G := fun k => _ = some k) (fun k hk e => d k hk e) (only_grown g), fun k hk e => by
    rcases hq with rfl | ⟨j, rfl, hj⟩
    · exact d k hk e
    · injection e with e
      have := h.low k hk
      omega⟩
theorem rs_mono {w : World} {r : Nat} {F G : Nat → Prop} {A : Abs} {d : Int} (h : Rs w r F A d) (hg : ∀ k, k < w.heap.size → G k → F k) : Rs w r G A d := by
  obtain ⟨v, L, h, e⟩ := h
  refine ⟨v, L, ⟨h.row, fun g => h.off (hg r (lt_of_block h.row) g), h.list.mono fun k hk g => ?_, h.ok⟩, e⟩
  rcases g with g | g
  · exact .inl (hg k hk g)
  · exact .inr g
theorem rap_good : Good RAp where
  below := fun h b => Fs.Rs.below h b
  grow := fun {w w' r x q q'} h g hq hl => by
    refine rs_mono (Fs.Rs.only h (only_grown g)) fun k _ e => ?_
    rcases hq with rfl | ⟨j, rfl, hj⟩
    · exact .inl e
    · injection e with e
      subst e
      exact .inr ⟨hj, hl _ rfl⟩
theorem SAp.has {w : World} {s : Nat} {x : Abs × Int} {q : Option Nat} (h : SAp w s x q) : Has w s x := by obtain ⟨F, h, _⟩ := h; exact ⟨F, h⟩
theorem RAp.hrf {w : World} {s : Nat} {x : Abs × Int} {q : Option Nat} (h : RAp w s x q) : Hrf w s x := rs_mono h nofun
theorem sap_new {w w' : World} {s : Nat} {F : Nat → Prop} {x : Abs × Int} {q : Option Nat} (h : St w' s F x.1 x.2) (lo : ∀ k, F k → w.heap.size ≤ k) (hq : ∀ k, q = some k → k < w.heap.size) : SAp w' s x q :=
  ⟨F, h, fun k hk e => by have := lo k hk; have := hq k e; omega⟩

section
variable {Ap : World → Nat → Abs × Int → Option Nat → Prop} {E : TypeId} {w wr w1 w2 : World} {S : Sts} {k : Nat} {o o' : Value} {ps : List Nat} {g : Nat}
/-- The first k have been made. -/
structure PI (Ap : World → Nat → Abs × Int → Option Nat → Prop) (E : TypeId) (w : World) (S : Sts) (k : Nat) (o : Value) (ps : List Nat) (wr : World) : Prop where
  own : Ow KN wr w.heap.size E o ps
  len : ps.length = k
  each : ∀ i, i < k → Ap wr (ps.getD i 0) (sat S i) o.ownBlock
  bel : Below w.heap.size w wr
theorem PI.start (w : World) (hb : Below w.heap.size w wr) : PI Ap E w S 0 (.slice none 0 0) [] wr := ⟨Rw.Ow.nil _ _ _, rfl, fun i hi => by omega, hb⟩
theorem PI.made (hb : Below w.heap.size w wr) : PI Ap E w S 0 (.slice (some ⟨wr.heap.size, 0, none⟩) 0 0) [] (wr.alloc (.cells #[] E)) := ⟨Rw.Ow.made _ _ _ hb.size, rfl, fun i hi => by omega, hb.alloc hb.size _⟩
theorem PI.below (G : Good Ap) (h : PI Ap E w S k o ps wr) (b : Below wr.heap.size wr w1) : PI Ap E w S k o ps w1 := ⟨h.own.keep b, h.len, fun i hi => G.below (h.each i hi) b, h.bel.trans (b.mono h.bel.size)⟩
theorem PI.lt (h : PI Ap E w S k o ps wr) : ∀ k, o.ownBlock = some k → k < wr.heap.size := fun k e => (World.ownsRow.lt h.own k e).2
theorem PI.push (G : Good Ap) (h : PI Ap E w S k o ps wr) (own : Ow KN w1 w.heap.size E o' (ps ++ [g])) (gr : wr.grownBy w1 o.ownBlock) (hq : o'.ownBlock = o.ownBlock ∨ ∃ g, o'.ownBlock = some g ∧ wr.heap.size ≤ g) (hg : Ap wr g (sat S k) o.ownBlock) : PI Ap E w S (k + 1) o' (ps ++ [g]) w1 := by
  have hl : ∀ j, o'.ownBlock = some j → j < w1.heap.size := fun j e => (World.ownsRow.lt own j e).2
  refine ⟨own, by rw [List.length_append, h.len]; rfl, fun i hi => ?_, h.bel.grown gr h.bel.size fun j e => (World.ownsRow.lt h.own j e).1⟩
  by_cases e : i = k
  · subst e
    have : (ps ++ [g]).getD i 0 = g := by rw [List.getD_eq_getElem?_getD, List.getElem?_append_right (by rw [h.len]; exact Nat.le_refl _), h.len]; simp
    rw [this]
    exact G.grow hg gr hq hl
  · have : (ps ++ [g]).getD i 0 = ps.getD i 0 := by rw [List.getD_eq_getElem?_getD, List.getElem?_append_left (by rw [h.len]; omega), List.getD_eq_getElem?_getD]
    rw [this]
    exact G.grow (h.each i (by omega)) gr hq hl
/-- Of more than so many nothing is said. -/
theorem PI.congr {S' : Sts} (h : PI Ap E w S k o ps wr) (e : ∀ i, i < k → sat S i = sat S' i) : PI Ap E w S' k o ps wr := ⟨h.own, h.len, fun i hi => by rw [← e i hi]; exact h.each i hi, h.bel⟩
end
theorem PI.stl {w wr : World} {S : Sts} {o : Value} {ps : List Nat} {E : TypeId} (h : PI SAp E w S S.length o ps wr) : Stl wr o S := ⟨ps, h.own.rd, h.len, fun i hi => (h.each i hi).has⟩
theorem PI.rfl_ {w wr : World} {S : Sts} {o : Value} {ps : List Nat} {E : TypeId} (h : PI RAp E w S S.length o ps wr) : Rfl wr o S := ⟨ps, h.own.rd, h.len, fun i hi => (h.each i hi).hrf⟩
theorem infoN : (Tryz.prog.info? 38).map (fun i => (i.zero, i.size, i.bytes)) = some (some (.pointer none), 1, 8) := by kernel_rfl
theorem infoM : (Tryz.prog.info? 42).map (fun i => (i.zero, i.size, i.bytes)) = some (some (.pointer none), 1, 8) := by kernel_rfl

end Go.Proofs.YtilacdjekdngkaaGreatDoor.Pa
