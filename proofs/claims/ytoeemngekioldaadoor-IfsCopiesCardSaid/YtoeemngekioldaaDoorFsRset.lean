/- The document's own store: Set. -/
import Derived.Test.YtoeemngekioldaaDoorFsRix
import Derived.Test.YtoeemngekioldaaDoorFsFiles
import Derived.Test.YtoeemngekioldaaDoorFsSet
import Derived.Deep.Cut
namespace Go.Proofs.YtoeemngekioldaaDoor.Fs
open Go.RowKit Go.Maps
open Go.Proofs.YtoeemngekioldaaDoor.Fl (R4 z4 K4 rec4 rat goodF goodFB okR okL file arr4 sto4 sto4_row sto4_below sto4_own sto4_other sto4_off own4 row_cell row_frozen at4 infoR)
open Go.Proofs.YtoeemngekioldaaDoor.Rw (Rd Ow At)
set_option maxRecDepth 100000
attribute [local irreducible] Sd.wpSd wpQuiet Sf.wpSf

theorem Only.of_from {B : Nat} {w w' : World} (h : Below B w w') : Only (fun k => B ≤ k) w w' := ⟨h.os, h.tape, h.output, h.size, fun k _ hn => h.block k (by omega)⟩
/-- A file that the document's store may hold. -/
def Gd (F : Nat → Prop) (r : Nat) (W : World) (c : Ent) : Prop := Rd K4 W c.sl c.l ∧ (0 < c.l.length → ∀ k, c.sl.ownBlock = some k → ¬ (F k ∨ k = r))
theorem Rst.next {w W : World} {r : Nat} {F : Nat → Prop} {v v' : Value} {L L' : List Ent} {d d' : Int} (R : Rst w r F v L d) (hF : ∀ k, F k → k < w.heap.size) (O : Only (fun k => k = r) w W) (row : W.heap[r]? = some (.cells #[v', .int .i64 d'] 28 (0, 0)))
    (own : Ow E3 W w.heap.size 56 v' L') (mem : ∀ c ∈ L', c ∈ L ∨ Gd F r W c) (ok : OkA (L'.map Ent.abs)) : Rst W r F v' L' d' := by
  have hr := lt_of_block R.row
  refine ⟨row, R.off, ⟨own.rd, fun _ k hk g => ?_, fun c hc => ?_, fun c hc => ?_⟩, ok⟩
  · have := (ow_new own k hk).1
    rcases g with g | g
    · have := hF k g; omega
    · omega
  · rcases mem c hc with h | h
    · exact rd_only (G := fun k => k = r) (R.list.file c h) (fun h0 k hk e => R.list.foff c h h0 k hk (.inr e)) O
    · exact h.1
  · rcases mem c hc with h | h
    · exact R.list.foff c h
    · exact h.2
theorem gd_new {F : Nat → Prop} {r : Nat} {W : World} {B : Nat} {c : Ent} (hF : ∀ k, F k → k < B) (hr : r < B) (o : Ow K4 W B 32 c.sl c.l) : Gd F r W c := ⟨o.rd, fun _ k hk g => by
  have := (ow_new o k hk).1
  rcases g with g | g
  · have := hF k g; omega
  · omega⟩
/-- A file in the list is replaced. -/
theorem set3 {w : World} {B g N cap i : Nat} {L : List Ent} {c c' : Ent} (h : Ow E3 w B 56 (.slice (some ⟨g, 0, none⟩) N cap) L) (hN : N = L.length) (hi : L[i]? = some c) (hn : c'.n = c.n) (hp : c'.p = c.p) :
    Ow E3 ((w.setCell ⟨g, i * 3 + 1, none⟩ (.int .i64 c'.p)).setCell ⟨g, i * 3 + 2, none⟩ c'.sl) B 56 (.slice (some ⟨g, 0, none⟩) N cap) (L.set i c') := by
  subst hN
  obtain ⟨hl, he⟩ := List.getElem?_eq_some_iff.1 hi
  have e : L.getD i E3.dft = c := by rw [List.getD_eq_getElem?_getD, hi]; rfl
  have h1 := h.set i 1 hl (by decide) (.int .i64 c'.p) c (by rw [e, hp]; rfl)
  have e1 : L.set i c = L := by rw [← he]; exact List.set_getElem_self hl
  rw [e1] at h1
  have h2 := h1.set i 2 hl (by decide) c'.sl c' (by
    rw [e]
    show [Value.int .i64 c'.n, .int .i64 c'.p, c'.sl] = [Value.int .i64 c.n, .int .i64 c.p, c'.sl]
    rw [hn, hp])
  exact h2
theorem own3 {w : World} {B g N cap i : Nat} {L : List Ent} {c : Ent} (h : Ow E3 w B 56 (.slice (some ⟨g, 0, none⟩) N cap) L) (hi : L[i]? = some c) :
    (w.cell? ⟨g, i * 3, none⟩ = some (.int .i64 c.n) ∧ w.cell? ⟨g, i * 3 + 1, none⟩ = some (.int .i64 c.p) ∧ w.cell? ⟨g, i * 3 + 2, none⟩ = some c.sl) ∧ (∀ j, w.frozen? ⟨g, j, none⟩ = false) ∧ B ≤ g ∧ g < w.heap.size := by
  obtain ⟨g', cap', eg, h1, h2, _, _, hf, hA⟩ := h.form (by have := (List.getElem?_eq_some_iff.1 hi).1; omega)
  have e : g = g' := by
    injection eg with e1
    injection e1 with e1
    injection e1 with e1 _ _
  subst e
  have c := at3 hA hi
  simp only [Nat.zero_add] at c
  exact ⟨c, hf, h1, h2⟩

def RSPost (w : World) (r : Nat) (F : Nat → Prop) (d : Int) (b : Bool) (A' : Abs) (e : Ending) (w' : World) : Prop := e = .returned (.bool b) ∧ Rs w' r F A' d ∧ Only (fun k => k = r) w w'
set_option maxHeartbeats 1000000 in
theorem rset_no (w : World) (r : Value) (n k : Int) (x y : R4) (b : Bool) (hb : b = false ∨ b = true ∧ k = 0) (hh : ∀ W, Below w.heap.size w W → Calls Tryd.prog 15 #[r, .int .i64 n, .int .i64 k] W (GetPost W y b)) :
    Calls Tryd.prog 11 #[r, .int .i64 n, .int .i64 k, rec4 x] w fun e w' => e = .returned (.bool false) ∧ Below w.heap.size w w' := by
  obtain ⟨h1, hB, hz⟩ := box_rec w x
  have HB := Lib.hid hB
  have HH := Lib.hid (hh _ hB)
  clear h1 hB hz hh
  unfold rec4
  unfold arr4 at HB HH
  rcases hb with rfl | ⟨rfl, rfl⟩
  · go_enter Tryd.func11, Tryd.ntmps11
    go_wp2_with fail
    refine HH.out.mono ?_
    rintro e w1 ⟨rfl, b1⟩
    have B1 := Lib.hid (HB.out.trans (b1.mono HB.out.size))
    have B2 := Lib.hid (B1.out.alloc B1.out.size (.cells #[.int .u8 y.1, .int .u8 y.2.1, .int .u8 y.2.2.1, .int .u8 y.2.2.2] 32))
    clear b1 HH HB
    unfold rec4
    go_wp2
    go_ret
    exact ⟨rfl, B2.out⟩
  · go_enter Tryd.func11, Tryd.ntmps11
    go_wp2_with fail
    refine HH.out.mono ?_
    rintro e w1 ⟨rfl, b1⟩
    have B1 := Lib.hid (HB.out.trans (b1.mono HB.out.size))
    have B2 := Lib.hid (B1.out.alloc B1.out.size (.cells #[.int .u8 y.1, .int .u8 y.2.1, .int .u8 y.2.2.1, .int .u8 y.2.2.2] 32))
    clear b1 HH HB
    unfold rec4
    go_wp2
    go_ret
    exact ⟨rfl, B2.out⟩

structure RC (r : Nat) (v : Value) (d : Int) (g : Nat) (p : Int) (u : Value) (W : World) : Prop where
  row : W.heap[r]? = some (.cells #[v, .int .i64 d] 28 (0, 0))
  box : W.heap[g]? = some (.cells #[.int .i64 p, u] 35 (0, 0))
set_option maxHeartbeats 4000000 in
theorem rset_yes {w : World} {r : Nat} {F : Nat → Prop} {v : Value} {L : List Ent} {d : Int} (R : Rst w r F v L d) (hF : ∀ k, F k → k < w.heap.size) {n : Int} (k : Nat) (x : R4) (hx : okR x) {i : Nat} {c : Ent} (hi : L[i]? = some c) (hq : Ix L n i) (hk : k < c.l.length) (hk0 : k ≠ 0) (y : R4) (hh : ∀ W, Below w.heap.size w W → Calls Tryd.prog 15 #[.pointer (some ⟨r, 0, none⟩), .int .i64 n, .int .i64 k] W (GetPost W y true)) :
    Calls Tryd.prog 11 #[.pointer (some ⟨r, 0, none⟩), .int .i64 n, .int .i64 (k : Int), rec4 x] w (RSPost w r F d true ((L.set i (⟨c.n, c.p, none, 0, c.l.set k x⟩ : Ent)).map Ent.abs)) := by
  obtain ⟨h1, hB, hz⟩ := box_rec w x
  have HB := Lib.hid hB
  have H1 := Lib.hid h1
  have HH := Lib.hid (hh _ hB)
  have IX := Lib.hid (fun W (hb : Below w.heap.size w W) => rix_any (R.below hb) hq)
  have RR := Lib.hid R
  have HI := Lib.hid hi
  have HF := Lib.hid hF
  have hlen := R.len
  have hil : i < L.length := (List.getElem?_eq_some_iff.1 hi).1
  have hrl : r < w.heap.size := lt_of_block R.row
  have hmem := List.mem_of_getElem? hi
  have hcm : c.abs ∈ L.map Ent.abs := List.mem_map_of_mem hmem
  have FR := Lib.hid (R.list.file c hmem)
  have FO := Lib.hid (R.list.foff c hmem)
  have GDC := Lib.hid (R.ok.good _ hcm)
  obtain ⟨va, vcap, rfl, _⟩ := R.list.rd.slice
  have FIN : Hid (∀ (ua : Option Addr) (uc : Nat) (v' : Value) (W : World), Only (fun k => k = r) w W → W.heap[r]? = some (.cells #[v', .int .i64 d] 28 (0, 0)) → Ow E3 W w.heap.size 56 v' (L.set i (⟨c.n, c.p, ua, uc, c.l.set k x⟩ : Ent)) → Ow K4 W w.heap.size 32 (⟨c.n, c.p, ua, uc, c.l.set k x⟩ : Ent).sl (c.l.set k x) → RSPost w r F d true ((L.set i (⟨c.n, c.p, none, 0, c.l.set k x⟩ : Ent)).map Ent.abs) (.returned (.bool true)) W) := fun ua uc v' W O row own new => by
    have e : (L.set i (⟨c.n, c.p, ua, uc, c.l.set k x⟩ : Ent)).map Ent.abs = (L.set i (⟨c.n, c.p, none, 0, c.l.set k x⟩ : Ent)).map Ent.abs := by rw [List.map_set, List.map_set]; rfl
    have ok : OkA ((L.set i (⟨c.n, c.p, none, 0, c.l.set k x⟩ : Ent)).map Ent.abs) := by
      have e3 : put Ent.n (⟨c.n, c.p, none, 0, c.l.set k x⟩ : Ent) L = L.set i (⟨c.n, c.p, none, 0, c.l.set k x⟩ : Ent) := put_set (srtL R.ok) hi rfl
      rw [← e3, abs_put]
      exact R.ok.put (R.ok.nm _ hcm) (good_set (R.ok.good _ hcm) hk0) (okL_set (R.ok.ok _ hcm) hx)
    refine ⟨rfl, ⟨v', _, R.next hF O row own (fun e he => ?_) (by rw [e]; exact ok), e⟩, O⟩
    rcases List.mem_or_eq_of_mem_set he with h | rfl
    · exact .inl h
    · exact .inr (gd_new hF hrl new)
  clear h1 hB hz hh R hi hq hF hmem hcm hx
  unfold Ent.sl at FR FO
  generalize hN : L.length = N at *
  have HN := Lib.hid hN
  have hr0 : ((k : Int) == 0) = false := by simpa using hk0
  have HK0 := Lib.hid hk0
  clear hN hk0
  unfold rec4
  unfold arr4 at H1 HB HH
  go_enter Tryd.func11, Tryd.ntmps11
  go_wp2_with fail
  generalize (w.alloc (.cells #[.int .u8 x.1, .int .u8 x.2.1, .int .u8 x.2.2.1, .int .u8 x.2.2.2] 32)) = W0 at *
  refine HH.out.mono ?_
  rintro e w1 ⟨rfl, b1⟩
  have B2 := Lib.hid ((HB.out.trans (b1.mono HB.out.size)).alloc (HB.out.trans (b1.mono HB.out.size)).size (.cells #[.int .u8 y.1, .int .u8 y.2.1, .int .u8 y.2.2.1, .int .u8 y.2.2.2] 32))
  have H2 := Lib.hid ((Below.heap_alloc w1 (.cells #[.int .u8 y.1, .int .u8 y.2.1, .int .u8 y.2.2.1, .int .u8 y.2.2.2] 32) w.heap.size (by have := b1.size; have := lt_of_block H1.out; omega)).trans ((b1.block _ (lt_of_block H1.out)).trans H1.out))
  clear b1 HH HB H1
  unfold rec4
  go_wp2_with fail
  clear hr0
  generalize (w1.alloc (.cells #[.int .u8 y.1, .int .u8 y.2.1, .int .u8 y.2.2.1, .int .u8 y.2.2.2] 32)) = W2 at *
  refine (IX.out _ B2.out).mono ?_
  rintro e w3 ⟨rfl, b3⟩
  have B3 := Lib.hid (B2.out.trans (b3.mono B2.out.size))
  have H3 := Lib.hid ((b3.block _ (lt_of_block H2.out)).trans H2.out)
  clear b3 B2 H2 IX
  have B4 := Lib.hid (B3.out.alloc B3.out.size (.cells #[] 56))
  have R4' := RR.out.below B4.out
  have c0 : (w3.alloc (.cells #[] 56)).cell? ⟨r, 0, none⟩ = some (.slice va N vcap) := row_cell R4'.row 0
  have RDL := Lib.hid R4'.list.rd
  have OM := Lib.hid (Rw.Ow.made (K := E3) w3 w3.heap.size 56 (Nat.le_refl _))
  clear R4'
  go_wp2_with (at_builtin; refine Rw.all_step (K := E3) Tryd.underlying26 infoE3 rfl (by omega) rfl _ _ rfl w3.heap.size _ _ rfl OM.out _ L rfl RDL.out ?c1 ?c2 ?_)
  case c1 => simp only [List.length_nil]; have := HN.out; omega
  case c2 => simp
  intro v5 w5 o5 b5
  obtain ⟨g5, cap5, e5⟩ : ∃ g cap, v5 = .slice (some ⟨g, 0, none⟩) N cap := by
    obtain ⟨g, cap, e, _⟩ := o5.form (by have := HN.out; omega)
    rw [HN.out] at e
    exact ⟨g, cap, e⟩
  subst e5
  have B5 := Lib.hid (B4.out.trans (b5.mono B3.out.size))
  have Rw5 := (B5.out.block r hrl).trans RR.out.row
  have c5 : w5.cell? ⟨r, 0, none⟩ = some (.slice va N vcap) := row_cell Rw5 0
  have f5 := row_frozen Rw5 0
  have Row6 := Lib.hid (Rw.heap_setCell_same (j := 0) Rw5 (.slice (some ⟨g5, 0, none⟩) N cap5))
  have O6 : Hid (Only (fun k => k = r) w (w5.setCell ⟨r, 0, none⟩ (.slice (some ⟨g5, 0, none⟩) N cap5))) := (Only.of_below B5.out).trans (Only.set (fun k => k = r) w5 (a := ⟨r, 0, none⟩) rfl _) fun _ _ g => g
  have OW6 := Lib.hid (o5.far (p := ⟨r, 0, none⟩) Rw5 (by decide) (.slice (some ⟨g5, 0, none⟩) N cap5))
  have Bx6 := Lib.hid ((Below.heap_setCell w5 ⟨r, 0, none⟩ (.slice (some ⟨g5, 0, none⟩) N cap5) w.heap.size (by show w.heap.size ≠ r; omega)).trans ((b5.block _ (by have := lt_of_block H3.out; exact this)).trans ((Below.heap_alloc w3 (.cells #[] 56) w.heap.size (lt_of_block H3.out)).trans H3.out)))
  have hw3 : Hid (w.heap.size ≤ w3.heap.size) := B3.out.size
  clear b5 o5 B5 Rw5 B4 B3 H3 OM RDL c0
  go_upto_region 6 with fail
  clear c5 f5
  generalize w5.setCell ⟨r, 0, none⟩ (.slice (some ⟨g5, 0, none⟩) N cap5) = w6 at *
  obtain ⟨⟨_, q1, q2⟩, _, hg5, _⟩ := own3 OW6.out HI.out
  have HG5 := Lib.hid hg5
  have c6 : w6.cell? ⟨r, 0, none⟩ = some (.slice (some ⟨g5, 0, none⟩) N cap5) := row_cell Row6.out 0
  unfold Ent.sl at q2
  have B7 := Lib.hid ((Below.refl w6.heap.size w6).alloc (Nat.le_refl _) (.cells #[.int .i64 c.p, .slice c.a c.l.length c.cap] 35))
  have N7 := Lib.hid (heap_alloc_new w6 (.cells #[.int .i64 c.p, .slice c.a c.l.length c.cap] 35))
  clear hg5
  go_upto_region 7 with fail
  clear q1 q2 c6
  have hz7 : Hid ((w6.alloc (.cells #[.int .i64 c.p, .slice c.a c.l.length c.cap] 35)).heap.size = w6.heap.size + 1) := by unfold Hid; simp
  generalize (w6.alloc (.cells #[.int .i64 c.p, .slice c.a c.l.length c.cap] 35)) = w7 at *
  have FR7 := Lib.hid ((rd_only FR.out (G := fun k => k = r) (fun h0 k hk e => FO.out h0 k hk (.inr e)) (O6.out.then B7.out)).below ((Below.refl w7.heap.size w7).alloc (Nat.le_refl _) (.cells #[] 32)))
  have OM := Lib.hid (Rw.Ow.made (K := K4) w7 w7.heap.size 32 (Nat.le_refl _))
  have BA := Lib.hid (Below.heap_alloc w7 (.cells #[] 32))
  have k7 : (w7.alloc (.cells #[] 32)).cell? ⟨w6.heap.size, 1, none⟩ = some (.slice c.a c.l.length c.cap) := row_cell ((BA.out _ (by have := hz7.out; omega)).trans N7.out) 1
  go_wp2_with (at_builtin; refine Rw.all_step (K := K4) Tryd.underlying33 infoR rfl (by omega) rfl _ _ rfl w7.heap.size _ _ rfl OM.out _ c.l rfl FR7.out ?c1 ?c2 ?_)
  case c1 => simp only [List.length_nil]; have := GDC.out.2.2.2.1; have e : c.abs.2.2 = c.l := rfl; rw [e] at this; omega
  case c2 => simp
  intro u8 w8 o8 b8
  obtain ⟨g8, cap8, e8⟩ : ∃ g cap, u8 = .slice (some ⟨g, 0, none⟩) c.l.length cap := by
    obtain ⟨g, cap, e, _⟩ := o8.form (by omega)
    exact ⟨g, cap, e⟩
  subst e8
  have B8 : Below w7.heap.size w7 w8 := ((Below.refl w7.heap.size w7).alloc (Nat.le_refl _) _).trans b8
  have N8 := Lib.hid ((B8.block w6.heap.size (by have := hz7.out; omega)).trans N7.out)
  have k8 : w8.cell? ⟨w6.heap.size, 1, none⟩ = some (.slice c.a c.l.length c.cap) := row_cell N8.out 1
  have f8 := row_frozen N8.out 1
  have hs67 : Hid (w6.heap.size < w7.heap.size) := by have := hz7.out; show _ < _; omega
  have hwr6 : Hid (w.heap.size ≤ w6.heap.size) := O6.out.size
  have Bx8 := Lib.hid ((B8.block _ (by have := lt_of_block Bx6.out; have := hs67.out; omega)).trans ((B7.out.block _ (lt_of_block Bx6.out)).trans Bx6.out))
  have Row8 := Lib.hid ((B8.block r (by have := hwr6.out; have := hs67.out; omega)).trans ((B7.out.block r (by have := hwr6.out; omega)).trans Row6.out))
  have OW8 := Lib.hid ((OW6.out.keep B7.out).keep B8)
  have O8 := Lib.hid o8
  have n86 : (Value.slice (some ⟨g8, 0, none⟩) c.l.length cap8).ownBlock ≠ some w6.heap.size := o8.range (.inl hs67.out)
  have n56 : (Value.slice (some ⟨g5, 0, none⟩) N cap5).ownBlock ≠ some w6.heap.size := by
    intro e
    have := (ow_new OW6.out w6.heap.size e).2
    omega
  have L8 : Hid (Only (fun k => k = r) w w8) := (O6.out.then B7.out).then B8
  have Row9 := Lib.hid ((Below.heap_setCell w8 ⟨w6.heap.size, 1, none⟩ (.slice (some ⟨g8, 0, none⟩) c.l.length cap8) r (by have := hwr6.out; show r ≠ w6.heap.size; omega)).trans Row8.out)
  have Bx9 := Lib.hid ((Below.heap_setCell w8 ⟨w6.heap.size, 1, none⟩ (.slice (some ⟨g8, 0, none⟩) c.l.length cap8) w.heap.size (by have := lt_of_block Bx6.out; show w.heap.size ≠ w6.heap.size; omega)).trans Bx8.out)
  have N9 := Lib.hid (Rw.heap_setCell_same (j := 1) N8.out (.slice (some ⟨g8, 0, none⟩) c.l.length cap8))
  have OW9 := Lib.hid (OW8.out.off (p := ⟨w6.heap.size, 1, none⟩) n56 (.slice (some ⟨g8, 0, none⟩) c.l.length cap8))
  have O9 := Lib.hid (O8.out.off (p := ⟨w6.heap.size, 1, none⟩) n86 (.slice (some ⟨g8, 0, none⟩) c.l.length cap8))
  have L9 : Hid (Only (fun k => k = r) w (w8.setCell ⟨w6.heap.size, 1, none⟩ (.slice (some ⟨g8, 0, none⟩) c.l.length cap8))) := L8.out.trans (Only.of_from (B := w.heap.size) ((Below.refl w.heap.size w8).setCell (p := ⟨w6.heap.size, 1, none⟩) hwr6.out _)) fun k hk g => by omega
  clear B8 b8 o8 k7 BA OM FR7 Bx6 Bx8 Row6 Row8 OW6 OW8 O8 L8 N7 B7 n86 n56 O6
  go_upto_region 8 with fail
  clear k8 f8 N8
  generalize w8.setCell ⟨w6.heap.size, 1, none⟩ (.slice (some ⟨g8, 0, none⟩) c.l.length cap8) = w9 at *
  have k9 : w9.cell? ⟨w6.heap.size, 1, none⟩ = some (.slice (some ⟨g8, 0, none⟩) c.l.length cap8) := row_cell N9.out 1
  have x0 : w9.cell? ⟨w.heap.size, 0, none⟩ = some (.int .u8 x.1) := row_cell Bx9.out 0
  have x1 : w9.cell? ⟨w.heap.size, 1, none⟩ = some (.int .u8 x.2.1) := row_cell Bx9.out 1
  have x2 : w9.cell? ⟨w.heap.size, 2, none⟩ = some (.int .u8 x.2.2.1) := row_cell Bx9.out 2
  have x3 : w9.cell? ⟨w.heap.size, 3, none⟩ = some (.int .u8 x.2.2.2) := row_cell Bx9.out 3
  obtain ⟨⟨d0, d1, d2, d3⟩, hfr, hg8, _⟩ := own4 O9.out k hk
  have f0 := hfr (k * 4)
  have f1 := hfr (k * 4 + 1)
  have f2 := hfr (k * 4 + 2)
  have f3 := hfr (k * 4 + 3)
  have g8r : r ≠ g8 := by have := hwr6.out; have := hs67.out; omega
  have g86 : w6.heap.size ≠ g8 := by have := hs67.out; omega
  have g85 : (Value.slice (some ⟨g5, 0, none⟩) N cap5).ownBlock ≠ some g8 := by
    intro e
    obtain rfl : g5 = g8 := by simpa [Value.ownBlock] using e
    obtain ⟨_, _, _, h5, _, _⟩ := OW9.out.form (by have := HN.out; omega)
    obtain ⟨cur, hh⟩ : ∃ cur, w9.heap[g5]? = some (.cells cur 56 (0, 0)) := by
      obtain ⟨_, h2⟩ := OW9.out
      rcases h2 with ⟨e, _⟩ | ⟨g, cap, cur, e, _, hh, _⟩
      · cases e
      · obtain rfl : g5 = g := by injection e with e; injection e with e; injection e
        exact ⟨cur, hh⟩
    exact O9.out.apart hh (by decide) rfl
  have Row10 := Lib.hid (sto4_other (g := g8) (o := k * 4) (r := x) Row9.out g8r)
  have N10 := Lib.hid (sto4_other (g := g8) (o := k * 4) (r := x) N9.out g86)
  have OW10 : Hid (Ow E3 (sto4 w9 g8 (k * 4) x) w3.heap.size 56 (.slice (some ⟨g5, 0, none⟩) N cap5) L) := (((OW9.out.off (p := ⟨g8, k * 4, none⟩) g85 _).off (p := ⟨g8, k * 4 + 1, none⟩) g85 _).off (p := ⟨g8, k * 4 + 2, none⟩) g85 _).off (p := ⟨g8, k * 4 + 3, none⟩) g85 _
  have O10 := Lib.hid (sto4_own O9.out rfl k hk x)
  have L10 : Hid (Only (fun k => k = r) w (sto4 w9 g8 (k * 4) x)) := L9.out.trans (Only.of_from (B := w.heap.size) (sto4_below (o := k * 4) (r := x) (Below.refl w.heap.size w9) (by have := hwr6.out; have := hs67.out; omega))) fun k hk g => by omega
  have hg58 : Hid (g5 ≠ g8) := fun e => g85 (by rw [e]; rfl)
  have hg56 : Hid (g5 ≠ w6.heap.size) := by
    intro e
    obtain ⟨_, h2⟩ := OW9.out
    rcases h2 with ⟨e2, _⟩ | ⟨g, cap, cur, e2, _, hh, _⟩
    · cases e2
    · obtain rfl : g5 = g := by injection e2 with e2; injection e2 with e2; injection e2
      rw [e, N9.out] at hh
      injection hh with hh
      injection hh with _ hh _
      cases hh
  clear hfr hg8 g8r g86 g85 Row9 N9 OW9 O9 L9 Bx9
  unfold sto4 at Row10 N10 OW10 O10 L10
  go_wp2_with fail
  clear d0 d1 d2 d3 f0 f1 f2 f3 x0 x1 x2 x3 k9
  generalize (((w9.setCell ⟨g8, k * 4, none⟩ (.int .u8 x.1)).setCell ⟨g8, k * 4 + 1, none⟩ (.int .u8 x.2.1)).setCell ⟨g8, k * 4 + 2, none⟩ (.int .u8 x.2.2.1)).setCell ⟨g8, k * 4 + 3, none⟩ (.int .u8 x.2.2.2) = w10 at *
  have C0 : RC r (.slice (some ⟨g5, 0, none⟩) N cap5) d w6.heap.size c.p (.slice (some ⟨g8, 0, none⟩) c.l.length cap8) w10.drew := ⟨Row10.out, N10.out⟩
  have c0 := Sc.cell_in (C := RC r (.slice (some ⟨g5, 0, none⟩) N cap5) d w6.heap.size c.p (.slice (some ⟨g8, 0, none⟩) c.l.length cap8)) (a := ⟨r, 0, none⟩) (fun W' h => row_cell h.row 0)
  have r0 := Sc.cell_in (C := RC r (.slice (some ⟨g5, 0, none⟩) N cap5) d w6.heap.size c.p (.slice (some ⟨g8, 0, none⟩) c.l.length cap8)) (a := ⟨w6.heap.size, 0, none⟩) (fun W' h => row_cell h.box 0)
  have r1 := Sc.cell_in (C := RC r (.slice (some ⟨g5, 0, none⟩) N cap5) d w6.heap.size c.p (.slice (some ⟨g8, 0, none⟩) c.l.length cap8)) (a := ⟨w6.heap.size, 1, none⟩) (fun W' h => row_cell h.box 1)
  have ne : Nonempty (Sc.In (RC r (.slice (some ⟨g5, 0, none⟩) N cap5) d w6.heap.size c.p (.slice (some ⟨g8, 0, none⟩) c.l.length cap8))) := ⟨⟨_, C0⟩⟩
  refine Sc.start (RC r (.slice (some ⟨g5, 0, none⟩) N cap5) d w6.heap.size c.p (.slice (some ⟨g8, 0, none⟩) c.l.length cap8)) [(false, 0), (false, 1), (false, 2), (false, 3), (false, 4), (false, 5), (false, 6), (false, 7), (true, 8)] (by kernel_rfl) (by kernel_rfl) (by kernel_rfl) C0 ?_
  dsimp only [Sd.picks, List.getElem?_cons_succ, List.getElem?_cons_zero]
  repeat (refine Sd.lit ?_; quiet_step (fail); refine wpQuiet_nil ?_)
  have OW11 : Hid (Ow E3 w10.drew w3.heap.size 56 (.slice (some ⟨g5, 0, none⟩) N cap5) L) := OW10.out
  have O11 : Hid (Ow K4 w10.drew w7.heap.size 32 (.slice (some ⟨g8, 0, none⟩) c.l.length cap8) (c.l.set k x)) := O10.out
  have L11 : Hid (Only (fun k => k = r) w w10.drew) := L10.out.then ((Below.refl _ _).drew)
  have Row11 : Hid (w10.drew.heap[r]? = _) := Row10.out
  have N11 : Hid (w10.drew.heap[w6.heap.size]? = _) := N10.out
  clear c0 r0 r1 C0 OW10 O10 L10 Row10 N10
  generalize w10.drew = w11 at *
  refine Sd.call (by rfl) (fun K hK => ?_)
  obtain ⟨⟨_, q1, q2⟩, hfr, _, _⟩ := own3 OW11.out HI.out
  unfold Ent.sl at q2
  have f1 := hfr (i * 3 + 1)
  have f2 := hfr (i * 3 + 2)
  have hg5r : g5 ≠ r := by have := HG5.out; have := hw3.out; omega
  have RES : Hid (RSPost w r F d true ((L.set i (⟨c.n, c.p, none, 0, c.l.set k x⟩ : Ent)).map Ent.abs) (.returned (.bool true)) ((w11.setCell ⟨g5, i * 3 + 1, none⟩ (.int .i64 c.p)).setCell ⟨g5, i * 3 + 2, none⟩ (.slice (some ⟨g8, 0, none⟩) c.l.length cap8))) := by
    have esl : (⟨c.n, c.p, some ⟨g8, 0, none⟩, cap8, c.l.set k x⟩ : Ent).sl = .slice (some ⟨g8, 0, none⟩) c.l.length cap8 := by unfold Ent.sl; rw [List.length_set]
    have hn8 : ∀ j, (Value.slice (some ⟨g8, 0, none⟩) c.l.length cap8).ownBlock ≠ some (⟨g5, j, none⟩ : Addr).block := fun j e => by
      have : g8 = g5 := by simpa [Value.ownBlock] using e
      exact hg58.out this.symm
    refine FIN.out (some ⟨g8, 0, none⟩) cap8 (.slice (some ⟨g5, 0, none⟩) N cap5) _ ?_ ?_ ?_ ?_
    · have hwg : w.heap.size ≤ g5 := by have := HG5.out; have := hw3.out; omega
      exact L11.out.trans (Only.of_from (B := w.heap.size) (((Below.refl w.heap.size w11).setCell (p := ⟨g5, i * 3 + 1, none⟩) hwg _).setCell (p := ⟨g5, i * 3 + 2, none⟩) hwg _)) fun k hk g => by omega
    · exact (Below.heap_setCell _ ⟨g5, i * 3 + 2, none⟩ _ r (fun e => hg5r e.symm)).trans ((Below.heap_setCell _ ⟨g5, i * 3 + 1, none⟩ _ r (fun e => hg5r e.symm)).trans Row11.out)
    · have := set3 (c' := ⟨c.n, c.p, some ⟨g8, 0, none⟩, cap8, c.l.set k x⟩) OW11.out HN.out.symm HI.out rfl rfl
      rw [esl] at this
      exact this.low hw3.out
    · rw [esl]
      exact ((O11.out.off (hn8 _) _).off (hn8 _) _).low (by have := hwr6.out; have := hs67.out; omega)
  have Row12 : RC r (.slice (some ⟨g5, 0, none⟩) N cap5) d w6.heap.size c.p (.slice (some ⟨g8, 0, none⟩) c.l.length cap8) ((w11.setCell ⟨g5, i * 3 + 1, none⟩ (.int .i64 c.p)).setCell ⟨g5, i * 3 + 2, none⟩ (.slice (some ⟨g8, 0, none⟩) c.l.length cap8)) :=
    ⟨(Below.heap_setCell _ ⟨g5, i * 3 + 2, none⟩ _ r (fun e => hg5r e.symm)).trans ((Below.heap_setCell _ ⟨g5, i * 3 + 1, none⟩ _ r (fun e => hg5r e.symm)).trans Row11.out),
     (Below.heap_setCell _ ⟨g5, i * 3 + 2, none⟩ _ w6.heap.size (fun e => hg56.out e.symm)).trans ((Below.heap_setCell _ ⟨g5, i * 3 + 1, none⟩ _ w6.heap.size (fun e => hg56.out e.symm)).trans N11.out)⟩
  clear hfr hg5r FIN OW11 O11 L11 Row11 N11
  go_simp
  refine hK _ _ (Sc.Cl.of Row12) ?_
  clear hK K q1 q2 f1 f2 Row12
  generalize (w11.setCell ⟨g5, i * 3 + 1, none⟩ (.int .i64 c.p)).setCell ⟨g5, i * 3 + 2, none⟩ (.slice (some ⟨g8, 0, none⟩) c.l.length cap8) = w12 at *
  refine Sd.done ?_
  go_wp2
  go_ret
  exact RES.out
theorem rset_any {w : World} {r : Nat} {F : Nat → Prop} {A : Abs} {d : Int} (R : Rs w r F A d) (hF : ∀ k, F k → k < w.heap.size) (n k : Int) (x : R4) (hx : okR x) :
    Calls Tryd.prog 11 #[.pointer (some ⟨r, 0, none⟩), .int .i64 n, .int .i64 k, rec4 x] w (RSPost w r F d (sB A n k) (sA A n k x)) := by
  obtain ⟨v, L, h, rfl⟩ := R
  have no : ∀ e w', sB (L.map Ent.abs) n k = false → (e = .returned (.bool false) ∧ Below w.heap.size w w') → RSPost w r F d (sB (L.map Ent.abs) n k) (sA (L.map Ent.abs) n k x) e w' := fun e w' hb ⟨he, b⟩ => by
    unfold RSPost
    rw [hb, sA_no hb x]
    exact ⟨he, ⟨v, L, h.below b, rfl⟩, Only.of_below b⟩
  cases hb : gB (L.map Ent.abs) n k with
  | false => exact (rset_no w _ n k x _ false (.inl rfl) fun W hbl => by have := rget_any (h.below hbl) n k; rwa [hb] at this).mono fun e w' => no e w' (by unfold sB; rw [hb]; rfl)
  | true =>
    by_cases h0 : k = 0
    · exact (rset_no w _ n k x _ true (.inr ⟨rfl, h0⟩) fun W hbl => by have := rget_any (h.below hbl) n k; rwa [hb] at this).mono fun e w' => no e w' (by unfold sB; rw [hb, h0]; rfl)
    · cases hk : look Ent.n n L with
      | none => rw [gB_none hk] at hb; cases hb
      | some c =>
        rw [gB_some hk] at hb
        obtain ⟨h1, h2⟩ := of_decide_eq_true hb
        obtain ⟨i, hi, hq⟩ := ix_some (srtL h.ok) hk
        rw [sB_some hk h1 h2 h0, sA_some hk h1 h2 h0]
        obtain ⟨j, rfl⟩ : ∃ j : Nat, k = j := ⟨k.toNat, by omega⟩
        rw [Int.toNat_natCast]
        have e : (put Ent.n (c.recs (c.l.set j x)) L).map Ent.abs = (L.set i (⟨c.n, c.p, none, 0, c.l.set j x⟩ : Ent)).map Ent.abs := by
          have e3 : put Ent.n (c.recs (c.l.set j x)) L = L.set i (c.recs (c.l.set j x)) := put_set (srtL h.ok) hi rfl
          rw [e3, List.map_set, List.map_set]
          rfl
        rw [e]
        exact rset_yes h hF j x hx hi hq (by omega) (by omega) _ fun W hbl => by
          have := rget_any (h.below hbl) n j
          rw [gB_some hk, decide_eq_true ⟨h1, h2⟩] at this
          exact this

end Go.Proofs.YtoeemngekioldaaDoor.Fs
