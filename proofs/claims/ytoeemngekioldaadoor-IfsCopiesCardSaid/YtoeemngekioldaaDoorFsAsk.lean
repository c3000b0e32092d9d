/- ifs: ask, by its contract. -/
import Derived.Test.YtoeemngekioldaaDoorFsAddY
import Derived.Test.YtoeemngekioldaaDoorFsNum
import Derived.Test.YtoeemngekioldaaDoorSf
namespace Go.Proofs.YtoeemngekioldaaDoor.Fs
open Go.RowKit Go.Maps
open Go.Proofs.YtoeemngekioldaaDoor.Fl (R4 z4 K4 rec4 rat goodF goodFB okR okL doE newR file arr4 sto2 sto4 sto2_row sto2_other sto2_below sto2_size sto4_row sto4_other sto4_below sto4_size row_cell row_frozen do_any DoPost)
open Go.Proofs.YtoeemngekioldaaDoor.Rw (Rd Ow At)
set_option maxRecDepth 100000
attribute [local irreducible] Sd.wpSd wpQuiet Sf.wpSf

/-- Where ask stands when its parameters and results are laid. -/
structure Ask0 (w : World) (o f r : Int) (x : R4) (W : World) : Prop where
  adr : W.heap[w.heap.size]? = some (.cells #[.int .i64 o, .int .i64 f, .int .i64 r] 30 (0, 0))
  arg : W.heap[w.heap.size + 1]? = some (.cells (arr4 x) 32 (0, 0))
  res : W.heap[w.heap.size + 2]? = some (.cells (arr4 z4) 32 (0, 0))
  siz : w.heap.size + 3 ≤ W.heap.size
  bel : Below w.heap.size w W
theorem Ask0.mono {w W W' : World} {o f r : Int} {x : R4} (h : Ask0 w o f r x W) (b : Below W.heap.size W W') : Ask0 w o f r x W' :=
  have s := h.siz
  ⟨(b.block _ (by omega)).trans h.adr, (b.block _ (by omega)).trans h.arg, (b.block _ (by omega)).trans h.res, Nat.le_trans h.siz b.size, h.bel.trans (b.mono (by omega))⟩
theorem ask0_of (w : World) (o f r : Int) (x : R4) : Ask0 w o f r x (((w.alloc (.cells #[.int .i64 o, .int .i64 f, .int .i64 r] 30)).alloc (.cells #[.int .u8 x.1, .int .u8 x.2.1, .int .u8 x.2.2.1, .int .u8 x.2.2.2] 32)).alloc (.cells #[.int .u8 0, .int .u8 0, .int .u8 0, .int .u8 0] 32)) := by
  have z1 : ∀ a, (w.alloc a).heap.size = w.heap.size + 1 := fun a => by simp
  have z2 : ∀ a b, ((w.alloc a).alloc b).heap.size = w.heap.size + 2 := fun a b => by simp
  refine ⟨?_, ?_, ?_, by simp, (((Below.refl w.heap.size w).alloc (Nat.le_refl _) _).alloc (by simp) _).alloc (by simp; omega) _⟩
  · exact (Below.heap_alloc _ _ _ (by rw [z2]; omega)).trans ((Below.heap_alloc _ _ _ (by rw [z1]; omega)).trans (heap_alloc_new w _))
  · have := heap_alloc_new (w.alloc (.cells #[.int .i64 o, .int .i64 f, .int .i64 r] 30)) (.cells (arr4 x) 32)
    rw [z1] at this
    exact (Below.heap_alloc _ _ _ (by rw [z2]; omega)).trans this
  · have := heap_alloc_new ((w.alloc (.cells #[.int .i64 o, .int .i64 f, .int .i64 r] 30)).alloc (.cells (arr4 x) 32)) (.cells (arr4 z4) 32)
    rw [z2] at this
    exact this
/-- What the regions that answer an error read. -/
def Adr (w : World) (o f r : Int) (W : World) : Prop := W.heap[w.heap.size]? = some (.cells #[.int .i64 o, .int .i64 f, .int .i64 r] 30 (0, 0))
def AskNo (w : World) (f k : Int) (e : Ending) (w' : World) : Prop := e = .returned (.tuple #[rec4 z4, fault f k]) ∧ Below w.heap.size w w'

set_option maxHeartbeats 2000000 in
theorem ask_none {w : World} {s : Nat} {F : Nat → Prop} {m : Value} {C : List Ent} {d : Int} (S : Sto w s F m C d) (o f r : Int) (x : R4) (hn : Wf f) (hk : look Ent.n f C = none) :
    Calls Tryd.prog 27 #[.pointer (some ⟨s, 0, none⟩), Ad.addr o f r, rec4 x] w (AskNo w f 3) := by
  have A0 := ask0_of w o f r x
  have S0 : Hid (Ask0 w o f r x (((w.alloc (.cells #[.int .i64 o, .int .i64 f, .int .i64 r] 30)).alloc (.cells #[.int .u8 x.1, .int .u8 x.2.1, .int .u8 x.2.2.1, .int .u8 x.2.2.2] 32)).alloc (.cells #[.int .u8 0, .int .u8 0, .int .u8 0, .int .u8 0] 32))) := A0
  have SS := Lib.hid (S.below A0.bel)
  have HN := Lib.hid hn
  have L := Lib.hid (lv_none hk)
  have LB := Lib.hid (lb_none hk)
  clear A0 hn
  clear S hk
  unfold rec4
  unfold Ad.addr
  go_enter Tryd.func27, Tryd.ntmps27
  go_wp2_with fail
  generalize (((w.alloc (.cells #[.int .i64 o, .int .i64 f, .int .i64 r] 30)).alloc (.cells #[.int .u8 x.1, .int .u8 x.2.1, .int .u8 x.2.2.1, .int .u8 x.2.2.2] 32)).alloc (.cells #[.int .u8 0, .int .u8 0, .int .u8 0, .int .u8 0] 32)) = W at *
  have c0 := Sd.cell_by (show W.cell? ⟨s, 0, none⟩ = some m from row_cell SS.out.row 0)
  have a1 := Sd.cell_by (show W.cell? ⟨w.heap.size, 1, none⟩ = some (.int .i64 f) from row_cell S0.out.adr 1)
  have hlk : ∀ P : Sd.By W, (Instr.lookup 59 m (.int .i64 f) true).run Tryd.prog P.world = .ok (.tuple #[.agg #[.int .i64 0, .slice none 0 0], .bool false]) P.world := fun P => by
    have := run_look (SS.out.below P.below).mp HN.out true
    rw [L.out, LB.out] at this
    exact this
  refine Sf.start [(0, 0), (0, 1), (0, 2), (0, 3), (0, 4), (0, 5), (0, 6), (0, 7), (0, 8), (0, 9), (2, 10), (1, 11), (0, 12)] [⟨10, 8, #[.int .i64 0, .slice none 0 0], 35⟩] (by kernel_rfl) (by kernel_rfl) (by kernel_rfl) (by decide) (by decide) ?_ ?_ ?_
  · simp
  · intro f hf
    simp only [List.mem_cons, List.not_mem_nil, or_false] at hf
    subst hf
    exact ⟨_, rfl, rfl, rfl, fun ρ w => by go_simp⟩
  dsimp only [Sf.picks, List.getElem?_cons_succ, List.getElem?_cons_zero]
  have BW := Lib.hid ((Below.refl W.heap.size W).drew)
  repeat (refine Sf.lit (fun xs => ?_); simp only [Sf.fill, List.foldl_cons, List.foldl_nil]; quiet_step (fail); refine wpQuiet_nil ?_)
  refine Sf.meet (fun gF w7 hb hc row n7 hH hL => ?_)
  have B7 := Lib.hid (BW.out.trans (hb.mono BW.out.size))
  have R7 : Hid (w7.heap[gF]? = some (.cells #[.int .i64 0, .slice none 0 0] 35 (0, 0))) := row
  clear hb hc row hH hL BW
  refine Sf.call (fun xs w9 hb hc => ⟨by rfl, fun K hK => ?_⟩)
  have B9 := Lib.hid (B7.out.trans (hb.mono B7.out.size))
  have R9 := (hb.block _ (lt_of_block R7.out)).trans R7.out
  have k0 : w9.cell? ⟨gF, 0, none⟩ = some (.int .i64 0) := row_cell R9 0
  have k1 : w9.cell? ⟨gF, 1, none⟩ = some (.slice none 0 0) := row_cell R9 1
  have f0 := row_frozen R9 0
  have f1 := row_frozen R9 1
  have RA := Lib.hid (sto2_row R9 0 (.slice none 0 0))
  have BA := Lib.hid (sto2_below (p := 0) (v := .slice none 0 0) B9.out n7)
  have hsz := sto2_size w9 gF 0 (.slice none 0 0)
  clear hb hc B7 R7 R9 B9
  simp only [Sf.fill, List.foldl_nil]
  go_simp
  refine hK _ _ (Sd.Cl.of BA.out) (by rw [← hsz]; exact Nat.le_refl _) (fun h => absurd rfl h) ?_
  clear hK K k0 k1 f0 f1 hsz
  show Sf.wpSf _ _ _ _ _ _ _ _ _ _ (sto2 w9 gF 0 (.slice none 0 0))
  generalize sto2 w9 gF 0 (.slice none 0 0) = wA at *
  repeat (refine Sf.lit (fun xs => ?_); simp only [Sf.fill, List.foldl_nil]; quiet_step (fail); refine wpQuiet_nil ?_)
  refine Sf.done (fun wB hb hc => ?_)
  have BX := Lib.hid (BA.out.trans (hb.mono BA.out.size))
  have G1 := Lib.hid ((hb.block _ (lt_of_block RA.out)).trans RA.out)
  have S1 := Lib.hid (S0.out.mono BX.out)
  have N7 : Hid (W.heap.size ≤ gF) := n7
  clear hb hc BA RA c0 a1 hlk n7 S0
  clear BX G1 N7 SS
  go_wp2_with fail
  have C0 : Adr w o f r wB.drew := S1.out.adr
  have a1 := Sc.cell_in (C := Adr w o f r) (a := ⟨w.heap.size, 1, none⟩) (v := .int .i64 f) (fun W' h => row_cell h 1)
  have ne : Nonempty (Sc.In (Adr w o f r)) := ⟨⟨_, C0⟩⟩
  refine Sc.start (Adr w o f r) [(false, 0), (false, 1), (false, 2), (false, 3), (false, 4), (false, 5), (true, 6), (false, 7)] (by kernel_rfl) (by kernel_rfl) (by kernel_rfl) C0 ?_
  dsimp only [Sd.picks, List.getElem?_cons_succ, List.getElem?_cons_zero]
  repeat (refine Sd.lit ?_; quiet_step (fail); refine wpQuiet_nil ?_)
  have S2 := Lib.hid (S1.out.mono ((Below.refl wB.heap.size wB).drew))
  clear S1 C0 a1
  generalize wB.drew = Wy at *
  refine Sd.call (by rfl) (fun K hK => ?_)
  have d0 : Wy.cell? ⟨w.heap.size + 2, 0, none⟩ = some (.int .u8 0) := row_cell S2.out.res 0
  have d1 : Wy.cell? ⟨w.heap.size + 2, 1, none⟩ = some (.int .u8 0) := row_cell S2.out.res 1
  have d2 : Wy.cell? ⟨w.heap.size + 2, 2, none⟩ = some (.int .u8 0) := row_cell S2.out.res 2
  have d3 : Wy.cell? ⟨w.heap.size + 2, 3, none⟩ = some (.int .u8 0) := row_cell S2.out.res 3
  have k0 := row_frozen S2.out.res 0
  have k1 := row_frozen S2.out.res 1
  have k2 := row_frozen S2.out.res 2
  have k3 := row_frozen S2.out.res 3
  have L2 : Adr w o f r (sto4 Wy (w.heap.size + 2) 0 z4) := sto4_other S2.out.adr (by omega)
  have R3 := Lib.hid (sto4_row S2.out.res z4)
  have B3 := Lib.hid (sto4_below (o := 0) (r := z4) S2.out.bel (show w.heap.size ≤ w.heap.size + 2 by omega))
  clear S2
  go_simp
  refine hK _ _ (Sc.Cl.of L2) ?_
  clear hK K d0 d1 d2 d3 k0 k1 k2 k3 L2
  show Sd.wpSd _ _ _ _ _ _ (sto4 Wy (w.heap.size + 2) 0 z4)
  generalize sto4 Wy (w.heap.size + 2) 0 z4 = Wz at *
  repeat (refine Sd.lit ?_; quiet_step (fail); refine wpQuiet_nil ?_)
  refine Sd.done ?_
  go_wp2
  (try simp only [Exit.inBlock, Exit.then])
  exact bodyPost_ret (results_rec (p := 6) (r := 7) rfl _ _ (w.heap.size + 2) z4 (fault f 3) rfl rfl R3.out) rfl ⟨rfl, B3.out⟩

theorem do_err (w : World) (p : Int) (v : Value) (l : List R4) (R : Rd K4 w v l) (hl : okL l) (o r k : Int) (x : R4) (he : doE p l o r = k) (hk : k ≠ 0) : Calls Tryd.prog 41 #[file p v, .int .i64 o, .int .i64 r, rec4 x] w fun e w' => ∃ a cap, e = .returned (.tuple #[file 0 (.slice a 0 cap), rec4 z4, .int .i64 k]) ∧ Below w.heap.size w w' :=
  (do_any w p v l R hl o r x).mono fun e w' ⟨u, h1, h2, h3⟩ => by
    rw [he, if_neg hk] at h2
    obtain ⟨a, cap, rfl, _⟩ := h2.slice
    rw [he, if_neg hk, if_neg hk] at h1
    exact ⟨a, cap, h1, h3⟩
theorem do_ok (w : World) (p : Int) (v : Value) (l : List R4) (R : Rd K4 w v l) (hl : okL l) (o r : Int) (x : R4) (he : doE p l o r = 0) : Calls Tryd.prog 41 #[file p v, .int .i64 o, .int .i64 r, rec4 x] w fun e w' => ∃ a cap, e = .returned (.tuple #[file p (.slice a l.length cap), rec4 (newR l o r x), .int .i64 0]) ∧ Ow K4 w' w.heap.size 32 (.slice a l.length cap) (l.set r.toNat (newR l o r x)) ∧ Below w.heap.size w w' :=
  (do_any w p v l R hl o r x).mono fun e w' ⟨u, h1, h2, h3⟩ => by
    rw [he, if_pos rfl] at h2
    obtain ⟨a, cap, rfl, _⟩ := h2.slice
    rw [List.length_set] at h1 h2
    rw [he, if_pos rfl, if_pos rfl] at h1
    exact ⟨a, cap, h1, h2, h3⟩
theorem two_res (w : World) (q : Int) (u : Value) (y : R4) : ((w.alloc (.cells #[.int .i64 q, u] 35)).alloc (.cells (arr4 y) 32)).heap[w.heap.size]? = some (.cells #[.int .i64 q, u] 35 (0, 0)) ∧ ((w.alloc (.cells #[.int .i64 q, u] 35)).alloc (.cells (arr4 y) 32)).heap[w.heap.size + 1]? = some (.cells (arr4 y) 32 (0, 0)) ∧ Below w.heap.size w ((w.alloc (.cells #[.int .i64 q, u] 35)).alloc (.cells (arr4 y) 32)) := by
  refine ⟨(Below.heap_alloc _ _ _ (by simp)).trans (heap_alloc_new w _), ?_, ((Below.refl w.heap.size w).alloc (Nat.le_refl _) _).alloc (by simp) _⟩
  have := heap_alloc_new (w.alloc (.cells #[.int .i64 q, u] 35)) (.cells (arr4 y) 32)
  simpa using this

set_option maxHeartbeats 2000000 in
theorem ask_err {w : World} {s : Nat} {F : Nat → Prop} {m : Value} {C : List Ent} {d : Int} (S : Sto w s F m C d) (o f r k : Int) (x : R4) (hn : Wf f) {c : Ent} (hk : look Ent.n f C = some c) (he : doE c.p c.l o r = k) (h0 : k ≠ 0) :
    Calls Tryd.prog 27 #[.pointer (some ⟨s, 0, none⟩), Ad.addr o f r, rec4 x] w (AskNo w f k) := by
  obtain ⟨ho, hgd, hok, _, _, hcm⟩ := S.find hk
  have RR := Lib.hid (ho.rd)
  have OK := Lib.hid hok
  have A0 := ask0_of w o f r x
  have S0 : Hid (Ask0 w o f r x (((w.alloc (.cells #[.int .i64 o, .int .i64 f, .int .i64 r] 30)).alloc (.cells #[.int .u8 x.1, .int .u8 x.2.1, .int .u8 x.2.2.1, .int .u8 x.2.2.2] 32)).alloc (.cells #[.int .u8 0, .int .u8 0, .int .u8 0, .int .u8 0] 32))) := A0
  have SS := Lib.hid (S.below A0.bel)
  have HN := Lib.hid hn
  have L := Lib.hid (lv_some hk)
  have LB := Lib.hid (lb_some hk)
  obtain ⟨cn, p, a, cap, l⟩ := c
  unfold Ent.sl at RR
  simp only at *
  have HE := Lib.hid (And.intro he h0)
  have hk1 : (k == 0) = false := by simpa using h0
  obtain ⟨q, hq⟩ : ∃ q, q = l.length := ⟨_, rfl⟩
  rw [← hq] at RR L
  have HQ := Lib.hid hq
  clear S hk A0 hn ho hgd hok hcm he hq
  unfold rec4
  unfold Ad.addr
  go_enter Tryd.func27, Tryd.ntmps27
  go_wp2_with fail
  generalize (((w.alloc (.cells #[.int .i64 o, .int .i64 f, .int .i64 r] 30)).alloc (.cells #[.int .u8 x.1, .int .u8 x.2.1, .int .u8 x.2.2.1, .int .u8 x.2.2.2] 32)).alloc (.cells #[.int .u8 0, .int .u8 0, .int .u8 0, .int .u8 0] 32)) = W at *
  have c0 := Sd.cell_by (show W.cell? ⟨s, 0, none⟩ = some m from row_cell SS.out.row 0)
  have a1 := Sd.cell_by (show W.cell? ⟨w.heap.size, 1, none⟩ = some (.int .i64 f) from row_cell S0.out.adr 1)
  have hlk : ∀ P : Sd.By W, (Instr.lookup 59 m (.int .i64 f) true).run Tryd.prog P.world = .ok (.tuple #[.agg #[.int .i64 p, .slice a q cap], .bool true]) P.world := fun P => by
    have := run_look (SS.out.below P.below).mp HN.out true
    rw [L.out, LB.out] at this
    exact this
  refine Sf.start [(0, 0), (0, 1), (0, 2), (0, 3), (0, 4), (0, 5), (0, 6), (0, 7), (0, 8), (0, 9), (2, 10), (1, 11), (0, 12)] [⟨10, 8, #[.int .i64 0, .slice none 0 0], 35⟩] (by kernel_rfl) (by kernel_rfl) (by kernel_rfl) (by decide) (by decide) ?_ ?_ ?_
  · simp
  · intro f hf
    simp only [List.mem_cons, List.not_mem_nil, or_false] at hf
    subst hf
    exact ⟨_, rfl, rfl, rfl, fun ρ w => by go_simp⟩
  dsimp only [Sf.picks, List.getElem?_cons_succ, List.getElem?_cons_zero]
  have BW := Lib.hid ((Below.refl W.heap.size W).drew)
  repeat (refine Sf.lit (fun xs => ?_); simp only [Sf.fill, List.foldl_cons, List.foldl_nil]; quiet_step (fail); refine wpQuiet_nil ?_)
  refine Sf.meet (fun gF w7 hb hc row n7 hH hL => ?_)
  have B7 := Lib.hid (BW.out.trans (hb.mono BW.out.size))
  have R7 : Hid (w7.heap[gF]? = some (.cells #[.int .i64 0, .slice none 0 0] 35 (0, 0))) := row
  clear hb hc row hH hL BW
  refine Sf.call (fun xs w9 hb hc => ⟨by rfl, fun K hK => ?_⟩)
  have B9 := Lib.hid (B7.out.trans (hb.mono B7.out.size))
  have R9 := (hb.block _ (lt_of_block R7.out)).trans R7.out
  have k0 : w9.cell? ⟨gF, 0, none⟩ = some (.int .i64 0) := row_cell R9 0
  have k1 : w9.cell? ⟨gF, 1, none⟩ = some (.slice none 0 0) := row_cell R9 1
  have f0 := row_frozen R9 0
  have f1 := row_frozen R9 1
  have RA := Lib.hid (sto2_row R9 p (.slice a q cap))
  have BA := Lib.hid (sto2_below (p := p) (v := .slice a q cap) B9.out n7)
  have hsz := sto2_size w9 gF p (.slice a q cap)
  clear hb hc B7 R7 R9 B9
  simp only [Sf.fill, List.foldl_nil]
  go_simp
  refine hK _ _ (Sd.Cl.of BA.out) (by rw [← hsz]; exact Nat.le_refl _) (fun h => absurd rfl h) ?_
  clear hK K k0 k1 f0 f1 hsz
  show Sf.wpSf _ _ _ _ _ _ _ _ _ _ (sto2 w9 gF p (.slice a q cap))
  generalize sto2 w9 gF p (.slice a q cap) = wA at *
  repeat (refine Sf.lit (fun xs => ?_); simp only [Sf.fill, List.foldl_nil]; quiet_step (fail); refine wpQuiet_nil ?_)
  refine Sf.done (fun wB hb hc => ?_)
  have BX := Lib.hid (BA.out.trans (hb.mono BA.out.size))
  have G1 := Lib.hid ((hb.block _ (lt_of_block RA.out)).trans RA.out)
  have S1 := Lib.hid (S0.out.mono BX.out)
  have N7 : Hid (W.heap.size ≤ gF) := n7
  clear hb hc BA RA c0 a1 hlk n7 S0
  have b0 : wB.cell? ⟨gF, 0, none⟩ = some (.int .i64 p) := row_cell G1.out 0
  have b1 : wB.cell? ⟨gF, 1, none⟩ = some (.slice a q cap) := row_cell G1.out 1
  have a0 : wB.cell? ⟨w.heap.size, 0, none⟩ = some (.int .i64 o) := row_cell S1.out.adr 0
  have a2 : wB.cell? ⟨w.heap.size, 2, none⟩ = some (.int .i64 r) := row_cell S1.out.adr 2
  have x0 : wB.cell? ⟨w.heap.size + 1, 0, none⟩ = some (.int .u8 x.1) := row_cell S1.out.arg 0
  have x1 : wB.cell? ⟨w.heap.size + 1, 1, none⟩ = some (.int .u8 x.2.1) := row_cell S1.out.arg 1
  have x2 : wB.cell? ⟨w.heap.size + 1, 2, none⟩ = some (.int .u8 x.2.2.1) := row_cell S1.out.arg 2
  have x3 : wB.cell? ⟨w.heap.size + 1, 3, none⟩ = some (.int .u8 x.2.2.2) := row_cell S1.out.arg 3
  have DO := Lib.hid (do_err wB p (.slice a q cap) l (RR.out.below S1.out.bel) OK.out o r k x HE.out.1 HE.out.2)
  clear SS BX G1 N7 L LB
  unfold file rec4 at DO
  go_wp2_with fail
  refine DO.out.mono ?_
  rintro e w3 ⟨ua, ucap, rfl, b3⟩
  obtain ⟨t1, t2, tB⟩ := two_res w3 0 (.slice ua 0 ucap) z4
  have S3 := Lib.hid ((S1.out.mono b3).mono tB)
  clear t1 t2 tB b3 DO b0 b1 a0 a2 x0 x1 x2 x3 S1
  unfold z4
  unfold arr4 z4 at S3
  go_wp2_with fail
  generalize ((w3.alloc (.cells #[.int .i64 0, .slice ua 0 ucap] 35)).alloc (.cells #[.int .u8 0, .int .u8 0, .int .u8 0, .int .u8 0] 32)) = Wq at *
  have S1 : Hid (Ask0 w o f r x Wq) := S3
  clear S3
  have C0 : Adr w o f r Wq.drew := S1.out.adr
  have a1 := Sc.cell_in (C := Adr w o f r) (a := ⟨w.heap.size, 1, none⟩) (v := .int .i64 f) (fun W' h => row_cell h 1)
  have ne : Nonempty (Sc.In (Adr w o f r)) := ⟨⟨_, C0⟩⟩
  refine Sc.start (Adr w o f r) [(false, 0), (false, 1), (false, 2), (false, 3), (false, 4), (false, 5), (false, 6), (true, 7), (false, 8)] (by kernel_rfl) (by kernel_rfl) (by kernel_rfl) C0 ?_
  dsimp only [Sd.picks, List.getElem?_cons_succ, List.getElem?_cons_zero]
  repeat (refine Sd.lit ?_; quiet_step (fail); refine wpQuiet_nil ?_)
  have S2 := Lib.hid (S1.out.mono ((Below.refl Wq.heap.size Wq).drew))
  clear S1 C0 a1
  generalize Wq.drew = Wy at *
  refine Sd.call (by rfl) (fun K hK => ?_)
  have d0 : Wy.cell? ⟨w.heap.size + 2, 0, none⟩ = some (.int .u8 0) := row_cell S2.out.res 0
  have d1 : Wy.cell? ⟨w.heap.size + 2, 1, none⟩ = some (.int .u8 0) := row_cell S2.out.res 1
  have d2 : Wy.cell? ⟨w.heap.size + 2, 2, none⟩ = some (.int .u8 0) := row_cell S2.out.res 2
  have d3 : Wy.cell? ⟨w.heap.size + 2, 3, none⟩ = some (.int .u8 0) := row_cell S2.out.res 3
  have k0 := row_frozen S2.out.res 0
  have k1 := row_frozen S2.out.res 1
  have k2 := row_frozen S2.out.res 2
  have k3 := row_frozen S2.out.res 3
  have L2 : Adr w o f r (sto4 Wy (w.heap.size + 2) 0 z4) := sto4_other S2.out.adr (by omega)
  have R3 := Lib.hid (sto4_row S2.out.res z4)
  have B3 := Lib.hid (sto4_below (o := 0) (r := z4) S2.out.bel (show w.heap.size ≤ w.heap.size + 2 by omega))
  clear S2
  go_simp
  refine hK _ _ (Sc.Cl.of L2) ?_
  clear hK K d0 d1 d2 d3 k0 k1 k2 k3 L2
  show Sd.wpSd _ _ _ _ _ _ (sto4 Wy (w.heap.size + 2) 0 z4)
  generalize sto4 Wy (w.heap.size + 2) 0 z4 = Wz at *
  repeat (refine Sd.lit ?_; quiet_step (fail); refine wpQuiet_nil ?_)
  refine Sd.done ?_
  go_wp2
  (try simp only [Exit.inBlock, Exit.then])
  exact bodyPost_ret (results_rec (p := 6) (r := 7) rfl _ _ (w.heap.size + 2) z4 (fault f k) rfl rfl R3.out) rfl ⟨rfl, B3.out⟩

end Go.Proofs.YtoeemngekioldaaDoor.Fs
