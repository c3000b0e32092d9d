/- ifs: ask, where it is done; ask, whatever is asked. -/
import Derived.Test.YtoeemngekioldaaDoorFsAsk
namespace Go.Proofs.YtoeemngekioldaaDoor.Fs
open Go.RowKit Go.Maps
open Go.Proofs.YtoeemngekioldaaDoor.Fl (R4 z4 K4 rec4 rat goodF goodFB okR okL doE newR file arr4 sto2 sto4 sto2_row sto2_other sto2_below sto2_size sto4_row sto4_other sto4_below sto4_size row_cell row_frozen do_any DoPost)
open Go.Proofs.YtoeemngekioldaaDoor.Rw (Rd Ow At)
set_option maxRecDepth 100000
attribute [local irreducible] Sd.wpSd wpQuiet Sf.wpSf

/-- A file that is new in memory from a block on is put in. -/
theorem Sto.place2 {w W W' : World} {s b B : Nat} {F : Nat → Prop} {C : List Ent} {d : Int} {c : Ent} (h : Sto w s F (.map (some b)) C d) (hb : Below w.heap.size w W) (hB : w.heap.size ≤ B) (hg : W.grownBy W' (some b)) (mp : Mp W' F (.map (some b)) (Fs.put Ent.n c C)) (ow : Ow K4 W B 32 c.sl c.l) (hn : 0 ≤ c.n ∧ c.n ≤ 63) (hgd : goodF c.p c.l) (hl : okL c.l) :
    St W' s (fun k => F k ∨ (B ≤ k ∧ k < W'.heap.size)) ((Fs.put Ent.n c C).map Ent.abs) d ∧ Only F w W' := by
  have hne := h.map_ne
  have hFb := h.mp.isMap.1
  have hbl := h.low b hFb
  have hsl := h.low s h.foot
  have O : Only F w W' := (Only.of_below hb).trans (Only.grown (G := fun k => k = b) rfl hg) fun k _ e => e ▸ hFb
  have off : ∀ k, c.sl.ownBlock = some k → B ≤ k ∧ k < W.heap.size := ow_new ow
  refine ⟨⟨_, _, h.put (w' := W') (d' := d) (F' := fun k => F k ∨ (B ≤ k ∧ k < W'.heap.size)) ?_ (fun k hk => .inl hk) (mp.wide fun k hk => .inl hk) (fun e he hne => ?_) ?_ (fun k hk => .inr ⟨(off k hk).1, Nat.lt_of_lt_of_le (off k hk).2 hg.size⟩) (fun e he hne k hk hk' => ?_) hn hgd hl (fun k hk => ?_), rfl⟩, O⟩
  · rw [hg.block s (Nat.lt_of_lt_of_le hsl hb.size) (by intro e; injection e with e; exact hne e.symm), hb.block s hsl]
    exact h.row
  · exact ow_only (G := fun k => k = b) ((h.own e he).keep hb) (fun k hk e' => (h.off he).2 b rfl (by rw [hk, e'])) (Only.grown rfl hg)
  · exact ow_only (G := fun k => k = b) (ow.low (Nat.zero_le _)) (fun k hk e' => by have := (off k hk).1; omega) (Only.grown rfl hg)
  · have := (off k hk).1
    have := h.low k (h.mine e he k hk')
    omega
  · rcases hk with hk | ⟨_, hk⟩
    · have := h.low k hk
      have := O.size
      omega
    · exact hk
def AskYes (w : World) (s : Nat) (F : Nat → Prop) (d : Int) (y : R4) (A' : Abs) (e : Ending) (w' : World) : Prop := e = .returned (.tuple #[rec4 y, .nilIface]) ∧ St w' s (Fx F w w') A' d ∧ Only F w w'
/-- What the region that puts the file back reads. -/
structure OkC (w : World) (s : Nat) (m : Value) (d o f r : Int) (g : Nat) (p : Int) (u : Value) (W : World) : Prop where
  row : W.heap[s]? = some (.cells #[m, .int .i64 d] 61 (0, 0))
  adr : W.heap[w.heap.size]? = some (.cells #[.int .i64 o, .int .i64 f, .int .i64 r] 30 (0, 0))
  box : W.heap[g]? = some (.cells #[.int .i64 p, u] 35 (0, 0))
set_option maxHeartbeats 4000000 in
theorem ask_ok {w : World} {s b : Nat} {F : Nat → Prop} {C : List Ent} {d : Int} (S : Sto w s F (.map (some b)) C d) (o f r : Int) (x : R4) (hx : okR x) (hn : Wf f) {c : Ent} (hk : look Ent.n f C = some c) (he : doE c.p c.l o r = 0) :
    Calls Tryd.prog 27 #[.pointer (some ⟨s, 0, none⟩), Ad.addr o f r, rec4 x] w (AskYes w s F d (newR c.l o r x) (put key (f, c.p, c.l.set r.toNat (newR c.l o r x)) (C.map Ent.abs))) := by
  obtain ⟨ho, hgd, hok, _, hnm, hcm⟩ := S.find hk
  have RR := Lib.hid (ho.rd)
  have OK := Lib.hid hok
  have A0 := ask0_of w o f r x
  have S0 : Hid (Ask0 w o f r x (((w.alloc (.cells #[.int .i64 o, .int .i64 f, .int .i64 r] 30)).alloc (.cells #[.int .u8 x.1, .int .u8 x.2.1, .int .u8 x.2.2.1, .int .u8 x.2.2.2] 32)).alloc (.cells #[.int .u8 0, .int .u8 0, .int .u8 0, .int .u8 0] 32))) := A0
  have SS := Lib.hid (S.below A0.bel)
  have HN := Lib.hid hn
  have L := Lib.hid (lv_some hk)
  have LB := Lib.hid (lb_some hk)
  have SW := Lib.hid S
  have hne := S.map_ne
  have hlen := S.len
  have hsl := S.low s S.foot
  have hbl := S.low b S.mp.isMap.1
  obtain ⟨cn, p, a, cap, l⟩ := c
  unfold Ent.sl at RR
  simp only at *
  have FIN : Hid (∀ (B : Nat) (au : Option Addr) (cu : Nat) (W W' W'' : World), w.heap.size + 3 ≤ B → Below w.heap.size w W → W.grownBy W' (some b) → Ow K4 W B 32 (.slice au l.length cu) (l.set r.toNat (newR l o r x)) → (∀ c : Ent, c.n = f → c.file = file p (.slice au l.length cu) → c.l = l.set r.toNat (newR l o r x) → Mp W' F (.map (some b)) (put Ent.n c C)) → B ≤ W'.heap.size → Only (fun k => k = w.heap.size + 2) W' W'' → AskYes w s F d (newR l o r x) (put key (f, p, l.set r.toNat (newR l o r x)) (C.map Ent.abs)) (.returned (.tuple #[rec4 (newR l o r x), .nilIface])) W'') := fun B au cu W W' W'' hB hb hgr ow mp hBW o2 => by
    have hlen2 : (l.set r.toNat (newR l o r x)).length = l.length := List.length_set ..
    have hfile : (⟨f, p, au, cu, l.set r.toNat (newR l o r x)⟩ : Ent).file = file p (.slice au l.length cu) := by unfold Ent.file Ent.sl; rw [hlen2]
    have ow' : Ow K4 W B 32 (⟨f, p, au, cu, l.set r.toNat (newR l o r x)⟩ : Ent).sl (l.set r.toNat (newR l o r x)) := by unfold Ent.sl; rw [hlen2]; exact ow
    obtain ⟨S1, O1⟩ := S.place2 (c := ⟨f, p, au, cu, l.set r.toNat (newR l o r x)⟩) hb (by omega) hgr (mp _ rfl hfile rfl) ow' hnm (good_do he) (okL_set hok (okR_new hok hx))
    rw [abs_put] at S1
    have O2 : Only F w W'' := O1.trans (o2.mono (G' := fun k => k = w.heap.size + 2) fun _ _ g => g) fun k hk e => by omega
    have S2 := S1.only (G := fun k => k = w.heap.size + 2) (fun k hk e => by
      rcases hk with hk | ⟨hk, _⟩
      · have := S.low k hk; omega
      · omega) o2
    refine ⟨rfl, S2.wide (fun k hk => ?_) (Fx.low S.low O2.size), O2⟩
    rcases hk with hk | ⟨h1, h2⟩
    · exact .inl hk
    · exact .inr ⟨by omega, Nat.lt_of_lt_of_le h2 o2.size⟩
  have HE := Lib.hid he
  obtain ⟨q, hq⟩ : ∃ q, q = l.length := ⟨_, rfl⟩
  rw [← hq] at RR L FIN
  have HQ := Lib.hid hq
  clear S hk A0 hn ho hgd hok hcm he hq hnm
  unfold rec4
  unfold Ad.addr
  go_enter Tryd.func27, Tryd.ntmps27
  go_wp2_with fail
  generalize (((w.alloc (.cells #[.int .i64 o, .int .i64 f, .int .i64 r] 30)).alloc (.cells #[.int .u8 x.1, .int .u8 x.2.1, .int .u8 x.2.2.1, .int .u8 x.2.2.2] 32)).alloc (.cells #[.int .u8 0, .int .u8 0, .int .u8 0, .int .u8 0] 32)) = W at *
  have c0 := Sd.cell_by (show W.cell? ⟨s, 0, none⟩ = some (.map (some b)) from row_cell SS.out.row 0)
  have a1 := Sd.cell_by (show W.cell? ⟨w.heap.size, 1, none⟩ = some (.int .i64 f) from row_cell S0.out.adr 1)
  have hlk : ∀ P : Sd.By W, (Instr.lookup 59 (.map (some b)) (.int .i64 f) true).run Tryd.prog P.world = .ok (.tuple #[.agg #[.int .i64 p, .slice a q cap], .bool true]) P.world := fun P => by
    have := run_look (SS.out.below P.below).mp HN.out true
    rw [L.out, LB.out] at this
    exact this
  refine Sf.start [(0, 0), (0, 1), (0, 2), (0, 3), (0, 4), (0, 5), (0, 6), (0, 7), (0, 8), (0, 9), (2, 10), (1, 11), (0, 12)] [⟨10, 8, #[.int .i64 0, .slice none 0 0], 35⟩] (by kernel_rfl) (by kernel_rfl) (by kernel_rfl) (by decide) (by decide) ?_ ?_ ?_
  · simp
  · intro f hf
    simp only [List.mem_cons, List.not_mem_nil, or_false] at hf
    subst hf
    exact ⟨_, rfl, rfl, rfl, fun ρ w => by go_simp⟩
  dsimp only [Sf.picks, List.getElem?_cons_succ, List.getElem?_cons_zero]
  have BW := Lib.hid ((Below.refl W.heap.size W).drew)
  repeat (refine Sf.lit (fun xs => ?_); simp only [Sf.fill, List.foldl_cons, List.foldl_nil]; quiet_step (fail); refine wpQuiet_nil ?_)
  refine Sf.meet (fun gF w7 hb hc row n7 hH hL => ?_)
  have B7 := Lib.hid (BW.out.trans (hb.mono BW.out.size))
  have R7 : Hid (w7.heap[gF]? = some (.cells #[.int .i64 0, .slice none 0 0] 35 (0, 0))) := row
  clear hb hc row hH hL BW
  refine Sf.call (fun xs w9 hb hc => ⟨by rfl, fun K hK => ?_⟩)
  have B9 := Lib.hid (B7.out.trans (hb.mono B7.out.size))
  have R9 := (hb.block _ (lt_of_block R7.out)).trans R7.out
  have k0 : w9.cell? ⟨gF, 0, none⟩ = some (.int .i64 0) := row_cell R9 0
  have k1 : w9.cell? ⟨gF, 1, none⟩ = some (.slice none 0 0) := row_cell R9 1
  have f0 := row_frozen R9 0
  have f1 := row_frozen R9 1
  have RA := Lib.hid (sto2_row R9 p (.slice a q cap))
  have BA := Lib.hid (sto2_below (p := p) (v := .slice a q cap) B9.out n7)
  have hsz := sto2_size w9 gF p (.slice a q cap)
  clear hb hc B7 R7 R9 B9
  simp only [Sf.fill, List.foldl_nil]
  go_simp
  refine hK _ _ (Sd.Cl.of BA.out) (by rw [← hsz]; exact Nat.le_refl _) (fun h => absurd rfl h) ?_
  clear hK K k0 k1 f0 f1 hsz
  show Sf.wpSf _ _ _ _ _ _ _ _ _ _ (sto2 w9 gF p (.slice a q cap))
  generalize sto2 w9 gF p (.slice a q cap) = wA at *
  repeat (refine Sf.lit (fun xs => ?_); simp only [Sf.fill, List.foldl_nil]; quiet_step (fail); refine wpQuiet_nil ?_)
  refine Sf.done (fun wB hb hc => ?_)
  have BX := Lib.hid (BA.out.trans (hb.mono BA.out.size))
  have G1 := Lib.hid ((hb.block _ (lt_of_block RA.out)).trans RA.out)
  have S1 := Lib.hid (S0.out.mono BX.out)
  have N7 : Hid (W.heap.size ≤ gF) := n7
  clear hb hc BA RA c0 a1 hlk n7 S0
  have b0 : wB.cell? ⟨gF, 0, none⟩ = some (.int .i64 p) := row_cell G1.out 0
  have b1 : wB.cell? ⟨gF, 1, none⟩ = some (.slice a q cap) := row_cell G1.out 1
  have a0 : wB.cell? ⟨w.heap.size, 0, none⟩ = some (.int .i64 o) := row_cell S1.out.adr 0
  have a2 : wB.cell? ⟨w.heap.size, 2, none⟩ = some (.int .i64 r) := row_cell S1.out.adr 2
  have x0 : wB.cell? ⟨w.heap.size + 1, 0, none⟩ = some (.int .u8 x.1) := row_cell S1.out.arg 0
  have x1 : wB.cell? ⟨w.heap.size + 1, 1, none⟩ = some (.int .u8 x.2.1) := row_cell S1.out.arg 1
  have x2 : wB.cell? ⟨w.heap.size + 1, 2, none⟩ = some (.int .u8 x.2.2.1) := row_cell S1.out.arg 2
  have x3 : wB.cell? ⟨w.heap.size + 1, 3, none⟩ = some (.int .u8 x.2.2.2) := row_cell S1.out.arg 3
  have DO := Lib.hid (do_ok wB p (.slice a q cap) l (RR.out.below S1.out.bel) OK.out o r x HE.out)
  rw [← HQ.out] at DO
  have HB3 : Hid (w.heap.size + 3 ≤ wB.heap.size) := S1.out.siz
  clear BX G1 N7 L LB RR OK HE SS
  generalize l.set r.toNat (newR l o r x) = l2 at *
  generalize newR l o r x = y at *
  unfold file rec4 at DO
  go_wp2_with fail
  refine DO.out.mono ?_
  rintro e w3 ⟨ua, ucap, rfl, o3, b3⟩
  obtain ⟨t1, t2, tB⟩ := two_res w3 p (.slice ua q ucap) y
  have S3 := Lib.hid ((S1.out.mono b3).mono tB)
  have T1 := Lib.hid t1
  have T2 := Lib.hid t2
  have O3 := Lib.hid (o3.keep tB)
  have hw3 : Hid (wB.heap.size ≤ w3.heap.size) := b3.size
  clear t1 t2 tB b3 DO b0 b1 a0 a2 x0 x1 x2 x3 S1 o3
  unfold arr4 at S3 T1 T2 O3
  go_wp2_with fail
  have TZ : Hid (w3.heap.size + 2 = ((w3.alloc (.cells #[.int .i64 p, .slice ua q ucap] 35)).alloc (.cells #[.int .u8 y.1, .int .u8 y.2.1, .int .u8 y.2.2.1, .int .u8 y.2.2.2] 32)).heap.size) := by unfold Hid; simp
  generalize ((w3.alloc (.cells #[.int .i64 p, .slice ua q ucap] 35)).alloc (.cells #[.int .u8 y.1, .int .u8 y.2.1, .int .u8 y.2.2.1, .int .u8 y.2.2.2] 32)) = Wq at *
  have S5 := Lib.hid (SW.out.below S3.out.bel)
  have C0 : OkC w s (.map (some b)) d o f r w3.heap.size p (.slice ua q ucap) Wq.drew := ⟨S5.out.row, S3.out.adr, T1.out⟩
  have c0 := Sc.cell_in (C := OkC w s (.map (some b)) d o f r w3.heap.size p (.slice ua q ucap)) (a := ⟨s, 0, none⟩) (fun W' h => row_cell h.row 0)
  have a1 := Sc.cell_in (C := OkC w s (.map (some b)) d o f r w3.heap.size p (.slice ua q ucap)) (a := ⟨w.heap.size, 1, none⟩) (v := .int .i64 f) (fun W' h => row_cell h.adr 1)
  have r0 := Sc.cell_in (C := OkC w s (.map (some b)) d o f r w3.heap.size p (.slice ua q ucap)) (a := ⟨w3.heap.size, 0, none⟩) (fun W' h => row_cell h.box 0)
  have r1 := Sc.cell_in (C := OkC w s (.map (some b)) d o f r w3.heap.size p (.slice ua q ucap)) (a := ⟨w3.heap.size, 1, none⟩) (fun W' h => row_cell h.box 1)
  have ne : Nonempty (Sc.In (OkC w s (.map (some b)) d o f r w3.heap.size p (.slice ua q ucap))) := ⟨⟨_, C0⟩⟩
  refine Sc.start (OkC w s (.map (some b)) d o f r w3.heap.size p (.slice ua q ucap)) [(false, 0), (false, 1), (false, 2), (false, 3), (false, 4), (false, 5), (false, 6), (true, 7)] (by kernel_rfl) (by kernel_rfl) (by kernel_rfl) C0 ?_
  dsimp only [Sd.picks, List.getElem?_cons_succ, List.getElem?_cons_zero]
  repeat (refine Sd.lit ?_; quiet_step (fail); refine wpQuiet_nil ?_)
  have BD : Below Wq.heap.size Wq Wq.drew := (Below.refl _ _).drew
  have S6 := Lib.hid (S3.out.mono BD)
  have M6 := Lib.hid (S5.out.below BD).mp
  have R6 := Lib.hid (S5.out.below BD).row
  have T6 : Hid (Wq.drew.heap[w3.heap.size]? = _) := T1.out
  have T7 : Hid (Wq.drew.heap[w3.heap.size + 1]? = _) := T2.out
  have O6 := Lib.hid (O3.out.keep BD)
  have Z6 : Hid (w3.heap.size + 2 = Wq.drew.heap.size) := TZ.out
  clear c0 a1 r0 r1 C0 S3 S5 T1 T2 O3 TZ BD
  generalize Wq.drew = Wy at *
  refine Sd.call (by rfl) (fun K hK => ?_)
  have hcl : C.length < maxLen := by unfold maxLen; omega
  have hll2 : Hid (l2.length = q) := by
    have := O6.out
    unfold Ow World.ownsRow at this
    rcases this.2 with ⟨e, h0⟩ | ⟨g, cp, cur, e, _⟩
    · injection e with _ e _; exact h0.trans e.symm
    · injection e with _ e _; exact e.symm
  have hfl : (⟨f, p, ua, ucap, l2⟩ : Ent).file = .agg #[.int .i64 p, .slice ua q ucap] := by unfold Ent.file Ent.sl Fl.file; rw [hll2.out]
  refine wp_put _ _ _ rfl rfl M6.out ⟨f, p, ua, ucap, l2⟩ rfl (by rw [hfl]; rfl) HN.out hcl (fun w4 m4 g4 => ?_)
  have hbne1 : b ≠ w3.heap.size := by have := HB3.out; have := hw3.out; omega
  have hbne2 : b ≠ w3.heap.size + 1 := by have := HB3.out; have := hw3.out; omega
  have RES := Lib.hid (fun W'' => FIN.out wB.heap.size ua ucap Wy w4 W'' HB3.out S6.out.bel g4 O6.out (fun c e1 e2 e3 => by
    obtain ⟨cn', cp, ca, cc, cl⟩ := c
    simp only at e1 e3
    subst e1 e3
    unfold Ent.file Fl.file Ent.sl at e2
    injection e2 with e2
    have e4 := congrArg (fun t : Array Value => t[0]?) e2
    have e5 := congrArg (fun t : Array Value => t[1]?) e2
    simp at e4 e5
    obtain ⟨rfl, _, rfl⟩ := e5
    subst e4
    exact m4) (by have := g4.size; have := Z6.out; have := hw3.out; omega))
  have old : ∀ k, k < Wy.heap.size → k ≠ b → w4.heap[k]? = Wy.heap[k]? := fun k hk hne => g4.block k hk (by intro e; injection e with e; exact hne e)
  have N1 : w4.heap[s]? = _ := (old s (lt_of_block R6.out) (fun e => hne e.symm)).trans R6.out
  have N2 : w4.heap[w.heap.size]? = _ := (old _ (lt_of_block S6.out.adr) (by omega)).trans S6.out.adr
  have N3 : w4.heap[w3.heap.size]? = _ := (old _ (lt_of_block T6.out) (fun e => hbne1 e.symm)).trans T6.out
  have N4 : w4.heap[w3.heap.size + 1]? = _ := (old _ (lt_of_block T7.out) (fun e => hbne2 e.symm)).trans T7.out
  have N5 : w4.heap[w.heap.size + 2]? = _ := (old _ (lt_of_block S6.out.res) (by omega)).trans S6.out.res
  refine hK _ _ (Sc.Cl.of ⟨N1, N2, N3⟩) ?_
  clear hK K m4 g4 FIN N1 N2 N3 old R6 M6 T6 T7 O6
  refine Sd.done ?_
  have y0 : w4.cell? ⟨w3.heap.size + 1, 0, none⟩ = some (.int .u8 y.1) := row_cell N4 0
  have y1 : w4.cell? ⟨w3.heap.size + 1, 1, none⟩ = some (.int .u8 y.2.1) := row_cell N4 1
  have y2 : w4.cell? ⟨w3.heap.size + 1, 2, none⟩ = some (.int .u8 y.2.2.1) := row_cell N4 2
  have y3 : w4.cell? ⟨w3.heap.size + 1, 3, none⟩ = some (.int .u8 y.2.2.2) := row_cell N4 3
  have d0 : w4.cell? ⟨w.heap.size + 2, 0, none⟩ = some (.int .u8 0) := row_cell N5 0
  have d1 : w4.cell? ⟨w.heap.size + 2, 1, none⟩ = some (.int .u8 0) := row_cell N5 1
  have d2 : w4.cell? ⟨w.heap.size + 2, 2, none⟩ = some (.int .u8 0) := row_cell N5 2
  have d3 : w4.cell? ⟨w.heap.size + 2, 3, none⟩ = some (.int .u8 0) := row_cell N5 3
  have k0 := row_frozen N5 0
  have k1 := row_frozen N5 1
  have k2 := row_frozen N5 2
  have k3 := row_frozen N5 3
  have R9 := Lib.hid (sto4_row N5 y)
  have O9 : Hid (Only (fun k => k = w.heap.size + 2) w4 (sto4 w4 (w.heap.size + 2) 0 y)) := by
    have O1 : ∀ W : World, ∀ o v, Only (fun k => k = w.heap.size + 2) W (W.setCell ⟨w.heap.size + 2, o, none⟩ v) := fun W o v => Only.set (fun k => k = w.heap.size + 2) W (a := ⟨w.heap.size + 2, o, none⟩) rfl v
    exact (((O1 _ _ _).trans (O1 _ _ _) fun _ _ g => g).trans (O1 _ _ _) fun _ _ g => g).trans (O1 _ _ _) fun _ _ g => g
  clear N4 N5 S6 HB3 hw3 Z6
  go_wp2
  (try simp only [Exit.inBlock, Exit.then])
  exact bodyPost_ret (results_rec (p := 6) (r := 7) rfl _ _ (w.heap.size + 2) y .nilIface rfl rfl R9.out) rfl (RES.out _ O9.out)

end Go.Proofs.YtoeemngekioldaaDoor.Fs
