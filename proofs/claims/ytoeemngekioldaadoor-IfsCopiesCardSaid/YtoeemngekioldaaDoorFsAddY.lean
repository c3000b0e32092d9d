/- ifs: Add, where the file is put in; Add, whatever is asked. -/
import Derived.Test.YtoeemngekioldaaDoorFsAdd
namespace Go.Proofs.YtoeemngekioldaaDoor.Fs
open Go.RowKit Go.Maps
open Go.Proofs.YtoeemngekioldaaDoor.Fl (R4 z4 K4 rec4 rat goodF goodFB okR okL doE newR file arr4 row_cell row_frozen good_any)
open Go.Proofs.YtoeemngekioldaaDoor.Rw (Rd Ow At)
set_option maxRecDepth 100000
attribute [local irreducible] Sd.wpSd wpQuiet Sf.wpSf

/-- What the region that puts a file in reads. -/
structure AddC (s : Nat) (m : Value) (d : Int) (g : Nat) (p : Int) (v : Value) (W : World) : Prop where
  row : W.heap[s]? = some (.cells #[m, .int .i64 d] 61 (0, 0))
  box : W.heap[g]? = some (.cells #[.int .i64 p, v] 35 (0, 0))
theorem mk_eql (b : Option Nat) (W : World) : (binOp .eql 59 (.map b) (.map none)).run Tryd.prog W = .ok (.bool b.isNone) W := run_eql_map_nil W _ _ _ b Tryd.underlying59
theorem off_s {w : World} {v : Value} {l : List R4} {s : Nat} {o : Option Nat} {d : Int} {T : TypeId} (R : Rd K4 w v l) (h0 : 0 < l.length) (row : w.heap[s]? = some (.cells #[.map o, .int .i64 d] T (0, 0))) : ∀ k, v.ownBlock = some k → k = s → False := fun k hk e => by
  obtain ⟨a, cap, rfl, _, _, h3⟩ := R
  obtain ⟨b, off, rfl, hA⟩ := h3 h0
  obtain rfl : b = k := by simpa [Value.ownBlock] using hk
  subst e
  have c := hA 0 h0 0 _ rfl
  have r := row_cell row (off + 0 * 4 + 0)
  have : w.cell? ⟨b, off + 0 * 4 + 0, none⟩ = some (.int .u8 (l.getD 0 z4).1) := c
  rw [r] at this
  match off, this with
  | 0, h => simp at h
  | 1, h => simp at h
  | k + 2, h => simp at h
set_option maxHeartbeats 2000000 in
theorem add_some {w : World} {s b : Nat} {F : Nat → Prop} {C : List Ent} {d : Int} (S : Sto w s F (.map (some b)) C d) (n p : Int) (a : Option Addr) (q cap : Nat) (l : List R4) (R : Rd K4 w (.slice a q cap) l) (hn : 0 ≤ n ∧ n ≤ 63) (hg : goodF p l) (hl : okL l) (hc : look Ent.n n C = none) :
    Calls Tryd.prog 7 #[.pointer (some ⟨s, 0, none⟩), .int .i64 n, .agg #[.int .i64 p, .slice a q cap]] w (AddPost w s F d 0 (put key (n, p, l) (C.map Ent.abs))) := by
  obtain ⟨h1, hB, hz⟩ := box_file w p (.slice a q cap)
  have HB := Lib.hid hB
  have H1 := Lib.hid h1
  have HZ := Lib.hid hz
  have RR := Lib.hid R
  have HL := Lib.hid hl
  have HGD := Lib.hid hg
  have GA := good_any _ p (.slice a q cap) l (R.below hB)
  rw [show goodFB p l = true from decide_eq_true hg] at GA
  have HG := Lib.hid GA
  have SS := Lib.hid S
  have n1 : 0 ≤ n := hn.1
  have n2 : n < 64 := by omega
  have HN : Hid (Wf n) := WalkArith.wf_i64 (by omega)
  have L := Lib.hid (lv_none hc)
  have LB := Lib.hid (lb_none hc)
  have FIN : Hid (∀ (u : Value) W W', Below w.heap.size w W → W.grownBy W' (some b) → Ow K4 W w.heap.size 32 u l → (∀ c : Ent, c.n = n → c.file = file p u → c.l = l → Mp W' F (.map (some b)) (put Ent.n c C)) → AddPost w s F d 0 (put key (n, p, l) (C.map Ent.abs)) (.returned (.int .i64 0)) W') := fun u W W' hb hgr ow mp => by
    obtain ⟨au, cu, rfl, _⟩ := ow.slice
    obtain ⟨S1, O1⟩ := S.place (c := ⟨n, p, au, cu, l⟩) hb hgr (mp _ rfl rfl rfl) ow hn hg hl
    rw [abs_put] at S1
    exact ⟨rfl, S1, O1⟩
  have hne : b ≠ s := S.map_ne
  have hbl := S.low b S.mp.isMap.1
  have hlen := S.len
  clear h1 hB hz R GA hg hn S hc hl
  unfold file at HG
  go_enter Tryd.func7, Tryd.ntmps7
  go_wp2_with fail
  generalize (w.alloc (.cells #[.int .i64 p, .slice a q cap] 35)) = W at *
  refine HG.out.mono ?_
  rintro e w1 ⟨rfl, b1⟩
  have B1 := Lib.hid (HB.out.trans (b1.mono HB.out.size))
  have S1 := SS.out.below B1.out
  have c0 : w1.cell? ⟨s, 0, none⟩ = some (.map (some b)) := row_cell S1.row 0
  have M := Lib.hid S1.mp
  have hz := HZ.out
  have G1 := Lib.hid ((b1.block w.heap.size (by omega)).trans H1.out)
  have hE := mk_eql (some b)
  have B2 := Lib.hid (B1.out.alloc B1.out.size (.cells #[.int .i64 0, .slice none 0 0] 35))
  have G2 := Lib.hid ((Below.heap_alloc w1 (.cells #[.int .i64 0, .slice none 0 0] 35) w.heap.size (by have := b1.size; omega)).trans G1.out)
  have c2 : (w1.alloc (.cells #[.int .i64 0, .slice none 0 0] 35)).cell? ⟨s, 0, none⟩ = some (.map (some b)) := row_cell (SS.out.below B2.out).row 0
  clear b1 HG HB S1 G1 H1 hz
  go_wp2_with (at_lookup; refine at_look1 rfl _ _ rfl M.out rfl _ rfl HN.out _ L.out _ LB.out ?_)
  clear c0 c2 M hE B1
  generalize (w1.alloc (.cells #[.int .i64 0, .slice none 0 0] 35)) = W2 at *
  have S2 := Lib.hid (SS.out.below B2.out)
  have C0 : AddC s (.map (some b)) d w.heap.size p (.slice a q cap) W2.drew := ⟨S2.out.row, G2.out⟩
  have c0 := Sc.cell_in (C := AddC s (.map (some b)) d w.heap.size p (.slice a q cap)) (a := ⟨s, 0, none⟩) (fun W' h => row_cell h.row 0)
  have r0 := Sc.cell_in (C := AddC s (.map (some b)) d w.heap.size p (.slice a q cap)) (a := ⟨w.heap.size, 0, none⟩) (fun W' h => row_cell h.box 0)
  have r1 := Sc.cell_in (C := AddC s (.map (some b)) d w.heap.size p (.slice a q cap)) (a := ⟨w.heap.size, 1, none⟩) (fun W' h => row_cell h.box 1)
  have ne : Nonempty (Sc.In (AddC s (.map (some b)) d w.heap.size p (.slice a q cap))) := ⟨⟨_, C0⟩⟩
  have BW := Lib.hid (B2.out.trans ((Below.refl W2.heap.size W2).drew.mono B2.out.size))
  refine Sc.start (AddC s (.map (some b)) d w.heap.size p (.slice a q cap)) [(false, 0), (false, 1), (false, 2), (false, 3), (false, 4), (false, 5), (true, 6), (true, 7)] (by kernel_rfl) (by kernel_rfl) (by kernel_rfl) C0 ?_
  dsimp only [Sd.picks, List.getElem?_cons_succ, List.getElem?_cons_zero]
  repeat (refine Sd.lit ?_; quiet_step (fail); refine wpQuiet_nil ?_)
  refine Sd.call (by rfl) (fun K hK => ?_)
  have CA := copied_any W2.drew p (.slice a q cap) l (RR.out.below BW.out) (by have := HGD.out.2.2.2.1; omega)
  unfold file at CA
  go_simp
  refine CA.mono ?_
  rintro e w3 ⟨u, rfl, o3, b3⟩
  have hszz : w.heap.size ≤ W2.drew.heap.size := B2.out.size
  have B3 := Lib.hid (BW.out.trans (b3.mono hszz))
  have O3 := Lib.hid (o3.low hszz)
  have S3 := SS.out.below B3.out
  have G3 : w3.heap[w.heap.size]? = _ := (b3.block _ (by have := HZ.out; have := lt_of_block G2.out; exact this)).trans C0.box
  refine hK _ _ (Sc.Cl.of ⟨S3.row, G3⟩) ?_
  clear hK K b3 o3 CA C0 G2 B2 BW c0 r0 r1 S2
  have M3 := Lib.hid S3.mp
  have R3 := Lib.hid S3.row
  have G3' := Lib.hid G3
  clear S3 G3
  obtain ⟨au, cu, rfl, _⟩ := O3.out.slice
  refine Sd.call (by rfl) (fun K hK => ?_)
  refine wp_put _ _ _ rfl rfl M3.out ⟨n, p, au, cu, l⟩ rfl rfl HN.out (by unfold maxLen; omega) (fun w4 m4 g4 => ?_)
  have RES := Lib.hid (FIN.out _ w3 w4 B3.out g4 O3.out (fun c e1 e2 e3 => by
    obtain ⟨cn, cp, ca, cc, cl⟩ := c
    simp only at e1 e3
    subst e1 e3
    unfold Ent.file Fl.file Ent.sl at e2
    injection e2 with e2
    have e4 := congrArg (fun t : Array Value => t[0]?) e2
    have e5 := congrArg (fun t : Array Value => t[1]?) e2
    simp at e4 e5
    obtain ⟨rfl, rfl⟩ := e5
    subst e4
    exact m4))
  have hws := lt_of_block R3.out
  have hwg := lt_of_block G3'.out
  refine hK _ _ (Sc.Cl.of ⟨(g4.block s hws (by intro e; injection e with e; exact hne e.symm)).trans R3.out, (g4.block w.heap.size hwg (by intro e; injection e with e; omega)).trans G3'.out⟩) ?_
  clear hK K m4 g4 FIN
  refine Sd.done ?_
  go_wp2
  go_ret
  exact RES.out

set_option maxHeartbeats 2000000 in
theorem add_make {w : World} {s : Nat} {F : Nat → Prop} {C : List Ent} {d : Int} (S : Sto w s F (.map none) C d) (n p : Int) (a : Option Addr) (q cap : Nat) (l : List R4) (R : Rd K4 w (.slice a q cap) l) (hn : 0 ≤ n ∧ n ≤ 63) (hg : goodF p l) (hl : okL l) (hc : look Ent.n n C = none) :
    Calls Tryd.prog 7 #[.pointer (some ⟨s, 0, none⟩), .int .i64 n, .agg #[.int .i64 p, .slice a q cap]] w (AddPost w s F d 0 (put key (n, p, l) (C.map Ent.abs))) := by
  obtain ⟨h1, hB, hz⟩ := box_file w p (.slice a q cap)
  have HB := Lib.hid hB
  have H1 := Lib.hid h1
  have HZ := Lib.hid hz
  have RR := Lib.hid R
  have HL := Lib.hid hl
  have HGD := Lib.hid hg
  have GA := good_any _ p (.slice a q cap) l (R.below hB)
  rw [show goodFB p l = true from decide_eq_true hg] at GA
  have HG := Lib.hid GA
  have SS := Lib.hid S
  have n1 : 0 ≤ n := hn.1
  have n2 : n < 64 := by omega
  have HN : Hid (Wf n) := WalkArith.wf_i64 (by omega)
  have L := Lib.hid (lv_none hc)
  have LB := Lib.hid (lb_none hc)
  have HNG := Lib.hid (And.intro hn (And.intro hg hl))
  have hlen := S.len
  have hsl := S.low s S.foot
  clear h1 hB hz R GA hg hn S hc hl
  unfold file at HG
  have hmm := @run_makeMap Tryd.prog
  go_enter Tryd.func7, Tryd.ntmps7
  go_wp2_with fail
  generalize (w.alloc (.cells #[.int .i64 p, .slice a q cap] 35)) = W at *
  refine HG.out.mono ?_
  rintro e w1 ⟨rfl, b1⟩
  have B1 := Lib.hid (HB.out.trans (b1.mono HB.out.size))
  have S1 := SS.out.below B1.out
  have c0 : w1.cell? ⟨s, 0, none⟩ = some (.map none) := row_cell S1.row 0
  have M := Lib.hid S1.mp
  have hz := HZ.out
  have G1 := Lib.hid ((b1.block w.heap.size (by omega)).trans H1.out)
  have hE := mk_eql none
  have B2 := Lib.hid (B1.out.alloc B1.out.size (.cells #[.int .i64 0, .slice none 0 0] 35))
  have G2 := Lib.hid ((Below.heap_alloc w1 (.cells #[.int .i64 0, .slice none 0 0] 35) w.heap.size (by have := b1.size; omega)).trans G1.out)
  have S2 := SS.out.below B2.out
  have c2 : (w1.alloc (.cells #[.int .i64 0, .slice none 0 0] 35)).cell? ⟨s, 0, none⟩ = some (.map none) := row_cell S2.row 0
  have hz2 : (w1.alloc (.cells #[.int .i64 0, .slice none 0 0] 35)).heap.size = w1.heap.size + 1 := by simp
  have MK := SS.out.make B2.out
  have S3 := (S2.below ((Below.refl _ _).alloc (Nat.le_refl _) (.map #[] 0)))
  have c3 : ((w1.alloc (.cells #[.int .i64 0, .slice none 0 0] 35)).alloc (.map #[] 0)).cell? ⟨s, 0, none⟩ = some (.map none) := row_cell S3.row 0
  have f3 : ((w1.alloc (.cells #[.int .i64 0, .slice none 0 0] 35)).alloc (.map #[] 0)).frozen? ⟨s, 0, none⟩ = false := row_frozen S3.row 0
  have hgs : w.heap.size ≠ s := by omega
  have G3 := Lib.hid ((Below.heap_setCell ((w1.alloc (.cells #[.int .i64 0, .slice none 0 0] 35)).alloc (.map #[] 0)) ⟨s, 0, none⟩ (.map (some (w1.heap.size + 1))) w.heap.size hgs).trans ((Below.heap_alloc (w1.alloc (.cells #[.int .i64 0, .slice none 0 0] 35)) (.map #[] 0) w.heap.size (by have := B2.out.size; have := b1.size; omega)).trans G2.out))
  rw [hz2] at MK
  have S3' := Lib.hid MK.1
  have O3' := Lib.hid MK.2
  have OS : Only (fun k => k = s) w ((((w1.alloc (.cells #[.int .i64 0, .slice none 0 0] 35)).alloc (.map #[] 0)).setCell ⟨s, 0, none⟩ (.map (some (w1.heap.size + 1))))) := (Only.of_below (B2.out.alloc B2.out.size _)).trans (Only.set (fun k => k = s) _ (a := ⟨s, 0, none⟩) rfl _) fun _ _ g => g
  have R3 := Lib.hid (rd_only RR.out (fun h0 k hk e => off_s RR.out h0 SS.out.row k hk e) OS)
  clear b1 HG HB S1 G1 H1 hz G2 S2 S3 MK hz2 OS
  go_wp2_with (at_lookup; refine at_look1 rfl _ _ rfl M.out rfl _ rfl HN.out _ L.out _ LB.out ?_)
  clear c0 c2 c3 f3 M hE hmm B2 B1
  generalize hb : w1.heap.size + 1 = b at *
  clear hb
  generalize (((w1.alloc (.cells #[.int .i64 0, .slice none 0 0] 35)).alloc (.map #[] 0)).setCell ⟨s, 0, none⟩ (.map (some b))) = W2 at *
  have hne : b ≠ s := S3'.out.map_ne
  have hcl : C.length < maxLen := by unfold maxLen; omega
  have hws2 : w.heap.size < W2.heap.size := lt_of_block G3.out
  have C0 : AddC s (.map (some b)) d w.heap.size p (.slice a q cap) W2.drew := ⟨S3'.out.row, G3.out⟩
  have c0 := Sc.cell_in (C := AddC s (.map (some b)) d w.heap.size p (.slice a q cap)) (a := ⟨s, 0, none⟩) (fun W' h => row_cell h.row 0)
  have r0 := Sc.cell_in (C := AddC s (.map (some b)) d w.heap.size p (.slice a q cap)) (a := ⟨w.heap.size, 0, none⟩) (fun W' h => row_cell h.box 0)
  have r1 := Sc.cell_in (C := AddC s (.map (some b)) d w.heap.size p (.slice a q cap)) (a := ⟨w.heap.size, 1, none⟩) (fun W' h => row_cell h.box 1)
  have ne : Nonempty (Sc.In (AddC s (.map (some b)) d w.heap.size p (.slice a q cap))) := ⟨⟨_, C0⟩⟩
  have BW : Hid (Below W2.heap.size W2 W2.drew) := Lib.hid ((Below.refl W2.heap.size W2).drew)
  have hFb := S3'.out.mp.isMap.1
  have hbl := S3'.out.low b hFb
  have hbg : w.heap.size ≠ b := fun e => by
    obtain ⟨_, es, cl, hm⟩ := S3'.out.mp.isMap
    rw [← e] at hm
    have := G3.out.symm.trans hm
    cases this
  refine Sc.start (AddC s (.map (some b)) d w.heap.size p (.slice a q cap)) [(false, 0), (false, 1), (false, 2), (false, 3), (false, 4), (false, 5), (true, 6), (true, 7)] (by kernel_rfl) (by kernel_rfl) (by kernel_rfl) C0 ?_
  dsimp only [Sd.picks, List.getElem?_cons_succ, List.getElem?_cons_zero]
  repeat (refine Sd.lit ?_; quiet_step (fail); refine wpQuiet_nil ?_)
  refine Sd.call (by rfl) (fun K hK => ?_)
  have CA := copied_any W2.drew p (.slice a q cap) l (R3.out.below BW.out) (by have := HGD.out.2.2.2.1; omega)
  unfold file at CA
  go_simp
  refine CA.mono ?_
  rintro e w3 ⟨u, rfl, o3, b3⟩
  have B3 := Lib.hid (BW.out.trans (b3.mono (Nat.le_refl W2.heap.size)))
  have O3 : Hid (Ow K4 w3 W2.heap.size 32 u l) := o3
  have S4 := S3'.out.below B3.out
  have G4 : w3.heap[w.heap.size]? = _ := (b3.block _ hws2).trans C0.box
  refine hK _ _ (Sc.Cl.of ⟨S4.row, G4⟩) ?_
  clear hK K b3 o3 CA C0 G3 BW c0 r0 r1 R3
  have M3 := Lib.hid S4.mp
  have R4' := Lib.hid S4.row
  have G3' := Lib.hid G4
  clear S4 G4
  obtain ⟨au, cu, rfl, _⟩ := O3.out.slice
  refine Sd.call (by rfl) (fun K hK => ?_)
  refine wp_put _ _ _ rfl rfl M3.out ⟨n, p, au, cu, l⟩ rfl rfl HN.out hcl (fun w4 m4 g4 => ?_)
  have RES : Hid (AddPost w s F d 0 (put key (n, p, l) (C.map Ent.abs)) (.returned (.int .i64 0)) w4) := by
    obtain ⟨P1, P2⟩ := S3'.out.place (c := ⟨n, p, au, cu, l⟩) B3.out g4 m4 O3.out HNG.out.1 HNG.out.2.1 HNG.out.2.2
    rw [abs_put] at P1
    exact ⟨rfl, P1.wide (Fx.trans O3'.out P2.size) (Fx.low SS.out.low (O3'.out.trans' P2).size), O3'.out.trans' P2⟩
  have hws := lt_of_block R4'.out
  have hwg := lt_of_block G3'.out
  refine hK _ _ (Sc.Cl.of ⟨(g4.block s hws (by intro e; injection e with e; exact hne e.symm)).trans R4'.out, (g4.block w.heap.size hwg (by intro e; injection e with e; exact hbg e)).trans G3'.out⟩) ?_
  clear hK K m4 g4
  refine Sd.done ?_
  go_wp2
  go_ret
  exact RES.out

theorem look_abs {C : List Ent} {n : Int} : look key n (C.map Ent.abs) = (look Ent.n n C).map Ent.abs := abs_look n C
theorem add_any {w : World} {s : Nat} {F : Nat → Prop} {A : Abs} {d : Int} (S : St w s F A d) (n p : Int) (v : Value) (l : List R4) (R : Rd K4 w v l) (hl : okL l) :
    Calls Tryd.prog 7 #[.pointer (some ⟨s, 0, none⟩), .int .i64 n, file p v] w (AddPost w s F d (addE A n p l) (addA A n p l)) := by
  obtain ⟨m, C, h, rfl⟩ := S
  obtain ⟨a, cap, rfl, _⟩ := R.slice
  have no : ∀ z e w', addE (C.map Ent.abs) n p l = z → z ≠ 0 → (e = .returned (.int .i64 z) ∧ Below w.heap.size w w') → AddPost w s F d (addE (C.map Ent.abs) n p l) (addA (C.map Ent.abs) n p l) e w' := fun z e w' hz h0 ⟨he, b⟩ => by
    unfold AddPost addA
    rw [hz, if_neg h0]
    exact ⟨he, St.fx ⟨m, C, h, rfl⟩ b, Only.of_below b⟩
  by_cases hn : 0 ≤ n ∧ n ≤ 63
  · by_cases hg : goodF p l
    · cases hc : look Ent.n n C with
      | some c => exact (add_10 h n p a _ cap l R hn hg hc).mono fun e w' => no 10 e w' (by unfold addE; rw [if_pos hn, if_pos hg, look_abs, hc]; rfl) (by decide)
      | none =>
        have e0 : addE (C.map Ent.abs) n p l = 0 := by unfold addE; rw [if_pos hn, if_pos hg, look_abs, hc]; rfl
        unfold addA
        rw [e0, if_pos rfl]
        rcases h.mp with ⟨rfl, _⟩ | ⟨b, rfl, _, _⟩
        · exact add_make h n p a _ cap l R hn hg hl hc
        · exact add_some h n p a _ cap l R hn hg hl hc
    · exact (add_2 w s n p a _ cap l R hn hg).mono fun e w' => no 2 e w' (by unfold addE; rw [if_pos hn, if_neg hg]) (by decide)
  · exact (add_1 w s n p a _ cap hn).mono fun e w' => no 1 e w' (by unfold addE; rw [if_neg hn]) (by decide)

end Go.Proofs.YtoeemngekioldaaDoor.Fs
