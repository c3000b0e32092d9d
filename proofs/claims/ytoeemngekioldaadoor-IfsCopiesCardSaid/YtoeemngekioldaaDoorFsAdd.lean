/- ifs: Add, by its contract. -/
import Derived.Test.YtoeemngekioldaaDoorFsSet
import Derived.WalkSpells
namespace Go.Proofs.YtoeemngekioldaaDoor.Fs
open Go.RowKit Go.Maps
open Go.Proofs.YtoeemngekioldaaDoor.Fl (R4 z4 K4 rec4 rat goodF goodFB okR okL doE newR file arr4 sto4 sto2 sto2_row sto2_other sto2_below sto2_size row_cell row_frozen good_any)
open Go.Proofs.YtoeemngekioldaaDoor.Rw (Rd Ow At)
set_option maxRecDepth 100000
attribute [local irreducible] Sd.wpSd wpQuiet Sf.wpSf

section
variable {w W W' : World} {s b : Nat} {F : Nat → Prop} {C : List Ent} {d : Int} {c : Ent}
/-- A file that is new in memory is put in. -/
theorem Sto.place (h : Sto w s F (.map (some b)) C d) (hb : Below w.heap.size w W) (hg : W.grownBy W' (some b)) (mp : Mp W' F (.map (some b)) (Fs.put Ent.n c C)) (ow : Ow K4 W w.heap.size 32 c.sl c.l) (hn : 0 ≤ c.n ∧ c.n ≤ 63) (hgd : goodF c.p c.l) (hl : okL c.l) :
    St W' s (Fx F w W') ((Fs.put Ent.n c C).map Ent.abs) d ∧ Only F w W' := by
  have hne := h.map_ne
  have hFb := h.mp.isMap.1
  have hbl := h.low b hFb
  have hsl := h.low s h.foot
  have O : Only F w W' := (Only.of_below hb).trans (Only.grown (G := fun k => k = b) rfl hg) fun k _ e => e ▸ hFb
  have off : ∀ k, c.sl.ownBlock = some k → w.heap.size ≤ k ∧ k < W.heap.size := ow_new ow
  refine ⟨⟨_, _, h.put (w' := W') (d' := d) (F' := Fx F w W') ?_ (fun k hk => .inl hk) (mp.wide fun k hk => .inl hk) (fun e he hne => ?_) ?_ (fun k hk => .inr ⟨(off k hk).1, Nat.lt_of_lt_of_le (off k hk).2 hg.size⟩) (fun e he hne k hk hk' => ?_) hn hgd hl (Fx.low h.low O.size), rfl⟩, O⟩
  · rw [hg.block s (Nat.lt_of_lt_of_le hsl hb.size) (by intro e; injection e with e; exact hne e.symm), hb.block s hsl]
    exact h.row
  · exact ow_only (G := fun k => k = b) ((h.own e he).keep hb) (fun k hk e' => (h.off he).2 b rfl (by rw [hk, e'])) (Only.grown rfl hg)
  · exact ow_only (G := fun k => k = b) (ow.low (Nat.zero_le _)) (fun k hk e' => by have := (off k hk).1; omega) (Only.grown rfl hg)
  · have := (off k hk).1
    have := h.low k (h.mine e he k hk')
    omega
/-- A map is made for a store that has none. -/
theorem Sto.make (h : Sto w s F (.map none) C d) (hb : Below w.heap.size w W) : Sto ((W.alloc (.map #[] 0)).setCell ⟨s, 0, none⟩ (.map (some W.heap.size))) s (Fx F w ((W.alloc (.map #[] 0)).setCell ⟨s, 0, none⟩ (.map (some W.heap.size)))) (.map (some W.heap.size)) C d ∧ Only F w ((W.alloc (.map #[] 0)).setCell ⟨s, 0, none⟩ (.map (some W.heap.size))) := by
  have hC : C = [] := by
    rcases h.mp with ⟨_, e⟩ | ⟨b, e, _⟩
    · exact e
    · cases e
  subst hC
  have hsl := h.low s h.foot
  have B2 : Below w.heap.size w (W.alloc (.map #[] 0)) := hb.alloc hb.size _
  have O : Only F w ((W.alloc (.map #[] 0)).setCell ⟨s, 0, none⟩ (.map (some W.heap.size))) := (Only.of_below B2).trans (Only.set F _ (a := ⟨s, 0, none⟩) h.foot _) fun _ _ g => g
  refine ⟨⟨?_, .inl h.foot, .inr ⟨W.heap.size, rfl, .inr ⟨hb.size, by simp [World.setCell]⟩, ?_⟩, nofun, nofun, List.Pairwise.nil, h.ok, Fx.low h.low O.size⟩, O⟩
  · have := Rw.heap_setCell_same (w := W.alloc (.map #[] 0)) (g := s) (j := 0) ((B2.block s hsl).trans h.row) (.map (some W.heap.size))
    rw [this]
    simp
  · have := World.ownsMap_made (H := Value) W Tryd.prog 3 Rh
    exact this.setCell (a := ⟨s, 0, none⟩) (fun e => by have := hb.size; simp only at e; omega) _
theorem Fx.trans {w1 w2 : World} (h1 : Only F w w1) (h2 : w1.heap.size ≤ w2.heap.size) : ∀ k, Fx (Fx F w w1) w1 w2 k → Fx F w w2 k := by
  have := h1.size
  rintro k ((g | ⟨a, b⟩) | ⟨a, b⟩)
  · exact .inl g
  · exact .inr ⟨a, by omega⟩
  · exact .inr ⟨by omega, b⟩
theorem Only.trans' {w1 w2 : World} (h1 : Only F w w1) (h2 : Only (Fx F w w1) w1 w2) : Only F w w2 := h1.trans h2 fun k hk g => by
  rcases g with g | ⟨a, _⟩
  · exact g
  · omega
end

def AddPost (w : World) (s : Nat) (F : Nat → Prop) (d : Int) (z : Int) (A' : Abs) (e : Ending) (w' : World) : Prop := e = .returned (.int .i64 z) ∧ St w' s (Fx F w w') A' d ∧ Only F w w'
theorem box_file (w : World) (p : Int) (v : Value) : (w.alloc (.cells #[.int .i64 p, v] 35)).heap[w.heap.size]? = some (.cells #[.int .i64 p, v] 35 (0, 0)) ∧ Below w.heap.size w (w.alloc (.cells #[.int .i64 p, v] 35)) ∧ (w.alloc (.cells #[.int .i64 p, v] 35)).heap.size = w.heap.size + 1 := ⟨heap_alloc_new w _, (Below.refl w.heap.size w).alloc (Nat.le_refl _) _, by simp⟩
theorem add_nil (w : World) (n p : Int) (a : Option Addr) (q cap : Nat) : Calls Tryd.prog 7 #[.pointer none, .int .i64 n, .agg #[.int .i64 p, .slice a q cap]] w fun e w' => e = .returned (.int .i64 1) ∧ Below w.heap.size w w' := by
  go_enter Tryd.func7, Tryd.ntmps7
  go_wp2
  go_ret
  exact ⟨rfl, (Below.refl w.heap.size w).alloc (Nat.le_refl _) _⟩
theorem add_1 (w : World) (s : Nat) (n p : Int) (a : Option Addr) (q cap : Nat) (hn : ¬ (0 ≤ n ∧ n ≤ 63)) : Calls Tryd.prog 7 #[.pointer (some ⟨s, 0, none⟩), .int .i64 n, .agg #[.int .i64 p, .slice a q cap]] w fun e w' => e = .returned (.int .i64 1) ∧ Below w.heap.size w w' := by
  by_cases h : n < 0
  · go_enter Tryd.func7, Tryd.ntmps7
    go_wp2
    go_ret
    exact ⟨rfl, (Below.refl w.heap.size w).alloc (Nat.le_refl _) _⟩
  · have h2 : 64 ≤ n := by omega
    go_enter Tryd.func7, Tryd.ntmps7
    go_wp2
    go_ret
    exact ⟨rfl, (Below.refl w.heap.size w).alloc (Nat.le_refl _) _⟩
theorem add_2 (w : World) (s : Nat) (n p : Int) (a : Option Addr) (q cap : Nat) (l : List R4) (R : Rd K4 w (.slice a q cap) l) (hn : 0 ≤ n ∧ n ≤ 63) (hg : ¬ goodF p l) : Calls Tryd.prog 7 #[.pointer (some ⟨s, 0, none⟩), .int .i64 n, .agg #[.int .i64 p, .slice a q cap]] w fun e w' => e = .returned (.int .i64 2) ∧ Below w.heap.size w w' := by
  obtain ⟨h1, hB, hz⟩ := box_file w p (.slice a q cap)
  have HB := Lib.hid hB
  have GA := good_any _ p (.slice a q cap) l (R.below hB)
  rw [show goodFB p l = false from decide_eq_false hg] at GA
  have HG := Lib.hid GA
  have n1 : 0 ≤ n := hn.1
  have n2 : n < 64 := by omega
  clear h1 hB hz R GA hg hn
  unfold file at HG
  go_enter Tryd.func7, Tryd.ntmps7
  go_wp2_with fail
  refine HG.out.mono ?_
  rintro e w1 ⟨rfl, b1⟩
  have B1 := Lib.hid (HB.out.trans (b1.mono HB.out.size))
  clear b1 HG HB
  go_wp2
  go_ret
  exact ⟨rfl, B1.out⟩
set_option maxHeartbeats 1000000 in
theorem add_10 {w : World} {s : Nat} {F : Nat → Prop} {m : Value} {C : List Ent} {d : Int} (S : Sto w s F m C d) (n p : Int) (a : Option Addr) (q cap : Nat) (l : List R4) (R : Rd K4 w (.slice a q cap) l) (hn : 0 ≤ n ∧ n ≤ 63) (hg : goodF p l) {c : Ent} (hc : look Ent.n n C = some c) :
    Calls Tryd.prog 7 #[.pointer (some ⟨s, 0, none⟩), .int .i64 n, .agg #[.int .i64 p, .slice a q cap]] w fun e w' => e = .returned (.int .i64 10) ∧ Below w.heap.size w w' := by
  obtain ⟨h1, hB, hz⟩ := box_file w p (.slice a q cap)
  have HB := Lib.hid hB
  have GA := good_any _ p (.slice a q cap) l (R.below hB)
  rw [show goodFB p l = true from decide_eq_true hg] at GA
  have HG := Lib.hid GA
  have SS := Lib.hid S
  have n1 : 0 ≤ n := hn.1
  have n2 : n < 64 := by omega
  have HN : Hid (Wf n) := WalkArith.wf_i64 (by omega)
  have L := Lib.hid (lv_some hc)
  have LB := Lib.hid (lb_some hc)
  clear h1 hB hz R GA hg hn S hc
  unfold file at HG
  go_enter Tryd.func7, Tryd.ntmps7
  go_wp2_with fail
  refine HG.out.mono ?_
  rintro e w1 ⟨rfl, b1⟩
  have B1 := Lib.hid (HB.out.trans (b1.mono HB.out.size))
  have S1 := SS.out.below B1.out
  have c0 : w1.cell? ⟨s, 0, none⟩ = some m := row_cell S1.row 0
  have M := Lib.hid S1.mp
  clear b1 HG HB S1 SS
  go_wp2_with (at_lookup; refine at_look1 rfl _ _ rfl M.out rfl _ rfl HN.out _ L.out _ LB.out ?_)
  go_ret
  exact ⟨rfl, B1.out.alloc B1.out.size _⟩

end Go.Proofs.YtoeemngekioldaaDoor.Fs
