/- awake of layer 10; few. -/
import Derived.Test.YtoeemngekioldaaDoorFsFiles
import Derived.Test.YtoeemngekioldaaDoorFsDo
import Derived.Test.YtoeemngekioldaaDoorFsAddY
import Derived.Test.YtoeemngekioldaaDoorFsSet
import Derived.Test.YtoeemngekioldaaDoorFlFew
namespace Go.Proofs.YtoeemngekioldaaDoor.Fs
open Go.RowKit Go.Maps
open Go.Proofs.YtoeemngekioldaaDoor.Fl (R4 z4 K4 rec4 rat goodF goodFB okR okL file arr4 hdr newL newP row_cell row_frozen rnew_any NewPost rd_take results_file ret_bool eq_rec)
open Go.Proofs.YtoeemngekioldaaDoor.Rw (Rd Ow At)
set_option maxRecDepth 100000

/-- At most 260 records. -/
def FewPost (w : World) (p : Int) (v : Value) (l : List R4) (e : Ending) (w' : World) : Prop := ∃ u, e = .returned (file p u) ∧ Rd K4 w' u (l.take 260) ∧ u.ownBlock = v.ownBlock ∧ (∀ a n cap, v = .slice a n cap → u = .slice a (min n 260) cap) ∧ Below w.heap.size w w'
set_option maxHeartbeats 400000 in
theorem few_any (w : World) (p : Int) (v : Value) (l : List R4) (R : Rd K4 w v l) : Calls Tryd.prog 8 #[file p v] w (FewPost w p v l) := by
  have R0 := Lib.hid R
  obtain ⟨a, cap, rfl, ⟨h1, h1'⟩, hm, hA⟩ := R
  have HA := Lib.hid hA
  unfold maxLen at hm
  clear hA
  have hz : ∀ o, (w.alloc o).heap.size = w.heap.size + 1 := fun o => by simp
  have rw_ : ∀ o o', ((w.alloc o).alloc o').heap[w.heap.size + 1]? = some o' := fun o o' => by have := heap_alloc_new (w.alloc o) o'; rw [hz] at this; exact this
  have bb : ∀ o o', Below w.heap.size w ((w.alloc o).alloc o') := fun o o' => ((Below.refl w.heap.size w).alloc (Nat.le_refl _) o).alloc (by simp) o'
  have RW := Lib.hid rw_
  have BB := Lib.hid bb
  clear hz rw_ bb
  unfold file
  by_cases h : 260 < l.length
  · obtain ⟨b, off, rfl, _⟩ := HA.out (by omega)
    have E : Hid (∀ w', Below w.heap.size w w' → FewPost w p (.slice (some ⟨b, off, none⟩) l.length cap) l (.returned (.agg #[.int .i64 p, .slice (some ⟨b, off, none⟩) 260 cap])) w') := fun w' hb => ⟨_, rfl, (rd_take R0.out rfl (by omega) (by omega)).below hb, rfl, fun a n c e => by injection e with e1 e2 e3; subst e1 e2 e3; rw [Nat.min_eq_right (by omega)], hb⟩
    clear R0 HA
    generalize l.length = n at *
    go_enter Tryd.func8, Tryd.ntmps8
    go_wp2
    (try simp only [Exit.inBlock, Exit.then])
    exact bodyPost_ret (results_file (p := 2) rfl _ _ (w.heap.size + 1) p _ rfl (RW.out _ _)) rfl (E.out _ (BB.out _ _))
  · have ht : l.take 260 = l := List.take_of_length_le (by omega)
    have E : Hid (∀ w', Below w.heap.size w w' → FewPost w p (.slice a l.length cap) l (.returned (.agg #[.int .i64 p, .slice a l.length cap])) w') := fun w' hb => ⟨_, rfl, by rw [ht]; exact R0.out.below hb, rfl, fun a n c e => by injection e with e1 e2 e3; subst e1 e2 e3; rw [Nat.min_eq_left (by omega)], hb⟩
    clear R0 HA
    generalize l.length = n at *
    go_enter Tryd.func8, Tryd.ntmps8
    go_wp2
    (try simp only [Exit.inBlock, Exit.then])
    exact bodyPost_ret (results_file (p := 2) rfl _ _ (w.heap.size + 1) p _ rfl (RW.out _ _)) rfl (E.out _ (BB.out _ _))

/-! ### the facts that are fixed -/
def L0 : List R4 := [(3, 2, 165, 164), z4, z4, z4]
def L1 : List R4 := [(3, 2, 165, 164), z4, (9, 0, 0, 0), z4]
def A0 : Abs := [(7, 2, L0)]
def A1 : Abs := [(7, 2, L1)]
theorem newL_23 : newL 2 3 = L0 := by kernel_rfl
theorem add0 : addE [] 7 2 L0 = 0 ∧ addA [] 7 2 L0 = A0 := ⟨by kernel_rfl, by kernel_rfl⟩
theorem do1 : dE A0 1 7 2 = 0 ∧ dV A0 1 7 2 (9, 0, 0, 0) = (9, 0, 0, 0) ∧ dA A0 1 7 2 (9, 0, 0, 0) = A1 ∧ dD A0 1 7 2 0 = 0 := ⟨by kernel_rfl, by kernel_rfl, by kernel_rfl, by kernel_rfl⟩
theorem do2 : dE A1 0 7 2 = 5 ∧ dV A1 0 7 2 z4 = z4 ∧ dA A1 0 7 2 z4 = A1 ∧ dD A1 0 7 2 0 = 1 := ⟨by kernel_rfl, by kernel_rfl, by kernel_rfl, by kernel_rfl⟩
theorem do3 : dE A1 0 8 0 = 3 ∧ dV A1 0 8 0 z4 = z4 ∧ dA A1 0 8 0 z4 = A1 ∧ dD A1 0 8 0 1 = 1 := ⟨by kernel_rfl, by kernel_rfl, by kernel_rfl, by kernel_rfl⟩
theorem get0 : gV A1 7 2 = (9, 0, 0, 0) ∧ gB A1 7 2 = true := ⟨by kernel_rfl, by kernel_rfl⟩
theorem set1 : sB A1 7 1 = true ∧ ∀ A, sB A 7 0 = false := ⟨by kernel_rfl, fun A => by unfold sB; simp⟩
theorem okL0 : okL L0 := by intro r h; simp only [L0, List.mem_cons, List.not_mem_nil, or_false] at h; rcases h with rfl | rfl | rfl | rfl <;> unfold okR <;> decide

theorem new_st (w : World) : St (w.alloc (.cells #[.map none, .int .i64 0] 61)) w.heap.size (fun k => k = w.heap.size) [] 0 :=
  ⟨.map none, [], ⟨heap_alloc_new w _, rfl, .inl ⟨rfl, rfl⟩, nofun, nofun, List.Pairwise.nil, OkA.nil, fun k hk => by subst hk; simp⟩, rfl⟩
theorem rnew0 (w : World) : Calls Tryd.prog 32 #[.int .i64 2, .int .i64 3] w fun e w' => ∃ a cap, e = .returned (.tuple #[.agg #[.int .i64 2, .slice a 4 cap], .int .i64 0]) ∧ Rd K4 w' (.slice a 4 cap) L0 ∧ Below w.heap.size w w' :=
  (rnew_any w 2 3).mono fun e w' ⟨v, h1, h2, h3⟩ => by
    have hp : newP 2 3 := ⟨by decide, by decide, by decide, by decide⟩
    rw [if_pos hp, newL_23] at h2
    rw [if_pos hp, if_pos hp] at h1
    obtain ⟨a, cap, rfl, _⟩ := h2.slice
    exact ⟨a, cap, h1, h2, h3⟩
/-- A store of the call's own. -/
structure Aw (w : World) (s : Nat) (F : Nat → Prop) (A : Abs) (d : Int) (W : World) : Prop where
  st : St W s F A d
  lo : ∀ k, F k → w.heap.size ≤ k
  bel : Below w.heap.size w W
theorem Aw.next {w W W' : World} {s : Nat} {F : Nat → Prop} {A A' : Abs} {d d' : Int} (h : Aw w s F A d W) (st : St W' s (Fx F W W') A' d') (o : Only F W W') : Aw w s (Fx F W W') A' d' W' :=
  ⟨st, fun k hk => by
    rcases hk with hk | ⟨hk, _⟩
    · exact h.lo k hk
    · have := h.bel.size; omega, h.bel.trans (o.below h.bel.size h.lo)⟩
theorem Aw.below {w W W' : World} {s : Nat} {F : Nat → Prop} {A : Abs} {d : Int} (h : Aw w s F A d W) (b : Below W.heap.size W W') : Aw w s F A d W' := ⟨h.st.below b, h.lo, h.bel.trans (b.mono h.bel.size)⟩
theorem Aw.glob {w W : World} {s : Nat} {F : Nat → Prop} {A : Abs} {d : Int} (h : Aw w s F A d W) (g : Glob w) : Glob W ∧ ¬ F 0 := ⟨g.below h.bel, fun hk => by have := h.lo _ hk; have : _ < w.heap.size := World.block_lt_of_cell? _ _ g; simp only at this; omega⟩
def Loc (F : Nat → Prop) (W : World) (g : Nat) (cs : Array Value) (t : TypeId) : Prop := W.heap[g]? = some (.cells cs t (0, 0)) ∧ ¬ F g
theorem Loc.only {F : Nat → Prop} {W W' : World} {g : Nat} {cs : Array Value} {t : TypeId} (h : Loc F W g cs t) (o : Only F W W') : Loc (Fx F W W') W' g cs t := ⟨(o.block g (lt_of_block h.1) h.2).trans h.1, Fx.not h.2 (lt_of_block h.1)⟩
theorem Loc.below {F : Nat → Prop} {W W' : World} {g : Nat} {cs : Array Value} {t : TypeId} (h : Loc F W g cs t) (b : Below W.heap.size W W') : Loc F W' g cs t := ⟨(b.block g (lt_of_block h.1)).trans h.1, h.2⟩
theorem Loc.new {F : Nat → Prop} {W : World} (hF : ∀ k, F k → k < W.heap.size) (cs : Array Value) (t : TypeId) : Loc F (W.alloc (.cells cs t)) W.heap.size cs t := ⟨heap_alloc_new W _, fun h => by have := hF _ h; omega⟩
theorem get_st {w : World} {s : Nat} {F : Nat → Prop} {A : Abs} {d : Int} (S : St w s F A d) {n : Int} (hn : Wf n) (r : Int) : Calls Tryd.prog 14 #[.pointer (some ⟨s, 0, none⟩), .int .i64 n, .int .i64 r] w (GetPost w (gV A n r) (gB A n r)) := by
  obtain ⟨m, C, h, rfl⟩ := S
  exact get_any h hn r
theorem denied_st {w : World} {s : Nat} {F : Nat → Prop} {A : Abs} {d : Int} (S : St w s F A d) : Calls Tryd.prog 16 #[.pointer (some ⟨s, 0, none⟩)] w fun e w' => e = .returned (.int .i64 d) ∧ Below w.heap.size w w' := by
  obtain ⟨m, C, h, _⟩ := S
  exact denied_any h
theorem below_new (W : World) (o : Obj) : Below W.heap.size W (W.alloc o) := (Below.refl _ W).alloc (Nat.le_refl _) o

set_option maxHeartbeats 4000000 in
theorem awake_any (w : World) (hg : Glob w) : Calls Tryd.prog 17 #[] w fun e w' => e = .returned (.bool true) ∧ Below w.heap.size w w' := by
  have HG := Lib.hid hg
  clear hg
  have es : ∀ w, (Op.equalIn 10000 32 (.agg #[.int .u8 9, .int .u8 0, .int .u8 0, .int .u8 0]) (.agg #[.int .u8 9, .int .u8 0, .int .u8 0, .int .u8 0])).run Tryd.prog w = .ok true w := fun w => by
    have := eq_rec (9, 0, 0, 0) (9, 0, 0, 0) w
    simpa using this
  have ES := Lib.hid es
  clear es
  have okR_9 : okR (9, 0, 0, 0) := ⟨⟨by decide, by decide⟩, ⟨by decide, by decide⟩, ⟨by decide, by decide⟩, by decide, by decide⟩
  have S0 : Hid (Aw w w.heap.size (fun k => k = w.heap.size) [] 0 (w.alloc (.cells #[.map none, .int .i64 0] 61))) := ⟨new_st w, fun k hk => by subst hk; exact Nat.le_refl _, below_new w _⟩
  go_enter Tryd.func17, Tryd.ntmps17
  go_wp2_with (go_at_call 6; refine (new_any _).mono ?_; rintro e w1 ⟨rfl, rfl⟩)
  go_wp2_with fail
  refine (rnew0 _).mono ?_
  rintro e w2 ⟨fa, fc, rfl, r2, b2⟩
  have S2 := Lib.hid ((S0.out.below b2).below (below_new w2 (.cells #[.int .i64 2, .slice fa 4 fc] 35)))
  have R2 := Lib.hid (r2.below (below_new w2 (.cells #[.int .i64 2, .slice fa 4 fc] 35)))
  clear r2 b2 S0
  generalize hs : w.heap.size = s at *
  go_wp2_with fail
  generalize (w2.alloc (.cells #[.int .i64 2, .slice fa 4 fc] 35)) = W2 at *
  have AD := add_any S2.out.st 7 2 (.slice fa 4 fc) L0 R2.out okL0
  rw [add0.1, add0.2] at AD
  unfold file at AD
  refine AD.mono ?_
  rintro e w3 ⟨rfl, s3, o3⟩
  have S3 := Lib.hid (S2.out.next s3 o3)
  clear AD s3 o3 S2 R2
  generalize Fx (fun k => k = s) W2 w3 = F3 at *
  go_wp2_with fail
  have DO := dos_any S3.out.st (S3.out.glob HG.out).1 (S3.out.glob HG.out).2 (by decide) 1 7 2 (9, 0, 0, 0) okR_9
  rw [do1.1, do1.2.1, do1.2.2.1, do1.2.2.2] at DO
  unfold Ad.addr rec4 at DO
  refine DO.mono ?_
  rintro e w4 ⟨rfl, st, on⟩
  have T := Lib.hid (S3.out.next st on)
  have S4 := Lib.hid (T.out.below (below_new w4 (.cells #[.int .u8 9, .int .u8 0, .int .u8 0, .int .u8 0] 32)))
  have L4 := Lib.hid (Loc.new T.out.st.low #[.int .u8 9, .int .u8 0, .int .u8 0, .int .u8 0] 32)
  clear DO st on S3 T
  generalize Fx F3 w3 w4 = F4 at *
  unfold rec4
  go_wp2_with fail
  generalize (w4.alloc (.cells #[.int .u8 9, .int .u8 0, .int .u8 0, .int .u8 0] 32)) = W4 at *
  generalize w4.heap.size = g4 at *
  have DO := dos_any S4.out.st (S4.out.glob HG.out).1 (S4.out.glob HG.out).2 (by decide) 0 7 2 z4 Fl.okR_z
  rw [do2.1, do2.2.1, do2.2.2.1, do2.2.2.2] at DO
  unfold Ad.addr rec4 z4 at DO
  refine DO.mono ?_
  rintro e w5 ⟨rfl, st, on⟩
  have T := Lib.hid (S4.out.next st on)
  have S5 := Lib.hid (T.out.below (below_new w5 (.cells #[.int .u8 0, .int .u8 0, .int .u8 0, .int .u8 0] 32)))
  have L5 := Lib.hid ((L4.out.only on).below (below_new w5 (.cells #[.int .u8 0, .int .u8 0, .int .u8 0, .int .u8 0] 32)))
  clear DO st on S4 T L4
  generalize Fx F4 W4 w5 = F5 at *
  unfold rec4
  go_wp2_with fail
  generalize (w5.alloc (.cells #[.int .u8 0, .int .u8 0, .int .u8 0, .int .u8 0] 32)) = W5 at *
  have DO := dos_any S5.out.st (S5.out.glob HG.out).1 (S5.out.glob HG.out).2 (by decide) 0 8 0 z4 Fl.okR_z
  rw [do3.1, do3.2.1, do3.2.2.1, do3.2.2.2] at DO
  unfold Ad.addr rec4 z4 at DO
  refine DO.mono ?_
  rintro e w6 ⟨rfl, st, on⟩
  have T := Lib.hid (S5.out.next st on)
  have S6 := Lib.hid (T.out.below (below_new w6 (.cells #[.int .u8 0, .int .u8 0, .int .u8 0, .int .u8 0] 32)))
  have L6 := Lib.hid ((L5.out.only on).below (below_new w6 (.cells #[.int .u8 0, .int .u8 0, .int .u8 0, .int .u8 0] 32)))
  clear DO st on S5 T L5
  generalize Fx F5 W5 w6 = F6 at *
  unfold rec4
  go_wp2_with fail
  generalize (w6.alloc (.cells #[.int .u8 0, .int .u8 0, .int .u8 0, .int .u8 0] 32)) = W6 at *
  have GE := get_st S6.out.st (n := 7) (WalkArith.wf_i64 (by decide)) 2
  rw [get0.1, get0.2] at GE
  refine GE.mono ?_
  rintro e w7 ⟨rfl, b7⟩
  have S7 := Lib.hid ((S6.out.below b7).below (below_new w7 (.cells #[.int .u8 9, .int .u8 0, .int .u8 0, .int .u8 0] 32)))
  have L7 := Lib.hid ((L6.out.below b7).below (below_new w7 (.cells #[.int .u8 9, .int .u8 0, .int .u8 0, .int .u8 0] 32)))
  have M7 : Hid (Loc F6 (w7.alloc (.cells #[.int .u8 9, .int .u8 0, .int .u8 0, .int .u8 0] 32)) w7.heap.size #[.int .u8 9, .int .u8 0, .int .u8 0, .int .u8 0] 32) := Loc.new (S6.out.below b7).st.low _ _
  clear GE b7 S6 L6
  unfold rec4
  go_upto_region 8 with fail
  generalize (w7.alloc (.cells #[.int .u8 9, .int .u8 0, .int .u8 0, .int .u8 0] 32)) = W7 at *
  generalize w7.heap.size = g7 at *
  have x0 : W7.cell? ⟨g4, 0, none⟩ = some (.int .u8 9) := row_cell L7.out.1 0
  have x1 : W7.cell? ⟨g4, 1, none⟩ = some (.int .u8 0) := row_cell L7.out.1 1
  have x2 : W7.cell? ⟨g4, 2, none⟩ = some (.int .u8 0) := row_cell L7.out.1 2
  have x3 : W7.cell? ⟨g4, 3, none⟩ = some (.int .u8 0) := row_cell L7.out.1 3
  have y0 : W7.cell? ⟨g7, 0, none⟩ = some (.int .u8 9) := row_cell M7.out.1 0
  have y1 : W7.cell? ⟨g7, 1, none⟩ = some (.int .u8 0) := row_cell M7.out.1 1
  have y2 : W7.cell? ⟨g7, 2, none⟩ = some (.int .u8 0) := row_cell M7.out.1 2
  have y3 : W7.cell? ⟨g7, 3, none⟩ = some (.int .u8 0) := row_cell M7.out.1 3
  have es := ES.out
  go_wp2_with fail
  clear x0 x1 x2 x3 y0 y1 y2 y3 es
  refine (denied_st S7.out.st).mono ?_
  rintro e w8 ⟨rfl, b8⟩
  have S8 := Lib.hid (S7.out.below b8)
  have L8 := Lib.hid (L7.out.below b8)
  clear b8 S7 L7 M7
  go_wp2_with fail
  refine (files_any S8.out.st).mono ?_
  rintro e w9 ⟨v, rfl, hls, b9⟩
  obtain ⟨va, vc, rfl⟩ : ∃ a c, v = .slice a 1 c := by
    obtain ⟨L, h, e⟩ := hls (fun _ => False) (fun _ h => h.elim)
    obtain ⟨a, c, e2, _⟩ := h.rd.slice
    have : L.length = 1 := by have := congrArg List.length e; rw [List.length_map] at this; exact this
    rw [this] at e2
    exact ⟨a, c, e2⟩
  have S9 := Lib.hid (S8.out.below b9)
  have L9 := Lib.hid (L8.out.below b9)
  clear b9 S8 L8 hls
  have x0 : w9.cell? ⟨g4, 0, none⟩ = some (.int .u8 9) := row_cell L9.out.1 0
  have x1 : w9.cell? ⟨g4, 1, none⟩ = some (.int .u8 0) := row_cell L9.out.1 1
  have x2 : w9.cell? ⟨g4, 2, none⟩ = some (.int .u8 0) := row_cell L9.out.1 2
  have x3 : w9.cell? ⟨g4, 3, none⟩ = some (.int .u8 0) := row_cell L9.out.1 3
  go_wp2_with fail
  clear x0 x1 x2 x3
  have SE := set_any S9.out.st (n := 7) (WalkArith.wf_i64 (by decide)) 1 (9, 0, 0, 0) okR_9
  rw [set1.1] at SE
  unfold rec4 at SE
  refine SE.mono ?_
  rintro e w10 ⟨rfl, st, on⟩
  have S10 := Lib.hid (S9.out.next st on)
  have L10 := Lib.hid (L9.out.only on)
  clear SE st on S9 L9
  generalize Fx F6 w9 w10 = F10 at *
  have x0 : w10.cell? ⟨g4, 0, none⟩ = some (.int .u8 9) := row_cell L10.out.1 0
  have x1 : w10.cell? ⟨g4, 1, none⟩ = some (.int .u8 0) := row_cell L10.out.1 1
  have x2 : w10.cell? ⟨g4, 2, none⟩ = some (.int .u8 0) := row_cell L10.out.1 2
  have x3 : w10.cell? ⟨g4, 3, none⟩ = some (.int .u8 0) := row_cell L10.out.1 3
  go_wp2_with fail
  clear x0 x1 x2 x3 L10
  have SE := set_any S10.out.st (n := 7) (WalkArith.wf_i64 (by decide)) 0 (9, 0, 0, 0) okR_9
  rw [set1.2] at SE
  unfold rec4 at SE
  refine SE.mono ?_
  rintro e w11 ⟨rfl, st, on⟩
  have S11 := Lib.hid (S10.out.next st on).bel
  clear SE st on S10
  go_wp2
  go_ret
  refine ⟨rfl, ?_⟩
  exact S11.out

end Go.Proofs.YtoeemngekioldaaDoor.Fs
