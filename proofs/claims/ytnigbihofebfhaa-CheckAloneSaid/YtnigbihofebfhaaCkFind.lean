/- check.find, of any predicate; check.sending, clash, gap; check.Sender. -/
import Derived.Test.YtnigbihofebfhaaCkMem
import Derived.Test.YtnigbihofebfhaaFlRef
import Derived.Test.YtnigbihofebfhaaSc
import Derived.Deep.Cut
namespace Go.Proofs.Ytnigbihofebfhaa.Ck
open Go.RowKit
open Go.Proofs.Ytnigbihofebfhaa.Ro (E5 z5 eat ent K5 at5 eat_mem)
open Go.Proofs.Ytnigbihofebfhaa.Rw (Rd Ow At)
open Go.Proofs.Ytnigbihofebfhaa.Fl (ret_bool at_bool row_cell row_frozen)
attribute [local irreducible] Sd.wpSd wpQuiet

/-- A whole entry is stored. -/
def sto5 (w : World) (g : Nat) (x : E5) : World := ((((w.setCell ⟨g, 0, none⟩ (.int .i64 x.1)).setCell ⟨g, 1, none⟩ (.int .i64 x.2.1)).setCell ⟨g, 2, none⟩ (.int .i64 x.2.2.1)).setCell ⟨g, 3, none⟩ (.int .i64 x.2.2.2.1)).setCell ⟨g, 4, none⟩ (.int .i64 x.2.2.2.2)
theorem sto5_row {w : World} {g : Nat} {y : E5} (h : RowE w g y) (x : E5) : RowE (sto5 w g x) g x :=
  Rw.heap_setCell_same (Rw.heap_setCell_same (Rw.heap_setCell_same (Rw.heap_setCell_same (Rw.heap_setCell_same h _) _) _) _) _
theorem sto5_other {w : World} {g k : Nat} {x : E5} {o : Option Obj} (h : w.heap[k]? = o) (hne : k ≠ g) : (sto5 w g x).heap[k]? = o :=
  (Below.heap_setCell _ _ _ _ hne).trans ((Below.heap_setCell _ _ _ _ hne).trans ((Below.heap_setCell _ _ _ _ hne).trans ((Below.heap_setCell _ _ _ _ hne).trans ((Below.heap_setCell _ _ _ _ hne).trans h))))
theorem sto5_below {w W : World} {B g : Nat} {x : E5} (h : Below B w W) (hb : B ≤ g) : Below B w (sto5 W g x) :=
  ((((h.setCell (p := ⟨g, 0, none⟩) hb _).setCell (p := ⟨g, 1, none⟩) hb _).setCell (p := ⟨g, 2, none⟩) hb _).setCell (p := ⟨g, 3, none⟩) hb _).setCell (p := ⟨g, 4, none⟩) hb _
theorem sto5_size (w : World) (g : Nat) (x : E5) : (sto5 w g x).heap.size = w.heap.size := by simp [sto5]

/-- What is asked of a predicate of the node and an entry. -/
def PredS (g : Nat) (lb : Array Value) (p : Nat → E5 → Bool) (L : LL) (w : World) : Prop :=
  ∀ (W : World) (n : Nat) (x : E5), n < L.length → x ∈ lat L n → Below w.heap.size w W → Calls Try.prog g (#[.int .i64 n, .agg #[.int .i64 x.1, .int .i64 x.2.1, .int .i64 x.2.2.1, .int .i64 x.2.2.2.1, .int .i64 x.2.2.2.2]] ++ lb) W fun e w' => e = .returned (.bool (p n x)) ∧ Below W.heap.size W w'
/-- What is found. -/
def WhoPost (w : World) (n : Int) (x : E5) (e : Ending) (w' : World) : Prop := e = .returned (.tuple #[.int .i64 n, ent x]) ∧ Below w.heap.size w w'

set_option maxHeartbeats 2000000 in
theorem find_any (w : World) (v : Value) (L : LL) (g : Nat) (lb : Array Value) (p : Nat → E5 → Bool) (eg : ∀ args w, (callFunc g args).run Try.prog w = .ok (.enter g args) w) (R : RdL w v L) (hp : PredS g lb p L w) :
    Calls Try.prog 14 #[v, .func (.func g) #[] lb] w (WhoPost w (whoN p L) (whoE p L)) := by
  obtain ⟨a, cap, rfl, _, hm, hA⟩ := R
  have HA := Lib.hid hA
  have HP := Lib.hid hp
  have HH : Hid (∀ k i w', Within p L k i → k < L.length → i < (lat L k).length → p k (eat (lat L k) i) = true → Below w.heap.size w w' → WhoPost w (whoN p L) (whoE p L) (.returned (.tuple #[.int .i64 (k : Int), ent (eat (lat L k) i)])) w') := fun k i w' h hk hi hq b => by
    obtain ⟨e1, e2⟩ := within_hit h hk hi hq
    rw [e1, e2]
    exact ⟨rfl, b⟩
  have HM : Hid (∀ w', Ahead p L L.length → Below w.heap.size w w' → WhoPost w (whoN p L) (whoE p L) (.returned (.tuple #[.int .i64 (-1), ent z5])) w') := fun w' h b => by
    obtain ⟨e1, e2⟩ := ahead_end h
    rw [e1, e2]
    exact ⟨rfl, b⟩
  clear hA hp
  generalize whoN p L = rn at *
  generalize whoE p L = re at *
  unfold maxLen at hm
  generalize hn : L.length = n at *
  have HN := Lib.hid hn
  clear hn
  have R0 : Hid (RowE (w.alloc (.cells #[.int .i64 0, .int .i64 0, .int .i64 0, .int .i64 0, .int .i64 0] 30)) w.heap.size z5) := heap_alloc_new w _
  have B0 := Lib.hid ((Below.refl w.heap.size w).alloc (Nat.le_refl _) (.cells #[.int .i64 0, .int .i64 0, .int .i64 0, .int .i64 0, .int .i64 0] 30))
  go_enter Try.func14, Try.ntmps14
  go_wp2
  generalize w.alloc (.cells #[.int .i64 0, .int .i64 0, .int .i64 0, .int .i64 0, .int .i64 0] 30) = w0 at *
  go_loopw [12] (fun i wr => ∃ k : Nat, k ≤ n ∧ i = .int .i64 k ∧ Hid (RowE wr w.heap.size z5) ∧ Hid (Below w.heap.size w wr) ∧ Hid (Ahead p L k)) (fun i _ => n - (intOf i).toNat)
  case atStart => exact ⟨0, Nat.zero_le _, rfl, R0, B0, ahead_zero⟩
  case round =>
    obtain ⟨k, hk, rfl, rr, bw, hs⟩ := hrel
    by_cases hlt : k < n
    · obtain ⟨b, off, rfl, A⟩ := HA.out (by omega)
      obtain ⟨u, c, a', cap', rfl, _, hm', hA'⟩ := A k hlt
      have c' := (bw.out.cell (World.block_lt_of_cell? _ _ c)).trans c
      have HA' := Lib.hid hA'
      have HX := Lib.hid (fun i (h : i < (lat L k).length) => eat_mem h)
      have HAA := Lib.hid A
      have HK := Lib.hid (show k < L.length by rw [HN.out]; exact hlt)
      clear hA' c A
      unfold maxLen at hm'
      generalize hl : (lat L k).length = m at *
      have HL := Lib.hid hl
      clear hl
      have W0 := Lib.hid (within_zero hs.out)
      clear hs
      go_wp2
      go_loopw [19] (fun i wr => ∃ j : Nat, j ≤ m ∧ i = .int .i64 j ∧ Hid (RowE wr w.heap.size z5) ∧ Hid (Below w.heap.size w wr) ∧ Hid (Within p L k j)) (fun i _ => m - (intOf i).toNat)
      case atStart => exact ⟨0, Nat.zero_le _, rfl, rr, bw, W0⟩
      case round =>
        clear c' rr bw W0
        obtain ⟨j, hj, rfl, rr, bw, hs⟩ := hrel
        by_cases hjt : j < m
        · obtain ⟨b', off', rfl, A'⟩ := HA'.out (by omega)
          obtain ⟨c0, c1, c2, c3, c4⟩ := at5 (A'.below bw.out) j (by rw [HL.out]; exact hjt)
          rw [show (lat L k).getD j z5 = eat (lat L k) j from rfl] at c0 c1 c2 c3 c4
          have hc := fun W hb => HP.out W k (eat (lat L k) j) HK.out (HX.out j hjt) hb
          have YES := Lib.hid (fun w' h hb => HH.out k j w' hs.out (by have := HK.out; rw [HN.out] at this; exact this) (by rw [HL.out]; exact hjt) h hb)
          have NO := Lib.hid (fun h => within_next hs.out (by rw [HL.out]; exact hjt) h)
          clear A' hs
          generalize eat (lat L k) j = x at *
          have bx := (Below.refl wr.heap.size wr).alloc (Nat.le_refl _) (.cells #[.int .i64 x.1, .int .i64 x.2.1, .int .i64 x.2.2.1, .int .i64 x.2.2.2.1, .int .i64 x.2.2.2.2] 30)
          have gr := rr.out.lt
          have B1 := Lib.hid (bw.out.trans (bx.mono bw.out.size))
          have R1 := Lib.hid (rr.out.below bx gr)
          have X1 : RowE (wr.alloc (.cells #[.int .i64 x.1, .int .i64 x.2.1, .int .i64 x.2.2.1, .int .i64 x.2.2.2.1, .int .i64 x.2.2.2.2] 30)) wr.heap.size x := heap_alloc_new wr _
          clear bx
          go_upto_region 7 with fail
          clear c0 c1 c2 c3 c4
          generalize wr.alloc (.cells #[.int .i64 x.1, .int .i64 x.2.1, .int .i64 x.2.2.1, .int .i64 x.2.2.2.1, .int .i64 x.2.2.2.2] 30) = V at *
          generalize wr.heap.size = gx at *
          have x0 : V.cell? ⟨gx, 0, none⟩ = some (.int .i64 x.1) := row_cell X1 0
          have x1 : V.cell? ⟨gx, 1, none⟩ = some (.int .i64 x.2.1) := row_cell X1 1
          have x2 : V.cell? ⟨gx, 2, none⟩ = some (.int .i64 x.2.2.1) := row_cell X1 2
          have x3 : V.cell? ⟨gx, 3, none⟩ = some (.int .i64 x.2.2.2.1) := row_cell X1 3
          have x4 : V.cell? ⟨gx, 4, none⟩ = some (.int .i64 x.2.2.2.2) := row_cell X1 4
          have C := Lib.hid (hc V B1.out)
          have XX := Lib.hid X1
          clear hc X1
          generalize hq : p k x = q at *
          cases q with
          | true =>
            have Y := Lib.hid (fun w' hb => YES.out w' rfl hb)
            clear hq YES NO
            go_wp2_with fail
            refine C.out.mono ?_
            rintro e w1 ⟨rfl, b1⟩
            have B2 := Lib.hid (B1.out.trans (b1.mono B1.out.size))
            have X2 := XX.out.below b1 XX.out.lt
            have R2 := Lib.hid (R1.out.below b1 R1.out.lt)
            clear b1 x0 x1 x2 x3 x4 C XX B1 R1
            go_upto_region 8 with fail
            have C0 : RowE w1.drew gx x := X2
            have ne : Nonempty (Sc.In (fun W => RowE W gx x)) := ⟨⟨_, C0⟩⟩
            have x0 := Sc.cell_in (C := fun W => RowE W gx x) (a := ⟨gx, 0, none⟩) (v := .int .i64 x.1) (fun W h => row_cell h 0)
            have x1 := Sc.cell_in (C := fun W => RowE W gx x) (a := ⟨gx, 1, none⟩) (v := .int .i64 x.2.1) (fun W h => row_cell h 1)
            have x2 := Sc.cell_in (C := fun W => RowE W gx x) (a := ⟨gx, 2, none⟩) (v := .int .i64 x.2.2.1) (fun W h => row_cell h 2)
            have x3 := Sc.cell_in (C := fun W => RowE W gx x) (a := ⟨gx, 3, none⟩) (v := .int .i64 x.2.2.2.1) (fun W h => row_cell h 3)
            have x4 := Sc.cell_in (C := fun W => RowE W gx x) (a := ⟨gx, 4, none⟩) (v := .int .i64 x.2.2.2.2) (fun W h => row_cell h 4)
            refine Sc.start (fun W => RowE W gx x) [(false, 0), (false, 1), (false, 2), (true, 3)] (by kernel_rfl) (by kernel_rfl) (by kernel_rfl) C0 ?_
            dsimp only [Sd.picks, List.getElem?_cons_succ, List.getElem?_cons_zero]
            iterate 3 (refine Sd.lit ?_; quiet_step (fail); refine wpQuiet_nil ?_)
            refine Sd.call (by rfl) (fun K hK => ?_)
            clear x0 x1 x2 x3 x4 ne
            have R2d : Hid (RowE w1.drew w.heap.size z5) := Lib.hid R2.out
            have B2d := Lib.hid (B2.out.drew)
            clear R2 B2 X2
            generalize w1.drew = W2 at *
            have d0 : W2.cell? ⟨w.heap.size, 0, none⟩ = some (.int .i64 0) := row_cell R2d.out 0
            have d1 : W2.cell? ⟨w.heap.size, 1, none⟩ = some (.int .i64 0) := row_cell R2d.out 1
            have d2 : W2.cell? ⟨w.heap.size, 2, none⟩ = some (.int .i64 0) := row_cell R2d.out 2
            have d3 : W2.cell? ⟨w.heap.size, 3, none⟩ = some (.int .i64 0) := row_cell R2d.out 3
            have d4 : W2.cell? ⟨w.heap.size, 4, none⟩ = some (.int .i64 0) := row_cell R2d.out 4
            have f0 : W2.frozen? ⟨w.heap.size, 0, none⟩ = false := row_frozen R2d.out 0
            have f1 : W2.frozen? ⟨w.heap.size, 1, none⟩ = false := row_frozen R2d.out 1
            have f2 : W2.frozen? ⟨w.heap.size, 2, none⟩ = false := row_frozen R2d.out 2
            have f3 : W2.frozen? ⟨w.heap.size, 3, none⟩ = false := row_frozen R2d.out 3
            have f4 : W2.frozen? ⟨w.heap.size, 4, none⟩ = false := row_frozen R2d.out 4
            have hne : gx ≠ w.heap.size := by have := gr; omega
            have X3 : RowE (sto5 W2 w.heap.size x) gx x := sto5_other C0 hne
            have R3 : Hid (RowE (sto5 W2 w.heap.size x) w.heap.size x) := Lib.hid (sto5_row (y := z5) R2d.out x)
            have B3 := Lib.hid (sto5_below (g := w.heap.size) (x := x) B2d.out (Nat.le_refl _))
            go_simp
            refine hK _ _ (Sc.Cl.of X3) ?_
            clear hK K d0 d1 d2 d3 d4 f0 f1 f2 f3 f4
            refine Sd.done ?_
            show Exit.then _ _ _ _ (sto5 W2 w.heap.size x)
            generalize sto5 W2 w.heap.size x = wS at *
            go_wp2
            (try simp only [Exit.inBlock, Exit.then])
            exact bodyPost_ret (v := .tuple #[.int .i64 (k : Int), ent x]) (results_who (p := 5) (r := 4) rfl _ _ w.heap.size k x rfl rfl R3.out) rfl (Y.out _ B3.out)
          | false =>
            have ST := Lib.hid (NO.out rfl)
            clear hq YES NO
            go_wp2_with fail
            refine C.out.mono ?_
            rintro e w1 ⟨rfl, b1⟩
            have B2 := Lib.hid (B1.out.trans (b1.mono B1.out.size))
            have R2 := Lib.hid (R1.out.below b1 R1.out.lt)
            clear b1 x0 x1 x2 x3 x4 C XX B1 R1
            go_wp2
            go_roundw
            case rel => exact ⟨j + 1, by omega, by go_num, R2, B2, ST⟩
            case measure => simp [intOf]; omega
        · obtain rfl : j = m := by omega
          have ST := Lib.hid (within_end (by rw [HL.out]; exact hs.out) HK.out)
          clear hs
          go_wp2
          go_roundw
          case rel => exact ⟨k + 1, by omega, by go_num, rr, bw, ST⟩
          case measure => simp [intOf]; omega
    · obtain rfl : k = n := by omega
      have d0 : wr.cell? ⟨w.heap.size, 0, none⟩ = some (.int .i64 0) := row_cell rr.out 0
      have d1 : wr.cell? ⟨w.heap.size, 1, none⟩ = some (.int .i64 0) := row_cell rr.out 1
      have d2 : wr.cell? ⟨w.heap.size, 2, none⟩ = some (.int .i64 0) := row_cell rr.out 2
      have d3 : wr.cell? ⟨w.heap.size, 3, none⟩ = some (.int .i64 0) := row_cell rr.out 3
      have d4 : wr.cell? ⟨w.heap.size, 4, none⟩ = some (.int .i64 0) := row_cell rr.out 4
      have f0 : wr.frozen? ⟨w.heap.size, 0, none⟩ = false := row_frozen rr.out 0
      have f1 : wr.frozen? ⟨w.heap.size, 1, none⟩ = false := row_frozen rr.out 1
      have f2 : wr.frozen? ⟨w.heap.size, 2, none⟩ = false := row_frozen rr.out 2
      have f3 : wr.frozen? ⟨w.heap.size, 3, none⟩ = false := row_frozen rr.out 3
      have f4 : wr.frozen? ⟨w.heap.size, 4, none⟩ = false := row_frozen rr.out 4
      have R3 : Hid (RowE (sto5 wr w.heap.size z5) w.heap.size z5) := Lib.hid (sto5_row (y := z5) rr.out z5)
      have B3 := Lib.hid (sto5_below (g := w.heap.size) (x := z5) bw.out (Nat.le_refl _))
      have E := Lib.hid (HM.out _ hs.out B3.out)
      go_wp2
      (try simp only [Exit.inBlock, Exit.then])
      exact bodyPost_ret (v := .tuple #[.int .i64 (-1), ent z5]) (results_who (p := 5) (r := 4) rfl _ _ w.heap.size (-1) z5 rfl rfl R3.out) rfl E.out

theorem makeF (fn : Fn) (first cap : Array Value) (w : World) : (Instr.makeFunc fn first cap).run Try.prog w = .ok (.func fn first cap) w := rfl

/-- The closure of sending. -/
theorem sclos_any (w : World) (B : Nat) (s : Int) (L : LL) (hc : w.cell? ⟨B, 0, none⟩ = some (.int .i64 s)) : PredS 23 #[.pointer (some ⟨B, 0, none⟩)] (snd s) L w := fun W n x _ _ hb => by
  have hlt := World.block_lt_of_cell? _ _ hc
  have d := (hb.cell hlt).trans hc
  have hBW : B < W.heap.size := Nat.lt_of_lt_of_le hlt hb.size
  clear hc hlt hb
  show Calls Try.prog 23 #[.int .i64 n, .agg #[.int .i64 x.1, .int .i64 x.2.1, .int .i64 x.2.2.1, .int .i64 x.2.2.2.1, .int .i64 x.2.2.2.2], .pointer (some ⟨B, 0, none⟩)] W _
  have HB := Lib.hid (fun o => (Below.refl W.heap.size W).alloc (Nat.le_refl _) o)
  obtain ⟨x1, x2, x3, x4, x5⟩ := x
  have Y := fun h1 h2 => snd_yes (s := s) (n := n) (x := (x1, x2, x3, x4, x5)) h1 h2
  have N := fun h => snd_no (s := s) (n := n) (x := (x1, x2, x3, x4, x5)) h
  simp only at Y N ⊢
  by_cases h1 : x1 = 1
  · by_cases h2 : x2 = s
    · rw [Y h1 h2]
      clear Y N
      go_enter Try.func23, Try.ntmps23
      go_wp2
      go_ret
      exact ⟨ret_bool (by first | rfl | simpa using h2), HB.out _⟩
    · rw [N (fun h => h2 h.2)]
      clear Y N
      go_enter Try.func23, Try.ntmps23
      go_wp2
      go_ret
      exact ⟨ret_bool (by first | rfl | simpa using h2), HB.out _⟩
  · rw [N (fun h => h1 h.1)]
    clear Y N
    go_enter Try.func23, Try.ntmps23
    go_wp2
    go_ret
    exact ⟨ret_bool (by first | rfl | simpa using h2), HB.out _⟩

/-- The slots of all entries are a table's. -/
def InSlots (L : LL) : Prop := ∀ n, n < L.length → ∀ x ∈ lat L n, 0 ≤ x.2.1 ∧ x.2.1 ≤ 16

theorem cclos_any (w : World) (B : Nat) (F : Nat → Int) (L : LL) (hi : InSlots L) (hr : RowI w B F) : PredS 20 #[.pointer (some ⟨B, 0, none⟩)] (qc F) L w := fun W n x hn hx hb => by
  have R := hr.below hb hr.lt
  have hBW := R.lt
  obtain ⟨g1, g2⟩ := hi n hn x hx
  clear hr hb hi hn hx
  show Calls Try.prog 20 #[.int .i64 n, .agg #[.int .i64 x.1, .int .i64 x.2.1, .int .i64 x.2.2.1, .int .i64 x.2.2.2.1, .int .i64 x.2.2.2.2], .pointer (some ⟨B, 0, none⟩)] W _
  have HB := Lib.hid (fun o => (Below.refl W.heap.size W).alloc (Nat.le_refl _) o)
  obtain ⟨x1, x2, x3, x4, x5⟩ := x
  simp only at g1 g2 ⊢
  obtain ⟨k, rfl⟩ : ∃ k : Nat, x2 = k := ⟨x2.toNat, by omega⟩
  have hk : k < 17 := by omega
  have d := R.cell k hk
  have Y := fun h => show qc F n (x1, (k : Int), x3, x4, x5) = true from decide_eq_true h
  have N := fun h => show qc F n (x1, (k : Int), x3, x4, x5) = false from decide_eq_false h
  simp only [Int.toNat_natCast] at Y N
  clear R g1 g2
  generalize F k = z at *
  by_cases h1 : x1 = 1
  · by_cases h2 : z = n
    · rw [N (fun h => h.2 h2)]
      clear Y N
      go_enter Try.func20, Try.ntmps20
      go_wp2
      go_ret
      exact ⟨ret_bool (by first | rfl | simpa using h2), HB.out _⟩
    · rw [Y ⟨h1, h2⟩]
      clear Y N
      go_enter Try.func20, Try.ntmps20
      go_wp2
      go_ret
      exact ⟨ret_bool (by first | rfl | simpa using h2), HB.out _⟩
  · rw [N (fun h => h1 h.1)]
    clear Y N
    go_enter Try.func20, Try.ntmps20
    go_wp2
    go_ret
    exact ⟨ret_bool (by first | rfl | simpa using h2), HB.out _⟩

theorem gclos_any (w : World) (B : Nat) (F : Nat → Int) (L : LL) (hi : InSlots L) (hr : RowI w B F) : PredS 21 #[.pointer (some ⟨B, 0, none⟩)] (qg F) L w := fun W n x hn hx hb => by
  have R := hr.below hb hr.lt
  have hBW := R.lt
  obtain ⟨g1, g2⟩ := hi n hn x hx
  clear hr hb hi hn hx
  show Calls Try.prog 21 #[.int .i64 n, .agg #[.int .i64 x.1, .int .i64 x.2.1, .int .i64 x.2.2.1, .int .i64 x.2.2.2.1, .int .i64 x.2.2.2.2], .pointer (some ⟨B, 0, none⟩)] W _
  have HB := Lib.hid (fun o => (Below.refl W.heap.size W).alloc (Nat.le_refl _) o)
  obtain ⟨x1, x2, x3, x4, x5⟩ := x
  simp only at g1 g2 ⊢
  obtain ⟨k, rfl⟩ : ∃ k : Nat, x2 = k := ⟨x2.toNat, by omega⟩
  have hk : k < 17 := by omega
  have d := R.cell k hk
  have Y := fun h => show qg F n (x1, (k : Int), x3, x4, x5) = true from decide_eq_true h
  have N := fun h => show qg F n (x1, (k : Int), x3, x4, x5) = false from decide_eq_false h
  simp only [Int.toNat_natCast] at Y N
  clear R g1 g2
  generalize F k = z at *
  by_cases h1 : x1 = 2
  · by_cases h2 : z < 0
    · rw [Y ⟨h1, h2⟩]
      clear Y N
      go_enter Try.func21, Try.ntmps21
      go_wp2
      go_ret
      exact ⟨ret_bool (by first | rfl | simpa using h2), HB.out _⟩
    · rw [N (fun h => h2 h.2)]
      clear Y N
      go_enter Try.func21, Try.ntmps21
      go_wp2
      go_ret
      exact ⟨ret_bool (by first | rfl | simpa using h2), HB.out _⟩
  · rw [N (fun h => h1 h.1)]
    clear Y N
    go_enter Try.func21, Try.ntmps21
    go_wp2
    go_ret
    exact ⟨ret_bool (by first | rfl | simpa using h2), HB.out _⟩

theorem sending_any (w : World) (s : Int) : Calls Try.prog 18 #[.int .i64 s] w fun e w' => e = .returned (.func (.func 23) #[] #[.pointer (some ⟨w.heap.size, 0, none⟩)]) ∧ w' = w.alloc (.cells #[.int .i64 s] 3) := by
  have hmf := makeF
  go_enter Try.func18, Try.ntmps18
  go_wp2
  go_ret
  exact ⟨rfl, rfl⟩
theorem clash_any (w : World) (F : Nat → Int) : Calls Try.prog 15 #[.agg (ar F)] w fun e w' => e = .returned (.func (.func 20) #[] #[.pointer (some ⟨w.heap.size, 0, none⟩)]) ∧ w' = w.alloc (.cells (ar F) 39) := by
  have hmf := makeF
  go_enter Try.func15, Try.ntmps15
  go_wp2
  go_ret
  exact ⟨rfl, rfl⟩
theorem gap_any (w : World) (F : Nat → Int) : Calls Try.prog 16 #[.agg (ar F)] w fun e w' => e = .returned (.func (.func 21) #[] #[.pointer (some ⟨w.heap.size, 0, none⟩)]) ∧ w' = w.alloc (.cells (ar F) 39) := by
  have hmf := makeF
  go_enter Try.func16, Try.ntmps16
  go_wp2
  go_ret
  exact ⟨rfl, rfl⟩

end Go.Proofs.Ytnigbihofebfhaa.Ck
