/- Layer 21: the code's Take: the request of bytes. -/
import Derived.Test.YticdgjohladdlaaRqCid
import Derived.Test.YticdgjohladdlaaSg
import Derived.Test.YticdgjohladdlaaSc
namespace Go.Proofs.Yticdgjohladdlaa.Rq
open Go.RowKit
open Go.Proofs.Yticdgjohladdlaa.Rw (Rd Ow At)
open Go.Proofs.Yticdgjohladdlaa.Fl (R4 z4)
set_option maxRecDepth 100000
attribute [local irreducible] Sd.wpSd wpQuiet Sg.wpSg

set_option maxHeartbeats 4000000 in
theorem take_short (w : World) (a : Option Addr) (cap : Nat) (l : List Int) (hl : l.length < 9) : Calls Try.prog 8 #[.slice a l.length cap] w (TakePost w l) := by
  have hY : ¬ isQ l := fun h => by have := h.1; omega
  have E : Hid (∀ w', Below w.heap.size w w' → TakePost w l (.returned (.tuple #[qV zQ, .int .i64 2])) w') := fun w' b => ⟨by rw [if_neg hY, if_neg hY], b⟩
  have B0 := Lib.hid ((Below.refl w.heap.size w).alloc (Nat.le_refl _) (.cells (qA zQ) 25))
  have R0 := Lib.hid (heap_alloc_new w (.cells (qA zQ) 25))
  clear hY
  generalize l.length = n at *
  have h9 : (n : Int) < 9 := by omega
  unfold qV qA zQ z4 at *
  dsimp only at E B0 R0
  go_enter Try.func8, Try.ntmps8
  go_wp2
  (try simp only [Exit.inBlock, Exit.then])
  exact bodyPost_ret (results_request (p := 2) (r := 3) rfl _ _ w.heap.size _ rfl rfl R0.out rfl) rfl (E.out _ B0.out)

/-- Where a slice's ninth element lies. -/
def Sliced (cap off P : Nat) : Prop := cap = 9 ∧ off = P ∨ cap ≠ 9 ∧ off + 9 = P
theorem get_take {α : Type} {l : List α} {n j : Nat} {v : α} (h : (l.take n)[j]? = some v) : l[j]? = some v := by
  rw [List.getElem?_take] at h
  split at h
  · exact h
  · cases h

set_option maxHeartbeats 8000000 in
theorem take_long (w : World) (b off cap : Nat) (l : List Int) (hl : 9 ≤ l.length) (hc : l.length ≤ cap) (hb : ∀ x ∈ l, 0 ≤ x ∧ x < 256) (hA : At KU w b off l) : Calls Try.prog 8 #[.slice (some ⟨b, off, none⟩) l.length cap] w (TakePost w l) := by
  have E : Hid (∀ c w', decide (good (qcp l) ∧ qb (qcp l) = l) = c → Below w.heap.size w w' → TakePost w l (.returned (.tuple #[qV (if c then qcp l else zQ), .int .i64 (if c then 0 else 2)])) w') := fun c w' hc b => by
    refine ⟨?_, b⟩
    rw [← hc]
    by_cases h : isQ l
    · rw [if_pos h, if_pos h, decide_eq_true ((isQ_iff l).1 h), if_pos rfl, if_pos rfl, qcp_of h.1]
    · rw [if_neg h, if_neg h, decide_eq_false fun k => h ((isQ_iff l).2 k)]
      rfl
  have ge := getD_byte hb
  have c := cells_at hA
  have B0 := Lib.hid ((Below.refl w.heap.size w).alloc (Nat.le_refl _) (.cells (qA zQ) 25))
  have R0 := Lib.hid (heap_alloc_new w (.cells (qA zQ) 25))
  have HA := Lib.hid hA
  have HB := Lib.hid hb
  have HC := Lib.hid hc
  have c2 := bCe B0.out (c 2 (by omega))
  have c3 := bCe B0.out (c 3 (by omega))
  have d4 := Sd.cell_by (bCe B0.out (c 4 (by omega)))
  have d5 := Sd.cell_by (bCe B0.out (c 5 (by omega)))
  have d6 := Sd.cell_by (bCe B0.out (c 6 (by omega)))
  have d7 := Sd.cell_by (bCe B0.out (c 7 (by omega)))
  have d8 := Sd.cell_by (bCe B0.out (c 8 (by omega)))
  have g2 := ge 2
  have g3 := ge 3
  have e4 : IntKind.i64.wrap (l.getD 4 0) = l.getD 4 0 := IntWalk.i64_in _ (by have := ge 4; omega)
  have e5 : IntKind.i64.wrap (l.getD 5 0) = l.getD 5 0 := IntWalk.i64_in _ (by have := ge 5; omega)
  have e6 : IntKind.i64.wrap (l.getD 6 0) = l.getD 6 0 := IntWalk.i64_in _ (by have := ge 6; omega)
  have e7 : IntKind.i64.wrap (l.getD 7 0) = l.getD 7 0 := IntWalk.i64_in _ (by have := ge 7; omega)
  have e8 : IntKind.i64.wrap (l.getD 8 0) = l.getD 8 0 := IntWalk.i64_in _ (by have := ge 8; omega)
  have M : Hid (l.length = 9 + (l.drop 9).length) := Lib.hid (by rw [List.length_drop]; omega)
  have MC : Hid (∀ k v, ((l.drop 9).map (Value.int .u8))[k]? = some v → w.cell? ⟨b, off + 9 + k, none⟩ = some v) := Lib.hid (fun k v e => by
    rw [List.getElem?_map, List.getElem?_drop] at e
    rcases hx : l[9 + k]? with _ | x
    · rw [hx] at e; cases e
    · rw [hx] at e
      have hk := (List.getElem?_eq_some_iff.1 hx).1
      have := c (9 + k) hk
      rw [List.getD_eq_getElem?_getD, hx] at this
      rw [Nat.add_assoc, this]
      exact e)
  have gd := getD_byte (l := l.drop 9) fun x hx => hb x (List.mem_of_mem_drop hx)
  have GV : Hid (okV ((l.drop 9).getD 0 0, (l.drop 9).getD 1 0, (l.drop 9).getD 2 0, (l.drop 9).getD 3 0)) := Lib.hid ⟨gd 0, gd 1, gd 2, gd 3⟩
  have QE : Hid (qcp l = ⟨l.getD 2 0 * 256 + l.getD 3 0, l.getD 4 0, l.getD 5 0, l.getD 6 0, l.getD 7 0, ((l.drop 9).getD 0 0, (l.drop 9).getD 1 0, (l.drop 9).getD 2 0, (l.drop 9).getD 3 0), l.getD 8 0⟩) := Lib.hid rfl
  clear c ge gd hA hb hc
  generalize l.getD 2 0 = b2 at *
  generalize l.getD 3 0 = b3 at *
  generalize l.getD 4 0 = b4 at *
  generalize l.getD 5 0 = b5 at *
  generalize l.getD 6 0 = b6 at *
  generalize l.getD 7 0 = b7 at *
  generalize l.getD 8 0 = b8 at *
  generalize l.drop 9 = m at *
  generalize hn : l.length = n at *
  have HN := Lib.hid hn
  have n4 : 4 < n := by omega
  have n5 : 5 < n := by omega
  have n6 : 6 < n := by omega
  have n7 : 7 < n := by omega
  have n8 : 8 < n := by omega
  have m4 : (4 : Int) < n := by omega
  have m5 : (5 : Int) < n := by omega
  have m6 : (6 : Int) < n := by omega
  have m7 : (7 : Int) < n := by omega
  have m8 : (8 : Int) < n := by omega
  have h9 : ¬ (n : Int) < 9 := by omega
  have h9' : (9 : Int) ≤ n := by omega
  clear hn
  unfold qA zQ z4 at B0 R0 d4 d5 d6 d7 d8 c2 c3
  dsimp only at B0 R0 d4 d5 d6 d7 d8 c2 c3
  go_enter Try.func8, Try.ntmps8
  go_wp2_with fail
  generalize w.alloc (.cells #[.int .i64 0, .int .i64 0, .int .i64 0, .int .i64 0, .int .i64 0, .int .u8 0, .int .u8 0, .int .u8 0, .int .u8 0, .int .i64 0] 25) = W at *
  refine Sg.startP [(0, 0), (0, 2), (0, 3), (0, 4), (0, 5), (0, 6), (0, 7), (0, 8), (0, 9), (0, 10), (0, 11), (0, 12), (0, 13), (0, 14), (0, 15), (0, 16), (0, 17), (0, 18), (0, 19), (0, 20), (0, 21), (1, 1), (0, 22), (2, 23), (1, 24)] [⟨23, 4, #[.int .i64 0, .int .i64 0, .int .i64 0, .int .i64 0, .int .i64 0, .int .u8 0, .int .u8 0, .int .u8 0, .int .u8 0, .int .i64 0], 25, none, none⟩] (by kernel_rfl) (by kernel_rfl) (by kernel_rfl) (by decide) (by decide) ?_ ?_ ?_
  · simp
  · intro f hf
    simp only [List.mem_cons, List.not_mem_nil, or_false] at hf
    subst hf
    exact Sg.okP rfl rfl rfl fun ρ w => by go_simp
  dsimp only [Sg.picks, List.getElem?_cons_succ, List.getElem?_cons_zero]
  have BW := Lib.hid ((Below.refl W.heap.size W).drew)
  repeat (refine Sg.lit (fun xs => ?_); simp only [Sg.fill, List.foldl_cons, List.foldl_nil]; quiet_step (fail); refine wpQuiet_nil ?_)
  refine Sg.callB (fun xs w5 hb hc => ⟨by rfl, fun K hK => ?_⟩)
  have B5 := bTr BW hb
  have ID := Lib.hid (id_any w5 b off n cap b2 b3 (by omega) (bCe B5.out c2) (bCe B5.out c3) g2 g3)
  clear hb hc BW
  simp only [Sg.fill, List.foldl_cons, List.foldl_nil]
  go_simp
  refine ID.out.mono ?_
  rintro e w6 ⟨rfl, b6'⟩
  have B6 := bTr B5.out b6'
  refine hK _ _ (Sd.Cl.of B6.out) b6'.size (fun _ => b6') ?_
  clear hK K ID B5 b6' c2 c3 g2 g3 d4 d5 d6 d7 d8
  repeat (refine Sg.lit (fun xs => ?_); simp only [Sg.fill, List.foldl_cons, List.foldl_nil]; quiet_step (fail); refine wpQuiet_nil ?_)
  refine Sg.meetP (fun gF w7 hb hc row n7 hH hL => ?_)
  have B7 := bTr B6.out hb
  have R7 := Lib.hid (row)
  clear hb hc row hH hL B6
  refine Sg.callB (fun xs w9 hb hc => ⟨by rfl, fun K hK => ?_⟩)
  have B9 := bTr B7.out hb
  have R9 := Lib.hid (bBl hb R7.out)
  clear hb hc B7 R7
  simp only [Sg.fill, List.foldl_nil]
  refine wp_store_row 25 _ _ rfl gF #[.int .i64 (b2 * 256 + b3), .int .i64 b4, .int .i64 b5, .int .i64 b6, .int .i64 b7, .int .u8 0, .int .u8 0, .int .u8 0, .int .u8 0, .int .i64 b8] rfl rfl 25 _ R9.out (by kernel_rfl) rfl (by simp [Value.oneCell']) ?_
  have RA := Lib.hid (setRow_heap w9 gF _ #[.int .i64 (b2 * 256 + b3), .int .i64 b4, .int .i64 b5, .int .i64 b6, .int .i64 b7, .int .u8 0, .int .u8 0, .int .u8 0, .int .u8 0, .int .i64 b8] _ _ R9.out)
  have BA := Lib.hid (below_setRow B9.out n7 #[.int .i64 (b2 * 256 + b3), .int .i64 b4, .int .i64 b5, .int .i64 b6, .int .i64 b7, .int .u8 0, .int .u8 0, .int .u8 0, .int .u8 0, .int .i64 b8])
  have hsz : (w9.setRow gF #[.int .i64 (b2 * 256 + b3), .int .i64 b4, .int .i64 b5, .int .i64 b6, .int .i64 b7, .int .u8 0, .int .u8 0, .int .u8 0, .int .u8 0, .int .i64 b8]).heap.size = w9.heap.size := by simp [World.setRow]
  refine hK _ _ (Sd.Cl.of BA.out) (by rw [hsz]; exact Nat.le_refl _) (fun h => absurd rfl h) ?_
  clear hK K hsz
  generalize w9.setRow gF #[.int .i64 (b2 * 256 + b3), .int .i64 b4, .int .i64 b5, .int .i64 b6, .int .i64 b7, .int .u8 0, .int .u8 0, .int .u8 0, .int .u8 0, .int .i64 b8] = wA at *
  refine Sg.done (fun wB hb hc => ?_)
  have BB := bTr BA.out hb
  have RB := Lib.hid (bBl hb RA.out)
  clear hb hc BA RA B9 R9
  have BX := bTr B0.out BB.out
  have MX : Hid (cap = 9 → m = []) := Lib.hid fun h => List.length_eq_zero_iff.1 (by have := HC.out; have := M.out; omega)
  have CX : ∃ P, (Sliced cap off P) ∧ Hid (∀ k v, (m.map (Value.int .u8))[k]? = some v → w.cell? ⟨b, P + k, none⟩ = some v) := by
    by_cases h : cap = 9
    · exact ⟨off, .inl ⟨h, rfl⟩, Lib.hid (by rw [MX.out h]; intro k v e; simp at e)⟩
    · exact ⟨off + 9, .inr ⟨h, rfl⟩, MC⟩
  clear MC MX
  obtain ⟨P, hcap, MC⟩ := CX
  rcases hcap with ⟨hcap, rfl⟩ | ⟨hcap, rfl⟩
  all_goals
    go_wp2_with fail
    have ne : Nonempty (Sc.In (fun _ : World => True)) := ⟨⟨wB, trivial⟩⟩
    refine Sc.start (fun _ => True) [(false, 0), (false, 1), (false, 2), (false, 3), (true, 4)] (by kernel_rfl) (by kernel_rfl) (by kernel_rfl) trivial ?_
    dsimp only [Sd.picks, List.getElem?_cons_succ, List.getElem?_cons_zero]
    repeat (refine Sd.lit ?_; quiet_step (fail); refine wpQuiet_nil ?_)
    refine Sd.call (by rfl) (fun K hK => ?_)
    refine wp_copy _ _ _ _ rfl 5 Try.underlying26 (by kernel_rfl) _ _ _ _ _ _ rfl rfl gF 5 _ 25 RB.out ((m.take 4).map (Value.int .u8)) ?_ ?_ ?_ ?_ W.heap.size W (BB.out.trans (Below.refl _ _).drew) n7 ?_
    · rw [List.length_map, List.length_take, M.out]
      show min 4 m.length = min (9 + m.length - 9) 4
      omega
    · refine fun _ => ⟨rfl, _, rfl, fun j v e => ?_⟩
      rw [show ∀ P : Nat, (⟨b, P, none⟩ : Addr).add j = ⟨b, P + j, none⟩ from fun P => by simp [Addr.add]]
      exact bCe BX.out.drew (MC.out j v (get_take (by rw [List.map_take] at e; exact e)))
    · rw [List.length_map, List.length_take]
      show 5 + min 4 m.length ≤ 10
      omega
    · intro v hv
      obtain ⟨x, _, rfl⟩ := List.mem_map.1 hv
      rfl
    intro wD hrow bD
    rw [splice_val] at hrow
    have RD := Lib.hid hrow
    have BD := bTr B0.out bD
    have RW := Lib.hid (bBl bD R0.out)
    refine hK _ _ (Sc.Cl.of trivial) ?_
    clear hK K hrow bD MC M BB RB BX ne
    refine Sd.done ?_
    replace RD : Hid (wD.heap[gF]? = some (.cells #[.int .i64 (b2 * 256 + b3), .int .i64 b4, .int .i64 b5, .int .i64 b6, .int .i64 b7, .int .u8 (m.getD 0 0), .int .u8 (m.getD 1 0), .int .u8 (m.getD 2 0), .int .u8 (m.getD 3 0), .int .i64 b8] 25 (0, 0))) := RD
    generalize m.getD 0 0 = u0 at *
    generalize m.getD 1 0 = u1 at *
    generalize m.getD 2 0 = u2 at *
    generalize m.getD 3 0 = u3 at *
    generalize b2 * 256 + b3 = I at *
    rw [QE.out] at E
    have k0 := rc1 RD.out 0
    have k1 := rc1 RD.out 1
    have k2 := rc1 RD.out 2
    have k3 := rc1 RD.out 3
    have k4 := rc1 RD.out 4
    have k5 := rc1 RD.out 5
    have k6 := rc1 RD.out 6
    have k7 := rc1 RD.out 7
    have k8 := rc1 RD.out 8
    have k9 := rc1 RD.out 9
    have GR := Lib.hid (put_any wD ⟨I, b4, b5, b6, b7, (u0, u1, u2, u3), b8⟩)
    unfold qV qA at GR
    dsimp only at GR
    go_wp2_with fail
    refine GR.out.mono ?_
    rintro e w1 ⟨u, rfl, o1, b1⟩
    have B1 := bTr BD.out b1
    have RW1 := Lib.hid (bBl b1 RW.out)
    have RD1 := Lib.hid (bBl b1 RD.out)
    have A1 := Lib.hid (HA.out.below B1.out)
    clear GR RW b1 RD BD B0 R0 k0 k1 k2 k3 k4 k5 k6 k7 k8 k9
    by_cases hm : good ⟨I, b4, b5, b6, b7, (u0, u1, u2, u3), b8⟩
    · rw [if_pos hm] at o1
      rw [if_pos hm]
      obtain ⟨a', cap', rfl, _, _, hh⟩ := o1.rd
      obtain ⟨b', off', rfl, A'⟩ := hh (by rcases qb_len ⟨I, b4, b5, b6, b7, (u0, u1, u2, u3), b8⟩ with h | h <;> omega)
      have hyb := qb_byte hm GV.out
      by_cases he : qb ⟨I, b4, b5, b6, b7, (u0, u1, u2, u3), b8⟩ = l
      · have EA := fun cap => equal_any w1 b off n cap l b' off' _ cap' _ HN.out rfl A1.out A' HB.out hyb true (decide_eq_true he.symm)
        have F : Hid (TakePost w l (.returned (.tuple #[.agg #[.int .i64 I, .int .i64 b4, .int .i64 b5, .int .i64 b6, .int .i64 b7, .int .u8 u0, .int .u8 u1, .int .u8 u2, .int .u8 u3, .int .i64 b8], .int .i64 0])) (w1.setRow w.heap.size #[.int .i64 I, .int .i64 b4, .int .i64 b5, .int .i64 b6, .int .i64 b7, .int .u8 u0, .int .u8 u1, .int .u8 u2, .int .u8 u3, .int .i64 b8])) := Lib.hid (E.out true _ (decide_eq_true ⟨hm, he⟩) (below_setRow B1.out (Nat.le_refl _) #[.int .i64 I, .int .i64 b4, .int .i64 b5, .int .i64 b6, .int .i64 b7, .int .u8 u0, .int .u8 u1, .int .u8 u2, .int .u8 u3, .int .i64 b8]))
        have k0 := rc1 RD1.out 0
        have k1 := rc1 RD1.out 1
        have k2 := rc1 RD1.out 2
        have k3 := rc1 RD1.out 3
        have k4 := rc1 RD1.out 4
        have k5 := rc1 RD1.out 5
        have k6 := rc1 RD1.out 6
        have k7 := rc1 RD1.out 7
        have k8 := rc1 RD1.out 8
        have k9 := rc1 RD1.out 9
        clear hyb o1 A' A1 HA HB hm he B1 E GV QE
        generalize (qb ⟨I, b4, b5, b6, b7, (u0, u1, u2, u3), b8⟩).length = n' at *
        go_wp2_with fail
        refine (EA _).mono ?_
        rintro e w2 ⟨rfl, rfl⟩
        go_wp2_with ((with_reducible refine wpList_store_row (o := ⟨none, _, _, _, _, _⟩) rfl 25 _ _ rfl w.heap.size #[.int .i64 I, .int .i64 b4, .int .i64 b5, .int .i64 b6, .int .i64 b7, .int .u8 u0, .int .u8 u1, .int .u8 u2, .int .u8 u3, .int .i64 b8] rfl rfl _ _ RW1.out (by kernel_rfl) rfl (by simp [Value.oneCell']) ?_))
        exact bodyPost_ret (results_request (p := 2) (r := 3) rfl _ _ w.heap.size _ rfl rfl (setRow_heap w1 w.heap.size _ _ _ _ RW1.out) rfl) rfl F.out
      · have EA := fun cap => equal_any w1 b off n cap l b' off' _ cap' _ HN.out rfl A1.out A' HB.out hyb false (decide_eq_false fun h => he h.symm)
        have F : Hid (TakePost w l (.returned (.tuple #[.agg #[.int .i64 0, .int .i64 0, .int .i64 0, .int .i64 0, .int .i64 0, .int .u8 0, .int .u8 0, .int .u8 0, .int .u8 0, .int .i64 0], .int .i64 2])) (w1.setRow w.heap.size #[.int .i64 0, .int .i64 0, .int .i64 0, .int .i64 0, .int .i64 0, .int .u8 0, .int .u8 0, .int .u8 0, .int .u8 0, .int .i64 0])) := Lib.hid (E.out false _ (decide_eq_false fun h => he h.2) (below_setRow B1.out (Nat.le_refl _) #[.int .i64 0, .int .i64 0, .int .i64 0, .int .i64 0, .int .i64 0, .int .u8 0, .int .u8 0, .int .u8 0, .int .u8 0, .int .i64 0]))
        clear hyb o1 A' A1 HA HB hm he B1 E GV QE
        generalize (qb ⟨I, b4, b5, b6, b7, (u0, u1, u2, u3), b8⟩).length = n' at *
        go_wp2_with fail
        refine (EA _).mono ?_
        rintro e w2 ⟨rfl, rfl⟩
        go_wp2_with ((with_reducible refine wpList_store_row (o := ⟨none, _, _, _, _, _⟩) rfl 25 _ _ rfl w.heap.size #[.int .i64 0, .int .i64 0, .int .i64 0, .int .i64 0, .int .i64 0, .int .u8 0, .int .u8 0, .int .u8 0, .int .u8 0, .int .i64 0] rfl rfl _ _ RW1.out (by kernel_rfl) rfl (by simp [Value.oneCell']) ?_))
        exact bodyPost_ret (results_request (p := 2) (r := 3) rfl _ _ w.heap.size _ rfl rfl (setRow_heap w1 w.heap.size _ _ _ _ RW1.out) rfl) rfl F.out
    · rw [if_neg hm]
      have F : Hid (TakePost w l (.returned (.tuple #[.agg #[.int .i64 0, .int .i64 0, .int .i64 0, .int .i64 0, .int .i64 0, .int .u8 0, .int .u8 0, .int .u8 0, .int .u8 0, .int .i64 0], .int .i64 2])) (w1.setRow w.heap.size #[.int .i64 0, .int .i64 0, .int .i64 0, .int .i64 0, .int .i64 0, .int .u8 0, .int .u8 0, .int .u8 0, .int .u8 0, .int .i64 0])) := Lib.hid (E.out false _ (decide_eq_false fun h => hm h.1) (below_setRow B1.out (Nat.le_refl _) #[.int .i64 0, .int .i64 0, .int .i64 0, .int .i64 0, .int .i64 0, .int .u8 0, .int .u8 0, .int .u8 0, .int .u8 0, .int .i64 0]))
      clear o1 A1 HA HB hm B1 E GV QE
      go_wp2_with ((with_reducible refine wpList_store_row (o := ⟨none, _, _, _, _, _⟩) rfl 25 _ _ rfl w.heap.size #[.int .i64 0, .int .i64 0, .int .i64 0, .int .i64 0, .int .i64 0, .int .u8 0, .int .u8 0, .int .u8 0, .int .u8 0, .int .i64 0] rfl rfl _ _ RW1.out (by kernel_rfl) rfl (by simp [Value.oneCell']) ?_))
      exact bodyPost_ret (results_request (p := 2) (r := 3) rfl _ _ w.heap.size _ rfl rfl (setRow_heap w1 w.heap.size _ _ _ _ RW1.out) rfl) rfl F.out

theorem take_any (w : World) (v : Value) (l : List Int) (hb : ∀ x ∈ l, 0 ≤ x ∧ x < 256) (R : Rd KU w v l) : Calls Try.prog 8 #[v] w (TakePost w l) := by
  obtain ⟨a, cap, rfl, h1, _, h2⟩ := R
  by_cases h : l.length < 9
  · exact take_short w a cap l h
  · obtain ⟨b, off, rfl, hA⟩ := h2 (by omega)
    exact take_long w b off cap l (by omega) h1.1 hb hA

end Go.Proofs.Yticdgjohladdlaa.Rq
