/- At most twelve tables of at most seventy entries; the fixed fact of layer 12. -/
import Derived.Test.YtnigbihofebfhaaCkCode
namespace Go.Proofs.Ytnigbihofebfhaa.Ck
open Go.RowKit
open Go.Proofs.Ytnigbihofebfhaa.Ro (E5 z5 eat ent K5 at5 eat_mem eq_ent)
open Go.Proofs.Ytnigbihofebfhaa.Rw (Rd Ow At)
open Go.Proofs.Ytnigbihofebfhaa.Fl (ret_bool at_bool row_cell row_frozen)

theorem rd_cut {w : World} {v : Value} {l : List E5} {a : Option Addr} {n cap k : Nat} (R : Rd K5 w v l) (e : v = .slice a n cap) (hk : k ≤ l.length) (h0 : 0 < k) : Rd K5 w (.slice a k cap) (l.take k) := by
  obtain ⟨a', cap', e', ⟨h1, h2⟩, h3, h4⟩ := R
  rw [e] at e'
  injection e' with e1 e2 e3
  subst e1 e3
  have hl : (l.take k).length = k := by rw [List.length_take]; omega
  refine ⟨a, cap, by rw [hl], ⟨by rw [hl]; omega, h2⟩, h3, fun _ => ?_⟩
  obtain ⟨b, off, rfl, hA⟩ := h4 (by omega)
  refine ⟨b, off, rfl, fun i hi j u hu => ?_⟩
  rw [hl] at hi
  refine hA i (by omega) j u ?_
  rw [← hu, List.getD, List.getD, List.getElem?_take, if_pos hi]
theorem addr_zero (a : Addr) : a.add 0 = a := by cases a; simp [Addr.add]
theorem infoS : (Try.prog.info? 35).map (fun i => (i.zero, i.size, i.bytes)) = some (some (.slice none 0 0), 1, 24) := by kernel_rfl
/-- What holds at the head of the loop. -/
structure FRel (w : World) (L : LL) (k : Nat) (v : Value) (hs : List Hd) (wr : World) : Prop where
  len : hs.length = k
  own : Ow KS wr w.heap.size 35 v hs
  each : ∀ i, i < k → Rd K5 w (sl (hs.getD i zh)) ((lat L i).take 70)
  bel : Below w.heap.size w wr
def FewPost (w : World) (L : LL) (e : Ending) (w' : World) : Prop := ∃ u, e = .returned u ∧ RdL w' u (fewL L) ∧ Below w.heap.size w w'
theorem FRel.push {w : World} {L : LL} {k : Nat} {v v' : Value} {hs : List Hd} {wr wr' : World} (h : FRel w L k v hs wr) (c : Hd) (o : Ow KS wr' w.heap.size 35 v' (hs ++ [c])) (hc : Rd K5 w (sl c) ((lat L k).take 70)) (b : Below w.heap.size w wr') : FRel w L (k + 1) v' (hs ++ [c]) wr' := by
  refine ⟨by rw [List.length_append, h.len]; rfl, o, fun i hi => ?_, b⟩
  by_cases e : i = k
  · subst e
    rw [show (hs ++ [c]).getD i zh = c by rw [List.getD, List.getElem?_append_right (by rw [h.len]; omega), h.len, Nat.sub_self]; rfl]
    exact hc
  · rw [show (hs ++ [c]).getD i zh = hs.getD i zh by rw [List.getD, List.getD, List.getElem?_append_left (by rw [h.len]; omega)]]
    exact h.each i (by omega)
theorem FRel.fin {w : World} {L : LL} {k : Nat} {v : Value} {hs : List Hd} {wr : World} (h : FRel w L k v hs wr) (hk : k = min 12 L.length) : FewPost w L (.returned v) wr := by
  have hl : (fewL L).length = k := by simp [fewL, List.length_take, hk]
  refine ⟨v, rfl, rdl_of h.own.rd (by rw [h.len, hl]) (fun i hi => ?_), h.bel⟩
  rw [hl] at hi
  rw [few_lat (by omega)]
  exact (h.each i hi).below h.bel

set_option maxHeartbeats 1000000 in
theorem few_any (w : World) (v : Value) (L : LL) (R : RdL w v L) : Calls Try.prog 6 #[v] w (FewPost w L) := by
  obtain ⟨a, cap, rfl, _, hm, hA⟩ := R
  have HA := Lib.hid hA
  have FIN : Hid (∀ k v hs wr, FRel w L k v hs wr → k = min 12 L.length → FewPost w L (.returned v) wr) := fun k v hs wr h e => h.fin e
  clear hA
  unfold maxLen at hm
  generalize hn : L.length = n at *
  have HN := Lib.hid hn
  clear hn
  have F0 : Hid (FRel w L 0 (.slice (some ⟨w.heap.size, 0, none⟩) 0 0) [] (w.alloc (.cells #[] 35))) := ⟨rfl, Ow.made _ _ _ (Nat.le_refl _), fun i hi => by omega, (Below.refl _ _).alloc (Nat.le_refl _) _⟩
  go_enter Try.func6, Try.ntmps6
  go_wp2
  go_loopw [3, 4] (fun v i wr => ∃ k hs, k ≤ n ∧ k ≤ 12 ∧ i = .int .i64 (k : Nat) ∧ Hid (FRel w L k v hs wr)) (fun _ i _ => n - (intOf i).toNat)
  case atStart => exact ⟨0, [], Nat.zero_le _, by omega, rfl, F0⟩
  case round =>
    obtain ⟨k, hs, hk, hk2, rfl, F⟩ := hrel
    have hB := F.out.bel.size
    by_cases hlt : k < n
    · by_cases h12 : k < 12
      · obtain ⟨b, off, rfl, A⟩ := HA.out (by omega)
        obtain ⟨u, c, ru⟩ := A k hlt
        have c' : wr.cell? ⟨b, off + k, none⟩ = _ := (F.out.bel.cell (World.block_lt_of_cell? _ _ c)).trans c
        have AA := Lib.hid A
        have RU := Lib.hid ru
        clear c A
        obtain ⟨a', cap', rfl, ⟨g1, _⟩, g2, g3⟩ := ru
        unfold maxLen at g2
        have lo := F.out.len
        by_cases h70 : 70 < (lat L k).length
        · obtain ⟨b', off', rfl, _⟩ := g3 (by omega)
          have RC := Lib.hid (rd_cut RU.out rfl (k := 70) (by omega) (by omega))
          clear RU g3
          generalize hl : (lat L k).length = m at *
          clear hl
          have hh : (70 : Int) < m := by omega
          go_wp2_with (at_builtin; refine Rw.push_step (K := KS) Try.underlying22 infoS rfl (by omega) rfl _ _ rfl w.heap.size _ _ rfl (F.out.own.alloc _) _ ((some ⟨b', off', none⟩, 70, cap') : Hd) rfl ?c1 ?c2 ?c3 ?_)
          case c1 =>
            intro j u hu
            match j, hu with
            | 0, hu => simp [KS, sl] at hu; subst hu; rw [addr_zero]; go_simp
            | j + 1, hu => simp [KS] at hu
          case c2 => omega
          case c3 => first | omega | (simp; omega)
          intro v' w2 o2 b2
          have F2 := Lib.hid (F.out.push _ o2 RC.out ((F.out.bel.alloc hB _).trans b2))
          clear o2 b2
          go_wp2
          go_roundw
          case rel => exact ⟨k + 1, _, by omega, by omega, by go_num, F2⟩
          case measure => simp [intOf]; omega
        · have RC' : Hid (Rd K5 w (.slice a' (lat L k).length cap') ((lat L k).take 70)) := by rw [List.take_of_length_le (by omega)]; exact RU.out
          clear RU g3
          generalize hl : (lat L k).length = m at *
          clear hl
          have hh : ¬ (70 : Int) < m := by omega
          go_wp2_with (at_builtin; refine Rw.push_step (K := KS) Try.underlying22 infoS rfl (by omega) rfl _ _ rfl w.heap.size _ _ rfl (F.out.own.alloc _) _ ((a', m, cap') : Hd) rfl ?c1 ?c2 ?c3 ?_)
          case c1 =>
            intro j u hu
            exact hu
          case c2 => omega
          case c3 => first | omega | (simp; omega)
          intro v' w2 o2 b2
          have F2 := Lib.hid (F.out.push _ o2 RC'.out ((F.out.bel.alloc hB _).trans b2))
          clear o2 b2
          go_wp2
          go_roundw
          case rel => exact ⟨k + 1, _, by omega, by omega, by go_num, F2⟩
          case measure => simp [intOf]; omega
      · have E := Lib.hid (FIN.out k _ _ _ F.out (by omega))
        go_wp2
        go_ret
        exact E.out
    · have E := Lib.hid (FIN.out k _ _ _ F.out (by omega))
      go_wp2
      go_ret
      exact E.out

/-! ### the fixed fact -/
theorem rd_row {w : World} {g : Nat} {x : E5} (h : RowE w g x) : Rd K5 w (.slice (some ⟨g, 0, none⟩) 1 1) [x] := by
  refine ⟨_, 1, rfl, ⟨Nat.le_refl _, nofun⟩, by unfold maxLen; omega, fun _ => ⟨g, 0, rfl, fun i hi j u hu => ?_⟩⟩
  obtain rfl : i = 0 := by simpa using hi
  rw [Nat.zero_mul, Nat.zero_add]
  have c := cell_of_row w g j _ _ (0, 0) h
  rw [c]
  rw [← hu, show row5 x = (K5.enc x).toArray from rfl, List.getElem?_toArray]
  rfl
theorem rd_none (w : World) (a : Addr) : Rd K5 w (.slice (some a) 0 0) [] := ⟨_, 0, rfl, ⟨Nat.le_refl _, nofun⟩, by unfold maxLen; omega, fun h => by cases h⟩
theorem rdl_two {w : World} {g : Nat} {u v : Value} {l m : List E5} (h : w.heap[g]? = some (.cells #[u, v] 35 (0, 0))) (hu : Rd K5 w u l) (hv : Rd K5 w v m) : RdL w (.slice (some ⟨g, 0, none⟩) 2 2) [l, m] := by
  refine ⟨_, 2, rfl, ⟨Nat.le_refl _, nofun⟩, by unfold maxLen; omega, fun _ => ⟨g, 0, rfl, fun i hi => ?_⟩⟩
  rw [Nat.zero_add]
  match i, hi with
  | 0, _ => exact ⟨u, row_cell h 0, hu⟩
  | 1, _ => exact ⟨v, row_cell h 1, hv⟩
theorem lit_two (W : World) (x y : E5) : RdL (((W.alloc (.cells (row5 x) 30)).alloc (.cells (row5 y) 30)).alloc (.cells #[.slice (some ⟨W.heap.size, 0, none⟩) 1 1, .slice (some ⟨W.heap.size + 1, 0, none⟩) 1 1] 35)) (.slice (some ⟨W.heap.size + 1 + 1, 0, none⟩) 2 2) [[x], [y]] := by
  have r1 : RowE (W.alloc (.cells (row5 x) 30)) W.heap.size x := heap_alloc_new W _
  have r2 : RowE ((W.alloc (.cells (row5 x) 30)).alloc (.cells (row5 y) 30)) (W.heap.size + 1) y := by
    have := heap_alloc_new (W.alloc (.cells (row5 x) 30)) (.cells (row5 y) 30)
    rw [show (W.alloc (.cells (row5 x) 30)).heap.size = W.heap.size + 1 by simp] at this
    exact this
  generalize hV : W.alloc (.cells (row5 x) 30) = V at *
  have sV : V.heap.size = W.heap.size + 1 := by rw [← hV]; simp
  have b2 := (Below.refl V.heap.size V).alloc (Nat.le_refl _) (.cells (row5 y) 30)
  have r1' := r1.below b2 (by omega)
  generalize hU : V.alloc (.cells (row5 y) 30) = U at *
  have sU : U.heap.size = W.heap.size + 1 + 1 := by rw [← hU]; simp; omega
  have b3 := (Below.refl U.heap.size U).alloc (Nat.le_refl _) (.cells #[.slice (some ⟨W.heap.size, 0, none⟩) 1 1, .slice (some ⟨W.heap.size + 1, 0, none⟩) 1 1] 35)
  have h3 := heap_alloc_new U (.cells #[.slice (some ⟨W.heap.size, 0, none⟩) 1 1, .slice (some ⟨W.heap.size + 1, 0, none⟩) 1 1] 35)
  rw [sU] at h3
  exact rdl_two h3 (rd_row (r1'.below b3 (by omega))) (rd_row (r2.below b3 (by omega)))
theorem lit_one (W : World) (x : E5) : RdL (((W.alloc (.cells (row5 x) 30)).alloc (.cells #[] 30)).alloc (.cells #[.slice (some ⟨W.heap.size, 0, none⟩) 1 1, .slice (some ⟨W.heap.size + 1, 0, none⟩) 0 0] 35)) (.slice (some ⟨W.heap.size + 1 + 1, 0, none⟩) 2 2) [[x], []] := by
  have r1 : RowE (W.alloc (.cells (row5 x) 30)) W.heap.size x := heap_alloc_new W _
  generalize hV : W.alloc (.cells (row5 x) 30) = V at *
  have sV : V.heap.size = W.heap.size + 1 := by rw [← hV]; simp
  have b2 := (Below.refl V.heap.size V).alloc (Nat.le_refl _) (.cells #[] 30)
  have r1' := r1.below b2 (by omega)
  generalize hU : V.alloc (.cells #[] 30) = U at *
  have sU : U.heap.size = W.heap.size + 1 + 1 := by rw [← hU]; simp; omega
  have b3 := (Below.refl U.heap.size U).alloc (Nat.le_refl _) (.cells #[.slice (some ⟨W.heap.size, 0, none⟩) 1 1, .slice (some ⟨W.heap.size + 1, 0, none⟩) 0 0] 35)
  have h3 := heap_alloc_new U (.cells #[.slice (some ⟨W.heap.size, 0, none⟩) 1 1, .slice (some ⟨W.heap.size + 1, 0, none⟩) 0 0] 35)
  rw [sU] at h3
  exact rdl_two h3 (rd_row (r1'.below b3 (by omega))) (rd_none _ _)
def xa : E5 := (1, 1, 0, 1, 0)
def xb : E5 := (2, 1, 0, 1, 0)
theorem t_ab : tN [[xa], [xb]] = -1 ∧ tE [[xa], [xb]] = 0 := by decide +kernel
theorem t_aa : tN [[xa], [xa]] = 1 ∧ tE [[xa], [xa]] = 8 := by decide +kernel
theorem t_b : tN [[xb], []] = 0 ∧ tE [[xb], []] = 9 := by decide +kernel
theorem s_ba : sN 1 [[xb], [xa]] = 1 ∧ sE 1 [[xb], [xa]] = xa := by decide +kernel

end Go.Proofs.Ytnigbihofebfhaa.Ck
