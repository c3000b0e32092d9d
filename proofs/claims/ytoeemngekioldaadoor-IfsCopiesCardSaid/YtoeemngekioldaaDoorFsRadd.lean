/- The document's own store: Add. -/
import Derived.Test.YtoeemngekioldaaDoorFsRset
import Derived.Test.YtoeemngekioldaaDoorFsAdd
import Derived.Test.YtoeemngekioldaaDoorSz
namespace Go.Proofs.YtoeemngekioldaaDoor.Fs
open Go.RowKit Go.Maps
open Go.Proofs.YtoeemngekioldaaDoor.Fl (R4 z4 K4 rec4 rat goodF goodFB okR okL file arr4 row_cell row_frozen rgood_any)
open Go.Proofs.YtoeemngekioldaaDoor.Rw (Rd Ow At)
set_option maxRecDepth 100000
attribute [local irreducible] Sd.wpSd wpQuiet Sf.wpSf Sz.wpSz

/-- 'append(list, other...)', where it is carried out alone. -/
theorem wp_all {α : Type} {Kd : Rw.Kind α} {P : Program} {K : Act → World → Prop} {w : World} {E : TypeId} {o : Oper} {a : Act} {Q : Exit → Act → World → Prop} {T : TypeId} {z : Value} {bytes : Nat} (ht : P.underlying T = some (.slice E))
    (hi : (P.info? E).map (fun i => (i.zero, i.size, i.bytes)) = some (some z, Kd.n, bytes)) (hz : z.cells.size = Kd.n) (hby : bytes ≤ 64) (s x : Operand)
    (ho : o.op = .call { callee := .builtin .append, args := #[s, x], argTypes := #[T, T] }) (B : Nat) (v : Value) (l : List α) (hs : a.eval s = v) (hown : Ow Kd w B E v l)
    (u : Value) (y : List α) (hx : a.eval x = u) (hu : Rd Kd w u y) (hlen : l.length + y.length < 2199023255552) (hB : B ≤ w.heap.size)
    (h : ∀ v' w', Ow Kd w' B E v' (l ++ y) → Below B w w' → K (a.put o.dst v') w') : o.wp P a w K Q := by
  obtain ⟨i0, hi0, hz0, hz1, hz2⟩ := info_parts hi
  obtain ⟨ad, cap, rfl, h1, h2, h3⟩ := hu
  have hb : (l.length + y.length) * bytes ≤ 140737488355328 := Nat.le_trans (Nat.mul_le_mul (show l.length + y.length ≤ 2199023255552 by omega) hby) (by omega)
  by_cases h0 : 0 < y.length
  · obtain ⟨b, off, rfl, hA⟩ := h3 h0
    refine wp_append_own _ s x T ho B E i0 z Kd.n bytes ht hi0 hz0 hz1 hz2 hz Kd.pos v l.length (Kd.flat l) hs hown ⟨b, off, none⟩ y.length cap (Kd.flat y) hx (Rw.flat_length Kd y) ?_ (Rw.flat_one Kd y) (by unfold maxLen; omega) hb hB ?_
    · intro j u hj
      have e : (⟨b, off, none⟩ : Addr).add j = ⟨b, off + j, none⟩ := by simp [Addr.add]
      rw [e]
      exact hA.flat j u hj
    · intro v' w' g2 g3 _
      refine h v' w' ?_ ((Below.refl B w).grown g3 hB fun k hk => (World.ownsRow.lt hown k hk).1)
      show w'.ownsRow B E Kd.n v' (l ++ y).length (Kd.flat (l ++ y))
      rw [Rw.flat_append, List.length_append]
      exact g2
  · have ey : y = [] := List.length_eq_zero_iff.1 (by omega)
    subst ey
    cases ad with
    | none =>
      obtain rfl := h1.2 rfl
      have hrun := run_append_owned_none (P := P) (w := w) B T o.type E i0 Kd.n ht hi0 v l.length (Kd.flat l) hown
      unfold Oper.wp
      have hk := h v w (by rw [List.append_nil]; exact hown) (Below.refl _ _)
      have hx' : a.eval x = .slice none 0 0 := hx
      simp [execOp, ho, resolve, invoke, builtin, hs, hx', hrun, Result.andThen]
      exact hk
    | some ad =>
      refine wp_append_own _ s x T ho B E i0 z Kd.n bytes ht hi0 hz0 hz1 hz2 hz Kd.pos v l.length (Kd.flat l) hs hown ad 0 cap [] hx (by simp) (by simp) (by simp) (by unfold maxLen; simp at hlen; omega) (by simpa using hb) hB ?_
      intro v' w' g2 g3 _
      refine h v' w' ?_ ((Below.refl B w).grown g3 hB fun k hk => (World.ownsRow.lt hown k hk).1)
      show w'.ownsRow B E Kd.n v' (l ++ []).length (Kd.flat (l ++ []))
      rw [List.append_nil]
      simpa using g2
/-- 'list[k:]'. -/
theorem run_tail {w : World} {v : Value} {L : List Ent} (R : Rd E3 w v L) (k : Nat) (hk : k ≤ L.length) : ∃ ua uc, (∀ W, (Instr.sliceAt 26 v (some (.int .i64 (k : Int))) none none).run Tryd.prog W = .ok (.slice ua (L.length - k) uc) W) ∧ Rd E3 w (.slice ua (L.length - k) uc) (L.drop k) := by
  obtain ⟨a, cap, rfl, ⟨h1, h2⟩, h3, h4⟩ := R
  have hl : (L.drop k).length = L.length - k := List.length_drop
  cases a with
  | none =>
    obtain rfl := h2 rfl
    have hL : L.length = 0 := by omega
    obtain rfl : k = 0 := by omega
    refine ⟨none, 0, fun W => ?_, none, 0, by rw [hl], ⟨by rw [hl]; omega, fun _ => rfl⟩, by unfold maxLen; omega, fun h => by rw [hl] at h; omega⟩
    rw [hL]
    go_simp
  | some a =>
    by_cases hc : cap = k
    · refine ⟨some a, 0, fun W => ?_, some a, 0, by rw [hl], ⟨by rw [hl]; omega, nofun⟩, by unfold maxLen; omega, fun h => by rw [hl] at h; omega⟩
      subst hc
      have : L.length - cap = 0 := by omega
      obtain ⟨b, off, sp⟩ := a
      go_simp
    · by_cases h0 : 0 < L.length
      · obtain ⟨b, off, e, hA⟩ := h4 h0
        obtain rfl : a = ⟨b, off, none⟩ := by injection e
        refine ⟨some ⟨b, off + k * 3, none⟩, cap - k, fun W => ?_, some ⟨b, off + k * 3, none⟩, cap - k, by rw [hl], ⟨by rw [hl]; omega, nofun⟩, by omega, fun h => ⟨b, off + k * 3, rfl, fun i hi j u hu => ?_⟩⟩
        · go_simp
        · rw [hl] at hi
          have hu' : (E3.enc (L.getD (k + i) E3.dft))[j]? = some u := by rw [← hu, List.getD_eq_getElem?_getD, List.getD_eq_getElem?_getD, List.getElem?_drop]
          have c := hA (k + i) (by omega) j u hu'
          have e : off + (k + i) * E3.n + j = off + k * 3 + i * E3.n + j := by show off + (k + i) * 3 + j = off + k * 3 + i * 3 + j; omega
          rw [e] at c
          exact c
      · obtain rfl : k = 0 := by omega
        have hL : L.length = 0 := by omega
        obtain ⟨b, off, sp⟩ := a
        refine ⟨some (Addr.add ⟨b, off, sp⟩ (0 * 3)), cap, fun W => ?_, some (Addr.add ⟨b, off, sp⟩ (0 * 3)), cap, by rw [hl], ⟨by rw [hl]; omega, nofun⟩, h3, fun h => by rw [hl] at h; omega⟩
        go_simp

def RAPost (w : World) (r : Nat) (F : Nat → Prop) (d z : Int) (A' : Abs) (e : Ending) (w' : World) : Prop := e = .returned (.int .i64 z) ∧ Rs w' r F A' d ∧ Only (fun k => k = r) w w'
theorem radd_1 (w : World) (r : Nat) (n p : Int) (a : Option Addr) (q cap : Nat) (hn : ¬ (0 ≤ n ∧ n ≤ 63)) : Calls Tryd.prog 9 #[.pointer (some ⟨r, 0, none⟩), .int .i64 n, .agg #[.int .i64 p, .slice a q cap]] w fun e w' => e = .returned (.int .i64 1) ∧ Below w.heap.size w w' := by
  by_cases h : n < 0
  · go_enter Tryd.func9, Tryd.ntmps9
    go_wp2
    go_ret
    exact ⟨rfl, (Below.refl w.heap.size w).alloc (Nat.le_refl _) _⟩
  · have h2 : 63 < n := by omega
    go_enter Tryd.func9, Tryd.ntmps9
    go_wp2
    go_ret
    exact ⟨rfl, (Below.refl w.heap.size w).alloc (Nat.le_refl _) _⟩
theorem radd_2 (w : World) (r : Nat) (n p : Int) (a : Option Addr) (q cap : Nat) (l : List R4) (R : Rd K4 w (.slice a q cap) l) (hn : 0 ≤ n ∧ n ≤ 63) (hg : ¬ goodF p l) : Calls Tryd.prog 9 #[.pointer (some ⟨r, 0, none⟩), .int .i64 n, .agg #[.int .i64 p, .slice a q cap]] w fun e w' => e = .returned (.int .i64 2) ∧ Below w.heap.size w w' := by
  obtain ⟨h1, hB, hz⟩ := box_file w p (.slice a q cap)
  have HB := Lib.hid hB
  have GA := rgood_any _ p (.slice a q cap) l (R.below hB)
  rw [show goodFB p l = false from decide_eq_false hg] at GA
  have HG := Lib.hid GA
  have n1 : 0 ≤ n := hn.1
  have n2 : n ≤ 63 := hn.2
  clear h1 hB hz R GA hg hn
  unfold file at HG
  go_enter Tryd.func9, Tryd.ntmps9
  go_wp2_with fail
  refine HG.out.mono ?_
  rintro e w1 ⟨rfl, b1⟩
  have B1 := Lib.hid (HB.out.trans (b1.mono HB.out.size))
  clear b1 HG HB
  go_wp2
  go_ret
  exact ⟨rfl, B1.out⟩
theorem radd_10 {w : World} {r : Nat} {F : Nat → Prop} {v : Value} {L : List Ent} {d : Int} (RS : Rst w r F v L d) (n p : Int) (a : Option Addr) (q cap : Nat) (l : List R4) (R : Rd K4 w (.slice a q cap) l) (hn : 0 ≤ n ∧ n ≤ 63) (hg : goodF p l) {i : Nat} (hq : Ix L n i) : Calls Tryd.prog 9 #[.pointer (some ⟨r, 0, none⟩), .int .i64 n, .agg #[.int .i64 p, .slice a q cap]] w fun e w' => e = .returned (.int .i64 10) ∧ Below w.heap.size w w' := by
  obtain ⟨h1, hB, hz⟩ := box_file w p (.slice a q cap)
  have HB := Lib.hid hB
  have GA := rgood_any _ p (.slice a q cap) l (R.below hB)
  rw [show goodFB p l = true from decide_eq_true hg] at GA
  have HG := Lib.hid GA
  have IX := Lib.hid (fun W (hb : Below w.heap.size w W) => rix_any (RS.below hb) hq)
  have n1 : 0 ≤ n := hn.1
  have n2 : n ≤ 63 := hn.2
  have hi0 : ¬ ((i : Int) < 0) := by omega
  clear h1 hB hz R GA hg hn RS hq
  unfold file at HG
  go_enter Tryd.func9, Tryd.ntmps9
  go_wp2_with fail
  refine HG.out.mono ?_
  rintro e w1 ⟨rfl, b1⟩
  have B1 := Lib.hid (HB.out.trans (b1.mono HB.out.size))
  clear b1 HG HB
  go_wp2_with fail
  refine (IX.out _ B1.out).mono ?_
  rintro e w2 ⟨rfl, b2⟩
  have B2 := Lib.hid (B1.out.trans (b2.mono B1.out.size))
  clear b2 B1 IX
  go_wp2
  go_ret
  exact ⟨rfl, B2.out⟩
/-- What is laid of the list's first k files. -/
def ARel (w : World) (L : List Ent) (n : Int) (v : Value) (k : Nat) (wr : World) : Prop := Ow E3 wr w.heap.size 56 v (L.take k) ∧ (∀ x ∈ L.take k, x.n < n) ∧ Below w.heap.size w wr
structure AC (r : Nat) (v : Value) (d : Int) (g : Nat) (p : Int) (u : Value) (W : World) : Prop where
  row : W.heap[r]? = some (.cells #[v, .int .i64 d] 28 (0, 0))
  box : W.heap[g]? = some (.cells #[.int .i64 p, u] 35 (0, 0))
set_option maxHeartbeats 4000000 in
theorem radd_0 {w : World} {r : Nat} {F : Nat → Prop} {v : Value} {L : List Ent} {d : Int} (RS : Rst w r F v L d) (hF : ∀ k, F k → k < w.heap.size) (n p : Int) (a : Option Addr) (q cap : Nat) (l : List R4) (R : Rd K4 w (.slice a q cap) l) (ho : 0 < l.length → ∀ k, (Value.slice a q cap).ownBlock = some k → ¬ (F k ∨ k = r)) (hn : 0 ≤ n ∧ n ≤ 63) (hg : goodF p l) (hl : okL l) (hc : look Ent.n n L = none) :
    Calls Tryd.prog 9 #[.pointer (some ⟨r, 0, none⟩), .int .i64 n, .agg #[.int .i64 p, .slice a q cap]] w (RAPost w r F d 0 (put key (n, p, l) (L.map Ent.abs))) := by
  have hql : q = l.length := by
    obtain ⟨_, _, e, _⟩ := R
    injection e
  subst hql
  obtain ⟨h1, hB, hz⟩ := box_file w p (.slice a l.length cap)
  have HB := Lib.hid hB
  have H1 := Lib.hid h1
  have GA := rgood_any _ p (.slice a l.length cap) l (R.below hB)
  rw [show goodFB p l = true from decide_eq_true hg] at GA
  have HG := Lib.hid GA
  have IX := Lib.hid (fun W (hb : Below w.heap.size w W) => rix_any (RS.below hb) (ix_none hc))
  have RR := Lib.hid RS
  have hrl : r < w.heap.size := lt_of_block RS.row
  have hlen := RS.len
  have HS := Lib.hid (srtL RS.ok)
  have HC := Lib.hid (look_none.1 hc)
  have n1 : 0 ≤ n := hn.1
  have n2 : n ≤ 63 := hn.2
  have FIN : Hid (∀ (k : Nat) (v' : Value) (W : World), (∀ x ∈ L.take k, x.n < n) → (∀ x, L[k]? = some x → n < x.n) → Only (fun k => k = r) w W → W.heap[r]? = some (.cells #[v', .int .i64 d] 28 (0, 0)) → Ow E3 W w.heap.size 56 v' (L.take k ++ [(⟨n, p, a, cap, l⟩ : Ent)] ++ L.drop k) → RAPost w r F d 0 (put key (n, p, l) (L.map Ent.abs)) (.returned (.int .i64 0)) W) := fun k v' W P1 P2 O row own => by
    have e : put Ent.n (⟨n, p, a, cap, l⟩ : Ent) L = L.take k ++ [(⟨n, p, a, cap, l⟩ : Ent)] ++ L.drop k := by
      rw [put_new hc, ins_at (k := k) P1 P2]
      simp
    have e2 : (L.take k ++ [(⟨n, p, a, cap, l⟩ : Ent)] ++ L.drop k).map Ent.abs = put key (n, p, l) (L.map Ent.abs) := by rw [← e, abs_put]; rfl
    refine ⟨rfl, ⟨v', _, RS.next hF O row own (fun c hc' => ?_) (by rw [e2]; exact RS.ok.put hn hg hl), e2⟩, O⟩
    rw [← e] at hc'
    rcases mem_put.1 hc' with rfl | ⟨h, _⟩
    · exact .inr ⟨rd_only (G := fun k => k = r) R (fun h0 k hk e => ho h0 k hk (.inr e)) O, ho⟩
    · exact .inl h
  have RV := Lib.hid R
  obtain ⟨va, vcap, rfl, _⟩ := RS.list.rd.slice
  clear h1 hB hz R GA hg hn RS hc hF ho hl
  generalize hN : L.length = N at *
  have HN := Lib.hid hN
  generalize hQ : l.length = q at *
  have HQ := Lib.hid hQ
  clear hN hQ
  unfold file at HG
  have hBN := run_buildN
  go_enter Tryd.func9, Tryd.ntmps9
  go_wp2_with fail
  generalize (w.alloc (.cells #[.int .i64 p, .slice a q cap] 35)) = W0 at *
  refine HG.out.mono ?_
  rintro e w1 ⟨rfl, b1⟩
  have B1 := Lib.hid (HB.out.trans (b1.mono HB.out.size))
  have X1 := Lib.hid ((b1.block _ (lt_of_block H1.out)).trans H1.out)
  clear b1 HG HB H1
  go_wp2_with fail
  refine (IX.out _ B1.out).mono ?_
  rintro e w2 ⟨rfl, b2⟩
  have B2 := Lib.hid (B1.out.trans (b2.mono B1.out.size))
  have X2 := Lib.hid ((b2.block _ (lt_of_block X1.out)).trans X1.out)
  clear b2 B1 IX X1
  have OM := Lib.hid (Rw.Ow.made (K := E3) w2 w2.heap.size 56 (Nat.le_refl _))
  have B3 := Lib.hid ((Below.refl w2.heap.size w2).alloc (Nat.le_refl _) (.cells #[] 56))
  go_wp2
  generalize (w2.alloc (.cells #[] 56)) = W3 at *
  generalize (Value.slice (some ⟨w2.heap.size, 0, none⟩) 0 0) = v3 at *
  go_loopw [7, 8] (fun v i wr => ∃ k : Nat, k ≤ N ∧ i = .int .i64 k ∧ Hid (ARel w2 L n v k wr)) (fun _ i _ => N - (intOf i).toNat)
  case atStart => exact ⟨0, Nat.zero_le _, rfl, OM.out, by simp, B3.out⟩
  case round =>
    obtain ⟨k, hk, rfl, R⟩ := hrel
    obtain ⟨oW, P1', bW⟩ := R.out
    obtain ⟨va', vc', ev, _⟩ := oW.slice
    have htk : (L.take k).length = k := by rw [List.length_take]; have := HN.out; omega
    rw [htk] at ev
    subst ev
    have OW := Lib.hid oW
    have P1 := Lib.hid P1'
    have B := Lib.hid bW
    have R4' := RR.out.below (B2.out.trans (bW.mono B2.out.size))
    have c0 : wr.cell? ⟨r, 0, none⟩ = some (.slice va N vcap) := row_cell R4'.row 0
    have RL := Lib.hid R4'.list.rd
    have HX2 : Hid (w.heap.size < w2.heap.size) := lt_of_block X2.out
    clear R oW P1' bW R4' htk
    by_cases hlt : k < N
    · have hkL : k < L.length := by have := HN.out; omega
      obtain ⟨⟨cn, cp, ca, cc, cl⟩, hc⟩ : ∃ c : Ent, L[k]? = some c := ⟨_, List.getElem?_eq_getElem hkL⟩
      obtain ⟨b, off, eb, hA⟩ : ∃ b off, va = some ⟨b, off, none⟩ ∧ At E3 wr b off L := by
        obtain ⟨a', c', e, _, _, h⟩ := RL.out
        obtain ⟨b, off, e2, hA⟩ := h (by omega)
        injection e with e1
        exact ⟨b, off, e1.trans e2, hA⟩
      subst eb
      obtain ⟨x0, x1, x2⟩ := at3 hA hc
      unfold Ent.sl at x2
      simp only at x0 x1 x2
      have hcn : cn ≠ n := HC.out _ (List.mem_of_getElem? hc)
      by_cases hcl : cn < n
      · have TK : Hid (L.take (k + 1) = L.take k ++ [(⟨cn, cp, ca, cc, cl⟩ : Ent)]) := by rw [List.take_add_one, hc]; rfl
        have P1n : Hid (∀ x ∈ L.take (k + 1), x.n < n) := fun x hx => by
          rw [TK.out] at hx
          rcases List.mem_append.1 hx with hx | hx
          · exact P1.out x hx
          · obtain rfl := List.mem_singleton.1 hx
            exact hcl
        clear hc hA hkL
        generalize hcq : cl.length = cq at *
        have HCQ := Lib.hid hcq
        clear hcq
        go_wp2_with (at_builtin; refine Rw.push_step (K := E3) Tryd.underlying26 infoE3 rfl (by omega) rfl _ _ rfl w2.heap.size _ (L.take k) rfl (OW.out.alloc _) _ (⟨cn, cp, ca, cc, cl⟩ : Ent) rfl ?d1 ?d2 ?d3 ?_)
        case d1 =>
          intro j u hu
          unfold E3 Ent.sl at hu
          simp only [HCQ.out] at hu
          match j, hu with
          | 0, hu => simp at hu; subst hu; go_simp
          | 1, hu => simp at hu; subst hu; go_simp
          | 2, hu => simp at hu; subst hu; go_simp
          | j + 3, hu => simp at hu
        case d2 => rw [List.length_take]; omega
        case d3 => have := B.out.size; simp; omega
        intro v' w4 o4 b4
        rw [← TK.out] at o4
        have N2 : Hid (ARel w2 L n v' (k + 1) w4) := ⟨o4, P1n.out, (B.out.alloc B.out.size _).trans b4⟩
        clear o4 b4
        go_wp2
        go_roundw
        case rel => exact ⟨k + 1, by omega, by go_num, N2⟩
        case measure => simp [intOf]; omega
      · have P2 : Hid (∀ x, L[k]? = some x → n < x.n) := fun x hx => by
          rw [hc] at hx
          obtain rfl := Option.some.inj hx
          show n < cn
          omega
        clear hc hA hkL hcn RL
        go_wp2_with fail
        clear x0 x1 x2
        clear c0
        have X4 := Lib.hid ((B.out.block _ (lt_of_block X2.out)).trans X2.out)
        have hw2 : Hid (w.heap.size ≤ w2.heap.size) := B2.out.size
        have BR := Lib.hid (B2.out.trans (B.out.mono B2.out.size))
        have Row4 := Lib.hid ((BR.out.block r hrl).trans RR.out.row)
        have C0 : AC r (.slice (some ⟨b, off, none⟩) N vcap) d w.heap.size p (.slice a q cap) wr.drew := ⟨Row4.out, X4.out⟩
        have c0 := Sc.cell_in (C := AC r (.slice (some ⟨b, off, none⟩) N vcap) d w.heap.size p (.slice a q cap)) (a := ⟨r, 0, none⟩) (fun W' h => row_cell h.row 0)
        have r0 := Sc.cell_in (C := AC r (.slice (some ⟨b, off, none⟩) N vcap) d w.heap.size p (.slice a q cap)) (a := ⟨w.heap.size, 0, none⟩) (fun W' h => row_cell h.box 0)
        have r1 := Sc.cell_in (C := AC r (.slice (some ⟨b, off, none⟩) N vcap) d w.heap.size p (.slice a q cap)) (a := ⟨w.heap.size, 1, none⟩) (fun W' h => row_cell h.box 1)
        have ne : Nonempty (Sc.In (AC r (.slice (some ⟨b, off, none⟩) N vcap) d w.heap.size p (.slice a q cap))) := ⟨⟨_, C0⟩⟩
        obtain ⟨ta, tc, htl, TR⟩ := run_tail RR.out.list.rd k (by have := HN.out; omega)
        have TRD := Lib.hid TR
        rw [HN.out] at htl TRD
        generalize N - k = mt at htl TRD
        have OWR : Hid (Ow E3 wr.drew w2.heap.size 56 (.slice va' k vc') (L.take k)) := OW.out
        have BRD : Hid (Below w2.heap.size w2 wr.drew) := B.out.drew
        clear TR OW B BR Row4 X4 X2
        refine Sz.start (AC r (.slice (some ⟨b, off, none⟩) N vcap) d w.heap.size p (.slice a q cap)) [(false, 0), (false, 1), (false, 2), (false, 3), (false, 4), (false, 7), (false, 8), (false, 9), (false, 10), (false, 11), (false, 12), (true, 5), (true, 6), (true, 13), (false, 14), (false, 15)] 16 (by kernel_rfl) (by kernel_rfl) (by kernel_rfl) rfl rfl C0 ?_
        dsimp only [Sd.picks, List.getElem?_cons_succ, List.getElem?_cons_zero]
        repeat (refine Sz.lit ?_; quiet_step (fail); refine wpQuiet_nil ?_)
        clear c0 r0 r1 htl
        have C1 := Lib.hid C0
        clear C0
        generalize wr.drew = w4 at *
        refine Sz.call (by rfl) (fun K hK => ?_)
        go_simp
        have ba := Below.heap_alloc w4 (.cells #[.int .i64 n, .int .i64 p, .slice a q cap] 56)
        have B5 := Lib.hid (BRD.out.alloc BRD.out.size (.cells #[.int .i64 n, .int .i64 p, .slice a q cap] 56))
        have C5 : AC r (.slice (some ⟨b, off, none⟩) N vcap) d w.heap.size p (.slice a q cap) (w4.alloc (.cells #[.int .i64 n, .int .i64 p, .slice a q cap] 56)) := ⟨(ba r (lt_of_block C1.out.row)).trans C1.out.row, (ba _ (lt_of_block C1.out.box)).trans C1.out.box⟩
        have O5 := Lib.hid (OWR.out.alloc (.cells #[.int .i64 n, .int .i64 p, .slice a q cap] 56))
        have R5 : Hid (Rd E3 (w4.alloc (.cells #[.int .i64 n, .int .i64 p, .slice a q cap] 56)) (.slice (some ⟨w4.heap.size, 0, none⟩) 1 1) [(⟨n, p, a, cap, l⟩ : Ent)]) := by
          have := (Rw.Ow.lit (K := E3) w4 0 56 [(⟨n, p, a, cap, l⟩ : Ent)] (Nat.zero_le _) (by unfold maxLen; simp)).rd
          have e : (E3.flat [(⟨n, p, a, cap, l⟩ : Ent)]).toArray = #[.int .i64 n, .int .i64 p, .slice a q cap] := by unfold Rw.Kind.flat E3 Ent.sl; rw [← HQ.out]; rfl
          rw [e] at this
          exact this
        refine hK _ _ (Sc.Cl.of C5) ?_
        clear hK K ba
        have hz5 : Hid (w2.heap.size ≤ (w4.alloc (.cells #[.int .i64 n, .int .i64 p, .slice a q cap] 56)).heap.size) := B5.out.size
        have C5' := Lib.hid C5
        clear C5 C1 OWR BRD
        generalize (w4.alloc (.cells #[.int .i64 n, .int .i64 p, .slice a q cap] 56)) = w5 at *
        refine Sz.call (by rfl) (fun K hK => ?_)
        refine wp_all (Kd := E3) Tryd.underlying26 infoE3 rfl (by omega) _ _ rfl w2.heap.size _ _ rfl O5.out _ _ rfl R5.out ?a1 hz5.out ?_
        case a1 => rw [List.length_take]; simp; omega
        intro v6 w6 o6 b6
        have hrw2 : r < w2.heap.size := by have := hw2.out; omega
        have hxw2 : w.heap.size < w2.heap.size := HX2.out
        have C6 : AC r (.slice (some ⟨b, off, none⟩) N vcap) d w.heap.size p (.slice a q cap) w6 := ⟨(b6.block r hrw2).trans C5'.out.row, (b6.block _ hxw2).trans C5'.out.box⟩
        have B6 := Lib.hid (B5.out.trans b6)
        have O6 := Lib.hid o6
        obtain ⟨v6a, v6c, e6, _⟩ := o6.slice
        refine hK _ _ (Sc.Cl.of C6) ?_
        clear hK K o6 b6 B5 O5 R5 C5' hz5
        have C6' := Lib.hid C6
        clear C6
        have T6 := Lib.hid (TRD.out.below (B2.out.trans (B6.out.mono B2.out.size)))
        refine Sz.call (by rfl) (fun K hK => ?_)
        refine wp_all (Kd := E3) Tryd.underlying26 infoE3 rfl (by omega) _ _ rfl w2.heap.size _ _ rfl O6.out _ _ rfl T6.out ?a2 B6.out.size ?_
        case a2 => rw [List.length_append, List.length_take, List.length_drop]; have := HN.out; simp only [List.length_cons, List.length_nil]; omega
        intro v7 w7 o7 b7
        obtain ⟨v7a, v7c, e7, _⟩ := o7.slice
        obtain ⟨n7, rfl⟩ : ∃ n7, v7 = .slice v7a n7 v7c := ⟨_, e7⟩
        clear e7
        have C7 : AC r (.slice (some ⟨b, off, none⟩) N vcap) d w.heap.size p (.slice a q cap) w7 := ⟨(b7.block r hrw2).trans C6'.out.row, (b7.block _ hxw2).trans C6'.out.box⟩
        have B7 := Lib.hid (B6.out.trans b7)
        refine hK _ _ (Sc.Cl.of C7) ?_
        clear hK K b7 B6 O6 T6 C6' e6
        have c7 : w7.cell? ⟨r, 0, none⟩ = some (.slice (some ⟨b, off, none⟩) N vcap) := row_cell C7.row 0
        have f7 := row_frozen C7.row 0
        have BW : Below w.heap.size w w7 := B2.out.trans (B7.out.mono B2.out.size)
        have RES : Hid (RAPost w r F d 0 (put key (n, p, l) (L.map Ent.abs)) (.returned (.int .i64 0)) (w7.setCell ⟨r, 0, none⟩ (.slice v7a n7 v7c))) := by
          refine FIN.out k (.slice v7a n7 v7c) _ P1.out P2.out ((Only.of_below BW).trans (Only.set (fun k => k = r) w7 (a := ⟨r, 0, none⟩) rfl _) fun _ _ g => g) ?_ ?_
          · have := Rw.heap_setCell_same (j := 0) C7.row (.slice v7a n7 v7c)
            rw [this]
            simp
          · exact (o7.off (p := ⟨r, 0, none⟩) (o7.range (.inl hrw2)) (.slice v7a n7 v7c)).low hw2.out
        clear C7 BW o7 B7 FIN
        repeat (refine Sz.lit ?_; quiet_step (fail); refine wpQuiet_nil ?_)
        refine Sz.done ?_
        go_simp
        clear c7 f7
        generalize (w7.setCell ⟨r, 0, none⟩ (.slice v7a n7 v7c)) = w8 at *
        refine NoPanic.normal ?_
        go_wp2
        go_ret
        exact RES.out
    · obtain rfl : k = N := by omega
      have P2 : Hid (∀ x, L[k]? = some x → n < x.n) := fun x hx => by
        have := (List.getElem?_eq_some_iff.1 hx).1
        have := HN.out
        omega
      clear RL
      go_wp2_with fail
      clear c0
      have X4 := Lib.hid ((B.out.block _ (lt_of_block X2.out)).trans X2.out)
      have hw2 : Hid (w.heap.size ≤ w2.heap.size) := B2.out.size
      have BR := Lib.hid (B2.out.trans (B.out.mono B2.out.size))
      have Row4 := Lib.hid ((BR.out.block r hrl).trans RR.out.row)
      have C0 : AC r (.slice va k vcap) d w.heap.size p (.slice a q cap) wr.drew := ⟨Row4.out, X4.out⟩
      have c0 := Sc.cell_in (C := AC r (.slice va k vcap) d w.heap.size p (.slice a q cap)) (a := ⟨r, 0, none⟩) (fun W' h => row_cell h.row 0)
      have r0 := Sc.cell_in (C := AC r (.slice va k vcap) d w.heap.size p (.slice a q cap)) (a := ⟨w.heap.size, 0, none⟩) (fun W' h => row_cell h.box 0)
      have r1 := Sc.cell_in (C := AC r (.slice va k vcap) d w.heap.size p (.slice a q cap)) (a := ⟨w.heap.size, 1, none⟩) (fun W' h => row_cell h.box 1)
      have ne : Nonempty (Sc.In (AC r (.slice va k vcap) d w.heap.size p (.slice a q cap))) := ⟨⟨_, C0⟩⟩
      obtain ⟨ta, tc, htl, TR⟩ := run_tail RR.out.list.rd k (by have := HN.out; omega)
      have TRD := Lib.hid TR
      rw [HN.out] at htl TRD
      generalize k - k = mt at htl TRD
      have OWR : Hid (Ow E3 wr.drew w2.heap.size 56 (.slice va' k vc') (L.take k)) := OW.out
      have BRD : Hid (Below w2.heap.size w2 wr.drew) := B.out.drew
      clear TR OW B BR Row4 X4 X2
      refine Sz.start (AC r (.slice va k vcap) d w.heap.size p (.slice a q cap)) [(false, 0), (false, 1), (false, 2), (false, 3), (false, 4), (false, 7), (false, 8), (false, 9), (false, 10), (false, 11), (false, 12), (true, 5), (true, 6), (true, 13), (false, 14), (false, 15)] 16 (by kernel_rfl) (by kernel_rfl) (by kernel_rfl) rfl rfl C0 ?_
      dsimp only [Sd.picks, List.getElem?_cons_succ, List.getElem?_cons_zero]
      repeat (refine Sz.lit ?_; quiet_step (fail); refine wpQuiet_nil ?_)
      clear c0 r0 r1 htl
      have C1 := Lib.hid C0
      clear C0
      generalize wr.drew = w4 at *
      refine Sz.call (by rfl) (fun K hK => ?_)
      go_simp
      have ba := Below.heap_alloc w4 (.cells #[.int .i64 n, .int .i64 p, .slice a q cap] 56)
      have B5 := Lib.hid (BRD.out.alloc BRD.out.size (.cells #[.int .i64 n, .int .i64 p, .slice a q cap] 56))
      have C5 : AC r (.slice va k vcap) d w.heap.size p (.slice a q cap) (w4.alloc (.cells #[.int .i64 n, .int .i64 p, .slice a q cap] 56)) := ⟨(ba r (lt_of_block C1.out.row)).trans C1.out.row, (ba _ (lt_of_block C1.out.box)).trans C1.out.box⟩
      have O5 := Lib.hid (OWR.out.alloc (.cells #[.int .i64 n, .int .i64 p, .slice a q cap] 56))
      have R5 : Hid (Rd E3 (w4.alloc (.cells #[.int .i64 n, .int .i64 p, .slice a q cap] 56)) (.slice (some ⟨w4.heap.size, 0, none⟩) 1 1) [(⟨n, p, a, cap, l⟩ : Ent)]) := by
        have := (Rw.Ow.lit (K := E3) w4 0 56 [(⟨n, p, a, cap, l⟩ : Ent)] (Nat.zero_le _) (by unfold maxLen; simp)).rd
        have e : (E3.flat [(⟨n, p, a, cap, l⟩ : Ent)]).toArray = #[.int .i64 n, .int .i64 p, .slice a q cap] := by unfold Rw.Kind.flat E3 Ent.sl; rw [← HQ.out]; rfl
        rw [e] at this
        exact this
      refine hK _ _ (Sc.Cl.of C5) ?_
      clear hK K ba
      have hz5 : Hid (w2.heap.size ≤ (w4.alloc (.cells #[.int .i64 n, .int .i64 p, .slice a q cap] 56)).heap.size) := B5.out.size
      have C5' := Lib.hid C5
      clear C5 C1 OWR BRD
      generalize (w4.alloc (.cells #[.int .i64 n, .int .i64 p, .slice a q cap] 56)) = w5 at *
      refine Sz.call (by rfl) (fun K hK => ?_)
      refine wp_all (Kd := E3) Tryd.underlying26 infoE3 rfl (by omega) _ _ rfl w2.heap.size _ _ rfl O5.out _ _ rfl R5.out ?a1 hz5.out ?_
      case a1 => rw [List.length_take]; simp; omega
      intro v6 w6 o6 b6
      have hrw2 : r < w2.heap.size := by have := hw2.out; omega
      have hxw2 : w.heap.size < w2.heap.size := HX2.out
      have C6 : AC r (.slice va k vcap) d w.heap.size p (.slice a q cap) w6 := ⟨(b6.block r hrw2).trans C5'.out.row, (b6.block _ hxw2).trans C5'.out.box⟩
      have B6 := Lib.hid (B5.out.trans b6)
      have O6 := Lib.hid o6
      obtain ⟨v6a, v6c, e6, _⟩ := o6.slice
      refine hK _ _ (Sc.Cl.of C6) ?_
      clear hK K o6 b6 B5 O5 R5 C5' hz5
      have C6' := Lib.hid C6
      clear C6
      have T6 := Lib.hid (TRD.out.below (B2.out.trans (B6.out.mono B2.out.size)))
      refine Sz.call (by rfl) (fun K hK => ?_)
      refine wp_all (Kd := E3) Tryd.underlying26 infoE3 rfl (by omega) _ _ rfl w2.heap.size _ _ rfl O6.out _ _ rfl T6.out ?a2 B6.out.size ?_
      case a2 => rw [List.length_append, List.length_take, List.length_drop]; have := HN.out; simp only [List.length_cons, List.length_nil]; omega
      intro v7 w7 o7 b7
      obtain ⟨v7a, v7c, e7, _⟩ := o7.slice
      obtain ⟨n7, rfl⟩ : ∃ n7, v7 = .slice v7a n7 v7c := ⟨_, e7⟩
      clear e7
      have C7 : AC r (.slice va k vcap) d w.heap.size p (.slice a q cap) w7 := ⟨(b7.block r hrw2).trans C6'.out.row, (b7.block _ hxw2).trans C6'.out.box⟩
      have B7 := Lib.hid (B6.out.trans b7)
      refine hK _ _ (Sc.Cl.of C7) ?_
      clear hK K b7 B6 O6 T6 C6' e6
      have c7 : w7.cell? ⟨r, 0, none⟩ = some (.slice va k vcap) := row_cell C7.row 0
      have f7 := row_frozen C7.row 0
      have BW : Below w.heap.size w w7 := B2.out.trans (B7.out.mono B2.out.size)
      have RES : Hid (RAPost w r F d 0 (put key (n, p, l) (L.map Ent.abs)) (.returned (.int .i64 0)) (w7.setCell ⟨r, 0, none⟩ (.slice v7a n7 v7c))) := by
        refine FIN.out k (.slice v7a n7 v7c) _ P1.out P2.out ((Only.of_below BW).trans (Only.set (fun k => k = r) w7 (a := ⟨r, 0, none⟩) rfl _) fun _ _ g => g) ?_ ?_
        · have := Rw.heap_setCell_same (j := 0) C7.row (.slice v7a n7 v7c)
          rw [this]
          simp
        · exact (o7.off (p := ⟨r, 0, none⟩) (o7.range (.inl hrw2)) (.slice v7a n7 v7c)).low hw2.out
      clear C7 BW o7 B7 FIN
      repeat (refine Sz.lit ?_; quiet_step (fail); refine wpQuiet_nil ?_)
      refine Sz.done ?_
      go_simp
      clear c7 f7
      generalize (w7.setCell ⟨r, 0, none⟩ (.slice v7a n7 v7c)) = w8 at *
      refine NoPanic.normal ?_
      go_wp2
      go_ret
      exact RES.out

theorem radd_any {w : World} {r : Nat} {F : Nat → Prop} {A : Abs} {d : Int} (RS : Rs w r F A d) (hF : ∀ k, F k → k < w.heap.size) (n p : Int) (v : Value) (l : List R4) (R : Rd K4 w v l) (ho : 0 < l.length → ∀ k, v.ownBlock = some k → ¬ (F k ∨ k = r)) (hl : okL l) :
    Calls Tryd.prog 9 #[.pointer (some ⟨r, 0, none⟩), .int .i64 n, file p v] w (RAPost w r F d (addE A n p l) (addA A n p l)) := by
  obtain ⟨u, L, h, rfl⟩ := RS
  obtain ⟨a, cap, rfl, _⟩ := R.slice
  have no : ∀ z e w', addE (L.map Ent.abs) n p l = z → z ≠ 0 → (e = .returned (.int .i64 z) ∧ Below w.heap.size w w') → RAPost w r F d (addE (L.map Ent.abs) n p l) (addA (L.map Ent.abs) n p l) e w' := fun z e w' hz h0 ⟨he, b⟩ => by
    unfold RAPost addA
    rw [hz, if_neg h0]
    exact ⟨he, ⟨u, L, h.below b, rfl⟩, Only.of_below b⟩
  by_cases hn : 0 ≤ n ∧ n ≤ 63
  · by_cases hg : goodF p l
    · cases hc : look Ent.n n L with
      | some c =>
        obtain ⟨i, _, hq⟩ := ix_some (srtL h.ok) hc
        exact (radd_10 h n p a _ cap l R hn hg hq).mono fun e w' => no 10 e w' (by unfold addE; rw [if_pos hn, if_pos hg, abs_look, hc]; rfl) (by decide)
      | none =>
        have e0 : addE (L.map Ent.abs) n p l = 0 := by unfold addE; rw [if_pos hn, if_pos hg, abs_look, hc]; rfl
        unfold addA
        rw [e0, if_pos rfl]
        exact radd_0 h hF n p a _ cap l R ho hn hg hl hc
    · exact (radd_2 w r n p a _ cap l R hn hg).mono fun e w' => no 2 e w' (by unfold addE; rw [if_pos hn, if_neg hg]) (by decide)
  · exact (radd_1 w r n p a _ cap hn).mono fun e w' => no 1 e w' (by unfold addE; rw [if_neg hn]) (by decide)

end Go.Proofs.YtoeemngekioldaaDoor.Fs
