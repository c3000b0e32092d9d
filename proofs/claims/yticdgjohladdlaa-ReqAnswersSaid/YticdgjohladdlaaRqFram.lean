/- Layer 21: the code's framed and Put: a request's bytes. -/
import Derived.Test.YticdgjohladdlaaRqGood

import Derived.Test.YticdgjohladdlaaSd
namespace Go.Proofs.Yticdgjohladdlaa.Rq
open Go.RowKit
open Go.Proofs.Yticdgjohladdlaa.Rw (Rd Ow At)
open Go.Proofs.Yticdgjohladdlaa.Fl (R4 z4)
set_option maxRecDepth 100000

/-- A part of a block, read as a list of bytes. -/
theorem rd_part {w : World} {g : Nat} {cs : Array Value} {t : TypeId} (off : Nat) (l : List Int) (cap : Nat) (h : w.heap[g]? = some (.cells cs t (0, 0))) (e : ∀ i x, l[i]? = some x → cs[off + i]? = some (.int .u8 x)) (h1 : l.length ≤ cap) (h2 : cap ≤ maxLen) : Rd KU w (.slice (some ⟨g, off, none⟩) l.length cap) l :=
  ⟨_, cap, rfl, ⟨h1, nofun⟩, h2, fun _ => ⟨g, off, rfl, fun i hi j u hu => by
    rcases j with _ | j
    · have hx := List.getElem?_eq_getElem hi
      rw [List.getD_eq_getElem?_getD, hx] at hu
      have hu' : (some (Value.int .u8 l[i])) = some u := hu
      rw [← hu', ← e i _ hx]
      rw [show off + i * KU.n + 0 = off + i by show off + i * 1 + 0 = _; omega]
      exact cell_of_row w g (off + i) cs t (0, 0) h
    · exact absurd hu (by simp [KU, Rw.int])⟩⟩

/-- 'append(list, y...)', the list the call's own, in a region that draws its order. -/
theorem wp_all {P : Program} {K : Act → World → Prop} {w : World} {E : TypeId} {o : Oper} {a : Act} {Q : Exit → Act → World → Prop} {T : TypeId} {z : Value} {bytes : Nat} (ht : P.underlying T = some (.slice E))
    (hi : (P.info? E).map (fun i => (i.zero, i.size, i.bytes)) = some (some z, KU.n, bytes)) (hz : z.cells.size = KU.n) (hby : bytes ≤ 64) (s x : Operand)
    (ho : o.op = .call { callee := .builtin .append, args := #[s, x], argTypes := #[T, T] }) (B : Nat) (v : Value) (l : List Int) (hs : a.eval s = v) (hown : Ow KU w B E v l)
    (u : Value) (y : List Int) (hx : a.eval x = u) (hu : Rd KU w u y) (hy : 0 < y.length) (hlen : l.length + y.length < 2199023255552) (hB : B ≤ w.heap.size)
    (h : ∀ v' w', Ow KU w' B E v' (l ++ y) → Below B w w' → K (a.put o.dst v') w') : o.wp P a w K Q := by
  obtain ⟨i0, hi0, hz0, hz1, hz2⟩ := info_parts hi
  obtain ⟨ad, cap, rfl, h1, h2, h3⟩ := hu
  have hb : (l.length + y.length) * bytes ≤ 140737488355328 := Nat.le_trans (Nat.mul_le_mul (show l.length + y.length ≤ 2199023255552 by omega) hby) (by omega)
  obtain ⟨b, off, rfl, hA⟩ := h3 hy
  refine wp_append_own _ s x T ho B E i0 z KU.n bytes ht hi0 hz0 hz1 hz2 hz KU.pos v l.length (KU.flat l) hs hown ⟨b, off, none⟩ y.length cap (KU.flat y) hx (Rw.flat_length KU y) ?_ (Rw.flat_one KU y) (by unfold maxLen; omega) hb hB ?_
  · intro j u hj
    have e : (⟨b, off, none⟩ : Addr).add j = ⟨b, off + j, none⟩ := by simp [Addr.add]
    rw [e]
    exact hA.flat j u hj
  · intro v' w' g2 g3 _
    refine h v' w' ?_ ((Below.refl B w).grown g3 hB fun k hk => (World.ownsRow.lt hown k hk).1)
    show w'.ownsRow B E KU.n v' (l ++ y).length (KU.flat (l ++ y))
    rw [Rw.flat_append, List.length_append]
    exact g2

theorem u8_mod (x : Int) : IntKind.u8.wrap x = x % 256 := by simp [IntKind.wrap, IntKind.bits, IntKind.signed]

/-- What framed answers. -/
def FrPost (w : World) (n : Int) (l : List Int) (e : Ending) (w' : World) : Prop := ∃ v, e = .returned v ∧ Ow KU w' w.heap.size 5 v ([0, 2 + (l.length : Int), n / 256, n % 256] ++ l) ∧ Below w.heap.size w w'

set_option maxHeartbeats 4000000 in
theorem framed_any (w : World) (n : Int) (v : Value) (l : List Int) (h0 : 0 ≤ n) (h1 : n ≤ 65535) (hl : l.length ≤ 200) (R : Rd KU w v l) : Calls Try.prog 17 #[.int .i64 n, v] w (FrPost w n l) := by
  have E : Hid (∀ v w', Ow KU w' w.heap.size 5 v ([0, 2 + (l.length : Int), n / 256, n % 256] ++ l) → Below w.heap.size w w' → FrPost w n l (.returned v) w') := fun v w' o b => ⟨v, rfl, o, b⟩
  obtain ⟨a, cap, rfl, _⟩ := R.slice
  have R' := Lib.hid R
  clear R
  have hm : Hid (l.length ≤ 200) := hl
  generalize hn : l.length = m at *
  have HN := Lib.hid hn
  clear hn
  have e1 : IntKind.i64.wrap (2 + (m : Int)) = 2 + (m : Int) := IntWalk.i64_in _ (by omega)
  have e2 : (2 + (m : Int)) / 256 = 0 := by omega
  have e3 : (2 + (m : Int)) % 256 = 2 + (m : Int) := by omega
  have e4 : IntKind.u8.wrap (2 + (m : Int)) = 2 + (m : Int) := by rw [u8_mod]; omega
  have e5 : n / 256 % 256 = n / 256 := by omega
  have e6 : IntKind.u8.wrap (n / 256) = n / 256 := by rw [u8_mod]; omega
  have e7 := u8_mod n
  clear h0 h1 hl
  go_enter Try.func17, Try.ntmps17
  go_upto_region 3 with fail
  have L3 : Hid (Ow KU (w.alloc (.cells #[.int .u8 0, .int .u8 (2 + (m : Int)), .int .u8 (n / 256), .int .u8 (n % 256)] 5)) w.heap.size 5 (.slice (some ⟨w.heap.size, 0, none⟩) 4 4) [0, 2 + (m : Int), n / 256, n % 256]) := Lib.hid (Rw.Ow.lit (K := KU) w w.heap.size 5 [0, 2 + (m : Int), n / 256, n % 256] (Nat.le_refl _) (by unfold maxLen; simp))
  have B3 := Lib.hid ((Below.refl w.heap.size w).alloc (Nat.le_refl _) (.cells #[.int .u8 0, .int .u8 (2 + (m : Int)), .int .u8 (n / 256), .int .u8 (n % 256)] 5))
  have R3 := Lib.hid (R'.out.below B3.out)
  clear e1 e2 e3 e4 e5 e6 e7 R'
  generalize w.alloc (.cells #[.int .u8 0, .int .u8 (2 + (m : Int)), .int .u8 (n / 256), .int .u8 (n % 256)] 5) = W at *
  go_wp2_with (at_builtin; refine Rw.all_step (K := KU) Try.underlying26 infoU rfl (by omega) rfl _ _ rfl w.heap.size _ _ rfl L3.out _ l rfl R3.out ?c1 ?c2 ?_)
  case c1 => have := hm.out; have := HN.out; simp; omega
  case c2 => exact B3.out.size
  intro v7 w7 o7 b7
  have F := Lib.hid (E.out v7 w7 o7 (B3.out.trans b7))
  clear E o7 b7 L3 B3 R3
  go_wp2
  (try simp only [Exit.inBlock, Exit.then])
  go_ret
  exact F.out

/-- A request's bytes as they are put together. -/
theorem qb_of (x : Q) : qb x = if x.k = 2 then [0, 2 + (([x.k, x.n, x.f, x.r, x.key] ++ [x.v.1, x.v.2.1, x.v.2.2.1, x.v.2.2.2]).length : Int), x.id / 256, x.id % 256] ++ ([x.k, x.n, x.f, x.r, x.key] ++ [x.v.1, x.v.2.1, x.v.2.2.1, x.v.2.2.2]) else [0, 2 + (([x.k, x.n, x.f, x.r, x.key] : List Int).length : Int), x.id / 256, x.id % 256] ++ [x.k, x.n, x.f, x.r, x.key] := by
  unfold qb
  by_cases h : x.k = 2
  · rw [if_pos h, if_pos h, if_pos h]; rfl
  · rw [if_neg h, if_neg h, if_neg h]; rfl

set_option maxHeartbeats 4000000 in
theorem put_bad (w : World) (x : Q) (hg : ¬ good x) : Calls Try.prog 6 #[qV x] w (PutPost w x) := by
  have B0 := Lib.hid ((Below.refl w.heap.size w).alloc (Nat.le_refl _) (.cells (qA x) 25))
  have GR := Lib.hid (at_bool (show goodB x = false from decide_eq_false hg) (good_any (w.alloc (.cells (qA x) 25)) x))
  have E : Hid (∀ w', Below w.heap.size w w' → PutPost w x (.returned (.tuple #[.slice none 0 0, .int .i64 1])) w') := fun w' b => ⟨_, by rw [if_neg hg], by rw [if_neg hg]; exact Rw.Ow.nil _ _ _, b⟩
  clear hg
  unfold qV at *
  go_enter Try.func6, Try.ntmps6
  unfold qA at *
  go_wp2_with fail
  refine GR.out.mono ?_
  rintro e w1 ⟨rfl, b1⟩
  have B1 := bTr B0 b1
  clear b1 B0 GR
  go_wp2
  go_ret2
  exact E.out _ B1

set_option maxHeartbeats 8000000 in
theorem put_good (w : World) (x : Q) (hg : good x) : Calls Try.prog 6 #[qV x] w (PutPost w x) := by
  have B0 := Lib.hid ((Below.refl w.heap.size w).alloc (Nat.le_refl _) (.cells (qA x) 25))
  have R0 := Lib.hid (heap_alloc_new w (.cells (qA x) 25))
  have GR := Lib.hid (at_bool (show goodB x = true from decide_eq_true hg) (good_any (w.alloc (.cells (qA x) 25)) x))
  have E : Hid (∀ v w', Ow KU w' w.heap.size 5 v (qb x) → Below w.heap.size w w' → PutPost w x (.returned (.tuple #[v, .int .i64 0])) w') := fun v w' o b => ⟨v, by rw [if_pos hg], by rw [if_pos hg]; exact o, b⟩
  have EQ := Lib.hid (qb_of x)
  obtain ⟨id, k, n, f, r, ⟨v0, v1, v2, v3⟩, key⟩ := x
  unfold good at hg
  unfold qV at *
  unfold qA at *
  dsimp only at hg B0 R0 GR E EQ ⊢
  obtain ⟨⟨h1, h2⟩, ⟨h3, h4⟩, ⟨h5, h6⟩, ⟨h7, h8⟩, ⟨h9, h10⟩, ⟨h11, h12⟩, _, _⟩ := hg
  have FR := fun w v l hl R => Lib.hid (framed_any w id v l h1 h2 hl R)
  have q3 := u8_in (x := k) (by omega) (by omega)
  have q4 := u8_in (x := n) (by omega) (by omega)
  have q5 := u8_in (x := f) (by omega) (by omega)
  have q6 := u8_in (x := r) (by omega) (by omega)
  have q7 := u8_in (x := key) (by omega) (by omega)
  clear h1 h2 h3 h4 h5 h6 h7 h8 h9 h10 h11 h12
  go_enter Try.func6, Try.ntmps6
  go_wp2_with fail
  refine GR.out.mono ?_
  rintro e w1 ⟨rfl, b1⟩
  have B1 := bTr B0 b1
  have R1 := Lib.hid (bBl b1 R0.out)
  clear b1 B0 GR R0
  have c1 := rc1 R1.out 1
  have c2 := rc1 R1.out 2
  have c3 := rc1 R1.out 3
  have c4 := rc1 R1.out 4
  have c9 := rc1 R1.out 9
  go_upto_region 4 with fail
  have hlt := lt_of_block R1.out
  have L3 := Lib.hid (Rw.Ow.lit (K := KU) w1 (w.heap.size + 1) 5 [k, n, f, r, key] hlt (by unfold maxLen; simp))
  have B3 := Lib.hid (B1.out.alloc B1.out.size (.cells #[.int .u8 k, .int .u8 n, .int .u8 f, .int .u8 r, .int .u8 key] 5))
  have R3 := Lib.hid (bBl ((Below.refl w1.heap.size w1).alloc (Nat.le_refl _) (.cells #[.int .u8 k, .int .u8 n, .int .u8 f, .int .u8 r, .int .u8 key] 5)) R1.out)
  replace L3 : Hid (Ow KU (w1.alloc (.cells #[.int .u8 k, .int .u8 n, .int .u8 f, .int .u8 r, .int .u8 key] 5)) (w.heap.size + 1) 5 (.slice (some ⟨w1.heap.size, 0, none⟩) 5 5) [k, n, f, r, key]) := L3
  have Z3 : Hid (w.heap.size + 1 ≤ (w1.alloc (.cells #[.int .u8 k, .int .u8 n, .int .u8 f, .int .u8 r, .int .u8 key] 5)).heap.size) := lt_of_block R3.out
  clear R1 B1 c1 c2 c3 c4 c9 q3 q4 q5 q6 q7 hlt
  generalize w1.alloc (.cells #[.int .u8 k, .int .u8 n, .int .u8 f, .int .u8 r, .int .u8 key] 5) = W at *
  generalize w1.heap.size = g at *
  have c0 := rc1 R3.out 0
  have c1 := rc1 R3.out 1
  by_cases h2 : k = 2
  · rw [if_pos h2] at EQ
    subst h2
    have V := Lib.hid (rd_part 5 [v0, v1, v2, v3] 4 R3.out (fun i x e => by
      match i, e with
      | 0, e => cases e; rfl
      | 1, e => cases e; rfl
      | 2, e => cases e; rfl
      | 3, e => cases e; rfl
      | i + 4, e => simp at e) (by simp) (by unfold maxLen; simp))
    go_wp2_with (at_builtin; refine Rw.all_step (K := KU) Try.underlying26 infoU rfl (by omega) rfl _ _ rfl (w.heap.size + 1) _ _ rfl L3.out _ [v0, v1, v2, v3] rfl V.out ?c1 ?c2 ?_)
    case c2 => exact Z3.out
    intro v7 w7 o7 b7
    have B7 := Lib.hid (B3.out.trans (b7.mono (Nat.le_succ _)))
    have k0 := (b7.cell (Nat.lt_succ_self _)).trans c0
    have FR7 := FR w7 v7 _ (by simp) o7.rd
    clear FR b7 c0 c1 L3 B3 R3 V Z3 o7
    go_wp2_with fail
    refine FR7.out.mono ?_
    rintro e w8 ⟨v8, rfl, o8, b8⟩
    have F := Lib.hid (E.out v8 w8 (by rw [EQ.out]; exact o8.low B7.out.size) (bTr B7.out b8))
    clear E EQ o8 b8 B7 FR7 k0
    go_wp2
    go_ret2
    exact F.out
  · rw [if_neg h2] at EQ
    have FR7 := FR W _ _ (by simp) L3.out.rd
    clear FR
    go_wp2_with fail
    refine FR7.out.mono ?_
    rintro e w8 ⟨v8, rfl, o8, b8⟩
    have F := Lib.hid (E.out v8 w8 (by rw [EQ.out]; exact o8.low B3.out.size) (bTr B3.out b8))
    clear E EQ o8 b8 B3 FR7 c0 c1 L3 R3 Z3
    go_wp2
    go_ret2
    exact F.out

theorem put_any (w : World) (x : Q) : Calls Try.prog 6 #[qV x] w (PutPost w x) := by
  by_cases hg : good x
  · exact put_good w x hg
  · exact put_bad w x hg

end Go.Proofs.Yticdgjohladdlaa.Rq
