/- The document's Run. -/
import Derived.Test.YtbbbempdaipmnaaBpRef
import Derived.Test.YtbbbempdaipmnaaNmAssign
namespace Go.Proofs.Ytbbbempdaipmnaa.Bp
open Go.RowKit
open Go.Proofs.Ytbbbempdaipmnaa.Rw (Rd Ow At)
open Go.Proofs.Ytbbbempdaipmnaa.Fl (ret_bool at_bool)
open Go.Proofs.Ytbbbempdaipmnaa.Nm (S zS sa sa_get sa_set mem_sa Gd KV atV Fit infoV ls ls_spec cn cn_le fr frB fr_pos fr_le lsP rleast_any rfree_any RleastPost FreePost)

/-- Named among the first k. -/
def nmK (p n : Int) (c : List S) : Nat → List S
  | 0 => c
  | k + 1 => if (sa c k).1 = p then (nmK p n c k).set k ((sa c k).1, n) else nmK p n c k
theorem nmK_spec (p n : Int) (c : List S) : ∀ k, k ≤ c.length → (nmK p n c k).length = c.length ∧ ∀ i, sa (nmK p n c k) i = if i < k then nmd p n (sa c i) else sa c i
  | 0, _ => ⟨rfl, fun i => by rw [if_neg (Nat.not_lt_zero i)]; rfl⟩
  | k + 1, hk => by
    obtain ⟨h1, h2⟩ := nmK_spec p n c k (by omega)
    show ((if (sa c k).1 = p then (nmK p n c k).set k ((sa c k).1, n) else nmK p n c k).length = _) ∧ ∀ i, sa (if (sa c k).1 = p then (nmK p n c k).set k ((sa c k).1, n) else nmK p n c k) i = _
    by_cases e : (sa c k).1 = p
    · rw [if_pos e]
      refine ⟨by rw [List.length_set]; exact h1, fun i => ?_⟩
      rw [sa_set (by omega)]
      by_cases g : i = k
      · subst g
        rw [if_pos rfl, if_pos (by omega)]
        exact (if_pos e).symm
      · rw [if_neg g, h2]
        by_cases q : i < k
        · rw [if_pos q, if_pos (by omega)]
        · rw [if_neg q, if_neg (by omega)]
    · rw [if_neg e]
      refine ⟨h1, fun i => ?_⟩
      rw [h2]
      by_cases g : i = k
      · subst g
        rw [if_neg (by omega), if_pos (by omega)]
        exact (if_neg e).symm
      · by_cases q : i < k
        · rw [if_pos q, if_pos (by omega)]
        · rw [if_neg q, if_neg (by omega)]
theorem nmK_all (p n : Int) (c : List S) : nmK p n c c.length = nm p n c := by
  obtain ⟨h1, h2⟩ := nmK_spec p n c c.length (Nat.le_refl _)
  refine Nm.sa_same (by rw [h1, nm_len]) fun i hi => ?_
  rw [h2, if_pos (by omega), nm_sa (by omega)]

def RunPost (w : World) (l : List S) (most : Int) (L : List Bool) (e : Ending) (w' : World) : Prop := ∃ u, e = .returned (.tuple #[u, .int .i64 (rnN l most L), .int .i64 (rnE l most L)]) ∧ Ow KV w' w.heap.size 41 u (rnL l most L) ∧ Below w.heap.size w w'
/-- So far. -/
structure Rs (w : World) (B : Nat) (l : List S) (most : Int) (L : List Bool) (v : Value) (f r : Nat) (c : List S) (wr : World) : Prop where
  own : Ow KV wr B 41 v c
  bel : Below B w wr
  len : c.length = l.length
  fit : Fit c
  mu : mu L c r < f
  cnt : cn c ≤ cn l
  top : r + 67 * cn c ≤ L.length + 66 + 67 * cn l
  eq : rn most L (L.length + l.length + 1) l 0 = rn most L f c r
section
variable {w wr w' : World} {B : Nat} {l c : List S} {most : Int} {L : List Bool} {v : Value} {f r : Nat}
theorem Rs.below (h : Rs w B l most L v f r c wr) (b : Below wr.heap.size wr w') (hB : B ≤ wr.heap.size) : Rs w B l most L v f r c w' := ⟨h.own.keep b, h.bel.trans (b.mono hB), h.len, h.fit, h.mu, h.cnt, h.top, h.eq⟩
theorem Rs.start (h : Ow KV wr w.heap.size 41 v l) (b : Below w.heap.size w wr) (F : Fit l) : Rs w w.heap.size l most L v (L.length + l.length + 1) 0 l wr := ⟨h, b, rfl, F, by unfold Bp.mu; have := cn_le l; omega, Nat.le_refl _, by omega, rfl⟩
theorem Rs.suc (h : Rs w B l most L v f r c wr) : ∃ g, f = g + 1 := ⟨f - 1, by have := h.mu; omega⟩
theorem Rs.full (h : Rs w w.heap.size l most L v f r c wr) (e : 0 ≤ ls c ∧ fr c most = 0) : RunPost w l most L (.returned (.tuple #[v, .int .i64 r, .int .i64 11])) wr := by
  obtain ⟨f, rfl⟩ := h.suc
  have e2 := h.eq
  rw [rn_full e] at e2
  refine ⟨v, by unfold rnN rnE; rw [e2], ?_, h.bel⟩
  unfold rnL
  rw [e2]
  exact h.own
theorem Rs.done (h : Rs w w.heap.size l most L v f r c wr) (e : ¬ (0 ≤ ls c ∧ fr c most = 0)) (e0 : sB c L r = false ∧ sN c L r = 1 ∧ gon L r = false) : RunPost w l most L (.returned (.tuple #[v, .int .i64 ((r + 1 : Nat) : Int), .int .i64 0])) wr := by
  obtain ⟨f, rfl⟩ := h.suc
  have e2 := h.eq
  rw [rn_done e e0] at e2
  refine ⟨v, by unfold rnN rnE; rw [e2], ?_, h.bel⟩
  unfold rnL
  rw [e2]
  exact h.own
theorem Rs.again (h : Rs w B l most L v f r c wr) (e : ¬ (0 ≤ ls c ∧ fr c most = 0)) (e0 : ¬ (sB c L r = false ∧ sN c L r = 1 ∧ gon L r = false)) (e1 : sB c L r = false) : Rs w B l most L v (f - 1) (r + sN c L r) c wr ∧ f - 1 < f := by
  obtain ⟨f, rfl⟩ := h.suc
  obtain ⟨m1, m2⟩ := again_mu (fit_low h.fit) e0 e1
  have h1 := h.mu
  have h2 := h.top
  have h3 := h.cnt
  refine ⟨⟨h.own, h.bel, h.len, h.fit, by show _ < f; omega, h3, by rcases s_many c L r with g | g <;> omega, ?_⟩, by omega⟩
  rw [h.eq, rn_again e e0 e1]
  rfl
/-- One was found, and is named. -/
theorem Rs.named (h : Rs w B l most L v f r c wr) (e : ¬ (0 ≤ ls c ∧ fr c most = 0)) (e1 : sB c L r = true) (own : Ow KV w' B 41 v (nm (sP c L r) (fr c most) c)) (bel : Below B w w') : Rs w B l most L v (f - 1) (r + 67) (nm (sP c L r) (fr c most) c) w' ∧ f - 1 < f := by
  obtain ⟨f, rfl⟩ := h.suc
  obtain ⟨m1, m2⟩ := named_mu (fit_low h.fit) e e1
  have h1 := h.mu
  have h2 := h.top
  have h3 := h.cnt
  refine ⟨⟨own, bel, (nm_len _ _ _).trans h.len, fun i hi => ?_, by show _ < f; omega, by omega, by omega, ?_⟩, by omega⟩
  · rw [nm_len] at hi
    rw [nm_sa hi]
    have := h.fit i hi
    have := fr_le c most
    unfold nmd
    split
    · simp only
      omega
    · exact h.fit i hi
  · rw [h.eq, rn_named e e1]
    rfl
theorem Rs.room (h : Rs w B l most L v f r c wr) (hl : l.length ≤ 260) (hL : L.length ≤ 1000) : r ≤ 100000 := by
  have := h.top
  have := cn_le l
  omega
/-- The naming, up to place k. -/
structure Nk (w : World) (B : Nat) (p n : Int) (c : List S) (v : Value) (k : Nat) (wr : World) : Prop where
  own : Ow KV wr B 41 v (nmK p n c k)
  bel : Below B w wr
theorem Nk.set {g cap : Nat} {p n : Int} {k : Nat} (h : Nk w B p n c (.slice (some ⟨g, 0, none⟩) c.length cap) k wr) (hk : k < c.length) (e : (sa c k).1 = p) (hB : B ≤ g) : Nk w B p n c (.slice (some ⟨g, 0, none⟩) c.length cap) (k + 1) (wr.setCell ⟨g, k * 2 + 1, none⟩ (.int .i64 n)) := by
  obtain ⟨h1, h2⟩ := nmK_spec p n c k (by omega)
  have hs : sa (nmK p n c k) k = sa c k := by rw [h2, if_neg (by omega)]
  have ho := h.own
  rw [← h1] at ho
  have ho2 := Ow.set ho k 1 (by omega) (by decide) (.int .i64 n) ((sa c k).1, n) (by
    show _ = (KV.enc (sa (nmK p n c k) k)).set 1 _
    rw [hs]
    rfl)
  rw [h1] at ho2
  refine ⟨?_, h.bel.setCell hB _⟩
  show Ow KV _ B _ _ (if (sa c k).1 = p then (nmK p n c k).set k ((sa c k).1, n) else nmK p n c k)
  rw [if_pos e]
  exact ho2
theorem Nk.stay {p n : Int} {k : Nat} (h : Nk w B p n c v k wr) (e : ¬ (sa c k).1 = p) : Nk w B p n c v (k + 1) wr := by
  refine ⟨?_, h.bel⟩
  show Ow KV _ B _ _ (if (sa c k).1 = p then (nmK p n c k).set k ((sa c k).1, n) else nmK p n c k)
  rw [if_neg e]
  exact h.own
/-- What the walk reads at place k. -/
theorem Nk.at {a1 : Option Addr} {n1 cap : Nat} {p n : Int} {k : Nat} (h : Nk w B p n c (.slice a1 n1 cap) k wr) (hn : c.length = n1) (hk : k < n1) : ∃ g, a1 = some ⟨g, 0, none⟩ ∧ B ≤ g ∧ wr.cell? ⟨g, k * 2, none⟩ = some (.int .u64 (sa c k).1) ∧ wr.cell? ⟨g, k * 2 + 1, none⟩ = some (.int .i64 (sa c k).2) ∧ wr.frozen? ⟨g, k * 2 + 1, none⟩ = false := by
  obtain ⟨h1, h2⟩ := nmK_spec p n c k (by omega)
  have hs : sa (nmK p n c k) k = sa c k := by rw [h2, if_neg (by omega)]
  obtain ⟨g, cap', e, hg, _, _, _, hfz, hA⟩ := h.own.form (by omega)
  injection e with e1 e2 e3
  obtain ⟨d0, d1⟩ := atV hA (i := k) (by omega)
  rw [hs] at d0 d1
  simp only [Nat.zero_add] at d0 d1
  exact ⟨g, e1, hg, d0, d1, hfz _⟩
end

set_option maxHeartbeats 4000000 in
set_option maxRecDepth 100000 in
theorem rrun_any (w : World) (v u : Value) (l : List S) (L : List Bool) (R : Rd KV w v l) (F : Fit l) (G : Rd KG w u L) (hl : l.length ≤ 260) (hL : L.length ≤ 1000) (most : Int) : Calls Try.prog 10 #[v, .int .i64 most, u] w (RunPost w l most L) := by
  have HL := Lib.hid hl
  have HLL := Lib.hid hL
  have ST : Hid (∀ u wr, Ow KV wr w.heap.size 41 u ([] ++ l) → Below w.heap.size w wr → Rs w w.heap.size l most L u (L.length + l.length + 1) 0 l wr) := fun u wr h b => Rs.start (by rw [List.nil_append] at h; exact h) b F
  have GG := Lib.hid G
  have O := Lib.hid (Ow.made (K := KV) w w.heap.size 41 (Nat.le_refl _))
  have BB := Lib.hid ((Below.refl w.heap.size w).alloc (Nat.le_refl _) (.cells #[] 41))
  have RB := Lib.hid (R.below BB.out)
  obtain ⟨a, cap, rfl, _⟩ := R.slice
  obtain ⟨a', cap', rfl, _⟩ := G.slice
  clear R F G hl hL
  go_enter Try.func10, Try.ntmps10
  go_wp2_with (at_builtin; refine Rw.all_step Try.underlying22 infoV rfl (by omega) rfl _ _ rfl w.heap.size _ _ rfl O.out _ _ rfl RB.out ?c1 ?c2 ?_)
  case c1 => have := HL.out; simp; omega
  case c2 => simp
  intro uo w1 o1 b1
  have A1 := Lib.hid (ST.out _ _ o1 (BB.out.trans b1))
  clear ST o1 b1 RB O BB
  obtain ⟨a1, c1, rfl, _, hc1⟩ := A1.out.own.slice
  generalize hn : l.length = n at *
  have HN := Lib.hid hn
  clear hn
  generalize hn' : L.length = n' at *
  have HN' := Lib.hid hn'
  clear hn'
  go_wp2
  go_loopg [10] (n' + n + 1) (fun gg z wr => ∃ (r : Nat) (c : List S), z = .int .i64 r ∧ Hid (Rs w w.heap.size l most L (.slice a1 n c1) gg r c wr))
  case atStart => exact ⟨0, l, rfl, A1⟩
  case round =>
    clear A1
    obtain ⟨r, c, rfl, I⟩ := hrel
    have rm := I.out.room (by rw [HN.out]; exact HL.out) (by rw [HN'.out]; exact HLL.out)
    have CN := Lib.hid (rleast_any wr _ c I.out.own.rd)
    have CF := Lib.hid (fun W (b : Below wr.heap.size wr W) => rfree_any W _ c (I.out.own.rd.below b) most)
    have G0 := Lib.hid (GG.out.below (I.out.bel))
    have CS := Lib.hid (fun W (b : Below wr.heap.size wr W) => rsearch_any W _ _ c L r (I.out.own.rd.below b) (G0.out.below b) (by omega))
    have CG := Lib.hid (fun W (b : Below wr.heap.size wr W) => rgone_any W _ L (G0.out.below b) r)
    have HLc := Lib.hid (I.out.len.trans HN.out)
    unfold RleastPost at CN
    generalize lsP c = lp at *
    unfold FreePost at CF
    unfold SearchPost at CS
    by_cases hP : 0 ≤ ls c ∧ fr c most = 0
    · have hb : frB c most = false := by
        cases q : frB c most with
        | false => rfl
        | true => have := fr_pos.1 q; omega
      have FULL := Lib.hid (fun w' (b : Below wr.heap.size wr w') => (I.out.below b I.out.bel.size).full hP)
      obtain ⟨hz, _⟩ := hP
      rw [hb] at CF
      clear I CS CG hb G0
      generalize ls c = z at *
      generalize (fr c most : Int) = m at *
      go_wp2_with fail
      refine CN.out.mono ?_
      rintro e w2 ⟨rfl, b2⟩
      have B2 := Lib.hid b2
      have C3 := Lib.hid (CF.out w2 b2)
      clear b2 CN CF
      go_wp2_with fail
      refine C3.out.mono ?_
      rintro e w3 ⟨rfl, b3⟩
      have E := Lib.hid (FULL.out _ (B2.out.trans (b3.mono B2.out.size)))
      clear b3 C3 FULL B2
      go_wp2
      go_ret3
      exact E.out
    · have HP := Lib.hid hP
      have hcase : ls c < 0 ∨ (0 ≤ ls c ∧ frB c most = true) := by
        by_cases q : 0 ≤ ls c
        · exact .inr ⟨q, fr_pos.2 (Nat.pos_of_ne_zero fun g => hP ⟨q, g⟩)⟩
        · exact .inl (by omega)
      have DONE := Lib.hid (fun w' (b : Below wr.heap.size wr w') h => (I.out.below b I.out.bel.size).done HP.out h)
      have AGAIN := Lib.hid (fun w' (b : Below wr.heap.size wr w') h h2 => (I.out.below b I.out.bel.size).again HP.out h h2)
      have NAMED := Lib.hid (fun w' h own bel => I.out.named (w' := w') HP.out h own bel)
      have OWN := Lib.hid (fun w' (b : Below wr.heap.size wr w') => (I.out.below b I.out.bel.size).own)
      have BEL := Lib.hid (fun w' (b : Below wr.heap.size wr w') => (I.out.below b I.out.bel.size).bel)
      have w1' : IntKind.i64.wrap ((r : Int) + 1) = (r : Int) + 1 := IntWalk.i64_in _ (by omega)
      have w66 : IntKind.i64.wrap ((r : Int) + 66) = (r : Int) + 66 := IntWalk.i64_in _ (by omega)
      clear hP HP I G0
      generalize ls c = z at *
      generalize frB c most = q at *
      generalize (fr c most : Int) = m at *
      have Z0 := Lib.hid hcase
      clear hcase
      have X0 : Hid (sN c L r = 1 ∨ sN c L r = 66) := Lib.hid (s_many c L r)
      have X1 : Hid (sB c L r = true → sN c L r = 66) := Lib.hid (fun h => (s_found h).1)
      generalize hsB : sB c L r = b at *
      generalize hsP : sP c L r = p at *
      generalize hsN : sN c L r = k at *
      generalize hg : gon L r = g at *
      clear hsB hsP hsN hg
      rcases Z0.out with hz | ⟨hz, rfl⟩
      all_goals
        clear Z0
        go_wp2_with fail
        refine CN.out.mono ?_
        rintro e w2 ⟨rfl, b2⟩
        have B2 := Lib.hid b2
        have C3 := Lib.hid (CF.out w2 b2)
        clear b2 CN CF
        go_wp2_with fail
        refine C3.out.mono ?_
        rintro e w3 ⟨rfl, b3⟩
        have B3 := Lib.hid (B2.out.trans (b3.mono B2.out.size))
        have C4 := Lib.hid (CS.out w3 B3.out)
        clear b3 C3 B2 CS
        cases b with
        | true =>
          obtain rfl := X1.out rfl
          have N2 := Lib.hid (fun w' own bel => NAMED.out w' rfl own bel)
          clear X0 X1 CG DONE AGAIN NAMED
          have C5 : Hid (Calls Try.prog 12 #[.slice a1 n c1, .slice a' n' cap', .int .i64 r] w3 fun e w' => e = .returned (.tuple #[.int .u64 p, .int .i64 66, .bool true]) ∧ Below w3.heap.size w3 w') := C4.out
          clear C4
          go_wp2_with fail
          refine C5.out.mono ?_
          rintro e w4 ⟨rfl, b4⟩
          have B4 := B3.out.trans (b4.mono B3.out.size)
          have M0 : Hid (Nk w w.heap.size p m c (.slice a1 n c1) 0 w4) := Lib.hid ⟨OWN.out w4 B4, BEL.out w4 B4⟩
          clear b4 B4 C5 B3 OWN BEL
          go_wp2
          generalize hr66 : (r : Int) + 66 = r66 at *
          have HR := Lib.hid hr66
          clear hr66
          have hn260 : n ≤ 260 := HL.out
          have w67 : IntKind.i64.wrap (r66 + 1) = r66 + 1 := IntWalk.i64_in _ (by have := HR.out; omega)
          go_loopw [18] (fun i wr => ∃ j : Nat, j ≤ n ∧ i = .int .i64 j ∧ Hid (Nk w w.heap.size p m c (.slice a1 n c1) j wr)) (fun i _ => n - (intOf i).toNat)
          case atStart => exact ⟨0, Nat.zero_le _, rfl, M0⟩
          case round =>
            clear M0
            obtain ⟨j, hj, rfl, M⟩ := hrel
            by_cases hjt : j < n
            · obtain ⟨g, rfl, hg, c0, c1', fz⟩ := M.out.at HLc.out hjt
              by_cases hp : (sa c j).1 = p
              · have NX := Lib.hid (Nk.set (by rw [HLc.out]; exact M.out) (by rw [HLc.out]; exact hjt) hp hg)
                rw [HLc.out] at NX
                have q2 : ((sa c j).1 == p) = true := beq_iff_eq.2 hp
                have q2' : decide ((sa c j).1 = p) = true := decide_eq_true hp
                clear hp M N2
                generalize sa c j = x at *
                go_wp2
                go_roundw
                case rel => exact ⟨j + 1, by omega, by go_num, NX⟩
                case measure => simp [intOf]; omega
              · have NX := Lib.hid (M.out.stay hp)
                have q2 : ((sa c j).1 == p) = false := beq_eq_false_iff_ne.2 hp
                have q2' : decide ((sa c j).1 = p) = false := decide_eq_false hp
                clear hp M N2
                generalize sa c j = x at *
                go_wp2
                go_roundw
                case rel => exact ⟨j + 1, by omega, by go_num, NX⟩
                case measure => simp [intOf]; omega
            · obtain rfl : j = n := by omega
              have E := Lib.hid (N2.out wr (by have := M.out.own; rw [← HLc.out, nmK_all] at this; rw [← HLc.out]; exact this) M.out.bel)
              clear N2 M
              go_wp2
              go_roundg (gk - 1)
              case rel => exact ⟨r + 67, nm p m c, by have := HR.out; go_num, Lib.hid E.out.1⟩
              case measure => exact E.out.2
        | false =>
          clear NAMED OWN BEL X1
          rcases X0.out with rfl | rfl
          · have C5 : Hid (Calls Try.prog 12 #[.slice a1 n c1, .slice a' n' cap', .int .i64 r] w3 fun e w' => e = .returned (.tuple #[.int .u64 p, .int .i64 1, .bool false]) ∧ Below w3.heap.size w3 w') := C4.out
            clear C4 X0 w66
            cases g with
            | false =>
              have E1 := Lib.hid (fun w' b => DONE.out w' b ⟨rfl, rfl, rfl⟩)
              clear DONE AGAIN
              go_wp2_with fail
              refine C5.out.mono ?_
              rintro e w4 ⟨rfl, b4⟩
              have B4 := Lib.hid (B3.out.trans (b4.mono B3.out.size))
              have C6 := Lib.hid (CG.out w4 B4.out)
              clear b4 C5 B3 CG
              go_wp2_with fail
              refine C6.out.mono ?_
              rintro e w5 ⟨rfl, b5⟩
              have E := Lib.hid (E1.out w5 (B4.out.trans (b5.mono B4.out.size)))
              rw [show ((r + 1 : Nat) : Int) = (r : Int) + 1 by omega] at E
              clear b5 C6 B4 E1
              go_wp2
              go_ret3
              exact E.out
            | true =>
              have N1 := Lib.hid (fun w' b => AGAIN.out w' b (fun h => by cases h.2.2) rfl)
              clear DONE AGAIN
              go_wp2_with fail
              refine C5.out.mono ?_
              rintro e w4 ⟨rfl, b4⟩
              have B4 := Lib.hid (B3.out.trans (b4.mono B3.out.size))
              have C6 := Lib.hid (CG.out w4 B4.out)
              clear b4 C5 B3 CG
              go_wp2_with fail
              refine C6.out.mono ?_
              rintro e w5 ⟨rfl, b5⟩
              have E := Lib.hid (N1.out w5 (B4.out.trans (b5.mono B4.out.size)))
              clear b5 C6 B4 N1
              go_wp2
              go_roundg (gk - 1)
              case rel => exact ⟨r + 1, c, by go_num, Lib.hid E.out.1⟩
              case measure => exact E.out.2
          · have C5 : Hid (Calls Try.prog 12 #[.slice a1 n c1, .slice a' n' cap', .int .i64 r] w3 fun e w' => e = .returned (.tuple #[.int .u64 p, .int .i64 66, .bool false]) ∧ Below w3.heap.size w3 w') := C4.out
            have N1 := Lib.hid (fun w' b => AGAIN.out w' b (fun h => absurd h.2.1 (by decide)) rfl)
            clear C4 X0 DONE AGAIN CG w1'
            go_wp2_with fail
            refine C5.out.mono ?_
            rintro e w4 ⟨rfl, b4⟩
            have E := Lib.hid (N1.out w4 (B3.out.trans (b4.mono B3.out.size)))
            clear b4 C5 B3 N1
            go_wp2
            go_roundg (gk - 1)
            case rel => exact ⟨r + 66, c, by go_num, Lib.hid E.out.1⟩
            case measure => exact E.out.2

end Go.Proofs.Ytbbbempdaipmnaa.Bp
