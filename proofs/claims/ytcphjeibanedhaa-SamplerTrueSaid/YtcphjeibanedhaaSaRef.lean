/- The document's own Bits of layer 5, what lies beside it, and the statements' small words: few spans, calm oscillators. -/
import Derived.Test.YtcphjeibanedhaaSaMath
import Derived.Test.YtcphjeibanedhaaTkGlob
import Derived.Test.YtcphjeibanedhaaTkRGood
import Derived.Test.YtcphjeibanedhaaUaRef
namespace Go.Proofs.Ytcphjeibanedhaa.Sa
open Go.RowKit Go.Proofs.Ytcphjeibanedhaa.Sp
open Go.Proofs.Ytcphjeibanedhaa.Tk (GoodP Glo rglobal_any rlocal_any rgood_any goodB goodB_true)
open Go.Proofs.Ytcphjeibanedhaa.Wi (PlainOf lowB rlow_any Near near_nil near_snoc Few FewRel Made push_step)
open Go.Proofs.Ytcphjeibanedhaa.Ua (arr upd Row no copy_frame results_frame ret_arr below_setRow store_new)

/-- What has been heard ahead of bit k. -/
def hf (low : Int → Bool) (g : Int → Int) (N : Int) (k i : Nat) : Bool := if i < k then heard low g N i else false
theorem hf_0 (low : Int → Bool) (g : Int → Int) (N : Int) (i : Nat) : false = hf low g N 0 i := by unfold hf; rw [if_neg (by omega)]
theorem hf_all (low : Int → Bool) (g : Int → Int) (N : Int) (i : Nat) (h : i < 11) : hf low g N 11 i = heard low g N i := by unfold hf; rw [if_pos h]
theorem hf_step (low : Int → Bool) (g : Int → Int) (N : Int) (k : Nat) {x : Bool} (e : x = heard low g N k) (i : Nat) : upd (hf low g N k) k x i = hf low g N (k + 1) i := by
  unfold upd hf
  by_cases c : i = k
  · subst c; rw [if_pos rfl, if_pos (by omega), e]
  · rw [if_neg c]
    by_cases d : i < k
    · rw [if_pos d, if_pos (by omega)]
    · rw [if_neg d, if_neg (by omega)]
theorem Loc_all (A R : Nat → Int) (n : Nat) (g : GoodP n A R) (t : Int) : 0 ≤ Tk.Loc A R n t ∧ Tk.Loc A R n t ≤ 4400000000 := by
  have h0 := Tk.clamp_lo t
  have h1 := Tk.clamp_hi t
  have := Tk.PP_bd g (Tk.clamp t) h0
  unfold Tk.Loc
  omega

/-- The result's block and the frame's, in which all else is as it was. -/
structure RTwo (w : World) (b : Nat) (wr : World) (F : Nat → Bool) : Prop where
  res : Row wr w.heap.size no
  row : Row wr b F
  bel : Below w.heap.size w wr
  lt : w.heap.size < b
theorem RTwo.set_ {w wr : World} {b : Nat} {F : Nat → Bool} (h : RTwo w b wr F) (k : Nat) (hk : k < 11) (x : Bool) : RTwo w b (wr.setCell ⟨b, k, none⟩ (.bool x)) (upd F k x) :=
  ⟨h.res.far (by have := h.lt; simp; omega) _, h.row.set_ k hk x, h.bel.setCell (by have := h.lt; simp; omega) _, h.lt⟩
theorem RTwo.below {w wr w1 : World} {b : Nat} {F : Nat → Bool} (h : RTwo w b wr F) (hb : Below wr.heap.size wr w1) : RTwo w b w1 F :=
  ⟨h.res.below hb h.res.lt, h.row.below hb h.row.lt, h.bel.trans (hb.mono h.bel.size), h.lt⟩
theorem RTwo.to {w wr : World} {b : Nat} {F G : Nat → Bool} (h : RTwo w b wr F) (e : ∀ i, i < 11 → F i = G i) : RTwo w b wr G := ⟨h.res, h.row.to e, h.bel, h.lt⟩

set_option maxHeartbeats 1000000 in
theorem rbits_any (w : World) (v u : Value) (l : List S2) (P : Sp w v l) (n : Nat) (A R : Nat → Int) (S : Tk.Steps w u n A R) (g : GoodP n A R) (t : Int) :
    Calls Try.prog 11 #[v, u, .int .i64 t] w fun e w' => e = .returned (.agg (arr (heard (lowB l) (Glo A R n) (Tk.Loc A R n t)))) ∧ Below w.heap.size w w' := by
  have hb0 := (Below.refl w.heap.size w).alloc (Nat.le_refl _) (.cells (arr no) 34)
  have R0 := Lib.hid (Row.new w no)
  have P0 := Lib.hid P
  have S0 := Lib.hid S
  have G := Lib.hid g
  have N := Loc_all A R n g t
  have LA := Lib.hid (rlocal_any _ u n A R (S.below hb0) g t)
  have B0 := Lib.hid hb0
  clear P S g hb0
  go_enter Try.func11, Try.ntmps11
  go_wp2_with fail
  refine LA.out.mono ?_
  rintro e w1 ⟨rfl, b1⟩
  have T1 : Hid (RTwo w w1.heap.size (w1.alloc (.cells (arr no) 34)) (hf (lowB l) (Glo A R n) (Tk.Loc A R n t) 0)) := by
    have z0 := R0.out.lt
    have z1 := b1.size
    have bb := B0.out.trans (b1.mono B0.out.size)
    refine ⟨(R0.out.below b1 z0).alloc _, (Row.new w1 no).to (fun i _ => hf_0 _ _ _ i), bb.alloc bb.size _, by omega⟩
  clear b1 LA B0 R0
  generalize hL : Tk.Loc A R n t = L at *
  have HL := Lib.hid hL
  clear hL
  obtain ⟨N0, N1⟩ := N
  go_wp2_with ((with_reducible refine store_new (o := ⟨none, _, _, _, _, _⟩) rfl _ _ rfl no ?_ ?_ ?_); (exact rfl); (exact rfl))
  generalize w1.heap.size = b at *
  generalize w1.alloc (.cells (arr no) 34) = W at *
  go_loopw [9] (fun i wr => ∃ k : Nat, k ≤ 11 ∧ i = .int .i64 k ∧ Hid (RTwo w b wr (hf (lowB l) (Glo A R n) L k))) (fun i _ => 11 - (intOf i).toNat)
  case atStart => exact ⟨0, by omega, rfl, T1⟩
  case round =>
    obtain ⟨k, hk, rfl, T⟩ := hrel
    by_cases hlt : k < 11
    · have HS : Hid (∀ x, x = maj (!lowB l (Glo A R n (L + 16 * k + 7))) (!lowB l (Glo A R n (L + 16 * k + 8))) (!lowB l (Glo A R n (L + 16 * k + 9))) → ∀ i, upd (hf (lowB l) (Glo A R n) L k) k x i = hf (lowB l) (Glo A R n) L (k + 1) i) := fun x e => hf_step (lowB l) (Glo A R n) L k e
      have p0 := P0.out.below T.out.bel
      have s0 := S0.out.below T.out.bel
      have p0' := Lib.hid p0
      have s0' := Lib.hid s0
      clear p0 s0
      go_wp2_with fail
      refine (rglobal_any _ _ _ _ _ (L + 16 * k + 7) s0'.out G.out).mono ?_
      rintro e w2 ⟨rfl, b2⟩
      have T2 := Lib.hid (T.out.below b2)
      have p2 := Lib.hid (p0'.out.below b2)
      have s2 := Lib.hid (s0'.out.below b2)
      clear b2 p0' s0' T
      go_wp2_with fail
      refine (rlow_any _ _ _ p2.out _).mono ?_
      rintro e w' ⟨rfl, rfl⟩
      go_wp2_with fail
      refine (rglobal_any _ _ _ _ _ (L + 16 * k + 8) s2.out G.out).mono ?_
      rintro e w3 ⟨rfl, b3⟩
      have T3 := Lib.hid (T2.out.below b3)
      have p3 := Lib.hid (p2.out.below b3)
      have s3 := Lib.hid (s2.out.below b3)
      clear b3 p2 s2 T2
      go_wp2_with fail
      refine (rlow_any _ _ _ p3.out _).mono ?_
      rintro e w' ⟨rfl, rfl⟩
      go_wp2_with fail
      refine (rglobal_any _ _ _ _ _ (L + 16 * k + 9) s3.out G.out).mono ?_
      rintro e w4 ⟨rfl, b4⟩
      have T4 := Lib.hid (T3.out.below b4)
      have p4 := Lib.hid (p3.out.below b4)
      clear b4 p3 s3 T3
      go_wp2_with fail
      refine (rlow_any _ _ _ p4.out _).mono ?_
      rintro e w' ⟨rfl, rfl⟩
      have c := T4.out.row.cell k (by omega)
      have f := T4.out.row.frozen k
      generalize lowB l (Glo A R n (L + 16 * k + 7)) = x at *
      generalize lowB l (Glo A R n (L + 16 * k + 8)) = y at *
      generalize lowB l (Glo A R n (L + 16 * k + 9)) = z at *
      cases x <;> cases y <;> cases z
      all_goals
        go_wp2
        go_roundw
        case rel => exact ⟨k + 1, by omega, by go_num, Lib.hid ((T4.out.set_ k (by omega) _).to (fun i _ => HS.out _ rfl i))⟩
        case measure => simp [intOf]; omega
    · obtain rfl : k = 11 := by omega
      go_wp2_with ((with_reducible refine copy_frame (o := ⟨some 67, _, _, _, _, _⟩) rfl rfl _ _ _ rfl rfl rfl _ _ _ _ ?_ ?_ ?_ T.out.row T.out.res ?_); (exact rfl); (exact rfl); (exact rfl))
      refine bodyPost_ret (results_frame rfl _ _ _ _ rfl (T.out.res.row _)) rfl ⟨ret_arr fun i hi => by rw [HL.out]; exact hf_all _ _ _ i hi, ?_⟩
      exact below_setRow T.out.bel _ _ (Nat.le_refl _)

set_option maxHeartbeats 800000 in
theorem few_any (w : World) (v : Value) (l : List S2) (h : Sp w v l) : Calls Try.prog 7 #[v] w (Made w Few) := by
  obtain ⟨a, cap, rfl, h1, h2, h3⟩ := h
  have H3 := Lib.hid h3
  clear h3
  generalize hn : l.length = n at *
  have HN := Lib.hid hn
  clear hn
  unfold maxLen at h2
  go_enter Try.func7, Try.ntmps7
  go_wp2
  go_loopw [3, 4] (fun v i wr => ∃ k : Nat, k ≤ n ∧ k ≤ 16 ∧ i = .int .i64 k ∧ FewRel w.heap.size w v k wr) (fun _ i _ => n - (intOf i).toNat)
  case atStart => exact ⟨0, Nat.zero_le _, by omega, rfl, [], Own.made _ _ _ (Nat.le_refl _), by simp, near_nil, (Below.refl _ _).alloc (Nat.le_refl _) _, rfl⟩
  case round =>
    obtain ⟨k, hk, hk2, rfl, x, hown, hx, hN, hb, _⟩ := hrel
    have hB := hb.size
    by_cases hlt : k < n
    · by_cases h20 : k < 16
      · obtain ⟨b, off, rfl, hA⟩ := H3.out (by omega)
        obtain ⟨c1, c2⟩ := hA k (by have := HN.out; omega)
        have d1 := (hb.cell (World.block_lt_of_cell? _ _ c1)).trans c1
        have d2 := (hb.cell (World.block_lt_of_cell? _ _ c2)).trans c2
        have HA := Lib.hid hA
        clear c1 c2 hA
        by_cases h4 : -1099511627776 ≤ fr l k ∧ fr l k ≤ 1099511627776 ∧ -1099511627776 ≤ tp l k ∧ tp l k ≤ 1099511627776
        · obtain ⟨p0, p1, q0, q1⟩ := h4
          go_wp2_with (at_builtin; refine push_step rfl _ _ rfl w.heap.size _ _ rfl ((hown.alloc _).alloc _) _ (fr l k) (tp l k) rfl ?c1 ?c2 ?c3 ?c4 ?_)
          case c3 => omega
          case c4 => omega
          intro v' w1 hown1 hb1
          have R : FewRel w.heap.size w v' (k + 1) w1 := ⟨_, hown1, by simp; omega, near_snoc hN p0 p1 q0 q1, ((hb.alloc hB _).alloc (by simp; omega) _).trans hb1, rfl⟩
          clear hown1 hb1 hown
          go_wp2
          go_roundw
          case rel => exact ⟨k + 1, by omega, by omega, by go_num, R⟩
          case measure => simp [intOf]; omega
        · have R : FewRel w.heap.size w _ (k + 1) (wr.alloc (.cells #[.int .i64 (fr l k), .int .i64 (tp l k)] 44)) := ⟨x, hown.alloc _, by omega, hN, hb.alloc hB _, rfl⟩
          clear hown hb
          go_wp2
          all_goals first
            | (exfalso; omega)
            | (go_roundw
               case rel => exact ⟨k + 1, by omega, by omega, by go_num, R⟩
               case measure => simp [intOf]; omega)
      · go_wp2
        go_ret
        exact ⟨_, x, rfl, hown, ⟨by omega, hN⟩, hb⟩
    · go_wp2
      go_ret
      exact ⟨_, x, rfl, hown, ⟨by omega, hN⟩, hb⟩

/-- What calm answers: if it is true, the steps are calm. -/
def CalmPost (w : World) (n : Nat) (A R : Nat → Int) (e : Ending) (w' : World) : Prop := ∃ b : Bool, e = .returned (.bool b) ∧ (b = true → Calm n A R 10000) ∧ Below w.heap.size w w'

set_option maxHeartbeats 400000 in
theorem calm_some (w : World) (b off n cap : Nat) (h1 : n ≤ cap) (hn : cap ≤ maxLen) (A R : Nat → Int)
    (hc : ∀ i, i < n → w.cell? ⟨b, off + i * 2, none⟩ = some (.int .i64 (A i)) ∧ w.cell? ⟨b, off + i * 2 + 1, none⟩ = some (.int .i64 (R i))) :
    Calls Try.prog 12 #[.slice (some ⟨b, off, none⟩) n cap] w (CalmPost w n A R) := by
  have RG := Lib.hid (rgood_any w (.slice (some ⟨b, off, none⟩) n cap) n A R (.inr ⟨b, off, cap, rfl, h1, hn, hc⟩))
  have HC := Lib.hid hc
  clear hc
  unfold maxLen at hn
  go_enter Try.func12, Try.ntmps12
  go_wp2
  go_loop [3] (fun i => ∃ k : Nat, k ≤ n ∧ i = .int .i64 k ∧ Hid (∀ j, j < k → -10000 ≤ R j ∧ R j ≤ 10000)) (fun i => n - (intOf i).toNat)
  case atStart => exact ⟨0, Nat.zero_le _, rfl, fun j hj => by omega⟩
  case round =>
    obtain ⟨k, hk, rfl, hs⟩ := hrel
    by_cases hlt : k < n
    · have c2 := (HC.out k hlt).2
      by_cases p1 : R k < -10000
      · go_wp2
        go_ret
        exact ⟨false, rfl, nofun, Below.refl _ _⟩
      · by_cases p2 : 10000 < R k
        · go_wp2
          go_ret
          exact ⟨false, rfl, nofun, Below.refl _ _⟩
        · have ST : Hid (∀ j, j < k + 1 → -10000 ≤ R j ∧ R j ≤ 10000) := fun j hj => by
            by_cases e : j = k
            · subst e; omega
            · exact hs.out j (by omega)
          go_wp2
          go_round
          case rel => exact ⟨k + 1, by omega, by go_num, ST⟩
          case measure => simp [intOf]; omega
    · obtain rfl : k = n := by omega
      go_wp2_with fail
      refine RG.out.mono ?_
      rintro e w1 ⟨rfl, b1⟩
      have B1 := Lib.hid b1
      clear b1
      go_wp2
      go_ret
      exact ⟨_, rfl, fun h => ⟨goodB_true.1 h, by omega, hs.out⟩, B1.out⟩

theorem calm_none (w : World) (a : Option Addr) (cap : Nat) (hn : cap ≤ maxLen) (A R : Nat → Int) : Calls Try.prog 12 #[.slice a 0 cap] w (CalmPost w 0 A R) := by
  have RG := Lib.hid (rgood_any w (.slice a 0 cap) 0 A R (.inl ⟨a, cap, rfl, hn, rfl⟩))
  go_enter Try.func12, Try.ntmps12
  go_wp2
  go_loop [3] (fun i => i = .int .i64 0) (fun _ => 0)
  case atStart => exact rfl
  case round =>
    obtain rfl := hrel
    go_wp2_with fail
    refine RG.out.mono ?_
    rintro e w1 ⟨rfl, b1⟩
    have B1 := Lib.hid b1
    clear b1
    go_wp2
    go_ret
    exact ⟨_, rfl, fun h => ⟨goodB_true.1 h, by omega, fun i hi => by omega⟩, B1.out⟩

theorem calm_any (w : World) (v : Value) (n : Nat) (A R : Nat → Int) (S : Tk.Steps w v n A R) : Calls Try.prog 12 #[v] w (CalmPost w n A R) := by
  rcases S with ⟨a, cap, rfl, h, rfl⟩ | ⟨b, off, cap, rfl, h1, h2, hc⟩
  · exact calm_none w a cap h A R
  · exact calm_some w b off n cap h1 h2 A R hc

end Go.Proofs.Ytcphjeibanedhaa.Sa
