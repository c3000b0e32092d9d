/- baptize.find: search by search, till somebody is found, or nobody is left. -/
import Derived.Test.YtbbbempdaipmnaaBpEar
namespace Go.Proofs.Ytbbbempdaipmnaa.Bp
open Go.RowKit
open Go.Proofs.Ytbbbempdaipmnaa.Rw (Rd Ow At)
open Go.Proofs.Ytbbbempdaipmnaa.Fl (ret_bool at_bool row_cell)
open Go.Proofs.Ytbbbempdaipmnaa.Nm (S zS sa sa_get sa_set mem_sa Gd KV atV Fit ret_i64 ls fr)

theorem sK_drop (l : List S) (L : List Bool) (r i : Nat) : ∀ k, sK l (L.drop r) i k = sK l L (r + i) k
  | 0 => rfl
  | k + 1 => by
    show nxt l (gon (L.drop r) (i + (k + 1))) (sK l (L.drop r) i k) = nxt l (gon L (r + i + (k + 1))) (sK l L (r + i) k)
    rw [gon_drop, sK_drop l L r i k, Nat.add_assoc]
theorem off_drop (l : List S) (L : List Bool) (r i : Nat) : off l (L.drop r) i = off l L (r + i) := by unfold off; rw [gon_drop]
theorem fd_drop (l : List S) (L : List Bool) (r i : Nat) : fd l (L.drop r) i = fd l L (r + i) := by unfold fd; rw [gon_drop, sK_drop, Nat.add_assoc]
theorem sB_drop (l : List S) (L : List Bool) (r i : Nat) : sB l (L.drop r) i = sB l L (r + i) := by unfold sB; rw [off_drop, fd_drop]
theorem sN_drop (l : List S) (L : List Bool) (r i : Nat) : sN l (L.drop r) i = sN l L (r + i) := by unfold sN; rw [off_drop]
theorem sP_drop (l : List S) (L : List Bool) (r i : Nat) : sP l (L.drop r) i = sP l L (r + i) := by unfold sP; rw [sB_drop, sK_drop]
theorem search_at (w : World) (v u : Value) (l : List S) (L : List Bool) (q : Nat) (R : Rd KV w v l) (G : Rd KG w u (L.drop q)) : Calls Try.prog 11 #[v, u] w (SearchPost w l L q) :=
  (search_any w v u l (L.drop q) R G).mono fun e w' h => by
    unfold SearchPost at h ⊢
    rw [sP_drop, sN_drop, sB_drop] at h
    exact h
theorem missed_at (w : World) (u : Value) (L : List Bool) (q : Nat) (G : Rd KG w u (L.drop q)) : Calls Try.prog 35 #[u, .int .i64 0] w fun e w' => e = .returned (.bool (gon L q)) ∧ w' = w :=
  (missed_any w u (L.drop q) G 0).mono fun e w' h => by
    rw [gon_drop] at h
    exact h
/-- Nobody was found, again and again, but it may be that somebody is left. -/
inductive Ag (c : List S) (L : List Bool) (r : Nat) : Nat → Prop
  | nil : Ag c L r r
  | snoc {q : Nat} : Ag c L r q → ¬ (sB c L q = false ∧ sN c L q = 1 ∧ gon L q = false) → sB c L q = false → Ag c L r (q + sN c L q)
theorem Ag.drop {c : List S} {L : List Bool} {r q : Nat} (h : Ag c (L.drop r) 0 q) : Ag c L r (r + q) := by
  induction h with
  | nil => exact .nil
  | snoc _ h1 h2 ih =>
    rw [sB_drop, sN_drop, gon_drop] at h1
    rw [sB_drop] at h2
    rw [sN_drop, ← Nat.add_assoc]
    exact .snoc ih h1 h2
def FindPost (w : World) (l : List S) (M : List Bool) (e : Ending) (w' : World) : Prop := ∃ q : Nat, Ag l M 0 q ∧ Below w.heap.size w w' ∧ ((sB l M q = true ∧ e = .returned (.tuple #[.int .i64 (ix (qh (sP l M q)) l), .int .i64 ((q : Int) + 66)])) ∨ ((sB l M q = false ∧ sN l M q = 1 ∧ gon M q = false) ∧ e = .returned (.tuple #[.int .i64 (-1), .int .i64 ((q : Int) + 1)])))

set_option maxHeartbeats 4000000 in
theorem find_any (w : World) (v u : Value) (l : List S) (M : List Bool) (R : Rd KV w v l) (F : Fit l) (G : Rd KG w u M) (hM : M.length ≤ 1000) : Calls Try.prog 20 #[v, u] w (FindPost w l M) := by
  have CB := Lib.hid (fun W (b : Below w.heap.size w W) q => behind_any W u M (G.below b) q)
  have CS := Lib.hid (fun W (b : Below w.heap.size w W) u' q (G' : Rd KG W u' (M.drop q)) => search_at W v u' l M q (R.below b) G')
  have CN := Lib.hid (fun W (b : Below w.heap.size w W) c => nameless_any W v l (R.below b) c)
  have CM := Lib.hid (fun W u' q (G' : Rd KG W u' (M.drop q)) => missed_at W u' M q G')
  have YES : Hid (∀ q w', Ag l M 0 q → Below w.heap.size w w' → sB l M q = true → FindPost w l M (.returned (.tuple #[.int .i64 (ix (qh (sP l M q)) l), .int .i64 ((q : Int) + 66)])) w') := Lib.hid (fun q w' h b e => ⟨q, h, b, .inl ⟨e, rfl⟩⟩)
  have NO : Hid (∀ q w', Ag l M 0 q → Below w.heap.size w w' → (sB l M q = false ∧ sN l M q = 1 ∧ gon M q = false) → FindPost w l M (.returned (.tuple #[.int .i64 (-1), .int .i64 ((q : Int) + 1)])) w') := Lib.hid (fun q w' h b e => ⟨q, h, b, .inr ⟨e, rfl⟩⟩)
  have AG : Hid (∀ q, Ag l M 0 q → ¬ (sB l M q = false ∧ sN l M q = 1 ∧ gon M q = false) → sB l M q = false → q < M.length ∧ Ag l M 0 (q + sN l M q)) := Lib.hid (fun q h h1 h2 => ⟨(again_mu (fit_low F) h1 h2).1, .snoc h h1 h2⟩)
  obtain ⟨a, cap, rfl, _⟩ := R.slice
  obtain ⟨a', cap', rfl, _⟩ := G.slice
  clear R G F
  generalize l.length = n at *
  generalize M.length = n' at *
  go_enter Try.func20, Try.ntmps20
  go_wp2
  go_loopw [5] (fun i wr => ∃ q : Nat, q ≤ n' + 66 ∧ i = .int .i64 q ∧ Hid (Ag l M 0 q) ∧ Hid (Below w.heap.size w wr)) (fun i _ => n' - (intOf i).toNat)
  case atStart => exact ⟨0, by omega, rfl, .nil, Below.refl _ _⟩
  case round =>
    obtain ⟨q, hq, rfl, ag, bw⟩ := hrel
    have C1 := Lib.hid (CB.out wr bw.out q)
    have Y := Lib.hid (fun w' b h => YES.out q w' ag.out b h)
    have N := Lib.hid (fun w' b h => NO.out q w' ag.out b h)
    have A := Lib.hid (fun h1 h2 => AG.out q ag.out h1 h2)
    have X0 : Hid (sN l M q = 1 ∨ sN l M q = 66) := Lib.hid (s_many l M q)
    have X1 : Hid (sB l M q = true → sN l M q = 66) := Lib.hid (fun h => (s_found h).1)
    have CS1 := Lib.hid (fun W b u' G' => CS.out W b u' q G')
    have CM1 := Lib.hid (fun W u' G' => CM.out W u' q G')
    have w1' : IntKind.i64.wrap ((q : Int) + 1) = (q : Int) + 1 := IntWalk.i64_in _ (by omega)
    have w66 : IntKind.i64.wrap ((q : Int) + 66) = (q : Int) + 66 := IntWalk.i64_in _ (by omega)
    clear YES NO AG CB CS CM ag
    unfold SearchPost at CS1
    generalize sB l M q = b at *
    generalize sP l M q = p at *
    generalize sN l M q = k at *
    generalize gon M q = g at *
    go_wp2_with fail
    refine C1.out.mono ?_
    rintro e w1 ⟨u1, rfl, g1, b1⟩
    have B1 := Lib.hid (bw.out.trans (b1.mono bw.out.size))
    have G1 := Lib.hid g1
    have C2 := Lib.hid (CS1.out w1 B1.out u1 g1)
    have U1 := Lib.hid g1.slice
    obtain ⟨ax, cx, rfl, _⟩ := U1.out
    clear C1 g1 b1 bw CS1 U1
    generalize (M.drop q).length = nx at *
    cases b with
    | true =>
      obtain rfl := X1.out rfl
      have C3 : Hid (Calls Try.prog 11 #[.slice a n cap, .slice ax nx cx] w1 fun e w' => e = .returned (.tuple #[.int .u64 p, .int .i64 66, .bool true]) ∧ Below w1.heap.size w1 w') := C2.out
      clear X0 X1 N A CM1 C2 w1' G1
      go_wp2_with fail
      refine C3.out.mono ?_
      rintro e w2 ⟨rfl, b2⟩
      have B2 := Lib.hid (B1.out.trans (b2.mono B1.out.size))
      have C4 := Lib.hid (CN.out w2 B2.out p)
      clear C3 B1 b2 CN
      generalize ix (qh p) l = y at *
      go_wp2_with fail
      refine C4.out.mono ?_
      rintro e w3 ⟨rfl, b3⟩
      have E := Lib.hid (Y.out w3 (B2.out.trans (b3.mono B2.out.size)) (by trivial))
      clear C4 B2 b3 Y
      go_wp2
      go_ret2
      exact E.out
    | false =>
      clear Y X1 CN
      rcases X0.out with rfl | rfl
      · have C3 : Hid (Calls Try.prog 11 #[.slice a n cap, .slice ax nx cx] w1 fun e w' => e = .returned (.tuple #[.int .u64 p, .int .i64 1, .bool false]) ∧ Below w1.heap.size w1 w') := C2.out
        clear X0 C2 w66
        go_wp2_with fail
        refine C3.out.mono ?_
        rintro e w2 ⟨rfl, b2⟩
        have B2 := Lib.hid (B1.out.trans (b2.mono B1.out.size))
        have C4 := Lib.hid (CM1.out w2 _ (G1.out.below b2))
        clear C3 B1 b2 G1 CM1
        cases g with
        | false =>
          have E := Lib.hid (N.out w2 B2.out ⟨by trivial, by trivial, by trivial⟩)
          clear N A B2
          go_wp2_with fail
          refine C4.out.mono ?_
          rintro e w3 ⟨rfl, rfl⟩
          go_wp2
          go_ret2
          exact E.out
        | true =>
          have E := Lib.hid (A.out (fun h => by cases h.2.2) (by trivial))
          clear N A
          have hqn := E.out.1
          go_wp2_with fail
          refine C4.out.mono ?_
          rintro e w3 ⟨rfl, rfl⟩
          go_wp2
          go_roundw
          case rel => exact ⟨q + 1, by omega, by go_num, E.out.2, B2⟩
          case measure => simp [intOf]; omega
      · have C3 : Hid (Calls Try.prog 11 #[.slice a n cap, .slice ax nx cx] w1 fun e w' => e = .returned (.tuple #[.int .u64 p, .int .i64 66, .bool false]) ∧ Below w1.heap.size w1 w') := C2.out
        have E := Lib.hid (A.out (fun h => absurd h.2.1 (by decide)) (by trivial))
        have hqn := E.out.1
        clear X0 C2 w1' N A G1 CM1
        go_wp2_with fail
        refine C3.out.mono ?_
        rintro e w2 ⟨rfl, b2⟩
        have B2 := Lib.hid (B1.out.trans (b2.mono B1.out.size))
        clear C3 B1 b2
        go_wp2
        go_roundw
        case rel => exact ⟨q + 66, by omega, by go_num, E.out.2, B2⟩
        case measure => simp [intOf]; omega

end Go.Proofs.Ytbbbempdaipmnaa.Bp
