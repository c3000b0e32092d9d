/- Layer 21: the code's id, bytes.Equal; 'copy' into a struct's part; what bytes would have to be, as the code takes them. -/
import Derived.Test.YticdgjohladdlaaRqCans
import Derived.Laws.CopyOwn
namespace Go.Proofs.Yticdgjohladdlaa.Rq
open Go.RowKit
open Go.Proofs.Yticdgjohladdlaa.Rw (Rd Ow At)
open Go.Proofs.Yticdgjohladdlaa.Fl (R4 z4)
set_option maxRecDepth 100000
attribute [local irreducible] Sd.wpSd wpQuiet

theorem or_hi {a b : Int} (h0 : 0 ≤ a) (h1 : a < 256) (h2 : 0 ≤ b) (h3 : b < 256) : bits .or .i64 (a * 256) b = a * 256 + b := by
  obtain ⟨n, rfl⟩ := Int.eq_ofNat_of_zero_le h0
  obtain ⟨m, rfl⟩ := Int.eq_ofNat_of_zero_le h2
  have ha : n < 256 := by omega
  have hb : m < 256 := by omega
  have e : n * 256 ||| m = n * 256 + m := by
    have := Nat.shiftLeft_add_eq_or_of_lt (show m < 2 ^ 8 from hb) n
    rw [Nat.shiftLeft_eq] at this
    exact this.symm
  have h : (BitVec.ofInt 64 ((n : Int) * 256) ||| BitVec.ofInt 64 (m : Int)).toNat = n * 256 + m := by
    rw [show ((n : Int) * 256) = ((n * 256 : Nat) : Int) by simp, BitVec.ofInt_natCast, BitVec.ofInt_natCast, BitVec.toNat_or, BitVec.toNat_ofNat, BitVec.toNat_ofNat, Nat.mod_eq_of_lt (by omega), Nat.mod_eq_of_lt (by omega), e]
  show IntKind.i64.wrap ((BitVec.ofInt 64 ((n : Int) * 256) ||| BitVec.ofInt 64 (m : Int)).toNat : Int) = _
  rw [h]
  simp [IntKind.wrap, IntKind.bits, IntKind.signed]
  omega

set_option maxHeartbeats 1000000 in
theorem id_any (w : World) (b off n cap : Nat) (b2 b3 : Int) (hn : 4 ≤ n) (c2 : w.cell? ⟨b, off + 2, none⟩ = some (.int .u8 b2)) (c3 : w.cell? ⟨b, off + 3, none⟩ = some (.int .u8 b3)) (h2 : 0 ≤ b2 ∧ b2 < 256) (h3 : 0 ≤ b3 ∧ b3 < 256) :
    Calls Try.prog 18 #[.slice (some ⟨b, off, none⟩) n cap] w fun e w' => e = .returned (.int .i64 (b2 * 256 + b3)) ∧ Below w.heap.size w w' := by
  have eo := or_hi h2.1 h2.2 h3.1 h3.2
  have e2 : IntKind.i64.wrap b2 = b2 := IntWalk.i64_in _ (by omega)
  have e3 : IntKind.i64.wrap b3 = b3 := IntWalk.i64_in _ (by omega)
  have e4 : IntKind.i64.wrap (b2 * 256) = b2 * 256 := IntWalk.i64_in _ (by omega)
  have d2 := Sd.cell_by c2
  have d3 := Sd.cell_by c3
  have n2 : 2 < n := by omega
  have n3 : 3 < n := by omega
  have m2 : (2 : Int) < n := by omega
  have m3 : (3 : Int) < n := by omega
  clear c2 c3 h2 h3 hn
  go_enter Try.func18, Try.ntmps18
  go_wp2_with fail
  have BW := Lib.hid ((Below.refl w.heap.size w).drew)
  refine Sd.start [(false, 0), (false, 1), (false, 2), (false, 3), (false, 4), (false, 5), (false, 6), (false, 7), (false, 8), (false, 9), (false, 10)] (by kernel_rfl) (by kernel_rfl) (by kernel_rfl) ?_
  dsimp only [Sd.picks, List.getElem?_cons_succ, List.getElem?_cons_zero]
  repeat (refine Sd.lit ?_; quiet_step (fail); refine wpQuiet_nil ?_)
  refine Sd.done ?_
  go_wp2
  go_ret
  exact ⟨rfl, BW.out⟩

/-- Bytes held against each other. -/
theorem equal_any (w : World) (b off n cap : Nat) (l : List Int) (b' off' n' cap' : Nat) (m : List Int) (hl : l.length = n) (hm : m.length = n') (A : At KU w b off l) (A' : At KU w b' off' m) (hx : ∀ x ∈ l, 0 ≤ x ∧ x < 256) (hy : ∀ x ∈ m, 0 ≤ x ∧ x < 256) (c : Bool) (hc : decide (l = m) = c) :
    Calls Try.prog 19 #[.slice (some ⟨b, off, none⟩) n cap, .slice (some ⟨b', off', none⟩) n' cap'] w fun e w' => e = .returned (.bool c) ∧ w = w' := by
  have s1 := run_convert_bytes_arg (P := Try.prog) w 26 5 Try.underlying26 Try.underlying5 b' off' n' cap' m hm (hm ▸ cells_at A') 9 Try.underlying9
  have s2 := run_convert_bytes_arg (P := Try.prog) w 26 5 Try.underlying26 Try.underlying5 b off n cap l hl (hl ▸ cells_at A) 9 Try.underlying9
  have ht : ((strOfNums l).toList == (strOfNums m).toList) = c := by
    rw [← hc, Bool.eq_iff_iff, beq_iff_eq, decide_eq_true_eq]
    exact ⟨str_eq hx hy, fun h => by rw [h]⟩
  clear A A' hx hy hl hm hc
  generalize strOfNums l = s at *
  generalize strOfNums m = t at *
  go_enter Try.func19, Try.ntmps19
  go_wp2
  go_ret
  exact ⟨ret_bool (by first | rfl | exact ht), rfl⟩

/-- 'copy' into a row whose cells are known, in a region that draws its order. -/
theorem wp_copy {P : Program} {o : Oper} {a : Act} {w : World} {K : Act → World → Prop} {Q : Exit → Act → World → Prop} (d s : Operand) (dT sT : TypeId)
    (ho : o.op = .call { callee := .builtin .copy, args := #[d, s], argTypes := #[dT, sT] }) (elem : TypeId) (hu : P.underlying dT = some (.slice elem)) (hsz : (P.info? elem).map (·.size) = some 1)
    (dp sp : Option Addr) (dLen dCap sLen sCap : Nat) (hd : a.eval d = .slice dp dLen dCap) (hs : a.eval s = .slice sp sLen sCap)
    (g off : Nat) (cur : List Value) (t : TypeId) (hg : w.heap[g]? = some (.cells cur.toArray t (0, 0))) (cs : List Value) (hn : cs.length = Nat.min sLen dLen)
    (hpos : 0 < cs.length → dp = some ⟨g, off, none⟩ ∧ ∃ ad, sp = some ad ∧ ∀ j v, cs[j]? = some v → w.cell? (ad.add j) = some v)
    (hfit : off + cs.length ≤ cur.length) (h1 : ∀ v ∈ cs, v.oneCell' = true) (B : Nat) (w0 : World) (hb : Below B w0 w) (hBg : B ≤ g)
    (h : ∀ w', w'.heap[g]? = some (.cells (splice cur off cs).toArray t (0, 0)) → Below B w0 w' → K (a.put o.dst (goInt cs.length)) w') : o.wp P a w K Q := by
  by_cases h0 : cs.length = 0
  · obtain rfl : cs = [] := List.eq_nil_of_length_eq_zero h0
    have hrun := run_copy_none (P := P) w dT sT o.type elem dp sp dLen dCap sLen sCap hu hsz (by simpa using hn.symm)
    unfold Oper.wp
    simp [execOp, ho, resolve, invoke, builtin, hd, hs, hrun, Result.andThen]
    exact h w (by simpa [splice] using hg) hb
  · obtain ⟨rfl, ad, rfl, hsrc⟩ := hpos (by omega)
    have hrun := run_copy_row (P := P) w dT sT o.type elem g off dLen dCap ad sLen sCap cur.toArray t cs hu hsz hg hn hsrc (by simpa using hfit) h1
    unfold Oper.wp
    simp [execOp, ho, resolve, invoke, builtin, hd, hs, hrun, Result.andThen]
    exact h _ (by simpa [splice] using setRow_heap w g _ _ t _ hg) (below_setRow hb hBg _)

/-- A request as the code takes it. -/
def qcp (l : List Int) : Q := ⟨l.getD 2 0 * 256 + l.getD 3 0, l.getD 4 0, l.getD 5 0, l.getD 6 0, l.getD 7 0, ((l.drop 9).getD 0 0, (l.drop 9).getD 1 0, (l.drop 9).getD 2 0, (l.drop 9).getD 3 0), l.getD 8 0⟩
theorem splice_val (m : List Int) (p0 p1 p2 p3 p4 q : Value) : splice [p0, p1, p2, p3, p4, .int .u8 0, .int .u8 0, .int .u8 0, .int .u8 0, q] 5 ((m.take 4).map (Value.int .u8)) = [p0, p1, p2, p3, p4, .int .u8 (m.getD 0 0), .int .u8 (m.getD 1 0), .int .u8 (m.getD 2 0), .int .u8 (m.getD 3 0), q] := by
  match m with
  | [] => rfl
  | [_] => rfl
  | [_, _] => rfl
  | [_, _, _] => rfl
  | _ :: _ :: _ :: _ :: _ => rfl
theorem qb_len (x : Q) : (qb x).length = 9 ∨ (qb x).length = 13 := by
  unfold qb
  by_cases h : x.k = 2
  · rw [if_pos h, if_pos h]; exact .inr rfl
  · rw [if_neg h, if_neg h]; exact .inl rfl
theorem qb_byte {x : Q} (hg : good x) (hv : okV x.v) : ∀ y ∈ qb x, 0 ≤ y ∧ y < 256 := fun y hy => by
  unfold qb at hy
  unfold good at hg
  unfold okV at hv
  by_cases hk : x.k = 2
  · rw [if_pos hk, if_pos hk] at hy
    simp only [List.mem_append, List.mem_cons, List.not_mem_nil, or_false] at hy
    omega
  · rw [if_neg hk, if_neg hk] at hy
    simp only [List.mem_append, List.mem_cons, List.not_mem_nil, or_false] at hy
    omega
theorem yb_byte {y : Y} (hg : may y) (hv : okV y.v) : ∀ x ∈ yb y, 0 ≤ x ∧ x < 256 := fun x hx => by
  unfold yb at hx
  unfold may at hg
  unfold okV at hv
  simp only [List.mem_cons, List.not_mem_nil, or_false] at hx
  omega
theorem getD_byte {l : List Int} (h : ∀ x ∈ l, 0 ≤ x ∧ x < 256) (k : Nat) : 0 ≤ l.getD k 0 ∧ l.getD k 0 < 256 := by
  rw [List.getD_eq_getElem?_getD]
  rcases e : l[k]? with _ | x
  · exact ⟨Int.le_refl _, by decide⟩
  · exact h x (List.mem_of_getElem? e)
theorem qcp_of {l : List Int} (h : l.length = 9 ∨ l.length = 13) : qcp l = qof l := by
  unfold qcp qof
  rcases h with h | h
  · rw [if_neg (by omega), show l.drop 9 = [] from List.drop_eq_nil_of_le (by omega)]; rfl
  · rw [if_pos h]
    simp [List.getD_eq_getElem?_getD]
theorem isQ_iff (l : List Int) : isQ l ↔ good (qcp l) ∧ qb (qcp l) = l := by
  constructor
  · rintro ⟨h, g, e⟩
    rw [qcp_of h]
    exact ⟨g, e⟩
  · rintro ⟨g, e⟩
    have h : l.length = 9 ∨ l.length = 13 := by rw [← e]; exact qb_len _
    rw [qcp_of h] at g e
    exact ⟨h, g, e⟩

end Go.Proofs.Yticdgjohladdlaa.Rq
