/- Maps from whole numbers of a kind to places; name.owner of both kinds of names, and the function that it hands back. -/
import Derived.Test.YtbbbempdaipmnaaNmRef
import Derived.Test.YtbbbempdaipmnaaSz
import Derived.Maps.OwnOps
import Derived.Maps.OwnSet
import Derived.Shelf.Abstract
import Derived.Deep.Cut
namespace Go.Proofs.Ytbbbempdaipmnaa.Nm
open Go.RowKit Go.Maps
open Go.Proofs.Ytbbbempdaipmnaa.Rw (Rd Ow At)
open Go.Proofs.Ytbbbempdaipmnaa.Fl (ret_bool at_bool row_cell)
attribute [local irreducible] Sd.wpSd wpQuiet Sz.wpSz

def Wq (q : IntKind) (n : Int) : Prop := (Lit.int q n).wf = true
def Rh (v : Value) : Option (DataW Value × List MemPlace) := some (.held v, [])
theorem zeroI (w : World) : (zeroValue 3).run Try.prog w = .ok (.int .i64 0) w := by kernel_rfl
structure HIs (q : IntKind) (D : DataW Value) (h : Hr) : Prop where
  has : ∀ n, Wq q n → Maps.has D (.int q n) = (h n).isSome
  val : ∀ n y, Wq q n → h n = some y → ∀ z, D.atKey (.int q n) z = .held (.int .i64 y)
/-- Block b is a map that says what h says. -/
def MB (q : IntKind) (kt : TypeId) (w : World) (b N : Nat) (h : Hr) : Prop := ∃ D, w.ownsMap Try.prog kt Rh b N D ∧ HIs q D h
section
variable {q : IntKind} {kt mt : TypeId} {w w' : World} {h : Hr} {b N : Nat}
theorem MB.lt (M : MB q kt w b N h) : b < w.heap.size := by obtain ⟨D, o, _⟩ := M; exact o.lt
theorem MB.kept (M : MB q kt w b N h) (e : w'.heap[b]? = w.heap[b]?) : MB q kt w' b N h := by
  obtain ⟨D, ⟨es, clock, hb, F, hs, hD⟩, I⟩ := M
  exact ⟨D, ⟨es, clock, e.trans hb, F, hs, hD⟩, I⟩
theorem MB.below (M : MB q kt w b N h) (hb : Below w.heap.size w w') : MB q kt w' b N h := M.kept (hb.block b M.lt)
theorem mb_new (q : IntKind) (kt : TypeId) (w : World) : MB q kt (w.alloc (.map #[] 0)) w.heap.size 0 (fun _ => none) := ⟨_, World.ownsMap_made _ _ _ _, fun _ _ => rfl, fun _ _ _ h => by cases h⟩
variable (hk : Try.prog.underlying kt = some (.int q)) (hm : Try.prog.underlying mt = some (.map kt 3))
include hk hm
theorem run_mlook (M : MB q kt w b N h) {n : Int} (hn : Wq q n) : (Instr.lookup mt (.map (some b)) (.int q n) true).run Try.prog w = .ok (.tuple #[.int .i64 ((h n).getD 0), .bool (h n).isSome]) w := by
  obtain ⟨D, o, I⟩ := M
  obtain ⟨u, ps, hr, hu⟩ := o.look_ok (int_keyed hk) hm (zeroI w) (zd := .held (.int .i64 0)) (zp := []) rfl (keyOf_int_mk hk hn)
  rw [hr, I.has n hn]
  have : u = .int .i64 ((h n).getD 0) := by
    have e : DataW.held u = D.atKey (.int q n) (.held (.int .i64 0)) := by simp [Rh] at hu; exact hu.1
    rcases ey : h n with _ | y
    · have := I.has n hn
      rw [ey] at this
      rw [atKey_of_not_has this] at e
      injection e
    · rw [I.val n y hn ey] at e
      injection e
  rw [this]
theorem at_mlook {ops : Array Oper} {rest : List Oper} {o : Oper} {a : Act} {Q : Exit → Act → World → Prop} (hgd : Region.wanted o (yielded ops a.tmps) = true) (p x : Operand) (hop : o.op = .lookup mt p x true) (hp : a.eval p = .map (some b)) (M : MB q kt w b N h) (n : Int) (hx : a.eval x = .int q n) (hn : Wq q n) (y : Int) (z : Bool) (hy : (h n).getD 0 = y) (hz : (h n).isSome = z)
    (hK : wpList Try.prog ops Q rest (a.put o.dst (.tuple #[.int .i64 y, .bool z])) w) : wpList Try.prog ops Q (o :: rest) a w := by
  refine BigFrame.wpList_want hgd fun K' hK' => ?_
  have hr := run_mlook hk hm M hn
  rw [hy, hz] at hr
  unfold Oper.wp
  simp [execOp, hop, hp, hx, hr, Result.andThen]
  exact hK' _ _ hK
omit hm in
theorem HIs.put {D : DataW Value} (I : HIs q D h) (hD : IsMap D) {n y : Int} (hn : Wq q n) : HIs q (D.put (.int q n) (.held (.int .i64 y))) (hput h n y) where
  has m hm := by
    unfold hput
    by_cases e : m = n
    · subst e
      rw [has_put_same hD ((int_keyed hk).key (keyOf_int_mk hk hn)), if_pos rfl]
      rfl
    · rw [has_put_other (fun e2 => e (by injection e2)), if_neg e]
      exact I.has m hm
  val m z hm hz u := by
    unfold hput at hz
    by_cases e : m = n
    · subst e
      rw [if_pos rfl] at hz
      injection hz with hz
      subst hz
      exact atKey_put_same hD ((int_keyed hk).key (keyOf_int_mk hk hn)) _ _
    · rw [if_neg e] at hz
      rw [atKey_put_other (fun e2 => e (by injection e2))]
      exact I.val m z hm hz u
theorem wp_mput {o : Oper} {a : Act} {Q : Exit → Act → World → Prop} {K : Act → World → Prop} (p x u : Operand) (hop : o.op = .mapUpdate mt p x u) (hp : a.eval p = .map (some b)) (M : MB q kt w b N h) (hN : N < maxLen) (n y : Int) (hx : a.eval x = .int q n) (hu : a.eval u = .int .i64 y) (hn : Wq q n)
    (hK : ∀ w', MB q kt w' b (N + 1) (hput h n y) → w.grownBy w' (some b) → K (a.put o.dst undef) w') : o.wp Try.prog a w K Q := by
  obtain ⟨D, o', I⟩ := M
  obtain ⟨w', hr, h', hg⟩ := o'.update (int_keyed hk) hm hN (keyOf_int_mk hk hn) (val := .int .i64 y) (d := .held (.int .i64 y)) (ps := []) rfl
  unfold Oper.wp
  simp [execOp, hop, hp, hx, hu, hr, Result.andThen]
  exact hK w' ⟨_, h', I.put hk o'.isMap hn⟩ hg
end

/-- A cell holds a map that says what h says. -/
def Wh (q : IntKind) (kt : TypeId) (w : World) (p : Nat) (h : Hr) : Prop := ∃ b N, w.cell? ⟨p, 0, none⟩ = some (.map (some b)) ∧ MB q kt w b N h
theorem Wh.below {q : IntKind} {kt : TypeId} {w w' : World} {p : Nat} {h : Hr} (W : Wh q kt w p h) (hb : Below w.heap.size w w') : Wh q kt w' p h := by
  obtain ⟨b, N, c, M⟩ := W
  exact ⟨b, N, (hb.cell (World.block_lt_of_cell? _ _ c)).trans c, M.below hb⟩
/-- What is handed back: a function that knows the map. -/
def OwnerPost (q : IntKind) (kt : TypeId) (g : Nat) (w : World) (h : Hr) (e : Ending) (w' : World) : Prop := ∃ p, e = .returned (.func (.func g) #[] #[.pointer (some ⟨p, 0, none⟩)]) ∧ Wh q kt w' p h ∧ Below w.heap.size w w'
/-- What is asked of what tells the name. -/
def NameOf (q : IntKind) (g : Nat) (f : S → Int) (w : World) : Prop := ∀ (W : World) (x : S), Below w.heap.size w W → Calls Try.prog g #[.agg #[.int .u64 x.1, .int .i64 x.2]] W fun e w' => e = .returned (.int q (f x)) ∧ Below W.heap.size W w'
theorem phys_any (w : World) : NameOf .u64 31 (·.1) w := fun W x _ => by
  have B0 := Lib.hid ((Below.refl W.heap.size W).alloc (Nat.le_refl _) (.cells #[.int .u64 x.1, .int .i64 x.2] 41))
  go_enter Try.func31, Try.ntmps31
  go_wp2
  go_ret
  exact ⟨rfl, B0.out⟩
theorem short_any (w : World) : NameOf .i64 33 (·.2) w := fun W x _ => by
  have B0 := Lib.hid ((Below.refl W.heap.size W).alloc (Nat.le_refl _) (.cells #[.int .u64 x.1, .int .i64 x.2] 41))
  go_enter Try.func33, Try.ntmps33
  go_wp2
  go_ret
  exact ⟨rfl, B0.out⟩

/-- The map so far. -/
structure OI (q : IntKind) (kt mt : TypeId) (f : S → Int) (l : List S) (w : World) (p b k : Nat) (wr : World) : Prop where
  cell : wr.heap[p]? = some (.cells #[.map (some b)] mt (0, 0))
  map : MB q kt wr b k (ltK f l k)
  bel : Below w.heap.size w wr
  lob : w.heap.size ≤ b
  lop : w.heap.size ≤ p
  ne : b ≠ p
theorem OI.below {q : IntKind} {kt mt : TypeId} {f : S → Int} {l : List S} {w wr w' : World} {p b k : Nat} (I : OI q kt mt f l w p b k wr) (hb : Below wr.heap.size wr w') : OI q kt mt f l w p b k w' :=
  ⟨(hb.block p (lt_of_block I.cell)).trans I.cell, I.map.below hb, I.bel.trans (hb.mono I.bel.size), I.lob, I.lop, I.ne⟩
theorem OI.next {q : IntKind} {kt mt : TypeId} {f : S → Int} {l : List S} {w wr w' : World} {p b k : Nat} (I : OI q kt mt f l w p b k wr) (M : MB q kt w' b (k + 1) (hput (ltK f l k) (f (sa l k)) k)) (g : wr.grownBy w' (some b)) : OI q kt mt f l w p b (k + 1) w' :=
  ⟨(g.block p (lt_of_block I.cell) (fun e => I.ne (by injection e with e; exact e.symm))).trans I.cell, M, I.bel.grown g I.bel.size (fun k e => by injection e with e; exact e ▸ I.lob), I.lob, I.lop, I.ne⟩
theorem oi_start (q : IntKind) (kt mt : TypeId) (f : S → Int) (l : List S) (w : World) : OI q kt mt f l w (w.heap.size + 1) w.heap.size 0 ((w.alloc (.map #[] 0)).alloc (.cells #[.map (some w.heap.size)] mt)) :=
  ⟨by have := heap_alloc_new (w.alloc (.map #[] 0)) (.cells #[.map (some w.heap.size)] mt); simpa using this, (mb_new q kt w).below ((Below.refl _ _).alloc (Nat.le_refl _) _), ((Below.refl w.heap.size w).alloc (Nat.le_refl _) _).alloc (by simp) _, Nat.le_refl _, Nat.le_succ _, by omega⟩
theorem OI.wh {q : IntKind} {kt mt : TypeId} {f : S → Int} {l : List S} {w wr : World} {p b k : Nat} (I : OI q kt mt f l w p b k wr) : Wh q kt wr p (ltK f l k) := ⟨b, k, row_cell I.cell 0, I.map⟩

set_option maxHeartbeats 2000000 in
theorem ownerU_any (w : World) (v : Value) (l : List S) (g : Nat) (f : S → Int) (eg : ∀ args w, (callFunc g args).run Try.prog w = .ok (.enter g args) w) (R : Rd KV w v l) (hp : NameOf .u64 g f w) (hw : ∀ i, i < l.length → Wq .u64 (f (sa l i))) :
    Calls Try.prog 30 #[v, .func (.func g) #[] #[]] w (OwnerPost .u64 24 39 w (ltK f l l.length)) := by
  have hmm := @run_makeMap Try.prog
  have hmf : ∀ (fn : Fn) (first cap : Array Value) (w : World), (Instr.makeFunc fn first cap).run Try.prog w = .ok (.func fn first cap) w := fun _ _ _ _ => rfl
  have I0 := Lib.hid (oi_start .u64 24 70 f l w)
  have HP := Lib.hid hp
  have HW := Lib.hid hw
  have FIN : Hid (∀ wr p b, OI .u64 24 70 f l w p b l.length wr → OwnerPost .u64 24 39 w (ltK f l l.length) (.returned (.func (.func 39) #[] #[.pointer (some ⟨p, 0, none⟩)])) wr) := fun wr p b I => ⟨p, rfl, I.wh, I.bel⟩
  obtain ⟨a, cap, rfl, ⟨hlc, _⟩, hm, hA⟩ := R
  have HA := Lib.hid hA
  unfold maxLen at hm
  clear hA hp hw
  generalize hn : l.length = n at *
  have HN := Lib.hid hn
  clear hn
  go_enter Try.func30, Try.ntmps30
  go_upto_region 2 with fail


  clear hmm
  generalize (w.alloc (.map #[] 0)).alloc (.cells #[.map (some w.heap.size)] 70) = w0 at *
  generalize w.heap.size + 1 = p at *
  generalize w.heap.size = b0 at I0
  go_wp2
  go_loopw [11] (fun i wr => ∃ k : Nat, k ≤ n ∧ i = .int .i64 k ∧ Hid (OI .u64 24 70 f l w p b0 k wr)) (fun i _ => n - (intOf i).toNat)
  case atStart => exact ⟨0, Nat.zero_le _, rfl, I0⟩
  case round =>
    clear I0
    obtain ⟨k, hk, rfl, I⟩ := hrel
    by_cases hlt : k < n
    · obtain ⟨b, off, rfl, A⟩ := HA.out (by omega)
      obtain ⟨c0, c1⟩ := atV (A.below I.out.bel) (i := k) (by have := HN.out; omega)
      have HAA := Lib.hid A
      have WK := Lib.hid (HW.out k hlt)
      have NX : Hid (∀ wr w', OI .u64 24 70 f l w p b0 k wr → MB .u64 24 w' b0 (k + 1) (hput (ltK f l k) (f (sa l k)) k) → wr.grownBy w' (some b0) → OI .u64 24 70 f l w p b0 (k + 1) w') := fun wr w' I M g => I.next M g
      clear A HA HW FIN
      generalize sa l k = x at *
      go_upto_region 5 with fail
      have X1 := heap_alloc_new wr (.cells #[.int .u64 x.1, .int .i64 x.2] 41)
      have I1 := Lib.hid (I.out.below ((Below.refl wr.heap.size wr).alloc (Nat.le_refl _) (.cells #[.int .u64 x.1, .int .i64 x.2] 41)))
      clear c0 c1 I
      generalize wr.alloc (.cells #[.int .u64 x.1, .int .i64 x.2] 41) = W at *
      generalize wr.heap.size = gx at *
      have x0 := Sc.cell_in (C := Below W.heap.size W) (a := ⟨gx, 0, none⟩) (v := .int .u64 x.1) (fun W' h => (h.cell (lt_of_block X1)).trans (row_cell X1 0))
      have x1 := Sc.cell_in (C := Below W.heap.size W) (a := ⟨gx, 1, none⟩) (v := .int .i64 x.2) (fun W' h => (h.cell (lt_of_block X1)).trans (row_cell X1 1))
      have xp := Sc.cell_in (C := Below W.heap.size W) (a := ⟨p, 0, none⟩) (v := .map (some b0)) (fun W' h => (h.cell (lt_of_block I1.out.cell)).trans (row_cell I1.out.cell 0))
      have ne : Nonempty (Sc.In (Below W.heap.size W)) := ⟨⟨_, Below.refl _ _⟩⟩
      clear X1
      refine Sz.start (Below W.heap.size W) [(false, 0), (false, 1), (false, 2), (false, 4), (true, 3)] 5 (by kernel_rfl) (by kernel_rfl) (by kernel_rfl) rfl rfl (Below.refl _ _).drew ?_
      dsimp only [Sd.picks, List.getElem?_cons_succ, List.getElem?_cons_zero]
      iterate 4 (refine Sz.lit ?_; quiet_step (fail); refine wpQuiet_nil ?_)
      refine Sz.call (by rfl) (fun K hK => ?_)
      clear x0 x1 xp ne
      go_simp
      refine (HP.out W.drew x I1.out.bel.drew).mono ?_
      rintro e w1 ⟨rfl, b1⟩
      have B1 := (Below.refl W.heap.size W).drew.trans b1
      have I2 := Lib.hid (I1.out.below B1)
      refine hK _ _ (Sc.Cl.of B1) ?_
      clear hK K b1 B1 I1
      refine Sz.done ?_
      refine wp_mput Try.underlying24 Try.underlying70 _ _ _ rfl rfl I2.out.map (by unfold maxLen; omega) (f x) k rfl rfl WK.out ?_
      intro w2 m2 g2
      have I3 := Lib.hid (NX.out _ _ I2.out m2 g2)
      clear m2 g2 I2 NX
      refine NoPanic.normal ?_
      go_wp2
      go_roundw
      case rel => exact ⟨k + 1, by omega, by go_num, I3⟩
      case measure => simp [intOf]; omega
    · obtain rfl : k = n := by omega
      have E := Lib.hid (FIN.out _ _ _ I.out)
      go_wp2
      go_ret
      exact E.out

set_option maxHeartbeats 1000000 in
/-- The function that it hands back. -/
theorem whoU_any {w : World} {p : Nat} {h : Hr} (W : Wh .u64 24 w p h) (n : Int) (hn : Wq .u64 n) : Calls Try.prog 39 #[.int .u64 n, .pointer (some ⟨p, 0, none⟩)] w fun e w' => e = .returned (.int .i64 ((h n).getD (-1))) ∧ Below w.heap.size w w' := by
  obtain ⟨b, N, c, M⟩ := W
  have MM := Lib.hid M
  have HN := Lib.hid hn
  clear M hn
  rcases e : h n with _ | y
  · have E1 : Hid ((h n).getD 0 = 0) := by rw [e]; rfl
    have E2 : Hid ((h n).isSome = false) := by rw [e]; rfl
    clear e
    go_enter Try.func39, Try.ntmps39
    go_wp2_with (at_lookup; refine at_mlook Try.underlying24 Try.underlying70 rfl _ _ rfl rfl MM.out _ rfl HN.out _ _ E1.out E2.out ?_)
    go_ret
    exact ⟨rfl, Below.refl _ _⟩
  · have E1 : Hid ((h n).getD 0 = y) := by rw [e]; rfl
    have E2 : Hid ((h n).isSome = true) := by rw [e]; rfl
    clear e
    go_enter Try.func39, Try.ntmps39
    go_wp2_with (at_lookup; refine at_mlook Try.underlying24 Try.underlying70 rfl _ _ rfl rfl MM.out _ rfl HN.out _ _ E1.out E2.out ?_)
    go_ret
    exact ⟨rfl, Below.refl _ _⟩

set_option maxHeartbeats 2000000 in
theorem ownerI_any (w : World) (v : Value) (l : List S) (g : Nat) (f : S → Int) (eg : ∀ args w, (callFunc g args).run Try.prog w = .ok (.enter g args) w) (R : Rd KV w v l) (hp : NameOf .i64 g f w) (hw : ∀ i, i < l.length → Wq .i64 (f (sa l i))) :
    Calls Try.prog 32 #[v, .func (.func g) #[] #[]] w (OwnerPost .i64 3 40 w (ltK f l l.length)) := by
  have hmm := @run_makeMap Try.prog
  have hmf : ∀ (fn : Fn) (first cap : Array Value) (w : World), (Instr.makeFunc fn first cap).run Try.prog w = .ok (.func fn first cap) w := fun _ _ _ _ => rfl
  have I0 := Lib.hid (oi_start .i64 3 71 f l w)
  have HP := Lib.hid hp
  have HW := Lib.hid hw
  have FIN : Hid (∀ wr p b, OI .i64 3 71 f l w p b l.length wr → OwnerPost .i64 3 40 w (ltK f l l.length) (.returned (.func (.func 40) #[] #[.pointer (some ⟨p, 0, none⟩)])) wr) := fun wr p b I => ⟨p, rfl, I.wh, I.bel⟩
  obtain ⟨a, cap, rfl, ⟨hlc, _⟩, hm, hA⟩ := R
  have HA := Lib.hid hA
  unfold maxLen at hm
  clear hA hp hw
  generalize hn : l.length = n at *
  have HN := Lib.hid hn
  clear hn
  go_enter Try.func32, Try.ntmps32
  go_upto_region 2 with fail


  clear hmm
  generalize (w.alloc (.map #[] 0)).alloc (.cells #[.map (some w.heap.size)] 71) = w0 at *
  generalize w.heap.size + 1 = p at *
  generalize w.heap.size = b0 at I0
  go_wp2
  go_loopw [11] (fun i wr => ∃ k : Nat, k ≤ n ∧ i = .int .i64 k ∧ Hid (OI .i64 3 71 f l w p b0 k wr)) (fun i _ => n - (intOf i).toNat)
  case atStart => exact ⟨0, Nat.zero_le _, rfl, I0⟩
  case round =>
    clear I0
    obtain ⟨k, hk, rfl, I⟩ := hrel
    by_cases hlt : k < n
    · obtain ⟨b, off, rfl, A⟩ := HA.out (by omega)
      obtain ⟨c0, c1⟩ := atV (A.below I.out.bel) (i := k) (by have := HN.out; omega)
      have HAA := Lib.hid A
      have WK := Lib.hid (HW.out k hlt)
      have NX : Hid (∀ wr w', OI .i64 3 71 f l w p b0 k wr → MB .i64 3 w' b0 (k + 1) (hput (ltK f l k) (f (sa l k)) k) → wr.grownBy w' (some b0) → OI .i64 3 71 f l w p b0 (k + 1) w') := fun wr w' I M g => I.next M g
      clear A HA HW FIN
      generalize sa l k = x at *
      go_upto_region 5 with fail
      have X1 := heap_alloc_new wr (.cells #[.int .u64 x.1, .int .i64 x.2] 41)
      have I1 := Lib.hid (I.out.below ((Below.refl wr.heap.size wr).alloc (Nat.le_refl _) (.cells #[.int .u64 x.1, .int .i64 x.2] 41)))
      clear c0 c1 I
      generalize wr.alloc (.cells #[.int .u64 x.1, .int .i64 x.2] 41) = W at *
      generalize wr.heap.size = gx at *
      have x0 := Sc.cell_in (C := Below W.heap.size W) (a := ⟨gx, 0, none⟩) (v := .int .u64 x.1) (fun W' h => (h.cell (lt_of_block X1)).trans (row_cell X1 0))
      have x1 := Sc.cell_in (C := Below W.heap.size W) (a := ⟨gx, 1, none⟩) (v := .int .i64 x.2) (fun W' h => (h.cell (lt_of_block X1)).trans (row_cell X1 1))
      have xp := Sc.cell_in (C := Below W.heap.size W) (a := ⟨p, 0, none⟩) (v := .map (some b0)) (fun W' h => (h.cell (lt_of_block I1.out.cell)).trans (row_cell I1.out.cell 0))
      have ne : Nonempty (Sc.In (Below W.heap.size W)) := ⟨⟨_, Below.refl _ _⟩⟩
      clear X1
      refine Sz.start (Below W.heap.size W) [(false, 0), (false, 1), (false, 2), (false, 4), (true, 3)] 5 (by kernel_rfl) (by kernel_rfl) (by kernel_rfl) rfl rfl (Below.refl _ _).drew ?_
      dsimp only [Sd.picks, List.getElem?_cons_succ, List.getElem?_cons_zero]
      iterate 4 (refine Sz.lit ?_; quiet_step (fail); refine wpQuiet_nil ?_)
      refine Sz.call (by rfl) (fun K hK => ?_)
      clear x0 x1 xp ne
      go_simp
      refine (HP.out W.drew x I1.out.bel.drew).mono ?_
      rintro e w1 ⟨rfl, b1⟩
      have B1 := (Below.refl W.heap.size W).drew.trans b1
      have I2 := Lib.hid (I1.out.below B1)
      refine hK _ _ (Sc.Cl.of B1) ?_
      clear hK K b1 B1 I1
      refine Sz.done ?_
      refine wp_mput Try.underlying3 Try.underlying71 _ _ _ rfl rfl I2.out.map (by unfold maxLen; omega) (f x) k rfl rfl WK.out ?_
      intro w2 m2 g2
      have I3 := Lib.hid (NX.out _ _ I2.out m2 g2)
      clear m2 g2 I2 NX
      refine NoPanic.normal ?_
      go_wp2
      go_roundw
      case rel => exact ⟨k + 1, by omega, by go_num, I3⟩
      case measure => simp [intOf]; omega
    · obtain rfl : k = n := by omega
      have E := Lib.hid (FIN.out _ _ _ I.out)
      go_wp2
      go_ret
      exact E.out

set_option maxHeartbeats 1000000 in
/-- The function that it hands back. -/
theorem whoI_any {w : World} {p : Nat} {h : Hr} (W : Wh .i64 3 w p h) (n : Int) (hn : Wq .i64 n) : Calls Try.prog 40 #[.int .i64 n, .pointer (some ⟨p, 0, none⟩)] w fun e w' => e = .returned (.int .i64 ((h n).getD (-1))) ∧ Below w.heap.size w w' := by
  obtain ⟨b, N, c, M⟩ := W
  have MM := Lib.hid M
  have HN := Lib.hid hn
  clear M hn
  rcases e : h n with _ | y
  · have E1 : Hid ((h n).getD 0 = 0) := by rw [e]; rfl
    have E2 : Hid ((h n).isSome = false) := by rw [e]; rfl
    clear e
    go_enter Try.func40, Try.ntmps40
    go_wp2_with (at_lookup; refine at_mlook Try.underlying3 Try.underlying71 rfl _ _ rfl rfl MM.out _ rfl HN.out _ _ E1.out E2.out ?_)
    go_ret
    exact ⟨rfl, Below.refl _ _⟩
  · have E1 : Hid ((h n).getD 0 = y) := by rw [e]; rfl
    have E2 : Hid ((h n).isSome = true) := by rw [e]; rfl
    clear e
    go_enter Try.func40, Try.ntmps40
    go_wp2_with (at_lookup; refine at_mlook Try.underlying3 Try.underlying71 rfl _ _ rfl rfl MM.out _ rfl HN.out _ _ E1.out E2.out ?_)
    go_ret
    exact ⟨rfl, Below.refl _ _⟩

end Go.Proofs.Ytbbbempdaipmnaa.Nm
