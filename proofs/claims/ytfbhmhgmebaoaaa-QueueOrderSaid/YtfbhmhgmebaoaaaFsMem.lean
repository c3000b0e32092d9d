/- A node's files in memory: a store behind a pointer (a map of files, a count), lists of files, and what stays as it was when other blocks are written. -/
import Derived.Test.YtfbhmhgmebaoaaaFsMath
import Derived.Test.YtfbhmhgmebaoaaaSc
namespace Go.Proofs.Ytfbhmhgmebaoaaa.Fs
open Go.RowKit Go.Maps
open Go.Proofs.Ytfbhmhgmebaoaaa.Fl (R4 z4 K4 rec4 rat goodF goodFB okR okL doE newR file)
open Go.Proofs.Ytfbhmhgmebaoaaa.Rw (Rd Ow At)
set_option maxRecDepth 100000

/-- A file in a list: its number, its permissions, where its records lie, and what they are. -/
structure Ent where
  n : Int
  p : Int
  a : Option Addr
  cap : Nat
  l : List R4
def Ent.sl (c : Ent) : Value := .slice c.a c.l.length c.cap
def Ent.file (c : Ent) : Value := Fl.file c.p c.sl
def Ent.abs (c : Ent) : Fil := (c.n, c.p, c.l)
def E3 : Rw.Kind Ent := ⟨fun c => [.int .i64 c.n, .int .i64 c.p, c.sl], 3, by decide, fun _ => rfl, fun _ u h => by simp [Ent.sl] at h; rcases h with rfl | rfl | rfl <;> rfl, ⟨0, 0, none, 0, []⟩⟩
theorem abs_key (c : Ent) : key c.abs = c.n := rfl

/-! ### what is as it was -/
/-- Of what was there nothing has turned but blocks of G. -/
structure Only (G : Nat → Prop) (w w' : World) : Prop where
  os : w'.os = w.os
  tape : w'.tape = w.tape
  output : w'.output = w.output
  size : w.heap.size ≤ w'.heap.size
  block : ∀ k, k < w.heap.size → ¬ G k → w'.heap[k]? = w.heap[k]?
/-- G, and what is new. -/
def Fx (G : Nat → Prop) (w w' : World) (k : Nat) : Prop := G k ∨ (w.heap.size ≤ k ∧ k < w'.heap.size)
section
variable {G : Nat → Prop} {w w' w'' : World}
theorem Only.refl (G : Nat → Prop) (w : World) : Only G w w := ⟨rfl, rfl, rfl, Nat.le_refl _, fun _ _ _ => rfl⟩
theorem Only.of_below (h : Below w.heap.size w w') : Only G w w' := ⟨h.os, h.tape, h.output, h.size, fun k hk _ => h.block k hk⟩
theorem Only.mono {G' : Nat → Prop} (h : Only G w w') (hg : ∀ k, k < w.heap.size → G k → G' k) : Only G' w w' := ⟨h.os, h.tape, h.output, h.size, fun k hk hn => h.block k hk fun g => hn (hg k hk g)⟩
theorem Only.trans {G' : Nat → Prop} (h : Only G w w') (k : Only G' w' w'') (hg : ∀ k, k < w.heap.size → G' k → G k) : Only G w w'' :=
  ⟨k.os.trans h.os, k.tape.trans h.tape, k.output.trans h.output, Nat.le_trans h.size k.size, fun i hi hn => (k.block i (Nat.lt_of_lt_of_le hi h.size) fun g => hn (hg i hi g)).trans (h.block i hi hn)⟩
theorem Only.then (h : Only G w w') (b : Below w'.heap.size w' w'') : Only G w w'' := h.trans (Only.of_below (G := fun _ => False) b) fun _ _ g => g.elim
theorem Only.set (G : Nat → Prop) (w : World) {a : Addr} (ha : G a.block) (u : Value) : Only G w (w.setCell a u) :=
  ⟨rfl, rfl, rfl, by simp [World.setCell], fun k _ hn => Below.heap_setCell w a u k fun e => hn (e ▸ ha)⟩
theorem Only.grown {b : Nat} (hb : G b) (h : w.grownBy w' (some b)) : Only G w w' := ⟨h.os, h.tape, h.output, h.size, fun k hk hn => h.block k hk fun e => hn (by injection e with e; exact e ▸ hb)⟩
theorem Only.below {B : Nat} (h : Only G w w') (hB : B ≤ w.heap.size) (hG : ∀ k, G k → B ≤ k) : Below B w w' :=
  ⟨h.os, h.tape, h.output, h.size, fun k hk => h.block k (by omega) fun g => by have := hG k g; omega⟩
theorem Only.cell (h : Only G w w') {a : Addr} {v : Value} (hc : w.cell? a = some v) (hn : ¬ G a.block) : w'.cell? a = some v :=
  (World.cell?_of_block (h.block a.block (World.block_lt_of_cell? _ _ hc) hn)).trans hc
theorem Fx.of {k : Nat} (h : G k) : Fx G w w' k := .inl h
theorem Fx.not {k : Nat} (h : ¬ G k) (hk : k < w.heap.size) : ¬ Fx G w w' k := by rintro (g | ⟨g, _⟩); exact h g; omega
theorem Fx.low (h : ∀ k, G k → k < w.heap.size) (hs : w.heap.size ≤ w'.heap.size) : ∀ k, Fx G w w' k → k < w'.heap.size := by
  rintro k (g | ⟨_, g⟩)
  · have := h k g; omega
  · exact g
end

section
variable {α : Type} {K : Rw.Kind α} {G : Nat → Prop} {w w' : World} {v : Value} {l : List α}
theorem rd_only (h : Rd K w v l) (hn : 0 < l.length → ∀ k, v.ownBlock = some k → ¬ G k) (ho : Only G w w') : Rd K w' v l := by
  obtain ⟨a, cap, rfl, h1, h2, h3⟩ := h
  refine ⟨a, cap, rfl, h1, h2, fun h0 => ?_⟩
  obtain ⟨b, off, rfl, hA⟩ := h3 h0
  exact ⟨b, off, rfl, fun i hi j u hu => ho.cell (hA i hi j u hu) (hn h0 b rfl)⟩
/-- Where it lies. -/
theorem rd_low (h : Rd K w v l) (h0 : 0 < l.length) : ∀ k, v.ownBlock = some k → k < w.heap.size := by
  obtain ⟨a, cap, rfl, h1, h2, h3⟩ := h
  obtain ⟨b, off, rfl, hA⟩ := h3 h0
  intro k hk
  obtain rfl : b = k := by simpa [Value.ownBlock] using hk
  obtain ⟨j, hj⟩ : ∃ u, (K.enc (l.getD 0 K.dft))[0]? = some u := ⟨_, List.getElem?_eq_getElem (by rw [K.len]; exact K.pos)⟩
  exact World.block_lt_of_cell? _ _ (hA 0 h0 0 _ hj)
theorem rd_fx (h : Rd K w v l) (hn : 0 < l.length → ∀ k, v.ownBlock = some k → ¬ G k) : 0 < l.length → ∀ k, v.ownBlock = some k → ¬ Fx G w w' k :=
  fun h0 k hk => Fx.not (hn h0 k hk) (rd_low h h0 k hk)
theorem ow_only {B E : Nat} (h : Ow K w B E v l) (hn : ∀ k, v.ownBlock = some k → ¬ G k) (ho : Only G w w') : Ow K w' B E v l := by
  obtain ⟨h1, h2⟩ := h
  refine ⟨h1, ?_⟩
  rcases h2 with h2 | ⟨g, cap, cur, rfl, hB, hh, r⟩
  · exact .inl h2
  · exact .inr ⟨g, cap, cur, rfl, hB, (ho.block g (lt_of_block hh) (hn g rfl)).trans hh, r⟩
theorem ow_new {B E : Nat} (h : Ow K w B E v l) : ∀ k, v.ownBlock = some k → B ≤ k ∧ k < w.heap.size := fun k hk => World.ownsRow.lt h k hk
end

/-! ### the map -/
def Rh (v : Value) : Option (DataW Value × List MemPlace) := some (.held v, [])
def ent (c : Ent) : Lit × DataW Value := (.int .i64 c.n, .held c.file)
def dat (C : List Ent) : DataW Value := .map (C.map ent)
theorem law : Keyed Try.prog 3 := int_keyed Try.underlying3
def Wf (n : Int) : Prop := (Lit.int .i64 n).wf = true
theorem keyI {n : Int} (h : Wf n) : keyOf Try.prog 3 (.int .i64 n) = some (.int .i64 n) := keyOf_int_mk Try.underlying3 h
theorem insert_ent (c : Ent) : ∀ l : List Ent, DataW.insert (ent c) (l.map ent) = (ins Ent.n c l).map ent
  | [] => rfl
  | y :: r => by
    simp only [List.map_cons, DataW.insert, ins, ent, Lit.before, decide_eq_true_eq]
    split
    · rfl
    · have := insert_ent c r
      simp only [ent] at this
      rw [this]
      rfl
theorem filter_ent (c : Ent) (l : List Ent) : (l.map ent).filter (fun p => !p.1.sameKey (ent c).1) = (l.filter fun y => decide (¬ y.n = c.n)).map ent := by
  rw [List.filter_map]
  congr 1
  exact congrArg (fun q => List.filter q l) (funext fun x => by simp [ent, Lit.sameKey])
theorem dat_put (c : Ent) (l : List Ent) : (dat l).put (.int .i64 c.n) (.held c.file) = dat (put Ent.n c l) := by
  unfold dat DataW.put put
  simp only
  rw [← insert_ent, ← filter_ent]
  rfl
theorem find_ent (n : Int) : ∀ l : List Ent, (l.map ent).find? (fun p => p.1.sameKey (.int .i64 n)) = (look Ent.n n l).map ent := fun l => by
  unfold look
  rw [List.find?_map]
  congr 1
  exact congrArg (fun q => List.find? q l) (funext fun x => by simp [ent, Lit.sameKey])
/-- What the map gives for a number. -/
def lv (C : List Ent) (n : Int) : Value := match look Ent.n n C with | none => file 0 (.slice none 0 0) | some c => c.file
def lb (C : List Ent) (n : Int) : Bool := (look Ent.n n C).isSome
theorem dat_at (n : Int) (l : List Ent) : (dat l).atKey (.int .i64 n) (.held (file 0 (.slice none 0 0))) = .held (lv l n) := by
  unfold dat DataW.atKey lv
  simp only [find_ent]
  cases look Ent.n n l <;> rfl
theorem dat_has (n : Int) (l : List Ent) : Maps.has (dat l) (.int .i64 n) = lb l n := by
  have e : ∀ q : Lit × DataW Value → Bool, (l.map ent).any q = ((l.map ent).find? q).isSome := fun q => by
    rw [Bool.eq_iff_iff, List.any_eq_true, List.find?_isSome]
  show (l.map ent).any (fun p => p.1.sameKey (.int .i64 n)) = _
  rw [e, find_ent, Option.isSome_map]
  rfl
theorem tight {w : World} {b n : Nat} {C : List Ent} (h : w.ownsMap Try.prog 3 Rh b n (dat C)) : w.ownsMap Try.prog 3 Rh b C.length (dat C) := by
  obtain ⟨es, clock, hb, F, hs, hD⟩ := h
  refine ⟨es, clock, hb, F, ?_, hD⟩
  have e : C.map ent = (es.toList.map (Go.WideElems.rg Try.prog 3 Rh)).foldr DataW.insert [] := by unfold dat at hD; injection hD
  have := congrArg List.length e
  rw [length_read, List.length_map] at this
  omega

/-- The map m is the files C. -/
def Mp (w : World) (F : Nat → Prop) (m : Value) (C : List Ent) : Prop := (m = .map none ∧ C = []) ∨ ∃ b, m = .map (some b) ∧ F b ∧ w.ownsMap Try.prog 3 Rh b C.length (dat C)
section
variable {ops : Array Oper} {rest : List Oper} {o : Oper} {a : Act} {Q : Exit → Act → World → Prop} {K : Act → World → Prop} {w : World} {F : Nat → Prop}
end
section
variable {w w' : World} {F G : Nat → Prop} {m : Value} {C : List Ent}
theorem Mp.only (h : Mp w F m C) (hn : ∀ k, F k → ¬ G k) (ho : Only G w w') : Mp w' F m C := by
  rcases h with h | ⟨b, rfl, hF, h⟩
  · exact .inl h
  · have hlt := h.lt
    obtain ⟨es, clock, hb, Ft, hs, hD⟩ := h
    exact .inr ⟨b, rfl, hF, es, clock, (ho.block b hlt (hn b hF)).trans hb, Ft, hs, hD⟩
theorem Mp.wide (h : Mp w F m C) (hF : ∀ k, F k → G k) : Mp w G m C := by
  rcases h with h | ⟨b, rfl, hb, h⟩
  · exact .inl h
  · exact .inr ⟨b, rfl, hF b hb, h⟩
theorem Mp.kept (h : Mp w F m C) (hb : ∀ b, m = .map (some b) → w'.heap[b]? = w.heap[b]?) : Mp w' F m C := by
  rcases h with h | ⟨b, rfl, hF, h⟩
  · exact .inl h
  · obtain ⟨es, clock, h1, Ft, hs, hD⟩ := h
    exact .inr ⟨b, rfl, hF, es, clock, (hb b rfl).trans h1, Ft, hs, hD⟩
theorem Mp.isMap {b : Nat} (h : Mp w F (.map (some b)) C) : F b ∧ ∃ es clock, w.heap[b]? = some (.map es clock) := by
  rcases h with ⟨h, _⟩ | ⟨b', e, hF, h⟩
  · cases h
  · obtain rfl : b = b' := by injection e with e; injection e
    obtain ⟨es, clock, hb, _⟩ := h
    exact ⟨hF, es, clock, hb⟩
end

/-! ### the store -/
def apart (c c' : Ent) : Prop := ∀ k, c.sl.ownBlock = some k → c'.sl.ownBlock ≠ some k
section
variable {w w' : World} {s : Nat} {F G : Nat → Prop} {m : Value} {C : List Ent} {A : Abs} {d : Int}
theorem abs_look (n : Int) (C : List Ent) : look key n (C.map Ent.abs) = (look Ent.n n C).map Ent.abs := map_look (κ := Ent.n) (κ' := key) abs_key n C
theorem abs_put (c : Ent) (C : List Ent) : (put Ent.n c C).map Ent.abs = put key c.abs (C.map Ent.abs) := map_put (κ := Ent.n) (κ' := key) abs_key c C
end

/-! ### lists of files -/
structure Lst (F : Nat → Prop) (w : World) (v : Value) (L : List Ent) : Prop where
  rd : Rd E3 w v L
  off : 0 < L.length → ∀ k, v.ownBlock = some k → ¬ F k
  file : ∀ c ∈ L, Rd K4 w c.sl c.l
  foff : ∀ c ∈ L, 0 < c.l.length → ∀ k, c.sl.ownBlock = some k → ¬ F k
def Ls (F : Nat → Prop) (w : World) (v : Value) (A : Abs) : Prop := ∃ L, Lst F w v L ∧ L.map Ent.abs = A
section
variable {w w' : World} {F G : Nat → Prop} {v : Value} {L : List Ent} {A : Abs}
theorem Lst.only (h : Lst F w v L) (ho : Only F w w') : Lst (Fx F w w') w' v L :=
  ⟨rd_only h.rd h.off ho, rd_fx h.rd h.off, fun c hc => rd_only (h.file c hc) (h.foff c hc) ho, fun c hc => rd_fx (h.file c hc) (h.foff c hc)⟩
theorem Lst.mono (h : Lst F w v L) (hg : ∀ k, k < w.heap.size → G k → F k) : Lst G w v L :=
  ⟨h.rd, fun h0 k hk g => h.off h0 k hk (hg k (rd_low h.rd h0 k hk) g), h.file, fun c hc h0 k hk g => h.foff c hc h0 k hk (hg k (rd_low (h.file c hc) h0 k hk) g)⟩
theorem Lst.below (h : Lst F w v L) (hb : Below w.heap.size w w') : Lst F w' v L :=
  ⟨h.rd.below hb, h.off, fun c hc => (h.file c hc).below hb, h.foff⟩
theorem Ls.only (h : Ls F w v A) (ho : Only F w w') : Ls (Fx F w w') w' v A := by obtain ⟨L, h, e⟩ := h; exact ⟨L, h.only ho, e⟩
theorem Ls.mono (h : Ls F w v A) (hg : ∀ k, k < w.heap.size → G k → F k) : Ls G w v A := by obtain ⟨L, h, e⟩ := h; exact ⟨L, h.mono hg, e⟩
theorem Ls.below (h : Ls F w v A) (hb : Below w.heap.size w w') : Ls F w' v A := by obtain ⟨L, h, e⟩ := h; exact ⟨L, h.below hb, e⟩
end

section
variable {w w' : World} {r : Nat} {F G : Nat → Prop} {v : Value} {L : List Ent} {A : Abs} {d : Int}
end

end Go.Proofs.Ytfbhmhgmebaoaaa.Fs
