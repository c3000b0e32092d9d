/- As XSf, for appends of one element each to several lists: the slices of one element are made at any time once their element is known; what the calls write may be older than the region, in places that the prover's class of worlds allows. A first phase takes the light operations. -/
import Derived.Test.YtfbhmhgmebaoaaaSd
import Derived.Test.YtfbhmhgmebaoaaaSz
import Derived.Great.BuildSlice
namespace Go.Proofs.Ytfbhmhgmebaoaaa.Sg
open Go.RowKit
open Go.Proofs.Ytfbhmhgmebaoaaa.Sd (light light_value)
open Go.Proofs.Ytfbhmhgmebaoaaa.Sc (In Cl)

/-- One of zs has been carried out. -/
def lst (zs : List Nat) (listed : Array Bool) : Bool := zs.any fun z => listed.getD z false
/-- Whatever order is picked: S holds behind every operation, until one of zs has been carried out. -/
def wpAnyE (P : Program) (md : Region.Mode) (ops : Array Oper) (Q : Exit → Act → World → Prop) (S : World → Prop) (zs : List Nat) : Nat → Array Bool → Act → World → Prop
  | 0, listed, a, w => Region.ready md ops listed = [] ∧ Q .normal a w
  | fuel + 1, listed, a, w =>
    (Region.ready md ops listed = [] → Q .normal a w) ∧
    ∀ i ∈ Region.ready md ops listed, wpOp P ops Q i (fun a' w' => (i ∈ zs ∨ lst zs listed = true ∨ S w') ∧ wpAnyE P md ops Q S zs fuel (listed.setIfInBounds i true) a' w') a w
section
variable {P : Program} {md : Region.Mode} {ops : Array Oper} {Q : Exit → Act → World → Prop} {S : World → Prop} {zs : List Nat}
theorem any_of : ∀ (fuel : Nat) (listed : Array Bool) (a : Act) (w : World), wpAnyE P md ops Q S zs fuel listed a w → wpAny P md ops Q fuel listed a w
  | 0, _, _, _, h => h
  | fuel + 1, _, _, _, h => ⟨h.1, fun i hi => wpOp_mono (fun a' w' h' => any_of fuel _ a' w' h'.2) (h.2 i hi)⟩
theorem lst_set {zs : List Nat} {j : Nat} {listed : Array Bool} (h : j ∉ zs) : lst zs (listed.setIfInBounds j true) = lst zs listed := by
  unfold lst
  rw [Bool.eq_iff_iff, List.any_eq_true, List.any_eq_true]
  have e : ∀ z ∈ zs, (listed.setIfInBounds j true).getD z false = listed.getD z false := fun z hz => by
    have ne : j ≠ z := fun e => h (e ▸ hz)
    simp [Array.getD_eq_getD_getElem?, ne]
  constructor
  · rintro ⟨z, hz, g⟩
    exact ⟨z, hz, by rw [← e z hz]; exact g⟩
  · rintro ⟨z, hz, g⟩
    exact ⟨z, hz, by rw [e z hz]; exact g⟩
theorem lst_in {zs : List Nat} {j : Nat} {listed : Array Bool} (h : j ∈ zs) (hl : listed.getD j true = false) : lst zs (listed.setIfInBounds j true) = true := by
  unfold lst
  refine List.any_eq_true.2 ⟨j, h, ?_⟩
  have hs : j < listed.size := by
    rcases Nat.lt_or_ge j listed.size with h' | h'
    · exact h'
    · simp [Array.getElem?_eq_none h'] at hl
  simp [Array.getD_eq_getD_getElem?, hs]
theorem lst_up {zs : List Nat} {j : Nat} {listed : Array Bool} (h : lst zs listed = true) : lst zs (listed.setIfInBounds j true) = true := by
  unfold lst at *
  obtain ⟨z, hz, g⟩ := List.any_eq_true.1 h
  refine List.any_eq_true.2 ⟨z, hz, ?_⟩
  by_cases e : j = z
  · subst e
    have hs : j < listed.size := by
      rcases Nat.lt_or_ge j listed.size with h' | h'
      · exact h'
      · simp [Array.getD_eq_getD_getElem?, Array.getElem?_eq_none h'] at g
    simp [Array.getD_eq_getD_getElem?, hs]
  · simp only [Array.getD_eq_getD_getElem?, Array.getElem?_setIfInBounds, e, if_false] at g ⊢
    exact g
/-- What reads no memory may be taken first, whatever else comes up. -/
theorem firstU {i : Nat} {oi : Oper} {v : Value} (hi : ops[i]? = some oi) (hiz : i ∉ zs) (hsel : ∀ (j : Nat) (o : Oper) cs b, ops[j]? = some o → o.op ≠ .select cs b)
    (hQ : ∀ c a w, Q (.panic c) (a.put oi.dst v) w → Q (.panic c) a w) :
    ∀ (fuel : Nat) (listed : Array Bool) (a : Act) (w : World),
      (∀ j oj, ops[j]? = some oj → j ≠ i → listed.getD j true = false → (∀ e ∈ oj.after, Region.binds md e = true → e.on ≠ i) → oi.apart ops oj = true) →
      i ∈ Region.ready md ops listed → YieldsIf P ops (fun _ => True) oi v a → (lst zs listed = true ∨ S w) →
      wpAnyE P md ops Q S zs fuel (listed.setIfInBounds i true) (a.put oi.dst v) w → wpAnyE P md ops Q S zs (fuel + 1) listed a w := by
  intro fuel
  induction fuel with
  | zero =>
    intro listed a w _ hr hy hS H
    refine ⟨fun h => (by rw [h] at hr; cases hr), fun j hj => ?_⟩
    by_cases hji : j = i
    · subst hji; exact hy.wpOp hi trivial ⟨.inr hS, H⟩
    · have := ready_mono hj hji
      rw [H.1] at this
      cases this
  | succ fuel ih =>
    intro listed a w hfree hr hy hS H
    refine ⟨fun h => (by rw [h] at hr; cases hr), fun j hj => ?_⟩
    by_cases hji : j = i
    · subst hji; exact hy.wpOp hi trivial ⟨.inr hS, H⟩
    · have h1 := H.2 j (ready_mono hj hji)
      obtain ⟨hjun, oj, hoj, hall⟩ := mem_ready.1 hj
      have hnot : ∀ e ∈ oj.after, Region.binds md e = true → e.on ≠ i := fun e he hb heq => by
        have h1 := hall e he hb
        have h0 := (mem_ready.1 hr).1
        rw [heq] at h1
        rcases Nat.lt_or_ge i listed.size with h' | h'
        · simp [h'] at h0 h1; rw [h0] at h1; cases h1
        · simp [Array.getElem?_eq_none h'] at h1
      have h2 := wpOp_putIf hoj (hfree j oj hoj hji hjun hnot) (fun cs b => hsel i oi cs b hi) (fun cs b => hsel j oj cs b hoj) hQ hy h1
      have hfree' : ∀ k ok, ops[k]? = some ok → k ≠ i → (listed.setIfInBounds j true).getD k true = false →
          (∀ e ∈ ok.after, Region.binds md e = true → e.on ≠ i) → oi.apart ops ok = true := fun k ok hk hki hun hno => by
        refine hfree k ok hk hki ?_ hno
        by_cases hjk : j = k
        · subst hjk; exact hjun
        · rw [getD_set_ne true hjk] at hun; exact hun
      refine wpOp_mono (fun a' w' h3 => ?_) h2
      have hq : j ∈ zs ∨ lst zs listed = true ∨ S w' := by
        rcases h3.2.1 with g | g | g
        · exact .inl g
        · rw [lst_set hiz] at g; exact .inr (.inl g)
        · exact .inr (.inr g)
      have hS' : lst zs (listed.setIfInBounds j true) = true ∨ S w' := by
        rcases hq with g | g | g
        · exact .inl (lst_in g hjun)
        · exact .inl (lst_up g)
        · exact .inr g
      refine ⟨hq, ih (listed.setIfInBounds j true) a' w' hfree' (ready_mono hr (Ne.symm hji)) h3.1 hS' ?_⟩
      rw [Array.setIfInBounds_comm _ _ hji]
      exact h3.2.2
theorem first {i : Nat} {oi : Oper} {v : Value} (hi : ops[i]? = some oi) (hsel : ∀ (j : Nat) (o : Oper) cs b, ops[j]? = some o → o.op ≠ .select cs b)
    (hQ : ∀ c a w, Q (.panic c) (a.put oi.dst v) w → Q (.panic c) a w) :
    ∀ (fuel : Nat) (listed : Array Bool) (a : Act) (w : World), (∀ z ∈ zs, Sz.Blocks md ops z i listed) → lst zs listed = false →
      (∀ j oj, ops[j]? = some oj → j ≠ i → listed.getD j true = false → (∀ e ∈ oj.after, Region.binds md e = true → e.on ≠ i) → oi.apart ops oj = true) →
      i ∈ Region.ready md ops listed → YieldsIf P ops S oi v a → S w →
      wpAnyE P md ops Q S zs fuel (listed.setIfInBounds i true) (a.put oi.dst v) w → wpAnyE P md ops Q S zs (fuel + 1) listed a w := by
  intro fuel
  induction fuel with
  | zero =>
    intro listed a w _ _ _ hr hy hS H
    refine ⟨fun h => (by rw [h] at hr; cases hr), fun j hj => ?_⟩
    by_cases hji : j = i
    · subst hji; exact hy.wpOp hi hS ⟨.inr (.inr hS), H⟩
    · have := ready_mono hj hji
      rw [H.1] at this
      cases this
  | succ fuel ih =>
    intro listed a w hz hl0 hfree hr hy hS H
    refine ⟨fun h => (by rw [h] at hr; cases hr), fun j hj => ?_⟩
    by_cases hji : j = i
    · subst hji; exact hy.wpOp hi hS ⟨.inr (.inr hS), H⟩
    · have h1 := H.2 j (ready_mono hj hji)
      obtain ⟨hjun, oj, hoj, hall⟩ := mem_ready.1 hj
      have hnot : ∀ e ∈ oj.after, Region.binds md e = true → e.on ≠ i := fun e he hb heq => by
        have h1 := hall e he hb
        have h0 := (mem_ready.1 hr).1
        rw [heq] at h1
        rcases Nat.lt_or_ge i listed.size with h' | h'
        · simp [h'] at h0 h1; rw [h0] at h1; cases h1
        · simp [Array.getElem?_eq_none h'] at h1
      have low : ∀ {k : Nat}, listed.getD k true = false → listed.getD k false = false := fun {k} h => by
        rcases Nat.lt_or_ge k listed.size with h' | h'
        · simp [h'] at h ⊢; exact h
        · simp [Array.getElem?_eq_none h'] at h
      have hjz : j ∉ zs := fun hm => by
        obtain ⟨oz, ez, hoz, hez, hbz, hnl, _⟩ := hz j hm
        rw [hoj] at hoz
        obtain rfl := Option.some.inj hoz
        have := hall ez hez hbz
        rw [low hnl] at this
        cases this
      have hz' : ∀ z ∈ zs, Sz.Blocks md ops z i (listed.setIfInBounds j true) := fun z hm => by
        obtain ⟨oz, ez, hoz, hez, hbz, hnl, hor⟩ := hz z hm
        have hje : j ≠ ez.on := fun e => by
          rcases hor with h | ⟨ok, hok, e', he', hb', hon⟩
          · exact hji (e.trans h)
          · rw [← e, hoj] at hok
            obtain rfl := Option.some.inj hok
            exact hnot e' he' hb' hon
        exact ⟨oz, ez, hoz, hez, hbz, by rw [getD_set_ne true hje]; exact hnl, hor⟩
      have h2 := wpOp_putIf hoj (hfree j oj hoj hji hjun hnot) (fun cs b => hsel i oi cs b hi) (fun cs b => hsel j oj cs b hoj) hQ hy h1
      have hfree' : ∀ k ok, ops[k]? = some ok → k ≠ i → (listed.setIfInBounds j true).getD k true = false →
          (∀ e ∈ ok.after, Region.binds md e = true → e.on ≠ i) → oi.apart ops ok = true := fun k ok hk hki hun hno => by
        refine hfree k ok hk hki ?_ hno
        by_cases hjk : j = k
        · subst hjk; exact hjun
        · rw [getD_set_ne true hjk] at hun; exact hun
      refine wpOp_mono (fun a' w' h3 => ?_) h2
      have hi2 : i ∉ zs := fun hm => by
        obtain ⟨oz, ez, hoz, hez, hbz, hnl, _⟩ := hz i hm
        obtain ⟨_, oi', hoi', hall'⟩ := mem_ready.1 hr
        rw [hoz] at hoi'
        obtain rfl := Option.some.inj hoi'
        have := hall' ez hez hbz
        rw [low hnl] at this
        cases this
      have hl1 : lst zs (listed.setIfInBounds i true) = false := by rw [lst_set hi2]; exact hl0
      have hl2 : lst zs (listed.setIfInBounds j true) = false := by rw [lst_set hjz]; exact hl0
      have hS' : S w' := (h3.2.1.resolve_left hjz).resolve_left (by rw [hl1]; decide)
      refine ⟨.inr (.inr hS'), ih (listed.setIfInBounds j true) a' w' hz' hl2 hfree' (ready_mono hr (Ne.symm hji)) h3.1 hS' ?_⟩
      rw [Array.setIfInBounds_comm _ _ hji]
      exact h3.2.2
theorem fin {listed : Array Bool} {a : Act} {w : World} (hr : Region.ready md ops listed = []) (h : Q .normal a w) :
    ∀ fuel, wpAnyE P md ops Q S zs fuel listed a w
  | 0 => ⟨hr, h⟩
  | _ + 1 => ⟨fun _ => h, by rw [hr]; simp⟩
theorem all {rs : List Nat} {fuel : Nat} {listed : Array Bool} {a : Act} {w : World} (hr : Region.ready md ops listed = rs) (hne : rs ≠ [])
    (h : ∀ i ∈ rs, wpOp P ops Q i (fun a' w' => (i ∈ zs ∨ lst zs listed = true ∨ S w') ∧ wpAnyE P md ops Q S zs fuel (listed.setIfInBounds i true) a' w') a w) : wpAnyE P md ops Q S zs (fuel + 1) listed a w :=
  ⟨fun h0 => absurd (hr ▸ h0) hne, hr ▸ h⟩
end
def okB (ops : Array Oper) (zs : List Nat) (i : Nat) (listed : Array Bool) : Bool := (zs.all fun z => Sz.blocksB ops z i listed) && !lst zs listed
theorem takeU {P : Program} {ops : Array Oper} {Q : Exit → Act → World → Prop} {S : World → Prop} {zs : List Nat} {i fuel : Nat} {oi : Oper} {v : Value} {listed : Array Bool} {a : Act} {w : World} (hz : zs.contains i = false) (hi : ops[i]? = some oi) (hs : Region.noSelect ops = true) (hf : Region.free .any ops listed i = true) (hr : (Region.ready .any ops listed).contains i = true)
    (hQ : ∀ c a w, Q (.panic c) (a.put oi.dst v) w → Q (.panic c) a w) (hy : YieldsIf P ops (fun _ => True) oi v a) (hS : S w) (h : wpAnyE P .any ops Q S zs fuel (listed.setIfInBounds i true) (a.put oi.dst v) w) : wpAnyE P .any ops Q S zs (fuel + 1) listed a w :=
  firstU (v := v) hi (by simpa using hz) (Region.noSelect_spec hs) hQ fuel listed a w (Region.free_spec hi hf) (by simpa using hr) hy (.inr hS) h
theorem take {P : Program} {ops : Array Oper} {Q : Exit → Act → World → Prop} {S : World → Prop} {zs : List Nat} {i fuel : Nat} {oi : Oper} {v : Value} {listed : Array Bool} {a : Act} {w : World} (hz : okB ops zs i listed = true) (hi : ops[i]? = some oi) (hs : Region.noSelect ops = true) (hf : Region.free .any ops listed i = true) (hr : (Region.ready .any ops listed).contains i = true)
    (hQ : ∀ c a w, Q (.panic c) (a.put oi.dst v) w → Q (.panic c) a w) (hy : YieldsIf P ops S oi v a) (hS : S w) (h : wpAnyE P .any ops Q S zs fuel (listed.setIfInBounds i true) (a.put oi.dst v) w) : wpAnyE P .any ops Q S zs (fuel + 1) listed a w :=
  first (v := v) hi (Region.noSelect_spec hs) hQ fuel listed a w (fun z hm => Sz.blocks_of (List.all_eq_true.1 (by unfold okB at hz; rw [Bool.and_eq_true] at hz; exact hz.1) z hm)) (by unfold okB at hz; rw [Bool.and_eq_true] at hz; simpa using hz.2) (Region.free_spec hi hf) (by simpa using hr) hy hS h

/-- An allocation that waits for nothing: its place in the region, the slot that it fills, the cells of the new block, their type. -/
structure Fl where
  idx : Nat
  slot : Nat
  cs : Array Value
  ty : TypeId
  sv : Option (Nat × Value)
  n : Option Nat
/-- The slice of n elements, or a pointer. -/
def sln (n : Option Nat) (g : Nat) : Value := match n with
  | some n => .slice (some ⟨g, 0, none⟩) n n
  | none => .pointer (some ⟨g, 0, none⟩)
theorem sln_inj {n m : Option Nat} {g h : Nat} (e : sln n g = sln m h) : g = h := by
  cases n <;> cases m <;> (unfold sln at e; first | cases e; rfl | cases e)
/-- Its source's slot is another one. -/
def Fl.off (f : Fl) (d : Option Nat) : Bool := match f.sv with
  | none => true
  | some s => d != some s.1
theorem off_spec {f : Fl} {d : Option Nat} (h : f.off d = true) (s : Nat) (v : Value) (e : f.sv = some (s, v)) : d ≠ some s := by
  unfold Fl.off at h
  rw [e] at h
  simpa using h
/-- The source has its value. -/
def Fl.at (f : Fl) (a : Act) : Prop := ∀ s v, f.sv = some (s, v) → a.tmps.getD s undef = v
theorem ne_of {f g : Fl} {s : Nat} {v : Value} (h : some f.slot ≠ g.sv.map (·.1)) (e : g.sv = some (s, v)) : f.slot ≠ s := fun k => h (by rw [e, k]; rfl)

/-- The act, with something in the slots of what is still to be met. -/
def fill (F : List Fl) (x : Nat → Value) (a : Act) : Act := F.foldl (fun a f => a.put (some f.slot) (x f.slot)) a
theorem put_comm (a : Act) {d e : Nat} (h : d ≠ e) (u v : Value) : (a.put (some d) u).put (some e) v = (a.put (some e) v).put (some d) u := by
  simp only [Act.put]
  rw [Array.setIfInBounds_comm _ _ h]
theorem put_put (a : Act) (d : Nat) (u v : Value) : (a.put (some d) u).put (some d) v = a.put (some d) v := by
  simp only [Act.put, Array.setIfInBounds_setIfInBounds]
theorem fill_put (x : Nat → Value) (dst : Option Nat) (v : Value) : ∀ (F : List Fl) (a : Act), (∀ f ∈ F, dst ≠ some f.slot) → (fill F x a).put dst v = fill F x (a.put dst v)
  | [], a, _ => rfl
  | f :: r, a, h => by
    have ih := fill_put x dst v r (a.put (some f.slot) (x f.slot)) fun g hg => h g (List.mem_cons_of_mem _ hg)
    show (fill r x (a.put (some f.slot) (x f.slot))).put dst v = fill r x ((a.put dst v).put (some f.slot) (x f.slot))
    rw [ih]
    cases dst with
    | none => rfl
    | some d => rw [put_comm a (fun e => h f (List.mem_cons_self ..) (by rw [e])) (x f.slot) v]
theorem fill_congr {x y : Nat → Value} : ∀ (F : List Fl) (a : Act), (∀ f ∈ F, x f.slot = y f.slot) → fill F x a = fill F y a
  | [], _, _ => rfl
  | f :: r, a, h => by
    show fill r x (a.put (some f.slot) (x f.slot)) = fill r y (a.put (some f.slot) (y f.slot))
    rw [h f (List.mem_cons_self ..), fill_congr r _ fun g hg => h g (List.mem_cons_of_mem _ hg)]
def upd (x : Nat → Value) (s : Nat) (v : Value) (k : Nat) : Value := if k = s then v else x k
theorem fill_set (x : Nat → Value) (s : Nat) (v : Value) : ∀ (F : List Fl) (a : Act), (F.map (·.slot)).Nodup → (∃ f ∈ F, f.slot = s) → (fill F x a).put (some s) v = fill F (upd x s v) a
  | [], a, _, h => by obtain ⟨_, h, _⟩ := h; cases h
  | f :: r, a, hn, h => by
    rw [List.map_cons, List.nodup_cons] at hn
    show (fill r x (a.put (some f.slot) (x f.slot))).put (some s) v = fill r (upd x s v) (a.put (some f.slot) (upd x s v f.slot))
    by_cases e : f.slot = s
    · have hne : ∀ g ∈ r, g.slot ≠ s := fun g hg e' => hn.1 (List.mem_map.2 ⟨g, hg, by rw [e, e']⟩)
      rw [fill_put x (some s) v r _ fun g hg e' => hne g hg (Option.some.inj e').symm, e, put_put]
      rw [show upd x s v s = v by simp [upd]]
      exact fill_congr r _ fun g hg => by simp [upd, hne g hg]
    · obtain ⟨g, hg, hs⟩ := h
      have hg' : g ∈ r := by
        rcases List.mem_cons.1 hg with rfl | k
        · exact absurd hs e
        · exact k
      rw [show upd x s v f.slot = x f.slot by simp [upd, e]]
      exact fill_set x s v r _ hn.2 ⟨g, hg', hs⟩

/-- What has come up: these besides. -/
def marks (L : Array Bool) (d : List Nat) : Array Bool := d.foldl (fun L i => L.setIfInBounds i true) L
theorem marks_get : ∀ (d : List Nat) (L : Array Bool) (k : Nat), (marks L d)[k]? = if k ∈ d then (L[k]?).map (fun _ => true) else L[k]?
  | [], L, k => by simp [marks]
  | i :: r, L, k => by
    show (marks (L.setIfInBounds i true) r)[k]? = _
    rw [marks_get r, Array.getElem?_setIfInBounds]
    by_cases hi : i = k
    · subst hi
      by_cases hl : i < L.size
      · simp [hl]
      · simp [hl]
    · have hk : k ≠ i := fun e => hi e.symm
      simp [hi, hk]
theorem marks_size : ∀ (d : List Nat) (L : Array Bool), (marks L d).size = L.size
  | [], _ => rfl
  | j :: r, L => by show (marks (L.setIfInBounds j true) r).size = _; rw [marks_size r, Array.size_setIfInBounds]
theorem marks_set (L : Array Bool) (d : List Nat) (i : Nat) : (marks L d).setIfInBounds i true = marks (L.setIfInBounds i true) d := by
  refine Array.ext_getElem? fun k => ?_
  rw [Array.getElem?_setIfInBounds, marks_get, marks_get, Array.getElem?_setIfInBounds]
  rw [marks_size]
  by_cases hi : i = k
  · subst hi
    by_cases hl : i < L.size <;> by_cases hd : i ∈ d <;> simp [hl, hd]
  · simp [hi]
/-- Which of them have come up, by a mask. -/
def doneOf (F : List Fl) (m : Nat → Bool) : List Nat := (F.filter fun f => m f.idx).map (·.idx)
theorem mem_done {F : List Fl} {m : Nat → Bool} {k : Nat} : k ∈ doneOf F m ↔ m k = true ∧ ∃ f ∈ F, f.idx = k := by
  unfold doneOf
  rw [List.mem_map]
  constructor
  · rintro ⟨f, hf, rfl⟩
    rw [List.mem_filter] at hf
    exact ⟨hf.2, f, hf.1, rfl⟩
  · rintro ⟨hm, f, hf, rfl⟩
    exact ⟨f, List.mem_filter.2 ⟨hf, hm⟩, rfl⟩
def on (m : Nat → Bool) (j k : Nat) : Bool := k == j || m k
theorem marks_on (L : Array Bool) (F : List Fl) (m : Nat → Bool) (f : Fl) (hf : f ∈ F) : (marks L (doneOf F m)).setIfInBounds f.idx true = marks L (doneOf F (on m f.idx)) := by
  rw [marks_set]
  refine Array.ext_getElem? fun k => ?_
  rw [marks_get, marks_get, Array.getElem?_setIfInBounds]
  by_cases e : f.idx = k
  · subst e
    have h2 : f.idx ∈ doneOf F (on m f.idx) := mem_done.2 ⟨by simp [on], f, hf, rfl⟩
    rw [if_pos h2]
    by_cases hl : f.idx < L.size <;> by_cases hd : f.idx ∈ doneOf F m <;> simp [hl, hd]
  · have hiff : (k ∈ doneOf F (on m f.idx)) ↔ (k ∈ doneOf F m) := by
      have hb : (k == f.idx) = false := by simpa using fun h => e h.symm
      rw [mem_done, mem_done]
      simp [on, hb]
    by_cases hd : k ∈ doneOf F m
    · rw [if_pos hd, if_pos (hiff.2 hd)]; simp [e]
    · rw [if_neg hd, if_neg (fun h => hd (hiff.1 h))]; simp [e]
/-- All masks. -/
def allMasks : List Fl → (List Nat → Bool) → Bool
  | [], k => k []
  | f :: r, k => allMasks r k && allMasks r (fun d => k (f.idx :: d))
theorem allMasks_spec : ∀ (F : List Fl) (k : List Nat → Bool), allMasks F k = true → ∀ m, k (doneOf F m) = true
  | [], k, h, m => h
  | f :: r, k, h, m => by
    unfold allMasks at h
    rw [Bool.and_eq_true] at h
    unfold doneOf
    rw [List.filter_cons]
    cases hm : m f.idx with
    | true => rw [if_pos rfl]; exact allMasks_spec r _ h.2 m
    | false => rw [if_neg (by simp)]; exact allMasks_spec r _ h.1 m

/-- May the region be walked so? -/
def goodT (ops : Array Oper) : List Nat → Array Bool → Bool
  | [], L => (Region.ready .any ops L).isEmpty
  | z :: r, L => (match ops[z]? with
    | some o => o.guard.isNone
    | none => false) && Region.ready .any ops L == [z] && goodT ops r (L.setIfInBounds z true)
def good (ops : Array Oper) (zs : List Nat) : List (Nat × Nat) → List Fl → Array Bool → Bool
  | [], F, L => F.isEmpty && goodT ops zs L
  | (0, i) :: r, F, L =>
    (match ops[i]? with
     | some o => light o.op && F.all (fun f => o.dst != some f.slot && f.off o.dst) && allMasks F (fun d => Region.free .any ops (marks L d) i && (Region.ready .any ops (marks L d)).contains i && okB ops zs i (marks L d))
     | none => false) && good ops zs r F (L.setIfInBounds i true)
  | (1, i) :: r, F, L =>
    (match ops[i]? with
     | some o => F.all (fun f => o.dst != some f.slot && f.off o.dst) && allMasks F (fun d => !(Region.ready .any ops (marks L d)).isEmpty && (Region.ready .any ops (marks L d)).all fun j => j == i || F.any fun f => f.idx == j && !d.contains j)
     | none => false) && good ops zs r F (L.setIfInBounds i true)
  | (_, i) :: r, f :: F, L =>
    (ops[i]?).isSome && allMasks (f :: F) (fun d => d.contains f.idx || (!(Region.ready .any ops (marks L d)).isEmpty && (Region.ready .any ops (marks L d)).all fun j => (f :: F).any fun g => g.idx == j && !d.contains j)) && good ops zs r F (L.setIfInBounds f.idx true)
  | (_, _) :: _, [], _ => false

/-- The walk. (0: a light operation, at once; 1: a call or another that writes, alone; 2: the next block is met.) -/
def wpT (P : Program) (Q : Exit → Act → World → Prop) : List Oper → Act → World → Prop
  | [], a, w => Q .normal a w
  | o :: r, a, w => o.wp P a w (fun a' w' => wpT P Q r a' w') Q
def wpSg (P : Program) (ops : Array Oper) (C : World → Prop) (Q : Exit → Act → World → Prop) (tl : List Oper) (n0 : Nat) : List (Nat × Oper) → List Fl → List (Nat × Nat) → List Nat → Act → World → Prop
  | [], _, _, _, a, w => ∀ w', Below w.heap.size w w' → C w' → wpT P Q tl a w'
  | (0, o) :: r, F, H, L, a, w => ∀ x, wpQuiet P ops C (fun a' => wpSg P ops C Q tl n0 r F H L a' w) [o] (fill F x a)
  | (1, o) :: r, F, H, L, a, w => ∀ x w', Below w.heap.size w w' → C w' → Region.wanted o (yielded ops (fill F x a).tmps) = true ∧
      o.wp P (fill F x a) w' (fun a'' w'' => C w'' ∧ w'.heap.size ≤ w''.heap.size ∧ (F = [] ∨ ∀ g, n0 ≤ g → g < w'.heap.size → (∀ p ∈ H, g < p.1 ∨ p.2 ≤ g) → g ∉ L → w''.heap[g]? = w'.heap[g]?) ∧ wpSg P ops C Q tl n0 r F ((w'.heap.size, w''.heap.size) :: H) L a'' w'') Q
  | (_, _) :: r, F, H, L, a, w => match F with
    | [] => False
    | f :: F => ∀ g w', Below w.heap.size w w' → C w' → w'.heap[g]? = some (.cells f.cs f.ty (0, 0)) → n0 ≤ g → (∀ p ∈ H, g < p.1 ∨ p.2 ≤ g) → g ∉ L → wpSg P ops C Q tl n0 r F H (g :: L) (a.put (some f.slot) (sln f.n g)) w'

def picks (l : List Oper) : List (Nat × Nat) → List (Nat × Oper)
  | [] => []
  | (k, i) :: r => match l[i]? with
    | some o => (k, o) :: picks l r
    | none => picks l r

/-- What is known of the blocks that are still to be met. -/
structure Inv (F : List Fl) (m : Nat → Bool) (x : Nat → Value) (a : Act) (n0 : Nat) (H : List (Nat × Nat)) (L : List Nat) (w : World) : Prop where
  ne : ∀ f ∈ F, ∀ g ∈ F, some f.slot ≠ g.sv.map (·.1)
  src : ∀ f ∈ F, f.at a
  old : ∀ f ∈ F, m f.idx = false → x f.slot = a.tmps.getD f.slot undef
  new : ∀ f ∈ F, m f.idx = true → ∃ g, x f.slot = sln f.n g ∧ w.heap[g]? = some (.cells f.cs f.ty (0, 0)) ∧ n0 ≤ g ∧ (∀ p ∈ H, g < p.1 ∨ p.2 ≤ g) ∧ g ∉ L
  apart : ∀ f ∈ F, ∀ f' ∈ F, f.slot ≠ f'.slot → m f.idx = true → m f'.idx = true → ∀ b b' : Nat, x f.slot = sln f.n b → x f'.slot = sln f'.n b' → b ≠ b'
  past : ∀ p ∈ H, p.2 ≤ w.heap.size
  met : ∀ g ∈ L, g < w.heap.size

theorem getD_put (a : Act) (dst : Option Nat) (v : Value) (s : Nat) (h : dst ≠ some s) : (a.put dst v).tmps.getD s undef = a.tmps.getD s undef := by
  cases dst with
  | none => rfl
  | some d =>
    have hd : d ≠ s := fun e => h (by rw [e])
    simp only [Act.put, Array.getD_eq_getD_getElem?, Array.getElem?_setIfInBounds, if_neg hd]
theorem fill_idem (x : Nat → Value) : ∀ (F : List Fl) (a : Act), fill F x (fill F x a) = fill F x a
  | [], _ => rfl
  | f :: r, a => by
    show fill r x ((fill r x (a.put (some f.slot) (x f.slot))).put (some f.slot) (x f.slot)) = fill r x (a.put (some f.slot) (x f.slot))
    have e : ∀ (r : List Fl) (b : Act), (fill r x (b.put (some f.slot) (x f.slot))).put (some f.slot) (x f.slot) = fill r x (b.put (some f.slot) (x f.slot)) := by
      intro r
      induction r with
      | nil => intro b; exact put_put b _ _ _
      | cons g r ih =>
        intro b
        show (fill r x ((b.put (some f.slot) (x f.slot)).put (some g.slot) (x g.slot))).put (some f.slot) (x f.slot) = fill r x ((b.put (some f.slot) (x f.slot)).put (some g.slot) (x g.slot))
        by_cases h : f.slot = g.slot
        · rw [← h, put_put]; exact ih b
        · rw [put_comm b h, ih]
    rw [e]
    exact fill_idem x r _
/-- An act with other deferred calls. -/
def withD (a : Act) (ds : List Deferred) : Act := { a with defers := ds }
theorem fill_D (x : Nat → Value) (ds : List Deferred) : ∀ (F : List Fl) (a : Act), withD (fill F x a) ds = fill F x (withD a ds)
  | [], _ => rfl
  | f :: r, a => by
    show withD (fill r x (a.put (some f.slot) (x f.slot))) ds = fill r x ((withD a ds).put (some f.slot) (x f.slot))
    rw [fill_D x ds r]
    rfl
theorem getD_fill (x : Nat → Value) (s : Nat) : ∀ (F : List Fl) (a : Act), (∀ f ∈ F, f.slot = s → x s = a.tmps.getD s undef) → (fill F x a).tmps.getD s undef = a.tmps.getD s undef
  | [], _, _ => rfl
  | f :: r, a, h => by
    have e : (a.put (some f.slot) (x f.slot)).tmps.getD s undef = a.tmps.getD s undef := by
      by_cases hs : f.slot = s
      · subst hs
        have := h f (List.mem_cons_self ..) rfl
        simp only [Act.put, Array.getD_eq_getD_getElem?, Array.getElem?_setIfInBounds] at *
        by_cases hl : f.slot < a.tmps.size
        · simp [hl] at *; exact this
        · simp [hl]
      · exact getD_put a _ _ s (fun k => hs (Option.some.inj k))
    show (fill r x (a.put (some f.slot) (x f.slot))).tmps.getD s undef = _
    rw [getD_fill x s r _ fun g hg k => by rw [e]; exact h g (List.mem_cons_of_mem _ hg) k, e]
/-- What follows an operation follows it at the act in which its slot is filled. -/
theorem wp_put {P : Program} {o : Oper} {a : Act} {w : World} {K : Act → World → Prop} {Q : Exit → Act → World → Prop} (h : o.wp P a w K Q) : o.wp P a w (fun a' w' => (∃ ds v, a' = (withD a ds).put o.dst v) ∧ K a' w') Q := by
  unfold Oper.wp at *
  cases hr : (execOp a.eval o).run P w with
  | halt y w1 => rw [hr] at h; cases y <;> exact h
  | ok nx w1 =>
    rw [hr] at h
    cases nx with
    | value v => exact ⟨⟨a.defers, v, rfl⟩, h⟩
    | skip => exact ⟨⟨a.defers, undef, rfl⟩, h⟩
    | defer d => exact ⟨⟨d :: a.defers, undef, rfl⟩, h⟩
    | enter f args =>
      refine Calls.mono h fun e w'' k => ?_
      cases e with
      | returned v => exact ⟨⟨a.defers, v, rfl⟩, k⟩
      | panicked c => exact k
      | outgrown => exact k
    | row r args => exact Rows.mono h fun v w'' k => ⟨⟨a.defers, v, rfl⟩, k⟩
    | _ => exact h

/-- How many are still to come up. -/
def left : List Fl → (Nat → Bool) → Nat
  | [], _ => 0
  | f :: r, m => left r m + (if m f.idx then 0 else 1)
theorem on_le (m : Nat → Bool) (j k : Nat) : (if on m j k then 0 else 1) ≤ (if m k then 0 else 1) := by
  unfold on
  cases (k == j) <;> cases m k <;> simp
theorem left_mono (m : Nat → Bool) (j : Nat) : ∀ r : List Fl, left r (on m j) ≤ left r m
  | [] => Nat.le_refl _
  | g :: r => Nat.add_le_add (left_mono m j r) (on_le m j g.idx)
theorem left_on : ∀ (F : List Fl) (m : Nat → Bool) (f : Fl), f ∈ F → m f.idx = false → left F (on m f.idx) + 1 ≤ left F m
  | g :: r, m, f, hf, hm => by
    have a := left_mono m f.idx r
    have b := on_le m f.idx g.idx
    unfold left
    rcases List.mem_cons.1 hf with e | k
    · subst e
      have : on m f.idx f.idx = true := by simp [on]
      rw [this, hm]
      simp
      exact a
    · have ih := left_on r m f k hm
      omega
theorem nodup_same : ∀ {F : List Fl}, (F.map (·.slot)).Nodup → ∀ f ∈ F, ∀ g ∈ F, g.slot = f.slot → g = f
  | [], _, f, hf, _, _, _ => by cases hf
  | b :: r, hn, f, hf, g, hg, e => by
    rw [List.map_cons, List.nodup_cons] at hn
    rcases List.mem_cons.1 hg with h1 | hg'
    · rcases List.mem_cons.1 hf with h2 | hf'
      · rw [h1, h2]
      · exact absurd (List.mem_map.2 ⟨f, hf', by rw [← e, h1]⟩) hn.1
    · rcases List.mem_cons.1 hf with h2 | hf'
      · exact absurd (List.mem_map.2 ⟨g, hg', by rw [e, h2]⟩) hn.1
      · exact nodup_same hn.2 f hf' g hg' e

section
variable {P : Program} {l : List Oper} {C : World → Prop} {Q : Exit → Act → World → Prop} {n0 : Nat} {zs : List Nat} {tl : List Oper}
/-- What the prover says of each of the allocations. -/
def FlOk (P : Program) (l : List Oper) (f : Fl) : Prop := ∃ o, l.toArray[f.idx]? = some o ∧ o.dst = some f.slot ∧ o.guard = none ∧ ∀ (a : Act) w, f.at a → (execOp a.eval o).run P w = .ok (.value (sln f.n w.heap.size)) (w.alloc (.cells f.cs f.ty))

/-- One of them comes up. -/
theorem Inv.step {F : List Fl} {m : Nat → Bool} {x : Nat → Value} {a : Act} {H : List (Nat × Nat)} {L : List Nat} {w : World} (h : Inv F m x a n0 H L w) (hn : (F.map (·.slot)).Nodup) (hi : ∀ f ∈ F, ∀ f' ∈ F, f.idx = f'.idx → f.slot = f'.slot) (h0 : n0 ≤ w.heap.size) (f : Fl) (hf : f ∈ F) (hm : m f.idx = false) :
    Inv F (on m f.idx) (upd x f.slot (sln f.n w.heap.size)) a n0 H L (w.alloc (.cells f.cs f.ty)) := by
  have same := nodup_same hn f hf
  have on_ : ∀ g ∈ F, g.slot ≠ f.slot → on m f.idx g.idx = m g.idx := fun g hg hne => by
    have hb : (g.idx == f.idx) = false := by simpa using fun e => hne (hi g hg f hf e)
    simp [on, hb]
  have onf : on m f.idx f.idx = true := by simp [on]
  refine ⟨h.ne, h.src, fun g hg hmg => ?_, fun g hg hmg => ?_, fun g hg g' hg' hne hmg hmg' => ?_, fun p hp => ?_, fun g hg => ?_⟩
  · by_cases e : g.slot = f.slot
    · rw [same g hg e, onf] at hmg; cases hmg
    · rw [on_ g hg e] at hmg
      simp only [upd, if_neg e]
      exact h.old g hg hmg
  · by_cases e : g.slot = f.slot
    · obtain rfl := same g hg e
      exact ⟨w.heap.size, by simp [upd], heap_alloc_new w _, h0, fun p hp => .inr (h.past p hp), fun hl => by have := h.met _ hl; omega⟩
    · rw [on_ g hg e] at hmg
      obtain ⟨b, h1, h2, h3⟩ := h.new g hg hmg
      exact ⟨b, by simp only [upd, if_neg e]; exact h1, (Below.heap_alloc w _ b (lt_of_block h2)).trans h2, h3⟩
  · by_cases e : g.slot = f.slot
    · have e' : g'.slot ≠ f.slot := fun k => hne (e.trans k.symm)
      rw [on_ g' hg' e'] at hmg'
      obtain ⟨b, h1, h2, _⟩ := h.new g' hg' hmg'
      have := lt_of_block h2
      simp only [upd, if_pos e, if_neg e', h1]
      intro c c' k k' q
      have := sln_inj k
      have := sln_inj k'
      omega
    · by_cases e' : g'.slot = f.slot
      · rw [on_ g hg e] at hmg
        obtain ⟨b, h1, h2, _⟩ := h.new g hg hmg
        have := lt_of_block h2
        simp only [upd, if_neg e, if_pos e', h1]
        intro c c' k k' q
        have := sln_inj k
        have := sln_inj k'
        omega
      · rw [on_ g hg e] at hmg
        rw [on_ g' hg' e'] at hmg'
        simp only [upd, if_neg e, if_neg e']
        exact h.apart g hg g' hg' hne hmg hmg'
  · have := h.past p hp
    simp
    omega
  · have := h.met g hg
    simp
    omega
/-- How many of the schedule's rows are operations. -/
def cnt (k : Nat) : List (Nat × Nat) → Nat
  | [] => k
  | (0, _) :: r => cnt k r + 1
  | (1, _) :: r => cnt k r + 1
  | (_ + 2, _) :: r => cnt k r

def picksL (l : List Oper) : List Nat → List Oper
  | [] => []
  | i :: r => match l[i]? with
    | some o => o :: picksL l r
    | none => picksL l r
/-- The last operations, one behind the other. -/
theorem tail {P : Program} {l : List Oper} {C : World → Prop} {Q : Exit → Act → World → Prop} {zs : List Nat} : ∀ (ys : List Nat) (listed : Array Bool) (fuel : Nat) (a : Act) (w : World), (∀ z ∈ ys, z ∈ zs) → ys.length ≤ fuel → goodT l.toArray ys listed = true → wpT P Q (picksL l ys) a w → wpAnyE P .any l.toArray Q C zs fuel listed a w
  | [], listed, fuel, a, w, _, _, hg, h => by
    unfold goodT at hg
    exact fin (by simpa using hg) h fuel
  | z :: r, listed, 0, a, w, _, hl, _, _ => by simp at hl
  | z :: r, listed, fuel + 1, a, w, hs, hl, hg, h => by
    unfold goodT at hg
    simp only [Bool.and_eq_true, beq_iff_eq] at hg
    obtain ⟨⟨hg1, hr⟩, hg2⟩ := hg
    have hll : l.toArray[z]? = l[z]? := by rw [List.getElem?_toArray]
    cases ho : l[z]? with
    | none => rw [hll, ho] at hg1; cases hg1
    | some o =>
      rw [hll, ho] at hg1
      have hgd : o.guard = none := by simpa using hg1
      have hop := hll.trans ho
      rw [picksL, ho] at h
      refine all hr (by simp) fun j hj => ?_
      obtain rfl : j = z := by simpa using hj
      unfold wpOp
      simp only [hop]
      rw [if_pos (by simp [Region.wanted, hgd])]
      exact .inl (Oper.wp_mono (fun a' w' k => ⟨.inl (hs j (List.mem_cons_self ..)), tail r _ fuel a' w' (fun z hz => hs z (List.mem_cons_of_mem _ hz)) (by simp at hl; omega) hg2 k⟩) h)

/-- What holds of a state that the walk has come to. -/
def Holds (P : Program) (l : List Oper) (C : World → Prop) (Q : Exit → Act → World → Prop) (zs : List Nat) (n0 : Nat) (n : Nat) : Prop :=
  ∀ (sc : List (Nat × Nat)) (F : List Fl) (H : List (Nat × Nat)) (L : List Nat) (listed : Array Bool) (fuel : Nat) (a : Act) (w : World) (m : Nat → Bool) (x : Nat → Value) (w' : World),
    2 * fuel + sc.length ≤ n → good l.toArray zs sc F listed = true → (∀ f ∈ F, FlOk P l f) → (F.map (·.slot)).Nodup → (∀ f ∈ F, ∀ f' ∈ F, f.idx = f'.idx → f.slot = f'.slot) → Inv F m x a n0 H L w' → Below w.heap.size w w' → C w' →
    cnt zs.length sc + left F m ≤ fuel → wpSg P l.toArray C Q (picksL l zs) n0 (picks l sc) F H L a w → wpAnyE P .any l.toArray Q C zs fuel (marks listed (doneOf F m)) (fill F x a) w'

theorem wanted_none {o : Oper} {y : Nat → Option Bool} (h : o.guard = none) : Region.wanted o y = true := by simp [Region.wanted, h]
/-- One of the allocations is carried out. -/
theorem float {n : Nat} (ih : Holds P l C Q zs n0 n) (hC : ∀ w, C w → n0 ≤ w.heap.size) (hA : ∀ w o, C w → C (w.alloc o)) {sc : List (Nat × Nat)} {F : List Fl} {H : List (Nat × Nat)} {L : List Nat} {listed : Array Bool} {fuel : Nat} {a : Act} {w : World} {m : Nat → Bool} {x : Nat → Value} {w' : World}
    (hn : 2 * (fuel + 1) + sc.length ≤ n + 1) (hg : good l.toArray zs sc F listed = true) (hF : ∀ f ∈ F, FlOk P l f) (hs : (F.map (·.slot)).Nodup) (hi : ∀ f ∈ F, ∀ f' ∈ F, f.idx = f'.idx → f.slot = f'.slot) (hI : Inv F m x a n0 H L w') (hb : Below w.heap.size w w') (hc : C w')
    (hf : cnt zs.length sc + left F m ≤ fuel + 1) (h : wpSg P l.toArray C Q (picksL l zs) n0 (picks l sc) F H L a w) (f : Fl) (hff : f ∈ F) (hm : m f.idx = false) :
    wpOp P l.toArray Q f.idx (fun a' w' => (f.idx ∈ zs ∨ lst zs (marks listed (doneOf F m)) = true ∨ C w') ∧ wpAnyE P .any l.toArray Q C zs fuel ((marks listed (doneOf F m)).setIfInBounds f.idx true) a' w') (fill F x a) w' := by
  obtain ⟨o, ho, hd, hgd, hrun⟩ := hF f hff
  unfold wpOp
  simp only [ho, wanted_none hgd, if_true]
  refine .inl ?_
  unfold Oper.wp
  rw [hrun _ _ (fun s u e => by rw [getD_fill x s F a fun g hg k => absurd k (ne_of (hI.ne g hg f hff) e)]; exact hI.src f hff s u e)]
  rw [Oper.upon_value, hd, fill_set x f.slot _ F a hs ⟨f, hff, rfl⟩, marks_on listed F m f hff]
  have lo := left_on F m f hff hm
  exact ⟨.inr (.inr (hA _ _ hc)), ih sc F H L listed fuel a w _ _ _ (by omega) hg hF hs hi (hI.step hs hi (hC _ hc) f hff hm) (hb.trans ((Below.refl _ _).alloc hb.size _)) (hA _ _ hc) (by omega) h⟩

theorem holds (hsel : Region.noSelect l.toArray = true) (hQ : ∀ c d v a w, Q (.panic c) (Act.put a d v) w → Q (.panic c) a w) (hC : ∀ w, C w → n0 ≤ w.heap.size) (hA : ∀ w o, C w → C (w.alloc o)) : ∀ n, Holds P l C Q zs n0 n := by
  intro n
  induction n with
  | zero =>
    intro sc F H L listed fuel a w m x w' hn hg hF hs hi hI hb hc hf h
    have e : sc = [] := List.length_eq_zero_iff.1 (by omega)
    subst e
    unfold good at hg
    simp only [Bool.and_eq_true, List.isEmpty_iff] at hg
    obtain ⟨rfl, hr⟩ := hg
    exact tail zs listed fuel _ _ (fun _ h => h) (by simp only [cnt] at hf; omega) hr (h w' hb hc)
  | succ n ih =>
    intro sc F H L listed fuel a w m x w' hn hg hF hs hi hI hb hc hf h
    match sc, hg, h, hn, hf with
    | [], hg, h, _, hf =>
      unfold good at hg
      simp only [Bool.and_eq_true, List.isEmpty_iff] at hg
      obtain ⟨rfl, hr⟩ := hg
      exact tail zs listed fuel _ _ (fun _ h => h) (by simp only [cnt] at hf; omega) hr (h w' hb hc)
    | (0, i) :: r, hg, h, hn, hf =>
      have hg' : (_ && good l.toArray zs r F (listed.setIfInBounds i true)) = true := hg
      rw [Bool.and_eq_true] at hg'
      obtain ⟨hg1, hg2⟩ := hg'
      cases ho : l[i]? with
      | none => simp [ho] at hg1
      | some o =>
        have hop : l.toArray[i]? = some o := by simp [ho]
        rw [hop] at hg1
        simp only [Bool.and_eq_true, List.all_eq_true] at hg1
        obtain ⟨⟨hl, hds⟩, hm⟩ := hg1
        have hds' : ∀ f ∈ F, o.dst ≠ some f.slot := fun f hf => by have := hds f hf; simp at this; simpa using this.1
        have hdr := fun f hf => off_spec (hds f hf).2
        have hm' := allMasks_spec F _ hm m
        simp only [Bool.and_eq_true] at hm'
        rw [picks, ho] at h
        obtain ⟨fuel, rfl⟩ : ∃ k, fuel = k + 1 := ⟨fuel - 1, by simp only [cnt] at hf; omega⟩
        have q := h x
        unfold wpQuiet at q
        have next : ∀ v', wpSg P l.toArray C Q (picksL l zs) n0 (picks l r) F H L ((fill F x a).put o.dst v') w → wpAnyE P .any l.toArray Q C zs fuel ((marks listed (doneOf F m)).setIfInBounds i true) ((fill F x a).put o.dst v') w' := fun v' hnx => by
          have k := ih r F H L (listed.setIfInBounds i true) fuel ((fill F x a).put o.dst v') w m x w' (by simp at hn; omega) hg2 hF hs hi ⟨hI.ne, fun f hff s u e => by rw [getD_put _ o.dst v' s (hdr f hff s u e), getD_fill x s F a fun g hg k => absurd k (ne_of (hI.ne g hg f hff) e)]; exact hI.src f hff s u e, fun f hff hmf => ?_, hI.new, hI.apart, hI.past, hI.met⟩ hb hc (by simp only [cnt] at hf; omega) hnx
          · rw [fill_put x o.dst v' F a hds', fill_idem, ← marks_set] at k
            rw [fill_put x o.dst v' F a hds']
            exact k
          · rw [getD_put _ o.dst v' f.slot (hds' f hff), getD_fill x f.slot F a fun g hg e => by rw [← e]; obtain rfl := nodup_same hs f hff g hg e; exact hI.old g hg hmf]
            exact hI.old f hff hmf
        by_cases hw : Region.wanted o (yielded l.toArray (fill F x a).tmps) = true
        · rw [if_pos hw] at q
          obtain ⟨v', hv', e⟩ := q
          refine take (v := v') hm'.2 hop hsel hm'.1.1 hm'.1.2 (fun c a w => hQ c _ _ a w) (.inl ⟨hw, fun w2 hw2 => ?_⟩) hc (next v' e)
          have q2 := hv' w2 hw2
          unfold Oper.quietAt at q2
          cases e2 : (execOp (fill F x a).eval o).run P w2 with
          | halt y w1 => rw [e2] at q2; cases q2
          | ok nx w1 =>
            obtain ⟨u, rfl⟩ := light_value hl e2
            rw [e2] at q2
            obtain ⟨e3, e4⟩ := q2
            rw [e3, e4]
        · rw [if_neg hw] at q
          exact take (v := undef) hm'.2 hop hsel hm'.1.1 hm'.1.2 (fun c a w => hQ c _ _ a w) (.inr ⟨by simpa using hw, rfl⟩) hc (next undef q)
    | (1, i) :: r, hg, h, hn, hf =>
      have hg0 := hg
      have h0 := h
      have hg' : (_ && good l.toArray zs r F (listed.setIfInBounds i true)) = true := hg
      rw [Bool.and_eq_true] at hg'
      obtain ⟨hg1, hg2⟩ := hg'
      cases ho : l[i]? with
      | none => simp [ho] at hg1
      | some o =>
        have hop : l.toArray[i]? = some o := by simp [ho]
        rw [hop] at hg1
        simp only [Bool.and_eq_true, List.all_eq_true] at hg1
        obtain ⟨hds, hm⟩ := hg1
        have hds' : ∀ f ∈ F, o.dst ≠ some f.slot := fun f hf => by have := hds f hf; simp at this; simpa using this.1
        have hdr := fun f hf => off_spec (hds f hf).2
        have hm' := allMasks_spec F _ hm m
        simp only [Bool.and_eq_true, List.all_eq_true] at hm'
        rw [picks, ho] at h
        obtain ⟨hw, hwp⟩ := h x w' hb hc
        obtain ⟨fuel, rfl⟩ : ∃ k, fuel = k + 1 := ⟨fuel - 1, by simp only [cnt] at hf; omega⟩
        refine all rfl (fun e => by rw [e] at hm'; simp at hm') fun j hj => ?_
        have hj' := hm'.2 j hj
        rw [Bool.or_eq_true] at hj'
        rcases hj' with e | hfl
        · obtain rfl : j = i := by simpa using e
          unfold wpOp
          simp only [hop, hw, if_true]
          refine .inl (Oper.wp_mono (fun a'' w'' hh => ?_) (wp_put hwp))
          obtain ⟨⟨ds, v, rfl⟩, c2, hsz, hbel, hT⟩ := hh
          refine ⟨.inr (.inr c2), ?_⟩
          have k := ih r F _ L (listed.setIfInBounds j true) fuel ((withD (fill F x a) ds).put o.dst v) w'' m x w'' (by simp at hn; omega) hg2 hF hs hi ⟨hI.ne, fun f hff s u e => by rw [fill_D, getD_put _ o.dst v s (hdr f hff s u e), getD_fill x s F _ fun g hg k => absurd k (ne_of (hI.ne g hg f hff) e)]; exact hI.src f hff s u e, fun f hff hmf => ?_, fun f hff hmf => ?_, hI.apart, fun p hp => ?_, fun g hg => Nat.lt_of_lt_of_le (hI.met g hg) hsz⟩ (Below.refl _ _) c2 (by simp only [cnt] at hf; omega) hT
          · rw [fill_D, fill_put x o.dst v F _ hds', fill_idem, ← marks_set] at k
            rw [fill_D, fill_put x o.dst v F _ hds']
            exact k
          · rw [fill_D, getD_put _ o.dst v f.slot (hds' f hff), getD_fill x f.slot F _ fun g hg e => by rw [← e]; obtain rfl := nodup_same hs f hff g hg e; exact hI.old g hg hmf]
            exact hI.old f hff hmf
          · obtain ⟨g, g1, g2, g3, g4, g5⟩ := hI.new f hff hmf
            refine ⟨g, g1, ((hbel.resolve_left fun e => by rw [e] at hff; cases hff) g g3 (lt_of_block g2) g4 g5).trans g2, g3, fun p hp => ?_, g5⟩
            rcases List.mem_cons.1 hp with rfl | hp
            · exact .inl (lt_of_block g2)
            · exact g4 p hp
          · rcases List.mem_cons.1 hp with rfl | hp
            · exact Nat.le_refl _
            · exact Nat.le_trans (hI.past p hp) hsz
        · obtain ⟨f, hff, he⟩ := List.any_eq_true.1 hfl
          rw [Bool.and_eq_true] at he
          obtain rfl : f.idx = j := by simpa using he.1
          have hmf : m f.idx = false := by
            have hd : f.idx ∉ doneOf F m := by simpa using he.2
            rw [mem_done] at hd
            cases hmm : m f.idx with
            | false => rfl
            | true => exact absurd ⟨hmm, f, hff, rfl⟩ hd
          exact float ih hC hA hn hg0 hF hs hi hI hb hc hf h0 f hff hmf
    | (k + 2, i) :: r, hg, h, hn, hf =>
      have hg0 := hg
      have h0 := h
      match F, hg, h, hF, hs, hi, hI, hf, hg0, h0 with
      | [], hg, h, _, _, _, _, _, _, _ => simp [good] at hg
      | f :: F, hg, h, hF, hs, hi, hI, hf, hg0, h0 =>
        have hg' : ((l.toArray[i]?).isSome && allMasks (f :: F) _ && good l.toArray zs r F (listed.setIfInBounds f.idx true)) = true := hg
        rw [Bool.and_eq_true, Bool.and_eq_true] at hg'
        obtain ⟨⟨hio, hm⟩, hg2⟩ := hg'
        have hm' := allMasks_spec (f :: F) _ hm m
        cases hmm : m f.idx with
        | true =>
          obtain ⟨g, g1, g2, g3, g4, g5⟩ := hI.new f (List.mem_cons_self ..) hmm
          have hp : ∀ {o : Oper}, wpSg P l.toArray C Q (picksL l zs) n0 ((k + 2, o) :: picks l r) (f :: F) H L a w → wpSg P l.toArray C Q (picksL l zs) n0 (picks l r) F H (g :: L) (a.put (some f.slot) (sln f.n g)) w' := fun h => h g w' hb hc g2 g3 g4 g5
          have hT : wpSg P l.toArray C Q (picksL l zs) n0 (picks l r) F H (g :: L) (a.put (some f.slot) (sln f.n g)) w' := by
            cases ho : l[i]? with
            | none => simp [ho] at hio
            | some o =>
              rw [picks, ho] at h
              exact hp h
          have hd : doneOf (f :: F) m = f.idx :: doneOf F m := by unfold doneOf; rw [List.filter_cons, if_pos hmm]; rfl
          rw [hd]
          show wpAnyE P .any l.toArray Q C zs fuel (marks (listed.setIfInBounds f.idx true) (doneOf F m)) (fill F x (a.put (some f.slot) (x f.slot))) w'
          rw [g1]
          rw [List.map_cons, List.nodup_cons] at hs
          have hne : ∀ f' ∈ F, f.slot ≠ f'.slot := fun f' h' e => hs.1 (List.mem_map.2 ⟨f', h', e.symm⟩)
          refine ih r F H (g :: L) _ fuel _ w' m x w' (by simp at hn; omega) hg2 (fun f' h' => hF f' (List.mem_cons_of_mem _ h')) hs.2 (fun a ha b hb => hi a (List.mem_cons_of_mem _ ha) b (List.mem_cons_of_mem _ hb)) ⟨fun a ha b hb => hI.ne a (List.mem_cons_of_mem _ ha) b (List.mem_cons_of_mem _ hb), fun f' h' s u e => by rw [getD_put a _ _ s (fun k => ne_of (hI.ne f (List.mem_cons_self ..) f' (List.mem_cons_of_mem _ h')) e (Option.some.inj k))]; exact hI.src f' (List.mem_cons_of_mem _ h') s u e, fun f' h' hmf => ?_, fun f' h' hmf => ?_, fun f' h' f'' h'' => hI.apart f' (List.mem_cons_of_mem _ h') f'' (List.mem_cons_of_mem _ h''), hI.past, fun b hb => ?_⟩ (Below.refl _ _) hc ?_ hT
          · rw [getD_put a _ _ f'.slot (fun e => hne f' h' (Option.some.inj e))]
            exact hI.old f' (List.mem_cons_of_mem _ h') hmf
          · obtain ⟨b, b1, b2, b3, b4, b5⟩ := hI.new f' (List.mem_cons_of_mem _ h') hmf
            refine ⟨b, b1, b2, b3, b4, fun hl => ?_⟩
            rcases List.mem_cons.1 hl with e | hl
            · exact hI.apart f' (List.mem_cons_of_mem _ h') f (List.mem_cons_self ..) (fun e => hne f' h' e.symm) hmf hmm b g b1 g1 e
            · exact b5 hl
          · rcases List.mem_cons.1 hb with rfl | hb
            · exact lt_of_block g2
            · exact hI.met b hb
          · simp only [cnt, left, hmm] at hf
            simpa using hf
        | false =>
          have hd : (doneOf (f :: F) m).contains f.idx = false := by
            have : f.idx ∉ doneOf (f :: F) m := fun h => by rw [mem_done, hmm] at h; simp at h
            simpa using this
          rw [hd, Bool.false_or] at hm'
          simp only [Bool.and_eq_true, List.all_eq_true] at hm'
          have lf := left_on (f :: F) m f (List.mem_cons_self ..) hmm
          obtain ⟨fuel, rfl⟩ : ∃ k, fuel = k + 1 := ⟨fuel - 1, by omega⟩
          refine all rfl (fun e => by rw [e] at hm'; simp at hm') fun j hj => ?_
          obtain ⟨f', hff, he⟩ := List.any_eq_true.1 (hm'.2 j hj)
          rw [Bool.and_eq_true] at he
          obtain rfl : f'.idx = j := by simpa using he.1
          have hmf : m f'.idx = false := by
            have hd : f'.idx ∉ doneOf (f :: F) m := by simpa using he.2
            rw [mem_done] at hd
            cases hmm : m f'.idx with
            | false => rfl
            | true => exact absurd ⟨hmm, f', hff, rfl⟩ hd
          exact float ih hC hA hn hg0 hF hs hi hI hb hc hf h0 f' hff hmf
theorem fill_self (a : Act) : ∀ F : List Fl, fill F (fun s => a.tmps.getD s undef) a = a
  | [] => rfl
  | f :: r => by
    have e : a.put (some f.slot) (a.tmps.getD f.slot undef) = a := by
      simp only [Act.put]
      have : a.tmps.setIfInBounds f.slot (a.tmps.getD f.slot undef) = a.tmps := by
        refine Array.ext_getElem? fun k => ?_
        rw [Array.getElem?_setIfInBounds]
        by_cases hk : f.slot = k
        · subst hk
          by_cases hl : f.slot < a.tmps.size
          · simp [hl]
          · simp [hl]
        · simp [hk]
      rw [this]
    show fill r (fun s => a.tmps.getD s undef) (a.put (some f.slot) (a.tmps.getD f.slot undef)) = a
    rw [e]
    exact fill_self a r
theorem left_all : ∀ F : List Fl, left F (fun _ => false) = F.length
  | [] => rfl
  | f :: r => by show left r _ + 1 = r.length + 1; rw [left_all r]

/-- The first phase: the light operations. -/
def goodL (ops : Array Oper) (zs : List Nat) : List Nat → Array Bool → Bool
  | [], _ => true
  | i :: r, L => (match ops[i]? with
    | some o => light o.op && Region.free .any ops L i && (Region.ready .any ops L).contains i && okB ops zs i L
    | none => false) && goodL ops zs r (L.setIfInBounds i true)
def wpL (P : Program) (ops : Array Oper) (C : World → Prop) (K : Act → Prop) : List Oper → Act → Prop
  | [], a => K a
  | o :: r, a => wpQuiet P ops C (fun a' => wpL P ops C K r a') [o] a
theorem lights {P : Program} {l : List Oper} {C : World → Prop} {Q : Exit → Act → World → Prop} {w : World} {K : Act → Prop} {zs : List Nat} {fuel : Nat} (hs : Region.noSelect l.toArray = true) (hQ : ∀ c d v a w, Q (.panic c) (Act.put a d v) w → Q (.panic c) a w) (hC : C w) :
    ∀ (sc : List Nat) (listed : Array Bool) (a : Act), goodL l.toArray zs sc listed = true → (∀ a', K a' → wpAnyE P .any l.toArray Q C zs fuel (marks listed sc) a' w) → wpL P l.toArray C K (picksL l sc) a → wpAnyE P .any l.toArray Q C zs (fuel + sc.length) listed a w
  | [], listed, a, _, hk, h => hk a h
  | i :: r, listed, a, hg, hk, h => by
    unfold goodL at hg
    rw [Bool.and_eq_true] at hg
    obtain ⟨hg1, hg2⟩ := hg
    have hll : l.toArray[i]? = l[i]? := by rw [List.getElem?_toArray]
    cases ho : l[i]? with
    | none => rw [hll, ho] at hg1; cases hg1
    | some o =>
      rw [hll, ho] at hg1
      have hop := hll.trans ho
      have hp : picksL l (i :: r) = o :: picksL l r := by rw [picksL, ho]
      rw [hp] at h
      simp only [Bool.and_eq_true] at hg1
      obtain ⟨⟨⟨hl, hf⟩, hr⟩, hbk⟩ := hg1
      unfold wpL at h
      show wpAnyE P .any l.toArray Q C zs ((fuel + r.length) + 1) listed a w
      by_cases hw : Region.wanted o (yielded l.toArray a.tmps) = true
      · unfold wpQuiet at h
        rw [if_pos hw] at h
        obtain ⟨v, hv, hn⟩ := h
        refine take (v := v) hbk hop hs hf hr (fun c a w => hQ c _ _ a w) (.inl ⟨hw, fun w' hw' => ?_⟩) hC (lights hs hQ hC r _ _ hg2 hk hn)
        have q := hv w' hw'
        unfold Oper.quietAt at q
        cases e : (execOp a.eval o).run P w' with
        | halt x w1 => rw [e] at q; cases q
        | ok n w1 =>
          obtain ⟨u, rfl⟩ := light_value hl e
          rw [e] at q
          obtain ⟨e1, e2⟩ := q
          rw [e1, e2]
      · unfold wpQuiet at h
        rw [if_neg hw] at h
        exact take (v := undef) hbk hop hs hf hr (fun c a w => hQ c _ _ a w) (.inr ⟨by simpa using hw, rfl⟩) hC (lights hs hQ hC r _ _ hg2 hk h)

def goodU (ops : Array Oper) (zs : List Nat) : List Nat → Array Bool → Bool
  | [], _ => true
  | i :: r, L => (match ops[i]? with
    | some o => light o.op && Region.free .any ops L i && (Region.ready .any ops L).contains i && !zs.contains i
    | none => false) && goodU ops zs r (L.setIfInBounds i true)
theorem lightsU {P : Program} {l : List Oper} {C : World → Prop} {Q : Exit → Act → World → Prop} {w : World} {K : Act → Prop} {zs : List Nat} {fuel : Nat} (hs : Region.noSelect l.toArray = true) (hQ : ∀ c d v a w, Q (.panic c) (Act.put a d v) w → Q (.panic c) a w) (hC : C w) :
    ∀ (sc : List Nat) (listed : Array Bool) (a : Act), goodU l.toArray zs sc listed = true → (∀ a', K a' → wpAnyE P .any l.toArray Q C zs fuel (marks listed sc) a' w) → wpL P l.toArray (fun w' => ∃ p : In (fun _ => True), w' = p.world) K (picksL l sc) a → wpAnyE P .any l.toArray Q C zs (fuel + sc.length) listed a w
  | [], listed, a, _, hk, h => hk a h
  | i :: r, listed, a, hg, hk, h => by
    unfold goodU at hg
    rw [Bool.and_eq_true] at hg
    obtain ⟨hg1, hg2⟩ := hg
    have hll : l.toArray[i]? = l[i]? := by rw [List.getElem?_toArray]
    cases ho : l[i]? with
    | none => rw [hll, ho] at hg1; cases hg1
    | some o =>
      rw [hll, ho] at hg1
      have hop := hll.trans ho
      have hp : picksL l (i :: r) = o :: picksL l r := by rw [picksL, ho]
      rw [hp] at h
      simp only [Bool.and_eq_true] at hg1
      obtain ⟨⟨⟨hl, hf⟩, hr⟩, hbk⟩ := hg1
      have hbk : zs.contains i = false := by simpa using hbk
      unfold wpL at h
      show wpAnyE P .any l.toArray Q C zs ((fuel + r.length) + 1) listed a w
      by_cases hw : Region.wanted o (yielded l.toArray a.tmps) = true
      · unfold wpQuiet at h
        rw [if_pos hw] at h
        obtain ⟨v, hv, hn⟩ := h
        refine takeU (v := v) hbk hop hs hf hr (fun c a w => hQ c _ _ a w) (.inl ⟨hw, fun w' _ => ?_⟩) hC (lightsU hs hQ hC r _ _ hg2 hk hn)
        have q := hv w' ⟨⟨w', trivial⟩, rfl⟩
        unfold Oper.quietAt at q
        cases e : (execOp a.eval o).run P w' with
        | halt x w1 => rw [e] at q; cases q
        | ok n w1 =>
          obtain ⟨u, rfl⟩ := light_value hl e
          rw [e] at q
          obtain ⟨e1, e2⟩ := q
          rw [e1, e2]
      · unfold wpQuiet at h
        rw [if_neg hw] at h
        exact takeU (v := undef) hbk hop hs hf hr (fun c a w => hQ c _ _ a w) (.inr ⟨by simpa using hw, rfl⟩) hC (lightsU hs hQ hC r _ _ hg2 hk h)

/-- us: light operations that read no memory, first; ls: those that read; vs: those that read no memory and wait for these (a last operation may come before them). -/
theorem startV {id : Nat} {l : List Oper} {Q : Exit → Act → World → Prop} {a : Act} {w : World} (C : World → Prop) (us ls vs : List Nat) (sc : List (Nat × Nat)) (zs : List Nat) (F : List Fl) (hm : P.follows .mixedOrders = true) (hs : Region.noSelect l.toArray = true) (hgu : goodU l.toArray zs us (Array.replicate l.toArray.size false) = true)
    (hgl : goodL l.toArray zs ls (marks (Array.replicate l.toArray.size false) us) = true) (hgv : goodU l.toArray zs vs (marks (marks (Array.replicate l.toArray.size false) us) ls) = true) (hg : good l.toArray zs sc F (marks (marks (marks (Array.replicate l.toArray.size false) us) ls) vs) = true) (hc : cnt zs.length sc + F.length + vs.length + ls.length + us.length = l.toArray.size) (hn : (F.map (·.slot)).Nodup) (hi : ∀ f ∈ F, ∀ f' ∈ F, f.idx = f'.idx → f.slot = f'.slot) (hx : ∀ f ∈ F, ∀ g ∈ F, some f.slot ≠ g.sv.map (·.1)) (hF : ∀ f ∈ F, FlOk P l f)
    (h0 : C w.drew) (hn0 : ∀ w', C w' → w.heap.size ≤ w'.heap.size) (hA : ∀ w' o, C w' → C (w'.alloc o))
    (h : wpL P l.toArray (fun w' => ∃ p : In (fun _ => True), w' = p.world) (fun a0 => wpL P l.toArray (fun w' => ∃ p : In C, w' = p.world) (fun a1 => wpL P l.toArray (fun w' => ∃ p : In (fun _ => True), w' = p.world) (fun a' => (∀ f ∈ F, f.at a') ∧ wpSg P l.toArray (fun w' => ∃ p : In C, w' = p.world) (NoPanic Q) (picksL l zs) w.heap.size (picks l sc) F [] [] a' w.drew) (picksL l vs) a1) (picksL l ls) a0) (picksL l us) a) : (Code.region id l.toArray true).wp P Q a w :=
  wp_region_noPanic (wp_region_any hm (any_of (S := fun w' => ∃ p : In C, w' = p.world) (zs := zs) _ _ _ _ (by
    have hll := lightsU (fuel := cnt zs.length sc + F.length + vs.length + ls.length) (zs := zs) (C := fun w' => ∃ p : In C, w' = p.world) (Q := NoPanic Q) hs (fun _ _ _ _ _ h => h) (Cl.of h0) us _ a hgu (fun a0 ha0 => ?_) h
    · rw [hc] at hll
      exact hll
    refine lights (fuel := cnt zs.length sc + F.length + vs.length) (zs := zs) (C := fun w' => ∃ p : In C, w' = p.world) (Q := NoPanic Q) hs (fun _ _ _ _ _ h => h) (Cl.of h0) ls _ a0 hgl (fun a1 ha1 => ?_) ha0
    refine lightsU (fuel := cnt zs.length sc + F.length) (zs := zs) (C := fun w' => ∃ p : In C, w' = p.world) (Q := NoPanic Q) hs (fun _ _ _ _ _ h => h) (Cl.of h0) vs _ a1 hgv (fun a' ha => ?_) ha1
    obtain ⟨hsrc, ha⟩ := ha
    have hd : doneOf F (fun _ => false) = [] := by unfold doneOf; simp
    have k := holds (P := P) (l := l) (C := fun w' => ∃ p : In C, w' = p.world) (Q := NoPanic Q) (zs := zs) (n0 := w.heap.size) hs (fun _ _ _ _ _ h => h) (fun w' h => by obtain ⟨p, rfl⟩ := h; exact hn0 _ p.ok) (fun w' o h => by obtain ⟨p, rfl⟩ := h; exact Cl.of (hA _ _ p.ok)) (2 * (cnt zs.length sc + F.length) + sc.length) sc F [] [] (marks (marks (marks (Array.replicate l.toArray.size false) us) ls) vs) (cnt zs.length sc + F.length) a' w.drew (fun _ => false) (fun s => a'.tmps.getD s undef) w.drew
      (Nat.le_refl _) hg hF hn hi ⟨hx, hsrc, fun _ _ _ => rfl, fun _ _ h => (by cases h), fun _ _ _ _ _ h => (by cases h), fun _ hp => (by cases hp), fun _ hg => (by cases hg)⟩ (Below.refl _ _) (Cl.of h0) (by rw [left_all]; exact Nat.le_refl _) ha
    rw [hd, fill_self] at k
    exact k)))
theorem startU {id : Nat} {l : List Oper} {Q : Exit → Act → World → Prop} {a : Act} {w : World} (C : World → Prop) (us ls : List Nat) (sc : List (Nat × Nat)) (zs : List Nat) (F : List Fl) (hm : P.follows .mixedOrders = true) (hs : Region.noSelect l.toArray = true) (hgu : goodU l.toArray zs us (Array.replicate l.toArray.size false) = true)
    (hgl : goodL l.toArray zs ls (marks (Array.replicate l.toArray.size false) us) = true) (hg : good l.toArray zs sc F (marks (marks (Array.replicate l.toArray.size false) us) ls) = true) (hc : cnt zs.length sc + F.length + ls.length + us.length = l.toArray.size) (hn : (F.map (·.slot)).Nodup) (hi : ∀ f ∈ F, ∀ f' ∈ F, f.idx = f'.idx → f.slot = f'.slot) (hx : ∀ f ∈ F, ∀ g ∈ F, some f.slot ≠ g.sv.map (·.1)) (hF : ∀ f ∈ F, FlOk P l f)
    (h0 : C w.drew) (hn0 : ∀ w', C w' → w.heap.size ≤ w'.heap.size) (hA : ∀ w' o, C w' → C (w'.alloc o))
    (h : wpL P l.toArray (fun w' => ∃ p : In (fun _ => True), w' = p.world) (fun a0 => wpL P l.toArray (fun w' => ∃ p : In C, w' = p.world) (fun a' => (∀ f ∈ F, f.at a') ∧ wpSg P l.toArray (fun w' => ∃ p : In C, w' = p.world) (NoPanic Q) (picksL l zs) w.heap.size (picks l sc) F [] [] a' w.drew) (picksL l ls) a0) (picksL l us) a) : (Code.region id l.toArray true).wp P Q a w :=
  startV C us ls [] sc zs F hm hs hgu hgl rfl hg hc hn hi hx hF h0 hn0 hA h
theorem startT {id : Nat} {l : List Oper} {Q : Exit → Act → World → Prop} {a : Act} {w : World} (C : World → Prop) (ls : List Nat) (sc : List (Nat × Nat)) (zs : List Nat) (F : List Fl) (hm : P.follows .mixedOrders = true) (hs : Region.noSelect l.toArray = true)
    (hgl : goodL l.toArray zs ls (Array.replicate l.toArray.size false) = true) (hg : good l.toArray zs sc F (marks (Array.replicate l.toArray.size false) ls) = true) (hc : cnt zs.length sc + F.length + ls.length = l.toArray.size) (hn : (F.map (·.slot)).Nodup) (hi : ∀ f ∈ F, ∀ f' ∈ F, f.idx = f'.idx → f.slot = f'.slot) (hx : ∀ f ∈ F, ∀ g ∈ F, some f.slot ≠ g.sv.map (·.1)) (hF : ∀ f ∈ F, FlOk P l f)
    (h0 : C w.drew) (hn0 : ∀ w', C w' → w.heap.size ≤ w'.heap.size) (hA : ∀ w' o, C w' → C (w'.alloc o))
    (h : wpL P l.toArray (fun w' => ∃ p : In C, w' = p.world) (fun a' => (∀ f ∈ F, f.at a') ∧ wpSg P l.toArray (fun w' => ∃ p : In C, w' = p.world) (NoPanic Q) (picksL l zs) w.heap.size (picks l sc) F [] [] a' w.drew) (picksL l ls) a) : (Code.region id l.toArray true).wp P Q a w :=
  startU C [] ls sc zs F hm hs rfl hgl hg hc hn hi hx hF h0 hn0 hA h
theorem start {id : Nat} {l : List Oper} {Q : Exit → Act → World → Prop} {a : Act} {w : World} (C : World → Prop) (ls : List Nat) (sc : List (Nat × Nat)) (F : List Fl) (hm : P.follows .mixedOrders = true) (hs : Region.noSelect l.toArray = true)
    (hgl : goodL l.toArray [] ls (Array.replicate l.toArray.size false) = true) (hg : good l.toArray [] sc F (marks (Array.replicate l.toArray.size false) ls) = true) (hc : cnt 0 sc + F.length + ls.length = l.toArray.size) (hn : (F.map (·.slot)).Nodup) (hi : ∀ f ∈ F, ∀ f' ∈ F, f.idx = f'.idx → f.slot = f'.slot) (hx : ∀ f ∈ F, ∀ g ∈ F, some f.slot ≠ g.sv.map (·.1)) (hF : ∀ f ∈ F, FlOk P l f)
    (h0 : C w.drew) (hn0 : ∀ w', C w' → w.heap.size ≤ w'.heap.size) (hA : ∀ w' o, C w' → C (w'.alloc o))
    (h : wpL P l.toArray (fun w' => ∃ p : In C, w' = p.world) (fun a' => (∀ f ∈ F, f.at a') ∧ wpSg P l.toArray (fun w' => ∃ p : In C, w' = p.world) (NoPanic Q) [] w.heap.size (picks l sc) F [] [] a' w.drew) (picksL l ls) a) : (Code.region id l.toArray true).wp P Q a w :=
  startT C ls sc [] F hm hs hgl hg hc hn hi hx hF h0 hn0 hA h

theorem startP {id : Nat} {l : List Oper} {Q : Exit → Act → World → Prop} {a : Act} {w : World} (sc : List (Nat × Nat)) (F : List Fl) (hm : P.follows .mixedOrders = true) (hs : Region.noSelect l.toArray = true)
    (hg : (good l.toArray [] sc F (Array.replicate l.toArray.size false) && F.all fun f => f.sv.isNone) = true) (hc : cnt 0 sc + F.length ≤ l.toArray.size) (hn : (F.map (·.slot)).Nodup) (hi : ∀ f ∈ F, ∀ f' ∈ F, f.idx = f'.idx → f.slot = f'.slot) (hF : ∀ f ∈ F, FlOk P l f)
    (h : wpSg P l.toArray (fun w' => ∃ p : Sd.By w, w' = p.world) (NoPanic Q) [] w.heap.size (picks l sc) F [] [] a w.drew) : (Code.region id l.toArray true).wp P Q a w :=
  wp_region_noPanic (wp_region_any hm (any_of (S := Sd.Cl w) (zs := []) _ _ _ _ (by
    have hd : doneOf F (fun _ => false) = [] := by unfold doneOf; simp
    rw [Bool.and_eq_true, List.all_eq_true] at hg
    have hv : ∀ f ∈ F, f.sv = none := fun f hf => by simpa using hg.2 f hf
    have k := holds (P := P) (l := l) (C := Sd.Cl w) (Q := NoPanic Q) (zs := []) (n0 := w.heap.size) hs (fun _ _ _ _ _ h => h) (fun w' h => h.bel.size) (fun w' o h => Sd.Cl.of (h.bel.alloc h.bel.size o)) (2 * l.toArray.size + sc.length) sc F [] [] (Array.replicate l.toArray.size false) l.toArray.size a w.drew (fun _ => false) (fun s => a.tmps.getD s undef) w.drew
      (Nat.le_refl _) hg.1 hF hn hi ⟨fun f _ g hg => by rw [hv g hg]; exact fun e => (by cases e), fun f hf s u e => (by rw [hv f hf] at e; cases e), fun _ _ _ => rfl, fun _ _ h => (by cases h), fun _ _ _ _ _ h => (by cases h), fun _ hp => (by cases hp), fun _ hg => (by cases hg)⟩ (Below.refl _ _) (Sd.Cl.of (Below.refl _ _).drew) (by rw [left_all]; exact hc) h
    rw [hd, fill_self] at k
    exact k)))
theorem okP {l : List Oper} {o : Oper} {i s : Nat} {cs : Array Value} {ty : TypeId} (h1 : l.toArray[i]? = some o) (h2 : o.dst = some s) (h3 : o.guard = none) (h : ∀ ρ w, (execOp ρ o).run P w = .ok (.value (.pointer (some ⟨w.heap.size, 0, none⟩))) (w.alloc (.cells cs ty))) : FlOk P l ⟨i, s, cs, ty, none, none⟩ := ⟨o, h1, h2, h3, fun a w _ => h a.eval w⟩

section
variable {ops : Array Oper} {a : Act} {w : World} {o : Oper} {r : List (Nat × Oper)} {F : List Fl} {H : List (Nat × Nat)} {L : List Nat}
theorem lit (h : ∀ x, wpQuiet P ops C (fun a' => wpSg P ops C Q tl n0 r F H L a' w) [o] (fill F x a)) : wpSg P ops C Q tl n0 ((0, o) :: r) F H L a w := h
/-- A call, or another operation that writes. -/
theorem call (h : ∀ x w', Below w.heap.size w w' → C w' → Region.wanted o (yielded ops (fill F x a).tmps) = true ∧
      ∀ K : Act → World → Prop, (∀ a'' w'', C w'' → w'.heap.size ≤ w''.heap.size → (∀ g, n0 ≤ g → g < w'.heap.size → w''.heap[g]? = w'.heap[g]?) → wpSg P ops C Q tl n0 r F ((w'.heap.size, w''.heap.size) :: H) L a'' w'' → K a'' w'') → o.wp P (fill F x a) w' K Q) :
    wpSg P ops C Q tl n0 ((1, o) :: r) F H L a w := fun x w' hb hc => ⟨(h x w' hb hc).1, (h x w' hb hc).2 _ fun _ _ c s b k => ⟨c, s, .inr fun g h1 h2 _ _ => b g h1 h2, k⟩⟩
/-- As call; it may turn what was met, and what an earlier call has made. -/
theorem callH (h : ∀ x w', Below w.heap.size w w' → C w' → Region.wanted o (yielded ops (fill F x a).tmps) = true ∧
      ∀ K : Act → World → Prop, (∀ a'' w'', C w'' → w'.heap.size ≤ w''.heap.size → (∀ g, n0 ≤ g → g < w'.heap.size → (∀ p ∈ H, g < p.1 ∨ p.2 ≤ g) → g ∉ L → w''.heap[g]? = w'.heap[g]?) → wpSg P ops C Q tl n0 r F ((w'.heap.size, w''.heap.size) :: H) L a'' w'' → K a'' w'') → o.wp P (fill F x a) w' K Q) :
    wpSg P ops C Q tl n0 ((1, o) :: r) F H L a w := fun x w' hb hc => ⟨(h x w' hb hc).1, (h x w' hb hc).2 _ fun _ _ c s b k => ⟨c, s, .inr b, k⟩⟩
/-- As call, where no block is still to be met. -/
theorem call0 (h : ∀ x w', Below w.heap.size w w' → C w' → Region.wanted o (yielded ops (fill [] x a).tmps) = true ∧
      ∀ K : Act → World → Prop, (∀ a'' w'', C w'' → w'.heap.size ≤ w''.heap.size → wpSg P ops C Q tl n0 r [] ((w'.heap.size, w''.heap.size) :: H) L a'' w'' → K a'' w'') → o.wp P (fill [] x a) w' K Q) :
    wpSg P ops C Q tl n0 ((1, o) :: r) [] H L a w := fun x w' hb hc => ⟨(h x w' hb hc).1, (h x w' hb hc).2 _ fun _ _ c s k => ⟨c, s, .inl rfl, k⟩⟩
theorem callB (h : ∀ x w', Below w.heap.size w w' → C w' → Region.wanted o (yielded ops (fill F x a).tmps) = true ∧
      ∀ K : Act → World → Prop, (∀ a'' w'', C w'' → w'.heap.size ≤ w''.heap.size → (F ≠ [] → Below w'.heap.size w' w'') → wpSg P ops C Q tl n0 r F ((w'.heap.size, w''.heap.size) :: H) L a'' w'' → K a'' w'') → o.wp P (fill F x a) w' K Q) :
    wpSg P ops C Q tl n0 ((1, o) :: r) F H L a w := fun x w' hb hc => ⟨(h x w' hb hc).1, (h x w' hb hc).2 _ fun _ _ c s b k => ⟨c, s, match F, b with
      | [], _ => .inl rfl
      | _ :: _, b => .inr fun g _ hg _ _ => (b (by simp)).block g hg, k⟩⟩
theorem meetP {i s : Nat} {cs : Array Value} {ty : TypeId} (h : ∀ g w', Below w.heap.size w w' → C w' → w'.heap[g]? = some (.cells cs ty (0, 0)) → n0 ≤ g → (∀ p ∈ H, g < p.1 ∨ p.2 ≤ g) → g ∉ L → wpSg P ops C Q tl n0 r F H (g :: L) (a.put (some s) (.pointer (some ⟨g, 0, none⟩))) w') :
    wpSg P ops C Q tl n0 ((2, o) :: r) (⟨i, s, cs, ty, none, none⟩ :: F) H L a w := h
/-- The next block is met. -/
theorem meet {f : Fl} (h : ∀ g w', Below w.heap.size w w' → C w' → w'.heap[g]? = some (.cells f.cs f.ty (0, 0)) → n0 ≤ g → (∀ p ∈ H, g < p.1 ∨ p.2 ≤ g) → g ∉ L → wpSg P ops C Q tl n0 r F H (g :: L) (a.put (some f.slot) (sln f.n g)) w') :
    wpSg P ops C Q tl n0 ((2, o) :: r) (f :: F) H L a w := h
theorem done {Q : Exit → Act → World → Prop} (h : ∀ w', Below w.heap.size w w' → C w' → Q .normal a w') : wpSg P ops C (NoPanic Q) [] n0 [] F H L a w := h
theorem doneT (h : ∀ w', Below w.heap.size w w' → C w' → wpT P Q tl a w') : wpSg P ops C Q tl n0 [] F H L a w := h
/-- One of the last operations. -/
theorem lastT {P : Program} {Q : Exit → Act → World → Prop} {o : Oper} {r : List Oper} {a : Act} {w : World} (h : ∀ K : Act → World → Prop, (∀ a' w', wpT P Q r a' w' → K a' w') → o.wp P a w K Q) : wpT P Q (o :: r) a w := h _ fun _ _ k => k
theorem endT {P : Program} {Q : Exit → Act → World → Prop} {a : Act} {w : World} (h : Q .normal a w) : wpT P (NoPanic Q) [] a w := h
end
end

end Go.Proofs.Ytfbhmhgmebaoaaa.Sg
