/- ifs: a store of which one file is put in, or one record is written. -/
import Derived.Test.YtoeemngekioldaaDoorFsGet
namespace Go.Proofs.YtoeemngekioldaaDoor.Fs
open Go.RowKit Go.Maps
open Go.Proofs.YtoeemngekioldaaDoor.Fl (R4 z4 K4 rec4 rat goodF goodFB okR okL doE newR file arr4 sto4 sto4_own sto4_other sto4_size sto4_below own4 row_cell)
open Go.Proofs.YtoeemngekioldaaDoor.Rw (Rd Ow At)
set_option maxRecDepth 100000

theorem apart_symm {c e : Ent} (h : apart c e) : apart e c := fun k hk hc => h k hc hk
theorem pw_mem {α : Type} {R : α → α → Prop} (sy : ∀ {x y}, R x y → R y x) : ∀ {l : List α}, l.Pairwise R → ∀ {x y}, x ∈ l → y ∈ l → x ≠ y → R x y
  | [], _, _, _, hx, _, _ => by cases hx
  | a :: r, h, x, y, hx, hy, hne => by
    obtain ⟨h1, h2⟩ := List.pairwise_cons.1 h
    rcases List.mem_cons.1 hx with ex | hx <;> rcases List.mem_cons.1 hy with ey | hy
    · exact (hne (ex.trans ey.symm)).elim
    · rw [ex]; exact h1 _ hy
    · rw [ey]; exact sy (h1 _ hx)
    · exact pw_mem sy h2 hx hy hne
theorem pw_ins {α : Type} {κ : α → Int} {R : α → α → Prop} (sy : ∀ {x y}, R x y → R y x) {c : α} : ∀ {l : List α}, l.Pairwise R → (∀ x ∈ l, R c x) → (ins κ c l).Pairwise R
  | [], _, _ => by simp [ins]
  | y :: r, h, hc => by
    obtain ⟨h1, h2⟩ := List.pairwise_cons.1 h
    unfold ins
    split
    · exact List.pairwise_cons.2 ⟨hc, h⟩
    · refine List.pairwise_cons.2 ⟨fun z hz => ?_, pw_ins sy h2 fun x hx => hc x (List.mem_cons_of_mem _ hx)⟩
      rcases mem_ins.1 hz with rfl | hz
      · exact sy (hc y List.mem_cons_self)
      · exact h1 z hz
theorem pw_put {c : Ent} {C : List Ent} (h : C.Pairwise apart) (hc : ∀ e ∈ C, e.n ≠ c.n → apart c e) : (put Ent.n c C).Pairwise apart := by
  unfold put
  refine pw_ins apart_symm (h.filter _) fun e he => ?_
  obtain ⟨h1, h2⟩ := List.mem_filter.1 he
  exact hc e h1 (by simpa using h2)

section
variable {w w' : World} {s : Nat} {F F' : Nat → Prop} {m m' : Value} {C : List Ent} {d d' : Int} {c : Ent}
/-- A file is put in. -/
theorem Sto.put (h : Sto w s F m C d) (row : w'.heap[s]? = some (.cells #[m', .int .i64 d'] 61 (0, 0))) (hF : ∀ k, F k → F' k) (mp : Mp w' F' m' (put Ent.n c C)) (old : ∀ e ∈ C, e.n ≠ c.n → Ow K4 w' 0 32 e.sl e.l)
    (new : Ow K4 w' 0 32 c.sl c.l) (mine : ∀ k, c.sl.ownBlock = some k → F' k) (far : ∀ e ∈ C, e.n ≠ c.n → Fs.apart c e) (hn : 0 ≤ c.n ∧ c.n ≤ 63) (hg : goodF c.p c.l) (hl : okL c.l) (low : ∀ k, F' k → k < w'.heap.size) : Sto w' s F' m' (Fs.put Ent.n c C) d' := by
  refine ⟨row, hF s h.foot, mp, fun e he => ?_, fun e he k hk => ?_, pw_put h.apart far, ?_, low⟩
  · rcases mem_put.1 he with rfl | ⟨he, hne⟩
    · exact new
    · exact old e he hne
  · rcases mem_put.1 he with rfl | ⟨he, hne⟩
    · exact mine k hk
    · exact hF k (h.mine e he k hk)
  · rw [abs_put]
    exact h.ok.put hn hg hl
/-- The same file with other records, where they lie. -/
def Ent.recs (c : Ent) (l : List R4) : Ent := ⟨c.n, c.p, c.a, c.cap, l⟩
theorem recs_sl (c : Ent) {l : List R4} (h : l.length = c.l.length) : (c.recs l).sl = c.sl := by unfold Ent.recs Ent.sl; rw [h]
theorem dat_recs {i : Nat} (hi : C[i]? = some c) {l : List R4} (h : l.length = c.l.length) : dat (C.set i (c.recs l)) = dat C := by
  unfold dat
  rw [List.map_set]
  have : ent (c.recs l) = ent c := by unfold ent Ent.file; rw [recs_sl c h]; rfl
  rw [this]
  congr 1
  refine List.ext_getElem? fun j => ?_
  rw [List.getElem?_set]
  split
  · rename_i hij
    subst hij
    rw [List.getElem?_map, hi]
    have := (List.getElem?_eq_some_iff.1 hi).1
    simp [this]
  · rfl
/-- A record of a file is written. -/
theorem Sto.write {g n cap : Nat} {k : Nat} {x : R4} (h : Sto w s F m C d) (hc : c ∈ C) (hs : c.sl = .slice (some ⟨g, 0, none⟩) n cap) (hk : k < c.l.length) (h0 : k ≠ 0) (hx : okR x) :
    Sto (sto4 w g (k * 4) x) s F m (Fs.put Ent.n (c.recs (c.l.set k x)) C) d ∧ Only F w (sto4 w g (k * 4) x) := by
  have hg : F g := h.mine c hc g (by rw [hs]; rfl)
  obtain ⟨n1, n2⟩ := h.off hc
  rw [hs] at n1 n2
  have ng : s ≠ g := fun e => n1 (by rw [e]; rfl)
  have hsl : (c.recs (c.l.set k x)).sl = c.sl := recs_sl c (by rw [List.length_set])
  have own := h.own c hc
  rw [hs] at own
  have hn : n = c.l.length := by unfold Ent.sl at hs; injection hs with _ hs _; exact hs.symm
  have hcm : c.abs ∈ C.map Ent.abs := List.mem_map_of_mem hc
  obtain ⟨i, hi⟩ := List.getElem?_of_mem hc
  have srt : Srt Ent.n C := (map_srt (κ := Ent.n) (κ' := key) abs_key).1 h.ok.srt
  have hput : Fs.put Ent.n (c.recs (c.l.set k x)) C = C.set i (c.recs (c.l.set k x)) := put_set srt hi rfl
  have hdat : dat (Fs.put Ent.n (c.recs (c.l.set k x)) C) = dat C := by rw [hput]; exact dat_recs hi (by rw [List.length_set])
  have off : ∀ e ∈ C, e.n ≠ c.n → Fs.apart c e := fun e he hne => pw_mem apart_symm h.apart hc he fun e' => hne (by rw [e'])
  have hGood : goodF c.p (c.l.set k x) := good_set (h.ok.good _ hcm) h0
  have hOk : okL (c.l.set k x) := okL_set (h.ok.ok _ hcm) hx
  have hMp : Mp (sto4 w g (k * 4) x) F m (Fs.put Ent.n (c.recs (c.l.set k x)) C) := by
    have M : Mp (sto4 w g (k * 4) x) F m C := h.mp.kept fun b hb => sto4_other rfl fun e => n2 b hb (by rw [e]; rfl)
    rcases M with ⟨rfl, rfl⟩ | ⟨b, rfl, hF, hm⟩
    · cases hc
    · refine .inr ⟨b, rfl, hF, ?_⟩
      rw [hdat, hput, List.length_set]
      exact hm
  have hRow := sto4_other (g := g) (o := k * 4) (r := x) h.row ng
  have hOld : ∀ e ∈ C, e.n ≠ (c.recs (c.l.set k x)).n → Ow K4 (sto4 w g (k * 4) x) 0 32 e.sl e.l := fun e he hne => by
    have o := h.own e he
    have a := off e he hne g (by rw [hs]; rfl)
    exact Fl.sto4_off o a x
  have hNew : Ow K4 (sto4 w g (k * 4) x) 0 32 (c.recs (c.l.set k x)).sl (c.l.set k x) := by
    rw [hsl, hs]
    exact sto4_own own hn k hk x
  refine ⟨h.put hRow (fun k hk => hk) hMp hOld hNew (fun j hj => h.mine c hc j (by rw [← hsl]; exact hj)) (fun e he hne j hj => off e he hne j (by rw [← hsl]; exact hj)) (h.ok.nm _ hcm) hGood hOk (by rw [sto4_size]; exact h.low), ?_⟩
  have O1 : ∀ W : World, ∀ o v, Only F W (W.setCell ⟨g, o, none⟩ v) := fun W o v => Only.set F W hg v
  unfold sto4
  exact (((O1 _ _ _).trans (O1 _ _ _) fun _ _ g => g).trans (O1 _ _ _) fun _ _ g => g).trans (O1 _ _ _) fun _ _ g => g
end

end Go.Proofs.YtoeemngekioldaaDoor.Fs
