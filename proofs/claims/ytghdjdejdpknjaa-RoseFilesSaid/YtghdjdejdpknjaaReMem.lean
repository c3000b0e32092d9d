/- Sequences of rounds: as numbers in memory, as files' records; which may be; what a file's sequence is; what is next. -/
import Derived.Test.YtghdjdejdpknjaaFlSmall
namespace Go.Proofs.Ytghdjdejdpknjaa.Re
open Go.RowKit
open Go.Proofs.Ytghdjdejdpknjaa.Rw (Rd Ow At)
open Go.Proofs.Ytghdjdejdpknjaa.Fl (R4 z4 rec4 K4 okR okL okR_at hdr rat goodF)

def KI : Rw.Kind Int := Rw.int .i64
theorem infoI : (Try.prog.info? 3).map (fun i => (i.zero, i.size, i.bytes)) = some (some (.int .i64 0), 1, 8) := by kernel_rfl
theorem addr_zero (a : Addr) : a.add 0 = a := by cases a; simp [Addr.add]
/-- The number at a place. -/
def iat (l : List Int) (i : Nat) : Int := l.getD i 0
theorem at1 {w : World} {b off : Nat} {l : List Int} (h : At KI w b off l) (i : Nat) (hi : i < l.length) : w.cell? ⟨b, off + i, none⟩ = some (.int .i64 (iat l i)) := by
  have c := h i hi 0 _ rfl
  simp only [KI, Rw.int, Nat.mul_one, Nat.add_zero] at c
  exact c
theorem iat_get {l : List Int} {i : Nat} (h : i < l.length) : l[i]? = some (iat l i) := by
  unfold iat
  rw [List.getD_eq_getElem?_getD, List.getElem?_eq_getElem h]
  rfl
theorem ints_same {l l' : List Int} (hl : l.length = l'.length) (h : ∀ i, i < l.length → iat l i = iat l' i) : l = l' := by
  refine List.ext_getElem hl fun i h1 h2 => ?_
  have := h i h1
  simpa [iat, List.getD, List.getElem?_eq_getElem h1, List.getElem?_eq_getElem h2] using this

/-- A round that a sequence may name. -/
def okI (x : Int) : Prop := 0 ≤ x ∧ x ≤ 5
instance (x : Int) : Decidable (okI x) := by unfold okI; infer_instance
/-- Numbers may be a sequence. -/
def seqP (l : List Int) : Prop := (0 < l.length ∧ l.length ≤ 64) ∧ ∀ i, i < l.length → okI (iat l i)
instance (l : List Int) : Decidable (seqP l) := by unfold seqP; infer_instance
def seqB (l : List Int) : Bool := decide (seqP l)
theorem seq_no {l : List Int} {k : Nat} (hk : k < l.length) (h : ¬ okI (iat l k)) : false = seqB l := (decide_eq_false (fun g => h (g.2 k hk))).symm
theorem seq_long {l : List Int} (h : ¬ (0 < l.length ∧ l.length ≤ 64)) : false = seqB l := (decide_eq_false (fun g => h g.1)).symm
theorem seq_yes {l : List Int} (h : 0 < l.length ∧ l.length ≤ 64) (g : ∀ i, i < l.length → okI (iat l i)) : true = seqB l := (decide_eq_true ⟨h, g⟩).symm

/-- A round's record. -/
def putI (x : Int) : R4 := (x, 0, 0, 0)
def fileL (l : List Int) : List R4 := hdr 3 (l.length : Int) :: l.map putI
def fL (l : List Int) : List R4 := if seqP l then fileL l else []
def fP (l : List Int) : Int := if seqP l then 3 else 0
def fN (l : List Int) : Int := if seqP l then 0 else 1
/-- The first byte of each record behind the header. -/
def takL (l : List R4) : List Int := (l.drop 1).map (·.1)
def isS (p : Int) (l : List R4) : Prop := goodF p l ∧ seqP (takL l) ∧ p = 3 ∧ l = fileL (takL l)
instance (p : Int) (l : List R4) : Decidable (isS p l) := by unfold isS; infer_instance
def sL (p : Int) (l : List R4) : List Int := if isS p l then takL l else []
def sN (p : Int) (l : List R4) : Int := if isS p l then 0 else 2
theorem file_len (l : List Int) : (fileL l).length = l.length + 1 := by simp [fileL]
theorem tak_len (l : List R4) : (takL l).length = l.length - 1 := by simp [takL]
theorem tak_file (l : List Int) : takL (fileL l) = l := by
  have e : (fun x => (putI x).1) = (id : Int → Int) := rfl
  simp only [takL, fileL, List.drop_succ_cons, List.drop_zero, List.map_map, Function.comp_def, e, List.map_id]
theorem file_good {l : List Int} (h : seqP l) : goodF 3 (fileL l) := by
  have hl := file_len l
  have := h.1
  refine ⟨by omega, by omega, by omega, by omega, ?_⟩
  have e : ((fileL l).length : Int) - 1 = (l.length : Int) := by omega
  rw [e]
  rfl
theorem file_is {l : List Int} (h : seqP l) : isS 3 (fileL l) := ⟨file_good h, by rw [tak_file]; exact h, rfl, by rw [tak_file]⟩
theorem seq_file {l : List Int} (h : seqP l) : sL 3 (fileL l) = l ∧ sN 3 (fileL l) = 0 := by
  unfold sL sN
  rw [if_pos (file_is h), if_pos (file_is h), tak_file]
  exact ⟨rfl, rfl⟩
theorem okI_R {x : Int} (h : okI x) : okR (putI x) := by
  obtain ⟨a, b⟩ := h
  unfold okR putI
  simp only
  omega
theorem seq_each {l : List Int} (h : seqP l) : ∀ x ∈ l, okI x := fun x hx => by
  obtain ⟨i, hi, e⟩ := List.getElem_of_mem hx
  have g := h.2 i hi
  have e' : iat l i = x := by
    have := iat_get hi
    rw [List.getElem?_eq_getElem hi, e] at this
    exact (Option.some.inj this).symm
  rw [e'] at g
  exact g
theorem ok_file {l : List Int} (h : seqP l) : okL (fileL l) := by
  intro r hr
  rcases List.mem_cons.1 hr with rfl | hr
  · have := h.1
    have hb : ∀ n : Fin 65, okR (hdr 3 (n.val : Int)) := by unfold okR; decide +kernel
    have e := hb ⟨l.length, by omega⟩
    simpa using e
  · obtain ⟨x, hx, rfl⟩ := List.mem_map.1 hr
    exact okI_R (seq_each h x hx)
theorem ok_fL (l : List Int) : okL (fL l) := by
  unfold fL
  by_cases h : seqP l
  · rw [if_pos h]; exact ok_file h
  · rw [if_neg h]; intro r hr; cases hr

/-- A record behind the header is a round's. -/
def plain (r : R4) : Prop := r.2.1 = 0 ∧ r.2.2.1 = 0 ∧ r.2.2.2 = 0
instance (r : R4) : Decidable (plain r) := by unfold plain; infer_instance
theorem rat_file {l : List Int} {i : Nat} (h : i < l.length) : rat (fileL l) (i + 1) = putI (iat l i) := by
  unfold rat fileL
  rw [List.getD_eq_getElem?_getD, List.getElem?_cons_succ, List.getElem?_map, iat_get h]
  rfl
theorem is_plain {p : Int} {l : List R4} (h : isS p l) {i : Nat} (h1 : 1 ≤ i) (hi : i < l.length) : plain (rat l i) := by
  obtain ⟨j, rfl⟩ : ∃ j, i = j + 1 := ⟨i - 1, by omega⟩
  have e := rat_file (l := takL l) (i := j) (by rw [tak_len]; omega)
  rw [← h.2.2.2] at e
  rw [e]
  exact ⟨rfl, rfl, rfl⟩
theorem tak_at {l : List R4} {i : Nat} (h : i + 1 < l.length) : iat (takL l) i = (rat l (i + 1)).1 := by
  have e : (takL l)[i]? = some (rat l (i + 1)).1 := by
    unfold takL rat
    rw [List.getElem?_map, List.getElem?_drop, Nat.add_comm 1 i, List.getD_eq_getElem?_getD, List.getElem?_eq_getElem h]
    rfl
  unfold iat
  rw [List.getD_eq_getElem?_getD, e]
  rfl
theorem all_plain {l : List R4} (hg : goodF 3 l) (h : ∀ i, 1 ≤ i → i < l.length → plain (rat l i)) : l = fileL (takL l) := by
  have hl : l.length = (fileL (takL l)).length := by rw [file_len, tak_len]; have := hg.2.2.1; omega
  have hat : ∀ i, i < l.length → rat l i = rat (fileL (takL l)) i := fun i hi => by
    rcases i with _ | j
    · rw [hg.2.2.2.2]
      have e : ((takL l).length : Int) = (l.length : Int) - 1 := by rw [tak_len]; have := hg.2.2.1; omega
      rw [← e]
      rfl
    · rw [rat_file (by rw [tak_len]; omega), tak_at hi]
      obtain ⟨a, b, c⟩ := h (j + 1) (by omega) hi
      generalize rat l (j + 1) = r at *
      obtain ⟨r1, r2, r3, r4⟩ := r
      simp only at a b c
      subst a b c
      rfl
  refine List.ext_getElem hl fun i h1 h2 => ?_
  have := hat i h1
  simpa [rat, List.getD, List.getElem?_eq_getElem h1, List.getElem?_eq_getElem h2] using this
theorem is_of {l : List R4} (hg : goodF 3 l) (h : ∀ i, 1 ≤ i → i < l.length → plain (rat l i)) (hs : seqP (takL l)) : isS 3 l := ⟨hg, hs, rfl, all_plain hg h⟩
theorem s_no {p : Int} {l : List R4} (h : ¬ isS p l) : sL p l = [] ∧ sN p l = 2 := ⟨if_neg h, if_neg h⟩
theorem s_yes {p : Int} {l : List R4} (h : isS p l) : sL p l = takL l ∧ sN p l = 0 := ⟨if_pos h, if_pos h⟩
/-- What has been read behind k records. -/
theorem tak_next {l : List R4} {k : Nat} (h : k + 1 < l.length) : (takL l).take k ++ [(rat l (k + 1)).1] = (takL l).take (k + 1) := by
  rw [List.take_add_one, iat_get (by rw [tak_len]; omega), tak_at h]
  rfl

/-- A file half written. -/
def part (h : R4) (l : List Int) (k : Nat) : List R4 := h :: ((l.take k).map putI ++ List.replicate (l.length - k) z4)
theorem part_len (h : R4) (l : List Int) (k : Nat) (hk : k ≤ l.length) : (part h l k).length = l.length + 1 := by
  simp [part, List.length_take]
  omega
theorem part_start (h : R4) (l : List Int) : part h l 0 = h :: List.replicate l.length z4 := by simp [part]
theorem take_next {l : List Int} {k : Nat} (hk : k < l.length) : l.take (k + 1) = l.take k ++ [iat l k] := by
  rw [List.take_add_one, iat_get hk]
  rfl
theorem part_set (h : R4) {l : List Int} {k : Nat} (hk : k < l.length) : (part h l k).set (1 + k) (putI (iat l k)) = part h l (k + 1) := by
  have e1 : (l.take k).length = k := by rw [List.length_take]; omega
  unfold part
  rw [Nat.add_comm 1 k, List.set_cons_succ, List.set_append_right _ _ (by rw [List.length_map, e1]; omega), List.length_map, e1, Nat.sub_self, take_next hk]
  rw [show l.length - k = (l.length - (k + 1)) + 1 by omega, List.replicate_succ]
  simp
theorem part_end (h : R4) (l : List Int) : part h l l.length = h :: l.map putI := by
  unfold part
  rw [List.take_length, Nat.sub_self]
  simp
theorem own_next {l : List Int} {k : Nat} (h : R4) (hk : k < l.length) : (h :: (l.take k).map putI) ++ [putI (iat l k)] = h :: (l.take (k + 1)).map putI := by
  rw [take_next hk]
  simp

/-- What is next. -/
def nxP (l : List Int) (t : Int) : Prop := seqP l ∧ 0 ≤ t ∧ t < l.length
instance (l : List Int) (t : Int) : Decidable (nxP l t) := by unfold nxP; infer_instance
def nR (l : List Int) (t : Int) : Int := if nxP l t then iat l t.toNat else 0
def nT (l : List Int) (t : Int) : Int := if nxP l t then (if t + 1 = l.length then 0 else t + 1) else 0
def nE (l : List Int) (t : Int) : Int := if nxP l t then 0 else 1
def NextPost (w : World) (l : List Int) (t : Int) (e : Ending) (w' : World) : Prop := e = .returned (.tuple #[.int .i64 (nR l t), .int .i64 (nT l t), .int .i64 (nE l t)]) ∧ Below w.heap.size w w'
theorem next_no {w : World} {l : List Int} {t : Int} (h : ¬ nxP l t) (w' : World) (hb : Below w.heap.size w w') : NextPost w l t (.returned (.tuple #[.int .i64 0, .int .i64 0, .int .i64 1])) w' := ⟨by unfold nR nT nE; rw [if_neg h, if_neg h, if_neg h], hb⟩
theorem next_last {w : World} {l : List Int} {k : Nat} (h : nxP l k) (h1 : k + 1 = l.length) (w' : World) (hb : Below w.heap.size w w') : NextPost w l k (.returned (.tuple #[.int .i64 (iat l k), .int .i64 0, .int .i64 0])) w' := ⟨by unfold nR nT nE; rw [if_pos h, if_pos h, if_pos h, if_pos (by omega)]; rfl, hb⟩
theorem next_more {w : World} {l : List Int} {k : Nat} (h : nxP l k) (h1 : k + 1 ≠ l.length) (w' : World) (hb : Below w.heap.size w w') : NextPost w l k (.returned (.tuple #[.int .i64 (iat l k), .int .i64 ((k : Int) + 1), .int .i64 0])) w' := ⟨by unfold nR nT nE; rw [if_pos h, if_pos h, if_pos h, if_neg (by omega)]; rfl, hb⟩

def SeqPost (w : World) (p : Int) (l : List R4) (e : Ending) (w' : World) : Prop := ∃ u, e = .returned (.tuple #[u, .int .i64 (sN p l)]) ∧ Rd KI w' u (sL p l) ∧ Below w.heap.size w w'
def FilePost (w : World) (l : List Int) (e : Ending) (w' : World) : Prop := ∃ u, e = .returned (.tuple #[Fl.file (fP l) u, .int .i64 (fN l)]) ∧ Rd K4 w' u (fL l) ∧ Below w.heap.size w w'
theorem file_no {w : World} {l : List Int} (h : ¬ seqP l) (w' : World) (hb : Below w.heap.size w w') : FilePost w l (.returned (.tuple #[Fl.file 0 (.slice none 0 0), .int .i64 1])) w' :=
  ⟨_, by unfold fP fN; rw [if_neg h, if_neg h], by unfold fL; rw [if_neg h]; exact Rw.Rd.nil _, hb⟩
theorem file_yes {w : World} {l : List Int} (h : seqP l) (u : Value) (w' : World) (hr : Rd K4 w' u (fileL l)) (hb : Below w.heap.size w w') : FilePost w l (.returned (.tuple #[Fl.file 3 u, .int .i64 0])) w' :=
  ⟨u, by unfold fP fN; rw [if_pos h, if_pos h], by unfold fL; rw [if_pos h]; exact hr, hb⟩
theorem sq_no {w : World} {p : Int} {l : List R4} (h : ¬ isS p l) (w' : World) (hb : Below w.heap.size w w') : SeqPost w p l (.returned (.tuple #[.slice none 0 0, .int .i64 2])) w' :=
  ⟨_, by rw [(s_no h).2], by rw [(s_no h).1]; exact Rw.Rd.nil _, hb⟩
theorem sq_yes {w : World} {p : Int} {l : List R4} (h : isS p l) (u : Value) (w' : World) (hr : Rd KI w' u (takL l)) (hb : Below w.heap.size w w') : SeqPost w p l (.returned (.tuple #[u, .int .i64 0])) w' :=
  ⟨u, by rw [(s_yes h).2], by rw [(s_yes h).1]; exact hr, hb⟩

end Go.Proofs.Ytghdjdejdpknjaa.Re
