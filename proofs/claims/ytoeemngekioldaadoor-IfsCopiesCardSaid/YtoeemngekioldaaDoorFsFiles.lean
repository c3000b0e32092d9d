/- ifs: Files, by its contract. -/
import Derived.Test.YtoeemngekioldaaDoorFsKeys
import Derived.Test.YtoeemngekioldaaDoorFsSmall
namespace Go.Proofs.YtoeemngekioldaaDoor.Fs
open Go.RowKit Go.Maps
open Go.Proofs.YtoeemngekioldaaDoor.Fl (R4 z4 K4 rec4 rat goodF goodFB okR okL file row_cell row_frozen)
open Go.Proofs.YtoeemngekioldaaDoor.Rw (Rd Ow At)
set_option maxRecDepth 100000

theorem infoE3 : (Tryd.prog.info? 56).map (fun i => (i.zero, i.size, i.bytes)) = some (some (.agg #[.int .i64 0, .int .i64 0, .slice none 0 0]), 3, 40) := by kernel_rfl
theorem run_buildN (n p : Int) (a : Option Addr) (q cap : Nat) (w : World) : (Instr.build 56 #[(0, .int .i64 n), (1, .agg #[.int .i64 p, .slice a q cap])]).run Tryd.prog w = .ok (.agg #[.int .i64 n, .int .i64 p, .slice a q cap]) w := by kernel_rfl
theorem copied_agg (w : World) (p : Int) (v : Value) (l : List R4) (q : Nat) (R : Rd K4 w v l) (hl : l.length ≤ 260) (hq : l.length = q) : Calls Tryd.prog 23 #[.agg #[.int .i64 p, v]] w fun e w' => ∃ a cap, e = .returned (.agg #[.int .i64 p, .slice a q cap]) ∧ Ow K4 w' w.heap.size 32 (.slice a q cap) l ∧ Below w.heap.size w w' :=
  (copied_any w p v l R hl).mono fun e w' ⟨u, h1, h2, h3⟩ => by
    obtain ⟨a, cap, rfl, _⟩ := h2.slice
    rw [hq] at h1 h2
    exact ⟨a, cap, h1, h2, h3⟩
theorem ow_far {α : Type} {K : Rw.Kind α} {w w' : World} {B E T : Nat} {v : Value} {l : List α} (h : Ow K w B E v l) (hne : E ≠ T) (f : Rw.Far T w w') : Ow K w' B E v l := by
  obtain ⟨h1, h2⟩ := h
  refine ⟨h1, ?_⟩
  rcases h2 with h2 | ⟨g, cap, cur, e, hB, hh, r⟩
  · exact .inl h2
  · exact .inr ⟨g, cap, cur, e, hB, f g _ _ hh hne, r⟩
/-- What is laid of a store's first k files. -/
def FRel (w : World) (C : List Ent) (v : Value) (k : Nat) (wr : World) : Prop := ∃ L : List Ent, Ow E3 wr w.heap.size 56 v L ∧ L.map Ent.abs = (C.take k).map Ent.abs ∧ (∀ c ∈ L, Ow K4 wr w.heap.size 32 c.sl c.l) ∧ Below w.heap.size w wr
def FilesPost (w : World) (A : Abs) (e : Ending) (w' : World) : Prop := ∃ v, e = .returned v ∧ (∀ F : Nat → Prop, (∀ k, F k → k < w.heap.size) → Ls F w' v A) ∧ Below w.heap.size w w'
theorem files_nil (w : World) : Calls Tryd.prog 19 #[.pointer none] w fun e w' => e = .returned (.slice none 0 0) ∧ Below w.heap.size w w' := by
  go_enter Tryd.func19, Tryd.ntmps19
  go_wp2
  go_ret
  exact ⟨rfl, Below.refl _ _⟩
theorem ls_of {w w2 w' : World} {C : List Ent} {v : Value} {A : Abs} (h : FRel w2 C v C.length w') (hA : C.map Ent.abs = A) (hb : w.heap.size ≤ w2.heap.size) (F : Nat → Prop) (hF : ∀ k, F k → k < w.heap.size) : Ls F w' v A := by
  obtain ⟨L, o, e, r, b⟩ := h
  rw [List.take_length] at e
  exact ⟨L, ⟨o.rd, fun _ k hk g => by have := (ow_new o k hk).1; have := hF k g; omega, fun c hc => (r c hc).rd, fun c hc _ k hk g => by have := (ow_new (r c hc) k hk).1; have := hF k g; omega⟩, e.trans hA⟩
theorem getD_n (C : List Ent) (k : Nat) (hk : k < C.length) : (C.map Ent.n).getD k 0 = (C[k]).n := by
  rw [List.getD_eq_getElem?_getD, List.getElem?_map, List.getElem?_eq_getElem hk]
  rfl
set_option maxHeartbeats 4000000 in
theorem files_any {w : World} {s : Nat} {F : Nat → Prop} {A : Abs} {d : Int} (S : St w s F A d) : Calls Tryd.prog 19 #[.pointer (some ⟨s, 0, none⟩)] w (FilesPost w A) := by
  obtain ⟨m, C, h, hA⟩ := S
  obtain ⟨mb, rfl⟩ : ∃ mb, m = .map mb := by
    rcases h.mp with ⟨e, _⟩ | ⟨b, e, _⟩
    · exact ⟨_, e⟩
    · exact ⟨_, e⟩
  have srt : Srt Ent.n C := (map_srt (κ := Ent.n) (κ' := key) abs_key).1 h.ok.srt
  have c0 : w.cell? ⟨s, 0, none⟩ = some (.map mb) := row_cell h.row 0
  have SO := Lib.hid (sorted_any h.mp srt h.len)
  have SS := Lib.hid h
  have HL := Lib.hid h.len
  have HS := Lib.hid srt
  have HA := Lib.hid hA
  clear h hA srt
  go_enter Tryd.func19, Tryd.ntmps19
  go_wp2_with (first
    | (go_at_call 35; refine (keys_any _ _).mono ?_; rintro e w1 ⟨rfl, rfl⟩)
    | (go_at_call 34; refine SO.out.mono ?_; rintro e w2 ⟨vk, rfl, ok, b2⟩; obtain ⟨ka, kc, rfl, hkc⟩ := ok.slice; rw [List.length_map] at ok ⊢))
  have OK := Lib.hid ok
  have B2 := Lib.hid b2
  have S2 := Lib.hid (SS.out.below b2)
  clear c0 ok b2 SO SS hkc
  generalize hn : C.length = n at *
  have HN := Lib.hid hn
  clear hn
  go_loopw [3, 15] (fun v i wr => ∃ k : Nat, k ≤ n ∧ i = .int .i64 k ∧ Hid (FRel w2 C v k wr)) (fun _ i _ => n - (intOf i).toNat)
  case atStart => exact ⟨0, Nat.zero_le _, rfl, [], Ow.nil _ _ _, by simp, nofun, Below.refl _ _⟩
  case round =>
    obtain ⟨k, hk, rfl, R⟩ := hrel
    by_cases hlt : k < n
    · obtain ⟨L, oL, eL, rL, bL⟩ := R.out
      have hkC : k < C.length := by have := HN.out; omega
      obtain ⟨⟨cn, cp, ca, cc, cl⟩, hc⟩ : ∃ c : Ent, C[k]? = some c := ⟨_, List.getElem?_eq_getElem hkC⟩
      obtain ⟨g, off, ek, hK⟩ : ∃ g cap, (Value.slice ka n kc) = .slice (some ⟨g, 0, none⟩) n cap ∧ w2.cell? ⟨g, k, none⟩ = some (.int .i64 cn) := by
        obtain ⟨g, cap, e1, _, _, _, _, _, hAt⟩ := OK.out.form (by rw [List.length_map]; omega)
        rw [List.length_map, HN.out] at e1
        have c := hAt k (by rw [List.length_map]; exact hkC) 0 (.int .i64 ((C.map Ent.n).getD k 0)) rfl
        have e0 : (C.map Ent.n).getD k 0 = cn := by rw [List.getD_eq_getElem?_getD, List.getElem?_map, hc]; rfl
        rw [e0] at c
        have e : 0 + k * KI.n + 0 = k := by show 0 + k * 1 + 0 = k; omega
        rw [e] at c
        exact ⟨g, cap, e1, c⟩
      obtain ⟨rfl, rfl⟩ : ka = some ⟨g, 0, none⟩ ∧ kc = off := by injection ek with e1 _ e3; exact ⟨e1, e3⟩
      have kr := (bL.cell (World.block_lt_of_cell? _ _ hK)).trans hK
      have SR := S2.out.below bL
      have c0 : wr.cell? ⟨s, 0, none⟩ = some (.map mb) := row_cell SR.row 0
      have M := Lib.hid SR.mp
      have hin := List.mem_of_getElem? hc
      have hl : look Ent.n cn C = some ⟨cn, cp, ca, cc, cl⟩ := look_at HS.out hin
      have LV := Lib.hid (lv_some hl)
      obtain ⟨ho, hg, -, -, hnm, -⟩ := SR.find hl
      have WN : Hid (Wf cn) := WalkArith.wf_i64 (by omega)
      have RC := Lib.hid (ho.rd)
      have GL : Hid (cl.length ≤ 260) := by have := hg.2.2.2.1; show cl.length ≤ 260; simp only at this; omega
      have TK : Hid (∀ e : Ent, e.abs = (cn, cp, cl) → (L ++ [e]).map Ent.abs = (C.take (k + 1)).map Ent.abs) := fun e he => by
        rw [List.take_add_one, hc, List.map_append, List.map_append, eL]
        show _ ++ [e.abs] = _ ++ [(cn, cp, cl)]
        rw [he]
      have LL : Hid (L.length ≤ 64) := by
        have e := congrArg List.length eL
        rw [List.length_map, List.length_map, List.length_take] at e
        have := HL.out
        show _ ≤ 64
        omega
      have OL := Lib.hid oL
      have RL := Lib.hid rL
      have BL := Lib.hid bL
      obtain ⟨va, vc, ev, -⟩ := oL.slice
      clear R hK ek SR hin hl ho hg hnm oL rL bL eL hkC hc
      unfold Ent.sl at RC
      simp only at *
      generalize hq : cl.length = q at *
      have HQ := Lib.hid hq
      clear hq
      generalize hLl : L.length = Ln at *
      have HLl := Lib.hid hLl
      subst ev
      clear hLl
      have CA := fun W (hb : Below wr.heap.size wr W) => copied_agg W cp (.slice ca q cc) cl q (by have := RC.out.below hb; exact this) (by rw [HQ.out]; exact GL.out) HQ.out
      have CC := Lib.hid CA
      clear CA
      have hF := run_fieldF
      have hBN := run_buildN
      have hn64 : n ≤ 64 := HL.out
      have hw2 : Hid (w2.heap.size ≤ wr.heap.size) := BL.out.size
      go_wp2_with (first
        | (at_lookup; refine at_look0 rfl _ _ rfl M.out rfl _ rfl WN.out _ LV.out ?_)
        | (go_at_call 23; refine (CC.out _ (Below.refl _ _)).mono ?_; rintro e w3 ⟨ua, uc, rfl, o3, b3⟩; have O3 := Lib.hid o3; have B3 := Lib.hid b3; clear o3 b3)
        | (at_builtin; refine Rw.push_far (K := E3) Tryd.underlying26 infoE3 rfl (by omega) rfl _ _ rfl w2.heap.size _ L ?e0 ((OL.out.keep B3.out).alloc _) _ ⟨cn, cp, ua, uc, cl⟩ rfl ?d1 ?d2 ?d3 ?_))
      case e0 => rfl
      case d1 =>
        intro j u hu
        unfold E3 Ent.sl at hu
        simp only [HQ.out] at hu
        match j, hu with
        | 0, hu => simp at hu; subst hu; go_simp
        | 1, hu => simp at hu; subst hu; go_simp
        | 2, hu => simp at hu; subst hu; go_simp
        | j + 3, hu => simp at hu
      case d2 => rw [HLl.out]; have := LL.out; omega
      case d3 => have := B3.out.size; have := hw2.out; simp; omega
      intro v' w4 o4 b4 f4
      have N2 : Hid (FRel w2 C v' (k + 1) w4) := by
        have hs3 := B3.out.size
        have hs2 := hw2.out
        refine ⟨L ++ [⟨cn, cp, ua, uc, cl⟩], o4, TK.out _ rfl, fun c hc => ?_, ((BL.out.trans (B3.out.mono hs2)).alloc (by omega) _).trans b4⟩
        rcases List.mem_append.1 hc with hc | hc
        · exact ow_far (((RL.out c hc).keep B3.out).alloc _) (by decide) f4
        · obtain rfl : c = _ := List.mem_singleton.1 hc
          have o : Ow K4 w3 wr.heap.size 32 (⟨cn, cp, ua, uc, cl⟩ : Ent).sl cl := by unfold Ent.sl; rw [HQ.out]; exact O3.out
          exact ow_far ((o.low hs2).alloc _) (by decide) f4
      clear o4 b4 f4
      go_wp2
      go_roundw
      case rel => exact ⟨k + 1, by omega, by go_num, N2⟩
      case measure => simp [intOf]; omega
    · obtain rfl : k = n := by omega
      have E := Lib.hid (fun (F : Nat → Prop) (hF : ∀ k, F k → k < w.heap.size) => ls_of (w := w) (by rw [HN.out]; exact R.out) HA.out B2.out.size F hF)
      have BR : Hid (Below w2.heap.size w2 wr) := by obtain ⟨_, _, _, _, b⟩ := R.out; exact b
      clear R
      go_wp2
      go_ret
      exact ⟨_, rfl, E.out, B2.out.trans (BR.out.mono B2.out.size)⟩

end Go.Proofs.YtoeemngekioldaaDoor.Fs
