/- errors.as, errors.As at ifs's own errors, by their contracts; number. -/
import Derived.Test.YtoeemngekioldaaDoorFsAs
import Derived.Test.YtoeemngekioldaaDoorFsMem
namespace Go.Proofs.YtoeemngekioldaaDoor.Fs
open Go.RowKit Go.Extern.Stop Go.Stop Go.Extern
set_option maxRecDepth 100000
open Go.Proofs.YtoeemngekioldaaDoor.Fl (row_cell row_frozen)

/-- The variable of package errors that holds the type of errors. -/
def Glob (w : World) : Prop := w.cell? ⟨0, 0, none⟩ = some (.iface 102 (.agg #[.pointer (some ⟨1, 67, none⟩)]))
theorem Glob.below {w w' : World} (h : Glob w) (b : Below w.heap.size w w') : Glob w' := (b.cell (World.block_lt_of_cell? _ _ h)).trans h
theorem Glob.only {G : Nat → Prop} {w w' : World} (h : Glob w) (hn : ¬ G 0) (o : Only G w w') : Glob w' := o.cell h hn

def AsPost (w : World) (tb : Nat) (e : Int) (ev : Ending) (w' : World) : Prop := ev = .returned (.bool true) ∧ w'.heap[tb]? = some (.cells #[.int .i64 e] 38 (0, 0)) ∧ Only (fun k => k = tb) w w'
set_option maxHeartbeats 4000000 in
theorem as_loop (n e : Int) (tb b : Nat) (w : World) (hb : w.cell? ⟨b, 0, none⟩ = some (.pointer (some ⟨tb, 0, none⟩))) (ht : w.heap[tb]? = some (.cells #[.int .i64 0] 38 (0, 0))) :
    Calls Tryd.prog 53 #[fault n e, .iface 96 (.pointer (some ⟨tb, 0, none⟩)), .agg #[.pointer (some ⟨1, 96, none⟩), .pointer (some ⟨b, 0, none⟩), .int .u64 150], .iface 102 (.agg #[.pointer (some ⟨1, 38, none⟩)])] w (AsPost w tb e) := by
  have h42 := @run_callFunc_extern Tryd.prog 42 _ Extern.ReflectliteType.typeOf Tryd.func42 (by kernel_rfl) (by kernel_rfl) (by kernel_rfl) (by kernel_rfl)
  have h102 := @run_callFunc_extern Tryd.prog 102 _ asgF Tryd.func102 (by kernel_rfl) (by kernel_rfl) (by kernel_rfl) (by kernel_rfl)
  have h60 := @run_callFunc_extern Tryd.prog 60 _ elvF Tryd.func60 (by kernel_rfl) (by kernel_rfl) (by kernel_rfl) (by kernel_rfl)
  have h50 := @run_callFunc_extern Tryd.prog 50 _ valF Tryd.func50 (by kernel_rfl) (by kernel_rfl) (by kernel_rfl) (by kernel_rfl)
  have h61 := @run_callFunc_extern Tryd.prog 61 _ ReflectliteValue.set Tryd.func61 (by kernel_rfl) (by kernel_rfl) (by kernel_rfl) (by kernel_rfl)
  have tF := isTypeOfF
  have tE := isTypeOf
  have mA := mAsg
  have aF := asgF'
  have aE := asgE
  have nA := noAsF
  have uF := hasUnwrapF
  have mU := methodUnwrap
  have vE := valE
  have HB := Lib.hid hb
  have HT := Lib.hid ht
  have B0 := Lib.hid ((Below.refl w.heap.size w).alloc (Nat.le_refl _) (.cells #[.pointer (some ⟨1, 96, none⟩), .pointer (some ⟨b, 0, none⟩), .int .u64 150] 115))
  clear hb ht
  unfold fault flt
  go_enter Tryd.func53, Tryd.ntmps53
  go_wp2
  refine wp_loop_rounds 2 ?_
  rw [rounds_succ]
  go_wp2_with (go_at_call 100; refine (unwrap_any _ _ _).mono ?_; rintro ev w1 ⟨rfl, b1⟩)
  have B1 := Lib.hid (B0.out.trans (b1.mono B0.out.size))
  have G0 : w1.heap[w.heap.size]? = some (.cells #[.pointer (some ⟨1, 96, none⟩), .pointer (some ⟨b, 0, none⟩), .int .u64 150] 115 (0, 0)) := (b1.block _ (by simp)).trans (heap_alloc_new w _)
  have e0 : w1.cell? ⟨w.heap.size, 0, none⟩ = some (.pointer (some ⟨1, 96, none⟩)) := row_cell G0 0
  have e1 : w1.cell? ⟨w.heap.size, 1, none⟩ = some (.pointer (some ⟨b, 0, none⟩)) := row_cell G0 1
  have e2 : w1.cell? ⟨w.heap.size, 2, none⟩ = some (.int .u64 150) := row_cell G0 2
  have hbl := World.block_lt_of_cell? _ _ HB.out
  have el := elvP ⟨b, 0, none⟩ ⟨tb, 0, none⟩ w1 ((B1.out.cell hbl).trans HB.out)
  have htl := lt_of_block HT.out
  have T1 := (B1.out.block tb htl).trans HT.out
  have T2 := (Below.heap_alloc w1 (.cells #[.int .i64 e] 38) tb (by have := B1.out.size; omega)).trans T1
  have st := setE ⟨tb, 0, none⟩ ⟨w1.heap.size, 0, none⟩ e (.int .i64 0) (w1.alloc (.cells #[.int .i64 e] 38)) (by simp) (row_cell T2 0) (row_frozen T2 0)
  have RES : Hid (AsPost w tb e (.returned (.bool true)) ((w1.alloc (.cells #[.int .i64 e] 38)).setCell ⟨tb, 0, none⟩ (.int .i64 e))) := by
    refine ⟨rfl, ?_, ?_⟩
    · have := Rw.heap_setCell_same (j := 0) T2 (.int .i64 e)
      rw [this]
      simp
    · exact (Only.of_below (B1.out.alloc B1.out.size _)).trans (Only.set (fun k => k = tb) _ (a := ⟨tb, 0, none⟩) rfl _) fun _ _ g => g
  clear b1 G0 T1 T2 HB HT B0 B1 hbl htl
  rw [rounds_succ]
  go_wp2
  go_ret
  exact RES.out
set_option maxHeartbeats 4000000 in
theorem as_any (n e : Int) (tb : Nat) (w : World) (hg : Glob w) (ht : w.heap[tb]? = some (.cells #[.int .i64 0] 38 (0, 0))) :
    Calls Tryd.prog 44 #[fault n e, .iface 96 (.pointer (some ⟨tb, 0, none⟩))] w (AsPost w tb e) := by
  have h50 := @run_callFunc_extern Tryd.prog 50 _ valF Tryd.func50 (by kernel_rfl) (by kernel_rfl) (by kernel_rfl) (by kernel_rfl)
  have h51 := @run_callFunc_extern Tryd.prog 51 _ typF Tryd.func51 (by kernel_rfl) (by kernel_rfl) (by kernel_rfl) (by kernel_rfl)
  have h52 := @run_callFunc_extern Tryd.prog 52 _ nilF Tryd.func52 (by kernel_rfl) (by kernel_rfl) (by kernel_rfl) (by kernel_rfl)
  have h95 := @run_callFunc_extern Tryd.prog 95 _ kinF Tryd.func95 (by kernel_rfl) (by kernel_rfl) (by kernel_rfl) (by kernel_rfl)
  have h104 := @run_callFunc_extern Tryd.prog 104 _ eleF Tryd.func104 (by kernel_rfl) (by kernel_rfl) (by kernel_rfl) (by kernel_rfl)
  have h105 := @run_callFunc_extern Tryd.prog 105 _ impF Tryd.func105 (by kernel_rfl) (by kernel_rfl) (by kernel_rfl) (by kernel_rfl)
  have f6 := valP
  have f7 := typP
  have mK := mKind
  have mE := mElem
  have mI := mImp
  have kP := kindP
  have kE := kindE
  have eP := elemP
  have iE := impE
  have hlt : 0 < w.heap.size := World.block_lt_of_cell? _ _ hg
  have htl := lt_of_block ht
  have B2 : Below w.heap.size w ((w.alloc (.cells #[.pointer (some ⟨tb, 0, none⟩)] 96)).alloc (.cells #[.pointer (some ⟨1, 96, none⟩), .pointer (some ⟨w.heap.size, 0, none⟩), .int .u64 150] 115)) := ((Below.refl w.heap.size w).alloc (Nat.le_refl _) _).alloc (by simp) _
  have n8 := nilP ⟨w.heap.size, 0, none⟩ ⟨tb, 0, none⟩ ((w.alloc (.cells #[.pointer (some ⟨tb, 0, none⟩)] 96)).alloc (.cells #[.pointer (some ⟨1, 96, none⟩), .pointer (some ⟨w.heap.size, 0, none⟩), .int .u64 150] 115)) (by simp)
  have hg2 : ((w.alloc (.cells #[.pointer (some ⟨tb, 0, none⟩)] 96)).alloc (.cells #[.pointer (some ⟨1, 96, none⟩), .pointer (some ⟨w.heap.size, 0, none⟩), .int .u64 150] 115)).cell? ⟨0, 0, none⟩ = some (.iface 102 (.agg #[.pointer (some ⟨1, 67, none⟩)])) := hg.below B2
  have AL := Lib.hid (as_loop n e tb w.heap.size ((w.alloc (.cells #[.pointer (some ⟨tb, 0, none⟩)] 96)).alloc (.cells #[.pointer (some ⟨1, 96, none⟩), .pointer (some ⟨w.heap.size, 0, none⟩), .int .u64 150] 115)) (by simp) ((B2.block tb htl).trans ht))
  have BB := Lib.hid B2
  have HTL := Lib.hid htl
  clear hg ht B2 htl
  unfold fault flt at *
  go_enter Tryd.func44, Tryd.ntmps44
  go_wp2_with (go_at_call 53; refine AL.out.mono ?_; rintro ev w1 ⟨rfl, r1, o1⟩)
  go_ret
  exact ⟨rfl, r1, (Only.of_below BB.out).trans o1 fun _ _ g => g⟩
set_option maxHeartbeats 1000000 in
theorem number_any (n e : Int) (w : World) (hg : Glob w) : Calls Tryd.prog 29 #[fault n e] w fun ev w' => ev = .returned (.int .i64 e) ∧ Below w.heap.size w w' := by
  have B0 := Lib.hid ((Below.refl w.heap.size w).alloc (Nat.le_refl _) (.cells #[.int .i64 0] 38))
  have AS := Lib.hid (as_any n e w.heap.size (w.alloc (.cells #[.int .i64 0] 38)) (hg.below B0.out) (heap_alloc_new w _))
  clear hg
  unfold fault flt at *
  go_enter Tryd.func29, Tryd.ntmps29
  go_wp2_with fail
  refine AS.out.mono ?_
  rintro ev w1 ⟨rfl, r1, o1⟩
  have c1 : w1.cell? ⟨w.heap.size, 0, none⟩ = some (.int .i64 e) := row_cell r1 0
  have BB := Lib.hid (B0.out.trans (o1.below (by simp) fun k hk => by rw [hk]; exact Nat.le_refl _))
  clear r1 o1 B0 AS
  go_wp2
  go_ret
  exact ⟨rfl, BB.out⟩

end Go.Proofs.YtoeemngekioldaaDoor.Fs
