/- errors.Is at ifs's own errors, by its contract: Go's text is walked. -/
import Derived.Test.YtoeemngekioldaaDoorChecked
import Derived.WalkKit
import Derived.LaidEql
import Derived.Stop.Asserts
import Derived.Stop.IfaceNil
import Derived.RowKitTokens
import Derived.Lib.IfaceEq
import Derived.Lib.Hide
import Derived.LoopTactic
import Derived.Outline
namespace Go.Proofs.YtoeemngekioldaaDoor.Fs
open Go.RowKit Go.Extern.Stop Go.Stop Go.Extern
set_option maxRecDepth 100000

/-- The error of a file: its number, and why. -/
def flt (n e : Int) : Value := .agg #[.int .i64 n, .iface 38 (.int .i64 e)]
def fault (n e : Int) : Value := .iface 88 (flt n e)

theorem isTypeOf (v : Value) (w : World) : (Extern.ReflectliteType.typeOf #[.iface 38 v]).run Tryd.prog w = .ok (.iface 102 (.agg #[.pointer (some ⟨1, 38, none⟩)])) w := by kernel_rfl
theorem isTypeOfF (v : Value) (w : World) : (Extern.ReflectliteType.typeOf #[.iface 88 v]).run Tryd.prog w = .ok (.iface 102 (.agg #[.pointer (some ⟨1, 88, none⟩)])) w := by kernel_rfl
def compF : Array Value → Sem Value := Extern.ReflectliteType.method fun t => do Rtype.noPackHeld "Comparable" t; pure (.bool (← typeInfo t).comparable)
theorem isComparable (w : World) : (compF #[.agg #[.pointer (some ⟨1, 38, none⟩)]]).run Tryd.prog w = .ok (.bool true) w := by kernel_rfl
theorem isMethodComparable (v : Value) (w : World) : (Go.method 284 102 v "Comparable").run Tryd.prog w = .ok (103, v) w := by kernel_rfl
theorem noIsF (v : Value) (xT : TypeId) (w : World) : (Instr.typeAssert (.iface 88 v) xT 104 true).run Tryd.prog w = .ok (.tuple #[.nilIface, .bool false]) w := run_typeAssert_lacksB Tryd.underlying104 (by kernel_rfl) (by kernel_rfl) v xT w
theorem noIsE (v : Value) (xT : TypeId) (w : World) : (Instr.typeAssert (.iface 38 v) xT 104 true).run Tryd.prog w = .ok (.tuple #[.nilIface, .bool false]) w := run_typeAssert_lacksB Tryd.underlying104 (by kernel_rfl) (by kernel_rfl) v xT w
theorem hasUnwrapF (v : Value) (xT : TypeId) (w : World) : (Instr.typeAssert (.iface 88 v) xT 107 true).run Tryd.prog w = .ok (.tuple #[.iface 88 v, .bool true]) w := run_typeAssert_hasB Tryd.underlying107 (by kernel_rfl) v xT w
theorem noUnwrapE (v : Value) (xT : TypeId) (w : World) : (Instr.typeAssert (.iface 38 v) xT 107 true).run Tryd.prog w = .ok (.tuple #[.nilIface, .bool false]) w := run_typeAssert_lacksB Tryd.underlying107 (by kernel_rfl) (by kernel_rfl) v xT w
theorem noUnwrapsE (v : Value) (xT : TypeId) (w : World) : (Instr.typeAssert (.iface 38 v) xT 109 true).run Tryd.prog w = .ok (.tuple #[.nilIface, .bool false]) w := run_typeAssert_lacksB Tryd.underlying109 (by kernel_rfl) (by kernel_rfl) v xT w
theorem methodUnwrap (v : Value) (w : World) : (Go.method 284 88 v "Unwrap").run Tryd.prog w = .ok (100, v) w := by kernel_rfl
theorem eql_errno (a b : Int) (w : World) : (binOp .eql 67 (.iface 38 (.int .i64 a)) (.iface 38 (.int .i64 b))).run Tryd.prog w = .ok (.bool (decide (a = b))) w := by
  have := Lib.run_eql_iface_int (P := Tryd.prog) w (t := 67) (tx := 38) (k := .i64) (q := .i64) a b Tryd.underlying67 (by kernel_rfl) Tryd.underlying38
  rw [this]
  congr 2
theorem eql_types (v u : Value) (w : World) : (binOp .eql 67 (.iface 88 v) (.iface 38 u)).run Tryd.prog w = .ok (.bool false) w := run_eql_iface_types (P := Tryd.prog) _ _ v u Tryd.underlying67 (by decide) w

theorem ret_b {a b : Bool} (h : a = b) : Ending.returned (.bool a) = .returned (.bool b) := by rw [h]
theorem unwrap_any (w : World) (n : Int) (x : Value) : Calls Tryd.prog 100 #[.agg #[.int .i64 n, x]] w fun e w' => e = .returned x ∧ Below w.heap.size w w' := by
  go_enter Tryd.func100, Tryd.ntmps100
  go_wp2
  go_ret
  exact ⟨rfl, (Below.refl w.heap.size w).alloc (Nat.le_refl _) _⟩

set_option maxHeartbeats 2000000 in
theorem is_loop (n e : Int) (w : World) : Calls Tryd.prog 43 #[fault n e, .iface 38 (.int .i64 5), .bool true] w fun ev w' => ev = .returned (.bool (decide (e = 5))) ∧ Below w.heap.size w w' := by
  have nF := noIsF
  have nE := noIsE
  have uF := hasUnwrapF
  have uE := noUnwrapE
  have vE := noUnwrapsE
  have mU := methodUnwrap
  have hty := eql_types
  have heq := eql_errno
  unfold fault flt
  by_cases h : e = 5
  · have hd := decide_eq_true h
    go_enter Tryd.func43, Tryd.ntmps43
    go_wp2
    refine wp_loop_rounds 2 ?_
    rw [rounds_succ]
    go_wp2_with (go_at_call 100; refine (unwrap_any _ _ _).mono ?_; rintro ev w1 ⟨rfl, b1⟩)
    rw [rounds_succ]
    go_wp2
    go_ret
    exact ⟨ret_b hd.symm, b1⟩
  · have hd := decide_eq_false h
    go_enter Tryd.func43, Tryd.ntmps43
    go_wp2
    refine wp_loop_rounds 2 ?_
    rw [rounds_succ]
    go_wp2_with (go_at_call 100; refine (unwrap_any _ _ _).mono ?_; rintro ev w1 ⟨rfl, b1⟩)
    rw [rounds_succ]
    go_wp2
    go_ret
    exact ⟨ret_b hd.symm, b1⟩
set_option maxHeartbeats 2000000 in
theorem is_any (n e : Int) (w : World) : Calls Tryd.prog 28 #[fault n e, .iface 38 (.int .i64 5)] w fun ev w' => ev = .returned (.bool (decide (e = 5))) ∧ Below w.heap.size w w' := by
  have h8 := @run_callFunc_extern Tryd.prog 42 _ Extern.ReflectliteType.typeOf Tryd.func42 (by kernel_rfl) (by kernel_rfl) (by kernel_rfl) (by kernel_rfl)
  have h32 := @run_callFunc_extern Tryd.prog 103 _ compF Tryd.func103 (by kernel_rfl) (by kernel_rfl) (by kernel_rfl) (by kernel_rfl)
  have tT := isTypeOf
  have cT := isComparable
  have mR := isMethodComparable
  have L := Lib.hid (is_loop n e w)
  unfold fault flt at *
  go_enter Tryd.func28, Tryd.ntmps28
  go_wp2_with (go_at_call 43; refine L.out.mono ?_; rintro ev w1 ⟨rfl, b1⟩)
  go_ret
  exact ⟨rfl, b1⟩

end Go.Proofs.YtoeemngekioldaaDoor.Fs
