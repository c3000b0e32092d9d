/- Layer 21: requests and replies as values and in memory. -/
import Derived.Test.YtfbhmhgmebaoaaaRqMath
import Derived.Test.YtfbhmhgmebaoaaaFlRef
import Derived.Test.YtfbhmhgmebaoaaaAb
import Derived.Laws.BytesArg
import Derived.Laws.Tables
import Derived.Test.YtfbhmhgmebaoaaaChecked
import Derived.LoopTactic
import Derived.Outline
import Derived.Deep.Draws
import Derived.Deep.Cut
namespace Go.Proofs.Ytfbhmhgmebaoaaa.Rq
open Go.RowKit
open Go.Proofs.Ytfbhmhgmebaoaaa.Rw (Rd Ow At)
open Go.Proofs.Ytfbhmhgmebaoaaa.Fl (R4 z4 K4 row_cell row_frozen)
set_option maxRecDepth 100000

def KU : Rw.Kind Int := Rw.int .u8
/-- A request and a reply as values and in memory. -/
def qA (x : Q) : Array Value := #[.int .i64 x.id, .int .i64 x.k, .int .i64 x.n, .int .i64 x.f, .int .i64 x.r, .int .u8 x.v.1, .int .u8 x.v.2.1, .int .u8 x.v.2.2.1, .int .u8 x.v.2.2.2, .int .i64 x.key]
def yA (y : Y) : Array Value := #[.int .i64 y.id, .int .i64 y.e, .int .u8 y.v.1, .int .u8 y.v.2.1, .int .u8 y.v.2.2.1, .int .u8 y.v.2.2.2]
def qV (x : Q) : Value := .agg (qA x)
def yV (y : Y) : Value := .agg (yA y)
theorem ret_bool {a b : Bool} (h : a = b) : Ending.returned (.bool a) = .returned (.bool b) := by rw [h]

/-- What Put answers. -/
def PutPost (w : World) (x : Q) (e : Ending) (w' : World) : Prop := ∃ v, e = .returned (.tuple #[v, .int .i64 (if good x then 0 else 1)]) ∧ Ow KU w' w.heap.size 5 v (if good x then qb x else []) ∧ Below w.heap.size w w'
theorem at_bool {P : Program} {f : Nat} {args : Array Value} {w : World} {B : Nat} {a b : Bool} (e : a = b) (c : Calls P f args w fun e w' => e = .returned (.bool a) ∧ Below B w w') : Calls P f args w fun e w' => e = .returned (.bool b) ∧ Below B w w' := by rw [← e]; exact c
theorem infoU : (Try.prog.info? 5).map (fun i => (i.zero, i.size, i.bytes)) = some (some (.int .u8 0), 1, 1) := by kernel_rfl
theorem u8_in {x : Int} (h0 : 0 ≤ x) (h1 : x < 256) : IntKind.u8.wrap x = x := by simp [IntKind.wrap, IntKind.bits, IntKind.signed]; omega

/-- What Answer answers. -/
def AnsPost (w : World) (y : Y) (e : Ending) (w' : World) : Prop := ∃ v, e = .returned (.tuple #[v, .int .i64 (if may y then 0 else 1)]) ∧ Ow KU w' w.heap.size 5 v (if may y then yb y else []) ∧ Below w.heap.size w w'

/-- A api.Request that lies in a block, and a number: the results of a call. -/
theorem results_request {fn : Func} {p r : Tmp} {cs : Array Value} (h : fn.results = #[.cell p 33, .tmp r]) (tmps : Array Value) (w : World) (g : Nat) (v : Value) (hp : tmps.getD p undef = .pointer (some ⟨g, 0, none⟩)) (hr : tmps.getD r undef = v) (h1 : w.heap[g]? = some (.cells cs 33 (0, 0))) (hs : cs.size = 10) :
    (results fn tmps).run Try.prog w = .ok (.tuple #[.agg cs, v]) w := by
  have e2 := run_loadVar_row (P := Try.prog) w g 33 33 cs (0, 0) _ h1 Try.underlying33 rfl (by rw [hs]; show _ = some 10; kernel_rfl)
  have hp' : tmps[p]?.getD undef = .pointer (some ⟨g, 0, none⟩) := by simpa using hp
  have hr' : tmps[r]?.getD undef = v := by simpa using hr
  simp only [results, h]
  simp [Result.andThen, hp', hr', asAddr, e2]

/-- What Read answers. -/
def ReadPost (w : World) (l : List Int) (e : Ending) (w' : World) : Prop := e = .returned (.tuple #[yV (if isY l then yof l else zY), .int .i64 (if isY l then 0 else 2)]) ∧ Below w.heap.size w w'

/-- What Take answers. -/
def TakePost (w : World) (l : List Int) (e : Ending) (w' : World) : Prop := e = .returned (.tuple #[qV (if isQ l then qof l else zQ), .int .i64 (if isQ l then 0 else 2)]) ∧ Below w.heap.size w w'

/-- The cells of a list of bytes. -/
theorem cells_at {w : World} {b off : Nat} {l : List Int} (A : At KU w b off l) : ∀ i, i < l.length → w.cell? ⟨b, off + i, none⟩ = some (.int .u8 (l.getD i 0)) := fun i hi => by
  have := A i hi 0 (.int .u8 (l.getD i 0)) rfl
  rwa [show off + i * KU.n + 0 = off + i by show off + i * 1 + 0 = _; omega] at this

/-- Strings of bytes are the same when the bytes are. -/
theorem str_eq {l m : List Int} (h : ∀ x ∈ l, 0 ≤ x ∧ x < 256) (k : ∀ x ∈ m, 0 ≤ x ∧ x < 256) (e : (strOfNums l).toList = (strOfNums m).toList) : l = m := by
  rw [ByteArray.toList_eq, ByteArray.toList_eq, strOfNums_data, strOfNums_data] at e
  induction l generalizing m with
  | nil => cases m with
    | nil => rfl
    | cons y r => cases e
  | cons x l ih => cases m with
    | nil => cases e
    | cons y r =>
      injection e with e1 e2
      have hx := h x (List.mem_cons_self ..)
      have hy := k y (List.mem_cons_self ..)
      have e3 : (UInt8.ofNat x.toNat).toNat = (UInt8.ofNat y.toNat).toNat := congrArg UInt8.toNat e1
      simp only [UInt8.toNat_ofNat'] at e3
      rw [ih (fun z hz => h z (List.mem_cons_of_mem _ hz)) (fun z hz => k z (List.mem_cons_of_mem _ hz)) e2, show x = y by omega]

end Go.Proofs.Ytfbhmhgmebaoaaa.Rq
