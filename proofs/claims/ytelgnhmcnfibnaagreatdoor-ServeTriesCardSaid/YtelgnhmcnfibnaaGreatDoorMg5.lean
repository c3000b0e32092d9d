import Derived.Test.YtelgnhmcnfibnaaGreatDoorMg4
import Derived.Test.YtelgnhmcnfibnaaGreatDoorMg1
import Derived.Test.YtelgnhmcnfibnaaGreatDoorMg3
import Derived.Test.YtelgnhmcnfibnaaGreatDoorShelfK
import Derived.Deep.Cut
import Derived.Test.YtelgnhmcnfibnaaGreatDoorMg2
set_option maxRecDepth 100000
namespace Go.Proofs.YtelgnhmcnfibnaaGreatDoor.Sv
open Go.RowKit Go.Extern.Stop Go.Stop Go.Extern
open Fs (Glob Only typF nilF kinF eleF impF asgF elvF valF mKind mElem mImp mAsg rlm rls isTypeOf)
open Fl (row_cell row_frozen)
def sil (n e:Int):Value:=.agg #[.int .i64 n,.iface 28 (.int .i64 e)]
theorem valPS (t:Addr) (w:World):(valF #[.iface 99 (.pointer (some t))]).run Tryz.prog w = .ok (.agg #[.pointer (some ⟨1,99,none⟩),.pointer (some ⟨w.heap.size,0,none⟩),.int .u64 150]) (w.alloc (.cells #[.pointer (some t)] 99)):=by kernel_rfl
theorem valS (n e:Int) (w:World):(valF #[.iface 97 (sil n e)]).run Tryz.prog w = .ok (.agg #[.pointer (some ⟨1,97,none⟩),.pointer (some ⟨w.heap.size,0,none⟩),.int .u64 153]) (w.alloc (.cells #[.int .i64 n,.iface 28 (.int .i64 e)] 97)):=by kernel_rfl
theorem typPS (a:Addr) (w:World):(typF #[.agg #[.pointer (some ⟨1,99,none⟩),.pointer (some a),.int .u64 150]]).run Tryz.prog w = .ok (.iface 135 (.agg #[.pointer (some ⟨1,99,none⟩)])) w:=by kernel_rfl
theorem kindPS (w:World):(kinF #[.pointer (some ⟨1,99,none⟩)]).run Tryz.prog w = .ok (.int .u8 22) w:=by kernel_rfl
theorem kindS (w:World):(kinF #[.pointer (some ⟨1,97,none⟩)]).run Tryz.prog w = .ok (.int .u8 25) w:=by kernel_rfl
theorem elemPS (w:World):(eleF #[.agg #[.pointer (some ⟨1,99,none⟩)]]).run Tryz.prog w = .ok (.iface 135 (.agg #[.pointer (some ⟨1,97,none⟩)])) w:=by kernel_rfl
theorem impS (w:World):(impF #[.agg #[.pointer (some ⟨1,97,none⟩)],.iface 135 (.agg #[.pointer (some ⟨1,75,none⟩)])]).run Tryz.prog w = .ok (.bool true) w:=by kernel_rfl
theorem asgS (w:World):(asgF #[.agg #[.pointer (some ⟨1,97,none⟩)],.iface 135 (.agg #[.pointer (some ⟨1,97,none⟩)])]).run Tryz.prog w = .ok (.bool true) w:=by kernel_rfl
theorem isTypeOfS (v:Value) (w:World):(Extern.ReflectliteType.typeOf #[.iface 97 v]).run Tryz.prog w = .ok (.iface 135 (.agg #[.pointer (some ⟨1,97,none⟩)])) w:=by kernel_rfl
theorem partsPS (a:Addr) (w:World):(ReflectliteValue.parts (.agg #[.pointer (some ⟨1,99,none⟩),.pointer (some a),.int .u64 150])).run Tryz.prog w = .ok (some (99,a,150)) w:=by kernel_rfl
theorem nilPS (a p:Addr) (W:World) (ha:W.cell? a=some (.pointer (some p))):(nilF #[.agg #[.pointer (some ⟨1,99,none⟩),.pointer (some a),.int .u64 150]]).run Tryz.prog W = .ok (.bool false) W:=by
 unfold nilF;rw [rlm];simp only [Sem.run_bind,partsPS,Result.andThen]
 simp [ReflectliteValue.isNil,loadVar,isAgg,underlying,Tryz.underlying99,ha,Result.andThen]
theorem elemOfPS (w:World):(Rtype.elem? 99).run Tryz.prog w = .ok (some 97) w:=by kernel_rfl
theorem mkS (p:Addr) (w:World):(ReflectliteValue.mk 97 p ReflectliteValue.flagAddr).run Tryz.prog w = .ok (.agg #[.pointer (some ⟨1,97,none⟩),.pointer (some p),.int .u64 409]) w:=by kernel_rfl
theorem elvPS (a p:Addr) (W:World) (ha:W.cell? a=some (.pointer (some p))):(elvF #[.agg #[.pointer (some ⟨1,99,none⟩),.pointer (some a),.int .u64 150]]).run Tryz.prog W = .ok (.agg #[.pointer (some ⟨1,97,none⟩),.pointer (some p),.int .u64 409]) W:=by
 unfold elvF;rw [rlm];simp only [Sem.run_bind,partsPS,Result.andThen]
 simp [ReflectliteValue.elem,loadVar,isAgg,underlying,Tryz.underlying99,ha,Result.andThen,elemOfPS,mkS]
theorem partsSa (a:Addr) (w:World):(ReflectliteValue.parts (.agg #[.pointer (some ⟨1,97,none⟩),.pointer (some a),.int .u64 409])).run Tryz.prog w = .ok (some (97,a,409)) w:=by kernel_rfl
theorem partsS (a:Addr) (w:World):(ReflectliteValue.parts (.agg #[.pointer (some ⟨1,97,none⟩),.pointer (some a),.int .u64 153])).run Tryz.prog w = .ok (some (97,a,153)) w:=by kernel_rfl
theorem directS (w:World):(Rtype.directlyAssignable 97 97).run Tryz.prog w = .ok true w:=by kernel_rfl
theorem setS (tb g:Nat) (n e:Int) (u0 u1:Value) (W:World) (hb:W.heap[g]? = some (.cells #[.int .i64 n,.iface 28 (.int .i64 e)] 97 (0,0))) (ht:W.heap[tb]? = some (.cells #[u0,u1] 97 (0,0))) :
 (ReflectliteValue.set #[.agg #[.pointer (some ⟨1,97,none⟩),.pointer (some ⟨tb,0,none⟩),.int .u64 409],.agg #[.pointer (some ⟨1,97,none⟩),.pointer (some ⟨g,0,none⟩),.int .u64 153]]).run Tryz.prog W
   = .ok (.tuple #[]) ((W.setCell ⟨tb,0,none⟩ (.int .i64 n)).setCell ⟨tb,1,none⟩ (.iface 28 (.int .i64 e))):=by
 have ld:=run_loadVar_row (P:=Tryz.prog) W g 97 97 _ (0,0) _ hb Tryz.underlying97 rfl (by show _=some 2;kernel_rfl);have c0:W.cell? ⟨tb,0,none⟩=some u0:=row_cell ht 0;have f0:=row_frozen ht 0;have ht2:(W.setCell ⟨tb,0,none⟩ (.int .i64 n)).heap[tb]? = some (.cells #[.int .i64 n,u1] 97 (0,0)):=by
  rw [Rw.heap_setCell_same (j:=0) ht (.int .i64 n)]
  simp
 have c1:(W.setCell ⟨tb,0,none⟩ (.int .i64 n)).cell? ⟨tb,1,none⟩=some u1:=row_cell ht2 1;have f1:=row_frozen ht2 1;rw [rls];simp only [Sem.run_bind,partsSa,partsS,Result.andThen]
 simp [ReflectliteValue.flagAddr,ld,Result.andThen,directS,storeVar,Value.cells,storeCells,Addr.add]
 rw [run_store Tryz.prog W ⟨tb,0,none⟩ _ _ (by rfl)]
 simp [c0,f0]
 rw [run_store Tryz.prog _ ⟨tb,1,none⟩ _ _ (by rfl)]
 simp [c1,f1]
def AsPost (w:World) (tb:Nat) (e:Ending) (w':World):Prop:=e = .returned (.bool true)∧Only (fun k=>k=tb) w w'
set_option maxHeartbeats 4000000 in
theorem as_loop (n e:Int) (tb b:Nat) (w:World) (hb:w.cell? ⟨b,0,none⟩=some (.pointer (some ⟨tb,0,none⟩))) (ht:w.heap[tb]? = some (.cells #[.int .i64 0,.nilIface] 97 (0,0))) :
 Calls Tryz.prog 56 #[.iface 97 (sil n e),.iface 99 (.pointer (some ⟨tb,0,none⟩)),.agg #[.pointer (some ⟨1,99,none⟩),.pointer (some ⟨b,0,none⟩),.int .u64 150],.iface 135 (.agg #[.pointer (some ⟨1,97,none⟩)])] w (AsPost w tb):=by
 have h42:=@run_callFunc_extern Tryz.prog 64 _ Extern.ReflectliteType.typeOf Tryz.func64 (by kernel_rfl) (by kernel_rfl) (by kernel_rfl) (by kernel_rfl);have h102:=@run_callFunc_extern Tryz.prog 120 _ asgF Tryz.func120 (by kernel_rfl) (by kernel_rfl) (by kernel_rfl) (by kernel_rfl);have h60:=@run_callFunc_extern Tryz.prog 65 _ elvF Tryz.func65 (by kernel_rfl) (by kernel_rfl) (by kernel_rfl) (by kernel_rfl);have h50:=@run_callFunc_extern Tryz.prog 53 _ valF Tryz.func53 (by kernel_rfl) (by kernel_rfl) (by kernel_rfl) (by kernel_rfl);have h61:=@run_callFunc_extern Tryz.prog 66 _ ReflectliteValue.set Tryz.func66 (by kernel_rfl) (by kernel_rfl) (by kernel_rfl) (by kernel_rfl);have tS:=isTypeOfS;have mA:=mAsg;have aS:=asgS;have vS:=valS;have HT:=Lib.hid ht;have B0:=Lib.hid ((Below.refl w.heap.size w).alloc (Nat.le_refl _) (.cells #[.pointer (some ⟨1,99,none⟩),.pointer (some ⟨b,0,none⟩),.int .u64 150] 117));have hbl:=World.block_lt_of_cell? _ _ hb;have el:=elvPS ⟨b,0,none⟩ ⟨tb,0,none⟩ (w.alloc (.cells #[.pointer (some ⟨1,99,none⟩),.pointer (some ⟨b,0,none⟩),.int .u64 150] 117)) ((B0.out.cell hbl).trans hb);have T1:=(B0.out.block tb (lt_of_block ht)).trans ht;clear hb ht hbl;have T2:=(Below.heap_alloc (w.alloc (.cells #[.pointer (some ⟨1,99,none⟩),.pointer (some ⟨b,0,none⟩),.int .u64 150] 117)) (.cells #[.int .i64 n,.iface 28 (.int .i64 e)] 97) tb (lt_of_block T1)).trans T1;have NW:=heap_alloc_new (w.alloc (.cells #[.pointer (some ⟨1,99,none⟩),.pointer (some ⟨b,0,none⟩),.int .u64 150] 117)) (.cells #[.int .i64 n,.iface 28 (.int .i64 e)] 97);have st:=setS tb _ n e (.int .i64 0) .nilIface _ NW T2;have hz:(w.alloc (.cells #[.pointer (some ⟨1,99,none⟩),.pointer (some ⟨b,0,none⟩),.int .u64 150] 117)).heap.size=w.heap.size+1:=by simp
 rw [hz] at st;have RES:Hid (AsPost w tb (.returned (.bool true)) (((((w.alloc (.cells #[.pointer (some ⟨1,99,none⟩),.pointer (some ⟨b,0,none⟩),.int .u64 150] 117)).alloc (.cells #[.int .i64 n,.iface 28 (.int .i64 e)] 97)).setCell ⟨tb,0,none⟩ (.int .i64 n))).setCell ⟨tb,1,none⟩ (.iface 28 (.int .i64 e)))) :=
  Lib.hid ⟨rfl,((Only.of_below (B0.out.alloc B0.out.size _)).trans (Only.set (fun k=>k=tb) _ (a:=⟨tb,0,none⟩) rfl _) fun _ _ g=>g).trans (Only.set (fun k=>k=tb) _ (a:=⟨tb,1,none⟩) rfl _) fun _ _ g=>g⟩
 clear T1 T2 NW hz B0 HT;unfold sil at *
 go_enter Tryz.func56,Tryz.ntmps56
 go_wp2;refine wp_loop_rounds 1 ?_;rw [rounds_succ];go_wp2
 go_ret
 exact RES.out
set_option maxHeartbeats 4000000 in
theorem as_silent (n e:Int) (tb:Nat) (w:World) (hg:Glob w) (ht:w.heap[tb]? = some (.cells #[.int .i64 0,.nilIface] 97 (0,0))) :
 Calls Tryz.prog 38 #[.iface 97 (sil n e),.iface 99 (.pointer (some ⟨tb,0,none⟩))] w (AsPost w tb):=by
 have h50:=@run_callFunc_extern Tryz.prog 53 _ valF Tryz.func53 (by kernel_rfl) (by kernel_rfl) (by kernel_rfl) (by kernel_rfl);have h51:=@run_callFunc_extern Tryz.prog 54 _ typF Tryz.func54 (by kernel_rfl) (by kernel_rfl) (by kernel_rfl) (by kernel_rfl);have h52:=@run_callFunc_extern Tryz.prog 55 _ nilF Tryz.func55 (by kernel_rfl) (by kernel_rfl) (by kernel_rfl) (by kernel_rfl);have h95:=@run_callFunc_extern Tryz.prog 110 _ kinF Tryz.func110 (by kernel_rfl) (by kernel_rfl) (by kernel_rfl) (by kernel_rfl);have h104:=@run_callFunc_extern Tryz.prog 122 _ eleF Tryz.func122 (by kernel_rfl) (by kernel_rfl) (by kernel_rfl) (by kernel_rfl);have h105:=@run_callFunc_extern Tryz.prog 123 _ impF Tryz.func123 (by kernel_rfl) (by kernel_rfl) (by kernel_rfl) (by kernel_rfl);have f6:=valPS;have f7:=typPS;have mK:=mKind;have mE:=mElem;have mI:=mImp;have kP:=kindPS;have kE:=kindS;have eP:=elemPS;have iE:=impS;have hlt:0 < w.heap.size:=World.block_lt_of_cell? _ _ hg;have htl:=lt_of_block ht;have B2:Below w.heap.size w ((w.alloc (.cells #[.pointer (some ⟨tb,0,none⟩)] 99)).alloc (.cells #[.pointer (some ⟨1,99,none⟩),.pointer (some ⟨w.heap.size,0,none⟩),.int .u64 150] 117)):=((Below.refl w.heap.size w).alloc (Nat.le_refl _) _).alloc (by simp) _;have n8:=nilPS ⟨w.heap.size,0,none⟩ ⟨tb,0,none⟩ ((w.alloc (.cells #[.pointer (some ⟨tb,0,none⟩)] 99)).alloc (.cells #[.pointer (some ⟨1,99,none⟩),.pointer (some ⟨w.heap.size,0,none⟩),.int .u64 150] 117)) (by simp);have hg2:((w.alloc (.cells #[.pointer (some ⟨tb,0,none⟩)] 99)).alloc (.cells #[.pointer (some ⟨1,99,none⟩),.pointer (some ⟨w.heap.size,0,none⟩),.int .u64 150] 117)).cell? ⟨0,0,none⟩=some (.iface 135 (.agg #[.pointer (some ⟨1,75,none⟩)])):=hg.below B2;have AL:=Lib.hid (as_loop n e tb w.heap.size ((w.alloc (.cells #[.pointer (some ⟨tb,0,none⟩)] 99)).alloc (.cells #[.pointer (some ⟨1,99,none⟩),.pointer (some ⟨w.heap.size,0,none⟩),.int .u64 150] 117)) (by simp) ((B2.block tb htl).trans ht));have BB:=Lib.hid B2;clear hg ht B2 htl;unfold sil at *
 go_enter Tryz.func38,Tryz.ntmps38
 go_wp2_with (go_at_call 56;refine AL.out.mono ?_;rintro ev w1 ⟨rfl,o1⟩)
 go_ret
 exact ⟨rfl,(Only.of_below BB.out).trans o1 fun _ _ g=>g⟩
set_option maxHeartbeats 1000000 in
theorem as_none (v:Value) (w:World):Calls Tryz.prog 38 #[.nilIface,v] w fun e w'=>e = .returned (.bool false)∧Below w.heap.size w w':=by
 go_enter Tryz.func38,Tryz.ntmps38
 go_wp2
 go_ret
 exact ⟨rfl,Below.refl _ _⟩
end Go.Proofs.YtelgnhmcnfibnaaGreatDoor.Sv
namespace Go.Proofs.YtelgnhmcnfibnaaGreatDoor.Sv
open Go.RowKit Go.Maps
open Fl (R4 z4 rec4 arr4 okR row_cell row_frozen sto4 sto4_below okR_z)
open Fs (Abs Only Fx results_rec Glob)
attribute [local irreducible] Sd.wpSd wpQuiet
section
variable (z:Bool) (A:Abs) (n:Int) (q:R4) (b:B5)
def rpB:B5:=if obE z A n q b=0 then datB (obV z A n q b) else z5
def rpX:Value:=if obE z A n q b=0 then .nilIface else .iface 97 (sil n (obE z A n q b))
def rpO:Bool:=decide (obE z A n q b=0)
end
def RpPost (w:World) (p:Value) (F:Nat→Prop) (A:Abs) (d:Int) (z:Bool) (n:Int) (q:R4) (b:B5) (e:Ending) (w':World):Prop :=
 e = .returned (.tuple #[val5 (rpB z A n q b),rpX z A n q b])∧Nd w' p (Fx F w w') (obA z A n q b) (obD z A n q b d) z∧Only F w w'
def SvPost (w:World) (p:Value) (F:Nat→Prop) (A:Abs) (d:Int) (z:Bool) (n:Int) (q:R4) (b:B5) (e:Ending) (w':World):Prop :=
 e = .returned (.tuple #[val5 (rpB z A n q b),.bool (rpO z A n q b)])∧Nd w' p (Fx F w w') (obA z A n q b) (obD z A n q b d) z∧Only F w w'
structure Rp0 (w:World) (q:R4) (b:B5) (W:World):Prop where
 a:W.heap[w.heap.size]? = some (.cells (arr4 q) 25 (0,0))
 b:W.heap[w.heap.size+1]? = some (.cells (arr5 b) 27 (0,0))
 r:W.heap[w.heap.size+2]? = some (.cells (arr5 z5) 27 (0,0))
 bel:Below w.heap.size w W
 siz:w.heap.size+3≤W.heap.size
theorem Rp0.mono {w W W':World} {q:R4} {b:B5} (h:Rp0 w q b W) (k:Below W.heap.size W W'):Rp0 w q b W' :=
 have s:=h.siz
 ⟨(k.block _ (by omega)).trans h.a,(k.block _ (by omega)).trans h.b,(k.block _ (by omega)).trans h.r,h.bel.trans (k.mono h.bel.size),Nat.le_trans h.siz k.size⟩
theorem rp0_of (w:World) (q:R4) (b:B5):Rp0 w q b (((w.alloc (.cells (arr4 q) 25)).alloc (.cells (arr5 b) 27)).alloc (.cells (arr5 z5) 27)):=by
 have h1:∀ o,(w.alloc o).heap.size=w.heap.size+1:=fun o=>by simp
 have h2:∀ o o',((w.alloc o).alloc o').heap.size=w.heap.size+2:=fun o o'=>by simp
 have r1:=heap_alloc_new w (.cells (arr4 q) 25);have r2:=heap_alloc_new (w.alloc (.cells (arr4 q) 25)) (.cells (arr5 b) 27);have r3:=heap_alloc_new ((w.alloc (.cells (arr4 q) 25)).alloc (.cells (arr5 b) 27)) (.cells (arr5 z5) 27);rw [h1] at r2;rw [h2] at r3
 exact ⟨(Below.heap_alloc _ _ _ (by rw [h2];omega)).trans ((Below.heap_alloc _ _ _ (by rw [h1];omega)).trans r1),(Below.heap_alloc _ _ _ (by rw [h2];omega)).trans r2,r3,
  (((Below.refl w.heap.size w).alloc (Nat.le_refl _) _).alloc (by rw [h1];omega) _).alloc (by rw [h2];omega) _,by simp⟩
set_option maxHeartbeats 2000000 in
theorem reply_any {w:World} {p:Value} {F:Nat→Prop} {A:Abs} {d:Int} {z:Bool} (N:Nd w p F A d z) (hd:0≤d∧d < 1000000) (n:Int) (q:R4) (hq:okR q) (b:B5) (hb:is5 b) :
 Calls Tryz.prog 28 #[p,.int .i64 n,rec4 q,val5 b] w (RpPost w p F A d z n q b):=by
 have S0:Hid (Rp0 w q b (((w.alloc (.cells #[.int .u8 q.1,.int .u8 q.2.1,.int .u8 q.2.2.1,.int .u8 q.2.2.2] 25)).alloc (.cells #[.int .u8 b.1,.int .u8 b.2.1,.int .u8 b.2.2.1,.int .u8 b.2.2.2.1,.int .u8 b.2.2.2.2] 27)).alloc (.cells #[.int .u8 0,.int .u8 0,.int .u8 0,.int .u8 0,.int .u8 0] 27))):=Lib.hid (rp0_of w q b);have NN:=Lib.hid N;have OB:=Lib.hid (fun W (h:Nd W p F A d z)=>obey_any h hd n q hq b hb);have FIN:Hid (∀ v u w',v=rpB z A n q b→u=rpX z A n q b→(Nd w' p (Fx F w w') (obA z A n q b) (obD z A n q b d) z∧Only F w w')→RpPost w p F A d z n q b (.returned (.tuple #[val5 v,u])) w'):=Lib.hid fun v u w' h1 h2 h=>by subst h1 h2;exact ⟨rfl,h⟩
 unfold rpB rpX at FIN;unfold ObPost at OB;clear N hd hq hb;generalize obV z A n q b=V at *;generalize hE:obE z A n q b=E at *;clear hE;generalize obA z A n q b=A' at *;generalize obD z A n q b d=D' at *;unfold rec4 val5 at *
 go_enter Tryz.func28,Tryz.ntmps28
 go_wp2_with fail;generalize ((w.alloc (.cells #[.int .u8 q.1,.int .u8 q.2.1,.int .u8 q.2.2.1,.int .u8 q.2.2.2] 25)).alloc (.cells #[.int .u8 b.1,.int .u8 b.2.1,.int .u8 b.2.2.1,.int .u8 b.2.2.2.1,.int .u8 b.2.2.2.2] 27)).alloc (.cells #[.int .u8 0,.int .u8 0,.int .u8 0,.int .u8 0,.int .u8 0] 27)=W at *;refine (OB.out W (NN.out.below S0.out.bel)).mono ?_;rintro e w2 ⟨rfl,nd,on⟩;have R2:=Lib.hid ((on.block _ (lt_of_block S0.out.r) (fun g=>by have:=NN.out.low _ g;omega)).trans S0.out.r);have L2:Hid (w.heap.size+3≤w2.heap.size):=Lib.hid (Nat.le_trans S0.out.siz on.size);have R3:=Lib.hid ((Below.heap_alloc w2 (.cells #[.int .u8 V.1,.int .u8 V.2.1,.int .u8 V.2.2.1,.int .u8 V.2.2.2] 26) _ (lt_of_block R2.out)).trans R2.out);have V3:Hid ((w2.alloc (.cells #[.int .u8 V.1,.int .u8 V.2.1,.int .u8 V.2.2.1,.int .u8 V.2.2.2] 26)).heap[w2.heap.size]? = some (.cells (arr4 V) 26 (0,0))):=Lib.hid (heap_alloc_new w2 _);have K3:Hid (Only (fun j=>w.heap.size≤j∧j < W.heap.size) w2 (w2.alloc (.cells #[.int .u8 V.1,.int .u8 V.2.1,.int .u8 V.2.2.1,.int .u8 V.2.2.2] 26))):=Lib.hid (Only.of_below ((Below.refl w2.heap.size w2).alloc (Nat.le_refl _) _));have DONE:Hid (∀ w',Only (fun j=>w.heap.size≤j∧j < W.heap.size) w2 w'→Nd w' p (Fx F w w') A' D' z∧Only F w w'):=Lib.hid fun w' k=>NN.out.fin S0.out.bel nd on k;have HW:Hid (w.heap.size+2 < W.heap.size):=Lib.hid S0.out.siz;clear nd on OB NN S0 R2;go_upto_region 2 with fail;generalize w2.alloc (.cells #[.int .u8 V.1,.int .u8 V.2.1,.int .u8 V.2.2.1,.int .u8 V.2.2.2] 26)=W3 at *;generalize hg3:w2.heap.size=g3 at *;clear hg3
 by_cases h:E=0
 ·subst h
  have v0:W3.cell? ⟨g3,0,none⟩=some (.int .u8 V.1):=row_cell V3.out 0;have v1:W3.cell? ⟨g3,1,none⟩=some (.int .u8 V.2.1):=row_cell V3.out 1;have v2:W3.cell? ⟨g3,2,none⟩=some (.int .u8 V.2.2.1):=row_cell V3.out 2;have v3:W3.cell? ⟨g3,3,none⟩=some (.int .u8 V.2.2.2):=row_cell V3.out 3;have DA:=data_any W3 V;generalize datB V=B at *;unfold rec4 val5 at DA;have HDA:=Lib.hid DA;clear DA;go_wp2_with fail;clear v0 v1 v2 v3;refine HDA.out.mono ?_;rintro e w4 ⟨rfl,bw⟩;have R4:=(bw.block _ (lt_of_block R3.out)).trans R3.out;have RR:=Lib.hid (st5_row R4 B);have K4:=Lib.hid (DONE.out _ ((K3.out.then bw).trans (st5_only w4 (w.heap.size+2) B) fun j _ e=>by have:=HW.out;subst e;exact ⟨by omega,by omega⟩));have d0:w4.cell? ⟨w.heap.size+2,0,none⟩=some (.int .u8 0):=row_cell R4 0;have d1:w4.cell? ⟨w.heap.size+2,1,none⟩=some (.int .u8 0):=row_cell R4 1;have d2:w4.cell? ⟨w.heap.size+2,2,none⟩=some (.int .u8 0):=row_cell R4 2;have d3:w4.cell? ⟨w.heap.size+2,3,none⟩=some (.int .u8 0):=row_cell R4 3;have d4:w4.cell? ⟨w.heap.size+2,4,none⟩=some (.int .u8 0):=row_cell R4 4;have k0:=row_frozen R4 0;have k1:=row_frozen R4 1;have k2:=row_frozen R4 2;have k3:=row_frozen R4 3;have k4:=row_frozen R4 4;clear bw R3 V3 K3 HDA DONE R4;go_wp2
  (try simp only [Exit.inBlock,Exit.then])
  exact bodyPost_ret (results_b5 (p:=8) (r:=9) rfl _ _ (w.heap.size+2) B .nilIface rfl rfl RR.out) rfl (FIN.out B .nilIface _ (by simp) (by simp) K4.out)
 ·have HE:=Lib.hid h
  have RR:=Lib.hid (st5_row R3.out z5);have K4:=Lib.hid (DONE.out _ (K3.out.trans (st5_only W3 (w.heap.size+2) z5) fun j _ e=>by have:=HW.out;subst e;exact ⟨by omega,by omega⟩));have d0:W3.cell? ⟨w.heap.size+2,0,none⟩=some (.int .u8 0):=row_cell R3.out 0;have d1:W3.cell? ⟨w.heap.size+2,1,none⟩=some (.int .u8 0):=row_cell R3.out 1;have d2:W3.cell? ⟨w.heap.size+2,2,none⟩=some (.int .u8 0):=row_cell R3.out 2;have d3:W3.cell? ⟨w.heap.size+2,3,none⟩=some (.int .u8 0):=row_cell R3.out 3;have d4:W3.cell? ⟨w.heap.size+2,4,none⟩=some (.int .u8 0):=row_cell R3.out 4;have k0:=row_frozen R3.out 0;have k1:=row_frozen R3.out 1;have k2:=row_frozen R3.out 2;have k3:=row_frozen R3.out 3;have k4:=row_frozen R3.out 4;clear R3 V3 K3 DONE;go_wp2
  (try simp only [Exit.inBlock,Exit.then])
  exact bodyPost_ret (results_b5 (p:=8) (r:=9) rfl _ _ (w.heap.size+2) z5 (.iface 97 (sil n E)) rfl rfl RR.out) rfl (FIN.out z5 _ _ (if_neg HE.out).symm (if_neg HE.out).symm K4.out)
set_option maxHeartbeats 2000000 in
theorem serve_any {w:World} {p:Value} {F:Nat→Prop} {A:Abs} {d:Int} {z:Bool} (N:Nd w p F A d z) (hd:0≤d∧d < 1000000) (n:Int) (q:R4) (hq:okR q) (b:B5) (hb:is5 b) :
 Calls Tryz.prog 10 #[p,.int .i64 n,rec4 q,val5 b] w (SvPost w p F A d z n q b):=by
 have S0:Hid (Rp0 w q b (((w.alloc (.cells #[.int .u8 q.1,.int .u8 q.2.1,.int .u8 q.2.2.1,.int .u8 q.2.2.2] 25)).alloc (.cells #[.int .u8 b.1,.int .u8 b.2.1,.int .u8 b.2.2.1,.int .u8 b.2.2.2.1,.int .u8 b.2.2.2.2] 27)).alloc (.cells #[.int .u8 0,.int .u8 0,.int .u8 0,.int .u8 0,.int .u8 0] 27))):=Lib.hid (rp0_of w q b);have NN:=Lib.hid N;have RP:=Lib.hid (fun W (h:Nd W p F A d z)=>reply_any h hd n q hq b hb);have FIN:Hid (∀ u w',u=rpO z A n q b→(Nd w' p (Fx F w w') (obA z A n q b) (obD z A n q b d) z∧Only F w w')→SvPost w p F A d z n q b (.returned (.tuple #[val5 (rpB z A n q b),.bool u])) w'):=Lib.hid fun u w' h2 h=>by subst h2;exact ⟨rfl,h⟩
 have XO:(rpX z A n q b = .nilIface∧rpO z A n q b=true)∨(∃ T v,rpX z A n q b = .iface T v∧rpO z A n q b=false):=by
  unfold rpX rpO
  by_cases h:obE z A n q b=0
  ·rw [if_pos h];exact .inl ⟨rfl,decide_eq_true h⟩
  ·rw [if_neg h];exact .inr ⟨_,_,rfl,decide_eq_false h⟩
 unfold RpPost at RP;clear N hd hq hb;generalize rpB z A n q b=B at *;generalize rpX z A n q b=X at *;generalize rpO z A n q b=O at *;generalize obA z A n q b=A' at *;generalize obD z A n q b d=D' at *;unfold rec4 val5 at *
 go_enter Tryz.func10,Tryz.ntmps10
 go_wp2_with fail;generalize ((w.alloc (.cells #[.int .u8 q.1,.int .u8 q.2.1,.int .u8 q.2.2.1,.int .u8 q.2.2.2] 25)).alloc (.cells #[.int .u8 b.1,.int .u8 b.2.1,.int .u8 b.2.2.1,.int .u8 b.2.2.2.1,.int .u8 b.2.2.2.2] 27)).alloc (.cells #[.int .u8 0,.int .u8 0,.int .u8 0,.int .u8 0,.int .u8 0] 27)=W at *;refine (RP.out W (NN.out.below S0.out.bel)).mono ?_;rintro e w2 ⟨rfl,nd,on⟩;have R2:=(on.block _ (lt_of_block S0.out.r) (fun g=>by have:=NN.out.low _ g;omega)).trans S0.out.r;have HW:Hid (w.heap.size+2 < W.heap.size):=Lib.hid S0.out.siz;have DONE:Hid (∀ w',Only (fun j=>w.heap.size≤j∧j < W.heap.size) w2 w'→Nd w' p (Fx F w w') A' D' z∧Only F w w'):=Lib.hid fun w' k=>NN.out.fin S0.out.bel nd on k;have R3:=Lib.hid (st5_row R2 B);have K3:Hid (Only (fun j=>w.heap.size≤j∧j < W.heap.size) w2 (sto5 w2 (w.heap.size+2) B)):=Lib.hid ((st5_only w2 (w.heap.size+2) B).mono fun j _ e=>by have:=HW.out;subst e;exact ⟨by omega,by omega⟩);have d0:w2.cell? ⟨w.heap.size+2,0,none⟩=some (.int .u8 0):=row_cell R2 0;have d1:w2.cell? ⟨w.heap.size+2,1,none⟩=some (.int .u8 0):=row_cell R2 1;have d2:w2.cell? ⟨w.heap.size+2,2,none⟩=some (.int .u8 0):=row_cell R2 2;have d3:w2.cell? ⟨w.heap.size+2,3,none⟩=some (.int .u8 0):=row_cell R2 3;have d4:w2.cell? ⟨w.heap.size+2,4,none⟩=some (.int .u8 0):=row_cell R2 4;have k0:=row_frozen R2 0;have k1:=row_frozen R2 1;have k2:=row_frozen R2 2;have k3:=row_frozen R2 3;have k4:=row_frozen R2 4;clear nd on RP NN S0 R2;go_upto_region 2 with fail;clear d0 d1 d2 d3 d4 k0 k1 k2 k3 k4
 show Code.wp _ _ _ _ (sto5 w2 (w.heap.size+2) B)
 generalize sto5 w2 (w.heap.size+2) B=W3 at *;generalize hg:w.heap.size+2=g at *;have HG:=Lib.hid hg;clear hg;have x0:=Sc.cell_in (C:=fun W'=>W'.heap[g]? = some (.cells (arr5 B) 27 (0,0))) (a:=⟨g,0,none⟩) (v:=.int .u8 B.1) (fun W' h=>row_cell h 0);have x1:=Sc.cell_in (C:=fun W'=>W'.heap[g]? = some (.cells (arr5 B) 27 (0,0))) (a:=⟨g,1,none⟩) (v:=.int .u8 B.2.1) (fun W' h=>row_cell h 1);have x2:=Sc.cell_in (C:=fun W'=>W'.heap[g]? = some (.cells (arr5 B) 27 (0,0))) (a:=⟨g,2,none⟩) (v:=.int .u8 B.2.2.1) (fun W' h=>row_cell h 2);have x3:=Sc.cell_in (C:=fun W'=>W'.heap[g]? = some (.cells (arr5 B) 27 (0,0))) (a:=⟨g,3,none⟩) (v:=.int .u8 B.2.2.2.1) (fun W' h=>row_cell h 3);have x4:=Sc.cell_in (C:=fun W'=>W'.heap[g]? = some (.cells (arr5 B) 27 (0,0))) (a:=⟨g,4,none⟩) (v:=.int .u8 B.2.2.2.2) (fun W' h=>row_cell h 4);have ne:Nonempty (Sc.In (fun W'=>W'.heap[g]? = some (.cells (arr5 B) 27 (0,0)))):=⟨⟨W3,R3.out⟩⟩
 rcases XO with ⟨rfl,rfl⟩ | ⟨T,v,rfl,rfl⟩
 all_goals
  refine Sc.start (fun W'=>W'.heap[g]? = some (.cells (arr5 B) 27 (0,0))) [(false,0),(false,1),(false,2),(true,3),(false,4)] (by kernel_rfl) (by kernel_rfl) (by kernel_rfl) R3.out ?_;dsimp only [Sd.picks,List.getElem?_cons_succ,List.getElem?_cons_zero]
  repeat (refine Sd.lit ?_;quiet_step (fail);refine wpQuiet_nil ?_)
  have R4:Hid (W3.drew.heap[g]? = some (.cells (arr5 B) 27 (0,0))):=R3;have K4:Hid (Only (fun j=>w.heap.size≤j∧j < W.heap.size) w2 W3.drew):=Lib.hid (K3.out.then (Below.refl _ _).drew);clear x0 x1 x2 x3 x4 R3 K3;generalize W3.drew=W4 at *;have R5:=Lib.hid (st5_row R4.out B);have K5:=Lib.hid (DONE.out _ (K4.out.trans (st5_only W4 g B) fun j _ e=>by have:=HW.out;have:=HG.out;subst e;exact ⟨by omega,by omega⟩));have d0:W4.cell? ⟨g,0,none⟩=some (.int .u8 B.1):=row_cell R4.out 0;have d1:W4.cell? ⟨g,1,none⟩=some (.int .u8 B.2.1):=row_cell R4.out 1;have d2:W4.cell? ⟨g,2,none⟩=some (.int .u8 B.2.2.1):=row_cell R4.out 2;have d3:W4.cell? ⟨g,3,none⟩=some (.int .u8 B.2.2.2.1):=row_cell R4.out 3;have d4:W4.cell? ⟨g,4,none⟩=some (.int .u8 B.2.2.2.2):=row_cell R4.out 4;have k0:=row_frozen R4.out 0;have k1:=row_frozen R4.out 1;have k2:=row_frozen R4.out 2;have k3:=row_frozen R4.out 3;have k4:=row_frozen R4.out 4;refine Sd.call (by rfl) (fun K hK=>?_);go_simp;refine hK _ _ (Sc.Cl.of R5.out) ?_;clear hK K d0 d1 d2 d3 d4 k0 k1 k2 k3 k4 R4 K4 DONE
  show Sd.wpSd _ _ _ _ _ _ (sto5 W4 g B)
  generalize sto5 W4 g B=W5 at *
  repeat (refine Sd.lit ?_;quiet_step (fail);refine wpQuiet_nil ?_)
  refine Sd.done ?_;go_wp2
  (try simp only [Exit.inBlock,Exit.then])
  exact bodyPost_ret (results_b5 (p:=8) (r:=9) rfl _ _ g B (.bool _) rfl rfl R5.out) rfl (FIN.out _ _ rfl K5.out)
end Go.Proofs.YtelgnhmcnfibnaaGreatDoor.Sv
namespace Go.Proofs.YtelgnhmcnfibnaaGreatDoor.Fs
open Go.RowKit Go.Maps
open Fl (R4 z4 K4 rec4 rat goodF goodFB okR okL file arr4 sto4 sto4_row sto4_below row_cell row_frozen at4)
open Rw (Rd Ow At)
theorem ret_i {a b:Int} (h:a=b):Ending.returned (.int .i64 a) = .returned (.int .i64 b):=by rw [h]
theorem at3 {w:World} {b off:Nat} {L:List Ent} (h:At E3 w b off L) {i:Nat} {c:Ent} (hc:L[i]? = some c) :
 w.cell? ⟨b,off+i * 3,none⟩=some (.int .i64 c.n)∧w.cell? ⟨b,off+i * 3+1,none⟩=some (.int .i64 c.p)∧w.cell? ⟨b,off+i * 3+2,none⟩=some c.sl:=by
 have hi:=(List.getElem?_eq_some_iff.1 hc).1;have e:L.getD i E3.dft=c:=by rw [List.getD_eq_getElem?_getD,hc];rfl
 exact ⟨h i hi 0 _ (by rw [e];rfl),h i hi 1 _ (by rw [e];rfl),h i hi 2 _ (by rw [e];rfl)⟩
def Ix (L:List Ent) (n q:Int):Prop:=(q = -1∧∀ x∈L,x.n≠n)∨∃ i:Nat,∃ c,q=i∧L[i]? = some c∧c.n=n∧∀ j,j < i→∀ e,L[j]? = some e→e.n≠n
theorem ix_none {L:List Ent} {n:Int} (h:look Ent.n n L=none):Ix L n (-1):=.inl ⟨rfl,look_none.1 h⟩
theorem ix_some {L:List Ent} {n:Int} {c:Ent} (hs:Srt Ent.n L) (h:look Ent.n n L=some c):∃ i:Nat,L[i]? = some c∧Ix L n i:=by
 obtain ⟨hm,hn⟩:=look_some h;obtain ⟨i,hi⟩:=List.getElem?_of_mem hm;refine ⟨i,hi,.inr ⟨i,c,rfl,hi,hn,fun j hj e he=>?_⟩⟩;obtain ⟨hi1,hi2⟩:=List.getElem?_eq_some_iff.1 hi;obtain ⟨hj1,hj2⟩:=List.getElem?_eq_some_iff.1 he;have:=List.pairwise_iff_getElem.1 hs j i hj1 hi1 hj;rw [hi2,hj2] at this
 omega
set_option maxHeartbeats 1000000 in
theorem rix_any {w:World} {r:Nat} {F:Nat→Prop} {v:Value} {L:List Ent} {d:Int} (R:Rst w r F v L d) {n q:Int} (hq:Ix L n q) :
 Calls Tryz.prog 45 #[.pointer (some ⟨r,0,none⟩),.int .i64 n] w fun e w'=>e = .returned (.int .i64 q)∧Below w.heap.size w w':=by
 have c0:w.cell? ⟨r,0,none⟩=some v:=row_cell R.row 0;have hlen:=R.len;obtain ⟨a,cap,rfl,_,_,h3⟩:=R.list.rd;have H3:=Lib.hid h3;have HQ:=Lib.hid hq;clear R h3 hq;generalize hn:L.length=N at *;have HN:=Lib.hid hn;have C0:=Lib.hid c0;clear hn c0
 go_enter Tryz.func45,Tryz.ntmps45
 go_wp2
 go_loopw [5] (fun i wr=>∃ k:Nat,k≤N∧i = .int .i64 k∧Hid (∀ j,j < k→∀ e,L[j]? = some e→e.n≠n)∧Hid (Below w.heap.size w wr)) (fun i _=>N - (intOf i).toNat)
 case atStart=>exact ⟨0,Nat.zero_le _,rfl,fun j hj=>by omega,Below.refl _ _⟩
 case round =>
  obtain ⟨k,hk,rfl,hb,B⟩:=hrel;have c0:=(B.out.cell (World.block_lt_of_cell? _ _ C0.out)).trans C0.out
  by_cases hlt:k < N
  ·have hkL:k < L.length:=by have:=HN.out;omega
   obtain ⟨c,hc⟩:∃ c,L[k]? = some c:=⟨_,List.getElem?_eq_getElem hkL⟩;obtain ⟨b,off,rfl,hA⟩:=H3.out (by omega);obtain ⟨x0,_,_⟩:=at3 (hA.below B.out) hc
   by_cases he:c.n=n
   ·have E:Hid (q=k):=by
     rcases HQ.out with ⟨_,h⟩ | ⟨i,c',e1,h1,h2,h3⟩
     ·exact absurd he (h c (List.mem_of_getElem? hc))
     ·have:i=k:=by
       rcases Nat.lt_trichotomy i k with h | h | h
       ·exact absurd h2 (hb.out i h c' h1)
       ·exact h
       ·exact absurd he (h3 k h c hc)
      show q=k
      rw [e1,this]
    clear hc hkL hA;generalize c.n=cn at *;subst he;go_wp2
    go_ret
    exact ⟨ret_i E.out.symm,B.out⟩
   ·have NB:Hid (∀ j,j < k+1→∀ e,L[j]? = some e→e.n≠n):=fun j hj e hje=>by
     by_cases ej:j=k
     ·subst ej
      rw [hc] at hje;obtain rfl:=Option.some.inj hje;exact he
     ·exact hb.out j (by omega) e hje
    clear hc hkL hA;generalize c.n=cn at *;go_wp2
    go_roundw
    case rel=>exact ⟨k+1,by omega,by go_num,NB,B⟩
    case measure=>simp [intOf];omega
  ·obtain rfl:k=N:=by omega
   have E:Hid (q = -1):=by
    rcases HQ.out with ⟨h,_⟩ | ⟨i,c',e1,h1,h2,h3⟩
    ·exact h
    ·have:=(List.getElem?_eq_some_iff.1 h1).1
     exact absurd h2 (hb.out i (by have:=HN.out;omega) c' h1)
   go_wp2
   go_ret
   exact ⟨ret_i E.out.symm,B.out⟩
theorem srtL {L:List Ent} (h:OkA (L.map Ent.abs)):Srt Ent.n L:=(map_srt (κ:=Ent.n) (κ':=key) abs_key).1 h.srt
end Go.Proofs.YtelgnhmcnfibnaaGreatDoor.Fs
namespace Go.Proofs.YtelgnhmcnfibnaaGreatDoor.Fs
open Go.RowKit Go.Maps Go.Sort Go.Shelf
open Rw (Rd Ow At)
theorem sortsL (m:Nat):AnyZI.SortsIn Tryz.prog sortedL_ren Fence.wide m :=
 ⟨fun blk off cap ss W hH hblk hsz=>callsIn_wide.2 (AnyM.slices_Sort_int sortL blk off cap ss W hH hblk hsz),
  fun p cap W=>callsIn_wide.2 (AnyM.slices_Sort_int_none sortL p cap W)⟩
theorem keys_any (mb:Option Nat) (W:World):Calls Tryz.prog 35 #[.map mb] W fun e w'=>e = .returned (.func (.func 51) #[] #[.pointer (some ⟨W.heap.size,0,none⟩)])∧w'=W.alloc (.cells #[.map mb] 91) :=
 (callsIn_wide (n:=5)).1 (AnyZI.keys_in keysL Fence.wide 5 trivial rfl mb W)
def KI:Rw.Kind Int:=Rw.int .i64
theorem flat_int:∀ l:List Int,KI.flat l=l.map encZ
 | []=>rfl
 | a :: r=>by
   have:=flat_int r
   show [Value.int .i64 a] ++ KI.flat r=_
   rw [this]
   rfl
theorem keys_dat (C:List Ent):intKeys (dat C)=C.map Ent.n:=by
 show (C.map ent).map (fun p=>Go.intOf p.1)=_
 rw [List.map_map]
 rfl
theorem sort_keys {C:List Ent} (h:Srt Ent.n C) {ss:List Int} (hp:ss.Perm (intKeys (dat C))):ss.mergeSort (fun x y=>decide (x≤y))=C.map Ent.n:=by
 have e:=mergeSort_of_perm_i hp
 show ss.mergeSort leI=_
 rw [e,keys_dat];refine List.mergeSort_of_pairwise ?_;rw [List.pairwise_map];exact h.imp fun h=>by simp only [leI,decide_eq_true_eq];exact Int.le_of_lt h
theorem size_dat (C:List Ent):Maps.size (dat C)=C.length:=by unfold dat Maps.size;simp
def SortPost (w:World) (C:List Ent) (e:Ending) (w':World):Prop:=∃ v,e = .returned v∧Ow KI w' w.heap.size 3 v (C.map Ent.n)∧Below w.heap.size w w'
set_option maxHeartbeats 1000000 in
theorem sorted_any {w:World} {F:Nat→Prop} {mb:Option Nat} {C:List Ent} (M:Mp w F (.map mb) C) (hs:Srt Ent.n C) (hl:C.length≤64) :
 Calls Tryz.prog 34 #[.func (.func 51) #[] #[.pointer (some ⟨w.heap.size,0,none⟩)]] (w.alloc (.cells #[.map mb] 91)) (SortPost w C):=by
 have B0:Below w.heap.size w (w.alloc (.cells #[.map mb] 91)):=(Below.refl w.heap.size w).alloc (Nat.le_refl _) _
 rcases M with ⟨e,rfl⟩ | ⟨b,e,_,hown⟩
 ·obtain rfl:mb=none:=by injection e
  have hseq:SeqGives Fence.wide 2 Tryz.prog 51 #[.pointer (some ⟨w.heap.size,0,none⟩)] encZ (fun ss:List Int=>ss = []) 0 (w.alloc (.cells #[.map none] 91)) :=
   AnyZI.keys_gives_nil (ρ:=keysL_ren) { keysL with } Fence.wide _ trivial rfl w.heap.size _ (by simp) (by simp)
  have cS:=AnyZI.sorted_in sortedL Fence.wide 5 trivial trivial trivial trivial rfl (by omega) (sortsL _) (enters_of Tryz.func50 (by kernel_rfl) rfl) 51 #[.pointer (some ⟨w.heap.size,0,none⟩)] trivial (enters_of Tryz.func51 (by kernel_rfl) rfl) _ 0 (Nat.zero_le _) (by omega) _ hseq;refine ((callsIn_wide (n:=5)).1 cS).mono ?_;rintro e w' ⟨v,ss,rfl,rfl,hrow,hnil,hb⟩;obtain rfl:v = .slice none 0 0:=hnil.2 rfl;exact ⟨_,rfl,Ow.nil _ _ _,B0.trans (hb.mono (by simp))⟩
 ·obtain rfl:mb=some b:=by injection e
  have hbl:=hown.lt;have hseq:SeqGives Fence.wide 2 Tryz.prog 51 #[.pointer (some ⟨w.heap.size,0,none⟩)] encZ (fun ss=>ss.Perm (intKeys (dat C))) (Maps.size (dat C)) (w.alloc (.cells #[.map (some b)] 91)) :=
   AnyZI.keys_gives (ρ:=keysL_ren) { keysL with } Fence.wide _ trivial rfl (by omega) w.heap.size b C.length (dat C) _ (by simp) (by simp) (by
    obtain ⟨es,clock,hb,Ft,hs,hD⟩:=hown
    exact ⟨es,clock,(Below.heap_alloc _ _ b hbl).trans hb,Ft,hs,hD⟩)
  have cS:=AnyZI.sorted_in sortedL Fence.wide 5 trivial trivial trivial trivial rfl (by omega) (sortsL _) (enters_of Tryz.func50 (by kernel_rfl) rfl) 51 #[.pointer (some ⟨w.heap.size,0,none⟩)] trivial (enters_of Tryz.func51 (by kernel_rfl) rfl) _ _ (by rw [size_dat];unfold maxLen;omega) (by rw [size_dat];omega) _ hseq;refine ((callsIn_wide (n:=5)).1 cS).mono ?_;rintro e w' ⟨v,ss,rfl,hS,hrow,hnil,hb⟩;refine ⟨v,rfl,?_,B0.trans (hb.mono (by simp))⟩;have e1:=sort_keys hs hS;have e2:ss.length=(C.map Ent.n).length:=by rw [← keys_dat];exact hS.length_eq
  show w'.ownsRow w.heap.size 3 1 v (C.map Ent.n).length (KI.flat (C.map Ent.n))
  rw [flat_int,← e1,List.length_mergeSort];exact ownsRow_base_a hrow (by simp)
end Go.Proofs.YtelgnhmcnfibnaaGreatDoor.Fs
namespace Go.Proofs.YtelgnhmcnfibnaaGreatDoor.Fs
open Go.RowKit Go.Maps
open Fl (R4 z4 K4 rec4 rat goodF goodFB okR okL file row_cell row_frozen)
open Rw (Rd Ow At)
theorem infoE3:(Tryz.prog.info? 73).map (fun i=>(i.zero,i.size,i.bytes))=some (some (.agg #[.int .i64 0,.int .i64 0,.slice none 0 0]),3,40):=by kernel_rfl
theorem run_buildN (n p:Int) (a:Option Addr) (q cap:Nat) (w:World):(Instr.build 73 #[(0,.int .i64 n),(1,.agg #[.int .i64 p,.slice a q cap])]).run Tryz.prog w = .ok (.agg #[.int .i64 n,.int .i64 p,.slice a q cap]) w:=by kernel_rfl
theorem copied_agg (w:World) (p:Int) (v:Value) (l:List R4) (q:Nat) (R:Rd K4 w v l) (hl:l.length≤260) (hq:l.length=q):Calls Tryz.prog 36 #[.agg #[.int .i64 p,v]] w fun e w'=>∃ a cap,e = .returned (.agg #[.int .i64 p,.slice a q cap])∧Ow K4 w' w.heap.size 26 (.slice a q cap) l∧Below w.heap.size w w' :=
 (copied_any w p v l R hl).mono fun e w' ⟨u,h1,h2,h3⟩=>by
   obtain ⟨a,cap,rfl,_⟩:=h2.slice;rw [hq] at h1 h2;exact ⟨a,cap,h1,h2,h3⟩
theorem ow_far {α:Type} {K:Rw.Kind α} {w w':World} {B E T:Nat} {v:Value} {l:List α} (h:Ow K w B E v l) (hne:E≠T) (f:Rw.Far T w w'):Ow K w' B E v l:=by
 obtain ⟨h1,h2⟩:=h;refine ⟨h1,?_⟩
 rcases h2 with h2 | ⟨g,cap,cur,e,hB,hh,r⟩
 ·exact .inl h2
 ·exact .inr ⟨g,cap,cur,e,hB,f g _ _ hh hne,r⟩
def FRel (w:World) (C:List Ent) (v:Value) (k:Nat) (wr:World):Prop:=∃ L:List Ent,Ow E3 wr w.heap.size 73 v L∧L.map Ent.abs=(C.take k).map Ent.abs∧(∀ c∈L,Ow K4 wr w.heap.size 26 c.sl c.l)∧Below w.heap.size w wr
def FilesPost (w:World) (A:Abs) (e:Ending) (w':World):Prop:=∃ v,e = .returned v∧(∀ F:Nat→Prop,(∀ k,F k→k < w.heap.size)→Ls F w' v A)∧Below w.heap.size w w'
theorem ls_of {w w2 w':World} {C:List Ent} {v:Value} {A:Abs} (h:FRel w2 C v C.length w') (hA:C.map Ent.abs=A) (hb:w.heap.size≤w2.heap.size) (F:Nat→Prop) (hF:∀ k,F k→k < w.heap.size):Ls F w' v A:=by
 obtain ⟨L,o,e,r,b⟩:=h;rw [List.take_length] at e;exact ⟨L,⟨o.rd,fun _ k hk g=>by have:=(ow_new o k hk).1;have:=hF k g;omega,fun c hc=>(r c hc).rd,fun c hc _ k hk g=>by have:=(ow_new (r c hc) k hk).1;have:=hF k g;omega⟩,e.trans hA⟩
set_option maxHeartbeats 4000000 in
theorem files_any {w:World} {s:Nat} {F:Nat→Prop} {A:Abs} {d:Int} (S:St w s F A d):Calls Tryz.prog 16 #[.pointer (some ⟨s,0,none⟩)] w (FilesPost w A):=by
 obtain ⟨m,C,h,hA⟩:=S;obtain ⟨mb,rfl⟩:∃ mb,m = .map mb:=by
  rcases h.mp with ⟨e,_⟩ | ⟨b,e,_⟩
  ·exact ⟨_,e⟩
  ·exact ⟨_,e⟩
 have srt:Srt Ent.n C:=(map_srt (κ:=Ent.n) (κ':=key) abs_key).1 h.ok.srt;have c0:w.cell? ⟨s,0,none⟩=some (.map mb):=row_cell h.row 0;have SO:=Lib.hid (sorted_any h.mp srt h.len);have SS:=Lib.hid h;have HL:=Lib.hid h.len;have HS:=Lib.hid srt;have HA:=Lib.hid hA;clear h hA srt
 go_enter Tryz.func16,Tryz.ntmps16
 go_wp2_with (first
  | (go_at_call 35;refine (keys_any _ _).mono ?_;rintro e w1 ⟨rfl,rfl⟩)
  | (go_at_call 34;refine SO.out.mono ?_;rintro e w2 ⟨vk,rfl,ok,b2⟩;obtain ⟨ka,kc,rfl,hkc⟩:=ok.slice;rw [List.length_map] at ok ⊢))
 have OK:=Lib.hid ok;have B2:=Lib.hid b2;have S2:=Lib.hid (SS.out.below b2);clear c0 ok b2 SO SS hkc;generalize hn:C.length=n at *;have HN:=Lib.hid hn;clear hn
 go_loopw [3,15] (fun v i wr=>∃ k:Nat,k≤n∧i = .int .i64 k∧Hid (FRel w2 C v k wr)) (fun _ i _=>n - (intOf i).toNat)
 case atStart=>exact ⟨0,Nat.zero_le _,rfl,[],Ow.nil _ _ _,by simp,nofun,Below.refl _ _⟩
 case round =>
  obtain ⟨k,hk,rfl,R⟩:=hrel
  by_cases hlt:k < n
  ·obtain ⟨L,oL,eL,rL,bL⟩:=R.out
   have hkC:k < C.length:=by have:=HN.out;omega
   obtain ⟨⟨cn,cp,ca,cc,cl⟩,hc⟩:∃ c:Ent,C[k]? = some c:=⟨_,List.getElem?_eq_getElem hkC⟩;obtain ⟨g,off,ek,hK⟩:∃ g cap,(Value.slice ka n kc) = .slice (some ⟨g,0,none⟩) n cap∧w2.cell? ⟨g,k,none⟩=some (.int .i64 cn):=by
    obtain ⟨g,cap,e1,_,_,_,_,_,hAt⟩:=OK.out.form (by rw [List.length_map];omega);rw [List.length_map,HN.out] at e1;have c:=hAt k (by rw [List.length_map];exact hkC) 0 (.int .i64 ((C.map Ent.n).getD k 0)) rfl;have e0:(C.map Ent.n).getD k 0=cn:=by rw [List.getD_eq_getElem?_getD,List.getElem?_map,hc];rfl
    rw [e0] at c;have e:0+k * KI.n+0=k:=by show 0+k * 1+0=k;omega
    rw [e] at c;exact ⟨g,cap,e1,c⟩
   obtain ⟨rfl,rfl⟩:ka=some ⟨g,0,none⟩∧kc=off:=by injection ek with e1 _ e3;exact ⟨e1,e3⟩
   have kr:=(bL.cell (World.block_lt_of_cell? _ _ hK)).trans hK;have SR:=S2.out.below bL;have c0:wr.cell? ⟨s,0,none⟩=some (.map mb):=row_cell SR.row 0;have M:=Lib.hid SR.mp;have hin:=List.mem_of_getElem? hc;have hl:look Ent.n cn C=some ⟨cn,cp,ca,cc,cl⟩:=look_at HS.out hin;have LV:=Lib.hid (lv_some hl);obtain ⟨ho,hg,-,-,hnm,-⟩:=SR.find hl;have WN:Hid (Wf cn):=WalkArith.wf_i64 (by omega);have RC:=Lib.hid (ho.rd);have GL:Hid (cl.length≤260):=by have:=hg.2.2.2.1;show cl.length≤260;simp only at this;omega
   have TK:Hid (∀ e:Ent,e.abs=(cn,cp,cl)→(L ++ [e]).map Ent.abs=(C.take (k+1)).map Ent.abs):=fun e he=>by
    rw [List.take_add_one,hc,List.map_append,List.map_append,eL]
    show _ ++ [e.abs]=_ ++ [(cn,cp,cl)]
    rw [he]
   have LL:Hid (L.length≤64):=by
    have e:=congrArg List.length eL;rw [List.length_map,List.length_map,List.length_take] at e;have:=HL.out
    show _≤64
    omega
   have OL:=Lib.hid oL;have RL:=Lib.hid rL;have BL:=Lib.hid bL;obtain ⟨va,vc,ev,-⟩:=oL.slice;clear R hK ek SR hin hl ho hg hnm oL rL bL eL hkC hc;unfold Ent.sl at RC;simp only at *;generalize hq:cl.length=q at *;have HQ:=Lib.hid hq;clear hq;generalize hLl:L.length=Ln at *;have HLl:=Lib.hid hLl;subst ev;clear hLl;have CA:=fun W (hb:Below wr.heap.size wr W)=>copied_agg W cp (.slice ca q cc) cl q (by have:=RC.out.below hb;exact this) (by rw [HQ.out];exact GL.out) HQ.out;have CC:=Lib.hid CA;clear CA;have hF:=run_fieldF;have hBN:=run_buildN;have hn64:n≤64:=HL.out;have hw2:Hid (w2.heap.size≤wr.heap.size):=BL.out.size
   go_wp2_with (first
    | (at_lookup;refine at_look0 rfl _ _ rfl M.out rfl _ rfl WN.out _ LV.out ?_)
    | (go_at_call 36;refine (CC.out _ (Below.refl _ _)).mono ?_;rintro e w3 ⟨ua,uc,rfl,o3,b3⟩;have O3:=Lib.hid o3;have B3:=Lib.hid b3;clear o3 b3)
    | (at_builtin;refine Rw.push_far (K:=E3) Tryz.underlying22 infoE3 rfl (by omega) rfl _ _ rfl w2.heap.size _ L ?e0 ((OL.out.keep B3.out).alloc _) _ ⟨cn,cp,ua,uc,cl⟩ rfl ?d1 ?d2 ?d3 ?_))
   case e0=>rfl
   case d1 =>
    intro j u hu
    unfold E3 Ent.sl at hu;simp only [HQ.out] at hu
    match j,hu with
    | 0,hu=>simp at hu;subst hu;go_simp
    | 1,hu=>simp at hu;subst hu;go_simp
    | 2,hu=>simp at hu;subst hu;go_simp
    | j+3,hu=>simp at hu
   case d2=>rw [HLl.out];have:=LL.out;omega
   case d3=>have:=B3.out.size;have:=hw2.out;simp;omega
   intro v' w4 o4 b4 f4
   have N2:Hid (FRel w2 C v' (k+1) w4):=by
    have hs3:=B3.out.size;have hs2:=hw2.out;refine ⟨L ++ [⟨cn,cp,ua,uc,cl⟩],o4,TK.out _ rfl,fun c hc=>?_,((BL.out.trans (B3.out.mono hs2)).alloc (by omega) _).trans b4⟩
    rcases List.mem_append.1 hc with hc | hc
    ·exact ow_far (((RL.out c hc).keep B3.out).alloc _) (by decide) f4
    ·obtain rfl:c=_:=List.mem_singleton.1 hc
     have o:Ow K4 w3 wr.heap.size 26 (⟨cn,cp,ua,uc,cl⟩:Ent).sl cl:=by unfold Ent.sl;rw [HQ.out];exact O3.out
     exact ow_far ((o.low hs2).alloc _) (by decide) f4
   clear o4 b4 f4;go_wp2
   go_roundw
   case rel=>exact ⟨k+1,by omega,by go_num,N2⟩
   case measure=>simp [intOf];omega
  ·obtain rfl:k=n:=by omega
   have E:=Lib.hid (fun (F:Nat→Prop) (hF:∀ k,F k→k < w.heap.size)=>ls_of (w:=w) (by rw [HN.out];exact R.out) HA.out B2.out.size F hF);have BR:Hid (Below w2.heap.size w2 wr):=by obtain ⟨_,_,_,_,b⟩:=R.out;exact b
   clear R;go_wp2
   go_ret
   exact ⟨_,rfl,E.out,B2.out.trans (BR.out.mono B2.out.size)⟩
end Go.Proofs.YtelgnhmcnfibnaaGreatDoor.Fs
namespace Go.Proofs.YtelgnhmcnfibnaaGreatDoor.Fs
open Go.RowKit Go.Maps
open Fl (R4 z4 K4 rec4 rat goodF goodFB okR okL file arr4 sto4 sto4_row sto4_below sto4_own sto4_other sto4_off own4 row_cell row_frozen at4 infoR)
open Rw (Rd Ow At)
attribute [local irreducible] Sd.wpSd wpQuiet Sf.wpSf
theorem Only.of_from {B:Nat} {w w':World} (h:Below B w w'):Only (fun k=>B≤k) w w':=⟨h.os,h.tape,h.output,h.size,fun k _ hn=>h.block k (by omega)⟩
def Gd (F:Nat→Prop) (r:Nat) (W:World) (c:Ent):Prop:=Rd K4 W c.sl c.l∧(0 < c.l.length→∀ k,c.sl.ownBlock=some k→¬ (F k∨k=r))
theorem Rst.next {w W:World} {r:Nat} {F:Nat→Prop} {v v':Value} {L L':List Ent} {d d':Int} (R:Rst w r F v L d) (hF:∀ k,F k→k < w.heap.size) (O:Only (fun k=>k=r) w W) (row:W.heap[r]? = some (.cells #[v',.int .i64 d'] 49 (0,0)))
 (own:Ow E3 W w.heap.size 73 v' L') (mem:∀ c∈L',c∈L∨Gd F r W c) (ok:OkA (L'.map Ent.abs)):Rst W r F v' L' d':=by
 have hr:=lt_of_block R.row;refine ⟨row,R.off,⟨own.rd,fun _ k hk g=>?_,fun c hc=>?_,fun c hc=>?_⟩,ok⟩
 ·have:=(ow_new own k hk).1
  rcases g with g | g
  ·have:=hF k g;omega
  ·omega
 ·rcases mem c hc with h | h
  ·exact rd_only (G:=fun k=>k=r) (R.list.file c h) (fun h0 k hk e=>R.list.foff c h h0 k hk (.inr e)) O
  ·exact h.1
 ·rcases mem c hc with h | h
  ·exact R.list.foff c h
  ·exact h.2
theorem gd_new {F:Nat→Prop} {r:Nat} {W:World} {B:Nat} {c:Ent} (hF:∀ k,F k→k < B) (hr:r < B) (o:Ow K4 W B 26 c.sl c.l):Gd F r W c:=⟨o.rd,fun _ k hk g=>by
 have:=(ow_new o k hk).1
 rcases g with g | g
 ·have:=hF k g;omega
 ·omega⟩
theorem set3 {w:World} {B g N cap i:Nat} {L:List Ent} {c c':Ent} (h:Ow E3 w B 73 (.slice (some ⟨g,0,none⟩) N cap) L) (hN:N=L.length) (hi:L[i]? = some c) (hn:c'.n=c.n) (hp:c'.p=c.p) :
 Ow E3 ((w.setCell ⟨g,i * 3+1,none⟩ (.int .i64 c'.p)).setCell ⟨g,i * 3+2,none⟩ c'.sl) B 73 (.slice (some ⟨g,0,none⟩) N cap) (L.set i c'):=by
 subst hN;obtain ⟨hl,he⟩:=List.getElem?_eq_some_iff.1 hi;have e:L.getD i E3.dft=c:=by rw [List.getD_eq_getElem?_getD,hi];rfl
 have h1:=h.set i 1 hl (by decide) (.int .i64 c'.p) c (by rw [e,hp];rfl);have e1:L.set i c=L:=by rw [← he];exact List.set_getElem_self hl
 rw [e1] at h1
 have h2:=h1.set i 2 hl (by decide) c'.sl c' (by
  rw [e]
  show [Value.int .i64 c'.n,.int .i64 c'.p,c'.sl] = [Value.int .i64 c.n,.int .i64 c.p,c'.sl]
  rw [hn,hp])
 exact h2
theorem own3 {w:World} {B g N cap i:Nat} {L:List Ent} {c:Ent} (h:Ow E3 w B 73 (.slice (some ⟨g,0,none⟩) N cap) L) (hi:L[i]? = some c) :
 (w.cell? ⟨g,i * 3,none⟩=some (.int .i64 c.n)∧w.cell? ⟨g,i * 3+1,none⟩=some (.int .i64 c.p)∧w.cell? ⟨g,i * 3+2,none⟩=some c.sl)∧(∀ j,w.frozen? ⟨g,j,none⟩=false)∧B≤g∧g < w.heap.size:=by
 obtain ⟨g',cap',eg,h1,h2,_,_,hf,hA⟩:=h.form (by have:=(List.getElem?_eq_some_iff.1 hi).1;omega);have e:g=g':=by
  injection eg with e1;injection e1 with e1;injection e1 with e1 _ _
 subst e;have c:=at3 hA hi;simp only [Nat.zero_add] at c;exact ⟨c,hf,h1,h2⟩
structure RC (r:Nat) (v:Value) (d:Int) (g:Nat) (p:Int) (u:Value) (W:World):Prop where
 row:W.heap[r]? = some (.cells #[v,.int .i64 d] 49 (0,0))
 box:W.heap[g]? = some (.cells #[.int .i64 p,u] 71 (0,0))
end Go.Proofs.YtelgnhmcnfibnaaGreatDoor.Fs
namespace Go.Proofs.YtelgnhmcnfibnaaGreatDoor.Fl
open Go.RowKit
open Rw (Rd Ow At)
attribute [local irreducible] Sd.wpSd wpQuiet Sf.wpSf
structure StartR (w:World) (p:Int) (v:Value) (x:R4) (W:World):Prop where
 st:Start w p v x W
 no:W.heap[w.heap.size+4]? = some (.cells #[.int .i64 0,.slice none 0 0] 71 (0,0))
theorem StartR.of (w:World) (p:Int) (v:Value) (x:R4):StartR w p v x (((((w.alloc (.cells #[.int .i64 p,v] 71)).alloc (.cells (arr4 x) 26)).alloc (.cells #[.int .i64 0,.slice none 0 0] 71)).alloc (.cells (arr4 z4) 26)).alloc (.cells #[.int .i64 0,.slice none 0 0] 71)):=by
 have z4':∀ a b c d,((((w.alloc a).alloc b).alloc c).alloc d).heap.size=w.heap.size+4:=fun a b c d=>by simp
 refine ⟨(Start.of w p v x).mono ((Below.refl _ _).alloc (Nat.le_refl _) _),?_⟩;have:=heap_alloc_new ((((w.alloc (.cells #[.int .i64 p,v] 71)).alloc (.cells (arr4 x) 26)).alloc (.cells #[.int .i64 0,.slice none 0 0] 71)).alloc (.cells (arr4 z4) 26)) (.cells #[.int .i64 0,.slice none 0 0] 71);rw [z4'] at this;exact this
theorem StartR.mono {w W W':World} {p:Int} {v:Value} {x:R4} (h:StartR w p v x W) (b:Below W.heap.size W W'):StartR w p v x W':=⟨h.st.mono b,(b.block _ (lt_of_block h.no)).trans h.no⟩
set_option maxHeartbeats 400000 in
theorem rdo_2 (w:World) (p:Int) (a:Option Addr) (n cap:Nat) (l:List R4) (R:Rd K4 w (.slice a n cap) l) (op rec:Int) (x:R4) (hg:¬ goodF p l):Calls Tryz.prog 46 #[file p (.slice a n cap),.int .i64 op,.int .i64 rec,rec4 x] w (DoPost w p l op rec x):=by
 have S0:Hid (StartR w p (.slice a n cap) x (((((w.alloc (.cells #[.int .i64 p,.slice a n cap] 71)).alloc (.cells #[.int .u8 x.1,.int .u8 x.2.1,.int .u8 x.2.2.1,.int .u8 x.2.2.2] 26)).alloc (.cells #[.int .i64 0,.slice none 0 0] 71)).alloc (.cells #[.int .u8 0,.int .u8 0,.int .u8 0,.int .u8 0] 26)).alloc (.cells #[.int .i64 0,.slice none 0 0] 71))):=Lib.hid (StartR.of w p _ x);have GR:=Lib.hid (at_bool (show goodFB p l=false from decide_eq_false hg) (rgood_any _ p _ l (R.below S0.out.st.bel)));have E:Hid (∀ w',Below w.heap.size w w'→DoPost w p l op rec x (.returned (.tuple #[file 0 (.slice none 0 0),rec4 z4,.int .i64 2])) w'):=by
  have he:doE p l op rec=2:=doE_2 hg;exact fun w' h=>⟨.slice none 0 0,by rw [he];rfl,by rw [he];exact Ow.nil _ _ _,h⟩
 have hn:n=l.length:=by
  obtain ⟨a',cap',e,_⟩:=R;injection e
 clear R hg hn;unfold file rec4 at *
 go_enter Tryz.func46,Tryz.ntmps46
 go_wp2_with fail;generalize ((((w.alloc (.cells #[.int .i64 p,.slice a n cap] 71)).alloc (.cells #[.int .u8 x.1,.int .u8 x.2.1,.int .u8 x.2.2.1,.int .u8 x.2.2.2] 26)).alloc (.cells #[.int .i64 0,.slice none 0 0] 71)).alloc (.cells #[.int .u8 0,.int .u8 0,.int .u8 0,.int .u8 0] 26)).alloc (.cells #[.int .i64 0,.slice none 0 0] 71)=W at *;refine GR.out.mono ?_;rintro e w1 ⟨rfl,b1⟩;have S1:=Lib.hid (S0.out.mono b1);clear b1 S0 GR;have c0:w1.cell? ⟨w.heap.size+2,0,none⟩=some (.int .i64 0):=row_cell S1.out.st.res1 0;have c1:w1.cell? ⟨w.heap.size+2,1,none⟩=some (.slice none 0 0):=row_cell S1.out.st.res1 1;have d0:w1.cell? ⟨w.heap.size+3,0,none⟩=some (.int .u8 0):=row_cell S1.out.st.res2 0;have d1:w1.cell? ⟨w.heap.size+3,1,none⟩=some (.int .u8 0):=row_cell S1.out.st.res2 1;have d2:w1.cell? ⟨w.heap.size+3,2,none⟩=some (.int .u8 0):=row_cell S1.out.st.res2 2;have d3:w1.cell? ⟨w.heap.size+3,3,none⟩=some (.int .u8 0):=row_cell S1.out.st.res2 3;have n0:w1.cell? ⟨w.heap.size+4,0,none⟩=some (.int .i64 0):=row_cell S1.out.no 0;have n1:w1.cell? ⟨w.heap.size+4,1,none⟩=some (.slice none 0 0):=row_cell S1.out.no 1;have f0:=row_frozen S1.out.st.res1 0;have f1:=row_frozen S1.out.st.res1 1;have k0:=row_frozen S1.out.st.res2 0;have k1:=row_frozen S1.out.st.res2 1;have k2:=row_frozen S1.out.st.res2 2;have k3:=row_frozen S1.out.st.res2 3;have R1:=Lib.hid (sto4_other (g:=w.heap.size+3) (o:=0) (r:=z4) (sto2_row S1.out.st.res1 0 (.slice none 0 0)) (by omega));have R2:=Lib.hid (sto4_row (sto2_other (g:=w.heap.size+2) (p:=0) (v:=.slice none 0 0) S1.out.st.res2 (by omega)) z4);have B2:=Lib.hid (sto4_below (o:=0) (r:=z4) (sto2_below (p:=0) (v:=.slice none 0 0) S1.out.st.bel (show w.heap.size≤w.heap.size+2 by omega)) (show w.heap.size≤w.heap.size+3 by omega));have b0:w1.cell? ⟨w.heap.size,0,none⟩=some (.int .i64 p):=row_cell S1.out.st.box 0;have b1':w1.cell? ⟨w.heap.size,1,none⟩=some (.slice a n cap):=row_cell S1.out.st.box 1;clear S1;go_wp2
 (try simp only [Exit.inBlock,Exit.then])
 exact bodyPost_ret (results_do (p:=8) (q:=9) (r:=10) rfl _ _ (w.heap.size+2) (w.heap.size+3) 0 (.slice none 0 0) z4 2 rfl rfl rfl R1.out R2.out) rfl (E.out _ B2.out)
set_option maxHeartbeats 400000 in
theorem rdo_1 (w:World) (p:Int) (a:Option Addr) (n cap:Nat) (l:List R4) (R:Rd K4 w (.slice a n cap) l) (op rec:Int) (x:R4) (hg:goodF p l) (ho:¬ (0≤op∧op≤2)):Calls Tryz.prog 46 #[file p (.slice a n cap),.int .i64 op,.int .i64 rec,rec4 x] w (DoPost w p l op rec x):=by
 have S0:Hid (StartR w p (.slice a n cap) x (((((w.alloc (.cells #[.int .i64 p,.slice a n cap] 71)).alloc (.cells #[.int .u8 x.1,.int .u8 x.2.1,.int .u8 x.2.2.1,.int .u8 x.2.2.2] 26)).alloc (.cells #[.int .i64 0,.slice none 0 0] 71)).alloc (.cells #[.int .u8 0,.int .u8 0,.int .u8 0,.int .u8 0] 26)).alloc (.cells #[.int .i64 0,.slice none 0 0] 71))):=Lib.hid (StartR.of w p _ x);have GR:=Lib.hid (at_bool (show goodFB p l=true from decide_eq_true hg) (rgood_any _ p _ l (R.below S0.out.st.bel)));have E:Hid (∀ w',Below w.heap.size w w'→DoPost w p l op rec x (.returned (.tuple #[file 0 (.slice none 0 0),rec4 z4,.int .i64 1])) w'):=by
  have he:doE p l op rec=1:=doE_1 hg ho;exact fun w' h=>⟨.slice none 0 0,by rw [he];rfl,by rw [he];exact Ow.nil _ _ _,h⟩
 have hn:n=l.length:=by
  obtain ⟨a',cap',e,_⟩:=R;injection e
 clear R hg hn;unfold file rec4 at *;have ho2:op < 0∨(0≤op∧2 < op):=by omega
 clear ho
 rcases ho2 with ho | ⟨ho,ho2⟩
 all_goals
  go_enter Tryz.func46,Tryz.ntmps46
  go_wp2_with fail;generalize ((((w.alloc (.cells #[.int .i64 p,.slice a n cap] 71)).alloc (.cells #[.int .u8 x.1,.int .u8 x.2.1,.int .u8 x.2.2.1,.int .u8 x.2.2.2] 26)).alloc (.cells #[.int .i64 0,.slice none 0 0] 71)).alloc (.cells #[.int .u8 0,.int .u8 0,.int .u8 0,.int .u8 0] 26)).alloc (.cells #[.int .i64 0,.slice none 0 0] 71)=W at *;refine GR.out.mono ?_;rintro e w1 ⟨rfl,b1⟩;have S1:=Lib.hid (S0.out.mono b1);clear b1 S0 GR;have c0:w1.cell? ⟨w.heap.size+2,0,none⟩=some (.int .i64 0):=row_cell S1.out.st.res1 0;have c1:w1.cell? ⟨w.heap.size+2,1,none⟩=some (.slice none 0 0):=row_cell S1.out.st.res1 1;have d0:w1.cell? ⟨w.heap.size+3,0,none⟩=some (.int .u8 0):=row_cell S1.out.st.res2 0;have d1:w1.cell? ⟨w.heap.size+3,1,none⟩=some (.int .u8 0):=row_cell S1.out.st.res2 1;have d2:w1.cell? ⟨w.heap.size+3,2,none⟩=some (.int .u8 0):=row_cell S1.out.st.res2 2;have d3:w1.cell? ⟨w.heap.size+3,3,none⟩=some (.int .u8 0):=row_cell S1.out.st.res2 3;have n0:w1.cell? ⟨w.heap.size+4,0,none⟩=some (.int .i64 0):=row_cell S1.out.no 0;have n1:w1.cell? ⟨w.heap.size+4,1,none⟩=some (.slice none 0 0):=row_cell S1.out.no 1;have f0:=row_frozen S1.out.st.res1 0;have f1:=row_frozen S1.out.st.res1 1;have k0:=row_frozen S1.out.st.res2 0;have k1:=row_frozen S1.out.st.res2 1;have k2:=row_frozen S1.out.st.res2 2;have k3:=row_frozen S1.out.st.res2 3;have R1:=Lib.hid (sto4_other (g:=w.heap.size+3) (o:=0) (r:=z4) (sto2_row S1.out.st.res1 0 (.slice none 0 0)) (by omega));have R2:=Lib.hid (sto4_row (sto2_other (g:=w.heap.size+2) (p:=0) (v:=.slice none 0 0) S1.out.st.res2 (by omega)) z4);have B2:=Lib.hid (sto4_below (o:=0) (r:=z4) (sto2_below (p:=0) (v:=.slice none 0 0) S1.out.st.bel (show w.heap.size≤w.heap.size+2 by omega)) (show w.heap.size≤w.heap.size+3 by omega));have b0:w1.cell? ⟨w.heap.size,0,none⟩=some (.int .i64 p):=row_cell S1.out.st.box 0;have b1':w1.cell? ⟨w.heap.size,1,none⟩=some (.slice a n cap):=row_cell S1.out.st.box 1;clear S1;go_wp2
  (try simp only [Exit.inBlock,Exit.then])
  exact bodyPost_ret (results_do (p:=8) (q:=9) (r:=10) rfl _ _ (w.heap.size+2) (w.heap.size+3) 0 (.slice none 0 0) z4 1 rfl rfl rfl R1.out R2.out) rfl (E.out _ B2.out)
set_option maxHeartbeats 400000 in
theorem rdo_4 (w:World) (p:Int) (a:Option Addr) (n cap:Nat) (l:List R4) (R:Rd K4 w (.slice a n cap) l) (op rec:Int) (x:R4) (hg:goodF p l) (ho:0≤op∧op≤2) (hr:¬ (0≤rec∧rec < l.length)):Calls Tryz.prog 46 #[file p (.slice a n cap),.int .i64 op,.int .i64 rec,rec4 x] w (DoPost w p l op rec x):=by
 have S0:Hid (StartR w p (.slice a n cap) x (((((w.alloc (.cells #[.int .i64 p,.slice a n cap] 71)).alloc (.cells #[.int .u8 x.1,.int .u8 x.2.1,.int .u8 x.2.2.1,.int .u8 x.2.2.2] 26)).alloc (.cells #[.int .i64 0,.slice none 0 0] 71)).alloc (.cells #[.int .u8 0,.int .u8 0,.int .u8 0,.int .u8 0] 26)).alloc (.cells #[.int .i64 0,.slice none 0 0] 71))):=Lib.hid (StartR.of w p _ x);have GR:=Lib.hid (at_bool (show goodFB p l=true from decide_eq_true hg) (rgood_any _ p _ l (R.below S0.out.st.bel)));have E:Hid (∀ w',Below w.heap.size w w'→DoPost w p l op rec x (.returned (.tuple #[file 0 (.slice none 0 0),rec4 z4,.int .i64 4])) w'):=by
  have he:doE p l op rec=4:=doE_4 hg ho hr;exact fun w' h=>⟨.slice none 0 0,by rw [he];rfl,by rw [he];exact Ow.nil _ _ _,h⟩
 have hn:n=l.length:=by
  obtain ⟨a',cap',e,_⟩:=R;injection e
 clear R hg;unfold file rec4 at *;have hr2:rec < 0∨(0≤rec∧(n:Int)≤rec):=by omega
 clear hr hn;obtain ⟨ho0,ho1⟩:=ho;have hop:op=0∨op=1∨op=2:=by omega
 clear ho0 ho1
 rcases hr2 with hr | ⟨hr,hr2⟩ <;> rcases hop with rfl | rfl | rfl
 all_goals
  go_enter Tryz.func46,Tryz.ntmps46
  go_wp2_with fail;generalize ((((w.alloc (.cells #[.int .i64 p,.slice a n cap] 71)).alloc (.cells #[.int .u8 x.1,.int .u8 x.2.1,.int .u8 x.2.2.1,.int .u8 x.2.2.2] 26)).alloc (.cells #[.int .i64 0,.slice none 0 0] 71)).alloc (.cells #[.int .u8 0,.int .u8 0,.int .u8 0,.int .u8 0] 26)).alloc (.cells #[.int .i64 0,.slice none 0 0] 71)=W at *;refine GR.out.mono ?_;rintro e w1 ⟨rfl,b1⟩;have S1:=Lib.hid (S0.out.mono b1);clear b1 S0 GR;have c0:w1.cell? ⟨w.heap.size+2,0,none⟩=some (.int .i64 0):=row_cell S1.out.st.res1 0;have c1:w1.cell? ⟨w.heap.size+2,1,none⟩=some (.slice none 0 0):=row_cell S1.out.st.res1 1;have d0:w1.cell? ⟨w.heap.size+3,0,none⟩=some (.int .u8 0):=row_cell S1.out.st.res2 0;have d1:w1.cell? ⟨w.heap.size+3,1,none⟩=some (.int .u8 0):=row_cell S1.out.st.res2 1;have d2:w1.cell? ⟨w.heap.size+3,2,none⟩=some (.int .u8 0):=row_cell S1.out.st.res2 2;have d3:w1.cell? ⟨w.heap.size+3,3,none⟩=some (.int .u8 0):=row_cell S1.out.st.res2 3;have n0:w1.cell? ⟨w.heap.size+4,0,none⟩=some (.int .i64 0):=row_cell S1.out.no 0;have n1:w1.cell? ⟨w.heap.size+4,1,none⟩=some (.slice none 0 0):=row_cell S1.out.no 1;have f0:=row_frozen S1.out.st.res1 0;have f1:=row_frozen S1.out.st.res1 1;have k0:=row_frozen S1.out.st.res2 0;have k1:=row_frozen S1.out.st.res2 1;have k2:=row_frozen S1.out.st.res2 2;have k3:=row_frozen S1.out.st.res2 3;have R1:=Lib.hid (sto4_other (g:=w.heap.size+3) (o:=0) (r:=z4) (sto2_row S1.out.st.res1 0 (.slice none 0 0)) (by omega));have R2:=Lib.hid (sto4_row (sto2_other (g:=w.heap.size+2) (p:=0) (v:=.slice none 0 0) S1.out.st.res2 (by omega)) z4);have B2:=Lib.hid (sto4_below (o:=0) (r:=z4) (sto2_below (p:=0) (v:=.slice none 0 0) S1.out.st.bel (show w.heap.size≤w.heap.size+2 by omega)) (show w.heap.size≤w.heap.size+3 by omega));have b0:w1.cell? ⟨w.heap.size,0,none⟩=some (.int .i64 p):=row_cell S1.out.st.box 0;have b1':w1.cell? ⟨w.heap.size,1,none⟩=some (.slice a n cap):=row_cell S1.out.st.box 1;clear S1;go_wp2
  (try simp only [Exit.inBlock,Exit.then])
  exact bodyPost_ret (results_do (p:=8) (q:=9) (r:=10) rfl _ _ (w.heap.size+2) (w.heap.size+3) 0 (.slice none 0 0) z4 4 rfl rfl rfl R1.out R2.out) rfl (E.out _ B2.out)
theorem five {p op rec:Int} (ho:0≤op∧op≤2) (hr:0≤rec) (hk:¬ (rec=0∧op=0∨0 < rec∧p / need op % 2=1)):op=0∧0 < rec∧p / 1 % 2=0∨op=1∧rec=0∨op=1∧0 < rec∧p / 2 % 2=0∨op=2∧rec=0∨op=2∧0 < rec∧p / 4 % 2=0:=by
 rcases (by omega:op=0∨op=1∨op=2) with rfl | rfl | rfl
 ·rw [show need 0=1 from rfl] at hk;omega
 ·rw [show need 1=2 from rfl] at hk;omega
 ·rw [show need 2=4 from rfl] at hk;omega
set_option maxHeartbeats 400000 in
theorem rdo_5 (w:World) (p:Int) (a:Option Addr) (n cap:Nat) (l:List R4) (R:Rd K4 w (.slice a n cap) l) (op rec:Int) (x:R4) (hg:goodF p l) (ho:0≤op∧op≤2) (hr:0≤rec∧rec < l.length) (hk:¬ (rec=0∧op=0∨0 < rec∧p / need op % 2=1)):Calls Tryz.prog 46 #[file p (.slice a n cap),.int .i64 op,.int .i64 rec,rec4 x] w (DoPost w p l op rec x):=by
 have S0:Hid (StartR w p (.slice a n cap) x (((((w.alloc (.cells #[.int .i64 p,.slice a n cap] 71)).alloc (.cells #[.int .u8 x.1,.int .u8 x.2.1,.int .u8 x.2.2.1,.int .u8 x.2.2.2] 26)).alloc (.cells #[.int .i64 0,.slice none 0 0] 71)).alloc (.cells #[.int .u8 0,.int .u8 0,.int .u8 0,.int .u8 0] 26)).alloc (.cells #[.int .i64 0,.slice none 0 0] 71))):=Lib.hid (StartR.of w p _ x);have GR:=Lib.hid (at_bool (show goodFB p l=true from decide_eq_true hg) (rgood_any _ p _ l (R.below S0.out.st.bel)));have E:Hid (∀ w',Below w.heap.size w w'→DoPost w p l op rec x (.returned (.tuple #[file 0 (.slice none 0 0),rec4 z4,.int .i64 5])) w'):=by
  have he:doE p l op rec=5:=doE_5 hg ho hr hk;exact fun w' h=>⟨.slice none 0 0,by rw [he];rfl,by rw [he];exact Ow.nil _ _ _,h⟩
 have hn:n=l.length:=by
  obtain ⟨a',cap',e,_⟩:=R;injection e
 have p0:0≤p:=hg.1;have p1:p≤7:=hg.2.1;clear R hg;unfold file rec4 at *;obtain ⟨ho0,ho1⟩:=ho;obtain ⟨hr0,hr1⟩:=hr;rw [← hn] at hr1;have hop:op=0∧0 < rec∧p / 1 % 2=0∨op=1∧rec=0∨op=1∧0 < rec∧p / 2 % 2=0∨op=2∧rec=0∨op=2∧0 < rec∧p / 4 % 2=0:=five ⟨ho0,ho1⟩ hr0 hk;clear ho0 ho1 hk hn
 rcases hop with ⟨rfl,hr2,hq⟩ | ⟨rfl,rfl⟩ | ⟨rfl,hr2,hq⟩ | ⟨rfl,rfl⟩ | ⟨rfl,hr2,hq⟩
 ·have hq1:IntKind.i64.wrap p=p:=IntWalk.i64_in _ (by omega)
  have hq2:Int.tmod p 2=0:=by rw [Int.tmod_eq_emod_of_nonneg p0];omega
  clear hq;have hz:¬ rec=0:=by omega
  have hz2:(rec == 0)=false:=by simpa using hz
  go_enter Tryz.func46,Tryz.ntmps46
  go_wp2_with fail;generalize ((((w.alloc (.cells #[.int .i64 p,.slice a n cap] 71)).alloc (.cells #[.int .u8 x.1,.int .u8 x.2.1,.int .u8 x.2.2.1,.int .u8 x.2.2.2] 26)).alloc (.cells #[.int .i64 0,.slice none 0 0] 71)).alloc (.cells #[.int .u8 0,.int .u8 0,.int .u8 0,.int .u8 0] 26)).alloc (.cells #[.int .i64 0,.slice none 0 0] 71)=W at *;refine GR.out.mono ?_;rintro e w1 ⟨rfl,b1⟩;have S1:=Lib.hid (S0.out.mono b1);clear b1 S0 GR;have b0:w1.cell? ⟨w.heap.size,0,none⟩=some (.int .i64 p):=row_cell S1.out.st.box 0;have b1':w1.cell? ⟨w.heap.size,1,none⟩=some (.slice a n cap):=row_cell S1.out.st.box 1;go_upto_region 9 with fail;have S2:Hid (StartR w p (.slice a n cap) x (w1.alloc (.cells #[.int .i64 1,.int .i64 2,.int .i64 4] 3))):=Lib.hid (S1.out.mono ((Below.refl _ _).alloc (Nat.le_refl _) _));clear b0 b1' S1;generalize w1.alloc (.cells #[.int .i64 1,.int .i64 2,.int .i64 4] 3)=w2 at *;have S1:=S2;clear S2;have c0:w2.cell? ⟨w.heap.size+2,0,none⟩=some (.int .i64 0):=row_cell S1.out.st.res1 0;have c1:w2.cell? ⟨w.heap.size+2,1,none⟩=some (.slice none 0 0):=row_cell S1.out.st.res1 1;have d0:w2.cell? ⟨w.heap.size+3,0,none⟩=some (.int .u8 0):=row_cell S1.out.st.res2 0;have d1:w2.cell? ⟨w.heap.size+3,1,none⟩=some (.int .u8 0):=row_cell S1.out.st.res2 1;have d2:w2.cell? ⟨w.heap.size+3,2,none⟩=some (.int .u8 0):=row_cell S1.out.st.res2 2;have d3:w2.cell? ⟨w.heap.size+3,3,none⟩=some (.int .u8 0):=row_cell S1.out.st.res2 3;have n0:w2.cell? ⟨w.heap.size+4,0,none⟩=some (.int .i64 0):=row_cell S1.out.no 0;have n1:w2.cell? ⟨w.heap.size+4,1,none⟩=some (.slice none 0 0):=row_cell S1.out.no 1;have f0:=row_frozen S1.out.st.res1 0;have f1:=row_frozen S1.out.st.res1 1;have k0:=row_frozen S1.out.st.res2 0;have k1:=row_frozen S1.out.st.res2 1;have k2:=row_frozen S1.out.st.res2 2;have k3:=row_frozen S1.out.st.res2 3;have R1:=Lib.hid (sto4_other (g:=w.heap.size+3) (o:=0) (r:=z4) (sto2_row S1.out.st.res1 0 (.slice none 0 0)) (by omega));have R2:=Lib.hid (sto4_row (sto2_other (g:=w.heap.size+2) (p:=0) (v:=.slice none 0 0) S1.out.st.res2 (by omega)) z4);have B2:=Lib.hid (sto4_below (o:=0) (r:=z4) (sto2_below (p:=0) (v:=.slice none 0 0) S1.out.st.bel (show w.heap.size≤w.heap.size+2 by omega)) (show w.heap.size≤w.heap.size+3 by omega));have b0:w2.cell? ⟨w.heap.size,0,none⟩=some (.int .i64 p):=row_cell S1.out.st.box 0;have b1':w2.cell? ⟨w.heap.size,1,none⟩=some (.slice a n cap):=row_cell S1.out.st.box 1;clear S1;go_wp2
  (try simp only [Exit.inBlock,Exit.then])
  exact bodyPost_ret (results_do (p:=8) (q:=9) (r:=10) rfl _ _ (w.heap.size+2) (w.heap.size+3) 0 (.slice none 0 0) z4 5 rfl rfl rfl R1.out R2.out) rfl (E.out _ B2.out)
 ·go_enter Tryz.func46,Tryz.ntmps46
  go_wp2_with fail;generalize ((((w.alloc (.cells #[.int .i64 p,.slice a n cap] 71)).alloc (.cells #[.int .u8 x.1,.int .u8 x.2.1,.int .u8 x.2.2.1,.int .u8 x.2.2.2] 26)).alloc (.cells #[.int .i64 0,.slice none 0 0] 71)).alloc (.cells #[.int .u8 0,.int .u8 0,.int .u8 0,.int .u8 0] 26)).alloc (.cells #[.int .i64 0,.slice none 0 0] 71)=W at *;refine GR.out.mono ?_;rintro e w1 ⟨rfl,b1⟩;have S1:=Lib.hid (S0.out.mono b1);clear b1 S0 GR;have b0:w1.cell? ⟨w.heap.size,0,none⟩=some (.int .i64 p):=row_cell S1.out.st.box 0;have b1':w1.cell? ⟨w.heap.size,1,none⟩=some (.slice a n cap):=row_cell S1.out.st.box 1;go_upto_region 9 with fail;have S2:Hid (StartR w p (.slice a n cap) x (w1.alloc (.cells #[.int .i64 1,.int .i64 2,.int .i64 4] 3))):=Lib.hid (S1.out.mono ((Below.refl _ _).alloc (Nat.le_refl _) _));clear b0 b1' S1;generalize w1.alloc (.cells #[.int .i64 1,.int .i64 2,.int .i64 4] 3)=w2 at *;have S1:=S2;clear S2;have c0:w2.cell? ⟨w.heap.size+2,0,none⟩=some (.int .i64 0):=row_cell S1.out.st.res1 0;have c1:w2.cell? ⟨w.heap.size+2,1,none⟩=some (.slice none 0 0):=row_cell S1.out.st.res1 1;have d0:w2.cell? ⟨w.heap.size+3,0,none⟩=some (.int .u8 0):=row_cell S1.out.st.res2 0;have d1:w2.cell? ⟨w.heap.size+3,1,none⟩=some (.int .u8 0):=row_cell S1.out.st.res2 1;have d2:w2.cell? ⟨w.heap.size+3,2,none⟩=some (.int .u8 0):=row_cell S1.out.st.res2 2;have d3:w2.cell? ⟨w.heap.size+3,3,none⟩=some (.int .u8 0):=row_cell S1.out.st.res2 3;have n0:w2.cell? ⟨w.heap.size+4,0,none⟩=some (.int .i64 0):=row_cell S1.out.no 0;have n1:w2.cell? ⟨w.heap.size+4,1,none⟩=some (.slice none 0 0):=row_cell S1.out.no 1;have f0:=row_frozen S1.out.st.res1 0;have f1:=row_frozen S1.out.st.res1 1;have k0:=row_frozen S1.out.st.res2 0;have k1:=row_frozen S1.out.st.res2 1;have k2:=row_frozen S1.out.st.res2 2;have k3:=row_frozen S1.out.st.res2 3;have R1:=Lib.hid (sto4_other (g:=w.heap.size+3) (o:=0) (r:=z4) (sto2_row S1.out.st.res1 0 (.slice none 0 0)) (by omega));have R2:=Lib.hid (sto4_row (sto2_other (g:=w.heap.size+2) (p:=0) (v:=.slice none 0 0) S1.out.st.res2 (by omega)) z4);have B2:=Lib.hid (sto4_below (o:=0) (r:=z4) (sto2_below (p:=0) (v:=.slice none 0 0) S1.out.st.bel (show w.heap.size≤w.heap.size+2 by omega)) (show w.heap.size≤w.heap.size+3 by omega));have b0:w2.cell? ⟨w.heap.size,0,none⟩=some (.int .i64 p):=row_cell S1.out.st.box 0;have b1':w2.cell? ⟨w.heap.size,1,none⟩=some (.slice a n cap):=row_cell S1.out.st.box 1;clear S1;go_wp2
  (try simp only [Exit.inBlock,Exit.then])
  exact bodyPost_ret (results_do (p:=8) (q:=9) (r:=10) rfl _ _ (w.heap.size+2) (w.heap.size+3) 0 (.slice none 0 0) z4 5 rfl rfl rfl R1.out R2.out) rfl (E.out _ B2.out)
 ·have hq1:IntKind.i64.wrap (Int.tdiv p 2)=p / 2:=by rw [Int.tdiv_eq_ediv_of_nonneg p0];exact IntWalk.i64_in _ (by omega)
  have hq2:Int.tmod (p / 2) 2=0:=by rw [Int.tmod_eq_emod_of_nonneg (by omega)];exact hq
  clear hq;have hz:¬ rec=0:=by omega
  have hz2:(rec == 0)=false:=by simpa using hz
  go_enter Tryz.func46,Tryz.ntmps46
  go_wp2_with fail;generalize ((((w.alloc (.cells #[.int .i64 p,.slice a n cap] 71)).alloc (.cells #[.int .u8 x.1,.int .u8 x.2.1,.int .u8 x.2.2.1,.int .u8 x.2.2.2] 26)).alloc (.cells #[.int .i64 0,.slice none 0 0] 71)).alloc (.cells #[.int .u8 0,.int .u8 0,.int .u8 0,.int .u8 0] 26)).alloc (.cells #[.int .i64 0,.slice none 0 0] 71)=W at *;refine GR.out.mono ?_;rintro e w1 ⟨rfl,b1⟩;have S1:=Lib.hid (S0.out.mono b1);clear b1 S0 GR;have b0:w1.cell? ⟨w.heap.size,0,none⟩=some (.int .i64 p):=row_cell S1.out.st.box 0;have b1':w1.cell? ⟨w.heap.size,1,none⟩=some (.slice a n cap):=row_cell S1.out.st.box 1;go_upto_region 9 with fail;have S2:Hid (StartR w p (.slice a n cap) x (w1.alloc (.cells #[.int .i64 1,.int .i64 2,.int .i64 4] 3))):=Lib.hid (S1.out.mono ((Below.refl _ _).alloc (Nat.le_refl _) _));clear b0 b1' S1;generalize w1.alloc (.cells #[.int .i64 1,.int .i64 2,.int .i64 4] 3)=w2 at *;have S1:=S2;clear S2;have c0:w2.cell? ⟨w.heap.size+2,0,none⟩=some (.int .i64 0):=row_cell S1.out.st.res1 0;have c1:w2.cell? ⟨w.heap.size+2,1,none⟩=some (.slice none 0 0):=row_cell S1.out.st.res1 1;have d0:w2.cell? ⟨w.heap.size+3,0,none⟩=some (.int .u8 0):=row_cell S1.out.st.res2 0;have d1:w2.cell? ⟨w.heap.size+3,1,none⟩=some (.int .u8 0):=row_cell S1.out.st.res2 1;have d2:w2.cell? ⟨w.heap.size+3,2,none⟩=some (.int .u8 0):=row_cell S1.out.st.res2 2;have d3:w2.cell? ⟨w.heap.size+3,3,none⟩=some (.int .u8 0):=row_cell S1.out.st.res2 3;have n0:w2.cell? ⟨w.heap.size+4,0,none⟩=some (.int .i64 0):=row_cell S1.out.no 0;have n1:w2.cell? ⟨w.heap.size+4,1,none⟩=some (.slice none 0 0):=row_cell S1.out.no 1;have f0:=row_frozen S1.out.st.res1 0;have f1:=row_frozen S1.out.st.res1 1;have k0:=row_frozen S1.out.st.res2 0;have k1:=row_frozen S1.out.st.res2 1;have k2:=row_frozen S1.out.st.res2 2;have k3:=row_frozen S1.out.st.res2 3;have R1:=Lib.hid (sto4_other (g:=w.heap.size+3) (o:=0) (r:=z4) (sto2_row S1.out.st.res1 0 (.slice none 0 0)) (by omega));have R2:=Lib.hid (sto4_row (sto2_other (g:=w.heap.size+2) (p:=0) (v:=.slice none 0 0) S1.out.st.res2 (by omega)) z4);have B2:=Lib.hid (sto4_below (o:=0) (r:=z4) (sto2_below (p:=0) (v:=.slice none 0 0) S1.out.st.bel (show w.heap.size≤w.heap.size+2 by omega)) (show w.heap.size≤w.heap.size+3 by omega));have b0:w2.cell? ⟨w.heap.size,0,none⟩=some (.int .i64 p):=row_cell S1.out.st.box 0;have b1':w2.cell? ⟨w.heap.size,1,none⟩=some (.slice a n cap):=row_cell S1.out.st.box 1;clear S1;go_wp2
  (try simp only [Exit.inBlock,Exit.then])
  exact bodyPost_ret (results_do (p:=8) (q:=9) (r:=10) rfl _ _ (w.heap.size+2) (w.heap.size+3) 0 (.slice none 0 0) z4 5 rfl rfl rfl R1.out R2.out) rfl (E.out _ B2.out)
 ·go_enter Tryz.func46,Tryz.ntmps46
  go_wp2_with fail;generalize ((((w.alloc (.cells #[.int .i64 p,.slice a n cap] 71)).alloc (.cells #[.int .u8 x.1,.int .u8 x.2.1,.int .u8 x.2.2.1,.int .u8 x.2.2.2] 26)).alloc (.cells #[.int .i64 0,.slice none 0 0] 71)).alloc (.cells #[.int .u8 0,.int .u8 0,.int .u8 0,.int .u8 0] 26)).alloc (.cells #[.int .i64 0,.slice none 0 0] 71)=W at *;refine GR.out.mono ?_;rintro e w1 ⟨rfl,b1⟩;have S1:=Lib.hid (S0.out.mono b1);clear b1 S0 GR;have b0:w1.cell? ⟨w.heap.size,0,none⟩=some (.int .i64 p):=row_cell S1.out.st.box 0;have b1':w1.cell? ⟨w.heap.size,1,none⟩=some (.slice a n cap):=row_cell S1.out.st.box 1;go_upto_region 9 with fail;have S2:Hid (StartR w p (.slice a n cap) x (w1.alloc (.cells #[.int .i64 1,.int .i64 2,.int .i64 4] 3))):=Lib.hid (S1.out.mono ((Below.refl _ _).alloc (Nat.le_refl _) _));clear b0 b1' S1;generalize w1.alloc (.cells #[.int .i64 1,.int .i64 2,.int .i64 4] 3)=w2 at *;have S1:=S2;clear S2;have c0:w2.cell? ⟨w.heap.size+2,0,none⟩=some (.int .i64 0):=row_cell S1.out.st.res1 0;have c1:w2.cell? ⟨w.heap.size+2,1,none⟩=some (.slice none 0 0):=row_cell S1.out.st.res1 1;have d0:w2.cell? ⟨w.heap.size+3,0,none⟩=some (.int .u8 0):=row_cell S1.out.st.res2 0;have d1:w2.cell? ⟨w.heap.size+3,1,none⟩=some (.int .u8 0):=row_cell S1.out.st.res2 1;have d2:w2.cell? ⟨w.heap.size+3,2,none⟩=some (.int .u8 0):=row_cell S1.out.st.res2 2;have d3:w2.cell? ⟨w.heap.size+3,3,none⟩=some (.int .u8 0):=row_cell S1.out.st.res2 3;have n0:w2.cell? ⟨w.heap.size+4,0,none⟩=some (.int .i64 0):=row_cell S1.out.no 0;have n1:w2.cell? ⟨w.heap.size+4,1,none⟩=some (.slice none 0 0):=row_cell S1.out.no 1;have f0:=row_frozen S1.out.st.res1 0;have f1:=row_frozen S1.out.st.res1 1;have k0:=row_frozen S1.out.st.res2 0;have k1:=row_frozen S1.out.st.res2 1;have k2:=row_frozen S1.out.st.res2 2;have k3:=row_frozen S1.out.st.res2 3;have R1:=Lib.hid (sto4_other (g:=w.heap.size+3) (o:=0) (r:=z4) (sto2_row S1.out.st.res1 0 (.slice none 0 0)) (by omega));have R2:=Lib.hid (sto4_row (sto2_other (g:=w.heap.size+2) (p:=0) (v:=.slice none 0 0) S1.out.st.res2 (by omega)) z4);have B2:=Lib.hid (sto4_below (o:=0) (r:=z4) (sto2_below (p:=0) (v:=.slice none 0 0) S1.out.st.bel (show w.heap.size≤w.heap.size+2 by omega)) (show w.heap.size≤w.heap.size+3 by omega));have b0:w2.cell? ⟨w.heap.size,0,none⟩=some (.int .i64 p):=row_cell S1.out.st.box 0;have b1':w2.cell? ⟨w.heap.size,1,none⟩=some (.slice a n cap):=row_cell S1.out.st.box 1;clear S1;go_wp2
  (try simp only [Exit.inBlock,Exit.then])
  exact bodyPost_ret (results_do (p:=8) (q:=9) (r:=10) rfl _ _ (w.heap.size+2) (w.heap.size+3) 0 (.slice none 0 0) z4 5 rfl rfl rfl R1.out R2.out) rfl (E.out _ B2.out)
 ·have hq1:IntKind.i64.wrap (Int.tdiv p 4)=p / 4:=by rw [Int.tdiv_eq_ediv_of_nonneg p0];exact IntWalk.i64_in _ (by omega)
  have hq2:Int.tmod (p / 4) 2=0:=by rw [Int.tmod_eq_emod_of_nonneg (by omega)];exact hq
  clear hq;have hz:¬ rec=0:=by omega
  have hz2:(rec == 0)=false:=by simpa using hz
  go_enter Tryz.func46,Tryz.ntmps46
  go_wp2_with fail;generalize ((((w.alloc (.cells #[.int .i64 p,.slice a n cap] 71)).alloc (.cells #[.int .u8 x.1,.int .u8 x.2.1,.int .u8 x.2.2.1,.int .u8 x.2.2.2] 26)).alloc (.cells #[.int .i64 0,.slice none 0 0] 71)).alloc (.cells #[.int .u8 0,.int .u8 0,.int .u8 0,.int .u8 0] 26)).alloc (.cells #[.int .i64 0,.slice none 0 0] 71)=W at *;refine GR.out.mono ?_;rintro e w1 ⟨rfl,b1⟩;have S1:=Lib.hid (S0.out.mono b1);clear b1 S0 GR;have b0:w1.cell? ⟨w.heap.size,0,none⟩=some (.int .i64 p):=row_cell S1.out.st.box 0;have b1':w1.cell? ⟨w.heap.size,1,none⟩=some (.slice a n cap):=row_cell S1.out.st.box 1;go_upto_region 9 with fail;have S2:Hid (StartR w p (.slice a n cap) x (w1.alloc (.cells #[.int .i64 1,.int .i64 2,.int .i64 4] 3))):=Lib.hid (S1.out.mono ((Below.refl _ _).alloc (Nat.le_refl _) _));clear b0 b1' S1;generalize w1.alloc (.cells #[.int .i64 1,.int .i64 2,.int .i64 4] 3)=w2 at *;have S1:=S2;clear S2;have c0:w2.cell? ⟨w.heap.size+2,0,none⟩=some (.int .i64 0):=row_cell S1.out.st.res1 0;have c1:w2.cell? ⟨w.heap.size+2,1,none⟩=some (.slice none 0 0):=row_cell S1.out.st.res1 1;have d0:w2.cell? ⟨w.heap.size+3,0,none⟩=some (.int .u8 0):=row_cell S1.out.st.res2 0;have d1:w2.cell? ⟨w.heap.size+3,1,none⟩=some (.int .u8 0):=row_cell S1.out.st.res2 1;have d2:w2.cell? ⟨w.heap.size+3,2,none⟩=some (.int .u8 0):=row_cell S1.out.st.res2 2;have d3:w2.cell? ⟨w.heap.size+3,3,none⟩=some (.int .u8 0):=row_cell S1.out.st.res2 3;have n0:w2.cell? ⟨w.heap.size+4,0,none⟩=some (.int .i64 0):=row_cell S1.out.no 0;have n1:w2.cell? ⟨w.heap.size+4,1,none⟩=some (.slice none 0 0):=row_cell S1.out.no 1;have f0:=row_frozen S1.out.st.res1 0;have f1:=row_frozen S1.out.st.res1 1;have k0:=row_frozen S1.out.st.res2 0;have k1:=row_frozen S1.out.st.res2 1;have k2:=row_frozen S1.out.st.res2 2;have k3:=row_frozen S1.out.st.res2 3;have R1:=Lib.hid (sto4_other (g:=w.heap.size+3) (o:=0) (r:=z4) (sto2_row S1.out.st.res1 0 (.slice none 0 0)) (by omega));have R2:=Lib.hid (sto4_row (sto2_other (g:=w.heap.size+2) (p:=0) (v:=.slice none 0 0) S1.out.st.res2 (by omega)) z4);have B2:=Lib.hid (sto4_below (o:=0) (r:=z4) (sto2_below (p:=0) (v:=.slice none 0 0) S1.out.st.bel (show w.heap.size≤w.heap.size+2 by omega)) (show w.heap.size≤w.heap.size+3 by omega));have b0:w2.cell? ⟨w.heap.size,0,none⟩=some (.int .i64 p):=row_cell S1.out.st.box 0;have b1':w2.cell? ⟨w.heap.size,1,none⟩=some (.slice a n cap):=row_cell S1.out.st.box 1;clear S1;go_wp2
  (try simp only [Exit.inBlock,Exit.then])
  exact bodyPost_ret (results_do (p:=8) (q:=9) (r:=10) rfl _ _ (w.heap.size+2) (w.heap.size+3) 0 (.slice none 0 0) z4 5 rfl rfl rfl R1.out R2.out) rfl (E.out _ B2.out)
end Go.Proofs.YtelgnhmcnfibnaaGreatDoor.Fl
