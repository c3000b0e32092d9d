import Derived.Test.YtljnkaodhfnbbaaGreatDoorPb7
import Derived.Test.YtljnkaodhfnbbaaGreatDoorPb9
import Derived.Test.YtljnkaodhfnbbaaGreatDoorPb8
import Derived.Test.YtljnkaodhfnbbaaGreatDoorPb1
import Derived.Test.YtljnkaodhfnbbaaGreatDoorPb5
import Derived.Deep.Cut
import Derived.Deep.QuietTactic
import Derived.BigQuiet
import Derived.WalkSmall
import Derived.Test.YtljnkaodhfnbbaaGreatDoorPb4
import Derived.Deep.CutRange
set_option maxRecDepth 100000
namespace Go.Proofs.YtljnkaodhfnbbaaGreatDoor.Wt
open Go.RowKit
open Fl (ret_bool at_bool row_cell row_frozen)
open Fs (Only)
attribute [local irreducible] Sd.wpSd wpQuiet
def hZ (r z:Int):Int:=if r=2∨r=3 then 0 else z
def wZ (r z:Int):Int:=if r=2∨r=3 then z+1 else z
theorem wait0 {w:World} {s:Nat} {r0 z0 r1 z1:Int} (h:RowM w s r0 z0 r1 z1) (hz:0≤z0∧z0≤1000000):Calls Tryz.prog 161 #[.pointer (some ⟨s,0,none⟩)] w fun e w'=>e = .returned (.tuple #[])∧RowM w' s r0 (wZ r0 z0) r1 z1∧Only (fun b=>b=s) w w':=by
 have c0:w.cell? ⟨s,0,none⟩=some (.int .i64 r0):=row_cell h 0;have c1:w.cell? ⟨s,1,none⟩=some (.int .i64 z0):=row_cell h 1;have f0:=row_frozen h 0;have f1:=row_frozen h 1;have R:=Lib.hid h;clear h
 by_cases h2:r0=2
 ·subst h2
  have wr:IntKind.i64.wrap (z0+1)=z0+1:=IntWalk.i64_in _ (by omega);have F:Hid (RowM (w.setCell ⟨s,1,none⟩ (.int .i64 (z0+1))) s 2 (wZ 2 z0) r1 z1∧Only (fun b=>b=s) w (w.setCell ⟨s,1,none⟩ (.int .i64 (z0+1)))):=Lib.hid ⟨R.out.set1 _,only_set s 1 _ _⟩;clear R hz
  go_enter Tryz.func161,Tryz.ntmps161
  go_wp2
  first | go_end0 | refine bodyPost_ret (results_none rfl _ _ _) rfl ?_
  exact ⟨rfl,F.out⟩
 ·by_cases h3:r0=3
  ·subst h3
   clear h2;have wr:IntKind.i64.wrap (z0+1)=z0+1:=IntWalk.i64_in _ (by omega);have F:Hid (RowM (w.setCell ⟨s,1,none⟩ (.int .i64 (z0+1))) s 3 (wZ 3 z0) r1 z1∧Only (fun b=>b=s) w (w.setCell ⟨s,1,none⟩ (.int .i64 (z0+1)))):=Lib.hid ⟨R.out.set1 _,only_set s 1 _ _⟩;clear R hz
   go_enter Tryz.func161,Tryz.ntmps161
   go_wp2
   first | go_end0 | refine bodyPost_ret (results_none rfl _ _ _) rfl ?_
   exact ⟨rfl,F.out⟩
  ·have e1:wZ r0 z0=z0:=if_neg (by omega)
   have F:Hid (RowM w s r0 (wZ r0 z0) r1 z1∧Only (fun b=>b=s) w w):=Lib.hid ⟨by rw [e1];exact R.out,Only.refl _ _⟩;have q2:(r0 == 2)=false:=beq_eq_false_iff_ne.2 h2;have q3:(r0 == 3)=false:=beq_eq_false_iff_ne.2 h3;clear R h2 h3 e1
   go_enter Tryz.func161,Tryz.ntmps161
   go_wp2
   first | go_end0 | refine bodyPost_ret (results_none rfl _ _ _) rfl ?_
   exact ⟨rfl,F.out⟩
theorem wait1 {w:World} {s:Nat} {r0 z0 r1 z1:Int} (h:RowM w s r0 z0 r1 z1) (hz:0≤z1∧z1≤1000000):Calls Tryz.prog 161 #[.pointer (some ⟨s,2,none⟩)] w fun e w'=>e = .returned (.tuple #[])∧RowM w' s r0 z0 r1 (wZ r1 z1)∧Only (fun b=>b=s) w w':=by
 have c0:w.cell? ⟨s,2,none⟩=some (.int .i64 r1):=row_cell h 2;have c1:w.cell? ⟨s,3,none⟩=some (.int .i64 z1):=row_cell h 3;have f0:=row_frozen h 2;have f1:=row_frozen h 3;have R:=Lib.hid h;clear h
 by_cases h2:r1=2
 ·subst h2
  have wr:IntKind.i64.wrap (z1+1)=z1+1:=IntWalk.i64_in _ (by omega);have F:Hid (RowM (w.setCell ⟨s,3,none⟩ (.int .i64 (z1+1))) s r0 z0 2 (wZ 2 z1)∧Only (fun b=>b=s) w (w.setCell ⟨s,3,none⟩ (.int .i64 (z1+1)))):=Lib.hid ⟨R.out.set3 _,only_set s 3 _ _⟩;clear R hz
  go_enter Tryz.func161,Tryz.ntmps161
  go_wp2
  first | go_end0 | refine bodyPost_ret (results_none rfl _ _ _) rfl ?_
  exact ⟨rfl,F.out⟩
 ·by_cases h3:r1=3
  ·subst h3
   clear h2;have wr:IntKind.i64.wrap (z1+1)=z1+1:=IntWalk.i64_in _ (by omega);have F:Hid (RowM (w.setCell ⟨s,3,none⟩ (.int .i64 (z1+1))) s r0 z0 3 (wZ 3 z1)∧Only (fun b=>b=s) w (w.setCell ⟨s,3,none⟩ (.int .i64 (z1+1)))):=Lib.hid ⟨R.out.set3 _,only_set s 3 _ _⟩;clear R hz
   go_enter Tryz.func161,Tryz.ntmps161
   go_wp2
   first | go_end0 | refine bodyPost_ret (results_none rfl _ _ _) rfl ?_
   exact ⟨rfl,F.out⟩
  ·have e1:wZ r1 z1=z1:=if_neg (by omega)
   have F:Hid (RowM w s r0 z0 r1 (wZ r1 z1)∧Only (fun b=>b=s) w w):=Lib.hid ⟨by rw [e1];exact R.out,Only.refl _ _⟩;have q2:(r1 == 2)=false:=beq_eq_false_iff_ne.2 h2;have q3:(r1 == 3)=false:=beq_eq_false_iff_ne.2 h3;clear R h2 h3 e1
   go_enter Tryz.func161,Tryz.ntmps161
   go_wp2
   first | go_end0 | refine bodyPost_ret (results_none rfl _ _ _) rfl ?_
   exact ⟨rfl,F.out⟩
theorem hear0 {w:World} {s:Nat} {r0 z0 r1 z1:Int} (h:RowM w s r0 z0 r1 z1):Calls Tryz.prog 162 #[.pointer (some ⟨s,0,none⟩)] w fun e w'=>e = .returned (.tuple #[])∧RowM w' s (hdN r0) (hZ r0 z0) r1 z1∧Only (fun b=>b=s) w w':=by
 have c0:w.cell? ⟨s,0,none⟩=some (.int .i64 r0):=row_cell h 0;have c1:w.cell? ⟨s,1,none⟩=some (.int .i64 z0):=row_cell h 1;have f0:=row_frozen h 0;have f1:=row_frozen h 1;have R:=Lib.hid h;clear h
 by_cases h2:r0=2
 ·subst h2
  have F:Hid (RowM (w.setCell ⟨s,1,none⟩ (.int .i64 0)) s (hdN 2) (hZ 2 z0) r1 z1∧Only (fun b=>b=s) w (w.setCell ⟨s,1,none⟩ (.int .i64 0))):=Lib.hid ⟨R.out.set1 _,only_set s 1 _ _⟩;clear R
  go_enter Tryz.func162,Tryz.ntmps162
  go_wp2
  first | go_end0 | refine bodyPost_ret (results_none rfl _ _ _) rfl ?_
  exact ⟨rfl,F.out⟩
 ·by_cases h3:r0=3
  ·subst h3
   clear h2;have F:Hid (RowM ((w.setCell ⟨s,0,none⟩ (.int .i64 2)).setCell ⟨s,1,none⟩ (.int .i64 0)) s (hdN 3) (hZ 3 z0) r1 z1∧Only (fun b=>b=s) w ((w.setCell ⟨s,0,none⟩ (.int .i64 2)).setCell ⟨s,1,none⟩ (.int .i64 0))):=Lib.hid ⟨(R.out.set0 _).set1 _,(only_set s 0 _ _).trans (only_set s 1 _ _) (fun _ _ q=>q)⟩;clear R
   go_enter Tryz.func162,Tryz.ntmps162
   go_wp2
   first | go_end0 | refine bodyPost_ret (results_none rfl _ _ _) rfl ?_
   exact ⟨rfl,F.out⟩
  ·have e1:hZ r0 z0=z0:=if_neg (by omega)
   have e2:hdN r0=r0:=if_neg h3;have F:Hid (RowM w s (hdN r0) (hZ r0 z0) r1 z1∧Only (fun b=>b=s) w w):=Lib.hid ⟨by rw [e1,e2];exact R.out,Only.refl _ _⟩;have q2:(r0 == 2)=false:=beq_eq_false_iff_ne.2 h2;have q3:(r0 == 3)=false:=beq_eq_false_iff_ne.2 h3;clear R h2 h3 e1 e2
   go_enter Tryz.func162,Tryz.ntmps162
   go_wp2
   first | go_end0 | refine bodyPost_ret (results_none rfl _ _ _) rfl ?_
   exact ⟨rfl,F.out⟩
theorem hear1 {w:World} {s:Nat} {r0 z0 r1 z1:Int} (h:RowM w s r0 z0 r1 z1):Calls Tryz.prog 162 #[.pointer (some ⟨s,2,none⟩)] w fun e w'=>e = .returned (.tuple #[])∧RowM w' s r0 z0 (hdN r1) (hZ r1 z1)∧Only (fun b=>b=s) w w':=by
 have c0:w.cell? ⟨s,2,none⟩=some (.int .i64 r1):=row_cell h 2;have c1:w.cell? ⟨s,3,none⟩=some (.int .i64 z1):=row_cell h 3;have f0:=row_frozen h 2;have f1:=row_frozen h 3;have R:=Lib.hid h;clear h
 by_cases h2:r1=2
 ·subst h2
  have F:Hid (RowM (w.setCell ⟨s,3,none⟩ (.int .i64 0)) s r0 z0 (hdN 2) (hZ 2 z1)∧Only (fun b=>b=s) w (w.setCell ⟨s,3,none⟩ (.int .i64 0))):=Lib.hid ⟨R.out.set3 _,only_set s 3 _ _⟩;clear R
  go_enter Tryz.func162,Tryz.ntmps162
  go_wp2
  first | go_end0 | refine bodyPost_ret (results_none rfl _ _ _) rfl ?_
  exact ⟨rfl,F.out⟩
 ·by_cases h3:r1=3
  ·subst h3
   clear h2;have F:Hid (RowM ((w.setCell ⟨s,2,none⟩ (.int .i64 2)).setCell ⟨s,3,none⟩ (.int .i64 0)) s r0 z0 (hdN 3) (hZ 3 z1)∧Only (fun b=>b=s) w ((w.setCell ⟨s,2,none⟩ (.int .i64 2)).setCell ⟨s,3,none⟩ (.int .i64 0))):=Lib.hid ⟨(R.out.set2 _).set3 _,(only_set s 2 _ _).trans (only_set s 3 _ _) (fun _ _ q=>q)⟩;clear R
   go_enter Tryz.func162,Tryz.ntmps162
   go_wp2
   first | go_end0 | refine bodyPost_ret (results_none rfl _ _ _) rfl ?_
   exact ⟨rfl,F.out⟩
  ·have e1:hZ r1 z1=z1:=if_neg (by omega)
   have e2:hdN r1=r1:=if_neg h3;have F:Hid (RowM w s r0 z0 (hdN r1) (hZ r1 z1)∧Only (fun b=>b=s) w w):=Lib.hid ⟨by rw [e1,e2];exact R.out,Only.refl _ _⟩;have q2:(r1 == 2)=false:=beq_eq_false_iff_ne.2 h2;have q3:(r1 == 3)=false:=beq_eq_false_iff_ne.2 h3;clear R h2 h3 e1 e2
   go_enter Tryz.func162,Tryz.ntmps162
   go_wp2
   first | go_end0 | refine bodyPost_ret (results_none rfl _ _ _) rfl ?_
   exact ⟨rfl,F.out⟩
theorem opn_du (a:A) (z0 z1:Int) (t:Nat) (v:Vm a z0 z1 t):(a.r0=1→opn a=0)∧(a.r0≠1→a.r1=1→opn a=1)∧(a.r0≠1→a.r1≠1→(du a.r0 z0 0=true→opn a=0)∧(du a.r0 z0 0=false→(du a.r1 z1 1=true→opn a=1)∧(du a.r1 z1 1=false→opn a = -1))):=by
 have e0:=v.e0;have e1:=v.e1;have D0:du a.r0 z0 0=true↔d0 a:=by
  unfold du d0;simp only [Bool.or_eq_true,Bool.and_eq_true,decide_eq_true_eq]
  by_cases h2:a.r0=2
  ·rw [e0 (.inl h2)];omega
  ·by_cases h3:a.r0=3
   ·rw [e0 (.inr h3)];omega
   ·omega
 have D1:du a.r1 z1 1=true↔d1 a:=by
  unfold du d1;simp only [Bool.or_eq_true,Bool.and_eq_true,decide_eq_true_eq]
  by_cases h2:a.r1=2
  ·rw [e1 (.inl h2)];omega
  ·by_cases h3:a.r1=3
   ·rw [e1 (.inr h3)];omega
   ·omega
 rcases opn_parts a with ⟨e,g,_⟩ | ⟨e,g0,g,_⟩ | ⟨e,g0,g1,g2,g3,_⟩
 ·refine ⟨fun _=>e,fun n0 y=>?_,fun n0 n1=>⟨fun _=>e,fun y=>?_⟩⟩
  ·rcases g with g | ⟨_,g,_⟩
   ·exact absurd g n0
   ·exact absurd y g
  ·rcases g with g | ⟨_,_,g⟩
   ·exact absurd g n0
   ·rw [D0.2 g] at y;exact Bool.noConfusion y
 ·refine ⟨fun y=>absurd y g0,fun _ _=>e,fun _ n1=>⟨fun y=>?_,fun _=>⟨fun _=>e,fun y=>?_⟩⟩⟩
  ·rcases g with g | ⟨_,g,_⟩
   ·exact absurd g n1
   ·exact absurd (D0.1 y) g
  ·rcases g with g | ⟨_,_,g⟩
   ·exact absurd g n1
   ·rw [D1.2 g] at y;exact Bool.noConfusion y
 ·refine ⟨fun y=>absurd y g0,fun _ y=>absurd y g1,fun _ _=>⟨fun y=>absurd (D0.1 y) g2,fun _=>⟨fun y=>absurd (D1.1 y) g3,fun _=>e⟩⟩⟩
set_option maxHeartbeats 4000000 in
theorem opener_any {w:World} {s t:Nat} {a:A} (P:Pr w s a t):Calls Tryz.prog 160 #[.pointer (some ⟨s,0,none⟩)] w fun e w'=>e = .returned (.int .i64 (opn a))∧Below w.heap.size w w':=by
 obtain ⟨z0,z1,hr,hv⟩:=P;have O:=Lib.hid (opn_du a z0 z1 t hv);have c0:w.cell? ⟨s,0,none⟩=some (.int .i64 a.r0):=row_cell hr 0;have c1:w.cell? ⟨s,1,none⟩=some (.int .i64 z0):=row_cell hr 1;have c2:w.cell? ⟨s,2,none⟩=some (.int .i64 a.r1):=row_cell hr 2;have c3:w.cell? ⟨s,3,none⟩=some (.int .i64 z1):=row_cell hr 3;have R:=Lib.hid hr;clear hr hv;generalize opn a=o at *;generalize a.r0=x0 at *;generalize a.r1=x1 at *;have i0:∀ W:World,(Instr.index 210 (.agg #[.int .i64 x0,.int .i64 z0,.int .i64 x1,.int .i64 z1]) (.int .i64 0)).run Tryz.prog W = .ok (.agg #[.int .i64 x0,.int .i64 z0]) W:=fun W=>rfl;have i1:∀ W:World,(Instr.index 210 (.agg #[.int .i64 x0,.int .i64 z0,.int .i64 x1,.int .i64 z1]) (.int .i64 1)).run Tryz.prog W = .ok (.agg #[.int .i64 x1,.int .i64 z1]) W:=fun W=>rfl
 go_enter Tryz.func160,Tryz.ntmps160
 go_wp2
 go_loopw [11] (fun i wr=>∃ k:Nat,k≤2∧i = .int .i64 k∧Hid (Below w.heap.size w wr)∧Hid (1≤k→x0≠1)∧Hid (2≤k→x1≠1)) (fun i _=>2 - (intOf i).toNat)
 case atStart=>exact ⟨0,by omega,rfl,Lib.hid (Below.refl _ _),Lib.hid (fun h=>by omega),Lib.hid (fun h=>by omega)⟩
 case round =>
  obtain ⟨k,hk,rfl,BB,N0,N1⟩:=hrel
  rcases (by omega:k=0∨k=1∨k=2) with rfl | rfl | h2
  ·have B1:Hid (Below w.heap.size w (wr.alloc (.cells #[.int .i64 x0,.int .i64 z0] 209))):=Lib.hid (BB.out.alloc BB.out.size _)
   by_cases h:x0=1
   ·have E:=Lib.hid (O.out.1 h)
    clear O N0 N1 c0 c1 c2 c3;subst h;go_wp2
    go_ret
    exact ⟨congrArg (fun z=>Ending.returned (.int .i64 z)) E.out.symm,B1.out⟩
   ·have q:(x0 == 1)=false:=beq_eq_false_iff_ne.2 h
    have N:=Lib.hid (fun _:1≤1=>h);clear N0 c0 c1 c2 c3 h;go_wp2
    go_roundw
    case rel=>exact ⟨1,by omega,rfl,B1,N,Lib.hid (fun h=>by omega)⟩
    case measure=>simp [intOf]
  ·have B1:Hid (Below w.heap.size w (wr.alloc (.cells #[.int .i64 x1,.int .i64 z1] 209))):=Lib.hid (BB.out.alloc BB.out.size _)
   by_cases h:x1=1
   ·have E:=Lib.hid (O.out.2.1 (N0.out (by omega)) h)
    clear O N0 N1 c0 c1 c2 c3;subst h;go_wp2
    go_ret
    exact ⟨congrArg (fun z=>Ending.returned (.int .i64 z)) E.out.symm,B1.out⟩
   ·have q:(x1 == 1)=false:=beq_eq_false_iff_ne.2 h
    have N:=Lib.hid (fun _:2≤2=>h);have N':=Lib.hid (fun _:1≤2=>N0.out (by omega));clear N0 c0 c1 c2 c3 h;go_wp2
    go_roundw
    case rel=>exact ⟨2,by omega,rfl,B1,N',N⟩
    case measure=>simp [intOf]
  ·have O2:=Lib.hid (O.out.2.2 (N0.out (by omega)) (N1.out (by omega)))
   have R1:=Lib.hid (R.out.below BB.out);have c0:wr.cell? ⟨s,0,none⟩=some (.int .i64 x0):=row_cell R1.out 0;have c1:wr.cell? ⟨s,1,none⟩=some (.int .i64 z0):=row_cell R1.out 1;have c2:wr.cell? ⟨s,2,none⟩=some (.int .i64 x1):=row_cell R1.out 2;have c3:wr.cell? ⟨s,3,none⟩=some (.int .i64 z1):=row_cell R1.out 3;have hk2:¬ (k:Int) < 2:=by omega
   clear O N0 N1 R R1 h2 hk;go_upto_region 7 with fail;clear hk2;generalize (k:Int)=k2 at *;go_wp2
   go_loopw [24] (fun i wr=>∃ k:Nat,k≤2∧i = .int .i64 k∧Hid (Below w.heap.size w wr)∧Hid (1≤k→du x0 z0 0=false)∧Hid (2≤k→du x1 z1 1=false)) (fun i _=>2 - (intOf i).toNat)
   case atStart=>exact ⟨0,by omega,rfl,BB,Lib.hid (fun h=>by omega),Lib.hid (fun h=>by omega)⟩
   case round =>
    clear BB c0 c1 c2 c3;obtain ⟨k,hk,rfl,BB,N0,N1⟩:=hrel
    rcases (by omega:k=0∨k=1∨k=2) with rfl | rfl | rfl
    ·have B1:Hid (Below w.heap.size w (wr.alloc (.cells #[.int .i64 x0,.int .i64 z0] 209))):=Lib.hid (BB.out.alloc BB.out.size _)
     have D:=Lib.hid (due_any (wr.alloc (.cells #[.int .i64 x0,.int .i64 z0] 209)) x0 z0 0 (by omega));clear N0 N1;generalize hd:du x0 z0 0=d at *;have HD:=Lib.hid hd;clear hd;go_wp2_with fail;refine D.out.mono ?_;rintro e w2 ⟨rfl,b2⟩;have B2:=Lib.hid (B1.out.trans (b2.mono B1.out.size));clear b2 D B1 BB
     cases d with
     | true =>
       have E:=Lib.hid (O2.out.1 rfl);clear O2 HD;go_wp2
       go_ret
       exact ⟨congrArg (fun z=>Ending.returned (.int .i64 z)) E.out.symm,B2.out⟩
     | false =>
       go_wp2
       go_roundw
       case rel=>exact ⟨1,by omega,rfl,B2,Lib.hid (fun _=>trivial),Lib.hid (fun h=>by omega)⟩
       case measure=>simp [intOf]
    ·have B1:Hid (Below w.heap.size w (wr.alloc (.cells #[.int .i64 x1,.int .i64 z1] 209))):=Lib.hid (BB.out.alloc BB.out.size _)
     have D:=Lib.hid (due_any (wr.alloc (.cells #[.int .i64 x1,.int .i64 z1] 209)) x1 z1 1 (by omega));have O3:=Lib.hid (O2.out.2 (N0.out (by omega)));have N':=Lib.hid (fun _:1≤2=>N0.out (by omega));clear N0 N1 O2;generalize hd:du x1 z1 1=d at *;have HD:=Lib.hid hd;clear hd;go_wp2_with fail;refine D.out.mono ?_;rintro e w2 ⟨rfl,b2⟩;have B2:=Lib.hid (B1.out.trans (b2.mono B1.out.size));clear b2 D B1 BB
     cases d with
     | true =>
       have E:=Lib.hid (O3.out.1 rfl);clear O3 HD N';go_wp2
       go_ret
       exact ⟨congrArg (fun z=>Ending.returned (.int .i64 z)) E.out.symm,B2.out⟩
     | false =>
       clear O3;go_wp2
       go_roundw
       case rel=>exact ⟨2,by omega,rfl,B2,N',Lib.hid (fun _=>trivial)⟩
       case measure=>simp [intOf]
    ·have E:=Lib.hid ((O2.out.2 (N0.out (by omega))).2 (N1.out (by omega)))
     clear O2 N0 N1;go_wp2
     go_ret
     exact ⟨congrArg (fun z=>Ending.returned (.int .i64 z)) E.out.symm,BB.out⟩
end Go.Proofs.YtljnkaodhfnbbaaGreatDoor.Wt
namespace Go.Proofs.YtljnkaodhfnbbaaGreatDoor.Wt
open Go.RowKit
open Fl (ret_bool at_bool row_cell row_frozen)
open Fs (Only)
attribute [local irreducible] Sd.wpSd wpQuiet
theorem rnd_cases (a:A):(opn a=0∧rnd a=⟨1,0,hdN a.r1,0⟩)∨(opn a=1∧rnd a=⟨hdN a.r0,0,1,0⟩)∨(opn a = -1∧a.r0≠1∧a.r1≠1∧rnd a=⟨a.r0,a.q0+1,a.r1,a.q1+1⟩):=by
 obtain ⟨r0,q0,r1,q1⟩:=a;unfold opn rnd tk t1 t2 op hd
 by_cases e0:r0=1
 ·exact .inl (by simp [e0])
 ·by_cases e1:r1=1
  ·exact .inr (.inl (by simp [e0,e1]))
  ·by_cases g0:(r0=2∧4≤q0)∨(r0=3∧8≤q0)
   ·exact .inl (by simp [e0,e1,g0])
   ·by_cases g1:(r1=2∧4≤q1)∨(r1=3∧9≤q1)
    ·exact .inr (.inl (by simp [e0,e1,g0,g1]))
    ·exact .inr (.inr (by simp [e0,e1,g0,g1]))
def HM (w:World) (s:Nat) (r0 z0 r1 z1:Int):Nat→Prop
 | 0=>RowM w s r0 z0 r1 z1
 | 1=>RowM w s (hdN r0) (hZ r0 z0) r1 z1
 | _=>RowM w s (hdN r0) (hZ r0 z0) (hdN r1) (hZ r1 z1)
def WM (w:World) (s:Nat) (r0 z0 r1 z1:Int):Nat→Prop
 | 0=>RowM w s r0 z0 r1 z1
 | 1=>RowM w s r0 (wZ r0 z0) r1 z1
 | _=>RowM w s r0 (wZ r0 z0) r1 (wZ r1 z1)
theorem hZ_in {r z:Int} {t:Nat} (h:0≤z∧z≤t):0≤hZ r z∧hZ r z≤((t+1:Nat):Int):=by unfold hZ;split <;> omega
theorem wZ_in {r z:Int} {t:Nat} (h:0≤z∧z≤t):0≤wZ r z∧wZ r z≤((t+1:Nat):Int):=by unfold wZ;split <;> omega
theorem hdN_zero {r z:Int} (h:hdN r=2∨hdN r=3):(0:Int)=hZ r z:=by
 unfold hdN at h;unfold hZ
 split
 ·rfl
 ·rename_i g
  exfalso
  split at h <;> omega
theorem wZ_next {r q z:Int} (e:r=2∨r=3→q=z) (h:r=2∨r=3):q+1=wZ r z:=by
 unfold wZ;rw [if_pos h,e h]
set_option maxHeartbeats 4000000 in
theorem round_any {w:World} {s t:Nat} {a:A} (P:Pr w s a t) (ht:t≤90000):Calls Tryz.prog 116 #[.pointer (some ⟨s,0,none⟩)] w (CdeedPost w s (opn a) (rnd a) (t+1)):=by
 have OP:=Lib.hid (opener_any P);obtain ⟨z0,z1,hr,hv⟩:=P;have R:=Lib.hid hr;have V:=Lib.hid hv;have v0:=hv.b0;have v1:=hv.b1;clear hr hv
 rcases rnd_cases a with ⟨eo,er⟩ | ⟨eo,er⟩ | ⟨eo,g0,g1,er⟩
 ·have FIN:Hid (∀ w',HM w' s 1 0 a.r1 z1 2→Only (fun b=>b=s) w w'→CdeedPost w s (opn a) (rnd a) (t+1) (.returned (.int .i64 0)) w'):=Lib.hid fun w' hh oo=>⟨by rw [eo],by rw [er];exact ⟨_,_,hh,⟨hZ_in ⟨by decide,by omega⟩,hZ_in V.out.b1,(fun g=>absurd g (by show ¬ ((1:Int)=2∨(1:Int)=3);decide)),fun g=>hdN_zero g⟩⟩,oo⟩
  rw [eo] at OP;clear eo er V v0 v1;generalize opn a=op_ at *;generalize rnd a=a' at *;generalize a.r0=x0 at *;generalize a.r1=x1 at *
  go_enter Tryz.func116,Tryz.ntmps116
  go_wp2_with fail;refine OP.out.mono ?_;rintro e w1 ⟨rfl,b1⟩;have R1:=Lib.hid (R.out.below b1);have c0:w1.cell? ⟨s,0,none⟩=some (.int .i64 x0):=row_cell R1.out 0;have c1:w1.cell? ⟨s,1,none⟩=some (.int .i64 z0):=row_cell R1.out 1;have f0:=row_frozen R1.out 0;have f1:=row_frozen R1.out 1;have M0:Hid (HM ((w1.setCell ⟨s,0,none⟩ (.int .i64 1)).setCell ⟨s,1,none⟩ (.int .i64 0)) s 1 0 x1 z1 0):=Lib.hid ((R1.out.set0 1).set1 0);have O0:Hid (Only (fun b=>b=s) w ((w1.setCell ⟨s,0,none⟩ (.int .i64 1)).setCell ⟨s,1,none⟩ (.int .i64 0))):=Lib.hid (((Only.of_below b1).trans (only_set s 0 _ _) (fun _ _ q=>q)).trans (only_set s 1 _ _) (fun _ _ q=>q));clear R R1 OP b1;go_wp2
  go_loopw [17] (fun i wr=>∃ k:Nat,k≤2∧i = .int .i64 k∧Hid (HM wr s 1 0 x1 z1 k)∧Hid (Only (fun b=>b=s) w wr)) (fun i _=>2 - (intOf i).toNat)
  case atStart=>exact ⟨0,by omega,rfl,M0,O0⟩
  case round =>
   clear M0 O0 c0 c1 f0 f1;obtain ⟨k,hk,rfl,M,OO⟩:=hrel
   rcases (by omega:k=0∨k=1∨k=2) with rfl | rfl | rfl
   ·have C:=Lib.hid (hear0 (show RowM wr s 1 0 x1 z1 from M.out))
    clear M;go_wp2_with fail;refine C.out.mono ?_;rintro e w2 ⟨rfl,m2,o2⟩;have M2:Hid (HM w2 s 1 0 x1 z1 1):=Lib.hid m2;have O2:=Lib.hid (only_two OO.out o2);clear m2 o2 C OO;go_wp2
    go_roundw
    case rel=>exact ⟨1,by omega,rfl,M2,O2⟩
    case measure=>simp [intOf]
   ·have C:=Lib.hid (hear1 (show RowM wr s (hdN 1) (hZ 1 0) x1 z1 from M.out))
    clear M;go_wp2_with fail;refine C.out.mono ?_;rintro e w2 ⟨rfl,m2,o2⟩;have M2:Hid (HM w2 s 1 0 x1 z1 2):=Lib.hid m2;have O2:=Lib.hid (only_two OO.out o2);clear m2 o2 C OO;go_wp2
    go_roundw
    case rel=>exact ⟨2,by omega,rfl,M2,O2⟩
    case measure=>simp [intOf]
   ·have F:=Lib.hid (FIN.out wr M.out OO.out)
    clear FIN M OO;go_wp2
    go_ret
    exact F.out
 ·have FIN:Hid (∀ w',HM w' s a.r0 z0 1 0 2→Only (fun b=>b=s) w w'→CdeedPost w s (opn a) (rnd a) (t+1) (.returned (.int .i64 1)) w'):=Lib.hid fun w' hh oo=>⟨by rw [eo],by rw [er];exact ⟨_,_,hh,⟨hZ_in V.out.b0,hZ_in ⟨by decide,by omega⟩,fun g=>hdN_zero g,(fun g=>absurd g (by show ¬ ((1:Int)=2∨(1:Int)=3);decide))⟩⟩,oo⟩
  rw [eo] at OP;clear eo er V v0 v1;generalize opn a=op_ at *;generalize rnd a=a' at *;generalize a.r0=x0 at *;generalize a.r1=x1 at *
  go_enter Tryz.func116,Tryz.ntmps116
  go_wp2_with fail;refine OP.out.mono ?_;rintro e w1 ⟨rfl,b1⟩;have R1:=Lib.hid (R.out.below b1);have c0:w1.cell? ⟨s,2,none⟩=some (.int .i64 x1):=row_cell R1.out 2;have c1:w1.cell? ⟨s,3,none⟩=some (.int .i64 z1):=row_cell R1.out 3;have f0:=row_frozen R1.out 2;have f1:=row_frozen R1.out 3;have M0:Hid (HM ((w1.setCell ⟨s,2,none⟩ (.int .i64 1)).setCell ⟨s,3,none⟩ (.int .i64 0)) s x0 z0 1 0 0):=Lib.hid ((R1.out.set2 1).set3 0);have O0:Hid (Only (fun b=>b=s) w ((w1.setCell ⟨s,2,none⟩ (.int .i64 1)).setCell ⟨s,3,none⟩ (.int .i64 0))):=Lib.hid (((Only.of_below b1).trans (only_set s 2 _ _) (fun _ _ q=>q)).trans (only_set s 3 _ _) (fun _ _ q=>q));clear R R1 OP b1;go_wp2
  go_loopw [17] (fun i wr=>∃ k:Nat,k≤2∧i = .int .i64 k∧Hid (HM wr s x0 z0 1 0 k)∧Hid (Only (fun b=>b=s) w wr)) (fun i _=>2 - (intOf i).toNat)
  case atStart=>exact ⟨0,by omega,rfl,M0,O0⟩
  case round =>
   clear M0 O0 c0 c1 f0 f1;obtain ⟨k,hk,rfl,M,OO⟩:=hrel
   rcases (by omega:k=0∨k=1∨k=2) with rfl | rfl | rfl
   ·have C:=Lib.hid (hear0 (show RowM wr s x0 z0 1 0 from M.out))
    clear M;go_wp2_with fail;refine C.out.mono ?_;rintro e w2 ⟨rfl,m2,o2⟩;have M2:Hid (HM w2 s x0 z0 1 0 1):=Lib.hid m2;have O2:=Lib.hid (only_two OO.out o2);clear m2 o2 C OO;go_wp2
    go_roundw
    case rel=>exact ⟨1,by omega,rfl,M2,O2⟩
    case measure=>simp [intOf]
   ·have C:=Lib.hid (hear1 (show RowM wr s (hdN x0) (hZ x0 z0) 1 0 from M.out))
    clear M;go_wp2_with fail;refine C.out.mono ?_;rintro e w2 ⟨rfl,m2,o2⟩;have M2:Hid (HM w2 s x0 z0 1 0 2):=Lib.hid m2;have O2:=Lib.hid (only_two OO.out o2);clear m2 o2 C OO;go_wp2
    go_roundw
    case rel=>exact ⟨2,by omega,rfl,M2,O2⟩
    case measure=>simp [intOf]
   ·have F:=Lib.hid (FIN.out wr M.out OO.out)
    clear FIN M OO;go_wp2
    go_ret
    exact F.out
 ·have FIN:Hid (∀ w',WM w' s a.r0 z0 a.r1 z1 2→Only (fun b=>b=s) w w'→CdeedPost w s (opn a) (rnd a) (t+1) (.returned (.int .i64 (-1))) w'):=Lib.hid fun w' hh oo=>⟨by rw [eo],by rw [er];exact ⟨_,_,hh,⟨wZ_in V.out.b0,wZ_in V.out.b1,fun g=>wZ_next V.out.e0 g,fun g=>wZ_next V.out.e1 g⟩⟩,oo⟩
  rw [eo] at OP;have V0:Hid (0≤z0∧z0≤1000000):=Lib.hid (by omega);have V1:Hid (0≤z1∧z1≤1000000):=Lib.hid (by omega);clear eo er V v0 v1 g0 g1;generalize opn a=op_ at *;generalize rnd a=a' at *;generalize a.r0=x0 at *;generalize a.r1=x1 at *
  go_enter Tryz.func116,Tryz.ntmps116
  go_wp2_with fail;refine OP.out.mono ?_;rintro e w1 ⟨rfl,b1⟩;have M0:Hid (WM w1 s x0 z0 x1 z1 0):=Lib.hid (R.out.below b1);have O0:Hid (Only (fun b=>b=s) w w1):=Lib.hid (Only.of_below b1);clear R OP b1;go_wp2
  go_loopw [17] (fun i wr=>∃ k:Nat,k≤2∧i = .int .i64 k∧Hid (WM wr s x0 z0 x1 z1 k)∧Hid (Only (fun b=>b=s) w wr)) (fun i _=>2 - (intOf i).toNat)
  case atStart=>exact ⟨0,by omega,rfl,M0,O0⟩
  case round =>
   clear M0 O0;obtain ⟨k,hk,rfl,M,OO⟩:=hrel
   rcases (by omega:k=0∨k=1∨k=2) with rfl | rfl | rfl
   ·have C:=Lib.hid (wait0 (show RowM wr s x0 z0 x1 z1 from M.out) V0.out)
    clear M;go_wp2_with fail;refine C.out.mono ?_;rintro e w2 ⟨rfl,m2,o2⟩;have M2:Hid (WM w2 s x0 z0 x1 z1 1):=Lib.hid m2;have O2:=Lib.hid (only_two OO.out o2);clear m2 o2 C OO;go_wp2
    go_roundw
    case rel=>exact ⟨1,by omega,rfl,M2,O2⟩
    case measure=>simp [intOf]
   ·have C:=Lib.hid (wait1 (show RowM wr s x0 (wZ x0 z0) x1 z1 from M.out) V1.out)
    clear M;go_wp2_with fail;refine C.out.mono ?_;rintro e w2 ⟨rfl,m2,o2⟩;have M2:Hid (WM w2 s x0 z0 x1 z1 2):=Lib.hid m2;have O2:=Lib.hid (only_two OO.out o2);clear m2 o2 C OO;go_wp2
    go_roundw
    case rel=>exact ⟨2,by omega,rfl,M2,O2⟩
    case measure=>simp [intOf]
   ·have F:=Lib.hid (FIN.out wr M.out OO.out)
    clear FIN M OO;go_wp2
    go_ret
    exact F.out
end Go.Proofs.YtljnkaodhfnbbaaGreatDoor.Wt
namespace Go.Proofs.YtljnkaodhfnbbaaGreatDoor.Cu
open Go.RowKit Go.Maps
open Rw (Rd Ow At)
open Fl (row_cell row_frozen)
open Fs (Abs St OkA Only Fx ow_only Glob)
open Pa (Sts S2 sat vat KN KB K2 ptr rdE rdL)
open Re (KI iat seqP)
attribute [local irreducible] Sd.wpSd wpQuiet
theorem opn_cases (a:Wt.A):Wt.opn a = -1∨Wt.opn a=0∨Wt.opn a=1:=by
 unfold Wt.opn Wt.op
 split
 ·exact .inr (.inl rfl)
 ·split
  ·exact .inr (.inr rfl)
  ·exact .inl rfl
theorem at0_lt {c:Cs} {l:List Int} (h:seqP l):at0 c l < l.length:=by
 unfold at0;have:=h.1
 split <;> omega
set_option maxHeartbeats 4000000 in
theorem cround_silent {s t p:Nat} {F:Nat→Prop} {c:Cs} {vn vq:Value} {L:List Nd} {Fs:Nat→Nat→Prop} {w:World} (h:Cl w s F c t vn L p vq Fs) (ok:OkC c t) (ht:t≤1000) (hg:Glob w) (hG:¬ F 1) (ho:Wt.opn c.P = -1) :
 Calls Tryz.prog 59 #[ptr s] w (DoC w s F (rC c) (t+1) (rE c)):=by
 generalize hRC:rC c=cR;generalize hRE:rE c=eR;have RC:=Lib.hid hRC;have RE:=Lib.hid hRE;clear hRC hRE;have d3:=h.cells.2.2.2;have f3:=h.frz 3;have H1:=Lib.hid (h.spoils (v:=.slice none 0 0) (Q:=[]) (Rw.Ow.nil _ _ _) (fun k e=>by simp [Value.ownBlock] at e) (fun i hi k _ e=>by simp [Value.ownBlock] at e));have O1:Hid (Only F w (w.setCell ⟨s,3,none⟩ (.slice none 0 0))):=Lib.hid (Only.set F w (a:=⟨s,3,none⟩) h.fs _);have Q1:Hid (Ow K2 (w.setCell ⟨s,3,none⟩ (.slice none 0 0)) 0 155 vq c.Q):=Lib.hid (ow_only h.sp (fun k e g=>h.vs.2 (by rw [e,g])) (Only.set (fun k=>k=s) w (a:=⟨s,3,none⟩) rfl _));have k1:=H1.out.cells.2.1;have CR:=Lib.hid (Wt.round_any H1.out.pr (by omega));have QF:Hid (∀ k,vq.ownBlock=some k→k≠s∧k≠p):=Lib.hid (fun k e=>⟨fun g=>h.vs.2 (by rw [e,g]),fun g=>h.vp.2 (by rw [e,g])⟩);have HS:=Lib.hid h.fs;have LW:=Lib.hid h.low;have GG:=Lib.hid hg;have HG:=Lib.hid hG;have OK:=Lib.hid ok;obtain ⟨qa,qc,rfl,_⟩:=h.sp.slice;clear h ok hg hG;unfold Wt.CdeedPost at CR;rw [show Wt.opn ({ c with Q:=[] } : Cs).P=_ from ho,show Wt.rnd ({ c with Q:=[] } : Cs).P=Wt.rnd c.P from rfl] at CR;unfold ptr at *;generalize hql:c.Q.length=ql at *;clear hql
 go_enter Tryz.func59,Tryz.ntmps59
 go_upto_region 3 with fail;clear d3 f3;generalize (w.setCell ⟨s,3,none⟩ (.slice none 0 0))=w1 at *;go_wp2_with fail;refine CR.out.mono ?_;rintro e w2 ⟨rfl,pr2,o2⟩;have H2:=Lib.hid (H1.out.pair o2 pr2);have O2:=Lib.hid (O1.out.trans o2 fun k _ e=>by rw [e];exact H1.out.fp);have Q2:=Lib.hid (ow_only Q1.out (fun k e g=>(QF.out k e).2 g) o2);have G2:=Lib.hid (GG.out.only HG.out O2.out);clear pr2 o2 CR H1 O1 Q1 k1;have e1:rE c=0:=by unfold rE;rw [if_pos (by omega)]
 have e2:rC c = { c with P:=Wt.rnd c.P,Q:=[] }:=by unfold rC;rw [if_pos (by omega)]
 rw [RE.out] at e1;rw [RC.out] at e2;subst e1 e2;have C3:=Lib.hid (chas_out H2.out (n:=-1) (Or.inl (by decide)));have E:=Lib.hid (fun w' (b:Below w2.heap.size w2 w')=>doc_of (w:=w) (H2.out.below b) (O2.out.then b) 0);unfold ptr at C3;clear H2 O2 Q2 G2 ho;go_wp2_with fail;refine C3.out.mono ?_;rintro e w3 ⟨rfl,b3⟩;have G:=Lib.hid (E.out w3 b3);clear E C3 b3;go_wp2
 go_ret
 exact G.out
set_option maxHeartbeats 4000000 in
theorem cround_open {s t p:Nat} {F:Nat→Prop} {c:Cs} {vn vq:Value} {L:List Nd} {Fs:Nat→Nat→Prop} {w:World} (h:Cl w s F c t vn L p vq Fs) (ok:OkC c t) (ht:t≤1000) (hg:Glob w) (hG:¬ F 1) {nn:Nat} (ho:Wt.opn c.P=nn) (hn:nn < 2) :
 Calls Tryz.prog 59 #[ptr s] w (DoC w s F (rC c) (t+1) (rE c)):=by
 generalize hRC:rC c=cR;generalize hRE:rE c=eR;have RC:=Lib.hid hRC;have RE:=Lib.hid hRE;clear hRC hRE;have d3:=h.cells.2.2.2;have f3:=h.frz 3;have H1:=Lib.hid (h.spoils (v:=.slice none 0 0) (Q:=[]) (Rw.Ow.nil _ _ _) (fun k e=>by simp [Value.ownBlock] at e) (fun i hi k _ e=>by simp [Value.ownBlock] at e));have O1:Hid (Only F w (w.setCell ⟨s,3,none⟩ (.slice none 0 0))):=Lib.hid (Only.set F w (a:=⟨s,3,none⟩) h.fs _);have Q1:Hid (Ow K2 (w.setCell ⟨s,3,none⟩ (.slice none 0 0)) 0 155 vq c.Q):=Lib.hid (ow_only h.sp (fun k e g=>h.vs.2 (by rw [e,g])) (Only.set (fun k=>k=s) w (a:=⟨s,3,none⟩) rfl _));have k1:=H1.out.cells.2.1;have CR:=Lib.hid (Wt.round_any H1.out.pr (by omega));have QF:Hid (∀ k,vq.ownBlock=some k→k≠s∧k≠p):=Lib.hid (fun k e=>⟨fun g=>h.vs.2 (by rw [e,g]),fun g=>h.vp.2 (by rw [e,g])⟩);have HS:=Lib.hid h.fs;have LW:=Lib.hid h.low;have GG:=Lib.hid hg;have HG:=Lib.hid hG;have OK:=Lib.hid ok;obtain ⟨qa,qc,rfl,_⟩:=h.sp.slice;clear h ok hg hG;unfold Wt.CdeedPost at CR;rw [show Wt.opn ({ c with Q:=[] } : Cs).P=_ from ho,show Wt.rnd ({ c with Q:=[] } : Cs).P=Wt.rnd c.P from rfl] at CR;unfold ptr at *;generalize hql:c.Q.length=ql at *;clear hql
 go_enter Tryz.func59,Tryz.ntmps59
 go_upto_region 3 with fail;clear d3 f3;generalize (w.setCell ⟨s,3,none⟩ (.slice none 0 0))=w1 at *;go_wp2_with fail;refine CR.out.mono ?_;rintro e w2 ⟨rfl,pr2,o2⟩;have H2:=Lib.hid (H1.out.pair o2 pr2);have O2:=Lib.hid (O1.out.trans o2 fun k _ e=>by rw [e];exact H1.out.fp);have Q2:=Lib.hid (ow_only Q1.out (fun k e g=>(QF.out k e).2 g) o2);have G2:=Lib.hid (GG.out.only HG.out O2.out);clear pr2 o2 CR H1 O1 Q1 k1;have hnl:nn < c.S.length:=by have:=OK.out.len;omega
 have OW:own c=(sat c.S nn).1:=by unfold own;rw [ho]
 have C3:=Lib.hid (chas_in H2.out (n:=nn) hnl);have HO:=Lib.hid ho;have HN:=Lib.hid hnl;unfold ptr at C3;go_wp2_with fail;refine C3.out.mono ?_;rintro e w3 ⟨rfl,b3⟩;have H3:=Lib.hid (H2.out.below b3);have O3:=Lib.hid (O2.out.then b3);have Q3:=Lib.hid (Q2.out.keep b3);have C4:=Lib.hid (csequence_any H3.out (nn:=nn) HN.out);rw [show (sat ({ c with Q:=[],P:=Wt.rnd c.P } : Cs).S nn).1=own c from OW.symm] at C4;have OWH:=Lib.hid OW;unfold SqC ptr at C4;clear H2 O2 Q2 G2 C3 b3 OW ho hnl;go_wp2_with fail;refine C4.out.mono ?_;rintro e w4 ⟨b4,hc⟩;have H4:=Lib.hid (H3.out.below b4);have O4:=Lib.hid (O3.out.then b4);have Q4:=Lib.hid (Q3.out.keep b4);have G4:=Lib.hid (GG.out.only HG.out O4.out);clear H3 O3 Q3 C4 b4
 rcases hc with ⟨hs,u,rfl,ru⟩ | ⟨hs,rfl⟩
 ·have SQ:=Lib.hid (sqL_seq hs)
  have er:rE c=rdE c.S (rT c) c.V:=by unfold rE;rw [if_neg (by rw [HO.out];omega),if_pos hs]
  have ec:rC c=⟨caS c.S (rT c) c.V c.Q,c.V,Wt.rnd c.P,at1 c (sqL (own c)),[]⟩:=by unfold rC caS;rw [if_neg (by rw [HO.out];omega),if_pos hs]
  rw [RE.out] at er;rw [RC.out] at ec;have C5:Hid (Calls Tryz.prog 119 #[ptr s,u] w4 (NxC w4 s (iat (sqL (own c)) (at0 c (sqL (own c)))) (at1 c (sqL (own c))))):=Lib.hid (cnext_any H4.out ru SQ.out);have RR:Hid (0≤iat (sqL (own c)) (at0 c (sqL (own c)))∧iat (sqL (own c)) (at0 c (sqL (own c)))≤5):=Lib.hid (SQ.out.2 _ (at0_lt SQ.out));have RT:Hid (rT c=tbs c.S (iat (sqL (own c)) (at0 c (sqL (own c))))):=Lib.hid rfl;obtain ⟨ua,uc,rfl,_⟩:=ru.slice;unfold NxC ptr at C5;have EC:=Lib.hid ec;have ER:=Lib.hid er;clear ru er ec hs;generalize (sqL (own c)).length=ul at *;go_wp2_with fail;refine C5.out.mono ?_;rintro e w5 ⟨rfl,w6,b6,rfl⟩;have H5:=Lib.hid ((H4.out.below b6).place (at1 c (sqL (own c))));have O5:=Lib.hid ((O4.out.then b6).trans (Only.set F w6 (a:=⟨s,2,none⟩) HS.out (.int .i64 (at1 c (sqL (own c))))) fun _ _ g=>g);have Q5:=Lib.hid (ow_only (Q4.out.keep b6) (fun k e g=>(QF.out k e).1 g) (Only.set (fun k=>k=s) w6 (a:=⟨s,2,none⟩) rfl (.int .i64 (at1 c (sqL (own c))))));have G5:=Lib.hid (GG.out.only HG.out O5.out);clear H4 O4 Q4 G4 b6 C5;generalize (w6.setCell ⟨s,2,none⟩ (.int .i64 (at1 c (sqL (own c)))))=w7 at *;have C6:=Lib.hid (ccarry_any H5.out OK.out.len OK.out.lv (fun i hi=>by have:=OK.out.st i hi;exact ⟨this.2.1,Int.lt_of_le_of_lt this.2.2 (by omega)⟩) G5.out RR.out Q5.out.rd);unfold ptr at C6;rw [← RT.out] at C6;clear H5 Q5 G5 RR;generalize iat (sqL (own c)) (at0 c (sqL (own c)))=r at *;go_wp2_with fail;refine C6.out.mono ?_;rintro e w8 d8;have G:Hid (DoC w s F cR (t+1) eR e w8):=Lib.hid (by rw [EC.out,ER.out];exact d8.preO O5.out LW.out);obtain ⟨rfl,_,_⟩:=d8;clear C6;go_wp2
  go_ret
  exact G.out
 ·have er:rE c=2:=by unfold rE;rw [if_neg (by rw [HO.out];omega),if_neg (by rw [hs];decide)]
  have ec:rC c = { c with P:=Wt.rnd c.P,Q:=[] }:=by unfold rC;rw [if_neg (by rw [HO.out];omega),if_neg (by rw [hs];decide)]
  rw [RE.out] at er;rw [RC.out] at ec;subst er ec;have C5:=Lib.hid (cnumber_any nn 2 w4 G4.out);have E:=Lib.hid (fun w' (b:Below w4.heap.size w4 w')=>doc_of (w:=w) (H4.out.below b) (O4.out.then b) 2);unfold flaw flw at *;clear H4 O4 Q4 G4 hs;go_wp2_with fail;refine C5.out.mono ?_;rintro e w5 ⟨rfl,b5⟩;have G:=Lib.hid (E.out w5 b5);clear E C5 b5;go_wp2
  go_ret
  exact G.out
theorem cround_any {s t p:Nat} {F:Nat→Prop} {c:Cs} {vn vq:Value} {L:List Nd} {Fs:Nat→Nat→Prop} {w:World} (h:Cl w s F c t vn L p vq Fs) (ok:OkC c t) (ht:t≤1000) (hg:Glob w) (hG:¬ F 1) :
 Calls Tryz.prog 59 #[ptr s] w (DoC w s F (rC c) (t+1) (rE c)):=by
 rcases opn_cases c.P with ho | ho | ho
 ·exact cround_silent h ok ht hg hG ho
 ·exact cround_open h ok ht hg hG (nn:=0) ho (by decide)
 ·exact cround_open h ok ht hg hG (nn:=1) ho (by decide)
end Go.Proofs.YtljnkaodhfnbbaaGreatDoor.Cu
namespace Go.Proofs.YtljnkaodhfnbbaaGreatDoor.Cu
open Go.RowKit Go.Maps
open Rw (Rd Ow At)
open Fl (R4 K4 okL okR z4 rec4 arr4 row_cell row_frozen)
open Fs (Abs St OkA Only Fx ow_only Wf Glob sA sB)
open Pa (Sts S2 sat vat KN KB K2 ptr)
attribute [local irreducible] Sd.wpSd wpQuiet Sz.wpSz
section
variable {s t p:Nat} {F G:Nat→Prop} {c:Cs} {vn vq:Value} {L:List Nd} {Fs:Nat→Nat→Prop} {w w1 w':World}
theorem act_write {x:Ac} (hk:x.k=2) (hn:¬ no c x.n):(vat c.V x.n=true→actE x c=(if sB (sat c.S x.n).1 x.f x.r=true then 0 else 3)∧actC x c = { c with S:=setS c.S x.n (sA (sat c.S x.n).1 x.f x.r x.v,(sat c.S x.n).2) })∧(vat c.V x.n=false→actE x c=10∧actC x c=c):=by
 have hin:0≤x.n∧x.n < c.S.length:=by unfold no at hn;omega
 have he:actE x c=if vat c.V x.n=true then (if sB (sat c.S x.n).1 x.f x.r=true then 0 else 3) else 10:=by
  unfold actE;rw [if_neg (by omega),if_neg (by omega),if_neg (by rintro (g | g | g);omega;omega;exact hn g),if_pos hk]
 refine ⟨fun hv=>?_,fun hv=>?_⟩
 ·rw [hv,if_pos rfl] at he
  refine ⟨he,?_⟩;unfold actC
  cases g:sB (sat c.S x.n).1 x.f x.r with
  | true =>
    rw [g,if_pos rfl] at he;rw [if_neg (by omega),if_neg (by rw [he];simp),if_neg (by omega),if_pos hk]
  | false =>
    rw [g,if_neg Bool.false_ne_true] at he;rw [if_neg (by omega),if_pos (by rw [he];decide)];have e1:sA (sat c.S x.n).1 x.f x.r x.v=(sat c.S x.n).1:=by
     unfold sA
     split
     ·rfl
     ·rw [g];rfl
    have e2:setS c.S x.n (sA (sat c.S x.n).1 x.f x.r x.v,(sat c.S x.n).2)=c.S:=by
     rw [e1];unfold setS
     show c.S.set x.n.toNat (sat c.S x.n)=c.S
     unfold sat;rw [List.getD_eq_getElem?_getD,List.getElem?_eq_getElem (by omega)];exact List.set_getElem_self (by omega)
    rw [e2]
 ·rw [hv,if_neg Bool.false_ne_true] at he
  refine ⟨he,?_⟩;unfold actC;rw [if_neg (by omega),if_pos (by rw [he];decide)]
theorem act_drift {x:Ac} (hk:x.k=6) (hn:¬ no c x.n):actE x c=(if x.t < -2000∨2000 < x.t then 1 else 0)∧actC x c=c:=by
 have he:actE x c=if x.t < -2000∨2000 < x.t then 1 else 0:=by
  unfold actE;rw [if_neg (by omega),if_neg (by omega),if_neg (by rintro (g | g | g);omega;omega;exact hn g),if_neg (by omega),if_neg (by omega),if_neg (by omega)]
 refine ⟨he,?_⟩;unfold actC;rw [if_neg (by omega)]
 by_cases e:actE x c≠0
 ·rw [if_pos e]
 ·rw [if_neg e,if_neg (by omega),if_neg (by omega),if_neg (by omega),if_neg (by omega)]
theorem Cl.wr {nn:Nat} (h:Cl w s F c t vn L p vq Fs) (hn:nn < c.S.length) {q:Nat} (hq:q=(nda L nn).s) {f r:Int} {x:R4} {e:Ending} (hw:WrC w q (Fs nn) (sat c.S nn).1 (sat c.S nn).2 f r x e w'):DoC w s F { c with S:=setS c.S nn (sA (sat c.S nn).1 f r x,(sat c.S nn).2) } t (if sB (sat c.S nn).1 f r=true then 0 else 3) e w':=by
 subst hq;obtain ⟨h1,h2,h3⟩:=hw;have hl:=h.len;exact ⟨h1,⟨_,_,_,_,_,h.store (i:=nn) (by omega) (x:=(sA (sat c.S nn).1 f r x,(sat c.S nn).2)) h2 h3⟩,h3.mono fun k _ g=>h.ff nn (by omega) k g⟩
set_option maxHeartbeats 2000000 in
theorem cdo_write (h:Cl w s F c t vn L p vq Fs) (x:Ac) (hk:x.k=2) (hn:¬ no c x.n) (hx:okR x.v) (hf:Wf x.f):Calls Tryz.prog 17 #[ptr s,actV x] w (DoC w s F (actC x c) (t+1) (actE x c)):=by
 have B0:=Lib.hid ((Below.refl w.heap.size w).alloc (Nat.le_refl _) (.cells (actA x) 44));have X0:=Lib.hid (heap_alloc_new w (.cells (actA x) 44));have hn':0≤x.n∧x.n < c.S.length:=by unfold no at hn;omega
 obtain ⟨nn,hnn⟩:∃ nn:Nat,(nn:Int)=x.n:=⟨x.n.toNat,by omega⟩;have hnl:nn < c.S.length:=by omega
 obtain ⟨g,cap,rfl,hcap,hm,-⟩:=h.one hnl;have hL:=h.len;have C1:=Lib.hid (chas_in (h.below B0.out) (n:=nn) hnl);rw [hnn] at C1
 have CW:Hid (∀ W,Below (w.alloc (.cells (actA x) 44)).heap.size (w.alloc (.cells (actA x) 44)) W→Calls Tryz.prog 62 #[.pointer (some ⟨g,nn * 3,none⟩),.int .i64 x.f,.int .i64 x.r,rec4 x.v] W (fun e w'=>DoC W s F (actC x c) t (actE x c) e w'∧Only (Fs nn) W w')):=Lib.hid (fun W b=>by
  have hh:=(h.below B0.out).below b;obtain ⟨q0,q1,_⟩:=hh.nod hnl;rw [hh.lv nn (by omega),hnn] at q1;obtain ⟨a1,a2⟩:=act_write hk hn
  cases hv:vat c.V x.n with
  | true =>
    rw [(a1 hv).1,(a1 hv).2];rw [hv] at q1;refine (cwrite_yes (hh.sto hnl) g (nn * 3) q0 q1 (fun e=>(h.off nn (by omega) g e).2.2.1 rfl) hf x.r x.v hx).mono fun e w' hw=>⟨?_,hw.2.2⟩;rw [← hnn];exact hh.wr hnl rfl hw
  | false =>
    rw [(a2 hv).1,(a2 hv).2];rw [hv] at q1;refine (cwrite_no W g (nn * 3) x.f x.r x.v q1).mono fun e w' hw=>?_;obtain ⟨rfl,b'⟩:=hw
    exact ⟨doc_below hh b' 10,Only.of_below b'⟩)
 have NG:Hid (¬ (Fs nn) s∧¬ (Fs nn) w.heap.size):=Lib.hid ⟨fun e=>(h.off nn (by omega) s e).1 rfl,fun e=>by have:=(h.st nn (by omega)).low _ e;omega⟩;have E:=Lib.hid (fun w1 (b:Below w.heap.size w w1) e w' (d:DoC w1 s F (actC x c) t (actE x c) e w')=>(d.pre b h.low).late);have D0:=Lib.hid (fun w1 b=>(h.below (w':=w1) b).cells.1);clear h hn hn' hL;generalize actC x c=c' at *;generalize actE x c=ae at *;generalize hGG:(Fs nn)=GG at *;clear hGG;have HNL:=Lib.hid hnl;have p5:decide (c.S.length≤nn)=false:=decide_eq_false (by omega);generalize c.S.length=ln at *;unfold actV actA at *;unfold ptr at *;obtain ⟨k,n,f,rr,v,s',m,tt⟩:=x;simp only at hk hnn B0 X0 C1 CW E ⊢;subst hk hnn
 (try unfold rec4 at CW)
 go_enter Tryz.func17,Tryz.ntmps17
 go_wp2_with fail;refine C1.out.mono ?_;rintro e w1 ⟨rfl,b1⟩;have BW:=Lib.hid (B0.out.trans (b1.mono B0.out.size));have X1:=Lib.hid ((b1.block _ (lt_of_block X0.out)).trans X0.out);have CX:=Lib.hid (fun W (b:Below w1.heap.size w1 W)=>CW.out W (b1.trans (b.mono b1.size)));have d0:=D0.out w1 BW.out;clear b1 C1 CW D0 X0 B0;generalize hgx:w.heap.size=gx at X1 NG ⊢;have HGX:=Lib.hid hgx;clear hgx;have y0:w1.cell? ⟨gx,0,none⟩=some (.int .i64 2):=row_cell X1.out 0;have Q0:=Lib.hid d0;go_upto_region 12 with fail;clear y0 d0;have BD:=Lib.hid (Below.refl w1.heap.size w1).drew;have OD:Hid (Only GG w1 w1.drew):=Lib.hid (Only.of_below BD.out);have s0:=Sc.cell_in (C:=fun W'=>Only GG w1 W') (a:=⟨s,0,none⟩) (fun W' o=>o.cell Q0.out NG.out.1);have x1:=Sc.cell_in (C:=fun W'=>Only GG w1 W') (a:=⟨gx,1,none⟩) (fun W' o=>o.cell (row_cell X1.out 1) NG.out.2);have x2:=Sc.cell_in (C:=fun W'=>Only GG w1 W') (a:=⟨gx,2,none⟩) (fun W' o=>o.cell (row_cell X1.out 2) NG.out.2);have x3:=Sc.cell_in (C:=fun W'=>Only GG w1 W') (a:=⟨gx,3,none⟩) (fun W' o=>o.cell (row_cell X1.out 3) NG.out.2);have x4:=Sc.cell_in (C:=fun W'=>Only GG w1 W') (a:=⟨gx,4,none⟩) (fun W' o=>o.cell (row_cell X1.out 4) NG.out.2);have x5:=Sc.cell_in (C:=fun W'=>Only GG w1 W') (a:=⟨gx,5,none⟩) (fun W' o=>o.cell (row_cell X1.out 5) NG.out.2);have x6:=Sc.cell_in (C:=fun W'=>Only GG w1 W') (a:=⟨gx,6,none⟩) (fun W' o=>o.cell (row_cell X1.out 6) NG.out.2);have x7:=Sc.cell_in (C:=fun W'=>Only GG w1 W') (a:=⟨gx,7,none⟩) (fun W' o=>o.cell (row_cell X1.out 7) NG.out.2);have ne:Nonempty (Sc.In (fun W'=>Only GG w1 W')):=⟨⟨_,OD.out⟩⟩;have CY:=Lib.hid (CX.out w1.drew BD.out);clear CX Q0;refine Sc.start (fun W'=>Only GG w1 W') [(false,0),(false,1),(false,2),(false,3),(false,4),(false,5),(false,6),(false,7),(false,8),(false,9),(false,10),(false,11),(false,12),(true,13),(false,14)] (by kernel_rfl) (by kernel_rfl) (by kernel_rfl) OD.out ?_;dsimp only [Sd.picks,List.getElem?_cons_succ,List.getElem?_cons_zero]
 iterate 13 (refine Sd.lit ?_;quiet_step (fail);refine wpQuiet_nil ?_)
 clear s0 x1 x2 x3 x4 x5 x6 x7;refine Sd.call (by rfl) (fun K hK=>?_);go_simp;refine CY.out.mono ?_;rintro e w5 ⟨d5,o5⟩;have R:=Lib.hid (E.out w1.drew (BW.out.trans (BD.out.mono BW.out.size)) e w5 d5);obtain ⟨rfl,_,_⟩:=d5;refine hK _ _ (Sc.Cl.of (OD.out.trans o5 fun k _ g=>g)) ?_;clear hK K o5 CY E
 iterate 1 (refine Sd.lit ?_;quiet_step (fail);refine wpQuiet_nil ?_)
 refine Sd.done ?_;go_wp2
 go_ret
 exact R.out
set_option maxHeartbeats 2000000 in
theorem cdo_drift (h:Cl w s F c t vn L p vq Fs) (x:Ac) (hk:x.k=6) (hn:¬ no c x.n):Calls Tryz.prog 17 #[ptr s,actV x] w (DoC w s F (actC x c) (t+1) (actE x c)):=by
 have B0:=Lib.hid ((Below.refl w.heap.size w).alloc (Nat.le_refl _) (.cells (actA x) 44));have X0:=Lib.hid (heap_alloc_new w (.cells (actA x) 44));have hn':0≤x.n∧x.n < c.S.length:=by unfold no at hn;omega
 obtain ⟨nn,hnn⟩:∃ nn:Nat,(nn:Int)=x.n:=⟨x.n.toNat,by omega⟩;have hnl:nn < c.S.length:=by omega
 obtain ⟨g,cap,rfl,hcap,hm,-⟩:=h.one hnl;have hL:=h.len;have C1:=Lib.hid (chas_in (h.below B0.out) (n:=nn) hnl);rw [hnn] at C1
 have CW:Hid (∀ W,Below (w.alloc (.cells (actA x) 44)).heap.size (w.alloc (.cells (actA x) 44)) W→Calls Tryz.prog 65 #[.pointer (some ⟨g,nn * 3,none⟩),.int .i64 x.t] W (fun e w'=>DoC W s F (actC x c) t (actE x c) e w'∧Only (fun k=>k=g) W w')):=Lib.hid (fun W b=>by
  have hh:=(h.below B0.out).below b;obtain ⟨_,_,q2⟩:=hh.nod hnl;obtain ⟨a1,a2⟩:=act_drift hk hn;rw [a1,a2];have fz:W.frozen? ⟨g,nn * 3+2,none⟩=false:=by
   obtain ⟨g',cap',e',_,_,_,_,_,fz⟩:=hh.one hnl;injection e' with e1 _ _;injection e1 with e1;injection e1 with e1 _ _;subst e1;exact fz _
  by_cases hx : -2000≤x.t∧x.t≤2000
  ·rw [if_neg (by omega)]
   refine (cdrift_yes W g (nn * 3) x.t _ q2 fz (cal_of.2 hx)).mono fun e w' hw=>?_;obtain ⟨rfl,rfl⟩:=hw;have z:=hh.setRate rfl hnl hx;exact ⟨doc_of z.1 z.2 0,Only.set (fun k=>k=g) W (a:=⟨g,nn * 3+2,none⟩) rfl _⟩
  ·rw [if_pos (by omega)]
   have hc:cal x.t=false:=by
    cases hc:cal x.t with
    | false=>rfl
    | true=>exact absurd (cal_of.1 hc) hx
   refine (cdrift_no W g (nn * 3) x.t hc).mono fun e w' hw=>?_;obtain ⟨rfl,rfl⟩:=hw
   exact ⟨doc_below hh (Below.refl _ _) 1,Only.refl _ _⟩)
 have NG:Hid (¬ (fun k=>k=g) s∧¬ (fun k=>k=g) w.heap.size):=Lib.hid ⟨fun e=>h.vs.1 (by rw [e];rfl),fun e=>by have:=h.low g (h.fv g (.inl rfl));omega⟩;have E:=Lib.hid (fun w1 (b:Below w.heap.size w w1) e w' (d:DoC w1 s F (actC x c) t (actE x c) e w')=>(d.pre b h.low).late);have D0:=Lib.hid (fun w1 b=>(h.below (w':=w1) b).cells.1);clear h hn hn' hL;generalize actC x c=c' at *;generalize actE x c=ae at *;generalize hGG:(fun k=>k=g)=GG at *;clear hGG;have HNL:=Lib.hid hnl;have p5:decide (c.S.length≤nn)=false:=decide_eq_false (by omega);generalize c.S.length=ln at *;unfold actV actA at *;unfold ptr at *;obtain ⟨k,n,f,rr,v,s',m,tt⟩:=x;simp only at hk hnn B0 X0 C1 CW E ⊢;subst hk hnn
 (try unfold rec4 at CW)
 go_enter Tryz.func17,Tryz.ntmps17
 go_wp2_with fail;refine C1.out.mono ?_;rintro e w1 ⟨rfl,b1⟩;have BW:=Lib.hid (B0.out.trans (b1.mono B0.out.size));have X1:=Lib.hid ((b1.block _ (lt_of_block X0.out)).trans X0.out);have CX:=Lib.hid (fun W (b:Below w1.heap.size w1 W)=>CW.out W (b1.trans (b.mono b1.size)));have d0:=D0.out w1 BW.out;clear b1 C1 CW D0 X0 B0;generalize hgx:w.heap.size=gx at X1 NG ⊢;have HGX:=Lib.hid hgx;clear hgx;have y0:w1.cell? ⟨gx,0,none⟩=some (.int .i64 6):=row_cell X1.out 0;have Q0:=Lib.hid d0;go_upto_region 18 with fail;clear y0 d0;have BD:=Lib.hid (Below.refl w1.heap.size w1).drew;have OD:Hid (Only GG w1 w1.drew):=Lib.hid (Only.of_below BD.out);have s0:=Sc.cell_in (C:=fun W'=>Only GG w1 W') (a:=⟨s,0,none⟩) (fun W' o=>o.cell Q0.out NG.out.1);have x1:=Sc.cell_in (C:=fun W'=>Only GG w1 W') (a:=⟨gx,1,none⟩) (fun W' o=>o.cell (row_cell X1.out 1) NG.out.2);have x10:=Sc.cell_in (C:=fun W'=>Only GG w1 W') (a:=⟨gx,10,none⟩) (fun W' o=>o.cell (row_cell X1.out 10) NG.out.2);have ne:Nonempty (Sc.In (fun W'=>Only GG w1 W')):=⟨⟨_,OD.out⟩⟩;have CY:=Lib.hid (CX.out w1.drew BD.out);clear CX Q0;refine Sc.start (fun W'=>Only GG w1 W') [(false,0),(false,1),(false,2),(false,3),(false,4),(false,5),(false,6),(false,7),(false,8),(true,9),(false,10)] (by kernel_rfl) (by kernel_rfl) (by kernel_rfl) OD.out ?_;dsimp only [Sd.picks,List.getElem?_cons_succ,List.getElem?_cons_zero]
 iterate 9 (refine Sd.lit ?_;quiet_step (fail);refine wpQuiet_nil ?_)
 clear s0 x1 x10;refine Sd.call (by rfl) (fun K hK=>?_);go_simp;refine CY.out.mono ?_;rintro e w5 ⟨d5,o5⟩;have R:=Lib.hid (E.out w1.drew (BW.out.trans (BD.out.mono BW.out.size)) e w5 d5);obtain ⟨rfl,_,_⟩:=d5;refine hK _ _ (Sc.Cl.of (OD.out.trans o5 fun k _ g=>g)) ?_;clear hK K o5 CY E
 iterate 1 (refine Sd.lit ?_;quiet_step (fail);refine wpQuiet_nil ?_)
 refine Sd.done ?_;go_wp2
 go_ret
 exact R.out
theorem cdo_round (h:Cl w s F c t vn L p vq Fs) (ok:OkC c t) (ht:t≤1000) (hg:Glob w) (hG:¬ F 1) (x:Ac) (hk:x.k=1):Calls Tryz.prog 17 #[ptr s,actV x] w (DoC w s F (actC x c) (t+1) (actE x c)):=by
 have B0:=Lib.hid ((Below.refl w.heap.size w).alloc (Nat.le_refl _) (.cells (actA x) 44));have e1:actE x c=rE c:=if_pos hk;have e2:actC x c=rC c:=if_pos hk;rw [e1,e2];have C2:=Lib.hid (cround_any (h.below B0.out) ok ht (hg.below B0.out) hG);have E:=Lib.hid (fun e w' (d:DoC (w.alloc (.cells (actA x) 44)) s F (rC c) (t+1) (rE c) e w')=>d.pre B0.out h.low);clear h ok hg e1 e2;generalize rC c=c' at *;generalize rE c=ae at *;unfold actV actA at *;unfold ptr at *;obtain ⟨k,n,f,rr,v,s',m,tt⟩:=x;simp only at hk B0 C2 E ⊢;subst hk
 go_enter Tryz.func17,Tryz.ntmps17
 go_wp2_with fail;refine C2.out.mono ?_;rintro e w2 d;have G:=Lib.hid (E.out e w2 d);obtain ⟨rfl,_,_⟩:=d;clear E C2;go_wp2
 go_ret
 exact G.out
theorem cdo_any (h:Cl w s F c t vn L p vq Fs) (ok:OkC c t) (sy:Syn c) (ht:t≤1000) (hg:Glob w) (hG:¬ F 1) (x:Ac) (hx:okR x.v) (hf:Wf x.f):Calls Tryz.prog 17 #[ptr s,actV x] w (DoC w s F (actC x c) (t+1) (actE x c)):=by
 by_cases h1:x.k=1
 ·exact cdo_round h ok ht hg hG x h1
 by_cases h3:x.k=3
 ·exact cdo_spoil h ok x h3
 by_cases hn:no c x.n
 ·exact cdo_none h x h1 h3 hn
 by_cases h2:x.k=2
 ·exact cdo_write h x h2 hn hx hf
 by_cases h4:x.k=4
 ·exact cdo_crash h ok sy x h4 hn
 by_cases h5:x.k=5
 ·exact cdo_restart h ok sy x h5 hn
 by_cases h6:x.k=6
 ·exact cdo_drift h x h6 hn
 ·exact cdo_kind h x h1 h3 (by omega) hn
end
end Go.Proofs.YtljnkaodhfnbbaaGreatDoor.Cu
namespace Go.Proofs.YtljnkaodhfnbbaaGreatDoor.Cu
open Go.RowKit
open Rw (Rd Ow At)
open Fl (R4 K4 okL okR z4)
open Fs (Ent Abs St OkA Only Fx E3 Glob Wf FilesPost)
open Pa (ptr sat vat Fls eatF)
open Ck (Hd sl zh)
def CH (w0:World) (s:Nat) (c:Cs) (t:Nat) (W:World):Prop:=∃ F,ClE W s F c t∧(∀ k,F k→w0.heap.size≤k)∧Below w0.heap.size w0 W
section
variable {w0 W w':World} {s t:Nat} {c:Cs}
theorem CH.below (h:CH w0 s c t W) (b:Below W.heap.size W w'):CH w0 s c t w':=by
 obtain ⟨F,⟨vn,L,p,vq,Fs,h1⟩,h2,h3⟩:=h;exact ⟨F,⟨vn,L,p,vq,Fs,h1.below b⟩,h2,h3.trans (b.mono h3.size)⟩
theorem CH.bel (h:CH w0 s c t W):Below w0.heap.size w0 W:=by obtain ⟨_,_,_,h⟩:=h;exact h
theorem ch_do (h:CH w0 s c t W) (hg:Glob w0) (ok:OkC c t) (sy:Syn c) (ht:t≤1000) (x:Ac) (hx:okR x.v) (hf:Wf x.f):Calls Tryz.prog 17 #[ptr s,actV x] W fun e w'=>e = .returned (.int .i64 (actE x c))∧CH w0 s (actC x c) (t+1) w':=by
 obtain ⟨F,⟨vn,L,p,vq,Fs,h1⟩,h2,h3⟩:=h;have gl:=World.block_lt_of_cell? _ _ hg;refine (cdo_any h1 ok sy ht (hg.below h3) (fun g=>by have:=h2 _ g;exact absurd gl (by show ¬ 1 < _;omega)) x hx hf).mono fun e w' d=>⟨d.1,Fx F W w',d.2.1,fun k g=>?_,h3.trans (d.2.2.below h3.size h2)⟩;have:=h3.size
 rcases g with g | g
 ·exact h2 k g
 ·omega
theorem ch_files (h:CH w0 s c t W) {n:Nat} (hn:n < c.S.length):Calls Tryz.prog 21 #[ptr s,.int .i64 n] W (FilesPost W (sat c.S n).1):=by
 obtain ⟨F,⟨vn,L,p,vq,Fs,h1⟩,_,_⟩:=h;exact cfiles_in h1 hn
theorem ch_role (h:CH w0 s c t W) (n:Int):Calls Tryz.prog 23 #[ptr s,.int .i64 n] W fun e w'=>e = .returned (.int .i64 (Wt.rl c.P n))∧Below W.heap.size W w':=by
 obtain ⟨F,⟨vn,L,p,vq,Fs,h1⟩,_,_⟩:=h;exact crole_any h1 n
theorem ch_new {v:Value} {L:List PlD} {B:Nat} (H:Pls W v L B) (e0:newE (pls L)=0) (b:Below w0.heap.size w0 W):Calls Tryz.prog 12 #[v] W fun e w'=>∃ s,e = .returned (.tuple #[.pointer (some ⟨s,0,none⟩),.int .i64 0])∧CH w0 s (newC (pls L)) 0 w':=by
 refine (cnew_any H).mono fun e w' d=>?_;obtain ⟨b',⟨_,s,F,rfl,cl,lo⟩ | ⟨h,_⟩⟩:=d
 ·exact ⟨s,rfl,F,cl,fun k g=>Nat.le_trans b.size (lo k g),b.trans (b'.mono b.size)⟩
 ·exact absurd e0 h
end
theorem fls_of {w:World} {v:Value} {L:List Ent} (rd:Rd E3 w v L) (each:∀ c∈L,Rd K4 w c.sl c.l∧okL c.l):Fls w v L w.heap.size:=by
 have at_:∀ i,i < L.length→eatF L i∈L:=fun i hi=>by
  unfold eatF;rw [List.getD_eq_getElem?_getD,List.getElem?_eq_getElem hi];exact List.getElem_mem hi
 exact ⟨rd,fun i hi=>each _ (at_ i hi),fun i hi h0 k hk=>Fs.rd_low (each _ (at_ i hi)).1 h0 k hk⟩
theorem pls_of {w:World} {v:Value} {L:List PlD} (rd:Rd KP w v L) (each:∀ c∈L,Fls w (sl c.files) c.F w.heap.size):Pls w v L w.heap.size:=by
 refine ⟨rd,fun i hi=>each _ ?_⟩;unfold pld;rw [List.getD_eq_getElem?_getD,List.getElem?_eq_getElem hi];exact List.getElem_mem hi
theorem run_buildA (k n f r a b c d:Int) (w:World):(Instr.build 44 #[(0,.int .i64 k),(1,.int .i64 n),(2,.int .i64 f),(3,.int .i64 r),(4,.agg #[.int .u8 a,.int .u8 b,.int .u8 c,.int .u8 d])]).run Tryz.prog w = .ok (.agg #[.int .i64 k,.int .i64 n,.int .i64 f,.int .i64 r,.int .u8 a,.int .u8 b,.int .u8 c,.int .u8 d,.int .i64 0,.int .i64 0,.int .i64 0]) w:=by kernel_rfl
theorem run_buildB (k:Int) (w:World):(Instr.build 44 #[(0,.int .i64 k)]).run Tryz.prog w = .ok (.agg #[.int .i64 k,.int .i64 0,.int .i64 0,.int .i64 0,.int .u8 0,.int .u8 0,.int .u8 0,.int .u8 0,.int .i64 0,.int .i64 0,.int .i64 0]) w:=by kernel_rfl
end Go.Proofs.YtljnkaodhfnbbaaGreatDoor.Cu
namespace Go.Proofs.YtljnkaodhfnbbaaGreatDoor.Cu
open Fl (R4 z4 okR okL goodF hdr rat newL)
open Fs (Fil Abs OkA key look_none sB sA gB)
open Pa (Sts S2 sat vat rdE rdL rdS rdS_len rdS_at apS hr recA recV rec_none rec_congr)
open Ro (E5 tabL)
open Ck (LL lat tE)
open Re (iat sL sN seqP fileL)
theorem fP_none {A:Abs} {n:Int} (h:fB A n=false):fP A n=0∧fR A n = []:=by
 unfold fB at h;unfold fP fR
 cases e:Fs.look key n A with
 | none=>exact ⟨rfl,rfl⟩
 | some x=>rw [e] at h;cases h
theorem tab_none:tabL 0 [] = []:=by
 unfold tabL Ro.tabO;rw [if_neg (by unfold goodF;simp)]
 rfl
theorem tbs_blank {S:Sts} {n:Int} (h:∀ x∈S,fB x.1 (32+n)=false):tbs S n=List.replicate S.length []:=by
 unfold tbs;rw [List.eq_replicate_iff];refine ⟨List.length_map _,fun y hy=>?_⟩;obtain ⟨x,hx,rfl⟩:=List.mem_map.1 hy;obtain ⟨e1,e2⟩:=fP_none (h x hx);rw [e1,e2,tab_none]
theorem scn_blank (p:Nat→E5→Bool):∀ k n,Ck.scn p n (List.replicate k [])=none
 | 0,_=>rfl
 | k+1,n=>by rw [List.replicate_succ];exact scn_blank p k (n+1)
theorem idx_blank:∀ k n,Ck.idx Ck.bad n (List.replicate k []) = -1
 | 0,_=>rfl
 | k+1,n=>by
   rw [List.replicate_succ,Ck.idx,if_neg (by decide)];exact idx_blank k (n+1)
theorem tE_blank (k:Nat):tE (List.replicate k [])=0:=by
 unfold tE Ck.bI Ck.clN Ck.gaN Ck.whoN;rw [idx_blank,scn_blank,scn_blank]
 decide
theorem lat_blank (k i:Nat):lat (List.replicate k []) i = []:=by
 unfold lat;rw [List.getD_eq_getElem?_getD,List.getElem?_replicate]
 split <;> rfl
theorem ap_blank (h:Pa.Hr) (s:Abs×Int):apS h [] s=s:=by
 have e:recA h [] s.1=s.1:=by
  show recV h [] (fun _ _=>true) s.1=s.1
  rw [rec_congr (V':=fun _ _=>false) (fun n k g=>absurd rfl g),rec_none fun _ _=>rfl]
 unfold apS;rw [e]
 rfl
theorem rd_blank {S:Sts} {V:List Bool} {Q:List S2} (hl:1≤S.length∧S.length≤32) (hv:V.length=S.length):rdE S (List.replicate S.length []) V=0∧rdL S (List.replicate S.length []) V Q=S:=by
 have e0:rdE S (List.replicate S.length []) V=0:=by
  unfold rdE;rw [if_pos ⟨hl.1,hl.2,List.length_replicate,hv⟩,tE_blank]
 refine ⟨e0,?_⟩;have er:rdL S (List.replicate S.length []) V Q=rdS S (List.replicate S.length []) V (hr S (List.replicate S.length []) V Q):=if_pos e0;rw [er];refine List.ext_getElem? fun i=>?_
 by_cases hi:i < S.length
 ·have a:=rdS_at S (List.replicate S.length []) V (hr S (List.replicate S.length []) V Q) hi
  rw [lat_blank,ap_blank] at a;have a:sat (rdS S (List.replicate S.length []) V (hr S (List.replicate S.length []) V Q)) i=sat S i:=by rw [a];split <;> rfl
  unfold sat at a;rw [Int.toNat_natCast,List.getD_eq_getElem?_getD,List.getD_eq_getElem?_getD,List.getElem?_eq_getElem hi,List.getElem?_eq_getElem (by rw [rdS_len];exact hi)] at a;rw [List.getElem?_eq_getElem hi,List.getElem?_eq_getElem (by rw [rdS_len];exact hi)];exact congrArg some a
 ·rw [List.getElem?_eq_none (show S.length≤i by omega),List.getElem?_eq_none (show (rdS S (List.replicate S.length []) V (hr S (List.replicate S.length []) V Q)).length≤i by rw [rdS_len];omega)]
structure Blk (A:Abs) (l:List Int):Prop where
 has:fB A 40=true
 p:fP A 40=3
 r:fR A 40=fileL l
 seq:seqP l
theorem Blk.sq {A:Abs} {l:List Int} (h:Blk A l):sqB A=true∧sqL A=l:=by
 obtain ⟨e1,e2⟩:=Re.seq_file h.seq;unfold sqB sqL;rw [h.has,h.p,h.r,e1,e2];exact ⟨rfl,rfl⟩
theorem blank_round {c:Cs} {l:List Int} (ho:0≤Wt.opn c.P) (hb:Blk (own c) l) (hn:∀ x∈c.S,∀ n∈l,fB x.1 (32+n)=false) (hl:1≤c.S.length∧c.S.length≤32) (hv:c.V.length=c.S.length) :
 rE c=0∧rC c=⟨c.S,c.V,Wt.rnd c.P,at1 c l,[]⟩:=by
 obtain ⟨q1,q2⟩:=hb.sq;have hs:=hb.seq.1;have hi:at0 c l < l.length:=by
  unfold at0
  split <;> omega
 have hm:iat l (at0 c l)∈l:=by
  unfold iat;rw [List.getD_eq_getElem?_getD,List.getElem?_eq_getElem hi];exact List.getElem_mem hi
 have ht:rT c=List.replicate c.S.length []:=by
  unfold rT;rw [q2];exact tbs_blank fun x hx=>hn x hx _ hm
 obtain ⟨r1,r2⟩:=rd_blank (S:=c.S) (V:=c.V) (Q:=c.Q) hl hv;unfold rE rC;rw [if_neg (by omega),if_pos q1,if_neg (by omega),if_pos q1,ht,r1,q2,if_pos rfl,r2];exact ⟨rfl,rfl⟩
def acR:Ac:=⟨1,0,0,0,z4,0,0,0⟩
theorem act_round (c:Cs):actE acR c=rE c∧actC acR c=rC c:=⟨if_pos rfl,if_pos rfl⟩
def A0:Abs:=[(40,3,fileL [0,1])]
def S0:Sts:=[(A0,0),(A0,0)]
theorem no0:∀ x∈S0,∀ n∈([0,1]:List Int),fB x.1 (32+n)=false:=fun x hx n hn=>by
 have hx:x=(A0,0):=by
  rcases List.mem_cons.1 hx with h | h
  ·exact h
  ·exact List.mem_singleton.1 h
 rw [hx]
 rcases List.mem_cons.1 hn with h | h
 ·rw [h];rfl
 ·rw [List.mem_singleton.1 h];rfl
def c1:Cs:=⟨S0,[true,true],Wt.new,1,[]⟩
def A1:Abs:=[(1,7,newL 7 1),(40,3,fileL [0])]
def r7:R4:=(7,0,0,0)
def A2:Abs:=[(1,7,[hdr 7 1,r7]),(40,3,fileL [0])]
def L1:List Pl:=[(A1,2000),(A1,2000)]
def acW:Ac:=⟨2,1,1,1,r7,0,0,0⟩
def d1:Cs:=⟨[(A1,0),(A2,0)],[true,true],Wt.new,0,[]⟩
theorem seq0:seqP [0]:=by decide
theorem blk1:Blk A1 [0]:=⟨rfl,rfl,rfl,seq0⟩
theorem gd1:gdP (A1,2000):=by
 refine ⟨⟨List.pairwise_cons.2 ⟨fun y hy=>by rw [List.mem_singleton.1 hy];decide,List.pairwise_singleton _ _⟩,fun e he=>?_⟩,by decide,by decide⟩
 rcases List.mem_cons.1 he with h | h
 ·rw [h]
  exact ⟨⟨by decide,by decide⟩,by decide,by decide,by decide,by decide,rfl⟩
 ·rw [List.mem_singleton.1 h]
  exact ⟨⟨by decide,by decide⟩,Re.file_good seq0⟩
theorem new1:newE L1=0:=by
 unfold newE;rw [if_neg (by decide),if_pos,if_pos]
 ·refine ⟨blk1.sq.1,rfl,rfl,rfl⟩
 ·intro p hp
  have:p=(A1,2000):=by
   rcases List.mem_cons.1 hp with h | h
   ·exact h
   ·exact List.mem_singleton.1 h
  rw [this];exact gd1
theorem g_write:actE acW (newC L1)=0∧actC acW (newC L1)=d1:=⟨rfl,rfl⟩
theorem no1:∀ x∈d1.S,∀ n∈([0]:List Int),fB x.1 (32+n)=false:=fun x hx n hn=>by
 rw [List.mem_singleton.1 hn]
 rcases List.mem_cons.1 hx with h | h
 ·rw [h];rfl
 ·rw [List.mem_singleton.1 h];rfl
theorem g_round:actE acR d1=0∧actC acR d1=⟨d1.S,[true,true],Wt.new,0,[]⟩:=by
 obtain ⟨a,b⟩:=blank_round (c:=d1) (l:=[0]) (by decide) blk1 no1 (by decide) rfl;obtain ⟨x,y⟩:=act_round d1;rw [x,y,a,b];exact ⟨rfl,rfl⟩
end Go.Proofs.YtljnkaodhfnbbaaGreatDoor.Cu
namespace Go.Proofs.YtljnkaodhfnbbaaGreatDoor.Wn
open Go.RowKit
open Rw (Rd Ow At)
open Fl (R4 K4 okL okR z4 row_cell row_frozen newL newP NewPost rnew_any hdr)
open Fs (Glob Ent Abs E3 Ls FilesPost)
open Re (KI fileL FilePost rfile_any)
open Pa (ptr sat vat)
open Ck (Hd sl zh)
open Cu (CH ch_do ch_files ch_role ch_new fls_of pls_of PlD KP Pls pls run_buildA run_buildB actE actC actV Syn OkC)
attribute [local irreducible] Sd.wpSd wpQuiet
def Wakes (w:World):Prop:=Glob w
theorem Wakes.below {w w':World} (h:Wakes w) (b:Below w.heap.size w w'):Wakes w':=Fs.Glob.below h b
theorem ok_new71:okL (newL 7 1):=by
 intro r h
 simp only [newL,List.mem_cons] at h
 rcases h with rfl | h
 ·unfold okR;decide
 ·have:r=z4:=(List.mem_replicate.1 h).2
  rw [this];exact Fl.okR_z
theorem two_plans {w:World} {c:PlD} (h:Pa.Fls w (sl c.files) c.F w.heap.size):Pls (w.alloc (.cells #[sl c.files,.int .i64 c.rate,sl c.files,.int .i64 c.rate] 60)) (.slice (some ⟨w.heap.size,0,none⟩) 2 2) [c,c] (w.alloc (.cells #[sl c.files,.int .i64 c.rate,sl c.files,.int .i64 c.rate] 60)).heap.size:=by
 have rd:=(Rw.Ow.lit (K:=KP) w w.heap.size 60 [c,c] (Nat.le_refl _) (by unfold maxLen;simp)).rd;have b:=(Below.refl w.heap.size w).alloc (Nat.le_refl _) (.cells #[sl c.files,.int .i64 c.rate,sl c.files,.int .i64 c.rate] 60);refine pls_of rd fun x hx=>?_;have e:x=c:=by
  rcases List.mem_cons.1 hx with h | h
  ·exact h
  ·exact List.mem_singleton.1 h
 rw [e];have f:=h.below b;exact fls_of f.rd fun y hy=>by
  obtain ⟨i,hi⟩:=List.getElem?_of_mem hy;have hl:=(List.getElem?_eq_some_iff.1 hi).1;have:=f.file i hl;unfold Pa.eatF at this;rw [List.getD_eq_getElem?_getD,hi] at this;exact this
theorem ok1:OkC (Cu.newC Cu.L1) 0:=Cu.new_ok Cu.new1 fun p hp e he=>by
 have:p=(Cu.A1,2000):=by
  rcases List.mem_cons.1 hp with h | h
  ·exact h
  ·exact List.mem_singleton.1 h
 subst this
 rcases List.mem_cons.1 he with h | h
 ·rw [h];exact ok_new71
 ·rw [List.mem_singleton.1 h];exact Re.ok_file Cu.seq0
theorem sy1:Syn (Cu.newC Cu.L1):=Cu.syn_new _ (by decide)
theorem okr7:okR Cu.r7:=by unfold okR;decide
theorem ok2:OkC Cu.d1 1:=by
 have:=ok1.act Cu.acW okr7;rw [Cu.g_write.2] at this;exact this
theorem sy2:Syn Cu.d1:=by
 have:=sy1.act ok1 Cu.acW;rw [Cu.g_write.2] at this;exact this
set_option maxHeartbeats 4000000 in
theorem wakes_any {w:World} (h:Wakes w):Calls Tryz.prog 28 #[] w fun e w'=>e = .returned (.bool true)∧Below w.heap.size w w':=by
 have HG:=Lib.hid h;clear h;have L1:Hid (Rd KI (w.alloc (.cells #[.int .i64 0] 3)) (.slice (some ⟨w.heap.size,0,none⟩) 1 1) [0]):=Lib.hid (Rw.Ow.lit (K:=KI) w w.heap.size 3 [0] (Nat.le_refl _) (by unfold maxLen;simp)).rd;have B1:=Lib.hid ((Below.refl w.heap.size w).alloc (Nat.le_refl _) (.cells #[.int .i64 0] 3))
 have C1:Hid (Calls Tryz.prog 58 #[.slice (some ⟨w.heap.size,0,none⟩) 1 1] (w.alloc (.cells #[.int .i64 0] 3)) fun e w'=>∃ a cap,e = .returned (.tuple #[.agg #[.int .i64 3,.slice a 2 cap],.int .i64 0])∧Rd K4 w' (.slice a 2 cap) (fileL [0])∧Below (w.alloc (.cells #[.int .i64 0] 3)).heap.size (w.alloc (.cells #[.int .i64 0] 3)) w'):=Lib.hid ((rfile_any _ _ [0] L1.out).mono fun e w' ⟨u,he,hu,hb⟩=>by
  have e1:Re.fL [0]=fileL [0]:=if_pos Cu.seq0;rw [e1] at hu;obtain ⟨a,cap,rfl,_⟩:=hu.slice
  exact ⟨a,cap,by rw [he];unfold Re.fP Re.fN;rw [if_pos Cu.seq0,if_pos Cu.seq0];rfl,hu,hb⟩)
 have C2:Hid (∀ W,Calls Tryz.prog 75 #[.int .i64 7,.int .i64 1] W fun e w'=>∃ a cap,e = .returned (.tuple #[.agg #[.int .i64 7,.slice a 2 cap],.int .i64 0])∧Rd K4 w' (.slice a 2 cap) (newL 7 1)∧Below W.heap.size W w'):=Lib.hid (fun W=>(rnew_any W 7 1).mono fun e w' ⟨v,he,hv,hb⟩=>by
  have hp:newP 7 1:=⟨by decide,by decide,by decide,by decide⟩;rw [if_pos hp] at hv;rw [if_pos hp,if_pos hp] at he;obtain ⟨a,cap,rfl,_⟩:=hv.slice
  exact ⟨a,cap,he,hv,hb⟩)
 go_enter Tryz.func28,Tryz.ntmps28
 go_wp2_with fail;refine C1.out.mono ?_;rintro e w2 ⟨fa,fc,rfl,r2,b2⟩;have B2:=Lib.hid (B1.out.trans (b2.mono B1.out.size));have X2:=Lib.hid (heap_alloc_new w2 (.cells #[.int .i64 3,.slice fa 2 fc] 70));have N2:=Lib.hid ((Below.refl w2.heap.size w2).alloc (Nat.le_refl _) (.cells #[.int .i64 3,.slice fa 2 fc] 70));have R2:=Lib.hid (r2.below N2.out);have B3:=Lib.hid (B2.out.trans (N2.out.mono B2.out.size));clear C1 L1 B1 r2 b2 B2 N2;go_upto_region 2 with fail;generalize (w2.alloc (.cells #[.int .i64 3,.slice fa 2 fc] 70))=w3 at *;generalize w2.heap.size=g1 at *;have D2:=Lib.hid (C2.out w3);clear C2;go_wp2_with fail;refine D2.out.mono ?_;rintro e w4 ⟨na,nc,rfl,r4,b4⟩;have X4:=Lib.hid (heap_alloc_new w4 (.cells #[.int .i64 7,.slice na 2 nc] 70));have N4:=Lib.hid ((Below.refl w4.heap.size w4).alloc (Nat.le_refl _) (.cells #[.int .i64 7,.slice na 2 nc] 70));have R4a:=Lib.hid (r4.below N4.out);have R5:=Lib.hid ((R2.out.below b4).below N4.out);have X5:=Lib.hid ((N4.out.block _ (Nat.lt_of_lt_of_le (lt_of_block X2.out) b4.size)).trans ((b4.block _ (lt_of_block X2.out)).trans X2.out));have B5:=Lib.hid ((B3.out.trans (b4.mono B3.out.size)).trans (N4.out.mono (Nat.le_trans B3.out.size b4.size)));clear D2 r4 b4 R2 X2 B3 N4;go_upto_region 3 with fail;generalize (w4.alloc (.cells #[.int .i64 7,.slice na 2 nc] 70))=w5 at *;generalize w4.heap.size=g2 at *;have x0:w5.cell? ⟨g2,0,none⟩=some (.int .i64 7):=row_cell X4.out 0;have x1:w5.cell? ⟨g2,1,none⟩=some (.slice na 2 nc):=row_cell X4.out 1;have y0:w5.cell? ⟨g1,0,none⟩=some (.int .i64 3):=row_cell X5.out 0;have y1:w5.cell? ⟨g1,1,none⟩=some (.slice fa 2 fc):=row_cell X5.out 1;have hBN:=Fs.run_buildN;have RE:Hid (Rd E3 (w5.alloc (.cells #[.int .i64 1,.int .i64 7,.slice na 2 nc,.int .i64 40,.int .i64 3,.slice fa 2 fc] 72)) (.slice (some ⟨w5.heap.size,0,none⟩) 2 2) [⟨1,7,na,nc,newL 7 1⟩,⟨40,3,fa,fc,fileL [0]⟩]):=Lib.hid (Rw.Ow.lit (K:=E3) w5 w5.heap.size 72 [⟨1,7,na,nc,newL 7 1⟩,⟨40,3,fa,fc,fileL [0]⟩] (Nat.le_refl _) (by unfold maxLen;simp)).rd;have B6:=Lib.hid ((Below.refl w5.heap.size w5).alloc (Nat.le_refl _) (.cells #[.int .i64 1,.int .i64 7,.slice na 2 nc,.int .i64 40,.int .i64 3,.slice fa 2 fc] 72));have Z6:Hid ((w5.alloc (.cells #[.int .i64 1,.int .i64 7,.slice na 2 nc,.int .i64 40,.int .i64 3,.slice fa 2 fc] 72)).heap.size=w5.heap.size+1):=Lib.hid (by simp);have B7:=Lib.hid (B6.out.alloc B6.out.size (.cells #[.slice (some ⟨w5.heap.size,0,none⟩) 2 2,.int .i64 2000] 60));have X7:Hid (((w5.alloc (.cells #[.int .i64 1,.int .i64 7,.slice na 2 nc,.int .i64 40,.int .i64 3,.slice fa 2 fc] 72)).alloc (.cells #[.slice (some ⟨w5.heap.size,0,none⟩) 2 2,.int .i64 2000] 60)).heap[w5.heap.size+1]? = some (.cells #[.slice (some ⟨w5.heap.size,0,none⟩) 2 2,.int .i64 2000] 60 (0,0))):=Lib.hid (by rw [← Z6.out];exact heap_alloc_new _ _)
 have FL:Hid (Pa.Fls ((w5.alloc (.cells #[.int .i64 1,.int .i64 7,.slice na 2 nc,.int .i64 40,.int .i64 3,.slice fa 2 fc] 72)).alloc (.cells #[.slice (some ⟨w5.heap.size,0,none⟩) 2 2,.int .i64 2000] 60)) (.slice (some ⟨w5.heap.size,0,none⟩) 2 2) [⟨1,7,na,nc,newL 7 1⟩,⟨40,3,fa,fc,fileL [0]⟩] ((w5.alloc (.cells #[.int .i64 1,.int .i64 7,.slice na 2 nc,.int .i64 40,.int .i64 3,.slice fa 2 fc] 72)).alloc (.cells #[.slice (some ⟨w5.heap.size,0,none⟩) 2 2,.int .i64 2000] 60)).heap.size):=Lib.hid (fls_of (RE.out.below ((Below.refl _ _).alloc (Nat.le_refl _) _)) fun c hc=>by
  rcases List.mem_cons.1 hc with h | h
  ·rw [h];exact ⟨R4a.out.below B7.out,ok_new71⟩
  ·rw [List.mem_singleton.1 h];exact ⟨R5.out.below B7.out,Re.ok_file Cu.seq0⟩)
 have BB:=Lib.hid (B5.out.trans (B7.out.mono B5.out.size));clear RE B6 Z6 B7 R4a R5 B5 X4 X5;go_upto_region 4 with fail;clear x0 x1 y0 y1 hBN;generalize ((w5.alloc (.cells #[.int .i64 1,.int .i64 7,.slice na 2 nc,.int .i64 40,.int .i64 3,.slice fa 2 fc] 72)).alloc (.cells #[.slice (some ⟨w5.heap.size,0,none⟩) 2 2,.int .i64 2000] 60))=w7 at *;generalize w5.heap.size=g5 at *;have x0:w7.cell? ⟨g5+1,0,none⟩=some (.slice (some ⟨g5,0,none⟩) 2 2):=row_cell X7.out 0;have x1:w7.cell? ⟨g5+1,1,none⟩=some (.int .i64 2000):=row_cell X7.out 1;have PL:=Lib.hid (two_plans (c:=⟨(some ⟨g5,0,none⟩,2,2),2000,[⟨1,7,na,nc,newL 7 1⟩,⟨40,3,fa,fc,fileL [0]⟩]⟩) FL.out);have NW:Hid (Calls Tryz.prog 12 #[.slice (some ⟨w7.heap.size,0,none⟩) 2 2] (w7.alloc (.cells #[.slice (some ⟨g5,0,none⟩) 2 2,.int .i64 2000,.slice (some ⟨g5,0,none⟩) 2 2,.int .i64 2000] 60)) fun e w'=>∃ s,e = .returned (.tuple #[.pointer (some ⟨s,0,none⟩),.int .i64 0])∧CH w s (Cu.newC Cu.L1) 0 w'):=Lib.hid (ch_new PL.out (w0:=w) Cu.new1 (BB.out.alloc BB.out.size _));clear FL PL BB X7;go_wp2_with fail;refine NW.out.mono ?_;rintro e w8 ⟨s,rfl,ch8⟩;have H8:=Lib.hid ch8
 have DW:Hid (Calls Tryz.prog 17 #[.pointer (some ⟨s,0,none⟩),.agg #[.int .i64 2,.int .i64 1,.int .i64 1,.int .i64 1,.int .u8 7,.int .u8 0,.int .u8 0,.int .u8 0,.int .i64 0,.int .i64 0,.int .i64 0]] w8 fun e w'=>e = .returned (.int .i64 0)∧CH w s Cu.d1 1 w'):=Lib.hid (by
  have:=ch_do H8.out HG.out ok1 sy1 (by decide) Cu.acW okr7 (WalkArith.wf_i64 (by decide));rw [Cu.g_write.1,Cu.g_write.2] at this
  exact this)
 have hA:=run_buildA;have hB:=run_buildB;clear NW ch8 x0 x1;go_wp2_with fail;refine DW.out.mono ?_;rintro e w9 ⟨rfl,ch9⟩;have H9:=Lib.hid ch9
 have DR:Hid (Calls Tryz.prog 17 #[.pointer (some ⟨s,0,none⟩),.agg #[.int .i64 1,.int .i64 0,.int .i64 0,.int .i64 0,.int .u8 0,.int .u8 0,.int .u8 0,.int .u8 0,.int .i64 0,.int .i64 0,.int .i64 0]] w9 fun e w'=>e = .returned (.int .i64 0)∧CH w s ⟨Cu.d1.S,[true,true],Wt.new,0,[]⟩ 2 w'):=Lib.hid (by
  have:=ch_do H9.out HG.out ok2 sy2 (by decide) Cu.acR Fl.okR_z (WalkArith.wf_i64 (by decide));rw [Cu.g_round.1,Cu.g_round.2] at this
  exact this)
 clear DW H8 ch9;go_wp2_with fail;refine DR.out.mono ?_;rintro e w10 ⟨rfl,ch10⟩;have H10:=Lib.hid ch10;have FI:=Lib.hid (ch_files H10.out (n:=1) (by decide));unfold FilesPost ptr at FI;clear DR H9 ch10 hA hB;go_wp2_with fail;refine FI.out.mono ?_;rintro e w11 ⟨v,rfl,hv,b11⟩;have H11:=Lib.hid (H10.out.below b11);obtain ⟨L,hL,eL⟩:=hv (fun _=>False) nofun;have EA:(sat (⟨Cu.d1.S,[true,true],Wt.new,0,[]⟩:Cu.Cs).S (1:Nat)).1=Cu.A2:=rfl;rw [EA] at eL;have hl:L.length=2:=by
  have:=congrArg List.length eL;rw [List.length_map] at this;exact this
 rcases L with _ | ⟨c,_ | ⟨d,_ | ⟨x,r⟩⟩⟩
 ·cases hl
 ·cases hl
 ·have ec:c.abs=(1,7,[hdr 7 1,Cu.r7]):=by injection eL
  have el:c.l = [hdr 7 1,Cu.r7]:=congrArg (fun x=>x.2.2) ec;obtain ⟨a,cap,rfl,_,_,h3⟩:=hL.rd;obtain ⟨b,off,rfl,hA⟩:=h3 (by simp);have c2:w11.cell? ⟨b,off+2,none⟩=some c.sl:=by
   have:=hA 0 (by simp) 2 c.sl rfl
   simpa [E3] using this
  obtain ⟨a2,cap2,e2,_,_,h4⟩:=hL.file c List.mem_cons_self;rw [el] at e2 h4;obtain ⟨b2,off2,rfl,hB⟩:=h4 (by simp);rw [e2] at c2;have y0:w11.cell? ⟨b2,off2+4,none⟩=some (.int .u8 7):=by have:=hB 1 (by simp) 0 _ rfl;simpa [K4,Cu.r7] using this
  have y1:w11.cell? ⟨b2,off2+4+1,none⟩=some (.int .u8 0):=by have:=hB 1 (by simp) 1 _ rfl;simpa [K4,Cu.r7] using this
  have y2:w11.cell? ⟨b2,off2+4+2,none⟩=some (.int .u8 0):=by have:=hB 1 (by simp) 2 _ rfl;simpa [K4,Cu.r7] using this
  have y3:w11.cell? ⟨b2,off2+4+3,none⟩=some (.int .u8 0):=by have:=hB 1 (by simp) 3 _ rfl;simpa [K4,Cu.r7] using this
  have es:∀ w,(Op.equalIn 10000 42 (.agg #[.int .u8 7,.int .u8 0,.int .u8 0,.int .u8 0]) (.agg #[.int .u8 7,.int .u8 0,.int .u8 0,.int .u8 0])).run Tryz.prog w = .ok true w:=fun w=>by
   have:=Fl.eq_rec (7,0,0,0) (7,0,0,0) w
   simpa using this
  have RO:=Lib.hid (ch_role H11.out 0);have BF:=Lib.hid H11.out.bel;unfold ptr at RO;clear FI H10 hv hL eL EA hl ec el hA hB e2 h3 h4 b11 H11;go_wp2_with fail;refine RO.out.mono ?_;rintro e w12 ⟨rfl,b12⟩;have E:=Lib.hid (BF.out.trans (b12.mono BF.out.size));clear RO b12 BF c2 y0 y1 y2 y3;go_wp2
  go_ret
  exact ⟨rfl,E.out⟩
 ·cases hl
end Go.Proofs.YtljnkaodhfnbbaaGreatDoor.Wn
namespace Go.Proofs.YtljnkaodhfnbbaaGreatDoor.Fi
open Go.RowKit
open Ua (arr Row)
theorem ret_two {k k':IntKind} {a c:Int} {q:Int×Int} (h:(a,c)=q):Ending.returned (.tuple #[.int k a,.int k' c]) = .returned (.tuple #[.int k q.1,.int k' q.2]):=by rw [← h]
theorem at_two {P:Program} {f:Nat} {args:Array Value} {w:World} {k k':IntKind} {a b c d:Int} (e:(a,b)=(c,d)) (h:Calls P f args w fun e w'=>e = .returned (.tuple #[.int k a,.int k' b])∧Below w.heap.size w w') :
 Calls P f args w fun e w'=>e = .returned (.tuple #[.int k c,.int k' d])∧Below w.heap.size w w':=by injection e with e1 e2;rw [← e1,← e2];exact h
end Go.Proofs.YtljnkaodhfnbbaaGreatDoor.Fi
namespace Go.Proofs.YtljnkaodhfnbbaaGreatDoor.Fi
open Go.RowKit
open Ua (arr Row)
set_option maxHeartbeats 400000 in
theorem code_any (w:World) (T:Tab w) (n:Int):Calls Tryz.prog 42 #[.int .i64 n] w fun e w'=>e = .returned (.tuple #[.int .u8 (codeV n).1,.int .i64 (codeV n).2])∧Below w.heap.size w w':=by
 obtain ⟨b,off,cap,h0,h1,h2,h3⟩:=T;unfold maxLen at h2
 by_cases n0:n < 0
 ·have E:=Lib.hid (code_out (.inl n0)).symm
  go_enter Tryz.func42,Tryz.ntmps42
  go_wp2
  go_ret2
  exact ⟨ret_two E.out,Below.refl _ _⟩
 ·by_cases n7:7 < n
  ·have E:=Lib.hid (code_out (.inr n7)).symm
   go_enter Tryz.func42,Tryz.ntmps42
   go_wp2
   go_ret2
   exact ⟨ret_two E.out,Below.refl _ _⟩
  ·obtain ⟨k,rfl⟩:∃ k:Nat,n=k:=⟨n.toNat,by omega⟩
   have hk:k < 8:=by omega
   have c:=h3 k hk;have E:=Lib.hid (code_in (n:=k) rfl hk).symm;have H3:=Lib.hid h3;clear h3 n0 n7
   go_enter Tryz.func42,Tryz.ntmps42
   go_wp2
   go_ret2
   exact ⟨ret_two E.out,Below.refl _ _⟩
set_option maxHeartbeats 400000 in
theorem round_any (w:World) (T:Tab w) (x:Int) (odd:Bool):Calls Tryz.prog 45 #[.int .u8 x,.bool odd] w fun e w'=>e = .returned (.tuple #[.int .i64 (roundV x odd).1,.int .i64 (roundV x odd).2])∧Below w.heap.size w w':=by
 obtain ⟨b,off,cap,h0,h1,h2,h3⟩:=T
 cases odd with
 | false =>
   go_enter Tryz.func45,Tryz.ntmps45
   go_wp2
   go_ret2
   exact ⟨rfl,Below.refl _ _⟩
 | true =>
   have H3:=Lib.hid h3;clear h3
   go_enter Tryz.func45,Tryz.ntmps45
   go_wp2
   go_loop [12] (fun i=>∃ k:Nat,k≤8∧i = .int .i64 k∧Hid (∀ j,j < k→isC x j=false)) (fun i=>8 - (intOf i).toNat)
   case atStart=>exact ⟨0,by omega,rfl,fun j hj=>by omega⟩
   case round =>
    obtain ⟨k,hk,rfl,hs⟩:=hrel
    by_cases hlt:k < 8
    ·have c:=H3.out k hlt
     by_cases hc:cd k=x
     ·have E:=Lib.hid (round_hit hlt hc hs.out).symm
      go_wp2
      go_ret2
      exact ⟨ret_two E.out,Below.refl _ _⟩
     ·have ST:Hid (∀ j,j < k+1→isC x j=false):=fun j hj=>by
       by_cases e:j=k
       ·rw [e];simp [isC,hc]
       ·exact hs.out j (by omega)
      go_wp2
      go_round
      case rel=>exact ⟨k+1,by omega,by go_num,ST⟩
      case measure=>simp [intOf];omega
    ·obtain rfl:k=8:=by omega
     have E:=Lib.hid (round_miss hs.out).symm;go_wp2
     go_ret2
     exact ⟨ret_two E.out,Below.refl _ _⟩
set_option maxHeartbeats 400000 in
theorem apart_any (w:World) (F G:Nat→Bool):Calls Tryz.prog 44 #[.agg (arr F),.agg (arr G)] w fun e w'=>e = .returned (.int .i64 (dif F G 11:Nat))∧Below w.heap.size w w':=by
 have hz:(w.alloc (.cells (arr F) 113)).heap.size=w.heap.size+1:=by simp
 have R:=(Row.new w F).alloc (.cells (arr G) 113);have R':=Row.new (w.alloc (.cells (arr F) 113)) G;rw [hz] at R';have RF:=Lib.hid R;have RG:=Lib.hid R';have B0:=Lib.hid (((Below.refl w.heap.size w).alloc (Nat.le_refl _) (.cells (arr F) 113)).alloc (by simp) (.cells (arr G) 113));clear R R' hz
 go_enter Tryz.func44,Tryz.ntmps44
 go_wp2_with ((with_reducible refine Ua.load_frame (o:=⟨some 8,_,_,_,_,_⟩) rfl _ rfl _ _ ?_ RF.out ?_);(exact rfl))
 go_loopw [5,9] (fun c i wr=>∃ k:Nat,k≤11∧i = .int .i64 k∧c = .int .i64 (dif F G k:Nat)∧Hid (Row wr (w.heap.size+1) G∧Below w.heap.size w wr)) (fun _ i _=>11 - (intOf i).toNat)
 case atStart=>exact ⟨0,by omega,rfl,rfl,RG.out,B0.out⟩
 case round =>
  obtain ⟨k,hk,rfl,rfl,T⟩:=hrel;have q:=dif_le F G k
  by_cases hlt:k < 11
  ·have ri:=Ua.run_index_arr F k hlt
   have c2:=T.out.1.cell k hlt
   cases hF:F k <;> cases hG:G k
   all_goals
    rw [hF] at ri;rw [hG] at c2
    first
     | (have E:=Lib.hid (dif_same (F:=F) (G:=G) (k:=k) (hF.trans hG.symm))
        clear hF hG;go_wp2
        go_roundw
        case rel=>exact ⟨k+1,by omega,by go_num,by rw [E.out],T.out⟩
        case measure=>simp [intOf];omega)
     | (have E:=Lib.hid (dif_one (F:=F) (G:=G) (k:=k) (by rw [hF,hG];decide))
        clear hF hG;go_wp2
        go_roundw
        case rel=>exact ⟨k+1,by omega,by go_num,by rw [E.out];go_num,T.out⟩
        case measure=>simp [intOf];omega)
  ·obtain rfl:k=11:=by omega
   go_wp2
   go_ret
   exact ⟨rfl,T.out.2⟩
end Go.Proofs.YtljnkaodhfnbbaaGreatDoor.Fi
namespace Go.Proofs.YtljnkaodhfnbbaaGreatDoor.Wb
open Go.RowKit
open Sp (S2)
open Wi (PlainOf FallV lowB)
open Se (lows lows_mem Glo_mono spans_any)
open Sa (HearV heard heard_true Glo_parts PP_span lt_Glo fall_first lows_short hear_any)
open Tk (GoodP goodB goodB_true Glo PP good_any)
open Ua (arr Row frm turn bad tb tp te put_any turn_any store_new load_frame bit)
open Fi (cd cd_byte dif dif_le roundV codeV code_in code_out code_any apart_any at_two Tab)
open Wn (Wakes wakes_any)
def inB (R:Nat→Int) (k:Nat):Bool:=(List.range k).all fun i=>decide (-10000≤R i) && decide (R i≤10000)
theorem inB_zero (R:Nat→Int):inB R 0=true:=rfl
theorem inB_next (R:Nat→Int) (k:Nat):inB R (k+1)=(inB R k && (decide (-10000≤R k) && decide (R k≤10000))):=by
 unfold inB;rw [List.range_succ,List.all_append]
 simp
theorem inB_true {R:Nat→Int} {k:Nat} (h:inB R k=true):∀ i,i < k→-10000≤R i∧R i≤10000:=fun i hi=>by
 unfold inB at h;rw [List.all_eq_true] at h;have:=h i (List.mem_range.2 hi)
 simpa using this
theorem steps_form {w:World} {v:Value} {n:Nat} {A R:Nat→Int} (S:Tk.Steps w v n A R):∃ a cap,v = .slice a n cap∧n≤maxLen∧(0 < n→∃ b off,a=some ⟨b,off,none⟩∧∀ i,i < n→w.cell? ⟨b,off+i * 2,none⟩=some (.int .i64 (A i))∧w.cell? ⟨b,off+i * 2+1,none⟩=some (.int .i64 (R i))):=by
 rcases S with ⟨a,cap,rfl,h,rfl⟩ | ⟨b,off,cap,rfl,h1,h2,hc⟩
 ·exact ⟨a,cap,rfl,by unfold maxLen;omega,fun h=>by omega⟩
 ·exact ⟨_,cap,rfl,by omega,fun _=>⟨b,off,rfl,hc⟩⟩
theorem hear_at {w w':World} {l x:List S2} {A R:Nat→Int} {n:Nat} {f t:Int} {q:Int×Bool×Int} (h:HearV x l A R n f t=q) {e:Ending} (he:e = .returned (.tuple #[.int .u8 (HearV x l A R n f t).1,.bool (HearV x l A R n f t).2.1,.int .i64 (HearV x l A R n f t).2.2])∧Below w.heap.size w w'):e = .returned (.tuple #[.int .u8 q.1,.bool q.2.1,.int .i64 q.2.2])∧Below w.heap.size w w':=by rw [← h];exact he
set_option maxHeartbeats 16000000 in
theorem wbit_any {w:World} (G:Wakes w) (T:Tab w) (u v:Value) (n n':Nat) (A R A' R':Nat→Int) (S:Tk.Steps w u n A R) (S':Tk.Steps w v n' A' R') (t b:Int) (t0:0≤t) (t1:t < 4294967296) (b0:0≤b) (b1:b≤255) (odd:Bool) (round mask:Int) :
 Calls Tryz.prog 10 #[u,v,.int .u32 t,.int .u8 b,.bool odd,.int .i64 round,.int .i64 mask] w fun e w'=>e = .returned (.bool true)∧Below w.heap.size w w':=by
 have GG:=Lib.hid G;have TT:=Lib.hid T;have SS:=Lib.hid S;have SS':=Lib.hid S';obtain ⟨a,cap,rfl,hm,hc⟩:=steps_form S;obtain ⟨a',cap',rfl,hm',hc'⟩:=steps_form S';have HC:=Lib.hid hc;have HC':=Lib.hid hc';unfold maxLen at hm hm';clear G T S S' hc hc';have M0:0≤t % 1073741824:=by omega
 have M1:t % 1073741824≤1073741824:=by omega
 go_enter Tryz.func10,Tryz.ntmps10
 go_upto_region 1 with fail
 go_cut [15] from 32 to 38 (fun x wx=>Value.bool (goodB n A R && goodB n' A' R')=x∧Hid (Below w.heap.size w wx))
 case first =>
  have GA:=Lib.hid (good_any w (.slice a n cap) n A R SS.out);generalize goodB n A R=y at *;go_wp2_with fail;refine GA.out.mono ?_;rintro e w1 ⟨rfl,b1⟩;have B1:=Lib.hid b1;have GB:=Lib.hid (good_any w1 (.slice a' n' cap') n' A' R' (SS'.out.below b1));clear b1 GA;generalize goodB n' A' R'=y' at *
  cases y with
  | false =>
    go_wp2
    go_meet
    exact ⟨rfl,B1⟩
  | true =>
    go_wp2_with fail;refine GB.out.mono ?_;rintro e w2 ⟨rfl,b2⟩;have B2:=Lib.hid (B1.out.trans (b2.mono B1.out.size));clear b2;go_wp2
    go_meet
    exact ⟨rfl,B2⟩
 case rest =>
  obtain ⟨e1,B1⟩:=hcut;subst e1;generalize hg:(goodB n A R && goodB n' A' R')=y at *;have HG:=Lib.hid hg;clear hg;go_upto_region 3 with fail
  go_loopw [15,16] (fun o i wr=>∃ k:Nat,k≤n∧o = .bool (y && inB R k)∧i = .int .i64 k∧Hid (Below w.heap.size w wr)) (fun _ i _=>n - (intOf i).toNat)
  case atStart=>exact ⟨0,Nat.zero_le _,by rw [inB_zero,Bool.and_true],rfl,B1⟩
  case round =>
   clear B1;obtain ⟨k,hk,rfl,rfl,B1⟩:=hrel
   by_cases hlt:k < n
   ·obtain ⟨bb,off,rfl,cc⟩:=HC.out (by omega)
    have c1:=(B1.out.cell (World.block_lt_of_cell? _ _ (cc k hlt).2)).trans (cc k hlt).2;have NX:=Lib.hid (inB_next R k);clear cc;generalize inB R k=z at *
    cases hy:(y && z) with
    | false =>
      have E:Hid (Value.bool false = .bool (y && inB R (k+1))):=Lib.hid (by rw [NX.out,← Bool.and_assoc,hy];rfl);clear NX hy;go_wp2
      go_roundw
      case rel=>exact ⟨k+1,by omega,E.out,by go_num,B1⟩
      case measure=>simp [intOf];omega
    | true =>
      by_cases p1 : -10000≤R k
      ·by_cases p2:R k≤10000
       ·have E:Hid (Value.bool true = .bool (y && inB R (k+1))):=Lib.hid (by rw [NX.out,← Bool.and_assoc,hy,decide_eq_true p1,decide_eq_true p2];rfl)
        clear NX hy;go_wp2
        go_roundw
        case rel=>exact ⟨k+1,by omega,E.out,by go_num,B1⟩
        case measure=>simp [intOf];omega
       ·have E:Hid (Value.bool false = .bool (y && inB R (k+1))):=Lib.hid (by rw [NX.out,← Bool.and_assoc,hy,decide_eq_true p1,decide_eq_false p2];rfl)
        clear NX hy;go_wp2
        go_roundw
        case rel=>exact ⟨k+1,by omega,E.out,by go_num,B1⟩
        case measure=>simp [intOf];omega
      ·have E:Hid (Value.bool false = .bool (y && inB R (k+1))):=Lib.hid (by rw [NX.out,← Bool.and_assoc,hy,decide_eq_false p1];rfl)
       clear NX hy;go_wp2
       go_roundw
       case rel=>exact ⟨k+1,by omega,E.out,by go_num,B1⟩
       case measure=>simp [intOf];omega
   ·obtain rfl:k=n:=by omega
    clear hlt;generalize hy:(y && inB R k)=y2 at *;have HY:=Lib.hid hy;clear hy;go_upto_region 7 with fail
    go_loopw [15,17] (fun o i wr=>∃ m:Nat,m≤n'∧o = .bool (y2 && inB R' m)∧i = .int .i64 m∧Hid (Below w.heap.size w wr)) (fun _ i _=>n' - (intOf i).toNat)
    case atStart=>exact ⟨0,Nat.zero_le _,by rw [inB_zero,Bool.and_true],rfl,B1⟩
    case round =>
     clear B1;obtain ⟨m,hm2,rfl,rfl,B1⟩:=hrel
     by_cases hlt:m < n'
     ·obtain ⟨bb,off,rfl,cc⟩:=HC'.out (by omega)
      have c1:=(B1.out.cell (World.block_lt_of_cell? _ _ (cc m hlt).2)).trans (cc m hlt).2;have NX:=Lib.hid (inB_next R' m);clear cc;generalize inB R' m=z at *
      cases hy:(y2 && z) with
      | false =>
        have E:Hid (Value.bool false = .bool (y2 && inB R' (m+1))):=Lib.hid (by rw [NX.out,← Bool.and_assoc,hy];rfl);clear NX hy;go_wp2
        go_roundw
        case rel=>exact ⟨m+1,by omega,E.out,by go_num,B1⟩
        case measure=>simp [intOf];omega
      | true =>
        by_cases p1 : -10000≤R' m
        ·by_cases p2:R' m≤10000
         ·have E:Hid (Value.bool true = .bool (y2 && inB R' (m+1))):=Lib.hid (by rw [NX.out,← Bool.and_assoc,hy,decide_eq_true p1,decide_eq_true p2];rfl)
          clear NX hy;go_wp2
          go_roundw
          case rel=>exact ⟨m+1,by omega,E.out,by go_num,B1⟩
          case measure=>simp [intOf];omega
         ·have E:Hid (Value.bool false = .bool (y2 && inB R' (m+1))):=Lib.hid (by rw [NX.out,← Bool.and_assoc,hy,decide_eq_true p1,decide_eq_false p2];rfl)
          clear NX hy;go_wp2
          go_roundw
          case rel=>exact ⟨m+1,by omega,E.out,by go_num,B1⟩
          case measure=>simp [intOf];omega
        ·have E:Hid (Value.bool false = .bool (y2 && inB R' (m+1))):=Lib.hid (by rw [NX.out,← Bool.and_assoc,hy,decide_eq_false p1];rfl)
         clear NX hy;go_wp2
         go_roundw
         case rel=>exact ⟨m+1,by omega,E.out,by go_num,B1⟩
         case measure=>simp [intOf];omega
     ·obtain rfl:m=n':=by omega
      clear hlt HC HC'
      cases hy3:(y2 && inB R' m) with
      | false =>
        have G1:=Lib.hid (GG.out.below B1.out);clear hy3 HY HG;go_wp2_with fail;refine (wakes_any G1.out).mono ?_;rintro e w2 ⟨rfl,b2⟩;have B2:=Lib.hid (B1.out.trans (b2.mono B1.out.size));clear b2;go_wp2
        go_ret
        exact ⟨rfl,B2.out⟩
      | true =>
        have CA:Hid (Sa.Calm k A R 10000∧Sa.Calm m A' R' 10000):=Lib.hid (by
         rw [Bool.and_eq_true] at hy3;have h1:=HY.out;rw [hy3.1,Bool.and_eq_true] at h1;have h2:=HG.out;rw [h1.1,Bool.and_eq_true] at h2
         exact ⟨⟨goodB_true.1 h2.1,by omega,inB_true h1.2⟩,⟨goodB_true.1 h2.2,by omega,inB_true hy3.2⟩⟩)
        clear hy3 HY HG;have PU:=Lib.hid (put_any wr b odd b0 b1);have GC:=Lib.hid CA.out.1;have GC':=Lib.hid CA.out.2;clear CA;go_wp2_with fail;refine PU.out.mono ?_;rintro e w2 ⟨rfl,b2⟩;have B2:=Lib.hid (B1.out.trans (b2.mono B1.out.size));have HT:Hid (∀ l x:List S2,PlainOf (lows (Glo A R k) (frm b odd) (t % 1073741824) 11) l→PlainOf l x→HearV x l A' R' m 0 2147483648=(b,odd,0)):=Lib.hid (fun l x h hx=>(hear_true GC.out GC'.out M0 M1 (Ua.frm_0 b odd) h hx).trans (show (tb (frm b odd),tp (frm b odd),te (frm b odd))=(b,odd,0) by rw [Ua.tb_frm b odd b0 b1,Ua.tp_frm,Ua.te_frm]));clear b2 PU B1;generalize frm b odd=F at *;go_wp2_with fail;refine (spans_any w2 _ k A R (SS.out.below B2.out) GC.out.good (t % 1073741824) M0 (by omega) F).mono ?_;rintro e w3 ⟨v1,l,rfl,o3,p3,b3⟩;have B3:=Lib.hid (B2.out.trans (b3.mono B2.out.size));have P3:=Lib.hid p3;have O3:=Lib.hid o3.sp;clear b3 p3 o3 B2;go_wp2_with fail;refine (hear_any w3 v1 _ l O3.out (lows_short P3.out) m A' R' (SS'.out.below B3.out) GC'.out.good 0 2147483648).mono ?_;rintro e w4 ⟨x,hx,he⟩;obtain ⟨rfl,b4⟩:=hear_at (HT.out _ _ P3.out hx) he;have B4:=Lib.hid (B3.out.trans (b4.mono B3.out.size));have T4:=Lib.hid (TT.out.below B4.out);have G4:=Lib.hid (GG.out.below B4.out);have q1:(b != b)=false:=by simp
        have q2:(odd != odd)=false:=by simp
        clear b4 hx he HT P3 O3 B3
        by_cases hr:0≤round∧round≤7
        ·obtain ⟨i,rfl⟩:∃ i:Nat,round=i:=⟨round.toNat,by omega⟩
         have hi:i < 8:=by omega
         have C5:=Lib.hid (at_two (show ((codeV i).1,(codeV i).2)=(cd i,0) by rw [code_in rfl hi]) (code_any w4 T4.out i));have NO:=Lib.hid (fun (K:Nat→Bool) (h0:K 0=false)=>wb_no (i:=i) h0);have YES:=Lib.hid (fun (K:Nat→Bool)=>wb_yes hi (G:=K));have HD:=cd_byte i;go_wp2_with fail;refine C5.out.mono ?_;rintro e w5 ⟨rfl,b5⟩;have B5:=Lib.hid (B4.out.trans (b5.mono B4.out.size));have T5:=Lib.hid (T4.out.below b5);clear b5 B4 T4 G4 C5 q1 q2;go_wp2_with fail;refine (put_any _ (cd i) true HD.1 HD.2).mono ?_;rintro e w6 ⟨rfl,b6⟩;have F0:Hid (frm (cd i) true 0=false):=Lib.hid (Ua.frm_0 (cd i) true);have z6:=b6.size;generalize frm (cd i) true=F at *;have b6':=b6.alloc b6.size (.cells (arr F) 113);have B6:=Lib.hid (B5.out.trans (b6'.mono B5.out.size));have T6:=Lib.hid (T5.out.below b6');have F6:=Lib.hid (Row.new w6 F);have HM:Hid (bit (bits BinOp.and .i64 mask 2046) 0=false):=Lib.hid (and_2046 mask);clear b6 b6' T5 B5
         go_wp2_with (first
          | ((with_reducible refine store_new (o:=⟨none,_,_,_,_,_⟩) rfl _ _ rfl F ?_ ?_ ?_);(exact rfl);(exact rfl))
          | ((with_reducible refine load_frame (o:=⟨some 124,_,_,_,_,_⟩) rfl _ rfl _ _ ?_ F6.out ?_);(exact rfl)))
         generalize bits BinOp.and .i64 mask 2046=mm at *;refine (turn_any _ F mm).mono ?_;rintro e w7 ⟨rfl,b7⟩;have K0:Hid (turn F mm 11 0=false):=Lib.hid ((turn_zero HM.out).trans F0.out);generalize turn F mm 11=K at *;have b7':=b7.alloc b7.size (.cells (arr K) 113);have B7:=Lib.hid (B6.out.trans (b7'.mono B6.out.size));have T7:=Lib.hid (T6.out.below b7');have F7:=Lib.hid (F6.out.below b7' F6.out.lt);have G7:=Lib.hid (Row.new w7 K);clear b7 b7' T6 B6 F6 HM F0 z6
         go_wp2_with (first
          | ((with_reducible refine store_new (o:=⟨none,_,_,_,_,_⟩) rfl _ _ rfl K ?_ ?_ ?_);(exact rfl);(exact rfl))
          | ((with_reducible refine load_frame (o:=⟨some 128,_,_,_,_,_⟩) rfl _ rfl _ _ ?_ F7.out ?_);(exact rfl))
          | ((with_reducible refine load_frame (o:=⟨some 129,_,_,_,_,_⟩) rfl _ rfl _ _ ?_ G7.out ?_);(exact rfl)))
         refine (apart_any _ F K).mono ?_;rintro e w8 ⟨rfl,b8⟩;have B8:=Lib.hid (B7.out.trans (b8.mono B7.out.size));have T8:=Lib.hid (T7.out.below b8);have G8:=Lib.hid (G7.out.below b8 G7.out.lt);have DL:=dif_le F K 11;have NO1:=Lib.hid (NO.out K K0.out);have YES1:=Lib.hid (YES.out K);have HT:Hid (∀ l x:List S2,PlainOf (lows (Glo A R k) K (t % 1073741824) 11) l→PlainOf l x→HearV x l A' R' m 0 2147483648=(tb K,tp K,te K)):=Lib.hid (fun l x h hx=>hear_true GC.out GC'.out M0 M1 K0.out h hx);clear b8 T7 B7 F7 G7 NO YES;generalize dif F K 11=d at *
         go_wp2_with ((with_reducible refine load_frame (o:=⟨some 134,_,_,_,_,_⟩) rfl _ rfl _ _ ?_ G8.out ?_);(exact rfl))
         refine (spans_any w8 _ k A R (SS.out.below B8.out) GC.out.good (t % 1073741824) M0 (by omega) K).mono ?_;rintro e w9 ⟨v1,l,rfl,o9,p9,b9⟩;have B9:=Lib.hid (B8.out.trans (b9.mono B8.out.size));have P9:=Lib.hid p9;have O9:=Lib.hid o9.sp;have T9:=Lib.hid (T8.out.below b9);clear b9 p9 o9 B8 T8 G8;go_wp2_with fail;refine (hear_any w9 v1 _ l O9.out (lows_short P9.out) m A' R' (SS'.out.below B9.out) GC'.out.good 0 2147483648).mono ?_;rintro e wa ⟨x,hx,he⟩;obtain ⟨rfl,ba⟩:=hear_at (HT.out _ _ P9.out hx) he;have BA:=Lib.hid (B9.out.trans (ba.mono B9.out.size));have TA:=Lib.hid (T9.out.below ba);have GA:=Lib.hid (GG.out.below BA.out);clear ba hx he HT P9 O9 B9 T9 K0;generalize te K=e3 at *
         by_cases h3:e3=0
         ·subst h3
          have YS:=Lib.hid (YES1.out rfl);clear YES1 NO1;go_wp2_with fail;refine (Fi.round_any _ TA.out (tb K) (tp K)).mono ?_;rintro e wb ⟨rfl,bb⟩;have BB:=Lib.hid (BA.out.trans (bb.mono BA.out.size));have GB:=Lib.hid (GA.out.below bb);clear bb BA TA GA;generalize roundV (tb K) (tp K)=q at *;obtain ⟨q1,q2⟩:=q;simp only at YS;go_wp2_with fail;refine (wakes_any GB.out).mono ?_;rintro e wc ⟨rfl,bc⟩;have BC:=Lib.hid (BB.out.trans (bc.mono BB.out.size));clear bc BB GB
          rcases YS.out with h | h | ⟨h1,h2⟩
          ·have p3:decide ((3:Int) < (d:Int))=true:=decide_eq_true (by omega)
           clear YS h;go_wp2
           go_ret
           exact ⟨rfl,BC.out⟩
          ·have p1:(q2 != 0)=true:=bne_iff_ne.2 h
           by_cases h3:3 < d
           ·have p3:decide ((3:Int) < (d:Int))=true:=decide_eq_true (by omega)
            clear YS h h3;go_wp2
            go_ret
            exact ⟨rfl,BC.out⟩
           ·have p3:decide ((3:Int) < (d:Int))=false:=decide_eq_false (by omega)
            clear YS h h3;go_wp2
            go_ret
            exact ⟨rfl,BC.out⟩
          ·subst h1
           subst h2
           by_cases h4:q2=0
           ·subst h4
            clear YS;go_wp2
            go_ret
            exact ⟨rfl,BC.out⟩
           ·have p1:(q2 != 0)=true:=bne_iff_ne.2 h4
            clear YS h4;go_wp2
            go_ret
            exact ⟨rfl,BC.out⟩
         ·have NN:=NO1.out h3
          have p1:(e3 != 0)=true:=bne_iff_ne.2 h3;have p2:decide (0 < d)=true:=decide_eq_true NN;clear YES1 NO1 h3 NN;go_wp2_with fail;refine (wakes_any GA.out).mono ?_;rintro e wb ⟨rfl,bb⟩;have BB:=Lib.hid (BA.out.trans (bb.mono BA.out.size));clear bb;go_wp2
          go_ret
          exact ⟨rfl,BB.out⟩
        ·have C5:=Lib.hid (at_two (show ((codeV round).1,(codeV round).2)=(0,1) by rw [code_out (by omega)]) (code_any w4 T4.out round))
         go_wp2_with fail;refine C5.out.mono ?_;rintro e w5 ⟨rfl,b5⟩;have B5:=Lib.hid (B4.out.trans (b5.mono B4.out.size));have G5:=Lib.hid (G4.out.below b5);clear b5 B4 G4 T4 C5 q1 q2;go_wp2_with fail;refine (wakes_any G5.out).mono ?_;rintro e w6 ⟨rfl,b6⟩;have B6:=Lib.hid (B5.out.trans (b6.mono B5.out.size));clear b6;go_wp2
         go_ret
         exact ⟨rfl,B6.out⟩
end Go.Proofs.YtljnkaodhfnbbaaGreatDoor.Wb
