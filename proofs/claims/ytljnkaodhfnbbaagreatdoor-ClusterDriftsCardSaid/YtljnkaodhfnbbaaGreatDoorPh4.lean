import Derived.Test.YtljnkaodhfnbbaaGreatDoorPh3
import Derived.Deep.Cut
import Derived.Test.YtljnkaodhfnbbaaGreatDoorPh1
import Derived.Test.YtljnkaodhfnbbaaGreatDoorPh2
import Derived.Test.YtljnkaodhfnbbaaGreatDoorChecked
import Derived.Laws.Rows
import Derived.Deep.WholeRow
import Derived.DeepKeys
import Derived.LoopTactic
import Derived.Outline
import Derived.Deep.LoopGhost
import Derived.Deep.Draws
import Derived.Lib.Hide
import Derived.ArgAppend
import Derived.WideKeyEntry
import Derived.DeepKeys5
import Derived.Maps.AppendAt
import Derived.Maps.OwnOps
import Derived.Maps.RangeWalk
set_option maxRecDepth 100000
namespace Go.Proofs.YtljnkaodhfnbbaaGreatDoor.Fs
open Go.RowKit Go.Maps
open Fl (R4 z4 K4 rec4 rat goodF goodFB okR okL doE newR file arr4 sto2 sto4 sto4_row sto4_other sto4_below sto4_size row_cell row_frozen)
open Ad (goodB)
open Rw (Rd Ow At)
theorem ask_any {w:World} {s:Nat} {F:Nat→Prop} {m:Value} {C:List Ent} {d:Int} (S:Sto w s F m C d) (o f r:Int) (x:R4) (hx:okR x) (hn:goodB o f r=true) :
 (∃ k,k≠0∧dE (C.map Ent.abs) o f r=k∧Calls Tryz.prog 133 #[.pointer (some ⟨s,0,none⟩),Ad.addr o f r,rec4 x] w (AskNo w f k)) ∨
 (dE (C.map Ent.abs) o f r=0∧Calls Tryz.prog 133 #[.pointer (some ⟨s,0,none⟩),Ad.addr o f r,rec4 x] w (AskYes w s F d (dV (C.map Ent.abs) o f r x) (dA (C.map Ent.abs) o f r x))):=by
 have hg:Ad.good o f r:=of_decide_eq_true hn;have wf:Wf f:=WalkArith.wf_i64 (by unfold Ad.good at hg;omega)
 cases hk:look Ent.n f C with
 | none=>exact .inl ⟨3,by decide,by unfold dE;rw [if_pos hn,look_abs,hk];rfl,ask_none S o f r x wf hk⟩
 | some c =>
   have e:dE (C.map Ent.abs) o f r=doE c.p c.l o r:=by unfold dE;rw [if_pos hn,look_abs,hk];rfl
   by_cases h0:doE c.p c.l o r=0
   ·refine .inr ⟨e.trans h0,?_⟩
    have e1:dV (C.map Ent.abs) o f r x=newR c.l o r x:=by
     unfold dV;rw [e,h0,look_abs,hk]
     rfl
    have e2:dA (C.map Ent.abs) o f r x=put key (f,c.p,c.l.set r.toNat (newR c.l o r x)) (C.map Ent.abs):=by
     unfold dA;rw [e,h0,look_abs,hk]
     rfl
    rw [e1,e2]
    rcases S.mp with ⟨_,rfl⟩ | ⟨b,rfl,_,_⟩
    ·cases hk
    ·exact ask_ok S o f r x hx wf hk h0
   ·exact .inl ⟨_,h0,e,ask_err S o f r _ x wf hk rfl h0⟩
theorem Sto.count {w:World} {s:Nat} {F:Nat→Prop} {m:Value} {C:List Ent} {d:Int} (h:Sto w s F m C d) (d':Int):Sto (w.setCell ⟨s,1,none⟩ (.int .i64 d')) s F m C d'∧Only F w (w.setCell ⟨s,1,none⟩ (.int .i64 d')):=by
 have O:Only (fun k=>k=s) w (w.setCell ⟨s,1,none⟩ (.int .i64 d')):=Only.set (fun k=>k=s) w (a:=⟨s,1,none⟩) rfl _;refine ⟨⟨?_,h.foot,h.mp.kept fun b hb=>?_,fun c hc=>ow_only (G:=fun k=>k=s) (h.own c hc) (fun k hk e=>(h.off hc).1 (e ▸ hk)) O,h.mine,h.apart,h.ok,fun k hk=>Nat.lt_of_lt_of_le (h.low k hk) O.size⟩,O.mono fun k _ e=>e ▸ h.foot⟩
 ·have:=Rw.heap_setCell_same (j:=1) h.row (.int .i64 d')
  rw [this]
  simp
 ·subst hb
  exact Below.heap_setCell w _ _ b h.map_ne
def DoSPost (w:World) (s:Nat) (F:Nat→Prop) (d:Int) (y:R4) (k:Int) (A':Abs) (e:Ending) (w':World):Prop:=e = .returned (.tuple #[rec4 y,.int .i64 k])∧St w' s (Fx F w w') A' d∧Only F w w'
theorem o_sto4 (W:World) (g:Nat) (y:R4):Only (fun k=>k=g) W (sto4 W g 0 y):=by
 have O1:∀ W:World,∀ o v,Only (fun k=>k=g) W (W.setCell ⟨g,o,none⟩ v):=fun W o v=>Only.set (fun k=>k=g) W (a:=⟨g,o,none⟩) rfl v;exact (((O1 _ _ _).trans (O1 _ _ _) fun _ _ g=>g).trans (O1 _ _ _) fun _ _ g=>g).trans (O1 _ _ _) fun _ _ g=>g
def DoNo (w:World) (k:Int) (e:Ending) (w':World):Prop:=e = .returned (.tuple #[rec4 z4,.int .i64 k])∧Below w.heap.size w w'
set_option maxHeartbeats 1000000 in
theorem do_1 (w:World) (s:Nat) (o f r:Int) (x:R4) (hn:goodB o f r=false):Calls Tryz.prog 72 #[.pointer (some ⟨s,0,none⟩),Ad.addr o f r,rec4 x] w (DoNo w 1):=by
 have A0:=ask0_of w o f r x;have S0:Hid (Ask0 w o f r x (((w.alloc (.cells #[.int .i64 o,.int .i64 f,.int .i64 r] 66)).alloc (.cells #[.int .u8 x.1,.int .u8 x.2.1,.int .u8 x.2.2.1,.int .u8 x.2.2.2] 42)).alloc (.cells #[.int .u8 0,.int .u8 0,.int .u8 0,.int .u8 0] 42))):=A0;have GA:∀ W,Calls Tryz.prog 132 #[Ad.addr o f r] W fun e w'=>e = .returned (.bool false)∧Below W.heap.size W w':=fun W=>by have:=Ad.good_any W o f r;rwa [hn] at this
 have HG:=Lib.hid GA;clear A0 GA hn;unfold rec4;unfold Ad.addr at *
 go_enter Tryz.func72,Tryz.ntmps72
 have AC:=S0.out;have a0:=row_cell AC.adr 0;have a1:=row_cell AC.adr 1;have a2:=row_cell AC.adr 2;clear AC;go_wp2_with fail;generalize (((w.alloc (.cells #[.int .i64 o,.int .i64 f,.int .i64 r] 66)).alloc (.cells #[.int .u8 x.1,.int .u8 x.2.1,.int .u8 x.2.2.1,.int .u8 x.2.2.2] 42)).alloc (.cells #[.int .u8 0,.int .u8 0,.int .u8 0,.int .u8 0] 42))=W at *;refine (HG.out _).mono ?_;rintro e w1 ⟨rfl,b1⟩;have S2:=Lib.hid (S0.out.mono b1);clear b1 HG S0 a0 a1 a2;have d0:w1.cell? ⟨w.heap.size+2,0,none⟩=some (.int .u8 0):=row_cell S2.out.res 0;have d1:w1.cell? ⟨w.heap.size+2,1,none⟩=some (.int .u8 0):=row_cell S2.out.res 1;have d2:w1.cell? ⟨w.heap.size+2,2,none⟩=some (.int .u8 0):=row_cell S2.out.res 2;have d3:w1.cell? ⟨w.heap.size+2,3,none⟩=some (.int .u8 0):=row_cell S2.out.res 3;have k0:=row_frozen S2.out.res 0;have k1:=row_frozen S2.out.res 1;have k2:=row_frozen S2.out.res 2;have k3:=row_frozen S2.out.res 3;have R3:=Lib.hid (sto4_row S2.out.res z4);have B3:=Lib.hid (sto4_below (o:=0) (r:=z4) S2.out.bel (show w.heap.size≤w.heap.size+2 by omega));clear S2;go_wp2
 (try simp only [Exit.inBlock,Exit.then])
 exact bodyPost_ret (results_rec (p:=6) (r:=7) rfl _ _ (w.heap.size+2) z4 (.int .i64 1) rfl rfl R3.out) rfl ⟨rfl,B3.out⟩
set_option maxHeartbeats 2000000 in
theorem do_no (w:World) (s:Nat) (o f r k:Int) (x:R4) (hg:Glob w) (h5:k≠5) (hn:goodB o f r=true) (ha:∀ W,Below w.heap.size w W→w.heap.size+3≤W.heap.size→Calls Tryz.prog 133 #[.pointer (some ⟨s,0,none⟩),Ad.addr o f r,rec4 x] W (AskNo W f k)) :
 Calls Tryz.prog 72 #[.pointer (some ⟨s,0,none⟩),Ad.addr o f r,rec4 x] w (DoNo w k):=by
 have A0:=ask0_of w o f r x;have S0:Hid (Ask0 w o f r x (((w.alloc (.cells #[.int .i64 o,.int .i64 f,.int .i64 r] 66)).alloc (.cells #[.int .u8 x.1,.int .u8 x.2.1,.int .u8 x.2.2.1,.int .u8 x.2.2.2] 42)).alloc (.cells #[.int .u8 0,.int .u8 0,.int .u8 0,.int .u8 0] 42))):=A0;have HGL:=Lib.hid hg;have H5:=Lib.hid (decide_eq_false h5);clear hg h5;have GA:∀ W,Calls Tryz.prog 132 #[Ad.addr o f r] W fun e w'=>e = .returned (.bool true)∧Below W.heap.size W w':=fun W=>by have:=Ad.good_any W o f r;rwa [hn] at this
 have HG:=Lib.hid GA;have HA:=Lib.hid ha;clear A0 GA hn ha;unfold rec4 at *;unfold Ad.addr at *
 go_enter Tryz.func72,Tryz.ntmps72
 have AC:=S0.out;have a0:=row_cell AC.adr 0;have a1:=row_cell AC.adr 1;have a2:=row_cell AC.adr 2;clear AC;go_wp2_with fail;generalize (((w.alloc (.cells #[.int .i64 o,.int .i64 f,.int .i64 r] 66)).alloc (.cells #[.int .u8 x.1,.int .u8 x.2.1,.int .u8 x.2.2.1,.int .u8 x.2.2.2] 42)).alloc (.cells #[.int .u8 0,.int .u8 0,.int .u8 0,.int .u8 0] 42))=W at *;refine (HG.out _).mono ?_;rintro e w1 ⟨rfl,b1⟩;have S1:=Lib.hid (S0.out.mono b1);clear b1 HG S0 a0 a1 a2;have a0:w1.cell? ⟨w.heap.size,0,none⟩=some (.int .i64 o):=row_cell S1.out.adr 0;have a1:w1.cell? ⟨w.heap.size,1,none⟩=some (.int .i64 f):=row_cell S1.out.adr 1;have a2:w1.cell? ⟨w.heap.size,2,none⟩=some (.int .i64 r):=row_cell S1.out.adr 2;have x0:w1.cell? ⟨w.heap.size+1,0,none⟩=some (.int .u8 x.1):=row_cell S1.out.arg 0;have x1:w1.cell? ⟨w.heap.size+1,1,none⟩=some (.int .u8 x.2.1):=row_cell S1.out.arg 1;have x2:w1.cell? ⟨w.heap.size+1,2,none⟩=some (.int .u8 x.2.2.1):=row_cell S1.out.arg 2;have x3:w1.cell? ⟨w.heap.size+1,3,none⟩=some (.int .u8 x.2.2.2):=row_cell S1.out.arg 3;go_wp2_with fail;refine (HA.out w1 S1.out.bel S1.out.siz).mono ?_;rintro e w2 ⟨rfl,b2⟩;have B2:=Lib.hid (((Below.refl w2.heap.size w2).alloc (Nat.le_refl _) (.cells #[.int .u8 0,.int .u8 0,.int .u8 0,.int .u8 0] 42)));have S2:=Lib.hid ((S1.out.mono b2).mono B2.out);clear b2 S1 a0 a1 a2 x0 x1 x2 x3 HA;unfold rec4 z4 fault flt;go_wp2_with fail;clear B2;generalize (w2.alloc (.cells #[.int .u8 0,.int .u8 0,.int .u8 0,.int .u8 0] 42))=W2 at *;have IS:=Lib.hid (is_any f k W2);rw [H5.out] at IS;unfold fault flt at IS;refine IS.out.mono ?_;rintro e w4 ⟨rfl,b4⟩;have S4:=Lib.hid (S2.out.mono b4);clear b4 IS S2;go_wp2_with fail;have NU:=number_any f k w4 (HGL.out.below S4.out.bel);unfold fault flt at NU;refine NU.mono ?_;rintro e w5 ⟨rfl,b5⟩;have S5:=Lib.hid (S4.out.mono b5);clear b5 S4 NU;have d0:w5.cell? ⟨w.heap.size+2,0,none⟩=some (.int .u8 0):=row_cell S5.out.res 0;have d1:w5.cell? ⟨w.heap.size+2,1,none⟩=some (.int .u8 0):=row_cell S5.out.res 1;have d2:w5.cell? ⟨w.heap.size+2,2,none⟩=some (.int .u8 0):=row_cell S5.out.res 2;have d3:w5.cell? ⟨w.heap.size+2,3,none⟩=some (.int .u8 0):=row_cell S5.out.res 3;have k0:=row_frozen S5.out.res 0;have k1:=row_frozen S5.out.res 1;have k2:=row_frozen S5.out.res 2;have k3:=row_frozen S5.out.res 3;have R3:=Lib.hid (sto4_row S5.out.res z4);have B3:=Lib.hid (sto4_below (o:=0) (r:=z4) S5.out.bel (show w.heap.size≤w.heap.size+2 by omega));clear S5;go_wp2
 (try simp only [Exit.inBlock,Exit.then])
 exact bodyPost_ret (results_rec (p:=6) (r:=7) rfl _ _ (w.heap.size+2) z4 (.int .i64 k) rfl rfl R3.out) rfl ⟨rfl,B3.out⟩
set_option maxHeartbeats 2000000 in
theorem do_5 {w:World} {s:Nat} {F:Nat→Prop} {m:Value} {C:List Ent} {d:Int} (S:Sto w s F m C d) (o f r:Int) (x:R4) (hg:Glob w) (h0:¬ F 1) (hd:0≤d∧d < 1000000) (hn:goodB o f r=true) (ha:∀ W,Below w.heap.size w W→w.heap.size+3≤W.heap.size→Calls Tryz.prog 133 #[.pointer (some ⟨s,0,none⟩),Ad.addr o f r,rec4 x] W (AskNo W f 5)) :
 Calls Tryz.prog 72 #[.pointer (some ⟨s,0,none⟩),Ad.addr o f r,rec4 x] w (DoSPost w s F (d+1) z4 5 (C.map Ent.abs)):=by
 have A0:=ask0_of w o f r x;have S0:Hid (Ask0 w o f r x (((w.alloc (.cells #[.int .i64 o,.int .i64 f,.int .i64 r] 66)).alloc (.cells #[.int .u8 x.1,.int .u8 x.2.1,.int .u8 x.2.2.1,.int .u8 x.2.2.2] 42)).alloc (.cells #[.int .u8 0,.int .u8 0,.int .u8 0,.int .u8 0] 42))):=A0;have HGL:=Lib.hid hg;have SS:=Lib.hid S;have HF0:=Lib.hid h0;have W0:IntKind.i64.wrap (d+1)=d+1:=IntWalk.i64_in _ (by omega);clear hg S h0 hd;have GA:∀ W,Calls Tryz.prog 132 #[Ad.addr o f r] W fun e w'=>e = .returned (.bool true)∧Below W.heap.size W w':=fun W=>by have:=Ad.good_any W o f r;rwa [hn] at this
 have HG:=Lib.hid GA;have HA:=Lib.hid ha;clear A0 GA hn ha;unfold rec4 at *;unfold Ad.addr at *
 go_enter Tryz.func72,Tryz.ntmps72
 have AC:=S0.out;have a0:=row_cell AC.adr 0;have a1:=row_cell AC.adr 1;have a2:=row_cell AC.adr 2;clear AC;go_wp2_with fail;generalize (((w.alloc (.cells #[.int .i64 o,.int .i64 f,.int .i64 r] 66)).alloc (.cells #[.int .u8 x.1,.int .u8 x.2.1,.int .u8 x.2.2.1,.int .u8 x.2.2.2] 42)).alloc (.cells #[.int .u8 0,.int .u8 0,.int .u8 0,.int .u8 0] 42))=W at *;refine (HG.out _).mono ?_;rintro e w1 ⟨rfl,b1⟩;have S1:=Lib.hid (S0.out.mono b1);clear b1 HG S0 a0 a1 a2;have a0:w1.cell? ⟨w.heap.size,0,none⟩=some (.int .i64 o):=row_cell S1.out.adr 0;have a1:w1.cell? ⟨w.heap.size,1,none⟩=some (.int .i64 f):=row_cell S1.out.adr 1;have a2:w1.cell? ⟨w.heap.size,2,none⟩=some (.int .i64 r):=row_cell S1.out.adr 2;have x0:w1.cell? ⟨w.heap.size+1,0,none⟩=some (.int .u8 x.1):=row_cell S1.out.arg 0;have x1:w1.cell? ⟨w.heap.size+1,1,none⟩=some (.int .u8 x.2.1):=row_cell S1.out.arg 1;have x2:w1.cell? ⟨w.heap.size+1,2,none⟩=some (.int .u8 x.2.2.1):=row_cell S1.out.arg 2;have x3:w1.cell? ⟨w.heap.size+1,3,none⟩=some (.int .u8 x.2.2.2):=row_cell S1.out.arg 3;go_wp2_with fail;refine (HA.out w1 S1.out.bel S1.out.siz).mono ?_;rintro e w2 ⟨rfl,b2⟩;have B2:=Lib.hid (((Below.refl w2.heap.size w2).alloc (Nat.le_refl _) (.cells #[.int .u8 0,.int .u8 0,.int .u8 0,.int .u8 0] 42)));have S2:=Lib.hid ((S1.out.mono b2).mono B2.out);clear b2 S1 a0 a1 a2 x0 x1 x2 x3 HA;unfold rec4 z4 fault flt;go_wp2_with fail;clear B2;generalize (w2.alloc (.cells #[.int .u8 0,.int .u8 0,.int .u8 0,.int .u8 0] 42))=W2 at *;have IS:=Lib.hid (is_any f 5 W2);rw [show decide ((5:Int)=5)=true from rfl] at IS;unfold fault flt at IS;refine IS.out.mono ?_;rintro e w4 ⟨rfl,b4⟩;have S4:=Lib.hid (S2.out.mono b4);clear b4 IS S2;have T4:=SS.out.below S4.out.bel;have c1:w4.cell? ⟨s,1,none⟩=some (.int .i64 d):=row_cell T4.row 1;have f1:w4.frozen? ⟨s,1,none⟩=false:=row_frozen T4.row 1;obtain ⟨t5,t6⟩:=T4.count (d+1);have T5:=Lib.hid t5;have O5:=Lib.hid t6;have GL5:Hid (Glob (w4.setCell ⟨s,1,none⟩ (.int .i64 (d+1)))):=(HGL.out.below S4.out.bel).only HF0.out t6;have N5:Hid (Ask0 w o f r x (w4.setCell ⟨s,1,none⟩ (.int .i64 (d+1))))∨True:=.inr trivial;have hsl:=SS.out.low s SS.out.foot;have A5:Hid ((w4.setCell ⟨s,1,none⟩ (.int .i64 (d+1))).heap[w.heap.size+2]? = some (.cells (arr4 z4) 42 (0,0))):=(Below.heap_setCell w4 ⟨s,1,none⟩ _ _ (by show w.heap.size+2≠s;omega)).trans S4.out.res;have BB:Hid (Only F w (w4.setCell ⟨s,1,none⟩ (.int .i64 (d+1)))):=(Only.of_below S4.out.bel).trans t6 fun _ _ g=>g;clear T4 t5 t6 N5 S4;go_wp2_with fail;clear c1 f1;generalize w4.setCell ⟨s,1,none⟩ (.int .i64 (d+1))=w5 at *;have NU:=number_any f 5 w5 GL5.out;unfold fault flt at NU;refine NU.mono ?_;rintro e w6 ⟨rfl,b6⟩;have T6:=Lib.hid (T5.out.below b6);have A6:=Lib.hid ((b6.block _ (lt_of_block A5.out)).trans A5.out);have O6:=Lib.hid (BB.out.then b6);clear b6 NU T5 A5 BB O5;have d0:w6.cell? ⟨w.heap.size+2,0,none⟩=some (.int .u8 0):=row_cell A6.out 0;have d1:w6.cell? ⟨w.heap.size+2,1,none⟩=some (.int .u8 0):=row_cell A6.out 1;have d2:w6.cell? ⟨w.heap.size+2,2,none⟩=some (.int .u8 0):=row_cell A6.out 2;have d3:w6.cell? ⟨w.heap.size+2,3,none⟩=some (.int .u8 0):=row_cell A6.out 3;have k0:=row_frozen A6.out 0;have k1:=row_frozen A6.out 1;have k2:=row_frozen A6.out 2;have k3:=row_frozen A6.out 3;have R3:=Lib.hid (sto4_row A6.out z4);have O7:Only F w (sto4 w6 (w.heap.size+2) 0 z4):=O6.out.trans (o_sto4 w6 (w.heap.size+2) z4) fun k hk e=>by omega
 have FIN:Hid (DoSPost w s F (d+1) z4 5 (C.map Ent.abs) (.returned (.tuple #[rec4 z4,.int .i64 5])) (sto4 w6 (w.heap.size+2) 0 z4)):=⟨rfl,⟨m,C,(T6.out.only (G:=fun k=>k=w.heap.size+2) (fun k hk e=>by have:=SS.out.low k hk;omega) (o_sto4 w6 (w.heap.size+2) z4)).wide (fun k hk=>.inl hk) (Fx.low SS.out.low O7.size),rfl⟩,O7⟩;clear A6 O6 O7 T6;go_wp2
 (try simp only [Exit.inBlock,Exit.then])
 exact bodyPost_ret (results_rec (p:=6) (r:=7) rfl _ _ (w.heap.size+2) z4 (.int .i64 5) rfl rfl R3.out) rfl FIN.out
set_option maxHeartbeats 2000000 in
theorem do_yes (w:World) (s:Nat) (F:Nat→Prop) (d:Int) (A':Abs) (y:R4) (o f r:Int) (x:R4) (hF:∀ k,F k→k < w.heap.size) (hn:goodB o f r=true) (ha:∀ W,Below w.heap.size w W→w.heap.size+3≤W.heap.size→Calls Tryz.prog 133 #[.pointer (some ⟨s,0,none⟩),Ad.addr o f r,rec4 x] W (AskYes W s F d y A')) :
 Calls Tryz.prog 72 #[.pointer (some ⟨s,0,none⟩),Ad.addr o f r,rec4 x] w (DoSPost w s F d y 0 A'):=by
 have A0:=ask0_of w o f r x;have S0:Hid (Ask0 w o f r x (((w.alloc (.cells #[.int .i64 o,.int .i64 f,.int .i64 r] 66)).alloc (.cells #[.int .u8 x.1,.int .u8 x.2.1,.int .u8 x.2.2.1,.int .u8 x.2.2.2] 42)).alloc (.cells #[.int .u8 0,.int .u8 0,.int .u8 0,.int .u8 0] 42))):=A0;have HF:=Lib.hid hF;clear hF;have GA:∀ W,Calls Tryz.prog 132 #[Ad.addr o f r] W fun e w'=>e = .returned (.bool true)∧Below W.heap.size W w':=fun W=>by have:=Ad.good_any W o f r;rwa [hn] at this
 have HG:=Lib.hid GA;have HA:=Lib.hid ha;clear A0 GA hn ha;unfold rec4 at *;unfold Ad.addr at *
 go_enter Tryz.func72,Tryz.ntmps72
 have AC:=S0.out;have a0:=row_cell AC.adr 0;have a1:=row_cell AC.adr 1;have a2:=row_cell AC.adr 2;clear AC;go_wp2_with fail;generalize (((w.alloc (.cells #[.int .i64 o,.int .i64 f,.int .i64 r] 66)).alloc (.cells #[.int .u8 x.1,.int .u8 x.2.1,.int .u8 x.2.2.1,.int .u8 x.2.2.2] 42)).alloc (.cells #[.int .u8 0,.int .u8 0,.int .u8 0,.int .u8 0] 42))=W at *;refine (HG.out _).mono ?_;rintro e w1 ⟨rfl,b1⟩;have S1:=Lib.hid (S0.out.mono b1);clear b1 HG S0 a0 a1 a2;have a0:w1.cell? ⟨w.heap.size,0,none⟩=some (.int .i64 o):=row_cell S1.out.adr 0;have a1:w1.cell? ⟨w.heap.size,1,none⟩=some (.int .i64 f):=row_cell S1.out.adr 1;have a2:w1.cell? ⟨w.heap.size,2,none⟩=some (.int .i64 r):=row_cell S1.out.adr 2;have x0:w1.cell? ⟨w.heap.size+1,0,none⟩=some (.int .u8 x.1):=row_cell S1.out.arg 0;have x1:w1.cell? ⟨w.heap.size+1,1,none⟩=some (.int .u8 x.2.1):=row_cell S1.out.arg 1;have x2:w1.cell? ⟨w.heap.size+1,2,none⟩=some (.int .u8 x.2.2.1):=row_cell S1.out.arg 2;have x3:w1.cell? ⟨w.heap.size+1,3,none⟩=some (.int .u8 x.2.2.2):=row_cell S1.out.arg 3;go_wp2_with fail;refine (HA.out w1 S1.out.bel S1.out.siz).mono ?_;rintro e w2 ⟨rfl,t2,o2⟩;have hwl:w.heap.size+3≤w2.heap.size:=Nat.le_trans S1.out.siz o2.size;have RW:w2.heap[w.heap.size+2]? = some (.cells (arr4 z4) 42 (0,0)):=(o2.block _ (by have:=S1.out.siz;omega) (fun g=>by have:=HF.out _ g;omega)).trans S1.out.res;obtain ⟨g1,g2,g3⟩:=box_rec w2 y;have B2:=Lib.hid g2;have T2:=Lib.hid (t2.below g2);have A6:Hid ((w2.alloc (.cells (arr4 y) 42)).heap[w.heap.size+2]? = some (.cells (arr4 z4) 42 (0,0))):=(g2.block _ (by omega)).trans RW;have Y6:=Lib.hid g1;have hF2:Hid (∀ k,Fx F w1 w2 k→k≠w.heap.size+2∧(F k∨w.heap.size≤k)):=fun k hk=>by
  have:=S1.out.siz
  rcases hk with hk | ⟨hk,_⟩
  ·have:=HF.out k hk
   exact ⟨by omega,.inl hk⟩
  ·exact ⟨by omega,.inr (by omega)⟩
 have O6:Hid (Only F w (w2.alloc (.cells (arr4 y) 42))):=((Only.of_below S1.out.bel).trans o2 fun _ _ g=>g).then g2;clear g1 g2 g3 t2 o2 S1 a0 a1 a2 x0 x1 x2 x3 HA RW B2;unfold rec4;have Y4:Hid (arr4 y=#[.int .u8 y.1,.int .u8 y.2.1,.int .u8 y.2.2.1,.int .u8 y.2.2.2]):=rfl;rw [Y4.out] at T2 A6 Y6 O6;have y0:(w2.alloc (.cells #[.int .u8 y.1,.int .u8 y.2.1,.int .u8 y.2.2.1,.int .u8 y.2.2.2] 42)).cell? ⟨w2.heap.size,0,none⟩=some (.int .u8 y.1):=row_cell Y6.out 0;go_upto_region 5 with fail;clear y0;generalize (w2.alloc (.cells #[.int .u8 y.1,.int .u8 y.2.1,.int .u8 y.2.2.1,.int .u8 y.2.2.2] 42))=w6 at *;have y0:w6.cell? ⟨w2.heap.size,0,none⟩=some (.int .u8 y.1):=row_cell Y6.out 0;have y1:w6.cell? ⟨w2.heap.size,1,none⟩=some (.int .u8 y.2.1):=row_cell Y6.out 1;have y2:w6.cell? ⟨w2.heap.size,2,none⟩=some (.int .u8 y.2.2.1):=row_cell Y6.out 2;have y3:w6.cell? ⟨w2.heap.size,3,none⟩=some (.int .u8 y.2.2.2):=row_cell Y6.out 3;have d0:w6.cell? ⟨w.heap.size+2,0,none⟩=some (.int .u8 0):=row_cell A6.out 0;have d1:w6.cell? ⟨w.heap.size+2,1,none⟩=some (.int .u8 0):=row_cell A6.out 1;have d2:w6.cell? ⟨w.heap.size+2,2,none⟩=some (.int .u8 0):=row_cell A6.out 2;have d3:w6.cell? ⟨w.heap.size+2,3,none⟩=some (.int .u8 0):=row_cell A6.out 3;have k0:=row_frozen A6.out 0;have k1:=row_frozen A6.out 1;have k2:=row_frozen A6.out 2;have k3:=row_frozen A6.out 3;have R3:=Lib.hid (sto4_row A6.out y);have O7:Only F w (sto4 w6 (w.heap.size+2) 0 y):=O6.out.trans (o_sto4 w6 (w.heap.size+2) y) fun k hk e=>by omega
 have FIN:Hid (DoSPost w s F d y 0 A' (.returned (.tuple #[rec4 y,.int .i64 0])) (sto4 w6 (w.heap.size+2) 0 y)):=by
  have T7:=T2.out.only (G:=fun k=>k=w.heap.size+2) (fun k hk e=>(hF2.out k hk).1 e) (o_sto4 w6 (w.heap.size+2) y);refine ⟨rfl,T7.wide (fun k hk=>?_) (Fx.low HF.out O7.size),O7⟩
  rcases (hF2.out k hk).2 with h | h
  ·exact .inl h
  ·exact .inr ⟨h,T7.low k hk⟩
 clear A6 O6 O7 T2 hF2;go_wp2
 (try simp only [Exit.inBlock,Exit.then])
 exact bodyPost_ret (results_rec (p:=6) (r:=7) rfl _ _ (w.heap.size+2) y (.int .i64 0) rfl rfl R3.out) rfl FIN.out
theorem dos_any {w:World} {s:Nat} {F:Nat→Prop} {A:Abs} {d:Int} (S:St w s F A d) (hg:Glob w) (h0:¬ F 1) (hd:0≤d∧d < 1000000) (o f r:Int) (x:R4) (hx:okR x) :
 Calls Tryz.prog 72 #[.pointer (some ⟨s,0,none⟩),Ad.addr o f r,rec4 x] w (DoSPost w s F (dD A o f r d) (dV A o f r x) (dE A o f r) (dA A o f r x)):=by
 obtain ⟨m,C,h,rfl⟩:=S;have no:∀ k e w',dE (C.map Ent.abs) o f r=k→k≠0→k≠5→DoNo w k e w'→DoSPost w s F (dD (C.map Ent.abs) o f r d) (dV (C.map Ent.abs) o f r x) (dE (C.map Ent.abs) o f r) (dA (C.map Ent.abs) o f r x) e w':=fun k e w' hk h0 h5 ⟨he,b⟩=>by
  have e1:dV (C.map Ent.abs) o f r x=z4:=by unfold dV;split;rfl;rw [hk,if_neg h0]
  have e2:dA (C.map Ent.abs) o f r x=C.map Ent.abs:=by unfold dA;split;rfl;rw [hk,if_neg h0]
  have e3:dD (C.map Ent.abs) o f r d=d:=by unfold dD;rw [hk,if_neg h5]
  rw [e1,e2,e3,hk];exact ⟨he,St.fx ⟨m,C,h,rfl⟩ b,Only.of_below b⟩
 cases hn:goodB o f r with
 | false=>exact (do_1 w s o f r x hn).mono fun e w'=>no 1 e w' (by unfold dE;rw [if_neg (by rw [hn];decide)]) (by decide) (by decide)
 | true =>
   by_cases hz:dE (C.map Ent.abs) o f r=0
   ·have e3:dD (C.map Ent.abs) o f r d=d:=by unfold dD;rw [hz,if_neg (by decide)]
    rw [e3,hz];refine do_yes w s F d _ _ o f r x h.low hn fun W hb _=>?_
    rcases ask_any (h.below hb) o f r x hx hn with ⟨k,h1,h2,_⟩ | ⟨_,h3⟩
    ·exact absurd (h2.symm.trans hz) h1
    ·exact h3
   ·have ask:∀ W,Below w.heap.size w W→w.heap.size+3≤W.heap.size→Calls Tryz.prog 133 #[.pointer (some ⟨s,0,none⟩),Ad.addr o f r,rec4 x] W (AskNo W f (dE (C.map Ent.abs) o f r)):=fun W hb _=>by
     rcases ask_any (h.below hb) o f r x hx hn with ⟨k,h1,h2,h3⟩ | ⟨h3,_⟩
     ·rw [h2];exact h3
     ·exact absurd h3 hz
    by_cases h5:dE (C.map Ent.abs) o f r=5
    ·have e1:dV (C.map Ent.abs) o f r x=z4:=by unfold dV;split;rfl;rw [h5,if_neg (by decide)]
     have e2:dA (C.map Ent.abs) o f r x=C.map Ent.abs:=by unfold dA;split;rfl;rw [h5,if_neg (by decide)]
     have e3:dD (C.map Ent.abs) o f r d=d+1:=by unfold dD;rw [h5,if_pos rfl]
     rw [e1,e2,e3];rw [h5] at ask ⊢;exact do_5 h o f r x hg h0 hd hn ask
    ·exact (do_no w s o f r _ x hg h5 hn ask).mono fun e w'=>no _ e w' rfl hz h5
end Go.Proofs.YtljnkaodhfnbbaaGreatDoor.Fs
namespace Go.Proofs.YtljnkaodhfnbbaaGreatDoor.Fl
open Go.RowKit
open Rw (Rd Ow At)
theorem results_file {fn:Func} {p:Tmp} (h:fn.results=#[.cell p 70]) (tmps:Array Value) (w:World) (g:Nat) (q:Int) (v:Value) (hp:tmps.getD p undef = .pointer (some ⟨g,0,none⟩)) (hrow:w.heap[g]? = some (.cells #[.int .i64 q,v] 70 (0,0))) :
 (results fn tmps).run Tryz.prog w = .ok (file q v) w:=results_cell_row h tmps w g _ #[.int .i64 q,v] _ _ hp hrow Tryz.underlying70 rfl (by show _=some 2;kernel_rfl)
end Go.Proofs.YtljnkaodhfnbbaaGreatDoor.Fl
namespace Go.Proofs.YtljnkaodhfnbbaaGreatDoor.Fs
open Go.RowKit Go.Maps
open Fl (R4 z4 K4 rec4 rat goodF goodFB okR okL file arr4 hdr newL newP row_cell row_frozen results_file ret_bool eq_rec)
open Rw (Rd Ow At)
def L0:List R4:=[(3,2,165,164),z4,z4,z4]
def L1:List R4:=[(3,2,165,164),z4,(9,0,0,0),z4]
def A0:Abs:=[(7,2,L0)]
theorem new_st (w:World):St (w.alloc (.cells #[.map none,.int .i64 0] 178)) w.heap.size (fun k=>k=w.heap.size) [] 0 :=
 ⟨.map none,[],⟨heap_alloc_new w _,rfl,.inl ⟨rfl,rfl⟩,nofun,nofun,List.Pairwise.nil,OkA.nil,fun k hk=>by subst hk;simp⟩,rfl⟩
theorem get_st {w:World} {s:Nat} {F:Nat→Prop} {A:Abs} {d:Int} (S:St w s F A d) {n:Int} (hn:Wf n) (r:Int):Calls Tryz.prog 31 #[.pointer (some ⟨s,0,none⟩),.int .i64 n,.int .i64 r] w (GetPost w (gV A n r) (gB A n r)):=by
 obtain ⟨m,C,h,rfl⟩:=S;exact get_any h hn r
end Go.Proofs.YtljnkaodhfnbbaaGreatDoor.Fs
namespace Go.Proofs.YtljnkaodhfnbbaaGreatDoor.Fs
open Go.RowKit Go.Maps
open Fl (R4 z4 K4 rec4 rat goodF goodFB okR okL file arr4 sto4 sto4_row sto4_below row_cell row_frozen at4)
open Rw (Rd Ow At)
theorem at3 {w:World} {b off:Nat} {L:List Ent} (h:At E3 w b off L) {i:Nat} {c:Ent} (hc:L[i]? = some c) :
 w.cell? ⟨b,off+i * 3,none⟩=some (.int .i64 c.n)∧w.cell? ⟨b,off+i * 3+1,none⟩=some (.int .i64 c.p)∧w.cell? ⟨b,off+i * 3+2,none⟩=some c.sl:=by
 have hi:=(List.getElem?_eq_some_iff.1 hc).1;have e:L.getD i E3.dft=c:=by rw [List.getD_eq_getElem?_getD,hc];rfl
 exact ⟨h i hi 0 _ (by rw [e];rfl),h i hi 1 _ (by rw [e];rfl),h i hi 2 _ (by rw [e];rfl)⟩
end Go.Proofs.YtljnkaodhfnbbaaGreatDoor.Fs
namespace Go.Proofs.YtljnkaodhfnbbaaGreatDoor.Fs
open Go.RowKit Go.Maps
open Fl (R4 z4 K4 rec4 rat goodF goodFB okR okL file arr4 sto4 sto4_row sto4_below sto4_own sto4_other sto4_off own4 row_cell row_frozen at4 infoR)
open Rw (Rd Ow At)
attribute [local irreducible] Sd.wpSd wpQuiet Sf.wpSf
def Gd (F:Nat→Prop) (r:Nat) (W:World) (c:Ent):Prop:=Rd K4 W c.sl c.l∧(0 < c.l.length→∀ k,c.sl.ownBlock=some k→¬ (F k∨k=r))
theorem Rst.next {w W:World} {r:Nat} {F:Nat→Prop} {v v':Value} {L L':List Ent} {d d':Int} (R:Rst w r F v L d) (hF:∀ k,F k→k < w.heap.size) (O:Only (fun k=>k=r) w W) (row:W.heap[r]? = some (.cells #[v',.int .i64 d'] 50 (0,0)))
 (own:Ow E3 W w.heap.size 72 v' L') (mem:∀ c∈L',c∈L∨Gd F r W c) (ok:OkA (L'.map Ent.abs)):Rst W r F v' L' d':=by
 have hr:=lt_of_block R.row;refine ⟨row,R.off,⟨own.rd,fun _ k hk g=>?_,fun c hc=>?_,fun c hc=>?_⟩,ok⟩
 ·have:=(ow_new own k hk).1
  rcases g with g | g
  ·have:=hF k g;omega
  ·omega
 ·rcases mem c hc with h | h
  ·exact rd_only (G:=fun k=>k=r) (R.list.file c h) (fun h0 k hk e=>R.list.foff c h h0 k hk (.inr e)) O
  ·exact h.1
 ·rcases mem c hc with h | h
  ·exact R.list.foff c h
  ·exact h.2
structure RC (r:Nat) (v:Value) (d:Int) (g:Nat) (p:Int) (u:Value) (W:World):Prop where
 row:W.heap[r]? = some (.cells #[v,.int .i64 d] 50 (0,0))
 box:W.heap[g]? = some (.cells #[.int .i64 p,u] 70 (0,0))
end Go.Proofs.YtljnkaodhfnbbaaGreatDoor.Fs
namespace Go.Proofs.YtljnkaodhfnbbaaGreatDoor.Sz
open Go.RowKit
open Sd (light light_value picks)
open Sc (In)
def wpAnyZ (P:Program) (md:Region.Mode) (ops:Array Oper) (Q:Exit→Act→World→Prop) (S:World→Prop) (z:Nat):Nat→Array Bool→Act→World→Prop
 | 0,listed,a,w=>Region.ready md ops listed = []∧Q .normal a w
 | fuel+1,listed,a,w =>
   (Region.ready md ops listed = []→Q .normal a w) ∧
   ∀ i∈Region.ready md ops listed,wpOp P ops Q i (fun a' w'=>(i=z∨S w')∧wpAnyZ P md ops Q S z fuel (listed.setIfInBounds i true) a' w') a w
section
variable {P:Program} {md:Region.Mode} {ops:Array Oper} {Q:Exit→Act→World→Prop} {S:World→Prop} {z:Nat}
theorem any_of:∀ (fuel:Nat) (listed:Array Bool) (a:Act) (w:World),wpAnyZ P md ops Q S z fuel listed a w→wpAny P md ops Q fuel listed a w
 | 0,_,_,_,h=>h
 | fuel+1,_,_,_,h=>⟨h.1,fun i hi=>wpOp_mono (fun a' w' h'=>any_of fuel _ a' w' h'.2) (h.2 i hi)⟩
def Blocks (md:Region.Mode) (ops:Array Oper) (z i:Nat) (listed:Array Bool):Prop:=∃ oz e,ops[z]? = some oz∧e∈oz.after∧Region.binds md e=true∧listed.getD e.on true=false∧(e.on=i∨∃ ok,ops[e.on]? = some ok∧∃ e'∈ok.after,Region.binds md e'=true∧e'.on=i)
theorem first {i:Nat} {oi:Oper} {v:Value} (hi:ops[i]? = some oi) (hsel:∀ (j:Nat) (o:Oper) cs b,ops[j]? = some o→o.op≠.select cs b)
 (hQ:∀ c a w,Q (.panic c) (a.put oi.dst v) w→Q (.panic c) a w) :
 ∀ (fuel:Nat) (listed:Array Bool) (a:Act) (w:World),Blocks md ops z i listed →
  (∀ j oj,ops[j]? = some oj→j≠i→listed.getD j true=false→(∀ e∈oj.after,Region.binds md e=true→e.on≠i)→oi.apart ops oj=true) →
  i∈Region.ready md ops listed→YieldsIf P ops S oi v a→S w →
  wpAnyZ P md ops Q S z fuel (listed.setIfInBounds i true) (a.put oi.dst v) w→wpAnyZ P md ops Q S z (fuel+1) listed a w:=by
 intro fuel
 induction fuel with
 | zero =>
   intro listed a w _ _ hr hy hS H
   refine ⟨fun h=>(by rw [h] at hr;cases hr),fun j hj=>?_⟩
   by_cases hji:j=i
   ·subst hji;exact hy.wpOp hi hS ⟨.inr hS,H⟩
   ·have:=ready_mono hj hji
    rw [H.1] at this
    cases this
 | succ fuel ih =>
   intro listed a w hz hfree hr hy hS H
   refine ⟨fun h=>(by rw [h] at hr;cases hr),fun j hj=>?_⟩
   by_cases hji:j=i
   ·subst hji;exact hy.wpOp hi hS ⟨.inr hS,H⟩
   ·have h1:=H.2 j (ready_mono hj hji)
    obtain ⟨hjun,oj,hoj,hall⟩:=mem_ready.1 hj;have hnot:∀ e∈oj.after,Region.binds md e=true→e.on≠i:=fun e he hb heq=>by
     have h1:=hall e he hb;have h0:=(mem_ready.1 hr).1;rw [heq] at h1
     rcases Nat.lt_or_ge i listed.size with h' | h'
     ·simp [h'] at h0 h1;rw [h0] at h1;cases h1
     ·simp [Array.getElem?_eq_none h'] at h1
    obtain ⟨oz,ez,hoz,hez,hbz,hnl,hor⟩:=hz;have low:∀ {k:Nat},listed.getD k true=false→listed.getD k false=false:=fun {k} h=>by
     rcases Nat.lt_or_ge k listed.size with h' | h'
     ·simp [h'] at h ⊢;exact h
     ·simp [Array.getElem?_eq_none h'] at h
    have hjz:j≠z:=fun e=>by
     subst e;rw [hoj] at hoz;obtain rfl:=Option.some.inj hoz;have:=hall ez hez hbz;rw [low hnl] at this
     cases this
    have hje:j≠ez.on:=fun e=>by
     rcases hor with h | ⟨ok,hok,e',he',hb',hon⟩
     ·exact hji (e.trans h)
     ·rw [← e,hoj] at hok
      obtain rfl:=Option.some.inj hok;exact hnot e' he' hb' hon
    have hz':Blocks md ops z i (listed.setIfInBounds j true):=⟨oz,ez,hoz,hez,hbz,by rw [getD_set_ne true hje];exact hnl,hor⟩;have h2:=wpOp_putIf hoj (hfree j oj hoj hji hjun hnot) (fun cs b=>hsel i oi cs b hi) (fun cs b=>hsel j oj cs b hoj) hQ hy h1;have hfree':∀ k ok,ops[k]? = some ok→k≠i→(listed.setIfInBounds j true).getD k true=false →
     (∀ e∈ok.after,Region.binds md e=true→e.on≠i)→oi.apart ops ok=true:=fun k ok hk hki hun hno=>by
     refine hfree k ok hk hki ?_ hno
     by_cases hjk:j=k
     ·subst hjk;exact hjun
     ·rw [getD_set_ne true hjk] at hun;exact hun
    refine wpOp_mono (fun a' w' h3=>?_) h2;have hS':S w':=h3.2.1.resolve_left hjz;refine ⟨.inr hS',ih (listed.setIfInBounds j true) a' w' hz' hfree' (ready_mono hr (Ne.symm hji)) h3.1 hS' ?_⟩;rw [Array.setIfInBounds_comm _ _ hji];exact h3.2.2
theorem fin {listed:Array Bool} {a:Act} {w:World} (hr:Region.ready md ops listed = []) (h:Q .normal a w) :
 ∀ fuel,wpAnyZ P md ops Q S z fuel listed a w
 | 0=>⟨hr,h⟩
 | _+1=>⟨fun _=>h,by rw [hr];simp⟩
theorem all {rs:List Nat} {fuel:Nat} {listed:Array Bool} {a:Act} {w:World} (hr:Region.ready md ops listed=rs) (hne:rs≠[])
 (h:∀ i∈rs,wpOp P ops Q i (fun a' w'=>(i=z∨S w')∧wpAnyZ P md ops Q S z fuel (listed.setIfInBounds i true) a' w') a w):wpAnyZ P md ops Q S z (fuel+1) listed a w :=
 ⟨fun h0=>absurd (hr ▸ h0) hne,hr ▸ h⟩
end
def blocksB (ops:Array Oper) (z i:Nat) (listed:Array Bool):Bool:=match ops[z]? with
 | some oz=>oz.after.any fun e=>Region.binds .any e && !listed.getD e.on true && (e.on == i || match ops[e.on]? with
   | some ok=>ok.after.any fun e'=>Region.binds .any e' && e'.on == i
   | none=>false)
 | none=>false
theorem blocks_of {ops:Array Oper} {z i:Nat} {listed:Array Bool} (h:blocksB ops z i listed=true):Blocks .any ops z i listed:=by
 unfold blocksB at h
 cases ho:ops[z]? with
 | none=>rw [ho] at h;cases h
 | some oz =>
   rw [ho] at h;obtain ⟨e,he,hb⟩:=Array.any_eq_true'.1 h;simp only [Bool.and_eq_true,Bool.not_eq_true',Bool.or_eq_true,beq_iff_eq] at hb;obtain ⟨⟨hb1,hb2⟩,hb3⟩:=hb;refine ⟨oz,e,ho,he,hb1,hb2,?_⟩
   rcases hb3 with h3 | h3
   ·exact .inl h3
   ·cases hk:ops[e.on]? with
    | none=>rw [hk] at h3;cases h3
    | some ok =>
      rw [hk] at h3;obtain ⟨e',he',hb'⟩:=Array.any_eq_true'.1 h3;simp only [Bool.and_eq_true,beq_iff_eq] at hb';exact .inr ⟨ok,rfl,e',he',hb'.1,hb'.2⟩
def good (ops:Array Oper) (z:Nat):List (Bool×Nat)→Array Bool→Nat→Bool
 | _,_,0=>false
 | [],listed,_+1=>Region.ready .any ops listed == [z] && (Region.ready .any ops (listed.setIfInBounds z true)).isEmpty
 | (h,i) :: r,listed,fuel+1 =>
   (match ops[i]? with
    | some o=>i != z && (if h then Region.ready .any ops listed == [i] else light o.op && Region.free .any ops listed i && (Region.ready .any ops listed).contains i && blocksB ops z i listed)
    | none=>false) && good ops z r (listed.setIfInBounds i true) fuel
def wpSz (P:Program) (ops:Array Oper) (C:World→Prop) (Q:Exit→Act→World→Prop) (E:Act→World→Prop):List (Bool×Oper)→Act→World→Prop
 | [],a,w=>E a w
 | (false,o) :: r,a,w=>wpQuiet P ops C (fun a'=>wpSz P ops C Q E r a' w) [o] a
 | (true,o) :: r,a,w=>if Region.wanted o (yielded ops a.tmps) then o.wp P a w (fun a' w'=>C w'∧wpSz P ops C Q E r a' w') Q else wpSz P ops C Q E r (a.put o.dst undef) w
theorem sound {P:Program} {l:List Oper} {C:World→Prop} {Q:Exit→Act→World→Prop} {z:Nat} {oz:Oper} (hs:Region.noSelect l.toArray=true) (hQ:∀ c d v a w,Q (.panic c) (Act.put a d v) w→Q (.panic c) a w)
 (hoz:l[z]? = some oz) (hgd:oz.guard=none) :
 ∀ (sc:List (Bool×Nat)) (listed:Array Bool) (fuel:Nat) (a:Act) (w:World),good l.toArray z sc listed fuel=true→C w→wpSz P l.toArray C Q (fun a w=>oz.wp P a w (fun a' w'=>Q .normal a' w') Q) (picks l sc) a w→wpAnyZ P .any l.toArray Q C z fuel listed a w
 | [],listed,0,a,w,hg,_,h=>by cases hg
 | [],listed,fuel+1,a,w,hg,_,h=>by
   unfold good at hg;simp only [Bool.and_eq_true,beq_iff_eq,List.isEmpty_iff] at hg;refine all hg.1 (by simp) fun j hj=>?_;obtain rfl:j=z:=by simpa using hj
   have hop:l.toArray[j]? = some oz:=by rw [List.getElem?_toArray];exact hoz
   unfold wpOp;simp only [hop];rw [if_pos (by simp [Region.wanted,hgd])];exact .inl (Oper.wp_mono (fun a' w' k=>⟨by simp,fin hg.2 k fuel⟩) h)
 | _ :: _,_,0,_,_,hg,_,_=>by cases hg
 | (b,i) :: r,listed,fuel+1,a,w,hg,hC,h=>by
   unfold good at hg;simp only [Bool.and_eq_true] at hg;obtain ⟨hg1,hg2⟩:=hg;have hll:l.toArray[i]? = l[i]?:=by rw [List.getElem?_toArray]
   cases ho:l[i]? with
   | none=>rw [hll,ho] at hg1;cases hg1
   | some o =>
     rw [hll,ho] at hg1;simp only [Bool.and_eq_true,bne_iff_ne,ne_eq] at hg1;obtain ⟨_,hg1⟩:=hg1;have hop:l.toArray[i]? = some o:=hll.trans ho;have hp:picks l ((b,i) :: r)=(b,o) :: picks l r:=by rw [picks,ho]
     rw [hp] at h
     cases b with
     | true =>
       simp only [if_true,beq_iff_eq] at hg1;refine all hg1 (by simp) fun j hj=>?_;obtain rfl:j=i:=by simpa using hj
       unfold wpOp;simp only [hop];unfold wpSz at h
       by_cases hw:Region.wanted o (yielded l.toArray a.tmps)=true
       ·rw [if_pos hw] at h ⊢
        exact .inl (Oper.wp_mono (fun a' w' ⟨c,k⟩=>⟨.inr c,sound hs hQ hoz hgd r _ fuel a' w' hg2 c k⟩) h)
       ·rw [if_neg hw] at h ⊢
        exact ⟨.inr hC,sound hs hQ hoz hgd r _ fuel _ w hg2 hC h⟩
     | false =>
       simp only [Bool.false_eq_true,if_false,Bool.and_eq_true] at hg1;obtain ⟨⟨⟨hk,hf⟩,hr⟩,hbl⟩:=hg1;have hr':i∈Region.ready .any l.toArray listed:=by simpa using hr
       unfold wpSz at h
       by_cases hw:Region.wanted o (yielded l.toArray a.tmps)=true
       ·unfold wpQuiet at h
        rw [if_pos hw] at h;obtain ⟨v,hv,hn⟩:=h;refine first (v:=v) hop (Region.noSelect_spec hs) (fun c a w=>hQ c _ _ a w) fuel listed a w (blocks_of hbl) (Region.free_spec hop hf) hr' (.inl ⟨hw,fun w' hw'=>?_⟩) hC (sound hs hQ hoz hgd r _ fuel _ w hg2 hC hn)
        have q:=hv w' hw';unfold Oper.quietAt at q
        cases e:(execOp a.eval o).run P w' with
        | halt x w1=>rw [e] at q;cases q
        | ok n w1 =>
          obtain ⟨u,rfl⟩:=light_value hk e;rw [e] at q;obtain ⟨e1,e2⟩:=q;rw [e1,e2]
       ·unfold wpQuiet at h
        rw [if_neg hw] at h;exact first (v:=undef) hop (Region.noSelect_spec hs) (fun c a w=>hQ c _ _ a w) fuel listed a w (blocks_of hbl) (Region.free_spec hop hf) hr' (.inr ⟨by simpa using hw,rfl⟩) hC (sound hs hQ hoz hgd r _ fuel _ w hg2 hC h)
theorem start {P:Program} {id:Nat} {l:List Oper} {Q:Exit→Act→World→Prop} {a:Act} {w:World} {oz:Oper} (C:World→Prop) (sc:List (Bool×Nat)) (z:Nat) (hm:P.follows .mixedOrders=true) (hs:Region.noSelect l.toArray=true)
 (hg:good l.toArray z sc (Array.replicate l.toArray.size false) l.toArray.size=true) (hoz:l[z]? = some oz) (hgd:oz.guard=none) (h0:C w.drew)
 (h:wpSz P l.toArray (fun w'=>∃ p:In C,w'=p.world) (NoPanic Q) (fun a w=>oz.wp P a w (fun a' w'=>NoPanic Q .normal a' w') (NoPanic Q)) (picks l sc) a w.drew):(Code.region id l.toArray true).wp P Q a w :=
 wp_region_noPanic (wp_region_any hm (any_of _ _ _ _ (sound hs (fun _ _ _ _ _ h=>h) hoz hgd sc _ _ a _ hg (Sc.Cl.of h0) h)))
section
variable {P:Program} {ops:Array Oper} {C:World→Prop} {Q:Exit→Act→World→Prop} {E:Act→World→Prop} {a:Act} {w:World} {o:Oper} {r:List (Bool×Oper)}
theorem done (h:E a w):wpSz P ops C Q E [] a w:=h
theorem lit (h:wpQuiet P ops C (fun a'=>wpSz P ops C Q E r a' w) [o] a):wpSz P ops C Q E ((false,o) :: r) a w:=h
theorem call (hw:Region.wanted o (yielded ops a.tmps)=true) (h:∀ K:Act→World→Prop,(∀ a w,C w→wpSz P ops C Q E r a w→K a w)→o.wp P a w K Q):wpSz P ops C Q E ((true,o) :: r) a w:=by
 unfold wpSz;rw [if_pos hw];exact h _ fun a w c k=>⟨c,k⟩
end
end Go.Proofs.YtljnkaodhfnbbaaGreatDoor.Sz
namespace Go.Proofs.YtljnkaodhfnbbaaGreatDoor.Fs
open Go.RowKit Go.Maps
open Fl (R4 z4 K4 rec4 rat goodF goodFB okR okL file arr4 row_cell row_frozen)
open Rw (Rd Ow At)
attribute [local irreducible] Sd.wpSd wpQuiet Sf.wpSf Sz.wpSz
structure AC (r:Nat) (v:Value) (d:Int) (g:Nat) (p:Int) (u:Value) (W:World):Prop where
 row:W.heap[r]? = some (.cells #[v,.int .i64 d] 50 (0,0))
 box:W.heap[g]? = some (.cells #[.int .i64 p,u] 70 (0,0))
end Go.Proofs.YtljnkaodhfnbbaaGreatDoor.Fs
namespace Go.Proofs.YtljnkaodhfnbbaaGreatDoor.Fs
open Go.RowKit Go.Maps
open Fl (R4 z4 K4 rec4 rat file rsame_any sameF ret_bool)
open Rw (Rd Ow At)
attribute [local irreducible] wpQuiet
instance decR4:DecidableEq R4:=@instDecidableEqProd _ _ _ (@instDecidableEqProd _ _ _ (@instDecidableEqProd _ _ _ _))
instance decFil:DecidableEq Fil:=@instDecidableEqProd _ _ _ (@instDecidableEqProd _ _ _ (@instDecidableEqList _ decR4))
instance decAbs (A B:Abs):Decidable (A=B):=@instDecidableEqList _ decFil A B
set_option maxHeartbeats 2000000 in
theorem same_any {w:World} {F F':Nat→Prop} {v v':Value} {L L':List Ent} (h:Lst F w v L) (h':Lst F' w v' L') (hlen:L.length≤64) :
 Calls Tryz.prog 20 #[v,v'] w fun e w'=>e = .returned (.bool (decide (L.map Ent.abs=L'.map Ent.abs)))∧Below w.heap.size w w':=by
 obtain ⟨a,cap,rfl,_,_,h3⟩:=h.rd;obtain ⟨a',cap',rfl,_,_,h3'⟩:=h'.rd;have H3:=Lib.hid h3;have H3':=Lib.hid h3';have FL:=Lib.hid h.file;have FL':=Lib.hid h'.file;clear h h' h3 h3'
 by_cases hl:L.length=L'.length
 ·have HL:=Lib.hid hl
  rw [← hl];rw [← hl] at H3';clear hl;generalize hn:L.length=N at *;have HN:=Lib.hid hn;clear hn
  go_enter Tryz.func20,Tryz.ntmps20
  go_wp2
  go_loopw [5] (fun i wr=>∃ k:Nat,k≤N∧i = .int .i64 k∧Hid ((L.take k).map Ent.abs=(L'.take k).map Ent.abs)∧Hid (Below w.heap.size w wr)) (fun i _=>N - (intOf i).toNat)
  case atStart=>exact ⟨0,Nat.zero_le _,rfl,rfl,Below.refl _ _⟩
  case round =>
   obtain ⟨k,hk,rfl,E,B⟩:=hrel
   by_cases hlt:k < N
   ·have hkL:k < L.length:=by have:=HN.out;omega
    have hkL':k < L'.length:=by have:=HL.out;have:=HN.out;omega
    obtain ⟨⟨cn,cp,ca,cc,cl⟩,hc⟩:∃ c:Ent,L[k]? = some c:=⟨_,List.getElem?_eq_getElem hkL⟩;obtain ⟨⟨dn,dp,da,dc,dl⟩,hd⟩:∃ c:Ent,L'[k]? = some c:=⟨_,List.getElem?_eq_getElem hkL'⟩;obtain ⟨b,off,rfl,hA⟩:=H3.out (by omega);obtain ⟨b',off',rfl,hA'⟩:=H3'.out (by omega);obtain ⟨x0,x1,x2⟩:=at3 (hA.below B.out) hc;obtain ⟨y0,y1,y2⟩:=at3 (hA'.below B.out) hd;unfold Ent.sl at x2 y2;simp only at x0 x1 x2 y0 y1 y2;have RC:Hid (Rd K4 w (.slice ca cl.length cc) cl):=FL.out _ (List.mem_of_getElem? hc);have RD:Hid (Rd K4 w (.slice da dl.length dc) dl):=FL'.out _ (List.mem_of_getElem? hd);have NO:Hid (¬ (cn=dn∧cp=dp∧cl=dl)→¬ (L.map Ent.abs=L'.map Ent.abs)):=fun hne e=>by
     have e1:=congrArg (fun l:List Fil=>l[k]?) e;simp only [List.getElem?_map,hc,hd,Option.map_some,Ent.abs] at e1;injection e1 with e1;injection e1 with e1 e2;injection e2 with e2 e3;exact hne ⟨e1,e2,e3⟩
    have YES:Hid (cn=dn→cp=dp→cl=dl→(L.take (k+1)).map Ent.abs=(L'.take (k+1)).map Ent.abs):=fun e1 e2 e3=>by
     rw [List.take_add_one,List.take_add_one,hc,hd,List.map_append,List.map_append,E.out]
     simp [Ent.abs,e1,e2,e3]
    have SA:=Lib.hid (fun W (hb:Below w.heap.size w W)=>rsame_any W cp dp (.slice ca cl.length cc) (.slice da dl.length dc) cl dl (RC.out.below hb) (RD.out.below hb));clear hc hd hA hA' hkL hkL'
    by_cases he:cn=dn
    ·subst he
     cases hs:sameF cp cl dp dl with
     | false =>
       rw [hs] at SA;have RES:Hid (decide (L.map Ent.abs=L'.map Ent.abs)=false):=decide_eq_false (NO.out fun ⟨_,e2,e3⟩=>by unfold sameF at hs;rw [decide_eq_true ⟨e2,e3⟩] at hs;cases hs);clear NO YES RC RD hs;generalize cl.length=q at *;generalize dl.length=q' at *;unfold file at SA;go_wp2_with fail;have s0:=Qb.cell_by x0;have s1:=Qb.cell_by x1;have s2:=Qb.cell_by x2;have t0:=Qb.cell_by y0;have t1:=Qb.cell_by y1;have t2:=Qb.cell_by y2;clear x0 x1 x2 y0 y1 y2;have SB:=Lib.hid (fun (P:Qb.By wr)=>SA.out P.world (B.out.trans (P.below.mono B.out.size)));refine Qb.wp_region_by (by kernel_rfl) (by kernel_rfl) ?_
       repeat (quiet_step ((go_at_call 57;exact Qb.of_below (SB.out _))))
       refine wpQuiet_nil ?_
       intro _ hw'
       obtain ⟨pp,rfl⟩:=hw';go_wp2
       go_ret
       exact ⟨ret_bool RES.out.symm,B.out.trans (pp.below.mono B.out.size)⟩
     | true =>
       rw [hs] at SA;have ST:Hid ((L.take (k+1)).map Ent.abs=(L'.take (k+1)).map Ent.abs):=by
        have:=of_decide_eq_true hs;exact YES.out rfl this.1 this.2
       clear NO YES RC RD hs;generalize cl.length=q at *;generalize dl.length=q' at *;unfold file at SA;go_wp2_with fail;have s0:=Qb.cell_by x0;have s1:=Qb.cell_by x1;have s2:=Qb.cell_by x2;have t0:=Qb.cell_by y0;have t1:=Qb.cell_by y1;have t2:=Qb.cell_by y2;clear x0 x1 x2 y0 y1 y2;have SB:=Lib.hid (fun (P:Qb.By wr)=>SA.out P.world (B.out.trans (P.below.mono B.out.size)));refine Qb.wp_region_by (by kernel_rfl) (by kernel_rfl) ?_
       repeat (quiet_step ((go_at_call 57;exact Qb.of_below (SB.out _))))
       refine wpQuiet_nil ?_
       intro _ hw'
       obtain ⟨pp,rfl⟩:=hw';clear s0 s1 s2 t0 t1 t2 SB SA;have BP:=Lib.hid (B.out.trans (pp.below.mono B.out.size));generalize pp.world=wp at *;go_wp2
       go_roundw
       case rel=>exact ⟨k+1,by omega,by go_num,ST,BP⟩
       case measure=>simp [intOf];omega
    ·have RES:Hid (decide (L.map Ent.abs=L'.map Ent.abs)=false):=decide_eq_false (NO.out fun h=>he h.1)
     clear NO YES RC RD SA;generalize cl.length=q at *;generalize dl.length=q' at *;go_wp2_with fail;have s0:=Qb.cell_by x0;have s1:=Qb.cell_by x1;have s2:=Qb.cell_by x2;have t0:=Qb.cell_by y0;have t1:=Qb.cell_by y1;have t2:=Qb.cell_by y2;clear x0 x1 x2 y0 y1 y2;refine Qb.wp_region_by (by kernel_rfl) (by kernel_rfl) ?_
     repeat (quiet_step (fail))
     refine wpQuiet_nil ?_
     intro _ hw'
     obtain ⟨pp,rfl⟩:=hw';go_wp2
     go_ret
     exact ⟨ret_bool RES.out.symm,B.out.trans (pp.below.mono B.out.size)⟩
   ·obtain rfl:k=N:=by omega
    have RES:Hid (decide (L.map Ent.abs=L'.map Ent.abs)=true):=by
     have e:=E.out;rw [List.take_of_length_le (by have:=HN.out;omega),List.take_of_length_le (by have:=HN.out;have:=HL.out;omega)] at e;exact decide_eq_true e
    go_wp2
    go_ret
    exact ⟨ret_bool RES.out.symm,B.out⟩
 ·have RES:Hid (decide (L.map Ent.abs=L'.map Ent.abs)=false):=decide_eq_false fun e=>hl (by have:=congrArg List.length e;rwa [List.length_map,List.length_map] at this)
  have h3:¬ ((L.length:Int)=L'.length):=by omega
  clear hl H3 H3' FL FL';generalize L.length=N at *;generalize L'.length=N' at *
  go_enter Tryz.func20,Tryz.ntmps20
  go_wp2
  go_ret
  exact ⟨ret_bool RES.out.symm,Below.refl _ _⟩
theorem same_is {w:World} {F F':Nat→Prop} {v v':Value} {A:Abs} (h:Ls F w v A) (h':Ls F' w v' A) (hlen:A.length≤64) :
 Calls Tryz.prog 20 #[v,v'] w fun e w'=>e = .returned (.bool true)∧Below w.heap.size w w':=by
 obtain ⟨L,hL,rfl⟩:=h;obtain ⟨L',hL',e⟩:=h';have:=same_any hL hL' (by rwa [List.length_map] at hlen)
 rwa [decide_eq_true e.symm] at this
end Go.Proofs.YtljnkaodhfnbbaaGreatDoor.Fs
namespace Go.Proofs.YtljnkaodhfnbbaaGreatDoor.Ua
open Go.RowKit
def arr (F:Nat→Bool):Array Value:=#[.bool (F 0),.bool (F 1),.bool (F 2),.bool (F 3),.bool (F 4),.bool (F 5),.bool (F 6),.bool (F 7),.bool (F 8),.bool (F 9),.bool (F 10)]
theorem arr_size (F:Nat→Bool):(arr F).size=11:=rfl
theorem arr_one (F:Nat→Bool):(arr F).all (·.oneCell')=true:=by simp [arr,Value.oneCell']
theorem arr_get (F:Nat→Bool) (k:Nat) (h:k < 11):(arr F)[k]? = some (.bool (F k)):=by
 rcases (by omega:k=0∨k=1∨k=2∨k=3∨k=4∨k=5∨k=6∨k=7∨k=8∨k=9∨k=10) with rfl | rfl | rfl | rfl | rfl | rfl | rfl | rfl | rfl | rfl | rfl <;> rfl
theorem arr_set (F:Nat→Bool) (k:Nat) (h:k < 11) (x:Bool):(arr F).setIfInBounds k (.bool x)=arr (upd F k x):=by
 rcases (by omega:k=0∨k=1∨k=2∨k=3∨k=4∨k=5∨k=6∨k=7∨k=8∨k=9∨k=10) with rfl | rfl | rfl | rfl | rfl | rfl | rfl | rfl | rfl | rfl | rfl <;> rfl
theorem arr_congr {F G:Nat→Bool} (h:∀ i,i < 11→F i=G i):arr F=arr G:=by
 unfold arr;rw [h 0 (by omega),h 1 (by omega),h 2 (by omega),h 3 (by omega),h 4 (by omega),h 5 (by omega),h 6 (by omega),h 7 (by omega),h 8 (by omega),h 9 (by omega),h 10 (by omega)]
def Row (w:World) (g:Nat) (F:Nat→Bool):Prop:=w.heap[g]? = some (.cells (arr F) 113 (0,0))
section
variable {w w':World} {g:Nat} {F:Nat→Bool}
theorem Row.lt (h:Row w g F):g < w.heap.size:=lt_of_block h
theorem Row.cell (h:Row w g F) (k:Nat) (hk:k < 11):w.cell? ⟨g,k,none⟩=some (.bool (F k)):=by rw [cell_of_row w g k _ _ (0,0) h,arr_get F k hk]
theorem Row.frozen (h:Row w g F) (k:Nat):w.frozen? ⟨g,k,none⟩=false:=frozen_of_row w g k _ _ h
theorem Row.new (w:World) (F:Nat→Bool):Row (w.alloc (.cells (arr F) 113)) w.heap.size F:=heap_alloc_new w _
theorem Row.draw (h:Row w g F) (n:Nat):Row (w.drewN n) g F:=h
theorem Row.alloc (h:Row w g F) (o:Obj):Row (w.alloc o) g F:=(Below.heap_alloc w o g h.lt).trans h
theorem Row.set_ (h:Row w g F) (k:Nat) (hk:k < 11) (x:Bool):Row (w.setCell ⟨g,k,none⟩ (.bool x)) g (upd F k x):=by
 unfold Row at h ⊢;rw [heap_setCell_same w g k _ _ _ h,arr_set F k hk x]
theorem Row.far (h:Row w g F) {p:Addr} (hp:g≠p.block) (u:Value):Row (w.setCell p u) g F:=(Below.heap_setCell w p u g hp).trans h
theorem Row.row (h:Row w g F) (G:Nat→Bool):Row (w.setRow g (arr G)) g G:=setRow_heap w g _ _ _ _ h
theorem Row.below {B:Nat} (h:Row w g F) (hb:Below B w w') (hg:g < B):Row w' g F:=(hb.block g hg).trans h
theorem Row.to {G:Nat→Bool} (h:Row w g F) (e:∀ i,i < 11→F i=G i):Row w g G:=by unfold Row at *;rw [h,arr_congr e]
theorem Row.load (h:Row w g F):(loadVar 113 ⟨g,0,none⟩).run Tryz.prog w = .ok (.agg (arr F)) w :=
 run_loadVar_row w g _ _ (arr F) (0,0) _ h Tryz.underlying113 rfl (by rw [arr_size];kernel_rfl)
end
theorem info:(Tryz.prog.info? 113).map (·.size)=some 11:=by kernel_rfl
theorem info_of (F:Nat→Bool):(Tryz.prog.info? 113).map (·.size)=some (arr F).size:=by rw [arr_size];exact info
theorem load_frame {ops:Array Oper} {rest:List Oper} {o:Oper} {a:Act} {w:World} {Q:Exit→Act→World→Prop} (hgd:o.guard=none) (x:Operand) (ho:o.op = .load 113 x)
 (g:Nat) (F:Nat→Bool) (hx:a.eval x = .pointer (some ⟨g,0,none⟩)) (hrow:Row w g F) (h:wpList Tryz.prog ops Q rest (a.put o.dst (.agg (arr F))) w):wpList Tryz.prog ops Q (o :: rest) a w :=
 wpList_load_row hgd _ x ho g hx _ _ _ _ hrow Tryz.underlying113 rfl (info_of _) h
theorem store_frame {ops:Array Oper} {rest:List Oper} {o:Oper} {a:Act} {w:World} {Q:Exit→Act→World→Prop} (hgd:o.guard=none) (x y:Operand) (ho:o.op = .store 113 x y)
 (g:Nat) (F G:Nat→Bool) (hx:a.eval x = .pointer (some ⟨g,0,none⟩)) (hy:a.eval y = .agg (arr F)) (hrow:Row w g G) (h:wpList Tryz.prog ops Q rest (a.put o.dst undef) (w.setRow g (arr F))):wpList Tryz.prog ops Q (o :: rest) a w :=
 wpList_store_row hgd _ x y ho g _ hx hy _ _ hrow (info_of _) rfl (arr_one _) h
theorem store_new {ops:Array Oper} {rest:List Oper} {o:Oper} {a:Act} {w:World} {Q:Exit→Act→World→Prop} (hgd:o.guard=none) (x y:Operand) (ho:o.op = .store 113 x y)
 (F:Nat→Bool) (hx:a.eval x = .pointer (some ⟨w.heap.size,0,none⟩)) (hy:a.eval y = .agg (arr F)) (h:wpList Tryz.prog ops Q rest (a.put o.dst undef) (w.alloc (.cells (arr F) 113))) :
 wpList Tryz.prog ops Q (o :: rest) a (w.alloc (.cells #[.bool false,.bool false,.bool false,.bool false,.bool false,.bool false,.bool false,.bool false,.bool false,.bool false,.bool false] 113)) :=
 store_frame hgd x y ho _ F (fun _=>false) hx hy (Row.new w (fun _=>false)) (by rw [World.setRow_alloc_new];exact h)
theorem copy_frame {ops:Array Oper} {rest:List Oper} {o o':Oper} {a:Act} {w:World} {Q:Exit→Act→World→Prop} (hg:o.guard=none) (hg':o'.guard=none) (x y:Operand) (d:Tmp) (ho:o.op = .load 113 x) (hd:o.dst=some d) (ho':o'.op = .store 113 y (.tmp d))
 (g g':Nat) (F G:Nat→Bool) (hx:a.eval x = .pointer (some ⟨g,0,none⟩)) (hy:(a.put (some d) (.agg (arr F))).eval y = .pointer (some ⟨g',0,none⟩)) (hz:(a.put (some d) (.agg (arr F))).eval (.tmp d) = .agg (arr F)) (hrow:Row w g F) (hrow':Row w g' G)
 (h:wpList Tryz.prog ops Q rest ((a.put (some d) (.agg (arr F))).put o'.dst undef) (w.setRow g' (arr F))):wpList Tryz.prog ops Q (o :: o' :: rest) a w :=
 load_frame hg x ho g F hx hrow (by rw [hd];exact store_frame hg' y (.tmp d) ho' g' F G hy hz hrow' h)
theorem results_frame {fn:Func} {p:Tmp} (h:fn.results=#[.cell p 113]) (tmps:Array Value) (w:World) (g:Nat) (F:Nat→Bool) (hp:tmps.getD p undef = .pointer (some ⟨g,0,none⟩)) (hrow:Row w g F) :
 (results fn tmps).run Tryz.prog w = .ok (.agg (arr F)) w:=results_cell_row h tmps w g _ _ _ _ hp hrow Tryz.underlying113 rfl (info_of _)
theorem below_setRow {B:Nat} {a w:World} (h:Below B a w) (g:Nat) (cs:Array Value) (hg:B≤g):Below B a (w.setRow g cs) :=
 ⟨h.os,h.tape,h.output,by rw [size_setRow];exact h.size,fun k hk=>(setRow_other w g k cs (by omega)).trans (h.block k hk)⟩
theorem ret_bool {a b:Bool} (h:a=b):Ending.returned (.bool a) = .returned (.bool b):=by rw [h]
theorem ret_int {k:IntKind} {a b:Int} (h:a=b):Ending.returned (.int k a) = .returned (.int k b):=by rw [h]
theorem ret_arr {F G:Nat→Bool} (h:∀ i,i < 11→F i=G i):Ending.returned (.agg (arr F)) = .returned (.agg (arr G)):=by rw [arr_congr h]
end Go.Proofs.YtljnkaodhfnbbaaGreatDoor.Ua
namespace Go.Proofs.YtljnkaodhfnbbaaGreatDoor.Ck
open Go.RowKit
open Ro (E5 z5 eat ent K5 at5)
open Rw (Rd Ow At)
abbrev Hd:=Option Addr×Nat×Nat
def zh:Hd:=(none,0,0)
def sl (h:Hd):Value:=.slice h.1 h.2.1 h.2.2
def KS:Rw.Kind Hd:=⟨fun h=>[sl h],1,by decide,fun _=>rfl,fun _ u h=>by simp at h;subst h;rfl,zh⟩
def RdL (w:World) (v:Value) (L:LL):Prop:=∃ a cap,v = .slice a L.length cap∧(L.length≤cap∧(a=none→cap=0))∧cap≤maxLen ∧
 (0 < L.length→∃ b off,a=some ⟨b,off,none⟩∧∀ i,i < L.length→∃ u,w.cell? ⟨b,off+i,none⟩=some u∧Rd K5 w u (lat L i))
section
variable {w w':World} {v:Value} {L:LL}
theorem RdL.below (h:RdL w v L) (hb:Below w.heap.size w w'):RdL w' v L:=by
 obtain ⟨a,cap,e,h1,h2,h3⟩:=h;refine ⟨a,cap,e,h1,h2,fun hp=>?_⟩;obtain ⟨b,off,ea,hA⟩:=h3 hp;refine ⟨b,off,ea,fun i hi=>?_⟩;obtain ⟨u,c,r⟩:=hA i hi;exact ⟨u,(hb.cell (World.block_lt_of_cell? _ _ c)).trans c,r.below hb⟩
theorem RdL.slice (h:RdL w v L):∃ a cap,v = .slice a L.length cap∧cap≤maxLen:=by
 obtain ⟨a,cap,e,_,h2,_⟩:=h;exact ⟨a,cap,e,h2⟩
theorem RdL.one (h:RdL w v L) {k:Nat} (hk:k < L.length):∃ b off cap a' cap',v = .slice (some ⟨b,off,none⟩) L.length cap∧w.cell? ⟨b,off+k,none⟩=some (.slice a' (lat L k).length cap')∧cap'≤maxLen ∧
 (0 < (lat L k).length→∃ b' off',a'=some ⟨b',off',none⟩∧At K5 w b' off' (lat L k)):=by
 obtain ⟨a,cap,e,h1,h2,h3⟩:=h;obtain ⟨b,off,rfl,hA⟩:=h3 (by omega);obtain ⟨u,c,a',cap',rfl,g1,g2,g3⟩:=hA k hk;exact ⟨b,off,cap,a',cap',e,c,g2,g3⟩
theorem RdL.rd (h:RdL w v L) {k:Nat} (hk:k < L.length) {b off cap:Nat} (e:v = .slice (some ⟨b,off,none⟩) L.length cap) {u:Value} (c:w.cell? ⟨b,off+k,none⟩=some u):Rd K5 w u (lat L k):=by
 obtain ⟨a,cap',e',h1,h2,h3⟩:=h;obtain ⟨b',off',rfl,hA⟩:=h3 (by omega);rw [e] at e';injection e' with e1 _ _;injection e1 with e1;injection e1 with e1 e2 _;subst e1 e2;obtain ⟨u',c',r⟩:=hA k hk;rw [c] at c';injection c' with c';subst c';exact r
theorem RdL.take {a:Option Addr} {n cap:Nat} (h:RdL w (.slice a n cap) L) {k:Nat} (hk:k≤L.length):RdL w (.slice a k cap) (L.take k):=by
 obtain ⟨a',cap',e,h1,h2,h3⟩:=h;injection e with e1 e2 e3;subst e1 e2 e3;have hl:(L.take k).length=k:=by rw [List.length_take];omega
 refine ⟨a,cap,by rw [hl],⟨by omega,h1.2⟩,h2,fun hp=>?_⟩;rw [hl] at hp;obtain ⟨b,off,rfl,hA⟩:=h3 (by omega);refine ⟨b,off,rfl,fun i hi=>?_⟩;rw [hl] at hi;rw [lat_take hi];exact hA i (by omega)
theorem rdl_of {hs:List Hd} (h:Rd KS w v hs) (hl:hs.length=L.length) (each:∀ i,i < L.length→Rd K5 w (sl (hs.getD i zh)) (lat L i)):RdL w v L:=by
 obtain ⟨a,cap,e,h1,h2,h3⟩:=h;rw [hl] at e h1 h3;refine ⟨a,cap,e,h1,h2,fun hp=>?_⟩;obtain ⟨b,off,ea,hA⟩:=h3 hp;refine ⟨b,off,ea,fun i hi=>⟨_,?_,each i hi⟩⟩;have c:=hA i (by rw [hl];exact hi) 0 _ rfl;simp only [KS,Nat.mul_one,Nat.add_zero] at c;exact c
end
def ar (F:Nat→Int):Array Value:=#[.int .i64 (F 0),.int .i64 (F 1),.int .i64 (F 2),.int .i64 (F 3),.int .i64 (F 4),.int .i64 (F 5),.int .i64 (F 6),.int .i64 (F 7),.int .i64 (F 8),.int .i64 (F 9),.int .i64 (F 10),.int .i64 (F 11),.int .i64 (F 12),.int .i64 (F 13),.int .i64 (F 14),.int .i64 (F 15),.int .i64 (F 16)]
def upI (F:Nat→Int) (k:Nat) (x:Int) (i:Nat):Int:=if i=k then x else F i
theorem ar_size (F:Nat→Int):(ar F).size=17:=rfl
theorem ar_one (F:Nat→Int):(ar F).all (·.oneCell')=true:=by simp [ar,Value.oneCell']
theorem lt17 {k:Nat} (h:k < 17):k=0∨k=1∨k=2∨k=3∨k=4∨k=5∨k=6∨k=7∨k=8∨k=9∨k=10∨k=11∨k=12∨k=13∨k=14∨k=15∨k=16:=by omega
theorem ar_get (F:Nat→Int) (k:Nat) (h:k < 17):(ar F)[k]? = some (.int .i64 (F k)):=by
 rcases lt17 h with rfl | rfl | rfl | rfl | rfl | rfl | rfl | rfl | rfl | rfl | rfl | rfl | rfl | rfl | rfl | rfl | rfl <;> rfl
theorem ar_set (F:Nat→Int) (k:Nat) (h:k < 17) (x:Int):(ar F).setIfInBounds k (.int .i64 x)=ar (upI F k x):=by
 rcases lt17 h with rfl | rfl | rfl | rfl | rfl | rfl | rfl | rfl | rfl | rfl | rfl | rfl | rfl | rfl | rfl | rfl | rfl <;> rfl
theorem ar_congr {F G:Nat→Int} (h:∀ i,i < 17→F i=G i):ar F=ar G:=by
 unfold ar;rw [h 0 (by omega),h 1 (by omega),h 2 (by omega),h 3 (by omega),h 4 (by omega),h 5 (by omega),h 6 (by omega),h 7 (by omega),h 8 (by omega),h 9 (by omega),h 10 (by omega),h 11 (by omega),h 12 (by omega),h 13 (by omega),h 14 (by omega),h 15 (by omega),h 16 (by omega)]
def RowI (w:World) (g:Nat) (F:Nat→Int):Prop:=w.heap[g]? = some (.cells (ar F) 348 (0,0))
section
variable {w w':World} {g:Nat} {F:Nat→Int}
theorem RowI.lt (h:RowI w g F):g < w.heap.size:=lt_of_block h
theorem RowI.cell (h:RowI w g F) (k:Nat) (hk:k < 17):w.cell? ⟨g,k,none⟩=some (.int .i64 (F k)):=by rw [cell_of_row w g k _ _ (0,0) h,ar_get F k hk]
theorem RowI.frozen (h:RowI w g F) (k:Nat):w.frozen? ⟨g,k,none⟩=false:=frozen_of_row w g k _ _ h
theorem RowI.new (w:World) (F:Nat→Int):RowI (w.alloc (.cells (ar F) 348)) w.heap.size F:=heap_alloc_new w _
theorem RowI.set_ (h:RowI w g F) (k:Nat) (hk:k < 17) (x:Int):RowI (w.setCell ⟨g,k,none⟩ (.int .i64 x)) g (upI F k x):=by
 unfold RowI at h ⊢;rw [heap_setCell_same w g k _ _ _ h,ar_set F k hk x]
theorem RowI.far (h:RowI w g F) {p:Addr} (hp:g≠p.block) (u:Value):RowI (w.setCell p u) g F:=(Below.heap_setCell w p u g hp).trans h
theorem RowI.row (h:RowI w g F) (G:Nat→Int):RowI (w.setRow g (ar G)) g G:=setRow_heap w g _ _ _ _ h
theorem RowI.below {B:Nat} (h:RowI w g F) (hb:Below B w w') (hg:g < B):RowI w' g F:=(hb.block g hg).trans h
theorem RowI.to {G:Nat→Int} (h:RowI w g F) (e:∀ i,i < 17→F i=G i):RowI w g G:=by unfold RowI at *;rw [h,ar_congr e]
end
theorem infoI (F:Nat→Int):(Tryz.prog.info? 348).map (·.size)=some (ar F).size:=by rw [ar_size];kernel_rfl
theorem load_ar {ops:Array Oper} {rest:List Oper} {o:Oper} {a:Act} {w:World} {Q:Exit→Act→World→Prop} (hgd:o.guard=none) (x:Operand) (ho:o.op = .load 348 x)
 (g:Nat) (F:Nat→Int) (hx:a.eval x = .pointer (some ⟨g,0,none⟩)) (hrow:RowI w g F) (h:wpList Tryz.prog ops Q rest (a.put o.dst (.agg (ar F))) w):wpList Tryz.prog ops Q (o :: rest) a w :=
 wpList_load_row hgd _ x ho g hx _ _ _ _ hrow Tryz.underlying348 rfl (infoI _) h
theorem store_ar {ops:Array Oper} {rest:List Oper} {o:Oper} {a:Act} {w:World} {Q:Exit→Act→World→Prop} (hgd:o.guard=none) (x y:Operand) (ho:o.op = .store 348 x y)
 (g:Nat) (F G:Nat→Int) (hx:a.eval x = .pointer (some ⟨g,0,none⟩)) (hy:a.eval y = .agg (ar F)) (hrow:RowI w g G) (h:wpList Tryz.prog ops Q rest (a.put o.dst undef) (w.setRow g (ar F))):wpList Tryz.prog ops Q (o :: rest) a w :=
 wpList_store_row hgd _ x y ho g _ hx hy _ _ hrow (infoI _) rfl (ar_one _) h
theorem store_ar_new {ops:Array Oper} {rest:List Oper} {o:Oper} {a:Act} {w:World} {Q:Exit→Act→World→Prop} (hgd:o.guard=none) (x y:Operand) (ho:o.op = .store 348 x y)
 (F:Nat→Int) (hx:a.eval x = .pointer (some ⟨w.heap.size,0,none⟩)) (hy:a.eval y = .agg (ar F)) (h:wpList Tryz.prog ops Q rest (a.put o.dst undef) (w.alloc (.cells (ar F) 348))) :
 wpList Tryz.prog ops Q (o :: rest) a (w.alloc (.cells #[.int .i64 0,.int .i64 0,.int .i64 0,.int .i64 0,.int .i64 0,.int .i64 0,.int .i64 0,.int .i64 0,.int .i64 0,.int .i64 0,.int .i64 0,.int .i64 0,.int .i64 0,.int .i64 0,.int .i64 0,.int .i64 0,.int .i64 0] 348)) :=
 store_ar hgd x y ho _ F (fun _=>0) hx hy (RowI.new w (fun _=>0)) (by rw [World.setRow_alloc_new];exact h)
theorem results_ar {fn:Func} {p:Tmp} (h:fn.results=#[.cell p 348]) (tmps:Array Value) (w:World) (g:Nat) (F:Nat→Int) (hp:tmps.getD p undef = .pointer (some ⟨g,0,none⟩)) (hrow:RowI w g F) :
 (results fn tmps).run Tryz.prog w = .ok (.agg (ar F)) w:=results_cell_row h tmps w g _ _ _ _ hp hrow Tryz.underlying348 rfl (infoI _)
def row5 (x:E5):Array Value:=#[.int .i64 x.1,.int .i64 x.2.1,.int .i64 x.2.2.1,.int .i64 x.2.2.2.1,.int .i64 x.2.2.2.2]
def RowE (w:World) (g:Nat) (x:E5):Prop:=w.heap[g]? = some (.cells (row5 x) 87 (0,0))
theorem RowE.lt {w:World} {g:Nat} {x:E5} (h:RowE w g x):g < w.heap.size:=lt_of_block h
theorem RowE.below {B:Nat} {w w':World} {g:Nat} {x:E5} (h:RowE w g x) (hb:Below B w w') (hg:g < B):RowE w' g x:=(hb.block g hg).trans h
theorem results_who {fn:Func} {p r:Tmp} (h:fn.results=#[.tmp r,.cell p 87]) (tmps:Array Value) (w:World) (g1:Nat) (n:Int) (x:E5)
 (hp:tmps.getD p undef = .pointer (some ⟨g1,0,none⟩)) (hr:tmps.getD r undef = .int .i64 n) (h1:RowE w g1 x) :
 (results fn tmps).run Tryz.prog w = .ok (.tuple #[.int .i64 n,ent x]) w:=by
 have e1:=run_loadVar_row (P:=Tryz.prog) w g1 87 87 (row5 x) (0,0) _ h1 Tryz.underlying87 rfl (by show _=some 5;kernel_rfl);have hp':tmps[p]?.getD undef = .pointer (some ⟨g1,0,none⟩):=by simpa using hp
 have hr':tmps[r]?.getD undef = .int .i64 n:=by simpa using hr
 simp only [results,h]
 simp [Result.andThen,hp',hr',asAddr,e1,ent,row5]
end Go.Proofs.YtljnkaodhfnbbaaGreatDoor.Ck
namespace Go.Proofs.YtljnkaodhfnbbaaGreatDoor.Pa
open Go.RowKit Go.Maps
open Fl (R4 z4 K4 rec4 rat okR okL arr4 row_cell row_frozen)
open Fs (Abs St Rs Only Fx gB gV sB sA dA dE dD Wf OkA law keyI Rh)
open Rw (Rd Ow At)
open Ro (E5 z5 okE eat K5 at5 ent may_each okE_bounds)
open Ck (LL lat sN sE tE bI RdL who_cases may_all)
def ptr (s:Nat):Value:=.pointer (some ⟨s,0,none⟩)
def KN:Rw.Kind Nat:=⟨fun s=>[ptr s],1,by decide,fun _=>rfl,fun _ u h=>by simp at h;subst h;rfl,0⟩
def pv (p:Option Nat):Value:=.pointer (p.map fun s=>⟨s,0,none⟩)
def KP:Rw.Kind (Option Nat):=⟨fun p=>[pv p],1,by decide,fun _=>rfl,fun p u h=>by simp at h;subst h;cases p <;> rfl,none⟩
def KB:Rw.Kind Bool:=⟨fun b=>[.bool b],1,by decide,fun _=>rfl,fun _ u h=>by simp at h;subst h;rfl,false⟩
def K2:Rw.Kind S2:=⟨fun x=>[.int .i64 x.1,.int .i64 x.2],2,by decide,fun _=>rfl,fun _ u h=>by simp at h;rcases h with rfl | rfl <;> rfl,z2⟩
section
variable {w:World} {b off:Nat}
theorem atN {l:List Nat} (h:At KN w b off l) {i:Nat} (hi:i < l.length):w.cell? ⟨b,off+i,none⟩=some (ptr (l.getD i 0)):=by
 have c:=h i hi 0 _ rfl
 simpa [KN] using c
theorem atP {l:List (Option Nat)} (h:At KP w b off l) {i:Nat} (hi:i < l.length):w.cell? ⟨b,off+i,none⟩=some (pv (l.getD i none)):=by
 have c:=h i hi 0 _ rfl
 simpa [KP] using c
theorem atB {l:List Bool} (h:At KB w b off l) {i:Nat} (hi:i < l.length):w.cell? ⟨b,off+i,none⟩=some (.bool (l.getD i false)):=by
 have c:=h i hi 0 _ rfl
 simpa [KB] using c
theorem at2 {l:List S2} (h:At K2 w b off l) {i:Nat} (hi:i < l.length):w.cell? ⟨b,off+i * 2,none⟩=some (.int .i64 (pat l i).1)∧w.cell? ⟨b,off+i * 2+1,none⟩=some (.int .i64 (pat l i).2) :=
 ⟨h i hi 0 _ rfl,h i hi 1 _ rfl⟩
theorem rd_some {v:Value} {l:List Nat} (h:Rd KN w v l):Rd KP w v (l.map some):=by
 obtain ⟨a,cap,e,h1,h2,h3⟩:=h;refine ⟨a,cap,by rw [List.length_map];exact e,by rw [List.length_map];exact h1,h2,fun h0=>?_⟩;rw [List.length_map] at h0;obtain ⟨b,off,ea,hA⟩:=h3 h0;refine ⟨b,off,ea,fun i hi j u hu=>?_⟩;rw [List.length_map] at hi;have:KP.enc ((l.map some).getD i KP.dft)=KN.enc (l.getD i KN.dft):=by
  rw [List.getD_eq_getElem?_getD,List.getElem?_map,List.getElem?_eq_getElem hi,List.getD_eq_getElem?_getD,List.getElem?_eq_getElem hi]
  rfl
 rw [this] at hu;exact hA i hi j u hu
end
def Has (w:World) (s:Nat) (x:Abs×Int):Prop:=∃ F,St w s F x.1 x.2
def Stl (w:World) (v:Value) (S:Sts):Prop:=∃ ps:List Nat,Rd KN w v ps∧ps.length=S.length∧∀ i,i < S.length→Has w (ps.getD i 0) (sat S i)
section
variable {w w':World} {s:Nat} {x:Abs×Int} {v:Value} {S:Sts}
theorem Has.below (h:Has w s x) (b:Below w.heap.size w w'):Has w' s x:=by obtain ⟨F,h⟩:=h;exact ⟨F,h.below b⟩
theorem Has.okA (h:Has w s x):OkA x.1:=by obtain ⟨F,h⟩:=h;exact h.okA
theorem Stl.below (h:Stl w v S) (b:Below w.heap.size w w'):Stl w' v S:=by obtain ⟨ps,h1,h2,h3⟩:=h;exact ⟨ps,h1.below b,h2,fun i hi=>(h3 i hi).below b⟩
theorem Stl.slice (h:Stl w v S):∃ a cap,v = .slice a S.length cap∧cap≤maxLen:=by obtain ⟨ps,h1,h2,_⟩:=h;rw [← h2];exact h1.slice
theorem Stl.one (h:Stl w v S) {k:Nat} (hk:k < S.length):∃ b off cap s,v = .slice (some ⟨b,off,none⟩) S.length cap∧w.cell? ⟨b,off+k,none⟩=some (ptr s)∧Has w s (sat S k):=by
 obtain ⟨ps,h1,h2,h3⟩:=h;obtain ⟨a,cap,e,_,_,g⟩:=h1;obtain ⟨b,off,rfl,hA⟩:=g (by omega);exact ⟨b,off,cap,_,by rw [← h2];exact e,atN hA (by omega),h3 k hk⟩
end
structure Ns (w:World) (vs vt vl:Value) (S:Sts) (T:LL) (V:List Bool):Prop where
 st:Stl w vs S
 tb:RdL w vt T
 lv:Rd KB w vl V
 lt:T.length=S.length
 ll:V.length=S.length
 ok:tE T=0
section
variable {w w':World} {vs vt vl:Value} {S:Sts} {T:LL} {V:List Bool}
theorem Ns.below (h:Ns w vs vt vl S T V) (b:Below w.heap.size w w'):Ns w' vs vt vl S T V:=⟨h.st.below b,h.tb.below b,h.lv.below b,h.lt,h.ll,h.ok⟩
theorem wf_of {n:Int} (h:0≤n∧n≤1000):Wf n:=by
 have e1:IntKind.i64.min = -9223372036854775808:=rfl;have e2:IntKind.i64.max=9223372036854775807:=rfl
 show (decide (IntKind.i64.min≤n) && decide (n≤IntKind.i64.max))=true
 rw [e1,e2,Bool.and_eq_true,decide_eq_true_eq,decide_eq_true_eq]
 omega
theorem not_bad (h:tE T=0):¬ 0≤bI T:=fun g=>by
 have:=(Ck.t_form g).2
 omega
theorem tab_each (h:tE T=0) {k:Nat} (hk:k < T.length):∀ x∈lat T k,okE x∧x.1≠4:=may_each (may_all (not_bad h) k hk)
end
end Go.Proofs.YtljnkaodhfnbbaaGreatDoor.Pa
namespace Go.Proofs.YtljnkaodhfnbbaaGreatDoor.Pa
open Go.RowKit Go.Maps
open Fs (Wf law keyI Rh)
open Rw (Rd Ow At)
open Ro (E5 z5 eat K5)
def bv (y:Int):Value:=.int .u8 y
structure HIs (D:DataW Value) (h:Hr):Prop where
 has:∀ n,Wf n→Maps.has D (.int .i64 n)=(h n).isSome
 val:∀ n y,Wf n→h n=some y→∀ z,D.atKey (.int .i64 n) z = .held (bv y)
def HBl (w:World) (b N:Nat) (h:Hr):Prop:=∃ D,w.ownsMap Tryz.prog 3 Rh b N D∧HIs D h
def HMap (w:World) (v:Value) (h:Hr):Prop:=∃ b N,v = .map (some b)∧HBl w b N h
theorem zeroB (w:World):(zeroValue 5).run Tryz.prog w = .ok (.int .u8 0) w:=by kernel_rfl
section
variable {w w':World} {v:Value} {h:Hr} {b N:Nat}
theorem HBl.lt (M:HBl w b N h):b < w.heap.size:=by obtain ⟨D,o,_⟩:=M;exact o.lt
theorem HBl.kept (M:HBl w b N h) (e:w'.heap[b]? = w.heap[b]?):HBl w' b N h:=by
 obtain ⟨D,⟨es,clock,hb,F,hs,hD⟩,I⟩:=M;exact ⟨D,⟨es,clock,e.trans hb,F,hs,hD⟩,I⟩
theorem HBl.below (M:HBl w b N h) (hb:Below w.heap.size w w'):HBl w' b N h:=M.kept (hb.block b M.lt)
theorem HMap.below (M:HMap w v h) (hb:Below w.heap.size w w'):HMap w' v h:=by
 obtain ⟨b,N,e,M⟩:=M;exact ⟨b,N,e,M.below hb⟩
theorem HMap.only {G:Nat→Prop} (M:HMap w v h) (ho:Fs.Only G w w') (hn:∀ b,v = .map (some b)→¬ G b):HMap w' v h:=by
 obtain ⟨b,N,e,M⟩:=M;exact ⟨b,N,e,M.kept (ho.block b M.lt (hn b e))⟩
theorem run_heard (M:HMap w v h) {n:Int} (hn:Wf n):(Instr.lookup 173 v (.int .i64 n) true).run Tryz.prog w = .ok (.tuple #[bv ((h n).getD 0),.bool (h n).isSome]) w:=by
 obtain ⟨b,N,rfl,D,o,I⟩:=M;obtain ⟨u,ps,hr,hu⟩:=o.look_ok law Tryz.underlying173 (zeroB w) (zd:=.held (bv 0)) (zp:=[]) rfl (keyI hn);rw [hr,I.has n hn];have:u=bv ((h n).getD 0):=by
  have e:DataW.held u=D.atKey (.int .i64 n) (.held (bv 0)):=by simp [Rh] at hu;exact hu.1
  rcases ey:h n with _ | y
  ·have:=I.has n hn
   rw [ey] at this;rw [atKey_of_not_has this] at e;injection e
  ·rw [I.val n y hn ey] at e
   injection e
 rw [this]
theorem at_heard {ops:Array Oper} {rest:List Oper} {o:Oper} {a:Act} {Q:Exit→Act→World→Prop} (hgd:Region.wanted o (yielded ops a.tmps)=true) (p x:Operand) (hop:o.op = .lookup 173 p x true) (hm:a.eval p=v) (M:HMap w v h) (n:Int) (hx:a.eval x = .int .i64 n) (hn:Wf n) (y:Int) (q:Bool) (hy:(h n).getD 0=y) (hq:(h n).isSome=q)
 (hK:wpList Tryz.prog ops Q rest (a.put o.dst (.tuple #[.int .u8 y,.bool q])) w):wpList Tryz.prog ops Q (o :: rest) a w:=by
 refine BigFrame.wpList_want hgd fun K' hK'=>?_;have hr:=run_heard M hn;rw [hy,hq] at hr;unfold Oper.wp
 simp [execOp,hop,hm,hx,hr,Result.andThen]
 exact hK' _ _ (by simpa [bv] using hK)
def hput (h:Hr) (n y:Int):Hr:=fun m=>if m=n then some y else h m
theorem HIs.put {D:DataW Value} (I:HIs D h) (hD:IsMap D) {n y:Int} (hn:Wf n):HIs (D.put (.int .i64 n) (.held (bv y))) (hput h n y) where
 has m hm:=by
  unfold hput
  by_cases e:m=n
  ·subst e
   rw [has_put_same hD (law.key (keyI hn)),if_pos rfl]
   rfl
  ·rw [has_put_other (fun e2=>e (by injection e2)),if_neg e]
   exact I.has m hm
 val m z hm hz u:=by
  unfold hput at hz
  by_cases e:m=n
  ·subst e
   rw [if_pos rfl] at hz;injection hz with hz;subst hz;exact atKey_put_same hD (law.key (keyI hn)) _ _
  ·rw [if_neg e] at hz
   rw [atKey_put_other (fun e2=>e (by injection e2))];exact I.val m z hm hz u
theorem run_hput (M:HBl w b N h) (hN:N < maxLen) {n y:Int} (hn:Wf n):∃ w',(Instr.mapUpdate 173 (.map (some b)) (.int .i64 n) (bv y)).run Tryz.prog w = .ok () w'∧HBl w' b (N+1) (hput h n y)∧w.grownBy w' (some b):=by
 obtain ⟨D,o,I⟩:=M;obtain ⟨w',hr,h',hg⟩:=o.update law Tryz.underlying173 hN (keyI hn) (val:=bv y) (d:=.held (bv y)) (ps:=[]) rfl;exact ⟨w',hr,⟨_,h',I.put o.isMap hn⟩,hg⟩
theorem at_hput {ops:Array Oper} {rest:List Oper} {o:Oper} {a:Act} {Q:Exit→Act→World→Prop} (hgd:Region.wanted o (yielded ops a.tmps)=true) (p x u:Operand) (hop:o.op = .mapUpdate 173 p x u) (hm:a.eval p = .map (some b)) (M:HBl w b N h) (hN:N < maxLen) (n y:Int) (hx:a.eval x = .int .i64 n) (hu:a.eval u = .int .u8 y) (hn:Wf n)
 (hK:∀ w',HBl w' b (N+1) (hput h n y)→w.grownBy w' (some b)→wpList Tryz.prog ops Q rest (a.put o.dst undef) w'):wpList Tryz.prog ops Q (o :: rest) a w:=by
 refine BigFrame.wpList_want hgd fun K' hK'=>?_;obtain ⟨w',hr,h1,h2⟩:=run_hput M hN (y:=y) hn;unfold bv at hr;unfold Oper.wp
 simp [execOp,hop,hm,hx,hu,hr,Result.andThen]
 exact hK' _ _ (hK w' h1 h2)
theorem hbl_new (w:World):HBl (w.alloc (.map #[] 0)) w.heap.size 0 (fun _=>none):=⟨_,World.ownsMap_made _ _ _ _,fun _ _=>rfl,fun _ _ _ h=>by cases h⟩
end
def plc (f r:Int):Value:=.agg #[.int .i64 f,.int .i64 r]
theorem laidOutP:laidOutB Tryz.prog=true:=by kernel_rfl
theorem lawP:WideMaps.KeyLaw Tryz.prog 248:=deep_law_laid laidOutP (m:=2) (by omega) (of_decide_eq_true (by kernel_rfl)) (by kernel_rfl) (by kernel_rfl)
theorem keyedP:Keyed Tryz.prog 248:=Keyed.of_law lawP
theorem cellsP:Tryz.prog.cellsOf 248=2:=by kernel_rfl
theorem cellsI:Tryz.prog.cellsOf 3=1:=by kernel_rfl
theorem sizeP:∃ m,Tryz.prog.types.size=m+1:=by
 have:0 < Tryz.prog.types.size:=of_decide_eq_true (by kernel_rfl);exact ⟨Tryz.prog.types.size - 1,(Nat.succ_pred_eq_of_pos this).symm⟩
theorem litsI (d:Nat) (f:Int):Tryz.prog.keyLits (d+1) 3 [.int .i64 f]=if (Lit.int .i64 f).wf=true then some [.int .i64 f] else none:=by
 unfold Program.keyLits
 simp [Tryz.underlying3]
theorem keyP {f r:Int} (hf:Wf f) (hr:Wf r):keyOf Tryz.prog 248 (plc f r)=some (.string (keyBytes [.int .i64 f,.int .i64 r])):=by
 have h1:Tryz.prog.keyType 248=true:=by kernel_rfl
 have h2:(plc f r).formed Tryz.prog 248=true:=by simp [plc,Value.formed,Tryz.underlying248,cellsP]
 obtain ⟨m,hm⟩:=sizeP;have h4:Tryz.prog.keyLits (Tryz.prog.types.size+1) 248 (plc f r).cells.toList=some [.int .i64 f,.int .i64 r]:=by
  have e:(plc f r).cells.toList = [.int .i64 f,.int .i64 r]:=rfl;have f1:(Lit.int .i64 f).wf=true:=hf;have f2:(Lit.int .i64 r).wf=true:=hr;have g1:=litsI m f;have g2:=litsI m r;rw [if_pos f1] at g1;rw [if_pos f2] at g2;rw [e,hm];unfold Program.keyLits
  simp [Tryz.underlying248,cellsP,cellsI,g1,g2]
 unfold keyOf;simp only [Tryz.underlying248,h1,h2,h4,Bool.and_self,if_true,Option.map_some]
theorem keyP_inv {v:Value} {kl:Lit} (h:keyOf Tryz.prog 248 v=some kl):∃ f r,v=plc f r∧Wf f∧Wf r:=by
 unfold keyOf at h;simp only [Tryz.underlying248] at h
 split at h
 ·rename_i hc
  rw [Bool.and_eq_true] at hc;obtain ⟨_,hfm⟩:=hc;obtain ⟨xs,rfl,hs⟩:∃ xs,v = .agg xs∧xs.size=2:=by
   cases v <;> simp [Value.formed,Tryz.underlying248,cellsP] at hfm
   exact ⟨_,rfl,hfm⟩
  obtain ⟨m,hm⟩:=sizeP;obtain ⟨l⟩:=xs
  match l,hs with
  | [a,b],_ =>
    have e:(Value.agg (Array.mk [a,b])).cells.toList = [a,b]:=rfl;rw [e,hm] at h;unfold Program.keyLits at h
    simp [Tryz.underlying248,cellsP,cellsI] at h
    rcases e1:Tryz.prog.keyLits (m+1) 3 [a] with _ | x
    ·rw [e1] at h
     simp at h
    ·rcases e2:Tryz.prog.keyLits (m+1) 3 [b] with _ | y
     ·rw [e1,e2] at h
      simp at h
     ·obtain ⟨n,h5,_⟩:=keyLits_int' Tryz.underlying3 e1
      obtain ⟨m',h8,_⟩:=keyLits_int' Tryz.underlying3 e2;obtain rfl:a = .int .i64 n:=by simpa using h5
      obtain rfl:b = .int .i64 m':=by simpa using h8
      refine ⟨n,m',rfl,?_,?_⟩
      ·rw [litsI] at e1
       by_cases g:(Lit.int .i64 n).wf=true
       ·exact g
       ·rw [if_neg g] at e1;cases e1
      ·rw [litsI] at e2
       by_cases g:(Lit.int .i64 m').wf=true
       ·exact g
       ·rw [if_neg g] at e2;cases e2
 ·cases h
def pk (f r:Int):Lit:=.string (keyBytes [.int .i64 f,.int .i64 r])
theorem pk_inj {f r f' r':Int} (h1:Wf f) (h2:Wf r) (h3:Wf f') (h4:Wf r') (e:pk f r=pk f' r'):f=f'∧r=r':=by
 have k1:=keyP h1 h2;have k2:=keyP h3 h4;rw [show Lit.string (keyBytes [.int .i64 f',.int .i64 r'])=pk f r from e.symm] at k2;have:=keyedP.inj k1 k2;unfold plc at this;injection this with this;have e1:=congrArg (fun t:Array Value=>t[0]?) this;have e2:=congrArg (fun t:Array Value=>t[1]?) this
 simp at e1 e2
 exact ⟨e1,e2⟩
structure Gm (w:World) (b N:Nat) (t:List E5) (vs:Int→Int→Value) (D:DataW Value):Prop where
 own:w.ownsMap Tryz.prog 248 Rh b N D
 has:∀ f r,Wf f→Wf r→Maps.has D (pk f r)=decide (grp t f r≠[])
 val:∀ f r,Wf f→Wf r→grp t f r≠[]→∀ z,D.atKey (pk f r) z = .held (vs f r)
 nil:∀ f r,grp t f r = []→vs f r = .slice none 0 0
 row:∀ f r,Ow K5 w (b+1) 87 (vs f r) (grp t f r)
 far:∀ f r f' r',¬ (f=f'∧r=r')→∀ k,(vs f r).ownBlock=some k→(vs f' r').ownBlock≠some k
theorem zeroS (w:World):(zeroValue 85).run Tryz.prog w = .ok (.slice none 0 0) w:=by kernel_rfl
section
variable {w w':World} {b N:Nat} {t:List E5} {vs:Int→Int→Value} {D:DataW Value}
theorem grp_nil (f r:Int):grp [] f r = []:=rfl
theorem gm_new (w:World):Gm (w.alloc (.map #[] 0)) w.heap.size 0 [] (fun _ _=>.slice none 0 0) (.map []) :=
 ⟨World.ownsMap_made _ _ _ _,fun _ _ _ _=>by simp [grp_nil,Maps.has],fun _ _ _ _ h=>absurd rfl h,fun _ _ _=>rfl,fun _ _=>Ow.nil _ _ _,fun _ _ _ _ _ k h=>by simp [Value.ownBlock] at h⟩
theorem Gm.below (G:Gm w b N t vs D) (hb:Below w.heap.size w w'):Gm w' b N t vs D :=
 ⟨G.own.kept (Fs.grown_of hb) (fun h=>by cases h),G.has,G.val,G.nil,fun f r=>(G.row f r).keep hb,G.far⟩
theorem grp_snoc (t:List E5) (x:E5) (f r:Int):grp (t ++ [x]) f r=if mt f r x=true then grp t f r ++ [x] else grp t f r:=by
 unfold grp;rw [List.filter_append]
 by_cases h:mt f r x=true
 ·simp [h]
 ·simp [h]
def upP (vs:Int→Int→Value) (f r:Int) (u:Value) (a c:Int):Value:=if a=f∧c=r then u else vs a c
theorem Gm.step (G:Gm w b N t vs D) (hN:N < maxLen) {x:E5} (h2:x.1=2) (hf:Wf x.2.2.1) (hr:Wf x.2.2.2.1) :
 ∃ st w1,(Instr.mapEntry 245 (.map (some b)) (plc x.2.2.1 x.2.2.2.1)).run Tryz.prog w = .ok (.tuple #[vs x.2.2.1 x.2.2.2.1,.int .i64 ((st:Nat):Int)]) w1∧w.grownBy w1 (some b)∧w1.heap.size=w.heap.size ∧
  ∀ w2 u,w1.grownBy w2 (vs x.2.2.1 x.2.2.2.1).ownBlock→Ow K5 w2 (b+1) 87 u (grp t x.2.2.1 x.2.2.2.1 ++ [x])→(u.ownBlock=(vs x.2.2.1 x.2.2.2.1).ownBlock∨∃ g,u.ownBlock=some g∧w1.heap.size≤g) →
   ∃ w3 D',(Instr.entryStore 245 (.map (some b)) (.int .i64 ((st:Nat):Int)) u).run Tryz.prog w2 = .ok () w3∧w2.grownBy w3 (some b)∧Gm w3 b (N+1) (t ++ [x]) (upP vs x.2.2.1 x.2.2.2.1 u) D':=by
 obtain ⟨k,s,f,r,y⟩:=x;simp only at h2 hf hr ⊢;subst h2;have hkey:=keyP hf hr;obtain ⟨es,clock,hb,F,hs,hD⟩:=G.own;obtain ⟨v0,st,es1,clock1,hE,hcase,hS⟩:=WideElems.entry_then_store (w:=w) lawP Tryz.underlying245 zeroS hb F hkey;have hv0:v0=vs f r:=by
  have hl:=Maps.fit_look false keyedP Tryz.underlying245 (zeroS w) hb F hkey;rw [← hD] at hl
  rcases hl with ⟨_,hno,hat⟩ | ⟨e1,y1,hm1,hk1,_,hR,hat,_⟩
  ·have h1:Maps.has D (pk f r)=false:=has_false_of_atKey hat
   rw [G.has f r hf hr,decide_eq_false_iff_not,Classical.not_not] at h1;rw [G.nil f r h1]
   rcases hcase with ⟨e0,hm0,hk0,_⟩ | ⟨_,hz⟩
   ·exact absurd hk0 (hno e0 hm0)
   ·exact hz
  ·have h1:Maps.has D (pk f r)=true:=has_true_of_atKey hat
   rw [G.has f r hf hr,decide_eq_true_eq] at h1;have h3:=(hat .nil).symm.trans (G.val f r hf hr h1 .nil);have h4:y1=(.held e1.val,[]):=by simp [Rh] at hR;exact hR.symm
   rw [h4] at h3;injection h3 with h3
   rcases hcase with ⟨e0,hm0,hk0,hv⟩ | ⟨hno,_⟩
   ·have he:=entry_eq_of_key ((MapKept.stamped_iff es clock).1 F.stamped).2.2 hm0 hm1 (hk0.trans hk1.symm)
    rw [hv,he,h3]
   ·exact absurd hk1 (hno e1 hm1)
 subst hv0;have hg1:w.grownBy (ChangeMaps.setBlock w b (.map es1 clock1)) (some b):=⟨rfl,rfl,rfl,by simp [ChangeMaps.setBlock],fun i _ hi=>ChangeMaps.heap_setBlock_other hb _ (fun e=>hi (by rw [e]))⟩;have hb1:(ChangeMaps.setBlock w b (.map es1 clock1)).heap[b]? = some (.map es1 clock1):=ChangeMaps.heap_setBlock_same hb _;have hz1:(ChangeMaps.setBlock w b (.map es1 clock1)).heap.size=w.heap.size:=by simp [ChangeMaps.setBlock]
 have hbl:b < w.heap.size:=G.own.lt;have ownb:∀ a c,(vs a c).ownBlock≠some b:=fun a c e=>by have:=World.ownsRow.lt (G.row a c) b e;omega
 refine ⟨st,_,hE,hg1,hz1,fun w2 u hg2 hu hub=>?_⟩;have hb2:w2.heap[b]? = some (.map es1 clock1):=(hg2.block b (by rw [hz1];exact hbl) (fun e=>ownb f r e.symm)).trans hb1;obtain ⟨es',clock',hS1,hS2⟩:=hS w2 u hb2;obtain ⟨w',hU,hO,_⟩:=G.own.update keyedP Tryz.underlying245 hN hkey (val:=u) (d:=.held u) (ps:=[]) rfl;have hw':w'=ChangeMaps.setBlock w b (.map es' clock'):=by
  rw [hU] at hS2;injection hS2
 subst hw';have hg3:w2.grownBy (ChangeMaps.setBlock w2 b (.map es' clock')) (some b):=⟨rfl,rfl,rfl,by simp [ChangeMaps.setBlock],fun i _ hi=>ChangeMaps.heap_setBlock_other hb2 _ (fun e=>hi (by rw [e]))⟩;have hO3:(ChangeMaps.setBlock w2 b (.map es' clock')).ownsMap Tryz.prog 248 Rh b (N+1) (D.put (pk f r) (.held u)):=by
  obtain ⟨es3,clock3,q1,q2,q3,q4⟩:=hO;rw [ChangeMaps.heap_setBlock_same hb] at q1;exact ⟨es3,clock3,(ChangeMaps.heap_setBlock_same hb2 _).trans q1,q2,q3,q4⟩
 have hself:mt f r (2,s,f,r,y)=true:=by simp [mt]
 have hoth:∀ a c,¬ (a=f∧c=r)→mt a c (2,s,f,r,y)=false:=fun a c h=>by
  unfold mt;rw [decide_eq_false];rintro ⟨_,h1,h2⟩;exact h ⟨h1.symm,h2.symm⟩
 have ownu:∀ k,u.ownBlock=some k→b+1≤k∧k < w2.heap.size:=fun k e=>World.ownsRow.lt hu k e;have hdiff:∀ a c,¬ (a=f∧c=r)→∀ k,(vs a c).ownBlock=some k→u.ownBlock≠some k:=fun a c h k hk e=>by
  rcases hub with e2 | ⟨g,e2,hg⟩
  ·exact G.far a c f r h k hk (e2.symm.trans e)
  ·rw [e2] at e
   injection e with e;have:=(World.ownsRow.lt (G.row a c) k hk).2
   omega
 refine ⟨_,_,hS1,hg3,hO3,fun a c ha hc=>?_,fun a c ha hc hne z=>?_,fun a c hn=>?_,fun a c=>?_,fun a c a' c' hne k hk=>?_⟩
 ·rw [grp_snoc]
  by_cases e:a=f∧c=r
  ·obtain ⟨rfl,rfl⟩:=e
   rw [show Maps.has (D.put (pk a c) (.held u)) (pk a c)=true from has_put_same G.own.isMap (keyedP.key hkey) _,hself,if_pos rfl]
   simp
  ·rw [has_put_other (fun e2=>e (pk_inj ha hc hf hr e2)),hoth a c e,if_neg (by simp)]
   exact G.has a c ha hc
 ·rw [grp_snoc] at hne
  unfold upP
  by_cases e:a=f∧c=r
  ·obtain ⟨rfl,rfl⟩:=e
   rw [if_pos ⟨rfl,rfl⟩];exact atKey_put_same G.own.isMap (keyedP.key hkey) _ _
  ·rw [hoth a c e,if_neg (by simp)] at hne
   rw [atKey_put_other (fun e2=>e (pk_inj ha hc hf hr e2)),if_neg e];exact G.val a c ha hc hne z
 ·rw [grp_snoc] at hn
  unfold upP
  by_cases e:a=f∧c=r
  ·obtain ⟨rfl,rfl⟩:=e
   rw [hself,if_pos rfl] at hn
   simp at hn
  ·rw [hoth a c e,if_neg (by simp)] at hn
   rw [if_neg e];exact G.nil a c hn
 ·rw [grp_snoc]
  unfold upP
  by_cases e:a=f∧c=r
  ·obtain ⟨rfl,rfl⟩:=e
   rw [hself,if_pos rfl,if_pos ⟨rfl,rfl⟩];exact World.ownsRow.kept hu hg3 (.inr fun e2=>by have:=(ownu b e2).1;omega)
  ·rw [hoth a c e,if_neg e,if_neg Bool.false_ne_true]
   have r1:=World.ownsRow.kept (G.row a c) hg1 (.inr (ownb a c))
   have r2:=World.ownsRow.kept r1 hg2 (by
    rcases e3:(vs a c).ownBlock with _ | k
    ·exact .inl rfl
    ·exact .inr fun e4=>G.far a c f r e k e3 e4.symm)
   exact World.ownsRow.kept r2 hg3 (.inr (ownb a c))
 ·unfold upP at hk ⊢
  by_cases e:a=f∧c=r
  ·rw [if_pos e] at hk
   by_cases e':a'=f∧c'=r
   ·exact absurd ⟨e.1.trans e'.1.symm,e.2.trans e'.2.symm⟩ hne
   ·rw [if_neg e']
    exact fun e4=>hdiff a' c' e' k e4 hk
  ·rw [if_neg e] at hk
   by_cases e':a'=f∧c'=r
   ·rw [if_pos e']
    exact hdiff a c e k hk
   ·rw [if_neg e']
    exact G.far a c a' c' hne k hk
end
theorem push_group {ops:Array Oper} {rest:List Oper} {o:Oper} {a:Act} {w:World} {Q:Exit→Act→World→Prop} (hgd:o.guard=none) (s x:Operand)
 (ho:o.op = .call { callee:=.builtin .append,args:=#[s,x],argTypes:=#[85,85] }) (B:Nat) (v:Value) (l:List E5) (hs:a.eval s=v) (hown:Ow K5 w B 87 v l)
 (ad:Addr) (c:E5) (hx:a.eval x = .slice (some ad) 1 1) (hc:∀ j u,(K5.enc c)[j]? = some u→w.cell? (ad.add j)=some u) (hlen:l.length < 100000) (hB:B≤w.heap.size)
 (h:∀ v' w',Ow K5 w' B 87 v' (l ++ [c])→w.grownBy w' v.ownBlock→(v'.ownBlock=v.ownBlock∨∃ g,v'.ownBlock=some g∧w.heap.size≤g)→wpList Tryz.prog ops Q rest (a.put o.dst v') w'):wpList Tryz.prog ops Q (o :: rest) a w:=by
 obtain ⟨i0,hi0,hz0,hz1,hz2⟩:=info_parts Ro.infoE;refine wpList_append_own_at _ hgd s x 85 ho B 87 i0 _ 5 40 Tryz.underlying85 hi0 hz0 hz1 hz2 rfl (by omega) v l.length (K5.flat l) hs hown ad 1 1 (K5.enc c) hx (by rw [K5.len];rfl) hc (K5.one c) (by unfold maxLen;omega) (by omega) hB ?_
 intro v' w' h2 h3 _ h5
 exact h v' w' (Rw.Ow.push h2) h3 (h5.imp id fun e=>⟨_,e,Nat.le_refl _⟩)
end Go.Proofs.YtljnkaodhfnbbaaGreatDoor.Pa
namespace Go.Proofs.YtljnkaodhfnbbaaGreatDoor.Ro
open Go.RowKit
open Rw (Rd Ow At)
open Fl (R4 z4 rec4 K4 okR hdr rat goodF ret_bool at_bool)
attribute [local irreducible] wpQuiet
def row5 (x:E5):Array Value:=#[.int .i64 x.1,.int .i64 x.2.1,.int .i64 x.2.2.1,.int .i64 x.2.2.2.1,.int .i64 x.2.2.2.2]
set_option maxHeartbeats 400000 in
theorem end_any (w:World):Calls Tryz.prog 223 #[] w fun e w'=>e = .returned (ent endE)∧Below w.heap.size w w':=by
 go_enter Tryz.func223,Tryz.ntmps223
 go_wp2
 (try simp only [Exit.inBlock,Exit.then])
 refine bodyPost_ret (v:=ent endE) ?_ rfl ⟨rfl,?_⟩
 ·exact results_cell_row (p:=0) rfl _ _ w.heap.size 87 _ (0,0) _ rfl (heap_alloc_new w _) Tryz.underlying87 rfl (by show _=some 5;kernel_rfl)
 ·exact (Below.refl w.heap.size w).alloc (Nat.le_refl _) _
set_option maxHeartbeats 1000000 in
theorem place_any (w:World) (k s f r b:Int):Calls Tryz.prog 222 #[.agg #[.int .i64 k,.int .i64 s,.int .i64 f,.int .i64 r,.int .i64 b]] w fun e w'=>e = .returned (.bool (placeB s f r))∧Below w.heap.size w w':=by
 have B0:=Lib.hid ((Below.refl w.heap.size w).alloc (Nat.le_refl _) (.cells #[.int .i64 k,.int .i64 s,.int .i64 f,.int .i64 r,.int .i64 b] 87))
 by_cases h1:1≤s
 ·by_cases h2:s≤16
  ·by_cases h3:0≤f
   ·by_cases h4:f < 64
    ·by_cases h5:1≤r
     ·by_cases h6:r < 256
      ·have E:Hid (true=placeB s f r):=Lib.hid (decide_eq_true (show place s f r by unfold place;omega)).symm
       go_enter Tryz.func222,Tryz.ntmps222
       go_wp2
       go_ret
       exact ⟨ret_bool E.out,B0.out⟩
      ·have E:Hid (false=placeB s f r):=Lib.hid (decide_eq_false (show ¬ place s f r by unfold place;omega)).symm
       go_enter Tryz.func222,Tryz.ntmps222
       go_wp2
       go_ret
       exact ⟨ret_bool E.out,B0.out⟩
     ·have E:Hid (false=placeB s f r):=Lib.hid (decide_eq_false (show ¬ place s f r by unfold place;omega)).symm
      go_enter Tryz.func222,Tryz.ntmps222
      go_wp2
      go_ret
      exact ⟨ret_bool E.out,B0.out⟩
    ·have E:Hid (false=placeB s f r):=Lib.hid (decide_eq_false (show ¬ place s f r by unfold place;omega)).symm
     go_enter Tryz.func222,Tryz.ntmps222
     go_wp2
     go_ret
     exact ⟨ret_bool E.out,B0.out⟩
   ·have E:Hid (false=placeB s f r):=Lib.hid (decide_eq_false (show ¬ place s f r by unfold place;omega)).symm
    go_enter Tryz.func222,Tryz.ntmps222
    go_wp2
    go_ret
    exact ⟨ret_bool E.out,B0.out⟩
  ·have E:Hid (false=placeB s f r):=Lib.hid (decide_eq_false (show ¬ place s f r by unfold place;omega)).symm
   go_enter Tryz.func222,Tryz.ntmps222
   go_wp2
   go_ret
   exact ⟨ret_bool E.out,B0.out⟩
 ·have E:Hid (false=placeB s f r):=Lib.hid (decide_eq_false (show ¬ place s f r by unfold place;omega)).symm
  go_enter Tryz.func222,Tryz.ntmps222
  go_wp2
  go_ret
  exact ⟨ret_bool E.out,B0.out⟩
set_option maxHeartbeats 1000000 in
theorem good_act (w:World) (k s f r b L:Int) (hk:(k=1∨k=2)∧L=3∨k=3∧L=0):Calls Tryz.prog 187 #[.agg #[.int .i64 k,.int .i64 s,.int .i64 f,.int .i64 r,.int .i64 b]] w fun e w'=>e = .returned (.bool (okB (k,s,f,r,b)))∧Below w.heap.size w w':=by
 have B0:=Lib.hid ((Below.refl w.heap.size w).alloc (Nat.le_refl _) (.cells #[.int .i64 k,.int .i64 s,.int .i64 f,.int .i64 r,.int .i64 b] 87))
 have EQ:Hid (okE (k,s,f,r,b)↔place s f r∧0≤b∧b≤L):=Lib.hid (by
  unfold okE place;simp only
  omega)
 have PA:=Lib.hid (fun w=>place_any w k s f r b)
 by_cases hp:place s f r
 ·have PP:=Lib.hid (decide_eq_true hp)
  unfold placeB at PA;rw [PP.out] at PA;have HP:=Lib.hid hp;clear hp PP
  by_cases h1:0≤b
  ·have E:Hid (decide (b≤L)=okB (k,s,f,r,b)):=Lib.hid (decide_eq_decide.2 ⟨fun h=>EQ.out.2 ⟨HP.out,h1,h⟩,fun h=>(EQ.out.1 h).2.2⟩)
   clear EQ HP
   rcases hk with ⟨rfl | rfl,rfl⟩ | ⟨rfl,rfl⟩
   all_goals
    go_enter Tryz.func187,Tryz.ntmps187
    go_wp2_with fail;refine (PA.out _).mono ?_;rintro e w1 ⟨rfl,b1⟩;have c4:w1.cell? ⟨w.heap.size,4,none⟩=some (.int .i64 b):=(b1.cell (by simp)).trans (by go_simp);have B1:=Lib.hid (B0.out.trans (b1.mono B0.out.size));clear b1;go_wp2
    go_ret
    exact ⟨ret_bool E.out,B1.out⟩
  ·have E:Hid (false=okB (k,s,f,r,b)):=Lib.hid (decide_eq_false (fun h=>h1 (EQ.out.1 h).2.1)).symm
   clear EQ HP
   rcases hk with ⟨rfl | rfl,rfl⟩ | ⟨rfl,rfl⟩
   all_goals
    go_enter Tryz.func187,Tryz.ntmps187
    go_wp2_with fail;refine (PA.out _).mono ?_;rintro e w1 ⟨rfl,b1⟩;have c4:w1.cell? ⟨w.heap.size,4,none⟩=some (.int .i64 b):=(b1.cell (by simp)).trans (by go_simp);have B1:=Lib.hid (B0.out.trans (b1.mono B0.out.size));clear b1;go_wp2
    go_ret
    exact ⟨ret_bool E.out,B1.out⟩
 ·have E:Hid (false=okB (k,s,f,r,b)):=Lib.hid (decide_eq_false (fun h=>hp (EQ.out.1 h).1)).symm
  have PP:=Lib.hid (decide_eq_false hp);unfold placeB at PA;rw [PP.out] at PA;clear hp PP EQ
  rcases hk with ⟨rfl | rfl,rfl⟩ | ⟨rfl,rfl⟩
  all_goals
   go_enter Tryz.func187,Tryz.ntmps187
   go_wp2_with fail;refine (PA.out _).mono ?_;rintro e w1 ⟨rfl,b1⟩;have c4:w1.cell? ⟨w.heap.size,4,none⟩=some (.int .i64 b):=(b1.cell (by simp)).trans (by go_simp);have B1:=Lib.hid (B0.out.trans (b1.mono B0.out.size));clear b1;go_wp2
   go_ret
   exact ⟨ret_bool E.out,B1.out⟩
set_option maxHeartbeats 1000000 in
theorem good_end (w:World) (s f r b:Int):Calls Tryz.prog 187 #[.agg #[.int .i64 4,.int .i64 s,.int .i64 f,.int .i64 r,.int .i64 b]] w fun e w'=>e = .returned (.bool (okB (4,s,f,r,b)))∧Below w.heap.size w w':=by
 have B0:=Lib.hid ((Below.refl w.heap.size w).alloc (Nat.le_refl _) (.cells #[.int .i64 4,.int .i64 s,.int .i64 f,.int .i64 r,.int .i64 b] 87))
 have EQ:okE (4,s,f,r,b)↔(s=0∧f=0∧r=0∧b=0):=⟨fun h=>by
  rcases h with h | h
  ·exact absurd h.2.1 (show ¬ (4:Int)≤3 by decide)
  ·exact h.2,fun h=>.inr ⟨rfl,h⟩⟩
 have E:Hid ((decide (s=0) && (decide (f=0) && (decide (r=0) && decide (b=0))))=okB (4,s,f,r,b)):=Lib.hid (by
  rw [show okB (4,s,f,r,b)=decide (s=0∧f=0∧r=0∧b=0) from decide_eq_decide.2 EQ]
  simp only [Bool.decide_and])
 clear EQ;have es:=eq_ent ((4:Int),s,f,r,b) endE;simp only [endE] at es;have EE:=Lib.hid (fun w=>end_any w);unfold ent at EE;simp only [endE] at EE;have k0:=Qb.cell_by (show (w.alloc (.cells #[.int .i64 4,.int .i64 s,.int .i64 f,.int .i64 r,.int .i64 b] 87)).cell? ⟨w.heap.size,0,none⟩=some (.int .i64 4) by go_simp);have k1:=Qb.cell_by (show (w.alloc (.cells #[.int .i64 4,.int .i64 s,.int .i64 f,.int .i64 r,.int .i64 b] 87)).cell? ⟨w.heap.size,1,none⟩=some (.int .i64 s) by go_simp);have k2:=Qb.cell_by (show (w.alloc (.cells #[.int .i64 4,.int .i64 s,.int .i64 f,.int .i64 r,.int .i64 b] 87)).cell? ⟨w.heap.size,2,none⟩=some (.int .i64 f) by go_simp);have k3:=Qb.cell_by (show (w.alloc (.cells #[.int .i64 4,.int .i64 s,.int .i64 f,.int .i64 r,.int .i64 b] 87)).cell? ⟨w.heap.size,3,none⟩=some (.int .i64 r) by go_simp);have k4:=Qb.cell_by (show (w.alloc (.cells #[.int .i64 4,.int .i64 s,.int .i64 f,.int .i64 r,.int .i64 b] 87)).cell? ⟨w.heap.size,4,none⟩=some (.int .i64 b) by go_simp)
 go_enter Tryz.func187,Tryz.ntmps187
 go_wp2_with fail;refine Qb.wp_region_by (by kernel_rfl) (by kernel_rfl) ?_
 repeat (quiet_step ((go_at_call 223;with_reducible exact Qb.of_below (EE.out _))))
 refine wpQuiet_nil ?_
 intro _ hw'
 obtain ⟨pp,rfl⟩:=hw';go_wp2
 go_ret
 exact ⟨ret_bool E.out,B0.out.trans (pp.below.mono B0.out.size)⟩
set_option maxHeartbeats 400000 in
theorem good_else (w:World) (k s f r b:Int) (h1:k≠1) (h2:k≠2) (h3:k≠3) (h4:k≠4):Calls Tryz.prog 187 #[.agg #[.int .i64 k,.int .i64 s,.int .i64 f,.int .i64 r,.int .i64 b]] w fun e w'=>e = .returned (.bool (okB (k,s,f,r,b)))∧Below w.heap.size w w':=by
 have B0:=Lib.hid ((Below.refl w.heap.size w).alloc (Nat.le_refl _) (.cells #[.int .i64 k,.int .i64 s,.int .i64 f,.int .i64 r,.int .i64 b] 87));have E:Hid (false=okB (k,s,f,r,b)):=Lib.hid (decide_eq_false (show ¬ okE (k,s,f,r,b) by unfold okE;simp only;omega)).symm
 go_enter Tryz.func187,Tryz.ntmps187
 go_wp2
 go_ret
 exact ⟨ret_bool E.out,B0.out⟩
theorem good_any (w:World) (x:E5):Calls Tryz.prog 187 #[ent x] w fun e w'=>e = .returned (.bool (okB x))∧Below w.heap.size w w':=by
 obtain ⟨k,s,f,r,b⟩:=x
 show Calls Tryz.prog 187 #[.agg #[.int .i64 k,.int .i64 s,.int .i64 f,.int .i64 r,.int .i64 b]] w _
 by_cases h1:k=1
 ·exact good_act w k s f r b 3 (.inl ⟨.inl h1,rfl⟩)
 ·by_cases h2:k=2
  ·exact good_act w k s f r b 3 (.inl ⟨.inr h2,rfl⟩)
  ·by_cases h3:k=3
   ·exact good_act w k s f r b 0 (.inr ⟨h3,rfl⟩)
   ·by_cases h4:k=4
    ·subst h4;exact good_end w s f r b
    ·exact good_else w k s f r b h1 h2 h3 h4
end Go.Proofs.YtljnkaodhfnbbaaGreatDoor.Ro
namespace Go.Proofs.YtljnkaodhfnbbaaGreatDoor.Pa
open Go.RowKit Go.Maps
open Fs (Wf law keyI Rh)
open Rw (Rd Ow At)
open Fl (row_cell row_frozen)
open Ro (E5 z5 eat K5 at5 okE okB ok_yes ent good_any okE_bounds)
attribute [local irreducible] Sd.wpSd wpQuiet
structure RcI (w:World) (t:List E5) (k:Nat) (N:Nat) (vs:Int→Int→Value) (D:DataW Value) (wr:World):Prop where
 gm:Gm wr w.heap.size N (t.take k) vs D
 le:N≤k
 bel:Below w.heap.size w wr
theorem RcI.below {w:World} {t:List E5} {k N:Nat} {vs:Int→Int→Value} {D:DataW Value} {wr wr':World} (h:Hid (RcI w t k N vs D wr)) (b:Below wr.heap.size wr wr'):Hid (RcI w t k N vs D wr'):=⟨h.out.gm.below b,h.out.le,h.out.bel.trans (b.mono h.out.bel.size)⟩
def RecdPost (w:World) (t:List E5) (e:Ending) (w':World):Prop:=∃ b N vs D,e = .returned (.map (some b))∧Gm w' b N t vs D∧w.heap.size≤b∧N≤t.length∧Below w.heap.size w w'
theorem Gm.to {w:World} {b N:Nat} {t t':List E5} {vs:Int→Int→Value} {D:DataW Value} (h:Gm w b N t vs D) (e:∀ f r,grp t f r=grp t' f r):Gm w b N t' vs D :=
 ⟨h.own,fun f r hf hr=>by rw [← e f r];exact h.has f r hf hr,fun f r hf hr hg=>h.val f r hf hr (by rw [e f r];exact hg),fun f r hg=>h.nil f r (by rw [e f r];exact hg),fun f r=>by rw [← e f r];exact h.row f r,h.far⟩
set_option maxHeartbeats 400000 in
theorem received_any (w:World) (v:Value) (t:List E5) (R:Rd K5 w v t) (ok:∀ x∈t,okE x) (hl:t.length≤1000):Calls Tryz.prog 144 #[v] w (RecdPost w t):=by
 have OK:Hid (∀ k,k < t.length→okE (eat t k)):=fun k hk=>ok _ (Ro.eat_mem hk);have hmm:=@run_makeMap Tryz.prog;have G0:Hid (RcI w t 0 0 (fun _ _=>.slice none 0 0) (.map []) (w.alloc (.map #[] 0))):=⟨gm_new w,Nat.le_refl _,(Below.refl w.heap.size w).alloc (Nat.le_refl _) _⟩;obtain ⟨a,cap,rfl,_,hm,hA⟩:=R;have HA:=Lib.hid hA;clear hA ok;generalize hn:t.length=n at *;have HN:=Lib.hid hn;clear hn
 go_enter Tryz.func144,Tryz.ntmps144
 go_wp2;clear hmm
 go_loopw [10] (fun i wr=>∃ (k:Nat) (N:Nat) (vs:Int→Int→Value) (D:DataW Value),k≤n∧i = .int .i64 k∧Hid (RcI w t k N vs D wr)) (fun i _=>n - (intOf i).toNat)
 case atStart=>exact ⟨0,0,_,_,Nat.zero_le _,rfl,G0⟩
 case round =>
  obtain ⟨k,N,vs,D,hk,rfl,I⟩:=hrel;clear G0
  by_cases hlt:k < n
  ·obtain ⟨b,off,rfl,A⟩:=HA.out (by omega)
   obtain ⟨c0,c1,c2,c3,c4⟩:=at5 (A.below I.out.bel) k (by have:=HN.out;omega);rw [show t.getD k z5=eat t k from rfl] at c0 c1 c2 c3 c4;have oke:=OK.out k (by have:=HN.out;omega);have TK:=Lib.hid (take_eat (t:=t) (j:=k) (by have:=HN.out;omega));have NO:Hid ((eat t k).1≠2→Hid (RcI w t (k+1) N vs D wr)):=fun h=>⟨I.out.gm.to (fun f r=>by rw [TK.out,grp_snoc,if_neg];simp [mt,h]),by have:=I.out.le;omega,I.out.bel⟩;clear A OK;generalize eat t k=x at *;obtain ⟨q,s,f,r,y⟩:=x;simp only at c0 c1 c2 c3 c4 NO;have GA:=Lib.hid (fun w=>good_any w (q,s,f,r,y));rw [ok_yes oke] at GA;unfold ent at GA;simp only at GA;have OKE:=Lib.hid oke;clear oke
   by_cases h2:q=2
   ·clear NO
    subst h2;obtain ⟨_,_,⟨f0,f1⟩,⟨r0,r1⟩,_⟩:=okE_bounds OKE.out;simp only at f0 f1 r0 r1;have WF:=Lib.hid (wf_of (n:=f) ⟨f0,by omega⟩);have WR:=Lib.hid (wf_of (n:=r) ⟨r0,by omega⟩);clear f0 f1 r0 r1;go_wp2_with fail;refine (GA.out _).mono ?_;rintro e w1 ⟨rfl,b1⟩;have X1:Hid (w1.heap[wr.heap.size]? = some (.cells #[.int .i64 2,.int .i64 s,.int .i64 f,.int .i64 r,.int .i64 y] 87 (0,0))):=Lib.hid ((b1.block _ (by simp)).trans (heap_alloc_new wr _));have B1:Hid (Below wr.heap.size wr w1):=Lib.hid (((Below.refl wr.heap.size wr).alloc (Nat.le_refl _) _).trans (b1.mono (by simp)));have x2:w1.cell? ⟨wr.heap.size,2,none⟩=some (.int .i64 f):=row_cell X1.out 2;have x3:w1.cell? ⟨wr.heap.size,3,none⟩=some (.int .i64 r):=row_cell X1.out 3;clear b1 c0 c1 c2 c3 c4 GA;go_upto_region 7 with fail;have P2:Hid ((w1.alloc (.cells #[.int .i64 f,.int .i64 r] 248)).heap[w1.heap.size]? = some (.cells #[.int .i64 f,.int .i64 r] 248 (0,0))):=Lib.hid (heap_alloc_new w1 _);have B2:Hid (Below w1.heap.size w1 (w1.alloc (.cells #[.int .i64 f,.int .i64 r] 248))):=Lib.hid ((Below.refl w1.heap.size w1).alloc (Nat.le_refl _) _);clear x2 x3;generalize (w1.alloc (.cells #[.int .i64 f,.int .i64 r] 248))=W at *;have X2:=Lib.hid ((B2.out.block _ (lt_of_block X1.out)).trans X1.out);have GB:=Lib.hid (B1.out.trans (B2.out.mono B1.out.size));have hgw:w1.heap.size < W.heap.size:=lt_of_block P2.out;generalize w1.heap.size=g2 at *;clear B1 B2 X1;have p0:W.cell? ⟨g2,0,none⟩=some (.int .i64 f):=row_cell P2.out 0;have p1:W.cell? ⟨g2,1,none⟩=some (.int .i64 r):=row_cell P2.out 1;have x0:W.cell? ⟨wr.heap.size,0,none⟩=some (.int .i64 2):=row_cell X2.out 0;have x1:W.cell? ⟨wr.heap.size,1,none⟩=some (.int .i64 s):=row_cell X2.out 1;have x2:W.cell? ⟨wr.heap.size,2,none⟩=some (.int .i64 f):=row_cell X2.out 2;have x3:W.cell? ⟨wr.heap.size,3,none⟩=some (.int .i64 r):=row_cell X2.out 3;have x4:W.cell? ⟨wr.heap.size,4,none⟩=some (.int .i64 y):=row_cell X2.out 4;have bL:=(Below.refl W.heap.size W).alloc (Nat.le_refl _) (.cells #[.int .i64 2,.int .i64 s,.int .i64 f,.int .i64 r,.int .i64 y] 87);have GM:=(I.out.gm.below (GB.out.trans (bL.mono (GB.out.size)))).step (x:=(2,s,f,r,y)) (by have:=I.out.le;unfold maxLen;omega) rfl WF.out WR.out;obtain ⟨st,w2,hE,hg2,hz2,hS⟩:=GM;simp only at hE hS;have hwb:w.heap.size < wr.heap.size:=I.out.gm.own.lt;have hr2:=World.ownsRow.kept (World.ownsRow.alloc ((I.out.gm.row f r).keep GB.out) (.cells #[.int .i64 2,.int .i64 s,.int .i64 f,.int .i64 r,.int .i64 y] 87)) hg2 (.inr fun e=>by have:=World.ownsRow.lt (I.out.gm.row f r) _ e;omega);have L2:Hid (w2.heap[W.heap.size]? = some (.cells #[.int .i64 2,.int .i64 s,.int .i64 f,.int .i64 r,.int .i64 y] 87 (0,0))):=Lib.hid ((hg2.block _ (by simp) (fun e=>by have:=Option.some.inj e;have:=GB.out.size;omega)).trans (heap_alloc_new W _));have hz3:W.heap.size+1=w2.heap.size:=by rw [hz2];simp
    have BW:Hid (Below w.heap.size w w2):=Lib.hid (((I.out.bel.trans (GB.out.mono I.out.bel.size)).alloc (by have:=GB.out.size;omega) (.cells #[.int .i64 2,.int .i64 s,.int .i64 f,.int .i64 r,.int .i64 y] 87)).grown hg2 (by have:=GB.out.size;simp;omega) (fun k e=>by injection e with e;omega));have O2:Hid (Ow K5 w2 (w.heap.size+1) 87 (vs f r) (grp (t.take k) f r)):=Lib.hid hr2;have gw:=GB.out.size;have HX:=Lib.hid (And.intro hwb (And.intro hz3 gw));have GX:=Lib.hid hS;obtain ⟨av,cv,ev,_⟩:=O2.out.slice;generalize hgl:(grp (t.take k) f r).length=gl at ev;have HGL:=Lib.hid hgl;have EV:=Lib.hid ev;unfold plc at hE;rw [ev] at hE O2;clear hg2 hz2 hS bL hr2 hwb hz3 gw ev hgl
    go_wp2_with (at_builtin;refine push_group rfl _ _ rfl (w.heap.size+1) _ _ rfl O2.out _ ((2,s,f,r,y):E5) rfl ?d1 ?d2 ?d3 ?_)
    case d1 =>
     intro j u hu
     match j,hu with
     | 0,hu=>simp [K5] at hu;subst hu;exact row_cell L2.out 0
     | 1,hu=>simp [K5] at hu;subst hu;exact row_cell L2.out 1
     | 2,hu=>simp [K5] at hu;subst hu;exact row_cell L2.out 2
     | 3,hu=>simp [K5] at hu;subst hu;exact row_cell L2.out 3
     | 4,hu=>simp [K5] at hu;subst hu;exact row_cell L2.out 4
     | j+5,hu=>simp [K5] at hu
    case d2 =>
     have:=List.length_filter_le (mt f r) (t.take k);have h2:(t.take k).length≤1000:=by rw [List.length_take];have:=HN.out;omega
     unfold grp
     omega
    case d3=>have:=HX.out;omega
    intro v' w3 o3 g3 h3
    have hS:=GX.out;rw [EV.out] at hS;obtain ⟨w4,D',hS4,g4,G4⟩:=hS w3 v' g3 o3 (h3.imp id fun ⟨g,e,h⟩=>⟨g,e,h⟩);obtain ⟨av',cv',ev',_⟩:=o3.slice;generalize (grp (t.take k) f r ++ [((2,s,f,r,y):E5)]).length=gl' at ev';subst ev';have NEW:Hid (RcI w t (k+1) (N+1) (upP vs f r (.slice av' gl' cv')) D' w4):=Lib.hid ⟨by rw [TK.out];exact G4,by have:=I.out.le;omega,(BW.out.grown g3 (by have:=HX.out;omega) (fun k e=>by have:=World.ownsRow.lt O2.out k e;omega)).grown g4 (by have:=HX.out;have:=g3.size;omega) (fun k e=>by injection e with e;omega)⟩;clear hS o3 g3 h3 g4 G4 hE;go_wp2
    go_roundw
    case rel=>exact ⟨k+1,N+1,_,D',by omega,by go_num,NEW⟩
    case measure=>simp [intOf];omega
   ·have NN:=NO.out h2
    clear NO;have d2:(q == 2)=false:=by simpa using h2
    clear h2;go_wp2
    go_roundw
    case rel=>exact ⟨k+1,N,vs,D,by omega,by go_num,RcI.below NN ((Below.refl wr.heap.size wr).alloc (Nat.le_refl _) _)⟩
    case measure=>simp [intOf];omega
  ·obtain rfl:k=n:=by omega
   have E:Hid (RecdPost w t (.returned (.map (some w.heap.size))) wr):=⟨_,N,vs,D,rfl,by have h:=I.out.gm;rw [← HN.out,List.take_length] at h;exact h,Nat.le_refl _,by have:=I.out.le;have:=HN.out;omega,I.out.bel⟩;go_wp2
   go_ret
   exact E.out
end Go.Proofs.YtljnkaodhfnbbaaGreatDoor.Pa
namespace Go.Proofs.YtljnkaodhfnbbaaGreatDoor.Pa
open Go.RowKit Go.Maps
open Fs (Abs St Only Fx Wf Rh gB gV sA sB set_any SetPost get_st GetPost)
open Rw (Rd Ow At)
open Ro (E5 z5 eat K5 at5 okE ent)
open Fl (R4 z4 rec4 okR arr4 row_cell row_frozen)
attribute [local irreducible] Sd.wpSd wpQuiet
theorem arr4_set (v:R4) (x:Int) {j:Nat} (hj:j < 4):(arr4 v).setIfInBounds j (.int .u8 x)=arr4 (rs v j x):=by
 obtain rfl | rfl | rfl | rfl:j=0∨j=1∨j=2∨j=3:=by omega
 all_goals rfl
theorem arr4_get (v:R4) {j:Nat} (hj:j < 4):(arr4 v)[j]? = some (.int .u8 (rb v j)):=by
 obtain rfl | rfl | rfl | rfl:j=0∨j=1∨j=2∨j=3:=by omega
 all_goals rfl
structure RvI (w:World) (f r:Int) (gv:Nat) (v:R4) (wr:World):Prop where
 bel:Below w.heap.size w wr
 box:wr.heap[w.heap.size]? = some (.cells #[.int .i64 f,.int .i64 r] 248 (0,0))
 cel:wr.heap[gv]? = some (.cells (arr4 v) 42 (0,0))
 gt:w.heap.size < gv
theorem RvI.below {w wr wr':World} {f r:Int} {gv:Nat} {v:R4} (h:RvI w f r gv v wr) (b:Below wr.heap.size wr wr'):RvI w f r gv v wr' :=
 ⟨h.bel.trans (b.mono h.bel.size),(b.block _ (lt_of_block h.box)).trans h.box,(b.block _ (lt_of_block h.cel)).trans h.cel,h.gt⟩
theorem RvI.put {w wr:World} {f r:Int} {gv:Nat} {v:R4} (h:RvI w f r gv v wr) {j:Nat} (hj:j < 4) (x:Int):RvI w f r gv (rs v j x) (wr.setCell ⟨gv,j,none⟩ (.int .u8 x)) :=
 ⟨h.bel.setCell (by have:=h.gt;simp;omega) _,(Below.heap_setCell _ _ _ _ (by have:=h.gt;simp;omega)).trans h.box,by rw [Rw.heap_setCell_same h.cel,arr4_set v x hj],h.gt⟩
def RcvPost (w:World) (s:Nat) (F:Nat→Prop) (d:Int) (A':Abs) (e:Ending) (w':World):Prop:=e = .returned (.tuple #[])∧St w' s (Fx F w w') A' d∧Only F w w'
theorem mix_next {h:Hr} {l:List E5} {k:Nat} (hk:k < l.length) (v:R4):mix h (l.take (k+1)) v=rs (mix h (l.take k) v) (eat l k).2.2.2.2 ((h (eat l k).2.1).getD 0):=by
 unfold mix;rw [take_eat hk,List.foldl_append]
 rfl
set_option maxHeartbeats 400000 in
theorem receive_any {w:World} {s:Nat} {F:Nat→Prop} {A:Abs} {d:Int} (S:St w s F A d) {f r:Int} (hf:Wf f) {v hv:Value} {l:List E5} (R:Rd K5 w v l) {h:Hr} (M:HMap w hv h) (hh:okH h) (hl:∀ x∈l,Wf x.2.1∧0≤x.2.2.2.2∧x.2.2.2.2≤3) :
 Calls Tryz.prog 145 #[.pointer (some ⟨s,0,none⟩),.agg #[.int .i64 f,.int .i64 r],v,hv] w (RcvPost w s F d (rcv1 h l f r A)):=by
 have HL:Hid (∀ k,k < l.length→Wf (eat l k).2.1∧0≤(eat l k).2.2.2.2∧(eat l k).2.2.2.2≤3):=fun k hk=>hl _ (Ro.eat_mem hk);have G1:=Lib.hid (fun W (b:Below w.heap.size w W)=>get_st (S.below b) hf r);have ok0:okR (gV A f r):=by
  have hA:=S.okA;unfold gV
  split
  ·exact Fl.okR_z
  ·rename_i e he
   split
   ·exact Fl.okR_at (hA.find he).2.2.1 _
   ·exact Fl.okR_z
 have FIN:Hid (gB A f r=true→(∀ k,k < l.length→(h (eat l k).2.1).isSome=true)→rcv1 h l f r A=sA A f r (mix h l (gV A f r))):=fun hg ha=>by
  unfold rcv1;rw [if_pos];rw [hg,Bool.true_and];unfold allH;rw [List.all_eq_true]
  intro x hx
  obtain ⟨k,hk,e⟩:=List.getElem_of_mem hx;have e':eat l k=x:=by rw [← e];unfold eat;rw [List.getD_eq_getElem?_getD,List.getElem?_eq_getElem hk];rfl
  rw [← e'];exact ha k hk
 have NOG:Hid (gB A f r=false→rcv1 h l f r A=A):=fun hg=>by unfold rcv1;rw [if_neg (by simp [hg])]
 have NOH:Hid (∀ k,k < l.length→h (eat l k).2.1=none→rcv1 h l f r A=A):=fun k hk e=>by
  unfold rcv1;rw [if_neg]
  intro ha
  rw [Bool.and_eq_true] at ha;have:=List.all_eq_true.1 ha.2 _ (Ro.eat_mem hk);rw [e] at this
  cases this
 have SET:=Lib.hid (fun W (b:Below w.heap.size w W)=>set_any (S.below b) hf r (mix h l (gV A f r)) (mix_ok hh l ok0));have SAME:Hid (∀ W,Below w.heap.size w W→rcv1 h l f r A=A→RcvPost w s F d (rcv1 h l f r A) (.returned (.tuple #[])) W):=fun W b e=>⟨rfl,by rw [e];exact S.fx b,Only.of_below b⟩;have END:Hid (∀ W W' x b,Below w.heap.size w W→rcv1 h l f r A=sA A f r x→SetPost W s F d b (sA A f r x) (.returned (.bool b)) W'→RcvPost w s F d (rcv1 h l f r A) (.returned (.tuple #[])) W'):=fun W W' x b hb e ⟨_,q1,q2⟩=>by
  have o:=(Only.of_below (G:=F) hb).trans q2 fun _ _ g=>g
  exact ⟨rfl,by rw [e];exact q1.wide (fun k hk=>by
   rcases hk with hk | ⟨hk,hk2⟩
   ·exact .inl hk
   ·exact .inr ⟨Nat.le_trans hb.size hk,hk2⟩) (Fx.low S.low o.size),o⟩
 have MM:=Lib.hid M;obtain ⟨a,cap,rfl,_,hm,hA⟩:=R;have HA:=Lib.hid hA;unfold maxLen at hm;clear hA hl S M hh ok0;generalize hn:l.length=n at *;have HN:=Lib.hid hn;clear hn;generalize gV A f r=v0 at *;have P0:Hid ((w.alloc (.cells #[.int .i64 f,.int .i64 r] 248)).heap[w.heap.size]? = some (.cells #[.int .i64 f,.int .i64 r] 248 (0,0))):=heap_alloc_new w _;have B0:Hid (Below w.heap.size w (w.alloc (.cells #[.int .i64 f,.int .i64 r] 248))):=(Below.refl w.heap.size w).alloc (Nat.le_refl _) _
 go_enter Tryz.func145,Tryz.ntmps145
 go_wp2_with fail;generalize (w.alloc (.cells #[.int .i64 f,.int .i64 r] 248))=W at *;unfold GetPost at G1;unfold rec4 at G1;refine (G1.out W B0.out).mono ?_;rintro e w1 ⟨rfl,b1⟩;have I0:Hid (RvI w f r w1.heap.size v0 (w1.alloc (.cells #[.int .u8 v0.1,.int .u8 v0.2.1,.int .u8 v0.2.2.1,.int .u8 v0.2.2.2] 42))):=by
  have b2:=B0.out.trans (b1.mono B0.out.size);have p1:=(b1.block _ (lt_of_block P0.out)).trans P0.out;exact ⟨b2.alloc b2.size _,((Below.refl w1.heap.size w1).alloc (Nat.le_refl _) _ |>.block _ (lt_of_block p1)).trans p1,heap_alloc_new w1 _,lt_of_block p1⟩
 clear P0 B0 b1 G1
 cases hg:gB A f r with
 | false =>
   have RES:=Lib.hid (fun W b=>SAME.out W b (NOG.out hg));clear SAME NOG FIN NOH END SET hg;go_wp2;refine bodyPost_ret (results_none rfl _ _ _) rfl ?_;exact RES.out _ I0.out.bel
 | true =>
   have FN:=Lib.hid (FIN.out hg);clear NOG FIN hg;go_upto_region 3 with fail;have hgv:=I0.out.gt;generalize (w1.alloc (.cells #[.int .u8 v0.1,.int .u8 v0.2.1,.int .u8 v0.2.2.1,.int .u8 v0.2.2.2] 42))=W0 at *;generalize w1.heap.size=gv at *;go_wp2
   go_loopw [27] (fun i wr=>∃ k:Nat,k≤n∧i = .int .i64 k∧Hid (RvI w f r gv (mix h (l.take k) v0) wr)∧Hid (∀ j,j < k→(h (eat l j).2.1).isSome=true)) (fun i _=>n - (intOf i).toNat)
   case atStart=>exact ⟨0,Nat.zero_le _,rfl,I0,fun j hj=>by omega⟩
   case round =>
    obtain ⟨k,hk,rfl,I,HS⟩:=hrel;clear I0
    by_cases hlt:k < n
    ·obtain ⟨b,off,rfl,A1⟩:=HA.out (by omega)
     obtain ⟨c0,c1,c2,c3,c4⟩:=at5 (A1.below I.out.bel) k (by have:=HN.out;omega);rw [show l.getD k z5=eat l k from rfl] at c0 c1 c2 c3 c4;obtain ⟨ws,y0,y3⟩:=HL.out k (by have:=HN.out;omega);have MX:=Lib.hid (mix_next (h:=h) (l:=l) (k:=k) (by have:=HN.out;omega) v0);have NH:Hid (h (eat l k).2.1=none→rcv1 h l f r A=A):=fun e=>NOH.out k (by have:=HN.out;omega) e;have SN:Hid ((h (eat l k).2.1).isSome=true→∀ j,j < k+1→(h (eat l j).2.1).isSome=true):=fun g j hj=>by
      by_cases e:j=k
      ·rw [e];exact g
      ·exact HS.out j (by omega)
     clear A1 HS;generalize eat l k=x at *;obtain ⟨q,s',f',r',y⟩:=x;simp only at c0 c1 c2 c3 c4 ws y0 y3 MX NH SN;obtain ⟨j,rfl⟩:∃ j:Nat,y=j:=⟨y.toNat,by omega⟩;have hj:j < 4:=by omega
     have WS:=Lib.hid ws;generalize mix h (l.take k) v0=vv at *;have I1:Hid (RvI w f r gv vv (wr.alloc (.cells #[.int .i64 q,.int .i64 s',.int .i64 f',.int .i64 r',.int .i64 (j:Int)] 87))):=I.out.below ((Below.refl wr.heap.size wr).alloc (Nat.le_refl _) _);have M1:=Lib.hid (MM.out.below I1.out.bel);have hfz:=row_frozen I1.out.cel j;have hcj:=(row_cell I1.out.cel j).trans (arr4_get vv hj);clear ws y0 y3
     cases hs:h s' with
     | none =>
       have RES:=Lib.hid (SAME.out _ I1.out.bel (NH.out hs));clear SAME NH NOH SN MX FN SET END
       go_wp2_with (at_lookup;refine at_heard rfl _ _ rfl rfl M1.out s' rfl WS.out 0 false (by rw [hs];rfl) (by rw [hs];rfl) ?_)
       refine bodyPost_ret (results_none rfl _ _ _) rfl ?_;exact RES.out
     | some y =>
       have SS:=Lib.hid (SN.out (by rw [hs];rfl));have MY:Hid (mix h (l.take (k+1)) v0=rs vv j y):=by rw [MX.out,hs];exact Lib.hid rfl
       have I2:=Lib.hid (I1.out.put hj y);clear NH NOH SN MX
       go_wp2_with (at_lookup;refine at_heard rfl _ _ rfl rfl M1.out s' rfl WS.out y true (by rw [hs];rfl) (by rw [hs];rfl) ?_)
       go_roundw
       case rel=>exact ⟨k+1,by omega,by go_num,by rw [MY.out];exact I2,SS⟩
       case measure=>simp [intOf];omega
    ·obtain rfl:k=n:=by omega
     have TK:l.take k=l:=by rw [← HN.out,List.take_length]
     rw [TK] at I;have EQ:=Lib.hid (FN.out (fun j hj=>HS.out j (by have:=HN.out;omega)));have ED:=Lib.hid (fun W' b q=>END.out wr W' (mix h l v0) b I.out.bel EQ.out q);have ST:=Lib.hid (SET.out wr I.out.bel);have p0:wr.cell? ⟨w.heap.size,0,none⟩=some (.int .i64 f):=row_cell I.out.box 0;have p1:wr.cell? ⟨w.heap.size,1,none⟩=some (.int .i64 r):=row_cell I.out.box 1;have q0:=row_cell I.out.cel 0;have q1:=row_cell I.out.cel 1;have q2:=row_cell I.out.cel 2;have q3:=row_cell I.out.cel 3;unfold arr4 at q0 q1 q2 q3;unfold rec4 at ST;clear HS FN NOH SAME SET END EQ TK;generalize mix h l v0=vv at *;go_wp2_with fail;refine ST.out.mono ?_;rintro e w2 ⟨rfl,q1,q2⟩;have RES:=Lib.hid (ED.out w2 false ⟨rfl,q1,q2⟩);clear q1 q2 ED;go_wp2
     go_end0
     exact RES.out
end Go.Proofs.YtljnkaodhfnbbaaGreatDoor.Pa
namespace Go.Proofs.YtljnkaodhfnbbaaGreatDoor.Pa
open Go.RowKit Go.Maps
open Fs (Abs St Only Fx Wf Rh gB gV sA sB dA dD dE OkA copy_any CopySt dos_any DoSPost Glob rd_only)
open Rw (Rd Ow At)
open Ro (E5 z5 eat K5 at5 okE ent okE_bounds)
open Fl (R4 z4 rec4 okR arr4 row_cell row_frozen)
attribute [local irreducible] Sd.wpSd wpQuiet
theorem ranges_kept {w w':World} {b r n:Nat} {D:DataW Value} {left:Lit→Bool} {cnt:Nat} (h:w.ranges Tryz.prog 248 Rh b r n D left cnt) (hb:w'.heap[b]? = w.heap[b]?) (hr:w'.heap[r]? = w.heap[r]?):w'.ranges Tryz.prog 248 Rh b r n D left cnt:=by
 obtain ⟨es,clock,since,seen,c0,q1,q2,q3,q4,q5,q6⟩:=h;exact ⟨es,clock,since,seen,c0,hb.trans q1,q2,q3,q4,hr.trans q5,q6⟩
def Vis (t:List E5) (left:Lit→Bool) (n k:Int):Bool:=decide (grp t n k≠[]) && !left (pk n k)
structure Fixed (w:World) (t:List E5) (b r N B0 B1:Nat) (vs:Int→Int→Value) (D:DataW Value):Prop where
 has:∀ f r,Wf f→Wf r→Maps.has D (pk f r)=decide (grp t f r≠[])
 val:∀ f r,Wf f→Wf r→grp t f r≠[]→∀ z,D.atKey (pk f r) z = .held (vs f r)
 in_:∀ f r k,(vs f r).ownBlock=some k→B0≤k∧k < B1
 inb:B0≤b∧b < B1
 inr:B0≤r∧r < B1
 le:w.heap.size≤B0
structure AI (w:World) (t:List E5) (h:Hr) (A:Abs) (d:Int) (b r N B0 B1:Nat) (vs:Int→Int→Value) (D:DataW Value) (g:Nat) (wr:World) (left:Lit→Bool) (cnt:Nat) (F:Nat→Prop):Prop where
 rg:wr.ranges Tryz.prog 248 Rh b r N D left cnt
 has:∀ kl,left kl=true→Maps.has D kl=true
 st:St wr g F (recV h t (Vis t left) A) d
 row:∀ f r,Rd K5 wr (vs f r) (grp t f r)
 lo:∀ k,F k→w.heap.size≤k
 off:∀ k,F k→k < B0∨B1≤k
 sz:B1≤wr.heap.size
 bel:Below w.heap.size w wr
def ApPost (w:World) (x:Abs×Int) (e:Ending) (w':World):Prop:=∃ g F,e = .returned (ptr g)∧St w' g F x.1 x.2∧(∀ k,F k→w.heap.size≤k)∧Below w.heap.size w w'
theorem grp_wf {t:List E5} (ok:∀ x∈t,okE x) {n k:Int} (h:grp t n k≠[]):Wf n∧Wf k:=by
 obtain ⟨x,hx⟩:=List.exists_mem_of_ne_nil _ h;obtain ⟨h1,h2⟩:=List.mem_filter.1 hx;obtain ⟨_,_,q1,q2,_⟩:=okE_bounds (ok x h1);simp only [mt,decide_eq_true_eq] at h2;rw [← h2.2.1,← h2.2.2];exact ⟨wf_of (by omega),wf_of (by omega)⟩
theorem grp_y {t:List E5} (ok:∀ x∈t,okE x) (n k:Int):okY (grp t n k):=fun x hx=>by
 obtain ⟨_,_,_,_,q⟩:=okE_bounds (ok x (List.mem_filter.1 hx).1);exact q
theorem grp_r {t:List E5} (ok:∀ x∈t,okE x) {n k:Int} (h:grp t n k≠[]):k≠0:=by
 obtain ⟨x,hx⟩:=List.exists_mem_of_ne_nil _ h;obtain ⟨h1,h2⟩:=List.mem_filter.1 hx;simp only [mt,decide_eq_true_eq] at h2;have:=ok x h1;unfold okE Ro.place at this
 omega
theorem grp_h {t:List E5} (ok:∀ x∈t,okE x) (n k:Int):∀ x∈grp t n k,Wf x.2.1∧0≤x.2.2.2.2∧x.2.2.2.2≤3:=fun x hx=>by
 obtain ⟨_,q1,_,_,q⟩:=okE_bounds (ok x (List.mem_filter.1 hx).1);exact ⟨wf_of (by omega),q⟩
theorem vis_next {t:List E5} (ok:∀ x∈t,okE x) {left:Lit→Bool} {f r:Int} (hf:Wf f) (hr:Wf r) (hl:left (pk f r)=true) (hg:grp t f r≠[]) {h:Hr} {A:Abs} (hA:OkA A) :
 rcv1 h (grp t f r) f r (recV h t (Vis t left) A)=recV h t (Vis t fun z=>left z && !z.sameKey (pk f r)) A:=by
 rw [rcv1_next hA (grp_r ok hg) (grp_y ok f r)];refine rec_congr fun n k hnk=>?_;obtain ⟨hn,hk⟩:=grp_wf ok hnk;unfold also Vis
 by_cases e:n=f∧k=r
 ·obtain ⟨rfl,rfl⟩:=e
  have:(pk n k).sameKey (pk n k)=true:=by simp [pk,Lit.sameKey]
  simp [hnk,this]
 ·have:(pk n k).sameKey (pk f r)=false:=sameKey_ne fun e2=>e (pk_inj hn hk hf hr e2)
  simp [this,e]
theorem vis_start {t:List E5} (ok:∀ x∈t,okE x) {D:DataW Value} (hD:∀ f r,Wf f→Wf r→Maps.has D (pk f r)=decide (grp t f r≠[])) (h:Hr) (A:Abs):recV h t (Vis t (Maps.has D)) A=A:=by
 rw [rec_congr (V':=fun _ _=>false) fun n k hnk=>?_]
 ·exact rec_none fun _ _=>rfl
 ·obtain ⟨hn,hk⟩:=grp_wf ok hnk
  unfold Vis;rw [hD n k hn hk]
  simp [hnk]
theorem vis_end {t:List E5} {left:Lit→Bool} (hl:∀ kl,left kl=false) (h:Hr) (A:Abs):recV h t (Vis t left) A=recA h t A:=rec_all fun n k hnk=>by
 unfold Vis;rw [hl]
 simp [hnk]
theorem copy_has {w:World} {s:Nat} {x:Abs×Int} (H:Has w s x):Calls Tryz.prog 84 #[.pointer (some ⟨s,0,none⟩)] w (CopySt w x.1 x.2):=by
 obtain ⟨F,S⟩:=H;exact copy_any S
theorem glob_lt {w:World} (hg:Glob w):1 < w.heap.size:=World.block_lt_of_cell? _ _ hg
structure XI (w:World) (g:Nat) (x:Abs×Int) (wr:World) (F:Nat→Prop):Prop where
 st:St wr g F x.1 x.2
 lo:∀ k,F k→w.heap.size≤k
 bel:Below w.heap.size w wr
theorem XI.below {w:World} {g:Nat} {x:Abs×Int} {wr wr':World} {F:Nat→Prop} (h:XI w g x wr F) (b:Below wr.heap.size wr wr'):XI w g x wr' F:=⟨h.st.below b,h.lo,h.bel.trans (b.mono h.bel.size)⟩
theorem XI.step {w:World} {g:Nat} {x:Abs×Int} {wr wr':World} {F:Nat→Prop} (h:XI w g x wr F) {x':Abs×Int} (st:St wr' g (Fx F wr wr') x'.1 x'.2) (o:Only F wr wr'):XI w g x' wr' (Fx F wr wr') :=
 ⟨st,fun k hk=>by
  rcases hk with hk | ⟨hk,_⟩
  ·exact h.lo k hk
  ·exact Nat.le_trans h.bel.size hk,h.bel.trans (o.below h.bel.size h.lo)⟩
theorem AI.step {w:World} {t:List E5} {h:Hr} {A A':Abs} {d:Int} {b r N B0 B1:Nat} {vs:Int→Int→Value} {D:DataW Value} {g:Nat} {wr w1 w2:World} {left left':Lit→Bool} {cnt cnt':Nat} {F:Nat→Prop}
 (I:AI w t h A d b r N B0 B1 vs D g wr left cnt F) (X:Fixed w t b r N B0 B1 vs D) (rg:w1.ranges Tryz.prog 248 Rh b r N D left' cnt') (has:∀ kl,left' kl=true→left kl=true) (g1:wr.grownBy w1 (some r)) (st:St w2 g (Fx F w1 w2) A' d) (o:Only F w1 w2) (e:A'=recV h t (Vis t left') A) :
 AI w t h A d b r N B0 B1 vs D g w2 left' cnt' (Fx F w1 w2):=by
 have off:∀ k,B0≤k→k < B1→¬ F k:=fun k h0 h1 hk=>by rcases I.off k hk with h | h <;> omega
 have z1:=g1.size;have hs:=I.sz;have ib:=X.inb;have ir:=X.inr;have le:=X.le;have eb:=o.block b (by omega) (off b ib.1 ib.2);have er:=o.block r (by omega) (off r ir.1 ir.2);have bw1:Below w.heap.size w w1:=I.bel.grown g1 I.bel.size (fun j hj=>by injection hj with hj;omega);refine ⟨ranges_kept rg eb er,fun kl hl=>I.has kl (has kl hl),by rw [← e];exact st,fun f r'=>?_,fun k hk=>?_,fun k hk=>?_,Nat.le_trans (Nat.le_trans hs z1) o.size,bw1.trans (o.below bw1.size I.lo)⟩
 ·have R:=I.row f r'
  obtain ⟨es,clock,since,seen,c0,_,_,_,_,hr,_⟩:=I.rg
  have R1:=rd_only R (G:=fun k=>k=r) (fun h0 k hk e=>by
   subst e;obtain ⟨a,cap,ea,_,_,h3⟩:=R;obtain ⟨b',off',rfl,hA⟩:=h3 h0;rw [ea] at hk;obtain rfl:b'=k:=by simpa [Value.ownBlock] using hk
   have c:=hA 0 h0 0 _ rfl
   simp [World.cell?,hr] at c) (Only.grown rfl g1)
  exact rd_only R1 (fun h0 k hk=>off k (X.in_ f r' k hk).1 (X.in_ f r' k hk).2) o
 ·rcases hk with hk | ⟨hk,_⟩
  ·exact I.lo k hk
  ·exact Nat.le_trans bw1.size hk
 ·rcases hk with hk | ⟨hk,_⟩
  ·exact I.off k hk
  ·exact .inr (by omega)
set_option maxHeartbeats 400000 in
theorem apply_any {w:World} {s:Nat} {x:Abs×Int} (H:Has w s x) (hg:Glob w) (hd:0≤x.2∧x.2 < 900000) {v hv:Value} {t:List E5} (R:Rd K5 w v t) (ok:∀ y∈t,okE y) (hl:t.length≤100) {h:Hr} (M:HMap w hv h) (hh:okH h) :
 Calls Tryz.prog 82 #[.pointer (some ⟨s,0,none⟩),v,hv] w (ApPost w (apS h t x)):=by
 have HG:=Lib.hid hg;have C0:=Lib.hid (copy_has H);have RR:=Lib.hid R;have MM:=Lib.hid M;have hA:=Lib.hid H.okA;obtain ⟨A,d⟩:=x;unfold CopySt at C0;simp only at C0 hd hA;obtain ⟨a,cap,rfl,_,hm,hA0⟩:=R;have HA0:=Lib.hid hA0;clear hA0;unfold maxLen at hm;clear H M hg;generalize hn:t.length=n at *;have HN:=Lib.hid hn;have OKT:=Lib.hid ok;have HH:=Lib.hid hh;clear hn ok hh
 go_enter Tryz.func82,Tryz.ntmps82
 go_wp2_with fail;refine C0.out.mono ?_;rintro e w1 ⟨g,F1,rfl,s1,lo1,b1⟩;have S1:=Lib.hid s1;have LO1:=Lib.hid lo1;have B1:=Lib.hid b1;clear s1 lo1 b1 C0;have RC:=Lib.hid (received_any w1 _ t (RR.out.below B1.out) OKT.out (by have:=HN.out;omega));go_wp2_with fail;refine RC.out.mono ?_;rintro e w2 ⟨b,N,vs,D,rfl,gm,hb,hN,b2⟩;have GM:=Lib.hid gm;have B2:=Lib.hid b2;have own2:=gm.own;have HB:=Lib.hid (And.intro hb hN);clear gm b2 RC hb hN
 go_wp2_with (first
  | (at_range;refine wpList_range_own _ rfl _ 245 rfl 248 85 keyedP Tryz.underlying245 _ b N _ rfl own2 ?_;intro w0 hrg0 hg0 hs0)
  | fail)
 go_frame
 have hz1:=B1.out.size;have hz2:=B2.out.size;have FX:Hid (Fixed w t b w2.heap.size N w1.heap.size w0.heap.size vs D):=Lib.hid ⟨GM.out.has,GM.out.val,fun f r k hk=>by have:=World.ownsRow.lt (GM.out.row f r) k hk;have:=HB.out.1;omega,⟨HB.out.1,by have:=GM.out.own.lt;omega⟩,⟨hz2,by omega⟩,hz1⟩;have G0:Hid (Below w2.heap.size w2 w0):=Lib.hid ((Below.refl _ _).grown hg0 (Nat.le_refl _) (fun j hj=>by cases hj));have I0:Hid (AI w t h A d b w2.heap.size N w1.heap.size w0.heap.size vs D g w0 (Maps.has D) (Maps.size D) F1):=Lib.hid
  ⟨hrg0,fun kl hk=>hk,by rw [vis_start OKT.out GM.out.has];exact (S1.out.below B2.out).below G0.out,fun f r=>((GM.out.row f r).rd).below G0.out,LO1.out,fun k hk=>.inl (S1.out.low k hk),Nat.le_refl _,(B1.out.trans (B2.out.mono hz1)).trans (G0.out.mono (by omega))⟩
 clear hrg0 hg0 hs0 own2 G0 GM B1 B2 S1 LO1 hz1 hz2 HB;generalize w2.heap.size=r0 at *;generalize w1.heap.size=B0 at *;generalize w0.heap.size=B1 at *
 go_loopw [9] (fun _ wr=>∃ left cnt F,Hid (AI w t h A d b r0 N B0 B1 vs D g wr left cnt F)) (fun _ wr=>wr.rangeLeft b r0)
 case atStart=>exact ⟨_,_,_,I0⟩
 case round =>
  obtain ⟨left,cnt,F,I⟩:=hrel;clear I0;have hrg:=I.out.rg
  go_wp2_with (first
   | (at_next;refine wpList_next_ranges _ rfl _ rfl 248 keyedP Rh (fun p:Int×Int=>plc p.1 p.2) id (fun key kl hkey=>by obtain ⟨f,r,e,_⟩:=keyP_inv hkey;exact ⟨(f,r),e⟩) (fun v y _=>⟨v,rfl⟩) b r0 N _ _ _ rfl hrg ?_ ?_)
   | fail)
  ·intro hc0 hl0
   have SA:Hid (Has wr g (recA h t A,d)):=Lib.hid ⟨F,by have:=I.out.st;rwa [vis_end hl0] at this⟩;have XI0:Hid (XI w g (exU t (recA h t A,d) 0) wr F):=Lib.hid ⟨by have:=I.out.st;rwa [vis_end hl0] at this,I.out.lo,I.out.bel⟩;have XD:=Lib.hid (fun k=>exU_d (t:=t) (recA h t A,d) k);have XE:=Lib.hid (exU_end (t:=t) h (A,d));have XY:=Lib.hid (fun k hk h3=>exU_yes (t:=t) (recA h t A,d) (j:=k) hk h3);have XN:=Lib.hid (fun k hk h3=>exU_no (t:=t) (recA h t A,d) (j:=k) hk h3);clear SA hl0 hrg FX I;generalize recA h t A=RA at *;go_wp2;clear hc0 cnt left
   go_loopw [29] (fun i wr=>∃ (k:Nat) (F:Nat→Prop),k≤n∧i = .int .i64 k∧Hid (XI w g (exU t (RA,d) k) wr F)) (fun i _=>n - (intOf i).toNat)
   case atStart=>exact ⟨0,F,Nat.zero_le _,rfl,XI0⟩
   case round =>
    rename_i wr0 wr
    obtain ⟨k,F',hk,rfl,I⟩:=hrel;clear XI0
    by_cases hlt:k < n
    ·obtain ⟨b1,off,rfl,A1⟩:=HA0.out (by omega)
     obtain ⟨c0,c1,c2,c3,c4⟩:=at5 (A1.below I.out.bel) k (by have:=HN.out;omega);rw [show t.getD k z5=eat t k from rfl] at c0 c1 c2 c3 c4;have okx:=OKT.out _ (Ro.eat_mem (l:=t) (i:=k) (by have:=HN.out;omega));have Y3:=Lib.hid (XY.out k (by have:=HN.out;omega));have N3:=Lib.hid (XN.out k (by have:=HN.out;omega));have DD:=XD.out k;generalize eat t k=x at *;obtain ⟨q,s',f',r',y⟩:=x;simp only at c0 c1 c2 c3 c4 Y3 N3;have I1:=Lib.hid (I.out.below ((Below.refl wr.heap.size wr).alloc (Nat.le_refl _) (.cells #[.int .i64 q,.int .i64 s',.int .i64 f',.int .i64 r',.int .i64 y] 87)));clear A1 I
     by_cases h3:q=3
     ·subst h3
      have Y4:=Lib.hid (Y3.out rfl);have DO:=Lib.hid (dos_any I1.out.st (HG.out.below I1.out.bel) (fun hk=>by have:=I1.out.lo _ hk;have:=glob_lt HG.out;omega) (by have:=HN.out;omega) 2 f' r' z4 Fl.okR_z);unfold Ad.addr rec4 z4 at DO;clear Y3 N3 okx DD;go_wp2_with fail;refine DO.out.mono ?_;rintro e w5 ⟨rfl,q1,q2⟩;have I2:=Lib.hid (I1.out.step (x':=exU t (RA,d) (k+1)) (by rw [Y4.out];exact q1) q2);clear q1 q2 DO I1;go_wp2
      go_roundw
      case rel=>exact ⟨k+1,_,by omega,by go_num,I2⟩
      case measure=>simp [intOf];omega
     ·have d3:(q == 3)=false:=by simpa using h3
      have N4:=N3.out h3;have I2:Hid (XI w g (exU t (RA,d) (k+1)) (wr.alloc (.cells #[.int .i64 q,.int .i64 s',.int .i64 f',.int .i64 r',.int .i64 y] 87)) F'):=by rw [N4];exact I1
      clear Y3 N3 okx DD N4 I1;go_wp2
      go_roundw
      case rel=>exact ⟨k+1,_,by omega,by go_num,I2⟩
      case measure=>simp [intOf];omega
    ·obtain rfl:k=n:=by omega
     have RES:Hid (ApPost w (apS h t (A,d)) (.returned (ptr g)) wr):=Lib.hid ⟨g,F',rfl,by have:=I.out.st;rw [← HN.out] at this;rw [← XE.out];exact this,I.out.lo,I.out.bel⟩;go_wp2
     go_ret
     exact RES.out
  ·intro f r u kl y y2 w1 cnt1 hkey hlk hv hat hrg1 hlt hg1 hs1 hen
   obtain ⟨f',r',e1,hf,hr⟩:=keyP_inv hkey;obtain ⟨rfl,rfl⟩:f=f'∧r=r':=by
    unfold plc at e1;injection e1 with e1;have h1:=congrArg (fun t:Array Value=>t[0]?) e1;have h2:=congrArg (fun t:Array Value=>t[1]?) e1
    simp at h1 h2
    exact ⟨h1,h2⟩
   obtain rfl:kl=pk f r:=by
    have:=keyP hf hr;rw [hkey] at this;exact Option.some.inj this
   have hg:=I.out.has _ hlk;rw [FX.out.has f r hf hr,decide_eq_true_eq] at hg;have hv':u=vs f r:=by
    obtain ⟨h2,_⟩:DataW.held u=y∧[]=y2:=by simpa [Rh] using hv
    have h1:=hat .nil;rw [FX.out.val f r hf hr hg,← h2] at h1;injection h1 with h1;exact h1.symm
   subst hv';have hsz:=I.out.sz;have g1:=hg1;have bw1:Below w.heap.size w w1:=I.out.bel.grown hg1 I.out.bel.size (fun j hj=>by injection hj with hj;have:=FX.out.inr.1;have:=FX.out.le;omega);have off:∀ k,B0≤k→k < B1→¬ F k:=fun k h0 h1 hk=>by rcases I.out.off k hk with h | h <;> omega
   have st1:St w1 g F (recV h t (Vis t left) A) d:=I.out.st.only (G:=fun k=>k=r0) (fun k hk e=>by subst e;exact off k FX.out.inr.1 FX.out.inr.2 hk) (Only.grown rfl hg1)
   have R1:Rd K5 w1 (vs f r) (grp t f r):=rd_only (I.out.row f r) (G:=fun k=>k=r0) (fun h0 k hk e=>by
    subst e;obtain ⟨es,clock,since,seen,c0,_,_,_,_,hr0,_⟩:=I.out.rg;obtain ⟨a',cap',ea,_,_,h3⟩:=I.out.row f r;obtain ⟨b',off',rfl,hA'⟩:=h3 h0;rw [ea] at hk;obtain rfl:b'=k:=by simpa [Value.ownBlock] using hk
    have c:=hA' 0 h0 0 _ rfl
    simp [World.cell?,hr0] at c) (Only.grown rfl hg1)
   have bx:Below w1.heap.size w1 (w1.alloc (.cells #[.int .i64 f,.int .i64 r] 248)):=(Below.refl _ _).alloc (Nat.le_refl _) _;have RV:=Lib.hid (receive_any (st1.below bx) hf (r:=r) (R1.below bx) ((MM.out.below bw1).below bx) HH.out (grp_h OKT.out f r));have EQ:Hid (rcv1 h (grp t f r) f r (recV h t (Vis t left) A)=recV h t (Vis t fun z=>left z && !z.sameKey (pk f r)) A):=Lib.hid (vis_next OKT.out hf hr hlk hg hA.out);have STEP:Hid (∀ w3 A',St w3 g (Fx F w1 w3) A' d→Only F w1 w3→A'=recV h t (Vis t fun z=>left z && !z.sameKey (pk f r)) A→AI w t h A d b r0 N B0 B1 vs D g w3 (fun z=>left z && !z.sameKey (pk f r)) cnt1 (Fx F w1 w3)):=Lib.hid (fun w3 A' st o e=>I.out.step FX.out hrg1 (fun kl hl=>by simp at hl;exact hl.1) hg1 st o e);have BX:=Lib.hid bx;have LT:=Lib.hid hlt;have RG:=Lib.hid I.out.rg;obtain ⟨au,cu,ev,_⟩:=R1.slice;rw [ev] at hen RV ⊢;generalize (grp t f r).length=gl at *;unfold plc at hen ⊢;clear st1 R1 bx off bw1 hrg1 hlt hg1 g1 hs1 hat hv hlk hkey hg hrg hsz I e1 ev;go_wp2_with fail;refine RV.out.mono ?_;rintro e w3 ⟨rfl,q1,q2⟩;have o3:=(Only.of_below (G:=F) BX.out).trans q2 fun _ _ g=>g
   have NEW:=Lib.hid (STEP.out w3 _ (by
    refine q1.wide (fun k hk=>?_) (fun k hk=>?_)
    ·rcases hk with hk | ⟨hk,hk2⟩
     ·exact .inl hk
     ·exact .inr ⟨Nat.le_trans BX.out.size hk,hk2⟩
    ·rcases hk with hk | ⟨_,hk⟩
     ·exact q1.low k (.inl hk)
     ·exact hk) o3 EQ.out)
   have MS:Hid (w3.rangeLeft b r0 < wr.rangeLeft b r0):=by
    show _ < _
    rw [NEW.out.rg.left_eq,RG.out.left_eq];exact LT.out
   clear q1 q2 o3 STEP EQ RG LT RV hen;go_wp2
   go_roundw
   case rel=>exact ⟨_,_,_,NEW⟩
   case measure=>exact MS.out
end Go.Proofs.YtljnkaodhfnbbaaGreatDoor.Pa
