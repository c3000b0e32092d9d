import Derived.Test.YtelgnhmcnfibnaaDoorMg2
import Derived.LoopTactic
import Derived.Outline
import Derived.Maps.OwnOps
import Derived.Test.YtelgnhmcnfibnaaDoorMg1
import Derived.Deep.Cut
import Derived.WalkSpells
import Derived.Test.YtelgnhmcnfibnaaDoorChecked
import Derived.WalkKit
import Derived.LaidEql
import Derived.Stop.Asserts
import Derived.Stop.IfaceNil
import Derived.RowKitTokens
import Derived.Lib.IfaceEq
import Derived.Lib.Hide
set_option maxRecDepth 100000
namespace Go.Proofs.YtelgnhmcnfibnaaDoor.Fs
open Go.RowKit Go.Maps
open Fl (R4 z4 K4 rec4 rat goodF goodFB okR okL doE newR file arr4 sto2 sto4 sto2_row sto2_other sto2_below sto2_size sto2_off sto4_row sto4_other sto4_below sto4_size row_cell row_frozen clone_any own_form ret_bool at4)
open Rw (Rd Ow At)
theorem results_rec {fn:Func} {p r:Tmp} (h:fn.results=#[.cell p 26,.tmp r]) (tmps:Array Value) (w:World) (g:Nat) (y:R4) (v:Value)
 (hp:tmps.getD p undef = .pointer (some ⟨g,0,none⟩)) (hr:tmps.getD r undef=v) (h1:w.heap[g]? = some (.cells (arr4 y) 26 (0,0))) :
 (results fn tmps).run Tryd.prog w = .ok (.tuple #[rec4 y,v]) w:=by
 have e2:=run_loadVar_row (P:=Tryd.prog) w g 26 26 (arr4 y) (0,0) _ h1 Tryd.underlying26 rfl (by show _=some 4;kernel_rfl);have hp':tmps[p]?.getD undef = .pointer (some ⟨g,0,none⟩):=by simpa using hp
 have hr':tmps[r]?.getD undef=v:=by simpa using hr
 simp only [results,h]
 simp [Result.andThen,hp',hr',asAddr,e2,rec4,arr4]
section
variable {ops:Array Oper} {rest:List Oper} {o:Oper} {a:Act} {Q:Exit→Act→World→Prop} {w:World} {F:Nat→Prop} {m:Value} {C:List Ent}
theorem at_look0 (hgd:Region.wanted o (yielded ops a.tmps)=true) (p x:Operand) (hop:o.op = .lookup 54 p x false) (M:Mp w F m C) (hm:a.eval p=m) (n:Int) (hx:a.eval x = .int .i64 n) (hn:Wf n) (v:Value) (hv:lv C n=v)
 (h:wpList Tryd.prog ops Q rest (a.put o.dst v) w):wpList Tryd.prog ops Q (o :: rest) a w:=at_look hgd p x false hop hm M n hx hn (by rw [hv];exact h)
theorem at_look1 (hgd:Region.wanted o (yielded ops a.tmps)=true) (p x:Operand) (hop:o.op = .lookup 54 p x true) (M:Mp w F m C) (hm:a.eval p=m) (n:Int) (hx:a.eval x = .int .i64 n) (hn:Wf n) (v:Value) (hv:lv C n=v) (b:Bool) (hb:lb C n=b)
 (h:wpList Tryd.prog ops Q rest (a.put o.dst (.tuple #[v,.bool b])) w):wpList Tryd.prog ops Q (o :: rest) a w:=at_look hgd p x true hop hm M n hx hn (by rw [hv,hb];exact h)
end
theorem lv_none {C:List Ent} {n:Int} (h:look Ent.n n C=none):lv C n = .agg #[.int .i64 0,.slice none 0 0]:=by unfold lv;rw [h];rfl
theorem lv_some {C:List Ent} {n:Int} {c:Ent} (h:look Ent.n n C=some c):lv C n = .agg #[.int .i64 c.p,.slice c.a c.l.length c.cap]:=by unfold lv;rw [h];rfl
theorem lb_none {C:List Ent} {n:Int} (h:look Ent.n n C=none):lb C n=false:=by unfold lb;rw [h];rfl
theorem lb_some {C:List Ent} {n:Int} {c:Ent} (h:look Ent.n n C=some c):lb C n=true:=by unfold lb;rw [h];rfl
theorem run_fieldF (p:Int) (a:Option Addr) (n cap:Nat) (w:World):(Instr.field 46 (.agg #[.int .i64 p,.slice a n cap]) 1).run Tryd.prog w = .ok (.slice a n cap) w:=by kernel_rfl
def CopyPost (w:World) (p:Int) (l:List R4) (e:Ending) (w':World):Prop:=∃ u,e = .returned (file p u)∧Ow K4 w' w.heap.size 26 u l∧Below w.heap.size w w'
theorem two_files (w:World) (p:Int) (v:Value) (q:Int) (u:Value):((w.alloc (.cells #[.int .i64 p,v] 46)).alloc (.cells #[.int .i64 q,u] 46)).heap[w.heap.size]? = some (.cells #[.int .i64 p,v] 46 (0,0))∧((w.alloc (.cells #[.int .i64 p,v] 46)).alloc (.cells #[.int .i64 q,u] 46)).heap[w.heap.size+1]? = some (.cells #[.int .i64 q,u] 46 (0,0))∧Below w.heap.size w ((w.alloc (.cells #[.int .i64 p,v] 46)).alloc (.cells #[.int .i64 q,u] 46))∧((w.alloc (.cells #[.int .i64 p,v] 46)).alloc (.cells #[.int .i64 q,u] 46)).heap.size=w.heap.size+2:=by
 refine ⟨(Below.heap_alloc _ _ _ (by simp)).trans (heap_alloc_new w _),?_,((Below.refl w.heap.size w).alloc (Nat.le_refl _) _).alloc (by simp) _,by simp⟩;have:=heap_alloc_new (w.alloc (.cells #[.int .i64 p,v] 46)) (.cells #[.int .i64 q,u] 46)
 simpa using this
def Bx (g:Nat) (p:Int) (v:Value) (W:World):Prop:=W.heap[g]? = some (.cells #[.int .i64 p,v] 46 (0,0))
set_option maxHeartbeats 1000000 in
theorem copied_any (w:World) (p:Int) (v:Value) (l:List R4) (R:Rd K4 w v l) (hl:l.length≤260):Calls Tryd.prog 14 #[file p v] w (CopyPost w p l):=by
 obtain ⟨h1,h2,hB,hz⟩:=two_files w p v 0 (.slice none 0 0);have H1:=Lib.hid h1;have H2:=Lib.hid h2;have HB:=Lib.hid hB;have HZ:=Lib.hid hz;have RR:=Lib.hid R;have HL:=Lib.hid hl;obtain ⟨a,cap,rfl,_⟩:=R.slice;clear h1 h2 hB hz R hl;generalize hn:l.length=n at *;have HN:=Lib.hid hn;clear hn;unfold file at *
 go_enter Tryd.func14,Tryd.ntmps14
 go_wp2_with fail;generalize ((w.alloc (.cells #[.int .i64 p,.slice a n cap] 46)).alloc (.cells #[.int .i64 0,.slice none 0 0] 46))=W at *;have r0:=Sc.cell_in (C:=Bx w.heap.size p (.slice a n cap)) (a:=⟨w.heap.size,0,none⟩) (fun W' h=>row_cell h 0);have r1:=Sc.cell_in (C:=Bx w.heap.size p (.slice a n cap)) (a:=⟨w.heap.size,1,none⟩) (fun W' h=>row_cell h 1);have C0:Bx w.heap.size p (.slice a n cap) W.drew:=H1.out;have ne:Nonempty (Sc.In (Bx w.heap.size p (.slice a n cap))):=⟨⟨_,C0⟩⟩;refine Sc.start (Bx w.heap.size p (.slice a n cap)) [(false,0),(false,1),(false,2),(false,3),(true,4),(false,5),(true,6)] (by kernel_rfl) (by kernel_rfl) (by kernel_rfl) C0 ?_;dsimp only [Sd.picks,List.getElem?_cons_succ,List.getElem?_cons_zero]
 repeat (refine Sd.lit ?_;quiet_step (fail);refine wpQuiet_nil ?_)
 refine Sd.call (by rfl) (fun K hK=>?_);go_simp;have B0:=Lib.hid (HB.out.trans (((Below.refl W.heap.size W).drew).mono HB.out.size));refine (clone_any _ _ l (RR.out.below B0.out) (by rw [HN.out];exact HL.out)).mono ?_;rintro e w2 ⟨u,rfl,o2,b2⟩;have hzz:=HZ.out;have O2:=Lib.hid o2;have B2:=Lib.hid (B0.out.trans (b2.mono (by show w.heap.size≤W.heap.size;omega)));have G1:w2.heap[w.heap.size]? = _:=(b2.block _ (by show w.heap.size < W.heap.size;omega)).trans C0;have G2:=(b2.block (w.heap.size+1) (by show w.heap.size+1 < W.heap.size;omega)).trans H2.out;have N2:u.ownBlock≠some (w.heap.size+1):=o2.range (.inl (by show _ < W.heap.size;omega));have hWz:w.heap.size+2≤W.drew.heap.size:=by show _≤W.heap.size;omega
 obtain ⟨au,cu,rfl,_⟩:=o2.slice;refine hK _ _ (Sc.Cl.of G1) ?_;clear hK K b2 o2 B0 C0 HB H1 H2 r0 r1 RR
 repeat (refine Sd.lit ?_;quiet_step (fail);refine wpQuiet_nil ?_)
 refine Sd.call (by rfl) (fun K hK=>?_);have c0:w2.cell? ⟨w.heap.size+1,0,none⟩=some (.int .i64 0):=row_cell G2 0;have c1:w2.cell? ⟨w.heap.size+1,1,none⟩=some (.slice none 0 0):=row_cell G2 1;have f0:=row_frozen G2 0;have f1:=row_frozen G2 1;have RA:=Lib.hid (sto2_row G2 p (.slice au l.length cu));have OA:=Lib.hid (sto2_off (u:=.slice au l.length cu) O2.out N2 p);have BA:=Lib.hid (sto2_below (p:=p) (v:=.slice au l.length cu) B2.out (show w.heap.size≤w.heap.size+1 by omega));have L1:Bx w.heap.size p (.slice a n cap) (sto2 w2 (w.heap.size+1) p (.slice au l.length cu)):=sto2_other G1 (by omega);have hWy:=Lib.hid hWz;clear G1 G2 O2 B2 N2 hWz hzz HZ;go_simp;refine hK _ _ (Sc.Cl.of L1) ?_;clear hK K c0 c1 f0 f1
 show Sd.wpSd _ _ _ _ _ _ (sto2 w2 (w.heap.size+1) p (.slice au l.length cu))
 generalize sto2 w2 (w.heap.size+1) p (.slice au l.length cu)=w3 at *;refine Sd.done ?_;go_wp2
 (try simp only [Exit.inBlock,Exit.then])
 refine bodyPost_ret (v:=file p (.slice au l.length cu)) ?_ rfl ⟨_,rfl,OA.out.low (by have:=hWy.out;omega),BA.out⟩;exact results_cell_row (p:=2) rfl _ _ (w.heap.size+1) 46 _ (0,0) _ rfl RA.out Tryd.underlying46 rfl (by show _=some 2;kernel_rfl)
theorem new_any (w:World):Calls Tryd.prog 9 #[] w fun e w'=>e = .returned (.pointer (some ⟨w.heap.size,0,none⟩))∧w'=w.alloc (.cells #[.map none,.int .i64 0] 56):=by
 go_enter Tryd.func9,Tryd.ntmps9
 go_wp2
 go_ret
 exact ⟨rfl,rfl⟩
end Go.Proofs.YtelgnhmcnfibnaaDoor.Fs
namespace Go.Proofs.YtelgnhmcnfibnaaDoor.Ad
open Go.RowKit
def Lead (o n:Int) (k:Bool):Prop:=o=0∧n=0∧k=true∨o=1∧n=64∧k=true∨o=2∧n=128∧k=true∨(o < 0∨2 < o)∧n=0∧k=false
set_option maxHeartbeats 400000 in
theorem lead_any (w:World) (o n:Int) (k:Bool) (h:Lead o n k):Calls Tryd.prog 47 #[.int .i64 o] w fun e w'=>e = .returned (.tuple #[.int .i64 n,.bool k])∧Below w.heap.size w w':=by
 rcases h with ⟨rfl,rfl,rfl⟩ | ⟨rfl,rfl,rfl⟩ | ⟨rfl,rfl,rfl⟩ | ⟨h | h,rfl,rfl⟩
 all_goals
  go_enter Tryd.func47,Tryd.ntmps47
  go_wp2
  go_ret2
  exact ⟨rfl,Below.refl _ _⟩
theorem lead_good {o:Int} (h1:0≤o) (h2:o≤2):Lead o (64 * o) true:=by
 unfold Lead
 rcases (by omega:o=0∨o=1∨o=2) with rfl | rfl | rfl
 ·exact .inl ⟨rfl,rfl,rfl⟩
 ·exact .inr (.inl ⟨rfl,rfl,rfl⟩)
 ·exact .inr (.inr (.inl ⟨rfl,rfl,rfl⟩))
theorem lead_bad {o:Int} (h:¬ (0≤o∧o≤2)):Lead o 0 false:=.inr (.inr (.inr ⟨by omega,rfl,rfl⟩))
set_option maxHeartbeats 1000000 in
theorem good_any (w:World) (o f r:Int):Calls Tryd.prog 46 #[addr o f r] w fun e w'=>e = .returned (.bool (goodB o f r))∧Below w.heap.size w w':=by
 have B0:=Lib.hid ((Below.refl w.heap.size w).alloc (Nat.le_refl _) (.cells #[.int .i64 o,.int .i64 f,.int .i64 r] 24));unfold addr
 by_cases h0:0≤o∧o≤2
 ·have L:=Lib.hid (lead_good h0.1 h0.2)
  obtain ⟨h1,h2⟩:=h0
  go_enter Tryd.func46,Tryd.ntmps46
  go_wp2_with fail;refine (lead_any _ o _ _ L.out).mono ?_;rintro e w1 ⟨rfl,b1⟩;have B1:=Lib.hid (B0.out.trans (b1.mono B0.out.size));have c1:w1.cell? ⟨w.heap.size,1,none⟩=some (.int .i64 f):=(b1.cell (by simp)).trans (by go_simp);have c2:w1.cell? ⟨w.heap.size,2,none⟩=some (.int .i64 r):=(b1.cell (by simp)).trans (by go_simp);clear b1 B0 L
  by_cases k0:0≤f
  ·by_cases k1:f < 64
   ·by_cases k2:0≤r
    ·by_cases k3:r < 256
     ·go_wp2
      go_ret
      exact ⟨ret_bool (by first | exact (decide_eq_true (show good o f r from ⟨by omega,by omega,by omega,by omega,by omega,by omega⟩)).symm | exact (decide_eq_false (show ¬ good o f r from fun g=>by obtain ⟨_,_,_,_,_,_⟩:=g;omega)).symm | exact decide_eq_decide.2 ⟨fun h=>absurd h (by omega),fun g=>absurd g.2.2.2.2.2 (by omega)⟩),B1.out⟩
     ·go_wp2
      go_ret
      exact ⟨ret_bool (by first | exact (decide_eq_true (show good o f r from ⟨by omega,by omega,by omega,by omega,by omega,by omega⟩)).symm | exact (decide_eq_false (show ¬ good o f r from fun g=>by obtain ⟨_,_,_,_,_,_⟩:=g;omega)).symm | exact decide_eq_decide.2 ⟨fun h=>absurd h (by omega),fun g=>absurd g.2.2.2.2.2 (by omega)⟩),B1.out⟩
    ·go_wp2
     go_ret
     exact ⟨ret_bool (by first | exact (decide_eq_true (show good o f r from ⟨by omega,by omega,by omega,by omega,by omega,by omega⟩)).symm | exact (decide_eq_false (show ¬ good o f r from fun g=>by obtain ⟨_,_,_,_,_,_⟩:=g;omega)).symm | exact decide_eq_decide.2 ⟨fun h=>absurd h (by omega),fun g=>absurd g.2.2.2.2.2 (by omega)⟩),B1.out⟩
   ·go_wp2
    go_ret
    exact ⟨ret_bool (by first | exact (decide_eq_true (show good o f r from ⟨by omega,by omega,by omega,by omega,by omega,by omega⟩)).symm | exact (decide_eq_false (show ¬ good o f r from fun g=>by obtain ⟨_,_,_,_,_,_⟩:=g;omega)).symm | exact decide_eq_decide.2 ⟨fun h=>absurd h (by omega),fun g=>absurd g.2.2.2.2.2 (by omega)⟩),B1.out⟩
  ·go_wp2
   go_ret
   exact ⟨ret_bool (by first | exact (decide_eq_true (show good o f r from ⟨by omega,by omega,by omega,by omega,by omega,by omega⟩)).symm | exact (decide_eq_false (show ¬ good o f r from fun g=>by obtain ⟨_,_,_,_,_,_⟩:=g;omega)).symm | exact decide_eq_decide.2 ⟨fun h=>absurd h (by omega),fun g=>absurd g.2.2.2.2.2 (by omega)⟩),B1.out⟩
 ·have L:=Lib.hid (lead_bad h0)
  go_enter Tryd.func46,Tryd.ntmps46
  go_wp2_with fail;refine (lead_any _ o _ _ L.out).mono ?_;rintro e w1 ⟨rfl,b1⟩;have B1:=Lib.hid (B0.out.trans (b1.mono B0.out.size));have c1:w1.cell? ⟨w.heap.size,1,none⟩=some (.int .i64 f):=(b1.cell (by simp)).trans (by go_simp);have c2:w1.cell? ⟨w.heap.size,2,none⟩=some (.int .i64 r):=(b1.cell (by simp)).trans (by go_simp);clear b1 B0 L;go_wp2
  go_ret
  exact ⟨ret_bool (by first | exact (decide_eq_true (show good o f r from ⟨by omega,by omega,by omega,by omega,by omega,by omega⟩)).symm | exact (decide_eq_false (show ¬ good o f r from fun g=>by obtain ⟨_,_,_,_,_,_⟩:=g;omega)).symm | exact decide_eq_decide.2 ⟨fun h=>absurd h (by omega),fun g=>absurd g.2.2.2.2.2 (by omega)⟩),B1.out⟩
set_option maxHeartbeats 400000 in
theorem put_any (w:World) (o f r:Int):Calls Tryd.prog 31 #[addr o f r] w (PutPost w o f r):=by
 have B0:=Lib.hid (((Below.refl w.heap.size w).alloc (Nat.le_refl _) (.cells #[.int .i64 o,.int .i64 f,.int .i64 r] 24)).alloc (by simp) (.cells #[.int .u8 0,.int .u8 0] 84))
 by_cases hg:good o f r
 ·have GA:=Lib.hid (at_bool (show goodB o f r=true from decide_eq_true hg) (good_any ((w.alloc (.cells #[.int .i64 o,.int .i64 f,.int .i64 r] 24)).alloc (.cells #[.int .u8 0,.int .u8 0] 84)) o f r))
  have HG:=Lib.hid hg;obtain ⟨g1,g2,g3,g4,g5,g6⟩:=hg;have L:=Lib.hid (lead_good g1 g2);unfold addr at *
  go_enter Tryd.func31,Tryd.ntmps31
  go_wp2_with fail;refine GA.out.mono ?_;rintro e w1 ⟨rfl,b1⟩;have B1:=Lib.hid (B0.out.trans (b1.mono B0.out.size));have c0:w1.cell? ⟨w.heap.size,0,none⟩=some (.int .i64 o):=(b1.cell (by simp;omega)).trans (by go_simp);have c1:w1.cell? ⟨w.heap.size,1,none⟩=some (.int .i64 f):=(b1.cell (by simp;omega)).trans (by go_simp);have c2:w1.cell? ⟨w.heap.size,2,none⟩=some (.int .i64 r):=(b1.cell (by simp;omega)).trans (by go_simp);have k0:w1.cell? ⟨w.heap.size+1,0,none⟩=some (.int .u8 0):=(b1.cell (by simp)).trans (by go_simp);have k1:w1.cell? ⟨w.heap.size+1,1,none⟩=some (.int .u8 0):=(b1.cell (by simp)).trans (by go_simp);have m0:w1.frozen? ⟨w.heap.size+1,0,none⟩=false:=(b1.frozen (by simp)).trans (by go_simp);have m1:w1.frozen? ⟨w.heap.size+1,1,none⟩=false:=(b1.frozen (by simp)).trans (by go_simp);have hz:w.heap.size+2≤w1.heap.size:=by have:=b1.size;simp at this;omega
  clear b1 GA B0;go_wp2_with fail;refine (lead_any _ o _ _ L.out).mono ?_;rintro e w2 ⟨rfl,b2⟩;have B2:=Lib.hid (B1.out.trans (b2.mono B1.out.size));have c1':w2.cell? ⟨w.heap.size,1,none⟩=some (.int .i64 f):=(b2.cell (by simp;omega)).trans c1;have c2':w2.cell? ⟨w.heap.size,2,none⟩=some (.int .i64 r):=(b2.cell (by simp;omega)).trans c2;have k0':w2.cell? ⟨w.heap.size+1,0,none⟩=some (.int .u8 0):=(b2.cell (by simp;omega)).trans k0;have k1':w2.cell? ⟨w.heap.size+1,1,none⟩=some (.int .u8 0):=(b2.cell (by simp;omega)).trans k1;have m0':w2.frozen? ⟨w.heap.size+1,0,none⟩=false:=(b2.frozen (by simp;omega)).trans m0;have m1':w2.frozen? ⟨w.heap.size+1,1,none⟩=false:=(b2.frozen (by simp;omega)).trans m1;clear b2 B1 L c0 c1 c2 k0 k1 m0 m1;go_wp2
  (try simp only [Exit.inBlock,Exit.then])
  refine bodyPost_ret (v:=.tuple #[pair (64 * o+f) r,.int .i64 0]) ?_ rfl ⟨.inl ⟨HG.out,rfl⟩,?_⟩
  ·rw [results_cell_tmp rfl];go_simp;rfl
  ·exact (B2.out.setCell (by simp) _).setCell (by simp) _
 ·have GA:=Lib.hid (at_bool (show goodB o f r=false from decide_eq_false hg) (good_any ((w.alloc (.cells #[.int .i64 o,.int .i64 f,.int .i64 r] 24)).alloc (.cells #[.int .u8 0,.int .u8 0] 84)) o f r))
  have HG:=Lib.hid hg;clear hg;unfold addr at *
  go_enter Tryd.func31,Tryd.ntmps31
  go_wp2_with fail;refine GA.out.mono ?_;rintro e w1 ⟨rfl,b1⟩;have B1:=Lib.hid (B0.out.trans (b1.mono B0.out.size));have k0:w1.cell? ⟨w.heap.size+1,0,none⟩=some (.int .u8 0):=(b1.cell (by simp)).trans (by go_simp);have k1:w1.cell? ⟨w.heap.size+1,1,none⟩=some (.int .u8 0):=(b1.cell (by simp)).trans (by go_simp);have m0:w1.frozen? ⟨w.heap.size+1,0,none⟩=false:=(b1.frozen (by simp)).trans (by go_simp);have m1:w1.frozen? ⟨w.heap.size+1,1,none⟩=false:=(b1.frozen (by simp)).trans (by go_simp);clear b1 GA B0;go_wp2
  (try simp only [Exit.inBlock,Exit.then])
  refine bodyPost_ret (v:=.tuple #[pair 0 0,.int .i64 1]) ?_ rfl ⟨.inr ⟨HG.out,rfl⟩,?_⟩
  ·rw [results_cell_tmp rfl];go_simp;rfl
  ·exact (B1.out.setCell (by simp) _).setCell (by simp) _
set_option maxHeartbeats 1000000 in
theorem take_any (w:World) (a b:Int) (a0:0≤a) (a1:a≤255) (b0:0≤b) (b1:b≤255):Calls Tryd.prog 48 #[pair a b] w (TakePost w a b):=by
 have q1:a.tdiv 64=a / 64:=Int.tdiv_eq_ediv_of_nonneg a0;have q2:a.tmod 64=a % 64:=Int.tmod_eq_emod_of_nonneg a0;have B0:=Lib.hid ((((Below.refl w.heap.size w).alloc (Nat.le_refl _) (.cells #[.int .u8 a,.int .u8 b] 84)).alloc (by simp) (.cells #[.int .i64 0,.int .i64 0,.int .i64 0] 24)).alloc (by simp;omega) (.cells #[.int .i64 (a / 64),.int .i64 (a % 64),.int .i64 b] 24));have GA:=Lib.hid (good_any (((w.alloc (.cells #[.int .u8 a,.int .u8 b] 84)).alloc (.cells #[.int .i64 0,.int .i64 0,.int .i64 0] 24)).alloc (.cells #[.int .i64 (a / 64),.int .i64 (a % 64),.int .i64 b] 24)) (a / 64) (a % 64) b);have g0:0≤a / 64:=by omega
 have g1:a / 64≤3:=by omega
 have g2:0≤a % 64:=by omega
 have g3:a % 64≤63:=by omega
 have HV:Hid (192≤a↔3≤a / 64):=⟨fun h=>by omega,fun h=>by omega⟩
 by_cases h:192≤a
 ·have e:goodB (a / 64) (a % 64) b=false:=decide_eq_false (fun g=>by obtain ⟨_,z,_⟩:=g;omega)
  rw [e] at GA;have HH:=Lib.hid h;clear e h HV;generalize hy1:a / 64=y1 at *;generalize hy2:a % 64=y2 at *;have Y1:=Lib.hid hy1;have Y2:=Lib.hid hy2;clear hy1 hy2;unfold pair addr at *
  go_enter Tryd.func48,Tryd.ntmps48
  go_wp2_with fail;refine GA.out.mono ?_;rintro e w1 ⟨rfl,b1⟩;have B1:=Lib.hid (B0.out.trans (b1.mono B0.out.size));have c0:w1.cell? ⟨w.heap.size+2,0,none⟩=some (.int .i64 y1):=(b1.cell (by simp)).trans (by go_simp);have c1:w1.cell? ⟨w.heap.size+2,1,none⟩=some (.int .i64 y2):=(b1.cell (by simp)).trans (by go_simp);have c2:w1.cell? ⟨w.heap.size+2,2,none⟩=some (.int .i64 b):=(b1.cell (by simp)).trans (by go_simp);have k0:w1.cell? ⟨w.heap.size+1,0,none⟩=some (.int .i64 0):=(b1.cell (by simp)).trans (by go_simp);have k1:w1.cell? ⟨w.heap.size+1,1,none⟩=some (.int .i64 0):=(b1.cell (by simp)).trans (by go_simp);have k2:w1.cell? ⟨w.heap.size+1,2,none⟩=some (.int .i64 0):=(b1.cell (by simp)).trans (by go_simp);have m0:w1.frozen? ⟨w.heap.size+1,0,none⟩=false:=(b1.frozen (by simp)).trans (by go_simp);have m1:w1.frozen? ⟨w.heap.size+1,1,none⟩=false:=(b1.frozen (by simp)).trans (by go_simp);have m2:w1.frozen? ⟨w.heap.size+1,2,none⟩=false:=(b1.frozen (by simp)).trans (by go_simp);clear b1 GA B0;go_wp2
  (try simp only [Exit.inBlock,Exit.then])
  refine bodyPost_ret (v:=.tuple #[.agg #[.int .i64 0,.int .i64 0,.int .i64 0],.int .i64 2]) ?_ rfl ⟨.inr ⟨HH.out,rfl⟩,?_⟩
  ·rw [results_cell_tmp rfl];go_simp;try rfl
  ·exact ((B1.out.setCell (by simp) _).setCell (by simp) _).setCell (by simp) _
 ·have e:goodB (a / 64) (a % 64) b=true:=decide_eq_true (show good (a / 64) (a % 64) b from ⟨g0,by omega,g2,g3,b0,b1⟩)
  rw [e] at GA;have HH:=Lib.hid h;clear e h HV;generalize hy1:a / 64=y1 at *;generalize hy2:a % 64=y2 at *;have Y1:=Lib.hid hy1;have Y2:=Lib.hid hy2;clear hy1 hy2;unfold pair addr at *
  go_enter Tryd.func48,Tryd.ntmps48
  go_wp2_with fail;refine GA.out.mono ?_;rintro e w1 ⟨rfl,b1⟩;have B1:=Lib.hid (B0.out.trans (b1.mono B0.out.size));have c0:w1.cell? ⟨w.heap.size+2,0,none⟩=some (.int .i64 y1):=(b1.cell (by simp)).trans (by go_simp);have c1:w1.cell? ⟨w.heap.size+2,1,none⟩=some (.int .i64 y2):=(b1.cell (by simp)).trans (by go_simp);have c2:w1.cell? ⟨w.heap.size+2,2,none⟩=some (.int .i64 b):=(b1.cell (by simp)).trans (by go_simp);have k0:w1.cell? ⟨w.heap.size+1,0,none⟩=some (.int .i64 0):=(b1.cell (by simp)).trans (by go_simp);have k1:w1.cell? ⟨w.heap.size+1,1,none⟩=some (.int .i64 0):=(b1.cell (by simp)).trans (by go_simp);have k2:w1.cell? ⟨w.heap.size+1,2,none⟩=some (.int .i64 0):=(b1.cell (by simp)).trans (by go_simp);have m0:w1.frozen? ⟨w.heap.size+1,0,none⟩=false:=(b1.frozen (by simp)).trans (by go_simp);have m1:w1.frozen? ⟨w.heap.size+1,1,none⟩=false:=(b1.frozen (by simp)).trans (by go_simp);have m2:w1.frozen? ⟨w.heap.size+1,2,none⟩=false:=(b1.frozen (by simp)).trans (by go_simp);clear b1 GA B0;go_wp2
  (try simp only [Exit.inBlock,Exit.then])
  refine bodyPost_ret (v:=.tuple #[.agg #[.int .i64 y1,.int .i64 y2,.int .i64 b],.int .i64 0]) ?_ rfl ⟨.inl ⟨by have:=HH.out;omega,by rw [Y1.out,Y2.out];rfl⟩,?_⟩
  ·rw [results_cell_tmp rfl];go_simp;try rfl
  ·exact ((B1.out.setCell (by simp) _).setCell (by simp) _).setCell (by simp) _
end Go.Proofs.YtelgnhmcnfibnaaDoor.Ad
namespace Go.Proofs.YtelgnhmcnfibnaaDoor.Sv
open Go.RowKit Go.Maps
open Fl (R4 z4 rec4 arr4 okR row_cell row_frozen sto4)
def arr5 (b:B5):Array Value:=#[.int .u8 b.1,.int .u8 b.2.1,.int .u8 b.2.2.1,.int .u8 b.2.2.2.1,.int .u8 b.2.2.2.2]
theorem st4_row {w:World} {g:Nat} {T:TypeId} {q:R4} (h:w.heap[g]? = some (.cells (arr4 q) T (0,0))) (r:R4):(sto4 w g 0 r).heap[g]? = some (.cells (arr4 r) T (0,0)) :=
 Rw.heap_setCell_same (Rw.heap_setCell_same (Rw.heap_setCell_same (Rw.heap_setCell_same h _) _) _) _
def sto5 (w:World) (g:Nat) (b:B5):World:=((((w.setCell ⟨g,0,none⟩ (.int .u8 b.1)).setCell ⟨g,1,none⟩ (.int .u8 b.2.1)).setCell ⟨g,2,none⟩ (.int .u8 b.2.2.1)).setCell ⟨g,3,none⟩ (.int .u8 b.2.2.2.1)).setCell ⟨g,4,none⟩ (.int .u8 b.2.2.2.2)
theorem st5_row {w:World} {g:Nat} {T:TypeId} {q:B5} (h:w.heap[g]? = some (.cells (arr5 q) T (0,0))) (r:B5):(sto5 w g r).heap[g]? = some (.cells (arr5 r) T (0,0)) :=
 Rw.heap_setCell_same (Rw.heap_setCell_same (Rw.heap_setCell_same (Rw.heap_setCell_same (Rw.heap_setCell_same h _) _) _) _) _
theorem st5_only (W:World) (g:Nat) (r:B5):Fs.Only (fun j=>j=g) W (sto5 W g r) :=
 ((((Fs.Only.set (fun j=>j=g) W (a:=⟨g,0,none⟩) rfl _).trans (Fs.Only.set (fun j=>j=g) _ (a:=⟨g,1,none⟩) rfl _) fun _ _ h=>h).trans (Fs.Only.set (fun j=>j=g) _ (a:=⟨g,2,none⟩) rfl _) fun _ _ h=>h).trans (Fs.Only.set (fun j=>j=g) _ (a:=⟨g,3,none⟩) rfl _) fun _ _ h=>h).trans (Fs.Only.set (fun j=>j=g) _ (a:=⟨g,4,none⟩) rfl _) fun _ _ h=>h
theorem st4_only (W:World) (g:Nat) (x:R4):Fs.Only (fun j=>j=g) W (sto4 W g 0 x) :=
 (((Fs.Only.set (fun j=>j=g) W (a:=⟨g,0,none⟩) rfl _).trans (Fs.Only.set (fun j=>j=g) _ (a:=⟨g,0+1,none⟩) rfl _) fun _ _ h=>h).trans (Fs.Only.set (fun j=>j=g) _ (a:=⟨g,0+2,none⟩) rfl _) fun _ _ h=>h).trans (Fs.Only.set (fun j=>j=g) _ (a:=⟨g,0+3,none⟩) rfl _) fun _ _ h=>h
theorem results_two {fn:Func} {p r:Tmp} {T S:TypeId} (h:fn.results=#[.cell p T,.tmp r]) (tmps:Array Value) (w:World) (g:Nat) (cs:Array Value) (v:Value) (n:Nat) (E:TypeId)
 (hp:tmps.getD p undef = .pointer (some ⟨g,0,none⟩)) (hr:tmps.getD r undef=v) (h1:w.heap[g]? = some (.cells cs S (0,0)))
 (hu:Tryd.prog.underlying T=some (.array n E)) (hi:(Tryd.prog.info? T).map (·.size)=some cs.size) :
 (results fn tmps).run Tryd.prog w = .ok (.tuple #[.agg cs,v]) w:=by
 have e2:=run_loadVar_row (P:=Tryd.prog) w g S T cs (0,0) _ h1 hu rfl hi;have hp':tmps[p]?.getD undef = .pointer (some ⟨g,0,none⟩):=by simpa using hp
 have hr':tmps[r]?.getD undef=v:=by simpa using hr
 simp only [results,h]
 simp [Result.andThen,hp',hr',asAddr,e2]
theorem info4 (q:R4):(Tryd.prog.info? 25).map (·.size)=some (arr4 q).size:=by show _=some 4;kernel_rfl
theorem info5 (q:B5):(Tryd.prog.info? 60).map (·.size)=some (arr5 q).size:=by show _=some 5;kernel_rfl
section
variable {fn:Func} {p r:Tmp}
theorem results_a4 (h:fn.results=#[.cell p 25,.tmp r]) (tmps:Array Value) (w:World) (g:Nat) (q:R4) (v:Value) (hp:tmps.getD p undef = .pointer (some ⟨g,0,none⟩)) (hr:tmps.getD r undef=v) (h1:w.heap[g]? = some (.cells (arr4 q) 25 (0,0))) :
 (results fn tmps).run Tryd.prog w = .ok (.tuple #[rec4 q,v]) w:=results_two h tmps w g _ v _ _ hp hr h1 Tryd.underlying25 (info4 q)
theorem results_b5 (h:fn.results=#[.cell p 60,.tmp r]) (tmps:Array Value) (w:World) (g:Nat) (q:B5) (v:Value) (hp:tmps.getD p undef = .pointer (some ⟨g,0,none⟩)) (hr:tmps.getD r undef=v) (h1:w.heap[g]? = some (.cells (arr5 q) 60 (0,0))) :
 (results fn tmps).run Tryd.prog w = .ok (.tuple #[val5 q,v]) w:=results_two h tmps w g _ v _ _ hp hr h1 Tryd.underlying60 (info5 q)
theorem result_a4 (h:fn.results=#[.cell p 25]) (tmps:Array Value) (w:World) (g:Nat) (q:R4) (hp:tmps.getD p undef = .pointer (some ⟨g,0,none⟩)) (h1:w.heap[g]? = some (.cells (arr4 q) 25 (0,0))) :
 (results fn tmps).run Tryd.prog w = .ok (rec4 q) w:=results_cell_row h tmps w g _ _ _ _ hp h1 Tryd.underlying25 rfl (info4 q)
theorem result_b5 (h:fn.results=#[.cell p 60]) (tmps:Array Value) (w:World) (g:Nat) (q:B5) (hp:tmps.getD p undef = .pointer (some ⟨g,0,none⟩)) (h1:w.heap[g]? = some (.cells (arr5 q) 60 (0,0))) :
 (results fn tmps).run Tryd.prog w = .ok (val5 q) w:=results_cell_row h tmps w g _ _ _ _ hp h1 Tryd.underlying60 rfl (info5 q)
end
theorem eq_a4 (r s:R4) (w:World):(Op.equalIn 10000 25 (.agg #[.int .u8 r.1,.int .u8 r.2.1,.int .u8 r.2.2.1,.int .u8 r.2.2.2]) (.agg #[.int .u8 s.1,.int .u8 s.2.1,.int .u8 s.2.2.1,.int .u8 s.2.2.2])).run Tryd.prog w = .ok (decide (r=s)) w:=by
 obtain ⟨j,hj⟩:∃ i,Tryd.prog.info? 5=some i:=Option.isSome_iff_exists.1 (by kernel_rfl);have hc:Tryd.prog.cellsOf 5=1:=by kernel_rfl
 obtain ⟨r1,r2,r3,r4⟩:=r;obtain ⟨s1,s2,s3,s4⟩:=s;rw [run_equalIn_array w 9999 _ _ Tryd.underlying25 hj,hc]
 by_cases h1:r1=s1 <;> by_cases h2:r2=s2 <;> by_cases h3:r3=s3 <;> by_cases h4:r4=s4 <;> simp [Op.eqItems,List.range,List.range.loop,part,go_sem,h1,h2,h3,h4]
set_option maxHeartbeats 1000000 in
theorem eq_b5 (r s:B5) (w:World):(Op.equalIn 10000 60 (.agg #[.int .u8 r.1,.int .u8 r.2.1,.int .u8 r.2.2.1,.int .u8 r.2.2.2.1,.int .u8 r.2.2.2.2]) (.agg #[.int .u8 s.1,.int .u8 s.2.1,.int .u8 s.2.2.1,.int .u8 s.2.2.2.1,.int .u8 s.2.2.2.2])).run Tryd.prog w = .ok (decide (r=s)) w:=by
 obtain ⟨j,hj⟩:∃ i,Tryd.prog.info? 5=some i:=Option.isSome_iff_exists.1 (by kernel_rfl);have hc:Tryd.prog.cellsOf 5=1:=by kernel_rfl
 obtain ⟨r1,r2,r3,r4,r5⟩:=r;obtain ⟨s1,s2,s3,s4,s5⟩:=s;rw [run_equalIn_array w 9999 _ _ Tryd.underlying60 hj,hc]
 by_cases h1:r1=s1 <;> by_cases h2:r2=s2 <;> by_cases h3:r3=s3 <;> by_cases h4:r4=s4 <;> by_cases h5:r5=s5 <;> simp [Op.eqItems,List.range,List.range.loop,part,go_sem,h1,h2,h3,h4,h5]
def bs (m:Nat) (F:Nat→Int):Array Value:=((List.range m).map fun i=>Value.int .u8 (F i)).toArray
def up (F:Nat→Int) (k:Nat) (x:Int):Nat→Int:=fun i=>if i=k then x else F i
theorem bs_size (m:Nat) (F:Nat→Int):(bs m F).size=m:=by simp [bs]
theorem bs_get {m:Nat} (F:Nat→Int) {k:Nat} (h:k < m):(bs m F)[k]? = some (.int .u8 (F k)):=by simp [bs,h]
theorem bs_congr {m:Nat} {F G:Nat→Int} (h:∀ i,i < m→F i=G i):bs m F=bs m G:=by
 unfold bs
 congr 1
 exact List.map_congr_left fun i hi=>by rw [h i (List.mem_range.1 hi)]
theorem bs_set {m:Nat} (F:Nat→Int) {k:Nat} (x:Int):(bs m F).setIfInBounds k (.int .u8 x)=bs m (up F k x):=by
 apply Array.ext_getElem?
 intro i
 by_cases hi:i < m
 ·rw [bs_get _ hi,Array.getElem?_setIfInBounds]
  unfold up
  by_cases e:k=i
  ·subst e
   rw [if_pos rfl,if_pos rfl,if_pos (by rw [bs_size];exact hi)]
  ·rw [if_neg e,if_neg (fun h=>e h.symm),bs_get _ hi]
 ·rw [Array.getElem?_eq_none (by simp [bs_size];omega),Array.getElem?_eq_none (by simp [bs_size];omega)]
def RowF (w:World) (g:Nat) (T:TypeId) (m:Nat) (F:Nat→Int):Prop:=w.heap[g]? = some (.cells (bs m F) T (0,0))
section
variable {w w':World} {g m:Nat} {T:TypeId} {F:Nat→Int}
theorem RowF.lt (h:RowF w g T m F):g < w.heap.size:=lt_of_block h
theorem RowF.cell (h:RowF w g T m F) {k:Nat} (hk:k < m):w.cell? ⟨g,k,none⟩=some (.int .u8 (F k)):=by rw [cell_of_row w g k _ _ (0,0) h,bs_get F hk]
theorem RowF.frozen (h:RowF w g T m F) (k:Nat):w.frozen? ⟨g,k,none⟩=false:=frozen_of_row w g k _ _ h
theorem RowF.set_ (h:RowF w g T m F) (k:Nat) (x:Int):RowF (w.setCell ⟨g,k,none⟩ (.int .u8 x)) g T m (up F k x):=by
 unfold RowF at h ⊢;rw [heap_setCell_same w g k _ _ _ h,bs_set]
theorem RowF.to {G:Nat→Int} (h:RowF w g T m F) (e:∀ i,i < m→F i=G i):RowF w g T m G:=by unfold RowF at *;rw [h,bs_congr e]
theorem RowF.kept (h:RowF w g T m F) (e:w'.heap[g]? = w.heap[g]?):RowF w' g T m F:=e.trans h
end
def f4 (q:R4):Nat→Int
 | 0=>q.1 | 1=>q.2.1 | 2=>q.2.2.1 | _=>q.2.2.2
def f5 (q:B5):Nat→Int
 | 0=>q.1 | 1=>q.2.1 | 2=>q.2.2.1 | 3=>q.2.2.2.1 | _=>q.2.2.2.2
def tF (F:Nat→Int) (t:Nat→Int) (j k:Nat):Nat→Int:=fun i=>if i < k then bx (F i) (t (j+i)) else F i
theorem tF_next (F:Nat→Int) (t:Nat→Int) (j k i:Nat):up (tF F t j k) k (bx (F k) (t (j+k))) i=tF F t j (k+1) i:=by
 unfold up tF
 by_cases e:i=k
 ·subst e
  rw [if_pos rfl,if_pos (by omega)]
 ·rw [if_neg e]
  by_cases h:i < k
  ·rw [if_pos h,if_pos (by omega)]
  ·rw [if_neg h,if_neg (by omega)]
theorem tF_at (F:Nat→Int) (t:Nat→Int) (j k:Nat):tF F t j k k=F k:=by unfold tF;rw [if_neg (by omega)]
theorem tF_4 (q:R4) (t:Nat→Int) (i:Nat) (h:i < 4):tF (f4 q) t 0 4 i=f4 (tn4 q t) i:=by
 unfold tF;rw [if_pos h,Nat.zero_add]
 match i,h with
 | 0,_=>rfl
 | 1,_=>rfl
 | 2,_=>rfl
 | 3,_=>rfl
theorem tF_5 (q:B5) (t:Nat→Int) (j i:Nat) (h:i < 5):tF (f5 q) t j 5 i=f5 (tn5 q t j) i:=by
 unfold tF;rw [if_pos h]
 match i,h with
 | 0,_=>rfl
 | 1,_=>rfl
 | 2,_=>rfl
 | 3,_=>rfl
 | 4,_=>rfl
end Go.Proofs.YtelgnhmcnfibnaaDoor.Sv
namespace Go.Proofs.YtelgnhmcnfibnaaDoor.Sv
open Go.RowKit Go.Maps
open Fl (R4 z4 rec4 arr4 okR row_cell row_frozen sto4 sto4_below)
open Fs (results_rec)
open Ad (PutPost put_any pair addr good goodB)
theorem two_new (w:World) (o p:Obj):((w.alloc o).alloc p).heap[w.heap.size+1]? = some p∧Below w.heap.size w ((w.alloc o).alloc p):=by
 have hz:(w.alloc o).heap.size=w.heap.size+1:=by simp
 have R0:=heap_alloc_new (w.alloc o) p;rw [hz] at R0;exact ⟨R0,((Below.refl w.heap.size w).alloc (Nat.le_refl _) o).alloc (by omega) p⟩
set_option maxHeartbeats 400000 in
theorem checked_any (w:World) (n a b:Int):Calls Tryd.prog 32 #[.int .u8 n,pair a b] w fun e w'=>e = .returned (rec4 (n,a,b,ck3 n a b))∧Below w.heap.size w w':=by
 have R3:=Lib.hid (two_new w (.cells #[.int .u8 a,.int .u8 b] 84) (.cells (arr4 (n,a,b,ck3 n a b)) 25));unfold pair
 go_enter Tryd.func32,Tryd.ntmps32
 go_wp2
 (try simp only [Exit.inBlock,Exit.then])
 exact bodyPost_ret (result_a4 (p:=4) rfl _ _ (w.heap.size+1) (n,a,b,ck3 n a b) rfl R3.out.1) rfl ⟨rfl,R3.out.2⟩
set_option maxHeartbeats 400000 in
theorem data_any (w:World) (v:R4):Calls Tryd.prog 16 #[rec4 v] w fun e w'=>e = .returned (val5 (datB v))∧Below w.heap.size w w':=by
 have R3:=Lib.hid (two_new w (.cells (arr4 v) 26) (.cells (arr5 (datB v)) 60));unfold rec4
 go_enter Tryd.func16,Tryd.ntmps16
 go_wp2
 (try simp only [Exit.inBlock,Exit.then])
 exact bodyPost_ret (result_b5 (p:=2) rfl _ _ (w.heap.size+1) (datB v) rfl R3.out.1) rfl ⟨rfl,R3.out.2⟩
def OpnPost (w:World) (b:B5) (e:Ending) (w':World):Prop:=e = .returned (.tuple #[rec4 (opnV b),.int .i64 (opnE b)])∧Below w.heap.size w w'
theorem dat_opn (b:B5):datB (b.1,b.2.1,b.2.2.1,b.2.2.2.1)=b↔ck4 b.1 b.2.1 b.2.2.1 b.2.2.2.1=b.2.2.2.2:=by
 obtain ⟨b0,b1,b2,b3,b4⟩:=b;unfold datB
 simp
structure Op0 (w:World) (b:B5) (W:World):Prop where
 arg:W.heap[w.heap.size]? = some (.cells (arr5 b) 60 (0,0))
 res:W.heap[w.heap.size+1]? = some (.cells (arr4 z4) 26 (0,0))
 v:W.heap[w.heap.size+2]? = some (.cells (arr4 (b.1,b.2.1,b.2.2.1,b.2.2.2.1)) 26 (0,0))
 bel:Below w.heap.size w W
 siz:w.heap.size+3≤W.heap.size
theorem Op0.mono {w W W':World} {b:B5} (h:Op0 w b W) (k:Below W.heap.size W W'):Op0 w b W' :=
 have s:=h.siz
 ⟨(k.block _ (by omega)).trans h.arg,(k.block _ (by omega)).trans h.res,(k.block _ (by omega)).trans h.v,h.bel.trans (k.mono h.bel.size),Nat.le_trans h.siz k.size⟩
theorem op0_of (w:World) (b:B5):Op0 w b (((w.alloc (.cells (arr5 b) 60)).alloc (.cells (arr4 z4) 26)).alloc (.cells (arr4 (b.1,b.2.1,b.2.2.1,b.2.2.2.1)) 26)):=by
 have h1:(w.alloc (.cells (arr5 b) 60)).heap.size=w.heap.size+1:=by simp
 have h2:((w.alloc (.cells (arr5 b) 60)).alloc (.cells (arr4 z4) 26)).heap.size=w.heap.size+2:=by simp
 have r1:=heap_alloc_new w (.cells (arr5 b) 60);have r2:=heap_alloc_new (w.alloc (.cells (arr5 b) 60)) (.cells (arr4 z4) 26);have r3:=heap_alloc_new ((w.alloc (.cells (arr5 b) 60)).alloc (.cells (arr4 z4) 26)) (.cells (arr4 (b.1,b.2.1,b.2.2.1,b.2.2.2.1)) 26);rw [h1] at r2;rw [h2] at r3
 exact ⟨(Below.heap_alloc _ _ _ (by omega)).trans ((Below.heap_alloc _ _ _ (by omega)).trans r1),(Below.heap_alloc _ _ _ (by omega)).trans r2,r3,
  (((Below.refl w.heap.size w).alloc (Nat.le_refl _) _).alloc (by omega) _).alloc (by omega) _,by simp⟩
set_option maxHeartbeats 1000000 in
theorem open_any (w:World) (b:B5):Calls Tryd.prog 20 #[val5 b] w (OpnPost w b):=by
 have S0':=op0_of w b;have D0:∀ W,Calls Tryd.prog 16 #[.agg #[.int .u8 b.1,.int .u8 b.2.1,.int .u8 b.2.2.1,.int .u8 b.2.2.2.1]] W fun e w'=>e = .returned (val5 (datB (b.1,b.2.1,b.2.2.1,b.2.2.2.1)))∧Below W.heap.size W w':=fun W=>data_any W (b.1,b.2.1,b.2.2.1,b.2.2.2.1);have E0:∀ W,(Op.equalIn 10000 60 (val5 (datB (b.1,b.2.1,b.2.2.1,b.2.2.2.1))) (val5 b)).run Tryd.prog W = .ok (decide (datB (b.1,b.2.1,b.2.2.1,b.2.2.2.1)=b)) W:=fun W=>eq_b5 _ b W;have HB:=Lib.hid (dat_opn b);generalize datB (b.1,b.2.1,b.2.2.1,b.2.2.2.1)=D at *;unfold val5 at *;have DA:=Lib.hid D0;have S0:Hid (Op0 w b (((w.alloc (.cells #[.int .u8 b.1,.int .u8 b.2.1,.int .u8 b.2.2.1,.int .u8 b.2.2.2.1,.int .u8 b.2.2.2.2] 60)).alloc (.cells #[.int .u8 0,.int .u8 0,.int .u8 0,.int .u8 0] 26)).alloc (.cells #[.int .u8 b.1,.int .u8 b.2.1,.int .u8 b.2.2.1,.int .u8 b.2.2.2.1] 26))):=S0';have FIN:Hid (∀ e v w',e=opnE b→v=opnV b→Below w.heap.size w w'→OpnPost w b (.returned (.tuple #[rec4 v,.int .i64 e])) w'):=Lib.hid fun e v w' h1 h2 h3=>by subst h1 h2;exact ⟨rfl,h3⟩
 clear D0 S0'
 by_cases h:D=b
 ·have OV:Hid (opnE b=0∧opnV b=(b.1,b.2.1,b.2.2.1,b.2.2.2.1)):=Lib.hid (by
   have e0:opnE b=0:=if_pos (HB.out.1 h)
   exact ⟨e0,by unfold opnV;rw [if_pos e0]⟩)
  rw [decide_eq_true h] at E0;have EQ:=Lib.hid E0;clear h E0 HB
  go_enter Tryd.func20,Tryd.ntmps20
  go_upto_region 2 with fail;generalize (((w.alloc (.cells #[.int .u8 b.1,.int .u8 b.2.1,.int .u8 b.2.2.1,.int .u8 b.2.2.2.1,.int .u8 b.2.2.2.2] 60)).alloc (.cells #[.int .u8 0,.int .u8 0,.int .u8 0,.int .u8 0] 26)).alloc (.cells #[.int .u8 b.1,.int .u8 b.2.1,.int .u8 b.2.2.1,.int .u8 b.2.2.2.1] 26))=W at *;have x0:=Qb.cell_by (show W.cell? ⟨w.heap.size+2,0,none⟩=some (.int .u8 b.1) from row_cell S0.out.v 0);have x1:=Qb.cell_by (show W.cell? ⟨w.heap.size+2,1,none⟩=some (.int .u8 b.2.1) from row_cell S0.out.v 1);have x2:=Qb.cell_by (show W.cell? ⟨w.heap.size+2,2,none⟩=some (.int .u8 b.2.2.1) from row_cell S0.out.v 2);have x3:=Qb.cell_by (show W.cell? ⟨w.heap.size+2,3,none⟩=some (.int .u8 b.2.2.2.1) from row_cell S0.out.v 3);have y0:=Qb.cell_by (show W.cell? ⟨w.heap.size,0,none⟩=some (.int .u8 b.1) from row_cell S0.out.arg 0);have y1:=Qb.cell_by (show W.cell? ⟨w.heap.size,1,none⟩=some (.int .u8 b.2.1) from row_cell S0.out.arg 1);have y2:=Qb.cell_by (show W.cell? ⟨w.heap.size,2,none⟩=some (.int .u8 b.2.2.1) from row_cell S0.out.arg 2);have y3:=Qb.cell_by (show W.cell? ⟨w.heap.size,3,none⟩=some (.int .u8 b.2.2.2.1) from row_cell S0.out.arg 3);have y4:=Qb.cell_by (show W.cell? ⟨w.heap.size,4,none⟩=some (.int .u8 b.2.2.2.2) from row_cell S0.out.arg 4);have eq:=EQ.out;refine Qb.wp_region_by (by kernel_rfl) (by kernel_rfl) ?_
  repeat (quiet_step ((first | (go_at_call 16;with_reducible exact Qb.of_below (DA.out _)))))
  refine wpQuiet_nil ?_;clear x0 x1 x2 x3 y0 y1 y2 y3 y4 eq
  intro _ hw'
  obtain ⟨p,rfl⟩:=hw';obtain ⟨W2,b2⟩:=p;simp only;have S2:=Lib.hid (S0.out.mono b2);clear b2 S0;have d0:W2.cell? ⟨w.heap.size+1,0,none⟩=some (.int .u8 0):=row_cell S2.out.res 0;have d1:W2.cell? ⟨w.heap.size+1,1,none⟩=some (.int .u8 0):=row_cell S2.out.res 1;have d2:W2.cell? ⟨w.heap.size+1,2,none⟩=some (.int .u8 0):=row_cell S2.out.res 2;have d3:W2.cell? ⟨w.heap.size+1,3,none⟩=some (.int .u8 0):=row_cell S2.out.res 3;have k0:=row_frozen S2.out.res 0;have k1:=row_frozen S2.out.res 1;have k2:=row_frozen S2.out.res 2;have k3:=row_frozen S2.out.res 3;have x0:W2.cell? ⟨w.heap.size+2,0,none⟩=some (.int .u8 b.1):=row_cell S2.out.v 0;have x1:W2.cell? ⟨w.heap.size+2,1,none⟩=some (.int .u8 b.2.1):=row_cell S2.out.v 1;have x2:W2.cell? ⟨w.heap.size+2,2,none⟩=some (.int .u8 b.2.2.1):=row_cell S2.out.v 2;have x3:W2.cell? ⟨w.heap.size+2,3,none⟩=some (.int .u8 b.2.2.2.1):=row_cell S2.out.v 3;have R3:=Lib.hid (Fl.sto4_row S2.out.res (b.1,b.2.1,b.2.2.1,b.2.2.2.1));have B3:=Lib.hid (sto4_below (o:=0) (r:=(b.1,b.2.1,b.2.2.1,b.2.2.2.1)) S2.out.bel (show w.heap.size≤w.heap.size+1 by omega));clear S2;go_wp2
  (try simp only [Exit.inBlock,Exit.then])
  exact bodyPost_ret (results_rec (p:=2) (r:=3) rfl _ _ (w.heap.size+1) (b.1,b.2.1,b.2.2.1,b.2.2.2.1) (.int .i64 0) rfl rfl R3.out) rfl (FIN.out _ _ _ OV.out.1.symm OV.out.2.symm B3.out)
 ·have OV:Hid (opnE b=14∧opnV b=z4):=Lib.hid (by
   have e0:opnE b=14:=if_neg (fun g=>h (HB.out.2 g))
   exact ⟨e0,by unfold opnV;rw [if_neg (by rw [e0];decide)]⟩)
  rw [decide_eq_false h] at E0;have EQ:=Lib.hid E0;clear h E0 HB
  go_enter Tryd.func20,Tryd.ntmps20
  go_upto_region 2 with fail;generalize (((w.alloc (.cells #[.int .u8 b.1,.int .u8 b.2.1,.int .u8 b.2.2.1,.int .u8 b.2.2.2.1,.int .u8 b.2.2.2.2] 60)).alloc (.cells #[.int .u8 0,.int .u8 0,.int .u8 0,.int .u8 0] 26)).alloc (.cells #[.int .u8 b.1,.int .u8 b.2.1,.int .u8 b.2.2.1,.int .u8 b.2.2.2.1] 26))=W at *;have x0:=Qb.cell_by (show W.cell? ⟨w.heap.size+2,0,none⟩=some (.int .u8 b.1) from row_cell S0.out.v 0);have x1:=Qb.cell_by (show W.cell? ⟨w.heap.size+2,1,none⟩=some (.int .u8 b.2.1) from row_cell S0.out.v 1);have x2:=Qb.cell_by (show W.cell? ⟨w.heap.size+2,2,none⟩=some (.int .u8 b.2.2.1) from row_cell S0.out.v 2);have x3:=Qb.cell_by (show W.cell? ⟨w.heap.size+2,3,none⟩=some (.int .u8 b.2.2.2.1) from row_cell S0.out.v 3);have y0:=Qb.cell_by (show W.cell? ⟨w.heap.size,0,none⟩=some (.int .u8 b.1) from row_cell S0.out.arg 0);have y1:=Qb.cell_by (show W.cell? ⟨w.heap.size,1,none⟩=some (.int .u8 b.2.1) from row_cell S0.out.arg 1);have y2:=Qb.cell_by (show W.cell? ⟨w.heap.size,2,none⟩=some (.int .u8 b.2.2.1) from row_cell S0.out.arg 2);have y3:=Qb.cell_by (show W.cell? ⟨w.heap.size,3,none⟩=some (.int .u8 b.2.2.2.1) from row_cell S0.out.arg 3);have y4:=Qb.cell_by (show W.cell? ⟨w.heap.size,4,none⟩=some (.int .u8 b.2.2.2.2) from row_cell S0.out.arg 4);have eq:=EQ.out;refine Qb.wp_region_by (by kernel_rfl) (by kernel_rfl) ?_
  repeat (quiet_step ((first | (go_at_call 16;with_reducible exact Qb.of_below (DA.out _)))))
  refine wpQuiet_nil ?_;clear x0 x1 x2 x3 y0 y1 y2 y3 y4 eq
  intro _ hw'
  obtain ⟨p,rfl⟩:=hw';obtain ⟨W2,b2⟩:=p;simp only;have S2:=Lib.hid (S0.out.mono b2);clear b2 S0;have d0:W2.cell? ⟨w.heap.size+1,0,none⟩=some (.int .u8 0):=row_cell S2.out.res 0;have d1:W2.cell? ⟨w.heap.size+1,1,none⟩=some (.int .u8 0):=row_cell S2.out.res 1;have d2:W2.cell? ⟨w.heap.size+1,2,none⟩=some (.int .u8 0):=row_cell S2.out.res 2;have d3:W2.cell? ⟨w.heap.size+1,3,none⟩=some (.int .u8 0):=row_cell S2.out.res 3;have k0:=row_frozen S2.out.res 0;have k1:=row_frozen S2.out.res 1;have k2:=row_frozen S2.out.res 2;have k3:=row_frozen S2.out.res 3;have x0:W2.cell? ⟨w.heap.size+2,0,none⟩=some (.int .u8 b.1):=row_cell S2.out.v 0;have x1:W2.cell? ⟨w.heap.size+2,1,none⟩=some (.int .u8 b.2.1):=row_cell S2.out.v 1;have x2:W2.cell? ⟨w.heap.size+2,2,none⟩=some (.int .u8 b.2.2.1):=row_cell S2.out.v 2;have x3:W2.cell? ⟨w.heap.size+2,3,none⟩=some (.int .u8 b.2.2.2.1):=row_cell S2.out.v 3;have R3:=Lib.hid (Fl.sto4_row S2.out.res z4);have B3:=Lib.hid (sto4_below (o:=0) (r:=z4) S2.out.bel (show w.heap.size≤w.heap.size+1 by omega));clear S2;go_wp2
  (try simp only [Exit.inBlock,Exit.then])
  exact bodyPost_ret (results_rec (p:=2) (r:=3) rfl _ _ (w.heap.size+1) z4 (.int .i64 14) rfl rfl R3.out) rfl (FIN.out _ _ _ OV.out.1.symm OV.out.2.symm B3.out)
def AskPost (w:World) (n o f r:Int) (e:Ending) (w':World):Prop:=e = .returned (.tuple #[rec4 (askB n o f r),.int .i64 (askE n o f r)])∧Below w.heap.size w w'
theorem ask_err {n o f r:Int} (h:¬ (1≤n∧n≤254∧goodB o f r=true)):askE n o f r=1∧askB n o f r=z4:=by
 have e:askE n o f r=1:=if_neg h;exact ⟨e,by unfold askB;rw [if_neg (by rw [e];decide)]⟩
theorem ask_ok {n o f r:Int} (h:1≤n∧n≤254∧goodB o f r=true):askE n o f r=0∧askB n o f r=(n,64 * o+f,r,ck3 n (64 * o+f) r):=by
 have e:askE n o f r=0:=if_pos h;exact ⟨e,by unfold askB;rw [if_pos e]⟩
structure As0 (w:World) (W:World):Prop where
 res:W.heap[w.heap.size+1]? = some (.cells (arr4 z4) 25 (0,0))
 bel:Below w.heap.size w W
 siz:w.heap.size+2≤W.heap.size
theorem As0.mono {w W W':World} (h:As0 w W) (k:Below W.heap.size W W'):As0 w W' :=
 have s:=h.siz
 ⟨(k.block _ (by omega)).trans h.res,h.bel.trans (k.mono h.bel.size),Nat.le_trans h.siz k.size⟩
theorem as0_of (w:World) (o:Obj):As0 w ((w.alloc o).alloc (.cells (arr4 z4) 25)):=⟨(two_new w o _).1,(two_new w o _).2,by simp⟩
set_option maxHeartbeats 1000000 in
theorem sask_any (w:World) (n o f r:Int):Calls Tryd.prog 15 #[.int .i64 n,addr o f r] w (AskPost w n o f r):=by
 have S0:Hid (As0 w ((w.alloc (.cells #[.int .i64 o,.int .i64 f,.int .i64 r] 24)).alloc (.cells #[.int .u8 0,.int .u8 0,.int .u8 0,.int .u8 0] 25))):=Lib.hid (as0_of w _);have PU:=Lib.hid (fun W=>put_any W o f r);have FIN:Hid (∀ e v w',askE n o f r=e∧askB n o f r=v→Below w.heap.size w w'→AskPost w n o f r (.returned (.tuple #[rec4 v,.int .i64 e])) w'):=Lib.hid fun e v w' h1 h3=>by rw [← h1.1,← h1.2];exact ⟨rfl,h3⟩
 unfold addr PutPost at *
 by_cases hg:good o f r
 case' pos =>
  have GB:Hid (goodB o f r=true):=Lib.hid (decide_eq_true hg);have PG:Hid (∀ W,Calls Tryd.prog 31 #[.agg #[.int .i64 o,.int .i64 f,.int .i64 r]] W fun e w'=>e = .returned (.tuple #[pair (64 * o+f) r,.int .i64 0])∧Below W.heap.size W w'):=Lib.hid fun W=>(PU.out W).mono fun e w' ⟨h1,h2⟩=>⟨by rcases h1 with ⟨_,h1⟩ | ⟨h1,_⟩;exact h1;exact absurd hg h1,h2⟩;have C1:Hid (¬ (1≤n)→askE n o f r=1∧askB n o f r=z4):=Lib.hid fun h=>ask_err fun g=>h g.1;have C2:Hid (¬ (n≤254)→askE n o f r=1∧askB n o f r=z4):=Lib.hid fun h=>ask_err fun g=>h g.2.1;have C3:Hid (1≤n→n≤254→askE n o f r=0∧askB n o f r=(n,64 * o+f,r,ck3 n (64 * o+f) r)):=Lib.hid fun h1 h2=>ask_ok ⟨h1,h2,GB.out⟩;have C4:=Lib.hid (fun W=>checked_any W n (64 * o+f) r)
 case' neg =>
  have PB:Hid (∀ W,Calls Tryd.prog 31 #[.agg #[.int .i64 o,.int .i64 f,.int .i64 r]] W fun e w'=>e = .returned (.tuple #[pair 0 0,.int .i64 1])∧Below W.heap.size W w'):=Lib.hid fun W=>(PU.out W).mono fun e w' ⟨h1,h2⟩=>⟨by rcases h1 with ⟨h1,_⟩ | ⟨_,h1⟩;exact absurd h1 hg;exact h1,h2⟩;have C1:Hid (askE n o f r=1∧askB n o f r=z4):=Lib.hid (ask_err fun g=>hg (of_decide_eq_true g.2.2))
 case' pos =>
  unfold pair at *;clear GB PU hg
  go_enter Tryd.func15,Tryd.ntmps15
  go_wp2_with fail;generalize (w.alloc (.cells #[.int .i64 o,.int .i64 f,.int .i64 r] 24)).alloc (.cells #[.int .u8 0,.int .u8 0,.int .u8 0,.int .u8 0] 25)=W at *;refine (PG.out _).mono ?_;rintro e w1 ⟨rfl,b1⟩;have S1:=Lib.hid ((S0.out.mono b1).mono ((Below.refl w1.heap.size w1).alloc (Nat.le_refl _) (.cells #[.int .u8 (64 * o+f),.int .u8 r] 84)));have RP:=Lib.hid (heap_alloc_new w1 (.cells #[.int .u8 (64 * o+f),.int .u8 r] 84));clear b1 S0 PG;go_upto_region 2 with fail;generalize w1.alloc (.cells #[.int .u8 (64 * o+f),.int .u8 r] 84)=W1 at *;generalize w1.heap.size=g1 at *;have d0:W1.cell? ⟨w.heap.size+1,0,none⟩=some (.int .u8 0):=row_cell S1.out.res 0;have d1:W1.cell? ⟨w.heap.size+1,1,none⟩=some (.int .u8 0):=row_cell S1.out.res 1;have d2:W1.cell? ⟨w.heap.size+1,2,none⟩=some (.int .u8 0):=row_cell S1.out.res 2;have d3:W1.cell? ⟨w.heap.size+1,3,none⟩=some (.int .u8 0):=row_cell S1.out.res 3;have k0:=row_frozen S1.out.res 0;have k1:=row_frozen S1.out.res 1;have k2:=row_frozen S1.out.res 2;have k3:=row_frozen S1.out.res 3;have p0:W1.cell? ⟨g1,0,none⟩=some (.int .u8 (64 * o+f)):=row_cell RP.out 0;have p1:W1.cell? ⟨g1,1,none⟩=some (.int .u8 r):=row_cell RP.out 1
  by_cases h1:1≤n
  ·by_cases h2:n≤254
   ·have HC:=Lib.hid (C3.out h1 h2)
    have wn:IntKind.u8.wrap n=n:=by simp [IntKind.wrap,IntKind.bits,IntKind.signed];omega
    clear C1 C2 C3 RP;go_wp2_with fail;clear d0 d1 d2 d3 k0 k1 k2 k3 p0 p1;refine (C4.out W1).mono ?_;rintro e w2 ⟨rfl,b2⟩;have S2:=Lib.hid (S1.out.mono b2);clear b2 S1 C4;generalize ck3 n (64 * o+f) r=c at *;unfold rec4;have d0:w2.cell? ⟨w.heap.size+1,0,none⟩=some (.int .u8 0):=row_cell S2.out.res 0;have d1:w2.cell? ⟨w.heap.size+1,1,none⟩=some (.int .u8 0):=row_cell S2.out.res 1;have d2:w2.cell? ⟨w.heap.size+1,2,none⟩=some (.int .u8 0):=row_cell S2.out.res 2;have d3:w2.cell? ⟨w.heap.size+1,3,none⟩=some (.int .u8 0):=row_cell S2.out.res 3;have k0:=row_frozen S2.out.res 0;have k1:=row_frozen S2.out.res 1;have k2:=row_frozen S2.out.res 2;have k3:=row_frozen S2.out.res 3;have R3:=Lib.hid (st4_row S2.out.res (n,64 * o+f,r,c));have B3:=Lib.hid (sto4_below (o:=0) (r:=(n,64 * o+f,r,c)) S2.out.bel (show w.heap.size≤w.heap.size+1 by omega));clear S2;go_wp2
    (try simp only [Exit.inBlock,Exit.then])
    exact bodyPost_ret (results_a4 (p:=4) (r:=5) rfl _ _ (w.heap.size+1) (n,64 * o+f,r,c) (.int .i64 0) rfl rfl R3.out) rfl (FIN.out _ _ _ HC.out B3.out)
   ·have HC:=Lib.hid (C2.out (by omega))
    have R3:=Lib.hid (st4_row S1.out.res z4);have B3:=Lib.hid (sto4_below (o:=0) (r:=z4) S1.out.bel (show w.heap.size≤w.heap.size+1 by omega));clear C1 C2 C3 C4 RP S1;go_wp2
    (try simp only [Exit.inBlock,Exit.then])
    exact bodyPost_ret (results_a4 (p:=4) (r:=5) rfl _ _ (w.heap.size+1) z4 (.int .i64 1) rfl rfl R3.out) rfl (FIN.out _ _ _ HC.out B3.out)
  ·have HC:=Lib.hid (C1.out (by omega))
   have R3:=Lib.hid (st4_row S1.out.res z4);have B3:=Lib.hid (sto4_below (o:=0) (r:=z4) S1.out.bel (show w.heap.size≤w.heap.size+1 by omega));clear C1 C2 C3 C4 RP S1;go_wp2
   (try simp only [Exit.inBlock,Exit.then])
   exact bodyPost_ret (results_a4 (p:=4) (r:=5) rfl _ _ (w.heap.size+1) z4 (.int .i64 1) rfl rfl R3.out) rfl (FIN.out _ _ _ HC.out B3.out)
 case' neg =>
  unfold pair at *;clear PU hg
  go_enter Tryd.func15,Tryd.ntmps15
  go_wp2_with fail;generalize (w.alloc (.cells #[.int .i64 o,.int .i64 f,.int .i64 r] 24)).alloc (.cells #[.int .u8 0,.int .u8 0,.int .u8 0,.int .u8 0] 25)=W at *;refine (PB.out _).mono ?_;rintro e w1 ⟨rfl,b1⟩;have S1:=Lib.hid ((S0.out.mono b1).mono ((Below.refl w1.heap.size w1).alloc (Nat.le_refl _) (.cells #[.int .u8 0,.int .u8 0] 84)));clear b1 S0 PB;go_upto_region 2 with fail;generalize w1.alloc (.cells #[.int .u8 0,.int .u8 0] 84)=W1 at *;generalize w1.heap.size=g1 at *;have d0:W1.cell? ⟨w.heap.size+1,0,none⟩=some (.int .u8 0):=row_cell S1.out.res 0;have d1:W1.cell? ⟨w.heap.size+1,1,none⟩=some (.int .u8 0):=row_cell S1.out.res 1;have d2:W1.cell? ⟨w.heap.size+1,2,none⟩=some (.int .u8 0):=row_cell S1.out.res 2;have d3:W1.cell? ⟨w.heap.size+1,3,none⟩=some (.int .u8 0):=row_cell S1.out.res 3;have k0:=row_frozen S1.out.res 0;have k1:=row_frozen S1.out.res 1;have k2:=row_frozen S1.out.res 2;have k3:=row_frozen S1.out.res 3;have R3:=Lib.hid (st4_row S1.out.res z4);have B3:=Lib.hid (sto4_below (o:=0) (r:=z4) S1.out.bel (show w.heap.size≤w.heap.size+1 by omega));clear S1;go_wp2
  (try simp only [Exit.inBlock,Exit.then])
  exact bodyPost_ret (results_a4 (p:=4) (r:=5) rfl _ _ (w.heap.size+1) z4 (.int .i64 1) rfl rfl R3.out) rfl (FIN.out _ _ _ C1.out B3.out)
end Go.Proofs.YtelgnhmcnfibnaaDoor.Sv
namespace Go.Proofs.YtelgnhmcnfibnaaDoor.Fs
open Go.RowKit Go.Maps
open Fl (R4 z4 K4 rec4 rat goodF goodFB okR okL doE newR file arr4 sto2 sto4 sto2_row sto2_other sto2_below sto2_size sto2_off sto4_row sto4_other sto4_below sto4_size row_cell row_frozen own_form ret_bool at4)
open Rw (Rd Ow At)
theorem gB_none {C:List Ent} {n r:Int} (h:look Ent.n n C=none):gB (C.map Ent.abs) n r=false:=by unfold gB;rw [abs_look,h];rfl
theorem gB_some {C:List Ent} {n r:Int} {c:Ent} (h:look Ent.n n C=some c):gB (C.map Ent.abs) n r=decide (0≤r∧r < c.l.length):=by unfold gB;rw [abs_look,h];rfl
theorem gV_none {C:List Ent} {n r:Int} (h:look Ent.n n C=none):gV (C.map Ent.abs) n r=z4:=by unfold gV;rw [abs_look,h];rfl
theorem gV_some {C:List Ent} {n r:Int} {c:Ent} (h:look Ent.n n C=some c):gV (C.map Ent.abs) n r=if 0≤r∧r < c.l.length then rat c.l r.toNat else z4:=by unfold gV;rw [abs_look,h];rfl
set_option maxHeartbeats 400000 in
theorem has_any {w:World} {s:Nat} {F:Nat→Prop} {m:Value} {C:List Ent} {d:Int} (S:Sto w s F m C d) {n:Int} (hn:Wf n) (r:Int) :
 Calls Tryd.prog 39 #[.pointer (some ⟨s,0,none⟩),.int .i64 n,.int .i64 r] w fun e w'=>e = .returned (.bool (gB (C.map Ent.abs) n r))∧Below w.heap.size w w':=by
 have hF:=run_fieldF;have c0:w.cell? ⟨s,0,none⟩=some m:=row_cell S.row 0;have M:=Lib.hid S.mp;have HN:=Lib.hid hn;clear S hn
 cases hk:look Ent.n n C with
 | none =>
   have E:=Lib.hid (gB_none (r:=r) hk);have L:=Lib.hid (lv_none hk);clear hk
   by_cases hr:0≤r
   ·go_enter Tryd.func39,Tryd.ntmps39
    go_wp2_with (at_lookup;refine at_look0 rfl _ _ rfl M.out rfl _ rfl HN.out _ L.out ?_)
    go_ret
    exact ⟨ret_bool (by rw [E.out];exact decide_eq_false (by omega)),Below.refl _ _⟩
   ·go_enter Tryd.func39,Tryd.ntmps39
    go_wp2_with (at_lookup;refine at_look0 rfl _ _ rfl M.out rfl _ rfl HN.out _ L.out ?_)
    go_ret
    exact ⟨ret_bool E.out.symm,Below.refl _ _⟩
 | some c =>
   have E:=Lib.hid (gB_some (r:=r) hk);have L:=Lib.hid (lv_some hk);clear hk;generalize c.l.length=k at *
   by_cases hr:0≤r
   ·by_cases h2:r < (k:Int)
    ·go_enter Tryd.func39,Tryd.ntmps39
     go_wp2_with (at_lookup;refine at_look0 rfl _ _ rfl M.out rfl _ rfl HN.out _ L.out ?_)
     go_ret
     exact ⟨ret_bool (by rw [E.out,decide_eq_true ⟨hr,h2⟩]),Below.refl _ _⟩
    ·go_enter Tryd.func39,Tryd.ntmps39
     go_wp2_with (at_lookup;refine at_look0 rfl _ _ rfl M.out rfl _ rfl HN.out _ L.out ?_)
     go_ret
     exact ⟨ret_bool (by rw [E.out,decide_eq_false (fun h=>by omega)]),Below.refl _ _⟩
   ·go_enter Tryd.func39,Tryd.ntmps39
    go_wp2_with (at_lookup;refine at_look0 rfl _ _ rfl M.out rfl _ rfl HN.out _ L.out ?_)
    go_ret
    exact ⟨ret_bool (by rw [E.out,decide_eq_false (fun h=>by omega)]),Below.refl _ _⟩
def GetPost (w:World) (y:R4) (b:Bool) (e:Ending) (w':World):Prop:=e = .returned (.tuple #[rec4 y,.bool b])∧Below w.heap.size w w'
theorem one_rec (w:World):(w.alloc (.cells (arr4 z4) 26)).heap[w.heap.size]? = some (.cells (arr4 z4) 26 (0,0))∧Below w.heap.size w (w.alloc (.cells (arr4 z4) 26))∧(w.alloc (.cells (arr4 z4) 26)).heap.size=w.heap.size+1:=⟨heap_alloc_new w _,(Below.refl w.heap.size w).alloc (Nat.le_refl _) _,by simp⟩
set_option maxHeartbeats 400000 in
theorem get_no (w:World) (s:Value) (n r:Int) (hh:∀ W,Below w.heap.size w W→Calls Tryd.prog 39 #[s,.int .i64 n,.int .i64 r] W fun e w'=>e = .returned (.bool false)∧Below W.heap.size W w') :
 Calls Tryd.prog 23 #[s,.int .i64 n,.int .i64 r] w (GetPost w z4 false):=by
 obtain ⟨h1,hB,hz⟩:=one_rec w;have H1:=Lib.hid h1;have HB:=Lib.hid hB;have HH:=Lib.hid (hh _ hB);have HZ:=Lib.hid hz;clear h1 hB hz hh;unfold arr4 z4 at *
 go_enter Tryd.func23,Tryd.ntmps23
 go_wp2_with fail;generalize (w.alloc (.cells #[.int .u8 0,.int .u8 0,.int .u8 0,.int .u8 0] 26))=W at *;refine HH.out.mono ?_;rintro e w1 ⟨rfl,b1⟩;have hz:=HZ.out;have G:w1.heap[w.heap.size]? = some (.cells (arr4 z4) 26 (0,0)):=(b1.block _ (by omega)).trans H1.out;have B1:=Lib.hid (HB.out.trans (b1.mono HB.out.size));have d0:w1.cell? ⟨w.heap.size,0,none⟩=some (.int .u8 0):=row_cell G 0;have d1:w1.cell? ⟨w.heap.size,1,none⟩=some (.int .u8 0):=row_cell G 1;have d2:w1.cell? ⟨w.heap.size,2,none⟩=some (.int .u8 0):=row_cell G 2;have d3:w1.cell? ⟨w.heap.size,3,none⟩=some (.int .u8 0):=row_cell G 3;have k0:=row_frozen G 0;have k1:=row_frozen G 1;have k2:=row_frozen G 2;have k3:=row_frozen G 3;have R2:=Lib.hid (sto4_row G z4);have B2:=Lib.hid (sto4_below (o:=0) (r:=z4) B1.out (show w.heap.size≤w.heap.size by omega));clear b1 HH HB H1 HZ hz G B1;go_wp2
 (try simp only [Exit.inBlock,Exit.then])
 exact bodyPost_ret (results_rec (p:=6) (r:=7) rfl _ _ w.heap.size z4 (.bool false) rfl rfl R2.out) rfl ⟨rfl,B2.out⟩
set_option maxHeartbeats 400000 in
theorem get_yes {w:World} {s:Nat} {F:Nat→Prop} {m:Value} {C:List Ent} {d:Int} (S:Sto w s F m C d) {n:Int} (hn:Wf n) (k:Nat) {c:Ent} (hc:look Ent.n n C=some c) (hk:k < c.l.length) :
 Calls Tryd.prog 23 #[.pointer (some ⟨s,0,none⟩),.int .i64 n,.int .i64 (k:Int)] w (GetPost w (rat c.l k) true):=by
 obtain ⟨h1,hB,hz⟩:=one_rec w;have H1:=Lib.hid h1;have HB:=Lib.hid hB;have HZ:=Lib.hid hz;have hh:=has_any (S.below hB) hn (k:Int);rw [gB_some hc,decide_eq_true (⟨by omega,by omega⟩:0≤(k:Int)∧(k:Int) < c.l.length)] at hh;have HH:=Lib.hid hh;have SS:=Lib.hid S;have HN:=Lib.hid hn;have L:=Lib.hid (lv_some hc);obtain ⟨ho,_⟩:=S.find hc;obtain ⟨g,cap,e1,_,_,_,_,_,hA⟩:=ho.form (by omega);obtain ⟨cn,cp,ca,ccap,cl⟩:=c;obtain ⟨rfl,rfl⟩:ca=some ⟨g,0,none⟩∧ccap=cap:=by
  unfold Ent.sl at e1;injection e1 with e1 e2 e3;exact ⟨e1,e3⟩
 have A4':=at4 hA k hk;rw [Nat.zero_add] at A4';have A4:=Lib.hid A4';clear A4';have hk':k < cl.length:=hk;clear h1 hB hz hh ho e1 hA hc S hn hk;simp only at *;generalize rat cl k=y at *;generalize cl.length=q at *;have y4:Hid (arr4 y=#[.int .u8 y.1,.int .u8 y.2.1,.int .u8 y.2.2.1,.int .u8 y.2.2.2]):=rfl;unfold arr4 z4 at H1 HB HZ HH
 go_enter Tryd.func23,Tryd.ntmps23
 go_wp2_with fail;generalize (w.alloc (.cells #[.int .u8 0,.int .u8 0,.int .u8 0,.int .u8 0] 26))=W at *;refine HH.out.mono ?_;rintro e w1 ⟨rfl,b1⟩;have hz:=HZ.out;have G:w1.heap[w.heap.size]? = some (.cells (arr4 z4) 26 (0,0)):=(b1.block _ (by omega)).trans H1.out;have B1:=Lib.hid (HB.out.trans (b1.mono HB.out.size));have S1:=SS.out.below B1.out;have M1:=Lib.hid S1.mp;have c0:w1.cell? ⟨s,0,none⟩=some m:=row_cell S1.row 0;have hF:=run_fieldF;have q0:=(B1.out.cell (World.block_lt_of_cell? _ _ A4.out.1)).trans A4.out.1;have q1:=(B1.out.cell (World.block_lt_of_cell? _ _ A4.out.2.1)).trans A4.out.2.1;have q2:=(B1.out.cell (World.block_lt_of_cell? _ _ A4.out.2.2.1)).trans A4.out.2.2.1;have q3:=(B1.out.cell (World.block_lt_of_cell? _ _ A4.out.2.2.2)).trans A4.out.2.2.2;have d0:w1.cell? ⟨w.heap.size,0,none⟩=some (.int .u8 0):=row_cell G 0;have d1:w1.cell? ⟨w.heap.size,1,none⟩=some (.int .u8 0):=row_cell G 1;have d2:w1.cell? ⟨w.heap.size,2,none⟩=some (.int .u8 0):=row_cell G 2;have d3:w1.cell? ⟨w.heap.size,3,none⟩=some (.int .u8 0):=row_cell G 3;have k0:=row_frozen G 0;have k1:=row_frozen G 1;have k2:=row_frozen G 2;have k3:=row_frozen G 3;have R2:=Lib.hid (sto4_row G y);have B2:=Lib.hid (sto4_below (o:=0) (r:=y) B1.out (show w.heap.size≤w.heap.size by omega));clear b1 HH HB H1 HZ hz G B1 S1 SS A4
 go_wp2_with (at_lookup;refine at_look0 rfl _ _ rfl M1.out rfl _ rfl HN.out _ L.out ?_)
 (try simp only [Exit.inBlock,Exit.then])
 exact bodyPost_ret (results_rec (p:=6) (r:=7) rfl _ _ w.heap.size y (.bool true) rfl rfl R2.out) rfl ⟨rfl,B2.out⟩
theorem get_any {w:World} {s:Nat} {F:Nat→Prop} {m:Value} {C:List Ent} {d:Int} (S:Sto w s F m C d) {n:Int} (hn:Wf n) (r:Int) :
 Calls Tryd.prog 23 #[.pointer (some ⟨s,0,none⟩),.int .i64 n,.int .i64 r] w (GetPost w (gV (C.map Ent.abs) n r) (gB (C.map Ent.abs) n r)):=by
 cases hk:look Ent.n n C with
 | none =>
   rw [gV_none hk,gB_none hk];refine get_no w _ n r fun W hb=>?_;have:=has_any (S.below hb) hn r
   rwa [gB_none hk] at this
 | some c =>
   by_cases hr:0≤r∧r < c.l.length
   ·obtain ⟨k,rfl⟩:∃ k:Nat,r=k:=⟨r.toNat,by omega⟩
    rw [gV_some hk,gB_some hk,if_pos hr,decide_eq_true hr,Int.toNat_natCast];exact get_yes S hn k hk (by omega)
   ·rw [gV_some hk,gB_some hk,if_neg hr,decide_eq_false hr]
    refine get_no w _ n r fun W hb=>?_;have:=has_any (S.below hb) hn r
    rwa [gB_some hk,decide_eq_false hr] at this
end Go.Proofs.YtelgnhmcnfibnaaDoor.Fs
namespace Go.Proofs.YtelgnhmcnfibnaaDoor.Fs
open Go.RowKit Go.Maps
open Fl (R4 z4 K4 rec4 rat goodF goodFB okR okL doE newR file arr4 sto4 sto4_own sto4_other sto4_size sto4_below own4 row_cell)
open Rw (Rd Ow At)
theorem apart_symm {c e:Ent} (h:apart c e):apart e c:=fun k hk hc=>h k hc hk
theorem pw_ins {α:Type} {κ:α→Int} {R:α→α→Prop} (sy:∀ {x y},R x y→R y x) {c:α} : ∀ {l:List α},l.Pairwise R→(∀ x∈l,R c x)→(ins κ c l).Pairwise R
 | [],_,_=>by simp [ins]
 | y :: r,h,hc=>by
   obtain ⟨h1,h2⟩:=List.pairwise_cons.1 h;unfold ins
   split
   ·exact List.pairwise_cons.2 ⟨hc,h⟩
   ·refine List.pairwise_cons.2 ⟨fun z hz=>?_,pw_ins sy h2 fun x hx=>hc x (List.mem_cons_of_mem _ hx)⟩
    rcases mem_ins.1 hz with rfl | hz
    ·exact sy (hc y List.mem_cons_self)
    ·exact h1 z hz
theorem pw_put {c:Ent} {C:List Ent} (h:C.Pairwise apart) (hc:∀ e∈C,e.n≠c.n→apart c e):(put Ent.n c C).Pairwise apart:=by
 unfold put;refine pw_ins apart_symm (h.filter _) fun e he=>?_;obtain ⟨h1,h2⟩:=List.mem_filter.1 he;exact hc e h1 (by simpa using h2)
section
variable {w w':World} {s:Nat} {F F':Nat→Prop} {m m':Value} {C:List Ent} {d d':Int} {c:Ent}
theorem Sto.put (h:Sto w s F m C d) (row:w'.heap[s]? = some (.cells #[m',.int .i64 d'] 56 (0,0))) (hF:∀ k,F k→F' k) (mp:Mp w' F' m' (put Ent.n c C)) (old:∀ e∈C,e.n≠c.n→Ow K4 w' 0 26 e.sl e.l)
 (new:Ow K4 w' 0 26 c.sl c.l) (mine:∀ k,c.sl.ownBlock=some k→F' k) (far:∀ e∈C,e.n≠c.n→Fs.apart c e) (hn:0≤c.n∧c.n≤63) (hg:goodF c.p c.l) (hl:okL c.l) (low:∀ k,F' k→k < w'.heap.size):Sto w' s F' m' (Fs.put Ent.n c C) d':=by
 refine ⟨row,hF s h.foot,mp,fun e he=>?_,fun e he k hk=>?_,pw_put h.apart far,?_,low⟩
 ·rcases mem_put.1 he with rfl | ⟨he,hne⟩
  ·exact new
  ·exact old e he hne
 ·rcases mem_put.1 he with rfl | ⟨he,hne⟩
  ·exact mine k hk
  ·exact hF k (h.mine e he k hk)
 ·rw [abs_put]
  exact h.ok.put hn hg hl
end
end Go.Proofs.YtelgnhmcnfibnaaDoor.Fs
namespace Go.Proofs.YtelgnhmcnfibnaaDoor.Fs
open Go.RowKit Go.Maps
open Fl (R4 z4 K4 rec4 rat goodF goodFB okR okL doE newR file arr4 sto4 sto4_own sto4_other sto4_size sto4_below own4 row_cell row_frozen ret_bool)
open Rw (Rd Ow At)
attribute [local irreducible] Sd.wpSd wpQuiet Sf.wpSf
theorem box_rec (w:World) (x:R4):(w.alloc (.cells (arr4 x) 26)).heap[w.heap.size]? = some (.cells (arr4 x) 26 (0,0))∧Below w.heap.size w (w.alloc (.cells (arr4 x) 26))∧(w.alloc (.cells (arr4 x) 26)).heap.size=w.heap.size+1:=⟨heap_alloc_new w _,(Below.refl w.heap.size w).alloc (Nat.le_refl _) _,by simp⟩
end Go.Proofs.YtelgnhmcnfibnaaDoor.Fs
namespace Go.Proofs.YtelgnhmcnfibnaaDoor.Fs
open Go.RowKit Go.Maps
open Fl (R4 z4 K4 rec4 rat goodF goodFB okR okL doE newR file arr4 sto4 sto2 sto2_row sto2_other sto2_below sto2_size row_cell row_frozen good_any)
open Rw (Rd Ow At)
attribute [local irreducible] Sd.wpSd wpQuiet Sf.wpSf
section
variable {w W W':World} {s b:Nat} {F:Nat→Prop} {C:List Ent} {d:Int} {c:Ent}
theorem Sto.place (h:Sto w s F (.map (some b)) C d) (hb:Below w.heap.size w W) (hg:W.grownBy W' (some b)) (mp:Mp W' F (.map (some b)) (Fs.put Ent.n c C)) (ow:Ow K4 W w.heap.size 26 c.sl c.l) (hn:0≤c.n∧c.n≤63) (hgd:goodF c.p c.l) (hl:okL c.l) :
 St W' s (Fx F w W') ((Fs.put Ent.n c C).map Ent.abs) d∧Only F w W':=by
 have hne:=h.map_ne;have hFb:=h.mp.isMap.1;have hbl:=h.low b hFb;have hsl:=h.low s h.foot;have O:Only F w W':=(Only.of_below hb).trans (Only.grown (G:=fun k=>k=b) rfl hg) fun k _ e=>e ▸ hFb;have off:∀ k,c.sl.ownBlock=some k→w.heap.size≤k∧k < W.heap.size:=ow_new ow;refine ⟨⟨_,_,h.put (w':=W') (d':=d) (F':=Fx F w W') ?_ (fun k hk=>.inl hk) (mp.wide fun k hk=>.inl hk) (fun e he hne=>?_) ?_ (fun k hk=>.inr ⟨(off k hk).1,Nat.lt_of_lt_of_le (off k hk).2 hg.size⟩) (fun e he hne k hk hk'=>?_) hn hgd hl (Fx.low h.low O.size),rfl⟩,O⟩
 ·rw [hg.block s (Nat.lt_of_lt_of_le hsl hb.size) (by intro e;injection e with e;exact hne e.symm),hb.block s hsl]
  exact h.row
 ·exact ow_only (G:=fun k=>k=b) ((h.own e he).keep hb) (fun k hk e'=>(h.off he).2 b rfl (by rw [hk,e'])) (Only.grown rfl hg)
 ·exact ow_only (G:=fun k=>k=b) (ow.low (Nat.zero_le _)) (fun k hk e'=>by have:=(off k hk).1;omega) (Only.grown rfl hg)
 ·have:=(off k hk).1
  have:=h.low k (h.mine e he k hk')
  omega
theorem Sto.make (h:Sto w s F (.map none) C d) (hb:Below w.heap.size w W):Sto ((W.alloc (.map #[] 0)).setCell ⟨s,0,none⟩ (.map (some W.heap.size))) s (Fx F w ((W.alloc (.map #[] 0)).setCell ⟨s,0,none⟩ (.map (some W.heap.size)))) (.map (some W.heap.size)) C d∧Only F w ((W.alloc (.map #[] 0)).setCell ⟨s,0,none⟩ (.map (some W.heap.size))):=by
 have hC:C = []:=by
  rcases h.mp with ⟨_,e⟩ | ⟨b,e,_⟩
  ·exact e
  ·cases e
 subst hC;have hsl:=h.low s h.foot;have B2:Below w.heap.size w (W.alloc (.map #[] 0)):=hb.alloc hb.size _;have O:Only F w ((W.alloc (.map #[] 0)).setCell ⟨s,0,none⟩ (.map (some W.heap.size))):=(Only.of_below B2).trans (Only.set F _ (a:=⟨s,0,none⟩) h.foot _) fun _ _ g=>g;refine ⟨⟨?_,.inl h.foot,.inr ⟨W.heap.size,rfl,.inr ⟨hb.size,by simp [World.setCell]⟩,?_⟩,nofun,nofun,List.Pairwise.nil,h.ok,Fx.low h.low O.size⟩,O⟩
 ·have:=Rw.heap_setCell_same (w:=W.alloc (.map #[] 0)) (g:=s) (j:=0) ((B2.block s hsl).trans h.row) (.map (some W.heap.size))
  rw [this]
  simp
 ·have:=World.ownsMap_made (H:=Value) W Tryd.prog 3 Rh
  exact this.setCell (a:=⟨s,0,none⟩) (fun e=>by have:=hb.size;simp only at e;omega) _
theorem Fx.trans {w1 w2:World} (h1:Only F w w1) (h2:w1.heap.size≤w2.heap.size):∀ k,Fx (Fx F w w1) w1 w2 k→Fx F w w2 k:=by
 have:=h1.size;rintro k ((g | ⟨a,b⟩) | ⟨a,b⟩)
 ·exact .inl g
 ·exact .inr ⟨a,by omega⟩
 ·exact .inr ⟨by omega,b⟩
theorem Only.trans' {w1 w2:World} (h1:Only F w w1) (h2:Only (Fx F w w1) w1 w2):Only F w w2:=h1.trans h2 fun k hk g=>by
 rcases g with g | ⟨a,_⟩
 ·exact g
 ·omega
end
def AddPost (w:World) (s:Nat) (F:Nat→Prop) (d:Int) (z:Int) (A':Abs) (e:Ending) (w':World):Prop:=e = .returned (.int .i64 z)∧St w' s (Fx F w w') A' d∧Only F w w'
theorem box_file (w:World) (p:Int) (v:Value):(w.alloc (.cells #[.int .i64 p,v] 46)).heap[w.heap.size]? = some (.cells #[.int .i64 p,v] 46 (0,0))∧Below w.heap.size w (w.alloc (.cells #[.int .i64 p,v] 46))∧(w.alloc (.cells #[.int .i64 p,v] 46)).heap.size=w.heap.size+1:=⟨heap_alloc_new w _,(Below.refl w.heap.size w).alloc (Nat.le_refl _) _,by simp⟩
theorem add_1 (w:World) (s:Nat) (n p:Int) (a:Option Addr) (q cap:Nat) (hn:¬ (0≤n∧n≤63)):Calls Tryd.prog 11 #[.pointer (some ⟨s,0,none⟩),.int .i64 n,.agg #[.int .i64 p,.slice a q cap]] w fun e w'=>e = .returned (.int .i64 1)∧Below w.heap.size w w':=by
 by_cases h:n < 0
 ·go_enter Tryd.func11,Tryd.ntmps11
  go_wp2
  go_ret
  exact ⟨rfl,(Below.refl w.heap.size w).alloc (Nat.le_refl _) _⟩
 ·have h2:64≤n:=by omega
  go_enter Tryd.func11,Tryd.ntmps11
  go_wp2
  go_ret
  exact ⟨rfl,(Below.refl w.heap.size w).alloc (Nat.le_refl _) _⟩
theorem add_2 (w:World) (s:Nat) (n p:Int) (a:Option Addr) (q cap:Nat) (l:List R4) (R:Rd K4 w (.slice a q cap) l) (hn:0≤n∧n≤63) (hg:¬ goodF p l):Calls Tryd.prog 11 #[.pointer (some ⟨s,0,none⟩),.int .i64 n,.agg #[.int .i64 p,.slice a q cap]] w fun e w'=>e = .returned (.int .i64 2)∧Below w.heap.size w w':=by
 obtain ⟨h1,hB,hz⟩:=box_file w p (.slice a q cap);have HB:=Lib.hid hB;have GA:=good_any _ p (.slice a q cap) l (R.below hB);rw [show goodFB p l=false from decide_eq_false hg] at GA;have HG:=Lib.hid GA;have n1:0≤n:=hn.1;have n2:n < 64:=by omega
 clear h1 hB hz R GA hg hn;unfold file at HG
 go_enter Tryd.func11,Tryd.ntmps11
 go_wp2_with fail;refine HG.out.mono ?_;rintro e w1 ⟨rfl,b1⟩;have B1:=Lib.hid (HB.out.trans (b1.mono HB.out.size));clear b1 HG HB;go_wp2
 go_ret
 exact ⟨rfl,B1.out⟩
set_option maxHeartbeats 1000000 in
theorem add_10 {w:World} {s:Nat} {F:Nat→Prop} {m:Value} {C:List Ent} {d:Int} (S:Sto w s F m C d) (n p:Int) (a:Option Addr) (q cap:Nat) (l:List R4) (R:Rd K4 w (.slice a q cap) l) (hn:0≤n∧n≤63) (hg:goodF p l) {c:Ent} (hc:look Ent.n n C=some c) :
 Calls Tryd.prog 11 #[.pointer (some ⟨s,0,none⟩),.int .i64 n,.agg #[.int .i64 p,.slice a q cap]] w fun e w'=>e = .returned (.int .i64 10)∧Below w.heap.size w w':=by
 obtain ⟨h1,hB,hz⟩:=box_file w p (.slice a q cap);have HB:=Lib.hid hB;have GA:=good_any _ p (.slice a q cap) l (R.below hB);rw [show goodFB p l=true from decide_eq_true hg] at GA;have HG:=Lib.hid GA;have SS:=Lib.hid S;have n1:0≤n:=hn.1;have n2:n < 64:=by omega
 have HN:Hid (Wf n):=WalkArith.wf_i64 (by omega);have L:=Lib.hid (lv_some hc);have LB:=Lib.hid (lb_some hc);clear h1 hB hz R GA hg hn S hc;unfold file at HG
 go_enter Tryd.func11,Tryd.ntmps11
 go_wp2_with fail;refine HG.out.mono ?_;rintro e w1 ⟨rfl,b1⟩;have B1:=Lib.hid (HB.out.trans (b1.mono HB.out.size));have S1:=SS.out.below B1.out;have c0:w1.cell? ⟨s,0,none⟩=some m:=row_cell S1.row 0;have M:=Lib.hid S1.mp;clear b1 HG HB S1 SS
 go_wp2_with (at_lookup;refine at_look1 rfl _ _ rfl M.out rfl _ rfl HN.out _ L.out _ LB.out ?_)
 go_ret
 exact ⟨rfl,B1.out.alloc B1.out.size _⟩
end Go.Proofs.YtelgnhmcnfibnaaDoor.Fs
namespace Go.Proofs.YtelgnhmcnfibnaaDoor.Fs
open Go.RowKit Go.Maps
open Fl (R4 z4 K4 rec4 rat goodF goodFB okR okL doE newR file arr4 row_cell row_frozen good_any)
open Rw (Rd Ow At)
attribute [local irreducible] Sd.wpSd wpQuiet Sf.wpSf
structure AddC (s:Nat) (m:Value) (d:Int) (g:Nat) (p:Int) (v:Value) (W:World):Prop where
 row:W.heap[s]? = some (.cells #[m,.int .i64 d] 56 (0,0))
 box:W.heap[g]? = some (.cells #[.int .i64 p,v] 46 (0,0))
theorem mk_eql (b:Option Nat) (W:World):(binOp .eql 54 (.map b) (.map none)).run Tryd.prog W = .ok (.bool b.isNone) W:=run_eql_map_nil W _ _ _ b Tryd.underlying54
theorem off_s {w:World} {v:Value} {l:List R4} {s:Nat} {o:Option Nat} {d:Int} {T:TypeId} (R:Rd K4 w v l) (h0:0 < l.length) (row:w.heap[s]? = some (.cells #[.map o,.int .i64 d] T (0,0))):∀ k,v.ownBlock=some k→k=s→False:=fun k hk e=>by
 obtain ⟨a,cap,rfl,_,_,h3⟩:=R;obtain ⟨b,off,rfl,hA⟩:=h3 h0;obtain rfl:b=k:=by simpa [Value.ownBlock] using hk
 subst e;have c:=hA 0 h0 0 _ rfl;have r:=row_cell row (off+0 * 4+0);have:w.cell? ⟨b,off+0 * 4+0,none⟩=some (.int .u8 (l.getD 0 z4).1):=c;rw [r] at this
 match off,this with
 | 0,h=>simp at h
 | 1,h=>simp at h
 | k+2,h=>simp at h
set_option maxHeartbeats 2000000 in
theorem add_some {w:World} {s b:Nat} {F:Nat→Prop} {C:List Ent} {d:Int} (S:Sto w s F (.map (some b)) C d) (n p:Int) (a:Option Addr) (q cap:Nat) (l:List R4) (R:Rd K4 w (.slice a q cap) l) (hn:0≤n∧n≤63) (hg:goodF p l) (hl:okL l) (hc:look Ent.n n C=none) :
 Calls Tryd.prog 11 #[.pointer (some ⟨s,0,none⟩),.int .i64 n,.agg #[.int .i64 p,.slice a q cap]] w (AddPost w s F d 0 (put key (n,p,l) (C.map Ent.abs))):=by
 obtain ⟨h1,hB,hz⟩:=box_file w p (.slice a q cap);have HB:=Lib.hid hB;have H1:=Lib.hid h1;have HZ:=Lib.hid hz;have RR:=Lib.hid R;have HL:=Lib.hid hl;have HGD:=Lib.hid hg;have GA:=good_any _ p (.slice a q cap) l (R.below hB);rw [show goodFB p l=true from decide_eq_true hg] at GA;have HG:=Lib.hid GA;have SS:=Lib.hid S;have n1:0≤n:=hn.1;have n2:n < 64:=by omega
 have HN:Hid (Wf n):=WalkArith.wf_i64 (by omega);have L:=Lib.hid (lv_none hc);have LB:=Lib.hid (lb_none hc);have FIN:Hid (∀ (u:Value) W W',Below w.heap.size w W→W.grownBy W' (some b)→Ow K4 W w.heap.size 26 u l→(∀ c:Ent,c.n=n→c.file=file p u→c.l=l→Mp W' F (.map (some b)) (put Ent.n c C))→AddPost w s F d 0 (put key (n,p,l) (C.map Ent.abs)) (.returned (.int .i64 0)) W'):=fun u W W' hb hgr ow mp=>by
  obtain ⟨au,cu,rfl,_⟩:=ow.slice;obtain ⟨S1,O1⟩:=S.place (c:=⟨n,p,au,cu,l⟩) hb hgr (mp _ rfl rfl rfl) ow hn hg hl;rw [abs_put] at S1;exact ⟨rfl,S1,O1⟩
 have hne:b≠s:=S.map_ne;have hbl:=S.low b S.mp.isMap.1;have hlen:=S.len;clear h1 hB hz R GA hg hn S hc hl;unfold file at HG
 go_enter Tryd.func11,Tryd.ntmps11
 go_wp2_with fail;generalize (w.alloc (.cells #[.int .i64 p,.slice a q cap] 46))=W at *;refine HG.out.mono ?_;rintro e w1 ⟨rfl,b1⟩;have B1:=Lib.hid (HB.out.trans (b1.mono HB.out.size));have S1:=SS.out.below B1.out;have c0:w1.cell? ⟨s,0,none⟩=some (.map (some b)):=row_cell S1.row 0;have M:=Lib.hid S1.mp;have hz:=HZ.out;have G1:=Lib.hid ((b1.block w.heap.size (by omega)).trans H1.out);have hE:=mk_eql (some b);have B2:=Lib.hid (B1.out.alloc B1.out.size (.cells #[.int .i64 0,.slice none 0 0] 46));have G2:=Lib.hid ((Below.heap_alloc w1 (.cells #[.int .i64 0,.slice none 0 0] 46) w.heap.size (by have:=b1.size;omega)).trans G1.out);have c2:(w1.alloc (.cells #[.int .i64 0,.slice none 0 0] 46)).cell? ⟨s,0,none⟩=some (.map (some b)):=row_cell (SS.out.below B2.out).row 0;clear b1 HG HB S1 G1 H1 hz
 go_wp2_with (at_lookup;refine at_look1 rfl _ _ rfl M.out rfl _ rfl HN.out _ L.out _ LB.out ?_)
 clear c0 c2 M hE B1;generalize (w1.alloc (.cells #[.int .i64 0,.slice none 0 0] 46))=W2 at *;have S2:=Lib.hid (SS.out.below B2.out);have C0:AddC s (.map (some b)) d w.heap.size p (.slice a q cap) W2.drew:=⟨S2.out.row,G2.out⟩;have c0:=Sc.cell_in (C:=AddC s (.map (some b)) d w.heap.size p (.slice a q cap)) (a:=⟨s,0,none⟩) (fun W' h=>row_cell h.row 0);have r0:=Sc.cell_in (C:=AddC s (.map (some b)) d w.heap.size p (.slice a q cap)) (a:=⟨w.heap.size,0,none⟩) (fun W' h=>row_cell h.box 0);have r1:=Sc.cell_in (C:=AddC s (.map (some b)) d w.heap.size p (.slice a q cap)) (a:=⟨w.heap.size,1,none⟩) (fun W' h=>row_cell h.box 1);have ne:Nonempty (Sc.In (AddC s (.map (some b)) d w.heap.size p (.slice a q cap))):=⟨⟨_,C0⟩⟩;have BW:=Lib.hid (B2.out.trans ((Below.refl W2.heap.size W2).drew.mono B2.out.size));refine Sc.start (AddC s (.map (some b)) d w.heap.size p (.slice a q cap)) [(false,0),(false,1),(false,2),(false,3),(false,4),(false,5),(true,6),(true,7)] (by kernel_rfl) (by kernel_rfl) (by kernel_rfl) C0 ?_;dsimp only [Sd.picks,List.getElem?_cons_succ,List.getElem?_cons_zero]
 repeat (refine Sd.lit ?_;quiet_step (fail);refine wpQuiet_nil ?_)
 refine Sd.call (by rfl) (fun K hK=>?_);have CA:=copied_any W2.drew p (.slice a q cap) l (RR.out.below BW.out) (by have:=HGD.out.2.2.2.1;omega);unfold file at CA;go_simp;refine CA.mono ?_;rintro e w3 ⟨u,rfl,o3,b3⟩;have hszz:w.heap.size≤W2.drew.heap.size:=B2.out.size;have B3:=Lib.hid (BW.out.trans (b3.mono hszz));have O3:=Lib.hid (o3.low hszz);have S3:=SS.out.below B3.out;have G3:w3.heap[w.heap.size]? = _:=(b3.block _ (by have:=HZ.out;have:=lt_of_block G2.out;exact this)).trans C0.box;refine hK _ _ (Sc.Cl.of ⟨S3.row,G3⟩) ?_;clear hK K b3 o3 CA C0 G2 B2 BW c0 r0 r1 S2;have M3:=Lib.hid S3.mp;have R3:=Lib.hid S3.row;have G3':=Lib.hid G3;clear S3 G3;obtain ⟨au,cu,rfl,_⟩:=O3.out.slice;refine Sd.call (by rfl) (fun K hK=>?_);refine wp_put _ _ _ rfl rfl M3.out ⟨n,p,au,cu,l⟩ rfl rfl HN.out (by unfold maxLen;omega) (fun w4 m4 g4=>?_)
 have RES:=Lib.hid (FIN.out _ w3 w4 B3.out g4 O3.out (fun c e1 e2 e3=>by
  obtain ⟨cn,cp,ca,cc,cl⟩:=c;simp only at e1 e3;subst e1 e3;unfold Ent.file Fl.file Ent.sl at e2;injection e2 with e2;have e4:=congrArg (fun t:Array Value=>t[0]?) e2;have e5:=congrArg (fun t:Array Value=>t[1]?) e2
  simp at e4 e5
  obtain ⟨rfl,rfl⟩:=e5;subst e4
  exact m4))
 have hws:=lt_of_block R3.out;have hwg:=lt_of_block G3'.out;refine hK _ _ (Sc.Cl.of ⟨(g4.block s hws (by intro e;injection e with e;exact hne e.symm)).trans R3.out,(g4.block w.heap.size hwg (by intro e;injection e with e;omega)).trans G3'.out⟩) ?_;clear hK K m4 g4 FIN;refine Sd.done ?_;go_wp2
 go_ret
 exact RES.out
set_option maxHeartbeats 2000000 in
theorem add_make {w:World} {s:Nat} {F:Nat→Prop} {C:List Ent} {d:Int} (S:Sto w s F (.map none) C d) (n p:Int) (a:Option Addr) (q cap:Nat) (l:List R4) (R:Rd K4 w (.slice a q cap) l) (hn:0≤n∧n≤63) (hg:goodF p l) (hl:okL l) (hc:look Ent.n n C=none) :
 Calls Tryd.prog 11 #[.pointer (some ⟨s,0,none⟩),.int .i64 n,.agg #[.int .i64 p,.slice a q cap]] w (AddPost w s F d 0 (put key (n,p,l) (C.map Ent.abs))):=by
 obtain ⟨h1,hB,hz⟩:=box_file w p (.slice a q cap);have HB:=Lib.hid hB;have H1:=Lib.hid h1;have HZ:=Lib.hid hz;have RR:=Lib.hid R;have HL:=Lib.hid hl;have HGD:=Lib.hid hg;have GA:=good_any _ p (.slice a q cap) l (R.below hB);rw [show goodFB p l=true from decide_eq_true hg] at GA;have HG:=Lib.hid GA;have SS:=Lib.hid S;have n1:0≤n:=hn.1;have n2:n < 64:=by omega
 have HN:Hid (Wf n):=WalkArith.wf_i64 (by omega);have L:=Lib.hid (lv_none hc);have LB:=Lib.hid (lb_none hc);have HNG:=Lib.hid (And.intro hn (And.intro hg hl));have hlen:=S.len;have hsl:=S.low s S.foot;clear h1 hB hz R GA hg hn S hc hl;unfold file at HG;have hmm:=@run_makeMap Tryd.prog
 go_enter Tryd.func11,Tryd.ntmps11
 go_wp2_with fail;generalize (w.alloc (.cells #[.int .i64 p,.slice a q cap] 46))=W at *;refine HG.out.mono ?_;rintro e w1 ⟨rfl,b1⟩;have B1:=Lib.hid (HB.out.trans (b1.mono HB.out.size));have S1:=SS.out.below B1.out;have c0:w1.cell? ⟨s,0,none⟩=some (.map none):=row_cell S1.row 0;have M:=Lib.hid S1.mp;have hz:=HZ.out;have G1:=Lib.hid ((b1.block w.heap.size (by omega)).trans H1.out);have hE:=mk_eql none;have B2:=Lib.hid (B1.out.alloc B1.out.size (.cells #[.int .i64 0,.slice none 0 0] 46));have G2:=Lib.hid ((Below.heap_alloc w1 (.cells #[.int .i64 0,.slice none 0 0] 46) w.heap.size (by have:=b1.size;omega)).trans G1.out);have S2:=SS.out.below B2.out;have c2:(w1.alloc (.cells #[.int .i64 0,.slice none 0 0] 46)).cell? ⟨s,0,none⟩=some (.map none):=row_cell S2.row 0;have hz2:(w1.alloc (.cells #[.int .i64 0,.slice none 0 0] 46)).heap.size=w1.heap.size+1:=by simp
 have MK:=SS.out.make B2.out;have S3:=(S2.below ((Below.refl _ _).alloc (Nat.le_refl _) (.map #[] 0)));have c3:((w1.alloc (.cells #[.int .i64 0,.slice none 0 0] 46)).alloc (.map #[] 0)).cell? ⟨s,0,none⟩=some (.map none):=row_cell S3.row 0;have f3:((w1.alloc (.cells #[.int .i64 0,.slice none 0 0] 46)).alloc (.map #[] 0)).frozen? ⟨s,0,none⟩=false:=row_frozen S3.row 0;have hgs:w.heap.size≠s:=by omega
 have G3:=Lib.hid ((Below.heap_setCell ((w1.alloc (.cells #[.int .i64 0,.slice none 0 0] 46)).alloc (.map #[] 0)) ⟨s,0,none⟩ (.map (some (w1.heap.size+1))) w.heap.size hgs).trans ((Below.heap_alloc (w1.alloc (.cells #[.int .i64 0,.slice none 0 0] 46)) (.map #[] 0) w.heap.size (by have:=B2.out.size;have:=b1.size;omega)).trans G2.out));rw [hz2] at MK;have S3':=Lib.hid MK.1;have O3':=Lib.hid MK.2;have OS:Only (fun k=>k=s) w ((((w1.alloc (.cells #[.int .i64 0,.slice none 0 0] 46)).alloc (.map #[] 0)).setCell ⟨s,0,none⟩ (.map (some (w1.heap.size+1))))):=(Only.of_below (B2.out.alloc B2.out.size _)).trans (Only.set (fun k=>k=s) _ (a:=⟨s,0,none⟩) rfl _) fun _ _ g=>g;have R3:=Lib.hid (rd_only RR.out (fun h0 k hk e=>off_s RR.out h0 SS.out.row k hk e) OS);clear b1 HG HB S1 G1 H1 hz G2 S2 S3 MK hz2 OS
 go_wp2_with (at_lookup;refine at_look1 rfl _ _ rfl M.out rfl _ rfl HN.out _ L.out _ LB.out ?_)
 clear c0 c2 c3 f3 M hE hmm B2 B1;generalize hb:w1.heap.size+1=b at *;clear hb;generalize (((w1.alloc (.cells #[.int .i64 0,.slice none 0 0] 46)).alloc (.map #[] 0)).setCell ⟨s,0,none⟩ (.map (some b)))=W2 at *;have hne:b≠s:=S3'.out.map_ne;have hcl:C.length < maxLen:=by unfold maxLen;omega
 have hws2:w.heap.size < W2.heap.size:=lt_of_block G3.out;have C0:AddC s (.map (some b)) d w.heap.size p (.slice a q cap) W2.drew:=⟨S3'.out.row,G3.out⟩;have c0:=Sc.cell_in (C:=AddC s (.map (some b)) d w.heap.size p (.slice a q cap)) (a:=⟨s,0,none⟩) (fun W' h=>row_cell h.row 0);have r0:=Sc.cell_in (C:=AddC s (.map (some b)) d w.heap.size p (.slice a q cap)) (a:=⟨w.heap.size,0,none⟩) (fun W' h=>row_cell h.box 0);have r1:=Sc.cell_in (C:=AddC s (.map (some b)) d w.heap.size p (.slice a q cap)) (a:=⟨w.heap.size,1,none⟩) (fun W' h=>row_cell h.box 1);have ne:Nonempty (Sc.In (AddC s (.map (some b)) d w.heap.size p (.slice a q cap))):=⟨⟨_,C0⟩⟩;have BW:Hid (Below W2.heap.size W2 W2.drew):=Lib.hid ((Below.refl W2.heap.size W2).drew);have hFb:=S3'.out.mp.isMap.1;have hbl:=S3'.out.low b hFb;have hbg:w.heap.size≠b:=fun e=>by
  obtain ⟨_,es,cl,hm⟩:=S3'.out.mp.isMap;rw [← e] at hm;have:=G3.out.symm.trans hm
  cases this
 refine Sc.start (AddC s (.map (some b)) d w.heap.size p (.slice a q cap)) [(false,0),(false,1),(false,2),(false,3),(false,4),(false,5),(true,6),(true,7)] (by kernel_rfl) (by kernel_rfl) (by kernel_rfl) C0 ?_;dsimp only [Sd.picks,List.getElem?_cons_succ,List.getElem?_cons_zero]
 repeat (refine Sd.lit ?_;quiet_step (fail);refine wpQuiet_nil ?_)
 refine Sd.call (by rfl) (fun K hK=>?_);have CA:=copied_any W2.drew p (.slice a q cap) l (R3.out.below BW.out) (by have:=HGD.out.2.2.2.1;omega);unfold file at CA;go_simp;refine CA.mono ?_;rintro e w3 ⟨u,rfl,o3,b3⟩;have B3:=Lib.hid (BW.out.trans (b3.mono (Nat.le_refl W2.heap.size)));have O3:Hid (Ow K4 w3 W2.heap.size 26 u l):=o3;have S4:=S3'.out.below B3.out;have G4:w3.heap[w.heap.size]? = _:=(b3.block _ hws2).trans C0.box;refine hK _ _ (Sc.Cl.of ⟨S4.row,G4⟩) ?_;clear hK K b3 o3 CA C0 G3 BW c0 r0 r1 R3;have M3:=Lib.hid S4.mp;have R4':=Lib.hid S4.row;have G3':=Lib.hid G4;clear S4 G4;obtain ⟨au,cu,rfl,_⟩:=O3.out.slice;refine Sd.call (by rfl) (fun K hK=>?_);refine wp_put _ _ _ rfl rfl M3.out ⟨n,p,au,cu,l⟩ rfl rfl HN.out hcl (fun w4 m4 g4=>?_);have RES:Hid (AddPost w s F d 0 (put key (n,p,l) (C.map Ent.abs)) (.returned (.int .i64 0)) w4):=by
  obtain ⟨P1,P2⟩:=S3'.out.place (c:=⟨n,p,au,cu,l⟩) B3.out g4 m4 O3.out HNG.out.1 HNG.out.2.1 HNG.out.2.2;rw [abs_put] at P1;exact ⟨rfl,P1.wide (Fx.trans O3'.out P2.size) (Fx.low SS.out.low (O3'.out.trans' P2).size),O3'.out.trans' P2⟩
 have hws:=lt_of_block R4'.out;have hwg:=lt_of_block G3'.out;refine hK _ _ (Sc.Cl.of ⟨(g4.block s hws (by intro e;injection e with e;exact hne e.symm)).trans R4'.out,(g4.block w.heap.size hwg (by intro e;injection e with e;exact hbg e)).trans G3'.out⟩) ?_;clear hK K m4 g4;refine Sd.done ?_;go_wp2
 go_ret
 exact RES.out
theorem look_abs {C:List Ent} {n:Int} : look key n (C.map Ent.abs)=(look Ent.n n C).map Ent.abs:=abs_look n C
theorem add_any {w:World} {s:Nat} {F:Nat→Prop} {A:Abs} {d:Int} (S:St w s F A d) (n p:Int) (v:Value) (l:List R4) (R:Rd K4 w v l) (hl:okL l) :
 Calls Tryd.prog 11 #[.pointer (some ⟨s,0,none⟩),.int .i64 n,file p v] w (AddPost w s F d (addE A n p l) (addA A n p l)):=by
 obtain ⟨m,C,h,rfl⟩:=S;obtain ⟨a,cap,rfl,_⟩:=R.slice;have no:∀ z e w',addE (C.map Ent.abs) n p l=z→z≠0→(e = .returned (.int .i64 z)∧Below w.heap.size w w')→AddPost w s F d (addE (C.map Ent.abs) n p l) (addA (C.map Ent.abs) n p l) e w':=fun z e w' hz h0 ⟨he,b⟩=>by
  unfold AddPost addA;rw [hz,if_neg h0];exact ⟨he,St.fx ⟨m,C,h,rfl⟩ b,Only.of_below b⟩
 by_cases hn:0≤n∧n≤63
 ·by_cases hg:goodF p l
  ·cases hc:look Ent.n n C with
   | some c=>exact (add_10 h n p a _ cap l R hn hg hc).mono fun e w'=>no 10 e w' (by unfold addE;rw [if_pos hn,if_pos hg,look_abs,hc];rfl) (by decide)
   | none =>
     have e0:addE (C.map Ent.abs) n p l=0:=by unfold addE;rw [if_pos hn,if_pos hg,look_abs,hc];rfl
     unfold addA;rw [e0,if_pos rfl]
     rcases h.mp with ⟨rfl,_⟩ | ⟨b,rfl,_,_⟩
     ·exact add_make h n p a _ cap l R hn hg hl hc
     ·exact add_some h n p a _ cap l R hn hg hl hc
  ·exact (add_2 w s n p a _ cap l R hn hg).mono fun e w'=>no 2 e w' (by unfold addE;rw [if_pos hn,if_neg hg]) (by decide)
 ·exact (add_1 w s n p a _ cap hn).mono fun e w'=>no 1 e w' (by unfold addE;rw [if_neg hn]) (by decide)
end Go.Proofs.YtelgnhmcnfibnaaDoor.Fs
namespace Go.Proofs.YtelgnhmcnfibnaaDoor.Fs
open Go.RowKit Go.Extern.Stop Go.Stop Go.Extern
def flt (n e:Int):Value:=.agg #[.int .i64 n,.iface 32 (.int .i64 e)]
def fault (n e:Int):Value:=.iface 150 (flt n e)
theorem isTypeOf (v:Value) (w:World):(Extern.ReflectliteType.typeOf #[.iface 32 v]).run Tryd.prog w = .ok (.iface 115 (.agg #[.pointer (some ⟨1,32,none⟩)])) w:=by kernel_rfl
theorem isTypeOfF (v:Value) (w:World):(Extern.ReflectliteType.typeOf #[.iface 150 v]).run Tryd.prog w = .ok (.iface 115 (.agg #[.pointer (some ⟨1,150,none⟩)])) w:=by kernel_rfl
def compF : Array Value → Sem Value := Extern.ReflectliteType.method fun t => do Rtype.noPackHeld "Comparable" t; pure (.bool (← typeInfo t).comparable)
theorem isComparable (w:World):(compF #[.agg #[.pointer (some ⟨1,32,none⟩)]]).run Tryd.prog w = .ok (.bool true) w:=by kernel_rfl
theorem isMethodComparable (v : Value) (w : World) : (Go.method 297 115 v "Comparable").run Tryd.prog w = .ok (108, v) w := by kernel_rfl
theorem noIsF (v:Value) (xT:TypeId) (w:World):(Instr.typeAssert (.iface 150 v) xT 160 true).run Tryd.prog w = .ok (.tuple #[.nilIface,.bool false]) w:=run_typeAssert_lacksB Tryd.underlying160 (by kernel_rfl) (by kernel_rfl) v xT w
theorem noIsE (v:Value) (xT:TypeId) (w:World):(Instr.typeAssert (.iface 32 v) xT 160 true).run Tryd.prog w = .ok (.tuple #[.nilIface,.bool false]) w:=run_typeAssert_lacksB Tryd.underlying160 (by kernel_rfl) (by kernel_rfl) v xT w
theorem hasUnwrapF (v:Value) (xT:TypeId) (w:World):(Instr.typeAssert (.iface 150 v) xT 123 true).run Tryd.prog w = .ok (.tuple #[.iface 150 v,.bool true]) w:=run_typeAssert_hasB Tryd.underlying123 (by kernel_rfl) v xT w
theorem noUnwrapE (v:Value) (xT:TypeId) (w:World):(Instr.typeAssert (.iface 32 v) xT 123 true).run Tryd.prog w = .ok (.tuple #[.nilIface,.bool false]) w:=run_typeAssert_lacksB Tryd.underlying123 (by kernel_rfl) (by kernel_rfl) v xT w
theorem noUnwrapsE (v:Value) (xT:TypeId) (w:World):(Instr.typeAssert (.iface 32 v) xT 125 true).run Tryd.prog w = .ok (.tuple #[.nilIface,.bool false]) w:=run_typeAssert_lacksB Tryd.underlying125 (by kernel_rfl) (by kernel_rfl) v xT w
theorem methodUnwrap (v : Value) (w : World) : (Go.method 297 150 v "Unwrap").run Tryd.prog w = .ok (118, v) w := by kernel_rfl
theorem eql_errno (a b:Int) (w:World):(binOp .eql 65 (.iface 32 (.int .i64 a)) (.iface 32 (.int .i64 b))).run Tryd.prog w = .ok (.bool (decide (a=b))) w:=by
 have:=Lib.run_eql_iface_int (P:=Tryd.prog) w (t:=65) (tx:=32) (k:=.i64) (q:=.i64) a b Tryd.underlying65 (by kernel_rfl) Tryd.underlying32;rw [this]
 congr 2
theorem eql_types (v u:Value) (w:World):(binOp .eql 65 (.iface 150 v) (.iface 32 u)).run Tryd.prog w = .ok (.bool false) w:=run_eql_iface_types (P:=Tryd.prog) _ _ v u Tryd.underlying65 (by decide) w
theorem ret_b {a b:Bool} (h:a=b):Ending.returned (.bool a) = .returned (.bool b):=by rw [h]
theorem unwrap_any (w:World) (n:Int) (x:Value):Calls Tryd.prog 118 #[.agg #[.int .i64 n,x]] w fun e w'=>e = .returned x∧Below w.heap.size w w':=by
 go_enter Tryd.func118,Tryd.ntmps118
 go_wp2
 go_ret
 exact ⟨rfl,(Below.refl w.heap.size w).alloc (Nat.le_refl _) _⟩
set_option maxHeartbeats 2000000 in
theorem is_loop (n e:Int) (w:World):Calls Tryd.prog 74 #[fault n e,.iface 32 (.int .i64 5),.bool true] w fun ev w'=>ev = .returned (.bool (decide (e=5)))∧Below w.heap.size w w':=by
 have nF:=noIsF;have nE:=noIsE;have uF:=hasUnwrapF;have uE:=noUnwrapE;have vE:=noUnwrapsE;have mU:=methodUnwrap;have hty:=eql_types;have heq:=eql_errno;unfold fault flt
 by_cases h:e=5
 ·have hd:=decide_eq_true h
  go_enter Tryd.func74,Tryd.ntmps74
  go_wp2;refine wp_loop_rounds 2 ?_;rw [rounds_succ]
  go_wp2_with (go_at_call 118;refine (unwrap_any _ _ _).mono ?_;rintro ev w1 ⟨rfl,b1⟩)
  rw [rounds_succ];go_wp2
  go_ret
  exact ⟨ret_b hd.symm,b1⟩
 ·have hd:=decide_eq_false h
  go_enter Tryd.func74,Tryd.ntmps74
  go_wp2;refine wp_loop_rounds 2 ?_;rw [rounds_succ]
  go_wp2_with (go_at_call 118;refine (unwrap_any _ _ _).mono ?_;rintro ev w1 ⟨rfl,b1⟩)
  rw [rounds_succ];go_wp2
  go_ret
  exact ⟨ret_b hd.symm,b1⟩
set_option maxHeartbeats 2000000 in
theorem is_any (n e:Int) (w:World):Calls Tryd.prog 65 #[fault n e,.iface 32 (.int .i64 5)] w fun ev w'=>ev = .returned (.bool (decide (e=5)))∧Below w.heap.size w w':=by
 have h8:=@run_callFunc_extern Tryd.prog 50 _ Extern.ReflectliteType.typeOf Tryd.func50 (by kernel_rfl) (by kernel_rfl) (by kernel_rfl) (by kernel_rfl);have h32:=@run_callFunc_extern Tryd.prog 108 _ compF Tryd.func108 (by kernel_rfl) (by kernel_rfl) (by kernel_rfl) (by kernel_rfl);have tT:=isTypeOf;have cT:=isComparable;have mR:=isMethodComparable;have L:=Lib.hid (is_loop n e w);unfold fault flt at *
 go_enter Tryd.func65,Tryd.ntmps65
 go_wp2_with (go_at_call 74;refine L.out.mono ?_;rintro ev w1 ⟨rfl,b1⟩)
 go_ret
 exact ⟨rfl,b1⟩
end Go.Proofs.YtelgnhmcnfibnaaDoor.Fs
namespace Go.Proofs.YtelgnhmcnfibnaaDoor.Fs
open Go.RowKit Go.Extern.Stop Go.Stop Go.Extern
def valF:Array Value→Sem Value:=fun args=>ReflectliteValue.unpack (args.getD 0 (.tuple #[]))
def typF : Array Value → Sem Value := ReflectliteValue.methodAny (ReflectliteValue.valueError "reflectlite.Value.Type" 0) (fun t _ _ _ => ReflectliteType.toType t)
def nilF : Array Value → Sem Value := ReflectliteValue.method (ReflectliteValue.valueError "reflectlite.Value.IsNil" 0) ReflectliteValue.isNil
def kinF:Array Value→Sem Value:=ReflectliteType.abiMethod fun t=>do pure (.int .u8 (← Rtype.kind t))
def eleF:Array Value→Sem Value:=ReflectliteType.method ReflectliteType.elem
def impF : Array Value → Sem Value := ReflectliteType.relation "Implements" ReflectliteType.implements_
def asgF : Array Value → Sem Value := ReflectliteType.relation "AssignableTo" ReflectliteType.assignableTo
def elvF : Array Value → Sem Value := ReflectliteValue.method (ReflectliteValue.valueError "reflectlite.Value.Elem" 0) ReflectliteValue.elem
theorem valP (t:Addr) (w:World):(valF #[.iface 154 (.pointer (some t))]).run Tryd.prog w = .ok (.agg #[.pointer (some ⟨1,154,none⟩),.pointer (some ⟨w.heap.size,0,none⟩),.int .u64 150]) (w.alloc (.cells #[.pointer (some t)] 154)):=by kernel_rfl
theorem valE (e:Int) (w:World):(valF #[.iface 32 (.int .i64 e)]).run Tryd.prog w = .ok (.agg #[.pointer (some ⟨1,32,none⟩),.pointer (some ⟨w.heap.size,0,none⟩),.int .u64 130]) (w.alloc (.cells #[.int .i64 e] 32)):=by kernel_rfl
theorem typP (a:Addr) (w:World):(typF #[.agg #[.pointer (some ⟨1,154,none⟩),.pointer (some a),.int .u64 150]]).run Tryd.prog w = .ok (.iface 115 (.agg #[.pointer (some ⟨1,154,none⟩)])) w:=by kernel_rfl
theorem mKind (h : Value) (w : World) : (Go.method 297 115 (.agg #[h]) "Kind").run Tryd.prog w = .ok (96, h) w := by kernel_rfl
theorem mElem (h : Value) (w : World) : (Go.method 297 115 (.agg #[h]) "Elem").run Tryd.prog w = .ok (109, .agg #[h]) w := by kernel_rfl
theorem mImp (h : Value) (w : World) : (Go.method 297 115 (.agg #[h]) "Implements").run Tryd.prog w = .ok (110, .agg #[h]) w := by kernel_rfl
theorem mAsg (h : Value) (w : World) : (Go.method 297 115 (.agg #[h]) "AssignableTo").run Tryd.prog w = .ok (107, .agg #[h]) w := by kernel_rfl
theorem kindP (w:World):(kinF #[.pointer (some ⟨1,154,none⟩)]).run Tryd.prog w = .ok (.int .u8 22) w:=by kernel_rfl
theorem kindE (w:World):(kinF #[.pointer (some ⟨1,32,none⟩)]).run Tryd.prog w = .ok (.int .u8 2) w:=by kernel_rfl
theorem elemP (w:World):(eleF #[.agg #[.pointer (some ⟨1,154,none⟩)]]).run Tryd.prog w = .ok (.iface 115 (.agg #[.pointer (some ⟨1,32,none⟩)])) w:=by kernel_rfl
theorem impE (w:World):(impF #[.agg #[.pointer (some ⟨1,32,none⟩)],.iface 115 (.agg #[.pointer (some ⟨1,65,none⟩)])]).run Tryd.prog w = .ok (.bool true) w:=by kernel_rfl
theorem asgE (w:World):(asgF #[.agg #[.pointer (some ⟨1,32,none⟩)],.iface 115 (.agg #[.pointer (some ⟨1,32,none⟩)])]).run Tryd.prog w = .ok (.bool true) w:=by kernel_rfl
theorem asgF' (w:World):(asgF #[.agg #[.pointer (some ⟨1,150,none⟩)],.iface 115 (.agg #[.pointer (some ⟨1,32,none⟩)])]).run Tryd.prog w = .ok (.bool false) w:=by kernel_rfl
theorem noAsF (v:Value) (xT:TypeId) (w:World):(Instr.typeAssert (.iface 150 v) xT 120 true).run Tryd.prog w = .ok (.tuple #[.nilIface,.bool false]) w:=run_typeAssert_lacksB Tryd.underlying120 (by kernel_rfl) (by kernel_rfl) v xT w
theorem rlm (z:Sem Value) (f:TypeId→Addr→Nat→Nat→Sem Value) (v:Value) :
 ReflectliteValue.method z f #[v]=(do match ← ReflectliteValue.parts v with | none=>z | some (t,a,fl)=>f t a fl (fl % 32)):=rfl
theorem partsP (a:Addr) (w:World):(ReflectliteValue.parts (.agg #[.pointer (some ⟨1,154,none⟩),.pointer (some a),.int .u64 150])).run Tryd.prog w = .ok (some (154,a,150)) w:=by kernel_rfl
theorem nilP (a p:Addr) (W:World) (ha:W.cell? a=some (.pointer (some p))):(nilF #[.agg #[.pointer (some ⟨1,154,none⟩),.pointer (some a),.int .u64 150]]).run Tryd.prog W = .ok (.bool false) W:=by
 unfold nilF;rw [rlm];simp only [Sem.run_bind,partsP,Result.andThen]
 simp [ReflectliteValue.isNil,loadVar,isAgg,underlying,Tryd.underlying154,ha,Result.andThen]
theorem elemOfP (w:World):(Rtype.elem? 154).run Tryd.prog w = .ok (some 32) w:=by kernel_rfl
theorem mkE (p:Addr) (w:World):(ReflectliteValue.mk 32 p ReflectliteValue.flagAddr).run Tryd.prog w = .ok (.agg #[.pointer (some ⟨1,32,none⟩),.pointer (some p),.int .u64 386]) w:=by kernel_rfl
theorem elvP (a p:Addr) (W:World) (ha:W.cell? a=some (.pointer (some p))):(elvF #[.agg #[.pointer (some ⟨1,154,none⟩),.pointer (some a),.int .u64 150]]).run Tryd.prog W = .ok (.agg #[.pointer (some ⟨1,32,none⟩),.pointer (some p),.int .u64 386]) W:=by
 unfold elvF;rw [rlm];simp only [Sem.run_bind,partsP,Result.andThen]
 simp [ReflectliteValue.elem,loadVar,isAgg,underlying,Tryd.underlying154,ha,Result.andThen,elemOfP,mkE]
theorem rls (v x:Value):ReflectliteValue.set #[v,x]=(do
 let (some (dst,a,fl),some (src,b,_)):=(← ReflectliteValue.parts v,← ReflectliteValue.parts x)
  | unsupported (.noEntry "extern/(internal/reflectlite.Value).Set.zeroValue")
 if fl / ReflectliteValue.flagAddr % 2 == 0 then unsupported (.noEntry "extern/(internal/reflectlite.Value).Set.unaddressable")
 let val ← loadVar src b
 if ← Rtype.directlyAssignable dst src then storeVar dst a val
 else if ← Rtype.implements dst src then
  if (← Rtype.kind src) == 20 then
   match val with
   | .nilIface => unsupported (.noEntry "extern/reflectlite: a nil value of one interface type handed on as a value of another")
   | _=>storeVar dst a val
  else storeVar dst a (.iface src val)
 else panicString ("reflectlite.Set: value of type " ++ (← Rtype.spelt src) ++ " is not assignable to type " ++ (← Rtype.spelt dst))
 pure (.tuple #[])):=rfl
theorem partsEa (a:Addr) (w:World):(ReflectliteValue.parts (.agg #[.pointer (some ⟨1,32,none⟩),.pointer (some a),.int .u64 386])).run Tryd.prog w = .ok (some (32,a,386)) w:=by kernel_rfl
theorem partsE (a:Addr) (w:World):(ReflectliteValue.parts (.agg #[.pointer (some ⟨1,32,none⟩),.pointer (some a),.int .u64 130])).run Tryd.prog w = .ok (some (32,a,130)) w:=by kernel_rfl
theorem directE (w:World):(Rtype.directlyAssignable 32 32).run Tryd.prog w = .ok true w:=by kernel_rfl
theorem setE (ta b:Addr) (e:Int) (old:Value) (W:World) (hb:W.cell? b=some (.int .i64 e)) (ht:W.cell? ta=some old) (hf:W.frozen? ta=false) :
 (ReflectliteValue.set #[.agg #[.pointer (some ⟨1,32,none⟩),.pointer (some ta),.int .u64 386],.agg #[.pointer (some ⟨1,32,none⟩),.pointer (some b),.int .u64 130]]).run Tryd.prog W
   = .ok (.tuple #[]) (W.setCell ta (.int .i64 e)):=by
 rw [rls];simp only [Sem.run_bind,partsEa,partsE,Result.andThen]
 simp [ReflectliteValue.flagAddr,loadVar,isAgg,underlying,Tryd.underlying32,hb,Result.andThen,directE,storeVar,Value.cells,storeCells,Addr.add]
 rw [run_store Tryd.prog W ta _ _ (by rfl)]
 simp [ht,hf]
end Go.Proofs.YtelgnhmcnfibnaaDoor.Fs
namespace Go.Proofs.YtelgnhmcnfibnaaDoor.Fs
open Go.RowKit Go.Extern.Stop Go.Stop Go.Extern
open Fl (row_cell row_frozen)
def Glob (w:World):Prop:=w.cell? ⟨0,0,none⟩=some (.iface 115 (.agg #[.pointer (some ⟨1,65,none⟩)]))
theorem Glob.below {w w':World} (h:Glob w) (b:Below w.heap.size w w'):Glob w':=(b.cell (World.block_lt_of_cell? _ _ h)).trans h
theorem Glob.only {G:Nat→Prop} {w w':World} (h:Glob w) (hn:¬ G 0) (o:Only G w w'):Glob w':=o.cell h hn
def AsPost (w:World) (tb:Nat) (e:Int) (ev:Ending) (w':World):Prop:=ev = .returned (.bool true)∧w'.heap[tb]? = some (.cells #[.int .i64 e] 32 (0,0))∧Only (fun k=>k=tb) w w'
set_option maxHeartbeats 4000000 in
theorem as_loop (n e:Int) (tb b:Nat) (w:World) (hb:w.cell? ⟨b,0,none⟩=some (.pointer (some ⟨tb,0,none⟩))) (ht:w.heap[tb]? = some (.cells #[.int .i64 0] 32 (0,0))) :
 Calls Tryd.prog 37 #[fault n e,.iface 154 (.pointer (some ⟨tb,0,none⟩)),.agg #[.pointer (some ⟨1,154,none⟩),.pointer (some ⟨b,0,none⟩),.int .u64 150],.iface 115 (.agg #[.pointer (some ⟨1,32,none⟩)])] w (AsPost w tb e):=by
 have h42:=@run_callFunc_extern Tryd.prog 50 _ Extern.ReflectliteType.typeOf Tryd.func50 (by kernel_rfl) (by kernel_rfl) (by kernel_rfl) (by kernel_rfl);have h102:=@run_callFunc_extern Tryd.prog 107 _ asgF Tryd.func107 (by kernel_rfl) (by kernel_rfl) (by kernel_rfl) (by kernel_rfl);have h60:=@run_callFunc_extern Tryd.prog 51 _ elvF Tryd.func51 (by kernel_rfl) (by kernel_rfl) (by kernel_rfl) (by kernel_rfl);have h50:=@run_callFunc_extern Tryd.prog 34 _ valF Tryd.func34 (by kernel_rfl) (by kernel_rfl) (by kernel_rfl) (by kernel_rfl);have h61:=@run_callFunc_extern Tryd.prog 52 _ ReflectliteValue.set Tryd.func52 (by kernel_rfl) (by kernel_rfl) (by kernel_rfl) (by kernel_rfl);have tF:=isTypeOfF;have tE:=isTypeOf;have mA:=mAsg;have aF:=asgF';have aE:=asgE;have nA:=noAsF;have uF:=hasUnwrapF;have mU:=methodUnwrap;have vE:=valE;have HB:=Lib.hid hb;have HT:=Lib.hid ht;have B0:=Lib.hid ((Below.refl w.heap.size w).alloc (Nat.le_refl _) (.cells #[.pointer (some ⟨1,154,none⟩),.pointer (some ⟨b,0,none⟩),.int .u64 150] 92));clear hb ht;unfold fault flt
 go_enter Tryd.func37,Tryd.ntmps37
 go_wp2;refine wp_loop_rounds 2 ?_;rw [rounds_succ]
 go_wp2_with (go_at_call 118;refine (unwrap_any _ _ _).mono ?_;rintro ev w1 ⟨rfl,b1⟩)
 have B1:=Lib.hid (B0.out.trans (b1.mono B0.out.size));have G0:w1.heap[w.heap.size]? = some (.cells #[.pointer (some ⟨1,154,none⟩),.pointer (some ⟨b,0,none⟩),.int .u64 150] 92 (0,0)):=(b1.block _ (by simp)).trans (heap_alloc_new w _);have e0:w1.cell? ⟨w.heap.size,0,none⟩=some (.pointer (some ⟨1,154,none⟩)):=row_cell G0 0;have e1:w1.cell? ⟨w.heap.size,1,none⟩=some (.pointer (some ⟨b,0,none⟩)):=row_cell G0 1;have e2:w1.cell? ⟨w.heap.size,2,none⟩=some (.int .u64 150):=row_cell G0 2;have hbl:=World.block_lt_of_cell? _ _ HB.out;have el:=elvP ⟨b,0,none⟩ ⟨tb,0,none⟩ w1 ((B1.out.cell hbl).trans HB.out);have htl:=lt_of_block HT.out;have T1:=(B1.out.block tb htl).trans HT.out;have T2:=(Below.heap_alloc w1 (.cells #[.int .i64 e] 32) tb (by have:=B1.out.size;omega)).trans T1;have st:=setE ⟨tb,0,none⟩ ⟨w1.heap.size,0,none⟩ e (.int .i64 0) (w1.alloc (.cells #[.int .i64 e] 32)) (by simp) (row_cell T2 0) (row_frozen T2 0);have RES:Hid (AsPost w tb e (.returned (.bool true)) ((w1.alloc (.cells #[.int .i64 e] 32)).setCell ⟨tb,0,none⟩ (.int .i64 e))):=by
  refine ⟨rfl,?_,?_⟩
  ·have:=Rw.heap_setCell_same (j:=0) T2 (.int .i64 e)
   rw [this]
   simp
  ·exact (Only.of_below (B1.out.alloc B1.out.size _)).trans (Only.set (fun k=>k=tb) _ (a:=⟨tb,0,none⟩) rfl _) fun _ _ g=>g
 clear b1 G0 T1 T2 HB HT B0 B1 hbl htl;rw [rounds_succ];go_wp2
 go_ret
 exact RES.out
set_option maxHeartbeats 4000000 in
theorem as_any (n e:Int) (tb:Nat) (w:World) (hg:Glob w) (ht:w.heap[tb]? = some (.cells #[.int .i64 0] 32 (0,0))) :
 Calls Tryd.prog 19 #[fault n e,.iface 154 (.pointer (some ⟨tb,0,none⟩))] w (AsPost w tb e):=by
 have h50:=@run_callFunc_extern Tryd.prog 34 _ valF Tryd.func34 (by kernel_rfl) (by kernel_rfl) (by kernel_rfl) (by kernel_rfl);have h51:=@run_callFunc_extern Tryd.prog 35 _ typF Tryd.func35 (by kernel_rfl) (by kernel_rfl) (by kernel_rfl) (by kernel_rfl);have h52:=@run_callFunc_extern Tryd.prog 36 _ nilF Tryd.func36 (by kernel_rfl) (by kernel_rfl) (by kernel_rfl) (by kernel_rfl);have h95:=@run_callFunc_extern Tryd.prog 96 _ kinF Tryd.func96 (by kernel_rfl) (by kernel_rfl) (by kernel_rfl) (by kernel_rfl);have h104:=@run_callFunc_extern Tryd.prog 109 _ eleF Tryd.func109 (by kernel_rfl) (by kernel_rfl) (by kernel_rfl) (by kernel_rfl);have h105:=@run_callFunc_extern Tryd.prog 110 _ impF Tryd.func110 (by kernel_rfl) (by kernel_rfl) (by kernel_rfl) (by kernel_rfl);have f6:=valP;have f7:=typP;have mK:=mKind;have mE:=mElem;have mI:=mImp;have kP:=kindP;have kE:=kindE;have eP:=elemP;have iE:=impE;have hlt:0 < w.heap.size:=World.block_lt_of_cell? _ _ hg;have htl:=lt_of_block ht;have B2:Below w.heap.size w ((w.alloc (.cells #[.pointer (some ⟨tb,0,none⟩)] 154)).alloc (.cells #[.pointer (some ⟨1,154,none⟩),.pointer (some ⟨w.heap.size,0,none⟩),.int .u64 150] 92)):=((Below.refl w.heap.size w).alloc (Nat.le_refl _) _).alloc (by simp) _;have n8:=nilP ⟨w.heap.size,0,none⟩ ⟨tb,0,none⟩ ((w.alloc (.cells #[.pointer (some ⟨tb,0,none⟩)] 154)).alloc (.cells #[.pointer (some ⟨1,154,none⟩),.pointer (some ⟨w.heap.size,0,none⟩),.int .u64 150] 92)) (by simp);have hg2:((w.alloc (.cells #[.pointer (some ⟨tb,0,none⟩)] 154)).alloc (.cells #[.pointer (some ⟨1,154,none⟩),.pointer (some ⟨w.heap.size,0,none⟩),.int .u64 150] 92)).cell? ⟨0,0,none⟩=some (.iface 115 (.agg #[.pointer (some ⟨1,65,none⟩)])):=hg.below B2;have AL:=Lib.hid (as_loop n e tb w.heap.size ((w.alloc (.cells #[.pointer (some ⟨tb,0,none⟩)] 154)).alloc (.cells #[.pointer (some ⟨1,154,none⟩),.pointer (some ⟨w.heap.size,0,none⟩),.int .u64 150] 92)) (by simp) ((B2.block tb htl).trans ht));have BB:=Lib.hid B2;have HTL:=Lib.hid htl;clear hg ht B2 htl;unfold fault flt at *
 go_enter Tryd.func19,Tryd.ntmps19
 go_wp2_with (go_at_call 37;refine AL.out.mono ?_;rintro ev w1 ⟨rfl,r1,o1⟩)
 go_ret
 exact ⟨rfl,r1,(Only.of_below BB.out).trans o1 fun _ _ g=>g⟩
set_option maxHeartbeats 1000000 in
theorem number_any (n e:Int) (w:World) (hg:Glob w):Calls Tryd.prog 66 #[fault n e] w fun ev w'=>ev = .returned (.int .i64 e)∧Below w.heap.size w w':=by
 have B0:=Lib.hid ((Below.refl w.heap.size w).alloc (Nat.le_refl _) (.cells #[.int .i64 0] 32));have AS:=Lib.hid (as_any n e w.heap.size (w.alloc (.cells #[.int .i64 0] 32)) (hg.below B0.out) (heap_alloc_new w _));clear hg;unfold fault flt at *
 go_enter Tryd.func66,Tryd.ntmps66
 go_wp2_with fail;refine AS.out.mono ?_;rintro ev w1 ⟨rfl,r1,o1⟩;have c1:w1.cell? ⟨w.heap.size,0,none⟩=some (.int .i64 e):=row_cell r1 0;have BB:=Lib.hid (B0.out.trans (o1.below (by simp) fun k hk=>by rw [hk];exact Nat.le_refl _));clear r1 o1 B0 AS;go_wp2
 go_ret
 exact ⟨rfl,BB.out⟩
end Go.Proofs.YtelgnhmcnfibnaaDoor.Fs
