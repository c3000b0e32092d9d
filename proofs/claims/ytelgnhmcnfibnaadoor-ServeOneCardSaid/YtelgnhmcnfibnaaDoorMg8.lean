import Derived.Test.YtelgnhmcnfibnaaDoorMg6
import Derived.Test.YtelgnhmcnfibnaaDoorMg7
set_option maxRecDepth 100000
namespace Go.Proofs.YtelgnhmcnfibnaaDoor.Sv
open Go.RowKit Go.Maps
open Fs (Abs St Only Fx Glob Ls Ent files_any FilesPost same_any same_is dE dV dA)
open Pa (Fls stL J4I)
open Fl (R4 z4 rec4 arr4 okR row_cell row_frozen eq_rec)
open Ad (addr good goodB)
theorem goes_iff {n:Int} {q:R4} (hq:okR q) (b:B5):goes n q b=true↔Goes n q b:=by
 obtain ⟨_,⟨h1,h2⟩,⟨h3,h4⟩,_⟩:=hq;have hg:goodB (q.2.1 / 64) (q.2.1 % 64) q.2.2.1=true↔q.2.1 < 192:=by
  unfold goodB;rw [decide_eq_true_iff];exact ⟨fun g=>by obtain ⟨_,g,_⟩:=g;omega,fun g=>⟨by omega,by omega,by omega,by omega,h3,h4⟩⟩
 unfold goes hears Goes;rw [Bool.and_eq_true,Bool.and_eq_true,Bool.and_eq_true,Bool.or_eq_true,decide_eq_true_iff,decide_eq_true_iff,decide_eq_true_iff,decide_eq_true_iff,hg]
 constructor
 ·rintro ⟨⟨a,b,c⟩,d⟩
  exact ⟨a,b,c,fun e=>d.elim (fun g=>absurd e g) id⟩
 ·rintro ⟨a,b,c,d⟩
  refine ⟨⟨a,b,c⟩,?_⟩
  by_cases e:q.2.1 / 64=1
  ·exact .inr (d e)
  ·exact .inl e
theorem svO_iff {A:Abs} {n:Int} {q:R4} (hq:okR q) (b:B5):svO A n q b=true↔obE false A n q b=0:=by
 unfold svO svE obE xE;rw [Bool.and_eq_true,goes_iff hq,decide_eq_true_iff]
 by_cases h:Goes n q b
 ·rw [if_pos h,if_neg (by decide)]
  exact ⟨fun g=>g.2,fun g=>⟨h,g⟩⟩
 ·rw [if_neg h]
  refine ⟨fun g=>absurd g.1 h,fun g=>?_⟩
  exfalso
  split at g
  ·exact absurd g (by decide)
  ·split at g
   ·exact absurd g (by decide)
   ·split at g <;> exact absurd g (by decide)
theorem ty_tr (A:Abs) (n m o f r:Int) (v:R4) (t:Nat→Int):tyE false A n m o f r v t=trE A n m o f r v t∧tyV false A n m o f r v t=trV A n m o f r v t∧tyA false A n m o f r v t=trA A n m o f r v t:=by
 have hq:okR (trQ m o f r t):=okR_tn4 _ _;unfold tyE tyV tyA trE trV trA
 by_cases ha:askE m o f r=0
 ·rw [if_pos ha,if_pos ha,if_pos ha,if_pos ha,if_pos ha,if_pos ha]
  generalize trQ m o f r t=q at *;generalize trB v t=b at *;have e1:obA false A n q b=svA A n q b:=by
   unfold obA svA xA
   by_cases h:Goes n q b
   ·rw [if_pos h,if_pos ((goes_iff hq b).2 h),if_neg (by decide)]
   ·rw [if_neg h,if_neg fun g=>h ((goes_iff hq b).1 g)]
  rw [e1]
  by_cases h0:obE false A n q b=0
  ·have hs:=(svO_iff (A:=A) hq b).2 h0
   have hg:Goes n q b:=(goes_iff hq b).1 (by unfold svO at hs;exact (Bool.and_eq_true _ _ ▸ hs).1);have e2:datB (obV false A n q b)=svB A n q b:=by
    unfold obV svB xV;rw [if_pos hg,if_pos hs,if_neg (by decide)]
   rw [if_pos h0,if_pos h0,if_pos hs,if_pos hs,e2];exact ⟨rfl,rfl,rfl⟩
  ·have hs:¬ svO A n q b=true:=fun g=>h0 ((svO_iff hq b).1 g)
   rw [if_neg h0,if_neg h0,if_neg hs,if_neg hs];exact ⟨rfl,rfl,rfl⟩
 ·rw [if_neg ha,if_neg ha,if_neg ha,if_neg ha,if_neg ha,if_neg ha]
  exact ⟨rfl,rfl,rfl⟩
theorem alone (A:Abs) (n o f r:Int) (v:R4) {k:Nat} (hk:k < 14) {y:Int} (hy:0≤y∧y≤255) :
 (tyE false A n n o f r v (tOne k y)≠0∧y≠0∧(tyA false A n n o f r v (tOne k y)=A∨tyA false A n n o f r v (tOne k y)=tyA false A n n o f r v fun _=>0)) ∨
 (tyE false A n n o f r v (tOne k y)=tyE false A n n o f r v (fun _=>0)∧tyV false A n n o f r v (tOne k y)=tyV false A n n o f r v (fun _=>0)∧tyA false A n n o f r v (tOne k y)=tyA false A n n o f r v fun _=>0):=by
 by_cases h0:y=0
 ·subst h0
  rw [tOne_no];exact .inr ⟨rfl,rfl,rfl⟩
 ·obtain ⟨e1,e2,e3⟩:=ty_tr A n n o f r v (tOne k y)
  obtain ⟨g1,g2,g3⟩:=ty_tr A n n o f r v (fun _=>0);rw [e1,e2,e3,g1,g2,g3]
  rcases one A n n o f r v hk hy h0 with ⟨a,b⟩ | h
  ·exact .inl ⟨a,h0,b⟩
  ·exact .inr h
structure Tw (w:World) (s t:Nat) (F1 F2:Nat→Prop) (A1:Abs) (d1:Int) (A2:Abs) (d2:Int) (W:World):Prop where
 a:St W s F1 A1 d1
 b:St W t F2 A2 d2
 ap:∀ k,F1 k→¬ F2 k
 lo1:∀ k,F1 k→w.heap.size≤k
 lo2:∀ k,F2 k→w.heap.size≤k
 bel:Below w.heap.size w W
section
variable {w W W':World} {s t:Nat} {F1 F2:Nat→Prop} {A1 A2 A':Abs} {d1 d2 d':Int}
theorem Tw.below (h:Tw w s t F1 F2 A1 d1 A2 d2 W) (b:Below W.heap.size W W'):Tw w s t F1 F2 A1 d1 A2 d2 W':=⟨h.a.below b,h.b.below b,h.ap,h.lo1,h.lo2,h.bel.trans (b.mono h.bel.size)⟩
theorem Tw.step1 (h:Tw w s t F1 F2 A1 d1 A2 d2 W) (st:St W' s (Fx F1 W W') A' d') (o:Only F1 W W'):Tw w s t (Fx F1 W W') F2 A' d' A2 d2 W' :=
 ⟨st,h.b.only (fun k g g'=>h.ap k g' g) o,fun k g g'=>by
  rcases g with g | ⟨g,_⟩
  ·exact h.ap k g g'
  ·have:=h.b.low k g';omega,fun k g=>by
  rcases g with g | ⟨g,_⟩
  ·exact h.lo1 k g
  ·have:=h.bel.size;omega,h.lo2,h.bel.trans (o.below h.bel.size h.lo1)⟩
theorem Tw.step2 (h:Tw w s t F1 F2 A1 d1 A2 d2 W) (st:St W' t (Fx F2 W W') A' d') (o:Only F2 W W'):Tw w s t F1 (Fx F2 W W') A1 d1 A' d' W' :=
 ⟨h.a.only (fun k g g'=>h.ap k g g') o,st,fun k g g'=>by
  rcases g' with g' | ⟨g',_⟩
  ·exact h.ap k g g'
  ·have:=h.a.low k g;omega,h.lo1,fun k g=>by
  rcases g with g | ⟨g,_⟩
  ·exact h.lo2 k g
  ·have:=h.bel.size;omega,h.bel.trans (o.below h.bel.size h.lo2)⟩
theorem Tw.glob (h:Tw w s t F1 F2 A1 d1 A2 d2 W) (g:Glob w):Glob W∧¬ F1 0∧¬ F2 0:=by
 have l:0 < w.heap.size:=World.block_lt_of_cell? _ _ g;exact ⟨g.below h.bel,fun k=>by have:=h.lo1 _ k;omega,fun k=>by have:=h.lo2 _ k;omega⟩
theorem ls_1 {v:Value} {A:Abs} (h:Ls (fun k=>F1 k∨F2 k) W v A) (o:Only F1 W W'):Ls (fun k=>Fx F1 W W' k∨F2 k) W' v A :=
 (Fs.Ls.only h (o.mono fun _ _ g=>.inl g)).mono fun k _ g=>by
   rcases g with (g | g) | g
   ·exact .inl (.inl g)
   ·exact .inr g
   ·exact .inl (.inr g)
theorem ls_2 {v:Value} {A:Abs} (h:Ls (fun k=>F1 k∨F2 k) W v A) (o:Only F2 W W'):Ls (fun k=>F1 k∨Fx F2 W W' k) W' v A :=
 (Fs.Ls.only h (o.mono fun _ _ g=>.inr g)).mono fun k _ g=>by
   rcases g with g | (g | g)
   ·exact .inl (.inl g)
   ·exact .inl (.inr g)
   ·exact .inr g
structure Cw (F1 F2:Nat→Prop) (W:World) (g:Nat) (cs:Array Value) (T:TypeId):Prop where
 row:W.heap[g]? = some (.cells cs T (0,0))
 n1:¬ F1 g
 n2:¬ F2 g
variable {g:Nat} {cs:Array Value} {T:TypeId}
theorem Cw.step1 (h:Cw F1 F2 W g cs T) (o:Only F1 W W'):Cw (Fx F1 W W') F2 W' g cs T:=⟨(o.block g (lt_of_block h.row) h.n1).trans h.row,Fx.not h.n1 (lt_of_block h.row),h.n2⟩
theorem Cw.step2 (h:Cw F1 F2 W g cs T) (o:Only F2 W W'):Cw F1 (Fx F2 W W') W' g cs T:=⟨(o.block g (lt_of_block h.row) h.n2).trans h.row,h.n1,Fx.not h.n2 (lt_of_block h.row)⟩
theorem Cw.below (h:Cw F1 F2 W g cs T) (b:Below W.heap.size W W'):Cw F1 F2 W' g cs T:=⟨(b.block g (lt_of_block h.row)).trans h.row,h.n1,h.n2⟩
theorem Tw.box (h:Tw w s t F1 F2 A1 d1 A2 d2 W) (cs:Array Value) (T:TypeId):Cw F1 F2 (W.alloc (.cells cs T)) W.heap.size cs T:=⟨heap_alloc_new W _,fun k=>by have:=h.a.low _ k;omega,fun k=>by have:=h.b.low _ k;omega⟩
end
theorem same_dec {w:World} {F F':Nat→Prop} {v v':Value} {A A':Abs} (h:Ls F w v A) (h':Ls F' w v' A') (hlen:A.length≤64) :
 Calls Tryd.prog 7 #[v,v'] w fun e w'=>e = .returned (.bool (decide (A=A')))∧Below w.heap.size w w':=by
 obtain ⟨L,hL,rfl⟩:=h;obtain ⟨L',hL',rfl⟩:=h';exact same_any hL hL' (by rwa [List.length_map] at hlen)
structure Bt (w:World) (o f r:Int) (v:R4) (W:World):Prop where
 a:W.heap[w.heap.size]? = some (.cells #[.int .i64 o,.int .i64 f,.int .i64 r] 24 (0,0))
 v:W.heap[w.heap.size+1]? = some (.cells (arr4 v) 26 (0,0))
 bel:Below w.heap.size w W
theorem bt_of (w:World) (o f r:Int) (v:R4):Bt w o f r v ((w.alloc (.cells #[.int .i64 o,.int .i64 f,.int .i64 r] 24)).alloc (.cells (arr4 v) 26)):=by
 obtain ⟨h1,h2⟩:=two_new w (.cells #[.int .i64 o,.int .i64 f,.int .i64 r] 24) (.cells (arr4 v) 26);exact ⟨(Below.heap_alloc _ _ _ (by simp)).trans (heap_alloc_new w _),h1,h2⟩
set_option maxHeartbeats 4000000 in
theorem one_law {w:World} {vl:Value} {L:List Ent} (hg:Glob w) (H:Fls w vl L w.heap.size) (n:Int) (o f r:Int) (v:R4) (at_ y:Int) (hat:0≤at_∧at_≤255) (hy:0≤y∧y≤255) :
 Calls Tryd.prog 3 #[vl,.int .i64 n,addr o f r,rec4 v,.int .u8 at_,.int .u8 y] w fun e w'=>e = .returned (.bool true)∧Below w.heap.size w w':=by
 have S0:Hid (Bt w o f r v ((w.alloc (.cells #[.int .i64 o,.int .i64 f,.int .i64 r] 24)).alloc (.cells #[.int .u8 v.1,.int .u8 v.2.1,.int .u8 v.2.2.1,.int .u8 v.2.2.2] 26))):=Lib.hid (bt_of w o f r v);have HG:=Lib.hid hg;have HH:=Lib.hid H;obtain ⟨k,hk,hk14⟩:∃ k:Nat,at_ % 14=(k:Int)∧k < 14:=⟨(at_ % 14).toNat,by omega,by omega⟩;have AL:=Lib.hid (fun A=>alone A n o f r v hk14 hy);have Q1:at_.tmod 14=(k:Int):=(Int.tmod_eq_emod_of_nonneg hat.1).trans hk;have Q2:IntKind.i64.wrap (k:Int)=(k:Int):=IntWalk.i64_in _ (by omega);have Q3:IntKind.u8.wrap (k:Int)=(k:Int):=by simp [IntKind.wrap,IntKind.bits,IntKind.signed];omega
 have HK:=Lib.hid hk14;clear hg H hk hat hy hk14;unfold rec4 addr
 go_enter Tryd.func3,Tryd.ntmps3
 go_wp2_with fail;generalize (w.alloc (.cells #[.int .i64 o,.int .i64 f,.int .i64 r] 24)).alloc (.cells #[.int .u8 v.1,.int .u8 v.2.1,.int .u8 v.2.2.1,.int .u8 v.2.2.2] 26)=W0 at *;refine (build_any (HH.out.below S0.out.bel) S0.out.bel.size).mono ?_;rintro e w1 ⟨s,r1,F1,rfl,J1,hr1⟩;unfold Pa.ptr;go_wp2_with fail;refine (build_any ((HH.out.below S0.out.bel).below J1.bel) (Nat.le_trans S0.out.bel.size J1.bel.size)).mono ?_;rintro e w2 ⟨t,r2,F2,rfl,J2,hr2⟩;generalize stL L=A at *
 have TW:Hid (Tw W0 s t F1 F2 A 0 A 0 w2):=Lib.hid ⟨by have:=J1.st.below J2.bel;rwa [List.take_length] at this,by have:=J2.st;rwa [List.take_length] at this,fun j g g'=>by
  have:=J1.st.low j g;have:=J2.hi j g';omega,J1.hi,fun j g=>by have:=J2.hi j g;have:=J1.bel.size;omega,J1.bel.trans (J2.bel.mono J1.bel.size)⟩
 have cw:∀ {g:Nat} {cs:Array Value} {T:TypeId},W0.heap[g]? = some (.cells cs T (0,0))→Cw F1 F2 w2 g cs T:=fun {g cs T} row=>by
  have l:=lt_of_block row;exact ⟨(TW.out.bel.block g l).trans row,fun h=>by have:=TW.out.lo1 g h;omega,fun h=>by have:=TW.out.lo2 g h;omega⟩
 have KA:=Lib.hid (cw S0.out.a);have KV:=Lib.hid (cw S0.out.v);have G5:=Lib.hid (HG.out.below S0.out.bel);have BL:=Lib.hid S0.out.bel;clear cw J1 J2 hr1 hr2 S0 HH;go_wp2_with fail;unfold Pa.ptr;refine (files_any TW.out.a).mono ?_;rintro e w3 ⟨uw,rfl,hls,b3⟩
 have LW:Hid (Ls (fun j=>F1 j∨F2 j) w3 uw A):=Lib.hid (hls _ fun j g=>by
  rcases g with g | g
  ·exact TW.out.a.low j g
  ·exact TW.out.b.low j g)
 have TW:=Lib.hid (TW.out.below b3);have KA:=Lib.hid (KA.out.below b3);have KV:=Lib.hid (KV.out.below b3);clear hls b3;go_upto_region 4 with fail;obtain ⟨w4,hr,tm,b4⟩:=one_map w3 k (by have:=HK.out;omega) y;have TM:Hid (Tm w4 (.map (some w3.heap.size)) (tOne k y)):=Lib.hid tm;have HM:Hid (∀ b,Value.map (some w3.heap.size) = .map (some b)→¬ F1 b):=Lib.hid fun b e g=>by
  injection e with e;injection e with e;subst e;have:=TW.out.a.low _ g
  omega
 have a0:w3.cell? ⟨w.heap.size,0,none⟩=some (.int .i64 o):=row_cell KA.out.row 0;have a1:w3.cell? ⟨w.heap.size,1,none⟩=some (.int .i64 f):=row_cell KA.out.row 1;have a2:w3.cell? ⟨w.heap.size,2,none⟩=some (.int .i64 r):=row_cell KA.out.row 2;have x0:w3.cell? ⟨w.heap.size+1,0,none⟩=some (.int .u8 v.1):=row_cell KV.out.row 0;have x1:w3.cell? ⟨w.heap.size+1,1,none⟩=some (.int .u8 v.2.1):=row_cell KV.out.row 1;have x2:w3.cell? ⟨w.heap.size+1,2,none⟩=some (.int .u8 v.2.2.1):=row_cell KV.out.row 2;have x3:w3.cell? ⟨w.heap.size+1,3,none⟩=some (.int .u8 v.2.2.2):=row_cell KV.out.row 3;have TW4:=Lib.hid (TW.out.below b4);have KA4:=Lib.hid (KA.out.below b4);have KV4:=Lib.hid (KV.out.below b4);have LW4:=Lib.hid (LW.out.below b4);have hmm:=@run_makeMap Tryd.prog;clear tm b4;have TY:=try_st TW4.out.a (TW4.out.glob G5.out).1 (TW4.out.glob G5.out).2.1 (by decide) n n o f r v TM.out HM.out;have TZ:=Lib.hid (fun W F (h:St W t F A 0) (hg:Glob W) h0=>try_st h hg h0 (by decide) n n o f r v (Tm.nil W) nofun);have AL':=AL.out A;clear AL;generalize tyV false A n n o f r v (tOne k y)=V1 at *;generalize tyE false A n n o f r v (tOne k y)=E1 at *;generalize tyA false A n n o f r v (tOne k y)=A1 at *;generalize tyD false A n n o f r v (tOne k y) 0=D1 at *;generalize tyV false A n n o f r v (fun _=>0)=V2 at *;generalize tyE false A n n o f r v (fun _=>0)=E2 at *;generalize tyA false A n n o f r v (fun _=>0)=A2 at *;generalize tyD false A n n o f r v (fun _=>0) 0=D2 at *;have AL:=Lib.hid AL';have HTY:=Lib.hid TY;clear AL' TY;unfold rec4 addr at HTY TZ;go_wp2_with fail;clear a0 a1 a2 x0 x1 x2 x3 hr hmm Q1 Q2 Q3 TW KA KV LW;refine HTY.out.mono ?_;rintro e w5 ⟨rfl,st,on⟩;have TA:=Lib.hid (TW4.out.step1 st on);have KA:=Lib.hid (KA4.out.step1 on);have KV:=Lib.hid (KV4.out.step1 on);have LA:=Lib.hid (ls_1 LW4.out on);clear st on HTY TM HM TW4 KA4 KV4 LW4;generalize Fx F1 w4 w5=F3 at *;have TW:=Lib.hid (TA.out.below (Fs.below_new w5 (.cells #[.int .u8 V1.1,.int .u8 V1.2.1,.int .u8 V1.2.2.1,.int .u8 V1.2.2.2] 26)));have KX:=Lib.hid (TA.out.box #[.int .u8 V1.1,.int .u8 V1.2.1,.int .u8 V1.2.2.1,.int .u8 V1.2.2.2] 26);have KA:=Lib.hid (KA.out.below (Fs.below_new w5 (.cells #[.int .u8 V1.1,.int .u8 V1.2.1,.int .u8 V1.2.2.1,.int .u8 V1.2.2.2] 26)));have KV:=Lib.hid (KV.out.below (Fs.below_new w5 (.cells #[.int .u8 V1.1,.int .u8 V1.2.1,.int .u8 V1.2.2.1,.int .u8 V1.2.2.2] 26)));have LW:=Lib.hid (LA.out.below (Fs.below_new w5 (.cells #[.int .u8 V1.1,.int .u8 V1.2.1,.int .u8 V1.2.2.1,.int .u8 V1.2.2.2] 26)));clear TA LA;go_upto_region 5 with fail;generalize w5.alloc (.cells #[.int .u8 V1.1,.int .u8 V1.2.1,.int .u8 V1.2.2.1,.int .u8 V1.2.2.2] 26)=W5 at *;generalize hgx:w5.heap.size=gx at *;clear hgx;have a0:W5.cell? ⟨w.heap.size,0,none⟩=some (.int .i64 o):=row_cell KA.out.row 0;have a1:W5.cell? ⟨w.heap.size,1,none⟩=some (.int .i64 f):=row_cell KA.out.row 1;have a2:W5.cell? ⟨w.heap.size,2,none⟩=some (.int .i64 r):=row_cell KA.out.row 2;have x0:W5.cell? ⟨w.heap.size+1,0,none⟩=some (.int .u8 v.1):=row_cell KV.out.row 0;have x1:W5.cell? ⟨w.heap.size+1,1,none⟩=some (.int .u8 v.2.1):=row_cell KV.out.row 1;have x2:W5.cell? ⟨w.heap.size+1,2,none⟩=some (.int .u8 v.2.2.1):=row_cell KV.out.row 2;have x3:W5.cell? ⟨w.heap.size+1,3,none⟩=some (.int .u8 v.2.2.2):=row_cell KV.out.row 3;go_wp2_with fail;clear a0 a1 a2 x0 x1 x2 x3;refine (TZ.out W5 F2 TW.out.b (TW.out.glob G5.out).1 (TW.out.glob G5.out).2.2).mono ?_;rintro e w6 ⟨rfl,st,on⟩;have TA:=Lib.hid (TW.out.step2 st on);have KX:=Lib.hid (KX.out.step2 on);have LA:=Lib.hid (ls_2 LW.out on);clear st on TZ TW KA KV LW;generalize Fx F2 W5 w6=F4 at *;have TW:=Lib.hid (TA.out.below (Fs.below_new w6 (.cells #[.int .u8 V2.1,.int .u8 V2.2.1,.int .u8 V2.2.2.1,.int .u8 V2.2.2.2] 26)));have KY:=Lib.hid (TA.out.box #[.int .u8 V2.1,.int .u8 V2.2.1,.int .u8 V2.2.2.1,.int .u8 V2.2.2.2] 26);have KX:=Lib.hid (KX.out.below (Fs.below_new w6 (.cells #[.int .u8 V2.1,.int .u8 V2.2.1,.int .u8 V2.2.2.1,.int .u8 V2.2.2.2] 26)));have LW:=Lib.hid (LA.out.below (Fs.below_new w6 (.cells #[.int .u8 V2.1,.int .u8 V2.2.1,.int .u8 V2.2.2.1,.int .u8 V2.2.2.2] 26)));clear TA LA;go_upto_region 6 with fail;generalize w6.alloc (.cells #[.int .u8 V2.1,.int .u8 V2.2.1,.int .u8 V2.2.2.1,.int .u8 V2.2.2.2] 26)=W6 at *;generalize hgy:w6.heap.size=gy at *;clear hgy;go_wp2_with fail;refine (files_any TW.out.a).mono ?_;rintro e w7 ⟨ud,rfl,hls,b⟩;have LD:=Lib.hid (hls (fun _=>False) nofun);have TW:=Lib.hid (TW.out.below b);have KX:=Lib.hid (KX.out.below b);have KY:=Lib.hid (KY.out.below b);have LW:=Lib.hid (LW.out.below b);clear hls b;go_wp2_with fail;refine (files_any TW.out.b).mono ?_;rintro e w8 ⟨us,rfl,hls,b⟩;have LS:=Lib.hid (hls (fun _=>False) nofun);have LD:=Lib.hid (LD.out.below b);have TW:=Lib.hid (TW.out.below b);have KX:=Lib.hid (KX.out.below b);have KY:=Lib.hid (KY.out.below b);have LW:=Lib.hid (LW.out.below b);have LE:=Lib.hid TW.out.a.okA.len;have BB:=Lib.hid (BL.out.trans (TW.out.bel.mono BL.out.size));have GW:=Lib.hid (TW.out.glob G5.out).1;clear hls b TW BL G5;go_upto_region 7 with fail
 rcases AL.out with ⟨h1,hy0,hA⟩ | ⟨rfl,rfl,rfl⟩
 ·clear AL
  have T1:(E1 == 0)=false:=by simpa using h1
  have T2:(E1 != 0)=true:=by simpa using h1
  have T3:(y != 0)=true:=by simpa using hy0
  clear KX KY;go_wp2_with fail;refine (awake_any w8 GW.out).mono ?_;rintro e w9 ⟨rfl,b⟩;have LD:=Lib.hid (LD.out.below b);have LS:=Lib.hid (LS.out.below b);have LW:=Lib.hid (LW.out.below b);have BB:=Lib.hid (BB.out.trans (b.mono BB.out.size));clear b
  rcases hA with rfl | rfl
  ·go_wp2_with fail
   refine (same_is LD.out LW.out LE.out).mono ?_;rintro e w10 ⟨rfl,b⟩;have BB:=Lib.hid (BB.out.trans (b.mono BB.out.size));clear b
   by_cases hE2:E2=0
   ·have U1:(E2 == 0)=true:=by simpa using hE2
    go_wp2
    go_ret
    exact ⟨rfl,BB.out⟩
   ·have U1:(E2 == 0)=false:=by simpa using hE2
    go_wp2
    go_ret
    exact ⟨rfl,BB.out⟩
  ·by_cases hAA:A1=A
   ·subst hAA
    go_wp2_with fail;refine (same_is LD.out LW.out LE.out).mono ?_;rintro e w10 ⟨rfl,b⟩;have BB:=Lib.hid (BB.out.trans (b.mono BB.out.size));clear b
    by_cases hE2:E2=0
    ·have U1:(E2 == 0)=true:=by simpa using hE2
     go_wp2
     go_ret
     exact ⟨rfl,BB.out⟩
    ·have U1:(E2 == 0)=false:=by simpa using hE2
     go_wp2
     go_ret
     exact ⟨rfl,BB.out⟩
   ·have SD:=same_dec LD.out LW.out LE.out
    rw [decide_eq_false hAA] at SD;have HSD:=Lib.hid SD;clear SD hAA;go_wp2_with fail;refine HSD.out.mono ?_;rintro e w10 ⟨rfl,b⟩;clear HSD;have LD:=Lib.hid (LD.out.below b);have LS:=Lib.hid (LS.out.below b);have BB:=Lib.hid (BB.out.trans (b.mono BB.out.size));clear b;go_wp2_with fail;refine (same_is LD.out LS.out LE.out).mono ?_;rintro e w11 ⟨rfl,b⟩;have BB:=Lib.hid (BB.out.trans (b.mono BB.out.size));clear b
    by_cases hE2:E2=0
    ·have U1:(E2 == 0)=true:=by simpa using hE2
     go_wp2
     go_ret
     exact ⟨rfl,BB.out⟩
    ·have U1:(E2 == 0)=false:=by simpa using hE2
     go_wp2
     go_ret
     exact ⟨rfl,BB.out⟩
 ·clear AL
  by_cases hE:E1=0
  ·have T1:(E1 == 0)=true:=by simpa using hE
   have T2:(E1 != 0)=false:=by simpa using hE
   clear hE;have x0:w8.cell? ⟨gx,0,none⟩=some (.int .u8 V1.1):=row_cell KX.out.row 0;have x1:w8.cell? ⟨gx,1,none⟩=some (.int .u8 V1.2.1):=row_cell KX.out.row 1;have x2:w8.cell? ⟨gx,2,none⟩=some (.int .u8 V1.2.2.1):=row_cell KX.out.row 2;have x3:w8.cell? ⟨gx,3,none⟩=some (.int .u8 V1.2.2.2):=row_cell KX.out.row 3;have z0:w8.cell? ⟨gy,0,none⟩=some (.int .u8 V1.1):=row_cell KY.out.row 0;have z1:w8.cell? ⟨gy,1,none⟩=some (.int .u8 V1.2.1):=row_cell KY.out.row 1;have z2:w8.cell? ⟨gy,2,none⟩=some (.int .u8 V1.2.2.1):=row_cell KY.out.row 2;have z3:w8.cell? ⟨gy,3,none⟩=some (.int .u8 V1.2.2.2):=row_cell KY.out.row 3;have er:∀ W,(Op.equalIn 10000 26 (.agg #[.int .u8 V1.1,.int .u8 V1.2.1,.int .u8 V1.2.2.1,.int .u8 V1.2.2.2]) (.agg #[.int .u8 V1.1,.int .u8 V1.2.1,.int .u8 V1.2.2.1,.int .u8 V1.2.2.2])).run Tryd.prog W = .ok true W:=fun W=>by have:=eq_rec V1 V1 W;rwa [decide_eq_true rfl] at this
   go_wp2_with fail;clear x0 x1 x2 x3 z0 z1 z2 z3 er KX KY;refine (same_is LD.out LS.out LE.out).mono ?_;rintro e w9 ⟨rfl,b⟩;have GW:=Lib.hid (GW.out.below b);have LD:=Lib.hid (LD.out.below b);have LS:=Lib.hid (LS.out.below b);have LW:=Lib.hid (LW.out.below b);have BB:=Lib.hid (BB.out.trans (b.mono BB.out.size));clear b;go_wp2_with fail;refine (awake_any w9 GW.out).mono ?_;rintro e wa ⟨rfl,b⟩;have LD:=Lib.hid (LD.out.below b);have LS:=Lib.hid (LS.out.below b);have LW:=Lib.hid (LW.out.below b);have BB:=Lib.hid (BB.out.trans (b.mono BB.out.size));clear b
   by_cases hAA:A1=A
   ·subst hAA
    go_wp2_with fail;refine (same_is LD.out LW.out LE.out).mono ?_;rintro e wb ⟨rfl,b⟩;have BB:=Lib.hid (BB.out.trans (b.mono BB.out.size));clear b
    by_cases hy0:y=0
    ·have T3:(y != 0)=false:=by simpa using hy0
     go_wp2
     go_ret
     exact ⟨rfl,BB.out⟩
    ·have T3:(y != 0)=true:=by simpa using hy0
     go_wp2
     go_ret
     exact ⟨rfl,BB.out⟩
   ·have SD:=same_dec LD.out LW.out LE.out
    rw [decide_eq_false hAA] at SD;have HSD:=Lib.hid SD;clear SD hAA;go_wp2_with fail;refine HSD.out.mono ?_;rintro e wb ⟨rfl,b⟩;clear HSD;have LD:=Lib.hid (LD.out.below b);have LS:=Lib.hid (LS.out.below b);have BB:=Lib.hid (BB.out.trans (b.mono BB.out.size));clear b;go_wp2_with fail;refine (same_is LD.out LS.out LE.out).mono ?_;rintro e wc ⟨rfl,b⟩;have BB:=Lib.hid (BB.out.trans (b.mono BB.out.size));clear b
    by_cases hy0:y=0
    ·have T3:(y != 0)=false:=by simpa using hy0
     go_wp2
     go_ret
     exact ⟨rfl,BB.out⟩
    ·have T3:(y != 0)=true:=by simpa using hy0
     go_wp2
     go_ret
     exact ⟨rfl,BB.out⟩
  ·have T1:(E1 == 0)=false:=by simpa using hE
   have T2:(E1 != 0)=true:=by simpa using hE
   clear KX KY hE;go_wp2_with fail;refine (awake_any w8 GW.out).mono ?_;rintro e wa ⟨rfl,b⟩;have LD:=Lib.hid (LD.out.below b);have LS:=Lib.hid (LS.out.below b);have LW:=Lib.hid (LW.out.below b);have BB:=Lib.hid (BB.out.trans (b.mono BB.out.size));clear b
   by_cases hAA:A1=A
   ·subst hAA
    go_wp2_with fail;refine (same_is LD.out LW.out LE.out).mono ?_;rintro e wb ⟨rfl,b⟩;have BB:=Lib.hid (BB.out.trans (b.mono BB.out.size));clear b
    by_cases hy0:y=0
    ·have T3:(y != 0)=false:=by simpa using hy0
     go_wp2
     go_ret
     exact ⟨rfl,BB.out⟩
    ·have T3:(y != 0)=true:=by simpa using hy0
     go_wp2
     go_ret
     exact ⟨rfl,BB.out⟩
   ·have SD:=same_dec LD.out LW.out LE.out
    rw [decide_eq_false hAA] at SD;have HSD:=Lib.hid SD;clear SD hAA;go_wp2_with fail;refine HSD.out.mono ?_;rintro e wb ⟨rfl,b⟩;clear HSD;have LD:=Lib.hid (LD.out.below b);have LS:=Lib.hid (LS.out.below b);have BB:=Lib.hid (BB.out.trans (b.mono BB.out.size));clear b;go_wp2_with fail;refine (same_is LD.out LS.out LE.out).mono ?_;rintro e wc ⟨rfl,b⟩;have BB:=Lib.hid (BB.out.trans (b.mono BB.out.size));clear b
    by_cases hy0:y=0
    ·have T3:(y != 0)=false:=by simpa using hy0
     go_wp2
     go_ret
     exact ⟨rfl,BB.out⟩
    ·have T3:(y != 0)=true:=by simpa using hy0
     go_wp2
     go_ret
     exact ⟨rfl,BB.out⟩
end Go.Proofs.YtelgnhmcnfibnaaDoor.Sv
