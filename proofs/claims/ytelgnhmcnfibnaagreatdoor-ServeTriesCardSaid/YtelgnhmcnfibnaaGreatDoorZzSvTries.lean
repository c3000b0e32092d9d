/- ServeTries,walked. -/
import Derived.Test.YtelgnhmcnfibnaaGreatDoorMg9
set_option maxRecDepth 100000
namespace Go.Proofs.YtelgnhmcnfibnaaGreatDoor.Sv
open Go.RowKit Go.Maps
open Fs (Abs St Rs Only Fx Glob Ls Ent Dd Cb files_any FilesPost same_is denied_st Wf)
open Pa (Fls stL J4I Hr hput HBl HMap hbl_new at_hput)
open Fl (R4 z4 rec4 arr4 okR row_cell row_frozen eq_rec)
open Ad (addr)
attribute [local irreducible] Sd.wpSd wpQuiet
def hT (t:Nat→Int) (k:Nat):Hr:=fun n=>if 0≤n∧n < k∧t n.toNat≠0 then some (t n.toNat) else none
theorem hT_put {t:Nat→Int} {k:Nat} (h:t k≠0):hput (hT t k) k (t k)=hT t (k+1):=by
 funext n
 unfold hput hT
 by_cases e:n=(k:Int)
 ·subst e
  rw [if_pos rfl,if_pos ⟨by omega,by omega,by simpa using h⟩]
  simp
 ·rw [if_neg e]
  by_cases c:0≤n∧n < k∧t n.toNat≠0
  ·rw [if_pos c,if_pos ⟨c.1,by omega,c.2.2⟩]
  ·rw [if_neg c,if_neg fun g=>c ⟨g.1,by omega,g.2.2⟩]
theorem hT_same {t:Nat→Int} {k:Nat} (h:t k=0):hT t k=hT t (k+1):=by
 funext n
 unfold hT
 by_cases c:0≤n∧n < k∧t n.toNat≠0
 ·rw [if_pos c,if_pos ⟨c.1,by omega,c.2.2⟩]
 ·rw [if_neg c,if_neg fun g=>c ⟨g.1,by
   have:n≠(k:Int):=fun e=>g.2.2 (by rw [e];simpa using h)
   omega,g.2.2⟩]
theorem hT_zero (t:Nat→Int):hT t 0=fun _=>none:=by
 funext n
 unfold hT;rw [if_neg (by omega)]
theorem hT_all {t:Nat→Int} (h:∀ i,14≤i→t i=0) (i:Nat):(hT t 14 i).getD 0=t i:=by
 unfold hT
 by_cases c:0≤(i:Int)∧(i:Int) < (14:Nat)∧t (i:Int).toNat≠0
 ·rw [if_pos c]
  simp
 ·rw [if_neg c]
  show 0=t i
  by_cases hi:i < 14
  ·refine Classical.byContradiction fun e=>c ⟨by omega,by omega,fun g=>e ?_⟩
   rw [show (i:Int).toNat=i by simp] at g;exact g.symm
  ·exact (h i (by omega)).symm
theorem load_bs {ops:Array Oper} {rest:List Oper} {o:Oper} {a:Act} {w:World} {Q:Exit→Act→World→Prop} (hgd:o.guard=none) (x:Operand) (ho:o.op = .load 52 x) (g:Nat) (t:Nat→Int) (hx:a.eval x = .pointer (some ⟨g,0,none⟩))
 (hrow:w.heap[g]? = some (.cells (bs 14 t) 52 (0,0))) (h:wpList Tryz.prog ops Q rest (a.put o.dst (.agg (bs 14 t))) w):wpList Tryz.prog ops Q (o :: rest) a w :=
 wpList_load_row hgd _ x ho g hx _ _ _ _ hrow Tryz.underlying52 rfl (by rw [bs_size];kernel_rfl) h
structure Br (w:World) (o f r:Int) (v:R4) (t:Nat→Int) (W:World):Prop where
 a:W.heap[w.heap.size]? = some (.cells #[.int .i64 o,.int .i64 f,.int .i64 r] 24 (0,0))
 v:W.heap[w.heap.size+1]? = some (.cells (arr4 v) 26 (0,0))
 t:W.heap[w.heap.size+2]? = some (.cells (bs 14 t) 52 (0,0))
 bel:Below w.heap.size w W
theorem br_of (w:World) (o f r:Int) (v:R4) (t:Nat→Int):Br w o f r v t (((w.alloc (.cells #[.int .i64 o,.int .i64 f,.int .i64 r] 24)).alloc (.cells (arr4 v) 26)).alloc (.cells (bs 14 t) 52)):=by
 have h1:∀ o,(w.alloc o).heap.size=w.heap.size+1:=fun o=>by simp
 have h2:∀ o o',((w.alloc o).alloc o').heap.size=w.heap.size+2:=fun o o'=>by simp
 have r1:=heap_alloc_new w (.cells #[.int .i64 o,.int .i64 f,.int .i64 r] 24);have r2:=heap_alloc_new (w.alloc (.cells #[.int .i64 o,.int .i64 f,.int .i64 r] 24)) (.cells (arr4 v) 26);have r3:=heap_alloc_new ((w.alloc (.cells #[.int .i64 o,.int .i64 f,.int .i64 r] 24)).alloc (.cells (arr4 v) 26)) (.cells (bs 14 t) 52);rw [h1] at r2;rw [h2] at r3
 exact ⟨(Below.heap_alloc _ _ _ (by rw [h2];omega)).trans ((Below.heap_alloc _ _ _ (by rw [h1];omega)).trans r1),(Below.heap_alloc _ _ _ (by rw [h2];omega)).trans r2,r3,
  (((Below.refl w.heap.size w).alloc (Nat.le_refl _) _).alloc (by rw [h1];omega) _).alloc (by rw [h2];omega) _⟩
set_option maxHeartbeats 4000000 in
theorem tries_law {w:World} {vl:Value} {L:List Ent} (hg:Glob w) (H:Fls w vl L w.heap.size) (n m:Int) (o f r:Int) (v:R4) (t:Nat→Int) (ht:∀ i,14≤i→t i=0) :
 Calls Tryz.prog 4 #[vl,.int .i64 n,.int .i64 m,addr o f r,rec4 v,.agg (bs 14 t)] w fun e w'=>e = .returned (.bool true)∧Below w.heap.size w w':=by
 have S0:Hid (Br w o f r v t (((w.alloc (.cells #[.int .i64 o,.int .i64 f,.int .i64 r] 24)).alloc (.cells #[.int .u8 v.1,.int .u8 v.2.1,.int .u8 v.2.2.1,.int .u8 v.2.2.2] 26)).alloc (.cells (bs 14 t) 52))):=Lib.hid (br_of w o f r v t);have HG:=Lib.hid hg;have HH:=Lib.hid H;have HT:=Lib.hid (hT_all ht);have HP:=Lib.hid (fun k=>hT_put (t:=t) (k:=k));have HS:=Lib.hid (fun k=>hT_same (t:=t) (k:=k));clear hg H ht;unfold rec4 addr
 go_enter Tryz.func4,Tryz.ntmps4
 go_wp2_with fail;generalize ((w.alloc (.cells #[.int .i64 o,.int .i64 f,.int .i64 r] 24)).alloc (.cells #[.int .u8 v.1,.int .u8 v.2.1,.int .u8 v.2.2.1,.int .u8 v.2.2.2] 26)).alloc (.cells (bs 14 t) 52)=W0 at *;refine (build_any (HH.out.below S0.out.bel) S0.out.bel.size).mono ?_;rintro e w1 ⟨s,rr,F,rfl,J,hr⟩;generalize stL L=A at *;have DD:=Lib.hid (dd_of J rfl hr);have G5:=Lib.hid (HG.out.below (S0.out.bel));have KA:=Lib.hid (cb_of J hr S0.out.a);have KV:=Lib.hid (cb_of J hr S0.out.v);have KT:=Lib.hid (cb_of J hr S0.out.t);have BL:=Lib.hid S0.out.bel;clear J hr S0 HH;unfold Pa.ptr;have hmm:=@run_makeMap Tryz.prog;go_upto_region 4 with fail;clear hmm;have M0:Hid (HBl (w1.alloc (.map #[] 0)) w1.heap.size 0 (hT t 0)):=Lib.hid (by rw [hT_zero];exact hbl_new w1);have B0:Hid (Below w1.heap.size w1 (w1.alloc (.map #[] 0))):=Lib.hid (Fs.below_new w1 _);have LB:Hid (∀ j,F j→j < w1.heap.size):=Lib.hid DD.out.st.low;generalize w1.alloc (.map #[] 0)=W1 at *;generalize hbm:w1.heap.size=bm at M0 ⊢;have HBM:=Lib.hid hbm;clear hbm
 go_loopw [16] (fun i wr=>∃ k N:Nat,k≤14∧N≤k∧i = .int .i64 k∧Hid (HBl wr bm N (hT t k))∧Hid (Below w1.heap.size w1 wr)) (fun i _=>14 - (intOf i).toNat)
 case atStart=>exact ⟨0,0,Nat.zero_le _,Nat.zero_le _,rfl,M0,B0⟩
 case round =>
  obtain ⟨k,N,hk,hN,rfl,M,B⟩:=hrel;clear M0 B0
  by_cases hlt:k < 14
  ·have hkm:(k:Int) < 14:=by omega
   have RT:=Lib.hid ((B.out.block _ (lt_of_block KT.out.row)).trans KT.out.row);have c0:=(show RowF wr (w.heap.size+2) 52 14 t from RT.out).cell hlt;have WK:Hid (Wf (k:Int)):=Lib.hid (WalkArith.wf_i64 (by omega));have P1:=Lib.hid (HP.out k);have P2:=Lib.hid (HS.out k);have ia:=ix14 (w.heap.size+2) k hlt;generalize t k=x at c0 P1 P2
   by_cases hx:x=0
   ·have P3:=Lib.hid (P2.out hx)
    have M2:Hid (HBl wr bm N (hT t (k+1))):=Lib.hid (by rw [← P3.out];exact M.out);subst hx;clear P1 P2 P3 M RT;go_wp2
    go_roundw
    case rel=>exact ⟨k+1,N,by omega,by omega,by go_num,M2,B⟩
    case measure=>simp [intOf];omega
   ·have P3:=Lib.hid (P1.out hx)
    have HX:(x != 0)=true:=by simpa using hx
    clear P1 P2 RT
    go_wp2_with (first
     | (at_mapUpdate;refine at_hput rfl _ _ _ rfl rfl M.out (by unfold maxLen;omega) (k:Int) x rfl rfl WK.out ?_;intro w4 m4 g4)
     | fail)
    have M2:Hid (HBl w4 bm (N+1) (hT t (k+1))):=Lib.hid (by rw [← P3.out];exact m4);have B2:Hid (Below w1.heap.size w1 w4):=Lib.hid (B.out.grown g4 B.out.size (fun j e=>by injection e with e;have:=HBM.out;omega));clear m4 g4 M B P3;go_wp2
    go_roundw
    case rel=>exact ⟨k+1,N+1,by omega,by omega,by go_num,M2,B2⟩
    case measure=>simp [intOf];omega
  ·have TM:Hid (Tm wr (.map (some bm)) t):=Lib.hid ⟨hT t 14,HT.out,.inr ⟨bm,N,rfl,by
    have h:=M.out;obtain rfl:k=14:=by omega
    exact h⟩⟩
   have HM:Hid (∀ b,Value.map (some bm) = .map (some b)→¬ F b):=Lib.hid fun b e g=>by
    injection e with e;injection e with e;subst e;have:=LB.out _ g;have:=HBM.out
    omega
   have DD:=Lib.hid (DD.out.below B.out);have KA:=Lib.hid (KA.out.below B.out);have KV:=Lib.hid (KV.out.below B.out);have KT:=Lib.hid (KT.out.below B.out);clear M B HT HP HS LB;go_upto_region 8 with fail;clear hlt hk;generalize (k:Int)=k14 at *;have a0:wr.cell? ⟨w.heap.size,0,none⟩=some (.int .i64 o):=row_cell KA.out.row 0;have a1:wr.cell? ⟨w.heap.size,1,none⟩=some (.int .i64 f):=row_cell KA.out.row 1;have a2:wr.cell? ⟨w.heap.size,2,none⟩=some (.int .i64 r):=row_cell KA.out.row 2;have x0:wr.cell? ⟨w.heap.size+1,0,none⟩=some (.int .u8 v.1):=row_cell KV.out.row 0;have x1:wr.cell? ⟨w.heap.size+1,1,none⟩=some (.int .u8 v.2.1):=row_cell KV.out.row 1;have x2:wr.cell? ⟨w.heap.size+1,2,none⟩=some (.int .u8 v.2.2.1):=row_cell KV.out.row 2;have x3:wr.cell? ⟨w.heap.size+1,3,none⟩=some (.int .u8 v.2.2.2):=row_cell KV.out.row 3;have TY:=try_st DD.out.st (DD.out.glob G5.out).1 (DD.out.glob G5.out).2 (by decide) n m o f r v TM.out HM.out;have RY:=Lib.hid (fun W F (h:Rs W rr F A 0) hF=>rtry_any h hF (by decide) n m o f r v t);unfold RtyPost at RY;generalize tyV false A n m o f r v t=V at *;generalize tyE false A n m o f r v t=E at *;generalize tyA false A n m o f r v t=A' at *;generalize tyD false A n m o f r v t 0=D at *;unfold rec4 addr at TY RY;go_wp2_with fail;clear a0 a1 a2 x0 x1 x2 x3;refine TY.mono ?_;rintro e w5 ⟨rfl,st,on⟩;have DA:=Lib.hid (DD.out.inS st on);have KA:=Lib.hid (KA.out.inS on);have KV:=Lib.hid (KV.out.inS on);have KT:=Lib.hid (KT.out.inS on);clear TY st on DD TM HM;generalize Fx F wr w5=F5 at *;have DD:=Lib.hid (DA.out.below (Fs.below_new w5 (.cells #[.int .u8 V.1,.int .u8 V.2.1,.int .u8 V.2.2.1,.int .u8 V.2.2.2] 26)));have KX:=Lib.hid (DA.out.box #[.int .u8 V.1,.int .u8 V.2.1,.int .u8 V.2.2.1,.int .u8 V.2.2.2] 26);have KA:=Lib.hid (KA.out.below (Fs.below_new w5 (.cells #[.int .u8 V.1,.int .u8 V.2.1,.int .u8 V.2.2.1,.int .u8 V.2.2.2] 26)));have KV:=Lib.hid (KV.out.below (Fs.below_new w5 (.cells #[.int .u8 V.1,.int .u8 V.2.1,.int .u8 V.2.2.1,.int .u8 V.2.2.2] 26)));have KT:=Lib.hid (KT.out.below (Fs.below_new w5 (.cells #[.int .u8 V.1,.int .u8 V.2.1,.int .u8 V.2.2.1,.int .u8 V.2.2.2] 26)));clear DA;go_upto_region 9 with fail;generalize w5.alloc (.cells #[.int .u8 V.1,.int .u8 V.2.1,.int .u8 V.2.2.1,.int .u8 V.2.2.2] 26)=W5 at *;generalize hgx:w5.heap.size=gx at *;clear hgx;have a0:W5.cell? ⟨w.heap.size,0,none⟩=some (.int .i64 o):=row_cell KA.out.row 0;have a1:W5.cell? ⟨w.heap.size,1,none⟩=some (.int .i64 f):=row_cell KA.out.row 1;have a2:W5.cell? ⟨w.heap.size,2,none⟩=some (.int .i64 r):=row_cell KA.out.row 2;have x0:W5.cell? ⟨w.heap.size+1,0,none⟩=some (.int .u8 v.1):=row_cell KV.out.row 0;have x1:W5.cell? ⟨w.heap.size+1,1,none⟩=some (.int .u8 v.2.1):=row_cell KV.out.row 1;have x2:W5.cell? ⟨w.heap.size+1,2,none⟩=some (.int .u8 v.2.2.1):=row_cell KV.out.row 2;have x3:W5.cell? ⟨w.heap.size+1,3,none⟩=some (.int .u8 v.2.2.2):=row_cell KV.out.row 3
   go_wp2_with (first
    | ((with_reducible refine load_bs (o:=⟨some 56,_,_,_,_,_⟩) rfl _ rfl _ _ ?_ KT.out.row ?_);(exact rfl))
    | fail)
   clear a0 a1 a2 x0 x1 x2 x3;refine (RY.out W5 F5 DD.out.rs DD.out.st.low).mono ?_;rintro e w6 ⟨rfl,rs,on⟩;have DA:=Lib.hid (DD.out.inR rs on);have KA:=Lib.hid (KA.out.inR on);have KV:=Lib.hid (KV.out.inR on);have KT:=Lib.hid (KT.out.inR on);have KX:=Lib.hid (KX.out.inR on);clear rs on DD RY;have DD:=Lib.hid (DA.out.below (Fs.below_new w6 (.cells #[.int .u8 V.1,.int .u8 V.2.1,.int .u8 V.2.2.1,.int .u8 V.2.2.2] 26)));have KY:=Lib.hid (DA.out.box #[.int .u8 V.1,.int .u8 V.2.1,.int .u8 V.2.2.1,.int .u8 V.2.2.2] 26);have KA:=Lib.hid (KA.out.below (Fs.below_new w6 (.cells #[.int .u8 V.1,.int .u8 V.2.1,.int .u8 V.2.2.1,.int .u8 V.2.2.2] 26)));have KV:=Lib.hid (KV.out.below (Fs.below_new w6 (.cells #[.int .u8 V.1,.int .u8 V.2.1,.int .u8 V.2.2.1,.int .u8 V.2.2.2] 26)));have KT:=Lib.hid (KT.out.below (Fs.below_new w6 (.cells #[.int .u8 V.1,.int .u8 V.2.1,.int .u8 V.2.2.1,.int .u8 V.2.2.2] 26)));have KX:=Lib.hid (KX.out.below (Fs.below_new w6 (.cells #[.int .u8 V.1,.int .u8 V.2.1,.int .u8 V.2.2.1,.int .u8 V.2.2.2] 26)));clear DA;go_upto_region 10 with fail;generalize w6.alloc (.cells #[.int .u8 V.1,.int .u8 V.2.1,.int .u8 V.2.2.1,.int .u8 V.2.2.2] 26)=W8 at *;generalize hgy:w6.heap.size=gy at *;clear hgy;obtain ⟨rv,rl,hrr,hra⟩:=id DD.out.rs;have LR:Hid (Ls (fun k=>F5 k∨k=rr) W8 rv A'):=⟨rl,hrr.list,hra⟩;have z0:=Sd.cell_by (show W8.cell? ⟨rr,0,none⟩=some rv from row_cell hrr.row 0);have z1:=Sd.cell_by (show W8.cell? ⟨rr,1,none⟩=some (.int .i64 D) from row_cell hrr.row 1);have LE:=Lib.hid DD.out.st.okA.len;clear hrr hra rl;have ax0:=Sd.cell_by (show W8.cell? ⟨gx,0,none⟩=some (.int .u8 V.1) from row_cell KX.out.row 0);have ax1:=Sd.cell_by (show W8.cell? ⟨gx,1,none⟩=some (.int .u8 V.2.1) from row_cell KX.out.row 1);have ax2:=Sd.cell_by (show W8.cell? ⟨gx,2,none⟩=some (.int .u8 V.2.2.1) from row_cell KX.out.row 2);have ax3:=Sd.cell_by (show W8.cell? ⟨gx,3,none⟩=some (.int .u8 V.2.2.2) from row_cell KX.out.row 3);have ay0:=Sd.cell_by (show W8.cell? ⟨gy,0,none⟩=some (.int .u8 V.1) from row_cell KY.out.row 0);have ay1:=Sd.cell_by (show W8.cell? ⟨gy,1,none⟩=some (.int .u8 V.2.1) from row_cell KY.out.row 1);have ay2:=Sd.cell_by (show W8.cell? ⟨gy,2,none⟩=some (.int .u8 V.2.2.1) from row_cell KY.out.row 2);have ay3:=Sd.cell_by (show W8.cell? ⟨gy,3,none⟩=some (.int .u8 V.2.2.2) from row_cell KY.out.row 3);have er:∀ W,(Op.equalIn 10000 26 (.agg #[.int .u8 V.1,.int .u8 V.2.1,.int .u8 V.2.2.1,.int .u8 V.2.2.2]) (.agg #[.int .u8 V.1,.int .u8 V.2.1,.int .u8 V.2.2.1,.int .u8 V.2.2.2])).run Tryz.prog W = .ok true W:=fun W=>by have:=eq_rec V V W;rwa [decide_eq_true rfl] at this
   refine Sd.start [(true,0),(false,1),(false,2),(false,3),(false,4),(false,5),(false,6),(false,7),(false,8),(false,9),(false,10),(false,11),(false,12),(false,14),(false,15),(false,16),(false,17),(true,13),(true,18),(false,19),(false,20),(false,21),(false,23),(false,24),(false,25),(false,26),(true,22),(false,27),(false,28),(false,29)] (by kernel_rfl) (by kernel_rfl) (by kernel_rfl) ?_;dsimp only [Sd.picks,List.getElem?_cons_succ,List.getElem?_cons_zero];have B0:=Lib.hid ((Below.refl W8.heap.size W8).drew);generalize W8.drew=Y0 at *;refine Sd.call (by rfl) (fun K hK=>?_);go_simp;refine (awake_any Y0 (DD.out.below B0.out |>.glob G5.out).1).mono ?_;rintro e Y1 ⟨rfl,b⟩;have B1:=Lib.hid (B0.out.trans (b.mono B0.out.size));refine hK _ _ (Sd.Cl.of B1.out) ?_;clear hK K b B0
   repeat (refine Sd.lit ?_;quiet_step (fail);refine wpQuiet_nil ?_)
   refine Sd.call (by rfl) (fun K hK=>?_);go_simp;refine (files_any (DD.out.below B1.out).st).mono ?_;rintro e Y2 ⟨u,rfl,hls,b⟩;have LV:=Lib.hid (hls F5 (DD.out.below B1.out).st.low);clear hls;have B2:=Lib.hid (B1.out.trans (b.mono B1.out.size));refine hK _ _ (Sd.Cl.of B2.out) ?_;clear hK K b B1;refine Sd.call (by rfl) (fun K hK=>?_);go_simp;refine (same_is LV.out (LR.out.below B2.out) LE.out).mono ?_;rintro e Y3 ⟨rfl,b⟩;have B3:=Lib.hid (B2.out.trans (b.mono B2.out.size));refine hK _ _ (Sd.Cl.of B3.out) ?_;clear hK K b B2
   repeat (refine Sd.lit ?_;quiet_step (fail);refine wpQuiet_nil ?_)
   refine Sd.call (by rfl) (fun K hK=>?_);go_simp;refine (denied_st (DD.out.below B3.out).st).mono ?_;rintro e Y4 ⟨rfl,b⟩;have B4:=Lib.hid (B3.out.trans (b.mono B3.out.size));refine hK _ _ (Sd.Cl.of B4.out) ?_;clear hK K b B3
   repeat (refine Sd.lit ?_;quiet_step (fail);refine wpQuiet_nil ?_)
   refine Sd.done ?_;have BB:=Lib.hid (BL.out.trans ((DD.out.below B4.out).bel.mono BL.out.size));go_wp2
   go_ret
   exact ⟨rfl,BB.out⟩
end Go.Proofs.YtelgnhmcnfibnaaGreatDoor.Sv
