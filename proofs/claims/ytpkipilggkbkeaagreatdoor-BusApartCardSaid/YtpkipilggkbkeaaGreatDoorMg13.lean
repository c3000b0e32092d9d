import Derived.Test.YtpkipilggkbkeaaGreatDoorMg9
import Derived.Test.YtpkipilggkbkeaaGreatDoorMg12
import Derived.Test.YtpkipilggkbkeaaGreatDoorMg10
import Derived.Test.YtpkipilggkbkeaaGreatDoorMg6
import Derived.Test.YtpkipilggkbkeaaGreatDoorMg7
import Derived.Deep.Cut
import Derived.Test.YtpkipilggkbkeaaGreatDoorMg8
import Derived.Test.YtpkipilggkbkeaaGreatDoorMg3
import Derived.Test.YtpkipilggkbkeaaGreatDoorMg2
import Derived.Test.YtpkipilggkbkeaaGreatDoorMg5
set_option maxRecDepth 100000
namespace Go.Proofs.YtpkipilggkbkeaaGreatDoor.Pa
open Go.RowKit Go.Maps
open Fs (Abs St Only Fx Wf gB gV GetPost rget_st OkA)
open Rw (Rd Ow At)
open Ro (E5 z5 eat K5 at5 okE ent okE_bounds)
open Ck (LL lat sN sE tE RdL rsender_any WhoPost)
open Fl (R4 z4 rec4 okR arr4 row_cell row_frozen sto4 sto4_row sto4_other sto4_below sto4_size)
open Ua (arr Row frm tb tp te upd rput_any rturn_any info_of arr_one arr_congr below_setRow load_frame store_frame store_new)
attribute [local irreducible] Sd.wpSd wpQuiet Sf.wpSf
theorem rget_has {w:World} {r:Nat} {x:Abs×Int} (H:Hrf w r x) (n k:Int):Calls Tryz.prog 74 #[.pointer (some ⟨r,0,none⟩),.int .i64 n,.int .i64 k] w (GetPost w (gV x.1 n k) (gB x.1 n k)):=rget_st H n k
structure FrJ (w:World) (g:Nat) (F:Nat→Bool) (wr:World):Prop where
 res:Row wr w.heap.size lowF
 row:Row wr g F
 gt:w.heap.size < g
 bel:Below w.heap.size w wr
theorem FrJ.below {w wr wr':World} {g:Nat} {F:Nat→Bool} (h:FrJ w g F wr) (b:Below wr.heap.size wr wr'):FrJ w g F wr':=⟨h.res.below b h.res.lt,h.row.below b h.row.lt,h.gt,h.bel.trans (b.mono h.bel.size)⟩
theorem FrJ.set {w wr:World} {g:Nat} {F:Nat→Bool} (h:FrJ w g F wr) (G:Nat→Bool):FrJ w g G (wr.setRow g (arr G)):=⟨(setRow_other wr g _ _ (by have:=h.gt;omega)).trans h.res,h.row.row G,h.gt,below_setRow h.bel _ _ (by have:=h.gt;omega)⟩
theorem FrJ.to {w wr:World} {g:Nat} {F G:Nat→Bool} (h:FrJ w g F wr) (e:∀ i,i < 11→F i=G i):FrJ w g G wr:=⟨h.res,h.row.to e,h.gt,h.bel⟩
theorem fr_no {S:Sts} {T:LL} {V:List Bool} {P:List S2} {s:Int} {w w':World} (h:snB S T V s=false) (b:Below w.heap.size w w'):FramePost w (sbN S T V s) (frF S T V P s) (snB S T V s) (.returned (.tuple #[.int .i64 (-1),.agg (arr lowF),.bool false])) w':=by
 refine ⟨?_,b⟩;unfold sbN frF;rw [h]
 rfl
theorem fr_yes {S:Sts} {T:LL} {V:List Bool} {P:List S2} {s:Int} {w w':World} (h:snB S T V s=true) (b:Below w.heap.size w w'):FramePost w (sbN S T V s) (frF S T V P s) (snB S T V s) (.returned (.tuple #[.int .i64 (sN s T),.agg (arr (sq P s (frm (snX S T s) false) P.length)),.bool true])) w':=by
 refine ⟨?_,b⟩;unfold sbN frF;rw [h]
 rfl
structure RfE (w:World) (g:Nat) (F:Nat→Bool) (W:World):Prop where
 row:Row W g F
 bel:Below w.heap.size w W
set_option maxHeartbeats 1000000 in
theorem rframe_any {w:World} {vs vt vl vp:Value} {S:Sts} {T:LL} {V:List Bool} {P:List S2} (H:Nr w vs vt vl S T V) (RP:Rd K2 w vp P) (s:Int):Calls Tryz.prog 84 #[vs,vt,vl,vp,.int .i64 s] w (FramePost w (sbN S T V s) (frF S T V P s) (snB S T V s)):=by
 have SA:=Lib.hid (fun W b=>rsender_any W vt T s (H.tb.below (w':=W) b));unfold WhoPost at SA;have NO:=Lib.hid (fun h w' b=>fr_no (S:=S) (T:=T) (V:=V) (P:=P) (s:=s) (w:=w) (w':=w') h b);have YES:=Lib.hid (fun h w' b=>fr_yes (S:=S) (T:=T) (V:=V) (P:=P) (s:=s) (w:=w) (w':=w') h b);have R0:Hid (Row (w.alloc (.cells #[.bool false,.bool false,.bool false,.bool false,.bool false,.bool false,.bool false,.bool false,.bool false,.bool false,.bool false] 114)) w.heap.size lowF):=Lib.hid (Row.new w lowF);have B0:Hid (Below w.heap.size w (w.alloc (.cells #[.bool false,.bool false,.bool false,.bool false,.bool false,.bool false,.bool false,.bool false,.bool false,.bool false,.bool false] 114))):=Lib.hid ((Below.refl w.heap.size w).alloc (Nat.le_refl _) _);obtain ⟨sa,cs,rfl,_⟩:=H.st.slice;obtain ⟨al,cl,el,_⟩:=H.lv.slice;rw [H.ll] at el;subst el;obtain ⟨ap,cp,rfl,_,hmp,hAP⟩:=RP;have HAP:=Lib.hid hAP;unfold maxLen at hmp;clear hAP;generalize hnp:P.length=np at *;have HNP:=Lib.hid hnp;clear hnp
 by_cases h0:0≤sN s T
 ·obtain ⟨n,hn,hlt,hmem,oke,hk1,hk2⟩:=sender_is H.ok h0
  obtain ⟨f0,r0,y0⟩:=(okE_bounds oke).2.2;have hnS:n < S.length:=by rw [← H.lt];exact hlt
  have hnV:n < V.length:=by rw [H.ll];exact hnS
  obtain ⟨b,off,cap,sp,e1,cS,hS⟩:=H.st.one hnS;injection e1 with e1 _ e2;subst e1 e2;obtain ⟨bl,ol,el2,AL⟩:∃ bl ol,al=some ⟨bl,ol,none⟩∧At KB w bl ol V:=by
   obtain ⟨a',c',e',_,_,h3⟩:=H.lv;injection e' with q1 _ q2;subst q1;exact h3 (by omega)
  subst el2;have cV:=atB AL hnV
  have SB:Hid (snB S T V s=(vat V n && gB (sat S n).1 (sE s T).2.2.1 (sE s T).2.2.2.1)):=Lib.hid (by
   unfold snB
   rw [hn,decide_eq_true (Int.natCast_nonneg n),Bool.true_and])
  have SX:Hid (snX S T s=rb (gV (sat S n).1 (sE s T).2.2.1 (sE s T).2.2.2.1) (sE s T).2.2.2.2):=Lib.hid (by
   unfold snX
   rw [hn])
  have ev:V.getD n false=vat V n:=rfl;rw [ev] at cV;rw [hn] at YES SA;have BY:Hid (byt (snX S T s)):=Lib.hid (by rw [SX.out];exact rb_ok (gV_ok hS.okA _ _) _);have SG:Hid (∀ W,Below w.heap.size w W→Calls Tryz.prog 74 #[.pointer (some ⟨sp,0,none⟩),.int .i64 (sE s T).2.2.1,.int .i64 (sE s T).2.2.2.1] W (GetPost W (gV (sat S n).1 (sE s T).2.2.1 (sE s T).2.2.2.1) (gB (sat S n).1 (sE s T).2.2.1 (sE s T).2.2.2.1))):=Lib.hid (fun W b=>rget_has (hS.below b) _ _);clear hmem hS H h0 hk1 hk2 hlt oke hn;unfold GetPost at SG;generalize gV (sat S n).1 (sE s T).2.2.1 (sE s T).2.2.2.1=gv at *;generalize gB (sat S n).1 (sE s T).2.2.1 (sE s T).2.2.2.1=gb at *;unfold ent at SA;generalize snX S T s=X at *;generalize sE s T=x at *;obtain ⟨q,s',f,r,y⟩:=x;simp only at y0 SX SA SG;obtain ⟨j,rfl⟩:∃ j:Nat,y=j:=⟨y.toNat,by omega⟩;have hj:j < 4:=by omega
  clear f0 r0 y0;generalize snB S T V s=a3 at *;generalize sbN S T V s=a1 at *;generalize frF S T V P s=a2 at *;generalize S.length=N at *;have lS:b < w.heap.size:=World.block_lt_of_cell? _ _ cS;have lV:bl < w.heap.size:=World.block_lt_of_cell? _ _ cV;have CS:=Lib.hid cS;have CV:=Lib.hid cV;clear cS AL hnV
  go_enter Tryz.func84,Tryz.ntmps84
  go_wp2_with fail;generalize (w.alloc (.cells #[.bool false,.bool false,.bool false,.bool false,.bool false,.bool false,.bool false,.bool false,.bool false,.bool false,.bool false] 114))=W0 at *;refine (SA.out W0 B0.out).mono ?_;rintro e w1 ⟨rfl,b1⟩;have R1:=Lib.hid (R0.out.below b1 R0.out.lt);have B1':=B0.out.trans (b1.mono B0.out.size);have R1':=Lib.hid (R1.out.below ((Below.refl w1.heap.size w1).alloc (Nat.le_refl _) (.cells #[.int .i64 q,.int .i64 s',.int .i64 f,.int .i64 r,.int .i64 (j:Int)] 98)) R1.out.lt);have X1:Hid ((w1.alloc (.cells #[.int .i64 q,.int .i64 s',.int .i64 f,.int .i64 r,.int .i64 (j:Int)] 98)).heap[w1.heap.size]? = some (.cells #[.int .i64 q,.int .i64 s',.int .i64 f,.int .i64 r,.int .i64 (j:Int)] 98 (0,0))):=Lib.hid (heap_alloc_new w1 _);have B1:=Lib.hid (B1'.alloc B1'.size (.cells #[.int .i64 q,.int .i64 s',.int .i64 f,.int .i64 r,.int .i64 (j:Int)] 98));have hg1:=R1.out.lt;go_upto_region 2 with fail;generalize (w1.alloc (.cells #[.int .i64 q,.int .i64 s',.int .i64 f,.int .i64 r,.int .i64 (j:Int)] 98))=W at *;clear b1 B1' SA R0 B0 R1;generalize w1.heap.size=g at *;have cV:=(B1.out.cell lV).trans CV.out
  cases hv:vat V n with
  | false =>
    rw [hv] at cV;have N2:=Lib.hid (NO.out (by rw [SB.out,hv];rfl) (W.setRow w.heap.size (arr lowF)) (below_setRow B1.out _ _ (Nat.le_refl _)));clear NO YES SB SX
    go_wp2_with ((with_reducible refine store_frame (o:=⟨none,_,_,_,_,_⟩) rfl _ _ rfl w.heap.size lowF lowF ?_ ?_ R1'.out ?_);(exact rfl);(exact rfl))
    (try simp only [Exit.inBlock,Exit.then])
    refine bodyPost_ret (results_fr rfl _ _ _ _ lowF _ rfl rfl rfl (R1'.out.row lowF)) rfl ?_;exact N2.out
  | true =>
    rw [hv] at cV;go_upto_region 4 with fail;have hgW:=lt_of_block X1.out;have cS:=Sd.cell_by ((B1.out.cell lS).trans CS.out);have x2:=Sd.cell_by (show W.cell? ⟨g,2,none⟩=some (.int .i64 f) from row_cell X1.out 2);have x3:=Sd.cell_by (show W.cell? ⟨g,3,none⟩=some (.int .i64 r) from row_cell X1.out 3);refine Sf.start [(0,0),(0,1),(0,2),(0,3),(0,4),(0,5),(0,6),(0,7),(1,8),(0,9),(0,10),(0,11),(2,12),(1,13),(0,14)] [⟨12,15,#[.int .u8 0,.int .u8 0,.int .u8 0,.int .u8 0],96⟩] (by kernel_rfl) (by kernel_rfl) (by kernel_rfl) (by decide) (by decide) ?_ ?_ ?_
    ·simp
    ·intro f hf
     simp only [List.mem_cons,List.not_mem_nil,or_false] at hf;subst hf;exact ⟨_,rfl,rfl,rfl,fun ρ w=>by go_simp⟩
    dsimp only [Sf.picks,List.getElem?_cons_succ,List.getElem?_cons_zero];have BW:=Lib.hid ((Below.refl W.heap.size W).drew);unfold ptr at cS
    repeat (refine Sf.lit (fun xs=>?_);simp only [Sf.fill,List.foldl_cons,List.foldl_nil];quiet_step (fail);refine wpQuiet_nil ?_)
    refine Sf.call (fun xs w3 hb hc=>⟨by rfl,fun K hK=>?_⟩);have B3:=Lib.hid (BW.out.trans (hb.mono BW.out.size));clear hb hc BW;simp only [Sf.fill,List.foldl_cons,List.foldl_nil];go_simp;refine (SG.out w3 (B1.out.trans (B3.out.mono B1.out.size))).mono ?_;rintro e4 w4 ⟨rfl,b4⟩;have B4:=Lib.hid (B3.out.trans (b4.mono B3.out.size));refine hK _ _ (Sd.Cl.of B4.out) b4.size (fun _=>b4) ?_;clear hK K b4 B3 SG;unfold rec4
    repeat (refine Sf.lit (fun xs=>?_);simp only [Sf.fill,List.foldl_cons,List.foldl_nil];quiet_step (fail);refine wpQuiet_nil ?_)
    refine Sf.meet (fun g7 w7 hb hc row n7 hH hL=>?_);have B7:=Lib.hid (B4.out.trans (hb.mono B4.out.size));have R7:Hid (w7.heap[g7]? = some (.cells (arr4 z4) 96 (0,0))):=Lib.hid row;clear hb hc row hH hL B4
    repeat (refine Sf.lit (fun xs=>?_);simp only [Sf.fill,List.foldl_nil];quiet_step (fail);refine wpQuiet_nil ?_)
    refine Sf.call (fun xs w9 hb hc=>⟨by rfl,fun K hK=>?_⟩);have B9:=Lib.hid (B7.out.trans (hb.mono B7.out.size));have R9:=(hb.block _ (lt_of_block R7.out)).trans R7.out;have d0:w9.cell? ⟨g7,0,none⟩=some (.int .u8 0):=row_cell R9 0;have d1:w9.cell? ⟨g7,1,none⟩=some (.int .u8 0):=row_cell R9 1;have d2:w9.cell? ⟨g7,2,none⟩=some (.int .u8 0):=row_cell R9 2;have d3:w9.cell? ⟨g7,3,none⟩=some (.int .u8 0):=row_cell R9 3;have f0:w9.frozen? ⟨g7,0,none⟩=false:=row_frozen R9 0;have f1:w9.frozen? ⟨g7,1,none⟩=false:=row_frozen R9 1;have f2:w9.frozen? ⟨g7,2,none⟩=false:=row_frozen R9 2;have f3:w9.frozen? ⟨g7,3,none⟩=false:=row_frozen R9 3;have RA:=sto4_row R9 gv;have BA:=sto4_below (o:=0) (r:=gv) B9.out n7;have hsz:=sto4_size w9 g7 0 gv;clear hb hc B7 R7 R9;simp only [Sf.fill,List.foldl_nil];go_simp;refine hK _ _ (Sd.Cl.of BA) (by rw [← hsz];exact Nat.le_refl _) (fun h=>absurd rfl h) ?_;clear hK K d0 d1 d2 d3 f0 f1 f2 f3 hsz
    show Sf.wpSf _ _ _ _ _ _ _ _ _ _ (sto4 w9 g7 0 gv)
    have B10:=Lib.hid (B1.out.trans (BA.mono B1.out.size));have X10:=Lib.hid ((BA.block _ hgW).trans X1.out);have R10:=Lib.hid RA;have F10:=Lib.hid (R1'.out.below BA R1'.out.lt);clear BA RA cS x2 x3 B9 B1 X1 CS CV n7 R1' cV;generalize sto4 w9 g7 0 gv=wA at *
    repeat (refine Sf.lit (fun xs=>?_);simp only [Sf.fill,List.foldl_nil];quiet_step (fail);refine wpQuiet_nil ?_)
    refine Sf.done (fun wB hb hc=>?_);have BB:=Lib.hid (B10.out.trans (hb.mono B10.out.size));have XB:=Lib.hid ((hb.block _ (lt_of_block X10.out)).trans X10.out);have RB:=Lib.hid ((hb.block _ (lt_of_block R10.out)).trans R10.out);have FB:=Lib.hid (F10.out.below hb F10.out.lt);clear hb hc B10 X10 R10 F10
    cases hb:gb with
    | false =>
      have N2:=Lib.hid (NO.out (by rw [SB.out,hv,hb];rfl) (wB.setRow w.heap.size (arr lowF)) (below_setRow BB.out _ _ (Nat.le_refl _)));clear NO YES SB SX
      go_wp2_with ((with_reducible refine store_frame (o:=⟨none,_,_,_,_,_⟩) rfl _ _ rfl w.heap.size lowF lowF ?_ ?_ FB.out ?_);(exact rfl);(exact rfl))
      (try simp only [Exit.inBlock,Exit.then])
      refine bodyPost_ret (results_fr rfl _ _ _ _ lowF _ rfl rfl rfl (FB.out.row lowF)) rfl ?_;exact N2.out
    | true =>
      have N2:=Lib.hid (YES.out (by rw [SB.out,hv,hb];rfl));clear NO YES SB;go_upto_region 7 with fail;have x4:wB.cell? ⟨g,4,none⟩=some (.int .i64 (j:Int)):=row_cell XB.out 4;have rj:wB.cell? ⟨g7,j,none⟩=some (.int .u8 X):=by rw [SX.out];exact (row_cell RB.out j).trans (arr4_at gv hj)
      have PU:=Lib.hid (rput_any wB X false BY.out.1 BY.out.2);clear SX XB RB cV ev;go_wp2_with fail;refine PU.out.mono ?_;rintro e w11 ⟨rfl,b11⟩
      have J0:Hid (FrJ w w11.heap.size (frm X false) (w11.alloc (.cells (arr (frm X false)) 114))):=Lib.hid (by
       have r1:=FB.out.below b11 FB.out.lt;have b12:=BB.out.trans (b11.mono BB.out.size)
       exact ⟨r1.below ((Below.refl w11.heap.size w11).alloc (Nat.le_refl _) _) r1.lt,Row.new w11 _,r1.lt,b12.alloc b12.size _⟩)
      clear b11 PU FB BB x4 rj
      go_wp2_with ((with_reducible refine store_new (o:=⟨none,_,_,_,_,_⟩) rfl _ _ rfl (frm X false) ?_ ?_ ?_);(exact rfl);(exact rfl))
      generalize (w11.alloc (.cells (arr (frm X false)) 114))=W12 at *;generalize w11.heap.size=gf at *;clear hj BY
      go_loopw [18] (fun i wr=>∃ k:Nat,k≤np∧i = .int .i64 k∧Hid (FrJ w gf (sq P s (frm X false) k) wr)) (fun i _=>np - (intOf i).toNat)
      case atStart=>exact ⟨0,Nat.zero_le _,rfl,J0⟩
      case round =>
       obtain ⟨k,hk,rfl,I⟩:=hrel;clear J0
       by_cases hlt:k < np
       ·obtain ⟨b',off',rfl,A1⟩:=HAP.out (by omega)
        obtain ⟨c0,c1⟩:=at2 (A1.below I.out.bel) (i:=k) (by have:=HNP.out;omega);have Y:=Lib.hid (sq_yes P s (frm X false) (j:=k) (by have:=HNP.out;omega));have NN:=Lib.hid (sq_no P s (frm X false) (j:=k) (by have:=HNP.out;omega));generalize pat P k=z at *;obtain ⟨z1,z2⟩:=z;simp only at c0 c1 Y NN;clear A1
        by_cases h1:z1=s
        ·have YY:=Lib.hid (Y.out h1)
         clear Y NN;have d1:(z1 != s)=false:=by simpa using h1
         generalize hG:sq P s (frm X false) k=G at *;have hgt:=I.out.gt;go_upto_region 12 with fail;clear c0 d1;have C1:=Lib.hid c1;have k0:=Sd.cell_by (I.out.row.cell 0 (by omega));have k1:=Sd.cell_by (I.out.row.cell 1 (by omega));have k2:=Sd.cell_by (I.out.row.cell 2 (by omega));have k3:=Sd.cell_by (I.out.row.cell 3 (by omega));have k4:=Sd.cell_by (I.out.row.cell 4 (by omega));have k5:=Sd.cell_by (I.out.row.cell 5 (by omega));have k6:=Sd.cell_by (I.out.row.cell 6 (by omega));have k7:=Sd.cell_by (I.out.row.cell 7 (by omega));have k8:=Sd.cell_by (I.out.row.cell 8 (by omega));have k9:=Sd.cell_by (I.out.row.cell 9 (by omega));have k10:=Sd.cell_by (I.out.row.cell 10 (by omega))
         replace c1:=Sd.cell_by c1
         refine Sf.start [(0,0),(0,1),(0,2),(0,3),(0,4),(0,5),(1,6),(2,7),(1,8)] [⟨7,19,#[.bool false,.bool false,.bool false,.bool false,.bool false,.bool false,.bool false,.bool false,.bool false,.bool false,.bool false],114⟩] (by kernel_rfl) (by kernel_rfl) (by kernel_rfl) (by decide) (by decide) ?_ ?_ ?_
         ·simp
         ·intro f hf
          simp only [List.mem_cons,List.not_mem_nil,or_false] at hf;subst hf;exact ⟨_,rfl,rfl,rfl,fun ρ w=>by go_simp⟩
         dsimp only [Sf.picks,List.getElem?_cons_succ,List.getElem?_cons_zero];have BW:=Lib.hid ((Below.refl wr.heap.size wr).drew)
         repeat (refine Sf.lit (fun xs=>?_);simp only [Sf.fill,List.foldl_cons,List.foldl_nil];quiet_step (fail);refine wpQuiet_nil ?_)
         clear k0 k1 k2 k3 k4 k5 k6 k7 k8 k9 k10 c1;refine Sf.call (fun xs w3 hb hc=>⟨by rfl,fun K hK=>?_⟩);have B3:=Lib.hid (BW.out.trans (hb.mono BW.out.size));clear hb hc BW;simp only [Sf.fill,List.foldl_cons,List.foldl_nil];go_simp;have TA:=rturn_any w3 G z2;unfold arr at TA;refine TA.mono ?_;rintro e4 w4 ⟨rfl,b4⟩;have B4:=Lib.hid (B3.out.trans (b4.mono B3.out.size));refine hK _ _ (Sd.Cl.of B4.out) b4.size (fun _=>b4) ?_;clear hK K b4 B3 TA;refine Sf.meet (fun g7 w7 hb hc row n7 hH hL=>?_);have B7:=Lib.hid (B4.out.trans (hb.mono B4.out.size));have R7:Hid (Row w7 g7 lowF):=Lib.hid row;clear hb hc row hH hL B4;refine Sf.call (fun xs w9 hb hc=>⟨by rfl,fun K hK=>?_⟩);have B9:=Lib.hid (B7.out.trans (hb.mono B7.out.size));have R9:=Lib.hid (R7.out.below hb R7.out.lt);clear hb hc B7 R7;simp only [Sf.fill,List.foldl_nil];refine wp_store_row 114 _ _ rfl g7 (arr (Ua.turn G z2 11)) rfl rfl 114 _ R9.out (info_of _) rfl (arr_one _) ?_;have RA:=R9.out.row (Ua.turn G z2 11);have BA:=below_setRow B9.out g7 (arr (Ua.turn G z2 11)) n7;refine hK _ _ (Sd.Cl.of BA) (by rw [size_setRow];exact Nat.le_refl _) (fun h=>absurd rfl h) ?_;have I9:=Lib.hid (I.out.below BA);have hne:g7≠gf:=by have:=I.out.row.lt;omega
         have hge:w.heap.size≤g7:=Nat.le_trans I.out.bel.size n7;have hne2:g7≠w.heap.size:=by have:=I.out.res.lt;omega
         have R10:=Lib.hid RA;clear hK K BA RA B9 R9 I n7 C1;generalize w9.setRow g7 (arr (Ua.turn G z2 11))=wA at *;refine Sf.done (fun wB hb hc=>?_);have IB:=Lib.hid (I9.out.below hb);have RB:=Lib.hid (R10.out.below hb R10.out.lt);clear hb hc I9 R10;have q0:=IB.out.row.cell 0 (by omega);have q1:=RB.out.cell 0 (by omega);have q2:=RB.out.frozen 0;have R2:=Lib.hid ((RB.out.set_ 0 (by omega) (G 0)).to (fun i hi=>tn_ref G z2 i hi));have I2:Hid (FrJ w gf G (wB.setCell ⟨g7,0,none⟩ (.bool (G 0)))):=Lib.hid ⟨IB.out.res.far (by simpa using hne2.symm) _,IB.out.row.far (by simpa using hne.symm) _,IB.out.gt,IB.out.bel.setCell hge _⟩;go_upto_region 14 with fail;clear q0 q1 q2 RB IB;generalize (wB.setCell ⟨g7,0,none⟩ (.bool (G 0)))=W14 at *;have I3:=Lib.hid (I2.out.set (tn G z2))
         go_wp2_with (first
          | ((with_reducible refine load_frame (o:=⟨some 79,_,_,_,_,_⟩) rfl _ rfl g7 (tn G z2) ?_ R2.out ?_);(exact rfl))
          | ((with_reducible refine store_frame (o:=⟨none,_,_,_,_,_⟩) rfl _ _ rfl gf (tn G z2) G ?_ ?_ I2.out.row ?_);(exact rfl);(exact rfl)))
         go_roundw
         case rel=>exact ⟨k+1,by omega,by go_num,by rw [YY.out];exact I3⟩
         case measure=>simp [intOf];omega
        ·have I2:Hid (FrJ w gf (sq P s (frm X false) (k+1)) wr):=Lib.hid (by rw [NN.out h1];exact I.out)
         have d1:(z1 != s)=true:=by simpa using h1
         clear Y NN I;go_wp2
         go_roundw
         case rel=>exact ⟨k+1,by omega,by go_num,I2⟩
         case measure=>simp [intOf];omega
       ·obtain rfl:k=np:=by omega
        go_upto_region 15 with fail;clear hlt;generalize sq P s (frm X false) k=G at *;have hgt:=I.out.gt;have C0:RfE w gf G wr.drew:=⟨I.out.row,I.out.bel.trans ((Below.refl wr.heap.size wr).drew.mono I.out.bel.size)⟩;have RS0:Row wr.drew w.heap.size lowF:=I.out.res;have k0:=Sc.cell_in (C:=fun W=>RfE w gf G W) (a:=⟨gf,0,none⟩) (fun W' h=>h.row.cell 0 (by omega));have k1:=Sc.cell_in (C:=fun W=>RfE w gf G W) (a:=⟨gf,1,none⟩) (fun W' h=>h.row.cell 1 (by omega));have k2:=Sc.cell_in (C:=fun W=>RfE w gf G W) (a:=⟨gf,2,none⟩) (fun W' h=>h.row.cell 2 (by omega));have k3:=Sc.cell_in (C:=fun W=>RfE w gf G W) (a:=⟨gf,3,none⟩) (fun W' h=>h.row.cell 3 (by omega));have k4:=Sc.cell_in (C:=fun W=>RfE w gf G W) (a:=⟨gf,4,none⟩) (fun W' h=>h.row.cell 4 (by omega));have k5:=Sc.cell_in (C:=fun W=>RfE w gf G W) (a:=⟨gf,5,none⟩) (fun W' h=>h.row.cell 5 (by omega));have k6:=Sc.cell_in (C:=fun W=>RfE w gf G W) (a:=⟨gf,6,none⟩) (fun W' h=>h.row.cell 6 (by omega));have k7:=Sc.cell_in (C:=fun W=>RfE w gf G W) (a:=⟨gf,7,none⟩) (fun W' h=>h.row.cell 7 (by omega));have k8:=Sc.cell_in (C:=fun W=>RfE w gf G W) (a:=⟨gf,8,none⟩) (fun W' h=>h.row.cell 8 (by omega));have k9:=Sc.cell_in (C:=fun W=>RfE w gf G W) (a:=⟨gf,9,none⟩) (fun W' h=>h.row.cell 9 (by omega));have k10:=Sc.cell_in (C:=fun W=>RfE w gf G W) (a:=⟨gf,10,none⟩) (fun W' h=>h.row.cell 10 (by omega));have ne:Nonempty (Sc.In (fun W=>RfE w gf G W)):=⟨⟨_,C0⟩⟩;refine Sc.start (fun W=>RfE w gf G W) [(false,0),(false,1),(false,2),(true,3),(false,4)] (by kernel_rfl) (by kernel_rfl) (by kernel_rfl) C0 ?_;dsimp only [Sd.picks,List.getElem?_cons_succ,List.getElem?_cons_zero]
        repeat (refine Sd.lit ?_;quiet_step (fail);refine wpQuiet_nil ?_)
        refine Sd.call (by rfl) (fun K hK=>?_);refine wp_store_row 114 _ _ rfl w.heap.size (arr G) rfl rfl 114 _ RS0 (info_of G) rfl (arr_one G) ?_;have C1:RfE w gf G (wr.drew.setRow w.heap.size (arr G)):=⟨(setRow_other wr.drew w.heap.size gf _ (by omega)).trans C0.row,below_setRow C0.bel _ _ (Nat.le_refl _)⟩;refine hK _ _ (Sc.Cl.of C1) ?_;have R2:=Lib.hid (RS0.row G);clear hK K k0 k1 k2 k3 k4 k5 k6 k7 k8 k9 k10 C0 I RS0;generalize wr.drew.setRow w.heap.size (arr G)=W9 at *;refine Sd.lit ?_
        quiet_step (fail)
        refine wpQuiet_nil ?_;refine Sd.done ?_;have C2:=Lib.hid C1;clear C1;go_wp2
        (try simp only [Exit.inBlock,Exit.then])
        refine bodyPost_ret (results_fr rfl _ _ _ _ G _ rfl rfl rfl R2.out) rfl ?_;exact N2.out _ C2.out.bel
 ·have SBF:snB S T V s=false:=by unfold snB;rw [decide_eq_false h0];rfl
  have N2:=Lib.hid (NO.out SBF);clear NO YES SBF H;generalize sbN S T V s=a1 at *;generalize frF S T V P s=a2 at *;generalize snB S T V s=a3 at *;generalize sN s T=m at *;generalize sE s T=x at *;unfold ent at SA
  go_enter Tryz.func84,Tryz.ntmps84
  go_wp2_with fail;generalize (w.alloc (.cells #[.bool false,.bool false,.bool false,.bool false,.bool false,.bool false,.bool false,.bool false,.bool false,.bool false,.bool false] 114))=W0 at *;refine (SA.out W0 B0.out).mono ?_;rintro e w1 ⟨rfl,b1⟩;have B1':=B0.out.trans (b1.mono B0.out.size);have B1:=Lib.hid (B1'.alloc B1'.size (.cells #[.int .i64 x.1,.int .i64 x.2.1,.int .i64 x.2.2.1,.int .i64 x.2.2.2.1,.int .i64 x.2.2.2.2] 98));have R1:=Lib.hid ((R0.out.below b1 R0.out.lt).below ((Below.refl w1.heap.size w1).alloc (Nat.le_refl _) (.cells #[.int .i64 x.1,.int .i64 x.2.1,.int .i64 x.2.2.1,.int .i64 x.2.2.2.1,.int .i64 x.2.2.2.2] 98)) (R0.out.below b1 R0.out.lt).lt);have hm0:m < 0:=by omega
  clear b1 SA B1'
  go_wp2_with ((with_reducible refine store_frame (o:=⟨none,_,_,_,_,_⟩) rfl _ _ rfl w.heap.size lowF lowF ?_ ?_ R1.out ?_);(exact rfl);(exact rfl))
  (try simp only [Exit.inBlock,Exit.then])
  refine bodyPost_ret (results_fr rfl _ _ _ _ lowF _ rfl rfl rfl (R1.out.row lowF)) rfl ?_;exact N2.out _ (below_setRow B1.out _ _ (Nat.le_refl _))
end Go.Proofs.YtpkipilggkbkeaaGreatDoor.Pa
namespace Go.Proofs.YtpkipilggkbkeaaGreatDoor.Pa
open Go.RowKit Go.Maps
open Rw (Rd Ow At)
open Fl (row_cell row_frozen)
open Ck (LL lat sN sE tE RdL)
open Ua (arr Row frm tb tp te upd rtake_any info_of arr_one below_setRow load_frame store_frame store_new)
attribute [local irreducible] Sd.wpSd wpQuiet Sf.wpSf
def bys (b:Nat→Int) (q:Nat→Bool):Array Value:=#[.int .u8 (b 0),.int .u8 (b 1),.int .u8 (b 2),.int .u8 (b 3),.int .u8 (b 4),.int .u8 (b 5),.int .u8 (b 6),.int .u8 (b 7),.int .u8 (b 8),.int .u8 (b 9),.int .u8 (b 10),.int .u8 (b 11),.int .u8 (b 12),.int .u8 (b 13),.int .u8 (b 14),.int .u8 (b 15),.int .u8 (b 16),.bool (q 0),.bool (q 1),.bool (q 2),.bool (q 3),.bool (q 4),.bool (q 5),.bool (q 6),.bool (q 7),.bool (q 8),.bool (q 9),.bool (q 10),.bool (q 11),.bool (q 12),.bool (q 13),.bool (q 14),.bool (q 15),.bool (q 16)]
def updI (F:Nat→Int) (k:Nat) (x:Int) (i:Nat):Int:=if i=k then x else F i
def zI (_:Nat):Int:=0
theorem lt17' {k:Nat} (h:k < 17):k=0∨k=1∨k=2∨k=3∨k=4∨k=5∨k=6∨k=7∨k=8∨k=9∨k=10∨k=11∨k=12∨k=13∨k=14∨k=15∨k=16:=by omega
theorem bys_size (b:Nat→Int) (q:Nat→Bool):(bys b q).size=34:=rfl
theorem bys_one (b:Nat→Int) (q:Nat→Bool):(bys b q).all (·.oneCell')=true:=by simp [bys,Value.oneCell']
theorem bys_b (b:Nat→Int) (q:Nat→Bool) {k:Nat} (h:k < 17):(bys b q)[k]? = some (.int .u8 (b k)):=by
 rcases lt17' h with rfl | rfl | rfl | rfl | rfl | rfl | rfl | rfl | rfl | rfl | rfl | rfl | rfl | rfl | rfl | rfl | rfl <;> rfl
theorem bys_q (b:Nat→Int) (q:Nat→Bool) {k:Nat} (h:k < 17):(bys b q)[17+k]? = some (.bool (q k)):=by
 rcases lt17' h with rfl | rfl | rfl | rfl | rfl | rfl | rfl | rfl | rfl | rfl | rfl | rfl | rfl | rfl | rfl | rfl | rfl <;> rfl
theorem bys_setb (b:Nat→Int) (q:Nat→Bool) {k:Nat} (h:k < 17) (x:Int):(bys b q).setIfInBounds k (.int .u8 x)=bys (updI b k x) q:=by
 rcases lt17' h with rfl | rfl | rfl | rfl | rfl | rfl | rfl | rfl | rfl | rfl | rfl | rfl | rfl | rfl | rfl | rfl | rfl <;> rfl
theorem bys_setq (b:Nat→Int) (q:Nat→Bool) {k:Nat} (h:k < 17) (x:Bool):(bys b q).setIfInBounds (17+k) (.bool x)=bys b (upd q k x):=by
 rcases lt17' h with rfl | rfl | rfl | rfl | rfl | rfl | rfl | rfl | rfl | rfl | rfl | rfl | rfl | rfl | rfl | rfl | rfl <;> rfl
theorem bys_congr {b b':Nat→Int} {q q':Nat→Bool} (hb:∀ i,i < 17→b i=b' i) (hq:∀ i,i < 17→q i=q' i):bys b q=bys b' q':=by
 unfold bys;rw [hb 0 (by omega),hq 0 (by omega)];rw [hb 1 (by omega),hq 1 (by omega)];rw [hb 2 (by omega),hq 2 (by omega)];rw [hb 3 (by omega),hq 3 (by omega)];rw [hb 4 (by omega),hq 4 (by omega)];rw [hb 5 (by omega),hq 5 (by omega)];rw [hb 6 (by omega),hq 6 (by omega)];rw [hb 7 (by omega),hq 7 (by omega)];rw [hb 8 (by omega),hq 8 (by omega)];rw [hb 9 (by omega),hq 9 (by omega)];rw [hb 10 (by omega),hq 10 (by omega)];rw [hb 11 (by omega),hq 11 (by omega)];rw [hb 12 (by omega),hq 12 (by omega)];rw [hb 13 (by omega),hq 13 (by omega)];rw [hb 14 (by omega),hq 14 (by omega)];rw [hb 15 (by omega),hq 15 (by omega)];rw [hb 16 (by omega),hq 16 (by omega)]
def RowY (w:World) (g:Nat) (b:Nat→Int) (q:Nat→Bool):Prop:=w.heap[g]? = some (.cells (bys b q) 78 (0,0))
section
variable {w w':World} {g:Nat} {b b':Nat→Int} {q q':Nat→Bool}
theorem RowY.lt (h:RowY w g b q):g < w.heap.size:=lt_of_block h
theorem RowY.new (w:World) (b:Nat→Int) (q:Nat→Bool):RowY (w.alloc (.cells (bys b q) 78)) w.heap.size b q:=heap_alloc_new w _
theorem RowY.below {B:Nat} (h:RowY w g b q) (hb:Below B w w') (hg:g < B):RowY w' g b q:=(hb.block g hg).trans h
theorem RowY.far (h:RowY w g b q) {p:Addr} (hp:g≠p.block) (u:Value):RowY (w.setCell p u) g b q:=(Below.heap_setCell w p u g hp).trans h
theorem RowY.row (h:RowY w g b q) (b':Nat→Int) (q':Nat→Bool):RowY (w.setRow g (bys b' q')) g b' q':=setRow_heap w g _ _ _ _ h
theorem RowY.to (h:RowY w g b q) (hb:∀ i,i < 17→b i=b' i) (hq:∀ i,i < 17→q i=q' i):RowY w g b' q':=by unfold RowY at *;rw [h,bys_congr hb hq]
theorem RowY.cb (h:RowY w g b q) {k:Nat} (hk:k < 17):w.cell? ⟨g,k,none⟩=some (.int .u8 (b k)):=(row_cell h k).trans (bys_b b q hk)
theorem RowY.cq (h:RowY w g b q) {k:Nat} (hk:k < 17):w.cell? ⟨g,17+k,none⟩=some (.bool (q k)):=(row_cell h (17+k)).trans (bys_q b q hk)
theorem RowY.setb (h:RowY w g b q) {k:Nat} (hk:k < 17) (x:Int):RowY (w.setCell ⟨g,k,none⟩ (.int .u8 x)) g (updI b k x) q:=by
 unfold RowY at h ⊢;rw [Rw.heap_setCell_same h,bys_setb b q hk x]
theorem RowY.setq (h:RowY w g b q) {k:Nat} (hk:k < 17) (x:Bool):RowY (w.setCell ⟨g,17+k,none⟩ (.bool x)) g b (upd q k x):=by
 unfold RowY at h ⊢;rw [Rw.heap_setCell_same h,bys_setq b q hk x]
end
theorem infoY (b:Nat→Int) (q:Nat→Bool):(Tryz.prog.info? 78).map (·.size)=some (bys b q).size:=by rw [bys_size];kernel_rfl
theorem load_by {ops:Array Oper} {rest:List Oper} {o:Oper} {a:Act} {w:World} {Q:Exit→Act→World→Prop} (hgd:o.guard=none) (x:Operand) (ho:o.op = .load 78 x)
 (g:Nat) (b:Nat→Int) (q:Nat→Bool) (hx:a.eval x = .pointer (some ⟨g,0,none⟩)) (hrow:RowY w g b q) (h:wpList Tryz.prog ops Q rest (a.put o.dst (.agg (bys b q))) w):wpList Tryz.prog ops Q (o :: rest) a w :=
 wpList_load_row hgd _ x ho g hx _ _ _ _ hrow Tryz.underlying78 rfl (infoY _ _) h
theorem store_by {ops:Array Oper} {rest:List Oper} {o:Oper} {a:Act} {w:World} {Q:Exit→Act→World→Prop} (hgd:o.guard=none) (x y:Operand) (ho:o.op = .store 78 x y)
 (g:Nat) (b b':Nat→Int) (q q':Nat→Bool) (hx:a.eval x = .pointer (some ⟨g,0,none⟩)) (hy:a.eval y = .agg (bys b q)) (hrow:RowY w g b' q') (h:wpList Tryz.prog ops Q rest (a.put o.dst undef) (w.setRow g (bys b q))):wpList Tryz.prog ops Q (o :: rest) a w :=
 wpList_store_row hgd _ x y ho g _ hx hy _ _ hrow (infoY _ _) rfl (bys_one _ _) h
theorem store_by_new {ops:Array Oper} {rest:List Oper} {o:Oper} {a:Act} {w:World} {Q:Exit→Act→World→Prop} (hgd:o.guard=none) (x y:Operand) (ho:o.op = .store 78 x y)
 (b:Nat→Int) (q:Nat→Bool) (hx:a.eval x = .pointer (some ⟨w.heap.size,0,none⟩)) (hy:a.eval y = .agg (bys b q)) (h:wpList Tryz.prog ops Q rest (a.put o.dst undef) (w.alloc (.cells (bys b q) 78))) :
 wpList Tryz.prog ops Q (o :: rest) a (w.alloc (.cells #[.int .u8 0,.int .u8 0,.int .u8 0,.int .u8 0,.int .u8 0,.int .u8 0,.int .u8 0,.int .u8 0,.int .u8 0,.int .u8 0,.int .u8 0,.int .u8 0,.int .u8 0,.int .u8 0,.int .u8 0,.int .u8 0,.int .u8 0,.bool false,.bool false,.bool false,.bool false,.bool false,.bool false,.bool false,.bool false,.bool false,.bool false,.bool false,.bool false,.bool false,.bool false,.bool false,.bool false,.bool false] 78)) :=
 store_by hgd x y ho _ b zI q lowF hx hy (RowY.new w zI lowF) (by rw [World.setRow_alloc_new];exact h)
theorem results_by {fn:Func} {p:Tmp} (h:fn.results=#[.cell p 78]) (tmps:Array Value) (w:World) (g:Nat) (b:Nat→Int) (q:Nat→Bool) (hp:tmps.getD p undef = .pointer (some ⟨g,0,none⟩)) (hrow:RowY w g b q) :
 (results fn tmps).run Tryz.prog w = .ok (.agg (bys b q)) w:=results_cell_row h tmps w g _ _ _ _ hp hrow Tryz.underlying78 rfl (infoY _ _)
def hb (h:Hr) (k:Nat):Int:=(h k).getD 0
def hq (h:Hr) (k:Nat):Bool:=(h k).isSome
theorem hb_put (h:Hr) (k:Nat) (y:Int) (i:Nat):updI (hb h) k y i=hb (hput h k y) i:=by
 unfold updI hb hput
 by_cases e:i=k
 ·subst e;simp
 ·rw [if_neg e,if_neg (by omega)]
theorem hq_put (h:Hr) (k:Nat) (y:Int) (i:Nat):upd (hq h) k true i=hq (hput h k y) i:=by
 unfold upd hq hput
 by_cases e:i=k
 ·subst e;simp
 ·rw [if_neg e,if_neg (by omega)]
structure HI (w:World) (h:Hr) (wr:World):Prop where
 res:RowY wr w.heap.size zI lowF
 out_:RowY wr (w.heap.size+1) (hb h) (hq h)
 bel:Below w.heap.size w wr
theorem HI.below {w wr wr':World} {h:Hr} (H:HI w h wr) (b:Below wr.heap.size wr wr'):HI w h wr':=⟨H.res.below b H.res.lt,H.out_.below b H.out_.lt,H.bel.trans (b.mono H.bel.size)⟩
theorem HI.put {w wr:World} {h:Hr} (H:HI w h wr) {k:Nat} (hk:k < 17) (y:Int):HI w (hput h k y) ((wr.setCell ⟨w.heap.size+1,k,none⟩ (.int .u8 y)).setCell ⟨w.heap.size+1,17+k,none⟩ (.bool true)) :=
 ⟨(H.res.far (by simp) _).far (by simp) _,((H.out_.setb hk y).setq hk true).to (fun i _=>hb_put h k y i) (fun i _=>hq_put h k y i),(H.bel.setCell (by simp) _).setCell (by simp) _⟩
theorem hi_new (w:World):HI w (fun _=>none) ((w.alloc (.cells (bys zI lowF) 78)).alloc (.cells (bys zI lowF) 78)):=by
 have b1:=(Below.refl w.heap.size w).alloc (Nat.le_refl _) (.cells (bys zI lowF) 78);have r:=RowY.new (w.alloc (.cells (bys zI lowF) 78)) zI lowF;have e:(w.alloc (.cells (bys zI lowF) 78)).heap.size=w.heap.size+1:=by simp
 rw [e] at r;exact ⟨(RowY.new w zI lowF).below ((Below.refl _ _).alloc (Nat.le_refl _) _) (RowY.new w zI lowF).lt,r,b1.alloc b1.size _⟩
def RhdPost (w:World) (h:Hr) (e:Ending) (w':World):Prop:=e = .returned (.agg (bys (hb h) (hq h)))∧Below w.heap.size w w'
end Go.Proofs.YtpkipilggkbkeaaGreatDoor.Pa
namespace Go.Proofs.YtpkipilggkbkeaaGreatDoor.Pa
open Go.RowKit Go.Maps
open Fs (Abs Rs Only Fx Wf gB gV sA sB dA dD dE OkA GetPost rget_st rset_any RSPost rdos_any RDPost)
open Rw (Rd Ow At)
open Ro (E5 z5 eat K5 at5 okE ent okE_bounds)
open Fl (R4 z4 rec4 okR arr4 row_cell row_frozen)
attribute [local irreducible] Sd.wpSd wpQuiet
theorem ix_at {P:Program} {t e:TypeId} {n:Nat} (h:P.underlying t=some (.array n e)) (hs:∀ W,(sizeOf e).run P W = .ok 1 W) (g off k:Nat) (hk:k < n) (W:World):(Instr.indexAt t (.pointer (some ⟨g,off,none⟩)) (.int .i64 (k:Int))).run P W = .ok (.pointer (some ⟨g,off+k,none⟩)) W:=by
 have:(0:Int)≤(k:Int)∧(k:Int) < (n:Int):=⟨by omega,by omega⟩
 simp [Instr.indexAt,run_underlying h,Instr.sureAddr,asIntOf,hs,Addr.add,hk]
theorem ix_rec (g k:Nat) (hk:k < 4) (W:World):(Instr.indexAt 96 (.pointer (some ⟨g,0,none⟩)) (.int .i64 (k:Int))).run Tryz.prog W = .ok (.pointer (some ⟨g,k,none⟩)) W:=by
 have:=ix_at Tryz.underlying96 Tryz.sizeOf5 g 0 k hk W
 rwa [Nat.zero_add] at this
theorem ix_b (g k:Nat) (hk:k < 17) (W:World):(Instr.indexAt 75 (.pointer (some ⟨g,0,none⟩)) (.int .i64 (k:Int))).run Tryz.prog W = .ok (.pointer (some ⟨g,k,none⟩)) W:=by
 have:=ix_at Tryz.underlying75 Tryz.sizeOf5 g 0 k hk W
 rwa [Nat.zero_add] at this
theorem ix_q (g k:Nat) (hk:k < 17) (W:World):(Instr.indexAt 76 (.pointer (some ⟨g,17,none⟩)) (.int .i64 (k:Int))).run Tryz.prog W = .ok (.pointer (some ⟨g,17+k,none⟩)) W:=ix_at Tryz.underlying76 Tryz.sizeOf4 g 17 k hk W
theorem grp_yes {t:List E5} {k:Nat} (hk:k < t.length) {f r:Int} (h:mt f r (eat t k)=true):grp (t.take (k+1)) f r=grp (t.take k) f r ++ [eat t k]:=by rw [take_eat hk,grp_snoc,if_pos h]
theorem grp_no {t:List E5} {k:Nat} (hk:k < t.length) {f r:Int} (h:mt f r (eat t k)=false):grp (t.take (k+1)) f r=grp (t.take k) f r:=by rw [take_eat hk,grp_snoc,if_neg (by simp [h])]
theorem mix_snoc (h:Hr) (l:List E5) (x:E5) (v:R4):mix h (l ++ [x]) v=rs (mix h l v) x.2.2.2.2 ((h x.2.1).getD 0):=by unfold mix;rw [List.foldl_append];rfl
theorem allH_snoc (h:Hr) (l:List E5) (x:E5):allH h (l ++ [x])=(allH h l && (h x.2.1).isSome):=by unfold allH;rw [List.all_append];simp
theorem mix_same {h g:Hr} (ag:∀ s,(h s).isSome=true→(g s).getD 0=(h s).getD 0):∀ {l:List E5},allH h l=true→∀ v:R4,mix g l v=mix h l v
 | [],_,_=>rfl
 | x :: r,ha,v=>by
   unfold allH at ha;rw [List.all_cons,Bool.and_eq_true] at ha;rw [mix_cons,mix_cons,ag _ ha.1];exact mix_same ag ha.2 _
structure RA (w:World) (r:Nat) (F:Nat→Prop) (x:Abs×Int) (h g:Hr) (wr:World):Prop where
 rs:Rs wr r F x.1 x.2
 box:RowY wr w.heap.size (hb g) (hq h)
 gt:w.heap.size < r
 bel:Below w.heap.size w wr
theorem RA.below {w wr wr':World} {r:Nat} {F:Nat→Prop} {x:Abs×Int} {h g:Hr} (H:RA w r F x h g wr) (b:Below wr.heap.size wr wr'):RA w r F x h g wr':=⟨Fs.Rs.below H.rs b,H.box.below b H.box.lt,H.gt,H.bel.trans (b.mono H.bel.size)⟩
theorem RA.step {w wr wr':World} {r:Nat} {F:Nat→Prop} {x x':Abs×Int} {h g:Hr} (H:RA w r F x h g wr) (rs:Rs wr' r F x'.1 x'.2) (o:Only (fun k=>k=r) wr wr'):RA w r F x' h g wr' :=
 ⟨rs,(o.block _ H.box.lt (by have:=H.gt;omega)).trans H.box,H.gt,H.bel.trans (o.below H.bel.size fun k e=>by have:=H.gt;omega)⟩
structure BI (w1:World) (gx gv:Nat) (x:E5) (v:R4) (wr:World):Prop where
 cel:wr.heap[gv]? = some (.cells (arr4 v) 96 (0,0))
 ge:w1.heap.size≤gv
 bel:Below w1.heap.size w1 wr
theorem BI.below {w1 wr wr':World} {gx gv:Nat} {x:E5} {v:R4} (H:BI w1 gx gv x v wr) (b:Below wr.heap.size wr wr'):BI w1 gx gv x v wr':=⟨(b.block _ (lt_of_block H.cel)).trans H.cel,H.ge,H.bel.trans (b.mono H.bel.size)⟩
theorem BI.put {w1 wr:World} {gx gv:Nat} {x:E5} {v:R4} (H:BI w1 gx gv x v wr) {j:Nat} (hj:j < 4) (y:Int):BI w1 gx gv x (rs v j y) (wr.setCell ⟨gv,j,none⟩ (.int .u8 y)) :=
 ⟨by rw [Rw.heap_setCell_same H.cel,arr4_set v y hj],H.ge,H.bel.setCell (by exact H.ge) _⟩
def RapPost (w:World) (F:Nat→Prop) (x:Abs×Int) (e:Ending) (w':World):Prop:=∃ r,e = .returned (ptr r)∧Rs w' r F x.1 x.2∧w.heap.size≤r∧Below w.heap.size w w'
theorem rcv1_is {h:Hr} {l:List E5} {f r:Int} {A:Abs} {b:Bool} (e:(gB A f r && allH h l)=b):rcv1 h l f r A=if b=true then sA A f r (mix h l (gV A f r)) else A:=by unfold rcv1;rw [e]
theorem rs_okA {w:World} {r:Nat} {F:Nat→Prop} {A:Abs} {d:Int} (R:Rs w r F A d):OkA A:=by obtain ⟨v,L,h,e⟩:=R;rw [← e];exact h.ok
theorem gV_ok' {A:Abs} (hA:OkA A) (f r:Int):okR (gV A f r):=by
 unfold gV
 split
 ·exact Fl.okR_z
 ·rename_i e he
  split
  ·exact Fl.okR_at (hA.find he).2.2.1 _
  ·exact Fl.okR_z
structure RbC (gy:Nat) (y:E5) (gb:Nat) (h g:Hr) (W:World):Prop where
 y:W.heap[gy]? = some (.cells #[.int .i64 y.1,.int .i64 y.2.1,.int .i64 y.2.2.1,.int .i64 y.2.2.2.1,.int .i64 y.2.2.2.2] 98 (0,0))
 box:RowY W gb (hb g) (hq h)
structure ExC (b o:Nat) (f r:Int) (W:World):Prop where
 f:W.cell? ⟨b,o+2,none⟩=some (.int .i64 f)
 r:W.cell? ⟨b,o+3,none⟩=some (.int .i64 r)
set_option maxHeartbeats 1000000 in
theorem rapply_gen {w:World} {r0:Nat} {F:Nat→Prop} {x:Abs×Int} (R:Rs w r0 F x.1 x.2) (hF:∀ k,F k→k < w.heap.size) (hd:0≤x.2∧x.2 < 900000) {v:Value} {t:List E5} (RT:Rd K5 w v t) (ok:∀ y∈t,okE y) (hl:t.length≤100) {h g:Hr} (hh:okH h) (hg:okH g) (ag:∀ s,(h s).isSome=true→(g s).getD 0=(h s).getD 0) :
 Calls Tryz.prog 33 #[.pointer (some ⟨r0,0,none⟩),v,.agg (bys (hb g) (hq h))] w (RapPost w F (apS h t x)):=by
 have B0:Hid (Below w.heap.size w (w.alloc (.cells (bys (hb g) (hq h)) 78))):=Lib.hid ((Below.refl w.heap.size w).alloc (Nat.le_refl _) _);have Y0:Hid (RowY (w.alloc (.cells (bys (hb g) (hq h)) 78)) w.heap.size (hb g) (hq h)):=Lib.hid (RowY.new w _ _);have RC:=Lib.hid (rcopy_any (x:=x) (Fs.Rs.below R B0.out) (F:=F) (fun k hk=>Nat.lt_of_lt_of_le (hF k hk) B0.out.size));have hA:Hid (OkA x.1):=Lib.hid (rs_okA R);have RT0:=Lib.hid RT;have HFF:=Lib.hid hF;obtain ⟨A,d⟩:=x;simp only at hd;obtain ⟨a,cap,rfl,_,hm,hA0⟩:=RT;have HA0:=Lib.hid hA0;clear hA0;unfold maxLen at hm;clear R hF;generalize hn:t.length=n at *;have HN:=Lib.hid hn;have OKT:=Lib.hid ok;have HH:=Lib.hid hh;have HGG:=Lib.hid hg;have AG:=Lib.hid ag;clear hn ok hh hg ag;unfold RcpPost at RC;have hbx:w.heap.size < (w.alloc (.cells (bys (hb g) (hq h)) 78)).heap.size:=Y0.out.lt
 go_enter Tryz.func33,Tryz.ntmps33
 go_wp2_with fail;generalize (w.alloc (.cells (bys (hb g) (hq h)) 78))=W0 at *;refine RC.out.mono ?_;rintro e w1 ⟨r,rfl,rs1,hr1,b1⟩;have I0:Hid (RA w r F (recV h t (seen t 0) A,d) h g w1):=Lib.hid ⟨by rw [rec_none'];exact rs1,Y0.out.below b1 Y0.out.lt,by omega,B0.out.trans (b1.mono B0.out.size)⟩;have hwr:w.heap.size≤r:=by omega
 clear rs1 hr1 b1 RC Y0 B0 hbx;unfold ptr;go_wp2
 go_loopw [8] (fun i wr=>∃ k:Nat,k≤n∧i = .int .i64 k∧Hid (RA w r F (recV h t (seen t k) A,d) h g wr)) (fun i _=>n - (intOf i).toNat)
 case atStart=>exact ⟨0,Nat.zero_le _,rfl,I0⟩
 case round =>
  obtain ⟨k,hk,rfl,I⟩:=hrel;clear I0
  by_cases hlt:k < n
  ·obtain ⟨b,off,rfl,A1⟩:=HA0.out (by omega)
   obtain ⟨c0,c1,c2,c3,c4⟩:=at5 (A1.below I.out.bel) k (by have:=HN.out;omega);rw [show t.getD k z5=eat t k from rfl] at c0 c1 c2 c3 c4;have okx:=OKT.out _ (Ro.eat_mem (l:=t) (i:=k) (by have:=HN.out;omega));have Y2:=Lib.hid (fun h2 h0 hy=>rec_yes (h:=h) (t:=t) hA.out (j:=k) (by have:=HN.out;omega) h2 h0 hy);have N2:=Lib.hid (rec_no (h:=h) (t:=t) (A:=A) (j:=k) (by have:=HN.out;omega));generalize hX:eat t k=x at *;obtain ⟨xk,xs,xf,xr,xy⟩:=x;simp only at c0 c1 c2 c3 c4 Y2 N2;have I1:=Lib.hid (I.out.below ((Below.refl wr.heap.size wr).alloc (Nat.le_refl _) (.cells #[.int .i64 xk,.int .i64 xs,.int .i64 xf,.int .i64 xr,.int .i64 xy] 98)));have X1:Hid ((wr.alloc (.cells #[.int .i64 xk,.int .i64 xs,.int .i64 xf,.int .i64 xr,.int .i64 xy] 98)).heap[wr.heap.size]? = some (.cells #[.int .i64 xk,.int .i64 xs,.int .i64 xf,.int .i64 xr,.int .i64 xy] 98 (0,0))):=Lib.hid (heap_alloc_new wr _);clear I
   by_cases h2:xk=2
   ·subst h2
    have hr0:xr≠0:=by unfold okE Ro.place at okx;simp only at okx;omega
    have YY:=Lib.hid (Y2.out rfl hr0 (grp_y OKT.out xf xr));have HO:Hid (OkA (recV h t (seen t k) A)):=Lib.hid (rs_okA I1.out.rs);clear N2 Y2 hr0 okx;generalize hU:recV h t (seen t (k+1)) A=U' at *;have EUU:=Lib.hid hU;clear hU;generalize recV h t (seen t k) A=U at *;have GG:=Lib.hid (rget_st I1.out.rs xf xr);have GO:Hid (okR (gV U xf xr)):=Lib.hid (gV_ok' HO.out xf xr);have RV:Hid (∀ b,(gB U xf xr && allH h (grp t xf xr))=b→rcv1 h (grp t xf xr) xf xr U=if b=true then sA U xf xr (mix h (grp t xf xr) (gV U xf xr)) else U):=Lib.hid (fun b e=>rcv1_is e);unfold GetPost rec4 at GG;simp only at GG;generalize gV U xf xr=v0 at *;generalize gB U xf xr=gb at *;go_upto_region 7 with fail;have x2:(wr.alloc (.cells #[.int .i64 2,.int .i64 xs,.int .i64 xf,.int .i64 xr,.int .i64 xy] 98)).cell? ⟨wr.heap.size,2,none⟩=some (.int .i64 xf):=row_cell X1.out 2;have x3:(wr.alloc (.cells #[.int .i64 2,.int .i64 xs,.int .i64 xf,.int .i64 xr,.int .i64 xy] 98)).cell? ⟨wr.heap.size,3,none⟩=some (.int .i64 xr):=row_cell X1.out 3;have hgx:=lt_of_block X1.out;generalize (wr.alloc (.cells #[.int .i64 2,.int .i64 xs,.int .i64 xf,.int .i64 xr,.int .i64 xy] 98))=W1 at *;generalize wr.heap.size=gx at *;clear c0 c1 c2 c3 c4;go_wp2_with fail;refine GG.out.mono ?_;rintro e w2 ⟨rfl,b2⟩;have I2:=Lib.hid (I1.out.below b2);have X2:=Lib.hid ((b2.block _ hgx).trans X1.out);have J0:Hid (BI w2 gx w2.heap.size (2,xs,xf,xr,xy) (mix g (grp (t.take 0) xf xr) v0) (w2.alloc (.cells #[.int .u8 v0.1,.int .u8 v0.2.1,.int .u8 v0.2.2.1,.int .u8 v0.2.2.2] 96))):=Lib.hid ⟨heap_alloc_new w2 _,Nat.le_refl _,(Below.refl w2.heap.size w2).alloc (Nat.le_refl _) _⟩;have hgx2:gx < w2.heap.size:=lt_of_block X2.out;clear b2 GG I1 X1 x2 x3 hgx;go_wp2;generalize (w2.alloc (.cells #[.int .u8 v0.1,.int .u8 v0.2.1,.int .u8 v0.2.2.1,.int .u8 v0.2.2.2] 96))=W2 at *;generalize hgv:w2.heap.size=gv at *;have HGV:=Lib.hid hgv;clear hgv;have E0:gb=(gb && allH h (grp (t.take 0) xf xr)):=by simp [grp,allH]
    have HE0:=Lib.hid E0;clear E0
    rename World=>wz
    go_loopw [12,11] (fun i o wr3=>∃ m:Nat,m≤n∧i = .int .i64 m∧o = .bool (gb && allH h (grp (t.take m) xf xr))∧Hid (BI w2 gx gv (2,xs,xf,xr,xy) (mix g (grp (t.take m) xf xr) v0) wr3)) (fun i _ _=>n - (intOf i).toNat)
    case atStart=>exact ⟨0,Nat.zero_le _,rfl,congrArg Value.bool HE0.out,J0⟩
    case round =>
     rename_i wy wr
     obtain ⟨m,hm1,rfl,rfl,J⟩:=hrel;clear J0 HE0
     by_cases hlt2:m < n
     ·have BJ:=Lib.hid (I2.out.bel.trans (J.out.bel.mono I2.out.bel.size))
      obtain ⟨c0,c1,c2,c3,c4⟩:=at5 (A1.below BJ.out) m (by have:=HN.out;omega);rw [show t.getD m z5=eat t m from rfl] at c0 c1 c2 c3 c4;have oky:=OKT.out _ (Ro.eat_mem (l:=t) (i:=m) (by have:=HN.out;omega));have GY:=Lib.hid (fun hm=>grp_yes (t:=t) (k:=m) (by have:=HN.out;omega) (f:=xf) (r:=xr) hm);have GN:=Lib.hid (fun hm=>grp_no (t:=t) (k:=m) (by have:=HN.out;omega) (f:=xf) (r:=xr) hm);generalize hY:eat t m=y at *;obtain ⟨yk,ys,yf,yr,yy⟩:=y;obtain ⟨_,⟨s0,s1⟩,_,_,⟨y0,y3⟩⟩:=okE_bounds oky;simp only at c0 c1 c2 c3 c4 s0 s1 y0 y3;have J1:=Lib.hid (J.out.below ((Below.refl wr.heap.size wr).alloc (Nat.le_refl _) (.cells #[.int .i64 yk,.int .i64 ys,.int .i64 yf,.int .i64 yr,.int .i64 yy] 98)));have YB:Hid ((wr.alloc (.cells #[.int .i64 yk,.int .i64 ys,.int .i64 yf,.int .i64 yr,.int .i64 yy] 98)).heap[wr.heap.size]? = some (.cells #[.int .i64 yk,.int .i64 ys,.int .i64 yf,.int .i64 yr,.int .i64 yy] 98 (0,0))):=Lib.hid (heap_alloc_new wr _);have XB:=Lib.hid ((J1.out.bel.block _ (by rw [HGV.out];exact hgx2)).trans X2.out);have xb2:(wr.alloc (.cells #[.int .i64 yk,.int .i64 ys,.int .i64 yf,.int .i64 yr,.int .i64 yy] 98)).cell? ⟨gx,2,none⟩=some (.int .i64 xf):=row_cell XB.out 2;have xb3:(wr.alloc (.cells #[.int .i64 yk,.int .i64 ys,.int .i64 yf,.int .i64 yr,.int .i64 yy] 98)).cell? ⟨gx,3,none⟩=some (.int .i64 xr):=row_cell XB.out 3;have hgv2:=lt_of_block J.out.cel;have J0s:=Lib.hid (Nat.lt_of_lt_of_le I2.out.box.lt J.out.bel.size);clear J oky BJ
      by_cases hM:(yk=2∧yf=xf)∧yr=xr
      ·obtain ⟨⟨rfl,rfl⟩,rfl⟩:=hM
       have GG:=Lib.hid (GY.out (by simp [mt]));clear GY GN;obtain ⟨s,rfl⟩:∃ s:Nat,ys=s:=⟨ys.toNat,by omega⟩;obtain ⟨j,rfl⟩:∃ j:Nat,yy=j:=⟨yy.toNat,by omega⟩;have hs17:s < 17:=by omega
       have hj4:j < 4:=by omega
       have EO:Hid (∀ o,o=(gb && allH h (grp (t.take m) yf yr))→(o && hq h s)=(gb && allH h (grp (t.take (m+1)) yf yr))):=Lib.hid (fun o e=>by rw [e,GG.out,allH_snoc,Bool.and_assoc];rfl);have EM:Hid (rs (mix g (grp (t.take m) yf yr) v0) j (hb g s)=mix g (grp (t.take (m+1)) yf yr) v0):=Lib.hid (by rw [GG.out,mix_snoc];rfl);generalize hO:(gb && allH h (grp (t.take m) yf yr))=o at *;generalize mix g (grp (t.take m) yf yr) v0=vv at *;have HO2:=Lib.hid (EO.out o rfl);have BX:=Lib.hid (I2.out.box.below J1.out.bel I2.out.box.lt);have hbl:=I2.out.box.lt;have bq:(wr.alloc (.cells #[.int .i64 2,.int .i64 (s:Int),.int .i64 yf,.int .i64 yr,.int .i64 (j:Int)] 98)).cell? ⟨w.heap.size,17+s,none⟩=some (.bool (hq h s)):=BX.out.cq hs17;have iq:=ix_q w.heap.size s hs17;have hgy:wr.heap.size < (wr.alloc (.cells #[.int .i64 2,.int .i64 (s:Int),.int .i64 yf,.int .i64 yr,.int .i64 (j:Int)] 98)).heap.size:=lt_of_block YB.out;have hbl2:w.heap.size < wr.heap.size:=by have:=J0s.out;omega
       clear EO
       cases o
       all_goals
        go_upto_region 14 with fail;clear bq iq c0 c1 c2 c3 c4 xb2 xb3;have C0:RbC wr.heap.size (2,s,yf,yr,j) w.heap.size h g (wr.alloc (.cells #[.int .i64 2,.int .i64 (s:Int),.int .i64 yf,.int .i64 yr,.int .i64 (j:Int)] 98)).drew:=⟨YB.out,BX.out⟩;have J3:Hid (BI w2 gx gv (2,xs,yf,yr,xy) vv (wr.alloc (.cells #[.int .i64 2,.int .i64 (s:Int),.int .i64 yf,.int .i64 yr,.int .i64 (j:Int)] 98)).drew):=Lib.hid (J1.out.below ((Below.refl _ _).drew));have y1:=Sc.cell_in (C:=RbC wr.heap.size (2,s,yf,yr,j) w.heap.size h g) (a:=⟨wr.heap.size,1,none⟩) (fun W' h=>row_cell h.y 1);have y4:=Sc.cell_in (C:=RbC wr.heap.size (2,s,yf,yr,j) w.heap.size h g) (a:=⟨wr.heap.size,4,none⟩) (fun W' h=>row_cell h.y 4);have yb:=Sc.cell_in (C:=RbC wr.heap.size (2,s,yf,yr,j) w.heap.size h g) (a:=⟨w.heap.size,s,none⟩) (fun W' h=>h.box.cb hs17);have ib:=ix_b w.heap.size s hs17;have ir:=ix_rec gv j hj4;have ne:Nonempty (Sc.In (RbC wr.heap.size (2,s,yf,yr,j) w.heap.size h g)):=⟨⟨_,C0⟩⟩;refine Sc.start (RbC wr.heap.size (2,s,yf,yr,j) w.heap.size h g) [(false,0),(false,1),(false,2),(false,3),(false,4),(false,5),(false,6),(false,7),(true,8)] (by kernel_rfl) (by kernel_rfl) (by kernel_rfl) C0 ?_;dsimp only [Sd.picks,List.getElem?_cons_succ,List.getElem?_cons_zero]
        repeat (refine Sd.lit ?_;quiet_step (fail);refine wpQuiet_nil ?_)
        clear y1 y4 yb ib ir;have hgvb:w.heap.size≠gv:=by have:=I2.out.box.lt;have:=HGV.out;omega
        have hgvy:wr.heap.size≠gv:=by omega
        generalize (wr.alloc (.cells #[.int .i64 2,.int .i64 (s:Int),.int .i64 yf,.int .i64 yr,.int .i64 (j:Int)] 98)).drew=Wd at *;have sc:Wd.cell? ⟨gv,j,none⟩=some (.int .u8 (rb vv j)):=(row_cell J3.out.cel j).trans (arr4_get vv hj4);have sf:=row_frozen J3.out.cel j;have J4:=Lib.hid (J3.out.put hj4 (hb g s));rw [EM.out] at J4;have C1:RbC wr.heap.size (2,s,yf,yr,j) w.heap.size h g (Wd.setCell ⟨gv,j,none⟩ (.int .u8 (hb g s))):=⟨(Below.heap_setCell _ _ _ _ (by exact hgvy)).trans C0.y,C0.box.far (by exact hgvb) _⟩;refine Sd.call (by rfl) (fun K hK=>?_);go_simp;refine hK _ _ (Sc.Cl.of C1) ?_;clear hK K sc sf C0 C1 J3 J1 YB XB BX;refine Sd.done ?_;go_wp2
        go_roundw
        case rel=>exact ⟨m+1,by omega,by go_num,by rw [← HO2.out];rfl,J4⟩
        case measure=>simp [intOf];omega
      ·have GG:=Lib.hid (GN.out (by
        unfold mt;rw [decide_eq_false];rintro ⟨q1,q2,q3⟩
        exact hM ⟨⟨q1,q2⟩,q3⟩))
       have J2:Hid (BI w2 gx gv (2,xs,xf,xr,xy) (mix g (grp (t.take (m+1)) xf xr) v0) (wr.alloc (.cells #[.int .i64 yk,.int .i64 ys,.int .i64 yf,.int .i64 yr,.int .i64 yy] 98))):=Lib.hid (by rw [GG.out];exact J1.out);have EO:Hid ((gb && allH h (grp (t.take m) xf xr))=(gb && allH h (grp (t.take (m+1)) xf xr))):=Lib.hid (by rw [GG.out]);clear GY GN J1 GG;generalize hO:(gb && allH h (grp (t.take m) xf xr))=o at *
       by_cases q1:yk=2
       ·by_cases q2:yf=xf
        ·have q3:yr≠xr:=fun e=>hM ⟨⟨q1,q2⟩,e⟩
         clear hM;subst q1;subst q2;have d3:(yr == xr)=false:=by simpa using q3
         go_wp2
         go_roundw
         case rel=>exact ⟨m+1,by omega,by go_num,by rw [EO.out],J2⟩
         case measure=>simp [intOf];omega
        ·clear hM
         subst q1;have d2:(yf == xf)=false:=by simpa using q2
         go_wp2
         go_roundw
         case rel=>exact ⟨m+1,by omega,by go_num,by rw [EO.out],J2⟩
         case measure=>simp [intOf];omega
       ·clear hM
        have d1:(yk == 2)=false:=by simpa using q1
        go_wp2
        go_roundw
        case rel=>exact ⟨m+1,by omega,by go_num,by rw [EO.out],J2⟩
        case measure=>simp [intOf];omega
     ·have hmn:m=n:=by omega
      have TK:t.take m=t:=by rw [hmn,← HN.out,List.take_length]
      rw [TK] at J;have OE:Hid (∀ o,(gb && allH h (grp (t.take m) xf xr))=o→(gb && allH h (grp t xf xr))=o):=Lib.hid (fun o e=>by rw [TK] at e;exact e);generalize hO:(gb && allH h (grp (t.take m) xf xr))=o at *;have RVo:=Lib.hid (RV.out o (OE.out o rfl));rw [YY.out] at RVo;have I3:=Lib.hid (I2.out.below J.out.bel);have AL:Hid (o=true→mix g (grp t xf xr) v0=mix h (grp t xf xr) v0):=Lib.hid (fun q=>mix_same AG.out (by have:=OE.out o rfl;rw [q,Bool.and_eq_true] at this;exact this.2) v0);clear RV YY TK OE hO I2 hmn
      cases o with
      | true =>
        have EU:Hid (U'=sA U xf xr (mix g (grp t xf xr) v0)):=Lib.hid (by rw [AL.out rfl,RVo.out];rfl);have ST:=Lib.hid (rset_any I3.out.rs (fun k hk=>Nat.lt_of_lt_of_le (HFF.out k hk) I3.out.bel.size) xf xr (mix g (grp t xf xr) v0) (mix_ok HGG.out _ GO.out));have XB:=Lib.hid ((J.out.bel.block _ (by rw [HGV.out];exact hgx2)).trans X2.out)
        rename World=>wr
        have xb2:wr.cell? ⟨gx,2,none⟩=some (.int .i64 xf):=row_cell XB.out 2;have xb3:wr.cell? ⟨gx,3,none⟩=some (.int .i64 xr):=row_cell XB.out 3;have q0:=row_cell J.out.cel 0;have q1:=row_cell J.out.cel 1;have q2:=row_cell J.out.cel 2;have q3:=row_cell J.out.cel 3;unfold arr4 at q0 q1 q2 q3;unfold RSPost rec4 at ST;simp only at ST;clear RVo GO XB J AL;generalize mix g (grp t xf xr) v0=vv at *;go_wp2_with fail;refine ST.out.mono ?_;rintro e w9 ⟨rfl,rs9,o9⟩;have I4:Hid (RA w r F (U',d) h g w9):=Lib.hid (I3.out.step (x':=(U',d)) (by simp only;rw [EU.out];exact rs9) o9);clear rs9 o9 ST I3;go_wp2
        go_roundw
        case rel=>exact ⟨k+1,by omega,by go_num,by rw [EUU.out];exact I4⟩
        case measure=>simp [intOf];omega
      | false =>
        have EU:Hid (U'=U):=Lib.hid (by rw [RVo.out];rfl);have I4:Hid (RA w r F (U',d) h g _):=Lib.hid (by rw [EU.out];exact I3.out);clear RVo GO J I3 AL;go_wp2
        go_roundw
        case rel=>exact ⟨k+1,by omega,by go_num,by rw [EUU.out];exact I4⟩
        case measure=>simp [intOf];omega
   ·have d2:(xk != 2)=true:=by simpa using h2
    have I2:Hid (RA w r F (recV h t (seen t (k+1)) A,d) h g (wr.alloc (.cells #[.int .i64 xk,.int .i64 xs,.int .i64 xf,.int .i64 xr,.int .i64 xy] 98))):=Lib.hid (by rw [← N2.out h2];exact I1.out);clear N2 Y2 I1 X1 okx;go_wp2
    go_roundw
    case rel=>exact ⟨k+1,by omega,by go_num,I2⟩
    case measure=>simp [intOf];omega
  ·have hkn:k=n:=by omega
   have IE:Hid (RA w r F (exU t (recA h t A,d) 0) h g wr):=Lib.hid (by
    have h1:=I.out;rw [hkn,← HN.out,rec_end] at h1
    exact h1)
   have XD:=Lib.hid (fun k=>exU_d (t:=t) (recA h t A,d) k);have XE:=Lib.hid (exU_end (t:=t) h (A,d));have XY:=Lib.hid (fun k hk h3=>exU_yes (t:=t) (recA h t A,d) (j:=k) hk h3);have XN:=Lib.hid (fun k hk h3=>exU_no (t:=t) (recA h t A,d) (j:=k) hk h3);clear I;generalize recA h t A=RR at *;go_wp2;clear hkn hlt hk;generalize (k:Int)=kk at *
   rename World=>wA
   go_loopw [14] (fun i wr2=>∃ k:Nat,k≤n∧i = .int .i64 k∧Hid (RA w r F (exU t (RR,d) k) h g wr2)) (fun i _=>n - (intOf i).toNat)
   case atStart=>exact ⟨0,Nat.zero_le _,rfl,IE⟩
   case round =>
    obtain ⟨k,hk,rfl,I⟩:=hrel;clear IE
    by_cases hlt:k < n
    ·obtain ⟨b,off,rfl,A1⟩:=HA0.out (by omega)
     obtain ⟨i0,i1,i2,i3,i4⟩:=at5 A1 k (by have:=HN.out;omega);rw [show t.getD k z5=eat t k from rfl] at i0 i1 i2 i3 i4;have lb:b < w.heap.size:=World.block_lt_of_cell? _ _ i0;have Y3:=Lib.hid (XY.out k (by have:=HN.out;omega));have N3:=Lib.hid (XN.out k (by have:=HN.out;omega));have DD:=XD.out k;generalize eat t k=x at *;obtain ⟨q,s',f',r',y⟩:=x;simp only at i0 i1 i2 i3 i4 Y3 N3;have c0:=(I.out.bel.cell lb).trans i0;have I2':=Lib.hid i2;have I3':=Lib.hid i3;clear A1 i0 i1 i2 i3 i4
     rename World=>wr
     by_cases h3:q=3
     ·subst h3
      have Y4:=Lib.hid (Y3.out rfl);have hdd:0≤(exU t (RR,d) k).2∧(exU t (RR,d) k).2 < 1000000:=by have:=HN.out;omega
      clear Y3 N3 DD;go_upto_region 21 with fail;have C0:ExC b (off+k * 5) f' r' wr.drew:=⟨(I.out.bel.cell lb).trans I2'.out,(I.out.bel.cell lb).trans I3'.out⟩;have ID:=Lib.hid (I.out.below ((Below.refl wr.heap.size wr).drew));have DO:=Lib.hid (rdos_any ID.out.rs (fun k hk=>Nat.lt_of_lt_of_le (HFF.out k hk) ID.out.bel.size) hdd 2 f' r' z4 Fl.okR_z);unfold RDPost Ad.addr rec4 z4 at DO;have y2:=Sc.cell_in (C:=ExC b (off+k * 5) f' r') (a:=⟨b,off+k * 5+2,none⟩) (fun W' h=>h.f);have y3:=Sc.cell_in (C:=ExC b (off+k * 5) f' r') (a:=⟨b,off+k * 5+3,none⟩) (fun W' h=>h.r);have ne:Nonempty (Sc.In (ExC b (off+k * 5) f' r')):=⟨⟨_,C0⟩⟩;refine Sc.start (ExC b (off+k * 5) f' r') [(false,0),(false,1),(false,2),(false,3),(false,4),(false,5),(false,6),(false,7),(false,8),(false,9),(false,10),(false,11),(false,12),(true,13)] (by kernel_rfl) (by kernel_rfl) (by kernel_rfl) C0 ?_;dsimp only [Sd.picks,List.getElem?_cons_succ,List.getElem?_cons_zero]
      repeat (refine Sd.lit ?_;quiet_step (fail);refine wpQuiet_nil ?_)
      clear y2 y3;generalize wr.drew=Wd at *;refine Sd.call (by rfl) (fun K hK=>?_);go_simp;refine DO.out.mono ?_;rintro e w9 ⟨rfl,rs9,o9⟩;have I9:=Lib.hid (ID.out.step (x':=exU t (RR,d) (k+1)) (by rw [Y4.out];exact rs9) o9);have hne:¬ b=r:=by omega
      refine hK _ _ (Sc.Cl.of ⟨o9.cell C0.f hne,o9.cell C0.r hne⟩) ?_;clear hK K rs9 o9 DO C0 ID;refine Sd.done ?_;go_wp2
      go_roundw
      case rel=>exact ⟨k+1,by omega,by go_num,I9⟩
      case measure=>simp [intOf];omega
     ·have d3:(q == 3)=false:=by simpa using h3
      have N4:=Lib.hid (N3.out h3);have I9:Hid (RA w r F (exU t (RR,d) (k+1)) h g wr):=Lib.hid (by rw [N4.out];exact I.out);clear Y3 N3 DD N4 I;go_wp2
      go_roundw
      case rel=>exact ⟨k+1,by omega,by go_num,I9⟩
      case measure=>simp [intOf];omega
    ·obtain rfl:k=n:=by omega
     rename World=>wr
     have RES:Hid (RapPost w F (apS h t (A,d)) (.returned (ptr r)) wr):=Lib.hid ⟨r,rfl,by have h1:=I.out.rs;rw [← HN.out] at h1;rw [← XE.out];exact h1,hwr,I.out.bel⟩;go_wp2
     go_ret
     exact RES.out
theorem rapply_any {w:World} {r0:Nat} {F:Nat→Prop} {x:Abs×Int} (R:Rs w r0 F x.1 x.2) (hF:∀ k,F k→k < w.heap.size) (hd:0≤x.2∧x.2 < 900000) {v:Value} {t:List E5} (RT:Rd K5 w v t) (ok:∀ y∈t,okE y) (hl:t.length≤100) {h:Hr} (hh:okH h) :
 Calls Tryz.prog 33 #[.pointer (some ⟨r0,0,none⟩),v,.agg (bys (hb h) (hq h))] w (RapPost w F (apS h t x)):=rapply_gen R hF hd RT ok hl hh hh fun _ _=>rfl
end Go.Proofs.YtpkipilggkbkeaaGreatDoor.Pa
namespace Go.Proofs.YtpkipilggkbkeaaGreatDoor.Pa
open Go.RowKit Go.Maps
open Rw (Rd Ow At)
open Fl (row_cell row_frozen)
open Ck (LL lat sN sE tE RdL)
open Ua (arr Row frm tb tp te upd rtake_any info_of arr_one below_setRow load_frame store_frame store_new)
attribute [local irreducible] Sd.wpSd wpQuiet Sf.wpSf
theorem built0:Tryz.prog.built 78 []=some (bys zI lowF):=by kernel_rfl
theorem run_zero (W:World):(Instr.build 78 #[]).run Tryz.prog W = .ok (.agg (bys zI lowF)) W:=run_build W _ _ _ built0
theorem hi_set {w wr:World} {h:Hr} (H:HI w h wr) (h0:∀ i,h i=none):HI w h (wr.setRow (w.heap.size+1) (bys zI lowF)) :=
 ⟨(setRow_other wr _ _ _ (by omega)).trans H.res,(H.out_.row zI lowF).to (fun i _=>by unfold hb zI;rw [h0];rfl) (fun i _=>by unfold hq lowF;rw [h0];rfl),below_setRow H.bel _ _ (by omega)⟩
set_option maxHeartbeats 1000000 in
theorem rheard_any {w:World} {vs vt vl vp:Value} {S:Sts} {T:LL} {V:List Bool} {P:List S2} (H:Nr w vs vt vl S T V) (RP:Rd K2 w vp P):Calls Tryz.prog 68 #[vs,vt,vl,vp] w (RhdPost w (hr S T V P)):=by
 have FA:=Lib.hid (fun W b s=>rframe_any (H.below (w':=W) b) (RP.below b) s);have I0:Hid (HI w (hUp S T V P 1) ((w.alloc (.cells (bys zI lowF) 78)).alloc (.cells (bys zI lowF) 78))):=Lib.hid (by rw [hUp_one];exact hi_new w);have EE:Hid (hUp S T V P 17=hr S T V P):=Lib.hid hUp_end;unfold FramePost at FA;clear H RP;have hz:=run_zero;have R9:Hid (RowY ((w.alloc (.cells #[.int .u8 0,.int .u8 0,.int .u8 0,.int .u8 0,.int .u8 0,.int .u8 0,.int .u8 0,.int .u8 0,.int .u8 0,.int .u8 0,.int .u8 0,.int .u8 0,.int .u8 0,.int .u8 0,.int .u8 0,.int .u8 0,.int .u8 0,.bool false,.bool false,.bool false,.bool false,.bool false,.bool false,.bool false,.bool false,.bool false,.bool false,.bool false,.bool false,.bool false,.bool false,.bool false,.bool false,.bool false] 78)).alloc (.cells #[.int .u8 0,.int .u8 0,.int .u8 0,.int .u8 0,.int .u8 0,.int .u8 0,.int .u8 0,.int .u8 0,.int .u8 0,.int .u8 0,.int .u8 0,.int .u8 0,.int .u8 0,.int .u8 0,.int .u8 0,.int .u8 0,.int .u8 0,.bool false,.bool false,.bool false,.bool false,.bool false,.bool false,.bool false,.bool false,.bool false,.bool false,.bool false,.bool false,.bool false,.bool false,.bool false,.bool false,.bool false] 78)) (w.heap.size+1) zI lowF):=Lib.hid (hi_new w).out_;have I1:Hid (HI w (hUp S T V P 1) (((w.alloc (.cells #[.int .u8 0,.int .u8 0,.int .u8 0,.int .u8 0,.int .u8 0,.int .u8 0,.int .u8 0,.int .u8 0,.int .u8 0,.int .u8 0,.int .u8 0,.int .u8 0,.int .u8 0,.int .u8 0,.int .u8 0,.int .u8 0,.int .u8 0,.bool false,.bool false,.bool false,.bool false,.bool false,.bool false,.bool false,.bool false,.bool false,.bool false,.bool false,.bool false,.bool false,.bool false,.bool false,.bool false,.bool false] 78)).alloc (.cells #[.int .u8 0,.int .u8 0,.int .u8 0,.int .u8 0,.int .u8 0,.int .u8 0,.int .u8 0,.int .u8 0,.int .u8 0,.int .u8 0,.int .u8 0,.int .u8 0,.int .u8 0,.int .u8 0,.int .u8 0,.int .u8 0,.int .u8 0,.bool false,.bool false,.bool false,.bool false,.bool false,.bool false,.bool false,.bool false,.bool false,.bool false,.bool false,.bool false,.bool false,.bool false,.bool false,.bool false,.bool false] 78)).setRow (w.heap.size+1) (bys zI lowF))):=Lib.hid (hi_set I0.out (fun i=>by rw [hUp_one]));clear I0
 go_enter Tryz.func68,Tryz.ntmps68
 go_wp2_with ((with_reducible refine store_by (o:=⟨none,_,_,_,_,_⟩) rfl _ _ rfl (w.heap.size+1) zI zI lowF lowF ?_ ?_ R9.out ?_);(exact rfl);(exact rfl))
 clear hz R9;generalize ((w.alloc (.cells #[.int .u8 0,.int .u8 0,.int .u8 0,.int .u8 0,.int .u8 0,.int .u8 0,.int .u8 0,.int .u8 0,.int .u8 0,.int .u8 0,.int .u8 0,.int .u8 0,.int .u8 0,.int .u8 0,.int .u8 0,.int .u8 0,.int .u8 0,.bool false,.bool false,.bool false,.bool false,.bool false,.bool false,.bool false,.bool false,.bool false,.bool false,.bool false,.bool false,.bool false,.bool false,.bool false,.bool false,.bool false] 78)).alloc (.cells #[.int .u8 0,.int .u8 0,.int .u8 0,.int .u8 0,.int .u8 0,.int .u8 0,.int .u8 0,.int .u8 0,.int .u8 0,.int .u8 0,.int .u8 0,.int .u8 0,.int .u8 0,.int .u8 0,.int .u8 0,.int .u8 0,.int .u8 0,.bool false,.bool false,.bool false,.bool false,.bool false,.bool false,.bool false,.bool false,.bool false,.bool false,.bool false,.bool false,.bool false,.bool false,.bool false,.bool false,.bool false] 78)).setRow (w.heap.size+1) (bys zI lowF)=W0 at *
 go_loopw [10] (fun i wr=>∃ k:Nat,1≤k∧k≤17∧i = .int .i64 k∧Hid (HI w (hUp S T V P k) wr)) (fun i _=>17 - (intOf i).toNat)
 case atStart=>exact ⟨1,by omega,by omega,rfl,I1⟩
 case round =>
  obtain ⟨k,hk1,hk,rfl,I⟩:=hrel;clear I1
  by_cases hlt:k < 17
  ·have FK:=Lib.hid (FA.out wr I.out.bel (k:Int))
   have YY:=Lib.hid (fun h=>hUp_yes (S:=S) (T:=T) (V:=V) (P:=P) (k:=k) hk1 h);have NN:=Lib.hid (fun h=>hUp_no (S:=S) (T:=T) (V:=V) (P:=P) (k:=k) h);have HB:Hid (hrB S T V P k=(snB S T V k && decide (te (frF S T V P k)=0) && !tp (frF S T V P k))):=Lib.hid rfl;have HV:Hid (hrB S T V P k=true→hrV S T V P k=tb (frF S T V P k)):=Lib.hid (fun h=>by unfold hrV;rw [if_pos h]);generalize hH:hUp S T V P (k+1)=h' at *;have EH:=Lib.hid hH;clear hH;generalize hUp S T V P k=h at *;generalize hrB S T V P (k:Int)=hbk at *;generalize hrV S T V P (k:Int)=hvk at *;generalize frF S T V P (k:Int)=F at *;generalize sbN S T V (k:Int)=m at *;generalize snB S T V (k:Int)=ok at *;go_wp2_with fail;refine FK.out.mono ?_;rintro e w1 ⟨rfl,b1⟩;have I2:=Lib.hid ((I.out.below b1).below ((Below.refl w1.heap.size w1).alloc (Nat.le_refl _) (.cells (arr F) 114)));have R2:=Lib.hid (Row.new w1 F);have TA:=Lib.hid (rtake_any (w1.alloc (.cells (arr F) 114)) F);clear b1 FK I
   go_wp2_with (first
    | ((with_reducible refine store_new (o:=⟨none,_,_,_,_,_⟩) rfl _ _ rfl F ?_ ?_ ?_);(exact rfl);(exact rfl))
    | ((with_reducible refine load_frame (o:=⟨some 33,_,_,_,_,_⟩) rfl _ rfl w1.heap.size F ?_ R2.out ?_);(exact rfl)))
   refine TA.out.mono ?_;rintro e w3 ⟨rfl,b3⟩;have I3:=Lib.hid (I2.out.below b3);clear b3 TA I2 R2;generalize tb F=y at *;generalize tp F=p at *
   by_cases hall:(ok=true∧p=false)∧te F=0
   ·obtain ⟨⟨rfl,rfl⟩,he⟩:=hall
    have hT:hbk=true:=by rw [HB.out,decide_eq_true he];rfl
    have EQ:=Lib.hid (YY.out hT);rw [HV.out hT] at EQ;have I4:=Lib.hid (I3.out.put hlt y);rw [EQ.out] at I4;have q0:=I3.out.out_.cb hlt;have q1:=((I3.out.out_.setb hlt y)).cq hlt;have r0:=row_frozen I3.out.out_ k;have r1:=row_frozen (I3.out.out_.setb hlt y) (17+k);clear YY NN HB HV EQ hT I3;generalize te F=z at *;subst he;go_wp2
    go_roundw
    case rel=>exact ⟨k+1,by omega,by omega,by go_num,by rw [EH.out];exact I4⟩
    case measure=>simp [intOf];omega
   ·have hT:hbk=false:=by
     rw [HB.out]
     cases ok <;> cases p <;> simp at hall ⊢
     exact hall
    have EQ:=Lib.hid (NN.out hT);have I4:=Lib.hid I3.out;rw [EQ.out] at I4;clear YY NN HB HV EQ hT I3;generalize te F=z at *
    cases ok with
    | false =>
      clear hall;go_wp2
      go_roundw
      case rel=>exact ⟨k+1,by omega,by omega,by go_num,by rw [EH.out];exact I4⟩
      case measure=>simp [intOf];omega
    | true =>
      cases p with
      | true =>
        clear hall;go_wp2
        go_roundw
        case rel=>exact ⟨k+1,by omega,by omega,by go_num,by rw [EH.out];exact I4⟩
        case measure=>simp [intOf];omega
      | false =>
        have d0:(z == 0)=false:=by simpa using hall
        clear hall;go_wp2
        go_roundw
        case rel=>exact ⟨k+1,by omega,by omega,by go_num,by rw [EH.out];exact I4⟩
        case measure=>simp [intOf];omega
  ·obtain rfl:k=17:=by omega
   rw [EE.out] at I;have RES:Hid (RhdPost w (hr S T V P) (.returned (.agg (bys (hb (hr S T V P)) (hq (hr S T V P))))) (wr.setRow w.heap.size (bys (hb (hr S T V P)) (hq (hr S T V P))))):=Lib.hid ⟨rfl,below_setRow I.out.bel _ _ (Nat.le_refl _)⟩;have RR:=Lib.hid (I.out.res.row (hb (hr S T V P)) (hq (hr S T V P)));generalize hr S T V P=h at *
   go_wp2_with (first
    | ((with_reducible refine load_by (o:=⟨some 54,_,_,_,_,_⟩) rfl _ rfl (w.heap.size+1) (hb h) (hq h) ?_ I.out.out_ ?_);(exact rfl))
    | ((with_reducible refine store_by (o:=⟨none,_,_,_,_,_⟩) rfl _ _ rfl w.heap.size (hb h) zI (hq h) lowF ?_ ?_ I.out.res ?_);(exact rfl);(exact rfl)))
   (try simp only [Exit.inBlock,Exit.then])
   refine bodyPost_ret (results_by rfl _ _ w.heap.size (hb h) (hq h) rfl RR.out) rfl ?_;exact RES.out
end Go.Proofs.YtpkipilggkbkeaaGreatDoor.Pa
namespace Go.Proofs.YtpkipilggkbkeaaGreatDoor.Ck
open Go.RowKit
open Ro (E5 z5 eat ent K5 at5 eat_mem mayB mayP)
open Rw (Rd Ow At)
open Fl (ret_bool at_bool row_cell row_frozen file)
attribute [local irreducible] Sd.wpSd wpQuiet Sf.wpSf
theorem pc_is (L:LL) (n:Nat) (x:E5):pc L n x=(decide (x.1=1) && decide (0≤sN x.2.1 (L.take n))):=by unfold pc;rw [Bool.decide_and]
theorem pg_is (L:LL) (n:Nat) (x:E5):pg L n x=(decide (x.1=2) && decide (sN x.2.1 L < 0)):=by unfold pg;rw [Bool.decide_and]
set_option maxHeartbeats 8000000 in
theorem rtables_any (w:World) (v:Value) (L:LL) (R:RdL w v L):Calls Tryz.prog 67 #[v] w (TabPost w L):=by
 have RL:=Lib.hid R;have SC:=Lib.hid (fun (W:World) (v':Value) (M:LL) (s:Int) (r:RdL W v' M)=>rsender_any W v' M s r);have MA:=Lib.hid (fun (W:World) (u:Value) (l:List E5) (r:Rd K5 W u l)=>Ro.rmay_any W u l r);have TF:Hid (∀ w',0≤bI L→Below w.heap.size w w'→TabPost w L (.returned (.tuple #[.int .i64 (bI L),.int .i64 2])) w'):=fun w' h b=>by
  obtain ⟨e1,e2⟩:=t_form h;unfold TabPost;rw [e1,e2];exact ⟨rfl,b⟩
 have TC:Hid (∀ w',¬ 0≤bI L→0≤clN L→Below w.heap.size w w'→TabPost w L (.returned (.tuple #[.int .i64 (clN L),.int .i64 8])) w'):=fun w' h h2 b=>by
  obtain ⟨e1,e2⟩:=t_clash h h2;unfold TabPost;rw [e1,e2];exact ⟨rfl,b⟩
 have TG:Hid (∀ w',¬ 0≤bI L→¬ 0≤clN L→0≤gaN L→Below w.heap.size w w'→TabPost w L (.returned (.tuple #[.int .i64 (gaN L),.int .i64 9])) w'):=fun w' h h2 h3 b=>by
  obtain ⟨e1,e2⟩:=t_gap h h2 h3;unfold TabPost;rw [e1,e2];exact ⟨rfl,b⟩
 have TO:Hid (∀ w',¬ 0≤bI L→¬ 0≤clN L→¬ 0≤gaN L→Below w.heap.size w w'→TabPost w L (.returned (.tuple #[.int .i64 (-1),.int .i64 0])) w'):=fun w' h h2 h3 b=>by
  obtain ⟨e1,e2⟩:=t_ok h h2 h3;unfold TabPost;rw [e1,e2];exact ⟨rfl,b⟩
 have BH:Hid (∀ k,IAhead bad L k→k < L.length→bad (lat L k)=true→bI L=k):=fun k=>iahead_hit;have BE:Hid (IAhead bad L L.length→bI L = -1):=iahead_end;have BX:Hid (∀ k,IAhead bad L k→k < L.length→bad (lat L k)=false→IAhead bad L (k+1)):=fun k=>iahead_next;have CH:Hid (∀ k i,Within (pc L) L k i→k < L.length→i < (lat L k).length→pc L k (eat (lat L k) i)=true→clN L=k):=fun k i h1 h2 h3 h4=>(within_hit h1 h2 h3 h4).1;have CE:Hid (Ahead (pc L) L L.length→clN L = -1):=fun h=>(ahead_end h).1;have GH:Hid (∀ k i,Within (pg L) L k i→k < L.length→i < (lat L k).length→pg L k (eat (lat L k) i)=true→gaN L=k):=fun k i h1 h2 h3 h4=>(within_hit h1 h2 h3 h4).1;have GE:Hid (Ahead (pg L) L L.length→gaN L = -1):=fun h=>(ahead_end h).1;obtain ⟨a,cap,rfl,⟨hcap,_⟩,hm,hA⟩:=R;have HA:=Lib.hid hA;clear hA;generalize bI L=bn at *;generalize clN L=cn at *;generalize gaN L=gn at *;unfold maxLen at hm;generalize hn:L.length=n at *;have HN:=Lib.hid hn;clear hn
 go_enter Tryz.func67,Tryz.ntmps67
 go_wp2
 go_loopw [4] (fun i wr=>∃ k:Nat,k≤n∧i = .int .i64 k∧Hid (Below w.heap.size w wr)∧Hid (IAhead bad L k)) (fun i _=>n - (intOf i).toNat)
 case atStart=>exact ⟨0,Nat.zero_le _,rfl,Below.refl _ _,iahead_zero⟩
 case round =>
  obtain ⟨k,hk,rfl,bw,hs⟩:=hrel
  by_cases hlt:k < n
  ·obtain ⟨b,off,rfl,A⟩:=HA.out (by omega)
   obtain ⟨u,c,ru⟩:=A k hlt;have c':=(bw.out.cell (World.block_lt_of_cell? _ _ c)).trans c;have M:=Lib.hid (MA.out wr u (lat L k) (ru.below bw.out));obtain ⟨a',cap',rfl,_⟩:=ru;have AA:=Lib.hid A;have YES:=fun h=>BH.out k hs.out hlt h;have NO:=fun h=>BX.out k hs.out hlt h;have hb:bad (lat L k) = !mayB (lat L k):=rfl;rw [hb] at YES NO;clear A c hb;generalize mayB (lat L k)=q at *;generalize (lat L k).length=m at *
   cases q with
   | true =>
     have N:=Lib.hid (NO rfl);clear YES NO;go_wp2_with fail;refine M.out.mono ?_;rintro e w1 ⟨rfl,b1⟩;have B1:=Lib.hid (bw.out.trans (b1.mono bw.out.size));clear b1;go_wp2
     go_roundw
     case rel=>exact ⟨k+1,by omega,by go_num,B1,N⟩
     case measure=>simp [intOf];omega
   | false =>
     have Y:=Lib.hid (YES rfl);have T:=Lib.hid (fun w' hb=>TF.out w' (by rw [Y.out];omega) hb);rw [Y.out] at T;clear YES NO;go_wp2_with fail;refine M.out.mono ?_;rintro e w1 ⟨rfl,b1⟩;have B1:=Lib.hid (bw.out.trans (b1.mono bw.out.size));clear b1;go_wp2
     go_ret2
     exact T.out _ B1.out
  ·obtain rfl:k=n:=by omega
   have nb:=BE.out hs.out;have NB:=Lib.hid (show ¬ 0≤bn by omega);clear nb hs TF BH BE BX;have B0:=bw;go_wp2
   go_loopw [5] (fun i wr=>∃ j:Nat,j≤k∧i = .int .i64 j∧Hid (Below w.heap.size w wr)∧Hid (Ahead (pc L) L j)) (fun i _=>k - (intOf i).toNat)
   case atStart=>exact ⟨0,Nat.zero_le _,rfl,B0,ahead_zero⟩
   case round =>
    clear bw B0 hlt;obtain ⟨j,hj,rfl,bw,hs⟩:=hrel
    by_cases hlt:j < k
    ·obtain ⟨b,off,rfl,A⟩:=HA.out (by omega)
     obtain ⟨u,c,a',cap',rfl,_,hm',hA'⟩:=A j hlt;have HC:=Lib.hid c;have HA':=Lib.hid hA';have HAA:=Lib.hid A;have HJ:=Lib.hid (show j < L.length by rw [HN.out];exact hlt);have lc:b < w.heap.size:=World.block_lt_of_cell? _ _ c;have c0:wr.cell? ⟨b,off+j,none⟩=_:=(bw.out.cell lc).trans c;clear hA' c A;unfold maxLen at hm';generalize hl:(lat L j).length=m at *;have HL:=Lib.hid hl;clear hl;have W0:=Lib.hid (within_zero hs.out);have B1:=bw;clear hs;go_wp2
     go_loopw [6] (fun i wr=>∃ i':Nat,i'≤m∧i = .int .i64 i'∧Hid (Below w.heap.size w wr)∧Hid (Within (pc L) L j i')) (fun i _=>m - (intOf i).toNat)
     case atStart=>exact ⟨0,Nat.zero_le _,rfl,B1,W0⟩
     case round =>
      clear c0 bw B1 W0;obtain ⟨i,hi,rfl,bw,hs⟩:=hrel;have c':wr.cell? ⟨b,off+j,none⟩=_:=(bw.out.cell lc).trans HC.out
      by_cases hit:i < m
      ·obtain ⟨b',off',rfl,A'⟩:=HA'.out (by omega)
       have at0:=at5 A' i (by rw [HL.out];exact hit);rw [show (lat L j).getD i z5=eat (lat L j) i from rfl] at at0;have YES:=Lib.hid (fun h=>CH.out j i hs.out (by have:=HJ.out;rw [HN.out] at this;exact this) (by rw [HL.out];exact hit) h);have NO:=Lib.hid (fun h=>within_next hs.out (by rw [HL.out];exact hit) h);have PI:=pc_is L j (eat (lat L j) i);have HAA':=Lib.hid A';clear A' hs;generalize eat (lat L j) i=x at *;have SJ:=Lib.hid (fun W hb=>SC.out W (.slice (some ⟨b,off,none⟩) j cap) (L.take j) x.2.1 ((RL.out.below (w':=W) hb).take (by rw [HN.out];omega)));obtain ⟨x1,x2,x3,x4,x5⟩:=x;simp only at PI at0 SJ;generalize pc L j (x1,x2,x3,x4,x5)=q at *;generalize sN x2 (L.take j)=sn at *;generalize sE x2 (L.take j)=se at *;obtain ⟨i0,i1,_,_,_⟩:=at0;have l0:b' < w.heap.size:=World.block_lt_of_cell? _ _ i0;have k0:wr.cell? ⟨b',off'+i * 5,none⟩=_:=(bw.out.cell l0).trans i0;have k1:wr.cell? ⟨b',off'+i * 5+1,none⟩=_:=(bw.out.cell l0).trans i1;have I0:=Lib.hid i0;have P:=Lib.hid PI;have hjc:j≤cap:=by omega
       clear PI i0 i1 k0;go_upto_region 12 with fail
       replace c':=Sd.cell_by c'
       replace k1:=Sd.cell_by k1
       refine Sf.start [(0,0),(0,1),(0,2),(0,3),(0,4),(0,5),(0,6),(0,7),(0,8),(0,9),(0,10),(1,11),(0,12),(0,13),(0,14),(2,15),(0,16),(1,17)] [⟨15,8,#[.int .i64 0,.int .i64 0,.int .i64 0,.int .i64 0,.int .i64 0],98⟩] (by kernel_rfl) (by kernel_rfl) (by kernel_rfl) (by decide) (by decide) ?_ ?_ ?_
       ·simp
       ·intro f hf
        simp only [List.mem_cons,List.not_mem_nil,or_false] at hf;subst hf;exact ⟨_,rfl,rfl,rfl,fun ρ w=>by go_simp⟩
       dsimp only [Sf.picks,List.getElem?_cons_succ,List.getElem?_cons_zero];have BW:=Lib.hid ((Below.refl wr.heap.size wr).drew)
       repeat (refine Sf.lit (fun xs=>?_);simp only [Sf.fill,List.foldl_cons,List.foldl_nil];quiet_step (fail);refine wpQuiet_nil ?_)
       refine Sf.call (fun xs w3 hb hc=>⟨by rfl,fun K hK=>?_⟩);have B3:=Lib.hid (BW.out.trans (hb.mono BW.out.size));clear hb hc BW;simp only [Sf.fill,List.foldl_cons,List.foldl_nil];go_simp;refine (SJ.out w3 (bw.out.trans (B3.out.mono bw.out.size))).mono ?_;rintro e4 w4 ⟨rfl,b4⟩;have B4:=Lib.hid (B3.out.trans (b4.mono B3.out.size));refine hK _ _ (Sd.Cl.of B4.out) b4.size (fun _=>b4) ?_;clear hK K b4 B3;unfold ent
       repeat (refine Sf.lit (fun xs=>?_);simp only [Sf.fill,List.foldl_cons,List.foldl_nil];quiet_step (fail);refine wpQuiet_nil ?_)
       refine Sf.meet (fun g7 w7 hb hc row n7 hH hL=>?_);have B7:=Lib.hid (B4.out.trans (hb.mono B4.out.size));have R7:Hid (RowE w7 g7 z5):=row;clear hb hc row hH hL B4
       repeat (refine Sf.lit (fun xs=>?_);simp only [Sf.fill,List.foldl_nil];quiet_step (fail);refine wpQuiet_nil ?_)
       refine Sf.call (fun xs w9 hb hc=>⟨by rfl,fun K hK=>?_⟩);have B9:=Lib.hid (B7.out.trans (hb.mono B7.out.size));have R9:=Lib.hid (R7.out.below hb R7.out.lt);have d0:w9.cell? ⟨g7,0,none⟩=some (.int .i64 0):=row_cell R9.out 0;have d1:w9.cell? ⟨g7,1,none⟩=some (.int .i64 0):=row_cell R9.out 1;have d2:w9.cell? ⟨g7,2,none⟩=some (.int .i64 0):=row_cell R9.out 2;have d3:w9.cell? ⟨g7,3,none⟩=some (.int .i64 0):=row_cell R9.out 3;have d4:w9.cell? ⟨g7,4,none⟩=some (.int .i64 0):=row_cell R9.out 4;have f0:w9.frozen? ⟨g7,0,none⟩=false:=row_frozen R9.out 0;have f1:w9.frozen? ⟨g7,1,none⟩=false:=row_frozen R9.out 1;have f2:w9.frozen? ⟨g7,2,none⟩=false:=row_frozen R9.out 2;have f3:w9.frozen? ⟨g7,3,none⟩=false:=row_frozen R9.out 3;have f4:w9.frozen? ⟨g7,4,none⟩=false:=row_frozen R9.out 4;have BA:=sto5_below (g:=g7) (x:=se) B9.out n7;have hsz:=sto5_size w9 g7 se;clear hb hc B7 R7 R9;simp only [Sf.fill,List.foldl_nil];go_simp;refine hK _ _ (Sd.Cl.of BA) (by rw [← hsz];exact Nat.le_refl _) (fun h=>absurd rfl h) ?_;clear hK K d0 d1 d2 d3 d4 f0 f1 f2 f3 f4 hsz
       show Sf.wpSf _ _ _ _ _ _ _ _ _ _ (sto5 w9 g7 se)
       have B10:=Lib.hid (bw.out.trans (BA.mono bw.out.size));clear BA c' k1 B9;generalize sto5 w9 g7 se=wA at *;refine Sf.done (fun wB hb hc=>?_);have BB:=Lib.hid (B10.out.trans (hb.mono B10.out.size));clear hb hc B10 n7 SJ bw;have c':wB.cell? ⟨b,off+j,none⟩=_:=(BB.out.cell lc).trans HC.out;have k0:wB.cell? ⟨b',off'+i * 5,none⟩=_:=(BB.out.cell l0).trans I0.out
       by_cases h1:x1=1
       ·by_cases h2:0≤sn
        ·have Y:=YES.out (by rw [P.out,decide_eq_true h1,decide_eq_true h2];rfl)
         have T:=Lib.hid (fun w' hb=>TC.out w' NB.out (by rw [Y];omega) hb);rw [Y] at T;have h1':(x1 == 1)=true:=by simpa using h1
         have h2':decide (0≤sn)=true:=decide_eq_true h2;clear Y YES NO P h1 h2;go_wp2
         go_ret2
         exact T.out _ BB.out
        ·have ST:=Lib.hid (NO.out (by rw [P.out,decide_eq_false h2,Bool.and_false]))
         have h1':(x1 == 1)=true:=by simpa using h1
         have h2':decide (0≤sn)=false:=decide_eq_false h2;clear YES NO P h1 h2;go_wp2
         go_roundw
         case rel=>exact ⟨i+1,by omega,by go_num,BB,ST⟩
         case measure=>simp [intOf];omega
       ·have ST:=Lib.hid (NO.out (by rw [P.out,decide_eq_false h1,Bool.false_and]))
        have h1':(x1 == 1)=false:=by simpa using h1
        clear YES NO P h1;go_wp2
        go_roundw
        case rel=>exact ⟨i+1,by omega,by go_num,BB,ST⟩
        case measure=>simp [intOf];omega
      ·obtain rfl:i=m:=by omega
       have ST:=Lib.hid (within_end (by rw [HL.out];exact hs.out) HJ.out);clear hs;go_wp2
       go_roundw
       case rel=>exact ⟨j+1,by omega,by go_num,bw,ST⟩
       case measure=>simp [intOf];omega
    ·obtain rfl:j=k:=by omega
     have nc:=CE.out hs.out;have NC:=Lib.hid (show ¬ 0≤cn by omega);clear nc hs TC CH CE;have B0:=bw;go_wp2
     go_loopw [9] (fun i wr=>∃ k:Nat,k≤j∧i = .int .i64 k∧Hid (Below w.heap.size w wr)∧Hid (Ahead (pg L) L k)) (fun i _=>j - (intOf i).toNat)
     case atStart=>exact ⟨0,Nat.zero_le _,rfl,B0,ahead_zero⟩
     case round =>
      clear bw B0 hlt;obtain ⟨k,hk,rfl,bw,hs⟩:=hrel
      by_cases hlt:k < j
      ·obtain ⟨b,off,rfl,A⟩:=HA.out (by omega)
       obtain ⟨u,c,a',cap',rfl,_,hm',hA'⟩:=A k hlt;have HC:=Lib.hid c;have HA':=Lib.hid hA';have HAA:=Lib.hid A;have HJ:=Lib.hid (show k < L.length by rw [HN.out];exact hlt);have lc:b < w.heap.size:=World.block_lt_of_cell? _ _ c;have c0:wr.cell? ⟨b,off+k,none⟩=_:=(bw.out.cell lc).trans c;clear hA' c A;unfold maxLen at hm';generalize hl:(lat L k).length=m at *;have HL:=Lib.hid hl;clear hl;have W0:=Lib.hid (within_zero hs.out);have B1:=bw;clear hs;go_wp2
       go_loopw [10] (fun i wr=>∃ i':Nat,i'≤m∧i = .int .i64 i'∧Hid (Below w.heap.size w wr)∧Hid (Within (pg L) L k i')) (fun i _=>m - (intOf i).toNat)
       case atStart=>exact ⟨0,Nat.zero_le _,rfl,B1,W0⟩
       case round =>
        clear c0 bw B1 W0;obtain ⟨i,hi,rfl,bw,hs⟩:=hrel;have c':wr.cell? ⟨b,off+k,none⟩=_:=(bw.out.cell lc).trans HC.out
        by_cases hit:i < m
        ·obtain ⟨b',off',rfl,A'⟩:=HA'.out (by omega)
         have at0:=at5 A' i (by rw [HL.out];exact hit);rw [show (lat L k).getD i z5=eat (lat L k) i from rfl] at at0;have YES:=Lib.hid (fun h=>GH.out k i hs.out (by have:=HJ.out;rw [HN.out] at this;exact this) (by rw [HL.out];exact hit) h);have NO:=Lib.hid (fun h=>within_next hs.out (by rw [HL.out];exact hit) h);have PI:=pg_is L k (eat (lat L k) i);have HAA':=Lib.hid A';clear A' hs;generalize eat (lat L k) i=x at *;have SJ:=Lib.hid (SC.out wr (.slice (some ⟨b,off,none⟩) j cap) L x.2.1 (RL.out.below bw.out));obtain ⟨x1,x2,x3,x4,x5⟩:=x;simp only at PI at0 SJ;generalize pg L k (x1,x2,x3,x4,x5)=q at *;generalize sN x2 L=sn at *;generalize sE x2 L=se at *;obtain ⟨i0,i1,_,_,_⟩:=at0;have l0:b' < w.heap.size:=World.block_lt_of_cell? _ _ i0;have k1:wr.cell? ⟨b',off'+i * 5+1,none⟩=_:=(bw.out.cell l0).trans i1;have I0:=Lib.hid i0;have P:=Lib.hid PI;clear PI i0 i1;unfold WhoPost ent at SJ;go_wp2_with fail;refine SJ.out.mono ?_;rintro e4 w4 ⟨rfl,b4⟩;have bb:=b4.alloc b4.size (.cells #[.int .i64 se.1,.int .i64 se.2.1,.int .i64 se.2.2.1,.int .i64 se.2.2.2.1,.int .i64 se.2.2.2.2] 98);have BB:=Lib.hid (bw.out.trans (bb.mono bw.out.size));clear b4 bb SJ bw c' k1;go_upto_region 22 with fail;generalize w4.alloc (.cells #[.int .i64 se.1,.int .i64 se.2.1,.int .i64 se.2.2.1,.int .i64 se.2.2.2.1,.int .i64 se.2.2.2.2] 98)=wB at *;have c':wB.cell? ⟨b,off+k,none⟩=_:=(BB.out.cell lc).trans HC.out;have k0:wB.cell? ⟨b',off'+i * 5,none⟩=_:=(BB.out.cell l0).trans I0.out
         by_cases h1:x1=2
         ·by_cases h2:sn < 0
          ·have Y:=YES.out (by rw [P.out,decide_eq_true h1,decide_eq_true h2];rfl)
           have T:=Lib.hid (fun w' hb=>TG.out w' NB.out NC.out (by rw [Y];omega) hb);rw [Y] at T;have h1':(x1 == 2)=true:=by simpa using h1
           have h2':decide (sn < 0)=true:=decide_eq_true h2;clear Y YES NO P h1 h2;go_wp2
           go_ret2
           exact T.out _ BB.out
          ·have ST:=Lib.hid (NO.out (by rw [P.out,decide_eq_false h2,Bool.and_false]))
           have h1':(x1 == 2)=true:=by simpa using h1
           have h2':decide (sn < 0)=false:=decide_eq_false h2;clear YES NO P h1 h2;go_wp2
           go_roundw
           case rel=>exact ⟨i+1,by omega,by go_num,BB,ST⟩
           case measure=>simp [intOf];omega
         ·have ST:=Lib.hid (NO.out (by rw [P.out,decide_eq_false h1,Bool.false_and]))
          have h1':(x1 == 2)=false:=by simpa using h1
          clear YES NO P h1;go_wp2
          go_roundw
          case rel=>exact ⟨i+1,by omega,by go_num,BB,ST⟩
          case measure=>simp [intOf];omega
        ·obtain rfl:i=m:=by omega
         have ST:=Lib.hid (within_end (by rw [HL.out];exact hs.out) HJ.out);clear hs;go_wp2
         go_roundw
         case rel=>exact ⟨k+1,by omega,by go_num,bw,ST⟩
         case measure=>simp [intOf];omega
      ·obtain rfl:k=j:=by omega
       have ng:=GE.out hs.out;have T:=Lib.hid (fun w' hb=>TO.out w' NB.out NC.out (by omega) hb);go_wp2
       go_ret2
       exact T.out _ bw.out
end Go.Proofs.YtpkipilggkbkeaaGreatDoor.Ck
namespace Go.Proofs.YtpkipilggkbkeaaGreatDoor.Pa
open Go.RowKit Go.Maps
open Fs (Abs Rs)
open Rw (Rd Ow At)
open Ro (E5 z5 eat K5 okE may_len)
open Fl (row_cell row_frozen)
open Ck (LL lat sN sE tE tN RdL may_all rtables_any TabPost)
attribute [local irreducible] Sd.wpSd wpQuiet
def RroundPost (w:World) (E:Int) (S':Sts) (e:Ending) (w':World):Prop:=∃ v,e = .returned (.tuple #[v,.int .i64 E])∧Rfl w' v S'∧Below w.heap.size w w'
theorem rfl_nil (w:World):Rfl w (.slice none 0 0) []:=⟨[],Rd.nil w,rfl,fun i hi=>by cases hi⟩
theorem rap_of {w wr:World} {r:Nat} {x:Abs×Int} (h:Hrf w r x) (b:Below w.heap.size w wr) {q:Option Nat} (hq:∀ k,q=some k→w.heap.size≤k):RAp wr r x q:=rs_mono (rs_high h b) fun k _ e=>hq k e
set_option maxHeartbeats 1000000 in
theorem rround_any {w:World} {vs vt vl vp:Value} {S:Sts} {T:LL} {V:List Bool} {P:List S2} (HS:Rfl w vs S) (HT:RdL w vt T) (HV:Rd KB w vl V) (RP:Rd K2 w vp P) (hd:∀ i,i < S.length→0≤(sat S i).2∧(sat S i).2 < 900000) :
 Calls Tryz.prog 28 #[vs,vt,vl,vp] w (RroundPost w (rdE S T V) (rdL S T V P)):=by
 have TA:=Lib.hid (rtables_any w vt T HT);unfold TabPost at TA
 have NO:Hid (¬ (1≤S.length∧S.length≤32∧T.length=S.length∧V.length=S.length)→rdE S T V=1∧rdL S T V P = []):=Lib.hid (fun h=>by
  have e:rdE S T V=1:=if_neg h
  exact ⟨e,by unfold rdL;rw [e];rfl⟩)
 have YES:Hid ((1≤S.length∧S.length≤32∧T.length=S.length∧V.length=S.length)→rdE S T V=tE T):=Lib.hid (fun h=>if_pos h);have LL0:Hid (rdE S T V=0→rdL S T V P=rdS S T V (hr S T V P)):=Lib.hid (fun h=>if_pos h);have LL1:Hid (¬ rdE S T V=0→rdL S T V P = []):=Lib.hid (fun h=>if_neg h);have FIN:Hid (∀ E,rdE S T V=E∧rdL S T V P = []→∀ w',Below w.heap.size w w'→RroundPost w (rdE S T V) (rdL S T V P) (.returned (.tuple #[.slice none 0 0,.int .i64 E])) w'):=Lib.hid (fun E h w' b=>⟨_,by rw [h.1],by rw [h.2];exact rfl_nil w',b⟩);obtain ⟨sa,cs,rfl,ms⟩:=HS.slice;obtain ⟨ta,ct,rfl,mt⟩:=HT.slice;obtain ⟨la,cl,rfl,ml⟩:=HV.slice;unfold maxLen at ms mt ml;have HS0:=Lib.hid HS;have HT0:=Lib.hid HT;have HV0:=Lib.hid HV;have RP0:=Lib.hid RP;have DD:=Lib.hid hd;clear HS HT HV RP hd
 by_cases h1:S.length < 1
 ·have N2:=Lib.hid (FIN.out 1 (NO.out (by omega)) w (Below.refl _ _))
  clear NO YES LL0 LL1 FIN;generalize rdE S T V=a1 at *;generalize rdL S T V P=a2 at *;generalize S.length=n at *;generalize T.length=nt at *;generalize V.length=nv at *
  go_enter Tryz.func28,Tryz.ntmps28
  go_wp2
  go_ret2
  exact N2.out
 ·by_cases h2:32 < S.length
  ·have N2:=Lib.hid (FIN.out 1 (NO.out (by omega)) w (Below.refl _ _))
   clear NO YES LL0 LL1 FIN;generalize rdE S T V=a1 at *;generalize rdL S T V P=a2 at *;generalize S.length=n at *;generalize T.length=nt at *;generalize V.length=nv at *
   go_enter Tryz.func28,Tryz.ntmps28
   go_wp2
   go_ret2
   exact N2.out
  ·by_cases h3:T.length=S.length
   ·by_cases h4:V.length=S.length
    ·have YE:=Lib.hid (YES.out ⟨by omega,by omega,h3,h4⟩)
     by_cases hE:tE T=0
     ·have EL:Hid (rdL S T V P=rdS S T V (hr S T V P)):=Lib.hid (LL0.out (by rw [YE.out];exact hE))
      have NS:Hid (Nr w (.slice sa S.length cs) (.slice ta T.length ct) (.slice la V.length cl) S T V):=Lib.hid ⟨HS0.out,HT0.out,HV0.out,h3,h4,hE⟩;have HD:=Lib.hid (fun W b=>rheard_any (NS.out.below (w':=W) b) (RP0.out.below b));have EZ:rdE S T V=0:=by rw [YE.out];exact hE
      have OH:=Lib.hid (hr_ok S T V P);have AT:=Lib.hid (fun i hi=>rdS_at S T V (hr S T V P) (i:=i) hi);have RL:=Lib.hid (rdS_len S T V (hr S T V P));rw [EZ,EL.out];rw [hE] at TA;unfold RhdPost at HD;clear NO YES LL0 LL1 FIN YE EL EZ;generalize hr S T V P=h at *;generalize rdS S T V h=S' at *;generalize tN T=tn at *;rw [h3,h4] at NS HD ⊢;rw [h3] at HT0 TA;rw [h4] at HV0;have H3:=Lib.hid h3;have H4:=Lib.hid h4;clear h3 h4 hE;generalize hn:S.length=n at *;have HN:=Lib.hid hn;clear hn
      go_enter Tryz.func28,Tryz.ntmps28
      go_wp2_with fail;refine TA.out.mono ?_;rintro e w1 ⟨rfl,b1⟩;have B1:=Lib.hid b1;clear b1 TA;go_wp2_with fail;refine (HD.out w1 B1.out).mono ?_;rintro e w2 ⟨rfl,b2⟩;have B2':=B1.out.trans (b2.mono B1.out.size);have B2:=Lib.hid (B2'.alloc B2'.size (.cells (bys (hb h) (hq h)) 78));have Y2:=Lib.hid (RowY.new w2 (hb h) (hq h));clear b2 B1 HD B2';have hgy:=Y2.out.lt
      go_upto_region 7 with ((with_reducible refine store_by_new (o:=⟨none,_,_,_,_,_⟩) rfl _ _ rfl (hb h) (hq h) ?_ ?_ ?_);(exact rfl);(exact rfl))
      generalize (w2.alloc (.cells (bys (hb h) (hq h)) 78))=W2 at *;generalize w2.heap.size=gy at *;have P0:Hid (PI RAp 43 W2 S' 0 (.slice (some ⟨W2.heap.size,0,none⟩) 0 0) [] (W2.alloc (.cells #[] 43))):=Lib.hid (PI.made (Below.refl _ _));go_wp2;generalize (W2.alloc (.cells #[] 43))=W3 at *
      go_loopw [14,13] (fun i o wr=>∃ (k:Nat) (ps:List Nat),k≤n∧i = .int .i64 k∧Hid (PI RAp 43 W2 S' k o ps wr)) (fun i _ _=>n - (intOf i).toNat)
      case atStart=>exact ⟨0,[],Nat.zero_le _,rfl,P0⟩
      case round =>
       obtain ⟨k,ps,hk,rfl,I⟩:=hrel;clear P0;obtain ⟨av,cv,ev,_⟩:=I.out.own.slice;have OWN:=Lib.hid I.out.own;generalize ps.length=Lp at ev;subst ev;have BI:=Lib.hid (B2.out.trans (I.out.bel.mono B2.out.size))
       by_cases hlt:k < n
       ·obtain ⟨b1,o1,c1,s,e1,cS,hS⟩:=NS.out.st.one (k:=k) (by have:=HN.out;omega)
        rw [HN.out] at e1;injection e1 with e1 _ e2;subst e1 e2;obtain ⟨b2,o2,c2,at',ct',e2,cT,_,_⟩:=NS.out.tb.one (k:=k) (by have:=H3.out;omega);have RT:=Lib.hid (NS.out.tb.rd (k:=k) (by have:=H3.out;omega) e2 cT);rw [H3.out] at e2;injection e2 with e2 _ e3;subst e2 e3;obtain ⟨a3,c3,e3,_,_,hv3⟩:=NS.out.lv;rw [H4.out] at e3;injection e3 with e3 _ e4;subst e3 e4;obtain ⟨b3,o3,rfl,A3⟩:=hv3 (by have:=H4.out;omega);have cV:=atB (A3.below BI.out) (i:=k) (by have:=H4.out;omega);rw [show V.getD k false=vat V k from rfl] at cV;have EA:=Lib.hid (AT.out k (by have:=HN.out;omega));have OKT:=Lib.hid (tab_each NS.out.ok (k:=k) (by have:=H3.out;omega));have ML:=Lib.hid (may_len (may_all (not_bad NS.out.ok) k (by have:=H3.out;omega)));have HS2:=Lib.hid hS;have ql:∀ j,(Value.slice av Lp cv).ownBlock=some j→w.heap.size≤j:=fun j e=>Nat.le_trans B2.out.size (World.ownsRow.lt OWN.out j e).1;have qh:=Lib.hid I.out.lt;have QL:=Lib.hid ql;have QF:Hid (∀ x,Hrf w s x→∀ W,Below w.heap.size w W→RAp W s x (Value.slice av Lp cv).ownBlock):=Lib.hid (fun x hx W hb=>rap_of hx hb QL.out);clear hS hv3 A3 ql;unfold ptr at cS;have CS:=Lib.hid cS;have CT:=Lib.hid cT;have lS:=World.block_lt_of_cell? _ _ cS;have lT:=World.block_lt_of_cell? _ _ cT;clear cS cT
        cases hv:vat V k with
        | true =>
          rw [hv] at cV;rw [hv,if_pos rfl] at EA;generalize hlk:(lat T k).length=lk at *;go_upto_region 12 with fail;clear cV;have sS:=Sc.cell_in (C:=fun W=>Below w.heap.size w W) (a:=⟨b1,o1+k,none⟩) (fun W' h=>(h.cell lS).trans CS.out);have sT:=Sc.cell_in (C:=fun W=>Below w.heap.size w W) (a:=⟨b2,o2+k,none⟩) (fun W' h=>(h.cell lT).trans CT.out);have BD:=Lib.hid (BI.out.trans ((Below.refl wr.heap.size wr).drew.mono BI.out.size));have ne:Nonempty (Sc.In (fun W=>Below w.heap.size w W)):=⟨⟨_,BD.out⟩⟩;have ID:=Lib.hid (I.out.below rap_good ((Below.refl wr.heap.size wr).drew));refine Sc.start (fun W=>Below w.heap.size w W) [(false,0),(false,1),(false,2),(false,3),(false,4),(false,5),(false,6),(false,7),(false,8),(true,9),(true,10),(true,11),(true,12),(false,13)] (by kernel_rfl) (by kernel_rfl) (by kernel_rfl) BD.out ?_;dsimp only [Sd.picks,List.getElem?_cons_succ,List.getElem?_cons_zero]
          repeat (refine Sd.lit ?_;quiet_step (fail);refine wpQuiet_nil ?_)
          clear sS sT;have YD:Hid (RowY wr.drew gy (hb h) (hq h)):=Lib.hid (Y2.out.below ID.out.bel hgy);generalize wr.drew=Wd at *;refine Sd.call (by rfl) (fun K hK=>?_);refine wp_load_row 78 _ rfl gy rfl _ _ _ _ YD.out Tryz.underlying78 rfl (infoY _ _) ?_;refine hK _ _ (Sc.Cl.of BD.out) ?_;clear hK K;have AP:=Lib.hid (rapply_any (w:=Wd) (r0:=s) (F:=fun j=>(Value.slice av Lp cv).ownBlock=some j) (x:=sat S k) (QF.out _ HS2.out Wd BD.out) (fun j e=>ID.out.lt j e) (DD.out k (by omega)) (RT.out.below BD.out) (fun y hy=>(OKT.out y hy).1) (by have:=ML.out;omega) OH.out);unfold RapPost at AP;refine Sd.call (by rfl) (fun K hK=>?_);go_simp;refine AP.out.mono ?_;rintro e w5 ⟨g,rfl,rs5,_,b5⟩;have B5:=Lib.hid (BD.out.trans (b5.mono BD.out.size));refine hK _ _ (Sc.Cl.of B5.out) ?_;clear hK K;unfold ptr;refine Sd.call (by rfl) (fun K hK=>?_);go_simp;have LN:=Lib.hid I.out.len;have BL:=b5.alloc b5.size (.cells #[.pointer (some ⟨g,0,none⟩)] 43);have I5:=Lib.hid (ID.out.below rap_good BL);have G5:Hid (RAp (w5.alloc (.cells #[.pointer (some ⟨g,0,none⟩)] 43)) g (sat S' k) (Value.slice av Lp cv).ownBlock):=Lib.hid (rap_good.below (by rw [EA.out];exact rs5) ((Below.refl w5.heap.size w5).alloc (Nat.le_refl _) _));have N6:=Lib.hid (heap_alloc_new w5 (.cells #[.pointer (some ⟨g,0,none⟩)] 43));have B6:=Lib.hid (B5.out.alloc B5.out.size (.cells #[.pointer (some ⟨g,0,none⟩)] 43));refine hK _ _ (Sc.Cl.of B6.out) ?_;clear hK K rs5 b5 I OWN AP BL ID BD YD;generalize w5.heap.size=g5 at *;generalize (w5.alloc (.cells #[.pointer (some ⟨g,0,none⟩)] 43))=W6 at *;refine Sd.call (by rfl) (fun K hK=>?_);refine wp_push_at (K:=KN) Tryz.underlying25 infoM rfl (by omega) _ _ rfl W2.heap.size _ _ rfl I5.out.own _ g rfl ?d1 ?d2 ?d3 ?_
          case d1 =>
           intro j u hu
           match j,hu with
           | 0,hu=>simp [KN] at hu;subst hu;exact row_cell N6.out 0
           | j+1,hu=>simp [KN] at hu
          case d2=>rw [LN.out];omega
          case d3=>have:=I5.out.bel.size;exact this
          intro v' w6 o6 g6 h6
          have NEW:=Lib.hid (I5.out.push rap_good o6 g6 h6 G5.out);refine hK _ _ (Sc.Cl.of (B2.out.trans (NEW.out.bel.mono B2.out.size))) ?_;clear hK K o6 g6 h6 I5 G5 LN B5 B6 N6;obtain ⟨av',cv',ev',_⟩:=NEW.out.own.slice;generalize (ps ++ [g]).length=Lp' at ev';subst ev'
          repeat (refine Sd.lit ?_;quiet_step (fail);refine wpQuiet_nil ?_)
          refine Sd.done ?_;go_wp2
          go_roundw
          case rel=>exact ⟨k+1,ps ++ [g],by omega,by go_num,NEW⟩
          case measure=>simp [intOf];omega
        | false =>
          rw [hv] at cV;rw [hv,if_neg Bool.false_ne_true] at EA;have cS:=(BI.out.cell lS).trans CS.out;have RC:=Lib.hid (rcopy_any (w:=wr) (r:=s) (F:=fun j=>(Value.slice av Lp cv).ownBlock=some j) (x:=sat S k) (QF.out _ HS2.out wr BI.out) (fun j e=>qh.out j e));unfold RcpPost at RC;go_wp2_with fail;refine RC.out.mono ?_;rintro e w5 ⟨g,rfl,rs5,_,b5⟩;have LN:=Lib.hid I.out.len;have BL:=b5.alloc b5.size (.cells #[.pointer (some ⟨g,0,none⟩)] 43);have I5:=Lib.hid (I.out.below rap_good BL);have G5:Hid (RAp (w5.alloc (.cells #[.pointer (some ⟨g,0,none⟩)] 43)) g (sat S' k) (Value.slice av Lp cv).ownBlock):=Lib.hid (rap_good.below (by rw [EA.out];exact rs5) ((Below.refl w5.heap.size w5).alloc (Nat.le_refl _) _));clear rs5 b5 I OWN RC cS BL cV
          (try unfold ptr)
          go_wp2_with (at_builtin;refine push_at (K:=KN) Tryz.underlying25 infoM rfl (by omega) rfl _ _ rfl W2.heap.size _ _ rfl I5.out.own _ g rfl ?d1 ?d2 ?d3 ?_)
          case d1 =>
           intro j u hu
           match j,hu with
           | 0,hu=>simp [KN] at hu;subst hu;unfold ptr;go_simp
           | j+1,hu=>simp [KN] at hu
          case d2=>rw [LN.out];omega
          case d3=>have:=I5.out.bel.size;exact this
          intro v' w6 o6 g6 h6
          have NEW:=Lib.hid (I5.out.push rap_good o6 g6 (by simpa using h6) G5.out);clear o6 g6 h6 I5 G5 LN;obtain ⟨av',cv',ev',_⟩:=NEW.out.own.slice;generalize (ps ++ [g]).length=Lp' at ev';subst ev';go_wp2
          go_roundw
          case rel=>exact ⟨k+1,ps ++ [g],by omega,by go_num,NEW⟩
          case measure=>simp [intOf];omega
       ·obtain rfl:k=n:=by omega
        have RES:Hid (RroundPost w 0 S' (.returned (.tuple #[.slice av Lp cv,.int .i64 0])) wr):=Lib.hid ⟨_,rfl,PI.rfl_ (S:=S') (by rw [RL.out];exact I.out),BI.out⟩;clear I OWN;go_wp2
        go_ret2
        exact RES.out
     ·have N2:=Lib.hid (fun w' b=>FIN.out (tE T) ⟨YE.out,LL1.out (by rw [YE.out];exact hE)⟩ w' b)
      have hne:(tE T != 0)=true:=by simpa using hE
      clear NO YES LL0 LL1 FIN YE hE HS0 HT0 HV0 DD;rw [h3,h4];generalize rdE S T V=a1 at *;generalize rdL S T V P=a2 at *;generalize S.length=n at *;generalize tE T=te at *;generalize tN T=tn at *;rw [h3] at TA;clear h3 h4
      go_enter Tryz.func28,Tryz.ntmps28
      go_wp2_with fail;refine TA.out.mono ?_;rintro e w1 ⟨rfl,b1⟩;have N3:=Lib.hid (N2.out w1 b1);clear b1 N2 TA;go_wp2
      go_ret2
      exact N3.out
    ·have N2:=Lib.hid (FIN.out 1 (NO.out (by rintro ⟨_,_,_,h⟩;exact h4 h)) w (Below.refl _ _))
     clear NO YES LL0 LL1 FIN HS0 HT0 HV0 DD TA;rw [h3];clear h3;generalize rdE S T V=a1 at *;generalize rdL S T V P=a2 at *;generalize S.length=n at *;generalize V.length=nv at *;have h5:((nv:Int) != (n:Int))=true:=by simp;omega
     go_enter Tryz.func28,Tryz.ntmps28
     go_wp2
     go_ret2
     exact N2.out
   ·have N2:=Lib.hid (FIN.out 1 (NO.out (by rintro ⟨_,_,h,_⟩;exact h3 h)) w (Below.refl _ _))
    clear NO YES LL0 LL1 FIN HS0 HT0 HV0 DD TA;generalize rdE S T V=a1 at *;generalize rdL S T V P=a2 at *;generalize S.length=n at *;generalize T.length=nt at *;generalize V.length=nv at *;have h5:((nt:Int) != (n:Int))=true:=by simp;omega
    go_enter Tryz.func28,Tryz.ntmps28
    go_wp2
    go_ret2
    exact N2.out
end Go.Proofs.YtpkipilggkbkeaaGreatDoor.Pa
namespace Go.Proofs.YtpkipilggkbkeaaGreatDoor.Fl
open Go.RowKit
open Rw (Rd Ow At)
def RnewOwn (w:World) (p n:Int) (e:Ending) (w':World):Prop:=∃ v,e = .returned (.tuple #[file p v,.int .i64 0])∧Ow K4 w' w.heap.size 96 v (newL p n)∧Below w.heap.size w w'
set_option maxHeartbeats 1000000 in
theorem rnew_own (w:World) (p:Int) (m:Nat) (hp:newP p m):Calls Tryz.prog 38 #[.int .i64 p,.int .i64 m] w (RnewOwn w p m):=by
 have B0:=Lib.hid ((Below.refl w.heap.size w).alloc (Nat.le_refl _) (.cells #[.int .i64 0,.slice none 0 0] 65));have HPN:=Lib.hid hp;obtain ⟨p0,p1,n0,n1⟩:=hp;have HH:=Lib.hid (rhdr_any (w.alloc (.cells #[.int .i64 0,.slice none 0 0] 65)) p m p0 p1 (by omega) (by omega));have NL:Hid (newL p m=hdr p m :: List.replicate m z4):=rfl;unfold rec4 at HH;generalize hdr p m=h at *
 go_enter Tryz.func38,Tryz.ntmps38
 go_wp2_with fail;refine HH.out.mono ?_;rintro e w1 ⟨rfl,b1⟩;have z1:w.heap.size < w1.heap.size:=by have:=b1.size;simp at this;omega
 have B1:=Lib.hid (B0.out.trans (b1.mono B0.out.size));have r0:w1.heap[w.heap.size]? = some (.cells #[.int .i64 0,.slice none 0 0] 65 (0,0)):=(b1.block _ (by simp)).trans (heap_alloc_new w _);have hz:(w1.alloc (.cells #[.int .u8 h.1,.int .u8 h.2.1,.int .u8 h.2.2.1,.int .u8 h.2.2.2] 96)).heap.size=w1.heap.size+1:=by simp
 have N0:NRel w p h (w1.heap.size+1) 0 (.slice (some ⟨w1.heap.size,0,none⟩) 1 1) ((w1.alloc (.cells #[.int .u8 h.1,.int .u8 h.2.1,.int .u8 h.2.2.1,.int .u8 h.2.2.2] 96)).alloc (.cells #[.int .i64 p,.slice (some ⟨w1.heap.size,0,none⟩) 1 1] 65)):=by
  refine ⟨?_,?_,(Ow.lit (K:=K4) w1 (w.heap.size+1) 96 [h] (by omega) (by unfold maxLen;simp)).alloc _,(B1.out.alloc (by omega) _).alloc (by rw [hz];omega) _,by omega⟩
  ·have:=heap_alloc_new (w1.alloc (.cells #[.int .u8 h.1,.int .u8 h.2.1,.int .u8 h.2.2.1,.int .u8 h.2.2.2] 96)) (.cells #[.int .i64 p,.slice (some ⟨w1.heap.size,0,none⟩) 1 1] 65)
   rw [hz] at this;exact this
  ·exact (Below.heap_alloc _ _ _ (by rw [hz];omega)).trans ((Below.heap_alloc _ _ _ z1).trans r0)
 have NR:=Lib.hid N0;clear b1 N0 r0 HH hz;go_wp2;generalize (w1.alloc (.cells #[.int .u8 h.1,.int .u8 h.2.1,.int .u8 h.2.2.1,.int .u8 h.2.2.2] 96)).alloc (.cells #[.int .i64 p,.slice (some ⟨w1.heap.size,0,none⟩) 1 1] 65)=W at *;generalize w1.heap.size+1=g at *;generalize Value.slice (some ⟨w1.heap.size,0,none⟩) 1 1=v0 at *
 go_loopw [7] (fun i wr=>∃ (k:Nat) (v:Value),k≤m∧i = .int .i64 k∧Hid (NRel w p h g k v wr)) (fun i _=>m - (intOf i).toNat)
 case atStart=>exact ⟨0,v0,Nat.zero_le _,rfl,NR⟩
 case round =>
  obtain ⟨k,v,hk,rfl,R⟩:=hrel;obtain ⟨av,cv,ev,_,_⟩:=R.out.own.slice;generalize hL:(h :: List.replicate k z4).length=L at ev;clear hL;have gs:=lt_of_block R.out.row;have c1:wr.cell? ⟨g,1,none⟩=some v:=row_cell R.out.row 1;subst ev
  by_cases hlt:k < m
  ·go_wp2_with (at_builtin;refine Rw.push_far Tryz.underlying63 infoR rfl (by omega) rfl _ _ rfl (w.heap.size+1) _ _ rfl (R.out.own.alloc _) _ z4 rfl ?d1 ?d2 ?d3 ?_)
   case d1 =>
    intro j u hu
    match j,hu with
    | 0,hu=>simp [K4,z4] at hu;subst hu;go_simp
    | 1,hu=>simp [K4,z4] at hu;subst hu;go_simp
    | 2,hu=>simp [K4,z4] at hu;subst hu;go_simp
    | 3,hu=>simp [K4,z4] at hu;subst hu;go_simp
    | j+4,hu=>simp [K4] at hu
   case d2=>simp;omega
   case d3=>have:=R.out.lt;simp;omega
   intro v' w2 o2 b2 f2
   have rr:=f2 g _ _ ((Below.heap_alloc wr _ g gs).trans R.out.row) (by decide);have rs:=f2 w.heap.size _ _ ((Below.heap_alloc wr _ w.heap.size (lt_of_block R.out.res)).trans R.out.res) (by decide);have d1:w2.cell? ⟨g,1,none⟩=some (.slice av L cv):=row_cell rr 1;have e1:=row_frozen rr 1;have N2:Hid (NRel w p h g (k+1) v' (w2.setCell ⟨g,1,none⟩ v')):=by
    have hB:=R.out.bel.size;refine ⟨Rw.heap_setCell_same rr _,(Below.heap_setCell w2 _ _ w.heap.size (by have:=R.out.lt;simp;omega)).trans rs,?_,?_,R.out.lt⟩
    ·have e:(h :: List.replicate k z4) ++ [z4]=h :: List.replicate (k+1) z4:=by rw [List.replicate_succ'];rfl
     rw [← e];exact o2.far (p:=⟨g,1,none⟩) rr (by decide) _
    ·exact (((R.out.bel.alloc hB _).trans (b2.mono (by omega))).setCell (by have:=R.out.lt;simp;omega) _)
   obtain ⟨av',cv',L',rfl⟩:∃ a c L,v' = .slice a L c:=by obtain ⟨a,c,e,_,_⟩:=o2.slice;exact ⟨a,c,_,e⟩
   clear rr rs o2 b2 f2;go_wp2
   go_roundw
   case rel=>exact ⟨k+1,_,by omega,by go_num,N2⟩
   case measure=>simp [intOf];omega
  ·obtain rfl:k=m:=by omega
   have c0:wr.cell? ⟨g,0,none⟩=some (.int .i64 p):=row_cell R.out.row 0;have r0:wr.cell? ⟨w.heap.size,0,none⟩=some (.int .i64 0):=row_cell R.out.res 0;have r1:wr.cell? ⟨w.heap.size,1,none⟩=some (.slice none 0 0):=row_cell R.out.res 1;have s0:=row_frozen R.out.res 0;have s1:=row_frozen R.out.res 1;have E2:Hid (RnewOwn w p k (.returned (.tuple #[file p (.slice av L cv),.int .i64 0])) ((wr.setCell ⟨w.heap.size,0,none⟩ (.int .i64 p)).setCell ⟨w.heap.size,1,none⟩ (.slice av L cv))):=by
    have o1:=R.out.own.far (p:=⟨w.heap.size,0,none⟩) R.out.res (by decide) (.int .i64 p);have rr:=Rw.heap_setCell_same (j:=0) R.out.res (.int .i64 p);refine ⟨_,rfl,?_,(R.out.bel.setCell (Nat.le_refl _) _).setCell (Nat.le_refl _) _⟩;rw [NL.out];exact ((o1.far (p:=⟨w.heap.size,1,none⟩) rr (by decide) _)).low (by omega)
   go_wp2
   (try simp only [Exit.inBlock,Exit.then])
   refine bodyPost_ret (v:=.tuple #[file p (.slice av L cv),.int .i64 0]) ?_ rfl E2.out;rw [results_cell_tmp rfl];go_simp;rfl
end Go.Proofs.YtpkipilggkbkeaaGreatDoor.Fl
namespace Go.Proofs.YtpkipilggkbkeaaGreatDoor.Pa
open Go.RowKit Go.Maps
open Fs (Abs St Rs Only Fx Wf Glob Aw addE addA gV gB get_st GetPost new_any new_st below_new add_any AddPost)
open Rw (Rd Ow At)
open Ro (E5 z5 K5 ent)
open Ck (LL lat RdL rdl_two RowE)
open Fl (R4 z4 K4 rec4 rat goodF okR okL file newL newP row_cell row_frozen rnew_own RnewOwn eq_rec ret_bool)
def h0:R4:=(1,3,165,167)
def la:List R4:=[h0,(7,8,0,0)]
def lb:List R4:=[h0,(9,10,0,0)]
theorem new31:newL 3 (1:Nat) = [h0,z4]:=by decide +kernel
def A1:Abs:=[(1,3,la)]
def B1:Abs:=[(1,3,lb)]
theorem okR_h:okR h0:=⟨⟨by decide,by decide⟩,⟨by decide,by decide⟩,⟨by decide,by decide⟩,by decide,by decide⟩
theorem okR_a:okR (7,8,0,0):=⟨⟨by decide,by decide⟩,⟨by decide,by decide⟩,⟨by decide,by decide⟩,by decide,by decide⟩
def S0:Sts:=[(A1,0),(B1,0)]
def T0:LL:=[[(1,1,1,1,0),(2,2,1,1,0)],[(2,1,1,1,0),(1,2,1,1,0)]]
theorem r_e:rdE S0 T0 [true,true]=0:=by decide +kernel
theorem r_len:(rdL S0 T0 [true,true] []).length=2:=by kernel_rfl
theorem r_1:gV (sat (rdL S0 T0 [true,true] []) 1).1 1 1=(7,10,0,0):=by kernel_rfl
structure Two (w:World) (s1 s2:Nat) (F1 F2:Nat→Prop) (A1 A2:Abs) (W:World):Prop where
 a:Aw w s1 F1 A1 0 W
 b:Aw w s2 F2 A2 0 W
 ap:∀ k,F1 k→¬ F2 k
section
variable {w W W':World} {s1 s2:Nat} {F1 F2:Nat→Prop} {A1 A2 A':Abs}
theorem Two.below (h:Two w s1 s2 F1 F2 A1 A2 W) (b:Below W.heap.size W W'):Two w s1 s2 F1 F2 A1 A2 W':=⟨h.a.below b,h.b.below b,h.ap⟩
theorem Two.step1 (h:Two w s1 s2 F1 F2 A1 A2 W) (st:St W' s1 (Fx F1 W W') A' 0) (o:Only F1 W W'):Two w s1 s2 (Fx F1 W W') F2 A' A2 W' :=
 ⟨h.a.next st o,⟨h.b.st.only (fun k g g'=>h.ap k g' g) o,h.b.lo,(h.a.next st o).bel⟩,fun k g g'=>by
  rcases g with g | ⟨g,_⟩
  ·exact h.ap k g g'
  ·have:=h.b.st.low k g';omega⟩
theorem Two.step2 (h:Two w s1 s2 F1 F2 A1 A2 W) (st:St W' s2 (Fx F2 W W') A' 0) (o:Only F2 W W'):Two w s1 s2 F1 (Fx F2 W W') A1 A' W' :=
 ⟨⟨h.a.st.only h.ap o,h.a.lo,(h.b.next st o).bel⟩,h.b.next st o,fun k g g'=>by
  rcases g' with g' | ⟨g',_⟩
  ·exact h.ap k g g'
  ·have:=h.a.st.low k g;omega⟩
theorem Two.other (h:Two w s1 s2 F1 F2 A1 A2 W) {g:Nat} (hw:w.heap.size≤g) (h1:¬ F1 g) (h2:¬ F2 g) (o:Only (fun k=>k=g) W W'):Two w s1 s2 F1 F2 A1 A2 W' :=
 ⟨⟨h.a.st.only (fun k a e=>h1 (by subst e;exact a)) o,h.a.lo,h.a.bel.trans (o.below h.a.bel.size fun k e=>by subst e;exact hw)⟩,⟨h.b.st.only (fun k a e=>h2 (by subst e;exact a)) o,h.b.lo,h.b.bel.trans (o.below h.b.bel.size fun k e=>by subst e;exact hw)⟩,h.ap⟩
end
theorem two_new (w:World):Two w w.heap.size (w.heap.size+1) (fun k=>k=w.heap.size) (fun k=>k=w.heap.size+1) [] [] ((w.alloc (.cells #[.map none,.int .i64 0] 91)).alloc (.cells #[.map none,.int .i64 0] 91)):=by
 have b1:=below_new w (.cells #[.map none,.int .i64 0] 91);have hz:(w.alloc (.cells #[.map none,.int .i64 0] 91)).heap.size=w.heap.size+1:=by simp
 have n2:=new_st (w.alloc (.cells #[.map none,.int .i64 0] 91));rw [hz] at n2;have b2:=below_new (w.alloc (.cells #[.map none,.int .i64 0] 91)) (.cells #[.map none,.int .i64 0] 91);exact ⟨⟨(new_st w).below b2,fun k e=>by subst e;exact Nat.le_refl _,b1.trans (b2.mono b1.size)⟩,⟨n2,fun k e=>by omega,b1.trans (b2.mono b1.size)⟩,fun k e e'=>by omega⟩
structure Fre (F1 F2:Nat→Prop) (W:World) (B g:Nat):Prop where
 n1:¬ F1 g
 n2:¬ F2 g
 lt:g < W.heap.size
 ge:B≤g
section
variable {F1 F2:Nat→Prop} {W W':World} {B g:Nat} {o:Option Obj}
theorem Fre.step1 (h:Fre F1 F2 W B g) (o:Only F1 W W'):Fre (Fx F1 W W') F2 W' B g:=⟨Fx.not h.n1 h.lt,h.n2,Nat.lt_of_lt_of_le h.lt o.size,h.ge⟩
theorem Fre.step2 (h:Fre F1 F2 W B g) (o:Only F2 W W'):Fre F1 (Fx F2 W W') W' B g:=⟨h.n1,Fx.not h.n2 h.lt,Nat.lt_of_lt_of_le h.lt o.size,h.ge⟩
theorem Fre.grow (h:Fre F1 F2 W B g) (o:W.heap.size≤W'.heap.size):Fre F1 F2 W' B g:=⟨h.n1,h.n2,Nat.lt_of_lt_of_le h.lt o,h.ge⟩
theorem Fre.new {w:World} {s1 s2:Nat} {A1 A2:Abs} (h:Two w s1 s2 F1 F2 A1 A2 W) (hg:W.heap.size≤g) (hl:g < W'.heap.size):Fre F1 F2 W' w.heap.size g :=
 ⟨fun f=>by have:=h.a.st.low _ f;omega,fun f=>by have:=h.b.st.low _ f;omega,hl,by have:=h.a.bel.size;omega⟩
end
theorem own_sto4 {W:World} {B E g cap:Nat} {r:R4} (h:Ow K4 W B E (.slice (some ⟨g,0,none⟩) 2 cap) [r,z4]) (x:R4):Ow K4 (Fl.sto4 W g 4 x) B E (.slice (some ⟨g,0,none⟩) 2 cap) [r,x]:=by
 obtain ⟨x0,x1,x2,x3⟩:=x;have h1:=h.set 1 0 (by simp) (by decide) (.int .u8 x0) (x0,0,0,0) rfl;have h2:=Ow.set h1 1 1 (by simp) (by decide) (.int .u8 x1) (x0,x1,0,0) rfl;have h3:=Ow.set h2 1 2 (by simp) (by decide) (.int .u8 x2) (x0,x1,x2,0) rfl;have h4:=Ow.set h3 1 3 (by simp) (by decide) (.int .u8 x3) (x0,x1,x2,x3) rfl;exact h4
theorem only_sto4 (W:World) (g k:Nat) (x:R4):Only (fun j=>j=g) W (Fl.sto4 W g k x) :=
 (((Only.set (fun j=>j=g) W (a:=⟨g,k,none⟩) rfl _).trans (Only.set (fun j=>j=g) _ (a:=⟨g,k+1,none⟩) rfl _) fun _ _ h=>h).trans (Only.set (fun j=>j=g) _ (a:=⟨g,k+2,none⟩) rfl _) fun _ _ h=>h).trans (Only.set (fun j=>j=g) _ (a:=⟨g,k+3,none⟩) rfl _) fun _ _ h=>h
end Go.Proofs.YtpkipilggkbkeaaGreatDoor.Pa
