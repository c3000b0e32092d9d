import Derived.Test.YtljnkaodhfnbbaaGreatDoorPd4
import Derived.Test.YtljnkaodhfnbbaaGreatDoorPd5
import Derived.Test.YtljnkaodhfnbbaaGreatDoorPd2
import Derived.Deep.Cut
import Derived.Test.YtljnkaodhfnbbaaGreatDoorPd6
import Derived.Test.YtljnkaodhfnbbaaGreatDoorPd3
import Derived.Maps.OwnOps
import Derived.Maps.RangeWalk
import Derived.Test.YtljnkaodhfnbbaaGreatDoorPd1
import Derived.WalkKit
set_option maxRecDepth 100000
namespace Go.Proofs.YtljnkaodhfnbbaaGreatDoor.Pa
open Go.RowKit Go.Maps
open Fs (Abs St Only Fx Wf gB gV GetPost get_st OkA)
open Rw (Rd Ow At)
open Ro (E5 z5 eat K5 at5 okE okB ok_yes ent good_any okE_bounds)
open Ck (LL lat sN sE tE RdL who_cases sender_any WhoPost snd snd_is)
open Fl (R4 z4 rec4 okR arr4 row_cell row_frozen sto4 sto4_row sto4_other sto4_below sto4_size)
attribute [local irreducible] Sd.wpSd wpQuiet Sf.wpSf
theorem sender_is {T:LL} (ok:tE T=0) {s:Int} (h:0≤sN s T):∃ n:Nat,sN s T=n∧n < T.length∧sE s T∈lat T n∧okE (sE s T)∧(sE s T).1=1∧(sE s T).2.1=s:=by
 rcases who_cases (snd s) T with ⟨n,x,hn,hx,hp,_,e1,e2⟩ | ⟨_,e1,_⟩
 ·have e1':sN s T=n:=e1
  have e2':sE s T=x:=e2;obtain ⟨k1,k2⟩:=snd_is hp;exact ⟨n,e1',hn,by rw [e2'];exact hx,by rw [e2'];exact (tab_each ok hn x hx).1,by rw [e2'];exact k1,by rw [e2'];exact k2⟩
 ·have e1':sN s T = -1:=e1
  omega
theorem gV_ok {A:Abs} (hA:OkA A) (f r:Int):okR (gV A f r):=by
 unfold gV
 split
 ·exact Fl.okR_z
 ·rename_i e he
  split
  ·exact Fl.okR_at (hA.find he).2.2.1 _
  ·exact Fl.okR_z
theorem gV_no {A:Abs} {f r:Int} (h:gB A f r=false):gV A f r=z4:=by
 unfold gB at h;unfold gV
 split
 ·rfl
 ·rename_i e he
  rw [he] at h;simp only [decide_eq_false_iff_not] at h;rw [if_neg h]
theorem get_has {w:World} {s:Nat} {x:Abs×Int} (H:Has w s x) {n:Int} (hn:Wf n) (r:Int):Calls Tryz.prog 31 #[.pointer (some ⟨s,0,none⟩),.int .i64 n,.int .i64 r] w (GetPost w (gV x.1 n r) (gB x.1 n r)):=by
 obtain ⟨F,S⟩:=H;exact get_st S hn r
theorem arr4_at (v:R4) {j:Nat} (hj:j < 4):(arr4 v)[j]? = some (.int .u8 (rb v j)):=by
 obtain rfl | rfl | rfl | rfl:j=0∨j=1∨j=2∨j=3:=by omega
 all_goals rfl
def SentPost (w:World) (n x:Int) (b:Bool) (e:Ending) (w':World):Prop:=e = .returned (.tuple #[.int .i64 n,.int .u8 x,.bool b])∧Below w.heap.size w w'
theorem sent_no {S:Sts} {T:LL} {V:List Bool} {s:Int} {w w':World} (h:snB S T V s=false) (b:Below w.heap.size w w'):SentPost w (sbN S T V s) (sbX S T V s) (snB S T V s) (.returned (.tuple #[.int .i64 (-1),.int .u8 0,.bool false])) w':=by
 refine ⟨?_,b⟩;unfold sbN sbX;rw [h]
 rfl
theorem sent_yes {S:Sts} {T:LL} {V:List Bool} {s:Int} {w w':World} (h:snB S T V s=true) (b:Below w.heap.size w w'):SentPost w (sbN S T V s) (sbX S T V s) (snB S T V s) (.returned (.tuple #[.int .i64 (sN s T),.int .u8 (snX S T s),.bool true])) w':=by
 refine ⟨?_,b⟩;unfold sbN sbX;rw [h]
 rfl
set_option maxHeartbeats 400000 in
theorem sent_any {w:World} {vs vt vl:Value} {S:Sts} {T:LL} {V:List Bool} (H:Ns w vs vt vl S T V) (s:Int):Calls Tryz.prog 147 #[vs,vt,vl,.int .i64 s] w (SentPost w (sbN S T V s) (sbX S T V s) (snB S T V s)):=by
 have SA:=Lib.hid (sender_any w vt T s H.tb);unfold WhoPost at SA;have NO:=Lib.hid (fun h w' b=>sent_no (S:=S) (T:=T) (V:=V) (s:=s) (w:=w) (w':=w') h b);have YES:=Lib.hid (fun h w' b=>sent_yes (S:=S) (T:=T) (V:=V) (s:=s) (w:=w) (w':=w') h b);have HH:=Lib.hid H;obtain ⟨sa,cs,rfl,_⟩:=H.st.slice;obtain ⟨al,cl,el,_⟩:=H.lv.slice;rw [H.ll] at el;subst el
 by_cases h0:0≤sN s T
 ·obtain ⟨n,hn,hlt,hmem,oke,hk1,hk2⟩:=sender_is H.ok h0
  have GA:=Lib.hid (fun w=>good_any w (sE s T));rw [ok_yes oke] at GA;obtain ⟨f0,r0,y0⟩:=(okE_bounds oke).2.2;have hnS:n < S.length:=by rw [← H.lt];exact hlt
  have hnV:n < V.length:=by rw [H.ll];exact hnS
  obtain ⟨b,off,cap,sp,e1,cS,hS⟩:=H.st.one hnS;injection e1 with e1 _ e2;subst e1 e2;obtain ⟨bl,ol,el2,AL⟩:∃ bl ol,al=some ⟨bl,ol,none⟩∧At KB w bl ol V:=by
   obtain ⟨a',c',e',_,_,h3⟩:=H.lv;injection e' with q1 _ q2;subst q1;exact h3 (by omega)
  subst el2;have cV:=atB AL hnV
  have SB:Hid (snB S T V s=(vat V n && gB (sat S n).1 (sE s T).2.2.1 (sE s T).2.2.2.1)):=Lib.hid (by
   unfold snB
   rw [hn,decide_eq_true (Int.natCast_nonneg n),Bool.true_and])
  have SX:Hid (snX S T s=rb (gV (sat S n).1 (sE s T).2.2.1 (sE s T).2.2.2.1) (sE s T).2.2.2.2):=Lib.hid (by
   unfold snX
   rw [hn])
  have ev:V.getD n false=vat V n:=rfl;rw [ev] at cV;rw [hn] at YES SA;have WF:=Lib.hid (wf_of (n:=(sE s T).2.2.1) (by omega));have SG:Hid (∀ W,Below w.heap.size w W→Calls Tryz.prog 31 #[.pointer (some ⟨sp,0,none⟩),.int .i64 (sE s T).2.2.1,.int .i64 (sE s T).2.2.2.1] W (GetPost W (gV (sat S n).1 (sE s T).2.2.1 (sE s T).2.2.2.1) (gB (sat S n).1 (sE s T).2.2.1 (sE s T).2.2.2.1))):=Lib.hid (fun W b=>get_has (hS.below b) WF.out _);have GN:Hid (gB (sat S n).1 (sE s T).2.2.1 (sE s T).2.2.2.1=false→gV (sat S n).1 (sE s T).2.2.1 (sE s T).2.2.2.1=z4):=Lib.hid gV_no;clear hmem hS HH H h0 hk1 hk2 hlt oke hn;unfold GetPost at SG;generalize gV (sat S n).1 (sE s T).2.2.1 (sE s T).2.2.2.1=gv at *;generalize gB (sat S n).1 (sE s T).2.2.1 (sE s T).2.2.2.1=gb at *;unfold ent at SA GA;generalize snX S T s=X at *;generalize sE s T=x at *;obtain ⟨q,s',f,r,y⟩:=x;simp only at y0 SX SA GA SG WF GN;obtain ⟨j,rfl⟩:∃ j:Nat,y=j:=⟨y.toNat,by omega⟩;have hj:j < 4:=by omega
  clear f0 r0 y0;generalize snB S T V s=a3 at *;generalize sbN S T V s=a1 at *;generalize sbX S T V s=a2 at *;generalize S.length=N at *;have lS:b < w.heap.size:=World.block_lt_of_cell? _ _ cS;have lV:bl < w.heap.size:=World.block_lt_of_cell? _ _ cV;have CS:=Lib.hid cS;have CV:=Lib.hid cV;clear cS AL hnV
  go_enter Tryz.func147,Tryz.ntmps147
  go_wp2_with fail;refine SA.out.mono ?_;rintro e w1 ⟨rfl,b1⟩;have X1:Hid ((w1.alloc (.cells #[.int .i64 q,.int .i64 s',.int .i64 f,.int .i64 r,.int .i64 (j:Int)] 87)).heap[w1.heap.size]? = some (.cells #[.int .i64 q,.int .i64 s',.int .i64 f,.int .i64 r,.int .i64 (j:Int)] 87 (0,0))):=Lib.hid (heap_alloc_new w1 _);have B1:=Lib.hid (b1.alloc b1.size (.cells #[.int .i64 q,.int .i64 s',.int .i64 f,.int .i64 r,.int .i64 (j:Int)] 87));have G1:=b1.size;go_upto_region 2 with fail;generalize (w1.alloc (.cells #[.int .i64 q,.int .i64 s',.int .i64 f,.int .i64 r,.int .i64 (j:Int)] 87))=W at *;clear b1 SA;generalize w1.heap.size=g at *;have cV:=(B1.out.cell lV).trans CV.out;have x0:W.cell? ⟨g,0,none⟩=some (.int .i64 q):=row_cell X1.out 0;have x1:W.cell? ⟨g,1,none⟩=some (.int .i64 s'):=row_cell X1.out 1;have x2:W.cell? ⟨g,2,none⟩=some (.int .i64 f):=row_cell X1.out 2;have x3:W.cell? ⟨g,3,none⟩=some (.int .i64 r):=row_cell X1.out 3;have x4:W.cell? ⟨g,4,none⟩=some (.int .i64 (j:Int)):=row_cell X1.out 4
  cases hv:vat V n with
  | false =>
    rw [hv] at cV;have N2:=Lib.hid (NO.out (by rw [SB.out,hv];rfl) W B1.out);clear NO YES SB SX;go_wp2
    go_ret3
    exact N2.out
  | true =>
    rw [hv] at cV;go_wp2_with fail;refine (GA.out _).mono ?_;rintro e w2 ⟨rfl,b2⟩;have X2:=Lib.hid ((b2.block _ (lt_of_block X1.out)).trans X1.out);have B2:=Lib.hid (B1.out.trans (b2.mono B1.out.size));clear b2 GA X1 B1 cV x0 x1 x2 x3 x4;go_upto_region 4 with fail;have cS:=Sd.cell_by ((B2.out.cell lS).trans CS.out);have x2:=Sd.cell_by (show w2.cell? ⟨g,2,none⟩=some (.int .i64 f) from row_cell X2.out 2);have x3:=Sd.cell_by (show w2.cell? ⟨g,3,none⟩=some (.int .i64 r) from row_cell X2.out 3);refine Sf.start [(0,0),(0,1),(0,2),(0,3),(0,4),(0,5),(0,6),(0,7),(1,8),(0,9),(0,10),(0,11),(2,12),(1,13),(0,14)] [⟨12,12,#[.int .u8 0,.int .u8 0,.int .u8 0,.int .u8 0],42⟩] (by kernel_rfl) (by kernel_rfl) (by kernel_rfl) (by decide) (by decide) ?_ ?_ ?_
    ·simp
    ·intro f hf
     simp only [List.mem_cons,List.not_mem_nil,or_false] at hf;subst hf;exact ⟨_,rfl,rfl,rfl,fun ρ w=>by go_simp⟩
    dsimp only [Sf.picks,List.getElem?_cons_succ,List.getElem?_cons_zero];have BW:=Lib.hid ((Below.refl w2.heap.size w2).drew);unfold ptr at cS
    repeat (refine Sf.lit (fun xs=>?_);simp only [Sf.fill,List.foldl_cons,List.foldl_nil];quiet_step (fail);refine wpQuiet_nil ?_)
    refine Sf.call (fun xs w3 hb hc=>⟨by rfl,fun K hK=>?_⟩);have B3:=Lib.hid (BW.out.trans (hb.mono BW.out.size));clear hb hc BW;simp only [Sf.fill,List.foldl_cons,List.foldl_nil];go_simp;refine (SG.out w3 (B2.out.trans (B3.out.mono B2.out.size))).mono ?_;rintro e4 w4 ⟨rfl,b4⟩;have B4:=Lib.hid (B3.out.trans (b4.mono B3.out.size));refine hK _ _ (Sd.Cl.of B4.out) b4.size (fun _=>b4) ?_;clear hK K b4 B3 SG;unfold rec4
    repeat (refine Sf.lit (fun xs=>?_);simp only [Sf.fill,List.foldl_cons,List.foldl_nil];quiet_step (fail);refine wpQuiet_nil ?_)
    refine Sf.meet (fun g7 w7 hb hc row n7 hH hL=>?_);have B7:=Lib.hid (B4.out.trans (hb.mono B4.out.size));have R7:Hid (w7.heap[g7]? = some (.cells (arr4 z4) 42 (0,0))):=Lib.hid row;clear hb hc row hH hL B4
    repeat (refine Sf.lit (fun xs=>?_);simp only [Sf.fill,List.foldl_nil];quiet_step (fail);refine wpQuiet_nil ?_)
    refine Sf.call (fun xs w9 hb hc=>⟨by rfl,fun K hK=>?_⟩);have B9:=Lib.hid (B7.out.trans (hb.mono B7.out.size));have R9:=(hb.block _ (lt_of_block R7.out)).trans R7.out;have d0:w9.cell? ⟨g7,0,none⟩=some (.int .u8 0):=row_cell R9 0;have d1:w9.cell? ⟨g7,1,none⟩=some (.int .u8 0):=row_cell R9 1;have d2:w9.cell? ⟨g7,2,none⟩=some (.int .u8 0):=row_cell R9 2;have d3:w9.cell? ⟨g7,3,none⟩=some (.int .u8 0):=row_cell R9 3;have f0:w9.frozen? ⟨g7,0,none⟩=false:=row_frozen R9 0;have f1:w9.frozen? ⟨g7,1,none⟩=false:=row_frozen R9 1;have f2:w9.frozen? ⟨g7,2,none⟩=false:=row_frozen R9 2;have f3:w9.frozen? ⟨g7,3,none⟩=false:=row_frozen R9 3;have RA:=sto4_row R9 gv;have BA:=sto4_below (o:=0) (r:=gv) B9.out n7;have hsz:=sto4_size w9 g7 0 gv;clear hb hc B7 R7 R9;simp only [Sf.fill,List.foldl_nil];go_simp;refine hK _ _ (Sd.Cl.of BA) (by rw [← hsz];exact Nat.le_refl _) (fun h=>absurd rfl h) ?_;clear hK K d0 d1 d2 d3 f0 f1 f2 f3 hsz
    show Sf.wpSf _ _ _ _ _ _ _ _ _ _ (sto4 w9 g7 0 gv)
    have B10:=Lib.hid (B2.out.trans (BA.mono B2.out.size));have X10:=Lib.hid ((BA.block _ (lt_of_block X2.out)).trans X2.out);have R10:=Lib.hid RA;clear BA RA cS x2 x3 B9 B2 X2 CS CV n7;generalize sto4 w9 g7 0 gv=wA at *
    repeat (refine Sf.lit (fun xs=>?_);simp only [Sf.fill,List.foldl_nil];quiet_step (fail);refine wpQuiet_nil ?_)
    refine Sf.done (fun wB hb hc=>?_);have BB:=Lib.hid (B10.out.trans (hb.mono B10.out.size));have XB:=Lib.hid ((hb.block _ (lt_of_block X10.out)).trans X10.out);have RB:=Lib.hid ((hb.block _ (lt_of_block R10.out)).trans R10.out);clear hb hc B10 X10 R10
    cases hb:gb with
    | false =>
      have N2:=Lib.hid (NO.out (by rw [SB.out,hv,hb];rfl) wB BB.out);clear NO YES SB SX;go_wp2
      go_ret3
      exact N2.out
    | true =>
      have N2:=Lib.hid (YES.out (by rw [SB.out,hv,hb];rfl) wB.drew (BB.out.trans ((Below.refl _ _).drew)));rw [SX.out] at N2;clear NO YES SB SX GN;go_upto_region 7 with fail;have x4:=Sd.cell_by (show wB.cell? ⟨g,4,none⟩=some (.int .i64 (j:Int)) from row_cell XB.out 4);have rj:=Sd.cell_by ((row_cell RB.out j).trans (arr4_at gv hj));obtain rfl | rfl | rfl | rfl:j=0∨j=1∨j=2∨j=3:=by omega
      all_goals
       refine Sd.start [(false,0),(false,1),(false,2),(false,3),(false,4),(false,5),(false,6),(false,7)] (by kernel_rfl) (by kernel_rfl) (by kernel_rfl) ?_;dsimp only [Sd.picks,List.getElem?_cons_succ,List.getElem?_cons_zero]
       repeat (refine Sd.lit ?_;quiet_step (fail);refine wpQuiet_nil ?_)
       refine Sd.done ?_;clear x4 rj;go_wp2
       go_ret3
       exact N2.out
 ·have SBF:snB S T V s=false:=by unfold snB;rw [decide_eq_false h0];rfl
  have N2:=Lib.hid (NO.out SBF);clear NO YES SBF HH H;generalize sbN S T V s=a1 at *;generalize sbX S T V s=a2 at *;generalize snB S T V s=a3 at *;have d0:decide (sN s T < 0)=true:=decide_eq_true (by omega);generalize sN s T=m at *;generalize sE s T=x at *;unfold ent at SA
  go_enter Tryz.func147,Tryz.ntmps147
  go_wp2_with fail;refine SA.out.mono ?_;rintro e w1 ⟨rfl,b1⟩;have B1:=Lib.hid (b1.alloc b1.size (.cells #[.int .i64 x.1,.int .i64 x.2.1,.int .i64 x.2.2.1,.int .i64 x.2.2.2.1,.int .i64 x.2.2.2.2] 87));have hm0:m < 0:=by omega
  clear b1 SA;go_wp2
  go_ret3
  exact N2.out _ B1.out
end Go.Proofs.YtljnkaodhfnbbaaGreatDoor.Pa
namespace Go.Proofs.YtljnkaodhfnbbaaGreatDoor.Bu
open Go.RowKit
open Sp (S2 fr tp)
open Wi (Plain PlainOf Low lowB FallV)
open Sa (heard)
open Ck (LL lat sN sE tE)
open Pa (Sts Hr sat vat snB snX sbN frF hrB hrV hr sender_is sq sq1 tn lowF)
open Ua (frm tb te)
instance:Inhabited Osc:=⟨⟨0,fun _=>0,fun _=>0⟩⟩
def osc (O:List Osc) (i:Int):Osc:=O.getD i.toNat default
def frs (S:Sts) (T:LL) (V:List Bool) (P:List (Int×Int)) (O:List Osc):Frs:=fun k=>if snB S T V k=true then some (osc O (sN k T),frF S T V P k) else none
theorem sq_zero_bit (P:List (Int×Int)) (s:Int) (F:Nat→Bool):sq P s F P.length 0=F 0:=by
 unfold sq;rw [List.take_length]
 induction P generalizing F with
 | nil=>rfl
 | cons x r ih =>
   rw [List.foldl_cons,ih];unfold sq1
   split
   ·rfl
   ·rfl
theorem frF_zero (S:Sts) (T:LL) (V:List Bool) (P:List (Int×Int)) (s:Int):frF S T V P s 0=false:=by
 unfold frF
 split
 ·rw [sq_zero_bit];rfl
 ·rfl
section
variable {S:Sts} {T:LL} {V:List Bool} {P:List (Int×Int)} {O:List Osc}
theorem frs_yes {k:Nat} (h:snB S T V k=true):frs S T V P O k=some (osc O (sN k T),frF S T V P k):=if_pos h
theorem frs_no {k:Nat} (h:snB S T V k=false):frs S T V P O k=none:=if_neg (by rw [h];exact Bool.false_ne_true)
theorem snB_is {k:Nat} (h:snB S T V k=true):0≤sN k T:=by
 unfold snB at h;simp only [Bool.and_eq_true,decide_eq_true_eq] at h;exact h.1.1
theorem osc_calm (hO:∀ o∈O,o.calm) {i:Nat} (hi:i < O.length):(osc O i).calm:=by
 unfold osc;rw [Int.toNat_natCast,List.getD_eq_getElem?_getD,List.getElem?_eq_getElem hi];exact hO _ (List.getElem_mem hi)
theorem frs_fit (ok:tE T=0) (hl:O.length=T.length) (hO:∀ o∈O,o.calm):Fit (frs S T V P O):=by
 refine ⟨fun k o F e=>?_,fun k o F e=>?_⟩
 all_goals
  cases hs:snB S T V k with
  | false=>rw [frs_no hs] at e;cases e
  | true =>
    rw [frs_yes hs] at e;injection e with e;injection e with e1 e2;subst e1 e2
    first
     | exact frF_zero S T V P k
     | (obtain ⟨n,en,hn,_⟩:=sender_is ok (snB_is hs)
        rw [en]
        exact osc_calm hO (by omega))
end
theorem bad_congr {F G:Nat→Bool} (h:∀ i,i < 11→F i=G i):Ua.bad F=Ua.bad G:=by unfold Ua.bad;rw [h 0 (by omega),h 10 (by omega)]
theorem tb_congr {F G:Nat→Bool} (h:∀ i,i < 11→F i=G i):tb F=tb G:=by unfold tb;rw [bad_congr h,Ua.val_congr 8 fun i _ hi=>h i (by omega)]
theorem tp_congr {F G:Nat→Bool} (h:∀ i,i < 11→F i=G i):Ua.tp F=Ua.tp G:=by unfold Ua.tp;rw [bad_congr h,Ua.par_congr 9 fun i _ hi=>h i (by omega)]
theorem te_congr {F G:Nat→Bool} (h:∀ i,i < 11→F i=G i):te F=te G:=by unfold te;rw [bad_congr h]
noncomputable def lisV (x l:List S2) (r:Osc) (f t:Int):Int×Bool×Int :=
 if (FallV x f t).2 then (tb (heard (lowB l) (Tk.Glo r.A r.R r.n) (Tk.Loc r.A r.R r.n (FallV x f t).1)),Ua.tp (heard (lowB l) (Tk.Glo r.A r.R r.n) (Tk.Loc r.A r.R r.n (FallV x f t).1)),te (heard (lowB l) (Tk.Glo r.A r.R r.n) (Tk.Loc r.A r.R r.n (FallV x f t).1))) else (0,false,3)
noncomputable def lisS (x l:List S2) (r:Osc) (s:Int):Int×Bool×Int:=lisV x l r (r.g (224 * s - 20)) (r.g (224 * s+20))
noncomputable def lis (x l:List S2) (r:Osc):Hr:=fun s=>if 1≤s∧s≤16∧(lisS x l r s).2.2=0∧(lisS x l r s).2.1=false then some (lisS x l r s).1 else none
section
variable {S:Sts} {T:LL} {V:List Bool} {P:List (Int×Int)} {O:List Osc} {x l:List S2} {r:Osc}
theorem lis_slot (ok:tE T=0) (hl:O.length=T.length) (hO:∀ o∈O,o.calm) (hx:PlainOf l x) (hL:∀ u,Low l u↔LowL (frs S T V P O) u) (hr':r.calm) {k:Nat} (h1:1≤k) (h2:k≤16) :
 lisS x l r k=if snB S T V k=true then (tb (frF S T V P k),Ua.tp (frF S T V P k),te (frF S T V P k)) else (0,false,3):=by
 have F:=frs_fit (S:=S) (V:=V) (P:=P) ok hl hO;have hX:∀ u,Low x u↔LowL (frs S T V P O) u:=fun u=>(hx.2 u).trans (hL u)
 cases hs:snB S T V k with
 | true =>
   have e:=frs_yes (P:=P) (O:=O) hs;have q:=fall_some F hx.1 hX hr' h1 h2 e;have g:=fun i hi=>heard_bus F hL hr' h1 h2 e (i:=i) hi;unfold lisS lisV;rw [q];simp only [if_true];rw [tb_congr g,tp_congr g,te_congr g]
 | false =>
   have q:=fall_none F hx.1 hX hr' h1 h2 (frs_no (P:=P) (O:=O) hs);unfold lisS lisV;rw [q]
   rfl
theorem lis_is (ok:tE T=0) (hl:O.length=T.length) (hO:∀ o∈O,o.calm) (hx:PlainOf l x) (hL:∀ u,Low l u↔LowL (frs S T V P O) u) (hr':r.calm):lis x l r=hr S T V P:=funext fun s=>by
 unfold lis hr
 by_cases hb:1≤s∧s≤16
 ·obtain ⟨k,rfl⟩:∃ k:Nat,s=k:=⟨s.toNat,by omega⟩
  rw [lis_slot ok hl hO hx hL hr' (k:=k) (by omega) (by omega)]
  cases hs:snB S T V k with
  | false =>
    have hB:hrB S T V P k=false:=by unfold hrB;rw [hs];rfl
    rw [hB]
    simp
  | true =>
    simp only [if_true];have hB:hrB S T V P k=(decide (te (frF S T V P k)=0) && !Ua.tp (frF S T V P k)):=by unfold hrB;rw [hs];rfl
    by_cases q:te (frF S T V P k)=0∧Ua.tp (frF S T V P k)=false
    ·have hT:hrB S T V P k=true:=by rw [hB,decide_eq_true q.1,q.2];rfl
     rw [if_pos ⟨hb.1,hb.2,q.1,q.2⟩,if_pos ⟨hb.1,hb.2,hT⟩];unfold hrV;rw [if_pos hT]
    ·rw [if_neg fun h=>q ⟨h.2.2.1,h.2.2.2⟩,if_neg fun h=>by
      have:=h.2.2;rw [hB] at this;simp only [Bool.and_eq_true,decide_eq_true_eq,Bool.not_eq_true'] at this
      exact q this]
 ·rw [if_neg fun h=>hb ⟨h.1,h.2.1⟩,if_neg fun h=>hb ⟨h.1,h.2.1⟩]
end
def LowJ (S:Sts) (T:LL) (V:List Bool) (P:List (Int×Int)) (O:List Osc) (j:Int) (u:Int):Prop:=∃ k:Nat,1≤k∧k≤16∧sbN S T V k=j∧LowK (frs S T V P O) k u
section
variable {S:Sts} {T:LL} {V:List Bool} {P:List (Int×Int)} {O:List Osc}
theorem lowL_iff (ok:tE T=0) {u:Int} : LowL (frs S T V P O) u↔∃ j:Nat,j < T.length∧LowJ S T V P O j u:=by
 constructor
 ·rintro ⟨k,h1,h2,h⟩
  obtain ⟨o,F,e⟩:=lowK_ex h;have hs:snB S T V k=true:=by
   rcases q:snB S T V k with _ | _
   ·rw [frs_no q] at e;cases e
   ·rfl
  obtain ⟨n,en,hn,_⟩:=sender_is ok (snB_is hs);exact ⟨n,hn,k,h1,h2,by unfold sbN;rw [if_pos hs,en],h⟩
 ·rintro ⟨j,_,k,h1,h2,_,h⟩
  exact ⟨k,h1,h2,h⟩
end
end Go.Proofs.YtljnkaodhfnbbaaGreatDoor.Bu
namespace Go.Proofs.YtljnkaodhfnbbaaGreatDoor.Pa
open Go.RowKit Go.Maps
open Fs (Wf law keyI Rh)
open Rw (Rd Ow At)
open Fl (row_cell row_frozen)
open Ro (E5 z5 eat K5 at5 okE okB ok_yes ent good_any okE_bounds)
attribute [local irreducible] Sd.wpSd wpQuiet
structure RcI (w:World) (t:List E5) (k:Nat) (N:Nat) (vs:Int→Int→Value) (D:DataW Value) (wr:World):Prop where
 gm:Gm wr w.heap.size N (t.take k) vs D
 le:N≤k
 bel:Below w.heap.size w wr
theorem RcI.below {w:World} {t:List E5} {k N:Nat} {vs:Int→Int→Value} {D:DataW Value} {wr wr':World} (h:Hid (RcI w t k N vs D wr)) (b:Below wr.heap.size wr wr'):Hid (RcI w t k N vs D wr'):=⟨h.out.gm.below b,h.out.le,h.out.bel.trans (b.mono h.out.bel.size)⟩
def RecdPost (w:World) (t:List E5) (e:Ending) (w':World):Prop:=∃ b N vs D,e = .returned (.map (some b))∧Gm w' b N t vs D∧w.heap.size≤b∧N≤t.length∧Below w.heap.size w w'
theorem Gm.to {w:World} {b N:Nat} {t t':List E5} {vs:Int→Int→Value} {D:DataW Value} (h:Gm w b N t vs D) (e:∀ f r,grp t f r=grp t' f r):Gm w b N t' vs D :=
 ⟨h.own,fun f r hf hr=>by rw [← e f r];exact h.has f r hf hr,fun f r hf hr hg=>h.val f r hf hr (by rw [e f r];exact hg),fun f r hg=>h.nil f r (by rw [e f r];exact hg),fun f r=>by rw [← e f r];exact h.row f r,h.far⟩
set_option maxHeartbeats 400000 in
theorem received_any (w:World) (v:Value) (t:List E5) (R:Rd K5 w v t) (ok:∀ x∈t,okE x) (hl:t.length≤1000):Calls Tryz.prog 144 #[v] w (RecdPost w t):=by
 have OK:Hid (∀ k,k < t.length→okE (eat t k)):=fun k hk=>ok _ (Ro.eat_mem hk);have hmm:=@run_makeMap Tryz.prog;have G0:Hid (RcI w t 0 0 (fun _ _=>.slice none 0 0) (.map []) (w.alloc (.map #[] 0))):=⟨gm_new w,Nat.le_refl _,(Below.refl w.heap.size w).alloc (Nat.le_refl _) _⟩;obtain ⟨a,cap,rfl,_,hm,hA⟩:=R;have HA:=Lib.hid hA;clear hA ok;generalize hn:t.length=n at *;have HN:=Lib.hid hn;clear hn
 go_enter Tryz.func144,Tryz.ntmps144
 go_wp2;clear hmm
 go_loopw [10] (fun i wr=>∃ (k:Nat) (N:Nat) (vs:Int→Int→Value) (D:DataW Value),k≤n∧i = .int .i64 k∧Hid (RcI w t k N vs D wr)) (fun i _=>n - (intOf i).toNat)
 case atStart=>exact ⟨0,0,_,_,Nat.zero_le _,rfl,G0⟩
 case round =>
  obtain ⟨k,N,vs,D,hk,rfl,I⟩:=hrel;clear G0
  by_cases hlt:k < n
  ·obtain ⟨b,off,rfl,A⟩:=HA.out (by omega)
   obtain ⟨c0,c1,c2,c3,c4⟩:=at5 (A.below I.out.bel) k (by have:=HN.out;omega);rw [show t.getD k z5=eat t k from rfl] at c0 c1 c2 c3 c4;have oke:=OK.out k (by have:=HN.out;omega);have TK:=Lib.hid (take_eat (t:=t) (j:=k) (by have:=HN.out;omega));have NO:Hid ((eat t k).1≠2→Hid (RcI w t (k+1) N vs D wr)):=fun h=>⟨I.out.gm.to (fun f r=>by rw [TK.out,grp_snoc,if_neg];simp [mt,h]),by have:=I.out.le;omega,I.out.bel⟩;clear A OK;generalize eat t k=x at *;obtain ⟨q,s,f,r,y⟩:=x;simp only at c0 c1 c2 c3 c4 NO;have GA:=Lib.hid (fun w=>good_any w (q,s,f,r,y));rw [ok_yes oke] at GA;unfold ent at GA;simp only at GA;have OKE:=Lib.hid oke;clear oke
   by_cases h2:q=2
   ·clear NO
    subst h2;obtain ⟨_,_,⟨f0,f1⟩,⟨r0,r1⟩,_⟩:=okE_bounds OKE.out;simp only at f0 f1 r0 r1;have WF:=Lib.hid (wf_of (n:=f) ⟨f0,by omega⟩);have WR:=Lib.hid (wf_of (n:=r) ⟨r0,by omega⟩);clear f0 f1 r0 r1;go_wp2_with fail;refine (GA.out _).mono ?_;rintro e w1 ⟨rfl,b1⟩;have X1:Hid (w1.heap[wr.heap.size]? = some (.cells #[.int .i64 2,.int .i64 s,.int .i64 f,.int .i64 r,.int .i64 y] 87 (0,0))):=Lib.hid ((b1.block _ (by simp)).trans (heap_alloc_new wr _));have B1:Hid (Below wr.heap.size wr w1):=Lib.hid (((Below.refl wr.heap.size wr).alloc (Nat.le_refl _) _).trans (b1.mono (by simp)));have x2:w1.cell? ⟨wr.heap.size,2,none⟩=some (.int .i64 f):=row_cell X1.out 2;have x3:w1.cell? ⟨wr.heap.size,3,none⟩=some (.int .i64 r):=row_cell X1.out 3;clear b1 c0 c1 c2 c3 c4 GA;go_upto_region 7 with fail;have P2:Hid ((w1.alloc (.cells #[.int .i64 f,.int .i64 r] 248)).heap[w1.heap.size]? = some (.cells #[.int .i64 f,.int .i64 r] 248 (0,0))):=Lib.hid (heap_alloc_new w1 _);have B2:Hid (Below w1.heap.size w1 (w1.alloc (.cells #[.int .i64 f,.int .i64 r] 248))):=Lib.hid ((Below.refl w1.heap.size w1).alloc (Nat.le_refl _) _);clear x2 x3;generalize (w1.alloc (.cells #[.int .i64 f,.int .i64 r] 248))=W at *;have X2:=Lib.hid ((B2.out.block _ (lt_of_block X1.out)).trans X1.out);have GB:=Lib.hid (B1.out.trans (B2.out.mono B1.out.size));have hgw:w1.heap.size < W.heap.size:=lt_of_block P2.out;generalize w1.heap.size=g2 at *;clear B1 B2 X1;have p0:W.cell? ⟨g2,0,none⟩=some (.int .i64 f):=row_cell P2.out 0;have p1:W.cell? ⟨g2,1,none⟩=some (.int .i64 r):=row_cell P2.out 1;have x0:W.cell? ⟨wr.heap.size,0,none⟩=some (.int .i64 2):=row_cell X2.out 0;have x1:W.cell? ⟨wr.heap.size,1,none⟩=some (.int .i64 s):=row_cell X2.out 1;have x2:W.cell? ⟨wr.heap.size,2,none⟩=some (.int .i64 f):=row_cell X2.out 2;have x3:W.cell? ⟨wr.heap.size,3,none⟩=some (.int .i64 r):=row_cell X2.out 3;have x4:W.cell? ⟨wr.heap.size,4,none⟩=some (.int .i64 y):=row_cell X2.out 4;have bL:=(Below.refl W.heap.size W).alloc (Nat.le_refl _) (.cells #[.int .i64 2,.int .i64 s,.int .i64 f,.int .i64 r,.int .i64 y] 87);have GM:=(I.out.gm.below (GB.out.trans (bL.mono (GB.out.size)))).step (x:=(2,s,f,r,y)) (by have:=I.out.le;unfold maxLen;omega) rfl WF.out WR.out;obtain ⟨st,w2,hE,hg2,hz2,hS⟩:=GM;simp only at hE hS;have hwb:w.heap.size < wr.heap.size:=I.out.gm.own.lt;have hr2:=World.ownsRow.kept (World.ownsRow.alloc ((I.out.gm.row f r).keep GB.out) (.cells #[.int .i64 2,.int .i64 s,.int .i64 f,.int .i64 r,.int .i64 y] 87)) hg2 (.inr fun e=>by have:=World.ownsRow.lt (I.out.gm.row f r) _ e;omega);have L2:Hid (w2.heap[W.heap.size]? = some (.cells #[.int .i64 2,.int .i64 s,.int .i64 f,.int .i64 r,.int .i64 y] 87 (0,0))):=Lib.hid ((hg2.block _ (by simp) (fun e=>by have:=Option.some.inj e;have:=GB.out.size;omega)).trans (heap_alloc_new W _));have hz3:W.heap.size+1=w2.heap.size:=by rw [hz2];simp
    have BW:Hid (Below w.heap.size w w2):=Lib.hid (((I.out.bel.trans (GB.out.mono I.out.bel.size)).alloc (by have:=GB.out.size;omega) (.cells #[.int .i64 2,.int .i64 s,.int .i64 f,.int .i64 r,.int .i64 y] 87)).grown hg2 (by have:=GB.out.size;simp;omega) (fun k e=>by injection e with e;omega));have O2:Hid (Ow K5 w2 (w.heap.size+1) 87 (vs f r) (grp (t.take k) f r)):=Lib.hid hr2;have gw:=GB.out.size;have HX:=Lib.hid (And.intro hwb (And.intro hz3 gw));have GX:=Lib.hid hS;obtain ⟨av,cv,ev,_⟩:=O2.out.slice;generalize hgl:(grp (t.take k) f r).length=gl at ev;have HGL:=Lib.hid hgl;have EV:=Lib.hid ev;unfold plc at hE;rw [ev] at hE O2;clear hg2 hz2 hS bL hr2 hwb hz3 gw ev hgl
    go_wp2_with (at_builtin;refine push_group rfl _ _ rfl (w.heap.size+1) _ _ rfl O2.out _ ((2,s,f,r,y):E5) rfl ?d1 ?d2 ?d3 ?_)
    case d1 =>
     intro j u hu
     match j,hu with
     | 0,hu=>simp [K5] at hu;subst hu;exact row_cell L2.out 0
     | 1,hu=>simp [K5] at hu;subst hu;exact row_cell L2.out 1
     | 2,hu=>simp [K5] at hu;subst hu;exact row_cell L2.out 2
     | 3,hu=>simp [K5] at hu;subst hu;exact row_cell L2.out 3
     | 4,hu=>simp [K5] at hu;subst hu;exact row_cell L2.out 4
     | j+5,hu=>simp [K5] at hu
    case d2 =>
     have:=List.length_filter_le (mt f r) (t.take k);have h2:(t.take k).length≤1000:=by rw [List.length_take];have:=HN.out;omega
     unfold grp
     omega
    case d3=>have:=HX.out;omega
    intro v' w3 o3 g3 h3
    have hS:=GX.out;rw [EV.out] at hS;obtain ⟨w4,D',hS4,g4,G4⟩:=hS w3 v' g3 o3 (h3.imp id fun ⟨g,e,h⟩=>⟨g,e,h⟩);obtain ⟨av',cv',ev',_⟩:=o3.slice;generalize (grp (t.take k) f r ++ [((2,s,f,r,y):E5)]).length=gl' at ev';subst ev';have NEW:Hid (RcI w t (k+1) (N+1) (upP vs f r (.slice av' gl' cv')) D' w4):=Lib.hid ⟨by rw [TK.out];exact G4,by have:=I.out.le;omega,(BW.out.grown g3 (by have:=HX.out;omega) (fun k e=>by have:=World.ownsRow.lt O2.out k e;omega)).grown g4 (by have:=HX.out;have:=g3.size;omega) (fun k e=>by injection e with e;omega)⟩;clear hS o3 g3 h3 g4 G4 hE;go_wp2
    go_roundw
    case rel=>exact ⟨k+1,N+1,_,D',by omega,by go_num,NEW⟩
    case measure=>simp [intOf];omega
   ·have NN:=NO.out h2
    clear NO;have d2:(q == 2)=false:=by simpa using h2
    clear h2;go_wp2
    go_roundw
    case rel=>exact ⟨k+1,N,vs,D,by omega,by go_num,RcI.below NN ((Below.refl wr.heap.size wr).alloc (Nat.le_refl _) _)⟩
    case measure=>simp [intOf];omega
  ·obtain rfl:k=n:=by omega
   have E:Hid (RecdPost w t (.returned (.map (some w.heap.size))) wr):=⟨_,N,vs,D,rfl,by have h:=I.out.gm;rw [← HN.out,List.take_length] at h;exact h,Nat.le_refl _,by have:=I.out.le;have:=HN.out;omega,I.out.bel⟩;go_wp2
   go_ret
   exact E.out
end Go.Proofs.YtljnkaodhfnbbaaGreatDoor.Pa
namespace Go.Proofs.YtljnkaodhfnbbaaGreatDoor.Pa
open Go.RowKit Go.Maps
open Fs (Abs St Only Fx Wf Rh gB gV sA sB set_any SetPost get_st GetPost)
open Rw (Rd Ow At)
open Ro (E5 z5 eat K5 at5 okE ent)
open Fl (R4 z4 rec4 okR arr4 row_cell row_frozen)
attribute [local irreducible] Sd.wpSd wpQuiet
theorem arr4_set (v:R4) (x:Int) {j:Nat} (hj:j < 4):(arr4 v).setIfInBounds j (.int .u8 x)=arr4 (rs v j x):=by
 obtain rfl | rfl | rfl | rfl:j=0∨j=1∨j=2∨j=3:=by omega
 all_goals rfl
theorem arr4_get (v:R4) {j:Nat} (hj:j < 4):(arr4 v)[j]? = some (.int .u8 (rb v j)):=by
 obtain rfl | rfl | rfl | rfl:j=0∨j=1∨j=2∨j=3:=by omega
 all_goals rfl
structure RvI (w:World) (f r:Int) (gv:Nat) (v:R4) (wr:World):Prop where
 bel:Below w.heap.size w wr
 box:wr.heap[w.heap.size]? = some (.cells #[.int .i64 f,.int .i64 r] 248 (0,0))
 cel:wr.heap[gv]? = some (.cells (arr4 v) 42 (0,0))
 gt:w.heap.size < gv
theorem RvI.below {w wr wr':World} {f r:Int} {gv:Nat} {v:R4} (h:RvI w f r gv v wr) (b:Below wr.heap.size wr wr'):RvI w f r gv v wr' :=
 ⟨h.bel.trans (b.mono h.bel.size),(b.block _ (lt_of_block h.box)).trans h.box,(b.block _ (lt_of_block h.cel)).trans h.cel,h.gt⟩
theorem RvI.put {w wr:World} {f r:Int} {gv:Nat} {v:R4} (h:RvI w f r gv v wr) {j:Nat} (hj:j < 4) (x:Int):RvI w f r gv (rs v j x) (wr.setCell ⟨gv,j,none⟩ (.int .u8 x)) :=
 ⟨h.bel.setCell (by have:=h.gt;simp;omega) _,(Below.heap_setCell _ _ _ _ (by have:=h.gt;simp;omega)).trans h.box,by rw [Rw.heap_setCell_same h.cel,arr4_set v x hj],h.gt⟩
def RcvPost (w:World) (s:Nat) (F:Nat→Prop) (d:Int) (A':Abs) (e:Ending) (w':World):Prop:=e = .returned (.tuple #[])∧St w' s (Fx F w w') A' d∧Only F w w'
theorem mix_next {h:Hr} {l:List E5} {k:Nat} (hk:k < l.length) (v:R4):mix h (l.take (k+1)) v=rs (mix h (l.take k) v) (eat l k).2.2.2.2 ((h (eat l k).2.1).getD 0):=by
 unfold mix;rw [take_eat hk,List.foldl_append]
 rfl
set_option maxHeartbeats 400000 in
theorem receive_any {w:World} {s:Nat} {F:Nat→Prop} {A:Abs} {d:Int} (S:St w s F A d) {f r:Int} (hf:Wf f) {v hv:Value} {l:List E5} (R:Rd K5 w v l) {h:Hr} (M:HMap w hv h) (hh:okH h) (hl:∀ x∈l,Wf x.2.1∧0≤x.2.2.2.2∧x.2.2.2.2≤3) :
 Calls Tryz.prog 145 #[.pointer (some ⟨s,0,none⟩),.agg #[.int .i64 f,.int .i64 r],v,hv] w (RcvPost w s F d (rcv1 h l f r A)):=by
 have HL:Hid (∀ k,k < l.length→Wf (eat l k).2.1∧0≤(eat l k).2.2.2.2∧(eat l k).2.2.2.2≤3):=fun k hk=>hl _ (Ro.eat_mem hk);have G1:=Lib.hid (fun W (b:Below w.heap.size w W)=>get_st (S.below b) hf r);have ok0:okR (gV A f r):=by
  have hA:=S.okA;unfold gV
  split
  ·exact Fl.okR_z
  ·rename_i e he
   split
   ·exact Fl.okR_at (hA.find he).2.2.1 _
   ·exact Fl.okR_z
 have FIN:Hid (gB A f r=true→(∀ k,k < l.length→(h (eat l k).2.1).isSome=true)→rcv1 h l f r A=sA A f r (mix h l (gV A f r))):=fun hg ha=>by
  unfold rcv1;rw [if_pos];rw [hg,Bool.true_and];unfold allH;rw [List.all_eq_true]
  intro x hx
  obtain ⟨k,hk,e⟩:=List.getElem_of_mem hx;have e':eat l k=x:=by rw [← e];unfold eat;rw [List.getD_eq_getElem?_getD,List.getElem?_eq_getElem hk];rfl
  rw [← e'];exact ha k hk
 have NOG:Hid (gB A f r=false→rcv1 h l f r A=A):=fun hg=>by unfold rcv1;rw [if_neg (by simp [hg])]
 have NOH:Hid (∀ k,k < l.length→h (eat l k).2.1=none→rcv1 h l f r A=A):=fun k hk e=>by
  unfold rcv1;rw [if_neg]
  intro ha
  rw [Bool.and_eq_true] at ha;have:=List.all_eq_true.1 ha.2 _ (Ro.eat_mem hk);rw [e] at this
  cases this
 have SET:=Lib.hid (fun W (b:Below w.heap.size w W)=>set_any (S.below b) hf r (mix h l (gV A f r)) (mix_ok hh l ok0));have SAME:Hid (∀ W,Below w.heap.size w W→rcv1 h l f r A=A→RcvPost w s F d (rcv1 h l f r A) (.returned (.tuple #[])) W):=fun W b e=>⟨rfl,by rw [e];exact S.fx b,Only.of_below b⟩;have END:Hid (∀ W W' x b,Below w.heap.size w W→rcv1 h l f r A=sA A f r x→SetPost W s F d b (sA A f r x) (.returned (.bool b)) W'→RcvPost w s F d (rcv1 h l f r A) (.returned (.tuple #[])) W'):=fun W W' x b hb e ⟨_,q1,q2⟩=>by
  have o:=(Only.of_below (G:=F) hb).trans q2 fun _ _ g=>g
  exact ⟨rfl,by rw [e];exact q1.wide (fun k hk=>by
   rcases hk with hk | ⟨hk,hk2⟩
   ·exact .inl hk
   ·exact .inr ⟨Nat.le_trans hb.size hk,hk2⟩) (Fx.low S.low o.size),o⟩
 have MM:=Lib.hid M;obtain ⟨a,cap,rfl,_,hm,hA⟩:=R;have HA:=Lib.hid hA;unfold maxLen at hm;clear hA hl S M hh ok0;generalize hn:l.length=n at *;have HN:=Lib.hid hn;clear hn;generalize gV A f r=v0 at *;have P0:Hid ((w.alloc (.cells #[.int .i64 f,.int .i64 r] 248)).heap[w.heap.size]? = some (.cells #[.int .i64 f,.int .i64 r] 248 (0,0))):=heap_alloc_new w _;have B0:Hid (Below w.heap.size w (w.alloc (.cells #[.int .i64 f,.int .i64 r] 248))):=(Below.refl w.heap.size w).alloc (Nat.le_refl _) _
 go_enter Tryz.func145,Tryz.ntmps145
 go_wp2_with fail;generalize (w.alloc (.cells #[.int .i64 f,.int .i64 r] 248))=W at *;unfold GetPost at G1;unfold rec4 at G1;refine (G1.out W B0.out).mono ?_;rintro e w1 ⟨rfl,b1⟩;have I0:Hid (RvI w f r w1.heap.size v0 (w1.alloc (.cells #[.int .u8 v0.1,.int .u8 v0.2.1,.int .u8 v0.2.2.1,.int .u8 v0.2.2.2] 42))):=by
  have b2:=B0.out.trans (b1.mono B0.out.size);have p1:=(b1.block _ (lt_of_block P0.out)).trans P0.out;exact ⟨b2.alloc b2.size _,((Below.refl w1.heap.size w1).alloc (Nat.le_refl _) _ |>.block _ (lt_of_block p1)).trans p1,heap_alloc_new w1 _,lt_of_block p1⟩
 clear P0 B0 b1 G1
 cases hg:gB A f r with
 | false =>
   have RES:=Lib.hid (fun W b=>SAME.out W b (NOG.out hg));clear SAME NOG FIN NOH END SET hg;go_wp2;refine bodyPost_ret (results_none rfl _ _ _) rfl ?_;exact RES.out _ I0.out.bel
 | true =>
   have FN:=Lib.hid (FIN.out hg);clear NOG FIN hg;go_upto_region 3 with fail;have hgv:=I0.out.gt;generalize (w1.alloc (.cells #[.int .u8 v0.1,.int .u8 v0.2.1,.int .u8 v0.2.2.1,.int .u8 v0.2.2.2] 42))=W0 at *;generalize w1.heap.size=gv at *;go_wp2
   go_loopw [27] (fun i wr=>∃ k:Nat,k≤n∧i = .int .i64 k∧Hid (RvI w f r gv (mix h (l.take k) v0) wr)∧Hid (∀ j,j < k→(h (eat l j).2.1).isSome=true)) (fun i _=>n - (intOf i).toNat)
   case atStart=>exact ⟨0,Nat.zero_le _,rfl,I0,fun j hj=>by omega⟩
   case round =>
    obtain ⟨k,hk,rfl,I,HS⟩:=hrel;clear I0
    by_cases hlt:k < n
    ·obtain ⟨b,off,rfl,A1⟩:=HA.out (by omega)
     obtain ⟨c0,c1,c2,c3,c4⟩:=at5 (A1.below I.out.bel) k (by have:=HN.out;omega);rw [show l.getD k z5=eat l k from rfl] at c0 c1 c2 c3 c4;obtain ⟨ws,y0,y3⟩:=HL.out k (by have:=HN.out;omega);have MX:=Lib.hid (mix_next (h:=h) (l:=l) (k:=k) (by have:=HN.out;omega) v0);have NH:Hid (h (eat l k).2.1=none→rcv1 h l f r A=A):=fun e=>NOH.out k (by have:=HN.out;omega) e;have SN:Hid ((h (eat l k).2.1).isSome=true→∀ j,j < k+1→(h (eat l j).2.1).isSome=true):=fun g j hj=>by
      by_cases e:j=k
      ·rw [e];exact g
      ·exact HS.out j (by omega)
     clear A1 HS;generalize eat l k=x at *;obtain ⟨q,s',f',r',y⟩:=x;simp only at c0 c1 c2 c3 c4 ws y0 y3 MX NH SN;obtain ⟨j,rfl⟩:∃ j:Nat,y=j:=⟨y.toNat,by omega⟩;have hj:j < 4:=by omega
     have WS:=Lib.hid ws;generalize mix h (l.take k) v0=vv at *;have I1:Hid (RvI w f r gv vv (wr.alloc (.cells #[.int .i64 q,.int .i64 s',.int .i64 f',.int .i64 r',.int .i64 (j:Int)] 87))):=I.out.below ((Below.refl wr.heap.size wr).alloc (Nat.le_refl _) _);have M1:=Lib.hid (MM.out.below I1.out.bel);have hfz:=row_frozen I1.out.cel j;have hcj:=(row_cell I1.out.cel j).trans (arr4_get vv hj);clear ws y0 y3
     cases hs:h s' with
     | none =>
       have RES:=Lib.hid (SAME.out _ I1.out.bel (NH.out hs));clear SAME NH NOH SN MX FN SET END
       go_wp2_with (at_lookup;refine at_heard rfl _ _ rfl rfl M1.out s' rfl WS.out 0 false (by rw [hs];rfl) (by rw [hs];rfl) ?_)
       refine bodyPost_ret (results_none rfl _ _ _) rfl ?_;exact RES.out
     | some y =>
       have SS:=Lib.hid (SN.out (by rw [hs];rfl));have MY:Hid (mix h (l.take (k+1)) v0=rs vv j y):=by rw [MX.out,hs];exact Lib.hid rfl
       have I2:=Lib.hid (I1.out.put hj y);clear NH NOH SN MX
       go_wp2_with (at_lookup;refine at_heard rfl _ _ rfl rfl M1.out s' rfl WS.out y true (by rw [hs];rfl) (by rw [hs];rfl) ?_)
       go_roundw
       case rel=>exact ⟨k+1,by omega,by go_num,by rw [MY.out];exact I2,SS⟩
       case measure=>simp [intOf];omega
    ·obtain rfl:k=n:=by omega
     have TK:l.take k=l:=by rw [← HN.out,List.take_length]
     rw [TK] at I;have EQ:=Lib.hid (FN.out (fun j hj=>HS.out j (by have:=HN.out;omega)));have ED:=Lib.hid (fun W' b q=>END.out wr W' (mix h l v0) b I.out.bel EQ.out q);have ST:=Lib.hid (SET.out wr I.out.bel);have p0:wr.cell? ⟨w.heap.size,0,none⟩=some (.int .i64 f):=row_cell I.out.box 0;have p1:wr.cell? ⟨w.heap.size,1,none⟩=some (.int .i64 r):=row_cell I.out.box 1;have q0:=row_cell I.out.cel 0;have q1:=row_cell I.out.cel 1;have q2:=row_cell I.out.cel 2;have q3:=row_cell I.out.cel 3;unfold arr4 at q0 q1 q2 q3;unfold rec4 at ST;clear HS FN NOH SAME SET END EQ TK;generalize mix h l v0=vv at *;go_wp2_with fail;refine ST.out.mono ?_;rintro e w2 ⟨rfl,q1,q2⟩;have RES:=Lib.hid (ED.out w2 false ⟨rfl,q1,q2⟩);clear q1 q2 ED;go_wp2
     go_end0
     exact RES.out
end Go.Proofs.YtljnkaodhfnbbaaGreatDoor.Pa
namespace Go.Proofs.YtljnkaodhfnbbaaGreatDoor.Pa
open Go.RowKit Go.Maps
open Fs (Abs St Only Fx Wf Rh gB gV sA sB dA dD dE OkA copy_any CopySt dos_any DoSPost Glob rd_only)
open Rw (Rd Ow At)
open Ro (E5 z5 eat K5 at5 okE ent okE_bounds)
open Fl (R4 z4 rec4 okR arr4 row_cell row_frozen)
attribute [local irreducible] Sd.wpSd wpQuiet
theorem ranges_kept {w w':World} {b r n:Nat} {D:DataW Value} {left:Lit→Bool} {cnt:Nat} (h:w.ranges Tryz.prog 248 Rh b r n D left cnt) (hb:w'.heap[b]? = w.heap[b]?) (hr:w'.heap[r]? = w.heap[r]?):w'.ranges Tryz.prog 248 Rh b r n D left cnt:=by
 obtain ⟨es,clock,since,seen,c0,q1,q2,q3,q4,q5,q6⟩:=h;exact ⟨es,clock,since,seen,c0,hb.trans q1,q2,q3,q4,hr.trans q5,q6⟩
def Vis (t:List E5) (left:Lit→Bool) (n k:Int):Bool:=decide (grp t n k≠[]) && !left (pk n k)
structure Fixed (w:World) (t:List E5) (b r N B0 B1:Nat) (vs:Int→Int→Value) (D:DataW Value):Prop where
 has:∀ f r,Wf f→Wf r→Maps.has D (pk f r)=decide (grp t f r≠[])
 val:∀ f r,Wf f→Wf r→grp t f r≠[]→∀ z,D.atKey (pk f r) z = .held (vs f r)
 in_:∀ f r k,(vs f r).ownBlock=some k→B0≤k∧k < B1
 inb:B0≤b∧b < B1
 inr:B0≤r∧r < B1
 le:w.heap.size≤B0
structure AI (w:World) (t:List E5) (h:Hr) (A:Abs) (d:Int) (b r N B0 B1:Nat) (vs:Int→Int→Value) (D:DataW Value) (g:Nat) (wr:World) (left:Lit→Bool) (cnt:Nat) (F:Nat→Prop):Prop where
 rg:wr.ranges Tryz.prog 248 Rh b r N D left cnt
 has:∀ kl,left kl=true→Maps.has D kl=true
 st:St wr g F (recV h t (Vis t left) A) d
 row:∀ f r,Rd K5 wr (vs f r) (grp t f r)
 lo:∀ k,F k→w.heap.size≤k
 off:∀ k,F k→k < B0∨B1≤k
 sz:B1≤wr.heap.size
 bel:Below w.heap.size w wr
def ApPost (w:World) (x:Abs×Int) (e:Ending) (w':World):Prop:=∃ g F,e = .returned (ptr g)∧St w' g F x.1 x.2∧(∀ k,F k→w.heap.size≤k)∧Below w.heap.size w w'
theorem grp_wf {t:List E5} (ok:∀ x∈t,okE x) {n k:Int} (h:grp t n k≠[]):Wf n∧Wf k:=by
 obtain ⟨x,hx⟩:=List.exists_mem_of_ne_nil _ h;obtain ⟨h1,h2⟩:=List.mem_filter.1 hx;obtain ⟨_,_,q1,q2,_⟩:=okE_bounds (ok x h1);simp only [mt,decide_eq_true_eq] at h2;rw [← h2.2.1,← h2.2.2];exact ⟨wf_of (by omega),wf_of (by omega)⟩
theorem grp_y {t:List E5} (ok:∀ x∈t,okE x) (n k:Int):okY (grp t n k):=fun x hx=>by
 obtain ⟨_,_,_,_,q⟩:=okE_bounds (ok x (List.mem_filter.1 hx).1);exact q
theorem grp_r {t:List E5} (ok:∀ x∈t,okE x) {n k:Int} (h:grp t n k≠[]):k≠0:=by
 obtain ⟨x,hx⟩:=List.exists_mem_of_ne_nil _ h;obtain ⟨h1,h2⟩:=List.mem_filter.1 hx;simp only [mt,decide_eq_true_eq] at h2;have:=ok x h1;unfold okE Ro.place at this
 omega
theorem grp_h {t:List E5} (ok:∀ x∈t,okE x) (n k:Int):∀ x∈grp t n k,Wf x.2.1∧0≤x.2.2.2.2∧x.2.2.2.2≤3:=fun x hx=>by
 obtain ⟨_,q1,_,_,q⟩:=okE_bounds (ok x (List.mem_filter.1 hx).1);exact ⟨wf_of (by omega),q⟩
theorem vis_next {t:List E5} (ok:∀ x∈t,okE x) {left:Lit→Bool} {f r:Int} (hf:Wf f) (hr:Wf r) (hl:left (pk f r)=true) (hg:grp t f r≠[]) {h:Hr} {A:Abs} (hA:OkA A) :
 rcv1 h (grp t f r) f r (recV h t (Vis t left) A)=recV h t (Vis t fun z=>left z && !z.sameKey (pk f r)) A:=by
 rw [rcv1_next hA (grp_r ok hg) (grp_y ok f r)];refine rec_congr fun n k hnk=>?_;obtain ⟨hn,hk⟩:=grp_wf ok hnk;unfold also Vis
 by_cases e:n=f∧k=r
 ·obtain ⟨rfl,rfl⟩:=e
  have:(pk n k).sameKey (pk n k)=true:=by simp [pk,Lit.sameKey]
  simp [hnk,this]
 ·have:(pk n k).sameKey (pk f r)=false:=sameKey_ne fun e2=>e (pk_inj hn hk hf hr e2)
  simp [this,e]
theorem vis_start {t:List E5} (ok:∀ x∈t,okE x) {D:DataW Value} (hD:∀ f r,Wf f→Wf r→Maps.has D (pk f r)=decide (grp t f r≠[])) (h:Hr) (A:Abs):recV h t (Vis t (Maps.has D)) A=A:=by
 rw [rec_congr (V':=fun _ _=>false) fun n k hnk=>?_]
 ·exact rec_none fun _ _=>rfl
 ·obtain ⟨hn,hk⟩:=grp_wf ok hnk
  unfold Vis;rw [hD n k hn hk]
  simp [hnk]
theorem vis_end {t:List E5} {left:Lit→Bool} (hl:∀ kl,left kl=false) (h:Hr) (A:Abs):recV h t (Vis t left) A=recA h t A:=rec_all fun n k hnk=>by
 unfold Vis;rw [hl]
 simp [hnk]
theorem copy_has {w:World} {s:Nat} {x:Abs×Int} (H:Has w s x):Calls Tryz.prog 84 #[.pointer (some ⟨s,0,none⟩)] w (CopySt w x.1 x.2):=by
 obtain ⟨F,S⟩:=H;exact copy_any S
theorem glob_lt {w:World} (hg:Glob w):1 < w.heap.size:=World.block_lt_of_cell? _ _ hg
structure XI (w:World) (g:Nat) (x:Abs×Int) (wr:World) (F:Nat→Prop):Prop where
 st:St wr g F x.1 x.2
 lo:∀ k,F k→w.heap.size≤k
 bel:Below w.heap.size w wr
theorem XI.below {w:World} {g:Nat} {x:Abs×Int} {wr wr':World} {F:Nat→Prop} (h:XI w g x wr F) (b:Below wr.heap.size wr wr'):XI w g x wr' F:=⟨h.st.below b,h.lo,h.bel.trans (b.mono h.bel.size)⟩
theorem XI.step {w:World} {g:Nat} {x:Abs×Int} {wr wr':World} {F:Nat→Prop} (h:XI w g x wr F) {x':Abs×Int} (st:St wr' g (Fx F wr wr') x'.1 x'.2) (o:Only F wr wr'):XI w g x' wr' (Fx F wr wr') :=
 ⟨st,fun k hk=>by
  rcases hk with hk | ⟨hk,_⟩
  ·exact h.lo k hk
  ·exact Nat.le_trans h.bel.size hk,h.bel.trans (o.below h.bel.size h.lo)⟩
theorem AI.step {w:World} {t:List E5} {h:Hr} {A A':Abs} {d:Int} {b r N B0 B1:Nat} {vs:Int→Int→Value} {D:DataW Value} {g:Nat} {wr w1 w2:World} {left left':Lit→Bool} {cnt cnt':Nat} {F:Nat→Prop}
 (I:AI w t h A d b r N B0 B1 vs D g wr left cnt F) (X:Fixed w t b r N B0 B1 vs D) (rg:w1.ranges Tryz.prog 248 Rh b r N D left' cnt') (has:∀ kl,left' kl=true→left kl=true) (g1:wr.grownBy w1 (some r)) (st:St w2 g (Fx F w1 w2) A' d) (o:Only F w1 w2) (e:A'=recV h t (Vis t left') A) :
 AI w t h A d b r N B0 B1 vs D g w2 left' cnt' (Fx F w1 w2):=by
 have off:∀ k,B0≤k→k < B1→¬ F k:=fun k h0 h1 hk=>by rcases I.off k hk with h | h <;> omega
 have z1:=g1.size;have hs:=I.sz;have ib:=X.inb;have ir:=X.inr;have le:=X.le;have eb:=o.block b (by omega) (off b ib.1 ib.2);have er:=o.block r (by omega) (off r ir.1 ir.2);have bw1:Below w.heap.size w w1:=I.bel.grown g1 I.bel.size (fun j hj=>by injection hj with hj;omega);refine ⟨ranges_kept rg eb er,fun kl hl=>I.has kl (has kl hl),by rw [← e];exact st,fun f r'=>?_,fun k hk=>?_,fun k hk=>?_,Nat.le_trans (Nat.le_trans hs z1) o.size,bw1.trans (o.below bw1.size I.lo)⟩
 ·have R:=I.row f r'
  obtain ⟨es,clock,since,seen,c0,_,_,_,_,hr,_⟩:=I.rg
  have R1:=rd_only R (G:=fun k=>k=r) (fun h0 k hk e=>by
   subst e;obtain ⟨a,cap,ea,_,_,h3⟩:=R;obtain ⟨b',off',rfl,hA⟩:=h3 h0;rw [ea] at hk;obtain rfl:b'=k:=by simpa [Value.ownBlock] using hk
   have c:=hA 0 h0 0 _ rfl
   simp [World.cell?,hr] at c) (Only.grown rfl g1)
  exact rd_only R1 (fun h0 k hk=>off k (X.in_ f r' k hk).1 (X.in_ f r' k hk).2) o
 ·rcases hk with hk | ⟨hk,_⟩
  ·exact I.lo k hk
  ·exact Nat.le_trans bw1.size hk
 ·rcases hk with hk | ⟨hk,_⟩
  ·exact I.off k hk
  ·exact .inr (by omega)
set_option maxHeartbeats 400000 in
theorem apply_any {w:World} {s:Nat} {x:Abs×Int} (H:Has w s x) (hg:Glob w) (hd:0≤x.2∧x.2 < 900000) {v hv:Value} {t:List E5} (R:Rd K5 w v t) (ok:∀ y∈t,okE y) (hl:t.length≤100) {h:Hr} (M:HMap w hv h) (hh:okH h) :
 Calls Tryz.prog 82 #[.pointer (some ⟨s,0,none⟩),v,hv] w (ApPost w (apS h t x)):=by
 have HG:=Lib.hid hg;have C0:=Lib.hid (copy_has H);have RR:=Lib.hid R;have MM:=Lib.hid M;have hA:=Lib.hid H.okA;obtain ⟨A,d⟩:=x;unfold CopySt at C0;simp only at C0 hd hA;obtain ⟨a,cap,rfl,_,hm,hA0⟩:=R;have HA0:=Lib.hid hA0;clear hA0;unfold maxLen at hm;clear H M hg;generalize hn:t.length=n at *;have HN:=Lib.hid hn;have OKT:=Lib.hid ok;have HH:=Lib.hid hh;clear hn ok hh
 go_enter Tryz.func82,Tryz.ntmps82
 go_wp2_with fail;refine C0.out.mono ?_;rintro e w1 ⟨g,F1,rfl,s1,lo1,b1⟩;have S1:=Lib.hid s1;have LO1:=Lib.hid lo1;have B1:=Lib.hid b1;clear s1 lo1 b1 C0;have RC:=Lib.hid (received_any w1 _ t (RR.out.below B1.out) OKT.out (by have:=HN.out;omega));go_wp2_with fail;refine RC.out.mono ?_;rintro e w2 ⟨b,N,vs,D,rfl,gm,hb,hN,b2⟩;have GM:=Lib.hid gm;have B2:=Lib.hid b2;have own2:=gm.own;have HB:=Lib.hid (And.intro hb hN);clear gm b2 RC hb hN
 go_wp2_with (first
  | (at_range;refine wpList_range_own _ rfl _ 245 rfl 248 85 keyedP Tryz.underlying245 _ b N _ rfl own2 ?_;intro w0 hrg0 hg0 hs0)
  | fail)
 go_frame
 have hz1:=B1.out.size;have hz2:=B2.out.size;have FX:Hid (Fixed w t b w2.heap.size N w1.heap.size w0.heap.size vs D):=Lib.hid ⟨GM.out.has,GM.out.val,fun f r k hk=>by have:=World.ownsRow.lt (GM.out.row f r) k hk;have:=HB.out.1;omega,⟨HB.out.1,by have:=GM.out.own.lt;omega⟩,⟨hz2,by omega⟩,hz1⟩;have G0:Hid (Below w2.heap.size w2 w0):=Lib.hid ((Below.refl _ _).grown hg0 (Nat.le_refl _) (fun j hj=>by cases hj));have I0:Hid (AI w t h A d b w2.heap.size N w1.heap.size w0.heap.size vs D g w0 (Maps.has D) (Maps.size D) F1):=Lib.hid
  ⟨hrg0,fun kl hk=>hk,by rw [vis_start OKT.out GM.out.has];exact (S1.out.below B2.out).below G0.out,fun f r=>((GM.out.row f r).rd).below G0.out,LO1.out,fun k hk=>.inl (S1.out.low k hk),Nat.le_refl _,(B1.out.trans (B2.out.mono hz1)).trans (G0.out.mono (by omega))⟩
 clear hrg0 hg0 hs0 own2 G0 GM B1 B2 S1 LO1 hz1 hz2 HB;generalize w2.heap.size=r0 at *;generalize w1.heap.size=B0 at *;generalize w0.heap.size=B1 at *
 go_loopw [9] (fun _ wr=>∃ left cnt F,Hid (AI w t h A d b r0 N B0 B1 vs D g wr left cnt F)) (fun _ wr=>wr.rangeLeft b r0)
 case atStart=>exact ⟨_,_,_,I0⟩
 case round =>
  obtain ⟨left,cnt,F,I⟩:=hrel;clear I0;have hrg:=I.out.rg
  go_wp2_with (first
   | (at_next;refine wpList_next_ranges _ rfl _ rfl 248 keyedP Rh (fun p:Int×Int=>plc p.1 p.2) id (fun key kl hkey=>by obtain ⟨f,r,e,_⟩:=keyP_inv hkey;exact ⟨(f,r),e⟩) (fun v y _=>⟨v,rfl⟩) b r0 N _ _ _ rfl hrg ?_ ?_)
   | fail)
  ·intro hc0 hl0
   have SA:Hid (Has wr g (recA h t A,d)):=Lib.hid ⟨F,by have:=I.out.st;rwa [vis_end hl0] at this⟩;have XI0:Hid (XI w g (exU t (recA h t A,d) 0) wr F):=Lib.hid ⟨by have:=I.out.st;rwa [vis_end hl0] at this,I.out.lo,I.out.bel⟩;have XD:=Lib.hid (fun k=>exU_d (t:=t) (recA h t A,d) k);have XE:=Lib.hid (exU_end (t:=t) h (A,d));have XY:=Lib.hid (fun k hk h3=>exU_yes (t:=t) (recA h t A,d) (j:=k) hk h3);have XN:=Lib.hid (fun k hk h3=>exU_no (t:=t) (recA h t A,d) (j:=k) hk h3);clear SA hl0 hrg FX I;generalize recA h t A=RA at *;go_wp2;clear hc0 cnt left
   go_loopw [29] (fun i wr=>∃ (k:Nat) (F:Nat→Prop),k≤n∧i = .int .i64 k∧Hid (XI w g (exU t (RA,d) k) wr F)) (fun i _=>n - (intOf i).toNat)
   case atStart=>exact ⟨0,F,Nat.zero_le _,rfl,XI0⟩
   case round =>
    rename_i wr0 wr
    obtain ⟨k,F',hk,rfl,I⟩:=hrel;clear XI0
    by_cases hlt:k < n
    ·obtain ⟨b1,off,rfl,A1⟩:=HA0.out (by omega)
     obtain ⟨c0,c1,c2,c3,c4⟩:=at5 (A1.below I.out.bel) k (by have:=HN.out;omega);rw [show t.getD k z5=eat t k from rfl] at c0 c1 c2 c3 c4;have okx:=OKT.out _ (Ro.eat_mem (l:=t) (i:=k) (by have:=HN.out;omega));have Y3:=Lib.hid (XY.out k (by have:=HN.out;omega));have N3:=Lib.hid (XN.out k (by have:=HN.out;omega));have DD:=XD.out k;generalize eat t k=x at *;obtain ⟨q,s',f',r',y⟩:=x;simp only at c0 c1 c2 c3 c4 Y3 N3;have I1:=Lib.hid (I.out.below ((Below.refl wr.heap.size wr).alloc (Nat.le_refl _) (.cells #[.int .i64 q,.int .i64 s',.int .i64 f',.int .i64 r',.int .i64 y] 87)));clear A1 I
     by_cases h3:q=3
     ·subst h3
      have Y4:=Lib.hid (Y3.out rfl);have DO:=Lib.hid (dos_any I1.out.st (HG.out.below I1.out.bel) (fun hk=>by have:=I1.out.lo _ hk;have:=glob_lt HG.out;omega) (by have:=HN.out;omega) 2 f' r' z4 Fl.okR_z);unfold Ad.addr rec4 z4 at DO;clear Y3 N3 okx DD;go_wp2_with fail;refine DO.out.mono ?_;rintro e w5 ⟨rfl,q1,q2⟩;have I2:=Lib.hid (I1.out.step (x':=exU t (RA,d) (k+1)) (by rw [Y4.out];exact q1) q2);clear q1 q2 DO I1;go_wp2
      go_roundw
      case rel=>exact ⟨k+1,_,by omega,by go_num,I2⟩
      case measure=>simp [intOf];omega
     ·have d3:(q == 3)=false:=by simpa using h3
      have N4:=N3.out h3;have I2:Hid (XI w g (exU t (RA,d) (k+1)) (wr.alloc (.cells #[.int .i64 q,.int .i64 s',.int .i64 f',.int .i64 r',.int .i64 y] 87)) F'):=by rw [N4];exact I1
      clear Y3 N3 okx DD N4 I1;go_wp2
      go_roundw
      case rel=>exact ⟨k+1,_,by omega,by go_num,I2⟩
      case measure=>simp [intOf];omega
    ·obtain rfl:k=n:=by omega
     have RES:Hid (ApPost w (apS h t (A,d)) (.returned (ptr g)) wr):=Lib.hid ⟨g,F',rfl,by have:=I.out.st;rw [← HN.out] at this;rw [← XE.out];exact this,I.out.lo,I.out.bel⟩;go_wp2
     go_ret
     exact RES.out
  ·intro f r u kl y y2 w1 cnt1 hkey hlk hv hat hrg1 hlt hg1 hs1 hen
   obtain ⟨f',r',e1,hf,hr⟩:=keyP_inv hkey;obtain ⟨rfl,rfl⟩:f=f'∧r=r':=by
    unfold plc at e1;injection e1 with e1;have h1:=congrArg (fun t:Array Value=>t[0]?) e1;have h2:=congrArg (fun t:Array Value=>t[1]?) e1
    simp at h1 h2
    exact ⟨h1,h2⟩
   obtain rfl:kl=pk f r:=by
    have:=keyP hf hr;rw [hkey] at this;exact Option.some.inj this
   have hg:=I.out.has _ hlk;rw [FX.out.has f r hf hr,decide_eq_true_eq] at hg;have hv':u=vs f r:=by
    obtain ⟨h2,_⟩:DataW.held u=y∧[]=y2:=by simpa [Rh] using hv
    have h1:=hat .nil;rw [FX.out.val f r hf hr hg,← h2] at h1;injection h1 with h1;exact h1.symm
   subst hv';have hsz:=I.out.sz;have g1:=hg1;have bw1:Below w.heap.size w w1:=I.out.bel.grown hg1 I.out.bel.size (fun j hj=>by injection hj with hj;have:=FX.out.inr.1;have:=FX.out.le;omega);have off:∀ k,B0≤k→k < B1→¬ F k:=fun k h0 h1 hk=>by rcases I.out.off k hk with h | h <;> omega
   have st1:St w1 g F (recV h t (Vis t left) A) d:=I.out.st.only (G:=fun k=>k=r0) (fun k hk e=>by subst e;exact off k FX.out.inr.1 FX.out.inr.2 hk) (Only.grown rfl hg1)
   have R1:Rd K5 w1 (vs f r) (grp t f r):=rd_only (I.out.row f r) (G:=fun k=>k=r0) (fun h0 k hk e=>by
    subst e;obtain ⟨es,clock,since,seen,c0,_,_,_,_,hr0,_⟩:=I.out.rg;obtain ⟨a',cap',ea,_,_,h3⟩:=I.out.row f r;obtain ⟨b',off',rfl,hA'⟩:=h3 h0;rw [ea] at hk;obtain rfl:b'=k:=by simpa [Value.ownBlock] using hk
    have c:=hA' 0 h0 0 _ rfl
    simp [World.cell?,hr0] at c) (Only.grown rfl hg1)
   have bx:Below w1.heap.size w1 (w1.alloc (.cells #[.int .i64 f,.int .i64 r] 248)):=(Below.refl _ _).alloc (Nat.le_refl _) _;have RV:=Lib.hid (receive_any (st1.below bx) hf (r:=r) (R1.below bx) ((MM.out.below bw1).below bx) HH.out (grp_h OKT.out f r));have EQ:Hid (rcv1 h (grp t f r) f r (recV h t (Vis t left) A)=recV h t (Vis t fun z=>left z && !z.sameKey (pk f r)) A):=Lib.hid (vis_next OKT.out hf hr hlk hg hA.out);have STEP:Hid (∀ w3 A',St w3 g (Fx F w1 w3) A' d→Only F w1 w3→A'=recV h t (Vis t fun z=>left z && !z.sameKey (pk f r)) A→AI w t h A d b r0 N B0 B1 vs D g w3 (fun z=>left z && !z.sameKey (pk f r)) cnt1 (Fx F w1 w3)):=Lib.hid (fun w3 A' st o e=>I.out.step FX.out hrg1 (fun kl hl=>by simp at hl;exact hl.1) hg1 st o e);have BX:=Lib.hid bx;have LT:=Lib.hid hlt;have RG:=Lib.hid I.out.rg;obtain ⟨au,cu,ev,_⟩:=R1.slice;rw [ev] at hen RV ⊢;generalize (grp t f r).length=gl at *;unfold plc at hen ⊢;clear st1 R1 bx off bw1 hrg1 hlt hg1 g1 hs1 hat hv hlk hkey hg hrg hsz I e1 ev;go_wp2_with fail;refine RV.out.mono ?_;rintro e w3 ⟨rfl,q1,q2⟩;have o3:=(Only.of_below (G:=F) BX.out).trans q2 fun _ _ g=>g
   have NEW:=Lib.hid (STEP.out w3 _ (by
    refine q1.wide (fun k hk=>?_) (fun k hk=>?_)
    ·rcases hk with hk | ⟨hk,hk2⟩
     ·exact .inl hk
     ·exact .inr ⟨Nat.le_trans BX.out.size hk,hk2⟩
    ·rcases hk with hk | ⟨_,hk⟩
     ·exact q1.low k (.inl hk)
     ·exact hk) o3 EQ.out)
   have MS:Hid (w3.rangeLeft b r0 < wr.rangeLeft b r0):=by
    show _ < _
    rw [NEW.out.rg.left_eq,RG.out.left_eq];exact LT.out
   clear q1 q2 o3 STEP EQ RG LT RV hen;go_wp2
   go_roundw
   case rel=>exact ⟨_,_,_,NEW⟩
   case measure=>exact MS.out
end Go.Proofs.YtljnkaodhfnbbaaGreatDoor.Pa
namespace Go.Proofs.YtljnkaodhfnbbaaGreatDoor.Ua
open Go.RowKit
theorem place_any (w:World) (k:Nat) (h:k < 8):Calls Tryz.prog 98 #[.int .i64 (k+1:Nat)] w fun e w'=>e = .returned (.int .u8 (2 ^ k))∧w=w':=by
 rcases (by omega:k=0∨k=1∨k=2∨k=3∨k=4∨k=5∨k=6∨k=7) with rfl | rfl | rfl | rfl | rfl | rfl | rfl | rfl
 all_goals
  go_enter Tryz.func98,Tryz.ntmps98
  go_wp2
  go_ret
  exact ⟨ret_int (by decide),rfl⟩
theorem isOdd_any (w:World) (F:Nat→Bool):Calls Tryz.prog 99 #[.agg (arr F)] w fun e w'=>e = .returned (.bool (par F 9))∧Below w.heap.size w w':=by
 have R0:=Lib.hid (Row.new w F);have B0:=Lib.hid ((Below.refl w.heap.size w).alloc (Nat.le_refl _) (.cells (arr F) 113))
 go_enter Tryz.func99,Tryz.ntmps99
 go_wp2
 go_loop [3,8] (fun o i=>∃ k:Nat,k≤9∧i = .int .i64 k∧o = .bool (par F k)) (fun _ i=>9 - (intOf i).toNat)
 case atStart=>exact ⟨0,by omega,rfl,rfl⟩
 case round =>
  obtain ⟨k,hk,rfl,rfl⟩:=hrel
  by_cases hlt:k < 9
  ·have c:=R0.out.cell (1+k) (by omega)
   have e:par F (k+1)=(par F k != F (1+k)):=by rw [par,Nat.add_comm 1 k]
   have E:=Lib.hid e;clear e;go_wp2
   go_round
   case rel=>exact ⟨k+1,by omega,by go_num,by rw [E.out];cases par F k <;> cases F (1+k) <;> rfl⟩
   case measure=>simp [intOf];omega
  ·obtain rfl:k=9:=by omega
   go_wp2
   go_ret
   exact ⟨rfl,B0.out⟩
end Go.Proofs.YtljnkaodhfnbbaaGreatDoor.Ua
namespace Go.Proofs.YtljnkaodhfnbbaaGreatDoor.Ua
open Go.RowKit
theorem put_1 (b:Int) (i:Nat):put b 1 i=false:=by unfold put;rw [if_neg (by omega)]
theorem put_step (b:Int) (k:Nat) (h:1≤k) (i:Nat):upd (put b k) k (bit b (k - 1)) i=put b (k+1) i:=by
 unfold upd put
 by_cases e:i=k
 ·subst e;rw [if_pos rfl,if_pos (by omega)]
 ·rw [if_neg e]
  by_cases c:1≤i∧i < k
  ·rw [if_pos c,if_pos (by omega)]
  ·rw [if_neg c,if_neg (by omega)]
def no (_:Nat):Bool:=false
def Two (w wr:World) (F:Nat→Bool):Prop:=Row wr w.heap.size no∧Row wr (w.heap.size+1) F∧Below w.heap.size w wr
theorem Two.frame {w wr:World} {F:Nat→Bool} (h:Two w wr F):Row wr (w.heap.size+1) F:=h.2.1
theorem Two.res {w wr:World} {F:Nat→Bool} (h:Two w wr F):Row wr w.heap.size no:=h.1
theorem two_new (w:World) (F:Nat→Bool) (h:∀ i,i < 11→false=F i):Two w ((w.alloc (.cells (arr no) 113)).alloc (.cells (arr no) 113)) F:=by
 refine ⟨(Row.new w no).alloc _,?_,((Below.refl _ _).alloc (Nat.le_refl _) _).alloc (by simp) _⟩;have:=Row.new (w.alloc (.cells (arr no) 113)) no;have e:(w.alloc (.cells (arr no) 113)).heap.size=w.heap.size+1:=by simp
 rw [e] at this;exact this.to h
theorem Two.set_ {w wr:World} {F:Nat→Bool} (h:Two w wr F) (k:Nat) (hk:k < 11) (x:Bool):Two w (wr.setCell ⟨w.heap.size+1,k,none⟩ (.bool x)) (upd F k x) :=
 ⟨h.1.far (by simp) _,h.2.1.set_ k hk x,h.2.2.setCell (by simp) _⟩
theorem Two.below {w wr w1:World} {F:Nat→Bool} (h:Two w wr F) (hb:Below wr.heap.size wr w1):Two w w1 F :=
 ⟨h.1.below hb h.1.lt,h.2.1.below hb h.2.1.lt,h.2.2.trans (hb.mono h.2.2.size)⟩
theorem Two.to {w wr:World} {F G:Nat→Bool} (h:Two w wr F) (e:∀ i,i < 11→F i=G i):Two w wr G:=⟨h.1,h.2.1.to e,h.2.2⟩
set_option maxHeartbeats 400000 in
theorem put_any (w:World) (b:Int) (odd:Bool) (h0:0≤b) (h1:b≤255):Calls Tryz.prog 41 #[.int .u8 b,.bool odd] w fun e w'=>e = .returned (.agg (arr (frm b odd)))∧Below w.heap.size w w':=by
 have T0:=Lib.hid (two_new w (put b 1) (fun i _=>(put_1 b i).symm))
 go_enter Tryz.func41,Tryz.ntmps41
 go_wp2
 go_loopw [6] (fun i wr=>∃ k:Nat,1≤k∧k≤9∧i = .int .i64 k∧Hid (Two w wr (put b k))) (fun i _=>9 - (intOf i).toNat)
 case atStart=>exact ⟨1,by omega,by omega,rfl,T0⟩
 case round =>
  obtain ⟨k,k1,k9,rfl,T⟩:=hrel
  by_cases hlt:k < 9
  ·obtain ⟨j,rfl⟩:∃ j,k=j+1:=⟨k - 1,by omega⟩
   have c:=T.out.2.1.cell (j+1) (by omega);have f:=T.out.2.1.frozen (j+1);go_wp2_with fail;refine (place_any _ j (by omega)).mono ?_;rintro e w' ⟨rfl,rfl⟩;go_wp2
   go_roundw
   case rel=>exact ⟨j+1+1,by omega,by omega,by go_num,by rw [and_bit b j h0 h1 (by omega)];exact (T.out.set_ (j+1) (by omega) _).to (fun i _=>put_step b (j+1) (by omega) i)⟩
   case measure=>simp [intOf];omega
  ·obtain rfl:k=9:=by omega
   go_wp2_with (refine wpList_load_row rfl 113 _ rfl _ rfl _ _ _ _ T.out.2.1 Tryz.underlying113 rfl (info_of _) ?_)
   refine (isOdd_any _ _).mono ?_;rintro e w1 ⟨rfl,b1⟩;have T1:=Lib.hid (T.out.below b1);have c9:=T1.out.2.1.cell 9 (by omega);have c10:=T1.out.2.1.cell 10 (by omega);have f9:=T1.out.2.1.frozen 9;have f10:=T1.out.2.1.frozen 10;clear b1;have T2:=Lib.hid ((T1.out.set_ 9 (by omega) (par (put b 9) 9 != odd)).set_ 10 (by omega) true)
   go_wp2_with (first
    | (refine wpList_load_row rfl 113 _ rfl _ rfl _ _ _ _ T2.out.2.1 Tryz.underlying113 rfl (info_of _) ?_)
    | (refine wpList_store_row rfl 113 _ _ rfl _ _ rfl rfl _ _ T2.out.1 (info_of _) rfl (arr_one _) ?_))
   refine bodyPost_ret (results_cell_row rfl _ _ _ _ _ _ _ rfl (T2.out.1.row _) Tryz.underlying113 rfl (info_of _)) rfl ⟨rfl,?_⟩;exact below_setRow T2.out.2.2 _ _ (Nat.le_refl _)
end Go.Proofs.YtljnkaodhfnbbaaGreatDoor.Ua
namespace Go.Proofs.YtljnkaodhfnbbaaGreatDoor.Ua
open Go.RowKit
theorem ret_three {a b:Int} {p q:Bool} {c d:Int} {k:IntKind} (h1:a=b) (h2:p=q) (h3:c=d):Ending.returned (.tuple #[.int k a,.bool p,.int .i64 c]) = .returned (.tuple #[.int k b,.bool q,.int .i64 d]):=by rw [h1,h2,h3]
theorem of_bad {F:Nat→Bool} (h:bad F=true):0=tb F∧false=tp F∧2=te F:=by unfold tb tp te;rw [h];exact ⟨rfl,rfl,rfl⟩
theorem of_good {F:Nat→Bool} (h:bad F=false):(val F 8:Int)=tb F∧par F 9=tp F∧0=te F:=by unfold tb tp te;rw [h];exact ⟨rfl,rfl,rfl⟩
set_option maxHeartbeats 400000 in
theorem take_bad (w:World) (F:Nat→Bool) (hb:bad F=true):Calls Tryz.prog 87 #[.agg (arr F)] w fun e w'=>e = .returned (.tuple #[.int .u8 (tb F),.bool (tp F),.int .i64 (te F)])∧Below w.heap.size w w':=by
 have R0:=Lib.hid (Row.new w F);have B0:=Lib.hid ((Below.refl w.heap.size w).alloc (Nat.le_refl _) (.cells (arr F) 113));have c0:=R0.out.cell 0 (by omega);have c10:=R0.out.cell 10 (by omega);have OB:=Lib.hid (of_bad hb);unfold bad at hb
 cases h0:F 0 with
 | true =>
   rw [h0] at c0;clear hb
   go_enter Tryz.func87,Tryz.ntmps87
   go_wp2
   go_ret3
   exact ⟨ret_three OB.out.1 OB.out.2.1 OB.out.2.2,B0.out⟩
 | false =>
   have h10:F 10=false:=by rw [h0] at hb;simpa using hb
   rw [h0] at c0;rw [h10] at c10;clear hb
   go_enter Tryz.func87,Tryz.ntmps87
   go_wp2
   go_ret3
   exact ⟨ret_three OB.out.1 OB.out.2.1 OB.out.2.2,B0.out⟩
set_option maxHeartbeats 400000 in
theorem take_good (w:World) (F:Nat→Bool) (hb:bad F=false):Calls Tryz.prog 87 #[.agg (arr F)] w fun e w'=>e = .returned (.tuple #[.int .u8 (tb F),.bool (tp F),.int .i64 (te F)])∧Below w.heap.size w w':=by
 have R0:=Lib.hid (Row.new w F);have B0:=Lib.hid ((Below.refl w.heap.size w).alloc (Nat.le_refl _) (.cells (arr F) 113));have c0:=R0.out.cell 0 (by omega);have c10:=R0.out.cell 10 (by omega);have OB:=Lib.hid (of_good hb);unfold bad at hb
 simp at hb
 obtain ⟨h0,h10⟩:=hb;rw [h0] at c0;rw [h10] at c10;clear h0 h10
 go_enter Tryz.func87,Tryz.ntmps87
 go_wp2
 go_loop [2,5] (fun x i=>∃ k:Nat,k≤8∧i = .int .i64 (k+1:Nat)∧x = .int .u8 (val F k:Nat)) (fun _ i=>9 - (intOf i).toNat)
 case atStart=>exact ⟨0,by omega,rfl,rfl⟩
 case round =>
  obtain ⟨k,hk,rfl,rfl⟩:=hrel
  by_cases hlt:k < 8
  ·have c:=R0.out.cell (k+1) (by omega)
   have hv:=val_lt F k
   cases hF:F (k+1) with
   | true =>
     rw [hF] at c;have E:=Lib.hid (or_bit (val F k) k hlt hv);have V:Hid (val F (k+1)=val F k+2 ^ k):=by show val F (k+1)=_;rw [val,hF];rfl
     clear hF hv;go_wp2_with fail;refine (place_any _ k hlt).mono ?_;rintro e w' ⟨rfl,rfl⟩;go_wp2
     go_round
     case rel=>exact ⟨k+1,by omega,by go_num,by rw [V.out,E.out]⟩
     case measure=>simp [intOf];omega
   | false =>
     rw [hF] at c;have V:Hid (val F (k+1)=val F k):=by show val F (k+1)=_;rw [val,hF];rfl
     clear hF hv;go_wp2
     go_round
     case rel=>exact ⟨k+1,by omega,by go_num,by rw [V.out]⟩
     case measure=>simp [intOf];omega
  ·obtain rfl:k=8:=by omega
   go_wp2_with (refine wpList_load_row rfl 113 _ rfl _ rfl _ _ _ _ R0.out Tryz.underlying113 rfl (info_of _) ?_)
   refine (isOdd_any _ _).mono ?_;rintro e w1 ⟨rfl,b1⟩;have B1:=Lib.hid (B0.out.trans (b1.mono B0.out.size));clear b1;go_wp2
   go_ret3
   exact ⟨ret_three OB.out.1 OB.out.2.1 OB.out.2.2,B1.out⟩
theorem take_any (w:World) (F:Nat→Bool):Calls Tryz.prog 87 #[.agg (arr F)] w fun e w'=>e = .returned (.tuple #[.int .u8 (tb F),.bool (tp F),.int .i64 (te F)])∧Below w.heap.size w w':=by
 cases h:bad F with
 | true=>exact take_bad w F h
 | false=>exact take_good w F h
end Go.Proofs.YtljnkaodhfnbbaaGreatDoor.Ua
namespace Go.Proofs.YtljnkaodhfnbbaaGreatDoor.Ua
open Go.RowKit
theorem turn_0 (F:Nat→Bool) (m:Int) (i:Nat):turn F m 0 i=F i:=by unfold turn;rw [if_neg (by omega)]
theorem turn_yes {F:Nat→Bool} {m:Int} {k:Nat} (h:bit m k=true) (i:Nat):upd (turn F m k) k (!turn F m k k) i=turn F m (k+1) i:=by
 unfold upd turn
 by_cases e:i=k
 ·subst e;rw [if_pos rfl,if_neg (by omega),if_pos (by omega),h];simp
 ·rw [if_neg e]
  by_cases c:i < k
  ·rw [if_pos c,if_pos (by omega)]
  ·rw [if_neg c,if_neg (by omega)]
theorem turn_no {F:Nat→Bool} {m:Int} {k:Nat} (h:bit m k=false) (i:Nat):turn F m k i=turn F m (k+1) i:=by
 unfold turn
 by_cases e:i=k
 ·subst e;rw [if_neg (by omega),if_pos (by omega),h];simp
 ·by_cases c:i < k
  ·rw [if_pos c,if_pos (by omega)]
  ·rw [if_neg c,if_neg (by omega)]
def Own2 (w wr:World) (F:Nat→Bool):Prop:=Row wr w.heap.size F∧Row wr (w.heap.size+1) no∧Below w.heap.size w wr
theorem own2_new (w:World) (F:Nat→Bool):Own2 w ((w.alloc (.cells (arr F) 113)).alloc (.cells (arr no) 113)) F:=by
 refine ⟨(Row.new w F).alloc _,?_,((Below.refl _ _).alloc (Nat.le_refl _) _).alloc (by simp) _⟩;have:=Row.new (w.alloc (.cells (arr F) 113)) no;have e:(w.alloc (.cells (arr F) 113)).heap.size=w.heap.size+1:=by simp
 rw [e] at this;exact this
theorem Own2.set_ {w wr:World} {F:Nat→Bool} (h:Own2 w wr F) (k:Nat) (hk:k < 11) (x:Bool):Own2 w (wr.setCell ⟨w.heap.size,k,none⟩ (.bool x)) (upd F k x) :=
 ⟨h.1.set_ k hk x,h.2.1.far (by simp) _,h.2.2.setCell (by simp) _⟩
theorem Own2.to {w wr:World} {F G:Nat→Bool} (h:Own2 w wr F) (e:∀ i,i < 11→F i=G i):Own2 w wr G:=⟨h.1.to e,h.2.1,h.2.2⟩
set_option maxHeartbeats 400000 in
theorem turn_any (w:World) (F:Nat→Bool) (m:Int):Calls Tryz.prog 43 #[.agg (arr F),.int .i64 m] w fun e w'=>e = .returned (.agg (arr (turn F m 11)))∧Below w.heap.size w w':=by
 have T0:=Lib.hid ((own2_new w F).to (fun i _=>(turn_0 F m i).symm))
 go_enter Tryz.func43,Tryz.ntmps43
 go_wp2
 go_loopw [6] (fun i wr=>∃ k:Nat,k≤11∧i = .int .i64 k∧Hid (Own2 w wr (turn F m k))) (fun i _=>11 - (intOf i).toNat)
 case atStart=>exact ⟨0,by omega,rfl,T0⟩
 case round =>
  obtain ⟨k,hk,rfl,T⟩:=hrel
  by_cases hlt:k < 11
  ·have c:=T.out.1.cell k hlt
   have f:=T.out.1.frozen k
   cases hb:bit m k with
   | true =>
     have TY:=Lib.hid (turn_yes (F:=F) hb);have tt:=(test_one m k).trans hb;clear hb;go_wp2
     go_roundw
     case rel=>exact ⟨k+1,by omega,by go_num,(T.out.set_ k hlt _).to (fun i _=>TY.out i)⟩
     case measure=>simp [intOf];omega
   | false =>
     have TN:=Lib.hid (turn_no (F:=F) hb);have tt:=(test_one m k).trans hb;clear hb;go_wp2
     go_roundw
     case rel=>exact ⟨k+1,by omega,by go_num,T.out.to (fun i _=>TN.out i)⟩
     case measure=>simp [intOf];omega
  ·obtain rfl:k=11:=by omega
   go_wp2_with (first
    | (refine wpList_load_row rfl 113 _ rfl _ rfl _ _ _ _ T.out.1 Tryz.underlying113 rfl (info_of _) ?_)
    | (refine wpList_store_row rfl 113 _ _ rfl _ _ rfl rfl _ _ T.out.2.1 (info_of _) rfl (arr_one _) ?_))
   refine bodyPost_ret (results_cell_row rfl _ _ _ _ _ _ _ rfl (T.out.2.1.row _) Tryz.underlying113 rfl (info_of _)) rfl ⟨rfl,?_⟩;exact below_setRow T.out.2.2 _ _ (by omega)
end Go.Proofs.YtljnkaodhfnbbaaGreatDoor.Ua
namespace Go.Proofs.YtljnkaodhfnbbaaGreatDoor.Pa
open Go.RowKit Go.Maps
open Rw (Rd Ow At)
open Fl (row_cell row_frozen)
open Ck (LL lat sN sE tE RdL)
open Ua (arr Row frm tb tp te put_any take_any turn_any info_of arr_one arr_congr below_setRow load_frame store_frame)
attribute [local irreducible] Sd.wpSd wpQuiet Sf.wpSf
def FramePost (w:World) (n:Int) (F:Nat→Bool) (b:Bool) (e:Ending) (w':World):Prop:=e = .returned (.tuple #[.int .i64 n,.agg (arr F),.bool b])∧Below w.heap.size w w'
theorem results_fr {fn:Func} {a p c:Tmp} (h:fn.results=#[.tmp a,.cell p 113,.tmp c]) (tmps:Array Value) (w:World) (g:Nat) (n:Value) (F:Nat→Bool) (b:Value)
 (ha:tmps.getD a undef=n) (hp:tmps.getD p undef = .pointer (some ⟨g,0,none⟩)) (hc:tmps.getD c undef=b) (h1:Row w g F) :
 (results fn tmps).run Tryz.prog w = .ok (.tuple #[n,.agg (arr F),b]) w:=by
 have e1:=h1.load;have hp':tmps[p]?.getD undef = .pointer (some ⟨g,0,none⟩):=by simpa using hp
 have ha':tmps[a]?.getD undef=n:=by simpa using ha
 have hc':tmps[c]?.getD undef=b:=by simpa using hc
 simp only [results,h]
 simp [Result.andThen,hp',ha',hc',asAddr,e1]
structure FrI (w wr:World) (F:Nat→Bool):Prop where
 row:Row wr w.heap.size F
 bel:Below w.heap.size w wr
theorem FrI.below {w wr wr':World} {F:Nat→Bool} (h:FrI w wr F) (b:Below wr.heap.size wr wr'):FrI w wr' F:=⟨h.row.below b h.row.lt,h.bel.trans (b.mono h.bel.size)⟩
theorem FrI.set {w wr:World} {F:Nat→Bool} (h:FrI w wr F) (G:Nat→Bool):FrI w (wr.setRow w.heap.size (arr G)) G:=⟨h.row.row G,below_setRow h.bel _ _ (Nat.le_refl _)⟩
theorem FrI.to {w wr:World} {F G:Nat→Bool} (h:FrI w wr F) (e:∀ i,i < 11→F i=G i):FrI w wr G:=⟨h.row.to e,h.bel⟩
theorem fr_new (w:World):FrI w (w.alloc (.cells (arr lowF) 113)) lowF:=⟨Row.new w lowF,(Below.refl w.heap.size w).alloc (Nat.le_refl _) _⟩
theorem sbX_byt {w:World} {vs vt vl:Value} {S:Sts} {T:LL} {V:List Bool} (H:Ns w vs vt vl S T V) (s:Int):byt (sbX S T V s):=by
 unfold sbX
 split
 ·rename_i h
  have h0:0≤sN s T:=by
   unfold snB at h;simp only [Bool.and_eq_true,decide_eq_true_eq] at h;exact h.1.1
  obtain ⟨n,hn,hlt,_⟩:=sender_is H.ok h0;obtain ⟨_,_,_,_,_,_,hS⟩:=H.st.one (k:=n) (by rw [← H.lt];exact hlt);unfold snX;rw [hn];exact rb_ok (gV_ok hS.okA _ _) _
 ·unfold byt;omega
set_option maxHeartbeats 1000000 in
theorem frame_any {w:World} {vs vt vl vp:Value} {S:Sts} {T:LL} {V:List Bool} {P:List S2} (H:Ns w vs vt vl S T V) (RP:Rd K2 w vp P) (s:Int):Calls Tryz.prog 86 #[vs,vt,vl,vp,.int .i64 s] w (FramePost w (sbN S T V s) (frF S T V P s) (snB S T V s)):=by
 have SA:=Lib.hid (fun W b=>sent_any (H.below (w':=W) b) s);unfold SentPost at SA;have F0:=Lib.hid (fr_new w);have RR:=Lib.hid RP;obtain ⟨ap,cp,rfl,_,hm,hA⟩:=RP;have HA:=Lib.hid hA;unfold maxLen at hm
 have XB:Hid (snB S T V s=true→byt (sbX S T V s)∧frF S T V P s=sq P s (frm (sbX S T V s) false) P.length):=Lib.hid (fun h=>⟨sbX_byt H s,by
  unfold frF sbX
  rw [if_pos h,if_pos h]⟩)
 have LO:Hid (snB S T V s=false→frF S T V P s=lowF∧sbN S T V s = -1):=Lib.hid (fun h=>by unfold frF sbN;rw [h];exact ⟨rfl,rfl⟩);clear hA H;generalize hn:P.length=n at *;have HN:=Lib.hid hn;clear hn;generalize frF S T V P s=FF at *;generalize sbN S T V s=m at *;generalize sbX S T V s=x at *;generalize snB S T V s=bb at *
 go_enter Tryz.func86,Tryz.ntmps86
 go_wp2_with fail;have F1:Hid (FrI w (w.alloc (.cells #[.bool false,.bool false,.bool false,.bool false,.bool false,.bool false,.bool false,.bool false,.bool false,.bool false,.bool false] 113)) lowF):=F0;clear F0;generalize (w.alloc (.cells #[.bool false,.bool false,.bool false,.bool false,.bool false,.bool false,.bool false,.bool false,.bool false,.bool false,.bool false] 113))=W at *;refine (SA.out W F1.out.bel).mono ?_;rintro e w1 ⟨rfl,b1⟩;have F2:=Lib.hid (F1.out.below b1);clear b1 F1 SA
 cases hb:bb with
 | false =>
   have EF:=Lib.hid (LO.out hb);clear LO XB;have F3:=Lib.hid (F2.out.set lowF)
   go_wp2_with ((with_reducible refine store_frame (o:=⟨none,_,_,_,_,_⟩) rfl _ _ rfl w.heap.size lowF lowF ?_ ?_ F2.out.row ?_);(exact rfl);(exact rfl))
   (try simp only [Exit.inBlock,Exit.then])
   refine bodyPost_ret (results_fr rfl _ _ _ _ lowF _ rfl rfl rfl F3.out.row) rfl ?_;exact ⟨by rw [EF.out.1,EF.out.2,hb];exact rfl,F3.out.bel⟩
 | true =>
   have EF:=Lib.hid (XB.out hb);clear LO XB;obtain ⟨x0,x1⟩:=EF.out.1;go_wp2_with fail;refine (put_any w1 x false x0 x1).mono ?_;rintro e w2 ⟨rfl,b2⟩;have F3:=Lib.hid ((F2.out.below b2).set (frm x false));have F4:=Lib.hid (F2.out.below b2);clear b2 F2 x0 x1
   go_wp2_with (refine wpList_store_row rfl 113 _ _ rfl _ _ rfl rfl _ _ F4.out.row (info_of (frm x false)) rfl (arr_one _) ?_)
   clear F4;generalize w2.setRow w.heap.size (arr (frm x false))=W2 at *
   go_loopw [32] (fun i wr=>∃ k:Nat,k≤n∧i = .int .i64 k∧Hid (FrI w wr (sq P s (frm x false) k))) (fun i _=>n - (intOf i).toNat)
   case atStart=>exact ⟨0,Nat.zero_le _,rfl,F3⟩
   case round =>
    obtain ⟨k,hk,rfl,I⟩:=hrel;clear F3
    by_cases hlt:k < n
    ·obtain ⟨b,off,rfl,A1⟩:=HA.out (by omega)
     obtain ⟨c0,c1⟩:=at2 (A1.below I.out.bel) (i:=k) (by have:=HN.out;omega);have Y:=Lib.hid (sq_yes P s (frm x false) (j:=k) (by have:=HN.out;omega));have N:=Lib.hid (sq_no P s (frm x false) (j:=k) (by have:=HN.out;omega));generalize pat P k=z at *;obtain ⟨z1,z2⟩:=z;simp only at c0 c1 Y N;generalize hG:sq P s (frm x false) (k+1)=G' at *;have EG:=Lib.hid hG;clear hG;generalize sq P s (frm x false) k=G at *;have I1:=Lib.hid (I.out.below ((Below.refl wr.heap.size wr).alloc (Nat.le_refl _) (.cells #[.int .i64 z1,.int .i64 z2] 155)));clear A1 I
     by_cases h1:z1=s
     ·subst h1
      have YY:=Y.out rfl;have TA:=Lib.hid (turn_any (wr.alloc (.cells #[.int .i64 z1,.int .i64 z2] 155)) G (bits BinOp.and .i64 z2 2046));have TE:Hid (∀ i,i < 11→Ua.turn G (bits BinOp.and .i64 z2 2046) 11 i=G' i):=Lib.hid (fun i hi=>by rw [YY];exact tn_code G z2 i hi);clear Y N YY;have SP:Hid ((wr.alloc (.cells #[.int .i64 z1,.int .i64 z2] 155)).heap[wr.heap.size]? = some (.cells #[.int .i64 z1,.int .i64 z2] 155 (0,0))):=Lib.hid (heap_alloc_new wr _);go_upto_region 9 with fail;generalize (wr.alloc (.cells #[.int .i64 z1,.int .i64 z2] 155))=W4 at *;have s1:W4.cell? ⟨wr.heap.size,1,none⟩=some (.int .i64 z2):=row_cell SP.out 1
      go_wp2_with (with_reducible refine load_frame (o:=⟨some 40,_,_,_,_,_⟩) rfl _ rfl w.heap.size G ?_ I1.out.row ?_);(exact rfl)
      refine TA.out.mono ?_;rintro e w5 ⟨rfl,b5⟩;have I5:=Lib.hid (I1.out.below b5);have I6:=Lib.hid ((I5.out.set (Ua.turn G (bits BinOp.and .i64 z2 2046) 11)).to TE.out);clear b5 I1 TA TE SP s1
      go_wp2_with ((with_reducible refine store_frame (o:=⟨none,_,_,_,_,_⟩) rfl _ _ rfl w.heap.size (Ua.turn G (bits BinOp.and .i64 z2 2046) 11) G ?_ ?_ I5.out.row ?_);(exact rfl);(exact rfl))
      go_roundw
      case rel=>exact ⟨k+1,by omega,by go_num,by rw [EG.out];exact I6⟩
      case measure=>simp [intOf];omega
     ·have I2:Hid (FrI w (wr.alloc (.cells #[.int .i64 z1,.int .i64 z2] 155)) (sq P s (frm x false) (k+1))):=by rw [EG.out,N.out h1];exact I1
      have d1:(z1 == s)=false:=by simpa using h1
      clear Y N I1;go_wp2
      go_roundw
      case rel=>exact ⟨k+1,by omega,by go_num,I2⟩
      case measure=>simp [intOf];omega
    ·obtain rfl:k=n:=by omega
     have EE:=Lib.hid EF.out.2;have FE:Hid (arr FF=arr (sq P s (frm x false) k)):=Lib.hid (by rw [EE.out]);go_upto_region 11 with fail;clear EF EE;generalize sq P s (frm x false) k=G at *;have C0:FrI w wr.drew G:=⟨I.out.row,I.out.bel.trans ((Below.refl wr.heap.size wr).drew.mono I.out.bel.size)⟩;have k0:=Sc.cell_in (C:=fun W=>FrI w W G) (a:=⟨w.heap.size,0,none⟩) (fun W' h=>h.row.cell 0 (by omega));have k1:=Sc.cell_in (C:=fun W=>FrI w W G) (a:=⟨w.heap.size,1,none⟩) (fun W' h=>h.row.cell 1 (by omega));have k2:=Sc.cell_in (C:=fun W=>FrI w W G) (a:=⟨w.heap.size,2,none⟩) (fun W' h=>h.row.cell 2 (by omega));have k3:=Sc.cell_in (C:=fun W=>FrI w W G) (a:=⟨w.heap.size,3,none⟩) (fun W' h=>h.row.cell 3 (by omega));have k4:=Sc.cell_in (C:=fun W=>FrI w W G) (a:=⟨w.heap.size,4,none⟩) (fun W' h=>h.row.cell 4 (by omega));have k5:=Sc.cell_in (C:=fun W=>FrI w W G) (a:=⟨w.heap.size,5,none⟩) (fun W' h=>h.row.cell 5 (by omega));have k6:=Sc.cell_in (C:=fun W=>FrI w W G) (a:=⟨w.heap.size,6,none⟩) (fun W' h=>h.row.cell 6 (by omega));have k7:=Sc.cell_in (C:=fun W=>FrI w W G) (a:=⟨w.heap.size,7,none⟩) (fun W' h=>h.row.cell 7 (by omega));have k8:=Sc.cell_in (C:=fun W=>FrI w W G) (a:=⟨w.heap.size,8,none⟩) (fun W' h=>h.row.cell 8 (by omega));have k9:=Sc.cell_in (C:=fun W=>FrI w W G) (a:=⟨w.heap.size,9,none⟩) (fun W' h=>h.row.cell 9 (by omega));have k10:=Sc.cell_in (C:=fun W=>FrI w W G) (a:=⟨w.heap.size,10,none⟩) (fun W' h=>h.row.cell 10 (by omega));have ne:Nonempty (Sc.In (fun W=>FrI w W G)):=⟨⟨_,C0⟩⟩;refine Sc.start (fun W=>FrI w W G) [(false,0),(false,1),(false,2),(true,3),(false,4)] (by kernel_rfl) (by kernel_rfl) (by kernel_rfl) C0 ?_;dsimp only [Sd.picks,List.getElem?_cons_succ,List.getElem?_cons_zero]
     repeat (refine Sd.lit ?_;quiet_step (fail);refine wpQuiet_nil ?_)
     refine Sd.call (by rfl) (fun K hK=>?_);refine wp_store_row 113 _ _ rfl w.heap.size (arr G) rfl rfl 113 _ C0.row (info_of G) rfl (arr_one G) ?_;have C1:=C0.set G;refine hK _ _ (Sc.Cl.of C1) ?_;clear hK K k0 k1 k2 k3 k4 k5 k6 k7 k8 k9 k10 C0 I;generalize wr.drew.setRow w.heap.size (arr G)=W9 at *;refine Sd.lit ?_
     quiet_step (fail)
     refine wpQuiet_nil ?_;refine Sd.done ?_;have C2:=Lib.hid C1;clear C1;go_wp2
     (try simp only [Exit.inBlock,Exit.then])
     refine bodyPost_ret (results_fr rfl _ _ _ _ G _ rfl rfl rfl C2.out.row) rfl ?_;exact ⟨by rw [FE.out,hb];exact rfl,C2.out.bel⟩
end Go.Proofs.YtljnkaodhfnbbaaGreatDoor.Pa
namespace Go.Proofs.YtljnkaodhfnbbaaGreatDoor.Pa
open Go.RowKit Go.Maps
open Rw (Rd Ow At)
open Fl (row_cell row_frozen)
open Ck (LL lat sN sE tE RdL)
open Ua (arr Row frm tb tp te take_any info_of arr_one store_new load_frame)
attribute [local irreducible] Sd.wpSd wpQuiet Sf.wpSf
def HrdPost (w:World) (x:Int) (b:Bool) (e:Ending) (w':World):Prop:=e = .returned (.tuple #[.int .u8 x,.bool b])∧Below w.heap.size w w'
theorem hrd_no {S:Sts} {T:LL} {V:List Bool} {P:List S2} {s:Int} {w w':World} (h:hrB S T V P s=false) (b:Below w.heap.size w w'):HrdPost w (hrV S T V P s) (hrB S T V P s) (.returned (.tuple #[.int .u8 0,.bool false])) w':=by
 refine ⟨?_,b⟩;unfold hrV;rw [h]
 rfl
theorem hrd_yes {S:Sts} {T:LL} {V:List Bool} {P:List S2} {s:Int} {w w':World} (h:hrB S T V P s=true) (b:Below w.heap.size w w'):HrdPost w (hrV S T V P s) (hrB S T V P s) (.returned (.tuple #[.int .u8 (tb (frF S T V P s)),.bool true])) w':=by
 refine ⟨?_,b⟩;unfold hrV;rw [h]
 rfl
set_option maxHeartbeats 1000000 in
theorem heard_any {w:World} {vs vt vl vp:Value} {S:Sts} {T:LL} {V:List Bool} {P:List S2} (H:Ns w vs vt vl S T V) (RP:Rd K2 w vp P) (s:Int):Calls Tryz.prog 32 #[vs,vt,vl,vp,.int .i64 s] w (HrdPost w (hrV S T V P s) (hrB S T V P s)):=by
 have FA:=Lib.hid (frame_any H RP s);unfold FramePost at FA;have NO:=Lib.hid (fun h w' b=>hrd_no (S:=S) (T:=T) (V:=V) (P:=P) (s:=s) (w:=w) (w':=w') h b);have YES:=Lib.hid (fun h w' b=>hrd_yes (S:=S) (T:=T) (V:=V) (P:=P) (s:=s) (w:=w) (w':=w') h b);have HB:Hid (hrB S T V P s=(snB S T V s && decide (te (frF S T V P s)=0) && !tp (frF S T V P s))):=Lib.hid rfl;clear H RP;generalize hrV S T V P s=x at *;generalize hrB S T V P s=hb at *;generalize frF S T V P s=F at *;generalize sbN S T V s=m at *;generalize snB S T V s=bb at *
 go_enter Tryz.func32,Tryz.ntmps32
 go_wp2_with fail;refine FA.out.mono ?_;rintro e w1 ⟨rfl,b1⟩;have B1:=Lib.hid (b1.alloc b1.size (.cells (arr F) 113));have R1:=Lib.hid (Row.new w1 F);clear b1 FA;have TA:=Lib.hid (take_any (w1.alloc (.cells (arr F) 113)) F)
 cases bb with
 | false =>
   have N2:=Lib.hid (NO.out (by rw [HB.out];rfl) _ B1.out);clear NO YES HB TA
   go_wp2_with ((with_reducible refine store_new (o:=⟨none,_,_,_,_,_⟩) rfl _ _ rfl F ?_ ?_ ?_);(exact rfl);(exact rfl))
   go_ret2
   exact N2.out
 | true =>
   go_wp2_with (first
    | ((with_reducible refine store_new (o:=⟨none,_,_,_,_,_⟩) rfl _ _ rfl F ?_ ?_ ?_);(exact rfl);(exact rfl))
    | ((with_reducible refine load_frame (o:=⟨some 31,_,_,_,_,_⟩) rfl _ rfl w1.heap.size F ?_ R1.out ?_);(exact rfl)))
   refine TA.out.mono ?_;rintro e w2 ⟨rfl,b2⟩;have B2:=Lib.hid (B1.out.trans (b2.mono B1.out.size));clear b2 TA B1 R1;generalize tp F=p at *
   by_cases he:te F=0
   ·cases p with
    | true =>
      have N2:=Lib.hid (NO.out (by rw [HB.out];simp) _ B2.out);clear NO YES HB;generalize tb F=y at *;generalize te F=z at *;go_wp2
      go_ret2
      exact N2.out
    | false =>
      have N2:=Lib.hid (YES.out (by rw [HB.out,decide_eq_true he];rfl) _ B2.out);clear NO YES HB;generalize tb F=y at *;generalize te F=z at *;subst he;go_wp2
      go_ret2
      exact N2.out
   ·have N2:=Lib.hid (NO.out (by rw [HB.out,decide_eq_false he];rfl) _ B2.out)
    clear NO YES HB;generalize tb F=y at *;generalize te F=z at *;have d0:(z != 0)=true:=by simpa using he
    go_wp2
    go_ret2
    exact N2.out
end Go.Proofs.YtljnkaodhfnbbaaGreatDoor.Pa
namespace Go.Proofs.YtljnkaodhfnbbaaGreatDoor.Pa
open Go.RowKit Go.Maps
open Rw (Rd Ow At)
open Fl (row_cell row_frozen ret_bool)
open Ck (LL lat sN sE tE tN RdL tables_any TabPost)
def nI (ps:List (Option Nat)):Int:=match ps.findIdx? Option.isNone with | some k=>k | none=>-1
def nB (ps:List (Option Nat)):Bool:=ps.any Option.isNone
theorem nI_hit {ps:List (Option Nat)} {k:Nat} (hk:k < ps.length) (h:∀ j,j < k→(ps.getD j none).isSome=true) (hn:ps.getD k none=none):nI ps=k:=by
 have e:ps.findIdx? Option.isNone=some k:=by
  rw [List.findIdx?_eq_some_iff_getElem];refine ⟨hk,?_,fun j hj=>?_⟩
  ·rw [List.getD_eq_getElem?_getD,List.getElem?_eq_getElem hk] at hn
   have:ps[k]=none:=hn;rw [this];rfl
  ·have:=h j hj
   rw [List.getD_eq_getElem?_getD,List.getElem?_eq_getElem (by omega)] at this;have h2:(ps[j]'(by omega)).isSome=true:=this
   cases e2:ps[j]'(by omega) with
   | none=>rw [e2] at h2;cases h2
   | some q=>simp
 unfold nI;rw [e]
theorem nI_miss {ps:List (Option Nat)} (h:∀ j,j < ps.length→(ps.getD j none).isSome=true):nI ps = -1:=by
 have e:ps.findIdx? Option.isNone=none:=by
  rw [List.findIdx?_eq_none_iff]
  intro x hx
  obtain ⟨j,hj,e⟩:=List.getElem_of_mem hx;have:=h j hj;rw [List.getD_eq_getElem?_getD,List.getElem?_eq_getElem hj] at this;have h2:(ps[j]).isSome=true:=this;rw [e] at h2
  cases x with
  | none=>cases h2
  | some q=>rfl
 unfold nI;rw [e]
theorem nB_is (ps:List (Option Nat)):decide (0≤nI ps)=nB ps:=by
 unfold nI nB
 rcases e:ps.findIdx? Option.isNone with _ | k
 ·have:=List.findIdx?_eq_none_iff.1 e
  rw [show ps.any Option.isNone=false from List.any_eq_false.2 fun x hx=>by have h:=this x hx;cases x <;> simp_all]
  rfl
 ·obtain ⟨hk,h,_⟩:=List.findIdx?_eq_some_iff_getElem.1 e
  rw [show ps.any Option.isNone=true from List.any_eq_true.2 ⟨_,List.getElem_mem hk,h⟩];exact decide_eq_true (Int.natCast_nonneg k)
theorem nB_some (l:List Nat):nB (l.map some)=false:=by
 unfold nB;rw [List.any_eq_false]
 intro x hx
 obtain ⟨y,_,rfl⟩:=List.mem_map.1 hx
 simp
theorem eqIn_nil {P:Program} (W:World) (d:Nat) (t te:TypeId) (a:Addr) (h:P.underlying t=some (.pointer te)):(Op.equalIn (d+1) t (.pointer none) (.pointer (some a))).run P W = .ok false W:=by
 simp [Op.equalIn,run_underlying h]
theorem eq_nil {P:Program} (W:World) (t te:TypeId) (a:Addr) (h:P.underlying t=some (.pointer te)):(Op.equal t (.pointer none) (.pointer (some a))).run P W = .ok false W:=eqIn_nil W 9999 t te a h
theorem eql_nil {P:Program} (W:World) (t te:TypeId) (a:Addr) (h:P.underlying t=some (.pointer te)):(binOp .eql t (.pointer none) (.pointer (some a))).run P W = .ok (.bool false) W:=by
 simp only [binOp]
 simp [eq_nil W t te a h]
theorem pt_eql (q:Nat) (W:World):(binOp .eql 89 (.pointer none) (.pointer (some ⟨q,0,none⟩))).run Tryz.prog W = .ok (.bool false) W:=eql_nil W _ _ _ Tryz.underlying89
set_option maxHeartbeats 400000 in
theorem index_any (w:World) (v:Value) (ps:List (Option Nat)) (R:Rd KP w v ps):Calls Tryz.prog 215 #[v,.pointer none] w fun e w'=>e = .returned (.int .i64 (nI ps))∧Below w.heap.size w w':=by
 have HIT:Hid (∀ k,k < ps.length→(∀ j,j < k→(ps.getD j none).isSome=true)→ps.getD k none=none→nI ps=k):=Lib.hid (fun k hk h hn=>nI_hit hk h hn);have MISS:Hid ((∀ j,j < ps.length→(ps.getD j none).isSome=true)→nI ps = -1):=Lib.hid nI_miss;obtain ⟨a,cap,rfl,_,hm,hA⟩:=R;have HA:=Lib.hid hA;unfold maxLen at hm;clear hA;generalize hn:ps.length=n at *;have HN:=Lib.hid hn;clear hn;generalize nI ps=r at *
 go_enter Tryz.func215,Tryz.ntmps215
 go_wp2
 go_loopw [8] (fun i wr=>∃ k:Nat,k≤n∧i = .int .i64 k∧Hid (Below w.heap.size w wr)∧Hid (∀ j,j < k→(ps.getD j none).isSome=true)) (fun i _=>n - (intOf i).toNat)
 case atStart=>exact ⟨0,Nat.zero_le _,rfl,Below.refl _ _,fun j hj=>by omega⟩
 case round =>
  obtain ⟨k,hk,rfl,bw,hs⟩:=hrel
  by_cases hlt:k < n
  ·obtain ⟨b,off,rfl,A1⟩:=HA.out (by omega)
   have c:=atP (A1.below bw.out) (i:=k) (by have:=HN.out;omega);have HT:=Lib.hid (HIT.out k hlt hs.out)
   have NX:Hid ((ps.getD k none).isSome=true→∀ j,j < k+1→(ps.getD j none).isSome=true):=Lib.hid (fun g j hj=>by
    by_cases e:j=k
    ·rw [e];exact g
    ·exact hs.out j (by omega))
   clear A1
   cases hp:ps.getD k none with
   | none =>
     rw [hp] at c;have E:=Lib.hid (HT.out hp);unfold pv at c;simp only [Option.map_none] at c;clear HT NX HIT MISS;go_wp2
     go_ret
     exact ⟨by rw [E.out];rfl,bw.out⟩
   | some q =>
     rw [hp] at c;have S1:=Lib.hid (NX.out (by rw [hp];rfl));unfold pv at c;simp only [Option.map_some] at c;have hN:=pt_eql q;clear HT NX;go_wp2
     go_roundw
     case rel=>exact ⟨k+1,by omega,by go_num,bw,S1⟩
     case measure=>simp [intOf];omega
  ·obtain rfl:k=n:=by omega
   have E:=Lib.hid (MISS.out hs.out);go_wp2
   go_ret
   exact ⟨by rw [E.out];rfl,bw.out⟩
theorem contains_any (w:World) (v:Value) (ps:List (Option Nat)) (R:Rd KP w v ps):Calls Tryz.prog 183 #[v,.pointer none] w fun e w'=>e = .returned (.bool (nB ps))∧Below w.heap.size w w':=by
 have C:=Lib.hid (index_any w v ps R);have E:=Lib.hid (nB_is ps);clear R;generalize nI ps=r at *;generalize nB ps=q at *
 go_enter Tryz.func183,Tryz.ntmps183
 go_wp2_with fail;refine C.out.mono ?_;rintro e w1 ⟨rfl,b1⟩;go_wp2
 go_ret
 exact ⟨by rw [← E.out];rfl,b1⟩
def fE (ps:List (Option Nat)) (T:LL) (V:List Bool):Int:=if 1≤ps.length∧ps.length≤32∧nB ps=false∧T.length=ps.length∧V.length=ps.length then tE T else 1
set_option maxHeartbeats 1000000 in
theorem fault_any (w:World) (vs vt vl:Value) (ps:List (Option Nat)) (T:LL) (V:List Bool) (RS:Rd KP w vs ps) (RT:RdL w vt T) (RV:Rd KB w vl V):Calls Tryz.prog 139 #[vs,vt,vl] w fun e w'=>e = .returned (.int .i64 (fE ps T V))∧Below w.heap.size w w':=by
 have CA:=Lib.hid (contains_any w vs ps RS);have TA:=Lib.hid (fun W b=>tables_any W vt T (RT.below b));unfold TabPost at TA;have NO:Hid (¬ (1≤ps.length∧ps.length≤32∧nB ps=false∧T.length=ps.length∧V.length=ps.length)→fE ps T V=1):=Lib.hid (fun h=>if_neg h);have YES:Hid ((1≤ps.length∧ps.length≤32∧nB ps=false∧T.length=ps.length∧V.length=ps.length)→fE ps T V=tE T):=Lib.hid (fun h=>if_pos h);obtain ⟨a1,c1,rfl,m1⟩:=RS.slice;obtain ⟨a2,c2,rfl,m2⟩:=RT.slice;obtain ⟨a3,c3,rfl,m3⟩:=RV.slice;unfold maxLen at m1 m2 m3;clear RS RT RV;generalize ps.length=n at *;generalize T.length=nt at *;generalize V.length=nv at *;generalize fE ps T V=r at *;generalize nB ps=q at *;generalize tE T=te at *;generalize tN T=tn at *
 by_cases h1:n < 1
 ·have E:=Lib.hid (NO.out (by omega))
  clear NO YES
  go_enter Tryz.func139,Tryz.ntmps139
  go_wp2
  go_ret
  exact ⟨by rw [E.out];rfl,Below.refl _ _⟩
 ·by_cases h2:32 < n
  ·have E:=Lib.hid (NO.out (by omega))
   clear NO YES
   go_enter Tryz.func139,Tryz.ntmps139
   go_wp2
   go_ret
   exact ⟨by rw [E.out];rfl,Below.refl _ _⟩
  ·cases q with
   | true =>
     have E:=Lib.hid (NO.out (by rintro ⟨_,_,h,_⟩;cases h));clear NO YES
     go_enter Tryz.func139,Tryz.ntmps139
     go_wp2_with fail;refine CA.out.mono ?_;rintro e w1 ⟨rfl,b1⟩;go_wp2
     go_ret
     exact ⟨by rw [E.out];rfl,b1⟩
   | false =>
     by_cases h3:nt=n
     ·by_cases h4:nv=n
      ·have E:=Lib.hid (YES.out ⟨by omega,by omega,rfl,h3,h4⟩)
       clear NO YES;subst h3;subst h4
       go_enter Tryz.func139,Tryz.ntmps139
       go_wp2_with fail;refine CA.out.mono ?_;rintro e w1 ⟨rfl,b1⟩;go_wp2_with fail;refine (TA.out w1 b1).mono ?_;rintro e w2 ⟨rfl,b2⟩;go_wp2
       go_ret
       exact ⟨by rw [E.out];rfl,b1.trans (b2.mono b1.size)⟩
      ·have E:=Lib.hid (NO.out (by rintro ⟨_,_,_,_,h⟩;exact h4 h))
       clear NO YES;subst h3;have h5:((nv:Int) != (nt:Int))=true:=by simp;omega
       go_enter Tryz.func139,Tryz.ntmps139
       go_wp2_with fail;refine CA.out.mono ?_;rintro e w1 ⟨rfl,b1⟩;go_wp2
       go_ret
       exact ⟨by rw [E.out];rfl,b1⟩
     ·have E:=Lib.hid (NO.out (by rintro ⟨_,_,_,h,_⟩;exact h3 h))
      clear NO YES;have h5:((nt:Int) != (n:Int))=true:=by simp;omega
      go_enter Tryz.func139,Tryz.ntmps139
      go_wp2_with fail;refine CA.out.mono ?_;rintro e w1 ⟨rfl,b1⟩;go_wp2
      go_ret
      exact ⟨by rw [E.out];rfl,b1⟩
end Go.Proofs.YtljnkaodhfnbbaaGreatDoor.Pa
namespace Go.Proofs.YtljnkaodhfnbbaaGreatDoor.Pa
open Go.RowKit Go.Maps
open Fs (Abs Wf Glob copy_any CopySt grown_of)
open Rw (Rd Ow At)
open Ro (E5 z5 eat K5 okE may_len)
open Fl (row_cell row_frozen)
open Ck (LL lat sN sE tE RdL may_all)
attribute [local irreducible] Sd.wpSd wpQuiet
def hUp (S:Sts) (T:LL) (V:List Bool) (P:List S2) (k:Nat):Hr:=fun n=>if 1≤n∧n < k∧hrB S T V P n=true then some (hrV S T V P n) else none
section
variable {S:Sts} {T:LL} {V:List Bool} {P:List S2}
theorem hUp_one:hUp S T V P 1=fun _=>none:=funext fun n=>by unfold hUp;rw [if_neg (by omega)]
theorem hUp_yes {k:Nat} (h1:1≤k) (h:hrB S T V P k=true):hput (hUp S T V P k) k (hrV S T V P k)=hUp S T V P (k+1):=funext fun n=>by
 unfold hput hUp
 by_cases e:n=k
 ·subst e
  rw [if_pos rfl,if_pos ⟨by omega,by omega,h⟩]
 ·rw [if_neg e]
  by_cases g:1≤n∧n < (k:Int)∧hrB S T V P n=true
  ·rw [if_pos g,if_pos ⟨g.1,by omega,g.2.2⟩]
  ·rw [if_neg g,if_neg fun q=>g ⟨q.1,by omega,q.2.2⟩]
theorem hUp_no {k:Nat} (h:hrB S T V P k=false):hUp S T V P k=hUp S T V P (k+1):=funext fun n=>by
 unfold hUp
 by_cases g:1≤n∧n < (k:Int)∧hrB S T V P n=true
 ·rw [if_pos g,if_pos ⟨g.1,by omega,g.2.2⟩]
 ·rw [if_neg g,if_neg fun q=>by
   by_cases e:n=k
   ·subst e;rw [h] at q;cases q.2.2
   ·exact g ⟨q.1,by omega,q.2.2⟩]
theorem hUp_end:hUp S T V P 17=hr S T V P:=funext fun n=>by
 unfold hUp hr
 by_cases g:1≤n∧n < ((17:Nat):Int)∧hrB S T V P n=true
 ·rw [if_pos g,if_pos ⟨g.1,by omega,g.2.2⟩]
 ·rw [if_neg g,if_neg fun q=>g ⟨q.1,by omega,q.2.2⟩]
end
structure H1 (w:World) (b k:Nat) (h:Hr) (wr:World):Prop where
 mp:∃ N,HBl wr b N h∧N≤k
 lo:w.heap.size≤b
 bel:Below w.heap.size w wr
theorem H1.below {w wr wr':World} {b k:Nat} {h:Hr} (H:H1 w b k h wr) (hb:Below wr.heap.size wr wr'):H1 w b k h wr':=by
 obtain ⟨⟨N,m,hN⟩,lo,bel⟩:=H;exact ⟨⟨N,m.below hb,hN⟩,lo,bel.trans (hb.mono bel.size)⟩
def rdL (S:Sts) (T:LL) (V:List Bool) (P:List S2):Sts:=if rdE S T V=0 then rdS S T V (hr S T V P) else []
def RoundPost (w:World) (E:Int) (S':Sts) (e:Ending) (w':World):Prop:=∃ v,e = .returned (.tuple #[v,.int .i64 E])∧Stl w' v S'∧Below w.heap.size w w'
theorem stl_nil (w:World):Stl w (.slice none 0 0) []:=⟨[],Rd.nil w,rfl,fun i hi=>by cases hi⟩
set_option maxHeartbeats 1000000 in
theorem round_any {w:World} {vs vt vl vp:Value} {S:Sts} {T:LL} {V:List Bool} {P:List S2} (HS:Stl w vs S) (HT:RdL w vt T) (HV:Rd KB w vl V) (RP:Rd K2 w vp P) (hg:Glob w) (hd:∀ i,i < S.length→0≤(sat S i).2∧(sat S i).2 < 900000) :
 Calls Tryz.prog 79 #[vs,vt,vl,vp] w (RoundPost w (rdE S T V) (rdL S T V P)):=by
 have FA:Hid (Calls Tryz.prog 139 #[vs,vt,vl] w fun e w'=>e = .returned (.int .i64 (rdE S T V))∧Below w.heap.size w w'):=Lib.hid (by
  obtain ⟨ps,h1,h2,_⟩:=HS;have:=fault_any w vs vt vl (ps.map some) T V (rd_some h1) HT HV;have e:fE (ps.map some) T V=rdE S T V:=by
   unfold fE rdE;rw [nB_some,List.length_map,h2];simp only [true_and]
  rw [e] at this
  exact this)
 by_cases hE:rdE S T V=0
 ·have hcond:1≤S.length∧S.length≤32∧T.length=S.length∧V.length=S.length∧tE T=0:=by
   unfold rdE at hE
   split at hE
   ·rename_i h
    exact ⟨h.1,h.2.1,h.2.2.1,h.2.2.2,hE⟩
   ·omega
  have NS:Hid (Ns w vs vt vl S T V):=Lib.hid ⟨HS,HT,HV,hcond.2.2.1,hcond.2.2.2.1,hcond.2.2.2.2⟩;have RR:=Lib.hid RP;have GG:=Lib.hid hg;have DD:=Lib.hid hd;have EL:Hid (rdL S T V P=rdS S T V (hr S T V P)):=Lib.hid (if_pos hE);rw [hE] at FA;rw [hE,EL.out];have HR:Hid (∀ s,Calls Tryz.prog 32 #[vs,vt,vl,vp,.int .i64 s] w (HrdPost w (hrV S T V P s) (hrB S T V P s))):=Lib.hid (fun s=>heard_any NS.out RP s);have HE:=Lib.hid (fun W b s=>heard_any (NS.out.below (w':=W) b) (RP.below b) s);obtain ⟨sa,cs,rfl,hms⟩:=HS.slice;clear HS HT HV RP hg hd hE HR;generalize hn:S.length=n at *;have HN:=Lib.hid hn;clear hn;have hmm:=@run_makeMap Tryz.prog
  go_enter Tryz.func79,Tryz.ntmps79
  go_wp2_with fail;refine FA.out.mono ?_;rintro e w1 ⟨rfl,b1⟩;have M0:Hid (H1 w w1.heap.size 0 (hUp S T V P 1) (w1.alloc (.map #[] 0))):=Lib.hid ⟨⟨0,by rw [hUp_one];exact hbl_new w1,Nat.le_refl _⟩,b1.size,b1.alloc b1.size _⟩;clear b1 FA;go_wp2;clear hmm;generalize (w1.alloc (.map #[] 0))=W0 at *;generalize w1.heap.size=b at *
  go_loopw [12] (fun i wr=>∃ k:Nat,1≤k∧k≤17∧i = .int .i64 k∧Hid (H1 w b k (hUp S T V P k) wr)) (fun i _=>17 - (intOf i).toNat)
  case atStart=>exact ⟨1,by omega,by omega,rfl,⟨by obtain ⟨N,m,h⟩:=M0.out.mp;exact ⟨N,m,by omega⟩,M0.out.lo,M0.out.bel⟩⟩
  case round =>
   obtain ⟨k,hk1,hk,rfl,I⟩:=hrel;clear M0
   by_cases hlt:k < 17
   ·have HK:=Lib.hid (HE.out wr I.out.bel (k:Int))
    have YY:=Lib.hid (fun h=>hUp_yes (S:=S) (T:=T) (V:=V) (P:=P) (k:=k) hk1 h);have NN:=Lib.hid (fun h=>hUp_no (S:=S) (T:=T) (V:=V) (P:=P) (k:=k) h);have WK:=Lib.hid (wf_of (n:=(k:Int)) ⟨by omega,by omega⟩);unfold HrdPost at HK;go_wp2_with fail;refine HK.out.mono ?_;rintro e w2 ⟨rfl,b2⟩;have I2:=Lib.hid (I.out.below b2);clear b2 I HK;generalize hrV S T V P (k:Int)=y at *
    cases hh:hrB S T V P (k:Int) with
    | false =>
      have EQ:=Lib.hid (NN.out hh);have I3:Hid (H1 w b (k+1) (hUp S T V P (k+1)) w2):=Lib.hid ⟨by obtain ⟨N,m,h⟩:=I2.out.mp;exact ⟨N,by rw [← EQ.out];exact m,by omega⟩,I2.out.lo,I2.out.bel⟩;clear YY NN I2 EQ hh;go_wp2
      go_roundw
      case rel=>exact ⟨k+1,by omega,by omega,by go_num,I3⟩
      case measure=>simp [intOf];omega
    | true =>
      have EQ:=Lib.hid (YY.out hh);obtain ⟨N,m,hN⟩:=I2.out.mp;have M2:=Lib.hid m;have LO:=Lib.hid I2.out.lo;have BE:=Lib.hid I2.out.bel;clear YY NN hh m I2
      go_wp2_with (first
       | (at_mapUpdate;refine at_hput rfl _ _ _ rfl rfl M2.out (by unfold maxLen;omega) (k:Int) y rfl rfl WK.out ?_;intro w4 m4 g4)
       | fail)
      have I3:Hid (H1 w b (k+1) (hUp S T V P (k+1)) w4):=Lib.hid ⟨⟨N+1,by rw [← EQ.out];exact m4,by omega⟩,LO.out,BE.out.grown g4 BE.out.size (fun j e=>by injection e with e;have:=LO.out;omega)⟩;clear m4 g4 M2 EQ BE LO;go_wp2
      go_roundw
      case rel=>exact ⟨k+1,by omega,by omega,by go_num,I3⟩
      case measure=>simp [intOf];omega
   ·have e17:k=17:=by omega
    rw [e17,hUp_end] at I;clear e17;have HM:Hid (∀ W,Below wr.heap.size wr W→HMap W (.map (some b)) (hr S T V P)):=Lib.hid (fun W hb=>by obtain ⟨⟨N,m,_⟩,_,_⟩:=I.out;exact ⟨b,N,rfl,m.below hb⟩);have BW:=Lib.hid I.out.bel;have OH:=Lib.hid (hr_ok S T V P);clear I HE;generalize hr S T V P=h at *;have AT:=Lib.hid (fun i hi=>rdS_at S T V h (i:=i) hi);have RL:=Lib.hid (rdS_len S T V h);generalize rdS S T V h=S' at *;clear EL;go_wp2;clear hk1 hk hlt;generalize (k:Int)=kk at *
    rename World=>wA
    go_loopw [45,15] (fun i o wr2=>∃ (k:Nat) (ps:List Nat),k≤n∧i = .int .i64 k∧Hid (PI SAp 89 wA S' k o ps wr2)) (fun i _ _=>n - (intOf i).toNat)
    case atStart=>exact ⟨0,[],Nat.zero_le _,rfl,PI.start wA (Below.refl _ _)⟩
    case round =>
     obtain ⟨k,ps,hk,rfl,I⟩:=hrel;have BI:=Lib.hid (BW.out.trans (I.out.bel.mono BW.out.size));obtain ⟨av,cv,ev,_⟩:=I.out.own.slice;have OWN:=Lib.hid I.out.own;generalize ps.length=Lp at ev;subst ev
     by_cases hlt:k < n
     ·have N1:=Lib.hid (NS.out.below BI.out)
      obtain ⟨b1,o1,c1,s,e1,cS,hS⟩:=N1.out.st.one (k:=k) (by have:=HN.out;omega);rw [HN.out] at e1;injection e1 with e1 _ e2;subst e1 e2;obtain ⟨b2,o2,c2,at',ct,e2,cT,_,_⟩:=N1.out.tb.one (k:=k) (by omega);have RT:=Lib.hid (N1.out.tb.rd (k:=k) (by omega) e2 cT);rw [hcond.2.2.1] at e2;subst e2;obtain ⟨a3,c3,e3,_,_,h3⟩:=N1.out.lv;rw [hcond.2.2.2.1] at e3;subst e3;obtain ⟨b3,o3,rfl,A3⟩:=h3 (by omega);have cV:=atB A3 (i:=k) (by omega);rw [show V.getD k false=vat V k from rfl] at cV;have EA:=Lib.hid (AT.out k (by have:=HN.out;omega));have OKT:=Lib.hid (tab_each N1.out.ok (k:=k) (by omega));have ML:=Lib.hid (may_len (may_all (not_bad N1.out.ok) k (by omega)));have HS2:=Lib.hid hS;clear hS h3 A3 N1;unfold ptr at cS
      cases hv:vat V k with
      | true =>
        rw [hv] at cV;have AP:=Lib.hid (apply_any HS2.out (GG.out.below BI.out) (DD.out k (by omega)) RT.out (fun y hy=>(OKT.out y hy).1) (by have:=ML.out;omega) (HM.out wr I.out.bel) OH.out);rw [hv,if_pos rfl] at EA;unfold ApPost at AP;clear HS2;generalize (lat T k).length=lk at *;go_wp2_with fail;refine AP.out.mono ?_;rintro e w5 ⟨g,F5,rfl,st5,lo5,b5⟩;have LN:=Lib.hid I.out.len;have BL:=b5.alloc b5.size (.cells #[.pointer (some ⟨g,0,none⟩)] 89);have I5:=Lib.hid (I.out.below sap_good BL);have G5:Hid (SAp (w5.alloc (.cells #[.pointer (some ⟨g,0,none⟩)] 89)) g (sat S' k) (Value.slice av Lp cv).ownBlock):=Lib.hid (sap_good.below (by rw [EA.out];exact sap_new st5 lo5 I.out.lt) ((Below.refl w5.heap.size w5).alloc (Nat.le_refl _) _));clear st5 lo5 b5 I OWN AP cS cT cV BL
        (try unfold ptr)
        go_wp2_with (at_builtin;refine push_at (K:=KN) Tryz.underlying78 infoN rfl (by omega) rfl _ _ rfl wA.heap.size _ _ rfl I5.out.own _ g rfl ?d1 ?d2 ?d3 ?_)
        case d1 =>
         intro j u hu
         match j,hu with
         | 0,hu=>simp [KN] at hu;subst hu;unfold ptr;go_simp
         | j+1,hu=>simp [KN] at hu
        case d2=>rw [LN.out];omega
        case d3=>have:=I5.out.bel.size;exact this
        intro v' w6 o6 g6 h6
        have NEW:=Lib.hid (I5.out.push sap_good o6 g6 (by simpa using h6) G5.out);clear o6 g6 h6 I5 G5 LN;obtain ⟨av',cv',ev',_⟩:=NEW.out.own.slice;generalize (ps ++ [g]).length=Lp' at ev';subst ev';go_wp2
        go_roundw
        case rel=>exact ⟨k+1,ps ++ [g],by omega,by go_num,NEW⟩
        case measure=>simp [intOf];omega
      | false =>
        rw [hv] at cV;rw [hv,if_neg Bool.false_ne_true] at EA;have AP:=Lib.hid (copy_has HS2.out);unfold CopySt at AP;clear HS2;generalize (lat T k).length=lk at *;go_wp2_with fail;refine AP.out.mono ?_;rintro e w5 ⟨g,F5,rfl,st5,lo5,b5⟩;have LN:=Lib.hid I.out.len;have BL:=b5.alloc b5.size (.cells #[.pointer (some ⟨g,0,none⟩)] 89);have I5:=Lib.hid (I.out.below sap_good BL);have G5:Hid (SAp (w5.alloc (.cells #[.pointer (some ⟨g,0,none⟩)] 89)) g (sat S' k) (Value.slice av Lp cv).ownBlock):=Lib.hid (sap_good.below (by rw [EA.out];exact sap_new st5 lo5 I.out.lt) ((Below.refl w5.heap.size w5).alloc (Nat.le_refl _) _));clear st5 lo5 b5 I OWN AP cS cT cV BL
        (try unfold ptr)
        go_wp2_with (at_builtin;refine push_at (K:=KN) Tryz.underlying78 infoN rfl (by omega) rfl _ _ rfl wA.heap.size _ _ rfl I5.out.own _ g rfl ?d1 ?d2 ?d3 ?_)
        case d1 =>
         intro j u hu
         match j,hu with
         | 0,hu=>simp [KN] at hu;subst hu;unfold ptr;go_simp
         | j+1,hu=>simp [KN] at hu
        case d2=>rw [LN.out];omega
        case d3=>have:=I5.out.bel.size;exact this
        intro v' w6 o6 g6 h6
        have NEW:=Lib.hid (I5.out.push sap_good o6 g6 (by simpa using h6) G5.out);clear o6 g6 h6 I5 G5 LN;obtain ⟨av',cv',ev',_⟩:=NEW.out.own.slice;generalize (ps ++ [g]).length=Lp' at ev';subst ev';go_wp2
        go_roundw
        case rel=>exact ⟨k+1,ps ++ [g],by omega,by go_num,NEW⟩
        case measure=>simp [intOf];omega
     ·obtain rfl:k=n:=by omega
      have RES:Hid (RoundPost w 0 S' (.returned (.tuple #[.slice av Lp cv,.int .i64 0])) wr):=Lib.hid ⟨_,rfl,PI.stl (S:=S') (by rw [RL.out,HN.out];exact I.out),BI.out⟩;clear I OWN;go_wp2
      go_ret2
      exact RES.out
 ·have EL:Hid (rdL S T V P = []):=Lib.hid (if_neg hE)
  rw [EL.out];have HEE:=Lib.hid hE;have hne:(rdE S T V != 0)=true:=by simpa using hE
  obtain ⟨sa,cs,rfl,hms⟩:=HS.slice;clear HS HT HV RP hg hd hE;generalize rdE S T V=E at *
  go_enter Tryz.func79,Tryz.ntmps79
  go_wp2_with fail;refine FA.out.mono ?_;rintro e w1 ⟨rfl,b1⟩;have RES:Hid (RoundPost w E [] (.returned (.tuple #[.slice none 0 0,.int .i64 E])) w1):=Lib.hid ⟨_,rfl,stl_nil w1,b1⟩;clear b1 FA;go_wp2
  go_ret2
  exact RES.out
end Go.Proofs.YtljnkaodhfnbbaaGreatDoor.Pa
namespace Go.Proofs.YtljnkaodhfnbbaaGreatDoor.Tk
open Go.RowKit
def Steps (w:World) (v:Value) (n:Nat) (A R:Nat→Int):Prop :=
 (∃ (a:Option Addr) (cap:Nat),v = .slice a 0 cap∧cap≤maxLen∧n=0) ∨
 ∃ (b off cap:Nat),v = .slice (some ⟨b,off,none⟩) n cap∧n≤cap∧cap≤maxLen ∧
  ∀ i,i < n→w.cell? ⟨b,off+i * 2,none⟩=some (.int .i64 (A i))∧w.cell? ⟨b,off+i * 2+1,none⟩=some (.int .i64 (R i))
theorem Steps.below {w w':World} {v:Value} {n:Nat} {A R:Nat→Int} (h:Steps w v n A R) (b:Below w.heap.size w w'):Steps w' v n A R:=by
 rcases h with h | ⟨b0,off,cap,e,h1,h2,hc⟩
 ·exact .inl h
 ·refine .inr ⟨b0,off,cap,e,h1,h2,fun i hi=>?_⟩
  obtain ⟨c1,c2⟩:=hc i hi;exact ⟨(b.cell (World.block_lt_of_cell? _ _ c1)).trans c1,(b.cell (World.block_lt_of_cell? _ _ c2)).trans c2⟩
end Go.Proofs.YtljnkaodhfnbbaaGreatDoor.Tk
namespace Go.Proofs.YtljnkaodhfnbbaaGreatDoor.Bu
open Go.RowKit
open Sp (S2 fr tp Sp)
open Wi (Plain PlainOf Low low_nil)
open Ck (LL lat sN sE tE)
open Pa (Sts Hr hput sat vat snB sbN frF hr rdE rdS rdL sender_is)
open Se (lows lows_mem Glo_in)
def OsL (w:World) (v:Value) (O:List Osc):Prop:=∃ a cap,v = .slice a O.length cap∧O.length≤cap∧cap≤maxLen ∧
 (0 < O.length→∃ b off,a=some ⟨b,off,none⟩∧∀ i:Nat,i < O.length→∃ u,w.cell? ⟨b,off+i,none⟩=some u∧Tk.Steps w u (osc O i).n (osc O i).A (osc O i).R)
theorem OsL.below {w w':World} {v:Value} {O:List Osc} (h:OsL w v O) (hb:Below w.heap.size w w'):OsL w' v O:=by
 obtain ⟨a,cap,e,h1,h2,h3⟩:=h;refine ⟨a,cap,e,h1,h2,fun hp=>?_⟩;obtain ⟨b,off,ea,hA⟩:=h3 hp;refine ⟨b,off,ea,fun i hi=>?_⟩;obtain ⟨u,c,r⟩:=hA i hi;exact ⟨u,(hb.cell (World.block_lt_of_cell? _ _ c)).trans c,r.below hb⟩
theorem OsL.slice {w:World} {v:Value} {O:List Osc} (h:OsL w v O):∃ a cap,v = .slice a O.length cap∧O.length≤cap∧cap≤maxLen:=by
 obtain ⟨a,cap,e,h1,h2,_⟩:=h;exact ⟨a,cap,e,h1,h2⟩
theorem steps_form {w:World} {v:Value} {n:Nat} {A R:Nat→Int} (h:Tk.Steps w v n A R):∃ a cap,v = .slice a n cap∧n≤cap∧cap≤maxLen:=by
 rcases h with ⟨a,cap,rfl,h,rfl⟩ | ⟨b,off,cap,rfl,h0,h,_⟩
 ·exact ⟨a,cap,rfl,Nat.zero_le _,h⟩
 ·exact ⟨_,cap,rfl,h0,h⟩
theorem steps_at {w:World} {a:Option Addr} {n m cap:Nat} {A R:Nat→Int} (h:Tk.Steps w (.slice a n cap) m A R) (hp:0 < n):m=n∧∃ b off,a=some ⟨b,off,none⟩∧∀ i,i < n→w.cell? ⟨b,off+i * 2,none⟩=some (.int .i64 (A i))∧w.cell? ⟨b,off+i * 2+1,none⟩=some (.int .i64 (R i)):=by
 rcases h with ⟨a',cap',e,h,rfl⟩ | ⟨b,off,cap',e,_,h,hc⟩
 ·injection e with _ e _;omega
 ·injection e with e1 e2 _
  subst e1 e2;exact ⟨rfl,b,off,rfl,hc⟩
theorem OsL.one {w:World} {v:Value} {O:List Osc} (h:OsL w v O) {k:Nat} (hk:k < O.length):∃ b off cap a' cap',v = .slice (some ⟨b,off,none⟩) O.length cap∧w.cell? ⟨b,off+k,none⟩=some (.slice a' (osc O k).n cap')∧((osc O k).n≤cap'∧cap'≤maxLen)∧Tk.Steps w (.slice a' (osc O k).n cap') (osc O k).n (osc O k).A (osc O k).R:=by
 obtain ⟨a,cap,e,h1,h2,h3⟩:=h;obtain ⟨b,off,rfl,hA⟩:=h3 (by omega);obtain ⟨u,c,s⟩:=hA k hk;obtain ⟨a',cap',rfl,h4⟩:=steps_form s;exact ⟨b,off,cap,a',cap',e,c,h4,s⟩
theorem osc_mem {O:List Osc} {k:Nat} (hk:k < O.length):osc O k∈O:=by
 unfold osc;rw [Int.toNat_natCast,List.getD_eq_getElem?_getD,List.getElem?_eq_getElem hk];exact List.getElem_mem hk
noncomputable def calmB (o:Osc):Bool:=@decide o.calm (Classical.propDecidable _)
theorem calmB_yes {o:Osc} (h:o.calm):calmB o=true:=by unfold calmB;exact @decide_eq_true _ (Classical.propDecidable _) h
theorem calmB_no {o:Osc} (h:¬ o.calm):calmB o=false:=by unfold calmB;exact @decide_eq_false _ (Classical.propDecidable _) h
theorem of_calmB {o:Osc} (h:calmB o=true):o.calm:=by unfold calmB at h;exact @of_decide_eq_true _ (Classical.propDecidable _) h
def calmL (O:List Osc):Prop:=∀ o∈O,o.calm
noncomputable def calmLB (O:List Osc):Bool:=O.all calmB
theorem of_calmLB {O:List Osc} (h:calmLB O=true):calmL O:=fun o ho=>of_calmB (List.all_eq_true.1 h o ho)
theorem rdE_zero {S:Sts} {T:LL} {V:List Bool} (hE:rdE S T V=0):1≤S.length∧S.length≤32∧T.length=S.length∧V.length=S.length∧tE T=0:=by
 unfold rdE at hE
 split at hE
 ·rename_i h
  exact ⟨h.1,h.2.1,h.2.2.1,h.2.2.2,hE⟩
 ·omega
noncomputable def buE (S:Sts) (T:LL) (V:List Bool) (O:List Osc):Int:=if rdE S T V=0 then (if O.length=S.length∧calmLB O=true then 0 else 1) else rdE S T V
noncomputable def buL (S:Sts) (T:LL) (V:List Bool) (P:List S2) (O:List Osc):Sts:=if buE S T V O=0 then rdS S T V (hr S T V P) else []
section
variable {S:Sts} {T:LL} {V:List Bool} {P:List S2} {O:List Osc}
theorem buE_wrong (h:rdE S T V≠0):buE S T V O=rdE S T V∧buL S T V P O = []:=by
 have e:buE S T V O=rdE S T V:=if_neg h;exact ⟨e,if_neg (by rw [e];exact h)⟩
theorem buE_wild (h:rdE S T V=0) (h':¬ (O.length=S.length∧calmLB O=true)):buE S T V O=1∧buL S T V P O = []:=by
 have e:buE S T V O=1:=by unfold buE;rw [if_pos h,if_neg h']
 exact ⟨e,if_neg (by rw [e];decide)⟩
theorem buE_ok (h:rdE S T V=0) (h1:O.length=S.length) (h2:calmLB O=true):buE S T V O=0∧buL S T V P O=rdS S T V (hr S T V P):=by
 have e:buE S T V O=0:=by unfold buE;rw [if_pos h,if_pos ⟨h1,h2⟩]
 exact ⟨e,if_pos e⟩
theorem buE_zero (h:buE S T V O=0):rdE S T V=0∧O.length=S.length∧calmL O∧buL S T V P O=rdL S T V P:=by
 by_cases h0:rdE S T V=0
 ·by_cases h':O.length=S.length∧calmLB O=true
  ·refine ⟨h0,h'.1,of_calmLB h'.2,?_⟩
   rw [(buE_ok h0 h'.1 h'.2).2];exact (if_pos h0).symm
  ·have:=(buE_wild (P:=[]) h0 h').1
   omega
 ·have:=(buE_wrong (O:=O) (P:=[]) h0).1
  omega
end
theorem plain_count:∀ (l:List S2) (a b:Int),a≤b→Plain l→(∀ s∈l,a≤s.1∧s.1 < b)→(l.length:Int)≤b - a
 | [],a,b,h,_,_=>by simp;omega
 | s :: r,a,b,h,hp,hs=>by
   have p:=Wi.plain_cons.1 hp;have q:=hs s List.mem_cons_self;have ih:=plain_count r (s.1+1) b (by omega) p.1 fun x hx=>by
    have:=p.2.2 x hx;have:=hs x (List.mem_cons_of_mem _ hx)
    omega
   simp only [List.length_cons]
   omega
theorem plain_few {l:List S2} (h:Plain l) (hl:∀ u,Low l u→0≤u∧u≤4294967296):l.length≤4294967297:=by
 have:=plain_count l 0 4294967297 (by omega) h fun s hs=>by
  have:=hl s.1 (plain_begin h hs).1
  omega
 omega
theorem low_spans {f:Frs} {k:Nat} {o:Osc} {F:Nat→Bool} (e:f k=some (o,F)) {l:List S2} (h:PlainOf (lows (Tk.Glo o.A o.R o.n) F (224 * (k:Int)) 11) l) (u:Int):Low l u↔LowK f k u:=by
 rw [h.2 u]
 constructor
 ·rintro ⟨s,hs,a,b⟩
  obtain ⟨i,hi,hF,rfl⟩:=lows_mem.1 hs;exact ⟨o,F,e,i,hi,hF,a,b⟩
 ·rintro ⟨o',F',e',i,hi,hF,a,b⟩
  rw [e] at e';injection e' with e';injection e' with e1 e2;subst e1 e2;exact ⟨_,lows_mem.2 ⟨i,hi,hF,rfl⟩,a,b⟩
theorem lowK_at {f:Frs} {k:Nat} {u:Int} (h:LowK f k u):0≤u∧u≤4294967296:=by
 obtain ⟨o,F,e⟩:=lowK_ex h;have a:=lowK_in e h;have b:=Glo_in o.A o.R o.n (224 * (k:Int));have c:=Glo_in o.A o.R o.n (224 * (k:Int)+176);unfold Osc.g at a
 omega
def LowUp (S:Sts) (T:LL) (V:List Bool) (P:List S2) (O:List Osc) (j:Int) (k:Nat) (u:Int):Prop:=∃ i:Nat,1≤i∧i < k∧sbN S T V i=j∧LowK (frs S T V P O) i u
section
variable {S:Sts} {T:LL} {V:List Bool} {P:List S2} {O:List Osc} {j:Int} {k:Nat} {u:Int}
theorem lowUp_one:¬ LowUp S T V P O j 1 u:=fun ⟨i,h1,h2,_⟩=>by omega
theorem lowUp_end:LowUp S T V P O j 17 u↔LowJ S T V P O j u:=⟨fun ⟨i,h1,h2,h⟩=>⟨i,h1,by omega,h⟩,fun ⟨i,h1,h2,h⟩=>⟨i,h1,by omega,h⟩⟩
theorem lowUp_yes (h1:1≤k) (e:sbN S T V k=j):LowUp S T V P O j (k+1) u↔LowUp S T V P O j k u∨LowK (frs S T V P O) k u:=by
 constructor
 ·rintro ⟨i,a,b,c,d⟩
  by_cases q:i=k
  ·subst q;exact .inr d
  ·exact .inl ⟨i,a,by omega,c,d⟩
 ·rintro (⟨i,a,b,c,d⟩ | d)
  ·exact ⟨i,a,by omega,c,d⟩
  ·exact ⟨k,h1,by omega,e,d⟩
theorem lowUp_no (h:¬ (snB S T V k=true∧sbN S T V k=j)):LowUp S T V P O j (k+1) u↔LowUp S T V P O j k u:=by
 constructor
 ·rintro ⟨i,a,b,c,d⟩
  by_cases q:i=k
  ·subst q
   obtain ⟨o,F,e⟩:=lowK_ex d
   rcases hs:snB S T V i with _ | _
   ·rw [frs_no hs] at e;cases e
   ·exact absurd ⟨hs,c⟩ h
  ·exact ⟨i,a,by omega,c,d⟩
 ·rintro ⟨i,a,b,c,d⟩
  exact ⟨i,a,by omega,c,d⟩
theorem lowJ_at (h:LowJ S T V P O j u):0≤u∧u≤4294967296:=by obtain ⟨_,_,_,_,h⟩:=h;exact lowK_at h
theorem lowL_at {f:Frs} (h:LowL f u):0≤u∧u≤4294967296:=by obtain ⟨_,_,_,h⟩:=h;exact lowK_at h
end
def SendP (S:Sts) (T:LL) (V:List Bool) (P:List S2) (O:List Osc) (j:Int) (l:List S2):Prop:=Plain l∧∀ u,Low l u↔LowJ S T V P O j u
def LineP (S:Sts) (T:LL) (V:List Bool) (P:List S2) (O:List Osc) (l:List S2):Prop:=Plain l∧∀ u,Low l u↔LowL (frs S T V P O) u
theorem LineP.one {S:Sts} {T:LL} {V:List Bool} {P:List S2} {O:List Osc} {a b:List S2} (ha:LineP S T V P O a) (hb:LineP S T V P O b):a=b:=Wi.plain_one ha.1 hb.1 fun t=>(ha.2 t).trans (hb.2 t).symm
theorem who_sends {S:Sts} {T:LL} {V:List Bool} {P:List S2} {O:List Osc} (ok:tE T=0) (hl:O.length=T.length) (hO:calmL O) {k:Nat} (h:snB S T V k=true) :
 ∃ n:Nat,sbN S T V k=n∧n < O.length∧frs S T V P O k=some (osc O n,frF S T V P k)∧(osc O n).calm:=by
 obtain ⟨n,en,hn,_⟩:=sender_is ok (snB_is h);refine ⟨n,by unfold sbN;rw [if_pos h,en],by omega,by rw [frs_yes h,en],osc_calm hO (by omega)⟩
theorem made_few {Q:Int→Prop} {l:List S2} (hp:Plain l) (hl:∀ u,Low l u→Q u) (hq:∀ u,Q u→0≤u∧u≤4294967296):l.length≤4294967297:=plain_few hp fun u h=>hq u (hl u h)
def LowTo (S:Sts) (T:LL) (V:List Bool) (P:List S2) (O:List Osc) (k:Nat) (u:Int):Prop:=∃ j:Nat,j < k∧LowJ S T V P O j u
theorem lowTo_next {S:Sts} {T:LL} {V:List Bool} {P:List S2} {O:List Osc} (k:Nat) (u:Int):LowTo S T V P O (k+1) u↔LowTo S T V P O k u∨LowJ S T V P O k u:=by
 constructor
 ·rintro ⟨j,hj,h⟩
  by_cases e:j=k
  ·subst e;exact .inr h
  ·exact .inl ⟨j,by omega,h⟩
 ·rintro (⟨j,hj,h⟩ | h)
  ·exact ⟨j,by omega,h⟩
  ·exact ⟨k,by omega,h⟩
def lowH (h:Hr) (k:Nat):Hr:=fun n=>if 1≤n∧n < (k:Int) then h n else none
theorem low_one (h:Hr):lowH h 1=fun _=>none:=funext fun n=>by unfold lowH;rw [if_neg (by omega)]
theorem low_yes {h:Hr} {k:Nat} (h1:1≤k) {y:Int} (e:h k=some y):hput (lowH h k) k y=lowH h (k+1):=funext fun n=>by
 unfold hput lowH
 by_cases g:n=k
 ·subst g;rw [if_pos rfl,if_pos (by omega),e]
 ·rw [if_neg g]
  by_cases q:1≤n∧n < (k:Int)
  ·rw [if_pos q,if_pos (by omega)]
  ·rw [if_neg q,if_neg (by omega)]
theorem low_no {h:Hr} {k:Nat} (e:h k=none):lowH h k=lowH h (k+1):=funext fun n=>by
 unfold lowH
 by_cases g:n=k
 ·subst g;rw [if_neg (by omega),e,ite_self]
 ·by_cases q:1≤n∧n < (k:Int)
  ·rw [if_pos q,if_pos (by omega)]
  ·rw [if_neg q,if_neg (by omega)]
theorem low_end {h:Hr} (o:∀ n:Int,(n < 1∨16 < n)→h n=none):lowH h 17=h:=funext fun n=>by
 unfold lowH
 split
 ·rfl
 ·exact (o n (by omega)).symm
section
variable {x l:List S2} {r:Osc}
theorem lis_out {s:Int} (h:s < 1∨16 < s):lis x l r s=none:=if_neg fun g=>by omega
theorem lis_yes {s:Int} (h1:1≤s) (h2:s≤16) (e:(lisS x l r s).2.2=0) (o:(lisS x l r s).2.1=false):lis x l r s=some (lisS x l r s).1:=if_pos ⟨h1,h2,e,o⟩
theorem lis_no {s:Int} (e:¬ ((lisS x l r s).2.2=0∧(lisS x l r s).2.1=false)):lis x l r s=none:=if_neg fun g=>e ⟨g.2.2.1,g.2.2.2⟩
end
end Go.Proofs.YtljnkaodhfnbbaaGreatDoor.Bu
namespace Go.Proofs.YtljnkaodhfnbbaaGreatDoor.Bu
open Go.RowKit Go.Maps
open Fs (Abs St Rs Only Fx ow_only)
open Rw (Rd Ow At Kind)
open Ro (E5 K5)
open Sp (S2 fr tp)
open Ck (LL lat RdL KS Hd sl zh rdl_of)
open Pa (Sts Stl Rfl Hrf KN KB K2 St4 St4.grow rs4_grow q_fx ow_apart only_grown rs_mono sat Cel cel pat)
section
end
def ofS (s:List S2):Osc:=⟨s.length,fr s,tp s⟩
theorem steps_rd {w:World} {v:Value} {s:List S2} (h:Rd K2 w v s):Tk.Steps w v (ofS s).n (ofS s).A (ofS s).R:=by
 obtain ⟨a,cap,rfl,h1,h2,h3⟩:=h
 by_cases h0:0 < s.length
 ·obtain ⟨b,off,rfl,hA⟩:=h3 h0
  exact .inr ⟨b,off,cap,rfl,h1.1,h2,fun i hi=>⟨hA i hi 0 _ rfl,hA i hi 1 _ rfl⟩⟩
 ·have e:s.length=0:=by omega
  exact .inl ⟨a,cap,by rw [e],h2,e⟩
def osl (L:List Cel) (n:Nat):List Osc:=(List.range n).map fun i=>ofS ((cel L i).S.take 70)
theorem osl_at (L:List Cel) {n i:Nat} (hi:i < n):osc (osl L n) i=ofS ((cel L i).S.take 70):=by
 unfold osc osl;rw [Int.toNat_natCast,List.getD_eq_getElem?_getD,List.getElem?_map,List.getElem?_range hi]
 rfl
theorem osl_of {w:World} {v:Value} {hs:List Hd} {O:List Osc} (h:Rd KS w v hs) (hl:hs.length=O.length) (each:∀ i:Nat,i < O.length→Tk.Steps w (sl (hs.getD i zh)) (osc O i).n (osc O i).A (osc O i).R):OsL w v O:=by
 obtain ⟨a,cap,e,h1,h2,h3⟩:=h;rw [hl] at e h1 h3;refine ⟨a,cap,e,h1.1,h2,fun hp=>?_⟩;obtain ⟨b,off,ea,hA⟩:=h3 hp;refine ⟨b,off,ea,fun i hi=>⟨_,?_,each i hi⟩⟩;have c:=hA i (by rw [hl];exact hi) 0 _ rfl;simp only [KS,Nat.mul_one,Nat.add_zero] at c;exact c
end Go.Proofs.YtljnkaodhfnbbaaGreatDoor.Bu
namespace Go.Proofs.YtljnkaodhfnbbaaGreatDoor.Wp
open Go.RowKit Go.Maps
open Fs (Abs St Rs Only Fx ow_only)
open Rw (Rd Ow At Kind)
open Ck (LL lat RdL KS Hd sl zh rdl_of)
open Pa (Sts KN KB K2 St4 St4.grow q_fx ow_apart only_grown sat)
def Q4 (o1 o2 o3 o4:Value) (b:Nat):Prop:=o1.ownBlock=some b∨o2.ownBlock=some b∨o3.ownBlock=some b∨o4.ownBlock=some b
structure B4I (w:World) (n:Nat) (P:List Nat) (S:Sts) (o1:Value) (l1:List Nat) (o2:Value) (l2:List Hd) (o3:Value) (l3:List Bool) (o4:Value) (l4:List Hd) (wr:World):Prop where
 w1:Ow KN wr w.heap.size 89 o1 l1
 w2:Ow KS wr w.heap.size 85 o2 l2
 w3:Ow KB wr w.heap.size 4 o3 l3
 w4:Ow KS wr w.heap.size 103 o4 l4
 st:∀ i,i < n→St4 wr (P.getD i 0) (sat S i).1 (Q4 o1 o2 o3 o4)
 bel:Below w.heap.size w wr
section
variable {w wr w':World} {n:Nat} {P:List Nat} {S:Sts} {o1 o2 o3 o4 o':Value} {l1:List Nat} {l2:List Hd} {l3:List Bool} {l4:List Hd}
theorem B4I.below (h:B4I w n P S o1 l1 o2 l2 o3 l3 o4 l4 wr) (b:Below wr.heap.size wr w'):B4I w n P S o1 l1 o2 l2 o3 l3 o4 l4 w' :=
 ⟨h.w1.keep b,h.w2.keep b,h.w3.keep b,h.w4.keep b,fun i hi=>by obtain ⟨F,a,d⟩:=h.st i hi;exact ⟨F,a.below b,d⟩,h.bel.trans (b.mono h.bel.size)⟩
theorem B4I.low (h:B4I w n P S o1 l1 o2 l2 o3 l3 o4 l4 wr):∀ k,Q4 o1 o2 o3 o4 k→w.heap.size≤k∧k < wr.heap.size:=fun k g=>by
 rcases g with g | g | g | g
 ·exact World.ownsRow.lt h.w1 k g
 ·exact World.ownsRow.lt h.w2 k g
 ·exact World.ownsRow.lt h.w3 k g
 ·exact World.ownsRow.lt h.w4 k g
theorem B4I.grown (h:B4I w n P S o1 l1 o2 l2 o3 l3 o4 l4 wr) {q:Option Nat} (gr:wr.grownBy w' q) (hq:∀ k,q=some k→Q4 o1 o2 o3 o4 k):Only (Q4 o1 o2 o3 o4) wr w'∧Below w.heap.size w w' :=
 ⟨(only_grown gr).mono fun k _ e=>hq k e,h.bel.grown gr h.bel.size fun j e=>(h.low j (hq j e)).1⟩
theorem B4I.push1 (h:B4I w n P S o1 l1 o2 l2 o3 l3 o4 l4 wr) {x:Nat} (own:Ow KN w' w.heap.size 89 o' (l1 ++ [x])) (gr:wr.grownBy w' o1.ownBlock) (hq:o'.ownBlock=o1.ownBlock∨∃ g,o'.ownBlock=some g∧wr.heap.size≤g):B4I w n P S o' (l1 ++ [x]) o2 l2 o3 l3 o4 l4 w':=by
 obtain ⟨o,b⟩:=h.grown gr fun k e=>.inl e;have fx:∀ k,Q4 o' o2 o3 o4 k→Fx (Q4 o1 o2 o3 o4) wr w' k:=fun k g=>by
  rcases g with g | g | g | g
  ·exact q_fx hq (fun g e=>(World.ownsRow.lt own g e).2) (fun k e=>.inl e) k g
  ·exact .inl (.inr (.inl g))
  ·exact .inl (.inr (.inr (.inl g)))
  ·exact .inl (.inr (.inr (.inr (g))))
 exact ⟨own,ow_only h.w2 (fun k e=>ow_apart h.w2 h.w1 (by decide) k e) (only_grown gr),ow_only h.w3 (fun k e=>ow_apart h.w3 h.w1 (by decide) k e) (only_grown gr),ow_only h.w4 (fun k e=>ow_apart h.w4 h.w1 (by decide) k e) (only_grown gr),fun i hi=>(h.st i hi).grow o fx,b⟩
theorem B4I.push2 (h:B4I w n P S o1 l1 o2 l2 o3 l3 o4 l4 wr) {x:Hd} (own:Ow KS w' w.heap.size 85 o' (l2 ++ [x])) (gr:wr.grownBy w' o2.ownBlock) (hq:o'.ownBlock=o2.ownBlock∨∃ g,o'.ownBlock=some g∧wr.heap.size≤g):B4I w n P S o1 l1 o' (l2 ++ [x]) o3 l3 o4 l4 w':=by
 obtain ⟨o,b⟩:=h.grown gr fun k e=>.inr (.inl e);have fx:∀ k,Q4 o1 o' o3 o4 k→Fx (Q4 o1 o2 o3 o4) wr w' k:=fun k g=>by
  rcases g with g | g | g | g
  ·exact .inl (.inl g)
  ·exact q_fx hq (fun g e=>(World.ownsRow.lt own g e).2) (fun k e=>.inr (.inl e)) k g
  ·exact .inl (.inr (.inr (.inl g)))
  ·exact .inl (.inr (.inr (.inr (g))))
 exact ⟨ow_only h.w1 (fun k e=>ow_apart h.w1 h.w2 (by decide) k e) (only_grown gr),own,ow_only h.w3 (fun k e=>ow_apart h.w3 h.w2 (by decide) k e) (only_grown gr),ow_only h.w4 (fun k e=>ow_apart h.w4 h.w2 (by decide) k e) (only_grown gr),fun i hi=>(h.st i hi).grow o fx,b⟩
theorem B4I.push3 (h:B4I w n P S o1 l1 o2 l2 o3 l3 o4 l4 wr) {x:Bool} (own:Ow KB w' w.heap.size 4 o' (l3 ++ [x])) (gr:wr.grownBy w' o3.ownBlock) (hq:o'.ownBlock=o3.ownBlock∨∃ g,o'.ownBlock=some g∧wr.heap.size≤g):B4I w n P S o1 l1 o2 l2 o' (l3 ++ [x]) o4 l4 w':=by
 obtain ⟨o,b⟩:=h.grown gr fun k e=>.inr (.inr (.inl e));have fx:∀ k,Q4 o1 o2 o' o4 k→Fx (Q4 o1 o2 o3 o4) wr w' k:=fun k g=>by
  rcases g with g | g | g | g
  ·exact .inl (.inl g)
  ·exact .inl (.inr (.inl g))
  ·exact q_fx hq (fun g e=>(World.ownsRow.lt own g e).2) (fun k e=>.inr (.inr (.inl e))) k g
  ·exact .inl (.inr (.inr (.inr (g))))
 exact ⟨ow_only h.w1 (fun k e=>ow_apart h.w1 h.w3 (by decide) k e) (only_grown gr),ow_only h.w2 (fun k e=>ow_apart h.w2 h.w3 (by decide) k e) (only_grown gr),own,ow_only h.w4 (fun k e=>ow_apart h.w4 h.w3 (by decide) k e) (only_grown gr),fun i hi=>(h.st i hi).grow o fx,b⟩
theorem B4I.push4 (h:B4I w n P S o1 l1 o2 l2 o3 l3 o4 l4 wr) {x:Hd} (own:Ow KS w' w.heap.size 103 o' (l4 ++ [x])) (gr:wr.grownBy w' o4.ownBlock) (hq:o'.ownBlock=o4.ownBlock∨∃ g,o'.ownBlock=some g∧wr.heap.size≤g):B4I w n P S o1 l1 o2 l2 o3 l3 o' (l4 ++ [x]) w':=by
 obtain ⟨o,b⟩:=h.grown gr fun k e=>.inr (.inr (.inr (e)));have fx:∀ k,Q4 o1 o2 o3 o' k→Fx (Q4 o1 o2 o3 o4) wr w' k:=fun k g=>by
  rcases g with g | g | g | g
  ·exact .inl (.inl g)
  ·exact .inl (.inr (.inl g))
  ·exact .inl (.inr (.inr (.inl g)))
  ·exact q_fx hq (fun g e=>(World.ownsRow.lt own g e).2) (fun k e=>.inr (.inr (.inr (e)))) k g
 exact ⟨ow_only h.w1 (fun k e=>ow_apart h.w1 h.w4 (by decide) k e) (only_grown gr),ow_only h.w2 (fun k e=>ow_apart h.w2 h.w4 (by decide) k e) (only_grown gr),ow_only h.w3 (fun k e=>ow_apart h.w3 h.w4 (by decide) k e) (only_grown gr),own,fun i hi=>(h.st i hi).grow o fx,b⟩
theorem B4I.start (w:World):B4I w 0 [] [] (.slice (some ⟨w.heap.size,0,none⟩) 0 0) [] (.slice (some ⟨(w.alloc (.cells #[] 89)).heap.size,0,none⟩) 0 0) [] (.slice (some ⟨((w.alloc (.cells #[] 89)).alloc (.cells #[] 85)).heap.size,0,none⟩) 0 0) [] (.slice (some ⟨(((w.alloc (.cells #[] 89)).alloc (.cells #[] 85)).alloc (.cells #[] 4)).heap.size,0,none⟩) 0 0) []
 ((((w.alloc (.cells #[] 89)).alloc (.cells #[] 85)).alloc (.cells #[] 4)).alloc (.cells #[] 103)):=by
 have b1:Below w.heap.size w (w.alloc (.cells #[] 89)):=(Below.refl _ _).alloc (Nat.le_refl _) _;have b2:=b1.alloc b1.size (.cells #[] 85);have b3:=b2.alloc b2.size (.cells #[] 4);have b4:=b3.alloc b3.size (.cells #[] 103);exact ⟨(((Rw.Ow.made _ _ _ (Nat.le_refl _)).alloc _).alloc _).alloc _,((Rw.Ow.made _ _ _ b1.size).alloc _).alloc _,(Rw.Ow.made _ _ _ b2.size).alloc _,Rw.Ow.made _ _ _ b3.size,fun i hi=>by omega,b4⟩
theorem B4I.more {s:Nat} {A:Abs} (h:B4I w n P S o1 l1 o2 l2 o3 l3 o4 l4 wr) (hp:P.length=n) (hs:S.length=n) (a:St4 wr s A (Q4 o1 o2 o3 o4)):B4I w (n+1) (P ++ [s]) (S ++ [(A,0)]) o1 l1 o2 l2 o3 l3 o4 l4 wr:=by
 have g:∀ (l:List Nat) x i,l.length=n→i < n+1→(l ++ [x]).getD i 0=if i < n then l.getD i 0 else x:=fun l x i hl hi=>by
  rw [List.getD_eq_getElem?_getD,List.getElem?_append,hl]
  split
  ·rw [List.getD_eq_getElem?_getD]
  ·obtain rfl:i=n:=by omega
   simp
 have gs:∀ i:Nat,i < n+1→sat (S ++ [(A,0)]) i=if i < n then sat S i else (A,0):=fun i hi=>by
  unfold sat;rw [Int.toNat_natCast,List.getD_eq_getElem?_getD,List.getElem?_append,hs]
  split
  ·rw [List.getD_eq_getElem?_getD]
  ·obtain rfl:i=n:=by omega
   simp
 refine ⟨h.w1,h.w2,h.w3,h.w4,fun i hi=>?_,h.bel⟩;rw [g P s i hp hi,gs i hi]
 by_cases q:i < n
 ·rw [if_pos q,if_pos q];exact h.st i q
 ·rw [if_neg q,if_neg q];exact a
end
end Go.Proofs.YtljnkaodhfnbbaaGreatDoor.Wp
namespace Go.Proofs.YtljnkaodhfnbbaaGreatDoor.Pa
open Go.RowKit Go.Maps
open Fs (Abs St Rs Rst Only Fx Lst Ent OkA addE addA new_any new_st below_new add_any AddPost at3 E3 ow_only)
open Rw (Rd Ow At Kind)
open Ro (E5 K5 okE)
open Ck (LL lat RdL KS Hd sl zh rdl_of infoS)
open Fl (R4 K4 okL row_cell row_frozen file)
attribute [local irreducible] Sd.wpSd wpQuiet Sg.wpSg
theorem flOk_of {P:Program} {l:List Oper} (f:Sg.Fl) (o:Oper) (t:TypeId) (z:Value) (bytes:Nat) (ho:l.toArray[f.idx]? = some o) (hd:o.dst=some f.slot) (hg:o.guard=none) (hop:o.op = .buildSlice t 1 #[(0,.tmp f.src)]) (hu:P.underlying t=some (.slice f.ty))
 (hi:(P.info? f.ty).map (fun i=>(i.zero,i.size,i.bytes))=some (some z,1,bytes)) (hv:f.val.cells=#[f.val]) (hcs:f.cs=#[f.val]:=by rfl) (hfn:f.n=1:=by rfl):Sg.FlOk P l f:=by
 obtain ⟨i0,hi0,hz0,hz1,hz2⟩:=info_parts hi;refine ⟨o,ho,hd,hg,fun a0 w hρ=>?_⟩;generalize a0.eval=ρ at *;unfold execOp;have hf:Instr.fill (fun i=>some (i * i0.size,i0.size)) ((Array.range (1 * i0.size)).map (z.cells[· % z.cells.size]!)) ((#[(0,Operand.tmp f.src)]:Array (Nat×Operand)).map fun (i,x)=>(i,ρ x)).toList=some #[f.val]:=by
  rw [hz1]
  simp [Instr.fill,hρ,hv]
  rw [show Array.range 1=#[0] from rfl,show ∀ g:Nat→Value,Array.map g #[0]=#[g 0] from fun g=>by simp]
  rfl
 rw [hcs,hfn];simp only [hop,Sem.run_bind,run_buildSlice w t f.ty 1 _ #[f.val] i0 z hu hi0 hz0 (by rw [hz1];omega) (by rw [hz1];omega) hf,Result.andThen_ok]
 rfl
theorem infoB:(Tryz.prog.info? 4).map (fun i=>(i.zero,i.size,i.bytes))=some (some (.bool false),1,1):=by kernel_rfl
theorem results_tmp4 {fn:Func} {t u x y:Tmp} (h:fn.results=#[.tmp t,.tmp u,.tmp x,.tmp y]) (tmps:Array Value) (P:Program) (w:World):(results fn tmps).run P w = .ok (.tuple #[tmps.getD t undef,tmps.getD u undef,tmps.getD x undef,tmps.getD y undef]) w:=by
 simp [results,h]
theorem lit1 {P:Program} {ops:Array Oper} {C:World→Prop} {K:Act→Prop} {o:Oper} {r:List Oper} {a:Act} (h:wpQuiet P ops C (fun a'=>Sg.wpL P ops C K r a') [o] a):Sg.wpL P ops C K (o :: r) a:=h
theorem end1 {P:Program} {ops:Array Oper} {C:World→Prop} {K:Act→Prop} {a:Act} (h:K a):Sg.wpL P ops C K [] a:=h
def tbl (L:List Cel) (n:Nat):LL:=(List.range n).map fun i=>(cel L i).T.take 70
theorem tbl_at (L:List Cel) {n i:Nat} (hi:i < n):lat (tbl L n) i=(cel L i).T.take 70:=by
 unfold lat tbl;rw [List.getD_eq_getElem?_getD,List.getElem?_map,List.getElem?_range hi]
 rfl
structure Bld (B:Nat) (w':World) (vs vr vt vl:Value) (S:Sts) (T:LL) (V:List Bool) (n:Nat):Prop where
 st:Stl w' vs S
 rf:Rfl w' vr S
 tb:RdL w' vt T
 lv:Rd KB w' vl V
 s:S.length=n
 t:T.length=n
 v:V.length=n
 few:n≤8
 ok:∀ i,i < n→(lat T i).length≤70
 den:∀ i,i < n→(sat S i).2=0
 own:Ow KB w' B 4 vl V
 keep:∀ W',Only (fun k=>vl.ownBlock=some k) w' W'→Stl W' vs S∧RdL W' vt T
def BldPost (w:World) (e:Ending) (w':World):Prop:=∃ vs vr vt vl S T V n,e = .returned (.tuple #[vs,vr,vt,vl])∧Bld w.heap.size w' vs vr vt vl S T V n∧Below w.heap.size w w'
structure OI (w:World) (L:List Cel) (k:Nat) (o1 o2 o3 o4:Value) (ps rs:List Nat) (hs:List Hd) (bs:List Bool) (S:Sts) (wr:World):Prop where
 bi:B4I w k ps rs S o1 ps o2 rs o3 hs o4 bs wr
 l1:ps.length=k
 l2:rs.length=k
 l3:hs.length=k
 l4:bs.length=k
 l5:S.length=k
 tb:∀ i,i < k→Rd K5 w (sl (hs.getD i zh)) ((cel L i).T.take 70)
 dz:∀ i:Nat,i < k→(sat S i).2=0
theorem sat_more {S:Sts} {k:Nat} {x:Abs×Int} (h:S.length=k) (i:Nat) (hi:i < k+1):sat (S ++ [x]) i=if i < k then sat S i else x:=by
 unfold sat;rw [Int.toNat_natCast,List.getD_eq_getElem?_getD,List.getElem?_append,h]
 split
 ·rw [List.getD_eq_getElem?_getD]
 ·obtain rfl:i=k:=by omega
  simp
theorem OI.next {w wr:World} {L:List Cel} {k:Nat} {o1 o2 o3 o4:Value} {ps rs:List Nat} {hs:List Hd} {bs:List Bool} {S:Sts} {w0:World} {q1 q2 q3 q4:Value} {s r:Nat} {h:Hd} {b:Bool} {A:Abs} (I:OI w L k o1 o2 o3 o4 ps rs hs bs S w0)
 (bi:B4I w (k+1) (ps ++ [s]) (rs ++ [r]) (S ++ [(A,0)]) q1 (ps ++ [s]) q2 (rs ++ [r]) q3 (hs ++ [h]) q4 (bs ++ [b]) wr) (t:Rd K5 w (sl h) ((cel L k).T.take 70)):OI w L (k+1) q1 q2 q3 q4 (ps ++ [s]) (rs ++ [r]) (hs ++ [h]) (bs ++ [b]) (S ++ [(A,0)]) wr:=by
 refine ⟨bi,by simp [I.l1],by simp [I.l2],by simp [I.l3],by simp [I.l4],by simp [I.l5],fun i hi=>?_,fun i hi=>?_⟩
 ·rw [List.getD_eq_getElem?_getD,List.getElem?_append,I.l3]
  split
  ·rename_i hk
   rw [← List.getD_eq_getElem?_getD];exact I.tb i hk
  ·obtain rfl:i=k:=by omega
   simpa using t
 ·rw [sat_more I.l5 i hi]
  split
  ·rename_i hk
   exact I.dz i hk
  ·rfl
theorem OI.fin {w wr:World} {L:List Cel} {k:Nat} {o1 o2 o3 o4:Value} {ps rs:List Nat} {hs:List Hd} {bs:List Bool} {S:Sts} (I:OI w L k o1 o2 o3 o4 ps rs hs bs S wr) (h8:k≤8):BldPost w (.returned (.tuple #[o1,o2,o3,o4])) wr:=by
 have tl:(tbl L k).length=k:=by unfold tbl;simp
 refine ⟨o1,o2,o3,o4,S,tbl L k,bs,k,rfl,⟨⟨ps,I.bi.w1.rd,by rw [I.l1,I.l5],fun i hi=>?_⟩,⟨rs,I.bi.w2.rd,by rw [I.l2,I.l5],fun i hi=>?_⟩,rdl_of I.bi.w3.rd (by rw [I.l3,tl]) fun i hi=>?_,I.bi.w4.rd,I.l5,tl,I.l4,h8,fun i hi=>?_,I.dz,I.bi.w4,fun W' ho=>?_⟩,I.bi.bel⟩
 ·rw [I.l5] at hi
  obtain ⟨F,h,_⟩:=I.bi.st i hi;refine ⟨F,?_⟩;rw [I.dz i hi];exact h
 ·rw [I.l5] at hi
  have h:=I.bi.rf i hi;unfold Hrf;rw [I.dz i hi];exact rs_mono h nofun
 ·rw [tl] at hi
  rw [tbl_at L hi];exact (I.tb i hi).below I.bi.bel
 ·rw [tbl_at L hi]
  rw [List.length_take]
  omega
 ·have bb:Below w.heap.size w W':=I.bi.bel.trans (ho.below I.bi.bel.size fun k e=>(World.ownsRow.lt I.bi.w4 k e).1)
  refine ⟨⟨ps,(ow_only I.bi.w1 (fun k e=>ow_apart I.bi.w1 I.bi.w4 (by decide) k e) ho).rd,by rw [I.l1,I.l5],fun i hi=>?_⟩,rdl_of (ow_only I.bi.w3 (fun k e=>ow_apart I.bi.w3 I.bi.w4 (by decide) k e) ho).rd (by rw [I.l3,tl]) fun i hi=>?_⟩
  ·rw [I.l5] at hi
   obtain ⟨F,h,d⟩:=I.bi.st i hi;refine ⟨F,?_⟩;rw [I.dz i hi];exact h.only (fun k hk e=>d k hk (.inr (.inr (.inr e)))) ho
  ·rw [tl] at hi
   rw [tbl_at L hi];exact (I.tb i hi).below bb
structure JC (r b o:Nat) (lv:Value) (n p:Int) (u:Value) (W:World):Prop where
 r:W.cell? ⟨r,0,none⟩=some lv
 n:W.cell? ⟨b,o,none⟩=some (.int .i64 n)
 p:W.cell? ⟨b,o+1,none⟩=some (.int .i64 p)
 u:W.cell? ⟨b,o+2,none⟩=some u
end Go.Proofs.YtljnkaodhfnbbaaGreatDoor.Pa
