import Derived.Test.YtljnkaodhfnbbaaGreatDoorPa10
import Derived.Test.YtljnkaodhfnbbaaGreatDoorPa7
import Derived.Test.YtljnkaodhfnbbaaGreatDoorPa8
import Derived.Test.YtljnkaodhfnbbaaGreatDoorPa9
import Derived.Test.YtljnkaodhfnbbaaGreatDoorPa1
import Derived.Test.YtljnkaodhfnbbaaGreatDoorPa5
import Derived.Deep.Cut
import Derived.Test.YtljnkaodhfnbbaaGreatDoorPa4
import Derived.Deep.CutRange
set_option maxRecDepth 100000
namespace Go.Proofs.YtljnkaodhfnbbaaGreatDoor.Wt
open Go.RowKit
open Fl (ret_bool at_bool row_cell row_frozen)
open Fs (Only)
attribute [local irreducible] Sd.wpSd wpQuiet
theorem rnd_cases (a:A):(opn a=0∧rnd a=⟨1,0,hdN a.r1,0⟩)∨(opn a=1∧rnd a=⟨hdN a.r0,0,1,0⟩)∨(opn a = -1∧a.r0≠1∧a.r1≠1∧rnd a=⟨a.r0,a.q0+1,a.r1,a.q1+1⟩):=by
 obtain ⟨r0,q0,r1,q1⟩:=a;unfold opn rnd tk t1 t2 op hd
 by_cases e0:r0=1
 ·exact .inl (by simp [e0])
 ·by_cases e1:r1=1
  ·exact .inr (.inl (by simp [e0,e1]))
  ·by_cases g0:(r0=2∧4≤q0)∨(r0=3∧8≤q0)
   ·exact .inl (by simp [e0,e1,g0])
   ·by_cases g1:(r1=2∧4≤q1)∨(r1=3∧9≤q1)
    ·exact .inr (.inl (by simp [e0,e1,g0,g1]))
    ·exact .inr (.inr (by simp [e0,e1,g0,g1]))
def HM (w:World) (s:Nat) (r0 z0 r1 z1:Int):Nat→Prop
 | 0=>RowM w s r0 z0 r1 z1
 | 1=>RowM w s (hdN r0) (hZ r0 z0) r1 z1
 | _=>RowM w s (hdN r0) (hZ r0 z0) (hdN r1) (hZ r1 z1)
def WM (w:World) (s:Nat) (r0 z0 r1 z1:Int):Nat→Prop
 | 0=>RowM w s r0 z0 r1 z1
 | 1=>RowM w s r0 (wZ r0 z0) r1 z1
 | _=>RowM w s r0 (wZ r0 z0) r1 (wZ r1 z1)
theorem hZ_in {r z:Int} {t:Nat} (h:0≤z∧z≤t):0≤hZ r z∧hZ r z≤((t+1:Nat):Int):=by unfold hZ;split <;> omega
theorem wZ_in {r z:Int} {t:Nat} (h:0≤z∧z≤t):0≤wZ r z∧wZ r z≤((t+1:Nat):Int):=by unfold wZ;split <;> omega
theorem hdN_zero {r z:Int} (h:hdN r=2∨hdN r=3):(0:Int)=hZ r z:=by
 unfold hdN at h;unfold hZ
 split
 ·rfl
 ·rename_i g
  exfalso
  split at h <;> omega
theorem wZ_next {r q z:Int} (e:r=2∨r=3→q=z) (h:r=2∨r=3):q+1=wZ r z:=by
 unfold wZ;rw [if_pos h,e h]
set_option maxHeartbeats 4000000 in
theorem round_any {w:World} {s t:Nat} {a:A} (P:Pr w s a t) (ht:t≤90000):Calls Tryz.prog 116 #[.pointer (some ⟨s,0,none⟩)] w (CdeedPost w s (opn a) (rnd a) (t+1)):=by
 have OP:=Lib.hid (opener_any P);obtain ⟨z0,z1,hr,hv⟩:=P;have R:=Lib.hid hr;have V:=Lib.hid hv;have v0:=hv.b0;have v1:=hv.b1;clear hr hv
 rcases rnd_cases a with ⟨eo,er⟩ | ⟨eo,er⟩ | ⟨eo,g0,g1,er⟩
 ·have FIN:Hid (∀ w',HM w' s 1 0 a.r1 z1 2→Only (fun b=>b=s) w w'→CdeedPost w s (opn a) (rnd a) (t+1) (.returned (.int .i64 0)) w'):=Lib.hid fun w' hh oo=>⟨by rw [eo],by rw [er];exact ⟨_,_,hh,⟨hZ_in ⟨by decide,by omega⟩,hZ_in V.out.b1,(fun g=>absurd g (by show ¬ ((1:Int)=2∨(1:Int)=3);decide)),fun g=>hdN_zero g⟩⟩,oo⟩
  rw [eo] at OP;clear eo er V v0 v1;generalize opn a=op_ at *;generalize rnd a=a' at *;generalize a.r0=x0 at *;generalize a.r1=x1 at *
  go_enter Tryz.func116,Tryz.ntmps116
  go_wp2_with fail;refine OP.out.mono ?_;rintro e w1 ⟨rfl,b1⟩;have R1:=Lib.hid (R.out.below b1);have c0:w1.cell? ⟨s,0,none⟩=some (.int .i64 x0):=row_cell R1.out 0;have c1:w1.cell? ⟨s,1,none⟩=some (.int .i64 z0):=row_cell R1.out 1;have f0:=row_frozen R1.out 0;have f1:=row_frozen R1.out 1;have M0:Hid (HM ((w1.setCell ⟨s,0,none⟩ (.int .i64 1)).setCell ⟨s,1,none⟩ (.int .i64 0)) s 1 0 x1 z1 0):=Lib.hid ((R1.out.set0 1).set1 0);have O0:Hid (Only (fun b=>b=s) w ((w1.setCell ⟨s,0,none⟩ (.int .i64 1)).setCell ⟨s,1,none⟩ (.int .i64 0))):=Lib.hid (((Only.of_below b1).trans (only_set s 0 _ _) (fun _ _ q=>q)).trans (only_set s 1 _ _) (fun _ _ q=>q));clear R R1 OP b1;go_wp2
  go_loopw [17] (fun i wr=>∃ k:Nat,k≤2∧i = .int .i64 k∧Hid (HM wr s 1 0 x1 z1 k)∧Hid (Only (fun b=>b=s) w wr)) (fun i _=>2 - (intOf i).toNat)
  case atStart=>exact ⟨0,by omega,rfl,M0,O0⟩
  case round =>
   clear M0 O0 c0 c1 f0 f1;obtain ⟨k,hk,rfl,M,OO⟩:=hrel
   rcases (by omega:k=0∨k=1∨k=2) with rfl | rfl | rfl
   ·have C:=Lib.hid (hear0 (show RowM wr s 1 0 x1 z1 from M.out))
    clear M;go_wp2_with fail;refine C.out.mono ?_;rintro e w2 ⟨rfl,m2,o2⟩;have M2:Hid (HM w2 s 1 0 x1 z1 1):=Lib.hid m2;have O2:=Lib.hid (only_two OO.out o2);clear m2 o2 C OO;go_wp2
    go_roundw
    case rel=>exact ⟨1,by omega,rfl,M2,O2⟩
    case measure=>simp [intOf]
   ·have C:=Lib.hid (hear1 (show RowM wr s (hdN 1) (hZ 1 0) x1 z1 from M.out))
    clear M;go_wp2_with fail;refine C.out.mono ?_;rintro e w2 ⟨rfl,m2,o2⟩;have M2:Hid (HM w2 s 1 0 x1 z1 2):=Lib.hid m2;have O2:=Lib.hid (only_two OO.out o2);clear m2 o2 C OO;go_wp2
    go_roundw
    case rel=>exact ⟨2,by omega,rfl,M2,O2⟩
    case measure=>simp [intOf]
   ·have F:=Lib.hid (FIN.out wr M.out OO.out)
    clear FIN M OO;go_wp2
    go_ret
    exact F.out
 ·have FIN:Hid (∀ w',HM w' s a.r0 z0 1 0 2→Only (fun b=>b=s) w w'→CdeedPost w s (opn a) (rnd a) (t+1) (.returned (.int .i64 1)) w'):=Lib.hid fun w' hh oo=>⟨by rw [eo],by rw [er];exact ⟨_,_,hh,⟨hZ_in V.out.b0,hZ_in ⟨by decide,by omega⟩,fun g=>hdN_zero g,(fun g=>absurd g (by show ¬ ((1:Int)=2∨(1:Int)=3);decide))⟩⟩,oo⟩
  rw [eo] at OP;clear eo er V v0 v1;generalize opn a=op_ at *;generalize rnd a=a' at *;generalize a.r0=x0 at *;generalize a.r1=x1 at *
  go_enter Tryz.func116,Tryz.ntmps116
  go_wp2_with fail;refine OP.out.mono ?_;rintro e w1 ⟨rfl,b1⟩;have R1:=Lib.hid (R.out.below b1);have c0:w1.cell? ⟨s,2,none⟩=some (.int .i64 x1):=row_cell R1.out 2;have c1:w1.cell? ⟨s,3,none⟩=some (.int .i64 z1):=row_cell R1.out 3;have f0:=row_frozen R1.out 2;have f1:=row_frozen R1.out 3;have M0:Hid (HM ((w1.setCell ⟨s,2,none⟩ (.int .i64 1)).setCell ⟨s,3,none⟩ (.int .i64 0)) s x0 z0 1 0 0):=Lib.hid ((R1.out.set2 1).set3 0);have O0:Hid (Only (fun b=>b=s) w ((w1.setCell ⟨s,2,none⟩ (.int .i64 1)).setCell ⟨s,3,none⟩ (.int .i64 0))):=Lib.hid (((Only.of_below b1).trans (only_set s 2 _ _) (fun _ _ q=>q)).trans (only_set s 3 _ _) (fun _ _ q=>q));clear R R1 OP b1;go_wp2
  go_loopw [17] (fun i wr=>∃ k:Nat,k≤2∧i = .int .i64 k∧Hid (HM wr s x0 z0 1 0 k)∧Hid (Only (fun b=>b=s) w wr)) (fun i _=>2 - (intOf i).toNat)
  case atStart=>exact ⟨0,by omega,rfl,M0,O0⟩
  case round =>
   clear M0 O0 c0 c1 f0 f1;obtain ⟨k,hk,rfl,M,OO⟩:=hrel
   rcases (by omega:k=0∨k=1∨k=2) with rfl | rfl | rfl
   ·have C:=Lib.hid (hear0 (show RowM wr s x0 z0 1 0 from M.out))
    clear M;go_wp2_with fail;refine C.out.mono ?_;rintro e w2 ⟨rfl,m2,o2⟩;have M2:Hid (HM w2 s x0 z0 1 0 1):=Lib.hid m2;have O2:=Lib.hid (only_two OO.out o2);clear m2 o2 C OO;go_wp2
    go_roundw
    case rel=>exact ⟨1,by omega,rfl,M2,O2⟩
    case measure=>simp [intOf]
   ·have C:=Lib.hid (hear1 (show RowM wr s (hdN x0) (hZ x0 z0) 1 0 from M.out))
    clear M;go_wp2_with fail;refine C.out.mono ?_;rintro e w2 ⟨rfl,m2,o2⟩;have M2:Hid (HM w2 s x0 z0 1 0 2):=Lib.hid m2;have O2:=Lib.hid (only_two OO.out o2);clear m2 o2 C OO;go_wp2
    go_roundw
    case rel=>exact ⟨2,by omega,rfl,M2,O2⟩
    case measure=>simp [intOf]
   ·have F:=Lib.hid (FIN.out wr M.out OO.out)
    clear FIN M OO;go_wp2
    go_ret
    exact F.out
 ·have FIN:Hid (∀ w',WM w' s a.r0 z0 a.r1 z1 2→Only (fun b=>b=s) w w'→CdeedPost w s (opn a) (rnd a) (t+1) (.returned (.int .i64 (-1))) w'):=Lib.hid fun w' hh oo=>⟨by rw [eo],by rw [er];exact ⟨_,_,hh,⟨wZ_in V.out.b0,wZ_in V.out.b1,fun g=>wZ_next V.out.e0 g,fun g=>wZ_next V.out.e1 g⟩⟩,oo⟩
  rw [eo] at OP;have V0:Hid (0≤z0∧z0≤1000000):=Lib.hid (by omega);have V1:Hid (0≤z1∧z1≤1000000):=Lib.hid (by omega);clear eo er V v0 v1 g0 g1;generalize opn a=op_ at *;generalize rnd a=a' at *;generalize a.r0=x0 at *;generalize a.r1=x1 at *
  go_enter Tryz.func116,Tryz.ntmps116
  go_wp2_with fail;refine OP.out.mono ?_;rintro e w1 ⟨rfl,b1⟩;have M0:Hid (WM w1 s x0 z0 x1 z1 0):=Lib.hid (R.out.below b1);have O0:Hid (Only (fun b=>b=s) w w1):=Lib.hid (Only.of_below b1);clear R OP b1;go_wp2
  go_loopw [17] (fun i wr=>∃ k:Nat,k≤2∧i = .int .i64 k∧Hid (WM wr s x0 z0 x1 z1 k)∧Hid (Only (fun b=>b=s) w wr)) (fun i _=>2 - (intOf i).toNat)
  case atStart=>exact ⟨0,by omega,rfl,M0,O0⟩
  case round =>
   clear M0 O0;obtain ⟨k,hk,rfl,M,OO⟩:=hrel
   rcases (by omega:k=0∨k=1∨k=2) with rfl | rfl | rfl
   ·have C:=Lib.hid (wait0 (show RowM wr s x0 z0 x1 z1 from M.out) V0.out)
    clear M;go_wp2_with fail;refine C.out.mono ?_;rintro e w2 ⟨rfl,m2,o2⟩;have M2:Hid (WM w2 s x0 z0 x1 z1 1):=Lib.hid m2;have O2:=Lib.hid (only_two OO.out o2);clear m2 o2 C OO;go_wp2
    go_roundw
    case rel=>exact ⟨1,by omega,rfl,M2,O2⟩
    case measure=>simp [intOf]
   ·have C:=Lib.hid (wait1 (show RowM wr s x0 (wZ x0 z0) x1 z1 from M.out) V1.out)
    clear M;go_wp2_with fail;refine C.out.mono ?_;rintro e w2 ⟨rfl,m2,o2⟩;have M2:Hid (WM w2 s x0 z0 x1 z1 2):=Lib.hid m2;have O2:=Lib.hid (only_two OO.out o2);clear m2 o2 C OO;go_wp2
    go_roundw
    case rel=>exact ⟨2,by omega,rfl,M2,O2⟩
    case measure=>simp [intOf]
   ·have F:=Lib.hid (FIN.out wr M.out OO.out)
    clear FIN M OO;go_wp2
    go_ret
    exact F.out
end Go.Proofs.YtljnkaodhfnbbaaGreatDoor.Wt
namespace Go.Proofs.YtljnkaodhfnbbaaGreatDoor.Cu
open Go.RowKit Go.Maps
open Rw (Rd Ow At)
open Fl (row_cell row_frozen)
open Fs (Abs St OkA Only Fx ow_only Glob)
open Pa (Sts S2 sat vat KN KB K2 ptr rdE rdL)
open Re (KI iat seqP)
attribute [local irreducible] Sd.wpSd wpQuiet
theorem opn_cases (a:Wt.A):Wt.opn a = -1∨Wt.opn a=0∨Wt.opn a=1:=by
 unfold Wt.opn Wt.op
 split
 ·exact .inr (.inl rfl)
 ·split
  ·exact .inr (.inr rfl)
  ·exact .inl rfl
theorem at0_lt {c:Cs} {l:List Int} (h:seqP l):at0 c l < l.length:=by
 unfold at0;have:=h.1
 split <;> omega
set_option maxHeartbeats 4000000 in
theorem cround_silent {s t p:Nat} {F:Nat→Prop} {c:Cs} {vn vq:Value} {L:List Nd} {Fs:Nat→Nat→Prop} {w:World} (h:Cl w s F c t vn L p vq Fs) (ok:OkC c t) (ht:t≤1000) (hg:Glob w) (hG:¬ F 1) (ho:Wt.opn c.P = -1) :
 Calls Tryz.prog 59 #[ptr s] w (DoC w s F (rC c) (t+1) (rE c)):=by
 generalize hRC:rC c=cR;generalize hRE:rE c=eR;have RC:=Lib.hid hRC;have RE:=Lib.hid hRE;clear hRC hRE;have d3:=h.cells.2.2.2;have f3:=h.frz 3;have H1:=Lib.hid (h.spoils (v:=.slice none 0 0) (Q:=[]) (Rw.Ow.nil _ _ _) (fun k e=>by simp [Value.ownBlock] at e) (fun i hi k _ e=>by simp [Value.ownBlock] at e));have O1:Hid (Only F w (w.setCell ⟨s,3,none⟩ (.slice none 0 0))):=Lib.hid (Only.set F w (a:=⟨s,3,none⟩) h.fs _);have Q1:Hid (Ow K2 (w.setCell ⟨s,3,none⟩ (.slice none 0 0)) 0 155 vq c.Q):=Lib.hid (ow_only h.sp (fun k e g=>h.vs.2 (by rw [e,g])) (Only.set (fun k=>k=s) w (a:=⟨s,3,none⟩) rfl _));have k1:=H1.out.cells.2.1;have CR:=Lib.hid (Wt.round_any H1.out.pr (by omega));have QF:Hid (∀ k,vq.ownBlock=some k→k≠s∧k≠p):=Lib.hid (fun k e=>⟨fun g=>h.vs.2 (by rw [e,g]),fun g=>h.vp.2 (by rw [e,g])⟩);have HS:=Lib.hid h.fs;have LW:=Lib.hid h.low;have GG:=Lib.hid hg;have HG:=Lib.hid hG;have OK:=Lib.hid ok;obtain ⟨qa,qc,rfl,_⟩:=h.sp.slice;clear h ok hg hG;unfold Wt.CdeedPost at CR;rw [show Wt.opn ({ c with Q:=[] } : Cs).P=_ from ho,show Wt.rnd ({ c with Q:=[] } : Cs).P=Wt.rnd c.P from rfl] at CR;unfold ptr at *;generalize hql:c.Q.length=ql at *;clear hql
 go_enter Tryz.func59,Tryz.ntmps59
 go_upto_region 3 with fail;clear d3 f3;generalize (w.setCell ⟨s,3,none⟩ (.slice none 0 0))=w1 at *;go_wp2_with fail;refine CR.out.mono ?_;rintro e w2 ⟨rfl,pr2,o2⟩;have H2:=Lib.hid (H1.out.pair o2 pr2);have O2:=Lib.hid (O1.out.trans o2 fun k _ e=>by rw [e];exact H1.out.fp);have Q2:=Lib.hid (ow_only Q1.out (fun k e g=>(QF.out k e).2 g) o2);have G2:=Lib.hid (GG.out.only HG.out O2.out);clear pr2 o2 CR H1 O1 Q1 k1;have e1:rE c=0:=by unfold rE;rw [if_pos (by omega)]
 have e2:rC c = { c with P:=Wt.rnd c.P,Q:=[] }:=by unfold rC;rw [if_pos (by omega)]
 rw [RE.out] at e1;rw [RC.out] at e2;subst e1 e2;have C3:=Lib.hid (chas_out H2.out (n:=-1) (Or.inl (by decide)));have E:=Lib.hid (fun w' (b:Below w2.heap.size w2 w')=>doc_of (w:=w) (H2.out.below b) (O2.out.then b) 0);unfold ptr at C3;clear H2 O2 Q2 G2 ho;go_wp2_with fail;refine C3.out.mono ?_;rintro e w3 ⟨rfl,b3⟩;have G:=Lib.hid (E.out w3 b3);clear E C3 b3;go_wp2
 go_ret
 exact G.out
set_option maxHeartbeats 4000000 in
theorem cround_open {s t p:Nat} {F:Nat→Prop} {c:Cs} {vn vq:Value} {L:List Nd} {Fs:Nat→Nat→Prop} {w:World} (h:Cl w s F c t vn L p vq Fs) (ok:OkC c t) (ht:t≤1000) (hg:Glob w) (hG:¬ F 1) {nn:Nat} (ho:Wt.opn c.P=nn) (hn:nn < 2) :
 Calls Tryz.prog 59 #[ptr s] w (DoC w s F (rC c) (t+1) (rE c)):=by
 generalize hRC:rC c=cR;generalize hRE:rE c=eR;have RC:=Lib.hid hRC;have RE:=Lib.hid hRE;clear hRC hRE;have d3:=h.cells.2.2.2;have f3:=h.frz 3;have H1:=Lib.hid (h.spoils (v:=.slice none 0 0) (Q:=[]) (Rw.Ow.nil _ _ _) (fun k e=>by simp [Value.ownBlock] at e) (fun i hi k _ e=>by simp [Value.ownBlock] at e));have O1:Hid (Only F w (w.setCell ⟨s,3,none⟩ (.slice none 0 0))):=Lib.hid (Only.set F w (a:=⟨s,3,none⟩) h.fs _);have Q1:Hid (Ow K2 (w.setCell ⟨s,3,none⟩ (.slice none 0 0)) 0 155 vq c.Q):=Lib.hid (ow_only h.sp (fun k e g=>h.vs.2 (by rw [e,g])) (Only.set (fun k=>k=s) w (a:=⟨s,3,none⟩) rfl _));have k1:=H1.out.cells.2.1;have CR:=Lib.hid (Wt.round_any H1.out.pr (by omega));have QF:Hid (∀ k,vq.ownBlock=some k→k≠s∧k≠p):=Lib.hid (fun k e=>⟨fun g=>h.vs.2 (by rw [e,g]),fun g=>h.vp.2 (by rw [e,g])⟩);have HS:=Lib.hid h.fs;have LW:=Lib.hid h.low;have GG:=Lib.hid hg;have HG:=Lib.hid hG;have OK:=Lib.hid ok;obtain ⟨qa,qc,rfl,_⟩:=h.sp.slice;clear h ok hg hG;unfold Wt.CdeedPost at CR;rw [show Wt.opn ({ c with Q:=[] } : Cs).P=_ from ho,show Wt.rnd ({ c with Q:=[] } : Cs).P=Wt.rnd c.P from rfl] at CR;unfold ptr at *;generalize hql:c.Q.length=ql at *;clear hql
 go_enter Tryz.func59,Tryz.ntmps59
 go_upto_region 3 with fail;clear d3 f3;generalize (w.setCell ⟨s,3,none⟩ (.slice none 0 0))=w1 at *;go_wp2_with fail;refine CR.out.mono ?_;rintro e w2 ⟨rfl,pr2,o2⟩;have H2:=Lib.hid (H1.out.pair o2 pr2);have O2:=Lib.hid (O1.out.trans o2 fun k _ e=>by rw [e];exact H1.out.fp);have Q2:=Lib.hid (ow_only Q1.out (fun k e g=>(QF.out k e).2 g) o2);have G2:=Lib.hid (GG.out.only HG.out O2.out);clear pr2 o2 CR H1 O1 Q1 k1;have hnl:nn < c.S.length:=by have:=OK.out.len;omega
 have OW:own c=(sat c.S nn).1:=by unfold own;rw [ho]
 have C3:=Lib.hid (chas_in H2.out (n:=nn) hnl);have HO:=Lib.hid ho;have HN:=Lib.hid hnl;unfold ptr at C3;go_wp2_with fail;refine C3.out.mono ?_;rintro e w3 ⟨rfl,b3⟩;have H3:=Lib.hid (H2.out.below b3);have O3:=Lib.hid (O2.out.then b3);have Q3:=Lib.hid (Q2.out.keep b3);have C4:=Lib.hid (csequence_any H3.out (nn:=nn) HN.out);rw [show (sat ({ c with Q:=[],P:=Wt.rnd c.P } : Cs).S nn).1=own c from OW.symm] at C4;have OWH:=Lib.hid OW;unfold SqC ptr at C4;clear H2 O2 Q2 G2 C3 b3 OW ho hnl;go_wp2_with fail;refine C4.out.mono ?_;rintro e w4 ⟨b4,hc⟩;have H4:=Lib.hid (H3.out.below b4);have O4:=Lib.hid (O3.out.then b4);have Q4:=Lib.hid (Q3.out.keep b4);have G4:=Lib.hid (GG.out.only HG.out O4.out);clear H3 O3 Q3 C4 b4
 rcases hc with ⟨hs,u,rfl,ru⟩ | ⟨hs,rfl⟩
 ·have SQ:=Lib.hid (sqL_seq hs)
  have er:rE c=rdE c.S (rT c) c.V:=by unfold rE;rw [if_neg (by rw [HO.out];omega),if_pos hs]
  have ec:rC c=⟨caS c.S (rT c) c.V c.Q,c.V,Wt.rnd c.P,at1 c (sqL (own c)),[]⟩:=by unfold rC caS;rw [if_neg (by rw [HO.out];omega),if_pos hs]
  rw [RE.out] at er;rw [RC.out] at ec;have C5:Hid (Calls Tryz.prog 119 #[ptr s,u] w4 (NxC w4 s (iat (sqL (own c)) (at0 c (sqL (own c)))) (at1 c (sqL (own c))))):=Lib.hid (cnext_any H4.out ru SQ.out);have RR:Hid (0≤iat (sqL (own c)) (at0 c (sqL (own c)))∧iat (sqL (own c)) (at0 c (sqL (own c)))≤5):=Lib.hid (SQ.out.2 _ (at0_lt SQ.out));have RT:Hid (rT c=tbs c.S (iat (sqL (own c)) (at0 c (sqL (own c))))):=Lib.hid rfl;obtain ⟨ua,uc,rfl,_⟩:=ru.slice;unfold NxC ptr at C5;have EC:=Lib.hid ec;have ER:=Lib.hid er;clear ru er ec hs;generalize (sqL (own c)).length=ul at *;go_wp2_with fail;refine C5.out.mono ?_;rintro e w5 ⟨rfl,w6,b6,rfl⟩;have H5:=Lib.hid ((H4.out.below b6).place (at1 c (sqL (own c))));have O5:=Lib.hid ((O4.out.then b6).trans (Only.set F w6 (a:=⟨s,2,none⟩) HS.out (.int .i64 (at1 c (sqL (own c))))) fun _ _ g=>g);have Q5:=Lib.hid (ow_only (Q4.out.keep b6) (fun k e g=>(QF.out k e).1 g) (Only.set (fun k=>k=s) w6 (a:=⟨s,2,none⟩) rfl (.int .i64 (at1 c (sqL (own c))))));have G5:=Lib.hid (GG.out.only HG.out O5.out);clear H4 O4 Q4 G4 b6 C5;generalize (w6.setCell ⟨s,2,none⟩ (.int .i64 (at1 c (sqL (own c)))))=w7 at *;have C6:=Lib.hid (ccarry_any H5.out OK.out.len OK.out.lv (fun i hi=>by have:=OK.out.st i hi;exact ⟨this.2.1,Int.lt_of_le_of_lt this.2.2 (by omega)⟩) G5.out RR.out Q5.out.rd);unfold ptr at C6;rw [← RT.out] at C6;clear H5 Q5 G5 RR;generalize iat (sqL (own c)) (at0 c (sqL (own c)))=r at *;go_wp2_with fail;refine C6.out.mono ?_;rintro e w8 d8;have G:Hid (DoC w s F cR (t+1) eR e w8):=Lib.hid (by rw [EC.out,ER.out];exact d8.preO O5.out LW.out);obtain ⟨rfl,_,_⟩:=d8;clear C6;go_wp2
  go_ret
  exact G.out
 ·have er:rE c=2:=by unfold rE;rw [if_neg (by rw [HO.out];omega),if_neg (by rw [hs];decide)]
  have ec:rC c = { c with P:=Wt.rnd c.P,Q:=[] }:=by unfold rC;rw [if_neg (by rw [HO.out];omega),if_neg (by rw [hs];decide)]
  rw [RE.out] at er;rw [RC.out] at ec;subst er ec;have C5:=Lib.hid (cnumber_any nn 2 w4 G4.out);have E:=Lib.hid (fun w' (b:Below w4.heap.size w4 w')=>doc_of (w:=w) (H4.out.below b) (O4.out.then b) 2);unfold flaw flw at *;clear H4 O4 Q4 G4 hs;go_wp2_with fail;refine C5.out.mono ?_;rintro e w5 ⟨rfl,b5⟩;have G:=Lib.hid (E.out w5 b5);clear E C5 b5;go_wp2
  go_ret
  exact G.out
theorem cround_any {s t p:Nat} {F:Nat→Prop} {c:Cs} {vn vq:Value} {L:List Nd} {Fs:Nat→Nat→Prop} {w:World} (h:Cl w s F c t vn L p vq Fs) (ok:OkC c t) (ht:t≤1000) (hg:Glob w) (hG:¬ F 1) :
 Calls Tryz.prog 59 #[ptr s] w (DoC w s F (rC c) (t+1) (rE c)):=by
 rcases opn_cases c.P with ho | ho | ho
 ·exact cround_silent h ok ht hg hG ho
 ·exact cround_open h ok ht hg hG (nn:=0) ho (by decide)
 ·exact cround_open h ok ht hg hG (nn:=1) ho (by decide)
end Go.Proofs.YtljnkaodhfnbbaaGreatDoor.Cu
namespace Go.Proofs.YtljnkaodhfnbbaaGreatDoor.Cu
open Go.RowKit Go.Maps
open Rw (Rd Ow At)
open Fl (R4 K4 okL okR z4 rec4 arr4 row_cell row_frozen)
open Fs (Abs St OkA Only Fx ow_only Wf Glob sA sB)
open Pa (Sts S2 sat vat KN KB K2 ptr)
attribute [local irreducible] Sd.wpSd wpQuiet Sz.wpSz
section
variable {s t p:Nat} {F G:Nat→Prop} {c:Cs} {vn vq:Value} {L:List Nd} {Fs:Nat→Nat→Prop} {w w1 w':World}
theorem act_write {x:Ac} (hk:x.k=2) (hn:¬ no c x.n):(vat c.V x.n=true→actE x c=(if sB (sat c.S x.n).1 x.f x.r=true then 0 else 3)∧actC x c = { c with S:=setS c.S x.n (sA (sat c.S x.n).1 x.f x.r x.v,(sat c.S x.n).2) })∧(vat c.V x.n=false→actE x c=10∧actC x c=c):=by
 have hin:0≤x.n∧x.n < c.S.length:=by unfold no at hn;omega
 have he:actE x c=if vat c.V x.n=true then (if sB (sat c.S x.n).1 x.f x.r=true then 0 else 3) else 10:=by
  unfold actE;rw [if_neg (by omega),if_neg (by omega),if_neg (by rintro (g | g | g);omega;omega;exact hn g),if_pos hk]
 refine ⟨fun hv=>?_,fun hv=>?_⟩
 ·rw [hv,if_pos rfl] at he
  refine ⟨he,?_⟩;unfold actC
  cases g:sB (sat c.S x.n).1 x.f x.r with
  | true =>
    rw [g,if_pos rfl] at he;rw [if_neg (by omega),if_neg (by rw [he];simp),if_neg (by omega),if_pos hk]
  | false =>
    rw [g,if_neg Bool.false_ne_true] at he;rw [if_neg (by omega),if_pos (by rw [he];decide)];have e1:sA (sat c.S x.n).1 x.f x.r x.v=(sat c.S x.n).1:=by
     unfold sA
     split
     ·rfl
     ·rw [g];rfl
    have e2:setS c.S x.n (sA (sat c.S x.n).1 x.f x.r x.v,(sat c.S x.n).2)=c.S:=by
     rw [e1];unfold setS
     show c.S.set x.n.toNat (sat c.S x.n)=c.S
     unfold sat;rw [List.getD_eq_getElem?_getD,List.getElem?_eq_getElem (by omega)];exact List.set_getElem_self (by omega)
    rw [e2]
 ·rw [hv,if_neg Bool.false_ne_true] at he
  refine ⟨he,?_⟩;unfold actC;rw [if_neg (by omega),if_pos (by rw [he];decide)]
theorem act_drift {x:Ac} (hk:x.k=6) (hn:¬ no c x.n):actE x c=(if x.t < -2000∨2000 < x.t then 1 else 0)∧actC x c=c:=by
 have he:actE x c=if x.t < -2000∨2000 < x.t then 1 else 0:=by
  unfold actE;rw [if_neg (by omega),if_neg (by omega),if_neg (by rintro (g | g | g);omega;omega;exact hn g),if_neg (by omega),if_neg (by omega),if_neg (by omega)]
 refine ⟨he,?_⟩;unfold actC;rw [if_neg (by omega)]
 by_cases e:actE x c≠0
 ·rw [if_pos e]
 ·rw [if_neg e,if_neg (by omega),if_neg (by omega),if_neg (by omega),if_neg (by omega)]
theorem Cl.wr {nn:Nat} (h:Cl w s F c t vn L p vq Fs) (hn:nn < c.S.length) {q:Nat} (hq:q=(nda L nn).s) {f r:Int} {x:R4} {e:Ending} (hw:WrC w q (Fs nn) (sat c.S nn).1 (sat c.S nn).2 f r x e w'):DoC w s F { c with S:=setS c.S nn (sA (sat c.S nn).1 f r x,(sat c.S nn).2) } t (if sB (sat c.S nn).1 f r=true then 0 else 3) e w':=by
 subst hq;obtain ⟨h1,h2,h3⟩:=hw;have hl:=h.len;exact ⟨h1,⟨_,_,_,_,_,h.store (i:=nn) (by omega) (x:=(sA (sat c.S nn).1 f r x,(sat c.S nn).2)) h2 h3⟩,h3.mono fun k _ g=>h.ff nn (by omega) k g⟩
set_option maxHeartbeats 2000000 in
theorem cdo_write (h:Cl w s F c t vn L p vq Fs) (x:Ac) (hk:x.k=2) (hn:¬ no c x.n) (hx:okR x.v) (hf:Wf x.f):Calls Tryz.prog 17 #[ptr s,actV x] w (DoC w s F (actC x c) (t+1) (actE x c)):=by
 have B0:=Lib.hid ((Below.refl w.heap.size w).alloc (Nat.le_refl _) (.cells (actA x) 44));have X0:=Lib.hid (heap_alloc_new w (.cells (actA x) 44));have hn':0≤x.n∧x.n < c.S.length:=by unfold no at hn;omega
 obtain ⟨nn,hnn⟩:∃ nn:Nat,(nn:Int)=x.n:=⟨x.n.toNat,by omega⟩;have hnl:nn < c.S.length:=by omega
 obtain ⟨g,cap,rfl,hcap,hm,-⟩:=h.one hnl;have hL:=h.len;have C1:=Lib.hid (chas_in (h.below B0.out) (n:=nn) hnl);rw [hnn] at C1
 have CW:Hid (∀ W,Below (w.alloc (.cells (actA x) 44)).heap.size (w.alloc (.cells (actA x) 44)) W→Calls Tryz.prog 62 #[.pointer (some ⟨g,nn * 3,none⟩),.int .i64 x.f,.int .i64 x.r,rec4 x.v] W (fun e w'=>DoC W s F (actC x c) t (actE x c) e w'∧Only (Fs nn) W w')):=Lib.hid (fun W b=>by
  have hh:=(h.below B0.out).below b;obtain ⟨q0,q1,_⟩:=hh.nod hnl;rw [hh.lv nn (by omega),hnn] at q1;obtain ⟨a1,a2⟩:=act_write hk hn
  cases hv:vat c.V x.n with
  | true =>
    rw [(a1 hv).1,(a1 hv).2];rw [hv] at q1;refine (cwrite_yes (hh.sto hnl) g (nn * 3) q0 q1 (fun e=>(h.off nn (by omega) g e).2.2.1 rfl) hf x.r x.v hx).mono fun e w' hw=>⟨?_,hw.2.2⟩;rw [← hnn];exact hh.wr hnl rfl hw
  | false =>
    rw [(a2 hv).1,(a2 hv).2];rw [hv] at q1;refine (cwrite_no W g (nn * 3) x.f x.r x.v q1).mono fun e w' hw=>?_;obtain ⟨rfl,b'⟩:=hw
    exact ⟨doc_below hh b' 10,Only.of_below b'⟩)
 have NG:Hid (¬ (Fs nn) s∧¬ (Fs nn) w.heap.size):=Lib.hid ⟨fun e=>(h.off nn (by omega) s e).1 rfl,fun e=>by have:=(h.st nn (by omega)).low _ e;omega⟩;have E:=Lib.hid (fun w1 (b:Below w.heap.size w w1) e w' (d:DoC w1 s F (actC x c) t (actE x c) e w')=>(d.pre b h.low).late);have D0:=Lib.hid (fun w1 b=>(h.below (w':=w1) b).cells.1);clear h hn hn' hL;generalize actC x c=c' at *;generalize actE x c=ae at *;generalize hGG:(Fs nn)=GG at *;clear hGG;have HNL:=Lib.hid hnl;have p5:decide (c.S.length≤nn)=false:=decide_eq_false (by omega);generalize c.S.length=ln at *;unfold actV actA at *;unfold ptr at *;obtain ⟨k,n,f,rr,v,s',m,tt⟩:=x;simp only at hk hnn B0 X0 C1 CW E ⊢;subst hk hnn
 (try unfold rec4 at CW)
 go_enter Tryz.func17,Tryz.ntmps17
 go_wp2_with fail;refine C1.out.mono ?_;rintro e w1 ⟨rfl,b1⟩;have BW:=Lib.hid (B0.out.trans (b1.mono B0.out.size));have X1:=Lib.hid ((b1.block _ (lt_of_block X0.out)).trans X0.out);have CX:=Lib.hid (fun W (b:Below w1.heap.size w1 W)=>CW.out W (b1.trans (b.mono b1.size)));have d0:=D0.out w1 BW.out;clear b1 C1 CW D0 X0 B0;generalize hgx:w.heap.size=gx at X1 NG ⊢;have HGX:=Lib.hid hgx;clear hgx;have y0:w1.cell? ⟨gx,0,none⟩=some (.int .i64 2):=row_cell X1.out 0;have Q0:=Lib.hid d0;go_upto_region 12 with fail;clear y0 d0;have BD:=Lib.hid (Below.refl w1.heap.size w1).drew;have OD:Hid (Only GG w1 w1.drew):=Lib.hid (Only.of_below BD.out);have s0:=Sc.cell_in (C:=fun W'=>Only GG w1 W') (a:=⟨s,0,none⟩) (fun W' o=>o.cell Q0.out NG.out.1);have x1:=Sc.cell_in (C:=fun W'=>Only GG w1 W') (a:=⟨gx,1,none⟩) (fun W' o=>o.cell (row_cell X1.out 1) NG.out.2);have x2:=Sc.cell_in (C:=fun W'=>Only GG w1 W') (a:=⟨gx,2,none⟩) (fun W' o=>o.cell (row_cell X1.out 2) NG.out.2);have x3:=Sc.cell_in (C:=fun W'=>Only GG w1 W') (a:=⟨gx,3,none⟩) (fun W' o=>o.cell (row_cell X1.out 3) NG.out.2);have x4:=Sc.cell_in (C:=fun W'=>Only GG w1 W') (a:=⟨gx,4,none⟩) (fun W' o=>o.cell (row_cell X1.out 4) NG.out.2);have x5:=Sc.cell_in (C:=fun W'=>Only GG w1 W') (a:=⟨gx,5,none⟩) (fun W' o=>o.cell (row_cell X1.out 5) NG.out.2);have x6:=Sc.cell_in (C:=fun W'=>Only GG w1 W') (a:=⟨gx,6,none⟩) (fun W' o=>o.cell (row_cell X1.out 6) NG.out.2);have x7:=Sc.cell_in (C:=fun W'=>Only GG w1 W') (a:=⟨gx,7,none⟩) (fun W' o=>o.cell (row_cell X1.out 7) NG.out.2);have ne:Nonempty (Sc.In (fun W'=>Only GG w1 W')):=⟨⟨_,OD.out⟩⟩;have CY:=Lib.hid (CX.out w1.drew BD.out);clear CX Q0;refine Sc.start (fun W'=>Only GG w1 W') [(false,0),(false,1),(false,2),(false,3),(false,4),(false,5),(false,6),(false,7),(false,8),(false,9),(false,10),(false,11),(false,12),(true,13),(false,14)] (by kernel_rfl) (by kernel_rfl) (by kernel_rfl) OD.out ?_;dsimp only [Sd.picks,List.getElem?_cons_succ,List.getElem?_cons_zero]
 iterate 13 (refine Sd.lit ?_;quiet_step (fail);refine wpQuiet_nil ?_)
 clear s0 x1 x2 x3 x4 x5 x6 x7;refine Sd.call (by rfl) (fun K hK=>?_);go_simp;refine CY.out.mono ?_;rintro e w5 ⟨d5,o5⟩;have R:=Lib.hid (E.out w1.drew (BW.out.trans (BD.out.mono BW.out.size)) e w5 d5);obtain ⟨rfl,_,_⟩:=d5;refine hK _ _ (Sc.Cl.of (OD.out.trans o5 fun k _ g=>g)) ?_;clear hK K o5 CY E
 iterate 1 (refine Sd.lit ?_;quiet_step (fail);refine wpQuiet_nil ?_)
 refine Sd.done ?_;go_wp2
 go_ret
 exact R.out
set_option maxHeartbeats 2000000 in
theorem cdo_drift (h:Cl w s F c t vn L p vq Fs) (x:Ac) (hk:x.k=6) (hn:¬ no c x.n):Calls Tryz.prog 17 #[ptr s,actV x] w (DoC w s F (actC x c) (t+1) (actE x c)):=by
 have B0:=Lib.hid ((Below.refl w.heap.size w).alloc (Nat.le_refl _) (.cells (actA x) 44));have X0:=Lib.hid (heap_alloc_new w (.cells (actA x) 44));have hn':0≤x.n∧x.n < c.S.length:=by unfold no at hn;omega
 obtain ⟨nn,hnn⟩:∃ nn:Nat,(nn:Int)=x.n:=⟨x.n.toNat,by omega⟩;have hnl:nn < c.S.length:=by omega
 obtain ⟨g,cap,rfl,hcap,hm,-⟩:=h.one hnl;have hL:=h.len;have C1:=Lib.hid (chas_in (h.below B0.out) (n:=nn) hnl);rw [hnn] at C1
 have CW:Hid (∀ W,Below (w.alloc (.cells (actA x) 44)).heap.size (w.alloc (.cells (actA x) 44)) W→Calls Tryz.prog 65 #[.pointer (some ⟨g,nn * 3,none⟩),.int .i64 x.t] W (fun e w'=>DoC W s F (actC x c) t (actE x c) e w'∧Only (fun k=>k=g) W w')):=Lib.hid (fun W b=>by
  have hh:=(h.below B0.out).below b;obtain ⟨_,_,q2⟩:=hh.nod hnl;obtain ⟨a1,a2⟩:=act_drift hk hn;rw [a1,a2];have fz:W.frozen? ⟨g,nn * 3+2,none⟩=false:=by
   obtain ⟨g',cap',e',_,_,_,_,_,fz⟩:=hh.one hnl;injection e' with e1 _ _;injection e1 with e1;injection e1 with e1 _ _;subst e1;exact fz _
  by_cases hx : -2000≤x.t∧x.t≤2000
  ·rw [if_neg (by omega)]
   refine (cdrift_yes W g (nn * 3) x.t _ q2 fz (cal_of.2 hx)).mono fun e w' hw=>?_;obtain ⟨rfl,rfl⟩:=hw;have z:=hh.setRate rfl hnl hx;exact ⟨doc_of z.1 z.2 0,Only.set (fun k=>k=g) W (a:=⟨g,nn * 3+2,none⟩) rfl _⟩
  ·rw [if_pos (by omega)]
   have hc:cal x.t=false:=by
    cases hc:cal x.t with
    | false=>rfl
    | true=>exact absurd (cal_of.1 hc) hx
   refine (cdrift_no W g (nn * 3) x.t hc).mono fun e w' hw=>?_;obtain ⟨rfl,rfl⟩:=hw
   exact ⟨doc_below hh (Below.refl _ _) 1,Only.refl _ _⟩)
 have NG:Hid (¬ (fun k=>k=g) s∧¬ (fun k=>k=g) w.heap.size):=Lib.hid ⟨fun e=>h.vs.1 (by rw [e];rfl),fun e=>by have:=h.low g (h.fv g (.inl rfl));omega⟩;have E:=Lib.hid (fun w1 (b:Below w.heap.size w w1) e w' (d:DoC w1 s F (actC x c) t (actE x c) e w')=>(d.pre b h.low).late);have D0:=Lib.hid (fun w1 b=>(h.below (w':=w1) b).cells.1);clear h hn hn' hL;generalize actC x c=c' at *;generalize actE x c=ae at *;generalize hGG:(fun k=>k=g)=GG at *;clear hGG;have HNL:=Lib.hid hnl;have p5:decide (c.S.length≤nn)=false:=decide_eq_false (by omega);generalize c.S.length=ln at *;unfold actV actA at *;unfold ptr at *;obtain ⟨k,n,f,rr,v,s',m,tt⟩:=x;simp only at hk hnn B0 X0 C1 CW E ⊢;subst hk hnn
 (try unfold rec4 at CW)
 go_enter Tryz.func17,Tryz.ntmps17
 go_wp2_with fail;refine C1.out.mono ?_;rintro e w1 ⟨rfl,b1⟩;have BW:=Lib.hid (B0.out.trans (b1.mono B0.out.size));have X1:=Lib.hid ((b1.block _ (lt_of_block X0.out)).trans X0.out);have CX:=Lib.hid (fun W (b:Below w1.heap.size w1 W)=>CW.out W (b1.trans (b.mono b1.size)));have d0:=D0.out w1 BW.out;clear b1 C1 CW D0 X0 B0;generalize hgx:w.heap.size=gx at X1 NG ⊢;have HGX:=Lib.hid hgx;clear hgx;have y0:w1.cell? ⟨gx,0,none⟩=some (.int .i64 6):=row_cell X1.out 0;have Q0:=Lib.hid d0;go_upto_region 18 with fail;clear y0 d0;have BD:=Lib.hid (Below.refl w1.heap.size w1).drew;have OD:Hid (Only GG w1 w1.drew):=Lib.hid (Only.of_below BD.out);have s0:=Sc.cell_in (C:=fun W'=>Only GG w1 W') (a:=⟨s,0,none⟩) (fun W' o=>o.cell Q0.out NG.out.1);have x1:=Sc.cell_in (C:=fun W'=>Only GG w1 W') (a:=⟨gx,1,none⟩) (fun W' o=>o.cell (row_cell X1.out 1) NG.out.2);have x10:=Sc.cell_in (C:=fun W'=>Only GG w1 W') (a:=⟨gx,10,none⟩) (fun W' o=>o.cell (row_cell X1.out 10) NG.out.2);have ne:Nonempty (Sc.In (fun W'=>Only GG w1 W')):=⟨⟨_,OD.out⟩⟩;have CY:=Lib.hid (CX.out w1.drew BD.out);clear CX Q0;refine Sc.start (fun W'=>Only GG w1 W') [(false,0),(false,1),(false,2),(false,3),(false,4),(false,5),(false,6),(false,7),(false,8),(true,9),(false,10)] (by kernel_rfl) (by kernel_rfl) (by kernel_rfl) OD.out ?_;dsimp only [Sd.picks,List.getElem?_cons_succ,List.getElem?_cons_zero]
 iterate 9 (refine Sd.lit ?_;quiet_step (fail);refine wpQuiet_nil ?_)
 clear s0 x1 x10;refine Sd.call (by rfl) (fun K hK=>?_);go_simp;refine CY.out.mono ?_;rintro e w5 ⟨d5,o5⟩;have R:=Lib.hid (E.out w1.drew (BW.out.trans (BD.out.mono BW.out.size)) e w5 d5);obtain ⟨rfl,_,_⟩:=d5;refine hK _ _ (Sc.Cl.of (OD.out.trans o5 fun k _ g=>g)) ?_;clear hK K o5 CY E
 iterate 1 (refine Sd.lit ?_;quiet_step (fail);refine wpQuiet_nil ?_)
 refine Sd.done ?_;go_wp2
 go_ret
 exact R.out
theorem cdo_round (h:Cl w s F c t vn L p vq Fs) (ok:OkC c t) (ht:t≤1000) (hg:Glob w) (hG:¬ F 1) (x:Ac) (hk:x.k=1):Calls Tryz.prog 17 #[ptr s,actV x] w (DoC w s F (actC x c) (t+1) (actE x c)):=by
 have B0:=Lib.hid ((Below.refl w.heap.size w).alloc (Nat.le_refl _) (.cells (actA x) 44));have e1:actE x c=rE c:=if_pos hk;have e2:actC x c=rC c:=if_pos hk;rw [e1,e2];have C2:=Lib.hid (cround_any (h.below B0.out) ok ht (hg.below B0.out) hG);have E:=Lib.hid (fun e w' (d:DoC (w.alloc (.cells (actA x) 44)) s F (rC c) (t+1) (rE c) e w')=>d.pre B0.out h.low);clear h ok hg e1 e2;generalize rC c=c' at *;generalize rE c=ae at *;unfold actV actA at *;unfold ptr at *;obtain ⟨k,n,f,rr,v,s',m,tt⟩:=x;simp only at hk B0 C2 E ⊢;subst hk
 go_enter Tryz.func17,Tryz.ntmps17
 go_wp2_with fail;refine C2.out.mono ?_;rintro e w2 d;have G:=Lib.hid (E.out e w2 d);obtain ⟨rfl,_,_⟩:=d;clear E C2;go_wp2
 go_ret
 exact G.out
theorem cdo_any (h:Cl w s F c t vn L p vq Fs) (ok:OkC c t) (sy:Syn c) (ht:t≤1000) (hg:Glob w) (hG:¬ F 1) (x:Ac) (hx:okR x.v) (hf:Wf x.f):Calls Tryz.prog 17 #[ptr s,actV x] w (DoC w s F (actC x c) (t+1) (actE x c)):=by
 by_cases h1:x.k=1
 ·exact cdo_round h ok ht hg hG x h1
 by_cases h3:x.k=3
 ·exact cdo_spoil h ok x h3
 by_cases hn:no c x.n
 ·exact cdo_none h x h1 h3 hn
 by_cases h2:x.k=2
 ·exact cdo_write h x h2 hn hx hf
 by_cases h4:x.k=4
 ·exact cdo_crash h ok sy x h4 hn
 by_cases h5:x.k=5
 ·exact cdo_restart h ok sy x h5 hn
 by_cases h6:x.k=6
 ·exact cdo_drift h x h6 hn
 ·exact cdo_kind h x h1 h3 (by omega) hn
end
end Go.Proofs.YtljnkaodhfnbbaaGreatDoor.Cu
namespace Go.Proofs.YtljnkaodhfnbbaaGreatDoor.Cu
open Go.RowKit
open Rw (Rd Ow At)
open Fl (R4 K4 okL okR z4)
open Fs (Ent Abs St OkA Only Fx E3 Glob Wf FilesPost)
open Pa (ptr sat vat Fls eatF)
open Ck (Hd sl zh)
def CH (w0:World) (s:Nat) (c:Cs) (t:Nat) (W:World):Prop:=∃ F,ClE W s F c t∧(∀ k,F k→w0.heap.size≤k)∧Below w0.heap.size w0 W
section
variable {w0 W w':World} {s t:Nat} {c:Cs}
theorem CH.below (h:CH w0 s c t W) (b:Below W.heap.size W w'):CH w0 s c t w':=by
 obtain ⟨F,⟨vn,L,p,vq,Fs,h1⟩,h2,h3⟩:=h;exact ⟨F,⟨vn,L,p,vq,Fs,h1.below b⟩,h2,h3.trans (b.mono h3.size)⟩
theorem CH.bel (h:CH w0 s c t W):Below w0.heap.size w0 W:=by obtain ⟨_,_,_,h⟩:=h;exact h
theorem ch_do (h:CH w0 s c t W) (hg:Glob w0) (ok:OkC c t) (sy:Syn c) (ht:t≤1000) (x:Ac) (hx:okR x.v) (hf:Wf x.f):Calls Tryz.prog 17 #[ptr s,actV x] W fun e w'=>e = .returned (.int .i64 (actE x c))∧CH w0 s (actC x c) (t+1) w':=by
 obtain ⟨F,⟨vn,L,p,vq,Fs,h1⟩,h2,h3⟩:=h;have gl:=World.block_lt_of_cell? _ _ hg;refine (cdo_any h1 ok sy ht (hg.below h3) (fun g=>by have:=h2 _ g;exact absurd gl (by show ¬ 1 < _;omega)) x hx hf).mono fun e w' d=>⟨d.1,Fx F W w',d.2.1,fun k g=>?_,h3.trans (d.2.2.below h3.size h2)⟩;have:=h3.size
 rcases g with g | g
 ·exact h2 k g
 ·omega
theorem ch_files (h:CH w0 s c t W) {n:Nat} (hn:n < c.S.length):Calls Tryz.prog 21 #[ptr s,.int .i64 n] W (FilesPost W (sat c.S n).1):=by
 obtain ⟨F,⟨vn,L,p,vq,Fs,h1⟩,_,_⟩:=h;exact cfiles_in h1 hn
theorem ch_role (h:CH w0 s c t W) (n:Int):Calls Tryz.prog 23 #[ptr s,.int .i64 n] W fun e w'=>e = .returned (.int .i64 (Wt.rl c.P n))∧Below W.heap.size W w':=by
 obtain ⟨F,⟨vn,L,p,vq,Fs,h1⟩,_,_⟩:=h;exact crole_any h1 n
theorem ch_new {v:Value} {L:List PlD} {B:Nat} (H:Pls W v L B) (e0:newE (pls L)=0) (b:Below w0.heap.size w0 W):Calls Tryz.prog 12 #[v] W fun e w'=>∃ s,e = .returned (.tuple #[.pointer (some ⟨s,0,none⟩),.int .i64 0])∧CH w0 s (newC (pls L)) 0 w':=by
 refine (cnew_any H).mono fun e w' d=>?_;obtain ⟨b',⟨_,s,F,rfl,cl,lo⟩ | ⟨h,_⟩⟩:=d
 ·exact ⟨s,rfl,F,cl,fun k g=>Nat.le_trans b.size (lo k g),b.trans (b'.mono b.size)⟩
 ·exact absurd e0 h
end
theorem fls_of {w:World} {v:Value} {L:List Ent} (rd:Rd E3 w v L) (each:∀ c∈L,Rd K4 w c.sl c.l∧okL c.l):Fls w v L w.heap.size:=by
 have at_:∀ i,i < L.length→eatF L i∈L:=fun i hi=>by
  unfold eatF;rw [List.getD_eq_getElem?_getD,List.getElem?_eq_getElem hi];exact List.getElem_mem hi
 exact ⟨rd,fun i hi=>each _ (at_ i hi),fun i hi h0 k hk=>Fs.rd_low (each _ (at_ i hi)).1 h0 k hk⟩
theorem pls_of {w:World} {v:Value} {L:List PlD} (rd:Rd KP w v L) (each:∀ c∈L,Fls w (sl c.files) c.F w.heap.size):Pls w v L w.heap.size:=by
 refine ⟨rd,fun i hi=>each _ ?_⟩;unfold pld;rw [List.getD_eq_getElem?_getD,List.getElem?_eq_getElem hi];exact List.getElem_mem hi
theorem run_buildA (k n f r a b c d:Int) (w:World):(Instr.build 44 #[(0,.int .i64 k),(1,.int .i64 n),(2,.int .i64 f),(3,.int .i64 r),(4,.agg #[.int .u8 a,.int .u8 b,.int .u8 c,.int .u8 d])]).run Tryz.prog w = .ok (.agg #[.int .i64 k,.int .i64 n,.int .i64 f,.int .i64 r,.int .u8 a,.int .u8 b,.int .u8 c,.int .u8 d,.int .i64 0,.int .i64 0,.int .i64 0]) w:=by kernel_rfl
theorem run_buildB (k:Int) (w:World):(Instr.build 44 #[(0,.int .i64 k)]).run Tryz.prog w = .ok (.agg #[.int .i64 k,.int .i64 0,.int .i64 0,.int .i64 0,.int .u8 0,.int .u8 0,.int .u8 0,.int .u8 0,.int .i64 0,.int .i64 0,.int .i64 0]) w:=by kernel_rfl
end Go.Proofs.YtljnkaodhfnbbaaGreatDoor.Cu
namespace Go.Proofs.YtljnkaodhfnbbaaGreatDoor.Cu
open Fl (R4 z4 okR okL goodF hdr rat newL)
open Fs (Fil Abs OkA key look_none sB sA gB)
open Pa (Sts S2 sat vat rdE rdL rdS rdS_len rdS_at apS hr recA recV rec_none rec_congr)
open Ro (E5 tabL)
open Ck (LL lat tE)
open Re (iat sL sN seqP fileL)
theorem fP_none {A:Abs} {n:Int} (h:fB A n=false):fP A n=0∧fR A n = []:=by
 unfold fB at h;unfold fP fR
 cases e:Fs.look key n A with
 | none=>exact ⟨rfl,rfl⟩
 | some x=>rw [e] at h;cases h
theorem tab_none:tabL 0 [] = []:=by
 unfold tabL Ro.tabO;rw [if_neg (by unfold goodF;simp)]
 rfl
theorem tbs_blank {S:Sts} {n:Int} (h:∀ x∈S,fB x.1 (32+n)=false):tbs S n=List.replicate S.length []:=by
 unfold tbs;rw [List.eq_replicate_iff];refine ⟨List.length_map _,fun y hy=>?_⟩;obtain ⟨x,hx,rfl⟩:=List.mem_map.1 hy;obtain ⟨e1,e2⟩:=fP_none (h x hx);rw [e1,e2,tab_none]
theorem scn_blank (p:Nat→E5→Bool):∀ k n,Ck.scn p n (List.replicate k [])=none
 | 0,_=>rfl
 | k+1,n=>by rw [List.replicate_succ];exact scn_blank p k (n+1)
theorem idx_blank:∀ k n,Ck.idx Ck.bad n (List.replicate k []) = -1
 | 0,_=>rfl
 | k+1,n=>by
   rw [List.replicate_succ,Ck.idx,if_neg (by decide)];exact idx_blank k (n+1)
theorem tE_blank (k:Nat):tE (List.replicate k [])=0:=by
 unfold tE Ck.bI Ck.clN Ck.gaN Ck.whoN;rw [idx_blank,scn_blank,scn_blank]
 decide
theorem lat_blank (k i:Nat):lat (List.replicate k []) i = []:=by
 unfold lat;rw [List.getD_eq_getElem?_getD,List.getElem?_replicate]
 split <;> rfl
theorem ap_blank (h:Pa.Hr) (s:Abs×Int):apS h [] s=s:=by
 have e:recA h [] s.1=s.1:=by
  show recV h [] (fun _ _=>true) s.1=s.1
  rw [rec_congr (V':=fun _ _=>false) (fun n k g=>absurd rfl g),rec_none fun _ _=>rfl]
 unfold apS;rw [e]
 rfl
theorem rd_blank {S:Sts} {V:List Bool} {Q:List S2} (hl:1≤S.length∧S.length≤32) (hv:V.length=S.length):rdE S (List.replicate S.length []) V=0∧rdL S (List.replicate S.length []) V Q=S:=by
 have e0:rdE S (List.replicate S.length []) V=0:=by
  unfold rdE;rw [if_pos ⟨hl.1,hl.2,List.length_replicate,hv⟩,tE_blank]
 refine ⟨e0,?_⟩;have er:rdL S (List.replicate S.length []) V Q=rdS S (List.replicate S.length []) V (hr S (List.replicate S.length []) V Q):=if_pos e0;rw [er];refine List.ext_getElem? fun i=>?_
 by_cases hi:i < S.length
 ·have a:=rdS_at S (List.replicate S.length []) V (hr S (List.replicate S.length []) V Q) hi
  rw [lat_blank,ap_blank] at a;have a:sat (rdS S (List.replicate S.length []) V (hr S (List.replicate S.length []) V Q)) i=sat S i:=by rw [a];split <;> rfl
  unfold sat at a;rw [Int.toNat_natCast,List.getD_eq_getElem?_getD,List.getD_eq_getElem?_getD,List.getElem?_eq_getElem hi,List.getElem?_eq_getElem (by rw [rdS_len];exact hi)] at a;rw [List.getElem?_eq_getElem hi,List.getElem?_eq_getElem (by rw [rdS_len];exact hi)];exact congrArg some a
 ·rw [List.getElem?_eq_none (show S.length≤i by omega),List.getElem?_eq_none (show (rdS S (List.replicate S.length []) V (hr S (List.replicate S.length []) V Q)).length≤i by rw [rdS_len];omega)]
structure Blk (A:Abs) (l:List Int):Prop where
 has:fB A 40=true
 p:fP A 40=3
 r:fR A 40=fileL l
 seq:seqP l
theorem Blk.sq {A:Abs} {l:List Int} (h:Blk A l):sqB A=true∧sqL A=l:=by
 obtain ⟨e1,e2⟩:=Re.seq_file h.seq;unfold sqB sqL;rw [h.has,h.p,h.r,e1,e2];exact ⟨rfl,rfl⟩
theorem blank_round {c:Cs} {l:List Int} (ho:0≤Wt.opn c.P) (hb:Blk (own c) l) (hn:∀ x∈c.S,∀ n∈l,fB x.1 (32+n)=false) (hl:1≤c.S.length∧c.S.length≤32) (hv:c.V.length=c.S.length) :
 rE c=0∧rC c=⟨c.S,c.V,Wt.rnd c.P,at1 c l,[]⟩:=by
 obtain ⟨q1,q2⟩:=hb.sq;have hs:=hb.seq.1;have hi:at0 c l < l.length:=by
  unfold at0
  split <;> omega
 have hm:iat l (at0 c l)∈l:=by
  unfold iat;rw [List.getD_eq_getElem?_getD,List.getElem?_eq_getElem hi];exact List.getElem_mem hi
 have ht:rT c=List.replicate c.S.length []:=by
  unfold rT;rw [q2];exact tbs_blank fun x hx=>hn x hx _ hm
 obtain ⟨r1,r2⟩:=rd_blank (S:=c.S) (V:=c.V) (Q:=c.Q) hl hv;unfold rE rC;rw [if_neg (by omega),if_pos q1,if_neg (by omega),if_pos q1,ht,r1,q2,if_pos rfl,r2];exact ⟨rfl,rfl⟩
def acR:Ac:=⟨1,0,0,0,z4,0,0,0⟩
theorem act_round (c:Cs):actE acR c=rE c∧actC acR c=rC c:=⟨if_pos rfl,if_pos rfl⟩
def A0:Abs:=[(40,3,fileL [0,1])]
def S0:Sts:=[(A0,0),(A0,0)]
theorem no0:∀ x∈S0,∀ n∈([0,1]:List Int),fB x.1 (32+n)=false:=fun x hx n hn=>by
 have hx:x=(A0,0):=by
  rcases List.mem_cons.1 hx with h | h
  ·exact h
  ·exact List.mem_singleton.1 h
 rw [hx]
 rcases List.mem_cons.1 hn with h | h
 ·rw [h];rfl
 ·rw [List.mem_singleton.1 h];rfl
def c1:Cs:=⟨S0,[true,true],Wt.new,1,[]⟩
def A1:Abs:=[(1,7,newL 7 1),(40,3,fileL [0])]
def r7:R4:=(7,0,0,0)
def A2:Abs:=[(1,7,[hdr 7 1,r7]),(40,3,fileL [0])]
def L1:List Pl:=[(A1,2000),(A1,2000)]
def acW:Ac:=⟨2,1,1,1,r7,0,0,0⟩
def d1:Cs:=⟨[(A1,0),(A2,0)],[true,true],Wt.new,0,[]⟩
theorem seq0:seqP [0]:=by decide
theorem blk1:Blk A1 [0]:=⟨rfl,rfl,rfl,seq0⟩
theorem gd1:gdP (A1,2000):=by
 refine ⟨⟨List.pairwise_cons.2 ⟨fun y hy=>by rw [List.mem_singleton.1 hy];decide,List.pairwise_singleton _ _⟩,fun e he=>?_⟩,by decide,by decide⟩
 rcases List.mem_cons.1 he with h | h
 ·rw [h]
  exact ⟨⟨by decide,by decide⟩,by decide,by decide,by decide,by decide,rfl⟩
 ·rw [List.mem_singleton.1 h]
  exact ⟨⟨by decide,by decide⟩,Re.file_good seq0⟩
theorem new1:newE L1=0:=by
 unfold newE;rw [if_neg (by decide),if_pos,if_pos]
 ·refine ⟨blk1.sq.1,rfl,rfl,rfl⟩
 ·intro p hp
  have:p=(A1,2000):=by
   rcases List.mem_cons.1 hp with h | h
   ·exact h
   ·exact List.mem_singleton.1 h
  rw [this];exact gd1
theorem g_write:actE acW (newC L1)=0∧actC acW (newC L1)=d1:=⟨rfl,rfl⟩
theorem no1:∀ x∈d1.S,∀ n∈([0]:List Int),fB x.1 (32+n)=false:=fun x hx n hn=>by
 rw [List.mem_singleton.1 hn]
 rcases List.mem_cons.1 hx with h | h
 ·rw [h];rfl
 ·rw [List.mem_singleton.1 h];rfl
theorem g_round:actE acR d1=0∧actC acR d1=⟨d1.S,[true,true],Wt.new,0,[]⟩:=by
 obtain ⟨a,b⟩:=blank_round (c:=d1) (l:=[0]) (by decide) blk1 no1 (by decide) rfl;obtain ⟨x,y⟩:=act_round d1;rw [x,y,a,b];exact ⟨rfl,rfl⟩
end Go.Proofs.YtljnkaodhfnbbaaGreatDoor.Cu
namespace Go.Proofs.YtljnkaodhfnbbaaGreatDoor.Wn
open Go.RowKit
open Rw (Rd Ow At)
open Fl (R4 K4 okL okR z4 row_cell row_frozen newL newP NewPost rnew_any hdr)
open Fs (Glob Ent Abs E3 Ls FilesPost)
open Re (KI fileL FilePost rfile_any)
open Pa (ptr sat vat)
open Ck (Hd sl zh)
open Cu (CH ch_do ch_files ch_role ch_new fls_of pls_of PlD KP Pls pls run_buildA run_buildB actE actC actV Syn OkC)
attribute [local irreducible] Sd.wpSd wpQuiet
def Wakes (w:World):Prop:=Glob w
theorem Wakes.below {w w':World} (h:Wakes w) (b:Below w.heap.size w w'):Wakes w':=Fs.Glob.below h b
theorem ok_new71:okL (newL 7 1):=by
 intro r h
 simp only [newL,List.mem_cons] at h
 rcases h with rfl | h
 ·unfold okR;decide
 ·have:r=z4:=(List.mem_replicate.1 h).2
  rw [this];exact Fl.okR_z
theorem two_plans {w:World} {c:PlD} (h:Pa.Fls w (sl c.files) c.F w.heap.size):Pls (w.alloc (.cells #[sl c.files,.int .i64 c.rate,sl c.files,.int .i64 c.rate] 60)) (.slice (some ⟨w.heap.size,0,none⟩) 2 2) [c,c] (w.alloc (.cells #[sl c.files,.int .i64 c.rate,sl c.files,.int .i64 c.rate] 60)).heap.size:=by
 have rd:=(Rw.Ow.lit (K:=KP) w w.heap.size 60 [c,c] (Nat.le_refl _) (by unfold maxLen;simp)).rd;have b:=(Below.refl w.heap.size w).alloc (Nat.le_refl _) (.cells #[sl c.files,.int .i64 c.rate,sl c.files,.int .i64 c.rate] 60);refine pls_of rd fun x hx=>?_;have e:x=c:=by
  rcases List.mem_cons.1 hx with h | h
  ·exact h
  ·exact List.mem_singleton.1 h
 rw [e];have f:=h.below b;exact fls_of f.rd fun y hy=>by
  obtain ⟨i,hi⟩:=List.getElem?_of_mem hy;have hl:=(List.getElem?_eq_some_iff.1 hi).1;have:=f.file i hl;unfold Pa.eatF at this;rw [List.getD_eq_getElem?_getD,hi] at this;exact this
theorem ok1:OkC (Cu.newC Cu.L1) 0:=Cu.new_ok Cu.new1 fun p hp e he=>by
 have:p=(Cu.A1,2000):=by
  rcases List.mem_cons.1 hp with h | h
  ·exact h
  ·exact List.mem_singleton.1 h
 subst this
 rcases List.mem_cons.1 he with h | h
 ·rw [h];exact ok_new71
 ·rw [List.mem_singleton.1 h];exact Re.ok_file Cu.seq0
theorem sy1:Syn (Cu.newC Cu.L1):=Cu.syn_new _ (by decide)
theorem okr7:okR Cu.r7:=by unfold okR;decide
theorem ok2:OkC Cu.d1 1:=by
 have:=ok1.act Cu.acW okr7;rw [Cu.g_write.2] at this;exact this
theorem sy2:Syn Cu.d1:=by
 have:=sy1.act ok1 Cu.acW;rw [Cu.g_write.2] at this;exact this
set_option maxHeartbeats 4000000 in
theorem wakes_any {w:World} (h:Wakes w):Calls Tryz.prog 28 #[] w fun e w'=>e = .returned (.bool true)∧Below w.heap.size w w':=by
 have HG:=Lib.hid h;clear h;have L1:Hid (Rd KI (w.alloc (.cells #[.int .i64 0] 3)) (.slice (some ⟨w.heap.size,0,none⟩) 1 1) [0]):=Lib.hid (Rw.Ow.lit (K:=KI) w w.heap.size 3 [0] (Nat.le_refl _) (by unfold maxLen;simp)).rd;have B1:=Lib.hid ((Below.refl w.heap.size w).alloc (Nat.le_refl _) (.cells #[.int .i64 0] 3))
 have C1:Hid (Calls Tryz.prog 58 #[.slice (some ⟨w.heap.size,0,none⟩) 1 1] (w.alloc (.cells #[.int .i64 0] 3)) fun e w'=>∃ a cap,e = .returned (.tuple #[.agg #[.int .i64 3,.slice a 2 cap],.int .i64 0])∧Rd K4 w' (.slice a 2 cap) (fileL [0])∧Below (w.alloc (.cells #[.int .i64 0] 3)).heap.size (w.alloc (.cells #[.int .i64 0] 3)) w'):=Lib.hid ((rfile_any _ _ [0] L1.out).mono fun e w' ⟨u,he,hu,hb⟩=>by
  have e1:Re.fL [0]=fileL [0]:=if_pos Cu.seq0;rw [e1] at hu;obtain ⟨a,cap,rfl,_⟩:=hu.slice
  exact ⟨a,cap,by rw [he];unfold Re.fP Re.fN;rw [if_pos Cu.seq0,if_pos Cu.seq0];rfl,hu,hb⟩)
 have C2:Hid (∀ W,Calls Tryz.prog 75 #[.int .i64 7,.int .i64 1] W fun e w'=>∃ a cap,e = .returned (.tuple #[.agg #[.int .i64 7,.slice a 2 cap],.int .i64 0])∧Rd K4 w' (.slice a 2 cap) (newL 7 1)∧Below W.heap.size W w'):=Lib.hid (fun W=>(rnew_any W 7 1).mono fun e w' ⟨v,he,hv,hb⟩=>by
  have hp:newP 7 1:=⟨by decide,by decide,by decide,by decide⟩;rw [if_pos hp] at hv;rw [if_pos hp,if_pos hp] at he;obtain ⟨a,cap,rfl,_⟩:=hv.slice
  exact ⟨a,cap,he,hv,hb⟩)
 go_enter Tryz.func28,Tryz.ntmps28
 go_wp2_with fail;refine C1.out.mono ?_;rintro e w2 ⟨fa,fc,rfl,r2,b2⟩;have B2:=Lib.hid (B1.out.trans (b2.mono B1.out.size));have X2:=Lib.hid (heap_alloc_new w2 (.cells #[.int .i64 3,.slice fa 2 fc] 70));have N2:=Lib.hid ((Below.refl w2.heap.size w2).alloc (Nat.le_refl _) (.cells #[.int .i64 3,.slice fa 2 fc] 70));have R2:=Lib.hid (r2.below N2.out);have B3:=Lib.hid (B2.out.trans (N2.out.mono B2.out.size));clear C1 L1 B1 r2 b2 B2 N2;go_upto_region 2 with fail;generalize (w2.alloc (.cells #[.int .i64 3,.slice fa 2 fc] 70))=w3 at *;generalize w2.heap.size=g1 at *;have D2:=Lib.hid (C2.out w3);clear C2;go_wp2_with fail;refine D2.out.mono ?_;rintro e w4 ⟨na,nc,rfl,r4,b4⟩;have X4:=Lib.hid (heap_alloc_new w4 (.cells #[.int .i64 7,.slice na 2 nc] 70));have N4:=Lib.hid ((Below.refl w4.heap.size w4).alloc (Nat.le_refl _) (.cells #[.int .i64 7,.slice na 2 nc] 70));have R4a:=Lib.hid (r4.below N4.out);have R5:=Lib.hid ((R2.out.below b4).below N4.out);have X5:=Lib.hid ((N4.out.block _ (Nat.lt_of_lt_of_le (lt_of_block X2.out) b4.size)).trans ((b4.block _ (lt_of_block X2.out)).trans X2.out));have B5:=Lib.hid ((B3.out.trans (b4.mono B3.out.size)).trans (N4.out.mono (Nat.le_trans B3.out.size b4.size)));clear D2 r4 b4 R2 X2 B3 N4;go_upto_region 3 with fail;generalize (w4.alloc (.cells #[.int .i64 7,.slice na 2 nc] 70))=w5 at *;generalize w4.heap.size=g2 at *;have x0:w5.cell? ⟨g2,0,none⟩=some (.int .i64 7):=row_cell X4.out 0;have x1:w5.cell? ⟨g2,1,none⟩=some (.slice na 2 nc):=row_cell X4.out 1;have y0:w5.cell? ⟨g1,0,none⟩=some (.int .i64 3):=row_cell X5.out 0;have y1:w5.cell? ⟨g1,1,none⟩=some (.slice fa 2 fc):=row_cell X5.out 1;have hBN:=Fs.run_buildN;have RE:Hid (Rd E3 (w5.alloc (.cells #[.int .i64 1,.int .i64 7,.slice na 2 nc,.int .i64 40,.int .i64 3,.slice fa 2 fc] 72)) (.slice (some ⟨w5.heap.size,0,none⟩) 2 2) [⟨1,7,na,nc,newL 7 1⟩,⟨40,3,fa,fc,fileL [0]⟩]):=Lib.hid (Rw.Ow.lit (K:=E3) w5 w5.heap.size 72 [⟨1,7,na,nc,newL 7 1⟩,⟨40,3,fa,fc,fileL [0]⟩] (Nat.le_refl _) (by unfold maxLen;simp)).rd;have B6:=Lib.hid ((Below.refl w5.heap.size w5).alloc (Nat.le_refl _) (.cells #[.int .i64 1,.int .i64 7,.slice na 2 nc,.int .i64 40,.int .i64 3,.slice fa 2 fc] 72));have Z6:Hid ((w5.alloc (.cells #[.int .i64 1,.int .i64 7,.slice na 2 nc,.int .i64 40,.int .i64 3,.slice fa 2 fc] 72)).heap.size=w5.heap.size+1):=Lib.hid (by simp);have B7:=Lib.hid (B6.out.alloc B6.out.size (.cells #[.slice (some ⟨w5.heap.size,0,none⟩) 2 2,.int .i64 2000] 60));have X7:Hid (((w5.alloc (.cells #[.int .i64 1,.int .i64 7,.slice na 2 nc,.int .i64 40,.int .i64 3,.slice fa 2 fc] 72)).alloc (.cells #[.slice (some ⟨w5.heap.size,0,none⟩) 2 2,.int .i64 2000] 60)).heap[w5.heap.size+1]? = some (.cells #[.slice (some ⟨w5.heap.size,0,none⟩) 2 2,.int .i64 2000] 60 (0,0))):=Lib.hid (by rw [← Z6.out];exact heap_alloc_new _ _)
 have FL:Hid (Pa.Fls ((w5.alloc (.cells #[.int .i64 1,.int .i64 7,.slice na 2 nc,.int .i64 40,.int .i64 3,.slice fa 2 fc] 72)).alloc (.cells #[.slice (some ⟨w5.heap.size,0,none⟩) 2 2,.int .i64 2000] 60)) (.slice (some ⟨w5.heap.size,0,none⟩) 2 2) [⟨1,7,na,nc,newL 7 1⟩,⟨40,3,fa,fc,fileL [0]⟩] ((w5.alloc (.cells #[.int .i64 1,.int .i64 7,.slice na 2 nc,.int .i64 40,.int .i64 3,.slice fa 2 fc] 72)).alloc (.cells #[.slice (some ⟨w5.heap.size,0,none⟩) 2 2,.int .i64 2000] 60)).heap.size):=Lib.hid (fls_of (RE.out.below ((Below.refl _ _).alloc (Nat.le_refl _) _)) fun c hc=>by
  rcases List.mem_cons.1 hc with h | h
  ·rw [h];exact ⟨R4a.out.below B7.out,ok_new71⟩
  ·rw [List.mem_singleton.1 h];exact ⟨R5.out.below B7.out,Re.ok_file Cu.seq0⟩)
 have BB:=Lib.hid (B5.out.trans (B7.out.mono B5.out.size));clear RE B6 Z6 B7 R4a R5 B5 X4 X5;go_upto_region 4 with fail;clear x0 x1 y0 y1 hBN;generalize ((w5.alloc (.cells #[.int .i64 1,.int .i64 7,.slice na 2 nc,.int .i64 40,.int .i64 3,.slice fa 2 fc] 72)).alloc (.cells #[.slice (some ⟨w5.heap.size,0,none⟩) 2 2,.int .i64 2000] 60))=w7 at *;generalize w5.heap.size=g5 at *;have x0:w7.cell? ⟨g5+1,0,none⟩=some (.slice (some ⟨g5,0,none⟩) 2 2):=row_cell X7.out 0;have x1:w7.cell? ⟨g5+1,1,none⟩=some (.int .i64 2000):=row_cell X7.out 1;have PL:=Lib.hid (two_plans (c:=⟨(some ⟨g5,0,none⟩,2,2),2000,[⟨1,7,na,nc,newL 7 1⟩,⟨40,3,fa,fc,fileL [0]⟩]⟩) FL.out);have NW:Hid (Calls Tryz.prog 12 #[.slice (some ⟨w7.heap.size,0,none⟩) 2 2] (w7.alloc (.cells #[.slice (some ⟨g5,0,none⟩) 2 2,.int .i64 2000,.slice (some ⟨g5,0,none⟩) 2 2,.int .i64 2000] 60)) fun e w'=>∃ s,e = .returned (.tuple #[.pointer (some ⟨s,0,none⟩),.int .i64 0])∧CH w s (Cu.newC Cu.L1) 0 w'):=Lib.hid (ch_new PL.out (w0:=w) Cu.new1 (BB.out.alloc BB.out.size _));clear FL PL BB X7;go_wp2_with fail;refine NW.out.mono ?_;rintro e w8 ⟨s,rfl,ch8⟩;have H8:=Lib.hid ch8
 have DW:Hid (Calls Tryz.prog 17 #[.pointer (some ⟨s,0,none⟩),.agg #[.int .i64 2,.int .i64 1,.int .i64 1,.int .i64 1,.int .u8 7,.int .u8 0,.int .u8 0,.int .u8 0,.int .i64 0,.int .i64 0,.int .i64 0]] w8 fun e w'=>e = .returned (.int .i64 0)∧CH w s Cu.d1 1 w'):=Lib.hid (by
  have:=ch_do H8.out HG.out ok1 sy1 (by decide) Cu.acW okr7 (WalkArith.wf_i64 (by decide));rw [Cu.g_write.1,Cu.g_write.2] at this
  exact this)
 have hA:=run_buildA;have hB:=run_buildB;clear NW ch8 x0 x1;go_wp2_with fail;refine DW.out.mono ?_;rintro e w9 ⟨rfl,ch9⟩;have H9:=Lib.hid ch9
 have DR:Hid (Calls Tryz.prog 17 #[.pointer (some ⟨s,0,none⟩),.agg #[.int .i64 1,.int .i64 0,.int .i64 0,.int .i64 0,.int .u8 0,.int .u8 0,.int .u8 0,.int .u8 0,.int .i64 0,.int .i64 0,.int .i64 0]] w9 fun e w'=>e = .returned (.int .i64 0)∧CH w s ⟨Cu.d1.S,[true,true],Wt.new,0,[]⟩ 2 w'):=Lib.hid (by
  have:=ch_do H9.out HG.out ok2 sy2 (by decide) Cu.acR Fl.okR_z (WalkArith.wf_i64 (by decide));rw [Cu.g_round.1,Cu.g_round.2] at this
  exact this)
 clear DW H8 ch9;go_wp2_with fail;refine DR.out.mono ?_;rintro e w10 ⟨rfl,ch10⟩;have H10:=Lib.hid ch10;have FI:=Lib.hid (ch_files H10.out (n:=1) (by decide));unfold FilesPost ptr at FI;clear DR H9 ch10 hA hB;go_wp2_with fail;refine FI.out.mono ?_;rintro e w11 ⟨v,rfl,hv,b11⟩;have H11:=Lib.hid (H10.out.below b11);obtain ⟨L,hL,eL⟩:=hv (fun _=>False) nofun;have EA:(sat (⟨Cu.d1.S,[true,true],Wt.new,0,[]⟩:Cu.Cs).S (1:Nat)).1=Cu.A2:=rfl;rw [EA] at eL;have hl:L.length=2:=by
  have:=congrArg List.length eL;rw [List.length_map] at this;exact this
 rcases L with _ | ⟨c,_ | ⟨d,_ | ⟨x,r⟩⟩⟩
 ·cases hl
 ·cases hl
 ·have ec:c.abs=(1,7,[hdr 7 1,Cu.r7]):=by injection eL
  have el:c.l = [hdr 7 1,Cu.r7]:=congrArg (fun x=>x.2.2) ec;obtain ⟨a,cap,rfl,_,_,h3⟩:=hL.rd;obtain ⟨b,off,rfl,hA⟩:=h3 (by simp);have c2:w11.cell? ⟨b,off+2,none⟩=some c.sl:=by
   have:=hA 0 (by simp) 2 c.sl rfl
   simpa [E3] using this
  obtain ⟨a2,cap2,e2,_,_,h4⟩:=hL.file c List.mem_cons_self;rw [el] at e2 h4;obtain ⟨b2,off2,rfl,hB⟩:=h4 (by simp);rw [e2] at c2;have y0:w11.cell? ⟨b2,off2+4,none⟩=some (.int .u8 7):=by have:=hB 1 (by simp) 0 _ rfl;simpa [K4,Cu.r7] using this
  have y1:w11.cell? ⟨b2,off2+4+1,none⟩=some (.int .u8 0):=by have:=hB 1 (by simp) 1 _ rfl;simpa [K4,Cu.r7] using this
  have y2:w11.cell? ⟨b2,off2+4+2,none⟩=some (.int .u8 0):=by have:=hB 1 (by simp) 2 _ rfl;simpa [K4,Cu.r7] using this
  have y3:w11.cell? ⟨b2,off2+4+3,none⟩=some (.int .u8 0):=by have:=hB 1 (by simp) 3 _ rfl;simpa [K4,Cu.r7] using this
  have es:∀ w,(Op.equalIn 10000 42 (.agg #[.int .u8 7,.int .u8 0,.int .u8 0,.int .u8 0]) (.agg #[.int .u8 7,.int .u8 0,.int .u8 0,.int .u8 0])).run Tryz.prog w = .ok true w:=fun w=>by
   have:=Fl.eq_rec (7,0,0,0) (7,0,0,0) w
   simpa using this
  have RO:=Lib.hid (ch_role H11.out 0);have BF:=Lib.hid H11.out.bel;unfold ptr at RO;clear FI H10 hv hL eL EA hl ec el hA hB e2 h3 h4 b11 H11;go_wp2_with fail;refine RO.out.mono ?_;rintro e w12 ⟨rfl,b12⟩;have E:=Lib.hid (BF.out.trans (b12.mono BF.out.size));clear RO b12 BF c2 y0 y1 y2 y3;go_wp2
  go_ret
  exact ⟨rfl,E.out⟩
 ·cases hl
end Go.Proofs.YtljnkaodhfnbbaaGreatDoor.Wn
namespace Go.Proofs.YtljnkaodhfnbbaaGreatDoor.Bp
open Go.RowKit
open Rw (Rd Ow At)
open Fl (ret_bool at_bool row_cell)
open Go.Proofs.YtljnkaodhfnbbaaGreatDoor.Nm (S Gd KV Fit sameB okP)
def b0:List S:=[(9,0),(4,0)]
def b1:List S:=[(9,2),(4,1)]
end Go.Proofs.YtljnkaodhfnbbaaGreatDoor.Bp
namespace Go.Proofs.YtljnkaodhfnbbaaGreatDoor.Bp
open Go.RowKit
open Rw (Rd Ow At)
open Fl (ret_bool at_bool row_cell)
open Go.Proofs.YtljnkaodhfnbbaaGreatDoor.Nm (S sa Gd KV Fit sameB gdB gdB_iff)
theorem fit_take {l:List S} (h:Fit l) (n:Nat):Fit (l.take n):=fun i hi=>by
 have hl:i < l.length∧i < n:=by rw [List.length_take] at hi;omega
 have:sa (l.take n) i=sa l i:=by
  unfold sa;rw [List.getD_eq_getElem?_getD,List.getD_eq_getElem?_getD,List.getElem?_take,if_pos hl.2]
 rw [this];exact h i hl.1
end Go.Proofs.YtljnkaodhfnbbaaGreatDoor.Bp
namespace Go.Proofs.YtljnkaodhfnbbaaGreatDoor.Bp
open Go.RowKit
open Rw (Rd Ow At)
open Fl (ret_bool at_bool row_cell)
open Go.Proofs.YtljnkaodhfnbbaaGreatDoor.Nm (S sa Gd KV Fit sameB gdB gdB_iff gdB_yes cn cn_le okN atV)
structure Ks (x y:List S) (e:Int) (r D:Nat) (n:Nat):Prop where
 lx:x.length=n
 ly:y.length=n
 ph:∀ i,i < n→(sa y i).1=(sa x i).1
 na:∀ i,i < n→0 < (sa x i).2→(sa y i).2=(sa x i).2
 nz:e=0→∀ i,i < n→(sa y i).2≠0
 le:r≤D+67 * (cn x+1)
theorem ks_of {x:List S} (g:Gd x) (F:Fit x) (most:Int) (L:List Bool):Ks x (rnL x most L) (rnE x most L) (rnN x most L) L.length x.length∧Gd (rnL x most L):=by
 obtain ⟨K,h2,h3⟩:=run_safe most L g (fit_low F);exact ⟨⟨rfl,K.len,K.phys,K.named,fun h i hi=>cn_zero (h3 h) (by rw [K.len];exact hi),h2⟩,K.gd⟩
theorem cnK_le (x:List S):∀ k,cnK x k≤k
 | 0=>Nat.le_refl _
 | k+1=>by
   have:=cnK_le x k
   show (if (sa x k).2=0 then cnK x k+1 else cnK x k)≤_
   split <;> omega
end Go.Proofs.YtljnkaodhfnbbaaGreatDoor.Bp
namespace Go.Proofs.YtljnkaodhfnbbaaGreatDoor.Wn
open Go.RowKit
open Rw (Rd Ow At)
open Fl (ret_bool at_bool row_cell)
open Go.Proofs.YtljnkaodhfnbbaaGreatDoor.Nm (S sa Gd KV Fit sameB gdB gdB_iff gdB_yes cn cn_le okN atV AssignPost assign_any asL asE)
open Bp (KG RunPost run_any Ks ks_of cnK cnK_le cnK_all rnL rnE rnN fit_low fit_take)
theorem rd_take {α:Type} {K:Rw.Kind α} {w:World} {l:List α} {a:Option Addr} {n cap k:Nat} (R:Rd K w (.slice a n cap) l) (hk:k≤l.length) (h0:0 < k):Rd K w (.slice a k cap) (l.take k):=by
 obtain ⟨a',cap',e',⟨h1,h2⟩,h3,h4⟩:=R;injection e' with e1 e2 e3;subst e1 e3;have hl:(l.take k).length=k:=by rw [List.length_take];omega
 refine ⟨a,cap,by rw [hl],⟨by rw [hl];omega,h2⟩,h3,fun _=>?_⟩;obtain ⟨b,off,rfl,hA⟩:=h4 (by omega);refine ⟨b,off,rfl,fun i hi j u hu=>?_⟩;rw [hl] at hi;refine hA i (by omega) j u ?_;rw [← hu,List.getD,List.getD,List.getElem?_take,if_pos hi]
theorem rn_or {most:Int} {L:List Bool} : ∀ {f r:Nat} {c:List S},(Bp.rn most L f c r).2.2=0∨(Bp.rn most L f c r).2.2=11
 | 0,_,_=>.inl rfl
 | f+1,r,c=>by
   unfold Bp.rn
   split
   ·exact .inr rfl
   ·split
    ·exact .inl rfl
    ·split
     ·exact rn_or
     ·exact rn_or
theorem same_self (l:List S):sameB l l=true:=decide_eq_true rfl
set_option maxHeartbeats 8000000 in
set_option maxRecDepth 100000 in
theorem names_law (w:World) (wk:Wakes w) (v u:Value) (l:List S) (L:List Bool) (most:Int) (R:Rd KV w v l) (F:Fit l) (G:Rd KG w u L):Calls Tryz.prog 11 #[v,.int .i64 most,u] w fun e w'=>e = .returned (.bool true)∧Below w.heap.size w w':=by
 have F1:=Lib.hid (fit_take F 40);have L1:Hid ((l.take 40).length≤40):=Lib.hid (by rw [List.length_take];omega);have L2:Hid ((L.take 500).length≤500):=Lib.hid (by rw [List.length_take];omega);have WK:=Lib.hid (fun W (b:Below w.heap.size w W)=>wakes_any (wk.below b));have RR:=Lib.hid R;have GG:=Lib.hid G;obtain ⟨a,cap,rfl,hc,_,hA⟩:=R;obtain ⟨a',cap',rfl,hc',_,hA'⟩:=G;clear wk F hA hA';have LA:Hid (40 < l.length→Rd KV w (.slice a 40 cap) (l.take 40)):=Lib.hid (fun h=>rd_take RR.out (by omega) (by omega));have LB:Hid (¬ 40 < l.length→Rd KV w (.slice a l.length cap) (l.take 40)):=Lib.hid (fun h=>by rw [List.take_of_length_le (by omega)];exact RR.out);have GA:Hid (500 < L.length→Rd KG w (.slice a' 500 cap') (L.take 500)):=Lib.hid (fun h=>rd_take GG.out (by omega) (by omega));have GB:Hid (¬ 500 < L.length→Rd KG w (.slice a' L.length cap') (L.take 500)):=Lib.hid (fun h=>by rw [List.take_of_length_le (by omega)];exact GG.out);clear RR GG;generalize l.take 40=x at *;generalize L.take 500=y at *;generalize l.length=n at *;generalize L.length=n' at *;have hcap:=hc.1;have hcap':=hc'.1;clear hc hc'
 go_enter Tryz.func11,Tryz.ntmps11
 go_upto_if 23 with fail
 go_cut [7] from 21 to 148 (fun z wx=>(∃ (b1:Option Addr) (m c1:Nat),Value.slice b1 m c1=z∧Hid (Rd KV w (.slice b1 m c1) x))∧w=wx)
 case first =>
  by_cases h40:40 < n
  ·have Q:=Lib.hid (LA.out h40)
   have h40':(40:Int) < n:=by omega
   clear LA LB GA GB;go_wp2
   go_meet
   exact ⟨⟨_,_,_,rfl,Q⟩,rfl⟩
  ·have Q:=Lib.hid (LB.out h40)
   have h40':¬ (40:Int) < n:=by omega
   clear LA LB GA GB;go_wp2
   go_meet
   exact ⟨⟨_,_,_,rfl,Q⟩,rfl⟩
 case rest =>
  obtain ⟨⟨b1,m,c1,e1,RX⟩,e2⟩:=hcut;subst e1;subst e2;clear LA LB
  go_upto_if 28 with fail
  go_cut [8] from 21 to 148 (fun z wx=>(∃ (b1:Option Addr) (m c1:Nat),Value.slice b1 m c1=z∧Hid (Rd KG w (.slice b1 m c1) y))∧w=wx)
  case first =>
   by_cases h40:500 < n'
   ·have Q:=Lib.hid (GA.out h40)
    have h40':(500:Int) < n':=by omega
    clear GA GB RX;go_wp2
    go_meet
    exact ⟨⟨_,_,_,rfl,Q⟩,rfl⟩
   ·have Q:=Lib.hid (GB.out h40)
    have h40':¬ (500:Int) < n':=by omega
    clear GA GB RX;go_wp2
    go_meet
    exact ⟨⟨_,_,_,rfl,Q⟩,rfl⟩
  case rest =>
   obtain ⟨⟨b2,m',c2,e1,RY⟩,e2⟩:=hcut;subst e1;subst e2;clear GA GB;have em:m=x.length:=by obtain ⟨_,_,e,_⟩:=RX.out;injection e
   have em':m'=y.length:=by obtain ⟨_,_,e,_⟩:=RY.out;injection e
   subst em em';have C1:=Lib.hid (Nm.good_any w _ x RX.out F1.out)
   rcases hq:gdB x with _ | _
   ·rw [hq] at C1
    clear hq F1 L1 L2;generalize x.length=m at *;generalize y.length=D at *;go_wp2_with fail;refine C1.out.mono ?_;rintro e w4 ⟨rfl,b4⟩;have B4:=Lib.hid b4;have C4:=Lib.hid (WK.out w4 b4);clear b4 C1;go_wp2_with fail;refine C4.out.mono ?_;rintro e w5 ⟨rfl,b5⟩;have B5:=Lib.hid (B4.out.trans (b5.mono B4.out.size));clear b5 C4 B4;go_wp2
    go_ret
    exact ⟨rfl,B5.out⟩
   ·rw [hq] at C1
    have gx:=gdB_iff.1 hq;obtain ⟨kn,gd⟩:=ks_of gx F1.out most y;obtain ⟨q1,q2,q3⟩:=run_asg most gx (fit_low F1.out);have KN:=Lib.hid kn;have GY:=Lib.hid gd;have HM:=L1.out;have ER:Hid (rnE x most y=0∨rnE x most y=11):=Lib.hid rn_or;have C2:=Lib.hid (fun W u (R:Rd KV W (.slice b1 x.length c1) x) (G:Rd KG W u y)=>run_any W _ u x y R F1.out gx G (by have:=L2.out;omega) most);have C5:=Lib.hid (fun W (R:Rd KV W (.slice b1 x.length c1) x)=>assign_any W _ x R F1.out (by omega) most);have C6:=Lib.hid (fun W (R:Rd KV W (.slice b1 x.length c1) x)=>run_any W _ (.slice none 0 0) x [] R F1.out gx (Rw.Rd.nil W) (by decide) most)
    have FY:Hid (Fit (rnL x most y)):=Lib.hid (fun i hi=>by
     have g0:=gd.num hi;unfold okN at g0;have hi':i < x.length:=by rw [← kn.ly];exact hi
     have:=kn.ph i hi';have:=F1.out i hi'
     omega)
    unfold RunPost at C2 C6;unfold AssignPost at C5;rw [q1,q2] at C6;have Q3:=Lib.hid q3;have FS:Hid (∀ W v u,Rd KV W v (asL x most)→Rd KV W u (asL x most)→Calls Tryz.prog 49 #[v,u] W fun e w'=>e = .returned (.bool true)∧Below W.heap.size W w'):=Lib.hid (fun W v u R R'=>Fl.at_bool (same_self _) (Nm.rsame_any W v u _ _ R R'));clear kn gd hq F1 gx q1 q2 q3;generalize rnL x most y=z at *;generalize rnE x most y=er at *;generalize rnN x most y=rN at *;generalize rnN x most []=r0 at *;generalize hS:asL x most=sx at *;generalize asE x most=ea at *;generalize hm:x.length=m at *;clear hm L1;have hd500:=L2.out;generalize hD:y.length=D at *;have HD:=Lib.hid hD;clear hD L2;go_wp2_with fail;refine C1.out.mono ?_;rintro e w2 ⟨rfl,b2⟩;have B2:=Lib.hid b2;have R2:=Lib.hid (RX.out.below b2);have D3:=Lib.hid (C2.out w2 _ R2.out (RY.out.below b2));clear b2 C1 C2 RX;go_wp2_with fail;refine D3.out.mono ?_;rintro e w4 ⟨ub,rfl,ob,b4⟩;have B5:=Lib.hid (B2.out.trans (b4.mono B2.out.size));have R5:=Lib.hid (R2.out.below b4);have Y5:=Lib.hid ob.rd;obtain ⟨a2,c2',rfl,_,_⟩:=ob.slice;rw [KN.out.ly] at Y5;rw [KN.out.ly];clear b4 D3 B2 R2 ob;have R5':=Lib.hid R5.out;have Y5':=Lib.hid Y5.out;obtain ⟨q1,q2,e,_,_,hA⟩:=R5.out;injection e with e1 e2 e3;subst e1 e3;rw [KN.out.lx] at hA;obtain ⟨q1,q2,e,_,_,hB⟩:=Y5.out;injection e with e1 e3 e4;subst e1 e4;rw [KN.out.ly] at hB;have HA:=Lib.hid hA;have HB:=Lib.hid hB;clear hA hB e2 e3 R5 Y5;generalize w4=w5 at *;have CL:=Lib.hid (fun k=>cnK_le x k);have CN:Hid (∀ k,cnK x (k+1)=if (sa x k).2=0 then cnK x k+1 else cnK x k):=Lib.hid (fun k=>rfl);go_wp2
    go_loopw [12,13] (fun c i wr=>∃ k:Nat,k≤m∧i = .int .i64 k∧c = .int .i64 (cnK x k:Nat)∧Hid (Below w5.heap.size w5 wr)) (fun _ i _=>m - (intOf i).toNat)
    case atStart=>exact ⟨0,Nat.zero_le _,rfl,rfl,Below.refl _ _⟩
    case round =>
     obtain ⟨i,hi,rfl,rfl,bw⟩:=hrel
     by_cases hlt:i < m
     ·obtain ⟨b,off,rfl,A⟩:=HA.out (by omega)
      obtain ⟨b',off',rfl,A'⟩:=HB.out (by omega);obtain ⟨c0,c1⟩:=atV (A.below bw.out) (i:=i) (by rw [KN.out.lx];exact hlt);obtain ⟨d0,d1⟩:=atV (A'.below bw.out) (i:=i) (by rw [KN.out.ly];exact hlt);have HA2:=Lib.hid A;have HB2:=Lib.hid A';rw [KN.out.ph i hlt] at d0;have KA:=Lib.hid (KN.out.na i hlt);clear A A';have CNi:=Lib.hid (CN.out i);have cl:=CL.out i;generalize hx1:(sa x i).1=x1 at *;generalize hx2:(sa x i).2=x2 at *;generalize hy2:(sa z i).2=y2 at *;clear hx1 hx2 hy2;generalize hci:cnK x i=ci at *;clear hci;have n1:(x1 != x1)=false:=by simp
      have n1':decide (x1=x1)=true:=decide_eq_true rfl;have g1:decide ((m:Int)≤(i:Int))=false:=decide_eq_false (by omega);have g2:decide (m≤i)=false:=decide_eq_false (by omega)
      by_cases h0:x2=0
      ·have CI:=Lib.hid (CNi.out.trans (if_pos h0))
       have q1:(x2 == 0)=true:=beq_iff_eq.2 h0;have q1':decide (x2=0)=true:=decide_eq_true h0;have q2:decide (0 < x2)=false:=decide_eq_false (by omega);clear h0 CNi KA;go_upto_region 15 with fail
       go_cut [94] from 43 to 94 (fun r wx=>Value.bool false=r∧Hid (Below w5.heap.size w5 wx))
       case first =>
        go_quiet (fail)
        go_wp2
        go_meet
        exact ⟨rfl,Lib.hid (below_drewN bw.out _)⟩
       case rest =>
        obtain ⟨e1,B6⟩:=hcut;subst e1;clear n1 n1' c0 c1 d0 d1 bw;go_wp2
        go_roundw
        case rel=>exact ⟨i+1,by omega,by go_num,by rw [CI.out];go_num,B6⟩
        case measure=>simp [intOf];omega
      ·have CI:=Lib.hid (CNi.out.trans (if_neg h0))
       have q1:(x2 == 0)=false:=beq_eq_false_iff_ne.2 h0;have q1':decide (x2=0)=false:=decide_eq_false h0;clear h0 CNi;go_upto_region 15 with fail
       go_cut [94] from 43 to 94 (fun r wx=>Value.bool false=r∧Hid (Below w5.heap.size w5 wx))
       case first =>
        by_cases p1:0 < x2
        ·have q2:decide (0 < x2)=true:=decide_eq_true p1
         have ey:=KA.out p1;rw [ey] at d1;have n2:(x2 != x2)=false:=by simp
         have n2':decide (x2=x2)=true:=decide_eq_true rfl;clear ey KA p1
         go_quiet (fail)
         go_wp2
         go_meet
         exact ⟨rfl,Lib.hid (below_drewN bw.out _)⟩
        ·have q2:decide (0 < x2)=false:=decide_eq_false p1
         clear KA p1
         go_quiet (fail)
         go_wp2
         go_meet
         exact ⟨rfl,Lib.hid (below_drewN bw.out _)⟩
       case rest =>
        obtain ⟨e1,B6⟩:=hcut;subst e1;clear n1 n1' c0 c1 d0 d1 bw KA;go_wp2
        go_roundw
        case rel=>exact ⟨i+1,by omega,by go_num,by rw [CI.out],B6⟩
        case measure=>simp [intOf];omega
     ·obtain rfl:i=m:=by omega
      have hle:=KN.out.le;have hcn:cnK x i=cn x:=by rw [← KN.out.lx];exact cnK_all x
      rw [← hcn] at hle Q3;have cl:=CL.out i;have B6:=Lib.hid (B5.out.trans (bw.out.mono B5.out.size));have R6:=Lib.hid (R5'.out.below bw.out);have Y6:=Lib.hid (Y5'.out.below bw.out);have D6:=Lib.hid (C5.out wr R6.out);have hq3:=Q3.out;clear KN HA HB bw B5 hcn CL CN Q3 R5' Y5' C5;generalize cnK x i=ci at *;have w1:IntKind.i64.wrap ((ci:Int)+1)=(ci:Int)+1:=IntWalk.i64_in _ (by omega);have w2:IntKind.i64.wrap (67 * ((ci:Int)+1))=67 * ((ci:Int)+1):=IntWalk.i64_in _ (by omega);have w3:IntKind.i64.wrap ((D:Int)+67 * ((ci:Int)+1))=(D:Int)+67 * ((ci:Int)+1):=IntWalk.i64_in _ (by omega);have w4:IntKind.i64.wrap ((D:Int)+67 * ((ci:Int)+1)+1)=(D:Int)+67 * ((ci:Int)+1)+1:=IntWalk.i64_in _ (by omega);have w6:IntKind.i64.wrap (67 * (ci:Int))=67 * (ci:Int):=IntWalk.i64_in _ (by omega);have w7:IntKind.i64.wrap (67 * (ci:Int)+1)=67 * (ci:Int)+1:=IntWalk.i64_in _ (by omega);have hfin:(rN:Int)≤(D:Int)+67 * ((ci:Int)+1)+1:=by omega
      have hfin2:(r0:Int)≤67 * (ci:Int)+1:=by omega
      clear hle hq3;go_wp2_with fail;refine D6.out.mono ?_;rintro e w8 ⟨us,rfl,o8,b8⟩;have B8:=Lib.hid (B6.out.trans (b8.mono B6.out.size));have S8:=Lib.hid o8.rd;have Y8:=Lib.hid (Y6.out.below b8);have D8:=Lib.hid (C6.out w8 (R6.out.below b8));obtain ⟨a8,c8,rfl,_,_⟩:=o8.slice;clear b8 D6 B6 R6 Y6 C6 o8;go_wp2_with fail;refine D8.out.mono ?_;rintro e w9 ⟨ut,rfl,o9,b9⟩;have B9:=Lib.hid (B8.out.trans (b9.mono B8.out.size));have S9:=Lib.hid (S8.out.below b9);have T9:=Lib.hid o9.rd;have Y9:=Lib.hid (Y8.out.below b9);obtain ⟨a9,c9,rfl,_,_⟩:=o9.slice;have D9:=Lib.hid (WK.out w9 B9.out);clear b9 D8 B8 Y8 S8 o9;have ez:(ea == ea)=true:=by simp
      have ez':decide (ea=ea)=true:=decide_eq_true rfl;generalize sx.length=sl at *;go_wp2_with fail;refine D9.out.mono ?_;rintro e wa ⟨rfl,ba⟩;have BA:=Lib.hid (B9.out.trans (ba.mono B9.out.size));have SA:=Lib.hid (S9.out.below ba);have TA:=Lib.hid (T9.out.below ba);have DA:=Lib.hid (Nm.good_any wa _ z (Y9.out.below ba) FY.out);rw [gdB_yes GY.out] at DA;clear ba D9 B9 S9 T9 Y9 FY GY WK;go_wp2_with fail;refine DA.out.mono ?_;rintro e wb ⟨rfl,bb⟩;have BB:=Lib.hid (BA.out.trans (bb.mono BA.out.size));have DB:=Lib.hid (FS.out wb _ _ (SA.out.below bb) (TA.out.below bb));clear bb DA BA SA TA FS
      rcases ER.out with he | he
      all_goals
       subst he;go_wp2_with fail;refine DB.out.mono ?_;rintro e wc ⟨rfl,bc⟩;have BC:=Lib.hid (BB.out.trans (bc.mono BB.out.size));clear bc DB BB ER;go_wp2
       go_ret
       exact ⟨rfl,BC.out⟩
end Go.Proofs.YtljnkaodhfnbbaaGreatDoor.Wn
