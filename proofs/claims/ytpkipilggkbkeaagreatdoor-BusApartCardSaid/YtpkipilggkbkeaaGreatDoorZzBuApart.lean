/- BusApart,walked. -/
import Derived.Test.YtpkipilggkbkeaaGreatDoorMg11
import Derived.Test.YtpkipilggkbkeaaGreatDoorMg14
namespace Go.Proofs.YtpkipilggkbkeaaGreatDoor.Bu
open Go.RowKit Go.Maps
open Fs (Abs Glob)
open Rw (Rd Ow At)
open Sp (S2 Sp)
open Wi (Plain PlainOf Low Made lowB lowB_iff lowB_false meetB meetB_false meet_any high_any)
open Ck (LL lat RdL)
open Pa (Sts Stl K2 KB Cel Cls sat rdE rdL RoundPost stl_nil)
open Fl (row_cell row_frozen ret_bool)
set_option maxRecDepth 100000
noncomputable def pl (S:Sts) (T:LL) (V:List Bool) (P:List S2) (O:List Osc) (t:Int) (k:Nat):Nat:=@ite _ (LowTo S T V P O k t) (Classical.propDecidable _) 1 0
section
variable {S:Sts} {T:LL} {V:List Bool} {P:List S2} {O:List Osc} {t:Int} {k:Nat}
theorem pl_zero:pl S T V P O t 0=0:=if_neg fun ⟨_,h,_⟩=>Nat.not_lt_zero _ h
theorem pl_yes (ok:Ck.tE T=0) (hl:O.length=T.length) (hO:calmL O) (h:LowJ S T V P O k t):pl S T V P O t k=0∧pl S T V P O t (k+1)=1 :=
 ⟨if_neg fun ⟨j,hj,g⟩=>lowJ_apart ok hl hO (show (k:Int)≠j by omega) ⟨h,g⟩,if_pos ⟨k,by omega,h⟩⟩
theorem pl_no (h:¬ LowJ S T V P O k t):pl S T V P O t (k+1)=pl S T V P O t k:=by
 have e:LowTo S T V P O (k+1) t↔LowTo S T V P O k t:=(lowTo_next k t).trans ⟨fun g=>g.resolve_right h,.inl⟩
 by_cases c:LowTo S T V P O k t
 ·exact (if_pos (e.2 c)).trans (if_pos c).symm
 ·exact (if_neg fun g=>c (e.1 g)).trans (if_neg c).symm
end
set_option maxHeartbeats 4000000 in
theorem apart_law {w:World} (hg:Glob w) {v vp:Value} {L:List Cel} {P:List S2} (H:Cls w v L) (RP:Rd K2 w vp P) (t:Int) (ht:0≤t∧t≤65535):Calls Tryz.prog 5 #[v,vp,.int .u16 t] w fun e w'=>e = .returned (.bool true)∧Below w.heap.size w w':=by
 have HG:=Lib.hid hg;have BD:=Lib.hid (build_any H);unfold BldPost at BD;have FW:=Lib.hid (fun W u l (R:Rd K2 W u l)=>few_any W u l R);unfold FewPost at FW;have RP0:=Lib.hid RP;obtain ⟨a0,cap0,rfl,_⟩:=H.rd;obtain ⟨ap,cp,rfl,_⟩:=RP.slice;obtain ⟨ht0,ht1⟩:=ht;clear H RP hg;generalize L.length=n0 at *
 go_enter Tryz.func5,Tryz.ntmps5
 go_wp2_with fail;refine BD.out.mono ?_;rintro e w1 ⟨vs,vr,vt,vl,vo,S,T,V,O,n,rfl,B,b1⟩;have B1:=Lib.hid b1;have SL:=Lib.hid B.s;have ST1:=Lib.hid B.st;have TB1:=Lib.hid B.tb;have LV1:=Lib.hid B.lv;have OS1:=Lib.hid B.os;have SP1:=Lib.hid (RP0.out.below b1);have FEW:=Lib.hid B.few
 have RO:=bround_any (w:=w1) B.st B.tb B.lv (Rw.Rd.nil _) B.os (HG.out.below b1) (fun i hi=>by
  have:=B.den i (by rw [← B.s];exact hi);rw [this]
  exact ⟨by decide,by decide⟩)
 unfold RoundPost at RO;clear B b1 BD;go_wp2_with fail;refine RO.mono ?_;rintro e w2 ⟨va,rfl,_,b2⟩;have B2:=Lib.hid (B1.out.trans (b2.mono B1.out.size));have ST:=Lib.hid (ST1.out.below b2);have TB:=Lib.hid (TB1.out.below b2);have LV:=Lib.hid (LV1.out.below b2);have OS:=Lib.hid (OS1.out.below b2);have SP:=Lib.hid (SP1.out.below b2);clear RO b2 B1 ST1 TB1 LV1 OS1 SP1
 by_cases hE:buE S T V O=0
 ·obtain ⟨z1,z2,z3,_⟩:=buE_zero (P:=[]) hE
  obtain ⟨_,_,y1,y2,y3⟩:=rdE_zero z1;have BN:Hid (∀ W u,Below w2.heap.size w2 W→Rd K2 W u (P.take 20)→Bn W vs vt vl u vo S T V (P.take 20) O):=Lib.hid (fun W u b R=>⟨⟨ST.out.below b,TB.out.below b,LV.out.below b,y1,y2,y3⟩,R,OS.out.below b,z2,by have:=FEW.out;have:=SL.out;omega,z3⟩);have SN:=Lib.hid (fun W u (j:Int) (b:Below w2.heap.size w2 W) (R:Rd K2 W u (P.take 20))=>sends_any (BN.out W u b R) j);have LN:=Lib.hid (fun W u (b:Below w2.heap.size w2 W) (R:Rd K2 W u (P.take 20))=>line_any (BN.out W u b R));unfold Made at SN LN;have lo:O.length=T.length:=by rw [z2,y1]
  obtain ⟨f,hf⟩:∃ f:Nat→Nat,f=pl S T V (P.take 20) O t:=⟨_,rfl⟩;have F0:Hid (f 0=0):=Lib.hid (by rw [hf];exact pl_zero);have FY:Hid (∀ k:Nat,LowJ S T V (P.take 20) O k t→f k=0∧f (k+1)=1):=Lib.hid (fun k h=>by rw [hf];exact pl_yes y3 lo z3 h);have FN:Hid (∀ k:Nat,¬ LowJ S T V (P.take 20) O k t→f (k+1)=f k):=Lib.hid (fun k h=>by rw [hf];exact pl_no h)
  have FE:Hid (∀ x,LineP S T V (P.take 20) O x→f n=if lowB x t=true then 1 else 0):=Lib.hid (fun x hx=>by
   rw [hf];have e:LowTo S T V (P.take 20) O n t↔Low x t:=by
    rw [hx.2 t,lowL_iff y3,y1,SL.out];exact Iff.rfl
   by_cases c:Low x t
   ·rw [if_pos (lowB_iff.2 c)];exact if_pos (e.2 c)
   ·rw [if_neg (by rw [lowB_iff];exact c)];exact if_neg fun g=>c (e.1 g))
  have FI:Hid (∀ k,f k≤1):=Lib.hid (fun k=>by
   rw [hf];unfold pl
   split <;> omega)
  have AP:Hid (∀ (i j:Nat) x y,j < i→SendP S T V (P.take 20) O i x→SendP S T V (P.take 20) O j y→meetB x y=false):=Lib.hid (fun i j x y h hx hy=>meetB_false fun ⟨u,h1,h2⟩=>lowJ_apart y3 lo z3 (show (i:Int)≠j by omega) ⟨(hx.2 u).1 h1,(hy.2 u).1 h2⟩);have EAR:Hid (∀ x,LineP S T V (P.take 20) O x→∀ u,u < 200→lowB x u=false):=Lib.hid (fun x hx u hu=>lowB_false.2 fun h=>high_early y3 lo z3 hu ((hx.2 u).1 h))
  have LEN:Hid (∀ j x,SendP S T V (P.take 20) O j x→x.length < 1099511627776):=Lib.hid (fun j x hx=>by
   have:=plain_few hx.1 fun u h=>lowJ_at ((hx.2 u).1 h)
   omega)
  rw [hE];obtain ⟨sa,sc,rfl,sm⟩:=ST.out.slice;have sl:=SL.out;unfold maxLen at sm;rw [sl] at SN LN ⊢;clear BN hE z1 z2 z3 y1 y2 y3 lo hf ST TB LV OS sl;go_upto_region 7 with fail
  go_loopw [14,15] (fun pv iv wr=>∃ k:Nat,k≤n∧pv = .int .i64 (f k)∧iv = .int .i64 k∧Hid (Below w2.heap.size w2 wr)) (fun _ iv _=>n - (intOf iv).toNat)
  case atStart=>exact ⟨0,Nat.zero_le _,by rw [F0.out];rfl,rfl,Lib.hid (Below.refl _ _)⟩
  case round =>
   obtain ⟨k,hk,rfl,rfl,I⟩:=hrel
   by_cases hlt:k < n
   ·have HK1:Hid (k+1≤n):=Lib.hid hlt
    go_wp2_with fail;refine (FW.out _ _ _ (SP.out.below I.out)).mono ?_;rintro e w3 ⟨u3,rfl,r3,b3⟩;have J3:=Lib.hid (I.out.trans (b3.mono I.out.size));have R3:=Lib.hid r3;clear r3 b3;go_wp2_with fail;refine (SN.out _ _ (k:Int) J3.out R3.out).mono ?_;rintro e w4 ⟨vx,x,rfl,own,px,b4⟩;have J4:=Lib.hid (J3.out.trans (b4.mono J3.out.size));have X4:=Lib.hid own.sp;have PX:=Lib.hid px;clear own px b4 J3 R3;obtain ⟨xa,xc,rfl,xm⟩:=X4.out.slice;go_wp2_with fail;refine (high_any _ _ x X4.out _).mono ?_;rintro e w5 ⟨rfl,b5⟩;have J5:=Lib.hid (J4.out.trans (b5.mono J4.out.size));have X5:=Lib.hid (X4.out.below b5);clear b5 J4 X4
    have EQ:Hid ((lowB x t=true∧f k=0∧f (k+1)=1)∨(lowB x t=false∧f (k+1)=f k)):=Lib.hid (by
     by_cases c:LowJ S T V (P.take 20) O k t
     ·exact .inl ⟨lowB_iff.2 ((PX.out.2 t).2 c),FY.out k c⟩
     ·exact .inr ⟨lowB_false.2 fun h=>c ((PX.out.2 t).1 h),FN.out k c⟩)
    have PO:Hid (∃ p:Nat,f (k+1)=p):=Lib.hid ⟨_,rfl⟩;generalize lowB x t=lb at *;generalize x.length=xn at *
    rcases EQ.out with ⟨rfl,q1,q2⟩ | ⟨rfl,q2⟩
    case' inl =>
     have Q2:Hid ((f (k+1):Int)=1):=Lib.hid (by rw [q2];rfl);rw [q1];clear q1 q2 EQ PO;go_upto_region 13 with fail
    case' inr =>
     have Q2:Hid ((f (k+1):Int)=f k):=Lib.hid (by rw [q2]);clear q2 EQ PO;generalize f k=fk at *;go_upto_region 13 with fail
    all_goals
     go_loopw [17] (fun iv wr=>∃ m:Nat,m≤k∧iv = .int .i64 m∧Hid (Below w5.heap.size w5 wr)) (fun iv _=>k - (intOf iv).toNat)
     case atStart=>exact ⟨0,Nat.zero_le _,rfl,Lib.hid (Below.refl _ _)⟩
     case round =>
      obtain ⟨m,hm,rfl,M⟩:=hrel;have JM:=Lib.hid (J5.out.trans (M.out.mono J5.out.size))
      by_cases hlm:m < k
      ·have HM1:Hid (m+1≤k):=Lib.hid hlm
       have HF1:Hid (m+1≤6):=Lib.hid (by have:=FEW.out;have:=HK1.out;omega);go_wp2_with fail;refine (FW.out _ _ _ (SP.out.below JM.out)).mono ?_;rintro e w6 ⟨u6,rfl,r6,b6⟩;have J6:=Lib.hid (JM.out.trans (b6.mono JM.out.size));have M6:=Lib.hid (M.out.trans (b6.mono M.out.size));have R6:=Lib.hid r6;clear r6 b6;go_wp2_with fail;refine (SN.out _ _ (m:Int) J6.out R6.out).mono ?_;rintro e w7 ⟨vy,y,rfl,own,py,b7⟩;have M7:=Lib.hid (M6.out.trans (b7.mono M6.out.size));have Y7:=Lib.hid own.sp;have PY:=Lib.hid py;have X7:=Lib.hid (X5.out.below M7.out);clear own py b7 J6 M6 R6;go_wp2_with fail;have ME:=meet_any w7 _ vy x y X7.out Y7.out (LEN.out _ _ PY.out);rw [AP.out k m x y hlm PX.out PY.out] at ME;refine ME.mono ?_;rintro e w8 ⟨rfl,b8⟩;have M8:=Lib.hid (M7.out.trans (b8.mono M7.out.size));clear ME b8 M7 Y7 PY X7;have h8:=HF1.out;go_wp2
       go_roundw
       case rel=>exact ⟨m+1,HM1.out,by go_num,M8⟩
       case measure=>have:=HM1.out;have:=HF1.out;simp [intOf];omega
      ·obtain rfl:m=k:=by omega
       have h8:m+1≤6:=by have:=FEW.out;have:=HK1.out;omega
       go_wp2
       go_roundw
       case rel=>exact ⟨m+1,HK1.out,by rw [Q2.out],by go_num,JM⟩
       case measure=>have:=HK1.out;simp [intOf];omega
   ·obtain rfl:k=n:=by omega
    go_wp2_with fail;refine (FW.out _ _ _ (SP.out.below I.out)).mono ?_;rintro e w3 ⟨u3,rfl,r3,b3⟩;have J3:=Lib.hid (I.out.trans (b3.mono I.out.size));have R3:=Lib.hid r3;clear r3 b3;go_wp2_with fail;refine (LN.out _ _ J3.out R3.out).mono ?_;rintro e w4 ⟨vx,x,rfl,own,px,b4⟩;have J4:=Lib.hid (J3.out.trans (b4.mono J3.out.size));have X4:=Lib.hid own.sp;have E4:=Lib.hid (EAR.out x px);have G4:=Lib.hid (FE.out x px);have B4:=Lib.hid (B2.out.trans (J4.out.mono B2.out.size));clear own px b4 J3 R3 FE EAR AP LEN FY FN F0 SN LN I;obtain ⟨xa,xc,rfl,xm⟩:=X4.out.slice;go_wp2_with fail;refine (awake_any _ (HG.out.below B4.out)).mono ?_;rintro e w5 ⟨rfl,b5⟩;have B5:=Lib.hid (B4.out.trans (b5.mono B4.out.size));have X5:=Lib.hid (X4.out.below b5);clear b5 B4 X4 J4;have HB:=Lib.hid (fun W u (b:Below w5.heap.size w5 W)=>high_any W _ x (X5.out.below b) u);clear FI FW
    rcases hl:lowB x t with _ | _
    case' false =>
     have hp:f k=0:=by rw [G4.out,hl];rfl
     have HT:Hid (∀ W (b:Below w5.heap.size w5 W),Calls Tryz.prog 19 #[.slice xa x.length xc,.int .i64 t] W fun e w'=>e = .returned (.bool true)∧Below W.heap.size W w'):=Lib.hid (fun W b=>by have:=HB.out W t b;rw [hl] at this;exact this);rw [hp]
    case' true =>
     have hp:f k=1:=by rw [G4.out,hl];rfl
     have HT:Hid (∀ W (b:Below w5.heap.size w5 W),Calls Tryz.prog 19 #[.slice xa x.length xc,.int .i64 t] W fun e w'=>e = .returned (.bool false)∧Below W.heap.size W w'):=Lib.hid (fun W b=>by have:=HB.out W t b;rw [hl] at this;exact this);rw [hp]
    all_goals
     clear hp G4 hl;generalize x.length=xn at *;go_wp2_with fail;refine (HT.out _ (Below.refl _ _)).mono ?_;rintro e w6 ⟨rfl,b6⟩;have B6:=Lib.hid b6;clear b6 HT;go_wp2_with fail;have HZ:=HB.out _ (t % 200) B6.out;rw [E4.out _ (by omega)] at HZ;refine HZ.mono ?_;rintro e w7 ⟨rfl,b7⟩;have Z:=Lib.hid (B5.out.trans ((B6.out.trans (b7.mono B6.out.size)).mono B5.out.size));clear HZ b7;go_wp2
     go_ret
     exact ⟨rfl,Z.out⟩
 ·have hne:(buE S T V O != 0)=true:=by simpa using hE
  have AW:=Lib.hid (awake_any w2 (HG.out.below B2.out));clear ST TB LV OS SP hE;generalize buE S T V O=E at *;go_wp2_with fail;refine AW.out.mono ?_;rintro e v6 ⟨rfl,b6⟩;have Z:=Lib.hid (B2.out.trans (b6.mono B2.out.size));go_wp2
  go_ret
  exact ⟨rfl,Z.out⟩
end Go.Proofs.YtpkipilggkbkeaaGreatDoor.Bu
