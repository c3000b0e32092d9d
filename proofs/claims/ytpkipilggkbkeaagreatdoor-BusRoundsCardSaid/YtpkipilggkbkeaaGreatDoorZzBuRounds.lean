/- BusRounds,walked. -/
import Derived.Test.YtpkipilggkbkeaaGreatDoorMg11
import Derived.Test.YtpkipilggkbkeaaGreatDoorMg14
namespace Go.Proofs.YtpkipilggkbkeaaGreatDoor.Bu
open Go.RowKit Go.Maps
open Fs (Abs St Rs Rst Only Fx Wf Glob OkA Ls files_any FilesPost same_is denied_st)
open Rw (Rd Ow At)
open Sp (S2)
open Wi (Made sameB same_any)
open Ck (LL lat RdL)
open Pa (Sts Stl Rfl Has Hrf K2 KB Cel Cls ptr sat rdE rdL RoundPost RroundPost stl_nil rfl_nil)
open Fl (row_cell row_frozen ret_bool)
set_option maxRecDepth 100000
attribute [local irreducible] Sd.wpSd wpQuiet
structure Hp (W:World) (vs vr vt vl vo vp va vb:Value) (S S':Sts) (T:LL) (V:List Bool) (O:List Osc) (P:List S2):Prop where
 st:Stl W vs S
 rf:Rfl W vr S
 tb:RdL W vt T
 lv:Rd KB W vl V
 os:OsL W vo O
 sp:Rd K2 W vp P
 a:Stl W va S'
 b:Rfl W vb S'
theorem Hp.below {W W':World} {vs vr vt vl vo vp va vb:Value} {S S':Sts} {T:LL} {V:List Bool} {O:List Osc} {P:List S2} (h:Hp W vs vr vt vl vo vp va vb S S' T V O P) (b:Below W.heap.size W W'):Hp W' vs vr vt vl vo vp va vb S S' T V O P :=
 ⟨h.st.below b,h.rf.below b,h.tb.below b,h.lv.below b,h.os.below b,h.sp.below b,h.a.below b,h.b.below b⟩
theorem Hp.zero {W:World} {vs vr vt vl vo vp:Value} {S:Sts} {T:LL} {V:List Bool} {O:List Osc} {P:List S2} (st:Stl W vs S) (rf:Rfl W vr S) (tb:RdL W vt T) (lv:Rd KB W vl V) (os:OsL W vo O) (sp:Rd K2 W vp P):Hp W vs vr vt vl vo vp (.slice none 0 0) (.slice none 0 0) S [] T V O P:=⟨st,rf,tb,lv,os,sp,stl_nil W,rfl_nil W⟩
set_option maxHeartbeats 4000000 in
theorem rounds_law {w:World} (hg:Glob w) {v vp:Value} {L:List Cel} {P:List S2} (H:Cls w v L) (RP:Rd K2 w vp P):Calls Tryz.prog 3 #[v,vp] w fun e w'=>e = .returned (.bool true)∧Below w.heap.size w w':=by
 have HG:=Lib.hid hg;have BD:=Lib.hid (build_any H);unfold BldPost at BD;have FW:=Lib.hid (fun W u l (R:Rd K2 W u l)=>few_any W u l R);unfold FewPost at FW;have RP0:=Lib.hid RP;obtain ⟨a0,cap0,rfl,_⟩:=H.rd;obtain ⟨ap,cp,rfl,_⟩:=RP.slice;clear H RP hg;generalize L.length=n0 at *
 go_enter Tryz.func3,Tryz.ntmps3
 go_wp2_with fail;refine BD.out.mono ?_;rintro e w1 ⟨vs,vr,vt,vl,vo,S,T,V,O,n,rfl,B,b1⟩;have B1:=Lib.hid b1;have SL:=Lib.hid B.s;have DEN:=Lib.hid B.den;have H1:=Lib.hid (Hp.zero B.st B.rf B.tb B.lv B.os (RP0.out.below b1));have FEW:=Lib.hid B.few;clear B b1 BD;go_wp2_with fail;refine (FW.out _ _ _ H1.out.sp).mono ?_;rintro e w2 ⟨u2,rfl,r2,b2⟩;have B2:=Lib.hid (B1.out.trans (b2.mono B1.out.size));have H2:=Lib.hid (H1.out.below b2);have R2:=Lib.hid r2;clear b2 B1 H1 r2;go_wp2_with fail
 have RO:=bround_any (w:=w2) H2.out.st H2.out.tb H2.out.lv R2.out H2.out.os (HG.out.below B2.out) (fun i hi=>by
  have:=DEN.out i (by rw [← SL.out];exact hi);rw [this]
  exact ⟨by decide,by decide⟩)
 unfold RoundPost at RO;refine RO.mono ?_;rintro e w3 ⟨va,rfl,sa,b3⟩;have B3:=Lib.hid (B2.out.trans (b3.mono B2.out.size));have H3:=Lib.hid (H2.out.below b3);have SA:=Lib.hid sa;clear RO b3 B2 H2 sa R2;go_wp2_with fail;refine (FW.out _ _ _ H3.out.sp).mono ?_;rintro e w4 ⟨u4,rfl,r4,b4⟩;have B4:=Lib.hid (B3.out.trans (b4.mono B3.out.size));have H4:=Lib.hid (H3.out.below b4);have SA4:=Lib.hid (SA.out.below b4);have R4:=Lib.hid r4;clear b4 B3 H3 r4 SA;go_wp2_with fail
 have RO:=brround_any (w:=w4) H4.out.rf H4.out.tb H4.out.lv R4.out H4.out.os (fun i hi=>by
  have:=DEN.out i (by rw [← SL.out];exact hi);rw [this]
  exact ⟨by decide,by decide⟩)
 unfold RroundPost at RO;refine RO.mono ?_;rintro e w5 ⟨vb,rfl,rb,b5⟩;have B5:=Lib.hid (B4.out.trans (b5.mono B4.out.size));have H5':=H4.out.below b5;have SA5:=SA4.out.below b5
 have ZERO:Hid (buE S T V O=0→T.length=S.length∧V.length=S.length∧Ck.tE T=0∧O.length=S.length∧calmL O):=Lib.hid (fun h=>by
  obtain ⟨z1,z2,z3,_⟩:=buE_zero (P:=[]) h;obtain ⟨_,_,y1,y2,y3⟩:=rdE_zero z1
  exact ⟨y1,y2,y3,z2,z3⟩)
 have NB:Hid ((buL S T V (P.take 20) O).length≤6):=Lib.hid (by
  by_cases h:buE S T V O=0
  ·obtain ⟨z1,_,_,z4⟩:=buE_zero (P:=P.take 20) h
   rw [z4,show rdL S T V (P.take 20)=Pa.rdS S T V (Pa.hr S T V (P.take 20)) from if_pos z1,Pa.rdS_len,SL.out];exact FEW.out
  ·rw [show buL S T V (P.take 20) O = [] from if_neg h]
   exact Nat.zero_le _)
 generalize buL S T V (P.take 20) O=S' at *;have H5:Hid (Hp w5 vs vr vt vl vo _ va vb S S' T V O P):=Lib.hid ⟨H5'.st,H5'.rf,H5'.tb,H5'.lv,H5'.os,H5'.sp,SA5,rb⟩;clear RO b5 B4 H4 rb H5' SA5 SA4 R4
 have EA:Hid (∀ i,i < S'.length→OkA (sat S' i).1):=Lib.hid (fun i hi=>by
  obtain ⟨ps,_,_,e⟩:=H5.out.a
  exact (e i hi).okA)
 obtain ⟨aa,ac,rfl,am⟩:=H5.out.a.slice;obtain ⟨ba,bc,rfl,bm⟩:=H5.out.b.slice;unfold maxLen at am bm;generalize hn':S'.length=n' at *;have HN':=Lib.hid hn';clear hn';go_upto_region 7 with fail
 go_loopw [14] (fun i wr=>∃ k:Nat,k≤n'∧i = .int .i64 k∧Hid (Below w5.heap.size w5 wr)) (fun i _=>n' - (intOf i).toNat)
 case atStart=>exact ⟨0,Nat.zero_le _,rfl,Lib.hid (Below.refl _ _)⟩
 case round =>
  obtain ⟨k,hk,rfl,I⟩:=hrel;have H6:=Lib.hid (H5.out.below I.out)
  by_cases hlt:k < n'
  ·obtain ⟨b1,o1,c1,p1,e1,x1,g1⟩:=H6.out.a.one (k:=k) (by have:=HN'.out;omega)
   obtain ⟨b2,o2,c2,p2,e2,x2,g2⟩:=H6.out.b.one (k:=k) (by have:=HN'.out;omega);have HK1:Hid (k+1≤n'):=Lib.hid hlt;have LA:=Lib.hid (EA.out k (by have:=HN'.out;omega)).len;rw [HN'.out] at e1 e2;injection e1 with e1 _ e1';injection e2 with e2 _ e2';subst e1 e1' e2 e2';generalize sat S' (k:Int)=xa at *;obtain ⟨A,d⟩:=xa;obtain ⟨F1,G1⟩:=g1;obtain ⟨l2,L2,Q2,q2⟩:=g2;obtain ⟨m2,n2,rfl,_⟩:=Q2.list.rd.slice;simp only at G1 Q2 q2 LA;have GA:=Lib.hid G1;have WA:Hid (Ls (fun k=>False∨k=p2) wr (.slice m2 L2.length n2) A):=Lib.hid ⟨L2,Q2.list,q2⟩;unfold ptr at x1 x2;have X1:=Sd.cell_by x1;have X2:=Sd.cell_by x2;have Y2:=Sd.cell_by (show wr.cell? ⟨p2,0,none⟩=some (.slice m2 L2.length n2) from row_cell Q2.row 0);have Z2:=Sd.cell_by (show wr.cell? ⟨p2,1,none⟩=some (.int .i64 d) from row_cell Q2.row 1);clear x1 x2 Q2 q2 G1;generalize L2.length=N2 at *;go_upto_region 9 with fail;refine Sd.start [(false,0),(false,1),(false,2),(false,3),(false,5),(false,6),(false,7),(false,8),(false,9),(false,10),(false,11),(true,4),(true,12),(false,13),(false,14),(false,15),(false,16),(false,17),(false,18),(false,20),(false,21),(false,22),(false,23),(false,24),(false,25),(false,26),(true,19),(false,27),(false,28)] (by kernel_rfl) (by kernel_rfl) (by kernel_rfl) ?_;dsimp only [Sd.picks,List.getElem?_cons_succ,List.getElem?_cons_zero]
   repeat (refine Sd.lit ?_;quiet_step (fail);refine wpQuiet_nil ?_)
   have D0:=Lib.hid ((Below.refl wr.heap.size wr).drew);have GA0:=Lib.hid (GA.out.below D0.out);generalize wr.drew=W0 at *;refine Sd.call (by rfl) (fun K hK=>?_);go_simp;refine (files_any GA0.out).mono ?_;rintro e v1 ⟨u1,rfl,ls1,b1⟩;have D1:=Lib.hid (D0.out.trans (b1.mono D0.out.size));have LS:=Lib.hid (ls1 (fun _=>False) nofun);refine hK _ _ (Sd.Cl.of D1.out) ?_;clear hK K b1 ls1
   repeat (refine Sd.lit ?_;quiet_step (fail);refine wpQuiet_nil ?_)
   refine Sd.call (by rfl) (fun K hK=>?_);go_simp;refine (same_is LS.out (WA.out.below D1.out) LA.out).mono ?_;rintro e v2 ⟨rfl,b2⟩;have D2:=Lib.hid (D1.out.trans (b2.mono D1.out.size));refine hK _ _ (Sd.Cl.of D2.out) ?_;clear hK K b2 LS
   repeat (refine Sd.lit ?_;quiet_step (fail);refine wpQuiet_nil ?_)
   have GA2:=Lib.hid (GA.out.below D2.out);refine Sd.call (by rfl) (fun K hK=>?_);go_simp;refine (denied_st GA2.out).mono ?_;rintro e v3 ⟨rfl,b3⟩;have D3:=Lib.hid (D2.out.trans (b3.mono D2.out.size));refine hK _ _ (Sd.Cl.of D3.out) ?_;clear hK K b3 X1 X2 Y2 Z2
   repeat (refine Sd.lit ?_;quiet_step (fail);refine wpQuiet_nil ?_)
   refine Sd.done ?_;have J:=Lib.hid (I.out.trans (D3.out.mono I.out.size));have hk1:=HK1.out;have h8:=NB.out;go_wp2
   go_roundw
   case rel=>exact ⟨k+1,HK1.out,by go_num,J⟩
   case measure=>have:=HK1.out;have:=NB.out;simp [intOf];omega
  ·obtain rfl:k=n':=by omega
   have J:=Lib.hid (B5.out.trans (I.out.mono B5.out.size));have AW:=Lib.hid (awake_any wr (HG.out.below J.out));clear EA H5 I;go_wp2_with fail;refine AW.out.mono ?_;rintro e w6 ⟨rfl,b6⟩;have J6:=Lib.hid (J.out.trans (b6.mono J.out.size));have H7:=Lib.hid (H6.out.below b6);clear AW b6 H6 J
   by_cases hE:buE S T V O=0
   ·obtain ⟨y1,y2,y3,z2,z3⟩:=ZERO.out hE
    have BN:=Lib.hid (fun W u (b:Below w6.heap.size w6 W) (R:Rd K2 W u (P.take 20))=>line_any (w:=W) (P:=P.take 20) (S:=S) (O:=O) (vo:=vo) ⟨⟨H7.out.st.below b,H7.out.tb.below b,H7.out.lv.below b,y1,y2,y3⟩,R,H7.out.os.below b,z2,by have:=FEW.out;have:=SL.out;omega,z3⟩);have BR:=Lib.hid (fun W u (b:Below w6.heap.size w6 W) (R:Rd K2 W u (P.take 20))=>rline_any (w:=W) (P:=P.take 20) (S:=S) (O:=O) (vo:=vo) ⟨⟨H7.out.rf.below b,H7.out.tb.below b,H7.out.lv.below b,y1,y2,y3⟩,R,H7.out.os.below b,z2,by have:=FEW.out;have:=SL.out;omega,z3⟩);unfold Made at BN BR;rw [hE];clear ZERO hE y1 y2 y3 z2 z3;go_wp2_with fail;refine (FW.out _ _ _ H7.out.sp).mono ?_;rintro e w7 ⟨u7,rfl,r7,b7⟩;have R7:=Lib.hid r7;have C7:=Lib.hid b7;clear r7 b7;go_wp2_with fail;refine (BN.out _ _ C7.out R7.out).mono ?_;rintro e w8 ⟨v8,x8,rfl,own8,p8,b8⟩;have X8:=Lib.hid p8;have S8:=Lib.hid own8.sp;have C8:=Lib.hid (C7.out.trans (b8.mono C7.out.size));clear own8 p8 b8 BN R7 C7;go_wp2_with fail;refine (FW.out _ _ _ (H7.out.sp.below C8.out)).mono ?_;rintro e w9 ⟨u9,rfl,r9,b9⟩;have R9:=Lib.hid r9;have C9:=Lib.hid (C8.out.trans (b9.mono C8.out.size));have S9:=Lib.hid (S8.out.below b9);clear r9 b9 S8 C8;go_wp2_with fail;refine (BR.out _ _ C9.out R9.out).mono ?_;rintro e w10 ⟨v10,x10,rfl,own10,p10,b10⟩;obtain rfl:x8=x10:=X8.out.one p10;have S10:=Lib.hid own10.sp;have T10:=Lib.hid (S9.out.below b10);have C10:=Lib.hid (C9.out.trans (b10.mono C9.out.size));clear own10 p10 b10 BR R9 C9 S9 X8;go_wp2_with fail;have SM:=same_any w10 _ _ x8 x8 T10.out S10.out;rw [show sameB x8 x8=true from decide_eq_true rfl] at SM;refine SM.mono ?_;rintro e w11 ⟨rfl,b11⟩;have Z:=Lib.hid ((J6.out.trans (C10.out.mono J6.out.size)).trans (b11.mono (J6.out.trans (C10.out.mono J6.out.size)).size));clear SM b11;go_wp2
    go_ret
    exact ⟨rfl,Z.out⟩
   ·have hne:(buE S T V O != 0)=true:=by simpa using hE
    clear ZERO H7;generalize buE S T V O=E at *;go_wp2
    go_ret
    exact ⟨rfl,J6.out⟩
end Go.Proofs.YtpkipilggkbkeaaGreatDoor.Bu
