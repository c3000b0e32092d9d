/- BusTrue,walked. -/
import Derived.Test.YtpkipilggkbkeaaGreatDoorMg11
import Derived.Test.YtpkipilggkbkeaaGreatDoorMg14
namespace Go.Proofs.YtpkipilggkbkeaaGreatDoor.Bu
open Go.RowKit Go.Maps
open Fs (Abs St Rs Rst Only Fx Wf Glob OkA Ls files_any FilesPost same_is denied_st)
open Rw (Rd Ow At)
open Sp (S2)
open Ck (LL lat RdL)
open Pa (Sts Stl Has K2 KB Cel Cls ptr sat rdE rdL RoundPost round_any stl_nil)
open Fl (row_cell row_frozen ret_bool)
set_option maxRecDepth 100000
attribute [local irreducible] Sd.wpSd wpQuiet
structure Hq (W:World) (vs vt vl vp va:Value) (S SA:Sts) (T:LL) (V:List Bool) (P:List S2):Prop where
 st:Stl W vs S
 tb:RdL W vt T
 lv:Rd KB W vl V
 sp:Rd K2 W vp P
 a:Stl W va SA
theorem Hq.below {W W':World} {vs vt vl vp va:Value} {S SA:Sts} {T:LL} {V:List Bool} {P:List S2} (h:Hq W vs vt vl vp va S SA T V P) (b:Below W.heap.size W W'):Hq W' vs vt vl vp va S SA T V P :=
 ⟨h.st.below b,h.tb.below b,h.lv.below b,h.sp.below b,h.a.below b⟩
set_option maxHeartbeats 4000000 in
theorem true_law {w:World} (hg:Glob w) {v vp:Value} {L:List Cel} {P:List S2} (H:Cls w v L) (RP:Rd K2 w vp P):Calls Tryz.prog 4 #[v,vp] w fun e w'=>e = .returned (.bool true)∧Below w.heap.size w w':=by
 have HG:=Lib.hid hg;have BD:=Lib.hid (build_any H);unfold BldPost at BD;have FW:=Lib.hid (fun W u l (R:Rd K2 W u l)=>few_any W u l R);unfold FewPost at FW;have RP0:=Lib.hid RP;obtain ⟨a0,cap0,rfl,_⟩:=H.rd;obtain ⟨ap,cp,rfl,_⟩:=RP.slice;clear H RP hg;generalize L.length=n0 at *
 go_enter Tryz.func4,Tryz.ntmps4
 go_wp2_with fail;refine BD.out.mono ?_;rintro e w1 ⟨vs,vr,vt,vl,vo,S,T,V,O,n,rfl,B,b1⟩;have B1:=Lib.hid b1;have SL:=Lib.hid B.s;have DEN:=Lib.hid B.den;have H1:Hid (Hq w1 vs vt vl _ (.slice none 0 0) S [] T V P):=Lib.hid ⟨B.st,B.tb,B.lv,RP0.out.below b1,stl_nil _⟩;have O1:=Lib.hid B.os;have FEW:=Lib.hid B.few;clear B b1 BD;go_wp2_with fail;refine (FW.out _ _ _ H1.out.sp).mono ?_;rintro e w2 ⟨u2,rfl,r2,b2⟩;have B2:=Lib.hid (B1.out.trans (b2.mono B1.out.size));have H2:=Lib.hid (H1.out.below b2);have O2:=Lib.hid (O1.out.below b2);have R2:=Lib.hid r2;clear b2 B1 H1 O1 r2;go_wp2_with fail
 have RO:=bround_any (w:=w2) H2.out.st H2.out.tb H2.out.lv R2.out O2.out (HG.out.below B2.out) (fun i hi=>by
  have:=DEN.out i (by rw [← SL.out];exact hi);rw [this]
  exact ⟨by decide,by decide⟩)
 unfold RoundPost at RO;refine RO.mono ?_;rintro e w3 ⟨va,rfl,sa,b3⟩;have B3:=Lib.hid (B2.out.trans (b3.mono B2.out.size));have H3':=H2.out.below b3;clear RO b3 B2 H2 R2 O2
 by_cases hE:buE S T V O=0
 ·obtain ⟨z1,z2,z3,z4⟩:=buE_zero (P:=P.take 20) hE
  rw [z4] at sa;have H3:Hid (Hq w3 vs vt vl _ va S (rdL S T V (P.take 20)) T V P):=Lib.hid ⟨H3'.st,H3'.tb,H3'.lv,H3'.sp,sa⟩;have Z1:=Lib.hid z1;rw [hE];clear H3' sa hE z1 z2 z3 z4;go_wp2_with fail;refine (FW.out _ _ _ H3.out.sp).mono ?_;rintro e w4 ⟨u4,rfl,r4,b4⟩;have B4:=Lib.hid (B3.out.trans (b4.mono B3.out.size));have H4:=Lib.hid (H3.out.below b4);have R4:=Lib.hid r4;clear b4 B3 H3 r4;go_wp2_with fail
  have RO:=round_any (w:=w4) H4.out.st H4.out.tb H4.out.lv R4.out (HG.out.below B4.out) (fun i hi=>by
   have:=DEN.out i (by rw [← SL.out];exact hi);rw [this]
   exact ⟨by decide,by decide⟩)
  rw [Z1.out] at RO;unfold RoundPost at RO;refine RO.mono ?_;rintro e w5 ⟨vb,rfl,sb,b5⟩;have B5:=Lib.hid (B4.out.trans (b5.mono B4.out.size));have HA:=Lib.hid (H4.out.a.below b5);have HB:=Lib.hid sb;clear RO b5 B4 H4 R4 sb FW;have NB:Hid ((rdL S T V (P.take 20)).length≤6):=Lib.hid (by rw [show rdL S T V (P.take 20)=Pa.rdS S T V (Pa.hr S T V (P.take 20)) from if_pos Z1.out,Pa.rdS_len,SL.out];exact FEW.out);generalize rdL S T V (P.take 20)=S' at *
  have EA:Hid (∀ i,i < S'.length→OkA (sat S' i).1):=Lib.hid (fun i hi=>by
   obtain ⟨ps,_,_,e⟩:=HA.out
   exact (e i hi).okA)
  obtain ⟨aa,ac,rfl,am⟩:=HA.out.slice;obtain ⟨ba,bc,rfl,bm⟩:=HB.out.slice;unfold maxLen at am bm;generalize hn':S'.length=n' at *;have HN':=Lib.hid hn';clear hn';go_upto_region 9 with fail
  go_loopw [14] (fun i wr=>∃ k:Nat,k≤n'∧i = .int .i64 k∧Hid (Below w5.heap.size w5 wr)) (fun i _=>n' - (intOf i).toNat)
  case atStart=>exact ⟨0,Nat.zero_le _,rfl,Lib.hid (Below.refl _ _)⟩
  case round =>
   obtain ⟨k,hk,rfl,I⟩:=hrel
   by_cases hlt:k < n'
   ·obtain ⟨b1,o1,c1,p1,e1,x1,g1⟩:=(HA.out.below I.out).one (k:=k) (by have:=HN'.out;omega)
    obtain ⟨b2,o2,c2,p2,e2,x2,g2⟩:=(HB.out.below I.out).one (k:=k) (by have:=HN'.out;omega);have HK1:Hid (k+1≤n'):=Lib.hid hlt;have LA:=Lib.hid (EA.out k (by have:=HN'.out;omega)).len;rw [HN'.out] at e1 e2;injection e1 with e1 _ e1';injection e2 with e2 _ e2';subst e1 e1' e2 e2';generalize sat S' (k:Int)=xa at *;obtain ⟨A,d⟩:=xa;obtain ⟨F1,G1⟩:=g1;obtain ⟨F2,G2⟩:=g2;simp only at G1 G2 LA;have GA:=Lib.hid G1;have GB:=Lib.hid G2;unfold ptr at x1 x2;have X1:=Sd.cell_by x1;have X2:=Sd.cell_by x2;clear x1 x2 G1 G2;go_upto_region 11 with fail;refine Sd.start [(false,0),(false,1),(false,2),(false,3),(false,5),(false,6),(false,7),(false,8),(true,4),(true,9),(true,10),(false,11),(false,12),(false,13),(false,14),(false,15),(false,16),(false,18),(false,19),(false,20),(false,21),(true,17),(true,22),(false,23),(false,24)] (by kernel_rfl) (by kernel_rfl) (by kernel_rfl) ?_;dsimp only [Sd.picks,List.getElem?_cons_succ,List.getElem?_cons_zero]
    repeat (refine Sd.lit ?_;quiet_step (fail);refine wpQuiet_nil ?_)
    have D0:=Lib.hid ((Below.refl wr.heap.size wr).drew);generalize wr.drew=W0 at *;refine Sd.call (by rfl) (fun K hK=>?_);go_simp;refine (files_any (GA.out.below D0.out)).mono ?_;rintro e v1 ⟨u1,rfl,ls1,b1⟩;have D1:=Lib.hid (D0.out.trans (b1.mono D0.out.size));have LS1:=Lib.hid (ls1 (fun _=>False) nofun);refine hK _ _ (Sd.Cl.of D1.out) ?_;clear hK K b1 ls1;refine Sd.call (by rfl) (fun K hK=>?_);go_simp;refine (files_any (GB.out.below D1.out)).mono ?_;rintro e v2 ⟨u2,rfl,ls2,b2⟩;have D2:=Lib.hid (D1.out.trans (b2.mono D1.out.size));have LS2:=Lib.hid (ls2 (fun _=>False) nofun);have LT:=Lib.hid (LS1.out.below b2);refine hK _ _ (Sd.Cl.of D2.out) ?_;clear hK K b2 ls2 LS1;refine Sd.call (by rfl) (fun K hK=>?_);go_simp;refine (same_is LT.out LS2.out LA.out).mono ?_;rintro e v3 ⟨rfl,b3⟩;have D3:=Lib.hid (D2.out.trans (b3.mono D2.out.size));refine hK _ _ (Sd.Cl.of D3.out) ?_;clear hK K b3 LT LS2
    repeat (refine Sd.lit ?_;quiet_step (fail);refine wpQuiet_nil ?_)
    refine Sd.call (by rfl) (fun K hK=>?_);go_simp;refine (denied_st (GA.out.below D3.out)).mono ?_;rintro e v4 ⟨rfl,b4⟩;have D4:=Lib.hid (D3.out.trans (b4.mono D3.out.size));refine hK _ _ (Sd.Cl.of D4.out) ?_;clear hK K b4;refine Sd.call (by rfl) (fun K hK=>?_);go_simp;refine (denied_st (GB.out.below D4.out)).mono ?_;rintro e v5 ⟨rfl,b5⟩;have D5:=Lib.hid (D4.out.trans (b5.mono D4.out.size));refine hK _ _ (Sd.Cl.of D5.out) ?_;clear hK K b5 X1 X2
    repeat (refine Sd.lit ?_;quiet_step (fail);refine wpQuiet_nil ?_)
    refine Sd.done ?_;have J:=Lib.hid (I.out.trans (D5.out.mono I.out.size));have hk1:=HK1.out;have h8:=NB.out;go_wp2
    go_roundw
    case rel=>exact ⟨k+1,HK1.out,by go_num,J⟩
    case measure=>have:=HK1.out;have:=NB.out;simp [intOf];omega
   ·obtain rfl:k=n':=by omega
    have J:=Lib.hid (B5.out.trans (I.out.mono B5.out.size));have AW:=Lib.hid (awake_any wr (HG.out.below J.out));clear HA HB I;go_wp2_with fail;refine AW.out.mono ?_;rintro e v6 ⟨rfl,b6⟩;have Z:=Lib.hid (J.out.trans (b6.mono J.out.size));go_wp2
    go_ret
    exact ⟨rfl,Z.out⟩
 ·have e0:buL S T V (P.take 20) O = []:=if_neg hE
  rw [e0] at sa;obtain ⟨aa,ac,rfl,am⟩:=sa.slice;have hne:(buE S T V O != 0)=true:=by simpa using hE
  have AW:=Lib.hid (awake_any w3 (HG.out.below B3.out));clear sa e0 H3' hE;generalize buE S T V O=E at *;go_wp2_with fail;refine AW.out.mono ?_;rintro e v6 ⟨rfl,b6⟩;have Z:=Lib.hid (B3.out.trans (b6.mono B3.out.size));go_wp2
  go_ret
  exact ⟨rfl,Z.out⟩
end Go.Proofs.YtpkipilggkbkeaaGreatDoor.Bu
