import Derived.Test.YtljnkaodhfnbbaaGreatDoorPd11
import Derived.Test.YtljnkaodhfnbbaaGreatDoorPd9
import Derived.Test.YtljnkaodhfnbbaaGreatDoorPd4
import Derived.Deep.Cut
import Derived.Test.YtljnkaodhfnbbaaGreatDoorPd10
import Derived.Test.YtljnkaodhfnbbaaGreatDoorPd7
import Derived.Test.YtljnkaodhfnbbaaGreatDoorPd5
import Derived.Test.YtljnkaodhfnbbaaGreatDoorPd3
import Derived.Test.YtljnkaodhfnbbaaGreatDoorPd2
import Derived.ArgAppend
import Derived.Test.YtljnkaodhfnbbaaGreatDoorPd8
import Derived.Test.YtljnkaodhfnbbaaGreatDoorPd1
import Derived.Deep.CutRange
set_option maxRecDepth 100000
namespace Go.Proofs.YtljnkaodhfnbbaaGreatDoor.Wn
open Go.RowKit
open Rw (Rd Ow At)
open Fl (R4 K4 okL okR z4 row_cell row_frozen newL newP NewPost rnew_any hdr)
open Fs (Glob Ent Abs E3 Ls FilesPost)
open Re (KI fileL FilePost rfile_any)
open Pa (ptr sat vat)
open Ck (Hd sl zh)
open Cu (CH ch_do ch_files ch_role ch_new fls_of pls_of PlD KP Pls pls run_buildA run_buildB actE actC actV Syn OkC)
attribute [local irreducible] Sd.wpSd wpQuiet
def Wakes (w:World):Prop:=Glob w
theorem Wakes.below {w w':World} (h:Wakes w) (b:Below w.heap.size w w'):Wakes w':=Fs.Glob.below h b
theorem ok_new71:okL (newL 7 1):=by
 intro r h
 simp only [newL,List.mem_cons] at h
 rcases h with rfl | h
 ·unfold okR;decide
 ·have:r=z4:=(List.mem_replicate.1 h).2
  rw [this];exact Fl.okR_z
theorem two_plans {w:World} {c:PlD} (h:Pa.Fls w (sl c.files) c.F w.heap.size):Pls (w.alloc (.cells #[sl c.files,.int .i64 c.rate,sl c.files,.int .i64 c.rate] 60)) (.slice (some ⟨w.heap.size,0,none⟩) 2 2) [c,c] (w.alloc (.cells #[sl c.files,.int .i64 c.rate,sl c.files,.int .i64 c.rate] 60)).heap.size:=by
 have rd:=(Rw.Ow.lit (K:=KP) w w.heap.size 60 [c,c] (Nat.le_refl _) (by unfold maxLen;simp)).rd;have b:=(Below.refl w.heap.size w).alloc (Nat.le_refl _) (.cells #[sl c.files,.int .i64 c.rate,sl c.files,.int .i64 c.rate] 60);refine pls_of rd fun x hx=>?_;have e:x=c:=by
  rcases List.mem_cons.1 hx with h | h
  ·exact h
  ·exact List.mem_singleton.1 h
 rw [e];have f:=h.below b;exact fls_of f.rd fun y hy=>by
  obtain ⟨i,hi⟩:=List.getElem?_of_mem hy;have hl:=(List.getElem?_eq_some_iff.1 hi).1;have:=f.file i hl;unfold Pa.eatF at this;rw [List.getD_eq_getElem?_getD,hi] at this;exact this
theorem ok1:OkC (Cu.newC Cu.L1) 0:=Cu.new_ok Cu.new1 fun p hp e he=>by
 have:p=(Cu.A1,2000):=by
  rcases List.mem_cons.1 hp with h | h
  ·exact h
  ·exact List.mem_singleton.1 h
 subst this
 rcases List.mem_cons.1 he with h | h
 ·rw [h];exact ok_new71
 ·rw [List.mem_singleton.1 h];exact Re.ok_file Cu.seq0
theorem sy1:Syn (Cu.newC Cu.L1):=Cu.syn_new _ (by decide)
theorem okr7:okR Cu.r7:=by unfold okR;decide
theorem ok2:OkC Cu.d1 1:=by
 have:=ok1.act Cu.acW okr7;rw [Cu.g_write.2] at this;exact this
theorem sy2:Syn Cu.d1:=by
 have:=sy1.act ok1 Cu.acW;rw [Cu.g_write.2] at this;exact this
set_option maxHeartbeats 4000000 in
theorem wakes_any {w:World} (h:Wakes w):Calls Tryz.prog 28 #[] w fun e w'=>e = .returned (.bool true)∧Below w.heap.size w w':=by
 have HG:=Lib.hid h;clear h;have L1:Hid (Rd KI (w.alloc (.cells #[.int .i64 0] 3)) (.slice (some ⟨w.heap.size,0,none⟩) 1 1) [0]):=Lib.hid (Rw.Ow.lit (K:=KI) w w.heap.size 3 [0] (Nat.le_refl _) (by unfold maxLen;simp)).rd;have B1:=Lib.hid ((Below.refl w.heap.size w).alloc (Nat.le_refl _) (.cells #[.int .i64 0] 3))
 have C1:Hid (Calls Tryz.prog 58 #[.slice (some ⟨w.heap.size,0,none⟩) 1 1] (w.alloc (.cells #[.int .i64 0] 3)) fun e w'=>∃ a cap,e = .returned (.tuple #[.agg #[.int .i64 3,.slice a 2 cap],.int .i64 0])∧Rd K4 w' (.slice a 2 cap) (fileL [0])∧Below (w.alloc (.cells #[.int .i64 0] 3)).heap.size (w.alloc (.cells #[.int .i64 0] 3)) w'):=Lib.hid ((rfile_any _ _ [0] L1.out).mono fun e w' ⟨u,he,hu,hb⟩=>by
  have e1:Re.fL [0]=fileL [0]:=if_pos Cu.seq0;rw [e1] at hu;obtain ⟨a,cap,rfl,_⟩:=hu.slice
  exact ⟨a,cap,by rw [he];unfold Re.fP Re.fN;rw [if_pos Cu.seq0,if_pos Cu.seq0];rfl,hu,hb⟩)
 have C2:Hid (∀ W,Calls Tryz.prog 75 #[.int .i64 7,.int .i64 1] W fun e w'=>∃ a cap,e = .returned (.tuple #[.agg #[.int .i64 7,.slice a 2 cap],.int .i64 0])∧Rd K4 w' (.slice a 2 cap) (newL 7 1)∧Below W.heap.size W w'):=Lib.hid (fun W=>(rnew_any W 7 1).mono fun e w' ⟨v,he,hv,hb⟩=>by
  have hp:newP 7 1:=⟨by decide,by decide,by decide,by decide⟩;rw [if_pos hp] at hv;rw [if_pos hp,if_pos hp] at he;obtain ⟨a,cap,rfl,_⟩:=hv.slice
  exact ⟨a,cap,he,hv,hb⟩)
 go_enter Tryz.func28,Tryz.ntmps28
 go_wp2_with fail;refine C1.out.mono ?_;rintro e w2 ⟨fa,fc,rfl,r2,b2⟩;have B2:=Lib.hid (B1.out.trans (b2.mono B1.out.size));have X2:=Lib.hid (heap_alloc_new w2 (.cells #[.int .i64 3,.slice fa 2 fc] 70));have N2:=Lib.hid ((Below.refl w2.heap.size w2).alloc (Nat.le_refl _) (.cells #[.int .i64 3,.slice fa 2 fc] 70));have R2:=Lib.hid (r2.below N2.out);have B3:=Lib.hid (B2.out.trans (N2.out.mono B2.out.size));clear C1 L1 B1 r2 b2 B2 N2;go_upto_region 2 with fail;generalize (w2.alloc (.cells #[.int .i64 3,.slice fa 2 fc] 70))=w3 at *;generalize w2.heap.size=g1 at *;have D2:=Lib.hid (C2.out w3);clear C2;go_wp2_with fail;refine D2.out.mono ?_;rintro e w4 ⟨na,nc,rfl,r4,b4⟩;have X4:=Lib.hid (heap_alloc_new w4 (.cells #[.int .i64 7,.slice na 2 nc] 70));have N4:=Lib.hid ((Below.refl w4.heap.size w4).alloc (Nat.le_refl _) (.cells #[.int .i64 7,.slice na 2 nc] 70));have R4a:=Lib.hid (r4.below N4.out);have R5:=Lib.hid ((R2.out.below b4).below N4.out);have X5:=Lib.hid ((N4.out.block _ (Nat.lt_of_lt_of_le (lt_of_block X2.out) b4.size)).trans ((b4.block _ (lt_of_block X2.out)).trans X2.out));have B5:=Lib.hid ((B3.out.trans (b4.mono B3.out.size)).trans (N4.out.mono (Nat.le_trans B3.out.size b4.size)));clear D2 r4 b4 R2 X2 B3 N4;go_upto_region 3 with fail;generalize (w4.alloc (.cells #[.int .i64 7,.slice na 2 nc] 70))=w5 at *;generalize w4.heap.size=g2 at *;have x0:w5.cell? ⟨g2,0,none⟩=some (.int .i64 7):=row_cell X4.out 0;have x1:w5.cell? ⟨g2,1,none⟩=some (.slice na 2 nc):=row_cell X4.out 1;have y0:w5.cell? ⟨g1,0,none⟩=some (.int .i64 3):=row_cell X5.out 0;have y1:w5.cell? ⟨g1,1,none⟩=some (.slice fa 2 fc):=row_cell X5.out 1;have hBN:=Fs.run_buildN;have RE:Hid (Rd E3 (w5.alloc (.cells #[.int .i64 1,.int .i64 7,.slice na 2 nc,.int .i64 40,.int .i64 3,.slice fa 2 fc] 72)) (.slice (some ⟨w5.heap.size,0,none⟩) 2 2) [⟨1,7,na,nc,newL 7 1⟩,⟨40,3,fa,fc,fileL [0]⟩]):=Lib.hid (Rw.Ow.lit (K:=E3) w5 w5.heap.size 72 [⟨1,7,na,nc,newL 7 1⟩,⟨40,3,fa,fc,fileL [0]⟩] (Nat.le_refl _) (by unfold maxLen;simp)).rd;have B6:=Lib.hid ((Below.refl w5.heap.size w5).alloc (Nat.le_refl _) (.cells #[.int .i64 1,.int .i64 7,.slice na 2 nc,.int .i64 40,.int .i64 3,.slice fa 2 fc] 72));have Z6:Hid ((w5.alloc (.cells #[.int .i64 1,.int .i64 7,.slice na 2 nc,.int .i64 40,.int .i64 3,.slice fa 2 fc] 72)).heap.size=w5.heap.size+1):=Lib.hid (by simp);have B7:=Lib.hid (B6.out.alloc B6.out.size (.cells #[.slice (some ⟨w5.heap.size,0,none⟩) 2 2,.int .i64 2000] 60));have X7:Hid (((w5.alloc (.cells #[.int .i64 1,.int .i64 7,.slice na 2 nc,.int .i64 40,.int .i64 3,.slice fa 2 fc] 72)).alloc (.cells #[.slice (some ⟨w5.heap.size,0,none⟩) 2 2,.int .i64 2000] 60)).heap[w5.heap.size+1]? = some (.cells #[.slice (some ⟨w5.heap.size,0,none⟩) 2 2,.int .i64 2000] 60 (0,0))):=Lib.hid (by rw [← Z6.out];exact heap_alloc_new _ _)
 have FL:Hid (Pa.Fls ((w5.alloc (.cells #[.int .i64 1,.int .i64 7,.slice na 2 nc,.int .i64 40,.int .i64 3,.slice fa 2 fc] 72)).alloc (.cells #[.slice (some ⟨w5.heap.size,0,none⟩) 2 2,.int .i64 2000] 60)) (.slice (some ⟨w5.heap.size,0,none⟩) 2 2) [⟨1,7,na,nc,newL 7 1⟩,⟨40,3,fa,fc,fileL [0]⟩] ((w5.alloc (.cells #[.int .i64 1,.int .i64 7,.slice na 2 nc,.int .i64 40,.int .i64 3,.slice fa 2 fc] 72)).alloc (.cells #[.slice (some ⟨w5.heap.size,0,none⟩) 2 2,.int .i64 2000] 60)).heap.size):=Lib.hid (fls_of (RE.out.below ((Below.refl _ _).alloc (Nat.le_refl _) _)) fun c hc=>by
  rcases List.mem_cons.1 hc with h | h
  ·rw [h];exact ⟨R4a.out.below B7.out,ok_new71⟩
  ·rw [List.mem_singleton.1 h];exact ⟨R5.out.below B7.out,Re.ok_file Cu.seq0⟩)
 have BB:=Lib.hid (B5.out.trans (B7.out.mono B5.out.size));clear RE B6 Z6 B7 R4a R5 B5 X4 X5;go_upto_region 4 with fail;clear x0 x1 y0 y1 hBN;generalize ((w5.alloc (.cells #[.int .i64 1,.int .i64 7,.slice na 2 nc,.int .i64 40,.int .i64 3,.slice fa 2 fc] 72)).alloc (.cells #[.slice (some ⟨w5.heap.size,0,none⟩) 2 2,.int .i64 2000] 60))=w7 at *;generalize w5.heap.size=g5 at *;have x0:w7.cell? ⟨g5+1,0,none⟩=some (.slice (some ⟨g5,0,none⟩) 2 2):=row_cell X7.out 0;have x1:w7.cell? ⟨g5+1,1,none⟩=some (.int .i64 2000):=row_cell X7.out 1;have PL:=Lib.hid (two_plans (c:=⟨(some ⟨g5,0,none⟩,2,2),2000,[⟨1,7,na,nc,newL 7 1⟩,⟨40,3,fa,fc,fileL [0]⟩]⟩) FL.out);have NW:Hid (Calls Tryz.prog 12 #[.slice (some ⟨w7.heap.size,0,none⟩) 2 2] (w7.alloc (.cells #[.slice (some ⟨g5,0,none⟩) 2 2,.int .i64 2000,.slice (some ⟨g5,0,none⟩) 2 2,.int .i64 2000] 60)) fun e w'=>∃ s,e = .returned (.tuple #[.pointer (some ⟨s,0,none⟩),.int .i64 0])∧CH w s (Cu.newC Cu.L1) 0 w'):=Lib.hid (ch_new PL.out (w0:=w) Cu.new1 (BB.out.alloc BB.out.size _));clear FL PL BB X7;go_wp2_with fail;refine NW.out.mono ?_;rintro e w8 ⟨s,rfl,ch8⟩;have H8:=Lib.hid ch8
 have DW:Hid (Calls Tryz.prog 17 #[.pointer (some ⟨s,0,none⟩),.agg #[.int .i64 2,.int .i64 1,.int .i64 1,.int .i64 1,.int .u8 7,.int .u8 0,.int .u8 0,.int .u8 0,.int .i64 0,.int .i64 0,.int .i64 0]] w8 fun e w'=>e = .returned (.int .i64 0)∧CH w s Cu.d1 1 w'):=Lib.hid (by
  have:=ch_do H8.out HG.out ok1 sy1 (by decide) Cu.acW okr7 (WalkArith.wf_i64 (by decide));rw [Cu.g_write.1,Cu.g_write.2] at this
  exact this)
 have hA:=run_buildA;have hB:=run_buildB;clear NW ch8 x0 x1;go_wp2_with fail;refine DW.out.mono ?_;rintro e w9 ⟨rfl,ch9⟩;have H9:=Lib.hid ch9
 have DR:Hid (Calls Tryz.prog 17 #[.pointer (some ⟨s,0,none⟩),.agg #[.int .i64 1,.int .i64 0,.int .i64 0,.int .i64 0,.int .u8 0,.int .u8 0,.int .u8 0,.int .u8 0,.int .i64 0,.int .i64 0,.int .i64 0]] w9 fun e w'=>e = .returned (.int .i64 0)∧CH w s ⟨Cu.d1.S,[true,true],Wt.new,0,[]⟩ 2 w'):=Lib.hid (by
  have:=ch_do H9.out HG.out ok2 sy2 (by decide) Cu.acR Fl.okR_z (WalkArith.wf_i64 (by decide));rw [Cu.g_round.1,Cu.g_round.2] at this
  exact this)
 clear DW H8 ch9;go_wp2_with fail;refine DR.out.mono ?_;rintro e w10 ⟨rfl,ch10⟩;have H10:=Lib.hid ch10;have FI:=Lib.hid (ch_files H10.out (n:=1) (by decide));unfold FilesPost ptr at FI;clear DR H9 ch10 hA hB;go_wp2_with fail;refine FI.out.mono ?_;rintro e w11 ⟨v,rfl,hv,b11⟩;have H11:=Lib.hid (H10.out.below b11);obtain ⟨L,hL,eL⟩:=hv (fun _=>False) nofun;have EA:(sat (⟨Cu.d1.S,[true,true],Wt.new,0,[]⟩:Cu.Cs).S (1:Nat)).1=Cu.A2:=rfl;rw [EA] at eL;have hl:L.length=2:=by
  have:=congrArg List.length eL;rw [List.length_map] at this;exact this
 rcases L with _ | ⟨c,_ | ⟨d,_ | ⟨x,r⟩⟩⟩
 ·cases hl
 ·cases hl
 ·have ec:c.abs=(1,7,[hdr 7 1,Cu.r7]):=by injection eL
  have el:c.l = [hdr 7 1,Cu.r7]:=congrArg (fun x=>x.2.2) ec;obtain ⟨a,cap,rfl,_,_,h3⟩:=hL.rd;obtain ⟨b,off,rfl,hA⟩:=h3 (by simp);have c2:w11.cell? ⟨b,off+2,none⟩=some c.sl:=by
   have:=hA 0 (by simp) 2 c.sl rfl
   simpa [E3] using this
  obtain ⟨a2,cap2,e2,_,_,h4⟩:=hL.file c List.mem_cons_self;rw [el] at e2 h4;obtain ⟨b2,off2,rfl,hB⟩:=h4 (by simp);rw [e2] at c2;have y0:w11.cell? ⟨b2,off2+4,none⟩=some (.int .u8 7):=by have:=hB 1 (by simp) 0 _ rfl;simpa [K4,Cu.r7] using this
  have y1:w11.cell? ⟨b2,off2+4+1,none⟩=some (.int .u8 0):=by have:=hB 1 (by simp) 1 _ rfl;simpa [K4,Cu.r7] using this
  have y2:w11.cell? ⟨b2,off2+4+2,none⟩=some (.int .u8 0):=by have:=hB 1 (by simp) 2 _ rfl;simpa [K4,Cu.r7] using this
  have y3:w11.cell? ⟨b2,off2+4+3,none⟩=some (.int .u8 0):=by have:=hB 1 (by simp) 3 _ rfl;simpa [K4,Cu.r7] using this
  have es:∀ w,(Op.equalIn 10000 42 (.agg #[.int .u8 7,.int .u8 0,.int .u8 0,.int .u8 0]) (.agg #[.int .u8 7,.int .u8 0,.int .u8 0,.int .u8 0])).run Tryz.prog w = .ok true w:=fun w=>by
   have:=Fl.eq_rec (7,0,0,0) (7,0,0,0) w
   simpa using this
  have RO:=Lib.hid (ch_role H11.out 0);have BF:=Lib.hid H11.out.bel;unfold ptr at RO;clear FI H10 hv hL eL EA hl ec el hA hB e2 h3 h4 b11 H11;go_wp2_with fail;refine RO.out.mono ?_;rintro e w12 ⟨rfl,b12⟩;have E:=Lib.hid (BF.out.trans (b12.mono BF.out.size));clear RO b12 BF c2 y0 y1 y2 y3;go_wp2
  go_ret
  exact ⟨rfl,E.out⟩
 ·cases hl
end Go.Proofs.YtljnkaodhfnbbaaGreatDoor.Wn
namespace Go.Proofs.YtljnkaodhfnbbaaGreatDoor.Bu
open Go.RowKit Go.Maps
open Sp (S2 fr tp Sp)
open Rw (Rd Ow At)
open Wi (Plain PlainOf Low Made)
open Fs (Glob CopySt)
open Ro (may_len)
open Ck (LL lat tE RdL may_all)
open Pa (Sts Stl SAp PI Ns K2 KB KN ptr sat vat hr rdE rdL rdS rdS_at rdS_len hr_ok round_any RoundPost stl_nil apply_any ApPost copy_has sap_good sap_new infoN push_at wp_push_at HMap tab_each not_bad atB)
open Fl (row_cell)
attribute [local irreducible] Sd.wpSd wpQuiet
set_option maxHeartbeats 4000000 in
theorem bround_any {w:World} {vs vt vl vp vo:Value} {S:Sts} {T:LL} {V:List Bool} {P:List S2} {O:List Osc} (HS:Stl w vs S) (HT:RdL w vt T) (HV:Rd KB w vl V) (RP:Rd K2 w vp P) (HO:OsL w vo O) (hg:Glob w) (hd:∀ i,i < S.length→0≤(sat S i).2∧(sat S i).2 < 900000) :
 Calls Tryz.prog 30 #[vs,vt,vl,vp,vo] w (RoundPost w (buE S T V O) (buL S T V P O)):=by
 have RO:=Lib.hid (round_any HS HT HV RP hg hd);unfold RoundPost at RO;obtain ⟨sa,cs,rfl,ms⟩:=HS.slice;obtain ⟨oa,co,rfl,mo1,mo⟩:=HO.slice;unfold maxLen at ms mo;have OS:=Lib.hid HO;have HS0:=Lib.hid HS;have HT0:=Lib.hid HT;have HV0:=Lib.hid HV;have RP0:=Lib.hid RP;have GG:=Lib.hid hg;have DD:=Lib.hid hd;clear HS HT HV RP HO hg hd
 by_cases hE:rdE S T V=0
 ·obtain ⟨f1,f2,f3,f4,f5⟩:=rdE_zero hE
  have WILD:Hid (¬ (O.length=S.length∧calmLB O=true)→∀ w',Below w.heap.size w w'→RoundPost w (buE S T V O) (buL S T V P O) (.returned (.tuple #[.slice none 0 0,.int .i64 1])) w'):=Lib.hid (fun h w' b=>by
   obtain ⟨e1,e2⟩:=buE_wild (P:=P) hE h;rw [e1,e2]
   exact ⟨_,rfl,stl_nil w',b⟩)
  by_cases hl:O.length=S.length
  ·have CA:=Lib.hid (fun W b=>calm_any W _ O (OS.out.below (w':=W) b))
   cases hc:calmLB O with
   | false =>
     have WL:=Lib.hid (WILD.out (by rw [hc];simp));rw [hE] at RO;rw [hc] at CA;generalize buE S T V O=be at *;generalize buL S T V P O=bl at *;generalize rdL S T V P=rl at *;rw [hl] at CA ⊢;clear WILD OS HS0;generalize S.length=n at *
     go_enter Tryz.func30,Tryz.ntmps30
     go_wp2_with fail;refine RO.out.mono ?_;rintro e w1 ⟨v1,rfl,_,b1⟩;have C1:=Lib.hid (CA.out w1 b1);have B1:=Lib.hid b1;clear b1 CA RO;go_wp2_with fail;refine C1.out.mono ?_;rintro e w2 ⟨rfl,b2⟩;have RES:=Lib.hid (WL.out w2 (B1.out.trans (b2.mono B1.out.size)));clear b2 C1 WL;go_wp2
     go_ret2
     exact RES.out
   | true =>
     obtain ⟨e1,e2⟩:=buE_ok (P:=P) hE hl hc;have cl:=of_calmLB hc;have BN:Hid (Bn w (.slice sa S.length cs) vt vl vp (.slice oa O.length co) S T V P O):=Lib.hid ⟨⟨HS0.out,HT0.out,HV0.out,f3,f4,f5⟩,RP0.out,OS.out,hl,f2,cl⟩;have LN:=Lib.hid (fun W b=>line_any (BN.out.below (w':=W) b));have LQ:Hid (∀ l,LineP S T V P O l→∀ k:Nat,k < S.length→lis l l (osc O k)=hr S T V P):=Lib.hid (fun l h k hk=>lis_is f5 (by rw [hl,f3]) cl ⟨h.1,fun _=>Iff.rfl⟩ h.2 (osc_calm cl (by omega)));have LF:Hid (∀ l,LineP S T V P O l→l.length≤4294967297):=Lib.hid (fun l h=>plain_few h.1 fun u hu=>lowL_at ((h.2 u).1 hu));have CO:Hid (∀ k:Nat,k < S.length→(osc O k).calm):=Lib.hid (fun k hk=>osc_calm cl (by omega));have OH:=Lib.hid (hr_ok S T V P);rw [hE] at RO;rw [hc] at CA;rw [e1,e2];clear WILD HT0 HV0 RP0;generalize hr S T V P=h at *;have AT:=Lib.hid (fun i hi=>rdS_at S T V h (i:=i) hi);have RL:=Lib.hid (rdS_len S T V h);generalize rdS S T V h=S' at *;generalize rdL S T V P=rl at *;have HL:=Lib.hid hl;have F3:=Lib.hid f3;have F4:=Lib.hid f4;rw [hl] at CA LN BN ⊢;clear hl f3 f4 f5 e1 e2 cl hc hE;generalize hn:S.length=n at *;have HN:=Lib.hid hn;clear hn
     go_enter Tryz.func30,Tryz.ntmps30
     go_wp2_with fail;refine RO.out.mono ?_;rintro e w1 ⟨v1,rfl,_,b1⟩;have C1:=Lib.hid (CA.out w1 b1);have B1:=Lib.hid b1;clear b1 CA RO;go_wp2_with fail;refine C1.out.mono ?_;rintro e w2 ⟨rfl,b2⟩;have B2:=Lib.hid (B1.out.trans (b2.mono B1.out.size));have L2:=Lib.hid (LN.out w2 B2.out);clear b2 C1 B1 LN;go_wp2_with fail;refine L2.out.mono ?_;rintro e w3 ⟨v3,l,rfl,own3,lp,b3⟩;have BW:=Lib.hid (B2.out.trans (b3.mono B2.out.size));have SL3:=Lib.hid own3.sp;have LP:=Lib.hid lp;obtain ⟨la,lc,rfl,_⟩:=SL3.out.slice;clear own3 lp b3 L2 B2;generalize hll:l.length=ln at *;have HLL:=Lib.hid hll;clear hll;go_wp2
     rename World=>wA
     go_loopw [47,15] (fun i o wr2=>∃ (k:Nat) (ps:List Nat),k≤n∧i = .int .i64 k∧Hid (PI SAp 89 wA S' k o ps wr2)) (fun i _ _=>n - (intOf i).toNat)
     case atStart=>exact ⟨0,[],Nat.zero_le _,rfl,PI.start wA (Below.refl _ _)⟩
     case round =>
      obtain ⟨k,ps,hk,rfl,I⟩:=hrel;have BI:=Lib.hid (BW.out.trans (I.out.bel.mono BW.out.size));obtain ⟨av,cv,ev,_⟩:=I.out.own.slice;have OWN:=Lib.hid I.out.own;generalize ps.length=Lp at ev;subst ev
      by_cases hlt:k < n
      ·obtain ⟨b1,o1,c1,s,e1,cS,hS⟩:=BN.out.ns.st.one (k:=k) (by have:=HN.out;omega)
       rw [HN.out] at e1;injection e1 with e1 _ e2;subst e1 e2;obtain ⟨b2,o2,c2,at',ct,e2,cT,_,_⟩:=BN.out.ns.tb.one (k:=k) (by have:=F3.out;omega);have RT:=Lib.hid (BN.out.ns.tb.rd (k:=k) (by have:=F3.out;omega) e2 cT);rw [F3.out] at e2;subst e2;obtain ⟨a3,c3,e3,_,_,h3⟩:=BN.out.ns.lv;rw [F4.out] at e3;subst e3;obtain ⟨b3,o3,rfl,A3⟩:=h3 (by have:=F4.out;omega);have cV:=atB (A3.below BI.out) (i:=k) (by have:=F4.out;omega);rw [show V.getD k false=vat V k from rfl] at cV;obtain ⟨b4,o4,c4,a4,d4,e4,cO,_,s4⟩:=BN.out.os.one (k:=k) (by have:=HL.out;omega);rw [HL.out] at e4;injection e4 with e4 _ e5;subst e4 e5;have S4:=Lib.hid s4;have EA:=Lib.hid (AT.out k (by have:=HN.out;omega));have OKT:=Lib.hid (tab_each BN.out.ns.ok (k:=k) (by have:=F3.out;omega));have ML:=Lib.hid (may_len (may_all (not_bad BN.out.ns.ok) k (by have:=F3.out;omega)));have HS2:Hid (∀ W,Below w.heap.size w W→Pa.Has W s (sat S k)):=Lib.hid (fun W b=>by obtain ⟨F,h⟩:=hS;exact ⟨F,h.below b⟩);have CT:=Lib.hid cT;have CC:=Lib.hid cO;have lT:=World.block_lt_of_cell? _ _ cT;have lO:=World.block_lt_of_cell? _ _ cO;unfold ptr at cS;have sS:=(BI.out.cell (World.block_lt_of_cell? _ _ cS)).trans cS;have LN:=Lib.hid I.out.len;clear hS h3 A3 s4 cS cT cO
       cases hv:vat V k with
       | true =>
         rw [hv] at cV;rw [hv,if_pos rfl] at EA;have EQ:=Lib.hid (LQ.out l LP.out k hlt);have CK:=Lib.hid (CO.out k hlt);generalize hlk:(lat T k).length=lk at *;go_upto_region 12 with fail;clear cV sS;have sT:=Sc.cell_in (C:=fun W=>Below w.heap.size w W) (a:=⟨b2,o2+k,none⟩) (fun W' h=>(h.cell lT).trans CT.out);have sO:=Sc.cell_in (C:=fun W=>Below w.heap.size w W) (a:=⟨b4,o4+k,none⟩) (fun W' h=>(h.cell lO).trans CC.out);have BD:=Lib.hid (BI.out.trans ((Below.refl wr.heap.size wr).drew.mono BI.out.size));have ne:Nonempty (Sc.In (fun W=>Below w.heap.size w W)):=⟨⟨_,BD.out⟩⟩;have ID:=Lib.hid (I.out.below sap_good ((Below.refl wr.heap.size wr).drew));refine Sc.start (fun W=>Below w.heap.size w W) [(false,0),(false,1),(false,2),(false,3),(false,4),(false,5),(false,6),(false,7),(false,8),(false,9),(false,10),(true,11),(true,12),(true,13),(true,14),(false,15)] (by kernel_rfl) (by kernel_rfl) (by kernel_rfl) BD.out ?_;dsimp only [Sd.picks,List.getElem?_cons_succ,List.getElem?_cons_zero]
         repeat (refine Sd.lit ?_;quiet_step (fail);refine wpQuiet_nil ?_)
         clear sT sO;generalize wr.drew=Wd at *;have HD:=Lib.hid (heard_any (l:=l) (r:=osc O k) (SL3.out.below ID.out.bel) LP.out.1 (LF.out l LP.out) (S4.out.below BD.out) CK.out);rw [EQ.out] at HD;unfold HeardPost at HD;generalize (osc O k).n=on at *;refine Sd.call (by rfl) (fun K hK=>?_);go_simp;refine HD.out.mono ?_;rintro e w4 ⟨mb,rfl,hm,b4'⟩;have HM:=Lib.hid hm;have B4:=Lib.hid (BD.out.trans (b4'.mono BD.out.size));have I4:=Lib.hid (ID.out.below sap_good b4');refine hK _ _ (Sc.Cl.of B4.out) ?_;clear hK K b4' hm HD ID;have AP:=Lib.hid (apply_any (HS2.out w4 B4.out) (GG.out.below B4.out) (DD.out k (by omega)) (RT.out.below B4.out) (fun y hy=>(OKT.out y hy).1) (by have:=ML.out;omega) HM.out OH.out);unfold ApPost at AP;refine Sd.call (by rfl) (fun K hK=>?_);go_simp;refine AP.out.mono ?_;rintro e w5 ⟨g,F5,rfl,st5,lo5,b5⟩;have B5:=Lib.hid (B4.out.trans (b5.mono B4.out.size));refine hK _ _ (Sc.Cl.of B5.out) ?_;clear hK K;unfold ptr;refine Sd.call (by rfl) (fun K hK=>?_);go_simp;have BL:=b5.alloc b5.size (.cells #[.pointer (some ⟨g,0,none⟩)] 89);have I5:=Lib.hid (I4.out.below sap_good BL);have G5:Hid (SAp (w5.alloc (.cells #[.pointer (some ⟨g,0,none⟩)] 89)) g (sat S' k) (Value.slice av Lp cv).ownBlock):=Lib.hid (sap_good.below (by rw [EA.out];exact sap_new st5 lo5 I4.out.lt) ((Below.refl w5.heap.size w5).alloc (Nat.le_refl _) _));have N6:=Lib.hid (heap_alloc_new w5 (.cells #[.pointer (some ⟨g,0,none⟩)] 89));have B6:=Lib.hid (B5.out.alloc B5.out.size (.cells #[.pointer (some ⟨g,0,none⟩)] 89));refine hK _ _ (Sc.Cl.of B6.out) ?_;clear hK K st5 lo5 b5 I OWN AP BL I4 BD;generalize w5.heap.size=g5 at *;generalize (w5.alloc (.cells #[.pointer (some ⟨g,0,none⟩)] 89))=W6 at *;refine Sd.call (by rfl) (fun K hK=>?_);refine wp_push_at (K:=KN) Tryz.underlying78 infoN rfl (by omega) _ _ rfl wA.heap.size _ _ rfl I5.out.own _ g rfl ?d1 ?d2 ?d3 ?_
         case d1 =>
          intro j u hu
          match j,hu with
          | 0,hu=>simp [KN] at hu;subst hu;exact row_cell N6.out 0
          | j+1,hu=>simp [KN] at hu
         case d2=>rw [LN.out];omega
         case d3=>have:=I5.out.bel.size;exact this
         intro v' w6 o6 g6 h6
         have NEW:=Lib.hid (I5.out.push sap_good o6 g6 h6 G5.out);refine hK _ _ (Sc.Cl.of (BW.out.trans (NEW.out.bel.mono BW.out.size))) ?_;clear hK K o6 g6 h6 I5 G5 B5 B6 N6;obtain ⟨av',cv',ev',_⟩:=NEW.out.own.slice;generalize (ps ++ [g]).length=Lp' at ev';subst ev'
         repeat (refine Sd.lit ?_;quiet_step (fail);refine wpQuiet_nil ?_)
         refine Sd.done ?_;go_wp2
         go_roundw
         case rel=>exact ⟨k+1,ps ++ [g],by omega,by go_num,NEW⟩
         case measure=>simp [intOf];omega
       | false =>
         rw [hv] at cV;rw [hv,if_neg Bool.false_ne_true] at EA;have AP:=Lib.hid (copy_has (HS2.out wr BI.out));unfold CopySt at AP;generalize (lat T k).length=lk at *;generalize (osc O k).n=on at *;go_wp2_with fail;refine AP.out.mono ?_;rintro e w5 ⟨g,F5,rfl,st5,lo5,b5⟩;have BL:=b5.alloc b5.size (.cells #[.pointer (some ⟨g,0,none⟩)] 89);have I5:=Lib.hid (I.out.below sap_good BL);have G5:Hid (SAp (w5.alloc (.cells #[.pointer (some ⟨g,0,none⟩)] 89)) g (sat S' k) (Value.slice av Lp cv).ownBlock):=Lib.hid (sap_good.below (by rw [EA.out];exact sap_new st5 lo5 I.out.lt) ((Below.refl w5.heap.size w5).alloc (Nat.le_refl _) _));clear st5 lo5 b5 I OWN AP cV sS BL
         (try unfold ptr)
         go_wp2_with (at_builtin;refine push_at (K:=KN) Tryz.underlying78 infoN rfl (by omega) rfl _ _ rfl wA.heap.size _ _ rfl I5.out.own _ g rfl ?d1 ?d2 ?d3 ?_)
         case d1 =>
          intro j u hu
          match j,hu with
          | 0,hu=>simp [KN] at hu;subst hu;unfold ptr;go_simp
          | j+1,hu=>simp [KN] at hu
         case d2=>rw [LN.out];omega
         case d3=>have:=I5.out.bel.size;exact this
         intro v' w6 o6 g6 h6
         have NEW:=Lib.hid (I5.out.push sap_good o6 g6 (by simpa using h6) G5.out);clear o6 g6 h6 I5 G5;obtain ⟨av',cv',ev',_⟩:=NEW.out.own.slice;generalize (ps ++ [g]).length=Lp' at ev';subst ev';go_wp2
         go_roundw
         case rel=>exact ⟨k+1,ps ++ [g],by omega,by go_num,NEW⟩
         case measure=>simp [intOf];omega
      ·obtain rfl:k=n:=by omega
       have RES:Hid (RoundPost w 0 S' (.returned (.tuple #[.slice av Lp cv,.int .i64 0])) wr):=Lib.hid ⟨_,rfl,PI.stl (S:=S') (by rw [RL.out];exact I.out),BI.out⟩;clear I OWN;go_wp2
       go_ret2
       exact RES.out
  ·have WL:=Lib.hid (WILD.out fun h=>hl h.1)
   rw [hE] at RO;generalize buE S T V O=be at *;generalize buL S T V P O=bl at *;generalize rdL S T V P=rl at *;clear WILD OS HS0 DD;generalize S.length=n at *;generalize O.length=no at *;have hne:((no:Int) != (n:Int))=true:=by simp;omega
   go_enter Tryz.func30,Tryz.ntmps30
   go_wp2_with fail;refine RO.out.mono ?_;rintro e w1 ⟨v1,rfl,_,b1⟩;have RES:=Lib.hid (WL.out w1 b1);clear b1 RO WL;go_wp2
   go_ret2
   exact RES.out
 ·obtain ⟨e1,e2⟩:=buE_wrong (O:=O) (P:=P) hE
  rw [e1,e2];have hne:(rdE S T V != 0)=true:=by simpa using hE
  clear hE OS HS0 DD e1 e2;generalize rdE S T V=E at *;generalize rdL S T V P=rl at *;generalize S.length=n at *;generalize O.length=no at *
  go_enter Tryz.func30,Tryz.ntmps30
  go_wp2_with fail;refine RO.out.mono ?_;rintro e w1 ⟨v1,rfl,_,b1⟩;have RES:Hid (RoundPost w E [] (.returned (.tuple #[.slice none 0 0,.int .i64 E])) w1):=Lib.hid ⟨_,rfl,stl_nil w1,b1⟩;clear b1 RO;go_wp2
  go_ret2
  exact RES.out
end Go.Proofs.YtljnkaodhfnbbaaGreatDoor.Bu
namespace Go.Proofs.YtljnkaodhfnbbaaGreatDoor.Pa
open Go.RowKit Go.Maps
open Rw (Rd Ow At)
open Fl (row_cell row_frozen)
open Ck (LL lat sN sE tE RdL)
open Ua (arr Row frm tb tp te upd info_of arr_one below_setRow load_frame store_frame store_new)
attribute [local irreducible] Sd.wpSd wpQuiet Sf.wpSf
def bys (b:Nat→Int) (q:Nat→Bool):Array Value:=#[.int .u8 (b 0),.int .u8 (b 1),.int .u8 (b 2),.int .u8 (b 3),.int .u8 (b 4),.int .u8 (b 5),.int .u8 (b 6),.int .u8 (b 7),.int .u8 (b 8),.int .u8 (b 9),.int .u8 (b 10),.int .u8 (b 11),.int .u8 (b 12),.int .u8 (b 13),.int .u8 (b 14),.int .u8 (b 15),.int .u8 (b 16),.bool (q 0),.bool (q 1),.bool (q 2),.bool (q 3),.bool (q 4),.bool (q 5),.bool (q 6),.bool (q 7),.bool (q 8),.bool (q 9),.bool (q 10),.bool (q 11),.bool (q 12),.bool (q 13),.bool (q 14),.bool (q 15),.bool (q 16)]
theorem lt17' {k:Nat} (h:k < 17):k=0∨k=1∨k=2∨k=3∨k=4∨k=5∨k=6∨k=7∨k=8∨k=9∨k=10∨k=11∨k=12∨k=13∨k=14∨k=15∨k=16:=by omega
theorem bys_b (b:Nat→Int) (q:Nat→Bool) {k:Nat} (h:k < 17):(bys b q)[k]? = some (.int .u8 (b k)):=by
 rcases lt17' h with rfl | rfl | rfl | rfl | rfl | rfl | rfl | rfl | rfl | rfl | rfl | rfl | rfl | rfl | rfl | rfl | rfl <;> rfl
theorem bys_q (b:Nat→Int) (q:Nat→Bool) {k:Nat} (h:k < 17):(bys b q)[17+k]? = some (.bool (q k)):=by
 rcases lt17' h with rfl | rfl | rfl | rfl | rfl | rfl | rfl | rfl | rfl | rfl | rfl | rfl | rfl | rfl | rfl | rfl | rfl <;> rfl
theorem bys_congr {b b':Nat→Int} {q q':Nat→Bool} (hb:∀ i,i < 17→b i=b' i) (hq:∀ i,i < 17→q i=q' i):bys b q=bys b' q':=by
 unfold bys;rw [hb 0 (by omega),hq 0 (by omega)];rw [hb 1 (by omega),hq 1 (by omega)];rw [hb 2 (by omega),hq 2 (by omega)];rw [hb 3 (by omega),hq 3 (by omega)];rw [hb 4 (by omega),hq 4 (by omega)];rw [hb 5 (by omega),hq 5 (by omega)];rw [hb 6 (by omega),hq 6 (by omega)];rw [hb 7 (by omega),hq 7 (by omega)];rw [hb 8 (by omega),hq 8 (by omega)];rw [hb 9 (by omega),hq 9 (by omega)];rw [hb 10 (by omega),hq 10 (by omega)];rw [hb 11 (by omega),hq 11 (by omega)];rw [hb 12 (by omega),hq 12 (by omega)];rw [hb 13 (by omega),hq 13 (by omega)];rw [hb 14 (by omega),hq 14 (by omega)];rw [hb 15 (by omega),hq 15 (by omega)];rw [hb 16 (by omega),hq 16 (by omega)]
def RowY (w:World) (g:Nat) (b:Nat→Int) (q:Nat→Bool):Prop:=w.heap[g]? = some (.cells (bys b q) 284 (0,0))
section
variable {w w':World} {g:Nat} {b b':Nat→Int} {q q':Nat→Bool}
theorem RowY.lt (h:RowY w g b q):g < w.heap.size:=lt_of_block h
theorem RowY.new (w:World) (b:Nat→Int) (q:Nat→Bool):RowY (w.alloc (.cells (bys b q) 284)) w.heap.size b q:=heap_alloc_new w _
theorem RowY.below {B:Nat} (h:RowY w g b q) (hb:Below B w w') (hg:g < B):RowY w' g b q:=(hb.block g hg).trans h
theorem RowY.far (h:RowY w g b q) {p:Addr} (hp:g≠p.block) (u:Value):RowY (w.setCell p u) g b q:=(Below.heap_setCell w p u g hp).trans h
theorem RowY.row (h:RowY w g b q) (b':Nat→Int) (q':Nat→Bool):RowY (w.setRow g (bys b' q')) g b' q':=setRow_heap w g _ _ _ _ h
theorem RowY.to (h:RowY w g b q) (hb:∀ i,i < 17→b i=b' i) (hq:∀ i,i < 17→q i=q' i):RowY w g b' q':=by unfold RowY at *;rw [h,bys_congr hb hq]
theorem RowY.cb (h:RowY w g b q) {k:Nat} (hk:k < 17):w.cell? ⟨g,k,none⟩=some (.int .u8 (b k)):=(row_cell h k).trans (bys_b b q hk)
theorem RowY.cq (h:RowY w g b q) {k:Nat} (hk:k < 17):w.cell? ⟨g,17+k,none⟩=some (.bool (q k)):=(row_cell h (17+k)).trans (bys_q b q hk)
end
def hb (h:Hr) (k:Nat):Int:=(h k).getD 0
def hq (h:Hr) (k:Nat):Bool:=(h k).isSome
end Go.Proofs.YtljnkaodhfnbbaaGreatDoor.Pa
namespace Go.Proofs.YtljnkaodhfnbbaaGreatDoor.Pa
open Go.RowKit Go.Maps
open Fs (Abs Rs Only Fx Wf gB gV sA sB dA dD dE OkA GetPost)
open Rw (Rd Ow At)
open Ro (E5 z5 eat K5 at5 okE ent okE_bounds)
open Fl (R4 z4 rec4 okR arr4 row_cell row_frozen)
attribute [local irreducible] Sd.wpSd wpQuiet
theorem ix_at {P:Program} {t e:TypeId} {n:Nat} (h:P.underlying t=some (.array n e)) (hs:∀ W,(sizeOf e).run P W = .ok 1 W) (g off k:Nat) (hk:k < n) (W:World):(Instr.indexAt t (.pointer (some ⟨g,off,none⟩)) (.int .i64 (k:Int))).run P W = .ok (.pointer (some ⟨g,off+k,none⟩)) W:=by
 have:(0:Int)≤(k:Int)∧(k:Int) < (n:Int):=⟨by omega,by omega⟩
 simp [Instr.indexAt,run_underlying h,Instr.sureAddr,asIntOf,hs,Addr.add,hk]
theorem ix_rec (g k:Nat) (hk:k < 4) (W:World):(Instr.indexAt 42 (.pointer (some ⟨g,0,none⟩)) (.int .i64 (k:Int))).run Tryz.prog W = .ok (.pointer (some ⟨g,k,none⟩)) W:=by
 have:=ix_at Tryz.underlying42 Tryz.sizeOf5 g 0 k hk W
 rwa [Nat.zero_add] at this
structure RA (w:World) (r:Nat) (F:Nat→Prop) (x:Abs×Int) (h g:Hr) (wr:World):Prop where
 rs:Rs wr r F x.1 x.2
 box:RowY wr w.heap.size (hb g) (hq h)
 gt:w.heap.size < r
 bel:Below w.heap.size w wr
theorem RA.below {w wr wr':World} {r:Nat} {F:Nat→Prop} {x:Abs×Int} {h g:Hr} (H:RA w r F x h g wr) (b:Below wr.heap.size wr wr'):RA w r F x h g wr':=⟨Fs.Rs.below H.rs b,H.box.below b H.box.lt,H.gt,H.bel.trans (b.mono H.bel.size)⟩
theorem RA.step {w wr wr':World} {r:Nat} {F:Nat→Prop} {x x':Abs×Int} {h g:Hr} (H:RA w r F x h g wr) (rs:Rs wr' r F x'.1 x'.2) (o:Only (fun k=>k=r) wr wr'):RA w r F x' h g wr' :=
 ⟨rs,(o.block _ H.box.lt (by have:=H.gt;omega)).trans H.box,H.gt,H.bel.trans (o.below H.bel.size fun k e=>by have:=H.gt;omega)⟩
structure BI (w1:World) (gx gv:Nat) (x:E5) (v:R4) (wr:World):Prop where
 cel:wr.heap[gv]? = some (.cells (arr4 v) 42 (0,0))
 ge:w1.heap.size≤gv
 bel:Below w1.heap.size w1 wr
theorem BI.below {w1 wr wr':World} {gx gv:Nat} {x:E5} {v:R4} (H:BI w1 gx gv x v wr) (b:Below wr.heap.size wr wr'):BI w1 gx gv x v wr':=⟨(b.block _ (lt_of_block H.cel)).trans H.cel,H.ge,H.bel.trans (b.mono H.bel.size)⟩
theorem BI.put {w1 wr:World} {gx gv:Nat} {x:E5} {v:R4} (H:BI w1 gx gv x v wr) {j:Nat} (hj:j < 4) (y:Int):BI w1 gx gv x (rs v j y) (wr.setCell ⟨gv,j,none⟩ (.int .u8 y)) :=
 ⟨by rw [Rw.heap_setCell_same H.cel,arr4_set v y hj],H.ge,H.bel.setCell (by exact H.ge) _⟩
end Go.Proofs.YtljnkaodhfnbbaaGreatDoor.Pa
namespace Go.Proofs.YtljnkaodhfnbbaaGreatDoor.Wp
open Go.RowKit Go.Maps
open Fs (Abs Glob OkA GetPost gV gB Wf)
open Rw (Rd Ow At)
open Ck (LL lat RdL tE)
open Ro (E5 z5 K5 ent okE eat at5)
open Pa
open Fl (R4 z4 K4 rec4 arr4 row_cell row_frozen ret_bool)
open Bu (Osc OsL osc buE buL buE_zero buE_wrong buE_wild bround_any)
open Wn (Wakes wakes_any)
attribute [local irreducible] Sd.wpSd wpQuiet Sf.wpSf
structure WC (W0:World) (gx gv gw:Nat) (x:E5) (v y:R4) (wr:World):Prop where
 rx:wr.heap[gx]? = some (.cells #[.int .i64 x.1,.int .i64 x.2.1,.int .i64 x.2.2.1,.int .i64 x.2.2.2.1,.int .i64 x.2.2.2.2] 87 (0,0))
 rv:wr.heap[gv]? = some (.cells (arr4 v) 42 (0,0))
 ry:wr.heap[gw]? = some (.cells (arr4 y) 42 (0,0))
 gev:W0.heap.size≤gv
 d1:gx≠gv
 d2:gw≠gv
 bel:Below W0.heap.size W0 wr
section
variable {W0 wr wr':World} {gx gv gw:Nat} {x:E5} {v y:R4}
theorem WC.below (H:WC W0 gx gv gw x v y wr) (b:Below wr.heap.size wr wr'):WC W0 gx gv gw x v y wr' :=
 ⟨(b.block _ (lt_of_block H.rx)).trans H.rx,(b.block _ (lt_of_block H.rv)).trans H.rv,(b.block _ (lt_of_block H.ry)).trans H.ry,H.gev,H.d1,H.d2,H.bel.trans (b.mono H.bel.size)⟩
theorem WC.put (H:WC W0 gx gv gw x v y wr) {j:Nat} (hj:j < 4) (z:Int):WC W0 gx gv gw x (rs v j z) y (wr.setCell ⟨gv,j,none⟩ (.int .u8 z)) :=
 ⟨(Below.heap_setCell _ _ _ _ (by exact H.d1)).trans H.rx,by rw [Rw.heap_setCell_same H.rv,arr4_set v z hj],(Below.heap_setCell _ _ _ _ (by exact H.d2)).trans H.ry,H.gev,H.d1,H.d2,H.bel.setCell (by exact H.gev) _⟩
theorem WC.setV (H:WC W0 gx gv gw x v y wr) (z:R4):WC W0 gx gv gw x z y (Fl.sto4 wr gv 0 z) :=
 ⟨Fl.sto4_other H.rx H.d1,Fl.sto4_row H.rv z,Fl.sto4_other H.ry H.d2,H.gev,H.d1,H.d2,Fl.sto4_below H.bel H.gev⟩
end
structure GxC (b1 o1 s gx:Nat) (x:E5) (W:World):Prop where
 s:W.cell? ⟨b1,o1,none⟩=some (.pointer (some ⟨s,0,none⟩))
 x:W.heap[gx]? = some (.cells #[.int .i64 x.1,.int .i64 x.2.1,.int .i64 x.2.2.1,.int .i64 x.2.2.2.1,.int .i64 x.2.2.2.2] 87 (0,0))
theorem GxC.below {b1 o1 s gx:Nat} {x:E5} {W W':World} (C:GxC b1 o1 s gx x W) (b:Below W.heap.size W W'):GxC b1 o1 s gx x W':=⟨(b.cell (World.block_lt_of_cell? _ _ C.s)).trans C.s,(b.block _ (lt_of_block C.x)).trans C.x⟩
theorem only4 (W:World) (g k:Nat) (x:R4):Fs.Only (fun j=>j=g) W (Fl.sto4 W g k x) :=
 (((Fs.Only.set (fun j=>j=g) W (a:=⟨g,k,none⟩) rfl _).trans (Fs.Only.set (fun j=>j=g) _ (a:=⟨g,k+1,none⟩) rfl _) fun _ _ h=>h).trans (Fs.Only.set (fun j=>j=g) _ (a:=⟨g,k+2,none⟩) rfl _) fun _ _ h=>h).trans (Fs.Only.set (fun j=>j=g) _ (a:=⟨g,k+3,none⟩) rfl _) fun _ _ h=>h
theorem cell4 {W:World} {g b o:Nat} {y:R4} {u:Value} (h:W.cell? ⟨b,o,none⟩=some u) (hne:b≠g):(Fl.sto4 W g 0 y).cell? ⟨b,o,none⟩=some u:=(only4 W g 0 y).cell h hne
theorem hrAt (S:Sts) (T:LL) (V:List Bool) (P:List S2) {s:Int} (h1:1≤s) (h2:s≤16):(hr S T V P s).getD 0=hrV S T V P s∧(hr S T V P s).isSome=hrB S T V P s:=by
 unfold hr
 cases hB:hrB S T V P s with
 | true=>rw [if_pos ⟨h1,h2,rfl⟩];exact ⟨rfl,rfl⟩
 | false =>
   rw [if_neg (by rintro ⟨_,_,h⟩;cases h)];refine ⟨?_,rfl⟩;unfold hrV;rw [hB]
   rfl
theorem rec_cells {W:World} {g:Nat} {y:R4} (h:W.heap[g]? = some (.cells (arr4 y) 42 (0,0))) :
 W.cell? ⟨g,0,none⟩=some (.int .u8 y.1)∧W.cell? ⟨g,1,none⟩=some (.int .u8 y.2.1)∧W.cell? ⟨g,2,none⟩=some (.int .u8 y.2.2.1)∧W.cell? ⟨g,3,none⟩=some (.int .u8 y.2.2.2) :=
 ⟨row_cell h 0,row_cell h 1,row_cell h 2,row_cell h 3⟩
set_option maxHeartbeats 40000000 in
theorem wcopies_any {w:World} (hg:Wakes w) (hgl:Glob w) {v vp:Value} {L:List Cel} {P:List S2} (H:Cls w v L) (RP:Rd K2 w vp P):Calls Tryz.prog 8 #[v,vp] w fun e w'=>e = .returned (.bool true)∧Below w.heap.size w w':=by
 have HG:=Lib.hid hg;have HGL:=Lib.hid hgl;have BD:=Lib.hid (build_any H);unfold BldPost at BD;have RP0:=Lib.hid RP;obtain ⟨a0,cap0,rfl,_⟩:=H.rd;obtain ⟨ap,cp,rfl,⟨mp1,_⟩,mp,hP3⟩:=RP;have HP3:=Lib.hid hP3;clear hP3;unfold maxLen at mp;generalize hlp:P.length=lp at *;have HLP:=Lib.hid hlp;clear hlp;clear H hg hgl;generalize L.length=n0 at *
 go_enter Tryz.func8,Tryz.ntmps8
 go_wp2_with fail;refine BD.out.mono ?_;rintro e w1 ⟨vs,vt,vl,vo,S,T,V,O,n,rfl,B,b1⟩;have B1:=Lib.hid b1;have SL:=Lib.hid B.s;have TL:=Lib.hid B.t;have VL:=Lib.hid B.v;have OKT:=Lib.hid B.ok;have ST1:=Lib.hid B.st;have TB1:=Lib.hid B.tb;have LV1:=Lib.hid B.lv;have OS1:=Lib.hid B.os;have SP1:=Lib.hid (RP0.out.below b1);have FEW:=Lib.hid B.few
 have RO:=Lib.hid (fun vq (rq:Rd K2 w1 vq (P.take 20))=>bround_any (w:=w1) B.st B.tb B.lv rq B.os (HGL.out.below b1) (fun i hi=>by
  have:=B.den i (by rw [← B.s];exact hi);rw [this]
  exact ⟨by decide,by decide⟩))
 unfold RoundPost at RO;clear B b1 BD
 go_upto_if 35 with fail
 go_cut [9] from 25 to 211 (fun x wx=>(∃ (b1:Option Addr) (m c1:Nat),Value.slice b1 m c1=x∧Hid (Rd K2 w1 (.slice b1 m c1) (P.take 20)))∧w1=wx)
 case first =>
  by_cases h20:20 < lp
  ·obtain ⟨b',off',rfl,_⟩:=HP3.out (by omega)
   have Q:Hid (Rd K2 w1 (.slice (some ⟨b',off',none⟩) 20 cp) (P.take 20)):=Lib.hid (cut_any SP1.out rfl (by have:=HLP.out;omega) (by omega));have h20':(20:Int) < lp:=by omega
   clear RO HP3;go_wp2
   go_meet
   exact ⟨⟨_,_,_,rfl,Q⟩,rfl⟩
  ·have Q:Hid (Rd K2 w1 (.slice ap lp cp) (P.take 20)):=Lib.hid (by rw [List.take_of_length_le (by have:=HLP.out;omega)];exact SP1.out)
   have h20':¬ (20:Int) < lp:=by omega
   clear RO HP3;go_wp2
   go_meet
   exact ⟨⟨_,_,_,rfl,Q⟩,rfl⟩
 case rest =>
  obtain ⟨⟨q1,q2,q3,e1,SP0⟩,e2⟩:=hcut;subst e1;subst e2;clear SP1 HP3;have RO:=RO.out _ SP0.out;generalize P.take 20=Q at *;go_wp2_with fail;refine RO.mono ?_;rintro e w2 ⟨va,rfl,sa,b2⟩;have B2:=Lib.hid (B1.out.trans (b2.mono B1.out.size));have ST:=Lib.hid (ST1.out.below b2);have TB:=Lib.hid (TB1.out.below b2);have LV:=Lib.hid (LV1.out.below b2);have SP:=Lib.hid (SP0.out.below b2);have SA:=Lib.hid sa;clear RO b2 B1 ST1 TB1 LV1 OS1 SP0 sa
  by_cases hE:buE S T V O=0
  ·obtain ⟨z1,z2,z3,z4'⟩:=buE_zero (P:=Q) hE
   obtain ⟨_,_,y1,y2,tE0⟩:=Bu.rdE_zero z1;have NS:Hid (Ns w2 vs vt vl S T V):=Lib.hid ⟨ST.out,TB.out,LV.out,y1,y2,tE0⟩;have TE:=Lib.hid tE0;have EA:Hid (∀ p:Nat,p < n→sat (buL S T V Q O) p=if vat V p=true then apS (hr S T V Q) (lat T p) (sat S p) else sat S p):=Lib.hid (fun p hp=>by rw [z4'];unfold rdL;rw [if_pos z1,rdS_at _ _ _ _ (by rw [SL.out];exact hp)]);have LA:Hid ((buL S T V Q O).length=n):=Lib.hid (by rw [z4'];unfold rdL;rw [if_pos z1,rdS_len,SL.out]);have HH:=Lib.hid (hr_ok S T V Q);have HT:=Lib.hid (fun (s:Int) h1 h2=>hrAt S T V Q (s:=s) h1 h2);have HE:=Lib.hid (fun W (b:Below w2.heap.size w2 W) s=>heard_any (NS.out.below b) (SP.out.below b) s);unfold HrdPost at HE;generalize buL S T V Q O=SB at *;generalize hr S T V Q=h at *;generalize hrV S T V Q=hv at *;generalize hrB S T V Q=hb at *;rw [hE];obtain ⟨sa,cs,rfl,_⟩:=ST.out.slice;obtain ⟨ta,ct,rfl,_⟩:=TB.out.slice;obtain ⟨aa,ca,rfl,_⟩:=SA.out.slice;obtain ⟨la,cl,rfl,_,lm,hL3⟩:=LV.out;have L3:=Lib.hid hL3;have sl:=SL.out;have tl:=TL.out;have al:=LA.out;have ll:=VL.out;rw [sl,tl,ll] at HE;rw [sl,tl,al,ll];clear sl tl al ll hL3 hE z1 z2 z3 z4' y1 y2 tE0 NS lm;go_wp2;have h6:=FEW.out
   go_loopw [12] (fun i wr=>∃ p:Nat,p≤n∧i = .int .i64 p∧Hid (Below w2.heap.size w2 wr)) (fun i _=>n - (intOf i).toNat)
   case atStart=>exact ⟨0,Nat.zero_le _,rfl,Lib.hid (Below.refl _ _)⟩
   case round =>
    obtain ⟨p,hp,rfl,I⟩:=hrel
    by_cases hlt:p < n
    ·have HP1:Hid (p+1≤n):=Lib.hid hlt
     as_aux_lemma =>
      have OKP:=Lib.hid (OKT.out p hlt);have OKE:=Lib.hid (tab_each TE.out (k:=p) (by have:=TL.out;omega));have EAP:=EA.out p hlt;obtain ⟨b1,o1,c1,s1,e1,x1,g1⟩:=ST.out.one (k:=p) (by have:=SL.out;omega);obtain ⟨b2,o2,c2,a2,n2,e2,x2,_,_⟩:=TB.out.one (k:=p) (by have:=TL.out;omega);have RT:=Lib.hid (TB.out.rd (k:=p) (by have:=TL.out;omega) e2 x2);obtain ⟨b3,o3,c3,s3,e3,x3,g3⟩:=SA.out.one (k:=p) (by have:=LA.out;omega);obtain ⟨b4,o4,rfl,A4⟩:=L3.out (by have:=VL.out;omega);have x4:=Pa.atB A4 (i:=p) (by have:=VL.out;omega)
      have CL:Hid (w2.cell? ⟨b4,o4+p,none⟩=some (.bool (vat V p))):=Lib.hid (by
       rw [x4];unfold vat
       rw [Int.toNat_natCast])
      injection e1 with e1 _ e1';injection e2 with e2 _ e2';injection e3 with e3 _ e3';subst e1 e1' e2 e2' e3 e3';have OA:=g1.okA;have GX:=Lib.hid (fun W (b:Below w2.heap.size w2 W) f (hf:Wf f) (r:Int)=>get_has (g1.below b) hf r);have GY:=Lib.hid (fun W (b:Below w2.heap.size w2 W) f (hf:Wf f) (r:Int)=>get_has (g3.below b) hf r);unfold GetPost rec4 at GX GY
      have GE:Hid (∀ f r,gB (sat SB p).1 f r=gB (sat S p).1 f r):=Lib.hid (fun f r=>by
       rw [EAP]
       split
       ·exact gB_ap (d:=(sat S p).2) HH.out (fun x hx=>(OKE.out x hx).1) OA f r
       ·rfl)
      have DD:Hid (vat V p=false→∀ f r,gV (sat SB p).1 f r=gV (sat S p).1 f r):=Lib.hid (fun q f r=>by
       rw [EAP,q]
       rfl)
      have WE:Hid (vat V p=true→∀ f r,gB (sat S p).1 f r=true→cR (lat T p) f r (lat T p).length=false→gV (sat SB p).1 f r=if cL h (lat T p) f r (lat T p).length=true then gV (sat S p).1 f r else cV h (lat T p) f r (gV (sat S p).1 f r) (lat T p).length):=Lib.hid (fun q f r hg hr=>by
       rw [EAP,if_pos q]
       exact c_end (d:=(sat S p).2) HH.out (fun x hx=>(OKE.out x hx).1) OA hg hr)
      clear EAP OA g1 g3 A4 x4 EA;generalize sat S p=ss at *;generalize sat SB p=sb at *;generalize vat V p=lv at *;generalize lat T p=lt at *;unfold ptr at x1 x3;have X1:=Lib.hid x1;have X2:=Lib.hid x2;have X3:=Lib.hid x3;clear x1 x2 x3;obtain ⟨a2',c2',e2',_,_,HT2⟩:=RT.out;injection e2' with e2a _ e2b;subst e2a e2b;have TA:=Lib.hid HT2;clear HT2 RT;generalize hnt:lt.length=nt at *;have HNT:=Lib.hid hnt;clear hnt;have NT:nt≤70:=OKP.out;have t2:_=some _:=(I.out.cell (World.block_lt_of_cell? _ _ X2.out)).trans X2.out;go_wp2;clear t2
      go_loopw [13] (fun i wr=>∃ q:Nat,q≤nt∧i = .int .i64 q∧Hid (Below w2.heap.size w2 wr)) (fun i _=>nt - (intOf i).toNat)
      case atStart=>exact ⟨0,Nat.zero_le _,rfl,I⟩
      case round =>
       clear I;obtain ⟨i,hi,rfl,J⟩:=hrel;have t2:_=some _:=(J.out.cell (World.block_lt_of_cell? _ _ X2.out)).trans X2.out
       by_cases hli:i < nt
       ·have HI1:Hid (i+1≤nt):=Lib.hid hli
        as_aux_lemma =>
         obtain ⟨b5,o5,rfl,A5⟩:=TA.out (by have:=HNT.out;omega);have T5:=Lib.hid A5;obtain ⟨c0,c1',c2',c3',c4'⟩:=at5 (A5.below J.out) i (by have:=HNT.out;omega);rw [show lt.getD i z5=eat lt i from rfl] at c0 c1' c2' c3' c4';have OKX:=OKE.out _ (Ro.eat_mem (l:=lt) (i:=i) (by have:=HNT.out;omega));clear TA A5;generalize eat lt i=x at *;obtain ⟨xk,xsl,xf,xr,xy⟩:=x;simp only at c0 c1' c2' c3' c4' OKX;have bx:=Ro.okE_bounds OKX.1;have WF:=wf_of (n:=xf) ⟨bx.2.2.1.1,by have:=bx.2.2.1.2;simp only at this;omega⟩;have G1:=Lib.hid (fun W b=>GX.out W b xf WF xr);have G2:=Lib.hid (fun W b=>GY.out W b xf WF xr);have G3:=Lib.hid (fun W b=>GX.out W b xf WF xr);have D1:=Lib.hid (fun q=>DD.out q xf xr);have W1:=Lib.hid (fun q=>WE.out q xf xr);rw [GE.out xf xr] at G2;clear GX GY DD WE GE OKX bx WF;generalize gV ss.1 xf xr=u1 at *;generalize gB ss.1 xf xr=ok at *;generalize gV sb.1 xf xr=u2 at *;have al:=(Below.refl wr.heap.size wr).alloc (Nat.le_refl _) (.cells #[.int .i64 xk,.int .i64 xsl,.int .i64 xf,.int .i64 xr,.int .i64 xy] 87);have J1:=Lib.hid (J.out.trans (al.mono J.out.size));have XB:Hid ((wr.alloc (.cells #[.int .i64 xk,.int .i64 xsl,.int .i64 xf,.int .i64 xr,.int .i64 xy] 87)).heap[wr.heap.size]? = some (.cells #[.int .i64 xk,.int .i64 xsl,.int .i64 xf,.int .i64 xr,.int .i64 xy] 87 (0,0))):=Lib.hid (heap_alloc_new wr _);have hpn:=HP1.out;clear al;go_upto_region 17 with fail;clear c0 c1' c2' c3' c4' t2 J;generalize (wr.alloc (.cells #[.int .i64 xk,.int .i64 xsl,.int .i64 xf,.int .i64 xr,.int .i64 xy] 87))=Y at *;generalize wr.heap.size=gx at *;have x8:=Sd.cell_by (show Y.cell? ⟨b1,o1+p,none⟩=some (.pointer (some ⟨s1,0,none⟩)) from (J1.out.cell (World.block_lt_of_cell? _ _ X1.out)).trans X1.out);have z2':=Sd.cell_by (show Y.cell? ⟨gx,2,none⟩=some (.int .i64 xf) from row_cell XB.out 2);have z3':=Sd.cell_by (show Y.cell? ⟨gx,3,none⟩=some (.int .i64 xr) from row_cell XB.out 3);refine Sf.start [(0,0),(0,1),(0,2),(0,3),(0,4),(0,5),(0,6),(0,7),(1,8),(0,9),(0,10),(0,11),(2,12),(1,13),(0,14)] [⟨12,15,#[.int .u8 0,.int .u8 0,.int .u8 0,.int .u8 0],42⟩] (by kernel_rfl) (by kernel_rfl) (by kernel_rfl) (by decide) (by decide) ?_ ?_ ?_
         ·simp
         ·intro f hf
          simp only [List.mem_cons,List.not_mem_nil,or_false] at hf;subst hf;exact ⟨_,rfl,rfl,rfl,fun ρ w=>by go_simp⟩
         dsimp only [Sf.picks,List.getElem?_cons_succ,List.getElem?_cons_zero];have BW:=Lib.hid ((Below.refl Y.heap.size Y).drew)
         repeat (refine Sf.lit (fun xs=>?_);simp only [Sf.fill,List.foldl_cons,List.foldl_nil];quiet_step (fail);refine wpQuiet_nil ?_)
         refine Sf.call (fun xs w11 hb hc=>⟨by rfl,fun K hK=>?_⟩);have B11:=Lib.hid (BW.out.trans (hb.mono BW.out.size));clear hb hc BW x8 z2' z3';simp only [Sf.fill,List.foldl_cons,List.foldl_nil];go_simp;refine (G1.out w11 (J1.out.trans (B11.out.mono J1.out.size))).mono ?_;rintro e4 w12 ⟨rfl,b12⟩;have B12:=Lib.hid (B11.out.trans (b12.mono B11.out.size));refine hK _ _ (Sd.Cl.of B12.out) b12.size (fun _=>b12) ?_;clear hK K b12 B11 G1
         repeat (refine Sf.lit (fun xs=>?_);simp only [Sf.fill,List.foldl_cons,List.foldl_nil];quiet_step (fail);refine wpQuiet_nil ?_)
         refine Sf.meet (fun gv w13 hb hc row n13 hH hL=>?_);have B13:=Lib.hid (B12.out.trans (hb.mono B12.out.size));have R13:Hid (w13.heap[gv]? = some (.cells (arr4 z4) 42 (0,0))):=row;clear hb hc row hH hL B12
         repeat (refine Sf.lit (fun xs=>?_);simp only [Sf.fill,List.foldl_nil];quiet_step (fail);refine wpQuiet_nil ?_)
         refine Sf.call (fun xs w14 hb hc=>⟨by rfl,fun K hK=>?_⟩);have B14:=Lib.hid (B13.out.trans (hb.mono B13.out.size));have R14:Hid (w14.heap[gv]? = some (.cells (arr4 z4) 42 (0,0))):=Lib.hid ((hb.block _ (lt_of_block R13.out)).trans R13.out);have d0:w14.cell? ⟨gv,0,none⟩=some (.int .u8 0):=row_cell R14.out 0;have d1:w14.cell? ⟨gv,1,none⟩=some (.int .u8 0):=row_cell R14.out 1;have d2:w14.cell? ⟨gv,2,none⟩=some (.int .u8 0):=row_cell R14.out 2;have d3:w14.cell? ⟨gv,3,none⟩=some (.int .u8 0):=row_cell R14.out 3;have f0:=row_frozen R14.out 0;have f1:=row_frozen R14.out 1;have f2:=row_frozen R14.out 2;have f3:=row_frozen R14.out 3;have BA:=Lib.hid (Fl.sto4_below (g:=gv) (o:=0) (r:=u1) B14.out n13);have RA:=Lib.hid (Fl.sto4_row R14.out u1);have hsz:=Fl.sto4_size w14 gv 0 u1;clear hb hc B13 R13 R14;simp only [Sf.fill,List.foldl_nil];go_simp;refine hK _ (Fl.sto4 w14 gv 0 u1) (Sd.Cl.of BA.out) (by rw [hsz];exact Nat.le_refl _) (fun h=>absurd rfl h) ?_;clear hK K d0 d1 d2 d3 f0 f1 f2 f3 hsz B14;generalize Fl.sto4 w14 gv 0 u1=w15 at *
         repeat (refine Sf.lit (fun xs=>?_);simp only [Sf.fill,List.foldl_nil];quiet_step (fail);refine wpQuiet_nil ?_)
         refine Sf.done (fun Z hb hc=>?_);have BB:=BA.out.trans (hb.mono BA.out.size);have VB:Hid (Z.heap[gv]? = some (.cells (arr4 u1) 42 (0,0))):=Lib.hid ((hb.block _ (lt_of_block RA.out)).trans RA.out);have NV:Hid (Y.heap.size≤gv):=Lib.hid n13;have J2:=Lib.hid (J1.out.trans (BB.mono J1.out.size));have XB2:Hid (_=some _):=Lib.hid ((BB.block _ (lt_of_block XB.out)).trans XB.out);have NX:Hid (gx < gv):=Lib.hid (Nat.lt_of_lt_of_le (lt_of_block XB.out) NV.out);have NW2:Hid (w2.heap.size≤gv):=Lib.hid (Nat.le_trans J1.out.size NV.out);clear hb hc BB BA RA n13 J1 XB NV;go_upto_region 18 with fail;have x8:=Sd.cell_by (show Z.cell? ⟨b3,o3+p,none⟩=some (.pointer (some ⟨s3,0,none⟩)) from (J2.out.cell (World.block_lt_of_cell? _ _ X3.out)).trans X3.out);have z2':=Sd.cell_by (show Z.cell? ⟨gx,2,none⟩=some (.int .i64 xf) from row_cell XB2.out 2);have z3':=Sd.cell_by (show Z.cell? ⟨gx,3,none⟩=some (.int .i64 xr) from row_cell XB2.out 3);refine Sf.start [(0,0),(0,1),(0,2),(0,3),(0,4),(0,5),(0,6),(0,7),(1,8),(0,9),(0,10),(0,11),(2,12),(1,13),(0,14)] [⟨12,17,#[.int .u8 0,.int .u8 0,.int .u8 0,.int .u8 0],42⟩] (by kernel_rfl) (by kernel_rfl) (by kernel_rfl) (by decide) (by decide) ?_ ?_ ?_
         ·simp
         ·intro f hf
          simp only [List.mem_cons,List.not_mem_nil,or_false] at hf;subst hf;exact ⟨_,rfl,rfl,rfl,fun ρ w=>by go_simp⟩
         dsimp only [Sf.picks,List.getElem?_cons_succ,List.getElem?_cons_zero];have BW:=Lib.hid ((Below.refl Z.heap.size Z).drew)
         repeat (refine Sf.lit (fun xs=>?_);simp only [Sf.fill,List.foldl_cons,List.foldl_nil];quiet_step (fail);refine wpQuiet_nil ?_)
         refine Sf.call (fun xs w11 hb hc=>⟨by rfl,fun K hK=>?_⟩);have B11:=Lib.hid (BW.out.trans (hb.mono BW.out.size));clear hb hc BW x8 z2' z3';simp only [Sf.fill,List.foldl_cons,List.foldl_nil];go_simp;refine (G2.out w11 (J2.out.trans (B11.out.mono J2.out.size))).mono ?_;rintro e4 w12 ⟨rfl,b12⟩;have B12:=Lib.hid (B11.out.trans (b12.mono B11.out.size));refine hK _ _ (Sd.Cl.of B12.out) b12.size (fun _=>b12) ?_;clear hK K b12 B11 G2
         repeat (refine Sf.lit (fun xs=>?_);simp only [Sf.fill,List.foldl_cons,List.foldl_nil];quiet_step (fail);refine wpQuiet_nil ?_)
         refine Sf.meet (fun gw w13 hb hc row n13 hH hL=>?_);have B13:=Lib.hid (B12.out.trans (hb.mono B12.out.size));have R13:Hid (w13.heap[gw]? = some (.cells (arr4 z4) 42 (0,0))):=row;clear hb hc row hH hL B12
         repeat (refine Sf.lit (fun xs=>?_);simp only [Sf.fill,List.foldl_nil];quiet_step (fail);refine wpQuiet_nil ?_)
         refine Sf.call (fun xs w14 hb hc=>⟨by rfl,fun K hK=>?_⟩);have B14:=Lib.hid (B13.out.trans (hb.mono B13.out.size));have R14:Hid (w14.heap[gw]? = some (.cells (arr4 z4) 42 (0,0))):=Lib.hid ((hb.block _ (lt_of_block R13.out)).trans R13.out);have d0:w14.cell? ⟨gw,0,none⟩=some (.int .u8 0):=row_cell R14.out 0;have d1:w14.cell? ⟨gw,1,none⟩=some (.int .u8 0):=row_cell R14.out 1;have d2:w14.cell? ⟨gw,2,none⟩=some (.int .u8 0):=row_cell R14.out 2;have d3:w14.cell? ⟨gw,3,none⟩=some (.int .u8 0):=row_cell R14.out 3;have f0:=row_frozen R14.out 0;have f1:=row_frozen R14.out 1;have f2:=row_frozen R14.out 2;have f3:=row_frozen R14.out 3;have BA:=Lib.hid (Fl.sto4_below (g:=gw) (o:=0) (r:=u2) B14.out n13);have RA:=Lib.hid (Fl.sto4_row R14.out u2);have hsz:=Fl.sto4_size w14 gw 0 u2;clear hb hc B13 R13 R14;simp only [Sf.fill,List.foldl_nil];go_simp;refine hK _ (Fl.sto4 w14 gw 0 u2) (Sd.Cl.of BA.out) (by rw [hsz];exact Nat.le_refl _) (fun h=>absurd rfl h) ?_;clear hK K d0 d1 d2 d3 f0 f1 f2 f3 hsz B14;generalize Fl.sto4 w14 gw 0 u2=w15 at *
         repeat (refine Sf.lit (fun xs=>?_);simp only [Sf.fill,List.foldl_nil];quiet_step (fail);refine wpQuiet_nil ?_)
         refine Sf.done (fun U hb hc=>?_);have BB:=BA.out.trans (hb.mono BA.out.size);have UB:Hid (U.heap[gw]? = some (.cells (arr4 u2) 42 (0,0))):=Lib.hid ((hb.block _ (lt_of_block RA.out)).trans RA.out);have NU:Hid (Z.heap.size≤gw):=Lib.hid n13;have C:=Lib.hid (⟨(BB.block _ (lt_of_block XB2.out)).trans XB2.out,(BB.block _ (lt_of_block VB.out)).trans VB.out,UB.out,NW2.out,by have:=NX.out;omega,by have:=NU.out;have:=lt_of_block VB.out;omega,J2.out.trans (BB.mono J2.out.size)⟩:WC w2 gx gv gw (xk,xsl,xf,xr,xy) u1 u2 U);clear hb hc BB BA RA n13 J2 XB2 VB UB NU NW2 NX;go_upto_region 19 with fail;have cl0:=(C.out.bel.cell (World.block_lt_of_cell? _ _ CL.out)).trans CL.out;obtain ⟨a0',a1',a2',a3'⟩:=rec_cells C.out.rv;obtain ⟨b0',b1',b2',b3'⟩:=rec_cells C.out.ry;have k0:U.cell? ⟨gx,0,none⟩=some (.int .i64 xk):=row_cell C.out.rx 0;have CB:=Lib.hid C.out.bel;have hi1:=HI1.out
         cases lv with
         | false =>
           have e:=D1.out rfl;subst e;have es:∀ w,(Op.equalIn 10000 42 (.agg #[.int .u8 u2.1,.int .u8 u2.2.1,.int .u8 u2.2.2.1,.int .u8 u2.2.2.2]) (.agg #[.int .u8 u2.1,.int .u8 u2.2.1,.int .u8 u2.2.2.1,.int .u8 u2.2.2.2])).run Tryz.prog w = .ok true w:=fun w=>by
            have:=Fl.eq_rec u2 u2 w
            simpa using this
           clear D1 W1 G3 C
           cases ok with
           | false =>
             by_cases h2:xk=2
             ·have h2':(xk != 2)=false:=by simp [h2]
              clear h2;go_wp2
              go_roundw
              case rel=>exact ⟨i+1,HI1.out,by go_num,CB⟩
              case measure=>have:=HI1.out;simp [intOf];omega
             ·have h2':(xk != 2)=true:=by simpa using h2
              clear h2;go_wp2
              go_roundw
              case rel=>exact ⟨i+1,HI1.out,by go_num,CB⟩
              case measure=>have:=HI1.out;simp [intOf];omega
           | true =>
             by_cases h2:xk=2
             ·have h2':(xk != 2)=false:=by simp [h2]
              clear h2;go_wp2
              go_roundw
              case rel=>exact ⟨i+1,HI1.out,by go_num,CB⟩
              case measure=>have:=HI1.out;simp [intOf];omega
             ·have h2':(xk != 2)=true:=by simpa using h2
              clear h2;go_wp2
              go_roundw
              case rel=>exact ⟨i+1,HI1.out,by go_num,CB⟩
              case measure=>have:=HI1.out;simp [intOf];omega
         | true =>
           clear D1
           cases ok with
           | false =>
             clear W1 G3 C
             by_cases h2:xk=2
             ·have h2':(xk != 2)=false:=by simp [h2]
              clear h2;go_wp2
              go_roundw
              case rel=>exact ⟨i+1,HI1.out,by go_num,CB⟩
              case measure=>have:=HI1.out;simp [intOf];omega
             ·have h2':(xk != 2)=true:=by simpa using h2
              clear h2;go_wp2
              go_roundw
              case rel=>exact ⟨i+1,HI1.out,by go_num,CB⟩
              case measure=>have:=HI1.out;simp [intOf];omega
           | true =>
             by_cases h2:xk=2
             ·have h2':(xk != 2)=false:=by simp [h2]
              clear h2;have FE0:=Lib.hid (W1.out rfl rfl);have t2:_=some _:=(C.out.bel.cell (World.block_lt_of_cell? _ _ X2.out)).trans X2.out;clear W1;go_wp2;clear a0' a1' a2' a3' b0' b1' b2' b3' k0 t2 cl0
              go_loopw [21,19,20] (fun iv lw rv wr=>∃ m:Nat,m≤nt∧iv = .int .i64 m∧lw = .bool (cL h lt xf xr m)∧rv = .bool (cR lt xf xr m)∧Hid (WC w2 gx gv gw (xk,xsl,xf,xr,xy) (cV h lt xf xr u1 m) u2 wr)) (fun iv _ _ _=>nt - (intOf iv).toNat)
              case atStart=>exact ⟨0,Nat.zero_le _,rfl,by rw [cL_zero],by rw [cR_zero],by rw [cV_zero];exact C⟩
              case round =>
               clear C CB;obtain ⟨m,hm,rfl,rfl,rfl,I⟩:=hrel;have KX:=Lib.hid I.out.bel;have t2:_=some _:=(KX.out.cell (World.block_lt_of_cell? _ _ X2.out)).trans X2.out
               by_cases hlm:m < nt
               ·have HM1:Hid (m+1≤nt):=Lib.hid hlm
                as_aux_lemma =>
                 clear FE0 G3;obtain ⟨c0,c1',c2',c3',c4'⟩:=at5 (T5.out.below KX.out) m (by have:=HNT.out;omega);rw [show lt.getD m z5=eat lt m from rfl] at c0 c1' c2' c3' c4';have OKY:=Lib.hid (OKE.out _ (Ro.eat_mem (l:=lt) (i:=m) (by have:=HNT.out;omega)));have NL:=Lib.hid (cL_next (h:=h) (n:=xf) (j:=xr) (t:=lt) (k:=m) (by have:=HNT.out;omega));have NR:=Lib.hid (cR_next (n:=xf) (j:=xr) (t:=lt) (k:=m) (by have:=HNT.out;omega));have NV:=Lib.hid (cV_next (h:=h) (n:=xf) (j:=xr) (v:=u1) (t:=lt) (k:=m) (by have:=HNT.out;omega));generalize eat lt m=y at *;generalize cL h lt xf xr m=lo at *;generalize cR lt xf xr m=ru at *;generalize cV h lt xf xr u1 m=vv at *;obtain ⟨yk,ys,yf,yr,yy⟩:=y;simp only at c0 c1' c2' c3' c4' OKY;have al:=(Below.refl wr.heap.size wr).alloc (Nat.le_refl _) (.cells #[.int .i64 yk,.int .i64 ys,.int .i64 yf,.int .i64 yr,.int .i64 yy] 87);have I1:=Lib.hid (I.out.below al);have YB:Hid ((wr.alloc (.cells #[.int .i64 yk,.int .i64 ys,.int .i64 yf,.int .i64 yr,.int .i64 yy] 87)).heap[wr.heap.size]? = some (.cells #[.int .i64 yk,.int .i64 ys,.int .i64 yf,.int .i64 yr,.int .i64 yy] 87 (0,0))):=Lib.hid (heap_alloc_new wr _);clear al;go_upto_region 27 with fail;clear c0 c1' c2' c3' c4' t2 I KX;generalize (wr.alloc (.cells #[.int .i64 yk,.int .i64 ys,.int .i64 yf,.int .i64 yr,.int .i64 yy] 87))=Y at *;generalize wr.heap.size=gy at *;have y2':Y.cell? ⟨gy,2,none⟩=some (.int .i64 yf):=row_cell YB.out 2;have y3':Y.cell? ⟨gy,3,none⟩=some (.int .i64 yr):=row_cell YB.out 3;have x2':Y.cell? ⟨gx,2,none⟩=some (.int .i64 xf):=row_cell I1.out.rx 2;have x3':Y.cell? ⟨gx,3,none⟩=some (.int .i64 xr):=row_cell I1.out.rx 3
                 by_cases hat:yf=xf∧yr=xr
                 ·obtain ⟨q1,q2⟩:=hat
                  have p1:(yf != xf)=false:=by simp [q1]
                  have p2:(yr != xr)=false:=by simp [q2]
                  have ATT:Hid (at_ xf xr (yk,ys,yf,yr,yy)=true):=Lib.hid (decide_eq_true ⟨q1,q2⟩);have NR2:Hid (cR lt xf xr (m+1)=(ru || decide (yk=3))):=Lib.hid (by rw [NR.out];unfold cr1;rw [ATT.out];simp);clear q1 q2 NR;have k0:Y.cell? ⟨gy,0,none⟩=some (.int .i64 yk):=row_cell YB.out 0;have k1:Y.cell? ⟨gy,1,none⟩=some (.int .i64 ys):=row_cell YB.out 1;go_upto_region 28 with fail;clear p1 p2 y2' y3' x2' x3'
                  go_cut [20] from 135 to 190 (fun r wx=>Value.bool (ru || decide (yk=3))=r∧Y=wx)
                  case first =>
                   cases ru with
                   | true =>
                     go_wp2
                     go_meet
                     exact ⟨rfl,rfl⟩
                   | false =>
                     by_cases h3:yk=3
                     ·have h3':(yk == 3)=true:=by simpa using h3
                      have D1:=Lib.hid (decide_eq_true h3);clear h3;go_wp2
                      go_meet
                      exact ⟨by rw [D1.out];rfl,rfl⟩
                     ·have h3':(yk == 3)=false:=by simpa using h3
                      have D1:=Lib.hid (decide_eq_false h3);clear h3;go_wp2
                      go_meet
                      exact ⟨by rw [D1.out];rfl,rfl⟩
                  case rest =>
                   obtain ⟨e1,e2⟩:=hcut;subst e1;subst e2;generalize (ru || decide (yk=3))=ru2 at *
                   by_cases h2:yk=2
                   ·subst yk
                    as_aux_lemma =>
                     have ok1:=OKY.out.1;unfold okE Ro.place at ok1;simp only at ok1;obtain ⟨yb,rfl⟩:∃ n:Nat,yy=n:=⟨yy.toNat,by omega⟩;have hy4:yb < 4:=by omega
                     have HS:=HT.out ys (by omega) (by omega);have HE1:=Lib.hid (HE.out Y I1.out.bel ys);clear ok1 OKY;generalize hv ys=bv at *;generalize hb ys=hbv at *;have MT:mt xf xr (2,ys,yf,yr,(yb:Int))=true:=by rw [mt_at,ATT.out];rfl
                     have NL2:Hid (cL h lt xf xr (m+1)=(lo || !hbv)):=Lib.hid (by rw [NL.out];unfold cl1;rw [MT,HS.2];rfl);have NV2:Hid (cV h lt xf xr u1 (m+1)=rs vv yb bv):=Lib.hid (by rw [NV.out];unfold cst;rw [if_pos MT,HS.1]);clear HS MT NL NV ATT;go_wp2_with fail;refine HE1.out.mono ?_;rintro e w10 ⟨rfl,b10⟩;have I2:=Lib.hid (I1.out.below b10);have YB2:Hid (_=some _):=Lib.hid ((b10.block _ (lt_of_block YB.out)).trans YB.out);clear k0 k1 I1 YB HE1 b10;go_upto_region 31 with fail
                     go_cut [19] from 135 to 190 (fun r wx=>Value.bool (lo || !hbv)=r∧w10=wx)
                     case first =>
                      cases lo with
                      | true =>
                        go_wp2
                        go_meet
                        exact ⟨rfl,rfl⟩
                      | false =>
                        go_wp2
                        go_meet
                        exact ⟨rfl,rfl⟩
                     case rest =>
                      obtain ⟨e1,e2⟩:=hcut;subst e1;subst e2;generalize (lo || !hbv)=lo2 at *;have k4:w10.cell? ⟨gy,4,none⟩=some (.int .i64 (yb:Int)):=row_cell YB2.out 4;have ir:=ix_rec gv yb hy4;have sc:w10.cell? ⟨gv,yb,none⟩=some (.int .u8 (rb vv yb)):=(row_cell I2.out.rv yb).trans (arr4_get vv hy4);have sf':=row_frozen I2.out.rv yb;have I3:=Lib.hid (I2.out.put hy4 bv);have hm1:=HM1.out;clear I2 YB2;go_wp2
                      go_roundw
                      case rel=>exact ⟨m+1,HM1.out,by go_num,by rw [NL2.out],by rw [NR2.out],by rw [NV2.out];exact I3⟩
                      case measure=>have:=HM1.out;simp [intOf];omega
                   ·have h2':(yk == 2)=false:=by simpa using h2
                    have NL2:Hid (cL h lt xf xr (m+1)=lo):=Lib.hid (by rw [NL.out];unfold cl1;rw [mt_at,decide_eq_false h2];simp);have NV2:Hid (cV h lt xf xr u1 (m+1)=vv):=Lib.hid (by rw [NV.out];unfold cst;rw [mt_at,decide_eq_false h2];simp);clear h2 NL NV;have hm1:=HM1.out;go_wp2
                    go_roundw
                    case rel=>exact ⟨m+1,HM1.out,by go_num,by rw [NL2.out],by rw [NR2.out],by rw [NV2.out];exact I1⟩
                    case measure=>have:=HM1.out;simp [intOf];omega
                 ·have ATF:at_ xf xr (yk,ys,yf,yr,yy)=false:=decide_eq_false hat
                  have NR2:Hid (cR lt xf xr (m+1)=ru):=Lib.hid (by rw [NR.out];unfold cr1;rw [ATF];simp);have NL2:Hid (cL h lt xf xr (m+1)=lo):=Lib.hid (by rw [NL.out];unfold cl1;rw [mt_at,ATF];simp);have NV2:Hid (cV h lt xf xr u1 (m+1)=vv):=Lib.hid (by rw [NV.out];unfold cst;rw [mt_at,ATF];simp);have hm1:=HM1.out
                  by_cases hyf:yf=xf
                  ·have p1:(yf != xf)=false:=by simp [hyf]
                   have p2:(yr != xr)=true:=by
                    have:¬ yr=xr:=fun e=>hat ⟨hyf,e⟩
                    simpa using this
                   clear hat hyf ATF NR NL NV;go_wp2
                   go_roundw
                   case rel=>exact ⟨m+1,HM1.out,by go_num,by rw [NL2.out],by rw [NR2.out],by rw [NV2.out];exact I1⟩
                   case measure=>have:=HM1.out;simp [intOf];omega
                  ·have p1:(yf != xf)=true:=by simpa using hyf
                   clear hat hyf ATF NR NL NV;go_wp2
                   go_roundw
                   case rel=>exact ⟨m+1,HM1.out,by go_num,by rw [NL2.out],by rw [NR2.out],by rw [NV2.out];exact I1⟩
                   case measure=>have:=HM1.out;simp [intOf];omega
               ·obtain rfl:m=nt:=by omega
                as_aux_lemma =>
                 have hi1:=HI1.out;generalize cV h lt xf xr u1 m=vv at *
                 cases hlo:cL h lt xf xr m with
                 | true =>
                   have FE:Hid (cR lt xf xr m=false→u2=u1):=Lib.hid (fun q=>by have:=FE0.out q;rwa [hlo,if_pos rfl] at this);clear hlo FE0;have C0:GxC b1 (o1+p) s1 gx (xk,xsl,xf,xr,xy) wr.drew:=⟨(KX.out.cell (World.block_lt_of_cell? _ _ X1.out)).trans X1.out,I.out.rx⟩;have N1:Hid (b1≠gv):=Lib.hid (by have:=World.block_lt_of_cell? _ _ X1.out;have:=I.out.gev;simp only at *;omega);go_upto_region 34 with fail;have ne:Nonempty (Sc.In (GxC b1 (o1+p) s1 gx (xk,xsl,xf,xr,xy))):=⟨⟨_,C0⟩⟩;have t0:=Sc.cell_in (C:=GxC b1 (o1+p) s1 gx (xk,xsl,xf,xr,xy)) (a:=⟨b1,o1+p,none⟩) (fun W' h=>h.s);have t1:=Sc.cell_in (C:=GxC b1 (o1+p) s1 gx (xk,xsl,xf,xr,xy)) (a:=⟨gx,2,none⟩) (v:=.int .i64 xf) (fun W' h=>row_cell h.x 2);have t3:=Sc.cell_in (C:=GxC b1 (o1+p) s1 gx (xk,xsl,xf,xr,xy)) (a:=⟨gx,3,none⟩) (v:=.int .i64 xr) (fun W' h=>row_cell h.x 3);have hpn:=HP1.out;refine Sc.start (GxC b1 (o1+p) s1 gx (xk,xsl,xf,xr,xy)) [(false,0),(false,1),(false,2),(false,3),(false,4),(false,5),(false,6),(false,7),(true,8),(false,9),(false,10),(false,11),(true,12)] (by kernel_rfl) (by kernel_rfl) (by kernel_rfl) C0 ?_;dsimp only [Sd.picks,List.getElem?_cons_succ,List.getElem?_cons_zero]
                   repeat (refine Sd.lit ?_;quiet_step (fail);refine wpQuiet_nil ?_)
                   have ID:=Lib.hid (I.out.below ((Below.refl wr.heap.size wr).drew));have CD:=Lib.hid C0;clear t0 t1 t3 C0 I KX t2;generalize wr.drew=V1 at *;refine Sd.call (by rfl) (fun K hK=>?_);go_simp;refine (G3.out _ ID.out.bel).mono ?_;rintro e V2 ⟨rfl,b2'⟩;have I2:=Lib.hid (ID.out.below b2');have C2:=Lib.hid (CD.out.below b2');refine hK _ _ (Sc.Cl.of C2.out) ?_;clear hK K b2' ID CD G3
                   repeat (refine Sd.lit ?_;quiet_step (fail);refine wpQuiet_nil ?_)
                   obtain ⟨d0,d1,d2,d3⟩:=rec_cells I2.out.rv;have f0:=row_frozen I2.out.rv 0;have f1:=row_frozen I2.out.rv 1;have f2:=row_frozen I2.out.rv 2;have f3:=row_frozen I2.out.rv 3;have C3:Hid (GxC b1 (o1+p) s1 gx (xk,xsl,xf,xr,xy) (Fl.sto4 V2 gv 0 u1)):=Lib.hid ⟨cell4 C2.out.s N1.out,(I2.out.setV u1).rx⟩;have I3:=Lib.hid (I2.out.setV u1);refine Sd.call (by rfl) (fun K hK=>?_);go_simp;refine hK _ (Fl.sto4 V2 gv 0 u1) (Sc.Cl.of C3.out) ?_;clear hK K d0 d1 d2 d3 f0 f1 f2 f3 C2 ne I2;refine Sd.done ?_;generalize Fl.sto4 V2 gv 0 u1=V3 at *;have CB:=Lib.hid I3.out.bel;clear C3
                   cases hru:cR lt xf xr m with
                   | true =>
                     clear FE;go_wp2
                     go_roundw
                     case rel=>exact ⟨i+1,HI1.out,by go_num,CB⟩
                     case measure=>have:=HI1.out;simp [intOf];omega
                   | false =>
                     have ev:=FE.out hru;subst ev;obtain ⟨a0',a1',a2',a3'⟩:=rec_cells I3.out.rv;obtain ⟨b0',b1',b2',b3'⟩:=rec_cells I3.out.ry;have es:∀ w,(Op.equalIn 10000 42 (.agg #[.int .u8 u2.1,.int .u8 u2.2.1,.int .u8 u2.2.2.1,.int .u8 u2.2.2.2]) (.agg #[.int .u8 u2.1,.int .u8 u2.2.1,.int .u8 u2.2.2.1,.int .u8 u2.2.2.2])).run Tryz.prog w = .ok true w:=fun w=>by
                      have:=Fl.eq_rec u2 u2 w
                      simpa using this
                     clear FE hru;go_wp2
                     go_roundw
                     case rel=>exact ⟨i+1,HI1.out,by go_num,CB⟩
                     case measure=>have:=HI1.out;simp [intOf];omega
                 | false =>
                   have FE:Hid (cR lt xf xr m=false→u2=vv):=Lib.hid (fun q=>by have:=FE0.out q;rwa [hlo,if_neg Bool.false_ne_true] at this);clear hlo FE0;have CB:=Lib.hid I.out.bel
                   cases hru:cR lt xf xr m with
                   | true =>
                     clear FE;go_wp2
                     go_roundw
                     case rel=>exact ⟨i+1,HI1.out,by go_num,CB⟩
                     case measure=>have:=HI1.out;simp [intOf];omega
                   | false =>
                     have ev:=FE.out hru;subst ev;obtain ⟨a0',a1',a2',a3'⟩:=rec_cells I.out.rv;obtain ⟨b0',b1',b2',b3'⟩:=rec_cells I.out.ry;have es:∀ w,(Op.equalIn 10000 42 (.agg #[.int .u8 u2.1,.int .u8 u2.2.1,.int .u8 u2.2.2.1,.int .u8 u2.2.2.2]) (.agg #[.int .u8 u2.1,.int .u8 u2.2.1,.int .u8 u2.2.2.1,.int .u8 u2.2.2.2])).run Tryz.prog w = .ok true w:=fun w=>by
                      have:=Fl.eq_rec u2 u2 w
                      simpa using this
                     clear FE hru;go_wp2
                     go_roundw
                     case rel=>exact ⟨i+1,HI1.out,by go_num,CB⟩
                     case measure=>have:=HI1.out;simp [intOf];omega
             ·have h2':(xk != 2)=true:=by simpa using h2
              clear h2 W1 G3 C;go_wp2
              go_roundw
              case rel=>exact ⟨i+1,HI1.out,by go_num,CB⟩
              case measure=>have:=HI1.out;simp [intOf];omega
       ·obtain rfl:i=nt:=by omega
        have hp1:=HP1.out;go_wp2
        go_roundw
        case rel=>exact ⟨p+1,HP1.out,by go_num,J⟩
        case measure=>have:=HP1.out;simp [intOf];omega
    ·obtain rfl:p=n:=by omega
     have BF:=Lib.hid (B2.out.trans (I.out.mono B2.out.size));have AW:=Lib.hid (wakes_any (HG.out.below BF.out));clear EA;go_wp2_with fail;refine AW.out.mono ?_;rintro e w5 ⟨rfl,b5⟩;have ZZ:=Lib.hid (BF.out.trans (b5.mono BF.out.size));go_wp2
     go_ret
     exact ⟨rfl,ZZ.out⟩
  ·have hne:(buE S T V O != 0)=true:=by simpa using hE
   have AW:=Lib.hid (wakes_any (HG.out.below B2.out));have ZE:buL S T V Q O = []:=if_neg hE;rw [ZE] at SA;obtain ⟨aa,ca,rfl,_⟩:=SA.out.slice;clear ST TB LV SP hE ZE;generalize buE S T V O=E at *;go_wp2_with fail;refine AW.out.mono ?_;rintro e v6 ⟨rfl,b6⟩;have ZZ:=Lib.hid (B2.out.trans (b6.mono B2.out.size));go_wp2
   go_ret
   exact ⟨rfl,ZZ.out⟩
end Go.Proofs.YtljnkaodhfnbbaaGreatDoor.Wp
