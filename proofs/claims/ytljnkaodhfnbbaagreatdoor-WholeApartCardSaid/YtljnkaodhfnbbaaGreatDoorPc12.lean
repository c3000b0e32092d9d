import Derived.Test.YtljnkaodhfnbbaaGreatDoorPc11
import Derived.Test.YtljnkaodhfnbbaaGreatDoorPc9
import Derived.Test.YtljnkaodhfnbbaaGreatDoorPc4
import Derived.Deep.Cut
import Derived.Test.YtljnkaodhfnbbaaGreatDoorPc10
import Derived.Shelf.SlSortCmp.QuietGrown
import Derived.Test.YtljnkaodhfnbbaaGreatDoorPc5
import Derived.Test.YtljnkaodhfnbbaaGreatDoorPc8
set_option maxRecDepth 100000
namespace Go.Proofs.YtljnkaodhfnbbaaGreatDoor.Wn
open Go.RowKit
open Rw (Rd Ow At)
open Fl (R4 K4 okL okR z4 row_cell row_frozen newL newP NewPost rnew_any hdr)
open Fs (Glob Ent Abs E3 Ls FilesPost)
open Re (KI fileL FilePost rfile_any)
open Pa (ptr sat vat)
open Ck (Hd sl zh)
open Cu (CH ch_do ch_files ch_role ch_new fls_of pls_of PlD KP Pls pls run_buildA run_buildB actE actC actV Syn OkC)
attribute [local irreducible] Sd.wpSd wpQuiet
def Wakes (w:World):Prop:=Glob w
theorem Wakes.below {w w':World} (h:Wakes w) (b:Below w.heap.size w w'):Wakes w':=Fs.Glob.below h b
theorem ok_new71:okL (newL 7 1):=by
 intro r h
 simp only [newL,List.mem_cons] at h
 rcases h with rfl | h
 ·unfold okR;decide
 ·have:r=z4:=(List.mem_replicate.1 h).2
  rw [this];exact Fl.okR_z
theorem two_plans {w:World} {c:PlD} (h:Pa.Fls w (sl c.files) c.F w.heap.size):Pls (w.alloc (.cells #[sl c.files,.int .i64 c.rate,sl c.files,.int .i64 c.rate] 60)) (.slice (some ⟨w.heap.size,0,none⟩) 2 2) [c,c] (w.alloc (.cells #[sl c.files,.int .i64 c.rate,sl c.files,.int .i64 c.rate] 60)).heap.size:=by
 have rd:=(Rw.Ow.lit (K:=KP) w w.heap.size 60 [c,c] (Nat.le_refl _) (by unfold maxLen;simp)).rd;have b:=(Below.refl w.heap.size w).alloc (Nat.le_refl _) (.cells #[sl c.files,.int .i64 c.rate,sl c.files,.int .i64 c.rate] 60);refine pls_of rd fun x hx=>?_;have e:x=c:=by
  rcases List.mem_cons.1 hx with h | h
  ·exact h
  ·exact List.mem_singleton.1 h
 rw [e];have f:=h.below b;exact fls_of f.rd fun y hy=>by
  obtain ⟨i,hi⟩:=List.getElem?_of_mem hy;have hl:=(List.getElem?_eq_some_iff.1 hi).1;have:=f.file i hl;unfold Pa.eatF at this;rw [List.getD_eq_getElem?_getD,hi] at this;exact this
theorem ok1:OkC (Cu.newC Cu.L1) 0:=Cu.new_ok Cu.new1 fun p hp e he=>by
 have:p=(Cu.A1,2000):=by
  rcases List.mem_cons.1 hp with h | h
  ·exact h
  ·exact List.mem_singleton.1 h
 subst this
 rcases List.mem_cons.1 he with h | h
 ·rw [h];exact ok_new71
 ·rw [List.mem_singleton.1 h];exact Re.ok_file Cu.seq0
theorem sy1:Syn (Cu.newC Cu.L1):=Cu.syn_new _ (by decide)
theorem okr7:okR Cu.r7:=by unfold okR;decide
theorem ok2:OkC Cu.d1 1:=by
 have:=ok1.act Cu.acW okr7;rw [Cu.g_write.2] at this;exact this
theorem sy2:Syn Cu.d1:=by
 have:=sy1.act ok1 Cu.acW;rw [Cu.g_write.2] at this;exact this
set_option maxHeartbeats 4000000 in
theorem wakes_any {w:World} (h:Wakes w):Calls Tryz.prog 28 #[] w fun e w'=>e = .returned (.bool true)∧Below w.heap.size w w':=by
 have HG:=Lib.hid h;clear h;have L1:Hid (Rd KI (w.alloc (.cells #[.int .i64 0] 3)) (.slice (some ⟨w.heap.size,0,none⟩) 1 1) [0]):=Lib.hid (Rw.Ow.lit (K:=KI) w w.heap.size 3 [0] (Nat.le_refl _) (by unfold maxLen;simp)).rd;have B1:=Lib.hid ((Below.refl w.heap.size w).alloc (Nat.le_refl _) (.cells #[.int .i64 0] 3))
 have C1:Hid (Calls Tryz.prog 58 #[.slice (some ⟨w.heap.size,0,none⟩) 1 1] (w.alloc (.cells #[.int .i64 0] 3)) fun e w'=>∃ a cap,e = .returned (.tuple #[.agg #[.int .i64 3,.slice a 2 cap],.int .i64 0])∧Rd K4 w' (.slice a 2 cap) (fileL [0])∧Below (w.alloc (.cells #[.int .i64 0] 3)).heap.size (w.alloc (.cells #[.int .i64 0] 3)) w'):=Lib.hid ((rfile_any _ _ [0] L1.out).mono fun e w' ⟨u,he,hu,hb⟩=>by
  have e1:Re.fL [0]=fileL [0]:=if_pos Cu.seq0;rw [e1] at hu;obtain ⟨a,cap,rfl,_⟩:=hu.slice
  exact ⟨a,cap,by rw [he];unfold Re.fP Re.fN;rw [if_pos Cu.seq0,if_pos Cu.seq0];rfl,hu,hb⟩)
 have C2:Hid (∀ W,Calls Tryz.prog 75 #[.int .i64 7,.int .i64 1] W fun e w'=>∃ a cap,e = .returned (.tuple #[.agg #[.int .i64 7,.slice a 2 cap],.int .i64 0])∧Rd K4 w' (.slice a 2 cap) (newL 7 1)∧Below W.heap.size W w'):=Lib.hid (fun W=>(rnew_any W 7 1).mono fun e w' ⟨v,he,hv,hb⟩=>by
  have hp:newP 7 1:=⟨by decide,by decide,by decide,by decide⟩;rw [if_pos hp] at hv;rw [if_pos hp,if_pos hp] at he;obtain ⟨a,cap,rfl,_⟩:=hv.slice
  exact ⟨a,cap,he,hv,hb⟩)
 go_enter Tryz.func28,Tryz.ntmps28
 go_wp2_with fail;refine C1.out.mono ?_;rintro e w2 ⟨fa,fc,rfl,r2,b2⟩;have B2:=Lib.hid (B1.out.trans (b2.mono B1.out.size));have X2:=Lib.hid (heap_alloc_new w2 (.cells #[.int .i64 3,.slice fa 2 fc] 70));have N2:=Lib.hid ((Below.refl w2.heap.size w2).alloc (Nat.le_refl _) (.cells #[.int .i64 3,.slice fa 2 fc] 70));have R2:=Lib.hid (r2.below N2.out);have B3:=Lib.hid (B2.out.trans (N2.out.mono B2.out.size));clear C1 L1 B1 r2 b2 B2 N2;go_upto_region 2 with fail;generalize (w2.alloc (.cells #[.int .i64 3,.slice fa 2 fc] 70))=w3 at *;generalize w2.heap.size=g1 at *;have D2:=Lib.hid (C2.out w3);clear C2;go_wp2_with fail;refine D2.out.mono ?_;rintro e w4 ⟨na,nc,rfl,r4,b4⟩;have X4:=Lib.hid (heap_alloc_new w4 (.cells #[.int .i64 7,.slice na 2 nc] 70));have N4:=Lib.hid ((Below.refl w4.heap.size w4).alloc (Nat.le_refl _) (.cells #[.int .i64 7,.slice na 2 nc] 70));have R4a:=Lib.hid (r4.below N4.out);have R5:=Lib.hid ((R2.out.below b4).below N4.out);have X5:=Lib.hid ((N4.out.block _ (Nat.lt_of_lt_of_le (lt_of_block X2.out) b4.size)).trans ((b4.block _ (lt_of_block X2.out)).trans X2.out));have B5:=Lib.hid ((B3.out.trans (b4.mono B3.out.size)).trans (N4.out.mono (Nat.le_trans B3.out.size b4.size)));clear D2 r4 b4 R2 X2 B3 N4;go_upto_region 3 with fail;generalize (w4.alloc (.cells #[.int .i64 7,.slice na 2 nc] 70))=w5 at *;generalize w4.heap.size=g2 at *;have x0:w5.cell? ⟨g2,0,none⟩=some (.int .i64 7):=row_cell X4.out 0;have x1:w5.cell? ⟨g2,1,none⟩=some (.slice na 2 nc):=row_cell X4.out 1;have y0:w5.cell? ⟨g1,0,none⟩=some (.int .i64 3):=row_cell X5.out 0;have y1:w5.cell? ⟨g1,1,none⟩=some (.slice fa 2 fc):=row_cell X5.out 1;have hBN:=Fs.run_buildN;have RE:Hid (Rd E3 (w5.alloc (.cells #[.int .i64 1,.int .i64 7,.slice na 2 nc,.int .i64 40,.int .i64 3,.slice fa 2 fc] 72)) (.slice (some ⟨w5.heap.size,0,none⟩) 2 2) [⟨1,7,na,nc,newL 7 1⟩,⟨40,3,fa,fc,fileL [0]⟩]):=Lib.hid (Rw.Ow.lit (K:=E3) w5 w5.heap.size 72 [⟨1,7,na,nc,newL 7 1⟩,⟨40,3,fa,fc,fileL [0]⟩] (Nat.le_refl _) (by unfold maxLen;simp)).rd;have B6:=Lib.hid ((Below.refl w5.heap.size w5).alloc (Nat.le_refl _) (.cells #[.int .i64 1,.int .i64 7,.slice na 2 nc,.int .i64 40,.int .i64 3,.slice fa 2 fc] 72));have Z6:Hid ((w5.alloc (.cells #[.int .i64 1,.int .i64 7,.slice na 2 nc,.int .i64 40,.int .i64 3,.slice fa 2 fc] 72)).heap.size=w5.heap.size+1):=Lib.hid (by simp);have B7:=Lib.hid (B6.out.alloc B6.out.size (.cells #[.slice (some ⟨w5.heap.size,0,none⟩) 2 2,.int .i64 2000] 60));have X7:Hid (((w5.alloc (.cells #[.int .i64 1,.int .i64 7,.slice na 2 nc,.int .i64 40,.int .i64 3,.slice fa 2 fc] 72)).alloc (.cells #[.slice (some ⟨w5.heap.size,0,none⟩) 2 2,.int .i64 2000] 60)).heap[w5.heap.size+1]? = some (.cells #[.slice (some ⟨w5.heap.size,0,none⟩) 2 2,.int .i64 2000] 60 (0,0))):=Lib.hid (by rw [← Z6.out];exact heap_alloc_new _ _)
 have FL:Hid (Pa.Fls ((w5.alloc (.cells #[.int .i64 1,.int .i64 7,.slice na 2 nc,.int .i64 40,.int .i64 3,.slice fa 2 fc] 72)).alloc (.cells #[.slice (some ⟨w5.heap.size,0,none⟩) 2 2,.int .i64 2000] 60)) (.slice (some ⟨w5.heap.size,0,none⟩) 2 2) [⟨1,7,na,nc,newL 7 1⟩,⟨40,3,fa,fc,fileL [0]⟩] ((w5.alloc (.cells #[.int .i64 1,.int .i64 7,.slice na 2 nc,.int .i64 40,.int .i64 3,.slice fa 2 fc] 72)).alloc (.cells #[.slice (some ⟨w5.heap.size,0,none⟩) 2 2,.int .i64 2000] 60)).heap.size):=Lib.hid (fls_of (RE.out.below ((Below.refl _ _).alloc (Nat.le_refl _) _)) fun c hc=>by
  rcases List.mem_cons.1 hc with h | h
  ·rw [h];exact ⟨R4a.out.below B7.out,ok_new71⟩
  ·rw [List.mem_singleton.1 h];exact ⟨R5.out.below B7.out,Re.ok_file Cu.seq0⟩)
 have BB:=Lib.hid (B5.out.trans (B7.out.mono B5.out.size));clear RE B6 Z6 B7 R4a R5 B5 X4 X5;go_upto_region 4 with fail;clear x0 x1 y0 y1 hBN;generalize ((w5.alloc (.cells #[.int .i64 1,.int .i64 7,.slice na 2 nc,.int .i64 40,.int .i64 3,.slice fa 2 fc] 72)).alloc (.cells #[.slice (some ⟨w5.heap.size,0,none⟩) 2 2,.int .i64 2000] 60))=w7 at *;generalize w5.heap.size=g5 at *;have x0:w7.cell? ⟨g5+1,0,none⟩=some (.slice (some ⟨g5,0,none⟩) 2 2):=row_cell X7.out 0;have x1:w7.cell? ⟨g5+1,1,none⟩=some (.int .i64 2000):=row_cell X7.out 1;have PL:=Lib.hid (two_plans (c:=⟨(some ⟨g5,0,none⟩,2,2),2000,[⟨1,7,na,nc,newL 7 1⟩,⟨40,3,fa,fc,fileL [0]⟩]⟩) FL.out);have NW:Hid (Calls Tryz.prog 12 #[.slice (some ⟨w7.heap.size,0,none⟩) 2 2] (w7.alloc (.cells #[.slice (some ⟨g5,0,none⟩) 2 2,.int .i64 2000,.slice (some ⟨g5,0,none⟩) 2 2,.int .i64 2000] 60)) fun e w'=>∃ s,e = .returned (.tuple #[.pointer (some ⟨s,0,none⟩),.int .i64 0])∧CH w s (Cu.newC Cu.L1) 0 w'):=Lib.hid (ch_new PL.out (w0:=w) Cu.new1 (BB.out.alloc BB.out.size _));clear FL PL BB X7;go_wp2_with fail;refine NW.out.mono ?_;rintro e w8 ⟨s,rfl,ch8⟩;have H8:=Lib.hid ch8
 have DW:Hid (Calls Tryz.prog 17 #[.pointer (some ⟨s,0,none⟩),.agg #[.int .i64 2,.int .i64 1,.int .i64 1,.int .i64 1,.int .u8 7,.int .u8 0,.int .u8 0,.int .u8 0,.int .i64 0,.int .i64 0,.int .i64 0]] w8 fun e w'=>e = .returned (.int .i64 0)∧CH w s Cu.d1 1 w'):=Lib.hid (by
  have:=ch_do H8.out HG.out ok1 sy1 (by decide) Cu.acW okr7 (WalkArith.wf_i64 (by decide));rw [Cu.g_write.1,Cu.g_write.2] at this
  exact this)
 have hA:=run_buildA;have hB:=run_buildB;clear NW ch8 x0 x1;go_wp2_with fail;refine DW.out.mono ?_;rintro e w9 ⟨rfl,ch9⟩;have H9:=Lib.hid ch9
 have DR:Hid (Calls Tryz.prog 17 #[.pointer (some ⟨s,0,none⟩),.agg #[.int .i64 1,.int .i64 0,.int .i64 0,.int .i64 0,.int .u8 0,.int .u8 0,.int .u8 0,.int .u8 0,.int .i64 0,.int .i64 0,.int .i64 0]] w9 fun e w'=>e = .returned (.int .i64 0)∧CH w s ⟨Cu.d1.S,[true,true],Wt.new,0,[]⟩ 2 w'):=Lib.hid (by
  have:=ch_do H9.out HG.out ok2 sy2 (by decide) Cu.acR Fl.okR_z (WalkArith.wf_i64 (by decide));rw [Cu.g_round.1,Cu.g_round.2] at this
  exact this)
 clear DW H8 ch9;go_wp2_with fail;refine DR.out.mono ?_;rintro e w10 ⟨rfl,ch10⟩;have H10:=Lib.hid ch10;have FI:=Lib.hid (ch_files H10.out (n:=1) (by decide));unfold FilesPost ptr at FI;clear DR H9 ch10 hA hB;go_wp2_with fail;refine FI.out.mono ?_;rintro e w11 ⟨v,rfl,hv,b11⟩;have H11:=Lib.hid (H10.out.below b11);obtain ⟨L,hL,eL⟩:=hv (fun _=>False) nofun;have EA:(sat (⟨Cu.d1.S,[true,true],Wt.new,0,[]⟩:Cu.Cs).S (1:Nat)).1=Cu.A2:=rfl;rw [EA] at eL;have hl:L.length=2:=by
  have:=congrArg List.length eL;rw [List.length_map] at this;exact this
 rcases L with _ | ⟨c,_ | ⟨d,_ | ⟨x,r⟩⟩⟩
 ·cases hl
 ·cases hl
 ·have ec:c.abs=(1,7,[hdr 7 1,Cu.r7]):=by injection eL
  have el:c.l = [hdr 7 1,Cu.r7]:=congrArg (fun x=>x.2.2) ec;obtain ⟨a,cap,rfl,_,_,h3⟩:=hL.rd;obtain ⟨b,off,rfl,hA⟩:=h3 (by simp);have c2:w11.cell? ⟨b,off+2,none⟩=some c.sl:=by
   have:=hA 0 (by simp) 2 c.sl rfl
   simpa [E3] using this
  obtain ⟨a2,cap2,e2,_,_,h4⟩:=hL.file c List.mem_cons_self;rw [el] at e2 h4;obtain ⟨b2,off2,rfl,hB⟩:=h4 (by simp);rw [e2] at c2;have y0:w11.cell? ⟨b2,off2+4,none⟩=some (.int .u8 7):=by have:=hB 1 (by simp) 0 _ rfl;simpa [K4,Cu.r7] using this
  have y1:w11.cell? ⟨b2,off2+4+1,none⟩=some (.int .u8 0):=by have:=hB 1 (by simp) 1 _ rfl;simpa [K4,Cu.r7] using this
  have y2:w11.cell? ⟨b2,off2+4+2,none⟩=some (.int .u8 0):=by have:=hB 1 (by simp) 2 _ rfl;simpa [K4,Cu.r7] using this
  have y3:w11.cell? ⟨b2,off2+4+3,none⟩=some (.int .u8 0):=by have:=hB 1 (by simp) 3 _ rfl;simpa [K4,Cu.r7] using this
  have es:∀ w,(Op.equalIn 10000 42 (.agg #[.int .u8 7,.int .u8 0,.int .u8 0,.int .u8 0]) (.agg #[.int .u8 7,.int .u8 0,.int .u8 0,.int .u8 0])).run Tryz.prog w = .ok true w:=fun w=>by
   have:=Fl.eq_rec (7,0,0,0) (7,0,0,0) w
   simpa using this
  have RO:=Lib.hid (ch_role H11.out 0);have BF:=Lib.hid H11.out.bel;unfold ptr at RO;clear FI H10 hv hL eL EA hl ec el hA hB e2 h3 h4 b11 H11;go_wp2_with fail;refine RO.out.mono ?_;rintro e w12 ⟨rfl,b12⟩;have E:=Lib.hid (BF.out.trans (b12.mono BF.out.size));clear RO b12 BF c2 y0 y1 y2 y3;go_wp2
  go_ret
  exact ⟨rfl,E.out⟩
 ·cases hl
end Go.Proofs.YtljnkaodhfnbbaaGreatDoor.Wn
namespace Go.Proofs.YtljnkaodhfnbbaaGreatDoor.Wi
open Go.RowKit Go.Sort Go.Proofs.YtljnkaodhfnbbaaGreatDoor.Sp
def PredN (g:Nat) (lb:Array Value) (f:Int→Bool) (n:Int) (w:World):Prop :=
 ∀ (W:World) (i:Int),0≤i→i < n→Below w.heap.size w W→Calls Tryz.prog g (#[.int .i64 i] ++ lb) W fun e w'=>e = .returned (.bool (f i))∧Below w.heap.size w w'
def Found (f:Int→Bool) (n r:Int):Prop:=0≤r∧r≤n∧(r < n→f r=true)∧(0 < r→f (r - 1)=false)
def FoundPost (w:World) (f:Int→Bool) (n:Int) (e:Ending) (w':World):Prop:=∃ r,e = .returned (.int .i64 r)∧Found f n r∧Below w.heap.size w w'
set_option maxHeartbeats 1000000 in
theorem search_any (w:World) (g:Nat) (lb:Array Value) (f:Int→Bool) (n:Int) (eg:∀ args w,(callFunc g args).run Tryz.prog w = .ok (.enter g args) w) (h0:0≤n) (h1:n≤4611686018427387904) (hp:PredN g lb f n w) :
 Calls Tryz.prog 91 #[.int .i64 n,.func (.func g) #[] lb] w (FoundPost w f n):=by
 have HP:=Lib.hid hp;clear hp
 go_enter Tryz.func91,Tryz.ntmps91
 go_wp2
 go_loopw [5,6] (fun i j wr=>∃ lo hi:Int,0≤lo∧lo≤hi∧hi≤n∧i = .int .i64 lo∧j = .int .i64 hi∧Hid (0 < lo→f (lo - 1)=false)∧Hid (hi < n→f hi=true)∧Hid (Below w.heap.size w wr)) (fun i j _=>(intOf j - intOf i).toNat)
 case atStart=>exact ⟨0,n,by omega,by omega,by omega,rfl,rfl,fun h=>by omega,fun h=>by omega,Below.refl _ _⟩
 case round =>
  obtain ⟨lo,hi,a0,a1,a2,rfl,rfl,il,ih,hb⟩:=hrel
  by_cases hlt:lo < hi
  ·have c:=HP.out wr ((lo+hi) / 2) (by omega) (by omega) hb.out
   cases hm:f ((lo+hi) / 2) with
   | true =>
     rw [hm] at c;have C:=Lib.hid c;have HM:=Lib.hid hm;clear c hm;go_wp2_with fail;refine C.out.mono ?_;rintro e w1 ⟨rfl,hb1⟩;have HB1:=Lib.hid hb1;clear hb1;go_wp2
     go_roundw
     case rel=>exact ⟨lo,(lo+hi) / 2,a0,by omega,by omega,rfl,rfl,il,fun _=>HM.out,HB1⟩
     case measure=>simp [intOf];omega
   | false =>
     rw [hm] at c;have C:=Lib.hid c;have HM:Hid (0 < (lo+hi) / 2+1→f ((lo+hi) / 2+1 - 1)=false):=fun _=>by rw [show (lo+hi) / 2+1 - 1=(lo+hi) / 2 by omega];exact hm
     clear c hm;go_wp2_with fail;refine C.out.mono ?_;rintro e w1 ⟨rfl,hb1⟩;have HB1:=Lib.hid hb1;clear hb1;go_wp2
     go_roundw
     case rel=>exact ⟨(lo+hi) / 2+1,hi,by omega,by omega,by omega,rfl,rfl,HM,ih,HB1⟩
     case measure=>simp [intOf];omega
  ·obtain rfl:lo=hi:=by omega
   go_wp2
   go_ret
   exact ⟨lo,rfl,⟨a0,a2,ih.out,il.out⟩,hb.out⟩
theorem plain_apart {x:List S2} (h:Plain x) {i j:Nat} (hij:i < j) (hj:j < x.length):tp x i < fr x j:=by
 have:=(List.pairwise_iff_getElem.1 h.2) i j (by omega) hj hij
 simpa [tp,fr,hj,show i < x.length by omega] using this
theorem plain_ticks {x:List S2} (h:Plain x) {i:Nat} (hi:i < x.length):fr x i < tp x i:=h.1 _ (mem_fr hi)
theorem plain_up {x:List S2} (h:Plain x) {i j:Nat} (hij:i≤j) (hj:j < x.length):tp x i≤tp x j∧fr x i≤fr x j:=by
 rcases Nat.lt_or_ge i j with c | c
 ·have a:=plain_apart h c hj
  have b:=plain_ticks h hj;have d:=plain_ticks h (show i < x.length by omega)
  omega
 ·rw [show i=j by omega];exact ⟨Int.le_refl _,Int.le_refl _⟩
noncomputable def hitB (x:List S2) (s:S2):Bool:=@decide (∃ t,(s.1≤t∧t < s.2)∧Low x t) (Classical.propDecidable _)
theorem hit_true {x:List S2} {s:S2} (h:∃ t,(s.1≤t∧t < s.2)∧Low x t):hitB x s=true:=by unfold hitB;exact @decide_eq_true _ (Classical.propDecidable _) h
theorem hit_false {x:List S2} {s:S2} (h:¬ ∃ t,(s.1≤t∧t < s.2)∧Low x t):hitB x s=false:=by unfold hitB;exact @decide_eq_false _ (Classical.propDecidable _) h
theorem of_hit {x:List S2} {s:S2} (h:hitB x s=true):∃ t,(s.1≤t∧t < s.2)∧Low x t:=by unfold hitB at h;exact @of_decide_eq_true _ (Classical.propDecidable _) h
def endF (x:List S2) (a:Int) (i:Int):Bool:=decide (a < tp x i.toNat)
theorem hit_no {x:List S2} {a b:Int} (h:¬ a < b):hitB x (a,b)=false:=hit_false fun ⟨t,h1,_⟩=>by simp at h1;omega
theorem hit_end {x:List S2} {a b r:Int} (hp:Plain x) (h:Found (endF x a) x.length r) (hr:¬ r < x.length):hitB x (a,b)=false:=hit_false fun ⟨t,h1,h2⟩=>by
 obtain ⟨i,hi,c1,c2⟩:=low_iff.1 h2;obtain ⟨f0,f1,_,f3⟩:=h;have e:=f3 (by omega)
 simp [endF] at e h1
 have:=(plain_up hp (show i≤r.toNat - 1 by omega) (by omega)).1
 omega
theorem hit_in {x:List S2} {a b r:Int} (hp:Plain x) (hab:a < b) (h:Found (endF x a) x.length r) (hr:r < x.length):hitB x (a,b)=decide (fr x r.toNat < b):=by
 obtain ⟨f0,f1,f2,f3⟩:=h;have e:=f2 hr
 simp [endF] at e
 have t:=plain_ticks hp (show r.toNat < x.length by omega)
 by_cases c:fr x r.toNat < b
 ·rw [decide_eq_true c]
  refine hit_true ⟨max a (fr x r.toNat),⟨by show a≤_;omega,by show _ < b;omega⟩,low_iff.2 ⟨r.toNat,by omega,by omega,by omega⟩⟩
 ·rw [decide_eq_false c]
  refine hit_false fun ⟨t,h1,h2⟩=>?_;obtain ⟨i,hi,c1,c2⟩:=low_iff.1 h2
  simp at h1
  rcases Nat.lt_or_ge i r.toNat with k | k
  ·have e3:=f3 (by omega)
   simp [endF] at e3
   have:=(plain_up hp (show i≤r.toNat - 1 by omega) (by omega)).1
   omega
  ·have:=(plain_up hp k hi).2
   omega
theorem idx_meet {x y l:List S2} (h:PlainOf y x):decide (0≤idx (hitB x) l)=meetB l y:=by
 rcases idx_cases (hitB x) l with ⟨i,hi,hp,_,e⟩ | ⟨hn,e⟩
 ·rw [e]
  obtain ⟨t,h1,h2⟩:=of_hit hp;rw [meetB_true ⟨t,low_iff.2 ⟨i,hi,h1⟩,(h.2 t).1 h2⟩]
  simp
 ·rw [e,meetB_false fun ⟨t,h1,h2⟩=>by
   obtain ⟨i,hi,k⟩:=low_iff.1 h1;have:=hn i hi;have hh:hitB x (fr l i,tp l i)=true:=hit_true ⟨t,k,(h.2 t).2 h2⟩;rw [hh] at this
   simp at this]
  simp
set_option maxHeartbeats 1000000 in
theorem mclos1_any (w:World) (bs bp:Nat) (a:Int) (v:Value) (x:List S2) (hs:w.cell? ⟨bs,0,none⟩=some (.int .i64 a)) (hv:w.cell? ⟨bp,0,none⟩=some v) (h:Sp w v x) :
 PredN 92 #[.pointer (some ⟨bs,0,none⟩),.pointer (some ⟨bp,0,none⟩)] (endF x a) x.length w:=fun W i i0 i1 hb=>by
 obtain ⟨k,rfl⟩:=Int.eq_ofNat_of_zero_le i0;have d1:=(hb.cell (World.block_lt_of_cell? _ _ hs)).trans hs;have d2:=(hb.cell (World.block_lt_of_cell? _ _ hv)).trans hv;have hk:k < x.length:=by omega
 obtain ⟨a1,cap,rfl,q1,q2,hA0⟩:=h.below hb;obtain ⟨b,off,rfl,hA⟩:=hA0 (by omega);have HA0:=Lib.hid hA0;clear hA0;have c2:=(hA k hk).2;have HA:=Lib.hid hA;have HB:=Lib.hid hb;clear hs hv h hA hb i0;unfold maxLen at q2;have e:endF x a (k:Int)=decide (a < tp x k):=rfl;rw [e];clear e;generalize hn:x.length=n at *;clear hn
 show Calls Tryz.prog 92 #[.int .i64 k,.pointer (some ⟨bs,0,none⟩),.pointer (some ⟨bp,0,none⟩)] W _
 go_enter Tryz.func92,Tryz.ntmps92
 go_wp2
 go_quiet (fail)
 go_wp2
 go_ret
 exact ⟨rfl,below_drewN HB.out _⟩
theorem below_grow {B:Nat} {a w:World} (h:Below B a w) (hB:B≤w.heap.size) (n:Nat) (os:Array Obj):Below B a (grow (w.drewN n) os):=by
 refine ⟨h.os,h.tape,h.output,?_,fun k hk=>?_⟩
 ·show a.heap.size≤(w.heap ++ os).size
  have:=h.size
  simp;omega
 ·show (w.heap ++ os)[k]? = _
  rw [Array.getElem?_append_left (by omega)];exact h.block k hk
theorem ticks_grow (w:World) (a b:Int) (r:Bool) (hr:decide (a < b)=r):Calls Tryz.prog 93 #[.agg #[.int .i64 a,.int .i64 b]] w fun e w'=>e = .returned (.bool r)∧∃ q os',w'=grow (w.drewN q) os':=by
 subst hr
 go_enter Tryz.func93,Tryz.ntmps93
 go_wp2
 go_ret
 exact ⟨rfl,0,_,by rw [alloc_eq_grow];rfl⟩
set_option maxHeartbeats 8000000 in
theorem mclos_any (w:World) (bp:Nat) (v:Value) (x:List S2) (hv:w.cell? ⟨bp,0,none⟩=some v) (h:Sp w v x) (hp:Plain x) (hlen:x.length < 1099511627776) :
 PredS 90 #[.pointer (some ⟨bp,0,none⟩)] (hitB x) w:=fun W a b hb=>by
 have eg:∀ args w,(callFunc 92 args).run Tryz.prog w = .ok (.enter 92 args) w:=enters_of Tryz.func92 (by kernel_rfl) rfl;have hlt:=World.block_lt_of_cell? _ _ hv;have hz:=hb.size;have hBW:bp < W.heap.size:=Nat.lt_of_lt_of_le hlt hz;have d:=(hb.cell hlt).trans hv;have hbW:Below W.heap.size W (W.alloc (.cells #[.int .i64 a,.int .i64 b] 186)):=(Below.refl _ _).alloc (Nat.le_refl _) _;have hS1:=(h.below hb).below hbW;have sc:=search_any (W.alloc (.cells #[.int .i64 a,.int .i64 b] 186)) 92 #[.pointer (some ⟨W.heap.size,0,none⟩),.pointer (some ⟨bp,0,none⟩)] (endF x a) x.length eg (by omega) (by omega)
  (mclos1_any _ W.heap.size bp a v x (by go_simp) (by go_simp) hS1)
 have SC:=Lib.hid sc;have HS1:=Lib.hid hS1;have HB:=Lib.hid (hb.alloc hz (.cells #[.int .i64 a,.int .i64 b] 186));have HPL:=Lib.hid hp;obtain ⟨a1,cap,rfl,q1,q2,_⟩:=h;clear sc hS1 hb hbW hv eg hp hlt;have hmf:∀ (fn:Fn) (first cap:Array Value) (w:World),(Instr.makeFunc fn first cap).run Tryz.prog w = .ok (.func fn first cap) w:=fun _ _ _ _=>rfl;unfold maxLen at q2;generalize hres:hitB x (a,b)=res;have HRES:=Lib.hid hres;clear hres
 show Calls Tryz.prog 90 #[.agg #[.int .i64 a,.int .i64 b],.pointer (some ⟨bp,0,none⟩)] W _
 go_enter Tryz.func90,Tryz.ntmps90
 go_wp2_with fail;refine SC.out.mono ?_;rintro e w1 ⟨r,rfl,hf,b1⟩;have HF:=Lib.hid hf;have r0:=hf.1;have r1:=hf.2.1;have x1:w1.cell? ⟨W.heap.size,0,none⟩=some (.int .i64 a):=(b1.cell (by simp)).trans (by go_simp);have x2:w1.cell? ⟨W.heap.size,1,none⟩=some (.int .i64 b):=(b1.cell (by simp)).trans (by go_simp);have x3:w1.cell? ⟨bp,0,none⟩=some (.slice a1 x.length cap):=(b1.cell (by simp;omega)).trans (by go_simp);have HS2:=Lib.hid (HS1.out.below b1);have HB1:=Lib.hid (HB.out.trans (b1.mono (by simp;omega)));have l1:=World.block_lt_of_cell? _ _ x1;have l2:=World.block_lt_of_cell? _ _ x2;have l3:=World.block_lt_of_cell? _ _ x3;clear hf b1 d;have mixed:Tryz.prog.follows .mixedOrders=true:=by kernel_rfl
 obtain ⟨k,rfl⟩:=Int.eq_ofNat_of_zero_le r0
 by_cases hab:a < b
 ·by_cases hk:k < x.length
  ·have hkz:(k:Int) < (x.length:Int):=by omega
   have hh:=hit_in (b:=b) HPL.out hab HF.out hkz;rw [Int.toNat_natCast,HRES.out] at hh;have HH:=Lib.hid hh;clear hh;obtain ⟨_,_,eq,_,_,hA0⟩:=HS2.out;injection eq with e1 e2 e3;subst e1 e3;obtain ⟨b',off,rfl,hA⟩:=hA0 (by omega);have c1:=(hA k hk).1;have l4:=World.block_lt_of_cell? _ _ c1;have HA:=Lib.hid hA;have HA0:=Lib.hid hA0;clear hA hA0;have HAB:=Lib.hid hab;clear hab;generalize hn:x.length=n at *;clear hn;have gc:=fun n' os'=>ticks_grow (grow (w1.drewN n') os') a b true (decide_eq_true HAB.out);have g1:=cell_grown l1 x1;have g2:=cell_grown l2 x2;have g3:=cell_grown l3 x3;have g4:=cell_grown l4 c1;have z1:=HB1.out.size;clear x1 x2 x3 l1 l2 l3 c1 l4;go_wp2_with fail
   go_quiet_grown (first | (go_at_call 93;refine Calls.grown_of (gc _ _)))
   go_wp2
   go_ret
   exact ⟨ret_bool HH.out.symm,below_grow HB1.out z1 _ _⟩
  ·have hh:=hit_end (b:=b) HPL.out HF.out (show ¬ (k:Int) < x.length by omega)
   rw [HRES.out] at hh;have HH:=Lib.hid hh;clear hh;have HAB:=Lib.hid hab;clear hab;have hkz:decide (k < x.length)=false:=by simp;omega
   generalize hn:x.length=n at *;clear hn;have gc:=fun n' os'=>ticks_grow (grow (w1.drewN n') os') a b true (decide_eq_true HAB.out);have g1:=cell_grown l1 x1;have g2:=cell_grown l2 x2;have g3:=cell_grown l3 x3;have z1:=HB1.out.size;clear x1 x2 x3 l1 l2 l3;go_wp2_with fail
   go_quiet_grown (first | (go_at_call 93;refine Calls.grown_of (gc _ _)))
   go_wp2
   go_ret
   exact ⟨ret_bool HH.out.symm,below_grow HB1.out z1 _ _⟩
 ·have hh:=hit_no (x:=x) hab
  rw [HRES.out] at hh;have HH:=Lib.hid hh;clear hh;have HAB:=Lib.hid hab;clear hab;generalize hn:x.length=n at *;clear hn;have gc:=fun n' os'=>ticks_grow (grow (w1.drewN n') os') a b false (decide_eq_false (show ¬ a < b by have:=HAB.out;omega));have g1:=cell_grown l1 x1;have g2:=cell_grown l2 x2;have g3:=cell_grown l3 x3;have z1:=HB1.out.size;clear x1 x2 x3 l1 l2 l3;go_wp2_with fail
  go_quiet_grown (first | (go_at_call 93;refine Calls.grown_of (gc _ _)))
  go_wp2
  go_ret
  exact ⟨ret_bool HH.out.symm,below_grow HB1.out z1 _ _⟩
set_option maxHeartbeats 1000000 in
theorem meet_any (w:World) (v u:Value) (l y:List S2) (hl:Sp w v l) (hy:Sp w u y) (hlen:y.length < 1099511627776):Calls Tryz.prog 34 #[v,u] w fun e w'=>e = .returned (.bool (meetB l y))∧Below w.heap.size w w':=by
 have eg:∀ args w,(callFunc 90 args).run Tryz.prog w = .ok (.enter 90 args) w:=enters_of Tryz.func90 (by kernel_rfl) rfl;have J:=Lib.hid (join_any (w.alloc (.cells #[u] 95)) _ [y] (rows_one hy) (by show 0+y.length < _;omega));have EG:=Lib.hid eg;have SL:=Lib.hid hl;obtain ⟨a,cap,rfl,_⟩:=hl.slice;obtain ⟨a',cap',rfl,_⟩:=hy.slice;generalize hres:meetB l y=res;have HRES:=Lib.hid hres;clear eg hl hy hres;have hmf:∀ (fn:Fn) (first cap:Array Value) (w:World),(Instr.makeFunc fn first cap).run Tryz.prog w = .ok (.func fn first cap) w:=fun _ _ _ _=>rfl
 go_enter Tryz.func34,Tryz.ntmps34
 go_wp2_with fail;refine J.out.mono ?_;rintro e w1 ⟨v1,x,rfl,hown,hj,b1⟩;have PO:=plain_one_of hj;have hxl:x.length < 1099511627776:=by have:=hj.len;have e:tot [y] [y].length=0+y.length:=rfl;omega
 have hsp:=hown.sp;have B1:Below w.heap.size w w1:=((Below.refl _ _).alloc (Nat.le_refl _) _).trans (b1.mono (by simp));have B2:Below w1.heap.size w1 (w1.alloc (.cells #[v1] 95)):=(Below.refl _ _).alloc (Nat.le_refl _) _;have C:=contains_any (w1.alloc (.cells #[v1] 95)) _ l 90 #[.pointer (some ⟨w1.heap.size,0,none⟩)] (hitB x) EG.out ((SL.out.below B1).below B2) (mclos_any _ w1.heap.size v1 x (by go_simp) (hsp.below B2) PO.1 hxl);rw [idx_meet PO,HRES.out] at C;have CC:=Lib.hid C;have BB:=Lib.hid (B1.trans (B2.mono B1.size));obtain ⟨a1,cap1,rfl,_⟩:=hsp.slice;clear hown hj b1 PO hxl hsp B1 B2 C;go_wp2_with fail;refine CC.out.mono ?_;rintro e w2 ⟨rfl,b2⟩;go_wp2
 go_ret
 exact ⟨rfl,BB.out.trans (b2.mono BB.out.size)⟩
end Go.Proofs.YtljnkaodhfnbbaaGreatDoor.Wi
namespace Go.Proofs.YtljnkaodhfnbbaaGreatDoor.Bu
open Go.RowKit Go.Maps
open Sp (S2 fr tp Sp)
open Rw (Rd Ow At)
open Wi (Plain PlainOf Low Made)
open Fs (Glob CopySt)
open Ro (may_len)
open Ck (LL lat tE RdL may_all)
open Pa (Sts Stl SAp PI Ns K2 KB KN ptr sat vat hr rdE rdL rdS rdS_at rdS_len hr_ok round_any RoundPost stl_nil apply_any ApPost copy_has sap_good sap_new infoN push_at wp_push_at HMap tab_each not_bad atB)
open Fl (row_cell)
attribute [local irreducible] Sd.wpSd wpQuiet
set_option maxHeartbeats 4000000 in
theorem bround_any {w:World} {vs vt vl vp vo:Value} {S:Sts} {T:LL} {V:List Bool} {P:List S2} {O:List Osc} (HS:Stl w vs S) (HT:RdL w vt T) (HV:Rd KB w vl V) (RP:Rd K2 w vp P) (HO:OsL w vo O) (hg:Glob w) (hd:∀ i,i < S.length→0≤(sat S i).2∧(sat S i).2 < 900000) :
 Calls Tryz.prog 30 #[vs,vt,vl,vp,vo] w (RoundPost w (buE S T V O) (buL S T V P O)):=by
 have RO:=Lib.hid (round_any HS HT HV RP hg hd);unfold RoundPost at RO;obtain ⟨sa,cs,rfl,ms⟩:=HS.slice;obtain ⟨oa,co,rfl,mo1,mo⟩:=HO.slice;unfold maxLen at ms mo;have OS:=Lib.hid HO;have HS0:=Lib.hid HS;have HT0:=Lib.hid HT;have HV0:=Lib.hid HV;have RP0:=Lib.hid RP;have GG:=Lib.hid hg;have DD:=Lib.hid hd;clear HS HT HV RP HO hg hd
 by_cases hE:rdE S T V=0
 ·obtain ⟨f1,f2,f3,f4,f5⟩:=rdE_zero hE
  have WILD:Hid (¬ (O.length=S.length∧calmLB O=true)→∀ w',Below w.heap.size w w'→RoundPost w (buE S T V O) (buL S T V P O) (.returned (.tuple #[.slice none 0 0,.int .i64 1])) w'):=Lib.hid (fun h w' b=>by
   obtain ⟨e1,e2⟩:=buE_wild (P:=P) hE h;rw [e1,e2]
   exact ⟨_,rfl,stl_nil w',b⟩)
  by_cases hl:O.length=S.length
  ·have CA:=Lib.hid (fun W b=>calm_any W _ O (OS.out.below (w':=W) b))
   cases hc:calmLB O with
   | false =>
     have WL:=Lib.hid (WILD.out (by rw [hc];simp));rw [hE] at RO;rw [hc] at CA;generalize buE S T V O=be at *;generalize buL S T V P O=bl at *;generalize rdL S T V P=rl at *;rw [hl] at CA ⊢;clear WILD OS HS0;generalize S.length=n at *
     go_enter Tryz.func30,Tryz.ntmps30
     go_wp2_with fail;refine RO.out.mono ?_;rintro e w1 ⟨v1,rfl,_,b1⟩;have C1:=Lib.hid (CA.out w1 b1);have B1:=Lib.hid b1;clear b1 CA RO;go_wp2_with fail;refine C1.out.mono ?_;rintro e w2 ⟨rfl,b2⟩;have RES:=Lib.hid (WL.out w2 (B1.out.trans (b2.mono B1.out.size)));clear b2 C1 WL;go_wp2
     go_ret2
     exact RES.out
   | true =>
     obtain ⟨e1,e2⟩:=buE_ok (P:=P) hE hl hc;have cl:=of_calmLB hc;have BN:Hid (Bn w (.slice sa S.length cs) vt vl vp (.slice oa O.length co) S T V P O):=Lib.hid ⟨⟨HS0.out,HT0.out,HV0.out,f3,f4,f5⟩,RP0.out,OS.out,hl,f2,cl⟩;have LN:=Lib.hid (fun W b=>line_any (BN.out.below (w':=W) b));have LQ:Hid (∀ l,LineP S T V P O l→∀ k:Nat,k < S.length→lis l l (osc O k)=hr S T V P):=Lib.hid (fun l h k hk=>lis_is f5 (by rw [hl,f3]) cl ⟨h.1,fun _=>Iff.rfl⟩ h.2 (osc_calm cl (by omega)));have LF:Hid (∀ l,LineP S T V P O l→l.length≤4294967297):=Lib.hid (fun l h=>plain_few h.1 fun u hu=>lowL_at ((h.2 u).1 hu));have CO:Hid (∀ k:Nat,k < S.length→(osc O k).calm):=Lib.hid (fun k hk=>osc_calm cl (by omega));have OH:=Lib.hid (hr_ok S T V P);rw [hE] at RO;rw [hc] at CA;rw [e1,e2];clear WILD HT0 HV0 RP0;generalize hr S T V P=h at *;have AT:=Lib.hid (fun i hi=>rdS_at S T V h (i:=i) hi);have RL:=Lib.hid (rdS_len S T V h);generalize rdS S T V h=S' at *;generalize rdL S T V P=rl at *;have HL:=Lib.hid hl;have F3:=Lib.hid f3;have F4:=Lib.hid f4;rw [hl] at CA LN BN ⊢;clear hl f3 f4 f5 e1 e2 cl hc hE;generalize hn:S.length=n at *;have HN:=Lib.hid hn;clear hn
     go_enter Tryz.func30,Tryz.ntmps30
     go_wp2_with fail;refine RO.out.mono ?_;rintro e w1 ⟨v1,rfl,_,b1⟩;have C1:=Lib.hid (CA.out w1 b1);have B1:=Lib.hid b1;clear b1 CA RO;go_wp2_with fail;refine C1.out.mono ?_;rintro e w2 ⟨rfl,b2⟩;have B2:=Lib.hid (B1.out.trans (b2.mono B1.out.size));have L2:=Lib.hid (LN.out w2 B2.out);clear b2 C1 B1 LN;go_wp2_with fail;refine L2.out.mono ?_;rintro e w3 ⟨v3,l,rfl,own3,lp,b3⟩;have BW:=Lib.hid (B2.out.trans (b3.mono B2.out.size));have SL3:=Lib.hid own3.sp;have LP:=Lib.hid lp;obtain ⟨la,lc,rfl,_⟩:=SL3.out.slice;clear own3 lp b3 L2 B2;generalize hll:l.length=ln at *;have HLL:=Lib.hid hll;clear hll;go_wp2
     rename World=>wA
     go_loopw [47,15] (fun i o wr2=>∃ (k:Nat) (ps:List Nat),k≤n∧i = .int .i64 k∧Hid (PI SAp 89 wA S' k o ps wr2)) (fun i _ _=>n - (intOf i).toNat)
     case atStart=>exact ⟨0,[],Nat.zero_le _,rfl,PI.start wA (Below.refl _ _)⟩
     case round =>
      obtain ⟨k,ps,hk,rfl,I⟩:=hrel;have BI:=Lib.hid (BW.out.trans (I.out.bel.mono BW.out.size));obtain ⟨av,cv,ev,_⟩:=I.out.own.slice;have OWN:=Lib.hid I.out.own;generalize ps.length=Lp at ev;subst ev
      by_cases hlt:k < n
      ·obtain ⟨b1,o1,c1,s,e1,cS,hS⟩:=BN.out.ns.st.one (k:=k) (by have:=HN.out;omega)
       rw [HN.out] at e1;injection e1 with e1 _ e2;subst e1 e2;obtain ⟨b2,o2,c2,at',ct,e2,cT,_,_⟩:=BN.out.ns.tb.one (k:=k) (by have:=F3.out;omega);have RT:=Lib.hid (BN.out.ns.tb.rd (k:=k) (by have:=F3.out;omega) e2 cT);rw [F3.out] at e2;subst e2;obtain ⟨a3,c3,e3,_,_,h3⟩:=BN.out.ns.lv;rw [F4.out] at e3;subst e3;obtain ⟨b3,o3,rfl,A3⟩:=h3 (by have:=F4.out;omega);have cV:=atB (A3.below BI.out) (i:=k) (by have:=F4.out;omega);rw [show V.getD k false=vat V k from rfl] at cV;obtain ⟨b4,o4,c4,a4,d4,e4,cO,_,s4⟩:=BN.out.os.one (k:=k) (by have:=HL.out;omega);rw [HL.out] at e4;injection e4 with e4 _ e5;subst e4 e5;have S4:=Lib.hid s4;have EA:=Lib.hid (AT.out k (by have:=HN.out;omega));have OKT:=Lib.hid (tab_each BN.out.ns.ok (k:=k) (by have:=F3.out;omega));have ML:=Lib.hid (may_len (may_all (not_bad BN.out.ns.ok) k (by have:=F3.out;omega)));have HS2:Hid (∀ W,Below w.heap.size w W→Pa.Has W s (sat S k)):=Lib.hid (fun W b=>by obtain ⟨F,h⟩:=hS;exact ⟨F,h.below b⟩);have CT:=Lib.hid cT;have CC:=Lib.hid cO;have lT:=World.block_lt_of_cell? _ _ cT;have lO:=World.block_lt_of_cell? _ _ cO;unfold ptr at cS;have sS:=(BI.out.cell (World.block_lt_of_cell? _ _ cS)).trans cS;have LN:=Lib.hid I.out.len;clear hS h3 A3 s4 cS cT cO
       cases hv:vat V k with
       | true =>
         rw [hv] at cV;rw [hv,if_pos rfl] at EA;have EQ:=Lib.hid (LQ.out l LP.out k hlt);have CK:=Lib.hid (CO.out k hlt);generalize hlk:(lat T k).length=lk at *;go_upto_region 12 with fail;clear cV sS;have sT:=Sc.cell_in (C:=fun W=>Below w.heap.size w W) (a:=⟨b2,o2+k,none⟩) (fun W' h=>(h.cell lT).trans CT.out);have sO:=Sc.cell_in (C:=fun W=>Below w.heap.size w W) (a:=⟨b4,o4+k,none⟩) (fun W' h=>(h.cell lO).trans CC.out);have BD:=Lib.hid (BI.out.trans ((Below.refl wr.heap.size wr).drew.mono BI.out.size));have ne:Nonempty (Sc.In (fun W=>Below w.heap.size w W)):=⟨⟨_,BD.out⟩⟩;have ID:=Lib.hid (I.out.below sap_good ((Below.refl wr.heap.size wr).drew));refine Sc.start (fun W=>Below w.heap.size w W) [(false,0),(false,1),(false,2),(false,3),(false,4),(false,5),(false,6),(false,7),(false,8),(false,9),(false,10),(true,11),(true,12),(true,13),(true,14),(false,15)] (by kernel_rfl) (by kernel_rfl) (by kernel_rfl) BD.out ?_;dsimp only [Sd.picks,List.getElem?_cons_succ,List.getElem?_cons_zero]
         repeat (refine Sd.lit ?_;quiet_step (fail);refine wpQuiet_nil ?_)
         clear sT sO;generalize wr.drew=Wd at *;have HD:=Lib.hid (heard_any (l:=l) (r:=osc O k) (SL3.out.below ID.out.bel) LP.out.1 (LF.out l LP.out) (S4.out.below BD.out) CK.out);rw [EQ.out] at HD;unfold HeardPost at HD;generalize (osc O k).n=on at *;refine Sd.call (by rfl) (fun K hK=>?_);go_simp;refine HD.out.mono ?_;rintro e w4 ⟨mb,rfl,hm,b4'⟩;have HM:=Lib.hid hm;have B4:=Lib.hid (BD.out.trans (b4'.mono BD.out.size));have I4:=Lib.hid (ID.out.below sap_good b4');refine hK _ _ (Sc.Cl.of B4.out) ?_;clear hK K b4' hm HD ID;have AP:=Lib.hid (apply_any (HS2.out w4 B4.out) (GG.out.below B4.out) (DD.out k (by omega)) (RT.out.below B4.out) (fun y hy=>(OKT.out y hy).1) (by have:=ML.out;omega) HM.out OH.out);unfold ApPost at AP;refine Sd.call (by rfl) (fun K hK=>?_);go_simp;refine AP.out.mono ?_;rintro e w5 ⟨g,F5,rfl,st5,lo5,b5⟩;have B5:=Lib.hid (B4.out.trans (b5.mono B4.out.size));refine hK _ _ (Sc.Cl.of B5.out) ?_;clear hK K;unfold ptr;refine Sd.call (by rfl) (fun K hK=>?_);go_simp;have BL:=b5.alloc b5.size (.cells #[.pointer (some ⟨g,0,none⟩)] 89);have I5:=Lib.hid (I4.out.below sap_good BL);have G5:Hid (SAp (w5.alloc (.cells #[.pointer (some ⟨g,0,none⟩)] 89)) g (sat S' k) (Value.slice av Lp cv).ownBlock):=Lib.hid (sap_good.below (by rw [EA.out];exact sap_new st5 lo5 I4.out.lt) ((Below.refl w5.heap.size w5).alloc (Nat.le_refl _) _));have N6:=Lib.hid (heap_alloc_new w5 (.cells #[.pointer (some ⟨g,0,none⟩)] 89));have B6:=Lib.hid (B5.out.alloc B5.out.size (.cells #[.pointer (some ⟨g,0,none⟩)] 89));refine hK _ _ (Sc.Cl.of B6.out) ?_;clear hK K st5 lo5 b5 I OWN AP BL I4 BD;generalize w5.heap.size=g5 at *;generalize (w5.alloc (.cells #[.pointer (some ⟨g,0,none⟩)] 89))=W6 at *;refine Sd.call (by rfl) (fun K hK=>?_);refine wp_push_at (K:=KN) Tryz.underlying78 infoN rfl (by omega) _ _ rfl wA.heap.size _ _ rfl I5.out.own _ g rfl ?d1 ?d2 ?d3 ?_
         case d1 =>
          intro j u hu
          match j,hu with
          | 0,hu=>simp [KN] at hu;subst hu;exact row_cell N6.out 0
          | j+1,hu=>simp [KN] at hu
         case d2=>rw [LN.out];omega
         case d3=>have:=I5.out.bel.size;exact this
         intro v' w6 o6 g6 h6
         have NEW:=Lib.hid (I5.out.push sap_good o6 g6 h6 G5.out);refine hK _ _ (Sc.Cl.of (BW.out.trans (NEW.out.bel.mono BW.out.size))) ?_;clear hK K o6 g6 h6 I5 G5 B5 B6 N6;obtain ⟨av',cv',ev',_⟩:=NEW.out.own.slice;generalize (ps ++ [g]).length=Lp' at ev';subst ev'
         repeat (refine Sd.lit ?_;quiet_step (fail);refine wpQuiet_nil ?_)
         refine Sd.done ?_;go_wp2
         go_roundw
         case rel=>exact ⟨k+1,ps ++ [g],by omega,by go_num,NEW⟩
         case measure=>simp [intOf];omega
       | false =>
         rw [hv] at cV;rw [hv,if_neg Bool.false_ne_true] at EA;have AP:=Lib.hid (copy_has (HS2.out wr BI.out));unfold CopySt at AP;generalize (lat T k).length=lk at *;generalize (osc O k).n=on at *;go_wp2_with fail;refine AP.out.mono ?_;rintro e w5 ⟨g,F5,rfl,st5,lo5,b5⟩;have BL:=b5.alloc b5.size (.cells #[.pointer (some ⟨g,0,none⟩)] 89);have I5:=Lib.hid (I.out.below sap_good BL);have G5:Hid (SAp (w5.alloc (.cells #[.pointer (some ⟨g,0,none⟩)] 89)) g (sat S' k) (Value.slice av Lp cv).ownBlock):=Lib.hid (sap_good.below (by rw [EA.out];exact sap_new st5 lo5 I.out.lt) ((Below.refl w5.heap.size w5).alloc (Nat.le_refl _) _));clear st5 lo5 b5 I OWN AP cV sS BL
         (try unfold ptr)
         go_wp2_with (at_builtin;refine push_at (K:=KN) Tryz.underlying78 infoN rfl (by omega) rfl _ _ rfl wA.heap.size _ _ rfl I5.out.own _ g rfl ?d1 ?d2 ?d3 ?_)
         case d1 =>
          intro j u hu
          match j,hu with
          | 0,hu=>simp [KN] at hu;subst hu;unfold ptr;go_simp
          | j+1,hu=>simp [KN] at hu
         case d2=>rw [LN.out];omega
         case d3=>have:=I5.out.bel.size;exact this
         intro v' w6 o6 g6 h6
         have NEW:=Lib.hid (I5.out.push sap_good o6 g6 (by simpa using h6) G5.out);clear o6 g6 h6 I5 G5;obtain ⟨av',cv',ev',_⟩:=NEW.out.own.slice;generalize (ps ++ [g]).length=Lp' at ev';subst ev';go_wp2
         go_roundw
         case rel=>exact ⟨k+1,ps ++ [g],by omega,by go_num,NEW⟩
         case measure=>simp [intOf];omega
      ·obtain rfl:k=n:=by omega
       have RES:Hid (RoundPost w 0 S' (.returned (.tuple #[.slice av Lp cv,.int .i64 0])) wr):=Lib.hid ⟨_,rfl,PI.stl (S:=S') (by rw [RL.out];exact I.out),BI.out⟩;clear I OWN;go_wp2
       go_ret2
       exact RES.out
  ·have WL:=Lib.hid (WILD.out fun h=>hl h.1)
   rw [hE] at RO;generalize buE S T V O=be at *;generalize buL S T V P O=bl at *;generalize rdL S T V P=rl at *;clear WILD OS HS0 DD;generalize S.length=n at *;generalize O.length=no at *;have hne:((no:Int) != (n:Int))=true:=by simp;omega
   go_enter Tryz.func30,Tryz.ntmps30
   go_wp2_with fail;refine RO.out.mono ?_;rintro e w1 ⟨v1,rfl,_,b1⟩;have RES:=Lib.hid (WL.out w1 b1);clear b1 RO WL;go_wp2
   go_ret2
   exact RES.out
 ·obtain ⟨e1,e2⟩:=buE_wrong (O:=O) (P:=P) hE
  rw [e1,e2];have hne:(rdE S T V != 0)=true:=by simpa using hE
  clear hE OS HS0 DD e1 e2;generalize rdE S T V=E at *;generalize rdL S T V P=rl at *;generalize S.length=n at *;generalize O.length=no at *
  go_enter Tryz.func30,Tryz.ntmps30
  go_wp2_with fail;refine RO.out.mono ?_;rintro e w1 ⟨v1,rfl,_,b1⟩;have RES:Hid (RoundPost w E [] (.returned (.tuple #[.slice none 0 0,.int .i64 E])) w1):=Lib.hid ⟨_,rfl,stl_nil w1,b1⟩;clear b1 RO;go_wp2
  go_ret2
  exact RES.out
end Go.Proofs.YtljnkaodhfnbbaaGreatDoor.Bu
namespace Go.Proofs.YtljnkaodhfnbbaaGreatDoor.Ck
open Go.RowKit
open Ro (E5 z5 eat ent K5 at5 eat_mem mayB mayP)
open Rw (Rd Ow At)
open Fl (ret_bool at_bool row_cell row_frozen file)
attribute [local irreducible] Sd.wpSd wpQuiet
set_option maxHeartbeats 4000000 in
theorem rsender_any (w:World) (v:Value) (L:LL) (s:Int) (R:RdL w v L):Calls Tryz.prog 36 #[v,.int .i64 s] w (WhoPost w (sN s L) (sE s L)):=by
 obtain ⟨a,cap,rfl,_,hm,hA⟩:=R;have HA:=Lib.hid hA;have HH:Hid (∀ k i w',Within (snd s) L k i→k < L.length→i < (lat L k).length→snd s k (eat (lat L k) i)=true→Below w.heap.size w w'→WhoPost w (sN s L) (sE s L) (.returned (.tuple #[.int .i64 (k:Int),ent (eat (lat L k) i)])) w'):=fun k i w' h hk hi hq b=>by
  obtain ⟨e1,e2⟩:=within_hit h hk hi hq;unfold sN sE;rw [e1,e2];exact ⟨rfl,b⟩
 have HM:Hid (∀ w',Ahead (snd s) L L.length→Below w.heap.size w w'→WhoPost w (sN s L) (sE s L) (.returned (.tuple #[.int .i64 (-1),ent z5])) w'):=fun w' h b=>by
  obtain ⟨e1,e2⟩:=ahead_end h;unfold sN sE;rw [e1,e2];exact ⟨rfl,b⟩
 clear hA;generalize sN s L=rn at *;generalize sE s L=re at *;unfold maxLen at hm;generalize hn:L.length=n at *;have HN:=Lib.hid hn;clear hn;have R0:Hid (RowE (w.alloc (.cells #[.int .i64 0,.int .i64 0,.int .i64 0,.int .i64 0,.int .i64 0] 87)) w.heap.size z5):=heap_alloc_new w _;have B0:=Lib.hid ((Below.refl w.heap.size w).alloc (Nat.le_refl _) (.cells #[.int .i64 0,.int .i64 0,.int .i64 0,.int .i64 0,.int .i64 0] 87))
 go_enter Tryz.func36,Tryz.ntmps36
 go_wp2;generalize w.alloc (.cells #[.int .i64 0,.int .i64 0,.int .i64 0,.int .i64 0,.int .i64 0] 87)=w0 at *
 go_loopw [6] (fun i wr=>∃ k:Nat,k≤n∧i = .int .i64 k∧Hid (RowE wr w.heap.size z5)∧Hid (Below w.heap.size w wr)∧Hid (Ahead (snd s) L k)) (fun i _=>n - (intOf i).toNat)
 case atStart=>exact ⟨0,Nat.zero_le _,rfl,R0,B0,ahead_zero⟩
 case round =>
  obtain ⟨k,hk,rfl,rr,bw,hs⟩:=hrel
  by_cases hlt:k < n
  ·obtain ⟨b,off,rfl,A⟩:=HA.out (by omega)
   obtain ⟨u,c,a',cap',rfl,_,hm',hA'⟩:=A k hlt;have HC:=Lib.hid c;have HA':=Lib.hid hA';have HAA:=Lib.hid A;have HK:=Lib.hid (show k < L.length by rw [HN.out];exact hlt);clear hA' c A;unfold maxLen at hm';generalize hl:(lat L k).length=m at *;have HL:=Lib.hid hl;clear hl;have W0:=Lib.hid (within_zero hs.out);clear hs;go_wp2
   go_loopw [7] (fun i wr=>∃ j:Nat,j≤m∧i = .int .i64 j∧Hid (RowE wr w.heap.size z5)∧Hid (Below w.heap.size w wr)∧Hid (Within (snd s) L k j)) (fun i _=>m - (intOf i).toNat)
   case atStart=>exact ⟨0,Nat.zero_le _,rfl,rr,bw,W0⟩
   case round =>
    clear rr bw W0;obtain ⟨j,hj,rfl,rr,bw,hs⟩:=hrel;have lc:b < w.heap.size:=World.block_lt_of_cell? _ _ HC.out;have c':=(bw.out.cell lc).trans HC.out
    by_cases hjt:j < m
    ·obtain ⟨b',off',rfl,A'⟩:=HA'.out (by omega)
     have at0:=at5 A' j (by rw [HL.out];exact hjt);rw [show (lat L k).getD j z5=eat (lat L k) j from rfl] at at0;have YES:=Lib.hid (fun w' h hb=>HH.out k j w' hs.out (by have:=HK.out;rw [HN.out] at this;exact this) (by rw [HL.out];exact hjt) h hb);have NO:=Lib.hid (fun h=>within_next hs.out (by rw [HL.out];exact hjt) h);have PY:=fun h1 h2=>snd_yes (s:=s) (n:=k) (x:=eat (lat L k) j) h1 h2;have PN:=fun h=>snd_no (s:=s) (n:=k) (x:=eat (lat L k) j) h;have HAA':=Lib.hid A';clear A' hs;generalize eat (lat L k) j=x at *;obtain ⟨x1,x2,x3,x4,x5⟩:=x;simp only at PY PN at0;generalize snd s k (x1,x2,x3,x4,x5)=q at *;obtain ⟨i0,i1,i2,i3,i4⟩:=at0;have l0:b' < w.heap.size:=World.block_lt_of_cell? _ _ i0;have c0:=(bw.out.cell l0).trans i0;have c1:wr.cell? ⟨b',off'+j * 5+1,none⟩=_:=(bw.out.cell l0).trans i1;have II:=Lib.hid (And.intro (And.intro i0 i1) (And.intro (And.intro i2 i3) i4));clear i0 i1 i2 i3 i4
     by_cases hq:x1=1∧x2=s
     ·have Y:=Lib.hid (fun w' hb=>YES.out w' (PY hq.1 hq.2) hb)
      have h1:(x1 == 1)=true:=by simpa using hq.1
      have h2:(x2 == s)=true:=by simpa using hq.2
      clear PY PN YES NO hq;go_upto_region 8 with fail;clear c0 c1 c' h1 h2;have C0:Below w.heap.size w wr.drew:=bw.out.drew;have ne:Nonempty (Sc.In (fun W=>Below w.heap.size w W)):=⟨⟨_,C0⟩⟩;have k0:=Sc.cell_in (C:=fun W=>Below w.heap.size w W) (a:=⟨b,off+k,none⟩) (v:=.slice (some ⟨b',off',none⟩) m cap') (fun W h=>(h.cell lc).trans HC.out);have x0:=Sc.cell_in (C:=fun W=>Below w.heap.size w W) (a:=⟨b',off'+j * 5,none⟩) (v:=.int .i64 x1) (fun W h=>(h.cell l0).trans II.out.1.1);have x1':=Sc.cell_in (C:=fun W=>Below w.heap.size w W) (a:=⟨b',off'+j * 5+1,none⟩) (v:=.int .i64 x2) (fun W h=>(h.cell l0).trans II.out.1.2);have x2':=Sc.cell_in (C:=fun W=>Below w.heap.size w W) (a:=⟨b',off'+j * 5+2,none⟩) (v:=.int .i64 x3) (fun W h=>(h.cell l0).trans II.out.2.1.1);have x3':=Sc.cell_in (C:=fun W=>Below w.heap.size w W) (a:=⟨b',off'+j * 5+3,none⟩) (v:=.int .i64 x4) (fun W h=>(h.cell l0).trans II.out.2.1.2);have x4':=Sc.cell_in (C:=fun W=>Below w.heap.size w W) (a:=⟨b',off'+j * 5+4,none⟩) (v:=.int .i64 x5) (fun W h=>(h.cell l0).trans II.out.2.2);refine Sc.start (fun W=>Below w.heap.size w W) [(false,0),(false,1),(false,2),(false,3),(false,4),(false,5),(false,6),(false,7),(false,8),(true,9)] (by kernel_rfl) (by kernel_rfl) (by kernel_rfl) C0 ?_;dsimp only [Sd.picks,List.getElem?_cons_succ,List.getElem?_cons_zero]
      iterate 9 (refine Sd.lit ?_;quiet_step (fail);refine wpQuiet_nil ?_)
      refine Sd.call (by rfl) (fun K hK=>?_);clear k0 x0 x1' x2' x3' x4' ne;have R2:Hid (RowE wr.drew w.heap.size z5):=Lib.hid rr.out;clear rr bw;generalize wr.drew=W2 at *;have d0:W2.cell? ⟨w.heap.size,0,none⟩=some (.int .i64 0):=row_cell R2.out 0;have d1:W2.cell? ⟨w.heap.size,1,none⟩=some (.int .i64 0):=row_cell R2.out 1;have d2:W2.cell? ⟨w.heap.size,2,none⟩=some (.int .i64 0):=row_cell R2.out 2;have d3:W2.cell? ⟨w.heap.size,3,none⟩=some (.int .i64 0):=row_cell R2.out 3;have d4:W2.cell? ⟨w.heap.size,4,none⟩=some (.int .i64 0):=row_cell R2.out 4;have f0:W2.frozen? ⟨w.heap.size,0,none⟩=false:=row_frozen R2.out 0;have f1:W2.frozen? ⟨w.heap.size,1,none⟩=false:=row_frozen R2.out 1;have f2:W2.frozen? ⟨w.heap.size,2,none⟩=false:=row_frozen R2.out 2;have f3:W2.frozen? ⟨w.heap.size,3,none⟩=false:=row_frozen R2.out 3;have f4:W2.frozen? ⟨w.heap.size,4,none⟩=false:=row_frozen R2.out 4;have R3:Hid (RowE (sto5 W2 w.heap.size (x1,x2,x3,x4,x5)) w.heap.size (x1,x2,x3,x4,x5)):=Lib.hid (sto5_row (y:=z5) R2.out _);have B3:=sto5_below (g:=w.heap.size) (x:=(x1,x2,x3,x4,x5)) C0 (Nat.le_refl _);clear C0 R2;go_simp;refine hK _ _ (Sc.Cl.of B3) ?_;have B4:=Lib.hid B3;clear hK K d0 d1 d2 d3 d4 f0 f1 f2 f3 f4 B3;refine Sd.done ?_
      show Exit.then _ _ _ _ (sto5 W2 w.heap.size (x1,x2,x3,x4,x5))
      generalize sto5 W2 w.heap.size (x1,x2,x3,x4,x5)=wS at *;go_wp2
      (try simp only [Exit.inBlock,Exit.then])
      exact bodyPost_ret (v:=.tuple #[.int .i64 (k:Int),ent (x1,x2,x3,x4,x5)]) (results_who (p:=5) (r:=4) rfl _ _ w.heap.size k _ rfl rfl R3.out) rfl (Y.out _ B4.out)
     ·have ST:=Lib.hid (NO.out (PN hq))
      clear PY PN YES NO
      by_cases h1:x1=1
      ·have h2:(x2 == s)=false:=by simpa [h1] using hq
       have h1':(x1 == 1)=true:=by simpa using h1
       clear hq h1;go_wp2
       go_roundw
       case rel=>exact ⟨j+1,by omega,by go_num,rr,bw,ST⟩
       case measure=>simp [intOf];omega
      ·have h1':(x1 == 1)=false:=by simpa using h1
       clear hq h1;go_wp2
       go_roundw
       case rel=>exact ⟨j+1,by omega,by go_num,rr,bw,ST⟩
       case measure=>simp [intOf];omega
    ·obtain rfl:j=m:=by omega
     have ST:=Lib.hid (within_end (by rw [HL.out];exact hs.out) HK.out);clear hs;go_wp2
     go_roundw
     case rel=>exact ⟨k+1,by omega,by go_num,rr,bw,ST⟩
     case measure=>simp [intOf];omega
  ·obtain rfl:k=n:=by omega
   have d0:wr.cell? ⟨w.heap.size,0,none⟩=some (.int .i64 0):=row_cell rr.out 0;have d1:wr.cell? ⟨w.heap.size,1,none⟩=some (.int .i64 0):=row_cell rr.out 1;have d2:wr.cell? ⟨w.heap.size,2,none⟩=some (.int .i64 0):=row_cell rr.out 2;have d3:wr.cell? ⟨w.heap.size,3,none⟩=some (.int .i64 0):=row_cell rr.out 3;have d4:wr.cell? ⟨w.heap.size,4,none⟩=some (.int .i64 0):=row_cell rr.out 4;have f0:wr.frozen? ⟨w.heap.size,0,none⟩=false:=row_frozen rr.out 0;have f1:wr.frozen? ⟨w.heap.size,1,none⟩=false:=row_frozen rr.out 1;have f2:wr.frozen? ⟨w.heap.size,2,none⟩=false:=row_frozen rr.out 2;have f3:wr.frozen? ⟨w.heap.size,3,none⟩=false:=row_frozen rr.out 3;have f4:wr.frozen? ⟨w.heap.size,4,none⟩=false:=row_frozen rr.out 4;have R3:Hid (RowE (sto5 wr w.heap.size z5) w.heap.size z5):=Lib.hid (sto5_row (y:=z5) rr.out z5);have B3:=Lib.hid (sto5_below (g:=w.heap.size) (x:=z5) bw.out (Nat.le_refl _));have E:=Lib.hid (HM.out _ hs.out B3.out);go_wp2
   (try simp only [Exit.inBlock,Exit.then])
   exact bodyPost_ret (v:=.tuple #[.int .i64 (-1),ent z5]) (results_who (p:=5) (r:=4) rfl _ _ w.heap.size (-1) z5 rfl rfl R3.out) rfl E.out
end Go.Proofs.YtljnkaodhfnbbaaGreatDoor.Ck
namespace Go.Proofs.YtljnkaodhfnbbaaGreatDoor.Wp
open Go.RowKit Go.Maps
open Fs (Abs Glob)
open Rw (Rd Ow At)
open Sp (S2 Sp)
open Wi (Plain PlainOf Low Made lowB lowB_iff lowB_false meetB meetB_false meet_any high_any)
open Ck (LL lat RdL sN sE rsender_any WhoPost)
open Ro (E5 ent)
open Pa (Sts Stl K2 KB Cel Cls sat vat snB sbN rdE rdL RoundPost stl_nil cut_any)
open Fl (row_cell row_frozen ret_bool)
open Bu (Osc OsL osc LowJ LowK lowJ_no lowJ_apart lowJ_at lowK_in frs buE buE_zero rdE_zero bround_any sends_any Bn SendP calmL plain_few)
open Tk (Glo)
open Wn (Wakes wakes_any)
noncomputable def oB (T:LL) (o:Osc) (i t s:Int):Bool:=decide (sN s T=i) && decide (Glo o.A o.R o.n (224 * s)≤t) && decide (t < Glo o.A o.R o.n (224 * s+224))
noncomputable def onB (T:LL) (o:Osc) (i t:Int):Nat→Bool
 | 0=>false
 | k+1=>onB T o i t k || oB T o i t ((k:Int)+1)
theorem on_up {T:LL} {o:Osc} {i t:Int} {j:Nat} : ∀ {k:Nat},j≤k→onB T o i t j=true→onB T o i t k=true
 | 0,h,g=>by obtain rfl:j=0:=by omega
             exact g
 | k+1,h,g=>by
   by_cases e:j=k+1
   ·subst e;exact g
   ·show (onB T o i t k || _)=true
    rw [on_up (k:=k) (by omega) g]
    rfl
theorem own_all {S:Sts} {T:LL} {V:List Bool} {P:List S2} {O:List Osc} {i t:Int} (hi:0≤i) (h:LowJ S T V P O i t):onB T (osc O i) i t 16=true∧vat V i=true:=by
 obtain ⟨k,h1,h16,e,hk⟩:=h;have hs:=lowJ_no hi e;have hN:sN k T=i:=by unfold sbN at e;rw [if_pos hs] at e;exact e
 have hf:frs S T V P O k=some (osc O i,Pa.frF S T V P k):=by unfold frs;rw [if_pos hs,hN]
 obtain ⟨a,b⟩:=lowK_in hf hk;unfold Osc.g at a b;have b2:=Se.Glo_mono (A:=(osc O i).A) (R:=(osc O i).R) (n:=(osc O i).n) (show 224 * (k:Int)+176≤224 * k+224 by omega);refine ⟨on_up (j:=k) h16 ?_,?_⟩
 ·obtain ⟨m,rfl⟩:∃ m,k=m+1:=⟨k - 1,by omega⟩
  show (onB T (osc O i) i t m || oB T (osc O i) i t ((m:Int)+1))=true
  have e2:((m+1:Nat):Int)=(m:Int)+1:=by omega
  rw [e2] at hN a b b2;unfold oB;rw [decide_eq_true hN,decide_eq_true a,decide_eq_true (show t < Glo (osc O i).A (osc O i).R (osc O i).n (224 * ((m:Int)+1)+224) by omega)]
  simp
 ·unfold snB at hs
  rw [hN] at hs;simp only [Bool.and_eq_true] at hs;exact hs.1.2
set_option maxHeartbeats 16000000 in
theorem wapart_any {w:World} (hg:Wakes w) (hgl:Glob w) {v vp:Value} {L:List Cel} {P:List S2} (H:Cls w v L) (RP:Rd K2 w vp P) (t:Int) (ht:0≤t∧t≤65535):Calls Tryz.prog 9 #[v,vp,.int .u16 t] w fun e w'=>e = .returned (.bool true)∧Below w.heap.size w w':=by
 have HG:=Lib.hid hg;have HGL:=Lib.hid hgl;have BD:=Lib.hid (build_any H);unfold BldPost at BD;have RP0:=Lib.hid RP;obtain ⟨a0,cap0,rfl,_⟩:=H.rd;obtain ⟨ap,cp,rfl,⟨mp1,_⟩,mp,hP3⟩:=RP;have HP3:=Lib.hid hP3;clear hP3;unfold maxLen at mp;generalize hlp:P.length=lp at *;have HLP:=Lib.hid hlp;clear hlp;obtain ⟨ht0,ht1⟩:=ht;clear H hg hgl;generalize L.length=n0 at *
 go_enter Tryz.func9,Tryz.ntmps9
 go_wp2_with fail;refine BD.out.mono ?_;rintro e w1 ⟨vs,vt,vl,vo,S,T,V,O,n,rfl,B,b1⟩;have B1:=Lib.hid b1;have SL:=Lib.hid B.s;have ST1:=Lib.hid B.st;have TB1:=Lib.hid B.tb;have LV1:=Lib.hid B.lv;have OS1:=Lib.hid B.os;have SP1:=Lib.hid (RP0.out.below b1);have FEW:=Lib.hid B.few
 have RO:=Lib.hid (bround_any (w:=w1) B.st B.tb B.lv (Rw.Rd.nil _) B.os (HGL.out.below b1) (fun i hi=>by
  have:=B.den i (by rw [← B.s];exact hi);rw [this]
  exact ⟨by decide,by decide⟩))
 unfold RoundPost at RO;clear B b1 BD
 go_upto_if 33 with fail
 go_cut [11] from 23 to 124 (fun x wx=>(∃ (b1:Option Addr) (m c1:Nat),Value.slice b1 m c1=x∧Hid (Rd K2 w1 (.slice b1 m c1) (P.take 20)))∧w1=wx)
 case first =>
  by_cases h20:20 < lp
  ·obtain ⟨b',off',rfl,_⟩:=HP3.out (by omega)
   have Q:Hid (Rd K2 w1 (.slice (some ⟨b',off',none⟩) 20 cp) (P.take 20)):=Lib.hid (cut_any SP1.out rfl (by have:=HLP.out;omega) (by omega));have h20':(20:Int) < lp:=by omega
   clear RO HP3;go_wp2
   go_meet
   exact ⟨⟨_,_,_,rfl,Q⟩,rfl⟩
  ·have Q:Hid (Rd K2 w1 (.slice ap lp cp) (P.take 20)):=Lib.hid (by rw [List.take_of_length_le (by have:=HLP.out;omega)];exact SP1.out)
   have h20':¬ (20:Int) < lp:=by omega
   clear RO HP3;go_wp2
   go_meet
   exact ⟨⟨_,_,_,rfl,Q⟩,rfl⟩
 case rest =>
  obtain ⟨⟨q1,q2,q3,e1,SP0⟩,e2⟩:=hcut;subst e1;subst e2;clear SP1 HP3;have RO:=RO.out;go_wp2_with fail;refine RO.mono ?_;rintro e w2 ⟨va,rfl,_,b2⟩;have B2:=Lib.hid (B1.out.trans (b2.mono B1.out.size));have ST:=Lib.hid (ST1.out.below b2);have TB:=Lib.hid (TB1.out.below b2);have LV:=Lib.hid (LV1.out.below b2);have OS:=Lib.hid (OS1.out.below b2);have SP:=Lib.hid (SP0.out.below b2);clear RO b2 B1 ST1 TB1 LV1 OS1 SP0
  by_cases hE:buE S T V O=0
  ·obtain ⟨z1,z2,z3,_⟩:=buE_zero (P:=[]) hE
   obtain ⟨_,_,y1,y2,y3⟩:=rdE_zero z1;have SN:Hid (∀ W (j:Int),Below w2.heap.size w2 W→Calls Tryz.prog 33 #[vs,vt,vl,.slice q1 q2 q3,vo,.int .i64 j] W (Made W (SendP S T V (P.take 20) O j))):=Lib.hid (fun W j b=>sends_any (⟨⟨ST.out.below b,TB.out.below b,LV.out.below b,y1,y2,y3⟩,SP.out.below b,OS.out.below b,z2,by have:=FEW.out;have:=SL.out;omega,z3⟩:Bn W vs vt vl _ vo S T V (P.take 20) O) j);unfold Made at SN;have lo:O.length=T.length:=by rw [z2,y1]
   have AP:Hid (∀ (i j:Nat) x y,j < i→SendP S T V (P.take 20) O i x→SendP S T V (P.take 20) O j y→meetB x y=false):=Lib.hid (fun i j x y h hx hy=>meetB_false fun ⟨u,h1,h2⟩=>lowJ_apart y3 lo z3 (show (i:Int)≠j by omega) ⟨(hx.2 u).1 h1,(hy.2 u).1 h2⟩)
   have LEN:Hid (∀ j x,SendP S T V (P.take 20) O j x→x.length < 1099511627776):=Lib.hid (fun j x hx=>by
    have:=plain_few hx.1 fun u h=>lowJ_at ((hx.2 u).1 h)
    omega)
   have OWN:Hid (∀ (i:Nat) x,SendP S T V (P.take 20) O i x→lowB x t=true→onB T (osc O i) i t 16=true∧vat V i=true):=Lib.hid (fun i x hx h=>own_all (by omega) ((hx.2 t).1 (lowB_iff.1 h)));have OL:Hid (O.length=n):=Lib.hid (by have:=SL.out;omega);have VL:Hid (V.length=n):=Lib.hid (by have:=SL.out;omega)
   have CM:Hid (∀ i:Nat,i < n→Tk.GoodP (osc O i).n (osc O i).A (osc O i).R):=Lib.hid (fun i hi=>by
    have hm:osc O i∈O:=by
     unfold osc;rw [Int.toNat_natCast,List.getD_eq_getElem?_getD,List.getElem?_eq_getElem (by have:=OL.out;omega)];exact List.getElem_mem _
    exact (z3 _ hm).good)
   rw [hE];obtain ⟨sa,sc,rfl,sm⟩:=ST.out.slice;have sl:=SL.out;unfold maxLen at sm;rw [sl] at SN ⊢;obtain ⟨oa,oc,rfl,_,om,hO3⟩:=OS.out;obtain ⟨la,lc,rfl,_,lm,hL3⟩:=LV.out;unfold maxLen at om lm;have O3:=Lib.hid hO3;have L3:=Lib.hid hL3;clear hO3 hL3;have ol:=OL.out;have vl_:=VL.out;rw [ol] at SN O3 ⊢;rw [vl_] at SN L3 ⊢;clear ol vl_ OS LV;clear hE z1 z2 z3 y1 y2 y3 lo ST sl;go_upto_region 9 with fail
   go_loopw [14] (fun iv wr=>∃ k:Nat,k≤n∧iv = .int .i64 k∧Hid (Below w2.heap.size w2 wr)) (fun iv _=>n - (intOf iv).toNat)
   case atStart=>exact ⟨0,Nat.zero_le _,rfl,Lib.hid (Below.refl _ _)⟩
   case round =>
    obtain ⟨k,hk,rfl,I⟩:=hrel
    by_cases hlt:k < n
    ·have HK1:Hid (k+1≤n):=Lib.hid hlt
     go_wp2_with fail;refine (SN.out _ (k:Int) I.out).mono ?_;rintro e w4 ⟨vx,x,rfl,own,px,b4⟩;have J4:=Lib.hid (I.out.trans (b4.mono I.out.size));have X4:=Lib.hid own.sp;have PX:=Lib.hid px;clear own px b4;obtain ⟨xa,xc,rfl,xm⟩:=X4.out.slice;have OW:=Lib.hid (OWN.out k x PX.out);have XL:Hid (x.length=x.length):=Lib.hid rfl;generalize x.length=xn at *;go_upto_region 13 with fail
     go_loopw [16] (fun iv wr=>∃ m:Nat,m≤k∧iv = .int .i64 m∧Hid (Below w4.heap.size w4 wr)) (fun iv _=>k - (intOf iv).toNat)
     case atStart=>exact ⟨0,Nat.zero_le _,rfl,Lib.hid (Below.refl _ _)⟩
     case round =>
      obtain ⟨m,hm,rfl,M⟩:=hrel;have JM:=Lib.hid (J4.out.trans (M.out.mono J4.out.size))
      by_cases hlm:m < k
      ·have HM1:Hid (m+1≤k):=Lib.hid hlm
       have HF1:Hid (m+1≤6):=Lib.hid (by have:=FEW.out;have:=HK1.out;omega);go_wp2_with fail;refine (SN.out _ (m:Int) JM.out).mono ?_;rintro e w7 ⟨vy,y,rfl,own,py,b7⟩;have M7:=Lib.hid (M.out.trans (b7.mono M.out.size));have Y7:=Lib.hid own.sp;have PY:=Lib.hid py;have X7:=Lib.hid (X4.out.below M7.out);clear own py b7 JM;go_wp2_with fail;have ME:=meet_any w7 _ vy x y X7.out Y7.out (LEN.out _ _ PY.out);rw [AP.out k m x y hlm PX.out PY.out] at ME;refine ME.mono ?_;rintro e w8 ⟨rfl,b8⟩;have M8:=Lib.hid (M7.out.trans (b8.mono M7.out.size));clear ME b8 M7 Y7 PY X7;have h8:=HF1.out;go_wp2
       go_roundw
       case rel=>exact ⟨m+1,HM1.out,by go_num,M8⟩
       case measure=>have:=HM1.out;have:=HF1.out;simp [intOf];omega
      ·obtain rfl:m=k:=by omega
       have h8:m+1≤6:=by have:=FEW.out;have:=HK1.out;omega
       have HI:=Lib.hid (high_any wr _ x (X4.out.below M.out) t);clear hlm X4 PX AP LEN;generalize lowB x t=lb at *;go_wp2_with fail;refine HI.out.mono ?_;rintro e w9 ⟨rfl,b9⟩;have J9:Hid (Below w2.heap.size w2 w9):=Lib.hid (JM.out.trans (b9.mono JM.out.size));clear b9 HI JM M
       cases lb with
       | false =>
         clear OW;go_wp2
         go_roundw
         case rel=>exact ⟨m+1,HK1.out,by go_num,J9⟩
         case measure=>have:=HK1.out;simp [intOf];omega
       | true =>
         have OT:=Lib.hid (OW.out rfl);clear OW;obtain ⟨ob,oo,rfl,OA⟩:=O3.out (by omega);obtain ⟨u,cu,SU⟩:=OA m (by omega);obtain ⟨lb,lo_,rfl,LA⟩:=L3.out (by omega);have cl:=Pa.atB LA (i:=m) (by have:=VL.out;omega)
         have CL:Hid (w2.cell? ⟨lb,lo_+m,none⟩=some (.bool true)):=Lib.hid (by
          rw [cl];have:=OT.out.2;unfold vat at this;rw [Int.toNat_natCast] at this
          rw [this])
         have CU:=Lib.hid cu;have STU:=Lib.hid SU;have GP:=Lib.hid (CM.out m (by omega));have BU:Hid (ob < w2.heap.size∧lb < w2.heap.size):=Lib.hid ⟨World.block_lt_of_cell? _ _ cu,World.block_lt_of_cell? _ _ cl⟩;have h6:m+1≤n:=HK1.out;clear OA cu SU LA cl;go_upto_region 20 with fail
         go_loopw [17,18] (fun ov sv wr=>∃ j:Nat,j≤16∧ov = .bool (onB T (osc O m) m t j)∧sv = .int .i64 ((j:Int)+1)∧Hid (Below w2.heap.size w2 wr)) (fun _ sv _=>18 - (intOf sv).toNat)
         case atStart=>exact ⟨0,by omega,rfl,rfl,J9⟩
         case round =>
          clear J9;obtain ⟨j,hj,rfl,rfl,J9⟩:=hrel
          by_cases hj16:j < 16
          ·have RS:=Lib.hid (rsender_any wr vt T ((j:Int)+1) (TB.out.below J9.out))
           have EQ:Hid (onB T (osc O m) m t (j+1)=(onB T (osc O m) m t j || (decide (sN ((j:Int)+1) T=m) && decide (Glo (osc O m).A (osc O m).R (osc O m).n (224 * ((j:Int)+1))≤t) && decide (t < Glo (osc O m).A (osc O m).R (osc O m).n (224 * ((j:Int)+1)+224))))):=Lib.hid rfl;have NXT:Hid (∃ q,q=onB T (osc O m) m t (j+1)):=Lib.hid ⟨_,rfl⟩;unfold WhoPost at RS;generalize sE ((j:Int)+1) T=e5 at *;obtain ⟨x1,x2,x3,x4,x5⟩:=e5;unfold ent at RS;generalize sN ((j:Int)+1) T=sn at *;go_wp2_with fail;refine RS.out.mono ?_;rintro e wa ⟨rfl,ba⟩;have bc:=ba.alloc ba.size (.cells #[.int .i64 x1,.int .i64 x2,.int .i64 x3,.int .i64 x4,.int .i64 x5] 87);have JA:=Lib.hid (J9.out.trans (bc.mono J9.out.size));clear ba bc RS;go_upto_region 23 with fail;generalize (wa.alloc (.cells #[.int .i64 x1,.int .i64 x2,.int .i64 x3,.int .i64 x4,.int .i64 x5] 87))=wb at *;have cu:=(JA.out.cell BU.out.1).trans CU.out;have WI:=Lib.hid (Se.window_any wb u (osc O m).n (osc O m).A (osc O m).R (STU.out.below JA.out) GP.out ((j:Int)+1) (by omega) (by omega));generalize Glo (osc O m).A (osc O m).R (osc O m).n (224 * ((j:Int)+1))=ga at *;generalize Glo (osc O m).A (osc O m).R (osc O m).n (224 * ((j:Int)+1)+224)=gb at *;go_wp2_with fail;refine WI.out.mono ?_;rintro e wc ⟨rfl,bc⟩;have JC:=Lib.hid (JA.out.trans (bc.mono JA.out.size));clear bc WI JA cu;have wt:IntKind.i64.wrap t=t:=IntWalk.i64_in _ (by omega)
           cases hq:onB T (osc O m) m t j with
           | true =>
             have E:Hid (Value.bool true = .bool (onB T (osc O m) m t (j+1))):=Lib.hid (by rw [EQ.out,hq];rfl);clear EQ hq;go_wp2
             go_roundw
             case rel=>exact ⟨j+1,by omega,E.out,by go_num,JC⟩
             case measure=>simp [intOf];omega
           | false =>
             by_cases g1:sn=m
             ·by_cases g2:ga≤t
              ·by_cases g3:t < gb
               ·have E:Hid (Value.bool true = .bool (onB T (osc O m) m t (j+1))):=Lib.hid (by rw [EQ.out,hq,decide_eq_true g1,decide_eq_true g2,decide_eq_true g3];rfl)
                have p1:(sn == (m:Int))=true:=beq_iff_eq.2 g1;clear EQ hq g1;go_wp2
                go_roundw
                case rel=>exact ⟨j+1,by omega,E.out,by go_num,JC⟩
                case measure=>simp [intOf];omega
               ·have E:Hid (Value.bool (decide (t < gb)) = .bool (onB T (osc O m) m t (j+1))):=Lib.hid (by rw [EQ.out,hq,decide_eq_true g1,decide_eq_true g2];simp)
                have p1:(sn == (m:Int))=true:=beq_iff_eq.2 g1;clear EQ hq g1;go_wp2
                go_roundw
                case rel=>exact ⟨j+1,by omega,E.out,by go_num,JC⟩
                case measure=>simp [intOf];omega
              ·have E:Hid (Value.bool false = .bool (onB T (osc O m) m t (j+1))):=Lib.hid (by rw [EQ.out,hq,decide_eq_true g1,decide_eq_false g2];rfl)
               have p1:(sn == (m:Int))=true:=beq_iff_eq.2 g1;clear EQ hq g1;go_wp2
               go_roundw
               case rel=>exact ⟨j+1,by omega,E.out,by go_num,JC⟩
               case measure=>simp [intOf];omega
             ·have E:Hid (Value.bool false = .bool (onB T (osc O m) m t (j+1))):=Lib.hid (by rw [EQ.out,hq,decide_eq_false g1];rfl)
              have p1:(sn == (m:Int))=false:=beq_eq_false_iff_ne.2 g1;clear EQ hq g1;go_wp2
              go_roundw
              case rel=>exact ⟨j+1,by omega,E.out,by go_num,JC⟩
              case measure=>simp [intOf];omega
          ·obtain rfl:j=16:=by omega
           have cl:=(J9.out.cell BU.out.2).trans CL.out;have ot:=OT.out.1;have JX:=Lib.hid (show Below w2.heap.size w2 wr from J9.out);rw [ot];clear ot J9 hj16;go_wp2
           go_roundw
           case rel=>exact ⟨m+1,HK1.out,by go_num,JX⟩
           case measure=>have:=HK1.out;simp [intOf];omega
    ·obtain rfl:k=n:=by omega
     have BF:=Lib.hid (B2.out.trans (I.out.mono B2.out.size));clear SN AP LEN OWN CM O3 L3;go_wp2_with fail;refine (wakes_any (HG.out.below BF.out)).mono ?_;rintro e w5 ⟨rfl,b5⟩;have Z:=Lib.hid (BF.out.trans (b5.mono BF.out.size));go_wp2
     go_ret
     exact ⟨rfl,Z.out⟩
  ·have hne:(buE S T V O != 0)=true:=by simpa using hE
   have AW:=Lib.hid (wakes_any (HG.out.below B2.out));clear ST TB LV OS SP hE;generalize buE S T V O=E at *;go_wp2_with fail;refine AW.out.mono ?_;rintro e v6 ⟨rfl,b6⟩;have Z:=Lib.hid (B2.out.trans (b6.mono B2.out.size));go_wp2
   go_ret
   exact ⟨rfl,Z.out⟩
end Go.Proofs.YtljnkaodhfnbbaaGreatDoor.Wp
