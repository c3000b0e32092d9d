import Derived.Test.YtpkipilggkbkeaaGreatDoorMg12
import Derived.Test.YtpkipilggkbkeaaGreatDoorMg13
import Derived.Test.YtpkipilggkbkeaaGreatDoorMg11
import Derived.Deep.Cut
import Derived.Test.YtpkipilggkbkeaaGreatDoorMg2
import Derived.ProofKit
import Derived.OpenShut
import Derived.ChangeOld
import Derived.Deep.Slices
import Derived.WideShapes
import Derived.Test.YtpkipilggkbkeaaGreatDoorMg5
import Derived.Test.YtpkipilggkbkeaaGreatDoorRows
import Derived.LaidHandle
import Derived.LaidLaws
import Derived.LaidMore
import Derived.Stop.Joined
import Derived.Test.YtpkipilggkbkeaaGreatDoorMg3
import Derived.Test.YtpkipilggkbkeaaGreatDoorMg10
import Derived.Shelf.SlSortCmp.QuietGrown
set_option maxRecDepth 100000
namespace Go.Proofs.YtpkipilggkbkeaaGreatDoor.Bu
open Go.RowKit Go.Maps
open Fs (Abs St Rs Only Fx Wf Glob Aw addE addA gV gB get_st GetPost new_any new_st below_new add_any AddPost)
open Rw (Rd Ow At)
open Sp (S2 Sp fr tp)
open Wi (Plain PlainOf Low Made)
open Ro (E5 z5 K5 ent)
open Ck (LL lat RdL rdl_two RowE)
open Fl (R4 z4 K4 rec4 rat goodF okR okL file newL newP row_cell row_frozen rnew_own RnewOwn eq_rec ret_bool)
open Pa (Sts Stl Has Ns K2 KB KN ptr sat rdL RoundPost Two two_new Fre own_sto4 only_sto4)
theorem eq_spn (a b:Int) (w:World):(Op.equalIn 10000 105 (.agg #[.int .i64 a,.int .i64 b]) (.agg #[.int .i64 a,.int .i64 b])).run Tryz.prog w = .ok true w:=by
 have u3:=Tryz.underlying3;have a3:=Tryz.isAgg3;have z3:=Tryz.sizeOf3;have hS:Tryz.prog.underlying 105=some (.struct (Tryz.prog.fieldsOf 105)):=by kernel_rfl
 have hp:Tryz.prog.stoodInHeld 105=false:=by kernel_rfl
 rw [show (10000:Nat)=9999+1 from rfl,run_equalIn_agg w 9999 105 _ _ hS hp];simp only [Program.fieldsOf,Tryz.underlying105];go_simp
theorem osl_two {W:World} {g:Nat} {u0 u1:Value} {T:TypeId} {o0 o1:Osc} (h:W.heap[g]? = some (.cells #[u0,u1] T (0,0))) (s0:Tk.Steps W u0 o0.n o0.A o0.R) (s1:Tk.Steps W u1 o1.n o1.A o1.R):OsL W (.slice (some ⟨g,0,none⟩) 2 2) [o0,o1]:=by
 refine ⟨some ⟨g,0,none⟩,2,rfl,Nat.le_refl _,by unfold maxLen;omega,fun _=>⟨g,0,rfl,fun i hi=>?_⟩⟩;rw [Nat.zero_add]
 match i,hi with
 | 0,_=>exact ⟨u0,row_cell h 0,s0⟩
 | 1,_=>exact ⟨u1,row_cell h 1,s1⟩
theorem steps_one {W:World} {g:Nat} {T:TypeId} {r:Int} (h:W.heap[g]? = some (.cells #[.int .i64 0,.int .i64 r] T (0,0))):Tk.Steps W (.slice (some ⟨g,0,none⟩) 1 1) (oR r).n (oR r).A (oR r).R :=
 .inr ⟨g,0,1,rfl,Nat.le_refl _,by unfold maxLen;omega,fun i hi=>by
  have hi':i < 1:=hi;obtain rfl:i=0:=by omega
  exact ⟨row_cell h 0,row_cell h 1⟩⟩
theorem steps_none (W:World):Tk.Steps W (.slice none 0 0) oN.n oN.A oN.R:=.inl ⟨none,0,rfl,by unfold maxLen;omega,rfl⟩
theorem osl_nil (W:World):OsL W (.slice none 0 0) []:=⟨none,0,rfl,Nat.le_refl _,by unfold maxLen;omega,fun h=>absurd h (Nat.not_lt_zero _)⟩
set_option maxHeartbeats 2000000 in
theorem awake_any (w:World) (hg:Glob w):Calls Tryz.prog 13 #[] w fun e w'=>e = .returned (.bool true)∧Below w.heap.size w w':=by
 have HG:=Lib.hid hg;clear hg;have T0':=Lib.hid (two_new w);have NW:=Lib.hid (fun W=>rnew_own W 3 1 (by decide));unfold RnewOwn at NW;rw [new31] at NW;unfold file at NW
 go_enter Tryz.func13,Tryz.ntmps13
 go_wp2_with (go_at_call 21;refine (new_any _).mono ?_;rintro e w1 ⟨rfl,rfl⟩)
 go_wp2_with fail;generalize ((w.alloc (.cells #[.map none,.int .i64 0] 91)).alloc (.cells #[.map none,.int .i64 0] 91))=W1 at *;refine (NW.out _).mono ?_;rintro e w2 ⟨v,rfl,ow2,b2⟩;obtain ⟨gv,cap,ev,hB,hlt,h2,hm,fz,hA⟩:=ow2.form (by decide);have ev':v = .slice (some ⟨gv,0,none⟩) 2 cap:=ev;subst ev';clear ev;have T2:=Lib.hid (T0'.out.below b2);have FV:=Lib.hid (Fre.new T0'.out hB hlt);clear T0' b2 NW;go_upto_region 3 with fail;have bn:=below_new w2 (.cells #[.int .i64 3,.slice (some ⟨gv,0,none⟩) 2 cap] 65);have T3:=Lib.hid (T2.out.below bn);have FV3:=Lib.hid (FV.out.grow bn.size);have FF3:Hid (Fre (fun k=>k=w.heap.size) (fun k=>k=w.heap.size+1) (w2.alloc (.cells #[.int .i64 3,.slice (some ⟨gv,0,none⟩) 2 cap] 65)) w.heap.size w2.heap.size):=Lib.hid (Fre.new T2.out (Nat.le_refl _) (by simp));have RF3:=Lib.hid (heap_alloc_new w2 (.cells #[.int .i64 3,.slice (some ⟨gv,0,none⟩) 2 cap] 65));have OV3:=Lib.hid (ow2.alloc (.cells #[.int .i64 3,.slice (some ⟨gv,0,none⟩) 2 cap] 65));have NE:=Lib.hid (show gv≠w2.heap.size by omega);have hA3:=hA.below bn;have fz3:=fun k=>(bn.frozen (p:=⟨gv,k,none⟩) hlt).trans (fz k);clear T2 FV bn hA fz ow2 hB hlt h2 hm;generalize (w2.alloc (.cells #[.int .i64 3,.slice (some ⟨gv,0,none⟩) 2 cap] 65))=W3 at *;generalize w2.heap.size=g3 at *;have x1:W3.cell? ⟨g3,1,none⟩=some (.slice (some ⟨gv,0,none⟩) 2 cap):=row_cell RF3.out 1;have d0:W3.cell? ⟨gv,4,none⟩=some (.int .u8 0):=hA3 1 (by decide) 0 _ rfl;have d1:W3.cell? ⟨gv,5,none⟩=some (.int .u8 0):=hA3 1 (by decide) 1 _ rfl;have d2:W3.cell? ⟨gv,6,none⟩=some (.int .u8 0):=hA3 1 (by decide) 2 _ rfl;have d3:W3.cell? ⟨gv,7,none⟩=some (.int .u8 0):=hA3 1 (by decide) 3 _ rfl;have f0:=fz3 4;have f1:=fz3 5;have f2:=fz3 6;have f3:=fz3 7;have T4:=Lib.hid (T3.out.other FV3.out.ge FV3.out.n1 FV3.out.n2 (only_sto4 W3 gv 4 (255,8,0,0)));have OV4:=Lib.hid (own_sto4 OV3.out (255,8,0,0));have RF4:=Lib.hid (Fl.sto4_other (o:=4) (r:=(255,8,0,0)) RF3.out (fun e=>NE.out e.symm));have FV4:=Lib.hid (FV3.out.grow (Nat.le_of_eq (Fl.sto4_size W3 gv 4 (255,8,0,0)).symm));have FF4:=Lib.hid (FF3.out.grow (Nat.le_of_eq (Fl.sto4_size W3 gv 4 (255,8,0,0)).symm));clear T3 OV3 RF3 FV3 FF3 hA3 fz3;go_upto_region 4 with fail;clear x1 d0 d1 d2 d3 f0 f1 f2 f3
 show Code.wp _ _ _ _ (Fl.sto4 W3 gv 4 (255,8,0,0))
 generalize Fl.sto4 W3 gv 4 (255,8,0,0)=W4 at *;have y0:W4.cell? ⟨g3,0,none⟩=some (.int .i64 3):=row_cell RF4.out 0;have y1:W4.cell? ⟨g3,1,none⟩=some (.slice (some ⟨gv,0,none⟩) 2 cap):=row_cell RF4.out 1;have AD:=add_any T4.out.a.st 1 3 (.slice (some ⟨gv,0,none⟩) 2 cap) l0 OV4.out.rd okL_0;rw [add_0.1,add_0.2] at AD;unfold file AddPost at AD;have AD':=Lib.hid AD;clear AD;go_wp2_with fail;clear y0 y1;refine AD'.out.mono ?_;rintro e w5 ⟨rfl,st,o⟩;have T5:=Lib.hid (T4.out.step1 st o);have RF5:=Lib.hid ((o.block g3 FF4.out.lt FF4.out.n1).trans RF4.out);have OV5:=Lib.hid (Fs.ow_only OV4.out (fun k e g=>FV4.out.n1 (by injection e with e;subst e;exact g)) o);clear AD' st o T4 FF4 RF4 OV4 FV4;generalize Fx (fun k=>k=w.heap.size) W4 w5=F1 at *;go_upto_region 5 with fail;have y0:w5.cell? ⟨g3,0,none⟩=some (.int .i64 3):=row_cell RF5.out 0;have y1:w5.cell? ⟨g3,1,none⟩=some (.slice (some ⟨gv,0,none⟩) 2 cap):=row_cell RF5.out 1;have AD:=add_any T5.out.b.st 1 3 (.slice (some ⟨gv,0,none⟩) 2 cap) l0 OV5.out.rd okL_0;rw [add_0.1,add_0.2] at AD;unfold file AddPost at AD;have AD':=Lib.hid AD;clear AD;go_wp2_with fail;clear y0 y1;refine AD'.out.mono ?_;rintro e w7 ⟨rfl,st,o⟩;have T7:=Lib.hid (T5.out.step2 st o);clear AD' st o T5 OV5 RF5;generalize Fx (fun k=>k=w.heap.size+1) w5 w7=F2 at *;go_wp2_with fail;refine (entry_any _ 1 1 0).mono ?_;rintro e w8 ⟨rfl,b8⟩;have T8:=Lib.hid (T7.out.below b8);clear T7 b8;unfold ent;go_wp2_with fail;have bn:=below_new w8 (.cells #[.int .i64 1,.int .i64 1,.int .i64 1,.int .i64 1,.int .i64 0] 98);have E9:Hid (Rd K5 (w8.alloc (.cells #[.int .i64 1,.int .i64 1,.int .i64 1,.int .i64 1,.int .i64 0] 98)) (.slice (some ⟨w8.heap.size,0,none⟩) 1 1) [(1,1,1,1,0)]):=Lib.hid (Rw.Ow.lit (K:=K5) w8 w8.heap.size 98 [(1,1,1,1,0)] (Nat.le_refl _) (by unfold maxLen;simp)).rd;have T9:=Lib.hid (T8.out.below bn);clear T8 bn;generalize (w8.alloc (.cells #[.int .i64 1,.int .i64 1,.int .i64 1,.int .i64 1,.int .i64 0] 98))=W9 at *;generalize w8.heap.size=g8 at *;refine (entry_any _ 2 1 3).mono ?_;rintro e w10 ⟨rfl,b10⟩;have T10:=Lib.hid (T9.out.below b10);have E10:=Lib.hid (E9.out.below b10);clear T9 E9 b10;unfold ent;go_upto_region 8 with fail;have bn:=below_new w10 (.cells #[.int .i64 2,.int .i64 1,.int .i64 1,.int .i64 1,.int .i64 3] 98);have D11:Hid (Rd K5 (w10.alloc (.cells #[.int .i64 2,.int .i64 1,.int .i64 1,.int .i64 1,.int .i64 3] 98)) (.slice (some ⟨w10.heap.size,0,none⟩) 1 1) [(2,1,1,1,3)]):=Lib.hid (Rw.Ow.lit (K:=K5) w10 w10.heap.size 98 [(2,1,1,1,3)] (Nat.le_refl _) (by unfold maxLen;simp)).rd;have T11:=Lib.hid (T10.out.below bn);have E11:=Lib.hid (E10.out.below bn);have hz11:(w10.alloc (.cells #[.int .i64 2,.int .i64 1,.int .i64 1,.int .i64 1,.int .i64 3] 98)).heap.size=w10.heap.size+1:=by simp
 clear T10 E10 bn;generalize (w10.alloc (.cells #[.int .i64 2,.int .i64 1,.int .i64 1,.int .i64 1,.int .i64 3] 98))=W11 at *;generalize w10.heap.size=g10 at *;have bn:=below_new W11 (.cells #[.slice (some ⟨g8,0,none⟩) 1 1,.slice (some ⟨g10,0,none⟩) 1 1] 58);have L12:Hid (RdL (W11.alloc (.cells #[.slice (some ⟨g8,0,none⟩) 1 1,.slice (some ⟨g10,0,none⟩) 1 1] 58)) (.slice (some ⟨W11.heap.size,0,none⟩) 2 2) T0):=Lib.hid (rdl_two (heap_alloc_new W11 _) (E11.out.below bn) (D11.out.below bn));have T12:=Lib.hid (T11.out.below bn);rw [hz11] at L12;clear T11 E11 D11 bn hz11;generalize (W11.alloc (.cells #[.slice (some ⟨g8,0,none⟩) 1 1,.slice (some ⟨g10,0,none⟩) 1 1] 58))=W12 at *;generalize g10+1=gt at *;go_upto_region 9 with fail;have bn:=below_new W12 (.cells #[.int .i64 0,.int .i64 2000] 101);have Q13:=Lib.hid (steps_one (heap_alloc_new W12 (.cells #[.int .i64 0,.int .i64 2000] 101)));have T13:=Lib.hid (T12.out.below bn);have L13:=Lib.hid (L12.out.below bn);have hz13:(W12.alloc (.cells #[.int .i64 0,.int .i64 2000] 101)).heap.size=W12.heap.size+1:=by simp
 clear T12 L12 bn;generalize (W12.alloc (.cells #[.int .i64 0,.int .i64 2000] 101))=W13 at *;generalize W12.heap.size=g12 at *;have bn:=below_new W13 (.cells #[.int .i64 0,.int .i64 (-2000)] 101);have Q14:=Lib.hid (steps_one (heap_alloc_new W13 (.cells #[.int .i64 0,.int .i64 (-2000)] 101)));have P14:=Lib.hid (Q13.out.below bn);have T14:=Lib.hid (T13.out.below bn);have L14:=Lib.hid (L13.out.below bn);have hz14:(W13.alloc (.cells #[.int .i64 0,.int .i64 (-2000)] 101)).heap.size=g12+1+1:=by simp [hz13]
 rw [hz13] at Q14;clear T13 L13 Q13 bn hz13;generalize (W13.alloc (.cells #[.int .i64 0,.int .i64 (-2000)] 101))=W14 at *;have bn:=below_new W14 (.cells #[.slice (some ⟨g12,0,none⟩) 1 1,.slice (some ⟨g12+1,0,none⟩) 1 1] 59);have O15:Hid (OsL (W14.alloc (.cells #[.slice (some ⟨g12,0,none⟩) 1 1,.slice (some ⟨g12+1,0,none⟩) 1 1] 59)) (.slice (some ⟨W14.heap.size,0,none⟩) 2 2) O0):=Lib.hid (osl_two (heap_alloc_new W14 _) (P14.out.below bn) (Q14.out.below bn));have T15:=Lib.hid (T14.out.below bn);have L15:=Lib.hid (L14.out.below bn);rw [hz14] at O15;clear T14 L14 P14 Q14 bn hz14;generalize (W14.alloc (.cells #[.slice (some ⟨g12,0,none⟩) 1 1,.slice (some ⟨g12+1,0,none⟩) 1 1] 59))=W15 at *;generalize g12+1+1=go at *;go_wp2_with fail;have bn:=below_new W15 (.cells #[.pointer (some ⟨w.heap.size,0,none⟩),.pointer (some ⟨w.heap.size+1,0,none⟩)] 39);have RN16:Hid (Rd KN (W15.alloc (.cells #[.pointer (some ⟨w.heap.size,0,none⟩),.pointer (some ⟨w.heap.size+1,0,none⟩)] 39)) (.slice (some ⟨W15.heap.size,0,none⟩) 2 2) [w.heap.size,w.heap.size+1]):=Lib.hid (Rw.Ow.lit (K:=KN) W15 W15.heap.size 39 [w.heap.size,w.heap.size+1] (Nat.le_refl _) (by unfold maxLen;simp)).rd;have T16:=Lib.hid (T15.out.below bn);have L16:=Lib.hid (L15.out.below bn);have O16:=Lib.hid (O15.out.below bn);have hz16:(W15.alloc (.cells #[.pointer (some ⟨w.heap.size,0,none⟩),.pointer (some ⟨w.heap.size+1,0,none⟩)] 39)).heap.size=W15.heap.size+1:=by simp
 have HZ16:=Lib.hid hz16;clear T15 L15 O15 bn hz16;generalize (W15.alloc (.cells #[.pointer (some ⟨w.heap.size,0,none⟩),.pointer (some ⟨w.heap.size+1,0,none⟩)] 39))=W16 at *;generalize W15.heap.size=g15 at *;have bn:=below_new W16 (.cells #[.bool true,.bool true] 4);have V17:=(Rw.Ow.lit (K:=KB) W16 W16.heap.size 4 [true,true] (Nat.le_refl _) (by unfold maxLen;simp)).rd;have e2:(Rw.Kind.flat KB [true,true]).toArray=#[.bool true,.bool true]:=rfl;rw [e2,HZ16.out] at V17;have V17':Hid (Rd KB (W16.alloc (.cells #[.bool true,.bool true] 4)) (.slice (some ⟨g15+1,0,none⟩) 2 2) V0):=Lib.hid V17;have T17:=Lib.hid (T16.out.below bn);have L17:=Lib.hid (L16.out.below bn);have O17:=Lib.hid (O16.out.below bn);have RN17:=Lib.hid (RN16.out.below bn);clear T16 L16 O16 RN16 bn V17 e2 HZ16;generalize (W16.alloc (.cells #[.bool true,.bool true] 4))=W17 at *
 have DN:Hid (∀ i:Nat,i < S0.length→0≤(sat S0 i).2∧(sat S0 i).2 < 900000):=Lib.hid (fun i hi=>by
  match i,hi with
  | 0,_=>exact ⟨by decide,by decide⟩
  | 1,_=>exact ⟨by decide,by decide⟩)
 have RO:=bround_any (w:=W17) (S:=S0) (T:=T0) (V:=V0) (P:=[]) (O:=O0) ⟨_,RN17.out,rfl,fun i hi=>by
  match i,hi with
  | 0,_=>exact ⟨F1,T17.out.a.st⟩
  | 1,_=>exact ⟨F2,T17.out.b.st⟩⟩ L17.out V17'.out (Rw.Rd.nil _) O17.out (HG.out.below T17.out.a.bel) DN.out
 rw [bu_e,bu_l] at RO;unfold RoundPost at RO;refine RO.mono ?_;rintro e w18 ⟨v,rfl,hst,b18⟩;have H0:=Lib.hid hst;have T18:=Lib.hid (T17.out.below b18);have L18:=Lib.hid (L17.out.below b18);obtain ⟨va,vc,rfl,hvm⟩:=hst.slice;rw [r_len] at H0 ⊢;clear RO T17 L17 O17 RN17 V17' b18 hst;have HL:=Lib.hid r_len;have X1:=Lib.hid r_1;generalize rdL S0 T0 V0 []=S' at *;go_upto_region 10 with fail;go_wp2_with fail;have bn:=below_new w18 (.cells #[.pointer (some ⟨w.heap.size,0,none⟩),.pointer (some ⟨w.heap.size+1,0,none⟩)] 39);have RN19:Hid (Rd KN (w18.alloc (.cells #[.pointer (some ⟨w.heap.size,0,none⟩),.pointer (some ⟨w.heap.size+1,0,none⟩)] 39)) (.slice (some ⟨w18.heap.size,0,none⟩) 2 2) [w.heap.size,w.heap.size+1]):=Lib.hid (Rw.Ow.lit (K:=KN) w18 w18.heap.size 39 [w.heap.size,w.heap.size+1] (Nat.le_refl _) (by unfold maxLen;simp)).rd;have T19:=Lib.hid (T18.out.below bn);have L19:=Lib.hid (L18.out.below bn);have H19:=Lib.hid (H0.out.below bn);have hz19:(w18.alloc (.cells #[.pointer (some ⟨w.heap.size,0,none⟩),.pointer (some ⟨w.heap.size+1,0,none⟩)] 39)).heap.size=w18.heap.size+1:=by simp
 have HZ19:=Lib.hid hz19;clear T18 L18 H0 bn hz19;generalize (w18.alloc (.cells #[.pointer (some ⟨w.heap.size,0,none⟩),.pointer (some ⟨w.heap.size+1,0,none⟩)] 39))=W19 at *;generalize w18.heap.size=g18 at *;have bn:=below_new W19 (.cells #[.bool true,.bool true] 4);have V20:=(Rw.Ow.lit (K:=KB) W19 W19.heap.size 4 [true,true] (Nat.le_refl _) (by unfold maxLen;simp)).rd;have e2:(Rw.Kind.flat KB [true,true]).toArray=#[.bool true,.bool true]:=rfl;rw [e2,HZ19.out] at V20;have V20':Hid (Rd KB (W19.alloc (.cells #[.bool true,.bool true] 4)) (.slice (some ⟨g18+1,0,none⟩) 2 2) V0):=Lib.hid V20;have hz20:(W19.alloc (.cells #[.bool true,.bool true] 4)).heap.size=g18+1+1:=by simp [HZ19.out]
 have HZ20:=Lib.hid hz20;have T20:=Lib.hid (T19.out.below bn);have L20:=Lib.hid (L19.out.below bn);have H20:=Lib.hid (H19.out.below bn);have RN20:=Lib.hid (RN19.out.below bn);clear T19 L19 H19 RN19 bn V20 e2 HZ19 hz20;generalize (W19.alloc (.cells #[.bool true,.bool true] 4))=W20 at *;have bn:=below_new W20 (.cells #[.slice none 0 0,.slice none 0 0] 59);have O21:Hid (OsL (W20.alloc (.cells #[.slice none 0 0,.slice none 0 0] 59)) (.slice (some ⟨W20.heap.size,0,none⟩) 2 2) O1):=Lib.hid (osl_two (heap_alloc_new W20 _) (steps_none _) (steps_none _));rw [HZ20.out] at O21;have T21:=Lib.hid (T20.out.below bn);have L21:=Lib.hid (L20.out.below bn);have H21:=Lib.hid (H20.out.below bn);have RN21:=Lib.hid (RN20.out.below bn);have V21:=Lib.hid (V20'.out.below bn);clear T20 L20 H20 RN20 V20' bn HZ20;generalize (W20.alloc (.cells #[.slice none 0 0,.slice none 0 0] 59))=W21 at *;have ok0:Ck.tE T0=0:=(rdE_zero r_e).2.2.2.2
 have LN:=line_any (w:=W21) (S:=S0) (T:=T0) (V:=V0) (P:=[]) (O:=O1) ⟨⟨⟨_,RN21.out,rfl,fun i hi=>by
  match i,hi with
  | 0,_=>exact ⟨F1,T21.out.a.st⟩
  | 1,_=>exact ⟨F2,T21.out.b.st⟩⟩,L21.out,V21.out,rfl,rfl,ok0⟩,Rw.Rd.nil _,O21.out,rfl,by decide,calm_1⟩
 unfold Made at LN;refine LN.mono ?_;rintro e w22 ⟨vl,x,rfl,own,px,b22⟩;obtain rfl:x = [(224,240),(368,384)]:=px.one line_0;have LS:=Lib.hid own.sp;obtain ⟨la,lc,rfl,lm⟩:=own.sp.slice;have T22:=Lib.hid (T21.out.below b22);have L22:=Lib.hid (L21.out.below b22);have H22:=H21.out.below b22;clear LN px own b22 T21 L21 H21 RN21 V21 O21 ok0;obtain ⟨b1,o1,c1,p1,e1,x1,g1⟩:=H22.one (k:=1) (by rw [HL.out];decide);rw [HL.out] at e1;injection e1 with e1 _ e1';subst e1 e1';have HX:=Lib.hid g1;have CX:=Lib.hid x1;unfold ptr at CX;clear g1 x1 H22;unfold maxLen at hvm lm;go_upto_region 13 with fail;have c1:=CX.out;go_wp2_with fail;clear c1 CX;obtain ⟨F3,G3⟩:=HX.out;have GE:=get_st G3 (n:=1) (WalkArith.wf_i64 (by decide)) 1;unfold GetPost at GE;rw [show gV (sat S' ((1:Nat):Int)).1 1 1=(255,8,0,255) from X1.out] at GE;generalize gB (sat S' ((1:Nat):Int)).1 1 1=q0 at GE;refine GE.mono ?_;rintro e w23 ⟨rfl,b23⟩;have bn:=b23.trans ((below_new w23 (.cells #[.int .u8 255,.int .u8 8,.int .u8 0,.int .u8 255] 96)).mono b23.size);have T24:=Lib.hid (T22.out.below bn);have L24:=Lib.hid (L22.out.below bn);have S24:=Lib.hid (LS.out.below bn);have K24:=Lib.hid (heap_alloc_new w23 (.cells #[.int .u8 255,.int .u8 8,.int .u8 0,.int .u8 255] 96));clear GE G3 HX X1 b23 bn T22 L22 LS;unfold rec4;go_upto_region 14 with fail;generalize (w23.alloc (.cells #[.int .u8 255,.int .u8 8,.int .u8 0,.int .u8 255] 96))=W24 at *;generalize w23.heap.size=g23 at *;go_wp2_with fail;have bn:=below_new W24 (.cells #[.pointer (some ⟨w.heap.size,0,none⟩),.pointer (some ⟨w.heap.size+1,0,none⟩)] 39);have RN25:Hid (Rd KN (W24.alloc (.cells #[.pointer (some ⟨w.heap.size,0,none⟩),.pointer (some ⟨w.heap.size+1,0,none⟩)] 39)) (.slice (some ⟨W24.heap.size,0,none⟩) 2 2) [w.heap.size,w.heap.size+1]):=Lib.hid (Rw.Ow.lit (K:=KN) W24 W24.heap.size 39 [w.heap.size,w.heap.size+1] (Nat.le_refl _) (by unfold maxLen;simp)).rd;have T25:=Lib.hid (T24.out.below bn);have L25:=Lib.hid (L24.out.below bn);have S25:=Lib.hid (S24.out.below bn);have K25:=Lib.hid ((bn.block _ (lt_of_block K24.out)).trans K24.out);have hz25:(W24.alloc (.cells #[.pointer (some ⟨w.heap.size,0,none⟩),.pointer (some ⟨w.heap.size+1,0,none⟩)] 39)).heap.size=W24.heap.size+1:=by simp
 have HZ25:=Lib.hid hz25;clear T24 L24 S24 K24 bn hz25;generalize (W24.alloc (.cells #[.pointer (some ⟨w.heap.size,0,none⟩),.pointer (some ⟨w.heap.size+1,0,none⟩)] 39))=W25 at *;generalize W24.heap.size=g24 at *;have bn:=below_new W25 (.cells #[.bool true,.bool true] 4);have V26:=(Rw.Ow.lit (K:=KB) W25 W25.heap.size 4 [true,true] (Nat.le_refl _) (by unfold maxLen;simp)).rd;have e2:(Rw.Kind.flat KB [true,true]).toArray=#[.bool true,.bool true]:=rfl;rw [e2,HZ25.out] at V26;have V26':Hid (Rd KB (W25.alloc (.cells #[.bool true,.bool true] 4)) (.slice (some ⟨g24+1,0,none⟩) 2 2) V0):=Lib.hid V26;have T26:=Lib.hid (T25.out.below bn);have L26:=Lib.hid (L25.out.below bn);have S26:=Lib.hid (S25.out.below bn);have RN26:=Lib.hid (RN25.out.below bn);have K26:=Lib.hid ((bn.block _ (lt_of_block K25.out)).trans K25.out);clear T25 L25 S25 RN25 K25 bn V26 e2 HZ25;generalize (W25.alloc (.cells #[.bool true,.bool true] 4))=W26 at *
 have RO:=bround_any (w:=W26) (S:=S0) (T:=T0) (V:=V0) (P:=[]) (O:=[]) ⟨_,RN26.out,rfl,fun i hi=>by
  match i,hi with
  | 0,_=>exact ⟨F1,T26.out.a.st⟩
  | 1,_=>exact ⟨F2,T26.out.b.st⟩⟩ L26.out V26'.out (Rw.Rd.nil _) (osl_nil _) (HG.out.below T26.out.a.bel) DN.out
 rw [bu_no.1,bu_no.2] at RO;unfold RoundPost at RO;refine RO.mono ?_;rintro e w27 ⟨v27,rfl,_,b27⟩;have T27:=Lib.hid (T26.out.below b27);have S27:=S26.out.below b27;have K27:=Lib.hid ((b27.block _ (lt_of_block K26.out)).trans K26.out);clear RO b27 T26 L26 S26 K26 RN26 V26';obtain ⟨a',c',ev,_,_,hA⟩:=S27;injection ev with ev1 _ ev2;subst ev1 ev2;obtain ⟨b,off,rfl,hB⟩:=hA (by decide);have s0:w27.cell? ⟨b,off,none⟩=some (.int .i64 224):=by have:=(hB 0 (by decide)).1;simpa [fr] using this
 have s1:w27.cell? ⟨b,off+1,none⟩=some (.int .i64 240):=by have:=(hB 0 (by decide)).2;simpa [tp] using this
 clear hA hB;go_upto_region 15 with fail;have x0:w27.cell? ⟨g23,0,none⟩=some (.int .u8 255):=row_cell K27.out 0;have x1:w27.cell? ⟨g23,1,none⟩=some (.int .u8 8):=row_cell K27.out 1;have x2:w27.cell? ⟨g23,2,none⟩=some (.int .u8 0):=row_cell K27.out 2;have x3:w27.cell? ⟨g23,3,none⟩=some (.int .u8 255):=row_cell K27.out 3;have es:∀ w,(Op.equalIn 10000 96 (.agg #[.int .u8 255,.int .u8 8,.int .u8 0,.int .u8 255]) (.agg #[.int .u8 255,.int .u8 8,.int .u8 0,.int .u8 255])).run Tryz.prog w = .ok true w:=fun w=>by
  have:=eq_rec (255,8,0,255) (255,8,0,255) w
  simpa using this
 have es':=eq_spn 224 240;go_wp2
 go_ret
 exact ⟨rfl,T27.out.a.bel⟩
end Go.Proofs.YtpkipilggkbkeaaGreatDoor.Bu
namespace Go.Proofs.YtpkipilggkbkeaaGreatDoor.Bu
open Go.RowKit
open Sp (S2 fr tp Sp)
open Rw (Rd Ow At)
open Wi (Plain PlainOf Low Made rjoin_any own_low wp_all all_step)
open Ck (LL lat sN sE tE RdL Hd sl zh KS)
open Pa (Sts Nr K2 snB sbN frF rframe_any FramePost sender_is)
open Ua (arr Row store_new info_of)
open Se (lows rspans_any)
open Tk (goodB goodB_true rgood_any)
open Fl (row_cell row_frozen)
attribute [local irreducible] Sd.wpSd wpQuiet
structure Br (w:World) (vs vt vl vp vo:Value) (S:Sts) (T:LL) (V:List Bool) (P:List S2) (O:List Osc):Prop where
 ns:Nr w vs vt vl S T V
 sp:Rd K2 w vp P
 os:OsL w vo O
 lo:O.length=S.length
 few:S.length≤32
 calm:calmL O
theorem Br.below {w w':World} {vs vt vl vp vo:Value} {S:Sts} {T:LL} {V:List Bool} {P:List S2} {O:List Osc} (h:Br w vs vt vl vp vo S T V P O) (b:Below w.heap.size w w'):Br w' vs vt vl vp vo S T V P O:=⟨h.ns.below b,h.sp.below b,h.os.below b,h.lo,h.few,h.calm⟩
set_option maxHeartbeats 2000000 in
theorem rsends_any {w:World} {vs vt vl vp vo:Value} {S:Sts} {T:LL} {V:List Bool} {P:List S2} {O:List Osc} (H:Br w vs vt vl vp vo S T V P O) (j:Int) :
 Calls Tryz.prog 42 #[vs,vt,vl,vp,vo,.int .i64 j] w (Made w (SendP S T V P O j)):=by
 have FA:=Lib.hid (fun W b s=>rframe_any (H.ns.below (w':=W) b) (H.sp.below b) s);unfold FramePost at FA;have WHO:Hid (∀ k:Nat,snB S T V k=true→∃ n:Nat,sbN S T V k=n∧n < O.length∧frs S T V P O k=some (osc O n,frF S T V P k)∧(osc O n).calm):=Lib.hid (fun k h=>who_sends H.ns.ok (by rw [H.lo,H.ns.lt]) H.calm h);have YES:Hid (∀ k:Nat,1≤k→sbN S T V k=j→∀ u,LowUp S T V P O j (k+1) u↔LowUp S T V P O j k u∨LowK (frs S T V P O) k u):=Lib.hid (fun k h e u=>lowUp_yes h e);have NO:Hid (∀ k:Nat,¬ (snB S T V k=true∧sbN S T V k=j)→∀ u,LowUp S T V P O j (k+1) u↔LowUp S T V P O j k u):=Lib.hid (fun k h u=>lowUp_no h);have END:Hid (∀ u,LowUp S T V P O j 17 u↔LowJ S T V P O j u):=Lib.hid (fun u=>lowUp_end);have I0:Hid (CtI w (.slice (some ⟨w.heap.size,0,none⟩) 0 0) [] (LowUp S T V P O j 1) 1 (w.alloc (.cells #[] 105))):=Lib.hid (CtI.start w fun u=>lowUp_one);have OS:=Lib.hid H.os;obtain ⟨ao,co,rfl,mo1,mo⟩:=H.os.slice;unfold maxLen at mo;clear H;generalize hno:O.length=no at *;have HNO:=Lib.hid hno;clear hno;unfold SendP
 go_enter Tryz.func42,Tryz.ntmps42
 go_wp2
 go_loopw [14,13] (fun i v wr=>∃ (k:Nat) (l:List S2),1≤k∧k≤17∧i = .int .i64 k∧Hid (CtI w v l (LowUp S T V P O j k) k wr)) (fun i _ _=>17 - (intOf i).toNat)
 case atStart=>exact ⟨1,[],by omega,by omega,rfl,I0⟩
 case round =>
  obtain ⟨k,l,hk1,hk,rfl,I⟩:=hrel;clear I0;obtain ⟨av,cv,rfl,_⟩:=I.out.own.slice
  by_cases hlt:k < 17
  ·have FK:=Lib.hid (FA.out wr I.out.bel (k:Int))
   have WK:=Lib.hid (WHO.out k);have YK:=Lib.hid (YES.out k hk1);have NK:=Lib.hid (NO.out k);generalize hF:frF S T V P (k:Int)=F at *;generalize hm:sbN S T V (k:Int)=m at *;generalize hok:snB S T V (k:Int)=ok at *;clear hF hm hok;go_wp2_with fail;refine FK.out.mono ?_;rintro e w1 ⟨rfl,b1⟩;have I2:=Lib.hid ((I.out.below b1).below ((Below.refl w1.heap.size w1).alloc (Nat.le_refl _) (.cells (arr F) 114)));have R2:=Lib.hid (Row.new w1 F);clear b1 FK I
   by_cases hall:ok=true∧m=j
   ·obtain ⟨rfl,rfl⟩:=hall
    obtain ⟨n,rfl,hn,hf,hcal⟩:=WK.out rfl;have YY:=Lib.hid (YK.out rfl);have CA:=Lib.hid hcal;have HF:=Lib.hid hf;clear YK NK WK hcal hf;obtain ⟨b5,o5,c5,a5,d5,e5,x5,_,s5⟩:=OS.out.one (k:=n) (by have:=HNO.out;omega);rw [HNO.out] at e5;injection e5 with e5 _ e6;subst e5 e6;have S5:=Lib.hid s5;clear s5
    go_upto_region 7 with ((with_reducible refine store_new (o:=⟨none,_,_,_,_,_⟩) rfl _ _ rfl F ?_ ?_ ?_);(exact rfl);(exact rfl))
    generalize (w1.alloc (.cells (arr F) 114))=W1 at *;generalize w1.heap.size=g1 at *;have BD:=Lib.hid (I2.out.bel.trans ((Below.refl W1.heap.size W1).drew.mono I2.out.bel.size));have lo:=World.block_lt_of_cell? _ _ x5;have wk:IntKind.i64.wrap (224 * (k:Int))=224 * (k:Int):=IntWalk.i64_in _ (by omega);have sO:=Sc.cell_in (C:=fun W=>Below w.heap.size w W) (a:=⟨b5,o5+n,none⟩) (fun W' h=>(h.cell lo).trans x5);have ne:Nonempty (Sc.In (fun W=>Below w.heap.size w W)):=⟨⟨_,BD.out⟩⟩;have ID:=Lib.hid (I2.out.below ((Below.refl W1.heap.size W1).drew));have RD:=Lib.hid (R2.out.below ((Below.refl W1.heap.size W1).drew) R2.out.lt);refine Sc.start (fun W=>Below w.heap.size w W) [(false,0),(false,1),(false,2),(false,3),(false,4),(false,5),(false,6),(true,7),(true,8),(true,9),(false,10)] (by kernel_rfl) (by kernel_rfl) (by kernel_rfl) BD.out ?_;dsimp only [Sd.picks,List.getElem?_cons_succ,List.getElem?_cons_zero]
    repeat (refine Sd.lit ?_;quiet_step (fail);refine wpQuiet_nil ?_)
    clear sO I2 R2;generalize W1.drew=Wd at *;refine Sd.call (by rfl) (fun K hK=>?_);refine wp_load_row 114 _ rfl g1 rfl _ _ _ _ RD.out Tryz.underlying114 rfl (info_of F) ?_;refine hK _ _ (Sc.Cl.of BD.out) ?_;clear hK K;have SA:=Lib.hid (rspans_any Wd _ _ _ _ (S5.out.below BD.out) CA.out.good (224 * (k:Int)) (by omega) (by omega) F);refine Sd.call (by rfl) (fun K hK=>?_);go_simp;refine SA.out.mono ?_;rintro e w5 ⟨v5,x,rfl,own5,p5,b5'⟩;have LK:=Lib.hid (low_spans HF.out p5);have PL:=Lib.hid p5.1;have I5:=Lib.hid (ID.out.below b5');have O5:=Lib.hid own5;have FEW:=Lib.hid (made_few PL.out (fun u h=>(LK.out u).1 h) (fun u h=>lowK_at h));have NR:=Lib.hid (plain_near PL.out fun u h=>lowK_at ((LK.out u).1 h));refine hK _ _ (Sc.Cl.of I5.out.bel) ?_;clear hK K p5 SA own5 b5' ID BD RD;refine Sd.call (by rfl) (fun K hK=>?_);refine wp_all _ _ rfl w.heap.size _ l rfl I5.out.own _ _ x rfl O5.out ?d1 ?d2 ?_
    case d1=>have:=I5.out.len;have:=FEW.out;omega
    case d2=>exact I5.out.bel.size
    intro v' w6 o6 b6
    have NEW:Hid (CtI w v' (l ++ x) (LowUp S T V P O n (k+1)) (k+1) w6):=Lib.hid (I5.out.more o6 NR.out b6 FEW.out (fun u=>by rw [YY.out u,LK.out u]));refine hK _ _ (Sc.Cl.of NEW.out.bel) ?_;clear hK K o6 b6 I5 O5
    repeat (refine Sd.lit ?_;quiet_step (fail);refine wpQuiet_nil ?_)
    refine Sd.done ?_;go_wp2
    go_roundw
    case rel=>exact ⟨k+1,_,by omega,by omega,by go_num,NEW⟩
    case measure=>simp [intOf];omega
   ·have I3:=Lib.hid (I2.out.to (NK.out hall))
    clear YK NK WK I2 R2
    cases ok with
    | false =>
      clear hall
      go_wp2_with ((with_reducible refine store_new (o:=⟨none,_,_,_,_,_⟩) rfl _ _ rfl F ?_ ?_ ?_);(exact rfl);(exact rfl))
      go_roundw
      case rel=>exact ⟨k+1,_,by omega,by omega,by go_num,I3⟩
      case measure=>simp [intOf];omega
    | true =>
      have hmj:(m == j)=false:=by simpa using hall
      clear hall
      go_wp2_with ((with_reducible refine store_new (o:=⟨none,_,_,_,_,_⟩) rfl _ _ rfl F ?_ ?_ ?_);(exact rfl);(exact rfl))
      go_roundw
      case rel=>exact ⟨k+1,_,by omega,by omega,by go_num,I3⟩
      case measure=>simp [intOf];omega
  ·obtain rfl:k=17:=by omega
   have J:=Lib.hid (rjoin_any wr _ l I.out.own.sp I.out.near);have BI:=Lib.hid I.out.bel;have LW:=Lib.hid I.out.low;clear I;generalize l.length=Lp at *;go_wp2_with fail;refine J.out.mono ?_;rintro e w1 ⟨v1,x,rfl,own1,hj,b1⟩;have OW:=Lib.hid (own_low own1 BI.out.size);have PO:=Lib.hid hj;have B1:=Lib.hid (BI.out.trans (b1.mono BI.out.size));clear own1 hj b1 J;go_wp2
   go_ret
   exact ⟨_,x,rfl,OW.out,⟨PO.out.1,fun u=>((PO.out.2 u).trans (LW.out u)).trans (END.out u)⟩,B1.out⟩
set_option maxHeartbeats 1000000 in
theorem rline_any {w:World} {vs vt vl vp vo:Value} {S:Sts} {T:LL} {V:List Bool} {P:List S2} {O:List Osc} (H:Br w vs vt vl vp vo S T V P O) :
 Calls Tryz.prog 16 #[vs,vt,vl,vp,vo] w (Made w (LineP S T V P O)):=by
 have SA:=Lib.hid (fun W b j=>rsends_any (H.below (w':=W) b) j);have END:Hid (∀ u,LowTo S T V P O S.length u↔LowL (frs S T V P O) u):=Lib.hid (fun u=>by rw [lowL_iff H.ns.ok,H.ns.lt];exact Iff.rfl);have NX:Hid (∀ k u,LowTo S T V P O (k+1) u↔LowTo S T V P O k u∨LowJ S T V P O k u):=Lib.hid lowTo_next;have I0:Hid (CtI w (.slice (some ⟨w.heap.size,0,none⟩) 0 0) [] (LowTo S T V P O 0) 0 (w.alloc (.cells #[] 105))):=Lib.hid (CtI.start w fun u h=>by obtain ⟨j,hj,_⟩:=h;omega);have few:=H.few;obtain ⟨sa,cs,rfl,ms⟩:=H.ns.st.slice;unfold maxLen at ms;clear H;generalize S.length=n at *;unfold LineP
 go_enter Tryz.func16,Tryz.ntmps16
 go_wp2
 go_loopw [12,11] (fun i v wr=>∃ (k:Nat) (l:List S2),k≤n∧i = .int .i64 k∧Hid (CtI w v l (LowTo S T V P O k) k wr)) (fun i _ _=>n - (intOf i).toNat)
 case atStart=>exact ⟨0,[],Nat.zero_le _,rfl,I0⟩
 case round =>
  obtain ⟨k,l,hk,rfl,I⟩:=hrel;clear I0;obtain ⟨av,cv,rfl,_⟩:=I.out.own.slice
  by_cases hlt:k < n
  ·have SK:=Lib.hid (SA.out wr I.out.bel (k:Int))
   have NK:=Lib.hid (NX.out k);go_wp2_with fail;refine SK.out.mono ?_;rintro e w5 ⟨v5,x,rfl,own5,p5,b5⟩;have PL:=Lib.hid p5.1;have LK:=Lib.hid p5.2;have I5:=Lib.hid (I.out.below b5);have O5:=Lib.hid own5;have FEW:=Lib.hid (made_few PL.out (fun u h=>(LK.out u).1 h) (fun u h=>lowJ_at h));have NR:=Lib.hid (plain_near PL.out fun u h=>lowJ_at ((LK.out u).1 h));clear own5 p5 b5 SK I
   go_wp2_with (at_builtin;refine all_step rfl _ _ rfl w.heap.size _ l rfl I5.out.own _ _ x rfl O5.out ?d1 ?d2 ?_)
   case d1=>have:=I5.out.len;have:=FEW.out;omega
   case d2=>exact I5.out.bel.size
   intro v' w6 o6 b6
   have NEW:Hid (CtI w v' (l ++ x) (LowTo S T V P O (k+1)) (k+1) w6):=Lib.hid (I5.out.more o6 NR.out b6 FEW.out (fun u=>by rw [NK.out u,LK.out u]));clear o6 b6 I5 O5;go_wp2
   go_roundw
   case rel=>exact ⟨k+1,_,by omega,by go_num,NEW⟩
   case measure=>simp [intOf];omega
  ·obtain rfl:k=n:=by omega
   have J:=Lib.hid (rjoin_any wr _ l I.out.own.sp I.out.near);have BI:=Lib.hid I.out.bel;have LW:=Lib.hid I.out.low;clear I;generalize l.length=Lp at *;go_wp2_with fail;refine J.out.mono ?_;rintro e w1 ⟨v1,x,rfl,own1,hj,b1⟩;have OW:=Lib.hid (own_low own1 BI.out.size);have PO:=Lib.hid hj;have B1:=Lib.hid (BI.out.trans (b1.mono BI.out.size));clear own1 hj b1 J;go_wp2
   go_ret
   exact ⟨_,x,rfl,OW.out,⟨PO.out.1,fun u=>((PO.out.2 u).trans (LW.out u)).trans (END.out u)⟩,B1.out⟩
def RateTo (o:Osc) (k:Nat):Prop:=∀ i,i < k→-2000≤o.R i∧o.R i≤2000
theorem rate_next {o:Osc} {k:Nat} (h:RateTo o k) (h1:¬ o.R k < -2000) (h2:¬ 2000 < o.R k):RateTo o (k+1):=fun i hi=>by
 by_cases e:i=k
 ·subst e;omega
 ·exact h i (by omega)
theorem rate_bad {o:Osc} {k:Nat} (hk:k < o.n) (h:o.R k < -2000∨2000 < o.R k):¬ o.calm:=fun c=>by
 have:=c.bd k hk
 omega
theorem rate_calm {o:Osc} (h:RateTo o o.n) (g:goodB o.n o.A o.R=true):o.calm:=⟨goodB_true.1 g,by omega,h⟩
def CalmTo (O:List Osc) (k:Nat):Prop:=∀ i:Nat,i < k→(osc O i).calm
theorem calm_all {O:List Osc} (h:CalmTo O O.length):calmLB O=true:=List.all_eq_true.2 fun o ho=>by
 obtain ⟨i,hi,rfl⟩:=List.getElem_of_mem ho;have e:osc O (i:Int)=O[i]:=by unfold osc;rw [Int.toNat_natCast,List.getD_eq_getElem?_getD,List.getElem?_eq_getElem hi];rfl
 rw [← e];exact calmB_yes (h i hi)
theorem calm_some {O:List Osc} {k:Nat} (hk:k < O.length) (h:¬ (osc O k).calm):calmLB O=false:=by
 cases c:calmLB O with
 | false=>rfl
 | true=>exact absurd (of_calmLB c _ (osc_mem hk)) h
set_option maxHeartbeats 2000000 in
theorem rcalm_any (w:World) (v:Value) (O:List Osc) (S:OsL w v O) (n:Nat) (hn:n≤1000):Calls Tryz.prog 29 #[v,.int .i64 n] w fun e w'=>e = .returned (.bool (decide (O.length=n) && calmLB O))∧Below w.heap.size w w':=by
 have S0:=Lib.hid S;obtain ⟨a,cap,rfl,hm1,hm⟩:=S.slice;have BAD:Hid (∀ k,k < O.length→¬ (osc O k).calm→(decide (O.length=n) && calmLB O)=false):=Lib.hid (fun k hk h=>by rw [calm_some hk h,Bool.and_false]);have ALL:Hid (CalmTo O O.length→(decide (O.length=n) && calmLB O)=decide (O.length=n)):=Lib.hid (fun h=>by rw [calm_all h,Bool.and_true]);generalize (decide (O.length=n) && calmLB O)=q at *;clear S;unfold maxLen at hm;generalize hN:O.length=N at *;have HN:=Lib.hid hN;clear hN
 go_enter Tryz.func29,Tryz.ntmps29
 go_wp2
 go_loopw [5] (fun i wr=>∃ k:Nat,k≤N∧i = .int .i64 k∧Hid (CalmTo O k)∧Hid (Below w.heap.size w wr)) (fun i _=>N - (intOf i).toNat)
 case atStart=>exact ⟨0,Nat.zero_le _,rfl,Lib.hid (fun i hi=>by omega),Below.refl _ _⟩
 case round =>
  obtain ⟨k,hk,rfl,hs,hb⟩:=hrel
  by_cases hlt:k < N
  ·obtain ⟨b1,o1,c1,a',cap',e1,x1,⟨hm2,hm'⟩,st⟩:=S0.out.one (k:=k) (by have:=HN.out;omega)
   rw [HN.out] at e1;injection e1 with e1 _ e2;subst e1 e2;unfold maxLen at hm';have BK:=Lib.hid (BAD.out k hlt);have ST:=Lib.hid st;have SA:=Lib.hid (fun hp=>(steps_at st hp).2);have X1:=Lib.hid x1;have l1:=World.block_lt_of_cell? _ _ x1
   have NX:Hid ((osc O k).calm→CalmTo O (k+1)):=Lib.hid (fun h i hi=>by
    by_cases e:i=k
    ·subst e;exact h
    ·exact hs.out i (by omega))
   clear st x1;generalize hok:osc O (k:Int)=o at *;clear hok;obtain ⟨m,A,R⟩:=o;simp only at ST SA X1 hm2;have x0:=(hb.out.cell l1).trans X1.out;go_wp2;clear x0
   rename World=>wz
   go_loopw [6] (fun i wr=>∃ t:Nat,t≤m∧i = .int .i64 t∧Hid (RateTo ⟨m,A,R⟩ t)∧Hid (Below w.heap.size w wr)) (fun i _=>m - (intOf i).toNat)
   case atStart=>exact ⟨0,Nat.zero_le _,rfl,Lib.hid (fun i hi=>by omega),hb⟩
   case round =>
    obtain ⟨t,ht,rfl,hr,hb2⟩:=hrel
    rename World=>wy
    have x0:=(hb2.out.cell l1).trans X1.out
    by_cases htm:t < m
    ·obtain ⟨b2,o2,rfl,hA⟩:=SA.out (by omega)
     obtain ⟨_,y2⟩:=hA t htm;have x2:=(hb2.out.cell (World.block_lt_of_cell? _ _ y2)).trans y2;have HA:=Lib.hid hA;clear hA y2;have RN:=Lib.hid (fun h1 h2=>rate_next hr.out h1 h2);have RB:=Lib.hid (fun h=>rate_bad (o:=⟨m,A,R⟩) htm h);simp only at RN RB;generalize R t=r at *
     by_cases h1:r < -2000
     ·have Q:=Lib.hid (BK.out (RB.out (.inl h1)))
      clear RN RB BK NX;go_wp2
      go_ret
      exact ⟨Tk.ret_bool Q.out.symm,hb2.out⟩
     ·by_cases h2:2000 < r
      ·have Q:=Lib.hid (BK.out (RB.out (.inr h2)))
       clear RN RB BK NX;go_wp2
       go_ret
       exact ⟨Tk.ret_bool Q.out.symm,hb2.out⟩
      ·have RT:=Lib.hid (RN.out h1 h2)
       clear RN RB;go_wp2
       go_roundw
       case rel=>exact ⟨t+1,by omega,by go_num,RT,hb2⟩
       case measure=>simp [intOf];omega
    ·obtain rfl:t=m:=by omega
     have GA:=Lib.hid (rgood_any wy _ t A R (ST.out.below hb2.out));have YE:=Lib.hid (fun g=>NX.out (rate_calm (o:=⟨t,A,R⟩) hr.out g));have NE:Hid (goodB t A R=false→q=false):=Lib.hid (fun g=>BK.out fun c=>by have:=Tk.goodB_yes c.good;simp only at this;rw [g] at this;cases this);simp only at YE;generalize goodB t A R=gg at *
     cases gg with
     | true =>
       have Y:=Lib.hid (YE.out rfl);clear YE NE BK NX;go_wp2_with fail;refine GA.out.mono ?_;rintro e w5 ⟨rfl,b5⟩;have B5:=Lib.hid (hb2.out.trans (b5.mono hb2.out.size));clear b5 GA;go_wp2
       go_roundw
       case rel=>exact ⟨k+1,by omega,by go_num,Y,B5⟩
       case measure=>simp [intOf];omega
     | false =>
       have Q:=Lib.hid (NE.out rfl);clear YE NE BK NX;go_wp2_with fail;refine GA.out.mono ?_;rintro e w5 ⟨rfl,b5⟩;have B5:=Lib.hid (hb2.out.trans (b5.mono hb2.out.size));clear b5 GA;go_wp2
       go_ret
       exact ⟨Tk.ret_bool Q.out.symm,B5.out⟩
  ·obtain rfl:k=N:=by omega
   have Q:=Lib.hid (ALL.out hs.out);clear BAD ALL
   by_cases e:k=n
   ·subst e
    go_wp2
    go_ret
    exact ⟨Tk.ret_bool (by rw [Q.out];simp),hb.out⟩
   ·have en:((k:Int) == (n:Int))=false:=by simp;omega
    go_wp2
    go_ret
    exact ⟨Tk.ret_bool (by rw [Q.out];simp;omega),hb.out⟩
end Go.Proofs.YtpkipilggkbkeaaGreatDoor.Bu
namespace Go.Proofs.YtpkipilggkbkeaaGreatDoor.Bu
open Go.RowKit Go.Maps
open Sp (S2 fr tp Sp)
open Rw (Rd Ow At)
open Wi (Plain PlainOf Low Made)
open Tk (GoodP Glo rglobal_any)
open Ro (may_len)
open Ck (LL lat tE RdL may_all)
open Ua (upd)
open Sa (rhear_any HearPost)
open Pa (Sts Rfl RAp PI Nr Hrf K2 KB KN ptr sat vat Hr hput okH tb_byt hr rdE rdL rdS rdS_at rdS_len hr_ok rround_any RroundPost rfl_nil rapply_gen RapPost rcopy_any RcpPost rap_good rap_of infoM push_at wp_push_at tab_each not_bad atB RowY bys zI lowF hb hq hb_put hq_put updI run_zero store_by_new infoY ix_b ix_q)
open Fl (row_cell row_frozen)
attribute [local irreducible] Sd.wpSd wpQuiet
noncomputable def lisG (x l:List S2) (r:Osc):Hr:=fun s=>if 1≤s∧s≤16 then some (lisS x l r s).1 else none
section
variable {x l:List S2} {r:Osc}
theorem lisG_yes {s:Int} (h1:1≤s) (h2:s≤16):lisG x l r s=some (lisS x l r s).1:=if_pos ⟨h1,h2⟩
theorem lisG_out {s:Int} (h:s < 1∨16 < s):lisG x l r s=none:=if_neg fun g=>by omega
theorem lisS_byt (s:Int):Pa.byt (lisS x l r s).1:=by
 unfold lisS lisV
 split
 ·exact tb_byt _
 ·unfold Pa.byt;simp
theorem lisG_ok:okH (lisG x l r):=fun n y h=>by
 unfold lisG at h
 split at h
 ·injection h with h;subst h;exact lisS_byt n
 ·cases h
theorem lisG_same (s:Int) (h:(lis x l r s).isSome=true):(lisG x l r s).getD 0=(lis x l r s).getD 0:=by
 unfold lis at h ⊢
 split at h
 ·rename_i g
  rw [if_pos g,lisG_yes g.1 g.2.1]
 ·cases h
theorem lis_isB {s:Int} (h1:1≤s) (h2:s≤16):(lis x l r s).isSome=(decide ((lisS x l r s).2.2=0) && !(lisS x l r s).2.1):=by
 by_cases q:(lisS x l r s).2.2=0∧(lisS x l r s).2.1=false
 ·rw [lis_yes h1 h2 q.1 q.2,q.1,q.2];rfl
 ·rw [lis_no q]
  cases o:(lisS x l r s).2.1 with
  | true=>simp
  | false=>rw [decide_eq_false fun z=>q ⟨z,o⟩];rfl
end
theorem hb_step {g:Hr} {k:Nat} (h1:1≤k) {y:Int} (e:g k=some y) (i:Nat):updI (hb (lowH g k)) k y i=hb (lowH g (k+1)) i:=by rw [hb_put,low_yes h1 e]
theorem hq_step {h:Hr} {k:Nat} (h1:1≤k) {b:Bool} (e:(h k).isSome=b) (i:Nat):upd (hq (lowH h k)) k b i=hq (lowH h (k+1)) i:=by
 cases b with
 | true =>
   obtain ⟨y,e'⟩:=Option.isSome_iff_exists.1 e;rw [hq_put _ k y,low_yes h1 e']
 | false =>
   have e':h k=none:=by simpa using e
   rw [← low_no e'];unfold upd
   split
   ·rename_i q
    subst q;unfold hq lowH;rw [if_neg (by omega)]
    rfl
   ·rfl
structure YI (w:World) (gy:Nat) (g h:Hr) (k:Nat) (wr:World):Prop where
 row:RowY wr gy (hb (lowH g k)) (hq (lowH h k))
 lo:w.heap.size≤gy
 bel:Below w.heap.size w wr
theorem YI.below {w wr w':World} {gy k:Nat} {g h:Hr} (H:YI w gy g h k wr) (b:Below wr.heap.size wr w'):YI w gy g h k w':=⟨H.row.below b H.row.lt,H.lo,H.bel.trans (b.mono H.bel.size)⟩
theorem YI.put {w wr:World} {gy k:Nat} {g h:Hr} (H:YI w gy g h k wr) (hk:k < 17) (h1:1≤k) {y:Int} {b:Bool} (e:g k=some y) (e':(h k).isSome=b):YI w gy g h (k+1) ((wr.setCell ⟨gy,k,none⟩ (.int .u8 y)).setCell ⟨gy,17+k,none⟩ (.bool b)) :=
 ⟨((H.row.setb hk y).setq hk b).to (fun i _=>hb_step h1 e i) (fun i _=>hq_step h1 e' i),H.lo,(H.bel.setCell (by exact H.lo) _).setCell (by exact H.lo) _⟩
theorem yi_new {w:World} {g h:Hr} : YI w w.heap.size g h 1 (w.alloc (.cells (bys zI lowF) 78)) :=
 ⟨(RowY.new w zI lowF).to (fun i _=>by rw [low_one];rfl) (fun i _=>by rw [low_one];rfl),Nat.le_refl _,(Below.refl _ _).alloc (Nat.le_refl _) _⟩
theorem rhear_at {l:List S2} {r:Osc} (hp:Plain l) {W w':World} {e:Ending} {k:Nat} (h:HearPost W l r.A r.R r.n (Glo r.A r.R r.n (224 * (k:Int) - 20)) (Glo r.A r.R r.n (224 * (k:Int)+20)) e w') :
 e = .returned (.tuple #[.int .u8 (lisS l l r k).1,.bool (lisS l l r k).2.1,.int .i64 (lisS l l r k).2.2])∧Below W.heap.size W w':=by
 obtain ⟨x,hx,he,hb⟩:=h;obtain rfl:=hx.one ⟨hp,fun _=>Iff.rfl⟩;exact ⟨he,hb⟩
set_option maxHeartbeats 8000000 in
theorem brround_any {w:World} {vs vt vl vp vo:Value} {S:Sts} {T:LL} {V:List Bool} {P:List S2} {O:List Osc} (HS:Rfl w vs S) (HT:RdL w vt T) (HV:Rd KB w vl V) (RP:Rd K2 w vp P) (HO:OsL w vo O) (hd:∀ i,i < S.length→0≤(sat S i).2∧(sat S i).2 < 900000) :
 Calls Tryz.prog 9 #[vs,vt,vl,vp,vo] w (RroundPost w (buE S T V O) (buL S T V P O)):=by
 have RO:=Lib.hid (rround_any HS HT HV (Rd.nil w) hd);unfold RroundPost at RO;obtain ⟨sa,cs,rfl,ms⟩:=HS.slice;obtain ⟨oa,co,rfl,mo1,mo⟩:=HO.slice;unfold maxLen at ms mo;have OS:=Lib.hid HO;have HS0:=Lib.hid HS;have HT0:=Lib.hid HT;have HV0:=Lib.hid HV;have RP0:=Lib.hid RP;have DD:=Lib.hid hd;clear HS HT HV RP HO hd
 by_cases hE:rdE S T V=0
 ·obtain ⟨f1,f2,f3,f4,f5⟩:=rdE_zero hE
  have WILD:Hid (¬ (O.length=S.length∧calmLB O=true)→∀ w',Below w.heap.size w w'→RroundPost w (buE S T V O) (buL S T V P O) (.returned (.tuple #[.slice none 0 0,.int .i64 1])) w'):=Lib.hid (fun h w' b=>by
   obtain ⟨e1,e2⟩:=buE_wild (P:=P) hE h;rw [e1,e2]
   exact ⟨_,rfl,rfl_nil w',b⟩)
  have CA:=Lib.hid (fun W b=>rcalm_any W _ O (OS.out.below (w':=W) b) S.length (by omega))
  by_cases hc:O.length=S.length∧calmLB O=true
  ·obtain ⟨hl,hcl⟩:=hc
   obtain ⟨e1,e2⟩:=buE_ok (P:=P) hE hl hcl;have cl:=of_calmLB hcl;have BN:Hid (Br w (.slice sa S.length cs) vt vl vp (.slice oa O.length co) S T V P O):=Lib.hid ⟨⟨HS0.out,HT0.out,HV0.out,f3,f4,f5⟩,RP0.out,OS.out,hl,f2,cl⟩;have LN:=Lib.hid (fun W b=>rline_any (BN.out.below (w':=W) b));have LQ:Hid (∀ l,LineP S T V P O l→∀ k:Nat,k < S.length→lis l l (osc O k)=hr S T V P):=Lib.hid (fun l h k hk=>lis_is f5 (by rw [hl,f3]) cl ⟨h.1,fun _=>Iff.rfl⟩ h.2 (osc_calm cl (by omega)));have LF:Hid (∀ l,LineP S T V P O l→Wi.Near l):=Lib.hid (fun l h=>plain_near h.1 fun u hu=>lowL_at ((h.2 u).1 hu));have CO:Hid (∀ k:Nat,k < S.length→(osc O k).calm):=Lib.hid (fun k hk=>osc_calm cl (by omega));have OH:=Lib.hid (hr_ok S T V P);rw [hE] at RO;rw [decide_eq_true hl,hcl] at CA;rw [e1,e2];clear WILD HT0 HV0 RP0;generalize hr S T V P=h at *;have AT:=Lib.hid (fun i hi=>rdS_at S T V h (i:=i) hi);have RL:=Lib.hid (rdS_len S T V h);generalize rdS S T V h=S' at *;generalize rdL S T V []=rl at *;have HL:=Lib.hid hl;have F3:=Lib.hid f3;have F4:=Lib.hid f4;rw [hl] at CA LN BN ⊢;clear hl f3 f4 f5 e1 e2 cl hcl hE;generalize hn:S.length=n at *;have HN:=Lib.hid hn;clear hn
   go_enter Tryz.func9,Tryz.ntmps9
   go_wp2_with fail;refine RO.out.mono ?_;rintro e w1 ⟨v1,rfl,_,b1⟩;have C1:=Lib.hid (CA.out w1 b1);have B1:=Lib.hid b1;clear b1 CA RO;go_wp2_with fail;refine C1.out.mono ?_;rintro e w2 ⟨rfl,b2⟩;have B2:=Lib.hid (B1.out.trans (b2.mono B1.out.size));have L2:=Lib.hid (LN.out w2 B2.out);clear b2 C1 B1 LN;go_wp2_with fail;refine L2.out.mono ?_;rintro e w3 ⟨v3,l,rfl,own3,lp,b3⟩;have BW:=Lib.hid (B2.out.trans (b3.mono B2.out.size));have SL3:=Lib.hid own3.sp;have LP:=Lib.hid lp;obtain ⟨la,lc,rfl,_⟩:=SL3.out.slice;clear own3 lp b3 L2 B2;generalize hll:l.length=ln at *;have HLL:=Lib.hid hll;clear hll;have P0:Hid (PI RAp 43 w3 S' 0 (.slice (some ⟨w3.heap.size,0,none⟩) 0 0) [] (w3.alloc (.cells #[] 43))):=Lib.hid (PI.made (Below.refl _ _));go_wp2
   rename World=>wA
   go_loopw [16,15] (fun i o wr2=>∃ (k:Nat) (ps:List Nat),k≤n∧i = .int .i64 k∧Hid (PI RAp 43 wA S' k o ps wr2)) (fun i _ _=>n - (intOf i).toNat)
   case atStart=>exact ⟨0,[],Nat.zero_le _,rfl,P0⟩
   case round =>
    obtain ⟨k,ps,hk,rfl,I⟩:=hrel;clear P0;have BI:=Lib.hid (BW.out.trans (I.out.bel.mono BW.out.size));obtain ⟨av,cv,ev,_⟩:=I.out.own.slice;have OWN:=Lib.hid I.out.own;generalize ps.length=Lp at ev;subst ev
    by_cases hlt:k < n
    ·obtain ⟨b1,o1,c1,s,e1,cS,hS⟩:=BN.out.ns.st.one (k:=k) (by have:=HN.out;omega)
     rw [HN.out] at e1;injection e1 with e1 _ e2;subst e1 e2;obtain ⟨b2,o2,c2,at',ct,e2,cT,_,_⟩:=BN.out.ns.tb.one (k:=k) (by have:=F3.out;omega);have RT:=Lib.hid (BN.out.ns.tb.rd (k:=k) (by have:=F3.out;omega) e2 cT);rw [F3.out] at e2;subst e2;obtain ⟨a3,c3,e3,_,_,h3⟩:=BN.out.ns.lv;rw [F4.out] at e3;subst e3;obtain ⟨b3,o3,rfl,A3⟩:=h3 (by have:=F4.out;omega);have cV:=atB (A3.below BI.out) (i:=k) (by have:=F4.out;omega);rw [show V.getD k false=vat V k from rfl] at cV;obtain ⟨b4,o4,c4,a4,d4,e4,cO,_,s4⟩:=BN.out.os.one (k:=k) (by have:=HL.out;omega);rw [HL.out] at e4;injection e4 with e4 _ e5;subst e4 e5;have S4:=Lib.hid s4;have EA:=Lib.hid (AT.out k (by have:=HN.out;omega));have OKT:=Lib.hid (tab_each BN.out.ns.ok (k:=k) (by have:=F3.out;omega));have ML:=Lib.hid (may_len (may_all (not_bad BN.out.ns.ok) k (by have:=F3.out;omega)));have HS2:=Lib.hid hS;have ql:∀ j,(Value.slice av Lp cv).ownBlock=some j→w.heap.size≤j:=fun j e=>Nat.le_trans BW.out.size (World.ownsRow.lt OWN.out j e).1;have QL:=Lib.hid ql;have QF:Hid (∀ x,Hrf w s x→∀ W,Below w.heap.size w W→RAp W s x (Value.slice av Lp cv).ownBlock):=Lib.hid (fun x hx W hb=>rap_of hx hb QL.out);unfold ptr at cS;have CS:=Lib.hid cS;have CT:=Lib.hid cT;have CC:=Lib.hid cO;have lS:=World.block_lt_of_cell? _ _ cS;have lT:=World.block_lt_of_cell? _ _ cT;have lO:=World.block_lt_of_cell? _ _ cO;have LNG:=Lib.hid I.out.len;clear hS h3 A3 s4 cS cT cO ql
     cases hv:vat V k with
     | true =>
       rw [hv] at cV;rw [hv,if_pos rfl] at EA;have EQ:=Lib.hid (LQ.out l LP.out k hlt);have CK:=Lib.hid (CO.out k hlt);have GO:Hid (okH (lisG l l (osc O k))):=Lib.hid lisG_ok;have AG:Hid (∀ s,(h s).isSome=true→(lisG l l (osc O k) s).getD 0=(h s).getD 0):=Lib.hid (by rw [← EQ.out];exact lisG_same);have LB:Hid (∀ t:Nat,1≤t→t≤16→(h t).isSome=(decide ((lisS l l (osc O k) t).2.2=0) && !(lisS l l (osc O k) t).2.1)):=Lib.hid (fun t h1 h2=>by rw [← EQ.out];exact lis_isB (by omega) (by omega));have LG:Hid (∀ t:Nat,1≤t→t≤16→lisG l l (osc O k) t=some (lisS l l (osc O k) t).1):=Lib.hid (fun t h1 h2=>lisG_yes (by omega) (by omega));have LE:Hid (lowH (lisG l l (osc O k)) 17=lisG l l (osc O k)∧lowH h 17=h):=Lib.hid ⟨low_end fun n h=>lisG_out h,low_end fun n q=>by rw [← EQ.out];exact lis_out q⟩;have GP:Hid (GoodP (osc O k).n (osc O k).A (osc O k).R):=Lib.hid (Sa.Calm.good CK.out);have SLB:=Lib.hid (fun W (b:Below wA.heap.size wA W)=>SL3.out.below b);have GL:=Lib.hid (fun W b m=>rglobal_any W _ (osc O k).n (osc O k).A (osc O k).R m (S4.out.below (w':=W) b) GP.out);have HE:=Lib.hid (fun W b b' (t:Nat)=>(rhear_any W _ _ l (SLB.out W b) (LF.out l LP.out) (osc O k).n (osc O k).A (osc O k).R (S4.out.below (w':=W) b') GP.out (Glo (osc O k).A (osc O k).R (osc O k).n (224 * (t:Int) - 20)) (Glo (osc O k).A (osc O k).R (osc O k).n (224 * (t:Int)+20))).mono fun e w' h=>rhear_at LP.out.1 h);generalize hg:lisG l l (osc O k)=g at *;clear hg EQ;generalize hlk:(lat T k).length=lk at *;have hz:=run_zero;have Y0:Hid (YI wr wr.heap.size g h 1 (wr.alloc (.cells (bys zI lowF) 78))):=Lib.hid yi_new
       go_upto_region 14 with ((with_reducible refine store_by_new (o:=⟨none,_,_,_,_,_⟩) rfl _ _ rfl zI lowF ?_ ?_ ?_);(exact rfl);(exact rfl))
       clear hz cV;generalize (wr.alloc (.cells (bys zI lowF) 78))=W0 at *;generalize hgy:wr.heap.size=gy at Y0 ⊢;have HGY:=Lib.hid hgy;clear hgy;go_wp2
       rename World=>wq
       go_loopw [18] (fun i w2=>∃ t:Nat,1≤t∧t≤17∧i = .int .i64 t∧Hid (YI wr gy g h t w2)) (fun i _=>17 - (intOf i).toNat)
       case atStart=>exact ⟨1,by omega,by omega,rfl,Y0⟩
       case round =>
        obtain ⟨t,ht1,ht,rfl,Y⟩:=hrel;clear Y0;have BY:=Lib.hid (BI.out.trans (Y.out.bel.mono BI.out.size));have AY:=Lib.hid (I.out.bel.trans (Y.out.bel.mono I.out.bel.size))
        by_cases htl:t < 17
        ·go_upto_region 17 with fail
         have sO:=Sc.cell_in (C:=fun W=>Below w.heap.size w W) (a:=⟨b4,o4+k,none⟩) (fun W' h=>(h.cell lO).trans CC.out);have BD:=Lib.hid (BY.out.trans ((Below.refl wr.heap.size wr).drew.mono BY.out.size));have AD:=Lib.hid (AY.out.trans ((Below.refl wr.heap.size wr).drew.mono AY.out.size));have YD:=Lib.hid (Y.out.below ((Below.refl wr.heap.size wr).drew));have ne:Nonempty (Sc.In (fun W=>Below w.heap.size w W)):=⟨⟨_,BD.out⟩⟩;have wk1:IntKind.i64.wrap (224 * (t:Int))=224 * (t:Int):=IntWalk.i64_in _ (by omega);have wk2:IntKind.i64.wrap (224 * (t:Int) - 20)=224 * (t:Int) - 20:=IntWalk.i64_in _ (by omega);have wk3:IntKind.i64.wrap (224 * (t:Int)+20)=224 * (t:Int)+20:=IntWalk.i64_in _ (by omega);refine Sc.start (fun W=>Below w.heap.size w W) [(false,0),(false,1),(false,2),(false,3),(false,4),(false,5),(false,6),(false,7),(false,8),(false,9),(false,10),(false,11),(false,13),(false,14),(false,15),(false,16),(false,17),(false,18),(false,19),(true,12),(true,20),(true,21),(false,22),(false,23),(false,24),(false,25),(false,26),(false,27),(false,28)] (by kernel_rfl) (by kernel_rfl) (by kernel_rfl) BD.out ?_;dsimp only [Sd.picks,List.getElem?_cons_succ,List.getElem?_cons_zero]
         repeat (refine Sd.lit ?_;quiet_step (fail);refine wpQuiet_nil ?_)
         clear sO Y BY AY;generalize wr.drew=Wd at *;have G1:=Lib.hid (GL.out Wd BD.out (224 * (t:Int) - 20));refine Sd.call (by rfl) (fun K hK=>?_);go_simp;refine G1.out.mono ?_;rintro e W1 ⟨rfl,bb⟩;have BD1:=Lib.hid (BD.out.trans (bb.mono BD.out.size));have AD1:=Lib.hid (AD.out.trans (bb.mono AD.out.size));have YD1:=Lib.hid (YD.out.below bb);refine hK _ _ (Sc.Cl.of BD1.out) ?_;clear hK K bb G1 YD;have G2:=Lib.hid (GL.out W1 BD1.out (224 * (t:Int)+20));refine Sd.call (by rfl) (fun K hK=>?_);go_simp;refine G2.out.mono ?_;rintro e W2 ⟨rfl,bb⟩;have BD2:=Lib.hid (BD1.out.trans (bb.mono BD1.out.size));have AD2:=Lib.hid (AD1.out.trans (bb.mono AD1.out.size));have YD2:=Lib.hid (YD1.out.below bb);refine hK _ _ (Sc.Cl.of BD2.out) ?_;clear hK K bb G2 YD1;have G3:=Lib.hid (HE.out W2 AD2.out BD2.out t);have LBt:=Lib.hid (LB.out t ht1 (by omega));have LGt:=Lib.hid (LG.out t ht1 (by omega));generalize lisS l l (osc O k) t=q at *;obtain ⟨y,o,z⟩:=q;simp only at LBt LGt G3;refine Sd.call (by rfl) (fun K hK=>?_);go_simp;refine G3.out.mono ?_;rintro e W3 ⟨rfl,bb⟩;have BD3:=Lib.hid (BD2.out.trans (bb.mono BD2.out.size));have Y3:=Lib.hid (YD2.out.below bb);refine hK _ _ (Sc.Cl.of BD3.out) ?_;clear hK K bb G3 YD2 wk1 wk2 wk3
         repeat (refine Sd.lit ?_;quiet_step (fail);refine wpQuiet_nil ?_)
         refine Sd.done ?_;have q0:=Y3.out.row.cb htl;have q1:=(Y3.out.row.setb htl y).cq htl;have r0:=row_frozen Y3.out.row t;have r1:=row_frozen (Y3.out.row.setb htl y) (17+t)
         by_cases hzz:z=0
         ·have Y4:=Lib.hid (Y3.out.put htl ht1 LGt.out (by rw [LBt.out,decide_eq_true hzz,Bool.true_and]:_ = !o))
          clear LBt LGt Y3;subst hzz
          cases o
          all_goals
           go_wp2
           go_roundw
           case rel=>exact ⟨t+1,by omega,by omega,by go_num,Y4⟩
           case measure=>simp [intOf];omega
         ·have Y4:=Lib.hid (Y3.out.put htl ht1 LGt.out (by rw [LBt.out,decide_eq_false hzz,Bool.false_and]:_=false))
          have d0:(z == 0)=false:=by simpa using hzz
          clear LBt LGt Y3;go_wp2
          go_roundw
          case rel=>exact ⟨t+1,by omega,by omega,by go_num,Y4⟩
          case measure=>simp [intOf];omega
        ·obtain rfl:t=17:=by omega
         have ROW:Hid (RowY wr gy (hb g) (hq h)):=Lib.hid (by have:=Y.out.row;rw [LE.out.1,LE.out.2] at this;exact this);have I7:=Lib.hid (I.out.below rap_good Y.out.bel);clear Y I OWN GL HE LB LG LE SLB AY;go_upto_region 19 with fail;have sS:=Sc.cell_in (C:=fun W=>Below w.heap.size w W) (a:=⟨b1,o1+k,none⟩) (fun W' h=>(h.cell lS).trans CS.out);have sT:=Sc.cell_in (C:=fun W=>Below w.heap.size w W) (a:=⟨b2,o2+k,none⟩) (fun W' h=>(h.cell lT).trans CT.out);have BD:=Lib.hid (BY.out.trans ((Below.refl wr.heap.size wr).drew.mono BY.out.size));have ne:Nonempty (Sc.In (fun W=>Below w.heap.size w W)):=⟨⟨_,BD.out⟩⟩;have ID:=Lib.hid (I7.out.below rap_good ((Below.refl wr.heap.size wr).drew));have YD:=Lib.hid (ROW.out.below ((Below.refl wr.heap.size wr).drew) ROW.out.lt);refine Sc.start (fun W=>Below w.heap.size w W) [(false,0),(false,1),(false,2),(false,3),(false,4),(false,5),(false,6),(false,7),(false,8),(true,9),(true,10),(true,11),(true,12),(false,13)] (by kernel_rfl) (by kernel_rfl) (by kernel_rfl) BD.out ?_;dsimp only [Sd.picks,List.getElem?_cons_succ,List.getElem?_cons_zero]
         repeat (refine Sd.lit ?_;quiet_step (fail);refine wpQuiet_nil ?_)
         clear sS sT I7 ROW BY;generalize wr.drew=Wd at *;refine Sd.call (by rfl) (fun K hK=>?_);refine wp_load_row 78 _ rfl gy rfl _ _ _ _ YD.out Tryz.underlying78 rfl (infoY _ _) ?_;refine hK _ _ (Sc.Cl.of BD.out) ?_;clear hK K;have AP:=Lib.hid (rapply_gen (w:=Wd) (r0:=s) (F:=fun j=>(Value.slice av Lp cv).ownBlock=some j) (x:=sat S k) (QF.out _ HS2.out Wd BD.out) (fun j e=>ID.out.lt j e) (DD.out k (by omega)) (RT.out.below BD.out) (fun y hy=>(OKT.out y hy).1) (by have:=ML.out;omega) OH.out GO.out AG.out);unfold RapPost at AP;refine Sd.call (by rfl) (fun K hK=>?_);go_simp;refine AP.out.mono ?_;rintro e w5 ⟨gq,rfl,rs5,_,b5⟩;have B5:=Lib.hid (BD.out.trans (b5.mono BD.out.size));refine hK _ _ (Sc.Cl.of B5.out) ?_;clear hK K;unfold ptr;refine Sd.call (by rfl) (fun K hK=>?_);go_simp;have BL:=b5.alloc b5.size (.cells #[.pointer (some ⟨gq,0,none⟩)] 43);have I5:=Lib.hid (ID.out.below rap_good BL);have G5:Hid (RAp (w5.alloc (.cells #[.pointer (some ⟨gq,0,none⟩)] 43)) gq (sat S' k) (Value.slice av Lp cv).ownBlock):=Lib.hid (rap_good.below (by rw [EA.out];exact rs5) ((Below.refl w5.heap.size w5).alloc (Nat.le_refl _) _));have N6:=Lib.hid (heap_alloc_new w5 (.cells #[.pointer (some ⟨gq,0,none⟩)] 43));have B6:=Lib.hid (B5.out.alloc B5.out.size (.cells #[.pointer (some ⟨gq,0,none⟩)] 43));refine hK _ _ (Sc.Cl.of B6.out) ?_;clear hK K rs5 b5 AP BL ID BD YD;generalize w5.heap.size=g5 at *;generalize (w5.alloc (.cells #[.pointer (some ⟨gq,0,none⟩)] 43))=W6 at *;refine Sd.call (by rfl) (fun K hK=>?_);refine wp_push_at (K:=KN) Tryz.underlying25 infoM rfl (by omega) _ _ rfl wA.heap.size _ _ rfl I5.out.own _ gq rfl ?d1 ?d2 ?d3 ?_
         case d1 =>
          intro j u hu
          match j,hu with
          | 0,hu=>simp [KN] at hu;subst hu;exact row_cell N6.out 0
          | j+1,hu=>simp [KN] at hu
         case d2=>rw [LNG.out];omega
         case d3=>have:=I5.out.bel.size;exact this
         intro v' w6 o6 g6 h6
         have NEW:=Lib.hid (I5.out.push rap_good o6 g6 h6 G5.out);refine hK _ _ (Sc.Cl.of (BW.out.trans (NEW.out.bel.mono BW.out.size))) ?_;clear hK K o6 g6 h6 I5 G5 B5 B6 N6;obtain ⟨av',cv',ev',_⟩:=NEW.out.own.slice;generalize (ps ++ [gq]).length=Lp' at ev';subst ev'
         repeat (refine Sd.lit ?_;quiet_step (fail);refine wpQuiet_nil ?_)
         refine Sd.done ?_;go_wp2
         go_roundw
         case rel=>exact ⟨k+1,ps ++ [gq],by omega,by go_num,NEW⟩
         case measure=>simp [intOf];omega
     | false =>
       rw [hv] at cV;rw [hv,if_neg Bool.false_ne_true] at EA;have sS:=(BI.out.cell lS).trans CS.out;have RC:=Lib.hid (rcopy_any (w:=wr) (r:=s) (F:=fun j=>(Value.slice av Lp cv).ownBlock=some j) (x:=sat S k) (QF.out _ HS2.out wr BI.out) (fun j e=>I.out.lt j e));unfold RcpPost at RC;generalize (lat T k).length=lk at *;generalize (osc O k).n=on at *;go_wp2_with fail;refine RC.out.mono ?_;rintro e w5 ⟨g,rfl,rs5,_,b5⟩;have BL:=b5.alloc b5.size (.cells #[.pointer (some ⟨g,0,none⟩)] 43);have I5:=Lib.hid (I.out.below rap_good BL);have G5:Hid (RAp (w5.alloc (.cells #[.pointer (some ⟨g,0,none⟩)] 43)) g (sat S' k) (Value.slice av Lp cv).ownBlock):=Lib.hid (rap_good.below (by rw [EA.out];exact rs5) ((Below.refl w5.heap.size w5).alloc (Nat.le_refl _) _));clear rs5 b5 I OWN RC sS BL cV
       (try unfold ptr)
       go_wp2_with (at_builtin;refine push_at (K:=KN) Tryz.underlying25 infoM rfl (by omega) rfl _ _ rfl wA.heap.size _ _ rfl I5.out.own _ g rfl ?d1 ?d2 ?d3 ?_)
       case d1 =>
        intro j u hu
        match j,hu with
        | 0,hu=>simp [KN] at hu;subst hu;unfold ptr;go_simp
        | j+1,hu=>simp [KN] at hu
       case d2=>rw [LNG.out];omega
       case d3=>have:=I5.out.bel.size;exact this
       intro v' w6 o6 g6 h6
       have NEW:=Lib.hid (I5.out.push rap_good o6 g6 (by simpa using h6) G5.out);clear o6 g6 h6 I5 G5;obtain ⟨av',cv',ev',_⟩:=NEW.out.own.slice;generalize (ps ++ [g]).length=Lp' at ev';subst ev';go_wp2
       go_roundw
       case rel=>exact ⟨k+1,ps ++ [g],by omega,by go_num,NEW⟩
       case measure=>simp [intOf];omega
    ·obtain rfl:k=n:=by omega
     have RES:Hid (RroundPost w 0 S' (.returned (.tuple #[.slice av Lp cv,.int .i64 0])) wr):=Lib.hid ⟨_,rfl,PI.rfl_ (S:=S') (by rw [RL.out];exact I.out),BI.out⟩;clear I OWN;go_wp2
     go_ret2
     exact RES.out
  ·have WL:=Lib.hid (WILD.out hc)
   have hb:(decide (O.length=S.length) && calmLB O)=false:=by
    by_cases e:O.length=S.length
    ·rw [Bool.eq_false_iff.2 fun c=>hc ⟨e,c⟩,Bool.and_false]
    ·rw [decide_eq_false e];rfl
   rw [hE] at RO;rw [hb] at CA;generalize buE S T V O=be at *;generalize buL S T V P O=bl at *;generalize rdL S T V []=rl at *;clear WILD OS HS0 DD hc hb;generalize S.length=n at *;generalize O.length=no at *
   go_enter Tryz.func9,Tryz.ntmps9
   go_wp2_with fail;refine RO.out.mono ?_;rintro e w1 ⟨v1,rfl,_,b1⟩;have C1:=Lib.hid (CA.out w1 b1);have B1:=Lib.hid b1;clear b1 CA RO;go_wp2_with fail;refine C1.out.mono ?_;rintro e w2 ⟨rfl,b2⟩;have RES:=Lib.hid (WL.out w2 (B1.out.trans (b2.mono B1.out.size)));clear b2 C1 WL;go_wp2
   go_ret2
   exact RES.out
 ·obtain ⟨e1,e2⟩:=buE_wrong (O:=O) (P:=P) hE
  rw [e1,e2];have hne:(rdE S T V != 0)=true:=by simpa using hE
  clear hE OS HS0 DD e1 e2;generalize rdE S T V=E at *;generalize rdL S T V []=rl at *;generalize S.length=n at *;generalize O.length=no at *
  go_enter Tryz.func9,Tryz.ntmps9
  go_wp2_with fail;refine RO.out.mono ?_;rintro e w1 ⟨v1,rfl,_,b1⟩;have RES:Hid (RroundPost w E [] (.returned (.tuple #[.slice none 0 0,.int .i64 E])) w1):=Lib.hid ⟨_,rfl,rfl_nil w1,b1⟩;clear b1 RO;go_wp2
  go_ret2
  exact RES.out
end Go.Proofs.YtpkipilggkbkeaaGreatDoor.Bu
namespace Go.Proofs.YtpkipilggkbkeaaGreatDoor.Fl
open Go.ChangeShapes Go.WideShapes Go.ChangeAt Go.RowKit Go.Deep
open Rw (Rd Ow At)
theorem rec_cells {H:Type} {enc:TypeId×Value→H} {W:World} {base fuel:Nat} {sp:Nat→Bool} {held:Bool} {cs:List Value} {x:DataW H×List MemPlace}
 (h:DataW.trod enc Tryz.prog W base sp held fuel 96 cs=some x):∃ r:R4,cs=K4.enc r∧okR r:=by
 have c4:Tryz.prog.cellsOf 96=4:=by kernel_rfl
 have c1:Tryz.prog.cellsOf 5=1:=by kernel_rfl
 obtain ⟨xs,m,_,_,hs,hx,hi⟩:=DataW.trod_array Tryz.underlying96 h;rw [c4] at hs
 match cs,hs,xs,hx,hi with
 | [u0,u1,u2,u3],_,[x0,x1,x2,x3],_,hi =>
   have e0:=hi 0 (by omega);have e1:=hi 1 (by omega);have e2:=hi 2 (by omega);have e3:=hi 3 (by omega);rw [c1] at e0 e1 e2 e3;obtain ⟨a,ha,_,wa⟩:=DataW.trod_int Tryz.underlying5 (x:=x0) e0;obtain ⟨b,hb,_,wb⟩:=DataW.trod_int Tryz.underlying5 (x:=x1) e1;obtain ⟨c,hc,_,wc⟩:=DataW.trod_int Tryz.underlying5 (x:=x2) e2;obtain ⟨d,hd,_,wd⟩:=DataW.trod_int Tryz.underlying5 (x:=x3) e3
   simp at ha hb hc hd
   subst ha hb hc hd;exact ⟨(a,b,c,d),rfl,bounds_u8 wa,bounds_u8 wb,bounds_u8 wc,bounds_u8 wd⟩
theorem recs_of {H:Type} {enc:TypeId×Value→H} {W:World} {u:Value} {base fuel:Nat} {sp:Nat→Bool} {held:Bool} {x:DataW H×List MemPlace}
 (h:DataW.trod enc Tryz.prog W base sp held fuel 63 [u]=some x):∃ l,Rd K4 W u l∧okL l:=by
 have c4:Tryz.prog.cellsOf 96=4:=by kernel_rfl
 rcases open_slice Tryz.underlying63 h with ⟨e,_⟩ | ⟨a,len,cap,m,n,D,Pl,e,_,hl,hm,hmm,_,hx⟩
 ·simp at e
  subst e;exact ⟨[],Rw.Rd.nil _,fun r hr=>by cases hr⟩
 ·simp at e
  subst e;have hlm:len≤m:=by rw [hmm];split <;> omega
  have each:∀ i,i < m→∃ r:R4,okR r∧∀ j u,(K4.enc r)[j]? = some u→W.cell? (a.add (i * 4+j))=some u:=fun i hi=>by
   obtain ⟨cs',h1,h2⟩:=hx i hi;rw [c4] at h1;obtain ⟨_,hlen,hcell⟩:=World.cells?_some h1;obtain ⟨r,rfl,ok⟩:=rec_cells h2;refine ⟨r,ok,fun j u hu=>?_⟩;have hj:j < 4:=by have:=(List.getElem?_eq_some_iff.1 hu).1;rw [hlen] at this;exact this
   have e:=hcell j hj;rw [add_add] at e;exact e.trans hu
  obtain ⟨q,hq⟩:=choose_lt each;have hlen:((List.range len).map q).length=len:=by simp
  have get:∀ i,i < len→((List.range len).map q).getD i z4=q i:=fun i hi=>by simp [List.getD,hi]
  refine ⟨(List.range len).map q,⟨some a,cap,by rw [hlen],⟨by rw [hlen];exact hl,nofun⟩,hm,fun h0=>?_⟩,fun r hr=>?_⟩
  ·rw [hlen] at h0
   obtain ⟨b,off,spot⟩:=a;have c0:=(hq 0 (by omega)).2 0 _ rfl;have hs:spot=none:=by simpa [Addr.add] using World.cell?_spot c0
   subst hs;refine ⟨b,off,rfl,fun i hi j u hu=>?_⟩;rw [hlen] at hi;have hu':(K4.enc (q i))[j]? = some u:=by rw [← get i hi];exact hu
   have c:=(hq i (by omega)).2 j u hu';rw [add_plain] at c
   show W.cell? ⟨b,off+i * 4+j,none⟩=some u
   rw [Nat.add_assoc];exact c
  ·obtain ⟨i,hi,rfl⟩:=List.mem_map.1 hr
   exact (hq i (by have:=List.mem_range.1 hi;omega)).1
end Go.Proofs.YtpkipilggkbkeaaGreatDoor.Fl
namespace Go.Proofs.YtpkipilggkbkeaaGreatDoor.Fs
open Go.ChangeShapes Go.WideShapes Go.ChangeAt Go.RowKit Go.Deep
open Rw (Rd Ow At)
open Fl (R4 z4 K4 rec4 okR okL rec_cells recs_of)
section
variable {H:Type} {enc:TypeId×Value→H} {W:World} {base fuel:Nat} {sp:Nat→Bool} {held:Bool} {cs:List Value} {x:DataW H×List MemPlace}
theorem file_cells (h:DataW.trod enc Tryz.prog W base sp held fuel 65 cs=some x):∃ q u l,cs = [.int .i64 q,u]∧Rd K4 W u l∧okL l:=by
 have c2:Tryz.prog.cellsOf 65=2:=by kernel_rfl
 have c1:Tryz.prog.cellsOf 3=1:=by kernel_rfl
 have c3:Tryz.prog.cellsOf 63=1:=by kernel_rfl
 obtain ⟨xs,m,_,_,hs,hx,hi⟩:=DataW.trod_struct Tryz.underlying65 h;rw [c2] at hs
 match cs,hs,xs,hx,hi with
 | [u,v],_,[x0,x1],_,hi =>
   have e0:DataW.trod enc Tryz.prog W base sp held m 3 (([u,v].drop 0).take (Tryz.prog.cellsOf 3))=some x0:=hi 0 _ rfl;have e1:DataW.trod enc Tryz.prog W base sp held m 63 (([u,v].drop 1).take (Tryz.prog.cellsOf 63))=some x1:=hi 1 _ rfl;rw [c1] at e0;rw [c3] at e1;obtain ⟨a,ha,_⟩:=DataW.trod_int Tryz.underlying3 (x:=x0) e0
   simp at ha
   subst ha;obtain ⟨l,R,ok⟩:=recs_of (u:=v) e1;exact ⟨a,v,l,rfl,R,ok⟩
end
def laid : List (String × DataW Unit) := [("errors.errorType", Rows.laid_errors_errorType)]
theorem et : Tryz.prog.globalNamed "errors.errorType" = some 0 := by kernel_rfl
theorem rt : (Tryz.prog.cutTypes.find? (·.1 == "internal/reflectlite.rtype")).map (·.2) = some 232 := by kernel_rfl
theorem oneRow:((List.range 308).filter fun t=>Tryz.prog.rowNamed t [101,114,114,111,114]) = [175]:=by kernel_rfl
theorem tsize:Tryz.prog.types.size=308:=by kernel_rfl
theorem glob_of {W:World} (h:laidMetH Tryz.prog laid W):Glob W:=by
 have h':laidMet Tryz.prog [] W∧handlesMet Tryz.prog laid W:=h;obtain ⟨name,u,ty,e1,e2,e3,e4,e5⟩:=h'.2 _ (List.mem_singleton.2 rfl);have en:name = [101,114,114,111,114]:=(Option.some.inj e1).symm;subst en;obtain rfl:=Option.some.inj (rt.symm.trans e2);have hm:ty∈(List.range 308).filter fun t=>Tryz.prog.rowNamed t [101,114,114,111,114]:=List.mem_filter.2 ⟨List.mem_range.2 (by rw [← tsize];exact e3),e4⟩;rw [oneRow] at hm;obtain rfl:=List.mem_singleton.1 hm;have hh:typeHandle Tryz.prog 175 = .pointer (some ⟨1,175,none⟩):=by kernel_rfl
 rw [hh] at e5;have:=World.var?_cell et e5 0;unfold Glob
 simpa using this
noncomputable def laidWorld (os:Os):World :=
 let w0:=World.holding Tryz.prog os ⟨#[],#[],[]⟩
 { w0 with heap:=w0.heap.modify 0 fun
  | .cells _ t frozen=>.cells #[.iface 232 (.agg #[.pointer (some ⟨1,175,none⟩)])] t frozen
  | o=>o }
theorem laidWorld_met (os:Os) (args:Array Value):laidMetH Tryz.prog laid ((laidWorld os).forCall (fun _ _=>0) ⟨#[],args,[]⟩).memory :=
 laidMetH_of_parts (laidMet_nil _ _) (by kernel_rfl)
end Go.Proofs.YtpkipilggkbkeaaGreatDoor.Fs
namespace Go.Proofs.YtpkipilggkbkeaaGreatDoor.Ro
open Go.ChangeShapes Go.WideShapes Go.ChangeAt Go.RowKit Go.Deep
open Rw (Rd Ow At)
theorem ent_cells {H:Type} {enc:TypeId×Value→H} {W:World} {base fuel:Nat} {sp:Nat→Bool} {held:Bool} {cs:List Value} {x:DataW H×List MemPlace}
 (h:DataW.trod enc Tryz.prog W base sp held fuel 98 cs=some x):∃ r:E5,cs=K5.enc r:=by
 have c5:Tryz.prog.cellsOf 98=5:=by kernel_rfl
 have c1:Tryz.prog.cellsOf 3=1:=by kernel_rfl
 obtain ⟨xs,m,_,_,hs,hx,hi⟩:=DataW.trod_struct Tryz.underlying98 h;rw [c5] at hs
 match cs,hs,xs,hx,hi with
 | [u0,u1,u2,u3,u4],_,[x0,x1,x2,x3,x4],_,hi =>
   have e0:DataW.trod enc Tryz.prog W base sp held m 3 (([u0,u1,u2,u3,u4].drop 0).take (Tryz.prog.cellsOf 3))=some x0:=hi 0 _ rfl;have e1:DataW.trod enc Tryz.prog W base sp held m 3 (([u0,u1,u2,u3,u4].drop 1).take (Tryz.prog.cellsOf 3))=some x1:=hi 1 _ rfl;have e2:DataW.trod enc Tryz.prog W base sp held m 3 (([u0,u1,u2,u3,u4].drop 2).take (Tryz.prog.cellsOf 3))=some x2:=hi 2 _ rfl;have e3:DataW.trod enc Tryz.prog W base sp held m 3 (([u0,u1,u2,u3,u4].drop 3).take (Tryz.prog.cellsOf 3))=some x3:=hi 3 _ rfl;have e4:DataW.trod enc Tryz.prog W base sp held m 3 (([u0,u1,u2,u3,u4].drop 4).take (Tryz.prog.cellsOf 3))=some x4:=hi 4 _ rfl;rw [c1] at e0 e1 e2 e3 e4;obtain ⟨a,ha,_⟩:=DataW.trod_int Tryz.underlying3 (x:=x0) e0;obtain ⟨b,hb,_⟩:=DataW.trod_int Tryz.underlying3 (x:=x1) e1;obtain ⟨c,hc,_⟩:=DataW.trod_int Tryz.underlying3 (x:=x2) e2;obtain ⟨d,hd,_⟩:=DataW.trod_int Tryz.underlying3 (x:=x3) e3;obtain ⟨e,he,_⟩:=DataW.trod_int Tryz.underlying3 (x:=x4) e4
   simp at ha hb hc hd he
   subst ha hb hc hd he;exact ⟨(a,b,c,d,e),rfl⟩
end Go.Proofs.YtpkipilggkbkeaaGreatDoor.Ro
namespace Go.Proofs.YtpkipilggkbkeaaGreatDoor.Pa
open Go.ChangeShapes Go.WideShapes Go.ChangeAt Go.RowKit Go.Deep
open Rw (Rd Ow At)
open Fl (R4 z4 K4 okR okL)
open Fs (Ent E3 file_cells)
open Ro (E5 K5 ent_cells)
open Ck (Hd sl zh)
theorem open_rd {α:Type} {K:Rw.Kind α} (Q:α→Prop) {H:Type} {enc:TypeId×Value→H} {W:World} {u:Value} {base fuel:Nat} {sp:Nat→Bool} {held:Bool} {x:DataW H×List MemPlace} {T E:TypeId}
 (hu:Tryz.prog.underlying T=some (.slice E)) (hc:Tryz.prog.cellsOf E=K.n) (el:∀ {n:Nat} {cs:List Value} {y:DataW H×List MemPlace},DataW.trod enc Tryz.prog W base sp held n E cs=some y→∃ r:α,cs=K.enc r∧Q r)
 (h:DataW.trod enc Tryz.prog W base sp held fuel T [u]=some x):∃ l,Rd K W u l∧∀ r∈l,Q r:=by
 rcases open_slice hu h with ⟨e,_⟩ | ⟨a,len,cap,m,n,D,Pl,e,_,hl,hm,hmm,_,hx⟩
 ·simp at e
  subst e;exact ⟨[],Rw.Rd.nil _,fun r hr=>by cases hr⟩
 ·simp at e
  subst e;have hlm:len≤m:=by rw [hmm];split <;> omega
  have each:∀ i,i < m→∃ r:α,Q r∧∀ j u,(K.enc r)[j]? = some u→W.cell? (a.add (i * K.n+j))=some u:=fun i hi=>by
   obtain ⟨cs',h1,h2⟩:=hx i hi;rw [hc] at h1;obtain ⟨_,hlen,hcell⟩:=World.cells?_some h1;obtain ⟨r,rfl,ok⟩:=el h2;refine ⟨r,ok,fun j u hu=>?_⟩;have hj:j < K.n:=by have:=(List.getElem?_eq_some_iff.1 hu).1;rw [hlen] at this;exact this
   have e:=hcell j hj;rw [add_add] at e;exact e.trans hu
  haveI:Inhabited α:=⟨K.dft⟩
  obtain ⟨q,hq⟩:=choose_lt each;have hlen:((List.range len).map q).length=len:=by simp
  have get:∀ i,i < len→((List.range len).map q).getD i K.dft=q i:=fun i hi=>by simp [List.getD,hi]
  refine ⟨(List.range len).map q,⟨some a,cap,by rw [hlen],⟨by rw [hlen];exact hl,nofun⟩,hm,fun h0=>?_⟩,fun r hr=>?_⟩
  ·rw [hlen] at h0
   obtain ⟨b,off,spot⟩:=a;have hp:0 < (K.enc (q 0)).length:=by rw [K.len];exact K.pos
   have c0:=(hq 0 (by omega)).2 0 _ (List.getElem?_eq_getElem hp);have hs:spot=none:=by simpa [Addr.add] using World.cell?_spot c0
   subst hs;refine ⟨b,off,rfl,fun i hi j u hu=>?_⟩;rw [hlen] at hi;have hu':(K.enc (q i))[j]? = some u:=by rw [← get i hi];exact hu
   have c:=(hq i (by omega)).2 j u hu';rw [add_plain] at c
   show W.cell? ⟨b,off+i * K.n+j,none⟩=some u
   rw [Nat.add_assoc];exact c
  ·obtain ⟨i,hi,rfl⟩:=List.mem_map.1 hr
   exact (hq i (by have:=List.mem_range.1 hi;omega)).1
section
variable {H:Type} {enc:TypeId×Value→H} {W:World} {base fuel:Nat} {sp:Nat→Bool} {held:Bool} {cs:List Value} {x:DataW H×List MemPlace}
theorem named_cells (h:DataW.trod enc Tryz.prog W base sp held fuel 67 cs=some x):∃ c:Ent,cs=E3.enc c∧Rd K4 W c.sl c.l∧okL c.l:=by
 have c3:Tryz.prog.cellsOf 67=3:=by kernel_rfl
 have c1:Tryz.prog.cellsOf 3=1:=by kernel_rfl
 have c2:Tryz.prog.cellsOf 65=2:=by kernel_rfl
 obtain ⟨xs,m,_,_,hs,hx,hi⟩:=DataW.trod_struct Tryz.underlying67 h;rw [c3] at hs
 match cs,hs,xs,hx,hi with
 | [u0,u1,u2],_,[x0,x1],_,hi =>
   have e0:DataW.trod enc Tryz.prog W base sp held m 3 (([u0,u1,u2].drop 0).take (Tryz.prog.cellsOf 3))=some x0:=hi 0 _ rfl;have e1:DataW.trod enc Tryz.prog W base sp held m 65 (([u0,u1,u2].drop 1).take (Tryz.prog.cellsOf 65))=some x1:=hi 1 _ rfl;rw [c1] at e0;rw [c2] at e1;obtain ⟨k,hk,_,wk⟩:=DataW.trod_int Tryz.underlying3 (x:=x0) e0;obtain ⟨p,u,l,h3,R,okl⟩:=file_cells e1;obtain ⟨a,cap,rfl,_⟩:=R.slice;have k' : [u0] = [.int .i64 k]:=hk;have h3' : [u1,u2] = [.int .i64 p,.slice a l.length cap]:=h3;simp only [List.cons.injEq,and_true] at k' h3';obtain rfl:=k';obtain ⟨rfl,rfl⟩:=h3';exact ⟨⟨k,p,a,cap,l⟩,rfl,R,okl⟩
theorem spoil_cells (h:DataW.trod enc Tryz.prog W base sp held fuel 164 cs=some x):∃ c:S2,cs=K2.enc c∧True:=by
 have c3:Tryz.prog.cellsOf 164=2:=by kernel_rfl
 have c1:Tryz.prog.cellsOf 3=1:=by kernel_rfl
 obtain ⟨xs,m,_,_,hs,hx,hi⟩:=DataW.trod_struct Tryz.underlying164 h;rw [c3] at hs
 match cs,hs,xs,hx,hi with
 | [u0,u1],_,[x0,x1],_,hi =>
   have e0:DataW.trod enc Tryz.prog W base sp held m 3 (([u0,u1].drop 0).take (Tryz.prog.cellsOf 3))=some x0:=hi 0 _ rfl;have e1:DataW.trod enc Tryz.prog W base sp held m 3 (([u0,u1].drop 1).take (Tryz.prog.cellsOf 3))=some x1:=hi 1 _ rfl;rw [c1] at e0 e1;obtain ⟨k,hk,_,_⟩:=DataW.trod_int Tryz.underlying3 (x:=x0) e0;obtain ⟨p,hp,_,_⟩:=DataW.trod_int Tryz.underlying3 (x:=x1) e1;have k' : [u0] = [.int .i64 k]:=hk;have p' : [u1] = [.int .i64 p]:=hp;simp only [List.cons.injEq,and_true] at k' p';obtain rfl:=k';obtain rfl:=p';exact ⟨(k,p),rfl,trivial⟩
theorem step_cells (h:DataW.trod enc Tryz.prog W base sp held fuel 101 cs=some x):∃ c:S2,cs=K2.enc c∧True:=by
 have c3:Tryz.prog.cellsOf 101=2:=by kernel_rfl
 have c1:Tryz.prog.cellsOf 3=1:=by kernel_rfl
 obtain ⟨xs,m,_,_,hs,hx,hi⟩:=DataW.trod_struct Tryz.underlying101 h;rw [c3] at hs
 match cs,hs,xs,hx,hi with
 | [u0,u1],_,[x0,x1],_,hi =>
   have e0:DataW.trod enc Tryz.prog W base sp held m 3 (([u0,u1].drop 0).take (Tryz.prog.cellsOf 3))=some x0:=hi 0 _ rfl;have e1:DataW.trod enc Tryz.prog W base sp held m 3 (([u0,u1].drop 1).take (Tryz.prog.cellsOf 3))=some x1:=hi 1 _ rfl;rw [c1] at e0 e1;obtain ⟨k,hk,_,_⟩:=DataW.trod_int Tryz.underlying3 (x:=x0) e0;obtain ⟨p,hp,_,_⟩:=DataW.trod_int Tryz.underlying3 (x:=x1) e1;have k' : [u0] = [.int .i64 k]:=hk;have p' : [u1] = [.int .i64 p]:=hp;simp only [List.cons.injEq,and_true] at k' p';obtain rfl:=k';obtain rfl:=p';exact ⟨(k,p),rfl,trivial⟩
def CelOk (W:World) (c:Cel):Prop:=Rd E3 W (sl c.files) c.F∧(∀ e∈c.F,Rd K4 W e.sl e.l∧okL e.l)∧Rd K5 W (sl c.table) c.T∧Rd K2 W (sl c.steps) c.S
theorem any_slice {T E:TypeId} {u:Value} (hu:Tryz.prog.underlying T=some (.slice E)) (h:DataW.trod enc Tryz.prog W base sp held fuel T [u]=some x):∃ s:Hd,u=sl s:=by
 rcases open_slice hu h with ⟨e,_⟩ | ⟨a,len,cap,m,n,D,Pl,e,_⟩
 ·simp at e
  exact ⟨zh,e⟩
 ·simp at e
  exact ⟨(some a,len,cap),e⟩
theorem cell_cells (h:DataW.trod enc Tryz.prog W base sp held fuel 61 cs=some x):∃ c:Cel,cs=KC.enc c∧CelOk W c:=by
 have c4:Tryz.prog.cellsOf 61=4:=by kernel_rfl
 have d0:Tryz.prog.cellsOf 38=1:=by kernel_rfl
 have d1:Tryz.prog.cellsOf 58=1:=by kernel_rfl
 have d2:Tryz.prog.cellsOf 4=1:=by kernel_rfl
 have d3:Tryz.prog.cellsOf 59=1:=by kernel_rfl
 obtain ⟨xs,m,_,_,hs,hx,hi⟩:=DataW.trod_struct Tryz.underlying61 h;rw [c4] at hs
 match cs,hs,xs,hx,hi with
 | [u0,u1,u2,u3],_,[x0,x1,x2,x3],_,hi =>
   have e0:DataW.trod enc Tryz.prog W base sp held m 38 (([u0,u1,u2,u3].drop 0).take (Tryz.prog.cellsOf 38))=some x0:=hi 0 _ rfl;have e1:DataW.trod enc Tryz.prog W base sp held m 58 (([u0,u1,u2,u3].drop 1).take (Tryz.prog.cellsOf 58))=some x1:=hi 1 _ rfl;have e2:DataW.trod enc Tryz.prog W base sp held m 4 (([u0,u1,u2,u3].drop 2).take (Tryz.prog.cellsOf 4))=some x2:=hi 2 _ rfl;have e3:DataW.trod enc Tryz.prog W base sp held m 59 (([u0,u1,u2,u3].drop 3).take (Tryz.prog.cellsOf 59))=some x3:=hi 3 _ rfl;rw [d0] at e0;rw [d1] at e1;rw [d2] at e2;rw [d3] at e3;obtain ⟨F,RF,QF⟩:=open_rd (K:=E3) (fun c=>Rd K4 W c.sl c.l∧okL c.l) Tryz.underlying38 (by kernel_rfl) (fun h=>named_cells h) (u:=u0) e0;obtain ⟨T,RT,_⟩:=open_rd (K:=K5) (fun _=>True) Tryz.underlying58 (by kernel_rfl) (fun h=>by obtain ⟨r,e⟩:=ent_cells h;exact ⟨r,e,trivial⟩) (u:=u1) e1;obtain ⟨b,hb,_⟩:=DataW.trod_bool Tryz.underlying4 (x:=x2) e2;obtain ⟨SS,RS,_⟩:=open_rd (K:=K2) (fun _=>True) Tryz.underlying59 (by kernel_rfl) (fun h=>step_cells h) (u:=u3) e3;obtain ⟨s3,rfl⟩:=any_slice Tryz.underlying59 (u:=u3) e3;obtain ⟨s0,rfl⟩:=any_slice Tryz.underlying38 (u:=u0) e0;obtain ⟨s1,rfl⟩:=any_slice Tryz.underlying58 (u:=u1) e1;have b' : [u2] = [.bool b]:=hb;simp only [List.cons.injEq,and_true] at b';obtain rfl:=b';exact ⟨⟨s0,s1,b,s3,F,T,SS⟩,rfl,RF,QF,RT,RS⟩
end
theorem cells_of {H:Type} {enc:TypeId×Value→H} {W:World} {v:Value} {base:Nat} {sp:Nat→Bool} {held:Bool} {d:DataW H} {p:List MemPlace} {r:Reach} {b0:Nat}
 (hv:Value.okWide Tryz.prog W r b0 22 v) (h:DataW.Trod enc Tryz.prog W base sp held 22 v d p):∃ L,Cls W v L:=by
 obtain ⟨a,len,cap,rfl⟩:=okWide_slice Tryz.underlying22 hv;obtain ⟨fuel,hf⟩:=h;obtain ⟨L,R,Q⟩:=open_rd (K:=KC) (CelOk W) Tryz.underlying22 (by kernel_rfl) (fun h=>cell_cells h) (u:=.slice a len cap) hf;have at_:∀ i,i < L.length→cel L i∈L:=fun i hi=>by
  unfold cel;rw [List.getD_eq_getElem?_getD,List.getElem?_eq_getElem hi];exact List.getElem_mem hi
 refine ⟨L,R,fun i hi=>?_,fun i hi=>(Q _ (at_ i hi)).2.2.1,fun i hi=>(Q _ (at_ i hi)).2.2.2⟩;obtain ⟨q1,q2,_⟩:=Q _ (at_ i hi);have mem:∀ j,j < (cel L i).F.length→eatF (cel L i).F j∈(cel L i).F:=fun j hj=>by
  unfold eatF;rw [List.getD_eq_getElem?_getD,List.getElem?_eq_getElem hj];exact List.getElem_mem hj
 exact ⟨q1,fun j hj=>q2 _ (mem j hj),fun j hj h0 k hk=>Fs.rd_low (q2 _ (mem j hj)).1 h0 k hk⟩
theorem spoils_of {H:Type} {enc:TypeId×Value→H} {W:World} {v:Value} {base:Nat} {sp:Nat→Bool} {held:Bool} {d:DataW H} {p:List MemPlace} {r:Reach} {b0:Nat}
 (hv:Value.okWide Tryz.prog W r b0 23 v) (h:DataW.Trod enc Tryz.prog W base sp held 23 v d p):∃ l,Rd K2 W v l:=by
 obtain ⟨a,len,cap,rfl⟩:=okWide_slice Tryz.underlying23 hv;obtain ⟨fuel,hf⟩:=h;obtain ⟨l,R,_⟩:=open_rd (K:=K2) (fun _=>True) Tryz.underlying23 (by kernel_rfl) (fun h=>spoil_cells h) (u:=.slice a len cap) hf;exact ⟨l,R⟩
end Go.Proofs.YtpkipilggkbkeaaGreatDoor.Pa
namespace Go.Proofs.YtpkipilggkbkeaaGreatDoor.Wi
open Go.RowKit Go.Sort Go.Proofs.YtpkipilggkbkeaaGreatDoor.Sp
def PredN (g:Nat) (lb:Array Value) (f:Int→Bool) (n:Int) (w:World):Prop :=
 ∀ (W:World) (i:Int),0≤i→i < n→Below w.heap.size w W→Calls Tryz.prog g (#[.int .i64 i] ++ lb) W fun e w'=>e = .returned (.bool (f i))∧Below w.heap.size w w'
def Found (f:Int→Bool) (n r:Int):Prop:=0≤r∧r≤n∧(r < n→f r=true)∧(0 < r→f (r - 1)=false)
def FoundPost (w:World) (f:Int→Bool) (n:Int) (e:Ending) (w':World):Prop:=∃ r,e = .returned (.int .i64 r)∧Found f n r∧Below w.heap.size w w'
set_option maxHeartbeats 1000000 in
theorem search_any (w:World) (g:Nat) (lb:Array Value) (f:Int→Bool) (n:Int) (eg:∀ args w,(callFunc g args).run Tryz.prog w = .ok (.enter g args) w) (h0:0≤n) (h1:n≤4611686018427387904) (hp:PredN g lb f n w) :
 Calls Tryz.prog 51 #[.int .i64 n,.func (.func g) #[] lb] w (FoundPost w f n):=by
 have HP:=Lib.hid hp;clear hp
 go_enter Tryz.func51,Tryz.ntmps51
 go_wp2
 go_loopw [5,6] (fun i j wr=>∃ lo hi:Int,0≤lo∧lo≤hi∧hi≤n∧i = .int .i64 lo∧j = .int .i64 hi∧Hid (0 < lo→f (lo - 1)=false)∧Hid (hi < n→f hi=true)∧Hid (Below w.heap.size w wr)) (fun i j _=>(intOf j - intOf i).toNat)
 case atStart=>exact ⟨0,n,by omega,by omega,by omega,rfl,rfl,fun h=>by omega,fun h=>by omega,Below.refl _ _⟩
 case round =>
  obtain ⟨lo,hi,a0,a1,a2,rfl,rfl,il,ih,hb⟩:=hrel
  by_cases hlt:lo < hi
  ·have c:=HP.out wr ((lo+hi) / 2) (by omega) (by omega) hb.out
   cases hm:f ((lo+hi) / 2) with
   | true =>
     rw [hm] at c;have C:=Lib.hid c;have HM:=Lib.hid hm;clear c hm;go_wp2_with fail;refine C.out.mono ?_;rintro e w1 ⟨rfl,hb1⟩;have HB1:=Lib.hid hb1;clear hb1;go_wp2
     go_roundw
     case rel=>exact ⟨lo,(lo+hi) / 2,a0,by omega,by omega,rfl,rfl,il,fun _=>HM.out,HB1⟩
     case measure=>simp [intOf];omega
   | false =>
     rw [hm] at c;have C:=Lib.hid c;have HM:Hid (0 < (lo+hi) / 2+1→f ((lo+hi) / 2+1 - 1)=false):=fun _=>by rw [show (lo+hi) / 2+1 - 1=(lo+hi) / 2 by omega];exact hm
     clear c hm;go_wp2_with fail;refine C.out.mono ?_;rintro e w1 ⟨rfl,hb1⟩;have HB1:=Lib.hid hb1;clear hb1;go_wp2
     go_roundw
     case rel=>exact ⟨(lo+hi) / 2+1,hi,by omega,by omega,by omega,rfl,rfl,HM,ih,HB1⟩
     case measure=>simp [intOf];omega
  ·obtain rfl:lo=hi:=by omega
   go_wp2
   go_ret
   exact ⟨lo,rfl,⟨a0,a2,ih.out,il.out⟩,hb.out⟩
theorem plain_apart {x:List S2} (h:Plain x) {i j:Nat} (hij:i < j) (hj:j < x.length):tp x i < fr x j:=by
 have:=(List.pairwise_iff_getElem.1 h.2) i j (by omega) hj hij
 simpa [tp,fr,hj,show i < x.length by omega] using this
theorem plain_ticks {x:List S2} (h:Plain x) {i:Nat} (hi:i < x.length):fr x i < tp x i:=h.1 _ (mem_fr hi)
theorem plain_up {x:List S2} (h:Plain x) {i j:Nat} (hij:i≤j) (hj:j < x.length):tp x i≤tp x j∧fr x i≤fr x j:=by
 rcases Nat.lt_or_ge i j with c | c
 ·have a:=plain_apart h c hj
  have b:=plain_ticks h hj;have d:=plain_ticks h (show i < x.length by omega)
  omega
 ·rw [show i=j by omega];exact ⟨Int.le_refl _,Int.le_refl _⟩
noncomputable def hitB (x:List S2) (s:S2):Bool:=@decide (∃ t,(s.1≤t∧t < s.2)∧Low x t) (Classical.propDecidable _)
theorem hit_true {x:List S2} {s:S2} (h:∃ t,(s.1≤t∧t < s.2)∧Low x t):hitB x s=true:=by unfold hitB;exact @decide_eq_true _ (Classical.propDecidable _) h
theorem hit_false {x:List S2} {s:S2} (h:¬ ∃ t,(s.1≤t∧t < s.2)∧Low x t):hitB x s=false:=by unfold hitB;exact @decide_eq_false _ (Classical.propDecidable _) h
theorem of_hit {x:List S2} {s:S2} (h:hitB x s=true):∃ t,(s.1≤t∧t < s.2)∧Low x t:=by unfold hitB at h;exact @of_decide_eq_true _ (Classical.propDecidable _) h
def endF (x:List S2) (a:Int) (i:Int):Bool:=decide (a < tp x i.toNat)
theorem hit_no {x:List S2} {a b:Int} (h:¬ a < b):hitB x (a,b)=false:=hit_false fun ⟨t,h1,_⟩=>by simp at h1;omega
theorem hit_end {x:List S2} {a b r:Int} (hp:Plain x) (h:Found (endF x a) x.length r) (hr:¬ r < x.length):hitB x (a,b)=false:=hit_false fun ⟨t,h1,h2⟩=>by
 obtain ⟨i,hi,c1,c2⟩:=low_iff.1 h2;obtain ⟨f0,f1,_,f3⟩:=h;have e:=f3 (by omega)
 simp [endF] at e h1
 have:=(plain_up hp (show i≤r.toNat - 1 by omega) (by omega)).1
 omega
theorem hit_in {x:List S2} {a b r:Int} (hp:Plain x) (hab:a < b) (h:Found (endF x a) x.length r) (hr:r < x.length):hitB x (a,b)=decide (fr x r.toNat < b):=by
 obtain ⟨f0,f1,f2,f3⟩:=h;have e:=f2 hr
 simp [endF] at e
 have t:=plain_ticks hp (show r.toNat < x.length by omega)
 by_cases c:fr x r.toNat < b
 ·rw [decide_eq_true c]
  refine hit_true ⟨max a (fr x r.toNat),⟨by show a≤_;omega,by show _ < b;omega⟩,low_iff.2 ⟨r.toNat,by omega,by omega,by omega⟩⟩
 ·rw [decide_eq_false c]
  refine hit_false fun ⟨t,h1,h2⟩=>?_;obtain ⟨i,hi,c1,c2⟩:=low_iff.1 h2
  simp at h1
  rcases Nat.lt_or_ge i r.toNat with k | k
  ·have e3:=f3 (by omega)
   simp [endF] at e3
   have:=(plain_up hp (show i≤r.toNat - 1 by omega) (by omega)).1
   omega
  ·have:=(plain_up hp k hi).2
   omega
theorem idx_meet {x y l:List S2} (h:PlainOf y x):decide (0≤idx (hitB x) l)=meetB l y:=by
 rcases idx_cases (hitB x) l with ⟨i,hi,hp,_,e⟩ | ⟨hn,e⟩
 ·rw [e]
  obtain ⟨t,h1,h2⟩:=of_hit hp;rw [meetB_true ⟨t,low_iff.2 ⟨i,hi,h1⟩,(h.2 t).1 h2⟩]
  simp
 ·rw [e,meetB_false fun ⟨t,h1,h2⟩=>by
   obtain ⟨i,hi,k⟩:=low_iff.1 h1;have:=hn i hi;have hh:hitB x (fr l i,tp l i)=true:=hit_true ⟨t,k,(h.2 t).2 h2⟩;rw [hh] at this
   simp at this]
  simp
set_option maxHeartbeats 1000000 in
theorem mclos1_any (w:World) (bs bp:Nat) (a:Int) (v:Value) (x:List S2) (hs:w.cell? ⟨bs,0,none⟩=some (.int .i64 a)) (hv:w.cell? ⟨bp,0,none⟩=some v) (h:Sp w v x) :
 PredN 52 #[.pointer (some ⟨bs,0,none⟩),.pointer (some ⟨bp,0,none⟩)] (endF x a) x.length w:=fun W i i0 i1 hb=>by
 obtain ⟨k,rfl⟩:=Int.eq_ofNat_of_zero_le i0;have d1:=(hb.cell (World.block_lt_of_cell? _ _ hs)).trans hs;have d2:=(hb.cell (World.block_lt_of_cell? _ _ hv)).trans hv;have hk:k < x.length:=by omega
 obtain ⟨a1,cap,rfl,q1,q2,hA0⟩:=h.below hb;obtain ⟨b,off,rfl,hA⟩:=hA0 (by omega);have HA0:=Lib.hid hA0;clear hA0;have c2:=(hA k hk).2;have HA:=Lib.hid hA;have HB:=Lib.hid hb;clear hs hv h hA hb i0;unfold maxLen at q2;have e:endF x a (k:Int)=decide (a < tp x k):=rfl;rw [e];clear e;generalize hn:x.length=n at *;clear hn
 show Calls Tryz.prog 52 #[.int .i64 k,.pointer (some ⟨bs,0,none⟩),.pointer (some ⟨bp,0,none⟩)] W _
 go_enter Tryz.func52,Tryz.ntmps52
 go_wp2
 go_quiet (fail)
 go_wp2
 go_ret
 exact ⟨rfl,below_drewN HB.out _⟩
theorem below_grow {B:Nat} {a w:World} (h:Below B a w) (hB:B≤w.heap.size) (n:Nat) (os:Array Obj):Below B a (grow (w.drewN n) os):=by
 refine ⟨h.os,h.tape,h.output,?_,fun k hk=>?_⟩
 ·show a.heap.size≤(w.heap ++ os).size
  have:=h.size
  simp;omega
 ·show (w.heap ++ os)[k]? = _
  rw [Array.getElem?_append_left (by omega)];exact h.block k hk
theorem ticks_grow (w:World) (a b:Int) (r:Bool) (hr:decide (a < b)=r):Calls Tryz.prog 53 #[.agg #[.int .i64 a,.int .i64 b]] w fun e w'=>e = .returned (.bool r)∧∃ q os',w'=grow (w.drewN q) os':=by
 subst hr
 go_enter Tryz.func53,Tryz.ntmps53
 go_wp2
 go_ret
 exact ⟨rfl,0,_,by rw [alloc_eq_grow];rfl⟩
set_option maxHeartbeats 8000000 in
theorem mclos_any (w:World) (bp:Nat) (v:Value) (x:List S2) (hv:w.cell? ⟨bp,0,none⟩=some v) (h:Sp w v x) (hp:Plain x) (hlen:x.length < 1099511627776) :
 PredS 50 #[.pointer (some ⟨bp,0,none⟩)] (hitB x) w:=fun W a b hb=>by
 have eg:∀ args w,(callFunc 52 args).run Tryz.prog w = .ok (.enter 52 args) w:=enters_of Tryz.func52 (by kernel_rfl) rfl;have hlt:=World.block_lt_of_cell? _ _ hv;have hz:=hb.size;have hBW:bp < W.heap.size:=Nat.lt_of_lt_of_le hlt hz;have d:=(hb.cell hlt).trans hv;have hbW:Below W.heap.size W (W.alloc (.cells #[.int .i64 a,.int .i64 b] 105)):=(Below.refl _ _).alloc (Nat.le_refl _) _;have hS1:=(h.below hb).below hbW;have sc:=search_any (W.alloc (.cells #[.int .i64 a,.int .i64 b] 105)) 52 #[.pointer (some ⟨W.heap.size,0,none⟩),.pointer (some ⟨bp,0,none⟩)] (endF x a) x.length eg (by omega) (by omega)
  (mclos1_any _ W.heap.size bp a v x (by go_simp) (by go_simp) hS1)
 have SC:=Lib.hid sc;have HS1:=Lib.hid hS1;have HB:=Lib.hid (hb.alloc hz (.cells #[.int .i64 a,.int .i64 b] 105));have HPL:=Lib.hid hp;obtain ⟨a1,cap,rfl,q1,q2,_⟩:=h;clear sc hS1 hb hbW hv eg hp hlt;have hmf:∀ (fn:Fn) (first cap:Array Value) (w:World),(Instr.makeFunc fn first cap).run Tryz.prog w = .ok (.func fn first cap) w:=fun _ _ _ _=>rfl;unfold maxLen at q2;generalize hres:hitB x (a,b)=res;have HRES:=Lib.hid hres;clear hres
 show Calls Tryz.prog 50 #[.agg #[.int .i64 a,.int .i64 b],.pointer (some ⟨bp,0,none⟩)] W _
 go_enter Tryz.func50,Tryz.ntmps50
 go_wp2_with fail;refine SC.out.mono ?_;rintro e w1 ⟨r,rfl,hf,b1⟩;have HF:=Lib.hid hf;have r0:=hf.1;have r1:=hf.2.1;have x1:w1.cell? ⟨W.heap.size,0,none⟩=some (.int .i64 a):=(b1.cell (by simp)).trans (by go_simp);have x2:w1.cell? ⟨W.heap.size,1,none⟩=some (.int .i64 b):=(b1.cell (by simp)).trans (by go_simp);have x3:w1.cell? ⟨bp,0,none⟩=some (.slice a1 x.length cap):=(b1.cell (by simp;omega)).trans (by go_simp);have HS2:=Lib.hid (HS1.out.below b1);have HB1:=Lib.hid (HB.out.trans (b1.mono (by simp;omega)));have l1:=World.block_lt_of_cell? _ _ x1;have l2:=World.block_lt_of_cell? _ _ x2;have l3:=World.block_lt_of_cell? _ _ x3;clear hf b1 d;have mixed:Tryz.prog.follows .mixedOrders=true:=by kernel_rfl
 obtain ⟨k,rfl⟩:=Int.eq_ofNat_of_zero_le r0
 by_cases hab:a < b
 ·by_cases hk:k < x.length
  ·have hkz:(k:Int) < (x.length:Int):=by omega
   have hh:=hit_in (b:=b) HPL.out hab HF.out hkz;rw [Int.toNat_natCast,HRES.out] at hh;have HH:=Lib.hid hh;clear hh;obtain ⟨_,_,eq,_,_,hA0⟩:=HS2.out;injection eq with e1 e2 e3;subst e1 e3;obtain ⟨b',off,rfl,hA⟩:=hA0 (by omega);have c1:=(hA k hk).1;have l4:=World.block_lt_of_cell? _ _ c1;have HA:=Lib.hid hA;have HA0:=Lib.hid hA0;clear hA hA0;have HAB:=Lib.hid hab;clear hab;generalize hn:x.length=n at *;clear hn;have gc:=fun n' os'=>ticks_grow (grow (w1.drewN n') os') a b true (decide_eq_true HAB.out);have g1:=cell_grown l1 x1;have g2:=cell_grown l2 x2;have g3:=cell_grown l3 x3;have g4:=cell_grown l4 c1;have z1:=HB1.out.size;clear x1 x2 x3 l1 l2 l3 c1 l4;go_wp2_with fail
   go_quiet_grown (first | (go_at_call 53;refine Calls.grown_of (gc _ _)))
   go_wp2
   go_ret
   exact ⟨ret_bool HH.out.symm,below_grow HB1.out z1 _ _⟩
  ·have hh:=hit_end (b:=b) HPL.out HF.out (show ¬ (k:Int) < x.length by omega)
   rw [HRES.out] at hh;have HH:=Lib.hid hh;clear hh;have HAB:=Lib.hid hab;clear hab;have hkz:decide (k < x.length)=false:=by simp;omega
   generalize hn:x.length=n at *;clear hn;have gc:=fun n' os'=>ticks_grow (grow (w1.drewN n') os') a b true (decide_eq_true HAB.out);have g1:=cell_grown l1 x1;have g2:=cell_grown l2 x2;have g3:=cell_grown l3 x3;have z1:=HB1.out.size;clear x1 x2 x3 l1 l2 l3;go_wp2_with fail
   go_quiet_grown (first | (go_at_call 53;refine Calls.grown_of (gc _ _)))
   go_wp2
   go_ret
   exact ⟨ret_bool HH.out.symm,below_grow HB1.out z1 _ _⟩
 ·have hh:=hit_no (x:=x) hab
  rw [HRES.out] at hh;have HH:=Lib.hid hh;clear hh;have HAB:=Lib.hid hab;clear hab;generalize hn:x.length=n at *;clear hn;have gc:=fun n' os'=>ticks_grow (grow (w1.drewN n') os') a b false (decide_eq_false (show ¬ a < b by have:=HAB.out;omega));have g1:=cell_grown l1 x1;have g2:=cell_grown l2 x2;have g3:=cell_grown l3 x3;have z1:=HB1.out.size;clear x1 x2 x3 l1 l2 l3;go_wp2_with fail
  go_quiet_grown (first | (go_at_call 53;refine Calls.grown_of (gc _ _)))
  go_wp2
  go_ret
  exact ⟨ret_bool HH.out.symm,below_grow HB1.out z1 _ _⟩
set_option maxHeartbeats 1000000 in
theorem meet_any (w:World) (v u:Value) (l y:List S2) (hl:Sp w v l) (hy:Sp w u y) (hlen:y.length < 1099511627776):Calls Tryz.prog 20 #[v,u] w fun e w'=>e = .returned (.bool (meetB l y))∧Below w.heap.size w w':=by
 have eg:∀ args w,(callFunc 50 args).run Tryz.prog w = .ok (.enter 50 args) w:=enters_of Tryz.func50 (by kernel_rfl) rfl;have J:=Lib.hid (join_any (w.alloc (.cells #[u] 47)) _ [y] (rows_one hy) (by show 0+y.length < _;omega));have EG:=Lib.hid eg;have SL:=Lib.hid hl;obtain ⟨a,cap,rfl,_⟩:=hl.slice;obtain ⟨a',cap',rfl,_⟩:=hy.slice;generalize hres:meetB l y=res;have HRES:=Lib.hid hres;clear eg hl hy hres;have hmf:∀ (fn:Fn) (first cap:Array Value) (w:World),(Instr.makeFunc fn first cap).run Tryz.prog w = .ok (.func fn first cap) w:=fun _ _ _ _=>rfl
 go_enter Tryz.func20,Tryz.ntmps20
 go_wp2_with fail;refine J.out.mono ?_;rintro e w1 ⟨v1,x,rfl,hown,hj,b1⟩;have PO:=plain_one_of hj;have hxl:x.length < 1099511627776:=by have:=hj.len;have e:tot [y] [y].length=0+y.length:=rfl;omega
 have hsp:=hown.sp;have B1:Below w.heap.size w w1:=((Below.refl _ _).alloc (Nat.le_refl _) _).trans (b1.mono (by simp));have B2:Below w1.heap.size w1 (w1.alloc (.cells #[v1] 47)):=(Below.refl _ _).alloc (Nat.le_refl _) _;have C:=contains_any (w1.alloc (.cells #[v1] 47)) _ l 50 #[.pointer (some ⟨w1.heap.size,0,none⟩)] (hitB x) EG.out ((SL.out.below B1).below B2) (mclos_any _ w1.heap.size v1 x (by go_simp) (hsp.below B2) PO.1 hxl);rw [idx_meet PO,HRES.out] at C;have CC:=Lib.hid C;have BB:=Lib.hid (B1.trans (B2.mono B1.size));obtain ⟨a1,cap1,rfl,_⟩:=hsp.slice;clear hown hj b1 PO hxl hsp B1 B2 C;go_wp2_with fail;refine CC.out.mono ?_;rintro e w2 ⟨rfl,b2⟩;go_wp2
 go_ret
 exact ⟨rfl,BB.out.trans (b2.mono BB.out.size)⟩
end Go.Proofs.YtpkipilggkbkeaaGreatDoor.Wi
