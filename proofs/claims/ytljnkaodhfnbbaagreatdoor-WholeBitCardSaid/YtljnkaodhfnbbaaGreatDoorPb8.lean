import Derived.Test.YtljnkaodhfnbbaaGreatDoorPb1
import Derived.Test.YtljnkaodhfnbbaaGreatDoorPb7
import Derived.Test.YtljnkaodhfnbbaaGreatDoorPb5
import Derived.Test.YtljnkaodhfnbbaaGreatDoorPb6
import Derived.Test.YtljnkaodhfnbbaaGreatDoorPb3
import Derived.BigQuiet
import Derived.Deep.Cut
import Derived.Test.YtljnkaodhfnbbaaGreatDoorPb4
set_option maxRecDepth 100000
namespace Go.Proofs.YtljnkaodhfnbbaaGreatDoor.Fl
open Go.RowKit
open Rw (Rd Ow At)
def eqB (l l':List R4):Bool:=decide (l=l')
set_option maxHeartbeats 1000000 in
theorem equal_any (w:World) (v v':Value) (l l':List R4) (R:Rd K4 w v l) (R':Rd K4 w v' l'):Calls Tryz.prog 230 #[v,v'] w fun e w'=>e = .returned (.bool (eqB l l'))∧Below w.heap.size w w':=by
 have HNO:Hid (¬ l=l'→false=eqB l l'):=fun h=>(decide_eq_false h).symm;have HYES:Hid (l=l'→true=eqB l l'):=fun b=>(decide_eq_true b).symm;have HL:Hid (l.length=l'.length→(∀ i,i < l.length→rat l i=rat l' i)→l=l'):=fun a b=>list_same a b;obtain ⟨a,cap,rfl,_,hm,hA⟩:=R;obtain ⟨a',cap',rfl,_,hm',hA'⟩:=R';have HA:=Lib.hid hA;have HA':=Lib.hid hA';unfold maxLen at hm hm';clear hA hA';have HNE:Hid (l.length≠l'.length→¬ (l=l')):=fun h2 h=>h2 (by rw [h]);generalize hn:l.length=n at *;generalize hn':l'.length=n' at *;have HN:=Lib.hid hn;have HN':=Lib.hid hn';clear hn hn'
 by_cases h2:n=n'
 ·subst h2
  go_enter Tryz.func230,Tryz.ntmps230
  go_wp2
  go_loopw [13,5] (fun i j wr=>∃ k:Nat,k≤n∧i = .int .i64 k∧Hid (Below w.heap.size w wr)∧Hid (∀ i,i < k→rat l i=rat l' i)) (fun i j _=>n - (intOf i).toNat)
  case atStart=>exact ⟨0,Nat.zero_le _,rfl,Below.refl _ _,fun i hi=>by omega⟩
  case round =>
   obtain ⟨j,hj,rfl,bw,hs⟩:=hrel
   by_cases hlt:j < n
   ·obtain ⟨b,off,rfl,A⟩:=HA.out (by omega)
    obtain ⟨b',off',rfl,A'⟩:=HA'.out (by omega);obtain ⟨c0,c1,c2,c3⟩:=at4 (A.below bw.out) j (by have:=HN.out;omega);obtain ⟨d0,d1,d2,d3⟩:=at4 (A'.below bw.out) j (by have:=HN'.out;omega);have HAA:=Lib.hid A;have HAA':=Lib.hid A';clear A A';have es:=eq_rec (rat l j) (rat l' j)
    by_cases he:rat l j=rat l' j
    ·have ST:Hid (∀ i,i < j+1→rat l i=rat l' i):=fun i hi=>by
      by_cases e:i=j
      ·rw [e];exact he
      ·exact hs.out i (by omega)
     rw [decide_eq_true he] at es;clear he;generalize rat l j=r at *;generalize rat l' j=r' at *;go_wp2
     go_quiet (fail)
     go_wp2
     go_roundw
     case rel=>exact ⟨j+1,by omega,by go_num,below_drewN bw.out _,ST⟩
     case measure=>simp [intOf];omega
    ·have E:=Lib.hid (HNO.out (fun h=>he (by rw [h])))
     rw [decide_eq_false he] at es;clear he;generalize rat l j=r at *;generalize rat l' j=r' at *;go_wp2
     go_quiet (fail)
     go_wp2
     go_ret
     exact ⟨ret_bool E.out,below_drewN bw.out _⟩
   ·obtain rfl:j=n:=by omega
    have E:=Lib.hid (HYES.out (HL.out (by trivial) (fun i hi=>hs.out i hi)));go_wp2
    go_ret
    exact ⟨ret_bool E.out,bw.out⟩
 ·have E:=Lib.hid (HNO.out (HNE.out h2))
  have h3:¬ ((n:Int)=n'):=by omega
  clear HL HA HA' HYES HNO
  go_enter Tryz.func230,Tryz.ntmps230
  go_wp2
  go_ret
  exact ⟨ret_bool E.out,Below.refl _ _⟩
set_option maxHeartbeats 400000 in
theorem same_any (w:World) (p p':Int) (v v':Value) (l l':List R4) (R:Rd K4 w v l) (R':Rd K4 w v' l'):Calls Tryz.prog 199 #[file p v,file p' v'] w fun e w'=>e = .returned (.bool (sameF p l p' l'))∧Below w.heap.size w w':=by
 have bb:=((Below.refl w.heap.size w).alloc (Nat.le_refl _) (.cells #[.int .i64 p,v] 70)).alloc (by simp) (.cells #[.int .i64 p',v'] 70);have B0:=Lib.hid bb;have Q:=Lib.hid (equal_any _ v v' l l' (R.below bb) (R'.below bb));obtain ⟨a,cap,rfl,_⟩:=R;obtain ⟨a',cap',rfl,_⟩:=R';clear bb;generalize l.length=n at *;generalize l'.length=n' at *;unfold file
 by_cases h:p=p'
 ·subst h
  have E:Hid (eqB l l'=sameF p l p l'):=Lib.hid (by unfold eqB sameF;rw [decide_eq_decide];exact ⟨fun h=>⟨rfl,h⟩,fun h=>h.2⟩)
  go_enter Tryz.func199,Tryz.ntmps199
  go_wp2_with fail;refine Q.out.mono ?_;rintro e w1 ⟨rfl,b1⟩;have B1:=Lib.hid (B0.out.trans (b1.mono B0.out.size));clear b1 Q;generalize eqB l l'=bq at *;go_wp2
  go_ret
  exact ⟨ret_bool E.out,B1.out⟩
 ·have E:Hid (false=sameF p l p' l'):=Lib.hid (decide_eq_false (fun k=>h k.1)).symm
  go_enter Tryz.func199,Tryz.ntmps199
  go_wp2
  go_ret
  exact ⟨ret_bool E.out,B0.out⟩
end Go.Proofs.YtljnkaodhfnbbaaGreatDoor.Fl
namespace Go.Proofs.YtljnkaodhfnbbaaGreatDoor.Re
open Go.RowKit
open Rw (Rd Ow At)
open Fl (R4 z4 rec4 K4 okR okL okR_at hdr rat goodF goodFB file ret_bool at_bool at4 row_cell row_frozen sameF)
structure TRel (w1:World) (L:List Int) (k:Nat) (u:Value) (wr:World):Prop where
 own:Ow KI wr w1.heap.size 3 u (L.take k)
 bel:Below w1.heap.size w1 wr
theorem at_drop {w:World} {b off:Nat} {l:List R4} (h:At K4 w b off l):At K4 w b (off+4) (l.drop 1):=fun i hi j u hu=>by
 rw [List.length_drop] at hi;have e:=h (i+1) (by omega) j u (by rw [← hu];congr 1;simp [List.getD]);rw [show off+(i+1) * K4.n+j=off+4+i * K4.n+j by show off+(i+1) * 4+j=off+4+i * 4+j;omega] at e;exact e
theorem at_none {w:World} {b off:Nat} {l:List R4} (h:l.length≤1):At K4 w b off (l.drop 1):=fun i hi=>by rw [List.length_drop] at hi;omega
theorem okL_drop {l:List R4} (h:okL l) (k:Nat):okL (l.drop k):=fun r hr=>h r (List.mem_of_mem_drop hr)
theorem rat_drop (l:List R4) (k:Nat):rat (l.drop 1) k=rat l (k+1):=by unfold rat;simp only [List.getD_eq_getElem?_getD,List.getElem?_drop];rw [Nat.add_comm 1 k]
set_option maxHeartbeats 2000000 in
theorem sequence_any (w:World) (p:Int) (v:Value) (l:List R4) (R:Rd K4 w v l) (ok:okL l):Calls Tryz.prog 158 #[file p v] w (SeqPost w p l):=by
 have B0:=Lib.hid ((Below.refl w.heap.size w).alloc (Nat.le_refl _) (.cells #[.int .i64 p,v] 70));have R0:=Lib.hid (R.below B0.out);clear R
 by_cases hg:goodF p l
 ·have GA:=Lib.hid (at_bool (show goodFB p l=true from decide_eq_true hg) (Fl.good_any _ p v l R0.out))
  have hl:=hg.2.2.1;have hl2:=hg.2.2.2.1;have HG:=Lib.hid hg;have OK:=Lib.hid ok;clear hg ok;have SA:=Lib.hid (fun w v' l' R R'=>Fl.same_any w p 3 v v' l l' R R');obtain ⟨a,cap,rfl,⟨hc,_⟩,hm,hA⟩:=R0.out;obtain ⟨b,off,rfl,hA⟩:=hA (by omega);have HA:=Lib.hid hA;unfold maxLen at hm;clear hA;have FA:=Lib.hid (fun w v R=>file_any w v (takL l) R);have YES:=Lib.hid (fun h u w'=>sq_yes (w:=w) (p:=p) (l:=l) (w':=w') h u);have NO:=Lib.hid (fun h w'=>sq_no (w:=w) (p:=p) (l:=l) (w':=w') h);have RN:Hid (∀ k,k+1 < l.length→(takL l).take k ++ [(rat (l.drop 1) k).1]=(takL l).take (k+1)):=Lib.hid (fun k h=>by rw [rat_drop];exact tak_next h);have RA:Hid ((takL l).take (l.length - 1)=takL l):=Lib.hid (by rw [← tak_len,List.take_length]);have RL:Hid (∀ k,k≤l.length - 1→((takL l).take k).length=k):=Lib.hid (fun k h=>by rw [List.length_take,tak_len];omega);have IS:Hid (isS p l↔seqP (takL l)∧(p=3∧l=fileL (takL l))):=Lib.hid ⟨fun h=>h.2,fun h=>⟨HG.out,h⟩⟩;generalize hn:l.length=n at *;have HN:=Lib.hid hn;clear hn;unfold file at *
  go_enter Tryz.func158,Tryz.ntmps158
  go_wp2_with fail;refine GA.out.mono ?_;rintro e w1 ⟨rfl,b1⟩;have B1:=Lib.hid (B0.out.trans (b1.mono B0.out.size));have A1:=Lib.hid (HA.out.below b1);have R1:=Lib.hid (R0.out.below b1);have X1:w1.heap[w.heap.size]? = some (.cells #[.int .i64 p,.slice (some ⟨b,off,none⟩) n cap] 70 (0,0)):=(b1.block _ (by simp)).trans (heap_alloc_new w _);have c1:w1.cell? ⟨w.heap.size,1,none⟩=some (.slice (some ⟨b,off,none⟩) n cap):=row_cell X1 1;have Y1:=Lib.hid X1;clear b1 GA B0 HA R0 X1;have AI:Hid (n≤1→At K4 w1 b off (l.drop 1)):=Lib.hid (fun h=>at_none (by rw [HN.out];exact h));have AR:Hid (At K4 w1 b (off+4) (l.drop 1)):=Lib.hid (at_drop A1.out);have KR:Hid (okL (l.drop 1)):=Lib.hid (okL_drop OK.out 1);have LR:Hid ((l.drop 1).length=n - 1):=Lib.hid (by rw [List.length_drop,HN.out]);clear HG OK A1;have hn1:n - 1≤255:=by omega
  have RN2:Hid (∀ k,k < n - 1→(takL l).take k ++ [(rat (l.drop 1) k).1]=(takL l).take (k+1)):=Lib.hid (fun k h=>RN.out k (by omega));clear RN;generalize l.drop 1=r at *;generalize takL l=L at *;go_wp2
  case' inl =>
   have A2:Hid (At K4 w1 b off r):=Lib.hid (AI.out (by omega));clear AI AR
  case' inr =>
   have A2:=AR;clear AI AR;generalize off+4=off2 at *
  all_goals
   generalize n - 1=m at *;clear c1
   go_loopw [16,4] (fun i u wr=>∃ (k:Nat),k≤m∧i = .int .i64 k∧Hid (TRel w1 L k u wr)) (fun i _ _=>m - (intOf i).toNat)
   case atStart=>exact ⟨0,Nat.zero_le _,rfl,Lib.hid ⟨by rw [List.take_zero];exact Rw.Ow.nil _ _ _,Below.refl _ _⟩⟩
   case round =>
    obtain ⟨k,hk,rfl,RR⟩:=hrel;obtain ⟨av,cv,ev,hcv,hmv⟩:=RR.out.own.slice;rw [RL.out k hk] at ev hcv;subst ev
    by_cases hlt:k < m
    ·obtain ⟨c0,c1',c2,c3⟩:=at4 (A2.out.below RR.out.bel) k (by rw [LR.out];exact hlt)
     have kv:=(okR_at KR.out k).1;have RX:=Lib.hid (RN2.out k hlt);have RK:=Lib.hid (RL.out k hk);generalize rat r k=y at *;have W0:IntKind.i64.wrap y.1=y.1:=IntWalk.i64_in _ (by omega);have zb:=RR.out.bel.size
     go_wp2_with (at_builtin;refine Rw.push_step Tryz.underlying146 infoI rfl (by omega) rfl _ _ rfl w1.heap.size _ _ rfl ((RR.out.own.alloc _).alloc _) _ y.1 rfl ?d1 ?d2 ?d3 ?_)
     case d1 =>
      intro j u hu
      match j,hu with
      | 0,hu=>simp [KI,Rw.int] at hu;subst hu;rw [addr_zero];go_simp
     case d2=>rw [RK.out];omega
     case d3=>simp;omega
     intro v' w3 o3 b3
     rw [RX.out] at o3;have N3:Hid (TRel w1 L (k+1) v' w3):=Lib.hid ⟨o3,((RR.out.bel.alloc zb _).alloc (by simp;omega) _).trans (b3.mono (Nat.le_refl _))⟩;obtain ⟨av',cv',ev',_,_⟩:=o3.slice;rw [RL.out _ (by omega)] at ev';subst ev';clear o3 b3 RR RX RK kv;go_wp2
     go_roundw
     case rel=>exact ⟨k+1,by omega,by go_num,N3⟩
     case measure=>simp [intOf];omega
    ·obtain rfl:k=m:=by omega
     have O2:=RR.out.own;rw [RA.out] at O2;have RL2:=Lib.hid O2.rd;have BW:Hid (Below w.heap.size w wr):=Lib.hid (B1.out.trans (RR.out.bel.mono B1.out.size));have RF:=Lib.hid (R1.out.below RR.out.bel);have XF:=(RR.out.bel.block _ (lt_of_block Y1.out)).trans Y1.out;clear RR O2 RN2 RL RA A2 KR LR R1 Y1 B1;unfold FilePost file at FA;go_wp2_with fail;refine (FA.out _ _ RL2.out).mono ?_;rintro e w4 ⟨u4,rfl,r4,b4⟩;obtain ⟨a4,n4,k4,rfl⟩:∃ a n c,u4 = .slice a n c:=by obtain ⟨a,c,e,_⟩:=r4;exact ⟨a,_,c,e⟩
     have B4:=Lib.hid (BW.out.trans (b4.mono BW.out.size));have RF4:=Lib.hid (RF.out.below b4);have RL4:=Lib.hid (RL2.out.below b4);have X4:=(b4.block _ (lt_of_block XF)).trans XF;have r4h:=Lib.hid r4;have BB:Hid (Below w4.heap.size w4 (w4.alloc (.cells #[.int .i64 (fP L),.slice a4 n4 k4] 70))):=Lib.hid ((Below.refl _ _).alloc (Nat.le_refl _) _);have B5:=Lib.hid (B4.out.trans (BB.out.mono B4.out.size));have RF5:=Lib.hid (RF4.out.below BB.out);have RL5:=Lib.hid (RL4.out.below BB.out);have RU5:=Lib.hid (r4.below BB.out);have X5:=(BB.out.block _ (lt_of_block X4)).trans X4;have Y5:=heap_alloc_new w4 (.cells #[.int .i64 (fP L),.slice a4 n4 k4] 70);clear b4 BW RF RL2 XF r4 r4h FA BB B4 RF4 RL4 X4
     by_cases hs:seqP L
     ·have e1:fP L=3:=if_pos hs
      have e2:fN L=0:=if_pos hs;have e3:fL L=fileL L:=if_pos hs;rw [e1] at B5 RF5 RL5 RU5 X5 Y5 ⊢;rw [e3] at RU5;rw [e2];clear e1 e2 e3
      by_cases hq:p=3∧l=fileL L
      ·have E:=Lib.hid (YES.out (IS.out.2 ⟨hs,hq⟩))
       have S4:=Lib.hid (fun w v' R R'=>at_bool (show sameF p l 3 (fileL L)=true from decide_eq_true hq) (SA.out w v' (fileL L) R R'));clear YES NO IS SA hs hq;go_upto_region 10 with fail
       (try (rename cap=1=>hc1;subst hc1))
       generalize w4.alloc (.cells #[.int .i64 3,.slice a4 n4 k4] 70)=W at *;generalize w4.heap.size=gF at *;have d0:W.cell? ⟨w.heap.size,0,none⟩=some (.int .i64 p):=row_cell X5 0;have d1:W.cell? ⟨w.heap.size,1,none⟩=some (.slice (some ⟨b,off,none⟩) n _):=row_cell X5 1;have e0:W.cell? ⟨gF,0,none⟩=some (.int .i64 3):=row_cell Y5 0;have e1:W.cell? ⟨gF,1,none⟩=some (.slice a4 n4 k4):=row_cell Y5 1;go_wp2_with fail;refine (S4.out _ _ RF5.out RU5.out).mono ?_;rintro e w6 ⟨rfl,b6⟩;have E6:=Lib.hid (E.out _ _ (RL5.out.below b6) (B5.out.trans (b6.mono B5.out.size)));clear b6 S4 d0 d1 e0 e1;go_wp2
       go_ret2
       exact E6.out
      ·have E:=Lib.hid (NO.out (fun h=>hq (IS.out.1 h).2))
       have S4:=Lib.hid (fun w v' R R'=>at_bool (show sameF p l 3 (fileL L)=false from decide_eq_false hq) (SA.out w v' (fileL L) R R'));clear YES NO IS SA hs hq;go_upto_region 10 with fail
       (try (rename cap=1=>hc1;subst hc1))
       generalize w4.alloc (.cells #[.int .i64 3,.slice a4 n4 k4] 70)=W at *;generalize w4.heap.size=gF at *;have d0:W.cell? ⟨w.heap.size,0,none⟩=some (.int .i64 p):=row_cell X5 0;have d1:W.cell? ⟨w.heap.size,1,none⟩=some (.slice (some ⟨b,off,none⟩) n _):=row_cell X5 1;have e0:W.cell? ⟨gF,0,none⟩=some (.int .i64 3):=row_cell Y5 0;have e1:W.cell? ⟨gF,1,none⟩=some (.slice a4 n4 k4):=row_cell Y5 1;go_wp2_with fail;refine (S4.out _ _ RF5.out RU5.out).mono ?_;rintro e w6 ⟨rfl,b6⟩;have E6:=Lib.hid (E.out _ (B5.out.trans (b6.mono B5.out.size)));clear b6 S4 d0 d1 e0 e1;go_wp2
       go_ret2
       exact E6.out
     ·have e2:fN L=1:=if_neg hs
      rw [e2];have E:=Lib.hid (NO.out (fun h=>hs (IS.out.1 h).1));clear YES NO IS SA hs e2 RU5 RL5 RF5 X5 Y5;go_wp2
      go_ret2
      exact E.out _ B5.out
 ·have GA:=Lib.hid (at_bool (show goodFB p l=false from decide_eq_false hg) (Fl.good_any _ p v l R0.out))
  have E:=Lib.hid (fun w'=>sq_no (w:=w) (p:=p) (l:=l) (w':=w') (fun h=>hg h.1));clear hg ok;obtain ⟨a,cap,rfl,_,hm,hA⟩:=R0.out;clear hA R0;generalize l.length=n at *;unfold file at *
  go_enter Tryz.func158,Tryz.ntmps158
  go_wp2_with fail;refine GA.out.mono ?_;rintro e w1 ⟨rfl,b1⟩;have B1:=Lib.hid (B0.out.trans (b1.mono B0.out.size));clear b1 GA B0;go_wp2
  go_ret2
  exact E.out _ B1.out
end Go.Proofs.YtljnkaodhfnbbaaGreatDoor.Re
namespace Go.Proofs.YtljnkaodhfnbbaaGreatDoor.Cu
open Go.RowKit Go.Maps
open Rw (Rd Ow At)
open Fl (R4 K4 okL file row_cell sto2 sto2_row sto2_below)
open Fs (Abs Ent E3 at3 key abs_look OkA)
open Re (KI SeqPost)
theorem f_none {L:List Ent} {n:Int} (h:∀ j,j < L.length→∀ e,L[j]? = some e→e.n≠n):fB (L.map Ent.abs) n=false∧fP (L.map Ent.abs) n=0∧fR (L.map Ent.abs) n = []:=by
 have e:Fs.look key n (L.map Ent.abs)=none:=by
  rw [abs_look]
  rw [Fs.look_none.2 fun x hx=>by
   obtain ⟨i,hi⟩:=List.getElem?_of_mem hx
   exact h i (List.getElem?_eq_some_iff.1 hi).1 x hi]
  rfl
 unfold fB fP fR;rw [e];exact ⟨rfl,rfl,rfl⟩
theorem f_some {L:List Ent} {n:Int} {k:Nat} {c:Ent} (hc:L[k]? = some c) (hn:c.n=n) (h:∀ j,j < k→∀ e,L[j]? = some e→e.n≠n):fB (L.map Ent.abs) n=true∧fP (L.map Ent.abs) n=c.p∧fR (L.map Ent.abs) n=c.l:=by
 have e:Fs.look Ent.n n L=some c:=by
  unfold Fs.look;rw [List.find?_eq_some_iff_getElem];obtain ⟨hk,hc2⟩:=List.getElem?_eq_some_iff.1 hc;refine ⟨by simpa using hn,k,hk,hc2,fun j hj=>?_⟩;have:=h j hj _ (List.getElem?_eq_getElem (by omega))
  simpa using this
 have e2:Fs.look key n (L.map Ent.abs)=some c.abs:=by rw [abs_look,e];rfl
 unfold fB fP fR;rw [e2];exact ⟨rfl,rfl,rfl⟩
end Go.Proofs.YtljnkaodhfnbbaaGreatDoor.Cu
namespace Go.Proofs.YtljnkaodhfnbbaaGreatDoor.Ro
open Go.RowKit
open Rw (Rd Ow At)
open Fl (R4 z4 rec4 K4 okR okL okR_at hdr rat goodF goodFB file ret_bool at_bool at4 row_cell row_frozen)
def TabPostO (w:World) (p:Int) (l:List R4) (e:Ending) (w':World):Prop:=∃ u,e = .returned (.tuple #[u,.int .i64 (tabN p l)])∧Ow K5 w' w.heap.size 87 u (tabL p l)∧Below w.heap.size w w'
structure TRel (w:World) (r:List R4) (k:Nat) (u:Value) (L:List E5) (wr:World):Prop where
 own:Ow K5 wr w.heap.size 87 u L
 red:Read r k L
 bel:Below w.heap.size w wr
theorem at_drop {w:World} {b off:Nat} {l:List R4} (h:At K4 w b off l):At K4 w b (off+4) (l.drop 1):=fun i hi j u hu=>by
 rw [List.length_drop] at hi;have e:=h (i+1) (by omega) j u (by rw [← hu];congr 1;simp [List.getD]);rw [show off+(i+1) * K4.n+j=off+4+i * K4.n+j by show off+(i+1) * 4+j=off+4+i * 4+j;omega] at e;exact e
theorem at_none {w:World} {b off:Nat} {l:List R4} (h:l.length≤1):At K4 w b off (l.drop 1):=fun i hi=>by rw [List.length_drop] at hi;omega
theorem okL_drop {l:List R4} (h:okL l) (k:Nat):okL (l.drop k):=fun r hr=>h r (List.mem_of_mem_drop hr)
def TabEnd (w:World) (p:Int) (l:List R4) (L:List E5):Prop:=(mayP L→∀ u w',Ow K5 w' w.heap.size 87 u L→Below w.heap.size w w'→TabPostO w p l (.returned (.tuple #[u,.int .i64 0])) w')∧(¬ mayP L→∀ w',Below w.heap.size w w'→TabPostO w p l (.returned (.tuple #[.slice none 0 0,.int .i64 2])) w')
theorem tab_end {w:World} {p:Int} {l:List R4} {L:List E5} (hg:goodF p l) (h:scan (l.drop 1)=some L):TabEnd w p l L :=
 ⟨fun hm u w' hu hb=>by
  have e:=tab_yes hg h hm;exact ⟨u,by rw [e.2],by rw [e.1];exact hu,hb⟩,fun hm w' hb=>by
  have e:=tab_no (p:=p) h hm
  exact ⟨_,by rw [e.2],by rw [e.1];exact Rw.Ow.nil _ _ _,hb⟩⟩
set_option maxHeartbeats 2000000 in
theorem tableO_any (w:World) (p:Int) (v:Value) (l:List R4) (R:Rd K4 w v l) (ok:okL l):Calls Tryz.prog 205 #[file p v] w (TabPostO w p l):=by
 have B0:=Lib.hid ((Below.refl w.heap.size w).alloc (Nat.le_refl _) (.cells #[.int .i64 p,v] 70));have R0:=Lib.hid (R.below B0.out);have HE:Hid (tabL p l = []∧tabN p l=2→∀ w',Below w.heap.size w w'→TabPostO w p l (.returned (.tuple #[.slice none 0 0,.int .i64 2])) w'):=Lib.hid (fun h w' hb=>⟨_,by rw [h.2],by rw [h.1];exact Rw.Ow.nil _ _ _,hb⟩);clear R
 by_cases hg:goodF p l
 ·have GA:=Lib.hid (at_bool (show goodFB p l=true from decide_eq_true hg) (Fl.good_any _ p v l R0.out))
  have hl:=hg.2.2.1;have hl2:=hg.2.2.2.1;have HG:=Lib.hid hg;have OK:=Lib.hid ok;clear hg ok;obtain ⟨a,cap,rfl,⟨hc,_⟩,hm,hA⟩:=R0.out;obtain ⟨b,off,rfl,hA⟩:=hA (by omega);have HA:=Lib.hid hA;unfold maxLen at hm;clear hA R0;generalize hn:l.length=n at *;have HN:=Lib.hid hn;clear hn;unfold file at *
  go_enter Tryz.func205,Tryz.ntmps205
  go_wp2_with fail;refine GA.out.mono ?_;rintro e w1 ⟨rfl,b1⟩;have B1:=Lib.hid (B0.out.trans (b1.mono B0.out.size));have A1:=Lib.hid (HA.out.below b1);have c1:w1.cell? ⟨w.heap.size,1,none⟩=some (.slice (some ⟨b,off,none⟩) n cap):=(b1.cell (by simp)).trans (by go_simp);clear b1 GA B0 HA;have HS:Hid (scan (l.drop 1)=none→∀ w',Below w.heap.size w w'→TabPostO w p l (.returned (.tuple #[.slice none 0 0,.int .i64 2])) w'):=Lib.hid (fun h=>HE.out (tab_stop h));have HT:Hid (∀ L,scan (l.drop 1)=some L→TabEnd w p l L):=Lib.hid (fun L h=>tab_end HG.out h);have AI:Hid (n≤1→At K4 w1 b off (l.drop 1)):=Lib.hid (fun h=>at_none (by rw [HN.out];exact h));have AR:Hid (At K4 w1 b (off+4) (l.drop 1)):=Lib.hid (at_drop A1.out);have KR:Hid (okL (l.drop 1)):=Lib.hid (okL_drop OK.out 1);have LR:Hid ((l.drop 1).length=n - 1):=Lib.hid (by rw [List.length_drop,HN.out]);clear HE HG OK A1;have hn1:n - 1≤255:=by omega
  generalize l.drop 1=r at *;go_wp2
  case' inl =>
   have A2:Hid (At K4 w1 b off r):=Lib.hid (AI.out (by omega));clear AI AR;generalize off=off2 at *
  case' inr =>
   have A2:=AR;clear AI AR;generalize off+4=off2 at *
  all_goals
   generalize n - 1=m at *
   go_loopw [16,4] (fun i u wr=>∃ (k:Nat) (L:List E5),k≤m∧i = .int .i64 k∧Hid (TRel w1 r k u L wr)) (fun i _ _=>m - (intOf i).toNat)
   case atStart=>exact ⟨0,[],Nat.zero_le _,rfl,Lib.hid ⟨Rw.Ow.nil _ _ _,read_start r,Below.refl _ _⟩⟩
   case round =>
    obtain ⟨k,L,hk,rfl,RR⟩:=hrel;obtain ⟨av,cv,ev,hcv,hmv⟩:=RR.out.own.slice;have LL:Hid (L.length=k):=Lib.hid RR.out.red.1;generalize L.length=Ln at ev hcv LL;subst ev
    by_cases hlt:k < m
    ·obtain ⟨c0,c1',c2,c3⟩:=at4 (A2.out.below RR.out.bel) k (by rw [LR.out];exact hlt)
     have kv:=okR_at KR.out k;have TA:=Lib.hid (fun w=>take_any w (rat r k) kv);have Q1:Hid (¬ okE (takeX (rat r k))→scan r=none):=Lib.hid (read_bad RR.out.red (by rw [LR.out];exact hlt));have Q2:Hid (okE (takeX (rat r k))→(takeX (rat r k)).1=4→scan r=some L):=Lib.hid (read_end RR.out.red (by rw [LR.out];exact hlt));have Q3:Hid (okE (takeX (rat r k))→(takeX (rat r k)).1≠4→Read r (k+1) (L ++ [takeX (rat r k)])):=Lib.hid (read_next RR.out.red (by rw [LR.out];exact hlt));clear kv
     by_cases h1:okE (takeX (rat r k))
     ·have e1:takeE (rat r k)=takeX (rat r k):=if_pos h1
      have e2:takeN (rat r k)=0:=if_pos h1;rw [e1,e2] at TA;have P2:=Lib.hid (Q2.out h1);have P3:=Lib.hid (Q3.out h1);clear e1 e2 Q1 Q2 Q3 h1;unfold ent rec4 at TA;generalize takeX (rat r k)=x at *;generalize rat r k=y at *
      by_cases h4:x.1=4
      ·have TE:=Lib.hid (HT.out L (P2.out h4))
       clear P2 P3 HS HT;go_wp2_with fail;refine (TA.out _).mono ?_;rintro e w2 ⟨rfl,b2⟩;have BA:=RR.out.bel.alloc RR.out.bel.size (.cells #[.int .u8 y.1,.int .u8 y.2.1,.int .u8 y.2.2.1,.int .u8 y.2.2.2] 42);have B2:Hid (Below w1.heap.size w1 w2):=Lib.hid (BA.trans (b2.mono BA.size));have O2:=Lib.hid ((RR.out.own.alloc (.cells #[.int .u8 y.1,.int .u8 y.2.1,.int .u8 y.2.2.1,.int .u8 y.2.2.2] 42)).keep b2);have BW:Hid (∀ o,Below w.heap.size w (w2.alloc o)):=Lib.hid (fun o=>B1.out.trans ((B2.out.alloc B2.out.size o).mono B1.out.size));have RW:Hid (∀ o,Ow K5 (w2.alloc o) w.heap.size 87 (.slice av Ln cv) L):=Lib.hid (fun o=>(O2.out.alloc o).low B1.out.size);clear BA b2 B2 O2 RR c0 c1' c2 c3 TA
       by_cases hm:mayP L
       ·have E:=Lib.hid (TE.out.1 hm)
        have IT:=Lib.hid (fun w v R=>at_bool (show mayB L=true from decide_eq_true hm) (istable_any w v L R));clear TE hm;go_wp2_with fail;refine (IT.out _ _ (Rw.Ow.rd (RW.out _))).mono ?_;rintro e w4 ⟨rfl,b4⟩;have E4:=Lib.hid (E.out _ _ (Rw.Ow.keep (RW.out _) b4) (Below.trans (BW.out _) (b4.mono (Below.size (BW.out _)))));clear b4 E IT;go_wp2
        go_ret2
        exact E4.out
       ·have E:=Lib.hid (TE.out.2 hm)
        have IT:=Lib.hid (fun w v R=>at_bool (show mayB L=false from decide_eq_false hm) (istable_any w v L R));clear TE hm;go_wp2_with fail;refine (IT.out _ _ (Rw.Ow.rd (RW.out _))).mono ?_;rintro e w4 ⟨rfl,b4⟩;have E4:=Lib.hid (E.out _ (Below.trans (BW.out _) (b4.mono (Below.size (BW.out _)))));clear b4 E IT;go_wp2
        go_ret2
        exact E4.out
      ·have PR:=Lib.hid (P3.out h4)
       clear P2 P3 HS HT;go_wp2_with fail;refine (TA.out _).mono ?_;rintro e w2 ⟨rfl,b2⟩;have BA:=RR.out.bel.alloc RR.out.bel.size (.cells #[.int .u8 y.1,.int .u8 y.2.1,.int .u8 y.2.2.1,.int .u8 y.2.2.2] 42);have B2:Hid (Below w1.heap.size w1 w2):=Lib.hid (BA.trans (b2.mono BA.size));have O2:=Lib.hid ((RR.out.own.alloc (.cells #[.int .u8 y.1,.int .u8 y.2.1,.int .u8 y.2.2.1,.int .u8 y.2.2.2] 42)).keep b2);have LN:=Lib.hid RR.out.red.1;have z2:=B2.out.size;clear BA b2 RR c0 c1' c2 c3 TA
       go_wp2_with (at_builtin;refine Rw.push_step Tryz.underlying85 infoE rfl (by omega) rfl _ _ rfl w1.heap.size _ _ rfl ((O2.out.alloc _).alloc _) _ x rfl ?d1 ?d2 ?d3 ?_)
       case d1 =>
        intro j u hu
        match j,hu with
        | 0,hu=>simp [K5] at hu;subst hu;go_simp
        | 1,hu=>simp [K5] at hu;subst hu;go_simp
        | 2,hu=>simp [K5] at hu;subst hu;go_simp
        | 3,hu=>simp [K5] at hu;subst hu;go_simp
        | 4,hu=>simp [K5] at hu;subst hu;go_simp
        | j+5,hu=>simp [K5] at hu
       case d2=>rw [LN.out];omega
       case d3=>simp;omega
       intro v' w3 o3 b3
       have N3:Hid (TRel w1 r (k+1) v' (L ++ [x]) w3):=Lib.hid ⟨o3,PR.out,((B2.out.alloc z2 _).alloc (by simp;omega) _).trans (b3.mono (Nat.le_refl _))⟩;obtain ⟨av',cv',ev',_,_⟩:=o3.slice;generalize (L ++ [x]).length=Ln' at ev';subst ev';clear o3 b3 O2 B2 PR LN;go_wp2
       go_roundw
       case rel=>exact ⟨k+1,L ++ [x],by omega,by go_num,N3⟩
       case measure=>simp [intOf];omega
     ·have e1:takeE (rat r k)=z5:=if_neg h1
      have e2:takeN (rat r k)=2:=if_neg h1;rw [e1,e2] at TA;have E:=Lib.hid (HS.out (Q1.out h1));clear e1 e2 Q1 Q2 Q3 h1 HS HT;unfold ent rec4 at TA;simp only [z5] at TA;generalize rat r k=y at *;go_wp2_with fail;refine (TA.out _).mono ?_;rintro e w2 ⟨rfl,b2⟩;have BA:=RR.out.bel.alloc RR.out.bel.size (.cells #[.int .u8 y.1,.int .u8 y.2.1,.int .u8 y.2.2.1,.int .u8 y.2.2.2] 42);have B2:Hid (Below w1.heap.size w1 w2):=Lib.hid (BA.trans (b2.mono BA.size));have O2:=Lib.hid ((RR.out.own.alloc (.cells #[.int .u8 y.1,.int .u8 y.2.1,.int .u8 y.2.2.1,.int .u8 y.2.2.2] 42)).keep b2);have BW:Hid (∀ o,Below w.heap.size w (w2.alloc o)):=Lib.hid (fun o=>B1.out.trans ((B2.out.alloc B2.out.size o).mono B1.out.size));clear BA b2 B2 O2 RR c0 c1' c2 c3 TA;go_wp2
      go_ret2
      exact E.out _ (BW.out _)
    ·obtain rfl:k=m:=by omega
     have TE:=Lib.hid (HT.out L (read_all (by rw [LR.out];exact RR.out.red)));have BW:Hid (Below w.heap.size w wr):=Lib.hid (B1.out.trans (RR.out.bel.mono B1.out.size));have RW:Hid (Ow K5 wr w.heap.size 87 (.slice av Ln cv) L):=Lib.hid (RR.out.own.low B1.out.size);clear RR HS HT
     by_cases hm:mayP L
     ·have E:=Lib.hid (TE.out.1 hm)
      have IT:=Lib.hid (fun w v R=>at_bool (show mayB L=true from decide_eq_true hm) (istable_any w v L R));clear TE hm;go_wp2_with fail;refine (IT.out _ _ (Rw.Ow.rd RW.out)).mono ?_;rintro e w4 ⟨rfl,b4⟩;have E4:=Lib.hid (E.out _ _ (Rw.Ow.keep RW.out b4) (Below.trans BW.out (b4.mono (Below.size BW.out))));clear b4 E IT;go_wp2
      go_ret2
      exact E4.out
     ·have E:=Lib.hid (TE.out.2 hm)
      have IT:=Lib.hid (fun w v R=>at_bool (show mayB L=false from decide_eq_false hm) (istable_any w v L R));clear TE hm;go_wp2_with fail;refine (IT.out _ _ (Rw.Ow.rd RW.out)).mono ?_;rintro e w4 ⟨rfl,b4⟩;have E4:=Lib.hid (E.out _ (Below.trans BW.out (b4.mono (Below.size BW.out))));clear b4 E IT;go_wp2
      go_ret2
      exact E4.out
 ·have GA:=Lib.hid (at_bool (show goodFB p l=false from decide_eq_false hg) (Fl.good_any _ p v l R0.out))
  have E:=Lib.hid (HE.out (tab_bad hg));clear hg HE ok;obtain ⟨a,cap,rfl,_,hm,hA⟩:=R0.out;clear hA R0;generalize l.length=n at *;unfold file at *
  go_enter Tryz.func205,Tryz.ntmps205
  go_wp2_with fail;refine GA.out.mono ?_;rintro e w1 ⟨rfl,b1⟩;have B1:=Lib.hid (B0.out.trans (b1.mono B0.out.size));clear b1 GA B0;go_wp2
  go_ret2
  exact E.out _ B1.out
end Go.Proofs.YtljnkaodhfnbbaaGreatDoor.Ro
namespace Go.Proofs.YtljnkaodhfnbbaaGreatDoor.Cu
open Go.RowKit Go.Maps
open Rw (Rd Ow At)
open Fl (R4 K4 okL okR file row_cell row_frozen sto2 sto2_row sto2_below results_file)
open Fs (Abs St OkA Only Fx ow_only rd_only FilesPost Ent E3 at3)
open Pa (Sts S2 sat vat KN KB K2 ptr)
open Ro (E5 K5 tabL tabN tableO_any TabPostO)
attribute [local irreducible] Sd.wpSd wpQuiet
def FilC (w:World) (A:Abs) (n:Int) (e:Ending) (w':World):Prop:=∃ v,e = .returned (file (fP A n) v)∧Rd K4 w' v (fR A n)∧Below w.heap.size w w'
section
variable {s t p:Nat} {F G:Nat→Prop} {c:Cs} {vn vq:Value} {L:List Nd} {Fs:Nat→Nat→Prop} {w w':World}
set_option maxHeartbeats 1000000 in
theorem cfile_any (h:Cl w s F c t vn L p vq Fs) {nn:Nat} (hn:nn < c.S.length) (n:Int):Calls Tryz.prog 159 #[ptr s,.int .i64 nn,.int .i64 n] w (FilC w (sat c.S nn).1 n):=by
 have B0:=Lib.hid ((Below.refl w.heap.size w).alloc (Nat.le_refl _) (.cells #[.int .i64 0,.slice none 0 0] 70));have X0:=Lib.hid (heap_alloc_new w (.cells #[.int .i64 0,.slice none 0 0] 70));have C1:=Lib.hid (cfiles_in (h.below B0.out) hn);unfold FilesPost at C1;clear h hn;generalize (sat c.S nn).1=A at *;unfold ptr at *
 go_enter Tryz.func159,Tryz.ntmps159
 go_wp2_with fail;refine C1.out.mono ?_;rintro e w1 ⟨v,rfl,hv,b1⟩;obtain ⟨L,hL,rfl⟩:=hv (fun k=>k=w.heap.size) (fun k e=>by rw [e];simp);have FO:=Lib.hid hL.foff;have X1:Hid (w1.heap[w.heap.size]? = some (.cells #[.int .i64 0,.slice none 0 0] 70 (0,0))):=Lib.hid ((b1.block _ (lt_of_block X0.out)).trans X0.out);have B1:=Lib.hid (B0.out.trans (b1.mono B0.out.size));have FI:=Lib.hid hL.file;have hlen:L.length≤9223372036854775807:=by
  obtain ⟨_,_,_,⟨_,_⟩,hm,_⟩:=hL.rd;unfold maxLen at hm
  omega
 obtain ⟨a,cap,rfl,_,_,h3⟩:=hL.rd;have H3:=Lib.hid h3;have NO:Hid ((∀ j,j < L.length→∀ e,L[j]? = some e→e.n≠n)→fB (L.map Ent.abs) n=false∧fP (L.map Ent.abs) n=0∧fR (L.map Ent.abs) n = []):=Lib.hid f_none;have YES:Hid (∀ (k:Nat) (c:Ent),L[k]? = some c→c.n=n→(∀ j,j < k→∀ e,L[j]? = some e→e.n≠n)→fB (L.map Ent.abs) n=true∧fP (L.map Ent.abs) n=c.p∧fR (L.map Ent.abs) n=c.l):=Lib.hid (fun _ _=>f_some);have BB:=Lib.hid (Below.refl w1.heap.size w1);clear hv hL h3 b1 C1 X0 B0;generalize hN:L.length=N at *;have HN:=Lib.hid hN;clear hN;go_wp2
 go_loopw [13] (fun i wr=>∃ k:Nat,k≤N∧i = .int .i64 k∧Hid (∀ j,j < k→∀ e,L[j]? = some e→e.n≠n)∧Hid (Below w1.heap.size w1 wr)) (fun i _=>N - (intOf i).toNat)
 case atStart=>exact ⟨0,Nat.zero_le _,rfl,fun j hj=>by omega,BB⟩
 case round =>
  clear BB;obtain ⟨k,hk,rfl,hb,B⟩:=hrel
  by_cases hlt:k < N
  ·have hkL:k < L.length:=by have:=HN.out;omega
   obtain ⟨c,hc⟩:∃ c,L[k]? = some c:=⟨_,List.getElem?_eq_getElem hkL⟩;obtain ⟨b,off,rfl,hA⟩:=H3.out (by omega);obtain ⟨x0,x1,x2⟩:=at3 (hA.below B.out) hc;have HAA:=Lib.hid hA;have RF:=Lib.hid (FI.out c (List.mem_of_getElem? hc));have FF:=Lib.hid (FO.out c (List.mem_of_getElem? hc));have Y:=Lib.hid (YES.out k c hc)
   have NB:Hid (c.n≠n→∀ j,j < k+1→∀ e,L[j]? = some e→e.n≠n):=Lib.hid (fun he j hj e hje=>by
    by_cases ej:j=k
    ·subst ej
     rw [hc] at hje;obtain rfl:=Option.some.inj hje;exact he
    ·exact hb.out j (by omega) e hje)
   clear hc hkL hA;unfold Ent.sl at x2 RF FF;generalize c.a=ca at *;generalize c.cap=ccap at *;generalize c.p=cp at *;generalize c.n=cn at *;generalize c.l=cl at *;have Z0:=Lib.hid (heap_alloc_new wr (.cells #[.int .i64 cn,.int .i64 cp,.slice ca cl.length ccap] 72));have BN:=Lib.hid ((Below.refl wr.heap.size wr).alloc (Nat.le_refl _) (.cells #[.int .i64 cn,.int .i64 cp,.slice ca cl.length ccap] 72));go_upto_region 4 with fail;clear x0 x1 x2;generalize wr.alloc (.cells #[.int .i64 cn,.int .i64 cp,.slice ca cl.length ccap] 72)=W at *;have B2:=Lib.hid (B.out.trans (BN.out.mono B.out.size));clear BN B;generalize wr.heap.size=gx at *;have y0:W.cell? ⟨gx,0,none⟩=some (.int .i64 cn):=row_cell Z0.out 0;have y1:W.cell? ⟨gx,1,none⟩=some (.int .i64 cp):=row_cell Z0.out 1;have y2:W.cell? ⟨gx,2,none⟩=some (.slice ca cl.length ccap):=row_cell Z0.out 2
   by_cases he:cn=n
   ·have Y1:=Lib.hid (Y.out he hb.out)
    subst he;have XW:=Lib.hid ((B2.out.block _ (lt_of_block X1.out)).trans X1.out);have z0:W.cell? ⟨w.heap.size,0,none⟩=some (.int .i64 0):=row_cell XW.out 0;have z1:W.cell? ⟨w.heap.size,1,none⟩=some (.slice none 0 0):=row_cell XW.out 1;have f0:=row_frozen XW.out 0;have f1:=row_frozen XW.out 1;have R1:=Lib.hid (sto2_row XW.out cp (.slice ca cl.length ccap));have BS:=Lib.hid (sto2_below (p:=cp) (v:=.slice ca cl.length ccap) (B1.out.trans (B2.out.mono B1.out.size)) (Nat.le_refl _));have RS:=Lib.hid (rd_only (RF.out.below B2.out) (G:=fun k=>k=w.heap.size) FF.out ((Only.set (fun k=>k=w.heap.size) W (a:=⟨w.heap.size,0,none⟩) rfl (.int .i64 cp)).trans (Only.set (fun k=>k=w.heap.size) _ (a:=⟨w.heap.size,1,none⟩) rfl (.slice ca cl.length ccap)) fun _ _ g=>g))
    have E:Hid (FilC w (L.map Ent.abs) cn (.returned (file cp (.slice ca cl.length ccap))) (sto2 W w.heap.size cp (.slice ca cl.length ccap))):=Lib.hid (by
     obtain ⟨y1,y2,y3⟩:=Y1.out;refine ⟨_,by rw [y2],?_,BS.out⟩;rw [y3]
     exact RS.out)
    clear Y Y1 RF FF NO YES hb NB X1 Z0 B2 BS RS;generalize w.heap.size=g0 at *;go_wp2
    (try simp only [Exit.inBlock,Exit.then])
    exact bodyPost_ret (results_file (p:=6) rfl _ _ g0 cp (.slice ca cl.length ccap) rfl R1.out) rfl E.out
   ·have NB1:=Lib.hid (NB.out he)
    clear Y RF FF NB hb;go_wp2
    go_roundw
    case rel=>exact ⟨k+1,by omega,by go_num,NB1,B2⟩
    case measure=>simp [intOf];omega
  ·obtain rfl:k=N:=by omega
   have E:=Lib.hid (NO.out (fun j hj=>hb.out j (by have:=HN.out;omega)));have XW:=Lib.hid ((B.out.block _ (lt_of_block X1.out)).trans X1.out);have z0:wr.cell? ⟨w.heap.size,0,none⟩=some (.int .i64 0):=row_cell XW.out 0;have z1:wr.cell? ⟨w.heap.size,1,none⟩=some (.slice none 0 0):=row_cell XW.out 1;have f0:=row_frozen XW.out 0;have f1:=row_frozen XW.out 1;have R1:=Lib.hid (sto2_row XW.out 0 (.slice none 0 0));have BS:=Lib.hid (sto2_below (p:=0) (v:=.slice none 0 0) (B1.out.trans (B.out.mono B1.out.size)) (Nat.le_refl _))
   have E1:Hid (FilC w (L.map Ent.abs) n (.returned (file 0 (.slice none 0 0))) (sto2 wr w.heap.size 0 (.slice none 0 0))):=Lib.hid (by
    obtain ⟨y1,y2,y3⟩:=E.out;refine ⟨_,by rw [y2],?_,BS.out⟩;rw [y3]
    exact Rw.Rd.nil _)
   clear NO YES hb E BS B X1;generalize w.heap.size=g0 at *;go_wp2
   (try simp only [Exit.inBlock,Exit.then])
   exact bodyPost_ret (results_file (p:=6) rfl _ _ g0 0 (.slice none 0 0) rfl R1.out) rfl E1.out
def TbC (w:World) (l:List E5) (e:Ending) (w':World):Prop:=∃ u,e = .returned u∧Ow K5 w' w.heap.size 87 u l∧Below w.heap.size w w'
set_option maxHeartbeats 1000000 in
theorem ctable_any (h:Cl w s F c t vn L p vq Fs) {nn:Nat} (hn:nn < c.S.length) {k:Int} (hk:0≤k∧k≤100):Calls Tryz.prog 164 #[ptr s,.int .i64 nn,.int .i64 k] w (TbC w (tabL (fP (sat c.S nn).1 (32+k)) (fR (sat c.S nn).1 (32+k)))):=by
 have C1:=Lib.hid (cfile_any h hn (32+k));have OK:=Lib.hid (fR_ok (h.sto hn).okA (32+k));have hw:IntKind.i64.wrap (32+k)=32+k:=IntWalk.i64_in (32+k) (by omega);unfold FilC at C1;clear h hn;generalize (sat c.S nn).1=A at *;generalize fP A (32+k)=fp at *;generalize fR A (32+k)=fr at *;unfold ptr at *
 go_enter Tryz.func164,Tryz.ntmps164
 go_wp2_with fail;refine C1.out.mono ?_;rintro e w1 ⟨v,rfl,rv,b1⟩;have C2:=Lib.hid (tableO_any w1 fp v fr rv OK.out);have B1:=Lib.hid b1;obtain ⟨a,cap,rfl,_⟩:=rv.slice;unfold TabPostO at C2;clear C1 rv b1 OK;generalize tabL fp fr=l at *;generalize tabN fp fr=z at *;generalize fr.length=n at *;unfold file at *;go_wp2_with fail;refine C2.out.mono ?_;rintro e w2 ⟨u,rfl,ow,b2⟩;have E:Hid (TbC w l (.returned u) w2):=Lib.hid ⟨u,rfl,ow.low B1.out.size,B1.out.trans (b2.mono B1.out.size)⟩;clear C2 ow b2 B1;go_wp2
 go_ret
 exact E.out
end
end Go.Proofs.YtljnkaodhfnbbaaGreatDoor.Cu
namespace Go.Proofs.YtljnkaodhfnbbaaGreatDoor.Cu
open Go.RowKit Go.Extern.Stop Go.Stop Go.Extern
open Fl (row_cell row_frozen)
open Fs (Glob Only isTypeOf valP valE typP mKind mElem mImp mAsg kindP kindE elemP impE asgE elvP nilP setE valF typF nilF kinF eleF impF asgF elvF AsPost)
def flw (n e:Int):Value:=.agg #[.int .i64 n,.iface 25 (.int .i64 e)]
def flaw (n e:Int):Value:=.iface 267 (flw n e)
theorem isTypeOfW (v:Value) (w:World):(Extern.ReflectliteType.typeOf #[.iface 267 v]).run Tryz.prog w = .ok (.iface 337 (.agg #[.pointer (some ⟨2,267,none⟩)])) w:=by kernel_rfl
theorem hasUnwrapW (v:Value) (xT:TypeId) (w:World):(Instr.typeAssert (.iface 267 v) xT 342 true).run Tryz.prog w = .ok (.tuple #[.iface 267 v,.bool true]) w:=run_typeAssert_hasB Tryz.underlying342 (by kernel_rfl) v xT w
theorem methodUnwrapW (v : Value) (w : World) : (Go.method 526 267 v "Unwrap").run Tryz.prog w = .ok (295, v) w := by kernel_rfl
theorem wunwrap_any (w:World) (n:Int) (x:Value):Calls Tryz.prog 295 #[.agg #[.int .i64 n,x]] w fun e w'=>e = .returned x∧Below w.heap.size w w':=by
 go_enter Tryz.func295,Tryz.ntmps295
 go_wp2
 go_ret
 exact ⟨rfl,(Below.refl w.heap.size w).alloc (Nat.le_refl _) _⟩
theorem asgW (w:World):(asgF #[.agg #[.pointer (some ⟨2,267,none⟩)],.iface 337 (.agg #[.pointer (some ⟨2,25,none⟩)])]).run Tryz.prog w = .ok (.bool false) w:=by kernel_rfl
theorem noAsW (v:Value) (xT:TypeId) (w:World):(Instr.typeAssert (.iface 267 v) xT 363 true).run Tryz.prog w = .ok (.tuple #[.nilIface,.bool false]) w:=run_typeAssert_lacksB Tryz.underlying363 (by kernel_rfl) (by kernel_rfl) v xT w
set_option maxHeartbeats 4000000 in
theorem was_loop (n e:Int) (tb b:Nat) (w:World) (hb:w.cell? ⟨b,0,none⟩=some (.pointer (some ⟨tb,0,none⟩))) (ht:w.heap[tb]? = some (.cells #[.int .i64 0] 25 (0,0))) :
 Calls Tryz.prog 204 #[flaw n e,.iface 273 (.pointer (some ⟨tb,0,none⟩)),.agg #[.pointer (some ⟨2,273,none⟩),.pointer (some ⟨b,0,none⟩),.int .u64 150],.iface 337 (.agg #[.pointer (some ⟨2,25,none⟩)])] w (AsPost w tb e):=by
 have h42:=@run_callFunc_extern Tryz.prog 179 _ Extern.ReflectliteType.typeOf Tryz.func179 (by kernel_rfl) (by kernel_rfl) (by kernel_rfl) (by kernel_rfl);have h102:=@run_callFunc_extern Tryz.prog 304 _ asgF Tryz.func304 (by kernel_rfl) (by kernel_rfl) (by kernel_rfl) (by kernel_rfl);have h60:=@run_callFunc_extern Tryz.prog 231 _ elvF Tryz.func231 (by kernel_rfl) (by kernel_rfl) (by kernel_rfl) (by kernel_rfl);have h50:=@run_callFunc_extern Tryz.prog 201 _ valF Tryz.func201 (by kernel_rfl) (by kernel_rfl) (by kernel_rfl) (by kernel_rfl);have h61:=@run_callFunc_extern Tryz.prog 232 _ ReflectliteValue.set Tryz.func232 (by kernel_rfl) (by kernel_rfl) (by kernel_rfl) (by kernel_rfl);have tF:=isTypeOfW;have tE:=isTypeOf;have mA:=mAsg;have aF:=asgW;have aE:=asgE;have nA:=noAsW;have uF:=hasUnwrapW;have mU:=methodUnwrapW;have vE:=valE;have HB:=Lib.hid hb;have HT:=Lib.hid ht;have B0:=Lib.hid ((Below.refl w.heap.size w).alloc (Nat.le_refl _) (.cells #[.pointer (some ⟨2,273,none⟩),.pointer (some ⟨b,0,none⟩),.int .u64 150] 319));clear hb ht;unfold flaw flw
 go_enter Tryz.func204,Tryz.ntmps204
 go_wp2;refine wp_loop_rounds 2 ?_;rw [rounds_succ]
 go_wp2_with (go_at_call 295;refine (wunwrap_any _ _ _).mono ?_;rintro ev w1 ⟨rfl,b1⟩)
 have B1:=Lib.hid (B0.out.trans (b1.mono B0.out.size));have G0:w1.heap[w.heap.size]? = some (.cells #[.pointer (some ⟨2,273,none⟩),.pointer (some ⟨b,0,none⟩),.int .u64 150] 319 (0,0)):=(b1.block _ (by simp)).trans (heap_alloc_new w _);have e0:w1.cell? ⟨w.heap.size,0,none⟩=some (.pointer (some ⟨2,273,none⟩)):=row_cell G0 0;have e1:w1.cell? ⟨w.heap.size,1,none⟩=some (.pointer (some ⟨b,0,none⟩)):=row_cell G0 1;have e2:w1.cell? ⟨w.heap.size,2,none⟩=some (.int .u64 150):=row_cell G0 2;have hbl:=World.block_lt_of_cell? _ _ HB.out;have el:=elvP ⟨b,0,none⟩ ⟨tb,0,none⟩ w1 ((B1.out.cell hbl).trans HB.out);have htl:=lt_of_block HT.out;have T1:=(B1.out.block tb htl).trans HT.out;have T2:=(Below.heap_alloc w1 (.cells #[.int .i64 e] 25) tb (by have:=B1.out.size;omega)).trans T1;have st:=setE ⟨tb,0,none⟩ ⟨w1.heap.size,0,none⟩ e (.int .i64 0) (w1.alloc (.cells #[.int .i64 e] 25)) (by simp) (row_cell T2 0) (row_frozen T2 0);have RES:Hid (AsPost w tb e (.returned (.bool true)) ((w1.alloc (.cells #[.int .i64 e] 25)).setCell ⟨tb,0,none⟩ (.int .i64 e))):=by
  refine ⟨rfl,?_,?_⟩
  ·have:=Rw.heap_setCell_same (j:=0) T2 (.int .i64 e)
   rw [this]
   simp
  ·exact (Only.of_below (B1.out.alloc B1.out.size _)).trans (Only.set (fun k=>k=tb) _ (a:=⟨tb,0,none⟩) rfl _) fun _ _ g=>g
 clear b1 G0 T1 T2 HB HT B0 B1 hbl htl;rw [rounds_succ];go_wp2
 go_ret
 exact RES.out
set_option maxHeartbeats 4000000 in
theorem was_any (n e:Int) (tb:Nat) (w:World) (hg:Glob w) (ht:w.heap[tb]? = some (.cells #[.int .i64 0] 25 (0,0))) :
 Calls Tryz.prog 163 #[flaw n e,.iface 273 (.pointer (some ⟨tb,0,none⟩))] w (AsPost w tb e):=by
 have h50:=@run_callFunc_extern Tryz.prog 201 _ valF Tryz.func201 (by kernel_rfl) (by kernel_rfl) (by kernel_rfl) (by kernel_rfl);have h51:=@run_callFunc_extern Tryz.prog 202 _ typF Tryz.func202 (by kernel_rfl) (by kernel_rfl) (by kernel_rfl) (by kernel_rfl);have h52:=@run_callFunc_extern Tryz.prog 203 _ nilF Tryz.func203 (by kernel_rfl) (by kernel_rfl) (by kernel_rfl) (by kernel_rfl);have h95:=@run_callFunc_extern Tryz.prog 289 _ kinF Tryz.func289 (by kernel_rfl) (by kernel_rfl) (by kernel_rfl) (by kernel_rfl);have h104:=@run_callFunc_extern Tryz.prog 306 _ eleF Tryz.func306 (by kernel_rfl) (by kernel_rfl) (by kernel_rfl) (by kernel_rfl);have h105:=@run_callFunc_extern Tryz.prog 307 _ impF Tryz.func307 (by kernel_rfl) (by kernel_rfl) (by kernel_rfl) (by kernel_rfl);have f6:=valP;have f7:=typP;have mK:=mKind;have mE:=mElem;have mI:=mImp;have kP:=kindP;have kE:=kindE;have eP:=elemP;have iE:=impE;have hlt:0 < w.heap.size:=Nat.lt_of_le_of_lt (Nat.zero_le _) (World.block_lt_of_cell? _ _ hg);have htl:=lt_of_block ht;have B2:Below w.heap.size w ((w.alloc (.cells #[.pointer (some ⟨tb,0,none⟩)] 273)).alloc (.cells #[.pointer (some ⟨2,273,none⟩),.pointer (some ⟨w.heap.size,0,none⟩),.int .u64 150] 319)):=((Below.refl w.heap.size w).alloc (Nat.le_refl _) _).alloc (by simp) _;have n8:=nilP ⟨w.heap.size,0,none⟩ ⟨tb,0,none⟩ ((w.alloc (.cells #[.pointer (some ⟨tb,0,none⟩)] 273)).alloc (.cells #[.pointer (some ⟨2,273,none⟩),.pointer (some ⟨w.heap.size,0,none⟩),.int .u64 150] 319)) (by simp);have hg2:((w.alloc (.cells #[.pointer (some ⟨tb,0,none⟩)] 273)).alloc (.cells #[.pointer (some ⟨2,273,none⟩),.pointer (some ⟨w.heap.size,0,none⟩),.int .u64 150] 319)).cell? ⟨1,0,none⟩=some (.iface 337 (.agg #[.pointer (some ⟨2,214,none⟩)])):=hg.below B2;have AL:=Lib.hid (was_loop n e tb w.heap.size ((w.alloc (.cells #[.pointer (some ⟨tb,0,none⟩)] 273)).alloc (.cells #[.pointer (some ⟨2,273,none⟩),.pointer (some ⟨w.heap.size,0,none⟩),.int .u64 150] 319)) (by simp) ((B2.block tb htl).trans ht));have BB:=Lib.hid B2;have HTL:=Lib.hid htl;clear hg ht B2 htl;unfold flaw flw at *
 go_enter Tryz.func163,Tryz.ntmps163
 go_wp2_with (go_at_call 204;refine AL.out.mono ?_;rintro ev w1 ⟨rfl,r1,o1⟩)
 go_ret
 exact ⟨rfl,r1,(Only.of_below BB.out).trans o1 fun _ _ g=>g⟩
set_option maxHeartbeats 1000000 in
theorem cnumber_any (n e:Int) (w:World) (hg:Glob w):Calls Tryz.prog 117 #[flaw n e] w fun ev w'=>ev = .returned (.int .i64 e)∧Below w.heap.size w w':=by
 have B0:=Lib.hid ((Below.refl w.heap.size w).alloc (Nat.le_refl _) (.cells #[.int .i64 0] 25));have AS:=Lib.hid (was_any n e w.heap.size (w.alloc (.cells #[.int .i64 0] 25)) (hg.below B0.out) (heap_alloc_new w _));clear hg;unfold flaw flw at *
 go_enter Tryz.func117,Tryz.ntmps117
 go_wp2_with fail;refine AS.out.mono ?_;rintro ev w1 ⟨rfl,r1,o1⟩;have c1:w1.cell? ⟨w.heap.size,0,none⟩=some (.int .i64 e):=row_cell r1 0;have BB:=Lib.hid (B0.out.trans (o1.below (by simp) fun k hk=>by rw [hk];exact Nat.le_refl _));clear r1 o1 B0 AS;go_wp2
 go_ret
 exact ⟨rfl,BB.out⟩
end Go.Proofs.YtljnkaodhfnbbaaGreatDoor.Cu
namespace Go.Proofs.YtljnkaodhfnbbaaGreatDoor.Cu
open Go.RowKit Go.Maps
open Rw (Rd Ow At)
open Fl (R4 K4 okL okR file row_cell row_frozen)
open Fs (Abs St OkA Only Fx)
open Pa (Sts S2 sat vat KN KB K2 ptr)
open Re (KI SeqPost sequence_any sN sL isS iat seqP NextPost next_any nxP nR nT nE)
attribute [local irreducible] Sd.wpSd wpQuiet
def SqC (w:World) (A:Abs) (nn:Int) (e:Ending) (w':World):Prop:=Below w.heap.size w w'∧((sqB A=true∧∃ u,e = .returned (.tuple #[u,.nilIface])∧Rd KI w' u (sqL A))∨(sqB A=false∧e = .returned (.tuple #[.slice none 0 0,flaw nn 2])))
theorem sN_zero (A:Abs) (h:sN (fP A 40) (fR A 40)=0):sqB A=true:=by
 unfold sqB;rw [h,Bool.and_eq_true];refine ⟨?_,rfl⟩
 cases hb:fB A 40 with
 | true=>rfl
 | false =>
   exfalso
   have e:Fs.look Fs.key 40 A=none:=by
    unfold fB at hb
    cases hl:Fs.look Fs.key 40 A with
    | none=>rfl
    | some x=>rw [hl] at hb;cases hb
   have p0:fP A 40=0:=by unfold fP;rw [e]
   unfold sN at h
   split at h
   ·rename_i g
    have:=g.2.2.1
    omega
   ·omega
theorem sN_two (A:Abs) (h:¬ sN (fP A 40) (fR A 40)=0):sqB A=false∧sN (fP A 40) (fR A 40)=2:=by
 refine ⟨?_,?_⟩
 ·unfold sqB
  rw [decide_eq_false h,Bool.and_false]
 ·unfold sN at h ⊢
  split
  ·rename_i g;rw [if_pos g] at h;exact absurd rfl h
  ·rfl
section
variable {s t p:Nat} {F G:Nat→Prop} {c:Cs} {vn vq:Value} {L:List Nd} {Fs:Nat→Nat→Prop} {w w':World}
set_option maxHeartbeats 1000000 in
theorem csequence_any (h:Cl w s F c t vn L p vq Fs) {nn:Nat} (hn:nn < c.S.length):Calls Tryz.prog 111 #[ptr s,.int .i64 nn] w (SqC w (sat c.S nn).1 nn):=by
 have C1:=Lib.hid (cfile_any h hn 40);have OK:=Lib.hid (fR_ok (h.sto hn).okA 40);unfold FilC at C1;clear h hn;generalize (sat c.S nn).1=A at *;have Z:=Lib.hid (sN_zero A);have T:=Lib.hid (sN_two A);have HL:Hid (sL (fP A 40) (fR A 40)=sqL A):=Lib.hid rfl;unfold ptr at *
 go_enter Tryz.func111,Tryz.ntmps111
 go_wp2_with fail;refine C1.out.mono ?_;rintro e w1 ⟨v,rfl,rv,b1⟩;have C2:=Lib.hid (sequence_any w1 (fP A 40) v (fR A 40) rv OK.out);have B1:=Lib.hid b1;obtain ⟨a,cap,rfl,_⟩:=rv.slice;unfold SeqPost at C2;rw [HL.out] at C2;clear C1 rv b1 OK HL;generalize sN (fP A 40) (fR A 40)=z at *;generalize fP A 40=fp at *;generalize (fR A 40).length=n at *;unfold file at *;go_wp2_with fail;refine C2.out.mono ?_;rintro e w2 ⟨u,rfl,ru,b2⟩;have B2:=Lib.hid (B1.out.trans (b2.mono B1.out.size));have RU:=Lib.hid ru;obtain ⟨ua,uc,rfl,_⟩:=RU.out.slice;clear ru b2 C2 B1;generalize (sqL A).length=ln at RU ⊢
 by_cases hz:z=0
 ·have E:Hid (SqC w A nn (.returned (.tuple #[.slice ua ln uc,.nilIface])) w2):=Lib.hid ⟨B2.out,.inl ⟨Z.out hz,_,rfl,RU.out⟩⟩
  subst hz;clear Z T RU B2;go_wp2
  go_ret2
  exact E.out
 ·obtain ⟨t1,t2⟩:=T.out hz
  subst t2;have E:Hid (SqC w A nn (.returned (.tuple #[.slice none 0 0,.iface 267 (.agg #[.int .i64 nn,.iface 25 (.int .i64 2)])])) w2):=Lib.hid ⟨B2.out,.inr ⟨t1,rfl⟩⟩;clear Z T RU B2 hz t1;go_wp2
  go_ret2
  exact E.out
theorem nx_in {c:Cs} {l:List Int} (hs:seqP l) (h:c.pl < l.length):nE l c.pl=0∧nR l c.pl=iat l (at0 c l)∧nT l c.pl=(at1 c l:Int):=by
 have hx:nxP l c.pl:=⟨hs,by omega,by omega⟩;unfold nE nR nT at1 at0;rw [if_pos hx,if_pos hx,if_pos hx,if_neg (by omega),Int.toNat_natCast];refine ⟨rfl,rfl,?_⟩
 by_cases e:c.pl+1=l.length
 ·rw [if_pos (by omega),if_pos e];rfl
 ·rw [if_neg (by omega),if_neg e];omega
theorem nx_out {c:Cs} {l:List Int} (hs:seqP l) (h:¬ c.pl < l.length):nE l c.pl=1∧nR l 0=iat l (at0 c l)∧nT l 0=(at1 c l:Int):=by
 have hx:¬ nxP l c.pl:=fun g=>by have:=g.2.2;omega
 have hy:nxP l 0:=⟨hs,by omega,by have:=hs.1;omega⟩;unfold nE nR nT at1 at0;rw [if_neg hx,if_pos hy,if_pos hy,if_pos (by omega)];refine ⟨rfl,rfl,?_⟩
 by_cases e:0+1=l.length
 ·rw [if_pos (by omega),if_pos e];rfl
 ·rw [if_neg (by omega),if_neg e];rfl
def NxC (w:World) (s:Nat) (x:Int) (n:Nat) (e:Ending) (w':World):Prop:=e = .returned (.int .i64 x)∧∃ w1,Below w.heap.size w w1∧w'=w1.setCell ⟨s,2,none⟩ (.int .i64 n)
set_option maxHeartbeats 1000000 in
theorem cnext_any (h:Cl w s F c t vn L p vq Fs) {v:Value} {l:List Int} (R:Rd KI w v l) (hs:seqP l):Calls Tryz.prog 119 #[ptr s,v] w (NxC w s (iat l (at0 c l)) (at1 c l)):=by
 have C1:=Lib.hid (next_any w v l c.pl R);have C2:=Lib.hid (fun w1 b=>next_any w1 v l 0 (R.below (w':=w1) b));have H:=Lib.hid h;have d2:=h.cells.2.2.1;have IN:=Lib.hid (nx_in (c:=c) hs);have OUT:=Lib.hid (nx_out (c:=c) hs);obtain ⟨a,cap,rfl,_⟩:=R.slice;clear h hs R;unfold NextPost at C1 C2;generalize iat l (at0 c l)=x at *;generalize at1 c l=y at *
 by_cases hp:c.pl < l.length
 ·obtain ⟨e1,e2,e3⟩:=IN.out hp
  rw [e1,e2,e3] at C1;have HH:=Lib.hid (fun w1 b=>(H.out.below (w':=w1) b).cells.2.2.1);have HF:=Lib.hid (fun w1 b=>(H.out.below (w':=w1) b).frz 2);clear e1 e2 e3 IN OUT C2 hp H;generalize c.pl=pl at *;generalize l.length=n at *;unfold ptr at *
  go_enter Tryz.func119,Tryz.ntmps119
  go_wp2_with fail;refine C1.out.mono ?_;rintro e w1 ⟨rfl,b1⟩;have k2:=HH.out w1 b1;have f2:=HF.out w1 b1;have E:Hid (NxC w s x y (.returned (.int .i64 x)) (w1.setCell ⟨s,2,none⟩ (.int .i64 y))):=Lib.hid ⟨rfl,w1,b1,rfl⟩;clear C1 HH HF b1 d2;go_wp2
  go_ret
  exact E.out
 ·obtain ⟨e1,e2,e3⟩:=OUT.out hp
  rw [e1] at C1;rw [e2,e3] at C2;have HH:=Lib.hid (fun w1 b=>(H.out.below (w':=w1) b).cells.2.2.1);have HF:=Lib.hid (fun w1 b=>(H.out.below (w':=w1) b).frz 2);clear e1 e2 e3 IN OUT hp H;generalize nR l c.pl=x0 at *;generalize nT l c.pl=y0 at *;generalize nE l 0=z0 at *;generalize c.pl=pl at *;generalize l.length=n at *;unfold ptr at *
  go_enter Tryz.func119,Tryz.ntmps119
  go_wp2_with fail;refine C1.out.mono ?_;rintro e w1 ⟨rfl,b1⟩;have D2:=Lib.hid (C2.out w1 b1);have B1:=Lib.hid b1;clear C1 C2 b1 d2;go_wp2_with fail;refine D2.out.mono ?_;rintro e w2 ⟨rfl,b2⟩;have B2:=Lib.hid (B1.out.trans (b2.mono B1.out.size));have k2:=HH.out w2 B2.out;have f2:=HF.out w2 B2.out;have E:Hid (NxC w s x y (.returned (.int .i64 x)) (w2.setCell ⟨s,2,none⟩ (.int .i64 y))):=Lib.hid ⟨rfl,w2,B2.out,rfl⟩;clear D2 HH HF B1 B2 b2;go_wp2
  go_ret
  exact E.out
end
end Go.Proofs.YtljnkaodhfnbbaaGreatDoor.Cu
namespace Go.Proofs.YtljnkaodhfnbbaaGreatDoor.Cu
open Go.RowKit
open Rw (Rd Ow At)
open Fl (row_cell row_frozen)
open Pa (push_at only_grown)
open Re (KI iat at1 iat_get ints_same)
attribute [local irreducible] Sd.wpSd wpQuiet
def er (a:Option (Int×Int)):Value:=match a with | none=>.nilIface | some x=>flaw x.1 x.2
def KE:Rw.Kind (Option (Int×Int)):=⟨fun a=>[er a],1,by decide,fun _=>rfl,fun a u h=>by simp at h;subst h;cases a <;> rfl,none⟩
theorem infoE1:(Tryz.prog.info? 214).map (fun i=>(i.zero,i.size,i.bytes))=some (some .nilIface,1,16):=by kernel_rfl
theorem join_none (w:World) (b:Nat) (h0:w.cell? ⟨b,0,none⟩=some .nilIface) (h1:w.cell? ⟨b,1,none⟩=some .nilIface):Calls Tryz.prog 112 #[.slice (some ⟨b,0,none⟩) 2 2] w fun e w'=>e = .returned .nilIface∧Below w.heap.size w w':=by
 go_enter Tryz.func112,Tryz.ntmps112
 go_wp2;refine wp_loop_rounds 3 ?_;rw [rounds_succ];go_wp2;rw [rounds_succ];go_wp2;rw [rounds_succ];go_wp2
 go_ret
 exact ⟨rfl,Below.refl _ _⟩
structure JI (w:World) (g6:Nat) (v:Value) (l:List (Option (Int×Int))) (wr:World):Prop where
 row:wr.heap[g6]? = some (.cells #[v] 271 (0,0))
 own:Ow KE wr w.heap.size 214 v l
 bel:Below w.heap.size w wr
 lo:w.heap.size≤g6
theorem JI.push {w w1 w2:World} {g6:Nat} {v v':Value} {l l':List (Option (Int×Int))} (h:JI w g6 v l w1) (own:Ow KE w2 w.heap.size 214 v' l') (gr:w1.grownBy w2 v.ownBlock):w2.heap[g6]? = some (.cells #[v] 271 (0,0))∧JI w g6 v' l' (w2.setCell ⟨g6,0,none⟩ v'):=by
 have r2:w2.heap[g6]? = some (.cells #[v] 271 (0,0)):=(gr.block g6 (lt_of_block h.row) (fun e=>h.own.apart h.row (by decide) e.symm)).trans h.row;have b2:Below w.heap.size w w2:=h.bel.grown gr h.bel.size fun j e=>(World.ownsRow.lt h.own j e).1;exact ⟨r2,Rw.heap_setCell_same (j:=0) r2 v',own.far (p:=⟨g6,0,none⟩) r2 (by decide) _,b2.setCell h.lo _,h.lo⟩
theorem JI.below {w w1 w2:World} {g6:Nat} {v:Value} {l:List (Option (Int×Int))} (h:JI w g6 v l w1) (b:Below w1.heap.size w1 w2):JI w g6 v l w2:=⟨(b.block g6 (lt_of_block h.row)).trans h.row,h.own.keep b,h.bel.trans (b.mono h.bel.size),h.lo⟩
set_option maxHeartbeats 1000000 in
theorem join_l (w:World) (b:Nat) (n0 z0:Int) (h0:w.cell? ⟨b,0,none⟩=some (flaw n0 z0)) (h1:w.cell? ⟨b,1,none⟩=some .nilIface):Calls Tryz.prog 112 #[.slice (some ⟨b,0,none⟩) 2 2] w fun e w'=>(∃ p,e = .returned (.iface 269 (.pointer (some p))))∧Below w.heap.size w w':=by
 have H0:=Lib.hid h0;have H1:=Lib.hid h1;obtain ⟨i0,hi0,hz0,hz1,hz2⟩:=info_parts infoE1;unfold flaw flw at *
 go_enter Tryz.func112,Tryz.ntmps112
 go_wp2;refine wp_loop_rounds 3 ?_;rw [rounds_succ];go_wp2;rw [rounds_succ];go_wp2;rw [rounds_succ]
 go_wp2_with (at_make;refine wpList_make_own _ rfl _ _ _ rfl w.heap.size 214 i0 .nilIface 1 Tryz.underlying268 hi0 hz0 hz1 .i64 .i64 1 1 rfl rfl rfl (by rw [hz2];decide) (by unfold maxLen;decide) (Nat.le_refl _) ?_)
 intro w2 ow2 gr2
 have B2:Below w.heap.size w w2:=Below.grown (Below.refl w.heap.size w) gr2 (Nat.le_refl _) (fun j e=>by cases e);have J0:Hid (JI w w2.heap.size (.slice (some ⟨w.heap.size,0,none⟩) 0 1) [] (w2.alloc (.cells #[.slice (some ⟨w.heap.size,0,none⟩) 0 1] 271))):=Lib.hid ⟨heap_alloc_new w2 _,World.ownsRow.alloc ow2 _,B2.alloc B2.size _,B2.size⟩;clear ow2 gr2 B2 h0 h1 hi0 hz0 hz1 hz2;go_upto_region 11 with fail;generalize (w2.alloc (.cells #[.slice (some ⟨w.heap.size,0,none⟩) 0 1] 271))=wa at *;generalize w2.heap.size=g6 at *;have k0:=(J0.out.bel.cell (World.block_lt_of_cell? _ _ H0.out)).trans H0.out;go_wp2;refine wp_loop_rounds 3 ?_;rw [rounds_succ];have c6:=row_cell J0.out.row 0;have J0a:=Lib.hid (J0.out.below ((Below.refl wa.heap.size wa).alloc (Nat.le_refl _) (.cells #[.iface 267 (.agg #[.int .i64 n0,.iface 25 (.int .i64 z0)])] 214)))
 go_wp2_with (at_builtin;refine push_at (K:=KE) Tryz.underlying268 infoE1 rfl (by omega) rfl _ _ rfl w.heap.size _ _ rfl J0a.out.own _ (some (n0,z0)) rfl ?d1 ?d2 ?d3 ?_)
 case d1 =>
  intro j u hu
  match j,hu with
  | 0,hu=>simp [KE,er,flaw,flw] at hu;subst hu;go_simp
  | j+1,hu=>simp [KE] at hu
 case d2=>simp
 case d3=>exact J0a.out.bel.size
 intro v0 wb0 o0 gr0 _
 obtain ⟨r0,j0⟩:=J0a.out.push o0 (by simpa using gr0);have J0b:=Lib.hid j0;have c6':=row_cell r0 0;have f6':=row_frozen r0 0;obtain ⟨av0,cv0,ev0,_⟩:=o0.slice;clear o0 gr0 j0 J0 J0a c6 k0;generalize List.length _=lv0 at ev0;subst ev0;have k0:=(J0b.out.bel.cell (World.block_lt_of_cell? _ _ H1.out)).trans H1.out;go_upto_region 12 with fail;clear c6' f6' r0;generalize (wb0.setCell ⟨g6,0,none⟩ (.slice av0 lv0 cv0))=wc0 at *;rw [rounds_succ];have E:=Lib.hid J0b.out.bel;go_wp2;rw [rounds_succ];go_wp2
 go_ret
 exact ⟨⟨_,rfl⟩,E.out⟩
set_option maxHeartbeats 1000000 in
theorem join_r (w:World) (b:Nat) (n1 z1:Int) (h0:w.cell? ⟨b,0,none⟩=some .nilIface) (h1:w.cell? ⟨b,1,none⟩=some (flaw n1 z1)):Calls Tryz.prog 112 #[.slice (some ⟨b,0,none⟩) 2 2] w fun e w'=>(∃ p,e = .returned (.iface 269 (.pointer (some p))))∧Below w.heap.size w w':=by
 have H0:=Lib.hid h0;have H1:=Lib.hid h1;obtain ⟨i0,hi0,hz0,hz1,hz2⟩:=info_parts infoE1;unfold flaw flw at *
 go_enter Tryz.func112,Tryz.ntmps112
 go_wp2;refine wp_loop_rounds 3 ?_;rw [rounds_succ];go_wp2;rw [rounds_succ];go_wp2;rw [rounds_succ]
 go_wp2_with (at_make;refine wpList_make_own _ rfl _ _ _ rfl w.heap.size 214 i0 .nilIface 1 Tryz.underlying268 hi0 hz0 hz1 .i64 .i64 1 1 rfl rfl rfl (by rw [hz2];decide) (by unfold maxLen;decide) (Nat.le_refl _) ?_)
 intro w2 ow2 gr2
 have B2:Below w.heap.size w w2:=Below.grown (Below.refl w.heap.size w) gr2 (Nat.le_refl _) (fun j e=>by cases e);have J0:Hid (JI w w2.heap.size (.slice (some ⟨w.heap.size,0,none⟩) 0 1) [] (w2.alloc (.cells #[.slice (some ⟨w.heap.size,0,none⟩) 0 1] 271))):=Lib.hid ⟨heap_alloc_new w2 _,World.ownsRow.alloc ow2 _,B2.alloc B2.size _,B2.size⟩;clear ow2 gr2 B2 h0 h1 hi0 hz0 hz1 hz2;go_upto_region 11 with fail;generalize (w2.alloc (.cells #[.slice (some ⟨w.heap.size,0,none⟩) 0 1] 271))=wa at *;generalize w2.heap.size=g6 at *;have k0:=(J0.out.bel.cell (World.block_lt_of_cell? _ _ H0.out)).trans H0.out;go_wp2;refine wp_loop_rounds 3 ?_;rw [rounds_succ];go_wp2;clear k0;have k0:=(J0.out.bel.cell (World.block_lt_of_cell? _ _ H1.out)).trans H1.out;rw [rounds_succ];have c6:=row_cell J0.out.row 0;have J1a:=Lib.hid (J0.out.below ((Below.refl wa.heap.size wa).alloc (Nat.le_refl _) (.cells #[.iface 267 (.agg #[.int .i64 n1,.iface 25 (.int .i64 z1)])] 214)))
 go_wp2_with (at_builtin;refine push_at (K:=KE) Tryz.underlying268 infoE1 rfl (by omega) rfl _ _ rfl w.heap.size _ _ rfl J1a.out.own _ (some (n1,z1)) rfl ?d1 ?d2 ?d3 ?_)
 case d1 =>
  intro j u hu
  match j,hu with
  | 0,hu=>simp [KE,er,flaw,flw] at hu;subst hu;go_simp
  | j+1,hu=>simp [KE] at hu
 case d2=>simp
 case d3=>exact J1a.out.bel.size
 intro v1 wb1 o1 gr1 _
 obtain ⟨r1,j1⟩:=J1a.out.push o1 (by simpa using gr1);have J1b:=Lib.hid j1;have c6':=row_cell r1 0;have f6':=row_frozen r1 0;obtain ⟨av1,cv1,ev1,_⟩:=o1.slice;clear o1 gr1 j1 J0 J1a c6 k0;generalize List.length _=lv1 at ev1;subst ev1;have E:=Lib.hid J1b.out.bel;clear r1 J1b;go_wp2;rw [rounds_succ];go_wp2
 go_ret
 exact ⟨⟨_,rfl⟩,E.out⟩
set_option maxHeartbeats 1000000 in
theorem join_b (w:World) (b:Nat) (n0 z0:Int) (n1 z1:Int) (h0:w.cell? ⟨b,0,none⟩=some (flaw n0 z0)) (h1:w.cell? ⟨b,1,none⟩=some (flaw n1 z1)):Calls Tryz.prog 112 #[.slice (some ⟨b,0,none⟩) 2 2] w fun e w'=>(∃ p,e = .returned (.iface 269 (.pointer (some p))))∧Below w.heap.size w w':=by
 have H0:=Lib.hid h0;have H1:=Lib.hid h1;obtain ⟨i0,hi0,hz0,hz1,hz2⟩:=info_parts infoE1;unfold flaw flw at *
 go_enter Tryz.func112,Tryz.ntmps112
 go_wp2;refine wp_loop_rounds 3 ?_;rw [rounds_succ];go_wp2;rw [rounds_succ];go_wp2;rw [rounds_succ]
 go_wp2_with (at_make;refine wpList_make_own _ rfl _ _ _ rfl w.heap.size 214 i0 .nilIface 1 Tryz.underlying268 hi0 hz0 hz1 .i64 .i64 2 2 rfl rfl rfl (by rw [hz2];decide) (by unfold maxLen;decide) (Nat.le_refl _) ?_)
 intro w2 ow2 gr2
 have B2:Below w.heap.size w w2:=Below.grown (Below.refl w.heap.size w) gr2 (Nat.le_refl _) (fun j e=>by cases e);have J0:Hid (JI w w2.heap.size (.slice (some ⟨w.heap.size,0,none⟩) 0 2) [] (w2.alloc (.cells #[.slice (some ⟨w.heap.size,0,none⟩) 0 2] 271))):=Lib.hid ⟨heap_alloc_new w2 _,World.ownsRow.alloc ow2 _,B2.alloc B2.size _,B2.size⟩;clear ow2 gr2 B2 h0 h1 hi0 hz0 hz1 hz2;go_upto_region 11 with fail;generalize (w2.alloc (.cells #[.slice (some ⟨w.heap.size,0,none⟩) 0 2] 271))=wa at *;generalize w2.heap.size=g6 at *;have k0:=(J0.out.bel.cell (World.block_lt_of_cell? _ _ H0.out)).trans H0.out;go_wp2;refine wp_loop_rounds 3 ?_;rw [rounds_succ];have c6:=row_cell J0.out.row 0;have J0a:=Lib.hid (J0.out.below ((Below.refl wa.heap.size wa).alloc (Nat.le_refl _) (.cells #[.iface 267 (.agg #[.int .i64 n0,.iface 25 (.int .i64 z0)])] 214)))
 go_wp2_with (at_builtin;refine push_at (K:=KE) Tryz.underlying268 infoE1 rfl (by omega) rfl _ _ rfl w.heap.size _ _ rfl J0a.out.own _ (some (n0,z0)) rfl ?d1 ?d2 ?d3 ?_)
 case d1 =>
  intro j u hu
  match j,hu with
  | 0,hu=>simp [KE,er,flaw,flw] at hu;subst hu;go_simp
  | j+1,hu=>simp [KE] at hu
 case d2=>simp
 case d3=>exact J0a.out.bel.size
 intro v0 wb0 o0 gr0 _
 obtain ⟨r0,j0⟩:=J0a.out.push o0 (by simpa using gr0);have J0b:=Lib.hid j0;have c6':=row_cell r0 0;have f6':=row_frozen r0 0;obtain ⟨av0,cv0,ev0,_⟩:=o0.slice;clear o0 gr0 j0 J0 J0a c6 k0;generalize List.length _=lv0 at ev0;subst ev0;have k0:=(J0b.out.bel.cell (World.block_lt_of_cell? _ _ H1.out)).trans H1.out;go_upto_region 12 with fail;clear c6' f6' r0;generalize (wb0.setCell ⟨g6,0,none⟩ (.slice av0 lv0 cv0))=wc0 at *;rw [rounds_succ];have c6:=row_cell J0b.out.row 0;have J1a:=Lib.hid (J0b.out.below ((Below.refl wc0.heap.size wc0).alloc (Nat.le_refl _) (.cells #[.iface 267 (.agg #[.int .i64 n1,.iface 25 (.int .i64 z1)])] 214)))
 go_wp2_with (at_builtin;refine push_at (K:=KE) Tryz.underlying268 infoE1 rfl (by omega) rfl _ _ rfl w.heap.size _ _ rfl J1a.out.own _ (some (n1,z1)) rfl ?d1 ?d2 ?d3 ?_)
 case d1 =>
  intro j u hu
  match j,hu with
  | 0,hu=>simp [KE,er,flaw,flw] at hu;subst hu;go_simp
  | j+1,hu=>simp [KE] at hu
 case d2=>simp
 case d3=>exact J1a.out.bel.size
 intro v1 wb1 o1 gr1 _
 obtain ⟨r1,j1⟩:=J1a.out.push o1 (by simpa using gr1);have J1b:=Lib.hid j1;have c6':=row_cell r1 0;have f6':=row_frozen r1 0;obtain ⟨av1,cv1,ev1,_⟩:=o1.slice;clear o1 gr1 j1 J0b J1a c6 k0;generalize List.length _=lv1 at ev1;subst ev1;have E:=Lib.hid J1b.out.bel;clear r1 J1b;go_wp2;rw [rounds_succ];go_wp2
 go_ret
 exact ⟨⟨_,rfl⟩,E.out⟩
end Go.Proofs.YtljnkaodhfnbbaaGreatDoor.Cu
namespace Go.Proofs.YtljnkaodhfnbbaaGreatDoor.Cu
open Go.RowKit
open Rw (Rd Ow At)
open Fl (row_cell row_frozen ret_bool)
open Fs (Abs St OkA Only Fx)
open Pa (Sts S2 sat vat KN KB K2 ptr)
open Re (KI iat iat_get ints_same isS sN sL takL fileL)
attribute [local irreducible] Sd.wpSd wpQuiet
set_option maxHeartbeats 1000000 in
theorem equalI_any (w:World) (v v':Value) (l l':List Int) (R:Rd KI w v l) (R':Rd KI w v' l'):Calls Tryz.prog 113 #[v,v'] w fun e w'=>e = .returned (.bool (decide (l=l')))∧Below w.heap.size w w':=by
 have HNO:Hid (¬ l=l'→false=decide (l=l')):=Lib.hid (fun h=>(decide_eq_false h).symm);have HYES:Hid (l=l'→true=decide (l=l')):=Lib.hid (fun b=>(decide_eq_true b).symm);have HL:Hid (l.length=l'.length→(∀ i,i < l.length→iat l i=iat l' i)→l=l'):=Lib.hid (fun a b=>ints_same a b);obtain ⟨a,cap,rfl,_,hm,hA⟩:=R;obtain ⟨a',cap',rfl,_,hm',hA'⟩:=R';have HA:=Lib.hid hA;have HA':=Lib.hid hA';unfold maxLen at hm hm';clear hA hA';have HNE:Hid (l.length≠l'.length→¬ (l=l')):=Lib.hid (fun h2 h=>h2 (by rw [h]));generalize hq:decide (l=l')=q at *;clear hq;generalize hn:l.length=n at *;generalize hn':l'.length=n' at *;have HN:=Lib.hid hn;have HN':=Lib.hid hn';clear hn hn'
 by_cases h2:n=n'
 ·subst h2
  go_enter Tryz.func113,Tryz.ntmps113
  go_wp2
  go_loopw [13] (fun i wr=>∃ k:Nat,k≤n∧i = .int .i64 k∧Hid (Below w.heap.size w wr)∧Hid (∀ i,i < k→iat l i=iat l' i)) (fun i _=>n - (intOf i).toNat)
  case atStart=>exact ⟨0,Nat.zero_le _,rfl,Lib.hid (Below.refl _ _),Lib.hid (fun i hi=>by omega)⟩
  case round =>
   obtain ⟨j,hj,rfl,bw,hs⟩:=hrel
   by_cases hlt:j < n
   ·obtain ⟨b,off,rfl,A⟩:=HA.out (by omega)
    obtain ⟨b',off',rfl,A'⟩:=HA'.out (by omega);have c0:=Re.at1 (A.below bw.out) j (by have:=HN.out;omega);have d0:=Re.at1 (A'.below bw.out) j (by have:=HN'.out;omega);have HAA:=Lib.hid A;have HAA':=Lib.hid A';clear A A'
    by_cases he:iat l j=iat l' j
    ·have ST:Hid (∀ i,i < j+1→iat l i=iat l' i):=Lib.hid (fun i hi=>by
      by_cases e:i=j
      ·rw [e];exact he
      ·exact hs.out i (by omega))
     have es:(iat l j != iat l' j)=false:=by simp [he]
     clear he;generalize iat l j=r at *;generalize iat l' j=r' at *;go_wp2
     go_quiet (fail)
     go_wp2
     go_roundw
     case rel=>exact ⟨j+1,by omega,by go_num,Lib.hid (below_drewN bw.out _),ST⟩
     case measure=>simp [intOf];omega
    ·have E:=Lib.hid (HNO.out (fun h=>he (by rw [h])))
     have es:(iat l j != iat l' j)=true:=by simp [he]
     clear he;generalize iat l j=r at *;generalize iat l' j=r' at *;go_wp2
     go_quiet (fail)
     go_wp2
     go_ret
     exact ⟨ret_bool E.out,below_drewN bw.out _⟩
   ·have E:=Lib.hid (HYES.out (HL.out (by trivial) (fun i hi=>hs.out i (by have:=HN.out;omega))))
    go_wp2
    go_ret
    exact ⟨ret_bool E.out,bw.out⟩
 ·have E:=Lib.hid (HNO.out (HNE.out h2))
  have q1:((n:Int) != (n':Int))=true:=by simp;omega
  clear HNO HYES HL HNE HA HA'
  go_enter Tryz.func113,Tryz.ntmps113
  go_wp2
  go_ret
  exact ⟨ret_bool E.out,Below.refl _ _⟩
def agB (A B:Abs):Bool:=sqB A && sqB B && decide (sqL A=sqL B)
section
variable {s t p:Nat} {F G:Nat→Prop} {c:Cs} {vn vq:Value} {L:List Nd} {Fs:Nat→Nat→Prop} {w w':World}
set_option maxHeartbeats 2000000 in
theorem cagreed_any (h:Cl w s F c t vn L p vq Fs) (hn:2≤c.S.length):Calls Tryz.prog 52 #[ptr s] w fun e w'=>e = .returned (.bool (agB (sat c.S 0).1 (sat c.S 1).1))∧Below w.heap.size w w':=by
 have C1:=Lib.hid (csequence_any h (nn:=0) (by omega));have C2:=Lib.hid (fun w1 b=>csequence_any (h.below (w':=w1) b) (nn:=1) (by omega));have AG:Hid (agB (sat c.S 0).1 (sat c.S 1).1=(sqB (sat c.S (0:Nat)).1 && sqB (sat c.S (1:Nat)).1 && decide (sqL (sat c.S (0:Nat)).1=sqL (sat c.S (1:Nat)).1))):=Lib.hid rfl;clear h;generalize agB (sat c.S 0).1 (sat c.S 1).1=ag at *;generalize (sat c.S (0:Nat)).1=A at *;generalize (sat c.S (1:Nat)).1=B at *;unfold SqC ptr at *
 go_enter Tryz.func52,Tryz.ntmps52
 go_wp2_with fail;refine C1.out.mono ?_;rintro e w1 ⟨b1,hc1⟩;have D2:=Lib.hid (C2.out w1 b1);have B1:=Lib.hid b1;clear C1 C2 b1
 rcases hc1 with ⟨hs1,u1,rfl,r1⟩ | ⟨hs1,rfl⟩
 ·have R1:=Lib.hid r1
  obtain ⟨a1,c1,rfl,_⟩:=r1.slice;clear r1;generalize hl1:(sqL A).length=n1 at *;clear hl1;go_wp2_with fail;refine D2.out.mono ?_;rintro e w2 ⟨b2,hc2⟩;have B2:=Lib.hid (B1.out.trans (b2.mono B1.out.size));have R1':=Lib.hid (R1.out.below b2);clear D2 B1 R1 b2
  rcases hc2 with ⟨hs2,u2,rfl,r2⟩ | ⟨hs2,rfl⟩
  ·have R2:=Lib.hid r2
   obtain ⟨a2,c2,rfl,_⟩:=r2.slice;clear r2;generalize hl2:(sqL B).length=n2 at *;clear hl2;rw [hs1,hs2] at AG;have BA:=Lib.hid ((Below.refl w2.heap.size w2).alloc (Nat.le_refl _) (.cells #[.nilIface,.nilIface] 214));have X0:=Lib.hid (heap_alloc_new w2 (.cells #[.nilIface,.nilIface] 214));have J:=Lib.hid (join_none (w2.alloc (.cells #[.nilIface,.nilIface] 214)) w2.heap.size (row_cell X0.out 0) (row_cell X0.out 1));have B3:=Lib.hid (B2.out.trans (BA.out.mono B2.out.size));have R1a:=Lib.hid (R1'.out.below BA.out);have R2a:=Lib.hid (R2.out.below BA.out);clear hs1 hs2 R1' R2 B2 X0;go_wp2_with fail;refine J.out.mono ?_;rintro e w3 ⟨rfl,b3⟩;have EQ:=Lib.hid (equalI_any w3 _ _ _ _ (R1a.out.below b3) (R2a.out.below b3));have B4:=Lib.hid (B3.out.trans (b3.mono B3.out.size));clear J b3 R1a R2a B3 BA;go_wp2_with fail;refine EQ.out.mono ?_;rintro e w4 ⟨rfl,b4⟩;have E:Hid (decide (sqL A=sqL B)=ag∧Below w.heap.size w w4):=Lib.hid ⟨by rw [AG.out];rfl,B4.out.trans (b4.mono B4.out.size)⟩;clear EQ b4 B4 AG;generalize decide (sqL A=sqL B)=dd at *;go_wp2
   go_ret
   exact ⟨ret_bool E.out.1,E.out.2⟩
  ·rw [hs1,hs2] at AG
   unfold flaw flw at *;have BA:=Lib.hid ((Below.refl w2.heap.size w2).alloc (Nat.le_refl _) (.cells #[.nilIface,.iface 267 (.agg #[.int .i64 1,.iface 25 (.int .i64 2)])] 214));have X0:=Lib.hid (heap_alloc_new w2 (.cells #[.nilIface,.iface 267 (.agg #[.int .i64 1,.iface 25 (.int .i64 2)])] 214));have J:=Lib.hid (join_r (w2.alloc (.cells #[.nilIface,.iface 267 (.agg #[.int .i64 1,.iface 25 (.int .i64 2)])] 214)) w2.heap.size 1 2 (row_cell X0.out 0) (row_cell X0.out 1));have B3:=Lib.hid (B2.out.trans (BA.out.mono B2.out.size));have E:=Lib.hid (show ag=false by rw [AG.out];rfl);clear hs1 hs2 R1' B2 X0 AG;go_wp2_with fail;refine J.out.mono ?_;rintro e w3 ⟨⟨pp,rfl⟩,b3⟩;have B4:=Lib.hid (B3.out.trans (b3.mono B3.out.size));clear J b3 B3 BA;go_wp2
   go_ret
   exact ⟨ret_bool E.out.symm,B4.out⟩
 ·go_wp2_with fail
  refine D2.out.mono ?_;rintro e w2 ⟨b2,hc2⟩;have B2:=Lib.hid (B1.out.trans (b2.mono B1.out.size));clear D2 B1 b2
  rcases hc2 with ⟨hs2,u2,rfl,r2⟩ | ⟨hs2,rfl⟩
  ·obtain ⟨a2,c2,rfl,_⟩:=r2.slice
   clear r2;generalize hl2:(sqL B).length=n2 at *;clear hl2;rw [hs1,hs2] at AG;unfold flaw flw at *;have BA:=Lib.hid ((Below.refl w2.heap.size w2).alloc (Nat.le_refl _) (.cells #[.iface 267 (.agg #[.int .i64 0,.iface 25 (.int .i64 2)]),.nilIface] 214));have X0:=Lib.hid (heap_alloc_new w2 (.cells #[.iface 267 (.agg #[.int .i64 0,.iface 25 (.int .i64 2)]),.nilIface] 214));have J:=Lib.hid (join_l (w2.alloc (.cells #[.iface 267 (.agg #[.int .i64 0,.iface 25 (.int .i64 2)]),.nilIface] 214)) w2.heap.size 0 2 (row_cell X0.out 0) (row_cell X0.out 1));have B3:=Lib.hid (B2.out.trans (BA.out.mono B2.out.size));have E:=Lib.hid (show ag=false by rw [AG.out];rfl);clear hs1 hs2 B2 X0 AG;go_wp2_with fail;refine J.out.mono ?_;rintro e w3 ⟨⟨pp,rfl⟩,b3⟩;have B4:=Lib.hid (B3.out.trans (b3.mono B3.out.size));clear J b3 B3 BA;go_wp2
   go_ret
   exact ⟨ret_bool E.out.symm,B4.out⟩
  ·rw [hs1,hs2] at AG
   unfold flaw flw at *;have BA:=Lib.hid ((Below.refl w2.heap.size w2).alloc (Nat.le_refl _) (.cells #[.iface 267 (.agg #[.int .i64 0,.iface 25 (.int .i64 2)]),.iface 267 (.agg #[.int .i64 1,.iface 25 (.int .i64 2)])] 214));have X0:=Lib.hid (heap_alloc_new w2 (.cells #[.iface 267 (.agg #[.int .i64 0,.iface 25 (.int .i64 2)]),.iface 267 (.agg #[.int .i64 1,.iface 25 (.int .i64 2)])] 214));have J:=Lib.hid (join_b (w2.alloc (.cells #[.iface 267 (.agg #[.int .i64 0,.iface 25 (.int .i64 2)]),.iface 267 (.agg #[.int .i64 1,.iface 25 (.int .i64 2)])] 214)) w2.heap.size 0 2 1 2 (row_cell X0.out 0) (row_cell X0.out 1));have B3:=Lib.hid (B2.out.trans (BA.out.mono B2.out.size));have E:=Lib.hid (show ag=false by rw [AG.out];rfl);clear hs1 hs2 B2 X0 AG;go_wp2_with fail;refine J.out.mono ?_;rintro e w3 ⟨⟨pp,rfl⟩,b3⟩;have B4:=Lib.hid (B3.out.trans (b3.mono B3.out.size));clear J b3 B3 BA;go_wp2
   go_ret
   exact ⟨ret_bool E.out.symm,B4.out⟩
end
theorem ag_agree (L:List Pl) (h:2≤L.length):agB (sat (newC L).S 0).1 (sat (newC L).S 1).1=true↔agree L:=by
 have s0:(sat (newC L).S 0).1=(plat L 0).1:=by rw [show sat (newC L).S 0=_ from new_sat (L:=L) (i:=0) (by omega)]
 have s1:(sat (newC L).S 1).1=(plat L 1).1:=by rw [show sat (newC L).S 1=_ from new_sat (L:=L) (i:=1) (by omega)]
 rw [s0,s1];unfold agB agree;generalize (plat L 0).1=A;generalize (plat L 1).1=B;have F:∀ A:Abs,sqB A=true→isS (fP A 40) (fR A 40)∧sqL A=takL (fR A 40)∧fB A 40=true:=fun A h=>by
  unfold sqB at h;rw [Bool.and_eq_true,decide_eq_true_eq] at h;obtain ⟨h1,h2⟩:=h;have i:isS (fP A 40) (fR A 40):=by
   unfold sN at h2
   split at h2
   ·assumption
   ·omega
  exact ⟨i,(Re.s_yes i).1,h1⟩
 rw [Bool.and_eq_true,Bool.and_eq_true,decide_eq_true_eq]
 constructor
 ·rintro ⟨⟨hA,hB⟩,he⟩
  obtain ⟨iA,tA,_⟩:=F A hA;obtain ⟨iB,tB,bB⟩:=F B hB;refine ⟨hA,bB,by rw [iA.2.2.1,iB.2.2.1],?_⟩;rw [iA.2.2.2,iB.2.2.2,← tA,← tB,he]
 ·rintro ⟨hA,hB,hp,hr⟩
  obtain ⟨iA,tA,_⟩:=F A hA;have hB':sqB B=true:=by
   unfold sqB;rw [hB,← hp,← hr,(Re.s_yes iA).2]
   rfl
  refine ⟨⟨hA,hB'⟩,?_⟩;obtain ⟨_,tB,_⟩:=F B hB';rw [tA,tB,hr]
end Go.Proofs.YtljnkaodhfnbbaaGreatDoor.Cu
namespace Go.Proofs.YtljnkaodhfnbbaaGreatDoor.Bu
open Sp Go.Proofs.YtljnkaodhfnbbaaGreatDoor.Wi Go.Proofs.YtljnkaodhfnbbaaGreatDoor.Se Go.Proofs.YtljnkaodhfnbbaaGreatDoor.Sa
open Tk (GoodP Glo IsG Glo_is Glo_eq PP)
structure Osc where
 n:Nat
 A:Nat→Int
 R:Nat→Int
noncomputable def Osc.g (o:Osc) (m:Int):Int:=Glo o.A o.R o.n m
def Osc.calm (o:Osc):Prop:=Sa.Calm o.n o.A o.R 2000
theorem ahead {o p:Osc} (ho:o.calm) (hp:p.calm) {a b:Int} (a0:0≤a) (a1:a≤4000) (hab:a+18≤b) (b1:b≤5000):o.g a < p.g b:=by
 unfold Osc.calm at ho hp;unfold Osc.g;have t:=(Glo_parts ho a0 (by omega)).2;have t0:=(Glo_is o.A o.R o.n a).lo;generalize Glo o.A o.R o.n a=T at *;have s:=(PP_span ho t0).1;have s':=(PP_span hp t0).2;rw [Tk.PP_zero ho.good] at s;rw [Tk.PP_zero hp.good] at s';exact lt_Glo hp (by omega) (by omega)
theorem Osc.mono (o:Osc) {a b:Int} (h:a≤b):o.g a≤o.g b:=Glo_mono h
abbrev Frs:=Nat→Option (Osc×(Nat→Bool))
structure Fit (f:Frs):Prop where
 calm:∀ k o F,f k=some (o,F)→o.calm
 low:∀ k o F,f k=some (o,F)→F 0=false
def LowK (f:Frs) (k:Nat) (u:Int):Prop:=∃ o F,f k=some (o,F)∧∃ i:Nat,i < 11∧F i=false∧o.g (224 * k+16 * i)≤u∧u < o.g (224 * k+16 * i+16)
def LowL (f:Frs) (u:Int):Prop:=∃ k:Nat,1≤k∧k≤16∧LowK f k u
section
variable {f:Frs}
theorem lowK_in {k:Nat} {u:Int} {o:Osc} {F:Nat→Bool} (e:f k=some (o,F)) (h:LowK f k u):o.g (224 * k)≤u∧u < o.g (224 * k+176):=by
 obtain ⟨o',F',e',i,hi,_,h1,h2⟩:=h;rw [e] at e';injection e' with e';injection e' with e1 _;subst e1;have:=o.mono (show 224 * (k:Int)≤224 * k+16 * i by omega);have:=o.mono (show 224 * (k:Int)+16 * i+16≤224 * k+176 by omega)
 omega
theorem lowK_ex {k:Nat} {u:Int} (h:LowK f k u):∃ o F,f k=some (o,F):=by
 obtain ⟨o,F,e,_⟩:=h;exact ⟨o,F,e⟩
theorem other (hf:Fit f) {r:Osc} (hr:r.calm) {k k':Nat} (h1:1≤k) (h2:k≤16) (h3:1≤k') (h4:k'≤16) (hne:k'≠k) {u:Int} (u0:r.g (224 * k - 20)≤u+1) (u1:u < r.g (224 * k+20)):¬ LowK f k' u:=fun h=>by
 obtain ⟨o,F,e⟩:=lowK_ex h;have a:=lowK_in e h;have c:=hf.calm k' o F e
 rcases Nat.lt_or_gt_of_ne hne with q | q
 ·have:=ahead c hr (a:=224 * k'+176) (b:=224 * k - 20) (by omega) (by omega) (by omega) (by omega)
  omega
 ·have:=ahead hr c (a:=224 * k+20) (b:=224 * k') (by omega) (by omega) (by omega) (by omega)
  omega
theorem other' (hf:Fit f) {k k':Nat} (h2:k≤16) (h4:k'≤16) (hne:k'≠k) {o:Osc} {F:Nat→Bool} (e:f k=some (o,F)) {u:Int} (u0:o.g (224 * k)≤u) (u1:u < o.g (224 * k+176)):¬ LowK f k' u:=fun h=>by
 obtain ⟨o',F',e'⟩:=lowK_ex h;have b:=lowK_in e' h;have c:=hf.calm k o F e;have d:=hf.calm k' o' F' e'
 rcases Nat.lt_or_gt_of_ne hne with q | q
 ·have:=ahead d c (a:=224 * k'+176) (b:=224 * k) (by omega) (by omega) (by omega) (by omega)
  omega
 ·have:=ahead c d (a:=224 * k+176) (b:=224 * k') (by omega) (by omega) (by omega) (by omega)
  omega
theorem bit_low (hf:Fit f) {k:Nat} (h1:1≤k) (h2:k≤16) {o:Osc} {F:Nat→Bool} (e:f k=some (o,F)) {i:Nat} (hi:i < 11) {u:Int} (u0:o.g (224 * k+16 * i)≤u) (u1:u < o.g (224 * k+16 * i+16)):LowL f u↔F i=false:=by
 constructor
 ·rintro ⟨k',h3,h4,h⟩
  have m0:=o.mono (show 224 * (k:Int)≤224 * k+16 * i by omega);have m1:=o.mono (show 224 * (k:Int)+16 * i+16≤224 * k+176 by omega)
  by_cases q:k'=k
  ·subst q
   obtain ⟨o',F',e',i',hi',hF,a,b⟩:=h;rw [e] at e';injection e' with e';injection e' with e1 e2;subst e1 e2
   rcases Nat.lt_trichotomy i' i with c | c | c
   ·have:=o.mono (show 224 * (k':Int)+16 * i'+16≤224 * k'+16 * i by omega)
    omega
   ·subst c;exact hF
   ·have:=o.mono (show 224 * (k':Int)+16 * i+16≤224 * k'+16 * i' by omega)
    omega
  ·exact absurd h (other' hf h2 h4 q e (by omega) (by omega))
 ·exact fun hF=>⟨k,h1,h2,o,F,e,i,hi,hF,u0,u1⟩
theorem first_low (hf:Fit f) {k:Nat} (h1:1≤k) (h2:k≤16) {o:Osc} {F:Nat→Bool} (e:f k=some (o,F)):LowL f (o.g (224 * k)):=by
 have c:Sa.Calm o.n o.A o.R 2000:=hf.calm k o F e;have q:=Glo_lt c.good (a:=224 * (k:Int)) (b:=224 * k+16) (by omega) (by omega) (by omega);refine (bit_low hf h1 h2 e (i:=0) (by omega) (u:=o.g (224 * k)) ?_ ?_).2 (hf.low k o F e)
 ·simp
 ·show o.g (224 * (k:Int)) < o.g (224 * (k:Int)+16 * ((0:Nat):Int)+16)
  rw [show 224 * (k:Int)+16 * ((0:Nat):Int)+16=224 * k+16 by omega];exact q
end
section
variable {f:Frs} {x l:List S2}
theorem plain_begin (hx:Plain x) {s:S2} (hs:s∈x):Low x s.1∧¬ Low x (s.1 - 1):=by
 refine ⟨⟨s,hs,Int.le_refl _,hx.1 s hs⟩,?_⟩;rintro ⟨q,hq,a,b⟩;obtain ⟨i,hi,e1⟩:=List.getElem_of_mem hs;obtain ⟨j,hj,e2⟩:=List.getElem_of_mem hq;have pw:=List.pairwise_iff_getElem.1 hx.2
 rcases Nat.lt_trichotomy i j with c | c | c
 ·have:=pw i j hi hj c
  rw [e1,e2] at this;have:=hx.1 s hs
  omega
 ·subst c
  rw [e1] at e2;subst e2
  omega
 ·have:=pw j i hj hi c
  rw [e1,e2] at this
  omega
theorem begin_plain {t:Int} (h:Low x t) (h':¬ Low x (t - 1)):∃ s∈x,s.1=t:=by
 obtain ⟨s,hs,a,b⟩:=h;refine ⟨s,hs,?_⟩
 rcases Wi.ltge s.1 t with c | c
 ·exact absurd ⟨s,hs,by omega,by omega⟩ h'
 ·omega
theorem not_before (hf:Fit f) {r:Osc} (hr:r.calm) {k:Nat} (h1:1≤k) (h2:k≤16) {o:Osc} {F:Nat→Bool} (e:f k=some (o,F)) {u:Int} (u0:r.g (224 * k - 20)≤u+1) (u1:u < o.g (224 * k)):¬ LowL f u:=by
 rintro ⟨k',h3,h4,h⟩;have c:=hf.calm k o F e
 by_cases q:k'=k
 ·subst q
  have:=(lowK_in e h).1
  omega
 ·have:=ahead c hr (a:=224 * k) (b:=224 * k+20) (by omega) (by omega) (by omega) (by omega)
  exact other hf hr h1 h2 h3 h4 q u0 (by omega) h
theorem fall_some (hf:Fit f) (hx:Plain x) (hl:∀ u,Low x u↔LowL f u) {r:Osc} (hr:r.calm) {k:Nat} (h1:1≤k) (h2:k≤16) {o:Osc} {F:Nat→Bool} (e:f k=some (o,F)):FallV x (r.g (224 * k - 20)) (r.g (224 * k+20))=(o.g (224 * k),true):=by
 have c:=hf.calm k o F e;have a0:=ahead hr c (a:=224 * k - 20) (b:=224 * k) (by omega) (by omega) (by omega) (by omega);have a1:=ahead c hr (a:=224 * k) (b:=224 * k+20) (by omega) (by omega) (by omega) (by omega);have b0:Low x (o.g (224 * k)):=(hl _).2 (first_low hf h1 h2 e);have b1:¬ Low x (o.g (224 * k) - 1):=fun h=>not_before hf hr h1 h2 e (by omega) (by omega) ((hl _).1 h);obtain ⟨s,hs,es⟩:=begin_plain b0 b1;obtain ⟨i,hi,e1,e2⟩:=mem_iff.1 hs;have hp:fallP (r.g (224 * k - 20)) (r.g (224 * k+20)) (fr x i,tp x i)=true:=by
  unfold fallP;rw [e1,es];simp only [Bool.and_eq_true,decide_eq_true_eq]
  omega
 have hn:∀ j,j < i→fallP (r.g (224 * k - 20)) (r.g (224 * k+20)) (fr x j,tp x j)=false:=fun j hj=>by
  rcases hq:fallP (r.g (224 * k - 20)) (r.g (224 * k+20)) (fr x j,tp x j) with _ | _
  ·rfl
  ·exfalso
   unfold fallP at hq;simp only [Bool.and_eq_true,decide_eq_true_eq] at hq;have hm:=mem_fr (l:=x) (i:=j) (by omega);have g:=(plain_begin hx hm).1;have lt:fr x j < o.g (224 * k):=by
    have pw:=List.pairwise_iff_getElem.1 hx.2;have hmi:=mem_fr hi;have q1:=hx.1 _ hm;have:=hx.1 _ hmi;have gj:x[j]? = some (fr x j,tp x j):=by
     have:=List.getElem?_eq_getElem (show j < x.length by omega);rw [this]
     simp [fr,tp,List.getD_eq_getElem?_getD,List.getElem?_eq_getElem (show j < x.length by omega)]
    have gi:x[i]? = some (fr x i,tp x i):=by
     rw [List.getElem?_eq_getElem hi]
     simp [fr,tp,List.getD_eq_getElem?_getD,List.getElem?_eq_getElem hi]
    have q:=pw j i (by omega) hi hj;rw [List.getElem?_eq_getElem (by omega)] at gj;rw [List.getElem?_eq_getElem hi] at gi;injection gj with gj;injection gi with gi;rw [gj,gi] at q;simp only at q q1
    omega
   exact not_before hf hr h1 h2 e (by omega) lt ((hl _).1 g)
 rw [fall_hit (idx_hit hi hp hn),e1,es]
theorem fall_none (hf:Fit f) (hx:Plain x) (hl:∀ u,Low x u↔LowL f u) {r:Osc} (hr:r.calm) {k:Nat} (h1:1≤k) (h2:k≤16) (e:f k=none):FallV x (r.g (224 * k - 20)) (r.g (224 * k+20))=(0,false):=by
 refine fall_miss (idx_miss fun j hj=>?_)
 rcases hq:fallP (r.g (224 * k - 20)) (r.g (224 * k+20)) (fr x j,tp x j) with _ | _
 ·rfl
 ·exfalso
  unfold fallP at hq;simp only [Bool.and_eq_true,decide_eq_true_eq] at hq;obtain ⟨k',h3,h4,h⟩:=(hl _).1 (plain_begin hx (mem_fr hj)).1
  by_cases q:k'=k
  ·subst q
   obtain ⟨o,F,e',_⟩:=h;rw [e] at e'
   cases e'
  ·exact other hf hr h1 h2 h3 h4 q (by simp only;omega) (by simp only;omega) h
theorem heard_bus (hf:Fit f) (hl:∀ u,Low l u↔LowL f u) {r:Osc} (hr:r.calm) {k:Nat} (h1:1≤k) (h2:k≤16) {o:Osc} {F:Nat→Bool} (e:f k=some (o,F)) {i:Nat} (hi:i < 11) :
 heard (lowB l) (Glo r.A r.R r.n) (Tk.Loc r.A r.R r.n (o.g (224 * k))) i=F i:=by
 have c:Sa.Calm o.n o.A o.R 10000:=Sa.Calm.up (hf.calm k o F e) (by omega);have d:Sa.Calm r.n r.A r.R 10000:=Sa.Calm.up hr (by omega);have look:∀ j:Int,7≤j→j≤9→lowB l (Glo r.A r.R r.n (Tk.Loc r.A r.R r.n (o.g (224 * k))+16 * i+j)) = !F i:=fun j j0 j1=>by
  obtain ⟨q0,q1⟩:=look_in c d (m:=224 * (k:Int)) (by omega) (by omega) i hi j j0 j1;have b:=bit_low hf h1 h2 e hi (u:=Glo r.A r.R r.n (Tk.Loc r.A r.R r.n (o.g (224 * k))+16 * i+j)) q0 q1
  rcases hF:F i with _ | _
  ·exact lowB_iff.2 ((hl _).2 (b.2 hF))
  ·refine lowB_false.2 fun h=>?_
   have:=b.1 ((hl _).1 h);rw [hF] at this
   cases this
 unfold heard;rw [look 7 (by omega) (by omega),look 8 (by omega) (by omega),look 9 (by omega) (by omega),maj_same]
 simp
end
end Go.Proofs.YtljnkaodhfnbbaaGreatDoor.Bu
namespace Go.Proofs.YtljnkaodhfnbbaaGreatDoor.Bu
open Go.RowKit
open Sp (S2 fr tp)
open Wi (Plain PlainOf Low lowB FallV)
open Sa (heard)
open Ck (LL lat sN sE tE)
open Pa (Sts Hr sat vat snB snX sbN frF hrB hrV hr sender_is sq sq1 tn lowF)
open Ua (frm tb te)
instance:Inhabited Osc:=⟨⟨0,fun _=>0,fun _=>0⟩⟩
def osc (O:List Osc) (i:Int):Osc:=O.getD i.toNat default
def frs (S:Sts) (T:LL) (V:List Bool) (P:List (Int×Int)) (O:List Osc):Frs:=fun k=>if snB S T V k=true then some (osc O (sN k T),frF S T V P k) else none
theorem sq_zero_bit (P:List (Int×Int)) (s:Int) (F:Nat→Bool):sq P s F P.length 0=F 0:=by
 unfold sq;rw [List.take_length]
 induction P generalizing F with
 | nil=>rfl
 | cons x r ih =>
   rw [List.foldl_cons,ih];unfold sq1
   split
   ·rfl
   ·rfl
theorem frF_zero (S:Sts) (T:LL) (V:List Bool) (P:List (Int×Int)) (s:Int):frF S T V P s 0=false:=by
 unfold frF
 split
 ·rw [sq_zero_bit];rfl
 ·rfl
section
variable {S:Sts} {T:LL} {V:List Bool} {P:List (Int×Int)} {O:List Osc}
theorem frs_yes {k:Nat} (h:snB S T V k=true):frs S T V P O k=some (osc O (sN k T),frF S T V P k):=if_pos h
theorem frs_no {k:Nat} (h:snB S T V k=false):frs S T V P O k=none:=if_neg (by rw [h];exact Bool.false_ne_true)
theorem snB_is {k:Nat} (h:snB S T V k=true):0≤sN k T:=by
 unfold snB at h;simp only [Bool.and_eq_true,decide_eq_true_eq] at h;exact h.1.1
theorem osc_calm (hO:∀ o∈O,o.calm) {i:Nat} (hi:i < O.length):(osc O i).calm:=by
 unfold osc;rw [Int.toNat_natCast,List.getD_eq_getElem?_getD,List.getElem?_eq_getElem hi];exact hO _ (List.getElem_mem hi)
theorem frs_fit (ok:tE T=0) (hl:O.length=T.length) (hO:∀ o∈O,o.calm):Fit (frs S T V P O):=by
 refine ⟨fun k o F e=>?_,fun k o F e=>?_⟩
 all_goals
  cases hs:snB S T V k with
  | false=>rw [frs_no hs] at e;cases e
  | true =>
    rw [frs_yes hs] at e;injection e with e;injection e with e1 e2;subst e1 e2
    first
     | exact frF_zero S T V P k
     | (obtain ⟨n,en,hn,_⟩:=sender_is ok (snB_is hs)
        rw [en]
        exact osc_calm hO (by omega))
end
theorem bad_congr {F G:Nat→Bool} (h:∀ i,i < 11→F i=G i):Ua.bad F=Ua.bad G:=by unfold Ua.bad;rw [h 0 (by omega),h 10 (by omega)]
theorem tb_congr {F G:Nat→Bool} (h:∀ i,i < 11→F i=G i):tb F=tb G:=by unfold tb;rw [bad_congr h,Ua.val_congr 8 fun i _ hi=>h i (by omega)]
theorem tp_congr {F G:Nat→Bool} (h:∀ i,i < 11→F i=G i):Ua.tp F=Ua.tp G:=by unfold Ua.tp;rw [bad_congr h,Ua.par_congr 9 fun i _ hi=>h i (by omega)]
theorem te_congr {F G:Nat→Bool} (h:∀ i,i < 11→F i=G i):te F=te G:=by unfold te;rw [bad_congr h]
noncomputable def lisV (x l:List S2) (r:Osc) (f t:Int):Int×Bool×Int :=
 if (FallV x f t).2 then (tb (heard (lowB l) (Tk.Glo r.A r.R r.n) (Tk.Loc r.A r.R r.n (FallV x f t).1)),Ua.tp (heard (lowB l) (Tk.Glo r.A r.R r.n) (Tk.Loc r.A r.R r.n (FallV x f t).1)),te (heard (lowB l) (Tk.Glo r.A r.R r.n) (Tk.Loc r.A r.R r.n (FallV x f t).1))) else (0,false,3)
noncomputable def lisS (x l:List S2) (r:Osc) (s:Int):Int×Bool×Int:=lisV x l r (r.g (224 * s - 20)) (r.g (224 * s+20))
noncomputable def lis (x l:List S2) (r:Osc):Hr:=fun s=>if 1≤s∧s≤16∧(lisS x l r s).2.2=0∧(lisS x l r s).2.1=false then some (lisS x l r s).1 else none
section
variable {S:Sts} {T:LL} {V:List Bool} {P:List (Int×Int)} {O:List Osc} {x l:List S2} {r:Osc}
theorem lis_slot (ok:tE T=0) (hl:O.length=T.length) (hO:∀ o∈O,o.calm) (hx:PlainOf l x) (hL:∀ u,Low l u↔LowL (frs S T V P O) u) (hr':r.calm) {k:Nat} (h1:1≤k) (h2:k≤16) :
 lisS x l r k=if snB S T V k=true then (tb (frF S T V P k),Ua.tp (frF S T V P k),te (frF S T V P k)) else (0,false,3):=by
 have F:=frs_fit (S:=S) (V:=V) (P:=P) ok hl hO;have hX:∀ u,Low x u↔LowL (frs S T V P O) u:=fun u=>(hx.2 u).trans (hL u)
 cases hs:snB S T V k with
 | true =>
   have e:=frs_yes (P:=P) (O:=O) hs;have q:=fall_some F hx.1 hX hr' h1 h2 e;have g:=fun i hi=>heard_bus F hL hr' h1 h2 e (i:=i) hi;unfold lisS lisV;rw [q];simp only [if_true];rw [tb_congr g,tp_congr g,te_congr g]
 | false =>
   have q:=fall_none F hx.1 hX hr' h1 h2 (frs_no (P:=P) (O:=O) hs);unfold lisS lisV;rw [q]
   rfl
theorem lis_is (ok:tE T=0) (hl:O.length=T.length) (hO:∀ o∈O,o.calm) (hx:PlainOf l x) (hL:∀ u,Low l u↔LowL (frs S T V P O) u) (hr':r.calm):lis x l r=hr S T V P:=funext fun s=>by
 unfold lis hr
 by_cases hb:1≤s∧s≤16
 ·obtain ⟨k,rfl⟩:∃ k:Nat,s=k:=⟨s.toNat,by omega⟩
  rw [lis_slot ok hl hO hx hL hr' (k:=k) (by omega) (by omega)]
  cases hs:snB S T V k with
  | false =>
    have hB:hrB S T V P k=false:=by unfold hrB;rw [hs];rfl
    rw [hB]
    simp
  | true =>
    simp only [if_true];have hB:hrB S T V P k=(decide (te (frF S T V P k)=0) && !Ua.tp (frF S T V P k)):=by unfold hrB;rw [hs];rfl
    by_cases q:te (frF S T V P k)=0∧Ua.tp (frF S T V P k)=false
    ·have hT:hrB S T V P k=true:=by rw [hB,decide_eq_true q.1,q.2];rfl
     rw [if_pos ⟨hb.1,hb.2,q.1,q.2⟩,if_pos ⟨hb.1,hb.2,hT⟩];unfold hrV;rw [if_pos hT]
    ·rw [if_neg fun h=>q ⟨h.2.2.1,h.2.2.2⟩,if_neg fun h=>by
      have:=h.2.2;rw [hB] at this;simp only [Bool.and_eq_true,decide_eq_true_eq,Bool.not_eq_true'] at this
      exact q this]
 ·rw [if_neg fun h=>hb ⟨h.1,h.2.1⟩,if_neg fun h=>hb ⟨h.1,h.2.1⟩]
end
def LowJ (S:Sts) (T:LL) (V:List Bool) (P:List (Int×Int)) (O:List Osc) (j:Int) (u:Int):Prop:=∃ k:Nat,1≤k∧k≤16∧sbN S T V k=j∧LowK (frs S T V P O) k u
section
variable {S:Sts} {T:LL} {V:List Bool} {P:List (Int×Int)} {O:List Osc}
theorem lowL_iff (ok:tE T=0) {u:Int} : LowL (frs S T V P O) u↔∃ j:Nat,j < T.length∧LowJ S T V P O j u:=by
 constructor
 ·rintro ⟨k,h1,h2,h⟩
  obtain ⟨o,F,e⟩:=lowK_ex h;have hs:snB S T V k=true:=by
   rcases q:snB S T V k with _ | _
   ·rw [frs_no q] at e;cases e
   ·rfl
  obtain ⟨n,en,hn,_⟩:=sender_is ok (snB_is hs);exact ⟨n,hn,k,h1,h2,by unfold sbN;rw [if_pos hs,en],h⟩
 ·rintro ⟨j,_,k,h1,h2,_,h⟩
  exact ⟨k,h1,h2,h⟩
end
end Go.Proofs.YtljnkaodhfnbbaaGreatDoor.Bu
namespace Go.Proofs.YtljnkaodhfnbbaaGreatDoor.Bu
open Go.RowKit
open Sp (S2 fr tp Sp)
open Wi (Plain PlainOf Low low_nil)
open Ck (LL lat sN sE tE)
open Pa (Sts Hr hput sat vat snB sbN frF hr rdE rdS rdL sender_is)
open Se (lows lows_mem Glo_in)
def OsL (w:World) (v:Value) (O:List Osc):Prop:=∃ a cap,v = .slice a O.length cap∧O.length≤cap∧cap≤maxLen ∧
 (0 < O.length→∃ b off,a=some ⟨b,off,none⟩∧∀ i:Nat,i < O.length→∃ u,w.cell? ⟨b,off+i,none⟩=some u∧Tk.Steps w u (osc O i).n (osc O i).A (osc O i).R)
theorem OsL.below {w w':World} {v:Value} {O:List Osc} (h:OsL w v O) (hb:Below w.heap.size w w'):OsL w' v O:=by
 obtain ⟨a,cap,e,h1,h2,h3⟩:=h;refine ⟨a,cap,e,h1,h2,fun hp=>?_⟩;obtain ⟨b,off,ea,hA⟩:=h3 hp;refine ⟨b,off,ea,fun i hi=>?_⟩;obtain ⟨u,c,r⟩:=hA i hi;exact ⟨u,(hb.cell (World.block_lt_of_cell? _ _ c)).trans c,r.below hb⟩
theorem OsL.slice {w:World} {v:Value} {O:List Osc} (h:OsL w v O):∃ a cap,v = .slice a O.length cap∧O.length≤cap∧cap≤maxLen:=by
 obtain ⟨a,cap,e,h1,h2,_⟩:=h;exact ⟨a,cap,e,h1,h2⟩
theorem steps_form {w:World} {v:Value} {n:Nat} {A R:Nat→Int} (h:Tk.Steps w v n A R):∃ a cap,v = .slice a n cap∧n≤cap∧cap≤maxLen:=by
 rcases h with ⟨a,cap,rfl,h,rfl⟩ | ⟨b,off,cap,rfl,h0,h,_⟩
 ·exact ⟨a,cap,rfl,Nat.zero_le _,h⟩
 ·exact ⟨_,cap,rfl,h0,h⟩
theorem steps_at {w:World} {a:Option Addr} {n m cap:Nat} {A R:Nat→Int} (h:Tk.Steps w (.slice a n cap) m A R) (hp:0 < n):m=n∧∃ b off,a=some ⟨b,off,none⟩∧∀ i,i < n→w.cell? ⟨b,off+i * 2,none⟩=some (.int .i64 (A i))∧w.cell? ⟨b,off+i * 2+1,none⟩=some (.int .i64 (R i)):=by
 rcases h with ⟨a',cap',e,h,rfl⟩ | ⟨b,off,cap',e,_,h,hc⟩
 ·injection e with _ e _;omega
 ·injection e with e1 e2 _
  subst e1 e2;exact ⟨rfl,b,off,rfl,hc⟩
theorem OsL.one {w:World} {v:Value} {O:List Osc} (h:OsL w v O) {k:Nat} (hk:k < O.length):∃ b off cap a' cap',v = .slice (some ⟨b,off,none⟩) O.length cap∧w.cell? ⟨b,off+k,none⟩=some (.slice a' (osc O k).n cap')∧((osc O k).n≤cap'∧cap'≤maxLen)∧Tk.Steps w (.slice a' (osc O k).n cap') (osc O k).n (osc O k).A (osc O k).R:=by
 obtain ⟨a,cap,e,h1,h2,h3⟩:=h;obtain ⟨b,off,rfl,hA⟩:=h3 (by omega);obtain ⟨u,c,s⟩:=hA k hk;obtain ⟨a',cap',rfl,h4⟩:=steps_form s;exact ⟨b,off,cap,a',cap',e,c,h4,s⟩
theorem osc_mem {O:List Osc} {k:Nat} (hk:k < O.length):osc O k∈O:=by
 unfold osc;rw [Int.toNat_natCast,List.getD_eq_getElem?_getD,List.getElem?_eq_getElem hk];exact List.getElem_mem hk
noncomputable def calmB (o:Osc):Bool:=@decide o.calm (Classical.propDecidable _)
theorem calmB_yes {o:Osc} (h:o.calm):calmB o=true:=by unfold calmB;exact @decide_eq_true _ (Classical.propDecidable _) h
theorem calmB_no {o:Osc} (h:¬ o.calm):calmB o=false:=by unfold calmB;exact @decide_eq_false _ (Classical.propDecidable _) h
theorem of_calmB {o:Osc} (h:calmB o=true):o.calm:=by unfold calmB at h;exact @of_decide_eq_true _ (Classical.propDecidable _) h
def calmL (O:List Osc):Prop:=∀ o∈O,o.calm
noncomputable def calmLB (O:List Osc):Bool:=O.all calmB
theorem of_calmLB {O:List Osc} (h:calmLB O=true):calmL O:=fun o ho=>of_calmB (List.all_eq_true.1 h o ho)
theorem rdE_zero {S:Sts} {T:LL} {V:List Bool} (hE:rdE S T V=0):1≤S.length∧S.length≤32∧T.length=S.length∧V.length=S.length∧tE T=0:=by
 unfold rdE at hE
 split at hE
 ·rename_i h
  exact ⟨h.1,h.2.1,h.2.2.1,h.2.2.2,hE⟩
 ·omega
noncomputable def buE (S:Sts) (T:LL) (V:List Bool) (O:List Osc):Int:=if rdE S T V=0 then (if O.length=S.length∧calmLB O=true then 0 else 1) else rdE S T V
noncomputable def buL (S:Sts) (T:LL) (V:List Bool) (P:List S2) (O:List Osc):Sts:=if buE S T V O=0 then rdS S T V (hr S T V P) else []
section
variable {S:Sts} {T:LL} {V:List Bool} {P:List S2} {O:List Osc}
theorem buE_wrong (h:rdE S T V≠0):buE S T V O=rdE S T V∧buL S T V P O = []:=by
 have e:buE S T V O=rdE S T V:=if_neg h;exact ⟨e,if_neg (by rw [e];exact h)⟩
theorem buE_wild (h:rdE S T V=0) (h':¬ (O.length=S.length∧calmLB O=true)):buE S T V O=1∧buL S T V P O = []:=by
 have e:buE S T V O=1:=by unfold buE;rw [if_pos h,if_neg h']
 exact ⟨e,if_neg (by rw [e];decide)⟩
theorem buE_ok (h:rdE S T V=0) (h1:O.length=S.length) (h2:calmLB O=true):buE S T V O=0∧buL S T V P O=rdS S T V (hr S T V P):=by
 have e:buE S T V O=0:=by unfold buE;rw [if_pos h,if_pos ⟨h1,h2⟩]
 exact ⟨e,if_pos e⟩
end
theorem plain_count:∀ (l:List S2) (a b:Int),a≤b→Plain l→(∀ s∈l,a≤s.1∧s.1 < b)→(l.length:Int)≤b - a
 | [],a,b,h,_,_=>by simp;omega
 | s :: r,a,b,h,hp,hs=>by
   have p:=Wi.plain_cons.1 hp;have q:=hs s List.mem_cons_self;have ih:=plain_count r (s.1+1) b (by omega) p.1 fun x hx=>by
    have:=p.2.2 x hx;have:=hs x (List.mem_cons_of_mem _ hx)
    omega
   simp only [List.length_cons]
   omega
theorem plain_few {l:List S2} (h:Plain l) (hl:∀ u,Low l u→0≤u∧u≤4294967296):l.length≤4294967297:=by
 have:=plain_count l 0 4294967297 (by omega) h fun s hs=>by
  have:=hl s.1 (plain_begin h hs).1
  omega
 omega
theorem low_spans {f:Frs} {k:Nat} {o:Osc} {F:Nat→Bool} (e:f k=some (o,F)) {l:List S2} (h:PlainOf (lows (Tk.Glo o.A o.R o.n) F (224 * (k:Int)) 11) l) (u:Int):Low l u↔LowK f k u:=by
 rw [h.2 u]
 constructor
 ·rintro ⟨s,hs,a,b⟩
  obtain ⟨i,hi,hF,rfl⟩:=lows_mem.1 hs;exact ⟨o,F,e,i,hi,hF,a,b⟩
 ·rintro ⟨o',F',e',i,hi,hF,a,b⟩
  rw [e] at e';injection e' with e';injection e' with e1 e2;subst e1 e2;exact ⟨_,lows_mem.2 ⟨i,hi,hF,rfl⟩,a,b⟩
theorem lowK_at {f:Frs} {k:Nat} {u:Int} (h:LowK f k u):0≤u∧u≤4294967296:=by
 obtain ⟨o,F,e⟩:=lowK_ex h;have a:=lowK_in e h;have b:=Glo_in o.A o.R o.n (224 * (k:Int));have c:=Glo_in o.A o.R o.n (224 * (k:Int)+176);unfold Osc.g at a
 omega
def LowUp (S:Sts) (T:LL) (V:List Bool) (P:List S2) (O:List Osc) (j:Int) (k:Nat) (u:Int):Prop:=∃ i:Nat,1≤i∧i < k∧sbN S T V i=j∧LowK (frs S T V P O) i u
section
variable {S:Sts} {T:LL} {V:List Bool} {P:List S2} {O:List Osc} {j:Int} {k:Nat} {u:Int}
theorem lowUp_one:¬ LowUp S T V P O j 1 u:=fun ⟨i,h1,h2,_⟩=>by omega
theorem lowUp_end:LowUp S T V P O j 17 u↔LowJ S T V P O j u:=⟨fun ⟨i,h1,h2,h⟩=>⟨i,h1,by omega,h⟩,fun ⟨i,h1,h2,h⟩=>⟨i,h1,by omega,h⟩⟩
theorem lowUp_yes (h1:1≤k) (e:sbN S T V k=j):LowUp S T V P O j (k+1) u↔LowUp S T V P O j k u∨LowK (frs S T V P O) k u:=by
 constructor
 ·rintro ⟨i,a,b,c,d⟩
  by_cases q:i=k
  ·subst q;exact .inr d
  ·exact .inl ⟨i,a,by omega,c,d⟩
 ·rintro (⟨i,a,b,c,d⟩ | d)
  ·exact ⟨i,a,by omega,c,d⟩
  ·exact ⟨k,h1,by omega,e,d⟩
theorem lowUp_no (h:¬ (snB S T V k=true∧sbN S T V k=j)):LowUp S T V P O j (k+1) u↔LowUp S T V P O j k u:=by
 constructor
 ·rintro ⟨i,a,b,c,d⟩
  by_cases q:i=k
  ·subst q
   obtain ⟨o,F,e⟩:=lowK_ex d
   rcases hs:snB S T V i with _ | _
   ·rw [frs_no hs] at e;cases e
   ·exact absurd ⟨hs,c⟩ h
  ·exact ⟨i,a,by omega,c,d⟩
 ·rintro ⟨i,a,b,c,d⟩
  exact ⟨i,a,by omega,c,d⟩
theorem lowJ_at (h:LowJ S T V P O j u):0≤u∧u≤4294967296:=by obtain ⟨_,_,_,_,h⟩:=h;exact lowK_at h
theorem lowL_at {f:Frs} (h:LowL f u):0≤u∧u≤4294967296:=by obtain ⟨_,_,_,h⟩:=h;exact lowK_at h
end
def SendP (S:Sts) (T:LL) (V:List Bool) (P:List S2) (O:List Osc) (j:Int) (l:List S2):Prop:=Plain l∧∀ u,Low l u↔LowJ S T V P O j u
def LineP (S:Sts) (T:LL) (V:List Bool) (P:List S2) (O:List Osc) (l:List S2):Prop:=Plain l∧∀ u,Low l u↔LowL (frs S T V P O) u
theorem LineP.one {S:Sts} {T:LL} {V:List Bool} {P:List S2} {O:List Osc} {a b:List S2} (ha:LineP S T V P O a) (hb:LineP S T V P O b):a=b:=Wi.plain_one ha.1 hb.1 fun t=>(ha.2 t).trans (hb.2 t).symm
theorem who_sends {S:Sts} {T:LL} {V:List Bool} {P:List S2} {O:List Osc} (ok:tE T=0) (hl:O.length=T.length) (hO:calmL O) {k:Nat} (h:snB S T V k=true) :
 ∃ n:Nat,sbN S T V k=n∧n < O.length∧frs S T V P O k=some (osc O n,frF S T V P k)∧(osc O n).calm:=by
 obtain ⟨n,en,hn,_⟩:=sender_is ok (snB_is h);refine ⟨n,by unfold sbN;rw [if_pos h,en],by omega,by rw [frs_yes h,en],osc_calm hO (by omega)⟩
theorem made_few {Q:Int→Prop} {l:List S2} (hp:Plain l) (hl:∀ u,Low l u→Q u) (hq:∀ u,Q u→0≤u∧u≤4294967296):l.length≤4294967297:=plain_few hp fun u h=>hq u (hl u h)
def LowTo (S:Sts) (T:LL) (V:List Bool) (P:List S2) (O:List Osc) (k:Nat) (u:Int):Prop:=∃ j:Nat,j < k∧LowJ S T V P O j u
theorem lowTo_next {S:Sts} {T:LL} {V:List Bool} {P:List S2} {O:List Osc} (k:Nat) (u:Int):LowTo S T V P O (k+1) u↔LowTo S T V P O k u∨LowJ S T V P O k u:=by
 constructor
 ·rintro ⟨j,hj,h⟩
  by_cases e:j=k
  ·subst e;exact .inr h
  ·exact .inl ⟨j,by omega,h⟩
 ·rintro (⟨j,hj,h⟩ | h)
  ·exact ⟨j,by omega,h⟩
  ·exact ⟨k,by omega,h⟩
def lowH (h:Hr) (k:Nat):Hr:=fun n=>if 1≤n∧n < (k:Int) then h n else none
theorem low_one (h:Hr):lowH h 1=fun _=>none:=funext fun n=>by unfold lowH;rw [if_neg (by omega)]
theorem low_yes {h:Hr} {k:Nat} (h1:1≤k) {y:Int} (e:h k=some y):hput (lowH h k) k y=lowH h (k+1):=funext fun n=>by
 unfold hput lowH
 by_cases g:n=k
 ·subst g;rw [if_pos rfl,if_pos (by omega),e]
 ·rw [if_neg g]
  by_cases q:1≤n∧n < (k:Int)
  ·rw [if_pos q,if_pos (by omega)]
  ·rw [if_neg q,if_neg (by omega)]
theorem low_no {h:Hr} {k:Nat} (e:h k=none):lowH h k=lowH h (k+1):=funext fun n=>by
 unfold lowH
 by_cases g:n=k
 ·subst g;rw [if_neg (by omega),e,ite_self]
 ·by_cases q:1≤n∧n < (k:Int)
  ·rw [if_pos q,if_pos (by omega)]
  ·rw [if_neg q,if_neg (by omega)]
theorem low_end {h:Hr} (o:∀ n:Int,(n < 1∨16 < n)→h n=none):lowH h 17=h:=funext fun n=>by
 unfold lowH
 split
 ·rfl
 ·exact (o n (by omega)).symm
section
variable {x l:List S2} {r:Osc}
theorem lis_out {s:Int} (h:s < 1∨16 < s):lis x l r s=none:=if_neg fun g=>by omega
theorem lis_yes {s:Int} (h1:1≤s) (h2:s≤16) (e:(lisS x l r s).2.2=0) (o:(lisS x l r s).2.1=false):lis x l r s=some (lisS x l r s).1:=if_pos ⟨h1,h2,e,o⟩
theorem lis_no {s:Int} (e:¬ ((lisS x l r s).2.2=0∧(lisS x l r s).2.1=false)):lis x l r s=none:=if_neg fun g=>e ⟨g.2.2.1,g.2.2.2⟩
end
end Go.Proofs.YtljnkaodhfnbbaaGreatDoor.Bu
namespace Go.Proofs.YtljnkaodhfnbbaaGreatDoor.Bu
open Go.RowKit Go.Maps
open Fs (Abs St Only Fx ow_only)
open Rw (Rd Ow At Kind)
open Ro (E5 K5)
open Sp (S2 fr tp)
open Ck (LL lat RdL KS Hd sl zh rdl_of)
open Pa (Sts Stl KN KB K2 ow_apart only_grown sat Cel cel pat)
section
end
def ofS (s:List S2):Osc:=⟨s.length,fr s,tp s⟩
theorem steps_rd {w:World} {v:Value} {s:List S2} (h:Rd K2 w v s):Tk.Steps w v (ofS s).n (ofS s).A (ofS s).R:=by
 obtain ⟨a,cap,rfl,h1,h2,h3⟩:=h
 by_cases h0:0 < s.length
 ·obtain ⟨b,off,rfl,hA⟩:=h3 h0
  exact .inr ⟨b,off,cap,rfl,h1.1,h2,fun i hi=>⟨hA i hi 0 _ rfl,hA i hi 1 _ rfl⟩⟩
 ·have e:s.length=0:=by omega
  exact .inl ⟨a,cap,by rw [e],h2,e⟩
theorem osl_of {w:World} {v:Value} {hs:List Hd} {O:List Osc} (h:Rd KS w v hs) (hl:hs.length=O.length) (each:∀ i:Nat,i < O.length→Tk.Steps w (sl (hs.getD i zh)) (osc O i).n (osc O i).A (osc O i).R):OsL w v O:=by
 obtain ⟨a,cap,e,h1,h2,h3⟩:=h;rw [hl] at e h1 h3;refine ⟨a,cap,e,h1.1,h2,fun hp=>?_⟩;obtain ⟨b,off,ea,hA⟩:=h3 hp;refine ⟨b,off,ea,fun i hi=>⟨_,?_,each i hi⟩⟩;have c:=hA i (by rw [hl];exact hi) 0 _ rfl;simp only [KS,Nat.mul_one,Nat.add_zero] at c;exact c
end Go.Proofs.YtljnkaodhfnbbaaGreatDoor.Bu
namespace Go.Proofs.YtljnkaodhfnbbaaGreatDoor.Cu
open Go.RowKit Go.Maps
open Rw (Rd Ow At Kind)
open Fs (Abs St OkA Only Fx ow_only)
open Pa (Sts S2 sat vat KN KB K2 ptr Stl ow_apart only_grown)
open Ck (LL lat RdL KS Hd sl zh rdl_of)
open Ro (E5 K5)
open Bu (Osc osc OsL ofS steps_rd osl_of calmLB calmB_yes)
structure CI (w:World) (T:LL) (L:List Nd) (k1 k2 k3 k4:Nat) (o1:Value) (l1:List Nat) (o2:Value) (l2:List Hd) (o3:Value) (l3:List Bool) (o4:Value) (l4:List Hd) (wr:World):Prop where
 w1:Ow KN wr w.heap.size 89 o1 l1
 w2:Ow KS wr w.heap.size 85 o2 l2
 w3:Ow KB wr w.heap.size 4 o3 l3
 w4:Ow KS wr w.heap.size 103 o4 l4
 n1:l1.length=k1
 n2:l2.length=k2
 n3:l3.length=k3
 n4:l4.length=k4
 e1:∀ i,i < k1→l1.getD i 0=(nda L i).s
 e2:∀ i,i < k2→Ow K5 wr w.heap.size 87 (sl (l2.getD i zh)) (lat T i)
 e3:∀ i,i < k3→l3.getD i false=(nda L i).live
 e4:∀ i,i < k4→Ow K2 wr w.heap.size 108 (sl (l4.getD i zh)) [(0,(nda L i).rate)]
 bel:Below w.heap.size w wr
section
variable {w wr w':World} {T:LL} {L:List Nd} {k1 k2 k3 k4:Nat} {o1 o2 o3 o4 o':Value} {l1:List Nat} {l2 l4:List Hd} {l3:List Bool}
theorem CI.start (w:World) (T:LL) (L:List Nd):CI w T L 0 0 0 0 (.slice none 0 0) [] (.slice none 0 0) [] (.slice none 0 0) [] (.slice none 0 0) [] w :=
 ⟨Rw.Ow.nil _ _ _,Rw.Ow.nil _ _ _,Rw.Ow.nil _ _ _,Rw.Ow.nil _ _ _,rfl,rfl,rfl,rfl,fun i hi=>by omega,fun i hi=>by omega,fun i hi=>by omega,fun i hi=>by omega,Below.refl _ _⟩
theorem CI.below (h:CI w T L k1 k2 k3 k4 o1 l1 o2 l2 o3 l3 o4 l4 wr) (b:Below wr.heap.size wr w'):CI w T L k1 k2 k3 k4 o1 l1 o2 l2 o3 l3 o4 l4 w' :=
 ⟨h.w1.keep b,h.w2.keep b,h.w3.keep b,h.w4.keep b,h.n1,h.n2,h.n3,h.n4,h.e1,fun i hi=>(h.e2 i hi).keep b,h.e3,fun i hi=>(h.e4 i hi).keep b,h.bel.trans (b.mono h.bel.size)⟩
theorem gd_push {α:Type} {l:List α} {k i:Nat} (x d:α) (hl:l.length=k) (hi:i < k+1):(l ++ [x]).getD i d=if i < k then l.getD i d else x:=by
 rw [List.getD_eq_getElem?_getD,List.getElem?_append,hl]
 split
 ·rw [List.getD_eq_getElem?_getD]
 ·obtain rfl:i=k:=by omega
  simp
theorem CI.push1 (h:CI w T L k1 k2 k3 k4 o1 l1 o2 l2 o3 l3 o4 l4 wr) {x:Nat} (own:Ow KN w' w.heap.size 89 o' (l1 ++ [x])) (gr:wr.grownBy w' o1.ownBlock) (hx:x=(nda L k1).s):CI w T L (k1+1) k2 k3 k4 o' (l1 ++ [x]) o2 l2 o3 l3 o4 l4 w':=by
 have o:=only_grown gr;refine ⟨own,ow_only h.w2 (fun k e=>ow_apart h.w2 h.w1 (by decide) k e) o,ow_only h.w3 (fun k e=>ow_apart h.w3 h.w1 (by decide) k e) o,ow_only h.w4 (fun k e=>ow_apart h.w4 h.w1 (by decide) k e) o,by rw [List.length_append,h.n1];rfl,h.n2,h.n3,h.n4,fun i hi=>?_,fun i hi=>ow_only (h.e2 i hi) (fun k e=>ow_apart (h.e2 i hi) h.w1 (by decide) k e) o,h.e3,fun i hi=>ow_only (h.e4 i hi) (fun k e=>ow_apart (h.e4 i hi) h.w1 (by decide) k e) o,h.bel.grown gr h.bel.size fun j e=>(World.ownsRow.lt h.w1 j e).1⟩;rw [gd_push x 0 h.n1 hi]
 split
 ·rename_i g;exact h.e1 i g
 ·obtain rfl:i=k1:=by omega
  exact hx
theorem CI.push2 (h:CI w T L k1 k2 k3 k4 o1 l1 o2 l2 o3 l3 o4 l4 wr) {x:Hd} (own:Ow KS w' w.heap.size 85 o' (l2 ++ [x])) (gr:wr.grownBy w' o2.ownBlock) (hx:Ow K5 wr w.heap.size 87 (sl x) (lat T k2)):CI w T L k1 (k2+1) k3 k4 o1 l1 o' (l2 ++ [x]) o3 l3 o4 l4 w':=by
 have o:=only_grown gr;refine ⟨ow_only h.w1 (fun k e=>ow_apart h.w1 h.w2 (by decide) k e) o,own,ow_only h.w3 (fun k e=>ow_apart h.w3 h.w2 (by decide) k e) o,ow_only h.w4 (fun k e=>ow_apart h.w4 h.w2 (by decide) k e) o,h.n1,by rw [List.length_append,h.n2];rfl,h.n3,h.n4,h.e1,fun i hi=>?_,h.e3,fun i hi=>ow_only (h.e4 i hi) (fun k e=>ow_apart (h.e4 i hi) h.w2 (by decide) k e) o,h.bel.grown gr h.bel.size fun j e=>(World.ownsRow.lt h.w2 j e).1⟩;rw [gd_push x zh h.n2 hi]
 split
 ·rename_i g;exact ow_only (h.e2 i g) (fun k e=>ow_apart (h.e2 i g) h.w2 (by decide) k e) o
 ·obtain rfl:i=k2:=by omega
  exact ow_only hx (fun k e=>ow_apart hx h.w2 (by decide) k e) o
theorem CI.push3 (h:CI w T L k1 k2 k3 k4 o1 l1 o2 l2 o3 l3 o4 l4 wr) {x:Bool} (own:Ow KB w' w.heap.size 4 o' (l3 ++ [x])) (gr:wr.grownBy w' o3.ownBlock) (hx:x=(nda L k3).live):CI w T L k1 k2 (k3+1) k4 o1 l1 o2 l2 o' (l3 ++ [x]) o4 l4 w':=by
 have o:=only_grown gr;refine ⟨ow_only h.w1 (fun k e=>ow_apart h.w1 h.w3 (by decide) k e) o,ow_only h.w2 (fun k e=>ow_apart h.w2 h.w3 (by decide) k e) o,own,ow_only h.w4 (fun k e=>ow_apart h.w4 h.w3 (by decide) k e) o,h.n1,h.n2,by rw [List.length_append,h.n3];rfl,h.n4,h.e1,fun i hi=>ow_only (h.e2 i hi) (fun k e=>ow_apart (h.e2 i hi) h.w3 (by decide) k e) o,fun i hi=>?_,fun i hi=>ow_only (h.e4 i hi) (fun k e=>ow_apart (h.e4 i hi) h.w3 (by decide) k e) o,h.bel.grown gr h.bel.size fun j e=>(World.ownsRow.lt h.w3 j e).1⟩;rw [gd_push x false h.n3 hi]
 split
 ·rename_i g;exact h.e3 i g
 ·obtain rfl:i=k3:=by omega
  exact hx
theorem CI.push4 (h:CI w T L k1 k2 k3 k4 o1 l1 o2 l2 o3 l3 o4 l4 wr) {x:Hd} (own:Ow KS w' w.heap.size 103 o' (l4 ++ [x])) (gr:wr.grownBy w' o4.ownBlock) (hx:Ow K2 wr w.heap.size 108 (sl x) [(0,(nda L k4).rate)]):CI w T L k1 k2 k3 (k4+1) o1 l1 o2 l2 o3 l3 o' (l4 ++ [x]) w':=by
 have o:=only_grown gr;refine ⟨ow_only h.w1 (fun k e=>ow_apart h.w1 h.w4 (by decide) k e) o,ow_only h.w2 (fun k e=>ow_apart h.w2 h.w4 (by decide) k e) o,ow_only h.w3 (fun k e=>ow_apart h.w3 h.w4 (by decide) k e) o,own,h.n1,h.n2,h.n3,by rw [List.length_append,h.n4];rfl,h.e1,fun i hi=>ow_only (h.e2 i hi) (fun k e=>ow_apart (h.e2 i hi) h.w4 (by decide) k e) o,h.e3,fun i hi=>?_,h.bel.grown gr h.bel.size fun j e=>(World.ownsRow.lt h.w4 j e).1⟩;rw [gd_push x zh h.n4 hi]
 split
 ·rename_i g;exact ow_only (h.e4 i g) (fun k e=>ow_apart (h.e4 i g) h.w4 (by decide) k e) o
 ·obtain rfl:i=k4:=by omega
  exact ow_only hx (fun k e=>ow_apart hx h.w4 (by decide) k e) o
end
def rosc (L:List Nd):List Osc:=L.map fun x=>ofS [(0,x.rate)]
theorem rosc_at {L:List Nd} {i:Nat} (hi:i < L.length):osc (rosc L) i=ofS [(0,(nda L i).rate)]:=by
 unfold osc rosc nda;rw [Int.toNat_natCast,List.getD_eq_getElem?_getD,List.getElem?_map,List.getElem?_eq_getElem hi,List.getD_eq_getElem?_getD,List.getElem?_eq_getElem hi]
 rfl
theorem rosc_len (L:List Nd):(rosc L).length=L.length:=List.length_map _
theorem calm_one {x:Int} (h : -2000≤x∧x≤2000):(ofS [(0,x)]).calm:=by
 have e0:∀ i,i < 1→(ofS [(0,x)]).A i=0:=fun i hi=>by
  obtain rfl:i=0:=by omega
  rfl
 have e1:∀ i,i < 1→(ofS [(0,x)]).R i=x:=fun i hi=>by
  obtain rfl:i=0:=by omega
  rfl
 refine ⟨⟨(by show 1≤64;decide),fun i hi=>?_,fun i hi=>?_,fun i hi=>?_⟩,by decide,fun i hi=>?_⟩
 ·rw [e0 i hi];decide
 ·rw [e1 i hi];omega
 ·have:i+1 < 1:=hi
  omega
 ·rw [e1 i hi];exact h
theorem rosc_calm {L:List Nd} (h:∀ i,i < L.length→-2000≤(nda L i).rate∧(nda L i).rate≤2000):calmLB (rosc L)=true:=by
 refine List.all_eq_true.2 fun o ho=>calmB_yes ?_;obtain ⟨x,hx,rfl⟩:=List.mem_map.1 ho;obtain ⟨i,hi,e⟩:=List.getElem_of_mem hx;have g:=h i hi;have e':nda L i=x:=by
  unfold nda;rw [List.getD_eq_getElem?_getD,List.getElem?_eq_getElem hi];exact e
 rw [e'] at g;exact calm_one g
section
variable {s t p:Nat} {F G:Nat→Prop} {c:Cs} {vn vq:Value} {L:List Nd} {Fs:Nat→Nat→Prop} {w wr w1 w2 w':World} {T:LL} {o1 o2 o3 o4:Value} {l1:List Nat} {l2 l4:List Hd} {l3:List Bool}
theorem CI.stl (h:CI w T L c.S.length c.S.length c.S.length c.S.length o1 l1 o2 l2 o3 l3 o4 l4 wr) (H:Cl w s F c t vn L p vq Fs):Stl wr o1 c.S :=
 ⟨l1,h.w1.rd,h.n1,fun i hi=>⟨Fs i,by rw [h.e1 i hi];exact (H.st i (by rw [H.len];exact hi)).below h.bel⟩⟩
theorem CI.tab {n:Nat} (h:CI w T L n n n n o1 l1 o2 l2 o3 l3 o4 l4 wr) (hT:T.length=n):RdL wr o2 T:=rdl_of h.w2.rd (h.n2.trans hT.symm) fun i hi=>(h.e2 i (by rw [← hT];exact hi)).rd
theorem CI.liv (h:CI w T L c.S.length c.S.length c.S.length c.S.length o1 l1 o2 l2 o3 l3 o4 l4 wr) (H:Cl w s F c t vn L p vq Fs) (hv:c.V.length=c.S.length):Rd KB wr o3 c.V:=by
 have e:l3=c.V:=by
  refine List.ext_getElem (h.n3.trans hv.symm) fun i h1 h2=>?_;have a:=h.e3 i (by rw [← h.n3];exact h1);rw [H.lv i (by rw [H.len,← hv];exact h2)] at a;unfold vat at a;rw [Int.toNat_natCast,List.getD_eq_getElem?_getD,List.getElem?_eq_getElem h1,List.getD_eq_getElem?_getD,List.getElem?_eq_getElem h2] at a;exact a
 rw [← e];exact h.w3.rd
theorem CI.osl (h:CI w T L L.length L.length L.length L.length o1 l1 o2 l2 o3 l3 o4 l4 wr):OsL wr o4 (rosc L) :=
 osl_of h.w4.rd (h.n4.trans (rosc_len L).symm) fun i hi=>by
  rw [rosc_len] at hi;rw [rosc_at hi];exact steps_rd (h.e4 i hi).rd
def put1 (L:List Nd) (ps:List Nat) (k:Nat):List Nd:=(List.range L.length).map fun i=>if i < k then { nda L i with s:=ps.getD i 0 } else nda L i
theorem put1_len (L:List Nd) (ps:List Nat) (k:Nat):(put1 L ps k).length=L.length:=by unfold put1;rw [List.length_map,List.length_range]
theorem put1_at {L:List Nd} {ps:List Nat} {k i:Nat} (hi:i < L.length):nda (put1 L ps k) i=if i < k then { nda L i with s:=ps.getD i 0 } else nda L i:=by
 unfold put1
 conv=>lhs;unfold nda
 rw [List.getD_eq_getElem?_getD,List.getElem?_map,List.getElem?_range hi]
 rfl
theorem nda_ext {L L':List Nd} (hl:L.length=L'.length) (h:∀ i,i < L.length→nda L i=nda L' i):L=L':=by
 refine List.ext_getElem hl fun i h1 h2=>?_;have:=h i h1
 simpa [nda,List.getD,List.getElem?_eq_getElem h1,List.getElem?_eq_getElem h2] using this
theorem put1_zero (L:List Nd) (ps:List Nat):put1 L ps 0=L:=nda_ext (put1_len L ps 0) fun i hi=>by
 rw [put1_len] at hi;rw [put1_at hi,if_neg (by omega)]
theorem put1_next {L:List Nd} {ps:List Nat} {k:Nat} (hk:k < L.length):(put1 L ps k).set k { nda L k with s:=ps.getD k 0 } = put1 L ps (k+1):=by
 refine nda_ext (by rw [List.length_set,put1_len,put1_len]) fun i hi=>?_;rw [List.length_set,put1_len] at hi;rw [nda_set (by rw [put1_len];exact hk),put1_at hi,put1_at hi]
 by_cases e:i=k
 ·subst e
  rw [if_pos rfl,if_pos (by omega)]
 ·rw [if_neg e]
  by_cases g:i < k
  ·rw [if_pos g,if_pos (by omega)]
  ·rw [if_neg g,if_neg (by omega)]
structure PL (w2:World) (g cap:Nat) (n:Nat) (L:List Nd) (ps:List Nat) (k:Nat) (wr:World):Prop where
 own:Ow KD wr 0 139 (.slice (some ⟨g,0,none⟩) n cap) (put1 L ps k)
 only:Only (fun j=>j=g) w2 wr
theorem PL.step {g cap n k:Nat} {ps:List Nat} (h:PL w2 g cap n L ps k wr) (hn:L.length=n) (hk:k < n):PL w2 g cap n L ps (k+1) (wr.setCell ⟨g,k * 3,none⟩ (ptr (ps.getD k 0))):=by
 have hl:(put1 L ps k).length=n:=by rw [put1_len];exact hn
 have o:=h.own;rw [← hl] at o
 have e:=Rw.Ow.set o k 0 (by omega) (by decide) (ptr (ps.getD k 0)) { nda L k with s:=ps.getD k 0 } (by
  have q:(put1 L ps k).getD k ndD=nda L k:=by
   have:=put1_at (L:=L) (ps:=ps) (k:=k) (i:=k) (by omega);rw [if_neg (by omega)] at this;exact this
  show [ptr (ps.getD k 0),.bool (nda L k).live,.int .i64 (nda L k).rate]=(KD.enc ((put1 L ps k).getD k ndD)).set 0 _
  rw [q]
  rfl)
 rw [put1_next (by omega),hl] at e;exact ⟨e,h.only.trans (Only.set (fun j=>j=g) wr (a:=⟨g,k * 3,none⟩) rfl _) fun _ _ q=>q⟩
theorem Cl.carry (h:Cl w s F c t vn L p vq Fs) {g cap:Nat} (hg:vn = .slice (some ⟨g,0,none⟩) c.S.length cap) {S':Sts} {v:Value} {ps:List Nat} {Gs:Nat→Nat→Prop} (hj:PJ 89 w S' S'.length v ps Gs w2) (hS:S'.length=c.S.length) (hp:PL w2 g cap c.S.length L ps c.S.length w'):Cl w' s (Fx F w w') { c with S:=S' } t vn (put1 L ps c.S.length) p vq Gs∧Only F w w':=by
 subst hg;have b:=hj.bel;have o:=hp.only;have hz:w.heap.size≤w'.heap.size:=Nat.le_trans b.size o.size;have gF:F g:=h.fv g (.inl rfl);have gl:g < w.heap.size:=h.low g gF;have h2:=h.below (b.mono (Nat.le_refl _));have hl:=h.len;have oo:Only F w w':=(Only.of_below b).trans o fun k _ e=>by rw [e];exact gF
 refine ⟨⟨(o.block s h2.slt fun e=>h2.vs.1 (by rw [e];rfl)).trans h2.row,hp.own,by rw [put1_len,hl,hS],fun i hi=>?_,fun i hi=>?_,fun i hi=>?_,h2.pr.only o (fun e=>h2.vp.1 (by rw [e];rfl)),ow_only h2.sp (fun k e q=>h2.vv g rfl (by rw [e,q])) o,.inl h.fs,.inl h.fp,fun k q=>.inl (h.fv k q),fun i hi k q=>?_,fun i j hi hj' hij k q=>?_,fun i hi k q=>?_,Fx.low h.low hz⟩,oo⟩
 ·rw [put1_len] at hi
  rw [put1_at hi,if_pos (by omega)];exact (hj.each i (by omega)).only (fun k q e=>by have:=(hj.lo i (by omega) k q).1;omega) o
 ·rw [put1_len] at hi
  rw [put1_at hi,if_pos (by omega)];exact h.lv i hi
 ·rw [put1_len] at hi
  rw [put1_at hi,if_pos (by omega)];exact h.rt i hi
 ·rw [put1_len] at hi
  have a:=(hj.lo i (by omega) k q).1;have c:=(hj.each i (by omega)).low k q;have d:=o.size;exact .inr ⟨a,by omega⟩
 ·rw [put1_len] at hi hj'
  exact hj.dis i j (by omega) (by omega) hij k q
 ·rw [put1_len] at hi
  have a:=(hj.lo i (by omega) k q).1;have c1:=h.slt;have c2:=h.pr.lt;exact ⟨by omega,by omega,fun e=>by have:=h.low k (h.fv k (.inl e));omega,fun e=>by have:=h.low k (h.fv k (.inr e));omega⟩
end
end Go.Proofs.YtljnkaodhfnbbaaGreatDoor.Cu
