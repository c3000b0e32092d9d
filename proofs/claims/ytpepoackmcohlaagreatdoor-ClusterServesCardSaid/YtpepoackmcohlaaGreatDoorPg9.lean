import Derived.Test.YtpepoackmcohlaaGreatDoorPg8
import Derived.Shelf.SlicesE.Kit
set_option maxRecDepth 100000
set_option maxHeartbeats 4000000
namespace Go.Proofs.YtpepoackmcohlaaGreatDoor
open Go.Proofs.Tryz
open Ck (Hd KS LL bZ kF sE sl tE vN zh)
open Fl (ah aj)
open Fs (Fx St aG aU ay eB)
open Pa (Cj Hr K2 KB KN aN aV bG bU bX iD jF ni ptr qw)
open Ro (E5 K5)
open Rw (Kind Ow Rd)
namespace Cu
open Go.RowKit
open Rw (At)
open Pa (dx)
open Re (KI gU qh qb wO)
attribute [local irreducible] Sd.bA wpQuiet
def er (a:Option (Int×Int)):Value:=match a with | none=>.nilIface | some x=>kQ x.1 x.2
def KE:Rw.Kind (Option (Int×Int)):=⟨fun a=>[er a],1,by decide,fun _=>rfl,fun a u h=>by simp at h;subst h;cases a <;> rfl,none⟩
theorem qQ:(prog.info? 111).map (fun i=>(i.zero,i.size,i.bytes))=some (some .nilIface,1,16):=by kernel_rfl
theorem join_none (w:World) (b:Nat) (h0:w.cell? ⟨b,0,none⟩=some .nilIface) (h1:w.cell? ⟨b,1,none⟩=some .nilIface):Calls prog 51 #[.slice (some ⟨b,0,none⟩) 2 2] w fun e w'=>e = .returned .nilIface/\Below w.heap.size w w':=by
 go_enter func51,ntmps51
 go_wp2;refine wp_loop_rounds 3 ?_;rw [rounds_succ];go_wp2;rw [rounds_succ];go_wp2;rw [rounds_succ];go_wp2
 go_ret
 exact ⟨rfl,aa _ _⟩
structure JI (w:World) (g6:Nat) (v:Value) (l:List (Option (Int×Int))) (wr:World):Prop where
 row:wr.heap[g6]? = some (.cells #[v] 155 (0,0))
 own:Ow KE wr w.heap.size 111 v l
 aI:Below w.heap.size w wr
 lo:w.heap.size<=g6
variable {w w1 w2:World} {g6:Nat} {v v':Value} {l l':List (Option (Int×Int))}
theorem JI.push (h:JI w g6 v l w1) (own:Ow KE w2 w.heap.size 111 v' l') (gr:w1.grownBy w2 v.ownBlock):w2.heap[g6]? = some (.cells #[v] 155 (0,0))/\JI w g6 v' l' (w2.setCell ⟨g6,0,none⟩ v'):=by
 have r2:=(gr.block g6 (bm h.row) (fun e=>h.own.apart h.row (by decide) e.symm)).trans h.row;have b2:=h.aI.grown gr h.aI.size fun j e=>(ci h.own j e).1;exact ⟨r2,Rw.aB (j:=0) r2 v',own.far (p:=⟨g6,0,none⟩) r2 (by decide) _,b2.setCell h.lo _,h.lo⟩
theorem JI.below (h:JI w g6 v l w1) (b:Below w1.heap.size w1 w2):JI w g6 v l w2:=⟨(b.block g6 (bm h.row)).trans h.row,h.own.keep b,h.aI.trans (b.mono h.aI.size),h.lo⟩
theorem adj (w:World) (b:Nat) (n0 z0:Int) (h0:w.cell? ⟨b,0,none⟩=some (kQ n0 z0)) (h1:w.cell? ⟨b,1,none⟩=some .nilIface):Calls prog 51 #[.slice (some ⟨b,0,none⟩) 2 2] w fun e w'=>(∃ p,e = .returned (.iface 153 (.pointer (some p))))/\Below w.heap.size w w':=by
 have H0:=Hh h0;have H1:=Hh h1;obtain ⟨i0,hi0,hz0,hz1,hz2⟩:=ew qQ;unfold kQ Ma at *
 go_enter func51,ntmps51
 go_wp2;refine wp_loop_rounds 3 ?_;rw [rounds_succ];go_wp2;rw [rounds_succ];go_wp2;rw [rounds_succ]
 go_wp2_with (at_make;refine wpList_make_own _ rfl _ _ _ rfl w.heap.size 111 i0 .nilIface 1 underlying152 hi0 hz0 hz1 .i64 .i64 1 1 rfl rfl rfl (by rw [hz2];decide) (by unfold maxLen;decide) (ac _) ?_)
 intro w2 ow2 gr2
 have B2:=Below.grown (aa w.heap.size w) gr2 (ac _) (fun j e=>by cases e);have J0:Hid (JI w w2.heap.size (.slice (some ⟨w.heap.size,0,none⟩) 0 1) [] (w2.alloc (.cells #[.slice (some ⟨w.heap.size,0,none⟩) 0 1] 155))):=Hh ⟨bc w2 _,fY ow2 _,B2.alloc B2.size _,B2.size⟩;clear ow2 gr2 B2 h0 h1 hi0 hz0 hz1 hz2;go_upto_region 11 with fail;generalize (w2.alloc (.cells #[.slice (some ⟨w.heap.size,0,none⟩) 0 1] 155))=wa at *;generalize w2.heap.size=g6 at *;have k0:=iI J0.aI H0;go_wp2;refine wp_loop_rounds 3 ?_;rw [rounds_succ];have c6:=ah J0.row 0;have J0a:=Hh (J0.below ((aa wa.heap.size wa).alloc (ac _) (.cells #[.iface 151 (.agg #[.int .i64 n0,.iface 25 (.int .i64 z0)])] 111)))
 go_wp2_with (at_builtin;refine dx (K:=KE) underlying152 qQ rfl (by omega) rfl _ _ rfl w.heap.size _ _ rfl J0a.out.own _ (some (n0,z0)) rfl ?d1 ?d2 ?d3 ?_)
 case d1 =>
  intro j u hu
  match j,hu with
  | 0,hu=>simp [KE,er,kQ,Ma] at hu;subst hu;go_simp
  | j+1,hu=>simp [KE] at hu
 case d2=>simp
 case d3=>exact J0a.aI.size
 intro v0 wb0 o0 gr0 _
 obtain ⟨r0,j0⟩:=J0a.push o0 (by simpa using gr0);have J0b:=Hh j0;have c6':=ah r0 0;have f6':=aj r0 0;obtain ⟨av0,cv0,ev0,_⟩:=o0.slice;clear o0 gr0 j0 J0 J0a c6 k0;generalize List.length _=lv0 at ev0;subst ev0;have k0:=iI J0b.aI H1;go_upto_region 12 with fail;clear c6' f6' r0;generalize (wb0.setCell ⟨g6,0,none⟩ (.slice av0 lv0 cv0))=wc0 at *;rw [rounds_succ];have E:=Hh J0b.aI;go_wp2;rw [rounds_succ];go_wp2
 go_ret
 exact ⟨⟨_,rfl⟩,E⟩
theorem acK (w:World) (b:Nat) (n1 z1:Int) (h0:w.cell? ⟨b,0,none⟩=some .nilIface) (h1:w.cell? ⟨b,1,none⟩=some (kQ n1 z1)):Calls prog 51 #[.slice (some ⟨b,0,none⟩) 2 2] w fun e w'=>(∃ p,e = .returned (.iface 153 (.pointer (some p))))/\Below w.heap.size w w':=by
 have H0:=Hh h0;have H1:=Hh h1;obtain ⟨i0,hi0,hz0,hz1,hz2⟩:=ew qQ;unfold kQ Ma at *
 go_enter func51,ntmps51
 go_wp2;refine wp_loop_rounds 3 ?_;rw [rounds_succ];go_wp2;rw [rounds_succ];go_wp2;rw [rounds_succ]
 go_wp2_with (at_make;refine wpList_make_own _ rfl _ _ _ rfl w.heap.size 111 i0 .nilIface 1 underlying152 hi0 hz0 hz1 .i64 .i64 1 1 rfl rfl rfl (by rw [hz2];decide) (by unfold maxLen;decide) (ac _) ?_)
 intro w2 ow2 gr2
 have B2:=Below.grown (aa w.heap.size w) gr2 (ac _) (fun j e=>by cases e);have J0:Hid (JI w w2.heap.size (.slice (some ⟨w.heap.size,0,none⟩) 0 1) [] (w2.alloc (.cells #[.slice (some ⟨w.heap.size,0,none⟩) 0 1] 155))):=Hh ⟨bc w2 _,fY ow2 _,B2.alloc B2.size _,B2.size⟩;clear ow2 gr2 B2 h0 h1 hi0 hz0 hz1 hz2;go_upto_region 11 with fail;generalize (w2.alloc (.cells #[.slice (some ⟨w.heap.size,0,none⟩) 0 1] 155))=wa at *;generalize w2.heap.size=g6 at *;have k0:=iI J0.aI H0;go_wp2;refine wp_loop_rounds 3 ?_;rw [rounds_succ];go_wp2;clear k0;have k0:=iI J0.aI H1;rw [rounds_succ];have c6:=ah J0.row 0;have J1a:=Hh (J0.below ((aa wa.heap.size wa).alloc (ac _) (.cells #[.iface 151 (.agg #[.int .i64 n1,.iface 25 (.int .i64 z1)])] 111)))
 go_wp2_with (at_builtin;refine dx (K:=KE) underlying152 qQ rfl (by omega) rfl _ _ rfl w.heap.size _ _ rfl J1a.out.own _ (some (n1,z1)) rfl ?d1 ?d2 ?d3 ?_)
 case d1 =>
  intro j u hu
  match j,hu with
  | 0,hu=>simp [KE,er,kQ,Ma] at hu;subst hu;go_simp
  | j+1,hu=>simp [KE] at hu
 case d2=>simp
 case d3=>exact J1a.aI.size
 intro v1 wb1 o1 gr1 _
 obtain ⟨r1,j1⟩:=J1a.push o1 (by simpa using gr1);have J1b:=Hh j1;have c6':=ah r1 0;have f6':=aj r1 0;obtain ⟨av1,cv1,ev1,_⟩:=o1.slice;clear o1 gr1 j1 J0 J1a c6 k0;generalize List.length _=lv1 at ev1;subst ev1;have E:=Hh J1b.aI;clear r1 J1b;go_wp2;rw [rounds_succ];go_wp2
 go_ret
 exact ⟨⟨_,rfl⟩,E⟩
theorem acp (w:World) (b:Nat) (n0 z0:Int) (n1 z1:Int) (h0:w.cell? ⟨b,0,none⟩=some (kQ n0 z0)) (h1:w.cell? ⟨b,1,none⟩=some (kQ n1 z1)):Calls prog 51 #[.slice (some ⟨b,0,none⟩) 2 2] w fun e w'=>(∃ p,e = .returned (.iface 153 (.pointer (some p))))/\Below w.heap.size w w':=by
 have H0:=Hh h0;have H1:=Hh h1;obtain ⟨i0,hi0,hz0,hz1,hz2⟩:=ew qQ;unfold kQ Ma at *
 go_enter func51,ntmps51
 go_wp2;refine wp_loop_rounds 3 ?_;rw [rounds_succ];go_wp2;rw [rounds_succ];go_wp2;rw [rounds_succ]
 go_wp2_with (at_make;refine wpList_make_own _ rfl _ _ _ rfl w.heap.size 111 i0 .nilIface 1 underlying152 hi0 hz0 hz1 .i64 .i64 2 2 rfl rfl rfl (by rw [hz2];decide) (by unfold maxLen;decide) (ac _) ?_)
 intro w2 ow2 gr2
 have B2:=Below.grown (aa w.heap.size w) gr2 (ac _) (fun j e=>by cases e);have J0:Hid (JI w w2.heap.size (.slice (some ⟨w.heap.size,0,none⟩) 0 2) [] (w2.alloc (.cells #[.slice (some ⟨w.heap.size,0,none⟩) 0 2] 155))):=Hh ⟨bc w2 _,fY ow2 _,B2.alloc B2.size _,B2.size⟩;clear ow2 gr2 B2 h0 h1 hi0 hz0 hz1 hz2;go_upto_region 11 with fail;generalize (w2.alloc (.cells #[.slice (some ⟨w.heap.size,0,none⟩) 0 2] 155))=wa at *;generalize w2.heap.size=g6 at *;have k0:=iI J0.aI H0;go_wp2;refine wp_loop_rounds 3 ?_;rw [rounds_succ];have c6:=ah J0.row 0;have J0a:=Hh (J0.below ((aa wa.heap.size wa).alloc (ac _) (.cells #[.iface 151 (.agg #[.int .i64 n0,.iface 25 (.int .i64 z0)])] 111)))
 go_wp2_with (at_builtin;refine dx (K:=KE) underlying152 qQ rfl (by omega) rfl _ _ rfl w.heap.size _ _ rfl J0a.out.own _ (some (n0,z0)) rfl ?d1 ?d2 ?d3 ?_)
 case d1 =>
  intro j u hu
  match j,hu with
  | 0,hu=>simp [KE,er,kQ,Ma] at hu;subst hu;go_simp
  | j+1,hu=>simp [KE] at hu
 case d2=>simp
 case d3=>exact J0a.aI.size
 intro v0 wb0 o0 gr0 _
 obtain ⟨r0,j0⟩:=J0a.push o0 (by simpa using gr0);have J0b:=Hh j0;have c6':=ah r0 0;have f6':=aj r0 0;obtain ⟨av0,cv0,ev0,_⟩:=o0.slice;clear o0 gr0 j0 J0 J0a c6 k0;generalize List.length _=lv0 at ev0;subst ev0;have k0:=iI J0b.aI H1;go_upto_region 12 with fail;clear c6' f6' r0;generalize (wb0.setCell ⟨g6,0,none⟩ (.slice av0 lv0 cv0))=wc0 at *;rw [rounds_succ];have c6:=ah J0b.row 0;have J1a:=Hh (J0b.below ((aa wc0.heap.size wc0).alloc (ac _) (.cells #[.iface 151 (.agg #[.int .i64 n1,.iface 25 (.int .i64 z1)])] 111)))
 go_wp2_with (at_builtin;refine dx (K:=KE) underlying152 qQ rfl (by omega) rfl _ _ rfl w.heap.size _ _ rfl J1a.out.own _ (some (n1,z1)) rfl ?d1 ?d2 ?d3 ?_)
 case d1 =>
  intro j u hu
  match j,hu with
  | 0,hu=>simp [KE,er,kQ,Ma] at hu;subst hu;go_simp
  | j+1,hu=>simp [KE] at hu
 case d2=>simp
 case d3=>exact J1a.aI.size
 intro v1 wb1 o1 gr1 _
 obtain ⟨r1,j1⟩:=J1a.push o1 (by simpa using gr1);have J1b:=Hh j1;have c6':=ah r1 0;have f6':=aj r1 0;obtain ⟨av1,cv1,ev1,_⟩:=o1.slice;clear o1 gr1 j1 J0b J1a c6 k0;generalize List.length _=lv1 at ev1;subst ev1;have E:=Hh J1b.aI;clear r1 J1b;go_wp2;rw [rounds_succ];go_wp2
 go_ret
 exact ⟨⟨_,rfl⟩,E⟩
open Fl (aC)
open Pa (S2)
open Re (Bj sN sL fI bM)
theorem Lx (w:World) (v v':Value) (l l':List Int) (R:Rd KI w v l) (R':Rd KI w v' l'):Calls prog 52 #[v,v'] w fun e w'=>e = .returned (.bool (decide (l=l')))/\Below w.heap.size w w':=by
 have HNO:Hid (¬ l=l'->false=decide (l=l')):=Hh (fun h=>(ai h).symm);have HYES:Hid (l=l'->true=decide (l=l')):=Hh (fun b=>(bj b).symm);have HL:Hid (l.length=l'.length->(∀ i,i < l.length->gU l i=gU l' i)->l=l'):=Hh (fun a b=>wO a b);obtain ⟨a,cap,rfl,_,hm,hA⟩:=R;obtain ⟨a',cap',rfl,_,hm',hA'⟩:=R';have HA:=Hh hA;have HA':=Hh hA';unfold maxLen at hm hm';clear hA hA';have HNE:Hid (l.length≠l'.length->¬ (l=l')):=Hh (fun h2 h=>h2 (by rw [h]));generalize hq:decide (l=l')=q at *;clear hq;generalize hn:l.length=n at *;generalize hn':l'.length=n' at *;have HN:=Hh hn;have HN':=Hh hn';clear hn hn'
 by_cases h2:n=n'
 ·subst h2
  go_enter func52,ntmps52
  go_wp2
  go_loopw [13] (fun i wr=>∃ k:Nat,k<=n/\i = .int .i64 k/\Hid (Below w.heap.size w wr)/\Hid (∀ i,i < k->gU l i=gU l' i)) (fun i _=>n - (intOf i).toNat)
  case atStart=>exact ⟨0,cg _,rfl,Hh (aa _ _),Hh (fun i hi=>by omega)⟩
  case round =>
   obtain ⟨j,hj,rfl,bw,hs⟩:=hrel
   by_cases hlt:j < n
   ·obtain ⟨b,off,rfl,A⟩:=HA (by omega)
    obtain ⟨b',off',rfl,A'⟩:=HA' (by omega);have c0:=Re.qh (A.below bw) j (by have:=HN.out;omega);have d0:=Re.qh (A'.below bw) j (by have:=HN'.out;omega);have HAA:=Hh A;have HAA':=Hh A';clear A A'
    by_cases he:gU l j=gU l' j
    ·have ST:Hid (∀ i,i < j+1->gU l i=gU l' i):=Hh (fun i hi=>by
      by_cases e:i=j
      ·rw [e];exact he
      ·exact hs i (by omega))
     have es:(gU l j != gU l' j)=false:=by simp [he]
     clear he;generalize gU l j=r at *;generalize gU l' j=r' at *;go_wp2
     go_quiet (fail)
     go_wp2
     go_roundw
     case rel=>exact ⟨j+1,by omega,by go_num,Hh (da bw.out _),ST⟩
     case measure=>simp [intOf];omega
    ·have E:=Hh (HNO (fun h=>he (by rw [h])))
     have es:(gU l j != gU l' j)=true:=by simp [he]
     clear he;generalize gU l j=r at *;generalize gU l' j=r' at *;go_wp2
     go_quiet (fail)
     go_wp2
     go_ret
     exact ⟨aC E,da bw _⟩
   ·have E:=Hh (HYES (HL (by trivial) (fun i hi=>hs.out i (by have:=HN.out;omega))))
    go_wp2
    go_ret
    exact ⟨aC E,bw⟩
 ·have E:=Hh (HNO (HNE h2))
  have q1:((n:Int) != (n':Int))=true:=by simp;omega
  clear HNO HYES HL HNE HA HA'
  go_enter func52,ntmps52
  go_wp2
  go_ret
  exact ⟨aC E,aa _ _⟩
def agB (A B:aU):Bool:=qF A && qF B && decide (jT A=jT B)
section
variable {s t p:Nat} {F G:Nat->Prop} {c:Cs} {vn vq:Value} {L:List Nd} {Fs:Nat->Nat->Prop} {w w':World}
theorem F8 (h:Cl w s F c t vn L p vq Fs) (hn:2<=c.S.length):Calls prog 24 #[ptr s] w fun e w'=>e = .returned (.bool (agB (aN c.S 0).1 (aN c.S 1).1))/\Below w.heap.size w w':=by
 have C1:=Hh (mH h (nn:=0) (by omega));have C2:=Hh (fun w1 b=>mH (h.below (w':=w1) b) (nn:=1) (by omega));have AG:Hid (agB (aN c.S 0).1 (aN c.S 1).1=(qF (aN c.S (0:Nat)).1 && qF (aN c.S (1:Nat)).1 && decide (jT (aN c.S (0:Nat)).1=jT (aN c.S (1:Nat)).1))):=Hh rfl;clear h;generalize agB (aN c.S 0).1 (aN c.S 1).1=ag at *;generalize (aN c.S (0:Nat)).1=A at *;generalize (aN c.S (1:Nat)).1=B at *;unfold SqC ptr at *
 go_enter func24,ntmps24
 go_wp2_with fail;refine C1.mono ?_;rintro e w1 ⟨b1,hc1⟩;have D2:=Hh (C2 w1 b1);have B1:=Hh b1;clear C1 C2 b1
 rcases hc1 with ⟨hs1,u1,rfl,r1⟩ | ⟨hs1,rfl⟩
 ·have R1:=Hh r1
  obtain ⟨a1,c1,rfl,_⟩:=r1.slice;clear r1;generalize hl1:(jT A).length=n1 at *;clear hl1;go_wp2_with fail;refine D2.mono ?_;rintro e w2 ⟨b2,hc2⟩;have B2:=aW B1 b2;have R1':=Hh (R1.below b2);clear D2 B1 R1 b2
  rcases hc2 with ⟨hs2,u2,rfl,r2⟩ | ⟨hs2,rfl⟩
  ·have R2:=Hh r2
   obtain ⟨a2,c2,rfl,_⟩:=r2.slice;clear r2;generalize hl2:(jT B).length=n2 at *;clear hl2;rw [hs1,hs2] at AG;have BA:=Hh ((aa w2.heap.size w2).alloc (ac _) (.cells #[.nilIface,.nilIface] 111));have X0:=Hh (bc w2 (.cells #[.nilIface,.nilIface] 111));have J:=Hh (join_none (w2.alloc (.cells #[.nilIface,.nilIface] 111)) w2.heap.size (ah X0 0) (ah X0 1));have B3:=aW B2 BA;have R1a:=Hh (R1'.below BA);have R2a:=Hh (R2.below BA);clear hs1 hs2 R1' R2 B2 X0;go_wp2_with fail;refine J.mono ?_;rintro e w3 ⟨rfl,b3⟩;have EQ:=Hh (Lx w3 _ _ _ _ (R1a.below b3) (R2a.below b3));have B4:=aW B3 b3;clear J b3 R1a R2a B3 BA;go_wp2_with fail;refine EQ.mono ?_;rintro e w4 ⟨rfl,b4⟩;have E:Hid (decide (jT A=jT B)=ag/\Below w.heap.size w w4):=Hh ⟨by rw [AG.out];rfl,aW B4 b4⟩;clear EQ b4 B4 AG;generalize decide (jT A=jT B)=dd at *;go_wp2
   go_ret
   exact ⟨aC E.out.1,E.out.2⟩
  ·rw [hs1,hs2] at AG
   unfold kQ Ma at *;have BA:=Hh ((aa w2.heap.size w2).alloc (ac _) (.cells #[.nilIface,.iface 151 (.agg #[.int .i64 1,.iface 25 (.int .i64 2)])] 111));have X0:=Hh (bc w2 (.cells #[.nilIface,.iface 151 (.agg #[.int .i64 1,.iface 25 (.int .i64 2)])] 111));have J:=Hh (acK (w2.alloc (.cells #[.nilIface,.iface 151 (.agg #[.int .i64 1,.iface 25 (.int .i64 2)])] 111)) w2.heap.size 1 2 (ah X0 0) (ah X0 1));have B3:=aW B2 BA;have E:=Hh (show ag=false by rw [AG.out];rfl);clear hs1 hs2 R1' B2 X0 AG;go_wp2_with fail;refine J.mono ?_;rintro e w3 ⟨⟨pp,rfl⟩,b3⟩;have B4:=aW B3 b3;clear J b3 B3 BA;go_wp2
   go_ret
   exact ⟨aC E.symm,B4⟩
 ·go_wp2_with fail
  refine D2.mono ?_;rintro e w2 ⟨b2,hc2⟩;have B2:=aW B1 b2;clear D2 B1 b2
  rcases hc2 with ⟨hs2,u2,rfl,r2⟩ | ⟨hs2,rfl⟩
  ·obtain ⟨a2,c2,rfl,_⟩:=r2.slice
   clear r2;generalize hl2:(jT B).length=n2 at *;clear hl2;rw [hs1,hs2] at AG;unfold kQ Ma at *;have BA:=Hh ((aa w2.heap.size w2).alloc (ac _) (.cells #[.iface 151 (.agg #[.int .i64 0,.iface 25 (.int .i64 2)]),.nilIface] 111));have X0:=Hh (bc w2 (.cells #[.iface 151 (.agg #[.int .i64 0,.iface 25 (.int .i64 2)]),.nilIface] 111));have J:=Hh (adj (w2.alloc (.cells #[.iface 151 (.agg #[.int .i64 0,.iface 25 (.int .i64 2)]),.nilIface] 111)) w2.heap.size 0 2 (ah X0 0) (ah X0 1));have B3:=aW B2 BA;have E:=Hh (show ag=false by rw [AG.out];rfl);clear hs1 hs2 B2 X0 AG;go_wp2_with fail;refine J.mono ?_;rintro e w3 ⟨⟨pp,rfl⟩,b3⟩;have B4:=aW B3 b3;clear J b3 B3 BA;go_wp2
   go_ret
   exact ⟨aC E.symm,B4⟩
  ·rw [hs1,hs2] at AG
   unfold kQ Ma at *;have BA:=Hh ((aa w2.heap.size w2).alloc (ac _) (.cells #[.iface 151 (.agg #[.int .i64 0,.iface 25 (.int .i64 2)]),.iface 151 (.agg #[.int .i64 1,.iface 25 (.int .i64 2)])] 111));have X0:=Hh (bc w2 (.cells #[.iface 151 (.agg #[.int .i64 0,.iface 25 (.int .i64 2)]),.iface 151 (.agg #[.int .i64 1,.iface 25 (.int .i64 2)])] 111));have J:=Hh (acp (w2.alloc (.cells #[.iface 151 (.agg #[.int .i64 0,.iface 25 (.int .i64 2)]),.iface 151 (.agg #[.int .i64 1,.iface 25 (.int .i64 2)])] 111)) w2.heap.size 0 2 1 2 (ah X0 0) (ah X0 1));have B3:=aW B2 BA;have E:=Hh (show ag=false by rw [AG.out];rfl);clear hs1 hs2 B2 X0 AG;go_wp2_with fail;refine J.mono ?_;rintro e w3 ⟨⟨pp,rfl⟩,b3⟩;have B4:=aW B3 b3;clear J b3 B3 BA;go_wp2
   go_ret
   exact ⟨aC E.symm,B4⟩
end
theorem Wk (L:List Pl) (h:2<=L.length):agB (aN (bT L).S 0).1 (aN (bT L).S 1).1=true↔agree L:=by
 have s0:(aN (bT L).S 0).1=(dP L 0).1:=by rw [show aN (bT L).S 0=_ from rY (L:=L) (i:=0) (by omega)]
 have s1:(aN (bT L).S 1).1=(dP L 1).1:=by rw [show aN (bT L).S 1=_ from rY (L:=L) (i:=1) (by omega)]
 rw [s0,s1];unfold agB agree;generalize (dP L 0).1=A;generalize (dP L 1).1=B;have F:∀ A:aU,qF A=true->Bj (fP A 40) (fR A 40)/\jT A=fI (fR A 40)/\fB A 40=true:=fun A h=>by
  unfold qF at h;rw [ce,cL] at h;obtain ⟨h1,h2⟩:=h;have i:Bj (fP A 40) (fR A 40):=by
   unfold sN at h2
   split at h2
   ·assumption
   ·omega
  exact ⟨i,(Re.Da i).1,h1⟩
 rw [ce,ce,cL]
 constructor
 ·rintro ⟨⟨hA,hB⟩,he⟩
  obtain ⟨iA,tA,_⟩:=F A hA;obtain ⟨iB,tB,bB⟩:=F B hB;refine ⟨hA,bB,by rw [iA.2.2.1,iB.2.2.1],?_⟩;rw [iA.2.2.2,iB.2.2.2,← tA,← tB,he]
 ·rintro ⟨hA,hB,hp,hr⟩
  obtain ⟨iA,tA,_⟩:=F A hA;have hB':qF B=true:=by
   unfold qF;rw [hB,← hp,← hr,(Re.Da iA).2]
   rfl
  refine ⟨⟨hA,hB'⟩,?_⟩;obtain ⟨_,tB,_⟩:=F B hB';rw [tA,tB,hr]
end Cu
namespace Tk
def fr (A:Nat->Int):Nat->Int
 | 0=>0
 | k+1=>A k
def rt (R:Nat->Int):Nat->Int
 | 0=>0
 | k+1=>R k
def sm (A R:Nat->Int):Nat->Int
 | 0=>0
 | k+1=>sm A R k+(A k - fr A k) * (1000000+rt R k)
def gM (A:Nat->Int) (n:Nat) (t:Int) (k:Nat):Prop:=k<=n/\(∀ i,i < k->A i < t)/\(k < n->t<=A k)
variable {A R:Nat->Int} {n k j:Nat} {t:Int}
theorem gM.uniq (h:gM A n t k) (g:gM A n t j):k=j:=by
 obtain ⟨h1,h2,h3⟩:=h;obtain ⟨g1,g2,g3⟩:=g
 rcases Nat.lt_trichotomy k j with c | c | c
 ·have a:=h3 (by omega);have b:=g2 k c;omega
 ·exact c
 ·have a:=g3 (by omega);have b:=h2 j c;omega
theorem gM.ex (A:Nat->Int) (n:Nat) (t:Int):∃ k,gM A n t k:=by
 induction n with
 | zero=>exact ⟨0,ac _,fun i h=>by omega,fun h=>by omega⟩
 | succ n ih =>
   obtain ⟨k,h1,h2,h3⟩:=ih
   by_cases hk:k < n
   ·exact ⟨k,by omega,h2,fun _=>h3 hk⟩
   ·obtain rfl:k=n:=by omega
    by_cases ha:A k < t
    ·refine ⟨k+1,by omega,fun i hi=>?_,fun h=>by omega⟩
     by_cases e:i=k
     ·subst e;exact ha
     ·exact h2 i (by omega)
    ·exact ⟨k,by omega,h2,fun _=>by omega⟩
noncomputable def stop (A:Nat->Int) (n:Nat) (t:Int):Nat:=(gM.ex A n t).choose
theorem yL (A:Nat->Int) (n:Nat) (t:Int):gM A n t (stop A n t):=(gM.ex A n t).choose_spec
theorem aaZ (h:gM A n t k):stop A n t=k:=(yL A n t).uniq h
def pp (A R:Nat->Int) (k:Nat) (t:Int):Int:=sm A R k+(t - fr A k) * (1000000+rt R k)
noncomputable def PP (A R:Nat->Int) (n:Nat) (t:Int):Int:=pp A R (stop A n t) t
theorem sH (h:gM A n t k):PP A R n t=pp A R k t:=by rw [PP,aaZ h]
def kR (t:Int):Int:=if t < 0 then 0 else if 4294967296 < t then 4294967296 else t
theorem Ym (t:Int):0<=kR t:=by unfold kR;split <;> (try split) <;> omega
theorem Xv (t:Int):kR t<=4294967296:=by unfold kR;split <;> (try split) <;> omega
theorem iw (h:0<=t) (h':t<=4294967296):kR t=t:=by unfold kR;split <;> (try split) <;> omega
noncomputable def Loc (A R:Nat->Int) (n:Nat) (t:Int):Int:=PP A R n (kR t) / 1000000
structure bN (n:Nat) (A R:Nat->Int):Prop where
 len:n<=64
 at_:∀ i,i < n->0<=A i/\A i<=4294967296
 rate:∀ i,i < n->-20000<=R i/\R i<=20000
 up:∀ i,i+1 < n->A i < A (i+1)
noncomputable def eD (n:Nat) (A R:Nat->Int):Bool:=@decide (bN n A R) (Classical.propDecidable _)
theorem kW : eD n A R=true↔bN n A R:=by unfold eD;exact @decide_eq_true_iff _ (Classical.propDecidable _)
theorem wK (h:bN n A R):eD n A R=true:=kW.2 h
theorem Ab (h:¬ bN n A R):eD n A R=false:=by
 cases e:eD n A R with
 | false=>rfl
 | true=>exact absurd (kW.1 e) h
section
variable {n:Nat} {A R:Nat->Int}
theorem Jh (g:bN n A R) (k:Nat) (h:k<=n) : -20000<=rt R k/\rt R k<=20000:=by
 cases k with
 | zero=>exact ⟨by simp [rt],by simp [rt]⟩
 | succ k=>exact g.rate k (by omega)
theorem abM (g:bN n A R) (k:Nat) (h:k<=n):0<=fr A k/\fr A k<=4294967296:=by
 cases k with
 | zero=>exact ⟨by simp [fr],by simp [fr]⟩
 | succ k=>exact g.at_ k (by omega)
theorem abf (g:bN n A R) (k:Nat) (h:k < n):fr A k<=A k:=by
 cases k with
 | zero=>exact (g.at_ 0 h).1
 | succ k=>exact Int.le_of_lt (g.up k h)
variable {d c u:Int}
theorem LG (h:0<=d) (h1:980000<=c) (h2:c<=1020000):d * 980000<=d * c/\d * c<=d * 1020000 :=
 ⟨Int.mul_le_mul_of_nonneg_left h1 h,Int.mul_le_mul_of_nonneg_left h2 h⟩
theorem abA (g:bN n A R) (k:Nat) (h:k<=n):fr A k * 980000<=sm A R k/\sm A R k<=fr A k * 1020000:=by
 induction k with
 | zero=>simp [fr,sm]
 | succ k ih =>
   have i:=ih (by omega);have b:=Jh g k (by omega);have f:=abf g k (by omega);have m:=LG (d:=A k - fr A k) (c:=1000000+rt R k) (by omega) (by omega) (by omega)
   show A k * 980000<=sm A R k+(A k - fr A k) * (1000000+rt R k)/\sm A R k+(A k - fr A k) * (1000000+rt R k)<=A k * 1020000
   generalize (A k - fr A k) * (1000000+rt R k)=z at m ⊢
   omega
theorem aeS (g:bN n A R) (k:Nat) (h:k<=n) (t:Int) (ht:fr A k<=t):t * 980000<=pp A R k t/\pp A R k t<=t * 1020000:=by
 have i:=abA g k h;have b:=Jh g k h;have m:=LG (d:=t - fr A k) (c:=1000000+rt R k) (by omega) (by omega) (by omega);unfold pp;generalize (t - fr A k) * (1000000+rt R k)=z at m ⊢
 omega
theorem EI (h0:0<=t) (h:gM A n t k):fr A k<=t:=by
 cases k with
 | zero=>exact h0
 | succ k=>exact Int.le_of_lt (h.2.1 k (by omega))
theorem C8 (g:bN n A R) (t:Int) (h0:0<=t):t * 980000<=PP A R n t/\PP A R n t<=t * 1020000:=by
 have s:=yL A n t;exact aeS g _ s.1 t (EI h0 s)
theorem Of (g:bN n A R) (t:Int):∃ c,980000<=c/\c<=1020000/\PP A R n (t+1)=PP A R n t+c:=by
 have s:=yL A n t;generalize hk:stop A n t=k at s;obtain ⟨s1,s2,s3⟩:=s;rw [sH ⟨s1,s2,s3⟩]
 by_cases hn:k < n/\A k < t+1
 ·obtain ⟨hn,ha⟩:=hn
  have e:A k=t:=by have:=s3 hn;omega
  have st:gM A n (t+1) (k+1):=by
   refine ⟨hn,fun i hi=>?_,fun h=>?_⟩
   ·by_cases c:i=k
    ·subst c;exact ha
    ·have:=s2 i (by omega);omega
   ·have:=g.up k h;omega
  rw [sH st];have b:=g.rate k hn;refine ⟨1000000+R k,by omega,by omega,?_⟩
  show sm A R k+(A k - fr A k) * (1000000+rt R k)+(t+1 - A k) * (1000000+R k)=sm A R k+(t - fr A k) * (1000000+rt R k)+(1000000+R k)
  rw [e,show t+1 - t=1 by omega,Int.one_mul]
 ·have st:gM A n (t+1) k:=by
   refine ⟨s1,fun i hi=>?_,fun h=>?_⟩
   ·have:=s2 i hi;omega
   ·have:=s3 h;omega
  rw [sH st];have b:=Jh g k s1;refine ⟨1000000+rt R k,by omega,by omega,?_⟩;unfold pp;rw [show t+1 - fr A k=(t - fr A k)+1 by omega,Int.add_mul,Int.one_mul]
  omega
theorem qA (g:bN n A R):PP A R n 0=0:=by have:=C8 g 0 (by decide);omega
theorem acB (g:bN n A R) (t:Int) (d:Nat):PP A R n t+980000 * d<=PP A R n (t+d)/\PP A R n (t+d)<=PP A R n t+1020000 * d:=by
 induction d with
 | zero=>simp
 | succ d ih =>
   obtain ⟨c,c1,c2,e⟩:=Of g (t+d);rw [show t+((d+1:Nat):Int)=t+d+1 by omega,e]
   omega
theorem Ec (g:bN n A R) (h:t<=u):PP A R n t<=PP A R n u:=by
 have:=(acB g t (u - t).toNat).1;rw [show t+((u - t).toNat:Int)=u by omega] at this
 omega
theorem Mr (h:t<=u):kR t<=kR u:=by unfold kR;repeat' split <;> omega
theorem Yp (g:bN n A R) (h:t<=u):Loc A R n t<=Loc A R n u:=by
 unfold Loc;have:=Ec g (Mr h)
 omega
theorem VA (g:bN n A R) (t:Int) (h0:0<=t) (h1:t<=4294967296):Loc A R n t<=t+t / 50/\t - t / 50 - 1<=Loc A R n t:=by
 unfold Loc;rw [iw h0 h1];have:=C8 g t h0
 omega
end
structure La (A R:Nat->Int) (n:Nat) (m g:Int):Prop where
 lo:0<=g
 hi:g<=4294967296
 before:∀ t,0<=t->t < g->Loc A R n t < m
 there:g < 4294967296->m<=Loc A R n g
variable {m k:Int}
theorem La.uniq {g:Int} (h:La A R n m g) (i:La A R n m k):g=k:=by
 have a:=h.lo;have b:=h.hi;have c:=i.lo;have d:=i.hi
 rcases Int.lt_trichotomy g k with e | e | e
 ·have x:=h.there (by omega);have y:=i.before g a e;omega
 ·exact e
 ·have x:=i.there (by omega);have y:=h.before k c e;omega
theorem TM (f:Int->Int) (m:Int) (N:Nat):(∃ g:Int,0<=g/\g < N/\(∀ t,0<=t->t < g->f t < m)/\m<=f g)\/(∀ t:Int,0<=t->t < N->f t < m):=by
 induction N with
 | zero=>exact .inr fun t h h'=>by omega
 | succ N ih =>
   rcases ih with ⟨g,g0,g1,g2,g3⟩ | h
   ·exact .inl ⟨g,g0,by omega,g2,g3⟩
   ·by_cases c:f N < m
    ·refine .inr fun t t0 t1=>?_
     by_cases e:t=N
     ·subst e;exact c
     ·exact h t t0 (by omega)
    ·exact .inl ⟨N,by omega,by omega,h,by omega⟩
theorem La.ex (A R:Nat->Int) (n:Nat) (m:Int):∃ g,La A R n m g:=by
 generalize hN:(4294967296:Int).toNat=N;have e:(N:Int)=4294967296:=by omega
 rcases TM (Loc A R n) m N with ⟨g,g0,g1,g2,g3⟩ | h
 ·exact ⟨g,g0,by omega,g2,fun _=>g3⟩
 ·exact ⟨4294967296,by omega,by omega,fun t t0 t1=>h t t0 (by omega),fun h=>by omega⟩
noncomputable def dI (A R:Nat->Int) (n:Nat) (m:Int):Int:=(La.ex A R n m).choose
theorem gZ (A R:Nat->Int) (n:Nat) (m:Int):La A R n m (dI A R n m):=(La.ex A R n m).choose_spec
theorem Ea {g:Int} (h:La A R n m g):dI A R n m=g:=(gZ A R n m).uniq h
theorem La.abb {g:Int} (h0:0<=g) (h1:g<=4294967296) (hl:∀ t,0<=t->t < g->Loc A R n t < m) (hh:g < 4294967296->m<=Loc A R n g):La A R n m g:=⟨h0,h1,hl,hh⟩
end Tk
namespace Sp
open Go.RowKit
abbrev S2:=Int×Int
def fr (l:List S2) (i:Nat):Int:=(l.getD i (0,0)).1
def tp (l:List S2) (i:Nat):Int:=(l.getD i (0,0)).2
def flat:List S2->List Value
 | []=>[]
 | s :: r=>.int .i64 s.1 :: .int .i64 s.2 :: flat r
theorem dQ:∀ l:List S2,(flat l).length=l.length * 2
 | []=>rfl
 | s :: r=>by simp [flat,dQ r];omega
theorem ja:∀ a b:List S2,flat (a ++ b)=flat a ++ flat b
 | [],_=>rfl
 | s :: r,b=>by simp [flat,ja r b]
theorem flat_get:∀ (l:List S2) (i:Nat),i < l.length->(flat l)[i * 2]? = some (.int .i64 (fr l i))/\(flat l)[i * 2+1]? = some (.int .i64 (tp l i))
 | s :: r,0,_=>⟨rfl,rfl⟩
 | s :: r,i+1,h=>by
   have ih:=flat_get r i (by simpa using h);have e:(i+1) * 2=i * 2+1+1:=by omega
   rw [e];exact ih
def At (w:World) (b off:Nat) (l:List S2):Prop:=∀ i,i < l.length->w.cell? ⟨b,off+i * 2,none⟩=some (.int .i64 (fr l i))/\w.cell? ⟨b,off+i * 2+1,none⟩=some (.int .i64 (tp l i))
def Sp (w:World) (v:Value) (l:List S2):Prop:=∃ a cap,v = .slice a l.length cap/\l.length<=cap/\cap<=maxLen/\(0 < l.length->∃ b off,a=some ⟨b,off,none⟩/\At w b off l)
def Own (w:World) (B E:Nat) (v:Value) (l:List S2):Prop:=w.ownsRow B E 2 v l.length (flat l)
variable {w w':World} {b off B E j:Nat} {l:List S2}
theorem At.below (h:At w b off l) (hb:Below w.heap.size w w'):At w' b off l:=fun i hi=>by
 obtain ⟨c1,c2⟩:=h i hi;exact ⟨iI hb c1,iI hb c2⟩
theorem Sp.below {w w':World} {v:Value} {l:List S2} (h:Sp w v l) (hb:Below w.heap.size w w'):Sp w' v l:=by
 obtain ⟨a,cap,e,h1,h2,h3⟩:=h;exact ⟨a,cap,e,h1,h2,fun hp=>by obtain ⟨b,off,ea,hA⟩:=h3 hp;exact ⟨b,off,ea,hA.below hb⟩⟩
theorem Sp.slice {w:World} {v:Value} {l:List S2} (h:Sp w v l):∃ a cap,v = .slice a l.length cap/\cap<=maxLen:=by
 obtain ⟨a,cap,e,_,h2,_⟩:=h;exact ⟨a,cap,e,h2⟩
theorem Own.nil (w:World) (B E:Nat):Own w B E (.slice none 0 0) []:=World.ownsRow_nil _ _ _ _
theorem Own.made (w:World) (B E:Nat) (hB:B<=w.heap.size):Own (w.alloc (.cells #[] E)) B E (.slice (some ⟨w.heap.size,0,none⟩) 0 0) [] :=
 World.ownsRow_made w #[] 0 hB (by unfold maxLen;omega) (by simp)
variable {v v':Value}
theorem Own.sp (h:Own w B E v l):Sp w v l:=by
 have hc:=fun g hg j u=>World.ownsRow.cells h (g:=g) hg j u;obtain ⟨_,h⟩:=h
 rcases h with ⟨rfl,h0⟩ | ⟨g,cap,cur,rfl,_,_,h1,h2,_⟩
 ·exact ⟨none,0,by rw [h0],by omega,by unfold maxLen;omega,fun h=>by omega⟩
 ·refine ⟨_,cap,rfl,h1,h2,fun _=>⟨g,0,rfl,fun i hi=>?_⟩⟩
  obtain ⟨g1,g2⟩:=flat_get l i hi;have c1:=hc g rfl _ _ g1;have c2:=hc g rfl _ _ g2;simp only [Addr.add_lit] at c1 c2;exact ⟨c1,by rw [← Nat.add_assoc] at c2;exact c2⟩
theorem Own.form (h:Own w B E v l) (hl:0 < l.length):∃ g cap,v = .slice (some ⟨g,0,none⟩) l.length cap/\B<=g/\g < w.heap.size/\l.length<=cap/\cap<=maxLen/\w.frozen? ⟨g,0,none⟩=false /\
 (∀ i,i < l.length->w.cell? ⟨g,i * 2,none⟩=some (.int .i64 (fr l i))/\w.cell? ⟨g,i * 2+1,none⟩=some (.int .i64 (tp l i))/\w.frozen? ⟨g,i * 2,none⟩=false/\w.frozen? ⟨g,i * 2+1,none⟩=false):=by
 have hc:=fun g hg j u=>World.ownsRow.cells h (g:=g) hg j u;obtain ⟨_,h⟩:=h
 rcases h with ⟨_,h0⟩ | ⟨g,cap,cur,rfl,hB,hh,h1,h2,_⟩
 ·omega
 ·refine ⟨g,cap,rfl,hB,bm hh,h1,h2,by simp [World.frozen?,hh],fun i hi=>?_⟩
  obtain ⟨g1,g2⟩:=flat_get l i hi;have c1:=hc g rfl _ _ g1;have c2:=hc g rfl _ _ g2;simp only [Addr.add_lit,cQ] at c1 c2;exact ⟨c1,c2,by simp [World.frozen?,hh],by simp [World.frozen?,hh]⟩
theorem Own.slice {w:World} {B E:Nat} {v:Value} {l:List S2} (h:Own w B E v l):∃ a cap,v = .slice a l.length cap/\l.length<=cap/\cap<=maxLen:=by
 obtain ⟨_,h⟩:=h
 rcases h with ⟨rfl,h0⟩ | ⟨g,cap,cur,rfl,_,_,h1,h2,_⟩
 ·exact ⟨none,0,by rw [h0],by omega,by unfold maxLen;omega⟩
 ·exact ⟨_,_,rfl,h1,h2⟩
theorem Own.alloc {w:World} {B E:Nat} {v:Value} {l:List S2} (h:Own w B E v l) (o:Obj):Own (w.alloc o) B E v l:=fY h o
theorem Own.draw (h:Own w B E v l) (n:Nat):Own (w.drewN n) B E v l:=h
theorem Own.keep (h:Own w B E v l) (hb:Below w.heap.size w w'):Own w' B E v l:=by
 obtain ⟨h1,h2⟩:=h;refine ⟨h1,?_⟩
 rcases h2 with h2 | ⟨g,cap,cur,e,hB,hh,r⟩
 ·exact .inl h2
 ·exact .inr ⟨g,cap,cur,e,hB,(hb.block g (bm hh)).trans hh,r⟩
theorem aB {g:Nat} {cur:Array Value} {E:TypeId} (hh:w.heap[g]? = some (.cells cur E (0,0))) (u:Value):(w.setCell ⟨g,j,none⟩ u).heap[g]? = some (.cells (cur.setIfInBounds j u) E (0,0)):=by
 have hlt:=bm hh;have h':w.heap[g] = .cells cur E (0,0):=by simpa [Array.getElem?_eq_getElem hlt] using hh
 show (w.heap.modify g _)[g]? = _
 rw [gA (by simpa using hlt),Array.getElem_modify_self,h']
 rfl
theorem pR:∀ (l:List S2) (i:Nat) (x:Int),i < l.length->(flat l).set (i * 2+1) (.int .i64 x)=flat (l.set i (fr l i,x))
 | s :: r,0,x,_=>rfl
 | s :: r,i+1,x,h=>by
   have ih:=pR r i x (by simpa using h);have e:(i+1) * 2+1=(i * 2+1)+1+1:=by omega
   rw [e]
   show Value.int .i64 s.1 :: Value.int .i64 s.2 :: (flat r).set (i * 2+1) (.int .i64 x)=_
   rw [ih]
   rfl
theorem Own.set {w:World} {B E g cap:Nat} {l:List S2} (h:Own w B E (.slice (some ⟨g,0,none⟩) l.length cap) l) (i:Nat) (hi:i < l.length) (x:Int) :
 Own (w.setCell ⟨g,i * 2+1,none⟩ (.int .i64 x)) B E (.slice (some ⟨g,0,none⟩) l.length cap) (l.set i (fr l i,x)):=by
 obtain ⟨h1,h2⟩:=h;refine ⟨by rw [dQ],?_⟩
 rcases h2 with ⟨e,_⟩ | ⟨g',cap',cur,e,hB,hh,k1,k2,k3,k4⟩
 ·simp at e
 ·injection e with e1 e2 e3
  injection e1 with e1;injection e1 with e1;subst e1 e3;refine .inr ⟨_,_,_,by rw [cz],hB,aB hh _,by rw [cz];exact k1,k2,by simp [k3],?_⟩;rw [← pR l i x hi,← k4,cz]
  simp [List.take_set]
theorem Own.push {s:S2} (h:w'.ownsRow B E 2 v' (l.length+1) (flat l ++ [.int .i64 s.1,.int .i64 s.2])):Own w' B E v' (l ++ [s]):=by
 show w'.ownsRow B E 2 v' (l ++ [s]).length (flat (l ++ [s]))
 rw [ja,cI];exact h
end Sp
namespace Wi
open Sp
theorem z8 (a b:Int):a < b\/b<=a:=by omega
def jK (l:List S2) (t:Int):Prop:=∃ s∈l,s.1<=t/\t < s.2
def OG (t:Int) (s:S2):Bool:=decide (s.1<=t) && decide (t < s.2)
def ig (l:List S2) (t:Int):Bool:=l.any (OG t)
variable {l a b r S p:List S2} {t:Int}
theorem zw : ig l t=true↔jK l t:=by
 simp [ig,jK,OG,List.any_eq_true]
theorem zk : ig l t=false↔¬ jK l t:=by
 rw [← zw];simp
def Plain (l:List S2):Prop:=(∀ s∈l,s.1 < s.2)/\l.Pairwise (fun a b=>a.2 < b.1)
variable {i k:Nat}
theorem wE (h:i < l.length):(fr l i,tp l i)∈l:=by
 have e:l.getD i (0,0)=l[i]:=by simp [h]
 show ((l.getD i (0,0)).1,(l.getD i (0,0)).2)∈l
 rw [e];exact dg h
variable {s q:S2}
theorem mem_iff : s∈l↔∃ i,i < l.length/\fr l i=s.1/\tp l i=s.2:=by
 constructor
 ·intro h
  obtain ⟨i,hi,e⟩:=dy h;exact ⟨i,hi,by simp [fr,hi,e],by simp [tp,hi,e]⟩
 ·rintro ⟨i,hi,e1,e2⟩
  have:=wE hi;rw [e1,e2] at this;exact this
theorem Oz : jK l t↔∃ i,i < l.length/\fr l i<=t/\t < tp l i:=by
 constructor
 ·rintro ⟨s,hs,h⟩
  obtain ⟨i,hi,e1,e2⟩:=mem_iff.1 hs;exact ⟨i,hi,by omega,by omega⟩
 ·rintro ⟨i,hi,h⟩
  exact ⟨_,wE hi,h⟩
theorem gq : jK (a ++ b) t↔jK a t\/jK b t:=by
 constructor
 ·rintro ⟨s,hs,h⟩
  rcases eM.1 hs with h' | h'
  ·exact .inl ⟨s,h',h⟩
  ·exact .inr ⟨s,h',h⟩
 ·rintro (⟨s,hs,h⟩ | ⟨s,hs,h⟩)
  ·exact ⟨s,List.mem_append_left _ hs,h⟩
  ·exact ⟨s,List.mem_append_right _ hs,h⟩
theorem j5 : ¬ jK [] t:=by rintro ⟨s,hs,_⟩;simp at hs
theorem fK : jK (s :: r) t↔(s.1<=t/\t < s.2)\/jK r t:=by
 constructor
 ·rintro ⟨x,hx,h⟩
  rcases cj.1 hx with rfl | h'
  ·exact .inl h
  ·exact .inr ⟨x,h',h⟩
 ·rintro (h | ⟨x,hx,h⟩)
  ·exact ⟨s,cD,h⟩
  ·exact ⟨x,cC _ hx,h⟩
theorem qm : jK [s] t↔s.1<=t/\t < s.2:=by
 rw [fK];exact ⟨fun h=>h.resolve_right j5,.inl⟩
theorem Qe:Plain []:=⟨fun s h=>by simp at h,fW⟩
theorem qW : Plain (l ++ [s])↔Plain l/\s.1 < s.2/\∀ x∈l,x.2 < s.1:=by
 unfold Plain;rw [List.pairwise_append]
 constructor
 ·rintro ⟨h1,h2,_,h3⟩
  exact ⟨⟨fun x hx=>h1 x (List.mem_append_left _ hx),h2⟩,h1 s (by simp),fun x hx=>h3 x hx s (by simp)⟩
 ·rintro ⟨⟨h1,h2⟩,h3,h4⟩
  refine ⟨fun x hx=>?_,h2,List.pairwise_singleton _ _,fun x hx y hy=>?_⟩
  ·rcases eM.1 hx with h | h
   ·exact h1 x h
   ·simp at h;subst h;exact h3
  ·simp at hy;subst hy;exact h4 x hx
theorem iX : Plain (s :: l)↔Plain l/\s.1 < s.2/\∀ x∈l,s.2 < x.1:=by
 unfold Plain;rw [dc]
 constructor
 ·rintro ⟨h1,h2,h3⟩
  exact ⟨⟨fun x hx=>h1 x (cC _ hx),h3⟩,h1 s cD,h2⟩
 ·rintro ⟨⟨h1,h2⟩,h3,h4⟩
  refine ⟨fun x hx=>?_,h4,h2⟩
  rcases cj.1 hx with rfl | h
  ·exact h3
  ·exact h1 x h
theorem tX (h:Plain l):∀ s∈l,¬ jK l s.2:=by
 induction l with
 | nil=>intro s hs;simp at hs
 | cons a r ih =>
   obtain ⟨hp,ha,hr⟩:=iX.1 h
   intro s hs hl
   rw [fK] at hl
   rcases cj.1 hs with rfl | hs
   ·rcases hl with hl | ⟨x,hx,h1,h2⟩
    ·omega
    ·have:=hr x hx;omega
   ·rcases hl with hl | hl
    ·have:=hr s hs;have:=hp.1 s hs;omega
    ·exact ih hp s hs hl
theorem wY:∀ {a b:List S2},Plain a->Plain b->(∀ t,jK a t↔jK b t)->a=b
 | [],[],_,_,_=>rfl
 | [],s :: r,_,hb,h=>by
   obtain ⟨_,h1,_⟩:=iX.1 hb;exact absurd ((h s.1).2 (fK.2 (.inl ⟨by omega,h1⟩))) j5
 | s :: r,[],ha,_,h=>by
   obtain ⟨_,h1,_⟩:=iX.1 ha;exact absurd ((h s.1).1 (fK.2 (.inl ⟨by omega,h1⟩))) j5
 | s :: r,s' :: r',ha,hb,h=>by
   obtain ⟨hr,h1,h2⟩:=iX.1 ha;obtain ⟨hr',h1',h2'⟩:=iX.1 hb;have lo:s'.1<=s.1:=by
    obtain ⟨x,hx,hx1,_⟩:=(h s.1).1 (fK.2 (.inl ⟨by omega,h1⟩))
    rcases cj.1 hx with rfl | hx
    ·exact hx1
    ·have:=h2' x hx;omega
   have lo':s.1<=s'.1:=by
    obtain ⟨x,hx,hx1,_⟩:=(h s'.1).2 (fK.2 (.inl ⟨by omega,h1'⟩))
    rcases cj.1 hx with rfl | hx
    ·exact hx1
    ·have:=h2 x hx;omega
   have hi:s'.2<=s.2:=by
    rcases z8 s.2 s'.2 with c | c
    ·exact absurd ((h s.2).2 (fK.2 (.inl ⟨by omega,c⟩))) (tX ha s cD)
    ·exact c
   have hi':s.2<=s'.2:=by
    rcases z8 s'.2 s.2 with c | c
    ·exact absurd ((h s'.2).1 (fK.2 (.inl ⟨by omega,c⟩))) (tX hb s' cD)
    ·exact c
   have e:s=s':=Prod.ext (by omega) (by omega);subst e;have er:r=r':=wY hr hr' fun t=>by
    constructor
    ·intro ht
     obtain ⟨x,hx,hx1,_⟩:=ht;have:=h2 x hx
     rcases fK.1 ((h t).1 (fK.2 (.inr ⟨x,hx,hx1,by assumption⟩))) with c | c
     ·omega
     ·exact c
    ·intro ht
     obtain ⟨x,hx,hx1,_⟩:=ht;have:=h2' x hx
     rcases fK.1 ((h t).2 (fK.2 (.inr ⟨x,hx,hx1,by assumption⟩))) with c | c
     ·omega
     ·exact c
   rw [er]
structure iQ (S:List S2) (k:Nat) (l:List S2):Prop where
 plain:Plain l
 low:∀ t,jK l t↔jK (S.take k) t
 ahead:∀ x∈l,∀ i,k<=i->i < S.length->x.1<=fr S i
structure rM (S:List S2):Prop where
 ticks:∀ i,i < S.length->fr S i < tp S i
 up:∀ i j,i<=j->j < S.length->fr S i<=fr S j
theorem mZ (h:k < S.length):S.take (k+1)=S.take k ++ [(fr S k,tp S k)]:=by
 rw [List.take_succ_eq_append_getElem h];have e:(fr S k,tp S k)=S[k]:=by simp [fr,tp,h]
 rw [e]
theorem iQ.zero (S:List S2):iQ S 0 []:=⟨Qe,fun t=>by simp,fun x hx=>by simp at hx⟩
theorem iQ.push (hS:rM S) (h:iQ S k l) (hk:k < S.length) (hl:∀ x∈l,x.2 < fr S k):iQ S (k+1) (l ++ [(fr S k,tp S k)]):=by
 refine ⟨qW.2 ⟨h.plain,hS.ticks k hk,hl⟩,fun t=>?_,fun x hx i h1 h2=>?_⟩
 ·rw [mZ hk,gq,gq,h.low]
 ·rcases eM.1 hx with c | c
  ·exact h.ahead x c i (by omega) h2
  ·simp at c;subst c;exact hS.up k i (by omega) h2
theorem iQ.grow (h:iQ S k (p ++ [q])) (hk:k < S.length) (hl:fr S k<=q.2) (m:Int) (hm:(q.2<=m/\tp S k<=m)/\(m=q.2\/m=tp S k)):iQ S (k+1) (p ++ [(q.1,m)]):=by
 obtain ⟨hp,hq,hx⟩:=qW.1 h.plain;have ha:=h.ahead q (by simp) k (by omega) hk;refine ⟨qW.2 ⟨hp,by show q.1 < m;omega,hx⟩,fun t=>?_,fun x hx i h1 h2=>?_⟩
 ·have:=h.low t
  rw [gq,qm] at this;rw [mZ hk,gq,gq,qm,qm,← this]
  constructor
  ·rintro (c | c)
   ·exact .inl (.inl c)
   ·by_cases d:t < q.2
    ·exact .inl (.inr ⟨c.1,d⟩)
    ·exact .inr ⟨by show fr S k<=t;omega,by show t < tp S k;have:=c.2;simp at this;omega⟩
  ·rintro ((c | c) | c)
   ·exact .inl c
   ·exact .inr ⟨c.1,by show t < m;omega⟩
   ·exact .inr ⟨by show q.1<=t;have:=c.1;simp at this;omega,by show t < m;have:=c.2;simp at this;omega⟩
 ·rcases eM.1 hx with c | c
  ·exact h.ahead x (List.mem_append_left _ c) i (by omega) h2
  ·simp at c;subst c;exact h.ahead q (by simp) i (by omega) h2
theorem iQ.all (h:iQ S S.length l):Plain l/\∀ t,jK l t↔jK S t:=⟨h.plain,fun t=>by rw [h.low,cW]⟩
def zo:List S2->Int
 | []=>-1099511627777
 | [s]=>s.2
 | _ :: s :: r=>zo (s :: r)
theorem I8:∀ (l:List S2),0 < l.length->zo l=tp l (l.length - 1)
 | [_],_=>rfl
 | a :: b :: r,_=>by
   have:=I8 (b :: r) (by simp)
   show zo (b :: r)=_
   rw [this]
   simp [tp]
theorem Aw:∀ {l:List S2},Plain l->∀ x∈l,x.2<=zo l
 | [s],_,x,hx=>by simp at hx;subst hx;exact gc _
 | a :: b :: r,h,x,hx=>by
   obtain ⟨h1,h2,h3⟩:=iX.1 h
   show x.2<=zo (b :: r)
   rcases cj.1 hx with rfl | hx
   ·have a1:=h3 b (by simp)
    have a2:=h1.1 b (by simp);have a3:=Aw h1 b (by simp)
    omega
   ·exact Aw h1 x hx
open Go.RowKit Go.Proofs.YtpepoackmcohlaaGreatDoor.Sp
theorem dh {a b:Int} (h:a=b):Ending.returned (.int .i64 a) = .returned (.int .i64 b):=by rw [h]
theorem zD:(prog.info? 297).map (fun i=>(i.zero,i.size,i.bytes))=some (some (.agg #[.int .i64 0,.int .i64 0]),2,16):=by kernel_rfl
theorem jb (a:Addr):a.add 0=a:=by cases a;simp [Addr.add]
variable {w:World}
theorem eT {ops:Array Oper} {rest:List Oper} {o:Oper} {a:Act} {Q:Exit->Act->World->Prop} (hgd:o.guard=none) (s x:Operand)
 (ho:o.op = .call { callee:=.builtin .append,args:=#[s,x],argTypes:=#[213,213] }) (B:Nat) (v:Value) (l:List S2) (hs:a.eval s=v) (hown:Sp.Own w B 297 v l)
 (ad:Addr) (p q:Int) (hx:a.eval x = .slice (some ad) 1 1) (h0:w.cell? ad=some (.int .i64 p)) (h1:w.cell? (ad.add 1)=some (.int .i64 q)) (hlen:l.length < 4398046511104) (hB:B<=w.heap.size)
 (h:∀ v' w',Sp.Own w' B 297 v' (l ++ [(p,q)])->Below B w w'->wpList prog ops Q rest (a.put o.dst v') w'):wpList prog ops Q (o :: rest) a w:=by
 obtain ⟨i0,hi,hz0,hz1,hz2⟩:=ew zD;refine wpList_append_own _ hgd s x 213 ho B 297 i0 (.agg #[.int .i64 0,.int .i64 0]) 2 16 underlying213 hi hz0 hz1 hz2 rfl (by decide) v l.length (flat l) hs hown ad 1 1 [.int .i64 p,.int .i64 q] hx rfl ?_ ?_ ?_ ?_ hB ?_
 ·intro j u hj
  match j,hj with
  | 0,hj=>simp at hj;subst hj;rw [jb];exact h0
  | 1,hj=>simp at hj;subst hj;exact h1
  | j+2,hj=>simp at hj
 ·intro u hu
  simp at hu
  rcases hu with rfl | rfl <;> rfl
 ·unfold maxLen;omega
 ·omega
 ·intro v' w' h2 h3 _
  exact h v' w' (Sp.Own.push (s:=(p,q)) h2) ((aa B w).grown h3 hB fun k hk=>(ci hown k hk).1)
theorem BM (w:World) (a b:Int):Calls prog 203 #[.agg #[.int .i64 a,.int .i64 b]] w fun e w'=>e = .returned (.bool (decide (a < b)))/\Below w.heap.size w w':=by
 go_enter func203,ntmps203
 go_wp2
 go_ret
 exact ⟨rfl,(aa _ _).alloc (ac _) _⟩
theorem Ev (w:World) (a:Int):Calls prog 186 #[.int .i64 a] w fun e w'=>e = .returned (.bool false)/\w=w':=by
 go_enter func186,ntmps186
 go_wp2
 go_ret
 exact ⟨by simp,rfl⟩
def Ko (a b:Int):Int:=if a < b then -1 else if b < a then 1 else 0
theorem Iq (w:World) (a b:Int):Calls prog 206 #[.int .i64 a,.int .i64 b] w fun e w'=>e = .returned (.int .i64 (Ko a b))/\w=w':=by
 by_cases h:a < b
 ·go_enter func206,ntmps206
  go_wp2_with (go_at_call 186;refine (Ev _ _).mono ?_;rintro e w' ⟨rfl,rfl⟩)
  go_ret
  exact ⟨dh (by simp [Ko,h]),rfl⟩
 ·by_cases h2:b < a
  ·go_enter func206,ntmps206
   go_wp2_with (go_at_call 186;refine (Ev _ _).mono ?_;rintro e w' ⟨rfl,rfl⟩)
   go_ret
   exact ⟨dh (by simp [Ko,h,h2]),rfl⟩
  ·go_enter func206,ntmps206
   go_wp2_with (go_at_call 186;refine (Ev _ _).mono ?_;rintro e w' ⟨rfl,rfl⟩)
   go_ret
   exact ⟨dh (by rw [Ko,am (by omega),am (by omega)]),rfl⟩
def Made (w:World) (P:List S2->Prop) (e:Ending) (w':World):Prop:=∃ v x,e = .returned v/\Sp.Own w' w.heap.size 297 v x/\P x/\Below w.heap.size w w'
theorem aM {P:Program} {f:Nat} {args:Array Value} {B:Nat} {a b:Bool} (e:a=b) (c:Calls P f args w fun e w'=>e = .returned (.bool a)/\Below B w w'):Calls P f args w fun e w'=>e = .returned (.bool b)/\Below B w w':=by rw [← e];exact c
def dS (X l:List S2):Prop:=Plain l/\∀ t,jK l t↔jK X t
theorem dS.one {x:List S2} (ha:dS x a) (hb:dS x b):a=b:=wY ha.1 hb.1 fun t=>(ha.2 t).trans (hb.2 t).symm
end Wi
namespace Se
open Sp Go.Proofs.YtpepoackmcohlaaGreatDoor.Wi
open Tk (bN dI La gZ Ea)
section
variable {n:Nat} {A R:Nat->Int}
theorem Lj (A R:Nat->Int) (n:Nat) (m:Int):0<=dI A R n m/\dI A R n m<=4294967296:=⟨(gZ A R n m).lo,(gZ A R n m).hi⟩
variable {a b:Int}
theorem JX (h:a<=b):dI A R n a<=dI A R n b:=by
 have x:=gZ A R n a;have y:=gZ A R n b;have y0:=y.lo;have x1:=x.hi
 rcases Wi.z8 (dI A R n b) (dI A R n a) with c | c
 ·have p:=y.there (by omega)
  have q:=x.before _ y.lo c
  omega
 ·exact c
theorem VY (g:bN n A R) (t:Int) (h0:0<=t) (h1:t < 4294967296):Tk.Loc A R n (t+1)<=Tk.Loc A R n t+2:=by
 obtain ⟨c,_,c1,e⟩:=Tk.Of g t;unfold Tk.Loc;rw [Tk.iw (by omega) (by omega),Tk.iw (by omega) (by omega),e]
 omega
theorem qp (g:bN n A R) (h1:a<=4000000000):dI A R n a < 4294967296:=by
 have x:=gZ A R n a;have b:=(Tk.VA g 4294967295 (by omega) (by omega)).2;have x1:=x.hi
 rcases Wi.z8 (dI A R n a) 4294967296 with c | c
 ·exact c
 ·have:=x.before 4294967295 (by omega) (by omega)
  omega
theorem LX (g:bN n A R) (h1:a<=4000000000):a<=Tk.Loc A R n (dI A R n a):=(gZ A R n a).there (qp g h1)
theorem VI (g:bN n A R):Tk.Loc A R n 0=0:=by
 rw [Tk.Loc,Tk.iw (by omega) (by omega),Tk.qA g]
 rfl
theorem ab2 (g:bN n A R) (h0:0<=a):Tk.Loc A R n (dI A R n a)<=a+1:=by
 have x:=gZ A R n a;have x0:=x.lo;have x1:=x.hi
 rcases Wi.z8 0 (dI A R n a) with c | c
 ·have p:=x.before (dI A R n a - 1) (by omega) (by omega)
  have s:=VY g (dI A R n a - 1) (by omega) (by omega);rw [show dI A R n a - 1+1=dI A R n a by omega] at s
  omega
 ·have e:dI A R n a=0:=by omega
  rw [e,VI g]
  omega
theorem adL (g:bN n A R) (h0:0<=a) (h:a+2<=b) (h1:b<=4000000000):dI A R n a < dI A R n b:=by
 have p:=ab2 g h0;have q:=LX g h1;have m:=JX (A:=A) (R:=R) (n:=n) (show a<=b by omega)
 rcases Wi.z8 (dI A R n a) (dI A R n b) with c | c
 ·exact c
 ·have e:dI A R n a=dI A R n b:=by omega
  rw [e] at p
  omega
end
def oG (g:Int->Int) (F:Nat->Bool) (m:Int):Nat->List S2
 | 0=>[]
 | k+1=>if F k then oG g F m k else oG g F m k ++ [(g (m+16 * k),g (m+16 * k+16))]
section
variable {g:Int->Int} {F:Nat->Bool} {m:Int}
variable {k:Nat}
theorem Pn (h:F k=true):oG g F m (k+1)=oG g F m k:=by rw [oG,aw h]
theorem Np (h:F k=false):oG g F m (k+1)=oG g F m k ++ [(g (m+16 * k),g (m+16 * k+16))]:=by rw [oG,am (by simp [h])]
theorem yX:∀ k,(oG g F m k).length<=k
 | 0=>ac _
 | k+1=>by
   have:=yX k;rw [oG]
   split
   ·omega
   ·simp;omega
theorem pZ {s:S2} : ∀ {k},s∈oG g F m k↔∃ i:Nat,i < k/\F i=false/\s=(g (m+16 * i),g (m+16 * i+16))
 | 0=>by simp [oG]
 | k+1=>by
   cases h:F k with
   | true =>
     rw [Pn h,pZ]
     constructor
     ·rintro ⟨i,a,b⟩
      exact ⟨i,by omega,b⟩
     ·rintro ⟨i,a,b,c⟩
      by_cases e:i=k
      ·subst e;rw [h] at b;cases b
      ·exact ⟨i,by omega,b,c⟩
   | false =>
     rw [Np h,eM,pZ]
     constructor
     ·rintro (⟨i,a,b⟩ | c)
      ·exact ⟨i,by omega,b⟩
      ·exact ⟨k,by omega,h,by simpa using c⟩
     ·rintro ⟨i,a,b,c⟩
      by_cases e:i=k
      ·subst e;exact .inr (by simpa using c)
      ·exact .inl ⟨i,by omega,b,c⟩
end
end Se
namespace Sa
open Sp Go.Proofs.YtpepoackmcohlaaGreatDoor.Wi Go.Proofs.YtpepoackmcohlaaGreatDoor.Se
open Tk (bN dI La gZ Ea PP)
structure Calm (n:Nat) (A R:Nat->Int) (B:Int):Prop where
 good:bN n A R
 lo:0<=B
 bd:∀ i,i < n->-B<=R i/\R i<=B
section
variable {n:Nat} {A R:Nat->Int} {B:Int}
theorem Calm.rt (g:Calm n A R B) (k:Nat) (h:k<=n) : -B<=Tk.rt R k/\Tk.rt R k<=B:=by
 have:=g.lo
 cases k with
 | zero=>exact ⟨by simp [Tk.rt];omega,by simp [Tk.rt];omega⟩
 | succ k=>exact g.bd k (by omega)
theorem TQ (g:Calm n A R B) (t:Int):∃ c,1000000 - B<=c/\c<=1000000+B/\PP A R n (t+1)=PP A R n t+c:=by
 have s:=Tk.yL A n t;generalize hk:Tk.stop A n t=k at s;obtain ⟨s1,s2,s3⟩:=s;rw [Tk.sH ⟨s1,s2,s3⟩]
 by_cases hn:k < n/\A k < t+1
 ·obtain ⟨hn,ha⟩:=hn
  have e:A k=t:=by have:=s3 hn;omega
  have st:Tk.gM A n (t+1) (k+1):=by
   refine ⟨hn,fun i hi=>?_,fun h=>?_⟩
   ·by_cases c:i=k
    ·subst c;exact ha
    ·have:=s2 i (by omega);omega
   ·have:=g.good.up k h;omega
  rw [Tk.sH st];have b:=g.bd k hn;refine ⟨1000000+R k,by omega,by omega,?_⟩
  show Tk.sm A R k+(A k - Tk.fr A k) * (1000000+Tk.rt R k)+(t+1 - A k) * (1000000+R k)=Tk.sm A R k+(t - Tk.fr A k) * (1000000+Tk.rt R k)+(1000000+R k)
  rw [e,show t+1 - t=1 by omega,Int.one_mul]
 ·have st:Tk.gM A n (t+1) k:=by
   refine ⟨s1,fun i hi=>?_,fun h=>?_⟩
   ·have:=s2 i hi;omega
   ·have:=s3 h;omega
  rw [Tk.sH st];have b:=g.rt k s1;refine ⟨1000000+Tk.rt R k,by omega,by omega,?_⟩;unfold Tk.pp;rw [show t+1 - Tk.fr A k=(t - Tk.fr A k)+1 by omega,Int.add_mul,Int.one_mul]
  omega
theorem aaO (g:Calm n A R B) (t:Int) (d:Nat):PP A R n t+(1000000 - B) * d<=PP A R n (t+d)/\PP A R n (t+d)<=PP A R n t+(1000000+B) * d:=by
 induction d with
 | zero=>simp
 | succ d ih =>
   obtain ⟨c,c1,c2,e⟩:=TQ g (t+d);rw [show t+((d+1:Nat):Int)=t+d+1 by omega,e];have e1:(1000000 - B) * ((d+1:Nat):Int)=(1000000 - B) * d+(1000000 - B):=by rw [show ((d+1:Nat):Int)=d+1 by omega,Int.mul_add,Int.mul_one]
   have e2:(1000000+B) * ((d+1:Nat):Int)=(1000000+B) * d+(1000000+B):=by rw [show ((d+1:Nat):Int)=d+1 by omega,Int.mul_add,Int.mul_one]
   rw [e1,e2];generalize (1000000 - B) * (d:Int)=x at *;generalize (1000000+B) * (d:Int)=y at *
   omega
variable {t u B' a:Int}
theorem rP (g:Calm n A R B) (h:t<=u):PP A R n t+(1000000 - B) * (u - t)<=PP A R n u/\PP A R n u<=PP A R n t+(1000000+B) * (u - t):=by
 have:=aaO g t (u - t).toNat;rw [show t+((u - t).toNat:Int)=u by omega,show ((u - t).toNat:Int)=u - t by omega] at this;exact this
theorem Calm.up (g:Calm n A R B) (h:B<=B'):Calm n A R B':=⟨g.good,by have:=g.lo;omega,fun i hi=>by have:=g.bd i hi;omega⟩
theorem wI (g:Calm n A R B) (h0:0<=a) (h1:a<=4000000000):1000000 * a<=PP A R n (dI A R n a)/\PP A R n (dI A R n a)<=1000000 * a+999999+B:=by
 have x:=gZ A R n a;have x0:=x.lo;have x1:=qp g.good h1;have q:=LX g.good h1;have b0:=g.lo;unfold Tk.Loc at q;rw [Tk.iw (by omega) (by omega)] at q;refine ⟨by omega,?_⟩
 rcases Wi.z8 0 (dI A R n a) with c | c
 ·have p:=x.before (dI A R n a - 1) (by omega) (by omega)
  unfold Tk.Loc at p;rw [Tk.iw (by omega) (by omega)] at p;obtain ⟨d,_,d1,e⟩:=TQ g (dI A R n a - 1);rw [show dI A R n a - 1+1=dI A R n a by omega] at e
  omega
 ·have e:dI A R n a=0:=by omega
  rw [e,Tk.qA g.good]
  omega
theorem adK (h0:0<=u) (h:1000000 * a<=PP A R n u):dI A R n a<=u:=by
 have x:=gZ A R n a
 rcases Wi.z8 u (dI A R n a) with c | c
 ·have p:=x.before u h0 c
  have:=x.hi;unfold Tk.Loc at p;rw [Tk.iw (by omega) (by omega)] at p
  omega
 ·exact c
theorem WI (g:Calm n A R B) (h1:a<=4000000000) (h:PP A R n u < 1000000 * a):u < dI A R n a:=by
 have q:=LX g.good h1;have x0:=(gZ A R n a).lo;have x1:=qp g.good h1;unfold Tk.Loc at q;rw [Tk.iw (by omega) (by omega)] at q
 rcases Wi.z8 u (dI A R n a) with c | c
 ·exact c
 ·have:=Tk.Ec g.good c
  omega
end
def maj (a b c:Bool):Bool:=a && b || a && c || b && c
def jD (low:Int->Bool) (g:Int->Int) (N:Int) (i:Nat):Bool:=maj (!low (g (N+16 * i+7))) (!low (g (N+16 * i+8))) (!low (g (N+16 * i+9)))
theorem UI (a:Bool):maj a a a=a:=by cases a <;> rfl
theorem Ze {n n':Nat} {A R A' R':Nat->Int} (g:Calm n A R 10000) (g':Calm n' A' R' 10000) {m:Int} (m0:0<=m) (m1:m<=1073741824) (i:Nat) (hi:i < 11) (j:Int) (j0:7<=j) (j1:j<=9) :
 dI A R n (m+16 * i)<=dI A' R' n' (Tk.Loc A' R' n' (dI A R n m)+16 * i+j)/\dI A' R' n' (Tk.Loc A' R' n' (dI A R n m)+16 * i+j) < dI A R n (m+16 * i+16):=by
 have t:=wI g m0 (by omega);have t0:=(gZ A R n m).lo;have t1:=qp g.good (show m<=4000000000 by omega);have t2:dI A R n m<=1100000000:=by
  have b:=rP g (show 0<=dI A R n m from t0);rw [Tk.qA g.good] at b
  omega
 have l:=Tk.VA g'.good (dI A R n m) t0 (by omega);have lp:1000000 * Tk.Loc A' R' n' (dI A R n m)<=PP A' R' n' (dI A R n m)/\PP A' R' n' (dI A R n m)<=1000000 * Tk.Loc A' R' n' (dI A R n m)+999999:=by
  unfold Tk.Loc;rw [Tk.iw (by omega) (by omega)]
  omega
 have l0:0<=Tk.Loc A' R' n' (dI A R n m):=by
  unfold Tk.Loc;rw [Tk.iw (by omega) (by omega)];have:=(Tk.C8 g'.good (dI A R n m) t0).1
  omega
 generalize Tk.Loc A' R' n' (dI A R n m)=N at *;have u:=wI g' (a:=N+16 * i+j) (by omega) (by omega);have u0:=(gZ A' R' n' (N+16 * i+j)).lo;generalize dI A' R' n' (N+16 * i+j)=U at *;have tu:dI A R n m<=U:=by
  rcases Wi.z8 U (dI A R n m) with c | c
  ·have:=Tk.Ec g'.good (show U<=dI A R n m by omega)
   omega
  ·exact c
 have b:=rP g tu;have b':=rP g' tu;generalize dI A R n m=T at *;have lo:1000000 * (m+16 * (i:Int))<=PP A R n U:=by omega
 have hi':PP A R n U < 1000000 * (m+16 * (i:Int)+16):=by omega
 exact ⟨adK u0 lo,WI g (by omega) hi'⟩
theorem Zm (A R:Nat->Int) (n:Nat) (g:bN n A R) (t:Int):0<=Tk.Loc A R n t/\Tk.Loc A R n t<=4400000000:=by
 have h0:=Tk.Ym t;have h1:=Tk.Xv t;have:=Tk.C8 g (Tk.kR t) h0;unfold Tk.Loc
 omega
end Sa
namespace Wi
open Sp
def idx (p:S2->Bool) (l:List S2):Int:=match (List.range l.length).find? (fun i=>p (fr l i,tp l i)) with
 | some i=>i
 | none=>-1
variable {p:S2->Bool} {l x:List S2} {i:Nat}
theorem E8 (hi:i < l.length) (hp:p (fr l i,tp l i)=true) (hn:∀ j,j < i->p (fr l j,tp l j)=false):idx p l=i:=by
 have e:(List.range l.length).find? (fun i=>p (fr l i,tp l i))=some i:=by
  rw [List.find?_range_eq_some];exact ⟨hp,by simpa using hi,fun j hj=>by simp [hn j hj]⟩
 simp [idx,e]
theorem zF (hn:∀ j,j < l.length->p (fr l j,tp l j)=false):idx p l = -1:=by
 have e:(List.range l.length).find? (fun i=>p (fr l i,tp l i))=none:=by
  rw [ie]
  intro i hi
  simp [hn i (by simpa using hi)]
 simp [idx,e]
theorem Bz (p:S2->Bool) (l:List S2):(∃ i:Nat,i < l.length/\p (fr l i,tp l i)=true/\(∀ j,j < i->p (fr l j,tp l j)=false)/\idx p l=i)\/((∀ j,j < l.length->p (fr l j,tp l j)=false)/\idx p l = -1):=by
 rcases h:(List.range l.length).find? (fun i=>p (fr l i,tp l i)) with _ | i
 ·right
  rw [ie] at h;have hn:∀ j,j < l.length->p (fr l j,tp l j)=false:=fun j hj=>by simpa using h j (by simpa using hj)
  exact ⟨hn,zF hn⟩
 ·left
  rw [List.find?_range_eq_some] at h;have hi:i < l.length:=by simpa using h.2.1
  have hn:∀ j,j < i->p (fr l j,tp l j)=false:=fun j hj=>by simpa using h.2.2 j hj
  exact ⟨i,hi,h.1,hn,E8 hi h.1 hn⟩
def jl (f t:Int) (s:S2):Bool:=decide (f<=s.1) && decide (s.1 < t)
def iL (x:List S2) (f t:Int):Int×Bool:=if 0<=idx (jl f t) x then (fr x (idx (jl f t) x).toNat,true) else (0,false)
variable {f t:Int}
theorem Iw (e:idx (jl f t) x=i):iL x f t=(fr x i,true):=by
 unfold iL;rw [e,aw (by omega)]
 simp
theorem BP (e:idx (jl f t) x = -1):iL x f t=(0,false):=by
 unfold iL;rw [e,am (by omega)]
end Wi
namespace Bu
open Sp Go.Proofs.YtpepoackmcohlaaGreatDoor.Wi Go.Proofs.YtpepoackmcohlaaGreatDoor.Se Go.Proofs.YtpepoackmcohlaaGreatDoor.Sa
open Tk (bN dI La gZ Ea PP)
structure fO where
 n:Nat
 A:Nat->Int
 R:Nat->Int
noncomputable def fO.g (o:fO) (m:Int):Int:=dI o.A o.R o.n m
def fO.calm (o:fO):Prop:=Sa.Calm o.n o.A o.R 2000
variable {a b:Int}
theorem ahead {o p:fO} (ho:o.calm) (hp:p.calm) (a0:0<=a) (a1:a<=4000) (hab:a+18<=b) (b1:b<=5000):o.g a < p.g b:=by
 unfold fO.calm at ho hp;unfold fO.g;have t:=(wI ho a0 (by omega)).2;have t0:=(gZ o.A o.R o.n a).lo;generalize dI o.A o.R o.n a=T at *;have s:=(rP ho t0).1;have s':=(rP hp t0).2;rw [Tk.qA ho.good] at s;rw [Tk.qA hp.good] at s';exact WI hp (by omega) (by omega)
theorem fO.mono (o:fO) (h:a<=b):o.g a<=o.g b:=JX h
abbrev Frs:=Nat->Option (fO×(Nat->Bool))
structure Fit (f:Frs):Prop where
 calm:∀ k o F,f k=some (o,F)->o.calm
 low:∀ k o F,f k=some (o,F)->F 0=false
def zn (f:Frs) (k:Nat) (u:Int):Prop:=∃ o F,f k=some (o,F)/\∃ i:Nat,i < 11/\F i=false/\o.g (224 * k+16 * i)<=u/\u < o.g (224 * k+16 * i+16)
def wV (f:Frs) (u:Int):Prop:=∃ k:Nat,1<=k/\k<=16/\zn f k u
section
variable {f:Frs}
variable {k k' i:Nat} {u:Int} {o r:fO} {F:Nat->Bool}
theorem yB (e:f k=some (o,F)) (h:zn f k u):o.g (224 * k)<=u/\u < o.g (224 * k+176):=by
 obtain ⟨o',F',e',i,hi,_,h1,h2⟩:=h;rw [e] at e';injection e' with e';injection e' with e1 _;subst e1;have:=o.mono (show 224 * (k:Int)<=224 * k+16 * i by omega);have:=o.mono (show 224 * (k:Int)+16 * i+16<=224 * k+176 by omega)
 omega
theorem sZ (h:zn f k u):∃ o F,f k=some (o,F):=by
 obtain ⟨o,F,e,_⟩:=h;exact ⟨o,F,e⟩
theorem other (hf:Fit f) (hr:r.calm) (h1:1<=k) (h2:k<=16) (h3:1<=k') (h4:k'<=16) (hne:k'≠k) (u0:r.g (224 * k - 20)<=u+1) (u1:u < r.g (224 * k+20)):¬ zn f k' u:=fun h=>by
 obtain ⟨o,F,e⟩:=sZ h;have a:=yB e h;have c:=hf.calm k' o F e
 rcases Nat.lt_or_gt_of_ne hne with q | q
 ·have:=ahead c hr (a:=224 * k'+176) (b:=224 * k - 20) (by omega) (by omega) (by omega) (by omega)
  omega
 ·have:=ahead hr c (a:=224 * k+20) (b:=224 * k') (by omega) (by omega) (by omega) (by omega)
  omega
theorem ada (hf:Fit f) (h2:k<=16) (h4:k'<=16) (hne:k'≠k) (e:f k=some (o,F)) (u0:o.g (224 * k)<=u) (u1:u < o.g (224 * k+176)):¬ zn f k' u:=fun h=>by
 obtain ⟨o',F',e'⟩:=sZ h;have b:=yB e' h;have c:=hf.calm k o F e;have d:=hf.calm k' o' F' e'
 rcases Nat.lt_or_gt_of_ne hne with q | q
 ·have:=ahead d c (a:=224 * k'+176) (b:=224 * k) (by omega) (by omega) (by omega) (by omega)
  omega
 ·have:=ahead c d (a:=224 * k+176) (b:=224 * k') (by omega) (by omega) (by omega) (by omega)
  omega
theorem Ol (hf:Fit f) (h1:1<=k) (h2:k<=16) (e:f k=some (o,F)) (hi:i < 11) (u0:o.g (224 * k+16 * i)<=u) (u1:u < o.g (224 * k+16 * i+16)):wV f u↔F i=false:=by
 constructor
 ·rintro ⟨k',h3,h4,h⟩
  have m0:=o.mono (show 224 * (k:Int)<=224 * k+16 * i by omega);have m1:=o.mono (show 224 * (k:Int)+16 * i+16<=224 * k+176 by omega)
  by_cases q:k'=k
  ·subst q
   obtain ⟨o',F',e',i',hi',hF,a,b⟩:=h;rw [e] at e';injection e' with e';injection e' with e1 e2;subst e1 e2
   rcases Nat.lt_trichotomy i' i with c | c | c
   ·have:=o.mono (show 224 * (k':Int)+16 * i'+16<=224 * k'+16 * i by omega)
    omega
   ·subst c;exact hF
   ·have:=o.mono (show 224 * (k':Int)+16 * i+16<=224 * k'+16 * i' by omega)
    omega
  ·exact absurd h (ada hf h2 h4 q e (by omega) (by omega))
 ·exact fun hF=>⟨k,h1,h2,o,F,e,i,hi,hF,u0,u1⟩
theorem PC (hf:Fit f) (h1:1<=k) (h2:k<=16) (e:f k=some (o,F)):wV f (o.g (224 * k)):=by
 have c:=hf.calm k o F e;have q:=adL c.good (a:=224 * (k:Int)) (b:=224 * k+16) (by omega) (by omega) (by omega);refine (Ol hf h1 h2 e (i:=0) (by omega) (u:=o.g (224 * k)) ?_ ?_).2 (hf.low k o F e)
 ·simp
 ·show o.g (224 * (k:Int)) < o.g (224 * (k:Int)+16 * ((0:Nat):Int)+16)
  rw [show 224 * (k:Int)+16 * ((0:Nat):Int)+16=224 * k+16 by omega];exact q
end
section
variable {f:Frs} {x l:List S2}
theorem pM (hx:Plain x) {s:S2} (hs:s∈x):jK x s.1/\¬ jK x (s.1 - 1):=by
 refine ⟨⟨s,hs,gc _,hx.1 s hs⟩,?_⟩;rintro ⟨q,hq,a,b⟩;obtain ⟨i,hi,e1⟩:=dy hs;obtain ⟨j,hj,e2⟩:=dy hq;have pw:=eS.1 hx.2
 rcases Nat.lt_trichotomy i j with c | c | c
 ·have:=pw i j hi hj c
  rw [e1,e2] at this;have:=hx.1 s hs
  omega
 ·subst c
  rw [e1] at e2;subst e2
  omega
 ·have:=pw j i hj hi c
  rw [e1,e2] at this
  omega
theorem Gi {t:Int} (h:jK x t) (h':¬ jK x (t - 1)):∃ s∈x,s.1=t:=by
 obtain ⟨s,hs,a,b⟩:=h;refine ⟨s,hs,?_⟩
 rcases Wi.z8 s.1 t with c | c
 ·exact absurd ⟨s,hs,by omega,by omega⟩ h'
 ·omega
variable {r o:fO} {k i:Nat} {F:Nat->Bool}
theorem yY (hf:Fit f) (hr:r.calm) (h1:1<=k) (h2:k<=16) (e:f k=some (o,F)) {u:Int} (u0:r.g (224 * k - 20)<=u+1) (u1:u < o.g (224 * k)):¬ wV f u:=by
 rintro ⟨k',h3,h4,h⟩;have c:=hf.calm k o F e
 by_cases q:k'=k
 ·subst q
  have:=(yB e h).1
  omega
 ·have:=ahead c hr (a:=224 * k) (b:=224 * k+20) (by omega) (by omega) (by omega) (by omega)
  exact other hf hr h1 h2 h3 h4 q u0 (by omega) h
theorem Ss (hf:Fit f) (hx:Plain x) (hl:∀ u,jK x u↔wV f u) (hr:r.calm) (h1:1<=k) (h2:k<=16) (e:f k=some (o,F)):iL x (r.g (224 * k - 20)) (r.g (224 * k+20))=(o.g (224 * k),true):=by
 have c:=hf.calm k o F e;have a0:=ahead hr c (a:=224 * k - 20) (b:=224 * k) (by omega) (by omega) (by omega) (by omega);have a1:=ahead c hr (a:=224 * k) (b:=224 * k+20) (by omega) (by omega) (by omega) (by omega);have b0:=(hl _).2 (PC hf h1 h2 e);have b1:¬ jK x (o.g (224 * k) - 1):=fun h=>yY hf hr h1 h2 e (by omega) (by omega) ((hl _).1 h);obtain ⟨s,hs,es⟩:=Gi b0 b1;obtain ⟨i,hi,e1,e2⟩:=mem_iff.1 hs;have hp:jl (r.g (224 * k - 20)) (r.g (224 * k+20)) (fr x i,tp x i)=true:=by
  unfold jl;rw [e1,es];simp only [ce,cL]
  omega
 have hn:∀ j,j < i->jl (r.g (224 * k - 20)) (r.g (224 * k+20)) (fr x j,tp x j)=false:=fun j hj=>by
  rcases hq:jl (r.g (224 * k - 20)) (r.g (224 * k+20)) (fr x j,tp x j) with _ | _
  ·rfl
  ·exfalso
   unfold jl at hq;simp only [ce,cL] at hq;have hm:=wE (l:=x) (i:=j) (by omega);have g:=(pM hx hm).1;have lt:fr x j < o.g (224 * k):=by
    have pw:=eS.1 hx.2;have hmi:=wE hi;have q1:=hx.1 _ hm;have:=hx.1 _ hmi;have gj:x[j]? = some (fr x j,tp x j):=by
     have:=aq (show j < x.length by omega);rw [this]
     simp [fr,tp,List.getD_eq_getElem?_getD,List.getElem?_eq_getElem (show j < x.length by omega)]
    have gi:x[i]? = some (fr x i,tp x i):=by
     rw [aq hi]
     simp [fr,tp,List.getD_eq_getElem?_getD,List.getElem?_eq_getElem hi]
    have q:=pw j i (by omega) hi hj;rw [aq (by omega)] at gj;rw [aq hi] at gi;injection gj with gj;injection gi with gi;rw [gj,gi] at q;simp only at q q1
    omega
   exact yY hf hr h1 h2 e (by omega) lt ((hl _).1 g)
 rw [Iw (E8 hi hp hn),e1,es]
theorem P9 (hf:Fit f) (hx:Plain x) (hl:∀ u,jK x u↔wV f u) (hr:r.calm) (h1:1<=k) (h2:k<=16) (e:f k=none):iL x (r.g (224 * k - 20)) (r.g (224 * k+20))=(0,false):=by
 refine BP (zF fun j hj=>?_)
 rcases hq:jl (r.g (224 * k - 20)) (r.g (224 * k+20)) (fr x j,tp x j) with _ | _
 ·rfl
 ·exfalso
  unfold jl at hq;simp only [ce,cL] at hq;obtain ⟨k',h3,h4,h⟩:=(hl _).1 (pM hx (wE hj)).1
  by_cases q:k'=k
  ·subst q
   obtain ⟨o,F,e',_⟩:=h;rw [e] at e'
   cases e'
  ·exact other hf hr h1 h2 h3 h4 q (by simp only;omega) (by simp only;omega) h
theorem SI (hf:Fit f) (hl:∀ u,jK l u↔wV f u) (hr:r.calm) (h1:1<=k) (h2:k<=16) (e:f k=some (o,F)) (hi:i < 11) :
 jD (ig l) (dI r.A r.R r.n) (Tk.Loc r.A r.R r.n (o.g (224 * k))) i=F i:=by
 have c:Sa.Calm o.n o.A o.R 10000:=Sa.Calm.up (hf.calm k o F e) (by omega);have d:Sa.Calm r.n r.A r.R 10000:=Sa.Calm.up hr (by omega);have look:∀ j:Int,7<=j->j<=9->ig l (dI r.A r.R r.n (Tk.Loc r.A r.R r.n (o.g (224 * k))+16 * i+j)) = !F i:=fun j j0 j1=>by
  obtain ⟨q0,q1⟩:=Ze c d (m:=224 * (k:Int)) (by omega) (by omega) i hi j j0 j1;have b:=Ol hf h1 h2 e hi (u:=dI r.A r.R r.n (Tk.Loc r.A r.R r.n (o.g (224 * k))+16 * i+j)) q0 q1
  rcases hF:F i with _ | _
  ·exact zw.2 ((hl _).2 (b.2 hF))
  ·refine zk.2 fun h=>?_
   have:=b.1 ((hl _).1 h);rw [hF] at this
   cases this
 unfold jD;rw [look 7 (by omega) (by omega),look 8 (by omega) (by omega),look 9 (by omega) (by omega),UI]
 simp
end
open Go.RowKit
open Sp (S2 fr tp)
open Wi (Plain dS jK ig iL)
open Sa (jD)
open Ck (sN)
open Pa (Qf xG FU hr sq sq1 tn dM)
open Ua (pP tb te)
instance:Inhabited fO:=⟨⟨0,fun _=>0,fun _=>0⟩⟩
def lN (O:List fO) (i:Int):fO:=O.getD i.toNat default
def KO (S:bX) (T:LL) (V:List Bool) (P:List (Int×Int)) (O:List fO):Frs:=fun k=>if jF S T V k=true then some (lN O (sN k T),ni S T V P k) else none
theorem Is (P:List (Int×Int)) (s:Int) (F:Nat->Bool):sq P s F P.length 0=F 0:=by
 unfold sq;rw [cW]
 induction P generalizing F with
 | nil=>rfl
 | cons x r ih =>
   rw [cm,ih];unfold sq1
   split
   ·rfl
   ·rfl
theorem UF (S:bX) (T:LL) (V:List Bool) (P:List (Int×Int)) (s:Int):ni S T V P s 0=false:=by
 unfold ni
 split
 ·rw [Is];rfl
 ·rfl
section
variable {S:bX} {T:LL} {V:List Bool} {P:List (Int×Int)} {O:List fO}
variable {k i:Nat}
theorem Dh (h:jF S T V k=true):KO S T V P O k=some (lN O (sN k T),ni S T V P k):=aw h
theorem Ef (h:jF S T V k=false):KO S T V P O k=none:=am (by rw [h];exact dr)
theorem Ll (h:jF S T V k=true):0<=sN k T:=by
 unfold jF at h;simp only [ce,cL] at h;exact h.1.1
theorem pU (hO:∀ o∈O,o.calm) (hi:i < O.length):(lN O i).calm:=by
 unfold lN;rw [ch,af,aq hi];exact hO _ (dg hi)
theorem aaX (ok:tE T=0) (hl:O.length=T.length) (hO:∀ o∈O,o.calm):Fit (KO S T V P O):=by
 refine ⟨fun k o F e=>?_,fun k o F e=>?_⟩
 all_goals
  cases hs:jF S T V k with
  | false=>rw [Ef hs] at e;cases e
  | true =>
    rw [Dh hs] at e;injection e with e;injection e with e1 e2;subst e1 e2
    first
     | exact UF S T V P k
     | (obtain ⟨n,en,hn,_⟩:=iD ok (Ll hs)
        rw [en]
        exact pU hO (by omega))
end
variable {F G:Nat->Bool}
theorem vW (h:∀ i,i < 11->F i=G i):Ua.bad F=Ua.bad G:=by unfold Ua.bad;rw [h 0 (by omega),h 10 (by omega)]
theorem Yi (h:∀ i,i < 11->F i=G i):tb F=tb G:=by unfold tb;rw [vW h,Ua.val_congr 8 fun i _ hi=>h i (by omega)]
theorem Vk (h:∀ i,i < 11->F i=G i):Ua.tp F=Ua.tp G:=by unfold Ua.tp;rw [vW h,Ua.Db 9 fun i _ hi=>h i (by omega)]
theorem V8 (h:∀ i,i < 11->F i=G i):te F=te G:=by unfold te;rw [vW h]
noncomputable def acr (x l:List S2) (r:fO) (f t:Int):Int×Bool×Int :=
 if (iL x f t).2 then (tb (jD (ig l) (Tk.dI r.A r.R r.n) (Tk.Loc r.A r.R r.n (iL x f t).1)),Ua.tp (jD (ig l) (Tk.dI r.A r.R r.n) (Tk.Loc r.A r.R r.n (iL x f t).1)),te (jD (ig l) (Tk.dI r.A r.R r.n) (Tk.Loc r.A r.R r.n (iL x f t).1))) else (0,false,3)
noncomputable def nC (x l:List S2) (r:fO) (s:Int):Int×Bool×Int:=acr x l r (r.g (224 * s - 20)) (r.g (224 * s+20))
noncomputable def Ke (x l:List S2) (r:fO):Hr:=fun s=>if 1<=s/\s<=16/\(nC x l r s).2.2=0/\(nC x l r s).2.1=false then some (nC x l r s).1 else none
section
variable {S:bX} {T:LL} {V:List Bool} {P:List (Int×Int)} {O:List fO} {x l:List S2} {r:fO}
theorem Xl (ok:tE T=0) (hl:O.length=T.length) (hO:∀ o∈O,o.calm) (hx:dS l x) (hL:∀ u,jK l u↔wV (KO S T V P O) u) (hr':r.calm) {k:Nat} (h1:1<=k) (h2:k<=16) :
 nC x l r k=if jF S T V k=true then (tb (ni S T V P k),Ua.tp (ni S T V P k),te (ni S T V P k)) else (0,false,3):=by
 have F:=aaX (S:=S) (V:=V) (P:=P) ok hl hO;have hX:∀ u,jK x u↔wV (KO S T V P O) u:=fun u=>(hx.2 u).trans (hL u)
 cases hs:jF S T V k with
 | true =>
   have e:=Dh (P:=P) (O:=O) hs;have q:=Ss F hx.1 hX hr' h1 h2 e;have g:=fun i hi=>SI F hL hr' h1 h2 e (i:=i) hi;unfold nC acr;rw [q];simp only [if_true];rw [Yi g,Vk g,V8 g]
 | false =>
   have q:=P9 F hx.1 hX hr' h1 h2 (Ef (P:=P) (O:=O) hs);unfold nC acr;rw [q]
   rfl
theorem UH (ok:tE T=0) (hl:O.length=T.length) (hO:∀ o∈O,o.calm) (hx:dS l x) (hL:∀ u,jK l u↔wV (KO S T V P O) u) (hr':r.calm):Ke x l r=hr S T V P:=funext fun s=>by
 unfold Ke hr
 by_cases hb:1<=s/\s<=16
 ·obtain ⟨k,rfl⟩:∃ k:Nat,s=k:=⟨s.toNat,by omega⟩
  rw [Xl ok hl hO hx hL hr' (k:=k) (by omega) (by omega)]
  cases hs:jF S T V k with
  | false =>
    have hB:xG S T V P k=false:=by unfold xG;rw [hs];rfl
    rw [hB]
    simp
  | true =>
    simp only [if_true];have hB:xG S T V P k=(decide (te (ni S T V P k)=0) && !Ua.tp (ni S T V P k)):=by unfold xG;rw [hs];rfl
    by_cases q:te (ni S T V P k)=0/\Ua.tp (ni S T V P k)=false
    ·have hT:xG S T V P k=true:=by rw [hB,bj q.1,q.2];rfl
     rw [aw ⟨hb.1,hb.2,q.1,q.2⟩,aw ⟨hb.1,hb.2,hT⟩];unfold FU;rw [aw hT]
    ·rw [am fun h=>q ⟨h.2.2.1,h.2.2.2⟩,am fun h=>by
      have:=h.2.2;rw [hB] at this;simp only [ce,cL,Bool.not_eq_true'] at this
      exact q this]
 ·rw [am fun h=>hb ⟨h.1,h.2.1⟩,am fun h=>hb ⟨h.1,h.2.1⟩]
end
def Jl (S:bX) (T:LL) (V:List Bool) (P:List (Int×Int)) (O:List fO) (j:Int) (u:Int):Prop:=∃ k:Nat,1<=k/\k<=16/\qw S T V k=j/\zn (KO S T V P O) k u
section
variable {S:bX} {T:LL} {V:List Bool} {P:List (Int×Int)} {O:List fO}
theorem Uc (ok:tE T=0) {u:Int} : wV (KO S T V P O) u↔∃ j:Nat,j < T.length/\Jl S T V P O j u:=by
 constructor
 ·rintro ⟨k,h1,h2,h⟩
  obtain ⟨o,F,e⟩:=sZ h;have hs:jF S T V k=true:=by
   rcases q:jF S T V k with _ | _
   ·rw [Ef q] at e;cases e
   ·rfl
  obtain ⟨n,en,hn,_⟩:=iD ok (Ll hs);exact ⟨n,hn,k,h1,h2,by unfold qw;rw [aw hs,en],h⟩
 ·rintro ⟨j,_,k,h1,h2,_,h⟩
  exact ⟨k,h1,h2,h⟩
end
end Bu
namespace Tk
open Go.RowKit
def Steps (w:World) (v:Value) (n:Nat) (A R:Nat->Int):Prop :=
 (∃ (a:Option Addr) (cap:Nat),v = .slice a 0 cap/\cap<=maxLen/\n=0) \/
 ∃ (b off cap:Nat),v = .slice (some ⟨b,off,none⟩) n cap/\n<=cap/\cap<=maxLen /\
  ∀ i,i < n->w.cell? ⟨b,off+i * 2,none⟩=some (.int .i64 (A i))/\w.cell? ⟨b,off+i * 2+1,none⟩=some (.int .i64 (R i))
theorem Steps.below {w w':World} {v:Value} {n:Nat} {A R:Nat->Int} (h:Steps w v n A R) (b:Below w.heap.size w w'):Steps w' v n A R:=by
 rcases h with h | ⟨b0,off,cap,e,h1,h2,hc⟩
 ·exact .inl h
 ·refine .inr ⟨b0,off,cap,e,h1,h2,fun i hi=>?_⟩
  obtain ⟨c1,c2⟩:=hc i hi;exact ⟨iI b c1,iI b c2⟩
end Tk
namespace Bu
open Go.RowKit
open Sp (S2 fr tp Sp)
open Wi (Plain dS jK j5)
open Ck (sN)
open Pa (nO hr iG xS nQ)
open Se (oG pZ Lj)
def Ib (w:World) (v:Value) (O:List fO):Prop:=∃ a cap,v = .slice a O.length cap/\O.length<=cap/\cap<=maxLen /\
 (0 < O.length->∃ b off,a=some ⟨b,off,none⟩/\∀ i:Nat,i < O.length->∃ u,w.cell? ⟨b,off+i,none⟩=some u/\Tk.Steps w u (lN O i).n (lN O i).A (lN O i).R)
theorem Ib.below {w w':World} {v:Value} {O:List fO} (h:Ib w v O) (hb:Below w.heap.size w w'):Ib w' v O:=by
 obtain ⟨a,cap,e,h1,h2,h3⟩:=h;refine ⟨a,cap,e,h1,h2,fun hp=>?_⟩;obtain ⟨b,off,ea,hA⟩:=h3 hp;refine ⟨b,off,ea,fun i hi=>?_⟩;obtain ⟨u,c,r⟩:=hA i hi;exact ⟨u,iI hb c,r.below hb⟩
theorem Ib.slice {w:World} {v:Value} {O:List fO} (h:Ib w v O):∃ a cap,v = .slice a O.length cap/\O.length<=cap/\cap<=maxLen:=by
 obtain ⟨a,cap,e,h1,h2,_⟩:=h;exact ⟨a,cap,e,h1,h2⟩
variable {w:World} {v:Value} {n m cap k:Nat} {A R:Nat->Int}
theorem qV (h:Tk.Steps w v n A R):∃ a cap,v = .slice a n cap/\n<=cap/\cap<=maxLen:=by
 rcases h with ⟨a,cap,rfl,h,rfl⟩ | ⟨b,off,cap,rfl,h0,h,_⟩
 ·exact ⟨a,cap,rfl,cg _,h⟩
 ·exact ⟨_,cap,rfl,h0,h⟩
theorem Un {a:Option Addr} (h:Tk.Steps w (.slice a n cap) m A R) (hp:0 < n):m=n/\∃ b off,a=some ⟨b,off,none⟩/\∀ i,i < n->w.cell? ⟨b,off+i * 2,none⟩=some (.int .i64 (A i))/\w.cell? ⟨b,off+i * 2+1,none⟩=some (.int .i64 (R i)):=by
 rcases h with ⟨a',cap',e,h,rfl⟩ | ⟨b,off,cap',e,_,h,hc⟩
 ·injection e with _ e _;omega
 ·injection e with e1 e2 _
  subst e1 e2;exact ⟨rfl,b,off,rfl,hc⟩
variable {O:List fO}
theorem Ib.one (h:Ib w v O) (hk:k < O.length):∃ b off cap a' cap',v = .slice (some ⟨b,off,none⟩) O.length cap/\w.cell? ⟨b,off+k,none⟩=some (.slice a' (lN O k).n cap')/\((lN O k).n<=cap'/\cap'<=maxLen)/\Tk.Steps w (.slice a' (lN O k).n cap') (lN O k).n (lN O k).A (lN O k).R:=by
 obtain ⟨a,cap,e,h1,h2,h3⟩:=h;obtain ⟨b,off,rfl,hA⟩:=h3 (by omega);obtain ⟨u,c,s⟩:=hA k hk;obtain ⟨a',cap',rfl,h4⟩:=qV s;exact ⟨b,off,cap,a',cap',e,c,h4,s⟩
theorem aad (hk:k < O.length):lN O k∈O:=by
 unfold lN;rw [ch,af,aq hk];exact dg hk
noncomputable def jY (o:fO):Bool:=@decide o.calm (Classical.propDecidable _)
variable {o:fO}
theorem qy (h:o.calm):jY o=true:=by unfold jY;exact @decide_eq_true _ (Classical.propDecidable _) h
theorem Xp (h:¬ o.calm):jY o=false:=by unfold jY;exact @decide_eq_false _ (Classical.propDecidable _) h
theorem FW (h:jY o=true):o.calm:=by unfold jY at h;exact @of_decide_eq_true _ (Classical.propDecidable _) h
def Vn (O:List fO):Prop:=∀ o∈O,o.calm
noncomputable def jy (O:List fO):Bool:=O.all jY
theorem vV (h:jy O=true):Vn O:=fun o ho=>FW (eh.1 h o ho)
theorem JD {S:bX} {T:LL} {V:List Bool} (hE:iG S T V=0):1<=S.length/\S.length<=32/\T.length=S.length/\V.length=S.length/\tE T=0:=by
 unfold iG at hE
 split at hE
 ·rename_i h
  exact ⟨h.1,h.2.1,h.2.2.1,h.2.2.2,hE⟩
 ·omega
noncomputable def Kh (S:bX) (T:LL) (V:List Bool) (O:List fO):Int:=if iG S T V=0 then (if O.length=S.length/\jy O=true then 0 else 1) else iG S T V
noncomputable def YF (S:bX) (T:LL) (V:List Bool) (P:List S2) (O:List fO):bX:=if Kh S T V O=0 then xS S T V (hr S T V P) else []
section
variable {S:bX} {T:LL} {V:List Bool} {P:List S2} {O:List fO}
theorem qj (h:iG S T V≠0):Kh S T V O=iG S T V/\YF S T V P O = []:=by
 have e:Kh S T V O=iG S T V:=am h;exact ⟨e,am (by rw [e];exact h)⟩
theorem Jk (h:iG S T V=0) (h':¬ (O.length=S.length/\jy O=true)):Kh S T V O=1/\YF S T V P O = []:=by
 have e:Kh S T V O=1:=by unfold Kh;rw [aw h,am h']
 exact ⟨e,am (by rw [e];decide)⟩
theorem Et (h:iG S T V=0) (h1:O.length=S.length) (h2:jy O=true):Kh S T V O=0/\YF S T V P O=xS S T V (hr S T V P):=by
 have e:Kh S T V O=0:=by unfold Kh;rw [aw h,aw ⟨h1,h2⟩]
 exact ⟨e,aw e⟩
end
theorem xK:∀ (l:List S2) (a b:Int),a<=b->Plain l->(∀ s∈l,a<=s.1/\s.1 < b)->(l.length:Int)<=b - a
 | [],a,b,h,_,_=>by simp;omega
 | s :: r,a,b,h,hp,hs=>by
   have p:=Wi.iX.1 hp;have q:=hs s cD;have ih:=xK r (s.1+1) b (by omega) p.1 fun x hx=>by
    have:=p.2.2 x hx;have:=hs x (cC _ hx)
    omega
   simp only [dl]
   omega
variable {l:List S2}
theorem vQ (h:Plain l) (hl:∀ u,jK l u->0<=u/\u<=4294967296):l.length<=4294967297:=by
 have:=xK l 0 4294967297 (by omega) h fun s hs=>by
  have:=hl s.1 (pM h hs).1
  omega
 omega
variable {f:Frs}
theorem RY {F:Nat->Bool} (e:f k=some (o,F)) (h:dS (oG (Tk.dI o.A o.R o.n) F (224 * (k:Int)) 11) l) (u:Int):jK l u↔zn f k u:=by
 rw [h.2 u]
 constructor
 ·rintro ⟨s,hs,a,b⟩
  obtain ⟨i,hi,hF,rfl⟩:=pZ.1 hs;exact ⟨o,F,e,i,hi,hF,a,b⟩
 ·rintro ⟨o',F',e',i,hi,hF,a,b⟩
  rw [e] at e';injection e' with e';injection e' with e1 e2;subst e1 e2;exact ⟨_,pZ.2 ⟨i,hi,hF,rfl⟩,a,b⟩
theorem Ei {u:Int} (h:zn f k u):0<=u/\u<=4294967296:=by
 obtain ⟨o,F,e⟩:=sZ h;have a:=yB e h;have b:=Lj o.A o.R o.n (224 * (k:Int));have c:=Lj o.A o.R o.n (224 * (k:Int)+176);unfold fO.g at a
 omega
def lX (S:bX) (T:LL) (V:List Bool) (P:List S2) (O:List fO) (j:Int) (k:Nat) (u:Int):Prop:=∃ i:Nat,1<=i/\i < k/\qw S T V i=j/\zn (KO S T V P O) i u
section
variable {S:bX} {T:LL} {V:List Bool} {P:List S2} {O:List fO} {j:Int} {k:Nat} {u:Int}
theorem Tt:¬ lX S T V P O j 1 u:=fun ⟨i,h1,h2,_⟩=>by omega
theorem Ti:lX S T V P O j 17 u↔Jl S T V P O j u:=⟨fun ⟨i,h1,h2,h⟩=>⟨i,h1,by omega,h⟩,fun ⟨i,h1,h2,h⟩=>⟨i,h1,by omega,h⟩⟩
theorem QU (h1:1<=k) (e:qw S T V k=j):lX S T V P O j (k+1) u↔lX S T V P O j k u\/zn (KO S T V P O) k u:=by
 constructor
 ·rintro ⟨i,a,b,c,d⟩
  by_cases q:i=k
  ·subst q;exact .inr d
  ·exact .inl ⟨i,a,by omega,c,d⟩
 ·rintro (⟨i,a,b,c,d⟩ | d)
  ·exact ⟨i,a,by omega,c,d⟩
  ·exact ⟨k,h1,by omega,e,d⟩
theorem Wp (h:¬ (jF S T V k=true/\qw S T V k=j)):lX S T V P O j (k+1) u↔lX S T V P O j k u:=by
 constructor
 ·rintro ⟨i,a,b,c,d⟩
  by_cases q:i=k
  ·subst q
   obtain ⟨o,F,e⟩:=sZ d
   rcases hs:jF S T V i with _ | _
   ·rw [Ef hs] at e;cases e
   ·exact absurd ⟨hs,c⟩ h
  ·exact ⟨i,a,by omega,c,d⟩
 ·rintro ⟨i,a,b,c,d⟩
  exact ⟨i,a,by omega,c,d⟩
theorem ZY (h:Jl S T V P O j u):0<=u/\u<=4294967296:=by obtain ⟨_,_,_,_,h⟩:=h;exact Ei h
theorem MI (h:wV f u):0<=u/\u<=4294967296:=by obtain ⟨_,_,_,h⟩:=h;exact Ei h
end
def abI (S:bX) (T:LL) (V:List Bool) (P:List S2) (O:List fO) (j:Int) (l:List S2):Prop:=Plain l/\∀ u,jK l u↔Jl S T V P O j u
def xB (S:bX) (T:LL) (V:List Bool) (P:List S2) (O:List fO) (l:List S2):Prop:=Plain l/\∀ u,jK l u↔wV (KO S T V P O) u
variable {S:bX} {T:LL} {V:List Bool} {P a b:List S2}
theorem xB.one (ha:xB S T V P O a) (hb:xB S T V P O b):a=b:=Wi.wY ha.1 hb.1 fun t=>(ha.2 t).trans (hb.2 t).symm
theorem Qo (ok:tE T=0) (hl:O.length=T.length) (hO:Vn O) (h:jF S T V k=true) :
 ∃ n:Nat,qw S T V k=n/\n < O.length/\KO S T V P O k=some (lN O n,ni S T V P k)/\(lN O n).calm:=by
 obtain ⟨n,en,hn,_⟩:=iD ok (Ll h);refine ⟨n,by unfold qw;rw [aw h,en],by omega,by rw [Dh h,en],pU hO (by omega)⟩
theorem Jt {Q:Int->Prop} (hp:Plain l) (hl:∀ u,jK l u->Q u) (hq:∀ u,Q u->0<=u/\u<=4294967296):l.length<=4294967297:=vQ hp fun u h=>hq u (hl u h)
def xO (S:bX) (T:LL) (V:List Bool) (P:List S2) (O:List fO) (k:Nat) (u:Int):Prop:=∃ j:Nat,j < k/\Jl S T V P O j u
theorem KJ (k:Nat) (u:Int):xO S T V P O (k+1) u↔xO S T V P O k u\/Jl S T V P O k u:=by
 constructor
 ·rintro ⟨j,hj,h⟩
  by_cases e:j=k
  ·subst e;exact .inr h
  ·exact .inl ⟨j,by omega,h⟩
 ·rintro (⟨j,hj,h⟩ | h)
  ·exact ⟨j,by omega,h⟩
  ·exact ⟨k,by omega,h⟩
def mQ (h:Hr) (k:Nat):Hr:=fun n=>if 1<=n/\n < (k:Int) then h n else none
theorem qm (h:Hr):mQ h 1=fun _=>none:=funext fun n=>by unfold mQ;rw [am (by omega)]
variable {h:Hr}
theorem ZK (h1:1<=k) {y:Int} (e:h k=some y):nO (mQ h k) k y=mQ h (k+1):=funext fun n=>by
 unfold nO mQ
 by_cases g:n=k
 ·subst g;rw [aw rfl,aw (by omega),e]
 ·rw [am g]
  by_cases q:1<=n/\n < (k:Int)
  ·rw [aw q,aw (by omega)]
  ·rw [am q,am (by omega)]
theorem adf (e:h k=none):mQ h k=mQ h (k+1):=funext fun n=>by
 unfold mQ
 by_cases g:n=k
 ·subst g;rw [am (by omega),e,ite_self]
 ·by_cases q:1<=n/\n < (k:Int)
  ·rw [aw q,aw (by omega)]
  ·rw [am q,am (by omega)]
theorem aa4 (o:∀ n:Int,(n < 1\/16 < n)->h n=none):mQ h 17=h:=funext fun n=>by
 unfold mQ
 split
 ·rfl
 ·exact (o n (by omega)).symm
section
variable {x l:List S2} {r:fO}
variable {s:Int}
theorem aaa (h:s < 1\/16 < s):Ke x l r s=none:=am fun g=>by omega
theorem YJ (h1:1<=s) (h2:s<=16) (e:(nC x l r s).2.2=0) (o:(nC x l r s).2.1=false):Ke x l r s=some (nC x l r s).1:=aw ⟨h1,h2,e,o⟩
theorem ac0 (e:¬ ((nC x l r s).2.2=0/\(nC x l r s).2.1=false)):Ke x l r s=none:=am fun g=>e ⟨g.2.2.1,g.2.2.2⟩
end
open Go.Maps
open Fs (Rs)
open Rw (At)
open Pa (Rfl Vg dY Cel C9 pat)
section
end
def YC (s:List S2):fO:=⟨s.length,fr s,tp s⟩
theorem Gw {s:List S2} (h:Rd K2 w v s):Tk.Steps w v (YC s).n (YC s).A (YC s).R:=by
 obtain ⟨a,cap,rfl,h1,h2,h3⟩:=h
 by_cases h0:0 < s.length
 ·obtain ⟨b,off,rfl,hA⟩:=h3 h0
  exact .inr ⟨b,off,cap,rfl,h1.1,h2,fun i hi=>⟨hA i hi 0 _ rfl,hA i hi 1 _ rfl⟩⟩
 ·have e:s.length=0:=by omega
  exact .inl ⟨a,cap,by rw [e],h2,e⟩
theorem Yn {hs:List Hd} (h:Rd KS w v hs) (hl:hs.length=O.length) (each:∀ i:Nat,i < O.length->Tk.Steps w (sl (hs.getD i zh)) (lN O i).n (lN O i).A (lN O i).R):Ib w v O:=by
 obtain ⟨a,cap,e,h1,h2,h3⟩:=h;rw [hl] at e h1 h3;refine ⟨a,cap,e,h1.1,h2,fun hp=>?_⟩;obtain ⟨b,off,ea,hA⟩:=h3 hp;refine ⟨b,off,ea,fun i hi=>⟨_,?_,each i hi⟩⟩;have c:=hA i (by rw [hl];exact hi) 0 _ rfl;simp only [KS,Nat.mul_one,Nat.add_zero] at c;exact c
end Bu
namespace Cu
open Go.RowKit Go.Maps
open Rw (At)
open Pa (S2)
open Bu (fO lN Ib YC Gw Yn jy qy)
structure CI (w:World) (T:LL) (L:List Nd) (k1 k2 k3 k4:Nat) (o1:Value) (l1:List Nat) (o2:Value) (l2:List Hd) (o3:Value) (l3:List Bool) (o4:Value) (l4:List Hd) (wr:World):Prop where
 w1:Ow KN wr w.heap.size 72 o1 l1
 w2:Ow KS wr w.heap.size 126 o2 l2
 w3:Ow KB wr w.heap.size 4 o3 l3
 w4:Ow KS wr w.heap.size 163 o4 l4
 n1:l1.length=k1
 n2:l2.length=k2
 n3:l3.length=k3
 n4:l4.length=k4
 e1:∀ i,i < k1->l1.getD i 0=(iC L i).s
 e2:∀ i,i < k2->Ow K5 wr w.heap.size 170 (sl (l2.getD i zh)) (bZ T i)
 e3:∀ i,i < k3->l3.getD i false=(iC L i).live
 e4:∀ i,i < k4->Ow K2 wr w.heap.size 162 (sl (l4.getD i zh)) [(0,(iC L i).rate)]
 aI:Below w.heap.size w wr
section
variable {w wr w':World} {T:LL} {L:List Nd} {k1 k2 k3 k4:Nat} {o1 o2 o3 o4 o':Value} {l1:List Nat} {l2 l4:List Hd} {l3:List Bool}
theorem CI.start (w:World) (T:LL) (L:List Nd):CI w T L 0 0 0 0 (.slice none 0 0) [] (.slice none 0 0) [] (.slice none 0 0) [] (.slice none 0 0) [] w :=
 ⟨Rw.Ow.nil _ _ _,Rw.Ow.nil _ _ _,Rw.Ow.nil _ _ _,Rw.Ow.nil _ _ _,rfl,rfl,rfl,rfl,fun i hi=>by omega,fun i hi=>by omega,fun i hi=>by omega,fun i hi=>by omega,aa _ _⟩
theorem CI.below (h:CI w T L k1 k2 k3 k4 o1 l1 o2 l2 o3 l3 o4 l4 wr) (b:Below wr.heap.size wr w'):CI w T L k1 k2 k3 k4 o1 l1 o2 l2 o3 l3 o4 l4 w' :=
 ⟨h.w1.keep b,h.w2.keep b,h.w3.keep b,h.w4.keep b,h.n1,h.n2,h.n3,h.n4,h.e1,fun i hi=>(h.e2 i hi).keep b,h.e3,fun i hi=>(h.e4 i hi).keep b,h.aI.trans (b.mono h.aI.size)⟩
theorem oK {α:Type} {l:List α} {k i:Nat} (x d:α) (hl:l.length=k) (hi:i < k+1):(l ++ [x]).getD i d=if i < k then l.getD i d else x:=by
 rw [af,List.getElem?_append,hl]
 split
 ·rw [af]
 ·obtain rfl:i=k:=by omega
  simp
theorem CI.aeZ (h:CI w T L k1 k2 k3 k4 o1 l1 o2 l2 o3 l3 o4 l4 wr) {x:Nat} (own:Ow KN w' w.heap.size 72 o' (l1 ++ [x])) (gr:wr.grownBy w' o1.ownBlock) (hx:x=(iC L k1).s):CI w T L (k1+1) k2 k3 k4 o' (l1 ++ [x]) o2 l2 o3 l3 o4 l4 w':=by
 have o:=aV gr;refine ⟨own,aG h.w2 (fun k e=>bG h.w2 h.w1 (by decide) k e) o,aG h.w3 (fun k e=>bG h.w3 h.w1 (by decide) k e) o,aG h.w4 (fun k e=>bG h.w4 h.w1 (by decide) k e) o,by rw [cI,h.n1];rfl,h.n2,h.n3,h.n4,fun i hi=>?_,fun i hi=>aG (h.e2 i hi) (fun k e=>bG (h.e2 i hi) h.w1 (by decide) k e) o,h.e3,fun i hi=>aG (h.e4 i hi) (fun k e=>bG (h.e4 i hi) h.w1 (by decide) k e) o,h.aI.grown gr h.aI.size fun j e=>(ci h.w1 j e).1⟩;rw [oK x 0 h.n1 hi]
 split
 ·rename_i g;exact h.e1 i g
 ·obtain rfl:i=k1:=by omega
  exact hx
variable {x:Hd}
theorem CI.aeD (h:CI w T L k1 k2 k3 k4 o1 l1 o2 l2 o3 l3 o4 l4 wr) (own:Ow KS w' w.heap.size 126 o' (l2 ++ [x])) (gr:wr.grownBy w' o2.ownBlock) (hx:Ow K5 wr w.heap.size 170 (sl x) (bZ T k2)):CI w T L k1 (k2+1) k3 k4 o1 l1 o' (l2 ++ [x]) o3 l3 o4 l4 w':=by
 have o:=aV gr;refine ⟨aG h.w1 (fun k e=>bG h.w1 h.w2 (by decide) k e) o,own,aG h.w3 (fun k e=>bG h.w3 h.w2 (by decide) k e) o,aG h.w4 (fun k e=>bG h.w4 h.w2 (by decide) k e) o,h.n1,by rw [cI,h.n2];rfl,h.n3,h.n4,h.e1,fun i hi=>?_,h.e3,fun i hi=>aG (h.e4 i hi) (fun k e=>bG (h.e4 i hi) h.w2 (by decide) k e) o,h.aI.grown gr h.aI.size fun j e=>(ci h.w2 j e).1⟩;rw [oK x zh h.n2 hi]
 split
 ·rename_i g;exact aG (h.e2 i g) (fun k e=>bG (h.e2 i g) h.w2 (by decide) k e) o
 ·obtain rfl:i=k2:=by omega
  exact aG hx (fun k e=>bG hx h.w2 (by decide) k e) o
theorem CI.aeG (h:CI w T L k1 k2 k3 k4 o1 l1 o2 l2 o3 l3 o4 l4 wr) {x:Bool} (own:Ow KB w' w.heap.size 4 o' (l3 ++ [x])) (gr:wr.grownBy w' o3.ownBlock) (hx:x=(iC L k3).live):CI w T L k1 k2 (k3+1) k4 o1 l1 o2 l2 o' (l3 ++ [x]) o4 l4 w':=by
 have o:=aV gr;refine ⟨aG h.w1 (fun k e=>bG h.w1 h.w3 (by decide) k e) o,aG h.w2 (fun k e=>bG h.w2 h.w3 (by decide) k e) o,own,aG h.w4 (fun k e=>bG h.w4 h.w3 (by decide) k e) o,h.n1,h.n2,by rw [cI,h.n3];rfl,h.n4,h.e1,fun i hi=>aG (h.e2 i hi) (fun k e=>bG (h.e2 i hi) h.w3 (by decide) k e) o,fun i hi=>?_,fun i hi=>aG (h.e4 i hi) (fun k e=>bG (h.e4 i hi) h.w3 (by decide) k e) o,h.aI.grown gr h.aI.size fun j e=>(ci h.w3 j e).1⟩;rw [oK x false h.n3 hi]
 split
 ·rename_i g;exact h.e3 i g
 ·obtain rfl:i=k3:=by omega
  exact hx
theorem CI.aea (h:CI w T L k1 k2 k3 k4 o1 l1 o2 l2 o3 l3 o4 l4 wr) (own:Ow KS w' w.heap.size 163 o' (l4 ++ [x])) (gr:wr.grownBy w' o4.ownBlock) (hx:Ow K2 wr w.heap.size 162 (sl x) [(0,(iC L k4).rate)]):CI w T L k1 k2 k3 (k4+1) o1 l1 o2 l2 o3 l3 o' (l4 ++ [x]) w':=by
 have o:=aV gr;refine ⟨aG h.w1 (fun k e=>bG h.w1 h.w4 (by decide) k e) o,aG h.w2 (fun k e=>bG h.w2 h.w4 (by decide) k e) o,aG h.w3 (fun k e=>bG h.w3 h.w4 (by decide) k e) o,own,h.n1,h.n2,h.n3,by rw [cI,h.n4];rfl,h.e1,fun i hi=>aG (h.e2 i hi) (fun k e=>bG (h.e2 i hi) h.w4 (by decide) k e) o,h.e3,fun i hi=>?_,h.aI.grown gr h.aI.size fun j e=>(ci h.w4 j e).1⟩;rw [oK x zh h.n4 hi]
 split
 ·rename_i g;exact aG (h.e4 i g) (fun k e=>bG (h.e4 i g) h.w4 (by decide) k e) o
 ·obtain rfl:i=k4:=by omega
  exact aG hx (fun k e=>bG hx h.w4 (by decide) k e) o
end
def Kr (L:List Nd):List fO:=L.map fun x=>YC [(0,x.rate)]
variable {L:List Nd}
theorem ZB {i:Nat} (hi:i < L.length):lN (Kr L) i=YC [(0,(iC L i).rate)]:=by
 unfold lN Kr iC;rw [ch,af,cX,aq hi,af,aq hi]
 rfl
theorem AO (L:List Nd):(Kr L).length=L.length:=cy _
theorem UA {x:Int} (h : -2000<=x/\x<=2000):(YC [(0,x)]).calm:=by
 have e0:∀ i,i < 1->(YC [(0,x)]).A i=0:=fun i hi=>by
  obtain rfl:i=0:=by omega
  rfl
 have e1:∀ i,i < 1->(YC [(0,x)]).R i=x:=fun i hi=>by
  obtain rfl:i=0:=by omega
  rfl
 refine ⟨⟨(by show 1<=64;decide),fun i hi=>?_,fun i hi=>?_,fun i hi=>?_⟩,by decide,fun i hi=>?_⟩
 ·rw [e0 i hi];decide
 ·rw [e1 i hi];omega
 ·have:i+1 < 1:=hi
  omega
 ·rw [e1 i hi];exact h
theorem Rj (h:∀ i,i < L.length->-2000<=(iC L i).rate/\(iC L i).rate<=2000):jy (Kr L)=true:=by
 refine eh.2 fun o ho=>qy ?_;obtain ⟨x,hx,rfl⟩:=dp.1 ho;obtain ⟨i,hi,e⟩:=dy hx;have g:=h i hi;have e':iC L i=x:=by
  unfold iC;rw [af,aq hi];exact e
 rw [e'] at g;exact UA g
section
variable {s t p:Nat} {F G:Nat->Prop} {c:Cs} {vn vq:Value} {L:List Nd} {Fs:Nat->Nat->Prop} {w wr w1 w2 w':World} {T:LL} {o1 o2 o3 o4:Value} {l1:List Nat} {l2 l4:List Hd} {l3:List Bool}
theorem CI.stl (h:CI w T L c.S.length c.S.length c.S.length c.S.length o1 l1 o2 l2 o3 l3 o4 l4 wr) (H:Cl w s F c t vn L p vq Fs):Cj wr o1 c.S :=
 ⟨l1,h.w1.rd,h.n1,fun i hi=>⟨Fs i,by rw [h.e1 i hi];exact (H.st i (by rw [H.len];exact hi)).below h.aI⟩⟩
variable {n k i cap:Nat}
theorem CI.tab (h:CI w T L n n n n o1 l1 o2 l2 o3 l3 o4 l4 wr) (hT:T.length=n):kF wr o2 T:=vN h.w2.rd (h.n2.trans hT.symm) fun i hi=>(h.e2 i (by rw [← hT];exact hi)).rd
theorem CI.liv (h:CI w T L c.S.length c.S.length c.S.length c.S.length o1 l1 o2 l2 o3 l3 o4 l4 wr) (H:Cl w s F c t vn L p vq Fs) (hv:c.V.length=c.S.length):Rd KB wr o3 c.V:=by
 have e:l3=c.V:=by
  refine List.ext_getElem (h.n3.trans hv.symm) fun i h1 h2=>?_;have a:=h.e3 i (by rw [← h.n3];exact h1);rw [H.lv i (by rw [H.len,← hv];exact h2)] at a;unfold bU at a;rw [ch,af,aq h1,af,aq h2] at a;exact a
 rw [← e];exact h.w3.rd
theorem CI.osl (h:CI w T L L.length L.length L.length L.length o1 l1 o2 l2 o3 l3 o4 l4 wr):Ib wr o4 (Kr L) :=
 Yn h.w4.rd (h.n4.trans (AO L).symm) fun i hi=>by
  rw [AO] at hi;rw [ZB hi];exact Gw (h.e4 i hi).rd
def rO (L:List Nd) (ps:List Nat) (k:Nat):List Nd:=(List.range L.length).map fun i=>if i < k then { iC L i with s:=ps.getD i 0 } else iC L i
theorem eX (L:List Nd) (ps:List Nat) (k:Nat):(rO L ps k).length=L.length:=by unfold rO;rw [cy,List.length_range]
variable {ps:List Nat}
theorem nY (hi:i < L.length):iC (rO L ps k) i=if i < k then { iC L i with s:=ps.getD i 0 } else iC L i:=by
 unfold rO
 conv=>lhs;unfold iC
 rw [af,cX,List.getElem?_range hi]
 rfl
theorem Om {L':List Nd} (hl:L.length=L'.length) (h:∀ i,i < L.length->iC L i=iC L' i):L=L':=by
 refine List.ext_getElem hl fun i h1 h2=>?_;have:=h i h1
 simpa [iC,List.getD,List.getElem?_eq_getElem h1,List.getElem?_eq_getElem h2] using this
theorem Qh (L:List Nd) (ps:List Nat):rO L ps 0=L:=Om (eX L ps 0) fun i hi=>by
 rw [eX] at hi;rw [nY hi,am (by omega)]
theorem Ql (hk:k < L.length):(rO L ps k).set k { iC L k with s:=ps.getD k 0 } = rO L ps (k+1):=by
 refine Om (by rw [cz,eX,eX]) fun i hi=>?_;rw [cz,eX] at hi;rw [oJ (by rw [eX];exact hk),nY hi,nY hi]
 by_cases e:i=k
 ·subst e
  rw [aw rfl,aw (by omega)]
 ·rw [am e]
  by_cases g:i < k
  ·rw [aw g,aw (by omega)]
  ·rw [am g,am (by omega)]
structure PL (w2:World) (g cap:Nat) (n:Nat) (L:List Nd) (ps:List Nat) (k:Nat) (wr:World):Prop where
 own:Ow KD wr 0 74 (.slice (some ⟨g,0,none⟩) n cap) (rO L ps k)
 only:ay (fun j=>j=g) w2 wr
theorem PL.step {g:Nat} (h:PL w2 g cap n L ps k wr) (hn:L.length=n) (hk:k < n):PL w2 g cap n L ps (k+1) (wr.setCell ⟨g,k * 3,none⟩ (ptr (ps.getD k 0))):=by
 have hl:(rO L ps k).length=n:=by rw [eX];exact hn
 have o:=h.own;rw [← hl] at o
 have e:=Rw.Ow.set o k 0 (by omega) (by decide) (ptr (ps.getD k 0)) { iC L k with s:=ps.getD k 0 } (by
  have q:(rO L ps k).getD k ndD=iC L k:=by
   have:=nY (L:=L) (ps:=ps) (k:=k) (i:=k) (by omega);rw [am (by omega)] at this;exact this
  show [ptr (ps.getD k 0),.bool (iC L k).live,.int .i64 (iC L k).rate]=(KD.enc ((rO L ps k).getD k ndD)).set 0 _
  rw [q]
  rfl)
 rw [Ql (by omega),hl] at e;exact ⟨e,h.only.trans (ay.set (fun j=>j=g) wr (a:=⟨g,k * 3,none⟩) rfl _) fun _ _ q=>q⟩
theorem Cl.carry (h:Cl w s F c t vn L p vq Fs) {g:Nat} (hg:vn = .slice (some ⟨g,0,none⟩) c.S.length cap) {S':bX} {v:Value} {Gs:Nat->Nat->Prop} (hj:PJ 72 w S' S'.length v ps Gs w2) (hS:S'.length=c.S.length) (hp:PL w2 g cap c.S.length L ps c.S.length w'):Cl w' s (Fx F w w') { c with S:=S' } t vn (rO L ps c.S.length) p vq Gs/\ay F w w':=by
 subst hg;have b:=hj.aI;have o:=hp.only;have hz:=cE b.size o.size;have gF:=h.fv g (.inl rfl);have gl:=h.low g gF;have h2:=h.below (b.mono (ac _));have hl:=h.len;have oo:ay F w w':=(ay.of_below b).trans o fun k _ e=>by rw [e];exact gF
 refine ⟨⟨(o.block s h2.slt fun e=>h2.vs.1 (by rw [e];rfl)).trans h2.row,hp.own,by rw [eX,hl,hS],fun i hi=>?_,fun i hi=>?_,fun i hi=>?_,h2.pr.only o (fun e=>h2.vp.1 (by rw [e];rfl)),aG h2.sp (fun k e q=>h2.vv g rfl (by rw [e,q])) o,.inl h.fs,.inl h.fp,fun k q=>.inl (h.fv k q),fun i hi k q=>?_,fun i j hi hj' hij k q=>?_,fun i hi k q=>?_,Fx.low h.low hz⟩,oo⟩
 ·rw [eX] at hi
  rw [nY hi,aw (by omega)];exact (hj.each i (by omega)).only (fun k q e=>by have:=(hj.lo i (by omega) k q).1;omega) o
 ·rw [eX] at hi
  rw [nY hi,aw (by omega)];exact h.lv i hi
 ·rw [eX] at hi
  rw [nY hi,aw (by omega)];exact h.rt i hi
 ·rw [eX] at hi
  have a:=(hj.lo i (by omega) k q).1;have c:=(hj.each i (by omega)).low k q;have d:=o.size;exact .inr ⟨a,by omega⟩
 ·rw [eX] at hi hj'
  exact hj.FQ i j (by omega) (by omega) hij k q
 ·rw [eX] at hi
  have a:=(hj.lo i (by omega) k q).1;have c1:=h.slt;have c2:=h.pr.lt;exact ⟨by omega,by omega,fun e=>by have:=h.low k (h.fv k (.inl e));omega,fun e=>by have:=h.low k (h.fv k (.inr e));omega⟩
end
open Fl (R4 K4 dF)
open Fs (aD yj)
open Pa (xV cK)
attribute [local irreducible] Sd.bA wpQuiet Sz.oH
def NwF (w wr:World) (k:Nat):Prop:=w.heap.size<=k/\k < wr.heap.size
variable {i:Nat}
theorem UL {S:bX} {x:aU×Int} (hi:i < S.length+1):aN (S ++ [x]) i=if i < S.length then aN S i else x:=by
 unfold aN;rw [ch];exact oK x ([],0) rfl hi
theorem Vi {V:List Bool} {b:Bool} (hi:i < V.length+1):bU (V ++ [b]) i=if i < V.length then bU V i else b:=by
 unfold bU;rw [ch];exact oK b false rfl hi
theorem zA {x:Nd} (hi:i < L.length+1):iC (L ++ [x]) i=if i < L.length then iC L i else x:=oK x ndD rfl hi
section
variable {s t p m q:Nat} {F G:Nat->Prop} {c:Cs} {vn vq v':Value} {L:List Nd} {Fs:Nat->Nat->Prop} {w w5 w6:World} {A:aU} {rate:Int}
theorem Cl.push (h:Cl w5 s F c t vn L p vq Fs) (hF:∀ k,F k->w.heap.size<=k/\k < m) (hv:c.V.length=c.S.length) (st:St w5 q G A 0) (hG:∀ k,G k->m<=k) (hm:w.heap.size<=m) (hr : -2000<=rate/\rate<=2000) (ow:Ow KD w6 0 74 v' (L ++ [⟨q,true,rate⟩])) (gr:w5.grownBy w6 vn.ownBlock) (hw:w.heap.size<=w5.heap.size) (hq:v'.ownBlock=vn.ownBlock\/∃ g,v'.ownBlock=some g/\w5.heap.size<=g) :
 Cl (w6.setCell ⟨s,0,none⟩ v') s (NwF w (w6.setCell ⟨s,0,none⟩ v')) { c with S:=c.S ++ [(A,0)],V:=c.V ++ [true] } t v' (L ++ [⟨q,true,rate⟩]) p vq (fun i=>if i < L.length then Fs i else G):=by
 have oq:=aV gr;have hl:=h.len;have zz:=gr.size;have hzz:(w6.setCell ⟨s,0,none⟩ v').heap.size=w6.heap.size:=by simp [World.setCell]
 have lv:∀ k,v'.ownBlock=some k->k < w6.heap.size:=fun k e=>(ci ow k e).2;have sne:=h.vs.1;have row1:=(oq.block s h.slt (fun e=>sne e)).trans h.row;have row2:(w6.setCell ⟨s,0,none⟩ v').heap[s]? = some (.cells #[v',ptr p,.int .i64 c.pl,vq] 69 (0,0)):=Rw.aB (j:=0) row1 _;have o3:ay (fun k=>k=s) w6 (w6.setCell ⟨s,0,none⟩ v'):=ay.set (fun k=>k=s) w6 (a:=⟨s,0,none⟩) rfl _;have inN:∀ k,F k->NwF w (w6.setCell ⟨s,0,none⟩ v') k:=fun k g=>⟨(hF k g).1,by rw [hzz];have:=h.low k g;omega⟩;have offG:∀ k,G k->k≠s/\k≠p/\v'.ownBlock≠some k/\vq.ownBlock≠some k/\vn.ownBlock≠some k:=fun k g=>by
  have g0:=hG k g;have gl:=st.low k g;have a1:=(hF s h.fs).2;have a2:=(hF p h.fp).2;have a3:∀ j,vn.ownBlock=some j->j < m:=fun j e=>(hF j (h.fv j (.inl e))).2;have a4:∀ j,vq.ownBlock=some j->j < m:=fun j e=>(hF j (h.fv j (.inr e))).2;refine ⟨by omega,by omega,fun e=>?_,fun e=>by have:=a4 k e;omega,fun e=>by have:=a3 k e;omega⟩
  rcases hq with q | ⟨j,q,hj⟩
  ·have:=a3 k (by rw [← q];exact e);omega
  ·rw [q] at e;injection e with e;omega
 have offF:∀ i,i < L.length->∀ k,Fs i k->k≠s/\k≠p/\v'.ownBlock≠some k/\vq.ownBlock≠some k/\vn.ownBlock≠some k:=fun i hi k g=>by
  have q0:=h.off i hi k g;refine ⟨q0.1,q0.2.1,fun e=>?_,q0.2.2.2,q0.2.2.1⟩
  rcases hq with q | ⟨j,q,hj⟩
  ·exact q0.2.2.1 (by rw [← q];exact e)
  ·rw [q] at e;injection e with e
   have:=h.low k (h.ff i hi k g);omega
 have hlen:(L ++ [(⟨q,true,rate⟩:Nd)]).length=L.length+1:=by simp
 refine ⟨row2,aG ow (fun k e q=>ow.apart row1 (by decide) (by rw [e,q])) o3,by rw [hlen];simp;omega,fun i hi=>?_,fun i hi=>?_,fun i hi=>?_,(h.pr.only oq (fun e=>h.vp.1 e)).only o3 (fun e=>h.Iv e.symm),aG (aG h.sp (fun k e q=>h.vv k q e) oq) (fun k e q=>h.vs.2 (by rw [e,q])) o3,inN s h.fs,inN p h.fp,fun k g=>?_,fun i hi k g=>?_,fun i j hi hj hij k g=>?_,fun i hi k g=>?_,fun k g=>g.2⟩
 ·rw [hlen] at hi
  show St _ _ _ (aN (c.S ++ [(A,0)]) i).1 (aN (c.S ++ [(A,0)]) i).2
  rw [zA hi,UL (by omega)]
  by_cases e:i < L.length
  ·rw [aw e,aw e,aw (by omega)]
   exact ((h.st i e).only (fun k g q=>(offF i e k g).2.2.2.2 q) oq).only (fun k g q=>(offF i e k g).1 q) o3
  ·rw [am e,am e,am (by omega)]
   exact (st.only (fun k g q=>(offG k g).2.2.2.2 q) oq).only (fun k g q=>(offG k g).1 q) o3
 ·rw [hlen] at hi
  show _=bU (c.V ++ [true]) i
  rw [zA hi,Vi (by omega)]
  by_cases e:i < L.length
  ·rw [aw e,aw (by omega)];exact h.lv i e
  ·rw [am e,am (by omega)]
 ·rw [hlen] at hi
  rw [zA hi]
  by_cases e:i < L.length
  ·rw [aw e];exact h.rt i e
  ·rw [am e];exact hr
 ·rcases g with g | g
  ·refine ⟨?_,by rw [hzz];exact lv k g⟩
   rcases hq with q | ⟨j,q,hj⟩
   ·exact (hF k (h.fv k (.inl (by rw [← q];exact g)))).1
   ·rw [q] at g;injection g with g;omega
  ·exact inN k (h.fv k (.inr g))
 ·rw [hlen] at hi
  by_cases e:i < L.length
  ·rw [aw e] at g;exact inN k (h.ff i e k g)
  ·rw [am e] at g
   refine ⟨by have:=hG k g;omega,by rw [hzz];have:=st.low k g;omega⟩
 ·rw [hlen] at hi hj
  have sep:∀ i,i < L.length->∀ k,Fs i k->G k->False:=fun i e k g g'=>by have:=(hF k (h.ff i e k g)).2;have:=hG k g';omega
  by_cases e:i < L.length
  ·rw [aw e] at g
   by_cases e':j < L.length
   ·rw [aw e'];exact h.FQ i j e e' hij k g
   ·rw [am e'];exact fun g'=>sep i e k g g'
  ·rw [am e] at g
   by_cases e':j < L.length
   ·rw [aw e'];exact fun g'=>sep j e' k g' g
   ·omega
 ·rw [hlen] at hi
  by_cases e:i < L.length
  ·rw [aw e] at g
   have:=offF i e k g;exact ⟨this.1,this.2.1,this.2.2.1,this.2.2.2.1⟩
  ·rw [am e] at g
   have:=offG k g;exact ⟨this.1,this.2.1,this.2.2.1,this.2.2.2.1⟩
end
def Um (w:World) (L:List Pl) (e:Ending) (w':World):Prop:=Below w.heap.size w w'/\((gK L=0/\∃ s F,e = .returned (.tuple #[ptr s,.int .i64 0])/\ClE w' s F (bT L) 0/\∀ j,F j->w.heap.size<=j)\/(gK L≠0/\e = .returned (.tuple #[.pointer none,.int .i64 (gK L)])))
structure TH (w:World) (L:List Pl) (s p k:Nat) (vn:Value) (LN:List Nd) (Fs:Nat->Nat->Prop) (wr:World):Prop where
 cl:Cl wr s (NwF w wr) (bT (L.take k)) 0 vn LN p (.slice none 0 0) Fs
 aI:Below w.heap.size w wr
 gd:Gds L k
theorem TH.below {w wr w':World} {L:List Pl} {s p k:Nat} {vn:Value} {LN:List Nd} {Fs:Nat->Nat->Prop} (h:TH w L s p k vn LN Fs wr) (b:Below wr.heap.size wr w'):TH w L s p k vn LN Fs w' :=
 ⟨(h.cl.below b).wide (fun _ g=>⟨g.1,cd g.2 b.size⟩) (fun _ g=>g.2),h.aI.trans (b.mono h.aI.size),h.gd⟩
variable {L:List Pl}
theorem QX (h:i < L.length):bT (L.take (i+1)) = { bT (L.take i) with S:=(bT (L.take i)).S ++ [((dP L i).1,0)],V:=(bT (L.take i)).V ++ [true] }:=by
 have e:=Cy h;have q:bT (L.take (i+1))=⟨(bT (L.take (i+1))).S,(bT (L.take (i+1))).V,Wt.new,0,[]⟩:=rfl;rw [q,e.1,e.2]
 rfl
variable {w W w5 w6 w1:World} {s p k q B:Nat}
theorem TH.step {vn v':Value} {LN:List Nd} {Fs:Nat->Nat->Prop} {G:Nat->Prop} (h:TH w L s p k vn LN Fs W) (b:Below W.heap.size W w5) (hk:k < L.length) (g:Oq (dP L k)) (st:St w5 q G (dP L k).1 0) (lo:∀ j,G j->W.heap.size<=j)
 (ow:Ow KD w6 0 74 v' (LN ++ [⟨q,true,(dP L k).2⟩])) (gr:w5.grownBy w6 vn.ownBlock) (hq:v'.ownBlock=vn.ownBlock\/∃ g,v'.ownBlock=some g/\w5.heap.size<=g):TH w L s p (k+1) v' (LN ++ [⟨q,true,(dP L k).2⟩]) (fun i=>if i < LN.length then Fs i else G) (w6.setCell ⟨s,0,none⟩ v'):=by
 have hz:=b.size;have hw:=h.aI.size;have hv:(bT (L.take k)).V.length=(bT (L.take k)).S.length:=by
  show (List.map _ _).length=(List.map _ _).length
  rw [cy,cy]
 have cl5:=h.cl.below b;have z:=cl5.push (w:=w) (m:=W.heap.size) (fun k g=>g) hv st lo hw g.2 ow gr (cE hw hz) hq;refine ⟨?_,?_,Jg h.gd g⟩
 ·rw [QX hk]
  exact z
 ·have b5:=h.aI.trans (b.mono hw)
  have b6:=b5.grown gr (cE hw hz) fun j e=>(h.cl.fv j (.inl e)).1;exact b6.setCell (h.cl.fs).1 _
theorem TH.start (b:Below w.heap.size w w1) (pr:Wt.Pr w1 p Wt.new 0) (hp:w.heap.size<=p):TH w L w1.heap.size p 0 (.slice none 0 0) [] (fun _ _=>False) (w1.alloc (.cells #[.slice none 0 0,ptr p,.int .i64 0,.slice none 0 0] 69)):=by
 have b2:=b.alloc b.size (.cells #[.slice none 0 0,ptr p,.int .i64 0,.slice none 0 0] 69);have bn:=(aa w1.heap.size w1).alloc (ac _) (.cells #[.slice none 0 0,ptr p,.int .i64 0,.slice none 0 0] 69);have z:(w1.alloc (.cells #[.slice none 0 0,ptr p,.int .i64 0,.slice none 0 0] 69)).heap.size=w1.heap.size+1:=by simp
 have hb:=b.size;have pl:=pr.lt;have no0:∀ {P:Prop} {i:Nat},i < ([]:List Nd).length->P:=fun h=>absurd h (fj _);refine ⟨⟨bc w1 _,Rw.Ow.nil _ _ _,rfl,fun i hi=>no0 hi,fun i hi=>no0 hi,fun i hi=>no0 hi,?_,Rw.Ow.nil _ _ _,⟨hb,by omega⟩,⟨hp,by omega⟩,fun k g=>?_,fun i hi=>no0 hi,fun i j hi=>no0 hi,fun i hi=>no0 hi,fun k g=>g.2⟩,b2,JV L⟩
 ·exact pr.only (G:=fun _=>False) (ay.of_below bn) (fun g=>g)
 ·rcases g with g | g <;> simp [Value.ownBlock] at g
theorem IU {v:Value} {L:List mF} (H:Cz w v L B):Calls prog 6 #[v] w (Um w (dK L)):=by
 have HH:=Hh H;obtain ⟨a,cap,rfl,_,hm,h3⟩:=H.rd;have H3:=Hh h3;have PLN:=Hh (iR L);clear h3 H;unfold maxLen at hm
 by_cases hs:L.length < 2\/32 < L.length
 ·have e1:gK (dK L)=1:=vZ (by rw [iR];exact hs)
  have E:Hid (∀ w',Below w.heap.size w w'->Um w (dK L) (.returned (.tuple #[.pointer none,.int .i64 1])) w'):=Hh (fun w' b=>⟨b,.inr ⟨by rw [e1];decide,by rw [e1]⟩⟩);clear HH H3 e1 PLN;generalize dK L=LL at *;generalize L.length=n at *
  by_cases h1:n < 2
  ·have p1:decide ((n:Int) < 2)=true:=bj (by omega)
   clear hs
   go_enter func6,ntmps6
   go_wp2
   go_ret2
   exact E _ (aa _ _)
  ·have p1:decide ((n:Int) < 2)=false:=ai (by omega)
   have p2:decide (32 < (n:Int))=true:=bj (by omega);clear hs
   go_enter func6,ntmps6
   go_wp2
   go_ret2
   exact E _ (aa _ _)
 ·have hs':¬ ((dK L).length < 2\/32 < (dK L).length):=by rw [iR];exact hs
  have BAD:Hid (∀ k,k < L.length->¬ Oq (dP (dK L) k)->∀ w',Below w.heap.size w w'->Um w (dK L) (.returned (.tuple #[.pointer none,.int .i64 2])) w'):=Hh (fun k hk g w' b=>by
   have e:=Oj hs' (by rw [iR];exact hk) g
   exact ⟨b,.inr ⟨by rw [e];decide,by rw [e]⟩⟩)
  have END:Hid (∀ (s p:Nat) (vn:Value) (LN:List Nd) (Fs:Nat->Nat->Prop) (wr w':World),TH w (dK L) s p L.length vn LN Fs wr->Below wr.heap.size wr w' ->
   (agB (aN (bT (dK L)).S 0).1 (aN (bT (dK L)).S 1).1=true->Um w (dK L) (.returned (.tuple #[.pointer (some ⟨s,0,none⟩),.int .i64 0])) w')/\(agB (aN (bT (dK L)).S 0).1 (aN (bT (dK L)).S 1).1=false->Um w (dK L) (.returned (.tuple #[.pointer none,.int .i64 10])) w')):=Hh (fun s p vn LN Fs wr w' I b=>by
   have h2:2<=(dK L).length:=by omega
   have ga:=OJ (L:=dK L) (by rw [iR];exact I.gd);obtain ⟨n0,n1⟩:=OY hs' ga;have ag:=Wk (dK L) h2;have bb:=I.aI.trans (b.mono I.aI.size);refine ⟨fun h=>⟨bb,.inl ⟨n0 (ag.1 h),s,NwF w wr,rfl,⟨vn,LN,p,.slice none 0 0,Fs,?_⟩,fun j g=>g.1⟩⟩,fun h=>?_⟩
   ·have c:=I.cl.below b
    have e:(dK L).take L.length=dK L:=by rw [← iR L];exact cW
    rw [e] at c;exact c
   ·have e:=n1 (fun g=>by rw [ag.2 g] at h;cases h)
    exact ⟨bb,.inr ⟨by rw [e];decide,by rw [e]⟩⟩)
  have NEW:=Hh (Wt.sP w);have LB:Hid (2<=L.length/\L.length<=32):=Hh (by omega);have p1:decide ((L.length:Int) < 2)=false:=ai (by omega);have p2:decide (32 < (L.length:Int))=false:=ai (by omega);clear hs hs';unfold Wt.Al at NEW;generalize hn:L.length=n at *;have HN:=Hh hn;clear hn
  go_enter func6,ntmps6
  go_wp2_with fail;refine NEW.mono ?_;rintro e w1 ⟨p,rfl,pr,hp,b1⟩;have I0:=Hh (TH.start (L:=dK L) b1 pr hp);clear NEW pr hp b1 p1 p2;unfold ptr at I0;go_upto_region 4 with fail;generalize (w1.alloc (.cells #[.slice none 0 0,.pointer (some ⟨p,0,none⟩),.int .i64 0,.slice none 0 0] 69))=wa at *;generalize w1.heap.size=s at *;go_wp2
  go_loopw [22] (fun i wr=>∃ (k:Nat) (vn:Value) (LN:List Nd) (Fs:Nat->Nat->Prop),k<=n/\i = .int .i64 k/\Hid (TH w (dK L) s p k vn LN Fs wr)) (fun i _=>n - (intOf i).toNat)
  case atStart=>exact ⟨0,_,_,_,cg _,rfl,I0⟩
  case round =>
   clear I0;obtain ⟨k,vn,LN,Fs,hk,rfl,I⟩:=hrel
   by_cases hlt:k < n
   ·have hkL:k < L.length:=by have:=HN.out;omega
    obtain ⟨b,off,rfl,hA⟩:=H3 (by omega);obtain ⟨x0,x1⟩:=Xh (hA.below I.aI) hkL;have HAA:=Hh hA;have PF:=Hh ((HH.file k hkL).below I.aI);have AT:=Hh (XU hkL);have KL:Hid (k < (dK L).length):=Hh (by rw [iR];exact hkL);have BADk:=Hh (fun g=>BAD k hlt g);clear hA hkL;generalize Be L k=c at *;obtain ⟨cf,cr,cF⟩:=c;unfold sl at *;simp only at x0 x1 PF;obtain ⟨fa,fl,fc,hfa⟩:∃ a b c,Hid (a=cf.1/\b=cf.2.1/\c=cf.2.2):=⟨_,_,_,rfl,rfl,rfl⟩;rw [← hfa.out.1,← hfa.out.2.1,← hfa.out.2.2] at x0 PF;have Y0:=Hh (bc wr (.cells #[.slice fa fl fc,.int .i64 cr] 71));have BN:=Hh ((aa wr.heap.size wr).alloc (ac _) (.cells #[.slice fa fl fc,.int .i64 cr] 71));go_upto_region 7 with fail;clear x0 x1;generalize wr.alloc (.cells #[.slice fa fl fc,.int .i64 cr] 71)=W at *;have I2:=Hh (I.below BN);have C:=Hh (El ⟨cf,cr,cF⟩ (w:=W) (B:=B) (by unfold sl;rw [← hfa.out.1,← hfa.out.2.1,← hfa.out.2.2];exact PF.out.below BN.out));unfold PlC sl at C;rw [← hfa.out.1,← hfa.out.2.1,← hfa.out.2.2] at C;obtain ⟨y0,y1⟩:=pI Y0;clear PF BN I Y0;generalize wr.heap.size=gx at *;rw [← AT.out] at C;go_wp2_with fail;refine C.mono ?_;rintro e w5 ⟨b5,hc⟩;have B5:=Hh b5;clear C b5 y0 y1
    rcases hc with ⟨g,q,G,rfl,st,lo⟩ | ⟨ng,rfl⟩
    ·have CR:Hid ((dP (dK L) k).2=cr):=Hh (by rw [AT.out];rfl)
     rw [CR.out];have GG:=Hh g;have LO:=Hh lo;have N0:=Hh (bc w5 (.cells #[.pointer (some ⟨q,0,none⟩),.bool true,.int .i64 cr] 74));have BA:=Hh ((aa w5.heap.size w5).alloc (ac _) (.cells #[.pointer (some ⟨q,0,none⟩),.bool true,.int .i64 cr] 74));have ST:=Hh (st.below BA);have B6:=aW B5 BA;have GN:=Hh B5.size;obtain ⟨av,cv,ev,-,-⟩:=I2.cl.slice;subst ev;have K0:=Hh ((I2.cl.below B6).cells.1);have NQ:Hid (∀ j,(Value.slice av (bT ((dK L).take k)).S.length cv).ownBlock=some j->j≠w5.heap.size/\j≠s):=Hh (fun j e=>⟨by have:=(I2.out.cl.fv j (.inl e)).2;have:=GN.out;omega,fun x=>I2.out.cl.vs.1 (by rw [e,x])⟩)
     have LL:Hid (LN.length<=32):=Hh (by
      have:=I2.cl.len;have q:(bT ((dK L).take k)).S.length=((dK L).take k).length:=cy _;rw [q,cH] at this;have:=LB.out
      omega)
     unfold ptr at *;go_upto_region 10 with fail;clear g lo st BA;generalize (w5.alloc (.cells #[.pointer (some ⟨q,0,none⟩),.bool true,.int .i64 cr] 74))=W6 at *;generalize w5.heap.size=gn at *;generalize hsl:(bT ((dK L).take k)).S.length=nl at *;clear hsl;have BD:=Hh (aa W6.heap.size W6).drew;have OD:Hid (ay (fun j=>(Value.slice av nl cv).ownBlock=some j) W6 W6.drew):=Hh (ay.of_below BD);have s0:=Sc.aA (C:=fun W'=>ay (fun j=>(Value.slice av nl cv).ownBlock=some j) W6 W') (a:=⟨s,0,none⟩) (fun W' oo=>oo.cell K0 (fun e=>(NQ _ e).2 rfl));have x0:=Sc.aA (C:=fun W'=>ay (fun j=>(Value.slice av nl cv).ownBlock=some j) W6 W') (a:=⟨gn,0,none⟩) (fun W' oo=>oo.cell (ah N0 0) (fun e=>(NQ _ e).1 rfl));have x1:=Sc.aA (C:=fun W'=>ay (fun j=>(Value.slice av nl cv).ownBlock=some j) W6 W') (a:=⟨gn,1,none⟩) (fun W' oo=>oo.cell (ah N0 1) (fun e=>(NQ _ e).1 rfl));have x2:=Sc.aA (C:=fun W'=>ay (fun j=>(Value.slice av nl cv).ownBlock=some j) W6 W') (a:=⟨gn,2,none⟩) (fun W' oo=>oo.cell (ah N0 2) (fun e=>(NQ _ e).1 rfl));have ne:Nonempty (Sc.In (fun W'=>ay (fun j=>(Value.slice av nl cv).ownBlock=some j) W6 W')):=⟨⟨_,OD⟩⟩;refine Sz.start (fun W'=>ay (fun j=>(Value.slice av nl cv).ownBlock=some j) W6 W') [(false,0),(false,1),(false,2),(false,3),(false,4),(false,5),(true,6),(true,7),(false,8),(false,9)] 10 (by kernel_rfl) (by kernel_rfl) (by kernel_rfl) rfl rfl OD ?_;dsimp only [Sd.aP,List.getElem?_cons_succ,List.getElem?_cons_zero]
     repeat (refine Sz.lit ?_;quiet_step (fail);refine bk ?_)
     clear s0 x0 x1 x2;have B7:=Hh (B6.trans (BD.mono (B6.size)));have ST7:=Hh (ST.below BD);generalize W6.drew=w7 at *;refine Sz.call (by rfl) (fun K hK=>?_);go_simp;have B8:=Hh (Below.alloc (aa w7.heap.size w7) (ac _) (.cells #[.pointer (some ⟨q,0,none⟩),.bool true,.int .i64 cr] 74));have Y8:=Hh (bc w7 (.cells #[.pointer (some ⟨q,0,none⟩),.bool true,.int .i64 cr] 74));have BW:=aW B7 B8;have ST8:=Hh (ST7.below B8);have O8:=Hh (OD.trans (ay.of_below (G:=fun j=>(Value.slice av nl cv).ownBlock=some j) B8) fun _ _ g=>g);refine hK _ _ (Sc.Cl.of O8) ?_;clear hK K B7 B8 ST7;generalize (w7.alloc (.cells #[.pointer (some ⟨q,0,none⟩),.bool true,.int .i64 cr] 74))=w8 at *;generalize w7.heap.size=g7 at *;have CL8:=Hh (I2.cl.below BW);refine Sz.call (by rfl) (fun K hK=>?_);refine cK (K:=KD) underlying67 aeg rfl (by omega) _ _ rfl 0 _ _ rfl CL8.out.no ⟨g7,0,none⟩ (⟨q,true,cr⟩:Nd) rfl ?a1 ?a2 (cg _) ?_
     case a1 =>
      intro j u hu
      have c:=ah Y8 j
      match j,hu with
      | 0,hu=>simp [KD,ptr] at hu;subst hu;exact c
      | 1,hu=>simp [KD] at hu;subst hu;exact c
      | 2,hu=>simp [KD] at hu;subst hu;exact c
      | j+3,hu=>simp [KD] at hu
     case a2=>have:=LL.out;omega
     intro v9 w9 o9 g9 h9
     have NEW:Hid (TH w (dK L) s p (k+1) v9 (LN ++ [⟨q,true,cr⟩]) (fun i=>if i < LN.length then Fs i else G) (w9.setCell ⟨s,0,none⟩ v9)):=Hh (by
      have z:=I2.step BW KL GG ST8 LO (by rw [CR.out];exact o9) g9 h9;rw [CR.out] at z
      exact z)
     have O9:=O8.trans (aV g9) fun _ _ g=>g;have c6:=O9.cell K0 (fun e=>(NQ _ e).2 rfl);have e6:=aj (((aV g9).block s CL8.slt (fun e=>(NQ _ e).2 rfl)).trans CL8.row) 0;obtain ⟨v9a,v9c,n9,rfl⟩:∃ a c n,v9 = .slice a n c:=by obtain ⟨a,c,e,_⟩:=o9.slice;exact ⟨a,c,_,e⟩
     refine hK _ _ (Sc.Cl.of O9) ?_;clear hK K o9 g9 h9 O9 Y8 O8 BW ST8 CL8 I2 B5 B6 ST
     repeat (refine Sz.lit ?_;quiet_step (fail);refine bk ?_)
     refine Sz.done ?_;go_simp;clear c6 e6;generalize (w9.setCell ⟨s,0,none⟩ (.slice v9a n9 v9c))=wz at *;refine NoPanic.normal ?_;have n32:=LB.out.2;go_wp2
     go_roundw
     case rel=>exact ⟨k+1,_,_,_,by omega,by go_num,NEW⟩
     case measure=>simp [intOf];omega
    ·have E:=Hh (fun w' (b:Below w5.heap.size w5 w')=>BADk ng w' ((I2.aI.trans (B5.mono I2.aI.size)).trans (b.mono (cE I2.aI.size B5.size))))
     have E2:=Hh (E _ ((aa w5.heap.size w5).alloc (ac _) (.cells #[.pointer none,.bool false,.int .i64 0] 74)));clear E ng I2 BADk BAD END;go_wp2
     go_ret2
     exact E2
   ·obtain rfl:k=n:=by omega
    have LC:Hid ((bT ((dK L).take k)).S.length=k):=Hh (by
     show (List.map _ _).length=k
     rw [cy,cH,iR,HN.out,Nat.min_self])
    have AG:=Hh (F8 I.cl (by rw [LC.out];exact LB.out.1));have EE:=Hh (END s p vn LN Fs wr);have TK:Hid ((dK L).take k=dK L):=Hh (by rw [← HN.out,← iR L];exact cW);rw [TK.out] at AG;clear BAD END;generalize agB (aN (bT (dK L)).S 0).1 (aN (bT (dK L)).S 1).1=ag at *;unfold ptr at AG;go_wp2_with fail;refine AG.mono ?_;rintro e w2 ⟨rfl,b2⟩;have E2:=Hh (EE w2 I b2);clear AG EE I b2
    cases ag with
    | true =>
      have E:=Hh (E2.out.1 rfl);clear E2;go_wp2
      go_ret2
      exact E
    | false =>
      have E:=Hh (E2.out.2 rfl);clear E2;go_wp2
      go_ret2
      exact E
end Cu
