import Derived.Test.YtdbdacceecnpmaaGreatDoorQo7
import Derived.Shelf.SlicesE.Kit
set_option maxRecDepth 100000
set_option maxHeartbeats 4000000
namespace Go.Proofs.YtdbdacceecnpmaaGreatDoor
open Go.Proofs.Tryz
open Ck (Hd J8 KS LL dH lX sE sl tE zh)
open Fl (ah aj)
open Fs (Fx Only St aA aT eY)
open Pa (Hr K2 KB KN aV aZ bW bX gz jR oQ ptr sP sat zS)
open Ro (E5 K5)
open Rw (Kind Ow Rd)
namespace Cu
open Go.RowKit
open Rw (At)
open Pa (bH)
open Re (KI fC tH pR rG)
attribute [local irreducible] Sd.aU wpQuiet
def er (a:Option (Int×Int)):Value:=match a with | none=>.nilIface | some x=>jk x.1 x.2
def KE:Rw.Kind (Option (Int×Int)):=⟨fun a=>[er a],1,by decide,fun _=>rfl,fun a u h=>by simp at h;subst h;cases a <;> rfl,none⟩
theorem om:(prog.info? 107).map (fun i=>(i.zero,i.size,i.bytes))=some (some .nilIface,1,16):=by kernel_rfl
theorem join_none (w:World) (b:Nat) (h0:w.cell? ⟨b,0,none⟩=some .nilIface) (h1:w.cell? ⟨b,1,none⟩=some .nilIface):Calls prog 54 #[.slice (some ⟨b,0,none⟩) 2 2] w fun e w'=>e = .returned .nilIface/\Below w.heap.size w w':=by
 go_enter func54,ntmps54
 go_wp2;refine wp_loop_rounds 3 ?_;rw [rounds_succ];go_wp2;rw [rounds_succ];go_wp2;rw [rounds_succ];go_wp2
 go_ret
 exact ⟨rfl,af _ _⟩
structure JI (w:World) (g6:Nat) (v:Value) (l:List (Option (Int×Int))) (wr:World):Prop where
 row:wr.heap[g6]? = some (.cells #[v] 170 (0,0))
 own:Ow KE wr w.heap.size 107 v l
 aD:Below w.heap.size w wr
 lo:w.heap.size<=g6
variable {w w1 w2:World} {g6:Nat} {v v':Value} {l l':List (Option (Int×Int))}
theorem JI.push (h:JI w g6 v l w1) (own:Ow KE w2 w.heap.size 107 v' l') (gr:w1.grownBy w2 v.ownBlock):w2.heap[g6]? = some (.cells #[v] 170 (0,0))/\JI w g6 v' l' (w2.setCell ⟨g6,0,none⟩ v'):=by
 have r2:=(gr.block g6 (bp h.row) (fun e=>h.own.apart h.row (by decide) e.symm)).trans h.row;have b2:=h.aD.grown gr h.aD.size fun j e=>(cJ h.own j e).1;exact ⟨r2,Rw.heap_setCell_same (j:=0) r2 v',own.far (p:=⟨g6,0,none⟩) r2 (by decide) _,b2.setCell h.lo _,h.lo⟩
theorem JI.below (h:JI w g6 v l w1) (b:Below w1.heap.size w1 w2):JI w g6 v l w2:=⟨(b.block g6 (bp h.row)).trans h.row,h.own.keep b,h.aD.trans (b.mono h.aD.size),h.lo⟩
theorem aa8 (w:World) (b:Nat) (n0 z0:Int) (h0:w.cell? ⟨b,0,none⟩=some (jk n0 z0)) (h1:w.cell? ⟨b,1,none⟩=some .nilIface):Calls prog 54 #[.slice (some ⟨b,0,none⟩) 2 2] w fun e w'=>(∃ p,e = .returned (.iface 168 (.pointer (some p))))/\Below w.heap.size w w':=by
 have H0:=Hh h0;have H1:=Hh h1;obtain ⟨i0,hi0,hz0,hz1,hz2⟩:=gg om;unfold jk Ka at *
 go_enter func54,ntmps54
 go_wp2;refine wp_loop_rounds 3 ?_;rw [rounds_succ];go_wp2;rw [rounds_succ];go_wp2;rw [rounds_succ]
 go_wp2_with (at_make;refine wpList_make_own _ rfl _ _ _ rfl w.heap.size 107 i0 .nilIface 1 underlying167 hi0 hz0 hz1 .i64 .i64 1 1 rfl rfl rfl (by rw [hz2];decide) (by unfold maxLen;decide) (am _) ?_)
 intro w2 ow2 gr2
 have B2:=Below.grown (af w.heap.size w) gr2 (am _) (fun j e=>by cases e);have J0:Hid (JI w w2.heap.size (.slice (some ⟨w.heap.size,0,none⟩) 0 1) [] (w2.alloc (.cells #[.slice (some ⟨w.heap.size,0,none⟩) 0 1] 170))):=Hh ⟨bi w2 _,gp ow2 _,B2.alloc B2.size _,B2.size⟩;clear ow2 gr2 B2 h0 h1 hi0 hz0 hz1 hz2;go_upto_region 11 with fail;generalize (w2.alloc (.cells #[.slice (some ⟨w.heap.size,0,none⟩) 0 1] 170))=wa at *;generalize w2.heap.size=g6 at *;have k0:=d9 J0.aD H0;go_wp2;refine wp_loop_rounds 3 ?_;rw [rounds_succ];have c6:=ah J0.row 0;have J0a:=Hh (J0.below ((af wa.heap.size wa).alloc (am _) (.cells #[.iface 166 (.agg #[.int .i64 n0,.iface 25 (.int .i64 z0)])] 107)))
 go_wp2_with (at_builtin;refine bH (K:=KE) underlying167 om rfl (by omega) rfl _ _ rfl w.heap.size _ _ rfl J0a.out.own _ (some (n0,z0)) rfl ?d1 ?d2 ?d3 ?_)
 case d1 =>
  intro j u hu
  match j,hu with
  | 0,hu=>simp [KE,er,jk,Ka] at hu;subst hu;go_simp
  | j+1,hu=>simp [KE] at hu
 case d2=>simp
 case d3=>exact J0a.aD.size
 intro v0 wb0 o0 gr0 _
 obtain ⟨r0,j0⟩:=J0a.push o0 (by simpa using gr0);have J0b:=Hh j0;have c6':=ah r0 0;have f6':=aj r0 0;obtain ⟨av0,cv0,ev0,_⟩:=o0.slice;clear o0 gr0 j0 J0 J0a c6 k0;generalize List.length _=lv0 at ev0;subst ev0;have k0:=d9 J0b.aD H1;go_upto_region 12 with fail;clear c6' f6' r0;generalize (wb0.setCell ⟨g6,0,none⟩ (.slice av0 lv0 cv0))=wc0 at *;rw [rounds_succ];have E:=Hh J0b.aD;go_wp2;rw [rounds_succ];go_wp2
 go_ret
 exact ⟨⟨_,rfl⟩,E⟩
theorem abn (w:World) (b:Nat) (n1 z1:Int) (h0:w.cell? ⟨b,0,none⟩=some .nilIface) (h1:w.cell? ⟨b,1,none⟩=some (jk n1 z1)):Calls prog 54 #[.slice (some ⟨b,0,none⟩) 2 2] w fun e w'=>(∃ p,e = .returned (.iface 168 (.pointer (some p))))/\Below w.heap.size w w':=by
 have H0:=Hh h0;have H1:=Hh h1;obtain ⟨i0,hi0,hz0,hz1,hz2⟩:=gg om;unfold jk Ka at *
 go_enter func54,ntmps54
 go_wp2;refine wp_loop_rounds 3 ?_;rw [rounds_succ];go_wp2;rw [rounds_succ];go_wp2;rw [rounds_succ]
 go_wp2_with (at_make;refine wpList_make_own _ rfl _ _ _ rfl w.heap.size 107 i0 .nilIface 1 underlying167 hi0 hz0 hz1 .i64 .i64 1 1 rfl rfl rfl (by rw [hz2];decide) (by unfold maxLen;decide) (am _) ?_)
 intro w2 ow2 gr2
 have B2:=Below.grown (af w.heap.size w) gr2 (am _) (fun j e=>by cases e);have J0:Hid (JI w w2.heap.size (.slice (some ⟨w.heap.size,0,none⟩) 0 1) [] (w2.alloc (.cells #[.slice (some ⟨w.heap.size,0,none⟩) 0 1] 170))):=Hh ⟨bi w2 _,gp ow2 _,B2.alloc B2.size _,B2.size⟩;clear ow2 gr2 B2 h0 h1 hi0 hz0 hz1 hz2;go_upto_region 11 with fail;generalize (w2.alloc (.cells #[.slice (some ⟨w.heap.size,0,none⟩) 0 1] 170))=wa at *;generalize w2.heap.size=g6 at *;have k0:=d9 J0.aD H0;go_wp2;refine wp_loop_rounds 3 ?_;rw [rounds_succ];go_wp2;clear k0;have k0:=d9 J0.aD H1;rw [rounds_succ];have c6:=ah J0.row 0;have J1a:=Hh (J0.below ((af wa.heap.size wa).alloc (am _) (.cells #[.iface 166 (.agg #[.int .i64 n1,.iface 25 (.int .i64 z1)])] 107)))
 go_wp2_with (at_builtin;refine bH (K:=KE) underlying167 om rfl (by omega) rfl _ _ rfl w.heap.size _ _ rfl J1a.out.own _ (some (n1,z1)) rfl ?d1 ?d2 ?d3 ?_)
 case d1 =>
  intro j u hu
  match j,hu with
  | 0,hu=>simp [KE,er,jk,Ka] at hu;subst hu;go_simp
  | j+1,hu=>simp [KE] at hu
 case d2=>simp
 case d3=>exact J1a.aD.size
 intro v1 wb1 o1 gr1 _
 obtain ⟨r1,j1⟩:=J1a.push o1 (by simpa using gr1);have J1b:=Hh j1;have c6':=ah r1 0;have f6':=aj r1 0;obtain ⟨av1,cv1,ev1,_⟩:=o1.slice;clear o1 gr1 j1 J0 J1a c6 k0;generalize List.length _=lv1 at ev1;subst ev1;have E:=Hh J1b.aD;clear r1 J1b;go_wp2;rw [rounds_succ];go_wp2
 go_ret
 exact ⟨⟨_,rfl⟩,E⟩
theorem aa7 (w:World) (b:Nat) (n0 z0:Int) (n1 z1:Int) (h0:w.cell? ⟨b,0,none⟩=some (jk n0 z0)) (h1:w.cell? ⟨b,1,none⟩=some (jk n1 z1)):Calls prog 54 #[.slice (some ⟨b,0,none⟩) 2 2] w fun e w'=>(∃ p,e = .returned (.iface 168 (.pointer (some p))))/\Below w.heap.size w w':=by
 have H0:=Hh h0;have H1:=Hh h1;obtain ⟨i0,hi0,hz0,hz1,hz2⟩:=gg om;unfold jk Ka at *
 go_enter func54,ntmps54
 go_wp2;refine wp_loop_rounds 3 ?_;rw [rounds_succ];go_wp2;rw [rounds_succ];go_wp2;rw [rounds_succ]
 go_wp2_with (at_make;refine wpList_make_own _ rfl _ _ _ rfl w.heap.size 107 i0 .nilIface 1 underlying167 hi0 hz0 hz1 .i64 .i64 2 2 rfl rfl rfl (by rw [hz2];decide) (by unfold maxLen;decide) (am _) ?_)
 intro w2 ow2 gr2
 have B2:=Below.grown (af w.heap.size w) gr2 (am _) (fun j e=>by cases e);have J0:Hid (JI w w2.heap.size (.slice (some ⟨w.heap.size,0,none⟩) 0 2) [] (w2.alloc (.cells #[.slice (some ⟨w.heap.size,0,none⟩) 0 2] 170))):=Hh ⟨bi w2 _,gp ow2 _,B2.alloc B2.size _,B2.size⟩;clear ow2 gr2 B2 h0 h1 hi0 hz0 hz1 hz2;go_upto_region 11 with fail;generalize (w2.alloc (.cells #[.slice (some ⟨w.heap.size,0,none⟩) 0 2] 170))=wa at *;generalize w2.heap.size=g6 at *;have k0:=d9 J0.aD H0;go_wp2;refine wp_loop_rounds 3 ?_;rw [rounds_succ];have c6:=ah J0.row 0;have J0a:=Hh (J0.below ((af wa.heap.size wa).alloc (am _) (.cells #[.iface 166 (.agg #[.int .i64 n0,.iface 25 (.int .i64 z0)])] 107)))
 go_wp2_with (at_builtin;refine bH (K:=KE) underlying167 om rfl (by omega) rfl _ _ rfl w.heap.size _ _ rfl J0a.out.own _ (some (n0,z0)) rfl ?d1 ?d2 ?d3 ?_)
 case d1 =>
  intro j u hu
  match j,hu with
  | 0,hu=>simp [KE,er,jk,Ka] at hu;subst hu;go_simp
  | j+1,hu=>simp [KE] at hu
 case d2=>simp
 case d3=>exact J0a.aD.size
 intro v0 wb0 o0 gr0 _
 obtain ⟨r0,j0⟩:=J0a.push o0 (by simpa using gr0);have J0b:=Hh j0;have c6':=ah r0 0;have f6':=aj r0 0;obtain ⟨av0,cv0,ev0,_⟩:=o0.slice;clear o0 gr0 j0 J0 J0a c6 k0;generalize List.length _=lv0 at ev0;subst ev0;have k0:=d9 J0b.aD H1;go_upto_region 12 with fail;clear c6' f6' r0;generalize (wb0.setCell ⟨g6,0,none⟩ (.slice av0 lv0 cv0))=wc0 at *;rw [rounds_succ];have c6:=ah J0b.row 0;have J1a:=Hh (J0b.below ((af wc0.heap.size wc0).alloc (am _) (.cells #[.iface 166 (.agg #[.int .i64 n1,.iface 25 (.int .i64 z1)])] 107)))
 go_wp2_with (at_builtin;refine bH (K:=KE) underlying167 om rfl (by omega) rfl _ _ rfl w.heap.size _ _ rfl J1a.out.own _ (some (n1,z1)) rfl ?d1 ?d2 ?d3 ?_)
 case d1 =>
  intro j u hu
  match j,hu with
  | 0,hu=>simp [KE,er,jk,Ka] at hu;subst hu;go_simp
  | j+1,hu=>simp [KE] at hu
 case d2=>simp
 case d3=>exact J1a.aD.size
 intro v1 wb1 o1 gr1 _
 obtain ⟨r1,j1⟩:=J1a.push o1 (by simpa using gr1);have J1b:=Hh j1;have c6':=ah r1 0;have f6':=aj r1 0;obtain ⟨av1,cv1,ev1,_⟩:=o1.slice;clear o1 gr1 j1 J0b J1a c6 k0;generalize List.length _=lv1 at ev1;subst ev1;have E:=Hh J1b.aD;clear r1 J1b;go_wp2;rw [rounds_succ];go_wp2
 go_ret
 exact ⟨⟨_,rfl⟩,E⟩
open Fl (ak)
open Pa (S2)
open Re (JZ sN sL gU bE)
theorem Jv (w:World) (v v':Value) (l l':List Int) (R:Rd KI w v l) (R':Rd KI w v' l'):Calls prog 55 #[v,v'] w fun e w'=>e = .returned (.bool (decide (l=l')))/\Below w.heap.size w w':=by
 have HNO:Hid (¬ l=l'->false=decide (l=l')):=Hh (fun h=>(bh h).symm);have HYES:Hid (l=l'->true=decide (l=l')):=Hh (fun b=>(bj b).symm);have HL:Hid (l.length=l'.length->(∀ i,i < l.length->fC l i=fC l' i)->l=l'):=Hh (fun a b=>rG a b);obtain ⟨a,cap,rfl,_,hm,hA⟩:=R;obtain ⟨a',cap',rfl,_,hm',hA'⟩:=R';have HA:=Hh hA;have HA':=Hh hA';unfold maxLen at hm hm';clear hA hA';have HNE:Hid (l.length≠l'.length->¬ (l=l')):=Hh (fun h2 h=>h2 (by rw [h]));generalize hq:decide (l=l')=q at *;clear hq;generalize hn:l.length=n at *;generalize hn':l'.length=n' at *;have HN:=Hh hn;have HN':=Hh hn';clear hn hn'
 by_cases h2:n=n'
 ·subst h2
  go_enter func55,ntmps55
  go_wp2
  go_loopw [13] (fun i wr=>∃ k:Nat,k<=n/\i = .int .i64 k/\Hid (Below w.heap.size w wr)/\Hid (∀ i,i < k->fC l i=fC l' i)) (fun i _=>n - (intOf i).toNat)
  case atStart=>exact ⟨0,cx _,rfl,Hh (af _ _),Hh (fun i hi=>by omega)⟩
  case round =>
   obtain ⟨j,hj,rfl,bw,hs⟩:=hrel
   by_cases hlt:j < n
   ·obtain ⟨b,off,rfl,A⟩:=HA (by omega)
    obtain ⟨b',off',rfl,A'⟩:=HA' (by omega);have c0:=Re.tH (A.below bw) j (by have:=HN.out;omega);have d0:=Re.tH (A'.below bw) j (by have:=HN'.out;omega);have HAA:=Hh A;have HAA':=Hh A';clear A A'
    by_cases he:fC l j=fC l' j
    ·have ST:Hid (∀ i,i < j+1->fC l i=fC l' i):=Hh (fun i hi=>by
      by_cases e:i=j
      ·rw [e];exact he
      ·exact hs i (by omega))
     have es:(fC l j != fC l' j)=false:=by simp [he]
     clear he;generalize fC l j=r at *;generalize fC l' j=r' at *;go_wp2
     go_quiet (fail)
     go_wp2
     go_roundw
     case rel=>exact ⟨j+1,by omega,by go_num,Hh (ii bw.out _),ST⟩
     case measure=>simp [intOf];omega
    ·have E:=Hh (HNO (fun h=>he (by rw [h])))
     have es:(fC l j != fC l' j)=true:=by simp [he]
     clear he;generalize fC l j=r at *;generalize fC l' j=r' at *;go_wp2
     go_quiet (fail)
     go_wp2
     go_ret
     exact ⟨ak E,ii bw _⟩
   ·have E:=Hh (HYES (HL (by trivial) (fun i hi=>hs.out i (by have:=HN.out;omega))))
    go_wp2
    go_ret
    exact ⟨ak E,bw⟩
 ·have E:=Hh (HNO (HNE h2))
  have q1:((n:Int) != (n':Int))=true:=by simp;omega
  clear HNO HYES HL HNE HA HA'
  go_enter func55,ntmps55
  go_wp2
  go_ret
  exact ⟨ak E,af _ _⟩
def ZI (A B:aT):Bool:=zL A && zL B && decide (jU A=jU B)
section
variable {s t p:Nat} {F G:Nat->Prop} {c:Cs} {vn vq:Value} {L:List Nd} {Fs:Nat->Nat->Prop} {w w':World}
theorem Fp (h:Cl w s F c t vn L p vq Fs) (hn:2<=c.S.length):Calls prog 26 #[ptr s] w fun e w'=>e = .returned (.bool (ZI (sat c.S 0).1 (sat c.S 1).1))/\Below w.heap.size w w':=by
 have C1:=Hh (jQ h (nn:=0) (by omega));have C2:=Hh (fun w1 b=>jQ (h.below (w':=w1) b) (nn:=1) (by omega));have AG:Hid (ZI (sat c.S 0).1 (sat c.S 1).1=(zL (sat c.S (0:Nat)).1 && zL (sat c.S (1:Nat)).1 && decide (jU (sat c.S (0:Nat)).1=jU (sat c.S (1:Nat)).1))):=Hh rfl;clear h;generalize ZI (sat c.S 0).1 (sat c.S 1).1=ag at *;generalize (sat c.S (0:Nat)).1=A at *;generalize (sat c.S (1:Nat)).1=B at *;unfold SqC ptr at *
 go_enter func26,ntmps26
 go_wp2_with fail;refine C1.mono ?_;rintro e w1 ⟨b1,hc1⟩;have D2:=Hh (C2 w1 b1);have B1:=Hh b1;clear C1 C2 b1
 rcases hc1 with ⟨hs1,u1,rfl,r1⟩ | ⟨hs1,rfl⟩
 ·have R1:=Hh r1
  obtain ⟨a1,c1,rfl,_⟩:=r1.slice;clear r1;generalize hl1:(jU A).length=n1 at *;clear hl1;go_wp2_with fail;refine D2.mono ?_;rintro e w2 ⟨b2,hc2⟩;have B2:=aN B1 b2;have R1':=Hh (R1.below b2);clear D2 B1 R1 b2
  rcases hc2 with ⟨hs2,u2,rfl,r2⟩ | ⟨hs2,rfl⟩
  ·have R2:=Hh r2
   obtain ⟨a2,c2,rfl,_⟩:=r2.slice;clear r2;generalize hl2:(jU B).length=n2 at *;clear hl2;rw [hs1,hs2] at AG;have BA:=Hh ((af w2.heap.size w2).alloc (am _) (.cells #[.nilIface,.nilIface] 107));have X0:=Hh (bi w2 (.cells #[.nilIface,.nilIface] 107));have J:=Hh (join_none (w2.alloc (.cells #[.nilIface,.nilIface] 107)) w2.heap.size (ah X0 0) (ah X0 1));have B3:=aN B2 BA;have R1a:=Hh (R1'.below BA);have R2a:=Hh (R2.below BA);clear hs1 hs2 R1' R2 B2 X0;go_wp2_with fail;refine J.mono ?_;rintro e w3 ⟨rfl,b3⟩;have EQ:=Hh (Jv w3 _ _ _ _ (R1a.below b3) (R2a.below b3));have B4:=aN B3 b3;clear J b3 R1a R2a B3 BA;go_wp2_with fail;refine EQ.mono ?_;rintro e w4 ⟨rfl,b4⟩;have E:Hid (decide (jU A=jU B)=ag/\Below w.heap.size w w4):=Hh ⟨by rw [AG.out];rfl,aN B4 b4⟩;clear EQ b4 B4 AG;generalize decide (jU A=jU B)=dd at *;go_wp2
   go_ret
   exact ⟨ak E.out.1,E.out.2⟩
  ·rw [hs1,hs2] at AG
   unfold jk Ka at *;have BA:=Hh ((af w2.heap.size w2).alloc (am _) (.cells #[.nilIface,.iface 166 (.agg #[.int .i64 1,.iface 25 (.int .i64 2)])] 107));have X0:=Hh (bi w2 (.cells #[.nilIface,.iface 166 (.agg #[.int .i64 1,.iface 25 (.int .i64 2)])] 107));have J:=Hh (abn (w2.alloc (.cells #[.nilIface,.iface 166 (.agg #[.int .i64 1,.iface 25 (.int .i64 2)])] 107)) w2.heap.size 1 2 (ah X0 0) (ah X0 1));have B3:=aN B2 BA;have E:=Hh (show ag=false by rw [AG.out];rfl);clear hs1 hs2 R1' B2 X0 AG;go_wp2_with fail;refine J.mono ?_;rintro e w3 ⟨⟨pp,rfl⟩,b3⟩;have B4:=aN B3 b3;clear J b3 B3 BA;go_wp2
   go_ret
   exact ⟨ak E.symm,B4⟩
 ·go_wp2_with fail
  refine D2.mono ?_;rintro e w2 ⟨b2,hc2⟩;have B2:=aN B1 b2;clear D2 B1 b2
  rcases hc2 with ⟨hs2,u2,rfl,r2⟩ | ⟨hs2,rfl⟩
  ·obtain ⟨a2,c2,rfl,_⟩:=r2.slice
   clear r2;generalize hl2:(jU B).length=n2 at *;clear hl2;rw [hs1,hs2] at AG;unfold jk Ka at *;have BA:=Hh ((af w2.heap.size w2).alloc (am _) (.cells #[.iface 166 (.agg #[.int .i64 0,.iface 25 (.int .i64 2)]),.nilIface] 107));have X0:=Hh (bi w2 (.cells #[.iface 166 (.agg #[.int .i64 0,.iface 25 (.int .i64 2)]),.nilIface] 107));have J:=Hh (aa8 (w2.alloc (.cells #[.iface 166 (.agg #[.int .i64 0,.iface 25 (.int .i64 2)]),.nilIface] 107)) w2.heap.size 0 2 (ah X0 0) (ah X0 1));have B3:=aN B2 BA;have E:=Hh (show ag=false by rw [AG.out];rfl);clear hs1 hs2 B2 X0 AG;go_wp2_with fail;refine J.mono ?_;rintro e w3 ⟨⟨pp,rfl⟩,b3⟩;have B4:=aN B3 b3;clear J b3 B3 BA;go_wp2
   go_ret
   exact ⟨ak E.symm,B4⟩
  ·rw [hs1,hs2] at AG
   unfold jk Ka at *;have BA:=Hh ((af w2.heap.size w2).alloc (am _) (.cells #[.iface 166 (.agg #[.int .i64 0,.iface 25 (.int .i64 2)]),.iface 166 (.agg #[.int .i64 1,.iface 25 (.int .i64 2)])] 107));have X0:=Hh (bi w2 (.cells #[.iface 166 (.agg #[.int .i64 0,.iface 25 (.int .i64 2)]),.iface 166 (.agg #[.int .i64 1,.iface 25 (.int .i64 2)])] 107));have J:=Hh (aa7 (w2.alloc (.cells #[.iface 166 (.agg #[.int .i64 0,.iface 25 (.int .i64 2)]),.iface 166 (.agg #[.int .i64 1,.iface 25 (.int .i64 2)])] 107)) w2.heap.size 0 2 1 2 (ah X0 0) (ah X0 1));have B3:=aN B2 BA;have E:=Hh (show ag=false by rw [AG.out];rfl);clear hs1 hs2 B2 X0 AG;go_wp2_with fail;refine J.mono ?_;rintro e w3 ⟨⟨pp,rfl⟩,b3⟩;have B4:=aN B3 b3;clear J b3 B3 BA;go_wp2
   go_ret
   exact ⟨ak E.symm,B4⟩
end
theorem Qx (L:List Pl) (h:2<=L.length):ZI (sat (newC L).S 0).1 (sat (newC L).S 1).1=true↔agree L:=by
 have s0:(sat (newC L).S 0).1=(fH L 0).1:=by rw [show sat (newC L).S 0=_ from C7 (L:=L) (i:=0) (by omega)]
 have s1:(sat (newC L).S 1).1=(fH L 1).1:=by rw [show sat (newC L).S 1=_ from C7 (L:=L) (i:=1) (by omega)]
 rw [s0,s1];unfold ZI agree;generalize (fH L 0).1=A;generalize (fH L 1).1=B;have F:∀ A:aT,zL A=true->JZ (fP A 40) (fR A 40)/\jU A=gU (fR A 40)/\fB A 40=true:=fun A h=>by
  unfold zL at h;rw [cg,cQ] at h;obtain ⟨h1,h2⟩:=h;have i:JZ (fP A 40) (fR A 40):=by
   unfold sN at h2
   split at h2
   ·assumption
   ·omega
  exact ⟨i,(Re.LM i).1,h1⟩
 rw [cg,cg,cQ]
 constructor
 ·rintro ⟨⟨hA,hB⟩,he⟩
  obtain ⟨iA,tA,_⟩:=F A hA;obtain ⟨iB,tB,bB⟩:=F B hB;refine ⟨hA,bB,by rw [iA.2.2.1,iB.2.2.1],?_⟩;rw [iA.2.2.2,iB.2.2.2,← tA,← tB,he]
 ·rintro ⟨hA,hB,hp,hr⟩
  obtain ⟨iA,tA,_⟩:=F A hA;have hB':zL B=true:=by
   unfold zL;rw [hB,← hp,← hr,(Re.LM iA).2]
   rfl
  refine ⟨⟨hA,hB'⟩,?_⟩;obtain ⟨_,tB,_⟩:=F B hB';rw [tA,tB,hr]
end Cu
namespace Tk
def fr (A:Nat->Int):Nat->Int
 | 0=>0
 | k+1=>A k
def rt (R:Nat->Int):Nat->Int
 | 0=>0
 | k+1=>R k
def sm (A R:Nat->Int):Nat->Int
 | 0=>0
 | k+1=>sm A R k+(A k - fr A k) * (1000000+rt R k)
def ep (A:Nat->Int) (n:Nat) (t:Int) (k:Nat):Prop:=k<=n/\(∀ i,i < k->A i < t)/\(k < n->t<=A k)
variable {A R:Nat->Int} {n k j:Nat} {t:Int}
theorem ep.uniq (h:ep A n t k) (g:ep A n t j):k=j:=by
 obtain ⟨h1,h2,h3⟩:=h;obtain ⟨g1,g2,g3⟩:=g
 rcases Nat.lt_trichotomy k j with c | c | c
 ·have a:=h3 (by omega);have b:=g2 k c;omega
 ·exact c
 ·have a:=g3 (by omega);have b:=h2 j c;omega
theorem ep.ex (A:Nat->Int) (n:Nat) (t:Int):∃ k,ep A n t k:=by
 induction n with
 | zero=>exact ⟨0,am _,fun i h=>by omega,fun h=>by omega⟩
 | succ n ih =>
   obtain ⟨k,h1,h2,h3⟩:=ih
   by_cases hk:k < n
   ·exact ⟨k,by omega,h2,fun _=>h3 hk⟩
   ·obtain rfl:k=n:=by omega
    by_cases ha:A k < t
    ·refine ⟨k+1,by omega,fun i hi=>?_,fun h=>by omega⟩
     by_cases e:i=k
     ·subst e;exact ha
     ·exact h2 i (by omega)
    ·exact ⟨k,by omega,h2,fun _=>by omega⟩
noncomputable def stop (A:Nat->Int) (n:Nat) (t:Int):Nat:=(ep.ex A n t).choose
theorem vN (A:Nat->Int) (n:Nat) (t:Int):ep A n t (stop A n t):=(ep.ex A n t).choose_spec
theorem XZ (h:ep A n t k):stop A n t=k:=(vN A n t).uniq h
def pp (A R:Nat->Int) (k:Nat) (t:Int):Int:=sm A R k+(t - fr A k) * (1000000+rt R k)
noncomputable def PP (A R:Nat->Int) (n:Nat) (t:Int):Int:=pp A R (stop A n t) t
theorem pZ (h:ep A n t k):PP A R n t=pp A R k t:=by rw [PP,XZ h]
def jE (t:Int):Int:=if t < 0 then 0 else if 4294967296 < t then 4294967296 else t
theorem U5 (t:Int):0<=jE t:=by unfold jE;split <;> (try split) <;> omega
theorem Sf (t:Int):jE t<=4294967296:=by unfold jE;split <;> (try split) <;> omega
theorem eG (h:0<=t) (h':t<=4294967296):jE t=t:=by unfold jE;split <;> (try split) <;> omega
noncomputable def Loc (A R:Nat->Int) (n:Nat) (t:Int):Int:=PP A R n (jE t) / 1000000
structure bA (n:Nat) (A R:Nat->Int):Prop where
 len:n<=64
 at_:∀ i,i < n->0<=A i/\A i<=4294967296
 rate:∀ i,i < n->-20000<=R i/\R i<=20000
 up:∀ i,i+1 < n->A i < A (i+1)
noncomputable def cB (n:Nat) (A R:Nat->Int):Bool:=@decide (bA n A R) (Classical.propDecidable _)
theorem jA : cB n A R=true↔bA n A R:=by unfold cB;exact @decide_eq_true_iff _ (Classical.propDecidable _)
theorem sj (h:bA n A R):cB n A R=true:=jA.2 h
theorem yC (h:¬ bA n A R):cB n A R=false:=by
 cases e:cB n A R with
 | false=>rfl
 | true=>exact absurd (jA.1 e) h
section
variable {n:Nat} {A R:Nat->Int}
theorem Hy (g:bA n A R) (k:Nat) (h:k<=n) : -20000<=rt R k/\rt R k<=20000:=by
 cases k with
 | zero=>exact ⟨by simp [rt],by simp [rt]⟩
 | succ k=>exact g.rate k (by omega)
theorem Zm (g:bA n A R) (k:Nat) (h:k<=n):0<=fr A k/\fr A k<=4294967296:=by
 cases k with
 | zero=>exact ⟨by simp [fr],by simp [fr]⟩
 | succ k=>exact g.at_ k (by omega)
theorem Zh (g:bA n A R) (k:Nat) (h:k < n):fr A k<=A k:=by
 cases k with
 | zero=>exact (g.at_ 0 h).1
 | succ k=>exact Int.le_of_lt (g.up k h)
variable {d c u:Int}
theorem JS (h:0<=d) (h1:980000<=c) (h2:c<=1020000):d * 980000<=d * c/\d * c<=d * 1020000 :=
 ⟨Int.mul_le_mul_of_nonneg_left h1 h,Int.mul_le_mul_of_nonneg_left h2 h⟩
theorem Zd (g:bA n A R) (k:Nat) (h:k<=n):fr A k * 980000<=sm A R k/\sm A R k<=fr A k * 1020000:=by
 induction k with
 | zero=>simp [fr,sm]
 | succ k ih =>
   have i:=ih (by omega);have b:=Hy g k (by omega);have f:=Zh g k (by omega);have m:=JS (d:=A k - fr A k) (c:=1000000+rt R k) (by omega) (by omega) (by omega)
   show A k * 980000<=sm A R k+(A k - fr A k) * (1000000+rt R k)/\sm A R k+(A k - fr A k) * (1000000+rt R k)<=A k * 1020000
   generalize (A k - fr A k) * (1000000+rt R k)=z at m ⊢
   omega
theorem acZ (g:bA n A R) (k:Nat) (h:k<=n) (t:Int) (ht:fr A k<=t):t * 980000<=pp A R k t/\pp A R k t<=t * 1020000:=by
 have i:=Zd g k h;have b:=Hy g k h;have m:=JS (d:=t - fr A k) (c:=1000000+rt R k) (by omega) (by omega) (by omega);unfold pp;generalize (t - fr A k) * (1000000+rt R k)=z at m ⊢
 omega
theorem Bq (h0:0<=t) (h:ep A n t k):fr A k<=t:=by
 cases k with
 | zero=>exact h0
 | succ k=>exact Int.le_of_lt (h.2.1 k (by omega))
theorem Bc (g:bA n A R) (t:Int) (h0:0<=t):t * 980000<=PP A R n t/\PP A R n t<=t * 1020000:=by
 have s:=vN A n t;exact acZ g _ s.1 t (Bq h0 s)
theorem Ld (g:bA n A R) (t:Int):∃ c,980000<=c/\c<=1020000/\PP A R n (t+1)=PP A R n t+c:=by
 have s:=vN A n t;generalize hk:stop A n t=k at s;obtain ⟨s1,s2,s3⟩:=s;rw [pZ ⟨s1,s2,s3⟩]
 by_cases hn:k < n/\A k < t+1
 ·obtain ⟨hn,ha⟩:=hn
  have e:A k=t:=by have:=s3 hn;omega
  have st:ep A n (t+1) (k+1):=by
   refine ⟨hn,fun i hi=>?_,fun h=>?_⟩
   ·by_cases c:i=k
    ·subst c;exact ha
    ·have:=s2 i (by omega);omega
   ·have:=g.up k h;omega
  rw [pZ st];have b:=g.rate k hn;refine ⟨1000000+R k,by omega,by omega,?_⟩
  show sm A R k+(A k - fr A k) * (1000000+rt R k)+(t+1 - A k) * (1000000+R k)=sm A R k+(t - fr A k) * (1000000+rt R k)+(1000000+R k)
  rw [e,show t+1 - t=1 by omega,Int.one_mul]
 ·have st:ep A n (t+1) k:=by
   refine ⟨s1,fun i hi=>?_,fun h=>?_⟩
   ·have:=s2 i hi;omega
   ·have:=s3 h;omega
  rw [pZ st];have b:=Hy g k s1;refine ⟨1000000+rt R k,by omega,by omega,?_⟩;unfold pp;rw [show t+1 - fr A k=(t - fr A k)+1 by omega,Int.add_mul,Int.one_mul]
  omega
theorem mW (g:bA n A R):PP A R n 0=0:=by have:=Bc g 0 (by decide);omega
theorem aad (g:bA n A R) (t:Int) (d:Nat):PP A R n t+980000 * d<=PP A R n (t+d)/\PP A R n (t+d)<=PP A R n t+1020000 * d:=by
 induction d with
 | zero=>simp
 | succ d ih =>
   obtain ⟨c,c1,c2,e⟩:=Ld g (t+d);rw [show t+((d+1:Nat):Int)=t+d+1 by omega,e]
   omega
theorem Dt (g:bA n A R) (h:t<=u):PP A R n t<=PP A R n u:=by
 have:=(aad g t (u - t).toNat).1;rw [show t+((u - t).toNat:Int)=u by omega] at this
 omega
theorem Je (h:t<=u):jE t<=jE u:=by unfold jE;repeat' split <;> omega
theorem UC (g:bA n A R) (h:t<=u):Loc A R n t<=Loc A R n u:=by
 unfold Loc;have:=Dt g (Je h)
 omega
theorem QY (g:bA n A R) (t:Int) (h0:0<=t) (h1:t<=4294967296):Loc A R n t<=t+t / 50/\t - t / 50 - 1<=Loc A R n t:=by
 unfold Loc;rw [eG h0 h1];have:=Bc g t h0
 omega
end
structure Il (A R:Nat->Int) (n:Nat) (m g:Int):Prop where
 lo:0<=g
 hi:g<=4294967296
 before:∀ t,0<=t->t < g->Loc A R n t < m
 there:g < 4294967296->m<=Loc A R n g
variable {m k:Int}
theorem Il.uniq {g:Int} (h:Il A R n m g) (i:Il A R n m k):g=k:=by
 have a:=h.lo;have b:=h.hi;have c:=i.lo;have d:=i.hi
 rcases Int.lt_trichotomy g k with e | e | e
 ·have x:=h.there (by omega);have y:=i.before g a e;omega
 ·exact e
 ·have x:=i.there (by omega);have y:=h.before k c e;omega
theorem Rz (f:Int->Int) (m:Int) (N:Nat):(∃ g:Int,0<=g/\g < N/\(∀ t,0<=t->t < g->f t < m)/\m<=f g)\/(∀ t:Int,0<=t->t < N->f t < m):=by
 induction N with
 | zero=>exact .inr fun t h h'=>by omega
 | succ N ih =>
   rcases ih with ⟨g,g0,g1,g2,g3⟩ | h
   ·exact .inl ⟨g,g0,by omega,g2,g3⟩
   ·by_cases c:f N < m
    ·refine .inr fun t t0 t1=>?_
     by_cases e:t=N
     ·subst e;exact c
     ·exact h t t0 (by omega)
    ·exact .inl ⟨N,by omega,by omega,h,by omega⟩
theorem Il.ex (A R:Nat->Int) (n:Nat) (m:Int):∃ g,Il A R n m g:=by
 generalize hN:(4294967296:Int).toNat=N;have e:(N:Int)=4294967296:=by omega
 rcases Rz (Loc A R n) m N with ⟨g,g0,g1,g2,g3⟩ | h
 ·exact ⟨g,g0,by omega,g2,fun _=>g3⟩
 ·exact ⟨4294967296,by omega,by omega,fun t t0 t1=>h t t0 (by omega),fun h=>by omega⟩
noncomputable def bR (A R:Nat->Int) (n:Nat) (m:Int):Int:=(Il.ex A R n m).choose
theorem eF (A R:Nat->Int) (n:Nat) (m:Int):Il A R n m (bR A R n m):=(Il.ex A R n m).choose_spec
theorem Bt {g:Int} (h:Il A R n m g):bR A R n m=g:=(eF A R n m).uniq h
theorem Il.Xx {g:Int} (h0:0<=g) (h1:g<=4294967296) (hl:∀ t,0<=t->t < g->Loc A R n t < m) (hh:g < 4294967296->m<=Loc A R n g):Il A R n m g:=⟨h0,h1,hl,hh⟩
end Tk
namespace Sp
open Go.RowKit
abbrev S2:=Int×Int
def fr (l:List S2) (i:Nat):Int:=(l.getD i (0,0)).1
def tp (l:List S2) (i:Nat):Int:=(l.getD i (0,0)).2
def flat:List S2->List Value
 | []=>[]
 | s :: r=>.int .i64 s.1 :: .int .i64 s.2 :: flat r
theorem cZ:∀ l:List S2,(flat l).length=l.length * 2
 | []=>rfl
 | s :: r=>by simp [flat,cZ r];omega
theorem gG:∀ a b:List S2,flat (a ++ b)=flat a ++ flat b
 | [],_=>rfl
 | s :: r,b=>by simp [flat,gG r b]
theorem flat_get:∀ (l:List S2) (i:Nat),i < l.length->(flat l)[i * 2]? = some (.int .i64 (fr l i))/\(flat l)[i * 2+1]? = some (.int .i64 (tp l i))
 | s :: r,0,_=>⟨rfl,rfl⟩
 | s :: r,i+1,h=>by
   have ih:=flat_get r i (by simpa using h);have e:(i+1) * 2=i * 2+1+1:=by omega
   rw [e];exact ih
def At (w:World) (b off:Nat) (l:List S2):Prop:=∀ i,i < l.length->w.cell? ⟨b,off+i * 2,none⟩=some (.int .i64 (fr l i))/\w.cell? ⟨b,off+i * 2+1,none⟩=some (.int .i64 (tp l i))
def Sp (w:World) (v:Value) (l:List S2):Prop:=∃ a cap,v = .slice a l.length cap/\l.length<=cap/\cap<=maxLen/\(0 < l.length->∃ b off,a=some ⟨b,off,none⟩/\At w b off l)
def Own (w:World) (B E:Nat) (v:Value) (l:List S2):Prop:=w.ownsRow B E 2 v l.length (flat l)
variable {w w':World} {b off B E j:Nat} {l:List S2}
theorem At.below (h:At w b off l) (hb:Below w.heap.size w w'):At w' b off l:=fun i hi=>by
 obtain ⟨c1,c2⟩:=h i hi;exact ⟨d9 hb c1,d9 hb c2⟩
theorem Sp.below {w w':World} {v:Value} {l:List S2} (h:Sp w v l) (hb:Below w.heap.size w w'):Sp w' v l:=by
 obtain ⟨a,cap,e,h1,h2,h3⟩:=h;exact ⟨a,cap,e,h1,h2,fun hp=>by obtain ⟨b,off,ea,hA⟩:=h3 hp;exact ⟨b,off,ea,hA.below hb⟩⟩
theorem Sp.slice {w:World} {v:Value} {l:List S2} (h:Sp w v l):∃ a cap,v = .slice a l.length cap/\cap<=maxLen:=by
 obtain ⟨a,cap,e,_,h2,_⟩:=h;exact ⟨a,cap,e,h2⟩
theorem Own.nil (w:World) (B E:Nat):Own w B E (.slice none 0 0) []:=World.ownsRow_nil _ _ _ _
theorem Own.made (w:World) (B E:Nat) (hB:B<=w.heap.size):Own (w.alloc (.cells #[] E)) B E (.slice (some ⟨w.heap.size,0,none⟩) 0 0) [] :=
 World.ownsRow_made w #[] 0 hB (by unfold maxLen;omega) (by simp)
variable {v v':Value}
theorem Own.sp (h:Own w B E v l):Sp w v l:=by
 have hc:=fun g hg j u=>World.ownsRow.cells h (g:=g) hg j u;obtain ⟨_,h⟩:=h
 rcases h with ⟨rfl,h0⟩ | ⟨g,cap,cur,rfl,_,_,h1,h2,_⟩
 ·exact ⟨none,0,by rw [h0],by omega,by unfold maxLen;omega,fun h=>by omega⟩
 ·refine ⟨_,cap,rfl,h1,h2,fun _=>⟨g,0,rfl,fun i hi=>?_⟩⟩
  obtain ⟨g1,g2⟩:=flat_get l i hi;have c1:=hc g rfl _ _ g1;have c2:=hc g rfl _ _ g2;simp only [Addr.add_lit] at c1 c2;exact ⟨c1,by rw [← Nat.add_assoc] at c2;exact c2⟩
theorem Own.form (h:Own w B E v l) (hl:0 < l.length):∃ g cap,v = .slice (some ⟨g,0,none⟩) l.length cap/\B<=g/\g < w.heap.size/\l.length<=cap/\cap<=maxLen/\w.frozen? ⟨g,0,none⟩=false /\
 (∀ i,i < l.length->w.cell? ⟨g,i * 2,none⟩=some (.int .i64 (fr l i))/\w.cell? ⟨g,i * 2+1,none⟩=some (.int .i64 (tp l i))/\w.frozen? ⟨g,i * 2,none⟩=false/\w.frozen? ⟨g,i * 2+1,none⟩=false):=by
 have hc:=fun g hg j u=>World.ownsRow.cells h (g:=g) hg j u;obtain ⟨_,h⟩:=h
 rcases h with ⟨_,h0⟩ | ⟨g,cap,cur,rfl,hB,hh,h1,h2,_⟩
 ·omega
 ·refine ⟨g,cap,rfl,hB,bp hh,h1,h2,by simp [World.frozen?,hh],fun i hi=>?_⟩
  obtain ⟨g1,g2⟩:=flat_get l i hi;have c1:=hc g rfl _ _ g1;have c2:=hc g rfl _ _ g2;simp only [Addr.add_lit,fd] at c1 c2;exact ⟨c1,c2,by simp [World.frozen?,hh],by simp [World.frozen?,hh]⟩
theorem Own.slice {w:World} {B E:Nat} {v:Value} {l:List S2} (h:Own w B E v l):∃ a cap,v = .slice a l.length cap/\l.length<=cap/\cap<=maxLen:=by
 obtain ⟨_,h⟩:=h
 rcases h with ⟨rfl,h0⟩ | ⟨g,cap,cur,rfl,_,_,h1,h2,_⟩
 ·exact ⟨none,0,by rw [h0],by omega,by unfold maxLen;omega⟩
 ·exact ⟨_,_,rfl,h1,h2⟩
theorem Own.alloc {w:World} {B E:Nat} {v:Value} {l:List S2} (h:Own w B E v l) (o:Obj):Own (w.alloc o) B E v l:=gp h o
theorem Own.draw (h:Own w B E v l) (n:Nat):Own (w.drewN n) B E v l:=h
theorem Own.keep (h:Own w B E v l) (hb:Below w.heap.size w w'):Own w' B E v l:=by
 obtain ⟨h1,h2⟩:=h;refine ⟨h1,?_⟩
 rcases h2 with h2 | ⟨g,cap,cur,e,hB,hh,r⟩
 ·exact .inl h2
 ·exact .inr ⟨g,cap,cur,e,hB,(hb.block g (bp hh)).trans hh,r⟩
theorem heap_setCell_same {g:Nat} {cur:Array Value} {E:TypeId} (hh:w.heap[g]? = some (.cells cur E (0,0))) (u:Value):(w.setCell ⟨g,j,none⟩ u).heap[g]? = some (.cells (cur.setIfInBounds j u) E (0,0)):=by
 have hlt:=bp hh;have h':w.heap[g] = .cells cur E (0,0):=by simpa [Array.getElem?_eq_getElem hlt] using hh
 show (w.heap.modify g _)[g]? = _
 rw [hP (by simpa using hlt),Array.getElem_modify_self,h']
 rfl
theorem l8:∀ (l:List S2) (i:Nat) (x:Int),i < l.length->(flat l).set (i * 2+1) (.int .i64 x)=flat (l.set i (fr l i,x))
 | s :: r,0,x,_=>rfl
 | s :: r,i+1,x,h=>by
   have ih:=l8 r i x (by simpa using h);have e:(i+1) * 2+1=(i * 2+1)+1+1:=by omega
   rw [e]
   show Value.int .i64 s.1 :: Value.int .i64 s.2 :: (flat r).set (i * 2+1) (.int .i64 x)=_
   rw [ih]
   rfl
theorem Own.set {w:World} {B E g cap:Nat} {l:List S2} (h:Own w B E (.slice (some ⟨g,0,none⟩) l.length cap) l) (i:Nat) (hi:i < l.length) (x:Int) :
 Own (w.setCell ⟨g,i * 2+1,none⟩ (.int .i64 x)) B E (.slice (some ⟨g,0,none⟩) l.length cap) (l.set i (fr l i,x)):=by
 obtain ⟨h1,h2⟩:=h;refine ⟨by rw [cZ],?_⟩
 rcases h2 with ⟨e,_⟩ | ⟨g',cap',cur,e,hB,hh,k1,k2,k3,k4⟩
 ·simp at e
 ·injection e with e1 e2 e3
  injection e1 with e1;injection e1 with e1;subst e1 e3;refine .inr ⟨_,_,_,by rw [cI],hB,heap_setCell_same hh _,by rw [cI];exact k1,k2,by simp [k3],?_⟩;rw [← l8 l i x hi,← k4,cI]
  simp [List.take_set]
theorem Own.push {s:S2} (h:w'.ownsRow B E 2 v' (l.length+1) (flat l ++ [.int .i64 s.1,.int .i64 s.2])):Own w' B E v' (l ++ [s]):=by
 show w'.ownsRow B E 2 v' (l ++ [s]).length (flat (l ++ [s]))
 rw [gG,cW];exact h
end Sp
namespace Wi
open Sp
theorem wT (a b:Int):a < b\/b<=a:=by omega
def Low (l:List S2) (t:Int):Prop:=∃ s∈l,s.1<=t/\t < s.2
def Lh (t:Int) (s:S2):Bool:=decide (s.1<=t) && decide (t < s.2)
def bV (l:List S2) (t:Int):Bool:=l.any (Lh t)
variable {l a b r S p:List S2} {t:Int}
theorem xS : bV l t=true↔Low l t:=by
 simp [bV,Low,Lh,List.any_eq_true]
theorem za : bV l t=false↔¬ Low l t:=by
 rw [← xS];simp
def Plain (l:List S2):Prop:=(∀ s∈l,s.1 < s.2)/\l.Pairwise (fun a b=>a.2 < b.1)
variable {i k:Nat}
theorem qR (h:i < l.length):(fr l i,tp l i)∈l:=by
 have e:l.getD i (0,0)=l[i]:=by simp [h]
 show ((l.getD i (0,0)).1,(l.getD i (0,0)).2)∈l
 rw [e];exact dy h
variable {s q:S2}
theorem mem_iff : s∈l↔∃ i,i < l.length/\fr l i=s.1/\tp l i=s.2:=by
 constructor
 ·intro h
  obtain ⟨i,hi,e⟩:=ew h;exact ⟨i,hi,by simp [fr,hi,e],by simp [tp,hi,e]⟩
 ·rintro ⟨i,hi,e1,e2⟩
  have:=qR hi;rw [e1,e2] at this;exact this
theorem Mk : Low l t↔∃ i,i < l.length/\fr l i<=t/\t < tp l i:=by
 constructor
 ·rintro ⟨s,hs,h⟩
  obtain ⟨i,hi,e1,e2⟩:=mem_iff.1 hs;exact ⟨i,hi,by omega,by omega⟩
 ·rintro ⟨i,hi,h⟩
  exact ⟨_,qR hi,h⟩
theorem dS : Low (a ++ b) t↔Low a t\/Low b t:=by
 constructor
 ·rintro ⟨s,hs,h⟩
  rcases eC.1 hs with h' | h'
  ·exact .inl ⟨s,h',h⟩
  ·exact .inr ⟨s,h',h⟩
 ·rintro (⟨s,hs,h⟩ | ⟨s,hs,h⟩)
  ·exact ⟨s,List.mem_append_left _ hs,h⟩
  ·exact ⟨s,List.mem_append_right _ hs,h⟩
theorem iU : ¬ Low [] t:=by rintro ⟨s,hs,_⟩;simp at hs
theorem dM : Low (s :: r) t↔(s.1<=t/\t < s.2)\/Low r t:=by
 constructor
 ·rintro ⟨x,hx,h⟩
  rcases cy.1 hx with rfl | h'
  ·exact .inl h
  ·exact .inr ⟨x,h',h⟩
 ·rintro (h | ⟨x,hx,h⟩)
  ·exact ⟨s,cG,h⟩
  ·exact ⟨x,cC _ hx,h⟩
theorem mY : Low [s] t↔s.1<=t/\t < s.2:=by
 rw [dM];exact ⟨fun h=>h.resolve_right iU,.inl⟩
theorem PW:Plain []:=⟨fun s h=>by simp at h,ik⟩
theorem oK : Plain (l ++ [s])↔Plain l/\s.1 < s.2/\∀ x∈l,x.2 < s.1:=by
 unfold Plain;rw [List.pairwise_append]
 constructor
 ·rintro ⟨h1,h2,_,h3⟩
  exact ⟨⟨fun x hx=>h1 x (List.mem_append_left _ hx),h2⟩,h1 s (by simp),fun x hx=>h3 x hx s (by simp)⟩
 ·rintro ⟨⟨h1,h2⟩,h3,h4⟩
  refine ⟨fun x hx=>?_,h2,List.pairwise_singleton _ _,fun x hx y hy=>?_⟩
  ·rcases eC.1 hx with h | h
   ·exact h1 x h
   ·simp at h;subst h;exact h3
  ·simp at hy;subst hy;exact h4 x hx
theorem fT : Plain (s :: l)↔Plain l/\s.1 < s.2/\∀ x∈l,s.2 < x.1:=by
 unfold Plain;rw [dm]
 constructor
 ·rintro ⟨h1,h2,h3⟩
  exact ⟨⟨fun x hx=>h1 x (cC _ hx),h3⟩,h1 s cG,h2⟩
 ·rintro ⟨⟨h1,h2⟩,h3,h4⟩
  refine ⟨fun x hx=>?_,h4,h2⟩
  rcases cy.1 hx with rfl | h
  ·exact h3
  ·exact h1 x h
theorem p9 (h:Plain l):∀ s∈l,¬ Low l s.2:=by
 induction l with
 | nil=>intro s hs;simp at hs
 | cons a r ih =>
   obtain ⟨hp,ha,hr⟩:=fT.1 h
   intro s hs hl
   rw [dM] at hl
   rcases cy.1 hs with rfl | hs
   ·rcases hl with hl | ⟨x,hx,h1,h2⟩
    ·omega
    ·have:=hr x hx;omega
   ·rcases hl with hl | hl
    ·have:=hr s hs;have:=hp.1 s hs;omega
    ·exact ih hp s hs hl
theorem rF:∀ {a b:List S2},Plain a->Plain b->(∀ t,Low a t↔Low b t)->a=b
 | [],[],_,_,_=>rfl
 | [],s :: r,_,hb,h=>by
   obtain ⟨_,h1,_⟩:=fT.1 hb;exact absurd ((h s.1).2 (dM.2 (.inl ⟨by omega,h1⟩))) iU
 | s :: r,[],ha,_,h=>by
   obtain ⟨_,h1,_⟩:=fT.1 ha;exact absurd ((h s.1).1 (dM.2 (.inl ⟨by omega,h1⟩))) iU
 | s :: r,s' :: r',ha,hb,h=>by
   obtain ⟨hr,h1,h2⟩:=fT.1 ha;obtain ⟨hr',h1',h2'⟩:=fT.1 hb;have lo:s'.1<=s.1:=by
    obtain ⟨x,hx,hx1,_⟩:=(h s.1).1 (dM.2 (.inl ⟨by omega,h1⟩))
    rcases cy.1 hx with rfl | hx
    ·exact hx1
    ·have:=h2' x hx;omega
   have lo':s.1<=s'.1:=by
    obtain ⟨x,hx,hx1,_⟩:=(h s'.1).2 (dM.2 (.inl ⟨by omega,h1'⟩))
    rcases cy.1 hx with rfl | hx
    ·exact hx1
    ·have:=h2 x hx;omega
   have hi:s'.2<=s.2:=by
    rcases wT s.2 s'.2 with c | c
    ·exact absurd ((h s.2).2 (dM.2 (.inl ⟨by omega,c⟩))) (p9 ha s cG)
    ·exact c
   have hi':s.2<=s'.2:=by
    rcases wT s'.2 s.2 with c | c
    ·exact absurd ((h s'.2).1 (dM.2 (.inl ⟨by omega,c⟩))) (p9 hb s' cG)
    ·exact c
   have e:s=s':=Prod.ext (by omega) (by omega);subst e;have er:r=r':=rF hr hr' fun t=>by
    constructor
    ·intro ht
     obtain ⟨x,hx,hx1,_⟩:=ht;have:=h2 x hx
     rcases dM.1 ((h t).1 (dM.2 (.inr ⟨x,hx,hx1,by assumption⟩))) with c | c
     ·omega
     ·exact c
    ·intro ht
     obtain ⟨x,hx,hx1,_⟩:=ht;have:=h2' x hx
     rcases dM.1 ((h t).2 (dM.2 (.inr ⟨x,hx,hx1,by assumption⟩))) with c | c
     ·omega
     ·exact c
   rw [er]
structure fM (S:List S2) (k:Nat) (l:List S2):Prop where
 plain:Plain l
 low:∀ t,Low l t↔Low (S.take k) t
 ahead:∀ x∈l,∀ i,k<=i->i < S.length->x.1<=fr S i
structure qB (S:List S2):Prop where
 ticks:∀ i,i < S.length->fr S i < tp S i
 up:∀ i j,i<=j->j < S.length->fr S i<=fr S j
theorem jY (h:k < S.length):S.take (k+1)=S.take k ++ [(fr S k,tp S k)]:=by
 rw [List.take_succ_eq_append_getElem h];have e:(fr S k,tp S k)=S[k]:=by simp [fr,tp,h]
 rw [e]
theorem fM.zero (S:List S2):fM S 0 []:=⟨PW,fun t=>by simp,fun x hx=>by simp at hx⟩
theorem fM.push (hS:qB S) (h:fM S k l) (hk:k < S.length) (hl:∀ x∈l,x.2 < fr S k):fM S (k+1) (l ++ [(fr S k,tp S k)]):=by
 refine ⟨oK.2 ⟨h.plain,hS.ticks k hk,hl⟩,fun t=>?_,fun x hx i h1 h2=>?_⟩
 ·rw [jY hk,dS,dS,h.low]
 ·rcases eC.1 hx with c | c
  ·exact h.ahead x c i (by omega) h2
  ·simp at c;subst c;exact hS.up k i (by omega) h2
theorem fM.grow (h:fM S k (p ++ [q])) (hk:k < S.length) (hl:fr S k<=q.2) (m:Int) (hm:(q.2<=m/\tp S k<=m)/\(m=q.2\/m=tp S k)):fM S (k+1) (p ++ [(q.1,m)]):=by
 obtain ⟨hp,hq,hx⟩:=oK.1 h.plain;have ha:=h.ahead q (by simp) k (by omega) hk;refine ⟨oK.2 ⟨hp,by show q.1 < m;omega,hx⟩,fun t=>?_,fun x hx i h1 h2=>?_⟩
 ·have:=h.low t
  rw [dS,mY] at this;rw [jY hk,dS,dS,mY,mY,← this]
  constructor
  ·rintro (c | c)
   ·exact .inl (.inl c)
   ·by_cases d:t < q.2
    ·exact .inl (.inr ⟨c.1,d⟩)
    ·exact .inr ⟨by show fr S k<=t;omega,by show t < tp S k;have:=c.2;simp at this;omega⟩
  ·rintro ((c | c) | c)
   ·exact .inl c
   ·exact .inr ⟨c.1,by show t < m;omega⟩
   ·exact .inr ⟨by show q.1<=t;have:=c.1;simp at this;omega,by show t < m;have:=c.2;simp at this;omega⟩
 ·rcases eC.1 hx with c | c
  ·exact h.ahead x (List.mem_append_left _ c) i (by omega) h2
  ·simp at c;subst c;exact h.ahead q (by simp) i (by omega) h2
theorem fM.all (h:fM S S.length l):Plain l/\∀ t,Low l t↔Low S t:=⟨h.plain,fun t=>by rw [h.low,df]⟩
def yx:List S2->Int
 | []=>-1099511627777
 | [s]=>s.2
 | _ :: s :: r=>yx (s :: r)
theorem EJ:∀ (l:List S2),0 < l.length->yx l=tp l (l.length - 1)
 | [_],_=>rfl
 | a :: b :: r,_=>by
   have:=EJ (b :: r) (by simp)
   show yx (b :: r)=_
   rw [this]
   simp [tp]
theorem wJ:∀ {l:List S2},Plain l->∀ x∈l,x.2<=yx l
 | [s],_,x,hx=>by simp at hx;subst hx;exact im _
 | a :: b :: r,h,x,hx=>by
   obtain ⟨h1,h2,h3⟩:=fT.1 h
   show x.2<=yx (b :: r)
   rcases cy.1 hx with rfl | hx
   ·have a1:=h3 b (by simp)
    have a2:=h1.1 b (by simp);have a3:=wJ h1 b (by simp)
    omega
   ·exact wJ h1 x hx
open Go.RowKit Go.Proofs.YtdbdacceecnpmaaGreatDoor.Sp
theorem bO {a b:Int} (h:a=b):Ending.returned (.int .i64 a) = .returned (.int .i64 b):=by rw [h]
theorem KJ:(prog.info? 295).map (fun i=>(i.zero,i.size,i.bytes))=some (some (.agg #[.int .i64 0,.int .i64 0]),2,16):=by kernel_rfl
theorem qI (a:Addr):a.add 0=a:=by cases a;simp [Addr.add]
variable {w:World}
theorem dZ {ops:Array Oper} {rest:List Oper} {o:Oper} {a:Act} {Q:Exit->Act->World->Prop} (hgd:o.guard=none) (s x:Operand)
 (ho:o.op = .call { callee:=.builtin .append,args:=#[s,x],argTypes:=#[216,216] }) (B:Nat) (v:Value) (l:List S2) (hs:a.eval s=v) (hown:Sp.Own w B 295 v l)
 (ad:Addr) (p q:Int) (hx:a.eval x = .slice (some ad) 1 1) (h0:w.cell? ad=some (.int .i64 p)) (h1:w.cell? (ad.add 1)=some (.int .i64 q)) (hlen:l.length < 4398046511104) (hB:B<=w.heap.size)
 (h:∀ v' w',Sp.Own w' B 295 v' (l ++ [(p,q)])->Below B w w'->wpList prog ops Q rest (a.put o.dst v') w'):wpList prog ops Q (o :: rest) a w:=by
 obtain ⟨i0,hi,hz0,hz1,hz2⟩:=gg KJ;refine wpList_append_own _ hgd s x 216 ho B 295 i0 (.agg #[.int .i64 0,.int .i64 0]) 2 16 underlying216 hi hz0 hz1 hz2 rfl (by decide) v l.length (flat l) hs hown ad 1 1 [.int .i64 p,.int .i64 q] hx rfl ?_ ?_ ?_ ?_ hB ?_
 ·intro j u hj
  match j,hj with
  | 0,hj=>simp at hj;subst hj;rw [qI];exact h0
  | 1,hj=>simp at hj;subst hj;exact h1
  | j+2,hj=>simp at hj
 ·intro u hu
  simp at hu
  rcases hu with rfl | rfl <;> rfl
 ·unfold maxLen;omega
 ·omega
 ·intro v' w' h2 h3 _
  exact h v' w' (Sp.Own.push (s:=(p,q)) h2) ((af B w).grown h3 hB fun k hk=>(cJ hown k hk).1)
theorem zT (w:World) (a b:Int):Calls prog 198 #[.agg #[.int .i64 a,.int .i64 b]] w fun e w'=>e = .returned (.bool (decide (a < b)))/\Below w.heap.size w w':=by
 go_enter func198,ntmps198
 go_wp2
 go_ret
 exact ⟨rfl,(af _ _).alloc (am _) _⟩
theorem Ca (w:World) (a:Int):Calls prog 181 #[.int .i64 a] w fun e w'=>e = .returned (.bool false)/\w=w':=by
 go_enter func181,ntmps181
 go_wp2
 go_ret
 exact ⟨by simp,rfl⟩
def IP (a b:Int):Int:=if a < b then -1 else if b < a then 1 else 0
theorem GQ (w:World) (a b:Int):Calls prog 201 #[.int .i64 a,.int .i64 b] w fun e w'=>e = .returned (.int .i64 (IP a b))/\w=w':=by
 by_cases h:a < b
 ·go_enter func201,ntmps201
  go_wp2_with (go_at_call 181;refine (Ca _ _).mono ?_;rintro e w' ⟨rfl,rfl⟩)
  go_ret
  exact ⟨bO (by simp [IP,h]),rfl⟩
 ·by_cases h2:b < a
  ·go_enter func201,ntmps201
   go_wp2_with (go_at_call 181;refine (Ca _ _).mono ?_;rintro e w' ⟨rfl,rfl⟩)
   go_ret
   exact ⟨bO (by simp [IP,h,h2]),rfl⟩
  ·go_enter func201,ntmps201
   go_wp2_with (go_at_call 181;refine (Ca _ _).mono ?_;rintro e w' ⟨rfl,rfl⟩)
   go_ret
   exact ⟨bO (by rw [IP,aq (by omega),aq (by omega)]),rfl⟩
def Made (w:World) (P:List S2->Prop) (e:Ending) (w':World):Prop:=∃ v x,e = .returned v/\Sp.Own w' w.heap.size 295 v x/\P x/\Below w.heap.size w w'
theorem aI {P:Program} {f:Nat} {args:Array Value} {B:Nat} {a b:Bool} (e:a=b) (c:Calls P f args w fun e w'=>e = .returned (.bool a)/\Below B w w'):Calls P f args w fun e w'=>e = .returned (.bool b)/\Below B w w':=by rw [← e];exact c
def bY (X l:List S2):Prop:=Plain l/\∀ t,Low l t↔Low X t
theorem bY.one {x:List S2} (ha:bY x a) (hb:bY x b):a=b:=rF ha.1 hb.1 fun t=>(ha.2 t).trans (hb.2 t).symm
end Wi
namespace Se
open Sp Go.Proofs.YtdbdacceecnpmaaGreatDoor.Wi
open Tk (bA bR Il eF Bt)
section
variable {n:Nat} {A R:Nat->Int}
theorem Jr (A R:Nat->Int) (n:Nat) (m:Int):0<=bR A R n m/\bR A R n m<=4294967296:=⟨(eF A R n m).lo,(eF A R n m).hi⟩
variable {a b:Int}
theorem EO (h:a<=b):bR A R n a<=bR A R n b:=by
 have x:=eF A R n a;have y:=eF A R n b;have y0:=y.lo;have x1:=x.hi
 rcases Wi.wT (bR A R n b) (bR A R n a) with c | c
 ·have p:=y.there (by omega)
  have q:=x.before _ y.lo c
  omega
 ·exact c
theorem U0 (g:bA n A R) (t:Int) (h0:0<=t) (h1:t < 4294967296):Tk.Loc A R n (t+1)<=Tk.Loc A R n t+2:=by
 obtain ⟨c,_,c1,e⟩:=Tk.Ld g t;unfold Tk.Loc;rw [Tk.eG (by omega) (by omega),Tk.eG (by omega) (by omega),e]
 omega
theorem mX (g:bA n A R) (h1:a<=4000000000):bR A R n a < 4294967296:=by
 have x:=eF A R n a;have b:=(Tk.QY g 4294967295 (by omega) (by omega)).2;have x1:=x.hi
 rcases Wi.wT (bR A R n a) 4294967296 with c | c
 ·exact c
 ·have:=x.before 4294967295 (by omega) (by omega)
  omega
theorem II (g:bA n A R) (h1:a<=4000000000):a<=Tk.Loc A R n (bR A R n a):=(eF A R n a).there (mX g h1)
theorem RJ (g:bA n A R):Tk.Loc A R n 0=0:=by
 rw [Tk.Loc,Tk.eG (by omega) (by omega),Tk.mW g]
 rfl
theorem abj (g:bA n A R) (h0:0<=a):Tk.Loc A R n (bR A R n a)<=a+1:=by
 have x:=eF A R n a;have x0:=x.lo;have x1:=x.hi
 rcases Wi.wT 0 (bR A R n a) with c | c
 ·have p:=x.before (bR A R n a - 1) (by omega) (by omega)
  have s:=U0 g (bR A R n a - 1) (by omega) (by omega);rw [show bR A R n a - 1+1=bR A R n a by omega] at s
  omega
 ·have e:bR A R n a=0:=by omega
  rw [e,RJ g]
  omega
theorem aaQ (g:bA n A R) (h0:0<=a) (h:a+2<=b) (h1:b<=4000000000):bR A R n a < bR A R n b:=by
 have p:=abj g h0;have q:=II g h1;have m:=EO (A:=A) (R:=R) (n:=n) (show a<=b by omega)
 rcases Wi.wT (bR A R n a) (bR A R n b) with c | c
 ·exact c
 ·have e:bR A R n a=bR A R n b:=by omega
  rw [e] at p
  omega
end
def lC (g:Int->Int) (F:Nat->Bool) (m:Int):Nat->List S2
 | 0=>[]
 | k+1=>if F k then lC g F m k else lC g F m k ++ [(g (m+16 * k),g (m+16 * k+16))]
section
variable {g:Int->Int} {F:Nat->Bool} {m:Int}
variable {k:Nat}
theorem K6 (h:F k=true):lC g F m (k+1)=lC g F m k:=by rw [lC,az h]
theorem Ks (h:F k=false):lC g F m (k+1)=lC g F m k ++ [(g (m+16 * k),g (m+16 * k+16))]:=by rw [lC,aq (by simp [h])]
theorem xP:∀ k,(lC g F m k).length<=k
 | 0=>am _
 | k+1=>by
   have:=xP k;rw [lC]
   split
   ·omega
   ·simp;omega
theorem lZ {s:S2} : ∀ {k},s∈lC g F m k↔∃ i:Nat,i < k/\F i=false/\s=(g (m+16 * i),g (m+16 * i+16))
 | 0=>by simp [lC]
 | k+1=>by
   cases h:F k with
   | true =>
     rw [K6 h,lZ]
     constructor
     ·rintro ⟨i,a,b⟩
      exact ⟨i,by omega,b⟩
     ·rintro ⟨i,a,b,c⟩
      by_cases e:i=k
      ·subst e;rw [h] at b;cases b
      ·exact ⟨i,by omega,b,c⟩
   | false =>
     rw [Ks h,eC,lZ]
     constructor
     ·rintro (⟨i,a,b⟩ | c)
      ·exact ⟨i,by omega,b⟩
      ·exact ⟨k,by omega,h,by simpa using c⟩
     ·rintro ⟨i,a,b,c⟩
      by_cases e:i=k
      ·subst e;exact .inr (by simpa using c)
      ·exact .inl ⟨i,by omega,b,c⟩
end
end Se
namespace Sa
open Sp Go.Proofs.YtdbdacceecnpmaaGreatDoor.Wi Go.Proofs.YtdbdacceecnpmaaGreatDoor.Se
open Tk (bA bR Il eF Bt PP)
structure Calm (n:Nat) (A R:Nat->Int) (B:Int):Prop where
 good:bA n A R
 lo:0<=B
 bd:∀ i,i < n->-B<=R i/\R i<=B
section
variable {n:Nat} {A R:Nat->Int} {B:Int}
theorem Calm.rt (g:Calm n A R B) (k:Nat) (h:k<=n) : -B<=Tk.rt R k/\Tk.rt R k<=B:=by
 have:=g.lo
 cases k with
 | zero=>exact ⟨by simp [Tk.rt];omega,by simp [Tk.rt];omega⟩
 | succ k=>exact g.bd k (by omega)
theorem RZ (g:Calm n A R B) (t:Int):∃ c,1000000 - B<=c/\c<=1000000+B/\PP A R n (t+1)=PP A R n t+c:=by
 have s:=Tk.vN A n t;generalize hk:Tk.stop A n t=k at s;obtain ⟨s1,s2,s3⟩:=s;rw [Tk.pZ ⟨s1,s2,s3⟩]
 by_cases hn:k < n/\A k < t+1
 ·obtain ⟨hn,ha⟩:=hn
  have e:A k=t:=by have:=s3 hn;omega
  have st:Tk.ep A n (t+1) (k+1):=by
   refine ⟨hn,fun i hi=>?_,fun h=>?_⟩
   ·by_cases c:i=k
    ·subst c;exact ha
    ·have:=s2 i (by omega);omega
   ·have:=g.good.up k h;omega
  rw [Tk.pZ st];have b:=g.bd k hn;refine ⟨1000000+R k,by omega,by omega,?_⟩
  show Tk.sm A R k+(A k - Tk.fr A k) * (1000000+Tk.rt R k)+(t+1 - A k) * (1000000+R k)=Tk.sm A R k+(t - Tk.fr A k) * (1000000+Tk.rt R k)+(1000000+R k)
  rw [e,show t+1 - t=1 by omega,Int.one_mul]
 ·have st:Tk.ep A n (t+1) k:=by
   refine ⟨s1,fun i hi=>?_,fun h=>?_⟩
   ·have:=s2 i hi;omega
   ·have:=s3 h;omega
  rw [Tk.pZ st];have b:=g.rt k s1;refine ⟨1000000+Tk.rt R k,by omega,by omega,?_⟩;unfold Tk.pp;rw [show t+1 - Tk.fr A k=(t - Tk.fr A k)+1 by omega,Int.add_mul,Int.one_mul]
  omega
theorem Xv (g:Calm n A R B) (t:Int) (d:Nat):PP A R n t+(1000000 - B) * d<=PP A R n (t+d)/\PP A R n (t+d)<=PP A R n t+(1000000+B) * d:=by
 induction d with
 | zero=>simp
 | succ d ih =>
   obtain ⟨c,c1,c2,e⟩:=RZ g (t+d);rw [show t+((d+1:Nat):Int)=t+d+1 by omega,e];have e1:(1000000 - B) * ((d+1:Nat):Int)=(1000000 - B) * d+(1000000 - B):=by rw [show ((d+1:Nat):Int)=d+1 by omega,Int.mul_add,Int.mul_one]
   have e2:(1000000+B) * ((d+1:Nat):Int)=(1000000+B) * d+(1000000+B):=by rw [show ((d+1:Nat):Int)=d+1 by omega,Int.mul_add,Int.mul_one]
   rw [e1,e2];generalize (1000000 - B) * (d:Int)=x at *;generalize (1000000+B) * (d:Int)=y at *
   omega
variable {t u B' a:Int}
theorem qy (g:Calm n A R B) (h:t<=u):PP A R n t+(1000000 - B) * (u - t)<=PP A R n u/\PP A R n u<=PP A R n t+(1000000+B) * (u - t):=by
 have:=Xv g t (u - t).toNat;rw [show t+((u - t).toNat:Int)=u by omega,show ((u - t).toNat:Int)=u - t by omega] at this;exact this
theorem Calm.up (g:Calm n A R B) (h:B<=B'):Calm n A R B':=⟨g.good,by have:=g.lo;omega,fun i hi=>by have:=g.bd i hi;omega⟩
theorem qH (g:Calm n A R B) (h0:0<=a) (h1:a<=4000000000):1000000 * a<=PP A R n (bR A R n a)/\PP A R n (bR A R n a)<=1000000 * a+999999+B:=by
 have x:=eF A R n a;have x0:=x.lo;have x1:=mX g.good h1;have q:=II g.good h1;have b0:=g.lo;unfold Tk.Loc at q;rw [Tk.eG (by omega) (by omega)] at q;refine ⟨by omega,?_⟩
 rcases Wi.wT 0 (bR A R n a) with c | c
 ·have p:=x.before (bR A R n a - 1) (by omega) (by omega)
  unfold Tk.Loc at p;rw [Tk.eG (by omega) (by omega)] at p;obtain ⟨d,_,d1,e⟩:=RZ g (bR A R n a - 1);rw [show bR A R n a - 1+1=bR A R n a by omega] at e
  omega
 ·have e:bR A R n a=0:=by omega
  rw [e,Tk.mW g.good]
  omega
theorem aaJ (h0:0<=u) (h:1000000 * a<=PP A R n u):bR A R n a<=u:=by
 have x:=eF A R n a
 rcases Wi.wT u (bR A R n a) with c | c
 ·have p:=x.before u h0 c
  have:=x.hi;unfold Tk.Loc at p;rw [Tk.eG (by omega) (by omega)] at p
  omega
 ·exact c
theorem RI (g:Calm n A R B) (h1:a<=4000000000) (h:PP A R n u < 1000000 * a):u < bR A R n a:=by
 have q:=II g.good h1;have x0:=(eF A R n a).lo;have x1:=mX g.good h1;unfold Tk.Loc at q;rw [Tk.eG (by omega) (by omega)] at q
 rcases Wi.wT u (bR A R n a) with c | c
 ·exact c
 ·have:=Tk.Dt g.good c
  omega
end
def maj (a b c:Bool):Bool:=a && b || a && c || b && c
def heard (low:Int->Bool) (g:Int->Int) (N:Int) (i:Nat):Bool:=maj (!low (g (N+16 * i+7))) (!low (g (N+16 * i+8))) (!low (g (N+16 * i+9)))
theorem Tt (a:Bool):maj a a a=a:=by cases a <;> rfl
theorem VU {n n':Nat} {A R A' R':Nat->Int} (g:Calm n A R 10000) (g':Calm n' A' R' 10000) {m:Int} (m0:0<=m) (m1:m<=1073741824) (i:Nat) (hi:i < 11) (j:Int) (j0:7<=j) (j1:j<=9) :
 bR A R n (m+16 * i)<=bR A' R' n' (Tk.Loc A' R' n' (bR A R n m)+16 * i+j)/\bR A' R' n' (Tk.Loc A' R' n' (bR A R n m)+16 * i+j) < bR A R n (m+16 * i+16):=by
 have t:=qH g m0 (by omega);have t0:=(eF A R n m).lo;have t1:=mX g.good (show m<=4000000000 by omega);have t2:bR A R n m<=1100000000:=by
  have b:=qy g (show 0<=bR A R n m from t0);rw [Tk.mW g.good] at b
  omega
 have l:=Tk.QY g'.good (bR A R n m) t0 (by omega);have lp:1000000 * Tk.Loc A' R' n' (bR A R n m)<=PP A' R' n' (bR A R n m)/\PP A' R' n' (bR A R n m)<=1000000 * Tk.Loc A' R' n' (bR A R n m)+999999:=by
  unfold Tk.Loc;rw [Tk.eG (by omega) (by omega)]
  omega
 have l0:0<=Tk.Loc A' R' n' (bR A R n m):=by
  unfold Tk.Loc;rw [Tk.eG (by omega) (by omega)];have:=(Tk.Bc g'.good (bR A R n m) t0).1
  omega
 generalize Tk.Loc A' R' n' (bR A R n m)=N at *;have u:=qH g' (a:=N+16 * i+j) (by omega) (by omega);have u0:=(eF A' R' n' (N+16 * i+j)).lo;generalize bR A' R' n' (N+16 * i+j)=U at *;have tu:bR A R n m<=U:=by
  rcases Wi.wT U (bR A R n m) with c | c
  ·have:=Tk.Dt g'.good (show U<=bR A R n m by omega)
   omega
  ·exact c
 have b:=qy g tu;have b':=qy g' tu;generalize bR A R n m=T at *;have lo:1000000 * (m+16 * (i:Int))<=PP A R n U:=by omega
 have hi':PP A R n U < 1000000 * (m+16 * (i:Int)+16):=by omega
 exact ⟨aaJ u0 lo,RI g (by omega) hi'⟩
theorem YZ (A R:Nat->Int) (n:Nat) (g:bA n A R) (t:Int):0<=Tk.Loc A R n t/\Tk.Loc A R n t<=4400000000:=by
 have h0:=Tk.U5 t;have h1:=Tk.Sf t;have:=Tk.Bc g (Tk.jE t) h0;unfold Tk.Loc
 omega
end Sa
namespace Wi
open Sp
def idx (p:S2->Bool) (l:List S2):Int:=match (List.range l.length).find? (fun i=>p (fr l i,tp l i)) with
 | some i=>i
 | none=>-1
variable {p:S2->Bool} {l x:List S2} {i:Nat}
theorem CU (hi:i < l.length) (hp:p (fr l i,tp l i)=true) (hn:∀ j,j < i->p (fr l j,tp l j)=false):idx p l=i:=by
 have e:(List.range l.length).find? (fun i=>p (fr l i,tp l i))=some i:=by
  rw [List.find?_range_eq_some];exact ⟨hp,by simpa using hi,fun j hj=>by simp [hn j hj]⟩
 simp [idx,e]
theorem vW (hn:∀ j,j < l.length->p (fr l j,tp l j)=false):idx p l = -1:=by
 have e:(List.range l.length).find? (fun i=>p (fr l i,tp l i))=none:=by
  rw [iS]
  intro i hi
  simp [hn i (by simpa using hi)]
 simp [idx,e]
theorem zW (p:S2->Bool) (l:List S2):(∃ i:Nat,i < l.length/\p (fr l i,tp l i)=true/\(∀ j,j < i->p (fr l j,tp l j)=false)/\idx p l=i)\/((∀ j,j < l.length->p (fr l j,tp l j)=false)/\idx p l = -1):=by
 rcases h:(List.range l.length).find? (fun i=>p (fr l i,tp l i)) with _ | i
 ·right
  rw [iS] at h;have hn:∀ j,j < l.length->p (fr l j,tp l j)=false:=fun j hj=>by simpa using h j (by simpa using hj)
  exact ⟨hn,vW hn⟩
 ·left
  rw [List.find?_range_eq_some] at h;have hi:i < l.length:=by simpa using h.2.1
  have hn:∀ j,j < i->p (fr l j,tp l j)=false:=fun j hj=>by simpa using h.2.2 j hj
  exact ⟨i,hi,h.1,hn,CU hi h.1 hn⟩
def gK (f t:Int) (s:S2):Bool:=decide (f<=s.1) && decide (s.1 < t)
def fI (x:List S2) (f t:Int):Int×Bool:=if 0<=idx (gK f t) x then (fr x (idx (gK f t) x).toNat,true) else (0,false)
variable {f t:Int}
theorem Ew (e:idx (gK f t) x=i):fI x f t=(fr x i,true):=by
 unfold fI;rw [e,az (by omega)]
 simp
theorem AM (e:idx (gK f t) x = -1):fI x f t=(0,false):=by
 unfold fI;rw [e,aq (by omega)]
end Wi
namespace Bu
open Sp Go.Proofs.YtdbdacceecnpmaaGreatDoor.Wi Go.Proofs.YtdbdacceecnpmaaGreatDoor.Se Go.Proofs.YtdbdacceecnpmaaGreatDoor.Sa
open Tk (bA bR Il eF Bt PP)
structure dP where
 n:Nat
 A:Nat->Int
 R:Nat->Int
noncomputable def dP.g (o:dP) (m:Int):Int:=bR o.A o.R o.n m
def dP.calm (o:dP):Prop:=Sa.Calm o.n o.A o.R 2000
variable {a b:Int}
theorem ahead {o p:dP} (ho:o.calm) (hp:p.calm) (a0:0<=a) (a1:a<=4000) (hab:a+18<=b) (b1:b<=5000):o.g a < p.g b:=by
 unfold dP.calm at ho hp;unfold dP.g;have t:=(qH ho a0 (by omega)).2;have t0:=(eF o.A o.R o.n a).lo;generalize bR o.A o.R o.n a=T at *;have s:=(qy ho t0).1;have s':=(qy hp t0).2;rw [Tk.mW ho.good] at s;rw [Tk.mW hp.good] at s';exact RI hp (by omega) (by omega)
theorem dP.mono (o:dP) (h:a<=b):o.g a<=o.g b:=EO h
abbrev XH:=Nat->Option (dP×(Nat->Bool))
structure Fit (f:XH):Prop where
 calm:∀ k o F,f k=some (o,F)->o.calm
 low:∀ k o F,f k=some (o,F)->F 0=false
def wF (f:XH) (k:Nat) (u:Int):Prop:=∃ o F,f k=some (o,F)/\∃ i:Nat,i < 11/\F i=false/\o.g (224 * k+16 * i)<=u/\u < o.g (224 * k+16 * i+16)
def rX (f:XH) (u:Int):Prop:=∃ k:Nat,1<=k/\k<=16/\wF f k u
section
variable {f:XH}
variable {k k' i:Nat} {u:Int} {o r:dP} {F:Nat->Bool}
theorem tQ (e:f k=some (o,F)) (h:wF f k u):o.g (224 * k)<=u/\u < o.g (224 * k+176):=by
 obtain ⟨o',F',e',i,hi,_,h1,h2⟩:=h;rw [e] at e';injection e' with e';injection e' with e1 _;subst e1;have:=o.mono (show 224 * (k:Int)<=224 * k+16 * i by omega);have:=o.mono (show 224 * (k:Int)+16 * i+16<=224 * k+176 by omega)
 omega
theorem oW (h:wF f k u):∃ o F,f k=some (o,F):=by
 obtain ⟨o,F,e,_⟩:=h;exact ⟨o,F,e⟩
theorem other (hf:Fit f) (hr:r.calm) (h1:1<=k) (h2:k<=16) (h3:1<=k') (h4:k'<=16) (hne:k'≠k) (u0:r.g (224 * k - 20)<=u+1) (u1:u < r.g (224 * k+20)):¬ wF f k' u:=fun h=>by
 obtain ⟨o,F,e⟩:=oW h;have a:=tQ e h;have c:=hf.calm k' o F e
 rcases Nat.lt_or_gt_of_ne hne with q | q
 ·have:=ahead c hr (a:=224 * k'+176) (b:=224 * k - 20) (by omega) (by omega) (by omega) (by omega)
  omega
 ·have:=ahead hr c (a:=224 * k+20) (b:=224 * k') (by omega) (by omega) (by omega) (by omega)
  omega
theorem aak (hf:Fit f) (h2:k<=16) (h4:k'<=16) (hne:k'≠k) (e:f k=some (o,F)) (u0:o.g (224 * k)<=u) (u1:u < o.g (224 * k+176)):¬ wF f k' u:=fun h=>by
 obtain ⟨o',F',e'⟩:=oW h;have b:=tQ e' h;have c:=hf.calm k o F e;have d:=hf.calm k' o' F' e'
 rcases Nat.lt_or_gt_of_ne hne with q | q
 ·have:=ahead d c (a:=224 * k'+176) (b:=224 * k) (by omega) (by omega) (by omega) (by omega)
  omega
 ·have:=ahead c d (a:=224 * k+176) (b:=224 * k') (by omega) (by omega) (by omega) (by omega)
  omega
theorem KT (hf:Fit f) (h1:1<=k) (h2:k<=16) (e:f k=some (o,F)) (hi:i < 11) (u0:o.g (224 * k+16 * i)<=u) (u1:u < o.g (224 * k+16 * i+16)):rX f u↔F i=false:=by
 constructor
 ·rintro ⟨k',h3,h4,h⟩
  have m0:=o.mono (show 224 * (k:Int)<=224 * k+16 * i by omega);have m1:=o.mono (show 224 * (k:Int)+16 * i+16<=224 * k+176 by omega)
  by_cases q:k'=k
  ·subst q
   obtain ⟨o',F',e',i',hi',hF,a,b⟩:=h;rw [e] at e';injection e' with e';injection e' with e1 e2;subst e1 e2
   rcases Nat.lt_trichotomy i' i with c | c | c
   ·have:=o.mono (show 224 * (k':Int)+16 * i'+16<=224 * k'+16 * i by omega)
    omega
   ·subst c;exact hF
   ·have:=o.mono (show 224 * (k':Int)+16 * i+16<=224 * k'+16 * i' by omega)
    omega
  ·exact absurd h (aak hf h2 h4 q e (by omega) (by omega))
 ·exact fun hF=>⟨k,h1,h2,o,F,e,i,hi,hF,u0,u1⟩
theorem M7 (hf:Fit f) (h1:1<=k) (h2:k<=16) (e:f k=some (o,F)):rX f (o.g (224 * k)):=by
 have c:=hf.calm k o F e;have q:=aaQ c.good (a:=224 * (k:Int)) (b:=224 * k+16) (by omega) (by omega) (by omega);refine (KT hf h1 h2 e (i:=0) (by omega) (u:=o.g (224 * k)) ?_ ?_).2 (hf.low k o F e)
 ·simp
 ·show o.g (224 * (k:Int)) < o.g (224 * (k:Int)+16 * ((0:Nat):Int)+16)
  rw [show 224 * (k:Int)+16 * ((0:Nat):Int)+16=224 * k+16 by omega];exact q
end
section
variable {f:XH} {x l:List S2}
theorem lY (hx:Plain x) {s:S2} (hs:s∈x):Low x s.1/\¬ Low x (s.1 - 1):=by
 refine ⟨⟨s,hs,im _,hx.1 s hs⟩,?_⟩;rintro ⟨q,hq,a,b⟩;obtain ⟨i,hi,e1⟩:=ew hs;obtain ⟨j,hj,e2⟩:=ew hq;have pw:=f8.1 hx.2
 rcases Nat.lt_trichotomy i j with c | c | c
 ·have:=pw i j hi hj c
  rw [e1,e2] at this;have:=hx.1 s hs
  omega
 ·subst c
  rw [e1] at e2;subst e2
  omega
 ·have:=pw j i hj hi c
  rw [e1,e2] at this
  omega
theorem D3 {t:Int} (h:Low x t) (h':¬ Low x (t - 1)):∃ s∈x,s.1=t:=by
 obtain ⟨s,hs,a,b⟩:=h;refine ⟨s,hs,?_⟩
 rcases Wi.wT s.1 t with c | c
 ·exact absurd ⟨s,hs,by omega,by omega⟩ h'
 ·omega
variable {r o:dP} {k i:Nat} {F:Nat->Bool}
theorem yc (hf:Fit f) (hr:r.calm) (h1:1<=k) (h2:k<=16) (e:f k=some (o,F)) {u:Int} (u0:r.g (224 * k - 20)<=u+1) (u1:u < o.g (224 * k)):¬ rX f u:=by
 rintro ⟨k',h3,h4,h⟩;have c:=hf.calm k o F e
 by_cases q:k'=k
 ·subst q
  have:=(tQ e h).1
  omega
 ·have:=ahead c hr (a:=224 * k) (b:=224 * k+20) (by omega) (by omega) (by omega) (by omega)
  exact other hf hr h1 h2 h3 h4 q u0 (by omega) h
theorem Nh (hf:Fit f) (hx:Plain x) (hl:∀ u,Low x u↔rX f u) (hr:r.calm) (h1:1<=k) (h2:k<=16) (e:f k=some (o,F)):fI x (r.g (224 * k - 20)) (r.g (224 * k+20))=(o.g (224 * k),true):=by
 have c:=hf.calm k o F e;have a0:=ahead hr c (a:=224 * k - 20) (b:=224 * k) (by omega) (by omega) (by omega) (by omega);have a1:=ahead c hr (a:=224 * k) (b:=224 * k+20) (by omega) (by omega) (by omega) (by omega);have b0:=(hl _).2 (M7 hf h1 h2 e);have b1:¬ Low x (o.g (224 * k) - 1):=fun h=>yc hf hr h1 h2 e (by omega) (by omega) ((hl _).1 h);obtain ⟨s,hs,es⟩:=D3 b0 b1;obtain ⟨i,hi,e1,e2⟩:=mem_iff.1 hs;have hp:gK (r.g (224 * k - 20)) (r.g (224 * k+20)) (fr x i,tp x i)=true:=by
  unfold gK;rw [e1,es];simp only [cg,cQ]
  omega
 have hn:∀ j,j < i->gK (r.g (224 * k - 20)) (r.g (224 * k+20)) (fr x j,tp x j)=false:=fun j hj=>by
  rcases hq:gK (r.g (224 * k - 20)) (r.g (224 * k+20)) (fr x j,tp x j) with _ | _
  ·rfl
  ·exfalso
   unfold gK at hq;simp only [cg,cQ] at hq;have hm:=qR (l:=x) (i:=j) (by omega);have g:=(lY hx hm).1;have lt:fr x j < o.g (224 * k):=by
    have pw:=f8.1 hx.2;have hmi:=qR hi;have q1:=hx.1 _ hm;have:=hx.1 _ hmi;have gj:x[j]? = some (fr x j,tp x j):=by
     have:=aw (show j < x.length by omega);rw [this]
     simp [fr,tp,List.getD_eq_getElem?_getD,List.getElem?_eq_getElem (show j < x.length by omega)]
    have gi:x[i]? = some (fr x i,tp x i):=by
     rw [aw hi]
     simp [fr,tp,List.getD_eq_getElem?_getD,List.getElem?_eq_getElem hi]
    have q:=pw j i (by omega) hi hj;rw [aw (by omega)] at gj;rw [aw hi] at gi;injection gj with gj;injection gi with gi;rw [gj,gi] at q;simp only at q q1
    omega
   exact yc hf hr h1 h2 e (by omega) lt ((hl _).1 g)
 rw [Ew (CU hi hp hn),e1,es]
theorem Oy (hf:Fit f) (hx:Plain x) (hl:∀ u,Low x u↔rX f u) (hr:r.calm) (h1:1<=k) (h2:k<=16) (e:f k=none):fI x (r.g (224 * k - 20)) (r.g (224 * k+20))=(0,false):=by
 refine AM (vW fun j hj=>?_)
 rcases hq:gK (r.g (224 * k - 20)) (r.g (224 * k+20)) (fr x j,tp x j) with _ | _
 ·rfl
 ·exfalso
  unfold gK at hq;simp only [cg,cQ] at hq;obtain ⟨k',h3,h4,h⟩:=(hl _).1 (lY hx (qR hj)).1
  by_cases q:k'=k
  ·subst q
   obtain ⟨o,F,e',_⟩:=h;rw [e] at e'
   cases e'
  ·exact other hf hr h1 h2 h3 h4 q (by simp only;omega) (by simp only;omega) h
theorem MR (hf:Fit f) (hl:∀ u,Low l u↔rX f u) (hr:r.calm) (h1:1<=k) (h2:k<=16) (e:f k=some (o,F)) (hi:i < 11) :
 heard (bV l) (bR r.A r.R r.n) (Tk.Loc r.A r.R r.n (o.g (224 * k))) i=F i:=by
 have c:Sa.Calm o.n o.A o.R 10000:=Sa.Calm.up (hf.calm k o F e) (by omega);have d:Sa.Calm r.n r.A r.R 10000:=Sa.Calm.up hr (by omega);have look:∀ j:Int,7<=j->j<=9->bV l (bR r.A r.R r.n (Tk.Loc r.A r.R r.n (o.g (224 * k))+16 * i+j)) = !F i:=fun j j0 j1=>by
  obtain ⟨q0,q1⟩:=VU c d (m:=224 * (k:Int)) (by omega) (by omega) i hi j j0 j1;have b:=KT hf h1 h2 e hi (u:=bR r.A r.R r.n (Tk.Loc r.A r.R r.n (o.g (224 * k))+16 * i+j)) q0 q1
  rcases hF:F i with _ | _
  ·exact xS.2 ((hl _).2 (b.2 hF))
  ·refine za.2 fun h=>?_
   have:=b.1 ((hl _).1 h);rw [hF] at this
   cases this
 unfold heard;rw [look 7 (by omega) (by omega),look 8 (by omega) (by omega),look 9 (by omega) (by omega),Tt]
 simp
end
open Go.RowKit
open Sp (S2 fr tp)
open Wi (Plain bY Low bV fI)
open Sa (heard)
open Ck (sN)
open Pa (Zq vX Ja hr sq sq1 tn xY)
open Ua (zX tb te)
instance:Inhabited dP:=⟨⟨0,fun _=>0,fun _=>0⟩⟩
def jF (O:List dP) (i:Int):dP:=O.getD i.toNat default
def IU (S:bW) (T:LL) (V:List Bool) (P:List (Int×Int)) (O:List dP):XH:=fun k=>if jR S T V k=true then some (jF O (sN k T),oQ S T V P k) else none
theorem Hz (P:List (Int×Int)) (s:Int) (F:Nat->Bool):sq P s F P.length 0=F 0:=by
 unfold sq;rw [df]
 induction P generalizing F with
 | nil=>rfl
 | cons x r ih =>
   rw [cz,ih];unfold sq1
   split
   ·rfl
   ·rfl
theorem Rb (S:bW) (T:LL) (V:List Bool) (P:List (Int×Int)) (s:Int):oQ S T V P s 0=false:=by
 unfold oQ
 split
 ·rw [Hz];rfl
 ·rfl
section
variable {S:bW} {T:LL} {V:List Bool} {P:List (Int×Int)} {O:List dP}
variable {k i:Nat}
theorem Bo (h:jR S T V k=true):IU S T V P O k=some (jF O (sN k T),oQ S T V P k):=az h
theorem Cx (h:jR S T V k=false):IU S T V P O k=none:=aq (by rw [h];exact eJ)
theorem Kj (h:jR S T V k=true):0<=sN k T:=by
 unfold jR at h;simp only [cg,cQ] at h;exact h.1.1
theorem mQ (hO:∀ o∈O,o.calm) (hi:i < O.length):(jF O i).calm:=by
 unfold jF;rw [cU,an,aw hi];exact hO _ (dy hi)
theorem Yl (ok:tE T=0) (hl:O.length=T.length) (hO:∀ o∈O,o.calm):Fit (IU S T V P O):=by
 refine ⟨fun k o F e=>?_,fun k o F e=>?_⟩
 all_goals
  cases hs:jR S T V k with
  | false=>rw [Cx hs] at e;cases e
  | true =>
    rw [Bo hs] at e;injection e with e;injection e with e1 e2;subst e1 e2
    first
     | exact Rb S T V P k
     | (obtain ⟨n,en,hn,_⟩:=gz ok (Kj hs)
        rw [en]
        exact mQ hO (by omega))
end
variable {F G:Nat->Bool}
theorem qO (h:∀ i,i < 11->F i=G i):Ua.bad F=Ua.bad G:=by unfold Ua.bad;rw [h 0 (by omega),h 10 (by omega)]
theorem Sk (h:∀ i,i < 11->F i=G i):tb F=tb G:=by unfold tb;rw [qO h,Ua.val_congr 8 fun i _ hi=>h i (by omega)]
theorem Ut (h:∀ i,i < 11->F i=G i):Ua.tp F=Ua.tp G:=by unfold Ua.tp;rw [qO h,Ua.AJ 9 fun i _ hi=>h i (by omega)]
theorem Qj (h:∀ i,i < 11->F i=G i):te F=te G:=by unfold te;rw [qO h]
noncomputable def ZY (x l:List S2) (r:dP) (f t:Int):Int×Bool×Int :=
 if (fI x f t).2 then (tb (heard (bV l) (Tk.bR r.A r.R r.n) (Tk.Loc r.A r.R r.n (fI x f t).1)),Ua.tp (heard (bV l) (Tk.bR r.A r.R r.n) (Tk.Loc r.A r.R r.n (fI x f t).1)),te (heard (bV l) (Tk.bR r.A r.R r.n) (Tk.Loc r.A r.R r.n (fI x f t).1))) else (0,false,3)
noncomputable def kI (x l:List S2) (r:dP) (s:Int):Int×Bool×Int:=ZY x l r (r.g (224 * s - 20)) (r.g (224 * s+20))
noncomputable def Ig (x l:List S2) (r:dP):Hr:=fun s=>if 1<=s/\s<=16/\(kI x l r s).2.2=0/\(kI x l r s).2.1=false then some (kI x l r s).1 else none
section
variable {S:bW} {T:LL} {V:List Bool} {P:List (Int×Int)} {O:List dP} {x l:List S2} {r:dP}
theorem Tc (ok:tE T=0) (hl:O.length=T.length) (hO:∀ o∈O,o.calm) (hx:bY l x) (hL:∀ u,Low l u↔rX (IU S T V P O) u) (hr':r.calm) {k:Nat} (h1:1<=k) (h2:k<=16) :
 kI x l r k=if jR S T V k=true then (tb (oQ S T V P k),Ua.tp (oQ S T V P k),te (oQ S T V P k)) else (0,false,3):=by
 have F:=Yl (S:=S) (V:=V) (P:=P) ok hl hO;have hX:∀ u,Low x u↔rX (IU S T V P O) u:=fun u=>(hx.2 u).trans (hL u)
 cases hs:jR S T V k with
 | true =>
   have e:=Bo (P:=P) (O:=O) hs;have q:=Nh F hx.1 hX hr' h1 h2 e;have g:=fun i hi=>MR F hL hr' h1 h2 e (i:=i) hi;unfold kI ZY;rw [q];simp only [if_true];rw [Sk g,Ut g,Qj g]
 | false =>
   have q:=Oy F hx.1 hX hr' h1 h2 (Cx (P:=P) (O:=O) hs);unfold kI ZY;rw [q]
   rfl
theorem Ri (ok:tE T=0) (hl:O.length=T.length) (hO:∀ o∈O,o.calm) (hx:bY l x) (hL:∀ u,Low l u↔rX (IU S T V P O) u) (hr':r.calm):Ig x l r=hr S T V P:=funext fun s=>by
 unfold Ig hr
 by_cases hb:1<=s/\s<=16
 ·obtain ⟨k,rfl⟩:∃ k:Nat,s=k:=⟨s.toNat,by omega⟩
  rw [Tc ok hl hO hx hL hr' (k:=k) (by omega) (by omega)]
  cases hs:jR S T V k with
  | false =>
    have hB:vX S T V P k=false:=by unfold vX;rw [hs];rfl
    rw [hB]
    simp
  | true =>
    simp only [if_true];have hB:vX S T V P k=(decide (te (oQ S T V P k)=0) && !Ua.tp (oQ S T V P k)):=by unfold vX;rw [hs];rfl
    by_cases q:te (oQ S T V P k)=0/\Ua.tp (oQ S T V P k)=false
    ·have hT:vX S T V P k=true:=by rw [hB,bj q.1,q.2];rfl
     rw [az ⟨hb.1,hb.2,q.1,q.2⟩,az ⟨hb.1,hb.2,hT⟩];unfold Ja;rw [az hT]
    ·rw [aq fun h=>q ⟨h.2.2.1,h.2.2.2⟩,aq fun h=>by
      have:=h.2.2;rw [hB] at this;simp only [cg,cQ,Bool.not_eq_true'] at this
      exact q this]
 ·rw [aq fun h=>hb ⟨h.1,h.2.1⟩,aq fun h=>hb ⟨h.1,h.2.1⟩]
end
def FD (S:bW) (T:LL) (V:List Bool) (P:List (Int×Int)) (O:List dP) (j:Int) (u:Int):Prop:=∃ k:Nat,1<=k/\k<=16/\sP S T V k=j/\wF (IU S T V P O) k u
section
variable {S:bW} {T:LL} {V:List Bool} {P:List (Int×Int)} {O:List dP}
theorem Qz (ok:tE T=0) {u:Int} : rX (IU S T V P O) u↔∃ j:Nat,j < T.length/\FD S T V P O j u:=by
 constructor
 ·rintro ⟨k,h1,h2,h⟩
  obtain ⟨o,F,e⟩:=oW h;have hs:jR S T V k=true:=by
   rcases q:jR S T V k with _ | _
   ·rw [Cx q] at e;cases e
   ·rfl
  obtain ⟨n,en,hn,_⟩:=gz ok (Kj hs);exact ⟨n,hn,k,h1,h2,by unfold sP;rw [az hs,en],h⟩
 ·rintro ⟨j,_,k,h1,h2,_,h⟩
  exact ⟨k,h1,h2,h⟩
end
end Bu
namespace Tk
open Go.RowKit
def Steps (w:World) (v:Value) (n:Nat) (A R:Nat->Int):Prop :=
 (∃ (a:Option Addr) (cap:Nat),v = .slice a 0 cap/\cap<=maxLen/\n=0) \/
 ∃ (b off cap:Nat),v = .slice (some ⟨b,off,none⟩) n cap/\n<=cap/\cap<=maxLen /\
  ∀ i,i < n->w.cell? ⟨b,off+i * 2,none⟩=some (.int .i64 (A i))/\w.cell? ⟨b,off+i * 2+1,none⟩=some (.int .i64 (R i))
theorem Steps.below {w w':World} {v:Value} {n:Nat} {A R:Nat->Int} (h:Steps w v n A R) (b:Below w.heap.size w w'):Steps w' v n A R:=by
 rcases h with h | ⟨b0,off,cap,e,h1,h2,hc⟩
 ·exact .inl h
 ·refine .inr ⟨b0,off,cap,e,h1,h2,fun i hi=>?_⟩
  obtain ⟨c1,c2⟩:=hc i hi;exact ⟨d9 b c1,d9 b c2⟩
end Tk
namespace Bu
open Go.RowKit
open Sp (S2 fr tp Sp)
open Wi (Plain bY Low iU)
open Ck (sN)
open Pa (hput hr jT Ai qP)
open Se (lC lZ Jr)
def Ho (w:World) (v:Value) (O:List dP):Prop:=∃ a cap,v = .slice a O.length cap/\O.length<=cap/\cap<=maxLen /\
 (0 < O.length->∃ b off,a=some ⟨b,off,none⟩/\∀ i:Nat,i < O.length->∃ u,w.cell? ⟨b,off+i,none⟩=some u/\Tk.Steps w u (jF O i).n (jF O i).A (jF O i).R)
theorem Ho.below {w w':World} {v:Value} {O:List dP} (h:Ho w v O) (hb:Below w.heap.size w w'):Ho w' v O:=by
 obtain ⟨a,cap,e,h1,h2,h3⟩:=h;refine ⟨a,cap,e,h1,h2,fun hp=>?_⟩;obtain ⟨b,off,ea,hA⟩:=h3 hp;refine ⟨b,off,ea,fun i hi=>?_⟩;obtain ⟨u,c,r⟩:=hA i hi;exact ⟨u,d9 hb c,r.below hb⟩
theorem Ho.slice {w:World} {v:Value} {O:List dP} (h:Ho w v O):∃ a cap,v = .slice a O.length cap/\O.length<=cap/\cap<=maxLen:=by
 obtain ⟨a,cap,e,h1,h2,_⟩:=h;exact ⟨a,cap,e,h1,h2⟩
variable {w:World} {v:Value} {n m cap k:Nat} {A R:Nat->Int}
theorem oI (h:Tk.Steps w v n A R):∃ a cap,v = .slice a n cap/\n<=cap/\cap<=maxLen:=by
 rcases h with ⟨a,cap,rfl,h,rfl⟩ | ⟨b,off,cap,rfl,h0,h,_⟩
 ·exact ⟨a,cap,rfl,cx _,h⟩
 ·exact ⟨_,cap,rfl,h0,h⟩
theorem Uy {a:Option Addr} (h:Tk.Steps w (.slice a n cap) m A R) (hp:0 < n):m=n/\∃ b off,a=some ⟨b,off,none⟩/\∀ i,i < n->w.cell? ⟨b,off+i * 2,none⟩=some (.int .i64 (A i))/\w.cell? ⟨b,off+i * 2+1,none⟩=some (.int .i64 (R i)):=by
 rcases h with ⟨a',cap',e,h,rfl⟩ | ⟨b,off,cap',e,_,h,hc⟩
 ·injection e with _ e _;omega
 ·injection e with e1 e2 _
  subst e1 e2;exact ⟨rfl,b,off,rfl,hc⟩
variable {O:List dP}
theorem Ho.one (h:Ho w v O) (hk:k < O.length):∃ b off cap a' cap',v = .slice (some ⟨b,off,none⟩) O.length cap/\w.cell? ⟨b,off+k,none⟩=some (.slice a' (jF O k).n cap')/\((jF O k).n<=cap'/\cap'<=maxLen)/\Tk.Steps w (.slice a' (jF O k).n cap') (jF O k).n (jF O k).A (jF O k).R:=by
 obtain ⟨a,cap,e,h1,h2,h3⟩:=h;obtain ⟨b,off,rfl,hA⟩:=h3 (by omega);obtain ⟨u,c,s⟩:=hA k hk;obtain ⟨a',cap',rfl,h4⟩:=oI s;exact ⟨b,off,cap,a',cap',e,c,h4,s⟩
theorem Wh (hk:k < O.length):jF O k∈O:=by
 unfold jF;rw [cU,an,aw hk];exact dy hk
noncomputable def iP (o:dP):Bool:=@decide o.calm (Classical.propDecidable _)
variable {o:dP}
theorem nL (h:o.calm):iP o=true:=by unfold iP;exact @decide_eq_true _ (Classical.propDecidable _) h
theorem UM (h:¬ o.calm):iP o=false:=by unfold iP;exact @decide_eq_false _ (Classical.propDecidable _) h
theorem Gq (h:iP o=true):o.calm:=by unfold iP at h;exact @of_decide_eq_true _ (Classical.propDecidable _) h
def Sw (O:List dP):Prop:=∀ o∈O,o.calm
noncomputable def gP (O:List dP):Bool:=O.all iP
theorem rD (h:gP O=true):Sw O:=fun o ho=>Gq (eS.1 h o ho)
theorem Ei {S:bW} {T:LL} {V:List Bool} (hE:jT S T V=0):1<=S.length/\S.length<=32/\T.length=S.length/\V.length=S.length/\tE T=0:=by
 unfold jT at hE
 split at hE
 ·rename_i h
  exact ⟨h.1,h.2.1,h.2.2.1,h.2.2.2,hE⟩
 ·omega
noncomputable def Ii (S:bW) (T:LL) (V:List Bool) (O:List dP):Int:=if jT S T V=0 then (if O.length=S.length/\gP O=true then 0 else 1) else jT S T V
noncomputable def VA (S:bW) (T:LL) (V:List Bool) (P:List S2) (O:List dP):bW:=if Ii S T V O=0 then Ai S T V (hr S T V P) else []
section
variable {S:bW} {T:LL} {V:List Bool} {P:List S2} {O:List dP}
theorem ni (h:jT S T V≠0):Ii S T V O=jT S T V/\VA S T V P O = []:=by
 have e:Ii S T V O=jT S T V:=aq h;exact ⟨e,aq (by rw [e];exact h)⟩
theorem DT (h:jT S T V=0) (h':¬ (O.length=S.length/\gP O=true)):Ii S T V O=1/\VA S T V P O = []:=by
 have e:Ii S T V O=1:=by unfold Ii;rw [az h,aq h']
 exact ⟨e,aq (by rw [e];decide)⟩
theorem BK (h:jT S T V=0) (h1:O.length=S.length) (h2:gP O=true):Ii S T V O=0/\VA S T V P O=Ai S T V (hr S T V P):=by
 have e:Ii S T V O=0:=by unfold Ii;rw [az h,az ⟨h1,h2⟩]
 exact ⟨e,az e⟩
end
theorem sU:∀ (l:List S2) (a b:Int),a<=b->Plain l->(∀ s∈l,a<=s.1/\s.1 < b)->(l.length:Int)<=b - a
 | [],a,b,h,_,_=>by simp;omega
 | s :: r,a,b,h,hp,hs=>by
   have p:=Wi.fT.1 hp;have q:=hs s cG;have ih:=sU r (s.1+1) b (by omega) p.1 fun x hx=>by
    have:=p.2.2 x hx;have:=hs x (cC _ hx)
    omega
   simp only [eN]
   omega
variable {l:List S2}
theorem rV (h:Plain l) (hl:∀ u,Low l u->0<=u/\u<=4294967296):l.length<=4294967297:=by
 have:=sU l 0 4294967297 (by omega) h fun s hs=>by
  have:=hl s.1 (lY h hs).1
  omega
 omega
variable {f:XH}
theorem PZ {F:Nat->Bool} (e:f k=some (o,F)) (h:bY (lC (Tk.bR o.A o.R o.n) F (224 * (k:Int)) 11) l) (u:Int):Low l u↔wF f k u:=by
 rw [h.2 u]
 constructor
 ·rintro ⟨s,hs,a,b⟩
  obtain ⟨i,hi,hF,rfl⟩:=lZ.1 hs;exact ⟨o,F,e,i,hi,hF,a,b⟩
 ·rintro ⟨o',F',e',i,hi,hF,a,b⟩
  rw [e] at e';injection e' with e';injection e' with e1 e2;subst e1 e2;exact ⟨_,lZ.2 ⟨i,hi,hF,rfl⟩,a,b⟩
theorem Ce {u:Int} (h:wF f k u):0<=u/\u<=4294967296:=by
 obtain ⟨o,F,e⟩:=oW h;have a:=tQ e h;have b:=Jr o.A o.R o.n (224 * (k:Int));have c:=Jr o.A o.R o.n (224 * (k:Int)+176);unfold dP.g at a
 omega
def jJ (S:bW) (T:LL) (V:List Bool) (P:List S2) (O:List dP) (j:Int) (k:Nat) (u:Int):Prop:=∃ i:Nat,1<=i/\i < k/\sP S T V i=j/\wF (IU S T V P O) i u
section
variable {S:bW} {T:LL} {V:List Bool} {P:List S2} {O:List dP} {j:Int} {k:Nat} {u:Int}
theorem M5:¬ jJ S T V P O j 1 u:=fun ⟨i,h1,h2,_⟩=>by omega
theorem Oo:jJ S T V P O j 17 u↔FD S T V P O j u:=⟨fun ⟨i,h1,h2,h⟩=>⟨i,h1,by omega,h⟩,fun ⟨i,h1,h2,h⟩=>⟨i,h1,by omega,h⟩⟩
theorem Pt (h1:1<=k) (e:sP S T V k=j):jJ S T V P O j (k+1) u↔jJ S T V P O j k u\/wF (IU S T V P O) k u:=by
 constructor
 ·rintro ⟨i,a,b,c,d⟩
  by_cases q:i=k
  ·subst q;exact .inr d
  ·exact .inl ⟨i,a,by omega,c,d⟩
 ·rintro (⟨i,a,b,c,d⟩ | d)
  ·exact ⟨i,a,by omega,c,d⟩
  ·exact ⟨k,h1,by omega,e,d⟩
theorem QW (h:¬ (jR S T V k=true/\sP S T V k=j)):jJ S T V P O j (k+1) u↔jJ S T V P O j k u:=by
 constructor
 ·rintro ⟨i,a,b,c,d⟩
  by_cases q:i=k
  ·subst q
   obtain ⟨o,F,e⟩:=oW d
   rcases hs:jR S T V i with _ | _
   ·rw [Cx hs] at e;cases e
   ·exact absurd ⟨hs,c⟩ h
  ·exact ⟨i,a,by omega,c,d⟩
 ·rintro ⟨i,a,b,c,d⟩
  exact ⟨i,a,by omega,c,d⟩
theorem YB (h:FD S T V P O j u):0<=u/\u<=4294967296:=by obtain ⟨_,_,_,_,h⟩:=h;exact Ce h
theorem LJ (h:rX f u):0<=u/\u<=4294967296:=by obtain ⟨_,_,_,h⟩:=h;exact Ce h
end
def ZL (S:bW) (T:LL) (V:List Bool) (P:List S2) (O:List dP) (j:Int) (l:List S2):Prop:=Plain l/\∀ u,Low l u↔FD S T V P O j u
def sJ (S:bW) (T:LL) (V:List Bool) (P:List S2) (O:List dP) (l:List S2):Prop:=Plain l/\∀ u,Low l u↔rX (IU S T V P O) u
variable {S:bW} {T:LL} {V:List Bool} {P a b:List S2}
theorem sJ.one (ha:sJ S T V P O a) (hb:sJ S T V P O b):a=b:=Wi.rF ha.1 hb.1 fun t=>(ha.2 t).trans (hb.2 t).symm
theorem OY (ok:tE T=0) (hl:O.length=T.length) (hO:Sw O) (h:jR S T V k=true) :
 ∃ n:Nat,sP S T V k=n/\n < O.length/\IU S T V P O k=some (jF O n,oQ S T V P k)/\(jF O n).calm:=by
 obtain ⟨n,en,hn,_⟩:=gz ok (Kj h);refine ⟨n,by unfold sP;rw [az h,en],by omega,by rw [Bo h,en],mQ hO (by omega)⟩
theorem Gi {Q:Int->Prop} (hp:Plain l) (hl:∀ u,Low l u->Q u) (hq:∀ u,Q u->0<=u/\u<=4294967296):l.length<=4294967297:=rV hp fun u h=>hq u (hl u h)
def sG (S:bW) (T:LL) (V:List Bool) (P:List S2) (O:List dP) (k:Nat) (u:Int):Prop:=∃ j:Nat,j < k/\FD S T V P O j u
theorem JF (k:Nat) (u:Int):sG S T V P O (k+1) u↔sG S T V P O k u\/FD S T V P O k u:=by
 constructor
 ·rintro ⟨j,hj,h⟩
  by_cases e:j=k
  ·subst e;exact .inr h
  ·exact .inl ⟨j,by omega,h⟩
 ·rintro (⟨j,hj,h⟩ | h)
  ·exact ⟨j,by omega,h⟩
  ·exact ⟨k,by omega,h⟩
def jr (h:Hr) (k:Nat):Hr:=fun n=>if 1<=n/\n < (k:Int) then h n else none
theorem mY (h:Hr):jr h 1=fun _=>none:=funext fun n=>by unfold jr;rw [aq (by omega)]
variable {h:Hr}
theorem VX (h1:1<=k) {y:Int} (e:h k=some y):hput (jr h k) k y=jr h (k+1):=funext fun n=>by
 unfold hput jr
 by_cases g:n=k
 ·subst g;rw [az rfl,az (by omega),e]
 ·rw [aq g]
  by_cases q:1<=n/\n < (k:Int)
  ·rw [az q,az (by omega)]
  ·rw [aq q,aq (by omega)]
theorem Z7 (e:h k=none):jr h k=jr h (k+1):=funext fun n=>by
 unfold jr
 by_cases g:n=k
 ·subst g;rw [aq (by omega),e,ite_self]
 ·by_cases q:1<=n/\n < (k:Int)
  ·rw [az q,az (by omega)]
  ·rw [aq q,aq (by omega)]
theorem VJ (o:∀ n:Int,(n < 1\/16 < n)->h n=none):jr h 17=h:=funext fun n=>by
 unfold jr
 split
 ·rfl
 ·exact (o n (by omega)).symm
section
variable {x l:List S2} {r:dP}
variable {s:Int}
theorem XQ (h:s < 1\/16 < s):Ig x l r s=none:=aq fun g=>by omega
theorem YO (h1:1<=s) (h2:s<=16) (e:(kI x l r s).2.2=0) (o:(kI x l r s).2.1=false):Ig x l r s=some (kI x l r s).1:=az ⟨h1,h2,e,o⟩
theorem ZT (e:¬ ((kI x l r s).2.2=0/\(kI x l r s).2.1=false)):Ig x l r s=none:=aq fun g=>e ⟨g.2.2.1,g.2.2.2⟩
end
open Go.Maps
open Rw (At)
open Pa (Cel Vz pat)
section
end
def Vv (s:List S2):dP:=⟨s.length,fr s,tp s⟩
theorem E7 {s:List S2} (h:Rd K2 w v s):Tk.Steps w v (Vv s).n (Vv s).A (Vv s).R:=by
 obtain ⟨a,cap,rfl,h1,h2,h3⟩:=h
 by_cases h0:0 < s.length
 ·obtain ⟨b,off,rfl,hA⟩:=h3 h0
  exact .inr ⟨b,off,cap,rfl,h1.1,h2,fun i hi=>⟨hA i hi 0 _ rfl,hA i hi 1 _ rfl⟩⟩
 ·have e:s.length=0:=by omega
  exact .inl ⟨a,cap,by rw [e],h2,e⟩
theorem Vl {hs:List Hd} (h:Rd KS w v hs) (hl:hs.length=O.length) (each:∀ i:Nat,i < O.length->Tk.Steps w (sl (hs.getD i zh)) (jF O i).n (jF O i).A (jF O i).R):Ho w v O:=by
 obtain ⟨a,cap,e,h1,h2,h3⟩:=h;rw [hl] at e h1 h3;refine ⟨a,cap,e,h1.1,h2,fun hp=>?_⟩;obtain ⟨b,off,ea,hA⟩:=h3 hp;refine ⟨b,off,ea,fun i hi=>⟨_,?_,each i hi⟩⟩;have c:=hA i (by rw [hl];exact hi) 0 _ rfl;simp only [KS,Nat.mul_one,Nat.add_zero] at c;exact c
end Bu
namespace Cu
open Go.RowKit Go.Maps
open Rw (At)
open Pa (S2)
open Bu (dP jF Ho Vv E7 Vl gP nL)
structure CI (w:World) (T:LL) (L:List Nd) (k1 k2 k3 k4:Nat) (o1:Value) (l1:List Nat) (o2:Value) (l2:List Hd) (o3:Value) (l3:List Bool) (o4:Value) (l4:List Hd) (wr:World):Prop where
 w1:Ow KN wr w.heap.size 76 o1 l1
 w2:Ow KS wr w.heap.size 175 o2 l2
 w3:Ow KB wr w.heap.size 4 o3 l3
 w4:Ow KS wr w.heap.size 179 o4 l4
 n1:l1.length=k1
 n2:l2.length=k2
 n3:l3.length=k3
 n4:l4.length=k4
 e1:∀ i,i < k1->l1.getD i 0=(eX L i).s
 e2:∀ i,i < k2->Ow K5 wr w.heap.size 244 (sl (l2.getD i zh)) (dH T i)
 e3:∀ i,i < k3->l3.getD i false=(eX L i).live
 e4:∀ i,i < k4->Ow K2 wr w.heap.size 178 (sl (l4.getD i zh)) [(0,(eX L i).rate)]
 aD:Below w.heap.size w wr
section
variable {w wr w':World} {T:LL} {L:List Nd} {k1 k2 k3 k4:Nat} {o1 o2 o3 o4 o':Value} {l1:List Nat} {l2 l4:List Hd} {l3:List Bool}
theorem CI.start (w:World) (T:LL) (L:List Nd):CI w T L 0 0 0 0 (.slice none 0 0) [] (.slice none 0 0) [] (.slice none 0 0) [] (.slice none 0 0) [] w :=
 ⟨Rw.Ow.nil _ _ _,Rw.Ow.nil _ _ _,Rw.Ow.nil _ _ _,Rw.Ow.nil _ _ _,rfl,rfl,rfl,rfl,fun i hi=>by omega,fun i hi=>by omega,fun i hi=>by omega,fun i hi=>by omega,af _ _⟩
theorem CI.below (h:CI w T L k1 k2 k3 k4 o1 l1 o2 l2 o3 l3 o4 l4 wr) (b:Below wr.heap.size wr w'):CI w T L k1 k2 k3 k4 o1 l1 o2 l2 o3 l3 o4 l4 w' :=
 ⟨h.w1.keep b,h.w2.keep b,h.w3.keep b,h.w4.keep b,h.n1,h.n2,h.n3,h.n4,h.e1,fun i hi=>(h.e2 i hi).keep b,h.e3,fun i hi=>(h.e4 i hi).keep b,h.aD.trans (b.mono h.aD.size)⟩
theorem kT {α:Type} {l:List α} {k i:Nat} (x d:α) (hl:l.length=k) (hi:i < k+1):(l ++ [x]).getD i d=if i < k then l.getD i d else x:=by
 rw [an,List.getElem?_append,hl]
 split
 ·rw [an]
 ·obtain rfl:i=k:=by omega
  simp
theorem CI.ack (h:CI w T L k1 k2 k3 k4 o1 l1 o2 l2 o3 l3 o4 l4 wr) {x:Nat} (own:Ow KN w' w.heap.size 76 o' (l1 ++ [x])) (gr:wr.grownBy w' o1.ownBlock) (hx:x=(eX L k1).s):CI w T L (k1+1) k2 k3 k4 o' (l1 ++ [x]) o2 l2 o3 l3 o4 l4 w':=by
 have o:=aV gr;refine ⟨own,aA h.w2 (fun k e=>aZ h.w2 h.w1 (by decide) k e) o,aA h.w3 (fun k e=>aZ h.w3 h.w1 (by decide) k e) o,aA h.w4 (fun k e=>aZ h.w4 h.w1 (by decide) k e) o,by rw [cW,h.n1];rfl,h.n2,h.n3,h.n4,fun i hi=>?_,fun i hi=>aA (h.e2 i hi) (fun k e=>aZ (h.e2 i hi) h.w1 (by decide) k e) o,h.e3,fun i hi=>aA (h.e4 i hi) (fun k e=>aZ (h.e4 i hi) h.w1 (by decide) k e) o,h.aD.grown gr h.aD.size fun j e=>(cJ h.w1 j e).1⟩;rw [kT x 0 h.n1 hi]
 split
 ·rename_i g;exact h.e1 i g
 ·obtain rfl:i=k1:=by omega
  exact hx
variable {x:Hd}
theorem CI.acL (h:CI w T L k1 k2 k3 k4 o1 l1 o2 l2 o3 l3 o4 l4 wr) (own:Ow KS w' w.heap.size 175 o' (l2 ++ [x])) (gr:wr.grownBy w' o2.ownBlock) (hx:Ow K5 wr w.heap.size 244 (sl x) (dH T k2)):CI w T L k1 (k2+1) k3 k4 o1 l1 o' (l2 ++ [x]) o3 l3 o4 l4 w':=by
 have o:=aV gr;refine ⟨aA h.w1 (fun k e=>aZ h.w1 h.w2 (by decide) k e) o,own,aA h.w3 (fun k e=>aZ h.w3 h.w2 (by decide) k e) o,aA h.w4 (fun k e=>aZ h.w4 h.w2 (by decide) k e) o,h.n1,by rw [cW,h.n2];rfl,h.n3,h.n4,h.e1,fun i hi=>?_,h.e3,fun i hi=>aA (h.e4 i hi) (fun k e=>aZ (h.e4 i hi) h.w2 (by decide) k e) o,h.aD.grown gr h.aD.size fun j e=>(cJ h.w2 j e).1⟩;rw [kT x zh h.n2 hi]
 split
 ·rename_i g;exact aA (h.e2 i g) (fun k e=>aZ (h.e2 i g) h.w2 (by decide) k e) o
 ·obtain rfl:i=k2:=by omega
  exact aA hx (fun k e=>aZ hx h.w2 (by decide) k e) o
theorem CI.acy (h:CI w T L k1 k2 k3 k4 o1 l1 o2 l2 o3 l3 o4 l4 wr) {x:Bool} (own:Ow KB w' w.heap.size 4 o' (l3 ++ [x])) (gr:wr.grownBy w' o3.ownBlock) (hx:x=(eX L k3).live):CI w T L k1 k2 (k3+1) k4 o1 l1 o2 l2 o' (l3 ++ [x]) o4 l4 w':=by
 have o:=aV gr;refine ⟨aA h.w1 (fun k e=>aZ h.w1 h.w3 (by decide) k e) o,aA h.w2 (fun k e=>aZ h.w2 h.w3 (by decide) k e) o,own,aA h.w4 (fun k e=>aZ h.w4 h.w3 (by decide) k e) o,h.n1,h.n2,by rw [cW,h.n3];rfl,h.n4,h.e1,fun i hi=>aA (h.e2 i hi) (fun k e=>aZ (h.e2 i hi) h.w3 (by decide) k e) o,fun i hi=>?_,fun i hi=>aA (h.e4 i hi) (fun k e=>aZ (h.e4 i hi) h.w3 (by decide) k e) o,h.aD.grown gr h.aD.size fun j e=>(cJ h.w3 j e).1⟩;rw [kT x false h.n3 hi]
 split
 ·rename_i g;exact h.e3 i g
 ·obtain rfl:i=k3:=by omega
  exact hx
theorem CI.acV (h:CI w T L k1 k2 k3 k4 o1 l1 o2 l2 o3 l3 o4 l4 wr) (own:Ow KS w' w.heap.size 179 o' (l4 ++ [x])) (gr:wr.grownBy w' o4.ownBlock) (hx:Ow K2 wr w.heap.size 178 (sl x) [(0,(eX L k4).rate)]):CI w T L k1 k2 k3 (k4+1) o1 l1 o2 l2 o3 l3 o' (l4 ++ [x]) w':=by
 have o:=aV gr;refine ⟨aA h.w1 (fun k e=>aZ h.w1 h.w4 (by decide) k e) o,aA h.w2 (fun k e=>aZ h.w2 h.w4 (by decide) k e) o,aA h.w3 (fun k e=>aZ h.w3 h.w4 (by decide) k e) o,own,h.n1,h.n2,h.n3,by rw [cW,h.n4];rfl,h.e1,fun i hi=>aA (h.e2 i hi) (fun k e=>aZ (h.e2 i hi) h.w4 (by decide) k e) o,h.e3,fun i hi=>?_,h.aD.grown gr h.aD.size fun j e=>(cJ h.w4 j e).1⟩;rw [kT x zh h.n4 hi]
 split
 ·rename_i g;exact aA (h.e4 i g) (fun k e=>aZ (h.e4 i g) h.w4 (by decide) k e) o
 ·obtain rfl:i=k4:=by omega
  exact aA hx (fun k e=>aZ hx h.w4 (by decide) k e) o
end
def JW (L:List Nd):List dP:=L.map fun x=>Vv [(0,x.rate)]
variable {L:List Nd}
theorem VE {i:Nat} (hi:i < L.length):jF (JW L) i=Vv [(0,(eX L i).rate)]:=by
 unfold jF JW eX;rw [cU,an,cX,aw hi,an,aw hi]
 rfl
theorem yG (L:List Nd):(JW L).length=L.length:=cm _
theorem UF {x:Int} (h : -2000<=x/\x<=2000):(Vv [(0,x)]).calm:=by
 have e0:∀ i,i < 1->(Vv [(0,x)]).A i=0:=fun i hi=>by
  obtain rfl:i=0:=by omega
  rfl
 have e1:∀ i,i < 1->(Vv [(0,x)]).R i=x:=fun i hi=>by
  obtain rfl:i=0:=by omega
  rfl
 refine ⟨⟨(by show 1<=64;decide),fun i hi=>?_,fun i hi=>?_,fun i hi=>?_⟩,by decide,fun i hi=>?_⟩
 ·rw [e0 i hi];decide
 ·rw [e1 i hi];omega
 ·have:i+1 < 1:=hi
  omega
 ·rw [e1 i hi];exact h
theorem M9 (h:∀ i,i < L.length->-2000<=(eX L i).rate/\(eX L i).rate<=2000):gP (JW L)=true:=by
 refine eS.2 fun o ho=>nL ?_;obtain ⟨x,hx,rfl⟩:=dC.1 ho;obtain ⟨i,hi,e⟩:=ew hx;have g:=h i hi;have e':eX L i=x:=by
  unfold eX;rw [an,aw hi];exact e
 rw [e'] at g;exact UF g
section
variable {s t p:Nat} {F G:Nat->Prop} {c:Cs} {vn vq:Value} {L:List Nd} {Fs:Nat->Nat->Prop} {w wr w1 w2 w':World} {T:LL} {o1 o2 o3 o4:Value} {l1:List Nat} {l2 l4:List Hd} {l3:List Bool}
theorem CI.stl (h:CI w T L c.S.length c.S.length c.S.length c.S.length o1 l1 o2 l2 o3 l3 o4 l4 wr) (H:Cl w s F c t vn L p vq Fs):zS wr o1 c.S :=
 ⟨l1,h.w1.rd,h.n1,fun i hi=>⟨Fs i,by rw [h.e1 i hi];exact (H.st i (by rw [H.len];exact hi)).below h.aD⟩⟩
variable {n k i cap:Nat}
theorem CI.tab (h:CI w T L n n n n o1 l1 o2 l2 o3 l3 o4 l4 wr) (hT:T.length=n):lX wr o2 T:=J8 h.w2.rd (h.n2.trans hT.symm) fun i hi=>(h.e2 i (by rw [← hT];exact hi)).rd
theorem CI.liv (h:CI w T L c.S.length c.S.length c.S.length c.S.length o1 l1 o2 l2 o3 l3 o4 l4 wr) (H:Cl w s F c t vn L p vq Fs) (hv:c.V.length=c.S.length):Rd KB wr o3 c.V:=by
 have e:l3=c.V:=by
  refine List.ext_getElem (h.n3.trans hv.symm) fun i h1 h2=>?_;have a:=h.e3 i (by rw [← h.n3];exact h1);rw [H.lv i (by rw [H.len,← hv];exact h2)] at a;unfold bX at a;rw [cU,an,aw h1,an,aw h2] at a;exact a
 rw [← e];exact h.w3.rd
theorem CI.osl (h:CI w T L L.length L.length L.length L.length o1 l1 o2 l2 o3 l3 o4 l4 wr):Ho wr o4 (JW L) :=
 Vl h.w4.rd (h.n4.trans (yG L).symm) fun i hi=>by
  rw [yG] at hi;rw [VE hi];exact E7 (h.e4 i hi).rd
def pN (L:List Nd) (ps:List Nat) (k:Nat):List Nd:=(List.range L.length).map fun i=>if i < k then { eX L i with s:=ps.getD i 0 } else eX L i
theorem dz (L:List Nd) (ps:List Nat) (k:Nat):(pN L ps k).length=L.length:=by unfold pN;rw [cm,List.length_range]
variable {ps:List Nat}
theorem kS (hi:i < L.length):eX (pN L ps k) i=if i < k then { eX L i with s:=ps.getD i 0 } else eX L i:=by
 unfold pN
 conv=>lhs;unfold eX
 rw [an,cX,List.getElem?_range hi]
 rfl
theorem ME {L':List Nd} (hl:L.length=L'.length) (h:∀ i,i < L.length->eX L i=eX L' i):L=L':=by
 refine List.ext_getElem hl fun i h1 h2=>?_;have:=h i h1
 simpa [eX,List.getD,List.getElem?_eq_getElem h1,List.getElem?_eq_getElem h2] using this
theorem MU (L:List Nd) (ps:List Nat):pN L ps 0=L:=ME (dz L ps 0) fun i hi=>by
 rw [dz] at hi;rw [kS hi,aq (by omega)]
theorem Nn (hk:k < L.length):(pN L ps k).set k { eX L k with s:=ps.getD k 0 } = pN L ps (k+1):=by
 refine ME (by rw [cI,dz,dz]) fun i hi=>?_;rw [cI,dz] at hi;rw [kN (by rw [dz];exact hk),kS hi,kS hi]
 by_cases e:i=k
 ·subst e
  rw [az rfl,az (by omega)]
 ·rw [aq e]
  by_cases g:i < k
  ·rw [az g,az (by omega)]
  ·rw [aq g,aq (by omega)]
structure PL (w2:World) (g cap:Nat) (n:Nat) (L:List Nd) (ps:List Nat) (k:Nat) (wr:World):Prop where
 own:Ow KD wr 0 78 (.slice (some ⟨g,0,none⟩) n cap) (pN L ps k)
 only:Only (fun j=>j=g) w2 wr
theorem PL.step {g:Nat} (h:PL w2 g cap n L ps k wr) (hn:L.length=n) (hk:k < n):PL w2 g cap n L ps (k+1) (wr.setCell ⟨g,k * 3,none⟩ (ptr (ps.getD k 0))):=by
 have hl:(pN L ps k).length=n:=by rw [dz];exact hn
 have o:=h.own;rw [← hl] at o
 have e:=Rw.Ow.set o k 0 (by omega) (by decide) (ptr (ps.getD k 0)) { eX L k with s:=ps.getD k 0 } (by
  have q:(pN L ps k).getD k ndD=eX L k:=by
   have:=kS (L:=L) (ps:=ps) (k:=k) (i:=k) (by omega);rw [aq (by omega)] at this;exact this
  show [ptr (ps.getD k 0),.bool (eX L k).live,.int .i64 (eX L k).rate]=(KD.enc ((pN L ps k).getD k ndD)).set 0 _
  rw [q]
  rfl)
 rw [Nn (by omega),hl] at e;exact ⟨e,h.only.trans (Only.set (fun j=>j=g) wr (a:=⟨g,k * 3,none⟩) rfl _) fun _ _ q=>q⟩
theorem Cl.carry (h:Cl w s F c t vn L p vq Fs) {g:Nat} (hg:vn = .slice (some ⟨g,0,none⟩) c.S.length cap) {S':bW} {v:Value} {Gs:Nat->Nat->Prop} (hj:PJ 76 w S' S'.length v ps Gs w2) (hS:S'.length=c.S.length) (hp:PL w2 g cap c.S.length L ps c.S.length w'):Cl w' s (Fx F w w') { c with S:=S' } t vn (pN L ps c.S.length) p vq Gs/\Only F w w':=by
 subst hg;have b:=hj.aD;have o:=hp.only;have hz:=cP b.size o.size;have gF:=h.fv g (.inl rfl);have gl:=h.low g gF;have h2:=h.below (b.mono (am _));have hl:=h.len;have oo:Only F w w':=(Only.of_below b).trans o fun k _ e=>by rw [e];exact gF
 refine ⟨⟨(o.block s h2.slt fun e=>h2.vs.1 (by rw [e];rfl)).trans h2.row,hp.own,by rw [dz,hl,hS],fun i hi=>?_,fun i hi=>?_,fun i hi=>?_,h2.pr.only o (fun e=>h2.vp.1 (by rw [e];rfl)),aA h2.sp (fun k e q=>h2.vv g rfl (by rw [e,q])) o,.inl h.fs,.inl h.fp,fun k q=>.inl (h.fv k q),fun i hi k q=>?_,fun i j hi hj' hij k q=>?_,fun i hi k q=>?_,Fx.low h.low hz⟩,oo⟩
 ·rw [dz] at hi
  rw [kS hi,az (by omega)];exact (hj.each i (by omega)).only (fun k q e=>by have:=(hj.lo i (by omega) k q).1;omega) o
 ·rw [dz] at hi
  rw [kS hi,az (by omega)];exact h.lv i hi
 ·rw [dz] at hi
  rw [kS hi,az (by omega)];exact h.rt i hi
 ·rw [dz] at hi
  have a:=(hj.lo i (by omega) k q).1;have c:=(hj.each i (by omega)).low k q;have d:=o.size;exact .inr ⟨a,by omega⟩
 ·rw [dz] at hi hj'
  exact hj.jZ i j (by omega) (by omega) hij k q
 ·rw [dz] at hi
  have a:=(hj.lo i (by omega) k q).1;have c1:=h.slt;have c2:=h.pr.lt;exact ⟨by omega,by omega,fun e=>by have:=h.low k (h.fv k (.inl e));omega,fun e=>by have:=h.low k (h.fv k (.inr e));omega⟩
end
open Fl (R4 K4 dF)
open Fs (aB sH)
open Pa (Dw eO)
attribute [local irreducible] Sd.aU wpQuiet Sz.lU
def NwF (w wr:World) (k:Nat):Prop:=w.heap.size<=k/\k < wr.heap.size
variable {i:Nat}
theorem Rj {S:bW} {x:aT×Int} (hi:i < S.length+1):sat (S ++ [x]) i=if i < S.length then sat S i else x:=by
 unfold sat;rw [cU];exact kT x ([],0) rfl hi
theorem Qp {V:List Bool} {b:Bool} (hi:i < V.length+1):bX (V ++ [b]) i=if i < V.length then bX V i else b:=by
 unfold bX;rw [cU];exact kT b false rfl hi
theorem yB {x:Nd} (hi:i < L.length+1):eX (L ++ [x]) i=if i < L.length then eX L i else x:=kT x ndD rfl hi
section
variable {s t p m q:Nat} {F G:Nat->Prop} {c:Cs} {vn vq v':Value} {L:List Nd} {Fs:Nat->Nat->Prop} {w w5 w6:World} {A:aT} {rate:Int}
theorem Cl.push (h:Cl w5 s F c t vn L p vq Fs) (hF:∀ k,F k->w.heap.size<=k/\k < m) (hv:c.V.length=c.S.length) (st:St w5 q G A 0) (hG:∀ k,G k->m<=k) (hm:w.heap.size<=m) (hr : -2000<=rate/\rate<=2000) (ow:Ow KD w6 0 78 v' (L ++ [⟨q,true,rate⟩])) (gr:w5.grownBy w6 vn.ownBlock) (hw:w.heap.size<=w5.heap.size) (hq:v'.ownBlock=vn.ownBlock\/∃ g,v'.ownBlock=some g/\w5.heap.size<=g) :
 Cl (w6.setCell ⟨s,0,none⟩ v') s (NwF w (w6.setCell ⟨s,0,none⟩ v')) { c with S:=c.S ++ [(A,0)],V:=c.V ++ [true] } t v' (L ++ [⟨q,true,rate⟩]) p vq (fun i=>if i < L.length then Fs i else G):=by
 have oq:=aV gr;have hl:=h.len;have zz:=gr.size;have hzz:(w6.setCell ⟨s,0,none⟩ v').heap.size=w6.heap.size:=by simp [World.setCell]
 have lv:∀ k,v'.ownBlock=some k->k < w6.heap.size:=fun k e=>(cJ ow k e).2;have sne:=h.vs.1;have row1:=(oq.block s h.slt (fun e=>sne e)).trans h.row;have row2:(w6.setCell ⟨s,0,none⟩ v').heap[s]? = some (.cells #[v',ptr p,.int .i64 c.pl,vq] 73 (0,0)):=Rw.heap_setCell_same (j:=0) row1 _;have o3:Only (fun k=>k=s) w6 (w6.setCell ⟨s,0,none⟩ v'):=Only.set (fun k=>k=s) w6 (a:=⟨s,0,none⟩) rfl _;have inN:∀ k,F k->NwF w (w6.setCell ⟨s,0,none⟩ v') k:=fun k g=>⟨(hF k g).1,by rw [hzz];have:=h.low k g;omega⟩;have offG:∀ k,G k->k≠s/\k≠p/\v'.ownBlock≠some k/\vq.ownBlock≠some k/\vn.ownBlock≠some k:=fun k g=>by
  have g0:=hG k g;have gl:=st.low k g;have a1:=(hF s h.fs).2;have a2:=(hF p h.fp).2;have a3:∀ j,vn.ownBlock=some j->j < m:=fun j e=>(hF j (h.fv j (.inl e))).2;have a4:∀ j,vq.ownBlock=some j->j < m:=fun j e=>(hF j (h.fv j (.inr e))).2;refine ⟨by omega,by omega,fun e=>?_,fun e=>by have:=a4 k e;omega,fun e=>by have:=a3 k e;omega⟩
  rcases hq with q | ⟨j,q,hj⟩
  ·have:=a3 k (by rw [← q];exact e);omega
  ·rw [q] at e;injection e with e;omega
 have offF:∀ i,i < L.length->∀ k,Fs i k->k≠s/\k≠p/\v'.ownBlock≠some k/\vq.ownBlock≠some k/\vn.ownBlock≠some k:=fun i hi k g=>by
  have q0:=h.off i hi k g;refine ⟨q0.1,q0.2.1,fun e=>?_,q0.2.2.2,q0.2.2.1⟩
  rcases hq with q | ⟨j,q,hj⟩
  ·exact q0.2.2.1 (by rw [← q];exact e)
  ·rw [q] at e;injection e with e
   have:=h.low k (h.ff i hi k g);omega
 have hlen:(L ++ [(⟨q,true,rate⟩:Nd)]).length=L.length+1:=by simp
 refine ⟨row2,aA ow (fun k e q=>ow.apart row1 (by decide) (by rw [e,q])) o3,by rw [hlen];simp;omega,fun i hi=>?_,fun i hi=>?_,fun i hi=>?_,(h.pr.only oq (fun e=>h.vp.1 e)).only o3 (fun e=>h.GK e.symm),aA (aA h.sp (fun k e q=>h.vv k q e) oq) (fun k e q=>h.vs.2 (by rw [e,q])) o3,inN s h.fs,inN p h.fp,fun k g=>?_,fun i hi k g=>?_,fun i j hi hj hij k g=>?_,fun i hi k g=>?_,fun k g=>g.2⟩
 ·rw [hlen] at hi
  show St _ _ _ (sat (c.S ++ [(A,0)]) i).1 (sat (c.S ++ [(A,0)]) i).2
  rw [yB hi,Rj (by omega)]
  by_cases e:i < L.length
  ·rw [az e,az e,az (by omega)]
   exact ((h.st i e).only (fun k g q=>(offF i e k g).2.2.2.2 q) oq).only (fun k g q=>(offF i e k g).1 q) o3
  ·rw [aq e,aq e,aq (by omega)]
   exact (st.only (fun k g q=>(offG k g).2.2.2.2 q) oq).only (fun k g q=>(offG k g).1 q) o3
 ·rw [hlen] at hi
  show _=bX (c.V ++ [true]) i
  rw [yB hi,Qp (by omega)]
  by_cases e:i < L.length
  ·rw [az e,az (by omega)];exact h.lv i e
  ·rw [aq e,aq (by omega)]
 ·rw [hlen] at hi
  rw [yB hi]
  by_cases e:i < L.length
  ·rw [az e];exact h.rt i e
  ·rw [aq e];exact hr
 ·rcases g with g | g
  ·refine ⟨?_,by rw [hzz];exact lv k g⟩
   rcases hq with q | ⟨j,q,hj⟩
   ·exact (hF k (h.fv k (.inl (by rw [← q];exact g)))).1
   ·rw [q] at g;injection g with g;omega
  ·exact inN k (h.fv k (.inr g))
 ·rw [hlen] at hi
  by_cases e:i < L.length
  ·rw [az e] at g;exact inN k (h.ff i e k g)
  ·rw [aq e] at g
   refine ⟨by have:=hG k g;omega,by rw [hzz];have:=st.low k g;omega⟩
 ·rw [hlen] at hi hj
  have sep:∀ i,i < L.length->∀ k,Fs i k->G k->False:=fun i e k g g'=>by have:=(hF k (h.ff i e k g)).2;have:=hG k g';omega
  by_cases e:i < L.length
  ·rw [az e] at g
   by_cases e':j < L.length
   ·rw [az e'];exact h.jZ i j e e' hij k g
   ·rw [aq e'];exact fun g'=>sep i e k g g'
  ·rw [aq e] at g
   by_cases e':j < L.length
   ·rw [az e'];exact fun g'=>sep j e' k g' g
   ·omega
 ·rw [hlen] at hi
  by_cases e:i < L.length
  ·rw [az e] at g
   have:=offF i e k g;exact ⟨this.1,this.2.1,this.2.2.1,this.2.2.2.1⟩
  ·rw [aq e] at g
   have:=offG k g;exact ⟨this.1,this.2.1,this.2.2.1,this.2.2.2.1⟩
end
def Sy (w:World) (L:List Pl) (e:Ending) (w':World):Prop:=Below w.heap.size w w'/\((newE L=0/\∃ s F,e = .returned (.tuple #[ptr s,.int .i64 0])/\lQ w' s F (newC L) 0/\∀ j,F j->w.heap.size<=j)\/(newE L≠0/\e = .returned (.tuple #[.pointer none,.int .i64 (newE L)])))
structure Qd (w:World) (L:List Pl) (s p k:Nat) (vn:Value) (LN:List Nd) (Fs:Nat->Nat->Prop) (wr:World):Prop where
 cl:Cl wr s (NwF w wr) (newC (L.take k)) 0 vn LN p (.slice none 0 0) Fs
 aD:Below w.heap.size w wr
 gd:Gds L k
theorem Qd.below {w wr w':World} {L:List Pl} {s p k:Nat} {vn:Value} {LN:List Nd} {Fs:Nat->Nat->Prop} (h:Qd w L s p k vn LN Fs wr) (b:Below wr.heap.size wr w'):Qd w L s p k vn LN Fs w' :=
 ⟨(h.cl.below b).wide (fun _ g=>⟨g.1,cL g.2 b.size⟩) (fun _ g=>g.2),h.aD.trans (b.mono h.aD.size),h.gd⟩
variable {L:List Pl}
theorem Og (h:i < L.length):newC (L.take (i+1)) = { newC (L.take i) with S:=(newC (L.take i)).S ++ [((fH L i).1,0)],V:=(newC (L.take i)).V ++ [true] }:=by
 have e:=Ni h;have q:newC (L.take (i+1))=⟨(newC (L.take (i+1))).S,(newC (L.take (i+1))).V,Wt.new,0,[]⟩:=rfl;rw [q,e.1,e.2]
 rfl
variable {w W w5 w6 w1:World} {s p k q B:Nat}
theorem Qd.step {vn v':Value} {LN:List Nd} {Fs:Nat->Nat->Prop} {G:Nat->Prop} (h:Qd w L s p k vn LN Fs W) (b:Below W.heap.size W w5) (hk:k < L.length) (g:P6 (fH L k)) (st:St w5 q G (fH L k).1 0) (lo:∀ j,G j->W.heap.size<=j)
 (ow:Ow KD w6 0 78 v' (LN ++ [⟨q,true,(fH L k).2⟩])) (gr:w5.grownBy w6 vn.ownBlock) (hq:v'.ownBlock=vn.ownBlock\/∃ g,v'.ownBlock=some g/\w5.heap.size<=g):Qd w L s p (k+1) v' (LN ++ [⟨q,true,(fH L k).2⟩]) (fun i=>if i < LN.length then Fs i else G) (w6.setCell ⟨s,0,none⟩ v'):=by
 have hz:=b.size;have hw:=h.aD.size;have hv:(newC (L.take k)).V.length=(newC (L.take k)).S.length:=by
  show (List.map _ _).length=(List.map _ _).length
  rw [cm,cm]
 have cl5:=h.cl.below b;have z:=cl5.push (w:=w) (m:=W.heap.size) (fun k g=>g) hv st lo hw g.2 ow gr (cP hw hz) hq;refine ⟨?_,?_,Tg h.gd g⟩
 ·rw [Og hk]
  exact z
 ·have b5:=h.aD.trans (b.mono hw)
  have b6:=b5.grown gr (cP hw hz) fun j e=>(h.cl.fv j (.inl e)).1;exact b6.setCell (h.cl.fs).1 _
theorem Qd.start (b:Below w.heap.size w w1) (pr:Wt.Pr w1 p Wt.new 0) (hp:w.heap.size<=p):Qd w L w1.heap.size p 0 (.slice none 0 0) [] (fun _ _=>False) (w1.alloc (.cells #[.slice none 0 0,ptr p,.int .i64 0,.slice none 0 0] 73)):=by
 have b2:=b.alloc b.size (.cells #[.slice none 0 0,ptr p,.int .i64 0,.slice none 0 0] 73);have bn:=(af w1.heap.size w1).alloc (am _) (.cells #[.slice none 0 0,ptr p,.int .i64 0,.slice none 0 0] 73);have z:(w1.alloc (.cells #[.slice none 0 0,ptr p,.int .i64 0,.slice none 0 0] 73)).heap.size=w1.heap.size+1:=by simp
 have hb:=b.size;have pl:=pr.lt;have no0:∀ {P:Prop} {i:Nat},i < ([]:List Nd).length->P:=fun h=>absurd h (eM _);refine ⟨⟨bi w1 _,Rw.Ow.nil _ _ _,rfl,fun i hi=>no0 hi,fun i hi=>no0 hi,fun i hi=>no0 hi,?_,Rw.Ow.nil _ _ _,⟨hb,by omega⟩,⟨hp,by omega⟩,fun k g=>?_,fun i hi=>no0 hi,fun i j hi=>no0 hi,fun i hi=>no0 hi,fun k g=>g.2⟩,b2,Sl L⟩
 ·exact pr.only (G:=fun _=>False) (Only.of_below bn) (fun g=>g)
 ·rcases g with g | g <;> simp [Value.ownBlock] at g
theorem EU {v:Value} {L:List jO} (H:Dk w v L B):Calls prog 6 #[v] w (Sy w (fV L)):=by
 have HH:=Hh H;obtain ⟨a,cap,rfl,_,hm,h3⟩:=H.rd;have H3:=Hh h3;have PLN:=Hh (fq L);clear h3 H;unfold maxLen at hm
 by_cases hs:L.length < 2\/32 < L.length
 ·have e1:newE (fV L)=1:=Pw (by rw [fq];exact hs)
  have E:Hid (∀ w',Below w.heap.size w w'->Sy w (fV L) (.returned (.tuple #[.pointer none,.int .i64 1])) w'):=Hh (fun w' b=>⟨b,.inr ⟨by rw [e1];decide,by rw [e1]⟩⟩);clear HH H3 e1 PLN;generalize fV L=LL at *;generalize L.length=n at *
  by_cases h1:n < 2
  ·have p1:decide ((n:Int) < 2)=true:=bj (by omega)
   clear hs
   go_enter func6,ntmps6
   go_wp2
   go_ret2
   exact E _ (af _ _)
  ·have p1:decide ((n:Int) < 2)=false:=bh (by omega)
   have p2:decide (32 < (n:Int))=true:=bj (by omega);clear hs
   go_enter func6,ntmps6
   go_wp2
   go_ret2
   exact E _ (af _ _)
 ·have hs':¬ ((fV L).length < 2\/32 < (fV L).length):=by rw [fq];exact hs
  have BAD:Hid (∀ k,k < L.length->¬ P6 (fH (fV L) k)->∀ w',Below w.heap.size w w'->Sy w (fV L) (.returned (.tuple #[.pointer none,.int .i64 2])) w'):=Hh (fun k hk g w' b=>by
   have e:=WH hs' (by rw [fq];exact hk) g
   exact ⟨b,.inr ⟨by rw [e];decide,by rw [e]⟩⟩)
  have END:Hid (∀ (s p:Nat) (vn:Value) (LN:List Nd) (Fs:Nat->Nat->Prop) (wr w':World),Qd w (fV L) s p L.length vn LN Fs wr->Below wr.heap.size wr w' ->
   (ZI (sat (newC (fV L)).S 0).1 (sat (newC (fV L)).S 1).1=true->Sy w (fV L) (.returned (.tuple #[.pointer (some ⟨s,0,none⟩),.int .i64 0])) w')/\(ZI (sat (newC (fV L)).S 0).1 (sat (newC (fV L)).S 1).1=false->Sy w (fV L) (.returned (.tuple #[.pointer none,.int .i64 10])) w')):=Hh (fun s p vn LN Fs wr w' I b=>by
   have h2:2<=(fV L).length:=by omega
   have ga:=Yi (L:=fV L) (by rw [fq];exact I.gd);obtain ⟨n0,n1⟩:=Yw hs' ga;have ag:=Qx (fV L) h2;have bb:=I.aD.trans (b.mono I.aD.size);refine ⟨fun h=>⟨bb,.inl ⟨n0 (ag.1 h),s,NwF w wr,rfl,⟨vn,LN,p,.slice none 0 0,Fs,?_⟩,fun j g=>g.1⟩⟩,fun h=>?_⟩
   ·have c:=I.cl.below b
    have e:(fV L).take L.length=fV L:=by rw [← fq L];exact df
    rw [e] at c;exact c
   ·have e:=n1 (fun g=>by rw [ag.2 g] at h;cases h)
    exact ⟨bb,.inr ⟨by rw [e];decide,by rw [e]⟩⟩)
  have NEW:=Hh (Wt.nS w);have LB:Hid (2<=L.length/\L.length<=32):=Hh (by omega);have p1:decide ((L.length:Int) < 2)=false:=bh (by omega);have p2:decide (32 < (L.length:Int))=false:=bh (by omega);clear hs hs';unfold Wt.yt at NEW;generalize hn:L.length=n at *;have HN:=Hh hn;clear hn
  go_enter func6,ntmps6
  go_wp2_with fail;refine NEW.mono ?_;rintro e w1 ⟨p,rfl,pr,hp,b1⟩;have I0:=Hh (Qd.start (L:=fV L) b1 pr hp);clear NEW pr hp b1 p1 p2;unfold ptr at I0;go_upto_region 4 with fail;generalize (w1.alloc (.cells #[.slice none 0 0,.pointer (some ⟨p,0,none⟩),.int .i64 0,.slice none 0 0] 73))=wa at *;generalize w1.heap.size=s at *;go_wp2
  go_loopw [22] (fun i wr=>∃ (k:Nat) (vn:Value) (LN:List Nd) (Fs:Nat->Nat->Prop),k<=n/\i = .int .i64 k/\Hid (Qd w (fV L) s p k vn LN Fs wr)) (fun i _=>n - (intOf i).toNat)
  case atStart=>exact ⟨0,_,_,_,cx _,rfl,I0⟩
  case round =>
   clear I0;obtain ⟨k,vn,LN,Fs,hk,rfl,I⟩:=hrel
   by_cases hlt:k < n
   ·have hkL:k < L.length:=by have:=HN.out;omega
    obtain ⟨b,off,rfl,hA⟩:=H3 (by omega);obtain ⟨x0,x1⟩:=ZG (hA.below I.aD) hkL;have HAA:=Hh hA;have PF:=Hh ((HH.file k hkL).below I.aD);have AT:=Hh (aa2 hkL);have KL:Hid (k < (fV L).length):=Hh (by rw [fq];exact hkL);have BADk:=Hh (fun g=>BAD k hlt g);clear hA hkL;generalize zJ L k=c at *;obtain ⟨cf,cr,cF⟩:=c;unfold sl at *;simp only at x0 x1 PF;obtain ⟨fa,fl,fc,hfa⟩:∃ a b c,Hid (a=cf.1/\b=cf.2.1/\c=cf.2.2):=⟨_,_,_,rfl,rfl,rfl⟩;rw [← hfa.out.1,← hfa.out.2.1,← hfa.out.2.2] at x0 PF;have Y0:=Hh (bi wr (.cells #[.slice fa fl fc,.int .i64 cr] 75));have BN:=Hh ((af wr.heap.size wr).alloc (am _) (.cells #[.slice fa fl fc,.int .i64 cr] 75));go_upto_region 7 with fail;clear x0 x1;generalize wr.alloc (.cells #[.slice fa fl fc,.int .i64 cr] 75)=W at *;have I2:=Hh (I.below BN);have C:=Hh (BG ⟨cf,cr,cF⟩ (w:=W) (B:=B) (by unfold sl;rw [← hfa.out.1,← hfa.out.2.1,← hfa.out.2.2];exact PF.out.below BN.out));unfold PlC sl at C;rw [← hfa.out.1,← hfa.out.2.1,← hfa.out.2.2] at C;obtain ⟨y0,y1⟩:=BO Y0;clear PF BN I Y0;generalize wr.heap.size=gx at *;rw [← AT.out] at C;go_wp2_with fail;refine C.mono ?_;rintro e w5 ⟨b5,hc⟩;have B5:=Hh b5;clear C b5 y0 y1
    rcases hc with ⟨g,q,G,rfl,st,lo⟩ | ⟨ng,rfl⟩
    ·have CR:Hid ((fH (fV L) k).2=cr):=Hh (by rw [AT.out];rfl)
     rw [CR.out];have GG:=Hh g;have LO:=Hh lo;have N0:=Hh (bi w5 (.cells #[.pointer (some ⟨q,0,none⟩),.bool true,.int .i64 cr] 78));have BA:=Hh ((af w5.heap.size w5).alloc (am _) (.cells #[.pointer (some ⟨q,0,none⟩),.bool true,.int .i64 cr] 78));have ST:=Hh (st.below BA);have B6:=aN B5 BA;have GN:=Hh B5.size;obtain ⟨av,cv,ev,-,-⟩:=I2.cl.slice;subst ev;have K0:=Hh ((I2.cl.below B6).cells.1);have NQ:Hid (∀ j,(Value.slice av (newC ((fV L).take k)).S.length cv).ownBlock=some j->j≠w5.heap.size/\j≠s):=Hh (fun j e=>⟨by have:=(I2.out.cl.fv j (.inl e)).2;have:=GN.out;omega,fun x=>I2.out.cl.vs.1 (by rw [e,x])⟩)
     have LL:Hid (LN.length<=32):=Hh (by
      have:=I2.cl.len;have q:(newC ((fV L).take k)).S.length=((fV L).take k).length:=cm _;rw [q,cM] at this;have:=LB.out
      omega)
     unfold ptr at *;go_upto_region 10 with fail;clear g lo st BA;generalize (w5.alloc (.cells #[.pointer (some ⟨q,0,none⟩),.bool true,.int .i64 cr] 78))=W6 at *;generalize w5.heap.size=gn at *;generalize hsl:(newC ((fV L).take k)).S.length=nl at *;clear hsl;have BD:=Hh (af W6.heap.size W6).drew;have OD:Hid (Only (fun j=>(Value.slice av nl cv).ownBlock=some j) W6 W6.drew):=Hh (Only.of_below BD);have s0:=Sc.ay (C:=fun W'=>Only (fun j=>(Value.slice av nl cv).ownBlock=some j) W6 W') (a:=⟨s,0,none⟩) (fun W' oo=>oo.cell K0 (fun e=>(NQ _ e).2 rfl));have x0:=Sc.ay (C:=fun W'=>Only (fun j=>(Value.slice av nl cv).ownBlock=some j) W6 W') (a:=⟨gn,0,none⟩) (fun W' oo=>oo.cell (ah N0 0) (fun e=>(NQ _ e).1 rfl));have x1:=Sc.ay (C:=fun W'=>Only (fun j=>(Value.slice av nl cv).ownBlock=some j) W6 W') (a:=⟨gn,1,none⟩) (fun W' oo=>oo.cell (ah N0 1) (fun e=>(NQ _ e).1 rfl));have x2:=Sc.ay (C:=fun W'=>Only (fun j=>(Value.slice av nl cv).ownBlock=some j) W6 W') (a:=⟨gn,2,none⟩) (fun W' oo=>oo.cell (ah N0 2) (fun e=>(NQ _ e).1 rfl));have ne:Nonempty (Sc.In (fun W'=>Only (fun j=>(Value.slice av nl cv).ownBlock=some j) W6 W')):=⟨⟨_,OD⟩⟩;refine Sz.start (fun W'=>Only (fun j=>(Value.slice av nl cv).ownBlock=some j) W6 W') [(false,0),(false,1),(false,2),(false,3),(false,4),(false,5),(true,6),(true,7),(false,8),(false,9)] 10 (by kernel_rfl) (by kernel_rfl) (by kernel_rfl) rfl rfl OD ?_;dsimp only [Sd.aK,List.getElem?_cons_succ,List.getElem?_cons_zero]
     repeat (refine Sz.lit ?_;quiet_step (fail);refine br ?_)
     clear s0 x0 x1 x2;have B7:=Hh (B6.trans (BD.mono (B6.size)));have ST7:=Hh (ST.below BD);generalize W6.drew=w7 at *;refine Sz.call (by rfl) (fun K hK=>?_);go_simp;have B8:=Hh (Below.alloc (af w7.heap.size w7) (am _) (.cells #[.pointer (some ⟨q,0,none⟩),.bool true,.int .i64 cr] 78));have Y8:=Hh (bi w7 (.cells #[.pointer (some ⟨q,0,none⟩),.bool true,.int .i64 cr] 78));have BW:=aN B7 B8;have ST8:=Hh (ST7.below B8);have O8:=Hh (OD.trans (Only.of_below (G:=fun j=>(Value.slice av nl cv).ownBlock=some j) B8) fun _ _ g=>g);refine hK _ _ (Sc.Cl.of O8) ?_;clear hK K B7 B8 ST7;generalize (w7.alloc (.cells #[.pointer (some ⟨q,0,none⟩),.bool true,.int .i64 cr] 78))=w8 at *;generalize w7.heap.size=g7 at *;have CL8:=Hh (I2.cl.below BW);refine Sz.call (by rfl) (fun K hK=>?_);refine eO (K:=KD) underlying70 ab2 rfl (by omega) _ _ rfl 0 _ _ rfl CL8.out.no ⟨g7,0,none⟩ (⟨q,true,cr⟩:Nd) rfl ?a1 ?a2 (cx _) ?_
     case a1 =>
      intro j u hu
      have c:=ah Y8 j
      match j,hu with
      | 0,hu=>simp [KD,ptr] at hu;subst hu;exact c
      | 1,hu=>simp [KD] at hu;subst hu;exact c
      | 2,hu=>simp [KD] at hu;subst hu;exact c
      | j+3,hu=>simp [KD] at hu
     case a2=>have:=LL.out;omega
     intro v9 w9 o9 g9 h9
     have NEW:Hid (Qd w (fV L) s p (k+1) v9 (LN ++ [⟨q,true,cr⟩]) (fun i=>if i < LN.length then Fs i else G) (w9.setCell ⟨s,0,none⟩ v9)):=Hh (by
      have z:=I2.step BW KL GG ST8 LO (by rw [CR.out];exact o9) g9 h9;rw [CR.out] at z
      exact z)
     have O9:=O8.trans (aV g9) fun _ _ g=>g;have c6:=O9.cell K0 (fun e=>(NQ _ e).2 rfl);have e6:=aj (((aV g9).block s CL8.slt (fun e=>(NQ _ e).2 rfl)).trans CL8.row) 0;obtain ⟨v9a,v9c,n9,rfl⟩:∃ a c n,v9 = .slice a n c:=by obtain ⟨a,c,e,_⟩:=o9.slice;exact ⟨a,c,_,e⟩
     refine hK _ _ (Sc.Cl.of O9) ?_;clear hK K o9 g9 h9 O9 Y8 O8 BW ST8 CL8 I2 B5 B6 ST
     repeat (refine Sz.lit ?_;quiet_step (fail);refine br ?_)
     refine Sz.done ?_;go_simp;clear c6 e6;generalize (w9.setCell ⟨s,0,none⟩ (.slice v9a n9 v9c))=wz at *;refine NoPanic.normal ?_;have n32:=LB.out.2;go_wp2
     go_roundw
     case rel=>exact ⟨k+1,_,_,_,by omega,by go_num,NEW⟩
     case measure=>simp [intOf];omega
    ·have E:=Hh (fun w' (b:Below w5.heap.size w5 w')=>BADk ng w' ((I2.aD.trans (B5.mono I2.aD.size)).trans (b.mono (cP I2.aD.size B5.size))))
     have E2:=Hh (E _ ((af w5.heap.size w5).alloc (am _) (.cells #[.pointer none,.bool false,.int .i64 0] 78)));clear E ng I2 BADk BAD END;go_wp2
     go_ret2
     exact E2
   ·obtain rfl:k=n:=by omega
    have LC:Hid ((newC ((fV L).take k)).S.length=k):=Hh (by
     show (List.map _ _).length=k
     rw [cm,cM,fq,HN.out,Nat.min_self])
    have AG:=Hh (Fp I.cl (by rw [LC.out];exact LB.out.1));have EE:=Hh (END s p vn LN Fs wr);have TK:Hid ((fV L).take k=fV L):=Hh (by rw [← HN.out,← fq L];exact df);rw [TK.out] at AG;clear BAD END;generalize ZI (sat (newC (fV L)).S 0).1 (sat (newC (fV L)).S 1).1=ag at *;unfold ptr at AG;go_wp2_with fail;refine AG.mono ?_;rintro e w2 ⟨rfl,b2⟩;have E2:=Hh (EE w2 I b2);clear AG EE I b2
    cases ag with
    | true =>
      have E:=Hh (E2.out.1 rfl);clear E2;go_wp2
      go_ret2
      exact E
    | false =>
      have E:=Hh (E2.out.2 rfl);clear E2;go_wp2
      go_ret2
      exact E
end Cu
