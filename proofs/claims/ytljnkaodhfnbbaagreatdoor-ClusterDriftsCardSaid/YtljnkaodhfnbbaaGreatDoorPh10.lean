import Derived.Test.YtljnkaodhfnbbaaGreatDoorPh8
import Derived.Test.YtljnkaodhfnbbaaGreatDoorPh9
import Derived.Test.YtljnkaodhfnbbaaGreatDoorPh6
import Derived.Test.YtljnkaodhfnbbaaGreatDoorPh7
import Derived.Test.YtljnkaodhfnbbaaGreatDoorPh4
import Derived.Test.YtljnkaodhfnbbaaGreatDoorPh5
import Derived.Deep.Cut
import Derived.Test.YtljnkaodhfnbbaaGreatDoorPh2
import Derived.ArgAppend
import Derived.Test.YtljnkaodhfnbbaaGreatDoorPh1
import Derived.Deep.CutRange
import Derived.Great.BuildSlice
set_option maxRecDepth 100000
namespace Go.Proofs.YtljnkaodhfnbbaaGreatDoor.Cu
open Go.RowKit Go.Maps
open Rw (Rd Ow At)
open Fl (row_cell row_frozen)
open Fs (Abs St OkA Only Fx ow_only Glob)
open Pa (Sts S2 sat vat KN KB K2 ptr Stl rdE rdL rdS hr push_at infoN)
open Ck (LL lat RdL KS Hd sl zh infoS)
open Ro (E5 K5)
open Bu (Osc osc OsL ofS calmLB buE buL buE_ok buE_wrong)
attribute [local irreducible] Sd.wpSd wpQuiet
theorem infoB1:(Tryz.prog.info? 4).map (fun i=>(i.zero,i.size,i.bytes))=some (some (.bool false),1,1):=by kernel_rfl
theorem infoT1:(Tryz.prog.info? 103).map (fun i=>(i.zero,i.size,i.bytes))=some (some (.slice none 0 0),1,24):=by kernel_rfl
def caS (S:Sts) (T:LL) (V:List Bool) (P:List S2):Sts:=if rdE S T V=0 then rdL S T V P else S
theorem bu_calm {S:Sts} {T:LL} {V:List Bool} {P:List S2} {O:List Osc} (hl:O.length=S.length) (hc:calmLB O=true):buE S T V O=rdE S T V∧(rdE S T V=0→buL S T V P O=rdL S T V P):=by
 by_cases h:rdE S T V=0
 ·obtain ⟨a,b⟩:=buE_ok (P:=P) h hl hc
  exact ⟨a.trans h.symm,fun _=>by rw [b];exact (if_pos h).symm⟩
 ·obtain ⟨a,b⟩:=buE_wrong (O:=O) (P:=P) h
  exact ⟨a,fun g=>absurd g h⟩
theorem rdL_len {S:Sts} {T:LL} {V:List Bool} {P:List S2} (h:rdE S T V=0):(rdL S T V P).length=S.length:=by
 have e:rdL S T V P=rdS S T V (hr S T V P):=if_pos h;rw [e,Pa.rdS_len]
set_option maxHeartbeats 8000000 in
theorem ccarry_any {s t p:Nat} {F:Nat→Prop} {c:Cs} {vn vq:Value} {L:List Nd} {Fs:Nat→Nat→Prop} {w:World} (h:Cl w s F c t vn L p vq Fs) (hlen:2≤c.S.length∧c.S.length≤32) (hlv:c.V.length=c.S.length) (hst:∀ i:Nat,i < c.S.length→0≤(sat c.S i).2∧(sat c.S i).2 < 900000) (hg:Glob w) {r:Int} (hr:0≤r∧r≤5) {vp:Value} {P:List S2} (RP:Rd K2 w vp P) :
 Calls Tryz.prog 118 #[ptr s,.int .i64 r,vp] w (DoC w s F { c with S:=caS c.S (tbs c.S r) c.V P } t (rdE c.S (tbs c.S r) c.V)):=by
 obtain ⟨g,cap,rfl,-,hm,-⟩:=h.one (i:=0) (by omega);have H:=Lib.hid h;have HL:=Lib.hid h.len;have HT:=Lib.hid (tbs_len c.S r);have OK:=Lib.hid hlv;have GG:=Lib.hid hg;have R:=Lib.hid RP
 have CT:Hid (∀ wr,Below w.heap.size w wr→∀ k:Nat,k < c.S.length→Calls Tryz.prog 164 #[ptr s,.int .i64 k,.int .i64 r] wr (TbC wr (lat (tbs c.S r) k))):=Lib.hid (fun wr b k hk=>by
  have:=ctable_any (H.out.below b) hk (k:=r) ⟨hr.1,by omega⟩;rw [← tbs_at c.S r hk] at this
  exact this)
 have ND:Hid (∀ wr,Below w.heap.size w wr→∀ k:Nat,k < c.S.length→wr.cell? ⟨s,0,none⟩=some (.slice (some ⟨g,0,none⟩) c.S.length cap)∧wr.cell? ⟨g,k * 3,none⟩=some (ptr (nda L k).s)∧wr.cell? ⟨g,k * 3+1,none⟩=some (.bool (nda L k).live)∧wr.cell? ⟨g,k * 3+2,none⟩=some (.int .i64 (nda L k).rate)):=Lib.hid (fun wr b k hk=>⟨(H.out.below b).cells.1,(H.out.below b).nod hk⟩);have CC:=Lib.hid (rosc_calm h.rt);have OL:=Lib.hid ((rosc_len L).trans h.len);have DV:Hid (∀ i:Nat,i < c.S.length→0≤(sat c.S i).2∧(sat c.S i).2 < 900000):=Lib.hid hst;have BE:=Lib.hid (fun S T V P=>bu_calm (S:=S) (T:=T) (V:=V) (P:=P) (O:=rosc L));have N32:Hid (2≤c.S.length∧c.S.length≤32):=Lib.hid hlen;have d0:=h.cells.1;obtain ⟨pa,pc,rfl,_⟩:=RP.slice;have C0:=Lib.hid (CI.start w (tbs c.S r) L);clear h hlen hlv hst hg RP hr;generalize hT:tbs c.S r=T at *;generalize hPl:P.length=pl at *;generalize hn:c.S.length=n at *;have HN:=Lib.hid hn;have HPL:=Lib.hid hPl;generalize hRE:rdE c.S T c.V=re at *;generalize hCS:caS c.S T c.V P=S2 at *;have RE:=Lib.hid hRE;have CS:=Lib.hid hCS;clear hn hPl hT hRE hCS;unfold ptr at *
 go_enter Tryz.func118,Tryz.ntmps118
 go_wp2;clear d0
 go_loopw [22,7,8,9,10] (fun i o1 o2 o3 o4 wr=>∃ (k:Nat) (l1:List Nat) (l2:List Hd) (l3:List Bool) (l4:List Hd) (p1 p2 p3 p4:Value),k≤n∧i = .int .i64 k∧p1=o1∧p2=o2∧p3=o3∧p4=o4∧Hid (CI w T L k k k k o1 l1 o2 l2 o3 l3 o4 l4 wr)) (fun i _ _ _ _ _=>n - (intOf i).toNat)
 case atStart=>exact ⟨0,[],[],[],[],_,_,_,_,Nat.zero_le _,rfl,rfl,rfl,rfl,rfl,C0⟩
 case round =>
  clear C0;obtain ⟨k,l1,l2,l3,l4,p1,p2,p3,p4,hk,rfl,rfl,rfl,rfl,rfl,I⟩:=hrel;obtain ⟨a1,c1,e1,_,_⟩:=I.out.w1.slice;obtain ⟨a2,c2,e2,_,_⟩:=I.out.w2.slice;obtain ⟨a3,c3,e3,_,_⟩:=I.out.w3.slice;obtain ⟨a4,c4,e4,_,_⟩:=I.out.w4.slice;have N1:=Lib.hid I.out.n1;have N2:=Lib.hid I.out.n2;have N3:=Lib.hid I.out.n3;have N4:=Lib.hid I.out.n4;generalize l1.length=m1 at e1;generalize l2.length=m2 at e2;generalize l3.length=m3 at e3;generalize l4.length=m4 at e4;subst e1 e2 e3 e4
  by_cases hlt:k < n
  ·have HLT:=Lib.hid hlt
   obtain ⟨d0,y0,y1,y2⟩:=ND.out wr I.out.bel k hlt;generalize hx:nda L k=x at *;have HX:=Lib.hid hx;clear hx;have Z0:=Lib.hid (heap_alloc_new wr (.cells #[.pointer (some ⟨x.s,0,none⟩),.bool x.live,.int .i64 x.rate] 139));have BN:=Lib.hid ((Below.refl wr.heap.size wr).alloc (Nat.le_refl _) (.cells #[.pointer (some ⟨x.s,0,none⟩),.bool x.live,.int .i64 x.rate] 139));go_upto_region 8 with fail;clear y0 y1 y2 d0;generalize wr.alloc (.cells #[.pointer (some ⟨x.s,0,none⟩),.bool x.live,.int .i64 x.rate] 139)=W at *;have I1:=Lib.hid (I.out.below BN.out);generalize wr.heap.size=gx at *;have y0:W.cell? ⟨gx,0,none⟩=some (.pointer (some ⟨x.s,0,none⟩)):=row_cell Z0.out 0;have I2:=Lib.hid (I1.out.below ((Below.refl W.heap.size W).alloc (Nat.le_refl _) (.cells #[.pointer (some ⟨x.s,0,none⟩)] 89)));have BX:=Lib.hid I2.out.bel.size;clear I BN
   go_wp2_with (at_builtin;refine push_at (K:=KN) Tryz.underlying78 infoN rfl (by omega) rfl _ _ rfl w.heap.size _ _ rfl I2.out.w1 _ x.s rfl ?d1 ?d2 ?d3 ?_)
   case d1 =>
    intro j u hu
    match j,hu with
    | 0,hu=>simp [KN] at hu;subst hu;unfold ptr;go_simp
    | j+1,hu=>simp [KN] at hu
   case d2=>rw [N1.out];have:=N32.out;omega
   case d3=>exact BX.out
   intro v1 w1 o1 g1 h1
   have NEW1:=Lib.hid (I2.out.push1 o1 (by simpa using g1) (by rw [HX.out]));have Z1:=Lib.hid ((((Below.refl W.heap.size W).alloc (Nat.le_refl _) (.cells #[.pointer (some ⟨x.s,0,none⟩)] 89)).block gx (lt_of_block Z0.out)).trans Z0.out);have Y1:Hid (w1.heap[gx]? = some (.cells #[.pointer (some ⟨x.s,0,none⟩),.bool x.live,.int .i64 x.rate] 139 (0,0))):=Lib.hid ((g1.block gx (lt_of_block Z1.out) (fun e=>I2.out.w1.apart Z1.out (by decide) e.symm)).trans Z1.out);clear o1 g1 h1 I1 I2 BX y0 Z0 Z1;obtain ⟨av1,cv1,ev1,_⟩:=NEW1.out.w1.slice;generalize (l1 ++ [x.s]).length=Lp1 at ev1;subst ev1;have C2:=Lib.hid (CT.out w1 NEW1.out.bel k hlt);unfold TbC at C2;go_upto_region 9 with fail;go_wp2_with fail;refine C2.out.mono ?_;rintro e w2 ⟨u2,rfl,o2,b2⟩;have I3:=Lib.hid (NEW1.out.below b2);have U2:=Lib.hid (o2.low NEW1.out.bel.size);have Y2:=Lib.hid ((b2.block gx (lt_of_block Y1.out)).trans Y1.out);obtain ⟨a6,c6,e6,_,_⟩:=U2.out.slice;generalize (lat T k).length=lk at e6;subst e6;have B3:=Lib.hid ((Below.refl w2.heap.size w2).alloc (Nat.le_refl _) (.cells #[.slice a6 lk c6] 85));have I4:=Lib.hid (I3.out.below B3.out);have U3:=Lib.hid (U2.out.keep B3.out);have Y3:=Lib.hid ((B3.out.block gx (lt_of_block Y2.out)).trans Y2.out);have BX:=Lib.hid I4.out.bel.size;clear o2 b2 C2 NEW1 U2 I3 Y1 Y2 B3
   go_wp2_with (at_builtin;refine push_at (K:=KS) Tryz.underlying79 infoS rfl (by omega) rfl _ _ rfl w.heap.size _ _ rfl I4.out.w2 _ (a6,lk,c6) rfl ?d1 ?d2 ?d3 ?_)
   case d1 =>
    intro j u hu
    match j,hu with
    | 0,hu=>simp [KS] at hu;subst hu;unfold sl;go_simp
    | j+1,hu=>simp [KS] at hu
   case d2=>rw [N2.out];have:=N32.out;omega
   case d3=>exact BX.out
   intro v3 w3 o3 g3 h3
   have NEW2:=Lib.hid (I4.out.push2 (x:=(a6,lk,c6)) o3 (by simpa using g3) U3.out);have Y4:Hid (w3.heap[gx]? = some (.cells #[.pointer (some ⟨x.s,0,none⟩),.bool x.live,.int .i64 x.rate] 139 (0,0))):=Lib.hid ((g3.block gx (lt_of_block Y3.out) (fun e=>I4.out.w2.apart Y3.out (by decide) e.symm)).trans Y3.out);clear o3 g3 h3 I4 U3 BX Y3;obtain ⟨av2,cv2,ev2,_⟩:=NEW2.out.w2.slice;generalize (l2 ++ [(a6,lk,c6)]).length=Lp2 at ev2;subst ev2;go_upto_region 10 with fail;have y1:w3.cell? ⟨gx,1,none⟩=some (.bool x.live):=row_cell Y4.out 1;have B5:=Lib.hid ((Below.refl w3.heap.size w3).alloc (Nat.le_refl _) (.cells #[.bool x.live] 4));have I5:=Lib.hid (NEW2.out.below B5.out);have Y5:=Lib.hid ((B5.out.block gx (lt_of_block Y4.out)).trans Y4.out);have BX:=Lib.hid I5.out.bel.size;clear NEW2 Y4 B5
   go_wp2_with (at_builtin;refine push_at (K:=KB) Tryz.underlying35 infoB1 rfl (by omega) rfl _ _ rfl w.heap.size _ _ rfl I5.out.w3 _ x.live rfl ?d1 ?d2 ?d3 ?_)
   case d1 =>
    intro j u hu
    match j,hu with
    | 0,hu=>simp [KB] at hu;subst hu;go_simp
    | j+1,hu=>simp [KB] at hu
   case d2=>rw [N3.out];have:=N32.out;omega
   case d3=>exact BX.out
   intro v5 w5 o5 g5 h5
   have NEW3:=Lib.hid (I5.out.push3 o5 (by simpa using g5) (by rw [HX.out]));have Y6:Hid (w5.heap[gx]? = some (.cells #[.pointer (some ⟨x.s,0,none⟩),.bool x.live,.int .i64 x.rate] 139 (0,0))):=Lib.hid ((g5.block gx (lt_of_block Y5.out) (fun e=>I5.out.w3.apart Y5.out (by decide) e.symm)).trans Y5.out);clear o5 g5 h5 I5 BX Y5 y1;obtain ⟨av3,cv3,ev3,_⟩:=NEW3.out.w3.slice;generalize (l3 ++ [x.live]).length=Lp3 at ev3;subst ev3;go_upto_region 11 with fail;have y2:w5.cell? ⟨gx,2,none⟩=some (.int .i64 x.rate):=row_cell Y6.out 2;have LT:Hid (Ow K2 (w5.alloc (.cells #[.int .i64 0,.int .i64 x.rate] 108)) w.heap.size 108 (.slice (some ⟨w5.heap.size,0,none⟩) 1 1) [(0,x.rate)]):=Lib.hid (Rw.Ow.lit (K:=K2) w5 w.heap.size 108 [(0,x.rate)] NEW3.out.bel.size (by unfold maxLen;simp));have B7:=Lib.hid ((Below.refl w5.heap.size w5).alloc (Nat.le_refl _) (.cells #[.int .i64 0,.int .i64 x.rate] 108));generalize hg7:w5.heap.size=g7 at *;have B8:=Lib.hid ((Below.refl (w5.alloc (.cells #[.int .i64 0,.int .i64 x.rate] 108)).heap.size (w5.alloc (.cells #[.int .i64 0,.int .i64 x.rate] 108))).alloc (Nat.le_refl _) (.cells #[.slice (some ⟨g7,0,none⟩) 1 1] 103));have I7:=Lib.hid ((NEW3.out.below (by have:=B7.out;rw [← hg7] at this;exact this)).below B8.out);have U8:=Lib.hid (LT.out.keep B8.out);have BX:=Lib.hid I7.out.bel.size;clear NEW3 Y6 LT B7 B8
   go_wp2_with (at_builtin;refine push_at (K:=KS) Tryz.underlying80 infoT1 rfl (by omega) rfl _ _ rfl w.heap.size _ _ rfl I7.out.w4 _ (some ⟨g7,0,none⟩,1,1) rfl ?d1 ?d2 ?d3 ?_)
   case d1 =>
    intro j u hu
    match j,hu with
    | 0,hu=>simp [KS] at hu;subst hu;unfold sl;go_simp
    | j+1,hu=>simp [KS] at hu
   case d2=>rw [N4.out];have:=N32.out;omega
   case d3=>exact BX.out
   intro v7 w7 o7 g7' h7
   have NEW4:=Lib.hid (I7.out.push4 (x:=(some ⟨g7,0,none⟩,1,1)) o7 (by simpa using g7') (by rw [HX.out];exact U8.out));clear o7 g7' h7 I7 BX y2 U8;obtain ⟨av4,cv4,ev4,_⟩:=NEW4.out.w4.slice;generalize List.length _=Lp4 at ev4;subst ev4;have n32:=N32.out.2;go_wp2
   go_roundw
   case rel=>exact ⟨k+1,_,_,_,_,_,_,_,_,by have:=HLT.out;omega,by go_num,rfl,rfl,rfl,rfl,NEW4⟩
   case measure=>have:=HLT.out;simp [intOf];omega
  ·obtain rfl:k=n:=by omega
   have CR:=Lib.hid (broundF_any (w:=wr) (S:=c.S) (T:=T) (V:=c.V) (P:=P) (O:=rosc L) (CI.stl (by rw [HN.out];exact I.out) H.out) (CI.tab I.out (by rw [HT.out])) (CI.liv (by rw [HN.out];exact I.out) H.out (by rw [OK.out,HN.out])) (R.out.below I.out.bel) (CI.osl (by rw [HL.out];exact I.out)) (GG.out.below I.out.bel) (by rw [HN.out];exact DV.out));obtain ⟨q1,q2⟩:=BE.out c.S T c.V P (by rw [HN.out];exact OL.out) CC.out;rw [q1,RE.out] at CR;have Q2:=Lib.hid q2;have BW:=Lib.hid I.out.bel;have HW:=Lib.hid (H.out.below I.out.bel);have LOW:=Lib.hid H.out.low;clear q1 q2 I N1 N2 N3 N4 CT ND DV BE R;unfold BrP at CR
   by_cases hE:re=0
   ·have HS:Hid (S2=rdL c.S T c.V P):=Lib.hid (by rw [← CS.out];exact if_pos (RE.out.trans hE))
    have HR:Hid (S2.length=k):=Lib.hid (by rw [HS.out,rdL_len (RE.out.trans hE),HN.out]);rw [Q2.out (RE.out.trans hE),← HS.out] at CR;subst hE;clear Q2 HS;go_wp2_with fail;refine CR.out.mono ?_;rintro e w2 ⟨v,ps,Gs,rfl,hpj,_,b2⟩;have PJ2:=Lib.hid (hpj trivial);have H2:=Lib.hid (HW.out.below b2);have P0:Hid (PL w2 g cap k L ps 0 w2):=Lib.hid ⟨by rw [put1_zero];exact H2.out.no,Only.refl _ _⟩;have D0:=Lib.hid H2.out.cells.1;have NS:Hid (s≠g):=Lib.hid (fun e=>H2.out.vs.1 (by rw [e];rfl));have PLN:Hid (ps.length=k):=Lib.hid (by rw [PJ2.out.len,HR.out]);obtain ⟨gb,cb,ev,_,_,_,_,_,hA⟩:=PJ2.out.own.form (by have:=PLN.out;have:=N32.out;omega);rw [PLN.out] at ev
    have AT:Hid (∀ i,i < k→w2.cell? ⟨gb,i,none⟩=some (.pointer (some ⟨ps.getD i 0,0,none⟩))):=Lib.hid (fun i hi=>by
     have:=Pa.atN hA (i:=i) (by rw [PLN.out];exact hi);rw [Nat.zero_add] at this
     exact this)
    have NB:Hid (gb≠g):=Lib.hid (fun e=>by
     obtain ⟨_,q⟩:=H2.out.no
     rcases q with ⟨q,_⟩ | ⟨b,cap',cur,q,_,hh,_⟩
     ·cases q
     ·injection q with q1 _ _
      injection q1 with q1;injection q1 with q1 _ _
      exact PJ2.out.own.apart hh (by decide) (by rw [ev,e,q1];rfl))
    have FIN:Hid (∀ w',PL w2 g cap k L ps k w'→DoC w s F { c with S:=S2 } t 0 (.returned (.int .i64 0)) w'):=Lib.hid (fun w' pp=>by
     have q:=Cl.carry HW.out (g:=g) (cap:=cap) (by rw [HN.out]) PJ2.out (by rw [HR.out,HN.out]) (by rw [HN.out];exact pp)
     exact (show DoC wr s F { c with S:=S2 } t 0 (.returned (.int .i64 0)) w' from ⟨rfl,⟨_,_,_,_,_,q.1⟩,q.2⟩).pre BW.out LOW.out)
    subst ev;clear hpj b2 hA CR;obtain ⟨wo,hwo⟩:∃ x,x=wr:=⟨_,rfl⟩;subst hwo;go_wp2
    go_loopw [63] (fun i wr3=>∃ j:Nat,j≤k∧i = .int .i64 j∧Hid (PL w2 g cap k L ps j wr3)) (fun i _=>k - (intOf i).toNat)
    case atStart=>exact ⟨0,Nat.zero_le _,rfl,P0⟩
    case round =>
     clear P0;obtain ⟨j,hj,rfl,PP⟩:=hrel
     by_cases hlj:j < k
     ·have y0:=PP.out.only.cell (AT.out j hlj) NB.out
      have y1:wr.cell? ⟨s,0,none⟩=some (.slice (some ⟨g,0,none⟩) k cap):=PP.out.only.cell D0.out NS.out;have hpl:(put1 L ps j).length=k:=by rw [put1_len];exact HL.out
      have PO:=PP.out.own;obtain ⟨g',cap',e',_,_,_,_,fz,hA⟩:=PO.form (by omega);injection e' with e1 _ e3;injection e1 with e1;injection e1 with e1 _ _;subst e1 e3;have y2:=(atD hA (i:=j) (by omega)).1;have f2:=fz (j * 3);rw [Nat.zero_add] at y2;unfold ptr at y2;have P1:=Lib.hid (PP.out.step HL.out hlj);unfold ptr at P1;have HLJ:=Lib.hid hlj;clear PP hA fz PO hpl;generalize ps.getD j 0=nj at *;generalize (nda (put1 L ps j) j).s=oj at *;have n32:=N32.out.2;go_wp2
      go_roundw
      case rel=>exact ⟨j+1,by have:=HLJ.out;omega,by go_num,P1⟩
      case measure=>have:=HLJ.out;simp [intOf];omega
     ·obtain rfl:j=k:=by omega
      have E:=Lib.hid (FIN.out wr PP.out);clear FIN PP;go_wp2
      go_ret
      exact E.out
   ·have HS:Hid (S2=c.S):=Lib.hid (by rw [← CS.out];exact if_neg (fun e=>hE (RE.out.symm.trans e)))
    clear Q2;go_wp2_with fail;refine CR.out.mono ?_;rintro e w2 ⟨v,ps,Gs,rfl,_,hv,b2⟩;obtain rfl:=hv hE
    have E:Hid (DoC w s F { c with S:=S2 } t re (.returned (.int .i64 re)) w2):=Lib.hid (by
     rw [HS.out]
     exact (doc_below HW.out b2 re).pre BW.out LOW.out)
    clear b2 hv CR;obtain ⟨wo,hwo⟩:∃ x,x=wr:=⟨_,rfl⟩;subst hwo;go_wp2
    go_loopw [63] (fun i wr3=>i = .int .i64 0∧w2=wr3) (fun _ _=>0)
    case atStart=>exact ⟨rfl,rfl⟩
    case round =>
     obtain ⟨rfl,rfl⟩:=hrel;go_wp2
     go_ret
     exact E.out
end Go.Proofs.YtljnkaodhfnbbaaGreatDoor.Cu
namespace Go.Proofs.YtljnkaodhfnbbaaGreatDoor.Wt
open Go.RowKit
open Fl (ret_bool at_bool row_cell row_frozen)
open Fs (Only)
attribute [local irreducible] Sd.wpSd wpQuiet
def hZ (r z:Int):Int:=if r=2∨r=3 then 0 else z
def wZ (r z:Int):Int:=if r=2∨r=3 then z+1 else z
theorem wait0 {w:World} {s:Nat} {r0 z0 r1 z1:Int} (h:RowM w s r0 z0 r1 z1) (hz:0≤z0∧z0≤1000000):Calls Tryz.prog 161 #[.pointer (some ⟨s,0,none⟩)] w fun e w'=>e = .returned (.tuple #[])∧RowM w' s r0 (wZ r0 z0) r1 z1∧Only (fun b=>b=s) w w':=by
 have c0:w.cell? ⟨s,0,none⟩=some (.int .i64 r0):=row_cell h 0;have c1:w.cell? ⟨s,1,none⟩=some (.int .i64 z0):=row_cell h 1;have f0:=row_frozen h 0;have f1:=row_frozen h 1;have R:=Lib.hid h;clear h
 by_cases h2:r0=2
 ·subst h2
  have wr:IntKind.i64.wrap (z0+1)=z0+1:=IntWalk.i64_in _ (by omega);have F:Hid (RowM (w.setCell ⟨s,1,none⟩ (.int .i64 (z0+1))) s 2 (wZ 2 z0) r1 z1∧Only (fun b=>b=s) w (w.setCell ⟨s,1,none⟩ (.int .i64 (z0+1)))):=Lib.hid ⟨R.out.set1 _,only_set s 1 _ _⟩;clear R hz
  go_enter Tryz.func161,Tryz.ntmps161
  go_wp2
  first | go_end0 | refine bodyPost_ret (results_none rfl _ _ _) rfl ?_
  exact ⟨rfl,F.out⟩
 ·by_cases h3:r0=3
  ·subst h3
   clear h2;have wr:IntKind.i64.wrap (z0+1)=z0+1:=IntWalk.i64_in _ (by omega);have F:Hid (RowM (w.setCell ⟨s,1,none⟩ (.int .i64 (z0+1))) s 3 (wZ 3 z0) r1 z1∧Only (fun b=>b=s) w (w.setCell ⟨s,1,none⟩ (.int .i64 (z0+1)))):=Lib.hid ⟨R.out.set1 _,only_set s 1 _ _⟩;clear R hz
   go_enter Tryz.func161,Tryz.ntmps161
   go_wp2
   first | go_end0 | refine bodyPost_ret (results_none rfl _ _ _) rfl ?_
   exact ⟨rfl,F.out⟩
  ·have e1:wZ r0 z0=z0:=if_neg (by omega)
   have F:Hid (RowM w s r0 (wZ r0 z0) r1 z1∧Only (fun b=>b=s) w w):=Lib.hid ⟨by rw [e1];exact R.out,Only.refl _ _⟩;have q2:(r0 == 2)=false:=beq_eq_false_iff_ne.2 h2;have q3:(r0 == 3)=false:=beq_eq_false_iff_ne.2 h3;clear R h2 h3 e1
   go_enter Tryz.func161,Tryz.ntmps161
   go_wp2
   first | go_end0 | refine bodyPost_ret (results_none rfl _ _ _) rfl ?_
   exact ⟨rfl,F.out⟩
theorem wait1 {w:World} {s:Nat} {r0 z0 r1 z1:Int} (h:RowM w s r0 z0 r1 z1) (hz:0≤z1∧z1≤1000000):Calls Tryz.prog 161 #[.pointer (some ⟨s,2,none⟩)] w fun e w'=>e = .returned (.tuple #[])∧RowM w' s r0 z0 r1 (wZ r1 z1)∧Only (fun b=>b=s) w w':=by
 have c0:w.cell? ⟨s,2,none⟩=some (.int .i64 r1):=row_cell h 2;have c1:w.cell? ⟨s,3,none⟩=some (.int .i64 z1):=row_cell h 3;have f0:=row_frozen h 2;have f1:=row_frozen h 3;have R:=Lib.hid h;clear h
 by_cases h2:r1=2
 ·subst h2
  have wr:IntKind.i64.wrap (z1+1)=z1+1:=IntWalk.i64_in _ (by omega);have F:Hid (RowM (w.setCell ⟨s,3,none⟩ (.int .i64 (z1+1))) s r0 z0 2 (wZ 2 z1)∧Only (fun b=>b=s) w (w.setCell ⟨s,3,none⟩ (.int .i64 (z1+1)))):=Lib.hid ⟨R.out.set3 _,only_set s 3 _ _⟩;clear R hz
  go_enter Tryz.func161,Tryz.ntmps161
  go_wp2
  first | go_end0 | refine bodyPost_ret (results_none rfl _ _ _) rfl ?_
  exact ⟨rfl,F.out⟩
 ·by_cases h3:r1=3
  ·subst h3
   clear h2;have wr:IntKind.i64.wrap (z1+1)=z1+1:=IntWalk.i64_in _ (by omega);have F:Hid (RowM (w.setCell ⟨s,3,none⟩ (.int .i64 (z1+1))) s r0 z0 3 (wZ 3 z1)∧Only (fun b=>b=s) w (w.setCell ⟨s,3,none⟩ (.int .i64 (z1+1)))):=Lib.hid ⟨R.out.set3 _,only_set s 3 _ _⟩;clear R hz
   go_enter Tryz.func161,Tryz.ntmps161
   go_wp2
   first | go_end0 | refine bodyPost_ret (results_none rfl _ _ _) rfl ?_
   exact ⟨rfl,F.out⟩
  ·have e1:wZ r1 z1=z1:=if_neg (by omega)
   have F:Hid (RowM w s r0 z0 r1 (wZ r1 z1)∧Only (fun b=>b=s) w w):=Lib.hid ⟨by rw [e1];exact R.out,Only.refl _ _⟩;have q2:(r1 == 2)=false:=beq_eq_false_iff_ne.2 h2;have q3:(r1 == 3)=false:=beq_eq_false_iff_ne.2 h3;clear R h2 h3 e1
   go_enter Tryz.func161,Tryz.ntmps161
   go_wp2
   first | go_end0 | refine bodyPost_ret (results_none rfl _ _ _) rfl ?_
   exact ⟨rfl,F.out⟩
theorem hear0 {w:World} {s:Nat} {r0 z0 r1 z1:Int} (h:RowM w s r0 z0 r1 z1):Calls Tryz.prog 162 #[.pointer (some ⟨s,0,none⟩)] w fun e w'=>e = .returned (.tuple #[])∧RowM w' s (hdN r0) (hZ r0 z0) r1 z1∧Only (fun b=>b=s) w w':=by
 have c0:w.cell? ⟨s,0,none⟩=some (.int .i64 r0):=row_cell h 0;have c1:w.cell? ⟨s,1,none⟩=some (.int .i64 z0):=row_cell h 1;have f0:=row_frozen h 0;have f1:=row_frozen h 1;have R:=Lib.hid h;clear h
 by_cases h2:r0=2
 ·subst h2
  have F:Hid (RowM (w.setCell ⟨s,1,none⟩ (.int .i64 0)) s (hdN 2) (hZ 2 z0) r1 z1∧Only (fun b=>b=s) w (w.setCell ⟨s,1,none⟩ (.int .i64 0))):=Lib.hid ⟨R.out.set1 _,only_set s 1 _ _⟩;clear R
  go_enter Tryz.func162,Tryz.ntmps162
  go_wp2
  first | go_end0 | refine bodyPost_ret (results_none rfl _ _ _) rfl ?_
  exact ⟨rfl,F.out⟩
 ·by_cases h3:r0=3
  ·subst h3
   clear h2;have F:Hid (RowM ((w.setCell ⟨s,0,none⟩ (.int .i64 2)).setCell ⟨s,1,none⟩ (.int .i64 0)) s (hdN 3) (hZ 3 z0) r1 z1∧Only (fun b=>b=s) w ((w.setCell ⟨s,0,none⟩ (.int .i64 2)).setCell ⟨s,1,none⟩ (.int .i64 0))):=Lib.hid ⟨(R.out.set0 _).set1 _,(only_set s 0 _ _).trans (only_set s 1 _ _) (fun _ _ q=>q)⟩;clear R
   go_enter Tryz.func162,Tryz.ntmps162
   go_wp2
   first | go_end0 | refine bodyPost_ret (results_none rfl _ _ _) rfl ?_
   exact ⟨rfl,F.out⟩
  ·have e1:hZ r0 z0=z0:=if_neg (by omega)
   have e2:hdN r0=r0:=if_neg h3;have F:Hid (RowM w s (hdN r0) (hZ r0 z0) r1 z1∧Only (fun b=>b=s) w w):=Lib.hid ⟨by rw [e1,e2];exact R.out,Only.refl _ _⟩;have q2:(r0 == 2)=false:=beq_eq_false_iff_ne.2 h2;have q3:(r0 == 3)=false:=beq_eq_false_iff_ne.2 h3;clear R h2 h3 e1 e2
   go_enter Tryz.func162,Tryz.ntmps162
   go_wp2
   first | go_end0 | refine bodyPost_ret (results_none rfl _ _ _) rfl ?_
   exact ⟨rfl,F.out⟩
theorem hear1 {w:World} {s:Nat} {r0 z0 r1 z1:Int} (h:RowM w s r0 z0 r1 z1):Calls Tryz.prog 162 #[.pointer (some ⟨s,2,none⟩)] w fun e w'=>e = .returned (.tuple #[])∧RowM w' s r0 z0 (hdN r1) (hZ r1 z1)∧Only (fun b=>b=s) w w':=by
 have c0:w.cell? ⟨s,2,none⟩=some (.int .i64 r1):=row_cell h 2;have c1:w.cell? ⟨s,3,none⟩=some (.int .i64 z1):=row_cell h 3;have f0:=row_frozen h 2;have f1:=row_frozen h 3;have R:=Lib.hid h;clear h
 by_cases h2:r1=2
 ·subst h2
  have F:Hid (RowM (w.setCell ⟨s,3,none⟩ (.int .i64 0)) s r0 z0 (hdN 2) (hZ 2 z1)∧Only (fun b=>b=s) w (w.setCell ⟨s,3,none⟩ (.int .i64 0))):=Lib.hid ⟨R.out.set3 _,only_set s 3 _ _⟩;clear R
  go_enter Tryz.func162,Tryz.ntmps162
  go_wp2
  first | go_end0 | refine bodyPost_ret (results_none rfl _ _ _) rfl ?_
  exact ⟨rfl,F.out⟩
 ·by_cases h3:r1=3
  ·subst h3
   clear h2;have F:Hid (RowM ((w.setCell ⟨s,2,none⟩ (.int .i64 2)).setCell ⟨s,3,none⟩ (.int .i64 0)) s r0 z0 (hdN 3) (hZ 3 z1)∧Only (fun b=>b=s) w ((w.setCell ⟨s,2,none⟩ (.int .i64 2)).setCell ⟨s,3,none⟩ (.int .i64 0))):=Lib.hid ⟨(R.out.set2 _).set3 _,(only_set s 2 _ _).trans (only_set s 3 _ _) (fun _ _ q=>q)⟩;clear R
   go_enter Tryz.func162,Tryz.ntmps162
   go_wp2
   first | go_end0 | refine bodyPost_ret (results_none rfl _ _ _) rfl ?_
   exact ⟨rfl,F.out⟩
  ·have e1:hZ r1 z1=z1:=if_neg (by omega)
   have e2:hdN r1=r1:=if_neg h3;have F:Hid (RowM w s r0 z0 (hdN r1) (hZ r1 z1)∧Only (fun b=>b=s) w w):=Lib.hid ⟨by rw [e1,e2];exact R.out,Only.refl _ _⟩;have q2:(r1 == 2)=false:=beq_eq_false_iff_ne.2 h2;have q3:(r1 == 3)=false:=beq_eq_false_iff_ne.2 h3;clear R h2 h3 e1 e2
   go_enter Tryz.func162,Tryz.ntmps162
   go_wp2
   first | go_end0 | refine bodyPost_ret (results_none rfl _ _ _) rfl ?_
   exact ⟨rfl,F.out⟩
theorem opn_du (a:A) (z0 z1:Int) (t:Nat) (v:Vm a z0 z1 t):(a.r0=1→opn a=0)∧(a.r0≠1→a.r1=1→opn a=1)∧(a.r0≠1→a.r1≠1→(du a.r0 z0 0=true→opn a=0)∧(du a.r0 z0 0=false→(du a.r1 z1 1=true→opn a=1)∧(du a.r1 z1 1=false→opn a = -1))):=by
 have e0:=v.e0;have e1:=v.e1;have D0:du a.r0 z0 0=true↔d0 a:=by
  unfold du d0;simp only [Bool.or_eq_true,Bool.and_eq_true,decide_eq_true_eq]
  by_cases h2:a.r0=2
  ·rw [e0 (.inl h2)];omega
  ·by_cases h3:a.r0=3
   ·rw [e0 (.inr h3)];omega
   ·omega
 have D1:du a.r1 z1 1=true↔d1 a:=by
  unfold du d1;simp only [Bool.or_eq_true,Bool.and_eq_true,decide_eq_true_eq]
  by_cases h2:a.r1=2
  ·rw [e1 (.inl h2)];omega
  ·by_cases h3:a.r1=3
   ·rw [e1 (.inr h3)];omega
   ·omega
 rcases opn_parts a with ⟨e,g,_⟩ | ⟨e,g0,g,_⟩ | ⟨e,g0,g1,g2,g3,_⟩
 ·refine ⟨fun _=>e,fun n0 y=>?_,fun n0 n1=>⟨fun _=>e,fun y=>?_⟩⟩
  ·rcases g with g | ⟨_,g,_⟩
   ·exact absurd g n0
   ·exact absurd y g
  ·rcases g with g | ⟨_,_,g⟩
   ·exact absurd g n0
   ·rw [D0.2 g] at y;exact Bool.noConfusion y
 ·refine ⟨fun y=>absurd y g0,fun _ _=>e,fun _ n1=>⟨fun y=>?_,fun _=>⟨fun _=>e,fun y=>?_⟩⟩⟩
  ·rcases g with g | ⟨_,g,_⟩
   ·exact absurd g n1
   ·exact absurd (D0.1 y) g
  ·rcases g with g | ⟨_,_,g⟩
   ·exact absurd g n1
   ·rw [D1.2 g] at y;exact Bool.noConfusion y
 ·refine ⟨fun y=>absurd y g0,fun _ y=>absurd y g1,fun _ _=>⟨fun y=>absurd (D0.1 y) g2,fun _=>⟨fun y=>absurd (D1.1 y) g3,fun _=>e⟩⟩⟩
set_option maxHeartbeats 4000000 in
theorem opener_any {w:World} {s t:Nat} {a:A} (P:Pr w s a t):Calls Tryz.prog 160 #[.pointer (some ⟨s,0,none⟩)] w fun e w'=>e = .returned (.int .i64 (opn a))∧Below w.heap.size w w':=by
 obtain ⟨z0,z1,hr,hv⟩:=P;have O:=Lib.hid (opn_du a z0 z1 t hv);have c0:w.cell? ⟨s,0,none⟩=some (.int .i64 a.r0):=row_cell hr 0;have c1:w.cell? ⟨s,1,none⟩=some (.int .i64 z0):=row_cell hr 1;have c2:w.cell? ⟨s,2,none⟩=some (.int .i64 a.r1):=row_cell hr 2;have c3:w.cell? ⟨s,3,none⟩=some (.int .i64 z1):=row_cell hr 3;have R:=Lib.hid hr;clear hr hv;generalize opn a=o at *;generalize a.r0=x0 at *;generalize a.r1=x1 at *;have i0:∀ W:World,(Instr.index 210 (.agg #[.int .i64 x0,.int .i64 z0,.int .i64 x1,.int .i64 z1]) (.int .i64 0)).run Tryz.prog W = .ok (.agg #[.int .i64 x0,.int .i64 z0]) W:=fun W=>rfl;have i1:∀ W:World,(Instr.index 210 (.agg #[.int .i64 x0,.int .i64 z0,.int .i64 x1,.int .i64 z1]) (.int .i64 1)).run Tryz.prog W = .ok (.agg #[.int .i64 x1,.int .i64 z1]) W:=fun W=>rfl
 go_enter Tryz.func160,Tryz.ntmps160
 go_wp2
 go_loopw [11] (fun i wr=>∃ k:Nat,k≤2∧i = .int .i64 k∧Hid (Below w.heap.size w wr)∧Hid (1≤k→x0≠1)∧Hid (2≤k→x1≠1)) (fun i _=>2 - (intOf i).toNat)
 case atStart=>exact ⟨0,by omega,rfl,Lib.hid (Below.refl _ _),Lib.hid (fun h=>by omega),Lib.hid (fun h=>by omega)⟩
 case round =>
  obtain ⟨k,hk,rfl,BB,N0,N1⟩:=hrel
  rcases (by omega:k=0∨k=1∨k=2) with rfl | rfl | h2
  ·have B1:Hid (Below w.heap.size w (wr.alloc (.cells #[.int .i64 x0,.int .i64 z0] 209))):=Lib.hid (BB.out.alloc BB.out.size _)
   by_cases h:x0=1
   ·have E:=Lib.hid (O.out.1 h)
    clear O N0 N1 c0 c1 c2 c3;subst h;go_wp2
    go_ret
    exact ⟨congrArg (fun z=>Ending.returned (.int .i64 z)) E.out.symm,B1.out⟩
   ·have q:(x0 == 1)=false:=beq_eq_false_iff_ne.2 h
    have N:=Lib.hid (fun _:1≤1=>h);clear N0 c0 c1 c2 c3 h;go_wp2
    go_roundw
    case rel=>exact ⟨1,by omega,rfl,B1,N,Lib.hid (fun h=>by omega)⟩
    case measure=>simp [intOf]
  ·have B1:Hid (Below w.heap.size w (wr.alloc (.cells #[.int .i64 x1,.int .i64 z1] 209))):=Lib.hid (BB.out.alloc BB.out.size _)
   by_cases h:x1=1
   ·have E:=Lib.hid (O.out.2.1 (N0.out (by omega)) h)
    clear O N0 N1 c0 c1 c2 c3;subst h;go_wp2
    go_ret
    exact ⟨congrArg (fun z=>Ending.returned (.int .i64 z)) E.out.symm,B1.out⟩
   ·have q:(x1 == 1)=false:=beq_eq_false_iff_ne.2 h
    have N:=Lib.hid (fun _:2≤2=>h);have N':=Lib.hid (fun _:1≤2=>N0.out (by omega));clear N0 c0 c1 c2 c3 h;go_wp2
    go_roundw
    case rel=>exact ⟨2,by omega,rfl,B1,N',N⟩
    case measure=>simp [intOf]
  ·have O2:=Lib.hid (O.out.2.2 (N0.out (by omega)) (N1.out (by omega)))
   have R1:=Lib.hid (R.out.below BB.out);have c0:wr.cell? ⟨s,0,none⟩=some (.int .i64 x0):=row_cell R1.out 0;have c1:wr.cell? ⟨s,1,none⟩=some (.int .i64 z0):=row_cell R1.out 1;have c2:wr.cell? ⟨s,2,none⟩=some (.int .i64 x1):=row_cell R1.out 2;have c3:wr.cell? ⟨s,3,none⟩=some (.int .i64 z1):=row_cell R1.out 3;have hk2:¬ (k:Int) < 2:=by omega
   clear O N0 N1 R R1 h2 hk;go_upto_region 7 with fail;clear hk2;generalize (k:Int)=k2 at *;go_wp2
   go_loopw [24] (fun i wr=>∃ k:Nat,k≤2∧i = .int .i64 k∧Hid (Below w.heap.size w wr)∧Hid (1≤k→du x0 z0 0=false)∧Hid (2≤k→du x1 z1 1=false)) (fun i _=>2 - (intOf i).toNat)
   case atStart=>exact ⟨0,by omega,rfl,BB,Lib.hid (fun h=>by omega),Lib.hid (fun h=>by omega)⟩
   case round =>
    clear BB c0 c1 c2 c3;obtain ⟨k,hk,rfl,BB,N0,N1⟩:=hrel
    rcases (by omega:k=0∨k=1∨k=2) with rfl | rfl | rfl
    ·have B1:Hid (Below w.heap.size w (wr.alloc (.cells #[.int .i64 x0,.int .i64 z0] 209))):=Lib.hid (BB.out.alloc BB.out.size _)
     have D:=Lib.hid (due_any (wr.alloc (.cells #[.int .i64 x0,.int .i64 z0] 209)) x0 z0 0 (by omega));clear N0 N1;generalize hd:du x0 z0 0=d at *;have HD:=Lib.hid hd;clear hd;go_wp2_with fail;refine D.out.mono ?_;rintro e w2 ⟨rfl,b2⟩;have B2:=Lib.hid (B1.out.trans (b2.mono B1.out.size));clear b2 D B1 BB
     cases d with
     | true =>
       have E:=Lib.hid (O2.out.1 rfl);clear O2 HD;go_wp2
       go_ret
       exact ⟨congrArg (fun z=>Ending.returned (.int .i64 z)) E.out.symm,B2.out⟩
     | false =>
       go_wp2
       go_roundw
       case rel=>exact ⟨1,by omega,rfl,B2,Lib.hid (fun _=>trivial),Lib.hid (fun h=>by omega)⟩
       case measure=>simp [intOf]
    ·have B1:Hid (Below w.heap.size w (wr.alloc (.cells #[.int .i64 x1,.int .i64 z1] 209))):=Lib.hid (BB.out.alloc BB.out.size _)
     have D:=Lib.hid (due_any (wr.alloc (.cells #[.int .i64 x1,.int .i64 z1] 209)) x1 z1 1 (by omega));have O3:=Lib.hid (O2.out.2 (N0.out (by omega)));have N':=Lib.hid (fun _:1≤2=>N0.out (by omega));clear N0 N1 O2;generalize hd:du x1 z1 1=d at *;have HD:=Lib.hid hd;clear hd;go_wp2_with fail;refine D.out.mono ?_;rintro e w2 ⟨rfl,b2⟩;have B2:=Lib.hid (B1.out.trans (b2.mono B1.out.size));clear b2 D B1 BB
     cases d with
     | true =>
       have E:=Lib.hid (O3.out.1 rfl);clear O3 HD N';go_wp2
       go_ret
       exact ⟨congrArg (fun z=>Ending.returned (.int .i64 z)) E.out.symm,B2.out⟩
     | false =>
       clear O3;go_wp2
       go_roundw
       case rel=>exact ⟨2,by omega,rfl,B2,N',Lib.hid (fun _=>trivial)⟩
       case measure=>simp [intOf]
    ·have E:=Lib.hid ((O2.out.2 (N0.out (by omega))).2 (N1.out (by omega)))
     clear O2 N0 N1;go_wp2
     go_ret
     exact ⟨congrArg (fun z=>Ending.returned (.int .i64 z)) E.out.symm,BB.out⟩
end Go.Proofs.YtljnkaodhfnbbaaGreatDoor.Wt
namespace Go.Proofs.YtljnkaodhfnbbaaGreatDoor.Wt
open Go.RowKit
open Fl (ret_bool at_bool row_cell row_frozen)
open Fs (Only)
attribute [local irreducible] Sd.wpSd wpQuiet
theorem rnd_cases (a:A):(opn a=0∧rnd a=⟨1,0,hdN a.r1,0⟩)∨(opn a=1∧rnd a=⟨hdN a.r0,0,1,0⟩)∨(opn a = -1∧a.r0≠1∧a.r1≠1∧rnd a=⟨a.r0,a.q0+1,a.r1,a.q1+1⟩):=by
 obtain ⟨r0,q0,r1,q1⟩:=a;unfold opn rnd tk t1 t2 op hd
 by_cases e0:r0=1
 ·exact .inl (by simp [e0])
 ·by_cases e1:r1=1
  ·exact .inr (.inl (by simp [e0,e1]))
  ·by_cases g0:(r0=2∧4≤q0)∨(r0=3∧8≤q0)
   ·exact .inl (by simp [e0,e1,g0])
   ·by_cases g1:(r1=2∧4≤q1)∨(r1=3∧9≤q1)
    ·exact .inr (.inl (by simp [e0,e1,g0,g1]))
    ·exact .inr (.inr (by simp [e0,e1,g0,g1]))
def HM (w:World) (s:Nat) (r0 z0 r1 z1:Int):Nat→Prop
 | 0=>RowM w s r0 z0 r1 z1
 | 1=>RowM w s (hdN r0) (hZ r0 z0) r1 z1
 | _=>RowM w s (hdN r0) (hZ r0 z0) (hdN r1) (hZ r1 z1)
def WM (w:World) (s:Nat) (r0 z0 r1 z1:Int):Nat→Prop
 | 0=>RowM w s r0 z0 r1 z1
 | 1=>RowM w s r0 (wZ r0 z0) r1 z1
 | _=>RowM w s r0 (wZ r0 z0) r1 (wZ r1 z1)
theorem hZ_in {r z:Int} {t:Nat} (h:0≤z∧z≤t):0≤hZ r z∧hZ r z≤((t+1:Nat):Int):=by unfold hZ;split <;> omega
theorem wZ_in {r z:Int} {t:Nat} (h:0≤z∧z≤t):0≤wZ r z∧wZ r z≤((t+1:Nat):Int):=by unfold wZ;split <;> omega
theorem hdN_zero {r z:Int} (h:hdN r=2∨hdN r=3):(0:Int)=hZ r z:=by
 unfold hdN at h;unfold hZ
 split
 ·rfl
 ·rename_i g
  exfalso
  split at h <;> omega
theorem wZ_next {r q z:Int} (e:r=2∨r=3→q=z) (h:r=2∨r=3):q+1=wZ r z:=by
 unfold wZ;rw [if_pos h,e h]
set_option maxHeartbeats 4000000 in
theorem round_any {w:World} {s t:Nat} {a:A} (P:Pr w s a t) (ht:t≤90000):Calls Tryz.prog 116 #[.pointer (some ⟨s,0,none⟩)] w (CdeedPost w s (opn a) (rnd a) (t+1)):=by
 have OP:=Lib.hid (opener_any P);obtain ⟨z0,z1,hr,hv⟩:=P;have R:=Lib.hid hr;have V:=Lib.hid hv;have v0:=hv.b0;have v1:=hv.b1;clear hr hv
 rcases rnd_cases a with ⟨eo,er⟩ | ⟨eo,er⟩ | ⟨eo,g0,g1,er⟩
 ·have FIN:Hid (∀ w',HM w' s 1 0 a.r1 z1 2→Only (fun b=>b=s) w w'→CdeedPost w s (opn a) (rnd a) (t+1) (.returned (.int .i64 0)) w'):=Lib.hid fun w' hh oo=>⟨by rw [eo],by rw [er];exact ⟨_,_,hh,⟨hZ_in ⟨by decide,by omega⟩,hZ_in V.out.b1,(fun g=>absurd g (by show ¬ ((1:Int)=2∨(1:Int)=3);decide)),fun g=>hdN_zero g⟩⟩,oo⟩
  rw [eo] at OP;clear eo er V v0 v1;generalize opn a=op_ at *;generalize rnd a=a' at *;generalize a.r0=x0 at *;generalize a.r1=x1 at *
  go_enter Tryz.func116,Tryz.ntmps116
  go_wp2_with fail;refine OP.out.mono ?_;rintro e w1 ⟨rfl,b1⟩;have R1:=Lib.hid (R.out.below b1);have c0:w1.cell? ⟨s,0,none⟩=some (.int .i64 x0):=row_cell R1.out 0;have c1:w1.cell? ⟨s,1,none⟩=some (.int .i64 z0):=row_cell R1.out 1;have f0:=row_frozen R1.out 0;have f1:=row_frozen R1.out 1;have M0:Hid (HM ((w1.setCell ⟨s,0,none⟩ (.int .i64 1)).setCell ⟨s,1,none⟩ (.int .i64 0)) s 1 0 x1 z1 0):=Lib.hid ((R1.out.set0 1).set1 0);have O0:Hid (Only (fun b=>b=s) w ((w1.setCell ⟨s,0,none⟩ (.int .i64 1)).setCell ⟨s,1,none⟩ (.int .i64 0))):=Lib.hid (((Only.of_below b1).trans (only_set s 0 _ _) (fun _ _ q=>q)).trans (only_set s 1 _ _) (fun _ _ q=>q));clear R R1 OP b1;go_wp2
  go_loopw [17] (fun i wr=>∃ k:Nat,k≤2∧i = .int .i64 k∧Hid (HM wr s 1 0 x1 z1 k)∧Hid (Only (fun b=>b=s) w wr)) (fun i _=>2 - (intOf i).toNat)
  case atStart=>exact ⟨0,by omega,rfl,M0,O0⟩
  case round =>
   clear M0 O0 c0 c1 f0 f1;obtain ⟨k,hk,rfl,M,OO⟩:=hrel
   rcases (by omega:k=0∨k=1∨k=2) with rfl | rfl | rfl
   ·have C:=Lib.hid (hear0 (show RowM wr s 1 0 x1 z1 from M.out))
    clear M;go_wp2_with fail;refine C.out.mono ?_;rintro e w2 ⟨rfl,m2,o2⟩;have M2:Hid (HM w2 s 1 0 x1 z1 1):=Lib.hid m2;have O2:=Lib.hid (only_two OO.out o2);clear m2 o2 C OO;go_wp2
    go_roundw
    case rel=>exact ⟨1,by omega,rfl,M2,O2⟩
    case measure=>simp [intOf]
   ·have C:=Lib.hid (hear1 (show RowM wr s (hdN 1) (hZ 1 0) x1 z1 from M.out))
    clear M;go_wp2_with fail;refine C.out.mono ?_;rintro e w2 ⟨rfl,m2,o2⟩;have M2:Hid (HM w2 s 1 0 x1 z1 2):=Lib.hid m2;have O2:=Lib.hid (only_two OO.out o2);clear m2 o2 C OO;go_wp2
    go_roundw
    case rel=>exact ⟨2,by omega,rfl,M2,O2⟩
    case measure=>simp [intOf]
   ·have F:=Lib.hid (FIN.out wr M.out OO.out)
    clear FIN M OO;go_wp2
    go_ret
    exact F.out
 ·have FIN:Hid (∀ w',HM w' s a.r0 z0 1 0 2→Only (fun b=>b=s) w w'→CdeedPost w s (opn a) (rnd a) (t+1) (.returned (.int .i64 1)) w'):=Lib.hid fun w' hh oo=>⟨by rw [eo],by rw [er];exact ⟨_,_,hh,⟨hZ_in V.out.b0,hZ_in ⟨by decide,by omega⟩,fun g=>hdN_zero g,(fun g=>absurd g (by show ¬ ((1:Int)=2∨(1:Int)=3);decide))⟩⟩,oo⟩
  rw [eo] at OP;clear eo er V v0 v1;generalize opn a=op_ at *;generalize rnd a=a' at *;generalize a.r0=x0 at *;generalize a.r1=x1 at *
  go_enter Tryz.func116,Tryz.ntmps116
  go_wp2_with fail;refine OP.out.mono ?_;rintro e w1 ⟨rfl,b1⟩;have R1:=Lib.hid (R.out.below b1);have c0:w1.cell? ⟨s,2,none⟩=some (.int .i64 x1):=row_cell R1.out 2;have c1:w1.cell? ⟨s,3,none⟩=some (.int .i64 z1):=row_cell R1.out 3;have f0:=row_frozen R1.out 2;have f1:=row_frozen R1.out 3;have M0:Hid (HM ((w1.setCell ⟨s,2,none⟩ (.int .i64 1)).setCell ⟨s,3,none⟩ (.int .i64 0)) s x0 z0 1 0 0):=Lib.hid ((R1.out.set2 1).set3 0);have O0:Hid (Only (fun b=>b=s) w ((w1.setCell ⟨s,2,none⟩ (.int .i64 1)).setCell ⟨s,3,none⟩ (.int .i64 0))):=Lib.hid (((Only.of_below b1).trans (only_set s 2 _ _) (fun _ _ q=>q)).trans (only_set s 3 _ _) (fun _ _ q=>q));clear R R1 OP b1;go_wp2
  go_loopw [17] (fun i wr=>∃ k:Nat,k≤2∧i = .int .i64 k∧Hid (HM wr s x0 z0 1 0 k)∧Hid (Only (fun b=>b=s) w wr)) (fun i _=>2 - (intOf i).toNat)
  case atStart=>exact ⟨0,by omega,rfl,M0,O0⟩
  case round =>
   clear M0 O0 c0 c1 f0 f1;obtain ⟨k,hk,rfl,M,OO⟩:=hrel
   rcases (by omega:k=0∨k=1∨k=2) with rfl | rfl | rfl
   ·have C:=Lib.hid (hear0 (show RowM wr s x0 z0 1 0 from M.out))
    clear M;go_wp2_with fail;refine C.out.mono ?_;rintro e w2 ⟨rfl,m2,o2⟩;have M2:Hid (HM w2 s x0 z0 1 0 1):=Lib.hid m2;have O2:=Lib.hid (only_two OO.out o2);clear m2 o2 C OO;go_wp2
    go_roundw
    case rel=>exact ⟨1,by omega,rfl,M2,O2⟩
    case measure=>simp [intOf]
   ·have C:=Lib.hid (hear1 (show RowM wr s (hdN x0) (hZ x0 z0) 1 0 from M.out))
    clear M;go_wp2_with fail;refine C.out.mono ?_;rintro e w2 ⟨rfl,m2,o2⟩;have M2:Hid (HM w2 s x0 z0 1 0 2):=Lib.hid m2;have O2:=Lib.hid (only_two OO.out o2);clear m2 o2 C OO;go_wp2
    go_roundw
    case rel=>exact ⟨2,by omega,rfl,M2,O2⟩
    case measure=>simp [intOf]
   ·have F:=Lib.hid (FIN.out wr M.out OO.out)
    clear FIN M OO;go_wp2
    go_ret
    exact F.out
 ·have FIN:Hid (∀ w',WM w' s a.r0 z0 a.r1 z1 2→Only (fun b=>b=s) w w'→CdeedPost w s (opn a) (rnd a) (t+1) (.returned (.int .i64 (-1))) w'):=Lib.hid fun w' hh oo=>⟨by rw [eo],by rw [er];exact ⟨_,_,hh,⟨wZ_in V.out.b0,wZ_in V.out.b1,fun g=>wZ_next V.out.e0 g,fun g=>wZ_next V.out.e1 g⟩⟩,oo⟩
  rw [eo] at OP;have V0:Hid (0≤z0∧z0≤1000000):=Lib.hid (by omega);have V1:Hid (0≤z1∧z1≤1000000):=Lib.hid (by omega);clear eo er V v0 v1 g0 g1;generalize opn a=op_ at *;generalize rnd a=a' at *;generalize a.r0=x0 at *;generalize a.r1=x1 at *
  go_enter Tryz.func116,Tryz.ntmps116
  go_wp2_with fail;refine OP.out.mono ?_;rintro e w1 ⟨rfl,b1⟩;have M0:Hid (WM w1 s x0 z0 x1 z1 0):=Lib.hid (R.out.below b1);have O0:Hid (Only (fun b=>b=s) w w1):=Lib.hid (Only.of_below b1);clear R OP b1;go_wp2
  go_loopw [17] (fun i wr=>∃ k:Nat,k≤2∧i = .int .i64 k∧Hid (WM wr s x0 z0 x1 z1 k)∧Hid (Only (fun b=>b=s) w wr)) (fun i _=>2 - (intOf i).toNat)
  case atStart=>exact ⟨0,by omega,rfl,M0,O0⟩
  case round =>
   clear M0 O0;obtain ⟨k,hk,rfl,M,OO⟩:=hrel
   rcases (by omega:k=0∨k=1∨k=2) with rfl | rfl | rfl
   ·have C:=Lib.hid (wait0 (show RowM wr s x0 z0 x1 z1 from M.out) V0.out)
    clear M;go_wp2_with fail;refine C.out.mono ?_;rintro e w2 ⟨rfl,m2,o2⟩;have M2:Hid (WM w2 s x0 z0 x1 z1 1):=Lib.hid m2;have O2:=Lib.hid (only_two OO.out o2);clear m2 o2 C OO;go_wp2
    go_roundw
    case rel=>exact ⟨1,by omega,rfl,M2,O2⟩
    case measure=>simp [intOf]
   ·have C:=Lib.hid (wait1 (show RowM wr s x0 (wZ x0 z0) x1 z1 from M.out) V1.out)
    clear M;go_wp2_with fail;refine C.out.mono ?_;rintro e w2 ⟨rfl,m2,o2⟩;have M2:Hid (WM w2 s x0 z0 x1 z1 2):=Lib.hid m2;have O2:=Lib.hid (only_two OO.out o2);clear m2 o2 C OO;go_wp2
    go_roundw
    case rel=>exact ⟨2,by omega,rfl,M2,O2⟩
    case measure=>simp [intOf]
   ·have F:=Lib.hid (FIN.out wr M.out OO.out)
    clear FIN M OO;go_wp2
    go_ret
    exact F.out
end Go.Proofs.YtljnkaodhfnbbaaGreatDoor.Wt
namespace Go.Proofs.YtljnkaodhfnbbaaGreatDoor.Cu
open Go.RowKit Go.Maps
open Rw (Rd Ow At)
open Fl (row_cell row_frozen)
open Fs (Abs St OkA Only Fx ow_only Glob)
open Pa (Sts S2 sat vat KN KB K2 ptr rdE rdL)
open Re (KI iat seqP)
attribute [local irreducible] Sd.wpSd wpQuiet
theorem opn_casesC (a:Wt.A):Wt.opn a = -1∨Wt.opn a=0∨Wt.opn a=1:=by
 unfold Wt.opn Wt.op
 split
 ·exact .inr (.inl rfl)
 ·split
  ·exact .inr (.inr rfl)
  ·exact .inl rfl
theorem at0_lt {c:Cs} {l:List Int} (h:seqP l):at0 c l < l.length:=by
 unfold at0;have:=h.1
 split <;> omega
set_option maxHeartbeats 4000000 in
theorem cround_silent {s t p:Nat} {F:Nat→Prop} {c:Cs} {vn vq:Value} {L:List Nd} {Fs:Nat→Nat→Prop} {w:World} (h:Cl w s F c t vn L p vq Fs) (ok:OkC c t) (ht:t≤1000) (hg:Glob w) (hG:¬ F 1) (ho:Wt.opn c.P = -1) :
 Calls Tryz.prog 59 #[ptr s] w (DoC w s F (rC c) (t+1) (rE c)):=by
 generalize hRC:rC c=cR;generalize hRE:rE c=eR;have RC:=Lib.hid hRC;have RE:=Lib.hid hRE;clear hRC hRE;have d3:=h.cells.2.2.2;have f3:=h.frz 3;have H1:=Lib.hid (h.spoils (v:=.slice none 0 0) (Q:=[]) (Rw.Ow.nil _ _ _) (fun k e=>by simp [Value.ownBlock] at e) (fun i hi k _ e=>by simp [Value.ownBlock] at e));have O1:Hid (Only F w (w.setCell ⟨s,3,none⟩ (.slice none 0 0))):=Lib.hid (Only.set F w (a:=⟨s,3,none⟩) h.fs _);have Q1:Hid (Ow K2 (w.setCell ⟨s,3,none⟩ (.slice none 0 0)) 0 155 vq c.Q):=Lib.hid (ow_only h.sp (fun k e g=>h.vs.2 (by rw [e,g])) (Only.set (fun k=>k=s) w (a:=⟨s,3,none⟩) rfl _));have k1:=H1.out.cells.2.1;have CR:=Lib.hid (Wt.round_any H1.out.pr (by omega));have QF:Hid (∀ k,vq.ownBlock=some k→k≠s∧k≠p):=Lib.hid (fun k e=>⟨fun g=>h.vs.2 (by rw [e,g]),fun g=>h.vp.2 (by rw [e,g])⟩);have HS:=Lib.hid h.fs;have LW:=Lib.hid h.low;have GG:=Lib.hid hg;have HG:=Lib.hid hG;have OK:=Lib.hid ok;obtain ⟨qa,qc,rfl,_⟩:=h.sp.slice;clear h ok hg hG;unfold Wt.CdeedPost at CR;rw [show Wt.opn ({ c with Q:=[] } : Cs).P=_ from ho,show Wt.rnd ({ c with Q:=[] } : Cs).P=Wt.rnd c.P from rfl] at CR;unfold ptr at *;generalize hql:c.Q.length=ql at *;clear hql
 go_enter Tryz.func59,Tryz.ntmps59
 go_upto_region 3 with fail;clear d3 f3;generalize (w.setCell ⟨s,3,none⟩ (.slice none 0 0))=w1 at *;go_wp2_with fail;refine CR.out.mono ?_;rintro e w2 ⟨rfl,pr2,o2⟩;have H2:=Lib.hid (H1.out.pair o2 pr2);have O2:=Lib.hid (O1.out.trans o2 fun k _ e=>by rw [e];exact H1.out.fp);have Q2:=Lib.hid (ow_only Q1.out (fun k e g=>(QF.out k e).2 g) o2);have G2:=Lib.hid (GG.out.only HG.out O2.out);clear pr2 o2 CR H1 O1 Q1 k1;have e1:rE c=0:=by unfold rE;rw [if_pos (by omega)]
 have e2:rC c = { c with P:=Wt.rnd c.P,Q:=[] }:=by unfold rC;rw [if_pos (by omega)]
 rw [RE.out] at e1;rw [RC.out] at e2;subst e1 e2;have C3:=Lib.hid (chas_out H2.out (n:=-1) (Or.inl (by decide)));have E:=Lib.hid (fun w' (b:Below w2.heap.size w2 w')=>doc_of (w:=w) (H2.out.below b) (O2.out.then b) 0);unfold ptr at C3;clear H2 O2 Q2 G2 ho;go_wp2_with fail;refine C3.out.mono ?_;rintro e w3 ⟨rfl,b3⟩;have G:=Lib.hid (E.out w3 b3);clear E C3 b3;go_wp2
 go_ret
 exact G.out
set_option maxHeartbeats 4000000 in
theorem cround_open {s t p:Nat} {F:Nat→Prop} {c:Cs} {vn vq:Value} {L:List Nd} {Fs:Nat→Nat→Prop} {w:World} (h:Cl w s F c t vn L p vq Fs) (ok:OkC c t) (ht:t≤1000) (hg:Glob w) (hG:¬ F 1) {nn:Nat} (ho:Wt.opn c.P=nn) (hn:nn < 2) :
 Calls Tryz.prog 59 #[ptr s] w (DoC w s F (rC c) (t+1) (rE c)):=by
 generalize hRC:rC c=cR;generalize hRE:rE c=eR;have RC:=Lib.hid hRC;have RE:=Lib.hid hRE;clear hRC hRE;have d3:=h.cells.2.2.2;have f3:=h.frz 3;have H1:=Lib.hid (h.spoils (v:=.slice none 0 0) (Q:=[]) (Rw.Ow.nil _ _ _) (fun k e=>by simp [Value.ownBlock] at e) (fun i hi k _ e=>by simp [Value.ownBlock] at e));have O1:Hid (Only F w (w.setCell ⟨s,3,none⟩ (.slice none 0 0))):=Lib.hid (Only.set F w (a:=⟨s,3,none⟩) h.fs _);have Q1:Hid (Ow K2 (w.setCell ⟨s,3,none⟩ (.slice none 0 0)) 0 155 vq c.Q):=Lib.hid (ow_only h.sp (fun k e g=>h.vs.2 (by rw [e,g])) (Only.set (fun k=>k=s) w (a:=⟨s,3,none⟩) rfl _));have k1:=H1.out.cells.2.1;have CR:=Lib.hid (Wt.round_any H1.out.pr (by omega));have QF:Hid (∀ k,vq.ownBlock=some k→k≠s∧k≠p):=Lib.hid (fun k e=>⟨fun g=>h.vs.2 (by rw [e,g]),fun g=>h.vp.2 (by rw [e,g])⟩);have HS:=Lib.hid h.fs;have LW:=Lib.hid h.low;have GG:=Lib.hid hg;have HG:=Lib.hid hG;have OK:=Lib.hid ok;obtain ⟨qa,qc,rfl,_⟩:=h.sp.slice;clear h ok hg hG;unfold Wt.CdeedPost at CR;rw [show Wt.opn ({ c with Q:=[] } : Cs).P=_ from ho,show Wt.rnd ({ c with Q:=[] } : Cs).P=Wt.rnd c.P from rfl] at CR;unfold ptr at *;generalize hql:c.Q.length=ql at *;clear hql
 go_enter Tryz.func59,Tryz.ntmps59
 go_upto_region 3 with fail;clear d3 f3;generalize (w.setCell ⟨s,3,none⟩ (.slice none 0 0))=w1 at *;go_wp2_with fail;refine CR.out.mono ?_;rintro e w2 ⟨rfl,pr2,o2⟩;have H2:=Lib.hid (H1.out.pair o2 pr2);have O2:=Lib.hid (O1.out.trans o2 fun k _ e=>by rw [e];exact H1.out.fp);have Q2:=Lib.hid (ow_only Q1.out (fun k e g=>(QF.out k e).2 g) o2);have G2:=Lib.hid (GG.out.only HG.out O2.out);clear pr2 o2 CR H1 O1 Q1 k1;have hnl:nn < c.S.length:=by have:=OK.out.len;omega
 have OW:own c=(sat c.S nn).1:=by unfold own;rw [ho]
 have C3:=Lib.hid (chas_in H2.out (n:=nn) hnl);have HO:=Lib.hid ho;have HN:=Lib.hid hnl;unfold ptr at C3;go_wp2_with fail;refine C3.out.mono ?_;rintro e w3 ⟨rfl,b3⟩;have H3:=Lib.hid (H2.out.below b3);have O3:=Lib.hid (O2.out.then b3);have Q3:=Lib.hid (Q2.out.keep b3);have C4:=Lib.hid (csequence_any H3.out (nn:=nn) HN.out);rw [show (sat ({ c with Q:=[],P:=Wt.rnd c.P } : Cs).S nn).1=own c from OW.symm] at C4;have OWH:=Lib.hid OW;unfold SqC ptr at C4;clear H2 O2 Q2 G2 C3 b3 OW ho hnl;go_wp2_with fail;refine C4.out.mono ?_;rintro e w4 ⟨b4,hc⟩;have H4:=Lib.hid (H3.out.below b4);have O4:=Lib.hid (O3.out.then b4);have Q4:=Lib.hid (Q3.out.keep b4);have G4:=Lib.hid (GG.out.only HG.out O4.out);clear H3 O3 Q3 C4 b4
 rcases hc with ⟨hs,u,rfl,ru⟩ | ⟨hs,rfl⟩
 ·have SQ:=Lib.hid (sqL_seq hs)
  have er:rE c=rdE c.S (rT c) c.V:=by unfold rE;rw [if_neg (by rw [HO.out];omega),if_pos hs]
  have ec:rC c=⟨caS c.S (rT c) c.V c.Q,c.V,Wt.rnd c.P,at1 c (sqL (own c)),[]⟩:=by unfold rC caS;rw [if_neg (by rw [HO.out];omega),if_pos hs]
  rw [RE.out] at er;rw [RC.out] at ec;have C5:Hid (Calls Tryz.prog 119 #[ptr s,u] w4 (NxC w4 s (iat (sqL (own c)) (at0 c (sqL (own c)))) (at1 c (sqL (own c))))):=Lib.hid (cnext_any H4.out ru SQ.out);have RR:Hid (0≤iat (sqL (own c)) (at0 c (sqL (own c)))∧iat (sqL (own c)) (at0 c (sqL (own c)))≤5):=Lib.hid (SQ.out.2 _ (at0_lt SQ.out));have RT:Hid (rT c=tbs c.S (iat (sqL (own c)) (at0 c (sqL (own c))))):=Lib.hid rfl;obtain ⟨ua,uc,rfl,_⟩:=ru.slice;unfold NxC ptr at C5;have EC:=Lib.hid ec;have ER:=Lib.hid er;clear ru er ec hs;generalize (sqL (own c)).length=ul at *;go_wp2_with fail;refine C5.out.mono ?_;rintro e w5 ⟨rfl,w6,b6,rfl⟩;have H5:=Lib.hid ((H4.out.below b6).place (at1 c (sqL (own c))));have O5:=Lib.hid ((O4.out.then b6).trans (Only.set F w6 (a:=⟨s,2,none⟩) HS.out (.int .i64 (at1 c (sqL (own c))))) fun _ _ g=>g);have Q5:=Lib.hid (ow_only (Q4.out.keep b6) (fun k e g=>(QF.out k e).1 g) (Only.set (fun k=>k=s) w6 (a:=⟨s,2,none⟩) rfl (.int .i64 (at1 c (sqL (own c))))));have G5:=Lib.hid (GG.out.only HG.out O5.out);clear H4 O4 Q4 G4 b6 C5;generalize (w6.setCell ⟨s,2,none⟩ (.int .i64 (at1 c (sqL (own c)))))=w7 at *;have C6:=Lib.hid (ccarry_any H5.out OK.out.len OK.out.lv (fun i hi=>by have:=OK.out.st i hi;exact ⟨this.2.1,Int.lt_of_le_of_lt this.2.2 (by omega)⟩) G5.out RR.out Q5.out.rd);unfold ptr at C6;rw [← RT.out] at C6;clear H5 Q5 G5 RR;generalize iat (sqL (own c)) (at0 c (sqL (own c)))=r at *;go_wp2_with fail;refine C6.out.mono ?_;rintro e w8 d8;have G:Hid (DoC w s F cR (t+1) eR e w8):=Lib.hid (by rw [EC.out,ER.out];exact d8.preO O5.out LW.out);obtain ⟨rfl,_,_⟩:=d8;clear C6;go_wp2
  go_ret
  exact G.out
 ·have er:rE c=2:=by unfold rE;rw [if_neg (by rw [HO.out];omega),if_neg (by rw [hs];decide)]
  have ec:rC c = { c with P:=Wt.rnd c.P,Q:=[] }:=by unfold rC;rw [if_neg (by rw [HO.out];omega),if_neg (by rw [hs];decide)]
  rw [RE.out] at er;rw [RC.out] at ec;subst er ec;have C5:=Lib.hid (cnumber_any nn 2 w4 G4.out);have E:=Lib.hid (fun w' (b:Below w4.heap.size w4 w')=>doc_of (w:=w) (H4.out.below b) (O4.out.then b) 2);unfold flaw flw at *;clear H4 O4 Q4 G4 hs;go_wp2_with fail;refine C5.out.mono ?_;rintro e w5 ⟨rfl,b5⟩;have G:=Lib.hid (E.out w5 b5);clear E C5 b5;go_wp2
  go_ret
  exact G.out
theorem cround_any {s t p:Nat} {F:Nat→Prop} {c:Cs} {vn vq:Value} {L:List Nd} {Fs:Nat→Nat→Prop} {w:World} (h:Cl w s F c t vn L p vq Fs) (ok:OkC c t) (ht:t≤1000) (hg:Glob w) (hG:¬ F 1) :
 Calls Tryz.prog 59 #[ptr s] w (DoC w s F (rC c) (t+1) (rE c)):=by
 rcases opn_casesC c.P with ho | ho | ho
 ·exact cround_silent h ok ht hg hG ho
 ·exact cround_open h ok ht hg hG (nn:=0) ho (by decide)
 ·exact cround_open h ok ht hg hG (nn:=1) ho (by decide)
end Go.Proofs.YtljnkaodhfnbbaaGreatDoor.Cu
namespace Go.Proofs.YtljnkaodhfnbbaaGreatDoor.Cu
open Go.RowKit Go.Maps
open Rw (Rd Ow At)
open Fl (R4 K4 okL okR z4 rec4 arr4 row_cell row_frozen)
open Fs (Abs St OkA Only Fx ow_only Wf Glob sA sB)
open Pa (Sts S2 sat vat KN KB K2 ptr)
attribute [local irreducible] Sd.wpSd wpQuiet Sz.wpSz
section
variable {s t p:Nat} {F G:Nat→Prop} {c:Cs} {vn vq:Value} {L:List Nd} {Fs:Nat→Nat→Prop} {w w1 w':World}
theorem act_write {x:Ac} (hk:x.k=2) (hn:¬ no c x.n):(vat c.V x.n=true→actE x c=(if sB (sat c.S x.n).1 x.f x.r=true then 0 else 3)∧actC x c = { c with S:=setS c.S x.n (sA (sat c.S x.n).1 x.f x.r x.v,(sat c.S x.n).2) })∧(vat c.V x.n=false→actE x c=10∧actC x c=c):=by
 have hin:0≤x.n∧x.n < c.S.length:=by unfold no at hn;omega
 have he:actE x c=if vat c.V x.n=true then (if sB (sat c.S x.n).1 x.f x.r=true then 0 else 3) else 10:=by
  unfold actE;rw [if_neg (by omega),if_neg (by omega),if_neg (by rintro (g | g | g);omega;omega;exact hn g),if_pos hk]
 refine ⟨fun hv=>?_,fun hv=>?_⟩
 ·rw [hv,if_pos rfl] at he
  refine ⟨he,?_⟩;unfold actC
  cases g:sB (sat c.S x.n).1 x.f x.r with
  | true =>
    rw [g,if_pos rfl] at he;rw [if_neg (by omega),if_neg (by rw [he];simp),if_neg (by omega),if_pos hk]
  | false =>
    rw [g,if_neg Bool.false_ne_true] at he;rw [if_neg (by omega),if_pos (by rw [he];decide)];have e1:sA (sat c.S x.n).1 x.f x.r x.v=(sat c.S x.n).1:=by
     unfold sA
     split
     ·rfl
     ·rw [g];rfl
    have e2:setS c.S x.n (sA (sat c.S x.n).1 x.f x.r x.v,(sat c.S x.n).2)=c.S:=by
     rw [e1];unfold setS
     show c.S.set x.n.toNat (sat c.S x.n)=c.S
     unfold sat;rw [List.getD_eq_getElem?_getD,List.getElem?_eq_getElem (by omega)];exact List.set_getElem_self (by omega)
    rw [e2]
 ·rw [hv,if_neg Bool.false_ne_true] at he
  refine ⟨he,?_⟩;unfold actC;rw [if_neg (by omega),if_pos (by rw [he];decide)]
theorem act_drift {x:Ac} (hk:x.k=6) (hn:¬ no c x.n):actE x c=(if x.t < -2000∨2000 < x.t then 1 else 0)∧actC x c=c:=by
 have he:actE x c=if x.t < -2000∨2000 < x.t then 1 else 0:=by
  unfold actE;rw [if_neg (by omega),if_neg (by omega),if_neg (by rintro (g | g | g);omega;omega;exact hn g),if_neg (by omega),if_neg (by omega),if_neg (by omega)]
 refine ⟨he,?_⟩;unfold actC;rw [if_neg (by omega)]
 by_cases e:actE x c≠0
 ·rw [if_pos e]
 ·rw [if_neg e,if_neg (by omega),if_neg (by omega),if_neg (by omega),if_neg (by omega)]
theorem Cl.wr {nn:Nat} (h:Cl w s F c t vn L p vq Fs) (hn:nn < c.S.length) {q:Nat} (hq:q=(nda L nn).s) {f r:Int} {x:R4} {e:Ending} (hw:WrC w q (Fs nn) (sat c.S nn).1 (sat c.S nn).2 f r x e w'):DoC w s F { c with S:=setS c.S nn (sA (sat c.S nn).1 f r x,(sat c.S nn).2) } t (if sB (sat c.S nn).1 f r=true then 0 else 3) e w':=by
 subst hq;obtain ⟨h1,h2,h3⟩:=hw;have hl:=h.len;exact ⟨h1,⟨_,_,_,_,_,h.store (i:=nn) (by omega) (x:=(sA (sat c.S nn).1 f r x,(sat c.S nn).2)) h2 h3⟩,h3.mono fun k _ g=>h.ff nn (by omega) k g⟩
set_option maxHeartbeats 2000000 in
theorem cdo_write (h:Cl w s F c t vn L p vq Fs) (x:Ac) (hk:x.k=2) (hn:¬ no c x.n) (hx:okR x.v) (hf:Wf x.f):Calls Tryz.prog 17 #[ptr s,actV x] w (DoC w s F (actC x c) (t+1) (actE x c)):=by
 have B0:=Lib.hid ((Below.refl w.heap.size w).alloc (Nat.le_refl _) (.cells (actA x) 44));have X0:=Lib.hid (heap_alloc_new w (.cells (actA x) 44));have hn':0≤x.n∧x.n < c.S.length:=by unfold no at hn;omega
 obtain ⟨nn,hnn⟩:∃ nn:Nat,(nn:Int)=x.n:=⟨x.n.toNat,by omega⟩;have hnl:nn < c.S.length:=by omega
 obtain ⟨g,cap,rfl,hcap,hm,-⟩:=h.one hnl;have hL:=h.len;have C1:=Lib.hid (chas_in (h.below B0.out) (n:=nn) hnl);rw [hnn] at C1
 have CW:Hid (∀ W,Below (w.alloc (.cells (actA x) 44)).heap.size (w.alloc (.cells (actA x) 44)) W→Calls Tryz.prog 62 #[.pointer (some ⟨g,nn * 3,none⟩),.int .i64 x.f,.int .i64 x.r,rec4 x.v] W (fun e w'=>DoC W s F (actC x c) t (actE x c) e w'∧Only (Fs nn) W w')):=Lib.hid (fun W b=>by
  have hh:=(h.below B0.out).below b;obtain ⟨q0,q1,_⟩:=hh.nod hnl;rw [hh.lv nn (by omega),hnn] at q1;obtain ⟨a1,a2⟩:=act_write hk hn
  cases hv:vat c.V x.n with
  | true =>
    rw [(a1 hv).1,(a1 hv).2];rw [hv] at q1;refine (cwrite_yes (hh.sto hnl) g (nn * 3) q0 q1 (fun e=>(h.off nn (by omega) g e).2.2.1 rfl) hf x.r x.v hx).mono fun e w' hw=>⟨?_,hw.2.2⟩;rw [← hnn];exact hh.wr hnl rfl hw
  | false =>
    rw [(a2 hv).1,(a2 hv).2];rw [hv] at q1;refine (cwrite_no W g (nn * 3) x.f x.r x.v q1).mono fun e w' hw=>?_;obtain ⟨rfl,b'⟩:=hw
    exact ⟨doc_below hh b' 10,Only.of_below b'⟩)
 have NG:Hid (¬ (Fs nn) s∧¬ (Fs nn) w.heap.size):=Lib.hid ⟨fun e=>(h.off nn (by omega) s e).1 rfl,fun e=>by have:=(h.st nn (by omega)).low _ e;omega⟩;have E:=Lib.hid (fun w1 (b:Below w.heap.size w w1) e w' (d:DoC w1 s F (actC x c) t (actE x c) e w')=>(d.pre b h.low).late);have D0:=Lib.hid (fun w1 b=>(h.below (w':=w1) b).cells.1);clear h hn hn' hL;generalize actC x c=c' at *;generalize actE x c=ae at *;generalize hGG:(Fs nn)=GG at *;clear hGG;have HNL:=Lib.hid hnl;have p5:decide (c.S.length≤nn)=false:=decide_eq_false (by omega);generalize c.S.length=ln at *;unfold actV actA at *;unfold ptr at *;obtain ⟨k,n,f,rr,v,s',m,tt⟩:=x;simp only at hk hnn B0 X0 C1 CW E ⊢;subst hk hnn
 (try unfold rec4 at CW)
 go_enter Tryz.func17,Tryz.ntmps17
 go_wp2_with fail;refine C1.out.mono ?_;rintro e w1 ⟨rfl,b1⟩;have BW:=Lib.hid (B0.out.trans (b1.mono B0.out.size));have X1:=Lib.hid ((b1.block _ (lt_of_block X0.out)).trans X0.out);have CX:=Lib.hid (fun W (b:Below w1.heap.size w1 W)=>CW.out W (b1.trans (b.mono b1.size)));have d0:=D0.out w1 BW.out;clear b1 C1 CW D0 X0 B0;generalize hgx:w.heap.size=gx at X1 NG ⊢;have HGX:=Lib.hid hgx;clear hgx;have y0:w1.cell? ⟨gx,0,none⟩=some (.int .i64 2):=row_cell X1.out 0;have Q0:=Lib.hid d0;go_upto_region 12 with fail;clear y0 d0;have BD:=Lib.hid (Below.refl w1.heap.size w1).drew;have OD:Hid (Only GG w1 w1.drew):=Lib.hid (Only.of_below BD.out);have s0:=Sc.cell_in (C:=fun W'=>Only GG w1 W') (a:=⟨s,0,none⟩) (fun W' o=>o.cell Q0.out NG.out.1);have x1:=Sc.cell_in (C:=fun W'=>Only GG w1 W') (a:=⟨gx,1,none⟩) (fun W' o=>o.cell (row_cell X1.out 1) NG.out.2);have x2:=Sc.cell_in (C:=fun W'=>Only GG w1 W') (a:=⟨gx,2,none⟩) (fun W' o=>o.cell (row_cell X1.out 2) NG.out.2);have x3:=Sc.cell_in (C:=fun W'=>Only GG w1 W') (a:=⟨gx,3,none⟩) (fun W' o=>o.cell (row_cell X1.out 3) NG.out.2);have x4:=Sc.cell_in (C:=fun W'=>Only GG w1 W') (a:=⟨gx,4,none⟩) (fun W' o=>o.cell (row_cell X1.out 4) NG.out.2);have x5:=Sc.cell_in (C:=fun W'=>Only GG w1 W') (a:=⟨gx,5,none⟩) (fun W' o=>o.cell (row_cell X1.out 5) NG.out.2);have x6:=Sc.cell_in (C:=fun W'=>Only GG w1 W') (a:=⟨gx,6,none⟩) (fun W' o=>o.cell (row_cell X1.out 6) NG.out.2);have x7:=Sc.cell_in (C:=fun W'=>Only GG w1 W') (a:=⟨gx,7,none⟩) (fun W' o=>o.cell (row_cell X1.out 7) NG.out.2);have ne:Nonempty (Sc.In (fun W'=>Only GG w1 W')):=⟨⟨_,OD.out⟩⟩;have CY:=Lib.hid (CX.out w1.drew BD.out);clear CX Q0;refine Sc.start (fun W'=>Only GG w1 W') [(false,0),(false,1),(false,2),(false,3),(false,4),(false,5),(false,6),(false,7),(false,8),(false,9),(false,10),(false,11),(false,12),(true,13),(false,14)] (by kernel_rfl) (by kernel_rfl) (by kernel_rfl) OD.out ?_;dsimp only [Sd.picks,List.getElem?_cons_succ,List.getElem?_cons_zero]
 iterate 13 (refine Sd.lit ?_;quiet_step (fail);refine wpQuiet_nil ?_)
 clear s0 x1 x2 x3 x4 x5 x6 x7;refine Sd.call (by rfl) (fun K hK=>?_);go_simp;refine CY.out.mono ?_;rintro e w5 ⟨d5,o5⟩;have R:=Lib.hid (E.out w1.drew (BW.out.trans (BD.out.mono BW.out.size)) e w5 d5);obtain ⟨rfl,_,_⟩:=d5;refine hK _ _ (Sc.Cl.of (OD.out.trans o5 fun k _ g=>g)) ?_;clear hK K o5 CY E
 iterate 1 (refine Sd.lit ?_;quiet_step (fail);refine wpQuiet_nil ?_)
 refine Sd.done ?_;go_wp2
 go_ret
 exact R.out
set_option maxHeartbeats 2000000 in
theorem cdo_drift (h:Cl w s F c t vn L p vq Fs) (x:Ac) (hk:x.k=6) (hn:¬ no c x.n):Calls Tryz.prog 17 #[ptr s,actV x] w (DoC w s F (actC x c) (t+1) (actE x c)):=by
 have B0:=Lib.hid ((Below.refl w.heap.size w).alloc (Nat.le_refl _) (.cells (actA x) 44));have X0:=Lib.hid (heap_alloc_new w (.cells (actA x) 44));have hn':0≤x.n∧x.n < c.S.length:=by unfold no at hn;omega
 obtain ⟨nn,hnn⟩:∃ nn:Nat,(nn:Int)=x.n:=⟨x.n.toNat,by omega⟩;have hnl:nn < c.S.length:=by omega
 obtain ⟨g,cap,rfl,hcap,hm,-⟩:=h.one hnl;have hL:=h.len;have C1:=Lib.hid (chas_in (h.below B0.out) (n:=nn) hnl);rw [hnn] at C1
 have CW:Hid (∀ W,Below (w.alloc (.cells (actA x) 44)).heap.size (w.alloc (.cells (actA x) 44)) W→Calls Tryz.prog 65 #[.pointer (some ⟨g,nn * 3,none⟩),.int .i64 x.t] W (fun e w'=>DoC W s F (actC x c) t (actE x c) e w'∧Only (fun k=>k=g) W w')):=Lib.hid (fun W b=>by
  have hh:=(h.below B0.out).below b;obtain ⟨_,_,q2⟩:=hh.nod hnl;obtain ⟨a1,a2⟩:=act_drift hk hn;rw [a1,a2];have fz:W.frozen? ⟨g,nn * 3+2,none⟩=false:=by
   obtain ⟨g',cap',e',_,_,_,_,_,fz⟩:=hh.one hnl;injection e' with e1 _ _;injection e1 with e1;injection e1 with e1 _ _;subst e1;exact fz _
  by_cases hx : -2000≤x.t∧x.t≤2000
  ·rw [if_neg (by omega)]
   refine (cdrift_yes W g (nn * 3) x.t _ q2 fz (cal_of.2 hx)).mono fun e w' hw=>?_;obtain ⟨rfl,rfl⟩:=hw;have z:=hh.setRate rfl hnl hx;exact ⟨doc_of z.1 z.2 0,Only.set (fun k=>k=g) W (a:=⟨g,nn * 3+2,none⟩) rfl _⟩
  ·rw [if_pos (by omega)]
   have hc:cal x.t=false:=by
    cases hc:cal x.t with
    | false=>rfl
    | true=>exact absurd (cal_of.1 hc) hx
   refine (cdrift_no W g (nn * 3) x.t hc).mono fun e w' hw=>?_;obtain ⟨rfl,rfl⟩:=hw
   exact ⟨doc_below hh (Below.refl _ _) 1,Only.refl _ _⟩)
 have NG:Hid (¬ (fun k=>k=g) s∧¬ (fun k=>k=g) w.heap.size):=Lib.hid ⟨fun e=>h.vs.1 (by rw [e];rfl),fun e=>by have:=h.low g (h.fv g (.inl rfl));omega⟩;have E:=Lib.hid (fun w1 (b:Below w.heap.size w w1) e w' (d:DoC w1 s F (actC x c) t (actE x c) e w')=>(d.pre b h.low).late);have D0:=Lib.hid (fun w1 b=>(h.below (w':=w1) b).cells.1);clear h hn hn' hL;generalize actC x c=c' at *;generalize actE x c=ae at *;generalize hGG:(fun k=>k=g)=GG at *;clear hGG;have HNL:=Lib.hid hnl;have p5:decide (c.S.length≤nn)=false:=decide_eq_false (by omega);generalize c.S.length=ln at *;unfold actV actA at *;unfold ptr at *;obtain ⟨k,n,f,rr,v,s',m,tt⟩:=x;simp only at hk hnn B0 X0 C1 CW E ⊢;subst hk hnn
 (try unfold rec4 at CW)
 go_enter Tryz.func17,Tryz.ntmps17
 go_wp2_with fail;refine C1.out.mono ?_;rintro e w1 ⟨rfl,b1⟩;have BW:=Lib.hid (B0.out.trans (b1.mono B0.out.size));have X1:=Lib.hid ((b1.block _ (lt_of_block X0.out)).trans X0.out);have CX:=Lib.hid (fun W (b:Below w1.heap.size w1 W)=>CW.out W (b1.trans (b.mono b1.size)));have d0:=D0.out w1 BW.out;clear b1 C1 CW D0 X0 B0;generalize hgx:w.heap.size=gx at X1 NG ⊢;have HGX:=Lib.hid hgx;clear hgx;have y0:w1.cell? ⟨gx,0,none⟩=some (.int .i64 6):=row_cell X1.out 0;have Q0:=Lib.hid d0;go_upto_region 18 with fail;clear y0 d0;have BD:=Lib.hid (Below.refl w1.heap.size w1).drew;have OD:Hid (Only GG w1 w1.drew):=Lib.hid (Only.of_below BD.out);have s0:=Sc.cell_in (C:=fun W'=>Only GG w1 W') (a:=⟨s,0,none⟩) (fun W' o=>o.cell Q0.out NG.out.1);have x1:=Sc.cell_in (C:=fun W'=>Only GG w1 W') (a:=⟨gx,1,none⟩) (fun W' o=>o.cell (row_cell X1.out 1) NG.out.2);have x10:=Sc.cell_in (C:=fun W'=>Only GG w1 W') (a:=⟨gx,10,none⟩) (fun W' o=>o.cell (row_cell X1.out 10) NG.out.2);have ne:Nonempty (Sc.In (fun W'=>Only GG w1 W')):=⟨⟨_,OD.out⟩⟩;have CY:=Lib.hid (CX.out w1.drew BD.out);clear CX Q0;refine Sc.start (fun W'=>Only GG w1 W') [(false,0),(false,1),(false,2),(false,3),(false,4),(false,5),(false,6),(false,7),(false,8),(true,9),(false,10)] (by kernel_rfl) (by kernel_rfl) (by kernel_rfl) OD.out ?_;dsimp only [Sd.picks,List.getElem?_cons_succ,List.getElem?_cons_zero]
 iterate 9 (refine Sd.lit ?_;quiet_step (fail);refine wpQuiet_nil ?_)
 clear s0 x1 x10;refine Sd.call (by rfl) (fun K hK=>?_);go_simp;refine CY.out.mono ?_;rintro e w5 ⟨d5,o5⟩;have R:=Lib.hid (E.out w1.drew (BW.out.trans (BD.out.mono BW.out.size)) e w5 d5);obtain ⟨rfl,_,_⟩:=d5;refine hK _ _ (Sc.Cl.of (OD.out.trans o5 fun k _ g=>g)) ?_;clear hK K o5 CY E
 iterate 1 (refine Sd.lit ?_;quiet_step (fail);refine wpQuiet_nil ?_)
 refine Sd.done ?_;go_wp2
 go_ret
 exact R.out
theorem cdo_round (h:Cl w s F c t vn L p vq Fs) (ok:OkC c t) (ht:t≤1000) (hg:Glob w) (hG:¬ F 1) (x:Ac) (hk:x.k=1):Calls Tryz.prog 17 #[ptr s,actV x] w (DoC w s F (actC x c) (t+1) (actE x c)):=by
 have B0:=Lib.hid ((Below.refl w.heap.size w).alloc (Nat.le_refl _) (.cells (actA x) 44));have e1:actE x c=rE c:=if_pos hk;have e2:actC x c=rC c:=if_pos hk;rw [e1,e2];have C2:=Lib.hid (cround_any (h.below B0.out) ok ht (hg.below B0.out) hG);have E:=Lib.hid (fun e w' (d:DoC (w.alloc (.cells (actA x) 44)) s F (rC c) (t+1) (rE c) e w')=>d.pre B0.out h.low);clear h ok hg e1 e2;generalize rC c=c' at *;generalize rE c=ae at *;unfold actV actA at *;unfold ptr at *;obtain ⟨k,n,f,rr,v,s',m,tt⟩:=x;simp only at hk B0 C2 E ⊢;subst hk
 go_enter Tryz.func17,Tryz.ntmps17
 go_wp2_with fail;refine C2.out.mono ?_;rintro e w2 d;have G:=Lib.hid (E.out e w2 d);obtain ⟨rfl,_,_⟩:=d;clear E C2;go_wp2
 go_ret
 exact G.out
theorem cdo_any (h:Cl w s F c t vn L p vq Fs) (ok:OkC c t) (sy:Syn c) (ht:t≤1000) (hg:Glob w) (hG:¬ F 1) (x:Ac) (hx:okR x.v) (hf:Wf x.f):Calls Tryz.prog 17 #[ptr s,actV x] w (DoC w s F (actC x c) (t+1) (actE x c)):=by
 by_cases h1:x.k=1
 ·exact cdo_round h ok ht hg hG x h1
 by_cases h3:x.k=3
 ·exact cdo_spoil h ok x h3
 by_cases hn:no c x.n
 ·exact cdo_none h x h1 h3 hn
 by_cases h2:x.k=2
 ·exact cdo_write h x h2 hn hx hf
 by_cases h4:x.k=4
 ·exact cdo_crash h ok sy x h4 hn
 by_cases h5:x.k=5
 ·exact cdo_restart h ok sy x h5 hn
 by_cases h6:x.k=6
 ·exact cdo_drift h x h6 hn
 ·exact cdo_kind h x h1 h3 (by omega) hn
end
end Go.Proofs.YtljnkaodhfnbbaaGreatDoor.Cu
namespace Go.Proofs.YtljnkaodhfnbbaaGreatDoor.Cu
open Go.RowKit
open Rw (Rd Ow At)
open Fl (R4 K4 okL okR z4)
open Fs (Ent Abs St OkA Only Fx E3 Glob Wf FilesPost)
open Pa (ptr sat vat Fls eatF)
open Ck (Hd sl zh)
def CH (w0:World) (s:Nat) (c:Cs) (t:Nat) (W:World):Prop:=∃ F,ClE W s F c t∧(∀ k,F k→w0.heap.size≤k)∧Below w0.heap.size w0 W
section
variable {w0 W w':World} {s t:Nat} {c:Cs}
theorem CH.below (h:CH w0 s c t W) (b:Below W.heap.size W w'):CH w0 s c t w':=by
 obtain ⟨F,⟨vn,L,p,vq,Fs,h1⟩,h2,h3⟩:=h;exact ⟨F,⟨vn,L,p,vq,Fs,h1.below b⟩,h2,h3.trans (b.mono h3.size)⟩
theorem CH.bel (h:CH w0 s c t W):Below w0.heap.size w0 W:=by obtain ⟨_,_,_,h⟩:=h;exact h
theorem ch_do (h:CH w0 s c t W) (hg:Glob w0) (ok:OkC c t) (sy:Syn c) (ht:t≤1000) (x:Ac) (hx:okR x.v) (hf:Wf x.f):Calls Tryz.prog 17 #[ptr s,actV x] W fun e w'=>e = .returned (.int .i64 (actE x c))∧CH w0 s (actC x c) (t+1) w':=by
 obtain ⟨F,⟨vn,L,p,vq,Fs,h1⟩,h2,h3⟩:=h;have gl:=World.block_lt_of_cell? _ _ hg;refine (cdo_any h1 ok sy ht (hg.below h3) (fun g=>by have:=h2 _ g;exact absurd gl (by show ¬ 1 < _;omega)) x hx hf).mono fun e w' d=>⟨d.1,Fx F W w',d.2.1,fun k g=>?_,h3.trans (d.2.2.below h3.size h2)⟩;have:=h3.size
 rcases g with g | g
 ·exact h2 k g
 ·omega
theorem ch_files (h:CH w0 s c t W) {n:Nat} (hn:n < c.S.length):Calls Tryz.prog 21 #[ptr s,.int .i64 n] W (FilesPost W (sat c.S n).1):=by
 obtain ⟨F,⟨vn,L,p,vq,Fs,h1⟩,_,_⟩:=h;exact cfiles_in h1 hn
theorem ch_live (h:CH w0 s c t W) {n:Nat} (hn:n < c.S.length):Calls Tryz.prog 22 #[ptr s,.int .i64 n] W fun e w'=>e = .returned (.bool (vat c.V n))∧Below W.heap.size W w':=by
 obtain ⟨F,⟨vn,L,p,vq,Fs,h1⟩,_,_⟩:=h;exact clive_in h1 hn
theorem ch_role (h:CH w0 s c t W) (n:Int):Calls Tryz.prog 23 #[ptr s,.int .i64 n] W fun e w'=>e = .returned (.int .i64 (Wt.rl c.P n))∧Below W.heap.size W w':=by
 obtain ⟨F,⟨vn,L,p,vq,Fs,h1⟩,_,_⟩:=h;exact crole_any h1 n
theorem ch_place (h:CH w0 s c t W):Calls Tryz.prog 19 #[ptr s] W fun e w'=>e = .returned (.int .i64 c.pl)∧Below W.heap.size W w':=by
 obtain ⟨F,⟨vn,L,p,vq,Fs,h1⟩,_,_⟩:=h;exact cplace_any h1
theorem ch_nodes (h:CH w0 s c t W):Calls Tryz.prog 16 #[ptr s] W fun e w'=>e = .returned (.int .i64 c.S.length)∧Below W.heap.size W w':=by
 obtain ⟨F,⟨vn,L,p,vq,Fs,h1⟩,_,_⟩:=h;exact cnodes_any h1
theorem ch_new {v:Value} {L:List PlD} {B:Nat} (H:Pls W v L B) (e0:newE (pls L)=0) (b:Below w0.heap.size w0 W):Calls Tryz.prog 12 #[v] W fun e w'=>∃ s,e = .returned (.tuple #[.pointer (some ⟨s,0,none⟩),.int .i64 0])∧CH w0 s (newC (pls L)) 0 w':=by
 refine (cnew_any H).mono fun e w' d=>?_;obtain ⟨b',⟨_,s,F,rfl,cl,lo⟩ | ⟨h,_⟩⟩:=d
 ·exact ⟨s,rfl,F,cl,fun k g=>Nat.le_trans b.size (lo k g),b.trans (b'.mono b.size)⟩
 ·exact absurd e0 h
theorem new_no {v:Value} {L:List PlD} {B:Nat} {z:Int} (H:Pls W v L B) (e0:newE (pls L)=z) (hz:z≠0):Calls Tryz.prog 12 #[v] W fun e w'=>e = .returned (.tuple #[.pointer none,.int .i64 z])∧Below W.heap.size W w':=by
 refine (cnew_any H).mono fun e w' d=>?_;obtain ⟨b',⟨h,_⟩ | ⟨_,rfl⟩⟩:=d
 ·exact absurd (e0.symm.trans h) hz
 ·exact ⟨by rw [e0],b'⟩
end
theorem fls_of {w:World} {v:Value} {L:List Ent} (rd:Rd E3 w v L) (each:∀ c∈L,Rd K4 w c.sl c.l∧okL c.l):Fls w v L w.heap.size:=by
 have at_:∀ i,i < L.length→eatF L i∈L:=fun i hi=>by
  unfold eatF;rw [List.getD_eq_getElem?_getD,List.getElem?_eq_getElem hi];exact List.getElem_mem hi
 exact ⟨rd,fun i hi=>each _ (at_ i hi),fun i hi h0 k hk=>Fs.rd_low (each _ (at_ i hi)).1 h0 k hk⟩
theorem pls_of {w:World} {v:Value} {L:List PlD} (rd:Rd KP w v L) (each:∀ c∈L,Fls w (sl c.files) c.F w.heap.size):Pls w v L w.heap.size:=by
 refine ⟨rd,fun i hi=>each _ ?_⟩;unfold pld;rw [List.getD_eq_getElem?_getD,List.getElem?_eq_getElem hi];exact List.getElem_mem hi
theorem run_buildB (k:Int) (w:World):(Instr.build 44 #[(0,.int .i64 k)]).run Tryz.prog w = .ok (.agg #[.int .i64 k,.int .i64 0,.int .i64 0,.int .i64 0,.int .u8 0,.int .u8 0,.int .u8 0,.int .u8 0,.int .i64 0,.int .i64 0,.int .i64 0]) w:=by kernel_rfl
end Go.Proofs.YtljnkaodhfnbbaaGreatDoor.Cu
namespace Go.Proofs.YtljnkaodhfnbbaaGreatDoor.Pa
open Go.RowKit Go.Maps
open Rw (Rd Ow At)
open Ro (E5 z5 K5 ent)
open Ck (sto5 sto5_row sto5_below RowE)
open Fl (row_cell row_frozen)
theorem cut_any {α:Type} {K:Rw.Kind α} {w:World} {v:Value} {l:List α} {a:Option Addr} {n cap k:Nat} (R:Rd K w v l) (e:v = .slice a n cap) (hk:k≤l.length) (h0:0 < k):Rd K w (.slice a k cap) (l.take k):=by
 obtain ⟨a',cap',e',⟨h1,h2⟩,h3,h4⟩:=R;rw [e] at e';injection e' with e1 e2 e3;subst e1 e3;have hl:(l.take k).length=k:=by rw [List.length_take];omega
 refine ⟨a,cap,by rw [hl],⟨by rw [hl];omega,h2⟩,h3,fun _=>?_⟩;obtain ⟨b,off,rfl,hA⟩:=h4 (by omega);refine ⟨b,off,rfl,fun i hi j u hu=>?_⟩;rw [hl] at hi;refine hA i (by omega) j u ?_;rw [← hu,List.getD,List.getD,List.getElem?_take,if_pos hi]
end Go.Proofs.YtljnkaodhfnbbaaGreatDoor.Pa
namespace Go.Proofs.YtljnkaodhfnbbaaGreatDoor.Cu
open Go.RowKit
open Rw (Rd Ow At)
open Fl (R4 K4 okL row_cell row_frozen)
open Fs (Ent E3 at3 Abs Fil Only ow_only)
open Pa (Fls eatF push_at only_grown cut_any)
open Ck (Hd sl zh)
attribute [local irreducible] Sd.wpSd wpQuiet
def cutE (e:Ent):Ent:={ e with l:=e.l.take 260 }
def cutP (p:Pl):Pl:=((p.1.take 12).map fun e=>(e.1,e.2.1,e.2.2.take 260),p.2)
def fewP (l:List Pl):List Pl:=(l.take 6).map cutP
theorem infoE3n:(Tryz.prog.info? 72).map (fun i=>(i.zero,i.size,i.bytes))=some (some (.agg #[.int .i64 0,.int .i64 0,.slice none 0 0]),3,40):=by kernel_rfl
theorem infoPl:(Tryz.prog.info? 60).map (fun i=>(i.zero,i.size,i.bytes))=some (some (.agg #[.slice none 0 0,.int .i64 0]),2,32):=by kernel_rfl
def FwPost (w:World) (B:Nat) (L:List PlD) (e:Ending) (w':World):Prop:=∃ v L',e = .returned v∧Pls w' v L' B∧pls L'=fewP (pls L)∧Below w.heap.size w w'
theorem rd_cut {w:World} {a:Option Addr} {cap:Nat} {l:List R4} (h:Rd K4 w (.slice a l.length cap) l):Rd K4 w (.slice a (l.take 260).length cap) (l.take 260):=by
 by_cases h1:260≤l.length
 ·have e:(l.take 260).length=260:=by rw [List.length_take];omega
  rw [e];exact cut_any h rfl h1 (by decide)
 ·rw [List.take_of_length_le (by omega)]
  exact h
structure FQI (wo:World) (c:PlD) (m g5 g6:Nat) (fa:Option Addr) (fc:Nat) (j:Nat) (o:Value) (wr:World):Prop where
 row5:wr.heap[g5]? = some (.cells #[.slice fa m fc,.int .i64 c.rate] 60 (0,0))
 row6:wr.heap[g6]? = some (.cells #[o,.int .i64 c.rate] 60 (0,0))
 own:Ow E3 wr wo.heap.size 72 o ((c.F.take j).map cutE)
 bel:Below wo.heap.size wo wr
 lo:wo.heap.size≤g5∧wo.heap.size≤g6∧g5≠g6
section
variable {wo wr w2:World} {c:PlD} {m g5 g6 fc j:Nat} {fa:Option Addr} {o o':Value}
theorem FQI.below (h:FQI wo c m g5 g6 fa fc j o wr) (b:Below wr.heap.size wr w2):FQI wo c m g5 g6 fa fc j o w2:=⟨(b.block _ (lt_of_block h.row5)).trans h.row5,(b.block _ (lt_of_block h.row6)).trans h.row6,h.own.keep b,h.bel.trans (b.mono h.bel.size),h.lo⟩
theorem FQI.off (h:FQI wo c m g5 g6 fa fc j o wr) {gx:Nat} (h0:wo.heap.size≤gx) (h5:gx≠g5) (h6:gx≠g6) (ho:o.ownBlock≠some gx) (k:Nat) (u:Value):FQI wo c m g5 g6 fa fc j o (wr.setCell ⟨gx,k,none⟩ u) :=
 ⟨(Below.heap_setCell wr ⟨gx,k,none⟩ u g5 (fun e=>h5 e.symm)).trans h.row5,(Below.heap_setCell wr ⟨gx,k,none⟩ u g6 (fun e=>h6 e.symm)).trans h.row6,h.own.off (p:=⟨gx,k,none⟩) ho u,h.bel.setCell h0 u,h.lo⟩
theorem FQI.push (h:FQI wo c m g5 g6 fa fc j o wr) {x:Ent} (hx:c.F[j]? = some x) (own:Ow E3 w2 wo.heap.size 72 o' ((c.F.take j).map cutE ++ [cutE x])) (gr:wr.grownBy w2 o.ownBlock):w2.heap[g6]? = some (.cells #[o,.int .i64 c.rate] 60 (0,0))∧FQI wo c m g5 g6 fa fc (j+1) o' (w2.setCell ⟨g6,0,none⟩ o'):=by
 have r5:w2.heap[g5]? = some (.cells #[.slice fa m fc,.int .i64 c.rate] 60 (0,0)):=(gr.block g5 (lt_of_block h.row5) (fun e=>h.own.apart h.row5 (by decide) e.symm)).trans h.row5;have r6:w2.heap[g6]? = some (.cells #[o,.int .i64 c.rate] 60 (0,0)):=(gr.block g6 (lt_of_block h.row6) (fun e=>h.own.apart h.row6 (by decide) e.symm)).trans h.row6;have b2:Below wo.heap.size wo w2:=h.bel.grown gr h.bel.size fun j e=>(World.ownsRow.lt h.own j e).1;have e:(c.F.take (j+1)).map cutE=(c.F.take j).map cutE ++ [cutE x]:=by rw [List.take_add_one,hx,List.map_append];rfl
 refine ⟨r6,(Below.heap_setCell w2 ⟨g6,0,none⟩ o' g5 h.lo.2.2).trans r5,Rw.heap_setCell_same (j:=0) r6 o',?_,b2.setCell h.lo.2.1 _,h.lo⟩;rw [e];exact own.far (p:=⟨g6,0,none⟩) r6 (by decide) _
end
theorem cutE_own (x:Ent):(cutE x).sl.ownBlock=x.sl.ownBlock:=by
 obtain ⟨n,p,a,cap,l⟩:=x;unfold cutE Ent.sl
 cases a <;> rfl
def ROk (w:World) (B:Nat) (e:Ent):Prop:=(Rd K4 w e.sl e.l∧okL e.l)∧(0 < e.l.length→∀ k,e.sl.ownBlock=some k→k < B)
theorem fls_ofB {w:World} {v:Value} {L:List Ent} {B:Nat} (rd:Rd E3 w v L) (each:∀ c∈L,ROk w B c):Fls w v L B:=by
 have at_:∀ i,i < L.length→eatF L i∈L:=fun i hi=>by
  unfold eatF;rw [List.getD_eq_getElem?_getD,List.getElem?_eq_getElem hi];exact List.getElem_mem hi
 exact ⟨rd,fun i hi=>(each _ (at_ i hi)).1,fun i hi h0 k hk=>(each _ (at_ i hi)).2 h0 k hk⟩
theorem pls_ofB {w:World} {v:Value} {L:List PlD} {B:Nat} (rd:Rd KP w v L) (each:∀ c∈L,Fls w (sl c.files) c.F B):Pls w v L B:=by
 refine ⟨rd,fun i hi=>each _ ?_⟩;unfold pld;rw [List.getD_eq_getElem?_getD,List.getElem?_eq_getElem hi];exact List.getElem_mem hi
structure FWI (w:World) (B:Nat) (L:List PlD) (k:Nat) (o:Value) (LD:List PlD) (wr:World):Prop where
 own:Ow KP wr w.heap.size 60 o LD
 len:LD.length=k
 fil:∀ c∈LD,Ow E3 wr w.heap.size 72 (sl c.files) c.F
 rec_:∀ c∈LD,∀ e∈c.F,ROk w B e
 abs:pls LD=((pls L).take k).map cutP
 bel:Below w.heap.size w wr
section
variable {w wr w2:World} {B:Nat} {L LD:List PlD} {k:Nat} {o o':Value} {x:PlD}
theorem FWI.below (h:FWI w B L k o LD wr) (b:Below wr.heap.size wr w2):FWI w B L k o LD w2:=⟨h.own.keep b,h.len,fun c hc=>(h.fil c hc).keep b,h.rec_,h.abs,h.bel.trans (b.mono h.bel.size)⟩
theorem FWI.push (h:FWI w B L k o LD wr) (hk:k < L.length) (own:Ow KP w2 w.heap.size 60 o' (LD ++ [x])) (gr:wr.grownBy w2 o.ownBlock) (fx:Ow E3 wr w.heap.size 72 (sl x.files) x.F) (rx:∀ e∈x.F,ROk w B e) (ax:x.abs=cutP (pld L k).abs):FWI w B L (k+1) o' (LD ++ [x]) w2:=by
 have oq:=only_grown gr;refine ⟨own,by rw [List.length_append,h.len];rfl,fun c hc=>?_,fun c hc=>?_,?_,h.bel.grown gr h.bel.size fun j e=>(World.ownsRow.lt h.own j e).1⟩
 ·rcases List.mem_append.1 hc with hc | hc
  ·exact ow_only (h.fil c hc) (fun k e=>Pa.ow_apart (h.fil c hc) h.own (by decide) k e) oq
  ·rw [List.mem_singleton.1 hc]
   exact ow_only fx (fun k e=>Pa.ow_apart fx h.own (by decide) k e) oq
 ·rcases List.mem_append.1 hc with hc | hc
  ·exact h.rec_ c hc
  ·rw [List.mem_singleton.1 hc]
   exact rx
 ·have e1:pls (LD ++ [x])=pls LD ++ [x.abs]:=by unfold pls;rw [List.map_append];rfl
  have e2:(pls L).take (k+1)=(pls L).take k ++ [(pld L k).abs]:=by
   rw [List.take_add_one];have:(pls L)[k]? = some (pld L k).abs:=by
    unfold pls pld;rw [List.getElem?_map,List.getElem?_eq_getElem hk,List.getD_eq_getElem?_getD,List.getElem?_eq_getElem hk]
    rfl
   rw [this]
   rfl
  rw [e1,e2,List.map_append,h.abs,ax]
  rfl
theorem FWI.fin (h:FWI w B L k o LD wr) (hk:k=L.length∨k=6) (h6:k≤6):FwPost w B L (.returned o) wr:=by
 refine ⟨o,LD,rfl,pls_ofB h.own.rd fun c hc=>fls_ofB (h.fil c hc).rd fun e he=>⟨⟨(h.rec_ c hc e he).1.1.below h.bel,(h.rec_ c hc e he).1.2⟩,(h.rec_ c hc e he).2⟩,?_,h.bel⟩;rw [h.abs];unfold fewP
 congr 1
 rcases hk with e | e
 ·rw [List.take_of_length_le (by rw [pls_len];omega),List.take_of_length_le (by rw [pls_len];omega)]
 ·rw [e]
end
theorem cut_abs (c:PlD) (h:Hd):(⟨h,c.rate,(c.F.take 12).map cutE⟩:PlD).abs=cutP c.abs:=by
 show (((c.F.take 12).map cutE).map Ent.abs,c.rate)=(((c.F.map Ent.abs).take 12).map _,c.rate)
 rw [← List.map_take,List.map_map,List.map_map]
 rfl
set_option maxHeartbeats 8000000 in
theorem few20_any {w:World} {v:Value} {L:List PlD} {B:Nat} (H:Pls w v L B):Calls Tryz.prog 13 #[v] w (FwPost w B L):=by
 have HF:=Lib.hid H.file;obtain ⟨a,cap,rfl,_,hm,h3⟩:=H.rd;have H3:=Lib.hid h3;clear h3 H;unfold maxLen at hm;have FIN:Hid (∀ k o LD wr,FWI w B L k o LD wr→k=L.length∨k=6→k≤6→FwPost w B L (.returned o) wr):=Lib.hid (fun k o LD wr I h1 h2=>I.fin h1 h2);have I0:Hid (FWI w B L 0 (.slice (some ⟨w.heap.size,0,none⟩) 0 0) [] (w.alloc (.cells #[] 60))):=Lib.hid ⟨Rw.Ow.made _ _ _ (Nat.le_refl _),rfl,fun c hc=>(List.not_mem_nil hc).elim,fun c hc=>(List.not_mem_nil hc).elim,rfl,(Below.refl _ _).alloc (Nat.le_refl _) _⟩;generalize hn:L.length=n at *;have HN:=Lib.hid hn;clear hn
 go_enter Tryz.func13,Tryz.ntmps13
 go_wp2
 go_loopw [4,3] (fun i o wr=>∃ (k:Nat) (LD:List PlD) (p1:Value),k≤n∧k≤6∧i = .int .i64 k∧p1=o∧Hid (FWI w B L k o LD wr)) (fun i _ _=>6 - (intOf i).toNat)
 case atStart=>exact ⟨0,[],_,Nat.zero_le _,Nat.zero_le _,rfl,rfl,by simpa using I0⟩
 case round =>
  clear I0;obtain ⟨k,LD,o,hk,hk6,rfl,rfl,I⟩:=hrel
  by_cases hlt:k < n∧k < 6
  ·obtain ⟨hlt,h6⟩:=hlt
   have hkL:k < L.length:=by have:=HN.out;omega
   obtain ⟨b,off,rfl,hA⟩:=H3.out (by omega);obtain ⟨x0,x1⟩:=at_pl (hA.below I.out.bel) hkL;have HAA:=Lib.hid hA;have FK:=Lib.hid (HF.out k hlt);have KL:=Lib.hid hkL;have LDL:=Lib.hid I.out.len;clear hA hkL;obtain ⟨ao,co,eo,-,-⟩:=I.out.own.slice;generalize LD.length=ln at eo;subst eo;generalize hc:pld L k=c at *;have HC:=Lib.hid hc;clear hc;obtain ⟨fa0,fc0,es,hmf⟩:=FK.out.rd.slice;have ES:=Lib.hid es;rw [es] at x0;clear es;have Y0:=Lib.hid (heap_alloc_new wr (.cells #[.slice fa0 c.F.length fc0,.int .i64 c.rate] 60));have BN:=Lib.hid ((Below.refl wr.heap.size wr).alloc (Nat.le_refl _) (.cells #[.slice fa0 c.F.length fc0,.int .i64 c.rate] 60))
   have FCAP:Hid (c.F.length≤fc0):=Lib.hid (by
    obtain ⟨_,_,e,q,_⟩:=FK.out.rd;rw [ES.out] at e;injection e with _ _ e
    omega)
   unfold maxLen at hmf
   go_upto_if 27 with fail
   clear x0 x1;generalize (wr.alloc (.cells #[.slice fa0 c.F.length fc0,.int .i64 c.rate] 60))=W5 at *;have z0:W5.cell? ⟨wr.heap.size,0,none⟩=some (.slice fa0 c.F.length fc0):=row_cell Y0.out 0;have f0:=row_frozen Y0.out 0
   go_cut [4] from 10 to 67 (fun z wx=>Value.int .i64 k=z∧Hid (Below wr.heap.size wr wx∧wx.heap[wr.heap.size]? = some (.cells #[.slice fa0 (c.F.take 12).length fc0,.int .i64 c.rate] 60 (0,0))))
   case first =>
    by_cases hl:12 < c.F.length
    ·have e12:(c.F.take 12).length=12:=by rw [List.length_take];omega
     have q1:decide (12 < (c.F.length:Int))=true:=decide_eq_true (by omega);have fcap:=FCAP.out
     have P:Hid (Below wr.heap.size wr (W5.setCell ⟨wr.heap.size,0,none⟩ (.slice fa0 12 fc0))∧(W5.setCell ⟨wr.heap.size,0,none⟩ (.slice fa0 12 fc0)).heap[wr.heap.size]? = some (.cells #[.slice fa0 (c.F.take 12).length fc0,.int .i64 c.rate] 60 (0,0))):=Lib.hid (by
      rw [e12]
      exact ⟨BN.out.setCell (Nat.le_refl _) (.slice fa0 12 fc0),Rw.heap_setCell_same (j:=0) Y0.out (.slice fa0 12 fc0)⟩)
     clear e12 Y0 BN;generalize (c.F.take 12).length=fm at *;generalize c.F.length=fl at *;go_wp2
     go_meet
     exact ⟨rfl,P.out.1,P.out.2⟩
    ·have e12:c.F.take 12=c.F:=List.take_of_length_le (by omega)
     have q1:decide (12 < (c.F.length:Int))=false:=decide_eq_false (by omega);have q2:decide (12 < c.F.length)=false:=decide_eq_false (by omega)
     have P:Hid (Below wr.heap.size wr W5∧W5.heap[wr.heap.size]? = some (.cells #[.slice fa0 (c.F.take 12).length fc0,.int .i64 c.rate] 60 (0,0))):=Lib.hid (by
      rw [e12]
      exact ⟨BN.out,Y0.out⟩)
     clear e12 Y0 BN;generalize (c.F.take 12).length=fm at *;generalize c.F.length=fl at *;go_wp2
     go_meet
     exact ⟨rfl,P.out.1,P.out.2⟩
   case rest =>
    obtain ⟨e1,P⟩:=hcut;subst e1;clear z0 f0 Y0 BN
    have FR:=Lib.hid (fun e (he:e∈c.F)=>(by
     obtain ⟨i,hi⟩:=List.getElem?_of_mem he;have hl:=(List.getElem?_eq_some_iff.1 hi).1;have q:=FK.out.file i hl;have q2:=FK.out.low i hl;unfold eatF at q q2;rw [List.getD_eq_getElem?_getD,hi] at q q2
     exact ⟨q,q2⟩:ROk w B e))
    have FH:Hid (0 < c.F.length→∃ b off,fa0=some ⟨b,off,none⟩∧At E3 w b off c.F):=Lib.hid (by
     obtain ⟨a',cap',e',_,_,h3⟩:=FK.out.rd;rw [ES.out] at e';injection e' with e1 _ _;subst e1
     exact h3)
    have MF:Hid ((c.F.take 12).length≤c.F.length∧(c.F.take 12).length≤12):=Lib.hid (by rw [List.length_take];omega)
    have TT:Hid ((c.F.take 12).map cutE=(c.F.take (c.F.take 12).length).map cutE):=Lib.hid (by
     congr 1
     rw [List.length_take]
     by_cases h:12≤c.F.length
     ·rw [Nat.min_eq_left h]
     ·rw [Nat.min_eq_right (by omega),List.take_of_length_le (by omega),List.take_length])
    generalize (c.F.take 12).length=m at *;obtain ⟨wo,hwo⟩:∃ x,x=wr:=⟨_,rfl⟩;have IW:Hid (FWI w B L k (.slice ao ln co) LD wo):=Lib.hid (by rw [hwo];exact I.out);rw [← hwo] at P;rw [← hwo];clear I hwo
    rename_i W5x
    have x5r:wc.cell? ⟨wo.heap.size,1,none⟩=some (.int .i64 c.rate):=row_cell P.out.2 1
    have Q0:Hid (FQI wo c m wo.heap.size wc.heap.size fa0 fc0 0 (.slice none 0 0) (wc.alloc (.cells #[.slice none 0 0,.int .i64 c.rate] 60))):=Lib.hid (by
     have b6:=(Below.refl wc.heap.size wc).alloc (Nat.le_refl _) (.cells #[.slice none 0 0,.int .i64 c.rate] 60);have zz:=P.out.1.size;have zl:=lt_of_block P.out.2
     exact ⟨(b6.block _ zl).trans P.out.2,heap_alloc_new wc _,Rw.Ow.nil _ _ _,P.out.1.trans (b6.mono zz),Nat.le_refl _,zz,by omega⟩)
    go_upto_region 9 with fail;clear x5r P;generalize (wc.alloc (.cells #[.slice none 0 0,.int .i64 c.rate] 60))=w6 at *;generalize wc.heap.size=g6 at *;generalize wo.heap.size=g5 at Q0 ⊢;go_wp2
    go_loopw [7] (fun i wr2=>∃ (j:Nat) (o2:Value),j≤m∧i = .int .i64 j∧Hid (FQI wo c m g5 g6 fa0 fc0 j o2 wr2)) (fun i _=>m - (intOf i).toNat)
    case atStart=>exact ⟨0,_,Nat.zero_le _,rfl,Q0⟩
    case round =>
     clear Q0;obtain ⟨j,o2,hj,rfl,Q⟩:=hrel;have p0:wr.cell? ⟨g5,0,none⟩=some (.slice fa0 m fc0):=row_cell Q.out.row5 0
     by_cases hjm:j < m
     ·have hjF:j < c.F.length:=by have:=MF.out;omega
      have hc:c.F[j]? = some (eatF c.F j):=by
       unfold eatF;rw [List.getElem?_eq_getElem hjF,List.getD_eq_getElem?_getD,List.getElem?_eq_getElem hjF]
       rfl
      obtain ⟨b2,off2,rfl,hA⟩:=FH.out (by omega);obtain ⟨y0,y1,y2⟩:=at3 (hA.below (IW.out.bel.trans (Q.out.bel.mono IW.out.bel.size))) hc;have HAA2:=Lib.hid hA;have RR:=Lib.hid (FR.out _ (List.mem_of_getElem? hc)).1;have HCJ:=Lib.hid hc;clear hA hc hjF;generalize eatF c.F j=x at *;obtain ⟨cn,cp,ca,ccap,cl⟩:=x;unfold Ent.sl at y2;simp only at y0 y1 y2;have Y1:=Lib.hid (heap_alloc_new wr (.cells #[.int .i64 cn,.int .i64 cp,.slice ca cl.length ccap] 72));have BN2:=Lib.hid ((Below.refl wr.heap.size wr).alloc (Nat.le_refl _) (.cells #[.int .i64 cn,.int .i64 cp,.slice ca cl.length ccap] 72))
      have CAPC:Hid (cl.length≤ccap):=Lib.hid (by
       obtain ⟨_,_,e,q,_⟩:=RR.out.1;unfold Ent.sl at e;simp only at e q;injection e with _ _ e;rw [e]
       exact q.1)
      have CLM:Hid (ccap≤maxLen):=Lib.hid (by
       obtain ⟨_,_,e,_,q,_⟩:=RR.out.1;unfold Ent.sl at e;simp only at e;injection e with _ _ e;rw [e]
       exact q)
      have R26:=Lib.hid (rd_cut (l:=cl) (a:=ca) (cap:=ccap) RR.out.1);have Q7:=Lib.hid (Q.out.below BN2.out);have GX:Hid (wo.heap.size≤wr.heap.size∧wr.heap.size≠g6∧wr.heap.size≠g5∧o2.ownBlock≠some wr.heap.size):=Lib.hid ⟨Q.out.bel.size,fun e=>by have:=lt_of_block Q.out.row6;omega,fun e=>by have:=lt_of_block Q.out.row5;omega,fun e=>by have:=(World.ownsRow.lt Q.out.own _ e).2;omega⟩
      go_upto_if 51 with fail
      clear y0 y1 y2 p0;generalize (wr.alloc (.cells #[.int .i64 cn,.int .i64 cp,.slice ca cl.length ccap] 72))=W7 at *;clear Q BN2;generalize wr.heap.size=gx at *;have z2:W7.cell? ⟨gx,2,none⟩=some (.slice ca cl.length ccap):=row_cell Y1.out 2;have f2:=row_frozen Y1.out 2
      go_cut [7] from 35 to 63 (fun z wx=>Value.int .i64 j=z∧Hid (wx.heap[gx]? = some (.cells #[.int .i64 cn,.int .i64 cp,.slice ca (cl.take 260).length ccap] 72 (0,0))∧FQI wo c m g5 g6 (some ⟨b2,off2,none⟩) fc0 j o2 wx))
      case first =>
       by_cases hl:260 < cl.length
       ·have e12:(cl.take 260).length=260:=by rw [List.length_take];omega
        have q1:decide (260 < (cl.length:Int))=true:=decide_eq_true (by omega);have capc:=CAPC.out;have clm:=CLM.out;unfold maxLen at clm
        have P:Hid ((W7.setCell ⟨gx,2,none⟩ (.slice ca 260 ccap)).heap[gx]? = some (.cells #[.int .i64 cn,.int .i64 cp,.slice ca (cl.take 260).length ccap] 72 (0,0))∧FQI wo c m g5 g6 (some ⟨b2,off2,none⟩) fc0 j o2 (W7.setCell ⟨gx,2,none⟩ (.slice ca 260 ccap))):=Lib.hid (by
         rw [e12]
         exact ⟨Rw.heap_setCell_same (j:=2) Y1.out _,Q7.out.off GX.out.1 GX.out.2.2.1 GX.out.2.1 GX.out.2.2.2 2 _⟩)
        clear e12 Y1 Q7 RR R26 HCJ;generalize (cl.take 260).length=fm at *;generalize cl.length=fl at *;go_wp2
        go_meet
        exact ⟨rfl,P⟩
       ·have e12:cl.take 260=cl:=List.take_of_length_le (by omega)
        have q1:decide (260 < (cl.length:Int))=false:=decide_eq_false (by omega);have q2:decide (260 < cl.length)=false:=decide_eq_false (by omega)
        have P:Hid (W7.heap[gx]? = some (.cells #[.int .i64 cn,.int .i64 cp,.slice ca (cl.take 260).length ccap] 72 (0,0))∧FQI wo c m g5 g6 (some ⟨b2,off2,none⟩) fc0 j o2 W7):=Lib.hid (by
         rw [e12]
         exact ⟨Y1.out,Q7.out⟩)
        clear e12 Y1 Q7 RR R26 HCJ;generalize (cl.take 260).length=fm at *;generalize cl.length=fl at *;go_wp2
        go_meet
        exact ⟨rfl,P⟩
      case rest =>
       obtain ⟨e1,P⟩:=hcut;subst e1;clear z2 f2 Y1 Q7;have X8:=Lib.hid P.out.1;have Q8:=Lib.hid P.out.2;clear P;obtain ⟨oa,oc,eo,-,-⟩:=Q8.out.own.slice;have FLN:Hid (((c.F.take j).map cutE).length≤12):=Lib.hid (by rw [List.length_map,List.length_take];have:=MF.out;omega);generalize ((c.F.take j).map cutE).length=fln at eo;subst eo;have c6:wc.cell? ⟨g6,0,none⟩=some (.slice oa fln oc):=row_cell Q8.out.row6 0;have z0:wc.cell? ⟨gx,0,none⟩=some (.int .i64 cn):=row_cell X8.out 0;have z1:wc.cell? ⟨gx,1,none⟩=some (.int .i64 cp):=row_cell X8.out 1;have z2:wc.cell? ⟨gx,2,none⟩=some (.slice ca (cl.take 260).length ccap):=row_cell X8.out 2;have LE:=Lib.hid (heap_alloc_new wc (.cells #[.int .i64 cn,.int .i64 cp,.slice ca (cl.take 260).length ccap] 72));have QE:=Lib.hid (Q8.out.below ((Below.refl wc.heap.size wc).alloc (Nat.le_refl _) (.cells #[.int .i64 cn,.int .i64 cp,.slice ca (cl.take 260).length ccap] 72)));have CE:Hid (cutE ⟨cn,cp,ca,ccap,cl⟩=⟨cn,cp,ca,ccap,cl.take 260⟩):=Lib.hid rfl;clear Q8 X8;generalize hcr:cl.take 260=cr26 at *;generalize hrl:cr26.length=rl at *;have RLH:=Lib.hid hrl;clear hcr hrl
       go_wp2_with (at_builtin;refine push_at (K:=E3) Tryz.underlying47 infoE3n rfl (by omega) rfl _ _ rfl wo.heap.size _ _ rfl QE.out.own _ (⟨cn,cp,ca,ccap,cr26⟩:Ent) rfl ?d1 ?d2 ?d3 ?_)
       case d1 =>
        intro jj u hu
        have c:=row_cell LE.out jj
        match jj,hu with
        | 0,hu=>simp [E3] at hu;subst hu;first | exact c | rfl | go_simp
        | 1,hu=>simp [E3] at hu;subst hu;first | exact c | rfl | go_simp
        | 2,hu=>simp [E3,Ent.sl,RLH.out] at hu;subst hu;first | exact c | rfl | go_simp
        | jj+3,hu=>simp [E3] at hu
       case d2=>first | (have:=FLN.out;omega) | (have:=FLN.out;simp only [List.length_map] at this ⊢;omega) | (have:=FLN.out;simp at this ⊢;omega)
       case d3=>have:=QE.out.bel.size;simpa using this
       intro v9 w9 o9 g9 _
       rw [← CE.out] at o9
       (try rw [← List.map_take] at o9)
       obtain ⟨r9,q9⟩:=QE.out.push HCJ.out o9 (by simpa using g9);have Q9:=Lib.hid q9;have c6':=row_cell r9 0;have f6':=row_frozen r9 0;obtain ⟨v9a,v9c,n9,rfl⟩:∃ a c n,v9 = .slice a n c:=by obtain ⟨a,c,e,_⟩:=o9.slice;exact ⟨a,c,_,e⟩
       have m12:=MF.out.2;clear o9 g9 r9 q9 QE LE z0 z1 z2 c6 RR R26 HCJ CE;go_wp2
       go_roundw
       case rel=>exact ⟨j+1,_,by omega,by go_num,Q9⟩
       case measure=>simp [intOf];omega
     ·obtain rfl:j=m:=by omega
      obtain ⟨oa,oc,eo,-,-⟩:=Q.out.own.slice;have HO:=Lib.hid eo;generalize ((c.F.take j).map cutE).length=fln at eo HO;subst eo;have c60:wr.cell? ⟨g6,0,none⟩=some (.slice oa fln oc):=row_cell Q.out.row6 0;have c61:wr.cell? ⟨g6,1,none⟩=some (.int .i64 c.rate):=row_cell Q.out.row6 1;have IR:=Lib.hid (IW.out.below (Q.out.bel.mono (Nat.le_refl _)));have LE:=Lib.hid (heap_alloc_new wr (.cells #[.slice oa fln oc,.int .i64 c.rate] 60));have BE:=Lib.hid ((Below.refl wr.heap.size wr).alloc (Nat.le_refl _) (.cells #[.slice oa fln oc,.int .i64 c.rate] 60));have IE:=Lib.hid (IR.out.below BE.out);have FX:Hid (Ow E3 (wr.alloc (.cells #[.slice oa fln oc,.int .i64 c.rate] 60)) w.heap.size 72 (sl (oa,fln,oc)) ((c.F.take 12).map cutE)):=Lib.hid (by rw [TT.out];exact (Q.out.own.keep BE.out).low IW.out.bel.size)
      have RX:Hid (∀ e∈(c.F.take 12).map cutE,ROk w B e):=Lib.hid (fun e he=>by
       obtain ⟨x,hx,rfl⟩:=List.mem_map.1 he;have q:=FR.out x (List.mem_of_mem_take hx)
       exact ⟨⟨rd_cut (l:=x.l) q.1.1,fun r hr=>q.1.2 r (List.mem_of_mem_take hr)⟩,fun h0 k hk=>q.2 (by have h1:0 < (x.l.take 260).length:=h0;rw [List.length_take] at h1;omega) k (by rw [← cutE_own x];exact hk)⟩)
      have AX:Hid ((⟨(oa,fln,oc),c.rate,(c.F.take 12).map cutE⟩:PlD).abs=cutP (pld L k).abs):=Lib.hid (by rw [HC.out];exact cut_abs c _);clear Q IR BE
      go_wp2_with (at_builtin;refine push_at (K:=KP) Tryz.underlying22 infoPl rfl (by omega) rfl _ _ rfl w.heap.size _ _ rfl IE.out.own _ (⟨(oa,fln,oc),c.rate,(c.F.take 12).map cutE⟩:PlD) rfl ?d1 ?d2 ?d3 ?_)
      case d1 =>
       intro jj u hu
       have c:=row_cell LE.out jj
       match jj,hu with
       | 0,hu=>simp [KP,sl] at hu;subst hu;first | exact c | rfl | go_simp
       | 1,hu=>simp [KP] at hu;subst hu;first | exact c | rfl | go_simp
       | jj+2,hu=>simp [KP] at hu
      case d2=>rw [LDL.out];omega
      case d3=>have:=IE.out.bel.size;simpa using this
      intro v9 w9 o9 g9 _
      (try rw [← List.map_take] at o9)
      have NEW:=Lib.hid (IE.out.push KL.out o9 (by simpa using g9) FX.out RX.out AX.out);obtain ⟨v9a,v9c,n9,rfl⟩:∃ a c n,v9 = .slice a n c:=by obtain ⟨a,c,e,_⟩:=o9.slice;exact ⟨a,c,_,e⟩
      clear o9 g9 IE FX RX AX LE c60 c61;go_wp2
      go_roundw
      case rel=>exact ⟨k+1,_,_,by omega,by omega,by go_num,rfl,NEW⟩
      case measure=>simp [intOf];omega
  ·have E:=Lib.hid (FIN.out k _ LD wr I.out (by omega) hk6)
   clear FIN I
   by_cases hkn:k < n
   ·have q1:¬ ((k:Int) < 6):=by omega
    go_wp2
    go_ret
    exact E.out
   ·go_wp2
    go_ret
    exact E.out
end Go.Proofs.YtljnkaodhfnbbaaGreatDoor.Cu
namespace Go.Proofs.YtljnkaodhfnbbaaGreatDoor.Pa
open Go.RowKit Go.Maps
open Rw (Rd Ow At)
open Fl (row_cell row_frozen)
open Ck (LL lat sN sE tE RdL)
open Ua (arr Row frm tb tp te upd info_of arr_one below_setRow load_frame store_frame store_new)
attribute [local irreducible] Sd.wpSd wpQuiet Sf.wpSf
def bys (b:Nat→Int) (q:Nat→Bool):Array Value:=#[.int .u8 (b 0),.int .u8 (b 1),.int .u8 (b 2),.int .u8 (b 3),.int .u8 (b 4),.int .u8 (b 5),.int .u8 (b 6),.int .u8 (b 7),.int .u8 (b 8),.int .u8 (b 9),.int .u8 (b 10),.int .u8 (b 11),.int .u8 (b 12),.int .u8 (b 13),.int .u8 (b 14),.int .u8 (b 15),.int .u8 (b 16),.bool (q 0),.bool (q 1),.bool (q 2),.bool (q 3),.bool (q 4),.bool (q 5),.bool (q 6),.bool (q 7),.bool (q 8),.bool (q 9),.bool (q 10),.bool (q 11),.bool (q 12),.bool (q 13),.bool (q 14),.bool (q 15),.bool (q 16)]
theorem lt17' {k:Nat} (h:k < 17):k=0∨k=1∨k=2∨k=3∨k=4∨k=5∨k=6∨k=7∨k=8∨k=9∨k=10∨k=11∨k=12∨k=13∨k=14∨k=15∨k=16:=by omega
theorem bys_b (b:Nat→Int) (q:Nat→Bool) {k:Nat} (h:k < 17):(bys b q)[k]? = some (.int .u8 (b k)):=by
 rcases lt17' h with rfl | rfl | rfl | rfl | rfl | rfl | rfl | rfl | rfl | rfl | rfl | rfl | rfl | rfl | rfl | rfl | rfl <;> rfl
theorem bys_congr {b b':Nat→Int} {q q':Nat→Bool} (hb:∀ i,i < 17→b i=b' i) (hq:∀ i,i < 17→q i=q' i):bys b q=bys b' q':=by
 unfold bys;rw [hb 0 (by omega),hq 0 (by omega)];rw [hb 1 (by omega),hq 1 (by omega)];rw [hb 2 (by omega),hq 2 (by omega)];rw [hb 3 (by omega),hq 3 (by omega)];rw [hb 4 (by omega),hq 4 (by omega)];rw [hb 5 (by omega),hq 5 (by omega)];rw [hb 6 (by omega),hq 6 (by omega)];rw [hb 7 (by omega),hq 7 (by omega)];rw [hb 8 (by omega),hq 8 (by omega)];rw [hb 9 (by omega),hq 9 (by omega)];rw [hb 10 (by omega),hq 10 (by omega)];rw [hb 11 (by omega),hq 11 (by omega)];rw [hb 12 (by omega),hq 12 (by omega)];rw [hb 13 (by omega),hq 13 (by omega)];rw [hb 14 (by omega),hq 14 (by omega)];rw [hb 15 (by omega),hq 15 (by omega)];rw [hb 16 (by omega),hq 16 (by omega)]
def RowY (w:World) (g:Nat) (b:Nat→Int) (q:Nat→Bool):Prop:=w.heap[g]? = some (.cells (bys b q) 284 (0,0))
section
variable {w w':World} {g:Nat} {b b':Nat→Int} {q q':Nat→Bool}
theorem RowY.lt (h:RowY w g b q):g < w.heap.size:=lt_of_block h
theorem RowY.new (w:World) (b:Nat→Int) (q:Nat→Bool):RowY (w.alloc (.cells (bys b q) 284)) w.heap.size b q:=heap_alloc_new w _
theorem RowY.below {B:Nat} (h:RowY w g b q) (hb:Below B w w') (hg:g < B):RowY w' g b q:=(hb.block g hg).trans h
theorem RowY.far (h:RowY w g b q) {p:Addr} (hp:g≠p.block) (u:Value):RowY (w.setCell p u) g b q:=(Below.heap_setCell w p u g hp).trans h
theorem RowY.row (h:RowY w g b q) (b':Nat→Int) (q':Nat→Bool):RowY (w.setRow g (bys b' q')) g b' q':=setRow_heap w g _ _ _ _ h
theorem RowY.to (h:RowY w g b q) (hb:∀ i,i < 17→b i=b' i) (hq:∀ i,i < 17→q i=q' i):RowY w g b' q':=by unfold RowY at *;rw [h,bys_congr hb hq]
theorem RowY.cb (h:RowY w g b q) {k:Nat} (hk:k < 17):w.cell? ⟨g,k,none⟩=some (.int .u8 (b k)):=(row_cell h k).trans (bys_b b q hk)
end
def hb (h:Hr) (k:Nat):Int:=(h k).getD 0
def hq (h:Hr) (k:Nat):Bool:=(h k).isSome
end Go.Proofs.YtljnkaodhfnbbaaGreatDoor.Pa
namespace Go.Proofs.YtljnkaodhfnbbaaGreatDoor.Pa
open Go.RowKit Go.Maps
open Fs (Abs Rs Only Fx Wf gB gV sA sB dA dD dE OkA GetPost)
open Rw (Rd Ow At)
open Ro (E5 z5 eat K5 at5 okE ent okE_bounds)
open Fl (R4 z4 rec4 okR arr4 row_cell row_frozen)
attribute [local irreducible] Sd.wpSd wpQuiet
structure RA (w:World) (r:Nat) (F:Nat→Prop) (x:Abs×Int) (h g:Hr) (wr:World):Prop where
 rs:Rs wr r F x.1 x.2
 box:RowY wr w.heap.size (hb g) (hq h)
 gt:w.heap.size < r
 bel:Below w.heap.size w wr
theorem RA.below {w wr wr':World} {r:Nat} {F:Nat→Prop} {x:Abs×Int} {h g:Hr} (H:RA w r F x h g wr) (b:Below wr.heap.size wr wr'):RA w r F x h g wr':=⟨Fs.Rs.below H.rs b,H.box.below b H.box.lt,H.gt,H.bel.trans (b.mono H.bel.size)⟩
theorem RA.step {w wr wr':World} {r:Nat} {F:Nat→Prop} {x x':Abs×Int} {h g:Hr} (H:RA w r F x h g wr) (rs:Rs wr' r F x'.1 x'.2) (o:Only (fun k=>k=r) wr wr'):RA w r F x' h g wr' :=
 ⟨rs,(o.block _ H.box.lt (by have:=H.gt;omega)).trans H.box,H.gt,H.bel.trans (o.below H.bel.size fun k e=>by have:=H.gt;omega)⟩
structure BI (w1:World) (gx gv:Nat) (x:E5) (v:R4) (wr:World):Prop where
 cel:wr.heap[gv]? = some (.cells (arr4 v) 42 (0,0))
 ge:w1.heap.size≤gv
 bel:Below w1.heap.size w1 wr
theorem BI.below {w1 wr wr':World} {gx gv:Nat} {x:E5} {v:R4} (H:BI w1 gx gv x v wr) (b:Below wr.heap.size wr wr'):BI w1 gx gv x v wr':=⟨(b.block _ (lt_of_block H.cel)).trans H.cel,H.ge,H.bel.trans (b.mono H.bel.size)⟩
theorem BI.put {w1 wr:World} {gx gv:Nat} {x:E5} {v:R4} (H:BI w1 gx gv x v wr) {j:Nat} (hj:j < 4) (y:Int):BI w1 gx gv x (rs v j y) (wr.setCell ⟨gv,j,none⟩ (.int .u8 y)) :=
 ⟨by rw [Rw.heap_setCell_same H.cel,arr4_set v y hj],H.ge,H.bel.setCell (by exact H.ge) _⟩
end Go.Proofs.YtljnkaodhfnbbaaGreatDoor.Pa
namespace Go.Proofs.YtljnkaodhfnbbaaGreatDoor.Cu
open Go.RowKit Go.Maps
open Rw (Rd Ow At)
open Fl (R4 K4 okL file row_cell row_frozen)
open Fs (Abs Rs OkA Only Fx ow_only)
open Pa (Sts S2 sat vat KN KB K2 ptr atN only_grown rdE rdL push_at)
open Wt (opn rnd)
open Ro (E5 K5 tabL tabN TabPostO)
open Ck (LL lat KS Hd sl zh RdL rdl_of infoS)
open Re (KI iat seqP)
attribute [local irreducible] Sd.wpSd wpQuiet
section
end
theorem Only.more {G G':Nat→Prop} {w w':World} (h:Only G w w') (hg:∀ k,G k→G' k):Only G' w w':=h.mono fun k _ g=>hg k g
end Go.Proofs.YtljnkaodhfnbbaaGreatDoor.Cu
namespace Go.Proofs.YtljnkaodhfnbbaaGreatDoor.Cu
open Go.RowKit Go.Maps
open Rw (Rd Ow At Kind)
open Fl (R4 K4 okL file row_cell row_frozen goodF)
open Fs (Ent Abs Rs OkA Only Fx ow_only)
open Pa (Sts S2 sat vat KN KB K2 ptr Fls eatF)
structure IN (wr:World) (B0 s:Nat) (A:Abs) (k:Nat) (wk:World):Prop where
 rs:Rs wk s (fun k=>B0≤k∧k < wr.heap.size) (A.take k) 0
 bel:Below wr.heap.size wr wk
 inn:Inn A k
end Go.Proofs.YtljnkaodhfnbbaaGreatDoor.Cu
namespace Go.Proofs.YtljnkaodhfnbbaaGreatDoor.Cu
open Fl (R4 z4 okR okL goodF hdr rat newL)
open Fs (Fil Abs OkA key look_none sB sA gB)
open Pa (Sts S2 sat vat rdE rdL rdS rdS_len rdS_at apS hr recA recV rec_none rec_congr)
open Ro (E5 tabL)
open Ck (LL lat tE)
open Re (iat sL sN seqP fileL)
theorem fP_none {A:Abs} {n:Int} (h:fB A n=false):fP A n=0∧fR A n = []:=by
 unfold fB at h;unfold fP fR
 cases e:Fs.look key n A with
 | none=>exact ⟨rfl,rfl⟩
 | some x=>rw [e] at h;cases h
theorem tab_none:tabL 0 [] = []:=by
 unfold tabL Ro.tabO;rw [if_neg (by unfold goodF;simp)]
 rfl
theorem tbs_blank {S:Sts} {n:Int} (h:∀ x∈S,fB x.1 (32+n)=false):tbs S n=List.replicate S.length []:=by
 unfold tbs;rw [List.eq_replicate_iff];refine ⟨List.length_map _,fun y hy=>?_⟩;obtain ⟨x,hx,rfl⟩:=List.mem_map.1 hy;obtain ⟨e1,e2⟩:=fP_none (h x hx);rw [e1,e2,tab_none]
theorem scn_blank (p:Nat→E5→Bool):∀ k n,Ck.scn p n (List.replicate k [])=none
 | 0,_=>rfl
 | k+1,n=>by rw [List.replicate_succ];exact scn_blank p k (n+1)
theorem idx_blank:∀ k n,Ck.idx Ck.bad n (List.replicate k []) = -1
 | 0,_=>rfl
 | k+1,n=>by
   rw [List.replicate_succ,Ck.idx,if_neg (by decide)];exact idx_blank k (n+1)
theorem tE_blank (k:Nat):tE (List.replicate k [])=0:=by
 unfold tE Ck.bI Ck.clN Ck.gaN Ck.whoN;rw [idx_blank,scn_blank,scn_blank]
 decide
theorem lat_blank (k i:Nat):lat (List.replicate k []) i = []:=by
 unfold lat;rw [List.getD_eq_getElem?_getD,List.getElem?_replicate]
 split <;> rfl
theorem ap_blank (h:Pa.Hr) (s:Abs×Int):apS h [] s=s:=by
 have e:recA h [] s.1=s.1:=by
  show recV h [] (fun _ _=>true) s.1=s.1
  rw [rec_congr (V':=fun _ _=>false) (fun n k g=>absurd rfl g),rec_none fun _ _=>rfl]
 unfold apS;rw [e]
 rfl
theorem rd_blank {S:Sts} {V:List Bool} {Q:List S2} (hl:1≤S.length∧S.length≤32) (hv:V.length=S.length):rdE S (List.replicate S.length []) V=0∧rdL S (List.replicate S.length []) V Q=S:=by
 have e0:rdE S (List.replicate S.length []) V=0:=by
  unfold rdE;rw [if_pos ⟨hl.1,hl.2,List.length_replicate,hv⟩,tE_blank]
 refine ⟨e0,?_⟩;have er:rdL S (List.replicate S.length []) V Q=rdS S (List.replicate S.length []) V (hr S (List.replicate S.length []) V Q):=if_pos e0;rw [er];refine List.ext_getElem? fun i=>?_
 by_cases hi:i < S.length
 ·have a:=rdS_at S (List.replicate S.length []) V (hr S (List.replicate S.length []) V Q) hi
  rw [lat_blank,ap_blank] at a;have a:sat (rdS S (List.replicate S.length []) V (hr S (List.replicate S.length []) V Q)) i=sat S i:=by rw [a];split <;> rfl
  unfold sat at a;rw [Int.toNat_natCast,List.getD_eq_getElem?_getD,List.getD_eq_getElem?_getD,List.getElem?_eq_getElem hi,List.getElem?_eq_getElem (by rw [rdS_len];exact hi)] at a;rw [List.getElem?_eq_getElem hi,List.getElem?_eq_getElem (by rw [rdS_len];exact hi)];exact congrArg some a
 ·rw [List.getElem?_eq_none (show S.length≤i by omega),List.getElem?_eq_none (show (rdS S (List.replicate S.length []) V (hr S (List.replicate S.length []) V Q)).length≤i by rw [rdS_len];omega)]
structure Blk (A:Abs) (l:List Int):Prop where
 has:fB A 40=true
 p:fP A 40=3
 r:fR A 40=fileL l
 seq:seqP l
theorem Blk.sq {A:Abs} {l:List Int} (h:Blk A l):sqB A=true∧sqL A=l:=by
 obtain ⟨e1,e2⟩:=Re.seq_file h.seq;unfold sqB sqL;rw [h.has,h.p,h.r,e1,e2];exact ⟨rfl,rfl⟩
theorem blank_round {c:Cs} {l:List Int} (ho:0≤Wt.opn c.P) (hb:Blk (own c) l) (hn:∀ x∈c.S,∀ n∈l,fB x.1 (32+n)=false) (hl:1≤c.S.length∧c.S.length≤32) (hv:c.V.length=c.S.length) :
 rE c=0∧rC c=⟨c.S,c.V,Wt.rnd c.P,at1 c l,[]⟩:=by
 obtain ⟨q1,q2⟩:=hb.sq;have hs:=hb.seq.1;have hi:at0 c l < l.length:=by
  unfold at0
  split <;> omega
 have hm:iat l (at0 c l)∈l:=by
  unfold iat;rw [List.getD_eq_getElem?_getD,List.getElem?_eq_getElem hi];exact List.getElem_mem hi
 have ht:rT c=List.replicate c.S.length []:=by
  unfold rT;rw [q2];exact tbs_blank fun x hx=>hn x hx _ hm
 obtain ⟨r1,r2⟩:=rd_blank (S:=c.S) (V:=c.V) (Q:=c.Q) hl hv;unfold rE rC;rw [if_neg (by omega),if_pos q1,if_neg (by omega),if_pos q1,ht,r1,q2,if_pos rfl,r2];exact ⟨rfl,rfl⟩
theorem silent_round {c:Cs} (ho:Wt.opn c.P < 0):rE c=0∧rC c=⟨c.S,c.V,Wt.rnd c.P,c.pl,[]⟩:=by
 unfold rE rC;rw [if_pos ho,if_pos ho];exact ⟨rfl,rfl⟩
def acR:Ac:=⟨1,0,0,0,z4,0,0,0⟩
theorem act_round (c:Cs):actE acR c=rE c∧actC acR c=rC c:=⟨if_pos rfl,if_pos rfl⟩
def A0:Abs:=[(40,3,fileL [0,1])]
def S0:Sts:=[(A0,0),(A0,0)]
def L0:List Pl:=[(A0,100),(A0,100)]
theorem seq01:seqP [0,1]:=by decide
theorem blk0:Blk A0 [0,1]:=⟨rfl,rfl,rfl,seq01⟩
theorem gd0:gdP (A0,100):=⟨⟨List.pairwise_singleton _ _,fun e he=>by
 rw [List.mem_singleton.1 he]
 exact ⟨⟨by decide,by decide⟩,Re.file_good seq01⟩⟩,by decide,by decide⟩
theorem new0:newE L0=0:=by
 unfold newE;rw [if_neg (by decide),if_pos,if_pos]
 ·refine ⟨blk0.sq.1,rfl,rfl,rfl⟩
 ·intro p hp
  have:p=(A0,100):=by
   rcases List.mem_cons.1 hp with h | h
   ·exact h
   ·exact List.mem_singleton.1 h
  rw [this];exact gd0
theorem no0:∀ x∈S0,∀ n∈([0,1]:List Int),fB x.1 (32+n)=false:=fun x hx n hn=>by
 have hx:x=(A0,0):=by
  rcases List.mem_cons.1 hx with h | h
  ·exact h
  ·exact List.mem_singleton.1 h
 rw [hx]
 rcases List.mem_cons.1 hn with h | h
 ·rw [h];rfl
 ·rw [List.mem_singleton.1 h];rfl
def ak (k:Int):Wt.A:=⟨4,k,2,k⟩
theorem ak_next {k:Int} (h:k < 4):Wt.opn (ak k) = -1∧Wt.rnd (ak k)=ak (k+1):=by
 unfold Wt.opn Wt.rnd Wt.tk Wt.t1 Wt.t2 Wt.op Wt.hd ak;have:¬ 4≤k:=by omega
 simp [this]
theorem ak_end:Wt.opn (ak 4)=1∧Wt.rnd (ak 4)=⟨4,0,1,0⟩:=⟨by decide,rfl⟩
def c1:Cs:=⟨S0,[true,true],Wt.new,1,[]⟩
def ck (k:Int):Cs:=⟨S0,[false,true],ak k,1,[]⟩
def c9:Cs:=⟨S0,[false,true],⟨4,0,1,0⟩,0,[]⟩
def acC:Ac:=⟨4,0,0,0,z4,0,0,0⟩
theorem f_first:actE acR (newC L0)=0∧actC acR (newC L0)=c1:=by
 obtain ⟨a,b⟩:=blank_round (c:=newC L0) (l:=[0,1]) (by decide) blk0 no0 (by decide) rfl;obtain ⟨x,y⟩:=act_round (newC L0);rw [x,y,a,b];exact ⟨rfl,rfl⟩
theorem f_crash:actE acC c1=0∧actC acC c1=ck 0:=⟨by decide,rfl⟩
theorem f_silent {k:Int} (h:k < 4):actE acR (ck k)=0∧actC acR (ck k)=ck (k+1):=by
 obtain ⟨e1,e2⟩:=ak_next h;obtain ⟨a,b⟩:=silent_round (c:=ck k) (by show Wt.opn (ak k) < 0;rw [e1];decide);obtain ⟨x,y⟩:=act_round (ck k);rw [x,y,a,b];refine ⟨rfl,?_⟩
 show (⟨S0,[false,true],Wt.rnd (ak k),1,[]⟩:Cs)=_
 rw [e2]
 rfl
theorem f_last:actE acR (ck 4)=0∧actC acR (ck 4)=c9:=by
 obtain ⟨a,b⟩:=blank_round (c:=ck 4) (l:=[0,1]) (by show 0≤Wt.opn (ak 4);rw [ak_end.1];decide) (by
  show Blk (sat S0 (Wt.opn (ak 4))).1 _
  rw [ak_end.1]
  exact blk0) no0 (by show 1≤S0.length∧_;decide) rfl
 obtain ⟨x,y⟩:=act_round (ck 4);rw [x,y,a,b];refine ⟨rfl,?_⟩
 show (⟨S0,[false,true],Wt.rnd (ak 4),_,[]⟩:Cs)=_
 rw [ak_end.2]
 rfl
theorem f_one:newE [(A0,100)]=1:=new_shortL (by decide)
where
 new_shortL {L:List Pl} (h:L.length < 2∨32 < L.length):newE L=1:=by unfold newE;rw [if_pos h]
theorem f_state:newE [(A0,100),([],0)]=10:=by
 unfold newE;rw [if_neg (by decide),if_pos,if_neg]
 ·rintro ⟨_,h,_⟩
  exact absurd h (by decide)
 ·intro p hp
  rcases List.mem_cons.1 hp with h | h
  ·rw [h];exact gd0
  ·rw [List.mem_singleton.1 h]
   exact ⟨⟨List.Pairwise.nil,nofun⟩,by decide,by decide⟩
def A1:Abs:=[(1,7,newL 7 1),(40,3,fileL [0])]
def r7:R4:=(7,0,0,0)
def A2:Abs:=[(1,7,[hdr 7 1,r7]),(40,3,fileL [0])]
def L1:List Pl:=[(A1,2000),(A1,2000)]
def d1:Cs:=⟨[(A1,0),(A2,0)],[true,true],Wt.new,0,[]⟩
end Go.Proofs.YtljnkaodhfnbbaaGreatDoor.Cu
namespace Go.Proofs.YtljnkaodhfnbbaaGreatDoor.Cu
open Go.RowKit
open Rw (Rd Ow At)
open Fl (R4 K4 okL okR z4 row_cell row_frozen)
open Fs (Glob Ent Abs E3 Ls FilesPost Wf)
open Re (KI fileL FilePost rfile_any)
open Pa (ptr sat vat Fls)
open Ck (Hd sl zh)
attribute [local irreducible] Sd.wpSd wpQuiet
theorem lit_plans {w:World} (l:List PlD) (h:∀ c∈l,Fls w (sl c.files) c.F w.heap.size) (hl:l.length≤maxLen):Pls (w.alloc (.cells (KP.flat l).toArray 60)) (.slice (some ⟨w.heap.size,0,none⟩) l.length l.length) l (w.alloc (.cells (KP.flat l).toArray 60)).heap.size:=by
 have rd:=(Rw.Ow.lit (K:=KP) w w.heap.size 60 l (Nat.le_refl _) hl).rd;have b:=(Below.refl w.heap.size w).alloc (Nat.le_refl _) (.cells (KP.flat l).toArray 60);refine pls_of rd fun x hx=>?_;have f:=(h x hx).below b;exact fls_of f.rd fun y hy=>by
  obtain ⟨i,hi⟩:=List.getElem?_of_mem hy;have hl:=(List.getElem?_eq_some_iff.1 hi).1;have:=f.file i hl;unfold Pa.eatF at this;rw [List.getD_eq_getElem?_getD,hi] at this;exact this
theorem fls_nil (w:World):Fls w (.slice none 0 0) [] w.heap.size:=fls_of (Rw.Rd.nil w) nofun
theorem ok0:OkC (newC L0) 0:=new_ok new0 fun p hp e he=>by
 have:p=(A0,100):=by
  rcases List.mem_cons.1 hp with h | h
  ·exact h
  ·exact List.mem_singleton.1 h
 subst this;rw [List.mem_singleton.1 he];exact Re.ok_file seq01
theorem sy0:Syn (newC L0):=syn_new _ (by decide)
def cAt (k:Nat):Cs:=if k=5 then c9 else ck k
theorem hold1:OkC c1 1∧Syn c1:=by
 have a:=ok0.act acR Fl.okR_z;have b:=sy0.act ok0 acR;rw [f_first.2] at a b;exact ⟨a,b⟩
theorem hold2:OkC (cAt 0) 2∧Syn (cAt 0):=by
 have a:=hold1.1.act acC Fl.okR_z;have b:=hold1.2.act hold1.1 acC;rw [f_crash.2] at a b;exact ⟨a,b⟩
theorem at_next {k:Nat} (hk:k < 5):actE acR (cAt k)=0∧actC acR (cAt k)=cAt (k+1):=by
 unfold cAt
 by_cases h:k < 4
 ·rw [if_neg (by omega),if_neg (by omega)]
  exact f_silent (k:=(k:Int)) (by omega)
 ·obtain rfl:k=4:=by omega
  exact f_last
theorem hold3:∀ k:Nat,k≤5→OkC (cAt k) (2+k)∧Syn (cAt k)
 | 0,_=>hold2
 | k+1,h=>by
   obtain ⟨a,b⟩:=hold3 k (by omega);have a':=a.act acR Fl.okR_z;have b':=b.act a acR;rw [(at_next (by omega)).2] at a' b';exact ⟨a',b'⟩
set_option maxHeartbeats 4000000 in
theorem awake20_any {w:World} (h:Glob w):Calls Tryz.prog 15 #[] w fun e w'=>e = .returned (.bool true)∧Below w.heap.size w w':=by
 have HG:=Lib.hid h;clear h;have LI:Hid (Rd KI (w.alloc (.cells #[.int .i64 0,.int .i64 1] 3)) (.slice (some ⟨w.heap.size,0,none⟩) 2 2) [0,1]):=Lib.hid (Rw.Ow.lit (K:=KI) w w.heap.size 3 [0,1] (Nat.le_refl _) (by unfold maxLen;simp)).rd;have B1:=Lib.hid ((Below.refl w.heap.size w).alloc (Nat.le_refl _) (.cells #[.int .i64 0,.int .i64 1] 3))
 have C1:Hid (Calls Tryz.prog 58 #[.slice (some ⟨w.heap.size,0,none⟩) 2 2] (w.alloc (.cells #[.int .i64 0,.int .i64 1] 3)) fun e w'=>∃ a cap,e = .returned (.tuple #[.agg #[.int .i64 3,.slice a 3 cap],.int .i64 0])∧Rd K4 w' (.slice a 3 cap) (fileL [0,1])∧Below (w.alloc (.cells #[.int .i64 0,.int .i64 1] 3)).heap.size (w.alloc (.cells #[.int .i64 0,.int .i64 1] 3)) w'):=Lib.hid ((rfile_any _ _ [0,1] LI.out).mono fun e w' ⟨u,he,hu,hb⟩=>by
  have e1:Re.fL [0,1]=fileL [0,1]:=if_pos seq01;rw [e1] at hu;obtain ⟨a,cap,rfl,_⟩:=hu.slice
  exact ⟨a,cap,by rw [he];unfold Re.fP Re.fN;rw [if_pos seq01,if_pos seq01];rfl,hu,hb⟩)
 go_enter Tryz.func15,Tryz.ntmps15
 go_wp2_with fail;refine C1.out.mono ?_;rintro e w2 ⟨fa,fc,rfl,r2,b2⟩;have X2:=Lib.hid (heap_alloc_new w2 (.cells #[.int .i64 3,.slice fa 3 fc] 70));have N2:=Lib.hid ((Below.refl w2.heap.size w2).alloc (Nat.le_refl _) (.cells #[.int .i64 3,.slice fa 3 fc] 70));have R2:=Lib.hid (r2.below N2.out);have B5:=Lib.hid ((B1.out.trans (b2.mono B1.out.size)).trans (N2.out.mono (Nat.le_trans B1.out.size b2.size)));clear C1 LI B1 r2 b2 N2;go_upto_region 2 with fail;generalize (w2.alloc (.cells #[.int .i64 3,.slice fa 3 fc] 70))=w5 at *;generalize w2.heap.size=g1 at *;have y0:w5.cell? ⟨g1,0,none⟩=some (.int .i64 3):=row_cell X2.out 0;have y1:w5.cell? ⟨g1,1,none⟩=some (.slice fa 3 fc):=row_cell X2.out 1;have hBN:=Fs.run_buildN;have RE:Hid (Rd E3 (w5.alloc (.cells #[.int .i64 40,.int .i64 3,.slice fa 3 fc] 72)) (.slice (some ⟨w5.heap.size,0,none⟩) 1 1) [⟨40,3,fa,fc,fileL [0,1]⟩]):=Lib.hid (Rw.Ow.lit (K:=E3) w5 w5.heap.size 72 [⟨40,3,fa,fc,fileL [0,1]⟩] (Nat.le_refl _) (by unfold maxLen;simp)).rd;have B6:=Lib.hid ((Below.refl w5.heap.size w5).alloc (Nat.le_refl _) (.cells #[.int .i64 40,.int .i64 3,.slice fa 3 fc] 72));have Z6:Hid ((w5.alloc (.cells #[.int .i64 40,.int .i64 3,.slice fa 3 fc] 72)).heap.size=w5.heap.size+1):=Lib.hid (by simp);have B7:=Lib.hid (B6.out.alloc B6.out.size (.cells #[.slice (some ⟨w5.heap.size,0,none⟩) 1 1,.int .i64 100] 60));have X7:Hid (((w5.alloc (.cells #[.int .i64 40,.int .i64 3,.slice fa 3 fc] 72)).alloc (.cells #[.slice (some ⟨w5.heap.size,0,none⟩) 1 1,.int .i64 100] 60)).heap[w5.heap.size+1]? = some (.cells #[.slice (some ⟨w5.heap.size,0,none⟩) 1 1,.int .i64 100] 60 (0,0))):=Lib.hid (by rw [← Z6.out];exact heap_alloc_new _ _)
 have FL:Hid (Pa.Fls ((w5.alloc (.cells #[.int .i64 40,.int .i64 3,.slice fa 3 fc] 72)).alloc (.cells #[.slice (some ⟨w5.heap.size,0,none⟩) 1 1,.int .i64 100] 60)) (.slice (some ⟨w5.heap.size,0,none⟩) 1 1) [⟨40,3,fa,fc,fileL [0,1]⟩] ((w5.alloc (.cells #[.int .i64 40,.int .i64 3,.slice fa 3 fc] 72)).alloc (.cells #[.slice (some ⟨w5.heap.size,0,none⟩) 1 1,.int .i64 100] 60)).heap.size):=Lib.hid (fls_of (RE.out.below ((Below.refl _ _).alloc (Nat.le_refl _) _)) fun c hc=>by
  rw [List.mem_singleton.1 hc]
  exact ⟨R2.out.below B7.out,Re.ok_file seq01⟩)
 have BB:=Lib.hid (B5.out.trans (B7.out.mono B5.out.size));clear RE B6 Z6 B7 R2 B5 X2;go_upto_region 3 with fail;clear y0 y1 hBN;generalize ((w5.alloc (.cells #[.int .i64 40,.int .i64 3,.slice fa 3 fc] 72)).alloc (.cells #[.slice (some ⟨w5.heap.size,0,none⟩) 1 1,.int .i64 100] 60))=w7 at *;generalize w5.heap.size=g5 at *;have x0:w7.cell? ⟨g5+1,0,none⟩=some (.slice (some ⟨g5,0,none⟩) 1 1):=row_cell X7.out 0;have x1:w7.cell? ⟨g5+1,1,none⟩=some (.int .i64 100):=row_cell X7.out 1;have G7:=Lib.hid (HG.out.below BB.out)
 have PL:=Lib.hid (lit_plans (w:=w7) [⟨(some ⟨g5,0,none⟩,1,1),100,[⟨40,3,fa,fc,fileL [0,1]⟩]⟩,⟨(some ⟨g5,0,none⟩,1,1),100,[⟨40,3,fa,fc,fileL [0,1]⟩]⟩] (fun c hc=>by
  rcases List.mem_cons.1 hc with h | h
  ·rw [h];exact FL.out
  ·rw [List.mem_singleton.1 h];exact FL.out) (by unfold maxLen;simp))
 have NW:Hid (Calls Tryz.prog 12 #[.slice (some ⟨w7.heap.size,0,none⟩) 2 2] (w7.alloc (.cells #[.slice (some ⟨g5,0,none⟩) 1 1,.int .i64 100,.slice (some ⟨g5,0,none⟩) 1 1,.int .i64 100] 60)) fun e w'=>∃ s,e = .returned (.tuple #[.pointer (some ⟨s,0,none⟩),.int .i64 0])∧CH w7 s (newC L0) 0 w'):=Lib.hid (ch_new PL.out (w0:=w7) new0 ((Below.refl _ _).alloc (Nat.le_refl _) _));clear PL;go_wp2_with fail;refine NW.out.mono ?_;rintro e w8 ⟨s,rfl,ch8⟩;have H8:=Lib.hid ch8
 have RND:Hid (∀ c t c' W,CH w7 s c t W→OkC c t→Syn c→t≤100→actE acR c=0→actC acR c=c'→Calls Tryz.prog 17 #[.pointer (some ⟨s,0,none⟩),.agg #[.int .i64 1,.int .i64 0,.int .i64 0,.int .i64 0,.int .u8 0,.int .u8 0,.int .u8 0,.int .u8 0,.int .i64 0,.int .i64 0,.int .i64 0]] W fun e w'=>e = .returned (.int .i64 0)∧CH w7 s c' (t+1) w'):=Lib.hid (fun c t c' W hc ok sy ht e1 e2=>by
  have:=ch_do hc G7.out ok sy (by omega) acR Fl.okR_z (WalkArith.wf_i64 (by decide));rw [e1,e2] at this
  exact this)
 have DR:=Lib.hid (RND.out _ _ _ w8 H8.out ok0 sy0 (by decide) f_first.1 f_first.2);have hB:=run_buildB;clear NW ch8 x0 x1;go_wp2_with fail;refine DR.out.mono ?_;rintro e w9 ⟨rfl,ch9⟩;have H9:=Lib.hid ch9;have PLC:=Lib.hid (ch_place H9.out);unfold ptr at PLC;clear DR H8 ch9;go_wp2_with fail;refine PLC.out.mono ?_;rintro e w10 ⟨rfl,b10⟩;have H10:=Lib.hid (H9.out.below b10)
 have DC:Hid (Calls Tryz.prog 17 #[.pointer (some ⟨s,0,none⟩),.agg #[.int .i64 4,.int .i64 0,.int .i64 0,.int .i64 0,.int .u8 0,.int .u8 0,.int .u8 0,.int .u8 0,.int .i64 0,.int .i64 0,.int .i64 0]] w10 fun e w'=>e = .returned (.int .i64 0)∧CH w7 s (cAt 0) 2 w'):=Lib.hid (by
  have:=ch_do H10.out G7.out hold1.1 hold1.2 (by decide) acC Fl.okR_z (WalkArith.wf_i64 (by decide));rw [f_crash.1,f_crash.2] at this
  exact this)
 clear PLC b10 H9;rw [show ((c1.pl:Nat):Int)=1 from rfl];go_wp2_with fail;refine DC.out.mono ?_;rintro e w11 ⟨rfl,ch11⟩;have H11:=Lib.hid ch11;clear DC ch11 H10;have FIN:Hid (∀ W,Below w7.heap.size w7 W→Below w.heap.size w W):=Lib.hid (fun W b=>BB.out.trans (b.mono BB.out.size));have lx:g5+1 < w7.heap.size:=lt_of_block X7.out;have HB:=Lib.hid hB;clear BB;go_upto_region 10 with fail
 go_loopw [9] (fun i wr=>∃ k:Nat,k≤5∧i = .int .i64 k∧Hid (CH w7 s (cAt k) (2+k) wr)) (fun i _=>5 - (intOf i).toNat)
 case atStart=>exact ⟨0,by decide,rfl,H11⟩
 case round =>
  clear H11;obtain ⟨k,hk,rfl,H⟩:=hrel;have hB:=HB.out
  by_cases hlt:k < 5
  ·have DR:=Lib.hid (RND.out _ _ _ wr H.out (hold3 k hk).1 (hold3 k hk).2 (by omega) (at_next hlt).1 (at_next hlt).2)
   go_wp2_with fail;refine DR.out.mono ?_;rintro e w12 ⟨rfl,ch12⟩;have H12:=Lib.hid ch12;clear DR ch12 H;go_wp2
   go_roundw
   case rel=>exact ⟨k+1,by omega,by go_num,H12⟩
   case measure=>simp [intOf];omega
  ·obtain rfl:k=5:=by omega
   have H5:Hid (CH w7 s c9 7 wr):=H;clear H;have x0:wr.cell? ⟨g5+1,0,none⟩=some (.slice (some ⟨g5,0,none⟩) 1 1):=(H5.out.bel.cell lx).trans (row_cell X7.out 0);have x1:wr.cell? ⟨g5+1,1,none⟩=some (.int .i64 100):=(H5.out.bel.cell lx).trans (row_cell X7.out 1)
   have FLr:Hid (Pa.Fls wr (sl (some ⟨g5,0,none⟩,1,1)) [⟨40,3,fa,fc,fileL [0,1]⟩] wr.heap.size):=Lib.hid (by
    have f:=FL.out.below H5.out.bel;exact fls_of f.rd fun y hy=>by
     rw [List.mem_singleton.1 hy]
     exact f.file 0 (by simp))
   have PL1:=Lib.hid (lit_plans (w:=wr) [⟨(some ⟨g5,0,none⟩,1,1),100,[⟨40,3,fa,fc,fileL [0,1]⟩]⟩] (fun c hc=>by rw [List.mem_singleton.1 hc];exact FLr.out) (by unfold maxLen;simp));have N1:Hid (Calls Tryz.prog 12 #[.slice (some ⟨wr.heap.size,0,none⟩) 1 1] (wr.alloc (.cells #[.slice (some ⟨g5,0,none⟩) 1 1,.int .i64 100] 60)) fun e w'=>e = .returned (.tuple #[.pointer none,.int .i64 1])∧Below (wr.alloc (.cells #[.slice (some ⟨g5,0,none⟩) 1 1,.int .i64 100] 60)).heap.size (wr.alloc (.cells #[.slice (some ⟨g5,0,none⟩) 1 1,.int .i64 100] 60)) w'):=Lib.hid (new_no PL1.out f_one (by decide));have BA:=Lib.hid ((Below.refl wr.heap.size wr).alloc (Nat.le_refl _) (.cells #[.slice (some ⟨g5,0,none⟩) 1 1,.int .i64 100] 60));clear PL1 FLr RND HB hB hlt;go_wp2_with fail;refine N1.out.mono ?_;rintro e w12 ⟨rfl,b12⟩;have H12:=Lib.hid ((H5.out.below BA.out).below b12);clear N1 BA b12 H5 x0 x1;have x0:w12.cell? ⟨g5+1,0,none⟩=some (.slice (some ⟨g5,0,none⟩) 1 1):=(H12.out.bel.cell lx).trans (row_cell X7.out 0);have x1:w12.cell? ⟨g5+1,1,none⟩=some (.int .i64 100):=(H12.out.bel.cell lx).trans (row_cell X7.out 1)
   have FLr:Hid (Pa.Fls w12 (sl (some ⟨g5,0,none⟩,1,1)) [⟨40,3,fa,fc,fileL [0,1]⟩] w12.heap.size):=Lib.hid (by
    have f:=FL.out.below H12.out.bel;exact fls_of f.rd fun y hy=>by
     rw [List.mem_singleton.1 hy]
     exact f.file 0 (by simp))
   have PL2:=Lib.hid (lit_plans (w:=w12) [⟨(some ⟨g5,0,none⟩,1,1),100,[⟨40,3,fa,fc,fileL [0,1]⟩]⟩,⟨zh,0,[]⟩] (fun c hc=>by
    rcases List.mem_cons.1 hc with h | h
    ·rw [h];exact FLr.out
    ·rw [List.mem_singleton.1 h];exact fls_nil w12) (by unfold maxLen;simp))
   have N2:Hid (Calls Tryz.prog 12 #[.slice (some ⟨w12.heap.size,0,none⟩) 2 2] (w12.alloc (.cells #[.slice (some ⟨g5,0,none⟩) 1 1,.int .i64 100,.slice none 0 0,.int .i64 0] 60)) fun e w'=>e = .returned (.tuple #[.pointer none,.int .i64 10])∧Below (w12.alloc (.cells #[.slice (some ⟨g5,0,none⟩) 1 1,.int .i64 100,.slice none 0 0,.int .i64 0] 60)).heap.size (w12.alloc (.cells #[.slice (some ⟨g5,0,none⟩) 1 1,.int .i64 100,.slice none 0 0,.int .i64 0] 60)) w'):=Lib.hid (new_no PL2.out f_state (by decide));have BA:=Lib.hid ((Below.refl w12.heap.size w12).alloc (Nat.le_refl _) (.cells #[.slice (some ⟨g5,0,none⟩) 1 1,.int .i64 100,.slice none 0 0,.int .i64 0] 60));clear PL2 FLr FL;go_wp2_with fail;refine N2.out.mono ?_;rintro e w13 ⟨rfl,b13⟩;have H13:=Lib.hid ((H12.out.below BA.out).below b13);clear N2 BA b13 H12 x0 x1 X7;have C1:Hid (Calls Tryz.prog 19 #[.pointer (some ⟨s,0,none⟩)] w13 fun e w'=>e = .returned (.int .i64 0)∧Below w13.heap.size w13 w'):=Lib.hid (ch_place H13.out);go_wp2_with fail;refine C1.out.mono ?_;rintro e w14 ⟨rfl,b14⟩;have H14:=Lib.hid (H13.out.below b14);clear C1 b14 H13;have C1:Hid (Calls Tryz.prog 23 #[.pointer (some ⟨s,0,none⟩),.int .i64 1] w14 fun e w'=>e = .returned (.int .i64 1)∧Below w14.heap.size w14 w'):=Lib.hid (ch_role H14.out 1);go_wp2_with fail;refine C1.out.mono ?_;rintro e w15 ⟨rfl,b15⟩;have H15:=Lib.hid (H14.out.below b15);clear C1 b15 H14;have C1:Hid (Calls Tryz.prog 22 #[.pointer (some ⟨s,0,none⟩),.int .i64 0] w15 fun e w'=>e = .returned (.bool false)∧Below w15.heap.size w15 w'):=Lib.hid (ch_live H15.out (n:=0) (by decide));go_wp2_with fail;refine C1.out.mono ?_;rintro e w16 ⟨rfl,b16⟩;have H16:=Lib.hid (H15.out.below b16);clear C1 b16 H15;have C1:Hid (Calls Tryz.prog 16 #[.pointer (some ⟨s,0,none⟩)] w16 fun e w'=>e = .returned (.int .i64 2)∧Below w16.heap.size w16 w'):=Lib.hid (ch_nodes H16.out);go_wp2_with fail;refine C1.out.mono ?_;rintro e w17 ⟨rfl,b17⟩;have H17:=Lib.hid (H16.out.below b17);clear C1 b17 H16;have C1:Hid (Calls Tryz.prog 21 #[.pointer (some ⟨s,0,none⟩),.int .i64 1] w17 (FilesPost w17 A0)):=Lib.hid (ch_files H17.out (n:=1) (by decide));unfold FilesPost at C1;go_wp2_with fail;refine C1.out.mono ?_;rintro e w18 ⟨v,rfl,hv,b18⟩;obtain ⟨L,hL,eL⟩:=hv (fun _=>False) nofun;have hl:L.length=1:=by
    have:=congrArg List.length eL;rw [List.length_map] at this;exact this
   obtain ⟨a,cap,rfl,_⟩:=hL.rd.slice;rw [hl];have E:=Lib.hid (FIN.out w18 (H17.out.bel.trans (b18.mono H17.out.bel.size)));clear C1 hv hL eL hl b18 H17 FIN;go_wp2
   go_ret
   exact ⟨rfl,E.out⟩
end Go.Proofs.YtljnkaodhfnbbaaGreatDoor.Cu
namespace Go.Proofs.YtljnkaodhfnbbaaGreatDoor.Sn
open Go.RowKit
open Sd (light light_value picks good)
open Sc (In Cl)
def wpSn (P:Program) (ops:Array Oper) (Q:Exit→Act→World→Prop):List (Bool×Oper)→(World→Prop)→Act→World→Prop
 | [],_,a,w=>Q .normal a w
 | (false,o) :: r,C,a,w=>wpQuiet P ops C (fun a'=>wpSn P ops Q r C a' w) [o] a
 | (true,o) :: r,C,a,w=>if Region.wanted o (yielded ops a.tmps) then o.wp P a w (fun a' w'=>∃ C':World→Prop,(∀ x,C' x→C x)∧C' w'∧wpSn P ops Q r C' a' w') Q else wpSn P ops Q r C (a.put o.dst undef) w
section
end
end Go.Proofs.YtljnkaodhfnbbaaGreatDoor.Sn
namespace Go.Proofs.YtljnkaodhfnbbaaGreatDoor.Cu
open Go.RowKit
open Rw (Rd Ow At)
open Fl (R4 K4 okL okR z4 rec4 row_cell row_frozen)
open Fs (Ent Abs St Rs OkA Only Fx E3 Glob Wf FilesPost Ls)
open Pa (ptr sat vat Fls eatF KN KB)
open Ck (Hd sl zh)
theorem at_ac {w:World} {b off:Nat} {l:List Ac} (h:At KA w b off l) {i:Nat} (hi:i < l.length) :
 w.cell? ⟨b,off+i * 11,none⟩=some (.int .i64 (aat l i).k)∧w.cell? ⟨b,off+i * 11+1,none⟩=some (.int .i64 (aat l i).n)∧w.cell? ⟨b,off+i * 11+2,none⟩=some (.int .i64 (aat l i).f)∧w.cell? ⟨b,off+i * 11+3,none⟩=some (.int .i64 (aat l i).r)∧w.cell? ⟨b,off+i * 11+4,none⟩=some (.int .u8 (aat l i).v.1)∧w.cell? ⟨b,off+i * 11+5,none⟩=some (.int .u8 (aat l i).v.2.1)∧w.cell? ⟨b,off+i * 11+6,none⟩=some (.int .u8 (aat l i).v.2.2.1)∧w.cell? ⟨b,off+i * 11+7,none⟩=some (.int .u8 (aat l i).v.2.2.2)∧w.cell? ⟨b,off+i * 11+8,none⟩=some (.int .i64 (aat l i).s)∧w.cell? ⟨b,off+i * 11+9,none⟩=some (.int .i64 (aat l i).m)∧w.cell? ⟨b,off+i * 11+10,none⟩=some (.int .i64 (aat l i).t) :=
 ⟨h i hi 0 _ rfl,h i hi 1 _ rfl,h i hi 2 _ rfl,h i hi 3 _ rfl,h i hi 4 _ rfl,h i hi 5 _ rfl,h i hi 6 _ rfl,h i hi 7 _ rfl,h i hi 8 _ rfl,h i hi 9 _ rfl,h i hi 10 _ rfl⟩
theorem aat_mem {l:List Ac} {i:Nat} (hi:i < l.length):aat l i∈l:=by
 unfold aat;rw [List.getD_eq_getElem?_getD,List.getElem?_eq_getElem hi];exact List.getElem_mem hi
theorem pls_okl {w:World} {v:Value} {L:List PlD} {B:Nat} (H:Pls w v L B):∀ p∈pls L,∀ e∈p.1,okL e.2.2:=fun p hp e he=>by
 obtain ⟨c,hc,rfl⟩:=List.mem_map.1 hp;obtain ⟨x,hx,rfl⟩:=List.mem_map.1 he;obtain ⟨i,hi⟩:=List.getElem?_of_mem hc;have hl:=(List.getElem?_eq_some_iff.1 hi).1;have f:=H.file i hl;unfold pld at f;rw [List.getD_eq_getElem?_getD,hi] at f;obtain ⟨j,hj⟩:=List.getElem?_of_mem hx;have hjl:=(List.getElem?_eq_some_iff.1 hj).1;have g:=(f.file j hjl).2;unfold eatF at g;rw [List.getD_eq_getElem?_getD] at g;have e2:((some c:Option PlD).getD plD).F[j]? = some x:=hj;rw [e2] at g;exact g
structure Oc (c:Cs) (t:Nat):Prop where
 ok:OkC c t
 sy:Syn c
theorem Oc.act {c:Cs} {t:Nat} (h:Oc c t) {x:Ac} (hx:okR x.v):Oc (actC x c) (t+1):=⟨h.ok.act x hx,h.sy.act h.ok x⟩
theorem oc_new {w:World} {v:Value} {L:List PlD} {B:Nat} (H:Pls w v L B) (h:newE (pls L)=0):Oc (newC (pls L)) 0:=by
 have o:=new_ok h (pls_okl H);refine ⟨o,syn_new _ ?_⟩;have:=o.len.1;have e:(newC (pls L)).S.length=(pls L).length:=List.length_map _
 omega
section
end
section
end
end Go.Proofs.YtljnkaodhfnbbaaGreatDoor.Cu
