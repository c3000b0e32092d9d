import Derived.Test.YtdbdacceecnpmaaGreatDoorQr9
set_option maxRecDepth 100000
set_option maxHeartbeats 8000000
namespace Go.Proofs.YtdbdacceecnpmaaGreatDoor
open Go.Proofs.Tryz Go.RowKit
open Bu (OsL Osc buE buE_ok buE_wrong buL calmLB osc)
open Ck (Hd LL RdL lat sl zh)
open Fl (K4 R4 arr4 okL okR rec4 row_cell row_frozen z4)
open Fs (Abs Fx Glob OkA Only St Wf ow_only)
open Pa (K2 KB KN Stl Sts infoN ptr push_at rdE rdL rdS sat vat)
open Rw (At Ow Rd)
namespace Cu
open Go.Maps
open Sp (S2 fr tp Sp)
open Wi (Plain PlainOf Low Made)
open Fs (CopySt)
open Ro (may_len)
open Ck (tE may_all)
open Bu (buE_wild rdE_zero of_calmLB calm_any Bn line_any LineP lis lis_is osc_calm plain_few lowL_at heard_any HeardPost)
open Pa (Ns hr rdS_at rdS_len hr_ok round_any RoundPost apply_any ApPost copy_has wp_push_at HMap tab_each not_bad atB)
attribute [local irreducible] Sd.wpSd wpQuiet
theorem broundF_any {w:World} {vs vt vl vp vo:Value} {S:Sts} {T:LL} {V:List Bool} {P:List S2} {O:List Osc} (HS:Stl w vs S) (HT:RdL w vt T) (HV:Rd KB w vl V) (RP:Rd K2 w vp P) (HO:OsL w vo O) (hg:Glob w) (hd:∀ i,i < S.length->0<=(sat S i).2/\(sat S i).2 < 900000) :
 Calls prog 88 #[vs,vt,vl,vp,vo] w (BrP w (buE S T V O) (buL S T V P O)):=by
 have RO:=Hh (round_any HS HT HV RP hg hd);unfold RoundPost at RO;obtain ⟨sa,cs,rfl,ms⟩:=HS.slice;obtain ⟨oa,co,rfl,mo1,mo⟩:=HO.slice;unfold maxLen at ms mo;have OS:=Hh HO;have HS0:=Hh HS;have HT0:=Hh HT;have HV0:=Hh HV;have RP0:=Hh RP;have GG:=Hh hg;have DD:=Hh hd;clear HS HT HV RP HO hg hd
 by_cases hE:rdE S T V=0
 ·obtain ⟨f1,f2,f3,f4,f5⟩:=rdE_zero hE
  have WILD:Hid (¬ (O.length=S.length/\calmLB O=true)->∀ w',Below w.heap.size w w'->BrP w (buE S T V O) (buL S T V P O) (.returned (.tuple #[.slice none 0 0,.int .i64 1])) w'):=Hh (fun h w' b=>by
   obtain ⟨e1,e2⟩:=buE_wild (P:=P) hE h;rw [e1]
   exact ⟨_,[],fun _ _=>False,rfl,fun e=>absurd e (by decide),fun _=>rfl,b⟩)
  by_cases hl:O.length=S.length
  ·have CA:=Hh (fun W b=>calm_any W _ O (OS.below (w':=W) b))
   cases hc:calmLB O with
   | false =>
     have WL:=Hh (WILD (by rw [hc];simp));rw [hE] at RO;rw [hc] at CA;generalize buE S T V O=be at *;generalize buL S T V P O=bl at *;generalize rdL S T V P=rl at *;rw [hl] at CA ⊢;clear WILD OS HS0;generalize S.length=n at *
     go_enter func88,ntmps88
     go_wp2_with fail;refine RO.mono ?_;rintro e w1 ⟨v1,rfl,_,b1⟩;have C1:=Hh (CA w1 b1);have B1:=Hh b1;clear b1 CA RO;go_wp2_with fail;refine C1.mono ?_;rintro e w2 ⟨rfl,b2⟩;have RES:=Hh (WL w2 (bTr B1 b2));clear b2 C1 WL;go_wp2
     go_ret2
     exact RES
   | true =>
     obtain ⟨e1,e2⟩:=buE_ok (P:=P) hE hl hc;have cl:=of_calmLB hc;have BN:Hid (Bn w (.slice sa S.length cs) vt vl vp (.slice oa O.length co) S T V P O):=Hh ⟨⟨HS0,HT0,HV0,f3,f4,f5⟩,RP0,OS,hl,f2,cl⟩;have LN:=Hh (fun W b=>line_any (BN.below (w':=W) b));have LQ:Hid (∀ l,LineP S T V P O l->∀ k:Nat,k < S.length->lis l l (osc O k)=hr S T V P):=Hh (fun l h k hk=>lis_is f5 (by rw [hl,f3]) cl ⟨h.1,fun _=>Iff.rfl⟩ h.2 (osc_calm cl (by omega)));have LF:Hid (∀ l,LineP S T V P O l->l.length<=4294967297):=Hh (fun l h=>plain_few h.1 fun u hu=>lowL_at ((h.2 u).1 hu));have CO:Hid (∀ k:Nat,k < S.length->(osc O k).calm):=Hh (fun k hk=>osc_calm cl (by omega));have OH:=Hh (hr_ok S T V P);rw [hE] at RO;rw [hc] at CA;rw [e1,e2];clear WILD HT0 HV0 RP0;generalize hr S T V P=h at *;have AT:=Hh (fun i hi=>rdS_at S T V h (i:=i) hi);have RL:=Hh (rdS_len S T V h);generalize rdS S T V h=S' at *;generalize rdL S T V P=rl at *;have HL:=Hh hl;have F3:=Hh f3;have F4:=Hh f4;rw [hl] at CA LN BN ⊢;clear hl f3 f4 f5 e1 e2 cl hc hE;generalize hn:S.length=n at *;have HN:=Hh hn;clear hn
     go_enter func88,ntmps88
     go_wp2_with fail;refine RO.mono ?_;rintro e w1 ⟨v1,rfl,_,b1⟩;have C1:=Hh (CA w1 b1);have B1:=Hh b1;clear b1 CA RO;go_wp2_with fail;refine C1.mono ?_;rintro e w2 ⟨rfl,b2⟩;have B2:=bTr B1 b2;have L2:=Hh (LN w2 B2);clear b2 C1 B1 LN;go_wp2_with fail;refine L2.mono ?_;rintro e w3 ⟨v3,l,rfl,own3,lp,b3⟩;have BW:=bTr B2 b3;have SL3:=Hh own3.sp;have LP:=Hh lp;obtain ⟨la,lc,rfl,_⟩:=SL3.slice;clear own3 lp b3 L2 B2;generalize hll:l.length=ln at *;have HLL:=Hh hll;clear hll;go_wp2
     rename World=>wA
     go_loopw [47,15] (fun i o wr2=>∃ (k:Nat) (ps:List Nat) (Fs:Nat->Nat->Prop),k<=n/\i = .int .i64 k/\Hid (PJ 76 wA S' k o ps Fs wr2)) (fun i _ _=>n - (intOf i).toNat)
     case atStart=>exact ⟨0,[],fun _ _=>False,aI _,rfl,PJ.start (aa _ _)⟩
     case round =>
      obtain ⟨k,ps,Fs,hk,rfl,I⟩:=hrel;have BI:=Hh (BW.trans (I.bel.mono BW.size));obtain ⟨av,cv,ev,_⟩:=I.own.slice;have OWN:=Hh I.own;generalize ps.length=Lp at ev;subst ev
      by_cases hlt:k < n
      ·obtain ⟨b1,o1,c1,s,e1,cS,hS⟩:=BN.ns.st.one (k:=k) (by have:=HN.out;omega)
       rw [HN.out] at e1;injection e1 with e1 _ e2;subst e1 e2;obtain ⟨b2,o2,c2,at',ct,e2,cT,_,_⟩:=BN.ns.tb.one (k:=k) (by have:=F3.out;omega);have RT:=Hh (BN.ns.tb.rd (k:=k) (by have:=F3.out;omega) e2 cT);rw [F3.out] at e2;subst e2;obtain ⟨a3,c3,e3,_,_,h3⟩:=BN.ns.lv;rw [F4.out] at e3;subst e3;obtain ⟨b3,o3,rfl,A3⟩:=h3 (by have:=F4.out;omega);have cV:=atB (A3.below BI) (i:=k) (by have:=F4.out;omega);rw [show V.getD k false=vat V k from rfl] at cV;obtain ⟨b4,o4,c4,a4,d4,e4,cO,_,s4⟩:=BN.os.one (k:=k) (by have:=HL.out;omega);rw [HL.out] at e4;injection e4 with e4 _ e5;subst e4 e5;have S4:=Hh s4;have EA:=Hh (AT k (by have:=HN.out;omega));have OKT:=Hh (tab_each BN.ns.ok (k:=k) (by have:=F3.out;omega));have ML:=Hh (may_len (may_all (not_bad BN.ns.ok) k (by have:=F3.out;omega)));have HS2:Hid (∀ W,Below w.heap.size w W->Pa.Has W s (sat S k)):=Hh (fun W b=>by obtain ⟨F,h⟩:=hS;exact ⟨F,h.below b⟩);have CT:=Hh cT;have CC:=Hh cO;have lT:=aC _ _ cT;have lO:=aC _ _ cO;unfold ptr at cS;have sS:=bCe BI cS;have LN:=Hh I.len;clear hS h3 A3 s4 cS cT cO
       cases hv:vat V k with
       | true =>
         rw [hv] at cV;rw [hv,aj rfl] at EA;have EQ:=Hh (LQ l LP k hlt);have CK:=Hh (CO k hlt);generalize hlk:(lat T k).length=lk at *;go_upto_region 12 with fail;clear cV sS;have sT:=Sc.cell_in (C:=fun W=>Below w.heap.size w W) (a:=⟨b2,o2+k,none⟩) (fun W' h=>(h.cell lT).trans CT);have sO:=Sc.cell_in (C:=fun W=>Below w.heap.size w W) (a:=⟨b4,o4+k,none⟩) (fun W' h=>(h.cell lO).trans CC);have BD:=Hh (BI.trans ((aa wr.heap.size wr).drew.mono BI.size));have ne:Nonempty (Sc.In (fun W=>Below w.heap.size w W)):=⟨⟨_,BD⟩⟩;have ID:=Hh (I.below ((aa wr.heap.size wr).drew));refine Sc.start (fun W=>Below w.heap.size w W) [(false,0),(false,1),(false,2),(false,3),(false,4),(false,5),(false,6),(false,7),(false,8),(false,9),(false,10),(true,11),(true,12),(true,13),(true,14),(false,15)] (by kernel_rfl) (by kernel_rfl) (by kernel_rfl) BD ?_;dsimp only [Sd.picks,List.getElem?_cons_succ,List.getElem?_cons_zero]
         repeat (refine Sd.lit ?_;quiet_step (fail);refine az ?_)
         clear sT sO;generalize wr.drew=Wd at *;have HD:=Hh (heard_any (l:=l) (r:=osc O k) (SL3.below ID.bel) LP.out.1 (LF l LP) (S4.below BD) CK);rw [EQ.out] at HD;unfold HeardPost at HD;generalize (osc O k).n=on at *;refine Sd.call (by rfl) (fun K hK=>?_);go_simp;refine HD.mono ?_;rintro e w4 ⟨mb,rfl,hm,b4'⟩;have HM:=Hh hm;have B4:=bTr BD b4';have I4:=Hh (ID.below b4');refine hK _ _ (Sc.Cl.of B4) ?_;clear hK K b4' hm HD ID;have AP:=Hh (apply_any (HS2 w4 B4) (GG.below B4) (DD k (by omega)) (RT.out.below B4.out) (fun y hy=>(OKT.out y hy).1) (by have:=ML.out;omega) HM.out OH.out);unfold ApPost at AP;refine Sd.call (by rfl) (fun K hK=>?_);go_simp;refine AP.mono ?_;rintro e w5 ⟨g,F5,rfl,st5,lo5,b5⟩;have B5:=bTr B4 b5;refine hK _ _ (Sc.Cl.of B5) ?_;clear hK K;unfold ptr;refine Sd.call (by rfl) (fun K hK=>?_);go_simp;have I5:=Hh ((I4.pend b5 (by rw [EA.out];exact st5) lo5).below ((aa w5.heap.size w5).alloc (ac _) (.cells #[.pointer (some ⟨g,0,none⟩)] 76)));have N6:=Hh (am w5 (.cells #[.pointer (some ⟨g,0,none⟩)] 76));have B6:=Hh (B5.alloc B5.size (.cells #[.pointer (some ⟨g,0,none⟩)] 76));refine hK _ _ (Sc.Cl.of B6) ?_;clear hK K st5 lo5 b5 I OWN AP I4 BD;generalize w5.heap.size=g5 at *;generalize (w5.alloc (.cells #[.pointer (some ⟨g,0,none⟩)] 76))=W6 at *;refine Sd.call (by rfl) (fun K hK=>?_);refine wp_push_at (K:=KN) underlying171 infoN rfl (by omega) _ _ rfl wA.heap.size _ _ rfl I5.out.old.own _ g rfl ?d1 ?d2 ?d3 ?_
         case d1 =>
          intro j u hu
          match j,hu with
          | 0,hu=>simp [KN] at hu;subst hu;exact row_cell N6.out 0
          | j+1,hu=>simp [KN] at hu
         case d2=>rw [LN.out];omega
         case d3=>have:=I5.old.bel.size;exact this
         intro v' w6 o6 g6 h6
         have NEW:=Hh (I5.push o6 g6 h6);refine hK _ _ (Sc.Cl.of (BW.trans (NEW.bel.mono BW.size))) ?_;clear hK K o6 g6 h6 I5 B5 B6 N6;obtain ⟨av',cv',ev',_⟩:=NEW.own.slice;generalize (ps ++ [g]).length=Lp' at ev';subst ev'
         repeat (refine Sd.lit ?_;quiet_step (fail);refine az ?_)
         refine Sd.done ?_;go_wp2
         go_roundw
         case rel=>exact ⟨k+1,ps ++ [g],_,by omega,by go_num,NEW⟩
         case measure=>simp [intOf];omega
       | false =>
         rw [hv] at cV;rw [hv,ah bO] at EA;have AP:=Hh (copy_has (HS2 wr BI));unfold CopySt at AP;generalize (lat T k).length=lk at *;generalize (osc O k).n=on at *;go_wp2_with fail;refine AP.mono ?_;rintro e w5 ⟨g,F5,rfl,st5,lo5,b5⟩;have I5:=Hh ((I.pend b5 (by rw [EA.out];exact st5) lo5).below ((aa w5.heap.size w5).alloc (ac _) (.cells #[.pointer (some ⟨g,0,none⟩)] 76)));clear st5 lo5 b5 I OWN AP cV sS
         (try unfold ptr)
         go_wp2_with (at_builtin;refine push_at (K:=KN) underlying171 infoN rfl (by omega) rfl _ _ rfl wA.heap.size _ _ rfl I5.out.old.own _ g rfl ?d1 ?d2 ?d3 ?_)
         case d1 =>
          intro j u hu
          match j,hu with
          | 0,hu=>simp [KN] at hu;subst hu;unfold ptr;go_simp
          | j+1,hu=>simp [KN] at hu
         case d2=>rw [LN.out];omega
         case d3=>have:=I5.old.bel.size;exact this
         intro v' w6 o6 g6 h6
         have NEW:=Hh (I5.push o6 g6 (by simpa using h6));clear o6 g6 h6 I5;obtain ⟨av',cv',ev',_⟩:=NEW.own.slice;generalize (ps ++ [g]).length=Lp' at ev';subst ev';go_wp2
         go_roundw
         case rel=>exact ⟨k+1,ps ++ [g],_,by omega,by go_num,NEW⟩
         case measure=>simp [intOf];omega
      ·obtain rfl:k=n:=by omega
       have RES:Hid (BrP w 0 S' (.returned (.tuple #[.slice av Lp cv,.int .i64 0])) wr):=Hh ⟨_,ps,Fs,rfl,fun _=>by rw [RL.out];exact I.out.low BW.out.size BI.out,fun e=>absurd rfl e,BI.out⟩;clear I OWN;go_wp2
       go_ret2
       exact RES
  ·have WL:=Hh (WILD fun h=>hl h.1)
   rw [hE] at RO;generalize buE S T V O=be at *;generalize buL S T V P O=bl at *;generalize rdL S T V P=rl at *;clear WILD OS HS0 DD;generalize S.length=n at *;generalize O.length=no at *;have hne:((no:Int) != (n:Int))=true:=by simp;omega
   go_enter func88,ntmps88
   go_wp2_with fail;refine RO.mono ?_;rintro e w1 ⟨v1,rfl,_,b1⟩;have RES:=Hh (WL w1 b1);clear b1 RO WL;go_wp2
   go_ret2
   exact RES
 ·obtain ⟨e1,e2⟩:=buE_wrong (O:=O) (P:=P) hE
  rw [e1,e2];have HEE:=Hh hE;have hne:(rdE S T V != 0)=true:=by simpa using hE
  clear hE OS HS0 DD e1 e2;generalize rdE S T V=E at *;generalize rdL S T V P=rl at *;generalize S.length=n at *;generalize O.length=no at *
  go_enter func88,ntmps88
  go_wp2_with fail;refine RO.mono ?_;rintro e w1 ⟨v1,rfl,_,b1⟩;have RES:Hid (BrP w E [] (.returned (.tuple #[.slice none 0 0,.int .i64 E])) w1):=Hh ⟨_,[],fun _ _=>False,rfl,fun e=>absurd e HEE,fun _=>rfl,b1⟩;clear b1 RO;go_wp2
  go_ret2
  exact RES
end Cu
namespace Cu
open Go.Maps
open Pa (S2 hr)
open Ck (KS infoS)
open Ro (E5 K5)
open Bu (ofS)
attribute [local irreducible] Sd.wpSd wpQuiet
theorem infoB1:(prog.info? 4).map (fun i=>(i.zero,i.size,i.bytes))=some (some (.bool false),1,1):=by kernel_rfl
theorem infoT1:(prog.info? 179).map (fun i=>(i.zero,i.size,i.bytes))=some (some (.slice none 0 0),1,24):=by kernel_rfl
def caS (S:Sts) (T:LL) (V:List Bool) (P:List S2):Sts:=if rdE S T V=0 then rdL S T V P else S
variable {S:Sts} {T:LL} {V:List Bool} {P:List S2}
theorem bu_calm {O:List Osc} (hl:O.length=S.length) (hc:calmLB O=true):buE S T V O=rdE S T V/\(rdE S T V=0->buL S T V P O=rdL S T V P):=by
 by_cases h:rdE S T V=0
 ·obtain ⟨a,b⟩:=buE_ok (P:=P) h hl hc
  exact ⟨a.trans h.symm,fun _=>by rw [b];exact (aj h).symm⟩
 ·obtain ⟨a,b⟩:=buE_wrong (O:=O) (P:=P) h
  exact ⟨a,fun g=>absurd g h⟩
theorem rdL_len (h:rdE S T V=0):(rdL S T V P).length=S.length:=by
 have e:rdL S T V P=rdS S T V (hr S T V P):=aj h;rw [e,Pa.rdS_len]
theorem ccarry_any {s t p:Nat} {F:Nat->Prop} {c:Cs} {vn vq:Value} {L:List Nd} {Fs:Nat->Nat->Prop} {w:World} (h:Cl w s F c t vn L p vq Fs) (hlen:2<=c.S.length/\c.S.length<=32) (hlv:c.V.length=c.S.length) (hst:∀ i:Nat,i < c.S.length->0<=(sat c.S i).2/\(sat c.S i).2 < 900000) (hg:Glob w) {r:Int} (hr:0<=r/\r<=5) {vp:Value} (RP:Rd K2 w vp P) :
 Calls prog 60 #[ptr s,.int .i64 r,vp] w (DoC w s F { c with S:=caS c.S (tbs c.S r) c.V P } t (rdE c.S (tbs c.S r) c.V)):=by
 obtain ⟨g,cap,rfl,-,hm,-⟩:=h.one (i:=0) (by omega);have H:=Hh h;have HL:=Hh h.len;have HT:=Hh (tbs_len c.S r);have OK:=Hh hlv;have GG:=Hh hg;have R:=Hh RP
 have CT:Hid (∀ wr,Below w.heap.size w wr->∀ k:Nat,k < c.S.length->Calls prog 87 #[ptr s,.int .i64 k,.int .i64 r] wr (TbC wr (lat (tbs c.S r) k))):=Hh (fun wr b k hk=>by
  have:=ctable_any (H.below b) hk (k:=r) ⟨hr.1,by omega⟩;rw [← tbs_at c.S r hk] at this
  exact this)
 have ND:Hid (∀ wr,Below w.heap.size w wr->∀ k:Nat,k < c.S.length->wr.cell? ⟨s,0,none⟩=some (.slice (some ⟨g,0,none⟩) c.S.length cap)/\wr.cell? ⟨g,k * 3,none⟩=some (ptr (nda L k).s)/\wr.cell? ⟨g,k * 3+1,none⟩=some (.bool (nda L k).live)/\wr.cell? ⟨g,k * 3+2,none⟩=some (.int .i64 (nda L k).rate)):=Hh (fun wr b k hk=>⟨(H.below b).cells.1,(H.below b).nod hk⟩);have CC:=Hh (rosc_calm h.rt);have OL:=Hh ((rosc_len L).trans h.len);have DV:=Hh hst;have BE:=Hh (fun S T V P=>bu_calm (S:=S) (T:=T) (V:=V) (P:=P) (O:=rosc L));have N32:=Hh hlen;have d0:=h.cells.1;obtain ⟨pa,pc,rfl,_⟩:=RP.slice;have C0:=Hh (CI.start w (tbs c.S r) L);clear h hlen hlv hst hg RP hr;generalize hT:tbs c.S r=T at *;generalize hPl:P.length=pl at *;generalize hn:c.S.length=n at *;have HN:=Hh hn;have HPL:=Hh hPl;generalize hRE:rdE c.S T c.V=re at *;generalize hCS:caS c.S T c.V P=S2 at *;have RE:=Hh hRE;have CS:=Hh hCS;clear hn hPl hT hRE hCS;unfold ptr at *
 go_enter func60,ntmps60
 go_wp2;clear d0
 go_loopw [22,7,8,9,10] (fun i o1 o2 o3 o4 wr=>∃ (k:Nat) (l1:List Nat) (l2:List Hd) (l3:List Bool) (l4:List Hd) (p1 p2 p3 p4:Value),k<=n/\i = .int .i64 k/\p1=o1/\p2=o2/\p3=o3/\p4=o4/\Hid (CI w T L k k k k o1 l1 o2 l2 o3 l3 o4 l4 wr)) (fun i _ _ _ _ _=>n - (intOf i).toNat)
 case atStart=>exact ⟨0,[],[],[],[],_,_,_,_,aI _,rfl,rfl,rfl,rfl,rfl,C0⟩
 case round =>
  clear C0;obtain ⟨k,l1,l2,l3,l4,p1,p2,p3,p4,hk,rfl,rfl,rfl,rfl,rfl,I⟩:=hrel;obtain ⟨a1,c1,e1,_,_⟩:=I.w1.slice;obtain ⟨a2,c2,e2,_,_⟩:=I.w2.slice;obtain ⟨a3,c3,e3,_,_⟩:=I.w3.slice;obtain ⟨a4,c4,e4,_,_⟩:=I.w4.slice;have N1:=Hh I.n1;have N2:=Hh I.n2;have N3:=Hh I.n3;have N4:=Hh I.n4;generalize l1.length=m1 at e1;generalize l2.length=m2 at e2;generalize l3.length=m3 at e3;generalize l4.length=m4 at e4;subst e1 e2 e3 e4
  by_cases hlt:k < n
  ·have HLT:=Hh hlt
   obtain ⟨d0,y0,y1,y2⟩:=ND wr I.bel k hlt;generalize hx:nda L k=x at *;have HX:=Hh hx;clear hx;have Z0:=Hh (am wr (.cells #[.pointer (some ⟨x.s,0,none⟩),.bool x.live,.int .i64 x.rate] 78));have BN:=Hh ((aa wr.heap.size wr).alloc (ac _) (.cells #[.pointer (some ⟨x.s,0,none⟩),.bool x.live,.int .i64 x.rate] 78));go_upto_region 8 with fail;clear y0 y1 y2 d0;generalize wr.alloc (.cells #[.pointer (some ⟨x.s,0,none⟩),.bool x.live,.int .i64 x.rate] 78)=W at *;have I1:=Hh (I.below BN);generalize wr.heap.size=gx at *;have y0:=Fl.rc Z0 0;have I2:=Hh (I1.below ((aa W.heap.size W).alloc (ac _) (.cells #[.pointer (some ⟨x.s,0,none⟩)] 76)));have BX:=Hh I2.bel.size;clear I BN
   go_wp2_with (at_builtin;refine push_at (K:=KN) underlying171 infoN rfl (by omega) rfl _ _ rfl w.heap.size _ _ rfl I2.out.w1 _ x.s rfl ?d1 ?d2 ?d3 ?_)
   case d1 =>
    intro j u hu
    match j,hu with
    | 0,hu=>simp [KN] at hu;subst hu;unfold ptr;go_simp
    | j+1,hu=>simp [KN] at hu
   case d2=>rw [N1.out];have:=N32.out;omega
   case d3=>exact BX
   intro v1 w1 o1 g1 h1
   have NEW1:=Hh (I2.push1 o1 (by simpa using g1) (by rw [HX.out]));have Z1:=Hh ((((aa W.heap.size W).alloc (ac _) (.cells #[.pointer (some ⟨x.s,0,none⟩)] 76)).block gx (ay Z0)).trans Z0);have Y1:=Hh ((g1.block gx (ay Z1) (fun e=>I2.w1.apart Z1 (by decide) e.symm)).trans Z1);clear o1 g1 h1 I1 I2 BX y0 Z0 Z1;obtain ⟨av1,cv1,ev1,_⟩:=NEW1.w1.slice;generalize (l1 ++ [x.s]).length=Lp1 at ev1;subst ev1;have C2:=Hh (CT w1 NEW1.bel k hlt);unfold TbC at C2;go_upto_region 9 with fail;go_wp2_with fail;refine C2.mono ?_;rintro e w2 ⟨u2,rfl,o2,b2⟩;have I3:=Hh (NEW1.below b2);have U2:=Hh (o2.low NEW1.bel.size);have Y2:=Hh ((b2.block gx (ay Y1)).trans Y1);obtain ⟨a6,c6,e6,_,_⟩:=U2.slice;generalize (lat T k).length=lk at e6;subst e6;have B3:=Hh ((aa w2.heap.size w2).alloc (ac _) (.cells #[.slice a6 lk c6] 175));have I4:=Hh (I3.below B3);have U3:=Hh (U2.keep B3);have Y3:=Hh ((B3.block gx (ay Y2)).trans Y2);have BX:=Hh I4.bel.size;clear o2 b2 C2 NEW1 U2 I3 Y1 Y2 B3
   go_wp2_with (at_builtin;refine push_at (K:=KS) underlying172 infoS rfl (by omega) rfl _ _ rfl w.heap.size _ _ rfl I4.out.w2 _ (a6,lk,c6) rfl ?d1 ?d2 ?d3 ?_)
   case d1 =>
    intro j u hu
    match j,hu with
    | 0,hu=>simp [KS] at hu;subst hu;unfold sl;go_simp
    | j+1,hu=>simp [KS] at hu
   case d2=>rw [N2.out];have:=N32.out;omega
   case d3=>exact BX
   intro v3 w3 o3 g3 h3
   have NEW2:=Hh (I4.push2 (x:=(a6,lk,c6)) o3 (by simpa using g3) U3.out);have Y4:=Hh ((g3.block gx (ay Y3) (fun e=>I4.w2.apart Y3 (by decide) e.symm)).trans Y3);clear o3 g3 h3 I4 U3 BX Y3;obtain ⟨av2,cv2,ev2,_⟩:=NEW2.w2.slice;generalize (l2 ++ [(a6,lk,c6)]).length=Lp2 at ev2;subst ev2;go_upto_region 10 with fail;have y1:=Fl.rc Y4 1;have B5:=Hh ((aa w3.heap.size w3).alloc (ac _) (.cells #[.bool x.live] 4));have I5:=Hh (NEW2.below B5);have Y5:=Hh ((B5.block gx (ay Y4)).trans Y4);have BX:=Hh I5.bel.size;clear NEW2 Y4 B5
   go_wp2_with (at_builtin;refine push_at (K:=KB) underlying173 infoB1 rfl (by omega) rfl _ _ rfl w.heap.size _ _ rfl I5.out.w3 _ x.live rfl ?d1 ?d2 ?d3 ?_)
   case d1 =>
    intro j u hu
    match j,hu with
    | 0,hu=>simp [KB] at hu;subst hu;go_simp
    | j+1,hu=>simp [KB] at hu
   case d2=>rw [N3.out];have:=N32.out;omega
   case d3=>exact BX
   intro v5 w5 o5 g5 h5
   have NEW3:=Hh (I5.push3 o5 (by simpa using g5) (by rw [HX.out]));have Y6:=Hh ((g5.block gx (ay Y5) (fun e=>I5.w3.apart Y5 (by decide) e.symm)).trans Y5);clear o5 g5 h5 I5 BX Y5 y1;obtain ⟨av3,cv3,ev3,_⟩:=NEW3.w3.slice;generalize (l3 ++ [x.live]).length=Lp3 at ev3;subst ev3;go_upto_region 11 with fail;have y2:=Fl.rc Y6 2;have LT:=Hh (Rw.Ow.lit (K:=K2) w5 w.heap.size 178 [(0,x.rate)] NEW3.bel.size (by unfold maxLen;simp));have B7:=Hh ((aa w5.heap.size w5).alloc (ac _) (.cells #[.int .i64 0,.int .i64 x.rate] 178));generalize hg7:w5.heap.size=g7 at *;have B8:=Hh ((aa (w5.alloc (.cells #[.int .i64 0,.int .i64 x.rate] 178)).heap.size (w5.alloc (.cells #[.int .i64 0,.int .i64 x.rate] 178))).alloc (ac _) (.cells #[.slice (some ⟨g7,0,none⟩) 1 1] 179));have I7:=Hh ((NEW3.below (by have:=B7.out;rw [← hg7] at this;exact this)).below B8.out);have U8:=Hh (LT.keep B8);have BX:=Hh I7.bel.size;clear NEW3 Y6 LT B7 B8
   go_wp2_with (at_builtin;refine push_at (K:=KS) underlying174 infoT1 rfl (by omega) rfl _ _ rfl w.heap.size _ _ rfl I7.out.w4 _ (some ⟨g7,0,none⟩,1,1) rfl ?d1 ?d2 ?d3 ?_)
   case d1 =>
    intro j u hu
    match j,hu with
    | 0,hu=>simp [KS] at hu;subst hu;unfold sl;go_simp
    | j+1,hu=>simp [KS] at hu
   case d2=>rw [N4.out];have:=N32.out;omega
   case d3=>exact BX
   intro v7 w7 o7 g7' h7
   have NEW4:=Hh (I7.push4 (x:=(some ⟨g7,0,none⟩,1,1)) o7 (by simpa using g7') (by rw [HX.out];exact U8.out));clear o7 g7' h7 I7 BX y2 U8;obtain ⟨av4,cv4,ev4,_⟩:=NEW4.w4.slice;generalize List.length _=Lp4 at ev4;subst ev4;have n32:=N32.out.2;go_wp2
   go_roundw
   case rel=>exact ⟨k+1,_,_,_,_,_,_,_,_,by have:=HLT.out;omega,by go_num,rfl,rfl,rfl,rfl,NEW4⟩
   case measure=>have:=HLT;simp [intOf];omega
  ·obtain rfl:k=n:=by omega
   have CR:=Hh (broundF_any (w:=wr) (S:=c.S) (T:=T) (V:=c.V) (P:=P) (O:=rosc L) (CI.stl (by rw [HN.out];exact I.out) H.out) (CI.tab I.out (by rw [HT.out])) (CI.liv (by rw [HN.out];exact I.out) H.out (by rw [OK.out,HN.out])) (R.out.below I.out.bel) (CI.osl (by rw [HL.out];exact I.out)) (GG.out.below I.out.bel) (by rw [HN.out];exact DV.out));obtain ⟨q1,q2⟩:=BE c.S T c.V P (by rw [HN.out];exact OL.out) CC.out;rw [q1,RE.out] at CR;have Q2:=Hh q2;have BW:=Hh I.bel;have HW:=Hh (H.below I.bel);have LOW:=Hh H.low;clear q1 q2 I N1 N2 N3 N4 CT ND DV BE R;unfold BrP at CR
   by_cases hE:re=0
   ·have HS:Hid (S2=rdL c.S T c.V P):=Hh (by rw [← CS.out];exact aj (RE.out.trans hE))
    have HR:Hid (S2.length=k):=Hh (by rw [HS.out,rdL_len (RE.out.trans hE),HN.out]);rw [Q2.out (RE.out.trans hE),← HS.out] at CR;subst hE;clear Q2 HS;go_wp2_with fail;refine CR.mono ?_;rintro e w2 ⟨v,ps,Gs,rfl,hpj,_,b2⟩;have PJ2:=Hh (hpj trivial);have H2:=Hh (HW.below b2);have P0:Hid (PL w2 g cap k L ps 0 w2):=Hh ⟨by rw [put1_zero];exact H2.out.no,Only.refl _ _⟩;have D0:=Hh H2.cells.1;have NS:Hid (s≠g):=Hh (fun e=>H2.vs.1 (by rw [e];rfl));have PLN:Hid (ps.length=k):=Hh (by rw [PJ2.out.len,HR.out]);obtain ⟨gb,cb,ev,_,_,_,_,_,hA⟩:=PJ2.own.form (by have:=PLN.out;have:=N32.out;omega);rw [PLN.out] at ev
    have AT:Hid (∀ i,i < k->w2.cell? ⟨gb,i,none⟩=some (.pointer (some ⟨ps.getD i 0,0,none⟩))):=Hh (fun i hi=>by
     have:=Pa.atN hA (i:=i) (by rw [PLN.out];exact hi);rw [cd] at this
     exact this)
    have NB:Hid (gb≠g):=Hh (fun e=>by
     obtain ⟨_,q⟩:=H2.no
     rcases q with ⟨q,_⟩ | ⟨b,cap',cur,q,_,hh,_⟩
     ·cases q
     ·injection q with q1 _ _
      injection q1 with q1;injection q1 with q1 _ _
      exact PJ2.own.apart hh (by decide) (by rw [ev,e,q1];rfl))
    have FIN:Hid (∀ w',PL w2 g cap k L ps k w'->DoC w s F { c with S:=S2 } t 0 (.returned (.int .i64 0)) w'):=Hh (fun w' pp=>by
     have q:=Cl.carry HW (g:=g) (cap:=cap) (by rw [HN.out]) PJ2.out (by rw [HR.out,HN.out]) (by rw [HN.out];exact pp)
     exact (show DoC wr s F { c with S:=S2 } t 0 (.returned (.int .i64 0)) w' from ⟨rfl,⟨_,_,_,_,_,q.1⟩,q.2⟩).pre BW LOW)
    subst ev;clear hpj b2 hA CR;obtain ⟨wo,hwo⟩:∃ x,x=wr:=⟨_,rfl⟩;subst hwo;go_wp2
    go_loopw [63] (fun i wr3=>∃ j:Nat,j<=k/\i = .int .i64 j/\Hid (PL w2 g cap k L ps j wr3)) (fun i _=>k - (intOf i).toNat)
    case atStart=>exact ⟨0,aI _,rfl,P0⟩
    case round =>
     clear P0;obtain ⟨j,hj,rfl,PP⟩:=hrel
     by_cases hlj:j < k
     ·have y0:=PP.only.cell (AT j hlj) NB
      have y1:=PP.only.cell D0 NS;have hpl:(put1 L ps j).length=k:=by rw [put1_len];exact HL.out
      have PO:=PP.own;obtain ⟨g',cap',e',_,_,_,_,fz,hA⟩:=PO.form (by omega);injection e' with e1 _ e3;injection e1 with e1;injection e1 with e1 _ _;subst e1 e3;have y2:=(atD hA (i:=j) (by omega)).1;have f2:=fz (j * 3);rw [cd] at y2;unfold ptr at y2;have P1:=Hh (PP.step HL hlj);unfold ptr at P1;have HLJ:=Hh hlj;clear PP hA fz PO hpl;generalize ps.getD j 0=nj at *;generalize (nda (put1 L ps j) j).s=oj at *;have n32:=N32.out.2;go_wp2
      go_roundw
      case rel=>exact ⟨j+1,by have:=HLJ.out;omega,by go_num,P1⟩
      case measure=>have:=HLJ;simp [intOf];omega
     ·obtain rfl:j=k:=by omega
      have E:=Hh (FIN wr PP);clear FIN PP;go_wp2
      go_ret
      exact E
   ·have HS:Hid (S2=c.S):=Hh (by rw [← CS.out];exact ah (fun e=>hE (RE.out.symm.trans e)))
    clear Q2;go_wp2_with fail;refine CR.mono ?_;rintro e w2 ⟨v,ps,Gs,rfl,_,hv,b2⟩;obtain rfl:=hv hE
    have E:Hid (DoC w s F { c with S:=S2 } t re (.returned (.int .i64 re)) w2):=Hh (by
     rw [HS.out]
     exact (doc_below HW b2 re).pre BW LOW)
    clear b2 hv CR;obtain ⟨wo,hwo⟩:∃ x,x=wr:=⟨_,rfl⟩;subst hwo;go_wp2
    go_loopw [63] (fun i wr3=>i = .int .i64 0/\w2=wr3) (fun _ _=>0)
    case atStart=>exact ⟨rfl,rfl⟩
    case round =>
     obtain ⟨rfl,rfl⟩:=hrel;go_wp2
     go_ret
     exact E
end Cu
namespace Wt
open Fl (ret_bool at_bool)
attribute [local irreducible] Sd.wpSd wpQuiet
def hZ (r z:Int):Int:=if r=2\/r=3 then 0 else z
def wZ (r z:Int):Int:=if r=2\/r=3 then z+1 else z
variable {w:World} {s t:Nat} {r0 z0 r1 z1 r z q:Int}
theorem wait0 (h:RowM w s r0 z0 r1 z1) (hz:0<=z0/\z0<=1000000):Calls prog 85 #[.pointer (some ⟨s,0,none⟩)] w fun e w'=>e = .returned (.tuple #[])/\RowM w' s r0 (wZ r0 z0) r1 z1/\Only (fun b=>b=s) w w':=by
 obtain ⟨c0,c1,f0,f1⟩:=rf2 h;have R:=Hh h;clear h
 by_cases h2:r0=2
 ·subst h2
  have wr:IntKind.i64.wrap (z0+1)=z0+1:=aR _ (by omega);have F:Hid (RowM (w.setCell ⟨s,1,none⟩ (.int .i64 (z0+1))) s 2 (wZ 2 z0) r1 z1/\Only (fun b=>b=s) w (w.setCell ⟨s,1,none⟩ (.int .i64 (z0+1)))):=Hh ⟨R.set1 _,only_set s 1 _ _⟩;clear R hz
  go_enter func85,ntmps85
  go_wp2
  first | go_end0 | refine aA (results_none rfl _ _ _) rfl ?_
  exact ⟨rfl,F⟩
 ·by_cases h3:r0=3
  ·subst h3
   clear h2;have wr:IntKind.i64.wrap (z0+1)=z0+1:=aR _ (by omega);have F:Hid (RowM (w.setCell ⟨s,1,none⟩ (.int .i64 (z0+1))) s 3 (wZ 3 z0) r1 z1/\Only (fun b=>b=s) w (w.setCell ⟨s,1,none⟩ (.int .i64 (z0+1)))):=Hh ⟨R.set1 _,only_set s 1 _ _⟩;clear R hz
   go_enter func85,ntmps85
   go_wp2
   first | go_end0 | refine aA (results_none rfl _ _ _) rfl ?_
   exact ⟨rfl,F⟩
  ·have e1:wZ r0 z0=z0:=ah (by omega)
   have F:Hid (RowM w s r0 (wZ r0 z0) r1 z1/\Only (fun b=>b=s) w w):=Hh ⟨by rw [e1];exact R.out,Only.refl _ _⟩;have q2:=aY.2 h2;have q3:=aY.2 h3;clear R h2 h3 e1
   go_enter func85,ntmps85
   go_wp2
   first | go_end0 | refine aA (results_none rfl _ _ _) rfl ?_
   exact ⟨rfl,F⟩
theorem wait1 (h:RowM w s r0 z0 r1 z1) (hz:0<=z1/\z1<=1000000):Calls prog 85 #[.pointer (some ⟨s,2,none⟩)] w fun e w'=>e = .returned (.tuple #[])/\RowM w' s r0 z0 r1 (wZ r1 z1)/\Only (fun b=>b=s) w w':=by
 have c0:=Fl.rc h 2;have c1:=Fl.rc h 3;have f0:=row_frozen h 2;have f1:=row_frozen h 3;have R:=Hh h;clear h
 by_cases h2:r1=2
 ·subst h2
  have wr:IntKind.i64.wrap (z1+1)=z1+1:=aR _ (by omega);have F:Hid (RowM (w.setCell ⟨s,3,none⟩ (.int .i64 (z1+1))) s r0 z0 2 (wZ 2 z1)/\Only (fun b=>b=s) w (w.setCell ⟨s,3,none⟩ (.int .i64 (z1+1)))):=Hh ⟨R.set3 _,only_set s 3 _ _⟩;clear R hz
  go_enter func85,ntmps85
  go_wp2
  first | go_end0 | refine aA (results_none rfl _ _ _) rfl ?_
  exact ⟨rfl,F⟩
 ·by_cases h3:r1=3
  ·subst h3
   clear h2;have wr:IntKind.i64.wrap (z1+1)=z1+1:=aR _ (by omega);have F:Hid (RowM (w.setCell ⟨s,3,none⟩ (.int .i64 (z1+1))) s r0 z0 3 (wZ 3 z1)/\Only (fun b=>b=s) w (w.setCell ⟨s,3,none⟩ (.int .i64 (z1+1)))):=Hh ⟨R.set3 _,only_set s 3 _ _⟩;clear R hz
   go_enter func85,ntmps85
   go_wp2
   first | go_end0 | refine aA (results_none rfl _ _ _) rfl ?_
   exact ⟨rfl,F⟩
  ·have e1:wZ r1 z1=z1:=ah (by omega)
   have F:Hid (RowM w s r0 z0 r1 (wZ r1 z1)/\Only (fun b=>b=s) w w):=Hh ⟨by rw [e1];exact R.out,Only.refl _ _⟩;have q2:=aY.2 h2;have q3:=aY.2 h3;clear R h2 h3 e1
   go_enter func85,ntmps85
   go_wp2
   first | go_end0 | refine aA (results_none rfl _ _ _) rfl ?_
   exact ⟨rfl,F⟩
theorem hear0 (h:RowM w s r0 z0 r1 z1):Calls prog 86 #[.pointer (some ⟨s,0,none⟩)] w fun e w'=>e = .returned (.tuple #[])/\RowM w' s (hdN r0) (hZ r0 z0) r1 z1/\Only (fun b=>b=s) w w':=by
 obtain ⟨c0,c1,f0,f1⟩:=rf2 h;have R:=Hh h;clear h
 by_cases h2:r0=2
 ·subst h2
  have F:Hid (RowM (w.setCell ⟨s,1,none⟩ (.int .i64 0)) s (hdN 2) (hZ 2 z0) r1 z1/\Only (fun b=>b=s) w (w.setCell ⟨s,1,none⟩ (.int .i64 0))):=Hh ⟨R.set1 _,only_set s 1 _ _⟩;clear R
  go_enter func86,ntmps86
  go_wp2
  first | go_end0 | refine aA (results_none rfl _ _ _) rfl ?_
  exact ⟨rfl,F⟩
 ·by_cases h3:r0=3
  ·subst h3
   clear h2;have F:Hid (RowM ((w.setCell ⟨s,0,none⟩ (.int .i64 2)).setCell ⟨s,1,none⟩ (.int .i64 0)) s (hdN 3) (hZ 3 z0) r1 z1/\Only (fun b=>b=s) w ((w.setCell ⟨s,0,none⟩ (.int .i64 2)).setCell ⟨s,1,none⟩ (.int .i64 0))):=Hh ⟨(R.set0 _).set1 _,(only_set s 0 _ _).trans (only_set s 1 _ _) (fun _ _ q=>q)⟩;clear R
   go_enter func86,ntmps86
   go_wp2
   first | go_end0 | refine aA (results_none rfl _ _ _) rfl ?_
   exact ⟨rfl,F⟩
  ·have e1:hZ r0 z0=z0:=ah (by omega)
   have e2:hdN r0=r0:=ah h3;have F:Hid (RowM w s (hdN r0) (hZ r0 z0) r1 z1/\Only (fun b=>b=s) w w):=Hh ⟨by rw [e1,e2];exact R.out,Only.refl _ _⟩;have q2:=aY.2 h2;have q3:=aY.2 h3;clear R h2 h3 e1 e2
   go_enter func86,ntmps86
   go_wp2
   first | go_end0 | refine aA (results_none rfl _ _ _) rfl ?_
   exact ⟨rfl,F⟩
theorem hear1 (h:RowM w s r0 z0 r1 z1):Calls prog 86 #[.pointer (some ⟨s,2,none⟩)] w fun e w'=>e = .returned (.tuple #[])/\RowM w' s r0 z0 (hdN r1) (hZ r1 z1)/\Only (fun b=>b=s) w w':=by
 have c0:=Fl.rc h 2;have c1:=Fl.rc h 3;have f0:=row_frozen h 2;have f1:=row_frozen h 3;have R:=Hh h;clear h
 by_cases h2:r1=2
 ·subst h2
  have F:Hid (RowM (w.setCell ⟨s,3,none⟩ (.int .i64 0)) s r0 z0 (hdN 2) (hZ 2 z1)/\Only (fun b=>b=s) w (w.setCell ⟨s,3,none⟩ (.int .i64 0))):=Hh ⟨R.set3 _,only_set s 3 _ _⟩;clear R
  go_enter func86,ntmps86
  go_wp2
  first | go_end0 | refine aA (results_none rfl _ _ _) rfl ?_
  exact ⟨rfl,F⟩
 ·by_cases h3:r1=3
  ·subst h3
   clear h2;have F:Hid (RowM ((w.setCell ⟨s,2,none⟩ (.int .i64 2)).setCell ⟨s,3,none⟩ (.int .i64 0)) s r0 z0 (hdN 3) (hZ 3 z1)/\Only (fun b=>b=s) w ((w.setCell ⟨s,2,none⟩ (.int .i64 2)).setCell ⟨s,3,none⟩ (.int .i64 0))):=Hh ⟨(R.set2 _).set3 _,(only_set s 2 _ _).trans (only_set s 3 _ _) (fun _ _ q=>q)⟩;clear R
   go_enter func86,ntmps86
   go_wp2
   first | go_end0 | refine aA (results_none rfl _ _ _) rfl ?_
   exact ⟨rfl,F⟩
  ·have e1:hZ r1 z1=z1:=ah (by omega)
   have e2:hdN r1=r1:=ah h3;have F:Hid (RowM w s r0 z0 (hdN r1) (hZ r1 z1)/\Only (fun b=>b=s) w w):=Hh ⟨by rw [e1,e2];exact R.out,Only.refl _ _⟩;have q2:=aY.2 h2;have q3:=aY.2 h3;clear R h2 h3 e1 e2
   go_enter func86,ntmps86
   go_wp2
   first | go_end0 | refine aA (results_none rfl _ _ _) rfl ?_
   exact ⟨rfl,F⟩
theorem opn_du (a:A) (z0 z1:Int) (t:Nat) (v:Vm a z0 z1 t):(a.r0=1->opn a=0)/\(a.r0≠1->a.r1=1->opn a=1)/\(a.r0≠1->a.r1≠1->(du a.r0 z0 0=true->opn a=0)/\(du a.r0 z0 0=false->(du a.r1 z1 1=true->opn a=1)/\(du a.r1 z1 1=false->opn a = -1))):=by
 have e0:=v.e0;have e1:=v.e1;have D0:du a.r0 z0 0=true↔d0 a:=by
  unfold du d0;simp only [Bool.or_eq_true,aG,aZ]
  by_cases h2:a.r0=2
  ·rw [e0 (.inl h2)];omega
  ·by_cases h3:a.r0=3
   ·rw [e0 (.inr h3)];omega
   ·omega
 have D1:du a.r1 z1 1=true↔d1 a:=by
  unfold du d1;simp only [Bool.or_eq_true,aG,aZ]
  by_cases h2:a.r1=2
  ·rw [e1 (.inl h2)];omega
  ·by_cases h3:a.r1=3
   ·rw [e1 (.inr h3)];omega
   ·omega
 rcases opn_parts a with ⟨e,g,_⟩ | ⟨e,g0,g,_⟩ | ⟨e,g0,g1,g2,g3,_⟩
 ·refine ⟨fun _=>e,fun n0 y=>?_,fun n0 n1=>⟨fun _=>e,fun y=>?_⟩⟩
  ·rcases g with g | ⟨_,g,_⟩
   ·exact absurd g n0
   ·exact absurd y g
  ·rcases g with g | ⟨_,_,g⟩
   ·exact absurd g n0
   ·rw [D0.2 g] at y;exact Bool.noConfusion y
 ·refine ⟨fun y=>absurd y g0,fun _ _=>e,fun _ n1=>⟨fun y=>?_,fun _=>⟨fun _=>e,fun y=>?_⟩⟩⟩
  ·rcases g with g | ⟨_,g,_⟩
   ·exact absurd g n1
   ·exact absurd (D0.1 y) g
  ·rcases g with g | ⟨_,_,g⟩
   ·exact absurd g n1
   ·rw [D1.2 g] at y;exact Bool.noConfusion y
 ·refine ⟨fun y=>absurd y g0,fun _ y=>absurd y g1,fun _ _=>⟨fun y=>absurd (D0.1 y) g2,fun _=>⟨fun y=>absurd (D1.1 y) g3,fun _=>e⟩⟩⟩
theorem opener_any {a:A} (P:Pr w s a t):Calls prog 84 #[.pointer (some ⟨s,0,none⟩)] w fun e w'=>e = .returned (.int .i64 (opn a))/\Below w.heap.size w w':=by
 obtain ⟨z0,z1,hr,hv⟩:=P;have O:=Hh (opn_du a z0 z1 t hv);obtain ⟨c0,c1,c2,c3⟩:=rc4 hr;have R:=Hh hr;clear hr hv;generalize opn a=o at *;generalize a.r0=x0 at *;generalize a.r1=x1 at *;have i0:∀ W:World,(Instr.index 116 (.agg #[.int .i64 x0,.int .i64 z0,.int .i64 x1,.int .i64 z1]) (.int .i64 0)).run prog W = .ok (.agg #[.int .i64 x0,.int .i64 z0]) W:=fun W=>rfl;have i1:∀ W:World,(Instr.index 116 (.agg #[.int .i64 x0,.int .i64 z0,.int .i64 x1,.int .i64 z1]) (.int .i64 1)).run prog W = .ok (.agg #[.int .i64 x1,.int .i64 z1]) W:=fun W=>rfl
 go_enter func84,ntmps84
 go_wp2
 go_loopw [11] (fun i wr=>∃ k:Nat,k<=2/\i = .int .i64 k/\Hid (Below w.heap.size w wr)/\Hid (1<=k->x0≠1)/\Hid (2<=k->x1≠1)) (fun i _=>2 - (intOf i).toNat)
 case atStart=>exact ⟨0,by omega,rfl,Hh (aa _ _),Hh (fun h=>by omega),Hh (fun h=>by omega)⟩
 case round =>
  obtain ⟨k,hk,rfl,BB,N0,N1⟩:=hrel
  rcases (by omega:k=0\/k=1\/k=2) with rfl | rfl | h2
  ·have B1:Hid (Below w.heap.size w (wr.alloc (.cells #[.int .i64 x0,.int .i64 z0] 115))):=Hh (BB.alloc BB.size _)
   by_cases h:x0=1
   ·have E:=Hh (O.out.1 h)
    clear O N0 N1 c0 c1 c2 c3;subst h;go_wp2
    go_ret
    exact ⟨bF (fun z=>Ending.returned (.int .i64 z)) E.symm,B1⟩
   ·have q:=aY.2 h
    have N:=Hh (fun _:1<=1=>h);clear N0 c0 c1 c2 c3 h;go_wp2
    go_roundw
    case rel=>exact ⟨1,by omega,rfl,B1,N,Hh (fun h=>by omega)⟩
    case measure=>simp [intOf]
  ·have B1:Hid (Below w.heap.size w (wr.alloc (.cells #[.int .i64 x1,.int .i64 z1] 115))):=Hh (BB.alloc BB.size _)
   by_cases h:x1=1
   ·have E:=Hh (O.out.2.1 (N0 (by omega)) h)
    clear O N0 N1 c0 c1 c2 c3;subst h;go_wp2
    go_ret
    exact ⟨bF (fun z=>Ending.returned (.int .i64 z)) E.symm,B1⟩
   ·have q:=aY.2 h
    have N:=Hh (fun _:2<=2=>h);have N':=Hh (fun _:1<=2=>N0 (by omega));clear N0 c0 c1 c2 c3 h;go_wp2
    go_roundw
    case rel=>exact ⟨2,by omega,rfl,B1,N',N⟩
    case measure=>simp [intOf]
  ·have O2:=Hh (O.out.2.2 (N0 (by omega)) (N1.out (by omega)))
   have R1:=Hh (R.below BB);obtain ⟨c0,c1,c2,c3⟩:=rc4 R1;have hk2:¬ (k:Int) < 2:=by omega
   clear O N0 N1 R R1 h2 hk;go_upto_region 7 with fail;clear hk2;generalize (k:Int)=k2 at *;go_wp2
   go_loopw [24] (fun i wr=>∃ k:Nat,k<=2/\i = .int .i64 k/\Hid (Below w.heap.size w wr)/\Hid (1<=k->du x0 z0 0=false)/\Hid (2<=k->du x1 z1 1=false)) (fun i _=>2 - (intOf i).toNat)
   case atStart=>exact ⟨0,by omega,rfl,BB,Hh (fun h=>by omega),Hh (fun h=>by omega)⟩
   case round =>
    clear BB c0 c1 c2 c3;obtain ⟨k,hk,rfl,BB,N0,N1⟩:=hrel
    rcases (by omega:k=0\/k=1\/k=2) with rfl | rfl | rfl
    ·have B1:Hid (Below w.heap.size w (wr.alloc (.cells #[.int .i64 x0,.int .i64 z0] 115))):=Hh (BB.alloc BB.size _)
     have D:=Hh (due_any (wr.alloc (.cells #[.int .i64 x0,.int .i64 z0] 115)) x0 z0 0 (by omega));clear N0 N1;generalize hd:du x0 z0 0=d at *;have HD:=Hh hd;clear hd;go_wp2_with fail;refine D.mono ?_;rintro e w2 ⟨rfl,b2⟩;have B2:=bTr B1 b2;clear b2 D B1 BB
     cases d with
     | true =>
       have E:=Hh (O2.out.1 rfl);clear O2 HD;go_wp2
       go_ret
       exact ⟨bF (fun z=>Ending.returned (.int .i64 z)) E.symm,B2⟩
     | false =>
       go_wp2
       go_roundw
       case rel=>exact ⟨1,by omega,rfl,B2,Hh (fun _=>trivial),Hh (fun h=>by omega)⟩
       case measure=>simp [intOf]
    ·have B1:Hid (Below w.heap.size w (wr.alloc (.cells #[.int .i64 x1,.int .i64 z1] 115))):=Hh (BB.alloc BB.size _)
     have D:=Hh (due_any (wr.alloc (.cells #[.int .i64 x1,.int .i64 z1] 115)) x1 z1 1 (by omega));have O3:=Hh (O2.out.2 (N0 (by omega)));have N':=Hh (fun _:1<=2=>N0 (by omega));clear N0 N1 O2;generalize hd:du x1 z1 1=d at *;have HD:=Hh hd;clear hd;go_wp2_with fail;refine D.mono ?_;rintro e w2 ⟨rfl,b2⟩;have B2:=bTr B1 b2;clear b2 D B1 BB
     cases d with
     | true =>
       have E:=Hh (O3.out.1 rfl);clear O3 HD N';go_wp2
       go_ret
       exact ⟨bF (fun z=>Ending.returned (.int .i64 z)) E.symm,B2⟩
     | false =>
       clear O3;go_wp2
       go_roundw
       case rel=>exact ⟨2,by omega,rfl,B2,N',Hh (fun _=>trivial)⟩
       case measure=>simp [intOf]
    ·have E:=Hh ((O2.out.2 (N0 (by omega))).2 (N1.out (by omega)))
     clear O2 N0 N1;go_wp2
     go_ret
     exact ⟨bF (fun z=>Ending.returned (.int .i64 z)) E.symm,BB⟩
theorem rnd_cases (a:A):(opn a=0/\rnd a=⟨1,0,hdN a.r1,0⟩)\/(opn a=1/\rnd a=⟨hdN a.r0,0,1,0⟩)\/(opn a = -1/\a.r0≠1/\a.r1≠1/\rnd a=⟨a.r0,a.q0+1,a.r1,a.q1+1⟩):=by
 obtain ⟨r0,q0,r1,q1⟩:=a;unfold opn rnd tk t1 t2 op hd
 by_cases e0:r0=1
 ·exact .inl (by simp [e0])
 ·by_cases e1:r1=1
  ·exact .inr (.inl (by simp [e0,e1]))
  ·by_cases g0:(r0=2/\4<=q0)\/(r0=3/\8<=q0)
   ·exact .inl (by simp [e0,e1,g0])
   ·by_cases g1:(r1=2/\4<=q1)\/(r1=3/\9<=q1)
    ·exact .inr (.inl (by simp [e0,e1,g0,g1]))
    ·exact .inr (.inr (by simp [e0,e1,g0,g1]))
def HM (w:World) (s:Nat) (r0 z0 r1 z1:Int):Nat->Prop
 | 0=>RowM w s r0 z0 r1 z1
 | 1=>RowM w s (hdN r0) (hZ r0 z0) r1 z1
 | _=>RowM w s (hdN r0) (hZ r0 z0) (hdN r1) (hZ r1 z1)
def WM (w:World) (s:Nat) (r0 z0 r1 z1:Int):Nat->Prop
 | 0=>RowM w s r0 z0 r1 z1
 | 1=>RowM w s r0 (wZ r0 z0) r1 z1
 | _=>RowM w s r0 (wZ r0 z0) r1 (wZ r1 z1)
theorem hZ_in (h:0<=z/\z<=t):0<=hZ r z/\hZ r z<=((t+1:Nat):Int):=by unfold hZ;split <;> omega
theorem wZ_in (h:0<=z/\z<=t):0<=wZ r z/\wZ r z<=((t+1:Nat):Int):=by unfold wZ;split <;> omega
theorem hdN_zero (h:hdN r=2\/hdN r=3):(0:Int)=hZ r z:=by
 unfold hdN at h;unfold hZ
 split
 ·rfl
 ·rename_i g
  exfalso
  split at h <;> omega
theorem wZ_next (e:r=2\/r=3->q=z) (h:r=2\/r=3):q+1=wZ r z:=by
 unfold wZ;rw [aj h,e h]
theorem round_any {a:A} (P:Pr w s a t) (ht:t<=90000):Calls prog 58 #[.pointer (some ⟨s,0,none⟩)] w (CdeedPost w s (opn a) (rnd a) (t+1)):=by
 have OP:=Hh (opener_any P);obtain ⟨z0,z1,hr,hv⟩:=P;have R:=Hh hr;have V:=Hh hv;have v0:=hv.b0;have v1:=hv.b1;clear hr hv
 rcases rnd_cases a with ⟨eo,er⟩ | ⟨eo,er⟩ | ⟨eo,g0,g1,er⟩
 ·have FIN:Hid (∀ w',HM w' s 1 0 a.r1 z1 2->Only (fun b=>b=s) w w'->CdeedPost w s (opn a) (rnd a) (t+1) (.returned (.int .i64 0)) w'):=Hh fun w' hh oo=>⟨by rw [eo],by rw [er];exact ⟨_,_,hh,⟨hZ_in ⟨by decide,by omega⟩,hZ_in V.out.b1,(fun g=>absurd g (by show ¬ ((1:Int)=2\/(1:Int)=3);decide)),fun g=>hdN_zero g⟩⟩,oo⟩
  rw [eo] at OP;clear eo er V v0 v1;generalize opn a=op_ at *;generalize rnd a=a' at *;generalize a.r0=x0 at *;generalize a.r1=x1 at *
  go_enter func58,ntmps58
  go_wp2_with fail;refine OP.mono ?_;rintro e w1 ⟨rfl,b1⟩;have R1:=Hh (R.below b1);obtain ⟨c0,c1,f0,f1⟩:=rf2 R1;have M0:=Hh ((R1.set0 1).set1 0);have O0:Hid (Only (fun b=>b=s) w ((w1.setCell ⟨s,0,none⟩ (.int .i64 1)).setCell ⟨s,1,none⟩ (.int .i64 0))):=Hh (((Only.of_below b1).trans (only_set s 0 _ _) (fun _ _ q=>q)).trans (only_set s 1 _ _) (fun _ _ q=>q));clear R R1 OP b1;go_wp2
  go_loopw [17] (fun i wr=>∃ k:Nat,k<=2/\i = .int .i64 k/\Hid (HM wr s 1 0 x1 z1 k)/\Hid (Only (fun b=>b=s) w wr)) (fun i _=>2 - (intOf i).toNat)
  case atStart=>exact ⟨0,by omega,rfl,M0,O0⟩
  case round =>
   clear M0 O0 c0 c1 f0 f1;obtain ⟨k,hk,rfl,M,OO⟩:=hrel
   rcases (by omega:k=0\/k=1\/k=2) with rfl | rfl | rfl
   ·have C:=Hh (hear0 (show RowM wr s 1 0 x1 z1 from M))
    clear M;go_wp2_with fail;refine C.mono ?_;rintro e w2 ⟨rfl,m2,o2⟩;have M2:=Hh m2;have O2:=Hh (only_two OO o2);clear m2 o2 C OO;go_wp2
    go_roundw
    case rel=>exact ⟨1,by omega,rfl,M2,O2⟩
    case measure=>simp [intOf]
   ·have C:=Hh (hear1 (show RowM wr s (hdN 1) (hZ 1 0) x1 z1 from M))
    clear M;go_wp2_with fail;refine C.mono ?_;rintro e w2 ⟨rfl,m2,o2⟩;have M2:=Hh m2;have O2:=Hh (only_two OO o2);clear m2 o2 C OO;go_wp2
    go_roundw
    case rel=>exact ⟨2,by omega,rfl,M2,O2⟩
    case measure=>simp [intOf]
   ·have F:=Hh (FIN wr M OO)
    clear FIN M OO;go_wp2
    go_ret
    exact F
 ·have FIN:Hid (∀ w',HM w' s a.r0 z0 1 0 2->Only (fun b=>b=s) w w'->CdeedPost w s (opn a) (rnd a) (t+1) (.returned (.int .i64 1)) w'):=Hh fun w' hh oo=>⟨by rw [eo],by rw [er];exact ⟨_,_,hh,⟨hZ_in V.out.b0,hZ_in ⟨by decide,by omega⟩,fun g=>hdN_zero g,(fun g=>absurd g (by show ¬ ((1:Int)=2\/(1:Int)=3);decide))⟩⟩,oo⟩
  rw [eo] at OP;clear eo er V v0 v1;generalize opn a=op_ at *;generalize rnd a=a' at *;generalize a.r0=x0 at *;generalize a.r1=x1 at *
  go_enter func58,ntmps58
  go_wp2_with fail;refine OP.mono ?_;rintro e w1 ⟨rfl,b1⟩;have R1:=Hh (R.below b1);have c0:=Fl.rc R1 2;have c1:=Fl.rc R1 3;have f0:=row_frozen R1 2;have f1:=row_frozen R1 3;have M0:=Hh ((R1.set2 1).set3 0);have O0:Hid (Only (fun b=>b=s) w ((w1.setCell ⟨s,2,none⟩ (.int .i64 1)).setCell ⟨s,3,none⟩ (.int .i64 0))):=Hh (((Only.of_below b1).trans (only_set s 2 _ _) (fun _ _ q=>q)).trans (only_set s 3 _ _) (fun _ _ q=>q));clear R R1 OP b1;go_wp2
  go_loopw [17] (fun i wr=>∃ k:Nat,k<=2/\i = .int .i64 k/\Hid (HM wr s x0 z0 1 0 k)/\Hid (Only (fun b=>b=s) w wr)) (fun i _=>2 - (intOf i).toNat)
  case atStart=>exact ⟨0,by omega,rfl,M0,O0⟩
  case round =>
   clear M0 O0 c0 c1 f0 f1;obtain ⟨k,hk,rfl,M,OO⟩:=hrel
   rcases (by omega:k=0\/k=1\/k=2) with rfl | rfl | rfl
   ·have C:=Hh (hear0 (show RowM wr s x0 z0 1 0 from M))
    clear M;go_wp2_with fail;refine C.mono ?_;rintro e w2 ⟨rfl,m2,o2⟩;have M2:=Hh m2;have O2:=Hh (only_two OO o2);clear m2 o2 C OO;go_wp2
    go_roundw
    case rel=>exact ⟨1,by omega,rfl,M2,O2⟩
    case measure=>simp [intOf]
   ·have C:=Hh (hear1 (show RowM wr s (hdN x0) (hZ x0 z0) 1 0 from M))
    clear M;go_wp2_with fail;refine C.mono ?_;rintro e w2 ⟨rfl,m2,o2⟩;have M2:=Hh m2;have O2:=Hh (only_two OO o2);clear m2 o2 C OO;go_wp2
    go_roundw
    case rel=>exact ⟨2,by omega,rfl,M2,O2⟩
    case measure=>simp [intOf]
   ·have F:=Hh (FIN wr M OO)
    clear FIN M OO;go_wp2
    go_ret
    exact F
 ·have FIN:Hid (∀ w',WM w' s a.r0 z0 a.r1 z1 2->Only (fun b=>b=s) w w'->CdeedPost w s (opn a) (rnd a) (t+1) (.returned (.int .i64 (-1))) w'):=Hh fun w' hh oo=>⟨by rw [eo],by rw [er];exact ⟨_,_,hh,⟨wZ_in V.out.b0,wZ_in V.out.b1,fun g=>wZ_next V.out.e0 g,fun g=>wZ_next V.out.e1 g⟩⟩,oo⟩
  rw [eo] at OP;have V0:Hid (0<=z0/\z0<=1000000):=Hh (by omega);have V1:Hid (0<=z1/\z1<=1000000):=Hh (by omega);clear eo er V v0 v1 g0 g1;generalize opn a=op_ at *;generalize rnd a=a' at *;generalize a.r0=x0 at *;generalize a.r1=x1 at *
  go_enter func58,ntmps58
  go_wp2_with fail;refine OP.mono ?_;rintro e w1 ⟨rfl,b1⟩;have M0:=Hh (R.below b1);have O0:Hid (Only (fun b=>b=s) w w1):=Hh (Only.of_below b1);clear R OP b1;go_wp2
  go_loopw [17] (fun i wr=>∃ k:Nat,k<=2/\i = .int .i64 k/\Hid (WM wr s x0 z0 x1 z1 k)/\Hid (Only (fun b=>b=s) w wr)) (fun i _=>2 - (intOf i).toNat)
  case atStart=>exact ⟨0,by omega,rfl,M0,O0⟩
  case round =>
   clear M0 O0;obtain ⟨k,hk,rfl,M,OO⟩:=hrel
   rcases (by omega:k=0\/k=1\/k=2) with rfl | rfl | rfl
   ·have C:=Hh (wait0 (show RowM wr s x0 z0 x1 z1 from M) V0)
    clear M;go_wp2_with fail;refine C.mono ?_;rintro e w2 ⟨rfl,m2,o2⟩;have M2:=Hh m2;have O2:=Hh (only_two OO o2);clear m2 o2 C OO;go_wp2
    go_roundw
    case rel=>exact ⟨1,by omega,rfl,M2,O2⟩
    case measure=>simp [intOf]
   ·have C:=Hh (wait1 (show RowM wr s x0 (wZ x0 z0) x1 z1 from M) V1)
    clear M;go_wp2_with fail;refine C.mono ?_;rintro e w2 ⟨rfl,m2,o2⟩;have M2:=Hh m2;have O2:=Hh (only_two OO o2);clear m2 o2 C OO;go_wp2
    go_roundw
    case rel=>exact ⟨2,by omega,rfl,M2,O2⟩
    case measure=>simp [intOf]
   ·have F:=Hh (FIN wr M OO)
    clear FIN M OO;go_wp2
    go_ret
    exact F
end Wt
namespace Cu
open Go.Maps
open Pa (S2)
open Re (KI iat seqP)
attribute [local irreducible] Sd.wpSd wpQuiet
theorem opn_casesC (a:Wt.A):Wt.opn a = -1\/Wt.opn a=0\/Wt.opn a=1:=by
 unfold Wt.opn Wt.op
 split
 ·exact .inr (.inl rfl)
 ·split
  ·exact .inr (.inr rfl)
  ·exact .inl rfl
variable {c:Cs}
theorem at0_lt {l:List Int} (h:seqP l):at0 c l < l.length:=by
 unfold at0;have:=h.1
 split <;> omega
variable {s t p nn:Nat} {F:Nat->Prop} {vn vq:Value} {L:List Nd} {Fs:Nat->Nat->Prop} {w:World}
theorem cround_silent (h:Cl w s F c t vn L p vq Fs) (ok:OkC c t) (ht:t<=1000) (hg:Glob w) (hG:¬ F 0) (ho:Wt.opn c.P = -1) :
 Calls prog 30 #[ptr s] w (DoC w s F (rC c) (t+1) (rE c)):=by
 generalize hRC:rC c=cR;generalize hRE:rE c=eR;have RC:=Hh hRC;have RE:=Hh hRE;clear hRC hRE;have d3:=h.cells.2.2.2;have f3:=h.frz 3;have H1:=Hh (h.spoils (v:=.slice none 0 0) (Q:=[]) (Rw.Ow.nil _ _ _) (fun k e=>by simp [Value.ownBlock] at e) (fun i hi k _ e=>by simp [Value.ownBlock] at e));have O1:Hid (Only F w (w.setCell ⟨s,3,none⟩ (.slice none 0 0))):=Hh (Only.set F w (a:=⟨s,3,none⟩) h.fs _);have Q1:Hid (Ow K2 (w.setCell ⟨s,3,none⟩ (.slice none 0 0)) 0 96 vq c.Q):=Hh (ow_only h.sp (fun k e g=>h.vs.2 (by rw [e,g])) (Only.set (fun k=>k=s) w (a:=⟨s,3,none⟩) rfl _));have k1:=H1.cells.2.1;have CR:=Hh (Wt.round_any H1.pr (by omega));have QF:Hid (∀ k,vq.ownBlock=some k->k≠s/\k≠p):=Hh (fun k e=>⟨fun g=>h.vs.2 (by rw [e,g]),fun g=>h.vp.2 (by rw [e,g])⟩);have HS:=Hh h.fs;have LW:=Hh h.low;have GG:=Hh hg;have HG:=Hh hG;have OK:=Hh ok;obtain ⟨qa,qc,rfl,_⟩:=h.sp.slice;clear h ok hg hG;unfold Wt.CdeedPost at CR;rw [show Wt.opn ({ c with Q:=[] } : Cs).P=_ from ho,show Wt.rnd ({ c with Q:=[] } : Cs).P=Wt.rnd c.P from rfl] at CR;unfold ptr at *;generalize hql:c.Q.length=ql at *;clear hql
 go_enter func30,ntmps30
 go_upto_region 3 with fail;clear d3 f3;generalize (w.setCell ⟨s,3,none⟩ (.slice none 0 0))=w1 at *;go_wp2_with fail;refine CR.mono ?_;rintro e w2 ⟨rfl,pr2,o2⟩;have H2:=Hh (H1.pair o2 pr2);have O2:=Hh (O1.trans o2 fun k _ e=>by rw [e];exact H1.out.fp);have Q2:=Hh (ow_only Q1 (fun k e g=>(QF k e).2 g) o2);have G2:=Hh (GG.only HG O2);clear pr2 o2 CR H1 O1 Q1 k1;have e1:rE c=0:=by unfold rE;rw [aj (by omega)]
 have e2:rC c = { c with P:=Wt.rnd c.P,Q:=[] }:=by unfold rC;rw [aj (by omega)]
 rw [RE.out] at e1;rw [RC.out] at e2;subst e1 e2;have C3:=Hh (chas_out H2 (n:=-1) (Or.inl (by decide)));have E:=Hh (fun w' (b:Below w2.heap.size w2 w')=>doc_of (w:=w) (H2.below b) (O2.then b) 0);unfold ptr at C3;clear H2 O2 Q2 G2 ho;go_wp2_with fail;refine C3.mono ?_;rintro e w3 ⟨rfl,b3⟩;have G:=Hh (E w3 b3);clear E C3 b3;go_wp2
 go_ret
 exact G
theorem cround_open (h:Cl w s F c t vn L p vq Fs) (ok:OkC c t) (ht:t<=1000) (hg:Glob w) (hG:¬ F 0) (ho:Wt.opn c.P=nn) (hn:nn < 2) :
 Calls prog 30 #[ptr s] w (DoC w s F (rC c) (t+1) (rE c)):=by
 generalize hRC:rC c=cR;generalize hRE:rE c=eR;have RC:=Hh hRC;have RE:=Hh hRE;clear hRC hRE;have d3:=h.cells.2.2.2;have f3:=h.frz 3;have H1:=Hh (h.spoils (v:=.slice none 0 0) (Q:=[]) (Rw.Ow.nil _ _ _) (fun k e=>by simp [Value.ownBlock] at e) (fun i hi k _ e=>by simp [Value.ownBlock] at e));have O1:Hid (Only F w (w.setCell ⟨s,3,none⟩ (.slice none 0 0))):=Hh (Only.set F w (a:=⟨s,3,none⟩) h.fs _);have Q1:Hid (Ow K2 (w.setCell ⟨s,3,none⟩ (.slice none 0 0)) 0 96 vq c.Q):=Hh (ow_only h.sp (fun k e g=>h.vs.2 (by rw [e,g])) (Only.set (fun k=>k=s) w (a:=⟨s,3,none⟩) rfl _));have k1:=H1.cells.2.1;have CR:=Hh (Wt.round_any H1.pr (by omega));have QF:Hid (∀ k,vq.ownBlock=some k->k≠s/\k≠p):=Hh (fun k e=>⟨fun g=>h.vs.2 (by rw [e,g]),fun g=>h.vp.2 (by rw [e,g])⟩);have HS:=Hh h.fs;have LW:=Hh h.low;have GG:=Hh hg;have HG:=Hh hG;have OK:=Hh ok;obtain ⟨qa,qc,rfl,_⟩:=h.sp.slice;clear h ok hg hG;unfold Wt.CdeedPost at CR;rw [show Wt.opn ({ c with Q:=[] } : Cs).P=_ from ho,show Wt.rnd ({ c with Q:=[] } : Cs).P=Wt.rnd c.P from rfl] at CR;unfold ptr at *;generalize hql:c.Q.length=ql at *;clear hql
 go_enter func30,ntmps30
 go_upto_region 3 with fail;clear d3 f3;generalize (w.setCell ⟨s,3,none⟩ (.slice none 0 0))=w1 at *;go_wp2_with fail;refine CR.mono ?_;rintro e w2 ⟨rfl,pr2,o2⟩;have H2:=Hh (H1.pair o2 pr2);have O2:=Hh (O1.trans o2 fun k _ e=>by rw [e];exact H1.out.fp);have Q2:=Hh (ow_only Q1 (fun k e g=>(QF k e).2 g) o2);have G2:=Hh (GG.only HG O2);clear pr2 o2 CR H1 O1 Q1 k1;have hnl:nn < c.S.length:=by have:=OK.out.len;omega
 have OW:own c=(sat c.S nn).1:=by unfold own;rw [ho]
 have C3:=Hh (chas_in H2 (n:=nn) hnl);have HO:=Hh ho;have HN:=Hh hnl;unfold ptr at C3;go_wp2_with fail;refine C3.mono ?_;rintro e w3 ⟨rfl,b3⟩;have H3:=Hh (H2.below b3);have O3:=Hh (O2.then b3);have Q3:=Hh (Q2.keep b3);have C4:=Hh (csequence_any H3 (nn:=nn) HN);rw [show (sat ({ c with Q:=[],P:=Wt.rnd c.P } : Cs).S nn).1=own c from OW.symm] at C4;have OWH:=Hh OW;unfold SqC ptr at C4;clear H2 O2 Q2 G2 C3 b3 OW ho hnl;go_wp2_with fail;refine C4.mono ?_;rintro e w4 ⟨b4,hc⟩;have H4:=Hh (H3.below b4);have O4:=Hh (O3.then b4);have Q4:=Hh (Q3.keep b4);have G4:=Hh (GG.only HG O4);clear H3 O3 Q3 C4 b4
 rcases hc with ⟨hs,u,rfl,ru⟩ | ⟨hs,rfl⟩
 ·have SQ:=Hh (sqL_seq hs)
  have er:rE c=rdE c.S (rT c) c.V:=by unfold rE;rw [ah (by rw [HO.out];omega),aj hs]
  have ec:rC c=⟨caS c.S (rT c) c.V c.Q,c.V,Wt.rnd c.P,at1 c (sqL (own c)),[]⟩:=by unfold rC caS;rw [ah (by rw [HO.out];omega),aj hs]
  rw [RE.out] at er;rw [RC.out] at ec;have C5:Hid (Calls prog 61 #[ptr s,u] w4 (NxC w4 s (iat (sqL (own c)) (at0 c (sqL (own c)))) (at1 c (sqL (own c))))):=Hh (cnext_any H4 ru SQ);have RR:Hid (0<=iat (sqL (own c)) (at0 c (sqL (own c)))/\iat (sqL (own c)) (at0 c (sqL (own c)))<=5):=Hh (SQ.out.2 _ (at0_lt SQ));have RT:Hid (rT c=tbs c.S (iat (sqL (own c)) (at0 c (sqL (own c))))):=Hh rfl;obtain ⟨ua,uc,rfl,_⟩:=ru.slice;unfold NxC ptr at C5;have EC:=Hh ec;have ER:=Hh er;clear ru er ec hs;generalize (sqL (own c)).length=ul at *;go_wp2_with fail;refine C5.mono ?_;rintro e w5 ⟨rfl,w6,b6,rfl⟩;have H5:=Hh ((H4.below b6).place (at1 c (sqL (own c))));have O5:=Hh ((O4.then b6).trans (Only.set F w6 (a:=⟨s,2,none⟩) HS (.int .i64 (at1 c (sqL (own c))))) fun _ _ g=>g);have Q5:=Hh (ow_only (Q4.keep b6) (fun k e g=>(QF k e).1 g) (Only.set (fun k=>k=s) w6 (a:=⟨s,2,none⟩) rfl (.int .i64 (at1 c (sqL (own c))))));have G5:=Hh (GG.only HG O5);clear H4 O4 Q4 G4 b6 C5;generalize (w6.setCell ⟨s,2,none⟩ (.int .i64 (at1 c (sqL (own c)))))=w7 at *;have C6:=Hh (ccarry_any H5 OK.len OK.lv (fun i hi=>by have:=OK.out.st i hi;exact ⟨this.2.1,Int.lt_of_le_of_lt this.2.2 (by omega)⟩) G5.out RR.out Q5.out.rd);unfold ptr at C6;rw [← RT.out] at C6;clear H5 Q5 G5 RR;generalize iat (sqL (own c)) (at0 c (sqL (own c)))=r at *;go_wp2_with fail;refine C6.mono ?_;rintro e w8 d8;have G:Hid (DoC w s F cR (t+1) eR e w8):=Hh (by rw [EC.out,ER.out];exact d8.preO O5.out LW.out);obtain ⟨rfl,_,_⟩:=d8;clear C6;go_wp2
  go_ret
  exact G
 ·have er:rE c=2:=by unfold rE;rw [ah (by rw [HO.out];omega),ah (by rw [hs];decide)]
  have ec:rC c = { c with P:=Wt.rnd c.P,Q:=[] }:=by unfold rC;rw [ah (by rw [HO.out];omega),ah (by rw [hs];decide)]
  rw [RE.out] at er;rw [RC.out] at ec;subst er ec;have C5:=Hh (cnumber_any nn 2 w4 G4);have E:=Hh (fun w' (b:Below w4.heap.size w4 w')=>doc_of (w:=w) (H4.below b) (O4.then b) 2);unfold flaw flw at *;clear H4 O4 Q4 G4 hs;go_wp2_with fail;refine C5.mono ?_;rintro e w5 ⟨rfl,b5⟩;have G:=Hh (E w5 b5);clear E C5 b5;go_wp2
  go_ret
  exact G
theorem cround_any (h:Cl w s F c t vn L p vq Fs) (ok:OkC c t) (ht:t<=1000) (hg:Glob w) (hG:¬ F 0) :
 Calls prog 30 #[ptr s] w (DoC w s F (rC c) (t+1) (rE c)):=by
 rcases opn_casesC c.P with ho | ho | ho
 ·exact cround_silent h ok ht hg hG ho
 ·exact cround_open h ok ht hg hG (nn:=0) ho (by decide)
 ·exact cround_open h ok ht hg hG (nn:=1) ho (by decide)
open Fs (sA sB)
attribute [local irreducible] Sz.wpSz
section
variable {s t p:Nat} {F G:Nat->Prop} {c:Cs} {vn vq:Value} {L:List Nd} {Fs:Nat->Nat->Prop} {w w1 w':World}
variable {x:Ac}
theorem act_write (hk:x.k=2) (hn:¬ no c x.n):(vat c.V x.n=true->actE x c=(if sB (sat c.S x.n).1 x.f x.r=true then 0 else 3)/\actC x c = { c with S:=setS c.S x.n (sA (sat c.S x.n).1 x.f x.r x.v,(sat c.S x.n).2) })/\(vat c.V x.n=false->actE x c=10/\actC x c=c):=by
 have hin:0<=x.n/\x.n < c.S.length:=by unfold no at hn;omega
 have he:actE x c=if vat c.V x.n=true then (if sB (sat c.S x.n).1 x.f x.r=true then 0 else 3) else 10:=by
  unfold actE;rw [ah (by omega),ah (by omega),ah (by rintro (g | g | g);omega;omega;exact hn g),aj hk]
 refine ⟨fun hv=>?_,fun hv=>?_⟩
 ·rw [hv,aj rfl] at he
  refine ⟨he,?_⟩;unfold actC
  cases g:sB (sat c.S x.n).1 x.f x.r with
  | true =>
    rw [g,aj rfl] at he;rw [ah (by omega),ah (by rw [he];simp),ah (by omega),aj hk]
  | false =>
    rw [g,ah bO] at he;rw [ah (by omega),aj (by rw [he];decide)];have e1:sA (sat c.S x.n).1 x.f x.r x.v=(sat c.S x.n).1:=by
     unfold sA
     split
     ·rfl
     ·rw [g];rfl
    have e2:setS c.S x.n (sA (sat c.S x.n).1 x.f x.r x.v,(sat c.S x.n).2)=c.S:=by
     rw [e1];unfold setS
     show c.S.set x.n.toNat (sat c.S x.n)=c.S
     unfold sat;rw [af,ai (by omega)];exact List.set_getElem_self (by omega)
    rw [e2]
 ·rw [hv,ah bO] at he
  refine ⟨he,?_⟩;unfold actC;rw [ah (by omega),aj (by rw [he];decide)]
theorem act_drift (hk:x.k=6) (hn:¬ no c x.n):actE x c=(if x.t < -2000\/2000 < x.t then 1 else 0)/\actC x c=c:=by
 have he:actE x c=if x.t < -2000\/2000 < x.t then 1 else 0:=by
  unfold actE;rw [ah (by omega),ah (by omega),ah (by rintro (g | g | g);omega;omega;exact hn g),ah (by omega),ah (by omega),ah (by omega)]
 refine ⟨he,?_⟩;unfold actC;rw [ah (by omega)]
 by_cases e:actE x c≠0
 ·rw [aj e]
 ·rw [ah e,ah (by omega),ah (by omega),ah (by omega),ah (by omega)]
theorem Cl.wr (h:Cl w s F c t vn L p vq Fs) (hn:nn < c.S.length) {q:Nat} (hq:q=(nda L nn).s) {f r:Int} {x:R4} {e:Ending} (hw:WrC w q (Fs nn) (sat c.S nn).1 (sat c.S nn).2 f r x e w'):DoC w s F { c with S:=setS c.S nn (sA (sat c.S nn).1 f r x,(sat c.S nn).2) } t (if sB (sat c.S nn).1 f r=true then 0 else 3) e w':=by
 subst hq;obtain ⟨h1,h2,h3⟩:=hw;have hl:=h.len;exact ⟨h1,⟨_,_,_,_,_,h.store (i:=nn) (by omega) (x:=(sA (sat c.S nn).1 f r x,(sat c.S nn).2)) h2 h3⟩,h3.mono fun k _ g=>h.ff nn (by omega) k g⟩
theorem cdo_write (h:Cl w s F c t vn L p vq Fs) (x:Ac) (hk:x.k=2) (hn:¬ no c x.n) (hx:okR x.v) (hf:Wf x.f):Calls prog 10 #[ptr s,actV x] w (DoC w s F (actC x c) (t+1) (actE x c)):=by
 have B0:=Hh ((aa w.heap.size w).alloc (ac _) (.cells (actA x) 38));have X0:=Hh (am w (.cells (actA x) 38));have hn':0<=x.n/\x.n < c.S.length:=by unfold no at hn;omega
 obtain ⟨nn,hnn⟩:∃ nn:Nat,(nn:Int)=x.n:=⟨x.n.toNat,by omega⟩;have hnl:nn < c.S.length:=by omega
 obtain ⟨g,cap,rfl,hcap,hm,-⟩:=h.one hnl;have hL:=h.len;have C1:=Hh (chas_in (h.below B0) (n:=nn) hnl);rw [hnn] at C1
 have CW:Hid (∀ W,Below (w.alloc (.cells (actA x) 38)).heap.size (w.alloc (.cells (actA x) 38)) W->Calls prog 33 #[.pointer (some ⟨g,nn * 3,none⟩),.int .i64 x.f,.int .i64 x.r,rec4 x.v] W (fun e w'=>DoC W s F (actC x c) t (actE x c) e w'/\Only (Fs nn) W w')):=Hh (fun W b=>by
  have hh:=(h.below B0).below b;obtain ⟨q0,q1,_⟩:=hh.nod hnl;rw [hh.lv nn (by omega),hnn] at q1;obtain ⟨a1,a2⟩:=act_write hk hn
  cases hv:vat c.V x.n with
  | true =>
    rw [(a1 hv).1,(a1 hv).2];rw [hv] at q1;refine (cwrite_yes (hh.sto hnl) g (nn * 3) q0 q1 (fun e=>(h.off nn (by omega) g e).2.2.1 rfl) hf x.r x.v hx).mono fun e w' hw=>⟨?_,hw.2.2⟩;rw [← hnn];exact hh.wr hnl rfl hw
  | false =>
    rw [(a2 hv).1,(a2 hv).2];rw [hv] at q1;refine (cwrite_no W g (nn * 3) x.f x.r x.v q1).mono fun e w' hw=>?_;obtain ⟨rfl,b'⟩:=hw
    exact ⟨doc_below hh b' 10,Only.of_below b'⟩)
 have NG:Hid (¬ (Fs nn) s/\¬ (Fs nn) w.heap.size):=Hh ⟨fun e=>(h.off nn (by omega) s e).1 rfl,fun e=>by have:=(h.st nn (by omega)).low _ e;omega⟩;have E:=Hh (fun w1 (b:Below w.heap.size w w1) e w' (d:DoC w1 s F (actC x c) t (actE x c) e w')=>(d.pre b h.low).late);have D0:=Hh (fun w1 b=>(h.below (w':=w1) b).cells.1);clear h hn hn' hL;generalize actC x c=c' at *;generalize actE x c=ae at *;generalize hGG:(Fs nn)=GG at *;clear hGG;have HNL:=Hh hnl;have p5:decide (c.S.length<=nn)=false:=ak (by omega);generalize c.S.length=ln at *;unfold actV actA at *;unfold ptr at *;obtain ⟨k,n,f,rr,v,s',m,tt⟩:=x;simp only at hk hnn B0 X0 C1 CW E ⊢;subst hk hnn
 (try unfold rec4 at CW)
 go_enter func10,ntmps10
 go_wp2_with fail;refine C1.mono ?_;rintro e w1 ⟨rfl,b1⟩;have BW:=bTr B0 b1;have X1:=Hh (bBl b1 X0);have CX:=Hh (fun W (b:Below w1.heap.size w1 W)=>CW W (b1.trans (b.mono b1.size)));have d0:=D0.out w1 BW;clear b1 C1 CW D0 X0 B0;generalize hgx:w.heap.size=gx at X1 NG ⊢;have HGX:=Hh hgx;clear hgx;have y0:=Fl.rc X1 0;have Q0:=Hh d0;go_upto_region 12 with fail;clear y0 d0;have BD:=Hh (aa w1.heap.size w1).drew;have OD:Hid (Only GG w1 w1.drew):=Hh (Only.of_below BD);have s0:=Sc.cell_in (C:=fun W'=>Only GG w1 W') (a:=⟨s,0,none⟩) (fun W' o=>o.cell Q0 NG.out.1);have x1:=Sc.cell_in (C:=fun W'=>Only GG w1 W') (a:=⟨gx,1,none⟩) (fun W' o=>o.cell (row_cell X1 1) NG.out.2);have x2:=Sc.cell_in (C:=fun W'=>Only GG w1 W') (a:=⟨gx,2,none⟩) (fun W' o=>o.cell (row_cell X1 2) NG.out.2);have x3:=Sc.cell_in (C:=fun W'=>Only GG w1 W') (a:=⟨gx,3,none⟩) (fun W' o=>o.cell (row_cell X1 3) NG.out.2);have x4:=Sc.cell_in (C:=fun W'=>Only GG w1 W') (a:=⟨gx,4,none⟩) (fun W' o=>o.cell (row_cell X1 4) NG.out.2);have x5:=Sc.cell_in (C:=fun W'=>Only GG w1 W') (a:=⟨gx,5,none⟩) (fun W' o=>o.cell (row_cell X1 5) NG.out.2);have x6:=Sc.cell_in (C:=fun W'=>Only GG w1 W') (a:=⟨gx,6,none⟩) (fun W' o=>o.cell (row_cell X1 6) NG.out.2);have x7:=Sc.cell_in (C:=fun W'=>Only GG w1 W') (a:=⟨gx,7,none⟩) (fun W' o=>o.cell (row_cell X1 7) NG.out.2);have ne:Nonempty (Sc.In (fun W'=>Only GG w1 W')):=⟨⟨_,OD⟩⟩;have CY:=Hh (CX w1.drew BD);clear CX Q0;refine Sc.start (fun W'=>Only GG w1 W') [(false,0),(false,1),(false,2),(false,3),(false,4),(false,5),(false,6),(false,7),(false,8),(false,9),(false,10),(false,11),(false,12),(true,13),(false,14)] (by kernel_rfl) (by kernel_rfl) (by kernel_rfl) OD ?_;dsimp only [Sd.picks,List.getElem?_cons_succ,List.getElem?_cons_zero]
 iterate 13 (refine Sd.lit ?_;quiet_step (fail);refine az ?_)
 clear s0 x1 x2 x3 x4 x5 x6 x7;refine Sd.call (by rfl) (fun K hK=>?_);go_simp;refine CY.mono ?_;rintro e w5 ⟨d5,o5⟩;have R:=Hh (E w1.drew (bTr BW BD) e w5 d5);obtain ⟨rfl,_,_⟩:=d5;refine hK _ _ (Sc.Cl.of (OD.trans o5 fun k _ g=>g)) ?_;clear hK K o5 CY E
 iterate 1 (refine Sd.lit ?_;quiet_step (fail);refine az ?_)
 refine Sd.done ?_;go_wp2
 go_ret
 exact R
theorem cdo_drift (h:Cl w s F c t vn L p vq Fs) (x:Ac) (hk:x.k=6) (hn:¬ no c x.n):Calls prog 10 #[ptr s,actV x] w (DoC w s F (actC x c) (t+1) (actE x c)):=by
 have B0:=Hh ((aa w.heap.size w).alloc (ac _) (.cells (actA x) 38));have X0:=Hh (am w (.cells (actA x) 38));have hn':0<=x.n/\x.n < c.S.length:=by unfold no at hn;omega
 obtain ⟨nn,hnn⟩:∃ nn:Nat,(nn:Int)=x.n:=⟨x.n.toNat,by omega⟩;have hnl:nn < c.S.length:=by omega
 obtain ⟨g,cap,rfl,hcap,hm,-⟩:=h.one hnl;have hL:=h.len;have C1:=Hh (chas_in (h.below B0) (n:=nn) hnl);rw [hnn] at C1
 have CW:Hid (∀ W,Below (w.alloc (.cells (actA x) 38)).heap.size (w.alloc (.cells (actA x) 38)) W->Calls prog 36 #[.pointer (some ⟨g,nn * 3,none⟩),.int .i64 x.t] W (fun e w'=>DoC W s F (actC x c) t (actE x c) e w'/\Only (fun k=>k=g) W w')):=Hh (fun W b=>by
  have hh:=(h.below B0).below b;obtain ⟨_,_,q2⟩:=hh.nod hnl;obtain ⟨a1,a2⟩:=act_drift hk hn;rw [a1,a2];have fz:W.frozen? ⟨g,nn * 3+2,none⟩=false:=by
   obtain ⟨g',cap',e',_,_,_,_,_,fz⟩:=hh.one hnl;injection e' with e1 _ _;injection e1 with e1;injection e1 with e1 _ _;subst e1;exact fz _
  by_cases hx : -2000<=x.t/\x.t<=2000
  ·rw [ah (by omega)]
   refine (cdrift_yes W g (nn * 3) x.t _ q2 fz (cal_of.2 hx)).mono fun e w' hw=>?_;obtain ⟨rfl,rfl⟩:=hw;have z:=hh.setRate rfl hnl hx;exact ⟨doc_of z.1 z.2 0,Only.set (fun k=>k=g) W (a:=⟨g,nn * 3+2,none⟩) rfl _⟩
  ·rw [aj (by omega)]
   have hc:cal x.t=false:=by
    cases hc:cal x.t with
    | false=>rfl
    | true=>exact absurd (cal_of.1 hc) hx
   refine (cdrift_no W g (nn * 3) x.t hc).mono fun e w' hw=>?_;obtain ⟨rfl,rfl⟩:=hw
   exact ⟨doc_below hh (aa _ _) 1,Only.refl _ _⟩)
 have NG:Hid (¬ (fun k=>k=g) s/\¬ (fun k=>k=g) w.heap.size):=Hh ⟨fun e=>h.vs.1 (by rw [e];rfl),fun e=>by have:=h.low g (h.fv g (.inl rfl));omega⟩;have E:=Hh (fun w1 (b:Below w.heap.size w w1) e w' (d:DoC w1 s F (actC x c) t (actE x c) e w')=>(d.pre b h.low).late);have D0:=Hh (fun w1 b=>(h.below (w':=w1) b).cells.1);clear h hn hn' hL;generalize actC x c=c' at *;generalize actE x c=ae at *;generalize hGG:(fun k=>k=g)=GG at *;clear hGG;have HNL:=Hh hnl;have p5:decide (c.S.length<=nn)=false:=ak (by omega);generalize c.S.length=ln at *;unfold actV actA at *;unfold ptr at *;obtain ⟨k,n,f,rr,v,s',m,tt⟩:=x;simp only at hk hnn B0 X0 C1 CW E ⊢;subst hk hnn
 (try unfold rec4 at CW)
 go_enter func10,ntmps10
 go_wp2_with fail;refine C1.mono ?_;rintro e w1 ⟨rfl,b1⟩;have BW:=bTr B0 b1;have X1:=Hh (bBl b1 X0);have CX:=Hh (fun W (b:Below w1.heap.size w1 W)=>CW W (b1.trans (b.mono b1.size)));have d0:=D0.out w1 BW;clear b1 C1 CW D0 X0 B0;generalize hgx:w.heap.size=gx at X1 NG ⊢;have HGX:=Hh hgx;clear hgx;have y0:=Fl.rc X1 0;have Q0:=Hh d0;go_upto_region 18 with fail;clear y0 d0;have BD:=Hh (aa w1.heap.size w1).drew;have OD:Hid (Only GG w1 w1.drew):=Hh (Only.of_below BD);have s0:=Sc.cell_in (C:=fun W'=>Only GG w1 W') (a:=⟨s,0,none⟩) (fun W' o=>o.cell Q0 NG.out.1);have x1:=Sc.cell_in (C:=fun W'=>Only GG w1 W') (a:=⟨gx,1,none⟩) (fun W' o=>o.cell (row_cell X1 1) NG.out.2);have x10:=Sc.cell_in (C:=fun W'=>Only GG w1 W') (a:=⟨gx,10,none⟩) (fun W' o=>o.cell (row_cell X1 10) NG.out.2);have ne:Nonempty (Sc.In (fun W'=>Only GG w1 W')):=⟨⟨_,OD⟩⟩;have CY:=Hh (CX w1.drew BD);clear CX Q0;refine Sc.start (fun W'=>Only GG w1 W') [(false,0),(false,1),(false,2),(false,3),(false,4),(false,5),(false,6),(false,7),(false,8),(true,9),(false,10)] (by kernel_rfl) (by kernel_rfl) (by kernel_rfl) OD ?_;dsimp only [Sd.picks,List.getElem?_cons_succ,List.getElem?_cons_zero]
 iterate 9 (refine Sd.lit ?_;quiet_step (fail);refine az ?_)
 clear s0 x1 x10;refine Sd.call (by rfl) (fun K hK=>?_);go_simp;refine CY.mono ?_;rintro e w5 ⟨d5,o5⟩;have R:=Hh (E w1.drew (bTr BW BD) e w5 d5);obtain ⟨rfl,_,_⟩:=d5;refine hK _ _ (Sc.Cl.of (OD.trans o5 fun k _ g=>g)) ?_;clear hK K o5 CY E
 iterate 1 (refine Sd.lit ?_;quiet_step (fail);refine az ?_)
 refine Sd.done ?_;go_wp2
 go_ret
 exact R
theorem cdo_round (h:Cl w s F c t vn L p vq Fs) (ok:OkC c t) (ht:t<=1000) (hg:Glob w) (hG:¬ F 0) (x:Ac) (hk:x.k=1):Calls prog 10 #[ptr s,actV x] w (DoC w s F (actC x c) (t+1) (actE x c)):=by
 have B0:=Hh ((aa w.heap.size w).alloc (ac _) (.cells (actA x) 38));have e1:actE x c=rE c:=aj hk;have e2:actC x c=rC c:=aj hk;rw [e1,e2];have C2:=Hh (cround_any (h.below B0) ok ht (hg.below B0) hG);have E:=Hh (fun e w' (d:DoC (w.alloc (.cells (actA x) 38)) s F (rC c) (t+1) (rE c) e w')=>d.pre B0 h.low);clear h ok hg e1 e2;generalize rC c=c' at *;generalize rE c=ae at *;unfold actV actA at *;unfold ptr at *;obtain ⟨k,n,f,rr,v,s',m,tt⟩:=x;simp only at hk B0 C2 E ⊢;subst hk
 go_enter func10,ntmps10
 go_wp2_with fail;refine C2.mono ?_;rintro e w2 d;have G:=Hh (E e w2 d);obtain ⟨rfl,_,_⟩:=d;clear E C2;go_wp2
 go_ret
 exact G
theorem cdo_any (h:Cl w s F c t vn L p vq Fs) (ok:OkC c t) (sy:Syn c) (ht:t<=1000) (hg:Glob w) (hG:¬ F 0) (x:Ac) (hx:okR x.v) (hf:Wf x.f):Calls prog 10 #[ptr s,actV x] w (DoC w s F (actC x c) (t+1) (actE x c)):=by
 by_cases h1:x.k=1
 ·exact cdo_round h ok ht hg hG x h1
 by_cases h3:x.k=3
 ·exact cdo_spoil h ok x h3
 by_cases hn:no c x.n
 ·exact cdo_none h x h1 h3 hn
 by_cases h2:x.k=2
 ·exact cdo_write h x h2 hn hx hf
 by_cases h4:x.k=4
 ·exact cdo_crash h ok sy x h4 hn
 by_cases h5:x.k=5
 ·exact cdo_restart h ok sy x h5 hn
 by_cases h6:x.k=6
 ·exact cdo_drift h x h6 hn
 ·exact cdo_kind h x h1 h3 (by omega) hn
end
end Cu
namespace Cu
open Fs (Ent E3 FilesPost)
open Pa (Fls eatF)
def CH (w0:World) (s:Nat) (c:Cs) (t:Nat) (W:World):Prop:=∃ F,ClE W s F c t/\(∀ k,F k->w0.heap.size<=k)/\Below w0.heap.size w0 W
section
variable {w0 W w':World} {s t:Nat} {c:Cs}
theorem CH.below (h:CH w0 s c t W) (b:Below W.heap.size W w'):CH w0 s c t w':=by
 obtain ⟨F,⟨vn,L,p,vq,Fs,h1⟩,h2,h3⟩:=h;exact ⟨F,⟨vn,L,p,vq,Fs,h1.below b⟩,h2,h3.trans (b.mono h3.size)⟩
theorem CH.bel (h:CH w0 s c t W):Below w0.heap.size w0 W:=by obtain ⟨_,_,_,h⟩:=h;exact h
variable {n B:Nat}
theorem ch_files (h:CH w0 s c t W) (hn:n < c.S.length):Calls prog 14 #[ptr s,.int .i64 n] W (FilesPost W (sat c.S n).1):=by
 obtain ⟨F,⟨vn,L,p,vq,Fs,h1⟩,_,_⟩:=h;exact cfiles_in h1 hn
theorem ch_live (h:CH w0 s c t W) (hn:n < c.S.length):Calls prog 22 #[ptr s,.int .i64 n] W fun e w'=>e = .returned (.bool (vat c.V n))/\Below W.heap.size W w':=by
 obtain ⟨F,⟨vn,L,p,vq,Fs,h1⟩,_,_⟩:=h;exact clive_in h1 hn
theorem ch_nodes (h:CH w0 s c t W):Calls prog 13 #[ptr s] W fun e w'=>e = .returned (.int .i64 c.S.length)/\Below W.heap.size W w':=by
 obtain ⟨F,⟨vn,L,p,vq,Fs,h1⟩,_,_⟩:=h;exact cnodes_any h1
variable {v:Value} {L:List PlD}
theorem ch_new (H:Pls W v L B) (e0:newE (pls L)=0) (b:Below w0.heap.size w0 W):Calls prog 6 #[v] W fun e w'=>∃ s,e = .returned (.tuple #[.pointer (some ⟨s,0,none⟩),.int .i64 0])/\CH w0 s (newC (pls L)) 0 w':=by
 refine (cnew_any H).mono fun e w' d=>?_;obtain ⟨b',⟨_,s,F,rfl,cl,lo⟩ | ⟨h,_⟩⟩:=d
 ·exact ⟨s,rfl,F,cl,fun k g=>aX b.size (lo k g),b.trans (b'.mono b.size)⟩
 ·exact absurd e0 h
theorem new_no {z:Int} (H:Pls W v L B) (e0:newE (pls L)=z) (hz:z≠0):Calls prog 6 #[v] W fun e w'=>e = .returned (.tuple #[.pointer none,.int .i64 z])/\Below W.heap.size W w':=by
 refine (cnew_any H).mono fun e w' d=>?_;obtain ⟨b',⟨h,_⟩ | ⟨_,rfl⟩⟩:=d
 ·exact absurd (e0.symm.trans h) hz
 ·exact ⟨by rw [e0],b'⟩
end
variable {w:World} {v:Value}
theorem fls_of {L:List Ent} (rd:Rd E3 w v L) (each:∀ c∈L,Rd K4 w c.sl c.l/\okL c.l):Fls w v L w.heap.size:=by
 have at_:∀ i,i < L.length->eatF L i∈L:=fun i hi=>by
  unfold eatF;rw [af,ai hi];exact bC hi
 exact ⟨rd,fun i hi=>each _ (at_ i hi),fun i hi h0 k hk=>Fs.rd_low (each _ (at_ i hi)).1 h0 k hk⟩
theorem pls_of {L:List PlD} (rd:Rd KP w v L) (each:∀ c∈L,Fls w (sl c.files) c.F w.heap.size):Pls w v L w.heap.size:=by
 refine ⟨rd,fun i hi=>each _ ?_⟩;unfold pld;rw [af,ai hi];exact bC hi
theorem run_buildB (k:Int) (w:World):(Instr.build 38 #[(0,.int .i64 k)]).run prog w = .ok (.agg #[.int .i64 k,.int .i64 0,.int .i64 0,.int .i64 0,.int .u8 0,.int .u8 0,.int .u8 0,.int .u8 0,.int .i64 0,.int .i64 0,.int .i64 0]) w:=by kernel_rfl
open Go.Maps
open Fl (sto4 sto4_row)
open Fs (dA dE dV dD DoSPost dos_any results_rec o_sto4)
open Pa (S2)
attribute [local irreducible] Sd.wpSd wpQuiet Sz.wpSz
def SvC (w:World) (s:Nat) (F:Nat->Prop) (c:Cs) (t:Nat) (y:R4) (x:Int) (e:Ending) (w':World):Prop:=e = .returned (.tuple #[rec4 y,.int .i64 x])/\ClE w' s (Fx F w w') c t/\Only F w w'
section
variable {s t p:Nat} {F G:Nat->Prop} {c:Cs} {vn vq:Value} {L:List Nd} {Fs:Nat->Nat->Prop} {w w1 w':World}
theorem svc_below (h:Cl w s F c t vn L p vq Fs) (b:Below w.heap.size w w') (y:R4) (x:Int):SvC w s F c t y x (.returned (.tuple #[rec4 y,.int .i64 x])) w':=⟨rfl,⟨vn,L,p,vq,Fs,(h.below b).fx w⟩,Only.of_below b⟩
structure Sv0 (w:World) (o f r:Int) (x:R4) (W:World):Prop where
 adr:W.heap[w.heap.size]? = some (.cells #[.int .i64 o,.int .i64 f,.int .i64 r] 66 (0,0))
 arg:W.heap[w.heap.size+1]? = some (.cells (arr4 x) 36 (0,0))
 res:W.heap[w.heap.size+2]? = some (.cells (arr4 z4) 36 (0,0))
 bel:Below w.heap.size w W
theorem Sv0.mono {W W':World} {o f r:Int} {x:R4} (h:Sv0 w o f r x W) (b:Below W.heap.size W W'):Sv0 w o f r x W' :=
 ⟨bBl b h.adr,bBl b h.arg,bBl b h.res,h.bel.trans (b.mono h.bel.size)⟩
theorem sv0_of (w:World) (o f r:Int) (x:R4):Sv0 w o f r x (((w.alloc (.cells #[.int .i64 o,.int .i64 f,.int .i64 r] 66)).alloc (.cells #[.int .u8 x.1,.int .u8 x.2.1,.int .u8 x.2.2.1,.int .u8 x.2.2.2] 36)).alloc (.cells #[.int .u8 0,.int .u8 0,.int .u8 0,.int .u8 0] 36)):=by
 have q:=Fs.ask0_of w o f r x;exact ⟨q.adr,q.arg,q.res,q.bel⟩
variable {o f r n:Int} {x y:R4}
theorem Sv0.sto {W:World} (h:Sv0 w o f r x W):(sto4 W (w.heap.size+2) 0 y).heap[w.heap.size+2]? = some (.cells (arr4 y) 36 (0,0))/\Below w.heap.size w (sto4 W (w.heap.size+2) 0 y) :=
 ⟨sto4_row h.res y,h.bel.trans ((o_sto4 W (w.heap.size+2) y).below h.bel.size fun k e=>by omega)⟩
theorem sr_no (hn:no c n):srE c n o f r=1/\srV c n o f r x=z4/\srC c n o f r x=c:=by
 have e:srE c n o f r=1:=aj hn;refine ⟨e,?_,aj (.inl hn)⟩;unfold srV;rw [e,ah (by decide)]
theorem sr_down (hn:¬ no c n) (hv:vat c.V n=false):srE c n o f r=13/\srV c n o f r x=z4/\srC c n o f r x=c:=by
 have e:srE c n o f r=13:=by unfold srE;rw [ah hn,hv,ah bO]
 refine ⟨e,?_,aj (.inr hv)⟩;unfold srV;rw [e,ah (by decide)]
theorem dV_z {A:Abs} (h:dE A o f r≠0):dV A o f r x=z4:=by
 unfold dV
 split
 ·rfl
 ·rw [ah h]
theorem sr_live (hn:¬ no c n) (hv:vat c.V n=true):srE c n o f r=dE (sat c.S n).1 o f r/\srV c n o f r x=dV (sat c.S n).1 o f r x/\srC c n o f r x = { c with S:=setS c.S n (dA (sat c.S n).1 o f r x,dD (sat c.S n).1 o f r (sat c.S n).2) }:=by
 have e:srE c n o f r=dE (sat c.S n).1 o f r:=by unfold srE;rw [ah hn,hv,aj rfl]
 refine ⟨e,?_,?_⟩
 ·unfold srV
  rw [e]
  by_cases h:dE (sat c.S n).1 o f r=0
  ·rw [aj h]
  ·rw [ah h,dV_z h]
 ·unfold srC
  rw [ah (by rw [hv];rintro (g | g);exact hn g;cases g)]
theorem cserve_no (h:Cl w s F c t vn L p vq Fs) (o f r:Int) (x:R4) (hn:no c n):Calls prog 23 #[ptr s,.int .i64 n,Ad.addr o f r,rec4 x] w (SvC w s F c t z4 1):=by
 have S0:=Hh (sv0_of w o f r x);have C1:=Hh (chas_out (h.below S0.bel) hn);have E:=Hh (fun w' b=>svc_below h (w':=w') b z4 1);clear h hn;unfold ptr rec4 at *;unfold Ad.addr at *
 go_enter func23,ntmps23
 go_wp2_with fail;generalize (((w.alloc (.cells #[.int .i64 o,.int .i64 f,.int .i64 r] 66)).alloc (.cells #[.int .u8 x.1,.int .u8 x.2.1,.int .u8 x.2.2.1,.int .u8 x.2.2.2] 36)).alloc (.cells #[.int .u8 0,.int .u8 0,.int .u8 0,.int .u8 0] 36))=W at *;refine C1.mono ?_;rintro e w1 ⟨rfl,b1⟩;have S2:=Hh (S0.mono b1);clear b1 C1 S0;obtain ⟨d0,d1,d2,d3,k0,k1,k2,k3⟩:=rf4 S2.res;have R3:=Hh (S2.sto (y:=z4)).1;have G:=Hh (E _ (S2.sto (y:=z4)).2);clear S2 E;unfold rec4 at G;go_wp2
 (try simp only [Exit.inBlock,Exit.then])
 exact aA (results_rec (p:=8) (r:=9) rfl _ _ (w.heap.size+2) z4 (.int .i64 1) rfl rfl R3) rfl G
theorem cserve_down (h:Cl w s F c t vn L p vq Fs) {n:Nat} (o f r:Int) (x:R4) (hn:n < c.S.length) (hv:vat c.V n=false):Calls prog 23 #[ptr s,.int .i64 n,Ad.addr o f r,rec4 x] w (SvC w s F c t z4 13):=by
 have S0:=Hh (sv0_of w o f r x);have C1:=Hh (chas_in (h.below S0.bel) hn);have E:=Hh (fun w' b=>svc_below h (w':=w') b z4 13);obtain ⟨g,cap,rfl,-,hm,-⟩:=h.one hn;have D:=Hh (fun w1 (b:Below w.heap.size w w1)=>bT (h.below b).cells.1 ((h.below b).nod hn).2.1);have lv:(nda L n).live=false:=by rw [h.lv n (by rw [h.len];exact hn)];exact hv
 rw [lv] at D;have p5:decide (c.S.length<=n)=false:=ak (by omega);clear h hv lv;generalize c.S.length=ln at *;unfold ptr rec4 at *;unfold Ad.addr at *
 go_enter func23,ntmps23
 go_wp2_with fail;generalize (((w.alloc (.cells #[.int .i64 o,.int .i64 f,.int .i64 r] 66)).alloc (.cells #[.int .u8 x.1,.int .u8 x.2.1,.int .u8 x.2.2.1,.int .u8 x.2.2.2] 36)).alloc (.cells #[.int .u8 0,.int .u8 0,.int .u8 0,.int .u8 0] 36))=W at *;refine C1.mono ?_;rintro e w1 ⟨rfl,b1⟩;have S2:=Hh (S0.mono b1);obtain ⟨y0,y1⟩:=D w1 S2.bel;clear b1 C1 S0 D;obtain ⟨d0,d1,d2,d3,k0,k1,k2,k3⟩:=rf4 S2.res;have R3:=Hh (S2.sto (y:=z4)).1;have G:=Hh (E _ (S2.sto (y:=z4)).2);clear S2 E;unfold rec4 at G;go_wp2
 (try simp only [Exit.inBlock,Exit.then])
 exact aA (results_rec (p:=8) (r:=9) rfl _ _ (w.heap.size+2) z4 (.int .i64 13) rfl rfl R3) rfl G
theorem cserve_live (h:Cl w s F c t vn L p vq Fs) {n:Nat} (o f r:Int) (x:R4) (hx:okR x) (hg:Glob w) (hG:¬ F 0) (hd:0<=(sat c.S n).2/\(sat c.S n).2 < 1000000) (hn:n < c.S.length) (hv:vat c.V n=true):Calls prog 23 #[ptr s,.int .i64 n,Ad.addr o f r,rec4 x] w (SvC w s F { c with S:=setS c.S n (dA (sat c.S n).1 o f r x,dD (sat c.S n).1 o f r (sat c.S n).2) } t (dV (sat c.S n).1 o f r x) (dE (sat c.S n).1 o f r)):=by
 have S0:=Hh (sv0_of w o f r x);have C1:=Hh (chas_in (h.below S0.bel) hn);have hL:n < L.length:=by rw [h.len];exact hn
 obtain ⟨g,cap,rfl,-,hm,-⟩:=h.one hn;have D:=Hh (fun w1 (b:Below w.heap.size w w1)=>bT (h.below b).cells.1 ((h.below b).nod hn));have lv:(nda L n).live=true:=by rw [h.lv n hL];exact hv
 rw [lv] at D;have p5:decide (c.S.length<=n)=false:=ak (by omega);have SD:=Hh (fun w1 (b:Below w.heap.size w w1)=>dos_any ((h.below b).sto hn) (hg.below b) (fun e=>hG (h.ff n hL _ e)) hd o f r x hx);have LOWF:=Hh (h.st n hL).low;have NG:Hid (¬ Fs n s/\¬ Fs n g/\(∀ k,w.heap.size<=k->¬ Fs n k)):=Hh ⟨fun e=>(h.off n hL s e).1 rfl,fun e=>(h.off n hL g e).2.2.1 rfl,fun k hk e=>by have:=(h.st n hL).low k e;omega⟩;have NL:Hid (s < w.heap.size/\g < w.heap.size):=Hh ⟨h.slt,h.low g (h.fv g (.inl rfl))⟩
 have FIN:Hid (∀ w1 w2 w3 e,Below w.heap.size w w1->DoSPost w1 (nda L n).s (Fs n) (dD (sat c.S n).1 o f r (sat c.S n).2) (dV (sat c.S n).1 o f r x) (dE (sat c.S n).1 o f r) (dA (sat c.S n).1 o f r x) e w2->Only (fun k=>k=w.heap.size+2) w2 w3->w.heap.size+2 < w1.heap.size->SvC w s F { c with S:=setS c.S n (dA (sat c.S n).1 o f r x,dD (sat c.S n).1 o f r (sat c.S n).2) } t (dV (sat c.S n).1 o f r x) (dE (sat c.S n).1 o f r) (.returned (.tuple #[rec4 (dV (sat c.S n).1 o f r x),.int .i64 (dE (sat c.S n).1 o f r)])) w3):=Hh (fun w1 w2 w3 e b1 ⟨_,d2,o2⟩ o3 hl=>by
  have z:=(h.below b1).store (i:=n) hL (x:=(dA (sat c.S n).1 o f r x,dD (sat c.S n).1 o f r (sat c.S n).2)) d2 o2;have hb:∀ k,Fx F w1 w2 k->¬ k=w.heap.size+2:=fun k q e=>by
   rcases q with q | q
   ·have:=h.low k q;omega
   ·omega
  have z3:=z.only (G:=fun k=>k=w.heap.size+2) hb o3;have z1:=b1.size;have z2:=o2.size;have z4:=o3.size;have oo:=((Only.of_below b1).trans (o2.mono fun k _ q=>h.ff n hL k q) fun _ _ q=>q).trans (G':=fun k=>k=w.heap.size+2) o3 fun k hk q=>by omega
  exact ⟨rfl,⟨_,_,_,_,_,z3.wide (fun k q=>by
   rcases q with q | q
   ·exact .inl q
   ·exact .inr ⟨by omega,by omega⟩) (Fx.low h.low oo.size)⟩,oo⟩)
 clear h hv lv hg hG hd hL;unfold DoSPost at SD;have SDP:Hid (∀ w1,Below w.heap.size w w1->Calls prog 49 #[.pointer (some ⟨(nda L n).s,0,none⟩),Ad.addr o f r,rec4 x] w1 (DoSPost w1 (nda L n).s (Fs n) (dD (sat c.S n).1 o f r (sat c.S n).2) (dV (sat c.S n).1 o f r x) (dE (sat c.S n).1 o f r) (dA (sat c.S n).1 o f r x))):=Hh (fun w1 b=>SD w1 b);clear SD;generalize ({ c with S:=setS c.S n (dA (sat c.S n).1 o f r x,dD (sat c.S n).1 o f r (sat c.S n).2) } : Cs)=c' at *;generalize dD (sat c.S n).1 o f r (sat c.S n).2=d' at *;generalize dV (sat c.S n).1 o f r x=y at *;generalize dE (sat c.S n).1 o f r=ee at *;generalize dA (sat c.S n).1 o f r x=A' at *;generalize c.S.length=ln at *;generalize (nda L n).s=q at *;unfold ptr rec4 at *;unfold Ad.addr at *
 go_enter func23,ntmps23
 go_wp2_with fail;generalize (((w.alloc (.cells #[.int .i64 o,.int .i64 f,.int .i64 r] 66)).alloc (.cells #[.int .u8 x.1,.int .u8 x.2.1,.int .u8 x.2.2.1,.int .u8 x.2.2.2] 36)).alloc (.cells #[.int .u8 0,.int .u8 0,.int .u8 0,.int .u8 0] 36))=W at *;refine C1.mono ?_;rintro e w1 ⟨rfl,b1⟩;have S2:=Hh (S0.mono b1);obtain ⟨y0,y1,y2,-⟩:=D w1 S2.bel;have Y0:=Hh y0;have Y1:=Hh y1;clear b1 C1 S0 D y1;go_upto_region 5 with fail;clear y0 y2;have BD:=Hh (aa w1.heap.size w1).drew;have hl2:=ay S2.res;have CD:=Hh (SDP w1.drew (S2.bel.trans (BD.mono S2.bel.size)));have S3:=Hh (S2.mono BD);have NX:Hid (¬ (fun k=>Fs n k\/k=w.heap.size+2) s/\¬ (fun k=>Fs n k\/k=w.heap.size+2) g/\¬ (fun k=>Fs n k\/k=w.heap.size+2) w.heap.size/\¬ (fun k=>Fs n k\/k=w.heap.size+2) (w.heap.size+1)):=Hh ⟨fun e=>e.elim NG.out.1 (fun e=>by have:=NL.out.1;omega),fun e=>e.elim NG.out.2.1 (fun e=>by have:=NL.out.2;omega),fun e=>e.elim (NG.out.2.2 _ (ac _)) (fun e=>by omega),fun e=>e.elim (NG.out.2.2 _ (by omega)) (fun e=>by omega)⟩;generalize hGG:(fun k=>Fs n k\/k=w.heap.size+2)=GG at NX;have HGG:=Hh hGG;clear hGG;have OD:Hid (Only GG w1 w1.drew):=Hh (Only.of_below BD);have s0:=Sc.cell_in (C:=fun W'=>Only GG w1 W') (a:=⟨s,0,none⟩) (fun W' oo=>oo.cell Y0 NX.out.1);have s1:=Sc.cell_in (C:=fun W'=>Only GG w1 W') (a:=⟨g,n * 3,none⟩) (fun W' oo=>oo.cell Y1 NX.out.2.1);have a0:=Sc.cell_in (C:=fun W'=>Only GG w1 W') (a:=⟨w.heap.size,0,none⟩) (fun W' oo=>oo.cell (row_cell S2.adr 0) NX.out.2.2.1);have a1:=Sc.cell_in (C:=fun W'=>Only GG w1 W') (a:=⟨w.heap.size,1,none⟩) (fun W' oo=>oo.cell (row_cell S2.adr 1) NX.out.2.2.1);have a2:=Sc.cell_in (C:=fun W'=>Only GG w1 W') (a:=⟨w.heap.size,2,none⟩) (fun W' oo=>oo.cell (row_cell S2.adr 2) NX.out.2.2.1);have x0:=Sc.cell_in (C:=fun W'=>Only GG w1 W') (a:=⟨w.heap.size+1,0,none⟩) (fun W' oo=>oo.cell (row_cell S2.arg 0) NX.out.2.2.2);have x1:=Sc.cell_in (C:=fun W'=>Only GG w1 W') (a:=⟨w.heap.size+1,1,none⟩) (fun W' oo=>oo.cell (row_cell S2.arg 1) NX.out.2.2.2);have x2:=Sc.cell_in (C:=fun W'=>Only GG w1 W') (a:=⟨w.heap.size+1,2,none⟩) (fun W' oo=>oo.cell (row_cell S2.arg 2) NX.out.2.2.2);have x3:=Sc.cell_in (C:=fun W'=>Only GG w1 W') (a:=⟨w.heap.size+1,3,none⟩) (fun W' oo=>oo.cell (row_cell S2.arg 3) NX.out.2.2.2);have ne:Nonempty (Sc.In (fun W'=>Only GG w1 W')):=⟨⟨_,OD⟩⟩;refine Sc.start (fun W'=>Only GG w1 W') [(false,0),(false,1),(false,2),(false,3),(false,4),(false,5),(false,6),(false,7),(false,8),(false,9),(true,10),(false,11),(false,12),(true,13),(false,14)] (by kernel_rfl) (by kernel_rfl) (by kernel_rfl) OD ?_;dsimp only [Sd.picks,List.getElem?_cons_succ,List.getElem?_cons_zero]
 iterate 10 (refine Sd.lit ?_;quiet_step (fail);refine az ?_)
 clear s0 s1 a0 a1 a2 x0 x1 x2 x3;refine Sd.call (by rfl) (fun K hK=>?_);go_simp;refine CD.mono ?_;rintro e w5 hp;have P5:=Hh hp;obtain ⟨rfl,-,o5⟩:=hp;have O5:=Hh (OD.trans (o5.mono fun k _ q=>(by rw [← HGG.out];exact .inl q:GG k)) fun _ _ q=>q);have R5:=Hh ((o5.block _ (ay S3.res) (NG.out.2.2 _ (by omega))).trans S3.out.res);refine hK _ _ (Sc.Cl.of O5) ?_;clear hK K o5 CD;unfold rec4
 iterate 2 (refine Sd.lit ?_;quiet_step (fail);refine az ?_)
 obtain ⟨d0,d1,d2,d3,k0,k1,k2,k3⟩:=rf4 R5;have R6:=Hh (sto4_row R5 y);have O6:=Hh (o_sto4 w5 (w.heap.size+2) y);have G:=Hh (FIN _ w5 _ _ (S2.bel.trans (BD.mono S2.bel.size)) P5 O6 (ay S3.res));refine Sd.call (by rfl) (fun K hK=>?_);go_simp;refine hK _ _ (Sc.Cl.of (O5.trans O6 fun k _ q=>by rw [← HGG.out];exact .inr q)) ?_;clear hK K d0 d1 d2 d3 k0 k1 k2 k3 FIN P5 O5 O6 S2 S3
 iterate 1 (refine Sd.lit ?_;quiet_step (fail);refine az ?_)
 refine Sd.done ?_;unfold rec4 at G;go_wp2
 (try simp only [Exit.inBlock,Exit.then])
 exact aA (results_rec (p:=8) (r:=9) rfl _ _ (w.heap.size+2) y (.int .i64 ee) rfl rfl R6) rfl G
theorem SvC.late {y:R4} {x:Int} {e:Ending} (h:SvC w s F c t y x e w'):SvC w s F c (t+1) y x e w':=by
 obtain ⟨h1,⟨vn,L,p,vq,Fs,h2⟩,h3⟩:=h;exact ⟨h1,⟨vn,L,p,vq,Fs,h2.late⟩,h3⟩
theorem cserve_any (h:Cl w s F c t vn L p vq Fs) (ok:OkC c t) (ht:t<=1000) (hg:Glob w) (hG:¬ F 0) (n o f r:Int) (x:R4) (hx:okR x):Calls prog 23 #[ptr s,.int .i64 n,Ad.addr o f r,rec4 x] w (SvC w s F (srC c n o f r x) (t+1) (srV c n o f r x) (srE c n o f r)):=by
 by_cases hn:no c n
 ·obtain ⟨e1,e2,e3⟩:=sr_no (o:=o) (f:=f) (r:=r) (x:=x) hn
  rw [e1,e2,e3];exact (cserve_no h o f r x hn).mono fun _ _ d=>d.late
 ·have hin:0<=n/\n < c.S.length:=by unfold no at hn;omega
  obtain ⟨nn,rfl⟩:∃ nn:Nat,n=nn:=⟨n.toNat,by omega⟩
  cases hv:vat c.V nn with
  | false =>
    obtain ⟨e1,e2,e3⟩:=sr_down (o:=o) (f:=f) (r:=r) (x:=x) hn hv;rw [e1,e2,e3];exact (cserve_down h o f r x (by omega) hv).mono fun _ _ d=>d.late
  | true =>
    obtain ⟨e1,e2,e3⟩:=sr_live (o:=o) (f:=f) (r:=r) (x:=x) hn hv;have hs:=ok.st nn (by omega);rw [e1,e2,e3];exact (cserve_live h o f r x hx hg hG ⟨hs.2.1,by omega⟩ (by omega) hv).mono fun _ _ d=>d.late
end
end Cu
namespace Ga
open Go.Extern.Stop Go.Stop Go.Extern
open Fs (typF nilF kinF eleF impF asgF elvF valF mKind mElem mImp mAsg rlm rls isTypeOf valP valE typP kindP kindE elemP impE asgE elvP nilP setE)
def rfu (n e:Int):Value:=.agg #[.int .i64 n,.iface 25 (.int .i64 e)]
theorem valPS (t:Addr) (w:World):(valF #[.iface 156 (.pointer (some t))]).run prog w = .ok (.agg #[.pointer (some ⟨1,156,none⟩),.pointer (some ⟨w.heap.size,0,none⟩),.int .u64 150]) (w.alloc (.cells #[.pointer (some t)] 156)):=by kernel_rfl
theorem valS (n e:Int) (w:World):(valF #[.iface 154 (rfu n e)]).run prog w = .ok (.agg #[.pointer (some ⟨1,154,none⟩),.pointer (some ⟨w.heap.size,0,none⟩),.int .u64 153]) (w.alloc (.cells #[.int .i64 n,.iface 25 (.int .i64 e)] 154)):=by kernel_rfl
theorem typPS (a:Addr) (w:World):(typF #[.agg #[.pointer (some ⟨1,156,none⟩),.pointer (some a),.int .u64 150]]).run prog w = .ok (.iface 222 (.agg #[.pointer (some ⟨1,156,none⟩)])) w:=by kernel_rfl
theorem kindPS (w:World):(kinF #[.pointer (some ⟨1,156,none⟩)]).run prog w = .ok (.int .u8 22) w:=by kernel_rfl
theorem kindS (w:World):(kinF #[.pointer (some ⟨1,154,none⟩)]).run prog w = .ok (.int .u8 25) w:=by kernel_rfl
theorem elemPS (w:World):(eleF #[.agg #[.pointer (some ⟨1,156,none⟩)]]).run prog w = .ok (.iface 222 (.agg #[.pointer (some ⟨1,154,none⟩)])) w:=by kernel_rfl
theorem impS (w:World):(impF #[.agg #[.pointer (some ⟨1,154,none⟩)],.iface 222 (.agg #[.pointer (some ⟨1,107,none⟩)])]).run prog w = .ok (.bool true) w:=by kernel_rfl
theorem asgS (w:World):(asgF #[.agg #[.pointer (some ⟨1,154,none⟩)],.iface 222 (.agg #[.pointer (some ⟨1,154,none⟩)])]).run prog w = .ok (.bool true) w:=by kernel_rfl
theorem isTypeOfS (v:Value) (w:World):(Extern.ReflectliteType.typeOf #[.iface 154 v]).run prog w = .ok (.iface 222 (.agg #[.pointer (some ⟨1,154,none⟩)])) w:=by kernel_rfl
theorem partsPS (a:Addr) (w:World):(ReflectliteValue.parts (.agg #[.pointer (some ⟨1,156,none⟩),.pointer (some a),.int .u64 150])).run prog w = .ok (some (156,a,150)) w:=by kernel_rfl
theorem nilPS (a p:Addr) (W:World) (ha:W.cell? a=some (.pointer (some p))):(nilF #[.agg #[.pointer (some ⟨1,156,none⟩),.pointer (some a),.int .u64 150]]).run prog W = .ok (.bool false) W:=by
 unfold nilF;rw [rlm];simp only [Sem.run_bind,partsPS,Result.andThen]
 simp [ReflectliteValue.isNil,loadVar,isAgg,underlying,underlying156,ha,Result.andThen]
theorem elemOfPS (w:World):(Rtype.elem? 156).run prog w = .ok (some 154) w:=by kernel_rfl
theorem mkS (p:Addr) (w:World):(ReflectliteValue.mk 154 p ReflectliteValue.flagAddr).run prog w = .ok (.agg #[.pointer (some ⟨1,154,none⟩),.pointer (some p),.int .u64 409]) w:=by kernel_rfl
theorem elvPS (a p:Addr) (W:World) (ha:W.cell? a=some (.pointer (some p))):(elvF #[.agg #[.pointer (some ⟨1,156,none⟩),.pointer (some a),.int .u64 150]]).run prog W = .ok (.agg #[.pointer (some ⟨1,154,none⟩),.pointer (some p),.int .u64 409]) W:=by
 unfold elvF;rw [rlm];simp only [Sem.run_bind,partsPS,Result.andThen]
 simp [ReflectliteValue.elem,loadVar,isAgg,underlying,underlying156,ha,Result.andThen,elemOfPS,mkS]
theorem partsSa (a:Addr) (w:World):(ReflectliteValue.parts (.agg #[.pointer (some ⟨1,154,none⟩),.pointer (some a),.int .u64 409])).run prog w = .ok (some (154,a,409)) w:=by kernel_rfl
theorem partsS (a:Addr) (w:World):(ReflectliteValue.parts (.agg #[.pointer (some ⟨1,154,none⟩),.pointer (some a),.int .u64 153])).run prog w = .ok (some (154,a,153)) w:=by kernel_rfl
theorem directS (w:World):(Rtype.directlyAssignable 154 154).run prog w = .ok true w:=by kernel_rfl
theorem setS (tb g:Nat) (n e:Int) (u0 u1:Value) (W:World) (hb:W.heap[g]? = some (.cells #[.int .i64 n,.iface 25 (.int .i64 e)] 154 (0,0))) (ht:W.heap[tb]? = some (.cells #[u0,u1] 154 (0,0))) :
 (ReflectliteValue.set #[.agg #[.pointer (some ⟨1,154,none⟩),.pointer (some ⟨tb,0,none⟩),.int .u64 409],.agg #[.pointer (some ⟨1,154,none⟩),.pointer (some ⟨g,0,none⟩),.int .u64 153]]).run prog W
   = .ok (.tuple #[]) ((W.setCell ⟨tb,0,none⟩ (.int .i64 n)).setCell ⟨tb,1,none⟩ (.iface 25 (.int .i64 e))):=by
 have ld:=ce (P:=prog) W g 154 154 _ (0,0) _ hb underlying154 rfl (by show _=some 2;kernel_rfl);have c0:W.cell? ⟨tb,0,none⟩=some u0:=row_cell ht 0;have f0:=row_frozen ht 0;have ht2:(W.setCell ⟨tb,0,none⟩ (.int .i64 n)).heap[tb]? = some (.cells #[.int .i64 n,u1] 154 (0,0)):=by
  rw [Rw.heap_setCell_same (j:=0) ht (.int .i64 n)]
  simp
 have c1:(W.setCell ⟨tb,0,none⟩ (.int .i64 n)).cell? ⟨tb,1,none⟩=some u1:=row_cell ht2 1;have f1:=row_frozen ht2 1;rw [rls];simp only [Sem.run_bind,partsSa,partsS,Result.andThen]
 simp [ReflectliteValue.flagAddr,ld,Result.andThen,directS,storeVar,Value.cells,storeCells,Addr.add]
 rw [run_store prog W ⟨tb,0,none⟩ _ _ (by rfl)]
 simp [c0,f0]
 rw [run_store prog _ ⟨tb,1,none⟩ _ _ (by rfl)]
 simp [c1,f1]
def AsPost (w:World) (tb:Nat) (n e:Int) (ev:Ending) (w':World):Prop:=ev = .returned (.bool true)/\w'.heap[tb]? = some (.cells #[.int .i64 n,.iface 25 (.int .i64 e)] 154 (0,0))/\Only (fun k=>k=tb) w w'
theorem set2 {W:World} {tb:Nat} {u0 u1:Value} (n e:Int) (ht:W.heap[tb]? = some (.cells #[u0,u1] 154 (0,0))):((W.setCell ⟨tb,0,none⟩ (.int .i64 n)).setCell ⟨tb,1,none⟩ (.iface 25 (.int .i64 e))).heap[tb]? = some (.cells #[.int .i64 n,.iface 25 (.int .i64 e)] 154 (0,0)):=by
 have h2:(W.setCell ⟨tb,0,none⟩ (.int .i64 n)).heap[tb]? = some (.cells #[.int .i64 n,u1] 154 (0,0)):=by
  rw [Rw.heap_setCell_same (j:=0) ht (.int .i64 n)]
  simp
 rw [Rw.heap_setCell_same (j:=1) h2 _]
 simp
theorem as_loop (n e:Int) (tb b:Nat) (w:World) (hb:w.cell? ⟨b,0,none⟩=some (.pointer (some ⟨tb,0,none⟩))) (ht:w.heap[tb]? = some (.cells #[.int .i64 0,.nilIface] 154 (0,0))) :
 Calls prog 104 #[.iface 154 (rfu n e),.iface 156 (.pointer (some ⟨tb,0,none⟩)),.agg #[.pointer (some ⟨1,156,none⟩),.pointer (some ⟨b,0,none⟩),.int .u64 150],.iface 222 (.agg #[.pointer (some ⟨1,154,none⟩)])] w (AsPost w tb n e):=by
 have h42:=@run_callFunc_extern prog 94 _ Extern.ReflectliteType.typeOf func94 (by kernel_rfl) (by kernel_rfl) (by kernel_rfl) (by kernel_rfl);have h102:=@run_callFunc_extern prog 261 _ asgF func261 (by kernel_rfl) (by kernel_rfl) (by kernel_rfl) (by kernel_rfl);have h60:=@run_callFunc_extern prog 125 _ elvF func125 (by kernel_rfl) (by kernel_rfl) (by kernel_rfl) (by kernel_rfl);have h50:=@run_callFunc_extern prog 101 _ valF func101 (by kernel_rfl) (by kernel_rfl) (by kernel_rfl) (by kernel_rfl);have h61:=@run_callFunc_extern prog 126 _ ReflectliteValue.set func126 (by kernel_rfl) (by kernel_rfl) (by kernel_rfl) (by kernel_rfl);have tS:=isTypeOfS;have mA:=mAsg;have aS:=asgS;have vS:=valS;have HT:=Hh ht;have B0:=Hh ((aa w.heap.size w).alloc (ac _) (.cells #[.pointer (some ⟨1,156,none⟩),.pointer (some ⟨b,0,none⟩),.int .u64 150] 196));have hbl:=aC _ _ hb;have el:=elvPS ⟨b,0,none⟩ ⟨tb,0,none⟩ (w.alloc (.cells #[.pointer (some ⟨1,156,none⟩),.pointer (some ⟨b,0,none⟩),.int .u64 150] 196)) ((B0.out.cell hbl).trans hb);have T1:=(B0.out.block tb (ay ht)).trans ht;clear hb ht hbl;have T2:=(aQ (w.alloc (.cells #[.pointer (some ⟨1,156,none⟩),.pointer (some ⟨b,0,none⟩),.int .u64 150] 196)) (.cells #[.int .i64 n,.iface 25 (.int .i64 e)] 154) tb (ay T1)).trans T1;have NW:=am (w.alloc (.cells #[.pointer (some ⟨1,156,none⟩),.pointer (some ⟨b,0,none⟩),.int .u64 150] 196)) (.cells #[.int .i64 n,.iface 25 (.int .i64 e)] 154);have st:=setS tb _ n e (.int .i64 0) .nilIface _ NW T2;have hz:(w.alloc (.cells #[.pointer (some ⟨1,156,none⟩),.pointer (some ⟨b,0,none⟩),.int .u64 150] 196)).heap.size=w.heap.size+1:=by simp
 rw [hz] at st;have RES:Hid (AsPost w tb n e (.returned (.bool true)) (((((w.alloc (.cells #[.pointer (some ⟨1,156,none⟩),.pointer (some ⟨b,0,none⟩),.int .u64 150] 196)).alloc (.cells #[.int .i64 n,.iface 25 (.int .i64 e)] 154)).setCell ⟨tb,0,none⟩ (.int .i64 n))).setCell ⟨tb,1,none⟩ (.iface 25 (.int .i64 e)))) :=
  Hh ⟨rfl,set2 n e T2,((Only.of_below (B0.out.alloc B0.out.size _)).trans (Only.set (fun k=>k=tb) _ (a:=⟨tb,0,none⟩) rfl _) fun _ _ g=>g).trans (Only.set (fun k=>k=tb) _ (a:=⟨tb,1,none⟩) rfl _) fun _ _ g=>g⟩
 clear T1 T2 NW hz B0 HT;unfold rfu at *
 go_enter func104,ntmps104
 go_wp2;refine wp_loop_rounds 1 ?_;rw [rounds_succ];go_wp2
 go_ret
 exact RES.out
theorem as_rfu (n e:Int) (tb:Nat) (w:World) (hg:Glob w) (ht:w.heap[tb]? = some (.cells #[.int .i64 0,.nilIface] 154 (0,0))) :
 Calls prog 75 #[.iface 154 (rfu n e),.iface 156 (.pointer (some ⟨tb,0,none⟩))] w (AsPost w tb n e):=by
 have h50:=@run_callFunc_extern prog 101 _ valF func101 (by kernel_rfl) (by kernel_rfl) (by kernel_rfl) (by kernel_rfl);have h51:=@run_callFunc_extern prog 102 _ typF func102 (by kernel_rfl) (by kernel_rfl) (by kernel_rfl) (by kernel_rfl);have h52:=@run_callFunc_extern prog 103 _ nilF func103 (by kernel_rfl) (by kernel_rfl) (by kernel_rfl) (by kernel_rfl);have h95:=@run_callFunc_extern prog 244 _ kinF func244 (by kernel_rfl) (by kernel_rfl) (by kernel_rfl) (by kernel_rfl);have h104:=@run_callFunc_extern prog 263 _ eleF func263 (by kernel_rfl) (by kernel_rfl) (by kernel_rfl) (by kernel_rfl);have h105:=@run_callFunc_extern prog 264 _ impF func264 (by kernel_rfl) (by kernel_rfl) (by kernel_rfl) (by kernel_rfl);have f6:=valPS;have f7:=typPS;have mK:=mKind;have mE:=mElem;have mI:=mImp;have kP:=kindPS;have kE:=kindS;have eP:=elemPS;have iE:=impS;have hlt:0 < w.heap.size:=Nat.lt_of_le_of_lt (aI _) (aC _ _ hg);have htl:=ay ht;have B2:Below w.heap.size w ((w.alloc (.cells #[.pointer (some ⟨tb,0,none⟩)] 156)).alloc (.cells #[.pointer (some ⟨1,156,none⟩),.pointer (some ⟨w.heap.size,0,none⟩),.int .u64 150] 196)):=((aa w.heap.size w).alloc (ac _) _).alloc (by simp) _;have n8:=nilPS ⟨w.heap.size,0,none⟩ ⟨tb,0,none⟩ ((w.alloc (.cells #[.pointer (some ⟨tb,0,none⟩)] 156)).alloc (.cells #[.pointer (some ⟨1,156,none⟩),.pointer (some ⟨w.heap.size,0,none⟩),.int .u64 150] 196)) (by simp);have hg2:((w.alloc (.cells #[.pointer (some ⟨tb,0,none⟩)] 156)).alloc (.cells #[.pointer (some ⟨1,156,none⟩),.pointer (some ⟨w.heap.size,0,none⟩),.int .u64 150] 196)).cell? ⟨0,0,none⟩=some (.iface 222 (.agg #[.pointer (some ⟨1,107,none⟩)])):=hg.below B2;have AL:=Hh (as_loop n e tb w.heap.size ((w.alloc (.cells #[.pointer (some ⟨tb,0,none⟩)] 156)).alloc (.cells #[.pointer (some ⟨1,156,none⟩),.pointer (some ⟨w.heap.size,0,none⟩),.int .u64 150] 196)) (by simp) ((B2.block tb htl).trans ht));have BB:=Hh B2;clear hg ht B2 htl;unfold rfu at *
 go_enter func75,ntmps75
 go_wp2_with (go_at_call 104;refine AL.out.mono ?_;rintro ev w1 ⟨rfl,r1,o1⟩)
 go_ret
 exact ⟨rfl,r1,(Only.of_below BB.out).trans o1 fun _ _ g=>g⟩
theorem isTypeOfW (v:Value) (w:World):(Extern.ReflectliteType.typeOf #[.iface 154 v]).run prog w = .ok (.iface 222 (.agg #[.pointer (some ⟨1,154,none⟩)])) w:=by kernel_rfl
theorem hasUnwrapW (v:Value) (xT:TypeId) (w:World):(Instr.typeAssert (.iface 154 v) xT 227 true).run prog w = .ok (.tuple #[.iface 154 v,.bool true]) w:=run_typeAssert_hasB underlying227 (by kernel_rfl) v xT w
theorem methodUnwrapW (v : Value) (w : World) : (Go.method 477 154 v "Unwrap").run Tryz.prog w = .ok (250, v) w := by kernel_rfl
theorem wunwrap_any (w:World) (n:Int) (x:Value):Calls prog 250 #[.agg #[.int .i64 n,x]] w fun e w'=>e = .returned x/\Below w.heap.size w w':=by
 go_enter func250,ntmps250
 go_wp2
 go_ret
 exact ⟨rfl,(aa w.heap.size w).alloc (ac _) _⟩
theorem asgW (w:World):(asgF #[.agg #[.pointer (some ⟨1,154,none⟩)],.iface 222 (.agg #[.pointer (some ⟨1,25,none⟩)])]).run prog w = .ok (.bool false) w:=by kernel_rfl
theorem noAsW (v:Value) (xT:TypeId) (w:World):(Instr.typeAssert (.iface 154 v) xT 236 true).run prog w = .ok (.tuple #[.nilIface,.bool false]) w:=run_typeAssert_lacksB underlying236 (by kernel_rfl) (by kernel_rfl) v xT w
theorem was_loop (n e:Int) (tb b:Nat) (w:World) (hb:w.cell? ⟨b,0,none⟩=some (.pointer (some ⟨tb,0,none⟩))) (ht:w.heap[tb]? = some (.cells #[.int .i64 0] 25 (0,0))) :
 Calls prog 104 #[.iface 154 (rfu n e),.iface 157 (.pointer (some ⟨tb,0,none⟩)),.agg #[.pointer (some ⟨1,157,none⟩),.pointer (some ⟨b,0,none⟩),.int .u64 150],.iface 222 (.agg #[.pointer (some ⟨1,25,none⟩)])] w (Fs.AsPost w tb e):=by
 have h42:=@run_callFunc_extern prog 94 _ Extern.ReflectliteType.typeOf func94 (by kernel_rfl) (by kernel_rfl) (by kernel_rfl) (by kernel_rfl);have h102:=@run_callFunc_extern prog 261 _ asgF func261 (by kernel_rfl) (by kernel_rfl) (by kernel_rfl) (by kernel_rfl);have h60:=@run_callFunc_extern prog 125 _ elvF func125 (by kernel_rfl) (by kernel_rfl) (by kernel_rfl) (by kernel_rfl);have h50:=@run_callFunc_extern prog 101 _ valF func101 (by kernel_rfl) (by kernel_rfl) (by kernel_rfl) (by kernel_rfl);have h61:=@run_callFunc_extern prog 126 _ ReflectliteValue.set func126 (by kernel_rfl) (by kernel_rfl) (by kernel_rfl) (by kernel_rfl);have tF:=isTypeOfW;have tE:=isTypeOf;have mA:=mAsg;have aF:=asgW;have aE:=asgE;have nA:=noAsW;have uF:=hasUnwrapW;have mU:=methodUnwrapW;have vE:=valE;have HB:=Hh hb;have HT:=Hh ht;have B0:=Hh ((aa w.heap.size w).alloc (ac _) (.cells #[.pointer (some ⟨1,157,none⟩),.pointer (some ⟨b,0,none⟩),.int .u64 150] 196));clear hb ht;unfold rfu
 go_enter func104,ntmps104
 go_wp2;refine wp_loop_rounds 2 ?_;rw [rounds_succ]
 go_wp2_with (go_at_call 250;refine (wunwrap_any _ _ _).mono ?_;rintro ev w1 ⟨rfl,b1⟩)
 have B1:=bTr B0 b1;have G0:=(b1.block _ (by simp)).trans (am w _);obtain ⟨e0,e1,e2⟩:=rc3 G0;have hbl:=aC _ _ HB;have el:=elvP ⟨b,0,none⟩ ⟨tb,0,none⟩ w1 ((B1.cell hbl).trans HB);have htl:=ay HT;have T1:=(B1.block tb htl).trans HT;have T2:=(aQ w1 (.cells #[.int .i64 e] 25) tb (by have:=B1.out.size;omega)).trans T1;have st:=setE ⟨tb,0,none⟩ ⟨w1.heap.size,0,none⟩ e (.int .i64 0) (w1.alloc (.cells #[.int .i64 e] 25)) (by simp) (row_cell T2 0) (row_frozen T2 0);have RES:Hid (Fs.AsPost w tb e (.returned (.bool true)) ((w1.alloc (.cells #[.int .i64 e] 25)).setCell ⟨tb,0,none⟩ (.int .i64 e))):=by
  refine ⟨rfl,?_,?_⟩
  ·have:=Rw.heap_setCell_same (j:=0) T2 (.int .i64 e)
   rw [this]
   simp
  ·exact (Only.of_below (B1.alloc B1.size _)).trans (Only.set (fun k=>k=tb) _ (a:=⟨tb,0,none⟩) rfl _) fun _ _ g=>g
 clear b1 G0 T1 T2 HB HT B0 B1 hbl htl;rw [rounds_succ];go_wp2
 go_ret
 exact RES
theorem was_any (n e:Int) (tb:Nat) (w:World) (hg:Glob w) (ht:w.heap[tb]? = some (.cells #[.int .i64 0] 25 (0,0))) :
 Calls prog 75 #[.iface 154 (rfu n e),.iface 157 (.pointer (some ⟨tb,0,none⟩))] w (Fs.AsPost w tb e):=by
 have h50:=@run_callFunc_extern prog 101 _ valF func101 (by kernel_rfl) (by kernel_rfl) (by kernel_rfl) (by kernel_rfl);have h51:=@run_callFunc_extern prog 102 _ typF func102 (by kernel_rfl) (by kernel_rfl) (by kernel_rfl) (by kernel_rfl);have h52:=@run_callFunc_extern prog 103 _ nilF func103 (by kernel_rfl) (by kernel_rfl) (by kernel_rfl) (by kernel_rfl);have h95:=@run_callFunc_extern prog 244 _ kinF func244 (by kernel_rfl) (by kernel_rfl) (by kernel_rfl) (by kernel_rfl);have h104:=@run_callFunc_extern prog 263 _ eleF func263 (by kernel_rfl) (by kernel_rfl) (by kernel_rfl) (by kernel_rfl);have h105:=@run_callFunc_extern prog 264 _ impF func264 (by kernel_rfl) (by kernel_rfl) (by kernel_rfl) (by kernel_rfl);have f6:=valP;have f7:=typP;have mK:=mKind;have mE:=mElem;have mI:=mImp;have kP:=kindP;have kE:=kindE;have eP:=elemP;have iE:=impE;have hlt:=Nat.lt_of_le_of_lt (aI _) (aC _ _ hg);have htl:=ay ht;have B2:Below w.heap.size w ((w.alloc (.cells #[.pointer (some ⟨tb,0,none⟩)] 157)).alloc (.cells #[.pointer (some ⟨1,157,none⟩),.pointer (some ⟨w.heap.size,0,none⟩),.int .u64 150] 196)):=((aa w.heap.size w).alloc (ac _) _).alloc (by simp) _;have n8:=nilP ⟨w.heap.size,0,none⟩ ⟨tb,0,none⟩ ((w.alloc (.cells #[.pointer (some ⟨tb,0,none⟩)] 157)).alloc (.cells #[.pointer (some ⟨1,157,none⟩),.pointer (some ⟨w.heap.size,0,none⟩),.int .u64 150] 196)) (by simp);have hg2:((w.alloc (.cells #[.pointer (some ⟨tb,0,none⟩)] 157)).alloc (.cells #[.pointer (some ⟨1,157,none⟩),.pointer (some ⟨w.heap.size,0,none⟩),.int .u64 150] 196)).cell? ⟨0,0,none⟩=some (.iface 222 (.agg #[.pointer (some ⟨1,107,none⟩)])):=hg.below B2;have AL:=Hh (was_loop n e tb w.heap.size ((w.alloc (.cells #[.pointer (some ⟨tb,0,none⟩)] 157)).alloc (.cells #[.pointer (some ⟨1,157,none⟩),.pointer (some ⟨w.heap.size,0,none⟩),.int .u64 150] 196)) (by simp) ((B2.block tb htl).trans ht));have BB:=Hh B2;have HTL:=Hh htl;clear hg ht B2 htl;unfold rfu at *
 go_enter func75,ntmps75
 go_wp2_with (go_at_call 104;refine AL.mono ?_;rintro ev w1 ⟨rfl,r1,o1⟩)
 go_ret
 exact ⟨rfl,r1,(Only.of_below BB).trans o1 fun _ _ g=>g⟩
theorem noIsR (v:Value) (xT:TypeId) (w:World):(Instr.typeAssert (.iface 154 v) xT 224 true).run prog w = .ok (.tuple #[.nilIface,.bool false]) w:=run_typeAssert_lacksB underlying224 (by kernel_rfl) (by kernel_rfl) v xT w
theorem eqlR (v u:Value) (w:World):(binOp .eql 107 (.iface 154 v) (.iface 25 u)).run prog w = .ok (.bool false) w:=run_eql_iface_types (P:=prog) _ _ v u underlying107 (by decide) w
theorem is_loop (n e:Int) (w:World):Calls prog 95 #[.iface 154 (rfu n e),.iface 25 (.int .i64 13),.bool true] w fun ev w'=>ev = .returned (.bool (decide (e=13)))/\Below w.heap.size w w':=by
 have nF:=noIsR;have nE:=Fs.noIsE;have uF:=hasUnwrapW;have uE:=Fs.noUnwrapE;have vE:=Fs.noUnwrapsE;have mU:=methodUnwrapW;have hty:=eqlR;have heq:=Fs.eql_errno;unfold rfu
 by_cases h:e=13
 ·have hd:=an h
  go_enter func95,ntmps95
  go_wp2;refine wp_loop_rounds 2 ?_;rw [rounds_succ]
  go_wp2_with (go_at_call 250;refine (wunwrap_any _ _ _).mono ?_;rintro ev w1 ⟨rfl,b1⟩)
  rw [rounds_succ];go_wp2
  go_ret
  exact ⟨Fs.ret_b hd.symm,b1⟩
 ·have hd:=ak h
  go_enter func95,ntmps95
  go_wp2;refine wp_loop_rounds 2 ?_;rw [rounds_succ]
  go_wp2_with (go_at_call 250;refine (wunwrap_any _ _ _).mono ?_;rintro ev w1 ⟨rfl,b1⟩)
  rw [rounds_succ];go_wp2
  go_ret
  exact ⟨Fs.ret_b hd.symm,b1⟩
theorem is_any (n e:Int) (w:World):Calls prog 67 #[.iface 154 (rfu n e),.iface 25 (.int .i64 13)] w fun ev w'=>ev = .returned (.bool (decide (e=13)))/\Below w.heap.size w w':=by
 have h8:=@run_callFunc_extern prog 94 _ Extern.ReflectliteType.typeOf func94 (by kernel_rfl) (by kernel_rfl) (by kernel_rfl) (by kernel_rfl);have h32:=@run_callFunc_extern prog 262 _ Fs.compF func262 (by kernel_rfl) (by kernel_rfl) (by kernel_rfl) (by kernel_rfl);have tT:=isTypeOf;have cT:=Fs.isComparable;have mR:=Fs.isMethodComparable;have L:=Hh (is_loop n e w);unfold rfu at *
 go_enter func67,ntmps67
 go_wp2_with (go_at_call 95;refine L.mono ?_;rintro ev w1 ⟨rfl,b1⟩)
 go_ret
 exact ⟨rfl,b1⟩
theorem eqlN (w:World):(binOp .eql 107 .nilIface (.iface 25 (.int .i64 13))).run prog w = .ok (.bool false) w:=by kernel_rfl
theorem is_none (w:World):Calls prog 67 #[.nilIface,.iface 25 (.int .i64 13)] w fun e w'=>e = .returned (.bool false)/\Below w.heap.size w w':=by
 have e0:=eqlN
 go_enter func67,ntmps67
 go_wp2
 go_ret
 exact ⟨rfl,aa _ _⟩
end Ga
namespace Seg
section
variable {P:Program}
theorem run_store (w:World) (g off:Nat) (t ty:TypeId) (cur:Array Value) (cs:Array Value) (hg:w.heap[g]? = some (.cells cur t (0,0))) (hi:(P.info? ty).map (·.size)=some cs.size) (hfit:off+cs.size<=cur.size) (h1:∀ v∈cs.toList,v.oneCell'=true) :
 (storeVar ty ⟨g,off,none⟩ (.agg cs)).run P w = .ok () (w.setRow g (splice cur.toList off cs.toList).toArray):=by
 have:=run_storeCells_at P g off t cs.toList 0 cur w hg (by simpa using hfit) h1
 cases hq:P.info? ty with
 | none=>simp [hq] at hi
 | some i =>
   have hs:cs.size=i.size:=by simp [hq] at hi;omega
   simp [storeVar,sizeOf,typeInfo,hq,Value.cells,hs,splice] at this ⊢
   exact this
theorem wp_store {o:Oper} {a:Act} {w:World} {K:Act->World->Prop} {Q:Exit->Act->World->Prop} (ty:TypeId) (x y:Operand) (ho:o.op = .store ty x y)
 (g off:Nat) (cs:Array Value) (hx:a.eval x = .pointer (some ⟨g,off,none⟩)) (hy:a.eval y = .agg cs)
 (t:TypeId) (cur:Array Value) (hg:w.heap[g]? = some (.cells cur t (0,0))) (hi:(P.info? ty).map (·.size)=some cs.size) (hfit:off+cs.size<=cur.size) (h1:∀ v∈cs.toList,v.oneCell'=true)
 (h:K (a.put o.dst undef) (w.setRow g (splice cur.toList off cs.toList).toArray)):o.wp P a w K Q:=by
 unfold Oper.wp execOp;simp only [ho,hx,hy,Instr.storeAt,Instr.sureAddr,Sem.run_bind,Sem.run_pure,Result.andThen_ok,run_store w g off t ty cur cs hg hi hfit h1];exact h
end
theorem get {α:Type} {L cs:List α} {off:Nat} (h:off+cs.length<=L.length) (k:Nat):(splice L off cs)[k]? = if off<=k/\k < off+cs.length then cs[k - off]? else L[k]?:=by
 unfold splice;have hm:(L.take off).length=off:=by rw [aW];omega
 by_cases h1:k < off
 ·rw [bV (by omega),ah (by omega),db,aj h1]
 ·rw [cm (by omega),hm]
  by_cases h2:k < off+cs.length
  ·rw [bV (by omega),aj (by omega)]
  ·rw [cm (by omega),ah (by omega),List.getElem?_drop]
   congr 1
   omega
end Seg
namespace Qe
open Rq (Q zQ qA qV)
def eA (x:Q) (t:Int):Array Value:=#[.int .i64 x.id,.int .i64 x.k,.int .i64 x.n,.int .i64 x.f,.int .i64 x.r,.int .u8 x.v.1,.int .u8 x.v.2.1,.int .u8 x.v.2.2.1,.int .u8 x.v.2.2.2,.int .i64 x.key,.int .i64 t]
def trk (s:Qs) (k:Nat):Int:=if k=0 then s.t else 0
structure CqV (cs:Array Value) (s:Qs) (a:Nat):Prop where
 sz:cs.size=90
 ca:cs[88]? = some (.int .i64 a)
 cn:cs[89]? = some (.int .i64 s.L.length)
 lt:a < 8
 el:∀ k,k < s.L.length->∀ j,j < 11->cs[(a+k) % 8 * 11+j]? = (eA (s.L.getD k zQ) (trk s k))[j]?
def Cq (w:World) (g:Nat) (s:Qs):Prop:=∃ cs a,w.heap[g]? = some (.cells cs 131 (0,0))/\CqV cs s a
variable {w w':World} {g k p a:Nat} {s:Qs}
theorem Cq.only {G:Nat->Prop} (h:Cq w g s) (hn:¬ G g) (ho:Only G w w'):Cq w' g s:=by
 obtain ⟨cs,a,hr,hv⟩:=h;exact ⟨cs,a,(ho.block g (ay hr) hn).trans hr,hv⟩
theorem Cq.lt (h:Cq w g s):g < w.heap.size:=by
 obtain ⟨cs,a,hr,hv⟩:=h;exact ay hr
theorem Cq.below (h:Cq w g s) (b:Below w.heap.size w w'):Cq w' g s:=h.only (G:=fun _=>False) (fun f=>f) (Only.of_below b)
def At1 (g:Nat) (k:Nat):Prop:=k=g
theorem eA_one (x:Q) (t:Int):∀ v∈(eA x t).toList,v.oneCell'=true:=fun v hv=>by
 simp [eA] at hv
 rcases hv with rfl | rfl | rfl | rfl | rfl | rfl | rfl | rfl | rfl | rfl | rfl <;> rfl
theorem getD_app {L:List Q} {x:Q} (h:k < L.length):(L ++ [x]).getD k zQ=L.getD k zQ:=by rw [af,af,bV h]
variable {cs:Array Value}
theorem ring_get (hz:cs.size=90) (hp:p < 8) (x:Q) (t:Int) (k:Nat):(splice cs.toList (p * 11) (eA x t).toList).toArray[k]? = if p * 11<=k/\k < p * 11+11 then (eA x t)[k - p * 11]? else cs[k]?:=by
 have hl:cs.toList.length=90:=by simpa using hz
 have hx:(eA x t).toList.length=11:=rfl;have:=Seg.get (L:=cs.toList) (cs:=(eA x t).toList) (off:=p * 11) (by rw [hx,hl];omega) k;rw [hx] at this
 simpa using this
theorem ring_size (hz:cs.size=90) (hp:p < 8) (x:Q) (t:Int):(splice cs.toList (p * 11) (eA x t).toList).toArray.size=90:=by
 have hl:cs.toList.length=90:=by simpa using hz
 have hx:(eA x t).toList.length=11:=rfl;rw [cK,length_splice _ _ _ (by rw [hx,hl];omega),hl]
theorem CqV.push (h:CqV cs s a) (hk:ok s) (h8:s.L.length < 8) (x:Q):CqV ((splice cs.toList ((a+s.L.length) % 8 * 11) (eA x 0).toList).toArray.setIfInBounds 89 (.int .i64 (s.L.length+1))) ⟨s.L ++ [x],s.t⟩ a:=by
 have hp:(a+s.L.length) % 8 < 8:=Nat.mod_lt _ (by decide);have G:=ring_get h.sz hp x 0;have Z:=ring_size h.sz hp x 0;have ha:=h.lt;generalize (splice cs.toList ((a+s.L.length) % 8 * 11) (eA x 0).toList).toArray=cs' at *;refine ⟨by simp [Z],by rw [aP,ah (by decide),G,ah (by omega)];exact h.ca,?_,ha,fun k hkl j hj=>?_⟩
 ·rw [aP,aj rfl,aj (by omega)]
  simp
 ·have hk':k < s.L.length+1:=by simpa using hkl
  rw [aP,ah (by omega),G]
  by_cases hkk:k < s.L.length
  ·rw [ah (by omega),h.el k hkk j hj]
   show (eA (s.L.getD k zQ) (trk s k))[j]? = (eA ((s.L ++ [x]).getD k zQ) (trk s k))[j]?
   rw [getD_app hkk]
  ·obtain rfl:k=s.L.length:=by omega
   rw [aj (by omega),show (a+s.L.length) % 8 * 11+j - (a+s.L.length) % 8 * 11=j by omega];have e1:(s.L ++ [x]).getD s.L.length zQ=x:=by rw [af];simp
   have e2:trk ⟨s.L ++ [x],s.t⟩ s.L.length=0:=by
    unfold trk
    by_cases h0:s.L.length=0
    ·rw [aj h0];exact hk.2.2 (bt.1 h0)
    ·rw [ah h0]
   show _=(eA ((s.L ++ [x]).getD s.L.length zQ) (trk ⟨s.L ++ [x],s.t⟩ s.L.length))[j]?
   rw [e1,e2]
theorem CqV.pop (h:CqV cs s a) (h8:s.L.length<=8) (h0:0 < s.L.length):CqV (((splice cs.toList (a * 11) (eA zQ 0).toList).toArray.setIfInBounds 88 (.int .i64 ((a+1) % 8:Nat))).setIfInBounds 89 (.int .i64 (s.L.length - 1))) (poS s) ((a+1) % 8):=by
 have G:=ring_get h.sz h.lt zQ 0;have Z:=ring_size h.sz h.lt zQ 0;have ha:=h.lt;have tl:(poS s).L.length=s.L.length - 1:=by simp [poS]
 generalize (splice cs.toList (a * 11) (eA zQ 0).toList).toArray=cs' at *;refine ⟨by simp [Z],by rw [aP,ah (by decide),aP,aj rfl,aj (by omega)],?_,Nat.mod_lt _ (by decide),fun k hkl j hj=>?_⟩
 ·rw [aP,aj rfl,aj (by simp [Z]),tl]
  congr 2
  omega
 ·rw [tl] at hkl
  rw [aP,ah (by omega),aP,ah (by omega),G,ah (by omega)];have e:=h.el (k+1) (by omega) j hj;rw [show ((a+1) % 8+k) % 8=(a+(k+1)) % 8 by omega,e];have e1:(poS s).L.getD k zQ=s.L.getD (k+1) zQ:=by
   show s.L.tail.getD k zQ=_
   rw [af,af,List.getElem?_tail]
  have e2:trk (poS s) k=0:=by
   unfold trk
   by_cases hk0:k=0
   ·rw [aj hk0];rfl
   ·rw [ah hk0]
  rw [e1,e2]
  rfl
theorem CqV.fail (h:CqV cs s a) (h8:s.L.length<=8) (t:Int):CqV (cs.setIfInBounds (a * 11+10) (.int .i64 t)) ⟨s.L,t⟩ a:=by
 have ha:=h.lt;refine ⟨by simp [h.sz],by rw [aP,ah (by omega)];exact h.ca,by rw [aP,ah (by omega)];exact h.cn,ha,fun k hkl j hj=>?_⟩;have hkl:k < s.L.length:=hkl;have e:=h.el k hkl j hj;rw [aP]
 by_cases hk0:k=0
 ·subst hk0
  rw [show (a+0) % 8=a by omega] at e ⊢
  by_cases hj0:j=10
  ·subst hj0
   rw [aj rfl,aj (by rw [h.sz];omega)]
   rfl
  ·rw [ah (by omega),e]
   rcases (by omega:j=0\/j=1\/j=2\/j=3\/j=4\/j=5\/j=6\/j=7\/j=8\/j=9) with rfl | rfl | rfl | rfl | rfl | rfl | rfl | rfl | rfl | rfl <;> rfl
 ·rw [ah (by omega),e]
  have e2:trk s k=trk ⟨s.L,t⟩ k:=by unfold trk;rw [ah hk0,ah hk0]
  rw [e2]
open Rq (results_request)
attribute [local irreducible] Sd.wpSd wpQuiet
theorem len_of (h:Cq w g s):Calls prog 46 #[.pointer (some ⟨g,0,none⟩)] w fun e w'=>e = .returned (.int .i64 s.L.length)/\Below w.heap.size w w':=by
 obtain ⟨cs,a,hr,hv⟩:=h;have c1:=(bi w g 89 cs _ (0,0) hr).trans hv.cn;clear hv hr
 go_enter func46,ntmps46
 go_wp2
 go_ret
 exact ⟨rfl,aa _ _⟩
def zcs:Array Value:=((List.replicate 8 (eA zQ 0).toList).flatten ++ ([.int .i64 0,.int .i64 0]:List Value)).toArray
theorem zero_queue (w:World):(zeroValue 131).run prog w = .ok (.agg zcs) w:=by kernel_rfl
theorem zcs_size:zcs.size=90:=by kernel_rfl
theorem zcs_a:zcs[88]? = some (.int .i64 0):=by kernel_rfl
theorem zcs_n:zcs[89]? = some (.int .i64 0):=by kernel_rfl
theorem new_any (w:World):Calls prog 29 #[] w fun e w'=>∃ g,e = .returned (.pointer (some ⟨g,0,none⟩))/\Cq w' g q0/\w.heap.size<=g/\Below w.heap.size w w':=by
 have FIN:Hid (∀ cs:Array Value,cs.size=90->cs[88]? = some (.int .i64 0)->cs[89]? = some (.int .i64 0)->∃ g,Ending.returned (.pointer (some ⟨w.heap.size,0,none⟩)) = .returned (.pointer (some ⟨g,0,none⟩))/\Cq (w.alloc (.cells cs 131)) g q0/\w.heap.size<=g/\Below w.heap.size w (w.alloc (.cells cs 131))):=Hh fun cs h1 h2 h3 =>
  ⟨w.heap.size,rfl,⟨cs,0,am w _,⟨h1,h2,h3,by decide,fun k hk=>absurd hk (ci _)⟩⟩,ac _,(aa _ _).alloc (ac _) _⟩
 go_enter func29,ntmps29
 have hz:=zero_queue;have F:=Hh (FIN.out _ zcs_size zcs_a zcs_n);clear FIN;generalize zcs=cs at *;go_wp2
 go_ret
 exact F.out
theorem first_none (h:Cq w g s) (hs:s.L = []):Calls prog 65 #[.pointer (some ⟨g,0,none⟩)] w fun e w'=>e = .returned (.tuple #[qV (fst s),.bool (has s)])/\Below w.heap.size w w':=by
 have e1:fst s=zQ:=by unfold fst;rw [hs];rfl
 have e2:has s=false:=by unfold has;rw [hs];rfl
 have e3:(s.L.length:Int)=0:=by rw [hs];rfl
 rw [e1,e2];have B0:=(aa w.heap.size w).alloc (ac _) (.cells (qA zQ) 53);have R0:=Hh (am w (.cells (qA zQ) 53));have LN:=Hh (len_of (h.below B0));rw [e3] at LN;have B0:=Hh B0;clear e1 e2 e3 hs h;unfold qV qA zQ z4 at *;dsimp only at B0 R0 LN ⊢
 go_enter func65,ntmps65
 go_wp2_with fail;generalize w.alloc (.cells #[.int .i64 0,.int .i64 0,.int .i64 0,.int .i64 0,.int .i64 0,.int .u8 0,.int .u8 0,.int .u8 0,.int .u8 0,.int .i64 0] 53)=W at *;refine (LN.out).mono ?_;rintro e w1 ⟨rfl,b1⟩;have lw:=ay R0.out;have R1:=Hh ((b1.block _ lw).trans R0.out);have B1:=Hh (bTr B0.out b1);clear b1 LN R0 B0 lw
 go_wp2_with ((with_reducible refine wpList_store_row (o:=⟨none,_,_,_,_,_⟩) rfl 53 _ _ rfl w.heap.size #[.int .i64 0,.int .i64 0,.int .i64 0,.int .i64 0,.int .i64 0,.int .u8 0,.int .u8 0,.int .u8 0,.int .u8 0,.int .i64 0] rfl rfl _ _ R1.out (by kernel_rfl) rfl (by simp [Value.oneCell']) ?_))
 exact aA (results_request (p:=2) (r:=3) rfl _ _ w.heap.size _ rfl rfl (setRow_heap w1 w.heap.size _ _ _ _ R1.out) rfl) rfl ⟨rfl,below_setRow B1.out (ac _) _⟩
def Cr (g:Nat) (cs:Array Value) (w:World):Prop:=w.heap[g]? = some (.cells cs 131 (0,0))
theorem first_some (h:Cq w g s) (h0:0 < s.L.length):Calls prog 65 #[.pointer (some ⟨g,0,none⟩)] w fun e w'=>e = .returned (.tuple #[qV (fst s),.bool (has s)])/\Below w.heap.size w w':=by
 have e2:has s=true:=by unfold has;exact an h0
 have B0:=(aa w.heap.size w).alloc (ac _) (.cells (qA zQ) 53);have R0:=Hh (am w (.cells (qA zQ) 53));have LN:=Hh (len_of (h.below B0));obtain ⟨cs,a,hr,hv⟩:=h;have hr1:=Hh (bBl B0 hr);have D0:=Hh hr;have ha:=hv.lt;have EL:∀ j,j < 11->cs[a * 11+j]? = (eA (fst s) s.t)[j]?:=fun j hj=>by
  have:=hv.el 0 h0 j hj;rw [show (a+0) % 8=a by omega] at this;rw [this]
  show (eA (s.L.getD 0 zQ) s.t)[j]? = (eA (s.L.headD zQ) s.t)[j]?
  cases s.L <;> rfl
 have CA:=Hh hv.ca;have B0:=Hh B0;rw [e2];clear e2 hr hv;have hn:¬ ((s.L.length:Nat):Int)=0:=by omega
 generalize fst s=x at *;generalize s.L.length=m at *;obtain ⟨xi,xk,xn,xf,xr,⟨v0,v1,v2,v3⟩,xy⟩:=x;have EL:=Hh EL;unfold qV qA zQ z4 at *;dsimp only at B0 R0 LN EL ⊢
 go_enter func65,ntmps65
 go_wp2_with fail;generalize w.alloc (.cells #[.int .i64 0,.int .i64 0,.int .i64 0,.int .i64 0,.int .i64 0,.int .u8 0,.int .u8 0,.int .u8 0,.int .u8 0,.int .i64 0] 53)=W at *;refine (LN.out).mono ?_;rintro e w1 ⟨rfl,b1⟩;have R1:=Hh ((b1.block _ (ay R0.out)).trans R0.out);have D1:=Hh ((b1.block _ (ay hr1.out)).trans hr1.out);have B1:=Hh (bTr B0.out b1);clear b1 LN R0 B0 hr1;go_upto_region 3 with fail;have a8:(a:Int) < 8:=by omega
 have a0:0<=(a:Int):=by omega
 have C0:Cr g cs w1:=D1.out;have c88:=Sc.cell_in (C:=Cr g cs) (a:=⟨g,88,none⟩) (v:=.int .i64 a) (fun W' h=>(bi W' g 88 cs _ (0,0) h).trans CA.out);have x0:=Sc.cell_in (C:=Cr g cs) (a:=⟨g,a * 11,none⟩) (v:=.int .i64 xi) (fun W' h=>(bi W' g _ cs _ (0,0) h).trans (EL.out 0 (by decide)));have x1:=Sc.cell_in (C:=Cr g cs) (a:=⟨g,a * 11+1,none⟩) (v:=.int .i64 xk) (fun W' h=>(bi W' g _ cs _ (0,0) h).trans (EL.out 1 (by decide)));have x2:=Sc.cell_in (C:=Cr g cs) (a:=⟨g,a * 11+2,none⟩) (v:=.int .i64 xn) (fun W' h=>(bi W' g _ cs _ (0,0) h).trans (EL.out 2 (by decide)));have x3:=Sc.cell_in (C:=Cr g cs) (a:=⟨g,a * 11+3,none⟩) (v:=.int .i64 xf) (fun W' h=>(bi W' g _ cs _ (0,0) h).trans (EL.out 3 (by decide)));have x4:=Sc.cell_in (C:=Cr g cs) (a:=⟨g,a * 11+4,none⟩) (v:=.int .i64 xr) (fun W' h=>(bi W' g _ cs _ (0,0) h).trans (EL.out 4 (by decide)));have x5:=Sc.cell_in (C:=Cr g cs) (a:=⟨g,a * 11+5,none⟩) (v:=.int .u8 v0) (fun W' h=>(bi W' g _ cs _ (0,0) h).trans (EL.out 5 (by decide)));have x6:=Sc.cell_in (C:=Cr g cs) (a:=⟨g,a * 11+6,none⟩) (v:=.int .u8 v1) (fun W' h=>(bi W' g _ cs _ (0,0) h).trans (EL.out 6 (by decide)));have x7:=Sc.cell_in (C:=Cr g cs) (a:=⟨g,a * 11+7,none⟩) (v:=.int .u8 v2) (fun W' h=>(bi W' g _ cs _ (0,0) h).trans (EL.out 7 (by decide)));have x8:=Sc.cell_in (C:=Cr g cs) (a:=⟨g,a * 11+8,none⟩) (v:=.int .u8 v3) (fun W' h=>(bi W' g _ cs _ (0,0) h).trans (EL.out 8 (by decide)));have x9:=Sc.cell_in (C:=Cr g cs) (a:=⟨g,a * 11+9,none⟩) (v:=.int .i64 xy) (fun W' h=>(bi W' g _ cs _ (0,0) h).trans (EL.out 9 (by decide)));have ne:Nonempty (Sc.In (Cr g cs)):=⟨⟨_,C0⟩⟩;refine Sc.start (Cr g cs) [(false,0),(false,1),(false,2),(false,3),(false,4),(false,5),(false,6),(false,7),(false,8),(false,9),(true,10),(false,11)] (by kernel_rfl) (by kernel_rfl) (by kernel_rfl) C0 ?_;dsimp only [Sd.picks,List.getElem?_cons_succ,List.getElem?_cons_zero]
 repeat (refine Sd.lit ?_;quiet_step (fail);refine az ?_)
 refine Sd.call (by rfl) (fun K hK=>?_);have R2:w1.drew.heap[w.heap.size]? = some (.cells #[.int .i64 0,.int .i64 0,.int .i64 0,.int .i64 0,.int .i64 0,.int .u8 0,.int .u8 0,.int .u8 0,.int .u8 0,.int .i64 0] 53 (0,0)):=R1.out;refine wp_store_row 53 _ _ rfl w.heap.size #[.int .i64 xi,.int .i64 xk,.int .i64 xn,.int .i64 xf,.int .i64 xr,.int .u8 v0,.int .u8 v1,.int .u8 v2,.int .u8 v3,.int .i64 xy] rfl rfl 53 _ R2 (by kernel_rfl) rfl (by simp [Value.oneCell']) ?_;have RA:=Hh (setRow_heap w1.drew w.heap.size _ #[.int .i64 xi,.int .i64 xk,.int .i64 xn,.int .i64 xf,.int .i64 xr,.int .u8 v0,.int .u8 v1,.int .u8 v2,.int .u8 v3,.int .i64 xy] _ _ R2);have BA:=Hh (below_setRow B1.out.drew (ac _) #[.int .i64 xi,.int .i64 xk,.int .i64 xn,.int .i64 xf,.int .i64 xr,.int .u8 v0,.int .u8 v1,.int .u8 v2,.int .u8 v3,.int .i64 xy]);have ng:w.heap.size≠g:=by have:=ay D0.out;omega
 have DA:Cr g cs (w1.drew.setRow w.heap.size #[.int .i64 xi,.int .i64 xk,.int .i64 xn,.int .i64 xf,.int .i64 xr,.int .u8 v0,.int .u8 v1,.int .u8 v2,.int .u8 v3,.int .i64 xy]):=(setRow_other w1.drew w.heap.size g #[.int .i64 xi,.int .i64 xk,.int .i64 xn,.int .i64 xf,.int .i64 xr,.int .u8 v0,.int .u8 v1,.int .u8 v2,.int .u8 v3,.int .i64 xy] (fun e=>ng e.symm)).trans C0;refine hK _ _ (Sc.Cl.of DA) ?_;clear hK K B1 R1 R2 D1 C0 DA D0 ng;generalize w1.drew.setRow w.heap.size #[.int .i64 xi,.int .i64 xk,.int .i64 xn,.int .i64 xf,.int .i64 xr,.int .u8 v0,.int .u8 v1,.int .u8 v2,.int .u8 v3,.int .i64 xy]=wA at *
 repeat (refine Sd.lit ?_;quiet_step (fail);refine az ?_)
 refine Sd.done ?_;go_wp2;exact aA (results_request (p:=2) (r:=3) rfl _ _ w.heap.size _ rfl rfl RA.out rfl) rfl ⟨rfl,BA.out⟩
theorem first_of (h:Cq w g s):Calls prog 65 #[.pointer (some ⟨g,0,none⟩)] w fun e w'=>e = .returned (.tuple #[qV (fst s),.bool (has s)])/\Below w.heap.size w w':=by
 by_cases h0:0 < s.L.length
 ·exact first_some h h0
 ·exact first_none h (bt.1 (by omega))
end Qe
