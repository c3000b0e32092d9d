import Derived.Test.YtdbdacceecnpmaaGreatDoorQo12
import Derived.Deep.CutBlock
set_option maxRecDepth 100000
set_option maxHeartbeats 32000000
namespace Go.Proofs.YtdbdacceecnpmaaGreatDoor
open Go.Proofs.Tryz
namespace Ga
open Go.RowKit
open Rw (Rd Ow At)
open Fl (R4 K4 dF bJ z4 ah aj)
open Fs (Glob aB aT E3 Only Fx Ls bZ Ll)
open Pa (ptr sat bX bH)
open Ck (Hd sl zh KS)
open Re (KI)
open Cu (rC CH rZ UD qh yU jO Dk fV newE newC Oc Ue xI AZ Na fq iM dU bM bQ)
open Rq (KU Q Y qV yV qA yA zQ nG xM qb yb dK dX may okV)
attribute [local irreducible] Sd.aU wpQuiet
structure On (w0:World) (g s q:Nat) (vi vo:Value) (n:Nat) (H:Nat->Prop) (G:Gs) (t:Nat) (li lo:List Int) (W:World):Prop where
 go:GO w0 g s H G t vi vo li lo W
 ok:OkG G t
 eq:li=lo ++ Ia G.q
 len:li.length<=n
 t:t<=2 * n
 q:G.c.S.length=q
theorem On.lens {w0 W:World} {g s q n t:Nat} {vi vo:Value} {H:Nat->Prop} {G:Gs} {li lo:List Int} (h:On w0 g s q vi vo n H G t li lo W):li.length=lo.length+G.q.L.length:=by
 have:=dv List.length h.eq;rw [cW,Wv] at this;exact this
theorem TS {w:World} (hg:Glob w) {v u:Value} {L:List jO} {l:List De} (H:Dk w v L w.heap.size) (R:Rd KE w u l) (ok:∀ i,i < l.length->JV w (mP l i)):Calls prog 3 #[v,u] w fun e w'=>e = .returned (.bool true)/\Below w.heap.size w w':=by
 have HG:=Hh hg;have F1:=Hh (AZ H);have AW:=Hh (fun W (b:Below w.heap.size w W)=>Gv (hg.below b));obtain ⟨a,cap,rfl,_,hm,hA⟩:=R;have HA:=Hh hA;have OX:=Hh ok;clear hg H ok hA;unfold xI at F1;have LP6:Hid ((Na (fV L)).length<=6):=Hh (by unfold Na;rw [cm,cM];omega);generalize Na (fV L)=lp at *;generalize hn:l.length=n at *;have HN:=Hh hn;clear hn;unfold maxLen at hm
 go_enter func3,ntmps3
 go_wp2_with fail;refine F1.out.mono ?_;rintro e w1 ⟨v1,L1,rfl,h1,e1,b1⟩;clear F1;have H1:=Hh h1;have B1:=Hh b1;have E1:=Hh e1;clear h1 b1 e1;have FIN:=Hh (fun W (b:Below w1.heap.size w1 W)=>B1.out.trans (b.mono B1.out.size));have G1:=Hh (HG.out.below B1.out);have AWX:=Hh (fun W (b:Below w1.heap.size w1 W)=>AW.out W (FIN.out W b));clear AW;generalize hq:L1.length=q at *;have HQ:=Hh hq;clear hq
 by_cases e0:newE lp=0
 ·have N1:=rZ (w0:=w1) H1.out (by rw [E1.out];exact e0) (af _ _)
  have K0:=Ue H1.out (by rw [E1.out];exact e0);rw [E1.out] at N1 K0;have NN:=Hh N1;have KK0:=Hh K0;clear N1 K0
  have HL2:Hid ((newC lp).S.length=q/\q<=32):=Hh (by
   have l1:=KK0.out.ok.len;have l2:(newC lp).S.length=lp.length:=cm _;have l3:lp.length=q:=by rw [← E1.out,fq,HQ.out]
   omega)
  have q32:=HL2.out.2;clear H1 e0 E1 HQ;generalize newC lp=c0 at *;clear LP6;go_wp2_with fail;refine NN.out.mono ?_;rintro e w2 ⟨s,rfl,ch2⟩;have GN:=Hh (Vd ch2 (key:=7) (by decide));clear NN ch2;unfold ptr at GN;go_wp2_with fail;refine GN.out.mono ?_;rintro e w3 ⟨g,H,rfl,gx3⟩;have e1:Below w3.heap.size w3 (w3.alloc (.cells #[] 3)):=(af w3.heap.size w3).alloc (am _) _;have e2:Below (w3.alloc (.cells #[] 3)).heap.size (w3.alloc (.cells #[] 3)) ((w3.alloc (.cells #[] 3)).alloc (.cells #[] 3)):=(af _ _).alloc (am _) _;have z1:(w3.alloc (.cells #[] 3)).heap.size=w3.heap.size+1:=by simp
  have D0:Hid (On w1 g s q (.slice (some ⟨w3.heap.size,0,none⟩) 0 0) (.slice (some ⟨w3.heap.size+1,0,none⟩) 0 0) 0 H ⟨c0,7,Qe.q0⟩ 0 [] [] ((w3.alloc (.cells #[] 3)).alloc (.cells #[] 3))):=Hh ⟨⟨(gx3.below e1).below e2,((Rw.Ow.made w3 w3.heap.size 3 (am _)).low gx3.aD.size).alloc _,by rw [← z1];exact (Rw.Ow.made (w3.alloc (.cells #[] 3)) _ 3 (am _)).low (by rw [z1];have:=gx3.aD.size;omega),fun k e q=>by
   have:w3.heap.size=k:=by simpa [Value.ownBlock] using e
   have:=gx3.low k q;omega,fun k e q=>by
   have:w3.heap.size+1=k:=by simpa [Value.ownBlock] using e
   have:=gx3.low k q;omega,fun k e=>by
   have:w3.heap.size=k:=by simpa [Value.ownBlock] using e
   subst this
   simp [Value.ownBlock]⟩,⟨KK0.out.ok,KK0.out.sy,Qe.abg,nofun,by show (0:Int)<=7;decide,by show (7:Int)<=255;decide⟩,rfl,am _,am _,HL2.out.1⟩
  clear GN gx3 e1 e2 z1 KK0;go_upto_region 8 with fail;generalize (w3.alloc (.cells #[] 3)).alloc (.cells #[] 3)=W0 at *;generalize w3.heap.size+1=ho at *;generalize w3.heap.size=hi at *
  go_upto_block 0 with fail
  go_cut [9,10,11,12,13,14,15,16,17,18,19,20,21,22] from 47 to 171 (fun ui uo _ _ _ _ _ _ _ _ _ _ _ _ wx=>∃ (H1:Nat->Prop) (G1:Gs) (t1:Nat) (li1 lo1:List Int),Hid (On w1 g s q ui uo 25 H1 G1 t1 li1 lo1 wx))
  case first =>
   go_wp2_with fail
   go_loopw [11,9,10] (fun i vi vo wr=>∃ (k:Nat) (H:Nat->Prop) (G:Gs) (t:Nat) (li lo:List Int),k<=n/\k<=25/\i = .int .i64 k/\Hid (On w1 g s q vi vo k H G t li lo wr)) (fun i _ _ _=>25 - (intOf i).toNat)
   case atStart=>exact ⟨0,H,_,0,[],[],cx _,cx _,rfl,D0⟩
   case round =>
    clear D0;obtain ⟨k,H,G,t,li,lo,hk,hk25,rfl,D⟩:=hrel;obtain ⟨ai,ci,rfl,-⟩:=D.out.go.i.slice;obtain ⟨ao,co,rfl,-⟩:=D.out.go.o.slice
    by_cases hlt:k < n/\k < 25
    ·obtain ⟨hkn,hk2⟩:=hlt
     have b25:decide ((k:Int) < 25)=true:=bj (by omega);obtain ⟨b,off,rfl,A⟩:=HA.out (by omega);have DK:=OX.out k hkn;have AA:=acE A (i:=k) (by rw [HN.out];exact hkn);clear A;generalize mP l k=d at *;obtain ⟨dk,⟨ba,bn,bc⟩,bl,⟨xk,xn,xf,xr,⟨x0,x1,x2,x3⟩,xs,xm,xt⟩⟩:=d;unfold sl at AA;dsimp only at AA;obtain ⟨a0,a1,a2,a3,a4,a5,a6,a7,a8,a9,aa,ab,ac⟩:=AA;have K0:Hid (∀ W,Below w.heap.size w W->W.cell? ⟨b,off+k * 13,none⟩=some (.int .u8 dk)):=Hh (fun W h=>d9 h a0);have K1:Hid (∀ W,Below w.heap.size w W->W.cell? ⟨b,off+k * 13+1,none⟩=some (.slice ba bn bc)):=Hh (fun W h=>d9 h a1);have KX:Hid (∀ W,Below w.heap.size w W->W.cell? ⟨b,off+k * 13+2,none⟩=some (.int .i64 xk)/\W.cell? ⟨b,off+k * 13+3,none⟩=some (.int .i64 xn)/\W.cell? ⟨b,off+k * 13+4,none⟩=some (.int .i64 xf)/\W.cell? ⟨b,off+k * 13+5,none⟩=some (.int .i64 xr)/\W.cell? ⟨b,off+k * 13+6,none⟩=some (.int .u8 x0)/\W.cell? ⟨b,off+k * 13+7,none⟩=some (.int .u8 x1)/\W.cell? ⟨b,off+k * 13+8,none⟩=some (.int .u8 x2)/\W.cell? ⟨b,off+k * 13+9,none⟩=some (.int .u8 x3)/\W.cell? ⟨b,off+k * 13+10,none⟩=some (.int .i64 xs)/\W.cell? ⟨b,off+k * 13+11,none⟩=some (.int .i64 xm)/\W.cell? ⟨b,off+k * 13+12,none⟩=some (.int .i64 xt)):=Hh (fun W h=>⟨d9 h a2,d9 h a3,d9 h a4,d9 h a5,d9 h a6,d9 h a7,d9 h a8,d9 h a9,d9 h aa,d9 h ab,d9 h ac⟩);clear a0 a1 a2 a3 a4 a5 a6 a7 a8 a9 aa ab ac;have DKH:=Hh DK;have x0:=DK.1.1;have x255:=DK.1.2;clear DK;dsimp only at x0 x255;have hmod:Int.tmod dk 4=dk % 4:=gS x0;have wmod:IntKind.u8.wrap (dk % 4)=dk % 4:=IntWalk.u8_in _ (by omega);have hm0:0<=dk % 4/\dk % 4<=3:=by omega
     have c0:=K0.out wr (FIN.out wr D.out.go.gx.aD)
     go_upto_block 2 with fail
     try simp only [b25]
     generalize dk % 4=md at *;clear hmod wmod c0 x0 x255
     go_cut [9,10,12,13,14,15,16,17,18,19,20,21,22] from 47 to 171 (fun ui uo _ _ _ _ _ _ _ _ _ _ _ wx=>∃ (H1:Nat->Prop) (G1:Gs) (t1:Nat) (li1 lo1:List Int),Hid (On w1 g s q ui uo (k+1) H1 G1 t1 li1 lo1 wx))
     case first =>
      by_cases m0:md=0
      ·subst m0
       clear hm0;have CD:=abU D.out.go.gx G1.out D.out.ok (by have:=D.out.t;omega) ⟨xk,xn,xf,xr,(x0,x1,x2,x3),xs,xm,xt⟩ DKH.out.2.2.1 DKH.out.2.2.2;unfold iM dU ptr at CD;dsimp only at CD;have CD:=Hh CD;obtain ⟨y0,y1,y2,y3,y4,y5,y6,y7,y8,y9,ya⟩:=KX.out wr (FIN.out wr D.out.go.gx.aD);go_wp2_with fail;refine CD.out.mono ?_;rintro e w4 ⟨rfl,gx4,o4⟩;have NEW:Hid (On w1 g s q (.slice ai li.length ci) (.slice ao lo.length co) (k+1) (Fx H wr w4) ⟨bM ⟨xk,xn,xf,xr,(x0,x1,x2,x3),xs,xm,xt⟩ G.c,G.key,G.q⟩ (t+1) li lo w4):=Hh ⟨D.out.go.grown gx4 o4,D.out.ok.act _ DKH.out.2.2.1,D.out.eq,Nat.le_succ_of_le D.out.len,by have:=D.out.t;omega,(DF _ _).trans D.out.q⟩;clear CD gx4 o4 y0 y1 y2 y3 y4 y5 y6 y7 y8 y9 ya;go_wp2
       go_meet
       exact ⟨_,_,_,_,_,NEW⟩
      ·by_cases m1:md=1
       ·subst m1
        clear hm0 m0 KX K1 K0;have SU:=Hh (Dp D.out.go.gx G1.out D.out.ok (by have:=D.out.t;omega));have OKS:=Hh D.out.ok.step;have IDS:=Hh (EB G)
        have LQ:Hid ((oV G).c.S.length=q):=Hh (by
         show (rC _).S.length=q
         rw [JN]
         split
         ·rw [LG];exact D.out.q
         ·exact D.out.q)
        unfold ptr at SU;go_wp2_with fail;refine SU.out.mono ?_;rintro e w4 ⟨u4,rfl,r4,gx4,o4⟩;have D4:=Hh (D.out.go.grown gx4 o4)
        by_cases hA:stA G = []
        ·rw [hA] at r4
         obtain ⟨ra,rc,rfl⟩:=jW r4;have NEW:Hid (On w1 g s q (.slice ai li.length ci) (.slice ao lo.length co) (k+1) (Fx H wr w4) (oV G) (t+2) li lo w4):=Hh ⟨D4.out,OKS.out,by have:=IDS.out;rw [hA,az rfl] at this;rw [← dq (Ia (oV G).q),← this];exact D.out.eq,Nat.le_succ_of_le D.out.len,by have:=D.out.t;omega,LQ.out⟩;clear SU r4 gx4 o4;go_wp2
         go_meet
         exact ⟨_,_,_,_,_,NEW⟩
        ·obtain ⟨h0,ee,vv,hs,hmay,hv⟩:=D.out.ok.ans hA
         rw [hs] at r4;have RD:=Hh (oU hmay hv r4);obtain ⟨ra,rc,rfl,-⟩:=r4.slice;obtain ⟨q0,q1,q2,q3⟩:=vv;unfold yV yA at RD;dsimp only at RD
         have IDN:Hid (li=(lo ++ [(Qe.fst G.q).id]) ++ Ia (oV G).q):=Hh (by
          have:=IDS.out;rw [aq hA] at this;rw [List.append_assoc,← this]
          exact D.out.eq)
         clear SU r4 gx4 o4 hs hmay hv hA IDS;have h9:(yb ⟨(Qe.fst G.q).id,ee,(q0,q1,q2,q3)⟩).length=9:=rfl;go_wp2_with fail;refine RD.out.mono ?_;rintro e w5 ⟨rfl,b5⟩;have BA:=(af w5.heap.size w5).alloc (am _) (.cells #[.int .i64 (Qe.fst G.q).id,.int .i64 ee,.int .u8 q0,.int .u8 q1,.int .u8 q2,.int .u8 q3] 44);have YR:=Hh (bi w5 (.cells #[.int .i64 (Qe.fst G.q).id,.int .i64 ee,.int .u8 q0,.int .u8 q1,.int .u8 q2,.int .u8 q3] 44));have D6:=Hh ((D4.out.below b5).below BA);clear RD b5 BA D4 h9;go_upto_region 37 with fail;generalize w5.alloc (.cells #[.int .i64 (Qe.fst G.q).id,.int .i64 ee,.int .u8 q0,.int .u8 q1,.int .u8 q2,.int .u8 q3] 44)=w6 at *;generalize w5.heap.size=yb1 at *;have y0:=dw YR.out 0;have BI:=(af w6.heap.size w6).alloc (am _) (.cells #[.int .i64 (Qe.fst G.q).id] 3);have XI:=Hh (bi w6 (.cells #[.int .i64 (Qe.fst G.q).id] 3));have D7:=Hh (D6.out.below BI);clear BI D6
         go_wp2_with (at_builtin;refine bH (K:=KI) underlying33 Tx rfl (by omega) rfl _ _ rfl w1.heap.size _ lo rfl D7.out.o ⟨w6.heap.size,0,none⟩ ((Qe.fst G.q).id:Int) rfl ?c1 ?c2 D7.out.gx.aD.size ?_)
         case c1 =>
          intro jj uu hu
          have c:=ah XI.out jj
          match jj,hu with
          | 0,hu=>simp [KI,Rw.int] at hu;subst hu;first | exact c | rfl | go_simp
          | jj+1,hu=>simp [KI,Rw.int] at hu
         case c2=>have:=D.out.lens;have:=D.out.len;omega
         intro v9 w9 o9 g9 e9
         have NEW:Hid (On w1 g s q (.slice ai li.length ci) v9 (k+1) (Fx H wr w4) (oV G) (t+2) li (lo ++ [(Qe.fst G.q).id]) w9):=Hh ⟨D7.out.ZD o9 (by first | exact g9 | simpa using g9) (e9.imp id fun ⟨b,e,hl⟩=>⟨b,e,by simpa using hl⟩),OKS.out,IDN.out,Nat.le_succ_of_le D.out.len,by have:=D.out.t;omega,LQ.out⟩;clear o9 g9 e9 D7 XI y0;go_wp2
         go_meet
         exact ⟨_,_,_,_,_,NEW⟩
       ·have Z0:Hid (wr.heap.size<=(wr.alloc (.cells #[] 49)).heap.size):=Hh (by simp)
        have be:=(af wr.heap.size wr).alloc (am _) (.cells #[] 49);have D1:=Hh (D.out.go.below be);have W0:=Hh (ny.made (S:=G.c.S) wr D.out.go.low);have OKD:=Hh D.out.ok;have QD:=Hh D.out.q;have ED:=Hh D.out.eq;have LD:=Hh (⟨D.out.len,D.out.t,D.out.lens⟩:_/\_/\_);have z3:=Hh (D.out.go.gx.aD.size);clear be D;have q0':(md == 0)=false:=by simp [m0]
        have q1':(md == 1)=false:=by simp [m1]
        go_upto_region 13 with fail
        try simp only [q0',q1']
        generalize wr.alloc (.cells #[] 49)=w4 at *;generalize wr.heap.size=n3 at *;go_wp2
        go_loopw [16,15] (fun jv o wx=>∃ (m:Nat) (p1:Value) (hs:List Hd),m<=q/\jv = .int .i64 m/\p1=o/\Hid (hs.length=m/\GO w1 g s H G t (.slice ai li.length ci) (.slice ao lo.length co) li lo wx/\ny (KK H (.slice ai li.length ci) (.slice ao lo.length co)) wx n3 o G.c.S hs/\n3<=wx.heap.size)) (fun jv _ _=>q - (intOf jv).toNat)
        case atStart=>exact ⟨0,_,[],cx _,rfl,rfl,Hh ⟨rfl,D1.out,W0.out,Z0.out⟩⟩
        case round =>
         clear D1 W0 Z0;obtain ⟨m,o,hs,hmq,rfl,rfl,D⟩:=hrel;have CN:=yU D.out.2.1.gx.ch;rw [QD.out] at CN;have CX:=Hh CN;clear CN;unfold ptr at CX
         by_cases hlt:m < q
         ·obtain ⟨oa,oc,eo,-,-⟩:=D.out.2.2.1.own.slice
          have eo':o = .slice oa m oc:=by rw [eo,D.out.1]
          subst eo';clear eo;have CF:=Hh (fun W (b:Below wr.heap.size wr W)=>qh (D.out.2.1.gx.ch.below b) (n:=m) (by rw [QD.out];exact hlt));unfold bZ ptr at CF;go_wp2_with fail;refine CX.out.mono ?_;rintro e w5 ⟨rfl,b5⟩;have CY:=Hh (CF.out w5 b5);have B5:=Hh b5;clear CX CF b5;go_wp2_with fail;refine CY.out.mono ?_;rintro e w6 ⟨fv,rfl,hfv,b6⟩;have B6:=Hh (B5.out.trans (b6.mono B5.out.size))
          have LF:=hfv (Un (KK H (.slice ai li.length ci) (.slice ao lo.length co)) (.slice oa m oc)) (fun x hx=>by
           have z:=B5.out.size
           rcases hx with hx | hx
           ·have:=D.out.2.1.low x hx;omega
           ·have:=Fs.dI D.out.2.2.1.own x hx;omega)
          obtain ⟨fa,fn,fc,rfl⟩:=V2 LF;have BA:=Hh ((af w6.heap.size w6).alloc (am _) (.cells #[.slice fa fn fc] 49));have XA:=Hh (bi w6 (.cells #[.slice fa fn fc] 49));have LA:=Hh (LF.below BA.out);have DA:=Hh ((D.out.2.1.below B6.out).below BA.out);have WA:=Hh ((D.out.2.2.1.below B6.out).below BA.out);have ZA:Hid (n3<=(w6.alloc (.cells #[.slice fa fn fc] 49)).heap.size):=Hh (by have:=D.out.2.2.2;have:=B6.out.size;have:=BA.out.size;omega);have DL:=Hh D.out.1;clear CY hfv b6 LF B5 B6 BA D;have y0:=dw XA.out 0
          go_wp2_with (at_builtin;refine bH (K:=KS) underlying47 ab7 rfl (by omega) rfl _ _ rfl n3 _ _ rfl WA.out.own _ ((fa,fn,fc):Hd) rfl ?d1 ?d2 ?d3 ?_)
          case d1 =>
           intro jj uu hu
           have c:=ah XA.out jj
           match jj,hu with
           | 0,hu=>simp [KS,sl] at hu;subst hu;first | exact c | rfl | go_simp
           | jj+1,hu=>simp [KS] at hu
          case d2=>rw [DL.out];omega
          case d3=>have:=ZA.out;simpa using this
          intro v9 w9 o9 g9 e9
          have g9':(w6.alloc (.cells #[.slice fa fn fc] 49)).grownBy w9 (Value.slice oa m oc).ownBlock:=by first | exact g9 | simpa using g9
          have NEW:Hid ((hs ++ [((fa,fn,fc):Hd)]).length=m+1/\GO w1 g s H G t (.slice ai li.length ci) (.slice ao lo.length co) li lo w9/\ny (KK H (.slice ai li.length ci) (.slice ao lo.length co)) w9 n3 v9 G.c.S (hs ++ [((fa,fn,fc):Hd)])/\n3<=w9.heap.size):=Hh ⟨by simp [DL.out],DA.out.only (J:=fun x=>(Value.slice oa m oc).ownBlock=some x) (fun x hx e=>WA.out.off x e hx) (jB g9') (fun x e=>by have:=(Fs.dI WA.out.own x e).1;have:=z3.out;omega),WA.out.push DA.out.low (by rw [DL.out];exact LA.out) o9 g9' (by rw [show (w6.alloc (.cells #[.slice fa fn fc] 49)).heap.size=w6.heap.size+1 by simp];exact e9),cP ZA.out g9'.size⟩;obtain ⟨v9a,v9c,n9,rfl⟩:∃ a c n,v9 = .slice a n c:=by obtain ⟨a,c,e,_⟩:=o9.slice;exact ⟨a,c,_,e⟩
          clear o9 g9 g9' e9 WA DA LA XA y0;go_wp2
          go_roundw
          case rel=>exact ⟨m+1,_,_,by omega,by go_num,rfl,NEW⟩
          case measure=>simp [intOf];omega
         ·have hmq2:q=m:=by omega
          subst hmq2;go_wp2_with fail;refine CX.out.mono ?_;rintro e w5 ⟨rfl,b5⟩;have D5:=Hh (⟨D.out.2.1.below b5,D.out.2.2.1.below b5⟩:_/\_);have DL:=Hh D.out.1;clear CX b5 D hlt;have WW:Hid (Below w.heap.size w w5):=Hh (FIN.out _ D5.out.1.gx.aD);have RBW:Hid (∀ W,Below w.heap.size w W->Rd KU W (.slice ba bn bc) bl):=Hh (fun W h=>DKH.out.2.1.1.below h);have HBW:=Hh DKH.out.2.1.2;have SU:=Hh (qL D5.out.1.gx G1.out OKD.out (RBW.out _ WW.out) HBW.out);have OKS:=Hh (OKD.out.sub HBW.out);have c1:=K1.out w5 WW.out;unfold ptr at SU;dsimp only at SU OKS;clear DKH K0 KX;go_wp2_with fail;refine SU.out.mono ?_;rintro e w6 ⟨u6,rfl,r6,gx6,o6⟩;have D6:=Hh (D5.out.1.grown gx6 o6);have W6:=Hh (D5.out.2.turn o6);have R6:=Hh r6;clear SU r6 gx6 o6 D5 WW c1;generalize Fx H w5 w6=H6 at *
          obtain ⟨y,hE,ex,ee',hy⟩:∃ (y:Q) (hE:Int),(if xM bl then nG bl else zQ)=y/\(if xM bl then (0:Int) else 2)=hE/\((xM bl/\y=nG bl/\hE=0)\/(¬ xM bl/\y=zQ/\hE=2)):=⟨_,_,rfl,rfl,by
           by_cases h:xM bl
           ·exact .inl ⟨h,az h,az h⟩
           ·exact .inr ⟨h,aq h,aq h⟩⟩
          have BW:=Hh (FIN.out _ D6.out.gx.aD)
          have TK:Hid (Calls prog 16 #[.slice ba bn bc] w6 fun e w'=>e = .returned (.tuple #[qV y,.int .i64 hE])/\Below w6.heap.size w6 w'):=Hh (by
           have:=dX w6 _ bl HBW.out (RBW.out _ BW.out);unfold dK at this;rw [ex,ee'] at this
           exact this)
          have HI:Hid (vM bl=y.id):=Hh (by
           unfold vM
           rcases hy with ⟨h,rfl,_⟩ | ⟨h,rfl,_⟩
           ·rw [az h]
           ·rw [aq h];rfl)
          have HY:=Hh hy;clear ex ee' hy RBW;obtain ⟨yi,yk,yn,yf,yr,⟨v0,v1,v2,v3⟩,yy⟩:=y;unfold qV qA at TK;dsimp only at TK HI;have c1:=K1.out w6 BW.out;go_wp2_with fail;refine TK.out.mono ?_;rintro e w7 ⟨rfl,b7⟩;have BA:=(af w7.heap.size w7).alloc (am _) (.cells #[.int .i64 yi,.int .i64 yk,.int .i64 yn,.int .i64 yf,.int .i64 yr,.int .u8 v0,.int .u8 v1,.int .u8 v2,.int .u8 v3,.int .i64 yy] 53);have XR:=Hh (bi w7 (.cells #[.int .i64 yi,.int .i64 yk,.int .i64 yn,.int .i64 yf,.int .i64 yr,.int .u8 v0,.int .u8 v1,.int .u8 v2,.int .u8 v3,.int .i64 yy] 53));have D8:=Hh ((D6.out.below b7).below BA);have W8:=Hh ((W6.out.below b7).below BA);have R8:=Hh ((R6.out.below b7).below BA);clear TK b7 BA D6 W6 R6 c1 BW K1;go_upto_region 19 with fail;generalize w7.alloc (.cells #[.int .i64 yi,.int .i64 yk,.int .i64 yn,.int .i64 yf,.int .i64 yr,.int .u8 v0,.int .u8 v1,.int .u8 v2,.int .u8 v3,.int .i64 yy] 53)=w8 at *;generalize w7.heap.size=xb at *;obtain ⟨ua,uc,eu,-⟩:=R8.out.slice;have ES:Hid ((kR G bl).c=G.c/\(kR G bl).key=G.key):=Hh (by unfold kR;split <;> exact ⟨rfl,rfl⟩);subst eu;generalize hnl:(Qg G bl).length=nl at *;have HNL:=Hh hnl;clear hnl
          go_upto_if 94 with fail
          go_cut [9,20,21] from 93 to 120 (fun ui _ _ wx=>∃ li1,Hid (On w1 g s q ui (.slice ao lo.length co) (k+1) H6 (kR G bl) t li1 lo wx/\ny (KK H6 ui (.slice ao lo.length co)) wx n3 o G.c.S hs))
          case first =>
           by_cases hz:kU G bl=0
           ·have e1:Qg G bl = []:=az hz
            have hq:=Ve hz;have h0:hE=0:=by
             rcases HY.out with ⟨_,_,h⟩ | ⟨h,_⟩
             ·exact h
             ·exact absurd hq.1 h
            have SI:=Hh (Xt hz);have IDE:Hid ((nG bl).id=yi):=Hh (by have:=HI.out;unfold vM at this;rwa [az hq.1] at this);have l0:nl=0:=by rw [← HNL.out,e1];rfl
            subst l0;subst h0;have x0:=dw XR.out 0;have BI:=(af w8.heap.size w8).alloc (am _) (.cells #[.int .i64 yi] 3);have XI:=Hh (bi w8 (.cells #[.int .i64 yi] 3));have D9:=Hh (D8.out.below BI);have W9:=Hh (W8.out.below BI);clear BI D8 W8 R8 hq e1
            go_wp2_with (at_builtin;refine bH (K:=KI) underlying33 Tx rfl (by omega) rfl _ _ rfl w1.heap.size _ li rfl D9.out.i ⟨w8.heap.size,0,none⟩ (yi:Int) rfl ?c1 ?c2 D9.out.gx.aD.size ?_)
            case c1 =>
             intro jj uu hu
             have c:=ah XI.out jj
             match jj,hu with
             | 0,hu=>simp [KI,Rw.int] at hu;subst hu;first | exact c | rfl | go_simp
             | jj+1,hu=>simp [KI,Rw.int] at hu
            case c2=>have:=LD.out.1;omega
            intro v9 w9 o9 g9 e9
            have g9':(w8.alloc (.cells #[.int .i64 yi] 3)).grownBy w9 (Value.slice ai li.length ci).ownBlock:=by first | exact g9 | simpa using g9
            have e9':v9.ownBlock=(Value.slice ai li.length ci).ownBlock\/∃ b,v9.ownBlock=some b/\(w8.alloc (.cells #[.int .i64 yi] 3)).heap.size<=b:=e9.imp id fun ⟨b,e,hl⟩=>⟨b,e,by simpa using hl⟩;have NEW:Hid (On w1 g s q v9 (.slice ao lo.length co) (k+1) H6 (kR G bl) t (li ++ [yi]) lo w9/\ny (KK H6 v9 (.slice ao lo.length co)) w9 n3 o G.c.S hs):=Hh ⟨⟨D9.out.acT o9 g9' e9',OKS.out,by rw [SI.out,IDE.out,ED.out,List.append_assoc],by rw [cW];have:=LD.out.1;simp only [eN,gh];omega,by have:=LD.out.2.1;omega,by rw [ES.out.1];exact QD.out⟩,W9.out.note g9' e9'⟩;clear o9 g9 e9 g9' e9' D9 W9 XI x0;go_wp2
            go_meet
            exact ⟨_,NEW⟩
           ·have e1:Qg G bl=yb ⟨vM bl,kU G bl,z4⟩:=aq hz
            have SM:=Td G bl;have RR:=R8.out;rw [HI.out] at e1 SM;rw [e1] at RR;have RD:=oU SM FY RR;have l9:nl=9:=by rw [← HNL.out,e1];rfl
            subst l9;have ec:Hid (kR G bl=G):=Hh (aq hz);have nz:¬ kU G bl=0:=hz;clear RR SM hz;generalize kU G bl=ee at *;unfold yV yA z4 at RD;dsimp only at RD;have RD:=Hh RD;have NEW0:Hid (On w1 g s q (.slice ai li.length ci) (.slice ao lo.length co) (k+1) H6 (kR G bl) t li lo w8/\ny (KK H6 (.slice ai li.length ci) (.slice ao lo.length co)) w8 n3 o G.c.S hs):=Hh ⟨⟨D8.out,OKS.out,by rw [ec.out];exact ED.out,Nat.le_succ_of_le LD.out.1,by have:=LD.out.2.1;omega,by rw [ES.out.1];exact QD.out⟩,W8.out⟩;clear D8 W8 R8 e1 ec;go_wp2_with fail;refine RD.out.mono ?_;rintro e w9 ⟨rfl,b9⟩;have BA:=(af w9.heap.size w9).alloc (am _) (.cells #[.int .i64 yi,.int .i64 ee,.int .u8 0,.int .u8 0,.int .u8 0,.int .u8 0] 44);have YR:=Hh (bi w9 (.cells #[.int .i64 yi,.int .i64 ee,.int .u8 0,.int .u8 0,.int .u8 0,.int .u8 0] 44));have X9:=Hh (bU BA (bU b9 XR.out));have NEW:Hid (On w1 g s q (.slice ai li.length ci) (.slice ao lo.length co) (k+1) H6 (kR G bl) t li lo (w9.alloc (.cells #[.int .i64 yi,.int .i64 ee,.int .u8 0,.int .u8 0,.int .u8 0,.int .u8 0] 44))/\ny (KK H6 (.slice ai li.length ci) (.slice ao lo.length co)) (w9.alloc (.cells #[.int .i64 yi,.int .i64 ee,.int .u8 0,.int .u8 0,.int .u8 0,.int .u8 0] 44)) n3 o G.c.S hs):=Hh ⟨⟨(NEW0.out.1.go.below b9).below BA,NEW0.out.1.ok,NEW0.out.1.eq,NEW0.out.1.len,NEW0.out.1.t,NEW0.out.1.q⟩,(NEW0.out.2.below b9).below BA⟩;clear RD b9 BA NEW0 XR;go_upto_region 24 with fail;generalize w9.alloc (.cells #[.int .i64 yi,.int .i64 ee,.int .u8 0,.int .u8 0,.int .u8 0,.int .u8 0] 44)=w10 at *;generalize w9.heap.size=yb2 at *;have x0:=dw X9.out 0;have y0:=dw YR.out 0;have y1:=dw YR.out 1;go_wp2
            go_meet
            exact ⟨_,NEW⟩
          case rest =>
           obtain ⟨li1,E⟩:=hcut;obtain ⟨ia,ic,ei,-⟩:=E.out.1.go.i.slice;subst ei;clear D8 W8 R8 XR HY;have OA:=Hh (fun i (hi:i < q)=>(OKD.out.ok.st i (by rw [QD.out];exact hi)).1.len);go_wp2
           go_loopw [22] (fun jv wx=>∃ m:Nat,m<=q/\jv = .int .i64 m/\Hid (On w1 g s q (.slice ia li1.length ic) (.slice ao lo.length co) (k+1) H6 (kR G bl) t li1 lo wx/\ny (KK H6 (.slice ia li1.length ic) (.slice ao lo.length co)) wx n3 o G.c.S hs)) (fun jv _=>q - (intOf jv).toNat)
           case atStart=>exact ⟨0,cx _,rfl,E⟩
           case round =>
            clear E;obtain ⟨m,hm5,rfl,D⟩:=hrel;have CHD:Hid (CH w1 s G.c t wr):=Hh (by have:=D.out.1.go.gx.ch;rw [ES.out.1] at this;exact this);have CN:=yU CHD.out;rw [QD.out] at CN;have CX:=Hh CN;clear CN;unfold ptr at CX
            by_cases hmq:m < q
            ·go_wp2_with fail
             refine CX.out.mono ?_;rintro e w9 ⟨rfl,b9⟩;have CF:=Hh (fun W (b:Below w9.heap.size w9 W)=>qh ((CHD.out.below b9).below b) (n:=m) (by rw [QD.out];exact hmq));have LE:=Hh (OA.out m hmq);have WB:=D.out.2.below b9;obtain ⟨wb,wc,eo,c0',LS⟩:=WB.one (i:=m) (by rw [DL.out];exact hmq);rw [DL.out] at eo;obtain ⟨⟨ha,hn5,hc⟩,hh⟩:∃ h,hs.getD m zh=h:=⟨_,rfl⟩;rw [hh] at c0' LS;have LSH:=Hh LS;have DQ:Hid (On w1 g s q (.slice ia li1.length ic) (.slice ao lo.length co) (k+1) H6 (kR G bl) t li1 lo w9/\ny (KK H6 (.slice ia li1.length ic) (.slice ao lo.length co)) w9 n3 o G.c.S hs):=Hh ⟨⟨D.out.1.go.below b9,D.out.1.ok,D.out.1.eq,D.out.1.len,D.out.1.t,D.out.1.q⟩,WB⟩;clear hh LS CX b9 D CHD WB;generalize (sat G.c.S m).1=A at *;unfold bZ ptr at CF;unfold sl at c0' LSH;dsimp only at c0' LSH;have X0:=Sd.aC c0';subst eo;clear c0';go_upto_region 29 with fail;refine Sd.start [(false,0),(false,1),(false,3),(false,4),(false,5),(false,6),(true,2),(true,7),(false,8)] (by kernel_rfl) (by kernel_rfl) (by kernel_rfl) ?_;dsimp only [Sd.aK,List.getElem?_cons_succ,List.getElem?_cons_zero]
             iterate 6 (refine Sd.lit ?_;quiet_step (fail);refine br ?_)
             have B0:=Hh ((af w9.heap.size w9).drew);refine Sd.call (by rfl) (fun K hK=>?_);go_simp;refine (CF.out _ B0.out).mono ?_;rintro e wa ⟨fv,rfl,hfv,ba'⟩;have BA:=Hh (B0.out.trans (ba'.mono B0.out.size));have LF:=Hh (hfv (fun _=>False) nofun);refine hK _ _ (Sd.Cl.of BA.out) ?_;clear hK K ba' hfv CF;refine Sd.call (by rfl) (fun K hK=>?_);go_simp;refine (Ll LF.out (LSH.out.below BA.out) LE.out).mono ?_;rintro e wz ⟨rfl,bz⟩;have BZ:=Hh (BA.out.trans (bz.mono BA.out.size));refine hK _ _ (Sd.Cl.of BZ.out) ?_;clear hK K bz LF LSH BA B0
             iterate 1 (refine Sd.lit ?_;quiet_step (fail);refine br ?_)
             refine Sd.done ?_;have DD:Hid (On w1 g s q (.slice ia li1.length ic) (.slice ao lo.length co) (k+1) H6 (kR G bl) t li1 lo wz/\ny (KK H6 (.slice ia li1.length ic) (.slice ao lo.length co)) wz n3 (.slice (some ⟨wb,0,none⟩) q wc) G.c.S hs):=Hh ⟨⟨DQ.out.1.go.below BZ.out,DQ.out.1.ok,DQ.out.1.eq,DQ.out.1.len,DQ.out.1.t,DQ.out.1.q⟩,DQ.out.2.below BZ.out⟩;clear DQ BZ X0;go_wp2
             go_roundw
             case rel=>exact ⟨m+1,by omega,by go_num,DD⟩
             case measure=>simp [intOf];omega
            ·go_wp2_with fail
             refine CX.out.mono ?_;rintro e w9 ⟨rfl,b9⟩;have NEW:Hid (On w1 g s q (.slice ia li1.length ic) (.slice ao lo.length co) (k+1) H6 (kR G bl) t li1 lo w9):=Hh ⟨D.out.1.go.below b9,D.out.1.ok,D.out.1.eq,D.out.1.len,D.out.1.t,D.out.1.q⟩;clear CX b9 D CHD;go_wp2
             go_meet
             exact ⟨_,_,_,_,_,NEW⟩
     case rest =>
      obtain ⟨H1,G2,t1,li1,lo1,E⟩:=hcut;clear D;obtain ⟨ai',ci',ei,-⟩:=E.out.go.i.slice;obtain ⟨ao',co',eo,-⟩:=E.out.go.o.slice;subst ei eo;have WT:=Hh (yE E.out.go.gx E.out.ok);have wl:IntKind.i64.wrap ((li1.length:Int) - lo1.length)=G2.q.L.length:=by
       have hl:=E.out.lens;have h8:=E.out.ok.qo.1;have hlen:=E.out.len;exact (cH _ (by omega)).trans (by omega)
      unfold ptr at WT;go_wp2_with fail;refine WT.out.mono ?_;rintro e w5 ⟨rfl,b5⟩;have NEW:Hid (On w1 g s q (.slice ai' li1.length ci') (.slice ao' lo1.length co') (k+1) H1 G2 t1 li1 lo1 w5):=Hh ⟨E.out.go.below b5,E.out.ok,E.out.eq,E.out.len,E.out.t,E.out.q⟩;clear WT b5 E;go_wp2
      go_roundw
      case rel=>exact ⟨k+1,_,_,_,_,_,by omega,by omega,by go_num,NEW⟩
      case measure=>simp [intOf];omega
    ·have DE:Hid (On w1 g s q (.slice ai li.length ci) (.slice ao lo.length co) 25 H G t li lo wr):=Hh ⟨D.out.go,D.out.ok,D.out.eq,by have:=D.out.len;omega,by have:=D.out.t;omega,D.out.q⟩
     have EX:¬ ((k:Int) < n)\/((k:Int) < n/\¬ ((k:Int) < 25)):=by omega
     clear hlt D
     rcases EX with h1 | ⟨h1,h2⟩
     all_goals
      go_wp2
      go_meet
      exact ⟨_,_,_,_,_,DE⟩
  case rest =>
   obtain ⟨H,G,t,li,lo,E⟩:=hcut;obtain ⟨ia,ic,ei,-⟩:=E.out.go.i.slice;subst ei;have l25:=E.out.len;clear D0 HA OX HN hm
   go_upto_block 7 with fail
   go_cut [10,23,24,25,26] from 172 to 195 (fun uo _ _ _ _ wx=>∃ (H1:Nat->Prop) (G1:Gs) (t1:Nat),Hid (GO w1 g s H1 G1 t1 (.slice ia li.length ic) uo li li wx))
   case first =>
    have D0:Hid (On w1 g s q (.slice ia li.length ic) _ 25 H G t li lo _/\mu G.q<=24):=Hh ⟨E.out,(acM E.out.ok.qo).2⟩;go_wp2_with fail
    go_loopw [23,10] (fun jv uo wr=>∃ (j:Nat) (H:Nat->Prop) (G:Gs) (t:Nat) (lo:List Int),j<=24/\jv = .int .i64 j/\Hid (GO w1 g s H G t (.slice ia li.length ic) uo li lo wr/\OkG G t/\li=lo ++ Ia G.q/\mu G.q+j<=24/\t<=50+2 * j)) (fun jv _ _=>24 - (intOf jv).toNat)
    case atStart=>exact ⟨0,H,G,t,lo,by decide,rfl,Hh ⟨D0.out.1.go,D0.out.1.ok,D0.out.1.eq,by have:=D0.out.2;omega,by have:=D0.out.1.t;omega⟩⟩
    case round =>
     clear D0 E;obtain ⟨j,H,G,t,lo,hj,rfl,D⟩:=hrel;obtain ⟨ao,co,rfl,-⟩:=D.out.1.o.slice;have WT:=Hh (yE D.out.1.gx D.out.2.1);unfold ptr at WT
     have NONE:Hid (G.q.L.length=0->li=lo):=Hh (fun h=>by
      have:=D.out.2.2.1;unfold Ia at this;rw [dr.1 h,List.map_nil,List.append_nil] at this
      exact this)
     by_cases hj24:j < 24
     ·have j24:(j:Int) < 24:=by omega
      generalize hgl:G.q.L.length=gl at *;have HGL:=Hh hgl;clear hgl
      by_cases hw:0 < gl
      ·have ST:=Hh (fun W (b:Below wr.heap.size wr W)=>Dp (D.out.1.gx.below b) G1.out D.out.2.1 (by have:=D.out.2.2.2.2;omega))
       have hw':(0:Int) < gl:=by omega
       unfold ptr at ST;go_wp2_with fail;refine WT.out.mono ?_;rintro e w5 ⟨rfl,b5⟩;have D5:=Hh (D.out.1.below b5);have SU:=Hh (ST.out w5 b5);clear WT ST b5;go_wp2_with fail;refine SU.out.mono ?_;rintro e w6 ⟨u6,rfl,r6,gx6,o6⟩;have D6:=Hh (D5.out.grown gx6 o6);have FA:Hid (OkG (oV G) (t+2)/\mu (oV G).q+(j+1:Nat)<=24/\t+2<=50+2 * (j+1)):=Hh ⟨D.out.2.1.step,by have:=mu_step D.out.2.1.qo (by rw [HGL.out];exact hw);have:=D.out.2.2.2.1;omega,by have:=D.out.2.2.2.2;omega⟩;have IDS:=EB G;clear SU gx6 o6 D5
       by_cases hA:stA G = []
       ·rw [hA] at r6
        obtain ⟨ra,rc,rfl⟩:=jW r6;rw [az hA,dq] at IDS;have NEW:Hid (GO w1 g s (Fx H w5 w6) (oV G) (t+2) (.slice ia li.length ic) (.slice ao lo.length co) li lo w6/\OkG (oV G) (t+2)/\li=lo ++ Ia (oV G).q/\mu (oV G).q+(j+1:Nat)<=24/\t+2<=50+2 * (j+1)):=Hh ⟨D6.out,FA.out.1,by rw [← IDS];exact D.out.2.2.1,FA.out.2⟩;clear r6 D6 IDS D FA hA;go_wp2
        go_roundw
        case rel=>exact ⟨j+1,_,_,_,_,by omega,by go_num,NEW⟩
        case measure=>simp [intOf];omega
       ·obtain ⟨h0,ee,vv,hs,hmay,hv⟩:=D.out.2.1.ans hA
        rw [hs] at r6;have RD:=Hh (oU hmay hv r6);obtain ⟨ra,rc,rfl,-⟩:=r6.slice;obtain ⟨q0,q1,q2,q3⟩:=vv;unfold yV yA at RD;dsimp only at RD;rw [aq hA] at IDS
        have IDN:Hid (li=(lo ++ [(Qe.fst G.q).id]) ++ Ia (oV G).q):=Hh (by
         rw [List.append_assoc,← IDS]
         exact D.out.2.2.1)
        have LO:Hid (lo.length<=25):=Hh (by have:=dv List.length D.out.2.2.1;rw [cW] at this;omega);clear r6 hs hmay hv hA IDS D;have h9:(yb ⟨(Qe.fst G.q).id,ee,(q0,q1,q2,q3)⟩).length=9:=rfl;go_wp2_with fail;refine RD.out.mono ?_;rintro e w7 ⟨rfl,b7⟩;have BA:=(af w7.heap.size w7).alloc (am _) (.cells #[.int .i64 (Qe.fst G.q).id,.int .i64 ee,.int .u8 q0,.int .u8 q1,.int .u8 q2,.int .u8 q3] 44);have YR:=Hh (bi w7 (.cells #[.int .i64 (Qe.fst G.q).id,.int .i64 ee,.int .u8 q0,.int .u8 q1,.int .u8 q2,.int .u8 q3] 44));have D8:=Hh ((D6.out.below b7).below BA);clear RD b7 BA D6 h9;go_upto_region 48 with fail;generalize w7.alloc (.cells #[.int .i64 (Qe.fst G.q).id,.int .i64 ee,.int .u8 q0,.int .u8 q1,.int .u8 q2,.int .u8 q3] 44)=w8 at *;generalize w7.heap.size=yb1 at *;have y0:=dw YR.out 0;have BI:=(af w8.heap.size w8).alloc (am _) (.cells #[.int .i64 (Qe.fst G.q).id] 3);have XI:=Hh (bi w8 (.cells #[.int .i64 (Qe.fst G.q).id] 3));have D9:=Hh (D8.out.below BI);clear BI D8
        go_wp2_with (at_builtin;refine bH (K:=KI) underlying33 Tx rfl (by omega) rfl _ _ rfl w1.heap.size _ lo rfl D9.out.o ⟨w8.heap.size,0,none⟩ ((Qe.fst G.q).id:Int) rfl ?c1 ?c2 D9.out.gx.aD.size ?_)
        case c1 =>
         intro jj uu hu
         have c:=ah XI.out jj
         match jj,hu with
         | 0,hu=>simp [KI,Rw.int] at hu;subst hu;first | exact c | rfl | go_simp
         | jj+1,hu=>simp [KI,Rw.int] at hu
        case c2=>have:=LO.out;omega
        intro v9 w9 o9 g9 e9
        have NEW:Hid (GO w1 g s (Fx H w5 w6) (oV G) (t+2) (.slice ia li.length ic) v9 li (lo ++ [(Qe.fst G.q).id]) w9/\OkG (oV G) (t+2)/\li=(lo ++ [(Qe.fst G.q).id]) ++ Ia (oV G).q/\mu (oV G).q+(j+1:Nat)<=24/\t+2<=50+2 * (j+1)):=Hh ⟨D9.out.ZD o9 (by first | exact g9 | simpa using g9) (e9.imp id fun ⟨b,e,hl⟩=>⟨b,e,by simpa using hl⟩),FA.out.1,IDN.out,FA.out.2⟩;clear o9 g9 e9 D9 XI y0 IDN LO FA;go_wp2
        go_roundw
        case rel=>exact ⟨j+1,_,_,_,_,by omega,by go_num,NEW⟩
        case measure=>simp [intOf];omega
      ·have g0:gl=0:=by omega
       subst g0;have EL:=Hh (NONE.out rfl);go_wp2_with fail;refine WT.out.mono ?_;rintro e w5 ⟨rfl,b5⟩;have DE:Hid (GO w1 g s H G t (.slice ia li.length ic) (.slice ao lo.length co) li li w5):=Hh (by have:=D.out.1.below b5;rw [← EL.out] at this ⊢;exact this);clear WT b5 D NONE HGL;go_wp2
       go_meet
       exact ⟨_,_,_,DE⟩
     ·have j24:¬ (j:Int) < 24:=by omega
      have g0:=VK D.out.2.1.qo (by have:=D.out.2.2.2.1;omega);have EL:=Hh (NONE.out g0);clear g0;have DE:Hid (GO w1 g s H G t (.slice ia li.length ic) (.slice ao lo.length co) li li wr):=Hh (by have:=D.out.1;rw [← EL.out] at this ⊢;exact this);clear WT D NONE;go_wp2
      go_meet
      exact ⟨_,_,_,DE⟩
   case rest =>
    obtain ⟨H1,G2,t1,Z⟩:=hcut;obtain ⟨oa,oc,eo,-⟩:=Z.out.o.slice;subst eo;clear E;generalize hll:li.length=ln at *;have HL:=Hh hll;clear hll;go_upto_region 51 with fail;go_wp2
    go_loopw [27] (fun jv wr=>∃ m:Nat,m<=ln/\jv = .int .i64 m/\Hid (GO w1 g s H1 G2 t1 (.slice ia ln ic) (.slice oa ln oc) li li wr)) (fun jv _=>ln - (intOf jv).toNat)
    case atStart=>exact ⟨0,cx _,rfl,Z⟩
    case round =>
     clear Z;obtain ⟨m,hm,rfl,D⟩:=hrel
     by_cases hlt:m < ln
     ·obtain ⟨gi,c1,e1,-,-,-,-,-,A1⟩:=D.out.i.form (by rw [HL.out];omega)
      obtain ⟨go,c2,e2,-,-,-,-,-,A2⟩:=D.out.o.form (by rw [HL.out];omega);have z1:=Re.tH A1 m (by rw [HL.out];exact hlt);have z2:=Re.tH A2 m (by rw [HL.out];exact hlt);rw [fd] at z1 z2;clear A1 A2;obtain rfl:ia=some ⟨gi,0,none⟩:=by injection e1
      obtain rfl:oa=some ⟨go,0,none⟩:=by injection e2
      clear e1 e2;generalize Re.fC li m=z at *;have X1:=Sd.aC z1;have X2:=Sd.aC z2;clear z1 z2;go_upto_region 54 with fail;refine Sd.start [(false,0),(false,1),(false,2),(false,3),(false,4),(false,5),(false,6),(false,7),(false,8)] (by kernel_rfl) (by kernel_rfl) (by kernel_rfl) ?_;dsimp only [Sd.aK,List.getElem?_cons_succ,List.getElem?_cons_zero]
      repeat (refine Sd.lit ?_;quiet_step (fail);refine br ?_)
      refine Sd.done ?_;have D4:=Hh (D.out.below (af wr.heap.size wr).drew);clear D X1 X2;generalize wr.drew=wD at *;go_wp2
      go_roundw
      case rel=>exact ⟨m+1,by omega,by go_num,D4⟩
      case measure=>simp [intOf];omega
     ·have BB:=Hh D.out.gx.aD
      have AWK:=Hh (AWX.out wr BB.out);clear D;go_wp2_with fail;refine AWK.out.mono ?_;rintro e w5 ⟨rfl,b5⟩;have B5:=aN BB.out b5;clear AWK b5;go_wp2_with fail;refine (Gf _ _).mono ?_;rintro e w6 ⟨u6,rfl,r6,b6⟩;obtain ⟨ra,rc,rfl⟩:=jW r6;have B6:=aN B5.out b6;clear r6 b6;go_wp2_with fail;refine (OI _).mono ?_;rintro e w7 ⟨u7,rfl,r7,b7⟩;obtain ⟨sa,sc,rfl⟩:=jW r7;have B7:=aN B6.out b7;clear r7 b7;go_wp2_with fail;refine (JE _).mono ?_;rintro e w8 ⟨rfl,b8⟩;have E:=Hh (FIN.out _ (aN B7.out b8).out);go_wp2
      go_ret
      exact ⟨rfl,E.out⟩
 ·generalize hz:newE lp=z at *
  have N1:=UD H1.out (z:=z) (by rw [E1.out];exact hz) e0;have NN:=Hh N1;clear N1 hz H1;go_wp2_with fail;refine NN.out.mono ?_;rintro e w2 ⟨rfl,b2⟩;have AWK:=Hh (AWX.out w2 b2);have B2:=Hh b2;clear b2 NN AWX;go_wp2_with fail;refine AWK.out.mono ?_;rintro e w4 ⟨rfl,b4⟩;have E:=Hh (FIN.out _ (B2.out.trans (b4.mono B2.out.size)));go_wp2
  go_ret
  exact ⟨rfl,E.out⟩
end Ga
