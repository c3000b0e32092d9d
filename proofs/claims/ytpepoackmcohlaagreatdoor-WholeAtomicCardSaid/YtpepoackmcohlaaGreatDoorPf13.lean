import Derived.Test.YtpepoackmcohlaaGreatDoorPf12
set_option maxRecDepth 100000
set_option maxHeartbeats 8000000
namespace Go.Proofs.YtpepoackmcohlaaGreatDoor
open Go.Proofs.Tryz Go.RowKit
open Ck (Hd KS LL bQ fI iQ jK sE sN tE tN vI xO zh)
open Fl (K4 R4 aA aH aK aL ah aj bN cZ file z4)
open Fs (Fx Only Rs aB aC aP dX)
open Pa (Ay Et K2 KB KN Mf Nr Rfl S2 Sk U1 US aQ bO bT bU bX eD eH fq gM gZ kJ mD mF ny pN ptr qM qU rM sJ sat wX wh xI yg ze)
open Ro (E5 K5 bF ent fH fJ fM fV iH jJ jg pQ rZ z5)
open Rw (At Kind Ow Rd)
open Wt (Pf)
namespace Ck
attribute [local irreducible] Sd.aW wpQuiet Sg.cK
theorem ads (L:LL) (n:Nat) (x:E5):pc L n x=(decide (x.1=1) && decide (0<=sN x.2.1 (L.take n))):=by unfold pc;rw [Bool.decide_and]
theorem acA (L:LL) (n:Nat) (x:E5):pg L n x=(decide (x.1=2) && decide (sN x.2.1 L < 0)):=by unfold pg;rw [Bool.decide_and]
theorem vP (w:World) (v:Value) (L:LL) (R:jK w v L):Calls prog 93 #[v] w (fI w L):=by
 have RL:=Hh R;have SC:=Hh (fun (W:World) (v':Value) (M:LL) (s:Int) (r:jK W v' M)=>nZ W v' M s r);have MA:=Hh (fun (W:World) (u:Value) (l:List E5) (r:Rd K5 W u l)=>Ro.iV W u l r);have TF:Hid (∀ w',0<=bI L->Below w.heap.size w w'->fI w L (.returned (.tuple #[.int .i64 (bI L),.int .i64 2])) w'):=fun w' h b=>by
  obtain ⟨e1,e2⟩:=JE h;unfold fI;rw [e1,e2];exact ⟨rfl,b⟩
 have TC:Hid (∀ w',¬ 0<=bI L->0<=DL L->Below w.heap.size w w'->fI w L (.returned (.tuple #[.int .i64 (DL L),.int .i64 8])) w'):=fun w' h h2 b=>by
  obtain ⟨e1,e2⟩:=MI h h2;unfold fI;rw [e1,e2];exact ⟨rfl,b⟩
 have TG:Hid (∀ w',¬ 0<=bI L->¬ 0<=DL L->0<=E8 L->Below w.heap.size w w'->fI w L (.returned (.tuple #[.int .i64 (E8 L),.int .i64 9])) w'):=fun w' h h2 h3 b=>by
  obtain ⟨e1,e2⟩:=Vl h h2 h3;unfold fI;rw [e1,e2];exact ⟨rfl,b⟩
 have TO:Hid (∀ w',¬ 0<=bI L->¬ 0<=DL L->¬ 0<=E8 L->Below w.heap.size w w'->fI w L (.returned (.tuple #[.int .i64 (-1),.int .i64 0])) w'):=fun w' h h2 h3 b=>by
  obtain ⟨e1,e2⟩:=adn h h2 h3;unfold fI;rw [e1,e2];exact ⟨rfl,b⟩
 have BH:Hid (∀ k,gQ bad L k->k < L.length->bad (bQ L k)=true->bI L=k):=fun k=>zi;have BE:Hid (gQ bad L L.length->bI L = -1):=yZ;have BX:Hid (∀ k,gQ bad L k->k < L.length->bad (bQ L k)=false->gQ bad L (k+1)):=fun k=>vU;have CH:Hid (∀ k i,jf (pc L) L k i->k < L.length->i < (bQ L k).length->pc L k (bF (bQ L k) i)=true->DL L=k):=fun k i h1 h2 h3 h4=>(nk h1 h2 h3 h4).1;have CE:Hid (kS (pc L) L L.length->DL L = -1):=fun h=>(pO h).1;have GH:Hid (∀ k i,jf (pg L) L k i->k < L.length->i < (bQ L k).length->pg L k (bF (bQ L k) i)=true->E8 L=k):=fun k i h1 h2 h3 h4=>(nk h1 h2 h3 h4).1;have GE:Hid (kS (pg L) L L.length->E8 L = -1):=fun h=>(pO h).1;obtain ⟨a,cap,rfl,⟨hcap,_⟩,hm,hA⟩:=R;have HA:=Hh hA;clear hA;generalize bI L=bn at *;generalize DL L=cn at *;generalize E8 L=gn at *;unfold maxLen at hm;generalize hn:L.length=n at *;have HN:=Hh hn;clear hn
 go_enter func93,ntmps93
 go_wp2
 go_loopw [4] (fun i wr=>∃ k:Nat,k<=n/\i = .int .i64 k/\Hid (Below w.heap.size w wr)/\Hid (gQ bad L k)) (fun i _=>n - (intOf i).toNat)
 case atStart=>exact ⟨0,bt _,rfl,aa _ _,vY⟩
 case round =>
  obtain ⟨k,hk,rfl,bw,hs⟩:=hrel
  by_cases hlt:k < n
  ·obtain ⟨b,off,rfl,A⟩:=HA (by omega)
   obtain ⟨u,c,ru⟩:=A k hlt;have c':=gP bw c;have M:=Hh (MA wr u (bQ L k) (ru.below bw));obtain ⟨a',cap',rfl,_⟩:=ru;have AA:=Hh A;have YES:=fun h=>BH k hs hlt h;have NO:=fun h=>BX k hs hlt h;have hb:bad (bQ L k) = !fJ (bQ L k):=rfl;rw [hb] at YES NO;clear A c hb;generalize fJ (bQ L k)=q at *;generalize (bQ L k).length=m at *
   cases q with
   | true =>
     have N:=Hh (NO rfl);clear YES NO;go_wp2_with fail;refine M.mono ?_;rintro e w1 ⟨rfl,b1⟩;have B1:=aR bw b1;clear b1;go_wp2
     go_roundw
     case rel=>exact ⟨k+1,by omega,by go_num,B1,N⟩
     case measure=>simp [intOf];omega
   | false =>
     have Y:=Hh (YES rfl);have T:=Hh (fun w' hb=>TF w' (by rw [Y.out];omega) hb);rw [Y.out] at T;clear YES NO;go_wp2_with fail;refine M.mono ?_;rintro e w1 ⟨rfl,b1⟩;have B1:=aR bw b1;clear b1;go_wp2
     go_ret2
     exact T _ B1
  ·obtain rfl:k=n:=by omega
   have nb:=BE.out hs;have NB:=Hh (show ¬ 0<=bn by omega);clear nb hs TF BH BE BX;have B0:=bw;go_wp2
   go_loopw [5] (fun i wr=>∃ j:Nat,j<=k/\i = .int .i64 j/\Hid (Below w.heap.size w wr)/\Hid (kS (pc L) L j)) (fun i _=>k - (intOf i).toNat)
   case atStart=>exact ⟨0,bt _,rfl,B0,ahead_zero⟩
   case round =>
    clear bw B0 hlt;obtain ⟨j,hj,rfl,bw,hs⟩:=hrel
    by_cases hlt:j < k
    ·obtain ⟨b,off,rfl,A⟩:=HA (by omega)
     obtain ⟨u,c,a',cap',rfl,_,hm',hA'⟩:=A j hlt;have HC:=Hh c;have HA':=Hh hA';have HAA:=Hh A;have HJ:=Hh (show j < L.length by rw [HN.out];exact hlt);have lc:=bj _ _ c;have c0:=(bw.cell lc).trans c;clear hA' c A;unfold maxLen at hm';generalize hl:(bQ L j).length=m at *;have HL:=Hh hl;clear hl;have W0:=Hh (kW hs);have B1:=bw;clear hs;go_wp2
     go_loopw [6] (fun i wr=>∃ i':Nat,i'<=m/\i = .int .i64 i'/\Hid (Below w.heap.size w wr)/\Hid (jf (pc L) L j i')) (fun i _=>m - (intOf i).toNat)
     case atStart=>exact ⟨0,bt _,rfl,B1,W0⟩
     case round =>
      clear c0 bw B1 W0;obtain ⟨i,hi,rfl,bw,hs⟩:=hrel;have c':=(bw.cell lc).trans HC
      by_cases hit:i < m
      ·obtain ⟨b',off',rfl,A'⟩:=HA' (by omega)
       have kD:=rZ A' i (by rw [HL.out];exact hit);rw [show (bQ L j).getD i z5=bF (bQ L j) i from rfl] at kD;have YES:=Hh (fun h=>CH j i hs (by have:=HJ.out;rw [HN.out] at this;exact this) (by rw [HL.out];exact hit) h);have NO:=Hh (fun h=>kL hs (by rw [HL.out];exact hit) h);have PI:=ads L j (bF (bQ L j) i);have HAA':=Hh A';clear A' hs;generalize bF (bQ L j) i=x at *;have SJ:=Hh (fun W hb=>SC W (.slice (some ⟨b,off,none⟩) j cap) (L.take j) x.2.1 ((RL.below (w':=W) hb).take (by rw [HN.out];omega)));obtain ⟨x1,x2,x3,x4,x5⟩:=x;simp only at PI kD SJ;generalize pc L j (x1,x2,x3,x4,x5)=q at *;generalize sN x2 (L.take j)=sn at *;generalize sE x2 (L.take j)=se at *;obtain ⟨i0,i1,_,_,_⟩:=kD;have l0:b' < w.heap.size:=bj _ _ i0;have k0:wr.cell? ⟨b',off'+i * 5,none⟩=_:=(bw.cell l0).trans i0;have k1:wr.cell? ⟨b',off'+i * 5+1,none⟩=_:=(bw.cell l0).trans i1;have I0:=Hh i0;have P:=Hh PI;have hjc:j<=cap:=by omega
       clear PI i0 i1 k0;go_upto_region 12 with fail
       replace c':=Sd.aD c'
       replace k1:=Sd.aD k1
       refine Sg.startP [(0,0),(0,1),(0,2),(0,3),(0,4),(0,5),(0,6),(0,7),(0,8),(0,9),(0,10),(1,11),(0,12),(0,13),(0,14),(2,15),(0,16),(1,17)] [⟨15,8,#[.int .i64 0,.int .i64 0,.int .i64 0,.int .i64 0,.int .i64 0],170,none,none⟩] (by kernel_rfl) (by kernel_rfl) (by kernel_rfl) (by decide) (by decide) ?_ ?_ ?_
       ·simp
       ·intro f hf
        simp only [cj,cY,fX] at hf;subst hf;exact Sg.UW rfl rfl rfl fun ρ w=>by go_simp
       dsimp only [Sg.aM,List.getElem?_cons_succ,List.getElem?_cons_zero];have BW:=Hh ((aa wr.heap.size wr).drew)
       repeat (refine Sg.lit (fun xs=>?_);simp only [Sg.fill,cy,br];quiet_step (fail);refine bk ?_)
       refine Sg.iX (fun xs w3 hb hc=>⟨by rfl,fun K hK=>?_⟩);have B3:=aR BW hb;clear hb hc BW;simp only [Sg.fill,cy,br];go_simp;refine (SJ w3 (aR bw B3)).mono ?_;rintro e4 w4 ⟨rfl,b4⟩;have B4:=aR B3 b4;refine hK _ _ (Sd.Cl.of B4) b4.size (fun _=>b4) ?_;clear hK K b4 B3;unfold ent
       repeat (refine Sg.lit (fun xs=>?_);simp only [Sg.fill,cy,br];quiet_step (fail);refine bk ?_)
       refine Sg.nW (fun g7 w7 hb hc row n7 hH hL=>?_);have B7:=aR B4 hb;have R7:Hid (iG w7 g7 z5):=row;clear hb hc row hH hL B4
       repeat (refine Sg.lit (fun xs=>?_);simp only [Sg.fill,br];quiet_step (fail);refine bk ?_)
       refine Sg.iX (fun xs w9 hb hc=>⟨by rfl,fun K hK=>?_⟩);have B9:=aR B7 hb;have R9:=Hh (R7.below hb R7.lt);have d0:=Fl.rc R9 0;have d1:=Fl.rc R9 1;have d2:=Fl.rc R9 2;have d3:=Fl.rc R9 3;have d4:=Fl.rc R9 4;have f0:=aj R9 0;have f1:=aj R9 1;have f2:=aj R9 2;have f3:=aj R9 3;have f4:=aj R9 4;have BA:=iD (g:=g7) (x:=se) B9 n7;have hsz:=Oo w9 g7 se;clear hb hc B7 R7 R9;simp only [Sg.fill,br];go_simp;refine hK _ _ (Sd.Cl.of BA) (by rw [← hsz];exact ac _) (fun h=>absurd rfl h) ?_;clear hK K d0 d1 d2 d3 d4 f0 f1 f2 f3 f4 hsz
       show Sg.cK _ _ _ _ _ _ _ _ _ _ _ (qh w9 g7 se)
       have B10:=aR bw BA;clear BA c' k1 B9;generalize qh w9 g7 se=wA at *;refine Sg.done (fun wB hb hc=>?_);have BB:=aR B10 hb;clear hb hc B10 n7 SJ bw;have c':=(BB.cell lc).trans HC;have k0:=(BB.cell l0).trans I0
       by_cases h1:x1=1
       ·by_cases h2:0<=sn
        ·have Y:=YES.out (by rw [P.out,bi h1,bi h2];rfl)
         have T:=Hh (fun w' hb=>TC w' NB (by rw [Y];omega) hb);rw [Y] at T;have h1':(x1 == 1)=true:=by simpa using h1
         have h2':decide (0<=sn)=true:=bi h2;clear Y YES NO P h1 h2;go_wp2
         go_ret2
         exact T _ BB
        ·have ST:=Hh (NO (by rw [P.out,ai h2,Bool.and_false]))
         have h1':(x1 == 1)=true:=by simpa using h1
         have h2':decide (0<=sn)=false:=ai h2;clear YES NO P h1 h2;go_wp2
         go_roundw
         case rel=>exact ⟨i+1,by omega,by go_num,BB,ST⟩
         case measure=>simp [intOf];omega
       ·have ST:=Hh (NO (by rw [P.out,ai h1,Bool.false_and]))
        have h1':(x1 == 1)=false:=by simpa using h1
        clear YES NO P h1;go_wp2
        go_roundw
        case rel=>exact ⟨i+1,by omega,by go_num,BB,ST⟩
        case measure=>simp [intOf];omega
      ·obtain rfl:i=m:=by omega
       have ST:=Hh (mO (by rw [HL.out];exact hs.out) HJ.out);clear hs;go_wp2
       go_roundw
       case rel=>exact ⟨j+1,by omega,by go_num,bw,ST⟩
       case measure=>simp [intOf];omega
    ·obtain rfl:j=k:=by omega
     have nc:=CE.out hs;have NC:=Hh (show ¬ 0<=cn by omega);clear nc hs TC CH CE;have B0:=bw;go_wp2
     go_loopw [9] (fun i wr=>∃ k:Nat,k<=j/\i = .int .i64 k/\Hid (Below w.heap.size w wr)/\Hid (kS (pg L) L k)) (fun i _=>j - (intOf i).toNat)
     case atStart=>exact ⟨0,bt _,rfl,B0,ahead_zero⟩
     case round =>
      clear bw B0 hlt;obtain ⟨k,hk,rfl,bw,hs⟩:=hrel
      by_cases hlt:k < j
      ·obtain ⟨b,off,rfl,A⟩:=HA (by omega)
       obtain ⟨u,c,a',cap',rfl,_,hm',hA'⟩:=A k hlt;have HC:=Hh c;have HA':=Hh hA';have HAA:=Hh A;have HJ:=Hh (show k < L.length by rw [HN.out];exact hlt);have lc:=bj _ _ c;have c0:wr.cell? ⟨b,off+k,none⟩=_:=(bw.cell lc).trans c;clear hA' c A;unfold maxLen at hm';generalize hl:(bQ L k).length=m at *;have HL:=Hh hl;clear hl;have W0:=Hh (kW hs);have B1:=bw;clear hs;go_wp2
       go_loopw [10] (fun i wr=>∃ i':Nat,i'<=m/\i = .int .i64 i'/\Hid (Below w.heap.size w wr)/\Hid (jf (pg L) L k i')) (fun i _=>m - (intOf i).toNat)
       case atStart=>exact ⟨0,bt _,rfl,B1,W0⟩
       case round =>
        clear c0 bw B1 W0;obtain ⟨i,hi,rfl,bw,hs⟩:=hrel;have c':wr.cell? ⟨b,off+k,none⟩=_:=(bw.cell lc).trans HC
        by_cases hit:i < m
        ·obtain ⟨b',off',rfl,A'⟩:=HA' (by omega)
         have kD:=rZ A' i (by rw [HL.out];exact hit);rw [show (bQ L k).getD i z5=bF (bQ L k) i from rfl] at kD;have YES:=Hh (fun h=>GH k i hs (by have:=HJ.out;rw [HN.out] at this;exact this) (by rw [HL.out];exact hit) h);have NO:=Hh (fun h=>kL hs (by rw [HL.out];exact hit) h);have PI:=acA L k (bF (bQ L k) i);have HAA':=Hh A';clear A' hs;generalize bF (bQ L k) i=x at *;have SJ:=Hh (SC wr (.slice (some ⟨b,off,none⟩) j cap) L x.2.1 (RL.below bw));obtain ⟨x1,x2,x3,x4,x5⟩:=x;simp only at PI kD SJ;generalize pg L k (x1,x2,x3,x4,x5)=q at *;generalize sN x2 L=sn at *;generalize sE x2 L=se at *;obtain ⟨i0,i1,_,_,_⟩:=kD;have l0:b' < w.heap.size:=bj _ _ i0;have k1:wr.cell? ⟨b',off'+i * 5+1,none⟩=_:=(bw.cell l0).trans i1;have I0:=Hh i0;have P:=Hh PI;clear PI i0 i1;unfold eF ent at SJ;go_wp2_with fail;refine SJ.mono ?_;rintro e4 w4 ⟨rfl,b4⟩;have bb:=b4.alloc b4.size (.cells #[.int .i64 se.1,.int .i64 se.2.1,.int .i64 se.2.2.1,.int .i64 se.2.2.2.1,.int .i64 se.2.2.2.2] 170);have BB:=aR bw bb;clear b4 bb SJ bw c' k1;go_upto_region 22 with fail;generalize w4.alloc (.cells #[.int .i64 se.1,.int .i64 se.2.1,.int .i64 se.2.2.1,.int .i64 se.2.2.2.1,.int .i64 se.2.2.2.2] 170)=wB at *;have c':=(BB.cell lc).trans HC;have k0:=(BB.cell l0).trans I0
         by_cases h1:x1=2
         ·by_cases h2:sn < 0
          ·have Y:=YES.out (by rw [P.out,bi h1,bi h2];rfl)
           have T:=Hh (fun w' hb=>TG w' NB NC (by rw [Y];omega) hb);rw [Y] at T;have h1':(x1 == 2)=true:=by simpa using h1
           have h2':decide (sn < 0)=true:=bi h2;clear Y YES NO P h1 h2;go_wp2
           go_ret2
           exact T _ BB
          ·have ST:=Hh (NO (by rw [P.out,ai h2,Bool.and_false]))
           have h1':(x1 == 2)=true:=by simpa using h1
           have h2':decide (sn < 0)=false:=ai h2;clear YES NO P h1 h2;go_wp2
           go_roundw
           case rel=>exact ⟨i+1,by omega,by go_num,BB,ST⟩
           case measure=>simp [intOf];omega
         ·have ST:=Hh (NO (by rw [P.out,ai h1,Bool.false_and]))
          have h1':(x1 == 2)=false:=by simpa using h1
          clear YES NO P h1;go_wp2
          go_roundw
          case rel=>exact ⟨i+1,by omega,by go_num,BB,ST⟩
          case measure=>simp [intOf];omega
        ·obtain rfl:i=m:=by omega
         have ST:=Hh (mO (by rw [HL.out];exact hs.out) HJ.out);clear hs;go_wp2
         go_roundw
         case rel=>exact ⟨k+1,by omega,by go_num,bw,ST⟩
         case measure=>simp [intOf];omega
      ·obtain rfl:k=j:=by omega
       have ng:=GE.out hs;have T:=Hh (fun w' hb=>TO w' NB NC (by omega) hb);go_wp2
       go_ret2
       exact T _ bw
end Ck
namespace Cu
open Go.Maps
open Ck (vP)
open Pa (hr hb hq)
attribute [local irreducible] Sd.aW wpQuiet
def AV (F:Nat->Prop) (q:Option Nat) (ps:List Nat) (i j:Nat):Prop:=F j\/q=some j\/∃ m,m < ps.length/\m≠i/\ps.getD m 0=j
def AN (F:Nat->Prop) (q:Option Nat) (ps:List Nat) (j:Nat):Prop:=F j\/q=some j\/∃ m,m < ps.length/\ps.getD m 0=j
section
variable {E:TypeId} {w wr w1 w2:World} {F:Nat->Prop} {S:bO} {k:Nat} {o o':Value} {ps:List Nat} {g:Nat}
structure PR (E:TypeId) (w:World) (F:Nat->Prop) (S:bO) (k:Nat) (o:Value) (ps:List Nat) (wr:World):Prop where
 own:Ow KN wr w.heap.size E o ps
 len:ps.length=k
 each:∀ i,i < k->Rs wr (ps.getD i 0) (AV F o.ownBlock ps i) (sat S i).1 (sat S i).2
 lo:∀ i,i < k->w.heap.size<=ps.getD i 0
 lt:∀ i,i < k->ps.getD i 0 < wr.heap.size
 aG:Below w.heap.size w wr
structure PN (E:TypeId) (w:World) (F:Nat->Prop) (S:bO) (k:Nat) (o:Value) (ps:List Nat) (g:Nat) (wr:World):Prop where
 own:Ow KN wr w.heap.size E o ps
 len:ps.length=k
 each:∀ i,i < k->Rs wr (ps.getD i 0) (fun j=>AV F o.ownBlock ps i j\/j=g) (sat S i).1 (sat S i).2
 lo:∀ i,i < k->w.heap.size<=ps.getD i 0
 lt:∀ i,i < k->ps.getD i 0 < wr.heap.size
 aG:Below w.heap.size w wr
 new:Rs wr g (AN F o.ownBlock ps) (sat S k).1 (sat S k).2
 ng:w.heap.size<=g
 lg:g < wr.heap.size
variable {r:Nat} {A:aP} {d:Int}
theorem LG (h:Rs w r F A d):r < w.heap.size:=by obtain ⟨_,_,h,_⟩:=h;exact bm h.row
theorem PR.made (hb:Below w.heap.size w wr):PR E w F S 0 (.slice (some ⟨wr.heap.size,0,none⟩) 0 0) [] (wr.alloc (.cells #[] E)):=⟨Rw.Ow.made _ _ _ hb.size,rfl,fun i hi=>by omega,fun i hi=>by omega,fun i hi=>by omega,hb.alloc hb.size _⟩
theorem PR.below (h:PR E w F S k o ps wr) (b:Below wr.heap.size wr w1):PR E w F S k o ps w1:=⟨h.own.keep b,h.len,fun i hi=>Fs.Rs.below (h.each i hi) b,h.lo,fun i hi=>cd (h.lt i hi) b.size,h.aG.trans (b.mono h.aG.size)⟩
theorem PR.Di (h:PR E w F S k o ps wr):∀ k,o.ownBlock=some k->k < wr.heap.size:=fun k e=>(ci h.own k e).2
theorem PR.an (hF:∀ j,F j->j < w.heap.size) (h:PR E w F S k o ps wr):∀ j,AN F o.ownBlock ps j->j < wr.heap.size:=fun j g=>by
 rcases g with g | g | ⟨m,hm,rfl⟩
 ·exact cd (hF j g) h.aG.size
 ·exact h.Di j g
 ·exact h.lt m (by rw [← h.len];exact hm)
theorem PR.src (h:PR E w F S k o ps wr) {w0:World} (h0:Rs w0 r F A d) (b0:Below w0.heap.size w0 wr) (hz:w0.heap.size<=w.heap.size):Rs wr r (AN F o.ownBlock ps) A d:=by
 refine eD (Fs.Rs.only h0 (Only.of_below b0)) fun j hj g=>?_
 rcases g with g | g | ⟨m,hm,rfl⟩
 ·exact .inl g
 ·have:=(ci h.own j g).1
  exact .inr ⟨by omega,hj⟩
 ·have:=h.lo m (by rw [← h.len];exact hm)
  exact .inr ⟨by omega,hj⟩
theorem PR.pend (h:PR E w F S k o ps wr) (b:Below wr.heap.size wr w1) (r:Rs w1 g (AN F o.ownBlock ps) (sat S k).1 (sat S k).2) (hg:wr.heap.size<=g):PN E w F S k o ps g w1:=by
 have hl:=LG r;have hz:=h.aG.size;refine ⟨h.own.keep b,h.len,fun i hi=>?_,h.lo,fun i hi=>cd (h.lt i hi) b.size,h.aG.trans (b.mono hz),r,by omega,hl⟩;refine eD (Fs.Rs.only (h.each i hi) (Only.of_below b)) fun j hj q=>?_
 rcases q with q | q
 ·exact .inl q
 ·subst q;exact .inr ⟨hg,hj⟩
theorem PN.below (h:PN E w F S k o ps g wr) (b:Below wr.heap.size wr w1):PN E w F S k o ps g w1:=⟨h.own.keep b,h.len,fun i hi=>Fs.Rs.below (h.each i hi) b,h.lo,fun i hi=>cd (h.lt i hi) b.size,h.aG.trans (b.mono h.aG.size),Fs.Rs.below h.new b,h.ng,cd h.lg b.size⟩
theorem PN.push (h:PN E w F S k o ps g wr) (own:Ow KN w1 w.heap.size E o' (ps ++ [g])) (gr:wr.grownBy w1 o.ownBlock) (hq:o'.ownBlock=o.ownBlock\/∃ g,o'.ownBlock=some g/\wr.heap.size<=g):PR E w F S (k+1) o' (ps ++ [g]) w1:=by
 have hl:∀ j,o'.ownBlock=some j->j < w1.heap.size:=fun j e=>(ci own j e).2;have oq:=aQ gr;have at_old:∀ i,i < k->(ps ++ [g]).getD i 0=ps.getD i 0:=fun i hi=>by rw [af,fS (by rw [h.len];exact hi),af]
 have at_new:(ps ++ [g]).getD k 0=g:=by rw [af,fk (by rw [h.len];exact ac _),h.len];simp
 have list:∀ (G:Nat->Prop) j,(∀ j,o.ownBlock=some j->G j)->o'.ownBlock=some j->Fx G wr w1 j:=fun G j hG e=>by
  rcases hq with q | ⟨x,q,hx⟩
  ·exact .inl (hG j (by rw [← q];exact e))
  ·rw [q] at e
   injection e with e;subst e;exact .inr ⟨hx,hl _ q⟩
 refine ⟨own,by rw [cI,h.len];rfl,fun i hi=>?_,fun i hi=>?_,fun i hi=>?_,h.aG.grown gr h.aG.size fun j e=>(ci h.own j e).1⟩
 ·by_cases e:i=k
  ·subst e
   rw [at_new];refine eD (Fs.Rs.only h.new (oq.mono fun j _ e=>.inr (.inl e))) fun j hj q=>?_
   rcases q with q | q | ⟨m,hm,hne,rfl⟩
   ·exact .inl (.inl q)
   ·exact list _ j (fun j e=>.inr (.inl e)) q
   ·rw [cI,h.len] at hm
    simp only [dv,dy] at hm;rw [at_old m (by omega)];exact .inl (.inr (.inr ⟨m,by rw [h.len];omega,rfl⟩))
  ·rw [at_old i (by omega)]
   refine eD (Fs.Rs.only (h.each i (by omega)) (oq.mono fun j _ e=>.inl (.inr (.inl e)))) fun j hj q=>?_
   rcases q with q | q | ⟨m,hm,hne,rfl⟩
   ·exact .inl (.inl (.inl q))
   ·exact list _ j (fun j e=>.inl (.inr (.inl e))) q
   ·rw [cI,h.len] at hm
    simp only [dv,dy] at hm
    by_cases em:m=k
    ·subst em;rw [at_new];exact .inl (.inr rfl)
    ·rw [at_old m (by omega)]
     exact .inl (.inl (.inr (.inr ⟨m,by rw [h.len];omega,hne,rfl⟩)))
 ·by_cases e:i=k
  ·subst e;rw [at_new];exact h.ng
  ·rw [at_old i (by omega)];exact h.lo i (by omega)
 ·by_cases e:i=k
  ·subst e;rw [at_new];exact cd h.lg gr.size
  ·rw [at_old i (by omega)];exact cd (h.lt i (by omega)) gr.size
end
def RfF (w:World) (F:Nat->Prop) (v:Value) (S:bO):Prop:=∃ ps:List Nat,Rd KN w v ps/\ps.length=S.length/\∀ i,i < S.length->Rs w (ps.getD i 0) F (sat S i).1 (sat S i).2
variable {w:World} {F:Nat->Prop} {v vs vt vl:Value} {S:bO}
theorem RfF.ac2 (h:RfF w F v S):Rfl w v S:=by
 obtain ⟨ps,h1,h2,h3⟩:=h;exact ⟨ps,h1,h2,fun i hi=>eD (h3 i hi) nofun⟩
theorem RfF.one (h:RfF w F v S) {k:Nat} (hk:k < S.length):∃ b off cap s,v = .slice (some ⟨b,off,none⟩) S.length cap/\w.cell? ⟨b,off+k,none⟩=some (ptr s)/\Rs w s F (sat S k).1 (sat S k).2:=by
 obtain ⟨ps,⟨a,cap,e,_,_,h3⟩,h2,hs⟩:=h;obtain ⟨b,off,rfl,hA⟩:=h3 (by omega);exact ⟨b,off,cap,_,by rw [e,h2],U1 hA (by omega),hs k hk⟩
def RrP (w:World) (F:Nat->Prop) (E:Int) (S':bO) (e:Ending) (w':World):Prop:=∃ v ps,e = .returned (.tuple #[v,.int .i64 E])/\(E=0->PR 51 w F S' S'.length v ps w')/\Below w.heap.size w w'
theorem PR.low {E:TypeId} {w w0 wr:World} {F:Nat->Prop} {S:bO} {k:Nat} {o:Value} {ps:List Nat} (h:PR E w F S k o ps wr) (hz:w0.heap.size<=w.heap.size) (b:Below w0.heap.size w0 wr):PR E w0 F S k o ps wr:=⟨h.own.low hz,h.len,h.each,fun i hi=>cG hz (h.lo i hi),h.lt,b⟩
theorem Eo (hF:∀ j,F j->j < w.heap.size) {vp:Value} {T:LL} {V:List Bool} {P:List S2} (HF:RfF w F vs S) (HT:jK w vt T) (HV:Rd KB w vl V) (RP:Rd K2 w vp P) (hd:∀ i,i < S.length->0<=(sat S i).2/\(sat S i).2 < 900000) :
 Calls prog 67 #[vs,vt,vl,vp] w (RrP w F (gM S T V) (mF S T V P)):=by
 have HS:=HF.ac2;have HFF:=Hh HF;have hFF:=Hh hF;have TA:=Hh (vP w vt T HT);unfold fI at TA;have NO:Hid (¬ (1<=S.length/\S.length<=32/\T.length=S.length/\V.length=S.length)->gM S T V=1/\(1:Int)≠0):=Hh (fun h=>⟨aq h,by decide⟩);have YES:Hid ((1<=S.length/\S.length<=32/\T.length=S.length/\V.length=S.length)->gM S T V=tE T):=Hh (fun h=>aw h);have LL0:Hid (gM S T V=0->mF S T V P=wh S T V (hr S T V P)):=Hh (fun h=>aw h);have FIN:Hid (∀ E,gM S T V=E/\E≠0->∀ w',Below w.heap.size w w'->RrP w F (gM S T V) (mF S T V P) (.returned (.tuple #[.slice none 0 0,.int .i64 E])) w'):=Hh (fun E h w' b=>⟨_,[],by rw [h.1],fun e=>absurd (h.1.symm.trans e) h.2,b⟩);obtain ⟨sa,cs,rfl,ms⟩:=HS.slice;obtain ⟨ta,ct,rfl,mt⟩:=HT.slice;obtain ⟨la,cl,rfl,ml⟩:=HV.slice;unfold maxLen at ms mt ml;have HS0:=Hh HS;have HT0:=Hh HT;have HV0:=Hh HV;have RP0:=Hh RP;have DD:=Hh hd;clear HS HT HV RP hd HF hF
 by_cases h1:S.length < 1
 ·have N2:=Hh (FIN 1 (NO (by omega)) w (aa _ _))
  clear NO YES LL0 FIN;generalize gM S T V=a1 at *;generalize mF S T V P=a2 at *;generalize S.length=n at *;generalize T.length=nt at *;generalize V.length=nv at *
  go_enter func67,ntmps67
  go_wp2
  go_ret2
  exact N2
 ·by_cases h2:32 < S.length
  ·have N2:=Hh (FIN 1 (NO (by omega)) w (aa _ _))
   clear NO YES LL0 FIN;generalize gM S T V=a1 at *;generalize mF S T V P=a2 at *;generalize S.length=n at *;generalize T.length=nt at *;generalize V.length=nv at *
   go_enter func67,ntmps67
   go_wp2
   go_ret2
   exact N2
  ·by_cases h3:T.length=S.length
   ·by_cases h4:V.length=S.length
    ·have YE:=Hh (YES ⟨by omega,by omega,h3,h4⟩)
     by_cases hE:tE T=0
     ·have EL:=Hh (LL0 (by rw [YE.out];exact hE))
      have NS:Hid (Nr w (.slice sa S.length cs) (.slice ta T.length ct) (.slice la V.length cl) S T V):=Hh ⟨HS0,HT0,HV0,h3,h4,hE⟩;have HD:=Hh (fun W b=>ze (NS.below (w':=W) b) (RP0.below b));have EZ:gM S T V=0:=by rw [YE.out];exact hE
      have OH:=Hh (xI S T V P);have AT:=Hh (fun i hi=>ny S T V (hr S T V P) (i:=i) hi);have RL:=Hh (gZ S T V (hr S T V P));rw [EZ,EL.out];rw [hE] at TA;unfold wX at HD;clear NO YES LL0 FIN YE EL EZ;generalize hr S T V P=h at *;generalize wh S T V h=S' at *;generalize tN T=tn at *;rw [h3,h4] at NS HD ⊢;rw [h3] at HT0 TA;rw [h4] at HV0;have H3:=Hh h3;have H4:=Hh h4;clear h3 h4 hE;generalize hn:S.length=n at *;have HN:=Hh hn;clear hn
      go_enter func67,ntmps67
      go_wp2_with fail;refine TA.mono ?_;rintro e w1 ⟨rfl,b1⟩;have B1:=Hh b1;clear b1 TA;go_wp2_with fail;refine (HD w1 B1).mono ?_;rintro e w2 ⟨rfl,b2⟩;have B2':=aR B1 b2;have B2:=Hh (B2'.alloc B2'.size (.cells (kJ (hb h) (hq h)) 179));have Y2:=Hh (eH.new w2 (hb h) (hq h));clear b2 B1 HD B2';have hgy:=Y2.lt
      go_upto_region 7 with ((with_reducible refine qU (o:=⟨none,_,_,_,_,_⟩) rfl _ _ rfl (hb h) (hq h) ?_ ?_ ?_);(exact rfl);(exact rfl))
      generalize (w2.alloc (.cells (kJ (hb h) (hq h)) 179))=W2 at *;generalize w2.heap.size=gy at *;have P0:Hid (PR 51 W2 F S' 0 (.slice (some ⟨W2.heap.size,0,none⟩) 0 0) [] (W2.alloc (.cells #[] 51))):=Hh (PR.made (aa _ _));go_wp2;generalize (W2.alloc (.cells #[] 51))=W3 at *
      go_loopw [14,13] (fun i o wr=>∃ (k:Nat) (ps:List Nat),k<=n/\i = .int .i64 k/\Hid (PR 51 W2 F S' k o ps wr)) (fun i _ _=>n - (intOf i).toNat)
      case atStart=>exact ⟨0,[],bt _,rfl,P0⟩
      case round =>
       obtain ⟨k,ps,hk,rfl,I⟩:=hrel;clear P0;obtain ⟨av,cv,ev,_⟩:=I.own.slice;have OWN:=Hh I.own;generalize ps.length=Lp at ev;subst ev;have BI:=Hh (B2.trans (I.aG.mono B2.size))
       by_cases hlt:k < n
       ·obtain ⟨b1,o1,c1,s,e1,cS,hS⟩:=HFF.one (k:=k) (by have:=HN.out;omega)
        rw [HN.out] at e1;injection e1 with e1 _ e2;subst e1 e2;obtain ⟨b2,o2,c2,at',ct',e2,cT,_,_⟩:=NS.tb.one (k:=k) (by have:=H3.out;omega);have RT:=Hh (NS.tb.rd (k:=k) (by have:=H3.out;omega) e2 cT);rw [H3.out] at e2;injection e2 with e2 _ e3;subst e2 e3;obtain ⟨a3,c3,e3,_,_,hv3⟩:=NS.lv;rw [H4.out] at e3;injection e3 with e3 _ e4;subst e3 e4;obtain ⟨b3,o3,rfl,A3⟩:=hv3 (by have:=H4.out;omega);have cV:=Mf (A3.below BI) (i:=k) (by have:=H4.out;omega);rw [show V.getD k false=bU V k from rfl] at cV;have EA:=Hh (AT k (by have:=HN.out;omega));have OKT:=Hh (mD NS.ok (k:=k) (by have:=H3.out;omega));have ML:=Hh (jg (iQ (pN NS.ok) k (by have:=H3.out;omega)));have HS2:=Hh hS;have hzz:=B2.size;have HZ:=Hh hzz;clear hS hv3 A3 hzz;unfold ptr at cS;have CS:=Hh cS;have CT:=Hh cT;have lS:=bj _ _ cS;have lT:=bj _ _ cT;clear cS cT
        cases hv:bU V k with
        | true =>
          rw [hv] at cV;rw [hv,aw rfl] at EA;generalize hlk:(bQ T k).length=lk at *;go_upto_region 12 with fail;clear cV;have sS:=Sc.ay (C:=fun W=>Below w.heap.size w W) (a:=⟨b1,o1+k,none⟩) (fun W' h=>(h.cell lS).trans CS);have sT:=Sc.ay (C:=fun W=>Below w.heap.size w W) (a:=⟨b2,o2+k,none⟩) (fun W' h=>(h.cell lT).trans CT);have BD:=Hh (BI.trans ((aa wr.heap.size wr).drew.mono BI.size));have ne:Nonempty (Sc.In (fun W=>Below w.heap.size w W)):=⟨⟨_,BD⟩⟩;have ID:=Hh (I.below ((aa wr.heap.size wr).drew));refine Sc.start (fun W=>Below w.heap.size w W) [(false,0),(false,1),(false,2),(false,3),(false,4),(false,5),(false,6),(false,7),(false,8),(true,9),(true,10),(true,11),(true,12),(false,13)] (by kernel_rfl) (by kernel_rfl) (by kernel_rfl) BD ?_;dsimp only [Sd.aM,List.getElem?_cons_succ,List.getElem?_cons_zero]
          repeat (refine Sd.lit ?_;quiet_step (fail);refine bk ?_)
          clear sS sT;have YD:=Hh (Y2.below ID.aG hgy);generalize wr.drew=Wd at *;refine Sd.call (by rfl) (fun K hK=>?_);refine wp_load_row 179 _ rfl gy rfl _ _ _ _ YD underlying179 rfl (Et _ _) ?_;refine hK _ _ (Sc.Cl.of BD) ?_;clear hK K;have AP:=Hh (yg (w:=Wd) (r0:=s) (F:=AN F (Value.slice av Lp cv).ownBlock ps) (x:=sat S k) (ID.src HS2 BD HZ) (ID.an fun j e=>cd (hFF j e) HZ) (DD k (by omega)) (RT.out.below BD.out) (fun y hy=>(OKT.out y hy).1) (by have:=ML.out;omega) OH.out);unfold qM at AP;refine Sd.call (by rfl) (fun K hK=>?_);go_simp;refine AP.mono ?_;rintro e w5 ⟨g,rfl,rs5,ng5,b5⟩;have B5:=aR BD b5;refine hK _ _ (Sc.Cl.of B5) ?_;clear hK K;unfold ptr;refine Sd.call (by rfl) (fun K hK=>?_);go_simp;have LN:=Hh I.len;have I5:=Hh ((ID.pend b5 (by rw [EA.out];exact rs5) ng5).below ((aa w5.heap.size w5).alloc (ac _) (.cells #[.pointer (some ⟨g,0,none⟩)] 51)));have N6:=Hh (bh w5 (.cells #[.pointer (some ⟨g,0,none⟩)] 51));have B6:=Hh (B5.alloc B5.size (.cells #[.pointer (some ⟨g,0,none⟩)] 51));refine hK _ _ (Sc.Cl.of B6) ?_;clear hK K rs5 ng5 b5 I OWN AP ID BD YD;generalize w5.heap.size=g5 at *;generalize (w5.alloc (.cells #[.pointer (some ⟨g,0,none⟩)] 51))=W6 at *;refine Sd.call (by rfl) (fun K hK=>?_);refine bT (K:=KN) underlying34 Sk rfl (by omega) _ _ rfl W2.heap.size _ _ rfl I5.out.own _ g rfl ?d1 ?d2 ?d3 ?_
          case d1 =>
           intro j u hu
           match j,hu with
           | 0,hu=>simp [KN] at hu;subst hu;exact ah N6.out 0
           | j+1,hu=>simp [KN] at hu
          case d2=>rw [LN.out];omega
          case d3=>have:=I5.aG.size;exact this
          intro v' w6 o6 g6 h6
          have NEW:=Hh (I5.push o6 g6 h6);refine hK _ _ (Sc.Cl.of (B2.trans (NEW.aG.mono B2.size))) ?_;clear hK K o6 g6 h6 I5 LN B5 B6 N6;obtain ⟨av',cv',ev',_⟩:=NEW.own.slice;generalize (ps ++ [g]).length=Lp' at ev';subst ev'
          repeat (refine Sd.lit ?_;quiet_step (fail);refine bk ?_)
          refine Sd.done ?_;go_wp2
          go_roundw
          case rel=>exact ⟨k+1,ps ++ [g],by omega,by go_num,NEW⟩
          case measure=>simp [intOf];omega
        | false =>
          rw [hv] at cV;rw [hv,aq eA] at EA;have cS:=(BI.cell lS).trans CS;have RC:=Hh (sJ (w:=wr) (r:=s) (F:=AN F (Value.slice av Lp cv).ownBlock ps) (x:=sat S k) (I.src HS2 BI HZ) (I.an fun j e=>cd (hFF j e) HZ));unfold rM at RC;go_wp2_with fail;refine RC.mono ?_;rintro e w5 ⟨g,rfl,rs5,ng5,b5⟩;have LN:=Hh I.len;have I5:=Hh ((I.pend b5 (by rw [EA.out];exact rs5) ng5).below ((aa w5.heap.size w5).alloc (ac _) (.cells #[.pointer (some ⟨g,0,none⟩)] 51)));clear rs5 ng5 b5 I OWN RC cS cV
          (try unfold ptr)
          go_wp2_with (at_builtin;refine bX (K:=KN) underlying34 Sk rfl (by omega) rfl _ _ rfl W2.heap.size _ _ rfl I5.out.own _ g rfl ?d1 ?d2 ?d3 ?_)
          case d1 =>
           intro j u hu
           match j,hu with
           | 0,hu=>simp [KN] at hu;subst hu;unfold ptr;go_simp
           | j+1,hu=>simp [KN] at hu
          case d2=>rw [LN.out];omega
          case d3=>have:=I5.aG.size;exact this
          intro v' w6 o6 g6 h6
          have NEW:=Hh (I5.push o6 g6 (by simpa using h6));clear o6 g6 h6 I5 LN;obtain ⟨av',cv',ev',_⟩:=NEW.own.slice;generalize (ps ++ [g]).length=Lp' at ev';subst ev';go_wp2
          go_roundw
          case rel=>exact ⟨k+1,ps ++ [g],by omega,by go_num,NEW⟩
          case measure=>simp [intOf];omega
       ·obtain rfl:k=n:=by omega
        have RES:Hid (RrP w F 0 S' (.returned (.tuple #[.slice av Lp cv,.int .i64 0])) wr):=Hh ⟨_,ps,rfl,fun _=>by rw [RL.out];exact I.out.low B2.out.size BI.out,BI.out⟩;clear I OWN;go_wp2
        go_ret2
        exact RES
     ·have N2:=Hh (fun w' b=>FIN (tE T) ⟨YE,hE⟩ w' b)
      have hne:(tE T != 0)=true:=by simpa using hE
      clear NO YES LL0 FIN YE hE HS0 HT0 HV0 DD;rw [h3,h4];generalize gM S T V=a1 at *;generalize mF S T V P=a2 at *;generalize S.length=n at *;generalize tE T=te at *;generalize tN T=tn at *;rw [h3] at TA;clear h3 h4
      go_enter func67,ntmps67
      go_wp2_with fail;refine TA.mono ?_;rintro e w1 ⟨rfl,b1⟩;have N3:=Hh (N2 w1 b1);clear b1 N2 TA;go_wp2
      go_ret2
      exact N3
    ·have N2:=Hh (FIN 1 (NO (by rintro ⟨_,_,_,h⟩;exact h4 h)) w (aa _ _))
     clear NO YES LL0 FIN HS0 HT0 HV0 DD TA;rw [h3];clear h3;generalize gM S T V=a1 at *;generalize mF S T V P=a2 at *;generalize S.length=n at *;generalize V.length=nv at *;have h5:((nv:Int) != (n:Int))=true:=by simp;omega
     go_enter func67,ntmps67
     go_wp2
     go_ret2
     exact N2
   ·have N2:=Hh (FIN 1 (NO (by rintro ⟨_,_,h,_⟩;exact h3 h)) w (aa _ _))
    clear NO YES LL0 FIN HS0 HT0 HV0 DD TA;generalize gM S T V=a1 at *;generalize mF S T V P=a2 at *;generalize S.length=n at *;generalize T.length=nt at *;generalize V.length=nv at *;have h5:((nt:Int) != (n:Int))=true:=by simp;omega
    go_enter func67,ntmps67
    go_wp2
    go_ret2
    exact N2
end Cu
namespace Cu
open Go.Maps
def Gz (F:Nat->Prop) (r p:Nat) (vl:Value) (j:Nat):Prop:=F j\/j=r\/j=p\/vl.ownBlock=some j
structure Rz (B:Nat) (F:Nat->Prop) (r:Nat) (c:Cs) (t:Nat) (vs:Value) (ps:List Nat) (vl:Value) (p:Nat) (vq:Value) (w:World):Prop where
 row:w.heap[r]? = some (.cells #[vs,vl,.pointer (some ⟨p,0,none⟩),.int .i64 c.pl,vq] 39 (0,0))
 so:Ow KN w B 51 vs ps
 sl:ps.length=c.S.length
 st:∀ i,i < ps.length->Rs w (ps.getD i 0) (AV (Gz F r p vl) vs.ownBlock ps i) (sat c.S i).1 (sat c.S i).2
 WG:∀ i,i < ps.length->B<=ps.getD i 0
 lv:Ow KB w B 4 vl c.V
 pr:Pf w p c.P t
 sp:Ow K2 w B 95 vq c.Q
 lo:B<=r/\B<=p
 nr:¬ F r
 np:¬ F p
 nv:∀ k,vs.ownBlock=some k\/vl.ownBlock=some k\/vq.ownBlock=some k->¬ F k
 low:∀ k,F k->k < w.heap.size
section
variable {B r t p:Nat} {F G:Nat->Prop} {c:Cs} {vs vl vq:Value} {ps:List Nat} {w w':World}
theorem Rz.QY (h:Rz B F r c t vs ps vl p vq w):r < w.heap.size:=bm h.row
theorem Rz.plt (h:Rz B F r c t vs ps vl p vq w):p < w.heap.size:=h.pr.lt
theorem Rz.Yo (h:Rz B F r c t vs ps vl p vq w):∀ k,vs.ownBlock=some k\/vl.ownBlock=some k\/vq.ownBlock=some k->B<=k/\k < w.heap.size:=fun k g=>by
 rcases g with g | g | g
 ·exact ci h.so k g
 ·exact ci h.lv k g
 ·exact ci h.sp k g
theorem Up {a:Wt.A} (h:Pf w p a t):∃ cs,w.heap[p]? = some (.cells cs 56 (0,0)):=by obtain ⟨_,_,_,_,h,_⟩:=h;exact ⟨_,h⟩
theorem Rz.rp (h:Rz B F r c t vs ps vl p vq w):r≠p:=fun e=>by
 obtain ⟨cs,hp⟩:=Up h.pr;have:=h.row;rw [e,hp] at this;injection this with this;injection this with _ h2 _;exact absurd h2 (by decide)
theorem Rz.vr (h:Rz B F r c t vs ps vl p vq w):vs.ownBlock≠some r/\vl.ownBlock≠some r/\vq.ownBlock≠some r:=⟨h.so.apart h.row (by decide),h.lv.apart h.row (by decide),h.sp.apart h.row (by decide)⟩
theorem Rz.vp (h:Rz B F r c t vs ps vl p vq w):vs.ownBlock≠some p/\vl.ownBlock≠some p/\vq.ownBlock≠some p:=by
 obtain ⟨cs,hp⟩:=Up h.pr;exact ⟨h.so.apart hp (by decide),h.lv.apart hp (by decide),h.sp.apart hp (by decide)⟩
theorem Rz.only (h:Rz B F r c t vs ps vl p vq w) (o:Only F w w'):Rz B (Fx F w w') r c t vs ps vl p vq w':=by
 refine ⟨(o.block r h.QY h.nr).trans h.row,aC h.so (fun k e=>h.nv k (.inl e)) o,h.sl,fun i hi=>?_,h.WG,aC h.lv (fun k e=>h.nv k (.inr (.inl e))) o,h.pr.only o h.np,aC h.sp (fun k e=>h.nv k (.inr (.inr e))) o,h.lo,Fx.not h.nr h.QY,Fx.not h.np h.plt,fun k e=>Fx.not (h.nv k e) (h.Yo k e).2,Fx.low h.low o.size⟩;refine eD (Fs.Rs.only (h.st i hi) (o.mono fun k _ g=>.inl (.inl g))) fun k hk g=>?_
 rcases g with (g | g) | g
 ·rcases g with g | g
  ·exact .inl (.inl (.inl g))
  ·exact .inr g
 ·exact .inl (.inl (.inr g))
 ·exact .inl (.inr g)
theorem Rz.below (h:Rz B F r c t vs ps vl p vq w) (b:Below w.heap.size w w'):Rz B F r c t vs ps vl p vq w' :=
 ⟨(b.block r h.QY).trans h.row,h.so.keep b,h.sl,fun i hi=>Fs.Rs.below (h.st i hi) b,h.WG,h.lv.keep b,h.pr.below b,h.sp.keep b,h.lo,h.nr,h.np,h.nv,fun k g=>cd (h.low k g) b.size⟩
variable {i t':Nat}
theorem Rz.wG (h:Rz B F r c t vs ps vl p vq w) (hi:i < ps.length) (o:Only G w w') (hG:∀ k,G k->AV (Gz F r p vl) vs.ownBlock ps i k):Rs w' (ps.getD i 0) (AV (Gz F r p vl) vs.ownBlock ps i) (sat c.S i).1 (sat c.S i).2 :=
 eD (Fs.Rs.only (h.st i hi) (o.mono fun k _ g=>hG k g)) fun _ _ g=>.inl g
theorem Rz.JY (h:Rz B F r c t vs ps vl p vq w) (hi:i < ps.length):¬ AV (Gz F r p vl) vs.ownBlock ps i (ps.getD i 0):=by obtain ⟨_,_,hh,_⟩:=h.st i hi;exact hh.off
theorem Rz.pair (h:Rz B F r c t vs ps vl p vq w) {P:Wt.A} (o:Only (fun k=>k=p) w w') (hp:Pf w' p P t'):Rz B F r { c with P:=P } t' vs ps vl p vq w' :=
 ⟨(o.block r h.QY h.rp).trans h.row,aC h.so (fun k e g=>h.vp.1 (by rw [e,g])) o,h.sl,fun i hi=>h.wG hi o (fun k g=>.inl (.inr (.inr (.inl g)))),h.WG,aC h.lv (fun k e g=>h.vp.2.1 (by rw [e,g])) o,hp,aC h.sp (fun k e g=>h.vp.2.2 (by rw [e,g])) o,h.lo,h.nr,h.np,h.nv,fun k g=>cd (h.low k g) o.size⟩
theorem Rz.cell (h:Rz B F r c t vs ps vl p vq w) (k:Nat) (u:Value) {c':Cs} {vq':Value} (hrow:(#[vs,vl,.pointer (some ⟨p,0,none⟩),.int .i64 c.pl,vq]:Array Value).setIfInBounds k u=#[vs,vl,.pointer (some ⟨p,0,none⟩),.int .i64 c'.pl,vq']) (hS:c'.S=c.S) (hV:c'.V=c.V) (hP:c'.P=c.P) (hq:Ow K2 w B 95 vq' c'.Q) (hn:∀ k,vq'.ownBlock=some k->¬ F k):Rz B F r c' t vs ps vl p vq' (w.setCell ⟨r,k,none⟩ u):=by
 have o:=Only.set (fun k=>k=r) w (a:=⟨r,k,none⟩) rfl u;have rw_:=Rw.heap_setCell_same (j:=k) h.row u;rw [hrow] at rw_;refine ⟨rw_,aC h.so (fun k e g=>h.vr.1 (by rw [e,g])) o,by rw [hS];exact h.sl,fun i hi=>by rw [hS];exact h.wG hi o (fun k g=>.inl (.inr (.inl g))),h.WG,by rw [hV];exact aC h.lv (fun k e g=>h.vr.2.1 (by rw [e,g])) o,by rw [hP];exact h.pr.only o h.rp.symm,aC hq (fun k e g=>hq.apart h.row (by decide) (by rw [e,g])) o,h.lo,h.nr,h.np,fun k g=>?_,fun k g=>cd (h.low k g) o.size⟩
 rcases g with g | g | g
 ·exact h.nv k (.inl g)
 ·exact h.nv k (.inr (.inl g))
 ·exact hn k g
theorem Rz.store (h:Rz B F r c t vs ps vl p vq w) (hi:i < ps.length) {x:aP×Int} (o:Only (fun k=>k=ps.getD i 0) w w') (hs:Rs w' (ps.getD i 0) (AV (Gz F r p vl) vs.ownBlock ps i) x.1 x.2):Rz B F r { c with S:=jT c.S i x } t vs ps vl p vq w':=by
 have off:=h.JY hi;have hl:i < c.S.length:=by rw [← h.sl];exact hi
 have ne:∀ k,AV (Gz F r p vl) vs.ownBlock ps i k->k≠ps.getD i 0:=fun k g e=>off (e ▸ g);have nq:vq.ownBlock≠some (ps.getD i 0):=by
  obtain ⟨_,_,hh,_⟩:=h.st i hi;exact h.sp.apart hh.row (by decide)
 refine ⟨(o.block r h.QY (ne r (.inl (.inr (.inl rfl))))).trans h.row,aC h.so (fun k e g=>ne k (.inr (.inl e)) g) o,by show ps.length=(jT c.S i x).length;rw [h.sl];exact List.length_set.symm,fun j hj=>?_,h.WG,aC h.lv (fun k e g=>ne k (.inl (.inr (.inr (.inr e)))) g) o,h.pr.only o (fun g=>ne p (.inl (.inr (.inr (.inl rfl)))) g),aC h.sp (fun k e g=>nq (by rw [e,g])) o,h.lo,h.nr,h.np,h.nv,fun k g=>cd (h.low k g) o.size⟩
 show Rs w' _ _ (sat (jT c.S i x) j).1 (sat (jT c.S i x) j).2
 rw [CQ (by omega) (by omega)]
 by_cases e:j=i
 ·subst e
  rw [aw rfl];exact hs
 ·rw [aq (by omega)]
  exact h.wG hj o fun k g=>.inr (.inr ⟨i,hi,fun q=>e q.symm,g.symm⟩)
theorem Rz.stores (h:Rz B F r c t vs ps vl p vq w) {S':bO} {v':Value} {ps':List Nat} {w0:World} (hB:B<=w0.heap.size) (hn:PR 51 w0 (Gz F r p vl) S' S'.length v' ps' w) (hF:∀ k,F k->k < w0.heap.size):Rz B F r { c with S:=S' } t v' ps' vl p vq (w.setCell ⟨r,0,none⟩ v'):=by
 have o:=Only.set (fun k=>k=r) w (a:=⟨r,0,none⟩) rfl v';have rw_:=Rw.heap_setCell_same (j:=0) h.row v';have ap:=hn.own.apart h.row (by decide);refine ⟨rw_,(aC hn.own (fun k e g=>ap (by rw [e,g])) o).low hB,hn.len,fun i hi=>?_,fun i hi=>cG hB (hn.lo i (by rw [← hn.len];exact hi)),aC h.lv (fun k e g=>h.vr.2.1 (by rw [e,g])) o,h.pr.only o h.rp.symm,aC h.sp (fun k e g=>h.vr.2.2 (by rw [e,g])) o,h.lo,h.nr,h.np,fun k g=>?_,fun k g=>cd (h.low k g) o.size⟩
 ·exact eD (Fs.Rs.only (hn.each i (by rw [← hn.len];exact hi)) (o.mono fun k _ g=>.inl (.inr (.inl g)))) fun _ _ g=>.inl g
 ·rcases g with g | g | g
  ·intro q
   have:=(ci hn.own k g).1;have:=hF k q
   omega
  ·exact h.nv k (.inr (.inl g))
  ·exact h.nv k (.inr (.inr g))
theorem Rz.cells (h:Rz B F r c t vs ps vl p vq w):w.cell? ⟨r,0,none⟩=some vs/\w.cell? ⟨r,1,none⟩=some vl/\w.cell? ⟨r,2,none⟩=some (.pointer (some ⟨p,0,none⟩))/\w.cell? ⟨r,3,none⟩=some (.int .i64 c.pl)/\w.cell? ⟨r,4,none⟩=some vq:=⟨ah h.row 0,ah h.row 1,ah h.row 2,ah h.row 3,ah h.row 4⟩
theorem Rz.Va (h:Rz B F r c t vs ps vl p vq w) (k:Nat):w.frozen? ⟨r,k,none⟩=false:=aj h.row k
theorem Rz.rff (h:Rz B F r c t vs ps vl p vq w):RfF w (Gz F r p vl) vs c.S:=⟨ps,h.so.rd,h.sl,fun i hi=>eD (h.st i (by rw [h.sl];exact hi)) fun _ _ g=>.inl g⟩
theorem Rz.VH (h:Rz B F r c t vs ps vl p vq w):∀ k,Gz F r p vl k->k < w.heap.size:=fun k g=>by
 rcases g with g | g | g | g
 ·exact h.low k g
 ·rw [g];exact h.QY
 ·rw [g];exact h.plt
 ·exact (h.Yo k (.inr (.inl g))).2
theorem Rz.abm (h:Rz B F r c t vs ps vl p vq w) (i:Nat):∀ k,AV (Gz F r p vl) vs.ownBlock ps i k->k < w.heap.size:=fun k g=>by
 rcases g with g | g | ⟨m,hm,_,rfl⟩
 ·exact h.VH k g
 ·exact (h.Yo k (.inl g)).2
 ·exact LG (h.st m hm)
def Mine (B:Nat) (F:Nat->Prop) (k:Nat):Prop:=B<=k/\¬ F k
theorem Rz.mine (h:Rz B F r c t vs ps vl p vq w):Mine B F r/\Mine B F p/\(∀ i,i < ps.length->Mine B F (ps.getD i 0))/\∀ k,vl.ownBlock=some k->Mine B F k :=
 ⟨⟨h.lo.1,h.nr⟩,⟨h.lo.2,h.np⟩,fun i hi=>⟨h.WG i hi,fun g=>h.JY hi (.inl (.inl g))⟩,fun k e=>⟨(h.Yo k (.inr (.inl e))).1,h.nv k (.inr (.inl e))⟩⟩
end
end Cu
namespace Ro
open Fl (hdr rat)
theorem jN (w:World) (v:R4) (hv:bN v):Calls prog 91 #[aH v] w fun e w'=>e = .returned (.tuple #[ent (pW v),.int .i64 (takeN v)])/\Below w.heap.size w w':=by
 obtain ⟨a,s,f,r⟩:=v;obtain ⟨⟨a0,a1⟩,⟨s0,s1⟩,⟨f0,f1⟩,r0,r1⟩:=hv;simp only at a0 a1 s0 s1 f0 f1 r0 r1;have q1:a.tdiv 64=a / 64:=dj a0;have q2:a.tmod 64=a % 64:=dt a0;have B0:=Hh ((((aa w.heap.size w).alloc (ac _) (.cells #[.int .u8 a,.int .u8 s,.int .u8 f,.int .u8 r] 42)).alloc (by simp) (.cells #[.int .i64 0,.int .i64 0,.int .i64 0,.int .i64 0,.int .i64 0] 170)).alloc (by simp;omega) (.cells #[.int .i64 (a % 64),.int .i64 s,.int .i64 f,.int .i64 r,.int .i64 (a / 64)] 170));have GA:=Hh (bH (((w.alloc (.cells #[.int .u8 a,.int .u8 s,.int .u8 f,.int .u8 r] 42)).alloc (.cells #[.int .i64 0,.int .i64 0,.int .i64 0,.int .i64 0,.int .i64 0] 170)).alloc (.cells #[.int .i64 (a % 64),.int .i64 s,.int .i64 f,.int .i64 r,.int .i64 (a / 64)] 170)) (dS (a,s,f,r)));have g0:0<=a / 64:=by omega
 have g1:a / 64<=3:=by omega
 have g2:0<=a % 64:=by omega
 have g3:a % 64<=63:=by omega
 unfold ent at GA
 by_cases hg:fH (dS (a,s,f,r))
 ·rw [mX hg] at GA
  have EP:Hid (pW (a,s,f,r)=(a % 64,s,f,r,a / 64)):=Hh (aw hg);have EN:Hid (takeN (a,s,f,r)=0):=Hh (aw hg);clear hg;simp only [dS] at GA;generalize a / 64=y1 at *;generalize a % 64=y2 at *;unfold aH
  go_enter func91,ntmps91
  go_wp2_with fail;refine GA.mono ?_;rintro e w1 ⟨rfl,b1⟩;have B1:=aR B0 b1;have c0:w1.cell? ⟨w.heap.size+2,0,none⟩=some (.int .i64 y2):=(b1.cell (by simp)).trans (by go_simp);have c1:w1.cell? ⟨w.heap.size+2,1,none⟩=some (.int .i64 s):=(b1.cell (by simp)).trans (by go_simp);have c2:w1.cell? ⟨w.heap.size+2,2,none⟩=some (.int .i64 f):=(b1.cell (by simp)).trans (by go_simp);have c3:w1.cell? ⟨w.heap.size+2,3,none⟩=some (.int .i64 r):=(b1.cell (by simp)).trans (by go_simp);have c4:w1.cell? ⟨w.heap.size+2,4,none⟩=some (.int .i64 y1):=(b1.cell (by simp)).trans (by go_simp);have k0:w1.cell? ⟨w.heap.size+1,0,none⟩=some (.int .i64 0):=(b1.cell (by simp)).trans (by go_simp);have k1:w1.cell? ⟨w.heap.size+1,1,none⟩=some (.int .i64 0):=(b1.cell (by simp)).trans (by go_simp);have k2:w1.cell? ⟨w.heap.size+1,2,none⟩=some (.int .i64 0):=(b1.cell (by simp)).trans (by go_simp);have k3:w1.cell? ⟨w.heap.size+1,3,none⟩=some (.int .i64 0):=(b1.cell (by simp)).trans (by go_simp);have k4:w1.cell? ⟨w.heap.size+1,4,none⟩=some (.int .i64 0):=(b1.cell (by simp)).trans (by go_simp);have m0:w1.frozen? ⟨w.heap.size+1,0,none⟩=false:=(b1.frozen (by simp)).trans (by go_simp);have m1:w1.frozen? ⟨w.heap.size+1,1,none⟩=false:=(b1.frozen (by simp)).trans (by go_simp);have m2:w1.frozen? ⟨w.heap.size+1,2,none⟩=false:=(b1.frozen (by simp)).trans (by go_simp);have m3:w1.frozen? ⟨w.heap.size+1,3,none⟩=false:=(b1.frozen (by simp)).trans (by go_simp);have m4:w1.frozen? ⟨w.heap.size+1,4,none⟩=false:=(b1.frozen (by simp)).trans (by go_simp);clear b1 GA B0;go_wp2
  (try simp only [Exit.inBlock,Exit.then])
  refine bo (v:=.tuple #[.agg #[.int .i64 y2,.int .i64 s,.int .i64 f,.int .i64 r,.int .i64 y1],.int .i64 0]) ?_ rfl ⟨by rw [EP.out,EN.out];rfl,?_⟩
  ·rw [results_cell_tmp rfl];go_simp;try rfl
  ·exact ((((B1.setCell (by simp) _).setCell (by simp) _).setCell (by simp) _).setCell (by simp) _).setCell (by simp) _
 ·rw [ET hg] at GA
  have EP:Hid (pW (a,s,f,r)=z5):=Hh (aq hg);have EN:Hid (takeN (a,s,f,r)=2):=Hh (aq hg);clear hg;simp only [dS] at GA;generalize a / 64=y1 at *;generalize a % 64=y2 at *;unfold aH
  go_enter func91,ntmps91
  go_wp2_with fail;refine GA.mono ?_;rintro e w1 ⟨rfl,b1⟩;have B1:=aR B0 b1;have k0:w1.cell? ⟨w.heap.size+1,0,none⟩=some (.int .i64 0):=(b1.cell (by simp)).trans (by go_simp);have k1:w1.cell? ⟨w.heap.size+1,1,none⟩=some (.int .i64 0):=(b1.cell (by simp)).trans (by go_simp);have k2:w1.cell? ⟨w.heap.size+1,2,none⟩=some (.int .i64 0):=(b1.cell (by simp)).trans (by go_simp);have k3:w1.cell? ⟨w.heap.size+1,3,none⟩=some (.int .i64 0):=(b1.cell (by simp)).trans (by go_simp);have k4:w1.cell? ⟨w.heap.size+1,4,none⟩=some (.int .i64 0):=(b1.cell (by simp)).trans (by go_simp);have m0:w1.frozen? ⟨w.heap.size+1,0,none⟩=false:=(b1.frozen (by simp)).trans (by go_simp);have m1:w1.frozen? ⟨w.heap.size+1,1,none⟩=false:=(b1.frozen (by simp)).trans (by go_simp);have m2:w1.frozen? ⟨w.heap.size+1,2,none⟩=false:=(b1.frozen (by simp)).trans (by go_simp);have m3:w1.frozen? ⟨w.heap.size+1,3,none⟩=false:=(b1.frozen (by simp)).trans (by go_simp);have m4:w1.frozen? ⟨w.heap.size+1,4,none⟩=false:=(b1.frozen (by simp)).trans (by go_simp);clear b1 GA B0;go_wp2
  (try simp only [Exit.inBlock,Exit.then])
  refine bo (v:=.tuple #[.agg #[.int .i64 0,.int .i64 0,.int .i64 0,.int .i64 0,.int .i64 0],.int .i64 2]) ?_ rfl ⟨by rw [EP.out,EN.out];rfl,?_⟩
  ·rw [results_cell_tmp rfl];go_simp;try rfl
  ·exact ((((B1.setCell (by simp) _).setCell (by simp) _).setCell (by simp) _).setCell (by simp) _).setCell (by simp) _
open Fl (gN aT at4)
theorem vO (w:World) (p:Int) (v:Value) (l:List R4) (R:Rd K4 w v l) (ok:cZ l):Calls prog 66 #[file p v] w (fM w p l):=by
 have B0:=Hh ((aa w.heap.size w).alloc (ac _) (.cells #[.int .i64 p,v] 79));have R0:=Hh (R.below B0);have HE:Hid (jJ p l = []/\pQ p l=2->∀ w',Below w.heap.size w w'->fM w p l (.returned (.tuple #[.slice none 0 0,.int .i64 2])) w'):=Hh (fun h w' hb=>⟨_,by rw [h.2],by rw [h.1];exact Rw.Ow.nil _ _ _,hb⟩);clear R
 by_cases hg:aL p l
 ·have GA:=Hh (aK (show aT p l=true from bi hg) (Fl.bH _ p v l R0.out))
  have hl:=hg.2.2.1;have hl2:=hg.2.2.2.1;have HG:=Hh hg;have OK:=Hh ok;clear hg ok;obtain ⟨a,cap,rfl,⟨hc,_⟩,hm,hA⟩:=R0.out;obtain ⟨b,off,rfl,hA⟩:=hA (by omega);have HA:=Hh hA;unfold maxLen at hm;clear hA R0;generalize hn:l.length=n at *;have HN:=Hh hn;clear hn;unfold file at *
  go_enter func66,ntmps66
  go_wp2_with fail;refine GA.mono ?_;rintro e w1 ⟨rfl,b1⟩;have B1:=aR B0 b1;have A1:=Hh (HA.below b1);have c1:w1.cell? ⟨w.heap.size,1,none⟩=some (.slice (some ⟨b,off,none⟩) n cap):=(b1.cell (by simp)).trans (by go_simp);clear b1 GA B0 HA;have HS:Hid (scan (l.drop 1)=none->∀ w',Below w.heap.size w w'->fM w p l (.returned (.tuple #[.slice none 0 0,.int .i64 2])) w'):=Hh (fun h=>HE (Eb h));have HT:Hid (∀ L,scan (l.drop 1)=some L->JX w p l L):=Hh (fun L h=>KW HG h);have KR:=Hh OK;have LR:Hid ((l.drop 1).length=n - 1):=Hh (by rw [fd,HN.out]);have HD:Hid (∀ k,1<=k->k < n->rat l k=rat (l.drop 1) (k - 1)):=Hh (fun k h1 h2=>by unfold rat;simp only [af,List.getElem?_drop];rw [show 1+(k - 1)=k by omega]);have C1:=Hh c1;have O0:=Hh (Rw.Ow.made (K:=K5) w1 w1.heap.size 170 (ac _));have B00:=Hh ((aa w1.heap.size w1).alloc (ac _) (.cells #[] 170));clear HE HG OK c1;generalize l.drop 1=r at *;go_wp2;generalize w1.alloc (.cells #[] 170)=W at *;generalize Value.slice (some ⟨w1.heap.size,0,none⟩) 0 0=u0 at *
  go_loopw [5,4] (fun i u wr=>∃ (k:Nat) (L:List E5),1<=k/\k<=n/\i = .int .i64 k/\Hid (Ki w1 r (k - 1) u L wr)) (fun i _ _=>n - (intOf i).toNat)
  case atStart=>exact ⟨1,[],ac _,hl,rfl,Hh ⟨O0,xK r,B00⟩⟩
  case round =>
   obtain ⟨k,L,hk1,hk,rfl,RR⟩:=hrel;have c1:=gP RR.aG C1;obtain ⟨av,cv,ev,hcv,hmv⟩:=RR.own.slice;generalize L.length=Ln at ev hcv;subst ev
   by_cases hlt:k < n
   ·obtain ⟨c0,c1',c2,c3⟩:=at4 (A1.below RR.aG) k (by rw [HN.out];exact hlt)
    have kv:=gN KR k;have hkr:k - 1 < r.length:=by rw [LR.out];omega
    have hd:=HD.out k hk1 hlt;have TA:=Hh (fun w=>jN w (rat l k) kv);have Q1:Hid (¬ fH (dS (rat l k))->scan r=none):=Hh (by rw [hd];exact GI RR.out.red hkr);have Q2:Hid (fH (dS (rat l k))->(dS (rat l k)).1=4->scan r=some L):=Hh (by rw [hd];exact Ia RR.out.red hkr);have Q3:Hid (fH (dS (rat l k))->(dS (rat l k)).1≠4->Read r (k - 1+1) (L ++ [dS (rat l k)])):=Hh (by rw [hd];exact Ao RR.out.red hkr);clear kv hkr hd
    by_cases h1:fH (dS (rat l k))
    ·have e1:pW (rat l k)=dS (rat l k):=aw h1
     have e2:takeN (rat l k)=0:=aw h1;rw [e1,e2] at TA;have P2:=Hh (Q2 h1);have P3:=Hh (Q3 h1);clear e1 e2 Q1 Q2 Q3 h1;unfold ent aH at TA;generalize dS (rat l k)=x at *;generalize rat l k=y at *
     by_cases h4:x.1=4
     ·have TE:=Hh (HT L (P2 h4))
      clear P2 P3 HS HT;go_wp2_with fail;refine (TA _).mono ?_;rintro e w2 ⟨rfl,b2⟩;have BA:=RR.aG;have B2:=Hh (BA.trans (b2.mono BA.size));have O2:=Hh (RR.own.keep b2);have BW:Hid (∀ o,Below w.heap.size w (w2.alloc o)):=Hh (fun o=>B1.trans ((B2.alloc B2.size o).mono B1.size));have RW:Hid (∀ o,Ow K5 (w2.alloc o) w.heap.size 170 (.slice av Ln cv) L):=Hh (fun o=>(O2.alloc o).low B1.size);clear BA b2 B2 O2 RR c0 c1' c2 c3 TA
      by_cases hm:iH L
      ·have E:=Hh (TE.out.1 hm)
       have IT:=Hh (fun w v R=>aK (show fJ L=true from bi hm) (iV w v L R));clear TE hm;go_wp2_with fail;refine (IT _ _ (Rw.Ow.rd (RW _))).mono ?_;rintro e w4 ⟨rfl,b4⟩;have E4:=Hh (E _ _ (Rw.Ow.keep (RW _) b4) (fi (BW _) (b4.mono (Below.size (BW _)))));clear b4 E IT;go_wp2
       go_ret2
       exact E4
      ·have E:=Hh (TE.out.2 hm)
       have IT:=Hh (fun w v R=>aK (show fJ L=false from ai hm) (iV w v L R));clear TE hm;go_wp2_with fail;refine (IT _ _ (Rw.Ow.rd (RW _))).mono ?_;rintro e w4 ⟨rfl,b4⟩;have E4:=Hh (E _ (fi (BW _) (b4.mono (Below.size (BW _)))));clear b4 E IT;go_wp2
       go_ret2
       exact E4
     ·have PR:=Hh (P3 h4)
      clear P2 P3 HS HT;go_wp2_with fail;refine (TA _).mono ?_;rintro e w2 ⟨rfl,b2⟩;have BA:=RR.aG;have B2:=Hh (BA.trans (b2.mono BA.size));have O2:=Hh (RR.own.keep b2);have LN:=Hh RR.red.1;have z2:=B2.size;clear BA b2 RR c0 c1' c2 c3 TA
      go_wp2_with (at_builtin;refine Rw.dU underlying126 V8 rfl (by omega) rfl _ _ rfl w1.heap.size _ _ rfl ((O2.out.alloc _).alloc _) _ x rfl ?d1 ?d2 ?d3 ?_)
      case d1 =>
       intro j u hu
       match j,hu with
       | 0,hu=>simp [K5] at hu;subst hu;go_simp
       | 1,hu=>simp [K5] at hu;subst hu;go_simp
       | 2,hu=>simp [K5] at hu;subst hu;go_simp
       | 3,hu=>simp [K5] at hu;subst hu;go_simp
       | 4,hu=>simp [K5] at hu;subst hu;go_simp
       | j+5,hu=>simp [K5] at hu
      case d2=>rw [LN.out];omega
      case d3=>simp;omega
      intro v' w3 o3 b3
      have N3:Hid (Ki w1 r (k+1 - 1) v' (L ++ [x]) w3):=Hh ⟨o3,by rw [show k+1 - 1=k - 1+1 by omega];exact PR.out,((B2.out.alloc z2 _).alloc (by simp;omega) _).trans (b3.mono (ac _))⟩;obtain ⟨av',cv',ev',_,_⟩:=o3.slice;generalize (L ++ [x]).length=Ln' at ev';subst ev';clear o3 b3 O2 B2 PR LN;go_wp2
      go_roundw
      case rel=>exact ⟨k+1,L ++ [x],by omega,by omega,by go_num,N3⟩
      case measure=>simp [intOf];omega
    ·have e1:pW (rat l k)=z5:=aq h1
     have e2:takeN (rat l k)=2:=aq h1;rw [e1,e2] at TA;have E:=Hh (HS (Q1 h1));clear e1 e2 Q1 Q2 Q3 h1 HS HT;unfold ent aH at TA;simp only [z5] at TA;generalize rat l k=y at *;go_wp2_with fail;refine (TA _).mono ?_;rintro e w2 ⟨rfl,b2⟩;have BA:=RR.aG;have B2:=Hh (BA.trans (b2.mono BA.size));have O2:=Hh (RR.own.keep b2);have BW:Hid (∀ o,Below w.heap.size w (w2.alloc o)):=Hh (fun o=>B1.trans ((B2.alloc B2.size o).mono B1.size));clear BA b2 B2 O2 RR c0 c1' c2 c3 TA;go_wp2
     go_ret2
     exact E _ (BW _)
   ·obtain rfl:k=n:=by omega
    have TE:=Hh (HT L (DZ (by rw [LR.out];exact RR.out.red)));have BW:=Hh (B1.trans (RR.aG.mono B1.size));have RW:=Hh (RR.own.low B1.size);clear RR HS HT
    by_cases hm:iH L
    ·have E:=Hh (TE.out.1 hm)
     have IT:=Hh (fun w v R=>aK (show fJ L=true from bi hm) (iV w v L R));clear TE hm;go_wp2_with fail;refine (IT _ _ (Rw.Ow.rd RW)).mono ?_;rintro e w4 ⟨rfl,b4⟩;have E4:=Hh (E _ _ (Rw.Ow.keep RW b4) (fi BW (b4.mono (Below.size BW))));clear b4 E IT;go_wp2
     go_ret2
     exact E4
    ·have E:=Hh (TE.out.2 hm)
     have IT:=Hh (fun w v R=>aK (show fJ L=false from ai hm) (iV w v L R));clear TE hm;go_wp2_with fail;refine (IT.out _ _ (Rw.Ow.rd RW.out)).mono ?_;rintro e w4 ⟨rfl,b4⟩;have E4:=Hh (E.out _ (fi BW.out (b4.mono (Below.size BW.out))));clear b4 E IT;go_wp2
     go_ret2
     exact E4.out
 ·have GA:=Hh (aK (show aT p l=false from ai hg) (Fl.bH _ p v l R0.out))
  have E:=Hh (HE.out (LY hg));clear hg HE ok;obtain ⟨a,cap,rfl,_,hm,hA⟩:=R0.out;clear hA R0;generalize l.length=n at *;unfold file at *
  go_enter func66,ntmps66
  go_wp2_with fail;refine GA.mono ?_;rintro e w1 ⟨rfl,b1⟩;have B1:=aR B0 b1;clear b1 GA B0;go_wp2
  go_ret2
  exact E _ B1
end Ro
namespace Cu
open Go.Maps
open Wt (opn jo)
open Ro (vO)
open Ck (sl)
open Re (KI gq gH)
attribute [local irreducible] Sd.aW wpQuiet
theorem pX {α β:Type} {K:Rw.Kind α} {J:Rw.Kind β} {w:World} {B B' E E':Nat} {v v':Value} {l:List α} {l':List β} (h:Ow K w B E v l) (h':Ow J w B' E' v' l') (hE:E≠E'):∀ k,v.ownBlock=some k->v'.ownBlock≠some k:=fun k hk=>by
 obtain ⟨_,h⟩:=h
 rcases h with ⟨rfl,_⟩ | ⟨g,cap,cur,rfl,_,hh,_⟩
 ·simp [Value.ownBlock] at hk
 ·simp only [Value.ownBlock,eJ] at hk
  subst hk;exact h'.apart hh hE
structure TB (w0:World) (T:LL) (k:Nat) (v:Value) (hs:List Hd) (wr:World):Prop where
 own:Ow KS wr w0.heap.size 126 v hs
 len:hs.length=k
 each:∀ j,j < k->Ow K5 wr w0.heap.size 170 (sl (hs.getD j zh)) (bQ T j)
 aG:Below w0.heap.size w0 wr
section
variable {w0 wr w':World} {T:LL} {k:Nat} {v v':Value} {hs:List Hd} {c:Hd}
theorem TB.below (h:TB w0 T k v hs wr) (b:Below wr.heap.size wr w'):TB w0 T k v hs w':=⟨h.own.keep b,h.len,fun j hj=>(h.each j hj).keep b,h.aG.trans (b.mono h.aG.size)⟩
theorem TB.push (h:TB w0 T k v hs wr) (hc:Ow K5 wr w0.heap.size 170 (sl c) (bQ T k)) (own:Ow KS w' w0.heap.size 126 v' (hs ++ [c])) (gr:wr.grownBy w' v.ownBlock):TB w0 T (k+1) v' (hs ++ [c]) w':=by
 have oq:=aQ gr;refine ⟨own,by rw [cI,h.len];rfl,fun j hj=>?_,h.aG.grown gr h.aG.size fun j e=>(ci h.own j e).1⟩
 by_cases e:j=k
 ·subst e
  have:(hs ++ [c]).getD j zh=c:=by rw [af,fk (by rw [h.len];exact ac _),h.len];simp
  rw [this];exact aC hc (fun k e g=>pX hc h.own (by decide) k e g) oq
 ·have:(hs ++ [c]).getD j zh=hs.getD j zh:=by rw [af,fS (by rw [h.len];omega),af]
  rw [this];exact aC (h.each j (by omega)) (fun k e g=>pX (h.each j (by omega)) h.own (by decide) k e g) oq
theorem TB.rdl (h:TB w0 T T.length v hs wr):jK wr v T:=vI h.own.rd h.len fun i hi=>(h.each i hi).rd
end
theorem Qv (a:Wt.A):opn a = -1\/opn a=0\/opn a=1:=by
 unfold opn Wt.op
 split
 ·exact .inr (.inl rfl)
 ·split
  ·exact .inr (.inr rfl)
  ·exact .inl rfl
def V9 (w:World) (B:Nat) (F:Nat->Prop) (r p:Nat) (vl vq:Value) (c:Cs) (t:Nat) (e:Ending) (w':World):Prop:=∃ vs' ps',e = .returned (.int .i64 (rE c))/\Rz B F r { rC c with Q:=c.Q } (t+1) vs' ps' vl p vq w'/\Only (Mine B F) w w'
variable {G G' F:Nat->Prop} {w w':World}
theorem Only.more (h:Only G w w') (hg:∀ k,G k->G' k):Only G' w w':=h.mono fun k _ g=>hg k g
variable {B r t p:Nat} {c:Cs} {vs vl vq:Value} {ps:List Nat}
theorem CP (h:Rz B F r c t vs ps vl p vq w) (hB:B<=w.heap.size) (ok:kC c t) (ht:t<=1000):Calls prog 38 #[.pointer (some ⟨r,0,none⟩)] w (V9 w B F r p vl vq c t):=by
 have Z:=Hh h;have OK:=Hh ok;have HB:=Hh hB;obtain ⟨c0,c1,c2,c3,c4⟩:=h.cells;have C1:=Hh (Wt.Kc h.pr (by omega));unfold Wt.dW at C1;have FIN:Hid (∀ x vs' ps' w',x=rE c->Rz B F r { rC c with Q:=c.Q } (t+1) vs' ps' vl p vq w'->Only (Mine B F) w w'->V9 w B F r p vl vq c t (.returned (.int .i64 x)) w'):=Hh (fun x vs' ps' w' e z o=>⟨vs',ps',by rw [e],z,o⟩);have hpn:=h.sl;clear h ok hB
 rcases Qv c.P with ho | ho
 ·have E0:Hid (0=rE c/\{ rC c with Q:=c.Q } = { c with P:=jo c.P }):=Hh (by
   have hlt:opn c.P < 0:=by omega
   refine ⟨by unfold rE;rw [aw hlt],?_⟩;unfold rC
   rw [aw hlt])
  rw [ho] at C1;clear ho
  go_enter func38,ntmps38
  go_wp2_with fail;refine C1.mono ?_;rintro e w1 ⟨rfl,p1,o1⟩;have E:=Hh (FIN 0 vs ps w1 E0.out.1 (by rw [E0.out.2];exact Z.out.pair o1 p1) (Only.more o1 fun k g=>by rw [g];exact Z.out.mine.2.1));clear FIN C1 o1 p1;go_wp2
  go_ret
  exact E
 ·obtain ⟨b,hb,hb2⟩:∃ b:Nat,opn c.P=b/\b < 2:=by rcases ho with ho | ho;exact ⟨0,ho,by omega⟩;exact ⟨1,ho,by omega⟩
  have hnl:¬ opn c.P < 0:=by omega
  have EO:own c=(sat c.S b).1:=by unfold own;rw [hb]
  have E2:Hid (pM (own c)=false->2=rE c/\{ rC c with Q:=c.Q } = { c with P:=jo c.P }):=Hh (fun h=>by
   refine ⟨by unfold rE;rw [aq hnl,h];rfl,?_⟩;unfold rC;rw [aq hnl,h]
   rfl)
  have E1:Hid (pM (own c)=true->gM c.S (rT c) c.V=rE c/\{ rC c with Q:=c.Q } = { S:=if gM c.S (rT c) c.V=0 then mF c.S (rT c) c.V c.Q else c.S,V:=c.V,P:=jo c.P,pl:=pE c (jA (own c)),Q:=c.Q }):=Hh (fun h=>by
   refine ⟨by unfold rE;rw [aq hnl,h];rfl,?_⟩;unfold rC;rw [aq hnl,h]
   rfl)
  have hbn:b < ps.length:=by have:=OK.out.len;omega
  obtain ⟨g,cap,rfl,hg,hgl,_,_,_,hA⟩:=Z.so.form (by omega);have cb:=U1 hA (i:=b) hbn;rw [cX] at cb;have hs:=Z.st b hbn;have AK:=(OK.st b (by omega)).1;rw [← EO] at hs AK;have HS:=Hh hs;have AKK:=Hh AK;rw [hb] at C1;unfold ptr at cb;clear ho hnl hA hs AK;generalize hps:ps.getD b 0=s at *
  go_enter func38,ntmps38
  go_wp2_with fail;refine C1.mono ?_;rintro e w1 ⟨rfl,p1,o1⟩;have Z1:=Hh (Z.pair o1 p1);have O1:Hid (Only (Mine B F) w w1):=Hh (Only.more o1 fun k g=>by rw [g];exact Z.out.mine.2.1);have HB1:Hid (B<=w1.heap.size):=Hh (cG HB o1.size);have gp:g≠p:=fun e=>Z.vp.1 (by rw [← e];rfl);have cb1:=o1.cell cb gp;obtain ⟨d0,d1,d2,d3,d4⟩:=Z1.cells;have CS:=Hh (wF (by have:=Z1.out.st b hbn;rw [hps] at this;exact this) (show dX (sat c.S b).1 by rw [← EO];exact AKK.out));rw [show (sat ({ c with P:=jo c.P } : Cs).S b).1=own c from EO.symm] at CS;clear c0 c1 c2 c3 c4 cb C1 p1 o1 HS AKK;have hbI:(b:Int) < 2:=by omega
  generalize hpl:ps.length=n at *;go_wp2_with fail;refine CS.mono ?_;rintro e w2 ⟨u,rfl,ru,b2⟩;have Z2:=Hh (Z1.below b2);have O2:=Hh (O1.then b2);have HB2:Hid (B<=w2.heap.size):=Hh (cG HB1 b2.size);have U2:=Hh ru;obtain ⟨ua,uc,rfl,_,_⟩:=U2.slice;clear ru b2 CS cb1 d0 d1 d2 d3 d4 Z1 O1
  cases hq:pM (own c) with
  | false =>
    have E:=Hh (FIN 2 _ ps w2 (E2 hq).1 (by rw [(E2.out hq).2];exact Z2.out) O2.out);clear FIN E1 E2 hq U2 Z2 O2 HB2;generalize (jA (own c)).length=ln at *;go_wp2
    go_ret
    exact E
  | true =>
    have SQ:=Dl hq;have G1:=Hh (fun x vs' ps' w' (e:x=gM c.S (rT c) c.V) z o=>FIN x vs' ps' w' (e.trans (E1 hq).1) (by rw [(E1.out hq).2];exact z) o);have RT:Hid (rT c=Kv c.S (gq (jA (own c)) (kD c (jA (own c))))):=Hh rfl;clear FIN E1 E2 hq EO;generalize jA (own c)=l at *;obtain ⟨⟨sq1,sq2⟩,sq3⟩:=SQ;obtain ⟨d0,d1,d2,d3,d4⟩:=Z2.cells;have f3:=Z2.Va 3;have hp:c.pl<=64:=OK.pl;generalize hln:l.length=ln at *;have HLN:=Hh hln
    go_upto_if 41 with fail
    go_cut [2] from 41 to 124 (fun z wx=>Value.int .i64 0=z/\Hid (Rz B F r { c with P:=jo c.P,pl:=kD c l } (t+1) (.slice (some ⟨g,0,none⟩) n cap) ps vl p vq wx/\Ow KI wx w1.heap.size 3 (.slice ua ln uc) l/\Only (Mine B F) w wx/\B<=wx.heap.size))
    case first =>
     by_cases hlt:ln<=c.pl
     ·have e0:kD c l=0:=by unfold kD;rw [aw (by omega)]
      have Z3:=Hh (Z2.cell (c':={ c with P:=jo c.P,pl:=kD c l }) (vq':=vq) 3 (.int .i64 0) (by rw [e0];rfl) rfl rfl rfl Z2.out.sp fun k e=>Z2.out.nv k (.inr (.inr e)));have hI:(ln:Int)<=(c.pl:Int):=by omega
      have REL:=Hh (di Z3 (di (U2.far (p:=⟨r,3,none⟩) Z2.row (by decide) (.int .i64 0)) (di (O2.out.trans (Only.set (fun k=>k=r) w2 (a:=⟨r,3,none⟩) rfl (.int .i64 0)) fun k _ g=>by rw [g];exact Z2.out.mine.1) (show B<=(w2.setCell ⟨r,3,none⟩ (.int .i64 0)).heap.size by simp [World.setCell];exact HB2.out))));clear Z3 Z2 U2 O2 HB2 G1 RT e0;go_wp2
      go_meet
      exact ⟨rfl,REL⟩
     ·have e0:kD c l=c.pl:=by unfold kD;rw [aq (by omega)]
      have hI:¬ (ln:Int)<=(c.pl:Int):=by omega
      have REL:Hid (Rz B F r { c with P:=jo c.P,pl:=kD c l } (t+1) (.slice (some ⟨g,0,none⟩) n cap) ps vl p vq w2/\Ow KI w2 w1.heap.size 3 (.slice ua ln uc) l/\Only (Mine B F) w w2/\B<=w2.heap.size):=Hh ⟨by rw [e0];exact Z2.out,U2.out,O2.out,HB2.out⟩;clear Z2 U2 O2 HB2 G1 RT e0;go_wp2
      go_meet
      exact ⟨rfl,REL⟩
    case rest =>
     obtain ⟨e1,XX⟩:=hcut;subst e1;clear d0 d1 d2 d3 d4 f3 Z2 U2 O2 HB2;have A0:kD c l < ln:=by unfold kD;split <;> omega
     have A1:pE c l=if kD c l+1=ln then 0 else kD c l+1:=by unfold pE;rw [hln]
     generalize kD c l=a0 at *;have W1:IntKind.i64.wrap ((a0:Int)+1)=(a0:Int)+1:=cE _ (by omega);obtain ⟨gu,cu,e,_,_,_,_,_,hU⟩:=XX.out.2.1.form (by omega);injection e with e1 e2 e3;subst e1 e3;have cu0:=Re.pE hU (i:=a0) (by omega);rw [cX] at cu0;obtain ⟨d0,d1,d2,d3,d4⟩:=XX.out.1.cells;have f3:=XX.out.1.Va 3;clear hU e2;have Z3:=Hh (XX.out.1.cell (c':={ c with P:=jo c.P,pl:=a0+1 }) (vq':=vq) 3 (.int .i64 ((a0:Int)+1)) rfl rfl rfl rfl XX.out.1.sp fun k e=>XX.out.1.nv k (.inr (.inr e)));have O3:Hid (Only (Mine B F) w (wc.setCell ⟨r,3,none⟩ (.int .i64 ((a0:Int)+1)))):=Hh (XX.out.2.2.1.trans (Only.set (fun k=>k=r) wc (a:=⟨r,3,none⟩) rfl (.int .i64 ((a0:Int)+1))) fun k _ g=>by rw [g];exact XX.out.1.mine.1);have HB3:Hid (B<=(wc.setCell ⟨r,3,none⟩ (.int .i64 ((a0:Int)+1))).heap.size):=Hh (by simp [World.setCell];exact XX.out.2.2.2);go_upto_region 11 with fail;generalize wc.setCell ⟨r,3,none⟩ (.int .i64 ((a0:Int)+1))=w3 at *;clear d0 d1 d2 d3 d4 f3 XX cu0;obtain ⟨d0,d1,d2,d3,d4⟩:=Z3.cells;have f3:=Z3.Va 3;have NN:=sq3 a0 (by omega);unfold Re.zP at NN;generalize hnn:gq l a0=nn at *
     go_upto_if 65 with fail
     go_cut [2] from 65 to 124 (fun z wx=>Value.int .i64 0=z/\Hid (Rz B F r { c with P:=jo c.P,pl:=pE c l } (t+1) (.slice (some ⟨g,0,none⟩) n cap) ps vl p vq wx/\Only (Mine B F) w wx/\B<=wx.heap.size))
     case first =>
      by_cases hlt:a0+1=ln
      ·have e0:pE c l=0:=by rw [A1,aw hlt]
       have Z4:=Hh (Z3.cell (c':={ c with P:=jo c.P,pl:=pE c l }) (vq':=vq) 3 (.int .i64 0) (by rw [e0];rfl) rfl rfl rfl Z3.out.sp fun k e=>Z3.out.nv k (.inr (.inr e)));have q1:((a0:Int)+1 == (ln:Int))=true:=ik.2 (by omega);have q2:decide ((a0:Int)+1=(ln:Int))=true:=bi (by omega);have REL:=Hh (di Z4 (di (O3.trans (Only.set (fun k=>k=r) w3 (a:=⟨r,3,none⟩) rfl (.int .i64 0)) fun k _ g=>by rw [g];exact Z3.out.mine.1) (show B<=(w3.setCell ⟨r,3,none⟩ (.int .i64 0)).heap.size by simp [World.setCell];exact HB3.out)));clear Z4 Z3 O3 HB3 G1 RT e0 A1 hlt hnn;go_wp2
       go_meet
       exact ⟨rfl,REL⟩
      ·have e0:pE c l=a0+1:=by rw [A1,aq hlt]
       have q1:((a0:Int)+1 == (ln:Int))=false:=cz.2 (by omega);have q2:decide ((a0:Int)+1=(ln:Int))=false:=ai (by omega);have REL:Hid (Rz B F r { c with P:=jo c.P,pl:=pE c l } (t+1) (.slice (some ⟨g,0,none⟩) n cap) ps vl p vq w3/\Only (Mine B F) w w3/\B<=w3.heap.size):=Hh ⟨by rw [e0];exact Z3.out,O3.out,HB3.out⟩;clear Z3 O3 HB3 G1 RT e0 A1 hlt hnn;go_wp2
       go_meet
       exact ⟨rfl,REL⟩
     case rest =>
      obtain ⟨e1,XX⟩:=hcut;subst e1;clear d0 d1 d2 d3 d4 f3 Z3 O3 HB3 A1 A0;generalize wc=wB at *;have Z4:=Hh XX.out.1;have O4:=Hh XX.out.2.1;have HB4:=Hh XX.out.2.2;have hnS:n=c.S.length:=by omega
      have hn32:n<=32:=by have:=OK.out.len;omega
      have LT:Hid (∀ k:Nat,k < n->bQ (rT c) k=jJ (fP (sat c.S k).1 (32+nn)) (fR (sat c.S k).1 (32+nn))):=Hh (fun k hk=>by rw [RT.out];exact Vj _ _ (by omega));have LL:Hid ((rT c).length=n):=Hh (by rw [RT.out,Cn];omega);have W2:IntKind.i64.wrap (32+nn)=32+nn:=cE _ (by omega);have T0:Hid (TB wB (rT c) 0 (.slice (some ⟨wB.heap.size,0,none⟩) 0 0) [] (wB.alloc (.cells #[] 126))):=Hh ⟨Rw.Ow.made _ _ _ (ac _),rfl,fun j hj=>by omega,(aa _ _).alloc (ac _) _⟩;have OKA:Hid (∀ k:Nat,k < n->dX (sat c.S k).1):=Hh (fun k hk=>(OK.st k (by omega)).1);clear XX RT hnn;generalize rT c=T at *;go_upto_region 14 with fail;generalize wB.alloc (.cells #[] 126)=w4 at *;generalize wB.heap.size=gB at T0 ⊢;go_wp2
      go_loopw [8,7] (fun i o wr=>∃ (k:Nat) (hs:List Hd),k<=n/\i = .int .i64 k/\Hid (TB wB T k o hs wr)) (fun i _ _=>n - (intOf i).toNat)
      case atStart=>exact ⟨0,[],bt _,rfl,T0⟩
      case round =>
       clear T0;obtain ⟨k,hs,hk,rfl,I⟩:=hrel;have Z5:=Hh (Z4.below I.aG);obtain ⟨av,cv,ev,_⟩:=I.own.slice;generalize hLp:hs.length=Lp at ev;subst ev;obtain ⟨d0,d1,d2,d3,d4⟩:=Z5.cells
       by_cases hlt:k < n
       ·obtain ⟨g',cap',e,_,_,_,_,_,hA⟩:=Z5.so.form (by omega)
        injection e with e1 e2 e3;injection e1 with e1;injection e1 with e1;subst e1 e3;have ck:=U1 hA (i:=k) (by omega);rw [cX] at ck;have C6:Hid (Calls prog 27 #[.pointer (some ⟨ps.getD k 0,0,none⟩),.int .i64 (32+nn)] wr (kZ wr (sat c.S k).1 (32+nn))):=Hh (kM (Z5.st k (by omega)) (32+nn));have OF:=Hh (F8 (OKA k hlt) (32+nn));have LTk:=Hh (LT k hlt);unfold kZ at C6;unfold ptr at ck;clear hA e2;generalize ps.getD k 0=sk at *;generalize fP (sat c.S k).1 (32+nn)=fp at *;generalize fB (sat c.S k).1 (32+nn)=fb at *;generalize fR (sat c.S k).1 (32+nn)=fr at *;go_wp2_with fail;refine C6.mono ?_;rintro e w5 ⟨v5,rfl,r5,b5⟩;have R5:=Hh r5;obtain ⟨a5,c5,rfl,_⟩:=R5.slice;have BA:=Hh (b5.alloc b5.size (.cells #[.int .i64 fp,.slice a5 fr.length c5] 79));have C7:=Hh (vO (w5.alloc (.cells #[.int .i64 fp,.slice a5 fr.length c5] 79)) fp _ fr (R5.below ((aa w5.heap.size w5).alloc (ac _) _)) OF);unfold fM at C7;clear r5 b5 C6 R5 OF d0 d1 d2 d3 d4 ck;unfold file at *;generalize fr.length=n5 at *;generalize pQ fp fr=tn at *;rw [← LTk.out] at C7;generalize hlk:(bQ T k).length=lk at *;have hz:=I.aG.size;go_wp2_with fail;refine C7.mono ?_;rintro e w6 ⟨u6,rfl,o6,b6⟩;have B6:=aR BA b6;have U6:=Hh (o6.low (cG hz BA.size));obtain ⟨a6,c6,e6,_,_⟩:=U6.slice;rw [hlk] at e6;subst e6;have I6:=Hh ((I.below B6).below ((aa w6.heap.size w6).alloc (ac _) (.cells #[.slice a6 lk c6] 126)));have U7:=Hh (U6.keep ((aa w6.heap.size w6).alloc (ac _) (.cells #[.slice a6 lk c6] 126)));clear o6 b6 C7 BA B6 U6 I hz
        go_wp2_with (at_builtin;refine bX (K:=KS) underlying125 xO rfl (by omega) rfl _ _ rfl wB.heap.size _ _ rfl I6.out.own _ (a6,lk,c6) rfl ?d1 ?d2 ?d3 ?_)
        case d1 =>
         intro j u hu
         match j,hu with
         | 0,hu=>simp [KS] at hu;subst hu;unfold sl;go_simp
         | j+1,hu=>simp [KS] at hu
        case d2=>rw [hLp];have:=I6.out.len;omega
        case d3=>have:=I6.aG.size;exact this
        intro v' w7 o7 g7 h7
        have NEW:=Hh (I6.push (c:=(a6,lk,c6)) U7 o7 (by simpa using g7));clear o7 g7 h7 I6 U7;obtain ⟨av',cv',ev',_⟩:=NEW.own.slice;generalize (hs ++ [(a6,lk,c6)]).length=Lp' at ev';subst ev';go_wp2
        go_roundw
        case rel=>exact ⟨k+1,hs ++ [(a6,lk,c6)],by omega,by go_num,NEW⟩
        case measure=>simp [intOf];omega
       ·obtain rfl:k=n:=by omega
        have TT:=Hh (TB.rdl (by rw [LL.out];exact I.out));have ZL:=Hh (Z5.rff);have GZ:=Hh (Z5.VH);have DV:Hid (∀ i:Nat,i < c.S.length->0<=(sat c.S i).2/\(sat c.S i).2 < 900000):=Hh (fun i hi=>by have:=OK.out.st i hi;exact ⟨this.2.1,by omega⟩)
        have CR:=Hh (fun W (b:Below wr.heap.size wr W)=>Eo (F:=Gz F r p vl) (w:=W) (fun j g=>cd (GZ j g) b.size) (HF:=(by
         obtain ⟨q1,q2,q3,q4⟩:=ZL
         exact ⟨q1,q2.below b,q3,fun i hi=>Fs.Rs.below (q4 i hi) b⟩)) (TT.below b) (Z5.lv.rd.below b) (Z5.sp.rd.below b) DV)
        unfold RrP at CR;have O5:=Hh (O4.then I.aG);have HB5:Hid (B<=wr.heap.size):=Hh (cG HB4 I.aG.size);have LOW:=Hh Z5.low
        have G2:Hid (∀ v9 ps9 w9,Below wr.heap.size wr w9->gM c.S T c.V=0->PR 51 wr.drew (Gz F r p vl) (mF c.S T c.V c.Q) (mF c.S T c.V c.Q).length v9 ps9 w9->V9 w B F r p vl vq c t (.returned (.int .i64 0)) (w9.setCell ⟨r,0,none⟩ v9)):=Hh (fun v9 ps9 w9 b9 e pr=>by
         have z:=(Z5.below b9).stores (w0:=wr.drew) (show B<=wr.drew.heap.size from HB5) pr (fun k g=>show k < wr.drew.heap.size from LOW k g)
         exact G1 0 v9 ps9 _ e.symm (by rw [aw e];exact z) ((O5.out.then b9).trans (Only.set (fun k=>k=r) w9 (a:=⟨r,0,none⟩) rfl v9) fun k _ g=>by rw [g];exact Z5.out.mine.1))
        have G3:Hid (∀ w9,Below wr.heap.size wr w9->¬ gM c.S T c.V=0->V9 w B F r p vl vq c t (.returned (.int .i64 (gM c.S T c.V))) w9):=Hh (fun w9 b9 e=>G1 _ _ ps w9 rfl (by rw [aq e];exact Z5.out.below b9) (O5.out.then b9));have CF:=Hh (fun w9 (b9:Below wr.heap.size wr w9)=>di (Z5.below b9).cells.1 ((Z5.below b9).Va 0));clear hpn hnS;go_upto_region 20 with fail;have l0:=bj _ _ d0;have l1:=bj _ _ d1;have l4:=bj _ _ d4;have D0:=Hh d0;have D1:=Hh d1;have D4:=Hh d4;clear d0 d1 d2 d3 d4;have s0:=Sc.ay (C:=fun W=>Below wr.heap.size wr W) (a:=⟨r,0,none⟩) (fun W' h=>(h.cell l0).trans D0);have s1:=Sc.ay (C:=fun W=>Below wr.heap.size wr W) (a:=⟨r,1,none⟩) (fun W' h=>(h.cell l1).trans D1);have s4:=Sc.ay (C:=fun W=>Below wr.heap.size wr W) (a:=⟨r,4,none⟩) (fun W' h=>(h.cell l4).trans D4);have BD:=Hh ((aa wr.heap.size wr).drew);have ne:Nonempty (Sc.In (fun W=>Below wr.heap.size wr W)):=⟨⟨_,BD⟩⟩;refine Sc.start (fun W=>Below wr.heap.size wr W) [(false,0),(false,1),(false,2),(false,3),(false,4),(false,5),(false,6),(false,7),(false,8),(false,9),(false,10),(false,11),(false,12),(true,13),(false,14),(false,15),(false,16),(false,17),(false,18)] (by kernel_rfl) (by kernel_rfl) (by kernel_rfl) BD ?_;dsimp only [Sd.aM,List.getElem?_cons_succ,List.getElem?_cons_zero]
        iterate 13 (refine Sd.lit ?_;quiet_step (fail);refine bk ?_)
        clear s0 s1 s4;refine Sd.call (by rfl) (fun K hK=>?_);go_simp;refine (CR _ BD).mono ?_;rintro e w9 ⟨v9,ps9,rfl,pr9,b9⟩;have B9:=aR BD b9;refine hK _ _ (Sc.Cl.of B9) ?_;clear hK K;have PR9:=Hh pr9;clear CR b9 pr9
        iterate 5 (refine Sd.lit ?_;quiet_step (fail);refine bk ?_)
        refine Sd.done ?_;clear Z5 I Z4 TT ZL GZ DV O4 HB4 O5 HB5 LOW G1 LT LL OKA BD D0 D1 D4 ne;obtain ⟨x0,x1⟩:=CF w9 B9;clear CF
        by_cases hE:gM c.S T c.V=0
        ·obtain ⟨a9,c9,e9,_,_⟩:=(PR9 hE).own.slice
         have E:=Hh (G2 v9 ps9 w9 B9 hE (PR9 hE));rw [e9] at E ⊢;generalize ps9.length=l9 at *;clear G2 G3 PR9;rw [hE];clear hE;go_wp2
         go_ret
         exact E
        ·have E:=Hh (G3 w9 B9 hE)
         have q1:(gM c.S T c.V == 0)=false:=cz.2 hE;have q2:decide (gM c.S T c.V=0)=false:=ai hE;clear G2 G3 PR9 hE;generalize gM c.S T c.V=E9 at *;go_wp2
         go_ret
         exact E
def nM (w:World) (B:Nat) (F:Nat->Prop) (r p:Nat) (vl:Value) (c:Cs) (t:Nat) (x:Ac) (e:Ending) (w':World):Prop:=∃ vs' ps' vl' vq',vl'.ownBlock=vl.ownBlock/\e = .returned (.int .i64 (aX x c))/\Rz B F r (bE x c) (t+1) vs' ps' vl' p vq' w'/\Only (Mine B F) w w'
theorem ad4 (c:Cs):(rC c).Q = []:=by
 unfold rC
 split
 ·rfl
 ·split <;> rfl
theorem NA (h:Rz B F r c t vs ps vl p vq w) (hB:B<=w.heap.size) (ok:kC c t) (ht:t<=1000) (x:Ac) (hk:x.k=1):Calls prog 12 #[.pointer (some ⟨r,0,none⟩),eG x] w (nM w B F r p vl c t x):=by
 have B0:=Hh ((aa w.heap.size w).alloc (ac _) (.cells (bC x) 44));have C1:=Hh (CP (h.below B0) (cG hB B0.size) ok ht);have EE:Hid (aX x c=rE c/\bE x c=rC c):=Hh ⟨aw hk,aw hk⟩
 have FIN:Hid (∀ vs' ps' w',Rz B F r { rC c with Q:=c.Q } (t+1) vs' ps' vl p vq w'->Only (Mine B F) w w'->nM w B F r p vl c t x (.returned (.int .i64 (rE c))) (w'.setCell ⟨r,4,none⟩ (.slice none 0 0))):=Hh (fun vs' ps' w' z o=>by
  refine ⟨vs',ps',vl,.slice none 0 0,rfl,by rw [EE.out.1],?_,o.trans (Only.set (fun k=>k=r) w' (a:=⟨r,4,none⟩) rfl _) fun k _ g=>by rw [g];exact z.mine.1⟩;rw [EE.out.2]
  exact z.cell (c':=rC c) 4 (.slice none 0 0) rfl rfl rfl rfl (by rw [ad4];exact Rw.Ow.nil _ _ _) (fun k e=>by simp [Value.ownBlock] at e))
 unfold V9 at C1;clear h ok EE;unfold eG bC;unfold bC at B0 C1;obtain ⟨k,n,f,rr,v,s,m,tt⟩:=x;simp only at hk B0 C1 ⊢;subst hk;generalize rE c=re at *;generalize ({ rC c with Q:=c.Q } : Cs)=c' at *
 go_enter func12,ntmps12
 go_wp2_with fail;refine C1.mono ?_;rintro e w1 ⟨vs',ps',rfl,z1,o1⟩;have O1:=Hh ((Only.of_below (G:=Mine B F) B0).trans o1 fun k _ g=>g);have E:=Hh (FIN vs' ps' w1 z1 O1);have d4:=z1.cells.2.2.2.2;have f4:=z1.Va 4;clear FIN C1 z1 o1 O1;go_wp2
 go_ret
 exact E
theorem Zh {a:Wt.A} (h:Wt.Pf w p a t):Wt.Pf w p a (t+1):=by
 obtain ⟨s0,s1,n,la,hr,hv⟩:=h;exact ⟨s0,s1,n,la,hr,⟨hv.b0,hv.b1,hv.bl,by have:=hv.bn;omega,hv.e0,hv.e1⟩⟩
theorem Rz.late (h:Rz B F r c t vs ps vl p vq w):Rz B F r c (t+1) vs ps vl p vq w:=⟨h.row,h.so,h.sl,h.st,h.WG,h.lv,Zh h.pr,h.sp,h.lo,h.nr,h.np,h.nv,h.low⟩
theorem lW (h:Rz B F r c t vs ps vl p vq w) (b:Below w.heap.size w w') (x:Ac) {z:Int} (hz:z=aX x c) (hc:bE x c=c):nM w B F r p vl c t x (.returned (.int .i64 z)) w' :=
 ⟨vs,ps,vl,vq,rfl,by rw [hz],by rw [hc];exact (h.below b).late,Only.of_below b⟩
theorem Uo (h:Rz B F r c t vs ps vl p vq w) (x:Ac) (hk:x.k=3) (hq:c.Q.length=32):Calls prog 12 #[.pointer (some ⟨r,0,none⟩),eG x] w (nM w B F r p vl c t x):=by
 have B0:=Hh ((aa w.heap.size w).alloc (ac _) (.cells (bC x) 44));have he:aX x c=11:=by
  unfold aX;rw [aq (by omega),aw hk,aw hq]
 have E:=Hh (lW h B0 x he.symm (by unfold bE;rw [aq (by omega),aw (by omega)]));have d4:=(h.below B0).cells.2.2.2.2;obtain ⟨qa,qc,rfl,_,_⟩:=h.sp.slice;rw [hq] at *;clear h he;unfold bC at B0 E d4;unfold eG bC;obtain ⟨k,n,f,rr,v,s,m,tt⟩:=x;simp only at hk B0 E d4 ⊢;subst hk
 go_enter func12,ntmps12
 go_wp2
 go_ret
 exact E
theorem Zc (h:Rz B F r c t vs ps vl p vq w) (x:Ac) (h1:x.k≠1) (h3:x.k≠3) (hb:x.k < 2\/6 < x.k\/no c x.n):Calls prog 12 #[.pointer (some ⟨r,0,none⟩),eG x] w (nM w B F r p vl c t x):=by
 have B0:=Hh ((aa w.heap.size w).alloc (ac _) (.cells (bC x) 44));have he:aX x c=1:=by
  unfold aX;rw [aq h1,aq h3,aw hb]
 have E:=Hh (fun w' b=>lW h (w':=w') b x he.symm (by unfold bE;rw [aq h1,aw (by omega)]));have d0:=(h.below B0).cells.1;have hl:=h.sl;obtain ⟨sa,sc,rfl,_,_⟩:=h.so.slice;rw [hl] at *;unfold no at hb;clear h he hl;unfold bC at B0 E d0;unfold eG bC;obtain ⟨k,n,f,rr,v,s,m,tt⟩:=x;simp only at h1 h3 hb B0 E d0 ⊢;generalize c.S.length=ln at *;have q1:=cz.2 h1;have q1':decide (k=1)=false:=ai h1;have q3:=cz.2 h3;have q3':decide (k=3)=false:=ai h3
 go_enter func12,ntmps12
 go_upto_region 10 with fail;clear h1 h3 q1 q1' q3 q3';have X0:=Hh (bh w (.cells #[.int .i64 k,.int .i64 n,.int .i64 f,.int .i64 rr,.int .u8 v.1,.int .u8 v.2.1,.int .u8 v.2.2.1,.int .u8 v.2.2.2,.int .i64 s,.int .i64 m,.int .i64 tt] 44));generalize w.alloc (.cells #[.int .i64 k,.int .i64 n,.int .i64 f,.int .i64 rr,.int .u8 v.1,.int .u8 v.2.1,.int .u8 v.2.2.1,.int .u8 v.2.2.2,.int .i64 s,.int .i64 m,.int .i64 tt] 44)=W at *;generalize w.heap.size=gx at X0 ⊢;obtain ⟨x0,x1⟩:=nN X0
 by_cases g1:k < 2
 ·have p1:decide (k < 2)=true:=bi g1
  clear hb
  go_quiet (fail)
  go_wp2
  go_ret
  exact E _ (db B0 _)
 ·have p1:decide (k < 2)=false:=ai g1
  by_cases g2:6 < k
  ·have p2:decide (6 < k)=true:=bi g2
   clear hb
   go_quiet (fail)
   go_wp2
   go_ret
   exact E _ (db B0 _)
  ·have p2:decide (6 < k)=false:=ai g2
   by_cases g3:n < 0
   ·have p3:decide (n < 0)=true:=bi g3
    clear hb
    go_quiet (fail)
    go_wp2
    go_ret
    exact E _ (db B0 _)
   ·have p3:decide (n < 0)=false:=ai g3
    have p4:decide ((ln:Int)<=n)=true:=bi (by omega);clear hb
    go_quiet (fail)
    go_wp2
    go_ret
    exact E _ (db B0 _)
theorem oO (x:Ac) (z:Int) (hz:aX x c=z) (h1:x.k≠1) (h:z≠0\/x.k=6):bE x c=c:=by
 unfold bE;rw [aq h1]
 by_cases e:aX x c≠0
 ·rw [aw e]
 ·rcases h with h | h
  ·exact absurd hz (fun g=>e (by rw [g];exact h))
  ·rw [aq e,aq (by omega),aq (by omega),aq (by omega),aq (by omega)]
theorem Qh (h:Rz B F r c t vs ps vl p vq w) (ok:kC c t) (x:Ac) (hk:x.k=6) (hn:¬ no c x.n):Calls prog 12 #[.pointer (some ⟨r,0,none⟩),eG x] w (nM w B F r p vl c t x):=by
 have B0:=Hh ((aa w.heap.size w).alloc (ac _) (.cells (bC x) 44));have he:aX x c=if x.t < -2000\/2000 < x.t then 1 else 0:=by
  unfold aX;rw [aq (by omega),aq (by omega),aq (by rintro (g | g | g);omega;omega;exact hn g),aq (by omega),aq (by omega),aq (by omega)]
 have E:=Hh (fun w' b z (hz:z=aX x c)=>lW h (w':=w') b x hz (oO x z hz.symm (by omega) (.inr hk)));have Z:=Hh (h.below B0);have d0:=Z.cells.1;have d1:=Z.cells.2.1;have hl:=h.sl;have hv:=ok.lv;have hlen:=ok.len;obtain ⟨sa,sc,rfl,_,_⟩:=h.so.slice;unfold no at hn;obtain ⟨gl,cl,rfl,_,_,_,_,_,hA⟩:=Z.lv.form (by omega);rw [hl] at d0;rw [hv] at d1;have cb:=Pa.Mf hA (i:=x.n.toNat) (by omega);rw [cX] at cb;clear h hl ok hA;unfold bC at B0 d0 d1 cb;unfold eG bC;obtain ⟨k,n,f,rr,v,s,m,tt⟩:=x;simp only at hk hn he B0 E d0 d1 cb ⊢;subst hk;obtain ⟨n,rfl⟩:∃ j:Nat,n=j:=⟨n.toNat,by omega⟩;rw [cg] at cb;generalize c.V.getD n false=lv at *;have hlt:n < c.S.length:=by omega
 generalize c.S.length=ln at *;rw [he] at E
 go_enter func12,ntmps12
 go_upto_region 10 with fail;have X0:=Hh (bh w (.cells #[.int .i64 6,.int .i64 n,.int .i64 f,.int .i64 rr,.int .u8 v.1,.int .u8 v.2.1,.int .u8 v.2.2.1,.int .u8 v.2.2.2,.int .i64 s,.int .i64 m,.int .i64 tt] 44));generalize w.alloc (.cells #[.int .i64 6,.int .i64 n,.int .i64 f,.int .i64 rr,.int .u8 v.1,.int .u8 v.2.1,.int .u8 v.2.2.1,.int .u8 v.2.2.2,.int .i64 s,.int .i64 m,.int .i64 tt] 44)=W at *;generalize w.heap.size=gx at X0 ⊢;have x0:=Fl.rc X0 0;have x1:=Fl.rc X0 1;have x10:=Fl.rc X0 10;have p3:decide ((n:Int) < 0)=false:=ai (by omega);have p4:decide ((ln:Int)<=(n:Int))=false:=ai (by omega);have p5:decide (ln<=n)=false:=ai (by omega);clear hn hv hlen he
 go_quiet (fail)
 go_wp2
 go_quiet (fail)
 generalize hW:(W.drewN _).drewN _=W3 at *;have B3:Hid (Below w.heap.size w W3):=Hh (by rw [← hW];exact db (db B0.out _) _);have X3:Hid (W3.heap[gx]? = some (.cells #[.int .i64 6,.int .i64 n,.int .i64 f,.int .i64 rr,.int .u8 v.1,.int .u8 v.2.1,.int .u8 v.2.2.1,.int .u8 v.2.2.2,.int .i64 s,.int .i64 m,.int .i64 tt] 44 (0,0))):=Hh (by rw [← hW];exact X0.out);clear hW x0 x1 x10 X0 d0 d1 cb Z B0;have x0:=Fl.rc X3 0;have x10:=Fl.rc X3 10;have E3:=Hh (fun z hz=>E W3 B3 z hz);clear E
 by_cases h1:tt < -2000
 ·have E4:=Hh (E3 1 (aw (.inl h1)).symm)
  clear E3;go_wp2
  go_ret
  exact E4
 ·by_cases h2:2000 < tt
  ·have E4:=Hh (E3 1 (aw (.inr h2)).symm)
   clear E3;go_wp2
   go_ret
   exact E4
  ·have E4:=Hh (E3 0 (aq (by omega)).symm)
   clear E3;go_wp2
   go_ret
   exact E4
theorem CJ (h:Rz B F r c t vs ps vl p vq w) (ok:kC c t) (x:Ac) (hk:x.k=2) (hn:¬ no c x.n) (hlv:bU c.V x.n=false):Calls prog 12 #[.pointer (some ⟨r,0,none⟩),eG x] w (nM w B F r p vl c t x):=by
 have B0:=Hh ((aa w.heap.size w).alloc (ac _) (.cells (bC x) 44));have he:aX x c=10:=by
  unfold aX;rw [aq (by omega),aq (by omega),aq (by rintro (g | g | g);omega;omega;exact hn g),aw hk,aq (by rw [hlv];decide)]
 have E:=Hh (fun w' b=>lW h (w':=w') b x he.symm (oO x 10 he (by omega) (.inl (by decide))));have Z:=Hh (h.below B0);have d0:=Z.cells.1;have d1:=Z.cells.2.1;have hl:=h.sl;have hv:=ok.lv;have hlen:=ok.len;obtain ⟨sa,sc,rfl,_,_⟩:=h.so.slice;unfold no at hn;obtain ⟨gl,cl,rfl,_,_,_,_,_,hA⟩:=Z.lv.form (by omega);rw [hl] at d0;rw [hv] at d1;have cb:=Pa.Mf hA (i:=x.n.toNat) (by omega);rw [cX] at cb;clear h hl ok hA;unfold bC at B0 d0 d1 cb;unfold eG bC;obtain ⟨k,n,f,rr,v,s,m,tt⟩:=x;simp only at hk hn hlv he B0 E d0 d1 cb ⊢;subst hk;obtain ⟨n,rfl⟩:∃ j:Nat,n=j:=⟨n.toNat,by omega⟩;rw [cg] at cb;have hlv':c.V.getD n false=false:=by unfold bU at hlv;rw [cg] at hlv;exact hlv
 rw [hlv'] at cb;clear hlv hlv';have hlt:n < c.S.length:=by omega
 generalize c.S.length=ln at *
 go_enter func12,ntmps12
 go_upto_region 10 with fail;have X0:=Hh (bh w (.cells #[.int .i64 2,.int .i64 n,.int .i64 f,.int .i64 rr,.int .u8 v.1,.int .u8 v.2.1,.int .u8 v.2.2.1,.int .u8 v.2.2.2,.int .i64 s,.int .i64 m,.int .i64 tt] 44));generalize w.alloc (.cells #[.int .i64 2,.int .i64 n,.int .i64 f,.int .i64 rr,.int .u8 v.1,.int .u8 v.2.1,.int .u8 v.2.2.1,.int .u8 v.2.2.2,.int .i64 s,.int .i64 m,.int .i64 tt] 44)=W at *;generalize w.heap.size=gx at X0 ⊢;obtain ⟨x0,x1⟩:=nN X0;have p3:decide ((n:Int) < 0)=false:=ai (by omega);have p4:decide ((ln:Int)<=(n:Int))=false:=ai (by omega);have p5:decide (ln<=n)=false:=ai (by omega);clear hn hv hlen he
 go_quiet (fail)
 go_wp2
 go_quiet (fail)
 generalize hW:(W.drewN _).drewN _=W3 at *;have B3:Hid (Below w.heap.size w W3):=Hh (by rw [← hW];exact db (db B0.out _) _);have X3:Hid (W3.heap[gx]? = some (.cells #[.int .i64 2,.int .i64 n,.int .i64 f,.int .i64 rr,.int .u8 v.1,.int .u8 v.2.1,.int .u8 v.2.2.1,.int .u8 v.2.2.2,.int .i64 s,.int .i64 m,.int .i64 tt] 44 (0,0))):=Hh (by rw [← hW];exact X0.out);clear hW x0 x1 X0 d0 d1 cb Z B0;have x0:=Fl.rc X3 0;have E3:=Hh (E W3 B3);clear E;go_wp2
 go_ret
 exact E3
theorem Bq (h:Rz B F r c t vs ps vl p vq w) (ok:kC c t) (x:Ac) (hk:x.k=4) (hn:¬ no c x.n) (hlv:bU c.V x.n=false):Calls prog 12 #[.pointer (some ⟨r,0,none⟩),eG x] w (nM w B F r p vl c t x):=by
 have B0:=Hh ((aa w.heap.size w).alloc (ac _) (.cells (bC x) 44));have he:aX x c=10:=by
  unfold aX;rw [aq (by omega),aq (by omega),aq (by rintro (g | g | g);omega;omega;exact hn g),aq (by omega),aw hk,aq (by rw [hlv];decide)]
 have E:=Hh (fun w' b=>lW h (w':=w') b x he.symm (oO x 10 he (by omega) (.inl (by decide))));have Z:=Hh (h.below B0);have d0:=Z.cells.1;have d1:=Z.cells.2.1;have hl:=h.sl;have hv:=ok.lv;have hlen:=ok.len;obtain ⟨sa,sc,rfl,_,_⟩:=h.so.slice;unfold no at hn;obtain ⟨gl,cl,rfl,_,_,_,_,_,hA⟩:=Z.lv.form (by omega);rw [hl] at d0;rw [hv] at d1;have cb:=Pa.Mf hA (i:=x.n.toNat) (by omega);rw [cX] at cb;clear h hl ok hA;unfold bC at B0 d0 d1 cb;unfold eG bC;obtain ⟨k,n,f,rr,v,s,m,tt⟩:=x;simp only at hk hn hlv he B0 E d0 d1 cb ⊢;subst hk;obtain ⟨n,rfl⟩:∃ j:Nat,n=j:=⟨n.toNat,by omega⟩;rw [cg] at cb;have hlv':c.V.getD n false=false:=by unfold bU at hlv;rw [cg] at hlv;exact hlv
 rw [hlv'] at cb;clear hlv hlv';have hlt:n < c.S.length:=by omega
 generalize c.S.length=ln at *
 go_enter func12,ntmps12
 go_upto_region 10 with fail;have X0:=Hh (bh w (.cells #[.int .i64 4,.int .i64 n,.int .i64 f,.int .i64 rr,.int .u8 v.1,.int .u8 v.2.1,.int .u8 v.2.2.1,.int .u8 v.2.2.2,.int .i64 s,.int .i64 m,.int .i64 tt] 44));generalize w.alloc (.cells #[.int .i64 4,.int .i64 n,.int .i64 f,.int .i64 rr,.int .u8 v.1,.int .u8 v.2.1,.int .u8 v.2.2.1,.int .u8 v.2.2.2,.int .i64 s,.int .i64 m,.int .i64 tt] 44)=W at *;generalize w.heap.size=gx at X0 ⊢;obtain ⟨x0,x1⟩:=nN X0;have p3:decide ((n:Int) < 0)=false:=ai (by omega);have p4:decide ((ln:Int)<=(n:Int))=false:=ai (by omega);have p5:decide (ln<=n)=false:=ai (by omega);clear hn hv hlen he
 go_quiet (fail)
 go_wp2
 go_quiet (fail)
 generalize hW:(W.drewN _).drewN _=W3 at *;have B3:Hid (Below w.heap.size w W3):=Hh (by rw [← hW];exact db (db B0.out _) _);have X3:Hid (W3.heap[gx]? = some (.cells #[.int .i64 4,.int .i64 n,.int .i64 f,.int .i64 rr,.int .u8 v.1,.int .u8 v.2.1,.int .u8 v.2.2.1,.int .u8 v.2.2.2,.int .i64 s,.int .i64 m,.int .i64 tt] 44 (0,0))):=Hh (by rw [← hW];exact X0.out);clear hW x0 x1 X0 d0 d1 cb Z B0;have x0:=Fl.rc X3 0;have E3:=Hh (E W3 B3);clear E;go_wp2
 go_ret
 exact E3
theorem y8 (h:Rz B F r c t vs ps vl p vq w) (ok:kC c t) (x:Ac) (hk:x.k=5) (hn:¬ no c x.n) (hlv:bU c.V x.n=true):Calls prog 12 #[.pointer (some ⟨r,0,none⟩),eG x] w (nM w B F r p vl c t x):=by
 have B0:=Hh ((aa w.heap.size w).alloc (ac _) (.cells (bC x) 44));have he:aX x c=10:=by
  unfold aX;rw [aq (by omega),aq (by omega),aq (by rintro (g | g | g);omega;omega;exact hn g),aq (by omega),aq (by omega),aw hk,aw hlv]
 have E:=Hh (fun w' b=>lW h (w':=w') b x he.symm (oO x 10 he (by omega) (.inl (by decide))));have Z:=Hh (h.below B0);have d0:=Z.cells.1;have d1:=Z.cells.2.1;have hl:=h.sl;have hv:=ok.lv;have hlen:=ok.len;obtain ⟨sa,sc,rfl,_,_⟩:=h.so.slice;unfold no at hn;obtain ⟨gl,cl,rfl,_,_,_,_,_,hA⟩:=Z.lv.form (by omega);rw [hl] at d0;rw [hv] at d1;have cb:=Pa.Mf hA (i:=x.n.toNat) (by omega);rw [cX] at cb;clear h hl ok hA;unfold bC at B0 d0 d1 cb;unfold eG bC;obtain ⟨k,n,f,rr,v,s,m,tt⟩:=x;simp only at hk hn hlv he B0 E d0 d1 cb ⊢;subst hk;obtain ⟨n,rfl⟩:∃ j:Nat,n=j:=⟨n.toNat,by omega⟩;rw [cg] at cb;have hlv':c.V.getD n false=true:=by unfold bU at hlv;rw [cg] at hlv;exact hlv
 rw [hlv'] at cb;clear hlv hlv';have hlt:n < c.S.length:=by omega
 generalize c.S.length=ln at *
 go_enter func12,ntmps12
 go_upto_region 10 with fail;have X0:=Hh (bh w (.cells #[.int .i64 5,.int .i64 n,.int .i64 f,.int .i64 rr,.int .u8 v.1,.int .u8 v.2.1,.int .u8 v.2.2.1,.int .u8 v.2.2.2,.int .i64 s,.int .i64 m,.int .i64 tt] 44));generalize w.alloc (.cells #[.int .i64 5,.int .i64 n,.int .i64 f,.int .i64 rr,.int .u8 v.1,.int .u8 v.2.1,.int .u8 v.2.2.1,.int .u8 v.2.2.2,.int .i64 s,.int .i64 m,.int .i64 tt] 44)=W at *;generalize w.heap.size=gx at X0 ⊢;obtain ⟨x0,x1⟩:=nN X0;have p3:decide ((n:Int) < 0)=false:=ai (by omega);have p4:decide ((ln:Int)<=(n:Int))=false:=ai (by omega);have p5:decide (ln<=n)=false:=ai (by omega);clear hn hv hlen he
 go_quiet (fail)
 go_wp2
 go_quiet (fail)
 generalize hW:(W.drewN _).drewN _=W3 at *;have B3:Hid (Below w.heap.size w W3):=Hh (by rw [← hW];exact db (db B0.out _) _);have X3:Hid (W3.heap[gx]? = some (.cells #[.int .i64 5,.int .i64 n,.int .i64 f,.int .i64 rr,.int .u8 v.1,.int .u8 v.2.1,.int .u8 v.2.2.1,.int .u8 v.2.2.2,.int .i64 s,.int .i64 m,.int .i64 tt] 44 (0,0))):=Hh (by rw [← hW];exact X0.out);clear hW x0 x1 X0 d0 d1 cb Z B0;have x0:=Fl.rc X3 0;have E3:=Hh (E W3 B3);clear E;go_wp2
 go_ret
 exact E3
end Cu
namespace Pa
open Go.Maps
open Fs (St qA DN fZ kI rA Kk Cx iU at3 E3)
open Ck (sl)
attribute [local irreducible] Sd.aW wpQuiet Sg.cK
variable {P:Program}
theorem Xa {l:List Oper} (f:Sg.Fl) (o:Oper) (t:TypeId) (z:Value) (bytes:Nat) {s:Nat} {v:Value} (ho:l.toArray[f.idx]? = some o) (hd:o.dst=some f.slot) (hg:o.guard=none) (hsv:f.sv=some (s,v)) (hop:o.op = .buildSlice t 1 #[(0,.tmp s)]) (hu:P.underlying t=some (.slice f.ty))
 (hi:(P.info? f.ty).map (fun i=>(i.zero,i.size,i.bytes))=some (some z,1,bytes)) (hv:v.cells=#[v]) (hcs:f.cs=#[v]:=by rfl) (hfn:f.n=some 1:=by rfl):Sg.zY P l f:=by
 obtain ⟨i0,hi0,hz0,hz1,hz2⟩:=eE hi;refine ⟨o,ho,hd,hg,fun a0 w h0=>?_⟩;have hρ:a0.eval (.tmp s)=v:=h0 s v hsv;clear h0;generalize a0.eval=ρ at *;unfold execOp;have hf:Instr.fill (fun i=>some (i * i0.size,i0.size)) ((Array.range (1 * i0.size)).map (z.cells[· % z.cells.size]!)) ((#[(0,Operand.tmp s)]:Array (Nat×Operand)).map fun (i,x)=>(i,ρ x)).toList=some #[v]:=by
  rw [hz1]
  simp [Instr.fill,hρ,hv]
  rw [show Array.range 1=#[0] from rfl,show ∀ g:Nat->Value,Array.map g #[0]=#[g 0] from fun g=>by simp]
  rfl
 rw [hcs,hfn];simp only [hop,Sem.run_bind,run_buildSlice w t f.ty 1 _ #[v] i0 z hu hi0 hz0 (by rw [hz1];omega) (by rw [hz1];omega) hf,Result.andThen_ok]
 rfl
variable {ops:Array Oper} {C:World->Prop} {K:Act->Prop} {a:Act}
theorem ZA {o:Oper} {r:List Oper} (h:wpQuiet P ops C (fun a'=>Sg.Tf P ops C K r a') [o] a):Sg.Tf P ops C K (o :: r) a:=h
theorem Zp (h:K a):Sg.Tf P ops C K [] a:=h
end Pa
namespace Cu
open Go.Maps
open Pa (ZA Zp)
attribute [local irreducible] Sd.aW wpQuiet Sg.cK
theorem yB:(prog.info? 95).map (fun i=>(i.zero,i.size,i.bytes))=some (some (.agg #[.int .i64 0,.int .i64 0]),2,16):=by kernel_rfl
variable {α:Type} {w:World} {B g bytes s r t p:Nat}
theorem aaB {K:Kind α} {E:Nat} (h:w.heap[g]? = some (.cells #[] E (0,0))) (hB:B<=g):Ow K w B E (.slice (some ⟨g,0,none⟩) 0 0) [] :=
 ⟨by show (K.flat ([]:List α)).length=0 * K.n;simp [Rw.Kind.flat],.inr ⟨g,0,#[],rfl,hB,h,ac _,by unfold maxLen;omega,by simp,by simp [Rw.Kind.flat]⟩⟩
variable {P:Program}
theorem XK {K:Kind α} {E:TypeId} {o:Oper} {a:Act} {KK:Act->World->Prop} {Q:Exit->Act->World->Prop} {T:TypeId} {z:Value} (ht:P.underlying T=some (.slice E))
 (hi:(P.info? E).map (fun i=>(i.zero,i.size,i.bytes))=some (some z,K.n,bytes)) (hz:z.cells.size=K.n) (hby:bytes<=64) (s x:Operand)
 (ho:o.op = .call { callee:=.builtin .append,args:=#[s,x],argTypes:=#[T,T] }) (B g:Nat) (hs:a.eval s = .slice (some ⟨g,0,none⟩) 0 0) (hr:w.heap[g]? = some (.cells #[] E (0,0))) (hB:B<=g)
 (u:Value) (y:List α) (hx:a.eval x=u) (hu:Rd K w u y) (hlen:y.length < 2199023255552)
 (h:∀ v' w',Ow K w' B E v' y->Below w.heap.size w w'->KK (a.put o.dst v') w'):o.wp P a w KK Q:=by
 have lt:=bm hr
 by_cases h0:0 < y.length
 ·obtain ⟨ad,cap,rfl,h1,h2,h3⟩:=hu
  obtain ⟨b,off,rfl,hA⟩:=h3 h0;exact Fl.Ml ht hi hz hby s x ho ⟨g,0,none⟩ hs b off cap y hx hA h0 hlen fun v' w' hv b=>h v' w' (hv.low (by omega)) b
 ·have ey:y = []:=eN.1 (by omega)
  subst ey;obtain ⟨i0,hi0,hz0,hz1,hz2⟩:=eE hi;obtain ⟨ad,cap,rfl,h1,h2,h3⟩:=hu;have hx':=hx;have hrun:(Builtin.append_ #[T,T] o.type #[.slice (some ⟨g,0,none⟩) 0 0,.slice ad 0 cap]).run P w = .ok (.slice (some ⟨g,0,none⟩) 0 0) w:=by
   cases ad with
   | none=>simp [Builtin.append_,run_underlying ht,sizeOf,typeInfo,hi0,Builtin.lenOf,Builtin.firstCells,storeCells]
   | some ad=>simp [Builtin.append_,run_underlying ht,sizeOf,typeInfo,hi0,Builtin.lenOf,Builtin.firstCells,storeCells,loadCells,loadCellsFrom,storeCells,Result.andThen]
  have k:=h _ w (aaB (K:=K) hr hB) (aa _ _);unfold Oper.wp
  simp [execOp,ho,resolve,invoke,builtin,hs,hx',hrun,Result.andThen]
  exact k
variable {l:List Oper}
theorem ZE (f:Sg.Fl) (o:Oper) (t:TypeId) (z:Value) (size bytes:Nat) (ho:l.toArray[f.idx]? = some o) (hd:o.dst=some f.slot) (hg:o.guard=none) (hop:o.op = .buildSlice t 0 #[]) (hu:P.underlying t=some (.slice f.ty))
 (hi:(P.info? f.ty).map (fun i=>(i.zero,i.size,i.bytes))=some (some z,size,bytes)) (hcs:f.cs=#[]) (hfn:f.n=some 0):Sg.zY P l f:=by
 obtain ⟨i0,hi0,hz0,hz1,hz2⟩:=eE hi;refine ⟨o,ho,hd,hg,fun a0 w _=>?_⟩;generalize a0.eval=ρ at *;unfold execOp;have hr:(Instr.buildSlice t 0 #[]).run P w = .ok (.slice (some ⟨w.heap.size,0,none⟩) 0 0) (w.alloc (.cells #[] f.ty)):=by
  simp [Instr.buildSlice,run_underlying hu,sizeOf,typeInfo,hi0,newRow,Instr.fill,show Array.range 0=#[] from rfl]
 have hm:(Array.map (fun x:Nat×Operand=>(x.fst,ρ x.snd)) #[])=#[]:=by simp
 rw [hcs,hfn];simp only [hop,Sem.run_bind,hm,hr,Result.andThen_ok]
 rfl
theorem aaP (f:Sg.Fl) (o:Oper) (t:TypeId) (z:Value) (bytes:Nat) (x y:Value) (ho:l.toArray[f.idx]? = some o) (hd:o.dst=some f.slot) (hg:o.guard=none) (hsv:f.sv=some (s,.agg #[x,y])) (hop:o.op = .buildSlice t 1 #[(0,.tmp s)]) (hu:P.underlying t=some (.slice f.ty))
 (hi:(P.info? f.ty).map (fun i=>(i.zero,i.size,i.bytes))=some (some z,2,bytes)) (hcs:f.cs=#[x,y]) (hfn:f.n=some 1):Sg.zY P l f:=by
 obtain ⟨i0,hi0,hz0,hz1,hz2⟩:=eE hi;refine ⟨o,ho,hd,hg,fun a0 w h0=>?_⟩;have hρ:a0.eval (.tmp s) = .agg #[x,y]:=h0 s _ hsv;clear h0;generalize a0.eval=ρ at *;unfold execOp;have hf:Instr.fill (fun i=>some (i * i0.size,i0.size)) ((Array.range (1 * i0.size)).map (z.cells[· % z.cells.size]!)) ((#[(0,Operand.tmp s)]:Array (Nat×Operand)).map fun (i,x)=>(i,ρ x)).toList=some #[x,y]:=by
  rw [hz1]
  simp [Instr.fill,hρ,Value.cells]
  rw [show Array.range 2=#[0,1] from rfl,show ∀ g:Nat->Value,Array.map g #[0,1]=#[g 0,g 1] from fun g=>by simp]
  rfl
 rw [hcs,hfn];simp only [hop,Sem.run_bind,run_buildSlice w t f.ty 1 _ #[x,y] i0 z hu hi0 hz0 (by rw [hz1];omega) (by rw [hz1];omega) hf,Result.andThen_ok]
 rfl
theorem Qa {F:Nat->Prop} {c:Cs} {vs vl vq:Value} {ps:List Nat} (h:Rz B F r c t vs ps vl p vq w) (hB:B<=w.heap.size) (x:Ac) (hk:x.k=3) (hq:c.Q.length≠32) (hq2:c.Q.length<=32):Calls prog 12 #[.pointer (some ⟨r,0,none⟩),eG x] w (nM w B F r p vl c t x):=by
 have B0:=Hh ((aa w.heap.size w).alloc (ac _) (.cells (bC x) 44));have he:aX x c=0:=by
  unfold aX;rw [aq (by omega),aw hk,aq hq]
 have hc:bE x c = { c with Q:=c.Q ++ [(x.s,x.m)] }:=by
  unfold bE;rw [aq (by omega),aq (by rw [he];simp),aw hk]
 have Z:=Hh (h.below B0)
 have FIN:Hid (∀ W w' v',Below w.heap.size w W->Below W.heap.size W w'->Ow K2 w' W.heap.size 95 v' (c.Q ++ [(x.s,x.m)])->nM w B F r p vl c t x (.returned (.int .i64 0)) (w'.setCell ⟨r,4,none⟩ v')):=Hh (fun W w' v' b0 b hv=>by
  have b1:=b0.trans (b.mono b0.size)
  have z:=((h.below b1).cell (c':={ c with Q:=c.Q ++ [(x.s,x.m)] }) 4 v' rfl rfl rfl rfl (hv.low (by have:=b0.size;omega)) (fun k e g=>by
   have:=(ci hv k e).1;have:=h.low k g;have:=b0.size
   omega)).late
  refine ⟨vs,ps,vl,v',rfl,by rw [he],by rw [hc];exact z,(Only.of_below (G:=Mine B F) b1).trans (Only.set (fun k=>k=r) w' (a:=⟨r,4,none⟩) rfl _) fun k _ g=>by rw [g];exact h.mine.1⟩)
 have SP:=Hh Z.sp;have d4:=Z.cells.2.2.2.2;have g4:=Z.Va 4;have LR:=Z.QY;obtain ⟨qa,qc,rfl,_,_⟩:=h.sp.slice;have HQ:=Hh (di hq hq2);have hq':=cz.2 (by omega);clear h he hc hq hq2;generalize hln:c.Q.length=ln at *;have HLN:=Hh hln;clear hln;unfold bC at B0 SP d4 g4 LR Z;unfold eG bC;obtain ⟨k,n,f,rr,v,s,m,tt⟩:=x;simp only at hk B0 SP d4 g4 LR Z FIN ⊢;subst hk
 go_enter func12,ntmps12
 go_upto_region 8 with fail;clear hq';have X0:=Hh (bh w (.cells #[.int .i64 3,.int .i64 n,.int .i64 f,.int .i64 rr,.int .u8 v.1,.int .u8 v.2.1,.int .u8 v.2.2.1,.int .u8 v.2.2.2,.int .i64 s,.int .i64 m,.int .i64 tt] 44));generalize w.alloc (.cells #[.int .i64 3,.int .i64 n,.int .i64 f,.int .i64 rr,.int .u8 v.1,.int .u8 v.2.1,.int .u8 v.2.2.1,.int .u8 v.2.2.2,.int .i64 s,.int .i64 m,.int .i64 tt] 44)=W at *;generalize w.heap.size=gx at X0 ⊢;have lx:=bm X0;have x0:=Sc.ay (C:=Below W.heap.size W) (a:=⟨r,4,none⟩) (fun W' h=>(h.cell LR).trans d4);have x1:=Sc.ay (C:=Below W.heap.size W) (a:=⟨gx,8,none⟩) (fun W' h=>(h.cell lx).trans (ah X0 8));have x2:=Sc.ay (C:=Below W.heap.size W) (a:=⟨gx,9,none⟩) (fun W' h=>(h.cell lx).trans (ah X0 9));have ne:Nonempty (Sc.In (Below W.heap.size W)):=⟨⟨_,aa _ _⟩⟩;refine Sg.ab3 (Below W.heap.size W) [0,2,3,4,5,7,8,9,10,11] [(2,1),(1,6),(2,12),(1,13)] [14,15,16]
  [⟨1,26,#[],95,none,some 0⟩,⟨12,37,#[.int .i64 s,.int .i64 m],95,some (36,.agg #[.int .i64 s,.int .i64 m]),some 1⟩]
  (by kernel_rfl) (by kernel_rfl) (by kernel_rfl) (by kernel_rfl) (by rfl) (by show ([26,37]:List Nat).Nodup;decide)
  (by intro f hf f' hf';simp only [cj,cY,fX] at hf hf';rcases hf with rfl | rfl <;> rcases hf' with rfl | rfl <;> simp)
  (by intro f hf f' hf';simp only [cj,cY,fX] at hf hf';rcases hf with rfl | rfl <;> rcases hf' with rfl | rfl <;> simp)
  (by
    intro f hf
    simp only [cj,cY,fX] at hf
    rcases hf with rfl | rfl
    ·exact ZE _ _ _ _ _ _ rfl rfl rfl rfl underlying37 yB rfl rfl
    ·exact aaP _ _ _ _ _ _ _ rfl rfl rfl rfl rfl underlying37 yB rfl rfl)
  ((aa _ _).drew) (fun W' h=>h.size) (fun W' o h=>h.alloc h.size o) ?_
 dsimp only [Sg.dG,List.getElem?_cons_succ,List.getElem?_cons_zero]
 repeat (refine ZA ?_;quiet_step (fail);refine bk ?_)
 refine Zp ⟨fun f hf=>by simp only [cj,cY,fX] at hf;rcases hf with rfl | rfl <;> (intro s v e;cases e <;> rfl),?_⟩;dsimp only [Sg.aM,List.getElem?_cons_succ,List.getElem?_cons_zero];clear x0 x1 x2;refine Sg.meet (fun g1 wm hb hc row n1 hH hL=>?_);have R1:=Hh row;have N1:=Hh n1;clear hb hc row n1 hH hL;go_simp;refine Sg.call (fun xs w2 hb hc=>⟨by rfl,fun K hK=>?_⟩);have r1:=iP hb R1;have bw:Below W.heap.size W w2:=by obtain ⟨p,rfl⟩:=hc;exact p.ok
 clear hb hc R1;simp only [Sg.fill,cy,br];refine XK (K:=K2) underlying37 yB rfl (by omega) _ _ rfl W.heap.size g1 (by rfl) r1 N1.out (.slice qa ln qc) c.Q (by rfl) (SP.out.rd.below bw) (by have:=HQ.out.2;have:=HLN.out;omega) ?_
 intro v' w3 own bl
 have B3:=Hh (bw.trans (bl.mono bw.size));refine hK _ _ (Sc.Cl.of B3) bl.size (fun g hg hl=>bl.block g hl) ?_;have O3:=Hh own;clear hK K own bl r1 bw N1;refine Sg.meet (fun g2 wm hb hc row n2 hH hL=>?_);have R2:=Hh row;have O4:=Hh (O3.keep hb);clear hb hc row n2 hH hL O3;go_simp;refine Sg.aap (fun xs w4 hb hc=>⟨by rfl,fun K hK=>?_⟩);have r2:=iP hb R2;have bw:Below W.heap.size W w4:=by obtain ⟨p,rfl⟩:=hc;exact p.ok
 have O5:=O4.keep hb;clear hb hc R2 O4;simp only [Sg.fill,br]
 refine bT (K:=K2) underlying37 yB rfl (by omega) _ _ rfl W.heap.size v' c.Q rfl O5 ⟨g2,0,none⟩ (s,m) (by rfl) (fun j u hu=>by
  match j,hu with
  | 0,hu =>
    simp [K2] at hu
    subst hu;rw [Ck.iK];exact ah r2 0
  | 1,hu =>
    simp [K2] at hu
    subst hu;exact ah r2 1
  | j+2,hu=>simp [K2] at hu) (by have:=HQ.out.2;have:=HLN.out;omega) bw.size ?_
 intro v2 w5 own gr hq
 have b5:=bw.grown gr bw.size fun k e=>(ci O5 k e).1;refine hK _ _ (Sc.Cl.of b5) gr.size ?_;have OW:=Hh own;have B5:=Hh b5;clear hK K own gr hq r2 bw O5 b5;refine Sg.ZZ (fun w6 hb hc=>?_);have b6:=aR B5 hb;have E:=Hh (FIN W w6 v2 B0 b6 (OW.keep hb));obtain ⟨a2,cap2,rfl,_⟩:=OW.slice;generalize (c.Q ++ [(s,m)]).length=l2 at *;have c4:=(b6.cell LR).trans d4;have f4:=(b6.frozen LR).trans g4;clear hb hc OW B5 FIN b6 d4 g4;dsimp only [Sg.dG,List.getElem?_cons_succ,List.getElem?_cons_zero];refine Sg.lastT (fun K hK=>?_);go_simp;refine hK _ _ ?_;clear hK K;refine Sg.lastT (fun K hK=>?_);go_simp;refine hK _ _ ?_;clear hK K;refine Sg.lastT (fun K hK=>?_);go_simp;refine hK _ _ ?_;clear hK K;refine Sg.ac3 ?_;go_wp2
 go_ret
 exact E
end Cu
namespace Cu
open Go.Maps
def Fw (w:World) (B:Nat) (k:Nat):Prop:=B<=k/\k < w.heap.size
theorem Uk {S:bO} {x:aP×Int} (i:Nat):sat (S ++ [x]) i=if i < S.length then sat S i else if i=S.length then x else ([],0):=by
 unfold sat;rw [cg,af,List.getElem?_append]
 split
 ·rw [af]
 ·split
  ·rename_i h h2
   subst h2
   simp
  ·rename_i h h2
   rw [eI (by simp;omega)]
   rfl
variable {i B0 r p s:Nat}
theorem wM {l:List Nat} {x:Nat} (hi:i < l.length+1):(l ++ [x]).getD i 0=if i < l.length then l.getD i 0 else x:=by
 rw [af,List.getElem?_append]
 split
 ·rw [af]
 ·obtain rfl:i=l.length:=by omega
  simp
def Wn (r:Nat) (vs vl:Value) (k:Nat):Prop:=k=r\/vs.ownBlock=some k\/vl.ownBlock=some k
variable {w wr wm wf w1 w':World} {vs vl vs' vl':Value} {ps:List Nat}
theorem Rz.push {c:Cs} {A:aP} (h:Rz w.heap.size (Fw w B0) r c 0 vs ps vl p (.slice none 0 0) wr) (hB0:B0<=w.heap.size) (hw:w.heap.size<=wr.heap.size) (hq:c.Q = []) (b:Below wr.heap.size wr wm) (hs0:wr.heap.size<=s) (hs1:s < wm.heap.size)
 (hs:Rs wm s (fun k=>B0<=k/\k < wr.heap.size) A 0) (o:Only (Wn r vs vl) wm wf)
 (row:wf.heap[r]? = some (.cells #[vs',vl',.pointer (some ⟨p,0,none⟩),.int .i64 c.pl,.slice none 0 0] 39 (0,0)))
 (so:Ow KN wf w.heap.size 51 vs' (ps ++ [s])) (so':vs'.ownBlock=vs.ownBlock\/∃ g,vs'.ownBlock=some g/\wm.heap.size<=g)
 (lv:Ow KB wf w.heap.size 4 vl' (c.V ++ [true])) (lv':vl'.ownBlock=vl.ownBlock\/∃ g,vl'.ownBlock=some g/\wm.heap.size<=g) :
 Rz w.heap.size (Fw w B0) r { c with S:=c.S ++ [(A,0)],V:=c.V ++ [true] } 0 vs' (ps ++ [s]) vl' p (.slice none 0 0) wf:=by
 have hsl:=h.sl;have hm:=b.size;have nb:∀ {v' v:Value},(v'.ownBlock=v.ownBlock\/∃ g,v'.ownBlock=some g/\wm.heap.size<=g)->∀ k,v'.ownBlock=some k->v.ownBlock=some k\/wm.heap.size<=k:=fun hv k e=>by
  rcases hv with q | ⟨g,q,hg⟩
  ·exact .inl (q ▸ e)
  ·rw [q] at e
   injection e with e;exact .inr (e ▸ hg)
 have vb:∀ k,vs.ownBlock=some k\/vl.ownBlock=some k->w.heap.size<=k/\k < wr.heap.size:=fun k g=>h.Yo k (by rcases g with g | g;exact .inl g;exact .inr (.inl g));refine ⟨row,so,by simp [hsl],fun i hi=>?_,fun i hi=>?_,lv,?_,by show Ow K2 wf _ _ _ c.Q;rw [hq];exact Rw.Ow.nil _ _ _,h.lo,h.nr,h.np,fun k g q=>?_,fun k g=>by have:=h.low k g;have:=o.size;omega⟩
 ·rw [cI,gE] at hi
  rw [wM hi,Uk]
  by_cases hil:i < ps.length
  ·rw [aw hil,aw (by omega)]
   have r1:=Fs.Rs.only (h.st i hil) (Only.of_below b)
   have r2:=Fs.Rs.only r1 (o.mono fun k _ g=>by
    rcases g with g | g | g
    ·exact .inl (.inl (.inr (.inl g)))
    ·exact .inl (.inr (.inl g))
    ·exact .inl (.inl (.inr (.inr (.inr g)))))
   refine eD r2 fun k hk g=>?_
   rcases g with g | g | ⟨m,hmm,hmi,rfl⟩
   ·rcases g with g | g | g | g
    ·exact .inl (.inl (.inl (.inl g)))
    ·exact .inl (.inl (.inl (.inr (.inl g))))
    ·exact .inl (.inl (.inl (.inr (.inr (.inl g)))))
    ·rcases nb lv' k g with g | g
     ·exact .inl (.inl (.inl (.inr (.inr (.inr g)))))
     ·exact .inr ⟨g,hk⟩
   ·rcases nb so' k g with g | g
    ·exact .inl (.inl (.inr (.inl g)))
    ·exact .inr ⟨g,hk⟩
   ·rw [cI,gE] at hmm
    rw [wM hmm]
    by_cases hml:m < ps.length
    ·rw [aw hml]
     exact .inl (.inl (.inr (.inr ⟨m,hml,hmi,rfl⟩)))
    ·rw [aq hml]
     exact .inl (.inr ⟨hs0,hs1⟩)
  ·rw [aq hil,aq (by omega),aw (by omega)]
   have r2:=Fs.Rs.only hs (o.mono fun k _ g=>by
    rcases g with g | g
    ·subst g;exact ⟨by have:=h.lo.1;omega,h.QY⟩
    ·have:=vb k g;exact ⟨by omega,this.2⟩)
   refine eD r2 fun k hk g=>?_
   rcases g with g | g | ⟨m,hmm,hmi,rfl⟩
   ·rcases g with g | g | g | g
    ·exact .inl ⟨g.1,h.low k g⟩
    ·subst g;exact .inl ⟨by have:=h.lo.1;omega,h.QY⟩
    ·subst g;exact .inl ⟨by have:=h.lo.2;omega,h.plt⟩
    ·rcases nb lv' k g with g | g
     ·have:=vb k (.inr g);exact .inl ⟨by omega,this.2⟩
     ·exact .inr ⟨g,hk⟩
   ·rcases nb so' k g with g | g
    ·have:=vb k (.inl g);exact .inl ⟨by omega,this.2⟩
    ·exact .inr ⟨g,hk⟩
   ·rw [cI,gE] at hmm
    rw [wM hmm,aw (by omega)];have:=h.WG m (by omega);have:=LG (h.st m (by omega));exact .inl ⟨by omega,by omega⟩
 ·rw [cI,gE] at hi
  rw [wM hi]
  split
  ·exact h.WG i (by assumption)
  ·omega
 ·refine (h.pr.below b).only o ?_
  rintro (g | g | g)
  ·exact h.rp g.symm
  ·exact h.vp.1 g
  ·exact h.vp.2.1 g
 ·have fl:=q.2
  rcases g with g | g | g
  ·rcases nb so' k g with g | g
   ·exact h.nv k (.inl g) q
   ·omega
  ·rcases nb lv' k g with g | g
   ·exact h.nv k (.inr (.inl g)) q
   ·omega
  ·simp [Value.ownBlock] at g
theorem abQ (hp:Pf w1 p Wt.new 0) (hp0:w.heap.size<=p) (b:Below w.heap.size w w1) (L:List Pl):Rz w.heap.size (Fw w B0) w1.heap.size (newC (L.take 0)) 0 (.slice none 0 0) [] (.slice none 0 0) p (.slice none 0 0) (w1.alloc (.cells #[.slice none 0 0,.slice none 0 0,.pointer (some ⟨p,0,none⟩),.int .i64 0,.slice none 0 0] 39)):=by
 have ba:Below w1.heap.size w1 (w1.alloc (.cells #[.slice none 0 0,.slice none 0 0,.pointer (some ⟨p,0,none⟩),.int .i64 0,.slice none 0 0] 39)):=(aa _ _).alloc (ac _) _;refine ⟨bh w1 _,Rw.Ow.nil _ _ _,rfl,fun i hi=>by simp at hi,fun i hi=>by simp at hi,Rw.Ow.nil _ _ _,hp.below ba,Rw.Ow.nil _ _ _,⟨b.size,hp0⟩,fun g=>?_,fun g=>?_,fun k g=>?_,fun k g=>?_⟩
 ·have:=g.2;have:=b.size;omega
 ·have:=g.2;omega
 ·simp [Value.ownBlock] at g
 ·have:=g.2;have:=b.size;have:=ba.size;omega
theorem Tz {P:Program} {l:List Oper} (f:Sg.Fl) (o:Oper) (t:TypeId) (z v:Value) (bytes:Nat) (ho:l.toArray[f.idx]? = some o) (hd:o.dst=some f.slot) (hg:o.guard=none) (hop:o.op = .buildSlice t 1 #[(0,.const v)]) (hu:P.underlying t=some (.slice f.ty))
 (hi:(P.info? f.ty).map (fun i=>(i.zero,i.size,i.bytes))=some (some z,1,bytes)) (hv:v.cells=#[v]) (hcs:f.cs=#[v]) (hfn:f.n=some 1):Sg.zY P l f:=by
 obtain ⟨i0,hi0,hz0,hz1,hz2⟩:=eE hi;refine ⟨o,ho,hd,hg,fun a0 w _=>?_⟩;unfold execOp;have hρ:a0.eval (.const v)=v:=rfl;generalize a0.eval=ρ at *;have hf:Instr.fill (fun i=>some (i * i0.size,i0.size)) ((Array.range (1 * i0.size)).map (z.cells[· % z.cells.size]!)) ((#[(0,Operand.const v)]:Array (Nat×Operand)).map fun (i,x)=>(i,ρ x)).toList=some #[v]:=by
  rw [hz1]
  simp [Instr.fill,hρ,hv]
  rw [show Array.range 1=#[0] from rfl,show ∀ g:Nat->Value,Array.map g #[0]=#[g 0] from fun g=>by simp]
  rfl
 rw [hcs,hfn];simp only [hop,Sem.run_bind,run_buildSlice w t f.ty 1 _ #[v] i0 z hu hi0 hz0 (by rw [hz1];omega) (by rw [hz1];omega) hf,Result.andThen_ok]
 rfl
def oD (w:World) (B0:Nat) (L:List Pl) (e:Ending) (w':World):Prop :=
 (newE L=0->∃ r vs ps vl p,e = .returned (.tuple #[.pointer (some ⟨r,0,none⟩),.int .i64 0])/\Rz w.heap.size (Fw w B0) r (newC L) 0 vs ps vl p (.slice none 0 0) w') /\
 (newE L≠0->e = .returned (.tuple #[.pointer none,.int .i64 (newE L)]))/\Below w.heap.size w w'
variable {L:List Pl}
theorem tX {z:Int} (b:Below w.heap.size w w') (h:newE L=z) (h0:z≠0):oD w B0 L (.returned (.tuple #[.pointer none,.int .i64 z])) w' :=
 ⟨fun g=>absurd (h.symm.trans g) h0,fun _=>by rw [h],b⟩
theorem Yj (b:Below w.heap.size w w') (h:newE L=0) (z:Rz w.heap.size (Fw w B0) r (newC L) 0 vs ps vl p (.slice none 0 0) w'):oD w B0 L (.returned (.tuple #[.pointer (some ⟨r,0,none⟩),.int .i64 0])) w' :=
 ⟨fun _=>⟨r,vs,ps,vl,p,rfl,z⟩,fun g=>absurd h g,b⟩
structure NI (w:World) (B0 r p:Nat) (L:List Pl) (i:Nat) (vs:Value) (ps:List Nat) (vl:Value) (wr:World):Prop where
 rz:Rz w.heap.size (Fw w B0) r (newC (L.take i)) 0 vs ps vl p (.slice none 0 0) wr
 aG:Below w.heap.size w wr
 gd:Gds L i
structure IN (wr:World) (B0 s:Nat) (A:aP) (k:Nat) (wk:World):Prop where
 rs:Rs wk s (fun k=>B0<=k/\k < wr.heap.size) (A.take k) 0
 aG:Below wr.heap.size wr wk
 inn:Inn A k
end Cu
