import Derived.Test.YtpepoackmcohlaaGreatDoorPf10
set_option maxRecDepth 100000
set_option maxHeartbeats 8000000
namespace Go.Proofs.YtpepoackmcohlaaGreatDoor
open Go.Proofs.Tryz Go.RowKit
open Bu (Cw Gg Gx Ik Im Io Ip MC TI WC WH fC iR kF nU oZ sD sU vQ)
open Ck (Hd KS bQ jK sl tE zh)
open Fl (ah aj)
open Fs (Fx Glob Only St aC aP dX)
open Pa (KB KN Ns bO bT bU bX gM mF ptr qE sat)
open Rw (At Ow)
open Se (mW)
open Sp (fr)
open Tk (jc)
open Ua (Row arr dL)
open Wi (Low Made Plain dM dU lK)
namespace Se
open Go.Proofs.YtpepoackmcohlaaGreatDoor.Tk Go.Proofs.YtpepoackmcohlaaGreatDoor.Sp
open Wi (Gives sQ yw nD)
open Ua (dI)
theorem Bf (w:World) (v:Value) (n:Nat) (A R:Nat->Int) (S:Tk.Steps w v n A R) (g:bG n A R) (m:Int) (m0:0<=m) (m1:m<=2147483648) (F:Nat->Bool) :
 Calls prog 173 #[v,.int .i64 m,.agg (arr F)] w (Made w (dM (mW (dx A R n) F m 11))):=by
 have R0:=Hh (Row.new w F);have B0:=Hh ((aa w.heap.size w).alloc (ac _) (.cells (arr F) 222));have S0:=Hh S;have G:=Hh g;clear S g
 go_enter func173,ntmps173
 go_wp2_with ((with_reducible refine dI (o:=⟨some 10,_,_,_,_,_⟩) rfl _ rfl _ _ ?_ R0.out ?_);(exact rfl))
 go_loopw [7,11] (fun v i wr=>∃ k:Nat,k<=11/\i = .int .i64 k/\Hid (Jj w (dx A R n) F m v k wr)) (fun _ i _=>11 - (intOf i).toNat)
 case atStart=>exact ⟨0,by omega,rfl,Hh ⟨Sp.Own.nil _ _ _,B0.out⟩⟩
 case round =>
  obtain ⟨k,hk,rfl,L⟩:=hrel
  by_cases hlt:k < 11
  ·have ri:=Ua.zT F k hlt
   cases hF:F k with
   | true =>
     have L':=Hh (L.hi hF);rw [hF] at ri;clear hF;go_wp2
     go_roundw
     case rel=>exact ⟨k+1,by omega,by go_num,L'⟩
     case measure=>simp [intOf];omega
   | false =>
     rw [hF] at ri;have HF:=Hh hF;clear hF;have s1:=S0.below L.aG;have C:=Hh (Jm wr v n A R s1 G (m+16 * k) 16 (by omega) (by omega) (by omega) (by omega));clear s1;have hB:=L.aG.size;go_wp2_with fail;refine C.mono ?_;rintro e w1 ⟨rfl,b1⟩;have hown:=L.own.keep b1;have hb1:=L.aG.trans (b1.mono hB);have z1:=b1.size;have hll:=xP (g:=dx A R n) (F:=F) (m:=m) k;have LL:=Hh hll;clear b1 hll
     go_wp2_with (at_builtin;refine dU rfl _ _ rfl w.heap.size _ _ rfl (hown.alloc _) _ (dx A R n (m+16 * k)) (dx A R n (m+16 * k+16)) rfl ?c1 ?c2 ?c3 ?c4 ?_)
     case c1=>go_simp
     case c2=>go_simp
     case c3=>have:=LL.out;omega
     case c4=>simp;omega
     intro v' w2 hown2 hb2
     have L2:=Hh (Jj.lo (g:=dx A R n) (m:=m) HF hown2 ((hb1.alloc (by omega) _).trans hb2));clear hown2 hb2 hb1 hown;go_wp2
     go_roundw
     case rel=>exact ⟨k+1,by omega,by go_num,L2⟩
     case measure=>simp [intOf];omega
  ·obtain rfl:k=11:=by omega
   have hB:=L.aG.size;obtain ⟨a,cap,rfl,_,_⟩:=L.own.slice;have hll:=xP (g:=dx A R n) (F:=F) (m:=m) 11;have J:=Hh (lK _ _ _ (yw L.own.sp) (by show 0+(mW (dx A R n) F m 11).length < _;omega));clear hll;go_wp2_with fail;refine J.mono ?_;rintro e w1 ⟨v1,l,rfl,hown,hj,b1⟩;have OW:=Hh (Wi.kK hown (B':=w.heap.size) (by simp;omega));have PO:=Hh (nD hj);have B1:=Hh ((L.aG.alloc hB _).trans (b1.mono (B':=w.heap.size) (by simp;omega)));clear hown hj b1;go_wp2
   go_ret
   exact ⟨_,l,rfl,OW,PO,B1⟩
end Se
namespace Bu
open Sp (S2 tp Sp)
open Rw (Rd)
open Wi (kK)
open Ck (LL sN sE)
open Pa (K2 je pq l5 vB iJ gL)
open Ua (bR)
open Se (Bf)
attribute [local irreducible] Sd.aW wpQuiet
structure Bn (w:World) (vs vt vl vp vo:Value) (S:bO) (T:LL) (V:List Bool) (P:List S2) (O:List fC):Prop where
 ns:Ns w vs vt vl S T V
 sp:Rd K2 w vp P
 os:Gx w vo O
 lo:O.length=S.length
 few:S.length<=32
 calm:Ur O
theorem Bn.below {w w':World} {vs vt vl vp vo:Value} {S:bO} {T:LL} {V:List Bool} {P:List S2} {O:List fC} (h:Bn w vs vt vl vp vo S T V P O) (b:Below w.heap.size w w'):Bn w' vs vt vl vp vo S T V P O:=⟨h.ns.below b,h.sp.below b,h.os.below b,h.lo,h.few,h.calm⟩
variable {w:World} {vs vt vl vp vo:Value} {S:bO} {T:LL} {V:List Bool} {P:List S2} {O:List fC}
theorem QB (H:Bn w vs vt vl vp vo S T V P O) (j:Int) :
 Calls prog 144 #[vs,vt,vl,vp,vo,.int .i64 j] w (Made w (ZR S T V P O j)):=by
 have FA:=Hh (fun W b s=>vB (H.ns.below (w':=W) b) (H.sp.below b) s);unfold iJ at FA;have WHO:Hid (∀ k:Nat,je S T V k=true->∃ n:Nat,pq S T V k=n/\n < O.length/\JK S T V P O k=some (kF O n,l5 S T V P k)/\(kF O n).calm):=Hh (fun k h=>P7 H.ns.ok (by rw [H.lo,H.ns.lt]) H.calm h);have YES:Hid (∀ k:Nat,1<=k->pq S T V k=j->∀ u,kR S T V P O j (k+1) u↔kR S T V P O j k u\/xV (JK S T V P O) k u):=Hh (fun k h e u=>OY h e);have NO:Hid (∀ k:Nat,¬ (je S T V k=true/\pq S T V k=j)->∀ u,kR S T V P O j (k+1) u↔kR S T V P O j k u):=Hh (fun k h u=>VB h);have END:Hid (∀ u,kR S T V P O j 17 u↔Gl S T V P O j u):=Hh (fun u=>Pg);have I0:Hid (vT w (.slice none 0 0) [] [] (kR S T V P O j 1) 1 w):=Hh ⟨Ow.nil _ _ _,fun _ hi=>absurd hi (fw _),rfl,fun _ hi=>absurd hi (fw _),fun u=>⟨fun ⟨_,hi,_⟩=>absurd hi (fw _),fun h=>absurd h Nk⟩,by simp,aa _ _⟩;have OS:=Hh H.os;obtain ⟨ao,co,rfl,mo1,mo⟩:=H.os.slice;unfold maxLen at mo;clear H;generalize hno:O.length=no at *;have HNO:=Hh hno;clear hno;unfold ZR
 go_enter func144,ntmps144
 go_wp2
 go_loopw [14,13] (fun i v wr=>∃ (k:Nat) (hs:List Hd) (ls:List (List S2)),1<=k/\k<=17/\i = .int .i64 k/\Hid (vT w v hs ls (kR S T V P O j k) k wr)) (fun i _ _=>17 - (intOf i).toNat)
 case atStart=>exact ⟨1,[],[],by omega,by omega,rfl,I0⟩
 case round =>
  obtain ⟨k,hs,ls,hk1,hk,rfl,I⟩:=hrel;clear I0;obtain ⟨av,cv,rfl,_⟩:=I.slice
  by_cases hlt:k < 17
  ·have FK:=Hh (FA wr I.aG (k:Int))
   have WK:=Hh (WHO k);have YK:=Hh (YES k hk1);have NK:=Hh (NO k);generalize hF:l5 S T V P (k:Int)=F at *;generalize hm:pq S T V (k:Int)=m at *;generalize hok:je S T V (k:Int)=ok at *;clear hF hm hok;go_wp2_with fail;refine FK.mono ?_;rintro e w1 ⟨rfl,b1⟩;have I2:=Hh ((I.below b1).below ((aa w1.heap.size w1).alloc (ac _) (.cells (arr F) 222)));have R2:=Hh (Row.new w1 F);clear b1 FK I
   by_cases hall:ok=true/\m=j
   ·obtain ⟨rfl,rfl⟩:=hall
    obtain ⟨n,rfl,hn,hf,hcal⟩:=WK rfl;have YY:=Hh (YK rfl);have CA:=Hh hcal;have HF:=Hh hf;clear YK NK WK hcal hf;obtain ⟨b5,o5,c5,a5,d5,e5,x5,_,s5⟩:=OS.one (k:=n) (by have:=HNO.out;omega);rw [HNO.out] at e5;injection e5 with e5 _ e6;subst e5 e6;have S5:=Hh s5;clear s5
    go_upto_region 7 with ((with_reducible refine dL (o:=⟨none,_,_,_,_,_⟩) rfl _ _ rfl F ?_ ?_ ?_);(exact rfl);(exact rfl))
    generalize (w1.alloc (.cells (arr F) 222))=W1 at *;generalize w1.heap.size=g1 at *;have BD:=Hh (I2.aG.trans ((aa W1.heap.size W1).drew.mono I2.aG.size));have lo:=bj _ _ x5;have wk:IntKind.i64.wrap (224 * (k:Int))=224 * (k:Int):=cE _ (by omega);have sO:=Sc.ay (C:=fun W=>Below w.heap.size w W) (a:=⟨b5,o5+n,none⟩) (fun W' h=>(h.cell lo).trans x5);have ne:Nonempty (Sc.In (fun W=>Below w.heap.size w W)):=⟨⟨_,BD⟩⟩;have ID:=Hh (I2.below ((aa W1.heap.size W1).drew));have RD:=Hh (R2.below ((aa W1.heap.size W1).drew) R2.lt);refine Sc.start (fun W=>Below w.heap.size w W) [(false,0),(false,1),(false,2),(false,3),(false,4),(false,5),(false,6),(true,7),(true,8),(true,9),(true,10),(false,11)] (by kernel_rfl) (by kernel_rfl) (by kernel_rfl) BD ?_;dsimp only [Sd.aM,List.getElem?_cons_succ,List.getElem?_cons_zero]
    repeat (refine Sd.lit ?_;quiet_step (fail);refine bk ?_)
    clear sO I2 R2;generalize W1.drew=Wd at *;refine Sd.call (by rfl) (fun K hK=>?_);refine wp_load_row 222 _ rfl g1 rfl _ _ _ _ RD underlying222 rfl (bR F) ?_;refine hK _ _ (Sc.Cl.of BD) ?_;clear hK K;have SA:=Hh (Bf Wd _ _ _ _ (S5.below BD) CA.good (224 * (k:Int)) (by omega) (by omega) F);refine Sd.call (by rfl) (fun K hK=>?_);go_simp;refine SA.mono ?_;rintro e w5 ⟨v5,l,rfl,own5,p5,b5'⟩;have LK:=Hh (Ph HF p5);have PL:=Hh p5.1;have B5:=aR BD b5';obtain ⟨la,lc,rfl,_,_⟩:=own5.slice;refine hK _ _ (Sc.Cl.of B5) ?_;clear hK K p5 SA;refine Sd.call (by rfl) (fun K hK=>?_);go_simp;have BL:=b5'.alloc b5'.size (.cells #[.slice la l.length lc] 213);have I5:=Hh (ID.below BL);have O5:=Hh ((kK own5 BD.size).alloc (.cells #[.slice la l.length lc] 213));have N6:=Hh (bh w5 (.cells #[.slice la l.length lc] 213));have B6:=Hh (B5.alloc B5.size (.cells #[.slice la l.length lc] 213));refine hK _ _ (Sc.Cl.of B6) ?_;clear hK K own5 b5' BL ID BD RD B5;have FEW:=Hh (Fe PL (fun u h=>(LK u).1 h) (fun u h=>Dx h));have hh:Hid (Value.slice la l.length lc=sl (la,l.length,lc)):=Hh rfl;generalize hln:l.length=ln at *;have HLN:=Hh hln;clear hln;generalize w5.heap.size=g5 at *;generalize (w5.alloc (.cells #[.slice la ln lc] 213))=W6 at *;refine Sd.call (by rfl) (fun K hK=>?_);refine bT (K:=KS) underlying259 yB rfl (by omega) _ _ rfl w.heap.size _ _ rfl I5.out.own _ (la,ln,lc) rfl ?d1 ?d2 ?d3 ?_
    case d1 =>
     intro j u hu
     match j,hu with
     | 0,hu=>simp [KS] at hu;subst hu;exact ah N6.out 0
     | j+1,hu=>simp [KS] at hu
    case d2=>have:=I5.len;omega
    case d3=>have:=I5.aG.size;exact this
    intro v' w6 o6 g6 h6
    have NEW:Hid (vT w v' (hs ++ [(la,ln,lc)]) (ls ++ [l]) (kR S T V P O n (k+1)) (k+1) w6):=Hh (I5.push (by rw [← hh.out];exact O5.out) (by rw [HLN.out];exact FEW.out) o6 g6 (fun u=>by rw [YY.out u,LK.out u]));refine hK _ _ (Sc.Cl.of NEW.aG) ?_;clear hK K o6 g6 h6 I5 O5 B6 N6;obtain ⟨av',cv',rfl,_⟩:=NEW.slice;generalize (hs ++ [(la,ln,lc)]).length=Lp' at *
    repeat (refine Sd.lit ?_;quiet_step (fail);refine bk ?_)
    refine Sd.done ?_;go_wp2
    go_roundw
    case rel=>exact ⟨k+1,_,_,by omega,by omega,by go_num,NEW⟩
    case measure=>simp [intOf];omega
   ·have I3:=Hh (I2.to (NK hall))
    clear YK NK WK I2 R2
    cases ok with
    | false =>
      clear hall
      go_wp2_with ((with_reducible refine dL (o:=⟨none,_,_,_,_,_⟩) rfl _ _ rfl F ?_ ?_ ?_);(exact rfl);(exact rfl))
      go_roundw
      case rel=>exact ⟨k+1,_,_,by omega,by omega,by go_num,I3⟩
      case measure=>simp [intOf];omega
    | true =>
      have hmj:(m == j)=false:=by simpa using hall
      clear hall
      go_wp2_with ((with_reducible refine dL (o:=⟨none,_,_,_,_,_⟩) rfl _ _ rfl F ?_ ?_ ?_);(exact rfl);(exact rfl))
      go_roundw
      case rel=>exact ⟨k+1,_,_,by omega,by omega,by go_num,I3⟩
      case measure=>simp [intOf];omega
  ·obtain rfl:k=17:=by omega
   have J:=Hh (lK wr _ ls I.rows (I.tot (by omega)));have BI:=Hh I.aG;have IJ:=Hh (fun x hx=>I.join (x:=x) hx);clear I;generalize hs.length=Lp at *;go_wp2_with fail;refine J.mono ?_;rintro e w1 ⟨v1,l,rfl,own1,hj,b1⟩;have OW:=Hh (kK own1 BI.size);have PO:=Hh (IJ l hj);have B1:=aR BI b1;clear own1 hj b1 J;go_wp2
   go_ret
   exact ⟨_,l,rfl,OW,⟨PO.out.1,fun u=>(PO.out.2 u).trans (END u)⟩,B1⟩
theorem Hq (H:Bn w vs vt vl vp vo S T V P O) :
 Calls prog 117 #[vs,vt,vl,vp,vo] w (Made w (vQ S T V P O)):=by
 have SA:=Hh (fun W b j=>QB (H.below (w':=W) b) j);have END:Hid (∀ u,vM S T V P O S.length u↔tV (JK S T V P O) u):=Hh (fun u=>by rw [Sf H.ns.ok,H.ns.lt];exact Iff.rfl);have NX:Hid (∀ k u,vM S T V P O (k+1) u↔vM S T V P O k u\/Gl S T V P O k u):=Hh IK;have I0:Hid (vT w (.slice none 0 0) [] [] (vM S T V P O 0) 0 w):=Hh (vT.start w (aa _ _) fun u h=>by obtain ⟨j,hj,_⟩:=h;omega);have few:=H.few;obtain ⟨sa,cs,rfl,ms⟩:=H.ns.st.slice;unfold maxLen at ms;clear H;generalize S.length=n at *;unfold vQ
 go_enter func117,ntmps117
 go_wp2
 go_loopw [15,11] (fun i v wr=>∃ (k:Nat) (hs:List Hd) (ls:List (List S2)),k<=n/\i = .int .i64 k/\Hid (vT w v hs ls (vM S T V P O k) k wr)) (fun i _ _=>n - (intOf i).toNat)
 case atStart=>exact ⟨0,[],[],bt _,rfl,I0⟩
 case round =>
  obtain ⟨k,hs,ls,hk,rfl,I⟩:=hrel;clear I0;obtain ⟨av,cv,rfl,_⟩:=I.slice
  by_cases hlt:k < n
  ·have SK:=Hh (SA wr I.aG (k:Int))
   have NK:=Hh (NX k);have IL:=Hh I.len;generalize hs.length=lh at *;go_wp2_with fail;refine SK.mono ?_;rintro e w5 ⟨v5,l,rfl,own5,p5,b5⟩;have PL:=Hh p5.1;have LK:=Hh p5.2;have B5:=Hh (I.aG.trans (b5.mono I.aG.size));obtain ⟨la,lc,rfl,_,_⟩:=own5.slice;have BL:=b5.alloc b5.size (.cells #[.slice la l.length lc] 213);have I5:=Hh (I.below BL);have O5:=Hh ((kK own5 I.aG.size).alloc (.cells #[.slice la l.length lc] 213));have FEW:=Hh (Fe PL (fun u h=>(LK u).1 h) (fun u h=>XV h));have hh:Hid (Value.slice la l.length lc=sl (la,l.length,lc)):=Hh rfl;clear own5 p5 b5 BL SK;generalize hln:l.length=ln at *;have HLN:=Hh hln;clear hln
   go_wp2_with (at_builtin;refine bX (K:=KS) underlying259 yB rfl (by omega) rfl _ _ rfl w.heap.size _ _ rfl I5.out.own _ (la,ln,lc) rfl ?d1 ?d2 ?d3 ?_)
   case d1 =>
    intro j u hu
    match j,hu with
    | 0,hu=>simp [KS] at hu;subst hu;unfold sl;go_simp
    | j+1,hu=>simp [KS] at hu
   case d2=>have:=I5.len;omega
   case d3=>have:=I5.aG.size;exact this
   intro v' w6 o6 g6 h6
   have NEW:Hid (vT w v' (hs ++ [(la,ln,lc)]) (ls ++ [l]) (vM S T V P O (k+1)) (k+1) w6):=Hh (I5.push (by rw [← hh.out];exact O5.out) (by rw [HLN.out];exact FEW.out) o6 g6 (fun u=>by rw [NK.out u,LK.out u]));clear o6 g6 h6 I5 O5 I;obtain ⟨av',cv',rfl,_⟩:=NEW.slice;generalize (hs ++ [(la,ln,lc)]).length=Lp' at *;go_wp2
   go_roundw
   case rel=>exact ⟨k+1,_,_,by omega,by go_num,NEW⟩
   case measure=>simp [intOf];omega
  ·obtain rfl:k=n:=by omega
   have J:=Hh (lK wr _ ls I.rows (I.tot (by omega)));have BI:=Hh I.aG;have IJ:=Hh (fun x hx=>I.join (x:=x) hx);clear I;generalize hs.length=Lp at *;go_wp2_with fail;refine J.mono ?_;rintro e w1 ⟨v1,l,rfl,own1,hj,b1⟩;have OW:=Hh (kK own1 BI.size);have PO:=Hh (IJ l hj);have B1:=aR BI b1;clear own1 hj b1 J;go_wp2
   go_ret
   exact ⟨_,l,rfl,OW,⟨PO.out.1,fun u=>(PO.out.2 u).trans (END u)⟩,B1⟩
end Bu
namespace Sa
open Go.Proofs.YtpepoackmcohlaaGreatDoor.Sp
open Tk (bG dx dQ j5)
open Wi (gD)
open Ua (upd no mH jl Ca below_setRow)
def hf (low:Int->Bool) (g:Int->Int) (N:Int) (k i:Nat):Bool:=if i < k then heard low g N i else false
theorem aeb (low:Int->Bool) (g:Int->Int) (N:Int) (i:Nat):false=hf low g N 0 i:=by unfold hf;rw [aq (by omega)]
theorem aaW (low:Int->Bool) (g:Int->Int) (N:Int) (i:Nat) (h:i < 11):hf low g N 11 i=heard low g N i:=by unfold hf;rw [aw h]
theorem X6 (low:Int->Bool) (g:Int->Int) (N:Int) (k:Nat) {x:Bool} (e:x=heard low g N k) (i:Nat):upd (hf low g N k) k x i=hf low g N (k+1) i:=by
 unfold upd hf
 by_cases c:i=k
 ·subst c;rw [aw rfl,aw (by omega),e]
 ·rw [aq c]
  by_cases d:i < k
  ·rw [aw d,aw (by omega)]
  ·rw [aq d,aq (by omega)]
open Tk (tZ)
open Wi (zf Gp gW Fa)
open Ua (DT wN tb tp te j6 jN iL)
def hi (low:Int->Bool) (g:Int->Int) (b:Int):Nat->Nat
 | 0=>0
 | k+1=>hi low g b k+(if low (g (b+7+k)) then 0 else 1)
theorem aac (low:Int->Bool) (g:Int->Int) (b:Int):∀ k,hi low g b k<=k
 | 0=>ac _
 | k+1=>by have:=aac low g b k;unfold hi;split <;> omega
variable {low:Int->Bool} {g:Int->Int} {b f t p a c:Int} {k n:Nat}
theorem aaz (h:low (g (b+7+k))=true):hi low g b (k+1)=hi low g b k:=by rw [hi,aw h,Nat.add_zero]
theorem Yc (h:low (g (b+7+k))=false):hi low g b (k+1)=hi low g b k+1:=by rw [hi,aq (by simp [h])]
theorem aa4 (low:Int->Bool) (g:Int->Int) (b:Int):decide ((1:Int) < (hi low g b 3:Nat))=maj (!low (g (b+7))) (!low (g (b+8))) (!low (g (b+9))):=by
 have e:hi low g b 3=0+(if low (g (b+7)) then 0 else 1)+(if low (g (b+8)) then 0 else 1)+(if low (g (b+9)) then 0 else 1):=by
  show 0+(if low (g (b+7+(0:Nat))) then 0 else 1)+(if low (g (b+7+(1:Nat))) then 0 else 1)+(if low (g (b+7+(2:Nat))) then 0 else 1)=_
  rw [show b+7+((0:Nat):Int)=b+7 by omega,show b+7+((1:Nat):Int)=b+8 by omega,show b+7+((2:Nat):Int)=b+9 by omega]
 rw [e]
 cases low (g (b+7)) <;> cases low (g (b+8)) <;> cases low (g (b+9)) <;> rfl
theorem Jp (w:World) (v u:Value) (l:List S2) (P:Sp w v l) (n:Nat) (A R:Nat->Int) (S:Tk.Steps w u n A R) (g:bG n A R) (b:Int) (b0:0<=b) (b1:b<=5000000000) :
 Calls prog 210 #[v,u,.int .i64 b] w fun e w'=>e = .returned (.bool (maj (!gD l (dx A R n (b+7))) (!gD l (dx A R n (b+8))) (!gD l (dx A R n (b+9)))))/\Below w.heap.size w w':=by
 have P0:=Hh P;have S0:=Hh S;have G:=Hh g;have HM:=Hh (aa4 (gD l) (dx A R n) b);clear P S g
 go_enter func210,ntmps210
 go_wp2
 go_loopw [7,9] (fun h i wr=>∃ k:Nat,k<=3/\i = .int .i64 k/\h = .int .i64 (hi (gD l) (dx A R n) b k:Nat)/\Below w.heap.size w wr) (fun _ i _=>3 - (intOf i).toNat)
 case atStart=>exact ⟨0,by omega,rfl,rfl,aa _ _⟩
 case round =>
  obtain ⟨k,hk,rfl,rfl,hb⟩:=hrel;have q:=aac (gD l) (dx A R n) b k;have HB:=Hh hb
  by_cases hlt:k < 3
  ·have s1:=Hh (S0.below hb)
   have p1:=Hh (P0.below hb);clear hb;go_wp2_with fail;refine (jc _ _ _ _ _ (b+7+k) s1 G).mono ?_;rintro e w1 ⟨rfl,c1⟩;have p2:=Hh (p1.below c1);have B1:=aR HB c1;clear c1
   cases hL:gD l (dx A R n (b+7+k)) with
   | true =>
     have E:=Hh (aaz hL);have HA:=Hh (zf _ _ _ p2 (dx A R n (b+7+k)));rw [hL] at HA;clear hL;go_wp2_with fail;refine HA.mono ?_;rintro e w2 ⟨rfl,c2⟩;have B2:=aR B1 c2;clear c2;go_wp2
     go_roundw
     case rel=>exact ⟨k+1,by omega,by go_num,by rw [E.out],B2.out⟩
     case measure=>simp [intOf];omega
   | false =>
     have E:=Hh (Yc hL);have HA:=Hh (zf _ _ _ p2 (dx A R n (b+7+k)));rw [hL] at HA;clear hL;go_wp2_with fail;refine HA.mono ?_;rintro e w2 ⟨rfl,c2⟩;have B2:=aR B1 c2;clear c2;go_wp2
     go_roundw
     case rel=>exact ⟨k+1,by omega,by go_num,by rw [E.out];go_num,B2.out⟩
     case measure=>simp [intOf];omega
  ·obtain rfl:k=3:=by omega
   clear hb;generalize hi (gD l) (dx A R n) b 3=h at *;go_wp2
   go_ret
   exact ⟨Ua.aA HM,HB⟩
theorem VY (w:World) (v u:Value) (l:List S2) (P:Sp w v l) (n:Nat) (A R:Nat->Int) (S:Tk.Steps w u n A R) (g:bG n A R) (t:Int) :
 Calls prog 180 #[v,u,.int .i64 t] w fun e w'=>e = .returned (.agg (arr (heard (gD l) (dx A R n) (Tk.Loc A R n t))))/\Below w.heap.size w w':=by
 have T0:=Hh (wN w (hf (gD l) (dx A R n) (Tk.Loc A R n t) 0) (fun i _=>aeb _ _ _ i));have P0:=Hh P;have S0:=Hh S;have G:=Hh g;have N:=WY A R n g t;have z2:((w.alloc (.cells (arr no) 222)).alloc (.cells (arr no) 222)).heap.size=w.heap.size+1+1:=by simp
 have LA:=Hh (tZ _ u n A R (S.below T0.out.2.2) g t);clear P S g
 go_enter func180,ntmps180
 go_wp2_with fail;refine LA.mono ?_;rintro e w1 ⟨rfl,b1⟩;have T1:=Hh (T0.below b1);clear b1 LA T0;generalize hL:Tk.Loc A R n t=L at *;have HL:=Hh hL;clear hL;obtain ⟨N0,N1⟩:=N;go_wp2
 go_loopw [13] (fun i wr=>∃ k:Nat,k<=11/\i = .int .i64 k/\Hid (DT w wr (hf (gD l) (dx A R n) L k))) (fun i _=>11 - (intOf i).toNat)
 case atStart=>exact ⟨0,by omega,rfl,T1⟩
 case round =>
  obtain ⟨k,hk,rfl,T⟩:=hrel
  by_cases hlt:k < 11
  ·have HS:=Hh (fun x (e:x=heard (gD l) (dx A R n) L k)=>X6 (gD l) (dx A R n) L k e)
   have M:=Hh (Jp wr v u l (P0.below T.out.2.2) n A R (S0.below T.out.2.2) G (L+16 * k) (by omega) (by omega));go_wp2_with fail;refine M.mono ?_;rintro e w2 ⟨rfl,b2⟩;have T2:=Hh (T.out.below b2);have c:=T2.out.2.1.cell k (by omega);have f:=T2.out.2.1.frozen k;clear b2 M;go_wp2
   go_roundw
   case rel=>exact ⟨k+1,by omega,by go_num,Hh ((T2.out.iZ k (by omega) _).to (fun i _=>HS.out _ rfl i))⟩
   case measure=>simp [intOf];omega
  ·obtain rfl:k=11:=by omega
   go_wp2_with ((with_reducible refine mH (o:=⟨some 26,_,_,_,_,_⟩) rfl rfl _ _ _ rfl rfl rfl _ _ _ _ ?_ ?_ ?_ T.out.frame T.out.res ?_);(exact rfl);(exact rfl);(exact rfl))
   refine bo (jl rfl _ _ _ _ rfl (T.out.1.row _)) rfl ⟨Ca fun i hi=>by rw [HL.out];exact aaW _ _ _ i hi,?_⟩;exact below_setRow T.out.2.2 _ _ (ac _)
noncomputable def zy (x l:List S2) (A R:Nat->Int) (n:Nat) (f t:Int):Int×Bool×Int :=
 if (gW x f t).2 then (tb (heard (gD l) (dx A R n) (Tk.Loc A R n (gW x f t).1)),tp (heard (gD l) (dx A R n) (Tk.Loc A R n (gW x f t).1)),te (heard (gD l) (dx A R n) (Tk.Loc A R n (gW x f t).1))) else (0,false,3)
variable {x l:List S2} {A R:Nat->Int}
theorem Yp (h:gW x f t=(p,false)):(0,false,3)=zy x l A R n f t:=by
 unfold zy;rw [h];rfl
theorem Tv (h:gW x f t=(p,true)):(tb (heard (gD l) (dx A R n) (Tk.Loc A R n p)),tp (heard (gD l) (dx A R n) (Tk.Loc A R n p)),te (heard (gD l) (dx A R n) (Tk.Loc A R n p)))=zy x l A R n f t:=by
 unfold zy;rw [h];rfl
def yG (w:World) (l:List S2) (A R:Nat->Int) (n:Nat) (f t:Int) (e:Ending) (w':World):Prop :=
 ∃ x,dM l x/\e = .returned (.tuple #[.int .u8 (zy x l A R n f t).1,.bool (zy x l A R n f t).2.1,.int .i64 (zy x l A R n f t).2.2])/\Below w.heap.size w w'
theorem GK {b:Bool} {q:Int×Bool×Int} (h:(a,b,c)=q):Ending.returned (.tuple #[.int .u8 a,.bool b,.int .i64 c]) = .returned (.tuple #[.int .u8 q.1,.bool q.2.1,.int .i64 q.2.2]):=by rw [← h]
theorem Ho (w:World) (v u:Value) (l:List S2) (P:Sp w v l) (hl:l.length < 1099511627776) (n:Nat) (A R:Nat->Int) (S:Tk.Steps w u n A R) (g:bG n A R) (f t:Int) :
 Calls prog 149 #[v,u,.int .i64 f,.int .i64 t] w (yG w l A R n f t):=by
 have P0:=Hh P;have S0:=Hh S;have G:=Hh g;clear P S g
 go_enter func149,ntmps149
 go_wp2_with fail;refine (Gp _ _ _ P0 hl f t).mono ?_;rintro e w1 ⟨x,hx,rfl,b1⟩;have PX:=Hh hx;have B1:=Hh b1;have P1:=Hh (P0.below b1);have S1:=Hh (S0.below b1);clear b1 hx P0 S0;generalize hv:gW x f t=q;obtain ⟨p,y⟩:=q
 cases y with
 | false =>
   have E:=Hh (Yp (l:=l) (A:=A) (R:=R) (n:=n) hv);clear hv;go_wp2
   go_ret3
   exact ⟨x,PX,GK E,B1⟩
 | true =>
   have E:=Hh (Tv (l:=l) (A:=A) (R:=R) (n:=n) hv);clear hv;go_wp2_with fail;refine (VY _ _ _ _ P1 _ _ _ S1 G p).mono ?_;rintro e w2 ⟨rfl,b2⟩;have B2:=aR B1 b2;clear b2;generalize heard (gD l) (dx A R n) (Tk.Loc A R n p)=F at *;go_wp2_with fail;refine (j6 _ F).mono ?_;rintro e w3 ⟨rfl,b3⟩;have B3:=aR B2 b3;clear b3;go_wp2
   go_ret3
   exact ⟨x,PX,GK E,B3⟩
end Sa
namespace Bu
open Go.Maps
open Sp (S2 tp Sp)
open Tk (bG dx)
open Pa (Hr hput Iq H1 Bw Dj qJ)
open Sa (Ho yG)
attribute [local irreducible] Sd.aW wpQuiet
def pz (w:World) (h:Hr) (e:Ending) (w':World):Prop:=∃ b,e = .returned (.map (some b))/\qE w' (.map (some b)) h/\Below w.heap.size w w'
variable {l:List S2} {r:fC}
theorem Zg (hp:Plain l) {W w':World} {e:Ending} {k:Nat} (h:yG W l r.A r.R r.n (dx r.A r.R r.n (224 * (k:Int) - 20)) (dx r.A r.R r.n (224 * (k:Int)+20)) e w') :
 e = .returned (.tuple #[.int .u8 (lM l l r k).1,.bool (lM l l r k).2.1,.int .i64 (lM l l r k).2.2])/\Below W.heap.size W w':=by
 obtain ⟨x,hx,he,hb⟩:=h;obtain rfl:=hx.one ⟨hp,fun _=>Iff.rfl⟩;exact ⟨he,hb⟩
theorem lI {w:World} {v u:Value} (P:Sp w v l) (hp:Plain l) (hl:l.length<=4294967297) (S:Tk.Steps w u r.n r.A r.R) (c:r.calm):Calls prog 119 #[v,u] w (pz w (Io l l r)):=by
 have G:=Sa.Calm.good c;have GL:=Hh (fun W b m=>jc W u r.n r.A r.R m (S.below (w':=W) b) G);have HE:=Hh (fun W b (k:Nat)=>(Ho W v u l (P.below (w':=W) b) (by omega) r.n r.A r.R (S.below b) G (dx r.A r.R r.n (224 * (k:Int) - 20)) (dx r.A r.R r.n (224 * (k:Int)+20))).mono fun e w' h=>Zg hp h);have YY:Hid (∀ k:Nat,1<=k->k<=16->(lM l l r k).2.2=0->(lM l l r k).2.1=false->hput (l8 (Io l l r) k) k (lM l l r k).1=l8 (Io l l r) (k+1)):=Hh (fun k h1 h2 e o=>Xx h1 (Xb (by omega) (by omega) e o));have NN:Hid (∀ k:Nat,¬ ((lM l l r k).2.2=0/\(lM l l r k).2.1=false)->l8 (Io l l r) k=l8 (Io l l r) (k+1)):=Hh (fun k h=>aaH (abH h));have EN:Hid (l8 (Io l l r) 17=Io l l r):=Hh (XG fun n h=>YG h);have M0:Hid (H1 w w.heap.size 1 (l8 (Io l l r) 1) (w.alloc (.map #[] 0))):=Hh ⟨⟨0,by rw [oP];exact Bw w,by omega⟩,ac _,(aa w.heap.size w).alloc (ac _) _⟩;clear P hp hl S c G;generalize Io l l r=h at *;have hmm:=@run_makeMap prog
 go_enter func119,ntmps119
 go_wp2;clear hmm;generalize (w.alloc (.map #[] 0))=W0 at *;generalize hb0:w.heap.size=b at M0 ⊢;have HB0:=Hh hb0;clear hb0
 go_loopw [6] (fun i wr=>∃ k:Nat,1<=k/\k<=17/\i = .int .i64 k/\Hid (H1 w b k (l8 h k) wr)) (fun i _=>17 - (intOf i).toNat)
 case atStart=>exact ⟨1,by omega,by omega,rfl,M0⟩
 case round =>
  obtain ⟨k,hk1,hk,rfl,I⟩:=hrel;clear M0
  by_cases hlt:k < 17
  ·have K1:=Hh (GL wr I.aG (224 * (k:Int) - 20))
   go_wp2_with fail;refine K1.mono ?_;rintro e w1 ⟨rfl,b1⟩;have I1:=Hh (I.below b1);have K2:=Hh (GL w1 I1.aG (224 * (k:Int)+20));clear b1 K1 I;go_wp2_with fail;refine K2.mono ?_;rintro e w2 ⟨rfl,b2⟩;have I2:=Hh (I1.below b2);have K3:=Hh (HE w2 I2.aG k);have YK:=Hh (YY k hk1 (by omega));have NK:=Hh (NN k);have WK:=Hh (qJ (n:=(k:Int)) ⟨by omega,by omega⟩);clear b2 K2 I1;generalize lM l l r (k:Int)=q at *;obtain ⟨y,o,z⟩:=q;simp only at YK NK K3;go_wp2_with fail;refine K3.mono ?_;rintro e w3 ⟨rfl,b3⟩;have I3:=Hh (I2.below b3);clear b3 K3 I2
   by_cases hz:z=0
   ·cases o with
    | false =>
      have EQ:=Hh (YK hz rfl);clear YK NK;subst hz;obtain ⟨N,m,hN⟩:=I3.mp;have M2:=Hh m;have LO:=Hh I3.lo;have BE:=Hh I3.aG;clear m I3
      go_wp2_with (first
       | (at_mapUpdate;refine Dj rfl _ _ _ rfl rfl M2 (by unfold maxLen;omega) (k:Int) y rfl rfl WK.out ?_;intro w4 m4 g4)
       | fail)
      have I4:Hid (H1 w b (k+1) (l8 h (k+1)) w4):=Hh ⟨⟨N+1,by rw [← EQ.out];exact m4,by omega⟩,LO.out,BE.out.grown g4 BE.out.size (fun j e=>by injection e with e;have:=LO.out;omega)⟩;clear m4 g4 M2 EQ BE LO;go_wp2
      go_roundw
      case rel=>exact ⟨k+1,by omega,by omega,by go_num,I4⟩
      case measure=>simp [intOf];omega
    | true =>
      have EQ:=Hh (NK (by simp));have I4:Hid (H1 w b (k+1) (l8 h (k+1)) w3):=Hh ⟨by obtain ⟨N,m,hN⟩:=I3.out.mp;exact ⟨N,by rw [← EQ.out];exact m,by omega⟩,I3.out.lo,I3.out.aG⟩;clear YK NK EQ I3;subst hz;go_wp2
      go_roundw
      case rel=>exact ⟨k+1,by omega,by omega,by go_num,I4⟩
      case measure=>simp [intOf];omega
   ·have EQ:=Hh (NK fun g=>hz g.1)
    have I4:Hid (H1 w b (k+1) (l8 h (k+1)) w3):=Hh ⟨by obtain ⟨N,m,hN⟩:=I3.out.mp;exact ⟨N,by rw [← EQ.out];exact m,by omega⟩,I3.out.lo,I3.out.aG⟩;have d0:(z == 0)=false:=by simpa using hz
    clear YK NK EQ I3;go_wp2
    go_roundw
    case rel=>exact ⟨k+1,by omega,by omega,by go_num,I4⟩
    case measure=>simp [intOf];omega
  ·obtain rfl:k=17:=by omega
   rw [EN.out] at I;have RES:Hid (pz w h (.returned (.map (some b))) wr):=Hh ⟨b,rfl,by obtain ⟨⟨N,m,_⟩,_,_⟩:=I;exact ⟨b,N,rfl,m⟩,I.aG⟩;clear I;go_wp2
   go_ret
   exact RES
end Bu
namespace Cu
open Go.Maps
open Sp (tp Sp)
open Rw (Rd)
open Fs (jw)
open Ro (jg)
open Ck (LL iQ)
open Bu (Bn Hq lI pz)
open Pa (Bg K2 hr wh ny gZ xI l7 dW tO yA qT yY mD pN Mf)
attribute [local irreducible] Sd.aW wpQuiet
theorem Ef {w:World} {vs vt vl vp vo:Value} {S:bO} {T:LL} {V:List Bool} {P:List Sp.S2} {O:List fC} (HS:Bg w vs S) (HT:jK w vt T) (HV:Rd KB w vl V) (RP:Rd K2 w vp P) (HO:Gx w vo O) (hg:Glob w) (hd:∀ i,i < S.length->0<=(sat S i).2/\(sat S i).2 < 900000) :
 Calls prog 87 #[vs,vt,vl,vp,vo] w (BrP w (Ip S T V O) (WC S T V P O)):=by
 have RO:=Hh (l7 HS HT HV RP hg hd);unfold dW at RO;obtain ⟨sa,cs,rfl,ms⟩:=HS.slice;obtain ⟨oa,co,rfl,mo1,mo⟩:=HO.slice;unfold maxLen at ms mo;have OS:=Hh HO;have HS0:=Hh HS;have HT0:=Hh HT;have HV0:=Hh HV;have RP0:=Hh RP;have GG:=Hh hg;have DD:=Hh hd;clear HS HT HV RP HO hg hd
 by_cases hE:gM S T V=0
 ·obtain ⟨f1,f2,f3,f4,f5⟩:=Ik hE
  have WILD:Hid (¬ (O.length=S.length/\iR O=true)->∀ w',Below w.heap.size w w'->BrP w (Ip S T V O) (WC S T V P O) (.returned (.tuple #[.slice none 0 0,.int .i64 1])) w'):=Hh (fun h w' b=>by
   obtain ⟨e1,e2⟩:=Gg (P:=P) hE h;rw [e1]
   exact ⟨_,[],fun _ _=>False,rfl,fun e=>absurd e (by decide),fun _=>rfl,b⟩)
  by_cases hl:O.length=S.length
  ·have CA:=Hh (fun W b=>Im W _ O (OS.below (w':=W) b))
   cases hc:iR O with
   | false =>
     have WL:=Hh (WILD (by rw [hc];simp));rw [hE] at RO;rw [hc] at CA;generalize Ip S T V O=be at *;generalize WC S T V P O=bl at *;generalize mF S T V P=rl at *;rw [hl] at CA ⊢;clear WILD OS HS0;generalize S.length=n at *
     go_enter func87,ntmps87
     go_wp2_with fail;refine RO.mono ?_;rintro e w1 ⟨v1,rfl,_,b1⟩;have C1:=Hh (CA w1 b1);have B1:=Hh b1;clear b1 CA RO;go_wp2_with fail;refine C1.mono ?_;rintro e w2 ⟨rfl,b2⟩;have RES:=Hh (WL w2 (aR B1 b2));clear b2 C1 WL;go_wp2
     go_ret2
     exact RES
   | true =>
     obtain ⟨e1,e2⟩:=Cw (P:=P) hE hl hc;have cl:=sD hc;have BN:Hid (Bn w (.slice sa S.length cs) vt vl vp (.slice oa O.length co) S T V P O):=Hh ⟨⟨HS0,HT0,HV0,f3,f4,f5⟩,RP0,OS,hl,f2,cl⟩;have LN:=Hh (fun W b=>Hq (BN.below (w':=W) b));have LQ:Hid (∀ l,vQ S T V P O l->∀ k:Nat,k < S.length->Io l l (kF O k)=hr S T V P):=Hh (fun l h k hk=>TI f5 (by rw [hl,f3]) cl ⟨h.1,fun _=>Iff.rfl⟩ h.2 (nU cl (by omega)));have LF:Hid (∀ l,vQ S T V P O l->l.length<=4294967297):=Hh (fun l h=>sU h.1 fun u hu=>MC ((h.2 u).1 hu));have CO:Hid (∀ k:Nat,k < S.length->(kF O k).calm):=Hh (fun k hk=>nU cl (by omega));have OH:=Hh (xI S T V P);rw [hE] at RO;rw [hc] at CA;rw [e1,e2];clear WILD HT0 HV0 RP0;generalize hr S T V P=h at *;have AT:=Hh (fun i hi=>ny S T V h (i:=i) hi);have RL:=Hh (gZ S T V h);generalize wh S T V h=S' at *;generalize mF S T V P=rl at *;have HL:=Hh hl;have F3:=Hh f3;have F4:=Hh f4;rw [hl] at CA LN BN ⊢;clear hl f3 f4 f5 e1 e2 cl hc hE;generalize hn:S.length=n at *;have HN:=Hh hn;clear hn
     go_enter func87,ntmps87
     go_wp2_with fail;refine RO.mono ?_;rintro e w1 ⟨v1,rfl,_,b1⟩;have C1:=Hh (CA w1 b1);have B1:=Hh b1;clear b1 CA RO;go_wp2_with fail;refine C1.mono ?_;rintro e w2 ⟨rfl,b2⟩;have B2:=aR B1 b2;have L2:=Hh (LN w2 B2);clear b2 C1 B1 LN;go_wp2_with fail;refine L2.mono ?_;rintro e w3 ⟨v3,l,rfl,JP,lp,b3⟩;have BW:=aR B2 b3;have SL3:=Hh JP.sp;have LP:=Hh lp;obtain ⟨la,lc,rfl,_⟩:=SL3.slice;clear JP lp b3 L2 B2;generalize hll:l.length=ln at *;have HLL:=Hh hll;clear hll;go_wp2
     rename World=>wA
     go_loopw [47,15] (fun i o wr2=>∃ (k:Nat) (ps:List Nat) (Fs:Nat->Nat->Prop),k<=n/\i = .int .i64 k/\Hid (PJ 72 wA S' k o ps Fs wr2)) (fun i _ _=>n - (intOf i).toNat)
     case atStart=>exact ⟨0,[],fun _ _=>False,bt _,rfl,PJ.start (aa _ _)⟩
     case round =>
      obtain ⟨k,ps,Fs,hk,rfl,I⟩:=hrel;have BI:=Hh (BW.trans (I.aG.mono BW.size));obtain ⟨av,cv,ev,_⟩:=I.own.slice;have OWN:=Hh I.own;generalize ps.length=Lp at ev;subst ev
      by_cases hlt:k < n
      ·obtain ⟨b1,o1,c1,s,e1,cS,hS⟩:=BN.ns.st.one (k:=k) (by have:=HN.out;omega)
       rw [HN.out] at e1;injection e1 with e1 _ e2;subst e1 e2;obtain ⟨b2,o2,c2,at',ct,e2,cT,_,_⟩:=BN.ns.tb.one (k:=k) (by have:=F3.out;omega);have RT:=Hh (BN.ns.tb.rd (k:=k) (by have:=F3.out;omega) e2 cT);rw [F3.out] at e2;subst e2;obtain ⟨a3,c3,e3,_,_,h3⟩:=BN.ns.lv;rw [F4.out] at e3;subst e3;obtain ⟨b3,o3,rfl,A3⟩:=h3 (by have:=F4.out;omega);have cV:=Mf (A3.below BI) (i:=k) (by have:=F4.out;omega);rw [show V.getD k false=bU V k from rfl] at cV;obtain ⟨b4,o4,c4,a4,d4,e4,cO,_,s4⟩:=BN.os.one (k:=k) (by have:=HL.out;omega);rw [HL.out] at e4;injection e4 with e4 _ e5;subst e4 e5;have S4:=Hh s4;have EA:=Hh (AT k (by have:=HN.out;omega));have OKT:=Hh (mD BN.ns.ok (k:=k) (by have:=F3.out;omega));have ML:=Hh (jg (iQ (pN BN.ns.ok) k (by have:=F3.out;omega)));have HS2:Hid (∀ W,Below w.heap.size w W->Pa.Has W s (sat S k)):=Hh (fun W b=>by obtain ⟨F,h⟩:=hS;exact ⟨F,h.below b⟩);have CT:=Hh cT;have CC:=Hh cO;have lT:=bj _ _ cT;have lO:=bj _ _ cO;unfold ptr at cS;have sS:=gP BI cS;have LN:=Hh I.len;clear hS h3 A3 s4 cS cT cO
       cases hv:bU V k with
       | true =>
         rw [hv] at cV;rw [hv,aw rfl] at EA;have EQ:=Hh (LQ l LP k hlt);have CK:=Hh (CO k hlt);generalize hlk:(bQ T k).length=lk at *;go_upto_region 12 with fail;clear cV sS;have sT:=Sc.ay (C:=fun W=>Below w.heap.size w W) (a:=⟨b2,o2+k,none⟩) (fun W' h=>(h.cell lT).trans CT);have sO:=Sc.ay (C:=fun W=>Below w.heap.size w W) (a:=⟨b4,o4+k,none⟩) (fun W' h=>(h.cell lO).trans CC);have BD:=Hh (BI.trans ((aa wr.heap.size wr).drew.mono BI.size));have ne:Nonempty (Sc.In (fun W=>Below w.heap.size w W)):=⟨⟨_,BD⟩⟩;have ID:=Hh (I.below ((aa wr.heap.size wr).drew));refine Sc.start (fun W=>Below w.heap.size w W) [(false,0),(false,1),(false,2),(false,3),(false,4),(false,5),(false,6),(false,7),(false,8),(false,9),(false,10),(true,11),(true,12),(true,13),(true,14),(false,15)] (by kernel_rfl) (by kernel_rfl) (by kernel_rfl) BD ?_;dsimp only [Sd.aM,List.getElem?_cons_succ,List.getElem?_cons_zero]
         repeat (refine Sd.lit ?_;quiet_step (fail);refine bk ?_)
         clear sT sO;generalize wr.drew=Wd at *;have HD:=Hh (lI (l:=l) (r:=kF O k) (SL3.below ID.aG) LP.out.1 (LF l LP) (S4.below BD) CK);rw [EQ.out] at HD;unfold pz at HD;generalize (kF O k).n=on at *;refine Sd.call (by rfl) (fun K hK=>?_);go_simp;refine HD.mono ?_;rintro e w4 ⟨mb,rfl,hm,b4'⟩;have HM:=Hh hm;have B4:=aR BD b4';have I4:=Hh (ID.below b4');refine hK _ _ (Sc.Cl.of B4) ?_;clear hK K b4' hm HD ID;have AP:=Hh (tO (HS2 w4 B4) (GG.below B4) (DD k (by omega)) (RT.out.below B4.out) (fun y hy=>(OKT.out y hy).1) (by have:=ML.out;omega) HM.out OH.out);unfold yA at AP;refine Sd.call (by rfl) (fun K hK=>?_);go_simp;refine AP.mono ?_;rintro e w5 ⟨g,F5,rfl,st5,lo5,b5⟩;have B5:=aR B4 b5;refine hK _ _ (Sc.Cl.of B5) ?_;clear hK K;unfold ptr;refine Sd.call (by rfl) (fun K hK=>?_);go_simp;have I5:=Hh ((I4.pend b5 (by rw [EA.out];exact st5) lo5).below ((aa w5.heap.size w5).alloc (ac _) (.cells #[.pointer (some ⟨g,0,none⟩)] 72)));have N6:=Hh (bh w5 (.cells #[.pointer (some ⟨g,0,none⟩)] 72));have B6:=Hh (B5.alloc B5.size (.cells #[.pointer (some ⟨g,0,none⟩)] 72));refine hK _ _ (Sc.Cl.of B6) ?_;clear hK K st5 lo5 b5 I OWN AP I4 BD;generalize w5.heap.size=g5 at *;generalize (w5.alloc (.cells #[.pointer (some ⟨g,0,none⟩)] 72))=W6 at *;refine Sd.call (by rfl) (fun K hK=>?_);refine bT (K:=KN) underlying158 yY rfl (by omega) _ _ rfl wA.heap.size _ _ rfl I5.out.old.own _ g rfl ?d1 ?d2 ?d3 ?_
         case d1 =>
          intro j u hu
          match j,hu with
          | 0,hu=>simp [KN] at hu;subst hu;exact ah N6.out 0
          | j+1,hu=>simp [KN] at hu
         case d2=>rw [LN.out];omega
         case d3=>have:=I5.old.aG.size;exact this
         intro v' w6 o6 g6 h6
         have NEW:=Hh (I5.push o6 g6 h6);refine hK _ _ (Sc.Cl.of (BW.trans (NEW.aG.mono BW.size))) ?_;clear hK K o6 g6 h6 I5 B5 B6 N6;obtain ⟨av',cv',ev',_⟩:=NEW.own.slice;generalize (ps ++ [g]).length=Lp' at ev';subst ev'
         repeat (refine Sd.lit ?_;quiet_step (fail);refine bk ?_)
         refine Sd.done ?_;go_wp2
         go_roundw
         case rel=>exact ⟨k+1,ps ++ [g],_,by omega,by go_num,NEW⟩
         case measure=>simp [intOf];omega
       | false =>
         rw [hv] at cV;rw [hv,aq eA] at EA;have AP:=Hh (qT (HS2 wr BI));unfold jw at AP;generalize (bQ T k).length=lk at *;generalize (kF O k).n=on at *;go_wp2_with fail;refine AP.mono ?_;rintro e w5 ⟨g,F5,rfl,st5,lo5,b5⟩;have I5:=Hh ((I.pend b5 (by rw [EA.out];exact st5) lo5).below ((aa w5.heap.size w5).alloc (ac _) (.cells #[.pointer (some ⟨g,0,none⟩)] 72)));clear st5 lo5 b5 I OWN AP cV sS
         (try unfold ptr)
         go_wp2_with (at_builtin;refine bX (K:=KN) underlying158 yY rfl (by omega) rfl _ _ rfl wA.heap.size _ _ rfl I5.out.old.own _ g rfl ?d1 ?d2 ?d3 ?_)
         case d1 =>
          intro j u hu
          match j,hu with
          | 0,hu=>simp [KN] at hu;subst hu;unfold ptr;go_simp
          | j+1,hu=>simp [KN] at hu
         case d2=>rw [LN.out];omega
         case d3=>have:=I5.old.aG.size;exact this
         intro v' w6 o6 g6 h6
         have NEW:=Hh (I5.push o6 g6 (by simpa using h6));clear o6 g6 h6 I5;obtain ⟨av',cv',ev',_⟩:=NEW.own.slice;generalize (ps ++ [g]).length=Lp' at ev';subst ev';go_wp2
         go_roundw
         case rel=>exact ⟨k+1,ps ++ [g],_,by omega,by go_num,NEW⟩
         case measure=>simp [intOf];omega
      ·obtain rfl:k=n:=by omega
       have RES:Hid (BrP w 0 S' (.returned (.tuple #[.slice av Lp cv,.int .i64 0])) wr):=Hh ⟨_,ps,Fs,rfl,fun _=>by rw [RL.out];exact I.out.low BW.out.size BI.out,fun e=>absurd rfl e,BI.out⟩;clear I OWN;go_wp2
       go_ret2
       exact RES
  ·have WL:=Hh (WILD fun h=>hl h.1)
   rw [hE] at RO;generalize Ip S T V O=be at *;generalize WC S T V P O=bl at *;generalize mF S T V P=rl at *;clear WILD OS HS0 DD;generalize S.length=n at *;generalize O.length=no at *;have hne:((no:Int) != (n:Int))=true:=by simp;omega
   go_enter func87,ntmps87
   go_wp2_with fail;refine RO.mono ?_;rintro e w1 ⟨v1,rfl,_,b1⟩;have RES:=Hh (WL w1 b1);clear b1 RO WL;go_wp2
   go_ret2
   exact RES
 ·obtain ⟨e1,e2⟩:=oZ (O:=O) (P:=P) hE
  rw [e1,e2];have HEE:=Hh hE;have hne:(gM S T V != 0)=true:=by simpa using hE
  clear hE OS HS0 DD e1 e2;generalize gM S T V=E at *;generalize mF S T V P=rl at *;generalize S.length=n at *;generalize O.length=no at *
  go_enter func87,ntmps87
  go_wp2_with fail;refine RO.mono ?_;rintro e w1 ⟨v1,rfl,_,b1⟩;have RES:Hid (BrP w E [] (.returned (.tuple #[.slice none 0 0,.int .i64 E])) w1):=Hh ⟨_,[],fun _ _=>False,rfl,fun e=>absurd e HEE,fun _=>rfl,b1⟩;clear b1 RO;go_wp2
  go_ret2
  exact RES
open Pa (S2)
open Ck (xO)
open Ro (E5 K5)
theorem aaV:(prog.info? 4).map (fun i=>(i.zero,i.size,i.bytes))=some (some (.bool false),1,1):=by kernel_rfl
theorem aaY:(prog.info? 163).map (fun i=>(i.zero,i.size,i.bytes))=some (some (.slice none 0 0),1,24):=by kernel_rfl
def caS (S:bO) (T:LL) (V:List Bool) (P:List S2):bO:=if gM S T V=0 then mF S T V P else S
variable {S:bO} {T:LL} {V:List Bool} {P:List S2}
theorem Yh {O:List fC} (hl:O.length=S.length) (hc:iR O=true):Ip S T V O=gM S T V/\(gM S T V=0->WC S T V P O=mF S T V P):=by
 by_cases h:gM S T V=0
 ·obtain ⟨a,b⟩:=Cw (P:=P) h hl hc
  exact ⟨a.trans h.symm,fun _=>by rw [b];exact (aw h).symm⟩
 ·obtain ⟨a,b⟩:=oZ (O:=O) (P:=P) h
  exact ⟨a,fun g=>absurd g h⟩
theorem Zk (h:gM S T V=0):(mF S T V P).length=S.length:=by
 have e:mF S T V P=wh S T V (hr S T V P):=aw h;rw [e,Pa.gZ]
theorem J5 {s t p:Nat} {F:Nat->Prop} {c:Cs} {vn vq:Value} {L:List Nd} {Fs:Nat->Nat->Prop} {w:World} (h:Cl w s F c t vn L p vq Fs) (hlen:2<=c.S.length/\c.S.length<=32) (hlv:c.V.length=c.S.length) (hst:∀ i:Nat,i < c.S.length->0<=(sat c.S i).2/\(sat c.S i).2 < 900000) (hg:Glob w) {r:Int} (hr:0<=r/\r<=5) {vp:Value} (RP:Rd K2 w vp P) :
 Calls prog 59 #[ptr s,.int .i64 r,vp] w (kg w s F { c with S:=caS c.S (Kv c.S r) c.V P } t (gM c.S (Kv c.S r) c.V)):=by
 obtain ⟨g,cap,rfl,-,hm,-⟩:=h.one (i:=0) (by omega);have H:=Hh h;have HL:=Hh h.len;have HT:=Hh (Cn c.S r);have OK:=Hh hlv;have GG:=Hh hg;have R:=Hh RP
 have CT:Hid (∀ wr,Below w.heap.size w wr->∀ k:Nat,k < c.S.length->Calls prog 86 #[ptr s,.int .i64 k,.int .i64 r] wr (TbC wr (bQ (Kv c.S r) k))):=Hh (fun wr b k hk=>by
  have:=J7 (H.below b) hk (k:=r) ⟨hr.1,by omega⟩;rw [← Vj c.S r hk] at this
  exact this)
 have ND:Hid (∀ wr,Below w.heap.size w wr->∀ k:Nat,k < c.S.length->wr.cell? ⟨s,0,none⟩=some (.slice (some ⟨g,0,none⟩) c.S.length cap)/\wr.cell? ⟨g,k * 3,none⟩=some (ptr (iI L k).s)/\wr.cell? ⟨g,k * 3+1,none⟩=some (.bool (iI L k).live)/\wr.cell? ⟨g,k * 3+2,none⟩=some (.int .i64 (iI L k).rate)):=Hh (fun wr b k hk=>⟨(H.below b).cells.1,(H.below b).nod hk⟩);have CC:=Hh (Qx h.rt);have OL:=Hh ((yH L).trans h.len);have DV:=Hh hst;have BE:=Hh (fun S T V P=>Yh (S:=S) (T:=T) (V:=V) (P:=P) (O:=Jt L));have N32:=Hh hlen;have d0:=h.cells.1;obtain ⟨pa,pc,rfl,_⟩:=RP.slice;have C0:=Hh (CI.start w (Kv c.S r) L);clear h hlen hlv hst hg RP hr;generalize hT:Kv c.S r=T at *;generalize hPl:P.length=pl at *;generalize hn:c.S.length=n at *;have HN:=Hh hn;have HPL:=Hh hPl;generalize hRE:gM c.S T c.V=re at *;generalize hCS:caS c.S T c.V P=S2 at *;have RE:=Hh hRE;have CS:=Hh hCS;clear hn hPl hT hRE hCS;unfold ptr at *
 go_enter func59,ntmps59
 go_wp2;clear d0
 go_loopw [22,7,8,9,10] (fun i o1 o2 o3 o4 wr=>∃ (k:Nat) (l1:List Nat) (l2:List Hd) (l3:List Bool) (l4:List Hd) (p1 p2 p3 p4:Value),k<=n/\i = .int .i64 k/\p1=o1/\p2=o2/\p3=o3/\p4=o4/\Hid (CI w T L k k k k o1 l1 o2 l2 o3 l3 o4 l4 wr)) (fun i _ _ _ _ _=>n - (intOf i).toNat)
 case atStart=>exact ⟨0,[],[],[],[],_,_,_,_,bt _,rfl,rfl,rfl,rfl,rfl,C0⟩
 case round =>
  clear C0;obtain ⟨k,l1,l2,l3,l4,p1,p2,p3,p4,hk,rfl,rfl,rfl,rfl,rfl,I⟩:=hrel;obtain ⟨a1,c1,e1,_,_⟩:=I.w1.slice;obtain ⟨a2,c2,e2,_,_⟩:=I.w2.slice;obtain ⟨a3,c3,e3,_,_⟩:=I.w3.slice;obtain ⟨a4,c4,e4,_,_⟩:=I.w4.slice;have N1:=Hh I.n1;have N2:=Hh I.n2;have N3:=Hh I.n3;have N4:=Hh I.n4;generalize l1.length=m1 at e1;generalize l2.length=m2 at e2;generalize l3.length=m3 at e3;generalize l4.length=m4 at e4;subst e1 e2 e3 e4
  by_cases hlt:k < n
  ·have HLT:=Hh hlt
   obtain ⟨d0,y0,y1,y2⟩:=ND wr I.aG k hlt;generalize hx:iI L k=x at *;have HX:=Hh hx;clear hx;have Z0:=Hh (bh wr (.cells #[.pointer (some ⟨x.s,0,none⟩),.bool x.live,.int .i64 x.rate] 74));have BN:=Hh ((aa wr.heap.size wr).alloc (ac _) (.cells #[.pointer (some ⟨x.s,0,none⟩),.bool x.live,.int .i64 x.rate] 74));go_upto_region 8 with fail;clear y0 y1 y2 d0;generalize wr.alloc (.cells #[.pointer (some ⟨x.s,0,none⟩),.bool x.live,.int .i64 x.rate] 74)=W at *;have I1:=Hh (I.below BN);generalize wr.heap.size=gx at *;have y0:=Fl.rc Z0 0;have I2:=Hh (I1.below ((aa W.heap.size W).alloc (ac _) (.cells #[.pointer (some ⟨x.s,0,none⟩)] 72)));have BX:=Hh I2.aG.size;clear I BN
   go_wp2_with (at_builtin;refine bX (K:=KN) underlying158 yY rfl (by omega) rfl _ _ rfl w.heap.size _ _ rfl I2.out.w1 _ x.s rfl ?d1 ?d2 ?d3 ?_)
   case d1 =>
    intro j u hu
    match j,hu with
    | 0,hu=>simp [KN] at hu;subst hu;unfold ptr;go_simp
    | j+1,hu=>simp [KN] at hu
   case d2=>rw [N1.out];have:=N32.out;omega
   case d3=>exact BX
   intro v1 w1 o1 g1 h1
   have NEW1:=Hh (I2.acU o1 (by simpa using g1) (by rw [HX.out]));have Z1:=Hh ((((aa W.heap.size W).alloc (ac _) (.cells #[.pointer (some ⟨x.s,0,none⟩)] 72)).block gx (bm Z0)).trans Z0);have Y1:=Hh ((g1.block gx (bm Z1) (fun e=>I2.w1.apart Z1 (by decide) e.symm)).trans Z1);clear o1 g1 h1 I1 I2 BX y0 Z0 Z1;obtain ⟨av1,cv1,ev1,_⟩:=NEW1.w1.slice;generalize (l1 ++ [x.s]).length=Lp1 at ev1;subst ev1;have C2:=Hh (CT w1 NEW1.aG k hlt);unfold TbC at C2;go_upto_region 9 with fail;go_wp2_with fail;refine C2.mono ?_;rintro e w2 ⟨u2,rfl,o2,b2⟩;have I3:=Hh (NEW1.below b2);have U2:=Hh (o2.low NEW1.aG.size);have Y2:=Hh ((b2.block gx (bm Y1)).trans Y1);obtain ⟨a6,c6,e6,_,_⟩:=U2.slice;generalize (bQ T k).length=lk at e6;subst e6;have B3:=Hh ((aa w2.heap.size w2).alloc (ac _) (.cells #[.slice a6 lk c6] 126));have I4:=Hh (I3.below B3);have U3:=Hh (U2.keep B3);have Y3:=Hh ((B3.block gx (bm Y2)).trans Y2);have BX:=Hh I4.aG.size;clear o2 b2 C2 NEW1 U2 I3 Y1 Y2 B3
   go_wp2_with (at_builtin;refine bX (K:=KS) underlying125 xO rfl (by omega) rfl _ _ rfl w.heap.size _ _ rfl I4.out.w2 _ (a6,lk,c6) rfl ?d1 ?d2 ?d3 ?_)
   case d1 =>
    intro j u hu
    match j,hu with
    | 0,hu=>simp [KS] at hu;subst hu;unfold sl;go_simp
    | j+1,hu=>simp [KS] at hu
   case d2=>rw [N2.out];have:=N32.out;omega
   case d3=>exact BX
   intro v3 w3 o3 g3 h3
   have NEW2:=Hh (I4.adx (x:=(a6,lk,c6)) o3 (by simpa using g3) U3.out);have Y4:=Hh ((g3.block gx (bm Y3) (fun e=>I4.w2.apart Y3 (by decide) e.symm)).trans Y3);clear o3 g3 h3 I4 U3 BX Y3;obtain ⟨av2,cv2,ev2,_⟩:=NEW2.w2.slice;generalize (l2 ++ [(a6,lk,c6)]).length=Lp2 at ev2;subst ev2;go_upto_region 10 with fail;have y1:=Fl.rc Y4 1;have B5:=Hh ((aa w3.heap.size w3).alloc (ac _) (.cells #[.bool x.live] 4));have I5:=Hh (NEW2.below B5);have Y5:=Hh ((B5.block gx (bm Y4)).trans Y4);have BX:=Hh I5.aG.size;clear NEW2 Y4 B5
   go_wp2_with (at_builtin;refine bX (K:=KB) underlying35 aaV rfl (by omega) rfl _ _ rfl w.heap.size _ _ rfl I5.out.w3 _ x.live rfl ?d1 ?d2 ?d3 ?_)
   case d1 =>
    intro j u hu
    match j,hu with
    | 0,hu=>simp [KB] at hu;subst hu;go_simp
    | j+1,hu=>simp [KB] at hu
   case d2=>rw [N3.out];have:=N32.out;omega
   case d3=>exact BX
   intro v5 w5 o5 g5 h5
   have NEW3:=Hh (I5.ac0 o5 (by simpa using g5) (by rw [HX.out]));have Y6:=Hh ((g5.block gx (bm Y5) (fun e=>I5.w3.apart Y5 (by decide) e.symm)).trans Y5);clear o5 g5 h5 I5 BX Y5 y1;obtain ⟨av3,cv3,ev3,_⟩:=NEW3.w3.slice;generalize (l3 ++ [x.live]).length=Lp3 at ev3;subst ev3;go_upto_region 11 with fail;have y2:=Fl.rc Y6 2;have LT:=Hh (Rw.Ow.lit (K:=K2) w5 w.heap.size 162 [(0,x.rate)] NEW3.aG.size (by unfold maxLen;simp));have B7:=Hh ((aa w5.heap.size w5).alloc (ac _) (.cells #[.int .i64 0,.int .i64 x.rate] 162));generalize hg7:w5.heap.size=g7 at *;have B8:=Hh ((aa (w5.alloc (.cells #[.int .i64 0,.int .i64 x.rate] 162)).heap.size (w5.alloc (.cells #[.int .i64 0,.int .i64 x.rate] 162))).alloc (ac _) (.cells #[.slice (some ⟨g7,0,none⟩) 1 1] 163));have I7:=Hh ((NEW3.below (by have:=B7.out;rw [← hg7] at this;exact this)).below B8.out);have U8:=Hh (LT.keep B8);have BX:=Hh I7.aG.size;clear NEW3 Y6 LT B7 B8
   go_wp2_with (at_builtin;refine bX (K:=KS) underlying159 aaY rfl (by omega) rfl _ _ rfl w.heap.size _ _ rfl I7.out.w4 _ (some ⟨g7,0,none⟩,1,1) rfl ?d1 ?d2 ?d3 ?_)
   case d1 =>
    intro j u hu
    match j,hu with
    | 0,hu=>simp [KS] at hu;subst hu;unfold sl;go_simp
    | j+1,hu=>simp [KS] at hu
   case d2=>rw [N4.out];have:=N32.out;omega
   case d3=>exact BX
   intro v7 w7 o7 g7' h7
   have NEW4:=Hh (I7.acz (x:=(some ⟨g7,0,none⟩,1,1)) o7 (by simpa using g7') (by rw [HX.out];exact U8.out));clear o7 g7' h7 I7 BX y2 U8;obtain ⟨av4,cv4,ev4,_⟩:=NEW4.w4.slice;generalize List.length _=Lp4 at ev4;subst ev4;have n32:=N32.out.2;go_wp2
   go_roundw
   case rel=>exact ⟨k+1,_,_,_,_,_,_,_,_,by have:=HLT.out;omega,by go_num,rfl,rfl,rfl,rfl,NEW4⟩
   case measure=>have:=HLT;simp [intOf];omega
  ·obtain rfl:k=n:=by omega
   have CR:=Hh (Ef (w:=wr) (S:=c.S) (T:=T) (V:=c.V) (P:=P) (O:=Jt L) (CI.stl (by rw [HN.out];exact I.out) H.out) (CI.tab I.out (by rw [HT.out])) (CI.liv (by rw [HN.out];exact I.out) H.out (by rw [OK.out,HN.out])) (R.out.below I.out.aG) (CI.osl (by rw [HL.out];exact I.out)) (GG.out.below I.out.aG) (by rw [HN.out];exact DV.out));obtain ⟨q1,q2⟩:=BE c.S T c.V P (by rw [HN.out];exact OL.out) CC.out;rw [q1,RE.out] at CR;have Q2:=Hh q2;have BW:=Hh I.aG;have HW:=Hh (H.below I.aG);have LOW:=Hh H.low;clear q1 q2 I N1 N2 N3 N4 CT ND DV BE R;unfold BrP at CR
   by_cases hE:re=0
   ·have HS:Hid (S2=mF c.S T c.V P):=Hh (by rw [← CS.out];exact aw (RE.out.trans hE))
    have HR:Hid (S2.length=k):=Hh (by rw [HS.out,Zk (RE.out.trans hE),HN.out]);rw [Q2.out (RE.out.trans hE),← HS.out] at CR;subst hE;clear Q2 HS;go_wp2_with fail;refine CR.mono ?_;rintro e w2 ⟨v,ps,Gs,rfl,hpj,_,b2⟩;have PJ2:=Hh (hpj trivial);have H2:=Hh (HW.below b2);have P0:Hid (PL w2 g cap k L ps 0 w2):=Hh ⟨by rw [NM];exact H2.out.no,Only.refl _ _⟩;have D0:=Hh H2.cells.1;have NS:Hid (s≠g):=Hh (fun e=>H2.vs.1 (by rw [e];rfl));have PLN:Hid (ps.length=k):=Hh (by rw [PJ2.out.len,HR.out]);obtain ⟨gb,cb,ev,_,_,_,_,_,hA⟩:=PJ2.own.form (by have:=PLN.out;have:=N32.out;omega);rw [PLN.out] at ev
    have AT:Hid (∀ i,i < k->w2.cell? ⟨gb,i,none⟩=some (.pointer (some ⟨ps.getD i 0,0,none⟩))):=Hh (fun i hi=>by
     have:=Pa.U1 hA (i:=i) (by rw [PLN.out];exact hi);rw [cX] at this
     exact this)
    have NB:Hid (gb≠g):=Hh (fun e=>by
     obtain ⟨_,q⟩:=H2.no
     rcases q with ⟨q,_⟩ | ⟨b,cap',cur,q,_,hh,_⟩
     ·cases q
     ·injection q with q1 _ _
      injection q1 with q1;injection q1 with q1 _ _
      exact PJ2.own.apart hh (by decide) (by rw [ev,e,q1];rfl))
    have FIN:Hid (∀ w',PL w2 g cap k L ps k w'->kg w s F { c with S:=S2 } t 0 (.returned (.int .i64 0)) w'):=Hh (fun w' pp=>by
     have q:=Cl.carry HW (g:=g) (cap:=cap) (by rw [HN.out]) PJ2.out (by rw [HR.out,HN.out]) (by rw [HN.out];exact pp)
     exact (show kg wr s F { c with S:=S2 } t 0 (.returned (.int .i64 0)) w' from ⟨rfl,⟨_,_,_,_,_,q.1⟩,q.2⟩).pre BW LOW)
    subst ev;clear hpj b2 hA CR;obtain ⟨wo,hwo⟩:∃ x,x=wr:=⟨_,rfl⟩;subst hwo;go_wp2
    go_loopw [63] (fun i wr3=>∃ j:Nat,j<=k/\i = .int .i64 j/\Hid (PL w2 g cap k L ps j wr3)) (fun i _=>k - (intOf i).toNat)
    case atStart=>exact ⟨0,bt _,rfl,P0⟩
    case round =>
     clear P0;obtain ⟨j,hj,rfl,PP⟩:=hrel
     by_cases hlj:j < k
     ·have y0:=PP.only.cell (AT j hlj) NB
      have y1:=PP.only.cell D0 NS;have hpl:(rW L ps j).length=k:=by rw [eB];exact HL.out
      have PO:=PP.own;obtain ⟨g',cap',e',_,_,_,_,fz,hA⟩:=PO.form (by omega);injection e' with e1 _ e3;injection e1 with e1;injection e1 with e1 _ _;subst e1 e3;have y2:=(atD hA (i:=j) (by omega)).1;have f2:=fz (j * 3);rw [cX] at y2;unfold ptr at y2;have P1:=Hh (PP.step HL hlj);unfold ptr at P1;have HLJ:=Hh hlj;clear PP hA fz PO hpl;generalize ps.getD j 0=nj at *;generalize (iI (rW L ps j) j).s=oj at *;have n32:=N32.out.2;go_wp2
      go_roundw
      case rel=>exact ⟨j+1,by have:=HLJ.out;omega,by go_num,P1⟩
      case measure=>have:=HLJ;simp [intOf];omega
     ·obtain rfl:j=k:=by omega
      have E:=Hh (FIN wr PP);clear FIN PP;go_wp2
      go_ret
      exact E
   ·have HS:Hid (S2=c.S):=Hh (by rw [← CS.out];exact aq (fun e=>hE (RE.out.symm.trans e)))
    clear Q2;go_wp2_with fail;refine CR.mono ?_;rintro e w2 ⟨v,ps,Gs,rfl,_,hv,b2⟩;obtain rfl:=hv hE
    have E:Hid (kg w s F { c with S:=S2 } t re (.returned (.int .i64 re)) w2):=Hh (by
     rw [HS.out]
     exact (iM HW b2 re).pre BW LOW)
    clear b2 hv CR;obtain ⟨wo,hwo⟩:∃ x,x=wr:=⟨_,rfl⟩;subst hwo;go_wp2
    go_loopw [63] (fun i wr3=>i = .int .i64 0/\w2=wr3) (fun _ _=>0)
    case atStart=>exact ⟨rfl,rfl⟩
    case round =>
     obtain ⟨rfl,rfl⟩:=hrel;go_wp2
     go_ret
     exact E
end Cu
namespace Wt
open Fl (aA aK)
attribute [local irreducible] Sd.aW wpQuiet
def hZ (r z:Int):Int:=if r=2\/r=3 then 0 else z
def wZ (r z:Int):Int:=if r=2\/r=3 then z+1 else z
variable {w w':World} {s t r:Nat} {r0 z0 r1 z1 n la:Int}
theorem ac9 (h:dZ w s r0 z0 r1 z1) (hz:0<=z0/\z0<=1000000):Calls prog 83 #[.pointer (some ⟨s,0,none⟩)] w fun e w'=>e = .returned (.tuple #[])/\dZ w' s r0 (wZ r0 z0) r1 z1/\Only (fun b=>b=s) w w':=by
 obtain ⟨c0,c1,f0,f1⟩:=wE h;have R:=Hh h;clear h
 by_cases h2:r0=2
 ·subst h2
  have wr:IntKind.i64.wrap (z0+1)=z0+1:=cE _ (by omega);have F:Hid (dZ (w.setCell ⟨s,1,none⟩ (.int .i64 (z0+1))) s 2 (wZ 2 z0) r1 z1/\Only (fun b=>b=s) w (w.setCell ⟨s,1,none⟩ (.int .i64 (z0+1)))):=Hh ⟨R.set1 _,aO s 1 _ _⟩;clear R hz
  go_enter func83,ntmps83
  go_wp2
  first | go_end0 | refine bo (results_none rfl _ _ _) rfl ?_
  exact ⟨rfl,F⟩
 ·by_cases h3:r0=3
  ·subst h3
   clear h2;have wr:IntKind.i64.wrap (z0+1)=z0+1:=cE _ (by omega);have F:Hid (dZ (w.setCell ⟨s,1,none⟩ (.int .i64 (z0+1))) s 3 (wZ 3 z0) r1 z1/\Only (fun b=>b=s) w (w.setCell ⟨s,1,none⟩ (.int .i64 (z0+1)))):=Hh ⟨R.set1 _,aO s 1 _ _⟩;clear R hz
   go_enter func83,ntmps83
   go_wp2
   first | go_end0 | refine bo (results_none rfl _ _ _) rfl ?_
   exact ⟨rfl,F⟩
  ·have e1:wZ r0 z0=z0:=aq (by omega)
   have F:Hid (dZ w s r0 (wZ r0 z0) r1 z1/\Only (fun b=>b=s) w w):=Hh ⟨by rw [e1];exact R.out,Only.refl _ _⟩;have q2:=cz.2 h2;have q3:=cz.2 h3;clear R h2 h3 e1
   go_enter func83,ntmps83
   go_wp2
   first | go_end0 | refine bo (results_none rfl _ _ _) rfl ?_
   exact ⟨rfl,F⟩
theorem adh (h:dZ w s r0 z0 r1 z1) (hz:0<=z1/\z1<=1000000):Calls prog 83 #[.pointer (some ⟨s,2,none⟩)] w fun e w'=>e = .returned (.tuple #[])/\dZ w' s r0 z0 r1 (wZ r1 z1)/\Only (fun b=>b=s) w w':=by
 have c0:=Fl.rc h 2;have c1:=Fl.rc h 3;have f0:=aj h 2;have f1:=aj h 3;have R:=Hh h;clear h
 by_cases h2:r1=2
 ·subst h2
  have wr:IntKind.i64.wrap (z1+1)=z1+1:=cE _ (by omega);have F:Hid (dZ (w.setCell ⟨s,3,none⟩ (.int .i64 (z1+1))) s r0 z0 2 (wZ 2 z1)/\Only (fun b=>b=s) w (w.setCell ⟨s,3,none⟩ (.int .i64 (z1+1)))):=Hh ⟨R.pR _,aO s 3 _ _⟩;clear R hz
  go_enter func83,ntmps83
  go_wp2
  first | go_end0 | refine bo (results_none rfl _ _ _) rfl ?_
  exact ⟨rfl,F⟩
 ·by_cases h3:r1=3
  ·subst h3
   clear h2;have wr:IntKind.i64.wrap (z1+1)=z1+1:=cE _ (by omega);have F:Hid (dZ (w.setCell ⟨s,3,none⟩ (.int .i64 (z1+1))) s r0 z0 3 (wZ 3 z1)/\Only (fun b=>b=s) w (w.setCell ⟨s,3,none⟩ (.int .i64 (z1+1)))):=Hh ⟨R.pR _,aO s 3 _ _⟩;clear R hz
   go_enter func83,ntmps83
   go_wp2
   first | go_end0 | refine bo (results_none rfl _ _ _) rfl ?_
   exact ⟨rfl,F⟩
  ·have e1:wZ r1 z1=z1:=aq (by omega)
   have F:Hid (dZ w s r0 z0 r1 (wZ r1 z1)/\Only (fun b=>b=s) w w):=Hh ⟨by rw [e1];exact R.out,Only.refl _ _⟩;have q2:=cz.2 h2;have q3:=cz.2 h3;clear R h2 h3 e1
   go_enter func83,ntmps83
   go_wp2
   first | go_end0 | refine bo (results_none rfl _ _ _) rfl ?_
   exact ⟨rfl,F⟩
theorem FQ (h:dZ w s r0 z0 r1 z1):Calls prog 84 #[.pointer (some ⟨s,0,none⟩)] w fun e w'=>e = .returned (.tuple #[])/\dZ w' s (hdN r0) (hZ r0 z0) r1 z1/\Only (fun b=>b=s) w w':=by
 obtain ⟨c0,c1,f0,f1⟩:=wE h;have R:=Hh h;clear h
 by_cases h2:r0=2
 ·subst h2
  have F:Hid (dZ (w.setCell ⟨s,1,none⟩ (.int .i64 0)) s (hdN 2) (hZ 2 z0) r1 z1/\Only (fun b=>b=s) w (w.setCell ⟨s,1,none⟩ (.int .i64 0))):=Hh ⟨R.set1 _,aO s 1 _ _⟩;clear R
  go_enter func84,ntmps84
  go_wp2
  first | go_end0 | refine bo (results_none rfl _ _ _) rfl ?_
  exact ⟨rfl,F⟩
 ·by_cases h3:r0=3
  ·subst h3
   clear h2;have F:Hid (dZ ((w.setCell ⟨s,0,none⟩ (.int .i64 2)).setCell ⟨s,1,none⟩ (.int .i64 0)) s (hdN 3) (hZ 3 z0) r1 z1/\Only (fun b=>b=s) w ((w.setCell ⟨s,0,none⟩ (.int .i64 2)).setCell ⟨s,1,none⟩ (.int .i64 0))):=Hh ⟨(R.set0 _).set1 _,(aO s 0 _ _).trans (aO s 1 _ _) (fun _ _ q=>q)⟩;clear R
   go_enter func84,ntmps84
   go_wp2
   first | go_end0 | refine bo (results_none rfl _ _ _) rfl ?_
   exact ⟨rfl,F⟩
  ·have e1:hZ r0 z0=z0:=aq (by omega)
   have e2:hdN r0=r0:=aq h3;have F:Hid (dZ w s (hdN r0) (hZ r0 z0) r1 z1/\Only (fun b=>b=s) w w):=Hh ⟨by rw [e1,e2];exact R.out,Only.refl _ _⟩;have q2:=cz.2 h2;have q3:=cz.2 h3;clear R h2 h3 e1 e2
   go_enter func84,ntmps84
   go_wp2
   first | go_end0 | refine bo (results_none rfl _ _ _) rfl ?_
   exact ⟨rfl,F⟩
theorem Ey (h:dZ w s r0 z0 r1 z1):Calls prog 84 #[.pointer (some ⟨s,2,none⟩)] w fun e w'=>e = .returned (.tuple #[])/\dZ w' s r0 z0 (hdN r1) (hZ r1 z1)/\Only (fun b=>b=s) w w':=by
 have c0:=Fl.rc h 2;have c1:=Fl.rc h 3;have f0:=aj h 2;have f1:=aj h 3;have R:=Hh h;clear h
 by_cases h2:r1=2
 ·subst h2
  have F:Hid (dZ (w.setCell ⟨s,3,none⟩ (.int .i64 0)) s r0 z0 (hdN 2) (hZ 2 z1)/\Only (fun b=>b=s) w (w.setCell ⟨s,3,none⟩ (.int .i64 0))):=Hh ⟨R.pR _,aO s 3 _ _⟩;clear R
  go_enter func84,ntmps84
  go_wp2
  first | go_end0 | refine bo (results_none rfl _ _ _) rfl ?_
  exact ⟨rfl,F⟩
 ·by_cases h3:r1=3
  ·subst h3
   clear h2;have F:Hid (dZ ((w.setCell ⟨s,2,none⟩ (.int .i64 2)).setCell ⟨s,3,none⟩ (.int .i64 0)) s r0 z0 (hdN 3) (hZ 3 z1)/\Only (fun b=>b=s) w ((w.setCell ⟨s,2,none⟩ (.int .i64 2)).setCell ⟨s,3,none⟩ (.int .i64 0))):=Hh ⟨(R.set2 _).pR _,(aO s 2 _ _).trans (aO s 3 _ _) (fun _ _ q=>q)⟩;clear R
   go_enter func84,ntmps84
   go_wp2
   first | go_end0 | refine bo (results_none rfl _ _ _) rfl ?_
   exact ⟨rfl,F⟩
  ·have e1:hZ r1 z1=z1:=aq (by omega)
   have e2:hdN r1=r1:=aq h3;have F:Hid (dZ w s r0 z0 (hdN r1) (hZ r1 z1)/\Only (fun b=>b=s) w w):=Hh ⟨by rw [e1,e2];exact R.out,Only.refl _ _⟩;have q2:=cz.2 h2;have q3:=cz.2 h3;clear R h2 h3 e1 e2
   go_enter func84,ntmps84
   go_wp2
   first | go_end0 | refine bo (results_none rfl _ _ _) rfl ?_
   exact ⟨rfl,F⟩
theorem aaM (a:A) (z0 z1:Int) (t:Nat) (v:Vm a z0 z1 t):(a.r0=1->opn a=0)/\(a.r0≠1->a.r1=1->opn a=1)/\(a.r0≠1->a.r1≠1->(du a.r0 z0 0=true->opn a=0)/\(du a.r0 z0 0=false->(du a.r1 z1 1=true->opn a=1)/\(du a.r1 z1 1=false->opn a = -1))):=by
 have e0:=v.e0;have e1:=v.e1;have D0:du a.r0 z0 0=true↔d0 a:=by
  unfold du d0;simp only [Bool.or_eq_true,ce,cM]
  by_cases h2:a.r0=2
  ·rw [e0 (.inl h2)];omega
  ·by_cases h3:a.r0=3
   ·rw [e0 (.inr h3)];omega
   ·omega
 have D1:du a.r1 z1 1=true↔d1 a:=by
  unfold du d1;simp only [Bool.or_eq_true,ce,cM]
  by_cases h2:a.r1=2
  ·rw [e1 (.inl h2)];omega
  ·by_cases h3:a.r1=3
   ·rw [e1 (.inr h3)];omega
   ·omega
 rcases NY a with ⟨e,g,_⟩ | ⟨e,g0,g,_⟩ | ⟨e,g0,g1,g2,g3,_⟩
 ·refine ⟨fun _=>e,fun n0 y=>?_,fun n0 n1=>⟨fun _=>e,fun y=>?_⟩⟩
  ·rcases g with g | ⟨_,g,_⟩
   ·exact absurd g n0
   ·exact absurd y g
  ·rcases g with g | ⟨_,_,g⟩
   ·exact absurd g n0
   ·rw [D0.2 g] at y;exact Bool.noConfusion y
 ·refine ⟨fun y=>absurd y g0,fun _ _=>e,fun _ n1=>⟨fun y=>?_,fun _=>⟨fun _=>e,fun y=>?_⟩⟩⟩
  ·rcases g with g | ⟨_,g,_⟩
   ·exact absurd g n1
   ·exact absurd (D0.1 y) g
  ·rcases g with g | ⟨_,_,g⟩
   ·exact absurd g n1
   ·rw [D1.2 g] at y;exact Bool.noConfusion y
 ·refine ⟨fun y=>absurd y g0,fun _ y=>absurd y g1,fun _ _=>⟨fun y=>absurd (D0.1 y) g2,fun _=>⟨fun y=>absurd (D1.1 y) g3,fun _=>e⟩⟩⟩
variable {a b:A}
theorem Ke (P:Pr w s a t):Calls prog 82 #[.pointer (some ⟨s,0,none⟩)] w fun e w'=>e = .returned (.int .i64 (opn a))/\Below w.heap.size w w':=by
 obtain ⟨z0,z1,hr,hv⟩:=P;have O:=Hh (aaM a z0 z1 t hv);obtain ⟨c0,c1,c2,c3⟩:=zX hr;have R:=Hh hr;clear hr hv;generalize opn a=o at *;generalize a.r0=x0 at *;generalize a.r1=x1 at *;have i0:∀ W:World,(Instr.index 105 (.agg #[.int .i64 x0,.int .i64 z0,.int .i64 x1,.int .i64 z1]) (.int .i64 0)).run prog W = .ok (.agg #[.int .i64 x0,.int .i64 z0]) W:=fun W=>rfl;have i1:∀ W:World,(Instr.index 105 (.agg #[.int .i64 x0,.int .i64 z0,.int .i64 x1,.int .i64 z1]) (.int .i64 1)).run prog W = .ok (.agg #[.int .i64 x1,.int .i64 z1]) W:=fun W=>rfl
 go_enter func82,ntmps82
 go_wp2
 go_loopw [11] (fun i wr=>∃ k:Nat,k<=2/\i = .int .i64 k/\Hid (Below w.heap.size w wr)/\Hid (1<=k->x0≠1)/\Hid (2<=k->x1≠1)) (fun i _=>2 - (intOf i).toNat)
 case atStart=>exact ⟨0,by omega,rfl,Hh (aa _ _),Hh (fun h=>by omega),Hh (fun h=>by omega)⟩
 case round =>
  obtain ⟨k,hk,rfl,BB,N0,N1⟩:=hrel
  rcases (by omega:k=0\/k=1\/k=2) with rfl | rfl | h2
  ·have B1:Hid (Below w.heap.size w (wr.alloc (.cells #[.int .i64 x0,.int .i64 z0] 104))):=Hh (BB.alloc BB.size _)
   by_cases h:x0=1
   ·have E:=Hh (O.out.1 h)
    clear O N0 N1 c0 c1 c2 c3;subst h;go_wp2
    go_ret
    exact ⟨c8 (fun z=>Ending.returned (.int .i64 z)) E.symm,B1⟩
   ·have q:=cz.2 h
    have N:=Hh (fun _:1<=1=>h);clear N0 c0 c1 c2 c3 h;go_wp2
    go_roundw
    case rel=>exact ⟨1,by omega,rfl,B1,N,Hh (fun h=>by omega)⟩
    case measure=>simp [intOf]
  ·have B1:Hid (Below w.heap.size w (wr.alloc (.cells #[.int .i64 x1,.int .i64 z1] 104))):=Hh (BB.alloc BB.size _)
   by_cases h:x1=1
   ·have E:=Hh (O.out.2.1 (N0 (by omega)) h)
    clear O N0 N1 c0 c1 c2 c3;subst h;go_wp2
    go_ret
    exact ⟨c8 (fun z=>Ending.returned (.int .i64 z)) E.symm,B1⟩
   ·have q:=cz.2 h
    have N:=Hh (fun _:2<=2=>h);have N':=Hh (fun _:1<=2=>N0 (by omega));clear N0 c0 c1 c2 c3 h;go_wp2
    go_roundw
    case rel=>exact ⟨2,by omega,rfl,B1,N',N⟩
    case measure=>simp [intOf]
  ·have O2:=Hh (O.out.2.2 (N0 (by omega)) (N1.out (by omega)))
   have R1:=Hh (R.below BB);obtain ⟨c0,c1,c2,c3⟩:=zX R1;have hk2:¬ (k:Int) < 2:=by omega
   clear O N0 N1 R R1 h2 hk;go_upto_region 7 with fail;clear hk2;generalize (k:Int)=k2 at *;go_wp2
   go_loopw [24] (fun i wr=>∃ k:Nat,k<=2/\i = .int .i64 k/\Hid (Below w.heap.size w wr)/\Hid (1<=k->du x0 z0 0=false)/\Hid (2<=k->du x1 z1 1=false)) (fun i _=>2 - (intOf i).toNat)
   case atStart=>exact ⟨0,by omega,rfl,BB,Hh (fun h=>by omega),Hh (fun h=>by omega)⟩
   case round =>
    clear BB c0 c1 c2 c3;obtain ⟨k,hk,rfl,BB,N0,N1⟩:=hrel
    rcases (by omega:k=0\/k=1\/k=2) with rfl | rfl | rfl
    ·have B1:Hid (Below w.heap.size w (wr.alloc (.cells #[.int .i64 x0,.int .i64 z0] 104))):=Hh (BB.alloc BB.size _)
     have D:=Hh (Mb (wr.alloc (.cells #[.int .i64 x0,.int .i64 z0] 104)) x0 z0 0 (by omega));clear N0 N1;generalize hd:du x0 z0 0=d at *;have HD:=Hh hd;clear hd;go_wp2_with fail;refine D.mono ?_;rintro e w2 ⟨rfl,b2⟩;have B2:=aR B1 b2;clear b2 D B1 BB
     cases d with
     | true =>
       have E:=Hh (O2.out.1 rfl);clear O2 HD;go_wp2
       go_ret
       exact ⟨c8 (fun z=>Ending.returned (.int .i64 z)) E.symm,B2⟩
     | false =>
       go_wp2
       go_roundw
       case rel=>exact ⟨1,by omega,rfl,B2,Hh (fun _=>trivial),Hh (fun h=>by omega)⟩
       case measure=>simp [intOf]
    ·have B1:Hid (Below w.heap.size w (wr.alloc (.cells #[.int .i64 x1,.int .i64 z1] 104))):=Hh (BB.alloc BB.size _)
     have D:=Hh (Mb (wr.alloc (.cells #[.int .i64 x1,.int .i64 z1] 104)) x1 z1 1 (by omega));have O3:=Hh (O2.out.2 (N0 (by omega)));have N':=Hh (fun _:1<=2=>N0 (by omega));clear N0 N1 O2;generalize hd:du x1 z1 1=d at *;have HD:=Hh hd;clear hd;go_wp2_with fail;refine D.mono ?_;rintro e w2 ⟨rfl,b2⟩;have B2:=aR B1 b2;clear b2 D B1 BB
     cases d with
     | true =>
       have E:=Hh (O3.out.1 rfl);clear O3 HD N';go_wp2
       go_ret
       exact ⟨c8 (fun z=>Ending.returned (.int .i64 z)) E.symm,B2⟩
     | false =>
       clear O3;go_wp2
       go_roundw
       case rel=>exact ⟨2,by omega,rfl,B2,N',Hh (fun _=>trivial)⟩
       case measure=>simp [intOf]
    ·have E:=Hh ((O2.out.2 (N0 (by omega))).2 (N1.out (by omega)))
     clear O2 N0 N1;go_wp2
     go_ret
     exact ⟨c8 (fun z=>Ending.returned (.int .i64 z)) E.symm,BB⟩
def dW (w:World) (r:Nat) (a:A) (t:Nat) (e:Ending) (w':World):Prop:=e = .returned (.int .i64 (opn a))/\Pf w' r (jo a) (t+1)/\Only (fun b=>b=r) w w'
def st (a:A):Nat->A
 | 0=>a
 | 1=>t1 a
 | _=>tk a
def Oz (b:A):Prop:=(b.r0=2/\4<=b.q0)\/(b.r0=3/\8<=b.q0)
def Np (b:A):Prop:=(b.r1=2/\4<=b.q1)\/(b.r1=3/\9<=b.q1)
instance (b:A):Decidable (Oz b):=by unfold Oz;infer_instance
instance (b:A):Decidable (Np b):=by unfold Np;infer_instance
theorem ZI (h:¬ (b.r0≠1/\b.r1≠1/\Oz b)):t1 b=b:=aq h
theorem ab1 (h:b.r0≠1/\b.r1≠1/\Oz b):t1 b = { b with r0:=1 }:=aw h
theorem aam (h:¬ (b.r0≠1/\b.r1≠1/\Np b)):t2 b=b:=aq h
theorem aaI (h:b.r0≠1/\b.r1≠1/\Np b):t2 b = { b with r1:=1 }:=aw h
def Hz (w:World) (r:Nat) (b:A) (n la:Int) (t:Nat):Prop:=∃ s0 s1,eT w r b.r0 b.r1 s0 s1 n la/\Vf b s0 s1 n la t
theorem Hz.below (h:Hz w r b n la t) (bb:Below w.heap.size w w'):Hz w' r b n la t:=by
 obtain ⟨s0,s1,hr,hv⟩:=h;exact ⟨s0,s1,hr.only (Only.of_below (G:=fun _=>False) bb) (fun g=>g),hv⟩
theorem Hz.acJ (h:Hz w r b n la t):Hz ((w.setCell ⟨r,0,none⟩ (.int .i64 1)).setCell ⟨r,2,none⟩ (.int .i64 n)) r { b with r0:=1 } n la t:=by
 obtain ⟨s0,s1,hr,hv⟩:=h;exact ⟨n,s1,(hr.set0 1).set2 n,⟨⟨by have:=hv.bl;omega,gk _⟩,hv.b1,hv.bl,hv.bn,(fun g=>absurd g (by show ¬ ((1:Int)=2\/(1:Int)=3);decide)),hv.e1⟩⟩
theorem Hz.take1 (h:Hz w r b n la t):Hz ((w.setCell ⟨r,1,none⟩ (.int .i64 1)).setCell ⟨r,3,none⟩ (.int .i64 n)) r { b with r1:=1 } n la t:=by
 obtain ⟨s0,s1,hr,hv⟩:=h;exact ⟨s0,n,(hr.set1 1).pR n,⟨hv.b0,⟨by have:=hv.bl;omega,gk _⟩,hv.bl,hv.bn,hv.e0,(fun g=>absurd g (by show ¬ ((1:Int)=2\/(1:Int)=3);decide))⟩⟩
section
variable {T:A} {s0 s1 n la:Int} {t:Nat} (hv:Vf T s0 s1 n la t)
include hv
theorem Vf.none:Vf ⟨T.r0,T.q0+1,T.r1,T.q1+1⟩ s0 s1 (n+1) la (t+1):=by
 have b0:=hv.b0;have b1:=hv.b1;have bl:=hv.bl;have bn:=hv.bn;exact ⟨by omega,by omega,by omega,by omega,fun g=>by have:=hv.e0 g;show T.q0+1=_;omega,fun g=>by have:=hv.e1 g;show T.q1+1=_;omega⟩
theorem Vf.Z9 (x:Int):Vf ⟨1,x,T.r1,0⟩ s0 s1 (n+1) (n+1) (t+1):=by
 have b0:=hv.b0;have b1:=hv.b1;have bl:=hv.bl;have bn:=hv.bn;exact ⟨by omega,by omega,by omega,by omega,(fun g=>absurd g (by show ¬ ((1:Int)=2\/(1:Int)=3);decide)),fun g=>by show (0:Int)=n+1 - (if s1 < n+1 then n+1 else s1);rw [aw (by omega)];omega⟩
theorem Vf.ZJ (x:Int):Vf ⟨T.r0,0,1,x⟩ s0 s1 (n+1) (n+1) (t+1):=by
 have b0:=hv.b0;have b1:=hv.b1;have bl:=hv.bl;have bn:=hv.bn;exact ⟨by omega,by omega,by omega,by omega,fun g=>by show (0:Int)=n+1 - (if s0 < n+1 then n+1 else s0);rw [aw (by omega)];omega,(fun g=>absurd g (by show ¬ ((1:Int)=2\/(1:Int)=3);decide))⟩
theorem Vf.FQ (x:Int):Vf ⟨1,x,2,0⟩ s0 (n+1) (n+1) (n+1) (t+1):=by
 have b0:=hv.b0;have bl:=hv.bl;have bn:=hv.bn;exact ⟨by omega,by omega,by omega,by omega,(fun g=>absurd g (by show ¬ ((1:Int)=2\/(1:Int)=3);decide)),fun g=>by show (0:Int)=n+1 - (if n+1 < n+1 then n+1 else n+1);rw [aq (by omega)];omega⟩
theorem Vf.Ey (x:Int):Vf ⟨2,0,1,x⟩ (n+1) s1 (n+1) (n+1) (t+1):=by
 have b1:=hv.b1;have bl:=hv.bl;have bn:=hv.bn;exact ⟨by omega,by omega,by omega,by omega,fun g=>by show (0:Int)=n+1 - (if n+1 < n+1 then n+1 else n+1);rw [aq (by omega)];omega,(fun g=>absurd g (by show ¬ ((1:Int)=2\/(1:Int)=3);decide))⟩
end
structure ac5 (w:World) (r:Nat) (a:A) (t:Nat) (s0 s1 n la:Int):Prop where
 none:(tk a).r0≠1->(tk a).r1≠1->∀ w',eT w' r (tk a).r0 (tk a).r1 s0 s1 (n+1) la->Only (fun b=>b=r) w w'->dW w r a t (.returned (.int .i64 (-1))) w'
 Z9:(tk a).r0=1->(tk a).r1≠3->∀ w',eT w' r (tk a).r0 (tk a).r1 s0 s1 (n+1) (n+1)->Only (fun b=>b=r) w w'->dW w r a t (.returned (.int .i64 0)) w'
 FQ:(tk a).r0=1->(tk a).r1=3->∀ w',eT w' r (tk a).r0 2 s0 (n+1) (n+1) (n+1)->Only (fun b=>b=r) w w'->dW w r a t (.returned (.int .i64 0)) w'
 ZJ:(tk a).r0≠1->(tk a).r1=1->(tk a).r0≠3->∀ w',eT w' r (tk a).r0 (tk a).r1 s0 s1 (n+1) (n+1)->Only (fun b=>b=r) w w'->dW w r a t (.returned (.int .i64 1)) w'
 Ey:(tk a).r0≠1->(tk a).r1=1->(tk a).r0=3->∀ w',eT w' r 2 (tk a).r1 (n+1) s1 (n+1) (n+1)->Only (fun b=>b=r) w w'->dW w r a t (.returned (.int .i64 1)) w'
variable {s0 s1 r z q:Int}
theorem abz {r:Nat} (hv:Vf (tk a) s0 s1 n la t):ac5 w r a t s0 s1 n la:=by
 have eo:opn a=op (tk a):=rfl;have er:jo a=hd (tk a):=rfl;refine ⟨fun h0 h1 w' hr oo=>?_,fun h0 h3 w' hr oo=>?_,fun h0 h3 w' hr oo=>?_,fun h0 h1 h3 w' hr oo=>?_,fun h0 h1 h3 w' hr oo=>?_⟩
 ·have e1:op (tk a) = -1:=by unfold op;rw [aq h0,aq h1]
  have e2:hd (tk a)=⟨(tk a).r0,(tk a).q0+1,(tk a).r1,(tk a).q1+1⟩:=by unfold hd;rw [aq h0,aq h1]
  exact ⟨by rw [eo,e1],by rw [er,e2];exact ⟨_,_,_,_,hr,hv.none⟩,oo⟩
 ·have e1:op (tk a)=0:=aw h0
  have e2:hd (tk a)=⟨1,0,(tk a).r1,0⟩:=by unfold hd hdN;rw [aw h0,aq h3]
  rw [h0] at hr;exact ⟨by rw [eo,e1],by rw [er,e2];exact ⟨_,_,_,_,hr,hv.Z9 0⟩,oo⟩
 ·have e1:op (tk a)=0:=aw h0
  have e2:hd (tk a)=⟨1,0,2,0⟩:=by unfold hd hdN;rw [aw h0,aw h3]
  rw [h0] at hr;exact ⟨by rw [eo,e1],by rw [er,e2];exact ⟨_,_,_,_,hr,hv.FQ 0⟩,oo⟩
 ·have e1:op (tk a)=1:=by unfold op;rw [aq h0,aw h1]
  have e2:hd (tk a)=⟨(tk a).r0,0,1,0⟩:=by unfold hd hdN;rw [aq h0,aw h1,aq h3]
  rw [h1] at hr;exact ⟨by rw [eo,e1],by rw [er,e2];exact ⟨_,_,_,_,hr,hv.ZJ 0⟩,oo⟩
 ·have e1:op (tk a)=1:=by unfold op;rw [aq h0,aw h1]
  have e2:hd (tk a)=⟨2,0,1,0⟩:=by unfold hd hdN;rw [aq h0,aw h1,aw h3]
  rw [h1] at hr;exact ⟨by rw [eo,e1],by rw [er,e2];exact ⟨_,_,_,_,hr,hv.Ey 0⟩,oo⟩
set_option maxRecDepth 100000 in
theorem Kc {r:Nat} (P:Pf w r a t) (ht:t<=90000):Calls prog 64 #[.pointer (some ⟨r,0,none⟩)] w (dW w r a t):=by
 obtain ⟨s0,s1,n,la,hr,hv⟩:=P;have A0:Hid (Hz w r (st a 0) n la t):=Hh ⟨s0,s1,hr,hv⟩;have bl:=hv.bl;have bn:=hv.bn;clear hr hv
 go_enter func64,ntmps64
 go_wp2
 go_loopw [3] (fun i wr=>∃ k:Nat,k<=2/\i = .int .i64 k/\Hid (Hz wr r (st a k) n la t)/\Hid (Only (fun b=>b=r) w wr)) (fun i _=>2 - (intOf i).toNat)
 case atStart=>exact ⟨0,by omega,rfl,A0,Hh (Only.refl _ _)⟩
 case round =>
  clear A0;obtain ⟨k,hk,rfl,M,OO⟩:=hrel
  rcases (by omega:k=0\/k=1\/k=2) with rfl | rfl | rfl
  ·have ST:Hid (st a 1=t1 (st a 0)):=Hh rfl
   generalize st a 0=b at *;obtain ⟨s0,s1,hr,hv⟩:=M.out;have c0:=Fl.rc hr 0;have c1:=Fl.rc hr 1;have CS:=Hh (WU hr ⟨hv.b0,hv.bl,by have:=hv.bn;omega⟩);have Q:=Hh (show (b.r0=2\/b.r0=3)->b.q0=MH s0 n la from hv.e0);generalize MH s0 n la=q at *;have HD:Hid (decide (Oz b)=true↔((b.r0=2/\4<=b.q0)\/(b.r0=3/\8<=b.q0))):=Hh decide_eq_true_iff;generalize hd_:decide (Oz b)=d at *;have HDD:=Hh hd_;clear hd_ hr hv;go_upto_region 4 with fail
   go_cut [4] from 6 to 70 (fun v wx=>Value.bool d=v/\Hid (Below wr.heap.size wr wx))
   case first =>
    clear M OO ST HDD;generalize b.r0=x0 at *;generalize b.r1=x1 at *;generalize b.q0=y at *
    by_cases h2:x0=2
    ·have e:=Q.out (.inl h2)
     have D:=HD.out;rw [e] at D
     by_cases h4:4<=q
     ·have E:=Hh (D.2 (.inl ⟨h2,h4⟩))
      clear D e HD Q;subst h2;go_wp2_with fail;refine CS.out.mono ?_;rintro e w1 ⟨rfl,b1⟩;have B1:=Hh b1;clear b1 CS;go_wp2
      go_meet
      exact ⟨c8 Value.bool E.out,B1⟩
     ·have E:=Hh (ic.2 fun g=>by have:=D.1 g;omega)
      clear D e HD Q;subst h2;go_wp2_with fail;refine CS.out.mono ?_;rintro e w1 ⟨rfl,b1⟩;have c0:=gP b1 c0;have c1:=gP b1 c1;have B1:=Hh b1;clear b1 CS;go_wp2
      go_meet
      exact ⟨c8 Value.bool (E.out.trans (ai (by omega)).symm),B1⟩
    ·by_cases h3:x0=3
     ·have e:=Q.out (.inr h3)
      have D:=HD.out;rw [e] at D
      by_cases h4:8<=q
      ·have E:=Hh (D.2 (.inr ⟨h3,h4⟩))
       clear D e HD Q h2;subst h3;go_wp2_with fail;refine CS.out.mono ?_;rintro e w1 ⟨rfl,b1⟩;have B1:=Hh b1;clear b1 CS;go_wp2
       go_meet
       exact ⟨c8 Value.bool E.out,B1⟩
      ·have E:=Hh (ic.2 fun g=>by have:=D.1 g;omega)
       clear D e HD Q h2;subst h3;go_wp2_with fail;refine CS.out.mono ?_;rintro e w1 ⟨rfl,b1⟩;have B1:=Hh b1;clear b1 CS;go_wp2
       go_meet
       exact ⟨c8 Value.bool (E.out.trans (ai (by omega)).symm),B1⟩
     ·have E:=Hh (ic.2 fun g=>by have:=HD.out.1 g;omega)
      have q2:=cz.2 h2;have q3:=cz.2 h3;clear HD Q CS;go_wp2
      go_meet
      exact ⟨c8 Value.bool E.out,Hh (aa _ _)⟩
   case rest =>
    obtain ⟨e1,B1⟩:=hcut;subst e1;have M1:=Hh (M.out.below B1.out);have O1:=Hh (OO.out.then B1.out);clear c0 c1 CS Q M OO B1
    cases d with
    | false =>
      have SB:=Hh (ST.out.trans (ZI fun g=>absurd g.2.2 (of_decide_eq_false HDD.out)));clear HD HDD ST;go_wp2
      go_roundw
      case rel=>exact ⟨1,by omega,by go_num,Hh (by rw [SB.out];exact M1.out),O1⟩
      case measure=>simp [intOf]
    | true =>
      obtain ⟨s0',s1',hr,hv⟩:=M1.out;have hne:b.r0≠1:=by have:=HD.out.1 rfl;omega
      by_cases h1:b.r1=1
      ·have SB:=Hh (ST.out.trans (ZI fun g=>g.2.1 h1))
       have c0:=Fl.rc hr 0;have c1:=Fl.rc hr 1;have q1:(b.r1 != 1)=false:=by rw [h1];rfl
       have q2:=fj.2 hne;have M2:Hid (Hz wc r (st a 1) n la t):=Hh (by rw [SB.out];exact M1.out);clear HD HDD ST hr hv h1 hne M1 SB;generalize b.r0=x0 at *;generalize b.r1=x1 at *;go_wp2
       go_roundw
       case rel=>exact ⟨1,by omega,by go_num,M2,O1⟩
       case measure=>simp [intOf]
      ·have SB:=Hh (ST.out.trans (ab1 ⟨hne,h1,by have:=HDD.out;exact of_decide_eq_true this⟩))
       have c0:=Fl.rc hr 0;have c1:=Fl.rc hr 1;have q1:=fj.2 h1;have q2:=fj.2 hne;have FIN:Hid (∀ W:World,Only (fun b=>b=r) w W->Hz W r b n la t->Hz ((W.setCell ⟨r,0,none⟩ (.int .i64 1)).setCell ⟨r,2,none⟩ (.int .i64 n)) r (st a 1) n la t/\Only (fun b=>b=r) w ((W.setCell ⟨r,0,none⟩ (.int .i64 1)).setCell ⟨r,2,none⟩ (.int .i64 n))):=Hh (fun W oo h=>⟨by rw [SB.out];exact h.acJ,bM oo (bM (aO r 0 W _) (aO r 2 _ _))⟩);have R0:=Hh hr;clear HD HDD ST hv h1 hne SB hr;go_upto_region 6 with fail;clear c0 c1;have C0:=Fl.rc (show eT wc.drew r b.r0 b.r1 s0' s1' n la from R0.out) 4;have Rd:Hid (eT wc.drew r b.r0 b.r1 s0' s1' n la):=Hh R0.out;have E:=Hh (FIN.out wc.drew (O1.out.then (aa _ _).drew) (M1.out.below (aa _ _).drew));clear FIN R0 O1 M1;have c4:=Sc.ay (C:=fun W=>W.cell? ⟨r,4,none⟩=some (.int .i64 n)) (a:=⟨r,4,none⟩) (fun W h=>h);have ne:Nonempty (Sc.In (fun W=>W.cell? ⟨r,4,none⟩=some (.int .i64 n))):=⟨⟨_,C0⟩⟩;generalize b.r0=x0 at *;generalize b.r1=x1 at *;refine Sc.start (fun W=>W.cell? ⟨r,4,none⟩=some (.int .i64 n)) [(false,0),(false,1),(false,2),(false,3),(false,4),(false,5),(false,6),(false,7),(false,8),(false,9),(false,10),(false,12),(false,13),(true,11),(false,14),(true,15)] (by kernel_rfl) (by kernel_rfl) (by kernel_rfl) C0 ?_;dsimp only [Sd.aM,List.getElem?_cons_succ,List.getElem?_cons_zero]
       repeat (refine Sd.lit ?_;quiet_step (fail);refine bk ?_)
       clear c4;generalize wc.drew=W at *;refine Sd.call (by rfl) (fun K hK=>?_);have d0:=Fl.rc Rd.out 0;have g0:=aj Rd.out 0;have R1:Hid (eT (W.setCell ⟨r,0,none⟩ (.int .i64 1)) r 1 x1 s0' s1' n la):=Hh (Rd.out.set0 1);clear Rd C0;go_simp;refine hK _ _ (Sc.Cl.of (ah R1.out 4)) ?_;clear hK K d0 g0;generalize W.setCell ⟨r,0,none⟩ (.int .i64 1)=W1 at *
       repeat (refine Sd.lit ?_;quiet_step (fail);refine bk ?_)
       refine Sd.call (by rfl) (fun K hK=>?_);have d0:=Fl.rc R1.out 2;have g0:=aj R1.out 2;have R2:=Hh (ah (R1.out.set2 n) 4);clear R1;go_simp;refine hK _ _ (Sc.Cl.of R2.out) ?_;clear hK K d0 g0 R2 ne;generalize W1.setCell ⟨r,2,none⟩ (.int .i64 n)=W2 at *;refine Sd.done ?_;go_wp2
       go_roundw
       case rel=>exact ⟨1,by omega,by go_num,Hh E.out.1,Hh E.out.2⟩
       case measure=>simp [intOf]
  ·have ST:Hid (st a 2=t2 (st a 1)):=Hh rfl
   generalize st a 1=b at *;obtain ⟨s0,s1,hr,hv⟩:=M.out;have c0:=Fl.rc hr 0;have c1:=Fl.rc hr 1;have CS:=Hh (Zl hr ⟨hv.b1,hv.bl,by have:=hv.bn;omega⟩);have Q:=Hh (show (b.r1=2\/b.r1=3)->b.q1=MH s1 n la from hv.e1);generalize MH s1 n la=q at *;have HD:Hid (decide (Np b)=true↔((b.r1=2/\4<=b.q1)\/(b.r1=3/\9<=b.q1))):=Hh decide_eq_true_iff;generalize hd_:decide (Np b)=d at *;have HDD:=Hh hd_;clear hd_ hr hv;go_upto_region 4 with fail
   go_cut [4] from 6 to 70 (fun v wx=>Value.bool d=v/\Hid (Below wr.heap.size wr wx))
   case first =>
    clear M OO ST HDD;generalize b.r0=x0 at *;generalize b.r1=x1 at *;generalize b.q1=y at *
    by_cases h2:x1=2
    ·have e:=Q.out (.inl h2)
     have D:=HD.out;rw [e] at D
     by_cases h4:4<=q
     ·have E:=Hh (D.2 (.inl ⟨h2,h4⟩))
      clear D e HD Q;subst h2;go_wp2_with fail;refine CS.out.mono ?_;rintro e w1 ⟨rfl,b1⟩;have B1:=Hh b1;clear b1 CS;go_wp2
      go_meet
      exact ⟨c8 Value.bool E.out,B1⟩
     ·have E:=Hh (ic.2 fun g=>by have:=D.1 g;omega)
      clear D e HD Q;subst h2;go_wp2_with fail;refine CS.out.mono ?_;rintro e w1 ⟨rfl,b1⟩;have c0:=gP b1 c0;have c1:=gP b1 c1;have B1:=Hh b1;clear b1 CS;go_wp2
      go_meet
      exact ⟨c8 Value.bool (E.out.trans (ai (by omega)).symm),B1⟩
    ·by_cases h3:x1=3
     ·have e:=Q.out (.inr h3)
      have D:=HD.out;rw [e] at D
      by_cases h4:9<=q
      ·have E:=Hh (D.2 (.inr ⟨h3,h4⟩))
       clear D e HD Q h2;subst h3;go_wp2_with fail;refine CS.out.mono ?_;rintro e w1 ⟨rfl,b1⟩;have B1:=Hh b1;clear b1 CS;go_wp2
       go_meet
       exact ⟨c8 Value.bool E.out,B1⟩
      ·have E:=Hh (ic.2 fun g=>by have:=D.1 g;omega)
       clear D e HD Q h2;subst h3;go_wp2_with fail;refine CS.out.mono ?_;rintro e w1 ⟨rfl,b1⟩;have B1:=Hh b1;clear b1 CS;go_wp2
       go_meet
       exact ⟨c8 Value.bool (E.out.trans (ai (by omega)).symm),B1⟩
     ·have E:=Hh (ic.2 fun g=>by have:=HD.out.1 g;omega)
      have q2:=cz.2 h2;have q3:=cz.2 h3;clear HD Q CS;go_wp2
      go_meet
      exact ⟨c8 Value.bool E.out,Hh (aa _ _)⟩
   case rest =>
    obtain ⟨e1,B1⟩:=hcut;subst e1;have M1:=Hh (M.out.below B1.out);have O1:=Hh (OO.out.then B1.out);clear c0 c1 CS Q M OO B1
    cases d with
    | false =>
      have SB:=Hh (ST.out.trans (aam fun g=>absurd g.2.2 (of_decide_eq_false HDD.out)));clear HD HDD ST;go_wp2
      go_roundw
      case rel=>exact ⟨2,by omega,by go_num,Hh (by rw [SB.out];exact M1.out),O1⟩
      case measure=>simp [intOf]
    | true =>
      obtain ⟨s0',s1',hr,hv⟩:=M1.out;have hne:b.r1≠1:=by have:=HD.out.1 rfl;omega
      by_cases h1:b.r0=1
      ·have SB:=Hh (ST.out.trans (aam fun g=>g.1 h1))
       have c0:=Fl.rc hr 0;have c1:=Fl.rc hr 1;have q1:(b.r0 != 1)=false:=by rw [h1];rfl
       have q2:=fj.2 hne;have M2:Hid (Hz wc r (st a 2) n la t):=Hh (by rw [SB.out];exact M1.out);clear HD HDD ST hr hv h1 hne M1 SB;generalize b.r0=x0 at *;generalize b.r1=x1 at *;go_wp2
       go_roundw
       case rel=>exact ⟨2,by omega,by go_num,M2,O1⟩
       case measure=>simp [intOf]
      ·have SB:=Hh (ST.out.trans (aaI ⟨h1,hne,by have:=HDD.out;exact of_decide_eq_true this⟩))
       have c0:=Fl.rc hr 0;have c1:=Fl.rc hr 1;have q1:(b.r0 != 1)=true:=fj.2 h1;have q2:(b.r1 != 1)=true:=fj.2 hne;have FIN:Hid (∀ W:World,Only (fun b=>b=r) w W->Hz W r b n la t->Hz ((W.setCell ⟨r,1,none⟩ (.int .i64 1)).setCell ⟨r,3,none⟩ (.int .i64 n)) r (st a 2) n la t/\Only (fun b=>b=r) w ((W.setCell ⟨r,1,none⟩ (.int .i64 1)).setCell ⟨r,3,none⟩ (.int .i64 n))):=Hh (fun W oo h=>⟨by rw [SB.out];exact h.take1,bM oo (bM (aO r 1 W _) (aO r 3 _ _))⟩);have R0:=Hh hr;clear HD HDD ST hv h1 hne SB hr;go_upto_region 6 with fail;clear c0 c1;have C0:=Fl.rc (show eT wc.drew r b.r0 b.r1 s0' s1' n la from R0.out) 4;have Rd:Hid (eT wc.drew r b.r0 b.r1 s0' s1' n la):=Hh R0.out;have E:=Hh (FIN.out wc.drew (O1.out.then (aa _ _).drew) (M1.out.below (aa _ _).drew));clear FIN R0 O1 M1;have c4:=Sc.ay (C:=fun W=>W.cell? ⟨r,4,none⟩=some (.int .i64 n)) (a:=⟨r,4,none⟩) (fun W h=>h);have ne:Nonempty (Sc.In (fun W=>W.cell? ⟨r,4,none⟩=some (.int .i64 n))):=⟨⟨_,C0⟩⟩;generalize b.r0=x0 at *;generalize b.r1=x1 at *;refine Sc.start (fun W=>W.cell? ⟨r,4,none⟩=some (.int .i64 n)) [(false,0),(false,1),(false,2),(false,3),(false,4),(false,5),(false,6),(false,7),(false,8),(false,9),(false,10),(false,12),(false,13),(true,11),(false,14),(true,15)] (by kernel_rfl) (by kernel_rfl) (by kernel_rfl) C0 ?_;dsimp only [Sd.aM,List.getElem?_cons_succ,List.getElem?_cons_zero]
       repeat (refine Sd.lit ?_;quiet_step (fail);refine bk ?_)
       clear c4;generalize wc.drew=W at *;refine Sd.call (by rfl) (fun K hK=>?_);have d0:=Fl.rc Rd.out 1;have g0:=aj Rd.out 1;have R1:Hid (eT (W.setCell ⟨r,1,none⟩ (.int .i64 1)) r x0 1 s0' s1' n la):=Hh (Rd.out.set1 1);clear Rd C0;go_simp;refine hK _ _ (Sc.Cl.of (ah R1.out 4)) ?_;clear hK K d0 g0;generalize W.setCell ⟨r,1,none⟩ (.int .i64 1)=W1 at *
       repeat (refine Sd.lit ?_;quiet_step (fail);refine bk ?_)
       refine Sd.call (by rfl) (fun K hK=>?_);have d0:=Fl.rc R1.out 3;have g0:=aj R1.out 3;have R2:=Hh (ah (R1.out.pR n) 4);clear R1;go_simp;refine hK _ _ (Sc.Cl.of R2.out) ?_;clear hK K d0 g0 R2 ne;generalize W1.setCell ⟨r,3,none⟩ (.int .i64 n)=W2 at *;refine Sd.done ?_;go_wp2
       go_roundw
       case rel=>exact ⟨2,by omega,by go_num,Hh E.out.1,Hh E.out.2⟩
       case measure=>simp [intOf]
  ·obtain ⟨s0',s1',hr,hv⟩:=M.out
   have e2:st a 2=tk a:=rfl;rw [e2] at hr hv;have FF:Hid (ac5 w r a t s0' s1' n la):=Hh (abz hv);have R0:=Hh (hr.adU (n+1));have O0:Hid (Only (fun b=>b=r) w (wr.setCell ⟨r,4,none⟩ (.int .i64 (n+1)))):=Hh (bM OO.out (aO r 4 wr _));have c4:=Fl.rc hr 4;have g4:=aj hr 4;have wn:IntKind.i64.wrap (n+1)=n+1:=cE _ (by omega);obtain ⟨F1,F2,F3,F4,F5⟩:=FF.out;have G1:=Hh F1;have G2:=Hh F2;have G3:=Hh F3;have G4:=Hh F4;have G5:=Hh F5;clear hr hv M OO FF F1 F2 F3 F4 F5 e2;generalize (tk a).r0=x0 at *;generalize (tk a).r1=x1 at *;go_upto_region 8 with fail;clear c4 g4;generalize wr.setCell ⟨r,4,none⟩ (.int .i64 (n+1))=W0 at *;generalize n+1=m at *;go_wp2
   go_loopw [5] (fun i wr=>∃ k:Nat,k<=2/\i = .int .i64 k/\Hid (eT wr r x0 x1 s0' s1' m la)/\Hid (Only (fun b=>b=r) w wr)/\Hid (1<=k->x0≠1)/\Hid (2<=k->x1≠1)) (fun i _=>2 - (intOf i).toNat)
   case atStart=>exact ⟨0,by omega,rfl,R0,O0,Hh (fun h=>absurd h (by decide)),Hh (fun h=>absurd h (by decide))⟩
   case round =>
    clear R0 O0;obtain ⟨k,hk,rfl,RR,O1,X0,X1⟩:=hrel
    rcases (by omega:k=0\/k=1\/k=2) with rfl | rfl | rfl
    ·clear G1 G4 G5 X0 X1
     have c0:=Fl.rc RR.out 0
     by_cases h0:x0=1
     ·have q0:(x0 != 1)=false:=by rw [h0];rfl
      by_cases h1:x1=3
      ·skip
       have E:=Hh (G3.out h0 h1);have R5:=Hh (RR.out.Xp m);have O5:Hid (Only (fun b=>b=r) w (wr.setCell ⟨r,5,none⟩ (.int .i64 m))):=Hh (bM O1.out (aO r 5 wr _));have c4:=Fl.rc RR.out 4;have c5:=Fl.rc RR.out 5;have g5:=aj RR.out 5;clear G2 G3 h0 RR O1;go_upto_region 13 with fail;clear c0 c4 c5 g5;generalize wr.setCell ⟨r,5,none⟩ (.int .i64 m)=W5 at *;have c1:=Fl.rc R5.out 1;have q1:(x1 == 3)=true:=ik.2 h1;go_upto_region 14 with fail;clear c1 q1;generalize hi0:((0:Nat):Int)=i0 at *;have HI:=Hh hi0;have w10:IntKind.i64.wrap (1 - i0)=1:=by rw [← HI.out];rfl
       clear hi0;have C0:=Fl.rc (show eT W5.drew r x0 x1 s0' s1' m m from R5.out) 4;have Rd:Hid (eT W5.drew r x0 x1 s0' s1' m m):=Hh R5.out;have Od:=Hh (O5.out.then (aa _ _).drew);clear R5 O5;have c4:=Sc.ay (C:=fun W=>W.cell? ⟨r,4,none⟩=some (.int .i64 m)) (a:=⟨r,4,none⟩) (fun W h=>h);have ne:Nonempty (Sc.In (fun W=>W.cell? ⟨r,4,none⟩=some (.int .i64 m))):=⟨⟨_,C0⟩⟩;refine Sc.start (fun W=>W.cell? ⟨r,4,none⟩=some (.int .i64 m)) [(false,0),(false,1),(false,2),(false,3),(false,4),(false,5),(false,6),(false,7),(false,8),(false,9),(false,10),(false,11),(false,12),(false,14),(false,15),(true,13),(false,16),(true,17)] (by kernel_rfl) (by kernel_rfl) (by kernel_rfl) C0 ?_;dsimp only [Sd.aM,List.getElem?_cons_succ,List.getElem?_cons_zero]
       repeat (refine Sd.lit ?_;quiet_step (fail);refine bk ?_)
       clear c4;generalize W5.drew=W6 at *;refine Sd.call (by rfl) (fun K hK=>?_);have d0:=Fl.rc Rd.out 1;have g0:=aj Rd.out 1;have R1:Hid (eT (W6.setCell ⟨r,1,none⟩ (.int .i64 2)) r x0 2 s0' s1' m m):=Hh (Rd.out.set1 2);have Oe:=Hh (bM Od.out (aO r 1 W6 (.int .i64 2)));clear Rd C0 Od;go_simp;refine hK _ _ (Sc.Cl.of (ah R1.out 4)) ?_;clear hK K d0 g0;generalize W6.setCell ⟨r,1,none⟩ (.int .i64 2)=W7 at *
       repeat (refine Sd.lit ?_;quiet_step (fail);refine bk ?_)
       refine Sd.call (by rfl) (fun K hK=>?_);have d0:=Fl.rc R1.out 3;have g0:=aj R1.out 3;have R2:=Hh (R1.out.pR m);have E2:=Hh (E.out _ R2.out (bM Oe.out (aO r 3 W7 (.int .i64 m))));clear R1 Oe E;go_simp;refine hK _ _ (Sc.Cl.of (ah R2.out 4)) ?_;clear hK K d0 g0 R2 ne;generalize W7.setCell ⟨r,3,none⟩ (.int .i64 m)=W8 at *;refine Sd.done ?_;go_wp2
       go_ret
       cases HI.out
       exact E2.out
      ·skip
       have E:=Hh (G2.out h0 h1);have R5:=Hh (RR.out.Xp m);have O5:Hid (Only (fun b=>b=r) w (wr.setCell ⟨r,5,none⟩ (.int .i64 m))):=Hh (bM O1.out (aO r 5 wr _));have c4:=Fl.rc RR.out 4;have c5:=Fl.rc RR.out 5;have g5:=aj RR.out 5;clear G2 G3 h0 RR O1;go_upto_region 13 with fail;clear c0 c4 c5 g5;generalize wr.setCell ⟨r,5,none⟩ (.int .i64 m)=W5 at *;have c1:=Fl.rc R5.out 1;have q1:=cz.2 h1;have E2:=Hh (E.out _ R5.out O5.out);clear R5 O5 E h1;go_wp2
       go_ret
       exact E2.out
     ·have q0:=fj.2 h0
      have Y0:Hid (1<=1->x0≠1):=Hh fun _=>h0;clear G2 G3 h0;go_wp2
      go_roundw
      case rel=>exact ⟨1,by omega,by go_num,RR,O1,Y0,Hh fun h=>absurd h (by decide)⟩
      case measure=>simp [intOf]
    ·clear G1 G2 G3 X1
     have c1:=Fl.rc RR.out 1
     by_cases h0:x1=1
     ·have q0:(x1 != 1)=false:=by rw [h0];rfl
      by_cases h1:x0=3
      ·skip
       have E:=Hh (G5.out (X0.out (ac _)) h0 h1);have R5:=Hh (RR.out.Xp m);have O5:Hid (Only (fun b=>b=r) w (wr.setCell ⟨r,5,none⟩ (.int .i64 m))):=Hh (bM O1.out (aO r 5 wr _));have c4:=Fl.rc RR.out 4;have c5:=Fl.rc RR.out 5;have g5:=aj RR.out 5;clear G4 G5 X0 h0 RR O1;go_upto_region 13 with fail;clear c1 c4 c5 g5;generalize wr.setCell ⟨r,5,none⟩ (.int .i64 m)=W5 at *;have c1:=Fl.rc R5.out 0;have q1:(x0 == 3)=true:=ik.2 h1;go_upto_region 14 with fail;clear c1 q1;generalize hi0:((1:Nat):Int)=i0 at *;have HI:=Hh hi0;have w10:IntKind.i64.wrap (1 - i0)=0:=by rw [← HI.out];rfl
       clear hi0;have C0:=Fl.rc (show eT W5.drew r x0 x1 s0' s1' m m from R5.out) 4;have Rd:Hid (eT W5.drew r x0 x1 s0' s1' m m):=Hh R5.out;have Od:=Hh (O5.out.then (aa _ _).drew);clear R5 O5;have c4:=Sc.ay (C:=fun W=>W.cell? ⟨r,4,none⟩=some (.int .i64 m)) (a:=⟨r,4,none⟩) (fun W h=>h);have ne:Nonempty (Sc.In (fun W=>W.cell? ⟨r,4,none⟩=some (.int .i64 m))):=⟨⟨_,C0⟩⟩;refine Sc.start (fun W=>W.cell? ⟨r,4,none⟩=some (.int .i64 m)) [(false,0),(false,1),(false,2),(false,3),(false,4),(false,5),(false,6),(false,7),(false,8),(false,9),(false,10),(false,11),(false,12),(false,14),(false,15),(true,13),(false,16),(true,17)] (by kernel_rfl) (by kernel_rfl) (by kernel_rfl) C0 ?_;dsimp only [Sd.aM,List.getElem?_cons_succ,List.getElem?_cons_zero]
       repeat (refine Sd.lit ?_;quiet_step (fail);refine bk ?_)
       clear c4;generalize W5.drew=W6 at *;refine Sd.call (by rfl) (fun K hK=>?_);have d0:=Fl.rc Rd.out 0;have g0:=aj Rd.out 0;have R1:Hid (eT (W6.setCell ⟨r,0,none⟩ (.int .i64 2)) r 2 x1 s0' s1' m m):=Hh (Rd.out.set0 2);have Oe:=Hh (bM Od.out (aO r 0 W6 (.int .i64 2)));clear Rd C0 Od;go_simp;refine hK _ _ (Sc.Cl.of (ah R1.out 4)) ?_;clear hK K d0 g0;generalize W6.setCell ⟨r,0,none⟩ (.int .i64 2)=W7 at *
       repeat (refine Sd.lit ?_;quiet_step (fail);refine bk ?_)
       refine Sd.call (by rfl) (fun K hK=>?_);have d0:=Fl.rc R1.out 2;have g0:=aj R1.out 2;have R2:=Hh (R1.out.set2 m);have E2:=Hh (E.out _ R2.out (bM Oe.out (aO r 2 W7 (.int .i64 m))));clear R1 Oe E;go_simp;refine hK _ _ (Sc.Cl.of (ah R2.out 4)) ?_;clear hK K d0 g0 R2 ne;generalize W7.setCell ⟨r,2,none⟩ (.int .i64 m)=W8 at *;refine Sd.done ?_;go_wp2
       go_ret
       cases HI.out
       exact E2.out
      ·skip
       have E:=Hh (G4.out (X0.out (ac _)) h0 h1);have R5:=Hh (RR.out.Xp m);have O5:Hid (Only (fun b=>b=r) w (wr.setCell ⟨r,5,none⟩ (.int .i64 m))):=Hh (bM O1.out (aO r 5 wr _));have c4:=Fl.rc RR.out 4;have c5:=Fl.rc RR.out 5;have g5:=aj RR.out 5;clear G4 G5 X0 h0 RR O1;go_upto_region 13 with fail;clear c1 c4 c5 g5;generalize wr.setCell ⟨r,5,none⟩ (.int .i64 m)=W5 at *;have c1:=Fl.rc R5.out 0;have q1:=cz.2 h1;have E2:=Hh (E.out _ R5.out O5.out);clear R5 O5 E h1;go_wp2
       go_ret
       exact E2.out
     ·have q0:=fj.2 h0
      have Y0:Hid (1<=2->x0≠1):=Hh fun _=>X0.out (ac _);have Y1:Hid (2<=2->x1≠1):=Hh fun _=>h0;clear G4 G5 h0 X0;go_wp2
      go_roundw
      case rel=>exact ⟨2,by omega,by go_num,RR,O1,Y0,Y1⟩
      case measure=>simp [intOf]
    ·have E:=Hh (G1.out (X0.out (by omega)) (X1.out (by omega)) _ RR.out O1.out)
     clear G1 G2 G3 G4 G5 X0 X1 RR O1;go_wp2
     go_ret
     exact E.out
theorem M4 (a:A):(opn a=0/\jo a=⟨1,0,hdN a.r1,0⟩)\/(opn a=1/\jo a=⟨hdN a.r0,0,1,0⟩)\/(opn a = -1/\a.r0≠1/\a.r1≠1/\jo a=⟨a.r0,a.q0+1,a.r1,a.q1+1⟩):=by
 obtain ⟨r0,q0,r1,q1⟩:=a;unfold opn jo tk t1 t2 op hd
 by_cases e0:r0=1
 ·exact .inl (by simp [e0])
 ·by_cases e1:r1=1
  ·exact .inr (.inl (by simp [e0,e1]))
  ·by_cases g0:(r0=2/\4<=q0)\/(r0=3/\8<=q0)
   ·exact .inl (by simp [e0,e1,g0])
   ·by_cases g1:(r1=2/\4<=q1)\/(r1=3/\9<=q1)
    ·exact .inr (.inl (by simp [e0,e1,g0,g1]))
    ·exact .inr (.inr (by simp [e0,e1,g0,g1]))
def HM (w:World) (s:Nat) (r0 z0 r1 z1:Int):Nat->Prop
 | 0=>dZ w s r0 z0 r1 z1
 | 1=>dZ w s (hdN r0) (hZ r0 z0) r1 z1
 | _=>dZ w s (hdN r0) (hZ r0 z0) (hdN r1) (hZ r1 z1)
def WM (w:World) (s:Nat) (r0 z0 r1 z1:Int):Nat->Prop
 | 0=>dZ w s r0 z0 r1 z1
 | 1=>dZ w s r0 (wZ r0 z0) r1 z1
 | _=>dZ w s r0 (wZ r0 z0) r1 (wZ r1 z1)
theorem Lr (h:0<=z/\z<=t):0<=hZ r z/\hZ r z<=((t+1:Nat):Int):=by unfold hZ;split <;> omega
theorem ZK (h:0<=z/\z<=t):0<=wZ r z/\wZ r z<=((t+1:Nat):Int):=by unfold wZ;split <;> omega
theorem Gt (h:hdN r=2\/hdN r=3):(0:Int)=hZ r z:=by
 unfold hdN at h;unfold hZ
 split
 ·rfl
 ·rename_i g
  exfalso
  split at h <;> omega
theorem Kq (e:r=2\/r=3->q=z) (h:r=2\/r=3):q+1=wZ r z:=by
 unfold wZ;rw [aw h,e h]
theorem l7 (P:Pr w s a t) (ht:t<=90000):Calls prog 57 #[.pointer (some ⟨s,0,none⟩)] w (aY w s (opn a) (jo a) (t+1)):=by
 have OP:=Hh (Ke P);obtain ⟨z0,z1,hr,hv⟩:=P;have R:=Hh hr;have V:=Hh hv;have v0:=hv.b0;have v1:=hv.b1;clear hr hv
 rcases M4 a with ⟨eo,er⟩ | ⟨eo,er⟩ | ⟨eo,g0,g1,er⟩
 ·have FIN:Hid (∀ w',HM w' s 1 0 a.r1 z1 2->Only (fun b=>b=s) w w'->aY w s (opn a) (jo a) (t+1) (.returned (.int .i64 0)) w'):=Hh fun w' hh oo=>⟨by rw [eo],by rw [er];exact ⟨_,_,hh,⟨Lr ⟨by decide,by omega⟩,Lr V.out.b1,(fun g=>absurd g (by show ¬ ((1:Int)=2\/(1:Int)=3);decide)),fun g=>Gt g⟩⟩,oo⟩
  rw [eo] at OP;clear eo er V v0 v1;generalize opn a=op_ at *;generalize jo a=a' at *;generalize a.r0=x0 at *;generalize a.r1=x1 at *
  go_enter func57,ntmps57
  go_wp2_with fail;refine OP.mono ?_;rintro e w1 ⟨rfl,b1⟩;have R1:=Hh (R.below b1);obtain ⟨c0,c1,f0,f1⟩:=wE R1;have M0:=Hh ((R1.set0 1).set1 0);have O0:Hid (Only (fun b=>b=s) w ((w1.setCell ⟨s,0,none⟩ (.int .i64 1)).setCell ⟨s,1,none⟩ (.int .i64 0))):=Hh (((Only.of_below b1).trans (aO s 0 _ _) (fun _ _ q=>q)).trans (aO s 1 _ _) (fun _ _ q=>q));clear R R1 OP b1;go_wp2
  go_loopw [17] (fun i wr=>∃ k:Nat,k<=2/\i = .int .i64 k/\Hid (HM wr s 1 0 x1 z1 k)/\Hid (Only (fun b=>b=s) w wr)) (fun i _=>2 - (intOf i).toNat)
  case atStart=>exact ⟨0,by omega,rfl,M0,O0⟩
  case round =>
   clear M0 O0 c0 c1 f0 f1;obtain ⟨k,hk,rfl,M,OO⟩:=hrel
   rcases (by omega:k=0\/k=1\/k=2) with rfl | rfl | rfl
   ·have C:=Hh (FQ (show dZ wr s 1 0 x1 z1 from M))
    clear M;go_wp2_with fail;refine C.mono ?_;rintro e w2 ⟨rfl,m2,o2⟩;have M2:=Hh m2;have O2:=Hh (bM OO o2);clear m2 o2 C OO;go_wp2
    go_roundw
    case rel=>exact ⟨1,by omega,rfl,M2,O2⟩
    case measure=>simp [intOf]
   ·have C:=Hh (Ey (show dZ wr s (hdN 1) (hZ 1 0) x1 z1 from M))
    clear M;go_wp2_with fail;refine C.mono ?_;rintro e w2 ⟨rfl,m2,o2⟩;have M2:=Hh m2;have O2:=Hh (bM OO o2);clear m2 o2 C OO;go_wp2
    go_roundw
    case rel=>exact ⟨2,by omega,rfl,M2,O2⟩
    case measure=>simp [intOf]
   ·have F:=Hh (FIN wr M OO)
    clear FIN M OO;go_wp2
    go_ret
    exact F
 ·have FIN:Hid (∀ w',HM w' s a.r0 z0 1 0 2->Only (fun b=>b=s) w w'->aY w s (opn a) (jo a) (t+1) (.returned (.int .i64 1)) w'):=Hh fun w' hh oo=>⟨by rw [eo],by rw [er];exact ⟨_,_,hh,⟨Lr V.out.b0,Lr ⟨by decide,by omega⟩,fun g=>Gt g,(fun g=>absurd g (by show ¬ ((1:Int)=2\/(1:Int)=3);decide))⟩⟩,oo⟩
  rw [eo] at OP;clear eo er V v0 v1;generalize opn a=op_ at *;generalize jo a=a' at *;generalize a.r0=x0 at *;generalize a.r1=x1 at *
  go_enter func57,ntmps57
  go_wp2_with fail;refine OP.mono ?_;rintro e w1 ⟨rfl,b1⟩;have R1:=Hh (R.below b1);have c0:=Fl.rc R1 2;have c1:=Fl.rc R1 3;have f0:=aj R1 2;have f1:=aj R1 3;have M0:=Hh ((R1.set2 1).pR 0);have O0:Hid (Only (fun b=>b=s) w ((w1.setCell ⟨s,2,none⟩ (.int .i64 1)).setCell ⟨s,3,none⟩ (.int .i64 0))):=Hh (((Only.of_below b1).trans (aO s 2 _ _) (fun _ _ q=>q)).trans (aO s 3 _ _) (fun _ _ q=>q));clear R R1 OP b1;go_wp2
  go_loopw [17] (fun i wr=>∃ k:Nat,k<=2/\i = .int .i64 k/\Hid (HM wr s x0 z0 1 0 k)/\Hid (Only (fun b=>b=s) w wr)) (fun i _=>2 - (intOf i).toNat)
  case atStart=>exact ⟨0,by omega,rfl,M0,O0⟩
  case round =>
   clear M0 O0 c0 c1 f0 f1;obtain ⟨k,hk,rfl,M,OO⟩:=hrel
   rcases (by omega:k=0\/k=1\/k=2) with rfl | rfl | rfl
   ·have C:=Hh (FQ (show dZ wr s x0 z0 1 0 from M))
    clear M;go_wp2_with fail;refine C.mono ?_;rintro e w2 ⟨rfl,m2,o2⟩;have M2:=Hh m2;have O2:=Hh (bM OO o2);clear m2 o2 C OO;go_wp2
    go_roundw
    case rel=>exact ⟨1,by omega,rfl,M2,O2⟩
    case measure=>simp [intOf]
   ·have C:=Hh (Ey (show dZ wr s (hdN x0) (hZ x0 z0) 1 0 from M))
    clear M;go_wp2_with fail;refine C.mono ?_;rintro e w2 ⟨rfl,m2,o2⟩;have M2:=Hh m2;have O2:=Hh (bM OO o2);clear m2 o2 C OO;go_wp2
    go_roundw
    case rel=>exact ⟨2,by omega,rfl,M2,O2⟩
    case measure=>simp [intOf]
   ·have F:=Hh (FIN wr M OO)
    clear FIN M OO;go_wp2
    go_ret
    exact F
 ·have FIN:Hid (∀ w',WM w' s a.r0 z0 a.r1 z1 2->Only (fun b=>b=s) w w'->aY w s (opn a) (jo a) (t+1) (.returned (.int .i64 (-1))) w'):=Hh fun w' hh oo=>⟨by rw [eo],by rw [er];exact ⟨_,_,hh,⟨ZK V.out.b0,ZK V.out.b1,fun g=>Kq V.out.e0 g,fun g=>Kq V.out.e1 g⟩⟩,oo⟩
  rw [eo] at OP;have V0:Hid (0<=z0/\z0<=1000000):=Hh (by omega);have V1:Hid (0<=z1/\z1<=1000000):=Hh (by omega);clear eo er V v0 v1 g0 g1;generalize opn a=op_ at *;generalize jo a=a' at *;generalize a.r0=x0 at *;generalize a.r1=x1 at *
  go_enter func57,ntmps57
  go_wp2_with fail;refine OP.mono ?_;rintro e w1 ⟨rfl,b1⟩;have M0:=Hh (R.below b1);have O0:Hid (Only (fun b=>b=s) w w1):=Hh (Only.of_below b1);clear R OP b1;go_wp2
  go_loopw [17] (fun i wr=>∃ k:Nat,k<=2/\i = .int .i64 k/\Hid (WM wr s x0 z0 x1 z1 k)/\Hid (Only (fun b=>b=s) w wr)) (fun i _=>2 - (intOf i).toNat)
  case atStart=>exact ⟨0,by omega,rfl,M0,O0⟩
  case round =>
   clear M0 O0;obtain ⟨k,hk,rfl,M,OO⟩:=hrel
   rcases (by omega:k=0\/k=1\/k=2) with rfl | rfl | rfl
   ·have C:=Hh (ac9 (show dZ wr s x0 z0 x1 z1 from M) V0)
    clear M;go_wp2_with fail;refine C.mono ?_;rintro e w2 ⟨rfl,m2,o2⟩;have M2:=Hh m2;have O2:=Hh (bM OO o2);clear m2 o2 C OO;go_wp2
    go_roundw
    case rel=>exact ⟨1,by omega,rfl,M2,O2⟩
    case measure=>simp [intOf]
   ·have C:=Hh (adh (show dZ wr s x0 (wZ x0 z0) x1 z1 from M) V1)
    clear M;go_wp2_with fail;refine C.mono ?_;rintro e w2 ⟨rfl,m2,o2⟩;have M2:=Hh m2;have O2:=Hh (bM OO o2);clear m2 o2 C OO;go_wp2
    go_roundw
    case rel=>exact ⟨2,by omega,rfl,M2,O2⟩
    case measure=>simp [intOf]
   ·have F:=Hh (FIN wr M OO)
    clear FIN M OO;go_wp2
    go_ret
    exact F
end Wt
namespace Cu
open Go.Maps
open Rw (Rd)
open Pa (S2 K2)
open Re (KI gq gH)
attribute [local irreducible] Sd.aW wpQuiet
theorem Jl (a:Wt.A):Wt.opn a = -1\/Wt.opn a=0\/Wt.opn a=1:=by
 unfold Wt.opn Wt.op
 split
 ·exact .inr (.inl rfl)
 ·split
  ·exact .inr (.inr rfl)
  ·exact .inl rfl
variable {c:Cs}
theorem abh {l:List Int} (h:gH l):kD c l < l.length:=by
 unfold kD;have:=h.1
 split <;> omega
variable {s t p nn:Nat} {F:Nat->Prop} {vn vq:Value} {L:List Nd} {Fs:Nat->Nat->Prop} {w:World}
theorem Ab (h:Cl w s F c t vn L p vq Fs) (ok:kC c t) (ht:t<=1000) (hg:Glob w) (hG:¬ F 0) (ho:Wt.opn c.P = -1) :
 Calls prog 31 #[ptr s] w (kg w s F (rC c) (t+1) (rE c)):=by
 generalize hRC:rC c=cR;generalize hRE:rE c=eR;have RC:=Hh hRC;have RE:=Hh hRE;clear hRC hRE;have d3:=h.cells.2.2.2;have f3:=h.Va 3;have H1:=Hh (h.VJ (v:=.slice none 0 0) (Q:=[]) (Rw.Ow.nil _ _ _) (fun k e=>by simp [Value.ownBlock] at e) (fun i hi k _ e=>by simp [Value.ownBlock] at e));have O1:Hid (Only F w (w.setCell ⟨s,3,none⟩ (.slice none 0 0))):=Hh (Only.set F w (a:=⟨s,3,none⟩) h.fs _);have Q1:Hid (Ow K2 (w.setCell ⟨s,3,none⟩ (.slice none 0 0)) 0 95 vq c.Q):=Hh (aC h.sp (fun k e g=>h.vs.2 (by rw [e,g])) (Only.set (fun k=>k=s) w (a:=⟨s,3,none⟩) rfl _));have k1:=H1.cells.2.1;have CR:=Hh (Wt.l7 H1.pr (by omega));have QF:Hid (∀ k,vq.ownBlock=some k->k≠s/\k≠p):=Hh (fun k e=>⟨fun g=>h.vs.2 (by rw [e,g]),fun g=>h.vp.2 (by rw [e,g])⟩);have HS:=Hh h.fs;have LW:=Hh h.low;have GG:=Hh hg;have HG:=Hh hG;have OK:=Hh ok;obtain ⟨qa,qc,rfl,_⟩:=h.sp.slice;clear h ok hg hG;unfold Wt.aY at CR;rw [show Wt.opn ({ c with Q:=[] } : Cs).P=_ from ho,show Wt.jo ({ c with Q:=[] } : Cs).P=Wt.jo c.P from rfl] at CR;unfold ptr at *;generalize hql:c.Q.length=ql at *;clear hql
 go_enter func31,ntmps31
 go_upto_region 3 with fail;clear d3 f3;generalize (w.setCell ⟨s,3,none⟩ (.slice none 0 0))=w1 at *;go_wp2_with fail;refine CR.mono ?_;rintro e w2 ⟨rfl,pr2,o2⟩;have H2:=Hh (H1.pair o2 pr2);have O2:=Hh (O1.trans o2 fun k _ e=>by rw [e];exact H1.out.fp);have Q2:=Hh (aC Q1 (fun k e g=>(QF k e).2 g) o2);have G2:=Hh (GG.only HG O2);clear pr2 o2 CR H1 O1 Q1 k1;have e1:rE c=0:=by unfold rE;rw [aw (by omega)]
 have e2:rC c = { c with P:=Wt.jo c.P,Q:=[] }:=by unfold rC;rw [aw (by omega)]
 rw [RE.out] at e1;rw [RC.out] at e2;subst e1 e2;have C3:=Hh (Gq H2 (n:=-1) (Or.inl (by decide)));have E:=Hh (fun w' (b:Below w2.heap.size w2 w')=>qy (w:=w) (H2.below b) (O2.then b) 0);unfold ptr at C3;clear H2 O2 Q2 G2 ho;go_wp2_with fail;refine C3.mono ?_;rintro e w3 ⟨rfl,b3⟩;have G:=Hh (E w3 b3);clear E C3 b3;go_wp2
 go_ret
 exact G
theorem vS (h:Cl w s F c t vn L p vq Fs) (ok:kC c t) (ht:t<=1000) (hg:Glob w) (hG:¬ F 0) (ho:Wt.opn c.P=nn) (hn:nn < 2) :
 Calls prog 31 #[ptr s] w (kg w s F (rC c) (t+1) (rE c)):=by
 generalize hRC:rC c=cR;generalize hRE:rE c=eR;have RC:=Hh hRC;have RE:=Hh hRE;clear hRC hRE;have d3:=h.cells.2.2.2;have f3:=h.Va 3;have H1:=Hh (h.VJ (v:=.slice none 0 0) (Q:=[]) (Rw.Ow.nil _ _ _) (fun k e=>by simp [Value.ownBlock] at e) (fun i hi k _ e=>by simp [Value.ownBlock] at e));have O1:Hid (Only F w (w.setCell ⟨s,3,none⟩ (.slice none 0 0))):=Hh (Only.set F w (a:=⟨s,3,none⟩) h.fs _);have Q1:Hid (Ow K2 (w.setCell ⟨s,3,none⟩ (.slice none 0 0)) 0 95 vq c.Q):=Hh (aC h.sp (fun k e g=>h.vs.2 (by rw [e,g])) (Only.set (fun k=>k=s) w (a:=⟨s,3,none⟩) rfl _));have k1:=H1.cells.2.1;have CR:=Hh (Wt.l7 H1.pr (by omega));have QF:Hid (∀ k,vq.ownBlock=some k->k≠s/\k≠p):=Hh (fun k e=>⟨fun g=>h.vs.2 (by rw [e,g]),fun g=>h.vp.2 (by rw [e,g])⟩);have HS:=Hh h.fs;have LW:=Hh h.low;have GG:=Hh hg;have HG:=Hh hG;have OK:=Hh ok;obtain ⟨qa,qc,rfl,_⟩:=h.sp.slice;clear h ok hg hG;unfold Wt.aY at CR;rw [show Wt.opn ({ c with Q:=[] } : Cs).P=_ from ho,show Wt.jo ({ c with Q:=[] } : Cs).P=Wt.jo c.P from rfl] at CR;unfold ptr at *;generalize hql:c.Q.length=ql at *;clear hql
 go_enter func31,ntmps31
 go_upto_region 3 with fail;clear d3 f3;generalize (w.setCell ⟨s,3,none⟩ (.slice none 0 0))=w1 at *;go_wp2_with fail;refine CR.mono ?_;rintro e w2 ⟨rfl,pr2,o2⟩;have H2:=Hh (H1.pair o2 pr2);have O2:=Hh (O1.trans o2 fun k _ e=>by rw [e];exact H1.out.fp);have Q2:=Hh (aC Q1 (fun k e g=>(QF k e).2 g) o2);have G2:=Hh (GG.only HG O2);clear pr2 o2 CR H1 O1 Q1 k1;have hnl:nn < c.S.length:=by have:=OK.out.len;omega
 have OW:own c=(sat c.S nn).1:=by unfold own;rw [ho]
 have C3:=Hh (nJ H2 (n:=nn) hnl);have HO:=Hh ho;have HN:=Hh hnl;unfold ptr at C3;go_wp2_with fail;refine C3.mono ?_;rintro e w3 ⟨rfl,b3⟩;have H3:=Hh (H2.below b3);have O3:=Hh (O2.then b3);have Q3:=Hh (Q2.keep b3);have C4:=Hh (lq H3 (nn:=nn) HN);rw [show (sat ({ c with Q:=[],P:=Wt.jo c.P } : Cs).S nn).1=own c from OW.symm] at C4;have OWH:=Hh OW;unfold SqC ptr at C4;clear H2 O2 Q2 G2 C3 b3 OW ho hnl;go_wp2_with fail;refine C4.mono ?_;rintro e w4 ⟨b4,hc⟩;have H4:=Hh (H3.below b4);have O4:=Hh (O3.then b4);have Q4:=Hh (Q3.keep b4);have G4:=Hh (GG.only HG O4);clear H3 O3 Q3 C4 b4
 rcases hc with ⟨hs,u,rfl,ru⟩ | ⟨hs,rfl⟩
 ·have SQ:=Hh (Dl hs)
  have er:rE c=gM c.S (rT c) c.V:=by unfold rE;rw [aq (by rw [HO.out];omega),aw hs]
  have ec:rC c=⟨caS c.S (rT c) c.V c.Q,c.V,Wt.jo c.P,pE c (jA (own c)),[]⟩:=by unfold rC caS;rw [aq (by rw [HO.out];omega),aw hs]
  rw [RE.out] at er;rw [RC.out] at ec;have C5:Hid (Calls prog 60 #[ptr s,u] w4 (NxC w4 s (gq (jA (own c)) (kD c (jA (own c)))) (pE c (jA (own c))))):=Hh (PM H4 ru SQ);have RR:Hid (0<=gq (jA (own c)) (kD c (jA (own c)))/\gq (jA (own c)) (kD c (jA (own c)))<=5):=Hh (SQ.out.2 _ (abh SQ));have RT:Hid (rT c=Kv c.S (gq (jA (own c)) (kD c (jA (own c))))):=Hh rfl;obtain ⟨ua,uc,rfl,_⟩:=ru.slice;unfold NxC ptr at C5;have EC:=Hh ec;have ER:=Hh er;clear ru er ec hs;generalize (jA (own c)).length=ul at *;go_wp2_with fail;refine C5.mono ?_;rintro e w5 ⟨rfl,w6,b6,rfl⟩;have H5:=Hh ((H4.below b6).place (pE c (jA (own c))));have O5:=Hh ((O4.then b6).trans (Only.set F w6 (a:=⟨s,2,none⟩) HS (.int .i64 (pE c (jA (own c))))) fun _ _ g=>g);have Q5:=Hh (aC (Q4.keep b6) (fun k e g=>(QF k e).1 g) (Only.set (fun k=>k=s) w6 (a:=⟨s,2,none⟩) rfl (.int .i64 (pE c (jA (own c))))));have G5:=Hh (GG.only HG O5);clear H4 O4 Q4 G4 b6 C5;generalize (w6.setCell ⟨s,2,none⟩ (.int .i64 (pE c (jA (own c)))))=w7 at *;have C6:=Hh (J5 H5 OK.len OK.lv (fun i hi=>by have:=OK.out.st i hi;exact ⟨this.2.1,Int.lt_of_le_of_lt this.2.2 (by omega)⟩) G5.out RR.out Q5.out.rd);unfold ptr at C6;rw [← RT.out] at C6;clear H5 Q5 G5 RR;generalize gq (jA (own c)) (kD c (jA (own c)))=r at *;go_wp2_with fail;refine C6.mono ?_;rintro e w8 d8;have G:Hid (kg w s F cR (t+1) eR e w8):=Hh (by rw [EC.out,ER.out];exact d8.preO O5.out LW.out);obtain ⟨rfl,_,_⟩:=d8;clear C6;go_wp2
  go_ret
  exact G
 ·have er:rE c=2:=by unfold rE;rw [aq (by rw [HO.out];omega),aq (by rw [hs];decide)]
  have ec:rC c = { c with P:=Wt.jo c.P,Q:=[] }:=by unfold rC;rw [aq (by rw [HO.out];omega),aq (by rw [hs];decide)]
  rw [RE.out] at er;rw [RC.out] at ec;subst er ec;have C5:=Hh (FD nn 2 w4 G4);have E:=Hh (fun w' (b:Below w4.heap.size w4 w')=>qy (w:=w) (H4.below b) (O4.then b) 2);unfold j4 IG at *;clear H4 O4 Q4 G4 hs;go_wp2_with fail;refine C5.mono ?_;rintro e w5 ⟨rfl,b5⟩;have G:=Hh (E w5 b5);clear E C5 b5;go_wp2
  go_ret
  exact G
theorem Kb (h:Cl w s F c t vn L p vq Fs) (ok:kC c t) (ht:t<=1000) (hg:Glob w) (hG:¬ F 0) :
 Calls prog 31 #[ptr s] w (kg w s F (rC c) (t+1) (rE c)):=by
 rcases Jl c.P with ho | ho | ho
 ·exact Ab h ok ht hg hG ho
 ·exact vS h ok ht hg hG (nn:=0) ho (by decide)
 ·exact vS h ok ht hg hG (nn:=1) ho (by decide)
end Cu
