import Derived.Test.YtpepoackmcohlaaGreatDoorPg10
set_option maxRecDepth 100000
set_option maxHeartbeats 8000000
namespace Go.Proofs.YtpepoackmcohlaaGreatDoor
open Go.Proofs.Tryz Go.RowKit
open Bu (Bn Et He Hy Ib JD Jk Ke Kh MI UH YC YF fO jy lN pU qj vQ vV xB)
open Ck (Hd sl zh)
open Fl (K4 R4 ah aj bQ dF z4)
open Fs (Fx St Wf aG aU ay eB fq)
open Pa (KB KN aN bU bX iG nQ ptr vw)
open Rw (At Ow)
open Sp (fr)
open Tk (bN dI jE)
open Wi (Plain dS jK)
namespace Sa
open Go.Proofs.YtpepoackmcohlaaGreatDoor.Sp
open Tk (vL)
open Wi (ig Av Jw iL FY)
open Ua (dJ upd Row FP x9 no tb tp te kZ kG om jL Eb jg aX dU)
def hi (low:Int->Bool) (g:Int->Int) (b:Int):Nat->Nat
 | 0=>0
 | k+1=>hi low g b k+(if low (g (b+7+k)) then 0 else 1)
theorem abL (low:Int->Bool) (g:Int->Int) (b:Int):∀ k,hi low g b k<=k
 | 0=>ac _
 | k+1=>by have:=abL low g b k;unfold hi;split <;> omega
variable {low:Int->Bool} {g:Int->Int} {b f t p a c:Int} {k n:Nat}
theorem acy (h:low (g (b+7+k))=true):hi low g b (k+1)=hi low g b k:=by rw [hi,aw h,Nat.add_zero]
theorem ZJ (h:low (g (b+7+k))=false):hi low g b (k+1)=hi low g b k+1:=by rw [hi,am (by simp [h])]
theorem abY (low:Int->Bool) (g:Int->Int) (b:Int):decide ((1:Int) < (hi low g b 3:Nat))=maj (!low (g (b+7))) (!low (g (b+8))) (!low (g (b+9))):=by
 have e:hi low g b 3=0+(if low (g (b+7)) then 0 else 1)+(if low (g (b+8)) then 0 else 1)+(if low (g (b+9)) then 0 else 1):=by
  show 0+(if low (g (b+7+(0:Nat))) then 0 else 1)+(if low (g (b+7+(1:Nat))) then 0 else 1)+(if low (g (b+7+(2:Nat))) then 0 else 1)=_
  rw [show b+7+((0:Nat):Int)=b+7 by omega,show b+7+((1:Nat):Int)=b+8 by omega,show b+7+((2:Nat):Int)=b+9 by omega]
 rw [e]
 cases low (g (b+7)) <;> cases low (g (b+8)) <;> cases low (g (b+9)) <;> rfl
theorem Mg (w:World) (v u:Value) (l:List S2) (P:Sp w v l) (n:Nat) (A R:Nat->Int) (S:Tk.Steps w u n A R) (g:bN n A R) (b:Int) (b0:0<=b) (b1:b<=5000000000) :
 Calls prog 210 #[v,u,.int .i64 b] w fun e w'=>e = .returned (.bool (maj (!ig l (dI A R n (b+7))) (!ig l (dI A R n (b+8))) (!ig l (dI A R n (b+9)))))/\Below w.heap.size w w':=by
 have P0:=Hh P;have S0:=Hh S;have G:=Hh g;have HM:=Hh (abY (ig l) (dI A R n) b);clear P S g
 go_enter func210,ntmps210
 go_wp2
 go_loopw [7,9] (fun h i wr=>∃ k:Nat,k<=3/\i = .int .i64 k/\h = .int .i64 (hi (ig l) (dI A R n) b k:Nat)/\Below w.heap.size w wr) (fun _ i _=>3 - (intOf i).toNat)
 case atStart=>exact ⟨0,by omega,rfl,rfl,aa _ _⟩
 case round =>
  obtain ⟨k,hk,rfl,rfl,hb⟩:=hrel;have q:=abL (ig l) (dI A R n) b k;have HB:=Hh hb
  by_cases hlt:k < 3
  ·have s1:=Hh (S0.below hb)
   have p1:=Hh (P0.below hb);clear hb;go_wp2_with fail;refine (jE _ _ _ _ _ (b+7+k) s1 G).mono ?_;rintro e w1 ⟨rfl,c1⟩;have p2:=Hh (p1.below c1);have B1:=aW HB c1;clear c1
   cases hL:ig l (dI A R n (b+7+k)) with
   | true =>
     have E:=Hh (acy hL);have HA:=Hh (Av _ _ _ p2 (dI A R n (b+7+k)));rw [hL] at HA;clear hL;go_wp2_with fail;refine HA.mono ?_;rintro e w2 ⟨rfl,c2⟩;have B2:=aW B1 c2;clear c2;go_wp2
     go_roundw
     case rel=>exact ⟨k+1,by omega,by go_num,by rw [E.out],B2.out⟩
     case measure=>simp [intOf];omega
   | false =>
     have E:=Hh (ZJ hL);have HA:=Hh (Av _ _ _ p2 (dI A R n (b+7+k)));rw [hL] at HA;clear hL;go_wp2_with fail;refine HA.mono ?_;rintro e w2 ⟨rfl,c2⟩;have B2:=aW B1 c2;clear c2;go_wp2
     go_roundw
     case rel=>exact ⟨k+1,by omega,by go_num,by rw [E.out];go_num,B2.out⟩
     case measure=>simp [intOf];omega
  ·obtain rfl:k=3:=by omega
   clear hb;generalize hi (ig l) (dI A R n) b 3=h at *;go_wp2
   go_ret
   exact ⟨Ua.aC HM,HB⟩
theorem Ui (w:World) (v u:Value) (l:List S2) (P:Sp w v l) (n:Nat) (A R:Nat->Int) (S:Tk.Steps w u n A R) (g:bN n A R) (t:Int) :
 Calls prog 180 #[v,u,.int .i64 t] w fun e w'=>e = .returned (.agg (dJ (jD (ig l) (dI A R n) (Tk.Loc A R n t))))/\Below w.heap.size w w':=by
 have T0:=Hh (x9 w (hf (ig l) (dI A R n) (Tk.Loc A R n t) 0) (fun i _=>afg _ _ _ i));have P0:=Hh P;have S0:=Hh S;have G:=Hh g;have N:=Zm A R n g t;have z2:((w.alloc (.cells (dJ no) 222)).alloc (.cells (dJ no) 222)).heap.size=w.heap.size+1+1:=by simp
 have LA:=Hh (vL _ u n A R (S.below T0.out.2.2) g t);clear P S g
 go_enter func180,ntmps180
 go_wp2_with fail;refine LA.mono ?_;rintro e w1 ⟨rfl,b1⟩;have T1:=Hh (T0.below b1);clear b1 LA T0;generalize hL:Tk.Loc A R n t=L at *;have HL:=Hh hL;clear hL;obtain ⟨N0,N1⟩:=N;go_wp2
 go_loopw [13] (fun i wr=>∃ k:Nat,k<=11/\i = .int .i64 k/\Hid (FP w wr (hf (ig l) (dI A R n) L k))) (fun i _=>11 - (intOf i).toNat)
 case atStart=>exact ⟨0,by omega,rfl,T1⟩
 case round =>
  obtain ⟨k,hk,rfl,T⟩:=hrel
  by_cases hlt:k < 11
  ·have HS:=Hh (fun x (e:x=jD (ig l) (dI A R n) L k)=>ZI (ig l) (dI A R n) L k e)
   have M:=Hh (Mg wr v u l (P0.below T.out.2.2) n A R (S0.below T.out.2.2) G (L+16 * k) (by omega) (by omega));go_wp2_with fail;refine M.mono ?_;rintro e w2 ⟨rfl,b2⟩;have T2:=Hh (T.out.below b2);have c:=T2.out.2.1.cell k (by omega);have f:=T2.out.2.1.frozen k;clear b2 M;go_wp2
   go_roundw
   case rel=>exact ⟨k+1,by omega,by go_num,Hh ((T2.out.jA k (by omega) _).to (fun i _=>HS.out _ rfl i))⟩
   case measure=>simp [intOf];omega
  ·obtain rfl:k=11:=by omega
   go_wp2_with ((with_reducible refine om (o:=⟨some 26,_,_,_,_,_⟩) rfl rfl _ _ _ rfl rfl rfl _ _ _ _ ?_ ?_ ?_ T.out.frame T.out.res ?_);(exact rfl);(exact rfl);(exact rfl))
   refine bp (jL rfl _ _ _ _ rfl (T.out.1.row _)) rfl ⟨Eb fun i hi=>by rw [HL.out];exact acH _ _ _ i hi,?_⟩;exact aX T.out.2.2 _ _ (ac _)
noncomputable def Ay (x l:List S2) (A R:Nat->Int) (n:Nat) (f t:Int):Int×Bool×Int :=
 if (iL x f t).2 then (tb (jD (ig l) (dI A R n) (Tk.Loc A R n (iL x f t).1)),tp (jD (ig l) (dI A R n) (Tk.Loc A R n (iL x f t).1)),te (jD (ig l) (dI A R n) (Tk.Loc A R n (iL x f t).1))) else (0,false,3)
variable {x l:List S2} {A R:Nat->Int}
theorem ZO (h:iL x f t=(p,false)):(0,false,3)=Ay x l A R n f t:=by
 unfold Ay;rw [h];rfl
theorem UO (h:iL x f t=(p,true)):(tb (jD (ig l) (dI A R n) (Tk.Loc A R n p)),tp (jD (ig l) (dI A R n) (Tk.Loc A R n p)),te (jD (ig l) (dI A R n) (Tk.Loc A R n p)))=Ay x l A R n f t:=by
 unfold Ay;rw [h];rfl
def zH (w:World) (l:List S2) (A R:Nat->Int) (n:Nat) (f t:Int) (e:Ending) (w':World):Prop :=
 ∃ x,dS l x/\e = .returned (.tuple #[.int .u8 (Ay x l A R n f t).1,.bool (Ay x l A R n f t).2.1,.int .i64 (Ay x l A R n f t).2.2])/\Below w.heap.size w w'
theorem J6 {b:Bool} {q:Int×Bool×Int} (h:(a,b,c)=q):Ending.returned (.tuple #[.int .u8 a,.bool b,.int .i64 c]) = .returned (.tuple #[.int .u8 q.1,.bool q.2.1,.int .i64 q.2.2]):=by rw [← h]
theorem GV (w:World) (v u:Value) (l:List S2) (P:Sp w v l) (hl:l.length < 1099511627776) (n:Nat) (A R:Nat->Int) (S:Tk.Steps w u n A R) (g:bN n A R) (f t:Int) :
 Calls prog 149 #[v,u,.int .i64 f,.int .i64 t] w (zH w l A R n f t):=by
 have P0:=Hh P;have S0:=Hh S;have G:=Hh g;clear P S g
 go_enter func149,ntmps149
 go_wp2_with fail;refine (Jw _ _ _ P0 hl f t).mono ?_;rintro e w1 ⟨x,hx,rfl,b1⟩;have PX:=Hh hx;have B1:=Hh b1;have P1:=Hh (P0.below b1);have S1:=Hh (S0.below b1);clear b1 hx P0 S0;generalize hv:iL x f t=q;obtain ⟨p,y⟩:=q
 cases y with
 | false =>
   have E:=Hh (ZO (l:=l) (A:=A) (R:=R) (n:=n) hv);clear hv;go_wp2
   go_ret3
   exact ⟨x,PX,J6 E,B1⟩
 | true =>
   have E:=Hh (UO (l:=l) (A:=A) (R:=R) (n:=n) hv);clear hv;go_wp2_with fail;refine (Ui _ _ _ _ P1 _ _ _ S1 G p).mono ?_;rintro e w2 ⟨rfl,b2⟩;have B2:=aW B1 b2;clear b2;generalize jD (ig l) (dI A R n) (Tk.Loc A R n p)=F at *;go_wp2_with fail;refine (kZ _ F).mono ?_;rintro e w3 ⟨rfl,b3⟩;have B3:=aW B2 b3;clear b3;go_wp2
   go_ret3
   exact ⟨x,PX,J6 E,B3⟩
end Sa
namespace Bu
open Go.Maps
open Sp (S2 tp Sp)
open Pa (Hr nO Kg H1 Eg Ep rZ)
open Sa (GV zH)
attribute [local irreducible] Sd.bA wpQuiet
def qB (w:World) (h:Hr) (e:Ending) (w':World):Prop:=∃ b,e = .returned (.map (some b))/\vw w' (.map (some b)) h/\Below w.heap.size w w'
variable {l:List S2} {r:fO}
theorem YO (hp:Plain l) {W w':World} {e:Ending} {k:Nat} (h:zH W l r.A r.R r.n (dI r.A r.R r.n (224 * (k:Int) - 20)) (dI r.A r.R r.n (224 * (k:Int)+20)) e w') :
 e = .returned (.tuple #[.int .u8 (nC l l r k).1,.bool (nC l l r k).2.1,.int .i64 (nC l l r k).2.2])/\Below W.heap.size W w':=by
 obtain ⟨x,hx,he,hb⟩:=h;obtain rfl:=hx.one ⟨hp,fun _=>Iff.rfl⟩;exact ⟨he,hb⟩
theorem nD {w:World} {v u:Value} (P:Sp w v l) (hp:Plain l) (hl:l.length<=4294967297) (S:Tk.Steps w u r.n r.A r.R) (c:r.calm):Calls prog 119 #[v,u] w (qB w (Ke l l r)):=by
 have G:=Sa.Calm.good c;have GL:=Hh (fun W b m=>jE W u r.n r.A r.R m (S.below (w':=W) b) G);have HE:=Hh (fun W b (k:Nat)=>(GV W v u l (P.below (w':=W) b) (by omega) r.n r.A r.R (S.below b) G (dI r.A r.R r.n (224 * (k:Int) - 20)) (dI r.A r.R r.n (224 * (k:Int)+20))).mono fun e w' h=>YO hp h);have YY:Hid (∀ k:Nat,1<=k->k<=16->(nC l l r k).2.2=0->(nC l l r k).2.1=false->nO (mQ (Ke l l r) k) k (nC l l r k).1=mQ (Ke l l r) (k+1)):=Hh (fun k h1 h2 e o=>ZK h1 (YJ (by omega) (by omega) e o));have NN:Hid (∀ k:Nat,¬ ((nC l l r k).2.2=0/\(nC l l r k).2.1=false)->mQ (Ke l l r) k=mQ (Ke l l r) (k+1)):=Hh (fun k h=>adf (ac0 h));have EN:Hid (mQ (Ke l l r) 17=Ke l l r):=Hh (aa4 fun n h=>aaa h);have M0:Hid (H1 w w.heap.size 1 (mQ (Ke l l r) 1) (w.alloc (.map #[] 0))):=Hh ⟨⟨0,by rw [qm];exact Eg w,by omega⟩,ac _,(aa w.heap.size w).alloc (ac _) _⟩;clear P hp hl S c G;generalize Ke l l r=h at *;have hmm:=@run_makeMap prog
 go_enter func119,ntmps119
 go_wp2;clear hmm;generalize (w.alloc (.map #[] 0))=W0 at *;generalize hb0:w.heap.size=b at M0 ⊢;have HB0:=Hh hb0;clear hb0
 go_loopw [6] (fun i wr=>∃ k:Nat,1<=k/\k<=17/\i = .int .i64 k/\Hid (H1 w b k (mQ h k) wr)) (fun i _=>17 - (intOf i).toNat)
 case atStart=>exact ⟨1,by omega,by omega,rfl,M0⟩
 case round =>
  obtain ⟨k,hk1,hk,rfl,I⟩:=hrel;clear M0
  by_cases hlt:k < 17
  ·have K1:=Hh (GL wr I.aI (224 * (k:Int) - 20))
   go_wp2_with fail;refine K1.mono ?_;rintro e w1 ⟨rfl,b1⟩;have I1:=Hh (I.below b1);have K2:=Hh (GL w1 I1.aI (224 * (k:Int)+20));clear b1 K1 I;go_wp2_with fail;refine K2.mono ?_;rintro e w2 ⟨rfl,b2⟩;have I2:=Hh (I1.below b2);have K3:=Hh (HE w2 I2.aI k);have YK:=Hh (YY k hk1 (by omega));have NK:=Hh (NN k);have WK:=Hh (rZ (n:=(k:Int)) ⟨by omega,by omega⟩);clear b2 K2 I1;generalize nC l l r (k:Int)=q at *;obtain ⟨y,o,z⟩:=q;simp only at YK NK K3;go_wp2_with fail;refine K3.mono ?_;rintro e w3 ⟨rfl,b3⟩;have I3:=Hh (I2.below b3);clear b3 K3 I2
   by_cases hz:z=0
   ·cases o with
    | false =>
      have EQ:=Hh (YK hz rfl);clear YK NK;subst hz;obtain ⟨N,m,hN⟩:=I3.mp;have M2:=Hh m;have LO:=Hh I3.lo;have BE:=Hh I3.aI;clear m I3
      go_wp2_with (first
       | (at_mapUpdate;refine Ep rfl _ _ _ rfl rfl M2 (by unfold maxLen;omega) (k:Int) y rfl rfl WK.out ?_;intro w4 m4 g4)
       | fail)
      have I4:Hid (H1 w b (k+1) (mQ h (k+1)) w4):=Hh ⟨⟨N+1,by rw [← EQ.out];exact m4,by omega⟩,LO.out,BE.out.grown g4 BE.out.size (fun j e=>by injection e with e;have:=LO.out;omega)⟩;clear m4 g4 M2 EQ BE LO;go_wp2
      go_roundw
      case rel=>exact ⟨k+1,by omega,by omega,by go_num,I4⟩
      case measure=>simp [intOf];omega
    | true =>
      have EQ:=Hh (NK (by simp));have I4:Hid (H1 w b (k+1) (mQ h (k+1)) w3):=Hh ⟨by obtain ⟨N,m,hN⟩:=I3.out.mp;exact ⟨N,by rw [← EQ.out];exact m,by omega⟩,I3.out.lo,I3.out.aI⟩;clear YK NK EQ I3;subst hz;go_wp2
      go_roundw
      case rel=>exact ⟨k+1,by omega,by omega,by go_num,I4⟩
      case measure=>simp [intOf];omega
   ·have EQ:=Hh (NK fun g=>hz g.1)
    have I4:Hid (H1 w b (k+1) (mQ h (k+1)) w3):=Hh ⟨by obtain ⟨N,m,hN⟩:=I3.out.mp;exact ⟨N,by rw [← EQ.out];exact m,by omega⟩,I3.out.lo,I3.out.aI⟩;have d0:(z == 0)=false:=by simpa using hz
    clear YK NK EQ I3;go_wp2
    go_roundw
    case rel=>exact ⟨k+1,by omega,by omega,by go_num,I4⟩
    case measure=>simp [intOf];omega
  ·obtain rfl:k=17:=by omega
   rw [EN.out] at I;have RES:Hid (qB w h (.returned (.map (some b))) wr):=Hh ⟨b,rfl,by obtain ⟨⟨N,m,_⟩,_,_⟩:=I;exact ⟨b,N,rfl,m⟩,I.aI⟩;clear I;go_wp2
   go_ret
   exact RES
end Bu
namespace Cu
open Go.Maps
open Sp (tp Sp)
open Rw (Rd)
open Wi (Made)
open Fs (jV)
open Ro (jM)
open Ck (LL bZ tE kF jm)
open Bu (nD qB)
open Pa (Cj Ns K2 hr xS nS iU zQ mX eH vO zX tV Ao dx cK nM qC Ka)
attribute [local irreducible] Sd.bA wpQuiet
theorem Hg {w:World} {vs vt vl vp vo:Value} {S:bX} {T:LL} {V:List Bool} {P:List Sp.S2} {O:List fO} (HS:Cj w vs S) (HT:kF w vt T) (HV:Rd KB w vl V) (RP:Rd K2 w vp P) (HO:Ib w vo O) (hg:fq w) (hd:∀ i,i < S.length->0<=(aN S i).2/\(aN S i).2 < 900000) :
 Calls prog 87 #[vs,vt,vl,vp,vo] w (BrP w (Kh S T V O) (YF S T V P O)):=by
 have RO:=Hh (mX HS HT HV RP hg hd);unfold eH at RO;obtain ⟨sa,cs,rfl,ms⟩:=HS.slice;obtain ⟨oa,co,rfl,mo1,mo⟩:=HO.slice;unfold maxLen at ms mo;have OS:=Hh HO;have HS0:=Hh HS;have HT0:=Hh HT;have HV0:=Hh HV;have RP0:=Hh RP;have GG:=Hh hg;have DD:=Hh hd;clear HS HT HV RP HO hg hd
 by_cases hE:iG S T V=0
 ·obtain ⟨f1,f2,f3,f4,f5⟩:=JD hE
  have WILD:Hid (¬ (O.length=S.length/\jy O=true)->∀ w',Below w.heap.size w w'->BrP w (Kh S T V O) (YF S T V P O) (.returned (.tuple #[.slice none 0 0,.int .i64 1])) w'):=Hh (fun h w' b=>by
   obtain ⟨e1,e2⟩:=Jk (P:=P) hE h;rw [e1]
   exact ⟨_,[],fun _ _=>False,rfl,fun e=>absurd e (by decide),fun _=>rfl,b⟩)
  by_cases hl:O.length=S.length
  ·have CA:=Hh (fun W b=>Hy W _ O (OS.below (w':=W) b))
   cases hc:jy O with
   | false =>
     have WL:=Hh (WILD (by rw [hc];simp));rw [hE] at RO;rw [hc] at CA;generalize Kh S T V O=be at *;generalize YF S T V P O=bl at *;generalize nQ S T V P=rl at *;rw [hl] at CA ⊢;clear WILD OS HS0;generalize S.length=n at *
     go_enter func87,ntmps87
     go_wp2_with fail;refine RO.mono ?_;rintro e w1 ⟨v1,rfl,_,b1⟩;have C1:=Hh (CA w1 b1);have B1:=Hh b1;clear b1 CA RO;go_wp2_with fail;refine C1.mono ?_;rintro e w2 ⟨rfl,b2⟩;have RES:=Hh (WL w2 (aW B1 b2));clear b2 C1 WL;go_wp2
     go_ret2
     exact RES
   | true =>
     obtain ⟨e1,e2⟩:=Et (P:=P) hE hl hc;have cl:=vV hc;have BN:Hid (Bn w (.slice sa S.length cs) vt vl vp (.slice oa O.length co) S T V P O):=Hh ⟨⟨HS0,HT0,HV0,f3,f4,f5⟩,RP0,OS,hl,f2,cl⟩;have LN:=Hh (fun W b=>He (BN.below (w':=W) b));have LQ:Hid (∀ l,xB S T V P O l->∀ k:Nat,k < S.length->Ke l l (lN O k)=hr S T V P):=Hh (fun l h k hk=>UH f5 (by rw [hl,f3]) cl ⟨h.1,fun _=>Iff.rfl⟩ h.2 (pU cl (by omega)));have LF:Hid (∀ l,xB S T V P O l->l.length<=4294967297):=Hh (fun l h=>vQ h.1 fun u hu=>MI ((h.2 u).1 hu));have CO:Hid (∀ k:Nat,k < S.length->(lN O k).calm):=Hh (fun k hk=>pU cl (by omega));have OH:=Hh (zQ S T V P);rw [hE] at RO;rw [hc] at CA;rw [e1,e2];clear WILD HT0 HV0 RP0;generalize hr S T V P=h at *;have AT:=Hh (fun i hi=>nS S T V h (i:=i) hi);have RL:=Hh (iU S T V h);generalize xS S T V h=S' at *;generalize nQ S T V P=rl at *;have HL:=Hh hl;have F3:=Hh f3;have F4:=Hh f4;rw [hl] at CA LN BN ⊢;clear hl f3 f4 f5 e1 e2 cl hc hE;generalize hn:S.length=n at *;have HN:=Hh hn;clear hn
     go_enter func87,ntmps87
     go_wp2_with fail;refine RO.mono ?_;rintro e w1 ⟨v1,rfl,_,b1⟩;have C1:=Hh (CA w1 b1);have B1:=Hh b1;clear b1 CA RO;go_wp2_with fail;refine C1.mono ?_;rintro e w2 ⟨rfl,b2⟩;have B2:=aW B1 b2;have L2:=Hh (LN w2 B2);clear b2 C1 B1 LN;go_wp2_with fail;refine L2.mono ?_;rintro e w3 ⟨v3,l,rfl,Mf,lp,b3⟩;have BW:=aW B2 b3;have SL3:=Hh Mf.sp;have LP:=Hh lp;obtain ⟨la,lc,rfl,_⟩:=SL3.slice;clear Mf lp b3 L2 B2;generalize hll:l.length=ln at *;have HLL:=Hh hll;clear hll;go_wp2
     rename World=>wA
     go_loopw [47,15] (fun i o wr2=>∃ (k:Nat) (ps:List Nat) (Fs:Nat->Nat->Prop),k<=n/\i = .int .i64 k/\Hid (PJ 72 wA S' k o ps Fs wr2)) (fun i _ _=>n - (intOf i).toNat)
     case atStart=>exact ⟨0,[],fun _ _=>False,cg _,rfl,PJ.start (aa _ _)⟩
     case round =>
      obtain ⟨k,ps,Fs,hk,rfl,I⟩:=hrel;have BI:=Hh (BW.trans (I.aI.mono BW.size));obtain ⟨av,cv,ev,_⟩:=I.own.slice;have OWN:=Hh I.own;generalize ps.length=Lp at ev;subst ev
      by_cases hlt:k < n
      ·obtain ⟨b1,o1,c1,s,e1,cS,hS⟩:=BN.ns.st.one (k:=k) (by have:=HN.out;omega)
       rw [HN.out] at e1;injection e1 with e1 _ e2;subst e1 e2;obtain ⟨b2,o2,c2,at',ct,e2,cT,_,_⟩:=BN.ns.tb.one (k:=k) (by have:=F3.out;omega);have RT:=Hh (BN.ns.tb.rd (k:=k) (by have:=F3.out;omega) e2 cT);rw [F3.out] at e2;subst e2;obtain ⟨a3,c3,e3,_,_,h3⟩:=BN.ns.lv;rw [F4.out] at e3;subst e3;obtain ⟨b3,o3,rfl,A3⟩:=h3 (by have:=F4.out;omega);have cV:=Ka (A3.below BI) (i:=k) (by have:=F4.out;omega);rw [show V.getD k false=bU V k from rfl] at cV;obtain ⟨b4,o4,c4,a4,d4,e4,cO,_,s4⟩:=BN.os.one (k:=k) (by have:=HL.out;omega);rw [HL.out] at e4;injection e4 with e4 _ e5;subst e4 e5;have S4:=Hh s4;have EA:=Hh (AT k (by have:=HN.out;omega));have OKT:=Hh (nM BN.ns.ok (k:=k) (by have:=F3.out;omega));have ML:=Hh (jM (jm (qC BN.ns.ok) k (by have:=F3.out;omega)));have HS2:Hid (∀ W,Below w.heap.size w W->Pa.Has W s (aN S k)):=Hh (fun W b=>by obtain ⟨F,h⟩:=hS;exact ⟨F,h.below b⟩);have CT:=Hh cT;have CC:=Hh cO;have lT:=bo _ _ cT;have lO:=bo _ _ cO;unfold ptr at cS;have sS:=iI BI cS;have LN:=Hh I.len;clear hS h3 A3 s4 cS cT cO
       cases hv:bU V k with
       | true =>
         rw [hv] at cV;rw [hv,aw rfl] at EA;have EQ:=Hh (LQ l LP k hlt);have CK:=Hh (CO k hlt);generalize hlk:(bZ T k).length=lk at *;go_upto_region 12 with fail;clear cV sS;have sT:=Sc.aA (C:=fun W=>Below w.heap.size w W) (a:=⟨b2,o2+k,none⟩) (fun W' h=>(h.cell lT).trans CT);have sO:=Sc.aA (C:=fun W=>Below w.heap.size w W) (a:=⟨b4,o4+k,none⟩) (fun W' h=>(h.cell lO).trans CC);have BD:=Hh (BI.trans ((aa wr.heap.size wr).drew.mono BI.size));have ne:Nonempty (Sc.In (fun W=>Below w.heap.size w W)):=⟨⟨_,BD⟩⟩;have ID:=Hh (I.below ((aa wr.heap.size wr).drew));refine Sc.start (fun W=>Below w.heap.size w W) [(false,0),(false,1),(false,2),(false,3),(false,4),(false,5),(false,6),(false,7),(false,8),(false,9),(false,10),(true,11),(true,12),(true,13),(true,14),(false,15)] (by kernel_rfl) (by kernel_rfl) (by kernel_rfl) BD ?_;dsimp only [Sd.aP,List.getElem?_cons_succ,List.getElem?_cons_zero]
         repeat (refine Sd.lit ?_;quiet_step (fail);refine bk ?_)
         clear sT sO;generalize wr.drew=Wd at *;have HD:=Hh (nD (l:=l) (r:=lN O k) (SL3.below ID.aI) LP.out.1 (LF l LP) (S4.below BD) CK);rw [EQ.out] at HD;unfold qB at HD;generalize (lN O k).n=on at *;refine Sd.call (by rfl) (fun K hK=>?_);go_simp;refine HD.mono ?_;rintro e w4 ⟨mb,rfl,hm,b4'⟩;have HM:=Hh hm;have B4:=aW BD b4';have I4:=Hh (ID.below b4');refine hK _ _ (Sc.Cl.of B4) ?_;clear hK K b4' hm HD ID;have AP:=Hh (vO (HS2 w4 B4) (GG.below B4) (DD k (by omega)) (RT.out.below B4.out) (fun y hy=>(OKT.out y hy).1) (by have:=ML.out;omega) HM.out OH.out);unfold zX at AP;refine Sd.call (by rfl) (fun K hK=>?_);go_simp;refine AP.mono ?_;rintro e w5 ⟨g,F5,rfl,st5,lo5,b5⟩;have B5:=aW B4 b5;refine hK _ _ (Sc.Cl.of B5) ?_;clear hK K;unfold ptr;refine Sd.call (by rfl) (fun K hK=>?_);go_simp;have I5:=Hh ((I4.pend b5 (by rw [EA.out];exact st5) lo5).below ((aa w5.heap.size w5).alloc (ac _) (.cells #[.pointer (some ⟨g,0,none⟩)] 72)));have N6:=Hh (bc w5 (.cells #[.pointer (some ⟨g,0,none⟩)] 72));have B6:=Hh (B5.alloc B5.size (.cells #[.pointer (some ⟨g,0,none⟩)] 72));refine hK _ _ (Sc.Cl.of B6) ?_;clear hK K st5 lo5 b5 I OWN AP I4 BD;generalize w5.heap.size=g5 at *;generalize (w5.alloc (.cells #[.pointer (some ⟨g,0,none⟩)] 72))=W6 at *;refine Sd.call (by rfl) (fun K hK=>?_);refine cK (K:=KN) underlying158 Ao rfl (by omega) _ _ rfl wA.heap.size _ _ rfl I5.out.old.own _ g rfl ?d1 ?d2 ?d3 ?_
         case d1 =>
          intro j u hu
          match j,hu with
          | 0,hu=>simp [KN] at hu;subst hu;exact ah N6.out 0
          | j+1,hu=>simp [KN] at hu
         case d2=>rw [LN.out];omega
         case d3=>have:=I5.old.aI.size;exact this
         intro v' w6 o6 g6 h6
         have NEW:=Hh (I5.push o6 g6 h6);refine hK _ _ (Sc.Cl.of (BW.trans (NEW.aI.mono BW.size))) ?_;clear hK K o6 g6 h6 I5 B5 B6 N6;obtain ⟨av',cv',ev',_⟩:=NEW.own.slice;generalize (ps ++ [g]).length=Lp' at ev';subst ev'
         repeat (refine Sd.lit ?_;quiet_step (fail);refine bk ?_)
         refine Sd.done ?_;go_wp2
         go_roundw
         case rel=>exact ⟨k+1,ps ++ [g],_,by omega,by go_num,NEW⟩
         case measure=>simp [intOf];omega
       | false =>
         rw [hv] at cV;rw [hv,am dr] at EA;have AP:=Hh (tV (HS2 wr BI));unfold jV at AP;generalize (bZ T k).length=lk at *;generalize (lN O k).n=on at *;go_wp2_with fail;refine AP.mono ?_;rintro e w5 ⟨g,F5,rfl,st5,lo5,b5⟩;have I5:=Hh ((I.pend b5 (by rw [EA.out];exact st5) lo5).below ((aa w5.heap.size w5).alloc (ac _) (.cells #[.pointer (some ⟨g,0,none⟩)] 72)));clear st5 lo5 b5 I OWN AP cV sS
         (try unfold ptr)
         go_wp2_with (at_builtin;refine dx (K:=KN) underlying158 Ao rfl (by omega) rfl _ _ rfl wA.heap.size _ _ rfl I5.out.old.own _ g rfl ?d1 ?d2 ?d3 ?_)
         case d1 =>
          intro j u hu
          match j,hu with
          | 0,hu=>simp [KN] at hu;subst hu;unfold ptr;go_simp
          | j+1,hu=>simp [KN] at hu
         case d2=>rw [LN.out];omega
         case d3=>have:=I5.old.aI.size;exact this
         intro v' w6 o6 g6 h6
         have NEW:=Hh (I5.push o6 g6 (by simpa using h6));clear o6 g6 h6 I5;obtain ⟨av',cv',ev',_⟩:=NEW.own.slice;generalize (ps ++ [g]).length=Lp' at ev';subst ev';go_wp2
         go_roundw
         case rel=>exact ⟨k+1,ps ++ [g],_,by omega,by go_num,NEW⟩
         case measure=>simp [intOf];omega
      ·obtain rfl:k=n:=by omega
       have RES:Hid (BrP w 0 S' (.returned (.tuple #[.slice av Lp cv,.int .i64 0])) wr):=Hh ⟨_,ps,Fs,rfl,fun _=>by rw [RL.out];exact I.out.low BW.out.size BI.out,fun e=>absurd rfl e,BI.out⟩;clear I OWN;go_wp2
       go_ret2
       exact RES
  ·have WL:=Hh (WILD fun h=>hl h.1)
   rw [hE] at RO;generalize Kh S T V O=be at *;generalize YF S T V P O=bl at *;generalize nQ S T V P=rl at *;clear WILD OS HS0 DD;generalize S.length=n at *;generalize O.length=no at *;have hne:((no:Int) != (n:Int))=true:=by simp;omega
   go_enter func87,ntmps87
   go_wp2_with fail;refine RO.mono ?_;rintro e w1 ⟨v1,rfl,_,b1⟩;have RES:=Hh (WL w1 b1);clear b1 RO WL;go_wp2
   go_ret2
   exact RES
 ·obtain ⟨e1,e2⟩:=qj (O:=O) (P:=P) hE
  rw [e1,e2];have HEE:=Hh hE;have hne:(iG S T V != 0)=true:=by simpa using hE
  clear hE OS HS0 DD e1 e2;generalize iG S T V=E at *;generalize nQ S T V P=rl at *;generalize S.length=n at *;generalize O.length=no at *
  go_enter func87,ntmps87
  go_wp2_with fail;refine RO.mono ?_;rintro e w1 ⟨v1,rfl,_,b1⟩;have RES:Hid (BrP w E [] (.returned (.tuple #[.slice none 0 0,.int .i64 E])) w1):=Hh ⟨_,[],fun _ _=>False,rfl,fun e=>absurd e HEE,fun _=>rfl,b1⟩;clear b1 RO;go_wp2
  go_ret2
  exact RES
open Pa (S2)
open Ck (KS zD)
open Ro (E5 K5)
theorem adw:(prog.info? 4).map (fun i=>(i.zero,i.size,i.bytes))=some (some (.bool false),1,1):=by kernel_rfl
theorem adF:(prog.info? 163).map (fun i=>(i.zero,i.size,i.bytes))=some (some (.slice none 0 0),1,24):=by kernel_rfl
def caS (S:bX) (T:LL) (V:List Bool) (P:List S2):bX:=if iG S T V=0 then nQ S T V P else S
variable {S:bX} {T:LL} {V:List Bool} {P:List S2}
theorem aav {O:List fO} (hl:O.length=S.length) (hc:jy O=true):Kh S T V O=iG S T V/\(iG S T V=0->YF S T V P O=nQ S T V P):=by
 by_cases h:iG S T V=0
 ·obtain ⟨a,b⟩:=Et (P:=P) h hl hc
  exact ⟨a.trans h.symm,fun _=>by rw [b];exact (aw h).symm⟩
 ·obtain ⟨a,b⟩:=qj (O:=O) (P:=P) h
  exact ⟨a,fun g=>absurd g h⟩
theorem aa5 (h:iG S T V=0):(nQ S T V P).length=S.length:=by
 have e:nQ S T V P=xS S T V (hr S T V P):=aw h;rw [e,Pa.iU]
theorem Mi {s t p:Nat} {F:Nat->Prop} {c:Cs} {vn vq:Value} {L:List Nd} {Fs:Nat->Nat->Prop} {w:World} (h:Cl w s F c t vn L p vq Fs) (hlen:2<=c.S.length/\c.S.length<=32) (hlv:c.V.length=c.S.length) (hst:∀ i:Nat,i < c.S.length->0<=(aN c.S i).2/\(aN c.S i).2 < 900000) (hg:fq w) {r:Int} (hr:0<=r/\r<=5) {vp:Value} (RP:Rd K2 w vp P) :
 Calls prog 59 #[ptr s,.int .i64 r,vp] w (kS w s F { c with S:=caS c.S (OR c.S r) c.V P } t (iG c.S (OR c.S r) c.V)):=by
 obtain ⟨g,cap,rfl,-,hm,-⟩:=h.one (i:=0) (by omega);have H:=Hh h;have HL:=Hh h.len;have HT:=Hh (DW c.S r);have OK:=Hh hlv;have GG:=Hh hg;have R:=Hh RP
 have CT:Hid (∀ wr,Below w.heap.size w wr->∀ k:Nat,k < c.S.length->Calls prog 86 #[ptr s,.int .i64 k,.int .i64 r] wr (TbC wr (bZ (OR c.S r) k))):=Hh (fun wr b k hk=>by
  have:=Kz (H.below b) hk (k:=r) ⟨hr.1,by omega⟩;rw [← Vw c.S r hk] at this
  exact this)
 have ND:Hid (∀ wr,Below w.heap.size w wr->∀ k:Nat,k < c.S.length->wr.cell? ⟨s,0,none⟩=some (.slice (some ⟨g,0,none⟩) c.S.length cap)/\wr.cell? ⟨g,k * 3,none⟩=some (ptr (iC L k).s)/\wr.cell? ⟨g,k * 3+1,none⟩=some (.bool (iC L k).live)/\wr.cell? ⟨g,k * 3+2,none⟩=some (.int .i64 (iC L k).rate)):=Hh (fun wr b k hk=>⟨(H.below b).cells.1,(H.below b).nod hk⟩);have CC:=Hh (Rj h.rt);have OL:=Hh ((AO L).trans h.len);have DV:=Hh hst;have BE:=Hh (fun S T V P=>aav (S:=S) (T:=T) (V:=V) (P:=P) (O:=Kr L));have N32:=Hh hlen;have d0:=h.cells.1;obtain ⟨pa,pc,rfl,_⟩:=RP.slice;have C0:=Hh (CI.start w (OR c.S r) L);clear h hlen hlv hst hg RP hr;generalize hT:OR c.S r=T at *;generalize hPl:P.length=pl at *;generalize hn:c.S.length=n at *;have HN:=Hh hn;have HPL:=Hh hPl;generalize hRE:iG c.S T c.V=re at *;generalize hCS:caS c.S T c.V P=S2 at *;have RE:=Hh hRE;have CS:=Hh hCS;clear hn hPl hT hRE hCS;unfold ptr at *
 go_enter func59,ntmps59
 go_wp2;clear d0
 go_loopw [22,7,8,9,10] (fun i o1 o2 o3 o4 wr=>∃ (k:Nat) (l1:List Nat) (l2:List Hd) (l3:List Bool) (l4:List Hd) (p1 p2 p3 p4:Value),k<=n/\i = .int .i64 k/\p1=o1/\p2=o2/\p3=o3/\p4=o4/\Hid (CI w T L k k k k o1 l1 o2 l2 o3 l3 o4 l4 wr)) (fun i _ _ _ _ _=>n - (intOf i).toNat)
 case atStart=>exact ⟨0,[],[],[],[],_,_,_,_,cg _,rfl,rfl,rfl,rfl,rfl,C0⟩
 case round =>
  clear C0;obtain ⟨k,l1,l2,l3,l4,p1,p2,p3,p4,hk,rfl,rfl,rfl,rfl,rfl,I⟩:=hrel;obtain ⟨a1,c1,e1,_,_⟩:=I.w1.slice;obtain ⟨a2,c2,e2,_,_⟩:=I.w2.slice;obtain ⟨a3,c3,e3,_,_⟩:=I.w3.slice;obtain ⟨a4,c4,e4,_,_⟩:=I.w4.slice;have N1:=Hh I.n1;have N2:=Hh I.n2;have N3:=Hh I.n3;have N4:=Hh I.n4;generalize l1.length=m1 at e1;generalize l2.length=m2 at e2;generalize l3.length=m3 at e3;generalize l4.length=m4 at e4;subst e1 e2 e3 e4
  by_cases hlt:k < n
  ·have HLT:=Hh hlt
   obtain ⟨d0,y0,y1,y2⟩:=ND wr I.aI k hlt;generalize hx:iC L k=x at *;have HX:=Hh hx;clear hx;have Z0:=Hh (bc wr (.cells #[.pointer (some ⟨x.s,0,none⟩),.bool x.live,.int .i64 x.rate] 74));have BN:=Hh ((aa wr.heap.size wr).alloc (ac _) (.cells #[.pointer (some ⟨x.s,0,none⟩),.bool x.live,.int .i64 x.rate] 74));go_upto_region 8 with fail;clear y0 y1 y2 d0;generalize wr.alloc (.cells #[.pointer (some ⟨x.s,0,none⟩),.bool x.live,.int .i64 x.rate] 74)=W at *;have I1:=Hh (I.below BN);generalize wr.heap.size=gx at *;have y0:=Fl.rc Z0 0;have I2:=Hh (I1.below ((aa W.heap.size W).alloc (ac _) (.cells #[.pointer (some ⟨x.s,0,none⟩)] 72)));have BX:=Hh I2.aI.size;clear I BN
   go_wp2_with (at_builtin;refine dx (K:=KN) underlying158 Ao rfl (by omega) rfl _ _ rfl w.heap.size _ _ rfl I2.out.w1 _ x.s rfl ?d1 ?d2 ?d3 ?_)
   case d1 =>
    intro j u hu
    match j,hu with
    | 0,hu=>simp [KN] at hu;subst hu;unfold ptr;go_simp
    | j+1,hu=>simp [KN] at hu
   case d2=>rw [N1.out];have:=N32.out;omega
   case d3=>exact BX
   intro v1 w1 o1 g1 h1
   have NEW1:=Hh (I2.aeZ o1 (by simpa using g1) (by rw [HX.out]));have Z1:=Hh ((((aa W.heap.size W).alloc (ac _) (.cells #[.pointer (some ⟨x.s,0,none⟩)] 72)).block gx (bm Z0)).trans Z0);have Y1:=Hh ((g1.block gx (bm Z1) (fun e=>I2.w1.apart Z1 (by decide) e.symm)).trans Z1);clear o1 g1 h1 I1 I2 BX y0 Z0 Z1;obtain ⟨av1,cv1,ev1,_⟩:=NEW1.w1.slice;generalize (l1 ++ [x.s]).length=Lp1 at ev1;subst ev1;have C2:=Hh (CT w1 NEW1.aI k hlt);unfold TbC at C2;go_upto_region 9 with fail;go_wp2_with fail;refine C2.mono ?_;rintro e w2 ⟨u2,rfl,o2,b2⟩;have I3:=Hh (NEW1.below b2);have U2:=Hh (o2.low NEW1.aI.size);have Y2:=Hh ((b2.block gx (bm Y1)).trans Y1);obtain ⟨a6,c6,e6,_,_⟩:=U2.slice;generalize (bZ T k).length=lk at e6;subst e6;have B3:=Hh ((aa w2.heap.size w2).alloc (ac _) (.cells #[.slice a6 lk c6] 126));have I4:=Hh (I3.below B3);have U3:=Hh (U2.keep B3);have Y3:=Hh ((B3.block gx (bm Y2)).trans Y2);have BX:=Hh I4.aI.size;clear o2 b2 C2 NEW1 U2 I3 Y1 Y2 B3
   go_wp2_with (at_builtin;refine dx (K:=KS) underlying125 zD rfl (by omega) rfl _ _ rfl w.heap.size _ _ rfl I4.out.w2 _ (a6,lk,c6) rfl ?d1 ?d2 ?d3 ?_)
   case d1 =>
    intro j u hu
    match j,hu with
    | 0,hu=>simp [KS] at hu;subst hu;unfold sl;go_simp
    | j+1,hu=>simp [KS] at hu
   case d2=>rw [N2.out];have:=N32.out;omega
   case d3=>exact BX
   intro v3 w3 o3 g3 h3
   have NEW2:=Hh (I4.aeD (x:=(a6,lk,c6)) o3 (by simpa using g3) U3.out);have Y4:=Hh ((g3.block gx (bm Y3) (fun e=>I4.w2.apart Y3 (by decide) e.symm)).trans Y3);clear o3 g3 h3 I4 U3 BX Y3;obtain ⟨av2,cv2,ev2,_⟩:=NEW2.w2.slice;generalize (l2 ++ [(a6,lk,c6)]).length=Lp2 at ev2;subst ev2;go_upto_region 10 with fail;have y1:=Fl.rc Y4 1;have B5:=Hh ((aa w3.heap.size w3).alloc (ac _) (.cells #[.bool x.live] 4));have I5:=Hh (NEW2.below B5);have Y5:=Hh ((B5.block gx (bm Y4)).trans Y4);have BX:=Hh I5.aI.size;clear NEW2 Y4 B5
   go_wp2_with (at_builtin;refine dx (K:=KB) underlying35 adw rfl (by omega) rfl _ _ rfl w.heap.size _ _ rfl I5.out.w3 _ x.live rfl ?d1 ?d2 ?d3 ?_)
   case d1 =>
    intro j u hu
    match j,hu with
    | 0,hu=>simp [KB] at hu;subst hu;go_simp
    | j+1,hu=>simp [KB] at hu
   case d2=>rw [N3.out];have:=N32.out;omega
   case d3=>exact BX
   intro v5 w5 o5 g5 h5
   have NEW3:=Hh (I5.aeG o5 (by simpa using g5) (by rw [HX.out]));have Y6:=Hh ((g5.block gx (bm Y5) (fun e=>I5.w3.apart Y5 (by decide) e.symm)).trans Y5);clear o5 g5 h5 I5 BX Y5 y1;obtain ⟨av3,cv3,ev3,_⟩:=NEW3.w3.slice;generalize (l3 ++ [x.live]).length=Lp3 at ev3;subst ev3;go_upto_region 11 with fail;have y2:=Fl.rc Y6 2;have LT:=Hh (Rw.Ow.lit (K:=K2) w5 w.heap.size 162 [(0,x.rate)] NEW3.aI.size (by unfold maxLen;simp));have B7:=Hh ((aa w5.heap.size w5).alloc (ac _) (.cells #[.int .i64 0,.int .i64 x.rate] 162));generalize hg7:w5.heap.size=g7 at *;have B8:=Hh ((aa (w5.alloc (.cells #[.int .i64 0,.int .i64 x.rate] 162)).heap.size (w5.alloc (.cells #[.int .i64 0,.int .i64 x.rate] 162))).alloc (ac _) (.cells #[.slice (some ⟨g7,0,none⟩) 1 1] 163));have I7:=Hh ((NEW3.below (by have:=B7.out;rw [← hg7] at this;exact this)).below B8.out);have U8:=Hh (LT.keep B8);have BX:=Hh I7.aI.size;clear NEW3 Y6 LT B7 B8
   go_wp2_with (at_builtin;refine dx (K:=KS) underlying159 adF rfl (by omega) rfl _ _ rfl w.heap.size _ _ rfl I7.out.w4 _ (some ⟨g7,0,none⟩,1,1) rfl ?d1 ?d2 ?d3 ?_)
   case d1 =>
    intro j u hu
    match j,hu with
    | 0,hu=>simp [KS] at hu;subst hu;unfold sl;go_simp
    | j+1,hu=>simp [KS] at hu
   case d2=>rw [N4.out];have:=N32.out;omega
   case d3=>exact BX
   intro v7 w7 o7 g7' h7
   have NEW4:=Hh (I7.aea (x:=(some ⟨g7,0,none⟩,1,1)) o7 (by simpa using g7') (by rw [HX.out];exact U8.out));clear o7 g7' h7 I7 BX y2 U8;obtain ⟨av4,cv4,ev4,_⟩:=NEW4.w4.slice;generalize List.length _=Lp4 at ev4;subst ev4;have n32:=N32.out.2;go_wp2
   go_roundw
   case rel=>exact ⟨k+1,_,_,_,_,_,_,_,_,by have:=HLT.out;omega,by go_num,rfl,rfl,rfl,rfl,NEW4⟩
   case measure=>have:=HLT;simp [intOf];omega
  ·obtain rfl:k=n:=by omega
   have CR:=Hh (Hg (w:=wr) (S:=c.S) (T:=T) (V:=c.V) (P:=P) (O:=Kr L) (CI.stl (by rw [HN.out];exact I.out) H.out) (CI.tab I.out (by rw [HT.out])) (CI.liv (by rw [HN.out];exact I.out) H.out (by rw [OK.out,HN.out])) (R.out.below I.out.aI) (CI.osl (by rw [HL.out];exact I.out)) (GG.out.below I.out.aI) (by rw [HN.out];exact DV.out));obtain ⟨q1,q2⟩:=BE c.S T c.V P (by rw [HN.out];exact OL.out) CC.out;rw [q1,RE.out] at CR;have Q2:=Hh q2;have BW:=Hh I.aI;have HW:=Hh (H.below I.aI);have LOW:=Hh H.low;clear q1 q2 I N1 N2 N3 N4 CT ND DV BE R;unfold BrP at CR
   by_cases hE:re=0
   ·have HS:Hid (S2=nQ c.S T c.V P):=Hh (by rw [← CS.out];exact aw (RE.out.trans hE))
    have HR:Hid (S2.length=k):=Hh (by rw [HS.out,aa5 (RE.out.trans hE),HN.out]);rw [Q2.out (RE.out.trans hE),← HS.out] at CR;subst hE;clear Q2 HS;go_wp2_with fail;refine CR.mono ?_;rintro e w2 ⟨v,ps,Gs,rfl,hpj,_,b2⟩;have PJ2:=Hh (hpj trivial);have H2:=Hh (HW.below b2);have P0:Hid (PL w2 g cap k L ps 0 w2):=Hh ⟨by rw [Qh];exact H2.out.no,ay.refl _ _⟩;have D0:=Hh H2.cells.1;have NS:Hid (s≠g):=Hh (fun e=>H2.vs.1 (by rw [e];rfl));have PLN:Hid (ps.length=k):=Hh (by rw [PJ2.out.len,HR.out]);obtain ⟨gb,cb,ev,_,_,_,_,_,hA⟩:=PJ2.own.form (by have:=PLN.out;have:=N32.out;omega);rw [PLN.out] at ev
    have AT:Hid (∀ i,i < k->w2.cell? ⟨gb,i,none⟩=some (.pointer (some ⟨ps.getD i 0,0,none⟩))):=Hh (fun i hi=>by
     have:=Pa.TL hA (i:=i) (by rw [PLN.out];exact hi);rw [cQ] at this
     exact this)
    have NB:Hid (gb≠g):=Hh (fun e=>by
     obtain ⟨_,q⟩:=H2.no
     rcases q with ⟨q,_⟩ | ⟨b,cap',cur,q,_,hh,_⟩
     ·cases q
     ·injection q with q1 _ _
      injection q1 with q1;injection q1 with q1 _ _
      exact PJ2.own.apart hh (by decide) (by rw [ev,e,q1];rfl))
    have FIN:Hid (∀ w',PL w2 g cap k L ps k w'->kS w s F { c with S:=S2 } t 0 (.returned (.int .i64 0)) w'):=Hh (fun w' pp=>by
     have q:=Cl.carry HW (g:=g) (cap:=cap) (by rw [HN.out]) PJ2.out (by rw [HR.out,HN.out]) (by rw [HN.out];exact pp)
     exact (show kS wr s F { c with S:=S2 } t 0 (.returned (.int .i64 0)) w' from ⟨rfl,⟨_,_,_,_,_,q.1⟩,q.2⟩).pre BW LOW)
    subst ev;clear hpj b2 hA CR;obtain ⟨wo,hwo⟩:∃ x,x=wr:=⟨_,rfl⟩;subst hwo;go_wp2
    go_loopw [63] (fun i wr3=>∃ j:Nat,j<=k/\i = .int .i64 j/\Hid (PL w2 g cap k L ps j wr3)) (fun i _=>k - (intOf i).toNat)
    case atStart=>exact ⟨0,cg _,rfl,P0⟩
    case round =>
     clear P0;obtain ⟨j,hj,rfl,PP⟩:=hrel
     by_cases hlj:j < k
     ·have y0:=PP.only.cell (AT j hlj) NB
      have y1:=PP.only.cell D0 NS;have hpl:(rO L ps j).length=k:=by rw [eX];exact HL.out
      have PO:=PP.own;obtain ⟨g',cap',e',_,_,_,_,fz,hA⟩:=PO.form (by omega);injection e' with e1 _ e3;injection e1 with e1;injection e1 with e1 _ _;subst e1 e3;have y2:=(atD hA (i:=j) (by omega)).1;have f2:=fz (j * 3);rw [cQ] at y2;unfold ptr at y2;have P1:=Hh (PP.step HL hlj);unfold ptr at P1;have HLJ:=Hh hlj;clear PP hA fz PO hpl;generalize ps.getD j 0=nj at *;generalize (iC (rO L ps j) j).s=oj at *;have n32:=N32.out.2;go_wp2
      go_roundw
      case rel=>exact ⟨j+1,by have:=HLJ.out;omega,by go_num,P1⟩
      case measure=>have:=HLJ;simp [intOf];omega
     ·obtain rfl:j=k:=by omega
      have E:=Hh (FIN wr PP);clear FIN PP;go_wp2
      go_ret
      exact E
   ·have HS:Hid (S2=c.S):=Hh (by rw [← CS.out];exact am (fun e=>hE (RE.out.symm.trans e)))
    clear Q2;go_wp2_with fail;refine CR.mono ?_;rintro e w2 ⟨v,ps,Gs,rfl,_,hv,b2⟩;obtain rfl:=hv hE
    have E:Hid (kS w s F { c with S:=S2 } t re (.returned (.int .i64 re)) w2):=Hh (by
     rw [HS.out]
     exact (jc HW b2 re).pre BW LOW)
    clear b2 hv CR;obtain ⟨wo,hwo⟩:∃ x,x=wr:=⟨_,rfl⟩;subst hwo;go_wp2
    go_loopw [63] (fun i wr3=>i = .int .i64 0/\w2=wr3) (fun _ _=>0)
    case atStart=>exact ⟨rfl,rfl⟩
    case round =>
     obtain ⟨rfl,rfl⟩:=hrel;go_wp2
     go_ret
     exact E
end Cu
namespace Wt
open Fl (aC aM)
attribute [local irreducible] Sd.bA wpQuiet
def hZ (r z:Int):Int:=if r=2\/r=3 then 0 else z
def wZ (r z:Int):Int:=if r=2\/r=3 then z+1 else z
variable {w w':World} {s t r:Nat} {r0 z0 r1 z1 n la:Int}
theorem aez (h:eY w s r0 z0 r1 z1) (hz:0<=z0/\z0<=1000000):Calls prog 83 #[.pointer (some ⟨s,0,none⟩)] w fun e w'=>e = .returned (.tuple #[])/\eY w' s r0 (wZ r0 z0) r1 z1/\ay (fun b=>b=s) w w':=by
 obtain ⟨c0,c1,f0,f1⟩:=yH h;have R:=Hh h;clear h
 by_cases h2:r0=2
 ·subst h2
  have wr:IntKind.i64.wrap (z0+1)=z0+1:=cG _ (by omega);have F:Hid (eY (w.setCell ⟨s,1,none⟩ (.int .i64 (z0+1))) s 2 (wZ 2 z0) r1 z1/\ay (fun b=>b=s) w (w.setCell ⟨s,1,none⟩ (.int .i64 (z0+1)))):=Hh ⟨R.set1 _,aT s 1 _ _⟩;clear R hz
  go_enter func83,ntmps83
  go_wp2
  first | go_end0 | refine bp (results_none rfl _ _ _) rfl ?_
  exact ⟨rfl,F⟩
 ·by_cases h3:r0=3
  ·subst h3
   clear h2;have wr:IntKind.i64.wrap (z0+1)=z0+1:=cG _ (by omega);have F:Hid (eY (w.setCell ⟨s,1,none⟩ (.int .i64 (z0+1))) s 3 (wZ 3 z0) r1 z1/\ay (fun b=>b=s) w (w.setCell ⟨s,1,none⟩ (.int .i64 (z0+1)))):=Hh ⟨R.set1 _,aT s 1 _ _⟩;clear R hz
   go_enter func83,ntmps83
   go_wp2
   first | go_end0 | refine bp (results_none rfl _ _ _) rfl ?_
   exact ⟨rfl,F⟩
  ·have e1:wZ r0 z0=z0:=am (by omega)
   have F:Hid (eY w s r0 (wZ r0 z0) r1 z1/\ay (fun b=>b=s) w w):=Hh ⟨by rw [e1];exact R.out,ay.refl _ _⟩;have q2:=cx.2 h2;have q3:=cx.2 h3;clear R h2 h3 e1
   go_enter func83,ntmps83
   go_wp2
   first | go_end0 | refine bp (results_none rfl _ _ _) rfl ?_
   exact ⟨rfl,F⟩
theorem aeH (h:eY w s r0 z0 r1 z1) (hz:0<=z1/\z1<=1000000):Calls prog 83 #[.pointer (some ⟨s,2,none⟩)] w fun e w'=>e = .returned (.tuple #[])/\eY w' s r0 z0 r1 (wZ r1 z1)/\ay (fun b=>b=s) w w':=by
 have c0:=Fl.rc h 2;have c1:=Fl.rc h 3;have f0:=aj h 2;have f1:=aj h 3;have R:=Hh h;clear h
 by_cases h2:r1=2
 ·subst h2
  have wr:IntKind.i64.wrap (z1+1)=z1+1:=cG _ (by omega);have F:Hid (eY (w.setCell ⟨s,3,none⟩ (.int .i64 (z1+1))) s r0 z0 2 (wZ 2 z1)/\ay (fun b=>b=s) w (w.setCell ⟨s,3,none⟩ (.int .i64 (z1+1)))):=Hh ⟨R.qJ _,aT s 3 _ _⟩;clear R hz
  go_enter func83,ntmps83
  go_wp2
  first | go_end0 | refine bp (results_none rfl _ _ _) rfl ?_
  exact ⟨rfl,F⟩
 ·by_cases h3:r1=3
  ·subst h3
   clear h2;have wr:IntKind.i64.wrap (z1+1)=z1+1:=cG _ (by omega);have F:Hid (eY (w.setCell ⟨s,3,none⟩ (.int .i64 (z1+1))) s r0 z0 3 (wZ 3 z1)/\ay (fun b=>b=s) w (w.setCell ⟨s,3,none⟩ (.int .i64 (z1+1)))):=Hh ⟨R.qJ _,aT s 3 _ _⟩;clear R hz
   go_enter func83,ntmps83
   go_wp2
   first | go_end0 | refine bp (results_none rfl _ _ _) rfl ?_
   exact ⟨rfl,F⟩
  ·have e1:wZ r1 z1=z1:=am (by omega)
   have F:Hid (eY w s r0 z0 r1 (wZ r1 z1)/\ay (fun b=>b=s) w w):=Hh ⟨by rw [e1];exact R.out,ay.refl _ _⟩;have q2:=cx.2 h2;have q3:=cx.2 h3;clear R h2 h3 e1
   go_enter func83,ntmps83
   go_wp2
   first | go_end0 | refine bp (results_none rfl _ _ _) rfl ?_
   exact ⟨rfl,F⟩
theorem Il (h:eY w s r0 z0 r1 z1):Calls prog 84 #[.pointer (some ⟨s,0,none⟩)] w fun e w'=>e = .returned (.tuple #[])/\eY w' s (tH r0) (hZ r0 z0) r1 z1/\ay (fun b=>b=s) w w':=by
 obtain ⟨c0,c1,f0,f1⟩:=yH h;have R:=Hh h;clear h
 by_cases h2:r0=2
 ·subst h2
  have F:Hid (eY (w.setCell ⟨s,1,none⟩ (.int .i64 0)) s (tH 2) (hZ 2 z0) r1 z1/\ay (fun b=>b=s) w (w.setCell ⟨s,1,none⟩ (.int .i64 0))):=Hh ⟨R.set1 _,aT s 1 _ _⟩;clear R
  go_enter func84,ntmps84
  go_wp2
  first | go_end0 | refine bp (results_none rfl _ _ _) rfl ?_
  exact ⟨rfl,F⟩
 ·by_cases h3:r0=3
  ·subst h3
   clear h2;have F:Hid (eY ((w.setCell ⟨s,0,none⟩ (.int .i64 2)).setCell ⟨s,1,none⟩ (.int .i64 0)) s (tH 3) (hZ 3 z0) r1 z1/\ay (fun b=>b=s) w ((w.setCell ⟨s,0,none⟩ (.int .i64 2)).setCell ⟨s,1,none⟩ (.int .i64 0))):=Hh ⟨(R.set0 _).set1 _,(aT s 0 _ _).trans (aT s 1 _ _) (fun _ _ q=>q)⟩;clear R
   go_enter func84,ntmps84
   go_wp2
   first | go_end0 | refine bp (results_none rfl _ _ _) rfl ?_
   exact ⟨rfl,F⟩
  ·have e1:hZ r0 z0=z0:=am (by omega)
   have e2:tH r0=r0:=am h3;have F:Hid (eY w s (tH r0) (hZ r0 z0) r1 z1/\ay (fun b=>b=s) w w):=Hh ⟨by rw [e1,e2];exact R.out,ay.refl _ _⟩;have q2:=cx.2 h2;have q3:=cx.2 h3;clear R h2 h3 e1 e2
   go_enter func84,ntmps84
   go_wp2
   first | go_end0 | refine bp (results_none rfl _ _ _) rfl ?_
   exact ⟨rfl,F⟩
theorem JO (h:eY w s r0 z0 r1 z1):Calls prog 84 #[.pointer (some ⟨s,2,none⟩)] w fun e w'=>e = .returned (.tuple #[])/\eY w' s r0 z0 (tH r1) (hZ r1 z1)/\ay (fun b=>b=s) w w':=by
 have c0:=Fl.rc h 2;have c1:=Fl.rc h 3;have f0:=aj h 2;have f1:=aj h 3;have R:=Hh h;clear h
 by_cases h2:r1=2
 ·subst h2
  have F:Hid (eY (w.setCell ⟨s,3,none⟩ (.int .i64 0)) s r0 z0 (tH 2) (hZ 2 z1)/\ay (fun b=>b=s) w (w.setCell ⟨s,3,none⟩ (.int .i64 0))):=Hh ⟨R.qJ _,aT s 3 _ _⟩;clear R
  go_enter func84,ntmps84
  go_wp2
  first | go_end0 | refine bp (results_none rfl _ _ _) rfl ?_
  exact ⟨rfl,F⟩
 ·by_cases h3:r1=3
  ·subst h3
   clear h2;have F:Hid (eY ((w.setCell ⟨s,2,none⟩ (.int .i64 2)).setCell ⟨s,3,none⟩ (.int .i64 0)) s r0 z0 (tH 3) (hZ 3 z1)/\ay (fun b=>b=s) w ((w.setCell ⟨s,2,none⟩ (.int .i64 2)).setCell ⟨s,3,none⟩ (.int .i64 0))):=Hh ⟨(R.set2 _).qJ _,(aT s 2 _ _).trans (aT s 3 _ _) (fun _ _ q=>q)⟩;clear R
   go_enter func84,ntmps84
   go_wp2
   first | go_end0 | refine bp (results_none rfl _ _ _) rfl ?_
   exact ⟨rfl,F⟩
  ·have e1:hZ r1 z1=z1:=am (by omega)
   have e2:tH r1=r1:=am h3;have F:Hid (eY w s r0 z0 (tH r1) (hZ r1 z1)/\ay (fun b=>b=s) w w):=Hh ⟨by rw [e1,e2];exact R.out,ay.refl _ _⟩;have q2:=cx.2 h2;have q3:=cx.2 h3;clear R h2 h3 e1 e2
   go_enter func84,ntmps84
   go_wp2
   first | go_end0 | refine bp (results_none rfl _ _ _) rfl ?_
   exact ⟨rfl,F⟩
theorem adC (a:A) (z0 z1:Int) (t:Nat) (v:Vm a z0 z1 t):(a.r0=1->opn a=0)/\(a.r0≠1->a.r1=1->opn a=1)/\(a.r0≠1->a.r1≠1->(du a.r0 z0 0=true->opn a=0)/\(du a.r0 z0 0=false->(du a.r1 z1 1=true->opn a=1)/\(du a.r1 z1 1=false->opn a = -1))):=by
 have e0:=v.e0;have e1:=v.e1;have D0:du a.r0 z0 0=true↔d0 a:=by
  unfold du d0;simp only [Bool.or_eq_true,ce,cL]
  by_cases h2:a.r0=2
  ·rw [e0 (.inl h2)];omega
  ·by_cases h3:a.r0=3
   ·rw [e0 (.inr h3)];omega
   ·omega
 have D1:du a.r1 z1 1=true↔d1 a:=by
  unfold du d1;simp only [Bool.or_eq_true,ce,cL]
  by_cases h2:a.r1=2
  ·rw [e1 (.inl h2)];omega
  ·by_cases h3:a.r1=3
   ·rw [e1 (.inr h3)];omega
   ·omega
 rcases Ta a with ⟨e,g,_⟩ | ⟨e,g0,g,_⟩ | ⟨e,g0,g1,g2,g3,_⟩
 ·refine ⟨fun _=>e,fun n0 y=>?_,fun n0 n1=>⟨fun _=>e,fun y=>?_⟩⟩
  ·rcases g with g | ⟨_,g,_⟩
   ·exact absurd g n0
   ·exact absurd y g
  ·rcases g with g | ⟨_,_,g⟩
   ·exact absurd g n0
   ·rw [D0.2 g] at y;exact Bool.noConfusion y
 ·refine ⟨fun y=>absurd y g0,fun _ _=>e,fun _ n1=>⟨fun y=>?_,fun _=>⟨fun _=>e,fun y=>?_⟩⟩⟩
  ·rcases g with g | ⟨_,g,_⟩
   ·exact absurd g n1
   ·exact absurd (D0.1 y) g
  ·rcases g with g | ⟨_,_,g⟩
   ·exact absurd g n1
   ·rw [D1.2 g] at y;exact Bool.noConfusion y
 ·refine ⟨fun y=>absurd y g0,fun _ y=>absurd y g1,fun _ _=>⟨fun y=>absurd (D0.1 y) g2,fun _=>⟨fun y=>absurd (D1.1 y) g3,fun _=>e⟩⟩⟩
variable {a b:A}
theorem Mj (P:Pr w s a t):Calls prog 82 #[.pointer (some ⟨s,0,none⟩)] w fun e w'=>e = .returned (.int .i64 (opn a))/\Below w.heap.size w w':=by
 obtain ⟨z0,z1,hr,hv⟩:=P;have O:=Hh (adC a z0 z1 t hv);obtain ⟨c0,c1,c2,c3⟩:=AB hr;have R:=Hh hr;clear hr hv;generalize opn a=o at *;generalize a.r0=x0 at *;generalize a.r1=x1 at *;have i0:∀ W:World,(Instr.index 105 (.agg #[.int .i64 x0,.int .i64 z0,.int .i64 x1,.int .i64 z1]) (.int .i64 0)).run prog W = .ok (.agg #[.int .i64 x0,.int .i64 z0]) W:=fun W=>rfl;have i1:∀ W:World,(Instr.index 105 (.agg #[.int .i64 x0,.int .i64 z0,.int .i64 x1,.int .i64 z1]) (.int .i64 1)).run prog W = .ok (.agg #[.int .i64 x1,.int .i64 z1]) W:=fun W=>rfl
 go_enter func82,ntmps82
 go_wp2
 go_loopw [11] (fun i wr=>∃ k:Nat,k<=2/\i = .int .i64 k/\Hid (Below w.heap.size w wr)/\Hid (1<=k->x0≠1)/\Hid (2<=k->x1≠1)) (fun i _=>2 - (intOf i).toNat)
 case atStart=>exact ⟨0,by omega,rfl,Hh (aa _ _),Hh (fun h=>by omega),Hh (fun h=>by omega)⟩
 case round =>
  obtain ⟨k,hk,rfl,BB,N0,N1⟩:=hrel
  rcases (by omega:k=0\/k=1\/k=2) with rfl | rfl | h2
  ·have B1:Hid (Below w.heap.size w (wr.alloc (.cells #[.int .i64 x0,.int .i64 z0] 104))):=Hh (BB.alloc BB.size _)
   by_cases h:x0=1
   ·have E:=Hh (O.out.1 h)
    clear O N0 N1 c0 c1 c2 c3;subst h;go_wp2
    go_ret
    exact ⟨c8 (fun z=>Ending.returned (.int .i64 z)) E.symm,B1⟩
   ·have q:=cx.2 h
    have N:=Hh (fun _:1<=1=>h);clear N0 c0 c1 c2 c3 h;go_wp2
    go_roundw
    case rel=>exact ⟨1,by omega,rfl,B1,N,Hh (fun h=>by omega)⟩
    case measure=>simp [intOf]
  ·have B1:Hid (Below w.heap.size w (wr.alloc (.cells #[.int .i64 x1,.int .i64 z1] 104))):=Hh (BB.alloc BB.size _)
   by_cases h:x1=1
   ·have E:=Hh (O.out.2.1 (N0 (by omega)) h)
    clear O N0 N1 c0 c1 c2 c3;subst h;go_wp2
    go_ret
    exact ⟨c8 (fun z=>Ending.returned (.int .i64 z)) E.symm,B1⟩
   ·have q:=cx.2 h
    have N:=Hh (fun _:2<=2=>h);have N':=Hh (fun _:1<=2=>N0 (by omega));clear N0 c0 c1 c2 c3 h;go_wp2
    go_roundw
    case rel=>exact ⟨2,by omega,rfl,B1,N',N⟩
    case measure=>simp [intOf]
  ·have O2:=Hh (O.out.2.2 (N0 (by omega)) (N1.out (by omega)))
   have R1:=Hh (R.below BB);obtain ⟨c0,c1,c2,c3⟩:=AB R1;have hk2:¬ (k:Int) < 2:=by omega
   clear O N0 N1 R R1 h2 hk;go_upto_region 7 with fail;clear hk2;generalize (k:Int)=k2 at *;go_wp2
   go_loopw [24] (fun i wr=>∃ k:Nat,k<=2/\i = .int .i64 k/\Hid (Below w.heap.size w wr)/\Hid (1<=k->du x0 z0 0=false)/\Hid (2<=k->du x1 z1 1=false)) (fun i _=>2 - (intOf i).toNat)
   case atStart=>exact ⟨0,by omega,rfl,BB,Hh (fun h=>by omega),Hh (fun h=>by omega)⟩
   case round =>
    clear BB c0 c1 c2 c3;obtain ⟨k,hk,rfl,BB,N0,N1⟩:=hrel
    rcases (by omega:k=0\/k=1\/k=2) with rfl | rfl | rfl
    ·have B1:Hid (Below w.heap.size w (wr.alloc (.cells #[.int .i64 x0,.int .i64 z0] 104))):=Hh (BB.alloc BB.size _)
     have D:=Hh (NJ (wr.alloc (.cells #[.int .i64 x0,.int .i64 z0] 104)) x0 z0 0 (by omega));clear N0 N1;generalize hd:du x0 z0 0=d at *;have HD:=Hh hd;clear hd;go_wp2_with fail;refine D.mono ?_;rintro e w2 ⟨rfl,b2⟩;have B2:=aW B1 b2;clear b2 D B1 BB
     cases d with
     | true =>
       have E:=Hh (O2.out.1 rfl);clear O2 HD;go_wp2
       go_ret
       exact ⟨c8 (fun z=>Ending.returned (.int .i64 z)) E.symm,B2⟩
     | false =>
       go_wp2
       go_roundw
       case rel=>exact ⟨1,by omega,rfl,B2,Hh (fun _=>trivial),Hh (fun h=>by omega)⟩
       case measure=>simp [intOf]
    ·have B1:Hid (Below w.heap.size w (wr.alloc (.cells #[.int .i64 x1,.int .i64 z1] 104))):=Hh (BB.alloc BB.size _)
     have D:=Hh (NJ (wr.alloc (.cells #[.int .i64 x1,.int .i64 z1] 104)) x1 z1 1 (by omega));have O3:=Hh (O2.out.2 (N0 (by omega)));have N':=Hh (fun _:1<=2=>N0 (by omega));clear N0 N1 O2;generalize hd:du x1 z1 1=d at *;have HD:=Hh hd;clear hd;go_wp2_with fail;refine D.mono ?_;rintro e w2 ⟨rfl,b2⟩;have B2:=aW B1 b2;clear b2 D B1 BB
     cases d with
     | true =>
       have E:=Hh (O3.out.1 rfl);clear O3 HD N';go_wp2
       go_ret
       exact ⟨c8 (fun z=>Ending.returned (.int .i64 z)) E.symm,B2⟩
     | false =>
       clear O3;go_wp2
       go_roundw
       case rel=>exact ⟨2,by omega,rfl,B2,N',Hh (fun _=>trivial)⟩
       case measure=>simp [intOf]
    ·have E:=Hh ((O2.out.2 (N0 (by omega))).2 (N1.out (by omega)))
     clear O2 N0 N1;go_wp2
     go_ret
     exact ⟨c8 (fun z=>Ending.returned (.int .i64 z)) E.symm,BB⟩
def eH (w:World) (r:Nat) (a:A) (t:Nat) (e:Ending) (w':World):Prop:=e = .returned (.int .i64 (opn a))/\Pf w' r (jv a) (t+1)/\ay (fun b=>b=r) w w'
def st (a:A):Nat->A
 | 0=>a
 | 1=>t1 a
 | _=>tk a
def SH (b:A):Prop:=(b.r0=2/\4<=b.q0)\/(b.r0=3/\8<=b.q0)
def QO (b:A):Prop:=(b.r1=2/\4<=b.q1)\/(b.r1=3/\9<=b.q1)
instance (b:A):Decidable (SH b):=by unfold SH;infer_instance
instance (b:A):Decidable (QO b):=by unfold QO;infer_instance
theorem abG (h:¬ (b.r0≠1/\b.r1≠1/\SH b)):t1 b=b:=am h
theorem acO (h:b.r0≠1/\b.r1≠1/\SH b):t1 b = { b with r0:=1 }:=aw h
theorem abC (h:¬ (b.r0≠1/\b.r1≠1/\QO b)):t2 b=b:=am h
theorem acJ (h:b.r0≠1/\b.r1≠1/\QO b):t2 b = { b with r1:=1 }:=aw h
def Jd (w:World) (r:Nat) (b:A) (n la:Int) (t:Nat):Prop:=∃ s0 s1,fJ w r b.r0 b.r1 s0 s1 n la/\Vf b s0 s1 n la t
theorem Jd.below (h:Jd w r b n la t) (bb:Below w.heap.size w w'):Jd w' r b n la t:=by
 obtain ⟨s0,s1,hr,hv⟩:=h;exact ⟨s0,s1,hr.only (ay.of_below (G:=fun _=>False) bb) (fun g=>g),hv⟩
theorem Jd.ad4 (h:Jd w r b n la t):Jd ((w.setCell ⟨r,0,none⟩ (.int .i64 1)).setCell ⟨r,2,none⟩ (.int .i64 n)) r { b with r0:=1 } n la t:=by
 obtain ⟨s0,s1,hr,hv⟩:=h;exact ⟨n,s1,(hr.set0 1).set2 n,⟨⟨by have:=hv.bl;omega,gc _⟩,hv.b1,hv.bl,hv.bn,(fun g=>absurd g (by show ¬ ((1:Int)=2\/(1:Int)=3);decide)),hv.e1⟩⟩
theorem Jd.take1 (h:Jd w r b n la t):Jd ((w.setCell ⟨r,1,none⟩ (.int .i64 1)).setCell ⟨r,3,none⟩ (.int .i64 n)) r { b with r1:=1 } n la t:=by
 obtain ⟨s0,s1,hr,hv⟩:=h;exact ⟨s0,n,(hr.set1 1).qJ n,⟨hv.b0,⟨by have:=hv.bl;omega,gc _⟩,hv.bl,hv.bn,hv.e0,(fun g=>absurd g (by show ¬ ((1:Int)=2\/(1:Int)=3);decide))⟩⟩
section
variable {T:A} {s0 s1 n la:Int} {t:Nat} (hv:Vf T s0 s1 n la t)
include hv
theorem Vf.none:Vf ⟨T.r0,T.q0+1,T.r1,T.q1+1⟩ s0 s1 (n+1) la (t+1):=by
 have b0:=hv.b0;have b1:=hv.b1;have bl:=hv.bl;have bn:=hv.bn;exact ⟨by omega,by omega,by omega,by omega,fun g=>by have:=hv.e0 g;show T.q0+1=_;omega,fun g=>by have:=hv.e1 g;show T.q1+1=_;omega⟩
theorem Vf.abv (x:Int):Vf ⟨1,x,T.r1,0⟩ s0 s1 (n+1) (n+1) (t+1):=by
 have b0:=hv.b0;have b1:=hv.b1;have bl:=hv.bl;have bn:=hv.bn;exact ⟨by omega,by omega,by omega,by omega,(fun g=>absurd g (by show ¬ ((1:Int)=2\/(1:Int)=3);decide)),fun g=>by show (0:Int)=n+1 - (if s1 < n+1 then n+1 else s1);rw [aw (by omega)];omega⟩
theorem Vf.abn (x:Int):Vf ⟨T.r0,0,1,x⟩ s0 s1 (n+1) (n+1) (t+1):=by
 have b0:=hv.b0;have b1:=hv.b1;have bl:=hv.bl;have bn:=hv.bn;exact ⟨by omega,by omega,by omega,by omega,fun g=>by show (0:Int)=n+1 - (if s0 < n+1 then n+1 else s0);rw [aw (by omega)];omega,(fun g=>absurd g (by show ¬ ((1:Int)=2\/(1:Int)=3);decide))⟩
theorem Vf.Il (x:Int):Vf ⟨1,x,2,0⟩ s0 (n+1) (n+1) (n+1) (t+1):=by
 have b0:=hv.b0;have bl:=hv.bl;have bn:=hv.bn;exact ⟨by omega,by omega,by omega,by omega,(fun g=>absurd g (by show ¬ ((1:Int)=2\/(1:Int)=3);decide)),fun g=>by show (0:Int)=n+1 - (if n+1 < n+1 then n+1 else n+1);rw [am (by omega)];omega⟩
theorem Vf.JO (x:Int):Vf ⟨2,0,1,x⟩ (n+1) s1 (n+1) (n+1) (t+1):=by
 have b1:=hv.b1;have bl:=hv.bl;have bn:=hv.bn;exact ⟨by omega,by omega,by omega,by omega,fun g=>by show (0:Int)=n+1 - (if n+1 < n+1 then n+1 else n+1);rw [am (by omega)];omega,(fun g=>absurd g (by show ¬ ((1:Int)=2\/(1:Int)=3);decide))⟩
end
structure aec (w:World) (r:Nat) (a:A) (t:Nat) (s0 s1 n la:Int):Prop where
 none:(tk a).r0≠1->(tk a).r1≠1->∀ w',fJ w' r (tk a).r0 (tk a).r1 s0 s1 (n+1) la->ay (fun b=>b=r) w w'->eH w r a t (.returned (.int .i64 (-1))) w'
 abv:(tk a).r0=1->(tk a).r1≠3->∀ w',fJ w' r (tk a).r0 (tk a).r1 s0 s1 (n+1) (n+1)->ay (fun b=>b=r) w w'->eH w r a t (.returned (.int .i64 0)) w'
 Il:(tk a).r0=1->(tk a).r1=3->∀ w',fJ w' r (tk a).r0 2 s0 (n+1) (n+1) (n+1)->ay (fun b=>b=r) w w'->eH w r a t (.returned (.int .i64 0)) w'
 abn:(tk a).r0≠1->(tk a).r1=1->(tk a).r0≠3->∀ w',fJ w' r (tk a).r0 (tk a).r1 s0 s1 (n+1) (n+1)->ay (fun b=>b=r) w w'->eH w r a t (.returned (.int .i64 1)) w'
 JO:(tk a).r0≠1->(tk a).r1=1->(tk a).r0=3->∀ w',fJ w' r 2 (tk a).r1 (n+1) s1 (n+1) (n+1)->ay (fun b=>b=r) w w'->eH w r a t (.returned (.int .i64 1)) w'
variable {s0 s1 r z q:Int}
theorem ab6 {r:Nat} (hv:Vf (tk a) s0 s1 n la t):aec w r a t s0 s1 n la:=by
 have eo:opn a=op (tk a):=rfl;have er:jv a=hd (tk a):=rfl;refine ⟨fun h0 h1 w' hr oo=>?_,fun h0 h3 w' hr oo=>?_,fun h0 h3 w' hr oo=>?_,fun h0 h1 h3 w' hr oo=>?_,fun h0 h1 h3 w' hr oo=>?_⟩
 ·have e1:op (tk a) = -1:=by unfold op;rw [am h0,am h1]
  have e2:hd (tk a)=⟨(tk a).r0,(tk a).q0+1,(tk a).r1,(tk a).q1+1⟩:=by unfold hd;rw [am h0,am h1]
  exact ⟨by rw [eo,e1],by rw [er,e2];exact ⟨_,_,_,_,hr,hv.none⟩,oo⟩
 ·have e1:op (tk a)=0:=aw h0
  have e2:hd (tk a)=⟨1,0,(tk a).r1,0⟩:=by unfold hd tH;rw [aw h0,am h3]
  rw [h0] at hr;exact ⟨by rw [eo,e1],by rw [er,e2];exact ⟨_,_,_,_,hr,hv.abv 0⟩,oo⟩
 ·have e1:op (tk a)=0:=aw h0
  have e2:hd (tk a)=⟨1,0,2,0⟩:=by unfold hd tH;rw [aw h0,aw h3]
  rw [h0] at hr;exact ⟨by rw [eo,e1],by rw [er,e2];exact ⟨_,_,_,_,hr,hv.Il 0⟩,oo⟩
 ·have e1:op (tk a)=1:=by unfold op;rw [am h0,aw h1]
  have e2:hd (tk a)=⟨(tk a).r0,0,1,0⟩:=by unfold hd tH;rw [am h0,aw h1,am h3]
  rw [h1] at hr;exact ⟨by rw [eo,e1],by rw [er,e2];exact ⟨_,_,_,_,hr,hv.abn 0⟩,oo⟩
 ·have e1:op (tk a)=1:=by unfold op;rw [am h0,aw h1]
  have e2:hd (tk a)=⟨2,0,1,0⟩:=by unfold hd tH;rw [am h0,aw h1,aw h3]
  rw [h1] at hr;exact ⟨by rw [eo,e1],by rw [er,e2];exact ⟨_,_,_,_,hr,hv.JO 0⟩,oo⟩
set_option maxRecDepth 100000 in
theorem Mk {r:Nat} (P:Pf w r a t) (ht:t<=90000):Calls prog 64 #[.pointer (some ⟨r,0,none⟩)] w (eH w r a t):=by
 obtain ⟨s0,s1,n,la,hr,hv⟩:=P;have A0:Hid (Jd w r (st a 0) n la t):=Hh ⟨s0,s1,hr,hv⟩;have bl:=hv.bl;have bn:=hv.bn;clear hr hv
 go_enter func64,ntmps64
 go_wp2
 go_loopw [3] (fun i wr=>∃ k:Nat,k<=2/\i = .int .i64 k/\Hid (Jd wr r (st a k) n la t)/\Hid (ay (fun b=>b=r) w wr)) (fun i _=>2 - (intOf i).toNat)
 case atStart=>exact ⟨0,by omega,rfl,A0,Hh (ay.refl _ _)⟩
 case round =>
  clear A0;obtain ⟨k,hk,rfl,M,OO⟩:=hrel
  rcases (by omega:k=0\/k=1\/k=2) with rfl | rfl | rfl
  ·have ST:Hid (st a 1=t1 (st a 0)):=Hh rfl
   generalize st a 0=b at *;obtain ⟨s0,s1,hr,hv⟩:=M.out;have c0:=Fl.rc hr 0;have c1:=Fl.rc hr 1;have CS:=Hh (ZU hr ⟨hv.b0,hv.bl,by have:=hv.bn;omega⟩);have Q:=Hh (show (b.r0=2\/b.r0=3)->b.q0=NM s0 n la from hv.e0);generalize NM s0 n la=q at *;have HD:Hid (decide (SH b)=true↔((b.r0=2/\4<=b.q0)\/(b.r0=3/\8<=b.q0))):=Hh decide_eq_true_iff;generalize hd_:decide (SH b)=d at *;have HDD:=Hh hd_;clear hd_ hr hv;go_upto_region 4 with fail
   go_cut [4] from 6 to 70 (fun v wx=>Value.bool d=v/\Hid (Below wr.heap.size wr wx))
   case first =>
    clear M OO ST HDD;generalize b.r0=x0 at *;generalize b.r1=x1 at *;generalize b.q0=y at *
    by_cases h2:x0=2
    ·have e:=Q.out (.inl h2)
     have D:=HD.out;rw [e] at D
     by_cases h4:4<=q
     ·have E:=Hh (D.2 (.inl ⟨h2,h4⟩))
      clear D e HD Q;subst h2;go_wp2_with fail;refine CS.out.mono ?_;rintro e w1 ⟨rfl,b1⟩;have B1:=Hh b1;clear b1 CS;go_wp2
      go_meet
      exact ⟨c8 Value.bool E.out,B1⟩
     ·have E:=Hh (gR.2 fun g=>by have:=D.1 g;omega)
      clear D e HD Q;subst h2;go_wp2_with fail;refine CS.out.mono ?_;rintro e w1 ⟨rfl,b1⟩;have c0:=iI b1 c0;have c1:=iI b1 c1;have B1:=Hh b1;clear b1 CS;go_wp2
      go_meet
      exact ⟨c8 Value.bool (E.out.trans (ai (by omega)).symm),B1⟩
    ·by_cases h3:x0=3
     ·have e:=Q.out (.inr h3)
      have D:=HD.out;rw [e] at D
      by_cases h4:8<=q
      ·have E:=Hh (D.2 (.inr ⟨h3,h4⟩))
       clear D e HD Q h2;subst h3;go_wp2_with fail;refine CS.out.mono ?_;rintro e w1 ⟨rfl,b1⟩;have B1:=Hh b1;clear b1 CS;go_wp2
       go_meet
       exact ⟨c8 Value.bool E.out,B1⟩
      ·have E:=Hh (gR.2 fun g=>by have:=D.1 g;omega)
       clear D e HD Q h2;subst h3;go_wp2_with fail;refine CS.out.mono ?_;rintro e w1 ⟨rfl,b1⟩;have B1:=Hh b1;clear b1 CS;go_wp2
       go_meet
       exact ⟨c8 Value.bool (E.out.trans (ai (by omega)).symm),B1⟩
     ·have E:=Hh (gR.2 fun g=>by have:=HD.out.1 g;omega)
      have q2:=cx.2 h2;have q3:=cx.2 h3;clear HD Q CS;go_wp2
      go_meet
      exact ⟨c8 Value.bool E.out,Hh (aa _ _)⟩
   case rest =>
    obtain ⟨e1,B1⟩:=hcut;subst e1;have M1:=Hh (M.out.below B1.out);have O1:=Hh (OO.out.then B1.out);clear c0 c1 CS Q M OO B1
    cases d with
    | false =>
      have SB:=Hh (ST.out.trans (abG fun g=>absurd g.2.2 (of_decide_eq_false HDD.out)));clear HD HDD ST;go_wp2
      go_roundw
      case rel=>exact ⟨1,by omega,by go_num,Hh (by rw [SB.out];exact M1.out),O1⟩
      case measure=>simp [intOf]
    | true =>
      obtain ⟨s0',s1',hr,hv⟩:=M1.out;have hne:b.r0≠1:=by have:=HD.out.1 rfl;omega
      by_cases h1:b.r1=1
      ·have SB:=Hh (ST.out.trans (abG fun g=>g.2.1 h1))
       have c0:=Fl.rc hr 0;have c1:=Fl.rc hr 1;have q1:(b.r1 != 1)=false:=by rw [h1];rfl
       have q2:=fe.2 hne;have M2:Hid (Jd wc r (st a 1) n la t):=Hh (by rw [SB.out];exact M1.out);clear HD HDD ST hr hv h1 hne M1 SB;generalize b.r0=x0 at *;generalize b.r1=x1 at *;go_wp2
       go_roundw
       case rel=>exact ⟨1,by omega,by go_num,M2,O1⟩
       case measure=>simp [intOf]
      ·have SB:=Hh (ST.out.trans (acO ⟨hne,h1,by have:=HDD.out;exact of_decide_eq_true this⟩))
       have c0:=Fl.rc hr 0;have c1:=Fl.rc hr 1;have q1:=fe.2 h1;have q2:=fe.2 hne;have FIN:Hid (∀ W:World,ay (fun b=>b=r) w W->Jd W r b n la t->Jd ((W.setCell ⟨r,0,none⟩ (.int .i64 1)).setCell ⟨r,2,none⟩ (.int .i64 n)) r (st a 1) n la t/\ay (fun b=>b=r) w ((W.setCell ⟨r,0,none⟩ (.int .i64 1)).setCell ⟨r,2,none⟩ (.int .i64 n))):=Hh (fun W oo h=>⟨by rw [SB.out];exact h.ad4,bR oo (bR (aT r 0 W _) (aT r 2 _ _))⟩);have R0:=Hh hr;clear HD HDD ST hv h1 hne SB hr;go_upto_region 6 with fail;clear c0 c1;have C0:=Fl.rc (show fJ wc.drew r b.r0 b.r1 s0' s1' n la from R0.out) 4;have Rd:Hid (fJ wc.drew r b.r0 b.r1 s0' s1' n la):=Hh R0.out;have E:=Hh (FIN.out wc.drew (O1.out.then (aa _ _).drew) (M1.out.below (aa _ _).drew));clear FIN R0 O1 M1;have c4:=Sc.aA (C:=fun W=>W.cell? ⟨r,4,none⟩=some (.int .i64 n)) (a:=⟨r,4,none⟩) (fun W h=>h);have ne:Nonempty (Sc.In (fun W=>W.cell? ⟨r,4,none⟩=some (.int .i64 n))):=⟨⟨_,C0⟩⟩;generalize b.r0=x0 at *;generalize b.r1=x1 at *;refine Sc.start (fun W=>W.cell? ⟨r,4,none⟩=some (.int .i64 n)) [(false,0),(false,1),(false,2),(false,3),(false,4),(false,5),(false,6),(false,7),(false,8),(false,9),(false,10),(false,12),(false,13),(true,11),(false,14),(true,15)] (by kernel_rfl) (by kernel_rfl) (by kernel_rfl) C0 ?_;dsimp only [Sd.aP,List.getElem?_cons_succ,List.getElem?_cons_zero]
       repeat (refine Sd.lit ?_;quiet_step (fail);refine bk ?_)
       clear c4;generalize wc.drew=W at *;refine Sd.call (by rfl) (fun K hK=>?_);have d0:=Fl.rc Rd.out 0;have g0:=aj Rd.out 0;have R1:Hid (fJ (W.setCell ⟨r,0,none⟩ (.int .i64 1)) r 1 x1 s0' s1' n la):=Hh (Rd.out.set0 1);clear Rd C0;go_simp;refine hK _ _ (Sc.Cl.of (ah R1.out 4)) ?_;clear hK K d0 g0;generalize W.setCell ⟨r,0,none⟩ (.int .i64 1)=W1 at *
       repeat (refine Sd.lit ?_;quiet_step (fail);refine bk ?_)
       refine Sd.call (by rfl) (fun K hK=>?_);have d0:=Fl.rc R1.out 2;have g0:=aj R1.out 2;have R2:=Hh (ah (R1.out.set2 n) 4);clear R1;go_simp;refine hK _ _ (Sc.Cl.of R2.out) ?_;clear hK K d0 g0 R2 ne;generalize W1.setCell ⟨r,2,none⟩ (.int .i64 n)=W2 at *;refine Sd.done ?_;go_wp2
       go_roundw
       case rel=>exact ⟨1,by omega,by go_num,Hh E.out.1,Hh E.out.2⟩
       case measure=>simp [intOf]
  ·have ST:Hid (st a 2=t2 (st a 1)):=Hh rfl
   generalize st a 1=b at *;obtain ⟨s0,s1,hr,hv⟩:=M.out;have c0:=Fl.rc hr 0;have c1:=Fl.rc hr 1;have CS:=Hh (YS hr ⟨hv.b1,hv.bl,by have:=hv.bn;omega⟩);have Q:=Hh (show (b.r1=2\/b.r1=3)->b.q1=NM s1 n la from hv.e1);generalize NM s1 n la=q at *;have HD:Hid (decide (QO b)=true↔((b.r1=2/\4<=b.q1)\/(b.r1=3/\9<=b.q1))):=Hh decide_eq_true_iff;generalize hd_:decide (QO b)=d at *;have HDD:=Hh hd_;clear hd_ hr hv;go_upto_region 4 with fail
   go_cut [4] from 6 to 70 (fun v wx=>Value.bool d=v/\Hid (Below wr.heap.size wr wx))
   case first =>
    clear M OO ST HDD;generalize b.r0=x0 at *;generalize b.r1=x1 at *;generalize b.q1=y at *
    by_cases h2:x1=2
    ·have e:=Q.out (.inl h2)
     have D:=HD.out;rw [e] at D
     by_cases h4:4<=q
     ·have E:=Hh (D.2 (.inl ⟨h2,h4⟩))
      clear D e HD Q;subst h2;go_wp2_with fail;refine CS.out.mono ?_;rintro e w1 ⟨rfl,b1⟩;have B1:=Hh b1;clear b1 CS;go_wp2
      go_meet
      exact ⟨c8 Value.bool E.out,B1⟩
     ·have E:=Hh (gR.2 fun g=>by have:=D.1 g;omega)
      clear D e HD Q;subst h2;go_wp2_with fail;refine CS.out.mono ?_;rintro e w1 ⟨rfl,b1⟩;have c0:=iI b1 c0;have c1:=iI b1 c1;have B1:=Hh b1;clear b1 CS;go_wp2
      go_meet
      exact ⟨c8 Value.bool (E.out.trans (ai (by omega)).symm),B1⟩
    ·by_cases h3:x1=3
     ·have e:=Q.out (.inr h3)
      have D:=HD.out;rw [e] at D
      by_cases h4:9<=q
      ·have E:=Hh (D.2 (.inr ⟨h3,h4⟩))
       clear D e HD Q h2;subst h3;go_wp2_with fail;refine CS.out.mono ?_;rintro e w1 ⟨rfl,b1⟩;have B1:=Hh b1;clear b1 CS;go_wp2
       go_meet
       exact ⟨c8 Value.bool E.out,B1⟩
      ·have E:=Hh (gR.2 fun g=>by have:=D.1 g;omega)
       clear D e HD Q h2;subst h3;go_wp2_with fail;refine CS.out.mono ?_;rintro e w1 ⟨rfl,b1⟩;have B1:=Hh b1;clear b1 CS;go_wp2
       go_meet
       exact ⟨c8 Value.bool (E.out.trans (ai (by omega)).symm),B1⟩
     ·have E:=Hh (gR.2 fun g=>by have:=HD.out.1 g;omega)
      have q2:=cx.2 h2;have q3:=cx.2 h3;clear HD Q CS;go_wp2
      go_meet
      exact ⟨c8 Value.bool E.out,Hh (aa _ _)⟩
   case rest =>
    obtain ⟨e1,B1⟩:=hcut;subst e1;have M1:=Hh (M.out.below B1.out);have O1:=Hh (OO.out.then B1.out);clear c0 c1 CS Q M OO B1
    cases d with
    | false =>
      have SB:=Hh (ST.out.trans (abC fun g=>absurd g.2.2 (of_decide_eq_false HDD.out)));clear HD HDD ST;go_wp2
      go_roundw
      case rel=>exact ⟨2,by omega,by go_num,Hh (by rw [SB.out];exact M1.out),O1⟩
      case measure=>simp [intOf]
    | true =>
      obtain ⟨s0',s1',hr,hv⟩:=M1.out;have hne:b.r1≠1:=by have:=HD.out.1 rfl;omega
      by_cases h1:b.r0=1
      ·have SB:=Hh (ST.out.trans (abC fun g=>g.1 h1))
       have c0:=Fl.rc hr 0;have c1:=Fl.rc hr 1;have q1:(b.r0 != 1)=false:=by rw [h1];rfl
       have q2:=fe.2 hne;have M2:Hid (Jd wc r (st a 2) n la t):=Hh (by rw [SB.out];exact M1.out);clear HD HDD ST hr hv h1 hne M1 SB;generalize b.r0=x0 at *;generalize b.r1=x1 at *;go_wp2
       go_roundw
       case rel=>exact ⟨2,by omega,by go_num,M2,O1⟩
       case measure=>simp [intOf]
      ·have SB:=Hh (ST.out.trans (acJ ⟨h1,hne,by have:=HDD.out;exact of_decide_eq_true this⟩))
       have c0:=Fl.rc hr 0;have c1:=Fl.rc hr 1;have q1:(b.r0 != 1)=true:=fe.2 h1;have q2:(b.r1 != 1)=true:=fe.2 hne;have FIN:Hid (∀ W:World,ay (fun b=>b=r) w W->Jd W r b n la t->Jd ((W.setCell ⟨r,1,none⟩ (.int .i64 1)).setCell ⟨r,3,none⟩ (.int .i64 n)) r (st a 2) n la t/\ay (fun b=>b=r) w ((W.setCell ⟨r,1,none⟩ (.int .i64 1)).setCell ⟨r,3,none⟩ (.int .i64 n))):=Hh (fun W oo h=>⟨by rw [SB.out];exact h.take1,bR oo (bR (aT r 1 W _) (aT r 3 _ _))⟩);have R0:=Hh hr;clear HD HDD ST hv h1 hne SB hr;go_upto_region 6 with fail;clear c0 c1;have C0:=Fl.rc (show fJ wc.drew r b.r0 b.r1 s0' s1' n la from R0.out) 4;have Rd:Hid (fJ wc.drew r b.r0 b.r1 s0' s1' n la):=Hh R0.out;have E:=Hh (FIN.out wc.drew (O1.out.then (aa _ _).drew) (M1.out.below (aa _ _).drew));clear FIN R0 O1 M1;have c4:=Sc.aA (C:=fun W=>W.cell? ⟨r,4,none⟩=some (.int .i64 n)) (a:=⟨r,4,none⟩) (fun W h=>h);have ne:Nonempty (Sc.In (fun W=>W.cell? ⟨r,4,none⟩=some (.int .i64 n))):=⟨⟨_,C0⟩⟩;generalize b.r0=x0 at *;generalize b.r1=x1 at *;refine Sc.start (fun W=>W.cell? ⟨r,4,none⟩=some (.int .i64 n)) [(false,0),(false,1),(false,2),(false,3),(false,4),(false,5),(false,6),(false,7),(false,8),(false,9),(false,10),(false,12),(false,13),(true,11),(false,14),(true,15)] (by kernel_rfl) (by kernel_rfl) (by kernel_rfl) C0 ?_;dsimp only [Sd.aP,List.getElem?_cons_succ,List.getElem?_cons_zero]
       repeat (refine Sd.lit ?_;quiet_step (fail);refine bk ?_)
       clear c4;generalize wc.drew=W at *;refine Sd.call (by rfl) (fun K hK=>?_);have d0:=Fl.rc Rd.out 1;have g0:=aj Rd.out 1;have R1:Hid (fJ (W.setCell ⟨r,1,none⟩ (.int .i64 1)) r x0 1 s0' s1' n la):=Hh (Rd.out.set1 1);clear Rd C0;go_simp;refine hK _ _ (Sc.Cl.of (ah R1.out 4)) ?_;clear hK K d0 g0;generalize W.setCell ⟨r,1,none⟩ (.int .i64 1)=W1 at *
       repeat (refine Sd.lit ?_;quiet_step (fail);refine bk ?_)
       refine Sd.call (by rfl) (fun K hK=>?_);have d0:=Fl.rc R1.out 3;have g0:=aj R1.out 3;have R2:=Hh (ah (R1.out.qJ n) 4);clear R1;go_simp;refine hK _ _ (Sc.Cl.of R2.out) ?_;clear hK K d0 g0 R2 ne;generalize W1.setCell ⟨r,3,none⟩ (.int .i64 n)=W2 at *;refine Sd.done ?_;go_wp2
       go_roundw
       case rel=>exact ⟨2,by omega,by go_num,Hh E.out.1,Hh E.out.2⟩
       case measure=>simp [intOf]
  ·obtain ⟨s0',s1',hr,hv⟩:=M.out
   have e2:st a 2=tk a:=rfl;rw [e2] at hr hv;have FF:Hid (aec w r a t s0' s1' n la):=Hh (ab6 hv);have R0:=Hh (hr.afw (n+1));have O0:Hid (ay (fun b=>b=r) w (wr.setCell ⟨r,4,none⟩ (.int .i64 (n+1)))):=Hh (bR OO.out (aT r 4 wr _));have c4:=Fl.rc hr 4;have g4:=aj hr 4;have wn:IntKind.i64.wrap (n+1)=n+1:=cG _ (by omega);obtain ⟨F1,F2,F3,F4,F5⟩:=FF.out;have G1:=Hh F1;have G2:=Hh F2;have G3:=Hh F3;have G4:=Hh F4;have G5:=Hh F5;clear hr hv M OO FF F1 F2 F3 F4 F5 e2;generalize (tk a).r0=x0 at *;generalize (tk a).r1=x1 at *;go_upto_region 8 with fail;clear c4 g4;generalize wr.setCell ⟨r,4,none⟩ (.int .i64 (n+1))=W0 at *;generalize n+1=m at *;go_wp2
   go_loopw [5] (fun i wr=>∃ k:Nat,k<=2/\i = .int .i64 k/\Hid (fJ wr r x0 x1 s0' s1' m la)/\Hid (ay (fun b=>b=r) w wr)/\Hid (1<=k->x0≠1)/\Hid (2<=k->x1≠1)) (fun i _=>2 - (intOf i).toNat)
   case atStart=>exact ⟨0,by omega,rfl,R0,O0,Hh (fun h=>absurd h (by decide)),Hh (fun h=>absurd h (by decide))⟩
   case round =>
    clear R0 O0;obtain ⟨k,hk,rfl,RR,O1,X0,X1⟩:=hrel
    rcases (by omega:k=0\/k=1\/k=2) with rfl | rfl | rfl
    ·clear G1 G4 G5 X0 X1
     have c0:=Fl.rc RR.out 0
     by_cases h0:x0=1
     ·have q0:(x0 != 1)=false:=by rw [h0];rfl
      by_cases h1:x1=3
      ·skip
       have E:=Hh (G3.out h0 h1);have R5:=Hh (RR.out.Zt m);have O5:Hid (ay (fun b=>b=r) w (wr.setCell ⟨r,5,none⟩ (.int .i64 m))):=Hh (bR O1.out (aT r 5 wr _));have c4:=Fl.rc RR.out 4;have c5:=Fl.rc RR.out 5;have g5:=aj RR.out 5;clear G2 G3 h0 RR O1;go_upto_region 13 with fail;clear c0 c4 c5 g5;generalize wr.setCell ⟨r,5,none⟩ (.int .i64 m)=W5 at *;have c1:=Fl.rc R5.out 1;have q1:(x1 == 3)=true:=ic.2 h1;go_upto_region 14 with fail;clear c1 q1;generalize hi0:((0:Nat):Int)=i0 at *;have HI:=Hh hi0;have w10:IntKind.i64.wrap (1 - i0)=1:=by rw [← HI.out];rfl
       clear hi0;have C0:=Fl.rc (show fJ W5.drew r x0 x1 s0' s1' m m from R5.out) 4;have Rd:Hid (fJ W5.drew r x0 x1 s0' s1' m m):=Hh R5.out;have Od:=Hh (O5.out.then (aa _ _).drew);clear R5 O5;have c4:=Sc.aA (C:=fun W=>W.cell? ⟨r,4,none⟩=some (.int .i64 m)) (a:=⟨r,4,none⟩) (fun W h=>h);have ne:Nonempty (Sc.In (fun W=>W.cell? ⟨r,4,none⟩=some (.int .i64 m))):=⟨⟨_,C0⟩⟩;refine Sc.start (fun W=>W.cell? ⟨r,4,none⟩=some (.int .i64 m)) [(false,0),(false,1),(false,2),(false,3),(false,4),(false,5),(false,6),(false,7),(false,8),(false,9),(false,10),(false,11),(false,12),(false,14),(false,15),(true,13),(false,16),(true,17)] (by kernel_rfl) (by kernel_rfl) (by kernel_rfl) C0 ?_;dsimp only [Sd.aP,List.getElem?_cons_succ,List.getElem?_cons_zero]
       repeat (refine Sd.lit ?_;quiet_step (fail);refine bk ?_)
       clear c4;generalize W5.drew=W6 at *;refine Sd.call (by rfl) (fun K hK=>?_);have d0:=Fl.rc Rd.out 1;have g0:=aj Rd.out 1;have R1:Hid (fJ (W6.setCell ⟨r,1,none⟩ (.int .i64 2)) r x0 2 s0' s1' m m):=Hh (Rd.out.set1 2);have Oe:=Hh (bR Od.out (aT r 1 W6 (.int .i64 2)));clear Rd C0 Od;go_simp;refine hK _ _ (Sc.Cl.of (ah R1.out 4)) ?_;clear hK K d0 g0;generalize W6.setCell ⟨r,1,none⟩ (.int .i64 2)=W7 at *
       repeat (refine Sd.lit ?_;quiet_step (fail);refine bk ?_)
       refine Sd.call (by rfl) (fun K hK=>?_);have d0:=Fl.rc R1.out 3;have g0:=aj R1.out 3;have R2:=Hh (R1.out.qJ m);have E2:=Hh (E.out _ R2.out (bR Oe.out (aT r 3 W7 (.int .i64 m))));clear R1 Oe E;go_simp;refine hK _ _ (Sc.Cl.of (ah R2.out 4)) ?_;clear hK K d0 g0 R2 ne;generalize W7.setCell ⟨r,3,none⟩ (.int .i64 m)=W8 at *;refine Sd.done ?_;go_wp2
       go_ret
       cases HI.out
       exact E2.out
      ·skip
       have E:=Hh (G2.out h0 h1);have R5:=Hh (RR.out.Zt m);have O5:Hid (ay (fun b=>b=r) w (wr.setCell ⟨r,5,none⟩ (.int .i64 m))):=Hh (bR O1.out (aT r 5 wr _));have c4:=Fl.rc RR.out 4;have c5:=Fl.rc RR.out 5;have g5:=aj RR.out 5;clear G2 G3 h0 RR O1;go_upto_region 13 with fail;clear c0 c4 c5 g5;generalize wr.setCell ⟨r,5,none⟩ (.int .i64 m)=W5 at *;have c1:=Fl.rc R5.out 1;have q1:=cx.2 h1;have E2:=Hh (E.out _ R5.out O5.out);clear R5 O5 E h1;go_wp2
       go_ret
       exact E2.out
     ·have q0:=fe.2 h0
      have Y0:Hid (1<=1->x0≠1):=Hh fun _=>h0;clear G2 G3 h0;go_wp2
      go_roundw
      case rel=>exact ⟨1,by omega,by go_num,RR,O1,Y0,Hh fun h=>absurd h (by decide)⟩
      case measure=>simp [intOf]
    ·clear G1 G2 G3 X1
     have c1:=Fl.rc RR.out 1
     by_cases h0:x1=1
     ·have q0:(x1 != 1)=false:=by rw [h0];rfl
      by_cases h1:x0=3
      ·skip
       have E:=Hh (G5.out (X0.out (ac _)) h0 h1);have R5:=Hh (RR.out.Zt m);have O5:Hid (ay (fun b=>b=r) w (wr.setCell ⟨r,5,none⟩ (.int .i64 m))):=Hh (bR O1.out (aT r 5 wr _));have c4:=Fl.rc RR.out 4;have c5:=Fl.rc RR.out 5;have g5:=aj RR.out 5;clear G4 G5 X0 h0 RR O1;go_upto_region 13 with fail;clear c1 c4 c5 g5;generalize wr.setCell ⟨r,5,none⟩ (.int .i64 m)=W5 at *;have c1:=Fl.rc R5.out 0;have q1:(x0 == 3)=true:=ic.2 h1;go_upto_region 14 with fail;clear c1 q1;generalize hi0:((1:Nat):Int)=i0 at *;have HI:=Hh hi0;have w10:IntKind.i64.wrap (1 - i0)=0:=by rw [← HI.out];rfl
       clear hi0;have C0:=Fl.rc (show fJ W5.drew r x0 x1 s0' s1' m m from R5.out) 4;have Rd:Hid (fJ W5.drew r x0 x1 s0' s1' m m):=Hh R5.out;have Od:=Hh (O5.out.then (aa _ _).drew);clear R5 O5;have c4:=Sc.aA (C:=fun W=>W.cell? ⟨r,4,none⟩=some (.int .i64 m)) (a:=⟨r,4,none⟩) (fun W h=>h);have ne:Nonempty (Sc.In (fun W=>W.cell? ⟨r,4,none⟩=some (.int .i64 m))):=⟨⟨_,C0⟩⟩;refine Sc.start (fun W=>W.cell? ⟨r,4,none⟩=some (.int .i64 m)) [(false,0),(false,1),(false,2),(false,3),(false,4),(false,5),(false,6),(false,7),(false,8),(false,9),(false,10),(false,11),(false,12),(false,14),(false,15),(true,13),(false,16),(true,17)] (by kernel_rfl) (by kernel_rfl) (by kernel_rfl) C0 ?_;dsimp only [Sd.aP,List.getElem?_cons_succ,List.getElem?_cons_zero]
       repeat (refine Sd.lit ?_;quiet_step (fail);refine bk ?_)
       clear c4;generalize W5.drew=W6 at *;refine Sd.call (by rfl) (fun K hK=>?_);have d0:=Fl.rc Rd.out 0;have g0:=aj Rd.out 0;have R1:Hid (fJ (W6.setCell ⟨r,0,none⟩ (.int .i64 2)) r 2 x1 s0' s1' m m):=Hh (Rd.out.set0 2);have Oe:=Hh (bR Od.out (aT r 0 W6 (.int .i64 2)));clear Rd C0 Od;go_simp;refine hK _ _ (Sc.Cl.of (ah R1.out 4)) ?_;clear hK K d0 g0;generalize W6.setCell ⟨r,0,none⟩ (.int .i64 2)=W7 at *
       repeat (refine Sd.lit ?_;quiet_step (fail);refine bk ?_)
       refine Sd.call (by rfl) (fun K hK=>?_);have d0:=Fl.rc R1.out 2;have g0:=aj R1.out 2;have R2:=Hh (R1.out.set2 m);have E2:=Hh (E.out _ R2.out (bR Oe.out (aT r 2 W7 (.int .i64 m))));clear R1 Oe E;go_simp;refine hK _ _ (Sc.Cl.of (ah R2.out 4)) ?_;clear hK K d0 g0 R2 ne;generalize W7.setCell ⟨r,2,none⟩ (.int .i64 m)=W8 at *;refine Sd.done ?_;go_wp2
       go_ret
       cases HI.out
       exact E2.out
      ·skip
       have E:=Hh (G4.out (X0.out (ac _)) h0 h1);have R5:=Hh (RR.out.Zt m);have O5:Hid (ay (fun b=>b=r) w (wr.setCell ⟨r,5,none⟩ (.int .i64 m))):=Hh (bR O1.out (aT r 5 wr _));have c4:=Fl.rc RR.out 4;have c5:=Fl.rc RR.out 5;have g5:=aj RR.out 5;clear G4 G5 X0 h0 RR O1;go_upto_region 13 with fail;clear c1 c4 c5 g5;generalize wr.setCell ⟨r,5,none⟩ (.int .i64 m)=W5 at *;have c1:=Fl.rc R5.out 0;have q1:=cx.2 h1;have E2:=Hh (E.out _ R5.out O5.out);clear R5 O5 E h1;go_wp2
       go_ret
       exact E2.out
     ·have q0:=fe.2 h0
      have Y0:Hid (1<=2->x0≠1):=Hh fun _=>X0.out (ac _);have Y1:Hid (2<=2->x1≠1):=Hh fun _=>h0;clear G4 G5 h0 X0;go_wp2
      go_roundw
      case rel=>exact ⟨2,by omega,by go_num,RR,O1,Y0,Y1⟩
      case measure=>simp [intOf]
    ·have E:=Hh (G1.out (X0.out (by omega)) (X1.out (by omega)) _ RR.out O1.out)
     clear G1 G2 G3 G4 G5 X0 X1 RR O1;go_wp2
     go_ret
     exact E.out
theorem Ry (a:A):(opn a=0/\jv a=⟨1,0,tH a.r1,0⟩)\/(opn a=1/\jv a=⟨tH a.r0,0,1,0⟩)\/(opn a = -1/\a.r0≠1/\a.r1≠1/\jv a=⟨a.r0,a.q0+1,a.r1,a.q1+1⟩):=by
 obtain ⟨r0,q0,r1,q1⟩:=a;unfold opn jv tk t1 t2 op hd
 by_cases e0:r0=1
 ·exact .inl (by simp [e0])
 ·by_cases e1:r1=1
  ·exact .inr (.inl (by simp [e0,e1]))
  ·by_cases g0:(r0=2/\4<=q0)\/(r0=3/\8<=q0)
   ·exact .inl (by simp [e0,e1,g0])
   ·by_cases g1:(r1=2/\4<=q1)\/(r1=3/\9<=q1)
    ·exact .inr (.inl (by simp [e0,e1,g0,g1]))
    ·exact .inr (.inr (by simp [e0,e1,g0,g1]))
def HM (w:World) (s:Nat) (r0 z0 r1 z1:Int):Nat->Prop
 | 0=>eY w s r0 z0 r1 z1
 | 1=>eY w s (tH r0) (hZ r0 z0) r1 z1
 | _=>eY w s (tH r0) (hZ r0 z0) (tH r1) (hZ r1 z1)
def WM (w:World) (s:Nat) (r0 z0 r1 z1:Int):Nat->Prop
 | 0=>eY w s r0 z0 r1 z1
 | 1=>eY w s r0 (wZ r0 z0) r1 z1
 | _=>eY w s r0 (wZ r0 z0) r1 (wZ r1 z1)
theorem MN (h:0<=z/\z<=t):0<=hZ r z/\hZ r z<=((t+1:Nat):Int):=by unfold hZ;split <;> omega
theorem abo (h:0<=z/\z<=t):0<=wZ r z/\wZ r z<=((t+1:Nat):Int):=by unfold wZ;split <;> omega
theorem JH (h:tH r=2\/tH r=3):(0:Int)=hZ r z:=by
 unfold tH at h;unfold hZ
 split
 ·rfl
 ·rename_i g
  exfalso
  split at h <;> omega
theorem Nj (e:r=2\/r=3->q=z) (h:r=2\/r=3):q+1=wZ r z:=by
 unfold wZ;rw [aw h,e h]
theorem mX (P:Pr w s a t) (ht:t<=90000):Calls prog 57 #[.pointer (some ⟨s,0,none⟩)] w (bF w s (opn a) (jv a) (t+1)):=by
 have OP:=Hh (Mj P);obtain ⟨z0,z1,hr,hv⟩:=P;have R:=Hh hr;have V:=Hh hv;have v0:=hv.b0;have v1:=hv.b1;clear hr hv
 rcases Ry a with ⟨eo,er⟩ | ⟨eo,er⟩ | ⟨eo,g0,g1,er⟩
 ·have FIN:Hid (∀ w',HM w' s 1 0 a.r1 z1 2->ay (fun b=>b=s) w w'->bF w s (opn a) (jv a) (t+1) (.returned (.int .i64 0)) w'):=Hh fun w' hh oo=>⟨by rw [eo],by rw [er];exact ⟨_,_,hh,⟨MN ⟨by decide,by omega⟩,MN V.out.b1,(fun g=>absurd g (by show ¬ ((1:Int)=2\/(1:Int)=3);decide)),fun g=>JH g⟩⟩,oo⟩
  rw [eo] at OP;clear eo er V v0 v1;generalize opn a=op_ at *;generalize jv a=a' at *;generalize a.r0=x0 at *;generalize a.r1=x1 at *
  go_enter func57,ntmps57
  go_wp2_with fail;refine OP.mono ?_;rintro e w1 ⟨rfl,b1⟩;have R1:=Hh (R.below b1);obtain ⟨c0,c1,f0,f1⟩:=yH R1;have M0:=Hh ((R1.set0 1).set1 0);have O0:Hid (ay (fun b=>b=s) w ((w1.setCell ⟨s,0,none⟩ (.int .i64 1)).setCell ⟨s,1,none⟩ (.int .i64 0))):=Hh (((ay.of_below b1).trans (aT s 0 _ _) (fun _ _ q=>q)).trans (aT s 1 _ _) (fun _ _ q=>q));clear R R1 OP b1;go_wp2
  go_loopw [17] (fun i wr=>∃ k:Nat,k<=2/\i = .int .i64 k/\Hid (HM wr s 1 0 x1 z1 k)/\Hid (ay (fun b=>b=s) w wr)) (fun i _=>2 - (intOf i).toNat)
  case atStart=>exact ⟨0,by omega,rfl,M0,O0⟩
  case round =>
   clear M0 O0 c0 c1 f0 f1;obtain ⟨k,hk,rfl,M,OO⟩:=hrel
   rcases (by omega:k=0\/k=1\/k=2) with rfl | rfl | rfl
   ·have C:=Hh (Il (show eY wr s 1 0 x1 z1 from M))
    clear M;go_wp2_with fail;refine C.mono ?_;rintro e w2 ⟨rfl,m2,o2⟩;have M2:=Hh m2;have O2:=Hh (bR OO o2);clear m2 o2 C OO;go_wp2
    go_roundw
    case rel=>exact ⟨1,by omega,rfl,M2,O2⟩
    case measure=>simp [intOf]
   ·have C:=Hh (JO (show eY wr s (tH 1) (hZ 1 0) x1 z1 from M))
    clear M;go_wp2_with fail;refine C.mono ?_;rintro e w2 ⟨rfl,m2,o2⟩;have M2:=Hh m2;have O2:=Hh (bR OO o2);clear m2 o2 C OO;go_wp2
    go_roundw
    case rel=>exact ⟨2,by omega,rfl,M2,O2⟩
    case measure=>simp [intOf]
   ·have F:=Hh (FIN wr M OO)
    clear FIN M OO;go_wp2
    go_ret
    exact F
 ·have FIN:Hid (∀ w',HM w' s a.r0 z0 1 0 2->ay (fun b=>b=s) w w'->bF w s (opn a) (jv a) (t+1) (.returned (.int .i64 1)) w'):=Hh fun w' hh oo=>⟨by rw [eo],by rw [er];exact ⟨_,_,hh,⟨MN V.out.b0,MN ⟨by decide,by omega⟩,fun g=>JH g,(fun g=>absurd g (by show ¬ ((1:Int)=2\/(1:Int)=3);decide))⟩⟩,oo⟩
  rw [eo] at OP;clear eo er V v0 v1;generalize opn a=op_ at *;generalize jv a=a' at *;generalize a.r0=x0 at *;generalize a.r1=x1 at *
  go_enter func57,ntmps57
  go_wp2_with fail;refine OP.mono ?_;rintro e w1 ⟨rfl,b1⟩;have R1:=Hh (R.below b1);have c0:=Fl.rc R1 2;have c1:=Fl.rc R1 3;have f0:=aj R1 2;have f1:=aj R1 3;have M0:=Hh ((R1.set2 1).qJ 0);have O0:Hid (ay (fun b=>b=s) w ((w1.setCell ⟨s,2,none⟩ (.int .i64 1)).setCell ⟨s,3,none⟩ (.int .i64 0))):=Hh (((ay.of_below b1).trans (aT s 2 _ _) (fun _ _ q=>q)).trans (aT s 3 _ _) (fun _ _ q=>q));clear R R1 OP b1;go_wp2
  go_loopw [17] (fun i wr=>∃ k:Nat,k<=2/\i = .int .i64 k/\Hid (HM wr s x0 z0 1 0 k)/\Hid (ay (fun b=>b=s) w wr)) (fun i _=>2 - (intOf i).toNat)
  case atStart=>exact ⟨0,by omega,rfl,M0,O0⟩
  case round =>
   clear M0 O0 c0 c1 f0 f1;obtain ⟨k,hk,rfl,M,OO⟩:=hrel
   rcases (by omega:k=0\/k=1\/k=2) with rfl | rfl | rfl
   ·have C:=Hh (Il (show eY wr s x0 z0 1 0 from M))
    clear M;go_wp2_with fail;refine C.mono ?_;rintro e w2 ⟨rfl,m2,o2⟩;have M2:=Hh m2;have O2:=Hh (bR OO o2);clear m2 o2 C OO;go_wp2
    go_roundw
    case rel=>exact ⟨1,by omega,rfl,M2,O2⟩
    case measure=>simp [intOf]
   ·have C:=Hh (JO (show eY wr s (tH x0) (hZ x0 z0) 1 0 from M))
    clear M;go_wp2_with fail;refine C.mono ?_;rintro e w2 ⟨rfl,m2,o2⟩;have M2:=Hh m2;have O2:=Hh (bR OO o2);clear m2 o2 C OO;go_wp2
    go_roundw
    case rel=>exact ⟨2,by omega,rfl,M2,O2⟩
    case measure=>simp [intOf]
   ·have F:=Hh (FIN wr M OO)
    clear FIN M OO;go_wp2
    go_ret
    exact F
 ·have FIN:Hid (∀ w',WM w' s a.r0 z0 a.r1 z1 2->ay (fun b=>b=s) w w'->bF w s (opn a) (jv a) (t+1) (.returned (.int .i64 (-1))) w'):=Hh fun w' hh oo=>⟨by rw [eo],by rw [er];exact ⟨_,_,hh,⟨abo V.out.b0,abo V.out.b1,fun g=>Nj V.out.e0 g,fun g=>Nj V.out.e1 g⟩⟩,oo⟩
  rw [eo] at OP;have V0:Hid (0<=z0/\z0<=1000000):=Hh (by omega);have V1:Hid (0<=z1/\z1<=1000000):=Hh (by omega);clear eo er V v0 v1 g0 g1;generalize opn a=op_ at *;generalize jv a=a' at *;generalize a.r0=x0 at *;generalize a.r1=x1 at *
  go_enter func57,ntmps57
  go_wp2_with fail;refine OP.mono ?_;rintro e w1 ⟨rfl,b1⟩;have M0:=Hh (R.below b1);have O0:Hid (ay (fun b=>b=s) w w1):=Hh (ay.of_below b1);clear R OP b1;go_wp2
  go_loopw [17] (fun i wr=>∃ k:Nat,k<=2/\i = .int .i64 k/\Hid (WM wr s x0 z0 x1 z1 k)/\Hid (ay (fun b=>b=s) w wr)) (fun i _=>2 - (intOf i).toNat)
  case atStart=>exact ⟨0,by omega,rfl,M0,O0⟩
  case round =>
   clear M0 O0;obtain ⟨k,hk,rfl,M,OO⟩:=hrel
   rcases (by omega:k=0\/k=1\/k=2) with rfl | rfl | rfl
   ·have C:=Hh (aez (show eY wr s x0 z0 x1 z1 from M) V0)
    clear M;go_wp2_with fail;refine C.mono ?_;rintro e w2 ⟨rfl,m2,o2⟩;have M2:=Hh m2;have O2:=Hh (bR OO o2);clear m2 o2 C OO;go_wp2
    go_roundw
    case rel=>exact ⟨1,by omega,rfl,M2,O2⟩
    case measure=>simp [intOf]
   ·have C:=Hh (aeH (show eY wr s x0 (wZ x0 z0) x1 z1 from M) V1)
    clear M;go_wp2_with fail;refine C.mono ?_;rintro e w2 ⟨rfl,m2,o2⟩;have M2:=Hh m2;have O2:=Hh (bR OO o2);clear m2 o2 C OO;go_wp2
    go_roundw
    case rel=>exact ⟨2,by omega,rfl,M2,O2⟩
    case measure=>simp [intOf]
   ·have F:=Hh (FIN wr M OO)
    clear FIN M OO;go_wp2
    go_ret
    exact F
end Wt
namespace Cu
open Go.Maps
open Rw (Rd)
open Pa (S2 K2)
open Re (KI gU gY)
attribute [local irreducible] Sd.bA wpQuiet
theorem LU (a:Wt.A):Wt.opn a = -1\/Wt.opn a=0\/Wt.opn a=1:=by
 unfold Wt.opn Wt.op
 split
 ·exact .inr (.inl rfl)
 ·split
  ·exact .inr (.inr rfl)
  ·exact .inl rfl
variable {c:Cs}
theorem adI {l:List Int} (h:gY l):lH c l < l.length:=by
 unfold lH;have:=h.1
 split <;> omega
variable {s t p nn:Nat} {F:Nat->Prop} {vn vq:Value} {L:List Nd} {Fs:Nat->Nat->Prop} {w:World}
theorem Bo (h:Cl w s F c t vn L p vq Fs) (ok:jB c t) (ht:t<=1000) (hg:fq w) (hG:¬ F 0) (ho:Wt.opn c.P = -1) :
 Calls prog 31 #[ptr s] w (kS w s F (rC c) (t+1) (rE c)):=by
 generalize hRC:rC c=cR;generalize hRE:rE c=eR;have RC:=Hh hRC;have RE:=Hh hRE;clear hRC hRE;have d3:=h.cells.2.2.2;have f3:=h.Xg 3;have H1:=Hh (h.TS (v:=.slice none 0 0) (Q:=[]) (Rw.Ow.nil _ _ _) (fun k e=>by simp [Value.ownBlock] at e) (fun i hi k _ e=>by simp [Value.ownBlock] at e));have O1:Hid (ay F w (w.setCell ⟨s,3,none⟩ (.slice none 0 0))):=Hh (ay.set F w (a:=⟨s,3,none⟩) h.fs _);have Q1:Hid (Ow K2 (w.setCell ⟨s,3,none⟩ (.slice none 0 0)) 0 95 vq c.Q):=Hh (aG h.sp (fun k e g=>h.vs.2 (by rw [e,g])) (ay.set (fun k=>k=s) w (a:=⟨s,3,none⟩) rfl _));have k1:=H1.cells.2.1;have CR:=Hh (Wt.mX H1.pr (by omega));have QF:Hid (∀ k,vq.ownBlock=some k->k≠s/\k≠p):=Hh (fun k e=>⟨fun g=>h.vs.2 (by rw [e,g]),fun g=>h.vp.2 (by rw [e,g])⟩);have HS:=Hh h.fs;have LW:=Hh h.low;have GG:=Hh hg;have HG:=Hh hG;have OK:=Hh ok;obtain ⟨qa,qc,rfl,_⟩:=h.sp.slice;clear h ok hg hG;unfold Wt.bF at CR;rw [show Wt.opn ({ c with Q:=[] } : Cs).P=_ from ho,show Wt.jv ({ c with Q:=[] } : Cs).P=Wt.jv c.P from rfl] at CR;unfold ptr at *;generalize hql:c.Q.length=ql at *;clear hql
 go_enter func31,ntmps31
 go_upto_region 3 with fail;clear d3 f3;generalize (w.setCell ⟨s,3,none⟩ (.slice none 0 0))=w1 at *;go_wp2_with fail;refine CR.mono ?_;rintro e w2 ⟨rfl,pr2,o2⟩;have H2:=Hh (H1.pair o2 pr2);have O2:=Hh (O1.trans o2 fun k _ e=>by rw [e];exact H1.out.fp);have Q2:=Hh (aG Q1 (fun k e g=>(QF k e).2 g) o2);have G2:=Hh (GG.only HG O2);clear pr2 o2 CR H1 O1 Q1 k1;have e1:rE c=0:=by unfold rE;rw [aw (by omega)]
 have e2:rC c = { c with P:=Wt.jv c.P,Q:=[] }:=by unfold rC;rw [aw (by omega)]
 rw [RE.out] at e1;rw [RC.out] at e2;subst e1 e2;have C3:=Hh (zU H2 (n:=-1) (Or.inl (by decide)));have E:=Hh (fun w' (b:Below w2.heap.size w2 w')=>q8 (w:=w) (H2.below b) (O2.then b) 0);unfold ptr at C3;clear H2 O2 Q2 G2 ho;go_wp2_with fail;refine C3.mono ?_;rintro e w3 ⟨rfl,b3⟩;have G:=Hh (E w3 b3);clear E C3 b3;go_wp2
 go_ret
 exact G
theorem xE (h:Cl w s F c t vn L p vq Fs) (ok:jB c t) (ht:t<=1000) (hg:fq w) (hG:¬ F 0) (ho:Wt.opn c.P=nn) (hn:nn < 2) :
 Calls prog 31 #[ptr s] w (kS w s F (rC c) (t+1) (rE c)):=by
 generalize hRC:rC c=cR;generalize hRE:rE c=eR;have RC:=Hh hRC;have RE:=Hh hRE;clear hRC hRE;have d3:=h.cells.2.2.2;have f3:=h.Xg 3;have H1:=Hh (h.TS (v:=.slice none 0 0) (Q:=[]) (Rw.Ow.nil _ _ _) (fun k e=>by simp [Value.ownBlock] at e) (fun i hi k _ e=>by simp [Value.ownBlock] at e));have O1:Hid (ay F w (w.setCell ⟨s,3,none⟩ (.slice none 0 0))):=Hh (ay.set F w (a:=⟨s,3,none⟩) h.fs _);have Q1:Hid (Ow K2 (w.setCell ⟨s,3,none⟩ (.slice none 0 0)) 0 95 vq c.Q):=Hh (aG h.sp (fun k e g=>h.vs.2 (by rw [e,g])) (ay.set (fun k=>k=s) w (a:=⟨s,3,none⟩) rfl _));have k1:=H1.cells.2.1;have CR:=Hh (Wt.mX H1.pr (by omega));have QF:Hid (∀ k,vq.ownBlock=some k->k≠s/\k≠p):=Hh (fun k e=>⟨fun g=>h.vs.2 (by rw [e,g]),fun g=>h.vp.2 (by rw [e,g])⟩);have HS:=Hh h.fs;have LW:=Hh h.low;have GG:=Hh hg;have HG:=Hh hG;have OK:=Hh ok;obtain ⟨qa,qc,rfl,_⟩:=h.sp.slice;clear h ok hg hG;unfold Wt.bF at CR;rw [show Wt.opn ({ c with Q:=[] } : Cs).P=_ from ho,show Wt.jv ({ c with Q:=[] } : Cs).P=Wt.jv c.P from rfl] at CR;unfold ptr at *;generalize hql:c.Q.length=ql at *;clear hql
 go_enter func31,ntmps31
 go_upto_region 3 with fail;clear d3 f3;generalize (w.setCell ⟨s,3,none⟩ (.slice none 0 0))=w1 at *;go_wp2_with fail;refine CR.mono ?_;rintro e w2 ⟨rfl,pr2,o2⟩;have H2:=Hh (H1.pair o2 pr2);have O2:=Hh (O1.trans o2 fun k _ e=>by rw [e];exact H1.out.fp);have Q2:=Hh (aG Q1 (fun k e g=>(QF k e).2 g) o2);have G2:=Hh (GG.only HG O2);clear pr2 o2 CR H1 O1 Q1 k1;have hnl:nn < c.S.length:=by have:=OK.out.len;omega
 have OW:own c=(aN c.S nn).1:=by unfold own;rw [ho]
 have C3:=Hh (jO H2 (n:=nn) hnl);have HO:=Hh ho;have HN:=Hh hnl;unfold ptr at C3;go_wp2_with fail;refine C3.mono ?_;rintro e w3 ⟨rfl,b3⟩;have H3:=Hh (H2.below b3);have O3:=Hh (O2.then b3);have Q3:=Hh (Q2.keep b3);have C4:=Hh (mH H3 (nn:=nn) HN);rw [show (aN ({ c with Q:=[],P:=Wt.jv c.P } : Cs).S nn).1=own c from OW.symm] at C4;have OWH:=Hh OW;unfold SqC ptr at C4;clear H2 O2 Q2 G2 C3 b3 OW ho hnl;go_wp2_with fail;refine C4.mono ?_;rintro e w4 ⟨b4,hc⟩;have H4:=Hh (H3.below b4);have O4:=Hh (O3.then b4);have Q4:=Hh (Q3.keep b4);have G4:=Hh (GG.only HG O4);clear H3 O3 Q3 C4 b4
 rcases hc with ⟨hs,u,rfl,ru⟩ | ⟨hs,rfl⟩
 ·have SQ:=Hh (Ex hs)
  have er:rE c=iG c.S (rT c) c.V:=by unfold rE;rw [am (by rw [HO.out];omega),aw hs]
  have ec:rC c=⟨caS c.S (rT c) c.V c.Q,c.V,Wt.jv c.P,qh c (jT (own c)),[]⟩:=by unfold rC caS;rw [am (by rw [HO.out];omega),aw hs]
  rw [RE.out] at er;rw [RC.out] at ec;have C5:Hid (Calls prog 60 #[ptr s,u] w4 (NxC w4 s (gU (jT (own c)) (lH c (jT (own c)))) (qh c (jT (own c))))):=Hh (Qt H4 ru SQ);have RR:Hid (0<=gU (jT (own c)) (lH c (jT (own c)))/\gU (jT (own c)) (lH c (jT (own c)))<=5):=Hh (SQ.out.2 _ (adI SQ));have RT:Hid (rT c=OR c.S (gU (jT (own c)) (lH c (jT (own c))))):=Hh rfl;obtain ⟨ua,uc,rfl,_⟩:=ru.slice;unfold NxC ptr at C5;have EC:=Hh ec;have ER:=Hh er;clear ru er ec hs;generalize (jT (own c)).length=ul at *;go_wp2_with fail;refine C5.mono ?_;rintro e w5 ⟨rfl,w6,b6,rfl⟩;have H5:=Hh ((H4.below b6).place (qh c (jT (own c))));have O5:=Hh ((O4.then b6).trans (ay.set F w6 (a:=⟨s,2,none⟩) HS (.int .i64 (qh c (jT (own c))))) fun _ _ g=>g);have Q5:=Hh (aG (Q4.keep b6) (fun k e g=>(QF k e).1 g) (ay.set (fun k=>k=s) w6 (a:=⟨s,2,none⟩) rfl (.int .i64 (qh c (jT (own c))))));have G5:=Hh (GG.only HG O5);clear H4 O4 Q4 G4 b6 C5;generalize (w6.setCell ⟨s,2,none⟩ (.int .i64 (qh c (jT (own c)))))=w7 at *;have C6:=Hh (Mi H5 OK.len OK.lv (fun i hi=>by have:=OK.out.st i hi;exact ⟨this.2.1,Int.lt_of_le_of_lt this.2.2 (by omega)⟩) G5.out RR.out Q5.out.rd);unfold ptr at C6;rw [← RT.out] at C6;clear H5 Q5 G5 RR;generalize gU (jT (own c)) (lH c (jT (own c)))=r at *;go_wp2_with fail;refine C6.mono ?_;rintro e w8 d8;have G:Hid (kS w s F cR (t+1) eR e w8):=Hh (by rw [EC.out,ER.out];exact d8.preO O5.out LW.out);obtain ⟨rfl,_,_⟩:=d8;clear C6;go_wp2
  go_ret
  exact G
 ·have er:rE c=2:=by unfold rE;rw [am (by rw [HO.out];omega),am (by rw [hs];decide)]
  have ec:rC c = { c with P:=Wt.jv c.P,Q:=[] }:=by unfold rC;rw [am (by rw [HO.out];omega),am (by rw [hs];decide)]
  rw [RE.out] at er;rw [RC.out] at ec;subst er ec;have C5:=Hh (Hf nn 2 w4 G4);have E:=Hh (fun w' (b:Below w4.heap.size w4 w')=>q8 (w:=w) (H4.below b) (O4.then b) 2);unfold kQ Ma at *;clear H4 O4 Q4 G4 hs;go_wp2_with fail;refine C5.mono ?_;rintro e w5 ⟨rfl,b5⟩;have G:=Hh (E w5 b5);clear E C5 b5;go_wp2
  go_ret
  exact G
theorem Le (h:Cl w s F c t vn L p vq Fs) (ok:jB c t) (ht:t<=1000) (hg:fq w) (hG:¬ F 0) :
 Calls prog 31 #[ptr s] w (kS w s F (rC c) (t+1) (rE c)):=by
 rcases LU c.P with ho | ho | ho
 ·exact Bo h ok ht hg hG ho
 ·exact xE h ok ht hg hG (nn:=0) ho (by decide)
 ·exact xE h ok ht hg hG (nn:=1) ho (by decide)
open Fl (aH aY)
open Fs (sA sB)
attribute [local irreducible] Sz.oH
section
variable {s t p:Nat} {F G:Nat->Prop} {c:Cs} {vn vq:Value} {L:List Nd} {Fs:Nat->Nat->Prop} {w w1 w':World}
variable {x:Ac}
theorem PV (hk:x.k=2) (hn:¬ no c x.n):(bU c.V x.n=true->bE x c=(if sB (aN c.S x.n).1 x.f x.r=true then 0 else 3)/\bK x c = { c with S:=jh c.S x.n (sA (aN c.S x.n).1 x.f x.r x.v,(aN c.S x.n).2) })/\(bU c.V x.n=false->bE x c=10/\bK x c=c):=by
 have hin:0<=x.n/\x.n < c.S.length:=by unfold no at hn;omega
 have he:bE x c=if bU c.V x.n=true then (if sB (aN c.S x.n).1 x.f x.r=true then 0 else 3) else 10:=by
  unfold bE;rw [am (by omega),am (by omega),am (by rintro (g | g | g);omega;omega;exact hn g),aw hk]
 refine ⟨fun hv=>?_,fun hv=>?_⟩
 ·rw [hv,aw rfl] at he
  refine ⟨he,?_⟩;unfold bK
  cases g:sB (aN c.S x.n).1 x.f x.r with
  | true =>
    rw [g,aw rfl] at he;rw [am (by omega),am (by rw [he];simp),am (by omega),aw hk]
  | false =>
    rw [g,am dr] at he;rw [am (by omega),aw (by rw [he];decide)];have e1:sA (aN c.S x.n).1 x.f x.r x.v=(aN c.S x.n).1:=by
     unfold sA
     split
     ·rfl
     ·rw [g];rfl
    have e2:jh c.S x.n (sA (aN c.S x.n).1 x.f x.r x.v,(aN c.S x.n).2)=c.S:=by
     rw [e1];unfold jh
     show c.S.set x.n.toNat (aN c.S x.n)=c.S
     unfold aN;rw [af,aq (by omega)];exact List.set_getElem_self (by omega)
    rw [e2]
 ·rw [hv,am dr] at he
  refine ⟨he,?_⟩;unfold bK;rw [am (by omega),aw (by rw [he];decide)]
theorem Sv (hk:x.k=6) (hn:¬ no c x.n):bE x c=(if x.t < -2000\/2000 < x.t then 1 else 0)/\bK x c=c:=by
 have he:bE x c=if x.t < -2000\/2000 < x.t then 1 else 0:=by
  unfold bE;rw [am (by omega),am (by omega),am (by rintro (g | g | g);omega;omega;exact hn g),am (by omega),am (by omega),am (by omega)]
 refine ⟨he,?_⟩;unfold bK;rw [am (by omega)]
 by_cases e:bE x c≠0
 ·rw [aw e]
 ·rw [am e,am (by omega),am (by omega),am (by omega),am (by omega)]
theorem Cl.wr (h:Cl w s F c t vn L p vq Fs) (hn:nn < c.S.length) {q:Nat} (hq:q=(iC L nn).s) {f r:Int} {x:R4} {e:Ending} (hw:WrC w q (Fs nn) (aN c.S nn).1 (aN c.S nn).2 f r x e w'):kS w s F { c with S:=jh c.S nn (sA (aN c.S nn).1 f r x,(aN c.S nn).2) } t (if sB (aN c.S nn).1 f r=true then 0 else 3) e w':=by
 subst hq;obtain ⟨h1,h2,h3⟩:=hw;have hl:=h.len;exact ⟨h1,⟨_,_,_,_,_,h.store (i:=nn) (by omega) (x:=(sA (aN c.S nn).1 f r x,(aN c.S nn).2)) h2 h3⟩,h3.mono fun k _ g=>h.ff nn (by omega) k g⟩
theorem Rk (h:Cl w s F c t vn L p vq Fs) (x:Ac) (hk:x.k=2) (hn:¬ no c x.n) (hx:bQ x.v) (hf:Wf x.f):Calls prog 11 #[ptr s,eU x] w (kS w s F (bK x c) (t+1) (bE x c)):=by
 have B0:=Hh ((aa w.heap.size w).alloc (ac _) (.cells (bH x) 44));have X0:=Hh (bc w (.cells (bH x) 44));have hn':0<=x.n/\x.n < c.S.length:=by unfold no at hn;omega
 obtain ⟨nn,hnn⟩:∃ nn:Nat,(nn:Int)=x.n:=⟨x.n.toNat,by omega⟩;have hnl:nn < c.S.length:=by omega
 obtain ⟨g,cap,rfl,hcap,hm,-⟩:=h.one hnl;have hL:=h.len;have C1:=Hh (jO (h.below B0) (n:=nn) hnl);rw [hnn] at C1
 have CW:Hid (∀ W,Below (w.alloc (.cells (bH x) 44)).heap.size (w.alloc (.cells (bH x) 44)) W->Calls prog 34 #[.pointer (some ⟨g,nn * 3,none⟩),.int .i64 x.f,.int .i64 x.r,aH x.v] W (fun e w'=>kS W s F (bK x c) t (bE x c) e w'/\ay (Fs nn) W w')):=Hh (fun W b=>by
  have hh:=(h.below B0).below b;obtain ⟨q0,q1,_⟩:=hh.nod hnl;rw [hh.lv nn (by omega),hnn] at q1;obtain ⟨a1,a2⟩:=PV hk hn
  cases hv:bU c.V x.n with
  | true =>
    rw [(a1 hv).1,(a1 hv).2];rw [hv] at q1;refine (Mb (hh.TD hnl) g (nn * 3) q0 q1 (fun e=>(h.off nn (by omega) g e).2.2.1 rfl) hf x.r x.v hx).mono fun e w' hw=>⟨?_,hw.2.2⟩;rw [← hnn];exact hh.wr hnl rfl hw
  | false =>
    rw [(a2 hv).1,(a2 hv).2];rw [hv] at q1;refine (Qr W g (nn * 3) x.f x.r x.v q1).mono fun e w' hw=>?_;obtain ⟨rfl,b'⟩:=hw
    exact ⟨jc hh b' 10,ay.of_below b'⟩)
 have NG:Hid (¬ (Fs nn) s/\¬ (Fs nn) w.heap.size):=Hh ⟨fun e=>(h.off nn (by omega) s e).1 rfl,fun e=>by have:=(h.st nn (by omega)).low _ e;omega⟩;have E:=Hh (fun w1 (b:Below w.heap.size w w1) e w' (d:kS w1 s F (bK x c) t (bE x c) e w')=>(d.pre b h.low).late);have D0:=Hh (fun w1 b=>(h.below (w':=w1) b).cells.1);clear h hn hn' hL;generalize bK x c=c' at *;generalize bE x c=ae at *;generalize hGG:(Fs nn)=GG at *;clear hGG;have HNL:=Hh hnl;have p5:decide (c.S.length<=nn)=false:=ai (by omega);generalize c.S.length=ln at *;unfold eU bH at *;unfold ptr at *;obtain ⟨k,n,f,rr,v,s',m,tt⟩:=x;simp only at hk hnn B0 X0 C1 CW E ⊢;subst hk hnn
 (try unfold aH at CW)
 go_enter func11,ntmps11
 go_wp2_with fail;refine C1.mono ?_;rintro e w1 ⟨rfl,b1⟩;have BW:=aW B0 b1;have X1:=Hh (jf b1 X0);have CX:=Hh (fun W (b:Below w1.heap.size w1 W)=>CW W (b1.trans (b.mono b1.size)));have d0:=D0.out w1 BW;clear b1 C1 CW D0 X0 B0;generalize hgx:w.heap.size=gx at X1 NG ⊢;have HGX:=Hh hgx;clear hgx;have y0:=Fl.rc X1 0;have Q0:=Hh d0;go_upto_region 12 with fail;clear y0 d0;have BD:=Hh (aa w1.heap.size w1).drew;have OD:Hid (ay GG w1 w1.drew):=Hh (ay.of_below BD);have s0:=Sc.aA (C:=fun W'=>ay GG w1 W') (a:=⟨s,0,none⟩) (fun W' o=>o.cell Q0 NG.out.1);have x1:=Sc.aA (C:=fun W'=>ay GG w1 W') (a:=⟨gx,1,none⟩) (fun W' o=>o.cell (ah X1 1) NG.out.2);have x2:=Sc.aA (C:=fun W'=>ay GG w1 W') (a:=⟨gx,2,none⟩) (fun W' o=>o.cell (ah X1 2) NG.out.2);have x3:=Sc.aA (C:=fun W'=>ay GG w1 W') (a:=⟨gx,3,none⟩) (fun W' o=>o.cell (ah X1 3) NG.out.2);have x4:=Sc.aA (C:=fun W'=>ay GG w1 W') (a:=⟨gx,4,none⟩) (fun W' o=>o.cell (ah X1 4) NG.out.2);have x5:=Sc.aA (C:=fun W'=>ay GG w1 W') (a:=⟨gx,5,none⟩) (fun W' o=>o.cell (ah X1 5) NG.out.2);have x6:=Sc.aA (C:=fun W'=>ay GG w1 W') (a:=⟨gx,6,none⟩) (fun W' o=>o.cell (ah X1 6) NG.out.2);have x7:=Sc.aA (C:=fun W'=>ay GG w1 W') (a:=⟨gx,7,none⟩) (fun W' o=>o.cell (ah X1 7) NG.out.2);have ne:Nonempty (Sc.In (fun W'=>ay GG w1 W')):=⟨⟨_,OD⟩⟩;have CY:=Hh (CX w1.drew BD);clear CX Q0;refine Sc.start (fun W'=>ay GG w1 W') [(false,0),(false,1),(false,2),(false,3),(false,4),(false,5),(false,6),(false,7),(false,8),(false,9),(false,10),(false,11),(false,12),(true,13),(false,14)] (by kernel_rfl) (by kernel_rfl) (by kernel_rfl) OD ?_;dsimp only [Sd.aP,List.getElem?_cons_succ,List.getElem?_cons_zero]
 iterate 13 (refine Sd.lit ?_;quiet_step (fail);refine bk ?_)
 clear s0 x1 x2 x3 x4 x5 x6 x7;refine Sd.call (by rfl) (fun K hK=>?_);go_simp;refine CY.mono ?_;rintro e w5 ⟨d5,o5⟩;have R:=Hh (E w1.drew (aW BW BD) e w5 d5);obtain ⟨rfl,_,_⟩:=d5;refine hK _ _ (Sc.Cl.of (OD.trans o5 fun k _ g=>g)) ?_;clear hK K o5 CY E
 iterate 1 (refine Sd.lit ?_;quiet_step (fail);refine bk ?_)
 refine Sd.done ?_;go_wp2
 go_ret
 exact R
theorem Qz (h:Cl w s F c t vn L p vq Fs) (x:Ac) (hk:x.k=6) (hn:¬ no c x.n):Calls prog 11 #[ptr s,eU x] w (kS w s F (bK x c) (t+1) (bE x c)):=by
 have B0:=Hh ((aa w.heap.size w).alloc (ac _) (.cells (bH x) 44));have X0:=Hh (bc w (.cells (bH x) 44));have hn':0<=x.n/\x.n < c.S.length:=by unfold no at hn;omega
 obtain ⟨nn,hnn⟩:∃ nn:Nat,(nn:Int)=x.n:=⟨x.n.toNat,by omega⟩;have hnl:nn < c.S.length:=by omega
 obtain ⟨g,cap,rfl,hcap,hm,-⟩:=h.one hnl;have hL:=h.len;have C1:=Hh (jO (h.below B0) (n:=nn) hnl);rw [hnn] at C1
 have CW:Hid (∀ W,Below (w.alloc (.cells (bH x) 44)).heap.size (w.alloc (.cells (bH x) 44)) W->Calls prog 37 #[.pointer (some ⟨g,nn * 3,none⟩),.int .i64 x.t] W (fun e w'=>kS W s F (bK x c) t (bE x c) e w'/\ay (fun k=>k=g) W w')):=Hh (fun W b=>by
  have hh:=(h.below B0).below b;obtain ⟨_,_,q2⟩:=hh.nod hnl;obtain ⟨a1,a2⟩:=Sv hk hn;rw [a1,a2];have fz:W.frozen? ⟨g,nn * 3+2,none⟩=false:=by
   obtain ⟨g',cap',e',_,_,_,_,_,fz⟩:=hh.one hnl;injection e' with e1 _ _;injection e1 with e1;injection e1 with e1 _ _;subst e1;exact fz _
  by_cases hx : -2000<=x.t/\x.t<=2000
  ·rw [am (by omega)]
   refine (K7 W g (nn * 3) x.t _ q2 fz (Es.2 hx)).mono fun e w' hw=>?_;obtain ⟨rfl,rfl⟩:=hw;have z:=hh.ZW rfl hnl hx;exact ⟨q8 z.1 z.2 0,ay.set (fun k=>k=g) W (a:=⟨g,nn * 3+2,none⟩) rfl _⟩
  ·rw [aw (by omega)]
   have hc:Yz x.t=false:=by
    cases hc:Yz x.t with
    | false=>rfl
    | true=>exact absurd (Es.1 hc) hx
   refine (Tm W g (nn * 3) x.t hc).mono fun e w' hw=>?_;obtain ⟨rfl,rfl⟩:=hw
   exact ⟨jc hh (aa _ _) 1,ay.refl _ _⟩)
 have NG:Hid (¬ (fun k=>k=g) s/\¬ (fun k=>k=g) w.heap.size):=Hh ⟨fun e=>h.vs.1 (by rw [e];rfl),fun e=>by have:=h.low g (h.fv g (.inl rfl));omega⟩;have E:=Hh (fun w1 (b:Below w.heap.size w w1) e w' (d:kS w1 s F (bK x c) t (bE x c) e w')=>(d.pre b h.low).late);have D0:=Hh (fun w1 b=>(h.below (w':=w1) b).cells.1);clear h hn hn' hL;generalize bK x c=c' at *;generalize bE x c=ae at *;generalize hGG:(fun k=>k=g)=GG at *;clear hGG;have HNL:=Hh hnl;have p5:decide (c.S.length<=nn)=false:=ai (by omega);generalize c.S.length=ln at *;unfold eU bH at *;unfold ptr at *;obtain ⟨k,n,f,rr,v,s',m,tt⟩:=x;simp only at hk hnn B0 X0 C1 CW E ⊢;subst hk hnn
 (try unfold aH at CW)
 go_enter func11,ntmps11
 go_wp2_with fail;refine C1.mono ?_;rintro e w1 ⟨rfl,b1⟩;have BW:=aW B0 b1;have X1:=Hh (jf b1 X0);have CX:=Hh (fun W (b:Below w1.heap.size w1 W)=>CW W (b1.trans (b.mono b1.size)));have d0:=D0.out w1 BW;clear b1 C1 CW D0 X0 B0;generalize hgx:w.heap.size=gx at X1 NG ⊢;have HGX:=Hh hgx;clear hgx;have y0:=Fl.rc X1 0;have Q0:=Hh d0;go_upto_region 18 with fail;clear y0 d0;have BD:=Hh (aa w1.heap.size w1).drew;have OD:Hid (ay GG w1 w1.drew):=Hh (ay.of_below BD);have s0:=Sc.aA (C:=fun W'=>ay GG w1 W') (a:=⟨s,0,none⟩) (fun W' o=>o.cell Q0 NG.out.1);have x1:=Sc.aA (C:=fun W'=>ay GG w1 W') (a:=⟨gx,1,none⟩) (fun W' o=>o.cell (ah X1 1) NG.out.2);have x10:=Sc.aA (C:=fun W'=>ay GG w1 W') (a:=⟨gx,10,none⟩) (fun W' o=>o.cell (ah X1 10) NG.out.2);have ne:Nonempty (Sc.In (fun W'=>ay GG w1 W')):=⟨⟨_,OD⟩⟩;have CY:=Hh (CX w1.drew BD);clear CX Q0;refine Sc.start (fun W'=>ay GG w1 W') [(false,0),(false,1),(false,2),(false,3),(false,4),(false,5),(false,6),(false,7),(false,8),(true,9),(false,10)] (by kernel_rfl) (by kernel_rfl) (by kernel_rfl) OD ?_;dsimp only [Sd.aP,List.getElem?_cons_succ,List.getElem?_cons_zero]
 iterate 9 (refine Sd.lit ?_;quiet_step (fail);refine bk ?_)
 clear s0 x1 x10;refine Sd.call (by rfl) (fun K hK=>?_);go_simp;refine CY.mono ?_;rintro e w5 ⟨d5,o5⟩;have R:=Hh (E w1.drew (aW BW BD) e w5 d5);obtain ⟨rfl,_,_⟩:=d5;refine hK _ _ (Sc.Cl.of (OD.trans o5 fun k _ g=>g)) ?_;clear hK K o5 CY E
 iterate 1 (refine Sd.lit ?_;quiet_step (fail);refine bk ?_)
 refine Sd.done ?_;go_wp2
 go_ret
 exact R
theorem Tf (h:Cl w s F c t vn L p vq Fs) (ok:jB c t) (ht:t<=1000) (hg:fq w) (hG:¬ F 0) (x:Ac) (hk:x.k=1):Calls prog 11 #[ptr s,eU x] w (kS w s F (bK x c) (t+1) (bE x c)):=by
 have B0:=Hh ((aa w.heap.size w).alloc (ac _) (.cells (bH x) 44));have e1:bE x c=rE c:=aw hk;have e2:bK x c=rC c:=aw hk;rw [e1,e2];have C2:=Hh (Le (h.below B0) ok ht (hg.below B0) hG);have E:=Hh (fun e w' (d:kS (w.alloc (.cells (bH x) 44)) s F (rC c) (t+1) (rE c) e w')=>d.pre B0 h.low);clear h ok hg e1 e2;generalize rC c=c' at *;generalize rE c=ae at *;unfold eU bH at *;unfold ptr at *;obtain ⟨k,n,f,rr,v,s',m,tt⟩:=x;simp only at hk B0 C2 E ⊢;subst hk
 go_enter func11,ntmps11
 go_wp2_with fail;refine C2.mono ?_;rintro e w2 d;have G:=Hh (E e w2 d);obtain ⟨rfl,_,_⟩:=d;clear E C2;go_wp2
 go_ret
 exact G
theorem NV (h:Cl w s F c t vn L p vq Fs) (ok:jB c t) (sy:sQ c) (ht:t<=1000) (hg:fq w) (hG:¬ F 0) (x:Ac) (hx:bQ x.v) (hf:Wf x.f):Calls prog 11 #[ptr s,eU x] w (kS w s F (bK x c) (t+1) (bE x c)):=by
 by_cases h1:x.k=1
 ·exact Tf h ok ht hg hG x h1
 by_cases h3:x.k=3
 ·exact Rx h ok x h3
 by_cases hn:no c x.n
 ·exact Yq h x h1 h3 hn
 by_cases h2:x.k=2
 ·exact Rk h x h2 hn hx hf
 by_cases h4:x.k=4
 ·exact Qm h ok sy x h4 hn
 by_cases h5:x.k=5
 ·exact Ii h ok sy x h5 hn
 by_cases h6:x.k=6
 ·exact Qz h x h6 hn
 ·exact VS h x h1 h3 (by omega) hn
end
end Cu
namespace Cu
open Rw (Rd)
open Fs (aD E3 dR)
open Pa (xV fQ)
def CH (w0:World) (s:Nat) (c:Cs) (t:Nat) (W:World):Prop:=∃ F,ClE W s F c t/\(∀ k,F k->w0.heap.size<=k)/\Below w0.heap.size w0 W
section
variable {w0 W w':World} {s t:Nat} {c:Cs}
theorem CH.below (h:CH w0 s c t W) (b:Below W.heap.size W w'):CH w0 s c t w':=by
 obtain ⟨F,⟨vn,L,p,vq,Fs,h1⟩,h2,h3⟩:=h;exact ⟨F,⟨vn,L,p,vq,Fs,h1.below b⟩,h2,h3.trans (b.mono h3.size)⟩
theorem CH.aI (h:CH w0 s c t W):Below w0.heap.size w0 W:=by obtain ⟨_,_,_,h⟩:=h;exact h
theorem abE (h:CH w0 s c t W) (hg:fq w0) (ok:jB c t) (sy:sQ c) (ht:t<=1000) (x:Ac) (hx:bQ x.v) (hf:Wf x.f):Calls prog 11 #[ptr s,eU x] W fun e w'=>e = .returned (.int .i64 (bE x c))/\CH w0 s (bK x c) (t+1) w':=by
 obtain ⟨F,⟨vn,L,p,vq,Fs,h1⟩,h2,h3⟩:=h;have gl:=bo _ _ hg;refine (NV h1 ok sy ht (hg.below h3) (fun g=>by have:=h2 _ g;exact absurd gl (by show ¬ 0 < _;omega)) x hx hf).mono fun e w' d=>⟨d.1,Fx F W w',d.2.1,fun k g=>?_,h3.trans (d.2.2.below h3.size h2)⟩;have:=h3.size
 rcases g with g | g
 ·exact h2 k g
 ·omega
variable {n B:Nat}
theorem UY (h:CH w0 s c t W) (hn:n < c.S.length):Calls prog 15 #[ptr s,.int .i64 n] W (dR W (aN c.S n).1):=by
 obtain ⟨F,⟨vn,L,p,vq,Fs,h1⟩,_,_⟩:=h;exact Dc h1 hn
theorem aaT (h:CH w0 s c t W) (hn:n < c.S.length):Calls prog 16 #[ptr s,.int .i64 n] W fun e w'=>e = .returned (.bool (bU c.V n))/\Below W.heap.size W w':=by
 obtain ⟨F,⟨vn,L,p,vq,Fs,h1⟩,_,_⟩:=h;exact Xf h1 hn
theorem aaJ (h:CH w0 s c t W) (n:Int):Calls prog 17 #[ptr s,.int .i64 n] W fun e w'=>e = .returned (.int .i64 (Wt.rl c.P n))/\Below W.heap.size W w':=by
 obtain ⟨F,⟨vn,L,p,vq,Fs,h1⟩,_,_⟩:=h;exact QN h1 n
theorem F7 (h:CH w0 s c t W):Calls prog 13 #[ptr s] W fun e w'=>e = .returned (.int .i64 c.pl)/\Below W.heap.size W w':=by
 obtain ⟨F,⟨vn,L,p,vq,Fs,h1⟩,_,_⟩:=h;exact L4 h1
theorem UU (h:CH w0 s c t W):Calls prog 10 #[ptr s] W fun e w'=>e = .returned (.int .i64 c.S.length)/\Below W.heap.size W w':=by
 obtain ⟨F,⟨vn,L,p,vq,Fs,h1⟩,_,_⟩:=h;exact Mh h1
variable {v:Value} {L:List mF}
theorem VD (H:Cz W v L B) (e0:gK (dK L)=0) (b:Below w0.heap.size w0 W):Calls prog 6 #[v] W fun e w'=>∃ s,e = .returned (.tuple #[.pointer (some ⟨s,0,none⟩),.int .i64 0])/\CH w0 s (bT (dK L)) 0 w':=by
 refine (IU H).mono fun e w' d=>?_;obtain ⟨b',⟨_,s,F,rfl,cl,lo⟩ | ⟨h,_⟩⟩:=d
 ·exact ⟨s,rfl,F,cl,fun k g=>cE b.size (lo k g),b.trans (b'.mono b.size)⟩
 ·exact absurd e0 h
theorem KZ {z:Int} (H:Cz W v L B) (e0:gK (dK L)=z) (hz:z≠0):Calls prog 6 #[v] W fun e w'=>e = .returned (.tuple #[.pointer none,.int .i64 z])/\Below W.heap.size W w':=by
 refine (IU H).mono fun e w' d=>?_;obtain ⟨b',⟨h,_⟩ | ⟨_,rfl⟩⟩:=d
 ·exact absurd (e0.symm.trans h) hz
 ·exact ⟨by rw [e0],b'⟩
end
variable {w:World} {v:Value}
theorem AQ {L:List aD} (rd:Rd E3 w v L) (each:∀ c∈L,Rd K4 w c.sl c.l/\dF c.l):xV w v L w.heap.size:=by
 have at_:∀ i,i < L.length->fQ L i∈L:=fun i hi=>by
  unfold fQ;rw [af,aq hi];exact dg hi
 exact ⟨rd,fun i hi=>each _ (at_ i hi),fun i hi h0 k hk=>Fs.pq (each _ (at_ i hi)).1 h0 k hk⟩
theorem adG {L:List mF} (rd:Rd KP w v L) (each:∀ c∈L,xV w (sl c.files) c.F w.heap.size):Cz w v L w.heap.size:=by
 refine ⟨rd,fun i hi=>each _ ?_⟩;unfold Be;rw [af,aq hi];exact dg hi
theorem y7 (k:Int) (w:World):(Instr.build 44 #[(0,.int .i64 k)]).run prog w = .ok (.agg #[.int .i64 k,.int .i64 0,.int .i64 0,.int .i64 0,.int .u8 0,.int .u8 0,.int .u8 0,.int .u8 0,.int .i64 0,.int .i64 0,.int .i64 0]) w:=by kernel_rfl
end Cu
