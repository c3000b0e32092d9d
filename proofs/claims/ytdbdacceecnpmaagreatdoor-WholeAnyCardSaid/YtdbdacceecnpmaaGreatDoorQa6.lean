import Derived.Test.YtdbdacceecnpmaaGreatDoorQa5
import Derived.Laws.CopyOwn
import Derived.Deep.CutRange
set_option maxRecDepth 100000
set_option maxHeartbeats 8000000
namespace Go.Proofs.YtdbdacceecnpmaaGreatDoor
open Go.Proofs.Tryz
open Ck (LL dH sE tE)
open Fl (K4 R4 aL ah aj bH dG rat z4)
open Fs (Fx Only St aT dA dD dE dJ dV eO sA sB sD)
open Pa (Ae BH EB Has JL K2 KB KN S2 Ur VY Wm Xp aX bW bX exU jK jP ptr qY sat zZ)
open Ro (E5 dI gT kQ z5)
open Rw (At Ow Rd)
namespace Pa
open Go.RowKit Go.Maps
open Fs (Wf Glob vY iL grown_of)
open Ro (K5)
open Ck (sN lM iW)
attribute [local irreducible] Sd.aV wpQuiet
def Lr (S:bW) (T:LL) (V:List Bool) (P:List S2) (k:Nat):Hr:=fun n=>if 1<=n/\n < k/\xO S T V P n=true then some (Iq S T V P n) else none
section
variable {S:bW} {T:LL} {V:List Bool} {P:List S2}
theorem US:Lr S T V P 1=fun _=>none:=funext fun n=>by unfold Lr;rw [ai (by omega)]
variable {k:Nat}
theorem VJ (h1:1<=k) (h:xO S T V P k=true):hput (Lr S T V P k) k (Iq S T V P k)=Lr S T V P (k+1):=funext fun n=>by
 unfold hput Lr
 by_cases e:n=k
 ·subst e
  rw [an rfl,an ⟨by omega,by omega,h⟩]
 ·rw [ai e]
  by_cases g:1<=n/\n < (k:Int)/\xO S T V P n=true
  ·rw [an g,an ⟨g.1,by omega,g.2.2⟩]
  ·rw [ai g,ai fun q=>g ⟨q.1,by omega,q.2.2⟩]
theorem Zq (h:xO S T V P k=false):Lr S T V P k=Lr S T V P (k+1):=funext fun n=>by
 unfold Lr
 by_cases g:1<=n/\n < (k:Int)/\xO S T V P n=true
 ·rw [an g,an ⟨g.1,by omega,g.2.2⟩]
 ·rw [ai g,ai fun q=>by
   by_cases e:n=k
   ·subst e;rw [h] at q;cases q.2.2
   ·exact g ⟨q.1,by omega,q.2.2⟩]
theorem WG:Lr S T V P 17=hr S T V P:=funext fun n=>by
 unfold Lr hr
 by_cases g:1<=n/\n < ((17:Nat):Int)/\xO S T V P n=true
 ·rw [an g,an ⟨g.1,by omega,g.2.2⟩]
 ·rw [ai g,ai fun q=>g ⟨q.1,by omega,q.2.2⟩]
end
structure H1 (w:World) (b k:Nat) (h:Hr) (wr:World):Prop where
 mp:∃ N,Gv wr b N h/\N<=k
 lo:w.heap.size<=b
 aD:Below w.heap.size w wr
theorem H1.below {w wr wr':World} {b k:Nat} {h:Hr} (H:H1 w b k h wr) (hb:Below wr.heap.size wr wr'):H1 w b k h wr':=by
 obtain ⟨⟨N,m,hN⟩,lo,aD⟩:=H;exact ⟨⟨N,m.below hb,hN⟩,lo,aD.trans (hb.mono aD.size)⟩
def p9 (S:bW) (T:LL) (V:List Bool) (P:List S2):bW:=if jP S T V=0 then Ae S T V (hr S T V P) else []
def jU (w:World) (E:Int) (S':bW) (e:Ending) (w':World):Prop:=∃ v,e = .returned (.tuple #[v,.int .i64 E])/\zZ w' v S'/\Below w.heap.size w w'
theorem Xg (w:World):zZ w (.slice none 0 0) []:=⟨[],Rd.nil w,rfl,fun i hi=>by cases hi⟩
theorem kD {w:World} {vs vt vl vp:Value} {S:bW} {T:LL} {V:List Bool} {P:List S2} (HS:zZ w vs S) (HT:lM w vt T) (HV:Rd KB w vl V) (RP:Rd K2 w vp P) (hg:Glob w) (hd:∀ i,i < S.length->0<=(sat S i).2/\(sat S i).2 < 900000) :
 Calls prog 113 #[vs,vt,vl,vp] w (jU w (jP S T V) (p9 S T V P)):=by
 have FA:Hid (Calls prog 133 #[vs,vt,vl] w fun e w'=>e = .returned (.int .i64 (jP S T V))/\Below w.heap.size w w'):=Hh (by
  obtain ⟨ps,h1,h2,_⟩:=HS;have:=Na w vs vt vl (ps.map some) T V (rd_some h1) HT HV;have e:fE (ps.map some) T V=jP S T V:=by
   unfold fE jP;rw [Xy,bt,h2];simp only [true_and]
  rw [e] at this
  exact this)
 by_cases hE:jP S T V=0
 ·have hcond:1<=S.length/\S.length<=32/\T.length=S.length/\V.length=S.length/\tE T=0:=by
   unfold jP at hE
   split at hE
   ·rename_i h
    exact ⟨h.1,h.2.1,h.2.2.1,h.2.2.2,hE⟩
   ·omega
  have NS:Hid (Ns w vs vt vl S T V):=Hh ⟨HS,HT,HV,hcond.2.2.1,hcond.2.2.2.1,hcond.2.2.2.2⟩;have RR:=Hh RP;have GG:=Hh hg;have DD:=Hh hd;have EL:Hid (p9 S T V P=Ae S T V (hr S T V P)):=Hh (an hE);rw [hE] at FA;rw [hE,EL.out];have HR:Hid (∀ s,Calls prog 134 #[vs,vt,vl,vp,.int .i64 s] w (oF w (Iq S T V P s) (xO S T V P s))):=Hh (fun s=>kH NS RP s);have HE:=Hh (fun W b s=>kH (NS.below (w':=W) b) (RP.below b) s);obtain ⟨sa,cs,rfl,hms⟩:=HS.slice;clear HS HT HV RP hg hd hE HR;generalize hn:S.length=n at *;have HN:=Hh hn;clear hn;have hmm:=@run_makeMap prog
  go_enter func113,ntmps113
  go_wp2_with fail;refine FA.mono ?_;rintro e w1 ⟨rfl,b1⟩;have M0:Hid (H1 w w1.heap.size 0 (Lr S T V P 1) (w1.alloc (.map #[] 0))):=Hh ⟨⟨0,by rw [US];exact Cw w1,ac _⟩,b1.size,b1.alloc b1.size _⟩;clear b1 FA;go_wp2;clear hmm;generalize (w1.alloc (.map #[] 0))=W0 at *;generalize w1.heap.size=b at *
  go_loopw [12] (fun i wr=>∃ k:Nat,1<=k/\k<=17/\i = .int .i64 k/\Hid (H1 w b k (Lr S T V P k) wr)) (fun i _=>17 - (intOf i).toNat)
  case atStart=>exact ⟨1,by omega,by omega,rfl,⟨by obtain ⟨N,m,h⟩:=M0.out.mp;exact ⟨N,m,by omega⟩,M0.out.lo,M0.out.aD⟩⟩
  case round =>
   obtain ⟨k,hk1,hk,rfl,I⟩:=hrel;clear M0
   by_cases hlt:k < 17
   ·have HK:=Hh (HE wr I.aD (k:Int))
    have YY:=Hh (fun h=>VJ (S:=S) (T:=T) (V:=V) (P:=P) (k:=k) hk1 h);have NN:=Hh (fun h=>Zq (S:=S) (T:=T) (V:=V) (P:=P) (k:=k) h);have WK:=Hh (pJ (n:=(k:Int)) ⟨by omega,by omega⟩);unfold oF at HK;go_wp2_with fail;refine HK.mono ?_;rintro e w2 ⟨rfl,b2⟩;have I2:=Hh (I.below b2);clear b2 I HK;generalize Iq S T V P (k:Int)=y at *
    cases hh:xO S T V P (k:Int) with
    | false =>
      have EQ:=Hh (NN hh);have I3:Hid (H1 w b (k+1) (Lr S T V P (k+1)) w2):=Hh ⟨by obtain ⟨N,m,h⟩:=I2.out.mp;exact ⟨N,by rw [← EQ.out];exact m,by omega⟩,I2.out.lo,I2.out.aD⟩;clear YY NN I2 EQ hh;go_wp2
      go_roundw
      case rel=>exact ⟨k+1,by omega,by omega,by go_num,I3⟩
      case measure=>simp [intOf];omega
    | true =>
      have EQ:=Hh (YY hh);obtain ⟨N,m,hN⟩:=I2.mp;have M2:=Hh m;have LO:=Hh I2.lo;have BE:=Hh I2.aD;clear YY NN hh m I2
      go_wp2_with (first
       | (at_mapUpdate;refine Bi rfl _ _ _ rfl rfl M2 (by unfold maxLen;omega) (k:Int) y rfl rfl WK.out ?_;intro w4 m4 g4)
       | fail)
      have I3:Hid (H1 w b (k+1) (Lr S T V P (k+1)) w4):=Hh ⟨⟨N+1,by rw [← EQ.out];exact m4,by omega⟩,LO.out,BE.out.grown g4 BE.out.size (fun j e=>by injection e with e;have:=LO.out;omega)⟩;clear m4 g4 M2 EQ BE LO;go_wp2
      go_roundw
      case rel=>exact ⟨k+1,by omega,by omega,by go_num,I3⟩
      case measure=>simp [intOf];omega
   ·have e17:k=17:=by omega
    rw [e17,WG] at I;clear e17;have HM:Hid (∀ W,Below wr.heap.size wr W->pW W (.map (some b)) (hr S T V P)):=Hh (fun W hb=>by obtain ⟨⟨N,m,_⟩,_,_⟩:=I;exact ⟨b,N,rfl,m.below hb⟩);have BW:=Hh I.aD;have OH:=Hh (EB S T V P);clear I HE;generalize hr S T V P=h at *;have AT:=Hh (fun i hi=>qY S T V h (i:=i) hi);have RL:=Hh (jK S T V h);generalize Ae S T V h=S' at *;clear EL;go_wp2;clear hk1 hk hlt;generalize (k:Int)=kk at *
    rename World=>wA
    go_loopw [45,15] (fun i o wr2=>∃ (k:Nat) (ps:List Nat),k<=n/\i = .int .i64 k/\Hid (PI Yo 76 wA S' k o ps wr2)) (fun i _ _=>n - (intOf i).toNat)
    case atStart=>exact ⟨0,[],ce _,rfl,PI.start wA (aa _ _)⟩
    case round =>
     obtain ⟨k,ps,hk,rfl,I⟩:=hrel;have BI:=Hh (BW.trans (I.aD.mono BW.size));obtain ⟨av,cv,ev,_⟩:=I.own.slice;have OWN:=Hh I.own;generalize ps.length=Lp at ev;subst ev
     by_cases hlt:k < n
     ·have N1:=Hh (NS.below BI)
      obtain ⟨b1,o1,c1,s,e1,cS,hS⟩:=N1.st.one (k:=k) (by have:=HN.out;omega);rw [HN.out] at e1;injection e1 with e1 _ e2;subst e1 e2;obtain ⟨b2,o2,c2,at',ct,e2,cT,_,_⟩:=N1.tb.one (k:=k) (by omega);have RT:=Hh (N1.tb.rd (k:=k) (by omega) e2 cT);rw [hcond.2.2.1] at e2;subst e2;obtain ⟨a3,c3,e3,_,_,h3⟩:=N1.lv;rw [hcond.2.2.2.1] at e3;subst e3;obtain ⟨b3,o3,rfl,A3⟩:=h3 (by omega);have cV:=atB A3 (i:=k) (by omega);rw [show V.getD k false=bX V k from rfl] at cV;have EA:=Hh (AT k (by have:=HN.out;omega));have OKT:=Hh (pK N1.ok (k:=k) (by omega));have ML:=Hh (kQ (iW (sM N1.ok) k (by omega)));have HS2:=Hh hS;clear hS h3 A3 N1;unfold ptr at cS
      cases hv:bX V k with
      | true =>
        rw [hv] at cV;have AP:=Hh (qB HS2 (GG.below BI) (DD k (by omega)) RT.out (fun y hy=>(OKT.out y hy).1) (by have:=ML.out;omega) (HM.out wr I.out.aD) OH.out);rw [hv,an rfl] at EA;unfold yB at AP;clear HS2;generalize (dH T k).length=lk at *;go_wp2_with fail;refine AP.mono ?_;rintro e w5 ⟨g,F5,rfl,st5,lo5,b5⟩;have LN:=Hh I.len;have BL:=b5.alloc b5.size (.cells #[.pointer (some ⟨g,0,none⟩)] 76);have I5:=Hh (I.below j5 BL);have G5:Hid (Yo (w5.alloc (.cells #[.pointer (some ⟨g,0,none⟩)] 76)) g (sat S' k) (Value.slice av Lp cv).ownBlock):=Hh (j5.below (by rw [EA.out];exact J5 st5 lo5 I.out.lt) ((aa w5.heap.size w5).alloc (ac _) _));clear st5 lo5 b5 I OWN AP cS cT cV BL
        (try unfold ptr)
        go_wp2_with (at_builtin;refine bU (K:=KN) underlying171 xL rfl (by omega) rfl _ _ rfl wA.heap.size _ _ rfl I5.out.own _ g rfl ?d1 ?d2 ?d3 ?_)
        case d1 =>
         intro j u hu
         match j,hu with
         | 0,hu=>simp [KN] at hu;subst hu;unfold ptr;go_simp
         | j+1,hu=>simp [KN] at hu
        case d2=>rw [LN.out];omega
        case d3=>have:=I5.aD.size;exact this
        intro v' w6 o6 g6 h6
        have NEW:=Hh (I5.push j5 o6 g6 (by simpa using h6) G5.out);clear o6 g6 h6 I5 G5 LN;obtain ⟨av',cv',ev',_⟩:=NEW.own.slice;generalize (ps ++ [g]).length=Lp' at ev';subst ev';go_wp2
        go_roundw
        case rel=>exact ⟨k+1,ps ++ [g],by omega,by go_num,NEW⟩
        case measure=>simp [intOf];omega
      | false =>
        rw [hv] at cV;rw [hv,ai ef] at EA;have AP:=Hh (pq HS2);unfold iL at AP;clear HS2;generalize (dH T k).length=lk at *;go_wp2_with fail;refine AP.mono ?_;rintro e w5 ⟨g,F5,rfl,st5,lo5,b5⟩;have LN:=Hh I.len;have BL:=b5.alloc b5.size (.cells #[.pointer (some ⟨g,0,none⟩)] 76);have I5:=Hh (I.below j5 BL);have G5:Hid (Yo (w5.alloc (.cells #[.pointer (some ⟨g,0,none⟩)] 76)) g (sat S' k) (Value.slice av Lp cv).ownBlock):=Hh (j5.below (by rw [EA.out];exact J5 st5 lo5 I.out.lt) ((aa w5.heap.size w5).alloc (ac _) _));clear st5 lo5 b5 I OWN AP cS cT cV BL
        (try unfold ptr)
        go_wp2_with (at_builtin;refine bU (K:=KN) underlying171 xL rfl (by omega) rfl _ _ rfl wA.heap.size _ _ rfl I5.out.own _ g rfl ?d1 ?d2 ?d3 ?_)
        case d1 =>
         intro j u hu
         match j,hu with
         | 0,hu=>simp [KN] at hu;subst hu;unfold ptr;go_simp
         | j+1,hu=>simp [KN] at hu
        case d2=>rw [LN.out];omega
        case d3=>have:=I5.aD.size;exact this
        intro v' w6 o6 g6 h6
        have NEW:=Hh (I5.push j5 o6 g6 (by simpa using h6) G5.out);clear o6 g6 h6 I5 G5 LN;obtain ⟨av',cv',ev',_⟩:=NEW.own.slice;generalize (ps ++ [g]).length=Lp' at ev';subst ev';go_wp2
        go_roundw
        case rel=>exact ⟨k+1,ps ++ [g],by omega,by go_num,NEW⟩
        case measure=>simp [intOf];omega
     ·obtain rfl:k=n:=by omega
      have RES:Hid (jU w 0 S' (.returned (.tuple #[.slice av Lp cv,.int .i64 0])) wr):=Hh ⟨_,rfl,PI.stl (S:=S') (by rw [RL.out,HN.out];exact I.out),BI.out⟩;clear I OWN;go_wp2
      go_ret2
      exact RES
 ·have EL:Hid (p9 S T V P = []):=Hh (ai hE)
  rw [EL.out];have HEE:=Hh hE;have hne:(jP S T V != 0)=true:=by simpa using hE
  obtain ⟨sa,cs,rfl,hms⟩:=HS.slice;clear HS HT HV RP hg hd hE;generalize jP S T V=E at *
  go_enter func113,ntmps113
  go_wp2_with fail;refine FA.mono ?_;rintro e w1 ⟨rfl,b1⟩;have RES:Hid (jU w E [] (.returned (.tuple #[.slice none 0 0,.int .i64 E])) w1):=Hh ⟨_,rfl,Xg w1,b1⟩;clear b1 FA;go_wp2
  go_ret2
  exact RES
end Pa
namespace Pa
open Go.RowKit
open Fl (newR)
open Fs (key pY gB gV gz jI nk)
open Ro (gW iO)
open Ck (sN UJ pg BK YM)
open Ua (bit Af te tp tb upd turn par)
theorem JQ {h:Hr} (hh:VY h) {t:List E5} {V:Int->Int->Bool} (hV:∀ n,V n 0=true->iY t n 0 = []) {A:aT} (hA:eO A):eO (dO h t V A):=by
 refine ⟨(Fs.tK (κ:=key) (κ':=key) (f:=kN h t V) (fun _=>rfl)).2 hA.yP,fun e he=>?_,fun e he=>?_,fun e he=>?_⟩
 all_goals
  obtain ⟨c,hc,rfl⟩:=di.1 he
 ·exact hA.nm c hc
 ·obtain ⟨g1,g2,g3,g4,g5⟩:=hA.good c hc
  refine ⟨g1,g2,by rw [mF];exact g3,by rw [mF];exact g4,?_⟩;rw [mF];have:=Fb (h:=h) (t:=t) (V:=V) c (k:=0) (by omega);rw [show ((0:Nat):Int)=0 from rfl] at this;rw [this]
  split
  ·rename_i hv
   rw [hV _ hv,Ex];exact g5
  ·exact g5
 ·intro r hr
  obtain ⟨k,hk⟩:=dq hr;rw [Fh] at hk
  rcases e:c.2.2[k]? with _ | v
  ·rw [e] at hk;cases hk
  ·rw [e] at hk
   simp only [eC,eS] at hk;have hv:=hA.ok c hc v (cU e);rw [← hk]
   split
   ·exact WQ hh _ hv
   ·exact hv
section
end
section
end
end Pa
namespace Re
open Go.RowKit
open Fl (aG jL hdr)
def KI:Rw.Kind Int:=Rw.int .i64
theorem yJ:(prog.info? 3).map (fun i=>(i.zero,i.size,i.bytes))=some (some (.int .i64 0),1,8):=by kernel_rfl
theorem qx (a:Addr):a.add 0=a:=by cases a;simp [Addr.add]
def fA (l:List Int) (i:Nat):Int:=l.getD i 0
variable {w:World} {b off i k:Nat} {l l':List Int}
theorem tq (h:At KI w b off l) (i:Nat) (hi:i < l.length):w.cell? ⟨b,off+i,none⟩=some (.int .i64 (fA l i)):=by
 have c:=h i hi 0 _ rfl;simp only [KI,Rw.int,Nat.mul_one,Nat.add_zero] at c;exact c
theorem pM (h:i < l.length):l[i]? = some (fA l i):=by
 unfold fA;rw [af,am h]
 rfl
theorem qm (hl:l.length=l'.length) (h:∀ i,i < l.length->fA l i=fA l' i):l=l':=by
 refine List.ext_getElem hl fun i h1 h2=>?_;have:=h i h1
 simpa [fA,List.getD,List.getElem?_eq_getElem h1,List.getElem?_eq_getElem h2] using this
def yX (x:Int):Prop:=0<=x/\x<=5
instance (x:Int):Decidable (yX x):=by unfold yX;infer_instance
def fT (l:List Int):Prop:=(0 < l.length/\l.length<=64)/\∀ i,i < l.length->yX (fA l i)
instance (l:List Int):Decidable (fT l):=by unfold fT;infer_instance
def seqB (l:List Int):Bool:=decide (fT l)
theorem UD (hk:k < l.length) (h:¬ yX (fA l k)):false=seqB l:=(aq (fun g=>h (g.2 k hk))).symm
theorem De (h:¬ (0 < l.length/\l.length<=64)):false=seqB l:=(aq (fun g=>h g.1)).symm
theorem Ks (h:0 < l.length/\l.length<=64) (g:∀ i,i < l.length->yX (fA l i)):true=seqB l:=(az ⟨h,g⟩).symm
def gH (x:Int):R4:=(x,0,0,0)
def bE (l:List Int):List R4:=hdr 3 (l.length:Int) :: l.map gH
def fL (l:List Int):List R4:=if fT l then bE l else []
def fP (l:List Int):Int:=if fT l then 3 else 0
def fN (l:List Int):Int:=if fT l then 0 else 1
def gQ (l:List R4):List Int:=(l.drop 1).map (·.1)
def GU (p:Int) (l:List R4):Prop:=aL p l/\fT (gQ l)/\p=3/\l=bE (gQ l)
instance (p:Int) (l:List R4):Decidable (GU p l):=by unfold GU;infer_instance
def sL (p:Int) (l:List R4):List Int:=if GU p l then gQ l else []
def sN (p:Int) (l:List R4):Int:=if GU p l then 0 else 2
theorem Qj (l:List Int):(bE l).length=l.length+1:=by simp [bE]
theorem Cx (l:List R4):(gQ l).length=l.length - 1:=by simp [gQ]
theorem vP (l:List Int):gQ (bE l)=l:=by
 have e:(fun x=>(gH x).1)=(id:Int->Int):=rfl;simp only [gQ,bE,List.drop_succ_cons,List.drop_zero,List.map_map,Function.comp_def,e,List.map_id]
theorem zw (h:fT l):aL 3 (bE l):=by
 have hl:=Qj l;have:=h.1;refine ⟨by omega,by omega,by omega,by omega,?_⟩;have e:((bE l).length:Int) - 1=(l.length:Int):=by omega
 rw [e]
 rfl
theorem Kb (h:fT l):GU 3 (bE l):=⟨zw h,by rw [vP];exact h,rfl,by rw [vP]⟩
theorem TL (h:fT l):sL 3 (bE l)=l/\sN 3 (bE l)=0:=by
 unfold sL sN;rw [an (Kb h),an (Kb h),vP];exact ⟨rfl,rfl⟩
variable {x p t:Int}
theorem aa9 (h:yX x):bH (gH x):=by
 obtain ⟨a,b⟩:=h;unfold bH gH;simp only
 omega
theorem Uw (h:fT l):∀ x∈l,yX x:=fun x hx=>by
 obtain ⟨i,hi,e⟩:=dv hx;have g:=h.2 i hi;have e':fA l i=x:=by
  have:=pM hi;rw [am hi,e] at this;exact (cN this).symm
 rw [e'] at g;exact g
theorem JK (h:fT l):dG (bE l):=by
 intro r hr
 rcases cj.1 hr with rfl | hr
 ·have:=h.1
  have hb:∀ n:Fin 65,bH (hdr 3 (n.val:Int)):=by unfold bH;decide +kernel
  have e:=hb ⟨l.length,by omega⟩
  simpa using e
 ·obtain ⟨x,hx,rfl⟩:=di.1 hr
  exact aa9 (Uw h x hx)
theorem aaP {l:List R4} (h:i+1 < l.length):fA (gQ l) i=(rat l (i+1)).1:=by
 have e:(gQ l)[i]? = some (rat l (i+1)).1:=by
  unfold gQ rat;rw [cL,List.getElem?_drop,Nat.add_comm 1 i,af,am h]
  rfl
 unfold fA;rw [af,e]
 rfl
theorem abj {l:List R4} (h:¬ GU p l):sL p l = []/\sN p l=2:=⟨ai h,ai h⟩
theorem Ll {l:List R4} (h:GU p l):sL p l=gQ l/\sN p l=0:=⟨an h,an h⟩
theorem Ta {l:List R4} (h:k+1 < l.length):(gQ l).take k ++ [(rat l (k+1)).1]=(gQ l).take (k+1):=by
 rw [dm,pM (by rw [Cx];omega),aaP h]
 rfl
def part (h:R4) (l:List Int) (k:Nat):List R4:=h :: ((l.take k).map gH ++ List.replicate (l.length - k) z4)
theorem xx (h:R4) (l:List Int) (k:Nat) (hk:k<=l.length):(part h l k).length=l.length+1:=by
 simp [part,List.length_take]
 omega
theorem nV (h:R4) (l:List Int):part h l 0=h :: List.replicate l.length z4:=by simp [part]
theorem mO (hk:k < l.length):l.take (k+1)=l.take k ++ [fA l k]:=by
 rw [dm,pM hk]
 rfl
theorem xD (h:R4) (hk:k < l.length):(part h l k).set (1+k) (gH (fA l k))=part h l (k+1):=by
 have e1:(l.take k).length=k:=by rw [cD];omega
 unfold part;rw [Nat.add_comm 1 k,List.set_cons_succ,gg _ _ (by rw [bt,e1];omega),bt,e1,Nat.sub_self,mO hk];rw [show l.length - k=(l.length - (k+1))+1 by omega,List.replicate_succ]
 simp
theorem xI (h:R4) (l:List Int):part h l l.length=h :: l.map gH:=by
 unfold part;rw [cX,Nat.sub_self]
 simp
theorem Ra (h:R4) (hk:k < l.length):(h :: (l.take k).map gH) ++ [gH (fA l k)]=h :: (l.take (k+1)).map gH:=by
 rw [mO hk]
 simp
def H9 (l:List Int) (t:Int):Prop:=fT l/\0<=t/\t < l.length
instance (l:List Int) (t:Int):Decidable (H9 l t):=by unfold H9;infer_instance
def nR (l:List Int) (t:Int):Int:=if H9 l t then fA l t.toNat else 0
def nT (l:List Int) (t:Int):Int:=if H9 l t then (if t+1=l.length then 0 else t+1) else 0
def nE (l:List Int) (t:Int):Int:=if H9 l t then 0 else 1
def jT (w:World) (l:List Int) (t:Int) (e:Ending) (w':World):Prop:=e = .returned (.tuple #[.int .i64 (nR l t),.int .i64 (nT l t),.int .i64 (nE l t)])/\Below w.heap.size w w'
theorem Lg (h:¬ H9 l t) (w':World) (hb:Below w.heap.size w w'):jT w l t (.returned (.tuple #[.int .i64 0,.int .i64 0,.int .i64 1])) w':=⟨by unfold nR nT nE;rw [ai h,ai h,ai h],hb⟩
theorem Mq (h:H9 l k) (h1:k+1=l.length) (w':World) (hb:Below w.heap.size w w'):jT w l k (.returned (.tuple #[.int .i64 (fA l k),.int .i64 0,.int .i64 0])) w':=⟨by unfold nR nT nE;rw [an h,an h,an h,an (by omega)];rfl,hb⟩
theorem Nk (h:H9 l k) (h1:k+1≠l.length) (w':World) (hb:Below w.heap.size w w'):jT w l k (.returned (.tuple #[.int .i64 (fA l k),.int .i64 ((k:Int)+1),.int .i64 0])) w':=⟨by unfold nR nT nE;rw [an h,an h,an h,ai (by omega)];rfl,hb⟩
def mQ (w:World) (p:Int) (l:List R4) (e:Ending) (w':World):Prop:=∃ u,e = .returned (.tuple #[u,.int .i64 (sN p l)])/\Rd KI w' u (sL p l)/\Below w.heap.size w w'
def dS (w:World) (l:List Int) (e:Ending) (w':World):Prop:=∃ u,e = .returned (.tuple #[Fl.file (fP l) u,.int .i64 (fN l)])/\Rd K4 w' u (fL l)/\Below w.heap.size w w'
theorem tQ (h:¬ fT l) (w':World) (hb:Below w.heap.size w w'):dS w l (.returned (.tuple #[Fl.file 0 (.slice none 0 0),.int .i64 1])) w' :=
 ⟨_,by unfold fP fN;rw [ai h,ai h],by unfold fL;rw [ai h];exact Rw.Rd.nil _,hb⟩
theorem oP (h:fT l) (u:Value) (w':World) (hr:Rd K4 w' u (bE l)) (hb:Below w.heap.size w w'):dS w l (.returned (.tuple #[Fl.file 3 u,.int .i64 0])) w' :=
 ⟨u,by unfold fP fN;rw [an h,an h],by unfold fL;rw [an h];exact hr,hb⟩
theorem JO {l:List R4} (h:¬ GU p l) (w':World) (hb:Below w.heap.size w w'):mQ w p l (.returned (.tuple #[.slice none 0 0,.int .i64 2])) w' :=
 ⟨_,by rw [(abj h).2],by rw [(abj h).1];exact Rw.Rd.nil _,hb⟩
theorem JD {l:List R4} (h:GU p l) (u:Value) (w':World) (hr:Rd KI w' u (gQ l)) (hb:Below w.heap.size w w'):mQ w p l (.returned (.tuple #[u,.int .i64 0])) w' :=
 ⟨u,by rw [(Ll h).2],by rw [(Ll h).1];exact hr,hb⟩
end Re
namespace Wt
structure A where
 r0:Int
 q0:Int
 r1:Int
 q1:Int
def new:A:=⟨1,0,2,0⟩
def t1 (a:A):A:=if a.r0≠1/\a.r1≠1/\((a.r0=2/\4<=a.q0)\/(a.r0=3/\8<=a.q0)) then { a with r0:=1 } else a
def t2 (a:A):A:=if a.r0≠1/\a.r1≠1/\((a.r1=2/\4<=a.q1)\/(a.r1=3/\9<=a.q1)) then { a with r1:=1 } else a
def tk (a:A):A:=t2 (t1 a)
def hdN (r:Int):Int:=if r=3 then 2 else r
def op (a:A):Int:=if a.r0=1 then 0 else if a.r1=1 then 1 else -1
def hd (a:A):A:=if a.r0=1 then ⟨1,0,hdN a.r1,0⟩ else if a.r1=1 then ⟨hdN a.r0,0,1,0⟩ else ⟨a.r0,a.q0+1,a.r1,a.q1+1⟩
def opn (a:A):Int:=op (tk a)
def lH (a:A):A:=hd (tk a)
def rl (a:A) (n:Int):Int:=if n=0 then a.r0 else if n=1 then a.r1 else 0
def FT (a:A) (n:Int):Int:=if n=0 then (if a.r0=4 then 10 else 0) else if n=1 then (if a.r1=4 then 10 else 0) else 1
def rP (a:A) (n:Int):A:=if n=0 then { a with r0:=4 } else if n=1 then { a with r1:=4 } else a
def rsE (a:A) (n:Int):Int:=if n=0 then (if a.r0=4 then 0 else 10) else if n=1 then (if a.r1=4 then 0 else 10) else 1
def rM (a:A) (n:Int):A:=if n=0 then (if a.r0=4 then { a with r0:=3,q0:=0 } else a) else if n=1 then (if a.r1=4 then { a with r1:=3,q1:=0 } else a) else a
structure Ok (a:A):Prop where
 b0:1<=a.r0/\a.r0<=4
 b1:1<=a.r1/\a.r1<=4
 one:¬ (a.r0=1/\a.r1=1)
 p0:0<=a.q0
 p1:0<=a.q1
theorem aaT:Ok new:=⟨by decide,by decide,by decide,by decide,by decide⟩
section
variable {a:A} (h:Ok a)
include h
theorem Ok.t1:Ok (t1 a):=by
 obtain ⟨h1,h2,h3,h4,h5⟩:=h;unfold Wt.t1
 split
 ·rename_i g
  exact ⟨by simp,h2,fun q=>g.2.1 q.2,h4,h5⟩
 ·exact ⟨h1,h2,h3,h4,h5⟩
theorem Ok.t2:Ok (t2 a):=by
 obtain ⟨h1,h2,h3,h4,h5⟩:=h;unfold Wt.t2
 split
 ·rename_i g
  exact ⟨h1,by simp,fun q=>g.1 q.1,h4,h5⟩
 ·exact ⟨h1,h2,h3,h4,h5⟩
theorem Ok.tk:Ok (tk a):=h.t1.t2
theorem Ok.hd:Ok (hd a):=by
 obtain ⟨h1,h2,h3,h4,h5⟩:=h;unfold Wt.hd hdN
 split
 ·refine ⟨by simp,?_,?_,by simp,by simp⟩ <;> simp only <;> split <;> omega
 ·split
  ·refine ⟨?_,by simp,?_,by simp,by simp⟩ <;> simp only <;> split <;> omega
  ·exact ⟨h1,h2,h3,by simp only;omega,by simp only;omega⟩
theorem Ok.lH:Ok (lH a):=h.tk.hd
theorem Ok.cr (n:Int):Ok (rP a n):=by
 obtain ⟨h1,h2,h3,h4,h5⟩:=h;unfold rP
 split
 ·exact ⟨by simp,h2,by simp,h4,h5⟩
 ·split
  ·exact ⟨h1,by simp,by simp,h4,h5⟩
  ·exact ⟨h1,h2,h3,h4,h5⟩
theorem Ok.rs (n:Int):Ok (rM a n):=by
 obtain ⟨h1,h2,h3,h4,h5⟩:=h;unfold rM
 split
 ·split
  ·exact ⟨by simp,h2,by simp,by simp,h5⟩
  ·exact ⟨h1,h2,h3,h4,h5⟩
 ·split
  ·split
   ·exact ⟨h1,by simp,by simp,h4,by simp⟩
   ·exact ⟨h1,h2,h3,h4,h5⟩
  ·exact ⟨h1,h2,h3,h4,h5⟩
end
def d0 (a:A):Prop:=(a.r0=2/\4<=a.q0)\/(a.r0=3/\8<=a.q0)
def d1 (a:A):Prop:=(a.r1=2/\4<=a.q1)\/(a.r1=3/\9<=a.q1)
theorem Nw (a:A):(opn a=0/\(a.r0=1\/(a.r0≠1/\a.r1≠1/\d0 a))/\(lH a).r0=1)\/(opn a=1/\a.r0≠1/\(a.r1=1\/(a.r1≠1/\¬ d0 a/\d1 a))/\(lH a).r1=1)\/(opn a = -1/\a.r0≠1/\a.r1≠1/\¬ d0 a/\¬ d1 a/\lH a=⟨a.r0,a.q0+1,a.r1,a.q1+1⟩):=by
 obtain ⟨r0,q0,r1,q1⟩:=a;unfold opn lH tk t1 t2 op hd d0 d1
 by_cases e0:r0=1
 ·exact .inl (by simp [e0])
 ·by_cases e1:r1=1
  ·exact .inr (.inl (by simp [e0,e1]))
  ·by_cases g0:(r0=2/\4<=q0)\/(r0=3/\8<=q0)
   ·exact .inl (by simp [e0,e1,g0])
   ·by_cases g1:(r1=2/\4<=q1)\/(r1=3/\9<=q1)
    ·exact .inr (.inl (by simp [e0,e1,g0,g1]))
    ·exact .inr (.inr (by simp [e0,e1,g0,g1]))
section
end
end Wt
namespace Cu
open Fs (key jq nN)
open Pa (p9 hr JQ)
open Ro (kU qj Ke)
open Re (fA sL sN fT gQ GU)
def fB (A:aT) (n:Int):Bool:=(Fs.look key n A).isSome
def fP (A:aT) (n:Int):Int:=match Fs.look key n A with | none=>0 | some e=>e.2.1
def fR (A:aT) (n:Int):List R4:=match Fs.look key n A with | none=>[] | some e=>e.2.2
theorem YB {A:aT} (h:eO A) (n:Int):dG (fR A n):=by
 unfold fR
 split
 ·exact nofun
 ·rename_i e he
  exact (h.find he).2.2.1
def jO (A:aT):List Int:=sL (fP A 40) (fR A 40)
def y8 (A:aT):Bool:=fB A 40 && decide (sN (fP A 40) (fR A 40)=0)
theorem Kl {A:aT} (h:y8 A=true):fT (jO A):=by
 unfold y8 at h;rw [br,cI] at h;obtain ⟨_,h⟩:=h;unfold jO sL;unfold sN at h
 split
 ·rename_i g
  exact g.2.1
 ·rename_i g
  rw [ai g] at h
  omega
structure Cs where
 S:bW
 V:List Bool
 P:Wt.A
 pl:Nat
 Q:List S2
def Tt (S:bW) (n:Int):LL:=S.map fun x=>kU (fP x.1 (32+n)) (fR x.1 (32+n))
theorem KF (S:bW) (n:Int):(Tt S n).length=S.length:=bt _
theorem ZB (S:bW) (n:Int) {i:Nat} (hi:i < S.length):dH (Tt S n) i=kU (fP (sat S i).1 (32+n)) (fR (sat S i).1 (32+n)):=by
 unfold dH Tt sat;rw [af,cL,am hi,cJ,af,am hi]
 rfl
variable {S:bW} {n:Int} {t:List E5}
theorem Vg (h:t∈Tt S n):t.length<=16/\∀ x∈t,gT x:=by
 obtain ⟨x,_,rfl⟩:=di.1 h;have m:=Ke (fP x.1 (32+n)) (fR x.1 (32+n));refine ⟨kQ m,fun y hy=>?_⟩;obtain ⟨i,hi⟩:=dq hy;have hl:=(cg.1 hi).1;have:=(m i hl).1;rw [Ro.iO hl] at hi;injection hi with hi;rw [← hi];exact this
def C8 (c:Cs) (l:List Int):Nat:=if l.length<=c.pl then 0 else c.pl
def tq (c:Cs) (l:List Int):Nat:=if C8 c l+1=l.length then 0 else C8 c l+1
def own (c:Cs):aT:=(sat c.S (Wt.opn c.P)).1
def rT (c:Cs):LL:=Tt c.S (fA (jO (own c)) (C8 c (jO (own c))))
def rE (c:Cs):Int:=if Wt.opn c.P < 0 then 0 else if y8 (own c)=true then jP c.S (rT c) c.V else 2
def rC (c:Cs):Cs :=
 if Wt.opn c.P < 0 then { c with P:=Wt.lH c.P,Q:=[] }
 else if y8 (own c)=true then { S:=if jP c.S (rT c) c.V=0 then p9 c.S (rT c) c.V c.Q else c.S,V:=c.V,P:=Wt.lH c.P,pl:=tq c (jO (own c)),Q:=[] }
 else { c with P:=Wt.lH c.P,Q:=[] }
structure Ac where
 k:Int
 n:Int
 f:Int
 r:Int
 v:R4
 s:Int
 m:Int
 t:Int
def no (c:Cs) (n:Int):Prop:=n < 0\/(c.S.length:Int)<=n
instance (c:Cs) (n:Int):Decidable (no c n):=by unfold no;infer_instance
def bP (x:Ac) (c:Cs):Int :=
 if x.k=1 then rE c
 else if x.k=3 then (if c.Q.length=32 then 11 else 0)
 else if x.k < 2\/6 < x.k\/no c x.n then 1
 else if x.k=2 then (if bX c.V x.n=true then (if sB (sat c.S x.n).1 x.f x.r=true then 0 else 3) else 10)
 else if x.k=4 then (if bX c.V x.n=true then 0 else 10)
 else if x.k=5 then (if bX c.V x.n=true then 10 else 0)
 else if x.t < -2000\/2000 < x.t then 1 else 0
def iQ (S:bW) (n:Int) (x:aT×Int):bW:=S.set n.toNat x
def bO (x:Ac) (c:Cs):Cs :=
 if x.k=1 then rC c
 else if bP x c≠0 then c
 else if x.k=3 then { c with Q:=c.Q ++ [(x.s,x.m)] }
 else if x.k=2 then { c with S:=iQ c.S x.n (sA (sat c.S x.n).1 x.f x.r x.v,(sat c.S x.n).2) }
 else if x.k=4 then { c with V:=c.V.set x.n.toNat false,P:=Wt.rP c.P x.n }
 else if x.k=5 then { c with V:=c.V.set x.n.toNat true,P:=Wt.rM c.P x.n }
 else c
def wM (c:Cs) (n o f r:Int):Int:=if no c n then 1 else if bX c.V n=true then dE (sat c.S n).1 o f r else 13
def A9 (c:Cs) (n o f r:Int) (x:R4):R4:=if wM c n o f r=0 then dV (sat c.S n).1 o f r x else z4
def AQ (c:Cs) (n o f r:Int) (x:R4):Cs:=if no c n\/bX c.V n=false then c else { c with S:=iQ c.S n (dA (sat c.S n).1 o f r x,dD (sat c.S n).1 o f r (sat c.S n).2) }
structure jB (c:Cs) (t:Nat):Prop where
 len:2<=c.S.length/\c.S.length<=32
 lv:c.V.length=c.S.length
 st:∀ i,i < c.S.length->eO (sat c.S i).1/\0<=(sat c.S i).2/\(sat c.S i).2<=100 * t
 pr:Wt.Ok c.P
 pl:c.pl<=64
 few:c.Q.length<=32
theorem KA {x:aT×Int} (h0:0<=n) (h1:n < S.length) (i:Nat):sat (iQ S n x) i=if (i:Int)=n then x else sat S i:=by
 unfold sat iQ;rw [cJ,af,af,gS]
 by_cases e:(i:Int)=n
 ·subst e
  rw [cJ,an rfl,an (by omega),an rfl]
  rfl
 ·rw [ai (by omega),ai e]
theorem ZJ : ∀ {s:aT×Int},eO s.1->eO (t.foldl Xp s).1:=by
 induction t with
 | nil=>exact id
 | cons x r ih =>
   intro s h
   rw [cd]
   apply ih
   unfold Xp
   split
   ·exact h.do Fl.lG
   ·exact h
theorem aaE {h:Pa.Hr} (hh:VY h) (ok:∀ x∈t,gT x) {s:aT×Int} (hA:eO s.1):eO (Wm h t s).1:=by
 have h0:∀ n,(fun _ _=>true:Int->Int->Bool) n 0=true->Pa.iY t n 0 = []:=fun n _=>List.filter_eq_nil_iff.2 fun x hx2 g=>by
  have k:=ok x hx2;unfold Pa.mt at g;have g:=of_decide_eq_true g;unfold gT Ro.place at k
  omega
 exact ZJ (JQ hh h0 hA)
section
variable {c:Cs} {t:Nat} (h:jB c t)
include h
theorem jB.next:jB c (t+1):=⟨h.len,h.lv,fun i hi=>by have:=h.st i hi;exact ⟨this.1,this.2.1,by omega⟩,h.pr,h.pl,h.few⟩
theorem jB.iQ {n:Int} {x:aT×Int} (h0:0<=n) (h1:n < c.S.length) (hx:eO x.1/\0<=x.2/\x.2<=100 * (t+1:Nat)):jB { c with S:=Cu.iQ c.S n x } (t+1):=by
 have hl:(Cu.iQ c.S n x).length=c.S.length:=cA;refine ⟨by rw [hl];exact h.len,h.lv.trans hl.symm,fun i hi=>?_,h.pr,h.pl,h.few⟩;rw [hl] at hi
 show eO (sat (Cu.iQ c.S n x) i).1/\_
 rw [KA h0 h1]
 split
 ·exact hx
 ·have:=h.st i hi;exact ⟨this.1,this.2.1,by omega⟩
theorem jB.round:jB (rC c) (t+1):=by
 have n:=h.next;unfold rC
 split
 ·exact ⟨n.len,n.lv,n.st,h.pr.lH,n.pl,by simp⟩
 ·split
  ·rename_i hs
   have sq:=Kl hs;have hl:(if jP c.S (rT c) c.V=0 then p9 c.S (rT c) c.V c.Q else c.S).length=c.S.length:=by
    split
    ·rename_i e
     have er:p9 c.S (rT c) c.V c.Q=Ae c.S (rT c) c.V (hr c.S (rT c) c.V c.Q):=an e;rw [er,jK]
    ·rfl
   refine ⟨by rw [hl];exact h.len,h.lv.trans hl.symm,fun i hi=>?_,h.pr.lH,?_,by simp⟩
   ·rw [hl] at hi
    show eO (sat (if jP c.S (rT c) c.V=0 then p9 c.S (rT c) c.V c.Q else c.S) i).1/\0<=(sat (if jP c.S (rT c) c.V=0 then p9 c.S (rT c) c.V c.Q else c.S) i).2/\(sat (if jP c.S (rT c) c.V=0 then p9 c.S (rT c) c.V c.Q else c.S) i).2<=_
    have hi':=h.st i hi
    split
    ·rename_i e
     have er:p9 c.S (rT c) c.V c.Q=Ae c.S (rT c) c.V (hr c.S (rT c) c.V c.Q):=an e;rw [er,qY _ _ _ _ hi]
     split
     ·have hm:dH (rT c) i∈rT c:=by
       have hl2:i < (rT c).length:=by unfold rT;rw [KF];exact hi
       unfold dH;rw [af,am hl2];exact dk hl2
      obtain ⟨m1,m2⟩:=Vg (S:=c.S) (n:=fA (jO (own c)) (C8 c (jO (own c)))) hm;have hd:=JL (t:=dH (rT c) i) ((Pa.sH (hr c.S (rT c) c.V c.Q) (dH (rT c) i) (sat c.S i).1),(sat c.S i).2) (dH (rT c) i).length;rw [BH] at hd;simp only at hd;exact ⟨aaE (EB _ _ _ _) m2 hi'.1,by omega,by omega⟩
     ·exact ⟨hi'.1,hi'.2.1,by omega⟩
    ·exact ⟨hi'.1,hi'.2.1,by omega⟩
   ·show tq c (jO (own c))<=64
    unfold tq C8;have:=sq.1;have:=h.pl
    split <;> split <;> omega
  ·exact ⟨n.len,n.lv,n.st,h.pr.lH,n.pl,by simp⟩
theorem jB.act (x:Ac) (hx:bH x.v):jB (bO x c) (t+1):=by
 have n:=h.next;unfold bO
 by_cases h1:x.k=1
 ·rw [an h1];exact h.round
 ·rw [ai h1]
  by_cases he:bP x c≠0
  ·rw [an he];exact n
  ·rw [ai he]
   have he:=Classical.not_not.1 he;unfold bP at he;rw [ai h1] at he
   by_cases h3:x.k=3
   ·rw [an h3]
    rw [an h3] at he;refine ⟨n.len,n.lv,n.st,n.pr,n.pl,?_⟩
    show (c.Q ++ [(x.s,x.m)]).length<=32
    have:=h.few;rw [cP]
    split at he
    ·omega
    ·simp only [eE,go];omega
   ·rw [ai h3]
    rw [ai h3] at he
    by_cases hn:x.k < 2\/6 < x.k\/no c x.n
    ·rw [an hn] at he;omega
    ·have hin:0<=x.n/\x.n < c.S.length:=by
      have:¬ no c x.n:=fun g=>hn (.inr (.inr g));unfold no at this
      omega
     by_cases h2:x.k=2
     ·rw [an h2]
      have hs:=h.st x.n.toNat (by omega);rw [eN hin.1] at hs;exact h.iQ hin.1 hin.2 ⟨hs.1.set hx,hs.2.1,by simp only;omega⟩
     ·rw [ai h2]
      by_cases h4:x.k=4
      ·rw [an h4]
       exact ⟨n.len,by show (c.V.set _ _).length=_;rw [cA];exact h.lv,n.st,h.pr.cr x.n,n.pl,n.few⟩
      ·rw [ai h4]
       by_cases h5:x.k=5
       ·rw [an h5]
        exact ⟨n.len,by show (c.V.set _ _).length=_;rw [cA];exact h.lv,n.st,h.pr.rs x.n,n.pl,n.few⟩
       ·rw [ai h5];exact n
theorem jB.serve (n o f r:Int) (x:R4) (hx:bH x):jB (AQ c n o f r x) (t+1):=by
 unfold AQ
 split
 ·exact h.next
 ·rename_i g
  have hin:0<=n/\n < c.S.length:=by
   have:¬ no c n:=fun q=>g (.inl q);unfold no at this
   omega
  have hs:=h.st n.toNat (by omega);rw [eN hin.1] at hs;have:=Ur (A:=(sat c.S n).1) (o:=o) (f:=f) (r:=r) (d:=(sat c.S n).2);exact h.iQ hin.1 hin.2 ⟨hs.1.do hx,by simp only;omega,by simp only;omega⟩
end
theorem oJ {V:List Bool} {b:Bool} (h0:0<=n) (h1:n < V.length) (i:Int) (hi:0<=i):bX (V.set n.toNat b) i=if i=n then b else bX V i:=by
 unfold bX;rw [af,af,gS]
 by_cases e:i=n
 ·subst e
  rw [an rfl,an (by omega),an rfl]
  rfl
 ·rw [ai (by omega),ai e]
abbrev Pl:=List sD×Int
def fC (L:List Pl) (i:Nat):Pl:=L.getD i ([],0)
def gdF (F:List sD):Prop:=Fs.pY key F/\∀ e∈F,(0<=e.1/\e.1<=63)/\aL e.2.1 e.2.2
def Nn (p:Pl):Prop:=gdF p.1/\-2000<=p.2/\p.2<=2000
def agree (L:List Pl):Prop:=y8 (fC L 0).1=true/\fB (fC L 1).1 40=true/\fP (fC L 0).1 40=fP (fC L 1).1 40/\fR (fC L 0).1 40=fR (fC L 1).1 40
open Classical in
noncomputable def newE (L:List Pl):Int:=if L.length < 2\/32 < L.length then 1 else if ∀ p∈L,Nn p then (if agree L then 0 else 10) else 2
def newC (L:List Pl):Cs:=⟨L.map fun p=>(p.1,0),L.map fun _=>true,Wt.new,0,[]⟩
variable {L:List Pl} {i t:Nat}
theorem Be (hi:i < L.length):sat (newC L).S i=((fC L i).1,0):=by
 unfold sat newC fC;rw [cJ,af,cL,am hi,af,am hi]
 rfl
theorem KY (hi:i < L.length):bX (newC L).V i=true:=by
 unfold bX newC;rw [cJ,af,cL,am hi]
 rfl
theorem Iy (h:newE L=0) (ok:∀ p∈L,∀ e∈p.1,dG e.2.2):jB (newC L) 0:=by
 unfold newE at h
 split at h
 ·omega
 ·rename_i hl
  split at h
  ·rename_i hg
   have hll:(newC L).S.length=L.length:=bt _;refine ⟨by rw [hll];omega,by show (L.map _).length=(L.map _).length;rw [bt,bt],fun i hi=>?_,Wt.aaT,by show 0<=64;omega,by show 0<=32;omega⟩;have hi':i < L.length:=by
    have:(newC L).S.length=L.length:=bt _
    omega
   have hm:fC L i∈L:=by
    unfold fC;rw [af,am hi'];exact dk hi'
   obtain ⟨⟨g1,g2⟩,_⟩:=hg _ hm;rw [Be hi'];exact ⟨⟨g1,fun e he=>(g2 e he).1,fun e he=>(g2 e he).2,ok (fC L i) hm⟩,gR _,by omega⟩
  ·omega
def d9 (x:Ac):Array Value:=#[.int .i64 x.k,.int .i64 x.n,.int .i64 x.f,.int .i64 x.r,.int .u8 x.v.1,.int .u8 x.v.2.1,.int .u8 x.v.2.2.1,.int .u8 x.v.2.2.2,.int .i64 x.s,.int .i64 x.m,.int .i64 x.t]
def jD (x:Ac):Value:=.agg (d9 x)
def nL (c:Cs):Prop:=(bX c.V 0=true↔c.P.r0≠4)/\(bX c.V 1=true↔c.P.r1≠4)
theorem acA (a:Wt.A):((Wt.t1 a).r0=4↔a.r0=4)/\(Wt.t1 a).r1=a.r1:=by
 unfold Wt.t1
 split
 ·rename_i g
  refine ⟨?_,rfl⟩
  show (1:Int)=4↔_
  omega
 ·exact ⟨Iff.rfl,rfl⟩
theorem acM (a:Wt.A):((Wt.t2 a).r1=4↔a.r1=4)/\(Wt.t2 a).r0=a.r0:=by
 unfold Wt.t2
 split
 ·rename_i g
  refine ⟨?_,rfl⟩
  show (1:Int)=4↔_
  omega
 ·exact ⟨Iff.rfl,rfl⟩
theorem Ym (r:Int):Wt.hdN r=4↔r=4:=by
 unfold Wt.hdN
 split <;> omega
theorem ac1 (a:Wt.A):((Wt.hd a).r0=4↔a.r0=4)/\((Wt.hd a).r1=4↔a.r1=4):=by
 unfold Wt.hd
 split
 ·rename_i g
  refine ⟨?_,Ym _⟩
  show (1:Int)=4↔_
  omega
 ·split
  ·rename_i g
   refine ⟨Ym _,?_⟩
   show (1:Int)=4↔_
   omega
  ·exact ⟨Iff.rfl,Iff.rfl⟩
theorem abh (a:Wt.A):((Wt.lH a).r0=4↔a.r0=4)/\((Wt.lH a).r1=4↔a.r1=4):=by
 unfold Wt.lH Wt.tk;have h1:=ac1 (Wt.t2 (Wt.t1 a));have h2:=acM (Wt.t1 a);have h3:=acA a;rw [h1.1,h1.2,h2.1,h2.2,h3.1,h3.2];exact ⟨Iff.rfl,Iff.rfl⟩
theorem nL.lH {c:Cs} (h:nL c):(bX c.V 0=true↔(Wt.lH c.P).r0≠4)/\(bX c.V 1=true↔(Wt.lH c.P).r1≠4):=by
 have q:=abh c.P;refine ⟨h.1.trans ?_,h.2.trans ?_⟩
 ·rw [Ne,Ne,q.1]
 ·rw [Ne,Ne,q.2]
variable {c:Cs}
theorem nL.round (h:nL c):nL (rC c):=by
 have q:=h.lH;unfold rC
 split
 ·exact q
 ·split
  ·exact q
  ·exact q
theorem BU (L:List Pl) (h:2<=L.length):nL (newC L):=by
 refine ⟨?_,?_⟩
 ·have:=KY (L:=L) (i:=0) (by omega)
  rw [show bX (newC L).V 0=true from this]
  show true=true↔(1:Int)≠4
  simp
 ·have:=KY (L:=L) (i:=1) (by omega)
  rw [show bX (newC L).V 1=true from this]
  show true=true↔(2:Int)≠4
  simp
theorem nL.act (h:nL c) (ok:jB c t) (x:Ac):nL (bO x c):=by
 unfold bO
 by_cases h1:x.k=1
 ·rw [an h1];exact h.round
 ·rw [ai h1]
  by_cases he:bP x c≠0
  ·rw [an he];exact h
  ·rw [ai he]
   have he:=Classical.not_not.1 he;unfold bP at he;rw [ai h1] at he
   by_cases h3:x.k=3
   ·rw [an h3];exact h
   ·rw [ai h3]
    rw [ai h3] at he
    by_cases hn:x.k < 2\/6 < x.k\/no c x.n
    ·rw [an hn] at he;omega
    ·rw [ai hn] at he
     have hin:0<=x.n/\x.n < c.S.length:=by
      have:¬ no c x.n:=fun g=>hn (.inr (.inr g));unfold no at this
      omega
     have hv:=ok.lv
     by_cases h2:x.k=2
     ·rw [an h2];exact h
     ·rw [ai h2]
      by_cases h4:x.k=4
      ·rw [an h4]
       have v0:bX (c.V.set x.n.toNat false) 0=_:=oJ hin.1 (by omega) 0 (by omega);have v1:bX (c.V.set x.n.toNat false) 1=_:=oJ hin.1 (by omega) 1 (by omega);refine ⟨?_,?_⟩
       ·show bX (c.V.set x.n.toNat false) 0=true↔(Wt.rP c.P x.n).r0≠4
        rw [v0];unfold Wt.rP
        by_cases e:x.n=0
        ·rw [an e.symm,an e];simp
        ·rw [ai (fun g=>e g.symm),ai e]
         split <;> exact h.1
       ·show bX (c.V.set x.n.toNat false) 1=true↔(Wt.rP c.P x.n).r1≠4
        rw [v1];unfold Wt.rP
        by_cases e:x.n=0
        ·rw [ai (by omega),an e];exact h.2
        ·rw [ai e]
         by_cases e1:x.n=1
         ·rw [an e1.symm,an e1];simp
         ·rw [ai (fun g=>e1 g.symm),ai e1];exact h.2
      ·rw [ai h4]
       rw [ai h2,ai h4] at he
       by_cases h5:x.k=5
       ·rw [an h5]
        rw [an h5] at he;have hvn:bX c.V x.n=false:=by
         cases hb:bX c.V x.n with
         | false=>rfl
         | true=>rw [hb,an rfl] at he;omega
        have v0:bX (c.V.set x.n.toNat true) 0=_:=oJ hin.1 (by omega) 0 (by omega);have v1:bX (c.V.set x.n.toNat true) 1=_:=oJ hin.1 (by omega) 1 (by omega);refine ⟨?_,?_⟩
        ·show bX (c.V.set x.n.toNat true) 0=true↔(Wt.rM c.P x.n).r0≠4
         rw [v0];unfold Wt.rM
         by_cases e:x.n=0
         ·rw [an e.symm,an e]
          have r4:c.P.r0=4:=Classical.not_not.1 fun g=>by have:=h.1.2 g;rw [e] at hvn;rw [hvn] at this;cases this
          rw [an r4];simp
         ·rw [ai (fun g=>e g.symm),ai e]
          split
          ·split <;> exact h.1
          ·exact h.1
        ·show bX (c.V.set x.n.toNat true) 1=true↔(Wt.rM c.P x.n).r1≠4
         rw [v1];unfold Wt.rM
         by_cases e:x.n=0
         ·rw [ai (by omega),an e]
          split <;> exact h.2
         ·rw [ai e]
          by_cases e1:x.n=1
          ·rw [an e1.symm,an e1]
           have r4:c.P.r1=4:=Classical.not_not.1 fun g=>by have:=h.2.2 g;rw [e1] at hvn;rw [hvn] at this;cases this
           rw [an r4];simp
          ·rw [ai (fun g=>e1 g.symm),ai e1];exact h.2
       ·rw [ai h5];exact h
theorem nL.serve (h:nL c) (n o f r:Int) (x:Fl.R4):nL (AQ c n o f r x):=by
 unfold AQ
 split
 ·exact h
 ·exact h
end Cu
namespace Rq
open Go.RowKit
structure Q where
 id:Int
 k:Int
 n:Int
 f:Int
 r:Int
 v:R4
 key:Int
structure Y where
 id:Int
 e:Int
 v:R4
def zQ:Q:=⟨0,0,0,0,0,z4,0⟩
def zY:Y:=⟨0,0,z4⟩
def okV (v:R4):Prop:=(0<=v.1/\v.1 < 256)/\(0<=v.2.1/\v.2.1 < 256)/\(0<=v.2.2.1/\v.2.2.1 < 256)/\0<=v.2.2.2/\v.2.2.2 < 256
def bare (v:R4):Prop:=v.1=0/\v.2.1=0/\v.2.2.1=0/\v.2.2.2=0
def good (x:Q):Prop:=(0<=x.id/\x.id<=65535)/\(1<=x.k/\x.k<=4)/\(0<=x.n/\x.n<=31)/\(0<=x.f/\x.f<=63)/\(0<=x.r/\x.r<=255)/\(0<=x.key/\x.key<=255)/\(x.k=4->x.f=0/\x.r=0)/\(x.k=2\/x.v.1=0/\x.v.2.1=0/\x.v.2.2.1=0/\x.v.2.2.2=0)
instance (x:Q):Decidable (good x):=by unfold good;infer_instance
def may (y:Y):Prop:=(0<=y.id/\y.id<=65535)/\(0<=y.e/\y.e<=16)/\(y.e=0\/y.v.1=0/\y.v.2.1=0/\y.v.2.2.1=0/\y.v.2.2.2=0)
instance (y:Y):Decidable (may y):=by unfold may;infer_instance
def cB (x:Q):Bool:=decide (good x)
def eT (y:Y):Bool:=decide (may y)
def qb (x:Q):List Int:=[0,if x.k=2 then 11 else 7,x.id / 256,x.id % 256,x.k,x.n,x.f,x.r,x.key] ++ if x.k=2 then [x.v.1,x.v.2.1,x.v.2.2.1,x.v.2.2.2] else []
def yb (y:Y):List Int:=[0,7,y.id / 256,y.id % 256,y.e,y.v.1,y.v.2.1,y.v.2.2.1,y.v.2.2.2]
def kJ (l:List Int):Q:=⟨l.getD 2 0 * 256+l.getD 3 0,l.getD 4 0,l.getD 5 0,l.getD 6 0,l.getD 7 0,if l.length=13 then (l.getD 9 0,l.getD 10 0,l.getD 11 0,l.getD 12 0) else z4,l.getD 8 0⟩
def Ud (l:List Int):Y:=⟨l.getD 2 0 * 256+l.getD 3 0,l.getD 4 0,(l.getD 5 0,l.getD 6 0,l.getD 7 0,l.getD 8 0)⟩
def sj (l:List Int):Prop:=(l.length=9\/l.length=13)/\good (kJ l)/\qb (kJ l)=l
def Yg (l:List Int):Prop:=l.length=9/\may (Ud l)/\yb (Ud l)=l
instance (l:List Int):Decidable (sj l):=by unfold sj;infer_instance
instance (l:List Int):Decidable (Yg l):=by unfold Yg;infer_instance
end Rq
namespace Qe
open Rq (Q zQ)
structure Qs where
 L:List Q
 t:Int
def ok (s:Qs):Prop:=s.L.length<=8/\(0<=s.t/\s.t<=2)/\(s.L = []->s.t=0)
def q0:Qs:=⟨[],0⟩
def fst (s:Qs):Q:=s.L.headD zQ
def has (s:Qs):Bool:=decide (0 < s.L.length)
def zk (s:Qs):Int:=if 8<=s.L.length then 12 else 0
def Oz (s:Qs) (x:Q):Qs:=if 8<=s.L.length then s else ⟨s.L ++ [x],s.t⟩
def wO (s:Qs):Qs:=⟨s.L.tail,0⟩
def Kv (s:Qs):Bool:=decide (0 < s.L.length/\s.t=2)
def faV (s:Qs):Q:=if 0 < s.L.length/\s.t=2 then fst s else zQ
def QN (s:Qs):Qs:=if 0 < s.L.length then (if s.t=2 then wO s else ⟨s.L,s.t+1⟩) else s
theorem aat:ok q0:=⟨by decide,⟨by decide,by decide⟩,fun _=>rfl⟩
variable {s:Qs}
theorem Xr (h:ok s) (x:Q):ok (Oz s x):=by
 unfold Oz
 by_cases h8:8<=s.L.length
 ·rw [an h8];exact h
 ·rw [ai h8]
  exact ⟨by simp;omega,h.2.1,fun e=>by simp at e⟩
theorem Sb (h:ok s):ok (wO s):=⟨by have:=h.1;simp [wO];omega,⟨gR 0,show (0:Int)<=2 by decide⟩,fun _=>rfl⟩
theorem UW (h:ok s):ok (QN s):=by
 unfold QN
 by_cases h0:0 < s.L.length
 ·rw [an h0]
  by_cases h2:s.t=2
  ·rw [an h2];exact Sb h
  ·rw [ai h2]
   have:=h.2.1;exact ⟨h.1,by dsimp only;omega,fun e=>by rw [e] at h0;simp at h0⟩
 ·rw [ai h0];exact h
theorem pop_empty (h:ok s) (e:s.L = []):wO s=s:=by
 obtain ⟨L,t⟩:=s;subst e;have:=h.2.2 rfl;simp only at this;subst this
 rfl
end Qe
namespace Rq
open Go.RowKit
def KU:Rw.Kind Int:=Rw.int .u8
def qA (x:Q):Array Value:=#[.int .i64 x.id,.int .i64 x.k,.int .i64 x.n,.int .i64 x.f,.int .i64 x.r,.int .u8 x.v.1,.int .u8 x.v.2.1,.int .u8 x.v.2.2.1,.int .u8 x.v.2.2.2,.int .i64 x.key]
def yA (y:Y):Array Value:=#[.int .i64 y.id,.int .i64 y.e,.int .u8 y.v.1,.int .u8 y.v.2.1,.int .u8 y.v.2.2.1,.int .u8 y.v.2.2.2]
def qV (x:Q):Value:=.agg (qA x)
def yV (y:Y):Value:=.agg (yA y)
variable {a b:Bool}
theorem ak (h:a=b):Ending.returned (.bool a) = .returned (.bool b):=by rw [h]
def lC (w:World) (x:Q) (e:Ending) (w':World):Prop:=∃ v,e = .returned (.tuple #[v,.int .i64 (if good x then 0 else 1)])/\Ow KU w' w.heap.size 5 v (if good x then qb x else [])/\Below w.heap.size w w'
variable {P:Program} {args cs:Array Value} {w:World}
theorem aI {f:Nat} {B:Nat} (e:a=b) (c:Calls P f args w fun e w'=>e = .returned (.bool a)/\Below B w w'):Calls P f args w fun e w'=>e = .returned (.bool b)/\Below B w w':=by rw [← e];exact c
theorem QI:(prog.info? 5).map (fun i=>(i.zero,i.size,i.bytes))=some (some (.int .u8 0),1,1):=by kernel_rfl
theorem u8_in {x:Int} (h0:0<=x) (h1:x < 256):IntKind.u8.wrap x=x:=by simp [IntKind.wrap,IntKind.bits,IntKind.signed];omega
def mZ (w:World) (y:Y) (e:Ending) (w':World):Prop:=∃ v,e = .returned (.tuple #[v,.int .i64 (if may y then 0 else 1)])/\Ow KU w' w.heap.size 5 v (if may y then yb y else [])/\Below w.heap.size w w'
variable {fn:Func} {p r:Tmp}
theorem bK (h:fn.results=#[.cell p 44,.tmp r]) (tmps:Array Value) (w:World) (g:Nat) (v:Value) (hp:tmps.getD p undef = .pointer (some ⟨g,0,none⟩)) (hr:tmps.getD r undef=v) (h1:w.heap[g]? = some (.cells cs 44 (0,0))) (hs:cs.size=6) :
 (results fn tmps).run prog w = .ok (.tuple #[.agg cs,v]) w:=by
 have e2:=fd (P:=prog) w g 44 44 cs (0,0) _ h1 underlying44 rfl (by rw [hs];show _=some 6;kernel_rfl);have hp':tmps[p]?.getD undef = .pointer (some ⟨g,0,none⟩):=by simpa using hp
 have hr':tmps[r]?.getD undef=v:=by simpa using hr
 simp only [results,h]
 simp [Result.andThen,hp',hr',asAddr,e2]
theorem aO (h:fn.results=#[.cell p 53,.tmp r]) (tmps:Array Value) (w:World) (g:Nat) (v:Value) (hp:tmps.getD p undef = .pointer (some ⟨g,0,none⟩)) (hr:tmps.getD r undef=v) (h1:w.heap[g]? = some (.cells cs 53 (0,0))) (hs:cs.size=10) :
 (results fn tmps).run prog w = .ok (.tuple #[.agg cs,v]) w:=by
 have e2:=fd (P:=prog) w g 53 53 cs (0,0) _ h1 underlying53 rfl (by rw [hs];show _=some 10;kernel_rfl);have hp':tmps[p]?.getD undef = .pointer (some ⟨g,0,none⟩):=by simpa using hp
 have hr':tmps[r]?.getD undef=v:=by simpa using hr
 simp only [results,h]
 simp [Result.andThen,hp',hr',asAddr,e2]
def fI (w:World) (l:List Int) (e:Ending) (w':World):Prop:=e = .returned (.tuple #[yV (if Yg l then Ud l else zY),.int .i64 (if Yg l then 0 else 2)])/\Below w.heap.size w w'
def dL (w:World) (l:List Int) (e:Ending) (w':World):Prop:=e = .returned (.tuple #[qV (if sj l then kJ l else zQ),.int .i64 (if sj l then 0 else 2)])/\Below w.heap.size w w'
variable {l m:List Int}
theorem pX {b off:Nat} (A:At KU w b off l):∀ i,i < l.length->w.cell? ⟨b,off+i,none⟩=some (.int .u8 (l.getD i 0)):=fun i hi=>by
 have:=A i hi 0 (.int .u8 (l.getD i 0)) rfl
 rwa [show off+i * KU.n+0=off+i by show off+i * 1+0=_;omega] at this
theorem str_eq (h:∀ x∈l,0<=x/\x < 256) (k:∀ x∈m,0<=x/\x < 256) (e:(strOfNums l).toList=(strOfNums m).toList):l=m:=by
 rw [ByteArray.toList_eq,ByteArray.toList_eq,strOfNums_data,strOfNums_data] at e
 induction l generalizing m with
 | nil=>cases m with
   | nil=>rfl
   | cons y r=>cases e
 | cons x l ih=>cases m with
   | nil=>cases e
   | cons y r =>
     injection e with e1 e2;have hx:=h x (cy ..);have hy:=k y (cy ..);have e3:(UInt8.ofNat x.toNat).toNat=(UInt8.ofNat y.toNat).toNat:=dj UInt8.toNat e1;simp only [UInt8.toNat_ofNat'] at e3;rw [ih (fun z hz=>h z (ci _ hz)) (fun z hz=>k z (ci _ hz)) e2,show x=y by omega]
theorem sQ (w:World) (n:Int) (b:Bool) (h:decide (0<=n/\n<=65535)=b):Calls prog 76 #[.int .i64 n] w fun e w'=>e = .returned (.bool b)/\w=w':=by
 have H:=Hh h;clear h
 rcases (by omega:n < 0\/0<=n/\n<=65535\/0<=n/\65535 < n) with h | ⟨h,h'⟩ | ⟨h,h'⟩
 all_goals
  go_enter func76,ntmps76
  go_wp2
  go_ret
  exact ⟨ak (by rw [← H.out];first | exact (az (by omega)).symm | exact (aq (by omega)).symm | exact cM.2 (by omega)),rfl⟩
def plB (x:Q):Bool:=decide ((0<=x.n/\x.n<=31)/\(0<=x.f/\x.f<=63)/\0<=x.r/\x.r<=255)
theorem Ic (w:World) (x:Q) (b:Bool) (h:plB x=b):Calls prog 77 #[qV x] w fun e w'=>e = .returned (.bool b)/\Below w.heap.size w w':=by
 have H:=Hh h;clear h;have B0:=Hh ((aa w.heap.size w).alloc (ac _) (.cells (qA x) 53));obtain ⟨id,k,n,f,r,⟨v0,v1,v2,v3⟩,key⟩:=x;unfold qV qA;unfold qA at B0;unfold plB at H;dsimp only at B0 H ⊢
 rcases (by omega:n < 0\/0<=n/\32<=n\/(0<=n/\n < 32)/\(f < 0\/0<=f/\64<=f\/(0<=f/\f < 64)/\(r < 0\/0<=r/\256<=r\/0<=r/\r < 256))) with h | ⟨h1,h⟩ | ⟨⟨h1,h2⟩,h | ⟨h3,h⟩ | ⟨⟨h3,h4⟩,h | ⟨h5,h⟩ | ⟨h5,h⟩⟩⟩
 all_goals
  go_enter func77,ntmps77
  go_wp2
  go_ret
  exact ⟨ak (by rw [← H.out];first | exact (az (by omega)).symm | exact (aq (by omega)).symm | exact cM.2 (by omega)),B0.out⟩
instance (v:R4):Decidable (bare v):=by unfold bare;infer_instance
theorem Bf (v0 v1 v2 v3:Int) (b:Bool) (h:decide (bare (v0,v1,v2,v3))=b) (w:World):(Op.equalIn 10000 36 (.agg #[.int .u8 v0,.int .u8 v1,.int .u8 v2,.int .u8 v3]) (.agg #[.int .u8 0,.int .u8 0,.int .u8 0,.int .u8 0])).run prog w = .ok b w:=by
 have:=Fl.qW (v0,v1,v2,v3) z4 w;rw [← h]
 rw [show decide (bare (v0,v1,v2,v3))=decide ((v0,v1,v2,v3)=z4) from by
  rw [cM];unfold bare z4
  simp only [Prod.mk.injEq]]
 exact this
theorem Mh (w:World) (x:Q) (hk:x.k < 1\/4 < x.k\/x.k=4/\x.f≠0\/x.k=4/\x.f=0/\x.r≠0):Calls prog 47 #[qV x] w fun e w'=>e = .returned (.bool false)/\Below w.heap.size w w':=by
 have B0:=Hh ((aa w.heap.size w).alloc (ac _) (.cells (qA x) 53));obtain ⟨id,k,n,f,r,⟨v0,v1,v2,v3⟩,key⟩:=x;unfold qV qA;unfold qA at B0;dsimp only at B0 hk ⊢
 rcases hk with h | h | ⟨rfl,h⟩ | ⟨rfl,rfl,h⟩
 case' inl | inr.inl =>
  have n1:¬ k=1:=by omega
  have n2:¬ k=2:=by omega
  have n3:¬ k=3:=by omega
  have n4:¬ k=4:=by omega
  clear h
 all_goals
  go_enter func47,ntmps47
  go_wp2
  go_ret
  exact ⟨ak rfl,B0.out⟩
theorem MR (w:World) (x:Q) (hv:¬ bare x.v) (hk:x.k=4/\x.f=0/\x.r=0\/x.k=1\/x.k=3):Calls prog 47 #[qV x] w fun e w'=>e = .returned (.bool false)/\Below w.heap.size w w':=by
 have B0:=Hh ((aa w.heap.size w).alloc (ac _) (.cells (qA x) 53));obtain ⟨id,k,n,f,r,⟨v0,v1,v2,v3⟩,key⟩:=x;have es:=Bf v0 v1 v2 v3 false (aq hv);unfold qV qA;unfold qA at B0;clear hv;dsimp only at B0 hk ⊢
 rcases hk with ⟨rfl,rfl,rfl⟩ | rfl | rfl
 all_goals
  go_enter func47,ntmps47
  go_wp2
  go_ret
  exact ⟨ak rfl,B0.out⟩
def kd (x:Q):Prop:=x.k=4/\x.f=0/\x.r=0/\bare x.v\/x.k=1/\bare x.v\/x.k=3/\bare x.v\/x.k=2
theorem Vk (w:World) (x:Q) (hk:kd x) (hi:¬ (0<=x.id/\x.id<=65535)):Calls prog 47 #[qV x] w fun e w'=>e = .returned (.bool false)/\Below w.heap.size w w':=by
 have B0:=Hh ((aa w.heap.size w).alloc (ac _) (.cells (qA x) 53));obtain ⟨id,k,n,f,r,⟨v0,v1,v2,v3⟩,key⟩:=x;have I:=fun w=>Hh (sQ w id false (aq hi));unfold qV qA;unfold qA at B0;unfold kd at hk;clear hi;dsimp only at B0 hk ⊢
 rcases hk with ⟨rfl,rfl,rfl,hv⟩ | ⟨rfl,hv⟩ | ⟨rfl,hv⟩ | rfl
 case' inl | inr.inl | inr.inr.inl =>
  have es:=Bf v0 v1 v2 v3 true (az hv);clear hv
 all_goals
  go_enter func47,ntmps47
  go_wp2_with fail;refine (I _).out.mono ?_;rintro e w1 ⟨rfl,rfl⟩;go_wp2
  go_ret
  exact ⟨ak rfl,B0.out⟩
theorem Gy (w:World) (x:Q) (hk:kd x) (hi:0<=x.id/\x.id<=65535) (b c:Bool) (hp:plB x=b) (hc:(b && decide (0<=x.key/\x.key<=255))=c):Calls prog 47 #[qV x] w fun e w'=>e = .returned (.bool c)/\Below w.heap.size w w':=by
 have B0:=Hh ((aa w.heap.size w).alloc (ac _) (.cells (qA x) 53));have R0:=Hh (aw w (.cells (qA x) 53));have PL:=fun w=>Hh (Ic w x b hp);clear hp;obtain ⟨id,k,n,f,r,⟨v0,v1,v2,v3⟩,key⟩:=x;have I:=fun w=>Hh (sQ w id true (az hi));unfold qV qA at *;unfold kd at hk;clear hi;dsimp only at B0 R0 PL hk hc ⊢;have HC:=Hh hc;clear hc
 rcases hk with ⟨rfl,rfl,rfl,hv⟩ | ⟨rfl,hv⟩ | ⟨rfl,hv⟩ | rfl
 case' inl | inr.inl | inr.inr.inl =>
  have es:=Bf v0 v1 v2 v3 true (az hv);clear hv
 all_goals
  go_enter func47,ntmps47
  go_wp2_with fail;refine (I _).out.mono ?_;rintro e w1 ⟨rfl,rfl⟩;go_wp2_with fail;refine (PL _).out.mono ?_;rintro e w2 ⟨rfl,b2⟩;have B2:=aP B0.out b2;have c9:=dB (bV b2 R0.out) 9;clear b2 B0 R0
  cases b
  ·go_wp2
   go_ret
   exact ⟨ak HC.out,B2.out⟩
  ·rcases (by omega:key < 0\/0<=key/\key<=255\/0<=key/\255 < key) with h | ⟨h,h'⟩ | ⟨h,h'⟩
   all_goals
    go_wp2
    go_ret
    exact ⟨ak (by rw [← HC.out];first | exact (az (by omega)).symm | exact (aq (by omega)).symm | exact cM.2 (by omega)),B2.out⟩
theorem aQ (w:World) (x:Q):Calls prog 47 #[qV x] w fun e w'=>e = .returned (.bool (cB x))/\Below w.heap.size w w':=by
 have no:∀ {c:Bool},(c=cB x)->(Calls prog 47 #[qV x] w fun e w'=>e = .returned (.bool c)/\Below w.heap.size w w')->Calls prog 47 #[qV x] w fun e w'=>e = .returned (.bool (cB x))/\Below w.heap.size w w':=fun h c=>h ▸ c;have fl:∀ {p:Prop},¬ good x->false=cB x:=fun h=>(aq h).symm
 by_cases h1:x.k < 1\/4 < x.k\/x.k=4/\x.f≠0\/x.k=4/\x.f=0/\x.r≠0
 ·exact no (fl (p:=True) (by unfold good;omega)) (Mh w x h1)
 ·by_cases h2:bare x.v\/x.k=2
  ·have hk:kd x:=by
    rcases h2 with hb | hb
    ·rcases (by omega:x.k=4/\x.f=0/\x.r=0\/x.k=1\/x.k=3\/x.k=2) with ⟨a,b,c⟩ | a | a | a
     ·exact .inl ⟨a,b,c,hb⟩
     ·exact .inr (.inl ⟨a,hb⟩)
     ·exact .inr (.inr (.inl ⟨a,hb⟩))
     ·exact .inr (.inr (.inr a))
    ·exact .inr (.inr (.inr hb))
   by_cases h3:0<=x.id/\x.id<=65535
   ·refine no ?_ (Gy w x hk h3 _ _ rfl rfl)
    unfold plB cB;rw [← Bool.decide_and,cM];unfold good;unfold kd bare at hk
    omega
   ·exact no (fl (p:=True) (by unfold good;omega)) (Vk w x hk h3)
  ·have h4:¬ x.k=2:=fun h=>h2 (.inr h)
   refine no (fl (p:=True) ?_) (MR w x (fun h=>h2 (.inl h)) (by omega));unfold good;unfold bare at h2
   omega
theorem KW {g:Nat} {t:TypeId} (off:Nat) (l:List Int) (cap:Nat) (h:w.heap[g]? = some (.cells cs t (0,0))) (e:∀ i x,l[i]? = some x->cs[off+i]? = some (.int .u8 x)) (h1:l.length<=cap) (h2:cap<=maxLen):Rd KU w (.slice (some ⟨g,off,none⟩) l.length cap) l :=
 ⟨_,cap,rfl,⟨h1,nofun⟩,h2,fun _=>⟨g,off,rfl,fun i hi j u hu=>by
  rcases j with _ | j
  ·have hx:=am hi
   rw [af,hx] at hu;have hu':(some (Value.int .u8 l[i]))=some u:=hu;rw [← hu',← e i _ hx];rw [show off+i * KU.n+0=off+i by show off+i * 1+0=_;omega];exact cQ w g (off+i) cs t (0,0) h
  ·exact absurd hu (by simp [KU,Rw.int])⟩⟩
theorem ZK {K:Act->World->Prop} {E:TypeId} {o:Oper} {a:Act} {Q:Exit->Act->World->Prop} {T:TypeId} {z:Value} {bytes:Nat} (ht:P.underlying T=some (.slice E))
 (hi:(P.info? E).map (fun i=>(i.zero,i.size,i.bytes))=some (some z,KU.n,bytes)) (hz:z.cells.size=KU.n) (hby:bytes<=64) (s x:Operand)
 (ho:o.op = .call { callee:=.builtin .append,args:=#[s,x],argTypes:=#[T,T] }) (B:Nat) (v:Value) (l:List Int) (hs:a.eval s=v) (hown:Ow KU w B E v l)
 (u:Value) (y:List Int) (hx:a.eval x=u) (hu:Rd KU w u y) (hy:0 < y.length) (hlen:l.length+y.length < 2199023255552) (hB:B<=w.heap.size)
 (h:∀ v' w',Ow KU w' B E v' (l ++ y)->Below B w w'->K (a.put o.dst v') w'):o.wp P a w K Q:=by
 obtain ⟨i0,hi0,hz0,hz1,hz2⟩:=fk hi;obtain ⟨ad,cap,rfl,h1,h2,h3⟩:=hu;have hb:(l.length+y.length) * bytes<=140737488355328:=cG (hP (show l.length+y.length<=2199023255552 by omega) hby) (by omega);obtain ⟨b,off,rfl,hA⟩:=h3 hy;refine wp_append_own _ s x T ho B E i0 z KU.n bytes ht hi0 hz0 hz1 hz2 hz KU.pos v l.length (KU.flat l) hs hown ⟨b,off,none⟩ y.length cap (KU.flat y) hx (Rw.cZ KU y) ?_ (Rw.Ee KU y) (by unfold maxLen;omega) hb hB ?_
 ·intro j u hj
  have e:(⟨b,off,none⟩:Addr).add j=⟨b,off+j,none⟩:=by simp [Addr.add]
  rw [e];exact hA.flat j u hj
 ·intro v' w' g2 g3 _
  refine h v' w' ?_ ((aa B w).grown g3 hB fun k hk=>(cC hown k hk).1)
  show w'.ownsRow B E KU.n v' (l ++ y).length (KU.flat (l ++ y))
  rw [Rw.fV,cP];exact g2
theorem u8_mod (x:Int):IntKind.u8.wrap x=x % 256:=by simp [IntKind.wrap,IntKind.bits,IntKind.signed]
def Uq (w:World) (n:Int) (l:List Int) (e:Ending) (w':World):Prop:=∃ v,e = .returned v/\Ow KU w' w.heap.size 5 v ([0,2+(l.length:Int),n / 256,n % 256] ++ l)/\Below w.heap.size w w'
theorem vX (w:World) (n:Int) (v:Value) (l:List Int) (h0:0<=n) (h1:n<=65535) (hl:l.length<=200) (R:Rd KU w v l):Calls prog 48 #[.int .i64 n,v] w (Uq w n l):=by
 have E:Hid (∀ v w',Ow KU w' w.heap.size 5 v ([0,2+(l.length:Int),n / 256,n % 256] ++ l)->Below w.heap.size w w'->Uq w n l (.returned v) w'):=fun v w' o b=>⟨v,rfl,o,b⟩;obtain ⟨a,cap,rfl,_⟩:=R.slice;have R':=Hh R;clear R;have hm:Hid (l.length<=200):=hl;generalize hn:l.length=m at *;have HN:=Hh hn;clear hn;have e1:IntKind.i64.wrap (2+(m:Int))=2+(m:Int):=cx _ (by omega);have e2:(2+(m:Int)) / 256=0:=by omega
 have e3:(2+(m:Int)) % 256=2+(m:Int):=by omega
 have e4:IntKind.u8.wrap (2+(m:Int))=2+(m:Int):=by rw [u8_mod];omega
 have e5:n / 256 % 256=n / 256:=by omega
 have e6:IntKind.u8.wrap (n / 256)=n / 256:=by rw [u8_mod];omega
 have e7:=u8_mod n;clear h0 h1 hl
 go_enter func48,ntmps48
 go_upto_region 3 with fail;have L3:Hid (Ow KU (w.alloc (.cells #[.int .u8 0,.int .u8 (2+(m:Int)),.int .u8 (n / 256),.int .u8 (n % 256)] 5)) w.heap.size 5 (.slice (some ⟨w.heap.size,0,none⟩) 4 4) [0,2+(m:Int),n / 256,n % 256]):=Hh (Rw.Ow.lit (K:=KU) w w.heap.size 5 [0,2+(m:Int),n / 256,n % 256] (ac _) (by unfold maxLen;simp));have B3:=Hh ((aa w.heap.size w).alloc (ac _) (.cells #[.int .u8 0,.int .u8 (2+(m:Int)),.int .u8 (n / 256),.int .u8 (n % 256)] 5));have R3:=Hh (R'.out.below B3.out);clear e1 e2 e3 e4 e5 e6 e7 R';generalize w.alloc (.cells #[.int .u8 0,.int .u8 (2+(m:Int)),.int .u8 (n / 256),.int .u8 (n % 256)] 5)=W at *
 go_wp2_with (at_builtin;refine Rw.wQ (K:=KU) underlying34 QI rfl (by omega) rfl _ _ rfl w.heap.size _ _ rfl L3.out _ l rfl R3.out ?c1 ?c2 ?_)
 case c1=>have:=hm.out;have:=HN.out;simp;omega
 case c2=>exact B3.out.size
 intro v7 w7 o7 b7
 have F:=Hh (E.out v7 w7 o7 (B3.out.trans b7));clear E o7 b7 L3 B3 R3;go_wp2
 (try simp only [Exit.inBlock,Exit.then])
 go_ret
 exact F.out
theorem abA (x:Q):qb x=if x.k=2 then [0,2+(([x.k,x.n,x.f,x.r,x.key] ++ [x.v.1,x.v.2.1,x.v.2.2.1,x.v.2.2.2]).length:Int),x.id / 256,x.id % 256] ++ ([x.k,x.n,x.f,x.r,x.key] ++ [x.v.1,x.v.2.1,x.v.2.2.1,x.v.2.2.2]) else [0,2+(([x.k,x.n,x.f,x.r,x.key]:List Int).length:Int),x.id / 256,x.id % 256] ++ [x.k,x.n,x.f,x.r,x.key]:=by
 unfold qb
 by_cases h:x.k=2
 ·rw [an h,an h,an h];rfl
 ·rw [ai h,ai h,ai h];rfl
theorem Xl (w:World) (x:Q) (hg:¬ good x):Calls prog 21 #[qV x] w (lC w x):=by
 have B0:=Hh ((aa w.heap.size w).alloc (ac _) (.cells (qA x) 53));have GR:=Hh (aI (show cB x=false from aq hg) (aQ (w.alloc (.cells (qA x) 53)) x));have E:Hid (∀ w',Below w.heap.size w w'->lC w x (.returned (.tuple #[.slice none 0 0,.int .i64 1])) w'):=fun w' b=>⟨_,by rw [ai hg],by rw [ai hg];exact Rw.Ow.nil _ _ _,b⟩;clear hg;unfold qV at *
 go_enter func21,ntmps21
 unfold qA at *;go_wp2_with fail;refine GR.out.mono ?_;rintro e w1 ⟨rfl,b1⟩;have B1:=aP B0 b1;clear b1 B0 GR;go_wp2
 go_ret2
 exact E.out _ B1
theorem QW (w:World) (x:Q) (hg:good x):Calls prog 21 #[qV x] w (lC w x):=by
 have B0:=Hh ((aa w.heap.size w).alloc (ac _) (.cells (qA x) 53));have R0:=Hh (aw w (.cells (qA x) 53));have GR:=Hh (aI (show cB x=true from az hg) (aQ (w.alloc (.cells (qA x) 53)) x));have E:Hid (∀ v w',Ow KU w' w.heap.size 5 v (qb x)->Below w.heap.size w w'->lC w x (.returned (.tuple #[v,.int .i64 0])) w'):=fun v w' o b=>⟨v,by rw [an hg],by rw [an hg];exact o,b⟩;have EQ:=Hh (abA x);obtain ⟨id,k,n,f,r,⟨v0,v1,v2,v3⟩,key⟩:=x;unfold good at hg;unfold qV at *;unfold qA at *;dsimp only at hg B0 R0 GR E EQ ⊢;obtain ⟨⟨h1,h2⟩,⟨h3,h4⟩,⟨h5,h6⟩,⟨h7,h8⟩,⟨h9,h10⟩,⟨h11,h12⟩,_,_⟩:=hg;have FR:=fun w v l hl R=>Hh (vX w id v l h1 h2 hl R);have q3:=u8_in (x:=k) (by omega) (by omega);have q4:=u8_in (x:=n) (by omega) (by omega);have q5:=u8_in (x:=f) (by omega) (by omega);have q6:=u8_in (x:=r) (by omega) (by omega);have q7:=u8_in (x:=key) (by omega) (by omega);clear h1 h2 h3 h4 h5 h6 h7 h8 h9 h10 h11 h12
 go_enter func21,ntmps21
 go_wp2_with fail;refine GR.out.mono ?_;rintro e w1 ⟨rfl,b1⟩;have B1:=aP B0 b1;have R1:=Hh (bV b1 R0.out);clear b1 B0 GR R0;have c1:=dB R1.out 1;have c2:=dB R1.out 2;have c3:=dB R1.out 3;have c4:=dB R1.out 4;have c9:=dB R1.out 9;go_upto_region 4 with fail;have hlt:=bh R1.out;have L3:=Hh (Rw.Ow.lit (K:=KU) w1 (w.heap.size+1) 5 [k,n,f,r,key] hlt (by unfold maxLen;simp));have B3:=Hh (B1.out.alloc B1.out.size (.cells #[.int .u8 k,.int .u8 n,.int .u8 f,.int .u8 r,.int .u8 key] 5));have R3:=Hh (bV ((aa w1.heap.size w1).alloc (ac _) (.cells #[.int .u8 k,.int .u8 n,.int .u8 f,.int .u8 r,.int .u8 key] 5)) R1.out)
 replace L3:Hid (Ow KU (w1.alloc (.cells #[.int .u8 k,.int .u8 n,.int .u8 f,.int .u8 r,.int .u8 key] 5)) (w.heap.size+1) 5 (.slice (some ⟨w1.heap.size,0,none⟩) 5 5) [k,n,f,r,key]):=L3
 have Z3:Hid (w.heap.size+1<=(w1.alloc (.cells #[.int .u8 k,.int .u8 n,.int .u8 f,.int .u8 r,.int .u8 key] 5)).heap.size):=bh R3.out;clear R1 B1 c1 c2 c3 c4 c9 q3 q4 q5 q6 q7 hlt;generalize w1.alloc (.cells #[.int .u8 k,.int .u8 n,.int .u8 f,.int .u8 r,.int .u8 key] 5)=W at *;generalize w1.heap.size=g at *;have c0:=dB R3.out 0;have c1:=dB R3.out 1
 by_cases h2:k=2
 ·rw [an h2] at EQ
  subst h2
  have V:=Hh (KW 5 [v0,v1,v2,v3] 4 R3.out (fun i x e=>by
   match i,e with
   | 0,e=>cases e;rfl
   | 1,e=>cases e;rfl
   | 2,e=>cases e;rfl
   | 3,e=>cases e;rfl
   | i+4,e=>simp at e) (by simp) (by unfold maxLen;simp))
  go_wp2_with (at_builtin;refine Rw.wQ (K:=KU) underlying34 QI rfl (by omega) rfl _ _ rfl (w.heap.size+1) _ _ rfl L3.out _ [v0,v1,v2,v3] rfl V.out ?c1 ?c2 ?_)
  case c2=>exact Z3.out
  intro v7 w7 o7 b7
  have B7:=Hh (B3.out.trans (b7.mono (Nat.le_succ _)));have k0:=(b7.cell (Nat.lt_succ_self _)).trans c0;have FR7:=FR w7 v7 _ (by simp) o7.rd;clear FR b7 c0 c1 L3 B3 R3 V Z3 o7;go_wp2_with fail;refine FR7.out.mono ?_;rintro e w8 ⟨v8,rfl,o8,b8⟩;have F:=Hh (E.out v8 w8 (by rw [EQ.out];exact o8.low B7.out.size) (aP B7.out b8));clear E EQ o8 b8 B7 FR7 k0;go_wp2
  go_ret2
  exact F.out
 ·rw [ai h2] at EQ
  have FR7:=FR W _ _ (by simp) L3.out.rd;clear FR;go_wp2_with fail;refine FR7.out.mono ?_;rintro e w8 ⟨v8,rfl,o8,b8⟩;have F:=Hh (E.out v8 w8 (by rw [EQ.out];exact o8.low B3.out.size) (aP B3.out b8));clear E EQ o8 b8 B3 FR7 c0 c1 L3 R3 Z3;go_wp2
  go_ret2
  exact F.out
theorem iR (w:World) (x:Q):Calls prog 21 #[qV x] w (lC w x):=by
 by_cases hg:good x
 ·exact QW w x hg
 ·exact Xl w x hg
attribute [local irreducible] Sd.aV wpQuiet
theorem rH (w:World) (y:Y):Calls prog 70 #[yV y] w fun e w'=>e = .returned (.bool (eT y))/\Below w.heap.size w w':=by
 have B0:=Hh ((aa w.heap.size w).alloc (ac _) (.cells (yA y) 44));have H:Hid (eT y=eT y):=Hh rfl;obtain ⟨id,e,⟨v0,v1,v2,v3⟩⟩:=y;unfold yV yA;unfold yA at B0;dsimp only at B0 H ⊢
 by_cases hi:0<=id/\id<=65535
 ·have I:=fun w=>Hh (sQ w id true (az hi))
  rcases (by omega:e < 0\/0<=e/\16 < e\/e=0\/(1<=e/\e<=16)) with h | ⟨h,h'⟩ | rfl | ⟨h,h'⟩
  case' inr.inr.inr =>
   have hne:¬ e=0:=by omega
   have es:=Bf v0 v1 v2 v3 _ rfl;generalize hb:decide (bare (v0,v1,v2,v3))=bb at es
  all_goals
   have HI:=Hh hi;clear hi
   go_enter func70,ntmps70
   go_wp2_with fail;refine (I _).out.mono ?_;rintro e w1 ⟨rfl,rfl⟩;go_wp2
   go_ret
  ·refine ⟨ak ?_,B0.out⟩
   rw [show (e == 0)=false from cH.2 (by omega),Bool.false_or,← hb];refine cM.2 ?_;have:=HI.out;unfold may bare;dsimp only
   omega
  ·exact ⟨ak (aq (by unfold may;dsimp only;omega)).symm,B0.out⟩
  ·exact ⟨ak (aq (by unfold may;dsimp only;omega)).symm,B0.out⟩
  ·exact ⟨ak (az (by have:=HI.out;unfold may;dsimp only;omega)).symm,B0.out⟩
 ·have I:=fun w=>Hh (sQ w id false (aq hi))
  have HI:=Hh hi;clear hi
  go_enter func70,ntmps70
  go_wp2_with fail;refine (I _).out.mono ?_;rintro e w1 ⟨rfl,rfl⟩;go_wp2
  go_ret
  exact ⟨ak (aq (by have:=HI.out;unfold may;dsimp only;omega)).symm,B0.out⟩
theorem Je (w:World) (y:Y) (hg:¬ may y):Calls prog 40 #[yV y] w (mZ w y):=by
 have B0:=Hh ((aa w.heap.size w).alloc (ac _) (.cells (yA y) 44));have GR:=Hh (aI (show eT y=false from aq hg) (rH (w.alloc (.cells (yA y) 44)) y));have E:Hid (∀ w',Below w.heap.size w w'->mZ w y (.returned (.tuple #[.slice none 0 0,.int .i64 1])) w'):=fun w' b=>⟨_,by rw [ai hg],by rw [ai hg];exact Rw.Ow.nil _ _ _,b⟩;clear hg;unfold yV at *
 go_enter func40,ntmps40
 unfold yA at *;go_wp2_with fail;refine GR.out.mono ?_;rintro e w1 ⟨rfl,b1⟩;have B1:=aP B0 b1;clear b1 B0 GR;go_wp2
 go_ret2
 exact E.out _ B1
theorem DI (w:World) (y:Y) (hg:may y):Calls prog 40 #[yV y] w (mZ w y):=by
 have B0:=Hh ((aa w.heap.size w).alloc (ac _) (.cells (yA y) 44));have R0:=Hh (aw w (.cells (yA y) 44));have GR:=Hh (aI (show eT y=true from az hg) (rH (w.alloc (.cells (yA y) 44)) y));have E:Hid (∀ v w',Ow KU w' w.heap.size 5 v (yb y)->Below w.heap.size w w'->mZ w y (.returned (.tuple #[v,.int .i64 0])) w'):=fun v w' o b=>⟨v,by rw [an hg],by rw [an hg];exact o,b⟩;have EQ:Hid (yb y = [0,2+(([y.e] ++ [y.v.1,y.v.2.1,y.v.2.2.1,y.v.2.2.2]).length:Int),y.id / 256,y.id % 256] ++ ([y.e] ++ [y.v.1,y.v.2.1,y.v.2.2.1,y.v.2.2.2])):=Hh rfl;obtain ⟨id,e,⟨v0,v1,v2,v3⟩⟩:=y;unfold may at hg;unfold yV at *;unfold yA at *;dsimp only at hg B0 R0 GR E EQ ⊢;obtain ⟨⟨h1,h2⟩,⟨h3,h4⟩,_⟩:=hg;have FR:=fun w v l hl R=>Hh (vX w id v l h1 h2 hl R);have q3:=u8_in (x:=e) (by omega) (by omega);clear h1 h2 h3 h4
 go_enter func40,ntmps40
 go_wp2_with fail;refine GR.out.mono ?_;rintro e' w1 ⟨rfl,b1⟩;have B1:=aP B0 b1;have R1:=Hh (bV b1 R0.out);clear b1 B0 GR R0;have c0:=Sd.aC (dB R1.out 0);have c1:=Sd.aC (dB R1.out 1);go_upto_region 3 with fail;have BW:=Hh ((aa w1.heap.size w1).drew);refine Sd.start [(false,0),(false,1),(false,2),(false,3),(false,4),(false,6),(false,7),(true,5),(true,8),(true,9),(false,10),(false,11)] (by kernel_rfl) (by kernel_rfl) (by kernel_rfl) ?_;dsimp only [Sd.aK,List.getElem?_cons_succ,List.getElem?_cons_zero]
 repeat (refine Sd.lit ?_;quiet_step (fail);refine bi ?_)
 generalize w1.drew=w2 at *;have R2:=Hh (bV BW.out R1.out);have L3:Hid (Ow KU (w2.alloc (.cells #[.int .u8 e] 5)) w1.heap.size 5 (.slice (some ⟨w2.heap.size,0,none⟩) 1 1) [e]):=Hh (Rw.Ow.lit (K:=KU) w2 w1.heap.size 5 [e] BW.out.size (by unfold maxLen;simp));have R3:=Hh (bV ((aa w2.heap.size w2).alloc (ac _) (.cells #[.int .u8 e] 5)) R2.out);have B3:=Hh (BW.out.alloc BW.out.size (.cells #[.int .u8 e] 5));clear R1 R2 BW c0 c1;refine Sd.call (by rfl) (fun K hK=>?_);go_simp;refine hK _ _ (Sd.Cl.of B3.out) ?_;clear hK K q3;generalize w2.alloc (.cells #[.int .u8 e] 5)=w3 at *;generalize w2.heap.size=g at *
 have V:=Hh (KW 2 [v0,v1,v2,v3] 4 R3.out (fun i x e=>by
  match i,e with
  | 0,e=>cases e;rfl
  | 1,e=>cases e;rfl
  | 2,e=>cases e;rfl
  | 3,e=>cases e;rfl
  | i+4,e=>simp at e) (by simp) (by unfold maxLen;simp))
 refine Sd.call (by rfl) (fun K hK=>?_);refine ZK underlying34 QI rfl (by omega) _ _ rfl w1.heap.size _ _ rfl L3.out _ [v0,v1,v2,v3] rfl V.out (by simp) (by simp) B3.out.size ?_
 intro v6 w6 o6 b6
 have B6:=Hh (B3.out.trans b6);have FR6:=FR w6 v6 _ (by simp) o6.rd;refine hK _ _ (Sd.Cl.of B6.out) ?_;clear hK K L3 R3 B3 V FR o6 b6;refine Sd.call (by rfl) (fun K hK=>?_);go_simp;refine FR6.out.mono ?_;rintro e' w8 ⟨v8,rfl,o8,b8⟩;have B8:=Hh (B6.out.trans (b8.mono B6.out.size));refine hK _ _ (Sd.Cl.of B8.out) ?_;have F:=Hh (E.out v8 w8 (by rw [EQ.out];exact o8.low (cG B1.out.size B6.out.size)) (aP B1.out B8.out));clear hK K E EQ o8 b8 B8 B6 B1 FR6
 repeat (refine Sd.lit ?_;quiet_step (fail);refine bi ?_)
 refine Sd.done ?_;go_wp2
 go_ret2
 exact F.out
theorem nP (w:World) (y:Y):Calls prog 40 #[yV y] w (mZ w y):=by
 by_cases hg:may y
 ·exact DI w y hg
 ·exact Je w y hg
theorem or_hi {a b:Int} (h0:0<=a) (h1:a < 256) (h2:0<=b) (h3:b < 256):bits .or .i64 (a * 256) b=a * 256+b:=by
 obtain ⟨n,rfl⟩:=Int.eq_ofNat_of_zero_le h0;obtain ⟨m,rfl⟩:=Int.eq_ofNat_of_zero_le h2;have ha:n < 256:=by omega
 have hb:m < 256:=by omega
 have e:n * 256 ||| m=n * 256+m:=by
  have:=Nat.shiftLeft_add_eq_or_of_lt (show m < 2 ^ 8 from hb) n;rw [Nat.shiftLeft_eq] at this;exact this.symm
 have h:(BitVec.ofInt 64 ((n:Int) * 256) ||| BitVec.ofInt 64 (m:Int)).toNat=n * 256+m:=by
  rw [show ((n:Int) * 256)=((n * 256:Nat):Int) by simp,BitVec.ofInt_natCast,BitVec.ofInt_natCast,BitVec.toNat_or,BitVec.toNat_ofNat,BitVec.toNat_ofNat,Nat.mod_eq_of_lt (by omega),Nat.mod_eq_of_lt (by omega),e]
 show IntKind.i64.wrap ((BitVec.ofInt 64 ((n:Int) * 256) ||| BitVec.ofInt 64 (m:Int)).toNat:Int)=_
 rw [h]
 simp [IntKind.wrap,IntKind.bits,IntKind.signed]
 omega
theorem Tj (w:World) (b off n cap:Nat) (b2 b3:Int) (hn:4<=n) (c2:w.cell? ⟨b,off+2,none⟩=some (.int .u8 b2)) (c3:w.cell? ⟨b,off+3,none⟩=some (.int .u8 b3)) (h2:0<=b2/\b2 < 256) (h3:0<=b3/\b3 < 256) :
 Calls prog 39 #[.slice (some ⟨b,off,none⟩) n cap] w fun e w'=>e = .returned (.int .i64 (b2 * 256+b3))/\Below w.heap.size w w':=by
 have eo:=or_hi h2.1 h2.2 h3.1 h3.2;have e2:IntKind.i64.wrap b2=b2:=cx _ (by omega);have e3:IntKind.i64.wrap b3=b3:=cx _ (by omega);have e4:IntKind.i64.wrap (b2 * 256)=b2 * 256:=cx _ (by omega);have d2:=Sd.aC c2;have d3:=Sd.aC c3;have n2:2 < n:=by omega
 have n3:3 < n:=by omega
 have m2:(2:Int) < n:=by omega
 have m3:(3:Int) < n:=by omega
 clear c2 c3 h2 h3 hn
 go_enter func39,ntmps39
 go_wp2_with fail;have BW:=Hh ((aa w.heap.size w).drew);refine Sd.start [(false,0),(false,1),(false,2),(false,3),(false,4),(false,5),(false,6),(false,7),(false,8),(false,9),(false,10)] (by kernel_rfl) (by kernel_rfl) (by kernel_rfl) ?_;dsimp only [Sd.aK,List.getElem?_cons_succ,List.getElem?_cons_zero]
 repeat (refine Sd.lit ?_;quiet_step (fail);refine bi ?_)
 refine Sd.done ?_;go_wp2
 go_ret
 exact ⟨rfl,BW.out⟩
theorem jb (w:World) (b off n cap:Nat) (l:List Int) (b' off' n' cap':Nat) (m:List Int) (hl:l.length=n) (hm:m.length=n') (A:At KU w b off l) (A':At KU w b' off' m) (hx:∀ x∈l,0<=x/\x < 256) (hy:∀ x∈m,0<=x/\x < 256) (c:Bool) (hc:decide (l=m)=c) :
 Calls prog 41 #[.slice (some ⟨b,off,none⟩) n cap,.slice (some ⟨b',off',none⟩) n' cap'] w fun e w'=>e = .returned (.bool c)/\w=w':=by
 have s1:=run_convert_bytes_arg (P:=prog) w 34 5 underlying34 underlying5 b' off' n' cap' m hm (hm ▸ pX A') 9 underlying9;have s2:=run_convert_bytes_arg (P:=prog) w 34 5 underlying34 underlying5 b off n cap l hl (hl ▸ pX A) 9 underlying9;have ht:((strOfNums l).toList == (strOfNums m).toList)=c:=by
  rw [← hc,Bool.eq_iff_iff,beq_iff_eq,cI];exact ⟨str_eq hx hy,fun h=>by rw [h]⟩
 clear A A' hx hy hl hm hc;generalize strOfNums l=s at *;generalize strOfNums m=t at *
 go_enter func41,ntmps41
 go_wp2
 go_ret
 exact ⟨ak (by first | rfl | exact ht),rfl⟩
theorem Ko {o:Oper} {a:Act} {K:Act->World->Prop} {Q:Exit->Act->World->Prop} (d s:Operand) (dT sT:TypeId)
 (ho:o.op = .call { callee:=.builtin .copy,args:=#[d,s],argTypes:=#[dT,sT] }) (elem:TypeId) (hu:P.underlying dT=some (.slice elem)) (hsz:(P.info? elem).map (·.size)=some 1)
 (dp sp:Option Addr) (dLen dCap sLen sCap:Nat) (hd:a.eval d = .slice dp dLen dCap) (hs:a.eval s = .slice sp sLen sCap)
 (g off:Nat) (cur:List Value) (t:TypeId) (hg:w.heap[g]? = some (.cells cur.toArray t (0,0))) (cs:List Value) (hn:cs.length=Nat.min sLen dLen)
 (hpos:0 < cs.length->dp=some ⟨g,off,none⟩/\∃ ad,sp=some ad/\∀ j v,cs[j]? = some v->w.cell? (ad.add j)=some v)
 (hfit:off+cs.length<=cur.length) (h1:∀ v∈cs,v.oneCell'=true) (B:Nat) (w0:World) (hb:Below B w0 w) (hBg:B<=g)
 (h:∀ w',w'.heap[g]? = some (.cells (splice cur off cs).toArray t (0,0))->Below B w0 w'->K (a.put o.dst (goInt cs.length)) w'):o.wp P a w K Q:=by
 by_cases h0:cs.length=0
 ·obtain rfl:cs = []:=List.eq_nil_of_length_eq_zero h0
  have hrun:=run_copy_none (P:=P) w dT sT o.type elem dp sp dLen dCap sLen sCap hu hsz (by simpa using hn.symm);unfold Oper.wp
  simp [execOp,ho,resolve,invoke,builtin,hd,hs,hrun,Result.andThen]
  exact h w (by simpa [splice] using hg) hb
 ·obtain ⟨rfl,ad,rfl,hsrc⟩:=hpos (by omega)
  have hrun:=run_copy_row (P:=P) w dT sT o.type elem g off dLen dCap ad sLen sCap cur.toArray t cs hu hsz hg hn hsrc (by simpa using hfit) h1;unfold Oper.wp
  simp [execOp,ho,resolve,invoke,builtin,hd,hs,hrun,Result.andThen]
  exact h _ (by simpa [splice] using setRow_heap w g _ _ t _ hg) (below_setRow hb hBg _)
def Yy (l:List Int):Q:=⟨l.getD 2 0 * 256+l.getD 3 0,l.getD 4 0,l.getD 5 0,l.getD 6 0,l.getD 7 0,((l.drop 9).getD 0 0,(l.drop 9).getD 1 0,(l.drop 9).getD 2 0,(l.drop 9).getD 3 0),l.getD 8 0⟩
theorem Jp (m:List Int) (p0 p1 p2 p3 p4 q:Value):splice [p0,p1,p2,p3,p4,.int .u8 0,.int .u8 0,.int .u8 0,.int .u8 0,q] 5 ((m.take 4).map (Value.int .u8)) = [p0,p1,p2,p3,p4,.int .u8 (m.getD 0 0),.int .u8 (m.getD 1 0),.int .u8 (m.getD 2 0),.int .u8 (m.getD 3 0),q]:=by
 match m with
 | []=>rfl
 | [_]=>rfl
 | [_,_]=>rfl
 | [_,_,_]=>rfl
 | _ :: _ :: _ :: _ :: _=>rfl
theorem Jo (x:Q):(qb x).length=9\/(qb x).length=13:=by
 unfold qb
 by_cases h:x.k=2
 ·rw [an h,an h];exact .inr rfl
 ·rw [ai h,ai h];exact .inl rfl
theorem Bv {x:Q} (hg:good x) (hv:okV x.v):∀ y∈qb x,0<=y/\y < 256:=fun y hy=>by
 unfold qb at hy;unfold good at hg;unfold okV at hv
 by_cases hk:x.k=2
 ·rw [an hk,an hk] at hy
  simp only [dy,cj,cW,f8] at hy
  omega
 ·rw [ai hk,ai hk] at hy
  simp only [dy,cj,cW,f8] at hy
  omega
theorem K8 {y:Y} (hg:may y) (hv:okV y.v):∀ x∈yb y,0<=x/\x < 256:=fun x hx=>by
 unfold yb at hx;unfold may at hg;unfold okV at hv;simp only [cj,cW,f8] at hx
 omega
theorem fZ (h:∀ x∈l,0<=x/\x < 256) (k:Nat):0<=l.getD k 0/\l.getD k 0 < 256:=by
 rw [af]
 rcases e:l[k]? with _ | x
 ·exact ⟨gR _,by decide⟩
 ·exact h x (cU e)
theorem Jk (h:l.length=9\/l.length=13):Yy l=kJ l:=by
 unfold Yy kJ
 rcases h with h | h
 ·rw [ai (by omega),show l.drop 9 = [] from List.drop_eq_nil_of_le (by omega)];rfl
 ·rw [an h]
  simp [List.getD_eq_getElem?_getD]
theorem Kk (l:List Int):sj l↔good (Yy l)/\qb (Yy l)=l:=by
 constructor
 ·rintro ⟨h,g,e⟩
  rw [Jk h];exact ⟨g,e⟩
 ·rintro ⟨g,e⟩
  have h:l.length=9\/l.length=13:=by rw [← e];exact Jo _
  rw [Jk h] at g e;exact ⟨h,g,e⟩
end Rq
namespace Rq
theorem vB {x:Q} (hg:good x):kJ (qb x)=x:=by
 obtain ⟨id,k,n,f,r,⟨v0,v1,v2,v3⟩,key⟩:=x;unfold good at hg;dsimp only at hg;unfold qb kJ;dsimp only
 by_cases h:k=2
 ·simp [h]
  omega
 ·obtain ⟨_,_,_,_,_,_,_,h'⟩:=hg
  obtain ⟨rfl,rfl,rfl,rfl⟩:=h'.resolve_left h
  simp [h,z4]
  omega
theorem Uj {x:Q} (hg:good x):sj (qb x):=⟨Jo x,by rw [vB hg];exact hg,by rw [vB hg]⟩
theorem A7 {y:Y} (hg:may y):Ud (yb y)=y:=by
 obtain ⟨id,e,⟨v0,v1,v2,v3⟩⟩:=y;unfold may at hg;dsimp only at hg;unfold yb Ud
 simp
 omega
theorem Iz {y:Y} (hg:may y):Yg (yb y):=⟨rfl,by rw [A7 hg];exact hg,by rw [A7 hg]⟩
end Rq
namespace Ga
open Cu (Cs Ac bO rC wM A9 AQ jB nL)
open Qe (Qs ok fst wO Kv QN zk Oz)
open Rq (Q Y zQ kJ Ud sj Yg qb yb good may okV)
structure Gs where
 c:Cs
 key:Int
 q:Qs
def iZ (s:Gs) (l:List Int):Int:=if ¬ sj l then 2 else if (s.c.S.length:Int)<=(kJ l).n then 1 else if ((kJ l).k=2\/(kJ l).k=3)/\(kJ l).key≠s.key then 15 else zk s.q
def za (l:List Int):Int:=if sj l then (kJ l).id else 0
def Yl (s:Gs) (l:List Int):List Int:=if iZ s l=0 then [] else yb ⟨za l,iZ s l,z4⟩
def rO (s:Gs) (l:List Int):Gs:=if iZ s l=0 then ⟨s.c,s.key,⟨s.q.L ++ [kJ l],s.q.t⟩⟩ else s
def stV (s:Gs) (x:Q):R4:=(if bX s.c.V x.n=true then 1 else 0,Wt.rl s.c.P x.n % 256,(s.c.pl:Int) % 256,0)
def mM (s:Gs) (x:Q):Int:=if x.k=4 then 0 else wM s.c x.n (x.k - 1) x.f x.r
def C7 (s:Gs) (x:Q):R4:=if x.k=4 then stV s x else A9 s.c x.n (x.k - 1) x.f x.r x.v
def tV (s:Gs) (x:Q):Cs:=if x.k=4 then s.c else AQ s.c x.n (x.k - 1) x.f x.r x.v
def stA (s:Gs):List Int:=if 0 < s.q.L.length then (if mM s (fst s.q)=13 then (if Kv s.q=true then yb ⟨(fst s.q).id,13,z4⟩ else []) else yb ⟨(fst s.q).id,mM s (fst s.q),C7 s (fst s.q)⟩) else []
def OM (s:Gs):Qs:=if 0 < s.q.L.length then (if mM s (fst s.q)=13 then QN s.q else wO s.q) else s.q
def X9 (s:Gs):Gs:=⟨rC (if 0 < s.q.L.length then tV s (fst s.q) else s.c),s.key,OM s⟩
structure OkG (s:Gs) (t:Nat):Prop where
 ok:jB s.c t
 sy:nL s.c
 qo:Qe.ok s.q
 all:∀ x∈s.q.L,good x/\okV x.v/\x.n < s.c.S.length
 key:0<=s.key/\s.key<=255
theorem JP:okV z4:=⟨⟨by decide,by decide⟩,⟨by decide,by decide⟩,⟨by decide,by decide⟩,by decide,by decide⟩
variable {v:R4}
theorem JB (h:okV v):bH v:=by
 unfold okV at h;unfold bH
 omega
theorem ZZ (h:bH v):okV v:=by
 unfold bH at h;unfold okV
 omega
variable {l:List Int}
theorem byte_of (h:∀ x∈l,0<=x/\x < 256):okV (kJ l).v:=by
 unfold kJ;dsimp only
 split
 ·exact ⟨Rq.fZ h _,Rq.fZ h _,Rq.fZ h _,(Rq.fZ h _).1,(Rq.fZ h _).2⟩
 ·exact JP
theorem abS (l:List Int):0<=za l/\za l<=65535:=by
 unfold za
 split
 ·rename_i h;exact h.2.1.1
 ·omega
theorem aam (s:Gs) (l:List Int):0<=iZ s l/\iZ s l<=16:=by
 unfold iZ zk
 split
 ·omega
 ·split
  ·omega
  ·split
   ·omega
   ·split <;> omega
theorem T9 (s:Gs) (l:List Int):may ⟨za l,iZ s l,z4⟩:=⟨abS l,aam s l,.inr ⟨rfl,rfl,rfl,rfl⟩⟩
theorem aan {s:Gs} (h:iZ s l=0):sj l/\(kJ l).n < s.c.S.length/\¬ (((kJ l).k=2\/(kJ l).k=3)/\(kJ l).key≠s.key)/\s.q.L.length < 8:=by
 unfold iZ zk at h
 split at h
 ·omega
 ·rename_i h1
  split at h
  ·omega
  ·rename_i h2
   split at h
   ·omega
   ·rename_i h3
    split at h
    ·omega
    ·exact ⟨Classical.not_not.1 h1,by omega,h3,by omega⟩
theorem Sj (c:Cs):(rC c).S.length=c.S.length:=by
 unfold rC
 split
 ·rfl
 ·split
  ·show (if Pa.jP c.S (Cu.rT c) c.V=0 then Pa.p9 c.S (Cu.rT c) c.V c.Q else c.S).length=_
   split
   ·rename_i e
    have er:Pa.p9 c.S (Cu.rT c) c.V c.Q=Pa.Ae c.S (Cu.rT c) c.V (Pa.hr c.S (Cu.rT c) c.V c.Q):=an e;rw [er,Pa.jK]
   ·rfl
  ·rfl
theorem Vw (c:Cs) (n o f r:Int) (x:R4):(AQ c n o f r x).S.length=c.S.length:=by
 unfold AQ
 split
 ·rfl
 ·exact cA
theorem Pn (x:Ac) (c:Cs):(bO x c).S.length=c.S.length:=by
 unfold bO
 split
 ·exact Sj c
 ·split
  ·rfl
  ·split
   ·rfl
   ·split
    ·exact cA
    ·split
     ·rfl
     ·split <;> rfl
theorem ab5 (A:Fs.aT) (o f r:Int):0<=dE A o f r/\dE A o f r<=5:=by
 unfold dE
 split
 ·split
  ·omega
  ·unfold Fl.ja
   repeat' split
   all_goals omega
 ·omega
theorem Zd (c:Cs) (n o f r:Int):0<=wM c n o f r/\wM c n o f r<=16:=by
 unfold wM
 split
 ·omega
 ·split
  ·have:=ab5 (sat c.S n).1 o f r;omega
  ·omega
section
variable {s:Gs} {t:Nat} (h:OkG s t)
include h
theorem OkG.next:OkG s (t+1):=⟨h.ok.next,h.sy,h.qo,h.all,h.key⟩
theorem OkG.act (x:Ac) (hx:bH x.v):OkG ⟨bO x s.c,s.key,s.q⟩ (t+1):=⟨h.ok.act x hx,h.sy.act h.ok x,h.qo,fun y hy=>by
 have:=h.all y hy;refine ⟨this.1,this.2.1,?_⟩
 show y.n < (bO x s.c).S.length
 rw [Pn];exact this.2.2,h.key⟩
theorem OkG.sub (hb:∀ x∈l,0<=x/\x < 256):OkG (rO s l) t:=by
 unfold rO
 by_cases e:iZ s l=0
 ·rw [an e]
  obtain ⟨h1,h2,h3,h4⟩:=aan e;have hp:=Qe.Xr h.qo (kJ l);unfold Oz at hp;rw [ai (by omega)] at hp;refine ⟨h.ok,h.sy,hp,fun y hy=>?_,h.key⟩
  rcases dy.1 hy with hy | hy
  ·exact h.all y hy
  ·obtain rfl:=cY.1 hy
   exact ⟨h1.2.1,byte_of hb,h2⟩
 ·rw [ai e];exact h
theorem OkG.fst (h0:0 < s.q.L.length):good (fst s.q)/\okV (fst s.q).v/\(fst s.q).n < s.c.S.length:=by
 obtain ⟨c,key,⟨L,tt⟩⟩:=s
 cases L with
 | nil=>simp at h0
 | cons x r=>exact h.all x (cy ..)
theorem OkG.tV (x:Q) (hx:okV x.v):jB (tV s x) (t+1)/\nL (tV s x):=by
 unfold Ga.tV
 split
 ·exact ⟨h.ok.next,h.sy⟩
 ·exact ⟨h.ok.serve _ _ _ _ _ (JB hx),h.sy.serve _ _ _ _ _⟩
omit h in
theorem Xz (x:Q):(Ga.tV s x).S.length=s.c.S.length:=by
 unfold Ga.tV
 split
 ·rfl
 ·exact Vw ..
theorem OkG.step:OkG (X9 s) (t+2):=by
 have hc:jB (if 0 < s.q.L.length then Ga.tV s (Qe.fst s.q) else s.c) (t+1)/\nL (if 0 < s.q.L.length then Ga.tV s (Qe.fst s.q) else s.c)/\(if 0 < s.q.L.length then Ga.tV s (Qe.fst s.q) else s.c).S.length=s.c.S.length:=by
  split
  ·rename_i h0
   have:=h.tV _ (h.fst h0).2.1;exact ⟨this.1,this.2,Xz _⟩
  ·exact ⟨h.ok.next,h.sy,rfl⟩
 have hq:Qe.ok (OM s)/\∀ x∈(OM s).L,x∈s.q.L:=by
  unfold OM
  split
  ·split
   ·refine ⟨Qe.UW h.qo,fun x hx=>?_⟩
    unfold QN at hx
    rename_i h0 _
    rw [an h0] at hx
    split at hx
    ·exact List.mem_of_mem_tail hx
    ·exact hx
   ·exact ⟨Qe.Sb h.qo,fun x hx=>List.mem_of_mem_tail hx⟩
  ·exact ⟨h.qo,fun x hx=>hx⟩
 unfold X9;refine ⟨hc.1.round,hc.2.1.round,hq.1,fun x hx=>?_,h.key⟩;have:=h.all x (hq.2 x hx);refine ⟨this.1,this.2.1,?_⟩
 show x.n < (rC _).S.length
 rw [Sj,hc.2.2];exact this.2.2
end
variable {x:R4}
theorem Zo {A:Fs.aT} (h:Fs.eO A) (o f r:Int) (hx:bH x):bH (dV A o f r x):=by
 unfold dV
 split
 ·exact Fl.lG
 ·rename_i e he
  split
  ·exact Fs.Cb (h.find he).2.2.1 hx
  ·exact Fl.lG
variable {c:Cs}
theorem Vs {t:Nat} (h:jB c t) (n o f r:Int) (hx:bH x):bH (A9 c n o f r x):=by
 unfold A9
 split
 ·rename_i e
  unfold wM at e
  split at e
  ·omega
  ·rename_i hn
   have hin:0<=n/\n < c.S.length:=by unfold Cu.no at hn;omega
   have hs:=h.st n.toNat (by omega);rw [eN hin.1] at hs;exact Zo hs.1 _ _ _ hx
 ·exact Fl.lG
theorem xR {n o f r:Int} (h:wM c n o f r≠0):A9 c n o f r x=z4:=by unfold A9;rw [ai h]
section
variable {s:Gs} {t:Nat} (h:OkG s t)
include h
theorem OkG.C7 (x:Q) (hx:okV x.v):okV (C7 s x):=by
 unfold Ga.C7
 split
 ·unfold stV
  refine ⟨?_,?_,?_,gR 0,by show (0:Int) < 256;decide⟩
  ·dsimp only;split <;> decide
  ·dsimp only;omega
  ·dsimp only;omega
 ·exact ZZ (Vs h.ok _ _ _ _ (JB hx))
omit h in
theorem Sy (x:Q):0<=mM s x/\mM s x<=16:=by
 unfold mM
 split
 ·omega
 ·exact Zd ..
omit h in
theorem aaj (x:Q) (hx:good x):may ⟨x.id,mM s x,Ga.C7 s x⟩:=by
 refine ⟨hx.1,Sy x,?_⟩
 by_cases e:mM s x=0
 ·exact .inl e
 ·right
  unfold Ga.C7;unfold mM at e
  split at e
  ·exact absurd rfl e
  ·rename_i h4
   rw [ai h4,xR e];exact ⟨rfl,rfl,rfl,rfl⟩
end
end Ga
namespace Cu
open Go.RowKit Go.Maps
section
variable {E:TypeId} {w wr w1:World} {S:bW} {k:Nat} {o o':Value} {ps:List Nat} {Fs:Nat->Nat->Prop} {g:Nat} {F5:Nat->Prop}
structure PJ (E:TypeId) (w:World) (S:bW) (k:Nat) (o:Value) (ps:List Nat) (Fs:Nat->Nat->Prop) (wr:World):Prop where
 own:Ow KN wr w.heap.size E o ps
 len:ps.length=k
 each:∀ i,i < k->St wr (ps.getD i 0) (Fs i) (sat S i).1 (sat S i).2
 lo:∀ i,i < k->∀ j,Fs i j->w.heap.size<=j/\o.ownBlock≠some j
 kI:∀ i m,i < k->m < k->i≠m->∀ j,Fs i j->¬ Fs m j
 aD:Below w.heap.size w wr
structure PK (E:TypeId) (w:World) (S:bW) (k:Nat) (o:Value) (ps:List Nat) (Fs:Nat->Nat->Prop) (g:Nat) (F5:Nat->Prop) (wr:World):Prop where
 old:PJ E w S k o ps Fs wr
 new:St wr g F5 (sat S k).1 (sat S k).2
 nlo:∀ j,F5 j->w.heap.size<=j/\o.ownBlock≠some j
 Z9:∀ i,i < k->∀ j,F5 j->¬ Fs i j
theorem PJ.start (hb:Below w.heap.size w wr):PJ E w S 0 (.slice none 0 0) [] Fs wr:=⟨Rw.Ow.nil _ _ _,rfl,fun i hi=>by omega,fun i hi=>by omega,fun i m hi=>by omega,hb⟩
theorem PJ.below (h:PJ E w S k o ps Fs wr) (b:Below wr.heap.size wr w1):PJ E w S k o ps Fs w1:=⟨h.own.keep b,h.len,fun i hi=>(h.each i hi).below b,h.lo,h.kI,h.aD.trans (b.mono h.aD.size)⟩
theorem PJ.Vt (h:PJ E w S k o ps Fs wr):∀ k,o.ownBlock=some k->k < wr.heap.size:=fun k e=>(cC h.own k e).2
theorem PJ.pend (h:PJ E w S k o ps Fs wr) (b:Below wr.heap.size wr w1) (st:St w1 g F5 (sat S k).1 (sat S k).2) (lo5:∀ j,F5 j->wr.heap.size<=j):PK E w S k o ps Fs g F5 w1 :=
 ⟨h.below b,st,fun j hj=>⟨cG h.aD.size (lo5 j hj),fun e=>by have:=h.Vt j e;have:=lo5 j hj;omega⟩,fun i hi j hj q=>by have:=(h.each i hi).low j q;have:=lo5 j hj;omega⟩
theorem PK.below (h:PK E w S k o ps Fs g F5 wr) (b:Below wr.heap.size wr w1):PK E w S k o ps Fs g F5 w1:=⟨h.old.below b,h.new.below b,h.nlo,h.Z9⟩
def fsN (Fs:Nat->Nat->Prop) (k:Nat) (F5:Nat->Prop) (i:Nat):Nat->Prop:=if i=k then F5 else Fs i
theorem PK.push (h:PK E w S k o ps Fs g F5 wr) (own:Ow KN w1 w.heap.size E o' (ps ++ [g])) (gr:wr.grownBy w1 o.ownBlock) (hq:o'.ownBlock=o.ownBlock\/∃ g,o'.ownBlock=some g/\wr.heap.size<=g):PJ E w S (k+1) o' (ps ++ [g]) (fsN Fs k F5) w1:=by
 have oq:=aX gr;have len:=h.old.len;have at_old:∀ i,i < k->(ps ++ [g]).getD i 0=ps.getD i 0:=fun i hi=>by rw [af,ed (by rw [len];exact hi),af]
 have at_new:(ps ++ [g]).getD k 0=g:=by rw [af,fh (by rw [len];exact ac _),len];simp
 have f_old:∀ i,i < k->fsN Fs k F5 i=Fs i:=fun i hi=>ai (by omega);have f_new:fsN Fs k F5 k=F5:=an rfl;have off:∀ (F:Nat->Prop) j,F j->(∀ j,F j->j < wr.heap.size)->o.ownBlock≠some j->o'.ownBlock≠some j:=fun F j hj hl hn e=>by
  rcases hq with q | ⟨x,q,hx⟩
  ·exact hn (by rw [← q];exact e)
  ·rw [q] at e
   injection e with e;have:=hl j hj
   omega
 refine ⟨own,by rw [cP,len];rfl,fun i hi=>?_,fun i hi=>?_,fun i m hi hm hne=>?_,h.old.aD.grown gr h.old.aD.size fun j e=>(cC h.old.own j e).1⟩
 ·by_cases e:i=k
  ·subst e
   rw [at_new,f_new];exact h.new.only (fun j hj e=>(h.nlo j hj).2 e) oq
  ·rw [at_old i (by omega),f_old i (by omega)]
   exact (h.old.each i (by omega)).only (fun j hj e=>(h.old.lo i (by omega) j hj).2 e) oq
 ·by_cases e:i=k
  ·subst e
   rw [f_new];exact fun j hj=>⟨(h.nlo j hj).1,off F5 j hj h.new.low (h.nlo j hj).2⟩
  ·rw [f_old i (by omega)]
   exact fun j hj=>⟨(h.old.lo i (by omega) j hj).1,off _ j hj (h.old.each i (by omega)).low (h.old.lo i (by omega) j hj).2⟩
 ·by_cases e:i=k
  ·subst e
   rw [f_new,f_old m (by omega)];exact fun j hj=>h.Z9 m (by omega) j hj
  ·by_cases e2:m=k
   ·subst e2
    rw [f_new,f_old i (by omega)];exact fun j hj q=>h.Z9 i (by omega) j q hj
   ·rw [f_old i (by omega),f_old m (by omega)]
    exact h.old.kI i m (by omega) (by omega) hne
theorem PJ.low {w0:World} (h:PJ E w S k o ps Fs wr) (hz:w0.heap.size<=w.heap.size) (b:Below w0.heap.size w0 wr):PJ E w0 S k o ps Fs wr:=⟨h.own.low hz,h.len,h.each,fun i hi j hj=>⟨cG hz (h.lo i hi j hj).1,(h.lo i hi j hj).2⟩,h.kI,b⟩
theorem PJ.stl (h:PJ E w S S.length o ps Fs wr):zZ wr o S:=⟨ps,h.own.rd,h.len,fun i hi=>⟨_,h.each i hi⟩⟩
end
def BrP (w:World) (E:Int) (S':bW) (e:Ending) (w':World):Prop:=∃ v ps Fs,e = .returned (.tuple #[v,.int .i64 E])/\(E=0->PJ 76 w S' S'.length v ps Fs w')/\(E≠0->v = .slice none 0 0)/\Below w.heap.size w w'
end Cu
namespace Wt
open Go.RowKit
open Fl (ak aI)
attribute [local irreducible] Sd.aV wpQuiet
section
end
theorem bC (r k:Nat) (w:World) (u:Value):Only (fun b=>b=r) w (w.setCell ⟨r,k,none⟩ u):=Only.set (fun b=>b=r) w (a:=⟨r,k,none⟩) rfl u
variable {w w1 w2 w':World}
theorem jW {r:Nat} (h:Only (fun b=>b=r) w w1) (g:Only (fun b=>b=r) w1 w2):Only (fun b=>b=r) w w2:=h.trans g fun _ _ q=>q
def acH (r0 z0 r1 z1:Int):Array Value:=#[.int .i64 r0,.int .i64 z0,.int .i64 r1,.int .i64 z1]
def dx (w:World) (s:Nat) (r0 z0 r1 z1:Int):Prop:=w.heap[s]? = some (.cells (acH r0 z0 r1 z1) 118 (0,0))
theorem dx.only {s:Nat} {r0 z0 r1 z1:Int} {G:Nat->Prop} (h:dx w s r0 z0 r1 z1) (o:Only G w w') (hn:¬ G s):dx w' s r0 z0 r1 z1:=(o.block s (bh h) hn).trans h
section
variable {w:World} {s:Nat} {r0 z0 r1 z1:Int} (h:dx w s r0 z0 r1 z1)
include h
theorem dx.below (b:Below w.heap.size w w'):dx w' s r0 z0 r1 z1:=h.only (G:=fun _=>False) (Only.of_below b) (fun g=>g)
theorem dx.set0 (x:Int):dx (w.setCell ⟨s,0,none⟩ (.int .i64 x)) s x z0 r1 z1:=Rw.heap_setCell_same h _
theorem dx.set1 (x:Int):dx (w.setCell ⟨s,1,none⟩ (.int .i64 x)) s r0 x r1 z1:=Rw.heap_setCell_same h _
theorem dx.set2 (x:Int):dx (w.setCell ⟨s,2,none⟩ (.int .i64 x)) s r0 z0 x z1:=Rw.heap_setCell_same h _
theorem dx.Ik (x:Int):dx (w.setCell ⟨s,3,none⟩ (.int .i64 x)) s r0 z0 r1 x:=Rw.heap_setCell_same h _
end
structure Vm (a:A) (z0 z1:Int) (t:Nat):Prop where
 b0:0<=z0/\z0<=t
 b1:0<=z1/\z1<=t
 e0:a.r0=2\/a.r0=3->a.q0=z0
 e1:a.r1=2\/a.r1=3->a.q1=z1
def Pr (w:World) (s:Nat) (a:A) (t:Nat):Prop:=∃ z0 z1,dx w s a.r0 z0 a.r1 z1/\Vm a z0 z1 t
theorem Pr.only {w w':World} {s t:Nat} {a:A} {G:Nat->Prop} (h:Pr w s a t) (o:Only G w w') (hn:¬ G s):Pr w' s a t:=by
 obtain ⟨z0,z1,hr,hv⟩:=h;exact ⟨z0,z1,hr.only o hn,hv⟩
variable {s t:Nat} {a:A}
theorem Pr.lt (h:Pr w s a t):s < w.heap.size:=by obtain ⟨_,_,hr,_⟩:=h;exact bh hr
def yg (w:World) (e:Ending) (w':World):Prop:=∃ s,e = .returned (.pointer (some ⟨s,0,none⟩))/\Pr w' s new 0/\w.heap.size<=s/\Below w.heap.size w w'
def aU (w:World) (s:Nat) (x:Int) (a:A) (t:Nat) (e:Ending) (w':World):Prop:=e = .returned (.int .i64 x)/\Pr w' s a t/\Only (fun b=>b=s) w w'
theorem mW (w:World):Calls prog 24 #[] w (yg w):=by
 have E:Hid (yg w (.returned (.pointer (some ⟨w.heap.size,0,none⟩))) (w.alloc (.cells #[.int .i64 1,.int .i64 0,.int .i64 2,.int .i64 0] 118))):=Hh ⟨_,rfl,⟨0,0,aw w _,⟨by decide,by decide,fun _=>rfl,fun _=>rfl⟩⟩,ac _,(aa _ _).alloc (ac _) _⟩
 go_enter func24,ntmps24
 go_wp2
 go_ret
 exact E
def hs (n:Int):Bool:=decide (0<=n) && decide (n < 2)
theorem dZ (w:World) (s:Nat) (n:Int):Calls prog 91 #[.pointer (some ⟨s,0,none⟩),.int .i64 n] w fun e w'=>e = .returned (.bool (hs n))/\Below w.heap.size w w':=by
 have E:Hid (hs n=(decide (0<=n) && decide (n < 2))):=Hh rfl;generalize hs n=b at *
 by_cases h0:0<=n
 ·by_cases h2:n < 2
  ·obtain rfl:b=true:=by rw [E.out];simp [h0,h2]
   clear E
   go_enter func91,ntmps91
   go_wp2
   go_ret
   exact ⟨rfl,aa _ _⟩
  ·obtain rfl:b=false:=by rw [E.out];simp [h2]
   clear E
   go_enter func91,ntmps91
   go_wp2
   go_ret
   exact ⟨rfl,aa _ _⟩
 ·obtain rfl:b=false:=by rw [E.out];simp [h0]
  clear E
  go_enter func91,ntmps91
  go_wp2
  go_ret
  exact ⟨rfl,aa _ _⟩
theorem Pq {n:Int} (h0:n≠0) (h1:n≠1):hs n=false:=by
 unfold hs
 by_cases a:0<=n
 ·have:¬ n < 2:=by omega
  simp [this]
 ·simp [a]
theorem Zy (P:Pr w s a t):Calls prog 63 #[.pointer (some ⟨s,0,none⟩),.int .i64 0] w (aU w s (FT a 0) (rP a 0) t):=by
 obtain ⟨z0,z1,hr,hv⟩:=P;have H:=Hh (dZ w s 0);rw [show hs 0=true from rfl] at H;have e1:FT a 0=if a.r0=4 then 10 else 0:=rfl;have e2:rP a 0 = { a with r0:=4 }:=rfl
 by_cases q:a.r0=4
 ·have E:Hid (∀ w',Below w.heap.size w w'->aU w s (FT a 0) (rP a 0) t (.returned (.int .i64 10)) w'):=Hh fun w' b=>⟨by rw [e1,an q],by rw [e2];exact ⟨z0,z1,by have:=hr.below b;rw [q] at this;exact this,⟨hv.b0,hv.b1,(fun g=>absurd g (by show ¬ ((4:Int)=2\/(4:Int)=3);decide)),hv.e1⟩⟩,Only.of_below b⟩
  have R:=Hh hr;rw [q] at R;clear hr hv e1 e2;generalize FT a 0=x at *;generalize rP a 0=a' at *
  go_enter func63,ntmps63
  go_wp2_with fail;refine H.mono ?_;rintro e w1 ⟨rfl,b1⟩;have c0:=Fl.rc (R.below b1) 0;have F:=Hh (E w1 b1);clear R H E b1 q;go_wp2
  go_ret
  exact F
 ·have E:Hid (∀ w',Below w.heap.size w w'->aU w s (FT a 0) (rP a 0) t (.returned (.int .i64 0)) ((w'.setCell ⟨s,0,none⟩ (.int .i64 4)).setCell ⟨s,1,none⟩ (.int .i64 0))):=Hh fun w' b=>⟨by rw [e1,ai q],by rw [e2];exact ⟨0,z1,((hr.below b).set0 4).set1 0,⟨⟨by decide,by omega⟩,hv.b1,(fun g=>absurd g (by show ¬ ((4:Int)=2\/(4:Int)=3);decide)),hv.e1⟩⟩,((Only.of_below b).trans (bC s 0 _ _) (fun _ _ q=>q)).trans (bC s 1 _ _) (fun _ _ q=>q)⟩
  have R:=Hh hr;clear hr hv e1 e2;generalize FT a 0=x' at *;generalize rP a 0=a' at *;generalize a.r0=x0 at *;generalize a.r1=x1 at *
  go_enter func63,ntmps63
  go_wp2_with fail;refine H.mono ?_;rintro e w1 ⟨rfl,b1⟩;have c0:=Fl.rc (R.below b1) 0;have f0:=aj (R.below b1) 0;have f1:=aj (R.below b1) 1;have c1:=Fl.rc (R.below b1) 1;have F:=Hh (E w1 b1);clear R H E b1;go_wp2
  go_ret
  exact F
theorem Zp (P:Pr w s a t):Calls prog 63 #[.pointer (some ⟨s,0,none⟩),.int .i64 1] w (aU w s (FT a 1) (rP a 1) t):=by
 obtain ⟨z0,z1,hr,hv⟩:=P;have H:=Hh (dZ w s 1);rw [show hs 1=true from rfl] at H;have e1:FT a 1=if a.r1=4 then 10 else 0:=rfl;have e2:rP a 1 = { a with r1:=4 }:=rfl
 by_cases q:a.r1=4
 ·have E:Hid (∀ w',Below w.heap.size w w'->aU w s (FT a 1) (rP a 1) t (.returned (.int .i64 10)) w'):=Hh fun w' b=>⟨by rw [e1,an q],by rw [e2];exact ⟨z0,z1,by have:=hr.below b;rw [q] at this;exact this,⟨hv.b0,hv.b1,hv.e0,(fun g=>absurd g (by show ¬ ((4:Int)=2\/(4:Int)=3);decide))⟩⟩,Only.of_below b⟩
  have R:=Hh hr;rw [q] at R;clear hr hv e1 e2;generalize FT a 1=x at *;generalize rP a 1=a' at *
  go_enter func63,ntmps63
  go_wp2_with fail;refine H.mono ?_;rintro e w1 ⟨rfl,b1⟩;have c0:=Fl.rc (R.below b1) 2;have F:=Hh (E w1 b1);clear R H E b1 q;go_wp2
  go_ret
  exact F
 ·have E:Hid (∀ w',Below w.heap.size w w'->aU w s (FT a 1) (rP a 1) t (.returned (.int .i64 0)) ((w'.setCell ⟨s,2,none⟩ (.int .i64 4)).setCell ⟨s,3,none⟩ (.int .i64 0))):=Hh fun w' b=>⟨by rw [e1,ai q],by rw [e2];exact ⟨z0,0,((hr.below b).set2 4).Ik 0,⟨hv.b0,⟨by decide,by omega⟩,hv.e0,(fun g=>absurd g (by show ¬ ((4:Int)=2\/(4:Int)=3);decide))⟩⟩,((Only.of_below b).trans (bC s 2 _ _) (fun _ _ q=>q)).trans (bC s 3 _ _) (fun _ _ q=>q)⟩
  have R:=Hh hr;clear hr hv e1 e2;generalize FT a 1=x' at *;generalize rP a 1=a' at *;generalize a.r0=x0 at *;generalize a.r1=x1 at *
  go_enter func63,ntmps63
  go_wp2_with fail;refine H.mono ?_;rintro e w1 ⟨rfl,b1⟩;have c0:=Fl.rc (R.below b1) 2;have f0:=aj (R.below b1) 2;have f1:=aj (R.below b1) 3;have c1:=Fl.rc (R.below b1) 3;have F:=Hh (E w1 b1);clear R H E b1;go_wp2
  go_ret
  exact F
theorem LY (P:Pr w s a t) (n:Int):Calls prog 63 #[.pointer (some ⟨s,0,none⟩),.int .i64 n] w (aU w s (FT a n) (rP a n) t):=by
 by_cases h0:n=0
 ·subst h0;exact Zy P
 ·by_cases h1:n=1
  ·subst h1;exact Zp P
  ·have E:Hid (∀ w',Below w.heap.size w w'->aU w s (FT a n) (rP a n) t (.returned (.int .i64 1)) w'):=Hh fun w' b=>⟨by unfold FT;rw [ai h0,ai h1],by unfold rP;rw [ai h0,ai h1];exact P.only (G:=fun _=>False) (Only.of_below b) (fun g=>g),Only.of_below b⟩
   have H:=Hh (dZ w s n);rw [Pq h0 h1] at H;clear P h0 h1
   go_enter func63,ntmps63
   go_wp2_with fail;refine H.mono ?_;rintro e w1 ⟨rfl,b1⟩;have F:=Hh (E w1 b1);clear H E b1;go_wp2
   go_ret
   exact F
theorem QV (P:Pr w s a t):Calls prog 64 #[.pointer (some ⟨s,0,none⟩),.int .i64 0] w (aU w s (rsE a 0) (rM a 0) t):=by
 obtain ⟨z0,z1,hr,hv⟩:=P;have H:=Hh (dZ w s 0);rw [show hs 0=true from rfl] at H;have e1:rsE a 0=if a.r0=4 then 0 else 10:=rfl;have e2:rM a 0=if a.r0=4 then { a with r0:=3,q0:=0 } else a:=rfl
 by_cases q:a.r0=4
 ·have E:Hid (∀ w',Below w.heap.size w w'->aU w s (rsE a 0) (rM a 0) t (.returned (.int .i64 0)) ((w'.setCell ⟨s,0,none⟩ (.int .i64 3)).setCell ⟨s,1,none⟩ (.int .i64 0))):=Hh fun w' b=>⟨by rw [e1,an q],by rw [e2,an q];exact ⟨0,z1,((hr.below b).set0 3).set1 0,⟨⟨by decide,by omega⟩,hv.b1,(fun _=>rfl),hv.e1⟩⟩,((Only.of_below b).trans (bC s 0 _ _) (fun _ _ q=>q)).trans (bC s 1 _ _) (fun _ _ q=>q)⟩
  have R:=Hh hr;rw [q] at R;clear hr hv e1 e2;generalize rsE a 0=x at *;generalize rM a 0=a' at *
  go_enter func64,ntmps64
  go_wp2_with fail;refine H.mono ?_;rintro e w1 ⟨rfl,b1⟩;have c0:=Fl.rc (R.below b1) 0;have f0:=aj (R.below b1) 0;have f1:=aj (R.below b1) 1;have c1:=Fl.rc (R.below b1) 1;have F:=Hh (E w1 b1);clear R H E b1 q;go_wp2
  go_ret
  exact F
 ·have E:Hid (∀ w',Below w.heap.size w w'->aU w s (rsE a 0) (rM a 0) t (.returned (.int .i64 10)) w'):=Hh fun w' b=>⟨by rw [e1,ai q],by rw [e2,ai q];exact ⟨z0,z1,hr.below b,hv⟩,Only.of_below b⟩
  have R:=Hh hr;have q4:=bne_iff_ne.2 q;clear hr hv e1 e2 q;generalize rsE a 0=x' at *;generalize rM a 0=a' at *;generalize a.r0=x0 at *;generalize a.r1=x1 at *
  go_enter func64,ntmps64
  go_wp2_with fail;refine H.mono ?_;rintro e w1 ⟨rfl,b1⟩;have c0:=Fl.rc (R.below b1) 0;have F:=Hh (E w1 b1);clear R H E b1;go_wp2
  go_ret
  exact F
theorem Qr (P:Pr w s a t):Calls prog 64 #[.pointer (some ⟨s,0,none⟩),.int .i64 1] w (aU w s (rsE a 1) (rM a 1) t):=by
 obtain ⟨z0,z1,hr,hv⟩:=P;have H:=Hh (dZ w s 1);rw [show hs 1=true from rfl] at H;have e1:rsE a 1=if a.r1=4 then 0 else 10:=rfl;have e2:rM a 1=if a.r1=4 then { a with r1:=3,q1:=0 } else a:=rfl
 by_cases q:a.r1=4
 ·have E:Hid (∀ w',Below w.heap.size w w'->aU w s (rsE a 1) (rM a 1) t (.returned (.int .i64 0)) ((w'.setCell ⟨s,2,none⟩ (.int .i64 3)).setCell ⟨s,3,none⟩ (.int .i64 0))):=Hh fun w' b=>⟨by rw [e1,an q],by rw [e2,an q];exact ⟨z0,0,((hr.below b).set2 3).Ik 0,⟨hv.b0,⟨by decide,by omega⟩,hv.e0,(fun _=>rfl)⟩⟩,((Only.of_below b).trans (bC s 2 _ _) (fun _ _ q=>q)).trans (bC s 3 _ _) (fun _ _ q=>q)⟩
  have R:=Hh hr;rw [q] at R;clear hr hv e1 e2;generalize rsE a 1=x at *;generalize rM a 1=a' at *
  go_enter func64,ntmps64
  go_wp2_with fail;refine H.mono ?_;rintro e w1 ⟨rfl,b1⟩;have c0:=Fl.rc (R.below b1) 2;have f0:=aj (R.below b1) 2;have f1:=aj (R.below b1) 3;have c1:=Fl.rc (R.below b1) 3;have F:=Hh (E w1 b1);clear R H E b1 q;go_wp2
  go_ret
  exact F
 ·have E:Hid (∀ w',Below w.heap.size w w'->aU w s (rsE a 1) (rM a 1) t (.returned (.int .i64 10)) w'):=Hh fun w' b=>⟨by rw [e1,ai q],by rw [e2,ai q];exact ⟨z0,z1,hr.below b,hv⟩,Only.of_below b⟩
  have R:=Hh hr;have q4:=bne_iff_ne.2 q;clear hr hv e1 e2 q;generalize rsE a 1=x' at *;generalize rM a 1=a' at *;generalize a.r0=x0 at *;generalize a.r1=x1 at *
  go_enter func64,ntmps64
  go_wp2_with fail;refine H.mono ?_;rintro e w1 ⟨rfl,b1⟩;have c0:=Fl.rc (R.below b1) 2;have F:=Hh (E w1 b1);clear R H E b1;go_wp2
  go_ret
  exact F
theorem DR (P:Pr w s a t) (n:Int):Calls prog 64 #[.pointer (some ⟨s,0,none⟩),.int .i64 n] w (aU w s (rsE a n) (rM a n) t):=by
 by_cases h0:n=0
 ·subst h0;exact QV P
 ·by_cases h1:n=1
  ·subst h1;exact Qr P
  ·have E:Hid (∀ w',Below w.heap.size w w'->aU w s (rsE a n) (rM a n) t (.returned (.int .i64 1)) w'):=Hh fun w' b=>⟨by unfold rsE;rw [ai h0,ai h1],by unfold rM;rw [ai h0,ai h1];exact P.only (G:=fun _=>False) (Only.of_below b) (fun g=>g),Only.of_below b⟩
   have H:=Hh (dZ w s n);rw [Pq h0 h1] at H;clear P h0 h1
   go_enter func64,ntmps64
   go_wp2_with fail;refine H.mono ?_;rintro e w1 ⟨rfl,b1⟩;have F:=Hh (E w1 b1);clear H E b1;go_wp2
   go_ret
   exact F
theorem J2 {x:Int} (k:Nat) (hk:k < 2) (c:∀ w',Below w.heap.size w w'->w'.cell? ⟨s,2 * k,none⟩=some (.int .i64 x)):Calls prog 146 #[.pointer (some ⟨s,0,none⟩),.int .i64 (k:Int)] w fun e w'=>e = .returned (.int .i64 x)/\Below w.heap.size w w':=by
 have H:=Hh (dZ w s k)
 rcases (by omega:k=0\/k=1) with rfl | rfl
 ·rw [show hs ((0:Nat):Int)=true from rfl] at H
  go_enter func146,ntmps146
  go_wp2_with fail;refine H.mono ?_;rintro e w1 ⟨rfl,b1⟩;have c0:=c w1 b1;have B1:=Hh b1;clear H b1 c;go_wp2
  go_ret
  exact ⟨rfl,B1⟩
 ·rw [show hs ((1:Nat):Int)=true from rfl] at H
  go_enter func146,ntmps146
  go_wp2_with fail;refine H.mono ?_;rintro e w1 ⟨rfl,b1⟩;have c0:=c w1 b1;have B1:=Hh b1;clear H b1 c;go_wp2
  go_ret
  exact ⟨rfl,B1⟩
theorem Sw (P:Pr w s a t) (n:Int):Calls prog 146 #[.pointer (some ⟨s,0,none⟩),.int .i64 n] w fun e w'=>e = .returned (.int .i64 (rl a n))/\Below w.heap.size w w':=by
 obtain ⟨z0,z1,hr,hv⟩:=P
 by_cases h0:n=0
 ·subst h0
  exact J2 0 (by decide) fun w' b=>ah (hr.below b) 0
 ·by_cases h1:n=1
  ·subst h1
   exact J2 1 (by decide) fun w' b=>ah (hr.below b) 2
  ·have H:=Hh (dZ w s n)
   rw [Pq h0 h1] at H;have E:Hid (rl a n=0):=Hh (by unfold rl;rw [ai h0,ai h1]);clear hr hv h0 h1;generalize rl a n=x at *;obtain rfl:=E.out;clear E
   go_enter func146,ntmps146
   go_wp2_with fail;refine H.mono ?_;rintro e w1 ⟨rfl,b1⟩;have B1:=Hh b1;clear H b1;go_wp2
   go_ret
   exact ⟨rfl,B1⟩
def du (r z n:Int):Bool:=(decide (r=2) && decide (4<=z)) || (decide (r=3) && decide (8+n<=z))
theorem JM (w:World) (r z n:Int) (hn:0<=n/\n<=1):Calls prog 111 #[.agg #[.int .i64 r,.int .i64 z],.int .i64 n] w fun e w'=>e = .returned (.bool (du r z n))/\Below w.heap.size w w':=by
 have E:Hid (du r z n=((decide (r=2) && decide (4<=z)) || (decide (r=3) && decide (8+n<=z)))):=Hh rfl;have w8:IntKind.i64.wrap (8+n)=8+n:=cx _ (by omega);have B:Hid (Below w.heap.size w (w.alloc (.cells #[.int .i64 r,.int .i64 z] 115))):=Hh ((aa _ _).alloc (ac _) _);generalize du r z n=b at *
 by_cases h2:r=2
 ·subst h2
  obtain rfl:b=decide (4<=z):=by rw [E.out];simp
  clear E
  go_enter func111,ntmps111
  go_wp2
  go_ret
  exact ⟨rfl,B⟩
 ·by_cases h3:r=3
  ·subst h3
   obtain rfl:b=decide (8+n<=z):=by rw [E.out];simp
   clear E h2
   go_enter func111,ntmps111
   go_wp2
   go_ret
   exact ⟨rfl,B⟩
  ·obtain rfl:b=false:=by rw [E.out];simp [h2,h3]
   have q2:=cH.2 h2;have q3:=cH.2 h3;clear E h2 h3
   go_enter func111,ntmps111
   go_wp2
   go_ret
   exact ⟨rfl,B⟩
end Wt
namespace Cu
open Go.RowKit Go.Maps
open Fs (aB)
structure Nd where
 s:Nat
 live:Bool
 rate:Int
def ndD:Nd:=⟨0,false,0⟩
def KD:Rw.Kind Nd:=⟨fun x=>[ptr x.s,.bool x.live,.int .i64 x.rate],3,by decide,fun _=>rfl,fun _ u h=>by simp [ptr] at h;rcases h with rfl | rfl | rfl <;> rfl,ndD⟩
def eU (L:List Nd) (i:Nat):Nd:=L.getD i ndD
theorem ab7:(prog.info? 78).map (fun i=>(i.zero,i.size,i.bytes))=some (some (.agg #[.pointer none,.bool false,.int .i64 0]),3,24):=by kernel_rfl
variable {b off i:Nat} {L:List Nd}
theorem atD {w:World} (h:At KD w b off L) (hi:i < L.length):w.cell? ⟨b,off+i * 3,none⟩=some (ptr (eU L i).s)/\w.cell? ⟨b,off+i * 3+1,none⟩=some (.bool (eU L i).live)/\w.cell? ⟨b,off+i * 3+2,none⟩=some (.int .i64 (eU L i).rate) :=
 ⟨h i hi 0 _ rfl,h i hi 1 _ rfl,h i hi 2 _ rfl⟩
theorem kZ (hi:i < L.length) (x:Nd) (j:Nat):eU (L.set i x) j=if j=i then x else eU L j:=by
 unfold eU;rw [af,af,gS]
 by_cases e:j=i
 ·subst e;rw [an rfl,an rfl,an hi];rfl
 ·rw [ai (by omega),ai e]
structure Cl (w:World) (s:Nat) (F:Nat->Prop) (c:Cs) (t:Nat) (vn:Value) (L:List Nd) (p:Nat) (vq:Value) (Fs:Nat->Nat->Prop):Prop where
 row:w.heap[s]? = some (.cells #[vn,ptr p,.int .i64 c.pl,vq] 73 (0,0))
 no:Ow KD w 0 78 vn L
 len:L.length=c.S.length
 st:∀ i,i < L.length->St w (eU L i).s (Fs i) (sat c.S i).1 (sat c.S i).2
 lv:∀ i:Nat,i < L.length->(eU L i).live=bX c.V i
 rt:∀ i,i < L.length->-2000<=(eU L i).rate/\(eU L i).rate<=2000
 pr:Wt.Pr w p c.P t
 sp:Ow K2 w 0 96 vq c.Q
 fs:F s
 fp:F p
 fv:∀ k,vn.ownBlock=some k\/vq.ownBlock=some k->F k
 ff:∀ i,i < L.length->∀ k,Fs i k->F k
 kI:∀ i j,i < L.length->j < L.length->i≠j->∀ k,Fs i k->¬ Fs j k
 off:∀ i,i < L.length->∀ k,Fs i k->k≠s/\k≠p/\vn.ownBlock≠some k/\vq.ownBlock≠some k
 low:∀ k,F k->k < w.heap.size
def lJ (w:World) (s:Nat) (F:Nat->Prop) (c:Cs) (t:Nat):Prop:=∃ vn L p vq Fs,Cl w s F c t vn L p vq Fs
section
variable {s t p:Nat} {F G:Nat->Prop} {c:Cs} {vn vq:Value} {L:List Nd} {Fs:Nat->Nat->Prop} {w w':World}
theorem Cl.slt (h:Cl w s F c t vn L p vq Fs):s < w.heap.size:=bh h.row
variable {a P:Wt.A}
theorem QT (h:Wt.Pr w p a t):∃ cs,w.heap[p]? = some (.cells cs 118 (0,0)):=by obtain ⟨_,_,h,_⟩:=h;exact ⟨_,h⟩
theorem Cl.DX (h:Cl w s F c t vn L p vq Fs):s≠p:=fun e=>by
 obtain ⟨cs,hp⟩:=QT h.pr;have:=h.row;rw [e,hp] at this;injection this with this;injection this with _ h2 _;exact absurd h2 (by decide)
theorem Cl.vs (h:Cl w s F c t vn L p vq Fs):vn.ownBlock≠some s/\vq.ownBlock≠some s:=⟨h.no.apart h.row (by decide),h.sp.apart h.row (by decide)⟩
theorem Cl.vp (h:Cl w s F c t vn L p vq Fs):vn.ownBlock≠some p/\vq.ownBlock≠some p:=by
 obtain ⟨cs,hp⟩:=QT h.pr;exact ⟨h.no.apart hp (by decide),h.sp.apart hp (by decide)⟩
theorem Cl.vv (h:Cl w s F c t vn L p vq Fs):∀ k,vn.ownBlock=some k->vq.ownBlock≠some k:=fun k hk=>by
 obtain ⟨_,g⟩:=h.no
 rcases g with ⟨rfl,_⟩ | ⟨b,cap,cur,rfl,_,hh,_⟩
 ·simp [Value.ownBlock] at hk
 ·simp only [Value.ownBlock,eS] at hk
  subst hk;exact h.sp.apart hh (by decide)
theorem Cl.only (h:Cl w s F c t vn L p vq Fs) (hn:∀ k,F k->¬ G k) (o:Only G w w'):Cl w' s F c t vn L p vq Fs :=
 ⟨(o.block s h.slt (hn s h.fs)).trans h.row,aB h.no (fun k e=>hn k (h.fv k (.inl e))) o,h.len,fun i hi=>(h.st i hi).only (fun k g=>hn k (h.ff i hi k g)) o,h.lv,h.rt,h.pr.only o (hn p h.fp),aB h.sp (fun k e=>hn k (h.fv k (.inr e))) o,h.fs,h.fp,h.fv,h.ff,h.kI,h.off,fun k g=>cE (h.low k g) o.size⟩
theorem Cl.below (h:Cl w s F c t vn L p vq Fs) (b:Below w.heap.size w w'):Cl w' s F c t vn L p vq Fs:=h.only (G:=fun _=>False) (fun _ _ g=>g) (Only.of_below b)
theorem Cl.wide (h:Cl w s F c t vn L p vq Fs) (hF:∀ k,F k->G k) (hl:∀ k,G k->k < w.heap.size):Cl w s G c t vn L p vq Fs :=
 ⟨h.row,h.no,h.len,h.st,h.lv,h.rt,h.pr,h.sp,hF s h.fs,hF p h.fp,fun k g=>hF k (h.fv k g),fun i hi k g=>hF k (h.ff i hi k g),h.kI,h.off,hl⟩
theorem Cl.fx (w0:World) (h:Cl w s F c t vn L p vq Fs):Cl w s (Fx F w0 w) c t vn L p vq Fs:=h.wide (fun k g=>.inl g) fun k g=>by
 rcases g with g | g
 ·exact h.low k g
 ·exact g.2
theorem Cl.cells (h:Cl w s F c t vn L p vq Fs):w.cell? ⟨s,0,none⟩=some vn/\w.cell? ⟨s,1,none⟩=some (ptr p)/\w.cell? ⟨s,2,none⟩=some (.int .i64 c.pl)/\w.cell? ⟨s,3,none⟩=some vq:=⟨ah h.row 0,ah h.row 1,ah h.row 2,ah h.row 3⟩
theorem Cl.frz (h:Cl w s F c t vn L p vq Fs) (k:Nat):w.frozen? ⟨s,k,none⟩=false:=aj h.row k
theorem Cl.pair (h:Cl w s F c t vn L p vq Fs) {t':Nat} (o:Only (fun k=>k=p) w w') (hp:Wt.Pr w' p P t'):Cl w' s F { c with P:=P } t' vn L p vq Fs :=
 ⟨(o.block s h.slt h.DX).trans h.row,aB h.no (fun k e g=>h.vp.1 (by rw [e,g])) o,h.len,fun i hi=>(h.st i hi).only (fun k g e=>(h.off i hi k g).2.1 e) o,h.lv,h.rt,hp,aB h.sp (fun k e g=>h.vp.2 (by rw [e,g])) o,h.fs,h.fp,h.fv,h.ff,h.kI,h.off,fun k g=>cE (h.low k g) o.size⟩
theorem VO (h:Wt.Pr w p a t):Wt.Pr w p a (t+1):=by
 obtain ⟨z0,z1,hr,hv⟩:=h;exact ⟨z0,z1,hr,⟨by have:=hv.b0;omega,by have:=hv.b1;omega,hv.e0,hv.e1⟩⟩
theorem Cl.late (h:Cl w s F c t vn L p vq Fs):Cl w s F c (t+1) vn L p vq Fs:=⟨h.row,h.no,h.len,h.st,h.lv,h.rt,VO h.pr,h.sp,h.fs,h.fp,h.fv,h.ff,h.kI,h.off,h.low⟩
theorem Cl.place (h:Cl w s F c t vn L p vq Fs) (n:Nat):Cl (w.setCell ⟨s,2,none⟩ (.int .i64 n)) s F { c with pl:=n } t vn L p vq Fs:=by
 have o:Only (fun k=>k=s) w (w.setCell ⟨s,2,none⟩ (.int .i64 n)):=Only.set (fun k=>k=s) w (a:=⟨s,2,none⟩) rfl _;have rw_:(w.setCell ⟨s,2,none⟩ (.int .i64 n)).heap[s]? = some (.cells #[vn,ptr p,.int .i64 n,vq] 73 (0,0)):=Rw.heap_setCell_same (j:=2) h.row _;exact ⟨rw_,aB h.no (fun k e g=>h.vs.1 (by rw [e,g])) o,h.len,fun i hi=>(h.st i hi).only (fun k g e=>(h.off i hi k g).1 e) o,h.lv,h.rt,h.pr.only o (fun e=>h.DX e.symm),aB h.sp (fun k e g=>h.vs.2 (by rw [e,g])) o,h.fs,h.fp,h.fv,h.ff,h.kI,h.off,fun k g=>cE (h.low k g) o.size⟩
theorem Cl.PD (h:Cl w s F c t vn L p vq Fs) {v:Value} {Q:List S2} (hq:Ow K2 w 0 96 v Q) (hF:∀ k,v.ownBlock=some k->F k) (hn:∀ i,i < L.length->∀ k,Fs i k->v.ownBlock≠some k):Cl (w.setCell ⟨s,3,none⟩ v) s F { c with Q:=Q } t vn L p v Fs:=by
 have o:Only (fun k=>k=s) w (w.setCell ⟨s,3,none⟩ v):=Only.set (fun k=>k=s) w (a:=⟨s,3,none⟩) rfl _;have rw_:(w.setCell ⟨s,3,none⟩ v).heap[s]? = some (.cells #[vn,ptr p,.int .i64 c.pl,v] 73 (0,0)):=Rw.heap_setCell_same (j:=3) h.row _;refine ⟨rw_,aB h.no (fun k e g=>h.vs.1 (by rw [e,g])) o,h.len,fun i hi=>(h.st i hi).only (fun k g e=>(h.off i hi k g).1 e) o,h.lv,h.rt,h.pr.only o (fun e=>h.DX e.symm),aB hq (fun k e g=>hq.apart h.row (by decide) (by rw [e,g])) o,h.fs,h.fp,fun k g=>?_,h.ff,h.kI,fun i hi k g=>?_,fun k g=>cE (h.low k g) o.size⟩
 ·rcases g with g | g
  ·exact h.fv k (.inl g)
  ·exact hF k g
 ·have:=h.off i hi k g
  exact ⟨this.1,this.2.1,this.2.2.1,hn i hi k g⟩
theorem Cl.store (h:Cl w s F c t vn L p vq Fs) (hi:i < L.length) {x:aT×Int} (hs:St w' (eU L i).s (Fx (Fs i) w w') x.1 x.2) (o:Only (Fs i) w w'):Cl w' s (Fx F w w') { c with S:=iQ c.S i x } t vn L p vq (fun j=>if j=i then Fx (Fs i) w w' else Fs j):=by
 have of:=h.off i hi;have hz:=o.size;have lt:∀ j,j < L.length->∀ k,Fs j k->k < w.heap.size:=fun j hj=>(h.st j hj).low;have vl:∀ k,vn.ownBlock=some k\/vq.ownBlock=some k->k < w.heap.size:=fun k g=>h.low k (h.fv k g);refine ⟨(o.block s h.slt fun g=>(of s g).1 rfl).trans h.row,aB h.no (fun k e g=>(of k g).2.2.1 e) o,by show L.length=(iQ c.S i x).length;rw [h.len];exact List.length_set.symm,fun j hj=>?_,h.lv,h.rt,h.pr.only o (fun g=>(of p g).2.1 rfl),aB h.sp (fun k e g=>(of k g).2.2.2 e) o,.inl h.fs,.inl h.fp,fun k g=>.inl (h.fv k g),fun j hj k g=>?_,fun a b ha hb hab k g=>?_,fun j hj k g=>?_,Fx.low h.low hz⟩
 ·show St w' _ _ (sat (iQ c.S i x) j).1 (sat (iQ c.S i x) j).2
  rw [KA (by omega) (by have:=h.len;omega)]
  by_cases e:j=i
  ·subst e
   rw [an rfl,an rfl];exact hs
  ·rw [ai e,ai (by omega)]
   exact (h.st j hj).only (fun k g q=>h.kI j i hj hi e k g q) o
 ·by_cases e:j=i
  ·rw [an e] at g
   rcases g with g | g
   ·exact .inl (h.ff i hi k g)
   ·exact .inr g
  ·rw [ai e] at g
   exact .inl (h.ff j hj k g)
 ·by_cases ea:a=i
  ·rw [an ea] at g
   rw [ai (fun q=>hab (ea.trans q.symm))]
   rcases g with g | g
   ·exact h.kI i b hi hb (fun q=>hab (ea.trans q)) k g
   ·intro q;have:=lt b hb k q;omega
  ·rw [ai ea] at g
   by_cases eb:b=i
   ·rw [an eb]
    rintro (q | q)
    ·exact h.kI a i ha hi ea k g q
    ·have:=lt a ha k g;omega
   ·rw [ai eb]
    exact h.kI a b ha hb hab k g
 ·by_cases e:j=i
  ·rw [an e] at g
   rcases g with g | g
   ·exact of k g
   ·have a1:=h.slt
    have a2:=h.pr.lt;exact ⟨by omega,by omega,fun q=>by have:=vl k (.inl q);omega,fun q=>by have:=vl k (.inr q);omega⟩
  ·rw [ai e] at g
   exact h.off j hj k g
theorem Cl.node (h:Cl w s F c t vn L p vq Fs) {g:Nat} (hg:vn.ownBlock=some g) {L':List Nd} {V:List Bool} (o:Only (fun k=>k=g) w w') (hno:Ow KD w' 0 78 vn L') (hl:L'.length=L.length) (hs:∀ i,i < L.length->(eU L' i).s=(eU L i).s) (hv:∀ i:Nat,i < L.length->(eU L' i).live=bX V i) (hr:∀ i,i < L.length->-2000<=(eU L' i).rate/\(eU L' i).rate<=2000):Cl w' s F { c with V:=V } t vn L' p vq Fs:=by
 refine ⟨(o.block s h.slt fun e=>h.vs.1 (by rw [hg,e])).trans h.row,hno,hl.trans h.len,fun i hi=>?_,fun i hi=>hv i (by omega),fun i hi=>hr i (by omega),h.pr.only o (fun e=>h.vp.1 (by rw [hg,e])),aB h.sp (fun k e q=>h.vv g hg (by rw [e,q])) o,h.fs,h.fp,h.fv,fun i hi=>h.ff i (by omega),fun i j hi hj=>h.kI i j (by omega) (by omega),fun i hi=>h.off i (by omega),fun k q=>cE (h.low k q) o.size⟩;rw [hs i (by omega)];exact (h.st i (by omega)).only (fun k q e=>(h.off i (by omega) k q).2.2.1 (by rw [hg,e])) o
end
def jk (w:World) (s:Nat) (F:Nat->Prop) (c:Cs) (t:Nat) (x:Int) (e:Ending) (w':World):Prop:=e = .returned (.int .i64 x)/\lJ w' s (Fx F w w') c t/\Only F w w'
section
variable {s t:Nat} {F:Nat->Prop} {c:Cs} {w w1 w':World}
theorem jk.late {x:Int} {e:Ending} (h:jk w s F c t x e w'):jk w s F c (t+1) x e w':=by
 obtain ⟨h1,⟨vn,L,p,vq,Fs,h2⟩,h3⟩:=h;exact ⟨h1,⟨vn,L,p,vq,Fs,h2.late⟩,h3⟩
variable {x:Int} {e:Ending}
theorem jk.preO (h:jk w1 s F c t x e w') (o:Only F w w1) (low:∀ k,F k->k < w.heap.size):jk w s F c t x e w':=by
 obtain ⟨h1,⟨vn,L,p,vq,Fs,h2⟩,h3⟩:=h;have z1:=o.size;have z2:=h3.size;refine ⟨h1,⟨vn,L,p,vq,Fs,h2.wide (fun k g=>?_) (fun k g=>?_)⟩,o.trans h3 fun _ _ g=>g⟩
 ·rcases g with g | g
  ·exact .inl g
  ·exact .inr ⟨by omega,g.2⟩
 ·rcases g with g | g
  ·have:=low k g;omega
  ·exact g.2
theorem jk.pre (h:jk w1 s F c t x e w') (b:Below w.heap.size w w1) (low:∀ k,F k->k < w.heap.size):jk w s F c t x e w':=h.preO (Only.of_below b) low
end
end Cu
