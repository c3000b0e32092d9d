import Derived.Test.YtpepoackmcohlaaGreatDoorPg6
import Derived.ProofKit
import Derived.OpenShut
import Derived.Test.YtpepoackmcohlaaGreatDoorRows
import Derived.LaidMore
import Derived.Stop.Joined
import Derived.Deep.SlicePairs
import Derived.Deep.CutRange
set_option maxRecDepth 100000
set_option maxHeartbeats 1000000
namespace Go.Proofs.YtpepoackmcohlaaGreatDoor
open Go.Proofs.Tryz
open Ck (Dx Hd JY KS LL Vj bZ jm kF pg sE sl tE zh)
open Fl (K4 R4 aC aH aM aO aZ ah aj bD bP bQ bV dF iH kL z4)
open Fs (Ae E3 Fx Kc Rs St Wf aD aG aU at3 ay dA dD dE dV eB eO fq gB gL gT gV ins jN jV jk key lG lM mG mq pq put rH rM sA sB vD wF y9 yE yV yj)
open Pa (Cj Gj Has K2 KB KN Oh S2 TI Yr aN aV bU bX ex1 iG iU nS ptr rJ xS xX zQ)
open Ro (E5 K5 bO fZ jM z5)
open Rw (At Kind Ow Rd)
namespace Pa
open Go.RowKit Go.Maps
open Ck (sN)
attribute [local irreducible] Sd.bA wpQuiet
def Ci (S:bX) (T:LL) (V:List Bool) (P:List S2) (k:Nat):Hr:=fun n=>if 1<=n/\n < k/\xG S T V P n=true then some (FU S T V P n) else none
section
variable {S:bX} {T:LL} {V:List Bool} {P:List S2}
theorem Dg:Ci S T V P 1=fun _=>none:=funext fun n=>by unfold Ci;rw [am (by omega)]
variable {k:Nat}
theorem Ny (h1:1<=k) (h:xG S T V P k=true):nO (Ci S T V P k) k (FU S T V P k)=Ci S T V P (k+1):=funext fun n=>by
 unfold nO Ci
 by_cases e:n=k
 ·subst e
  rw [aw rfl,aw ⟨by omega,by omega,h⟩]
 ·rw [am e]
  by_cases g:1<=n/\n < (k:Int)/\xG S T V P n=true
  ·rw [aw g,aw ⟨g.1,by omega,g.2.2⟩]
  ·rw [am g,am fun q=>g ⟨q.1,by omega,q.2.2⟩]
theorem XZ (h:xG S T V P k=false):Ci S T V P k=Ci S T V P (k+1):=funext fun n=>by
 unfold Ci
 by_cases g:1<=n/\n < (k:Int)/\xG S T V P n=true
 ·rw [aw g,aw ⟨g.1,by omega,g.2.2⟩]
 ·rw [am g,am fun q=>by
   by_cases e:n=k
   ·subst e;rw [h] at q;cases q.2.2
   ·exact g ⟨q.1,by omega,q.2.2⟩]
theorem M5:Ci S T V P 17=hr S T V P:=funext fun n=>by
 unfold Ci hr
 by_cases g:1<=n/\n < ((17:Nat):Int)/\xG S T V P n=true
 ·rw [aw g,aw ⟨g.1,by omega,g.2.2⟩]
 ·rw [am g,am fun q=>g ⟨q.1,by omega,q.2.2⟩]
end
structure H1 (w:World) (b k:Nat) (h:Hr) (wr:World):Prop where
 mp:∃ N,Kg wr b N h/\N<=k
 lo:w.heap.size<=b
 aI:Below w.heap.size w wr
theorem H1.below {w wr wr':World} {b k:Nat} {h:Hr} (H:H1 w b k h wr) (hb:Below wr.heap.size wr wr'):H1 w b k h wr':=by
 obtain ⟨⟨N,m,hN⟩,lo,aI⟩:=H;exact ⟨⟨N,m.below hb,hN⟩,lo,aI.trans (hb.mono aI.size)⟩
def nQ (S:bX) (T:LL) (V:List Bool) (P:List S2):bX:=if iG S T V=0 then xS S T V (hr S T V P) else []
def eH (w:World) (E:Int) (S':bX) (e:Ending) (w':World):Prop:=∃ v,e = .returned (.tuple #[v,.int .i64 E])/\Cj w' v S'/\Below w.heap.size w w'
theorem ZQ (w:World):Cj w (.slice none 0 0) []:=⟨[],Rd.nil w,rfl,fun i hi=>by cases hi⟩
theorem mX {w:World} {vs vt vl vp:Value} {S:bX} {T:LL} {V:List Bool} {P:List S2} (HS:Cj w vs S) (HT:kF w vt T) (HV:Rd KB w vl V) (RP:Rd K2 w vp P) (hg:fq w) (hd:∀ i,i < S.length->0<=(aN S i).2/\(aN S i).2 < 900000) :
 Calls prog 115 #[vs,vt,vl,vp] w (eH w (iG S T V) (nQ S T V P)):=by
 have FA:Hid (Calls prog 137 #[vs,vt,vl] w fun e w'=>e = .returned (.int .i64 (iG S T V))/\Below w.heap.size w w'):=Hh (by
  obtain ⟨ps,h1,h2,_⟩:=HS;have:=Qi w vs vt vl (ps.map some) T V (rd_some h1) HT HV;have e:fE (ps.map some) T V=iG S T V:=by
   unfold fE iG;rw [aay,cy,h2];simp only [true_and]
  rw [e] at this
  exact this)
 by_cases hE:iG S T V=0
 ·have hcond:1<=S.length/\S.length<=32/\T.length=S.length/\V.length=S.length/\tE T=0:=by
   unfold iG at hE
   split at hE
   ·rename_i h
    exact ⟨h.1,h.2.1,h.2.2.1,h.2.2.2,hE⟩
   ·omega
  have NS:Hid (Ns w vs vt vl S T V):=Hh ⟨HS,HT,HV,hcond.2.2.1,hcond.2.2.2.1,hcond.2.2.2.2⟩;have RR:=Hh RP;have GG:=Hh hg;have DD:=Hh hd;have EL:Hid (nQ S T V P=xS S T V (hr S T V P)):=Hh (aw hE);rw [hE] at FA;rw [hE,EL.out];have HR:Hid (∀ s,Calls prog 138 #[vs,vt,vl,vp,.int .i64 s] w (sM w (FU S T V P s) (xG S T V P s))):=Hh (fun s=>nD NS RP s);have HE:=Hh (fun W b s=>nD (NS.below (w':=W) b) (RP.below b) s);obtain ⟨sa,cs,rfl,hms⟩:=HS.slice;clear HS HT HV RP hg hd hE HR;generalize hn:S.length=n at *;have HN:=Hh hn;clear hn;have hmm:=@run_makeMap prog
  go_enter func115,ntmps115
  go_wp2_with fail;refine FA.mono ?_;rintro e w1 ⟨rfl,b1⟩;have M0:Hid (H1 w w1.heap.size 0 (Ci S T V P 1) (w1.alloc (.map #[] 0))):=Hh ⟨⟨0,by rw [Dg];exact Eg w1,ac _⟩,b1.size,b1.alloc b1.size _⟩;clear b1 FA;go_wp2;clear hmm;generalize (w1.alloc (.map #[] 0))=W0 at *;generalize w1.heap.size=b at *
  go_loopw [12] (fun i wr=>∃ k:Nat,1<=k/\k<=17/\i = .int .i64 k/\Hid (H1 w b k (Ci S T V P k) wr)) (fun i _=>17 - (intOf i).toNat)
  case atStart=>exact ⟨1,by omega,by omega,rfl,⟨by obtain ⟨N,m,h⟩:=M0.out.mp;exact ⟨N,m,by omega⟩,M0.out.lo,M0.out.aI⟩⟩
  case round =>
   obtain ⟨k,hk1,hk,rfl,I⟩:=hrel;clear M0
   by_cases hlt:k < 17
   ·have HK:=Hh (HE wr I.aI (k:Int))
    have YY:=Hh (fun h=>Ny (S:=S) (T:=T) (V:=V) (P:=P) (k:=k) hk1 h);have NN:=Hh (fun h=>XZ (S:=S) (T:=T) (V:=V) (P:=P) (k:=k) h);have WK:=Hh (rZ (n:=(k:Int)) ⟨by omega,by omega⟩);unfold sM at HK;go_wp2_with fail;refine HK.mono ?_;rintro e w2 ⟨rfl,b2⟩;have I2:=Hh (I.below b2);clear b2 I HK;generalize FU S T V P (k:Int)=y at *
    cases hh:xG S T V P (k:Int) with
    | false =>
      have EQ:=Hh (NN hh);have I3:Hid (H1 w b (k+1) (Ci S T V P (k+1)) w2):=Hh ⟨by obtain ⟨N,m,h⟩:=I2.out.mp;exact ⟨N,by rw [← EQ.out];exact m,by omega⟩,I2.out.lo,I2.out.aI⟩;clear YY NN I2 EQ hh;go_wp2
      go_roundw
      case rel=>exact ⟨k+1,by omega,by omega,by go_num,I3⟩
      case measure=>simp [intOf];omega
    | true =>
      have EQ:=Hh (YY hh);obtain ⟨N,m,hN⟩:=I2.mp;have M2:=Hh m;have LO:=Hh I2.lo;have BE:=Hh I2.aI;clear YY NN hh m I2
      go_wp2_with (first
       | (at_mapUpdate;refine Ep rfl _ _ _ rfl rfl M2 (by unfold maxLen;omega) (k:Int) y rfl rfl WK.out ?_;intro w4 m4 g4)
       | fail)
      have I3:Hid (H1 w b (k+1) (Ci S T V P (k+1)) w4):=Hh ⟨⟨N+1,by rw [← EQ.out];exact m4,by omega⟩,LO.out,BE.out.grown g4 BE.out.size (fun j e=>by injection e with e;have:=LO.out;omega)⟩;clear m4 g4 M2 EQ BE LO;go_wp2
      go_roundw
      case rel=>exact ⟨k+1,by omega,by omega,by go_num,I3⟩
      case measure=>simp [intOf];omega
   ·have e17:k=17:=by omega
    rw [e17,M5] at I;clear e17;have HM:Hid (∀ W,Below wr.heap.size wr W->vw W (.map (some b)) (hr S T V P)):=Hh (fun W hb=>by obtain ⟨⟨N,m,_⟩,_,_⟩:=I;exact ⟨b,N,rfl,m.below hb⟩);have BW:=Hh I.aI;have OH:=Hh (zQ S T V P);clear I HE;generalize hr S T V P=h at *;have AT:=Hh (fun i hi=>nS S T V h (i:=i) hi);have RL:=Hh (iU S T V h);generalize xS S T V h=S' at *;clear EL;go_wp2;clear hk1 hk hlt;generalize (k:Int)=kk at *
    rename World=>wA
    go_loopw [45,15] (fun i o wr2=>∃ (k:Nat) (ps:List Nat),k<=n/\i = .int .i64 k/\Hid (PI SAp 72 wA S' k o ps wr2)) (fun i _ _=>n - (intOf i).toNat)
    case atStart=>exact ⟨0,[],cg _,rfl,PI.start wA (aa _ _)⟩
    case round =>
     obtain ⟨k,ps,hk,rfl,I⟩:=hrel;have BI:=Hh (BW.trans (I.aI.mono BW.size));obtain ⟨av,cv,ev,_⟩:=I.own.slice;have OWN:=Hh I.own;generalize ps.length=Lp at ev;subst ev
     by_cases hlt:k < n
     ·have N1:=Hh (NS.below BI)
      obtain ⟨b1,o1,c1,s,e1,cS,hS⟩:=N1.st.one (k:=k) (by have:=HN.out;omega);rw [HN.out] at e1;injection e1 with e1 _ e2;subst e1 e2;obtain ⟨b2,o2,c2,at',ct,e2,cT,_,_⟩:=N1.tb.one (k:=k) (by omega);have RT:=Hh (N1.tb.rd (k:=k) (by omega) e2 cT);rw [hcond.2.2.1] at e2;subst e2;obtain ⟨a3,c3,e3,_,_,h3⟩:=N1.lv;rw [hcond.2.2.2.1] at e3;subst e3;obtain ⟨b3,o3,rfl,A3⟩:=h3 (by omega);have cV:=Ka A3 (i:=k) (by omega);rw [show V.getD k false=bU V k from rfl] at cV;have EA:=Hh (AT k (by have:=HN.out;omega));have OKT:=Hh (nM N1.ok (k:=k) (by omega));have ML:=Hh (jM (jm (qC N1.ok) k (by omega)));have HS2:=Hh hS;clear hS h3 A3 N1;unfold ptr at cS
      cases hv:bU V k with
      | true =>
        rw [hv] at cV;have AP:=Hh (vO HS2 (GG.below BI) (DD k (by omega)) RT.out (fun y hy=>(OKT.out y hy).1) (by have:=ML.out;omega) (HM.out wr I.out.aI) OH.out);rw [hv,aw rfl] at EA;unfold zX at AP;clear HS2;generalize (bZ T k).length=lk at *;go_wp2_with fail;refine AP.mono ?_;rintro e w5 ⟨g,F5,rfl,st5,lo5,b5⟩;have LN:=Hh I.len;have BL:=b5.alloc b5.size (.cells #[.pointer (some ⟨g,0,none⟩)] 72);have I5:=Hh (I.below nK BL);have G5:Hid (SAp (w5.alloc (.cells #[.pointer (some ⟨g,0,none⟩)] 72)) g (aN S' k) (Value.slice av Lp cv).ownBlock):=Hh (nK.below (by rw [EA.out];exact MR st5 lo5 I.out.lt) ((aa w5.heap.size w5).alloc (ac _) _));clear st5 lo5 b5 I OWN AP cS cT cV BL
        (try unfold ptr)
        go_wp2_with (at_builtin;refine dx (K:=KN) underlying158 Ao rfl (by omega) rfl _ _ rfl wA.heap.size _ _ rfl I5.out.own _ g rfl ?d1 ?d2 ?d3 ?_)
        case d1 =>
         intro j u hu
         match j,hu with
         | 0,hu=>simp [KN] at hu;subst hu;unfold ptr;go_simp
         | j+1,hu=>simp [KN] at hu
        case d2=>rw [LN.out];omega
        case d3=>have:=I5.aI.size;exact this
        intro v' w6 o6 g6 h6
        have NEW:=Hh (I5.push nK o6 g6 (by simpa using h6) G5.out);clear o6 g6 h6 I5 G5 LN;obtain ⟨av',cv',ev',_⟩:=NEW.own.slice;generalize (ps ++ [g]).length=Lp' at ev';subst ev';go_wp2
        go_roundw
        case rel=>exact ⟨k+1,ps ++ [g],by omega,by go_num,NEW⟩
        case measure=>simp [intOf];omega
      | false =>
        rw [hv] at cV;rw [hv,am dr] at EA;have AP:=Hh (tV HS2);unfold jV at AP;clear HS2;generalize (bZ T k).length=lk at *;go_wp2_with fail;refine AP.mono ?_;rintro e w5 ⟨g,F5,rfl,st5,lo5,b5⟩;have LN:=Hh I.len;have BL:=b5.alloc b5.size (.cells #[.pointer (some ⟨g,0,none⟩)] 72);have I5:=Hh (I.below nK BL);have G5:Hid (SAp (w5.alloc (.cells #[.pointer (some ⟨g,0,none⟩)] 72)) g (aN S' k) (Value.slice av Lp cv).ownBlock):=Hh (nK.below (by rw [EA.out];exact MR st5 lo5 I.out.lt) ((aa w5.heap.size w5).alloc (ac _) _));clear st5 lo5 b5 I OWN AP cS cT cV BL
        (try unfold ptr)
        go_wp2_with (at_builtin;refine dx (K:=KN) underlying158 Ao rfl (by omega) rfl _ _ rfl wA.heap.size _ _ rfl I5.out.own _ g rfl ?d1 ?d2 ?d3 ?_)
        case d1 =>
         intro j u hu
         match j,hu with
         | 0,hu=>simp [KN] at hu;subst hu;unfold ptr;go_simp
         | j+1,hu=>simp [KN] at hu
        case d2=>rw [LN.out];omega
        case d3=>have:=I5.aI.size;exact this
        intro v' w6 o6 g6 h6
        have NEW:=Hh (I5.push nK o6 g6 (by simpa using h6) G5.out);clear o6 g6 h6 I5 G5 LN;obtain ⟨av',cv',ev',_⟩:=NEW.own.slice;generalize (ps ++ [g]).length=Lp' at ev';subst ev';go_wp2
        go_roundw
        case rel=>exact ⟨k+1,ps ++ [g],by omega,by go_num,NEW⟩
        case measure=>simp [intOf];omega
     ·obtain rfl:k=n:=by omega
      have RES:Hid (eH w 0 S' (.returned (.tuple #[.slice av Lp cv,.int .i64 0])) wr):=Hh ⟨_,rfl,PI.stl (S:=S') (by rw [RL.out,HN.out];exact I.out),BI.out⟩;clear I OWN;go_wp2
      go_ret2
      exact RES
 ·have EL:Hid (nQ S T V P = []):=Hh (am hE)
  rw [EL.out];have HEE:=Hh hE;have hne:(iG S T V != 0)=true:=by simpa using hE
  obtain ⟨sa,cs,rfl,hms⟩:=HS.slice;clear HS HT HV RP hg hd hE;generalize iG S T V=E at *
  go_enter func115,ntmps115
  go_wp2_with fail;refine FA.mono ?_;rintro e w1 ⟨rfl,b1⟩;have RES:Hid (eH w E [] (.returned (.tuple #[.slice none 0 0,.int .i64 E])) w1):=Hh ⟨_,rfl,ZQ w1,b1⟩;clear b1 FA;go_wp2
  go_ret2
  exact RES
end Pa
namespace Pa
open Go.RowKit
open Ro (iY kC)
open Ck (sN)
open Ua (bit pP te tp tb upd turn par)
theorem M9 {h:Hr} (hh:TI h) {t:List E5} {V:Int->Int->Bool} (hV:∀ n,V n 0=true->fU t n 0 = []) {A:aU} (hA:eB A):eB (dW h t V A):=by
 refine ⟨(Fs.tq (κ:=key) (κ':=key) (f:=oC h t V) (fun _=>rfl)).2 hA.zL,fun e he=>?_,fun e he=>?_,fun e he=>?_⟩
 all_goals
  obtain ⟨c,hc,rfl⟩:=dp.1 he
 ·exact hA.nm c hc
 ·obtain ⟨g1,g2,g3,g4,g5⟩:=hA.good c hc
  refine ⟨g1,g2,by rw [pQ];exact g3,by rw [pQ];exact g4,?_⟩;rw [pQ];have:=JG (h:=h) (t:=t) (V:=V) c (k:=0) (by omega);rw [show ((0:Nat):Int)=0 from rfl] at this;rw [this]
  split
  ·rename_i hv
   rw [hV _ hv,Jj];exact g5
  ·exact g5
 ·intro r hr
  obtain ⟨k,hk⟩:=dj hr;rw [Jq] at hk
  rcases e:c.2.2[k]? with _ | v
  ·rw [e] at hk;cases hk
  ·rw [e] at hk
   simp only [fd,eC] at hk;have hv:=hA.ok c hc v (cN e);rw [← hk]
   split
   ·exact Zz hh _ hv
   ·exact hv
section
end
section
end
end Pa
namespace Re
open Go.RowKit
def KI:Rw.Kind Int:=Rw.int .i64
theorem xM:(prog.info? 3).map (fun i=>(i.zero,i.size,i.bytes))=some (some (.int .i64 0),1,8):=by kernel_rfl
theorem jb (a:Addr):a.add 0=a:=by cases a;simp [Addr.add]
def gU (l:List Int) (i:Nat):Int:=l.getD i 0
variable {w:World} {b off i k:Nat} {l l':List Int}
theorem qh (h:At KI w b off l) (i:Nat) (hi:i < l.length):w.cell? ⟨b,off+i,none⟩=some (.int .i64 (gU l i)):=by
 have c:=h i hi 0 _ rfl;simp only [KI,Rw.int,Nat.mul_one,Nat.add_zero] at c;exact c
theorem qb (h:i < l.length):l[i]? = some (gU l i):=by
 unfold gU;rw [af,aq h]
 rfl
theorem wO (hl:l.length=l'.length) (h:∀ i,i < l.length->gU l i=gU l' i):l=l':=by
 refine List.ext_getElem hl fun i h1 h2=>?_;have:=h i h1
 simpa [gU,List.getD,List.getElem?_eq_getElem h1,List.getElem?_eq_getElem h2] using this
def Bc (x:Int):Prop:=0<=x/\x<=5
instance (x:Int):Decidable (Bc x):=by unfold Bc;infer_instance
def gY (l:List Int):Prop:=(0 < l.length/\l.length<=64)/\∀ i,i < l.length->Bc (gU l i)
instance (l:List Int):Decidable (gY l):=by unfold gY;infer_instance
def oO (l:List Int):Bool:=decide (gY l)
theorem UG (hk:k < l.length) (h:¬ Bc (gU l k)):false=oO l:=(ai (fun g=>h (g.2 k hk))).symm
theorem Gy (h:¬ (0 < l.length/\l.length<=64)):false=oO l:=(ai (fun g=>h g.1)).symm
theorem Po (h:0 < l.length/\l.length<=64) (g:∀ i,i < l.length->Bc (gU l i)):true=oO l:=(bj ⟨h,g⟩).symm
def iW (x:Int):R4:=(x,0,0,0)
def bM (l:List Int):List R4:=kL 3 (l.length:Int) :: l.map iW
def fL (l:List Int):List R4:=if gY l then bM l else []
def fP (l:List Int):Int:=if gY l then 3 else 0
def fN (l:List Int):Int:=if gY l then 0 else 1
def fI (l:List R4):List Int:=(l.drop 1).map (·.1)
def Bj (p:Int) (l:List R4):Prop:=aO p l/\gY (fI l)/\p=3/\l=bM (fI l)
instance (p:Int) (l:List R4):Decidable (Bj p l):=by unfold Bj;infer_instance
def sL (p:Int) (l:List R4):List Int:=if Bj p l then fI l else []
def sN (p:Int) (l:List R4):Int:=if Bj p l then 0 else 2
theorem Ij (l:List Int):(bM l).length=l.length+1:=by simp [bM]
theorem kg (l:List R4):(fI l).length=l.length - 1:=by simp [fI]
theorem AJ (l:List Int):fI (bM l)=l:=by
 have e:(fun x=>(iW x).1)=(id:Int->Int):=rfl;simp only [fI,bM,List.drop_succ_cons,List.drop_zero,List.map_map,Function.comp_def,e,List.map_id]
theorem CQ (h:gY l):aO 3 (bM l):=by
 have hl:=Ij l;have:=h.1;refine ⟨by omega,by omega,by omega,by omega,?_⟩;have e:((bM l).length:Int) - 1=(l.length:Int):=by omega
 rw [e]
 rfl
theorem Ni (h:gY l):Bj 3 (bM l):=⟨CQ h,by rw [AJ];exact h,rfl,by rw [AJ]⟩
theorem UK (h:gY l):sL 3 (bM l)=l/\sN 3 (bM l)=0:=by
 unfold sL sN;rw [aw (Ni h),aw (Ni h),AJ];exact ⟨rfl,rfl⟩
variable {x p t:Int}
theorem ad9 (h:Bc x):bQ (iW x):=by
 obtain ⟨a,b⟩:=h;unfold bQ iW;simp only
 omega
theorem VM (h:gY l):∀ x∈l,Bc x:=fun x hx=>by
 obtain ⟨i,hi,e⟩:=dy hx;have g:=h.2 i hi;have e':gU l i=x:=by
  have:=qb hi;rw [aq hi,e] at this;exact (cP this).symm
 rw [e'] at g;exact g
theorem ON (h:gY l):dF (bM l):=by
 intro r hr
 rcases cj.1 hr with rfl | hr
 ·have:=h.1
  have hb:∀ n:Fin 65,bQ (kL 3 (n.val:Int)):=by unfold bQ;decide +kernel
  have e:=hb ⟨l.length,by omega⟩
  simpa using e
 ·obtain ⟨x,hx,rfl⟩:=dp.1 hr
  exact ad9 (VM h x hx)
def plain (r:R4):Prop:=r.2.1=0/\r.2.2.1=0/\r.2.2.2=0
instance (r:R4):Decidable (plain r):=by unfold plain;infer_instance
theorem JR (h:i < l.length):bD (bM l) (i+1)=iW (gU l i):=by
 unfold bD bM;rw [af,az,cX,qb h]
 rfl
theorem Yf {l:List R4} (h:Bj p l) (h1:1<=i) (hi:i < l.length):plain (bD l i):=by
 obtain ⟨j,rfl⟩:∃ j,i=j+1:=⟨i - 1,by omega⟩;have e:=JR (l:=fI l) (i:=j) (by rw [kg];omega);rw [← h.2.2.2] at e;rw [e];exact ⟨rfl,rfl,rfl⟩
theorem Vl {l:List R4} (h:i+1 < l.length):gU (fI l) i=(bD l (i+1)).1:=by
 have e:(fI l)[i]? = some (bD l (i+1)).1:=by
  unfold fI bD;rw [cX,List.getElem?_drop,Nat.add_comm 1 i,af,aq h]
  rfl
 unfold gU;rw [af,e]
 rfl
theorem Tp {l:List R4} (hg:aO 3 l) (h:∀ i,1<=i->i < l.length->plain (bD l i)):l=bM (fI l):=by
 have hl:l.length=(bM (fI l)).length:=by rw [Ij,kg];have:=hg.2.2.1;omega
 have hat:∀ i,i < l.length->bD l i=bD (bM (fI l)) i:=fun i hi=>by
  rcases i with _ | j
  ·rw [hg.2.2.2.2]
   have e:((fI l).length:Int)=(l.length:Int) - 1:=by rw [kg];have:=hg.2.2.1;omega
   rw [← e]
   rfl
  ·rw [JR (by rw [kg];omega),Vl hi]
   obtain ⟨a,b,c⟩:=h (j+1) (by omega) hi;generalize bD l (j+1)=r at *;obtain ⟨r1,r2,r3,r4⟩:=r;simp only at a b c;subst a b c
   rfl
 refine List.ext_getElem hl fun i h1 h2=>?_;have:=hat i h1
 simpa [bD,List.getD,List.getElem?_eq_getElem h1,List.getElem?_eq_getElem h2] using this
theorem aek {l:List R4} (hg:aO 3 l) (h:∀ i,1<=i->i < l.length->plain (bD l i)) (hs:gY (fI l)):Bj 3 l:=⟨hg,hs,rfl,Tp hg h⟩
theorem Zv {l:List R4} (h:¬ Bj p l):sL p l = []/\sN p l=2:=⟨am h,am h⟩
theorem Da {l:List R4} (h:Bj p l):sL p l=fI l/\sN p l=0:=⟨aw h,aw h⟩
theorem Ir {l:List R4} (h:k+1 < l.length):(fI l).take k ++ [(bD l (k+1)).1]=(fI l).take (k+1):=by
 rw [ed,qb (by rw [kg];omega),Vl h]
 rfl
def part (h:R4) (l:List Int) (k:Nat):List R4:=h :: ((l.take k).map iW ++ List.replicate (l.length - k) z4)
theorem Ar (h:R4) (l:List Int) (k:Nat) (hk:k<=l.length):(part h l k).length=l.length+1:=by
 simp [part,List.length_take]
 omega
theorem rG (h:R4) (l:List Int):part h l 0=h :: List.replicate l.length z4:=by simp [part]
theorem qD (hk:k < l.length):l.take (k+1)=l.take k ++ [gU l k]:=by
 rw [ed,qb hk]
 rfl
theorem zG (h:R4) (hk:k < l.length):(part h l k).set (1+k) (iW (gU l k))=part h l (k+1):=by
 have e1:(l.take k).length=k:=by rw [cH];omega
 unfold part;rw [Nat.add_comm 1 k,List.set_cons_succ,gk _ _ (by rw [cy,e1];omega),cy,e1,Nat.sub_self,qD hk];rw [show l.length - k=(l.length - (k+1))+1 by omega,hJ]
 simp
theorem Aq (h:R4) (l:List Int):part h l l.length=h :: l.map iW:=by
 unfold part;rw [cW,Nat.sub_self]
 simp
theorem UT (h:R4) (hk:k < l.length):(h :: (l.take k).map iW) ++ [iW (gU l k)]=h :: (l.take (k+1)).map iW:=by
 rw [qD hk]
 simp
def Lr (l:List Int) (t:Int):Prop:=gY l/\0<=t/\t < l.length
instance (l:List Int) (t:Int):Decidable (Lr l t):=by unfold Lr;infer_instance
def nR (l:List Int) (t:Int):Int:=if Lr l t then gU l t.toNat else 0
def nT (l:List Int) (t:Int):Int:=if Lr l t then (if t+1=l.length then 0 else t+1) else 0
def nE (l:List Int) (t:Int):Int:=if Lr l t then 0 else 1
def mP (w:World) (l:List Int) (t:Int) (e:Ending) (w':World):Prop:=e = .returned (.tuple #[.int .i64 (nR l t),.int .i64 (nT l t),.int .i64 (nE l t)])/\Below w.heap.size w w'
theorem Pq (h:¬ Lr l t) (w':World) (hb:Below w.heap.size w w'):mP w l t (.returned (.tuple #[.int .i64 0,.int .i64 0,.int .i64 1])) w':=⟨by unfold nR nT nE;rw [am h,am h,am h],hb⟩
theorem Qg (h:Lr l k) (h1:k+1=l.length) (w':World) (hb:Below w.heap.size w w'):mP w l k (.returned (.tuple #[.int .i64 (gU l k),.int .i64 0,.int .i64 0])) w':=⟨by unfold nR nT nE;rw [aw h,aw h,aw h,aw (by omega)];rfl,hb⟩
theorem Sw (h:Lr l k) (h1:k+1≠l.length) (w':World) (hb:Below w.heap.size w w'):mP w l k (.returned (.tuple #[.int .i64 (gU l k),.int .i64 ((k:Int)+1),.int .i64 0])) w':=⟨by unfold nR nT nE;rw [aw h,aw h,aw h,am (by omega)];rfl,hb⟩
def lQ (w:World) (p:Int) (l:List R4) (e:Ending) (w':World):Prop:=∃ u,e = .returned (.tuple #[u,.int .i64 (sN p l)])/\Rd KI w' u (sL p l)/\Below w.heap.size w w'
def gW (w:World) (l:List Int) (e:Ending) (w':World):Prop:=∃ u,e = .returned (.tuple #[Fl.file (fP l) u,.int .i64 (fN l)])/\Rd K4 w' u (fL l)/\Below w.heap.size w w'
theorem yK (h:¬ gY l) (w':World) (hb:Below w.heap.size w w'):gW w l (.returned (.tuple #[Fl.file 0 (.slice none 0 0),.int .i64 1])) w' :=
 ⟨_,by unfold fP fN;rw [am h,am h],by unfold fL;rw [am h];exact Rw.Rd.nil _,hb⟩
theorem tQ (h:gY l) (u:Value) (w':World) (hr:Rd K4 w' u (bM l)) (hb:Below w.heap.size w w'):gW w l (.returned (.tuple #[Fl.file 3 u,.int .i64 0])) w' :=
 ⟨u,by unfold fP fN;rw [aw h,aw h],by unfold fL;rw [aw h];exact hr,hb⟩
theorem Gn {l:List R4} (h:¬ Bj p l) (w':World) (hb:Below w.heap.size w w'):lQ w p l (.returned (.tuple #[.slice none 0 0,.int .i64 2])) w' :=
 ⟨_,by rw [(Zv h).2],by rw [(Zv h).1];exact Rw.Rd.nil _,hb⟩
theorem Fg {l:List R4} (h:Bj p l) (u:Value) (w':World) (hr:Rd KI w' u (fI l)) (hb:Below w.heap.size w w'):lQ w p l (.returned (.tuple #[u,.int .i64 0])) w' :=
 ⟨u,by rw [(Da h).2],by rw [(Da h).1];exact hr,hb⟩
def pW (w:World) (p:Int) (l:List R4) (e:Ending) (w':World):Prop:=∃ u,e = .returned (.tuple #[u,.int .i64 (sN p l)])/\Ow KI w' w.heap.size 3 u (sL p l)/\Below w.heap.size w w'
theorem V9 {l:List R4} (h:¬ Bj p l) (w':World) (hb:Below w.heap.size w w'):pW w p l (.returned (.tuple #[.slice none 0 0,.int .i64 2])) w' :=
 ⟨_,by rw [(Zv h).2],by rw [(Zv h).1];exact Rw.Ow.nil _ _ _,hb⟩
theorem Za {l:List R4} (h:Bj p l) (u:Value) (w':World) (hr:Ow KI w' w.heap.size 3 u (fI l)) (hb:Below w.heap.size w w'):pW w p l (.returned (.tuple #[u,.int .i64 0])) w' :=
 ⟨u,by rw [(Da h).2],by rw [(Da h).1];exact hr,hb⟩
end Re
namespace Wt
structure A where
 r0:Int
 q0:Int
 r1:Int
 q1:Int
def new:A:=⟨1,0,2,0⟩
def t1 (a:A):A:=if a.r0≠1/\a.r1≠1/\((a.r0=2/\4<=a.q0)\/(a.r0=3/\8<=a.q0)) then { a with r0:=1 } else a
def t2 (a:A):A:=if a.r0≠1/\a.r1≠1/\((a.r1=2/\4<=a.q1)\/(a.r1=3/\9<=a.q1)) then { a with r1:=1 } else a
def tk (a:A):A:=t2 (t1 a)
def tH (r:Int):Int:=if r=3 then 2 else r
def op (a:A):Int:=if a.r0=1 then 0 else if a.r1=1 then 1 else -1
def hd (a:A):A:=if a.r0=1 then ⟨1,0,tH a.r1,0⟩ else if a.r1=1 then ⟨tH a.r0,0,1,0⟩ else ⟨a.r0,a.q0+1,a.r1,a.q1+1⟩
def opn (a:A):Int:=op (tk a)
def jv (a:A):A:=hd (tk a)
def rl (a:A) (n:Int):Int:=if n=0 then a.r0 else if n=1 then a.r1 else 0
def qN (a:A) (n:Int):Int:=if n=0 then (if a.r0=4 then 10 else 0) else if n=1 then (if a.r1=4 then 10 else 0) else 1
def lJ (a:A) (n:Int):A:=if n=0 then { a with r0:=4 } else if n=1 then { a with r1:=4 } else a
def rsE (a:A) (n:Int):Int:=if n=0 then (if a.r0=4 then 0 else 10) else if n=1 then (if a.r1=4 then 0 else 10) else 1
def lI (a:A) (n:Int):A:=if n=0 then (if a.r0=4 then { a with r0:=3,q0:=0 } else a) else if n=1 then (if a.r1=4 then { a with r1:=3,q1:=0 } else a) else a
structure Ok (a:A):Prop where
 b0:1<=a.r0/\a.r0<=4
 b1:1<=a.r1/\a.r1<=4
 one:¬ (a.r0=1/\a.r1=1)
 p0:0<=a.q0
 p1:0<=a.q1
theorem acW:Ok new:=⟨by decide,by decide,by decide,by decide,by decide⟩
section
variable {a:A} (h:Ok a)
include h
theorem Ok.t1:Ok (t1 a):=by
 obtain ⟨h1,h2,h3,h4,h5⟩:=h;unfold Wt.t1
 split
 ·rename_i g
  exact ⟨by simp,h2,fun q=>g.2.1 q.2,h4,h5⟩
 ·exact ⟨h1,h2,h3,h4,h5⟩
theorem Ok.t2:Ok (t2 a):=by
 obtain ⟨h1,h2,h3,h4,h5⟩:=h;unfold Wt.t2
 split
 ·rename_i g
  exact ⟨h1,by simp,fun q=>g.1 q.1,h4,h5⟩
 ·exact ⟨h1,h2,h3,h4,h5⟩
theorem Ok.tk:Ok (tk a):=h.t1.t2
theorem Ok.hd:Ok (hd a):=by
 obtain ⟨h1,h2,h3,h4,h5⟩:=h;unfold Wt.hd tH
 split
 ·refine ⟨by simp,?_,?_,by simp,by simp⟩ <;> simp only <;> split <;> omega
 ·split
  ·refine ⟨?_,by simp,?_,by simp,by simp⟩ <;> simp only <;> split <;> omega
  ·exact ⟨h1,h2,h3,by simp only;omega,by simp only;omega⟩
theorem Ok.jv:Ok (jv a):=h.tk.hd
theorem Ok.cr (n:Int):Ok (lJ a n):=by
 obtain ⟨h1,h2,h3,h4,h5⟩:=h;unfold lJ
 split
 ·exact ⟨by simp,h2,by simp,h4,h5⟩
 ·split
  ·exact ⟨h1,by simp,by simp,h4,h5⟩
  ·exact ⟨h1,h2,h3,h4,h5⟩
theorem Ok.rs (n:Int):Ok (lI a n):=by
 obtain ⟨h1,h2,h3,h4,h5⟩:=h;unfold lI
 split
 ·split
  ·exact ⟨by simp,h2,by simp,by simp,h5⟩
  ·exact ⟨h1,h2,h3,h4,h5⟩
 ·split
  ·split
   ·exact ⟨h1,by simp,by simp,h4,by simp⟩
   ·exact ⟨h1,h2,h3,h4,h5⟩
  ·exact ⟨h1,h2,h3,h4,h5⟩
end
def d0 (a:A):Prop:=(a.r0=2/\4<=a.q0)\/(a.r0=3/\8<=a.q0)
def d1 (a:A):Prop:=(a.r1=2/\4<=a.q1)\/(a.r1=3/\9<=a.q1)
theorem Ta (a:A):(opn a=0/\(a.r0=1\/(a.r0≠1/\a.r1≠1/\d0 a))/\(jv a).r0=1)\/(opn a=1/\a.r0≠1/\(a.r1=1\/(a.r1≠1/\¬ d0 a/\d1 a))/\(jv a).r1=1)\/(opn a = -1/\a.r0≠1/\a.r1≠1/\¬ d0 a/\¬ d1 a/\jv a=⟨a.r0,a.q0+1,a.r1,a.q1+1⟩):=by
 obtain ⟨r0,q0,r1,q1⟩:=a;unfold opn jv tk t1 t2 op hd d0 d1
 by_cases e0:r0=1
 ·exact .inl (by simp [e0])
 ·by_cases e1:r1=1
  ·exact .inr (.inl (by simp [e0,e1]))
  ·by_cases g0:(r0=2/\4<=q0)\/(r0=3/\8<=q0)
   ·exact .inl (by simp [e0,e1,g0])
   ·by_cases g1:(r1=2/\4<=q1)\/(r1=3/\9<=q1)
    ·exact .inr (.inl (by simp [e0,e1,g0,g1]))
    ·exact .inr (.inr (by simp [e0,e1,g0,g1]))
section
end
end Wt
namespace Cu
open Pa (nQ hr M9)
open Ro (kD qI My)
open Re (gU sL sN gY fI Bj)
def fB (A:aU) (n:Int):Bool:=(Fs.look key n A).isSome
def fP (A:aU) (n:Int):Int:=match Fs.look key n A with | none=>0 | some e=>e.2.1
def fR (A:aU) (n:Int):List R4:=match Fs.look key n A with | none=>[] | some e=>e.2.2
theorem Jb {A:aU} (h:eB A) (n:Int):dF (fR A n):=by
 unfold fR
 split
 ·exact nofun
 ·rename_i e he
  exact (h.find he).2.2.1
def jT (A:aU):List Int:=sL (fP A 40) (fR A 40)
def qF (A:aU):Bool:=fB A 40 && decide (sN (fP A 40) (fR A 40)=0)
theorem Ex {A:aU} (h:qF A=true):gY (jT A):=by
 unfold qF at h;rw [ce,cL] at h;obtain ⟨_,h⟩:=h;unfold jT sL;unfold sN at h
 split
 ·rename_i g
  exact g.2.1
 ·rename_i g
  rw [am g] at h
  omega
structure Cs where
 S:bX
 V:List Bool
 P:Wt.A
 pl:Nat
 Q:List S2
def OR (S:bX) (n:Int):LL:=S.map fun x=>kD (fP x.1 (32+n)) (fR x.1 (32+n))
theorem DW (S:bX) (n:Int):(OR S n).length=S.length:=cy _
theorem Vw (S:bX) (n:Int) {i:Nat} (hi:i < S.length):bZ (OR S n) i=kD (fP (aN S i).1 (32+n)) (fR (aN S i).1 (32+n)):=by
 unfold bZ OR aN;rw [af,cX,aq hi,ch,af,aq hi]
 rfl
variable {S:bX} {n:Int} {t:List E5}
theorem YG (h:t∈OR S n):t.length<=16/\∀ x∈t,fZ x:=by
 obtain ⟨x,_,rfl⟩:=dp.1 h;have m:=My (fP x.1 (32+n)) (fR x.1 (32+n));refine ⟨jM m,fun y hy=>?_⟩;obtain ⟨i,hi⟩:=dj hy;have hl:=(bs.1 hi).1;have:=(m i hl).1;rw [Ro.kC hl] at hi;injection hi with hi;rw [← hi];exact this
def lH (c:Cs) (l:List Int):Nat:=if l.length<=c.pl then 0 else c.pl
def qh (c:Cs) (l:List Int):Nat:=if lH c l+1=l.length then 0 else lH c l+1
def own (c:Cs):aU:=(aN c.S (Wt.opn c.P)).1
def rT (c:Cs):LL:=OR c.S (gU (jT (own c)) (lH c (jT (own c))))
def rE (c:Cs):Int:=if Wt.opn c.P < 0 then 0 else if qF (own c)=true then iG c.S (rT c) c.V else 2
def rC (c:Cs):Cs :=
 if Wt.opn c.P < 0 then { c with P:=Wt.jv c.P,Q:=[] }
 else if qF (own c)=true then { S:=if iG c.S (rT c) c.V=0 then nQ c.S (rT c) c.V c.Q else c.S,V:=c.V,P:=Wt.jv c.P,pl:=qh c (jT (own c)),Q:=[] }
 else { c with P:=Wt.jv c.P,Q:=[] }
structure Ac where
 k:Int
 n:Int
 f:Int
 r:Int
 v:R4
 s:Int
 m:Int
 t:Int
def no (c:Cs) (n:Int):Prop:=n < 0\/(c.S.length:Int)<=n
instance (c:Cs) (n:Int):Decidable (no c n):=by unfold no;infer_instance
def bE (x:Ac) (c:Cs):Int :=
 if x.k=1 then rE c
 else if x.k=3 then (if c.Q.length=32 then 11 else 0)
 else if x.k < 2\/6 < x.k\/no c x.n then 1
 else if x.k=2 then (if bU c.V x.n=true then (if sB (aN c.S x.n).1 x.f x.r=true then 0 else 3) else 10)
 else if x.k=4 then (if bU c.V x.n=true then 0 else 10)
 else if x.k=5 then (if bU c.V x.n=true then 10 else 0)
 else if x.t < -2000\/2000 < x.t then 1 else 0
def jh (S:bX) (n:Int) (x:aU×Int):bX:=S.set n.toNat x
def bK (x:Ac) (c:Cs):Cs :=
 if x.k=1 then rC c
 else if bE x c≠0 then c
 else if x.k=3 then { c with Q:=c.Q ++ [(x.s,x.m)] }
 else if x.k=2 then { c with S:=jh c.S x.n (sA (aN c.S x.n).1 x.f x.r x.v,(aN c.S x.n).2) }
 else if x.k=4 then { c with V:=c.V.set x.n.toNat false,P:=Wt.lJ c.P x.n }
 else if x.k=5 then { c with V:=c.V.set x.n.toNat true,P:=Wt.lI c.P x.n }
 else c
def Bg (c:Cs) (n o f r:Int):Int:=if no c n then 1 else if bU c.V n=true then dE (aN c.S n).1 o f r else 13
def QY (c:Cs) (n o f r:Int) (x:R4):R4:=if Bg c n o f r=0 then dV (aN c.S n).1 o f r x else z4
def Bf (c:Cs) (n o f r:Int) (x:R4):Cs:=if no c n\/bU c.V n=false then c else { c with S:=jh c.S n (dA (aN c.S n).1 o f r x,dD (aN c.S n).1 o f r (aN c.S n).2) }
structure jB (c:Cs) (t:Nat):Prop where
 len:2<=c.S.length/\c.S.length<=32
 lv:c.V.length=c.S.length
 st:∀ i,i < c.S.length->eB (aN c.S i).1/\0<=(aN c.S i).2/\(aN c.S i).2<=100 * t
 pr:Wt.Ok c.P
 pl:c.pl<=64
 few:c.Q.length<=32
theorem DF {x:aU×Int} (h0:0<=n) (h1:n < S.length) (i:Nat):aN (jh S n x) i=if (i:Int)=n then x else aN S i:=by
 unfold aN jh;rw [ch,af,af,gE]
 by_cases e:(i:Int)=n
 ·subst e
  rw [ch,aw rfl,aw (by omega),aw rfl]
  rfl
 ·rw [am (by omega),am e]
theorem ach : ∀ {s:aU×Int},eB s.1->eB (t.foldl ex1 s).1:=by
 induction t with
 | nil=>exact id
 | cons x r ih =>
   intro s h
   rw [cm]
   apply ih
   unfold ex1
   split
   ·exact h.do Fl.jZ
   ·exact h
theorem acY {h:Pa.Hr} (hh:TI h) (ok:∀ x∈t,fZ x) {s:aU×Int} (hA:eB s.1):eB (Oh h t s).1:=by
 have h0:∀ n,(fun _ _=>true:Int->Int->Bool) n 0=true->Pa.fU t n 0 = []:=fun n _=>List.filter_eq_nil_iff.2 fun x hx2 g=>by
  have k:=ok x hx2;unfold Pa.mt at g;have g:=of_decide_eq_true g;unfold fZ Ro.place at k
  omega
 exact ach (M9 hh h0 hA)
section
variable {c:Cs} {t:Nat} (h:jB c t)
include h
theorem jB.next:jB c (t+1):=⟨h.len,h.lv,fun i hi=>by have:=h.st i hi;exact ⟨this.1,this.2.1,by omega⟩,h.pr,h.pl,h.few⟩
theorem jB.jh {n:Int} {x:aU×Int} (h0:0<=n) (h1:n < c.S.length) (hx:eB x.1/\0<=x.2/\x.2<=100 * (t+1:Nat)):jB { c with S:=Cu.jh c.S n x } (t+1):=by
 have hl:(Cu.jh c.S n x).length=c.S.length:=cz;refine ⟨by rw [hl];exact h.len,h.lv.trans hl.symm,fun i hi=>?_,h.pr,h.pl,h.few⟩;rw [hl] at hi
 show eB (aN (Cu.jh c.S n x) i).1/\_
 rw [DF h0 h1]
 split
 ·exact hx
 ·have:=h.st i hi;exact ⟨this.1,this.2.1,by omega⟩
theorem jB.round:jB (rC c) (t+1):=by
 have n:=h.next;unfold rC
 split
 ·exact ⟨n.len,n.lv,n.st,h.pr.jv,n.pl,by simp⟩
 ·split
  ·rename_i hs
   have sq:=Ex hs;have hl:(if iG c.S (rT c) c.V=0 then nQ c.S (rT c) c.V c.Q else c.S).length=c.S.length:=by
    split
    ·rename_i e
     have er:nQ c.S (rT c) c.V c.Q=xS c.S (rT c) c.V (hr c.S (rT c) c.V c.Q):=aw e;rw [er,iU]
    ·rfl
   refine ⟨by rw [hl];exact h.len,h.lv.trans hl.symm,fun i hi=>?_,h.pr.jv,?_,by simp⟩
   ·rw [hl] at hi
    show eB (aN (if iG c.S (rT c) c.V=0 then nQ c.S (rT c) c.V c.Q else c.S) i).1/\0<=(aN (if iG c.S (rT c) c.V=0 then nQ c.S (rT c) c.V c.Q else c.S) i).2/\(aN (if iG c.S (rT c) c.V=0 then nQ c.S (rT c) c.V c.Q else c.S) i).2<=_
    have hi':=h.st i hi
    split
    ·rename_i e
     have er:nQ c.S (rT c) c.V c.Q=xS c.S (rT c) c.V (hr c.S (rT c) c.V c.Q):=aw e;rw [er,nS _ _ _ _ hi]
     split
     ·have hm:bZ (rT c) i∈rT c:=by
       have hl2:i < (rT c).length:=by unfold rT;rw [DW];exact hi
       unfold bZ;rw [af,aq hl2];exact dg hl2
      obtain ⟨m1,m2⟩:=YG (S:=c.S) (n:=gU (jT (own c)) (lH c (jT (own c)))) hm;have hd:=Gj (t:=bZ (rT c) i) ((Pa.oM (hr c.S (rT c) c.V c.Q) (bZ (rT c) i) (aN c.S i).1),(aN c.S i).2) (bZ (rT c) i).length;rw [xX] at hd;simp only at hd;exact ⟨acY (zQ _ _ _ _) m2 hi'.1,by omega,by omega⟩
     ·exact ⟨hi'.1,hi'.2.1,by omega⟩
    ·exact ⟨hi'.1,hi'.2.1,by omega⟩
   ·show qh c (jT (own c))<=64
    unfold qh lH;have:=sq.1;have:=h.pl
    split <;> split <;> omega
  ·exact ⟨n.len,n.lv,n.st,h.pr.jv,n.pl,by simp⟩
theorem jB.act (x:Ac) (hx:bQ x.v):jB (bK x c) (t+1):=by
 have n:=h.next;unfold bK
 by_cases h1:x.k=1
 ·rw [aw h1];exact h.round
 ·rw [am h1]
  by_cases he:bE x c≠0
  ·rw [aw he];exact n
  ·rw [am he]
   have he:=Classical.not_not.1 he;unfold bE at he;rw [am h1] at he
   by_cases h3:x.k=3
   ·rw [aw h3]
    rw [aw h3] at he;refine ⟨n.len,n.lv,n.st,n.pr,n.pl,?_⟩
    show (c.Q ++ [(x.s,x.m)]).length<=32
    have:=h.few;rw [cI]
    split at he
    ·omega
    ·simp only [dl,dm];omega
   ·rw [am h3]
    rw [am h3] at he
    by_cases hn:x.k < 2\/6 < x.k\/no c x.n
    ·rw [aw hn] at he;omega
    ·have hin:0<=x.n/\x.n < c.S.length:=by
      have:¬ no c x.n:=fun g=>hn (.inr (.inr g));unfold no at this
      omega
     by_cases h2:x.k=2
     ·rw [aw h2]
      have hs:=h.st x.n.toNat (by omega);rw [fi hin.1] at hs;exact h.jh hin.1 hin.2 ⟨hs.1.set hx,hs.2.1,by simp only;omega⟩
     ·rw [am h2]
      by_cases h4:x.k=4
      ·rw [aw h4]
       exact ⟨n.len,by show (c.V.set _ _).length=_;rw [cz];exact h.lv,n.st,h.pr.cr x.n,n.pl,n.few⟩
      ·rw [am h4]
       by_cases h5:x.k=5
       ·rw [aw h5]
        exact ⟨n.len,by show (c.V.set _ _).length=_;rw [cz];exact h.lv,n.st,h.pr.rs x.n,n.pl,n.few⟩
       ·rw [am h5];exact n
theorem jB.serve (n o f r:Int) (x:R4) (hx:bQ x):jB (Bf c n o f r x) (t+1):=by
 unfold Bf
 split
 ·exact h.next
 ·rename_i g
  have hin:0<=n/\n < c.S.length:=by
   have:¬ no c n:=fun q=>g (.inl q);unfold no at this
   omega
  have hs:=h.st n.toNat (by omega);rw [fi hin.1] at hs;have:=Yr (A:=(aN c.S n).1) (o:=o) (f:=f) (r:=r) (d:=(aN c.S n).2);exact h.jh hin.1 hin.2 ⟨hs.1.do hx,by simp only;omega,by simp only;omega⟩
end
theorem sK {V:List Bool} {b:Bool} (h0:0<=n) (h1:n < V.length) (i:Int) (hi:0<=i):bU (V.set n.toNat b) i=if i=n then b else bU V i:=by
 unfold bU;rw [af,af,gE]
 by_cases e:i=n
 ·subst e
  rw [aw rfl,aw (by omega),aw rfl]
  rfl
 ·rw [am (by omega),am e]
abbrev Pl:=List yj×Int
def dP (L:List Pl) (i:Nat):Pl:=L.getD i ([],0)
def gdF (F:List yj):Prop:=Fs.rM key F/\∀ e∈F,(0<=e.1/\e.1<=63)/\aO e.2.1 e.2.2
def Oq (p:Pl):Prop:=gdF p.1/\-2000<=p.2/\p.2<=2000
def agree (L:List Pl):Prop:=qF (dP L 0).1=true/\fB (dP L 1).1 40=true/\fP (dP L 0).1 40=fP (dP L 1).1 40/\fR (dP L 0).1 40=fR (dP L 1).1 40
open Classical in
noncomputable def gK (L:List Pl):Int:=if L.length < 2\/32 < L.length then 1 else if ∀ p∈L,Oq p then (if agree L then 0 else 10) else 2
def bT (L:List Pl):Cs:=⟨L.map fun p=>(p.1,0),L.map fun _=>true,Wt.new,0,[]⟩
variable {L:List Pl} {i:Nat}
theorem rY (hi:i < L.length):aN (bT L).S i=((dP L i).1,0):=by
 unfold aN bT dP;rw [ch,af,cX,aq hi,af,aq hi]
 rfl
theorem MQ (hi:i < L.length):bU (bT L).V i=true:=by
 unfold bU bT;rw [ch,af,cX,aq hi]
 rfl
theorem Uv (h:gK L=0) (ok:∀ p∈L,∀ e∈p.1,dF e.2.2):jB (bT L) 0:=by
 unfold gK at h
 split at h
 ·omega
 ·rename_i hl
  split at h
  ·rename_i hg
   have hll:(bT L).S.length=L.length:=cy _;refine ⟨by rw [hll];omega,by show (L.map _).length=(L.map _).length;rw [cy,cy],fun i hi=>?_,Wt.acW,by show 0<=64;omega,by show 0<=32;omega⟩;have hi':i < L.length:=by
    have:(bT L).S.length=L.length:=cy _
    omega
   have hm:dP L i∈L:=by
    unfold dP;rw [af,aq hi'];exact dg hi'
   obtain ⟨⟨g1,g2⟩,_⟩:=hg _ hm;rw [rY hi'];exact ⟨⟨g1,fun e he=>(g2 e he).1,fun e he=>(g2 e he).2,ok (dP L i) hm⟩,gc _,by omega⟩
  ·omega
def bH (x:Ac):Array Value:=#[.int .i64 x.k,.int .i64 x.n,.int .i64 x.f,.int .i64 x.r,.int .u8 x.v.1,.int .u8 x.v.2.1,.int .u8 x.v.2.2.1,.int .u8 x.v.2.2.2,.int .i64 x.s,.int .i64 x.m,.int .i64 x.t]
def eU (x:Ac):Value:=.agg (bH x)
end Cu
namespace Pa
open Go.RowKit Go.Maps
attribute [local irreducible] Sd.bA wpQuiet
def rX (w:World) (F:Nat->Prop) (x:aU×Int) (e:Ending) (w':World):Prop:=∃ r,e = .returned (ptr r)/\Rs w' r F x.1 x.2/\w.heap.size<=r/\Below w.heap.size w w'
variable {w w1 w':World} {r r':Nat} {F:Nat->Prop}
theorem Xn {v v':Value} {L:List aD} {d:Int} (h:rH w r F v L d) (hF:∀ k,F k->k < w.heap.size) (b:Below w.heap.size w w1) (own:Ow E3 w1 w.heap.size 81 v' L) (hr:r'=w1.heap.size) (row:w'.heap[r']? = some (.cells #[v',.int .i64 d] 50 (0,0))) (b1:Below w1.heap.size w1 w'):rH w' r' F v' L d:=by
 have bw:=b.trans (b1.mono b.size);have hz:=b.size;refine ⟨row,fun g=>by have:=hF _ g;omega,⟨(own.keep b1).rd,fun _ k hk g=>?_,fun c hc=>(h.list.file c hc).below bw,fun c hc h0 k hk g=>?_⟩,h.ok⟩
 ·have:=ci own k hk
  rcases g with g | g
  ·have:=hF k g;omega
  ·omega
 ·have:=pq (h.list.file c hc) h0 k hk
  rcases g with g | g
  ·exact h.list.xP c hc h0 k hk (.inl g)
  ·omega
theorem xw {x:aU×Int} (R:Rs w r F x.1 x.2) (hF:∀ k,F k->k < w.heap.size):Calls prog 96 #[.pointer (some ⟨r,0,none⟩)] w (rX w F x):=by
 obtain ⟨A,d⟩:=x;obtain ⟨v,L,h,e⟩:=R;simp only at e;subst e;obtain ⟨a,cap,ev,_⟩:=h.list.rd.slice;have RL:=Hh h.list.rd;have HL:=Hh h.len
 have FIN:Hid (∀ w1 v' w',Below w.heap.size w w1->Ow E3 w1 w.heap.size 81 v' L->w'=w1.alloc (.cells #[v',.int .i64 d] 50)->rX w F (L.map aD.abs,d) (.returned (ptr w1.heap.size)) w'):=Hh (fun w1 v' w' b own e=>by
  subst e
  exact ⟨_,rfl,⟨v',L,Xn h hF b own rfl (bc w1 _) ((aa _ _).alloc (ac _) _),rfl⟩,b.size,b.alloc b.size _⟩)
 have HR:=Hh h.row;have hrl:=bm h.row;clear h hF;subst ev;generalize hn:L.length=n at *;have HN:=Hh hn;clear hn
 go_enter func96,ntmps96
 go_upto_region 1 with fail;have c0:=Sd.aL (Fl.rc HR 0);have c1:=Sd.aL (Fl.rc HR 1);refine Sd.start [(false,1),(false,2),(false,3),(false,4),(false,6),(false,7),(false,8),(false,9),(true,0),(true,5),(false,10),(true,11),(false,12)] (by kernel_rfl) (by kernel_rfl) (by kernel_rfl) ?_;dsimp only [Sd.aP,List.getElem?_cons_succ,List.getElem?_cons_zero]
 repeat (refine Sd.lit ?_;quiet_step (fail);refine bk ?_)
 have B0:=Hh ((aa w.heap.size w).drew);clear c0 c1;generalize w.drew=wd at *;refine Sd.call (by rfl) (fun K hK=>?_);go_simp;have B1:=Hh (B0.alloc B0.size (.cells #[] 81));have OM:=Hh (Rw.Ow.made (K:=E3) wd w.heap.size 81 B0.size);have RB:=Hh (RL.below B1);refine hK _ _ (Sd.Cl.of B1) ?_;clear hK K;generalize wd.heap.size=g0 at *;generalize (wd.alloc (.cells #[] 81))=W1 at *;refine Sd.call (by rfl) (fun K hK=>?_);refine wF (Kd:=E3) underlying47 lG rfl (by omega) _ _ rfl w.heap.size _ _ rfl OM.out _ _ rfl RB.out ?a1 B1.out.size ?_
 case a1=>simp only [dm];have:=HL.out;have:=HN.out;omega
 intro v2 w2 o2 b2
 have B2:=Hh (B1.trans (b2.mono (ac _)));have O2:Hid (Ow E3 w2 w.heap.size 81 v2 L):=Hh (by simpa using o2);obtain ⟨a2,c2,e2,_⟩:=O2.slice;refine hK _ _ (Sd.Cl.of B2) ?_;rw [HN.out] at e2;subst e2;clear hK K b2 o2 B1 OM RB
 repeat (refine Sd.lit ?_;quiet_step (fail);refine bk ?_)
 have RES:=Hh (FIN w2 _ _ B2 O2 rfl);have B3:=Hh (B2.alloc B2.size (.cells #[.slice a2 n c2,.int .i64 d] 50));clear FIN O2;refine Sd.call (by rfl) (fun K hK=>?_);go_simp;refine hK _ _ (Sd.Cl.of B3) ?_;clear hK K
 repeat (refine Sd.lit ?_;quiet_step (fail);refine bk ?_)
 refine Sd.done ?_;go_wp2
 go_ret
 exact RES
open Fl (file)
def ab1:aD:=⟨0,0,none,0,[]⟩
def fQ (L:List aD) (i:Nat):aD:=L.getD i ab1
structure xV (w:World) (v:Value) (L:List aD) (B:Nat):Prop where
 rd:Rd E3 w v L
 file:∀ i,i < L.length->Rd K4 w (fQ L i).sl (fQ L i).l/\dF (fQ L i).l
 low:∀ i,i < L.length->0 < (fQ L i).l.length->∀ k,(fQ L i).sl.ownBlock=some k->k < B
theorem xV.below {w w':World} {v:Value} {L:List aD} {B:Nat} (h:xV w v L B) (b:Below w.heap.size w w'):xV w' v L B:=⟨h.rd.below b,fun i hi=>⟨(h.file i hi).1.below b,(h.file i hi).2⟩,h.low⟩
structure RSI (w:World) (r:Nat) (F:Nat->Prop) (A:aU) (wr:World):Prop where
 rs:Rs wr r F A 0
 aI:Below w.heap.size w wr
theorem RSI.below {w wr wr':World} {r:Nat} {F:Nat->Prop} {A:aU} (h:RSI w r F A wr) (b:Below wr.heap.size wr wr'):RSI w r F A wr':=⟨Fs.Rs.below h.rs b,h.aI.trans (b.mono h.aI.size)⟩
theorem RSI.step {wr wr':World} {A A':aU} (h:RSI w r F A wr) (hr:w.heap.size<=r) (rs:Rs wr' r F A' 0) (o:ay (fun k=>k=r) wr wr'):RSI w r F A' wr':=⟨rs,h.aI.trans (o.below h.aI.size fun k e=>by subst e;exact hr)⟩
theorem NY (w:World) (F:Nat->Prop) (hF:∀ k,F k->k < w.heap.size):RSI w w.heap.size F [] (w.alloc (.cells #[.slice none 0 0,.int .i64 0] 50)) :=
 ⟨⟨_,[],⟨bc w _,fun g=>by have:=hF _ g;omega,⟨Rw.Rd.nil _,(fun h=>by simp at h),(fun c hc=>by cases hc),(fun c hc=>by cases hc)⟩,eB.nil⟩,rfl⟩,(aa w.heap.size w).alloc (ac _) _⟩
end Pa
namespace Ck
open Go.RowKit
open Ro (fM vK gQ VF)
theorem jb (a:Addr):a.add 0=a:=by cases a;simp [Addr.add]
theorem zD:(prog.info? 126).map (fun i=>(i.zero,i.size,i.bytes))=some (some (.slice none 0 0),1,24):=by kernel_rfl
end Ck
namespace Pa
open Go.RowKit Go.Maps
structure Cel where
 files:Hd
 table:Hd
 live:Bool
 steps:Hd
 F:List aD
 T:List E5
 S:List S2
def afs:Cel:=⟨zh,zh,false,zh,[],[],[]⟩
def C9 (L:List Cel) (i:Nat):Cel:=L.getD i afs
theorem bG {α β:Type} {K:Kind α} {J:Kind β} {w:World} {B B' E E':Nat} {v v':Value} {l:List α} {l':List β} (h:Ow K w B E v l) (h':Ow J w B' E' v' l') (hE:E≠E'):∀ k,v.ownBlock=some k->v'.ownBlock≠some k:=fun k hk=>by
 obtain ⟨_,h⟩:=h
 rcases h with ⟨rfl,_⟩ | ⟨g,cap,cur,rfl,_,hh,_⟩
 ·simp [Value.ownBlock] at hk
 ·simp only [Value.ownBlock,eC] at hk
  subst hk;exact h'.apart hh hE
section
end
section
end
end Pa
namespace Cu
open Go.RowKit
open Pa (xV fQ ab1)
structure mF where
 files:Hd
 rate:Int
 F:List aD
def plD:mF:=⟨zh,0,[]⟩
def KP:Kind mF:=⟨fun c=>[sl c.files,.int .i64 c.rate],2,by decide,fun _=>rfl,fun _ u h=>by simp [sl] at h;rcases h with rfl | rfl <;> rfl,plD⟩
def Be (L:List mF) (i:Nat):mF:=L.getD i plD
structure Cz (w:World) (v:Value) (L:List mF) (B:Nat):Prop where
 rd:Rd KP w v L
 file:∀ i,i < L.length->xV w (sl (Be L i).files) (Be L i).F B
theorem Cz.below {w w':World} {v:Value} {L:List mF} {B:Nat} (h:Cz w v L B) (b:Below w.heap.size w w'):Cz w' v L B:=⟨h.rd.below b,fun i hi=>(h.file i hi).below b⟩
def mF.abs (c:mF):Pl:=(c.F.map aD.abs,c.rate)
def dK (L:List mF):List Pl:=L.map mF.abs
theorem iR (L:List mF):(dK L).length=L.length:=cy _
variable {i b off k:Nat}
theorem XU {L:List mF} (h:i < L.length):dP (dK L) i=(Be L i).abs:=by
 unfold dP dK Be;rw [af,cX,aq h,af,aq h]
 rfl
theorem Xh {w:World} {L:List mF} (h:At KP w b off L) (hi:i < L.length):w.cell? ⟨b,off+i * 2,none⟩=some (sl (Be L i).files)/\w.cell? ⟨b,off+i * 2+1,none⟩=some (.int .i64 (Be L i).rate):=⟨h i hi 0 _ rfl,h i hi 1 _ rfl⟩
def adY (x:Ac):List Value:=[.int .i64 x.k,.int .i64 x.n,.int .i64 x.f,.int .i64 x.r,.int .u8 x.v.1,.int .u8 x.v.2.1,.int .u8 x.v.2.2.1,.int .u8 x.v.2.2.2,.int .i64 x.s,.int .i64 x.m,.int .i64 x.t]
def acD:Ac:=⟨0,0,0,0,z4,0,0,0⟩
def KA:Kind Ac:=⟨adY,11,by decide,fun _=>rfl,fun _ u h=>by simp [adY] at h;rcases h with rfl | rfl | rfl | rfl | rfl | rfl | rfl | rfl | rfl | rfl | rfl <;> rfl,acD⟩
def Kb (L:List Ac) (i:Nat):Ac:=L.getD i acD
def Inn (A:aU) (k:Nat):Prop:=rM key (A.take k)/\∀ e∈A.take k,(0<=e.1/\e.1<=63)/\aO e.2.1 e.2.2
theorem J5 (A:aU):Inn A 0:=⟨fW,nofun⟩
theorem Ot {A:aU} (h:Inn A A.length):gdF A:=by
 unfold Inn at h;rw [cW] at h;exact h
theorem Iz {A:aU} {n p:Int} {l:List R4} (h:Inn A k) (hk:A[k]? = some (n,p,l)) (ord:∀ c,0 < k->A[k - 1]? = some c->key c < n) :
 (gT (A.take k) n p l=0/\lM (A.take k) n p l=A.take (k+1)/\Inn A (k+1))\/(gT (A.take k) n p l≠0/\¬ gdF A):=by
 have hkl:=(bs.1 hk).1;have hm:(n,p,l)∈A:=cN hk;have lt:∀ x∈A.take k,key x < n:=fun x hx=>by
  obtain ⟨i,hi⟩:=List.mem_iff_getElem?.1 hx;have hil:=(bs.1 hi).1;rw [cH] at hil;have h1:A[k - 1]? = some A[k - 1]:=aq (by omega);have o:=ord _ (by omega) h1;rw [List.getElem?_take,aw (by omega)] at hi
  by_cases e:i=k - 1
  ·subst e
   rw [h1] at hi;injection hi with hi;rw [← hi];exact o
  ·have q:=eS.1 h.1 i (k - 1) (by rw [cH];omega) (by rw [cH];omega) (by omega)
   rw [List.getElem_take,List.getElem_take] at q;rw [aq (by omega)] at hi;injection hi with hi;rw [hi] at q
   omega
 have hn:Fs.look key n (A.take k)=none:=eO.2 fun x hx=>by have:=lt x hx;omega
 have tk:A.take (k+1)=A.take k ++ [(n,p,l)]:=by rw [ed,hk];rfl
 by_cases g1:0<=n/\n<=63
 ·by_cases g2:aO p l
  ·have e0:gT (A.take k) n p l=0:=by
    unfold gT;rw [aw g1,aw g2,hn]
    rfl
   refine .inl ⟨e0,?_,?_,?_⟩
   ·unfold lM
    rw [aw e0,yE (c:=(n,p,l)) hn,Ae (k:=(A.take k).length) (fun x hx=>lt x (List.mem_of_mem_take hx)) (fun x hx=>by rw [eA (ac _)] at hx;cases hx),cW,List.drop_length,tk]
   ·rw [tk]
    refine List.pairwise_append.2 ⟨h.1,List.pairwise_singleton _ _,fun x hx y hy=>?_⟩;rw [cM] at hy;subst hy;exact lt x hx
   ·rw [tk]
    intro e he
    rcases eM.1 he with he | he
    ·exact h.2 e he
    ·rw [cM] at he
     subst he;exact ⟨g1,g2⟩
  ·refine .inr ⟨?_,fun g=>g2 (g.2 _ hm).2⟩
   unfold gT;rw [aw g1,am g2]
   decide
 ·refine .inr ⟨?_,fun g=>g1 (g.2 _ hm).1⟩
  unfold gT;rw [am g1]
  decide
theorem VQ {A:aU} {c d:yj} (h0:0 < k) (hk:A[k]? = some c) (h1:A[k - 1]? = some d) (hle:key c<=key d):¬ gdF A:=fun g=>by
 have a:=(bs.1 hk);have b:=(bs.1 h1);obtain ⟨a1,rfl⟩:=a;obtain ⟨b1,rfl⟩:=b;have q:=eS.1 g.1 (k - 1) k b1 a1 (by omega)
 omega
def Gds (L:List Pl) (i:Nat):Prop:=∀ j,j < i->Oq (dP L j)
theorem JV (L:List Pl):Gds L 0:=fun j hj=>by omega
variable {L:List Pl}
theorem Jg (h:Gds L i) (g:Oq (dP L i)):Gds L (i+1):=fun j hj=>by
 by_cases e:j=i
 ·rw [e];exact g
 ·exact h j (by omega)
theorem OJ (h:Gds L L.length):∀ p∈L,Oq p:=fun p hp=>by
 obtain ⟨i,hi,rfl⟩:=dy hp;have:=h i hi;unfold dP at this;rw [af,aq hi] at this;exact this
theorem vZ (h:L.length < 2\/32 < L.length):gK L=1:=by unfold gK;rw [aw h]
theorem Oj (h:¬ (L.length < 2\/32 < L.length)) (hi:i < L.length) (g:¬ Oq (dP L i)):gK L=2:=by
 unfold gK;rw [am h,am]
 intro a
 refine g (a _ ?_);unfold dP;rw [af,aq hi];exact dg hi
theorem OY (h:¬ (L.length < 2\/32 < L.length)) (g:∀ p∈L,Oq p):(agree L->gK L=0)/\(¬ agree L->gK L=10):=by
 unfold gK;rw [am h,aw g];exact ⟨fun a=>aw a,fun a=>am a⟩
theorem Cy (h:i < L.length):(bT (L.take (i+1))).S=(bT (L.take i)).S ++ [((dP L i).1,0)]/\(bT (L.take (i+1))).V=(bT (L.take i)).V ++ [true]:=by
 have tk:L.take (i+1)=L.take i ++ [dP L i]:=by
  rw [ed];unfold dP;rw [af,aq h]
  rfl
 unfold bT;rw [tk]
 simp
end Cu
namespace Fl
open Go.ChangeShapes Go.WideShapes Go.ChangeAt Go.RowKit Go.Deep
variable {w W:World} {r:Reach} {base n fuel b0:Nat} {v u:Value}
theorem Dw {P:Program} {t e:TypeId} (ht:P.underlying t=some (.array n e)) (h:Value.okWide P w r base t v):∃ cs,v = .agg cs/\cs.size=P.cellsOf t:=by
 simp only [Value.okWide,ht] at h;obtain ⟨cs,h1,h2,_⟩:=h;exact ⟨cs,h1,h2⟩
variable {H:Type} {sp:Nat->Bool} {held:Bool}
theorem qd {enc:TypeId×Value->H} {cs:List Value} {x:DataW H×List MemPlace}
 (h:DataW.trod enc prog W base sp held fuel 42 cs=some x):∃ r:R4,cs=K4.enc r/\bQ r:=by
 have c4:prog.cellsOf 42=4:=by kernel_rfl
 have c1:prog.cellsOf 5=1:=by kernel_rfl
 obtain ⟨xs,m,_,_,hs,hx,hi⟩:=DataW.trod_array underlying42 h;rw [c4] at hs
 match cs,hs,xs,hx,hi with
 | [u0,u1,u2,u3],_,[x0,x1,x2,x3],_,hi =>
   have e0:=hi 0 (by omega);have e1:=hi 1 (by omega);have e2:=hi 2 (by omega);have e3:=hi 3 (by omega);rw [c1] at e0 e1 e2 e3;obtain ⟨a,ha,_,wa⟩:=DataW.trod_int underlying5 (x:=x0) e0;obtain ⟨b,hb,_,wb⟩:=DataW.trod_int underlying5 (x:=x1) e1;obtain ⟨c,hc,_,wc⟩:=DataW.trod_int underlying5 (x:=x2) e2;obtain ⟨d,hd,_,wd⟩:=DataW.trod_int underlying5 (x:=x3) e3
   simp at ha hb hc hd
   subst ha hb hc hd;exact ⟨(a,b,c,d),rfl,bounds_u8 wa,bounds_u8 wb,bounds_u8 wc,bounds_u8 wd⟩
theorem acE {enc:TypeId×Value->H} {d:DataW H} {p:List MemPlace}
 (hv:Value.okWide prog W r b0 42 v) (h:DataW.Trod enc prog W base sp held 42 v d p):∃ x:R4,v=aH x/\bQ x:=by
 obtain ⟨⟨l⟩,rfl,hs⟩:=Dw underlying42 hv;obtain ⟨fuel,hf⟩:=h;obtain ⟨x,e,ok⟩:=qd hf;have e':=e;subst e';exact ⟨x,rfl,ok⟩
theorem OC {enc:TypeId×Value->H} {x:DataW H×List MemPlace}
 (h:DataW.trod enc prog W base sp held fuel 77 [u]=some x):∃ l,Rd K4 W u l/\dF l:=by
 have c4:prog.cellsOf 42=4:=by kernel_rfl
 rcases open_slice underlying77 h with ⟨e,_⟩ | ⟨a,len,cap,m,n,D,Pl,e,_,hl,hm,hmm,_,hx⟩
 ·simp at e
  subst e;exact ⟨[],Rw.Rd.nil _,fun r hr=>by cases hr⟩
 ·simp at e
  subst e;have hlm:len<=m:=by rw [hmm];split <;> omega
  have each:∀ i,i < m->∃ r:R4,bQ r/\∀ j u,(K4.enc r)[j]? = some u->W.cell? (a.add (i * 4+j))=some u:=fun i hi=>by
   obtain ⟨cs',h1,h2⟩:=hx i hi;rw [c4] at h1;obtain ⟨_,hlen,hcell⟩:=World.cells?_some h1;obtain ⟨r,rfl,ok⟩:=qd h2;refine ⟨r,ok,fun j u hu=>?_⟩;have hj:j < 4:=by have:=(bs.1 hu).1;rw [hlen] at this;exact this
   have e:=hcell j hj;rw [add_add] at e;exact e.trans hu
  obtain ⟨q,hq⟩:=choose_lt each;have hlen:((List.range len).map q).length=len:=by simp
  have get:∀ i,i < len->((List.range len).map q).getD i z4=q i:=fun i hi=>by simp [List.getD,hi]
  refine ⟨(List.range len).map q,⟨some a,cap,by rw [hlen],⟨by rw [hlen];exact hl,nofun⟩,hm,fun h0=>?_⟩,fun r hr=>?_⟩
  ·rw [hlen] at h0
   obtain ⟨b,off,spot⟩:=a;have c0:=(hq 0 (by omega)).2 0 _ rfl;have hs:spot=none:=by simpa [Addr.add] using World.cell?_spot c0
   subst hs;refine ⟨b,off,rfl,fun i hi j u hu=>?_⟩;rw [hlen] at hi;have hu':(K4.enc (q i))[j]? = some u:=by rw [← get i hi];exact hu
   have c:=(hq i (by omega)).2 j u hu';rw [add_plain] at c
   show W.cell? ⟨b,off+i * 4+j,none⟩=some u
   rw [Nat.add_assoc];exact c
  ·obtain ⟨i,hi,rfl⟩:=dp.1 hr
   exact (hq i (by have:=List.mem_range.1 hi;omega)).1
end Fl
namespace Fs
open Go.ChangeShapes Go.WideShapes Go.ChangeAt Go.RowKit Go.Deep
open Fl (qd OC)
section
variable {H:Type} {enc:TypeId×Value->H} {W:World} {base fuel:Nat} {sp:Nat->Bool} {held:Bool} {cs:List Value} {x:DataW H×List MemPlace}
theorem A9 (h:DataW.trod enc prog W base sp held fuel 79 cs=some x):∃ q u l,cs = [.int .i64 q,u]/\Rd K4 W u l/\dF l:=by
 have c2:prog.cellsOf 79=2:=by kernel_rfl
 have c1:prog.cellsOf 3=1:=by kernel_rfl
 have c3:prog.cellsOf 77=1:=by kernel_rfl
 obtain ⟨xs,m,_,_,hs,hx,hi⟩:=DataW.trod_struct underlying79 h;rw [c2] at hs
 match cs,hs,xs,hx,hi with
 | [u,v],_,[x0,x1],_,hi =>
   have e0:DataW.trod enc prog W base sp held m 3 (([u,v].drop 0).take (prog.cellsOf 3))=some x0:=hi 0 _ rfl;have e1:DataW.trod enc prog W base sp held m 77 (([u,v].drop 1).take (prog.cellsOf 77))=some x1:=hi 1 _ rfl;rw [c1] at e0;rw [c3] at e1;obtain ⟨a,ha,_⟩:=DataW.trod_int underlying3 (x:=x0) e0
   simp at ha
   subst ha;obtain ⟨l,R,ok⟩:=OC (u:=v) e1;exact ⟨a,v,l,rfl,R,ok⟩
end
def laid : List (String × DataW Unit) := [("errors.errorType", Rows.laid_errors_errorType)]
theorem et : Tryz.prog.globalNamed "errors.errorType" = some 0 := by kernel_rfl
theorem rt : (Tryz.prog.cutTypes.find? (·.1 == "internal/reflectlite.rtype")).map (·.2) = some 234 := by kernel_rfl
theorem ac7:((List.range 372).filter fun t=>prog.rowNamed t [101,114,114,111,114]) = [111]:=by kernel_rfl
theorem aeO:prog.types.size=372:=by kernel_rfl
theorem aaH {W:World} (h:laidMetH prog laid W):fq W:=by
 have h':laidMet prog [] W/\handlesMet prog laid W:=h;obtain ⟨name,u,ty,e1,e2,e3,e4,e5⟩:=h'.2 _ (cM.2 rfl);have en:name = [101,114,114,111,114]:=(cP e1).symm;subst en;obtain rfl:=cP (rt.symm.trans e2);have hm:ty∈(List.range 372).filter fun t=>prog.rowNamed t [101,114,114,111,114]:=eJ.2 ⟨List.mem_range.2 (by rw [← aeO];exact e3),e4⟩;rw [ac7] at hm;obtain rfl:=cM.1 hm;have hh:typeHandle prog 111 = .pointer (some ⟨1,111,none⟩):=by kernel_rfl
 rw [hh] at e5;have:=World.var?_cell et e5 0;unfold fq
 simpa using this
noncomputable def CJ (os:Os):World :=
 let w0:=World.holding prog os ⟨#[],#[],[]⟩
 { w0 with heap:=w0.heap.modify 0 fun
  | .cells _ t frozen=>.cells #[.iface 234 (.agg #[.pointer (some ⟨1,111,none⟩)])] t frozen
  | o=>o }
theorem Bt (os:Os) (args:Array Value):laidMetH prog laid ((CJ os).forCall (fun _ _=>0) ⟨#[],args,[]⟩).memory :=
 laidMetH_of_parts (laidMet_nil _ _) (by kernel_rfl)
end Fs
namespace Pa
open Go.ChangeShapes Go.WideShapes Go.ChangeAt Go.RowKit Go.Deep
open Fs (A9)
theorem yJ {α:Type} {K:Rw.Kind α} (Q:α->Prop) {H:Type} {enc:TypeId×Value->H} {W:World} {u:Value} {base fuel:Nat} {sp:Nat->Bool} {held:Bool} {x:DataW H×List MemPlace} {T E:TypeId}
 (hu:prog.underlying T=some (.slice E)) (hc:prog.cellsOf E=K.n) (el:∀ {n:Nat} {cs:List Value} {y:DataW H×List MemPlace},DataW.trod enc prog W base sp held n E cs=some y->∃ r:α,cs=K.enc r/\Q r)
 (h:DataW.trod enc prog W base sp held fuel T [u]=some x):∃ l,Rd K W u l/\∀ r∈l,Q r:=by
 rcases open_slice hu h with ⟨e,_⟩ | ⟨a,len,cap,m,n,D,Pl,e,_,hl,hm,hmm,_,hx⟩
 ·simp at e
  subst e;exact ⟨[],Rw.Rd.nil _,fun r hr=>by cases hr⟩
 ·simp at e
  subst e;have hlm:len<=m:=by rw [hmm];split <;> omega
  have each:∀ i,i < m->∃ r:α,Q r/\∀ j u,(K.enc r)[j]? = some u->W.cell? (a.add (i * K.n+j))=some u:=fun i hi=>by
   obtain ⟨cs',h1,h2⟩:=hx i hi;rw [hc] at h1;obtain ⟨_,hlen,hcell⟩:=World.cells?_some h1;obtain ⟨r,rfl,ok⟩:=el h2;refine ⟨r,ok,fun j u hu=>?_⟩;have hj:j < K.n:=by have:=(bs.1 hu).1;rw [hlen] at this;exact this
   have e:=hcell j hj;rw [add_add] at e;exact e.trans hu
  haveI:Inhabited α:=⟨K.Ox⟩
  obtain ⟨q,hq⟩:=choose_lt each;have hlen:((List.range len).map q).length=len:=by simp
  have get:∀ i,i < len->((List.range len).map q).getD i K.Ox=q i:=fun i hi=>by simp [List.getD,hi]
  refine ⟨(List.range len).map q,⟨some a,cap,by rw [hlen],⟨by rw [hlen];exact hl,nofun⟩,hm,fun h0=>?_⟩,fun r hr=>?_⟩
  ·rw [hlen] at h0
   obtain ⟨b,off,spot⟩:=a;have hp:0 < (K.enc (q 0)).length:=by rw [K.len];exact K.pos
   have c0:=(hq 0 (by omega)).2 0 _ (aq hp);have hs:spot=none:=by simpa [Addr.add] using World.cell?_spot c0
   subst hs;refine ⟨b,off,rfl,fun i hi j u hu=>?_⟩;rw [hlen] at hi;have hu':(K.enc (q i))[j]? = some u:=by rw [← get i hi];exact hu
   have c:=(hq i (by omega)).2 j u hu';rw [add_plain] at c
   show W.cell? ⟨b,off+i * K.n+j,none⟩=some u
   rw [Nat.add_assoc];exact c
  ·obtain ⟨i,hi,rfl⟩:=dp.1 hr
   exact (hq i (by have:=List.mem_range.1 hi;omega)).1
section
variable {H:Type} {enc:TypeId×Value->H} {W:World} {base fuel:Nat} {sp:Nat->Bool} {held:Bool} {cs:List Value} {x:DataW H×List MemPlace}
theorem xA (h:DataW.trod enc prog W base sp held fuel 81 cs=some x):∃ c:aD,cs=E3.enc c/\Rd K4 W c.sl c.l/\dF c.l:=by
 have c3:prog.cellsOf 81=3:=by kernel_rfl
 have c1:prog.cellsOf 3=1:=by kernel_rfl
 have c2:prog.cellsOf 79=2:=by kernel_rfl
 obtain ⟨xs,m,_,_,hs,hx,hi⟩:=DataW.trod_struct underlying81 h;rw [c3] at hs
 match cs,hs,xs,hx,hi with
 | [u0,u1,u2],_,[x0,x1],_,hi =>
   have e0:DataW.trod enc prog W base sp held m 3 (([u0,u1,u2].drop 0).take (prog.cellsOf 3))=some x0:=hi 0 _ rfl;have e1:DataW.trod enc prog W base sp held m 79 (([u0,u1,u2].drop 1).take (prog.cellsOf 79))=some x1:=hi 1 _ rfl;rw [c1] at e0;rw [c2] at e1;obtain ⟨k,hk,_,wk⟩:=DataW.trod_int underlying3 (x:=x0) e0;obtain ⟨p,u,l,h3,R,okl⟩:=A9 e1;obtain ⟨a,cap,rfl,_⟩:=R.slice;have k' : [u0] = [.int .i64 k]:=hk;have h3' : [u1,u2] = [.int .i64 p,.slice a l.length cap]:=h3;simp only [List.cons.injEq,and_true] at k' h3';obtain rfl:=k';obtain ⟨rfl,rfl⟩:=h3';exact ⟨⟨k,p,a,cap,l⟩,rfl,R,okl⟩
theorem Co {T E:TypeId} {u:Value} (hu:prog.underlying T=some (.slice E)) (h:DataW.trod enc prog W base sp held fuel T [u]=some x):∃ s:Hd,u=sl s:=by
 rcases open_slice hu h with ⟨e,_⟩ | ⟨a,len,cap,m,n,D,Pl,e,_⟩
 ·simp at e
  exact ⟨zh,e⟩
 ·simp at e
  exact ⟨(some a,len,cap),e⟩
end
end Pa
namespace Cu
open Go.ChangeShapes Go.WideShapes Go.ChangeAt Go.RowKit Go.Deep
open Pa (yJ xA Co fQ)
section
variable {H:Type} {enc:TypeId×Value->H} {W:World} {base fuel:Nat} {sp:Nat->Bool} {held:Bool} {cs:List Value} {x:DataW H×List MemPlace}
def ad6 (W:World) (c:mF):Prop:=Rd E3 W (sl c.files) c.F/\∀ e∈c.F,Rd K4 W e.sl e.l/\dF e.l
theorem Lc (h:DataW.trod enc prog W base sp held fuel 71 cs=some x):∃ c:mF,cs=KP.enc c/\ad6 W c:=by
 have c2:prog.cellsOf 71=2:=by kernel_rfl
 have d0:prog.cellsOf 47=1:=by kernel_rfl
 have d1:prog.cellsOf 3=1:=by kernel_rfl
 obtain ⟨xs,m,_,_,hs,hx,hi⟩:=DataW.trod_struct underlying71 h;rw [c2] at hs
 match cs,hs,xs,hx,hi with
 | [u0,u1],_,[x0,x1],_,hi =>
   have e0:DataW.trod enc prog W base sp held m 47 (([u0,u1].drop 0).take (prog.cellsOf 47))=some x0:=hi 0 _ rfl;have e1:DataW.trod enc prog W base sp held m 3 (([u0,u1].drop 1).take (prog.cellsOf 3))=some x1:=hi 1 _ rfl;rw [d0] at e0;rw [d1] at e1;obtain ⟨F,RF,QF⟩:=yJ (K:=E3) (fun c=>Rd K4 W c.sl c.l/\dF c.l) underlying47 (by kernel_rfl) (fun h=>xA h) (u:=u0) e0;obtain ⟨k,hk,_,_⟩:=DataW.trod_int underlying3 (x:=x1) e1;obtain ⟨s0,rfl⟩:=Co underlying47 (u:=u0) e0;have k' : [u1] = [.int .i64 k]:=hk;simp only [List.cons.injEq,and_true] at k';obtain rfl:=k';exact ⟨⟨s0,k,F⟩,rfl,RF,QF⟩
theorem PM (h:DataW.trod enc prog W base sp held fuel 44 cs=some x):∃ c:Ac,cs=KA.enc c/\bQ c.v/\Fs.Wf c.f:=by
 have c11:prog.cellsOf 44=11:=by kernel_rfl
 have d0:prog.cellsOf 3=1:=by kernel_rfl
 have d1:prog.cellsOf 42=4:=by kernel_rfl
 obtain ⟨xs,m,_,_,hs,hx,hi⟩:=DataW.trod_struct underlying44 h;rw [c11] at hs
 match cs,hs,xs,hx,hi with
 | [u0,u1,u2,u3,u4,u5,u6,u7,u8,u9,u10],_,[x0,x1,x2,x3,x4,x5,x6,x7],_,hi =>
   have e0:DataW.trod enc prog W base sp held m 3 (([u0,u1,u2,u3,u4,u5,u6,u7,u8,u9,u10].drop 0).take (prog.cellsOf 3))=some x0:=hi 0 _ rfl;have e1:DataW.trod enc prog W base sp held m 3 (([u0,u1,u2,u3,u4,u5,u6,u7,u8,u9,u10].drop 1).take (prog.cellsOf 3))=some x1:=hi 1 _ rfl;have e2:DataW.trod enc prog W base sp held m 3 (([u0,u1,u2,u3,u4,u5,u6,u7,u8,u9,u10].drop 2).take (prog.cellsOf 3))=some x2:=hi 2 _ rfl;have e3:DataW.trod enc prog W base sp held m 3 (([u0,u1,u2,u3,u4,u5,u6,u7,u8,u9,u10].drop 3).take (prog.cellsOf 3))=some x3:=hi 3 _ rfl;have e4:DataW.trod enc prog W base sp held m 42 (([u0,u1,u2,u3,u4,u5,u6,u7,u8,u9,u10].drop 4).take (prog.cellsOf 42))=some x4:=hi 4 _ rfl;have e5:DataW.trod enc prog W base sp held m 3 (([u0,u1,u2,u3,u4,u5,u6,u7,u8,u9,u10].drop 8).take (prog.cellsOf 3))=some x5:=hi 5 _ rfl;have e6:DataW.trod enc prog W base sp held m 3 (([u0,u1,u2,u3,u4,u5,u6,u7,u8,u9,u10].drop 9).take (prog.cellsOf 3))=some x6:=hi 6 _ rfl;have e7:DataW.trod enc prog W base sp held m 3 (([u0,u1,u2,u3,u4,u5,u6,u7,u8,u9,u10].drop 10).take (prog.cellsOf 3))=some x7:=hi 7 _ rfl;rw [d0] at e0 e1 e2 e3 e5 e6 e7;rw [d1] at e4;obtain ⟨k0,h0,_⟩:=DataW.trod_int underlying3 (x:=x0) e0
   replace h0 : [u0] = [.int .i64 k0]:=h0
   obtain ⟨k1,h1,_⟩:=DataW.trod_int underlying3 (x:=x1) e1
   replace h1 : [u1] = [.int .i64 k1]:=h1
   obtain ⟨k2,h2,_,wf2⟩:=DataW.trod_int underlying3 (x:=x2) e2
   replace h2 : [u2] = [.int .i64 k2]:=h2
   obtain ⟨k3,h3,_⟩:=DataW.trod_int underlying3 (x:=x3) e3
   replace h3 : [u3] = [.int .i64 k3]:=h3
   obtain ⟨r,h4,ok⟩:=Fl.qd e4
   replace h4 : [u4,u5,u6,u7] = [.int .u8 r.1,.int .u8 r.2.1,.int .u8 r.2.2.1,.int .u8 r.2.2.2]:=h4
   obtain ⟨k5,h5,_⟩:=DataW.trod_int underlying3 (x:=x5) e5
   replace h5 : [u8] = [.int .i64 k5]:=h5
   obtain ⟨k6,h6,_⟩:=DataW.trod_int underlying3 (x:=x6) e6
   replace h6 : [u9] = [.int .i64 k6]:=h6
   obtain ⟨k7,h7,_⟩:=DataW.trod_int underlying3 (x:=x7) e7
   replace h7 : [u10] = [.int .i64 k7]:=h7
   simp only [List.cons.injEq,and_true] at h0 h1 h2 h3 h4 h5 h6 h7;obtain rfl:=h0;obtain rfl:=h1;obtain rfl:=h2;obtain rfl:=h3;obtain ⟨rfl,rfl,rfl,rfl⟩:=h4;obtain rfl:=h5;obtain rfl:=h6;obtain rfl:=h7;exact ⟨⟨k0,k1,k2,k3,r,k5,k6,k7⟩,rfl,ok,wf2⟩
end
variable {H:Type} {W:World} {v:Value} {base b0:Nat} {sp:Nat->Bool} {held:Bool} {p:List MemPlace} {r:Reach}
theorem Yt {enc:TypeId×Value->H} {d:DataW H}
 (hv:Value.okWide prog W r b0 22 v) (h:DataW.Trod enc prog W base sp held 22 v d p):∃ L,Cz W v L W.heap.size:=by
 obtain ⟨a,len,cap,rfl⟩:=okWide_slice underlying22 hv;obtain ⟨fuel,hf⟩:=h;obtain ⟨L,R,Q⟩:=yJ (K:=KP) (ad6 W) underlying22 (by kernel_rfl) (fun h=>Lc h) (u:=.slice a len cap) hf;refine ⟨L,R,fun i hi=>?_⟩;have at_:Be L i∈L:=by
  unfold Be;rw [af,aq hi];exact dg hi
 obtain ⟨q1,q2⟩:=Q _ at_;have mem:∀ j,j < (Be L i).F.length->fQ (Be L i).F j∈(Be L i).F:=fun j hj=>by
  unfold fQ;rw [af,aq hj];exact dg hj
 exact ⟨q1,fun j hj=>q2 _ (mem j hj),fun j hj h0 k hk=>Fs.pq (q2 _ (mem j hj)).1 h0 k hk⟩
theorem aaF {enc:TypeId×Value->H} {d:DataW H}
 (hv:Value.okWide prog W r b0 23 v) (h:DataW.Trod enc prog W base sp held 23 v d p):∃ l,Rd KA W v l/\∀ x∈l,bQ x.v/\Fs.Wf x.f:=by
 obtain ⟨a,len,cap,rfl⟩:=okWide_slice underlying23 hv;obtain ⟨fuel,hf⟩:=h;exact yJ (K:=KA) (fun x=>bQ x.v/\Fs.Wf x.f) underlying23 (by kernel_rfl) (fun h=>PM h) (u:=.slice a len cap) hf
end Cu
namespace Ad
open Go.ChangeShapes Go.WideShapes Go.ChangeAt Go.RowKit Go.Deep
theorem Y9 {H:Type} {enc:TypeId×Value->H} {W:World} {v:Value} {base:Nat} {sp:Nat->Bool} {held:Bool} {d:DataW H} {p:List MemPlace} {r:Reach} {b0:Nat}
 (hv:Value.okWide prog W r b0 59 v) (h:DataW.Trod enc prog W base sp held 59 v d p):∃ o f r,v=addr o f r:=by
 obtain ⟨⟨l⟩,rfl,hs⟩:=WideShapes.okWide_struct underlying59 hv;have c3:prog.cellsOf 59=3:=by kernel_rfl
 have c1:prog.cellsOf 3=1:=by kernel_rfl
 rw [c3] at hs;obtain ⟨fuel,hf⟩:=h;obtain ⟨xs,m,_,_,_,hx,hi⟩:=DataW.trod_struct underlying59 hf
 match l,hs,xs,hx,hi with
 | [u,v,w],_,[x0,x1,x2],_,hi =>
   have e0:DataW.trod enc prog W base sp held m 3 (([u,v,w].drop 0).take (prog.cellsOf 3))=some x0:=hi 0 _ rfl;have e1:DataW.trod enc prog W base sp held m 3 (([u,v,w].drop 1).take (prog.cellsOf 3))=some x1:=hi 1 _ rfl;have e2:DataW.trod enc prog W base sp held m 3 (([u,v,w].drop 2).take (prog.cellsOf 3))=some x2:=hi 2 _ rfl;rw [c1] at e0 e1 e2;obtain ⟨a,ha,_⟩:=DataW.trod_int underlying3 (x:=x0) e0;obtain ⟨b,hb,_⟩:=DataW.trod_int underlying3 (x:=x1) e1;obtain ⟨c,hc,_⟩:=DataW.trod_int underlying3 (x:=x2) e2
   simp at ha hb hc
   subst ha hb hc;exact ⟨a,b,c,rfl⟩
end Ad
namespace Cu
open Go.RowKit Go.Maps
section
variable {E:TypeId} {w wr w1:World} {S:bX} {k:Nat} {o o':Value} {ps:List Nat} {Fs:Nat->Nat->Prop} {g:Nat} {F5:Nat->Prop}
structure PJ (E:TypeId) (w:World) (S:bX) (k:Nat) (o:Value) (ps:List Nat) (Fs:Nat->Nat->Prop) (wr:World):Prop where
 own:Ow KN wr w.heap.size E o ps
 len:ps.length=k
 each:∀ i,i < k->St wr (ps.getD i 0) (Fs i) (aN S i).1 (aN S i).2
 lo:∀ i,i < k->∀ j,Fs i j->w.heap.size<=j/\o.ownBlock≠some j
 FQ:∀ i m,i < k->m < k->i≠m->∀ j,Fs i j->¬ Fs m j
 aI:Below w.heap.size w wr
structure PK (E:TypeId) (w:World) (S:bX) (k:Nat) (o:Value) (ps:List Nat) (Fs:Nat->Nat->Prop) (g:Nat) (F5:Nat->Prop) (wr:World):Prop where
 old:PJ E w S k o ps Fs wr
 new:St wr g F5 (aN S k).1 (aN S k).2
 nlo:∀ j,F5 j->w.heap.size<=j/\o.ownBlock≠some j
 acS:∀ i,i < k->∀ j,F5 j->¬ Fs i j
theorem PJ.start (hb:Below w.heap.size w wr):PJ E w S 0 (.slice none 0 0) [] Fs wr:=⟨Rw.Ow.nil _ _ _,rfl,fun i hi=>by omega,fun i hi=>by omega,fun i m hi=>by omega,hb⟩
theorem PJ.below (h:PJ E w S k o ps Fs wr) (b:Below wr.heap.size wr w1):PJ E w S k o ps Fs w1:=⟨h.own.keep b,h.len,fun i hi=>(h.each i hi).below b,h.lo,h.FQ,h.aI.trans (b.mono h.aI.size)⟩
theorem PJ.Dr (h:PJ E w S k o ps Fs wr):∀ k,o.ownBlock=some k->k < wr.heap.size:=fun k e=>(ci h.own k e).2
theorem PJ.pend (h:PJ E w S k o ps Fs wr) (b:Below wr.heap.size wr w1) (st:St w1 g F5 (aN S k).1 (aN S k).2) (lo5:∀ j,F5 j->wr.heap.size<=j):PK E w S k o ps Fs g F5 w1 :=
 ⟨h.below b,st,fun j hj=>⟨cE h.aI.size (lo5 j hj),fun e=>by have:=h.Dr j e;have:=lo5 j hj;omega⟩,fun i hi j hj q=>by have:=(h.each i hi).low j q;have:=lo5 j hj;omega⟩
theorem PK.below (h:PK E w S k o ps Fs g F5 wr) (b:Below wr.heap.size wr w1):PK E w S k o ps Fs g F5 w1:=⟨h.old.below b,h.new.below b,h.nlo,h.acS⟩
def fsN (Fs:Nat->Nat->Prop) (k:Nat) (F5:Nat->Prop) (i:Nat):Nat->Prop:=if i=k then F5 else Fs i
theorem PK.push (h:PK E w S k o ps Fs g F5 wr) (own:Ow KN w1 w.heap.size E o' (ps ++ [g])) (gr:wr.grownBy w1 o.ownBlock) (hq:o'.ownBlock=o.ownBlock\/∃ g,o'.ownBlock=some g/\wr.heap.size<=g):PJ E w S (k+1) o' (ps ++ [g]) (fsN Fs k F5) w1:=by
 have oq:=aV gr;have len:=h.old.len;have at_old:∀ i,i < k->(ps ++ [g]).getD i 0=ps.getD i 0:=fun i hi=>by rw [af,fk (by rw [len];exact hi),af]
 have at_new:(ps ++ [g]).getD k 0=g:=by rw [af,fh (by rw [len];exact ac _),len];simp
 have f_old:∀ i,i < k->fsN Fs k F5 i=Fs i:=fun i hi=>am (by omega);have f_new:fsN Fs k F5 k=F5:=aw rfl;have off:∀ (F:Nat->Prop) j,F j->(∀ j,F j->j < wr.heap.size)->o.ownBlock≠some j->o'.ownBlock≠some j:=fun F j hj hl hn e=>by
  rcases hq with q | ⟨x,q,hx⟩
  ·exact hn (by rw [← q];exact e)
  ·rw [q] at e
   injection e with e;have:=hl j hj
   omega
 refine ⟨own,by rw [cI,len];rfl,fun i hi=>?_,fun i hi=>?_,fun i m hi hm hne=>?_,h.old.aI.grown gr h.old.aI.size fun j e=>(ci h.old.own j e).1⟩
 ·by_cases e:i=k
  ·subst e
   rw [at_new,f_new];exact h.new.only (fun j hj e=>(h.nlo j hj).2 e) oq
  ·rw [at_old i (by omega),f_old i (by omega)]
   exact (h.old.each i (by omega)).only (fun j hj e=>(h.old.lo i (by omega) j hj).2 e) oq
 ·by_cases e:i=k
  ·subst e
   rw [f_new];exact fun j hj=>⟨(h.nlo j hj).1,off F5 j hj h.new.low (h.nlo j hj).2⟩
  ·rw [f_old i (by omega)]
   exact fun j hj=>⟨(h.old.lo i (by omega) j hj).1,off _ j hj (h.old.each i (by omega)).low (h.old.lo i (by omega) j hj).2⟩
 ·by_cases e:i=k
  ·subst e
   rw [f_new,f_old m (by omega)];exact fun j hj=>h.acS m (by omega) j hj
  ·by_cases e2:m=k
   ·subst e2
    rw [f_new,f_old i (by omega)];exact fun j hj q=>h.acS i (by omega) j q hj
   ·rw [f_old i (by omega),f_old m (by omega)]
    exact h.old.FQ i m (by omega) (by omega) hne
theorem PJ.low {w0:World} (h:PJ E w S k o ps Fs wr) (hz:w0.heap.size<=w.heap.size) (b:Below w0.heap.size w0 wr):PJ E w0 S k o ps Fs wr:=⟨h.own.low hz,h.len,h.each,fun i hi j hj=>⟨cE hz (h.lo i hi j hj).1,(h.lo i hi j hj).2⟩,h.FQ,b⟩
theorem PJ.stl (h:PJ E w S S.length o ps Fs wr):Cj wr o S:=⟨ps,h.own.rd,h.len,fun i hi=>⟨_,h.each i hi⟩⟩
end
def BrP (w:World) (E:Int) (S':bX) (e:Ending) (w':World):Prop:=∃ v ps Fs,e = .returned (.tuple #[v,.int .i64 E])/\(E=0->PJ 72 w S' S'.length v ps Fs w')/\(E≠0->v = .slice none 0 0)/\Below w.heap.size w w'
end Cu
namespace Wt
open Go.RowKit
attribute [local irreducible] Sd.bA wpQuiet
def rowP (r0 r1 s0 s1 n la:Int):Array Value:=#[.int .i64 r0,.int .i64 r1,.int .i64 s0,.int .i64 s1,.int .i64 n,.int .i64 la]
def fJ (w:World) (r:Nat) (r0 r1 s0 s1 n la:Int):Prop:=w.heap[r]? = some (.cells (rowP r0 r1 s0 s1 n la) 56 (0,0))
structure Vf (a:A) (s0 s1 n la:Int) (t:Nat):Prop where
 b0:0<=s0/\s0<=n
 b1:0<=s1/\s1<=n
 bl:0<=la/\la<=n
 bn:n<=t
 e0:a.r0=2\/a.r0=3->a.q0=n - (if s0 < la then la else s0)
 e1:a.r1=2\/a.r1=3->a.q1=n - (if s1 < la then la else s1)
def Pf (w:World) (r:Nat) (a:A) (t:Nat):Prop:=∃ s0 s1 n la,fJ w r a.r0 a.r1 s0 s1 n la/\Vf a s0 s1 n la t
variable {w w':World} {r t:Nat}
theorem fJ.only {r0 r1 s0 s1 n la:Int} {G:Nat->Prop} (h:fJ w r r0 r1 s0 s1 n la) (o:ay G w w') (hn:¬ G r):fJ w' r r0 r1 s0 s1 n la:=(o.block r (bm h) hn).trans h
theorem Pf.only {w w':World} {r t:Nat} {a:A} {G:Nat->Prop} (h:Pf w r a t) (o:ay G w w') (hn:¬ G r):Pf w' r a t:=by
 obtain ⟨s0,s1,n,la,hr,hv⟩:=h;exact ⟨s0,s1,n,la,hr.only o hn,hv⟩
theorem Pf.below {a:A} (h:Pf w r a t) (b:Below w.heap.size w w'):Pf w' r a t:=h.only (G:=fun _=>False) (ay.of_below b) (fun g=>g)
theorem Pf.lt {a:A} (h:Pf w r a t):r < w.heap.size:=by obtain ⟨_,_,_,_,hr,_⟩:=h;exact bm hr
section
variable {w:World} {r:Nat} {r0 r1 s0 s1 n la:Int} (h:fJ w r r0 r1 s0 s1 n la)
include h
theorem fJ.set0 (x:Int):fJ (w.setCell ⟨r,0,none⟩ (.int .i64 x)) r x r1 s0 s1 n la:=Rw.aB h _
theorem fJ.set1 (x:Int):fJ (w.setCell ⟨r,1,none⟩ (.int .i64 x)) r r0 x s0 s1 n la:=Rw.aB h _
theorem fJ.set2 (x:Int):fJ (w.setCell ⟨r,2,none⟩ (.int .i64 x)) r r0 r1 x s1 n la:=Rw.aB h _
theorem fJ.qJ (x:Int):fJ (w.setCell ⟨r,3,none⟩ (.int .i64 x)) r r0 r1 s0 x n la:=Rw.aB h _
theorem fJ.afw (x:Int):fJ (w.setCell ⟨r,4,none⟩ (.int .i64 x)) r r0 r1 s0 s1 x la:=Rw.aB h _
theorem fJ.Zt (x:Int):fJ (w.setCell ⟨r,5,none⟩ (.int .i64 x)) r r0 r1 s0 s1 n x:=Rw.aB h _
end
theorem aT (r k:Nat) (w:World) (u:Value):ay (fun b=>b=r) w (w.setCell ⟨r,k,none⟩ u):=ay.set (fun b=>b=r) w (a:=⟨r,k,none⟩) rfl u
theorem bR {w1 w2:World} (h:ay (fun b=>b=r) w w1) (g:ay (fun b=>b=r) w1 w2):ay (fun b=>b=r) w w2:=h.trans g fun _ _ q=>q
def MJ (w:World) (e:Ending) (w':World):Prop:=∃ r,e = .returned (.pointer (some ⟨r,0,none⟩))/\Pf w' r new 0/\w.heap.size<=r/\Below w.heap.size w w'
theorem UZ (w:World):Calls prog 25 #[] w (MJ w):=by
 have E:Hid (MJ w (.returned (.pointer (some ⟨w.heap.size,0,none⟩))) (w.alloc (.cells #[.int .i64 1,.int .i64 2,.int .i64 0,.int .i64 0,.int .i64 0,.int .i64 0] 56))):=Hh ⟨_,rfl,⟨0,0,0,0,bc w _,⟨by decide,by decide,by decide,by decide,fun _=>rfl,fun _=>rfl⟩⟩,ac _,(aa _ _).alloc (ac _) _⟩
 go_enter func25,ntmps25
 go_wp2
 go_ret
 exact E
def NM (s n la:Int):Int:=n - (if s < la then la else s)
variable {r0 r1 s0 s1 n la z0 z1:Int}
theorem ZU (h:fJ w r r0 r1 s0 s1 n la) (b:(0<=s0/\s0<=n)/\(0<=la/\la<=n)/\n<=100000):Calls prog 90 #[.pointer (some ⟨r,0,none⟩),.int .i64 0] w fun e w'=>e = .returned (.int .i64 (NM s0 n la))/\Below w.heap.size w w':=by
 have c0:=Fl.rc h 2;have c4:=Fl.rc h 4;have c5:=Fl.rc h 5;clear h
 by_cases q:s0 < la
 ·have w1:IntKind.i64.wrap (n - la)=n - la:=cG _ (by omega)
  have E:Hid (Ending.returned (.int .i64 (n - la)) = .returned (.int .i64 (NM s0 n la))):=Hh (by unfold NM;rw [aw q])
  go_enter func90,ntmps90
  go_wp2
  go_ret
  exact ⟨E,aa _ _⟩
 ·have w1:IntKind.i64.wrap (n - s0)=n - s0:=cG _ (by omega)
  have E:Hid (Ending.returned (.int .i64 (n - s0)) = .returned (.int .i64 (NM s0 n la))):=Hh (by unfold NM;rw [am q])
  go_enter func90,ntmps90
  go_wp2
  go_ret
  exact ⟨E,aa _ _⟩
theorem YS (h:fJ w r r0 r1 s0 s1 n la) (b:(0<=s1/\s1<=n)/\(0<=la/\la<=n)/\n<=100000):Calls prog 90 #[.pointer (some ⟨r,0,none⟩),.int .i64 1] w fun e w'=>e = .returned (.int .i64 (NM s1 n la))/\Below w.heap.size w w':=by
 have c0:=Fl.rc h 3;have c4:=Fl.rc h 4;have c5:=Fl.rc h 5;clear h
 by_cases q:s1 < la
 ·have w1:IntKind.i64.wrap (n - la)=n - la:=cG _ (by omega)
  have E:Hid (Ending.returned (.int .i64 (n - la)) = .returned (.int .i64 (NM s1 n la))):=Hh (by unfold NM;rw [aw q])
  go_enter func90,ntmps90
  go_wp2
  go_ret
  exact ⟨E,aa _ _⟩
 ·have w1:IntKind.i64.wrap (n - s1)=n - s1:=cG _ (by omega)
  have E:Hid (Ending.returned (.int .i64 (n - s1)) = .returned (.int .i64 (NM s1 n la))):=Hh (by unfold NM;rw [am q])
  go_enter func90,ntmps90
  go_wp2
  go_ret
  exact ⟨E,aa _ _⟩
def dH (w:World) (r:Nat) (x:Int) (a:A) (t:Nat) (e:Ending) (w':World):Prop:=e = .returned (.int .i64 x)/\Pf w' r a t/\ay (fun b=>b=r) w w'
variable {a:A}
theorem aaC (P:Pf w r a t):Calls prog 40 #[.pointer (some ⟨r,0,none⟩),.int .i64 0] w (dH w r (qN a 0) (lJ a 0) t):=by
 obtain ⟨s0,s1,n,la,hr,hv⟩:=P;have e1:qN a 0=if a.r0=4 then 10 else 0:=rfl;have e2:lJ a 0 = { a with r0:=4 }:=rfl;have c0:=Fl.rc hr 0;have f0:=aj hr 0
 by_cases q:a.r0=4
 ·have E:Hid (dH w r (qN a 0) (lJ a 0) t (.returned (.int .i64 10)) w):=Hh ⟨by rw [e1,aw q],by rw [e2];exact ⟨s0,s1,n,la,by rw [q] at hr;exact hr,⟨hv.b0,hv.b1,hv.bl,hv.bn,(fun g=>absurd g (by show ¬ ((4:Int)=2\/(4:Int)=3);decide)),hv.e1⟩⟩,ay.refl _ _⟩
  rw [q] at c0;clear hr hv e1 e2;generalize qN a 0=x at *;generalize lJ a 0=a' at *
  go_enter func40,ntmps40
  go_wp2
  go_ret
  exact E
 ·have E:Hid (dH w r (qN a 0) (lJ a 0) t (.returned (.int .i64 0)) (w.setCell ⟨r,0,none⟩ (.int .i64 4))):=Hh ⟨by rw [e1,am q],by rw [e2];exact ⟨s0,s1,n,la,hr.set0 4,⟨hv.b0,hv.b1,hv.bl,hv.bn,(fun g=>absurd g (by show ¬ ((4:Int)=2\/(4:Int)=3);decide)),hv.e1⟩⟩,aT r 0 w _⟩
  clear hr hv e1 e2;generalize qN a 0=x' at *;generalize lJ a 0=a' at *;generalize a.r0=x at *
  go_enter func40,ntmps40
  go_wp2
  go_ret
  exact E
theorem Zs (P:Pf w r a t):Calls prog 40 #[.pointer (some ⟨r,0,none⟩),.int .i64 1] w (dH w r (qN a 1) (lJ a 1) t):=by
 obtain ⟨s0,s1,n,la,hr,hv⟩:=P;have e1:qN a 1=if a.r1=4 then 10 else 0:=rfl;have e2:lJ a 1 = { a with r1:=4 }:=rfl;have c0:=Fl.rc hr 1;have f0:=aj hr 1
 by_cases q:a.r1=4
 ·have E:Hid (dH w r (qN a 1) (lJ a 1) t (.returned (.int .i64 10)) w):=Hh ⟨by rw [e1,aw q],by rw [e2];exact ⟨s0,s1,n,la,by rw [q] at hr;exact hr,⟨hv.b0,hv.b1,hv.bl,hv.bn,hv.e0,(fun g=>absurd g (by show ¬ ((4:Int)=2\/(4:Int)=3);decide))⟩⟩,ay.refl _ _⟩
  rw [q] at c0;clear hr hv e1 e2;generalize qN a 1=x at *;generalize lJ a 1=a' at *
  go_enter func40,ntmps40
  go_wp2
  go_ret
  exact E
 ·have E:Hid (dH w r (qN a 1) (lJ a 1) t (.returned (.int .i64 0)) (w.setCell ⟨r,1,none⟩ (.int .i64 4))):=Hh ⟨by rw [e1,am q],by rw [e2];exact ⟨s0,s1,n,la,hr.set1 4,⟨hv.b0,hv.b1,hv.bl,hv.bn,hv.e0,(fun g=>absurd g (by show ¬ ((4:Int)=2\/(4:Int)=3);decide))⟩⟩,aT r 1 w _⟩
  clear hr hv e1 e2;generalize qN a 1=x' at *;generalize lJ a 1=a' at *;generalize a.r1=x at *
  go_enter func40,ntmps40
  go_wp2
  go_ret
  exact E
theorem AU (P:Pf w r a t) (n:Int):Calls prog 40 #[.pointer (some ⟨r,0,none⟩),.int .i64 n] w (dH w r (qN a n) (lJ a n) t):=by
 by_cases h0:n=0
 ·subst h0;exact aaC P
 ·by_cases h1:n=1
  ·subst h1;exact Zs P
  ·have E:Hid (dH w r (qN a n) (lJ a n) t (.returned (.int .i64 1)) w):=Hh ⟨by unfold qN;rw [am h0,am h1],by unfold lJ;rw [am h0,am h1];exact P,ay.refl _ _⟩
   clear P;have q0:=fe.2 h0;have q1:=fe.2 h1
   go_enter func40,ntmps40
   go_wp2
   go_ret
   exact E
theorem Qx (P:Pf w r a t):Calls prog 41 #[.pointer (some ⟨r,0,none⟩),.int .i64 0] w (dH w r (rsE a 0) (lI a 0) t):=by
 obtain ⟨s0,s1,n,la,hr,hv⟩:=P;have e1:rsE a 0=if a.r0=4 then 0 else 10:=rfl;have e2:lI a 0=if a.r0=4 then { a with r0:=3,q0:=0 } else a:=rfl;have c0:=Fl.rc hr 0
 by_cases q:a.r0=4
 ·have FIN:Hid (∀ w',ay (fun b=>b=r) w w'->fJ w' r a.r0 a.r1 s0 s1 n la->dH w r (rsE a 0) (lI a 0) t (.returned (.int .i64 0)) ((w'.setCell ⟨r,0,none⟩ (.int .i64 3)).setCell ⟨r,2,none⟩ (.int .i64 n))):=Hh (fun w' oo hh=>⟨by rw [e1,aw q],by
   rw [e2,aw q]
   exact ⟨n,s1,n,la,(hh.set0 3).set2 n,⟨⟨by have:=hv.bl;omega,gc _⟩,hv.b1,hv.bl,hv.bn,(fun _=>by show (0:Int)=n - (if n < la then la else n);have:=hv.bl;rw [am (by omega)];omega),hv.e1⟩⟩,bR oo (bR (aT r 0 w' _) (aT r 2 _ _))⟩)
  have OO:Hid (ay (fun b=>b=r) w w.drew):=Hh (ay.of_below (aa _ _).drew);have HH:=Hh hr;rw [q] at c0;have D4:=Hh q;clear hr hv q e1 e2;generalize rsE a 0=x' at *;generalize lI a 0=a' at *
  go_enter func41,ntmps41
  go_upto_region 5 with fail;clear c0;have E:=Hh (FIN _ OO HH);have R0:fJ w.drew r a.r0 a.r1 s0 s1 n la:=HH;have c4:=Sc.aA (C:=fun W=>W.cell? ⟨r,4,none⟩=some (.int .i64 n)) (a:=⟨r,4,none⟩) (fun W h=>h);have C0:=Fl.rc R0 4;have ne:Nonempty (Sc.In (fun W=>W.cell? ⟨r,4,none⟩=some (.int .i64 n))):=⟨⟨_,C0⟩⟩;clear FIN OO HH;refine Sc.start (fun W=>W.cell? ⟨r,4,none⟩=some (.int .i64 n)) [(false,0),(false,1),(false,2),(false,3),(false,4),(false,5),(false,6),(false,7),(false,8),(false,9),(false,10),(false,12),(false,13),(true,11),(false,14),(true,15)] (by kernel_rfl) (by kernel_rfl) (by kernel_rfl) C0 ?_;dsimp only [Sd.aP,List.getElem?_cons_succ,List.getElem?_cons_zero]
  repeat (refine Sd.lit ?_;quiet_step (fail);refine bk ?_)
  clear c4;generalize w.drew=W at *;refine Sd.call (by rfl) (fun K hK=>?_);have d0:=Fl.rc R0 0;have g0:=aj R0 0;have R1:Hid (fJ (W.setCell ⟨r,0,none⟩ (.int .i64 3)) r 3 a.r1 s0 s1 n la):=Hh (R0.set0 3);clear R0 C0;generalize a.r0=x at *;go_simp;refine hK _ _ (Sc.Cl.of (ah R1 4)) ?_;clear hK K d0 g0;generalize W.setCell ⟨r,0,none⟩ (.int .i64 3)=W1 at *
  repeat (refine Sd.lit ?_;quiet_step (fail);refine bk ?_)
  refine Sd.call (by rfl) (fun K hK=>?_);have d0:=Fl.rc R1 2;have g0:=aj R1 2;have R2:=Hh (R1.set2 n);clear R1;go_simp;refine hK _ _ (Sc.Cl.of (ah R2 4)) ?_;clear hK K d0 g0 R2;generalize W1.setCell ⟨r,2,none⟩ (.int .i64 n)=W2 at *;refine Sd.done ?_;go_wp2
  go_ret
  exact E
 ·have E:Hid (dH w r (rsE a 0) (lI a 0) t (.returned (.int .i64 10)) w):=Hh ⟨by rw [e1,am q],by rw [e2,am q];exact ⟨s0,s1,n,la,hr,hv⟩,ay.refl _ _⟩
  clear hr hv e1 e2;generalize rsE a 0=x' at *;generalize lI a 0=a' at *;generalize a.r0=x at *
  go_enter func41,ntmps41
  go_wp2
  go_ret
  exact E
theorem Rl (P:Pf w r a t):Calls prog 41 #[.pointer (some ⟨r,0,none⟩),.int .i64 1] w (dH w r (rsE a 1) (lI a 1) t):=by
 obtain ⟨s0,s1,n,la,hr,hv⟩:=P;have e1:rsE a 1=if a.r1=4 then 0 else 10:=rfl;have e2:lI a 1=if a.r1=4 then { a with r1:=3,q1:=0 } else a:=rfl;have c0:=Fl.rc hr 1
 by_cases q:a.r1=4
 ·have FIN:Hid (∀ w',ay (fun b=>b=r) w w'->fJ w' r a.r0 a.r1 s0 s1 n la->dH w r (rsE a 1) (lI a 1) t (.returned (.int .i64 0)) ((w'.setCell ⟨r,1,none⟩ (.int .i64 3)).setCell ⟨r,3,none⟩ (.int .i64 n))):=Hh (fun w' oo hh=>⟨by rw [e1,aw q],by
   rw [e2,aw q]
   exact ⟨s0,n,n,la,(hh.set1 3).qJ n,⟨hv.b0,⟨by have:=hv.bl;omega,gc _⟩,hv.bl,hv.bn,hv.e0,(fun _=>by show (0:Int)=n - (if n < la then la else n);have:=hv.bl;rw [am (by omega)];omega)⟩⟩,bR oo (bR (aT r 1 w' _) (aT r 3 _ _))⟩)
  have OO:Hid (ay (fun b=>b=r) w w.drew):=Hh (ay.of_below (aa _ _).drew);have HH:=Hh hr;rw [q] at c0;have D4:=Hh q;clear hr hv q e1 e2;generalize rsE a 1=x' at *;generalize lI a 1=a' at *
  go_enter func41,ntmps41
  go_upto_region 5 with fail;clear c0;have E:=Hh (FIN _ OO HH);have R0:fJ w.drew r a.r0 a.r1 s0 s1 n la:=HH;have c4:=Sc.aA (C:=fun W=>W.cell? ⟨r,4,none⟩=some (.int .i64 n)) (a:=⟨r,4,none⟩) (fun W h=>h);have C0:=Fl.rc R0 4;have ne:Nonempty (Sc.In (fun W=>W.cell? ⟨r,4,none⟩=some (.int .i64 n))):=⟨⟨_,C0⟩⟩;clear FIN OO HH;refine Sc.start (fun W=>W.cell? ⟨r,4,none⟩=some (.int .i64 n)) [(false,0),(false,1),(false,2),(false,3),(false,4),(false,5),(false,6),(false,7),(false,8),(false,9),(false,10),(false,12),(false,13),(true,11),(false,14),(true,15)] (by kernel_rfl) (by kernel_rfl) (by kernel_rfl) C0 ?_;dsimp only [Sd.aP,List.getElem?_cons_succ,List.getElem?_cons_zero]
  repeat (refine Sd.lit ?_;quiet_step (fail);refine bk ?_)
  clear c4;generalize w.drew=W at *;refine Sd.call (by rfl) (fun K hK=>?_);have d0:=Fl.rc R0 1;have g0:=aj R0 1;have R1:Hid (fJ (W.setCell ⟨r,1,none⟩ (.int .i64 3)) r a.r0 3 s0 s1 n la):=Hh (R0.set1 3);clear R0 C0;generalize a.r1=x at *;go_simp;refine hK _ _ (Sc.Cl.of (ah R1 4)) ?_;clear hK K d0 g0;generalize W.setCell ⟨r,1,none⟩ (.int .i64 3)=W1 at *
  repeat (refine Sd.lit ?_;quiet_step (fail);refine bk ?_)
  refine Sd.call (by rfl) (fun K hK=>?_);have d0:=Fl.rc R1 3;have g0:=aj R1 3;have R2:=Hh (R1.qJ n);clear R1;go_simp;refine hK _ _ (Sc.Cl.of (ah R2 4)) ?_;clear hK K d0 g0 R2;generalize W1.setCell ⟨r,3,none⟩ (.int .i64 n)=W2 at *;refine Sd.done ?_;go_wp2
  go_ret
  exact E
 ·have E:Hid (dH w r (rsE a 1) (lI a 1) t (.returned (.int .i64 10)) w):=Hh ⟨by rw [e1,am q],by rw [e2,am q];exact ⟨s0,s1,n,la,hr,hv⟩,ay.refl _ _⟩
  clear hr hv e1 e2;generalize rsE a 1=x' at *;generalize lI a 1=a' at *;generalize a.r1=x at *
  go_enter func41,ntmps41
  go_wp2
  go_ret
  exact E
theorem tL (P:Pf w r a t) (n:Int):Calls prog 41 #[.pointer (some ⟨r,0,none⟩),.int .i64 n] w (dH w r (rsE a n) (lI a n) t):=by
 by_cases h0:n=0
 ·subst h0;exact Qx P
 ·by_cases h1:n=1
  ·subst h1;exact Rl P
  ·have E:Hid (dH w r (rsE a n) (lI a n) t (.returned (.int .i64 1)) w):=Hh ⟨by unfold rsE;rw [am h0,am h1],by unfold lI;rw [am h0,am h1];exact P,ay.refl _ _⟩
   clear P;have q0:=fe.2 h0;have q1:=fe.2 h1
   go_enter func41,ntmps41
   go_wp2
   go_ret
   exact E
def afA (r0 z0 r1 z1:Int):Array Value:=#[.int .i64 r0,.int .i64 z0,.int .i64 r1,.int .i64 z1]
def eY (w:World) (s:Nat) (r0 z0 r1 z1:Int):Prop:=w.heap[s]? = some (.cells (afA r0 z0 r1 z1) 107 (0,0))
theorem eY.only {s:Nat} {G:Nat->Prop} (h:eY w s r0 z0 r1 z1) (o:ay G w w') (hn:¬ G s):eY w' s r0 z0 r1 z1:=(o.block s (bm h) hn).trans h
section
variable {w:World} {s:Nat} {r0 z0 r1 z1:Int} (h:eY w s r0 z0 r1 z1)
include h
theorem eY.below (b:Below w.heap.size w w'):eY w' s r0 z0 r1 z1:=h.only (G:=fun _=>False) (ay.of_below b) (fun g=>g)
theorem eY.set0 (x:Int):eY (w.setCell ⟨s,0,none⟩ (.int .i64 x)) s x z0 r1 z1:=Rw.aB h _
theorem eY.set1 (x:Int):eY (w.setCell ⟨s,1,none⟩ (.int .i64 x)) s r0 x r1 z1:=Rw.aB h _
theorem eY.set2 (x:Int):eY (w.setCell ⟨s,2,none⟩ (.int .i64 x)) s r0 z0 x z1:=Rw.aB h _
theorem eY.qJ (x:Int):eY (w.setCell ⟨s,3,none⟩ (.int .i64 x)) s r0 z0 r1 x:=Rw.aB h _
end
structure Vm (a:A) (z0 z1:Int) (t:Nat):Prop where
 b0:0<=z0/\z0<=t
 b1:0<=z1/\z1<=t
 e0:a.r0=2\/a.r0=3->a.q0=z0
 e1:a.r1=2\/a.r1=3->a.q1=z1
def Pr (w:World) (s:Nat) (a:A) (t:Nat):Prop:=∃ z0 z1,eY w s a.r0 z0 a.r1 z1/\Vm a z0 z1 t
theorem Pr.only {w w':World} {s t:Nat} {a:A} {G:Nat->Prop} (h:Pr w s a t) (o:ay G w w') (hn:¬ G s):Pr w' s a t:=by
 obtain ⟨z0,z1,hr,hv⟩:=h;exact ⟨z0,z1,hr.only o hn,hv⟩
variable {s:Nat}
theorem Pr.lt (h:Pr w s a t):s < w.heap.size:=by obtain ⟨_,_,hr,_⟩:=h;exact bm hr
def Al (w:World) (e:Ending) (w':World):Prop:=∃ s,e = .returned (.pointer (some ⟨s,0,none⟩))/\Pr w' s new 0/\w.heap.size<=s/\Below w.heap.size w w'
def bF (w:World) (s:Nat) (x:Int) (a:A) (t:Nat) (e:Ending) (w':World):Prop:=e = .returned (.int .i64 x)/\Pr w' s a t/\ay (fun b=>b=s) w w'
theorem sP (w:World):Calls prog 22 #[] w (Al w):=by
 have E:Hid (Al w (.returned (.pointer (some ⟨w.heap.size,0,none⟩))) (w.alloc (.cells #[.int .i64 1,.int .i64 0,.int .i64 2,.int .i64 0] 107))):=Hh ⟨_,rfl,⟨0,0,bc w _,⟨by decide,by decide,fun _=>rfl,fun _=>rfl⟩⟩,ac _,(aa _ _).alloc (ac _) _⟩
 go_enter func22,ntmps22
 go_wp2
 go_ret
 exact E
def hs (n:Int):Bool:=decide (0<=n) && decide (n < 2)
theorem gP (w:World) (s:Nat) (n:Int):Calls prog 72 #[.pointer (some ⟨s,0,none⟩),.int .i64 n] w fun e w'=>e = .returned (.bool (hs n))/\Below w.heap.size w w':=by
 have E:Hid (hs n=(decide (0<=n) && decide (n < 2))):=Hh rfl;generalize hs n=b at *
 by_cases h0:0<=n
 ·by_cases h2:n < 2
  ·obtain rfl:b=true:=by rw [E.out];simp [h0,h2]
   clear E
   go_enter func72,ntmps72
   go_wp2
   go_ret
   exact ⟨rfl,aa _ _⟩
  ·obtain rfl:b=false:=by rw [E.out];simp [h2]
   clear E
   go_enter func72,ntmps72
   go_wp2
   go_ret
   exact ⟨rfl,aa _ _⟩
 ·obtain rfl:b=false:=by rw [E.out];simp [h0]
  clear E
  go_enter func72,ntmps72
  go_wp2
  go_ret
  exact ⟨rfl,aa _ _⟩
theorem US (h0:n≠0) (h1:n≠1):hs n=false:=by
 unfold hs
 by_cases a:0<=n
 ·have:¬ n < 2:=by omega
  simp [this]
 ·simp [a]
theorem adq (P:Pr w s a t):Calls prog 62 #[.pointer (some ⟨s,0,none⟩),.int .i64 0] w (bF w s (qN a 0) (lJ a 0) t):=by
 obtain ⟨z0,z1,hr,hv⟩:=P;have H:=Hh (gP w s 0);rw [show hs 0=true from rfl] at H;have e1:qN a 0=if a.r0=4 then 10 else 0:=rfl;have e2:lJ a 0 = { a with r0:=4 }:=rfl
 by_cases q:a.r0=4
 ·have E:Hid (∀ w',Below w.heap.size w w'->bF w s (qN a 0) (lJ a 0) t (.returned (.int .i64 10)) w'):=Hh fun w' b=>⟨by rw [e1,aw q],by rw [e2];exact ⟨z0,z1,by have:=hr.below b;rw [q] at this;exact this,⟨hv.b0,hv.b1,(fun g=>absurd g (by show ¬ ((4:Int)=2\/(4:Int)=3);decide)),hv.e1⟩⟩,ay.of_below b⟩
  have R:=Hh hr;rw [q] at R;clear hr hv e1 e2;generalize qN a 0=x at *;generalize lJ a 0=a' at *
  go_enter func62,ntmps62
  go_wp2_with fail;refine H.mono ?_;rintro e w1 ⟨rfl,b1⟩;have c0:=Fl.rc (R.below b1) 0;have F:=Hh (E w1 b1);clear R H E b1 q;go_wp2
  go_ret
  exact F
 ·have E:Hid (∀ w',Below w.heap.size w w'->bF w s (qN a 0) (lJ a 0) t (.returned (.int .i64 0)) ((w'.setCell ⟨s,0,none⟩ (.int .i64 4)).setCell ⟨s,1,none⟩ (.int .i64 0))):=Hh fun w' b=>⟨by rw [e1,am q],by rw [e2];exact ⟨0,z1,((hr.below b).set0 4).set1 0,⟨⟨by decide,by omega⟩,hv.b1,(fun g=>absurd g (by show ¬ ((4:Int)=2\/(4:Int)=3);decide)),hv.e1⟩⟩,((ay.of_below b).trans (aT s 0 _ _) (fun _ _ q=>q)).trans (aT s 1 _ _) (fun _ _ q=>q)⟩
  have R:=Hh hr;clear hr hv e1 e2;generalize qN a 0=x' at *;generalize lJ a 0=a' at *;generalize a.r0=x0 at *;generalize a.r1=x1 at *
  go_enter func62,ntmps62
  go_wp2_with fail;refine H.mono ?_;rintro e w1 ⟨rfl,b1⟩;have c0:=Fl.rc (R.below b1) 0;have f0:=aj (R.below b1) 0;have f1:=aj (R.below b1) 1;have c1:=Fl.rc (R.below b1) 1;have F:=Hh (E w1 b1);clear R H E b1;go_wp2
  go_ret
  exact F
theorem acN (P:Pr w s a t):Calls prog 62 #[.pointer (some ⟨s,0,none⟩),.int .i64 1] w (bF w s (qN a 1) (lJ a 1) t):=by
 obtain ⟨z0,z1,hr,hv⟩:=P;have H:=Hh (gP w s 1);rw [show hs 1=true from rfl] at H;have e1:qN a 1=if a.r1=4 then 10 else 0:=rfl;have e2:lJ a 1 = { a with r1:=4 }:=rfl
 by_cases q:a.r1=4
 ·have E:Hid (∀ w',Below w.heap.size w w'->bF w s (qN a 1) (lJ a 1) t (.returned (.int .i64 10)) w'):=Hh fun w' b=>⟨by rw [e1,aw q],by rw [e2];exact ⟨z0,z1,by have:=hr.below b;rw [q] at this;exact this,⟨hv.b0,hv.b1,hv.e0,(fun g=>absurd g (by show ¬ ((4:Int)=2\/(4:Int)=3);decide))⟩⟩,ay.of_below b⟩
  have R:=Hh hr;rw [q] at R;clear hr hv e1 e2;generalize qN a 1=x at *;generalize lJ a 1=a' at *
  go_enter func62,ntmps62
  go_wp2_with fail;refine H.mono ?_;rintro e w1 ⟨rfl,b1⟩;have c0:=Fl.rc (R.below b1) 2;have F:=Hh (E w1 b1);clear R H E b1 q;go_wp2
  go_ret
  exact F
 ·have E:Hid (∀ w',Below w.heap.size w w'->bF w s (qN a 1) (lJ a 1) t (.returned (.int .i64 0)) ((w'.setCell ⟨s,2,none⟩ (.int .i64 4)).setCell ⟨s,3,none⟩ (.int .i64 0))):=Hh fun w' b=>⟨by rw [e1,am q],by rw [e2];exact ⟨z0,0,((hr.below b).set2 4).qJ 0,⟨hv.b0,⟨by decide,by omega⟩,hv.e0,(fun g=>absurd g (by show ¬ ((4:Int)=2\/(4:Int)=3);decide))⟩⟩,((ay.of_below b).trans (aT s 2 _ _) (fun _ _ q=>q)).trans (aT s 3 _ _) (fun _ _ q=>q)⟩
  have R:=Hh hr;clear hr hv e1 e2;generalize qN a 1=x' at *;generalize lJ a 1=a' at *;generalize a.r0=x0 at *;generalize a.r1=x1 at *
  go_enter func62,ntmps62
  go_wp2_with fail;refine H.mono ?_;rintro e w1 ⟨rfl,b1⟩;have c0:=Fl.rc (R.below b1) 2;have f0:=aj (R.below b1) 2;have f1:=aj (R.below b1) 3;have c1:=Fl.rc (R.below b1) 3;have F:=Hh (E w1 b1);clear R H E b1;go_wp2
  go_ret
  exact F
theorem Ra (P:Pr w s a t) (n:Int):Calls prog 62 #[.pointer (some ⟨s,0,none⟩),.int .i64 n] w (bF w s (qN a n) (lJ a n) t):=by
 by_cases h0:n=0
 ·subst h0;exact adq P
 ·by_cases h1:n=1
  ·subst h1;exact acN P
  ·have E:Hid (∀ w',Below w.heap.size w w'->bF w s (qN a n) (lJ a n) t (.returned (.int .i64 1)) w'):=Hh fun w' b=>⟨by unfold qN;rw [am h0,am h1],by unfold lJ;rw [am h0,am h1];exact P.only (G:=fun _=>False) (ay.of_below b) (fun g=>g),ay.of_below b⟩
   have H:=Hh (gP w s n);rw [US h0 h1] at H;clear P h0 h1
   go_enter func62,ntmps62
   go_wp2_with fail;refine H.mono ?_;rintro e w1 ⟨rfl,b1⟩;have F:=Hh (E w1 b1);clear H E b1;go_wp2
   go_ret
   exact F
theorem Xq (P:Pr w s a t):Calls prog 63 #[.pointer (some ⟨s,0,none⟩),.int .i64 0] w (bF w s (rsE a 0) (lI a 0) t):=by
 obtain ⟨z0,z1,hr,hv⟩:=P;have H:=Hh (gP w s 0);rw [show hs 0=true from rfl] at H;have e1:rsE a 0=if a.r0=4 then 0 else 10:=rfl;have e2:lI a 0=if a.r0=4 then { a with r0:=3,q0:=0 } else a:=rfl
 by_cases q:a.r0=4
 ·have E:Hid (∀ w',Below w.heap.size w w'->bF w s (rsE a 0) (lI a 0) t (.returned (.int .i64 0)) ((w'.setCell ⟨s,0,none⟩ (.int .i64 3)).setCell ⟨s,1,none⟩ (.int .i64 0))):=Hh fun w' b=>⟨by rw [e1,aw q],by rw [e2,aw q];exact ⟨0,z1,((hr.below b).set0 3).set1 0,⟨⟨by decide,by omega⟩,hv.b1,(fun _=>rfl),hv.e1⟩⟩,((ay.of_below b).trans (aT s 0 _ _) (fun _ _ q=>q)).trans (aT s 1 _ _) (fun _ _ q=>q)⟩
  have R:=Hh hr;rw [q] at R;clear hr hv e1 e2;generalize rsE a 0=x at *;generalize lI a 0=a' at *
  go_enter func63,ntmps63
  go_wp2_with fail;refine H.mono ?_;rintro e w1 ⟨rfl,b1⟩;have c0:=Fl.rc (R.below b1) 0;have f0:=aj (R.below b1) 0;have f1:=aj (R.below b1) 1;have c1:=Fl.rc (R.below b1) 1;have F:=Hh (E w1 b1);clear R H E b1 q;go_wp2
  go_ret
  exact F
 ·have E:Hid (∀ w',Below w.heap.size w w'->bF w s (rsE a 0) (lI a 0) t (.returned (.int .i64 10)) w'):=Hh fun w' b=>⟨by rw [e1,am q],by rw [e2,am q];exact ⟨z0,z1,hr.below b,hv⟩,ay.of_below b⟩
  have R:=Hh hr;have q4:=fe.2 q;clear hr hv e1 e2 q;generalize rsE a 0=x' at *;generalize lI a 0=a' at *;generalize a.r0=x0 at *;generalize a.r1=x1 at *
  go_enter func63,ntmps63
  go_wp2_with fail;refine H.mono ?_;rintro e w1 ⟨rfl,b1⟩;have c0:=Fl.rc (R.below b1) 0;have F:=Hh (E w1 b1);clear R H E b1;go_wp2
  go_ret
  exact F
theorem Uo (P:Pr w s a t):Calls prog 63 #[.pointer (some ⟨s,0,none⟩),.int .i64 1] w (bF w s (rsE a 1) (lI a 1) t):=by
 obtain ⟨z0,z1,hr,hv⟩:=P;have H:=Hh (gP w s 1);rw [show hs 1=true from rfl] at H;have e1:rsE a 1=if a.r1=4 then 0 else 10:=rfl;have e2:lI a 1=if a.r1=4 then { a with r1:=3,q1:=0 } else a:=rfl
 by_cases q:a.r1=4
 ·have E:Hid (∀ w',Below w.heap.size w w'->bF w s (rsE a 1) (lI a 1) t (.returned (.int .i64 0)) ((w'.setCell ⟨s,2,none⟩ (.int .i64 3)).setCell ⟨s,3,none⟩ (.int .i64 0))):=Hh fun w' b=>⟨by rw [e1,aw q],by rw [e2,aw q];exact ⟨z0,0,((hr.below b).set2 3).qJ 0,⟨hv.b0,⟨by decide,by omega⟩,hv.e0,(fun _=>rfl)⟩⟩,((ay.of_below b).trans (aT s 2 _ _) (fun _ _ q=>q)).trans (aT s 3 _ _) (fun _ _ q=>q)⟩
  have R:=Hh hr;rw [q] at R;clear hr hv e1 e2;generalize rsE a 1=x at *;generalize lI a 1=a' at *
  go_enter func63,ntmps63
  go_wp2_with fail;refine H.mono ?_;rintro e w1 ⟨rfl,b1⟩;have c0:=Fl.rc (R.below b1) 2;have f0:=aj (R.below b1) 2;have f1:=aj (R.below b1) 3;have c1:=Fl.rc (R.below b1) 3;have F:=Hh (E w1 b1);clear R H E b1 q;go_wp2
  go_ret
  exact F
 ·have E:Hid (∀ w',Below w.heap.size w w'->bF w s (rsE a 1) (lI a 1) t (.returned (.int .i64 10)) w'):=Hh fun w' b=>⟨by rw [e1,am q],by rw [e2,am q];exact ⟨z0,z1,hr.below b,hv⟩,ay.of_below b⟩
  have R:=Hh hr;have q4:=fe.2 q;clear hr hv e1 e2 q;generalize rsE a 1=x' at *;generalize lI a 1=a' at *;generalize a.r0=x0 at *;generalize a.r1=x1 at *
  go_enter func63,ntmps63
  go_wp2_with fail;refine H.mono ?_;rintro e w1 ⟨rfl,b1⟩;have c0:=Fl.rc (R.below b1) 2;have F:=Hh (E w1 b1);clear R H E b1;go_wp2
  go_ret
  exact F
theorem GQ (P:Pr w s a t) (n:Int):Calls prog 63 #[.pointer (some ⟨s,0,none⟩),.int .i64 n] w (bF w s (rsE a n) (lI a n) t):=by
 by_cases h0:n=0
 ·subst h0;exact Xq P
 ·by_cases h1:n=1
  ·subst h1;exact Uo P
  ·have E:Hid (∀ w',Below w.heap.size w w'->bF w s (rsE a n) (lI a n) t (.returned (.int .i64 1)) w'):=Hh fun w' b=>⟨by unfold rsE;rw [am h0,am h1],by unfold lI;rw [am h0,am h1];exact P.only (G:=fun _=>False) (ay.of_below b) (fun g=>g),ay.of_below b⟩
   have H:=Hh (gP w s n);rw [US h0 h1] at H;clear P h0 h1
   go_enter func63,ntmps63
   go_wp2_with fail;refine H.mono ?_;rintro e w1 ⟨rfl,b1⟩;have F:=Hh (E w1 b1);clear H E b1;go_wp2
   go_ret
   exact F
theorem Nk {x:Int} (k:Nat) (hk:k < 2) (c:∀ w',Below w.heap.size w w'->w'.cell? ⟨s,2 * k,none⟩=some (.int .i64 x)):Calls prog 43 #[.pointer (some ⟨s,0,none⟩),.int .i64 (k:Int)] w fun e w'=>e = .returned (.int .i64 x)/\Below w.heap.size w w':=by
 have H:=Hh (gP w s k)
 rcases (by omega:k=0\/k=1) with rfl | rfl
 ·rw [show hs ((0:Nat):Int)=true from rfl] at H
  go_enter func43,ntmps43
  go_wp2_with fail;refine H.mono ?_;rintro e w1 ⟨rfl,b1⟩;have c0:=c w1 b1;have B1:=Hh b1;clear H b1 c;go_wp2
  go_ret
  exact ⟨rfl,B1⟩
 ·rw [show hs ((1:Nat):Int)=true from rfl] at H
  go_enter func43,ntmps43
  go_wp2_with fail;refine H.mono ?_;rintro e w1 ⟨rfl,b1⟩;have c0:=c w1 b1;have B1:=Hh b1;clear H b1 c;go_wp2
  go_ret
  exact ⟨rfl,B1⟩
theorem Yl (P:Pr w s a t) (n:Int):Calls prog 43 #[.pointer (some ⟨s,0,none⟩),.int .i64 n] w fun e w'=>e = .returned (.int .i64 (rl a n))/\Below w.heap.size w w':=by
 obtain ⟨z0,z1,hr,hv⟩:=P
 by_cases h0:n=0
 ·subst h0
  exact Nk 0 (by decide) fun w' b=>ah (hr.below b) 0
 ·by_cases h1:n=1
  ·subst h1
   exact Nk 1 (by decide) fun w' b=>ah (hr.below b) 2
  ·have H:=Hh (gP w s n)
   rw [US h0 h1] at H;have E:Hid (rl a n=0):=Hh (by unfold rl;rw [am h0,am h1]);clear hr hv h0 h1;generalize rl a n=x at *;obtain rfl:=E.out;clear E
   go_enter func43,ntmps43
   go_wp2_with fail;refine H.mono ?_;rintro e w1 ⟨rfl,b1⟩;have B1:=Hh b1;clear H b1;go_wp2
   go_ret
   exact ⟨rfl,B1⟩
def du (r z n:Int):Bool:=(decide (r=2) && decide (4<=z)) || (decide (r=3) && decide (8+n<=z))
theorem NJ (w:World) (r z n:Int) (hn:0<=n/\n<=1):Calls prog 109 #[.agg #[.int .i64 r,.int .i64 z],.int .i64 n] w fun e w'=>e = .returned (.bool (du r z n))/\Below w.heap.size w w':=by
 have E:Hid (du r z n=((decide (r=2) && decide (4<=z)) || (decide (r=3) && decide (8+n<=z)))):=Hh rfl;have w8:IntKind.i64.wrap (8+n)=8+n:=cG _ (by omega);have B:Hid (Below w.heap.size w (w.alloc (.cells #[.int .i64 r,.int .i64 z] 104))):=Hh ((aa _ _).alloc (ac _) _);generalize du r z n=b at *
 by_cases h2:r=2
 ·subst h2
  obtain rfl:b=decide (4<=z):=by rw [E.out];simp
  clear E
  go_enter func109,ntmps109
  go_wp2
  go_ret
  exact ⟨rfl,B⟩
 ·by_cases h3:r=3
  ·subst h3
   obtain rfl:b=decide (8+n<=z):=by rw [E.out];simp
   clear E h2
   go_enter func109,ntmps109
   go_wp2
   go_ret
   exact ⟨rfl,B⟩
  ·obtain rfl:b=false:=by rw [E.out];simp [h2,h3]
   have q2:=cx.2 h2;have q3:=cx.2 h3;clear E h2 h3
   go_enter func109,ntmps109
   go_wp2
   go_ret
   exact ⟨rfl,B⟩
end Wt
namespace Cu
open Go.RowKit Go.Maps
structure Nd where
 s:Nat
 live:Bool
 rate:Int
def ndD:Nd:=⟨0,false,0⟩
def KD:Rw.Kind Nd:=⟨fun x=>[ptr x.s,.bool x.live,.int .i64 x.rate],3,by decide,fun _=>rfl,fun _ u h=>by simp [ptr] at h;rcases h with rfl | rfl | rfl <;> rfl,ndD⟩
def iC (L:List Nd) (i:Nat):Nd:=L.getD i ndD
theorem aeg:(prog.info? 74).map (fun i=>(i.zero,i.size,i.bytes))=some (some (.agg #[.pointer none,.bool false,.int .i64 0]),3,24):=by kernel_rfl
variable {b off i:Nat} {L:List Nd}
theorem atD {w:World} (h:At KD w b off L) (hi:i < L.length):w.cell? ⟨b,off+i * 3,none⟩=some (ptr (iC L i).s)/\w.cell? ⟨b,off+i * 3+1,none⟩=some (.bool (iC L i).live)/\w.cell? ⟨b,off+i * 3+2,none⟩=some (.int .i64 (iC L i).rate) :=
 ⟨h i hi 0 _ rfl,h i hi 1 _ rfl,h i hi 2 _ rfl⟩
theorem oJ (hi:i < L.length) (x:Nd) (j:Nat):iC (L.set i x) j=if j=i then x else iC L j:=by
 unfold iC;rw [af,af,gE]
 by_cases e:j=i
 ·subst e;rw [aw rfl,aw rfl,aw hi];rfl
 ·rw [am (by omega),am e]
structure Cl (w:World) (s:Nat) (F:Nat->Prop) (c:Cs) (t:Nat) (vn:Value) (L:List Nd) (p:Nat) (vq:Value) (Fs:Nat->Nat->Prop):Prop where
 row:w.heap[s]? = some (.cells #[vn,ptr p,.int .i64 c.pl,vq] 69 (0,0))
 no:Ow KD w 0 74 vn L
 len:L.length=c.S.length
 st:∀ i,i < L.length->St w (iC L i).s (Fs i) (aN c.S i).1 (aN c.S i).2
 lv:∀ i:Nat,i < L.length->(iC L i).live=bU c.V i
 rt:∀ i,i < L.length->-2000<=(iC L i).rate/\(iC L i).rate<=2000
 pr:Wt.Pr w p c.P t
 sp:Ow K2 w 0 95 vq c.Q
 fs:F s
 fp:F p
 fv:∀ k,vn.ownBlock=some k\/vq.ownBlock=some k->F k
 ff:∀ i,i < L.length->∀ k,Fs i k->F k
 FQ:∀ i j,i < L.length->j < L.length->i≠j->∀ k,Fs i k->¬ Fs j k
 off:∀ i,i < L.length->∀ k,Fs i k->k≠s/\k≠p/\vn.ownBlock≠some k/\vq.ownBlock≠some k
 low:∀ k,F k->k < w.heap.size
def ClE (w:World) (s:Nat) (F:Nat->Prop) (c:Cs) (t:Nat):Prop:=∃ vn L p vq Fs,Cl w s F c t vn L p vq Fs
section
variable {s t p:Nat} {F G:Nat->Prop} {c:Cs} {vn vq:Value} {L:List Nd} {Fs:Nat->Nat->Prop} {w w':World}
theorem Cl.slt (h:Cl w s F c t vn L p vq Fs):s < w.heap.size:=bm h.row
variable {a P:Wt.A}
theorem Vd (h:Wt.Pr w p a t):∃ cs,w.heap[p]? = some (.cells cs 107 (0,0)):=by obtain ⟨_,_,h,_⟩:=h;exact ⟨_,h⟩
theorem Cl.Iv (h:Cl w s F c t vn L p vq Fs):s≠p:=fun e=>by
 obtain ⟨cs,hp⟩:=Vd h.pr;have:=h.row;rw [e,hp] at this;injection this with this;injection this with _ h2 _;exact absurd h2 (by decide)
theorem Cl.vs (h:Cl w s F c t vn L p vq Fs):vn.ownBlock≠some s/\vq.ownBlock≠some s:=⟨h.no.apart h.row (by decide),h.sp.apart h.row (by decide)⟩
theorem Cl.vp (h:Cl w s F c t vn L p vq Fs):vn.ownBlock≠some p/\vq.ownBlock≠some p:=by
 obtain ⟨cs,hp⟩:=Vd h.pr;exact ⟨h.no.apart hp (by decide),h.sp.apart hp (by decide)⟩
theorem Cl.vv (h:Cl w s F c t vn L p vq Fs):∀ k,vn.ownBlock=some k->vq.ownBlock≠some k:=fun k hk=>by
 obtain ⟨_,g⟩:=h.no
 rcases g with ⟨rfl,_⟩ | ⟨b,cap,cur,rfl,_,hh,_⟩
 ·simp [Value.ownBlock] at hk
 ·simp only [Value.ownBlock,eC] at hk
  subst hk;exact h.sp.apart hh (by decide)
theorem Cl.only (h:Cl w s F c t vn L p vq Fs) (hn:∀ k,F k->¬ G k) (o:ay G w w'):Cl w' s F c t vn L p vq Fs :=
 ⟨(o.block s h.slt (hn s h.fs)).trans h.row,aG h.no (fun k e=>hn k (h.fv k (.inl e))) o,h.len,fun i hi=>(h.st i hi).only (fun k g=>hn k (h.ff i hi k g)) o,h.lv,h.rt,h.pr.only o (hn p h.fp),aG h.sp (fun k e=>hn k (h.fv k (.inr e))) o,h.fs,h.fp,h.fv,h.ff,h.FQ,h.off,fun k g=>cd (h.low k g) o.size⟩
theorem Cl.below (h:Cl w s F c t vn L p vq Fs) (b:Below w.heap.size w w'):Cl w' s F c t vn L p vq Fs:=h.only (G:=fun _=>False) (fun _ _ g=>g) (ay.of_below b)
theorem Cl.wide (h:Cl w s F c t vn L p vq Fs) (hF:∀ k,F k->G k) (hl:∀ k,G k->k < w.heap.size):Cl w s G c t vn L p vq Fs :=
 ⟨h.row,h.no,h.len,h.st,h.lv,h.rt,h.pr,h.sp,hF s h.fs,hF p h.fp,fun k g=>hF k (h.fv k g),fun i hi k g=>hF k (h.ff i hi k g),h.FQ,h.off,hl⟩
theorem Cl.fx (w0:World) (h:Cl w s F c t vn L p vq Fs):Cl w s (Fx F w0 w) c t vn L p vq Fs:=h.wide (fun k g=>.inl g) fun k g=>by
 rcases g with g | g
 ·exact h.low k g
 ·exact g.2
theorem Cl.cells (h:Cl w s F c t vn L p vq Fs):w.cell? ⟨s,0,none⟩=some vn/\w.cell? ⟨s,1,none⟩=some (ptr p)/\w.cell? ⟨s,2,none⟩=some (.int .i64 c.pl)/\w.cell? ⟨s,3,none⟩=some vq:=⟨ah h.row 0,ah h.row 1,ah h.row 2,ah h.row 3⟩
theorem Cl.Xg (h:Cl w s F c t vn L p vq Fs) (k:Nat):w.frozen? ⟨s,k,none⟩=false:=aj h.row k
theorem Cl.pair (h:Cl w s F c t vn L p vq Fs) {t':Nat} (o:ay (fun k=>k=p) w w') (hp:Wt.Pr w' p P t'):Cl w' s F { c with P:=P } t' vn L p vq Fs :=
 ⟨(o.block s h.slt h.Iv).trans h.row,aG h.no (fun k e g=>h.vp.1 (by rw [e,g])) o,h.len,fun i hi=>(h.st i hi).only (fun k g e=>(h.off i hi k g).2.1 e) o,h.lv,h.rt,hp,aG h.sp (fun k e g=>h.vp.2 (by rw [e,g])) o,h.fs,h.fp,h.fv,h.ff,h.FQ,h.off,fun k g=>cd (h.low k g) o.size⟩
theorem aaG (h:Wt.Pr w p a t):Wt.Pr w p a (t+1):=by
 obtain ⟨z0,z1,hr,hv⟩:=h;exact ⟨z0,z1,hr,⟨by have:=hv.b0;omega,by have:=hv.b1;omega,hv.e0,hv.e1⟩⟩
theorem Cl.late (h:Cl w s F c t vn L p vq Fs):Cl w s F c (t+1) vn L p vq Fs:=⟨h.row,h.no,h.len,h.st,h.lv,h.rt,aaG h.pr,h.sp,h.fs,h.fp,h.fv,h.ff,h.FQ,h.off,h.low⟩
theorem Cl.place (h:Cl w s F c t vn L p vq Fs) (n:Nat):Cl (w.setCell ⟨s,2,none⟩ (.int .i64 n)) s F { c with pl:=n } t vn L p vq Fs:=by
 have o:ay (fun k=>k=s) w (w.setCell ⟨s,2,none⟩ (.int .i64 n)):=ay.set (fun k=>k=s) w (a:=⟨s,2,none⟩) rfl _;have rw_:(w.setCell ⟨s,2,none⟩ (.int .i64 n)).heap[s]? = some (.cells #[vn,ptr p,.int .i64 n,vq] 69 (0,0)):=Rw.aB (j:=2) h.row _;exact ⟨rw_,aG h.no (fun k e g=>h.vs.1 (by rw [e,g])) o,h.len,fun i hi=>(h.st i hi).only (fun k g e=>(h.off i hi k g).1 e) o,h.lv,h.rt,h.pr.only o (fun e=>h.Iv e.symm),aG h.sp (fun k e g=>h.vs.2 (by rw [e,g])) o,h.fs,h.fp,h.fv,h.ff,h.FQ,h.off,fun k g=>cd (h.low k g) o.size⟩
theorem Cl.TS (h:Cl w s F c t vn L p vq Fs) {v:Value} {Q:List S2} (hq:Ow K2 w 0 95 v Q) (hF:∀ k,v.ownBlock=some k->F k) (hn:∀ i,i < L.length->∀ k,Fs i k->v.ownBlock≠some k):Cl (w.setCell ⟨s,3,none⟩ v) s F { c with Q:=Q } t vn L p v Fs:=by
 have o:ay (fun k=>k=s) w (w.setCell ⟨s,3,none⟩ v):=ay.set (fun k=>k=s) w (a:=⟨s,3,none⟩) rfl _;have rw_:(w.setCell ⟨s,3,none⟩ v).heap[s]? = some (.cells #[vn,ptr p,.int .i64 c.pl,v] 69 (0,0)):=Rw.aB (j:=3) h.row _;refine ⟨rw_,aG h.no (fun k e g=>h.vs.1 (by rw [e,g])) o,h.len,fun i hi=>(h.st i hi).only (fun k g e=>(h.off i hi k g).1 e) o,h.lv,h.rt,h.pr.only o (fun e=>h.Iv e.symm),aG hq (fun k e g=>hq.apart h.row (by decide) (by rw [e,g])) o,h.fs,h.fp,fun k g=>?_,h.ff,h.FQ,fun i hi k g=>?_,fun k g=>cd (h.low k g) o.size⟩
 ·rcases g with g | g
  ·exact h.fv k (.inl g)
  ·exact hF k g
 ·have:=h.off i hi k g
  exact ⟨this.1,this.2.1,this.2.2.1,hn i hi k g⟩
theorem Cl.store (h:Cl w s F c t vn L p vq Fs) (hi:i < L.length) {x:aU×Int} (hs:St w' (iC L i).s (Fx (Fs i) w w') x.1 x.2) (o:ay (Fs i) w w'):Cl w' s (Fx F w w') { c with S:=jh c.S i x } t vn L p vq (fun j=>if j=i then Fx (Fs i) w w' else Fs j):=by
 have of:=h.off i hi;have hz:=o.size;have lt:∀ j,j < L.length->∀ k,Fs j k->k < w.heap.size:=fun j hj=>(h.st j hj).low;have vl:∀ k,vn.ownBlock=some k\/vq.ownBlock=some k->k < w.heap.size:=fun k g=>h.low k (h.fv k g);refine ⟨(o.block s h.slt fun g=>(of s g).1 rfl).trans h.row,aG h.no (fun k e g=>(of k g).2.2.1 e) o,by show L.length=(jh c.S i x).length;rw [h.len];exact List.length_set.symm,fun j hj=>?_,h.lv,h.rt,h.pr.only o (fun g=>(of p g).2.1 rfl),aG h.sp (fun k e g=>(of k g).2.2.2 e) o,.inl h.fs,.inl h.fp,fun k g=>.inl (h.fv k g),fun j hj k g=>?_,fun a b ha hb hab k g=>?_,fun j hj k g=>?_,Fx.low h.low hz⟩
 ·show St w' _ _ (aN (jh c.S i x) j).1 (aN (jh c.S i x) j).2
  rw [DF (by omega) (by have:=h.len;omega)]
  by_cases e:j=i
  ·subst e
   rw [aw rfl,aw rfl];exact hs
  ·rw [am e,am (by omega)]
   exact (h.st j hj).only (fun k g q=>h.FQ j i hj hi e k g q) o
 ·by_cases e:j=i
  ·rw [aw e] at g
   rcases g with g | g
   ·exact .inl (h.ff i hi k g)
   ·exact .inr g
  ·rw [am e] at g
   exact .inl (h.ff j hj k g)
 ·by_cases ea:a=i
  ·rw [aw ea] at g
   rw [am (fun q=>hab (ea.trans q.symm))]
   rcases g with g | g
   ·exact h.FQ i b hi hb (fun q=>hab (ea.trans q)) k g
   ·intro q;have:=lt b hb k q;omega
  ·rw [am ea] at g
   by_cases eb:b=i
   ·rw [aw eb]
    rintro (q | q)
    ·exact h.FQ a i ha hi ea k g q
    ·have:=lt a ha k g;omega
   ·rw [am eb]
    exact h.FQ a b ha hb hab k g
 ·by_cases e:j=i
  ·rw [aw e] at g
   rcases g with g | g
   ·exact of k g
   ·have a1:=h.slt
    have a2:=h.pr.lt;exact ⟨by omega,by omega,fun q=>by have:=vl k (.inl q);omega,fun q=>by have:=vl k (.inr q);omega⟩
  ·rw [am e] at g
   exact h.off j hj k g
theorem Cl.node (h:Cl w s F c t vn L p vq Fs) {g:Nat} (hg:vn.ownBlock=some g) {L':List Nd} {V:List Bool} (o:ay (fun k=>k=g) w w') (hno:Ow KD w' 0 74 vn L') (hl:L'.length=L.length) (hs:∀ i,i < L.length->(iC L' i).s=(iC L i).s) (hv:∀ i:Nat,i < L.length->(iC L' i).live=bU V i) (hr:∀ i,i < L.length->-2000<=(iC L' i).rate/\(iC L' i).rate<=2000):Cl w' s F { c with V:=V } t vn L' p vq Fs:=by
 refine ⟨(o.block s h.slt fun e=>h.vs.1 (by rw [hg,e])).trans h.row,hno,hl.trans h.len,fun i hi=>?_,fun i hi=>hv i (by omega),fun i hi=>hr i (by omega),h.pr.only o (fun e=>h.vp.1 (by rw [hg,e])),aG h.sp (fun k e q=>h.vv g hg (by rw [e,q])) o,h.fs,h.fp,h.fv,fun i hi=>h.ff i (by omega),fun i j hi hj=>h.FQ i j (by omega) (by omega),fun i hi=>h.off i (by omega),fun k q=>cd (h.low k q) o.size⟩;rw [hs i (by omega)];exact (h.st i (by omega)).only (fun k q e=>(h.off i (by omega) k q).2.2.1 (by rw [hg,e])) o
end
def kS (w:World) (s:Nat) (F:Nat->Prop) (c:Cs) (t:Nat) (x:Int) (e:Ending) (w':World):Prop:=e = .returned (.int .i64 x)/\ClE w' s (Fx F w w') c t/\ay F w w'
section
variable {s t:Nat} {F:Nat->Prop} {c:Cs} {w w1 w':World}
theorem kS.late {x:Int} {e:Ending} (h:kS w s F c t x e w'):kS w s F c (t+1) x e w':=by
 obtain ⟨h1,⟨vn,L,p,vq,Fs,h2⟩,h3⟩:=h;exact ⟨h1,⟨vn,L,p,vq,Fs,h2.late⟩,h3⟩
variable {x:Int} {e:Ending}
theorem kS.preO (h:kS w1 s F c t x e w') (o:ay F w w1) (low:∀ k,F k->k < w.heap.size):kS w s F c t x e w':=by
 obtain ⟨h1,⟨vn,L,p,vq,Fs,h2⟩,h3⟩:=h;have z1:=o.size;have z2:=h3.size;refine ⟨h1,⟨vn,L,p,vq,Fs,h2.wide (fun k g=>?_) (fun k g=>?_)⟩,o.trans h3 fun _ _ g=>g⟩
 ·rcases g with g | g
  ·exact .inl g
  ·exact .inr ⟨by omega,g.2⟩
 ·rcases g with g | g
  ·have:=low k g;omega
  ·exact g.2
theorem kS.pre (h:kS w1 s F c t x e w') (b:Below w.heap.size w w1) (low:∀ k,F k->k < w.heap.size):kS w s F c t x e w':=h.preO (ay.of_below b) low
end
end Cu
