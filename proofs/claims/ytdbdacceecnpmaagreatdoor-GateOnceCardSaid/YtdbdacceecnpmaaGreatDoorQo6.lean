import Derived.Test.YtdbdacceecnpmaaGreatDoorQo5
import Derived.Laws.CopyOwn
import Derived.Deep.CutRange
set_option maxRecDepth 100000
set_option maxHeartbeats 8000000
namespace Go.Proofs.YtdbdacceecnpmaaGreatDoor
open Go.Proofs.Tryz
open Ck (LL dH sE tE)
open Fl (K4 R4 aL ah aj bJ dF rat z4)
open Fs (Only aT dA dD dE dN dV eY sA sB sH)
open Pa (Ai Di Gp Has KN Lc S2 TX VY YT Yx aV bW bX exU jK jT qE sat zS)
open Ro (E5 dJ gT lq z5)
open Rw (At Ow Rd)
namespace Pa
open Go.RowKit Go.Maps
open Fs (Wf Glob yQ iO grown_of)
open Ro (K5)
open Ck (sN lX iW)
attribute [local irreducible] Sd.aU wpQuiet
def Kz (S:bW) (T:LL) (V:List Bool) (P:List S2) (k:Nat):Hr:=fun n=>if 1<=n/\n < k/\vX S T V P n=true then some (Ja S T V P n) else none
section
variable {S:bW} {T:LL} {V:List Bool} {P:List S2}
theorem Yz:Kz S T V P 1=fun _=>none:=funext fun n=>by unfold Kz;rw [aq (by omega)]
variable {k:Nat}
theorem YV (h1:1<=k) (h:vX S T V P k=true):hput (Kz S T V P k) k (Ja S T V P k)=Kz S T V P (k+1):=funext fun n=>by
 unfold hput Kz
 by_cases e:n=k
 ·subst e
  rw [az rfl,az ⟨by omega,by omega,h⟩]
 ·rw [aq e]
  by_cases g:1<=n/\n < (k:Int)/\vX S T V P n=true
  ·rw [az g,az ⟨g.1,by omega,g.2.2⟩]
  ·rw [aq g,aq fun q=>g ⟨q.1,by omega,q.2.2⟩]
theorem aap (h:vX S T V P k=false):Kz S T V P k=Kz S T V P (k+1):=funext fun n=>by
 unfold Kz
 by_cases g:1<=n/\n < (k:Int)/\vX S T V P n=true
 ·rw [az g,az ⟨g.1,by omega,g.2.2⟩]
 ·rw [aq g,aq fun q=>by
   by_cases e:n=k
   ·subst e;rw [h] at q;cases q.2.2
   ·exact g ⟨q.1,by omega,q.2.2⟩]
theorem VM:Kz S T V P 17=hr S T V P:=funext fun n=>by
 unfold Kz hr
 by_cases g:1<=n/\n < ((17:Nat):Int)/\vX S T V P n=true
 ·rw [az g,az ⟨g.1,by omega,g.2.2⟩]
 ·rw [aq g,aq fun q=>g ⟨q.1,by omega,q.2.2⟩]
end
structure H1 (w:World) (b k:Nat) (h:Hr) (wr:World):Prop where
 mp:∃ N,Ij wr b N h/\N<=k
 lo:w.heap.size<=b
 aD:Below w.heap.size w wr
theorem H1.below {w wr wr':World} {b k:Nat} {h:Hr} (H:H1 w b k h wr) (hb:Below wr.heap.size wr wr'):H1 w b k h wr':=by
 obtain ⟨⟨N,m,hN⟩,lo,aD⟩:=H;exact ⟨⟨N,m.below hb,hN⟩,lo,aD.trans (hb.mono aD.size)⟩
def qP (S:bW) (T:LL) (V:List Bool) (P:List S2):bW:=if jT S T V=0 then Ai S T V (hr S T V P) else []
def kM (w:World) (E:Int) (S':bW) (e:Ending) (w':World):Prop:=∃ v,e = .returned (.tuple #[v,.int .i64 E])/\zS w' v S'/\Below w.heap.size w w'
theorem V7 (w:World):zS w (.slice none 0 0) []:=⟨[],Rd.nil w,rfl,fun i hi=>by cases hi⟩
theorem ko {w:World} {vs vt vl vp:Value} {S:bW} {T:LL} {V:List Bool} {P:List S2} (HS:zS w vs S) (HT:lX w vt T) (HV:Rd KB w vl V) (RP:Rd K2 w vp P) (hg:Glob w) (hd:∀ i,i < S.length->0<=(sat S i).2/\(sat S i).2 < 900000) :
 Calls prog 113 #[vs,vt,vl,vp] w (kM w (jT S T V) (qP S T V P)):=by
 have FA:Hid (Calls prog 133 #[vs,vt,vl] w fun e w'=>e = .returned (.int .i64 (jT S T V))/\Below w.heap.size w w'):=Hh (by
  obtain ⟨ps,h1,h2,_⟩:=HS;have:=NI w vs vt vl (ps.map some) T V (rd_some h1) HT HV;have e:fE (ps.map some) T V=jT S T V:=by
   unfold fE jT;rw [VV,cm,h2];simp only [true_and]
  rw [e] at this
  exact this)
 by_cases hE:jT S T V=0
 ·have hcond:1<=S.length/\S.length<=32/\T.length=S.length/\V.length=S.length/\tE T=0:=by
   unfold jT at hE
   split at hE
   ·rename_i h
    exact ⟨h.1,h.2.1,h.2.2.1,h.2.2.2,hE⟩
   ·omega
  have NS:Hid (Ns w vs vt vl S T V):=Hh ⟨HS,HT,HV,hcond.2.2.1,hcond.2.2.2.1,hcond.2.2.2.2⟩;have RR:=Hh RP;have GG:=Hh hg;have DD:=Hh hd;have EL:Hid (qP S T V P=Ai S T V (hr S T V P)):=Hh (az hE);rw [hE] at FA;rw [hE,EL.out];have HR:Hid (∀ s,Calls prog 134 #[vs,vt,vl,vp,.int .i64 s] w (pQ w (Ja S T V P s) (vX S T V P s))):=Hh (fun s=>jX NS RP s);have HE:=Hh (fun W b s=>jX (NS.below (w':=W) b) (RP.below b) s);obtain ⟨sa,cs,rfl,hms⟩:=HS.slice;clear HS HT HV RP hg hd hE HR;generalize hn:S.length=n at *;have HN:=Hh hn;clear hn;have hmm:=@run_makeMap prog
  go_enter func113,ntmps113
  go_wp2_with fail;refine FA.mono ?_;rintro e w1 ⟨rfl,b1⟩;have M0:Hid (H1 w w1.heap.size 0 (Kz S T V P 1) (w1.alloc (.map #[] 0))):=Hh ⟨⟨0,by rw [Yz];exact C8 w1,am _⟩,b1.size,b1.alloc b1.size _⟩;clear b1 FA;go_wp2;clear hmm;generalize (w1.alloc (.map #[] 0))=W0 at *;generalize w1.heap.size=b at *
  go_loopw [12] (fun i wr=>∃ k:Nat,1<=k/\k<=17/\i = .int .i64 k/\Hid (H1 w b k (Kz S T V P k) wr)) (fun i _=>17 - (intOf i).toNat)
  case atStart=>exact ⟨1,by omega,by omega,rfl,⟨by obtain ⟨N,m,h⟩:=M0.out.mp;exact ⟨N,m,by omega⟩,M0.out.lo,M0.out.aD⟩⟩
  case round =>
   obtain ⟨k,hk1,hk,rfl,I⟩:=hrel;clear M0
   by_cases hlt:k < 17
   ·have HK:=Hh (HE wr I.aD (k:Int))
    have YY:=Hh (fun h=>YV (S:=S) (T:=T) (V:=V) (P:=P) (k:=k) hk1 h);have NN:=Hh (fun h=>aap (S:=S) (T:=T) (V:=V) (P:=P) (k:=k) h);have WK:=Hh (qz (n:=(k:Int)) ⟨by omega,by omega⟩);unfold pQ at HK;go_wp2_with fail;refine HK.mono ?_;rintro e w2 ⟨rfl,b2⟩;have I2:=Hh (I.below b2);clear b2 I HK;generalize Ja S T V P (k:Int)=y at *
    cases hh:vX S T V P (k:Int) with
    | false =>
      have EQ:=Hh (NN hh);have I3:Hid (H1 w b (k+1) (Kz S T V P (k+1)) w2):=Hh ⟨by obtain ⟨N,m,h⟩:=I2.out.mp;exact ⟨N,by rw [← EQ.out];exact m,by omega⟩,I2.out.lo,I2.out.aD⟩;clear YY NN I2 EQ hh;go_wp2
      go_roundw
      case rel=>exact ⟨k+1,by omega,by omega,by go_num,I3⟩
      case measure=>simp [intOf];omega
    | true =>
      have EQ:=Hh (YY hh);obtain ⟨N,m,hN⟩:=I2.mp;have M2:=Hh m;have LO:=Hh I2.lo;have BE:=Hh I2.aD;clear YY NN hh m I2
      go_wp2_with (first
       | (at_mapUpdate;refine Bl rfl _ _ _ rfl rfl M2 (by unfold maxLen;omega) (k:Int) y rfl rfl WK.out ?_;intro w4 m4 g4)
       | fail)
      have I3:Hid (H1 w b (k+1) (Kz S T V P (k+1)) w4):=Hh ⟨⟨N+1,by rw [← EQ.out];exact m4,by omega⟩,LO.out,BE.out.grown g4 BE.out.size (fun j e=>by injection e with e;have:=LO.out;omega)⟩;clear m4 g4 M2 EQ BE LO;go_wp2
      go_roundw
      case rel=>exact ⟨k+1,by omega,by omega,by go_num,I3⟩
      case measure=>simp [intOf];omega
   ·have e17:k=17:=by omega
    rw [e17,VM] at I;clear e17;have HM:Hid (∀ W,Below wr.heap.size wr W->pq W (.map (some b)) (hr S T V P)):=Hh (fun W hb=>by obtain ⟨⟨N,m,_⟩,_,_⟩:=I;exact ⟨b,N,rfl,m.below hb⟩);have BW:=Hh I.aD;have OH:=Hh (Gp S T V P);clear I HE;generalize hr S T V P=h at *;have AT:=Hh (fun i hi=>qE S T V h (i:=i) hi);have RL:=Hh (jK S T V h);generalize Ai S T V h=S' at *;clear EL;go_wp2;clear hk1 hk hlt;generalize (k:Int)=kk at *
    rename World=>wA
    go_loopw [45,15] (fun i o wr2=>∃ (k:Nat) (ps:List Nat),k<=n/\i = .int .i64 k/\Hid (PI ZC 76 wA S' k o ps wr2)) (fun i _ _=>n - (intOf i).toNat)
    case atStart=>exact ⟨0,[],cx _,rfl,PI.start wA (af _ _)⟩
    case round =>
     obtain ⟨k,ps,hk,rfl,I⟩:=hrel;have BI:=Hh (BW.trans (I.aD.mono BW.size));obtain ⟨av,cv,ev,_⟩:=I.own.slice;have OWN:=Hh I.own;generalize ps.length=Lp at ev;subst ev
     by_cases hlt:k < n
     ·have N1:=Hh (NS.below BI)
      obtain ⟨b1,o1,c1,s,e1,cS,hS⟩:=N1.st.one (k:=k) (by have:=HN.out;omega);rw [HN.out] at e1;injection e1 with e1 _ e2;subst e1 e2;obtain ⟨b2,o2,c2,at',ct,e2,cT,_,_⟩:=N1.tb.one (k:=k) (by omega);have RT:=Hh (N1.tb.rd (k:=k) (by omega) e2 cT);rw [hcond.2.2.1] at e2;subst e2;obtain ⟨a3,c3,e3,_,_,h3⟩:=N1.lv;rw [hcond.2.2.2.1] at e3;subst e3;obtain ⟨b3,o3,rfl,A3⟩:=h3 (by omega);have cV:=atB A3 (i:=k) (by omega);rw [show V.getD k false=bX V k from rfl] at cV;have EA:=Hh (AT k (by have:=HN.out;omega));have OKT:=Hh (qp N1.ok (k:=k) (by omega));have ML:=Hh (lq (iW (vP N1.ok) k (by omega)));have HS2:=Hh hS;clear hS h3 A3 N1;unfold ptr at cS
      cases hv:bX V k with
      | true =>
        rw [hv] at cV;have AP:=Hh (rQ HS2 (GG.below BI) (DD k (by omega)) RT.out (fun y hy=>(OKT.out y hy).1) (by have:=ML.out;omega) (HM.out wr I.out.aD) OH.out);rw [hv,az rfl] at EA;unfold wP at AP;clear HS2;generalize (dH T k).length=lk at *;go_wp2_with fail;refine AP.mono ?_;rintro e w5 ⟨g,F5,rfl,Ic,lo5,b5⟩;have LN:=Hh I.len;have BL:=b5.alloc b5.size (.cells #[.pointer (some ⟨g,0,none⟩)] 76);have I5:=Hh (I.below j5 BL);have G5:Hid (ZC (w5.alloc (.cells #[.pointer (some ⟨g,0,none⟩)] 76)) g (sat S' k) (Value.slice av Lp cv).ownBlock):=Hh (j5.below (by rw [EA.out];exact Lg Ic lo5 I.out.lt) ((af w5.heap.size w5).alloc (am _) _));clear Ic lo5 b5 I OWN AP cS cT cV BL
        (try unfold ptr)
        go_wp2_with (at_builtin;refine bH (K:=KN) underlying171 vZ rfl (by omega) rfl _ _ rfl wA.heap.size _ _ rfl I5.out.own _ g rfl ?d1 ?d2 ?d3 ?_)
        case d1 =>
         intro j u hu
         match j,hu with
         | 0,hu=>simp [KN] at hu;subst hu;unfold ptr;go_simp
         | j+1,hu=>simp [KN] at hu
        case d2=>rw [LN.out];omega
        case d3=>have:=I5.aD.size;exact this
        intro v' w6 o6 g6 h6
        have NEW:=Hh (I5.push j5 o6 g6 (by simpa using h6) G5.out);clear o6 g6 h6 I5 G5 LN;obtain ⟨av',cv',ev',_⟩:=NEW.own.slice;generalize (ps ++ [g]).length=Lp' at ev';subst ev';go_wp2
        go_roundw
        case rel=>exact ⟨k+1,ps ++ [g],by omega,by go_num,NEW⟩
        case measure=>simp [intOf];omega
      | false =>
        rw [hv] at cV;rw [hv,aq eJ] at EA;have AP:=Hh (qx HS2);unfold iO at AP;clear HS2;generalize (dH T k).length=lk at *;go_wp2_with fail;refine AP.mono ?_;rintro e w5 ⟨g,F5,rfl,Ic,lo5,b5⟩;have LN:=Hh I.len;have BL:=b5.alloc b5.size (.cells #[.pointer (some ⟨g,0,none⟩)] 76);have I5:=Hh (I.below j5 BL);have G5:Hid (ZC (w5.alloc (.cells #[.pointer (some ⟨g,0,none⟩)] 76)) g (sat S' k) (Value.slice av Lp cv).ownBlock):=Hh (j5.below (by rw [EA.out];exact Lg Ic lo5 I.out.lt) ((af w5.heap.size w5).alloc (am _) _));clear Ic lo5 b5 I OWN AP cS cT cV BL
        (try unfold ptr)
        go_wp2_with (at_builtin;refine bH (K:=KN) underlying171 vZ rfl (by omega) rfl _ _ rfl wA.heap.size _ _ rfl I5.out.own _ g rfl ?d1 ?d2 ?d3 ?_)
        case d1 =>
         intro j u hu
         match j,hu with
         | 0,hu=>simp [KN] at hu;subst hu;unfold ptr;go_simp
         | j+1,hu=>simp [KN] at hu
        case d2=>rw [LN.out];omega
        case d3=>have:=I5.aD.size;exact this
        intro v' w6 o6 g6 h6
        have NEW:=Hh (I5.push j5 o6 g6 (by simpa using h6) G5.out);clear o6 g6 h6 I5 G5 LN;obtain ⟨av',cv',ev',_⟩:=NEW.own.slice;generalize (ps ++ [g]).length=Lp' at ev';subst ev';go_wp2
        go_roundw
        case rel=>exact ⟨k+1,ps ++ [g],by omega,by go_num,NEW⟩
        case measure=>simp [intOf];omega
     ·obtain rfl:k=n:=by omega
      have RES:Hid (kM w 0 S' (.returned (.tuple #[.slice av Lp cv,.int .i64 0])) wr):=Hh ⟨_,rfl,PI.stl (S:=S') (by rw [RL.out,HN.out];exact I.out),BI.out⟩;clear I OWN;go_wp2
      go_ret2
      exact RES
 ·have EL:Hid (qP S T V P = []):=Hh (aq hE)
  rw [EL.out];have HEE:=Hh hE;have hne:(jT S T V != 0)=true:=by simpa using hE
  obtain ⟨sa,cs,rfl,hms⟩:=HS.slice;clear HS HT HV RP hg hd hE;generalize jT S T V=E at *
  go_enter func113,ntmps113
  go_wp2_with fail;refine FA.mono ?_;rintro e w1 ⟨rfl,b1⟩;have RES:Hid (kM w E [] (.returned (.tuple #[.slice none 0 0,.int .i64 E])) w1):=Hh ⟨_,rfl,V7 w1,b1⟩;clear b1 FA;go_wp2
  go_ret2
  exact RES
end Pa
namespace Pa
open Go.RowKit
open Fl (newR)
open Fs (key qB gB gV gH jI nP)
open Ro (gW iY)
open Ck (sN Vt pg CG Zo)
open Ua (bit zX te tp tb upd turn par)
theorem KG {h:Hr} (hh:VY h) {t:List E5} {V:Int->Int->Bool} (hV:∀ n,V n 0=true->jc t n 0 = []) {A:aT} (hA:eY A):eY (dR h t V A):=by
 refine ⟨(Fs.vB (κ:=key) (κ':=key) (f:=kX h t V) (fun _=>rfl)).2 hA.zm,fun e he=>?_,fun e he=>?_,fun e he=>?_⟩
 all_goals
  obtain ⟨c,hc,rfl⟩:=dC.1 he
 ·exact hA.nm c hc
 ·obtain ⟨g1,g2,g3,g4,g5⟩:=hA.good c hc
  refine ⟨g1,g2,by rw [mM];exact g3,by rw [mM];exact g4,?_⟩;rw [mM];have:=Fv (h:=h) (t:=t) (V:=V) c (k:=0) (by omega);rw [show ((0:Nat):Int)=0 from rfl] at this;rw [this]
  split
  ·rename_i hv
   rw [hV _ hv,Hq];exact g5
  ·exact g5
 ·intro r hr
  obtain ⟨k,hk⟩:=ef hr;rw [Em] at hk
  rcases e:c.2.2[k]? with _ | v
  ·rw [e] at hk;cases hk
  ·rw [e] at hk
   simp only [fe,fw] at hk;have hv:=hA.ok c hc v (di e);rw [← hk]
   split
   ·exact VH hh _ hv
   ·exact hv
section
end
section
end
end Pa
namespace Re
open Go.RowKit
open Fl (aG jP hdr)
def KI:Rw.Kind Int:=Rw.int .i64
theorem yg:(prog.info? 3).map (fun i=>(i.zero,i.size,i.bytes))=some (some (.int .i64 0),1,8):=by kernel_rfl
theorem qI (a:Addr):a.add 0=a:=by cases a;simp [Addr.add]
def fC (l:List Int) (i:Nat):Int:=l.getD i 0
variable {w:World} {b off i k:Nat} {l l':List Int}
theorem tH (h:At KI w b off l) (i:Nat) (hi:i < l.length):w.cell? ⟨b,off+i,none⟩=some (.int .i64 (fC l i)):=by
 have c:=h i hi 0 _ rfl;simp only [KI,Rw.int,Nat.mul_one,Nat.add_zero] at c;exact c
theorem pR (h:i < l.length):l[i]? = some (fC l i):=by
 unfold fC;rw [an,aw h]
 rfl
theorem rG (hl:l.length=l'.length) (h:∀ i,i < l.length->fC l i=fC l' i):l=l':=by
 refine List.ext_getElem hl fun i h1 h2=>?_;have:=h i h1
 simpa [fC,List.getD,List.getElem?_eq_getElem h1,List.getElem?_eq_getElem h2] using this
def zD (x:Int):Prop:=0<=x/\x<=5
instance (x:Int):Decidable (zD x):=by unfold zD;infer_instance
def fU (l:List Int):Prop:=(0 < l.length/\l.length<=64)/\∀ i,i < l.length->zD (fC l i)
instance (l:List Int):Decidable (fU l):=by unfold fU;infer_instance
def seqB (l:List Int):Bool:=decide (fU l)
theorem Vk (hk:k < l.length) (h:¬ zD (fC l k)):false=seqB l:=(bh (fun g=>h (g.2 k hk))).symm
theorem Gb (h:¬ (0 < l.length/\l.length<=64)):false=seqB l:=(bh (fun g=>h g.1)).symm
theorem Kv (h:0 < l.length/\l.length<=64) (g:∀ i,i < l.length->zD (fC l i)):true=seqB l:=(bj ⟨h,g⟩).symm
def gI (x:Int):R4:=(x,0,0,0)
def bE (l:List Int):List R4:=hdr 3 (l.length:Int) :: l.map gI
def fL (l:List Int):List R4:=if fU l then bE l else []
def fP (l:List Int):Int:=if fU l then 3 else 0
def fN (l:List Int):Int:=if fU l then 0 else 1
def gU (l:List R4):List Int:=(l.drop 1).map (·.1)
def JZ (p:Int) (l:List R4):Prop:=aL p l/\fU (gU l)/\p=3/\l=bE (gU l)
instance (p:Int) (l:List R4):Decidable (JZ p l):=by unfold JZ;infer_instance
def sL (p:Int) (l:List R4):List Int:=if JZ p l then gU l else []
def sN (p:Int) (l:List R4):Int:=if JZ p l then 0 else 2
theorem UR (l:List Int):(bE l).length=l.length+1:=by simp [bE]
theorem Dh (l:List R4):(gU l).length=l.length - 1:=by simp [gU]
theorem wh (l:List Int):gU (bE l)=l:=by
 have e:(fun x=>(gI x).1)=(id:Int->Int):=rfl;simp only [gU,bE,List.drop_succ_cons,List.drop_zero,List.map_map,Function.comp_def,e,List.map_id]
theorem Ao (h:fU l):aL 3 (bE l):=by
 have hl:=UR l;have:=h.1;refine ⟨by omega,by omega,by omega,by omega,?_⟩;have e:((bE l).length:Int) - 1=(l.length:Int):=by omega
 rw [e]
 rfl
theorem Mb (h:fU l):JZ 3 (bE l):=⟨Ao h,by rw [wh];exact h,rfl,by rw [wh]⟩
theorem Si (h:fU l):sL 3 (bE l)=l/\sN 3 (bE l)=0:=by
 unfold sL sN;rw [az (Mb h),az (Mb h),wh];exact ⟨rfl,rfl⟩
variable {x p t:Int}
theorem acJ (h:zD x):bJ (gI x):=by
 obtain ⟨a,b⟩:=h;unfold bJ gI;simp only
 omega
theorem US (h:fU l):∀ x∈l,zD x:=fun x hx=>by
 obtain ⟨i,hi,e⟩:=ew hx;have g:=h.2 i hi;have e':fC l i=x:=by
  have:=pR hi;rw [aw hi,e] at this;exact (db this).symm
 rw [e'] at g;exact g
theorem LX (h:fU l):dF (bE l):=by
 intro r hr
 rcases cy.1 hr with rfl | hr
 ·have:=h.1
  have hb:∀ n:Fin 65,bJ (hdr 3 (n.val:Int)):=by unfold bJ;decide +kernel
  have e:=hb ⟨l.length,by omega⟩
  simpa using e
 ·obtain ⟨x,hx,rfl⟩:=dC.1 hr
  exact acJ (US h x hx)
theorem aal {l:List R4} (h:i+1 < l.length):fC (gU l) i=(rat l (i+1)).1:=by
 have e:(gU l)[i]? = some (rat l (i+1)).1:=by
  unfold gU rat;rw [cX,List.getElem?_drop,Nat.add_comm 1 i,an,aw h]
  rfl
 unfold fC;rw [an,e]
 rfl
theorem acQ {l:List R4} (h:¬ JZ p l):sL p l = []/\sN p l=2:=⟨aq h,aq h⟩
theorem LM {l:List R4} (h:JZ p l):sL p l=gU l/\sN p l=0:=⟨az h,az h⟩
theorem UN {l:List R4} (h:k+1 < l.length):(gU l).take k ++ [(rat l (k+1)).1]=(gU l).take (k+1):=by
 rw [ed,pR (by rw [Dh];omega),aal h]
 rfl
def part (h:R4) (l:List Int) (k:Nat):List R4:=h :: ((l.take k).map gI ++ List.replicate (l.length - k) z4)
theorem zi (h:R4) (l:List Int) (k:Nat) (hk:k<=l.length):(part h l k).length=l.length+1:=by
 simp [part,List.length_take]
 omega
theorem nZ (h:R4) (l:List Int):part h l 0=h :: List.replicate l.length z4:=by simp [part]
theorem nJ (hk:k < l.length):l.take (k+1)=l.take k ++ [fC l k]:=by
 rw [ed,pR hk]
 rfl
theorem yD (h:R4) (hk:k < l.length):(part h l k).set (1+k) (gI (fC l k))=part h l (k+1):=by
 have e1:(l.take k).length=k:=by rw [cM];omega
 unfold part;rw [Nat.add_comm 1 k,List.set_cons_succ,hJ _ _ (by rw [cm,e1];omega),cm,e1,Nat.sub_self,nJ hk];rw [show l.length - k=(l.length - (k+1))+1 by omega,List.replicate_succ]
 simp
theorem wO (h:R4) (l:List Int):part h l l.length=h :: l.map gI:=by
 unfold part;rw [df,Nat.sub_self]
 simp
theorem Te (h:R4) (hk:k < l.length):(h :: (l.take k).map gI) ++ [gI (fC l k)]=h :: (l.take (k+1)).map gI:=by
 rw [nJ hk]
 simp
def JO (l:List Int) (t:Int):Prop:=fU l/\0<=t/\t < l.length
instance (l:List Int) (t:Int):Decidable (JO l t):=by unfold JO;infer_instance
def nR (l:List Int) (t:Int):Int:=if JO l t then fC l t.toNat else 0
def nT (l:List Int) (t:Int):Int:=if JO l t then (if t+1=l.length then 0 else t+1) else 0
def nE (l:List Int) (t:Int):Int:=if JO l t then 0 else 1
def j4 (w:World) (l:List Int) (t:Int) (e:Ending) (w':World):Prop:=e = .returned (.tuple #[.int .i64 (nR l t),.int .i64 (nT l t),.int .i64 (nE l t)])/\Below w.heap.size w w'
theorem MI (h:¬ JO l t) (w':World) (hb:Below w.heap.size w w'):j4 w l t (.returned (.tuple #[.int .i64 0,.int .i64 0,.int .i64 1])) w':=⟨by unfold nR nT nE;rw [aq h,aq h,aq h],hb⟩
theorem PD (h:JO l k) (h1:k+1=l.length) (w':World) (hb:Below w.heap.size w w'):j4 w l k (.returned (.tuple #[.int .i64 (fC l k),.int .i64 0,.int .i64 0])) w':=⟨by unfold nR nT nE;rw [az h,az h,az h,az (by omega)];rfl,hb⟩
theorem OJ (h:JO l k) (h1:k+1≠l.length) (w':World) (hb:Below w.heap.size w w'):j4 w l k (.returned (.tuple #[.int .i64 (fC l k),.int .i64 ((k:Int)+1),.int .i64 0])) w':=⟨by unfold nR nT nE;rw [az h,az h,az h,aq (by omega)];rfl,hb⟩
def nC (w:World) (p:Int) (l:List R4) (e:Ending) (w':World):Prop:=∃ u,e = .returned (.tuple #[u,.int .i64 (sN p l)])/\Rd KI w' u (sL p l)/\Below w.heap.size w w'
def dL (w:World) (l:List Int) (e:Ending) (w':World):Prop:=∃ u,e = .returned (.tuple #[Fl.file (fP l) u,.int .i64 (fN l)])/\Rd K4 w' u (fL l)/\Below w.heap.size w w'
theorem tX (h:¬ fU l) (w':World) (hb:Below w.heap.size w w'):dL w l (.returned (.tuple #[Fl.file 0 (.slice none 0 0),.int .i64 1])) w' :=
 ⟨_,by unfold fP fN;rw [aq h,aq h],by unfold fL;rw [aq h];exact Rw.Rd.nil _,hb⟩
theorem oZ (h:fU l) (u:Value) (w':World) (hr:Rd K4 w' u (bE l)) (hb:Below w.heap.size w w'):dL w l (.returned (.tuple #[Fl.file 3 u,.int .i64 0])) w' :=
 ⟨u,by unfold fP fN;rw [az h,az h],by unfold fL;rw [az h];exact hr,hb⟩
theorem Md {l:List R4} (h:¬ JZ p l) (w':World) (hb:Below w.heap.size w w'):nC w p l (.returned (.tuple #[.slice none 0 0,.int .i64 2])) w' :=
 ⟨_,by rw [(acQ h).2],by rw [(acQ h).1];exact Rw.Rd.nil _,hb⟩
theorem Jk {l:List R4} (h:JZ p l) (u:Value) (w':World) (hr:Rd KI w' u (gU l)) (hb:Below w.heap.size w w'):nC w p l (.returned (.tuple #[u,.int .i64 0])) w' :=
 ⟨u,by rw [(LM h).2],by rw [(LM h).1];exact hr,hb⟩
end Re
namespace Wt
structure A where
 r0:Int
 q0:Int
 r1:Int
 q1:Int
def new:A:=⟨1,0,2,0⟩
def t1 (a:A):A:=if a.r0≠1/\a.r1≠1/\((a.r0=2/\4<=a.q0)\/(a.r0=3/\8<=a.q0)) then { a with r0:=1 } else a
def t2 (a:A):A:=if a.r0≠1/\a.r1≠1/\((a.r1=2/\4<=a.q1)\/(a.r1=3/\9<=a.q1)) then { a with r1:=1 } else a
def tk (a:A):A:=t2 (t1 a)
def hdN (r:Int):Int:=if r=3 then 2 else r
def op (a:A):Int:=if a.r0=1 then 0 else if a.r1=1 then 1 else -1
def hd (a:A):A:=if a.r0=1 then ⟨1,0,hdN a.r1,0⟩ else if a.r1=1 then ⟨hdN a.r0,0,1,0⟩ else ⟨a.r0,a.q0+1,a.r1,a.q1+1⟩
def opn (a:A):Int:=op (tk a)
def lM (a:A):A:=hd (tk a)
def rl (a:A) (n:Int):Int:=if n=0 then a.r0 else if n=1 then a.r1 else 0
def Fb (a:A) (n:Int):Int:=if n=0 then (if a.r0=4 then 10 else 0) else if n=1 then (if a.r1=4 then 10 else 0) else 1
def sI (a:A) (n:Int):A:=if n=0 then { a with r0:=4 } else if n=1 then { a with r1:=4 } else a
def rsE (a:A) (n:Int):Int:=if n=0 then (if a.r0=4 then 0 else 10) else if n=1 then (if a.r1=4 then 0 else 10) else 1
def sD (a:A) (n:Int):A:=if n=0 then (if a.r0=4 then { a with r0:=3,q0:=0 } else a) else if n=1 then (if a.r1=4 then { a with r1:=3,q1:=0 } else a) else a
structure Ok (a:A):Prop where
 b0:1<=a.r0/\a.r0<=4
 b1:1<=a.r1/\a.r1<=4
 one:¬ (a.r0=1/\a.r1=1)
 p0:0<=a.q0
 p1:0<=a.q1
theorem abt:Ok new:=⟨by decide,by decide,by decide,by decide,by decide⟩
section
variable {a:A} (h:Ok a)
include h
theorem Ok.t1:Ok (t1 a):=by
 obtain ⟨h1,h2,h3,h4,h5⟩:=h;unfold Wt.t1
 split
 ·rename_i g
  exact ⟨by simp,h2,fun q=>g.2.1 q.2,h4,h5⟩
 ·exact ⟨h1,h2,h3,h4,h5⟩
theorem Ok.t2:Ok (t2 a):=by
 obtain ⟨h1,h2,h3,h4,h5⟩:=h;unfold Wt.t2
 split
 ·rename_i g
  exact ⟨h1,by simp,fun q=>g.1 q.1,h4,h5⟩
 ·exact ⟨h1,h2,h3,h4,h5⟩
theorem Ok.tk:Ok (tk a):=h.t1.t2
theorem Ok.hd:Ok (hd a):=by
 obtain ⟨h1,h2,h3,h4,h5⟩:=h;unfold Wt.hd hdN
 split
 ·refine ⟨by simp,?_,?_,by simp,by simp⟩ <;> simp only <;> split <;> omega
 ·split
  ·refine ⟨?_,by simp,?_,by simp,by simp⟩ <;> simp only <;> split <;> omega
  ·exact ⟨h1,h2,h3,by simp only;omega,by simp only;omega⟩
theorem Ok.lM:Ok (lM a):=h.tk.hd
theorem Ok.cr (n:Int):Ok (sI a n):=by
 obtain ⟨h1,h2,h3,h4,h5⟩:=h;unfold sI
 split
 ·exact ⟨by simp,h2,by simp,h4,h5⟩
 ·split
  ·exact ⟨h1,by simp,by simp,h4,h5⟩
  ·exact ⟨h1,h2,h3,h4,h5⟩
theorem Ok.rs (n:Int):Ok (sD a n):=by
 obtain ⟨h1,h2,h3,h4,h5⟩:=h;unfold sD
 split
 ·split
  ·exact ⟨by simp,h2,by simp,by simp,h5⟩
  ·exact ⟨h1,h2,h3,h4,h5⟩
 ·split
  ·split
   ·exact ⟨h1,by simp,by simp,h4,by simp⟩
   ·exact ⟨h1,h2,h3,h4,h5⟩
  ·exact ⟨h1,h2,h3,h4,h5⟩
end
def d0 (a:A):Prop:=(a.r0=2/\4<=a.q0)\/(a.r0=3/\8<=a.q0)
def d1 (a:A):Prop:=(a.r1=2/\4<=a.q1)\/(a.r1=3/\9<=a.q1)
theorem Nv (a:A):(opn a=0/\(a.r0=1\/(a.r0≠1/\a.r1≠1/\d0 a))/\(lM a).r0=1)\/(opn a=1/\a.r0≠1/\(a.r1=1\/(a.r1≠1/\¬ d0 a/\d1 a))/\(lM a).r1=1)\/(opn a = -1/\a.r0≠1/\a.r1≠1/\¬ d0 a/\¬ d1 a/\lM a=⟨a.r0,a.q0+1,a.r1,a.q1+1⟩):=by
 obtain ⟨r0,q0,r1,q1⟩:=a;unfold opn lM tk t1 t2 op hd d0 d1
 by_cases e0:r0=1
 ·exact .inl (by simp [e0])
 ·by_cases e1:r1=1
  ·exact .inr (.inl (by simp [e0,e1]))
  ·by_cases g0:(r0=2/\4<=q0)\/(r0=3/\8<=q0)
   ·exact .inl (by simp [e0,e1,g0])
   ·by_cases g1:(r1=2/\4<=q1)\/(r1=3/\9<=q1)
    ·exact .inr (.inl (by simp [e0,e1,g0,g1]))
    ·exact .inr (.inr (by simp [e0,e1,g0,g1]))
section
end
end Wt
namespace Cu
open Fs (key jq oh)
open Pa (qP hr KG)
open Ro (kY qX Mg)
open Re (fC sL sN fU gU JZ)
def fB (A:aT) (n:Int):Bool:=(Fs.look key n A).isSome
def fP (A:aT) (n:Int):Int:=match Fs.look key n A with | none=>0 | some e=>e.2.1
def fR (A:aT) (n:Int):List R4:=match Fs.look key n A with | none=>[] | some e=>e.2.2
theorem Zg {A:aT} (h:eY A) (n:Int):dF (fR A n):=by
 unfold fR
 split
 ·exact nofun
 ·rename_i e he
  exact (h.find he).2.2.1
def jU (A:aT):List Int:=sL (fP A 40) (fR A 40)
def zL (A:aT):Bool:=fB A 40 && decide (sN (fP A 40) (fR A 40)=0)
theorem KV {A:aT} (h:zL A=true):fU (jU A):=by
 unfold zL at h;rw [cg,cQ] at h;obtain ⟨_,h⟩:=h;unfold jU sL;unfold sN at h
 split
 ·rename_i g
  exact g.2.1
 ·rename_i g
  rw [aq g] at h
  omega
structure Cs where
 S:bW
 V:List Bool
 P:Wt.A
 pl:Nat
 Q:List S2
def UE (S:bW) (n:Int):LL:=S.map fun x=>kY (fP x.1 (32+n)) (fR x.1 (32+n))
theorem Le (S:bW) (n:Int):(UE S n).length=S.length:=cm _
theorem aaH (S:bW) (n:Int) {i:Nat} (hi:i < S.length):dH (UE S n) i=kY (fP (sat S i).1 (32+n)) (fR (sat S i).1 (32+n)):=by
 unfold dH UE sat;rw [an,cX,aw hi,cU,an,aw hi]
 rfl
variable {S:bW} {n:Int} {t:List E5}
theorem V9 (h:t∈UE S n):t.length<=16/\∀ x∈t,gT x:=by
 obtain ⟨x,_,rfl⟩:=dC.1 h;have m:=Mg (fP x.1 (32+n)) (fR x.1 (32+n));refine ⟨lq m,fun y hy=>?_⟩;obtain ⟨i,hi⟩:=ef hy;have hl:=(cA.1 hi).1;have:=(m i hl).1;rw [Ro.iY hl] at hi;injection hi with hi;rw [← hi];exact this
def Dv (c:Cs) (l:List Int):Nat:=if l.length<=c.pl then 0 else c.pl
def tH (c:Cs) (l:List Int):Nat:=if Dv c l+1=l.length then 0 else Dv c l+1
def own (c:Cs):aT:=(sat c.S (Wt.opn c.P)).1
def rT (c:Cs):LL:=UE c.S (fC (jU (own c)) (Dv c (jU (own c))))
def rE (c:Cs):Int:=if Wt.opn c.P < 0 then 0 else if zL (own c)=true then jT c.S (rT c) c.V else 2
def rC (c:Cs):Cs :=
 if Wt.opn c.P < 0 then { c with P:=Wt.lM c.P,Q:=[] }
 else if zL (own c)=true then { S:=if jT c.S (rT c) c.V=0 then qP c.S (rT c) c.V c.Q else c.S,V:=c.V,P:=Wt.lM c.P,pl:=tH c (jU (own c)),Q:=[] }
 else { c with P:=Wt.lM c.P,Q:=[] }
structure Ac where
 k:Int
 n:Int
 f:Int
 r:Int
 v:R4
 s:Int
 m:Int
 t:Int
def no (c:Cs) (n:Int):Prop:=n < 0\/(c.S.length:Int)<=n
instance (c:Cs) (n:Int):Decidable (no c n):=by unfold no;infer_instance
def bQ (x:Ac) (c:Cs):Int :=
 if x.k=1 then rE c
 else if x.k=3 then (if c.Q.length=32 then 11 else 0)
 else if x.k < 2\/6 < x.k\/no c x.n then 1
 else if x.k=2 then (if bX c.V x.n=true then (if sB (sat c.S x.n).1 x.f x.r=true then 0 else 3) else 10)
 else if x.k=4 then (if bX c.V x.n=true then 0 else 10)
 else if x.k=5 then (if bX c.V x.n=true then 10 else 0)
 else if x.t < -2000\/2000 < x.t then 1 else 0
def iX (S:bW) (n:Int) (x:aT×Int):bW:=S.set n.toNat x
def bM (x:Ac) (c:Cs):Cs :=
 if x.k=1 then rC c
 else if bQ x c≠0 then c
 else if x.k=3 then { c with Q:=c.Q ++ [(x.s,x.m)] }
 else if x.k=2 then { c with S:=iX c.S x.n (sA (sat c.S x.n).1 x.f x.r x.v,(sat c.S x.n).2) }
 else if x.k=4 then { c with V:=c.V.set x.n.toNat false,P:=Wt.sI c.P x.n }
 else if x.k=5 then { c with V:=c.V.set x.n.toNat true,P:=Wt.sD c.P x.n }
 else c
def xE (c:Cs) (n o f r:Int):Int:=if no c n then 1 else if bX c.V n=true then dE (sat c.S n).1 o f r else 13
def CZ (c:Cs) (n o f r:Int) (x:R4):R4:=if xE c n o f r=0 then dV (sat c.S n).1 o f r x else z4
def Bg (c:Cs) (n o f r:Int) (x:R4):Cs:=if no c n\/bX c.V n=false then c else { c with S:=iX c.S n (dA (sat c.S n).1 o f r x,dD (sat c.S n).1 o f r (sat c.S n).2) }
structure jm (c:Cs) (t:Nat):Prop where
 len:2<=c.S.length/\c.S.length<=32
 lv:c.V.length=c.S.length
 st:∀ i,i < c.S.length->eY (sat c.S i).1/\0<=(sat c.S i).2/\(sat c.S i).2<=100 * t
 pr:Wt.Ok c.P
 pl:c.pl<=64
 few:c.Q.length<=32
theorem KH {x:aT×Int} (h0:0<=n) (h1:n < S.length) (i:Nat):sat (iX S n x) i=if (i:Int)=n then x else sat S i:=by
 unfold sat iX;rw [cU,an,an,ip]
 by_cases e:(i:Int)=n
 ·subst e
  rw [cU,az rfl,az (by omega),az rfl]
  rfl
 ·rw [aq (by omega),aq e]
theorem ZW : ∀ {s:aT×Int},eY s.1->eY (t.foldl Yx s).1:=by
 induction t with
 | nil=>exact id
 | cons x r ih =>
   intro s h
   rw [cz]
   apply ih
   unfold Yx
   split
   ·exact h.do Fl.kJ
   ·exact h
theorem ZS {h:Pa.Hr} (hh:VY h) (ok:∀ x∈t,gT x) {s:aT×Int} (hA:eY s.1):eY (YT h t s).1:=by
 have h0:∀ n,(fun _ _=>true:Int->Int->Bool) n 0=true->Pa.jc t n 0 = []:=fun n _=>List.filter_eq_nil_iff.2 fun x hx2 g=>by
  have k:=ok x hx2;unfold Pa.mt at g;have g:=of_decide_eq_true g;unfold gT Ro.place at k
  omega
 exact ZW (KG hh h0 hA)
section
variable {c:Cs} {t:Nat} (h:jm c t)
include h
theorem jm.next:jm c (t+1):=⟨h.len,h.lv,fun i hi=>by have:=h.st i hi;exact ⟨this.1,this.2.1,by omega⟩,h.pr,h.pl,h.few⟩
theorem jm.iX {n:Int} {x:aT×Int} (h0:0<=n) (h1:n < c.S.length) (hx:eY x.1/\0<=x.2/\x.2<=100 * (t+1:Nat)):jm { c with S:=Cu.iX c.S n x } (t+1):=by
 have hl:(Cu.iX c.S n x).length=c.S.length:=cI;refine ⟨by rw [hl];exact h.len,h.lv.trans hl.symm,fun i hi=>?_,h.pr,h.pl,h.few⟩;rw [hl] at hi
 show eY (sat (Cu.iX c.S n x) i).1/\_
 rw [KH h0 h1]
 split
 ·exact hx
 ·have:=h.st i hi;exact ⟨this.1,this.2.1,by omega⟩
theorem jm.round:jm (rC c) (t+1):=by
 have n:=h.next;unfold rC
 split
 ·exact ⟨n.len,n.lv,n.st,h.pr.lM,n.pl,by simp⟩
 ·split
  ·rename_i hs
   have sq:=KV hs;have hl:(if jT c.S (rT c) c.V=0 then qP c.S (rT c) c.V c.Q else c.S).length=c.S.length:=by
    split
    ·rename_i e
     have er:qP c.S (rT c) c.V c.Q=Ai c.S (rT c) c.V (hr c.S (rT c) c.V c.Q):=az e;rw [er,jK]
    ·rfl
   refine ⟨by rw [hl];exact h.len,h.lv.trans hl.symm,fun i hi=>?_,h.pr.lM,?_,by simp⟩
   ·rw [hl] at hi
    show eY (sat (if jT c.S (rT c) c.V=0 then qP c.S (rT c) c.V c.Q else c.S) i).1/\0<=(sat (if jT c.S (rT c) c.V=0 then qP c.S (rT c) c.V c.Q else c.S) i).2/\(sat (if jT c.S (rT c) c.V=0 then qP c.S (rT c) c.V c.Q else c.S) i).2<=_
    have hi':=h.st i hi
    split
    ·rename_i e
     have er:qP c.S (rT c) c.V c.Q=Ai c.S (rT c) c.V (hr c.S (rT c) c.V c.Q):=az e;rw [er,qE _ _ _ _ hi]
     split
     ·have hm:dH (rT c) i∈rT c:=by
       have hl2:i < (rT c).length:=by unfold rT;rw [Le];exact hi
       unfold dH;rw [an,aw hl2];exact dy hl2
      obtain ⟨m1,m2⟩:=V9 (S:=c.S) (n:=fC (jU (own c)) (Dv c (jU (own c)))) hm;have hd:=Lc (t:=dH (rT c) i) ((Pa.tJ (hr c.S (rT c) c.V c.Q) (dH (rT c) i) (sat c.S i).1),(sat c.S i).2) (dH (rT c) i).length;rw [Di] at hd;simp only at hd;exact ⟨ZS (Gp _ _ _ _) m2 hi'.1,by omega,by omega⟩
     ·exact ⟨hi'.1,hi'.2.1,by omega⟩
    ·exact ⟨hi'.1,hi'.2.1,by omega⟩
   ·show tH c (jU (own c))<=64
    unfold tH Dv;have:=sq.1;have:=h.pl
    split <;> split <;> omega
  ·exact ⟨n.len,n.lv,n.st,h.pr.lM,n.pl,by simp⟩
theorem jm.act (x:Ac) (hx:bJ x.v):jm (bM x c) (t+1):=by
 have n:=h.next;unfold bM
 by_cases h1:x.k=1
 ·rw [az h1];exact h.round
 ·rw [aq h1]
  by_cases he:bQ x c≠0
  ·rw [az he];exact n
  ·rw [aq he]
   have he:=Classical.not_not.1 he;unfold bQ at he;rw [aq h1] at he
   by_cases h3:x.k=3
   ·rw [az h3]
    rw [az h3] at he;refine ⟨n.len,n.lv,n.st,n.pr,n.pl,?_⟩
    show (c.Q ++ [(x.s,x.m)]).length<=32
    have:=h.few;rw [cW]
    split at he
    ·omega
    ·simp only [eN,gh];omega
   ·rw [aq h3]
    rw [aq h3] at he
    by_cases hn:x.k < 2\/6 < x.k\/no c x.n
    ·rw [az hn] at he;omega
    ·have hin:0<=x.n/\x.n < c.S.length:=by
      have:¬ no c x.n:=fun g=>hn (.inr (.inr g));unfold no at this
      omega
     by_cases h2:x.k=2
     ·rw [az h2]
      have hs:=h.st x.n.toNat (by omega);rw [fj hin.1] at hs;exact h.iX hin.1 hin.2 ⟨hs.1.set hx,hs.2.1,by simp only;omega⟩
     ·rw [aq h2]
      by_cases h4:x.k=4
      ·rw [az h4]
       exact ⟨n.len,by show (c.V.set _ _).length=_;rw [cI];exact h.lv,n.st,h.pr.cr x.n,n.pl,n.few⟩
      ·rw [aq h4]
       by_cases h5:x.k=5
       ·rw [az h5]
        exact ⟨n.len,by show (c.V.set _ _).length=_;rw [cI];exact h.lv,n.st,h.pr.rs x.n,n.pl,n.few⟩
       ·rw [aq h5];exact n
theorem jm.serve (n o f r:Int) (x:R4) (hx:bJ x):jm (Bg c n o f r x) (t+1):=by
 unfold Bg
 split
 ·exact h.next
 ·rename_i g
  have hin:0<=n/\n < c.S.length:=by
   have:¬ no c n:=fun q=>g (.inl q);unfold no at this
   omega
  have hs:=h.st n.toNat (by omega);rw [fj hin.1] at hs;have:=TX (A:=(sat c.S n).1) (o:=o) (f:=f) (r:=r) (d:=(sat c.S n).2);exact h.iX hin.1 hin.2 ⟨hs.1.do hx,by simp only;omega,by simp only;omega⟩
end
theorem pU {V:List Bool} {b:Bool} (h0:0<=n) (h1:n < V.length) (i:Int) (hi:0<=i):bX (V.set n.toNat b) i=if i=n then b else bX V i:=by
 unfold bX;rw [an,an,ip]
 by_cases e:i=n
 ·subst e
  rw [az rfl,az (by omega),az rfl]
  rfl
 ·rw [aq (by omega),aq e]
abbrev Pl:=List sH×Int
def fH (L:List Pl) (i:Nat):Pl:=L.getD i ([],0)
def gdF (F:List sH):Prop:=Fs.qB key F/\∀ e∈F,(0<=e.1/\e.1<=63)/\aL e.2.1 e.2.2
def P6 (p:Pl):Prop:=gdF p.1/\-2000<=p.2/\p.2<=2000
def agree (L:List Pl):Prop:=zL (fH L 0).1=true/\fB (fH L 1).1 40=true/\fP (fH L 0).1 40=fP (fH L 1).1 40/\fR (fH L 0).1 40=fR (fH L 1).1 40
open Classical in
noncomputable def newE (L:List Pl):Int:=if L.length < 2\/32 < L.length then 1 else if ∀ p∈L,P6 p then (if agree L then 0 else 10) else 2
def newC (L:List Pl):Cs:=⟨L.map fun p=>(p.1,0),L.map fun _=>true,Wt.new,0,[]⟩
variable {L:List Pl} {i t:Nat}
theorem C7 (hi:i < L.length):sat (newC L).S i=((fH L i).1,0):=by
 unfold sat newC fH;rw [cU,an,cX,aw hi,an,aw hi]
 rfl
theorem Kr (hi:i < L.length):bX (newC L).V i=true:=by
 unfold bX newC;rw [cU,an,cX,aw hi]
 rfl
theorem JG (h:newE L=0) (ok:∀ p∈L,∀ e∈p.1,dF e.2.2):jm (newC L) 0:=by
 unfold newE at h
 split at h
 ·omega
 ·rename_i hl
  split at h
  ·rename_i hg
   have hll:(newC L).S.length=L.length:=cm _;refine ⟨by rw [hll];omega,by show (L.map _).length=(L.map _).length;rw [cm,cm],fun i hi=>?_,Wt.abt,by show 0<=64;omega,by show 0<=32;omega⟩;have hi':i < L.length:=by
    have:(newC L).S.length=L.length:=cm _
    omega
   have hm:fH L i∈L:=by
    unfold fH;rw [an,aw hi'];exact dy hi'
   obtain ⟨⟨g1,g2⟩,_⟩:=hg _ hm;rw [C7 hi'];exact ⟨⟨g1,fun e he=>(g2 e he).1,fun e he=>(g2 e he).2,ok (fH L i) hm⟩,im _,by omega⟩
  ·omega
def dU (x:Ac):Array Value:=#[.int .i64 x.k,.int .i64 x.n,.int .i64 x.f,.int .i64 x.r,.int .u8 x.v.1,.int .u8 x.v.2.1,.int .u8 x.v.2.2.1,.int .u8 x.v.2.2.2,.int .i64 x.s,.int .i64 x.m,.int .i64 x.t]
def iM (x:Ac):Value:=.agg (dU x)
def oO (c:Cs):Prop:=(bX c.V 0=true↔c.P.r0≠4)/\(bX c.V 1=true↔c.P.r1≠4)
theorem adk (a:Wt.A):((Wt.t1 a).r0=4↔a.r0=4)/\(Wt.t1 a).r1=a.r1:=by
 unfold Wt.t1
 split
 ·rename_i g
  refine ⟨?_,rfl⟩
  show (1:Int)=4↔_
  omega
 ·exact ⟨Iff.rfl,rfl⟩
theorem adH (a:Wt.A):((Wt.t2 a).r1=4↔a.r1=4)/\(Wt.t2 a).r0=a.r0:=by
 unfold Wt.t2
 split
 ·rename_i g
  refine ⟨?_,rfl⟩
  show (1:Int)=4↔_
  omega
 ·exact ⟨Iff.rfl,rfl⟩
theorem ZF (r:Int):Wt.hdN r=4↔r=4:=by
 unfold Wt.hdN
 split <;> omega
theorem adB (a:Wt.A):((Wt.hd a).r0=4↔a.r0=4)/\((Wt.hd a).r1=4↔a.r1=4):=by
 unfold Wt.hd
 split
 ·rename_i g
  refine ⟨?_,ZF _⟩
  show (1:Int)=4↔_
  omega
 ·split
  ·rename_i g
   refine ⟨ZF _,?_⟩
   show (1:Int)=4↔_
   omega
  ·exact ⟨Iff.rfl,Iff.rfl⟩
theorem abT (a:Wt.A):((Wt.lM a).r0=4↔a.r0=4)/\((Wt.lM a).r1=4↔a.r1=4):=by
 unfold Wt.lM Wt.tk;have h1:=adB (Wt.t2 (Wt.t1 a));have h2:=adH (Wt.t1 a);have h3:=adk a;rw [h1.1,h1.2,h2.1,h2.2,h3.1,h3.2];exact ⟨Iff.rfl,Iff.rfl⟩
theorem oO.lM {c:Cs} (h:oO c):(bX c.V 0=true↔(Wt.lM c.P).r0≠4)/\(bX c.V 1=true↔(Wt.lM c.P).r1≠4):=by
 have q:=abT c.P;refine ⟨h.1.trans ?_,h.2.trans ?_⟩
 ·rw [Ne,Ne,q.1]
 ·rw [Ne,Ne,q.2]
variable {c:Cs}
theorem oO.round (h:oO c):oO (rC c):=by
 have q:=h.lM;unfold rC
 split
 ·exact q
 ·split
  ·exact q
  ·exact q
theorem Cn (L:List Pl) (h:2<=L.length):oO (newC L):=by
 refine ⟨?_,?_⟩
 ·have:=Kr (L:=L) (i:=0) (by omega)
  rw [show bX (newC L).V 0=true from this]
  show true=true↔(1:Int)≠4
  simp
 ·have:=Kr (L:=L) (i:=1) (by omega)
  rw [show bX (newC L).V 1=true from this]
  show true=true↔(2:Int)≠4
  simp
theorem oO.act (h:oO c) (ok:jm c t) (x:Ac):oO (bM x c):=by
 unfold bM
 by_cases h1:x.k=1
 ·rw [az h1];exact h.round
 ·rw [aq h1]
  by_cases he:bQ x c≠0
  ·rw [az he];exact h
  ·rw [aq he]
   have he:=Classical.not_not.1 he;unfold bQ at he;rw [aq h1] at he
   by_cases h3:x.k=3
   ·rw [az h3];exact h
   ·rw [aq h3]
    rw [aq h3] at he
    by_cases hn:x.k < 2\/6 < x.k\/no c x.n
    ·rw [az hn] at he;omega
    ·rw [aq hn] at he
     have hin:0<=x.n/\x.n < c.S.length:=by
      have:¬ no c x.n:=fun g=>hn (.inr (.inr g));unfold no at this
      omega
     have hv:=ok.lv
     by_cases h2:x.k=2
     ·rw [az h2];exact h
     ·rw [aq h2]
      by_cases h4:x.k=4
      ·rw [az h4]
       have v0:bX (c.V.set x.n.toNat false) 0=_:=pU hin.1 (by omega) 0 (by omega);have v1:bX (c.V.set x.n.toNat false) 1=_:=pU hin.1 (by omega) 1 (by omega);refine ⟨?_,?_⟩
       ·show bX (c.V.set x.n.toNat false) 0=true↔(Wt.sI c.P x.n).r0≠4
        rw [v0];unfold Wt.sI
        by_cases e:x.n=0
        ·rw [az e.symm,az e];simp
        ·rw [aq (fun g=>e g.symm),aq e]
         split <;> exact h.1
       ·show bX (c.V.set x.n.toNat false) 1=true↔(Wt.sI c.P x.n).r1≠4
        rw [v1];unfold Wt.sI
        by_cases e:x.n=0
        ·rw [aq (by omega),az e];exact h.2
        ·rw [aq e]
         by_cases e1:x.n=1
         ·rw [az e1.symm,az e1];simp
         ·rw [aq (fun g=>e1 g.symm),aq e1];exact h.2
      ·rw [aq h4]
       rw [aq h2,aq h4] at he
       by_cases h5:x.k=5
       ·rw [az h5]
        rw [az h5] at he;have hvn:bX c.V x.n=false:=by
         cases hb:bX c.V x.n with
         | false=>rfl
         | true=>rw [hb,az rfl] at he;omega
        have v0:bX (c.V.set x.n.toNat true) 0=_:=pU hin.1 (by omega) 0 (by omega);have v1:bX (c.V.set x.n.toNat true) 1=_:=pU hin.1 (by omega) 1 (by omega);refine ⟨?_,?_⟩
        ·show bX (c.V.set x.n.toNat true) 0=true↔(Wt.sD c.P x.n).r0≠4
         rw [v0];unfold Wt.sD
         by_cases e:x.n=0
         ·rw [az e.symm,az e]
          have r4:c.P.r0=4:=Classical.not_not.1 fun g=>by have:=h.1.2 g;rw [e] at hvn;rw [hvn] at this;cases this
          rw [az r4];simp
         ·rw [aq (fun g=>e g.symm),aq e]
          split
          ·split <;> exact h.1
          ·exact h.1
        ·show bX (c.V.set x.n.toNat true) 1=true↔(Wt.sD c.P x.n).r1≠4
         rw [v1];unfold Wt.sD
         by_cases e:x.n=0
         ·rw [aq (by omega),az e]
          split <;> exact h.2
         ·rw [aq e]
          by_cases e1:x.n=1
          ·rw [az e1.symm,az e1]
           have r4:c.P.r1=4:=Classical.not_not.1 fun g=>by have:=h.2.2 g;rw [e1] at hvn;rw [hvn] at this;cases this
           rw [az r4];simp
          ·rw [aq (fun g=>e1 g.symm),aq e1];exact h.2
       ·rw [aq h5];exact h
theorem oO.serve (h:oO c) (n o f r:Int) (x:Fl.R4):oO (Bg c n o f r x):=by
 unfold Bg
 split
 ·exact h
 ·exact h
end Cu
namespace Rq
open Go.RowKit
structure Q where
 id:Int
 k:Int
 n:Int
 f:Int
 r:Int
 v:R4
 key:Int
structure Y where
 id:Int
 e:Int
 v:R4
def zQ:Q:=⟨0,0,0,0,0,z4,0⟩
def zY:Y:=⟨0,0,z4⟩
def okV (v:R4):Prop:=(0<=v.1/\v.1 < 256)/\(0<=v.2.1/\v.2.1 < 256)/\(0<=v.2.2.1/\v.2.2.1 < 256)/\0<=v.2.2.2/\v.2.2.2 < 256
def bare (v:R4):Prop:=v.1=0/\v.2.1=0/\v.2.2.1=0/\v.2.2.2=0
def good (x:Q):Prop:=(0<=x.id/\x.id<=65535)/\(1<=x.k/\x.k<=4)/\(0<=x.n/\x.n<=31)/\(0<=x.f/\x.f<=63)/\(0<=x.r/\x.r<=255)/\(0<=x.key/\x.key<=255)/\(x.k=4->x.f=0/\x.r=0)/\(x.k=2\/x.v.1=0/\x.v.2.1=0/\x.v.2.2.1=0/\x.v.2.2.2=0)
instance (x:Q):Decidable (good x):=by unfold good;infer_instance
def may (y:Y):Prop:=(0<=y.id/\y.id<=65535)/\(0<=y.e/\y.e<=16)/\(y.e=0\/y.v.1=0/\y.v.2.1=0/\y.v.2.2.1=0/\y.v.2.2.2=0)
instance (y:Y):Decidable (may y):=by unfold may;infer_instance
def cB (x:Q):Bool:=decide (good x)
def fA (y:Y):Bool:=decide (may y)
def qb (x:Q):List Int:=[0,if x.k=2 then 11 else 7,x.id / 256,x.id % 256,x.k,x.n,x.f,x.r,x.key] ++ if x.k=2 then [x.v.1,x.v.2.1,x.v.2.2.1,x.v.2.2.2] else []
def yb (y:Y):List Int:=[0,7,y.id / 256,y.id % 256,y.e,y.v.1,y.v.2.1,y.v.2.2.1,y.v.2.2.2]
def nG (l:List Int):Q:=⟨l.getD 2 0 * 256+l.getD 3 0,l.getD 4 0,l.getD 5 0,l.getD 6 0,l.getD 7 0,if l.length=13 then (l.getD 9 0,l.getD 10 0,l.getD 11 0,l.getD 12 0) else z4,l.getD 8 0⟩
def Vw (l:List Int):Y:=⟨l.getD 2 0 * 256+l.getD 3 0,l.getD 4 0,(l.getD 5 0,l.getD 6 0,l.getD 7 0,l.getD 8 0)⟩
def xM (l:List Int):Prop:=(l.length=9\/l.length=13)/\good (nG l)/\qb (nG l)=l
def isY (l:List Int):Prop:=l.length=9/\may (Vw l)/\yb (Vw l)=l
instance (l:List Int):Decidable (xM l):=by unfold xM;infer_instance
instance (l:List Int):Decidable (isY l):=by unfold isY;infer_instance
end Rq
namespace Qe
open Rq (Q zQ)
structure Qs where
 L:List Q
 t:Int
def ok (s:Qs):Prop:=s.L.length<=8/\(0<=s.t/\s.t<=2)/\(s.L = []->s.t=0)
def q0:Qs:=⟨[],0⟩
def fst (s:Qs):Q:=s.L.headD zQ
def has (s:Qs):Bool:=decide (0 < s.L.length)
def H9 (s:Qs):Int:=if 8<=s.L.length then 12 else 0
def Qi (s:Qs) (x:Q):Qs:=if 8<=s.L.length then s else ⟨s.L ++ [x],s.t⟩
def qM (s:Qs):Qs:=⟨s.L.tail,0⟩
def zV (s:Qs):Bool:=decide (0 < s.L.length/\s.t=2)
def faV (s:Qs):Q:=if 0 < s.L.length/\s.t=2 then fst s else zQ
def JD (s:Qs):Qs:=if 0 < s.L.length then (if s.t=2 then qM s else ⟨s.L,s.t+1⟩) else s
theorem abg:ok q0:=⟨by decide,⟨by decide,by decide⟩,fun _=>rfl⟩
variable {s:Qs}
theorem Xz (h:ok s) (x:Q):ok (Qi s x):=by
 unfold Qi
 by_cases h8:8<=s.L.length
 ·rw [az h8];exact h
 ·rw [aq h8]
  exact ⟨by simp;omega,h.2.1,fun e=>by simp at e⟩
theorem QX (h:ok s):ok (qM s):=⟨by have:=h.1;simp [qM];omega,⟨im 0,show (0:Int)<=2 by decide⟩,fun _=>rfl⟩
theorem YI (h:ok s):ok (JD s):=by
 unfold JD
 by_cases h0:0 < s.L.length
 ·rw [az h0]
  by_cases h2:s.t=2
  ·rw [az h2];exact QX h
  ·rw [aq h2]
   have:=h.2.1;exact ⟨h.1,by dsimp only;omega,fun e=>by rw [e] at h0;simp at h0⟩
 ·rw [aq h0];exact h
theorem pop_empty (h:ok s) (e:s.L = []):qM s=s:=by
 obtain ⟨L,t⟩:=s;subst e;have:=h.2.2 rfl;simp only at this;subst this
 rfl
end Qe
namespace Rq
open Go.RowKit
def KU:Rw.Kind Int:=Rw.int .u8
def qA (x:Q):Array Value:=#[.int .i64 x.id,.int .i64 x.k,.int .i64 x.n,.int .i64 x.f,.int .i64 x.r,.int .u8 x.v.1,.int .u8 x.v.2.1,.int .u8 x.v.2.2.1,.int .u8 x.v.2.2.2,.int .i64 x.key]
def yA (y:Y):Array Value:=#[.int .i64 y.id,.int .i64 y.e,.int .u8 y.v.1,.int .u8 y.v.2.1,.int .u8 y.v.2.2.1,.int .u8 y.v.2.2.2]
def qV (x:Q):Value:=.agg (qA x)
def yV (y:Y):Value:=.agg (yA y)
variable {a b:Bool}
theorem ak (h:a=b):Ending.returned (.bool a) = .returned (.bool b):=by rw [h]
def kV (w:World) (x:Q) (e:Ending) (w':World):Prop:=∃ v,e = .returned (.tuple #[v,.int .i64 (if good x then 0 else 1)])/\Ow KU w' w.heap.size 5 v (if good x then qb x else [])/\Below w.heap.size w w'
variable {P:Program} {args cs:Array Value} {w:World}
theorem aI {f:Nat} {B:Nat} (e:a=b) (c:Calls P f args w fun e w'=>e = .returned (.bool a)/\Below B w w'):Calls P f args w fun e w'=>e = .returned (.bool b)/\Below B w w':=by rw [← e];exact c
theorem SH:(prog.info? 5).map (fun i=>(i.zero,i.size,i.bytes))=some (some (.int .u8 0),1,1):=by kernel_rfl
theorem u8_in {x:Int} (h0:0<=x) (h1:x < 256):IntKind.u8.wrap x=x:=by simp [IntKind.wrap,IntKind.bits,IntKind.signed];omega
def nQ (w:World) (y:Y) (e:Ending) (w':World):Prop:=∃ v,e = .returned (.tuple #[v,.int .i64 (if may y then 0 else 1)])/\Ow KU w' w.heap.size 5 v (if may y then yb y else [])/\Below w.heap.size w w'
variable {fn:Func} {p r:Tmp}
theorem bN (h:fn.results=#[.cell p 44,.tmp r]) (tmps:Array Value) (w:World) (g:Nat) (v:Value) (hp:tmps.getD p undef = .pointer (some ⟨g,0,none⟩)) (hr:tmps.getD r undef=v) (h1:w.heap[g]? = some (.cells cs 44 (0,0))) (hs:cs.size=6) :
 (results fn tmps).run prog w = .ok (.tuple #[.agg cs,v]) w:=by
 have e2:=fW (P:=prog) w g 44 44 cs (0,0) _ h1 underlying44 rfl (by rw [hs];show _=some 6;kernel_rfl);have hp':tmps[p]?.getD undef = .pointer (some ⟨g,0,none⟩):=by simpa using hp
 have hr':tmps[r]?.getD undef=v:=by simpa using hr
 simp only [results,h]
 simp [Result.andThen,hp',hr',asAddr,e2]
theorem aP (h:fn.results=#[.cell p 53,.tmp r]) (tmps:Array Value) (w:World) (g:Nat) (v:Value) (hp:tmps.getD p undef = .pointer (some ⟨g,0,none⟩)) (hr:tmps.getD r undef=v) (h1:w.heap[g]? = some (.cells cs 53 (0,0))) (hs:cs.size=10) :
 (results fn tmps).run prog w = .ok (.tuple #[.agg cs,v]) w:=by
 have e2:=fW (P:=prog) w g 53 53 cs (0,0) _ h1 underlying53 rfl (by rw [hs];show _=some 10;kernel_rfl);have hp':tmps[p]?.getD undef = .pointer (some ⟨g,0,none⟩):=by simpa using hp
 have hr':tmps[r]?.getD undef=v:=by simpa using hr
 simp only [results,h]
 simp [Result.andThen,hp',hr',asAddr,e2]
def fJ (w:World) (l:List Int) (e:Ending) (w':World):Prop:=e = .returned (.tuple #[yV (if isY l then Vw l else zY),.int .i64 (if isY l then 0 else 2)])/\Below w.heap.size w w'
def dK (w:World) (l:List Int) (e:Ending) (w':World):Prop:=e = .returned (.tuple #[qV (if xM l then nG l else zQ),.int .i64 (if xM l then 0 else 2)])/\Below w.heap.size w w'
variable {l m:List Int}
theorem pG {b off:Nat} (A:At KU w b off l):∀ i,i < l.length->w.cell? ⟨b,off+i,none⟩=some (.int .u8 (l.getD i 0)):=fun i hi=>by
 have:=A i hi 0 (.int .u8 (l.getD i 0)) rfl
 rwa [show off+i * KU.n+0=off+i by show off+i * 1+0=_;omega] at this
theorem str_eq (h:∀ x∈l,0<=x/\x < 256) (k:∀ x∈m,0<=x/\x < 256) (e:(strOfNums l).toList=(strOfNums m).toList):l=m:=by
 rw [ByteArray.toList_eq,ByteArray.toList_eq,strOfNums_data,strOfNums_data] at e
 induction l generalizing m with
 | nil=>cases m with
   | nil=>rfl
   | cons y r=>cases e
 | cons x l ih=>cases m with
   | nil=>cases e
   | cons y r =>
     injection e with e1 e2;have hx:=h x (cG ..);have hy:=k y (cG ..);have e3:(UInt8.ofNat x.toNat).toNat=(UInt8.ofNat y.toNat).toNat:=dv UInt8.toNat e1;simp only [UInt8.toNat_ofNat'] at e3;rw [ih (fun z hz=>h z (cC _ hz)) (fun z hz=>k z (cC _ hz)) e2,show x=y by omega]
theorem vH (w:World) (n:Int) (b:Bool) (h:decide (0<=n/\n<=65535)=b):Calls prog 76 #[.int .i64 n] w fun e w'=>e = .returned (.bool b)/\w=w':=by
 have H:=Hh h;clear h
 rcases (by omega:n < 0\/0<=n/\n<=65535\/0<=n/\65535 < n) with h | ⟨h,h'⟩ | ⟨h,h'⟩
 all_goals
  go_enter func76,ntmps76
  go_wp2
  go_ret
  exact ⟨ak (by rw [← H.out];first | exact (bj (by omega)).symm | exact (bh (by omega)).symm | exact cY.2 (by omega)),rfl⟩
def plB (x:Q):Bool:=decide ((0<=x.n/\x.n<=31)/\(0<=x.f/\x.f<=63)/\0<=x.r/\x.r<=255)
theorem JL (w:World) (x:Q) (b:Bool) (h:plB x=b):Calls prog 77 #[qV x] w fun e w'=>e = .returned (.bool b)/\Below w.heap.size w w':=by
 have H:=Hh h;clear h;have B0:=Hh ((af w.heap.size w).alloc (am _) (.cells (qA x) 53));obtain ⟨id,k,n,f,r,⟨v0,v1,v2,v3⟩,key⟩:=x;unfold qV qA;unfold qA at B0;unfold plB at H;dsimp only at B0 H ⊢
 rcases (by omega:n < 0\/0<=n/\32<=n\/(0<=n/\n < 32)/\(f < 0\/0<=f/\64<=f\/(0<=f/\f < 64)/\(r < 0\/0<=r/\256<=r\/0<=r/\r < 256))) with h | ⟨h1,h⟩ | ⟨⟨h1,h2⟩,h | ⟨h3,h⟩ | ⟨⟨h3,h4⟩,h | ⟨h5,h⟩ | ⟨h5,h⟩⟩⟩
 all_goals
  go_enter func77,ntmps77
  go_wp2
  go_ret
  exact ⟨ak (by rw [← H.out];first | exact (bj (by omega)).symm | exact (bh (by omega)).symm | exact cY.2 (by omega)),B0.out⟩
instance (v:R4):Decidable (bare v):=by unfold bare;infer_instance
theorem Db (v0 v1 v2 v3:Int) (b:Bool) (h:decide (bare (v0,v1,v2,v3))=b) (w:World):(Op.equalIn 10000 36 (.agg #[.int .u8 v0,.int .u8 v1,.int .u8 v2,.int .u8 v3]) (.agg #[.int .u8 0,.int .u8 0,.int .u8 0,.int .u8 0])).run prog w = .ok b w:=by
 have:=Fl.qW (v0,v1,v2,v3) z4 w;rw [← h]
 rw [show decide (bare (v0,v1,v2,v3))=decide ((v0,v1,v2,v3)=z4) from by
  rw [cY];unfold bare z4
  simp only [Prod.mk.injEq]]
 exact this
theorem Od (w:World) (x:Q) (hk:x.k < 1\/4 < x.k\/x.k=4/\x.f≠0\/x.k=4/\x.f=0/\x.r≠0):Calls prog 47 #[qV x] w fun e w'=>e = .returned (.bool false)/\Below w.heap.size w w':=by
 have B0:=Hh ((af w.heap.size w).alloc (am _) (.cells (qA x) 53));obtain ⟨id,k,n,f,r,⟨v0,v1,v2,v3⟩,key⟩:=x;unfold qV qA;unfold qA at B0;dsimp only at B0 hk ⊢
 rcases hk with h | h | ⟨rfl,h⟩ | ⟨rfl,rfl,h⟩
 case' inl | inr.inl =>
  have n1:¬ k=1:=by omega
  have n2:¬ k=2:=by omega
  have n3:¬ k=3:=by omega
  have n4:¬ k=4:=by omega
  clear h
 all_goals
  go_enter func47,ntmps47
  go_wp2
  go_ret
  exact ⟨ak rfl,B0.out⟩
theorem MW (w:World) (x:Q) (hv:¬ bare x.v) (hk:x.k=4/\x.f=0/\x.r=0\/x.k=1\/x.k=3):Calls prog 47 #[qV x] w fun e w'=>e = .returned (.bool false)/\Below w.heap.size w w':=by
 have B0:=Hh ((af w.heap.size w).alloc (am _) (.cells (qA x) 53));obtain ⟨id,k,n,f,r,⟨v0,v1,v2,v3⟩,key⟩:=x;have es:=Db v0 v1 v2 v3 false (bh hv);unfold qV qA;unfold qA at B0;clear hv;dsimp only at B0 hk ⊢
 rcases hk with ⟨rfl,rfl,rfl⟩ | rfl | rfl
 all_goals
  go_enter func47,ntmps47
  go_wp2
  go_ret
  exact ⟨ak rfl,B0.out⟩
def kd (x:Q):Prop:=x.k=4/\x.f=0/\x.r=0/\bare x.v\/x.k=1/\bare x.v\/x.k=3/\bare x.v\/x.k=2
theorem WU (w:World) (x:Q) (hk:kd x) (hi:¬ (0<=x.id/\x.id<=65535)):Calls prog 47 #[qV x] w fun e w'=>e = .returned (.bool false)/\Below w.heap.size w w':=by
 have B0:=Hh ((af w.heap.size w).alloc (am _) (.cells (qA x) 53));obtain ⟨id,k,n,f,r,⟨v0,v1,v2,v3⟩,key⟩:=x;have I:=fun w=>Hh (vH w id false (bh hi));unfold qV qA;unfold qA at B0;unfold kd at hk;clear hi;dsimp only at B0 hk ⊢
 rcases hk with ⟨rfl,rfl,rfl,hv⟩ | ⟨rfl,hv⟩ | ⟨rfl,hv⟩ | rfl
 case' inl | inr.inl | inr.inr.inl =>
  have es:=Db v0 v1 v2 v3 true (bj hv);clear hv
 all_goals
  go_enter func47,ntmps47
  go_wp2_with fail;refine (I _).out.mono ?_;rintro e w1 ⟨rfl,rfl⟩;go_wp2
  go_ret
  exact ⟨ak rfl,B0.out⟩
theorem Jf (w:World) (x:Q) (hk:kd x) (hi:0<=x.id/\x.id<=65535) (b c:Bool) (hp:plB x=b) (hc:(b && decide (0<=x.key/\x.key<=255))=c):Calls prog 47 #[qV x] w fun e w'=>e = .returned (.bool c)/\Below w.heap.size w w':=by
 have B0:=Hh ((af w.heap.size w).alloc (am _) (.cells (qA x) 53));have R0:=Hh (bi w (.cells (qA x) 53));have PL:=fun w=>Hh (JL w x b hp);clear hp;obtain ⟨id,k,n,f,r,⟨v0,v1,v2,v3⟩,key⟩:=x;have I:=fun w=>Hh (vH w id true (bj hi));unfold qV qA at *;unfold kd at hk;clear hi;dsimp only at B0 R0 PL hk hc ⊢;have HC:=Hh hc;clear hc
 rcases hk with ⟨rfl,rfl,rfl,hv⟩ | ⟨rfl,hv⟩ | ⟨rfl,hv⟩ | rfl
 case' inl | inr.inl | inr.inr.inl =>
  have es:=Db v0 v1 v2 v3 true (bj hv);clear hv
 all_goals
  go_enter func47,ntmps47
  go_wp2_with fail;refine (I _).out.mono ?_;rintro e w1 ⟨rfl,rfl⟩;go_wp2_with fail;refine (PL _).out.mono ?_;rintro e w2 ⟨rfl,b2⟩;have B2:=aN B0.out b2;have c9:=dw (bU b2 R0.out) 9;clear b2 B0 R0
  cases b
  ·go_wp2
   go_ret
   exact ⟨ak HC.out,B2.out⟩
  ·rcases (by omega:key < 0\/0<=key/\key<=255\/0<=key/\255 < key) with h | ⟨h,h'⟩ | ⟨h,h'⟩
   all_goals
    go_wp2
    go_ret
    exact ⟨ak (by rw [← HC.out];first | exact (bj (by omega)).symm | exact (bh (by omega)).symm | exact cY.2 (by omega)),B2.out⟩
theorem aQ (w:World) (x:Q):Calls prog 47 #[qV x] w fun e w'=>e = .returned (.bool (cB x))/\Below w.heap.size w w':=by
 have no:∀ {c:Bool},(c=cB x)->(Calls prog 47 #[qV x] w fun e w'=>e = .returned (.bool c)/\Below w.heap.size w w')->Calls prog 47 #[qV x] w fun e w'=>e = .returned (.bool (cB x))/\Below w.heap.size w w':=fun h c=>h ▸ c;have fl:∀ {p:Prop},¬ good x->false=cB x:=fun h=>(bh h).symm
 by_cases h1:x.k < 1\/4 < x.k\/x.k=4/\x.f≠0\/x.k=4/\x.f=0/\x.r≠0
 ·exact no (fl (p:=True) (by unfold good;omega)) (Od w x h1)
 ·by_cases h2:bare x.v\/x.k=2
  ·have hk:kd x:=by
    rcases h2 with hb | hb
    ·rcases (by omega:x.k=4/\x.f=0/\x.r=0\/x.k=1\/x.k=3\/x.k=2) with ⟨a,b,c⟩ | a | a | a
     ·exact .inl ⟨a,b,c,hb⟩
     ·exact .inr (.inl ⟨a,hb⟩)
     ·exact .inr (.inr (.inl ⟨a,hb⟩))
     ·exact .inr (.inr (.inr a))
    ·exact .inr (.inr (.inr hb))
   by_cases h3:0<=x.id/\x.id<=65535
   ·refine no ?_ (Jf w x hk h3 _ _ rfl rfl)
    unfold plB cB;rw [← Bool.decide_and,cY];unfold good;unfold kd bare at hk
    omega
   ·exact no (fl (p:=True) (by unfold good;omega)) (WU w x hk h3)
  ·have h4:¬ x.k=2:=fun h=>h2 (.inr h)
   refine no (fl (p:=True) ?_) (MW w x (fun h=>h2 (.inl h)) (by omega));unfold good;unfold bare at h2
   omega
theorem Me {g:Nat} {t:TypeId} (off:Nat) (l:List Int) (cap:Nat) (h:w.heap[g]? = some (.cells cs t (0,0))) (e:∀ i x,l[i]? = some x->cs[off+i]? = some (.int .u8 x)) (h1:l.length<=cap) (h2:cap<=maxLen):Rd KU w (.slice (some ⟨g,off,none⟩) l.length cap) l :=
 ⟨_,cap,rfl,⟨h1,nofun⟩,h2,fun _=>⟨g,off,rfl,fun i hi j u hu=>by
  rcases j with _ | j
  ·have hx:=aw hi
   rw [an,hx] at hu;have hu':(some (Value.int .u8 l[i]))=some u:=hu;rw [← hu',← e i _ hx];rw [show off+i * KU.n+0=off+i by show off+i * 1+0=_;omega];exact de w g (off+i) cs t (0,0) h
  ·exact absurd hu (by simp [KU,Rw.int])⟩⟩
theorem aat {K:Act->World->Prop} {E:TypeId} {o:Oper} {a:Act} {Q:Exit->Act->World->Prop} {T:TypeId} {z:Value} {bytes:Nat} (ht:P.underlying T=some (.slice E))
 (hi:(P.info? E).map (fun i=>(i.zero,i.size,i.bytes))=some (some z,KU.n,bytes)) (hz:z.cells.size=KU.n) (hby:bytes<=64) (s x:Operand)
 (ho:o.op = .call { callee:=.builtin .append,args:=#[s,x],argTypes:=#[T,T] }) (B:Nat) (v:Value) (l:List Int) (hs:a.eval s=v) (hown:Ow KU w B E v l)
 (u:Value) (y:List Int) (hx:a.eval x=u) (hu:Rd KU w u y) (hy:0 < y.length) (hlen:l.length+y.length < 2199023255552) (hB:B<=w.heap.size)
 (h:∀ v' w',Ow KU w' B E v' (l ++ y)->Below B w w'->K (a.put o.dst v') w'):o.wp P a w K Q:=by
 obtain ⟨i0,hi0,hz0,hz1,hz2⟩:=gg hi;obtain ⟨ad,cap,rfl,h1,h2,h3⟩:=hu;have hb:(l.length+y.length) * bytes<=140737488355328:=cP (ix (show l.length+y.length<=2199023255552 by omega) hby) (by omega);obtain ⟨b,off,rfl,hA⟩:=h3 hy;refine wp_append_own _ s x T ho B E i0 z KU.n bytes ht hi0 hz0 hz1 hz2 hz KU.pos v l.length (KU.flat l) hs hown ⟨b,off,none⟩ y.length cap (KU.flat y) hx (Rw.cZ KU y) ?_ (Rw.EI KU y) (by unfold maxLen;omega) hb hB ?_
 ·intro j u hj
  have e:(⟨b,off,none⟩:Addr).add j=⟨b,off+j,none⟩:=by simp [Addr.add]
  rw [e];exact hA.flat j u hj
 ·intro v' w' g2 g3 _
  refine h v' w' ?_ ((af B w).grown g3 hB fun k hk=>(cJ hown k hk).1)
  show w'.ownsRow B E KU.n v' (l ++ y).length (KU.flat (l ++ y))
  rw [Rw.gG,cW];exact g2
theorem u8_mod (x:Int):IntKind.u8.wrap x=x % 256:=by simp [IntKind.wrap,IntKind.bits,IntKind.signed]
def Ub (w:World) (n:Int) (l:List Int) (e:Ending) (w':World):Prop:=∃ v,e = .returned v/\Ow KU w' w.heap.size 5 v ([0,2+(l.length:Int),n / 256,n % 256] ++ l)/\Below w.heap.size w w'
theorem wY (w:World) (n:Int) (v:Value) (l:List Int) (h0:0<=n) (h1:n<=65535) (hl:l.length<=200) (R:Rd KU w v l):Calls prog 48 #[.int .i64 n,v] w (Ub w n l):=by
 have E:Hid (∀ v w',Ow KU w' w.heap.size 5 v ([0,2+(l.length:Int),n / 256,n % 256] ++ l)->Below w.heap.size w w'->Ub w n l (.returned v) w'):=fun v w' o b=>⟨v,rfl,o,b⟩;obtain ⟨a,cap,rfl,_⟩:=R.slice;have R':=Hh R;clear R;have hm:Hid (l.length<=200):=hl;generalize hn:l.length=m at *;have HN:=Hh hn;clear hn;have e1:IntKind.i64.wrap (2+(m:Int))=2+(m:Int):=cH _ (by omega);have e2:(2+(m:Int)) / 256=0:=by omega
 have e3:(2+(m:Int)) % 256=2+(m:Int):=by omega
 have e4:IntKind.u8.wrap (2+(m:Int))=2+(m:Int):=by rw [u8_mod];omega
 have e5:n / 256 % 256=n / 256:=by omega
 have e6:IntKind.u8.wrap (n / 256)=n / 256:=by rw [u8_mod];omega
 have e7:=u8_mod n;clear h0 h1 hl
 go_enter func48,ntmps48
 go_upto_region 3 with fail;have L3:Hid (Ow KU (w.alloc (.cells #[.int .u8 0,.int .u8 (2+(m:Int)),.int .u8 (n / 256),.int .u8 (n % 256)] 5)) w.heap.size 5 (.slice (some ⟨w.heap.size,0,none⟩) 4 4) [0,2+(m:Int),n / 256,n % 256]):=Hh (Rw.Ow.lit (K:=KU) w w.heap.size 5 [0,2+(m:Int),n / 256,n % 256] (am _) (by unfold maxLen;simp));have B3:=Hh ((af w.heap.size w).alloc (am _) (.cells #[.int .u8 0,.int .u8 (2+(m:Int)),.int .u8 (n / 256),.int .u8 (n % 256)] 5));have R3:=Hh (R'.out.below B3.out);clear e1 e2 e3 e4 e5 e6 e7 R';generalize w.alloc (.cells #[.int .u8 0,.int .u8 (2+(m:Int)),.int .u8 (n / 256),.int .u8 (n % 256)] 5)=W at *
 go_wp2_with (at_builtin;refine Rw.wW (K:=KU) underlying34 SH rfl (by omega) rfl _ _ rfl w.heap.size _ _ rfl L3.out _ l rfl R3.out ?c1 ?c2 ?_)
 case c1=>have:=hm.out;have:=HN.out;simp;omega
 case c2=>exact B3.out.size
 intro v7 w7 o7 b7
 have F:=Hh (E.out v7 w7 o7 (B3.out.trans b7));clear E o7 b7 L3 B3 R3;go_wp2
 (try simp only [Exit.inBlock,Exit.then])
 go_ret
 exact F.out
theorem ac3 (x:Q):qb x=if x.k=2 then [0,2+(([x.k,x.n,x.f,x.r,x.key] ++ [x.v.1,x.v.2.1,x.v.2.2.1,x.v.2.2.2]).length:Int),x.id / 256,x.id % 256] ++ ([x.k,x.n,x.f,x.r,x.key] ++ [x.v.1,x.v.2.1,x.v.2.2.1,x.v.2.2.2]) else [0,2+(([x.k,x.n,x.f,x.r,x.key]:List Int).length:Int),x.id / 256,x.id % 256] ++ [x.k,x.n,x.f,x.r,x.key]:=by
 unfold qb
 by_cases h:x.k=2
 ·rw [az h,az h,az h];rfl
 ·rw [aq h,aq h,aq h];rfl
theorem Za (w:World) (x:Q) (hg:¬ good x):Calls prog 21 #[qV x] w (kV w x):=by
 have B0:=Hh ((af w.heap.size w).alloc (am _) (.cells (qA x) 53));have GR:=Hh (aI (show cB x=false from bh hg) (aQ (w.alloc (.cells (qA x) 53)) x));have E:Hid (∀ w',Below w.heap.size w w'->kV w x (.returned (.tuple #[.slice none 0 0,.int .i64 1])) w'):=fun w' b=>⟨_,by rw [aq hg],by rw [aq hg];exact Rw.Ow.nil _ _ _,b⟩;clear hg;unfold qV at *
 go_enter func21,ntmps21
 unfold qA at *;go_wp2_with fail;refine GR.out.mono ?_;rintro e w1 ⟨rfl,b1⟩;have B1:=aN B0 b1;clear b1 B0 GR;go_wp2
 go_ret2
 exact E.out _ B1
theorem T8 (w:World) (x:Q) (hg:good x):Calls prog 21 #[qV x] w (kV w x):=by
 have B0:=Hh ((af w.heap.size w).alloc (am _) (.cells (qA x) 53));have R0:=Hh (bi w (.cells (qA x) 53));have GR:=Hh (aI (show cB x=true from bj hg) (aQ (w.alloc (.cells (qA x) 53)) x));have E:Hid (∀ v w',Ow KU w' w.heap.size 5 v (qb x)->Below w.heap.size w w'->kV w x (.returned (.tuple #[v,.int .i64 0])) w'):=fun v w' o b=>⟨v,by rw [az hg],by rw [az hg];exact o,b⟩;have EQ:=Hh (ac3 x);obtain ⟨id,k,n,f,r,⟨v0,v1,v2,v3⟩,key⟩:=x;unfold good at hg;unfold qV at *;unfold qA at *;dsimp only at hg B0 R0 GR E EQ ⊢;obtain ⟨⟨h1,h2⟩,⟨h3,h4⟩,⟨h5,h6⟩,⟨h7,h8⟩,⟨h9,h10⟩,⟨h11,h12⟩,_,_⟩:=hg;have FR:=fun w v l hl R=>Hh (wY w id v l h1 h2 hl R);have q3:=u8_in (x:=k) (by omega) (by omega);have q4:=u8_in (x:=n) (by omega) (by omega);have q5:=u8_in (x:=f) (by omega) (by omega);have q6:=u8_in (x:=r) (by omega) (by omega);have q7:=u8_in (x:=key) (by omega) (by omega);clear h1 h2 h3 h4 h5 h6 h7 h8 h9 h10 h11 h12
 go_enter func21,ntmps21
 go_wp2_with fail;refine GR.out.mono ?_;rintro e w1 ⟨rfl,b1⟩;have B1:=aN B0 b1;have R1:=Hh (bU b1 R0.out);clear b1 B0 GR R0;have c1:=dw R1.out 1;have c2:=dw R1.out 2;have c3:=dw R1.out 3;have c4:=dw R1.out 4;have c9:=dw R1.out 9;go_upto_region 4 with fail;have hlt:=bp R1.out;have L3:=Hh (Rw.Ow.lit (K:=KU) w1 (w.heap.size+1) 5 [k,n,f,r,key] hlt (by unfold maxLen;simp));have B3:=Hh (B1.out.alloc B1.out.size (.cells #[.int .u8 k,.int .u8 n,.int .u8 f,.int .u8 r,.int .u8 key] 5));have R3:=Hh (bU ((af w1.heap.size w1).alloc (am _) (.cells #[.int .u8 k,.int .u8 n,.int .u8 f,.int .u8 r,.int .u8 key] 5)) R1.out)
 replace L3:Hid (Ow KU (w1.alloc (.cells #[.int .u8 k,.int .u8 n,.int .u8 f,.int .u8 r,.int .u8 key] 5)) (w.heap.size+1) 5 (.slice (some ⟨w1.heap.size,0,none⟩) 5 5) [k,n,f,r,key]):=L3
 have Z3:Hid (w.heap.size+1<=(w1.alloc (.cells #[.int .u8 k,.int .u8 n,.int .u8 f,.int .u8 r,.int .u8 key] 5)).heap.size):=bp R3.out;clear R1 B1 c1 c2 c3 c4 c9 q3 q4 q5 q6 q7 hlt;generalize w1.alloc (.cells #[.int .u8 k,.int .u8 n,.int .u8 f,.int .u8 r,.int .u8 key] 5)=W at *;generalize w1.heap.size=g at *;have c0:=dw R3.out 0;have c1:=dw R3.out 1
 by_cases h2:k=2
 ·rw [az h2] at EQ
  subst h2
  have V:=Hh (Me 5 [v0,v1,v2,v3] 4 R3.out (fun i x e=>by
   match i,e with
   | 0,e=>cases e;rfl
   | 1,e=>cases e;rfl
   | 2,e=>cases e;rfl
   | 3,e=>cases e;rfl
   | i+4,e=>simp at e) (by simp) (by unfold maxLen;simp))
  go_wp2_with (at_builtin;refine Rw.wW (K:=KU) underlying34 SH rfl (by omega) rfl _ _ rfl (w.heap.size+1) _ _ rfl L3.out _ [v0,v1,v2,v3] rfl V.out ?c1 ?c2 ?_)
  case c2=>exact Z3.out
  intro v7 w7 o7 b7
  have B7:=Hh (B3.out.trans (b7.mono (Nat.le_succ _)));have k0:=(b7.cell (Nat.lt_succ_self _)).trans c0;have FR7:=FR w7 v7 _ (by simp) o7.rd;clear FR b7 c0 c1 L3 B3 R3 V Z3 o7;go_wp2_with fail;refine FR7.out.mono ?_;rintro e w8 ⟨v8,rfl,o8,b8⟩;have F:=Hh (E.out v8 w8 (by rw [EQ.out];exact o8.low B7.out.size) (aN B7.out b8));clear E EQ o8 b8 B7 FR7 k0;go_wp2
  go_ret2
  exact F.out
 ·rw [aq h2] at EQ
  have FR7:=FR W _ _ (by simp) L3.out.rd;clear FR;go_wp2_with fail;refine FR7.out.mono ?_;rintro e w8 ⟨v8,rfl,o8,b8⟩;have F:=Hh (E.out v8 w8 (by rw [EQ.out];exact o8.low B3.out.size) (aN B3.out b8));clear E EQ o8 b8 B3 FR7 c0 c1 L3 R3 Z3;go_wp2
  go_ret2
  exact F.out
theorem iT (w:World) (x:Q):Calls prog 21 #[qV x] w (kV w x):=by
 by_cases hg:good x
 ·exact T8 w x hg
 ·exact Za w x hg
attribute [local irreducible] Sd.aU wpQuiet
theorem sK (w:World) (y:Y):Calls prog 70 #[yV y] w fun e w'=>e = .returned (.bool (fA y))/\Below w.heap.size w w':=by
 have B0:=Hh ((af w.heap.size w).alloc (am _) (.cells (yA y) 44));have H:Hid (fA y=fA y):=Hh rfl;obtain ⟨id,e,⟨v0,v1,v2,v3⟩⟩:=y;unfold yV yA;unfold yA at B0;dsimp only at B0 H ⊢
 by_cases hi:0<=id/\id<=65535
 ·have I:=fun w=>Hh (vH w id true (bj hi))
  rcases (by omega:e < 0\/0<=e/\16 < e\/e=0\/(1<=e/\e<=16)) with h | ⟨h,h'⟩ | rfl | ⟨h,h'⟩
  case' inr.inr.inr =>
   have hne:¬ e=0:=by omega
   have es:=Db v0 v1 v2 v3 _ rfl;generalize hb:decide (bare (v0,v1,v2,v3))=bb at es
  all_goals
   have HI:=Hh hi;clear hi
   go_enter func70,ntmps70
   go_wp2_with fail;refine (I _).out.mono ?_;rintro e w1 ⟨rfl,rfl⟩;go_wp2
   go_ret
  ·refine ⟨ak ?_,B0.out⟩
   rw [show (e == 0)=false from cN.2 (by omega),Bool.false_or,← hb];refine cY.2 ?_;have:=HI.out;unfold may bare;dsimp only
   omega
  ·exact ⟨ak (bh (by unfold may;dsimp only;omega)).symm,B0.out⟩
  ·exact ⟨ak (bh (by unfold may;dsimp only;omega)).symm,B0.out⟩
  ·exact ⟨ak (bj (by have:=HI.out;unfold may;dsimp only;omega)).symm,B0.out⟩
 ·have I:=fun w=>Hh (vH w id false (bh hi))
  have HI:=Hh hi;clear hi
  go_enter func70,ntmps70
  go_wp2_with fail;refine (I _).out.mono ?_;rintro e w1 ⟨rfl,rfl⟩;go_wp2
  go_ret
  exact ⟨ak (bh (by have:=HI.out;unfold may;dsimp only;omega)).symm,B0.out⟩
theorem J2 (w:World) (y:Y) (hg:¬ may y):Calls prog 40 #[yV y] w (nQ w y):=by
 have B0:=Hh ((af w.heap.size w).alloc (am _) (.cells (yA y) 44));have GR:=Hh (aI (show fA y=false from bh hg) (sK (w.alloc (.cells (yA y) 44)) y));have E:Hid (∀ w',Below w.heap.size w w'->nQ w y (.returned (.tuple #[.slice none 0 0,.int .i64 1])) w'):=fun w' b=>⟨_,by rw [aq hg],by rw [aq hg];exact Rw.Ow.nil _ _ _,b⟩;clear hg;unfold yV at *
 go_enter func40,ntmps40
 unfold yA at *;go_wp2_with fail;refine GR.out.mono ?_;rintro e w1 ⟨rfl,b1⟩;have B1:=aN B0 b1;clear b1 B0 GR;go_wp2
 go_ret2
 exact E.out _ B1
theorem Eb (w:World) (y:Y) (hg:may y):Calls prog 40 #[yV y] w (nQ w y):=by
 have B0:=Hh ((af w.heap.size w).alloc (am _) (.cells (yA y) 44));have R0:=Hh (bi w (.cells (yA y) 44));have GR:=Hh (aI (show fA y=true from bj hg) (sK (w.alloc (.cells (yA y) 44)) y));have E:Hid (∀ v w',Ow KU w' w.heap.size 5 v (yb y)->Below w.heap.size w w'->nQ w y (.returned (.tuple #[v,.int .i64 0])) w'):=fun v w' o b=>⟨v,by rw [az hg],by rw [az hg];exact o,b⟩;have EQ:Hid (yb y = [0,2+(([y.e] ++ [y.v.1,y.v.2.1,y.v.2.2.1,y.v.2.2.2]).length:Int),y.id / 256,y.id % 256] ++ ([y.e] ++ [y.v.1,y.v.2.1,y.v.2.2.1,y.v.2.2.2])):=Hh rfl;obtain ⟨id,e,⟨v0,v1,v2,v3⟩⟩:=y;unfold may at hg;unfold yV at *;unfold yA at *;dsimp only at hg B0 R0 GR E EQ ⊢;obtain ⟨⟨h1,h2⟩,⟨h3,h4⟩,_⟩:=hg;have FR:=fun w v l hl R=>Hh (wY w id v l h1 h2 hl R);have q3:=u8_in (x:=e) (by omega) (by omega);clear h1 h2 h3 h4
 go_enter func40,ntmps40
 go_wp2_with fail;refine GR.out.mono ?_;rintro e' w1 ⟨rfl,b1⟩;have B1:=aN B0 b1;have R1:=Hh (bU b1 R0.out);clear b1 B0 GR R0;have c0:=Sd.aC (dw R1.out 0);have c1:=Sd.aC (dw R1.out 1);go_upto_region 3 with fail;have BW:=Hh ((af w1.heap.size w1).drew);refine Sd.start [(false,0),(false,1),(false,2),(false,3),(false,4),(false,6),(false,7),(true,5),(true,8),(true,9),(false,10),(false,11)] (by kernel_rfl) (by kernel_rfl) (by kernel_rfl) ?_;dsimp only [Sd.aK,List.getElem?_cons_succ,List.getElem?_cons_zero]
 repeat (refine Sd.lit ?_;quiet_step (fail);refine br ?_)
 generalize w1.drew=w2 at *;have R2:=Hh (bU BW.out R1.out);have L3:Hid (Ow KU (w2.alloc (.cells #[.int .u8 e] 5)) w1.heap.size 5 (.slice (some ⟨w2.heap.size,0,none⟩) 1 1) [e]):=Hh (Rw.Ow.lit (K:=KU) w2 w1.heap.size 5 [e] BW.out.size (by unfold maxLen;simp));have R3:=Hh (bU ((af w2.heap.size w2).alloc (am _) (.cells #[.int .u8 e] 5)) R2.out);have B3:=Hh (BW.out.alloc BW.out.size (.cells #[.int .u8 e] 5));clear R1 R2 BW c0 c1;refine Sd.call (by rfl) (fun K hK=>?_);go_simp;refine hK _ _ (Sd.Cl.of B3.out) ?_;clear hK K q3;generalize w2.alloc (.cells #[.int .u8 e] 5)=w3 at *;generalize w2.heap.size=g at *
 have V:=Hh (Me 2 [v0,v1,v2,v3] 4 R3.out (fun i x e=>by
  match i,e with
  | 0,e=>cases e;rfl
  | 1,e=>cases e;rfl
  | 2,e=>cases e;rfl
  | 3,e=>cases e;rfl
  | i+4,e=>simp at e) (by simp) (by unfold maxLen;simp))
 refine Sd.call (by rfl) (fun K hK=>?_);refine aat underlying34 SH rfl (by omega) _ _ rfl w1.heap.size _ _ rfl L3.out _ [v0,v1,v2,v3] rfl V.out (by simp) (by simp) B3.out.size ?_
 intro v6 w6 o6 b6
 have B6:=Hh (B3.out.trans b6);have FR6:=FR w6 v6 _ (by simp) o6.rd;refine hK _ _ (Sd.Cl.of B6.out) ?_;clear hK K L3 R3 B3 V FR o6 b6;refine Sd.call (by rfl) (fun K hK=>?_);go_simp;refine FR6.out.mono ?_;rintro e' w8 ⟨v8,rfl,o8,b8⟩;have B8:=Hh (B6.out.trans (b8.mono B6.out.size));refine hK _ _ (Sd.Cl.of B8.out) ?_;have F:=Hh (E.out v8 w8 (by rw [EQ.out];exact o8.low (cP B1.out.size B6.out.size)) (aN B1.out B8.out));clear hK K E EQ o8 b8 B8 B6 B1 FR6
 repeat (refine Sd.lit ?_;quiet_step (fail);refine br ?_)
 refine Sd.done ?_;go_wp2
 go_ret2
 exact F.out
theorem oJ (w:World) (y:Y):Calls prog 40 #[yV y] w (nQ w y):=by
 by_cases hg:may y
 ·exact Eb w y hg
 ·exact J2 w y hg
theorem or_hi {a b:Int} (h0:0<=a) (h1:a < 256) (h2:0<=b) (h3:b < 256):bits .or .i64 (a * 256) b=a * 256+b:=by
 obtain ⟨n,rfl⟩:=Int.eq_ofNat_of_zero_le h0;obtain ⟨m,rfl⟩:=Int.eq_ofNat_of_zero_le h2;have ha:n < 256:=by omega
 have hb:m < 256:=by omega
 have e:n * 256 ||| m=n * 256+m:=by
  have:=Nat.shiftLeft_add_eq_or_of_lt (show m < 2 ^ 8 from hb) n;rw [Nat.shiftLeft_eq] at this;exact this.symm
 have h:(BitVec.ofInt 64 ((n:Int) * 256) ||| BitVec.ofInt 64 (m:Int)).toNat=n * 256+m:=by
  rw [show ((n:Int) * 256)=((n * 256:Nat):Int) by simp,BitVec.ofInt_natCast,BitVec.ofInt_natCast,BitVec.toNat_or,BitVec.toNat_ofNat,BitVec.toNat_ofNat,Nat.mod_eq_of_lt (by omega),Nat.mod_eq_of_lt (by omega),e]
 show IntKind.i64.wrap ((BitVec.ofInt 64 ((n:Int) * 256) ||| BitVec.ofInt 64 (m:Int)).toNat:Int)=_
 rw [h]
 simp [IntKind.wrap,IntKind.bits,IntKind.signed]
 omega
theorem Rv (w:World) (b off n cap:Nat) (b2 b3:Int) (hn:4<=n) (c2:w.cell? ⟨b,off+2,none⟩=some (.int .u8 b2)) (c3:w.cell? ⟨b,off+3,none⟩=some (.int .u8 b3)) (h2:0<=b2/\b2 < 256) (h3:0<=b3/\b3 < 256) :
 Calls prog 39 #[.slice (some ⟨b,off,none⟩) n cap] w fun e w'=>e = .returned (.int .i64 (b2 * 256+b3))/\Below w.heap.size w w':=by
 have eo:=or_hi h2.1 h2.2 h3.1 h3.2;have e2:IntKind.i64.wrap b2=b2:=cH _ (by omega);have e3:IntKind.i64.wrap b3=b3:=cH _ (by omega);have e4:IntKind.i64.wrap (b2 * 256)=b2 * 256:=cH _ (by omega);have d2:=Sd.aC c2;have d3:=Sd.aC c3;have n2:2 < n:=by omega
 have n3:3 < n:=by omega
 have m2:(2:Int) < n:=by omega
 have m3:(3:Int) < n:=by omega
 clear c2 c3 h2 h3 hn
 go_enter func39,ntmps39
 go_wp2_with fail;have BW:=Hh ((af w.heap.size w).drew);refine Sd.start [(false,0),(false,1),(false,2),(false,3),(false,4),(false,5),(false,6),(false,7),(false,8),(false,9),(false,10)] (by kernel_rfl) (by kernel_rfl) (by kernel_rfl) ?_;dsimp only [Sd.aK,List.getElem?_cons_succ,List.getElem?_cons_zero]
 repeat (refine Sd.lit ?_;quiet_step (fail);refine br ?_)
 refine Sd.done ?_;go_wp2
 go_ret
 exact ⟨rfl,BW.out⟩
theorem je (w:World) (b off n cap:Nat) (l:List Int) (b' off' n' cap':Nat) (m:List Int) (hl:l.length=n) (hm:m.length=n') (A:At KU w b off l) (A':At KU w b' off' m) (hx:∀ x∈l,0<=x/\x < 256) (hy:∀ x∈m,0<=x/\x < 256) (c:Bool) (hc:decide (l=m)=c) :
 Calls prog 41 #[.slice (some ⟨b,off,none⟩) n cap,.slice (some ⟨b',off',none⟩) n' cap'] w fun e w'=>e = .returned (.bool c)/\w=w':=by
 have s1:=run_convert_bytes_arg (P:=prog) w 34 5 underlying34 underlying5 b' off' n' cap' m hm (hm ▸ pG A') 9 underlying9;have s2:=run_convert_bytes_arg (P:=prog) w 34 5 underlying34 underlying5 b off n cap l hl (hl ▸ pG A) 9 underlying9;have ht:((strOfNums l).toList == (strOfNums m).toList)=c:=by
  rw [← hc,Bool.eq_iff_iff,beq_iff_eq,cQ];exact ⟨str_eq hx hy,fun h=>by rw [h]⟩
 clear A A' hx hy hl hm hc;generalize strOfNums l=s at *;generalize strOfNums m=t at *
 go_enter func41,ntmps41
 go_wp2
 go_ret
 exact ⟨ak (by first | rfl | exact ht),rfl⟩
theorem KC {o:Oper} {a:Act} {K:Act->World->Prop} {Q:Exit->Act->World->Prop} (d s:Operand) (dT sT:TypeId)
 (ho:o.op = .call { callee:=.builtin .copy,args:=#[d,s],argTypes:=#[dT,sT] }) (elem:TypeId) (hu:P.underlying dT=some (.slice elem)) (hsz:(P.info? elem).map (·.size)=some 1)
 (dp sp:Option Addr) (dLen dCap sLen sCap:Nat) (hd:a.eval d = .slice dp dLen dCap) (hs:a.eval s = .slice sp sLen sCap)
 (g off:Nat) (cur:List Value) (t:TypeId) (hg:w.heap[g]? = some (.cells cur.toArray t (0,0))) (cs:List Value) (hn:cs.length=Nat.min sLen dLen)
 (hpos:0 < cs.length->dp=some ⟨g,off,none⟩/\∃ ad,sp=some ad/\∀ j v,cs[j]? = some v->w.cell? (ad.add j)=some v)
 (hfit:off+cs.length<=cur.length) (h1:∀ v∈cs,v.oneCell'=true) (B:Nat) (w0:World) (hb:Below B w0 w) (hBg:B<=g)
 (h:∀ w',w'.heap[g]? = some (.cells (splice cur off cs).toArray t (0,0))->Below B w0 w'->K (a.put o.dst (goInt cs.length)) w'):o.wp P a w K Q:=by
 by_cases h0:cs.length=0
 ·obtain rfl:cs = []:=List.eq_nil_of_length_eq_zero h0
  have hrun:=run_copy_none (P:=P) w dT sT o.type elem dp sp dLen dCap sLen sCap hu hsz (by simpa using hn.symm);unfold Oper.wp
  simp [execOp,ho,resolve,invoke,builtin,hd,hs,hrun,Result.andThen]
  exact h w (by simpa [splice] using hg) hb
 ·obtain ⟨rfl,ad,rfl,hsrc⟩:=hpos (by omega)
  have hrun:=run_copy_row (P:=P) w dT sT o.type elem g off dLen dCap ad sLen sCap cur.toArray t cs hu hsz hg hn hsrc (by simpa using hfit) h1;unfold Oper.wp
  simp [execOp,ho,resolve,invoke,builtin,hd,hs,hrun,Result.andThen]
  exact h _ (by simpa [splice] using setRow_heap w g _ _ t _ hg) (below_setRow hb hBg _)
def ZK (l:List Int):Q:=⟨l.getD 2 0 * 256+l.getD 3 0,l.getD 4 0,l.getD 5 0,l.getD 6 0,l.getD 7 0,((l.drop 9).getD 0 0,(l.drop 9).getD 1 0,(l.drop 9).getD 2 0,(l.drop 9).getD 3 0),l.getD 8 0⟩
theorem JR (m:List Int) (p0 p1 p2 p3 p4 q:Value):splice [p0,p1,p2,p3,p4,.int .u8 0,.int .u8 0,.int .u8 0,.int .u8 0,q] 5 ((m.take 4).map (Value.int .u8)) = [p0,p1,p2,p3,p4,.int .u8 (m.getD 0 0),.int .u8 (m.getD 1 0),.int .u8 (m.getD 2 0),.int .u8 (m.getD 3 0),q]:=by
 match m with
 | []=>rfl
 | [_]=>rfl
 | [_,_]=>rfl
 | [_,_,_]=>rfl
 | _ :: _ :: _ :: _ :: _=>rfl
theorem Iv (x:Q):(qb x).length=9\/(qb x).length=13:=by
 unfold qb
 by_cases h:x.k=2
 ·rw [az h,az h];exact .inr rfl
 ·rw [aq h,aq h];exact .inl rfl
theorem vL {x:Q} (hg:good x) (hv:okV x.v):∀ y∈qb x,0<=y/\y < 256:=fun y hy=>by
 unfold qb at hy;unfold good at hg;unfold okV at hv
 by_cases hk:x.k=2
 ·rw [az hk,az hk] at hy
  simp only [eC,cy,dj,gR] at hy
  omega
 ·rw [aq hk,aq hk] at hy
  simp only [eC,cy,dj,gR] at hy
  omega
theorem Mq {y:Y} (hg:may y) (hv:okV y.v):∀ x∈yb y,0<=x/\x < 256:=fun x hx=>by
 unfold yb at hx;unfold may at hg;unfold okV at hv;simp only [cy,dj,gR] at hx
 omega
theorem gq (h:∀ x∈l,0<=x/\x < 256) (k:Nat):0<=l.getD k 0/\l.getD k 0 < 256:=by
 rw [an]
 rcases e:l[k]? with _ | x
 ·exact ⟨im _,by decide⟩
 ·exact h x (di e)
theorem IY (h:l.length=9\/l.length=13):ZK l=nG l:=by
 unfold ZK nG
 rcases h with h | h
 ·rw [aq (by omega),show l.drop 9 = [] from List.drop_eq_nil_of_le (by omega)];rfl
 ·rw [az h]
  simp [List.getD_eq_getElem?_getD]
theorem Mf (l:List Int):xM l↔good (ZK l)/\qb (ZK l)=l:=by
 constructor
 ·rintro ⟨h,g,e⟩
  rw [IY h];exact ⟨g,e⟩
 ·rintro ⟨g,e⟩
  have h:l.length=9\/l.length=13:=by rw [← e];exact Iv _
  rw [IY h] at g e;exact ⟨h,g,e⟩
end Rq
namespace Rq
theorem og {x:Q} (hg:good x):nG (qb x)=x:=by
 obtain ⟨id,k,n,f,r,⟨v0,v1,v2,v3⟩,key⟩:=x;unfold good at hg;dsimp only at hg;unfold qb nG;dsimp only
 by_cases h:k=2
 ·simp [h]
  omega
 ·obtain ⟨_,_,_,_,_,_,_,h'⟩:=hg
  obtain ⟨rfl,rfl,rfl,rfl⟩:=h'.resolve_left h
  simp [h,z4]
  omega
theorem Bj {x:Q} (hg:good x):xM (qb x):=⟨Iv x,by rw [og hg];exact hg,by rw [og hg]⟩
theorem Co {y:Y} (hg:may y):Vw (yb y)=y:=by
 obtain ⟨id,e,⟨v0,v1,v2,v3⟩⟩:=y;unfold may at hg;dsimp only at hg;unfold yb Vw
 simp
 omega
theorem J6 {y:Y} (hg:may y):isY (yb y):=⟨rfl,by rw [Co hg];exact hg,by rw [Co hg]⟩
end Rq
namespace Ga
open Cu (Cs Ac bM rC xE CZ Bg jm oO)
open Qe (Qs ok fst qM zV JD H9 Qi)
open Rq (Q Y zQ nG Vw xM isY qb yb good may okV)
structure Gs where
 c:Cs
 key:Int
 q:Qs
def kU (s:Gs) (l:List Int):Int:=if ¬ xM l then 2 else if (s.c.S.length:Int)<=(nG l).n then 1 else if ((nG l).k=2\/(nG l).k=3)/\(nG l).key≠s.key then 15 else H9 s.q
def vM (l:List Int):Int:=if xM l then (nG l).id else 0
def Qg (s:Gs) (l:List Int):List Int:=if kU s l=0 then [] else yb ⟨vM l,kU s l,z4⟩
def kR (s:Gs) (l:List Int):Gs:=if kU s l=0 then ⟨s.c,s.key,⟨s.q.L ++ [nG l],s.q.t⟩⟩ else s
def stV (s:Gs) (x:Q):R4:=(if bX s.c.V x.n=true then 1 else 0,Wt.rl s.c.P x.n % 256,(s.c.pl:Int) % 256,0)
def lW (s:Gs) (x:Q):Int:=if x.k=4 then 0 else xE s.c x.n (x.k - 1) x.f x.r
def BJ (s:Gs) (x:Q):R4:=if x.k=4 then stV s x else CZ s.c x.n (x.k - 1) x.f x.r x.v
def vI (s:Gs) (x:Q):Cs:=if x.k=4 then s.c else Bg s.c x.n (x.k - 1) x.f x.r x.v
def stA (s:Gs):List Int:=if 0 < s.q.L.length then (if lW s (fst s.q)=13 then (if zV s.q=true then yb ⟨(fst s.q).id,13,z4⟩ else []) else yb ⟨(fst s.q).id,lW s (fst s.q),BJ s (fst s.q)⟩) else []
def LY (s:Gs):Qs:=if 0 < s.q.L.length then (if lW s (fst s.q)=13 then JD s.q else qM s.q) else s.q
def oV (s:Gs):Gs:=⟨rC (if 0 < s.q.L.length then vI s (fst s.q) else s.c),s.key,LY s⟩
structure OkG (s:Gs) (t:Nat):Prop where
 ok:jm s.c t
 sy:oO s.c
 qo:Qe.ok s.q
 all:∀ x∈s.q.L,good x/\okV x.v/\x.n < s.c.S.length
 key:0<=s.key/\s.key<=255
theorem FY:okV z4:=⟨⟨by decide,by decide⟩,⟨by decide,by decide⟩,⟨by decide,by decide⟩,by decide,by decide⟩
variable {v:R4}
theorem Ip (h:okV v):bJ v:=by
 unfold okV at h;unfold bJ
 omega
theorem aam (h:bJ v):okV v:=by
 unfold bJ at h;unfold okV
 omega
variable {l:List Int}
theorem byte_of (h:∀ x∈l,0<=x/\x < 256):okV (nG l).v:=by
 unfold nG;dsimp only
 split
 ·exact ⟨Rq.gq h _,Rq.gq h _,Rq.gq h _,(Rq.gq h _).1,(Rq.gq h _).2⟩
 ·exact FY
theorem ac1 (l:List Int):0<=vM l/\vM l<=65535:=by
 unfold vM
 split
 ·rename_i h;exact h.2.1.1
 ·omega
theorem abd (s:Gs) (l:List Int):0<=kU s l/\kU s l<=16:=by
 unfold kU H9
 split
 ·omega
 ·split
  ·omega
  ·split
   ·omega
   ·split <;> omega
theorem Td (s:Gs) (l:List Int):may ⟨vM l,kU s l,z4⟩:=⟨ac1 l,abd s l,.inr ⟨rfl,rfl,rfl,rfl⟩⟩
theorem Ve {s:Gs} (h:kU s l=0):xM l/\(nG l).n < s.c.S.length/\¬ (((nG l).k=2\/(nG l).k=3)/\(nG l).key≠s.key)/\s.q.L.length < 8:=by
 unfold kU H9 at h
 split at h
 ·omega
 ·rename_i h1
  split at h
  ·omega
  ·rename_i h2
   split at h
   ·omega
   ·rename_i h3
    split at h
    ·omega
    ·exact ⟨Classical.not_not.1 h1,by omega,h3,by omega⟩
theorem JN (c:Cs):(rC c).S.length=c.S.length:=by
 unfold rC
 split
 ·rfl
 ·split
  ·show (if Pa.jT c.S (Cu.rT c) c.V=0 then Pa.qP c.S (Cu.rT c) c.V c.Q else c.S).length=_
   split
   ·rename_i e
    have er:Pa.qP c.S (Cu.rT c) c.V c.Q=Pa.Ai c.S (Cu.rT c) c.V (Pa.hr c.S (Cu.rT c) c.V c.Q):=az e;rw [er,Pa.jK]
   ·rfl
  ·rfl
theorem YG (c:Cs) (n o f r:Int) (x:R4):(Bg c n o f r x).S.length=c.S.length:=by
 unfold Bg
 split
 ·rfl
 ·exact cI
theorem DF (x:Ac) (c:Cs):(bM x c).S.length=c.S.length:=by
 unfold bM
 split
 ·exact JN c
 ·split
  ·rfl
  ·split
   ·rfl
   ·split
    ·exact cI
    ·split
     ·rfl
     ·split <;> rfl
theorem abN (A:Fs.aT) (o f r:Int):0<=dE A o f r/\dE A o f r<=5:=by
 unfold dE
 split
 ·split
  ·omega
  ·unfold Fl.jf
   repeat' split
   all_goals omega
 ·omega
theorem aaI (c:Cs) (n o f r:Int):0<=xE c n o f r/\xE c n o f r<=16:=by
 unfold xE
 split
 ·omega
 ·split
  ·have:=abN (sat c.S n).1 o f r;omega
  ·omega
section
variable {s:Gs} {t:Nat} (h:OkG s t)
include h
theorem OkG.next:OkG s (t+1):=⟨h.ok.next,h.sy,h.qo,h.all,h.key⟩
theorem OkG.act (x:Ac) (hx:bJ x.v):OkG ⟨bM x s.c,s.key,s.q⟩ (t+1):=⟨h.ok.act x hx,h.sy.act h.ok x,h.qo,fun y hy=>by
 have:=h.all y hy;refine ⟨this.1,this.2.1,?_⟩
 show y.n < (bM x s.c).S.length
 rw [DF];exact this.2.2,h.key⟩
theorem OkG.sub (hb:∀ x∈l,0<=x/\x < 256):OkG (kR s l) t:=by
 unfold kR
 by_cases e:kU s l=0
 ·rw [az e]
  obtain ⟨h1,h2,h3,h4⟩:=Ve e;have hp:=Qe.Xz h.qo (nG l);unfold Qi at hp;rw [aq (by omega)] at hp;refine ⟨h.ok,h.sy,hp,fun y hy=>?_,h.key⟩
  rcases eC.1 hy with hy | hy
  ·exact h.all y hy
  ·obtain rfl:=dg.1 hy
   exact ⟨h1.2.1,byte_of hb,h2⟩
 ·rw [aq e];exact h
theorem OkG.fst (h0:0 < s.q.L.length):good (fst s.q)/\okV (fst s.q).v/\(fst s.q).n < s.c.S.length:=by
 obtain ⟨c,key,⟨L,tt⟩⟩:=s
 cases L with
 | nil=>simp at h0
 | cons x r=>exact h.all x (cG ..)
theorem OkG.vI (x:Q) (hx:okV x.v):jm (vI s x) (t+1)/\oO (vI s x):=by
 unfold Ga.vI
 split
 ·exact ⟨h.ok.next,h.sy⟩
 ·exact ⟨h.ok.serve _ _ _ _ _ (Ip hx),h.sy.serve _ _ _ _ _⟩
omit h in
theorem LG (x:Q):(Ga.vI s x).S.length=s.c.S.length:=by
 unfold Ga.vI
 split
 ·rfl
 ·exact YG ..
theorem OkG.step:OkG (oV s) (t+2):=by
 have hc:jm (if 0 < s.q.L.length then Ga.vI s (Qe.fst s.q) else s.c) (t+1)/\oO (if 0 < s.q.L.length then Ga.vI s (Qe.fst s.q) else s.c)/\(if 0 < s.q.L.length then Ga.vI s (Qe.fst s.q) else s.c).S.length=s.c.S.length:=by
  split
  ·rename_i h0
   have:=h.vI _ (h.fst h0).2.1;exact ⟨this.1,this.2,LG _⟩
  ·exact ⟨h.ok.next,h.sy,rfl⟩
 have hq:Qe.ok (LY s)/\∀ x∈(LY s).L,x∈s.q.L:=by
  unfold LY
  split
  ·split
   ·refine ⟨Qe.YI h.qo,fun x hx=>?_⟩
    unfold JD at hx
    rename_i h0 _
    rw [az h0] at hx
    split at hx
    ·exact List.mem_of_mem_tail hx
    ·exact hx
   ·exact ⟨Qe.QX h.qo,fun x hx=>List.mem_of_mem_tail hx⟩
  ·exact ⟨h.qo,fun x hx=>hx⟩
 unfold oV;refine ⟨hc.1.round,hc.2.1.round,hq.1,fun x hx=>?_,h.key⟩;have:=h.all x (hq.2 x hx);refine ⟨this.1,this.2.1,?_⟩
 show x.n < (rC _).S.length
 rw [JN,hc.2.2];exact this.2.2
end
variable {x:R4}
theorem Z9 {A:Fs.aT} (h:Fs.eY A) (o f r:Int) (hx:bJ x):bJ (dV A o f r x):=by
 unfold dV
 split
 ·exact Fl.kJ
 ·rename_i e he
  split
  ·exact Fs.Dj (h.find he).2.2.1 hx
  ·exact Fl.kJ
variable {c:Cs}
theorem YX {t:Nat} (h:jm c t) (n o f r:Int) (hx:bJ x):bJ (CZ c n o f r x):=by
 unfold CZ
 split
 ·rename_i e
  unfold xE at e
  split at e
  ·omega
  ·rename_i hn
   have hin:0<=n/\n < c.S.length:=by unfold Cu.no at hn;omega
   have hs:=h.st n.toNat (by omega);rw [fj hin.1] at hs;exact Z9 hs.1 _ _ _ hx
 ·exact Fl.kJ
theorem wX {n o f r:Int} (h:xE c n o f r≠0):CZ c n o f r x=z4:=by unfold CZ;rw [aq h]
section
variable {s:Gs} {t:Nat} (h:OkG s t)
include h
theorem OkG.BJ (x:Q) (hx:okV x.v):okV (BJ s x):=by
 unfold Ga.BJ
 split
 ·unfold stV
  refine ⟨?_,?_,?_,im 0,by show (0:Int) < 256;decide⟩
  ·dsimp only;split <;> decide
  ·dsimp only;omega
  ·dsimp only;omega
 ·exact aam (YX h.ok _ _ _ _ (Ip hx))
omit h in
theorem S7 (x:Q):0<=lW s x/\lW s x<=16:=by
 unfold lW
 split
 ·omega
 ·exact aaI ..
omit h in
theorem T9 (x:Q) (hx:good x):may ⟨x.id,lW s x,Ga.BJ s x⟩:=by
 refine ⟨hx.1,S7 x,?_⟩
 by_cases e:lW s x=0
 ·exact .inl e
 ·right
  unfold Ga.BJ;unfold lW at e
  split at e
  ·exact absurd rfl e
  ·rename_i h4
   rw [aq h4,wX e];exact ⟨rfl,rfl,rfl,rfl⟩
theorem OkG.ans (h0:stA s≠[]):0 < s.q.L.length/\∃ e v,stA s=yb ⟨(Qe.fst s.q).id,e,v⟩/\Rq.may ⟨(Qe.fst s.q).id,e,v⟩/\okV v:=by
 unfold stA at h0 ⊢
 by_cases hl:0 < s.q.L.length
 ·rw [az hl] at h0 ⊢
  refine ⟨hl,?_⟩;have f:=h.fst hl
  split at h0
  ·rename_i e
   rw [az e]
   split at h0
   ·rename_i e2
    rw [az e2];exact ⟨13,z4,rfl,⟨f.1.1,⟨by show (0:Int)<=13;decide,by show (13:Int)<=16;decide⟩,.inr ⟨rfl,rfl,rfl,rfl⟩⟩,FY⟩
   ·exact absurd rfl h0
  ·rename_i e
   rw [aq e];exact ⟨_,_,rfl,T9 _ f.1,h.BJ _ f.2.1⟩
 ·rw [aq hl] at h0
  exact absurd rfl h0
end
def Ia (q:Qs):List Int:=q.L.map (·.id)
theorem Wv (q:Qs):(Ia q).length=q.L.length:=cm _
variable {s:Gs}
theorem Xt (h:kU s l=0):Ia (kR s l).q=Ia s.q ++ [(nG l).id]:=by
 unfold kR Ia;rw [az h]
 simp
variable {q:Qs}
theorem Fh (h:0 < q.L.length):Ia q=(Qe.fst q).id :: Ia (qM q):=by
 obtain ⟨L,t⟩:=q
 cases L with
 | nil=>simp at h
 | cons x r=>rfl
theorem Zw (y:Y):yb y≠[]:=by unfold yb;simp
theorem KM (h:0 < q.L.length) (e:zV q=true):JD q=qM q:=by
 unfold zV at e;unfold JD;rw [az h,az (of_decide_eq_true e).2]
theorem DX (h:0 < q.L.length) (e:zV q≠true):JD q=⟨q.L,q.t+1⟩:=by
 unfold zV at e;unfold JD;rw [az h,aq (fun g=>e (bj ⟨h,g⟩))]
theorem EB (s:Gs):Ia s.q=(if stA s = [] then [] else [(Qe.fst s.q).id]) ++ Ia (oV s).q:=by
 unfold oV stA LY
 by_cases hl:0 < s.q.L.length
 ·simp only [az hl]
  by_cases e:lW s (Qe.fst s.q)=13
  ·simp only [az e]
   by_cases e2:zV s.q=true
   ·rw [az e2,aq (Zw _),KM hl e2,Fh hl]
    rfl
   ·rw [aq e2,az rfl,DX hl e2]
    rfl
  ·simp only [aq e]
   rw [aq (Zw _),Fh hl]
   rfl
 ·simp only [aq hl]
  rw [az trivial]
  rfl
def mu (q:Qs):Int:=3 * q.L.length - q.t
theorem acM (h:ok q):0<=mu q/\mu q<=24:=by
 unfold mu;have:=h.1;have:=h.2.1
 by_cases e:q.L = []
 ·have:=h.2.2 e
  rw [e]
  simp
  omega
 ·have:0 < q.L.length:=List.length_pos_iff.2 e
  omega
theorem VK (h:ok q) (h0:mu q<=0):q.L.length=0:=by
 unfold mu at h0;have:=h.2.1
 omega
theorem mu_step (h:ok s.q) (h0:0 < s.q.L.length):mu (oV s).q < mu s.q:=by
 have ht:=h.2.1;have hp:mu (qM s.q) < mu s.q:=by
  unfold mu qM
  simp
  omega
 unfold oV LY;simp only [az h0]
 by_cases e:lW s (Qe.fst s.q)=13
 ·simp only [az e]
  by_cases e2:zV s.q=true
  ·rw [KM h0 e2];exact hp
  ·rw [DX h0 e2]
   unfold mu;simp only
   omega
 ·simp only [aq e];exact hp
end Ga
namespace Cu
open Go.RowKit Go.Maps
open Fs (St Fx)
section
variable {E:TypeId} {w wr w1:World} {S:bW} {k:Nat} {o o':Value} {ps:List Nat} {Fs:Nat->Nat->Prop} {g:Nat} {F5:Nat->Prop}
structure PJ (E:TypeId) (w:World) (S:bW) (k:Nat) (o:Value) (ps:List Nat) (Fs:Nat->Nat->Prop) (wr:World):Prop where
 own:Ow KN wr w.heap.size E o ps
 len:ps.length=k
 each:∀ i,i < k->St wr (ps.getD i 0) (Fs i) (sat S i).1 (sat S i).2
 lo:∀ i,i < k->∀ j,Fs i j->w.heap.size<=j/\o.ownBlock≠some j
 jZ:∀ i m,i < k->m < k->i≠m->∀ j,Fs i j->¬ Fs m j
 aD:Below w.heap.size w wr
structure PK (E:TypeId) (w:World) (S:bW) (k:Nat) (o:Value) (ps:List Nat) (Fs:Nat->Nat->Prop) (g:Nat) (F5:Nat->Prop) (wr:World):Prop where
 old:PJ E w S k o ps Fs wr
 new:St wr g F5 (sat S k).1 (sat S k).2
 nlo:∀ j,F5 j->w.heap.size<=j/\o.ownBlock≠some j
 aaK:∀ i,i < k->∀ j,F5 j->¬ Fs i j
theorem PJ.start (hb:Below w.heap.size w wr):PJ E w S 0 (.slice none 0 0) [] Fs wr:=⟨Rw.Ow.nil _ _ _,rfl,fun i hi=>by omega,fun i hi=>by omega,fun i m hi=>by omega,hb⟩
theorem PJ.below (h:PJ E w S k o ps Fs wr) (b:Below wr.heap.size wr w1):PJ E w S k o ps Fs w1:=⟨h.own.keep b,h.len,fun i hi=>(h.each i hi).below b,h.lo,h.jZ,h.aD.trans (b.mono h.aD.size)⟩
theorem PJ.Yq (h:PJ E w S k o ps Fs wr):∀ k,o.ownBlock=some k->k < wr.heap.size:=fun k e=>(cJ h.own k e).2
theorem PJ.pend (h:PJ E w S k o ps Fs wr) (b:Below wr.heap.size wr w1) (st:St w1 g F5 (sat S k).1 (sat S k).2) (lo5:∀ j,F5 j->wr.heap.size<=j):PK E w S k o ps Fs g F5 w1 :=
 ⟨h.below b,st,fun j hj=>⟨cP h.aD.size (lo5 j hj),fun e=>by have:=h.Yq j e;have:=lo5 j hj;omega⟩,fun i hi j hj q=>by have:=(h.each i hi).low j q;have:=lo5 j hj;omega⟩
theorem PK.below (h:PK E w S k o ps Fs g F5 wr) (b:Below wr.heap.size wr w1):PK E w S k o ps Fs g F5 w1:=⟨h.old.below b,h.new.below b,h.nlo,h.aaK⟩
def fsN (Fs:Nat->Nat->Prop) (k:Nat) (F5:Nat->Prop) (i:Nat):Nat->Prop:=if i=k then F5 else Fs i
theorem PK.push (h:PK E w S k o ps Fs g F5 wr) (own:Ow KN w1 w.heap.size E o' (ps ++ [g])) (gr:wr.grownBy w1 o.ownBlock) (hq:o'.ownBlock=o.ownBlock\/∃ g,o'.ownBlock=some g/\wr.heap.size<=g):PJ E w S (k+1) o' (ps ++ [g]) (fsN Fs k F5) w1:=by
 have oq:=aV gr;have len:=h.old.len;have at_old:∀ i,i < k->(ps ++ [g]).getD i 0=ps.getD i 0:=fun i hi=>by rw [an,eI (by rw [len];exact hi),an]
 have at_new:(ps ++ [g]).getD k 0=g:=by rw [an,fY (by rw [len];exact am _),len];simp
 have f_old:∀ i,i < k->fsN Fs k F5 i=Fs i:=fun i hi=>aq (by omega);have f_new:fsN Fs k F5 k=F5:=az rfl;have off:∀ (F:Nat->Prop) j,F j->(∀ j,F j->j < wr.heap.size)->o.ownBlock≠some j->o'.ownBlock≠some j:=fun F j hj hl hn e=>by
  rcases hq with q | ⟨x,q,hx⟩
  ·exact hn (by rw [← q];exact e)
  ·rw [q] at e
   injection e with e;have:=hl j hj
   omega
 refine ⟨own,by rw [cW,len];rfl,fun i hi=>?_,fun i hi=>?_,fun i m hi hm hne=>?_,h.old.aD.grown gr h.old.aD.size fun j e=>(cJ h.old.own j e).1⟩
 ·by_cases e:i=k
  ·subst e
   rw [at_new,f_new];exact h.new.only (fun j hj e=>(h.nlo j hj).2 e) oq
  ·rw [at_old i (by omega),f_old i (by omega)]
   exact (h.old.each i (by omega)).only (fun j hj e=>(h.old.lo i (by omega) j hj).2 e) oq
 ·by_cases e:i=k
  ·subst e
   rw [f_new];exact fun j hj=>⟨(h.nlo j hj).1,off F5 j hj h.new.low (h.nlo j hj).2⟩
  ·rw [f_old i (by omega)]
   exact fun j hj=>⟨(h.old.lo i (by omega) j hj).1,off _ j hj (h.old.each i (by omega)).low (h.old.lo i (by omega) j hj).2⟩
 ·by_cases e:i=k
  ·subst e
   rw [f_new,f_old m (by omega)];exact fun j hj=>h.aaK m (by omega) j hj
  ·by_cases e2:m=k
   ·subst e2
    rw [f_new,f_old i (by omega)];exact fun j hj q=>h.aaK i (by omega) j q hj
   ·rw [f_old i (by omega),f_old m (by omega)]
    exact h.old.jZ i m (by omega) (by omega) hne
theorem PJ.low {w0:World} (h:PJ E w S k o ps Fs wr) (hz:w0.heap.size<=w.heap.size) (b:Below w0.heap.size w0 wr):PJ E w0 S k o ps Fs wr:=⟨h.own.low hz,h.len,h.each,fun i hi j hj=>⟨cP hz (h.lo i hi j hj).1,(h.lo i hi j hj).2⟩,h.jZ,b⟩
theorem PJ.stl (h:PJ E w S S.length o ps Fs wr):zS wr o S:=⟨ps,h.own.rd,h.len,fun i hi=>⟨_,h.each i hi⟩⟩
end
def BrP (w:World) (E:Int) (S':bW) (e:Ending) (w':World):Prop:=∃ v ps Fs,e = .returned (.tuple #[v,.int .i64 E])/\(E=0->PJ 76 w S' S'.length v ps Fs w')/\(E≠0->v = .slice none 0 0)/\Below w.heap.size w w'
end Cu
namespace Wt
open Go.RowKit
open Fl (ak aI)
attribute [local irreducible] Sd.aU wpQuiet
section
end
theorem bC (r k:Nat) (w:World) (u:Value):Only (fun b=>b=r) w (w.setCell ⟨r,k,none⟩ u):=Only.set (fun b=>b=r) w (a:=⟨r,k,none⟩) rfl u
variable {w w1 w2 w':World}
theorem kH {r:Nat} (h:Only (fun b=>b=r) w w1) (g:Only (fun b=>b=r) w1 w2):Only (fun b=>b=r) w w2:=h.trans g fun _ _ q=>q
def adt (r0 z0 r1 z1:Int):Array Value:=#[.int .i64 r0,.int .i64 z0,.int .i64 r1,.int .i64 z1]
def dB (w:World) (s:Nat) (r0 z0 r1 z1:Int):Prop:=w.heap[s]? = some (.cells (adt r0 z0 r1 z1) 118 (0,0))
theorem dB.only {s:Nat} {r0 z0 r1 z1:Int} {G:Nat->Prop} (h:dB w s r0 z0 r1 z1) (o:Only G w w') (hn:¬ G s):dB w' s r0 z0 r1 z1:=(o.block s (bp h) hn).trans h
section
variable {w:World} {s:Nat} {r0 z0 r1 z1:Int} (h:dB w s r0 z0 r1 z1)
include h
theorem dB.below (b:Below w.heap.size w w'):dB w' s r0 z0 r1 z1:=h.only (G:=fun _=>False) (Only.of_below b) (fun g=>g)
theorem dB.set0 (x:Int):dB (w.setCell ⟨s,0,none⟩ (.int .i64 x)) s x z0 r1 z1:=Rw.heap_setCell_same h _
theorem dB.set1 (x:Int):dB (w.setCell ⟨s,1,none⟩ (.int .i64 x)) s r0 x r1 z1:=Rw.heap_setCell_same h _
theorem dB.set2 (x:Int):dB (w.setCell ⟨s,2,none⟩ (.int .i64 x)) s r0 z0 x z1:=Rw.heap_setCell_same h _
theorem dB.Jb (x:Int):dB (w.setCell ⟨s,3,none⟩ (.int .i64 x)) s r0 z0 r1 x:=Rw.heap_setCell_same h _
end
structure Vm (a:A) (z0 z1:Int) (t:Nat):Prop where
 b0:0<=z0/\z0<=t
 b1:0<=z1/\z1<=t
 e0:a.r0=2\/a.r0=3->a.q0=z0
 e1:a.r1=2\/a.r1=3->a.q1=z1
def Pr (w:World) (s:Nat) (a:A) (t:Nat):Prop:=∃ z0 z1,dB w s a.r0 z0 a.r1 z1/\Vm a z0 z1 t
theorem Pr.only {w w':World} {s t:Nat} {a:A} {G:Nat->Prop} (h:Pr w s a t) (o:Only G w w') (hn:¬ G s):Pr w' s a t:=by
 obtain ⟨z0,z1,hr,hv⟩:=h;exact ⟨z0,z1,hr.only o hn,hv⟩
variable {s t:Nat} {a:A}
theorem Pr.lt (h:Pr w s a t):s < w.heap.size:=by obtain ⟨_,_,hr,_⟩:=h;exact bp hr
def yt (w:World) (e:Ending) (w':World):Prop:=∃ s,e = .returned (.pointer (some ⟨s,0,none⟩))/\Pr w' s new 0/\w.heap.size<=s/\Below w.heap.size w w'
def aW (w:World) (s:Nat) (x:Int) (a:A) (t:Nat) (e:Ending) (w':World):Prop:=e = .returned (.int .i64 x)/\Pr w' s a t/\Only (fun b=>b=s) w w'
theorem nS (w:World):Calls prog 24 #[] w (yt w):=by
 have E:Hid (yt w (.returned (.pointer (some ⟨w.heap.size,0,none⟩))) (w.alloc (.cells #[.int .i64 1,.int .i64 0,.int .i64 2,.int .i64 0] 118))):=Hh ⟨_,rfl,⟨0,0,bi w _,⟨by decide,by decide,fun _=>rfl,fun _=>rfl⟩⟩,am _,(af _ _).alloc (am _) _⟩
 go_enter func24,ntmps24
 go_wp2
 go_ret
 exact E
def hs (n:Int):Bool:=decide (0<=n) && decide (n < 2)
theorem eB (w:World) (s:Nat) (n:Int):Calls prog 91 #[.pointer (some ⟨s,0,none⟩),.int .i64 n] w fun e w'=>e = .returned (.bool (hs n))/\Below w.heap.size w w':=by
 have E:Hid (hs n=(decide (0<=n) && decide (n < 2))):=Hh rfl;generalize hs n=b at *
 by_cases h0:0<=n
 ·by_cases h2:n < 2
  ·obtain rfl:b=true:=by rw [E.out];simp [h0,h2]
   clear E
   go_enter func91,ntmps91
   go_wp2
   go_ret
   exact ⟨rfl,af _ _⟩
  ·obtain rfl:b=false:=by rw [E.out];simp [h2]
   clear E
   go_enter func91,ntmps91
   go_wp2
   go_ret
   exact ⟨rfl,af _ _⟩
 ·obtain rfl:b=false:=by rw [E.out];simp [h0]
  clear E
  go_enter func91,ntmps91
  go_wp2
  go_ret
  exact ⟨rfl,af _ _⟩
theorem UH {n:Int} (h0:n≠0) (h1:n≠1):hs n=false:=by
 unfold hs
 by_cases a:0<=n
 ·have:¬ n < 2:=by omega
  simp [this]
 ·simp [a]
theorem aaF (P:Pr w s a t):Calls prog 63 #[.pointer (some ⟨s,0,none⟩),.int .i64 0] w (aW w s (Fb a 0) (sI a 0) t):=by
 obtain ⟨z0,z1,hr,hv⟩:=P;have H:=Hh (eB w s 0);rw [show hs 0=true from rfl] at H;have e1:Fb a 0=if a.r0=4 then 10 else 0:=rfl;have e2:sI a 0 = { a with r0:=4 }:=rfl
 by_cases q:a.r0=4
 ·have E:Hid (∀ w',Below w.heap.size w w'->aW w s (Fb a 0) (sI a 0) t (.returned (.int .i64 10)) w'):=Hh fun w' b=>⟨by rw [e1,az q],by rw [e2];exact ⟨z0,z1,by have:=hr.below b;rw [q] at this;exact this,⟨hv.b0,hv.b1,(fun g=>absurd g (by show ¬ ((4:Int)=2\/(4:Int)=3);decide)),hv.e1⟩⟩,Only.of_below b⟩
  have R:=Hh hr;rw [q] at R;clear hr hv e1 e2;generalize Fb a 0=x at *;generalize sI a 0=a' at *
  go_enter func63,ntmps63
  go_wp2_with fail;refine H.mono ?_;rintro e w1 ⟨rfl,b1⟩;have c0:=Fl.rc (R.below b1) 0;have F:=Hh (E w1 b1);clear R H E b1 q;go_wp2
  go_ret
  exact F
 ·have E:Hid (∀ w',Below w.heap.size w w'->aW w s (Fb a 0) (sI a 0) t (.returned (.int .i64 0)) ((w'.setCell ⟨s,0,none⟩ (.int .i64 4)).setCell ⟨s,1,none⟩ (.int .i64 0))):=Hh fun w' b=>⟨by rw [e1,aq q],by rw [e2];exact ⟨0,z1,((hr.below b).set0 4).set1 0,⟨⟨by decide,by omega⟩,hv.b1,(fun g=>absurd g (by show ¬ ((4:Int)=2\/(4:Int)=3);decide)),hv.e1⟩⟩,((Only.of_below b).trans (bC s 0 _ _) (fun _ _ q=>q)).trans (bC s 1 _ _) (fun _ _ q=>q)⟩
  have R:=Hh hr;clear hr hv e1 e2;generalize Fb a 0=x' at *;generalize sI a 0=a' at *;generalize a.r0=x0 at *;generalize a.r1=x1 at *
  go_enter func63,ntmps63
  go_wp2_with fail;refine H.mono ?_;rintro e w1 ⟨rfl,b1⟩;have c0:=Fl.rc (R.below b1) 0;have f0:=aj (R.below b1) 0;have f1:=aj (R.below b1) 1;have c1:=Fl.rc (R.below b1) 1;have F:=Hh (E w1 b1);clear R H E b1;go_wp2
  go_ret
  exact F
theorem ZV (P:Pr w s a t):Calls prog 63 #[.pointer (some ⟨s,0,none⟩),.int .i64 1] w (aW w s (Fb a 1) (sI a 1) t):=by
 obtain ⟨z0,z1,hr,hv⟩:=P;have H:=Hh (eB w s 1);rw [show hs 1=true from rfl] at H;have e1:Fb a 1=if a.r1=4 then 10 else 0:=rfl;have e2:sI a 1 = { a with r1:=4 }:=rfl
 by_cases q:a.r1=4
 ·have E:Hid (∀ w',Below w.heap.size w w'->aW w s (Fb a 1) (sI a 1) t (.returned (.int .i64 10)) w'):=Hh fun w' b=>⟨by rw [e1,az q],by rw [e2];exact ⟨z0,z1,by have:=hr.below b;rw [q] at this;exact this,⟨hv.b0,hv.b1,hv.e0,(fun g=>absurd g (by show ¬ ((4:Int)=2\/(4:Int)=3);decide))⟩⟩,Only.of_below b⟩
  have R:=Hh hr;rw [q] at R;clear hr hv e1 e2;generalize Fb a 1=x at *;generalize sI a 1=a' at *
  go_enter func63,ntmps63
  go_wp2_with fail;refine H.mono ?_;rintro e w1 ⟨rfl,b1⟩;have c0:=Fl.rc (R.below b1) 2;have F:=Hh (E w1 b1);clear R H E b1 q;go_wp2
  go_ret
  exact F
 ·have E:Hid (∀ w',Below w.heap.size w w'->aW w s (Fb a 1) (sI a 1) t (.returned (.int .i64 0)) ((w'.setCell ⟨s,2,none⟩ (.int .i64 4)).setCell ⟨s,3,none⟩ (.int .i64 0))):=Hh fun w' b=>⟨by rw [e1,aq q],by rw [e2];exact ⟨z0,0,((hr.below b).set2 4).Jb 0,⟨hv.b0,⟨by decide,by omega⟩,hv.e0,(fun g=>absurd g (by show ¬ ((4:Int)=2\/(4:Int)=3);decide))⟩⟩,((Only.of_below b).trans (bC s 2 _ _) (fun _ _ q=>q)).trans (bC s 3 _ _) (fun _ _ q=>q)⟩
  have R:=Hh hr;clear hr hv e1 e2;generalize Fb a 1=x' at *;generalize sI a 1=a' at *;generalize a.r0=x0 at *;generalize a.r1=x1 at *
  go_enter func63,ntmps63
  go_wp2_with fail;refine H.mono ?_;rintro e w1 ⟨rfl,b1⟩;have c0:=Fl.rc (R.below b1) 2;have f0:=aj (R.below b1) 2;have f1:=aj (R.below b1) 3;have c1:=Fl.rc (R.below b1) 3;have F:=Hh (E w1 b1);clear R H E b1;go_wp2
  go_ret
  exact F
theorem NT (P:Pr w s a t) (n:Int):Calls prog 63 #[.pointer (some ⟨s,0,none⟩),.int .i64 n] w (aW w s (Fb a n) (sI a n) t):=by
 by_cases h0:n=0
 ·subst h0;exact aaF P
 ·by_cases h1:n=1
  ·subst h1;exact ZV P
  ·have E:Hid (∀ w',Below w.heap.size w w'->aW w s (Fb a n) (sI a n) t (.returned (.int .i64 1)) w'):=Hh fun w' b=>⟨by unfold Fb;rw [aq h0,aq h1],by unfold sI;rw [aq h0,aq h1];exact P.only (G:=fun _=>False) (Only.of_below b) (fun g=>g),Only.of_below b⟩
   have H:=Hh (eB w s n);rw [UH h0 h1] at H;clear P h0 h1
   go_enter func63,ntmps63
   go_wp2_with fail;refine H.mono ?_;rintro e w1 ⟨rfl,b1⟩;have F:=Hh (E w1 b1);clear H E b1;go_wp2
   go_ret
   exact F
theorem QZ (P:Pr w s a t):Calls prog 64 #[.pointer (some ⟨s,0,none⟩),.int .i64 0] w (aW w s (rsE a 0) (sD a 0) t):=by
 obtain ⟨z0,z1,hr,hv⟩:=P;have H:=Hh (eB w s 0);rw [show hs 0=true from rfl] at H;have e1:rsE a 0=if a.r0=4 then 0 else 10:=rfl;have e2:sD a 0=if a.r0=4 then { a with r0:=3,q0:=0 } else a:=rfl
 by_cases q:a.r0=4
 ·have E:Hid (∀ w',Below w.heap.size w w'->aW w s (rsE a 0) (sD a 0) t (.returned (.int .i64 0)) ((w'.setCell ⟨s,0,none⟩ (.int .i64 3)).setCell ⟨s,1,none⟩ (.int .i64 0))):=Hh fun w' b=>⟨by rw [e1,az q],by rw [e2,az q];exact ⟨0,z1,((hr.below b).set0 3).set1 0,⟨⟨by decide,by omega⟩,hv.b1,(fun _=>rfl),hv.e1⟩⟩,((Only.of_below b).trans (bC s 0 _ _) (fun _ _ q=>q)).trans (bC s 1 _ _) (fun _ _ q=>q)⟩
  have R:=Hh hr;rw [q] at R;clear hr hv e1 e2;generalize rsE a 0=x at *;generalize sD a 0=a' at *
  go_enter func64,ntmps64
  go_wp2_with fail;refine H.mono ?_;rintro e w1 ⟨rfl,b1⟩;have c0:=Fl.rc (R.below b1) 0;have f0:=aj (R.below b1) 0;have f1:=aj (R.below b1) 1;have c1:=Fl.rc (R.below b1) 1;have F:=Hh (E w1 b1);clear R H E b1 q;go_wp2
  go_ret
  exact F
 ·have E:Hid (∀ w',Below w.heap.size w w'->aW w s (rsE a 0) (sD a 0) t (.returned (.int .i64 10)) w'):=Hh fun w' b=>⟨by rw [e1,aq q],by rw [e2,aq q];exact ⟨z0,z1,hr.below b,hv⟩,Only.of_below b⟩
  have R:=Hh hr;have q4:=bne_iff_ne.2 q;clear hr hv e1 e2 q;generalize rsE a 0=x' at *;generalize sD a 0=a' at *;generalize a.r0=x0 at *;generalize a.r1=x1 at *
  go_enter func64,ntmps64
  go_wp2_with fail;refine H.mono ?_;rintro e w1 ⟨rfl,b1⟩;have c0:=Fl.rc (R.below b1) 0;have F:=Hh (E w1 b1);clear R H E b1;go_wp2
  go_ret
  exact F
theorem Qq (P:Pr w s a t):Calls prog 64 #[.pointer (some ⟨s,0,none⟩),.int .i64 1] w (aW w s (rsE a 1) (sD a 1) t):=by
 obtain ⟨z0,z1,hr,hv⟩:=P;have H:=Hh (eB w s 1);rw [show hs 1=true from rfl] at H;have e1:rsE a 1=if a.r1=4 then 0 else 10:=rfl;have e2:sD a 1=if a.r1=4 then { a with r1:=3,q1:=0 } else a:=rfl
 by_cases q:a.r1=4
 ·have E:Hid (∀ w',Below w.heap.size w w'->aW w s (rsE a 1) (sD a 1) t (.returned (.int .i64 0)) ((w'.setCell ⟨s,2,none⟩ (.int .i64 3)).setCell ⟨s,3,none⟩ (.int .i64 0))):=Hh fun w' b=>⟨by rw [e1,az q],by rw [e2,az q];exact ⟨z0,0,((hr.below b).set2 3).Jb 0,⟨hv.b0,⟨by decide,by omega⟩,hv.e0,(fun _=>rfl)⟩⟩,((Only.of_below b).trans (bC s 2 _ _) (fun _ _ q=>q)).trans (bC s 3 _ _) (fun _ _ q=>q)⟩
  have R:=Hh hr;rw [q] at R;clear hr hv e1 e2;generalize rsE a 1=x at *;generalize sD a 1=a' at *
  go_enter func64,ntmps64
  go_wp2_with fail;refine H.mono ?_;rintro e w1 ⟨rfl,b1⟩;have c0:=Fl.rc (R.below b1) 2;have f0:=aj (R.below b1) 2;have f1:=aj (R.below b1) 3;have c1:=Fl.rc (R.below b1) 3;have F:=Hh (E w1 b1);clear R H E b1 q;go_wp2
  go_ret
  exact F
 ·have E:Hid (∀ w',Below w.heap.size w w'->aW w s (rsE a 1) (sD a 1) t (.returned (.int .i64 10)) w'):=Hh fun w' b=>⟨by rw [e1,aq q],by rw [e2,aq q];exact ⟨z0,z1,hr.below b,hv⟩,Only.of_below b⟩
  have R:=Hh hr;have q4:=bne_iff_ne.2 q;clear hr hv e1 e2 q;generalize rsE a 1=x' at *;generalize sD a 1=a' at *;generalize a.r0=x0 at *;generalize a.r1=x1 at *
  go_enter func64,ntmps64
  go_wp2_with fail;refine H.mono ?_;rintro e w1 ⟨rfl,b1⟩;have c0:=Fl.rc (R.below b1) 2;have F:=Hh (E w1 b1);clear R H E b1;go_wp2
  go_ret
  exact F
theorem Ed (P:Pr w s a t) (n:Int):Calls prog 64 #[.pointer (some ⟨s,0,none⟩),.int .i64 n] w (aW w s (rsE a n) (sD a n) t):=by
 by_cases h0:n=0
 ·subst h0;exact QZ P
 ·by_cases h1:n=1
  ·subst h1;exact Qq P
  ·have E:Hid (∀ w',Below w.heap.size w w'->aW w s (rsE a n) (sD a n) t (.returned (.int .i64 1)) w'):=Hh fun w' b=>⟨by unfold rsE;rw [aq h0,aq h1],by unfold sD;rw [aq h0,aq h1];exact P.only (G:=fun _=>False) (Only.of_below b) (fun g=>g),Only.of_below b⟩
   have H:=Hh (eB w s n);rw [UH h0 h1] at H;clear P h0 h1
   go_enter func64,ntmps64
   go_wp2_with fail;refine H.mono ?_;rintro e w1 ⟨rfl,b1⟩;have F:=Hh (E w1 b1);clear H E b1;go_wp2
   go_ret
   exact F
theorem MJ {x:Int} (k:Nat) (hk:k < 2) (c:∀ w',Below w.heap.size w w'->w'.cell? ⟨s,2 * k,none⟩=some (.int .i64 x)):Calls prog 146 #[.pointer (some ⟨s,0,none⟩),.int .i64 (k:Int)] w fun e w'=>e = .returned (.int .i64 x)/\Below w.heap.size w w':=by
 have H:=Hh (eB w s k)
 rcases (by omega:k=0\/k=1) with rfl | rfl
 ·rw [show hs ((0:Nat):Int)=true from rfl] at H
  go_enter func146,ntmps146
  go_wp2_with fail;refine H.mono ?_;rintro e w1 ⟨rfl,b1⟩;have c0:=c w1 b1;have B1:=Hh b1;clear H b1 c;go_wp2
  go_ret
  exact ⟨rfl,B1⟩
 ·rw [show hs ((1:Nat):Int)=true from rfl] at H
  go_enter func146,ntmps146
  go_wp2_with fail;refine H.mono ?_;rintro e w1 ⟨rfl,b1⟩;have c0:=c w1 b1;have B1:=Hh b1;clear H b1 c;go_wp2
  go_ret
  exact ⟨rfl,B1⟩
theorem Vj (P:Pr w s a t) (n:Int):Calls prog 146 #[.pointer (some ⟨s,0,none⟩),.int .i64 n] w fun e w'=>e = .returned (.int .i64 (rl a n))/\Below w.heap.size w w':=by
 obtain ⟨z0,z1,hr,hv⟩:=P
 by_cases h0:n=0
 ·subst h0
  exact MJ 0 (by decide) fun w' b=>ah (hr.below b) 0
 ·by_cases h1:n=1
  ·subst h1
   exact MJ 1 (by decide) fun w' b=>ah (hr.below b) 2
  ·have H:=Hh (eB w s n)
   rw [UH h0 h1] at H;have E:Hid (rl a n=0):=Hh (by unfold rl;rw [aq h0,aq h1]);clear hr hv h0 h1;generalize rl a n=x at *;obtain rfl:=E.out;clear E
   go_enter func146,ntmps146
   go_wp2_with fail;refine H.mono ?_;rintro e w1 ⟨rfl,b1⟩;have B1:=Hh b1;clear H b1;go_wp2
   go_ret
   exact ⟨rfl,B1⟩
def du (r z n:Int):Bool:=(decide (r=2) && decide (4<=z)) || (decide (r=3) && decide (8+n<=z))
theorem Kq (w:World) (r z n:Int) (hn:0<=n/\n<=1):Calls prog 111 #[.agg #[.int .i64 r,.int .i64 z],.int .i64 n] w fun e w'=>e = .returned (.bool (du r z n))/\Below w.heap.size w w':=by
 have E:Hid (du r z n=((decide (r=2) && decide (4<=z)) || (decide (r=3) && decide (8+n<=z)))):=Hh rfl;have w8:IntKind.i64.wrap (8+n)=8+n:=cH _ (by omega);have B:Hid (Below w.heap.size w (w.alloc (.cells #[.int .i64 r,.int .i64 z] 115))):=Hh ((af _ _).alloc (am _) _);generalize du r z n=b at *
 by_cases h2:r=2
 ·subst h2
  obtain rfl:b=decide (4<=z):=by rw [E.out];simp
  clear E
  go_enter func111,ntmps111
  go_wp2
  go_ret
  exact ⟨rfl,B⟩
 ·by_cases h3:r=3
  ·subst h3
   obtain rfl:b=decide (8+n<=z):=by rw [E.out];simp
   clear E h2
   go_enter func111,ntmps111
   go_wp2
   go_ret
   exact ⟨rfl,B⟩
  ·obtain rfl:b=false:=by rw [E.out];simp [h2,h3]
   have q2:=cN.2 h2;have q3:=cN.2 h3;clear E h2 h3
   go_enter func111,ntmps111
   go_wp2
   go_ret
   exact ⟨rfl,B⟩
end Wt
