import Derived.Test.YtdbdacceecnpmaaGreatDoorQr5
import Derived.Laws.CopyOwn
import Derived.Deep.CutRange
set_option maxRecDepth 100000
set_option maxHeartbeats 8000000
namespace Go.Proofs.YtdbdacceecnpmaaGreatDoor
open Go.Proofs.Tryz
open Ck (LL lat sE tE)
open Fl (K4 R4 goodF okL okR rat row_cell row_frozen z4)
open Fs (Abs Fil Fx OkA Only St dA dD dE dV look_none sA sB)
open Pa (Has K2 KB KN S2 Stl Sts apS dD_le ex1 exU exU_d exU_end hr_ok okH only_grown ptr rdE rdS rdS_at rdS_len sat vat)
open Ro (E5 eat may_len okE z5)
open Rw (At Ow Rd)
namespace Pa
open Go.RowKit Go.Maps
open Fs (Wf Glob copy_any CopySt grown_of)
open Ro (K5)
open Ck (sN RdL may_all)
attribute [local irreducible] Sd.wpSd wpQuiet
def hUp (S:Sts) (T:LL) (V:List Bool) (P:List S2) (k:Nat):Hr:=fun n=>if 1<=n/\n < k/\hrB S T V P n=true then some (hrV S T V P n) else none
section
variable {S:Sts} {T:LL} {V:List Bool} {P:List S2}
theorem hUp_one:hUp S T V P 1=fun _=>none:=funext fun n=>by unfold hUp;rw [ah (by omega)]
variable {k:Nat}
theorem hUp_yes (h1:1<=k) (h:hrB S T V P k=true):hput (hUp S T V P k) k (hrV S T V P k)=hUp S T V P (k+1):=funext fun n=>by
 unfold hput hUp
 by_cases e:n=k
 ·subst e
  rw [aj rfl,aj ⟨by omega,by omega,h⟩]
 ·rw [ah e]
  by_cases g:1<=n/\n < (k:Int)/\hrB S T V P n=true
  ·rw [aj g,aj ⟨g.1,by omega,g.2.2⟩]
  ·rw [ah g,ah fun q=>g ⟨q.1,by omega,q.2.2⟩]
theorem hUp_no (h:hrB S T V P k=false):hUp S T V P k=hUp S T V P (k+1):=funext fun n=>by
 unfold hUp
 by_cases g:1<=n/\n < (k:Int)/\hrB S T V P n=true
 ·rw [aj g,aj ⟨g.1,by omega,g.2.2⟩]
 ·rw [ah g,ah fun q=>by
   by_cases e:n=k
   ·subst e;rw [h] at q;cases q.2.2
   ·exact g ⟨q.1,by omega,q.2.2⟩]
theorem hUp_end:hUp S T V P 17=hr S T V P:=funext fun n=>by
 unfold hUp hr
 by_cases g:1<=n/\n < ((17:Nat):Int)/\hrB S T V P n=true
 ·rw [aj g,aj ⟨g.1,by omega,g.2.2⟩]
 ·rw [ah g,ah fun q=>g ⟨q.1,by omega,q.2.2⟩]
end
structure H1 (w:World) (b k:Nat) (h:Hr) (wr:World):Prop where
 mp:∃ N,HBl wr b N h/\N<=k
 lo:w.heap.size<=b
 bel:Below w.heap.size w wr
theorem H1.below {w wr wr':World} {b k:Nat} {h:Hr} (H:H1 w b k h wr) (hb:Below wr.heap.size wr wr'):H1 w b k h wr':=by
 obtain ⟨⟨N,m,hN⟩,lo,bel⟩:=H;exact ⟨⟨N,m.below hb,hN⟩,lo,bel.trans (hb.mono bel.size)⟩
def rdL (S:Sts) (T:LL) (V:List Bool) (P:List S2):Sts:=if rdE S T V=0 then rdS S T V (hr S T V P) else []
def RoundPost (w:World) (E:Int) (S':Sts) (e:Ending) (w':World):Prop:=∃ v,e = .returned (.tuple #[v,.int .i64 E])/\Stl w' v S'/\Below w.heap.size w w'
theorem stl_nil (w:World):Stl w (.slice none 0 0) []:=⟨[],Rd.nil w,rfl,fun i hi=>by cases hi⟩
theorem round_any {w:World} {vs vt vl vp:Value} {S:Sts} {T:LL} {V:List Bool} {P:List S2} (HS:Stl w vs S) (HT:RdL w vt T) (HV:Rd KB w vl V) (RP:Rd K2 w vp P) (hg:Glob w) (hd:∀ i,i < S.length->0<=(sat S i).2/\(sat S i).2 < 900000) :
 Calls prog 113 #[vs,vt,vl,vp] w (RoundPost w (rdE S T V) (rdL S T V P)):=by
 have FA:Hid (Calls prog 133 #[vs,vt,vl] w fun e w'=>e = .returned (.int .i64 (rdE S T V))/\Below w.heap.size w w'):=Hh (by
  obtain ⟨ps,h1,h2,_⟩:=HS;have:=fault_any w vs vt vl (ps.map some) T V (rd_some h1) HT HV;have e:fE (ps.map some) T V=rdE S T V:=by
   unfold fE rdE;rw [nB_some,aL,h2];simp only [true_and]
  rw [e] at this
  exact this)
 by_cases hE:rdE S T V=0
 ·have hcond:1<=S.length/\S.length<=32/\T.length=S.length/\V.length=S.length/\tE T=0:=by
   unfold rdE at hE
   split at hE
   ·rename_i h
    exact ⟨h.1,h.2.1,h.2.2.1,h.2.2.2,hE⟩
   ·omega
  have NS:Hid (Ns w vs vt vl S T V):=Hh ⟨HS,HT,HV,hcond.2.2.1,hcond.2.2.2.1,hcond.2.2.2.2⟩;have RR:=Hh RP;have GG:=Hh hg;have DD:=Hh hd;have EL:Hid (rdL S T V P=rdS S T V (hr S T V P)):=Hh (aj hE);rw [hE] at FA;rw [hE,EL.out];have HR:Hid (∀ s,Calls prog 134 #[vs,vt,vl,vp,.int .i64 s] w (HrdPost w (hrV S T V P s) (hrB S T V P s))):=Hh (fun s=>heard_any NS RP s);have HE:=Hh (fun W b s=>heard_any (NS.below (w':=W) b) (RP.below b) s);obtain ⟨sa,cs,rfl,hms⟩:=HS.slice;clear HS HT HV RP hg hd hE HR;generalize hn:S.length=n at *;have HN:=Hh hn;clear hn;have hmm:=@run_makeMap prog
  go_enter func113,ntmps113
  go_wp2_with fail;refine FA.mono ?_;rintro e w1 ⟨rfl,b1⟩;have M0:Hid (H1 w w1.heap.size 0 (hUp S T V P 1) (w1.alloc (.map #[] 0))):=Hh ⟨⟨0,by rw [hUp_one];exact hbl_new w1,ac _⟩,b1.size,b1.alloc b1.size _⟩;clear b1 FA;go_wp2;clear hmm;generalize (w1.alloc (.map #[] 0))=W0 at *;generalize w1.heap.size=b at *
  go_loopw [12] (fun i wr=>∃ k:Nat,1<=k/\k<=17/\i = .int .i64 k/\Hid (H1 w b k (hUp S T V P k) wr)) (fun i _=>17 - (intOf i).toNat)
  case atStart=>exact ⟨1,by omega,by omega,rfl,⟨by obtain ⟨N,m,h⟩:=M0.out.mp;exact ⟨N,m,by omega⟩,M0.out.lo,M0.out.bel⟩⟩
  case round =>
   obtain ⟨k,hk1,hk,rfl,I⟩:=hrel;clear M0
   by_cases hlt:k < 17
   ·have HK:=Hh (HE wr I.bel (k:Int))
    have YY:=Hh (fun h=>hUp_yes (S:=S) (T:=T) (V:=V) (P:=P) (k:=k) hk1 h);have NN:=Hh (fun h=>hUp_no (S:=S) (T:=T) (V:=V) (P:=P) (k:=k) h);have WK:=Hh (wf_of (n:=(k:Int)) ⟨by omega,by omega⟩);unfold HrdPost at HK;go_wp2_with fail;refine HK.mono ?_;rintro e w2 ⟨rfl,b2⟩;have I2:=Hh (I.below b2);clear b2 I HK;generalize hrV S T V P (k:Int)=y at *
    cases hh:hrB S T V P (k:Int) with
    | false =>
      have EQ:=Hh (NN hh);have I3:Hid (H1 w b (k+1) (hUp S T V P (k+1)) w2):=Hh ⟨by obtain ⟨N,m,h⟩:=I2.out.mp;exact ⟨N,by rw [← EQ.out];exact m,by omega⟩,I2.out.lo,I2.out.bel⟩;clear YY NN I2 EQ hh;go_wp2
      go_roundw
      case rel=>exact ⟨k+1,by omega,by omega,by go_num,I3⟩
      case measure=>simp [intOf];omega
    | true =>
      have EQ:=Hh (YY hh);obtain ⟨N,m,hN⟩:=I2.mp;have M2:=Hh m;have LO:=Hh I2.lo;have BE:=Hh I2.bel;clear YY NN hh m I2
      go_wp2_with (first
       | (at_mapUpdate;refine at_hput rfl _ _ _ rfl rfl M2 (by unfold maxLen;omega) (k:Int) y rfl rfl WK.out ?_;intro w4 m4 g4)
       | fail)
      have I3:Hid (H1 w b (k+1) (hUp S T V P (k+1)) w4):=Hh ⟨⟨N+1,by rw [← EQ.out];exact m4,by omega⟩,LO.out,BE.out.grown g4 BE.out.size (fun j e=>by injection e with e;have:=LO.out;omega)⟩;clear m4 g4 M2 EQ BE LO;go_wp2
      go_roundw
      case rel=>exact ⟨k+1,by omega,by omega,by go_num,I3⟩
      case measure=>simp [intOf];omega
   ·have e17:k=17:=by omega
    rw [e17,hUp_end] at I;clear e17;have HM:Hid (∀ W,Below wr.heap.size wr W->HMap W (.map (some b)) (hr S T V P)):=Hh (fun W hb=>by obtain ⟨⟨N,m,_⟩,_,_⟩:=I;exact ⟨b,N,rfl,m.below hb⟩);have BW:=Hh I.bel;have OH:=Hh (hr_ok S T V P);clear I HE;generalize hr S T V P=h at *;have AT:=Hh (fun i hi=>rdS_at S T V h (i:=i) hi);have RL:=Hh (rdS_len S T V h);generalize rdS S T V h=S' at *;clear EL;go_wp2;clear hk1 hk hlt;generalize (k:Int)=kk at *
    rename World=>wA
    go_loopw [45,15] (fun i o wr2=>∃ (k:Nat) (ps:List Nat),k<=n/\i = .int .i64 k/\Hid (PI SAp 76 wA S' k o ps wr2)) (fun i _ _=>n - (intOf i).toNat)
    case atStart=>exact ⟨0,[],aI _,rfl,PI.start wA (aa _ _)⟩
    case round =>
     obtain ⟨k,ps,hk,rfl,I⟩:=hrel;have BI:=Hh (BW.trans (I.bel.mono BW.size));obtain ⟨av,cv,ev,_⟩:=I.own.slice;have OWN:=Hh I.own;generalize ps.length=Lp at ev;subst ev
     by_cases hlt:k < n
     ·have N1:=Hh (NS.below BI)
      obtain ⟨b1,o1,c1,s,e1,cS,hS⟩:=N1.st.one (k:=k) (by have:=HN.out;omega);rw [HN.out] at e1;injection e1 with e1 _ e2;subst e1 e2;obtain ⟨b2,o2,c2,at',ct,e2,cT,_,_⟩:=N1.tb.one (k:=k) (by omega);have RT:=Hh (N1.tb.rd (k:=k) (by omega) e2 cT);rw [hcond.2.2.1] at e2;subst e2;obtain ⟨a3,c3,e3,_,_,h3⟩:=N1.lv;rw [hcond.2.2.2.1] at e3;subst e3;obtain ⟨b3,o3,rfl,A3⟩:=h3 (by omega);have cV:=atB A3 (i:=k) (by omega);rw [show V.getD k false=vat V k from rfl] at cV;have EA:=Hh (AT k (by have:=HN.out;omega));have OKT:=Hh (tab_each N1.ok (k:=k) (by omega));have ML:=Hh (may_len (may_all (not_bad N1.ok) k (by omega)));have HS2:=Hh hS;clear hS h3 A3 N1;unfold ptr at cS
      cases hv:vat V k with
      | true =>
        rw [hv] at cV;have AP:=Hh (apply_any HS2 (GG.below BI) (DD k (by omega)) RT.out (fun y hy=>(OKT.out y hy).1) (by have:=ML.out;omega) (HM.out wr I.out.bel) OH.out);rw [hv,aj rfl] at EA;unfold ApPost at AP;clear HS2;generalize (lat T k).length=lk at *;go_wp2_with fail;refine AP.mono ?_;rintro e w5 ⟨g,F5,rfl,st5,lo5,b5⟩;have LN:=Hh I.len;have BL:=b5.alloc b5.size (.cells #[.pointer (some ⟨g,0,none⟩)] 76);have I5:=Hh (I.below sap_good BL);have G5:Hid (SAp (w5.alloc (.cells #[.pointer (some ⟨g,0,none⟩)] 76)) g (sat S' k) (Value.slice av Lp cv).ownBlock):=Hh (sap_good.below (by rw [EA.out];exact sap_new st5 lo5 I.out.lt) ((aa w5.heap.size w5).alloc (ac _) _));clear st5 lo5 b5 I OWN AP cS cT cV BL
        (try unfold ptr)
        go_wp2_with (at_builtin;refine push_at (K:=KN) underlying171 infoN rfl (by omega) rfl _ _ rfl wA.heap.size _ _ rfl I5.out.own _ g rfl ?d1 ?d2 ?d3 ?_)
        case d1 =>
         intro j u hu
         match j,hu with
         | 0,hu=>simp [KN] at hu;subst hu;unfold ptr;go_simp
         | j+1,hu=>simp [KN] at hu
        case d2=>rw [LN.out];omega
        case d3=>have:=I5.bel.size;exact this
        intro v' w6 o6 g6 h6
        have NEW:=Hh (I5.push sap_good o6 g6 (by simpa using h6) G5.out);clear o6 g6 h6 I5 G5 LN;obtain ⟨av',cv',ev',_⟩:=NEW.own.slice;generalize (ps ++ [g]).length=Lp' at ev';subst ev';go_wp2
        go_roundw
        case rel=>exact ⟨k+1,ps ++ [g],by omega,by go_num,NEW⟩
        case measure=>simp [intOf];omega
      | false =>
        rw [hv] at cV;rw [hv,ah bO] at EA;have AP:=Hh (copy_has HS2);unfold CopySt at AP;clear HS2;generalize (lat T k).length=lk at *;go_wp2_with fail;refine AP.mono ?_;rintro e w5 ⟨g,F5,rfl,st5,lo5,b5⟩;have LN:=Hh I.len;have BL:=b5.alloc b5.size (.cells #[.pointer (some ⟨g,0,none⟩)] 76);have I5:=Hh (I.below sap_good BL);have G5:Hid (SAp (w5.alloc (.cells #[.pointer (some ⟨g,0,none⟩)] 76)) g (sat S' k) (Value.slice av Lp cv).ownBlock):=Hh (sap_good.below (by rw [EA.out];exact sap_new st5 lo5 I.out.lt) ((aa w5.heap.size w5).alloc (ac _) _));clear st5 lo5 b5 I OWN AP cS cT cV BL
        (try unfold ptr)
        go_wp2_with (at_builtin;refine push_at (K:=KN) underlying171 infoN rfl (by omega) rfl _ _ rfl wA.heap.size _ _ rfl I5.out.own _ g rfl ?d1 ?d2 ?d3 ?_)
        case d1 =>
         intro j u hu
         match j,hu with
         | 0,hu=>simp [KN] at hu;subst hu;unfold ptr;go_simp
         | j+1,hu=>simp [KN] at hu
        case d2=>rw [LN.out];omega
        case d3=>have:=I5.bel.size;exact this
        intro v' w6 o6 g6 h6
        have NEW:=Hh (I5.push sap_good o6 g6 (by simpa using h6) G5.out);clear o6 g6 h6 I5 G5 LN;obtain ⟨av',cv',ev',_⟩:=NEW.own.slice;generalize (ps ++ [g]).length=Lp' at ev';subst ev';go_wp2
        go_roundw
        case rel=>exact ⟨k+1,ps ++ [g],by omega,by go_num,NEW⟩
        case measure=>simp [intOf];omega
     ·obtain rfl:k=n:=by omega
      have RES:Hid (RoundPost w 0 S' (.returned (.tuple #[.slice av Lp cv,.int .i64 0])) wr):=Hh ⟨_,rfl,PI.stl (S:=S') (by rw [RL.out,HN.out];exact I.out),BI.out⟩;clear I OWN;go_wp2
      go_ret2
      exact RES
 ·have EL:Hid (rdL S T V P = []):=Hh (ah hE)
  rw [EL.out];have HEE:=Hh hE;have hne:(rdE S T V != 0)=true:=by simpa using hE
  obtain ⟨sa,cs,rfl,hms⟩:=HS.slice;clear HS HT HV RP hg hd hE;generalize rdE S T V=E at *
  go_enter func113,ntmps113
  go_wp2_with fail;refine FA.mono ?_;rintro e w1 ⟨rfl,b1⟩;have RES:Hid (RoundPost w E [] (.returned (.tuple #[.slice none 0 0,.int .i64 E])) w1):=Hh ⟨_,rfl,stl_nil w1,b1⟩;clear b1 FA;go_wp2
  go_ret2
  exact RES
end Pa
namespace Pa
open Go.RowKit
open Fl (newR)
open Fs (key Srt gB gV look_some look_at put_set)
open Ro (mayP eat_get)
open Ck (sN gaN pg who_hit t_gap)
open Ua (bit frm te tp tb upd turn par)
theorem okA_rec {h:Hr} (hh:okH h) {t:List E5} {V:Int->Int->Bool} (hV:∀ n,V n 0=true->grp t n 0 = []) {A:Abs} (hA:OkA A):OkA (recV h t V A):=by
 refine ⟨(Fs.map_srt (κ:=key) (κ':=key) (f:=recF h t V) (fun _=>rfl)).2 hA.srt,fun e he=>?_,fun e he=>?_,fun e he=>?_⟩
 all_goals
  obtain ⟨c,hc,rfl⟩:=bE.1 he
 ·exact hA.nm c hc
 ·obtain ⟨g1,g2,g3,g4,g5⟩:=hA.good c hc
  refine ⟨g1,g2,by rw [recF_len];exact g3,by rw [recF_len];exact g4,?_⟩;rw [recF_len];have:=recF_rat (h:=h) (t:=t) (V:=V) c (k:=0) (by omega);rw [show ((0:Nat):Int)=0 from rfl] at this;rw [this]
  split
  ·rename_i hv
   rw [hV _ hv,newV_nil];exact g5
  ·exact g5
 ·intro r hr
  obtain ⟨k,hk⟩:=bH hr;rw [recF_get] at hk
  rcases e:c.2.2[k]? with _ | v
  ·rw [e] at hk;cases hk
  ·rw [e] at hk
   simp only [bS,bY] at hk;have hv:=hA.ok c hc v (bo e);rw [← hk]
   split
   ·exact newV_ok hh _ hv
   ·exact hv
section
end
section
end
end Pa
namespace Re
open Go.RowKit
open Fl (rec4 okR_at hdr)
def KI:Rw.Kind Int:=Rw.int .i64
theorem infoI:(prog.info? 3).map (fun i=>(i.zero,i.size,i.bytes))=some (some (.int .i64 0),1,8):=by kernel_rfl
theorem addr_zero (a:Addr):a.add 0=a:=by cases a;simp [Addr.add]
def iat (l:List Int) (i:Nat):Int:=l.getD i 0
variable {w:World} {b off i k:Nat} {l l':List Int}
theorem at1 (h:At KI w b off l) (i:Nat) (hi:i < l.length):w.cell? ⟨b,off+i,none⟩=some (.int .i64 (iat l i)):=by
 have c:=h i hi 0 _ rfl;simp only [KI,Rw.int,Nat.mul_one,Nat.add_zero] at c;exact c
theorem iat_get (h:i < l.length):l[i]? = some (iat l i):=by
 unfold iat;rw [af,ai h]
 rfl
theorem ints_same (hl:l.length=l'.length) (h:∀ i,i < l.length->iat l i=iat l' i):l=l':=by
 refine List.ext_getElem hl fun i h1 h2=>?_;have:=h i h1
 simpa [iat,List.getD,List.getElem?_eq_getElem h1,List.getElem?_eq_getElem h2] using this
def okI (x:Int):Prop:=0<=x/\x<=5
instance (x:Int):Decidable (okI x):=by unfold okI;infer_instance
def seqP (l:List Int):Prop:=(0 < l.length/\l.length<=64)/\∀ i,i < l.length->okI (iat l i)
instance (l:List Int):Decidable (seqP l):=by unfold seqP;infer_instance
def seqB (l:List Int):Bool:=decide (seqP l)
theorem seq_no (hk:k < l.length) (h:¬ okI (iat l k)):false=seqB l:=(ak (fun g=>h (g.2 k hk))).symm
theorem seq_long (h:¬ (0 < l.length/\l.length<=64)):false=seqB l:=(ak (fun g=>h g.1)).symm
theorem seq_yes (h:0 < l.length/\l.length<=64) (g:∀ i,i < l.length->okI (iat l i)):true=seqB l:=(an ⟨h,g⟩).symm
def putI (x:Int):R4:=(x,0,0,0)
def fileL (l:List Int):List R4:=hdr 3 (l.length:Int) :: l.map putI
def fL (l:List Int):List R4:=if seqP l then fileL l else []
def fP (l:List Int):Int:=if seqP l then 3 else 0
def fN (l:List Int):Int:=if seqP l then 0 else 1
def takL (l:List R4):List Int:=(l.drop 1).map (·.1)
def isS (p:Int) (l:List R4):Prop:=goodF p l/\seqP (takL l)/\p=3/\l=fileL (takL l)
instance (p:Int) (l:List R4):Decidable (isS p l):=by unfold isS;infer_instance
def sL (p:Int) (l:List R4):List Int:=if isS p l then takL l else []
def sN (p:Int) (l:List R4):Int:=if isS p l then 0 else 2
theorem file_len (l:List Int):(fileL l).length=l.length+1:=by simp [fileL]
theorem tak_len (l:List R4):(takL l).length=l.length - 1:=by simp [takL]
theorem tak_file (l:List Int):takL (fileL l)=l:=by
 have e:(fun x=>(putI x).1)=(id:Int->Int):=rfl;simp only [takL,fileL,List.drop_succ_cons,List.drop_zero,List.map_map,Function.comp_def,e,List.map_id]
theorem file_good (h:seqP l):goodF 3 (fileL l):=by
 have hl:=file_len l;have:=h.1;refine ⟨by omega,by omega,by omega,by omega,?_⟩;have e:((fileL l).length:Int) - 1=(l.length:Int):=by omega
 rw [e]
 rfl
theorem file_is (h:seqP l):isS 3 (fileL l):=⟨file_good h,by rw [tak_file];exact h,rfl,by rw [tak_file]⟩
theorem seq_file (h:seqP l):sL 3 (fileL l)=l/\sN 3 (fileL l)=0:=by
 unfold sL sN;rw [aj (file_is h),aj (file_is h),tak_file];exact ⟨rfl,rfl⟩
variable {x p t:Int}
theorem okI_R (h:okI x):okR (putI x):=by
 obtain ⟨a,b⟩:=h;unfold okR putI;simp only
 omega
theorem seq_each (h:seqP l):∀ x∈l,okI x:=fun x hx=>by
 obtain ⟨i,hi,e⟩:=bK hx;have g:=h.2 i hi;have e':iat l i=x:=by
  have:=iat_get hi;rw [ai hi,e] at this;exact (bh this).symm
 rw [e'] at g;exact g
theorem ok_file (h:seqP l):okL (fileL l):=by
 intro r hr
 rcases aN.1 hr with rfl | hr
 ·have:=h.1
  have hb:∀ n:Fin 65,okR (hdr 3 (n.val:Int)):=by unfold okR;decide +kernel
  have e:=hb ⟨l.length,by omega⟩
  simpa using e
 ·obtain ⟨x,hx,rfl⟩:=bE.1 hr
  exact okI_R (seq_each h x hx)
theorem tak_at {l:List R4} (h:i+1 < l.length):iat (takL l) i=(rat l (i+1)).1:=by
 have e:(takL l)[i]? = some (rat l (i+1)).1:=by
  unfold takL rat;rw [a9,List.getElem?_drop,Nat.add_comm 1 i,af,ai h]
  rfl
 unfold iat;rw [af,e]
 rfl
theorem s_no {l:List R4} (h:¬ isS p l):sL p l = []/\sN p l=2:=⟨ah h,ah h⟩
theorem s_yes {l:List R4} (h:isS p l):sL p l=takL l/\sN p l=0:=⟨aj h,aj h⟩
theorem tak_next {l:List R4} (h:k+1 < l.length):(takL l).take k ++ [(rat l (k+1)).1]=(takL l).take (k+1):=by
 rw [bG,iat_get (by rw [tak_len];omega),tak_at h]
 rfl
def part (h:R4) (l:List Int) (k:Nat):List R4:=h :: ((l.take k).map putI ++ List.replicate (l.length - k) z4)
theorem part_len (h:R4) (l:List Int) (k:Nat) (hk:k<=l.length):(part h l k).length=l.length+1:=by
 simp [part,List.length_take]
 omega
theorem part_start (h:R4) (l:List Int):part h l 0=h :: List.replicate l.length z4:=by simp [part]
theorem take_next (hk:k < l.length):l.take (k+1)=l.take k ++ [iat l k]:=by
 rw [bG,iat_get hk]
 rfl
theorem part_set (h:R4) (hk:k < l.length):(part h l k).set (1+k) (putI (iat l k))=part h l (k+1):=by
 have e1:(l.take k).length=k:=by rw [aW];omega
 unfold part;rw [Nat.add_comm 1 k,List.set_cons_succ,cH _ _ (by rw [aL,e1];omega),aL,e1,Nat.sub_self,take_next hk];rw [show l.length - k=(l.length - (k+1))+1 by omega,List.replicate_succ]
 simp
theorem part_end (h:R4) (l:List Int):part h l l.length=h :: l.map putI:=by
 unfold part;rw [br,Nat.sub_self]
 simp
theorem own_next (h:R4) (hk:k < l.length):(h :: (l.take k).map putI) ++ [putI (iat l k)]=h :: (l.take (k+1)).map putI:=by
 rw [take_next hk]
 simp
def nxP (l:List Int) (t:Int):Prop:=seqP l/\0<=t/\t < l.length
instance (l:List Int) (t:Int):Decidable (nxP l t):=by unfold nxP;infer_instance
def nR (l:List Int) (t:Int):Int:=if nxP l t then iat l t.toNat else 0
def nT (l:List Int) (t:Int):Int:=if nxP l t then (if t+1=l.length then 0 else t+1) else 0
def nE (l:List Int) (t:Int):Int:=if nxP l t then 0 else 1
def NextPost (w:World) (l:List Int) (t:Int) (e:Ending) (w':World):Prop:=e = .returned (.tuple #[.int .i64 (nR l t),.int .i64 (nT l t),.int .i64 (nE l t)])/\Below w.heap.size w w'
theorem next_no (h:¬ nxP l t) (w':World) (hb:Below w.heap.size w w'):NextPost w l t (.returned (.tuple #[.int .i64 0,.int .i64 0,.int .i64 1])) w':=⟨by unfold nR nT nE;rw [ah h,ah h,ah h],hb⟩
theorem next_last (h:nxP l k) (h1:k+1=l.length) (w':World) (hb:Below w.heap.size w w'):NextPost w l k (.returned (.tuple #[.int .i64 (iat l k),.int .i64 0,.int .i64 0])) w':=⟨by unfold nR nT nE;rw [aj h,aj h,aj h,aj (by omega)];rfl,hb⟩
theorem next_more (h:nxP l k) (h1:k+1≠l.length) (w':World) (hb:Below w.heap.size w w'):NextPost w l k (.returned (.tuple #[.int .i64 (iat l k),.int .i64 ((k:Int)+1),.int .i64 0])) w':=⟨by unfold nR nT nE;rw [aj h,aj h,aj h,ah (by omega)];rfl,hb⟩
def SeqPost (w:World) (p:Int) (l:List R4) (e:Ending) (w':World):Prop:=∃ u,e = .returned (.tuple #[u,.int .i64 (sN p l)])/\Rd KI w' u (sL p l)/\Below w.heap.size w w'
def FilePost (w:World) (l:List Int) (e:Ending) (w':World):Prop:=∃ u,e = .returned (.tuple #[Fl.file (fP l) u,.int .i64 (fN l)])/\Rd K4 w' u (fL l)/\Below w.heap.size w w'
theorem file_no (h:¬ seqP l) (w':World) (hb:Below w.heap.size w w'):FilePost w l (.returned (.tuple #[Fl.file 0 (.slice none 0 0),.int .i64 1])) w' :=
 ⟨_,by unfold fP fN;rw [ah h,ah h],by unfold fL;rw [ah h];exact Rw.Rd.nil _,hb⟩
theorem file_yes (h:seqP l) (u:Value) (w':World) (hr:Rd K4 w' u (fileL l)) (hb:Below w.heap.size w w'):FilePost w l (.returned (.tuple #[Fl.file 3 u,.int .i64 0])) w' :=
 ⟨u,by unfold fP fN;rw [aj h,aj h],by unfold fL;rw [aj h];exact hr,hb⟩
theorem sq_no {l:List R4} (h:¬ isS p l) (w':World) (hb:Below w.heap.size w w'):SeqPost w p l (.returned (.tuple #[.slice none 0 0,.int .i64 2])) w' :=
 ⟨_,by rw [(s_no h).2],by rw [(s_no h).1];exact Rw.Rd.nil _,hb⟩
theorem sq_yes {l:List R4} (h:isS p l) (u:Value) (w':World) (hr:Rd KI w' u (takL l)) (hb:Below w.heap.size w w'):SeqPost w p l (.returned (.tuple #[u,.int .i64 0])) w' :=
 ⟨u,by rw [(s_yes h).2],by rw [(s_yes h).1];exact hr,hb⟩
end Re
namespace Wt
structure A where
 r0:Int
 q0:Int
 r1:Int
 q1:Int
def new:A:=⟨1,0,2,0⟩
def t1 (a:A):A:=if a.r0≠1/\a.r1≠1/\((a.r0=2/\4<=a.q0)\/(a.r0=3/\8<=a.q0)) then { a with r0:=1 } else a
def t2 (a:A):A:=if a.r0≠1/\a.r1≠1/\((a.r1=2/\4<=a.q1)\/(a.r1=3/\9<=a.q1)) then { a with r1:=1 } else a
def tk (a:A):A:=t2 (t1 a)
def hdN (r:Int):Int:=if r=3 then 2 else r
def op (a:A):Int:=if a.r0=1 then 0 else if a.r1=1 then 1 else -1
def hd (a:A):A:=if a.r0=1 then ⟨1,0,hdN a.r1,0⟩ else if a.r1=1 then ⟨hdN a.r0,0,1,0⟩ else ⟨a.r0,a.q0+1,a.r1,a.q1+1⟩
def opn (a:A):Int:=op (tk a)
def rnd (a:A):A:=hd (tk a)
def rl (a:A) (n:Int):Int:=if n=0 then a.r0 else if n=1 then a.r1 else 0
def crE (a:A) (n:Int):Int:=if n=0 then (if a.r0=4 then 10 else 0) else if n=1 then (if a.r1=4 then 10 else 0) else 1
def crA (a:A) (n:Int):A:=if n=0 then { a with r0:=4 } else if n=1 then { a with r1:=4 } else a
def rsE (a:A) (n:Int):Int:=if n=0 then (if a.r0=4 then 0 else 10) else if n=1 then (if a.r1=4 then 0 else 10) else 1
def rsA (a:A) (n:Int):A:=if n=0 then (if a.r0=4 then { a with r0:=3,q0:=0 } else a) else if n=1 then (if a.r1=4 then { a with r1:=3,q1:=0 } else a) else a
structure Ok (a:A):Prop where
 b0:1<=a.r0/\a.r0<=4
 b1:1<=a.r1/\a.r1<=4
 one:¬ (a.r0=1/\a.r1=1)
 p0:0<=a.q0
 p1:0<=a.q1
theorem ok_new:Ok new:=⟨by decide,by decide,by decide,by decide,by decide⟩
section
variable {a:A} (h:Ok a)
include h
theorem Ok.t1:Ok (t1 a):=by
 obtain ⟨h1,h2,h3,h4,h5⟩:=h;unfold Wt.t1
 split
 ·rename_i g
  exact ⟨by simp,h2,fun q=>g.2.1 q.2,h4,h5⟩
 ·exact ⟨h1,h2,h3,h4,h5⟩
theorem Ok.t2:Ok (t2 a):=by
 obtain ⟨h1,h2,h3,h4,h5⟩:=h;unfold Wt.t2
 split
 ·rename_i g
  exact ⟨h1,by simp,fun q=>g.1 q.1,h4,h5⟩
 ·exact ⟨h1,h2,h3,h4,h5⟩
theorem Ok.tk:Ok (tk a):=h.t1.t2
theorem Ok.hd:Ok (hd a):=by
 obtain ⟨h1,h2,h3,h4,h5⟩:=h;unfold Wt.hd hdN
 split
 ·refine ⟨by simp,?_,?_,by simp,by simp⟩ <;> simp only <;> split <;> omega
 ·split
  ·refine ⟨?_,by simp,?_,by simp,by simp⟩ <;> simp only <;> split <;> omega
  ·exact ⟨h1,h2,h3,by simp only;omega,by simp only;omega⟩
theorem Ok.rnd:Ok (rnd a):=h.tk.hd
theorem Ok.cr (n:Int):Ok (crA a n):=by
 obtain ⟨h1,h2,h3,h4,h5⟩:=h;unfold crA
 split
 ·exact ⟨by simp,h2,by simp,h4,h5⟩
 ·split
  ·exact ⟨h1,by simp,by simp,h4,h5⟩
  ·exact ⟨h1,h2,h3,h4,h5⟩
theorem Ok.rs (n:Int):Ok (rsA a n):=by
 obtain ⟨h1,h2,h3,h4,h5⟩:=h;unfold rsA
 split
 ·split
  ·exact ⟨by simp,h2,by simp,by simp,h5⟩
  ·exact ⟨h1,h2,h3,h4,h5⟩
 ·split
  ·split
   ·exact ⟨h1,by simp,by simp,h4,by simp⟩
   ·exact ⟨h1,h2,h3,h4,h5⟩
  ·exact ⟨h1,h2,h3,h4,h5⟩
end
def d0 (a:A):Prop:=(a.r0=2/\4<=a.q0)\/(a.r0=3/\8<=a.q0)
def d1 (a:A):Prop:=(a.r1=2/\4<=a.q1)\/(a.r1=3/\9<=a.q1)
theorem opn_parts (a:A):(opn a=0/\(a.r0=1\/(a.r0≠1/\a.r1≠1/\d0 a))/\(rnd a).r0=1)\/(opn a=1/\a.r0≠1/\(a.r1=1\/(a.r1≠1/\¬ d0 a/\d1 a))/\(rnd a).r1=1)\/(opn a = -1/\a.r0≠1/\a.r1≠1/\¬ d0 a/\¬ d1 a/\rnd a=⟨a.r0,a.q0+1,a.r1,a.q1+1⟩):=by
 obtain ⟨r0,q0,r1,q1⟩:=a;unfold opn rnd tk t1 t2 op hd d0 d1
 by_cases e0:r0=1
 ·exact .inl (by simp [e0])
 ·by_cases e1:r1=1
  ·exact .inr (.inl (by simp [e0,e1]))
  ·by_cases g0:(r0=2/\4<=q0)\/(r0=3/\8<=q0)
   ·exact .inl (by simp [e0,e1,g0])
   ·by_cases g1:(r1=2/\4<=q1)\/(r1=3/\9<=q1)
    ·exact .inr (.inl (by simp [e0,e1,g0,g1]))
    ·exact .inr (.inr (by simp [e0,e1,g0,g1]))
section
end
end Wt
namespace Cu
open Fs (key addE addA)
open Pa (rdL hr okA_rec)
open Ro (tabL tabN tab_may)
open Re (iat sL sN seqP takL isS)
def fB (A:Abs) (n:Int):Bool:=(Fs.look key n A).isSome
def fP (A:Abs) (n:Int):Int:=match Fs.look key n A with | none=>0 | some e=>e.2.1
def fR (A:Abs) (n:Int):List R4:=match Fs.look key n A with | none=>[] | some e=>e.2.2
theorem fR_ok {A:Abs} (h:OkA A) (n:Int):okL (fR A n):=by
 unfold fR
 split
 ·exact nofun
 ·rename_i e he
  exact (h.find he).2.2.1
def sqL (A:Abs):List Int:=sL (fP A 40) (fR A 40)
def sqB (A:Abs):Bool:=fB A 40 && decide (sN (fP A 40) (fR A 40)=0)
theorem sqL_seq {A:Abs} (h:sqB A=true):seqP (sqL A):=by
 unfold sqB at h;rw [aG,aZ] at h;obtain ⟨_,h⟩:=h;unfold sqL sL;unfold sN at h
 split
 ·rename_i g
  exact g.2.1
 ·rename_i g
  rw [ah g] at h
  omega
structure Cs where
 S:Sts
 V:List Bool
 P:Wt.A
 pl:Nat
 Q:List S2
def tbs (S:Sts) (n:Int):LL:=S.map fun x=>tabL (fP x.1 (32+n)) (fR x.1 (32+n))
theorem tbs_len (S:Sts) (n:Int):(tbs S n).length=S.length:=aL _
theorem tbs_at (S:Sts) (n:Int) {i:Nat} (hi:i < S.length):lat (tbs S n) i=tabL (fP (sat S i).1 (32+n)) (fR (sat S i).1 (32+n)):=by
 unfold lat tbs sat;rw [af,a9,ai hi,a7,af,ai hi]
 rfl
variable {S:Sts} {n:Int} {t:List E5}
theorem tbs_mem (h:t∈tbs S n):t.length<=16/\∀ x∈t,okE x:=by
 obtain ⟨x,_,rfl⟩:=bE.1 h;have m:=tab_may (fP x.1 (32+n)) (fR x.1 (32+n));refine ⟨may_len m,fun y hy=>?_⟩;obtain ⟨i,hi⟩:=bH hy;have hl:=(aM.1 hi).1;have:=(m i hl).1;rw [Ro.eat_get hl] at hi;injection hi with hi;rw [← hi];exact this
def at0 (c:Cs) (l:List Int):Nat:=if l.length<=c.pl then 0 else c.pl
def at1 (c:Cs) (l:List Int):Nat:=if at0 c l+1=l.length then 0 else at0 c l+1
def own (c:Cs):Abs:=(sat c.S (Wt.opn c.P)).1
def rT (c:Cs):LL:=tbs c.S (iat (sqL (own c)) (at0 c (sqL (own c))))
def rE (c:Cs):Int:=if Wt.opn c.P < 0 then 0 else if sqB (own c)=true then rdE c.S (rT c) c.V else 2
def rC (c:Cs):Cs :=
 if Wt.opn c.P < 0 then { c with P:=Wt.rnd c.P,Q:=[] }
 else if sqB (own c)=true then { S:=if rdE c.S (rT c) c.V=0 then rdL c.S (rT c) c.V c.Q else c.S,V:=c.V,P:=Wt.rnd c.P,pl:=at1 c (sqL (own c)),Q:=[] }
 else { c with P:=Wt.rnd c.P,Q:=[] }
structure Ac where
 k:Int
 n:Int
 f:Int
 r:Int
 v:R4
 s:Int
 m:Int
 t:Int
def no (c:Cs) (n:Int):Prop:=n < 0\/(c.S.length:Int)<=n
instance (c:Cs) (n:Int):Decidable (no c n):=by unfold no;infer_instance
def actE (x:Ac) (c:Cs):Int :=
 if x.k=1 then rE c
 else if x.k=3 then (if c.Q.length=32 then 11 else 0)
 else if x.k < 2\/6 < x.k\/no c x.n then 1
 else if x.k=2 then (if vat c.V x.n=true then (if sB (sat c.S x.n).1 x.f x.r=true then 0 else 3) else 10)
 else if x.k=4 then (if vat c.V x.n=true then 0 else 10)
 else if x.k=5 then (if vat c.V x.n=true then 10 else 0)
 else if x.t < -2000\/2000 < x.t then 1 else 0
def setS (S:Sts) (n:Int) (x:Abs×Int):Sts:=S.set n.toNat x
def actC (x:Ac) (c:Cs):Cs :=
 if x.k=1 then rC c
 else if actE x c≠0 then c
 else if x.k=3 then { c with Q:=c.Q ++ [(x.s,x.m)] }
 else if x.k=2 then { c with S:=setS c.S x.n (sA (sat c.S x.n).1 x.f x.r x.v,(sat c.S x.n).2) }
 else if x.k=4 then { c with V:=c.V.set x.n.toNat false,P:=Wt.crA c.P x.n }
 else if x.k=5 then { c with V:=c.V.set x.n.toNat true,P:=Wt.rsA c.P x.n }
 else c
def srE (c:Cs) (n o f r:Int):Int:=if no c n then 1 else if vat c.V n=true then dE (sat c.S n).1 o f r else 13
def srV (c:Cs) (n o f r:Int) (x:R4):R4:=if srE c n o f r=0 then dV (sat c.S n).1 o f r x else z4
def srC (c:Cs) (n o f r:Int) (x:R4):Cs:=if no c n\/vat c.V n=false then c else { c with S:=setS c.S n (dA (sat c.S n).1 o f r x,dD (sat c.S n).1 o f r (sat c.S n).2) }
structure OkC (c:Cs) (t:Nat):Prop where
 len:2<=c.S.length/\c.S.length<=32
 lv:c.V.length=c.S.length
 st:∀ i,i < c.S.length->OkA (sat c.S i).1/\0<=(sat c.S i).2/\(sat c.S i).2<=100 * t
 pr:Wt.Ok c.P
 pl:c.pl<=64
 few:c.Q.length<=32
theorem sat_set {x:Abs×Int} (h0:0<=n) (h1:n < S.length) (i:Nat):sat (setS S n x) i=if (i:Int)=n then x else sat S i:=by
 unfold sat setS;rw [a7,af,af,cQ]
 by_cases e:(i:Int)=n
 ·subst e
  rw [a7,aj rfl,aj (by omega),aj rfl]
  rfl
 ·rw [ah (by omega),ah e]
theorem okA_ex : ∀ {s:Abs×Int},OkA s.1->OkA (t.foldl ex1 s).1:=by
 induction t with
 | nil=>exact id
 | cons x r ih =>
   intro s h
   rw [aK]
   apply ih
   unfold ex1
   split
   ·exact h.do Fl.okR_z
   ·exact h
theorem okA_ap {h:Pa.Hr} (hh:okH h) (ok:∀ x∈t,okE x) {s:Abs×Int} (hA:OkA s.1):OkA (apS h t s).1:=by
 have h0:∀ n,(fun _ _=>true:Int->Int->Bool) n 0=true->Pa.grp t n 0 = []:=fun n _=>List.filter_eq_nil_iff.2 fun x hx2 g=>by
  have k:=ok x hx2;unfold Pa.mt at g;have g:=of_decide_eq_true g;unfold okE Ro.place at k
  omega
 exact okA_ex (okA_rec hh h0 hA)
section
variable {c:Cs} {t:Nat} (h:OkC c t)
include h
theorem OkC.next:OkC c (t+1):=⟨h.len,h.lv,fun i hi=>by have:=h.st i hi;exact ⟨this.1,this.2.1,by omega⟩,h.pr,h.pl,h.few⟩
theorem OkC.setS {n:Int} {x:Abs×Int} (h0:0<=n) (h1:n < c.S.length) (hx:OkA x.1/\0<=x.2/\x.2<=100 * (t+1:Nat)):OkC { c with S:=Cu.setS c.S n x } (t+1):=by
 have hl:(Cu.setS c.S n x).length=c.S.length:=aT;refine ⟨by rw [hl];exact h.len,h.lv.trans hl.symm,fun i hi=>?_,h.pr,h.pl,h.few⟩;rw [hl] at hi
 show OkA (sat (Cu.setS c.S n x) i).1/\_
 rw [sat_set h0 h1]
 split
 ·exact hx
 ·have:=h.st i hi;exact ⟨this.1,this.2.1,by omega⟩
theorem OkC.round:OkC (rC c) (t+1):=by
 have n:=h.next;unfold rC
 split
 ·exact ⟨n.len,n.lv,n.st,h.pr.rnd,n.pl,by simp⟩
 ·split
  ·rename_i hs
   have sq:=sqL_seq hs;have hl:(if rdE c.S (rT c) c.V=0 then rdL c.S (rT c) c.V c.Q else c.S).length=c.S.length:=by
    split
    ·rename_i e
     have er:rdL c.S (rT c) c.V c.Q=rdS c.S (rT c) c.V (hr c.S (rT c) c.V c.Q):=aj e;rw [er,rdS_len]
    ·rfl
   refine ⟨by rw [hl];exact h.len,h.lv.trans hl.symm,fun i hi=>?_,h.pr.rnd,?_,by simp⟩
   ·rw [hl] at hi
    show OkA (sat (if rdE c.S (rT c) c.V=0 then rdL c.S (rT c) c.V c.Q else c.S) i).1/\0<=(sat (if rdE c.S (rT c) c.V=0 then rdL c.S (rT c) c.V c.Q else c.S) i).2/\(sat (if rdE c.S (rT c) c.V=0 then rdL c.S (rT c) c.V c.Q else c.S) i).2<=_
    have hi':=h.st i hi
    split
    ·rename_i e
     have er:rdL c.S (rT c) c.V c.Q=rdS c.S (rT c) c.V (hr c.S (rT c) c.V c.Q):=aj e;rw [er,rdS_at _ _ _ _ hi]
     split
     ·have hm:lat (rT c) i∈rT c:=by
       have hl2:i < (rT c).length:=by unfold rT;rw [tbs_len];exact hi
       unfold lat;rw [af,ai hl2];exact bC hl2
      obtain ⟨m1,m2⟩:=tbs_mem (S:=c.S) (n:=iat (sqL (own c)) (at0 c (sqL (own c)))) hm;have hd:=exU_d (t:=lat (rT c) i) ((Pa.recA (hr c.S (rT c) c.V c.Q) (lat (rT c) i) (sat c.S i).1),(sat c.S i).2) (lat (rT c) i).length;rw [exU_end] at hd;simp only at hd;exact ⟨okA_ap (hr_ok _ _ _ _) m2 hi'.1,by omega,by omega⟩
     ·exact ⟨hi'.1,hi'.2.1,by omega⟩
    ·exact ⟨hi'.1,hi'.2.1,by omega⟩
   ·show at1 c (sqL (own c))<=64
    unfold at1 at0;have:=sq.1;have:=h.pl
    split <;> split <;> omega
  ·exact ⟨n.len,n.lv,n.st,h.pr.rnd,n.pl,by simp⟩
theorem OkC.act (x:Ac) (hx:okR x.v):OkC (actC x c) (t+1):=by
 have n:=h.next;unfold actC
 by_cases h1:x.k=1
 ·rw [aj h1];exact h.round
 ·rw [ah h1]
  by_cases he:actE x c≠0
  ·rw [aj he];exact n
  ·rw [ah he]
   have he:=Classical.not_not.1 he;unfold actE at he;rw [ah h1] at he
   by_cases h3:x.k=3
   ·rw [aj h3]
    rw [aj h3] at he;refine ⟨n.len,n.lv,n.st,n.pr,n.pl,?_⟩
    show (c.Q ++ [(x.s,x.m)]).length<=32
    have:=h.few;rw [bj]
    split at he
    ·omega
    ·simp only [cj,df];omega
   ·rw [ah h3]
    rw [ah h3] at he
    by_cases hn:x.k < 2\/6 < x.k\/no c x.n
    ·rw [aj hn] at he;omega
    ·have hin:0<=x.n/\x.n < c.S.length:=by
      have:¬ no c x.n:=fun g=>hn (.inr (.inr g));unfold no at this
      omega
     by_cases h2:x.k=2
     ·rw [aj h2]
      have hs:=h.st x.n.toNat (by omega);rw [bW hin.1] at hs;exact h.setS hin.1 hin.2 ⟨hs.1.set hx,hs.2.1,by simp only;omega⟩
     ·rw [ah h2]
      by_cases h4:x.k=4
      ·rw [aj h4]
       exact ⟨n.len,by show (c.V.set _ _).length=_;rw [aT];exact h.lv,n.st,h.pr.cr x.n,n.pl,n.few⟩
      ·rw [ah h4]
       by_cases h5:x.k=5
       ·rw [aj h5]
        exact ⟨n.len,by show (c.V.set _ _).length=_;rw [aT];exact h.lv,n.st,h.pr.rs x.n,n.pl,n.few⟩
       ·rw [ah h5];exact n
theorem OkC.serve (n o f r:Int) (x:R4) (hx:okR x):OkC (srC c n o f r x) (t+1):=by
 unfold srC
 split
 ·exact h.next
 ·rename_i g
  have hin:0<=n/\n < c.S.length:=by
   have:¬ no c n:=fun q=>g (.inl q);unfold no at this
   omega
  have hs:=h.st n.toNat (by omega);rw [bW hin.1] at hs;have:=dD_le (A:=(sat c.S n).1) (o:=o) (f:=f) (r:=r) (d:=(sat c.S n).2);exact h.setS hin.1 hin.2 ⟨hs.1.do hx,by simp only;omega,by simp only;omega⟩
end
theorem vat_set {V:List Bool} {b:Bool} (h0:0<=n) (h1:n < V.length) (i:Int) (hi:0<=i):vat (V.set n.toNat b) i=if i=n then b else vat V i:=by
 unfold vat;rw [af,af,cQ]
 by_cases e:i=n
 ·subst e
  rw [aj rfl,aj (by omega),aj rfl]
  rfl
 ·rw [ah (by omega),ah e]
abbrev Pl:=List Fil×Int
def plat (L:List Pl) (i:Nat):Pl:=L.getD i ([],0)
def gdF (F:List Fil):Prop:=Fs.Srt key F/\∀ e∈F,(0<=e.1/\e.1<=63)/\goodF e.2.1 e.2.2
def gdP (p:Pl):Prop:=gdF p.1/\-2000<=p.2/\p.2<=2000
def agree (L:List Pl):Prop:=sqB (plat L 0).1=true/\fB (plat L 1).1 40=true/\fP (plat L 0).1 40=fP (plat L 1).1 40/\fR (plat L 0).1 40=fR (plat L 1).1 40
open Classical in
noncomputable def newE (L:List Pl):Int:=if L.length < 2\/32 < L.length then 1 else if ∀ p∈L,gdP p then (if agree L then 0 else 10) else 2
def newC (L:List Pl):Cs:=⟨L.map fun p=>(p.1,0),L.map fun _=>true,Wt.new,0,[]⟩
variable {L:List Pl} {i t:Nat}
theorem new_sat (hi:i < L.length):sat (newC L).S i=((plat L i).1,0):=by
 unfold sat newC plat;rw [a7,af,a9,ai hi,af,ai hi]
 rfl
theorem new_vat (hi:i < L.length):vat (newC L).V i=true:=by
 unfold vat newC;rw [a7,af,a9,ai hi]
 rfl
theorem new_ok (h:newE L=0) (ok:∀ p∈L,∀ e∈p.1,okL e.2.2):OkC (newC L) 0:=by
 unfold newE at h
 split at h
 ·omega
 ·rename_i hl
  split at h
  ·rename_i hg
   have hll:(newC L).S.length=L.length:=aL _;refine ⟨by rw [hll];omega,by show (L.map _).length=(L.map _).length;rw [aL,aL],fun i hi=>?_,Wt.ok_new,by show 0<=64;omega,by show 0<=32;omega⟩;have hi':i < L.length:=by
    have:(newC L).S.length=L.length:=aL _
    omega
   have hm:plat L i∈L:=by
    unfold plat;rw [af,ai hi'];exact bC hi'
   obtain ⟨⟨g1,g2⟩,_⟩:=hg _ hm;rw [new_sat hi'];exact ⟨⟨g1,fun e he=>(g2 e he).1,fun e he=>(g2 e he).2,ok (plat L i) hm⟩,cP _,by omega⟩
  ·omega
def actA (x:Ac):Array Value:=#[.int .i64 x.k,.int .i64 x.n,.int .i64 x.f,.int .i64 x.r,.int .u8 x.v.1,.int .u8 x.v.2.1,.int .u8 x.v.2.2.1,.int .u8 x.v.2.2.2,.int .i64 x.s,.int .i64 x.m,.int .i64 x.t]
def actV (x:Ac):Value:=.agg (actA x)
def Syn (c:Cs):Prop:=(vat c.V 0=true↔c.P.r0≠4)/\(vat c.V 1=true↔c.P.r1≠4)
theorem t1_4 (a:Wt.A):((Wt.t1 a).r0=4↔a.r0=4)/\(Wt.t1 a).r1=a.r1:=by
 unfold Wt.t1
 split
 ·rename_i g
  refine ⟨?_,rfl⟩
  show (1:Int)=4↔_
  omega
 ·exact ⟨Iff.rfl,rfl⟩
theorem t2_4 (a:Wt.A):((Wt.t2 a).r1=4↔a.r1=4)/\(Wt.t2 a).r0=a.r0:=by
 unfold Wt.t2
 split
 ·rename_i g
  refine ⟨?_,rfl⟩
  show (1:Int)=4↔_
  omega
 ·exact ⟨Iff.rfl,rfl⟩
theorem hdN_4 (r:Int):Wt.hdN r=4↔r=4:=by
 unfold Wt.hdN
 split <;> omega
theorem hd_4 (a:Wt.A):((Wt.hd a).r0=4↔a.r0=4)/\((Wt.hd a).r1=4↔a.r1=4):=by
 unfold Wt.hd
 split
 ·rename_i g
  refine ⟨?_,hdN_4 _⟩
  show (1:Int)=4↔_
  omega
 ·split
  ·rename_i g
   refine ⟨hdN_4 _,?_⟩
   show (1:Int)=4↔_
   omega
  ·exact ⟨Iff.rfl,Iff.rfl⟩
theorem rnd_4 (a:Wt.A):((Wt.rnd a).r0=4↔a.r0=4)/\((Wt.rnd a).r1=4↔a.r1=4):=by
 unfold Wt.rnd Wt.tk;have h1:=hd_4 (Wt.t2 (Wt.t1 a));have h2:=t2_4 (Wt.t1 a);have h3:=t1_4 a;rw [h1.1,h1.2,h2.1,h2.2,h3.1,h3.2];exact ⟨Iff.rfl,Iff.rfl⟩
theorem Syn.rnd {c:Cs} (h:Syn c):(vat c.V 0=true↔(Wt.rnd c.P).r0≠4)/\(vat c.V 1=true↔(Wt.rnd c.P).r1≠4):=by
 have q:=rnd_4 c.P;refine ⟨h.1.trans ?_,h.2.trans ?_⟩
 ·rw [Ne,Ne,q.1]
 ·rw [Ne,Ne,q.2]
variable {c:Cs}
theorem Syn.round (h:Syn c):Syn (rC c):=by
 have q:=h.rnd;unfold rC
 split
 ·exact q
 ·split
  ·exact q
  ·exact q
theorem syn_new (L:List Pl) (h:2<=L.length):Syn (newC L):=by
 refine ⟨?_,?_⟩
 ·have:=new_vat (L:=L) (i:=0) (by omega)
  rw [show vat (newC L).V 0=true from this]
  show true=true↔(1:Int)≠4
  simp
 ·have:=new_vat (L:=L) (i:=1) (by omega)
  rw [show vat (newC L).V 1=true from this]
  show true=true↔(2:Int)≠4
  simp
theorem Syn.act (h:Syn c) (ok:OkC c t) (x:Ac):Syn (actC x c):=by
 unfold actC
 by_cases h1:x.k=1
 ·rw [aj h1];exact h.round
 ·rw [ah h1]
  by_cases he:actE x c≠0
  ·rw [aj he];exact h
  ·rw [ah he]
   have he:=Classical.not_not.1 he;unfold actE at he;rw [ah h1] at he
   by_cases h3:x.k=3
   ·rw [aj h3];exact h
   ·rw [ah h3]
    rw [ah h3] at he
    by_cases hn:x.k < 2\/6 < x.k\/no c x.n
    ·rw [aj hn] at he;omega
    ·rw [ah hn] at he
     have hin:0<=x.n/\x.n < c.S.length:=by
      have:¬ no c x.n:=fun g=>hn (.inr (.inr g));unfold no at this
      omega
     have hv:=ok.lv
     by_cases h2:x.k=2
     ·rw [aj h2];exact h
     ·rw [ah h2]
      by_cases h4:x.k=4
      ·rw [aj h4]
       have v0:vat (c.V.set x.n.toNat false) 0=_:=vat_set hin.1 (by omega) 0 (by omega);have v1:vat (c.V.set x.n.toNat false) 1=_:=vat_set hin.1 (by omega) 1 (by omega);refine ⟨?_,?_⟩
       ·show vat (c.V.set x.n.toNat false) 0=true↔(Wt.crA c.P x.n).r0≠4
        rw [v0];unfold Wt.crA
        by_cases e:x.n=0
        ·rw [aj e.symm,aj e];simp
        ·rw [ah (fun g=>e g.symm),ah e]
         split <;> exact h.1
       ·show vat (c.V.set x.n.toNat false) 1=true↔(Wt.crA c.P x.n).r1≠4
        rw [v1];unfold Wt.crA
        by_cases e:x.n=0
        ·rw [ah (by omega),aj e];exact h.2
        ·rw [ah e]
         by_cases e1:x.n=1
         ·rw [aj e1.symm,aj e1];simp
         ·rw [ah (fun g=>e1 g.symm),ah e1];exact h.2
      ·rw [ah h4]
       rw [ah h2,ah h4] at he
       by_cases h5:x.k=5
       ·rw [aj h5]
        rw [aj h5] at he;have hvn:vat c.V x.n=false:=by
         cases hb:vat c.V x.n with
         | false=>rfl
         | true=>rw [hb,aj rfl] at he;omega
        have v0:vat (c.V.set x.n.toNat true) 0=_:=vat_set hin.1 (by omega) 0 (by omega);have v1:vat (c.V.set x.n.toNat true) 1=_:=vat_set hin.1 (by omega) 1 (by omega);refine ⟨?_,?_⟩
        ·show vat (c.V.set x.n.toNat true) 0=true↔(Wt.rsA c.P x.n).r0≠4
         rw [v0];unfold Wt.rsA
         by_cases e:x.n=0
         ·rw [aj e.symm,aj e]
          have r4:c.P.r0=4:=Classical.not_not.1 fun g=>by have:=h.1.2 g;rw [e] at hvn;rw [hvn] at this;cases this
          rw [aj r4];simp
         ·rw [ah (fun g=>e g.symm),ah e]
          split
          ·split <;> exact h.1
          ·exact h.1
        ·show vat (c.V.set x.n.toNat true) 1=true↔(Wt.rsA c.P x.n).r1≠4
         rw [v1];unfold Wt.rsA
         by_cases e:x.n=0
         ·rw [ah (by omega),aj e]
          split <;> exact h.2
         ·rw [ah e]
          by_cases e1:x.n=1
          ·rw [aj e1.symm,aj e1]
           have r4:c.P.r1=4:=Classical.not_not.1 fun g=>by have:=h.2.2 g;rw [e1] at hvn;rw [hvn] at this;cases this
           rw [aj r4];simp
          ·rw [ah (fun g=>e1 g.symm),ah e1];exact h.2
       ·rw [ah h5];exact h
theorem Syn.serve (h:Syn c) (n o f r:Int) (x:Fl.R4):Syn (srC c n o f r x):=by
 unfold srC
 split
 ·exact h
 ·exact h
end Cu
namespace Rq
open Go.RowKit
structure Q where
 id:Int
 k:Int
 n:Int
 f:Int
 r:Int
 v:R4
 key:Int
structure Y where
 id:Int
 e:Int
 v:R4
def zQ:Q:=⟨0,0,0,0,0,z4,0⟩
def zY:Y:=⟨0,0,z4⟩
def okV (v:R4):Prop:=(0<=v.1/\v.1 < 256)/\(0<=v.2.1/\v.2.1 < 256)/\(0<=v.2.2.1/\v.2.2.1 < 256)/\0<=v.2.2.2/\v.2.2.2 < 256
def bare (v:R4):Prop:=v.1=0/\v.2.1=0/\v.2.2.1=0/\v.2.2.2=0
def good (x:Q):Prop:=(0<=x.id/\x.id<=65535)/\(1<=x.k/\x.k<=4)/\(0<=x.n/\x.n<=31)/\(0<=x.f/\x.f<=63)/\(0<=x.r/\x.r<=255)/\(0<=x.key/\x.key<=255)/\(x.k=4->x.f=0/\x.r=0)/\(x.k=2\/x.v.1=0/\x.v.2.1=0/\x.v.2.2.1=0/\x.v.2.2.2=0)
instance (x:Q):Decidable (good x):=by unfold good;infer_instance
def may (y:Y):Prop:=(0<=y.id/\y.id<=65535)/\(0<=y.e/\y.e<=16)/\(y.e=0\/y.v.1=0/\y.v.2.1=0/\y.v.2.2.1=0/\y.v.2.2.2=0)
instance (y:Y):Decidable (may y):=by unfold may;infer_instance
def goodB (x:Q):Bool:=decide (good x)
def mayB (y:Y):Bool:=decide (may y)
def qb (x:Q):List Int:=[0,if x.k=2 then 11 else 7,x.id / 256,x.id % 256,x.k,x.n,x.f,x.r,x.key] ++ if x.k=2 then [x.v.1,x.v.2.1,x.v.2.2.1,x.v.2.2.2] else []
def yb (y:Y):List Int:=[0,7,y.id / 256,y.id % 256,y.e,y.v.1,y.v.2.1,y.v.2.2.1,y.v.2.2.2]
def qof (l:List Int):Q:=⟨l.getD 2 0 * 256+l.getD 3 0,l.getD 4 0,l.getD 5 0,l.getD 6 0,l.getD 7 0,if l.length=13 then (l.getD 9 0,l.getD 10 0,l.getD 11 0,l.getD 12 0) else z4,l.getD 8 0⟩
def yof (l:List Int):Y:=⟨l.getD 2 0 * 256+l.getD 3 0,l.getD 4 0,(l.getD 5 0,l.getD 6 0,l.getD 7 0,l.getD 8 0)⟩
def isQ (l:List Int):Prop:=(l.length=9\/l.length=13)/\good (qof l)/\qb (qof l)=l
def isY (l:List Int):Prop:=l.length=9/\may (yof l)/\yb (yof l)=l
instance (l:List Int):Decidable (isQ l):=by unfold isQ;infer_instance
instance (l:List Int):Decidable (isY l):=by unfold isY;infer_instance
end Rq
namespace Qe
open Rq (Q zQ)
structure Qs where
 L:List Q
 t:Int
def ok (s:Qs):Prop:=s.L.length<=8/\(0<=s.t/\s.t<=2)/\(s.L = []->s.t=0)
def q0:Qs:=⟨[],0⟩
def fst (s:Qs):Q:=s.L.headD zQ
def has (s:Qs):Bool:=decide (0 < s.L.length)
def puE (s:Qs):Int:=if 8<=s.L.length then 12 else 0
def puS (s:Qs) (x:Q):Qs:=if 8<=s.L.length then s else ⟨s.L ++ [x],s.t⟩
def poS (s:Qs):Qs:=⟨s.L.tail,0⟩
def faB (s:Qs):Bool:=decide (0 < s.L.length/\s.t=2)
def faV (s:Qs):Q:=if 0 < s.L.length/\s.t=2 then fst s else zQ
def faS (s:Qs):Qs:=if 0 < s.L.length then (if s.t=2 then poS s else ⟨s.L,s.t+1⟩) else s
theorem ok_0:ok q0:=⟨by decide,⟨by decide,by decide⟩,fun _=>rfl⟩
variable {s:Qs}
theorem ok_push (h:ok s) (x:Q):ok (puS s x):=by
 unfold puS
 by_cases h8:8<=s.L.length
 ·rw [aj h8];exact h
 ·rw [ah h8]
  exact ⟨by simp;omega,h.2.1,fun e=>by simp at e⟩
theorem ok_pop (h:ok s):ok (poS s):=⟨by have:=h.1;simp [poS];omega,⟨cP 0,show (0:Int)<=2 by decide⟩,fun _=>rfl⟩
theorem ok_fail (h:ok s):ok (faS s):=by
 unfold faS
 by_cases h0:0 < s.L.length
 ·rw [aj h0]
  by_cases h2:s.t=2
  ·rw [aj h2];exact ok_pop h
  ·rw [ah h2]
   have:=h.2.1;exact ⟨h.1,by dsimp only;omega,fun e=>by rw [e] at h0;simp at h0⟩
 ·rw [ah h0];exact h
theorem pop_empty (h:ok s) (e:s.L = []):poS s=s:=by
 obtain ⟨L,t⟩:=s;subst e;have:=h.2.2 rfl;simp only at this;subst this
 rfl
end Qe
namespace Rq
open Go.RowKit
def KU:Rw.Kind Int:=Rw.int .u8
def qA (x:Q):Array Value:=#[.int .i64 x.id,.int .i64 x.k,.int .i64 x.n,.int .i64 x.f,.int .i64 x.r,.int .u8 x.v.1,.int .u8 x.v.2.1,.int .u8 x.v.2.2.1,.int .u8 x.v.2.2.2,.int .i64 x.key]
def yA (y:Y):Array Value:=#[.int .i64 y.id,.int .i64 y.e,.int .u8 y.v.1,.int .u8 y.v.2.1,.int .u8 y.v.2.2.1,.int .u8 y.v.2.2.2]
def qV (x:Q):Value:=.agg (qA x)
def yV (y:Y):Value:=.agg (yA y)
variable {a b:Bool}
theorem ret_bool (h:a=b):Ending.returned (.bool a) = .returned (.bool b):=by rw [h]
def PutPost (w:World) (x:Q) (e:Ending) (w':World):Prop:=∃ v,e = .returned (.tuple #[v,.int .i64 (if good x then 0 else 1)])/\Ow KU w' w.heap.size 5 v (if good x then qb x else [])/\Below w.heap.size w w'
variable {P:Program} {args cs:Array Value} {w:World}
theorem at_bool {f:Nat} {B:Nat} (e:a=b) (c:Calls P f args w fun e w'=>e = .returned (.bool a)/\Below B w w'):Calls P f args w fun e w'=>e = .returned (.bool b)/\Below B w w':=by rw [← e];exact c
theorem infoU:(prog.info? 5).map (fun i=>(i.zero,i.size,i.bytes))=some (some (.int .u8 0),1,1):=by kernel_rfl
theorem u8_in {x:Int} (h0:0<=x) (h1:x < 256):IntKind.u8.wrap x=x:=by simp [IntKind.wrap,IntKind.bits,IntKind.signed];omega
def AnsPost (w:World) (y:Y) (e:Ending) (w':World):Prop:=∃ v,e = .returned (.tuple #[v,.int .i64 (if may y then 0 else 1)])/\Ow KU w' w.heap.size 5 v (if may y then yb y else [])/\Below w.heap.size w w'
variable {fn:Func} {p r:Tmp}
theorem results_reply (h:fn.results=#[.cell p 44,.tmp r]) (tmps:Array Value) (w:World) (g:Nat) (v:Value) (hp:tmps.getD p undef = .pointer (some ⟨g,0,none⟩)) (hr:tmps.getD r undef=v) (h1:w.heap[g]? = some (.cells cs 44 (0,0))) (hs:cs.size=6) :
 (results fn tmps).run prog w = .ok (.tuple #[.agg cs,v]) w:=by
 have e2:=ce (P:=prog) w g 44 44 cs (0,0) _ h1 underlying44 rfl (by rw [hs];show _=some 6;kernel_rfl);have hp':tmps[p]?.getD undef = .pointer (some ⟨g,0,none⟩):=by simpa using hp
 have hr':tmps[r]?.getD undef=v:=by simpa using hr
 simp only [results,h]
 simp [Result.andThen,hp',hr',asAddr,e2]
theorem results_request (h:fn.results=#[.cell p 53,.tmp r]) (tmps:Array Value) (w:World) (g:Nat) (v:Value) (hp:tmps.getD p undef = .pointer (some ⟨g,0,none⟩)) (hr:tmps.getD r undef=v) (h1:w.heap[g]? = some (.cells cs 53 (0,0))) (hs:cs.size=10) :
 (results fn tmps).run prog w = .ok (.tuple #[.agg cs,v]) w:=by
 have e2:=ce (P:=prog) w g 53 53 cs (0,0) _ h1 underlying53 rfl (by rw [hs];show _=some 10;kernel_rfl);have hp':tmps[p]?.getD undef = .pointer (some ⟨g,0,none⟩):=by simpa using hp
 have hr':tmps[r]?.getD undef=v:=by simpa using hr
 simp only [results,h]
 simp [Result.andThen,hp',hr',asAddr,e2]
def ReadPost (w:World) (l:List Int) (e:Ending) (w':World):Prop:=e = .returned (.tuple #[yV (if isY l then yof l else zY),.int .i64 (if isY l then 0 else 2)])/\Below w.heap.size w w'
def TakePost (w:World) (l:List Int) (e:Ending) (w':World):Prop:=e = .returned (.tuple #[qV (if isQ l then qof l else zQ),.int .i64 (if isQ l then 0 else 2)])/\Below w.heap.size w w'
variable {l m:List Int}
theorem cells_at {b off:Nat} (A:At KU w b off l):∀ i,i < l.length->w.cell? ⟨b,off+i,none⟩=some (.int .u8 (l.getD i 0)):=fun i hi=>by
 have:=A i hi 0 (.int .u8 (l.getD i 0)) rfl
 rwa [show off+i * KU.n+0=off+i by show off+i * 1+0=_;omega] at this
theorem str_eq (h:∀ x∈l,0<=x/\x < 256) (k:∀ x∈m,0<=x/\x < 256) (e:(strOfNums l).toList=(strOfNums m).toList):l=m:=by
 rw [ByteArray.toList_eq,ByteArray.toList_eq,strOfNums_data,strOfNums_data] at e
 induction l generalizing m with
 | nil=>cases m with
   | nil=>rfl
   | cons y r=>cases e
 | cons x l ih=>cases m with
   | nil=>cases e
   | cons y r =>
     injection e with e1 e2;have hx:=h x (aO ..);have hy:=k y (aO ..);have e3:(UInt8.ofNat x.toNat).toNat=(UInt8.ofNat y.toNat).toNat:=bF UInt8.toNat e1;simp only [UInt8.toNat_ofNat'] at e3;rw [ih (fun z hz=>h z (aJ _ hz)) (fun z hz=>k z (aJ _ hz)) e2,show x=y by omega]
theorem isid_is (w:World) (n:Int) (b:Bool) (h:decide (0<=n/\n<=65535)=b):Calls prog 76 #[.int .i64 n] w fun e w'=>e = .returned (.bool b)/\w=w':=by
 have H:=Hh h;clear h
 rcases (by omega:n < 0\/0<=n/\n<=65535\/0<=n/\65535 < n) with h | ⟨h,h'⟩ | ⟨h,h'⟩
 all_goals
  go_enter func76,ntmps76
  go_wp2
  go_ret
  exact ⟨ret_bool (by rw [← H.out];first | exact (an (by omega)).symm | exact (ak (by omega)).symm | exact bf.2 (by omega)),rfl⟩
def plB (x:Q):Bool:=decide ((0<=x.n/\x.n<=31)/\(0<=x.f/\x.f<=63)/\0<=x.r/\x.r<=255)
theorem isplace_is (w:World) (x:Q) (b:Bool) (h:plB x=b):Calls prog 77 #[qV x] w fun e w'=>e = .returned (.bool b)/\Below w.heap.size w w':=by
 have H:=Hh h;clear h;have B0:=Hh ((aa w.heap.size w).alloc (ac _) (.cells (qA x) 53));obtain ⟨id,k,n,f,r,⟨v0,v1,v2,v3⟩,key⟩:=x;unfold qV qA;unfold qA at B0;unfold plB at H;dsimp only at B0 H ⊢
 rcases (by omega:n < 0\/0<=n/\32<=n\/(0<=n/\n < 32)/\(f < 0\/0<=f/\64<=f\/(0<=f/\f < 64)/\(r < 0\/0<=r/\256<=r\/0<=r/\r < 256))) with h | ⟨h1,h⟩ | ⟨⟨h1,h2⟩,h | ⟨h3,h⟩ | ⟨⟨h3,h4⟩,h | ⟨h5,h⟩ | ⟨h5,h⟩⟩⟩
 all_goals
  go_enter func77,ntmps77
  go_wp2
  go_ret
  exact ⟨ret_bool (by rw [← H.out];first | exact (an (by omega)).symm | exact (ak (by omega)).symm | exact bf.2 (by omega)),B0.out⟩
instance (v:R4):Decidable (bare v):=by unfold bare;infer_instance
theorem rec_is (v0 v1 v2 v3:Int) (b:Bool) (h:decide (bare (v0,v1,v2,v3))=b) (w:World):(Op.equalIn 10000 36 (.agg #[.int .u8 v0,.int .u8 v1,.int .u8 v2,.int .u8 v3]) (.agg #[.int .u8 0,.int .u8 0,.int .u8 0,.int .u8 0])).run prog w = .ok b w:=by
 have:=Fl.eq_rec (v0,v1,v2,v3) z4 w;rw [← h]
 rw [show decide (bare (v0,v1,v2,v3))=decide ((v0,v1,v2,v3)=z4) from by
  rw [bf];unfold bare z4
  simp only [Prod.mk.injEq]]
 exact this
theorem good_kind (w:World) (x:Q) (hk:x.k < 1\/4 < x.k\/x.k=4/\x.f≠0\/x.k=4/\x.f=0/\x.r≠0):Calls prog 47 #[qV x] w fun e w'=>e = .returned (.bool false)/\Below w.heap.size w w':=by
 have B0:=Hh ((aa w.heap.size w).alloc (ac _) (.cells (qA x) 53));obtain ⟨id,k,n,f,r,⟨v0,v1,v2,v3⟩,key⟩:=x;unfold qV qA;unfold qA at B0;dsimp only at B0 hk ⊢
 rcases hk with h | h | ⟨rfl,h⟩ | ⟨rfl,rfl,h⟩
 case' inl | inr.inl =>
  have n1:¬ k=1:=by omega
  have n2:¬ k=2:=by omega
  have n3:¬ k=3:=by omega
  have n4:¬ k=4:=by omega
  clear h
 all_goals
  go_enter func47,ntmps47
  go_wp2
  go_ret
  exact ⟨ret_bool rfl,B0.out⟩
theorem good_full (w:World) (x:Q) (hv:¬ bare x.v) (hk:x.k=4/\x.f=0/\x.r=0\/x.k=1\/x.k=3):Calls prog 47 #[qV x] w fun e w'=>e = .returned (.bool false)/\Below w.heap.size w w':=by
 have B0:=Hh ((aa w.heap.size w).alloc (ac _) (.cells (qA x) 53));obtain ⟨id,k,n,f,r,⟨v0,v1,v2,v3⟩,key⟩:=x;have es:=rec_is v0 v1 v2 v3 false (ak hv);unfold qV qA;unfold qA at B0;clear hv;dsimp only at B0 hk ⊢
 rcases hk with ⟨rfl,rfl,rfl⟩ | rfl | rfl
 all_goals
  go_enter func47,ntmps47
  go_wp2
  go_ret
  exact ⟨ret_bool rfl,B0.out⟩
def kd (x:Q):Prop:=x.k=4/\x.f=0/\x.r=0/\bare x.v\/x.k=1/\bare x.v\/x.k=3/\bare x.v\/x.k=2
theorem good_id (w:World) (x:Q) (hk:kd x) (hi:¬ (0<=x.id/\x.id<=65535)):Calls prog 47 #[qV x] w fun e w'=>e = .returned (.bool false)/\Below w.heap.size w w':=by
 have B0:=Hh ((aa w.heap.size w).alloc (ac _) (.cells (qA x) 53));obtain ⟨id,k,n,f,r,⟨v0,v1,v2,v3⟩,key⟩:=x;have I:=fun w=>Hh (isid_is w id false (ak hi));unfold qV qA;unfold qA at B0;unfold kd at hk;clear hi;dsimp only at B0 hk ⊢
 rcases hk with ⟨rfl,rfl,rfl,hv⟩ | ⟨rfl,hv⟩ | ⟨rfl,hv⟩ | rfl
 case' inl | inr.inl | inr.inr.inl =>
  have es:=rec_is v0 v1 v2 v3 true (an hv);clear hv
 all_goals
  go_enter func47,ntmps47
  go_wp2_with fail;refine (I _).out.mono ?_;rintro e w1 ⟨rfl,rfl⟩;go_wp2
  go_ret
  exact ⟨ret_bool rfl,B0.out⟩
theorem good_place (w:World) (x:Q) (hk:kd x) (hi:0<=x.id/\x.id<=65535) (b c:Bool) (hp:plB x=b) (hc:(b && decide (0<=x.key/\x.key<=255))=c):Calls prog 47 #[qV x] w fun e w'=>e = .returned (.bool c)/\Below w.heap.size w w':=by
 have B0:=Hh ((aa w.heap.size w).alloc (ac _) (.cells (qA x) 53));have R0:=Hh (am w (.cells (qA x) 53));have PL:=fun w=>Hh (isplace_is w x b hp);clear hp;obtain ⟨id,k,n,f,r,⟨v0,v1,v2,v3⟩,key⟩:=x;have I:=fun w=>Hh (isid_is w id true (an hi));unfold qV qA at *;unfold kd at hk;clear hi;dsimp only at B0 R0 PL hk hc ⊢;have HC:=Hh hc;clear hc
 rcases hk with ⟨rfl,rfl,rfl,hv⟩ | ⟨rfl,hv⟩ | ⟨rfl,hv⟩ | rfl
 case' inl | inr.inl | inr.inr.inl =>
  have es:=rec_is v0 v1 v2 v3 true (an hv);clear hv
 all_goals
  go_enter func47,ntmps47
  go_wp2_with fail;refine (I _).out.mono ?_;rintro e w1 ⟨rfl,rfl⟩;go_wp2_with fail;refine (PL _).out.mono ?_;rintro e w2 ⟨rfl,b2⟩;have B2:=bTr B0.out b2;have c9:=rc1 (bBl b2 R0.out) 9;clear b2 B0 R0
  cases b
  ·go_wp2
   go_ret
   exact ⟨ret_bool HC.out,B2.out⟩
  ·rcases (by omega:key < 0\/0<=key/\key<=255\/0<=key/\255 < key) with h | ⟨h,h'⟩ | ⟨h,h'⟩
   all_goals
    go_wp2
    go_ret
    exact ⟨ret_bool (by rw [← HC.out];first | exact (an (by omega)).symm | exact (ak (by omega)).symm | exact bf.2 (by omega)),B2.out⟩
theorem good_any (w:World) (x:Q):Calls prog 47 #[qV x] w fun e w'=>e = .returned (.bool (goodB x))/\Below w.heap.size w w':=by
 have no:∀ {c:Bool},(c=goodB x)->(Calls prog 47 #[qV x] w fun e w'=>e = .returned (.bool c)/\Below w.heap.size w w')->Calls prog 47 #[qV x] w fun e w'=>e = .returned (.bool (goodB x))/\Below w.heap.size w w':=fun h c=>h ▸ c;have fl:∀ {p:Prop},¬ good x->false=goodB x:=fun h=>(ak h).symm
 by_cases h1:x.k < 1\/4 < x.k\/x.k=4/\x.f≠0\/x.k=4/\x.f=0/\x.r≠0
 ·exact no (fl (p:=True) (by unfold good;omega)) (good_kind w x h1)
 ·by_cases h2:bare x.v\/x.k=2
  ·have hk:kd x:=by
    rcases h2 with hb | hb
    ·rcases (by omega:x.k=4/\x.f=0/\x.r=0\/x.k=1\/x.k=3\/x.k=2) with ⟨a,b,c⟩ | a | a | a
     ·exact .inl ⟨a,b,c,hb⟩
     ·exact .inr (.inl ⟨a,hb⟩)
     ·exact .inr (.inr (.inl ⟨a,hb⟩))
     ·exact .inr (.inr (.inr a))
    ·exact .inr (.inr (.inr hb))
   by_cases h3:0<=x.id/\x.id<=65535
   ·refine no ?_ (good_place w x hk h3 _ _ rfl rfl)
    unfold plB goodB;rw [← Bool.decide_and,bf];unfold good;unfold kd bare at hk
    omega
   ·exact no (fl (p:=True) (by unfold good;omega)) (good_id w x hk h3)
  ·have h4:¬ x.k=2:=fun h=>h2 (.inr h)
   refine no (fl (p:=True) ?_) (good_full w x (fun h=>h2 (.inl h)) (by omega));unfold good;unfold bare at h2
   omega
theorem rd_part {g:Nat} {t:TypeId} (off:Nat) (l:List Int) (cap:Nat) (h:w.heap[g]? = some (.cells cs t (0,0))) (e:∀ i x,l[i]? = some x->cs[off+i]? = some (.int .u8 x)) (h1:l.length<=cap) (h2:cap<=maxLen):Rd KU w (.slice (some ⟨g,off,none⟩) l.length cap) l :=
 ⟨_,cap,rfl,⟨h1,nofun⟩,h2,fun _=>⟨g,off,rfl,fun i hi j u hu=>by
  rcases j with _ | j
  ·have hx:=ai hi
   rw [af,hx] at hu;have hu':(some (Value.int .u8 l[i]))=some u:=hu;rw [← hu',← e i _ hx];rw [show off+i * KU.n+0=off+i by show off+i * 1+0=_;omega];exact bi w g (off+i) cs t (0,0) h
  ·exact absurd hu (by simp [KU,Rw.int])⟩⟩
theorem wp_all {K:Act->World->Prop} {E:TypeId} {o:Oper} {a:Act} {Q:Exit->Act->World->Prop} {T:TypeId} {z:Value} {bytes:Nat} (ht:P.underlying T=some (.slice E))
 (hi:(P.info? E).map (fun i=>(i.zero,i.size,i.bytes))=some (some z,KU.n,bytes)) (hz:z.cells.size=KU.n) (hby:bytes<=64) (s x:Operand)
 (ho:o.op = .call { callee:=.builtin .append,args:=#[s,x],argTypes:=#[T,T] }) (B:Nat) (v:Value) (l:List Int) (hs:a.eval s=v) (hown:Ow KU w B E v l)
 (u:Value) (y:List Int) (hx:a.eval x=u) (hu:Rd KU w u y) (hy:0 < y.length) (hlen:l.length+y.length < 2199023255552) (hB:B<=w.heap.size)
 (h:∀ v' w',Ow KU w' B E v' (l ++ y)->Below B w w'->K (a.put o.dst v') w'):o.wp P a w K Q:=by
 obtain ⟨i0,hi0,hz0,hz1,hz2⟩:=cz hi;obtain ⟨ad,cap,rfl,h1,h2,h3⟩:=hu;have hb:(l.length+y.length) * bytes<=140737488355328:=aX (cX (show l.length+y.length<=2199023255552 by omega) hby) (by omega);obtain ⟨b,off,rfl,hA⟩:=h3 hy;refine wp_append_own _ s x T ho B E i0 z KU.n bytes ht hi0 hz0 hz1 hz2 hz KU.pos v l.length (KU.flat l) hs hown ⟨b,off,none⟩ y.length cap (KU.flat y) hx (Rw.flat_length KU y) ?_ (Rw.flat_one KU y) (by unfold maxLen;omega) hb hB ?_
 ·intro j u hj
  have e:(⟨b,off,none⟩:Addr).add j=⟨b,off+j,none⟩:=by simp [Addr.add]
  rw [e];exact hA.flat j u hj
 ·intro v' w' g2 g3 _
  refine h v' w' ?_ ((aa B w).grown g3 hB fun k hk=>(aU hown k hk).1)
  show w'.ownsRow B E KU.n v' (l ++ y).length (KU.flat (l ++ y))
  rw [Rw.flat_append,bj];exact g2
theorem u8_mod (x:Int):IntKind.u8.wrap x=x % 256:=by simp [IntKind.wrap,IntKind.bits,IntKind.signed]
def FrPost (w:World) (n:Int) (l:List Int) (e:Ending) (w':World):Prop:=∃ v,e = .returned v/\Ow KU w' w.heap.size 5 v ([0,2+(l.length:Int),n / 256,n % 256] ++ l)/\Below w.heap.size w w'
theorem framed_any (w:World) (n:Int) (v:Value) (l:List Int) (h0:0<=n) (h1:n<=65535) (hl:l.length<=200) (R:Rd KU w v l):Calls prog 48 #[.int .i64 n,v] w (FrPost w n l):=by
 have E:Hid (∀ v w',Ow KU w' w.heap.size 5 v ([0,2+(l.length:Int),n / 256,n % 256] ++ l)->Below w.heap.size w w'->FrPost w n l (.returned v) w'):=fun v w' o b=>⟨v,rfl,o,b⟩;obtain ⟨a,cap,rfl,_⟩:=R.slice;have R':=Hh R;clear R;have hm:Hid (l.length<=200):=hl;generalize hn:l.length=m at *;have HN:=Hh hn;clear hn;have e1:IntKind.i64.wrap (2+(m:Int))=2+(m:Int):=aR _ (by omega);have e2:(2+(m:Int)) / 256=0:=by omega
 have e3:(2+(m:Int)) % 256=2+(m:Int):=by omega
 have e4:IntKind.u8.wrap (2+(m:Int))=2+(m:Int):=by rw [u8_mod];omega
 have e5:n / 256 % 256=n / 256:=by omega
 have e6:IntKind.u8.wrap (n / 256)=n / 256:=by rw [u8_mod];omega
 have e7:=u8_mod n;clear h0 h1 hl
 go_enter func48,ntmps48
 go_upto_region 3 with fail;have L3:Hid (Ow KU (w.alloc (.cells #[.int .u8 0,.int .u8 (2+(m:Int)),.int .u8 (n / 256),.int .u8 (n % 256)] 5)) w.heap.size 5 (.slice (some ⟨w.heap.size,0,none⟩) 4 4) [0,2+(m:Int),n / 256,n % 256]):=Hh (Rw.Ow.lit (K:=KU) w w.heap.size 5 [0,2+(m:Int),n / 256,n % 256] (ac _) (by unfold maxLen;simp));have B3:=Hh ((aa w.heap.size w).alloc (ac _) (.cells #[.int .u8 0,.int .u8 (2+(m:Int)),.int .u8 (n / 256),.int .u8 (n % 256)] 5));have R3:=Hh (R'.out.below B3.out);clear e1 e2 e3 e4 e5 e6 e7 R';generalize w.alloc (.cells #[.int .u8 0,.int .u8 (2+(m:Int)),.int .u8 (n / 256),.int .u8 (n % 256)] 5)=W at *
 go_wp2_with (at_builtin;refine Rw.all_step (K:=KU) underlying34 infoU rfl (by omega) rfl _ _ rfl w.heap.size _ _ rfl L3.out _ l rfl R3.out ?c1 ?c2 ?_)
 case c1=>have:=hm.out;have:=HN.out;simp;omega
 case c2=>exact B3.out.size
 intro v7 w7 o7 b7
 have F:=Hh (E.out v7 w7 o7 (B3.out.trans b7));clear E o7 b7 L3 B3 R3;go_wp2
 (try simp only [Exit.inBlock,Exit.then])
 go_ret
 exact F.out
theorem qb_of (x:Q):qb x=if x.k=2 then [0,2+(([x.k,x.n,x.f,x.r,x.key] ++ [x.v.1,x.v.2.1,x.v.2.2.1,x.v.2.2.2]).length:Int),x.id / 256,x.id % 256] ++ ([x.k,x.n,x.f,x.r,x.key] ++ [x.v.1,x.v.2.1,x.v.2.2.1,x.v.2.2.2]) else [0,2+(([x.k,x.n,x.f,x.r,x.key]:List Int).length:Int),x.id / 256,x.id % 256] ++ [x.k,x.n,x.f,x.r,x.key]:=by
 unfold qb
 by_cases h:x.k=2
 ·rw [aj h,aj h,aj h];rfl
 ·rw [ah h,ah h,ah h];rfl
theorem put_bad (w:World) (x:Q) (hg:¬ good x):Calls prog 21 #[qV x] w (PutPost w x):=by
 have B0:=Hh ((aa w.heap.size w).alloc (ac _) (.cells (qA x) 53));have GR:=Hh (at_bool (show goodB x=false from ak hg) (good_any (w.alloc (.cells (qA x) 53)) x));have E:Hid (∀ w',Below w.heap.size w w'->PutPost w x (.returned (.tuple #[.slice none 0 0,.int .i64 1])) w'):=fun w' b=>⟨_,by rw [ah hg],by rw [ah hg];exact Rw.Ow.nil _ _ _,b⟩;clear hg;unfold qV at *
 go_enter func21,ntmps21
 unfold qA at *;go_wp2_with fail;refine GR.out.mono ?_;rintro e w1 ⟨rfl,b1⟩;have B1:=bTr B0 b1;clear b1 B0 GR;go_wp2
 go_ret2
 exact E.out _ B1
theorem put_good (w:World) (x:Q) (hg:good x):Calls prog 21 #[qV x] w (PutPost w x):=by
 have B0:=Hh ((aa w.heap.size w).alloc (ac _) (.cells (qA x) 53));have R0:=Hh (am w (.cells (qA x) 53));have GR:=Hh (at_bool (show goodB x=true from an hg) (good_any (w.alloc (.cells (qA x) 53)) x));have E:Hid (∀ v w',Ow KU w' w.heap.size 5 v (qb x)->Below w.heap.size w w'->PutPost w x (.returned (.tuple #[v,.int .i64 0])) w'):=fun v w' o b=>⟨v,by rw [aj hg],by rw [aj hg];exact o,b⟩;have EQ:=Hh (qb_of x);obtain ⟨id,k,n,f,r,⟨v0,v1,v2,v3⟩,key⟩:=x;unfold good at hg;unfold qV at *;unfold qA at *;dsimp only at hg B0 R0 GR E EQ ⊢;obtain ⟨⟨h1,h2⟩,⟨h3,h4⟩,⟨h5,h6⟩,⟨h7,h8⟩,⟨h9,h10⟩,⟨h11,h12⟩,_,_⟩:=hg;have FR:=fun w v l hl R=>Hh (framed_any w id v l h1 h2 hl R);have q3:=u8_in (x:=k) (by omega) (by omega);have q4:=u8_in (x:=n) (by omega) (by omega);have q5:=u8_in (x:=f) (by omega) (by omega);have q6:=u8_in (x:=r) (by omega) (by omega);have q7:=u8_in (x:=key) (by omega) (by omega);clear h1 h2 h3 h4 h5 h6 h7 h8 h9 h10 h11 h12
 go_enter func21,ntmps21
 go_wp2_with fail;refine GR.out.mono ?_;rintro e w1 ⟨rfl,b1⟩;have B1:=bTr B0 b1;have R1:=Hh (bBl b1 R0.out);clear b1 B0 GR R0;have c1:=rc1 R1.out 1;have c2:=rc1 R1.out 2;have c3:=rc1 R1.out 3;have c4:=rc1 R1.out 4;have c9:=rc1 R1.out 9;go_upto_region 4 with fail;have hlt:=ay R1.out;have L3:=Hh (Rw.Ow.lit (K:=KU) w1 (w.heap.size+1) 5 [k,n,f,r,key] hlt (by unfold maxLen;simp));have B3:=Hh (B1.out.alloc B1.out.size (.cells #[.int .u8 k,.int .u8 n,.int .u8 f,.int .u8 r,.int .u8 key] 5));have R3:=Hh (bBl ((aa w1.heap.size w1).alloc (ac _) (.cells #[.int .u8 k,.int .u8 n,.int .u8 f,.int .u8 r,.int .u8 key] 5)) R1.out)
 replace L3:Hid (Ow KU (w1.alloc (.cells #[.int .u8 k,.int .u8 n,.int .u8 f,.int .u8 r,.int .u8 key] 5)) (w.heap.size+1) 5 (.slice (some ⟨w1.heap.size,0,none⟩) 5 5) [k,n,f,r,key]):=L3
 have Z3:Hid (w.heap.size+1<=(w1.alloc (.cells #[.int .u8 k,.int .u8 n,.int .u8 f,.int .u8 r,.int .u8 key] 5)).heap.size):=ay R3.out;clear R1 B1 c1 c2 c3 c4 c9 q3 q4 q5 q6 q7 hlt;generalize w1.alloc (.cells #[.int .u8 k,.int .u8 n,.int .u8 f,.int .u8 r,.int .u8 key] 5)=W at *;generalize w1.heap.size=g at *;have c0:=rc1 R3.out 0;have c1:=rc1 R3.out 1
 by_cases h2:k=2
 ·rw [aj h2] at EQ
  subst h2
  have V:=Hh (rd_part 5 [v0,v1,v2,v3] 4 R3.out (fun i x e=>by
   match i,e with
   | 0,e=>cases e;rfl
   | 1,e=>cases e;rfl
   | 2,e=>cases e;rfl
   | 3,e=>cases e;rfl
   | i+4,e=>simp at e) (by simp) (by unfold maxLen;simp))
  go_wp2_with (at_builtin;refine Rw.all_step (K:=KU) underlying34 infoU rfl (by omega) rfl _ _ rfl (w.heap.size+1) _ _ rfl L3.out _ [v0,v1,v2,v3] rfl V.out ?c1 ?c2 ?_)
  case c2=>exact Z3.out
  intro v7 w7 o7 b7
  have B7:=Hh (B3.out.trans (b7.mono (Nat.le_succ _)));have k0:=(b7.cell (Nat.lt_succ_self _)).trans c0;have FR7:=FR w7 v7 _ (by simp) o7.rd;clear FR b7 c0 c1 L3 B3 R3 V Z3 o7;go_wp2_with fail;refine FR7.out.mono ?_;rintro e w8 ⟨v8,rfl,o8,b8⟩;have F:=Hh (E.out v8 w8 (by rw [EQ.out];exact o8.low B7.out.size) (bTr B7.out b8));clear E EQ o8 b8 B7 FR7 k0;go_wp2
  go_ret2
  exact F.out
 ·rw [ah h2] at EQ
  have FR7:=FR W _ _ (by simp) L3.out.rd;clear FR;go_wp2_with fail;refine FR7.out.mono ?_;rintro e w8 ⟨v8,rfl,o8,b8⟩;have F:=Hh (E.out v8 w8 (by rw [EQ.out];exact o8.low B3.out.size) (bTr B3.out b8));clear E EQ o8 b8 B3 FR7 c0 c1 L3 R3 Z3;go_wp2
  go_ret2
  exact F.out
theorem put_any (w:World) (x:Q):Calls prog 21 #[qV x] w (PutPost w x):=by
 by_cases hg:good x
 ·exact put_good w x hg
 ·exact put_bad w x hg
attribute [local irreducible] Sd.wpSd wpQuiet
theorem isreply_any (w:World) (y:Y):Calls prog 70 #[yV y] w fun e w'=>e = .returned (.bool (mayB y))/\Below w.heap.size w w':=by
 have B0:=Hh ((aa w.heap.size w).alloc (ac _) (.cells (yA y) 44));have H:Hid (mayB y=mayB y):=Hh rfl;obtain ⟨id,e,⟨v0,v1,v2,v3⟩⟩:=y;unfold yV yA;unfold yA at B0;dsimp only at B0 H ⊢
 by_cases hi:0<=id/\id<=65535
 ·have I:=fun w=>Hh (isid_is w id true (an hi))
  rcases (by omega:e < 0\/0<=e/\16 < e\/e=0\/(1<=e/\e<=16)) with h | ⟨h,h'⟩ | rfl | ⟨h,h'⟩
  case' inr.inr.inr =>
   have hne:¬ e=0:=by omega
   have es:=rec_is v0 v1 v2 v3 _ rfl;generalize hb:decide (bare (v0,v1,v2,v3))=bb at es
  all_goals
   have HI:=Hh hi;clear hi
   go_enter func70,ntmps70
   go_wp2_with fail;refine (I _).out.mono ?_;rintro e w1 ⟨rfl,rfl⟩;go_wp2
   go_ret
  ·refine ⟨ret_bool ?_,B0.out⟩
   rw [show (e == 0)=false from aY.2 (by omega),Bool.false_or,← hb];refine bf.2 ?_;have:=HI.out;unfold may bare;dsimp only
   omega
  ·exact ⟨ret_bool (ak (by unfold may;dsimp only;omega)).symm,B0.out⟩
  ·exact ⟨ret_bool (ak (by unfold may;dsimp only;omega)).symm,B0.out⟩
  ·exact ⟨ret_bool (an (by have:=HI.out;unfold may;dsimp only;omega)).symm,B0.out⟩
 ·have I:=fun w=>Hh (isid_is w id false (ak hi))
  have HI:=Hh hi;clear hi
  go_enter func70,ntmps70
  go_wp2_with fail;refine (I _).out.mono ?_;rintro e w1 ⟨rfl,rfl⟩;go_wp2
  go_ret
  exact ⟨ret_bool (ak (by have:=HI.out;unfold may;dsimp only;omega)).symm,B0.out⟩
theorem answer_bad (w:World) (y:Y) (hg:¬ may y):Calls prog 40 #[yV y] w (AnsPost w y):=by
 have B0:=Hh ((aa w.heap.size w).alloc (ac _) (.cells (yA y) 44));have GR:=Hh (at_bool (show mayB y=false from ak hg) (isreply_any (w.alloc (.cells (yA y) 44)) y));have E:Hid (∀ w',Below w.heap.size w w'->AnsPost w y (.returned (.tuple #[.slice none 0 0,.int .i64 1])) w'):=fun w' b=>⟨_,by rw [ah hg],by rw [ah hg];exact Rw.Ow.nil _ _ _,b⟩;clear hg;unfold yV at *
 go_enter func40,ntmps40
 unfold yA at *;go_wp2_with fail;refine GR.out.mono ?_;rintro e w1 ⟨rfl,b1⟩;have B1:=bTr B0 b1;clear b1 B0 GR;go_wp2
 go_ret2
 exact E.out _ B1
theorem answer_good (w:World) (y:Y) (hg:may y):Calls prog 40 #[yV y] w (AnsPost w y):=by
 have B0:=Hh ((aa w.heap.size w).alloc (ac _) (.cells (yA y) 44));have R0:=Hh (am w (.cells (yA y) 44));have GR:=Hh (at_bool (show mayB y=true from an hg) (isreply_any (w.alloc (.cells (yA y) 44)) y));have E:Hid (∀ v w',Ow KU w' w.heap.size 5 v (yb y)->Below w.heap.size w w'->AnsPost w y (.returned (.tuple #[v,.int .i64 0])) w'):=fun v w' o b=>⟨v,by rw [aj hg],by rw [aj hg];exact o,b⟩;have EQ:Hid (yb y = [0,2+(([y.e] ++ [y.v.1,y.v.2.1,y.v.2.2.1,y.v.2.2.2]).length:Int),y.id / 256,y.id % 256] ++ ([y.e] ++ [y.v.1,y.v.2.1,y.v.2.2.1,y.v.2.2.2])):=Hh rfl;obtain ⟨id,e,⟨v0,v1,v2,v3⟩⟩:=y;unfold may at hg;unfold yV at *;unfold yA at *;dsimp only at hg B0 R0 GR E EQ ⊢;obtain ⟨⟨h1,h2⟩,⟨h3,h4⟩,_⟩:=hg;have FR:=fun w v l hl R=>Hh (framed_any w id v l h1 h2 hl R);have q3:=u8_in (x:=e) (by omega) (by omega);clear h1 h2 h3 h4
 go_enter func40,ntmps40
 go_wp2_with fail;refine GR.out.mono ?_;rintro e' w1 ⟨rfl,b1⟩;have B1:=bTr B0 b1;have R1:=Hh (bBl b1 R0.out);clear b1 B0 GR R0;have c0:=Sd.cell_by (rc1 R1.out 0);have c1:=Sd.cell_by (rc1 R1.out 1);go_upto_region 3 with fail;have BW:=Hh ((aa w1.heap.size w1).drew);refine Sd.start [(false,0),(false,1),(false,2),(false,3),(false,4),(false,6),(false,7),(true,5),(true,8),(true,9),(false,10),(false,11)] (by kernel_rfl) (by kernel_rfl) (by kernel_rfl) ?_;dsimp only [Sd.picks,List.getElem?_cons_succ,List.getElem?_cons_zero]
 repeat (refine Sd.lit ?_;quiet_step (fail);refine az ?_)
 generalize w1.drew=w2 at *;have R2:=Hh (bBl BW.out R1.out);have L3:Hid (Ow KU (w2.alloc (.cells #[.int .u8 e] 5)) w1.heap.size 5 (.slice (some ⟨w2.heap.size,0,none⟩) 1 1) [e]):=Hh (Rw.Ow.lit (K:=KU) w2 w1.heap.size 5 [e] BW.out.size (by unfold maxLen;simp));have R3:=Hh (bBl ((aa w2.heap.size w2).alloc (ac _) (.cells #[.int .u8 e] 5)) R2.out);have B3:=Hh (BW.out.alloc BW.out.size (.cells #[.int .u8 e] 5));clear R1 R2 BW c0 c1;refine Sd.call (by rfl) (fun K hK=>?_);go_simp;refine hK _ _ (Sd.Cl.of B3.out) ?_;clear hK K q3;generalize w2.alloc (.cells #[.int .u8 e] 5)=w3 at *;generalize w2.heap.size=g at *
 have V:=Hh (rd_part 2 [v0,v1,v2,v3] 4 R3.out (fun i x e=>by
  match i,e with
  | 0,e=>cases e;rfl
  | 1,e=>cases e;rfl
  | 2,e=>cases e;rfl
  | 3,e=>cases e;rfl
  | i+4,e=>simp at e) (by simp) (by unfold maxLen;simp))
 refine Sd.call (by rfl) (fun K hK=>?_);refine wp_all underlying34 infoU rfl (by omega) _ _ rfl w1.heap.size _ _ rfl L3.out _ [v0,v1,v2,v3] rfl V.out (by simp) (by simp) B3.out.size ?_
 intro v6 w6 o6 b6
 have B6:=Hh (B3.out.trans b6);have FR6:=FR w6 v6 _ (by simp) o6.rd;refine hK _ _ (Sd.Cl.of B6.out) ?_;clear hK K L3 R3 B3 V FR o6 b6;refine Sd.call (by rfl) (fun K hK=>?_);go_simp;refine FR6.out.mono ?_;rintro e' w8 ⟨v8,rfl,o8,b8⟩;have B8:=Hh (B6.out.trans (b8.mono B6.out.size));refine hK _ _ (Sd.Cl.of B8.out) ?_;have F:=Hh (E.out v8 w8 (by rw [EQ.out];exact o8.low (aX B1.out.size B6.out.size)) (bTr B1.out B8.out));clear hK K E EQ o8 b8 B8 B6 B1 FR6
 repeat (refine Sd.lit ?_;quiet_step (fail);refine az ?_)
 refine Sd.done ?_;go_wp2
 go_ret2
 exact F.out
theorem answer_any (w:World) (y:Y):Calls prog 40 #[yV y] w (AnsPost w y):=by
 by_cases hg:may y
 ·exact answer_good w y hg
 ·exact answer_bad w y hg
theorem or_hi {a b:Int} (h0:0<=a) (h1:a < 256) (h2:0<=b) (h3:b < 256):bits .or .i64 (a * 256) b=a * 256+b:=by
 obtain ⟨n,rfl⟩:=Int.eq_ofNat_of_zero_le h0;obtain ⟨m,rfl⟩:=Int.eq_ofNat_of_zero_le h2;have ha:n < 256:=by omega
 have hb:m < 256:=by omega
 have e:n * 256 ||| m=n * 256+m:=by
  have:=Nat.shiftLeft_add_eq_or_of_lt (show m < 2 ^ 8 from hb) n;rw [Nat.shiftLeft_eq] at this;exact this.symm
 have h:(BitVec.ofInt 64 ((n:Int) * 256) ||| BitVec.ofInt 64 (m:Int)).toNat=n * 256+m:=by
  rw [show ((n:Int) * 256)=((n * 256:Nat):Int) by simp,BitVec.ofInt_natCast,BitVec.ofInt_natCast,BitVec.toNat_or,BitVec.toNat_ofNat,BitVec.toNat_ofNat,Nat.mod_eq_of_lt (by omega),Nat.mod_eq_of_lt (by omega),e]
 show IntKind.i64.wrap ((BitVec.ofInt 64 ((n:Int) * 256) ||| BitVec.ofInt 64 (m:Int)).toNat:Int)=_
 rw [h]
 simp [IntKind.wrap,IntKind.bits,IntKind.signed]
 omega
theorem id_any (w:World) (b off n cap:Nat) (b2 b3:Int) (hn:4<=n) (c2:w.cell? ⟨b,off+2,none⟩=some (.int .u8 b2)) (c3:w.cell? ⟨b,off+3,none⟩=some (.int .u8 b3)) (h2:0<=b2/\b2 < 256) (h3:0<=b3/\b3 < 256) :
 Calls prog 39 #[.slice (some ⟨b,off,none⟩) n cap] w fun e w'=>e = .returned (.int .i64 (b2 * 256+b3))/\Below w.heap.size w w':=by
 have eo:=or_hi h2.1 h2.2 h3.1 h3.2;have e2:IntKind.i64.wrap b2=b2:=aR _ (by omega);have e3:IntKind.i64.wrap b3=b3:=aR _ (by omega);have e4:IntKind.i64.wrap (b2 * 256)=b2 * 256:=aR _ (by omega);have d2:=Sd.cell_by c2;have d3:=Sd.cell_by c3;have n2:2 < n:=by omega
 have n3:3 < n:=by omega
 have m2:(2:Int) < n:=by omega
 have m3:(3:Int) < n:=by omega
 clear c2 c3 h2 h3 hn
 go_enter func39,ntmps39
 go_wp2_with fail;have BW:=Hh ((aa w.heap.size w).drew);refine Sd.start [(false,0),(false,1),(false,2),(false,3),(false,4),(false,5),(false,6),(false,7),(false,8),(false,9),(false,10)] (by kernel_rfl) (by kernel_rfl) (by kernel_rfl) ?_;dsimp only [Sd.picks,List.getElem?_cons_succ,List.getElem?_cons_zero]
 repeat (refine Sd.lit ?_;quiet_step (fail);refine az ?_)
 refine Sd.done ?_;go_wp2
 go_ret
 exact ⟨rfl,BW.out⟩
theorem equal_any (w:World) (b off n cap:Nat) (l:List Int) (b' off' n' cap':Nat) (m:List Int) (hl:l.length=n) (hm:m.length=n') (A:At KU w b off l) (A':At KU w b' off' m) (hx:∀ x∈l,0<=x/\x < 256) (hy:∀ x∈m,0<=x/\x < 256) (c:Bool) (hc:decide (l=m)=c) :
 Calls prog 41 #[.slice (some ⟨b,off,none⟩) n cap,.slice (some ⟨b',off',none⟩) n' cap'] w fun e w'=>e = .returned (.bool c)/\w=w':=by
 have s1:=run_convert_bytes_arg (P:=prog) w 34 5 underlying34 underlying5 b' off' n' cap' m hm (hm ▸ cells_at A') 9 underlying9;have s2:=run_convert_bytes_arg (P:=prog) w 34 5 underlying34 underlying5 b off n cap l hl (hl ▸ cells_at A) 9 underlying9;have ht:((strOfNums l).toList == (strOfNums m).toList)=c:=by
  rw [← hc,Bool.eq_iff_iff,beq_iff_eq,aZ];exact ⟨str_eq hx hy,fun h=>by rw [h]⟩
 clear A A' hx hy hl hm hc;generalize strOfNums l=s at *;generalize strOfNums m=t at *
 go_enter func41,ntmps41
 go_wp2
 go_ret
 exact ⟨ret_bool (by first | rfl | exact ht),rfl⟩
theorem wp_copy {o:Oper} {a:Act} {K:Act->World->Prop} {Q:Exit->Act->World->Prop} (d s:Operand) (dT sT:TypeId)
 (ho:o.op = .call { callee:=.builtin .copy,args:=#[d,s],argTypes:=#[dT,sT] }) (elem:TypeId) (hu:P.underlying dT=some (.slice elem)) (hsz:(P.info? elem).map (·.size)=some 1)
 (dp sp:Option Addr) (dLen dCap sLen sCap:Nat) (hd:a.eval d = .slice dp dLen dCap) (hs:a.eval s = .slice sp sLen sCap)
 (g off:Nat) (cur:List Value) (t:TypeId) (hg:w.heap[g]? = some (.cells cur.toArray t (0,0))) (cs:List Value) (hn:cs.length=Nat.min sLen dLen)
 (hpos:0 < cs.length->dp=some ⟨g,off,none⟩/\∃ ad,sp=some ad/\∀ j v,cs[j]? = some v->w.cell? (ad.add j)=some v)
 (hfit:off+cs.length<=cur.length) (h1:∀ v∈cs,v.oneCell'=true) (B:Nat) (w0:World) (hb:Below B w0 w) (hBg:B<=g)
 (h:∀ w',w'.heap[g]? = some (.cells (splice cur off cs).toArray t (0,0))->Below B w0 w'->K (a.put o.dst (goInt cs.length)) w'):o.wp P a w K Q:=by
 by_cases h0:cs.length=0
 ·obtain rfl:cs = []:=List.eq_nil_of_length_eq_zero h0
  have hrun:=run_copy_none (P:=P) w dT sT o.type elem dp sp dLen dCap sLen sCap hu hsz (by simpa using hn.symm);unfold Oper.wp
  simp [execOp,ho,resolve,invoke,builtin,hd,hs,hrun,Result.andThen]
  exact h w (by simpa [splice] using hg) hb
 ·obtain ⟨rfl,ad,rfl,hsrc⟩:=hpos (by omega)
  have hrun:=run_copy_row (P:=P) w dT sT o.type elem g off dLen dCap ad sLen sCap cur.toArray t cs hu hsz hg hn hsrc (by simpa using hfit) h1;unfold Oper.wp
  simp [execOp,ho,resolve,invoke,builtin,hd,hs,hrun,Result.andThen]
  exact h _ (by simpa [splice] using setRow_heap w g _ _ t _ hg) (below_setRow hb hBg _)
def qcp (l:List Int):Q:=⟨l.getD 2 0 * 256+l.getD 3 0,l.getD 4 0,l.getD 5 0,l.getD 6 0,l.getD 7 0,((l.drop 9).getD 0 0,(l.drop 9).getD 1 0,(l.drop 9).getD 2 0,(l.drop 9).getD 3 0),l.getD 8 0⟩
theorem splice_val (m:List Int) (p0 p1 p2 p3 p4 q:Value):splice [p0,p1,p2,p3,p4,.int .u8 0,.int .u8 0,.int .u8 0,.int .u8 0,q] 5 ((m.take 4).map (Value.int .u8)) = [p0,p1,p2,p3,p4,.int .u8 (m.getD 0 0),.int .u8 (m.getD 1 0),.int .u8 (m.getD 2 0),.int .u8 (m.getD 3 0),q]:=by
 match m with
 | []=>rfl
 | [_]=>rfl
 | [_,_]=>rfl
 | [_,_,_]=>rfl
 | _ :: _ :: _ :: _ :: _=>rfl
theorem qb_len (x:Q):(qb x).length=9\/(qb x).length=13:=by
 unfold qb
 by_cases h:x.k=2
 ·rw [aj h,aj h];exact .inr rfl
 ·rw [ah h,ah h];exact .inl rfl
theorem qb_byte {x:Q} (hg:good x) (hv:okV x.v):∀ y∈qb x,0<=y/\y < 256:=fun y hy=>by
 unfold qb at hy;unfold good at hg;unfold okV at hv
 by_cases hk:x.k=2
 ·rw [aj hk,aj hk] at hy
  simp only [bM,aN,bp,cG] at hy
  omega
 ·rw [ah hk,ah hk] at hy
  simp only [bM,aN,bp,cG] at hy
  omega
theorem yb_byte {y:Y} (hg:may y) (hv:okV y.v):∀ x∈yb y,0<=x/\x < 256:=fun x hx=>by
 unfold yb at hx;unfold may at hg;unfold okV at hv;simp only [aN,bp,cG] at hx
 omega
theorem getD_byte (h:∀ x∈l,0<=x/\x < 256) (k:Nat):0<=l.getD k 0/\l.getD k 0 < 256:=by
 rw [af]
 rcases e:l[k]? with _ | x
 ·exact ⟨cP _,by decide⟩
 ·exact h x (bo e)
theorem qcp_of (h:l.length=9\/l.length=13):qcp l=qof l:=by
 unfold qcp qof
 rcases h with h | h
 ·rw [ah (by omega),show l.drop 9 = [] from List.drop_eq_nil_of_le (by omega)];rfl
 ·rw [aj h]
  simp [List.getD_eq_getElem?_getD]
theorem isQ_iff (l:List Int):isQ l↔good (qcp l)/\qb (qcp l)=l:=by
 constructor
 ·rintro ⟨h,g,e⟩
  rw [qcp_of h];exact ⟨g,e⟩
 ·rintro ⟨g,e⟩
  have h:l.length=9\/l.length=13:=by rw [← e];exact qb_len _
  rw [qcp_of h] at g e;exact ⟨h,g,e⟩
end Rq
namespace Rq
theorem qof_qb {x:Q} (hg:good x):qof (qb x)=x:=by
 obtain ⟨id,k,n,f,r,⟨v0,v1,v2,v3⟩,key⟩:=x;unfold good at hg;dsimp only at hg;unfold qb qof;dsimp only
 by_cases h:k=2
 ·simp [h]
  omega
 ·obtain ⟨_,_,_,_,_,_,_,h'⟩:=hg
  obtain ⟨rfl,rfl,rfl,rfl⟩:=h'.resolve_left h
  simp [h,z4]
  omega
theorem isQ_qb {x:Q} (hg:good x):isQ (qb x):=⟨qb_len x,by rw [qof_qb hg];exact hg,by rw [qof_qb hg]⟩
theorem yof_yb {y:Y} (hg:may y):yof (yb y)=y:=by
 obtain ⟨id,e,⟨v0,v1,v2,v3⟩⟩:=y;unfold may at hg;dsimp only at hg;unfold yb yof
 simp
 omega
theorem isY_yb {y:Y} (hg:may y):isY (yb y):=⟨rfl,by rw [yof_yb hg];exact hg,by rw [yof_yb hg]⟩
end Rq
namespace Ga
open Cu (Cs Ac actC rC srE srV srC OkC Syn)
open Qe (Qs ok fst poS faB faS puE puS)
open Rq (Q Y zQ qof yof isQ isY qb yb good may okV)
structure Gs where
 c:Cs
 key:Int
 q:Qs
def sbE (s:Gs) (l:List Int):Int:=if ¬ isQ l then 2 else if (s.c.S.length:Int)<=(qof l).n then 1 else if ((qof l).k=2\/(qof l).k=3)/\(qof l).key≠s.key then 15 else puE s.q
def sbI (l:List Int):Int:=if isQ l then (qof l).id else 0
def sbA (s:Gs) (l:List Int):List Int:=if sbE s l=0 then [] else yb ⟨sbI l,sbE s l,z4⟩
def sbC (s:Gs) (l:List Int):Gs:=if sbE s l=0 then ⟨s.c,s.key,⟨s.q.L ++ [qof l],s.q.t⟩⟩ else s
def stV (s:Gs) (x:Q):R4:=(if vat s.c.V x.n=true then 1 else 0,Wt.rl s.c.P x.n % 256,(s.c.pl:Int) % 256,0)
def stE (s:Gs) (x:Q):Int:=if x.k=4 then 0 else srE s.c x.n (x.k - 1) x.f x.r
def stR (s:Gs) (x:Q):R4:=if x.k=4 then stV s x else srV s.c x.n (x.k - 1) x.f x.r x.v
def stK (s:Gs) (x:Q):Cs:=if x.k=4 then s.c else srC s.c x.n (x.k - 1) x.f x.r x.v
def stA (s:Gs):List Int:=if 0 < s.q.L.length then (if stE s (fst s.q)=13 then (if faB s.q=true then yb ⟨(fst s.q).id,13,z4⟩ else []) else yb ⟨(fst s.q).id,stE s (fst s.q),stR s (fst s.q)⟩) else []
def stQ (s:Gs):Qs:=if 0 < s.q.L.length then (if stE s (fst s.q)=13 then faS s.q else poS s.q) else s.q
def stC (s:Gs):Gs:=⟨rC (if 0 < s.q.L.length then stK s (fst s.q) else s.c),s.key,stQ s⟩
structure OkG (s:Gs) (t:Nat):Prop where
 ok:OkC s.c t
 sy:Syn s.c
 qo:Qe.ok s.q
 all:∀ x∈s.q.L,good x/\okV x.v/\x.n < s.c.S.length
 key:0<=s.key/\s.key<=255
theorem okV_z:okV z4:=⟨⟨by decide,by decide⟩,⟨by decide,by decide⟩,⟨by decide,by decide⟩,by decide,by decide⟩
variable {v:R4}
theorem okV_to (h:okV v):okR v:=by
 unfold okV at h;unfold okR
 omega
theorem okV_of (h:okR v):okV v:=by
 unfold okR at h;unfold okV
 omega
variable {l:List Int}
theorem byte_of (h:∀ x∈l,0<=x/\x < 256):okV (qof l).v:=by
 unfold qof;dsimp only
 split
 ·exact ⟨Rq.getD_byte h _,Rq.getD_byte h _,Rq.getD_byte h _,(Rq.getD_byte h _).1,(Rq.getD_byte h _).2⟩
 ·exact okV_z
theorem id_of (l:List Int):0<=sbI l/\sbI l<=65535:=by
 unfold sbI
 split
 ·rename_i h;exact h.2.1.1
 ·omega
theorem sbE_in (s:Gs) (l:List Int):0<=sbE s l/\sbE s l<=16:=by
 unfold sbE puE
 split
 ·omega
 ·split
  ·omega
  ·split
   ·omega
   ·split <;> omega
theorem sb_may (s:Gs) (l:List Int):may ⟨sbI l,sbE s l,z4⟩:=⟨id_of l,sbE_in s l,.inr ⟨rfl,rfl,rfl,rfl⟩⟩
theorem sb_let {s:Gs} (h:sbE s l=0):isQ l/\(qof l).n < s.c.S.length/\¬ (((qof l).k=2\/(qof l).k=3)/\(qof l).key≠s.key)/\s.q.L.length < 8:=by
 unfold sbE puE at h
 split at h
 ·omega
 ·rename_i h1
  split at h
  ·omega
  ·rename_i h2
   split at h
   ·omega
   ·rename_i h3
    split at h
    ·omega
    ·exact ⟨Classical.not_not.1 h1,by omega,h3,by omega⟩
theorem len_rC (c:Cs):(rC c).S.length=c.S.length:=by
 unfold rC
 split
 ·rfl
 ·split
  ·show (if Pa.rdE c.S (Cu.rT c) c.V=0 then Pa.rdL c.S (Cu.rT c) c.V c.Q else c.S).length=_
   split
   ·rename_i e
    have er:Pa.rdL c.S (Cu.rT c) c.V c.Q=Pa.rdS c.S (Cu.rT c) c.V (Pa.hr c.S (Cu.rT c) c.V c.Q):=aj e;rw [er,Pa.rdS_len]
   ·rfl
  ·rfl
theorem len_srC (c:Cs) (n o f r:Int) (x:R4):(srC c n o f r x).S.length=c.S.length:=by
 unfold srC
 split
 ·rfl
 ·exact aT
theorem len_actC (x:Ac) (c:Cs):(actC x c).S.length=c.S.length:=by
 unfold actC
 split
 ·exact len_rC c
 ·split
  ·rfl
  ·split
   ·rfl
   ·split
    ·exact aT
    ·split
     ·rfl
     ·split <;> rfl
theorem dE_in (A:Fs.Abs) (o f r:Int):0<=dE A o f r/\dE A o f r<=5:=by
 unfold dE
 split
 ·split
  ·omega
  ·unfold Fl.doE
   repeat' split
   all_goals omega
 ·omega
theorem srE_in (c:Cs) (n o f r:Int):0<=srE c n o f r/\srE c n o f r<=16:=by
 unfold srE
 split
 ·omega
 ·split
  ·have:=dE_in (sat c.S n).1 o f r;omega
  ·omega
section
variable {s:Gs} {t:Nat} (h:OkG s t)
include h
theorem OkG.next:OkG s (t+1):=⟨h.ok.next,h.sy,h.qo,h.all,h.key⟩
theorem OkG.act (x:Ac) (hx:okR x.v):OkG ⟨actC x s.c,s.key,s.q⟩ (t+1):=⟨h.ok.act x hx,h.sy.act h.ok x,h.qo,fun y hy=>by
 have:=h.all y hy;refine ⟨this.1,this.2.1,?_⟩
 show y.n < (actC x s.c).S.length
 rw [len_actC];exact this.2.2,h.key⟩
theorem OkG.sub (hb:∀ x∈l,0<=x/\x < 256):OkG (sbC s l) t:=by
 unfold sbC
 by_cases e:sbE s l=0
 ·rw [aj e]
  obtain ⟨h1,h2,h3,h4⟩:=sb_let e;have hp:=Qe.ok_push h.qo (qof l);unfold puS at hp;rw [ah (by omega)] at hp;refine ⟨h.ok,h.sy,hp,fun y hy=>?_,h.key⟩
  rcases bM.1 hy with hy | hy
  ·exact h.all y hy
  ·obtain rfl:=bm.1 hy
   exact ⟨h1.2.1,byte_of hb,h2⟩
 ·rw [ah e];exact h
theorem OkG.fst (h0:0 < s.q.L.length):good (fst s.q)/\okV (fst s.q).v/\(fst s.q).n < s.c.S.length:=by
 obtain ⟨c,key,⟨L,tt⟩⟩:=s
 cases L with
 | nil=>simp at h0
 | cons x r=>exact h.all x (aO ..)
theorem OkG.stK (x:Q) (hx:okV x.v):OkC (stK s x) (t+1)/\Syn (stK s x):=by
 unfold Ga.stK
 split
 ·exact ⟨h.ok.next,h.sy⟩
 ·exact ⟨h.ok.serve _ _ _ _ _ (okV_to hx),h.sy.serve _ _ _ _ _⟩
omit h in
theorem len_stK (x:Q):(Ga.stK s x).S.length=s.c.S.length:=by
 unfold Ga.stK
 split
 ·rfl
 ·exact len_srC ..
theorem OkG.step:OkG (stC s) (t+2):=by
 have hc:OkC (if 0 < s.q.L.length then Ga.stK s (Qe.fst s.q) else s.c) (t+1)/\Syn (if 0 < s.q.L.length then Ga.stK s (Qe.fst s.q) else s.c)/\(if 0 < s.q.L.length then Ga.stK s (Qe.fst s.q) else s.c).S.length=s.c.S.length:=by
  split
  ·rename_i h0
   have:=h.stK _ (h.fst h0).2.1;exact ⟨this.1,this.2,len_stK _⟩
  ·exact ⟨h.ok.next,h.sy,rfl⟩
 have hq:Qe.ok (stQ s)/\∀ x∈(stQ s).L,x∈s.q.L:=by
  unfold stQ
  split
  ·split
   ·refine ⟨Qe.ok_fail h.qo,fun x hx=>?_⟩
    unfold faS at hx
    rename_i h0 _
    rw [aj h0] at hx
    split at hx
    ·exact List.mem_of_mem_tail hx
    ·exact hx
   ·exact ⟨Qe.ok_pop h.qo,fun x hx=>List.mem_of_mem_tail hx⟩
  ·exact ⟨h.qo,fun x hx=>hx⟩
 unfold stC;refine ⟨hc.1.round,hc.2.1.round,hq.1,fun x hx=>?_,h.key⟩;have:=h.all x (hq.2 x hx);refine ⟨this.1,this.2.1,?_⟩
 show x.n < (rC _).S.length
 rw [len_rC,hc.2.2];exact this.2.2
end
variable {x:R4}
theorem okR_dV {A:Fs.Abs} (h:Fs.OkA A) (o f r:Int) (hx:okR x):okR (dV A o f r x):=by
 unfold dV
 split
 ·exact Fl.okR_z
 ·rename_i e he
  split
  ·exact Fs.okR_new (h.find he).2.2.1 hx
  ·exact Fl.okR_z
variable {c:Cs}
theorem okR_srV {t:Nat} (h:OkC c t) (n o f r:Int) (hx:okR x):okR (srV c n o f r x):=by
 unfold srV
 split
 ·rename_i e
  unfold srE at e
  split at e
  ·omega
  ·rename_i hn
   have hin:0<=n/\n < c.S.length:=by unfold Cu.no at hn;omega
   have hs:=h.st n.toNat (by omega);rw [bW hin.1] at hs;exact okR_dV hs.1 _ _ _ hx
 ·exact Fl.okR_z
theorem srV_bare {n o f r:Int} (h:srE c n o f r≠0):srV c n o f r x=z4:=by unfold srV;rw [ah h]
section
variable {s:Gs} {t:Nat} (h:OkG s t)
include h
theorem OkG.stR (x:Q) (hx:okV x.v):okV (stR s x):=by
 unfold Ga.stR
 split
 ·unfold stV
  refine ⟨?_,?_,?_,cP 0,by show (0:Int) < 256;decide⟩
  ·dsimp only;split <;> decide
  ·dsimp only;omega
  ·dsimp only;omega
 ·exact okV_of (okR_srV h.ok _ _ _ _ (okV_to hx))
omit h in
theorem stE_in (x:Q):0<=stE s x/\stE s x<=16:=by
 unfold stE
 split
 ·omega
 ·exact srE_in ..
omit h in
theorem may_st (x:Q) (hx:good x):may ⟨x.id,stE s x,Ga.stR s x⟩:=by
 refine ⟨hx.1,stE_in x,?_⟩
 by_cases e:stE s x=0
 ·exact .inl e
 ·right
  unfold Ga.stR;unfold stE at e
  split at e
  ·exact absurd rfl e
  ·rename_i h4
   rw [ah h4,srV_bare e];exact ⟨rfl,rfl,rfl,rfl⟩
end
theorem fa_stays {q:Qs} (h:0 < q.L.length) (e:faB q≠true):faS q=⟨q.L,q.t+1⟩:=by
 unfold faB at e;unfold faS;rw [aj h,ah (fun g=>e (an ⟨h,g⟩))]
end Ga
namespace Cu
open Go.RowKit Go.Maps
section
variable {E:TypeId} {w wr w1:World} {S:Sts} {k:Nat} {o o':Value} {ps:List Nat} {Fs:Nat->Nat->Prop} {g:Nat} {F5:Nat->Prop}
structure PJ (E:TypeId) (w:World) (S:Sts) (k:Nat) (o:Value) (ps:List Nat) (Fs:Nat->Nat->Prop) (wr:World):Prop where
 own:Ow KN wr w.heap.size E o ps
 len:ps.length=k
 each:∀ i,i < k->St wr (ps.getD i 0) (Fs i) (sat S i).1 (sat S i).2
 lo:∀ i,i < k->∀ j,Fs i j->w.heap.size<=j/\o.ownBlock≠some j
 dis:∀ i m,i < k->m < k->i≠m->∀ j,Fs i j->¬ Fs m j
 bel:Below w.heap.size w wr
structure PK (E:TypeId) (w:World) (S:Sts) (k:Nat) (o:Value) (ps:List Nat) (Fs:Nat->Nat->Prop) (g:Nat) (F5:Nat->Prop) (wr:World):Prop where
 old:PJ E w S k o ps Fs wr
 new:St wr g F5 (sat S k).1 (sat S k).2
 nlo:∀ j,F5 j->w.heap.size<=j/\o.ownBlock≠some j
 ndis:∀ i,i < k->∀ j,F5 j->¬ Fs i j
theorem PJ.start (hb:Below w.heap.size w wr):PJ E w S 0 (.slice none 0 0) [] Fs wr:=⟨Rw.Ow.nil _ _ _,rfl,fun i hi=>by omega,fun i hi=>by omega,fun i m hi=>by omega,hb⟩
theorem PJ.below (h:PJ E w S k o ps Fs wr) (b:Below wr.heap.size wr w1):PJ E w S k o ps Fs w1:=⟨h.own.keep b,h.len,fun i hi=>(h.each i hi).below b,h.lo,h.dis,h.bel.trans (b.mono h.bel.size)⟩
theorem PJ.list_lt (h:PJ E w S k o ps Fs wr):∀ k,o.ownBlock=some k->k < wr.heap.size:=fun k e=>(aU h.own k e).2
theorem PJ.pend (h:PJ E w S k o ps Fs wr) (b:Below wr.heap.size wr w1) (st:St w1 g F5 (sat S k).1 (sat S k).2) (lo5:∀ j,F5 j->wr.heap.size<=j):PK E w S k o ps Fs g F5 w1 :=
 ⟨h.below b,st,fun j hj=>⟨aX h.bel.size (lo5 j hj),fun e=>by have:=h.list_lt j e;have:=lo5 j hj;omega⟩,fun i hi j hj q=>by have:=(h.each i hi).low j q;have:=lo5 j hj;omega⟩
theorem PK.below (h:PK E w S k o ps Fs g F5 wr) (b:Below wr.heap.size wr w1):PK E w S k o ps Fs g F5 w1:=⟨h.old.below b,h.new.below b,h.nlo,h.ndis⟩
def fsN (Fs:Nat->Nat->Prop) (k:Nat) (F5:Nat->Prop) (i:Nat):Nat->Prop:=if i=k then F5 else Fs i
theorem PK.push (h:PK E w S k o ps Fs g F5 wr) (own:Ow KN w1 w.heap.size E o' (ps ++ [g])) (gr:wr.grownBy w1 o.ownBlock) (hq:o'.ownBlock=o.ownBlock\/∃ g,o'.ownBlock=some g/\wr.heap.size<=g):PJ E w S (k+1) o' (ps ++ [g]) (fsN Fs k F5) w1:=by
 have oq:=only_grown gr;have len:=h.old.len;have at_old:∀ i,i < k->(ps ++ [g]).getD i 0=ps.getD i 0:=fun i hi=>by rw [af,bV (by rw [len];exact hi),af]
 have at_new:(ps ++ [g]).getD k 0=g:=by rw [af,cm (by rw [len];exact ac _),len];simp
 have f_old:∀ i,i < k->fsN Fs k F5 i=Fs i:=fun i hi=>ah (by omega);have f_new:fsN Fs k F5 k=F5:=aj rfl;have off:∀ (F:Nat->Prop) j,F j->(∀ j,F j->j < wr.heap.size)->o.ownBlock≠some j->o'.ownBlock≠some j:=fun F j hj hl hn e=>by
  rcases hq with q | ⟨x,q,hx⟩
  ·exact hn (by rw [← q];exact e)
  ·rw [q] at e
   injection e with e;have:=hl j hj
   omega
 refine ⟨own,by rw [bj,len];rfl,fun i hi=>?_,fun i hi=>?_,fun i m hi hm hne=>?_,h.old.bel.grown gr h.old.bel.size fun j e=>(aU h.old.own j e).1⟩
 ·by_cases e:i=k
  ·subst e
   rw [at_new,f_new];exact h.new.only (fun j hj e=>(h.nlo j hj).2 e) oq
  ·rw [at_old i (by omega),f_old i (by omega)]
   exact (h.old.each i (by omega)).only (fun j hj e=>(h.old.lo i (by omega) j hj).2 e) oq
 ·by_cases e:i=k
  ·subst e
   rw [f_new];exact fun j hj=>⟨(h.nlo j hj).1,off F5 j hj h.new.low (h.nlo j hj).2⟩
  ·rw [f_old i (by omega)]
   exact fun j hj=>⟨(h.old.lo i (by omega) j hj).1,off _ j hj (h.old.each i (by omega)).low (h.old.lo i (by omega) j hj).2⟩
 ·by_cases e:i=k
  ·subst e
   rw [f_new,f_old m (by omega)];exact fun j hj=>h.ndis m (by omega) j hj
  ·by_cases e2:m=k
   ·subst e2
    rw [f_new,f_old i (by omega)];exact fun j hj q=>h.ndis i (by omega) j q hj
   ·rw [f_old i (by omega),f_old m (by omega)]
    exact h.old.dis i m (by omega) (by omega) hne
theorem PJ.low {w0:World} (h:PJ E w S k o ps Fs wr) (hz:w0.heap.size<=w.heap.size) (b:Below w0.heap.size w0 wr):PJ E w0 S k o ps Fs wr:=⟨h.own.low hz,h.len,h.each,fun i hi j hj=>⟨aX hz (h.lo i hi j hj).1,(h.lo i hi j hj).2⟩,h.dis,b⟩
theorem PJ.stl (h:PJ E w S S.length o ps Fs wr):Stl wr o S:=⟨ps,h.own.rd,h.len,fun i hi=>⟨_,h.each i hi⟩⟩
end
def BrP (w:World) (E:Int) (S':Sts) (e:Ending) (w':World):Prop:=∃ v ps Fs,e = .returned (.tuple #[v,.int .i64 E])/\(E=0->PJ 76 w S' S'.length v ps Fs w')/\(E≠0->v = .slice none 0 0)/\Below w.heap.size w w'
end Cu
namespace Wt
open Go.RowKit
open Fl (ret_bool at_bool)
attribute [local irreducible] Sd.wpSd wpQuiet
section
end
theorem only_set (r k:Nat) (w:World) (u:Value):Only (fun b=>b=r) w (w.setCell ⟨r,k,none⟩ u):=Only.set (fun b=>b=r) w (a:=⟨r,k,none⟩) rfl u
variable {w w1 w2 w':World}
theorem only_two {r:Nat} (h:Only (fun b=>b=r) w w1) (g:Only (fun b=>b=r) w1 w2):Only (fun b=>b=r) w w2:=h.trans g fun _ _ q=>q
def rowM (r0 z0 r1 z1:Int):Array Value:=#[.int .i64 r0,.int .i64 z0,.int .i64 r1,.int .i64 z1]
def RowM (w:World) (s:Nat) (r0 z0 r1 z1:Int):Prop:=w.heap[s]? = some (.cells (rowM r0 z0 r1 z1) 118 (0,0))
theorem RowM.only {s:Nat} {r0 z0 r1 z1:Int} {G:Nat->Prop} (h:RowM w s r0 z0 r1 z1) (o:Only G w w') (hn:¬ G s):RowM w' s r0 z0 r1 z1:=(o.block s (ay h) hn).trans h
section
variable {w:World} {s:Nat} {r0 z0 r1 z1:Int} (h:RowM w s r0 z0 r1 z1)
include h
theorem RowM.below (b:Below w.heap.size w w'):RowM w' s r0 z0 r1 z1:=h.only (G:=fun _=>False) (Only.of_below b) (fun g=>g)
theorem RowM.set0 (x:Int):RowM (w.setCell ⟨s,0,none⟩ (.int .i64 x)) s x z0 r1 z1:=Rw.heap_setCell_same h _
theorem RowM.set1 (x:Int):RowM (w.setCell ⟨s,1,none⟩ (.int .i64 x)) s r0 x r1 z1:=Rw.heap_setCell_same h _
theorem RowM.set2 (x:Int):RowM (w.setCell ⟨s,2,none⟩ (.int .i64 x)) s r0 z0 x z1:=Rw.heap_setCell_same h _
theorem RowM.set3 (x:Int):RowM (w.setCell ⟨s,3,none⟩ (.int .i64 x)) s r0 z0 r1 x:=Rw.heap_setCell_same h _
end
structure Vm (a:A) (z0 z1:Int) (t:Nat):Prop where
 b0:0<=z0/\z0<=t
 b1:0<=z1/\z1<=t
 e0:a.r0=2\/a.r0=3->a.q0=z0
 e1:a.r1=2\/a.r1=3->a.q1=z1
def Pr (w:World) (s:Nat) (a:A) (t:Nat):Prop:=∃ z0 z1,RowM w s a.r0 z0 a.r1 z1/\Vm a z0 z1 t
theorem Pr.only {w w':World} {s t:Nat} {a:A} {G:Nat->Prop} (h:Pr w s a t) (o:Only G w w') (hn:¬ G s):Pr w' s a t:=by
 obtain ⟨z0,z1,hr,hv⟩:=h;exact ⟨z0,z1,hr.only o hn,hv⟩
variable {s t:Nat} {a:A}
theorem Pr.lt (h:Pr w s a t):s < w.heap.size:=by obtain ⟨_,_,hr,_⟩:=h;exact ay hr
def CnewPost (w:World) (e:Ending) (w':World):Prop:=∃ s,e = .returned (.pointer (some ⟨s,0,none⟩))/\Pr w' s new 0/\w.heap.size<=s/\Below w.heap.size w w'
def CdeedPost (w:World) (s:Nat) (x:Int) (a:A) (t:Nat) (e:Ending) (w':World):Prop:=e = .returned (.int .i64 x)/\Pr w' s a t/\Only (fun b=>b=s) w w'
theorem new_any (w:World):Calls prog 24 #[] w (CnewPost w):=by
 have E:Hid (CnewPost w (.returned (.pointer (some ⟨w.heap.size,0,none⟩))) (w.alloc (.cells #[.int .i64 1,.int .i64 0,.int .i64 2,.int .i64 0] 118))):=Hh ⟨_,rfl,⟨0,0,am w _,⟨by decide,by decide,fun _=>rfl,fun _=>rfl⟩⟩,ac _,(aa _ _).alloc (ac _) _⟩
 go_enter func24,ntmps24
 go_wp2
 go_ret
 exact E
def hs (n:Int):Bool:=decide (0<=n) && decide (n < 2)
theorem has_any (w:World) (s:Nat) (n:Int):Calls prog 91 #[.pointer (some ⟨s,0,none⟩),.int .i64 n] w fun e w'=>e = .returned (.bool (hs n))/\Below w.heap.size w w':=by
 have E:Hid (hs n=(decide (0<=n) && decide (n < 2))):=Hh rfl;generalize hs n=b at *
 by_cases h0:0<=n
 ·by_cases h2:n < 2
  ·obtain rfl:b=true:=by rw [E.out];simp [h0,h2]
   clear E
   go_enter func91,ntmps91
   go_wp2
   go_ret
   exact ⟨rfl,aa _ _⟩
  ·obtain rfl:b=false:=by rw [E.out];simp [h2]
   clear E
   go_enter func91,ntmps91
   go_wp2
   go_ret
   exact ⟨rfl,aa _ _⟩
 ·obtain rfl:b=false:=by rw [E.out];simp [h0]
  clear E
  go_enter func91,ntmps91
  go_wp2
  go_ret
  exact ⟨rfl,aa _ _⟩
theorem hs_no {n:Int} (h0:n≠0) (h1:n≠1):hs n=false:=by
 unfold hs
 by_cases a:0<=n
 ·have:¬ n < 2:=by omega
  simp [this]
 ·simp [a]
theorem crash0 (P:Pr w s a t):Calls prog 63 #[.pointer (some ⟨s,0,none⟩),.int .i64 0] w (CdeedPost w s (crE a 0) (crA a 0) t):=by
 obtain ⟨z0,z1,hr,hv⟩:=P;have H:=Hh (has_any w s 0);rw [show hs 0=true from rfl] at H;have e1:crE a 0=if a.r0=4 then 10 else 0:=rfl;have e2:crA a 0 = { a with r0:=4 }:=rfl
 by_cases q:a.r0=4
 ·have E:Hid (∀ w',Below w.heap.size w w'->CdeedPost w s (crE a 0) (crA a 0) t (.returned (.int .i64 10)) w'):=Hh fun w' b=>⟨by rw [e1,aj q],by rw [e2];exact ⟨z0,z1,by have:=hr.below b;rw [q] at this;exact this,⟨hv.b0,hv.b1,(fun g=>absurd g (by show ¬ ((4:Int)=2\/(4:Int)=3);decide)),hv.e1⟩⟩,Only.of_below b⟩
  have R:=Hh hr;rw [q] at R;clear hr hv e1 e2;generalize crE a 0=x at *;generalize crA a 0=a' at *
  go_enter func63,ntmps63
  go_wp2_with fail;refine H.mono ?_;rintro e w1 ⟨rfl,b1⟩;have c0:=Fl.rc (R.below b1) 0;have F:=Hh (E w1 b1);clear R H E b1 q;go_wp2
  go_ret
  exact F
 ·have E:Hid (∀ w',Below w.heap.size w w'->CdeedPost w s (crE a 0) (crA a 0) t (.returned (.int .i64 0)) ((w'.setCell ⟨s,0,none⟩ (.int .i64 4)).setCell ⟨s,1,none⟩ (.int .i64 0))):=Hh fun w' b=>⟨by rw [e1,ah q],by rw [e2];exact ⟨0,z1,((hr.below b).set0 4).set1 0,⟨⟨by decide,by omega⟩,hv.b1,(fun g=>absurd g (by show ¬ ((4:Int)=2\/(4:Int)=3);decide)),hv.e1⟩⟩,((Only.of_below b).trans (only_set s 0 _ _) (fun _ _ q=>q)).trans (only_set s 1 _ _) (fun _ _ q=>q)⟩
  have R:=Hh hr;clear hr hv e1 e2;generalize crE a 0=x' at *;generalize crA a 0=a' at *;generalize a.r0=x0 at *;generalize a.r1=x1 at *
  go_enter func63,ntmps63
  go_wp2_with fail;refine H.mono ?_;rintro e w1 ⟨rfl,b1⟩;have c0:=Fl.rc (R.below b1) 0;have f0:=row_frozen (R.below b1) 0;have f1:=row_frozen (R.below b1) 1;have c1:=Fl.rc (R.below b1) 1;have F:=Hh (E w1 b1);clear R H E b1;go_wp2
  go_ret
  exact F
theorem crash1 (P:Pr w s a t):Calls prog 63 #[.pointer (some ⟨s,0,none⟩),.int .i64 1] w (CdeedPost w s (crE a 1) (crA a 1) t):=by
 obtain ⟨z0,z1,hr,hv⟩:=P;have H:=Hh (has_any w s 1);rw [show hs 1=true from rfl] at H;have e1:crE a 1=if a.r1=4 then 10 else 0:=rfl;have e2:crA a 1 = { a with r1:=4 }:=rfl
 by_cases q:a.r1=4
 ·have E:Hid (∀ w',Below w.heap.size w w'->CdeedPost w s (crE a 1) (crA a 1) t (.returned (.int .i64 10)) w'):=Hh fun w' b=>⟨by rw [e1,aj q],by rw [e2];exact ⟨z0,z1,by have:=hr.below b;rw [q] at this;exact this,⟨hv.b0,hv.b1,hv.e0,(fun g=>absurd g (by show ¬ ((4:Int)=2\/(4:Int)=3);decide))⟩⟩,Only.of_below b⟩
  have R:=Hh hr;rw [q] at R;clear hr hv e1 e2;generalize crE a 1=x at *;generalize crA a 1=a' at *
  go_enter func63,ntmps63
  go_wp2_with fail;refine H.mono ?_;rintro e w1 ⟨rfl,b1⟩;have c0:=Fl.rc (R.below b1) 2;have F:=Hh (E w1 b1);clear R H E b1 q;go_wp2
  go_ret
  exact F
 ·have E:Hid (∀ w',Below w.heap.size w w'->CdeedPost w s (crE a 1) (crA a 1) t (.returned (.int .i64 0)) ((w'.setCell ⟨s,2,none⟩ (.int .i64 4)).setCell ⟨s,3,none⟩ (.int .i64 0))):=Hh fun w' b=>⟨by rw [e1,ah q],by rw [e2];exact ⟨z0,0,((hr.below b).set2 4).set3 0,⟨hv.b0,⟨by decide,by omega⟩,hv.e0,(fun g=>absurd g (by show ¬ ((4:Int)=2\/(4:Int)=3);decide))⟩⟩,((Only.of_below b).trans (only_set s 2 _ _) (fun _ _ q=>q)).trans (only_set s 3 _ _) (fun _ _ q=>q)⟩
  have R:=Hh hr;clear hr hv e1 e2;generalize crE a 1=x' at *;generalize crA a 1=a' at *;generalize a.r0=x0 at *;generalize a.r1=x1 at *
  go_enter func63,ntmps63
  go_wp2_with fail;refine H.mono ?_;rintro e w1 ⟨rfl,b1⟩;have c0:=Fl.rc (R.below b1) 2;have f0:=row_frozen (R.below b1) 2;have f1:=row_frozen (R.below b1) 3;have c1:=Fl.rc (R.below b1) 3;have F:=Hh (E w1 b1);clear R H E b1;go_wp2
  go_ret
  exact F
theorem crash_any (P:Pr w s a t) (n:Int):Calls prog 63 #[.pointer (some ⟨s,0,none⟩),.int .i64 n] w (CdeedPost w s (crE a n) (crA a n) t):=by
 by_cases h0:n=0
 ·subst h0;exact crash0 P
 ·by_cases h1:n=1
  ·subst h1;exact crash1 P
  ·have E:Hid (∀ w',Below w.heap.size w w'->CdeedPost w s (crE a n) (crA a n) t (.returned (.int .i64 1)) w'):=Hh fun w' b=>⟨by unfold crE;rw [ah h0,ah h1],by unfold crA;rw [ah h0,ah h1];exact P.only (G:=fun _=>False) (Only.of_below b) (fun g=>g),Only.of_below b⟩
   have H:=Hh (has_any w s n);rw [hs_no h0 h1] at H;clear P h0 h1
   go_enter func63,ntmps63
   go_wp2_with fail;refine H.mono ?_;rintro e w1 ⟨rfl,b1⟩;have F:=Hh (E w1 b1);clear H E b1;go_wp2
   go_ret
   exact F
theorem restart0 (P:Pr w s a t):Calls prog 64 #[.pointer (some ⟨s,0,none⟩),.int .i64 0] w (CdeedPost w s (rsE a 0) (rsA a 0) t):=by
 obtain ⟨z0,z1,hr,hv⟩:=P;have H:=Hh (has_any w s 0);rw [show hs 0=true from rfl] at H;have e1:rsE a 0=if a.r0=4 then 0 else 10:=rfl;have e2:rsA a 0=if a.r0=4 then { a with r0:=3,q0:=0 } else a:=rfl
 by_cases q:a.r0=4
 ·have E:Hid (∀ w',Below w.heap.size w w'->CdeedPost w s (rsE a 0) (rsA a 0) t (.returned (.int .i64 0)) ((w'.setCell ⟨s,0,none⟩ (.int .i64 3)).setCell ⟨s,1,none⟩ (.int .i64 0))):=Hh fun w' b=>⟨by rw [e1,aj q],by rw [e2,aj q];exact ⟨0,z1,((hr.below b).set0 3).set1 0,⟨⟨by decide,by omega⟩,hv.b1,(fun _=>rfl),hv.e1⟩⟩,((Only.of_below b).trans (only_set s 0 _ _) (fun _ _ q=>q)).trans (only_set s 1 _ _) (fun _ _ q=>q)⟩
  have R:=Hh hr;rw [q] at R;clear hr hv e1 e2;generalize rsE a 0=x at *;generalize rsA a 0=a' at *
  go_enter func64,ntmps64
  go_wp2_with fail;refine H.mono ?_;rintro e w1 ⟨rfl,b1⟩;have c0:=Fl.rc (R.below b1) 0;have f0:=row_frozen (R.below b1) 0;have f1:=row_frozen (R.below b1) 1;have c1:=Fl.rc (R.below b1) 1;have F:=Hh (E w1 b1);clear R H E b1 q;go_wp2
  go_ret
  exact F
 ·have E:Hid (∀ w',Below w.heap.size w w'->CdeedPost w s (rsE a 0) (rsA a 0) t (.returned (.int .i64 10)) w'):=Hh fun w' b=>⟨by rw [e1,ah q],by rw [e2,ah q];exact ⟨z0,z1,hr.below b,hv⟩,Only.of_below b⟩
  have R:=Hh hr;have q4:=bne_iff_ne.2 q;clear hr hv e1 e2 q;generalize rsE a 0=x' at *;generalize rsA a 0=a' at *;generalize a.r0=x0 at *;generalize a.r1=x1 at *
  go_enter func64,ntmps64
  go_wp2_with fail;refine H.mono ?_;rintro e w1 ⟨rfl,b1⟩;have c0:=Fl.rc (R.below b1) 0;have F:=Hh (E w1 b1);clear R H E b1;go_wp2
  go_ret
  exact F
theorem restart1 (P:Pr w s a t):Calls prog 64 #[.pointer (some ⟨s,0,none⟩),.int .i64 1] w (CdeedPost w s (rsE a 1) (rsA a 1) t):=by
 obtain ⟨z0,z1,hr,hv⟩:=P;have H:=Hh (has_any w s 1);rw [show hs 1=true from rfl] at H;have e1:rsE a 1=if a.r1=4 then 0 else 10:=rfl;have e2:rsA a 1=if a.r1=4 then { a with r1:=3,q1:=0 } else a:=rfl
 by_cases q:a.r1=4
 ·have E:Hid (∀ w',Below w.heap.size w w'->CdeedPost w s (rsE a 1) (rsA a 1) t (.returned (.int .i64 0)) ((w'.setCell ⟨s,2,none⟩ (.int .i64 3)).setCell ⟨s,3,none⟩ (.int .i64 0))):=Hh fun w' b=>⟨by rw [e1,aj q],by rw [e2,aj q];exact ⟨z0,0,((hr.below b).set2 3).set3 0,⟨hv.b0,⟨by decide,by omega⟩,hv.e0,(fun _=>rfl)⟩⟩,((Only.of_below b).trans (only_set s 2 _ _) (fun _ _ q=>q)).trans (only_set s 3 _ _) (fun _ _ q=>q)⟩
  have R:=Hh hr;rw [q] at R;clear hr hv e1 e2;generalize rsE a 1=x at *;generalize rsA a 1=a' at *
  go_enter func64,ntmps64
  go_wp2_with fail;refine H.mono ?_;rintro e w1 ⟨rfl,b1⟩;have c0:=Fl.rc (R.below b1) 2;have f0:=row_frozen (R.below b1) 2;have f1:=row_frozen (R.below b1) 3;have c1:=Fl.rc (R.below b1) 3;have F:=Hh (E w1 b1);clear R H E b1 q;go_wp2
  go_ret
  exact F
 ·have E:Hid (∀ w',Below w.heap.size w w'->CdeedPost w s (rsE a 1) (rsA a 1) t (.returned (.int .i64 10)) w'):=Hh fun w' b=>⟨by rw [e1,ah q],by rw [e2,ah q];exact ⟨z0,z1,hr.below b,hv⟩,Only.of_below b⟩
  have R:=Hh hr;have q4:=bne_iff_ne.2 q;clear hr hv e1 e2 q;generalize rsE a 1=x' at *;generalize rsA a 1=a' at *;generalize a.r0=x0 at *;generalize a.r1=x1 at *
  go_enter func64,ntmps64
  go_wp2_with fail;refine H.mono ?_;rintro e w1 ⟨rfl,b1⟩;have c0:=Fl.rc (R.below b1) 2;have F:=Hh (E w1 b1);clear R H E b1;go_wp2
  go_ret
  exact F
theorem restart_any (P:Pr w s a t) (n:Int):Calls prog 64 #[.pointer (some ⟨s,0,none⟩),.int .i64 n] w (CdeedPost w s (rsE a n) (rsA a n) t):=by
 by_cases h0:n=0
 ·subst h0;exact restart0 P
 ·by_cases h1:n=1
  ·subst h1;exact restart1 P
  ·have E:Hid (∀ w',Below w.heap.size w w'->CdeedPost w s (rsE a n) (rsA a n) t (.returned (.int .i64 1)) w'):=Hh fun w' b=>⟨by unfold rsE;rw [ah h0,ah h1],by unfold rsA;rw [ah h0,ah h1];exact P.only (G:=fun _=>False) (Only.of_below b) (fun g=>g),Only.of_below b⟩
   have H:=Hh (has_any w s n);rw [hs_no h0 h1] at H;clear P h0 h1
   go_enter func64,ntmps64
   go_wp2_with fail;refine H.mono ?_;rintro e w1 ⟨rfl,b1⟩;have F:=Hh (E w1 b1);clear H E b1;go_wp2
   go_ret
   exact F
theorem role_at {x:Int} (k:Nat) (hk:k < 2) (c:∀ w',Below w.heap.size w w'->w'.cell? ⟨s,2 * k,none⟩=some (.int .i64 x)):Calls prog 146 #[.pointer (some ⟨s,0,none⟩),.int .i64 (k:Int)] w fun e w'=>e = .returned (.int .i64 x)/\Below w.heap.size w w':=by
 have H:=Hh (has_any w s k)
 rcases (by omega:k=0\/k=1) with rfl | rfl
 ·rw [show hs ((0:Nat):Int)=true from rfl] at H
  go_enter func146,ntmps146
  go_wp2_with fail;refine H.mono ?_;rintro e w1 ⟨rfl,b1⟩;have c0:=c w1 b1;have B1:=Hh b1;clear H b1 c;go_wp2
  go_ret
  exact ⟨rfl,B1⟩
 ·rw [show hs ((1:Nat):Int)=true from rfl] at H
  go_enter func146,ntmps146
  go_wp2_with fail;refine H.mono ?_;rintro e w1 ⟨rfl,b1⟩;have c0:=c w1 b1;have B1:=Hh b1;clear H b1 c;go_wp2
  go_ret
  exact ⟨rfl,B1⟩
theorem role_any (P:Pr w s a t) (n:Int):Calls prog 146 #[.pointer (some ⟨s,0,none⟩),.int .i64 n] w fun e w'=>e = .returned (.int .i64 (rl a n))/\Below w.heap.size w w':=by
 obtain ⟨z0,z1,hr,hv⟩:=P
 by_cases h0:n=0
 ·subst h0
  exact role_at 0 (by decide) fun w' b=>row_cell (hr.below b) 0
 ·by_cases h1:n=1
  ·subst h1
   exact role_at 1 (by decide) fun w' b=>row_cell (hr.below b) 2
  ·have H:=Hh (has_any w s n)
   rw [hs_no h0 h1] at H;have E:Hid (rl a n=0):=Hh (by unfold rl;rw [ah h0,ah h1]);clear hr hv h0 h1;generalize rl a n=x at *;obtain rfl:=E.out;clear E
   go_enter func146,ntmps146
   go_wp2_with fail;refine H.mono ?_;rintro e w1 ⟨rfl,b1⟩;have B1:=Hh b1;clear H b1;go_wp2
   go_ret
   exact ⟨rfl,B1⟩
def du (r z n:Int):Bool:=(decide (r=2) && decide (4<=z)) || (decide (r=3) && decide (8+n<=z))
theorem due_any (w:World) (r z n:Int) (hn:0<=n/\n<=1):Calls prog 111 #[.agg #[.int .i64 r,.int .i64 z],.int .i64 n] w fun e w'=>e = .returned (.bool (du r z n))/\Below w.heap.size w w':=by
 have E:Hid (du r z n=((decide (r=2) && decide (4<=z)) || (decide (r=3) && decide (8+n<=z)))):=Hh rfl;have w8:IntKind.i64.wrap (8+n)=8+n:=aR _ (by omega);have B:Hid (Below w.heap.size w (w.alloc (.cells #[.int .i64 r,.int .i64 z] 115))):=Hh ((aa _ _).alloc (ac _) _);generalize du r z n=b at *
 by_cases h2:r=2
 ·subst h2
  obtain rfl:b=decide (4<=z):=by rw [E.out];simp
  clear E
  go_enter func111,ntmps111
  go_wp2
  go_ret
  exact ⟨rfl,B⟩
 ·by_cases h3:r=3
  ·subst h3
   obtain rfl:b=decide (8+n<=z):=by rw [E.out];simp
   clear E h2
   go_enter func111,ntmps111
   go_wp2
   go_ret
   exact ⟨rfl,B⟩
  ·obtain rfl:b=false:=by rw [E.out];simp [h2,h3]
   have q2:=aY.2 h2;have q3:=aY.2 h3;clear E h2 h3
   go_enter func111,ntmps111
   go_wp2
   go_ret
   exact ⟨rfl,B⟩
end Wt
namespace Cu
open Go.RowKit Go.Maps
open Fs (ow_only)
structure Nd where
 s:Nat
 live:Bool
 rate:Int
def ndD:Nd:=⟨0,false,0⟩
def KD:Rw.Kind Nd:=⟨fun x=>[ptr x.s,.bool x.live,.int .i64 x.rate],3,by decide,fun _=>rfl,fun _ u h=>by simp [ptr] at h;rcases h with rfl | rfl | rfl <;> rfl,ndD⟩
def nda (L:List Nd) (i:Nat):Nd:=L.getD i ndD
theorem infoD:(prog.info? 78).map (fun i=>(i.zero,i.size,i.bytes))=some (some (.agg #[.pointer none,.bool false,.int .i64 0]),3,24):=by kernel_rfl
variable {b off i:Nat} {L:List Nd}
theorem atD {w:World} (h:At KD w b off L) (hi:i < L.length):w.cell? ⟨b,off+i * 3,none⟩=some (ptr (nda L i).s)/\w.cell? ⟨b,off+i * 3+1,none⟩=some (.bool (nda L i).live)/\w.cell? ⟨b,off+i * 3+2,none⟩=some (.int .i64 (nda L i).rate) :=
 ⟨h i hi 0 _ rfl,h i hi 1 _ rfl,h i hi 2 _ rfl⟩
theorem nda_set (hi:i < L.length) (x:Nd) (j:Nat):nda (L.set i x) j=if j=i then x else nda L j:=by
 unfold nda;rw [af,af,cQ]
 by_cases e:j=i
 ·subst e;rw [aj rfl,aj rfl,aj hi];rfl
 ·rw [ah (by omega),ah e]
structure Cl (w:World) (s:Nat) (F:Nat->Prop) (c:Cs) (t:Nat) (vn:Value) (L:List Nd) (p:Nat) (vq:Value) (Fs:Nat->Nat->Prop):Prop where
 row:w.heap[s]? = some (.cells #[vn,ptr p,.int .i64 c.pl,vq] 73 (0,0))
 no:Ow KD w 0 78 vn L
 len:L.length=c.S.length
 st:∀ i,i < L.length->St w (nda L i).s (Fs i) (sat c.S i).1 (sat c.S i).2
 lv:∀ i:Nat,i < L.length->(nda L i).live=vat c.V i
 rt:∀ i,i < L.length->-2000<=(nda L i).rate/\(nda L i).rate<=2000
 pr:Wt.Pr w p c.P t
 sp:Ow K2 w 0 96 vq c.Q
 fs:F s
 fp:F p
 fv:∀ k,vn.ownBlock=some k\/vq.ownBlock=some k->F k
 ff:∀ i,i < L.length->∀ k,Fs i k->F k
 dis:∀ i j,i < L.length->j < L.length->i≠j->∀ k,Fs i k->¬ Fs j k
 off:∀ i,i < L.length->∀ k,Fs i k->k≠s/\k≠p/\vn.ownBlock≠some k/\vq.ownBlock≠some k
 low:∀ k,F k->k < w.heap.size
def ClE (w:World) (s:Nat) (F:Nat->Prop) (c:Cs) (t:Nat):Prop:=∃ vn L p vq Fs,Cl w s F c t vn L p vq Fs
section
variable {s t p:Nat} {F G:Nat->Prop} {c:Cs} {vn vq:Value} {L:List Nd} {Fs:Nat->Nat->Prop} {w w':World}
theorem Cl.slt (h:Cl w s F c t vn L p vq Fs):s < w.heap.size:=ay h.row
variable {a P:Wt.A}
theorem pr_row (h:Wt.Pr w p a t):∃ cs,w.heap[p]? = some (.cells cs 118 (0,0)):=by obtain ⟨_,_,h,_⟩:=h;exact ⟨_,h⟩
theorem Cl.sp_ne (h:Cl w s F c t vn L p vq Fs):s≠p:=fun e=>by
 obtain ⟨cs,hp⟩:=pr_row h.pr;have:=h.row;rw [e,hp] at this;injection this with this;injection this with _ h2 _;exact absurd h2 (by decide)
theorem Cl.vs (h:Cl w s F c t vn L p vq Fs):vn.ownBlock≠some s/\vq.ownBlock≠some s:=⟨h.no.apart h.row (by decide),h.sp.apart h.row (by decide)⟩
theorem Cl.vp (h:Cl w s F c t vn L p vq Fs):vn.ownBlock≠some p/\vq.ownBlock≠some p:=by
 obtain ⟨cs,hp⟩:=pr_row h.pr;exact ⟨h.no.apart hp (by decide),h.sp.apart hp (by decide)⟩
theorem Cl.vv (h:Cl w s F c t vn L p vq Fs):∀ k,vn.ownBlock=some k->vq.ownBlock≠some k:=fun k hk=>by
 obtain ⟨_,g⟩:=h.no
 rcases g with ⟨rfl,_⟩ | ⟨b,cap,cur,rfl,_,hh,_⟩
 ·simp [Value.ownBlock] at hk
 ·simp only [Value.ownBlock,bY] at hk
  subst hk;exact h.sp.apart hh (by decide)
theorem Cl.only (h:Cl w s F c t vn L p vq Fs) (hn:∀ k,F k->¬ G k) (o:Only G w w'):Cl w' s F c t vn L p vq Fs :=
 ⟨(o.block s h.slt (hn s h.fs)).trans h.row,ow_only h.no (fun k e=>hn k (h.fv k (.inl e))) o,h.len,fun i hi=>(h.st i hi).only (fun k g=>hn k (h.ff i hi k g)) o,h.lv,h.rt,h.pr.only o (hn p h.fp),ow_only h.sp (fun k e=>hn k (h.fv k (.inr e))) o,h.fs,h.fp,h.fv,h.ff,h.dis,h.off,fun k g=>aV (h.low k g) o.size⟩
theorem Cl.below (h:Cl w s F c t vn L p vq Fs) (b:Below w.heap.size w w'):Cl w' s F c t vn L p vq Fs:=h.only (G:=fun _=>False) (fun _ _ g=>g) (Only.of_below b)
theorem Cl.wide (h:Cl w s F c t vn L p vq Fs) (hF:∀ k,F k->G k) (hl:∀ k,G k->k < w.heap.size):Cl w s G c t vn L p vq Fs :=
 ⟨h.row,h.no,h.len,h.st,h.lv,h.rt,h.pr,h.sp,hF s h.fs,hF p h.fp,fun k g=>hF k (h.fv k g),fun i hi k g=>hF k (h.ff i hi k g),h.dis,h.off,hl⟩
theorem Cl.fx (w0:World) (h:Cl w s F c t vn L p vq Fs):Cl w s (Fx F w0 w) c t vn L p vq Fs:=h.wide (fun k g=>.inl g) fun k g=>by
 rcases g with g | g
 ·exact h.low k g
 ·exact g.2
theorem Cl.cells (h:Cl w s F c t vn L p vq Fs):w.cell? ⟨s,0,none⟩=some vn/\w.cell? ⟨s,1,none⟩=some (ptr p)/\w.cell? ⟨s,2,none⟩=some (.int .i64 c.pl)/\w.cell? ⟨s,3,none⟩=some vq:=⟨row_cell h.row 0,row_cell h.row 1,row_cell h.row 2,row_cell h.row 3⟩
theorem Cl.frz (h:Cl w s F c t vn L p vq Fs) (k:Nat):w.frozen? ⟨s,k,none⟩=false:=row_frozen h.row k
theorem Cl.pair (h:Cl w s F c t vn L p vq Fs) {t':Nat} (o:Only (fun k=>k=p) w w') (hp:Wt.Pr w' p P t'):Cl w' s F { c with P:=P } t' vn L p vq Fs :=
 ⟨(o.block s h.slt h.sp_ne).trans h.row,ow_only h.no (fun k e g=>h.vp.1 (by rw [e,g])) o,h.len,fun i hi=>(h.st i hi).only (fun k g e=>(h.off i hi k g).2.1 e) o,h.lv,h.rt,hp,ow_only h.sp (fun k e g=>h.vp.2 (by rw [e,g])) o,h.fs,h.fp,h.fv,h.ff,h.dis,h.off,fun k g=>aV (h.low k g) o.size⟩
theorem pr_late (h:Wt.Pr w p a t):Wt.Pr w p a (t+1):=by
 obtain ⟨z0,z1,hr,hv⟩:=h;exact ⟨z0,z1,hr,⟨by have:=hv.b0;omega,by have:=hv.b1;omega,hv.e0,hv.e1⟩⟩
theorem Cl.late (h:Cl w s F c t vn L p vq Fs):Cl w s F c (t+1) vn L p vq Fs:=⟨h.row,h.no,h.len,h.st,h.lv,h.rt,pr_late h.pr,h.sp,h.fs,h.fp,h.fv,h.ff,h.dis,h.off,h.low⟩
theorem Cl.place (h:Cl w s F c t vn L p vq Fs) (n:Nat):Cl (w.setCell ⟨s,2,none⟩ (.int .i64 n)) s F { c with pl:=n } t vn L p vq Fs:=by
 have o:Only (fun k=>k=s) w (w.setCell ⟨s,2,none⟩ (.int .i64 n)):=Only.set (fun k=>k=s) w (a:=⟨s,2,none⟩) rfl _;have rw_:(w.setCell ⟨s,2,none⟩ (.int .i64 n)).heap[s]? = some (.cells #[vn,ptr p,.int .i64 n,vq] 73 (0,0)):=Rw.heap_setCell_same (j:=2) h.row _;exact ⟨rw_,ow_only h.no (fun k e g=>h.vs.1 (by rw [e,g])) o,h.len,fun i hi=>(h.st i hi).only (fun k g e=>(h.off i hi k g).1 e) o,h.lv,h.rt,h.pr.only o (fun e=>h.sp_ne e.symm),ow_only h.sp (fun k e g=>h.vs.2 (by rw [e,g])) o,h.fs,h.fp,h.fv,h.ff,h.dis,h.off,fun k g=>aV (h.low k g) o.size⟩
theorem Cl.spoils (h:Cl w s F c t vn L p vq Fs) {v:Value} {Q:List S2} (hq:Ow K2 w 0 96 v Q) (hF:∀ k,v.ownBlock=some k->F k) (hn:∀ i,i < L.length->∀ k,Fs i k->v.ownBlock≠some k):Cl (w.setCell ⟨s,3,none⟩ v) s F { c with Q:=Q } t vn L p v Fs:=by
 have o:Only (fun k=>k=s) w (w.setCell ⟨s,3,none⟩ v):=Only.set (fun k=>k=s) w (a:=⟨s,3,none⟩) rfl _;have rw_:(w.setCell ⟨s,3,none⟩ v).heap[s]? = some (.cells #[vn,ptr p,.int .i64 c.pl,v] 73 (0,0)):=Rw.heap_setCell_same (j:=3) h.row _;refine ⟨rw_,ow_only h.no (fun k e g=>h.vs.1 (by rw [e,g])) o,h.len,fun i hi=>(h.st i hi).only (fun k g e=>(h.off i hi k g).1 e) o,h.lv,h.rt,h.pr.only o (fun e=>h.sp_ne e.symm),ow_only hq (fun k e g=>hq.apart h.row (by decide) (by rw [e,g])) o,h.fs,h.fp,fun k g=>?_,h.ff,h.dis,fun i hi k g=>?_,fun k g=>aV (h.low k g) o.size⟩
 ·rcases g with g | g
  ·exact h.fv k (.inl g)
  ·exact hF k g
 ·have:=h.off i hi k g
  exact ⟨this.1,this.2.1,this.2.2.1,hn i hi k g⟩
theorem Cl.store (h:Cl w s F c t vn L p vq Fs) (hi:i < L.length) {x:Abs×Int} (hs:St w' (nda L i).s (Fx (Fs i) w w') x.1 x.2) (o:Only (Fs i) w w'):Cl w' s (Fx F w w') { c with S:=setS c.S i x } t vn L p vq (fun j=>if j=i then Fx (Fs i) w w' else Fs j):=by
 have of:=h.off i hi;have hz:=o.size;have lt:∀ j,j < L.length->∀ k,Fs j k->k < w.heap.size:=fun j hj=>(h.st j hj).low;have vl:∀ k,vn.ownBlock=some k\/vq.ownBlock=some k->k < w.heap.size:=fun k g=>h.low k (h.fv k g);refine ⟨(o.block s h.slt fun g=>(of s g).1 rfl).trans h.row,ow_only h.no (fun k e g=>(of k g).2.2.1 e) o,by show L.length=(setS c.S i x).length;rw [h.len];exact List.length_set.symm,fun j hj=>?_,h.lv,h.rt,h.pr.only o (fun g=>(of p g).2.1 rfl),ow_only h.sp (fun k e g=>(of k g).2.2.2 e) o,.inl h.fs,.inl h.fp,fun k g=>.inl (h.fv k g),fun j hj k g=>?_,fun a b ha hb hab k g=>?_,fun j hj k g=>?_,Fx.low h.low hz⟩
 ·show St w' _ _ (sat (setS c.S i x) j).1 (sat (setS c.S i x) j).2
  rw [sat_set (by omega) (by have:=h.len;omega)]
  by_cases e:j=i
  ·subst e
   rw [aj rfl,aj rfl];exact hs
  ·rw [ah e,ah (by omega)]
   exact (h.st j hj).only (fun k g q=>h.dis j i hj hi e k g q) o
 ·by_cases e:j=i
  ·rw [aj e] at g
   rcases g with g | g
   ·exact .inl (h.ff i hi k g)
   ·exact .inr g
  ·rw [ah e] at g
   exact .inl (h.ff j hj k g)
 ·by_cases ea:a=i
  ·rw [aj ea] at g
   rw [ah (fun q=>hab (ea.trans q.symm))]
   rcases g with g | g
   ·exact h.dis i b hi hb (fun q=>hab (ea.trans q)) k g
   ·intro q;have:=lt b hb k q;omega
  ·rw [ah ea] at g
   by_cases eb:b=i
   ·rw [aj eb]
    rintro (q | q)
    ·exact h.dis a i ha hi ea k g q
    ·have:=lt a ha k g;omega
   ·rw [ah eb]
    exact h.dis a b ha hb hab k g
 ·by_cases e:j=i
  ·rw [aj e] at g
   rcases g with g | g
   ·exact of k g
   ·have a1:=h.slt
    have a2:=h.pr.lt;exact ⟨by omega,by omega,fun q=>by have:=vl k (.inl q);omega,fun q=>by have:=vl k (.inr q);omega⟩
  ·rw [ah e] at g
   exact h.off j hj k g
theorem Cl.node (h:Cl w s F c t vn L p vq Fs) {g:Nat} (hg:vn.ownBlock=some g) {L':List Nd} {V:List Bool} (o:Only (fun k=>k=g) w w') (hno:Ow KD w' 0 78 vn L') (hl:L'.length=L.length) (hs:∀ i,i < L.length->(nda L' i).s=(nda L i).s) (hv:∀ i:Nat,i < L.length->(nda L' i).live=vat V i) (hr:∀ i,i < L.length->-2000<=(nda L' i).rate/\(nda L' i).rate<=2000):Cl w' s F { c with V:=V } t vn L' p vq Fs:=by
 refine ⟨(o.block s h.slt fun e=>h.vs.1 (by rw [hg,e])).trans h.row,hno,hl.trans h.len,fun i hi=>?_,fun i hi=>hv i (by omega),fun i hi=>hr i (by omega),h.pr.only o (fun e=>h.vp.1 (by rw [hg,e])),ow_only h.sp (fun k e q=>h.vv g hg (by rw [e,q])) o,h.fs,h.fp,h.fv,fun i hi=>h.ff i (by omega),fun i j hi hj=>h.dis i j (by omega) (by omega),fun i hi=>h.off i (by omega),fun k q=>aV (h.low k q) o.size⟩;rw [hs i (by omega)];exact (h.st i (by omega)).only (fun k q e=>(h.off i (by omega) k q).2.2.1 (by rw [hg,e])) o
end
def DoC (w:World) (s:Nat) (F:Nat->Prop) (c:Cs) (t:Nat) (x:Int) (e:Ending) (w':World):Prop:=e = .returned (.int .i64 x)/\ClE w' s (Fx F w w') c t/\Only F w w'
section
variable {s t:Nat} {F:Nat->Prop} {c:Cs} {w w1 w':World}
theorem DoC.late {x:Int} {e:Ending} (h:DoC w s F c t x e w'):DoC w s F c (t+1) x e w':=by
 obtain ⟨h1,⟨vn,L,p,vq,Fs,h2⟩,h3⟩:=h;exact ⟨h1,⟨vn,L,p,vq,Fs,h2.late⟩,h3⟩
variable {x:Int} {e:Ending}
theorem DoC.preO (h:DoC w1 s F c t x e w') (o:Only F w w1) (low:∀ k,F k->k < w.heap.size):DoC w s F c t x e w':=by
 obtain ⟨h1,⟨vn,L,p,vq,Fs,h2⟩,h3⟩:=h;have z1:=o.size;have z2:=h3.size;refine ⟨h1,⟨vn,L,p,vq,Fs,h2.wide (fun k g=>?_) (fun k g=>?_)⟩,o.trans h3 fun _ _ g=>g⟩
 ·rcases g with g | g
  ·exact .inl g
  ·exact .inr ⟨by omega,g.2⟩
 ·rcases g with g | g
  ·have:=low k g;omega
  ·exact g.2
theorem DoC.pre (h:DoC w1 s F c t x e w') (b:Below w.heap.size w w1) (low:∀ k,F k->k < w.heap.size):DoC w s F c t x e w':=h.preO (Only.of_below b) low
end
end Cu
