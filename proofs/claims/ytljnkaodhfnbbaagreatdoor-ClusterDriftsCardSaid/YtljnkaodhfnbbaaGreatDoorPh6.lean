import Derived.Test.YtljnkaodhfnbbaaGreatDoorPh4
import Derived.Test.YtljnkaodhfnbbaaGreatDoorPh5
import Derived.Deep.Cut
import Derived.Test.YtljnkaodhfnbbaaGreatDoorPh1
import Derived.Test.YtljnkaodhfnbbaaGreatDoorChecked
import Derived.Great.BuildSlice
import Derived.ProofKit
import Derived.OpenShut
import Derived.ChangeOld
import Derived.Deep.Slices
import Derived.WideShapes
import Derived.Test.YtljnkaodhfnbbaaGreatDoorRows
import Derived.LaidHandle
import Derived.LaidLaws
import Derived.LaidMore
import Derived.Stop.Joined
import Derived.Test.YtljnkaodhfnbbaaGreatDoorPh2
import Derived.Deep.CutRange
import Derived.Test.YtljnkaodhfnbbaaGreatDoorPh3
set_option maxRecDepth 100000
namespace Go.Proofs.YtljnkaodhfnbbaaGreatDoor.Pa
open Go.RowKit Go.Maps
open Fs (Abs Wf Glob copy_any CopySt grown_of)
open Rw (Rd Ow At)
open Ro (E5 z5 eat K5 okE may_len)
open Fl (row_cell row_frozen)
open Ck (LL lat sN sE tE RdL may_all)
attribute [local irreducible] Sd.wpSd wpQuiet
def hUp (S:Sts) (T:LL) (V:List Bool) (P:List S2) (k:Nat):Hr:=fun n=>if 1≤n∧n < k∧hrB S T V P n=true then some (hrV S T V P n) else none
section
variable {S:Sts} {T:LL} {V:List Bool} {P:List S2}
theorem hUp_one:hUp S T V P 1=fun _=>none:=funext fun n=>by unfold hUp;rw [if_neg (by omega)]
theorem hUp_yes {k:Nat} (h1:1≤k) (h:hrB S T V P k=true):hput (hUp S T V P k) k (hrV S T V P k)=hUp S T V P (k+1):=funext fun n=>by
 unfold hput hUp
 by_cases e:n=k
 ·subst e
  rw [if_pos rfl,if_pos ⟨by omega,by omega,h⟩]
 ·rw [if_neg e]
  by_cases g:1≤n∧n < (k:Int)∧hrB S T V P n=true
  ·rw [if_pos g,if_pos ⟨g.1,by omega,g.2.2⟩]
  ·rw [if_neg g,if_neg fun q=>g ⟨q.1,by omega,q.2.2⟩]
theorem hUp_no {k:Nat} (h:hrB S T V P k=false):hUp S T V P k=hUp S T V P (k+1):=funext fun n=>by
 unfold hUp
 by_cases g:1≤n∧n < (k:Int)∧hrB S T V P n=true
 ·rw [if_pos g,if_pos ⟨g.1,by omega,g.2.2⟩]
 ·rw [if_neg g,if_neg fun q=>by
   by_cases e:n=k
   ·subst e;rw [h] at q;cases q.2.2
   ·exact g ⟨q.1,by omega,q.2.2⟩]
theorem hUp_end:hUp S T V P 17=hr S T V P:=funext fun n=>by
 unfold hUp hr
 by_cases g:1≤n∧n < ((17:Nat):Int)∧hrB S T V P n=true
 ·rw [if_pos g,if_pos ⟨g.1,by omega,g.2.2⟩]
 ·rw [if_neg g,if_neg fun q=>g ⟨q.1,by omega,q.2.2⟩]
end
structure H1 (w:World) (b k:Nat) (h:Hr) (wr:World):Prop where
 mp:∃ N,HBl wr b N h∧N≤k
 lo:w.heap.size≤b
 bel:Below w.heap.size w wr
theorem H1.below {w wr wr':World} {b k:Nat} {h:Hr} (H:H1 w b k h wr) (hb:Below wr.heap.size wr wr'):H1 w b k h wr':=by
 obtain ⟨⟨N,m,hN⟩,lo,bel⟩:=H;exact ⟨⟨N,m.below hb,hN⟩,lo,bel.trans (hb.mono bel.size)⟩
def rdL (S:Sts) (T:LL) (V:List Bool) (P:List S2):Sts:=if rdE S T V=0 then rdS S T V (hr S T V P) else []
def RoundPost (w:World) (E:Int) (S':Sts) (e:Ending) (w':World):Prop:=∃ v,e = .returned (.tuple #[v,.int .i64 E])∧Stl w' v S'∧Below w.heap.size w w'
theorem stl_nil (w:World):Stl w (.slice none 0 0) []:=⟨[],Rd.nil w,rfl,fun i hi=>by cases hi⟩
set_option maxHeartbeats 1000000 in
theorem round_any {w:World} {vs vt vl vp:Value} {S:Sts} {T:LL} {V:List Bool} {P:List S2} (HS:Stl w vs S) (HT:RdL w vt T) (HV:Rd KB w vl V) (RP:Rd K2 w vp P) (hg:Glob w) (hd:∀ i,i < S.length→0≤(sat S i).2∧(sat S i).2 < 900000) :
 Calls Tryz.prog 79 #[vs,vt,vl,vp] w (RoundPost w (rdE S T V) (rdL S T V P)):=by
 have FA:Hid (Calls Tryz.prog 139 #[vs,vt,vl] w fun e w'=>e = .returned (.int .i64 (rdE S T V))∧Below w.heap.size w w'):=Lib.hid (by
  obtain ⟨ps,h1,h2,_⟩:=HS;have:=fault_any w vs vt vl (ps.map some) T V (rd_some h1) HT HV;have e:fE (ps.map some) T V=rdE S T V:=by
   unfold fE rdE;rw [nB_some,List.length_map,h2];simp only [true_and]
  rw [e] at this
  exact this)
 by_cases hE:rdE S T V=0
 ·have hcond:1≤S.length∧S.length≤32∧T.length=S.length∧V.length=S.length∧tE T=0:=by
   unfold rdE at hE
   split at hE
   ·rename_i h
    exact ⟨h.1,h.2.1,h.2.2.1,h.2.2.2,hE⟩
   ·omega
  have NS:Hid (Ns w vs vt vl S T V):=Lib.hid ⟨HS,HT,HV,hcond.2.2.1,hcond.2.2.2.1,hcond.2.2.2.2⟩;have RR:=Lib.hid RP;have GG:=Lib.hid hg;have DD:=Lib.hid hd;have EL:Hid (rdL S T V P=rdS S T V (hr S T V P)):=Lib.hid (if_pos hE);rw [hE] at FA;rw [hE,EL.out];have HR:Hid (∀ s,Calls Tryz.prog 32 #[vs,vt,vl,vp,.int .i64 s] w (HrdPost w (hrV S T V P s) (hrB S T V P s))):=Lib.hid (fun s=>heard_any NS.out RP s);have HE:=Lib.hid (fun W b s=>heard_any (NS.out.below (w':=W) b) (RP.below b) s);obtain ⟨sa,cs,rfl,hms⟩:=HS.slice;clear HS HT HV RP hg hd hE HR;generalize hn:S.length=n at *;have HN:=Lib.hid hn;clear hn;have hmm:=@run_makeMap Tryz.prog
  go_enter Tryz.func79,Tryz.ntmps79
  go_wp2_with fail;refine FA.out.mono ?_;rintro e w1 ⟨rfl,b1⟩;have M0:Hid (H1 w w1.heap.size 0 (hUp S T V P 1) (w1.alloc (.map #[] 0))):=Lib.hid ⟨⟨0,by rw [hUp_one];exact hbl_new w1,Nat.le_refl _⟩,b1.size,b1.alloc b1.size _⟩;clear b1 FA;go_wp2;clear hmm;generalize (w1.alloc (.map #[] 0))=W0 at *;generalize w1.heap.size=b at *
  go_loopw [12] (fun i wr=>∃ k:Nat,1≤k∧k≤17∧i = .int .i64 k∧Hid (H1 w b k (hUp S T V P k) wr)) (fun i _=>17 - (intOf i).toNat)
  case atStart=>exact ⟨1,by omega,by omega,rfl,⟨by obtain ⟨N,m,h⟩:=M0.out.mp;exact ⟨N,m,by omega⟩,M0.out.lo,M0.out.bel⟩⟩
  case round =>
   obtain ⟨k,hk1,hk,rfl,I⟩:=hrel;clear M0
   by_cases hlt:k < 17
   ·have HK:=Lib.hid (HE.out wr I.out.bel (k:Int))
    have YY:=Lib.hid (fun h=>hUp_yes (S:=S) (T:=T) (V:=V) (P:=P) (k:=k) hk1 h);have NN:=Lib.hid (fun h=>hUp_no (S:=S) (T:=T) (V:=V) (P:=P) (k:=k) h);have WK:=Lib.hid (wf_of (n:=(k:Int)) ⟨by omega,by omega⟩);unfold HrdPost at HK;go_wp2_with fail;refine HK.out.mono ?_;rintro e w2 ⟨rfl,b2⟩;have I2:=Lib.hid (I.out.below b2);clear b2 I HK;generalize hrV S T V P (k:Int)=y at *
    cases hh:hrB S T V P (k:Int) with
    | false =>
      have EQ:=Lib.hid (NN.out hh);have I3:Hid (H1 w b (k+1) (hUp S T V P (k+1)) w2):=Lib.hid ⟨by obtain ⟨N,m,h⟩:=I2.out.mp;exact ⟨N,by rw [← EQ.out];exact m,by omega⟩,I2.out.lo,I2.out.bel⟩;clear YY NN I2 EQ hh;go_wp2
      go_roundw
      case rel=>exact ⟨k+1,by omega,by omega,by go_num,I3⟩
      case measure=>simp [intOf];omega
    | true =>
      have EQ:=Lib.hid (YY.out hh);obtain ⟨N,m,hN⟩:=I2.out.mp;have M2:=Lib.hid m;have LO:=Lib.hid I2.out.lo;have BE:=Lib.hid I2.out.bel;clear YY NN hh m I2
      go_wp2_with (first
       | (at_mapUpdate;refine at_hput rfl _ _ _ rfl rfl M2.out (by unfold maxLen;omega) (k:Int) y rfl rfl WK.out ?_;intro w4 m4 g4)
       | fail)
      have I3:Hid (H1 w b (k+1) (hUp S T V P (k+1)) w4):=Lib.hid ⟨⟨N+1,by rw [← EQ.out];exact m4,by omega⟩,LO.out,BE.out.grown g4 BE.out.size (fun j e=>by injection e with e;have:=LO.out;omega)⟩;clear m4 g4 M2 EQ BE LO;go_wp2
      go_roundw
      case rel=>exact ⟨k+1,by omega,by omega,by go_num,I3⟩
      case measure=>simp [intOf];omega
   ·have e17:k=17:=by omega
    rw [e17,hUp_end] at I;clear e17;have HM:Hid (∀ W,Below wr.heap.size wr W→HMap W (.map (some b)) (hr S T V P)):=Lib.hid (fun W hb=>by obtain ⟨⟨N,m,_⟩,_,_⟩:=I.out;exact ⟨b,N,rfl,m.below hb⟩);have BW:=Lib.hid I.out.bel;have OH:=Lib.hid (hr_ok S T V P);clear I HE;generalize hr S T V P=h at *;have AT:=Lib.hid (fun i hi=>rdS_at S T V h (i:=i) hi);have RL:=Lib.hid (rdS_len S T V h);generalize rdS S T V h=S' at *;clear EL;go_wp2;clear hk1 hk hlt;generalize (k:Int)=kk at *
    rename World=>wA
    go_loopw [45,15] (fun i o wr2=>∃ (k:Nat) (ps:List Nat),k≤n∧i = .int .i64 k∧Hid (PI SAp 89 wA S' k o ps wr2)) (fun i _ _=>n - (intOf i).toNat)
    case atStart=>exact ⟨0,[],Nat.zero_le _,rfl,PI.start wA (Below.refl _ _)⟩
    case round =>
     obtain ⟨k,ps,hk,rfl,I⟩:=hrel;have BI:=Lib.hid (BW.out.trans (I.out.bel.mono BW.out.size));obtain ⟨av,cv,ev,_⟩:=I.out.own.slice;have OWN:=Lib.hid I.out.own;generalize ps.length=Lp at ev;subst ev
     by_cases hlt:k < n
     ·have N1:=Lib.hid (NS.out.below BI.out)
      obtain ⟨b1,o1,c1,s,e1,cS,hS⟩:=N1.out.st.one (k:=k) (by have:=HN.out;omega);rw [HN.out] at e1;injection e1 with e1 _ e2;subst e1 e2;obtain ⟨b2,o2,c2,at',ct,e2,cT,_,_⟩:=N1.out.tb.one (k:=k) (by omega);have RT:=Lib.hid (N1.out.tb.rd (k:=k) (by omega) e2 cT);rw [hcond.2.2.1] at e2;subst e2;obtain ⟨a3,c3,e3,_,_,h3⟩:=N1.out.lv;rw [hcond.2.2.2.1] at e3;subst e3;obtain ⟨b3,o3,rfl,A3⟩:=h3 (by omega);have cV:=atB A3 (i:=k) (by omega);rw [show V.getD k false=vat V k from rfl] at cV;have EA:=Lib.hid (AT.out k (by have:=HN.out;omega));have OKT:=Lib.hid (tab_each N1.out.ok (k:=k) (by omega));have ML:=Lib.hid (may_len (may_all (not_bad N1.out.ok) k (by omega)));have HS2:=Lib.hid hS;clear hS h3 A3 N1;unfold ptr at cS
      cases hv:vat V k with
      | true =>
        rw [hv] at cV;have AP:=Lib.hid (apply_any HS2.out (GG.out.below BI.out) (DD.out k (by omega)) RT.out (fun y hy=>(OKT.out y hy).1) (by have:=ML.out;omega) (HM.out wr I.out.bel) OH.out);rw [hv,if_pos rfl] at EA;unfold ApPost at AP;clear HS2;generalize (lat T k).length=lk at *;go_wp2_with fail;refine AP.out.mono ?_;rintro e w5 ⟨g,F5,rfl,st5,lo5,b5⟩;have LN:=Lib.hid I.out.len;have BL:=b5.alloc b5.size (.cells #[.pointer (some ⟨g,0,none⟩)] 89);have I5:=Lib.hid (I.out.below sap_good BL);have G5:Hid (SAp (w5.alloc (.cells #[.pointer (some ⟨g,0,none⟩)] 89)) g (sat S' k) (Value.slice av Lp cv).ownBlock):=Lib.hid (sap_good.below (by rw [EA.out];exact sap_new st5 lo5 I.out.lt) ((Below.refl w5.heap.size w5).alloc (Nat.le_refl _) _));clear st5 lo5 b5 I OWN AP cS cT cV BL
        (try unfold ptr)
        go_wp2_with (at_builtin;refine push_at (K:=KN) Tryz.underlying78 infoN rfl (by omega) rfl _ _ rfl wA.heap.size _ _ rfl I5.out.own _ g rfl ?d1 ?d2 ?d3 ?_)
        case d1 =>
         intro j u hu
         match j,hu with
         | 0,hu=>simp [KN] at hu;subst hu;unfold ptr;go_simp
         | j+1,hu=>simp [KN] at hu
        case d2=>rw [LN.out];omega
        case d3=>have:=I5.out.bel.size;exact this
        intro v' w6 o6 g6 h6
        have NEW:=Lib.hid (I5.out.push sap_good o6 g6 (by simpa using h6) G5.out);clear o6 g6 h6 I5 G5 LN;obtain ⟨av',cv',ev',_⟩:=NEW.out.own.slice;generalize (ps ++ [g]).length=Lp' at ev';subst ev';go_wp2
        go_roundw
        case rel=>exact ⟨k+1,ps ++ [g],by omega,by go_num,NEW⟩
        case measure=>simp [intOf];omega
      | false =>
        rw [hv] at cV;rw [hv,if_neg Bool.false_ne_true] at EA;have AP:=Lib.hid (copy_has HS2.out);unfold CopySt at AP;clear HS2;generalize (lat T k).length=lk at *;go_wp2_with fail;refine AP.out.mono ?_;rintro e w5 ⟨g,F5,rfl,st5,lo5,b5⟩;have LN:=Lib.hid I.out.len;have BL:=b5.alloc b5.size (.cells #[.pointer (some ⟨g,0,none⟩)] 89);have I5:=Lib.hid (I.out.below sap_good BL);have G5:Hid (SAp (w5.alloc (.cells #[.pointer (some ⟨g,0,none⟩)] 89)) g (sat S' k) (Value.slice av Lp cv).ownBlock):=Lib.hid (sap_good.below (by rw [EA.out];exact sap_new st5 lo5 I.out.lt) ((Below.refl w5.heap.size w5).alloc (Nat.le_refl _) _));clear st5 lo5 b5 I OWN AP cS cT cV BL
        (try unfold ptr)
        go_wp2_with (at_builtin;refine push_at (K:=KN) Tryz.underlying78 infoN rfl (by omega) rfl _ _ rfl wA.heap.size _ _ rfl I5.out.own _ g rfl ?d1 ?d2 ?d3 ?_)
        case d1 =>
         intro j u hu
         match j,hu with
         | 0,hu=>simp [KN] at hu;subst hu;unfold ptr;go_simp
         | j+1,hu=>simp [KN] at hu
        case d2=>rw [LN.out];omega
        case d3=>have:=I5.out.bel.size;exact this
        intro v' w6 o6 g6 h6
        have NEW:=Lib.hid (I5.out.push sap_good o6 g6 (by simpa using h6) G5.out);clear o6 g6 h6 I5 G5 LN;obtain ⟨av',cv',ev',_⟩:=NEW.out.own.slice;generalize (ps ++ [g]).length=Lp' at ev';subst ev';go_wp2
        go_roundw
        case rel=>exact ⟨k+1,ps ++ [g],by omega,by go_num,NEW⟩
        case measure=>simp [intOf];omega
     ·obtain rfl:k=n:=by omega
      have RES:Hid (RoundPost w 0 S' (.returned (.tuple #[.slice av Lp cv,.int .i64 0])) wr):=Lib.hid ⟨_,rfl,PI.stl (S:=S') (by rw [RL.out,HN.out];exact I.out),BI.out⟩;clear I OWN;go_wp2
      go_ret2
      exact RES.out
 ·have EL:Hid (rdL S T V P = []):=Lib.hid (if_neg hE)
  rw [EL.out];have HEE:=Lib.hid hE;have hne:(rdE S T V != 0)=true:=by simpa using hE
  obtain ⟨sa,cs,rfl,hms⟩:=HS.slice;clear HS HT HV RP hg hd hE;generalize rdE S T V=E at *
  go_enter Tryz.func79,Tryz.ntmps79
  go_wp2_with fail;refine FA.out.mono ?_;rintro e w1 ⟨rfl,b1⟩;have RES:Hid (RoundPost w E [] (.returned (.tuple #[.slice none 0 0,.int .i64 E])) w1):=Lib.hid ⟨_,rfl,stl_nil w1,b1⟩;clear b1 FA;go_wp2
  go_ret2
  exact RES.out
end Go.Proofs.YtljnkaodhfnbbaaGreatDoor.Pa
namespace Go.Proofs.YtljnkaodhfnbbaaGreatDoor.Pa
open Go.RowKit
open Fl (R4 z4 rat goodF okR okL newR)
open Fs (Fil Abs key Srt OkA gB gV sB sA dA dE dD dV look_some look_none look_at put_set)
open Ro (E5 z5 okE eat mayP eat_get)
open Ck (LL lat sN sE tE gaN pg who_hit t_gap)
open Ua (bit frm te tp tb upd turn par)
theorem okA_rec {h:Hr} (hh:okH h) {t:List E5} {V:Int→Int→Bool} (hV:∀ n,V n 0=true→grp t n 0 = []) {A:Abs} (hA:OkA A):OkA (recV h t V A):=by
 refine ⟨(Fs.map_srt (κ:=key) (κ':=key) (f:=recF h t V) (fun _=>rfl)).2 hA.srt,fun e he=>?_,fun e he=>?_,fun e he=>?_⟩
 all_goals
  obtain ⟨c,hc,rfl⟩:=List.mem_map.1 he
 ·exact hA.nm c hc
 ·obtain ⟨g1,g2,g3,g4,g5⟩:=hA.good c hc
  refine ⟨g1,g2,by rw [recF_len];exact g3,by rw [recF_len];exact g4,?_⟩;rw [recF_len];have:=recF_rat (h:=h) (t:=t) (V:=V) c (k:=0) (by omega);rw [show ((0:Nat):Int)=0 from rfl] at this;rw [this]
  split
  ·rename_i hv
   rw [hV _ hv,newV_nil];exact g5
  ·exact g5
 ·intro r hr
  obtain ⟨k,hk⟩:=List.getElem?_of_mem hr;rw [recF_get] at hk
  rcases e:c.2.2[k]? with _ | v
  ·rw [e] at hk;cases hk
  ·rw [e] at hk
   simp only [Option.map_some,Option.some.injEq] at hk;have hv:okR v:=hA.ok c hc v (List.mem_of_getElem? e);rw [← hk]
   split
   ·exact newV_ok hh _ hv
   ·exact hv
section
end
section
end
end Go.Proofs.YtljnkaodhfnbbaaGreatDoor.Pa
namespace Go.Proofs.YtljnkaodhfnbbaaGreatDoor.Re
open Go.RowKit
open Rw (Rd Ow At)
open Fl (R4 z4 rec4 K4 okR okL okR_at hdr rat goodF)
def KI:Rw.Kind Int:=Rw.int .i64
theorem infoI:(Tryz.prog.info? 3).map (fun i=>(i.zero,i.size,i.bytes))=some (some (.int .i64 0),1,8):=by kernel_rfl
theorem addr_zero (a:Addr):a.add 0=a:=by cases a;simp [Addr.add]
def iat (l:List Int) (i:Nat):Int:=l.getD i 0
theorem at1 {w:World} {b off:Nat} {l:List Int} (h:At KI w b off l) (i:Nat) (hi:i < l.length):w.cell? ⟨b,off+i,none⟩=some (.int .i64 (iat l i)):=by
 have c:=h i hi 0 _ rfl;simp only [KI,Rw.int,Nat.mul_one,Nat.add_zero] at c;exact c
theorem iat_get {l:List Int} {i:Nat} (h:i < l.length):l[i]? = some (iat l i):=by
 unfold iat;rw [List.getD_eq_getElem?_getD,List.getElem?_eq_getElem h]
 rfl
theorem ints_same {l l':List Int} (hl:l.length=l'.length) (h:∀ i,i < l.length→iat l i=iat l' i):l=l':=by
 refine List.ext_getElem hl fun i h1 h2=>?_;have:=h i h1
 simpa [iat,List.getD,List.getElem?_eq_getElem h1,List.getElem?_eq_getElem h2] using this
def okI (x:Int):Prop:=0≤x∧x≤5
instance (x:Int):Decidable (okI x):=by unfold okI;infer_instance
def seqP (l:List Int):Prop:=(0 < l.length∧l.length≤64)∧∀ i,i < l.length→okI (iat l i)
instance (l:List Int):Decidable (seqP l):=by unfold seqP;infer_instance
def seqB (l:List Int):Bool:=decide (seqP l)
theorem seq_no {l:List Int} {k:Nat} (hk:k < l.length) (h:¬ okI (iat l k)):false=seqB l:=(decide_eq_false (fun g=>h (g.2 k hk))).symm
theorem seq_long {l:List Int} (h:¬ (0 < l.length∧l.length≤64)):false=seqB l:=(decide_eq_false (fun g=>h g.1)).symm
theorem seq_yes {l:List Int} (h:0 < l.length∧l.length≤64) (g:∀ i,i < l.length→okI (iat l i)):true=seqB l:=(decide_eq_true ⟨h,g⟩).symm
def putI (x:Int):R4:=(x,0,0,0)
def fileL (l:List Int):List R4:=hdr 3 (l.length:Int) :: l.map putI
def fL (l:List Int):List R4:=if seqP l then fileL l else []
def fP (l:List Int):Int:=if seqP l then 3 else 0
def fN (l:List Int):Int:=if seqP l then 0 else 1
def takL (l:List R4):List Int:=(l.drop 1).map (·.1)
def isS (p:Int) (l:List R4):Prop:=goodF p l∧seqP (takL l)∧p=3∧l=fileL (takL l)
instance (p:Int) (l:List R4):Decidable (isS p l):=by unfold isS;infer_instance
def sL (p:Int) (l:List R4):List Int:=if isS p l then takL l else []
def sN (p:Int) (l:List R4):Int:=if isS p l then 0 else 2
theorem file_len (l:List Int):(fileL l).length=l.length+1:=by simp [fileL]
theorem tak_len (l:List R4):(takL l).length=l.length - 1:=by simp [takL]
theorem tak_file (l:List Int):takL (fileL l)=l:=by
 have e:(fun x=>(putI x).1)=(id:Int→Int):=rfl;simp only [takL,fileL,List.drop_succ_cons,List.drop_zero,List.map_map,Function.comp_def,e,List.map_id]
theorem file_good {l:List Int} (h:seqP l):goodF 3 (fileL l):=by
 have hl:=file_len l;have:=h.1;refine ⟨by omega,by omega,by omega,by omega,?_⟩;have e:((fileL l).length:Int) - 1=(l.length:Int):=by omega
 rw [e]
 rfl
theorem file_is {l:List Int} (h:seqP l):isS 3 (fileL l):=⟨file_good h,by rw [tak_file];exact h,rfl,by rw [tak_file]⟩
theorem seq_file {l:List Int} (h:seqP l):sL 3 (fileL l)=l∧sN 3 (fileL l)=0:=by
 unfold sL sN;rw [if_pos (file_is h),if_pos (file_is h),tak_file];exact ⟨rfl,rfl⟩
theorem okI_R {x:Int} (h:okI x):okR (putI x):=by
 obtain ⟨a,b⟩:=h;unfold okR putI;simp only
 omega
theorem seq_each {l:List Int} (h:seqP l):∀ x∈l,okI x:=fun x hx=>by
 obtain ⟨i,hi,e⟩:=List.getElem_of_mem hx;have g:=h.2 i hi;have e':iat l i=x:=by
  have:=iat_get hi;rw [List.getElem?_eq_getElem hi,e] at this;exact (Option.some.inj this).symm
 rw [e'] at g;exact g
theorem ok_file {l:List Int} (h:seqP l):okL (fileL l):=by
 intro r hr
 rcases List.mem_cons.1 hr with rfl | hr
 ·have:=h.1
  have hb:∀ n:Fin 65,okR (hdr 3 (n.val:Int)):=by unfold okR;decide +kernel
  have e:=hb ⟨l.length,by omega⟩
  simpa using e
 ·obtain ⟨x,hx,rfl⟩:=List.mem_map.1 hr
  exact okI_R (seq_each h x hx)
theorem tak_at {l:List R4} {i:Nat} (h:i+1 < l.length):iat (takL l) i=(rat l (i+1)).1:=by
 have e:(takL l)[i]? = some (rat l (i+1)).1:=by
  unfold takL rat;rw [List.getElem?_map,List.getElem?_drop,Nat.add_comm 1 i,List.getD_eq_getElem?_getD,List.getElem?_eq_getElem h]
  rfl
 unfold iat;rw [List.getD_eq_getElem?_getD,e]
 rfl
theorem s_no {p:Int} {l:List R4} (h:¬ isS p l):sL p l = []∧sN p l=2:=⟨if_neg h,if_neg h⟩
theorem s_yes {p:Int} {l:List R4} (h:isS p l):sL p l=takL l∧sN p l=0:=⟨if_pos h,if_pos h⟩
theorem tak_next {l:List R4} {k:Nat} (h:k+1 < l.length):(takL l).take k ++ [(rat l (k+1)).1]=(takL l).take (k+1):=by
 rw [List.take_add_one,iat_get (by rw [tak_len];omega),tak_at h]
 rfl
def part (h:R4) (l:List Int) (k:Nat):List R4:=h :: ((l.take k).map putI ++ List.replicate (l.length - k) z4)
theorem part_len (h:R4) (l:List Int) (k:Nat) (hk:k≤l.length):(part h l k).length=l.length+1:=by
 simp [part,List.length_take]
 omega
theorem part_start (h:R4) (l:List Int):part h l 0=h :: List.replicate l.length z4:=by simp [part]
theorem take_next {l:List Int} {k:Nat} (hk:k < l.length):l.take (k+1)=l.take k ++ [iat l k]:=by
 rw [List.take_add_one,iat_get hk]
 rfl
theorem part_set (h:R4) {l:List Int} {k:Nat} (hk:k < l.length):(part h l k).set (1+k) (putI (iat l k))=part h l (k+1):=by
 have e1:(l.take k).length=k:=by rw [List.length_take];omega
 unfold part;rw [Nat.add_comm 1 k,List.set_cons_succ,List.set_append_right _ _ (by rw [List.length_map,e1];omega),List.length_map,e1,Nat.sub_self,take_next hk];rw [show l.length - k=(l.length - (k+1))+1 by omega,List.replicate_succ]
 simp
theorem part_end (h:R4) (l:List Int):part h l l.length=h :: l.map putI:=by
 unfold part;rw [List.take_length,Nat.sub_self]
 simp
theorem own_next {l:List Int} {k:Nat} (h:R4) (hk:k < l.length):(h :: (l.take k).map putI) ++ [putI (iat l k)]=h :: (l.take (k+1)).map putI:=by
 rw [take_next hk]
 simp
def nxP (l:List Int) (t:Int):Prop:=seqP l∧0≤t∧t < l.length
instance (l:List Int) (t:Int):Decidable (nxP l t):=by unfold nxP;infer_instance
def nR (l:List Int) (t:Int):Int:=if nxP l t then iat l t.toNat else 0
def nT (l:List Int) (t:Int):Int:=if nxP l t then (if t+1=l.length then 0 else t+1) else 0
def nE (l:List Int) (t:Int):Int:=if nxP l t then 0 else 1
def NextPost (w:World) (l:List Int) (t:Int) (e:Ending) (w':World):Prop:=e = .returned (.tuple #[.int .i64 (nR l t),.int .i64 (nT l t),.int .i64 (nE l t)])∧Below w.heap.size w w'
theorem next_no {w:World} {l:List Int} {t:Int} (h:¬ nxP l t) (w':World) (hb:Below w.heap.size w w'):NextPost w l t (.returned (.tuple #[.int .i64 0,.int .i64 0,.int .i64 1])) w':=⟨by unfold nR nT nE;rw [if_neg h,if_neg h,if_neg h],hb⟩
theorem next_last {w:World} {l:List Int} {k:Nat} (h:nxP l k) (h1:k+1=l.length) (w':World) (hb:Below w.heap.size w w'):NextPost w l k (.returned (.tuple #[.int .i64 (iat l k),.int .i64 0,.int .i64 0])) w':=⟨by unfold nR nT nE;rw [if_pos h,if_pos h,if_pos h,if_pos (by omega)];rfl,hb⟩
theorem next_more {w:World} {l:List Int} {k:Nat} (h:nxP l k) (h1:k+1≠l.length) (w':World) (hb:Below w.heap.size w w'):NextPost w l k (.returned (.tuple #[.int .i64 (iat l k),.int .i64 ((k:Int)+1),.int .i64 0])) w':=⟨by unfold nR nT nE;rw [if_pos h,if_pos h,if_pos h,if_neg (by omega)];rfl,hb⟩
def SeqPost (w:World) (p:Int) (l:List R4) (e:Ending) (w':World):Prop:=∃ u,e = .returned (.tuple #[u,.int .i64 (sN p l)])∧Rd KI w' u (sL p l)∧Below w.heap.size w w'
def FilePost (w:World) (l:List Int) (e:Ending) (w':World):Prop:=∃ u,e = .returned (.tuple #[Fl.file (fP l) u,.int .i64 (fN l)])∧Rd K4 w' u (fL l)∧Below w.heap.size w w'
theorem file_no {w:World} {l:List Int} (h:¬ seqP l) (w':World) (hb:Below w.heap.size w w'):FilePost w l (.returned (.tuple #[Fl.file 0 (.slice none 0 0),.int .i64 1])) w' :=
 ⟨_,by unfold fP fN;rw [if_neg h,if_neg h],by unfold fL;rw [if_neg h];exact Rw.Rd.nil _,hb⟩
theorem file_yes {w:World} {l:List Int} (h:seqP l) (u:Value) (w':World) (hr:Rd K4 w' u (fileL l)) (hb:Below w.heap.size w w'):FilePost w l (.returned (.tuple #[Fl.file 3 u,.int .i64 0])) w' :=
 ⟨u,by unfold fP fN;rw [if_pos h,if_pos h],by unfold fL;rw [if_pos h];exact hr,hb⟩
theorem sq_no {w:World} {p:Int} {l:List R4} (h:¬ isS p l) (w':World) (hb:Below w.heap.size w w'):SeqPost w p l (.returned (.tuple #[.slice none 0 0,.int .i64 2])) w' :=
 ⟨_,by rw [(s_no h).2],by rw [(s_no h).1];exact Rw.Rd.nil _,hb⟩
theorem sq_yes {w:World} {p:Int} {l:List R4} (h:isS p l) (u:Value) (w':World) (hr:Rd KI w' u (takL l)) (hb:Below w.heap.size w w'):SeqPost w p l (.returned (.tuple #[u,.int .i64 0])) w' :=
 ⟨u,by rw [(s_yes h).2],by rw [(s_yes h).1];exact hr,hb⟩
end Go.Proofs.YtljnkaodhfnbbaaGreatDoor.Re
namespace Go.Proofs.YtljnkaodhfnbbaaGreatDoor.Wt
structure A where
 r0:Int
 q0:Int
 r1:Int
 q1:Int
def new:A:=⟨1,0,2,0⟩
def t1 (a:A):A:=if a.r0≠1∧a.r1≠1∧((a.r0=2∧4≤a.q0)∨(a.r0=3∧8≤a.q0)) then { a with r0:=1 } else a
def t2 (a:A):A:=if a.r0≠1∧a.r1≠1∧((a.r1=2∧4≤a.q1)∨(a.r1=3∧9≤a.q1)) then { a with r1:=1 } else a
def tk (a:A):A:=t2 (t1 a)
def hdN (r:Int):Int:=if r=3 then 2 else r
def op (a:A):Int:=if a.r0=1 then 0 else if a.r1=1 then 1 else -1
def hd (a:A):A:=if a.r0=1 then ⟨1,0,hdN a.r1,0⟩ else if a.r1=1 then ⟨hdN a.r0,0,1,0⟩ else ⟨a.r0,a.q0+1,a.r1,a.q1+1⟩
def opn (a:A):Int:=op (tk a)
def rnd (a:A):A:=hd (tk a)
def rl (a:A) (n:Int):Int:=if n=0 then a.r0 else if n=1 then a.r1 else 0
def crE (a:A) (n:Int):Int:=if n=0 then (if a.r0=4 then 10 else 0) else if n=1 then (if a.r1=4 then 10 else 0) else 1
def crA (a:A) (n:Int):A:=if n=0 then { a with r0:=4 } else if n=1 then { a with r1:=4 } else a
def rsE (a:A) (n:Int):Int:=if n=0 then (if a.r0=4 then 0 else 10) else if n=1 then (if a.r1=4 then 0 else 10) else 1
def rsA (a:A) (n:Int):A:=if n=0 then (if a.r0=4 then { a with r0:=3,q0:=0 } else a) else if n=1 then (if a.r1=4 then { a with r1:=3,q1:=0 } else a) else a
structure Ok (a:A):Prop where
 b0:1≤a.r0∧a.r0≤4
 b1:1≤a.r1∧a.r1≤4
 one:¬ (a.r0=1∧a.r1=1)
 p0:0≤a.q0
 p1:0≤a.q1
theorem ok_new:Ok new:=⟨by decide,by decide,by decide,by decide,by decide⟩
section
variable {a:A} (h:Ok a)
include h
theorem Ok.t1:Ok (t1 a):=by
 obtain ⟨h1,h2,h3,h4,h5⟩:=h;unfold Wt.t1
 split
 ·rename_i g
  exact ⟨by simp,h2,fun q=>g.2.1 q.2,h4,h5⟩
 ·exact ⟨h1,h2,h3,h4,h5⟩
theorem Ok.t2:Ok (t2 a):=by
 obtain ⟨h1,h2,h3,h4,h5⟩:=h;unfold Wt.t2
 split
 ·rename_i g
  exact ⟨h1,by simp,fun q=>g.1 q.1,h4,h5⟩
 ·exact ⟨h1,h2,h3,h4,h5⟩
theorem Ok.tk:Ok (tk a):=h.t1.t2
theorem Ok.hd:Ok (hd a):=by
 obtain ⟨h1,h2,h3,h4,h5⟩:=h;unfold Wt.hd hdN
 split
 ·refine ⟨by simp,?_,?_,by simp,by simp⟩ <;> simp only <;> split <;> omega
 ·split
  ·refine ⟨?_,by simp,?_,by simp,by simp⟩ <;> simp only <;> split <;> omega
  ·exact ⟨h1,h2,h3,by simp only;omega,by simp only;omega⟩
theorem Ok.rnd:Ok (rnd a):=h.tk.hd
theorem Ok.cr (n:Int):Ok (crA a n):=by
 obtain ⟨h1,h2,h3,h4,h5⟩:=h;unfold crA
 split
 ·exact ⟨by simp,h2,by simp,h4,h5⟩
 ·split
  ·exact ⟨h1,by simp,by simp,h4,h5⟩
  ·exact ⟨h1,h2,h3,h4,h5⟩
theorem Ok.rs (n:Int):Ok (rsA a n):=by
 obtain ⟨h1,h2,h3,h4,h5⟩:=h;unfold rsA
 split
 ·split
  ·exact ⟨by simp,h2,by simp,by simp,h5⟩
  ·exact ⟨h1,h2,h3,h4,h5⟩
 ·split
  ·split
   ·exact ⟨h1,by simp,by simp,h4,by simp⟩
   ·exact ⟨h1,h2,h3,h4,h5⟩
  ·exact ⟨h1,h2,h3,h4,h5⟩
end
def d0 (a:A):Prop:=(a.r0=2∧4≤a.q0)∨(a.r0=3∧8≤a.q0)
def d1 (a:A):Prop:=(a.r1=2∧4≤a.q1)∨(a.r1=3∧9≤a.q1)
theorem opn_parts (a:A):(opn a=0∧(a.r0=1∨(a.r0≠1∧a.r1≠1∧d0 a))∧(rnd a).r0=1)∨(opn a=1∧a.r0≠1∧(a.r1=1∨(a.r1≠1∧¬ d0 a∧d1 a))∧(rnd a).r1=1)∨(opn a = -1∧a.r0≠1∧a.r1≠1∧¬ d0 a∧¬ d1 a∧rnd a=⟨a.r0,a.q0+1,a.r1,a.q1+1⟩):=by
 obtain ⟨r0,q0,r1,q1⟩:=a;unfold opn rnd tk t1 t2 op hd d0 d1
 by_cases e0:r0=1
 ·exact .inl (by simp [e0])
 ·by_cases e1:r1=1
  ·exact .inr (.inl (by simp [e0,e1]))
  ·by_cases g0:(r0=2∧4≤q0)∨(r0=3∧8≤q0)
   ·exact .inl (by simp [e0,e1,g0])
   ·by_cases g1:(r1=2∧4≤q1)∨(r1=3∧9≤q1)
    ·exact .inr (.inl (by simp [e0,e1,g0,g1]))
    ·exact .inr (.inr (by simp [e0,e1,g0,g1]))
section
end
end Go.Proofs.YtljnkaodhfnbbaaGreatDoor.Wt
namespace Go.Proofs.YtljnkaodhfnbbaaGreatDoor.Cu
open Fl (R4 z4 okR okL goodF)
open Fs (Fil Abs OkA key look_none dE dV dA dD sB sA addE addA)
open Pa (Sts S2 sat vat rdE rdL rdS rdS_len rdS_at apS hr hr_ok okA_rec ex1 exU dD_le exU_d exU_end okH)
open Ro (E5 okE tabL tabN tab_may may_len eat)
open Ck (LL lat tE)
open Re (iat sL sN seqP takL isS)
def fB (A:Abs) (n:Int):Bool:=(Fs.look key n A).isSome
def fP (A:Abs) (n:Int):Int:=match Fs.look key n A with | none=>0 | some e=>e.2.1
def fR (A:Abs) (n:Int):List R4:=match Fs.look key n A with | none=>[] | some e=>e.2.2
theorem fR_ok {A:Abs} (h:OkA A) (n:Int):okL (fR A n):=by
 unfold fR
 split
 ·exact nofun
 ·rename_i e he
  exact (h.find he).2.2.1
def sqL (A:Abs):List Int:=sL (fP A 40) (fR A 40)
def sqB (A:Abs):Bool:=fB A 40 && decide (sN (fP A 40) (fR A 40)=0)
theorem sqL_seq {A:Abs} (h:sqB A=true):seqP (sqL A):=by
 unfold sqB at h;rw [Bool.and_eq_true,decide_eq_true_eq] at h;obtain ⟨_,h⟩:=h;unfold sqL sL;unfold sN at h
 split
 ·rename_i g
  exact g.2.1
 ·rename_i g
  rw [if_neg g] at h
  omega
structure Cs where
 S:Sts
 V:List Bool
 P:Wt.A
 pl:Nat
 Q:List S2
def tbs (S:Sts) (n:Int):LL:=S.map fun x=>tabL (fP x.1 (32+n)) (fR x.1 (32+n))
theorem tbs_len (S:Sts) (n:Int):(tbs S n).length=S.length:=List.length_map _
theorem tbs_at (S:Sts) (n:Int) {i:Nat} (hi:i < S.length):lat (tbs S n) i=tabL (fP (sat S i).1 (32+n)) (fR (sat S i).1 (32+n)):=by
 unfold lat tbs sat;rw [List.getD_eq_getElem?_getD,List.getElem?_map,List.getElem?_eq_getElem hi,Int.toNat_natCast,List.getD_eq_getElem?_getD,List.getElem?_eq_getElem hi]
 rfl
theorem tbs_mem {S:Sts} {n:Int} {t:List E5} (h:t∈tbs S n):t.length≤16∧∀ x∈t,okE x:=by
 obtain ⟨x,_,rfl⟩:=List.mem_map.1 h;have m:=tab_may (fP x.1 (32+n)) (fR x.1 (32+n));refine ⟨may_len m,fun y hy=>?_⟩;obtain ⟨i,hi⟩:=List.getElem?_of_mem hy;have hl:=(List.getElem?_eq_some_iff.1 hi).1;have:=(m i hl).1;rw [Ro.eat_get hl] at hi;injection hi with hi;rw [← hi];exact this
def at0 (c:Cs) (l:List Int):Nat:=if l.length≤c.pl then 0 else c.pl
def at1 (c:Cs) (l:List Int):Nat:=if at0 c l+1=l.length then 0 else at0 c l+1
def own (c:Cs):Abs:=(sat c.S (Wt.opn c.P)).1
def rT (c:Cs):LL:=tbs c.S (iat (sqL (own c)) (at0 c (sqL (own c))))
def rE (c:Cs):Int:=if Wt.opn c.P < 0 then 0 else if sqB (own c)=true then rdE c.S (rT c) c.V else 2
def rC (c:Cs):Cs :=
 if Wt.opn c.P < 0 then { c with P:=Wt.rnd c.P,Q:=[] }
 else if sqB (own c)=true then { S:=if rdE c.S (rT c) c.V=0 then rdL c.S (rT c) c.V c.Q else c.S,V:=c.V,P:=Wt.rnd c.P,pl:=at1 c (sqL (own c)),Q:=[] }
 else { c with P:=Wt.rnd c.P,Q:=[] }
structure Ac where
 k:Int
 n:Int
 f:Int
 r:Int
 v:R4
 s:Int
 m:Int
 t:Int
def no (c:Cs) (n:Int):Prop:=n < 0∨(c.S.length:Int)≤n
instance (c:Cs) (n:Int):Decidable (no c n):=by unfold no;infer_instance
def actE (x:Ac) (c:Cs):Int :=
 if x.k=1 then rE c
 else if x.k=3 then (if c.Q.length=32 then 11 else 0)
 else if x.k < 2∨6 < x.k∨no c x.n then 1
 else if x.k=2 then (if vat c.V x.n=true then (if sB (sat c.S x.n).1 x.f x.r=true then 0 else 3) else 10)
 else if x.k=4 then (if vat c.V x.n=true then 0 else 10)
 else if x.k=5 then (if vat c.V x.n=true then 10 else 0)
 else if x.t < -2000∨2000 < x.t then 1 else 0
def setS (S:Sts) (n:Int) (x:Abs×Int):Sts:=S.set n.toNat x
def actC (x:Ac) (c:Cs):Cs :=
 if x.k=1 then rC c
 else if actE x c≠0 then c
 else if x.k=3 then { c with Q:=c.Q ++ [(x.s,x.m)] }
 else if x.k=2 then { c with S:=setS c.S x.n (sA (sat c.S x.n).1 x.f x.r x.v,(sat c.S x.n).2) }
 else if x.k=4 then { c with V:=c.V.set x.n.toNat false,P:=Wt.crA c.P x.n }
 else if x.k=5 then { c with V:=c.V.set x.n.toNat true,P:=Wt.rsA c.P x.n }
 else c
structure OkC (c:Cs) (t:Nat):Prop where
 len:2≤c.S.length∧c.S.length≤32
 lv:c.V.length=c.S.length
 st:∀ i,i < c.S.length→OkA (sat c.S i).1∧0≤(sat c.S i).2∧(sat c.S i).2≤100 * t
 pr:Wt.Ok c.P
 pl:c.pl≤64
 few:c.Q.length≤32
theorem sat_set {S:Sts} {n:Int} {x:Abs×Int} (h0:0≤n) (h1:n < S.length) (i:Nat):sat (setS S n x) i=if (i:Int)=n then x else sat S i:=by
 unfold sat setS;rw [Int.toNat_natCast,List.getD_eq_getElem?_getD,List.getD_eq_getElem?_getD,List.getElem?_set]
 by_cases e:(i:Int)=n
 ·subst e
  rw [Int.toNat_natCast,if_pos rfl,if_pos (by omega),if_pos rfl]
  rfl
 ·rw [if_neg (by omega),if_neg e]
theorem okA_ex {t:List E5} : ∀ {s:Abs×Int},OkA s.1→OkA (t.foldl ex1 s).1:=by
 induction t with
 | nil=>exact id
 | cons x r ih =>
   intro s h
   rw [List.foldl_cons]
   apply ih
   unfold ex1
   split
   ·exact h.do Fl.okR_z
   ·exact h
theorem okA_ap {h:Pa.Hr} (hh:okH h) {t:List E5} (ok:∀ x∈t,okE x) {s:Abs×Int} (hA:OkA s.1):OkA (apS h t s).1:=by
 have h0:∀ n,(fun _ _=>true:Int→Int→Bool) n 0=true→Pa.grp t n 0 = []:=fun n _=>List.filter_eq_nil_iff.2 fun x hx2 g=>by
  have k:=ok x hx2;unfold Pa.mt at g;have g:=of_decide_eq_true g;unfold okE Ro.place at k
  omega
 exact okA_ex (okA_rec hh h0 hA)
section
variable {c:Cs} {t:Nat} (h:OkC c t)
include h
theorem OkC.next:OkC c (t+1):=⟨h.len,h.lv,fun i hi=>by have:=h.st i hi;exact ⟨this.1,this.2.1,by omega⟩,h.pr,h.pl,h.few⟩
theorem OkC.setS {n:Int} {x:Abs×Int} (h0:0≤n) (h1:n < c.S.length) (hx:OkA x.1∧0≤x.2∧x.2≤100 * (t+1:Nat)):OkC { c with S:=Cu.setS c.S n x } (t+1):=by
 have hl:(Cu.setS c.S n x).length=c.S.length:=List.length_set;refine ⟨by rw [hl];exact h.len,h.lv.trans hl.symm,fun i hi=>?_,h.pr,h.pl,h.few⟩;rw [hl] at hi
 show OkA (sat (Cu.setS c.S n x) i).1∧_
 rw [sat_set h0 h1]
 split
 ·exact hx
 ·have:=h.st i hi;exact ⟨this.1,this.2.1,by omega⟩
theorem OkC.round:OkC (rC c) (t+1):=by
 have n:=h.next;unfold rC
 split
 ·exact ⟨n.len,n.lv,n.st,h.pr.rnd,n.pl,by simp⟩
 ·split
  ·rename_i hs
   have sq:=sqL_seq hs;have hl:(if rdE c.S (rT c) c.V=0 then rdL c.S (rT c) c.V c.Q else c.S).length=c.S.length:=by
    split
    ·rename_i e
     have er:rdL c.S (rT c) c.V c.Q=rdS c.S (rT c) c.V (hr c.S (rT c) c.V c.Q):=if_pos e;rw [er,rdS_len]
    ·rfl
   refine ⟨by rw [hl];exact h.len,h.lv.trans hl.symm,fun i hi=>?_,h.pr.rnd,?_,by simp⟩
   ·rw [hl] at hi
    show OkA (sat (if rdE c.S (rT c) c.V=0 then rdL c.S (rT c) c.V c.Q else c.S) i).1∧0≤(sat (if rdE c.S (rT c) c.V=0 then rdL c.S (rT c) c.V c.Q else c.S) i).2∧(sat (if rdE c.S (rT c) c.V=0 then rdL c.S (rT c) c.V c.Q else c.S) i).2≤_
    have hi':=h.st i hi
    split
    ·rename_i e
     have er:rdL c.S (rT c) c.V c.Q=rdS c.S (rT c) c.V (hr c.S (rT c) c.V c.Q):=if_pos e;rw [er,rdS_at _ _ _ _ hi]
     split
     ·have hm:lat (rT c) i∈rT c:=by
       have hl2:i < (rT c).length:=by unfold rT;rw [tbs_len];exact hi
       unfold lat;rw [List.getD_eq_getElem?_getD,List.getElem?_eq_getElem hl2];exact List.getElem_mem hl2
      obtain ⟨m1,m2⟩:=tbs_mem (S:=c.S) (n:=iat (sqL (own c)) (at0 c (sqL (own c)))) hm;have hd:=exU_d (t:=lat (rT c) i) ((Pa.recA (hr c.S (rT c) c.V c.Q) (lat (rT c) i) (sat c.S i).1),(sat c.S i).2) (lat (rT c) i).length;rw [exU_end] at hd;simp only at hd;exact ⟨okA_ap (hr_ok _ _ _ _) m2 hi'.1,by omega,by omega⟩
     ·exact ⟨hi'.1,hi'.2.1,by omega⟩
    ·exact ⟨hi'.1,hi'.2.1,by omega⟩
   ·show at1 c (sqL (own c))≤64
    unfold at1 at0;have:=sq.1;have:=h.pl
    split <;> split <;> omega
  ·exact ⟨n.len,n.lv,n.st,h.pr.rnd,n.pl,by simp⟩
theorem OkC.act (x:Ac) (hx:okR x.v):OkC (actC x c) (t+1):=by
 have n:=h.next;unfold actC
 by_cases h1:x.k=1
 ·rw [if_pos h1];exact h.round
 ·rw [if_neg h1]
  by_cases he:actE x c≠0
  ·rw [if_pos he];exact n
  ·rw [if_neg he]
   have he:=Classical.not_not.1 he;unfold actE at he;rw [if_neg h1] at he
   by_cases h3:x.k=3
   ·rw [if_pos h3]
    rw [if_pos h3] at he;refine ⟨n.len,n.lv,n.st,n.pr,n.pl,?_⟩
    show (c.Q ++ [(x.s,x.m)]).length≤32
    have:=h.few;rw [List.length_append]
    split at he
    ·omega
    ·simp only [List.length_cons,List.length_nil];omega
   ·rw [if_neg h3]
    rw [if_neg h3] at he
    by_cases hn:x.k < 2∨6 < x.k∨no c x.n
    ·rw [if_pos hn] at he;omega
    ·have hin:0≤x.n∧x.n < c.S.length:=by
      have:¬ no c x.n:=fun g=>hn (.inr (.inr g));unfold no at this
      omega
     by_cases h2:x.k=2
     ·rw [if_pos h2]
      have hs:=h.st x.n.toNat (by omega);rw [Int.toNat_of_nonneg hin.1] at hs;exact h.setS hin.1 hin.2 ⟨hs.1.set hx,hs.2.1,by simp only;omega⟩
     ·rw [if_neg h2]
      by_cases h4:x.k=4
      ·rw [if_pos h4]
       exact ⟨n.len,by show (c.V.set _ _).length=_;rw [List.length_set];exact h.lv,n.st,h.pr.cr x.n,n.pl,n.few⟩
      ·rw [if_neg h4]
       by_cases h5:x.k=5
       ·rw [if_pos h5]
        exact ⟨n.len,by show (c.V.set _ _).length=_;rw [List.length_set];exact h.lv,n.st,h.pr.rs x.n,n.pl,n.few⟩
       ·rw [if_neg h5];exact n
end
theorem vat_set {V:List Bool} {n:Int} {b:Bool} (h0:0≤n) (h1:n < V.length) (i:Int) (hi:0≤i):vat (V.set n.toNat b) i=if i=n then b else vat V i:=by
 unfold vat;rw [List.getD_eq_getElem?_getD,List.getD_eq_getElem?_getD,List.getElem?_set]
 by_cases e:i=n
 ·subst e
  rw [if_pos rfl,if_pos (by omega),if_pos rfl]
  rfl
 ·rw [if_neg (by omega),if_neg e]
theorem drift_act {c:Cs} {k:Nat} (hk:k < c.S.length) (x:Ac) (h1:x.k=6) (h2:x.n=k) (h3 : -2000≤x.t∧x.t≤2000):actE x c=0∧actC x c=c:=by
 have hn:¬ no c x.n:=by rw [h2];unfold no;omega
 have hg:¬ (x.k < 2∨6 < x.k∨no c x.n):=by
  rintro (g | g | g)
  ·omega
  ·omega
  ·exact hn g
 have he:actE x c=0:=by
  unfold actE;rw [if_neg (by omega),if_neg (by omega),if_neg hg,if_neg (by omega),if_neg (by omega),if_neg (by omega),if_neg (by omega)]
 refine ⟨he,?_⟩;unfold actC;rw [if_neg (by omega),if_neg (fun g=>g he),if_neg (by omega),if_neg (by omega),if_neg (by omega),if_neg (by omega)]
abbrev Pl:=List Fil×Int
def plat (L:List Pl) (i:Nat):Pl:=L.getD i ([],0)
def gdF (F:List Fil):Prop:=Fs.Srt key F∧∀ e∈F,(0≤e.1∧e.1≤63)∧goodF e.2.1 e.2.2
def gdP (p:Pl):Prop:=gdF p.1∧-2000≤p.2∧p.2≤2000
def agree (L:List Pl):Prop:=sqB (plat L 0).1=true∧fB (plat L 1).1 40=true∧fP (plat L 0).1 40=fP (plat L 1).1 40∧fR (plat L 0).1 40=fR (plat L 1).1 40
open Classical in
noncomputable def newE (L:List Pl):Int:=if L.length < 2∨32 < L.length then 1 else if ∀ p∈L,gdP p then (if agree L then 0 else 10) else 2
def newC (L:List Pl):Cs:=⟨L.map fun p=>(p.1,0),L.map fun _=>true,Wt.new,0,[]⟩
theorem new_sat {L:List Pl} {i:Nat} (hi:i < L.length):sat (newC L).S i=((plat L i).1,0):=by
 unfold sat newC plat;rw [Int.toNat_natCast,List.getD_eq_getElem?_getD,List.getElem?_map,List.getElem?_eq_getElem hi,List.getD_eq_getElem?_getD,List.getElem?_eq_getElem hi]
 rfl
theorem new_vat {L:List Pl} {i:Nat} (hi:i < L.length):vat (newC L).V i=true:=by
 unfold vat newC;rw [Int.toNat_natCast,List.getD_eq_getElem?_getD,List.getElem?_map,List.getElem?_eq_getElem hi]
 rfl
theorem new_ok {L:List Pl} (h:newE L=0) (ok:∀ p∈L,∀ e∈p.1,okL e.2.2):OkC (newC L) 0:=by
 unfold newE at h
 split at h
 ·omega
 ·rename_i hl
  split at h
  ·rename_i hg
   have hll:(newC L).S.length=L.length:=List.length_map _;refine ⟨by rw [hll];omega,by show (L.map _).length=(L.map _).length;rw [List.length_map,List.length_map],fun i hi=>?_,Wt.ok_new,by show 0≤64;omega,by show 0≤32;omega⟩;have hi':i < L.length:=by
    have:(newC L).S.length=L.length:=List.length_map _
    omega
   have hm:plat L i∈L:=by
    unfold plat;rw [List.getD_eq_getElem?_getD,List.getElem?_eq_getElem hi'];exact List.getElem_mem hi'
   obtain ⟨⟨g1,g2⟩,_⟩:=hg _ hm;rw [new_sat hi'];exact ⟨⟨g1,fun e he=>(g2 e he).1,fun e he=>(g2 e he).2,ok (plat L i) hm⟩,Int.le_refl _,by omega⟩
  ·omega
def actA (x:Ac):Array Value:=#[.int .i64 x.k,.int .i64 x.n,.int .i64 x.f,.int .i64 x.r,.int .u8 x.v.1,.int .u8 x.v.2.1,.int .u8 x.v.2.2.1,.int .u8 x.v.2.2.2,.int .i64 x.s,.int .i64 x.m,.int .i64 x.t]
def actV (x:Ac):Value:=.agg (actA x)
end Go.Proofs.YtljnkaodhfnbbaaGreatDoor.Cu
namespace Go.Proofs.YtljnkaodhfnbbaaGreatDoor.Pa
open Go.RowKit Go.Maps
open Fs (Abs St Rs Rst Only Fx Lst E3 infoE3 rd_low Ent OkA at3)
open Rw (Rd Ow At Kind)
open Fl (row_cell row_frozen K4 R4 okL goodF goodFB file)
attribute [local irreducible] Sd.wpSd wpQuiet
def entD:Ent:=⟨0,0,none,0,[]⟩
def eatF (L:List Ent) (i:Nat):Ent:=L.getD i entD
structure Fls (w:World) (v:Value) (L:List Ent) (B:Nat):Prop where
 rd:Rd E3 w v L
 file:∀ i,i < L.length→Rd K4 w (eatF L i).sl (eatF L i).l∧okL (eatF L i).l
 low:∀ i,i < L.length→0 < (eatF L i).l.length→∀ k,(eatF L i).sl.ownBlock=some k→k < B
theorem Fls.below {w w':World} {v:Value} {L:List Ent} {B:Nat} (h:Fls w v L B) (b:Below w.heap.size w w'):Fls w' v L B:=⟨h.rd.below b,fun i hi=>⟨(h.file i hi).1.below b,(h.file i hi).2⟩,h.low⟩
end Go.Proofs.YtljnkaodhfnbbaaGreatDoor.Pa
namespace Go.Proofs.YtljnkaodhfnbbaaGreatDoor.Ck
open Go.RowKit
open Ro (E5 z5 eat ent K5 at5 eat_mem eq_ent)
open Rw (Rd Ow At)
open Fl (ret_bool at_bool row_cell row_frozen)
theorem infoS:(Tryz.prog.info? 85).map (fun i=>(i.zero,i.size,i.bytes))=some (some (.slice none 0 0),1,24):=by kernel_rfl
end Go.Proofs.YtljnkaodhfnbbaaGreatDoor.Ck
namespace Go.Proofs.YtljnkaodhfnbbaaGreatDoor.Pa
open Go.RowKit Go.Maps
open Fs (Abs St Rs Rst Only Fx Lst Ent OkA addE addA put key ins ow_only put_new ins_at look_none AddPost)
open Rw (Rd Ow At Kind)
open Ro (E5 K5 okE)
open Ck (LL lat RdL KS Hd sl zh)
open Fl (R4)
structure Cel where
 files:Hd
 table:Hd
 live:Bool
 steps:Hd
 F:List Ent
 T:List E5
 S:List S2
def celD:Cel:=⟨zh,zh,false,zh,[],[],[]⟩
def cel (L:List Cel) (i:Nat):Cel:=L.getD i celD
theorem ow_apart {α β:Type} {K:Kind α} {J:Kind β} {w:World} {B B' E E':Nat} {v v':Value} {l:List α} {l':List β} (h:Ow K w B E v l) (h':Ow J w B' E' v' l') (hE:E≠E'):∀ k,v.ownBlock=some k→v'.ownBlock≠some k:=fun k hk=>by
 obtain ⟨_,h⟩:=h
 rcases h with ⟨rfl,_⟩ | ⟨g,cap,cur,rfl,_,hh,_⟩
 ·simp [Value.ownBlock] at hk
 ·simp only [Value.ownBlock,Option.some.injEq] at hk
  subst hk;exact h'.apart hh hE
section
end
section
end
end Go.Proofs.YtljnkaodhfnbbaaGreatDoor.Pa
namespace Go.Proofs.YtljnkaodhfnbbaaGreatDoor.Cu
open Go.RowKit
open Rw (Rd Ow At Kind)
open Fl (R4 z4 okR okL goodF)
open Fs (Ent Fil Abs OkA key look_none addE addA Srt put_new ins_at)
open Pa (Fls eatF entD)
open Ck (Hd sl zh)
structure PlD where
 files:Hd
 rate:Int
 F:List Ent
def plD:PlD:=⟨zh,0,[]⟩
def KP:Kind PlD:=⟨fun c=>[sl c.files,.int .i64 c.rate],2,by decide,fun _=>rfl,fun _ u h=>by simp [sl] at h;rcases h with rfl | rfl <;> rfl,plD⟩
def pld (L:List PlD) (i:Nat):PlD:=L.getD i plD
structure Pls (w:World) (v:Value) (L:List PlD) (B:Nat):Prop where
 rd:Rd KP w v L
 file:∀ i,i < L.length→Fls w (sl (pld L i).files) (pld L i).F B
theorem Pls.below {w w':World} {v:Value} {L:List PlD} {B:Nat} (h:Pls w v L B) (b:Below w.heap.size w w'):Pls w' v L B:=⟨h.rd.below b,fun i hi=>(h.file i hi).below b⟩
def PlD.abs (c:PlD):Pl:=(c.F.map Ent.abs,c.rate)
def pls (L:List PlD):List Pl:=L.map PlD.abs
theorem pls_len (L:List PlD):(pls L).length=L.length:=List.length_map _
theorem pls_at {L:List PlD} {i:Nat} (h:i < L.length):plat (pls L) i=(pld L i).abs:=by
 unfold plat pls pld;rw [List.getD_eq_getElem?_getD,List.getElem?_map,List.getElem?_eq_getElem h,List.getD_eq_getElem?_getD,List.getElem?_eq_getElem h]
 rfl
theorem at_pl {w:World} {b off:Nat} {L:List PlD} (h:At KP w b off L) {i:Nat} (hi:i < L.length):w.cell? ⟨b,off+i * 2,none⟩=some (sl (pld L i).files)∧w.cell? ⟨b,off+i * 2+1,none⟩=some (.int .i64 (pld L i).rate):=⟨h i hi 0 _ rfl,h i hi 1 _ rfl⟩
def actL (x:Ac):List Value:=[.int .i64 x.k,.int .i64 x.n,.int .i64 x.f,.int .i64 x.r,.int .u8 x.v.1,.int .u8 x.v.2.1,.int .u8 x.v.2.2.1,.int .u8 x.v.2.2.2,.int .i64 x.s,.int .i64 x.m,.int .i64 x.t]
def acD:Ac:=⟨0,0,0,0,z4,0,0,0⟩
def KA:Kind Ac:=⟨actL,11,by decide,fun _=>rfl,fun _ u h=>by simp [actL] at h;rcases h with rfl | rfl | rfl | rfl | rfl | rfl | rfl | rfl | rfl | rfl | rfl <;> rfl,acD⟩
def aat (L:List Ac) (i:Nat):Ac:=L.getD i acD
def Inn (A:Abs) (k:Nat):Prop:=Srt key (A.take k)∧∀ e∈A.take k,(0≤e.1∧e.1≤63)∧goodF e.2.1 e.2.2
theorem inn_zero (A:Abs):Inn A 0:=⟨List.Pairwise.nil,nofun⟩
theorem inn_end {A:Abs} (h:Inn A A.length):gdF A:=by
 unfold Inn at h;rw [List.take_length] at h;exact h
theorem inn_step {A:Abs} {k:Nat} {n p:Int} {l:List R4} (h:Inn A k) (hk:A[k]? = some (n,p,l)) (ord:∀ c,0 < k→A[k - 1]? = some c→key c < n) :
 (addE (A.take k) n p l=0∧addA (A.take k) n p l=A.take (k+1)∧Inn A (k+1))∨(addE (A.take k) n p l≠0∧¬ gdF A):=by
 have hkl:=(List.getElem?_eq_some_iff.1 hk).1;have hm:(n,p,l)∈A:=List.mem_of_getElem? hk;have lt:∀ x∈A.take k,key x < n:=fun x hx=>by
  obtain ⟨i,hi⟩:=List.mem_iff_getElem?.1 hx;have hil:=(List.getElem?_eq_some_iff.1 hi).1;rw [List.length_take] at hil;have h1:A[k - 1]? = some A[k - 1]:=List.getElem?_eq_getElem (by omega);have o:=ord _ (by omega) h1;rw [List.getElem?_take,if_pos (by omega)] at hi
  by_cases e:i=k - 1
  ·subst e
   rw [h1] at hi;injection hi with hi;rw [← hi];exact o
  ·have q:=List.pairwise_iff_getElem.1 h.1 i (k - 1) (by rw [List.length_take];omega) (by rw [List.length_take];omega) (by omega)
   rw [List.getElem_take,List.getElem_take] at q;rw [List.getElem?_eq_getElem (by omega)] at hi;injection hi with hi;rw [hi] at q
   omega
 have hn:Fs.look key n (A.take k)=none:=look_none.2 fun x hx=>by have:=lt x hx;omega
 have tk:A.take (k+1)=A.take k ++ [(n,p,l)]:=by rw [List.take_add_one,hk];rfl
 by_cases g1:0≤n∧n≤63
 ·by_cases g2:goodF p l
  ·have e0:addE (A.take k) n p l=0:=by
    unfold addE;rw [if_pos g1,if_pos g2,hn]
    rfl
   refine .inl ⟨e0,?_,?_,?_⟩
   ·unfold addA
    rw [if_pos e0,put_new (c:=(n,p,l)) hn,ins_at (k:=(A.take k).length) (fun x hx=>lt x (List.mem_of_mem_take hx)) (fun x hx=>by rw [List.getElem?_eq_none (Nat.le_refl _)] at hx;cases hx),List.take_length,List.drop_length,tk]
   ·rw [tk]
    refine List.pairwise_append.2 ⟨h.1,List.pairwise_singleton _ _,fun x hx y hy=>?_⟩;rw [List.mem_singleton] at hy;subst hy;exact lt x hx
   ·rw [tk]
    intro e he
    rcases List.mem_append.1 he with he | he
    ·exact h.2 e he
    ·rw [List.mem_singleton] at he
     subst he;exact ⟨g1,g2⟩
  ·refine .inr ⟨?_,fun g=>g2 (g.2 _ hm).2⟩
   unfold addE;rw [if_pos g1,if_neg g2]
   decide
 ·refine .inr ⟨?_,fun g=>g1 (g.2 _ hm).1⟩
  unfold addE;rw [if_neg g1]
  decide
theorem inn_no {A:Abs} {k:Nat} {c d:Fil} (h0:0 < k) (hk:A[k]? = some c) (h1:A[k - 1]? = some d) (hle:key c≤key d):¬ gdF A:=fun g=>by
 have a:=(List.getElem?_eq_some_iff.1 hk);have b:=(List.getElem?_eq_some_iff.1 h1);obtain ⟨a1,rfl⟩:=a;obtain ⟨b1,rfl⟩:=b;have q:=List.pairwise_iff_getElem.1 g.1 (k - 1) k b1 a1 (by omega)
 omega
def Gds (L:List Pl) (i:Nat):Prop:=∀ j,j < i→gdP (plat L j)
theorem gds_zero (L:List Pl):Gds L 0:=fun j hj=>by omega
theorem gds_next {L:List Pl} {i:Nat} (h:Gds L i) (g:gdP (plat L i)):Gds L (i+1):=fun j hj=>by
 by_cases e:j=i
 ·rw [e];exact g
 ·exact h j (by omega)
theorem gds_all {L:List Pl} (h:Gds L L.length):∀ p∈L,gdP p:=fun p hp=>by
 obtain ⟨i,hi,rfl⟩:=List.getElem_of_mem hp;have:=h i hi;unfold plat at this;rw [List.getD_eq_getElem?_getD,List.getElem?_eq_getElem hi] at this;exact this
theorem new_short {L:List Pl} (h:L.length < 2∨32 < L.length):newE L=1:=by unfold newE;rw [if_pos h]
theorem new_bad {L:List Pl} (h:¬ (L.length < 2∨32 < L.length)) {i:Nat} (hi:i < L.length) (g:¬ gdP (plat L i)):newE L=2:=by
 unfold newE;rw [if_neg h,if_neg]
 intro a
 refine g (a _ ?_);unfold plat;rw [List.getD_eq_getElem?_getD,List.getElem?_eq_getElem hi];exact List.getElem_mem hi
theorem new_end {L:List Pl} (h:¬ (L.length < 2∨32 < L.length)) (g:∀ p∈L,gdP p):(agree L→newE L=0)∧(¬ agree L→newE L=10):=by
 unfold newE;rw [if_neg h,if_pos g];exact ⟨fun a=>if_pos a,fun a=>if_neg a⟩
theorem newC_next {L:List Pl} {i:Nat} (h:i < L.length):(newC (L.take (i+1))).S=(newC (L.take i)).S ++ [((plat L i).1,0)]∧(newC (L.take (i+1))).V=(newC (L.take i)).V ++ [true]:=by
 have tk:L.take (i+1)=L.take i ++ [plat L i]:=by
  rw [List.take_add_one];unfold plat;rw [List.getD_eq_getElem?_getD,List.getElem?_eq_getElem h]
  rfl
 unfold newC;rw [tk]
 simp
end Go.Proofs.YtljnkaodhfnbbaaGreatDoor.Cu
namespace Go.Proofs.YtljnkaodhfnbbaaGreatDoor.Fl
open Go.ChangeShapes Go.WideShapes Go.ChangeAt Go.RowKit Go.Deep
open Rw (Rd Ow At)
theorem rec_cells {H:Type} {enc:TypeId×Value→H} {W:World} {base fuel:Nat} {sp:Nat→Bool} {held:Bool} {cs:List Value} {x:DataW H×List MemPlace}
 (h:DataW.trod enc Tryz.prog W base sp held fuel 42 cs=some x):∃ r:R4,cs=K4.enc r∧okR r:=by
 have c4:Tryz.prog.cellsOf 42=4:=by kernel_rfl
 have c1:Tryz.prog.cellsOf 5=1:=by kernel_rfl
 obtain ⟨xs,m,_,_,hs,hx,hi⟩:=DataW.trod_array Tryz.underlying42 h;rw [c4] at hs
 match cs,hs,xs,hx,hi with
 | [u0,u1,u2,u3],_,[x0,x1,x2,x3],_,hi =>
   have e0:=hi 0 (by omega);have e1:=hi 1 (by omega);have e2:=hi 2 (by omega);have e3:=hi 3 (by omega);rw [c1] at e0 e1 e2 e3;obtain ⟨a,ha,_,wa⟩:=DataW.trod_int Tryz.underlying5 (x:=x0) e0;obtain ⟨b,hb,_,wb⟩:=DataW.trod_int Tryz.underlying5 (x:=x1) e1;obtain ⟨c,hc,_,wc⟩:=DataW.trod_int Tryz.underlying5 (x:=x2) e2;obtain ⟨d,hd,_,wd⟩:=DataW.trod_int Tryz.underlying5 (x:=x3) e3
   simp at ha hb hc hd
   subst ha hb hc hd;exact ⟨(a,b,c,d),rfl,bounds_u8 wa,bounds_u8 wb,bounds_u8 wc,bounds_u8 wd⟩
theorem recs_of {H:Type} {enc:TypeId×Value→H} {W:World} {u:Value} {base fuel:Nat} {sp:Nat→Bool} {held:Bool} {x:DataW H×List MemPlace}
 (h:DataW.trod enc Tryz.prog W base sp held fuel 68 [u]=some x):∃ l,Rd K4 W u l∧okL l:=by
 have c4:Tryz.prog.cellsOf 42=4:=by kernel_rfl
 rcases open_slice Tryz.underlying68 h with ⟨e,_⟩ | ⟨a,len,cap,m,n,D,Pl,e,_,hl,hm,hmm,_,hx⟩
 ·simp at e
  subst e;exact ⟨[],Rw.Rd.nil _,fun r hr=>by cases hr⟩
 ·simp at e
  subst e;have hlm:len≤m:=by rw [hmm];split <;> omega
  have each:∀ i,i < m→∃ r:R4,okR r∧∀ j u,(K4.enc r)[j]? = some u→W.cell? (a.add (i * 4+j))=some u:=fun i hi=>by
   obtain ⟨cs',h1,h2⟩:=hx i hi;rw [c4] at h1;obtain ⟨_,hlen,hcell⟩:=World.cells?_some h1;obtain ⟨r,rfl,ok⟩:=rec_cells h2;refine ⟨r,ok,fun j u hu=>?_⟩;have hj:j < 4:=by have:=(List.getElem?_eq_some_iff.1 hu).1;rw [hlen] at this;exact this
   have e:=hcell j hj;rw [add_add] at e;exact e.trans hu
  obtain ⟨q,hq⟩:=choose_lt each;have hlen:((List.range len).map q).length=len:=by simp
  have get:∀ i,i < len→((List.range len).map q).getD i z4=q i:=fun i hi=>by simp [List.getD,hi]
  refine ⟨(List.range len).map q,⟨some a,cap,by rw [hlen],⟨by rw [hlen];exact hl,nofun⟩,hm,fun h0=>?_⟩,fun r hr=>?_⟩
  ·rw [hlen] at h0
   obtain ⟨b,off,spot⟩:=a;have c0:=(hq 0 (by omega)).2 0 _ rfl;have hs:spot=none:=by simpa [Addr.add] using World.cell?_spot c0
   subst hs;refine ⟨b,off,rfl,fun i hi j u hu=>?_⟩;rw [hlen] at hi;have hu':(K4.enc (q i))[j]? = some u:=by rw [← get i hi];exact hu
   have c:=(hq i (by omega)).2 j u hu';rw [add_plain] at c
   show W.cell? ⟨b,off+i * 4+j,none⟩=some u
   rw [Nat.add_assoc];exact c
  ·obtain ⟨i,hi,rfl⟩:=List.mem_map.1 hr
   exact (hq i (by have:=List.mem_range.1 hi;omega)).1
end Go.Proofs.YtljnkaodhfnbbaaGreatDoor.Fl
namespace Go.Proofs.YtljnkaodhfnbbaaGreatDoor.Fs
open Go.ChangeShapes Go.WideShapes Go.ChangeAt Go.RowKit Go.Deep
open Rw (Rd Ow At)
open Fl (R4 z4 K4 rec4 okR okL rec_cells recs_of)
section
variable {H:Type} {enc:TypeId×Value→H} {W:World} {base fuel:Nat} {sp:Nat→Bool} {held:Bool} {cs:List Value} {x:DataW H×List MemPlace}
theorem file_cells (h:DataW.trod enc Tryz.prog W base sp held fuel 70 cs=some x):∃ q u l,cs = [.int .i64 q,u]∧Rd K4 W u l∧okL l:=by
 have c2:Tryz.prog.cellsOf 70=2:=by kernel_rfl
 have c1:Tryz.prog.cellsOf 3=1:=by kernel_rfl
 have c3:Tryz.prog.cellsOf 68=1:=by kernel_rfl
 obtain ⟨xs,m,_,_,hs,hx,hi⟩:=DataW.trod_struct Tryz.underlying70 h;rw [c2] at hs
 match cs,hs,xs,hx,hi with
 | [u,v],_,[x0,x1],_,hi =>
   have e0:DataW.trod enc Tryz.prog W base sp held m 3 (([u,v].drop 0).take (Tryz.prog.cellsOf 3))=some x0:=hi 0 _ rfl;have e1:DataW.trod enc Tryz.prog W base sp held m 68 (([u,v].drop 1).take (Tryz.prog.cellsOf 68))=some x1:=hi 1 _ rfl;rw [c1] at e0;rw [c3] at e1;obtain ⟨a,ha,_⟩:=DataW.trod_int Tryz.underlying3 (x:=x0) e0
   simp at ha
   subst ha;obtain ⟨l,R,ok⟩:=recs_of (u:=v) e1;exact ⟨a,v,l,rfl,R,ok⟩
end
def laid : List (String × DataW Unit) := [("errors.errorType", Rows.laid_errors_errorType)]
theorem et : Tryz.prog.globalNamed "errors.errorType" = some 1 := by kernel_rfl
theorem rt : (Tryz.prog.cutTypes.find? (·.1 == "internal/reflectlite.rtype")).map (·.2) = some 337 := by kernel_rfl
theorem oneRow:((List.range 426).filter fun t=>Tryz.prog.rowNamed t [101,114,114,111,114]) = [214]:=by kernel_rfl
theorem tsize:Tryz.prog.types.size=426:=by kernel_rfl
theorem glob_of {W:World} (h:laidMetH Tryz.prog laid W):Glob W:=by
 have h':laidMet Tryz.prog [] W∧handlesMet Tryz.prog laid W:=h;obtain ⟨name,u,ty,e1,e2,e3,e4,e5⟩:=h'.2 _ (List.mem_singleton.2 rfl);have en:name = [101,114,114,111,114]:=(Option.some.inj e1).symm;subst en;obtain rfl:=Option.some.inj (rt.symm.trans e2);have hm:ty∈(List.range 426).filter fun t=>Tryz.prog.rowNamed t [101,114,114,111,114]:=List.mem_filter.2 ⟨List.mem_range.2 (by rw [← tsize];exact e3),e4⟩;rw [oneRow] at hm;obtain rfl:=List.mem_singleton.1 hm;have hh:typeHandle Tryz.prog 214 = .pointer (some ⟨2,214,none⟩):=by kernel_rfl
 rw [hh] at e5;have:=World.var?_cell et e5 0;unfold Glob
 simpa using this
noncomputable def laidWorld (os:Os):World :=
 let w0:=World.holding Tryz.prog os ⟨#[],#[],[]⟩
 { w0 with heap:=w0.heap.modify 1 fun
  | .cells _ t frozen=>.cells #[.iface 337 (.agg #[.pointer (some ⟨2,214,none⟩)])] t frozen
  | o=>o }
theorem laidWorld_met (os:Os) (args:Array Value):laidMetH Tryz.prog laid ((laidWorld os).forCall (fun _ _=>0) ⟨#[],args,[]⟩).memory :=
 laidMetH_of_parts (laidMet_nil _ _) (by kernel_rfl)
end Go.Proofs.YtljnkaodhfnbbaaGreatDoor.Fs
namespace Go.Proofs.YtljnkaodhfnbbaaGreatDoor.Pa
open Go.ChangeShapes Go.WideShapes Go.ChangeAt Go.RowKit Go.Deep
open Rw (Rd Ow At)
open Fl (R4 z4 K4 okR okL)
open Fs (Ent E3 file_cells)
open Ro (E5 K5)
open Ck (Hd sl zh)
theorem open_rd {α:Type} {K:Rw.Kind α} (Q:α→Prop) {H:Type} {enc:TypeId×Value→H} {W:World} {u:Value} {base fuel:Nat} {sp:Nat→Bool} {held:Bool} {x:DataW H×List MemPlace} {T E:TypeId}
 (hu:Tryz.prog.underlying T=some (.slice E)) (hc:Tryz.prog.cellsOf E=K.n) (el:∀ {n:Nat} {cs:List Value} {y:DataW H×List MemPlace},DataW.trod enc Tryz.prog W base sp held n E cs=some y→∃ r:α,cs=K.enc r∧Q r)
 (h:DataW.trod enc Tryz.prog W base sp held fuel T [u]=some x):∃ l,Rd K W u l∧∀ r∈l,Q r:=by
 rcases open_slice hu h with ⟨e,_⟩ | ⟨a,len,cap,m,n,D,Pl,e,_,hl,hm,hmm,_,hx⟩
 ·simp at e
  subst e;exact ⟨[],Rw.Rd.nil _,fun r hr=>by cases hr⟩
 ·simp at e
  subst e;have hlm:len≤m:=by rw [hmm];split <;> omega
  have each:∀ i,i < m→∃ r:α,Q r∧∀ j u,(K.enc r)[j]? = some u→W.cell? (a.add (i * K.n+j))=some u:=fun i hi=>by
   obtain ⟨cs',h1,h2⟩:=hx i hi;rw [hc] at h1;obtain ⟨_,hlen,hcell⟩:=World.cells?_some h1;obtain ⟨r,rfl,ok⟩:=el h2;refine ⟨r,ok,fun j u hu=>?_⟩;have hj:j < K.n:=by have:=(List.getElem?_eq_some_iff.1 hu).1;rw [hlen] at this;exact this
   have e:=hcell j hj;rw [add_add] at e;exact e.trans hu
  haveI:Inhabited α:=⟨K.dft⟩
  obtain ⟨q,hq⟩:=choose_lt each;have hlen:((List.range len).map q).length=len:=by simp
  have get:∀ i,i < len→((List.range len).map q).getD i K.dft=q i:=fun i hi=>by simp [List.getD,hi]
  refine ⟨(List.range len).map q,⟨some a,cap,by rw [hlen],⟨by rw [hlen];exact hl,nofun⟩,hm,fun h0=>?_⟩,fun r hr=>?_⟩
  ·rw [hlen] at h0
   obtain ⟨b,off,spot⟩:=a;have hp:0 < (K.enc (q 0)).length:=by rw [K.len];exact K.pos
   have c0:=(hq 0 (by omega)).2 0 _ (List.getElem?_eq_getElem hp);have hs:spot=none:=by simpa [Addr.add] using World.cell?_spot c0
   subst hs;refine ⟨b,off,rfl,fun i hi j u hu=>?_⟩;rw [hlen] at hi;have hu':(K.enc (q i))[j]? = some u:=by rw [← get i hi];exact hu
   have c:=(hq i (by omega)).2 j u hu';rw [add_plain] at c
   show W.cell? ⟨b,off+i * K.n+j,none⟩=some u
   rw [Nat.add_assoc];exact c
  ·obtain ⟨i,hi,rfl⟩:=List.mem_map.1 hr
   exact (hq i (by have:=List.mem_range.1 hi;omega)).1
section
variable {H:Type} {enc:TypeId×Value→H} {W:World} {base fuel:Nat} {sp:Nat→Bool} {held:Bool} {cs:List Value} {x:DataW H×List MemPlace}
theorem named_cells (h:DataW.trod enc Tryz.prog W base sp held fuel 72 cs=some x):∃ c:Ent,cs=E3.enc c∧Rd K4 W c.sl c.l∧okL c.l:=by
 have c3:Tryz.prog.cellsOf 72=3:=by kernel_rfl
 have c1:Tryz.prog.cellsOf 3=1:=by kernel_rfl
 have c2:Tryz.prog.cellsOf 70=2:=by kernel_rfl
 obtain ⟨xs,m,_,_,hs,hx,hi⟩:=DataW.trod_struct Tryz.underlying72 h;rw [c3] at hs
 match cs,hs,xs,hx,hi with
 | [u0,u1,u2],_,[x0,x1],_,hi =>
   have e0:DataW.trod enc Tryz.prog W base sp held m 3 (([u0,u1,u2].drop 0).take (Tryz.prog.cellsOf 3))=some x0:=hi 0 _ rfl;have e1:DataW.trod enc Tryz.prog W base sp held m 70 (([u0,u1,u2].drop 1).take (Tryz.prog.cellsOf 70))=some x1:=hi 1 _ rfl;rw [c1] at e0;rw [c2] at e1;obtain ⟨k,hk,_,wk⟩:=DataW.trod_int Tryz.underlying3 (x:=x0) e0;obtain ⟨p,u,l,h3,R,okl⟩:=file_cells e1;obtain ⟨a,cap,rfl,_⟩:=R.slice;have k' : [u0] = [.int .i64 k]:=hk;have h3' : [u1,u2] = [.int .i64 p,.slice a l.length cap]:=h3;simp only [List.cons.injEq,and_true] at k' h3';obtain rfl:=k';obtain ⟨rfl,rfl⟩:=h3';exact ⟨⟨k,p,a,cap,l⟩,rfl,R,okl⟩
theorem any_slice {T E:TypeId} {u:Value} (hu:Tryz.prog.underlying T=some (.slice E)) (h:DataW.trod enc Tryz.prog W base sp held fuel T [u]=some x):∃ s:Hd,u=sl s:=by
 rcases open_slice hu h with ⟨e,_⟩ | ⟨a,len,cap,m,n,D,Pl,e,_⟩
 ·simp at e
  exact ⟨zh,e⟩
 ·simp at e
  exact ⟨(some a,len,cap),e⟩
end
end Go.Proofs.YtljnkaodhfnbbaaGreatDoor.Pa
namespace Go.Proofs.YtljnkaodhfnbbaaGreatDoor.Cu
open Go.ChangeShapes Go.WideShapes Go.ChangeAt Go.RowKit Go.Deep
open Rw (Rd Ow At)
open Fl (R4 z4 K4 okR okL)
open Fs (Ent E3)
open Pa (open_rd named_cells any_slice eatF)
open Ck (Hd sl zh)
section
variable {H:Type} {enc:TypeId×Value→H} {W:World} {base fuel:Nat} {sp:Nat→Bool} {held:Bool} {cs:List Value} {x:DataW H×List MemPlace}
def PlOk (W:World) (c:PlD):Prop:=Rd E3 W (sl c.files) c.F∧∀ e∈c.F,Rd K4 W e.sl e.l∧okL e.l
theorem plan_cells (h:DataW.trod enc Tryz.prog W base sp held fuel 60 cs=some x):∃ c:PlD,cs=KP.enc c∧PlOk W c:=by
 have c2:Tryz.prog.cellsOf 60=2:=by kernel_rfl
 have d0:Tryz.prog.cellsOf 47=1:=by kernel_rfl
 have d1:Tryz.prog.cellsOf 3=1:=by kernel_rfl
 obtain ⟨xs,m,_,_,hs,hx,hi⟩:=DataW.trod_struct Tryz.underlying60 h;rw [c2] at hs
 match cs,hs,xs,hx,hi with
 | [u0,u1],_,[x0,x1],_,hi =>
   have e0:DataW.trod enc Tryz.prog W base sp held m 47 (([u0,u1].drop 0).take (Tryz.prog.cellsOf 47))=some x0:=hi 0 _ rfl;have e1:DataW.trod enc Tryz.prog W base sp held m 3 (([u0,u1].drop 1).take (Tryz.prog.cellsOf 3))=some x1:=hi 1 _ rfl;rw [d0] at e0;rw [d1] at e1;obtain ⟨F,RF,QF⟩:=open_rd (K:=E3) (fun c=>Rd K4 W c.sl c.l∧okL c.l) Tryz.underlying47 (by kernel_rfl) (fun h=>named_cells h) (u:=u0) e0;obtain ⟨k,hk,_,_⟩:=DataW.trod_int Tryz.underlying3 (x:=x1) e1;obtain ⟨s0,rfl⟩:=any_slice Tryz.underlying47 (u:=u0) e0;have k' : [u1] = [.int .i64 k]:=hk;simp only [List.cons.injEq,and_true] at k';obtain rfl:=k';exact ⟨⟨s0,k,F⟩,rfl,RF,QF⟩
theorem act_cells (h:DataW.trod enc Tryz.prog W base sp held fuel 44 cs=some x):∃ c:Ac,cs=KA.enc c∧okR c.v∧Fs.Wf c.f:=by
 have c11:Tryz.prog.cellsOf 44=11:=by kernel_rfl
 have d0:Tryz.prog.cellsOf 3=1:=by kernel_rfl
 have d1:Tryz.prog.cellsOf 42=4:=by kernel_rfl
 obtain ⟨xs,m,_,_,hs,hx,hi⟩:=DataW.trod_struct Tryz.underlying44 h;rw [c11] at hs
 match cs,hs,xs,hx,hi with
 | [u0,u1,u2,u3,u4,u5,u6,u7,u8,u9,u10],_,[x0,x1,x2,x3,x4,x5,x6,x7],_,hi =>
   have e0:DataW.trod enc Tryz.prog W base sp held m 3 (([u0,u1,u2,u3,u4,u5,u6,u7,u8,u9,u10].drop 0).take (Tryz.prog.cellsOf 3))=some x0:=hi 0 _ rfl;have e1:DataW.trod enc Tryz.prog W base sp held m 3 (([u0,u1,u2,u3,u4,u5,u6,u7,u8,u9,u10].drop 1).take (Tryz.prog.cellsOf 3))=some x1:=hi 1 _ rfl;have e2:DataW.trod enc Tryz.prog W base sp held m 3 (([u0,u1,u2,u3,u4,u5,u6,u7,u8,u9,u10].drop 2).take (Tryz.prog.cellsOf 3))=some x2:=hi 2 _ rfl;have e3:DataW.trod enc Tryz.prog W base sp held m 3 (([u0,u1,u2,u3,u4,u5,u6,u7,u8,u9,u10].drop 3).take (Tryz.prog.cellsOf 3))=some x3:=hi 3 _ rfl;have e4:DataW.trod enc Tryz.prog W base sp held m 42 (([u0,u1,u2,u3,u4,u5,u6,u7,u8,u9,u10].drop 4).take (Tryz.prog.cellsOf 42))=some x4:=hi 4 _ rfl;have e5:DataW.trod enc Tryz.prog W base sp held m 3 (([u0,u1,u2,u3,u4,u5,u6,u7,u8,u9,u10].drop 8).take (Tryz.prog.cellsOf 3))=some x5:=hi 5 _ rfl;have e6:DataW.trod enc Tryz.prog W base sp held m 3 (([u0,u1,u2,u3,u4,u5,u6,u7,u8,u9,u10].drop 9).take (Tryz.prog.cellsOf 3))=some x6:=hi 6 _ rfl;have e7:DataW.trod enc Tryz.prog W base sp held m 3 (([u0,u1,u2,u3,u4,u5,u6,u7,u8,u9,u10].drop 10).take (Tryz.prog.cellsOf 3))=some x7:=hi 7 _ rfl;rw [d0] at e0 e1 e2 e3 e5 e6 e7;rw [d1] at e4;obtain ⟨k0,h0,_⟩:=DataW.trod_int Tryz.underlying3 (x:=x0) e0
   replace h0 : [u0] = [.int .i64 k0]:=h0
   obtain ⟨k1,h1,_⟩:=DataW.trod_int Tryz.underlying3 (x:=x1) e1
   replace h1 : [u1] = [.int .i64 k1]:=h1
   obtain ⟨k2,h2,_,wf2⟩:=DataW.trod_int Tryz.underlying3 (x:=x2) e2
   replace h2 : [u2] = [.int .i64 k2]:=h2
   obtain ⟨k3,h3,_⟩:=DataW.trod_int Tryz.underlying3 (x:=x3) e3
   replace h3 : [u3] = [.int .i64 k3]:=h3
   obtain ⟨r,h4,ok⟩:=Fl.rec_cells e4
   replace h4 : [u4,u5,u6,u7] = [.int .u8 r.1,.int .u8 r.2.1,.int .u8 r.2.2.1,.int .u8 r.2.2.2]:=h4
   obtain ⟨k5,h5,_⟩:=DataW.trod_int Tryz.underlying3 (x:=x5) e5
   replace h5 : [u8] = [.int .i64 k5]:=h5
   obtain ⟨k6,h6,_⟩:=DataW.trod_int Tryz.underlying3 (x:=x6) e6
   replace h6 : [u9] = [.int .i64 k6]:=h6
   obtain ⟨k7,h7,_⟩:=DataW.trod_int Tryz.underlying3 (x:=x7) e7
   replace h7 : [u10] = [.int .i64 k7]:=h7
   simp only [List.cons.injEq,and_true] at h0 h1 h2 h3 h4 h5 h6 h7;obtain rfl:=h0;obtain rfl:=h1;obtain rfl:=h2;obtain rfl:=h3;obtain ⟨rfl,rfl,rfl,rfl⟩:=h4;obtain rfl:=h5;obtain rfl:=h6;obtain rfl:=h7;exact ⟨⟨k0,k1,k2,k3,r,k5,k6,k7⟩,rfl,ok,wf2⟩
end
theorem plans_of {H:Type} {enc:TypeId×Value→H} {W:World} {v:Value} {base:Nat} {sp:Nat→Bool} {held:Bool} {d:DataW H} {p:List MemPlace} {r:Reach} {b0:Nat}
 (hv:Value.okWide Tryz.prog W r b0 22 v) (h:DataW.Trod enc Tryz.prog W base sp held 22 v d p):∃ L,Pls W v L W.heap.size:=by
 obtain ⟨a,len,cap,rfl⟩:=okWide_slice Tryz.underlying22 hv;obtain ⟨fuel,hf⟩:=h;obtain ⟨L,R,Q⟩:=open_rd (K:=KP) (PlOk W) Tryz.underlying22 (by kernel_rfl) (fun h=>plan_cells h) (u:=.slice a len cap) hf;refine ⟨L,R,fun i hi=>?_⟩;have at_:pld L i∈L:=by
  unfold pld;rw [List.getD_eq_getElem?_getD,List.getElem?_eq_getElem hi];exact List.getElem_mem hi
 obtain ⟨q1,q2⟩:=Q _ at_;have mem:∀ j,j < (pld L i).F.length→eatF (pld L i).F j∈(pld L i).F:=fun j hj=>by
  unfold eatF;rw [List.getD_eq_getElem?_getD,List.getElem?_eq_getElem hj];exact List.getElem_mem hj
 exact ⟨q1,fun j hj=>q2 _ (mem j hj),fun j hj h0 k hk=>Fs.rd_low (q2 _ (mem j hj)).1 h0 k hk⟩
theorem acts_of {H:Type} {enc:TypeId×Value→H} {W:World} {v:Value} {base:Nat} {sp:Nat→Bool} {held:Bool} {d:DataW H} {p:List MemPlace} {r:Reach} {b0:Nat}
 (hv:Value.okWide Tryz.prog W r b0 23 v) (h:DataW.Trod enc Tryz.prog W base sp held 23 v d p):∃ l,Rd KA W v l∧∀ x∈l,okR x.v∧Fs.Wf x.f:=by
 obtain ⟨a,len,cap,rfl⟩:=okWide_slice Tryz.underlying23 hv;obtain ⟨fuel,hf⟩:=h;exact open_rd (K:=KA) (fun x=>okR x.v∧Fs.Wf x.f) Tryz.underlying23 (by kernel_rfl) (fun h=>act_cells h) (u:=.slice a len cap) hf
end Go.Proofs.YtljnkaodhfnbbaaGreatDoor.Cu
namespace Go.Proofs.YtljnkaodhfnbbaaGreatDoor.Cu
open Go.ChangeShapes Go.WideShapes Go.ChangeAt Go.RowKit Go.Deep
open Rw (Rd Ow At)
open Pa (open_rd)
theorem shorts_of {H:Type} {enc:TypeId×Value→H} {W:World} {v:Value} {base:Nat} {sp:Nat→Bool} {held:Bool} {d:DataW H} {p:List MemPlace} {r:Reach} {b0:Nat}
 (hv:Value.okWide Tryz.prog W r b0 58 v) (h:DataW.Trod enc Tryz.prog W base sp held 58 v d p):∃ l,Rd (Rw.int .i16) W v l∧∀ x∈l,-32768≤x∧x≤32767:=by
 obtain ⟨a,len,cap,rfl⟩:=okWide_slice Tryz.underlying58 hv;obtain ⟨fuel,hf⟩:=h
 exact open_rd (K:=Rw.int .i16) (fun x=>-32768≤x∧x≤32767) Tryz.underlying58 (by kernel_rfl) (fun h=>by
  obtain ⟨n,h1,_,wf⟩:=DataW.trod_int Tryz.underlying61 h
  exact ⟨n,h1,bounds_i16 wf⟩) (u:=.slice a len cap) hf
end Go.Proofs.YtljnkaodhfnbbaaGreatDoor.Cu
namespace Go.Proofs.YtljnkaodhfnbbaaGreatDoor.Cu
open Go.RowKit Go.Maps
open Fs (Abs St Only Fx)
open Rw (Rd Ow At)
open Pa (Sts sat KN only_grown Stl Has)
section
variable {E:TypeId} {w wr w1:World} {S:Sts} {k:Nat} {o o':Value} {ps:List Nat} {Fs:Nat→Nat→Prop} {g:Nat} {F5:Nat→Prop}
structure PJ (E:TypeId) (w:World) (S:Sts) (k:Nat) (o:Value) (ps:List Nat) (Fs:Nat→Nat→Prop) (wr:World):Prop where
 own:Ow KN wr w.heap.size E o ps
 len:ps.length=k
 each:∀ i,i < k→St wr (ps.getD i 0) (Fs i) (sat S i).1 (sat S i).2
 lo:∀ i,i < k→∀ j,Fs i j→w.heap.size≤j∧o.ownBlock≠some j
 dis:∀ i m,i < k→m < k→i≠m→∀ j,Fs i j→¬ Fs m j
 bel:Below w.heap.size w wr
structure PK (E:TypeId) (w:World) (S:Sts) (k:Nat) (o:Value) (ps:List Nat) (Fs:Nat→Nat→Prop) (g:Nat) (F5:Nat→Prop) (wr:World):Prop where
 old:PJ E w S k o ps Fs wr
 new:St wr g F5 (sat S k).1 (sat S k).2
 nlo:∀ j,F5 j→w.heap.size≤j∧o.ownBlock≠some j
 ndis:∀ i,i < k→∀ j,F5 j→¬ Fs i j
theorem PJ.start (hb:Below w.heap.size w wr):PJ E w S 0 (.slice none 0 0) [] Fs wr:=⟨Rw.Ow.nil _ _ _,rfl,fun i hi=>by omega,fun i hi=>by omega,fun i m hi=>by omega,hb⟩
theorem PJ.below (h:PJ E w S k o ps Fs wr) (b:Below wr.heap.size wr w1):PJ E w S k o ps Fs w1:=⟨h.own.keep b,h.len,fun i hi=>(h.each i hi).below b,h.lo,h.dis,h.bel.trans (b.mono h.bel.size)⟩
theorem PJ.list_lt (h:PJ E w S k o ps Fs wr):∀ k,o.ownBlock=some k→k < wr.heap.size:=fun k e=>(World.ownsRow.lt h.own k e).2
theorem PJ.pend (h:PJ E w S k o ps Fs wr) (b:Below wr.heap.size wr w1) (st:St w1 g F5 (sat S k).1 (sat S k).2) (lo5:∀ j,F5 j→wr.heap.size≤j):PK E w S k o ps Fs g F5 w1 :=
 ⟨h.below b,st,fun j hj=>⟨Nat.le_trans h.bel.size (lo5 j hj),fun e=>by have:=h.list_lt j e;have:=lo5 j hj;omega⟩,fun i hi j hj q=>by have:=(h.each i hi).low j q;have:=lo5 j hj;omega⟩
theorem PK.below (h:PK E w S k o ps Fs g F5 wr) (b:Below wr.heap.size wr w1):PK E w S k o ps Fs g F5 w1:=⟨h.old.below b,h.new.below b,h.nlo,h.ndis⟩
def fsN (Fs:Nat→Nat→Prop) (k:Nat) (F5:Nat→Prop) (i:Nat):Nat→Prop:=if i=k then F5 else Fs i
theorem PK.push (h:PK E w S k o ps Fs g F5 wr) (own:Ow KN w1 w.heap.size E o' (ps ++ [g])) (gr:wr.grownBy w1 o.ownBlock) (hq:o'.ownBlock=o.ownBlock∨∃ g,o'.ownBlock=some g∧wr.heap.size≤g):PJ E w S (k+1) o' (ps ++ [g]) (fsN Fs k F5) w1:=by
 have oq:=only_grown gr;have len:=h.old.len;have at_old:∀ i,i < k→(ps ++ [g]).getD i 0=ps.getD i 0:=fun i hi=>by rw [List.getD_eq_getElem?_getD,List.getElem?_append_left (by rw [len];exact hi),List.getD_eq_getElem?_getD]
 have at_new:(ps ++ [g]).getD k 0=g:=by rw [List.getD_eq_getElem?_getD,List.getElem?_append_right (by rw [len];exact Nat.le_refl _),len];simp
 have f_old:∀ i,i < k→fsN Fs k F5 i=Fs i:=fun i hi=>if_neg (by omega);have f_new:fsN Fs k F5 k=F5:=if_pos rfl;have off:∀ (F:Nat→Prop) j,F j→(∀ j,F j→j < wr.heap.size)→o.ownBlock≠some j→o'.ownBlock≠some j:=fun F j hj hl hn e=>by
  rcases hq with q | ⟨x,q,hx⟩
  ·exact hn (by rw [← q];exact e)
  ·rw [q] at e
   injection e with e;have:=hl j hj
   omega
 refine ⟨own,by rw [List.length_append,len];rfl,fun i hi=>?_,fun i hi=>?_,fun i m hi hm hne=>?_,h.old.bel.grown gr h.old.bel.size fun j e=>(World.ownsRow.lt h.old.own j e).1⟩
 ·by_cases e:i=k
  ·subst e
   rw [at_new,f_new];exact h.new.only (fun j hj e=>(h.nlo j hj).2 e) oq
  ·rw [at_old i (by omega),f_old i (by omega)]
   exact (h.old.each i (by omega)).only (fun j hj e=>(h.old.lo i (by omega) j hj).2 e) oq
 ·by_cases e:i=k
  ·subst e
   rw [f_new];exact fun j hj=>⟨(h.nlo j hj).1,off F5 j hj h.new.low (h.nlo j hj).2⟩
  ·rw [f_old i (by omega)]
   exact fun j hj=>⟨(h.old.lo i (by omega) j hj).1,off _ j hj (h.old.each i (by omega)).low (h.old.lo i (by omega) j hj).2⟩
 ·by_cases e:i=k
  ·subst e
   rw [f_new,f_old m (by omega)];exact fun j hj=>h.ndis m (by omega) j hj
  ·by_cases e2:m=k
   ·subst e2
    rw [f_new,f_old i (by omega)];exact fun j hj q=>h.ndis i (by omega) j q hj
   ·rw [f_old i (by omega),f_old m (by omega)]
    exact h.old.dis i m (by omega) (by omega) hne
theorem PJ.low {w0:World} (h:PJ E w S k o ps Fs wr) (hz:w0.heap.size≤w.heap.size) (b:Below w0.heap.size w0 wr):PJ E w0 S k o ps Fs wr:=⟨h.own.low hz,h.len,h.each,fun i hi j hj=>⟨Nat.le_trans hz (h.lo i hi j hj).1,(h.lo i hi j hj).2⟩,h.dis,b⟩
theorem PJ.stl (h:PJ E w S S.length o ps Fs wr):Stl wr o S:=⟨ps,h.own.rd,h.len,fun i hi=>⟨_,h.each i hi⟩⟩
end
def BrP (w:World) (E:Int) (S':Sts) (e:Ending) (w':World):Prop:=∃ v ps Fs,e = .returned (.tuple #[v,.int .i64 E])∧(E=0→PJ 89 w S' S'.length v ps Fs w')∧(E≠0→v = .slice none 0 0)∧Below w.heap.size w w'
end Go.Proofs.YtljnkaodhfnbbaaGreatDoor.Cu
namespace Go.Proofs.YtljnkaodhfnbbaaGreatDoor.Wt
open Go.RowKit
open Fl (ret_bool at_bool row_cell row_frozen)
open Fs (Only)
attribute [local irreducible] Sd.wpSd wpQuiet
section
end
theorem only_set (r k:Nat) (w:World) (u:Value):Only (fun b=>b=r) w (w.setCell ⟨r,k,none⟩ u):=Only.set (fun b=>b=r) w (a:=⟨r,k,none⟩) rfl u
theorem only_two {r:Nat} {w w1 w2:World} (h:Only (fun b=>b=r) w w1) (g:Only (fun b=>b=r) w1 w2):Only (fun b=>b=r) w w2:=h.trans g fun _ _ q=>q
end Go.Proofs.YtljnkaodhfnbbaaGreatDoor.Wt
namespace Go.Proofs.YtljnkaodhfnbbaaGreatDoor.Wt
open Go.RowKit
open Fl (ret_bool at_bool row_cell row_frozen)
open Fs (Only)
attribute [local irreducible] Sd.wpSd wpQuiet
def rowM (r0 z0 r1 z1:Int):Array Value:=#[.int .i64 r0,.int .i64 z0,.int .i64 r1,.int .i64 z1]
def RowM (w:World) (s:Nat) (r0 z0 r1 z1:Int):Prop:=w.heap[s]? = some (.cells (rowM r0 z0 r1 z1) 212 (0,0))
theorem RowM.only {w w':World} {s:Nat} {r0 z0 r1 z1:Int} {G:Nat→Prop} (h:RowM w s r0 z0 r1 z1) (o:Only G w w') (hn:¬ G s):RowM w' s r0 z0 r1 z1:=(o.block s (lt_of_block h) hn).trans h
section
variable {w:World} {s:Nat} {r0 z0 r1 z1:Int} (h:RowM w s r0 z0 r1 z1)
include h
theorem RowM.below {w':World} (b:Below w.heap.size w w'):RowM w' s r0 z0 r1 z1:=h.only (G:=fun _=>False) (Only.of_below b) (fun g=>g)
theorem RowM.set0 (x:Int):RowM (w.setCell ⟨s,0,none⟩ (.int .i64 x)) s x z0 r1 z1:=Rw.heap_setCell_same h _
theorem RowM.set1 (x:Int):RowM (w.setCell ⟨s,1,none⟩ (.int .i64 x)) s r0 x r1 z1:=Rw.heap_setCell_same h _
theorem RowM.set2 (x:Int):RowM (w.setCell ⟨s,2,none⟩ (.int .i64 x)) s r0 z0 x z1:=Rw.heap_setCell_same h _
theorem RowM.set3 (x:Int):RowM (w.setCell ⟨s,3,none⟩ (.int .i64 x)) s r0 z0 r1 x:=Rw.heap_setCell_same h _
end
structure Vm (a:A) (z0 z1:Int) (t:Nat):Prop where
 b0:0≤z0∧z0≤t
 b1:0≤z1∧z1≤t
 e0:a.r0=2∨a.r0=3→a.q0=z0
 e1:a.r1=2∨a.r1=3→a.q1=z1
def Pr (w:World) (s:Nat) (a:A) (t:Nat):Prop:=∃ z0 z1,RowM w s a.r0 z0 a.r1 z1∧Vm a z0 z1 t
theorem Pr.only {w w':World} {s t:Nat} {a:A} {G:Nat→Prop} (h:Pr w s a t) (o:Only G w w') (hn:¬ G s):Pr w' s a t:=by
 obtain ⟨z0,z1,hr,hv⟩:=h;exact ⟨z0,z1,hr.only o hn,hv⟩
theorem Pr.lt {w:World} {s t:Nat} {a:A} (h:Pr w s a t):s < w.heap.size:=by obtain ⟨_,_,hr,_⟩:=h;exact lt_of_block hr
def CnewPost (w:World) (e:Ending) (w':World):Prop:=∃ s,e = .returned (.pointer (some ⟨s,0,none⟩))∧Pr w' s new 0∧w.heap.size≤s∧Below w.heap.size w w'
def CdeedPost (w:World) (s:Nat) (x:Int) (a:A) (t:Nat) (e:Ending) (w':World):Prop:=e = .returned (.int .i64 x)∧Pr w' s a t∧Only (fun b=>b=s) w w'
theorem new_any (w:World):Calls Tryz.prog 50 #[] w (CnewPost w):=by
 have E:Hid (CnewPost w (.returned (.pointer (some ⟨w.heap.size,0,none⟩))) (w.alloc (.cells #[.int .i64 1,.int .i64 0,.int .i64 2,.int .i64 0] 212))):=Lib.hid ⟨_,rfl,⟨0,0,heap_alloc_new w _,⟨by decide,by decide,fun _=>rfl,fun _=>rfl⟩⟩,Nat.le_refl _,(Below.refl _ _).alloc (Nat.le_refl _) _⟩
 go_enter Tryz.func50,Tryz.ntmps50
 go_wp2
 go_ret
 exact E.out
def hs (n:Int):Bool:=decide (0≤n) && decide (n < 2)
theorem has_any (w:World) (s:Nat) (n:Int):Calls Tryz.prog 131 #[.pointer (some ⟨s,0,none⟩),.int .i64 n] w fun e w'=>e = .returned (.bool (hs n))∧Below w.heap.size w w':=by
 have E:Hid (hs n=(decide (0≤n) && decide (n < 2))):=Lib.hid rfl;generalize hs n=b at *
 by_cases h0:0≤n
 ·by_cases h2:n < 2
  ·obtain rfl:b=true:=by rw [E.out];simp [h0,h2]
   clear E
   go_enter Tryz.func131,Tryz.ntmps131
   go_wp2
   go_ret
   exact ⟨rfl,Below.refl _ _⟩
  ·obtain rfl:b=false:=by rw [E.out];simp [h2]
   clear E
   go_enter Tryz.func131,Tryz.ntmps131
   go_wp2
   go_ret
   exact ⟨rfl,Below.refl _ _⟩
 ·obtain rfl:b=false:=by rw [E.out];simp [h0]
  clear E
  go_enter Tryz.func131,Tryz.ntmps131
  go_wp2
  go_ret
  exact ⟨rfl,Below.refl _ _⟩
theorem hs_no {n:Int} (h0:n≠0) (h1:n≠1):hs n=false:=by
 unfold hs
 by_cases a:0≤n
 ·have:¬ n < 2:=by omega
  simp [this]
 ·simp [a]
set_option maxHeartbeats 1000000 in
theorem crash0 {w:World} {s t:Nat} {a:A} (P:Pr w s a t):Calls Tryz.prog 121 #[.pointer (some ⟨s,0,none⟩),.int .i64 0] w (CdeedPost w s (crE a 0) (crA a 0) t):=by
 obtain ⟨z0,z1,hr,hv⟩:=P;have H:=Lib.hid (has_any w s 0);rw [show hs 0=true from rfl] at H;have e1:crE a 0=if a.r0=4 then 10 else 0:=rfl;have e2:crA a 0 = { a with r0:=4 }:=rfl
 by_cases q:a.r0=4
 ·have E:Hid (∀ w',Below w.heap.size w w'→CdeedPost w s (crE a 0) (crA a 0) t (.returned (.int .i64 10)) w'):=Lib.hid fun w' b=>⟨by rw [e1,if_pos q],by rw [e2];exact ⟨z0,z1,by have:=hr.below b;rw [q] at this;exact this,⟨hv.b0,hv.b1,(fun g=>absurd g (by show ¬ ((4:Int)=2∨(4:Int)=3);decide)),hv.e1⟩⟩,Only.of_below b⟩
  have R:=Lib.hid hr;rw [q] at R;clear hr hv e1 e2;generalize crE a 0=x at *;generalize crA a 0=a' at *
  go_enter Tryz.func121,Tryz.ntmps121
  go_wp2_with fail;refine H.out.mono ?_;rintro e w1 ⟨rfl,b1⟩;have c0:w1.cell? ⟨s,0,none⟩=some (.int .i64 4):=row_cell (R.out.below b1) 0;have F:=Lib.hid (E.out w1 b1);clear R H E b1 q;go_wp2
  go_ret
  exact F.out
 ·have E:Hid (∀ w',Below w.heap.size w w'→CdeedPost w s (crE a 0) (crA a 0) t (.returned (.int .i64 0)) ((w'.setCell ⟨s,0,none⟩ (.int .i64 4)).setCell ⟨s,1,none⟩ (.int .i64 0))):=Lib.hid fun w' b=>⟨by rw [e1,if_neg q],by rw [e2];exact ⟨0,z1,((hr.below b).set0 4).set1 0,⟨⟨by decide,by omega⟩,hv.b1,(fun g=>absurd g (by show ¬ ((4:Int)=2∨(4:Int)=3);decide)),hv.e1⟩⟩,((Only.of_below b).trans (only_set s 0 _ _) (fun _ _ q=>q)).trans (only_set s 1 _ _) (fun _ _ q=>q)⟩
  have R:=Lib.hid hr;clear hr hv e1 e2;generalize crE a 0=x' at *;generalize crA a 0=a' at *;generalize a.r0=x0 at *;generalize a.r1=x1 at *
  go_enter Tryz.func121,Tryz.ntmps121
  go_wp2_with fail;refine H.out.mono ?_;rintro e w1 ⟨rfl,b1⟩;have c0:w1.cell? ⟨s,0,none⟩=some (.int .i64 x0):=row_cell (R.out.below b1) 0;have f0:=row_frozen (R.out.below b1) 0;have f1:=row_frozen (R.out.below b1) 1;have c1:w1.cell? ⟨s,1,none⟩=some (.int .i64 z0):=row_cell (R.out.below b1) 1;have F:=Lib.hid (E.out w1 b1);clear R H E b1;go_wp2
  go_ret
  exact F.out
set_option maxHeartbeats 1000000 in
theorem crash1 {w:World} {s t:Nat} {a:A} (P:Pr w s a t):Calls Tryz.prog 121 #[.pointer (some ⟨s,0,none⟩),.int .i64 1] w (CdeedPost w s (crE a 1) (crA a 1) t):=by
 obtain ⟨z0,z1,hr,hv⟩:=P;have H:=Lib.hid (has_any w s 1);rw [show hs 1=true from rfl] at H;have e1:crE a 1=if a.r1=4 then 10 else 0:=rfl;have e2:crA a 1 = { a with r1:=4 }:=rfl
 by_cases q:a.r1=4
 ·have E:Hid (∀ w',Below w.heap.size w w'→CdeedPost w s (crE a 1) (crA a 1) t (.returned (.int .i64 10)) w'):=Lib.hid fun w' b=>⟨by rw [e1,if_pos q],by rw [e2];exact ⟨z0,z1,by have:=hr.below b;rw [q] at this;exact this,⟨hv.b0,hv.b1,hv.e0,(fun g=>absurd g (by show ¬ ((4:Int)=2∨(4:Int)=3);decide))⟩⟩,Only.of_below b⟩
  have R:=Lib.hid hr;rw [q] at R;clear hr hv e1 e2;generalize crE a 1=x at *;generalize crA a 1=a' at *
  go_enter Tryz.func121,Tryz.ntmps121
  go_wp2_with fail;refine H.out.mono ?_;rintro e w1 ⟨rfl,b1⟩;have c0:w1.cell? ⟨s,2,none⟩=some (.int .i64 4):=row_cell (R.out.below b1) 2;have F:=Lib.hid (E.out w1 b1);clear R H E b1 q;go_wp2
  go_ret
  exact F.out
 ·have E:Hid (∀ w',Below w.heap.size w w'→CdeedPost w s (crE a 1) (crA a 1) t (.returned (.int .i64 0)) ((w'.setCell ⟨s,2,none⟩ (.int .i64 4)).setCell ⟨s,3,none⟩ (.int .i64 0))):=Lib.hid fun w' b=>⟨by rw [e1,if_neg q],by rw [e2];exact ⟨z0,0,((hr.below b).set2 4).set3 0,⟨hv.b0,⟨by decide,by omega⟩,hv.e0,(fun g=>absurd g (by show ¬ ((4:Int)=2∨(4:Int)=3);decide))⟩⟩,((Only.of_below b).trans (only_set s 2 _ _) (fun _ _ q=>q)).trans (only_set s 3 _ _) (fun _ _ q=>q)⟩
  have R:=Lib.hid hr;clear hr hv e1 e2;generalize crE a 1=x' at *;generalize crA a 1=a' at *;generalize a.r0=x0 at *;generalize a.r1=x1 at *
  go_enter Tryz.func121,Tryz.ntmps121
  go_wp2_with fail;refine H.out.mono ?_;rintro e w1 ⟨rfl,b1⟩;have c0:w1.cell? ⟨s,2,none⟩=some (.int .i64 x1):=row_cell (R.out.below b1) 2;have f0:=row_frozen (R.out.below b1) 2;have f1:=row_frozen (R.out.below b1) 3;have c1:w1.cell? ⟨s,3,none⟩=some (.int .i64 z1):=row_cell (R.out.below b1) 3;have F:=Lib.hid (E.out w1 b1);clear R H E b1;go_wp2
  go_ret
  exact F.out
theorem crash_any {w:World} {s t:Nat} {a:A} (P:Pr w s a t) (n:Int):Calls Tryz.prog 121 #[.pointer (some ⟨s,0,none⟩),.int .i64 n] w (CdeedPost w s (crE a n) (crA a n) t):=by
 by_cases h0:n=0
 ·subst h0;exact crash0 P
 ·by_cases h1:n=1
  ·subst h1;exact crash1 P
  ·have E:Hid (∀ w',Below w.heap.size w w'→CdeedPost w s (crE a n) (crA a n) t (.returned (.int .i64 1)) w'):=Lib.hid fun w' b=>⟨by unfold crE;rw [if_neg h0,if_neg h1],by unfold crA;rw [if_neg h0,if_neg h1];exact P.only (G:=fun _=>False) (Only.of_below b) (fun g=>g),Only.of_below b⟩
   have H:=Lib.hid (has_any w s n);rw [hs_no h0 h1] at H;clear P h0 h1
   go_enter Tryz.func121,Tryz.ntmps121
   go_wp2_with fail;refine H.out.mono ?_;rintro e w1 ⟨rfl,b1⟩;have F:=Lib.hid (E.out w1 b1);clear H E b1;go_wp2
   go_ret
   exact F.out
set_option maxHeartbeats 1000000 in
theorem restart0 {w:World} {s t:Nat} {a:A} (P:Pr w s a t):Calls Tryz.prog 122 #[.pointer (some ⟨s,0,none⟩),.int .i64 0] w (CdeedPost w s (rsE a 0) (rsA a 0) t):=by
 obtain ⟨z0,z1,hr,hv⟩:=P;have H:=Lib.hid (has_any w s 0);rw [show hs 0=true from rfl] at H;have e1:rsE a 0=if a.r0=4 then 0 else 10:=rfl;have e2:rsA a 0=if a.r0=4 then { a with r0:=3,q0:=0 } else a:=rfl
 by_cases q:a.r0=4
 ·have E:Hid (∀ w',Below w.heap.size w w'→CdeedPost w s (rsE a 0) (rsA a 0) t (.returned (.int .i64 0)) ((w'.setCell ⟨s,0,none⟩ (.int .i64 3)).setCell ⟨s,1,none⟩ (.int .i64 0))):=Lib.hid fun w' b=>⟨by rw [e1,if_pos q],by rw [e2,if_pos q];exact ⟨0,z1,((hr.below b).set0 3).set1 0,⟨⟨by decide,by omega⟩,hv.b1,(fun _=>rfl),hv.e1⟩⟩,((Only.of_below b).trans (only_set s 0 _ _) (fun _ _ q=>q)).trans (only_set s 1 _ _) (fun _ _ q=>q)⟩
  have R:=Lib.hid hr;rw [q] at R;clear hr hv e1 e2;generalize rsE a 0=x at *;generalize rsA a 0=a' at *
  go_enter Tryz.func122,Tryz.ntmps122
  go_wp2_with fail;refine H.out.mono ?_;rintro e w1 ⟨rfl,b1⟩;have c0:w1.cell? ⟨s,0,none⟩=some (.int .i64 4):=row_cell (R.out.below b1) 0;have f0:=row_frozen (R.out.below b1) 0;have f1:=row_frozen (R.out.below b1) 1;have c1:w1.cell? ⟨s,1,none⟩=some (.int .i64 z0):=row_cell (R.out.below b1) 1;have F:=Lib.hid (E.out w1 b1);clear R H E b1 q;go_wp2
  go_ret
  exact F.out
 ·have E:Hid (∀ w',Below w.heap.size w w'→CdeedPost w s (rsE a 0) (rsA a 0) t (.returned (.int .i64 10)) w'):=Lib.hid fun w' b=>⟨by rw [e1,if_neg q],by rw [e2,if_neg q];exact ⟨z0,z1,hr.below b,hv⟩,Only.of_below b⟩
  have R:=Lib.hid hr;have q4:(a.r0 != 4)=true:=bne_iff_ne.2 q;clear hr hv e1 e2 q;generalize rsE a 0=x' at *;generalize rsA a 0=a' at *;generalize a.r0=x0 at *;generalize a.r1=x1 at *
  go_enter Tryz.func122,Tryz.ntmps122
  go_wp2_with fail;refine H.out.mono ?_;rintro e w1 ⟨rfl,b1⟩;have c0:w1.cell? ⟨s,0,none⟩=some (.int .i64 x0):=row_cell (R.out.below b1) 0;have F:=Lib.hid (E.out w1 b1);clear R H E b1;go_wp2
  go_ret
  exact F.out
set_option maxHeartbeats 1000000 in
theorem restart1 {w:World} {s t:Nat} {a:A} (P:Pr w s a t):Calls Tryz.prog 122 #[.pointer (some ⟨s,0,none⟩),.int .i64 1] w (CdeedPost w s (rsE a 1) (rsA a 1) t):=by
 obtain ⟨z0,z1,hr,hv⟩:=P;have H:=Lib.hid (has_any w s 1);rw [show hs 1=true from rfl] at H;have e1:rsE a 1=if a.r1=4 then 0 else 10:=rfl;have e2:rsA a 1=if a.r1=4 then { a with r1:=3,q1:=0 } else a:=rfl
 by_cases q:a.r1=4
 ·have E:Hid (∀ w',Below w.heap.size w w'→CdeedPost w s (rsE a 1) (rsA a 1) t (.returned (.int .i64 0)) ((w'.setCell ⟨s,2,none⟩ (.int .i64 3)).setCell ⟨s,3,none⟩ (.int .i64 0))):=Lib.hid fun w' b=>⟨by rw [e1,if_pos q],by rw [e2,if_pos q];exact ⟨z0,0,((hr.below b).set2 3).set3 0,⟨hv.b0,⟨by decide,by omega⟩,hv.e0,(fun _=>rfl)⟩⟩,((Only.of_below b).trans (only_set s 2 _ _) (fun _ _ q=>q)).trans (only_set s 3 _ _) (fun _ _ q=>q)⟩
  have R:=Lib.hid hr;rw [q] at R;clear hr hv e1 e2;generalize rsE a 1=x at *;generalize rsA a 1=a' at *
  go_enter Tryz.func122,Tryz.ntmps122
  go_wp2_with fail;refine H.out.mono ?_;rintro e w1 ⟨rfl,b1⟩;have c0:w1.cell? ⟨s,2,none⟩=some (.int .i64 4):=row_cell (R.out.below b1) 2;have f0:=row_frozen (R.out.below b1) 2;have f1:=row_frozen (R.out.below b1) 3;have c1:w1.cell? ⟨s,3,none⟩=some (.int .i64 z1):=row_cell (R.out.below b1) 3;have F:=Lib.hid (E.out w1 b1);clear R H E b1 q;go_wp2
  go_ret
  exact F.out
 ·have E:Hid (∀ w',Below w.heap.size w w'→CdeedPost w s (rsE a 1) (rsA a 1) t (.returned (.int .i64 10)) w'):=Lib.hid fun w' b=>⟨by rw [e1,if_neg q],by rw [e2,if_neg q];exact ⟨z0,z1,hr.below b,hv⟩,Only.of_below b⟩
  have R:=Lib.hid hr;have q4:(a.r1 != 4)=true:=bne_iff_ne.2 q;clear hr hv e1 e2 q;generalize rsE a 1=x' at *;generalize rsA a 1=a' at *;generalize a.r0=x0 at *;generalize a.r1=x1 at *
  go_enter Tryz.func122,Tryz.ntmps122
  go_wp2_with fail;refine H.out.mono ?_;rintro e w1 ⟨rfl,b1⟩;have c0:w1.cell? ⟨s,2,none⟩=some (.int .i64 x1):=row_cell (R.out.below b1) 2;have F:=Lib.hid (E.out w1 b1);clear R H E b1;go_wp2
  go_ret
  exact F.out
theorem restart_any {w:World} {s t:Nat} {a:A} (P:Pr w s a t) (n:Int):Calls Tryz.prog 122 #[.pointer (some ⟨s,0,none⟩),.int .i64 n] w (CdeedPost w s (rsE a n) (rsA a n) t):=by
 by_cases h0:n=0
 ·subst h0;exact restart0 P
 ·by_cases h1:n=1
  ·subst h1;exact restart1 P
  ·have E:Hid (∀ w',Below w.heap.size w w'→CdeedPost w s (rsE a n) (rsA a n) t (.returned (.int .i64 1)) w'):=Lib.hid fun w' b=>⟨by unfold rsE;rw [if_neg h0,if_neg h1],by unfold rsA;rw [if_neg h0,if_neg h1];exact P.only (G:=fun _=>False) (Only.of_below b) (fun g=>g),Only.of_below b⟩
   have H:=Lib.hid (has_any w s n);rw [hs_no h0 h1] at H;clear P h0 h1
   go_enter Tryz.func122,Tryz.ntmps122
   go_wp2_with fail;refine H.out.mono ?_;rintro e w1 ⟨rfl,b1⟩;have F:=Lib.hid (E.out w1 b1);clear H E b1;go_wp2
   go_ret
   exact F.out
theorem role_at {w:World} {s:Nat} {x:Int} (k:Nat) (hk:k < 2) (c:∀ w',Below w.heap.size w w'→w'.cell? ⟨s,2 * k,none⟩=some (.int .i64 x)):Calls Tryz.prog 71 #[.pointer (some ⟨s,0,none⟩),.int .i64 (k:Int)] w fun e w'=>e = .returned (.int .i64 x)∧Below w.heap.size w w':=by
 have H:=Lib.hid (has_any w s k)
 rcases (by omega:k=0∨k=1) with rfl | rfl
 ·rw [show hs ((0:Nat):Int)=true from rfl] at H
  go_enter Tryz.func71,Tryz.ntmps71
  go_wp2_with fail;refine H.out.mono ?_;rintro e w1 ⟨rfl,b1⟩;have c0:w1.cell? ⟨s,0,none⟩=_:=c w1 b1;have B1:=Lib.hid b1;clear H b1 c;go_wp2
  go_ret
  exact ⟨rfl,B1.out⟩
 ·rw [show hs ((1:Nat):Int)=true from rfl] at H
  go_enter Tryz.func71,Tryz.ntmps71
  go_wp2_with fail;refine H.out.mono ?_;rintro e w1 ⟨rfl,b1⟩;have c0:w1.cell? ⟨s,2,none⟩=_:=c w1 b1;have B1:=Lib.hid b1;clear H b1 c;go_wp2
  go_ret
  exact ⟨rfl,B1.out⟩
theorem role_any {w:World} {s t:Nat} {a:A} (P:Pr w s a t) (n:Int):Calls Tryz.prog 71 #[.pointer (some ⟨s,0,none⟩),.int .i64 n] w fun e w'=>e = .returned (.int .i64 (rl a n))∧Below w.heap.size w w':=by
 obtain ⟨z0,z1,hr,hv⟩:=P
 by_cases h0:n=0
 ·subst h0
  exact role_at 0 (by decide) fun w' b=>row_cell (hr.below b) 0
 ·by_cases h1:n=1
  ·subst h1
   exact role_at 1 (by decide) fun w' b=>row_cell (hr.below b) 2
  ·have H:=Lib.hid (has_any w s n)
   rw [hs_no h0 h1] at H;have E:Hid (rl a n=0):=Lib.hid (by unfold rl;rw [if_neg h0,if_neg h1]);clear hr hv h0 h1;generalize rl a n=x at *;obtain rfl:=E.out;clear E
   go_enter Tryz.func71,Tryz.ntmps71
   go_wp2_with fail;refine H.out.mono ?_;rintro e w1 ⟨rfl,b1⟩;have B1:=Lib.hid b1;clear H b1;go_wp2
   go_ret
   exact ⟨rfl,B1.out⟩
def du (r z n:Int):Bool:=(decide (r=2) && decide (4≤z)) || (decide (r=3) && decide (8+n≤z))
theorem due_any (w:World) (r z n:Int) (hn:0≤n∧n≤1):Calls Tryz.prog 200 #[.agg #[.int .i64 r,.int .i64 z],.int .i64 n] w fun e w'=>e = .returned (.bool (du r z n))∧Below w.heap.size w w':=by
 have E:Hid (du r z n=((decide (r=2) && decide (4≤z)) || (decide (r=3) && decide (8+n≤z)))):=Lib.hid rfl;have w8:IntKind.i64.wrap (8+n)=8+n:=IntWalk.i64_in _ (by omega);have B:Hid (Below w.heap.size w (w.alloc (.cells #[.int .i64 r,.int .i64 z] 209))):=Lib.hid ((Below.refl _ _).alloc (Nat.le_refl _) _);generalize du r z n=b at *
 by_cases h2:r=2
 ·subst h2
  obtain rfl:b=decide (4≤z):=by rw [E.out];simp
  clear E
  go_enter Tryz.func200,Tryz.ntmps200
  go_wp2
  go_ret
  exact ⟨rfl,B.out⟩
 ·by_cases h3:r=3
  ·subst h3
   obtain rfl:b=decide (8+n≤z):=by rw [E.out];simp
   clear E h2
   go_enter Tryz.func200,Tryz.ntmps200
   go_wp2
   go_ret
   exact ⟨rfl,B.out⟩
  ·obtain rfl:b=false:=by rw [E.out];simp [h2,h3]
   have q2:(r == 2)=false:=beq_eq_false_iff_ne.2 h2;have q3:(r == 3)=false:=beq_eq_false_iff_ne.2 h3;clear E h2 h3
   go_enter Tryz.func200,Tryz.ntmps200
   go_wp2
   go_ret
   exact ⟨rfl,B.out⟩
end Go.Proofs.YtljnkaodhfnbbaaGreatDoor.Wt
namespace Go.Proofs.YtljnkaodhfnbbaaGreatDoor.Cu
open Go.RowKit Go.Maps
open Rw (Rd Ow At)
open Fl (R4 K4 okL okR row_cell row_frozen)
open Fs (Abs St OkA Only Fx ow_only)
open Pa (Sts S2 sat vat KN KB K2 ptr)
structure Nd where
 s:Nat
 live:Bool
 rate:Int
def ndD:Nd:=⟨0,false,0⟩
def KD:Rw.Kind Nd:=⟨fun x=>[ptr x.s,.bool x.live,.int .i64 x.rate],3,by decide,fun _=>rfl,fun _ u h=>by simp [ptr] at h;rcases h with rfl | rfl | rfl <;> rfl,ndD⟩
def nda (L:List Nd) (i:Nat):Nd:=L.getD i ndD
theorem infoD:(Tryz.prog.info? 139).map (fun i=>(i.zero,i.size,i.bytes))=some (some (.agg #[.pointer none,.bool false,.int .i64 0]),3,24):=by kernel_rfl
theorem atD {w:World} {b off:Nat} {L:List Nd} (h:At KD w b off L) {i:Nat} (hi:i < L.length):w.cell? ⟨b,off+i * 3,none⟩=some (ptr (nda L i).s)∧w.cell? ⟨b,off+i * 3+1,none⟩=some (.bool (nda L i).live)∧w.cell? ⟨b,off+i * 3+2,none⟩=some (.int .i64 (nda L i).rate) :=
 ⟨h i hi 0 _ rfl,h i hi 1 _ rfl,h i hi 2 _ rfl⟩
theorem nda_set {L:List Nd} {i:Nat} (hi:i < L.length) (x:Nd) (j:Nat):nda (L.set i x) j=if j=i then x else nda L j:=by
 unfold nda;rw [List.getD_eq_getElem?_getD,List.getD_eq_getElem?_getD,List.getElem?_set]
 by_cases e:j=i
 ·subst e;rw [if_pos rfl,if_pos rfl,if_pos hi];rfl
 ·rw [if_neg (by omega),if_neg e]
structure Cl (w:World) (s:Nat) (F:Nat→Prop) (c:Cs) (t:Nat) (vn:Value) (L:List Nd) (p:Nat) (vq:Value) (Fs:Nat→Nat→Prop):Prop where
 row:w.heap[s]? = some (.cells #[vn,ptr p,.int .i64 c.pl,vq] 137 (0,0))
 no:Ow KD w 0 139 vn L
 len:L.length=c.S.length
 st:∀ i,i < L.length→St w (nda L i).s (Fs i) (sat c.S i).1 (sat c.S i).2
 lv:∀ i:Nat,i < L.length→(nda L i).live=vat c.V i
 rt:∀ i,i < L.length→-2000≤(nda L i).rate∧(nda L i).rate≤2000
 pr:Wt.Pr w p c.P t
 sp:Ow K2 w 0 155 vq c.Q
 fs:F s
 fp:F p
 fv:∀ k,vn.ownBlock=some k∨vq.ownBlock=some k→F k
 ff:∀ i,i < L.length→∀ k,Fs i k→F k
 dis:∀ i j,i < L.length→j < L.length→i≠j→∀ k,Fs i k→¬ Fs j k
 off:∀ i,i < L.length→∀ k,Fs i k→k≠s∧k≠p∧vn.ownBlock≠some k∧vq.ownBlock≠some k
 low:∀ k,F k→k < w.heap.size
def ClE (w:World) (s:Nat) (F:Nat→Prop) (c:Cs) (t:Nat):Prop:=∃ vn L p vq Fs,Cl w s F c t vn L p vq Fs
section
variable {s t p:Nat} {F G:Nat→Prop} {c:Cs} {vn vq:Value} {L:List Nd} {Fs:Nat→Nat→Prop} {w w':World}
theorem Cl.slt (h:Cl w s F c t vn L p vq Fs):s < w.heap.size:=lt_of_block h.row
theorem pr_row {a:Wt.A} (h:Wt.Pr w p a t):∃ cs,w.heap[p]? = some (.cells cs 212 (0,0)):=by obtain ⟨_,_,h,_⟩:=h;exact ⟨_,h⟩
theorem Cl.sp_ne (h:Cl w s F c t vn L p vq Fs):s≠p:=fun e=>by
 obtain ⟨cs,hp⟩:=pr_row h.pr;have:=h.row;rw [e,hp] at this;injection this with this;injection this with _ h2 _;exact absurd h2 (by decide)
theorem Cl.vs (h:Cl w s F c t vn L p vq Fs):vn.ownBlock≠some s∧vq.ownBlock≠some s:=⟨h.no.apart h.row (by decide),h.sp.apart h.row (by decide)⟩
theorem Cl.vp (h:Cl w s F c t vn L p vq Fs):vn.ownBlock≠some p∧vq.ownBlock≠some p:=by
 obtain ⟨cs,hp⟩:=pr_row h.pr;exact ⟨h.no.apart hp (by decide),h.sp.apart hp (by decide)⟩
theorem Cl.vv (h:Cl w s F c t vn L p vq Fs):∀ k,vn.ownBlock=some k→vq.ownBlock≠some k:=fun k hk=>by
 obtain ⟨_,g⟩:=h.no
 rcases g with ⟨rfl,_⟩ | ⟨b,cap,cur,rfl,_,hh,_⟩
 ·simp [Value.ownBlock] at hk
 ·simp only [Value.ownBlock,Option.some.injEq] at hk
  subst hk;exact h.sp.apart hh (by decide)
theorem Cl.only (h:Cl w s F c t vn L p vq Fs) (hn:∀ k,F k→¬ G k) (o:Only G w w'):Cl w' s F c t vn L p vq Fs :=
 ⟨(o.block s h.slt (hn s h.fs)).trans h.row,ow_only h.no (fun k e=>hn k (h.fv k (.inl e))) o,h.len,fun i hi=>(h.st i hi).only (fun k g=>hn k (h.ff i hi k g)) o,h.lv,h.rt,h.pr.only o (hn p h.fp),ow_only h.sp (fun k e=>hn k (h.fv k (.inr e))) o,h.fs,h.fp,h.fv,h.ff,h.dis,h.off,fun k g=>Nat.lt_of_lt_of_le (h.low k g) o.size⟩
theorem Cl.below (h:Cl w s F c t vn L p vq Fs) (b:Below w.heap.size w w'):Cl w' s F c t vn L p vq Fs:=h.only (G:=fun _=>False) (fun _ _ g=>g) (Only.of_below b)
theorem Cl.wide (h:Cl w s F c t vn L p vq Fs) (hF:∀ k,F k→G k) (hl:∀ k,G k→k < w.heap.size):Cl w s G c t vn L p vq Fs :=
 ⟨h.row,h.no,h.len,h.st,h.lv,h.rt,h.pr,h.sp,hF s h.fs,hF p h.fp,fun k g=>hF k (h.fv k g),fun i hi k g=>hF k (h.ff i hi k g),h.dis,h.off,hl⟩
theorem Cl.fx (w0:World) (h:Cl w s F c t vn L p vq Fs):Cl w s (Fx F w0 w) c t vn L p vq Fs:=h.wide (fun k g=>.inl g) fun k g=>by
 rcases g with g | g
 ·exact h.low k g
 ·exact g.2
theorem Cl.cells (h:Cl w s F c t vn L p vq Fs):w.cell? ⟨s,0,none⟩=some vn∧w.cell? ⟨s,1,none⟩=some (ptr p)∧w.cell? ⟨s,2,none⟩=some (.int .i64 c.pl)∧w.cell? ⟨s,3,none⟩=some vq:=⟨row_cell h.row 0,row_cell h.row 1,row_cell h.row 2,row_cell h.row 3⟩
theorem Cl.frz (h:Cl w s F c t vn L p vq Fs) (k:Nat):w.frozen? ⟨s,k,none⟩=false:=row_frozen h.row k
theorem Cl.pair (h:Cl w s F c t vn L p vq Fs) {P:Wt.A} {t':Nat} (o:Only (fun k=>k=p) w w') (hp:Wt.Pr w' p P t'):Cl w' s F { c with P:=P } t' vn L p vq Fs :=
 ⟨(o.block s h.slt h.sp_ne).trans h.row,ow_only h.no (fun k e g=>h.vp.1 (by rw [e,g])) o,h.len,fun i hi=>(h.st i hi).only (fun k g e=>(h.off i hi k g).2.1 e) o,h.lv,h.rt,hp,ow_only h.sp (fun k e g=>h.vp.2 (by rw [e,g])) o,h.fs,h.fp,h.fv,h.ff,h.dis,h.off,fun k g=>Nat.lt_of_lt_of_le (h.low k g) o.size⟩
theorem pr_late {a:Wt.A} (h:Wt.Pr w p a t):Wt.Pr w p a (t+1):=by
 obtain ⟨z0,z1,hr,hv⟩:=h;exact ⟨z0,z1,hr,⟨by have:=hv.b0;omega,by have:=hv.b1;omega,hv.e0,hv.e1⟩⟩
theorem Cl.late (h:Cl w s F c t vn L p vq Fs):Cl w s F c (t+1) vn L p vq Fs:=⟨h.row,h.no,h.len,h.st,h.lv,h.rt,pr_late h.pr,h.sp,h.fs,h.fp,h.fv,h.ff,h.dis,h.off,h.low⟩
theorem Cl.place (h:Cl w s F c t vn L p vq Fs) (n:Nat):Cl (w.setCell ⟨s,2,none⟩ (.int .i64 n)) s F { c with pl:=n } t vn L p vq Fs:=by
 have o:Only (fun k=>k=s) w (w.setCell ⟨s,2,none⟩ (.int .i64 n)):=Only.set (fun k=>k=s) w (a:=⟨s,2,none⟩) rfl _;have rw_:(w.setCell ⟨s,2,none⟩ (.int .i64 n)).heap[s]? = some (.cells #[vn,ptr p,.int .i64 n,vq] 137 (0,0)):=Rw.heap_setCell_same (j:=2) h.row _;exact ⟨rw_,ow_only h.no (fun k e g=>h.vs.1 (by rw [e,g])) o,h.len,fun i hi=>(h.st i hi).only (fun k g e=>(h.off i hi k g).1 e) o,h.lv,h.rt,h.pr.only o (fun e=>h.sp_ne e.symm),ow_only h.sp (fun k e g=>h.vs.2 (by rw [e,g])) o,h.fs,h.fp,h.fv,h.ff,h.dis,h.off,fun k g=>Nat.lt_of_lt_of_le (h.low k g) o.size⟩
theorem Cl.spoils (h:Cl w s F c t vn L p vq Fs) {v:Value} {Q:List S2} (hq:Ow K2 w 0 155 v Q) (hF:∀ k,v.ownBlock=some k→F k) (hn:∀ i,i < L.length→∀ k,Fs i k→v.ownBlock≠some k):Cl (w.setCell ⟨s,3,none⟩ v) s F { c with Q:=Q } t vn L p v Fs:=by
 have o:Only (fun k=>k=s) w (w.setCell ⟨s,3,none⟩ v):=Only.set (fun k=>k=s) w (a:=⟨s,3,none⟩) rfl _;have rw_:(w.setCell ⟨s,3,none⟩ v).heap[s]? = some (.cells #[vn,ptr p,.int .i64 c.pl,v] 137 (0,0)):=Rw.heap_setCell_same (j:=3) h.row _;refine ⟨rw_,ow_only h.no (fun k e g=>h.vs.1 (by rw [e,g])) o,h.len,fun i hi=>(h.st i hi).only (fun k g e=>(h.off i hi k g).1 e) o,h.lv,h.rt,h.pr.only o (fun e=>h.sp_ne e.symm),ow_only hq (fun k e g=>hq.apart h.row (by decide) (by rw [e,g])) o,h.fs,h.fp,fun k g=>?_,h.ff,h.dis,fun i hi k g=>?_,fun k g=>Nat.lt_of_lt_of_le (h.low k g) o.size⟩
 ·rcases g with g | g
  ·exact h.fv k (.inl g)
  ·exact hF k g
 ·have:=h.off i hi k g
  exact ⟨this.1,this.2.1,this.2.2.1,hn i hi k g⟩
theorem Cl.store (h:Cl w s F c t vn L p vq Fs) {i:Nat} (hi:i < L.length) {x:Abs×Int} (hs:St w' (nda L i).s (Fx (Fs i) w w') x.1 x.2) (o:Only (Fs i) w w'):Cl w' s (Fx F w w') { c with S:=setS c.S i x } t vn L p vq (fun j=>if j=i then Fx (Fs i) w w' else Fs j):=by
 have of:=h.off i hi;have hz:=o.size;have lt:∀ j,j < L.length→∀ k,Fs j k→k < w.heap.size:=fun j hj=>(h.st j hj).low;have vl:∀ k,vn.ownBlock=some k∨vq.ownBlock=some k→k < w.heap.size:=fun k g=>h.low k (h.fv k g);refine ⟨(o.block s h.slt fun g=>(of s g).1 rfl).trans h.row,ow_only h.no (fun k e g=>(of k g).2.2.1 e) o,by show L.length=(setS c.S i x).length;rw [h.len];exact List.length_set.symm,fun j hj=>?_,h.lv,h.rt,h.pr.only o (fun g=>(of p g).2.1 rfl),ow_only h.sp (fun k e g=>(of k g).2.2.2 e) o,.inl h.fs,.inl h.fp,fun k g=>.inl (h.fv k g),fun j hj k g=>?_,fun a b ha hb hab k g=>?_,fun j hj k g=>?_,Fx.low h.low hz⟩
 ·show St w' _ _ (sat (setS c.S i x) j).1 (sat (setS c.S i x) j).2
  rw [sat_set (by omega) (by have:=h.len;omega)]
  by_cases e:j=i
  ·subst e
   rw [if_pos rfl,if_pos rfl];exact hs
  ·rw [if_neg e,if_neg (by omega)]
   exact (h.st j hj).only (fun k g q=>h.dis j i hj hi e k g q) o
 ·by_cases e:j=i
  ·rw [if_pos e] at g
   rcases g with g | g
   ·exact .inl (h.ff i hi k g)
   ·exact .inr g
  ·rw [if_neg e] at g
   exact .inl (h.ff j hj k g)
 ·by_cases ea:a=i
  ·rw [if_pos ea] at g
   rw [if_neg (fun q=>hab (ea.trans q.symm))]
   rcases g with g | g
   ·exact h.dis i b hi hb (fun q=>hab (ea.trans q)) k g
   ·intro q;have:=lt b hb k q;omega
  ·rw [if_neg ea] at g
   by_cases eb:b=i
   ·rw [if_pos eb]
    rintro (q | q)
    ·exact h.dis a i ha hi ea k g q
    ·have:=lt a ha k g;omega
   ·rw [if_neg eb]
    exact h.dis a b ha hb hab k g
 ·by_cases e:j=i
  ·rw [if_pos e] at g
   rcases g with g | g
   ·exact of k g
   ·have a1:=h.slt
    have a2:=h.pr.lt;exact ⟨by omega,by omega,fun q=>by have:=vl k (.inl q);omega,fun q=>by have:=vl k (.inr q);omega⟩
  ·rw [if_neg e] at g
   exact h.off j hj k g
theorem Cl.node (h:Cl w s F c t vn L p vq Fs) {g:Nat} (hg:vn.ownBlock=some g) {L':List Nd} {V:List Bool} (o:Only (fun k=>k=g) w w') (hno:Ow KD w' 0 139 vn L') (hl:L'.length=L.length) (hs:∀ i,i < L.length→(nda L' i).s=(nda L i).s) (hv:∀ i:Nat,i < L.length→(nda L' i).live=vat V i) (hr:∀ i,i < L.length→-2000≤(nda L' i).rate∧(nda L' i).rate≤2000):Cl w' s F { c with V:=V } t vn L' p vq Fs:=by
 refine ⟨(o.block s h.slt fun e=>h.vs.1 (by rw [hg,e])).trans h.row,hno,hl.trans h.len,fun i hi=>?_,fun i hi=>hv i (by omega),fun i hi=>hr i (by omega),h.pr.only o (fun e=>h.vp.1 (by rw [hg,e])),ow_only h.sp (fun k e q=>h.vv g hg (by rw [e,q])) o,h.fs,h.fp,h.fv,fun i hi=>h.ff i (by omega),fun i j hi hj=>h.dis i j (by omega) (by omega),fun i hi=>h.off i (by omega),fun k q=>Nat.lt_of_lt_of_le (h.low k q) o.size⟩;rw [hs i (by omega)];exact (h.st i (by omega)).only (fun k q e=>(h.off i (by omega) k q).2.2.1 (by rw [hg,e])) o
end
def DoC (w:World) (s:Nat) (F:Nat→Prop) (c:Cs) (t:Nat) (x:Int) (e:Ending) (w':World):Prop:=e = .returned (.int .i64 x)∧ClE w' s (Fx F w w') c t∧Only F w w'
section
variable {s t:Nat} {F:Nat→Prop} {c:Cs} {w w1 w':World}
theorem DoC.late {x:Int} {e:Ending} (h:DoC w s F c t x e w'):DoC w s F c (t+1) x e w':=by
 obtain ⟨h1,⟨vn,L,p,vq,Fs,h2⟩,h3⟩:=h;exact ⟨h1,⟨vn,L,p,vq,Fs,h2.late⟩,h3⟩
theorem DoC.preO {x:Int} {e:Ending} (h:DoC w1 s F c t x e w') (o:Only F w w1) (low:∀ k,F k→k < w.heap.size):DoC w s F c t x e w':=by
 obtain ⟨h1,⟨vn,L,p,vq,Fs,h2⟩,h3⟩:=h;have z1:=o.size;have z2:=h3.size;refine ⟨h1,⟨vn,L,p,vq,Fs,h2.wide (fun k g=>?_) (fun k g=>?_)⟩,o.trans h3 fun _ _ g=>g⟩
 ·rcases g with g | g
  ·exact .inl g
  ·exact .inr ⟨by omega,g.2⟩
 ·rcases g with g | g
  ·have:=low k g;omega
  ·exact g.2
theorem DoC.pre {x:Int} {e:Ending} (h:DoC w1 s F c t x e w') (b:Below w.heap.size w w1) (low:∀ k,F k→k < w.heap.size):DoC w s F c t x e w':=h.preO (Only.of_below b) low
end
end Go.Proofs.YtljnkaodhfnbbaaGreatDoor.Cu
namespace Go.Proofs.YtljnkaodhfnbbaaGreatDoor.Cu
open Go.RowKit Go.Maps
open Rw (Rd Ow At)
open Fl (R4 K4 okL okR row_cell row_frozen)
open Fs (Abs St OkA Only Fx ow_only FilesPost files_any)
open Pa (Sts S2 sat vat KN KB K2 ptr)
attribute [local irreducible] Sd.wpSd wpQuiet
section
variable {s t p:Nat} {F G:Nat→Prop} {c:Cs} {vn vq:Value} {L:List Nd} {Fs:Nat→Nat→Prop} {w w':World}
theorem Cl.one (h:Cl w s F c t vn L p vq Fs) {i:Nat} (hi:i < c.S.length):∃ g cap,vn = .slice (some ⟨g,0,none⟩) c.S.length cap∧c.S.length≤cap∧cap≤maxLen∧w.cell? ⟨g,i * 3,none⟩=some (ptr (nda L i).s)∧w.cell? ⟨g,i * 3+1,none⟩=some (.bool (vat c.V i))∧w.cell? ⟨g,i * 3+2,none⟩=some (.int .i64 (nda L i).rate)∧∀ k,w.frozen? ⟨g,k,none⟩=false:=by
 have hl:=h.len;obtain ⟨g,cap,e,_,_,h1,h2,fz,hA⟩:=h.no.form (by omega);have q:=atD hA (i:=i) (by omega);rw [Nat.zero_add,h.lv i (by omega)] at q;rw [hl] at e h1;exact ⟨g,cap,e,h1,h2,q.1,q.2.1,q.2.2,fz⟩
theorem Cl.nod {g cap:Nat} (h:Cl w s F c t (.slice (some ⟨g,0,none⟩) c.S.length cap) L p vq Fs) {i:Nat} (hi:i < c.S.length):w.cell? ⟨g,i * 3,none⟩=some (ptr (nda L i).s)∧w.cell? ⟨g,i * 3+1,none⟩=some (.bool (nda L i).live)∧w.cell? ⟨g,i * 3+2,none⟩=some (.int .i64 (nda L i).rate):=by
 have hl:=h.len;obtain ⟨g',cap',e,_,_,h1,h2,fz,hA⟩:=h.no.form (by omega);injection e with e1 _ _;injection e1 with e1;injection e1 with e1 _ _;subst e1;have q:=atD hA (i:=i) (by omega);rw [Nat.zero_add] at q;exact q
theorem Cl.slice (h:Cl w s F c t vn L p vq Fs):∃ a cap,vn = .slice a c.S.length cap∧c.S.length≤cap∧cap≤maxLen:=by
 obtain ⟨a,cap,e,h1,h2⟩:=h.no.slice;rw [h.len] at e h1;exact ⟨a,cap,e,h1,h2⟩
theorem Cl.sto (h:Cl w s F c t vn L p vq Fs) {i:Nat} (hi:i < c.S.length):St w (nda L i).s (Fs i) (sat c.S i).1 (sat c.S i).2:=h.st i (by rw [h.len];exact hi)
theorem chas_in (h:Cl w s F c t vn L p vq Fs) {n:Nat} (hn:n < c.S.length):Calls Tryz.prog 61 #[ptr s,.int .i64 n] w fun e w'=>e = .returned (.bool true)∧Below w.heap.size w w':=by
 obtain ⟨a,cap,rfl,_,_⟩:=h.slice;have d0:=h.cells.1;clear h;generalize c.S.length=ln at *;have p1:decide ((0:Int)≤(n:Int))=true:=decide_eq_true (by omega);have p2:decide ((n:Int) < (ln:Int))=true:=decide_eq_true (by omega);unfold ptr
 go_enter Tryz.func61,Tryz.ntmps61
 go_wp2
 go_ret
 exact ⟨rfl,Below.refl _ _⟩
theorem chas_out (h:Cl w s F c t vn L p vq Fs) {n:Int} (hn:no c n):Calls Tryz.prog 61 #[ptr s,.int .i64 n] w fun e w'=>e = .returned (.bool false)∧Below w.heap.size w w':=by
 obtain ⟨a,cap,rfl,_,_⟩:=h.slice;have d0:=h.cells.1;clear h;unfold no at hn;generalize c.S.length=ln at *;unfold ptr
 by_cases h0:0≤n
 ·have p2:decide (n < (ln:Int))=false:=decide_eq_false (by omega)
  clear hn
  go_enter Tryz.func61,Tryz.ntmps61
  go_wp2
  go_ret
  exact ⟨rfl,Below.refl _ _⟩
 ·have p1:decide (0≤n)=false:=decide_eq_false h0
  clear hn
  go_enter Tryz.func61,Tryz.ntmps61
  go_wp2
  go_ret
  exact ⟨rfl,Below.refl _ _⟩
theorem cnodes_any (h:Cl w s F c t vn L p vq Fs):Calls Tryz.prog 16 #[ptr s] w fun e w'=>e = .returned (.int .i64 c.S.length)∧Below w.heap.size w w':=by
 obtain ⟨a,cap,rfl,_,_⟩:=h.slice;have d0:=h.cells.1;clear h;generalize c.S.length=ln at *;unfold ptr
 go_enter Tryz.func16,Tryz.ntmps16
 go_wp2
 go_ret
 exact ⟨rfl,Below.refl _ _⟩
theorem cplace_any (h:Cl w s F c t vn L p vq Fs):Calls Tryz.prog 19 #[ptr s] w fun e w'=>e = .returned (.int .i64 c.pl)∧Below w.heap.size w w':=by
 have d2:=h.cells.2.2.1;clear h;generalize c.pl=pl at *;unfold ptr
 go_enter Tryz.func19,Tryz.ntmps19
 go_wp2
 go_ret
 exact ⟨rfl,Below.refl _ _⟩
theorem crole_any (h:Cl w s F c t vn L p vq Fs) (n:Int):Calls Tryz.prog 23 #[ptr s,.int .i64 n] w fun e w'=>e = .returned (.int .i64 (Wt.rl c.P n))∧Below w.heap.size w w':=by
 have d1:=h.cells.2.1;have C1:=Lib.hid (Wt.role_any h.pr n);clear h;generalize Wt.rl c.P n=r at *;unfold ptr at *
 go_enter Tryz.func23,Tryz.ntmps23
 go_wp2_with fail;refine C1.out.mono ?_;rintro e w1 ⟨rfl,b1⟩;go_wp2
 go_ret
 exact ⟨rfl,b1⟩
theorem clive_in (h:Cl w s F c t vn L p vq Fs) {n:Nat} (hn:n < c.S.length):Calls Tryz.prog 22 #[ptr s,.int .i64 n] w fun e w'=>e = .returned (.bool (vat c.V n))∧Below w.heap.size w w':=by
 have C1:=Lib.hid (chas_in h hn);have H:=Lib.hid h;obtain ⟨g,cap,rfl,_,hm,_⟩:=h.one hn;clear h;unfold ptr at *
 go_enter Tryz.func22,Tryz.ntmps22
 go_wp2_with fail;refine C1.out.mono ?_;rintro e w1 ⟨rfl,b1⟩;obtain ⟨g',cap',e',_,_,_,d1,_⟩:=(H.out.below b1).one hn;injection e' with e1 _ e3;injection e1 with e1;injection e1 with e1 _ _;subst e1 e3;have d0:=(H.out.below b1).cells.1;have B1:=Lib.hid b1;have p5:decide (c.S.length≤n)=false:=decide_eq_false (by omega);clear H C1 b1;generalize c.S.length=ln at *;go_wp2
 go_ret
 exact ⟨rfl,B1.out⟩
theorem cfiles_in (h:Cl w s F c t vn L p vq Fs) {n:Nat} (hn:n < c.S.length):Calls Tryz.prog 21 #[ptr s,.int .i64 n] w (FilesPost w (sat c.S n).1):=by
 have C1:=Lib.hid (chas_in h hn);have H:=Lib.hid h;obtain ⟨g,cap,rfl,_,hm,_⟩:=h.one hn;clear h;unfold ptr at *
 go_enter Tryz.func21,Tryz.ntmps21
 go_wp2_with fail;refine C1.out.mono ?_;rintro e w1 ⟨rfl,b1⟩;obtain ⟨g',cap',e',_,_,d1,_⟩:=(H.out.below b1).one hn;injection e' with e1 _ e3;injection e1 with e1;injection e1 with e1 _ _;subst e1 e3;have d0:=(H.out.below b1).cells.1;have B1:=Lib.hid b1;have C2:=Lib.hid (files_any ((H.out.below b1).sto hn));have p5:decide (c.S.length≤n)=false:=decide_eq_false (by omega);unfold FilesPost at C2;unfold ptr at *;clear H C1 b1;generalize c.S.length=ln at *;generalize (sat c.S n).1=A at *;generalize (nda L n).s=q at *;go_wp2_with fail;refine C2.out.mono ?_;rintro e w2 ⟨v,rfl,hv,b2⟩;have E:Hid (FilesPost w A (.returned v) w2):=Lib.hid ⟨v,rfl,fun F hF=>hv F fun k hk=>Nat.lt_of_lt_of_le (hF k hk) B1.out.size,B1.out.trans (b2.mono B1.out.size)⟩;clear hv b2 C2 B1;go_wp2
 go_ret
 exact E.out
end
end Go.Proofs.YtljnkaodhfnbbaaGreatDoor.Cu
namespace Go.Proofs.YtljnkaodhfnbbaaGreatDoor.Cu
open Pa (vat)
def Syn (c:Cs):Prop:=(vat c.V 0=true↔c.P.r0≠4)∧(vat c.V 1=true↔c.P.r1≠4)
theorem t1_4 (a:Wt.A):((Wt.t1 a).r0=4↔a.r0=4)∧(Wt.t1 a).r1=a.r1:=by
 unfold Wt.t1
 split
 ·rename_i g
  refine ⟨?_,rfl⟩
  show (1:Int)=4↔_
  omega
 ·exact ⟨Iff.rfl,rfl⟩
theorem t2_4 (a:Wt.A):((Wt.t2 a).r1=4↔a.r1=4)∧(Wt.t2 a).r0=a.r0:=by
 unfold Wt.t2
 split
 ·rename_i g
  refine ⟨?_,rfl⟩
  show (1:Int)=4↔_
  omega
 ·exact ⟨Iff.rfl,rfl⟩
theorem hdN_4 (r:Int):Wt.hdN r=4↔r=4:=by
 unfold Wt.hdN
 split <;> omega
theorem hd_4 (a:Wt.A):((Wt.hd a).r0=4↔a.r0=4)∧((Wt.hd a).r1=4↔a.r1=4):=by
 unfold Wt.hd
 split
 ·rename_i g
  refine ⟨?_,hdN_4 _⟩
  show (1:Int)=4↔_
  omega
 ·split
  ·rename_i g
   refine ⟨hdN_4 _,?_⟩
   show (1:Int)=4↔_
   omega
  ·exact ⟨Iff.rfl,Iff.rfl⟩
theorem rnd_4 (a:Wt.A):((Wt.rnd a).r0=4↔a.r0=4)∧((Wt.rnd a).r1=4↔a.r1=4):=by
 unfold Wt.rnd Wt.tk;have h1:=hd_4 (Wt.t2 (Wt.t1 a));have h2:=t2_4 (Wt.t1 a);have h3:=t1_4 a;rw [h1.1,h1.2,h2.1,h2.2,h3.1,h3.2];exact ⟨Iff.rfl,Iff.rfl⟩
theorem Syn.rnd {c:Cs} (h:Syn c):(vat c.V 0=true↔(Wt.rnd c.P).r0≠4)∧(vat c.V 1=true↔(Wt.rnd c.P).r1≠4):=by
 have q:=rnd_4 c.P;refine ⟨h.1.trans ?_,h.2.trans ?_⟩
 ·rw [Ne,Ne,q.1]
 ·rw [Ne,Ne,q.2]
theorem Syn.round {c:Cs} (h:Syn c):Syn (rC c):=by
 have q:=h.rnd;unfold rC
 split
 ·exact q
 ·split
  ·exact q
  ·exact q
theorem syn_new (L:List Pl) (h:2≤L.length):Syn (newC L):=by
 refine ⟨?_,?_⟩
 ·have:=new_vat (L:=L) (i:=0) (by omega)
  rw [show vat (newC L).V 0=true from this]
  show true=true↔(1:Int)≠4
  simp
 ·have:=new_vat (L:=L) (i:=1) (by omega)
  rw [show vat (newC L).V 1=true from this]
  show true=true↔(2:Int)≠4
  simp
theorem Syn.act {c:Cs} {t:Nat} (h:Syn c) (ok:OkC c t) (x:Ac):Syn (actC x c):=by
 unfold actC
 by_cases h1:x.k=1
 ·rw [if_pos h1];exact h.round
 ·rw [if_neg h1]
  by_cases he:actE x c≠0
  ·rw [if_pos he];exact h
  ·rw [if_neg he]
   have he:=Classical.not_not.1 he;unfold actE at he;rw [if_neg h1] at he
   by_cases h3:x.k=3
   ·rw [if_pos h3];exact h
   ·rw [if_neg h3]
    rw [if_neg h3] at he
    by_cases hn:x.k < 2∨6 < x.k∨no c x.n
    ·rw [if_pos hn] at he;omega
    ·rw [if_neg hn] at he
     have hin:0≤x.n∧x.n < c.S.length:=by
      have:¬ no c x.n:=fun g=>hn (.inr (.inr g));unfold no at this
      omega
     have hv:=ok.lv
     by_cases h2:x.k=2
     ·rw [if_pos h2];exact h
     ·rw [if_neg h2]
      by_cases h4:x.k=4
      ·rw [if_pos h4]
       have v0:vat (c.V.set x.n.toNat false) 0=_:=vat_set hin.1 (by omega) 0 (by omega);have v1:vat (c.V.set x.n.toNat false) 1=_:=vat_set hin.1 (by omega) 1 (by omega);refine ⟨?_,?_⟩
       ·show vat (c.V.set x.n.toNat false) 0=true↔(Wt.crA c.P x.n).r0≠4
        rw [v0];unfold Wt.crA
        by_cases e:x.n=0
        ·rw [if_pos e.symm,if_pos e];simp
        ·rw [if_neg (fun g=>e g.symm),if_neg e]
         split <;> exact h.1
       ·show vat (c.V.set x.n.toNat false) 1=true↔(Wt.crA c.P x.n).r1≠4
        rw [v1];unfold Wt.crA
        by_cases e:x.n=0
        ·rw [if_neg (by omega),if_pos e];exact h.2
        ·rw [if_neg e]
         by_cases e1:x.n=1
         ·rw [if_pos e1.symm,if_pos e1];simp
         ·rw [if_neg (fun g=>e1 g.symm),if_neg e1];exact h.2
      ·rw [if_neg h4]
       rw [if_neg h2,if_neg h4] at he
       by_cases h5:x.k=5
       ·rw [if_pos h5]
        rw [if_pos h5] at he;have hvn:vat c.V x.n=false:=by
         cases hb:vat c.V x.n with
         | false=>rfl
         | true=>rw [hb,if_pos rfl] at he;omega
        have v0:vat (c.V.set x.n.toNat true) 0=_:=vat_set hin.1 (by omega) 0 (by omega);have v1:vat (c.V.set x.n.toNat true) 1=_:=vat_set hin.1 (by omega) 1 (by omega);refine ⟨?_,?_⟩
        ·show vat (c.V.set x.n.toNat true) 0=true↔(Wt.rsA c.P x.n).r0≠4
         rw [v0];unfold Wt.rsA
         by_cases e:x.n=0
         ·rw [if_pos e.symm,if_pos e]
          have r4:c.P.r0=4:=Classical.not_not.1 fun g=>by have:=h.1.2 g;rw [e] at hvn;rw [hvn] at this;cases this
          rw [if_pos r4];simp
         ·rw [if_neg (fun g=>e g.symm),if_neg e]
          split
          ·split <;> exact h.1
          ·exact h.1
        ·show vat (c.V.set x.n.toNat true) 1=true↔(Wt.rsA c.P x.n).r1≠4
         rw [v1];unfold Wt.rsA
         by_cases e:x.n=0
         ·rw [if_neg (by omega),if_pos e]
          split <;> exact h.2
         ·rw [if_neg e]
          by_cases e1:x.n=1
          ·rw [if_pos e1.symm,if_pos e1]
           have r4:c.P.r1=4:=Classical.not_not.1 fun g=>by have:=h.2.2 g;rw [e1] at hvn;rw [hvn] at this;cases this
           rw [if_pos r4];simp
          ·rw [if_neg (fun g=>e1 g.symm),if_neg e1];exact h.2
       ·rw [if_neg h5];exact h
end Go.Proofs.YtljnkaodhfnbbaaGreatDoor.Cu
namespace Go.Proofs.YtljnkaodhfnbbaaGreatDoor.Cu
open Go.RowKit Go.Maps
open Rw (Rd Ow At)
open Fl (R4 K4 okL okR row_cell row_frozen)
open Fs (Abs St OkA Only Fx ow_only)
open Pa (Sts S2 sat vat KN KB K2 ptr)
attribute [local irreducible] Sd.wpSd wpQuiet
section
variable {s t p:Nat} {F G:Nat→Prop} {c:Cs} {vn vq:Value} {L:List Nd} {Fs:Nat→Nat→Prop} {w w':World}
theorem ow_node {g n cap i:Nat} (h:Ow KD w 0 139 (.slice (some ⟨g,0,none⟩) n cap) L) (hn:L.length=n) (hi:i < n) (j:Nat) (hj:j < 3) (u:Value) (x:Nd) (hx:KD.enc x=(KD.enc (nda L i)).set j u):Ow KD (w.setCell ⟨g,i * 3+j,none⟩ u) 0 139 (.slice (some ⟨g,0,none⟩) n cap) (L.set i x):=by
 subst hn;exact Rw.Ow.set h i j hi hj u x hx
theorem Cl.setLive {g cap n:Nat} (h:Cl w s F c t (.slice (some ⟨g,0,none⟩) n cap) L p vq Fs) (hn:c.S.length=n) (hv:c.V.length=n) {i:Nat} (hi:i < n) (b:Bool):Cl (w.setCell ⟨g,i * 3+1,none⟩ (.bool b)) s F { c with V:=c.V.set i b } t (.slice (some ⟨g,0,none⟩) n cap) (L.set i { nda L i with live:=b }) p vq Fs∧Only F w (w.setCell ⟨g,i * 3+1,none⟩ (.bool b)):=by
 have hl:=h.len.trans hn;have o:Only (fun k=>k=g) w (w.setCell ⟨g,i * 3+1,none⟩ (.bool b)):=Only.set (fun k=>k=g) w (a:=⟨g,i * 3+1,none⟩) rfl _;refine ⟨h.node (g:=g) rfl o (ow_node h.no hl hi 1 (by decide) (.bool b) { nda L i with live:=b } rfl) List.length_set (fun j hj=>?_) (fun j hj=>?_) (fun j hj=>?_),o.mono fun k _ e=>by rw [e];exact h.fv g (.inl rfl)⟩
 ·rw [nda_set (by omega)]
  split
  ·rename_i e;rw [e]
  ·rfl
 ·rw [nda_set (by omega)]
  have q:vat (c.V.set i b) j=if (j:Int)=(i:Int) then b else vat c.V j:=by
   have:=vat_set (V:=c.V) (n:=(i:Int)) (b:=b) (by omega) (by omega) j (by omega);rw [Int.toNat_natCast] at this;exact this
  rw [q]
  by_cases e:j=i
  ·rw [if_pos e,if_pos (by omega)]
  ·rw [if_neg e,if_neg (by omega)]
   exact h.lv j hj
 ·rw [nda_set (by omega)]
  split
  ·exact h.rt i (by omega)
  ·exact h.rt j hj
theorem Cl.setRate {g cap n:Nat} (h:Cl w s F c t (.slice (some ⟨g,0,none⟩) n cap) L p vq Fs) (hn:c.S.length=n) {i:Nat} (hi:i < n) {x:Int} (hx : -2000≤x∧x≤2000):Cl (w.setCell ⟨g,i * 3+2,none⟩ (.int .i64 x)) s F c t (.slice (some ⟨g,0,none⟩) n cap) (L.set i { nda L i with rate:=x }) p vq Fs∧Only F w (w.setCell ⟨g,i * 3+2,none⟩ (.int .i64 x)):=by
 have hl:=h.len.trans hn;have o:Only (fun k=>k=g) w (w.setCell ⟨g,i * 3+2,none⟩ (.int .i64 x)):=Only.set (fun k=>k=g) w (a:=⟨g,i * 3+2,none⟩) rfl _;refine ⟨h.node (g:=g) (V:=c.V) rfl o (ow_node h.no hl hi 2 (by decide) (.int .i64 x) { nda L i with rate:=x } rfl) List.length_set (fun j hj=>?_) (fun j hj=>?_) (fun j hj=>?_),o.mono fun k _ e=>by rw [e];exact h.fv g (.inl rfl)⟩
 ·rw [nda_set (by omega)]
  split
  ·rename_i e;rw [e]
  ·rfl
 ·rw [nda_set (by omega)]
  split
  ·rename_i e;rw [e];exact h.lv i (by omega)
  ·exact h.lv j hj
 ·rw [nda_set (by omega)]
  split
  ·exact hx
  ·exact h.rt j hj
theorem crA_far {a:Wt.A} {n:Int} (h:2≤n):Wt.crA a n=a:=by unfold Wt.crA;rw [if_neg (by omega),if_neg (by omega)]
theorem rsA_far {a:Wt.A} {n:Int} (h:2≤n):Wt.rsA a n=a:=by unfold Wt.rsA;rw [if_neg (by omega),if_neg (by omega)]
theorem Syn.cr0 (h:Syn c) {n:Nat} (hn:n < 2) (hv:vat c.V n=true):Wt.crE c.P n=0:=by
 unfold Wt.crE
 rcases (by omega:n=0∨n=1) with rfl | rfl
 ·rw [if_pos (by rfl),if_neg (h.1.1 hv)]
 ·rw [if_neg (by decide),if_pos (by rfl),if_neg (h.2.1 hv)]
theorem Syn.rs0 (h:Syn c) {n:Nat} (hn:n < 2) (hv:vat c.V n=false):Wt.rsE c.P n=0:=by
 unfold Wt.rsE
 rcases (by omega:n=0∨n=1) with rfl | rfl
 ·have r4:c.P.r0=4:=Classical.not_not.1 fun g=>by have:=h.1.2 g;rw [show vat c.V 0=false from hv] at this;cases this
  rw [if_pos (by rfl),if_pos r4]
 ·have r4:c.P.r1=4:=Classical.not_not.1 fun g=>by have:=h.2.2 g;rw [show vat c.V 1=false from hv] at this;cases this
  rw [if_neg (by decide),if_pos (by rfl),if_pos r4]
theorem doc_below (h:Cl w s F c t vn L p vq Fs) (b:Below w.heap.size w w') (x:Int):DoC w s F c t x (.returned (.int .i64 x)) w' :=
 ⟨rfl,⟨vn,L,p,vq,Fs,(h.below b).fx w⟩,Only.of_below b⟩
theorem doc_of {c':Cs} {vn' vq':Value} {L':List Nd} {p':Nat} {Fs':Nat→Nat→Prop} {t':Nat} (h:Cl w' s F c' t' vn' L' p' vq' Fs') (o:Only F w w') (x:Int):DoC w s F c' t' x (.returned (.int .i64 x)) w' :=
 ⟨rfl,⟨vn',L',p',vq',Fs',h.fx w⟩,o⟩
set_option maxHeartbeats 1000000 in
theorem ccrash_any (h:Cl w s F c t vn L p vq Fs) (ok:OkC c t) (sy:Syn c) {n:Nat} (hn:n < c.S.length) (hv:vat c.V n=true):Calls Tryz.prog 63 #[ptr s,.int .i64 n] w (DoC w s F { c with V:=c.V.set n false,P:=Wt.crA c.P n } t 0):=by
 obtain ⟨g,cap,rfl,hc,hm,_,y1,_,fz⟩:=h.one hn;have d0:=h.cells.1;have H:=Lib.hid (h.setLive rfl ok.lv hn false);have H0:=Lib.hid h;have CR:=Lib.hid (fun (w1:World) (P:Wt.Pr w1 p c.P t)=>Wt.crash_any P n);have E0:=Lib.hid (fun h2=>sy.cr0 (n:=n) h2 hv);have EF:=Lib.hid (fun h2=>crA_far (a:=c.P) (n:=(n:Int)) h2);have fy:=fz (n * 3+1);rw [hv] at y1;have p5:decide (c.S.length≤n)=false:=decide_eq_false (by omega);clear h ok sy hv fz;generalize c.S.length=ln at *;unfold ptr at *
 by_cases h2:n < 2
 ·have k1:=H.out.1.cells.2.1
  have CC:=Lib.hid (CR.out _ H.out.1.pr);unfold Wt.CdeedPost at CC;rw [E0.out h2] at CC;unfold ptr at k1;have p6:decide ((n:Int) < 2)=true:=decide_eq_true (by omega);clear CR E0 EF
  go_enter Tryz.func63,Tryz.ntmps63
  go_wp2_with fail;refine CC.out.mono ?_;rintro e w2 ⟨rfl,pr2,o2⟩;have E:=Lib.hid (doc_of (w:=w) (H.out.1.pair o2 pr2) (H.out.2.trans o2 fun k _ e=>by rw [e];exact H.out.1.fp) 0);clear pr2 o2 H CC;go_wp2
  go_ret
  exact E.out
 ·have E:=Lib.hid (doc_of (w:=w) H.out.1 H.out.2 0)
  rw [← EF.out (by omega)] at E;have p6:decide ((n:Int) < 2)=false:=decide_eq_false (by omega);clear CR E0 EF H
  go_enter Tryz.func63,Tryz.ntmps63
  go_wp2
  go_ret
  exact E.out
theorem ccrash_no (h:Cl w s F c t vn L p vq Fs) {n:Nat} (hn:n < c.S.length) (hv:vat c.V n=false):Calls Tryz.prog 63 #[ptr s,.int .i64 n] w (DoC w s F c t 10):=by
 obtain ⟨g,cap,rfl,_,hm,_,y1,_⟩:=h.one hn;have d0:=h.cells.1;have E:=Lib.hid (doc_below h (Below.refl _ _) 10);rw [hv] at y1;have p5:decide (c.S.length≤n)=false:=decide_eq_false (by omega);clear h hv;generalize c.S.length=ln at *;unfold ptr at *
 go_enter Tryz.func63,Tryz.ntmps63
 go_wp2
 go_ret
 exact E.out
set_option maxHeartbeats 1000000 in
theorem crestart_any (h:Cl w s F c t vn L p vq Fs) (ok:OkC c t) (sy:Syn c) {n:Nat} (hn:n < c.S.length) (hv:vat c.V n=false):Calls Tryz.prog 64 #[ptr s,.int .i64 n] w (DoC w s F { c with V:=c.V.set n true,P:=Wt.rsA c.P n } t 0):=by
 obtain ⟨g,cap,rfl,hc,hm,_,y1,_,fz⟩:=h.one hn;have d0:=h.cells.1;have H:=Lib.hid (h.setLive rfl ok.lv hn true);have H0:=Lib.hid h;have CR:=Lib.hid (fun (w1:World) (P:Wt.Pr w1 p c.P t)=>Wt.restart_any P n);have E0:=Lib.hid (fun h2=>sy.rs0 (n:=n) h2 hv);have EF:=Lib.hid (fun h2=>rsA_far (a:=c.P) (n:=(n:Int)) h2);have fy:=fz (n * 3+1);rw [hv] at y1;have p5:decide (c.S.length≤n)=false:=decide_eq_false (by omega);clear h ok sy hv fz;generalize c.S.length=ln at *;unfold ptr at *
 by_cases h2:n < 2
 ·have k1:=H.out.1.cells.2.1
  have CC:=Lib.hid (CR.out _ H.out.1.pr);unfold Wt.CdeedPost at CC;rw [E0.out h2] at CC;unfold ptr at k1;have p6:decide ((n:Int) < 2)=true:=decide_eq_true (by omega);clear CR E0 EF
  go_enter Tryz.func64,Tryz.ntmps64
  go_wp2_with fail;refine CC.out.mono ?_;rintro e w2 ⟨rfl,pr2,o2⟩;have E:=Lib.hid (doc_of (w:=w) (H.out.1.pair o2 pr2) (H.out.2.trans o2 fun k _ e=>by rw [e];exact H.out.1.fp) 0);clear pr2 o2 H CC;go_wp2
  go_ret
  exact E.out
 ·have E:=Lib.hid (doc_of (w:=w) H.out.1 H.out.2 0)
  rw [← EF.out (by omega)] at E;have p6:decide ((n:Int) < 2)=false:=decide_eq_false (by omega);clear CR E0 EF H
  go_enter Tryz.func64,Tryz.ntmps64
  go_wp2
  go_ret
  exact E.out
theorem crestart_no (h:Cl w s F c t vn L p vq Fs) {n:Nat} (hn:n < c.S.length) (hv:vat c.V n=true):Calls Tryz.prog 64 #[ptr s,.int .i64 n] w (DoC w s F c t 10):=by
 obtain ⟨g,cap,rfl,_,hm,_,y1,_⟩:=h.one hn;have d0:=h.cells.1;have E:=Lib.hid (doc_below h (Below.refl _ _) 10);rw [hv] at y1;have p5:decide (c.S.length≤n)=false:=decide_eq_false (by omega);clear h hv;generalize c.S.length=ln at *;unfold ptr at *
 go_enter Tryz.func64,Tryz.ntmps64
 go_wp2
 go_ret
 exact E.out
def cal (x:Int):Bool:=decide (-2000≤x) && decide (x≤2000)
theorem ciscalm_any (w:World) (x:Int):Calls Tryz.prog 110 #[.int .i64 x] w fun e w'=>e = .returned (.bool (cal x))∧w=w':=by
 have E:Hid (cal x=(decide (-2000≤x) && decide (x≤2000))):=Lib.hid rfl;generalize cal x=b at *
 by_cases h0 : -2000≤x
 ·by_cases h2:x≤2000
  ·obtain rfl:b=true:=by rw [E.out];simp [h0,h2]
   clear E
   go_enter Tryz.func110,Tryz.ntmps110
   go_wp2
   go_ret
   exact ⟨rfl,rfl⟩
  ·obtain rfl:b=false:=by rw [E.out];simp [h2]
   have q:decide (x≤2000)=false:=decide_eq_false h2;clear E
   go_enter Tryz.func110,Tryz.ntmps110
   go_wp2
   go_ret
   exact ⟨rfl,rfl⟩
 ·obtain rfl:b=false:=by rw [E.out];simp [h0]
  have q:decide (-2000≤x)=false:=decide_eq_false h0;clear E
  go_enter Tryz.func110,Tryz.ntmps110
  go_wp2
  go_ret
  exact ⟨rfl,rfl⟩
theorem cal_of {x:Int} : cal x=true↔-2000≤x∧x≤2000:=by unfold cal;simp
theorem cdrift_yes (w:World) (g o:Nat) (x:Int) (u:Value) (hu:w.cell? ⟨g,o+2,none⟩=some u) (hf:w.frozen? ⟨g,o+2,none⟩=false) (hx:cal x=true):Calls Tryz.prog 65 #[.pointer (some ⟨g,o,none⟩),.int .i64 x] w fun e w'=>e = .returned (.int .i64 0)∧w'=w.setCell ⟨g,o+2,none⟩ (.int .i64 x):=by
 have C:=Lib.hid (ciscalm_any w x);rw [hx] at C;clear hx
 go_enter Tryz.func65,Tryz.ntmps65
 go_wp2_with fail;refine C.out.mono ?_;rintro e w1 ⟨rfl,rfl⟩;go_wp2
 go_ret
 exact ⟨rfl,rfl⟩
theorem cdrift_no (w:World) (g o:Nat) (x:Int) (hx:cal x=false):Calls Tryz.prog 65 #[.pointer (some ⟨g,o,none⟩),.int .i64 x] w fun e w'=>e = .returned (.int .i64 1)∧w=w':=by
 have C:=Lib.hid (ciscalm_any w x);rw [hx] at C;clear hx
 go_enter Tryz.func65,Tryz.ntmps65
 go_wp2_with fail;refine C.out.mono ?_;rintro e w1 ⟨rfl,rfl⟩;go_wp2
 go_ret
 exact ⟨rfl,rfl⟩
end
end Go.Proofs.YtljnkaodhfnbbaaGreatDoor.Cu
