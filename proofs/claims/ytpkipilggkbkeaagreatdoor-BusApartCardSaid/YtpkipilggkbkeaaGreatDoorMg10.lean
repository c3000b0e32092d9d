import Derived.Test.YtpkipilggkbkeaaGreatDoorMg9
import Derived.Deep.Cut
import Derived.Test.YtpkipilggkbkeaaGreatDoorMg1
import Derived.WalkKit
import Derived.Test.YtpkipilggkbkeaaGreatDoorMg8
import Derived.Test.YtpkipilggkbkeaaGreatDoorMg6
import Derived.Test.YtpkipilggkbkeaaGreatDoorMg2
import Derived.Great.BuildSlice
import Derived.Test.YtpkipilggkbkeaaGreatDoorMg5
namespace Go.Proofs.YtpkipilggkbkeaaGreatDoor.Pa
open Go.RowKit Go.Maps
open Fs (Abs Wf Glob copy_any CopySt grown_of)
open Rw (Rd Ow At)
open Ro (E5 z5 eat K5 okE may_len)
open Fl (row_cell row_frozen)
open Ck (LL lat sN sE tE RdL may_all)
set_option maxRecDepth 100000
attribute [local irreducible] Sd.wpSd wpQuiet
def hUp (S:Sts) (T:LL) (V:List Bool) (P:List S2) (k:Nat):Hr:=fun n=>if 1≤n∧n < k∧hrB S T V P n=true then some (hrV S T V P n) else none
section
variable {S:Sts} {T:LL} {V:List Bool} {P:List S2}
theorem hUp_one:hUp S T V P 1=fun _=>none:=funext fun n=>by unfold hUp;rw [if_neg (by omega)]
theorem hUp_yes {k:Nat} (h1:1≤k) (h:hrB S T V P k=true):hput (hUp S T V P k) k (hrV S T V P k)=hUp S T V P (k+1):=funext fun n=>by
 unfold hput hUp
 by_cases e:n=k
 ·subst e
  rw [if_pos rfl,if_pos ⟨by omega,by omega,h⟩]
 ·rw [if_neg e]
  by_cases g:1≤n∧n < (k:Int)∧hrB S T V P n=true
  ·rw [if_pos g,if_pos ⟨g.1,by omega,g.2.2⟩]
  ·rw [if_neg g,if_neg fun q=>g ⟨q.1,by omega,q.2.2⟩]
theorem hUp_no {k:Nat} (h:hrB S T V P k=false):hUp S T V P k=hUp S T V P (k+1):=funext fun n=>by
 unfold hUp
 by_cases g:1≤n∧n < (k:Int)∧hrB S T V P n=true
 ·rw [if_pos g,if_pos ⟨g.1,by omega,g.2.2⟩]
 ·rw [if_neg g,if_neg fun q=>by
   by_cases e:n=k
   ·subst e;rw [h] at q;cases q.2.2
   ·exact g ⟨q.1,by omega,q.2.2⟩]
theorem hUp_end:hUp S T V P 17=hr S T V P:=funext fun n=>by
 unfold hUp hr
 by_cases g:1≤n∧n < ((17:Nat):Int)∧hrB S T V P n=true
 ·rw [if_pos g,if_pos ⟨g.1,by omega,g.2.2⟩]
 ·rw [if_neg g,if_neg fun q=>g ⟨q.1,by omega,q.2.2⟩]
end
structure H1 (w:World) (b k:Nat) (h:Hr) (wr:World):Prop where
 mp:∃ N,HBl wr b N h∧N≤k
 lo:w.heap.size≤b
 bel:Below w.heap.size w wr
theorem H1.below {w wr wr':World} {b k:Nat} {h:Hr} (H:H1 w b k h wr) (hb:Below wr.heap.size wr wr'):H1 w b k h wr':=by
 obtain ⟨⟨N,m,hN⟩,lo,bel⟩:=H;exact ⟨⟨N,m.below hb,hN⟩,lo,bel.trans (hb.mono bel.size)⟩
def rdL (S:Sts) (T:LL) (V:List Bool) (P:List S2):Sts:=if rdE S T V=0 then rdS S T V (hr S T V P) else []
def RoundPost (w:World) (E:Int) (S':Sts) (e:Ending) (w':World):Prop:=∃ v,e = .returned (.tuple #[v,.int .i64 E])∧Stl w' v S'∧Below w.heap.size w w'
theorem stl_nil (w:World):Stl w (.slice none 0 0) []:=⟨[],Rd.nil w,rfl,fun i hi=>by cases hi⟩
set_option maxHeartbeats 1000000 in
theorem round_any {w:World} {vs vt vl vp:Value} {S:Sts} {T:LL} {V:List Bool} {P:List S2} (HS:Stl w vs S) (HT:RdL w vt T) (HV:Rd KB w vl V) (RP:Rd K2 w vp P) (hg:Glob w) (hd:∀ i,i < S.length→0≤(sat S i).2∧(sat S i).2 < 900000) :
 Calls Tryz.prog 17 #[vs,vt,vl,vp] w (RoundPost w (rdE S T V) (rdL S T V P)):=by
 have FA:Hid (Calls Tryz.prog 44 #[vs,vt,vl] w fun e w'=>e = .returned (.int .i64 (rdE S T V))∧Below w.heap.size w w'):=Lib.hid (by
  obtain ⟨ps,h1,h2,_⟩:=HS;have:=fault_any w vs vt vl (ps.map some) T V (rd_some h1) HT HV;have e:fE (ps.map some) T V=rdE S T V:=by
   unfold fE rdE;rw [nB_some,List.length_map,h2];simp only [true_and]
  rw [e] at this
  exact this)
 by_cases hE:rdE S T V=0
 ·have hcond:1≤S.length∧S.length≤32∧T.length=S.length∧V.length=S.length∧tE T=0:=by
   unfold rdE at hE
   split at hE
   ·rename_i h
    exact ⟨h.1,h.2.1,h.2.2.1,h.2.2.2,hE⟩
   ·omega
  have NS:Hid (Ns w vs vt vl S T V):=Lib.hid ⟨HS,HT,HV,hcond.2.2.1,hcond.2.2.2.1,hcond.2.2.2.2⟩;have RR:=Lib.hid RP;have GG:=Lib.hid hg;have DD:=Lib.hid hd;have EL:Hid (rdL S T V P=rdS S T V (hr S T V P)):=Lib.hid (if_pos hE);rw [hE] at FA;rw [hE,EL.out];have HR:Hid (∀ s,Calls Tryz.prog 45 #[vs,vt,vl,vp,.int .i64 s] w (HrdPost w (hrV S T V P s) (hrB S T V P s))):=Lib.hid (fun s=>heard_any NS.out RP s);have HE:=Lib.hid (fun W b s=>heard_any (NS.out.below (w':=W) b) (RP.below b) s);obtain ⟨sa,cs,rfl,hms⟩:=HS.slice;clear HS HT HV RP hg hd hE HR;generalize hn:S.length=n at *;have HN:=Lib.hid hn;clear hn;have hmm:=@run_makeMap Tryz.prog
  go_enter Tryz.func17,Tryz.ntmps17
  go_wp2_with fail;refine FA.out.mono ?_;rintro e w1 ⟨rfl,b1⟩;have M0:Hid (H1 w w1.heap.size 0 (hUp S T V P 1) (w1.alloc (.map #[] 0))):=Lib.hid ⟨⟨0,by rw [hUp_one];exact hbl_new w1,Nat.le_refl _⟩,b1.size,b1.alloc b1.size _⟩;clear b1 FA;go_wp2;clear hmm;generalize (w1.alloc (.map #[] 0))=W0 at *;generalize w1.heap.size=b at *
  go_loopw [12] (fun i wr=>∃ k:Nat,1≤k∧k≤17∧i = .int .i64 k∧Hid (H1 w b k (hUp S T V P k) wr)) (fun i _=>17 - (intOf i).toNat)
  case atStart=>exact ⟨1,by omega,by omega,rfl,⟨by obtain ⟨N,m,h⟩:=M0.out.mp;exact ⟨N,m,by omega⟩,M0.out.lo,M0.out.bel⟩⟩
  case round =>
   obtain ⟨k,hk1,hk,rfl,I⟩:=hrel;clear M0
   by_cases hlt:k < 17
   ·have HK:=Lib.hid (HE.out wr I.out.bel (k:Int))
    have YY:=Lib.hid (fun h=>hUp_yes (S:=S) (T:=T) (V:=V) (P:=P) (k:=k) hk1 h);have NN:=Lib.hid (fun h=>hUp_no (S:=S) (T:=T) (V:=V) (P:=P) (k:=k) h);have WK:=Lib.hid (wf_of (n:=(k:Int)) ⟨by omega,by omega⟩);unfold HrdPost at HK;go_wp2_with fail;refine HK.out.mono ?_;rintro e w2 ⟨rfl,b2⟩;have I2:=Lib.hid (I.out.below b2);clear b2 I HK;generalize hrV S T V P (k:Int)=y at *
    cases hh:hrB S T V P (k:Int) with
    | false =>
      have EQ:=Lib.hid (NN.out hh);have I3:Hid (H1 w b (k+1) (hUp S T V P (k+1)) w2):=Lib.hid ⟨by obtain ⟨N,m,h⟩:=I2.out.mp;exact ⟨N,by rw [← EQ.out];exact m,by omega⟩,I2.out.lo,I2.out.bel⟩;clear YY NN I2 EQ hh;go_wp2
      go_roundw
      case rel=>exact ⟨k+1,by omega,by omega,by go_num,I3⟩
      case measure=>simp [intOf];omega
    | true =>
      have EQ:=Lib.hid (YY.out hh);obtain ⟨N,m,hN⟩:=I2.out.mp;have M2:=Lib.hid m;have LO:=Lib.hid I2.out.lo;have BE:=Lib.hid I2.out.bel;clear YY NN hh m I2
      go_wp2_with (first
       | (at_mapUpdate;refine at_hput rfl _ _ _ rfl rfl M2.out (by unfold maxLen;omega) (k:Int) y rfl rfl WK.out ?_;intro w4 m4 g4)
       | fail)
      have I3:Hid (H1 w b (k+1) (hUp S T V P (k+1)) w4):=Lib.hid ⟨⟨N+1,by rw [← EQ.out];exact m4,by omega⟩,LO.out,BE.out.grown g4 BE.out.size (fun j e=>by injection e with e;have:=LO.out;omega)⟩;clear m4 g4 M2 EQ BE LO;go_wp2
      go_roundw
      case rel=>exact ⟨k+1,by omega,by omega,by go_num,I3⟩
      case measure=>simp [intOf];omega
   ·have e17:k=17:=by omega
    rw [e17,hUp_end] at I;clear e17;have HM:Hid (∀ W,Below wr.heap.size wr W→HMap W (.map (some b)) (hr S T V P)):=Lib.hid (fun W hb=>by obtain ⟨⟨N,m,_⟩,_,_⟩:=I.out;exact ⟨b,N,rfl,m.below hb⟩);have BW:=Lib.hid I.out.bel;have OH:=Lib.hid (hr_ok S T V P);clear I HE;generalize hr S T V P=h at *;have AT:=Lib.hid (fun i hi=>rdS_at S T V h (i:=i) hi);have RL:=Lib.hid (rdS_len S T V h);generalize rdS S T V h=S' at *;clear EL;go_wp2;clear hk1 hk hlt;generalize (k:Int)=kk at *
    rename World=>wA
    go_loopw [45,15] (fun i o wr2=>∃ (k:Nat) (ps:List Nat),k≤n∧i = .int .i64 k∧Hid (PI SAp 39 wA S' k o ps wr2)) (fun i _ _=>n - (intOf i).toNat)
    case atStart=>exact ⟨0,[],Nat.zero_le _,rfl,PI.start wA (Below.refl _ _)⟩
    case round =>
     obtain ⟨k,ps,hk,rfl,I⟩:=hrel;have BI:=Lib.hid (BW.out.trans (I.out.bel.mono BW.out.size));obtain ⟨av,cv,ev,_⟩:=I.out.own.slice;have OWN:=Lib.hid I.out.own;generalize ps.length=Lp at ev;subst ev
     by_cases hlt:k < n
     ·have N1:=Lib.hid (NS.out.below BI.out)
      obtain ⟨b1,o1,c1,s,e1,cS,hS⟩:=N1.out.st.one (k:=k) (by have:=HN.out;omega);rw [HN.out] at e1;injection e1 with e1 _ e2;subst e1 e2;obtain ⟨b2,o2,c2,at',ct,e2,cT,_,_⟩:=N1.out.tb.one (k:=k) (by omega);have RT:=Lib.hid (N1.out.tb.rd (k:=k) (by omega) e2 cT);rw [hcond.2.2.1] at e2;subst e2;obtain ⟨a3,c3,e3,_,_,h3⟩:=N1.out.lv;rw [hcond.2.2.2.1] at e3;subst e3;obtain ⟨b3,o3,rfl,A3⟩:=h3 (by omega);have cV:=atB A3 (i:=k) (by omega);rw [show V.getD k false=vat V k from rfl] at cV;have EA:=Lib.hid (AT.out k (by have:=HN.out;omega));have OKT:=Lib.hid (tab_each N1.out.ok (k:=k) (by omega));have ML:=Lib.hid (may_len (may_all (not_bad N1.out.ok) k (by omega)));have HS2:=Lib.hid hS;clear hS h3 A3 N1;unfold ptr at cS
      cases hv:vat V k with
      | true =>
        rw [hv] at cV;have AP:=Lib.hid (apply_any HS2.out (GG.out.below BI.out) (DD.out k (by omega)) RT.out (fun y hy=>(OKT.out y hy).1) (by have:=ML.out;omega) (HM.out wr I.out.bel) OH.out);rw [hv,if_pos rfl] at EA;unfold ApPost at AP;clear HS2;generalize (lat T k).length=lk at *;go_wp2_with fail;refine AP.out.mono ?_;rintro e w5 ⟨g,F5,rfl,st5,lo5,b5⟩;have LN:=Lib.hid I.out.len;have BL:=b5.alloc b5.size (.cells #[.pointer (some ⟨g,0,none⟩)] 39);have I5:=Lib.hid (I.out.below sap_good BL);have G5:Hid (SAp (w5.alloc (.cells #[.pointer (some ⟨g,0,none⟩)] 39)) g (sat S' k) (Value.slice av Lp cv).ownBlock):=Lib.hid (sap_good.below (by rw [EA.out];exact sap_new st5 lo5 I.out.lt) ((Below.refl w5.heap.size w5).alloc (Nat.le_refl _) _));clear st5 lo5 b5 I OWN AP cS cT cV BL
        (try unfold ptr)
        go_wp2_with (at_builtin;refine push_at (K:=KN) Tryz.underlying24 infoN rfl (by omega) rfl _ _ rfl wA.heap.size _ _ rfl I5.out.own _ g rfl ?d1 ?d2 ?d3 ?_)
        case d1 =>
         intro j u hu
         match j,hu with
         | 0,hu=>simp [KN] at hu;subst hu;unfold ptr;go_simp
         | j+1,hu=>simp [KN] at hu
        case d2=>rw [LN.out];omega
        case d3=>have:=I5.out.bel.size;exact this
        intro v' w6 o6 g6 h6
        have NEW:=Lib.hid (I5.out.push sap_good o6 g6 (by simpa using h6) G5.out);clear o6 g6 h6 I5 G5 LN;obtain ⟨av',cv',ev',_⟩:=NEW.out.own.slice;generalize (ps ++ [g]).length=Lp' at ev';subst ev';go_wp2
        go_roundw
        case rel=>exact ⟨k+1,ps ++ [g],by omega,by go_num,NEW⟩
        case measure=>simp [intOf];omega
      | false =>
        rw [hv] at cV;rw [hv,if_neg Bool.false_ne_true] at EA;have AP:=Lib.hid (copy_has HS2.out);unfold CopySt at AP;clear HS2;generalize (lat T k).length=lk at *;go_wp2_with fail;refine AP.out.mono ?_;rintro e w5 ⟨g,F5,rfl,st5,lo5,b5⟩;have LN:=Lib.hid I.out.len;have BL:=b5.alloc b5.size (.cells #[.pointer (some ⟨g,0,none⟩)] 39);have I5:=Lib.hid (I.out.below sap_good BL);have G5:Hid (SAp (w5.alloc (.cells #[.pointer (some ⟨g,0,none⟩)] 39)) g (sat S' k) (Value.slice av Lp cv).ownBlock):=Lib.hid (sap_good.below (by rw [EA.out];exact sap_new st5 lo5 I.out.lt) ((Below.refl w5.heap.size w5).alloc (Nat.le_refl _) _));clear st5 lo5 b5 I OWN AP cS cT cV BL
        (try unfold ptr)
        go_wp2_with (at_builtin;refine push_at (K:=KN) Tryz.underlying24 infoN rfl (by omega) rfl _ _ rfl wA.heap.size _ _ rfl I5.out.own _ g rfl ?d1 ?d2 ?d3 ?_)
        case d1 =>
         intro j u hu
         match j,hu with
         | 0,hu=>simp [KN] at hu;subst hu;unfold ptr;go_simp
         | j+1,hu=>simp [KN] at hu
        case d2=>rw [LN.out];omega
        case d3=>have:=I5.out.bel.size;exact this
        intro v' w6 o6 g6 h6
        have NEW:=Lib.hid (I5.out.push sap_good o6 g6 (by simpa using h6) G5.out);clear o6 g6 h6 I5 G5 LN;obtain ⟨av',cv',ev',_⟩:=NEW.out.own.slice;generalize (ps ++ [g]).length=Lp' at ev';subst ev';go_wp2
        go_roundw
        case rel=>exact ⟨k+1,ps ++ [g],by omega,by go_num,NEW⟩
        case measure=>simp [intOf];omega
     ·obtain rfl:k=n:=by omega
      have RES:Hid (RoundPost w 0 S' (.returned (.tuple #[.slice av Lp cv,.int .i64 0])) wr):=Lib.hid ⟨_,rfl,PI.stl (S:=S') (by rw [RL.out,HN.out];exact I.out),BI.out⟩;clear I OWN;go_wp2
      go_ret2
      exact RES.out
 ·have EL:Hid (rdL S T V P = []):=Lib.hid (if_neg hE)
  rw [EL.out];have HEE:=Lib.hid hE;have hne:(rdE S T V != 0)=true:=by simpa using hE
  obtain ⟨sa,cs,rfl,hms⟩:=HS.slice;clear HS HT HV RP hg hd hE;generalize rdE S T V=E at *
  go_enter Tryz.func17,Tryz.ntmps17
  go_wp2_with fail;refine FA.out.mono ?_;rintro e w1 ⟨rfl,b1⟩;have RES:Hid (RoundPost w E [] (.returned (.tuple #[.slice none 0 0,.int .i64 E])) w1):=Lib.hid ⟨_,rfl,stl_nil w1,b1⟩;clear b1 FA;go_wp2
  go_ret2
  exact RES.out
end Go.Proofs.YtpkipilggkbkeaaGreatDoor.Pa
namespace Go.Proofs.YtpkipilggkbkeaaGreatDoor.Tk
open Go.RowKit
def Steps (w:World) (v:Value) (n:Nat) (A R:Nat→Int):Prop :=
 (∃ (a:Option Addr) (cap:Nat),v = .slice a 0 cap∧cap≤maxLen∧n=0) ∨
 ∃ (b off cap:Nat),v = .slice (some ⟨b,off,none⟩) n cap∧n≤cap∧cap≤maxLen ∧
  ∀ i,i < n→w.cell? ⟨b,off+i * 2,none⟩=some (.int .i64 (A i))∧w.cell? ⟨b,off+i * 2+1,none⟩=some (.int .i64 (R i))
theorem Steps.below {w w':World} {v:Value} {n:Nat} {A R:Nat→Int} (h:Steps w v n A R) (b:Below w.heap.size w w'):Steps w' v n A R:=by
 rcases h with h | ⟨b0,off,cap,e,h1,h2,hc⟩
 ·exact .inl h
 ·refine .inr ⟨b0,off,cap,e,h1,h2,fun i hi=>?_⟩
  obtain ⟨c1,c2⟩:=hc i hi;exact ⟨(b.cell (World.block_lt_of_cell? _ _ c1)).trans c1,(b.cell (World.block_lt_of_cell? _ _ c2)).trans c2⟩
end Go.Proofs.YtpkipilggkbkeaaGreatDoor.Tk
namespace Go.Proofs.YtpkipilggkbkeaaGreatDoor.Bu
open Go.RowKit
open Sp (S2 fr tp Sp)
open Wi (Plain PlainOf Low low_nil)
open Ck (LL lat sN sE tE)
open Pa (Sts Hr hput sat vat snB sbN frF hr rdE rdS rdL sender_is)
open Se (lows lows_mem Glo_in)
def OsL (w:World) (v:Value) (O:List Osc):Prop:=∃ a cap,v = .slice a O.length cap∧O.length≤cap∧cap≤maxLen ∧
 (0 < O.length→∃ b off,a=some ⟨b,off,none⟩∧∀ i:Nat,i < O.length→∃ u,w.cell? ⟨b,off+i,none⟩=some u∧Tk.Steps w u (osc O i).n (osc O i).A (osc O i).R)
theorem OsL.below {w w':World} {v:Value} {O:List Osc} (h:OsL w v O) (hb:Below w.heap.size w w'):OsL w' v O:=by
 obtain ⟨a,cap,e,h1,h2,h3⟩:=h;refine ⟨a,cap,e,h1,h2,fun hp=>?_⟩;obtain ⟨b,off,ea,hA⟩:=h3 hp;refine ⟨b,off,ea,fun i hi=>?_⟩;obtain ⟨u,c,r⟩:=hA i hi;exact ⟨u,(hb.cell (World.block_lt_of_cell? _ _ c)).trans c,r.below hb⟩
theorem OsL.slice {w:World} {v:Value} {O:List Osc} (h:OsL w v O):∃ a cap,v = .slice a O.length cap∧O.length≤cap∧cap≤maxLen:=by
 obtain ⟨a,cap,e,h1,h2,_⟩:=h;exact ⟨a,cap,e,h1,h2⟩
theorem steps_form {w:World} {v:Value} {n:Nat} {A R:Nat→Int} (h:Tk.Steps w v n A R):∃ a cap,v = .slice a n cap∧n≤cap∧cap≤maxLen:=by
 rcases h with ⟨a,cap,rfl,h,rfl⟩ | ⟨b,off,cap,rfl,h0,h,_⟩
 ·exact ⟨a,cap,rfl,Nat.zero_le _,h⟩
 ·exact ⟨_,cap,rfl,h0,h⟩
theorem steps_at {w:World} {a:Option Addr} {n m cap:Nat} {A R:Nat→Int} (h:Tk.Steps w (.slice a n cap) m A R) (hp:0 < n):m=n∧∃ b off,a=some ⟨b,off,none⟩∧∀ i,i < n→w.cell? ⟨b,off+i * 2,none⟩=some (.int .i64 (A i))∧w.cell? ⟨b,off+i * 2+1,none⟩=some (.int .i64 (R i)):=by
 rcases h with ⟨a',cap',e,h,rfl⟩ | ⟨b,off,cap',e,_,h,hc⟩
 ·injection e with _ e _;omega
 ·injection e with e1 e2 _
  subst e1 e2;exact ⟨rfl,b,off,rfl,hc⟩
theorem OsL.one {w:World} {v:Value} {O:List Osc} (h:OsL w v O) {k:Nat} (hk:k < O.length):∃ b off cap a' cap',v = .slice (some ⟨b,off,none⟩) O.length cap∧w.cell? ⟨b,off+k,none⟩=some (.slice a' (osc O k).n cap')∧((osc O k).n≤cap'∧cap'≤maxLen)∧Tk.Steps w (.slice a' (osc O k).n cap') (osc O k).n (osc O k).A (osc O k).R:=by
 obtain ⟨a,cap,e,h1,h2,h3⟩:=h;obtain ⟨b,off,rfl,hA⟩:=h3 (by omega);obtain ⟨u,c,s⟩:=hA k hk;obtain ⟨a',cap',rfl,h4⟩:=steps_form s;exact ⟨b,off,cap,a',cap',e,c,h4,s⟩
theorem osc_mem {O:List Osc} {k:Nat} (hk:k < O.length):osc O k∈O:=by
 unfold osc;rw [Int.toNat_natCast,List.getD_eq_getElem?_getD,List.getElem?_eq_getElem hk];exact List.getElem_mem hk
noncomputable def calmB (o:Osc):Bool:=@decide o.calm (Classical.propDecidable _)
theorem calmB_yes {o:Osc} (h:o.calm):calmB o=true:=by unfold calmB;exact @decide_eq_true _ (Classical.propDecidable _) h
theorem calmB_no {o:Osc} (h:¬ o.calm):calmB o=false:=by unfold calmB;exact @decide_eq_false _ (Classical.propDecidable _) h
theorem of_calmB {o:Osc} (h:calmB o=true):o.calm:=by unfold calmB at h;exact @of_decide_eq_true _ (Classical.propDecidable _) h
def calmL (O:List Osc):Prop:=∀ o∈O,o.calm
noncomputable def calmLB (O:List Osc):Bool:=O.all calmB
theorem of_calmLB {O:List Osc} (h:calmLB O=true):calmL O:=fun o ho=>of_calmB (List.all_eq_true.1 h o ho)
theorem rdE_zero {S:Sts} {T:LL} {V:List Bool} (hE:rdE S T V=0):1≤S.length∧S.length≤32∧T.length=S.length∧V.length=S.length∧tE T=0:=by
 unfold rdE at hE
 split at hE
 ·rename_i h
  exact ⟨h.1,h.2.1,h.2.2.1,h.2.2.2,hE⟩
 ·omega
noncomputable def buE (S:Sts) (T:LL) (V:List Bool) (O:List Osc):Int:=if rdE S T V=0 then (if O.length=S.length∧calmLB O=true then 0 else 1) else rdE S T V
noncomputable def buL (S:Sts) (T:LL) (V:List Bool) (P:List S2) (O:List Osc):Sts:=if buE S T V O=0 then rdS S T V (hr S T V P) else []
section
variable {S:Sts} {T:LL} {V:List Bool} {P:List S2} {O:List Osc}
theorem buE_wrong (h:rdE S T V≠0):buE S T V O=rdE S T V∧buL S T V P O = []:=by
 have e:buE S T V O=rdE S T V:=if_neg h;exact ⟨e,if_neg (by rw [e];exact h)⟩
theorem buE_wild (h:rdE S T V=0) (h':¬ (O.length=S.length∧calmLB O=true)):buE S T V O=1∧buL S T V P O = []:=by
 have e:buE S T V O=1:=by unfold buE;rw [if_pos h,if_neg h']
 exact ⟨e,if_neg (by rw [e];decide)⟩
theorem buE_ok (h:rdE S T V=0) (h1:O.length=S.length) (h2:calmLB O=true):buE S T V O=0∧buL S T V P O=rdS S T V (hr S T V P):=by
 have e:buE S T V O=0:=by unfold buE;rw [if_pos h,if_pos ⟨h1,h2⟩]
 exact ⟨e,if_pos e⟩
theorem buE_zero (h:buE S T V O=0):rdE S T V=0∧O.length=S.length∧calmL O∧buL S T V P O=rdL S T V P:=by
 by_cases h0:rdE S T V=0
 ·by_cases h':O.length=S.length∧calmLB O=true
  ·refine ⟨h0,h'.1,of_calmLB h'.2,?_⟩
   rw [(buE_ok h0 h'.1 h'.2).2];exact (if_pos h0).symm
  ·have:=(buE_wild (P:=[]) h0 h').1
   omega
 ·have:=(buE_wrong (O:=O) (P:=[]) h0).1
  omega
end
theorem plain_count:∀ (l:List S2) (a b:Int),a≤b→Plain l→(∀ s∈l,a≤s.1∧s.1 < b)→(l.length:Int)≤b - a
 | [],a,b,h,_,_=>by simp;omega
 | s :: r,a,b,h,hp,hs=>by
   have p:=Wi.plain_cons.1 hp;have q:=hs s List.mem_cons_self;have ih:=plain_count r (s.1+1) b (by omega) p.1 fun x hx=>by
    have:=p.2.2 x hx;have:=hs x (List.mem_cons_of_mem _ hx)
    omega
   simp only [List.length_cons]
   omega
theorem plain_few {l:List S2} (h:Plain l) (hl:∀ u,Low l u→0≤u∧u≤4294967296):l.length≤4294967297:=by
 have:=plain_count l 0 4294967297 (by omega) h fun s hs=>by
  have:=hl s.1 (plain_begin h hs).1
  omega
 omega
theorem plain_near {l:List S2} (h:Plain l) (hl:∀ u,Low l u→0≤u∧u≤4294967296):Wi.Near l:=by
 have e:∀ i,i < l.length→0≤fr l i∧fr l i≤4294967296∧0≤tp l i∧tp l i≤4294967297:=fun i hi=>by
  have m:=Wi.mem_fr hi;have lt:=h.1 _ m;simp only at lt;have a:=hl (fr l i) ⟨_,m,Int.le_refl _,lt⟩;have b:=hl (tp l i - 1) ⟨_,m,by simp only;omega,by simp only;omega⟩
  omega
 exact ⟨fun i hi=>by have:=e i hi;omega,fun i hi=>by have:=e i hi;omega,fun i hi=>by have:=e i hi;omega,fun i hi=>by have:=e i hi;omega⟩
theorem near_append {a b:List S2} (ha:Wi.Near a) (hb:Wi.Near b):Wi.Near (a ++ b):=by
 have e:∀ i,i < (a ++ b).length→(i < a.length∧fr (a ++ b) i=fr a i∧tp (a ++ b) i=tp a i)∨(i - a.length < b.length∧fr (a ++ b) i=fr b (i - a.length)∧tp (a ++ b) i=tp b (i - a.length)):=fun i hi=>by
  rw [List.length_append] at hi
  by_cases c:i < a.length
  ·left
   refine ⟨c,?_,?_⟩ <;> simp only [fr,tp,List.getD_eq_getElem?_getD,List.getElem?_append,if_pos c]
  ·right
   refine ⟨by omega,?_,?_⟩ <;> simp only [fr,tp,List.getD_eq_getElem?_getD,List.getElem?_append,if_neg c]
 refine ⟨fun i hi=>?_,fun i hi=>?_,fun i hi=>?_,fun i hi=>?_⟩
 all_goals
  rcases e i hi with ⟨c,e1,e2⟩ | ⟨c,e1,e2⟩
  ·first
    | (rw [e1];first | exact ha.f0 _ c | exact ha.f1 _ c)
    | (rw [e2];first | exact ha.t0 _ c | exact ha.t1 _ c)
  ·first
    | (rw [e1];first | exact hb.f0 _ c | exact hb.f1 _ c)
    | (rw [e2];first | exact hb.t0 _ c | exact hb.t1 _ c)
theorem low_spans {f:Frs} {k:Nat} {o:Osc} {F:Nat→Bool} (e:f k=some (o,F)) {l:List S2} (h:PlainOf (lows (Tk.Glo o.A o.R o.n) F (224 * (k:Int)) 11) l) (u:Int):Low l u↔LowK f k u:=by
 rw [h.2 u]
 constructor
 ·rintro ⟨s,hs,a,b⟩
  obtain ⟨i,hi,hF,rfl⟩:=lows_mem.1 hs;exact ⟨o,F,e,i,hi,hF,a,b⟩
 ·rintro ⟨o',F',e',i,hi,hF,a,b⟩
  rw [e] at e';injection e' with e';injection e' with e1 e2;subst e1 e2;exact ⟨_,lows_mem.2 ⟨i,hi,hF,rfl⟩,a,b⟩
theorem lowK_at {f:Frs} {k:Nat} {u:Int} (h:LowK f k u):0≤u∧u≤4294967296:=by
 obtain ⟨o,F,e⟩:=lowK_ex h;have a:=lowK_in e h;have b:=Glo_in o.A o.R o.n (224 * (k:Int));have c:=Glo_in o.A o.R o.n (224 * (k:Int)+176);unfold Osc.g at a
 omega
def LowUp (S:Sts) (T:LL) (V:List Bool) (P:List S2) (O:List Osc) (j:Int) (k:Nat) (u:Int):Prop:=∃ i:Nat,1≤i∧i < k∧sbN S T V i=j∧LowK (frs S T V P O) i u
section
variable {S:Sts} {T:LL} {V:List Bool} {P:List S2} {O:List Osc} {j:Int} {k:Nat} {u:Int}
theorem lowUp_one:¬ LowUp S T V P O j 1 u:=fun ⟨i,h1,h2,_⟩=>by omega
theorem lowUp_end:LowUp S T V P O j 17 u↔LowJ S T V P O j u:=⟨fun ⟨i,h1,h2,h⟩=>⟨i,h1,by omega,h⟩,fun ⟨i,h1,h2,h⟩=>⟨i,h1,by omega,h⟩⟩
theorem lowUp_yes (h1:1≤k) (e:sbN S T V k=j):LowUp S T V P O j (k+1) u↔LowUp S T V P O j k u∨LowK (frs S T V P O) k u:=by
 constructor
 ·rintro ⟨i,a,b,c,d⟩
  by_cases q:i=k
  ·subst q;exact .inr d
  ·exact .inl ⟨i,a,by omega,c,d⟩
 ·rintro (⟨i,a,b,c,d⟩ | d)
  ·exact ⟨i,a,by omega,c,d⟩
  ·exact ⟨k,h1,by omega,e,d⟩
theorem lowUp_no (h:¬ (snB S T V k=true∧sbN S T V k=j)):LowUp S T V P O j (k+1) u↔LowUp S T V P O j k u:=by
 constructor
 ·rintro ⟨i,a,b,c,d⟩
  by_cases q:i=k
  ·subst q
   obtain ⟨o,F,e⟩:=lowK_ex d
   rcases hs:snB S T V i with _ | _
   ·rw [frs_no hs] at e;cases e
   ·exact absurd ⟨hs,c⟩ h
  ·exact ⟨i,a,by omega,c,d⟩
 ·rintro ⟨i,a,b,c,d⟩
  exact ⟨i,a,by omega,c,d⟩
theorem lowJ_at (h:LowJ S T V P O j u):0≤u∧u≤4294967296:=by obtain ⟨_,_,_,_,h⟩:=h;exact lowK_at h
theorem lowL_at {f:Frs} (h:LowL f u):0≤u∧u≤4294967296:=by obtain ⟨_,_,_,h⟩:=h;exact lowK_at h
end
def SendP (S:Sts) (T:LL) (V:List Bool) (P:List S2) (O:List Osc) (j:Int) (l:List S2):Prop:=Plain l∧∀ u,Low l u↔LowJ S T V P O j u
def LineP (S:Sts) (T:LL) (V:List Bool) (P:List S2) (O:List Osc) (l:List S2):Prop:=Plain l∧∀ u,Low l u↔LowL (frs S T V P O) u
theorem LineP.one {S:Sts} {T:LL} {V:List Bool} {P:List S2} {O:List Osc} {a b:List S2} (ha:LineP S T V P O a) (hb:LineP S T V P O b):a=b:=Wi.plain_one ha.1 hb.1 fun t=>(ha.2 t).trans (hb.2 t).symm
theorem who_sends {S:Sts} {T:LL} {V:List Bool} {P:List S2} {O:List Osc} (ok:tE T=0) (hl:O.length=T.length) (hO:calmL O) {k:Nat} (h:snB S T V k=true) :
 ∃ n:Nat,sbN S T V k=n∧n < O.length∧frs S T V P O k=some (osc O n,frF S T V P k)∧(osc O n).calm:=by
 obtain ⟨n,en,hn,_⟩:=sender_is ok (snB_is h);refine ⟨n,by unfold sbN;rw [if_pos h,en],by omega,by rw [frs_yes h,en],osc_calm hO (by omega)⟩
theorem made_few {Q:Int→Prop} {l:List S2} (hp:Plain l) (hl:∀ u,Low l u→Q u) (hq:∀ u,Q u→0≤u∧u≤4294967296):l.length≤4294967297:=plain_few hp fun u h=>hq u (hl u h)
def LowTo (S:Sts) (T:LL) (V:List Bool) (P:List S2) (O:List Osc) (k:Nat) (u:Int):Prop:=∃ j:Nat,j < k∧LowJ S T V P O j u
theorem lowTo_next {S:Sts} {T:LL} {V:List Bool} {P:List S2} {O:List Osc} (k:Nat) (u:Int):LowTo S T V P O (k+1) u↔LowTo S T V P O k u∨LowJ S T V P O k u:=by
 constructor
 ·rintro ⟨j,hj,h⟩
  by_cases e:j=k
  ·subst e;exact .inr h
  ·exact .inl ⟨j,by omega,h⟩
 ·rintro (⟨j,hj,h⟩ | h)
  ·exact ⟨j,by omega,h⟩
  ·exact ⟨k,by omega,h⟩
def lowH (h:Hr) (k:Nat):Hr:=fun n=>if 1≤n∧n < (k:Int) then h n else none
theorem low_one (h:Hr):lowH h 1=fun _=>none:=funext fun n=>by unfold lowH;rw [if_neg (by omega)]
theorem low_yes {h:Hr} {k:Nat} (h1:1≤k) {y:Int} (e:h k=some y):hput (lowH h k) k y=lowH h (k+1):=funext fun n=>by
 unfold hput lowH
 by_cases g:n=k
 ·subst g;rw [if_pos rfl,if_pos (by omega),e]
 ·rw [if_neg g]
  by_cases q:1≤n∧n < (k:Int)
  ·rw [if_pos q,if_pos (by omega)]
  ·rw [if_neg q,if_neg (by omega)]
theorem low_no {h:Hr} {k:Nat} (e:h k=none):lowH h k=lowH h (k+1):=funext fun n=>by
 unfold lowH
 by_cases g:n=k
 ·subst g;rw [if_neg (by omega),e,ite_self]
 ·by_cases q:1≤n∧n < (k:Int)
  ·rw [if_pos q,if_pos (by omega)]
  ·rw [if_neg q,if_neg (by omega)]
theorem low_end {h:Hr} (o:∀ n:Int,(n < 1∨16 < n)→h n=none):lowH h 17=h:=funext fun n=>by
 unfold lowH
 split
 ·rfl
 ·exact (o n (by omega)).symm
section
variable {x l:List S2} {r:Osc}
theorem lis_out {s:Int} (h:s < 1∨16 < s):lis x l r s=none:=if_neg fun g=>by omega
theorem lis_yes {s:Int} (h1:1≤s) (h2:s≤16) (e:(lisS x l r s).2.2=0) (o:(lisS x l r s).2.1=false):lis x l r s=some (lisS x l r s).1:=if_pos ⟨h1,h2,e,o⟩
theorem lis_no {s:Int} (e:¬ ((lisS x l r s).2.2=0∧(lisS x l r s).2.1=false)):lis x l r s=none:=if_neg fun g=>e ⟨g.2.2.1,g.2.2.2⟩
end
end Go.Proofs.YtpkipilggkbkeaaGreatDoor.Bu
namespace Go.Proofs.YtpkipilggkbkeaaGreatDoor.Pa
open Go.RowKit Go.Maps
open Fs (Abs St Rs Rst Only Fx Lst E3 infoE3 rd_low wp_all Ent OkA)
open Rw (Rd Ow At Kind)
open Fl (row_cell row_frozen)
set_option maxRecDepth 100000
attribute [local irreducible] Sd.wpSd wpQuiet
theorem rs_high {w w':World} {r:Nat} {A:Abs} {d:Int} (h:Rs w r (fun _=>False) A d) (b:Below w.heap.size w w'):Rs w' r (fun k=>w.heap.size≤k) A d:=by
 obtain ⟨v,L,h,e⟩:=h;have hr:=lt_of_block h.row;refine ⟨v,L,⟨(b.block r hr).trans h.row,by omega,⟨h.list.rd.below b,fun h0 k hk g=>?_,fun c hc=>(h.list.file c hc).below b,fun c hc h0 k hk g=>?_⟩,h.ok⟩,e⟩
 ·rcases g with g | g
  ·have:=rd_low h.list.rd h0 k hk
   omega
  ·exact h.list.off h0 k hk (.inr g)
 ·rcases g with g | g
  ·have:=rd_low (h.list.file c hc) h0 k hk
   omega
  ·exact h.list.foff c hc h0 k hk (.inr g)
def RcpPost (w:World) (F:Nat→Prop) (x:Abs×Int) (e:Ending) (w':World):Prop:=∃ r,e = .returned (ptr r)∧Rs w' r F x.1 x.2∧w.heap.size≤r∧Below w.heap.size w w'
theorem rst_copy {w w1 w':World} {r r':Nat} {F:Nat→Prop} {v v':Value} {L:List Ent} {d:Int} (h:Rst w r F v L d) (hF:∀ k,F k→k < w.heap.size) (b:Below w.heap.size w w1) (own:Ow E3 w1 w.heap.size 67 v' L) (hr:r'=w1.heap.size) (row:w'.heap[r']? = some (.cells #[v',.int .i64 d] 42 (0,0))) (b1:Below w1.heap.size w1 w'):Rst w' r' F v' L d:=by
 have bw:=b.trans (b1.mono b.size);have hz:=b.size;refine ⟨row,fun g=>by have:=hF _ g;omega,⟨(own.keep b1).rd,fun _ k hk g=>?_,fun c hc=>(h.list.file c hc).below bw,fun c hc h0 k hk g=>?_⟩,h.ok⟩
 ·have:=World.ownsRow.lt own k hk
  rcases g with g | g
  ·have:=hF k g;omega
  ·omega
 ·have:=rd_low (h.list.file c hc) h0 k hk
  rcases g with g | g
  ·exact h.list.foff c hc h0 k hk (.inl g)
  ·omega
set_option maxHeartbeats 1000000 in
theorem rcopy_any {w:World} {r:Nat} {F:Nat→Prop} {x:Abs×Int} (R:Rs w r F x.1 x.2) (hF:∀ k,F k→k < w.heap.size):Calls Tryz.prog 30 #[.pointer (some ⟨r,0,none⟩)] w (RcpPost w F x):=by
 obtain ⟨A,d⟩:=x;obtain ⟨v,L,h,e⟩:=R;simp only at e;subst e;obtain ⟨a,cap,ev,_⟩:=h.list.rd.slice;have RL:=Lib.hid h.list.rd;have HL:=Lib.hid h.len
 have FIN:Hid (∀ w1 v' w',Below w.heap.size w w1→Ow E3 w1 w.heap.size 67 v' L→w'=w1.alloc (.cells #[v',.int .i64 d] 42)→RcpPost w F (L.map Ent.abs,d) (.returned (ptr w1.heap.size)) w'):=Lib.hid (fun w1 v' w' b own e=>by
  subst e
  exact ⟨_,rfl,⟨v',L,rst_copy h hF b own rfl (heap_alloc_new w1 _) ((Below.refl _ _).alloc (Nat.le_refl _) _),rfl⟩,b.size,b.alloc b.size _⟩)
 have HR:=Lib.hid h.row;have hrl:r < w.heap.size:=lt_of_block h.row;clear h hF;subst ev;generalize hn:L.length=n at *;have HN:=Lib.hid hn;clear hn
 go_enter Tryz.func30,Tryz.ntmps30
 go_upto_region 1 with fail;have c0:=Sd.cell_by (show w.cell? ⟨r,0,none⟩=some (.slice a n cap) from row_cell HR.out 0);have c1:=Sd.cell_by (show w.cell? ⟨r,1,none⟩=some (.int .i64 d) from row_cell HR.out 1);refine Sd.start [(false,1),(false,2),(false,3),(false,4),(false,6),(false,7),(false,8),(false,9),(true,0),(true,5),(false,10),(true,11),(false,12)] (by kernel_rfl) (by kernel_rfl) (by kernel_rfl) ?_;dsimp only [Sd.picks,List.getElem?_cons_succ,List.getElem?_cons_zero]
 repeat (refine Sd.lit ?_;quiet_step (fail);refine wpQuiet_nil ?_)
 have B0:=Lib.hid ((Below.refl w.heap.size w).drew);clear c0 c1;generalize w.drew=wd at *;refine Sd.call (by rfl) (fun K hK=>?_);go_simp;have B1:=Lib.hid (B0.out.alloc B0.out.size (.cells #[] 67));have OM:=Lib.hid (Rw.Ow.made (K:=E3) wd w.heap.size 67 B0.out.size);have RB:=Lib.hid (RL.out.below B1.out);refine hK _ _ (Sd.Cl.of B1.out) ?_;clear hK K;generalize wd.heap.size=g0 at *;generalize (wd.alloc (.cells #[] 67))=W1 at *;refine Sd.call (by rfl) (fun K hK=>?_);refine wp_all (Kd:=E3) Tryz.underlying38 infoE3 rfl (by omega) _ _ rfl w.heap.size _ _ rfl OM.out _ _ rfl RB.out ?a1 B1.out.size ?_
 case a1=>simp only [List.length_nil];have:=HL.out;have:=HN.out;omega
 intro v2 w2 o2 b2
 have B2:=Lib.hid (B1.out.trans (b2.mono (Nat.le_refl _)));have O2:Hid (Ow E3 w2 w.heap.size 67 v2 L):=Lib.hid (by simpa using o2);obtain ⟨a2,c2,e2,_⟩:=O2.out.slice;refine hK _ _ (Sd.Cl.of B2.out) ?_;rw [HN.out] at e2;subst e2;clear hK K b2 o2 B1 OM RB
 repeat (refine Sd.lit ?_;quiet_step (fail);refine wpQuiet_nil ?_)
 have RES:=Lib.hid (FIN.out w2 _ _ B2.out O2.out rfl);have B3:=Lib.hid (B2.out.alloc B2.out.size (.cells #[.slice a2 n c2,.int .i64 d] 42));clear FIN O2;refine Sd.call (by rfl) (fun K hK=>?_);go_simp;refine hK _ _ (Sd.Cl.of B3.out) ?_;clear hK K
 repeat (refine Sd.lit ?_;quiet_step (fail);refine wpQuiet_nil ?_)
 refine Sd.done ?_;go_wp2
 go_ret
 exact RES.out
end Go.Proofs.YtpkipilggkbkeaaGreatDoor.Pa
namespace Go.Proofs.YtpkipilggkbkeaaGreatDoor.Pa
open Go.RowKit Go.Maps
open Fs (Abs St Rs Rst Only Fx Lst E3 infoE3 rd_low Ent OkA radd_any RAPost at3)
open Rw (Rd Ow At Kind)
open Fl (row_cell row_frozen K4 R4 okL goodF goodFB rgood_any file)
set_option maxRecDepth 100000
attribute [local irreducible] Sd.wpSd wpQuiet
def entD:Ent:=⟨0,0,none,0,[]⟩
def eatF (L:List Ent) (i:Nat):Ent:=L.getD i entD
structure Fls (w:World) (v:Value) (L:List Ent) (B:Nat):Prop where
 rd:Rd E3 w v L
 file:∀ i,i < L.length→Rd K4 w (eatF L i).sl (eatF L i).l∧okL (eatF L i).l
 low:∀ i,i < L.length→0 < (eatF L i).l.length→∀ k,(eatF L i).sl.ownBlock=some k→k < B
theorem Fls.below {w w':World} {v:Value} {L:List Ent} {B:Nat} (h:Fls w v L B) (b:Below w.heap.size w w'):Fls w' v L B:=⟨h.rd.below b,fun i hi=>⟨(h.file i hi).1.below b,(h.file i hi).2⟩,h.low⟩
def RstPost (w:World) (F:Nat→Prop) (e:Ending) (w':World):Prop:=∃ r A,e = .returned (ptr r)∧Rs w' r F A 0∧w.heap.size≤r∧Below w.heap.size w w'
structure RSI (w:World) (r:Nat) (F:Nat→Prop) (A:Abs) (wr:World):Prop where
 rs:Rs wr r F A 0
 bel:Below w.heap.size w wr
theorem RSI.below {w wr wr':World} {r:Nat} {F:Nat→Prop} {A:Abs} (h:RSI w r F A wr) (b:Below wr.heap.size wr wr'):RSI w r F A wr':=⟨Fs.Rs.below h.rs b,h.bel.trans (b.mono h.bel.size)⟩
theorem RSI.step {w wr wr':World} {r:Nat} {F:Nat→Prop} {A A':Abs} (h:RSI w r F A wr) (hr:w.heap.size≤r) (rs:Rs wr' r F A' 0) (o:Only (fun k=>k=r) wr wr'):RSI w r F A' wr':=⟨rs,h.bel.trans (o.below h.bel.size fun k e=>by subst e;exact hr)⟩
theorem rsi_new (w:World) (F:Nat→Prop) (hF:∀ k,F k→k < w.heap.size):RSI w w.heap.size F [] (w.alloc (.cells #[.slice none 0 0,.int .i64 0] 42)) :=
 ⟨⟨_,[],⟨heap_alloc_new w _,fun g=>by have:=hF _ g;omega,⟨Rw.Rd.nil _,(fun h=>by simp at h),(fun c hc=>by cases hc),(fun c hc=>by cases hc)⟩,OkA.nil⟩,rfl⟩,(Below.refl w.heap.size w).alloc (Nat.le_refl _) _⟩
structure RsC (b o:Nat) (cn:Int) (g:Nat) (p:Int) (u:Value) (W:World):Prop where
 n:W.cell? ⟨b,o,none⟩=some (.int .i64 cn)
 box:W.heap[g]? = some (.cells #[.int .i64 p,u] 65 (0,0))
set_option maxHeartbeats 1000000 in
theorem rstore_any {w:World} {v:Value} {L:List Ent} {B:Nat} (H:Fls w v L B) (hB:B≤w.heap.size):Calls Tryz.prog 22 #[v] w (RstPost w (fun k=>B≤k∧k < w.heap.size)):=by
 have I0:=Lib.hid (rsi_new w (fun k=>B≤k∧k < w.heap.size) (fun k h=>h.2));have HH:=Lib.hid H;obtain ⟨a,cap,rfl,_,hm,hA⟩:=H.rd;have HA:=Lib.hid hA;unfold maxLen at hm;clear hA H;generalize hn:L.length=n at *;have HN:=Lib.hid hn;clear hn
 go_enter Tryz.func22,Tryz.ntmps22
 go_wp2;generalize (w.alloc (.cells #[.slice none 0 0,.int .i64 0] 42))=W0 at *
 go_loopw [4] (fun i wr=>∃ (k:Nat) (A:Abs),k≤n∧i = .int .i64 k∧Hid (RSI w w.heap.size (fun k=>B≤k∧k < w.heap.size) A wr)) (fun i _=>n - (intOf i).toNat)
 case atStart=>exact ⟨0,[],Nat.zero_le _,rfl,I0⟩
 case round =>
  obtain ⟨k,A,hk,rfl,I⟩:=hrel;clear I0;have hrl:w.heap.size < wr.heap.size:=by obtain ⟨_,_,h,_⟩:=I.out.rs;exact lt_of_block h.row
  have FIN:Hid (RstPost w (fun k=>B≤k∧k < w.heap.size) (.returned (ptr w.heap.size)) wr):=Lib.hid ⟨_,A,rfl,I.out.rs,Nat.le_refl _,I.out.bel⟩
  by_cases hlt:k < n
  ·by_cases h8:k < 8
   ·obtain ⟨b,off,rfl,A1⟩:=HA.out (by omega)
    obtain ⟨c0,c1,c2⟩:=at3 (A1.below I.out.bel) (i:=k) (c:=eatF L k) (by rw [List.getElem?_eq_getElem (by have:=HN.out;omega)];unfold eatF;rw [List.getD_eq_getElem?_getD,List.getElem?_eq_getElem (by have:=HN.out;omega)];rfl);have L0:=Lib.hid (at3 A1 (i:=k) (c:=eatF L k) (by rw [List.getElem?_eq_getElem (by have:=HN.out;omega)];unfold eatF;rw [List.getD_eq_getElem?_getD,List.getElem?_eq_getElem (by have:=HN.out;omega)];rfl)).1;obtain ⟨rd,okl⟩:=HH.out.file k (by have:=HN.out;omega);have LOW:=Lib.hid (HH.out.low k (by have:=HN.out;omega));have RD:=Lib.hid rd;have OKL:=Lib.hid okl;clear A1 rd okl FIN;generalize eatF L k=c at *;obtain ⟨cn,cp,ca,cc,cl⟩:=c;unfold Ent.sl at c2 RD LOW;simp only at c0 c1 c2 RD LOW OKL;generalize hcl:cl.length=q at *;have I1:=Lib.hid (I.out.below ((Below.refl wr.heap.size wr).alloc (Nat.le_refl _) (.cells #[.int .i64 cp,.slice ca q cc] 65)));have GD:=Lib.hid (rgood_any (wr.alloc (.cells #[.int .i64 cp,.slice ca q cc] 65)) cp (.slice ca q cc) cl (RD.out.below I1.out.bel));unfold file at GD;clear I
    cases hg:goodFB cp cl with
    | false =>
      rw [hg] at GD;go_wp2_with fail;refine GD.out.mono ?_;rintro e w2 ⟨rfl,b2⟩;have I2:=Lib.hid (I1.out.below b2);clear b2 GD I1;go_wp2
      go_roundw
      case rel=>exact ⟨k+1,A,by omega,by go_num,I2⟩
      case measure=>simp [intOf];omega
    | true =>
      rw [hg] at GD;have FB:Hid ((wr.alloc (.cells #[.int .i64 cp,.slice ca q cc] 65)).heap[wr.heap.size]? = some (.cells #[.int .i64 cp,.slice ca q cc] 65 (0,0))):=Lib.hid (heap_alloc_new wr _);have lc:b < w.heap.size:=World.block_lt_of_cell? _ _ L0.out;have C00:=Lib.hid c0;go_wp2_with fail;generalize (wr.alloc (.cells #[.int .i64 cp,.slice ca q cc] 65))=W2 at *;refine GD.out.mono ?_;rintro e w2 ⟨rfl,b2⟩;have I2:=Lib.hid (I1.out.below b2);have F2:=Lib.hid ((b2.block _ (lt_of_block FB.out)).trans FB.out);clear b2 GD I1 FB;go_upto_region 7 with fail;have N2:=Lib.hid ((I2.out.bel.cell lc).trans L0.out);have C0:RsC b (off+k * 3) cn wr.heap.size cp (.slice ca q cc) w2.drew:=⟨N2.out,F2.out⟩;have x0:=Sc.cell_in (C:=RsC b (off+k * 3) cn wr.heap.size cp (.slice ca q cc)) (a:=⟨b,off+k * 3,none⟩) (fun W' h=>h.n);have x1:=Sc.cell_in (C:=RsC b (off+k * 3) cn wr.heap.size cp (.slice ca q cc)) (a:=⟨wr.heap.size,0,none⟩) (fun W' h=>row_cell h.box 0);have x2:=Sc.cell_in (C:=RsC b (off+k * 3) cn wr.heap.size cp (.slice ca q cc)) (a:=⟨wr.heap.size,1,none⟩) (fun W' h=>row_cell h.box 1);have ne:Nonempty (Sc.In (RsC b (off+k * 3) cn wr.heap.size cp (.slice ca q cc))):=⟨⟨_,C0⟩⟩;have I3:Hid (RSI w w.heap.size (fun k=>B≤k∧k < w.heap.size) A w2.drew):=Lib.hid (I2.out.below ((Below.refl _ _).drew));have RD3:=Lib.hid (RD.out.below I3.out.bel)
      have RA:=Lib.hid (radd_any I3.out.rs (fun k h=>by have:=I3.out.bel.size;omega) cn cp (.slice ca q cc) cl RD3.out (fun h0 j hj hh=>by
       have:=LOW.out (by omega) j hj
       rcases hh with hh | hh
       ·omega
       ·omega) OKL.out)
      unfold file RAPost at RA;refine Sc.start (RsC b (off+k * 3) cn wr.heap.size cp (.slice ca q cc)) [(false,0),(false,1),(false,2),(false,3),(false,4),(false,5),(false,6),(true,7)] (by kernel_rfl) (by kernel_rfl) (by kernel_rfl) C0 ?_;dsimp only [Sd.picks,List.getElem?_cons_succ,List.getElem?_cons_zero]
      repeat (refine Sd.lit ?_;quiet_step (fail);refine wpQuiet_nil ?_)
      clear x0 x1 x2;generalize w2.drew=Wd at *;refine Sd.call (by rfl) (fun K hK=>?_);go_simp;refine RA.out.mono ?_;rintro e w5 ⟨rfl,rs5,o5⟩;have hgr:wr.heap.size≠w.heap.size:=by omega
      refine hK _ _ (Sc.Cl.of ⟨o5.cell C0.n (by show ¬ b=w.heap.size;omega),(o5.block _ (lt_of_block C0.box) hgr).trans C0.box⟩) ?_;have I5:=Lib.hid (I3.out.step (Nat.le_refl _) rs5 o5);clear hK K rs5 o5 RA C0 I2 I3;refine Sd.done ?_;go_wp2
      go_roundw
      case rel=>exact ⟨k+1,_,by omega,by go_num,I5⟩
      case measure=>simp [intOf];omega
   ·go_wp2
    go_ret
    exact FIN.out
  ·go_wp2
   go_ret
   exact FIN.out
end Go.Proofs.YtpkipilggkbkeaaGreatDoor.Pa
namespace Go.Proofs.YtpkipilggkbkeaaGreatDoor.Ck
open Go.RowKit
open Ro (E5 z5 eat ent K5 at5 eat_mem eq_ent)
open Rw (Rd Ow At)
open Fl (ret_bool at_bool row_cell row_frozen)
theorem rd_cut {w:World} {v:Value} {l:List E5} {a:Option Addr} {n cap k:Nat} (R:Rd K5 w v l) (e:v = .slice a n cap) (hk:k≤l.length) (h0:0 < k):Rd K5 w (.slice a k cap) (l.take k):=by
 obtain ⟨a',cap',e',⟨h1,h2⟩,h3,h4⟩:=R;rw [e] at e';injection e' with e1 e2 e3;subst e1 e3;have hl:(l.take k).length=k:=by rw [List.length_take];omega
 refine ⟨a,cap,by rw [hl],⟨by rw [hl];omega,h2⟩,h3,fun _=>?_⟩;obtain ⟨b,off,rfl,hA⟩:=h4 (by omega);refine ⟨b,off,rfl,fun i hi j u hu=>?_⟩;rw [hl] at hi;refine hA i (by omega) j u ?_;rw [← hu,List.getD,List.getD,List.getElem?_take,if_pos hi]
theorem addr_zero (a:Addr):a.add 0=a:=by cases a;simp [Addr.add]
theorem infoS:(Tryz.prog.info? 58).map (fun i=>(i.zero,i.size,i.bytes))=some (some (.slice none 0 0),1,24):=by kernel_rfl
structure FRel (w:World) (L:LL) (k:Nat) (v:Value) (hs:List Hd) (wr:World):Prop where
 len:hs.length=k
 own:Ow KS wr w.heap.size 58 v hs
 each:∀ i,i < k→Rd K5 w (sl (hs.getD i zh)) ((lat L i).take 70)
 bel:Below w.heap.size w wr
def FewPost (w:World) (L:LL) (e:Ending) (w':World):Prop:=∃ u,e = .returned u∧RdL w' u (fewL L)∧Below w.heap.size w w'
theorem FRel.push {w:World} {L:LL} {k:Nat} {v v':Value} {hs:List Hd} {wr wr':World} (h:FRel w L k v hs wr) (c:Hd) (o:Ow KS wr' w.heap.size 58 v' (hs ++ [c])) (hc:Rd K5 w (sl c) ((lat L k).take 70)) (b:Below w.heap.size w wr'):FRel w L (k+1) v' (hs ++ [c]) wr':=by
 refine ⟨by rw [List.length_append,h.len];rfl,o,fun i hi=>?_,b⟩
 by_cases e:i=k
 ·subst e
  rw [show (hs ++ [c]).getD i zh=c by rw [List.getD,List.getElem?_append_right (by rw [h.len];omega),h.len,Nat.sub_self];rfl];exact hc
 ·rw [show (hs ++ [c]).getD i zh=hs.getD i zh by rw [List.getD,List.getD,List.getElem?_append_left (by rw [h.len];omega)]]
  exact h.each i (by omega)
theorem FRel.fin {w:World} {L:LL} {k:Nat} {v:Value} {hs:List Hd} {wr:World} (h:FRel w L k v hs wr) (hk:k=min 12 L.length):FewPost w L (.returned v) wr:=by
 have hl:(fewL L).length=k:=by simp [fewL,List.length_take,hk]
 refine ⟨v,rfl,rdl_of h.own.rd (by rw [h.len,hl]) (fun i hi=>?_),h.bel⟩;rw [hl] at hi;rw [few_lat (by omega)];exact (h.each i hi).below h.bel
theorem rdl_two {w:World} {g:Nat} {u v:Value} {l m:List E5} (h:w.heap[g]? = some (.cells #[u,v] 58 (0,0))) (hu:Rd K5 w u l) (hv:Rd K5 w v m):RdL w (.slice (some ⟨g,0,none⟩) 2 2) [l,m]:=by
 refine ⟨_,2,rfl,⟨Nat.le_refl _,nofun⟩,by unfold maxLen;omega,fun _=>⟨g,0,rfl,fun i hi=>?_⟩⟩;rw [Nat.zero_add]
 match i,hi with
 | 0,_=>exact ⟨u,row_cell h 0,hu⟩
 | 1,_=>exact ⟨v,row_cell h 1,hv⟩
def xa:E5:=(1,1,0,1,0)
end Go.Proofs.YtpkipilggkbkeaaGreatDoor.Ck
namespace Go.Proofs.YtpkipilggkbkeaaGreatDoor.Sg
open Go.RowKit
open Sd (light light_value)
open Sc (In Cl)
structure Fl where
 idx:Nat
 slot:Nat
 src:Nat
 val:Value
 ty:TypeId
def Fl.cs (f:Fl):Array Value:=#[f.val]
def sl1 (g:Nat):Value:=.slice (some ⟨g,0,none⟩) 1 1
theorem sl1_inj {g h:Nat} : sl1 g=sl1 h↔g=h:=⟨fun e=>by unfold sl1 at e;injection e with e;injection e with e;injection e,fun e=>by rw [e]⟩
def fill (F:List Fl) (x:Nat→Value) (a:Act):Act:=F.foldl (fun a f=>a.put (some f.slot) (x f.slot)) a
theorem put_comm (a:Act) {d e:Nat} (h:d≠e) (u v:Value):(a.put (some d) u).put (some e) v=(a.put (some e) v).put (some d) u:=by
 simp only [Act.put];rw [Array.setIfInBounds_comm _ _ h]
theorem put_put (a:Act) (d:Nat) (u v:Value):(a.put (some d) u).put (some d) v=a.put (some d) v:=by
 simp only [Act.put,Array.setIfInBounds_setIfInBounds]
theorem fill_put (x:Nat→Value) (dst:Option Nat) (v:Value):∀ (F:List Fl) (a:Act),(∀ f∈F,dst≠some f.slot)→(fill F x a).put dst v=fill F x (a.put dst v)
 | [],a,_=>rfl
 | f :: r,a,h=>by
   have ih:=fill_put x dst v r (a.put (some f.slot) (x f.slot)) fun g hg=>h g (List.mem_cons_of_mem _ hg)
   show (fill r x (a.put (some f.slot) (x f.slot))).put dst v=fill r x ((a.put dst v).put (some f.slot) (x f.slot))
   rw [ih]
   cases dst with
   | none=>rfl
   | some d=>rw [put_comm a (fun e=>h f (List.mem_cons_self ..) (by rw [e])) (x f.slot) v]
theorem fill_congr {x y:Nat→Value} : ∀ (F:List Fl) (a:Act),(∀ f∈F,x f.slot=y f.slot)→fill F x a=fill F y a
 | [],_,_=>rfl
 | f :: r,a,h=>by
   show fill r x (a.put (some f.slot) (x f.slot))=fill r y (a.put (some f.slot) (y f.slot))
   rw [h f (List.mem_cons_self ..),fill_congr r _ fun g hg=>h g (List.mem_cons_of_mem _ hg)]
def upd (x:Nat→Value) (s:Nat) (v:Value) (k:Nat):Value:=if k=s then v else x k
theorem fill_set (x:Nat→Value) (s:Nat) (v:Value):∀ (F:List Fl) (a:Act),(F.map (·.slot)).Nodup→(∃ f∈F,f.slot=s)→(fill F x a).put (some s) v=fill F (upd x s v) a
 | [],a,_,h=>by obtain ⟨_,h,_⟩:=h;cases h
 | f :: r,a,hn,h=>by
   rw [List.map_cons,List.nodup_cons] at hn
   show (fill r x (a.put (some f.slot) (x f.slot))).put (some s) v=fill r (upd x s v) (a.put (some f.slot) (upd x s v f.slot))
   by_cases e:f.slot=s
   ·have hne:∀ g∈r,g.slot≠s:=fun g hg e'=>hn.1 (List.mem_map.2 ⟨g,hg,by rw [e,e']⟩)
    rw [fill_put x (some s) v r _ fun g hg e'=>hne g hg (Option.some.inj e').symm,e,put_put];rw [show upd x s v s=v by simp [upd]];exact fill_congr r _ fun g hg=>by simp [upd,hne g hg]
   ·obtain ⟨g,hg,hs⟩:=h
    have hg':g∈r:=by
     rcases List.mem_cons.1 hg with rfl | k
     ·exact absurd hs e
     ·exact k
    rw [show upd x s v f.slot=x f.slot by simp [upd,e]];exact fill_set x s v r _ hn.2 ⟨g,hg',hs⟩
def marks (L:Array Bool) (d:List Nat):Array Bool:=d.foldl (fun L i=>L.setIfInBounds i true) L
theorem marks_get:∀ (d:List Nat) (L:Array Bool) (k:Nat),(marks L d)[k]? = if k∈d then (L[k]?).map (fun _=>true) else L[k]?
 | [],L,k=>by simp [marks]
 | i :: r,L,k=>by
   show (marks (L.setIfInBounds i true) r)[k]? = _
   rw [marks_get r,Array.getElem?_setIfInBounds]
   by_cases hi:i=k
   ·subst hi
    by_cases hl:i < L.size
    ·simp [hl]
    ·simp [hl]
   ·have hk:k≠i:=fun e=>hi e.symm
    simp [hi,hk]
theorem marks_size:∀ (d:List Nat) (L:Array Bool),(marks L d).size=L.size
 | [],_=>rfl
 | j :: r,L=>by show (marks (L.setIfInBounds j true) r).size=_;rw [marks_size r,Array.size_setIfInBounds]
theorem marks_set (L:Array Bool) (d:List Nat) (i:Nat):(marks L d).setIfInBounds i true=marks (L.setIfInBounds i true) d:=by
 refine Array.ext_getElem? fun k=>?_;rw [Array.getElem?_setIfInBounds,marks_get,marks_get,Array.getElem?_setIfInBounds];rw [marks_size]
 by_cases hi:i=k
 ·subst hi
  by_cases hl:i < L.size <;> by_cases hd:i∈d <;> simp [hl,hd]
 ·simp [hi]
def doneOf (F:List Fl) (m:Nat→Bool):List Nat:=(F.filter fun f=>m f.idx).map (·.idx)
theorem mem_done {F:List Fl} {m:Nat→Bool} {k:Nat} : k∈doneOf F m↔m k=true∧∃ f∈F,f.idx=k:=by
 unfold doneOf;rw [List.mem_map]
 constructor
 ·rintro ⟨f,hf,rfl⟩
  rw [List.mem_filter] at hf;exact ⟨hf.2,f,hf.1,rfl⟩
 ·rintro ⟨hm,f,hf,rfl⟩
  exact ⟨f,List.mem_filter.2 ⟨hf,hm⟩,rfl⟩
def on (m:Nat→Bool) (j k:Nat):Bool:=k == j || m k
theorem marks_on (L:Array Bool) (F:List Fl) (m:Nat→Bool) (f:Fl) (hf:f∈F):(marks L (doneOf F m)).setIfInBounds f.idx true=marks L (doneOf F (on m f.idx)):=by
 rw [marks_set];refine Array.ext_getElem? fun k=>?_;rw [marks_get,marks_get,Array.getElem?_setIfInBounds]
 by_cases e:f.idx=k
 ·subst e
  have h2:f.idx∈doneOf F (on m f.idx):=mem_done.2 ⟨by simp [on],f,hf,rfl⟩;rw [if_pos h2]
  by_cases hl:f.idx < L.size <;> by_cases hd:f.idx∈doneOf F m <;> simp [hl,hd]
 ·have hiff:(k∈doneOf F (on m f.idx))↔(k∈doneOf F m):=by
   have hb:(k == f.idx)=false:=by simpa using fun h=>e h.symm
   rw [mem_done,mem_done]
   simp [on,hb]
  by_cases hd:k∈doneOf F m
  ·rw [if_pos hd,if_pos (hiff.2 hd)];simp [e]
  ·rw [if_neg hd,if_neg (fun h=>hd (hiff.1 h))];simp [e]
def allMasks:List Fl→(List Nat→Bool)→Bool
 | [],k=>k []
 | f :: r,k=>allMasks r k && allMasks r (fun d=>k (f.idx :: d))
theorem allMasks_spec:∀ (F:List Fl) (k:List Nat→Bool),allMasks F k=true→∀ m,k (doneOf F m)=true
 | [],k,h,m=>h
 | f :: r,k,h,m=>by
   unfold allMasks at h;rw [Bool.and_eq_true] at h;unfold doneOf;rw [List.filter_cons]
   cases hm:m f.idx with
   | true=>rw [if_pos rfl];exact allMasks_spec r _ h.2 m
   | false=>rw [if_neg (by simp)];exact allMasks_spec r _ h.1 m
def good (ops:Array Oper):List (Nat×Nat)→List Fl→Array Bool→Bool
 | [],F,L=>F.isEmpty && (Region.ready .any ops L).isEmpty
 | (0,i) :: r,F,L =>
   (match ops[i]? with
    | some o=>light o.op && F.all (fun f=>o.dst != some f.slot && o.dst != some f.src) && allMasks F (fun d=>Region.free .any ops (marks L d) i && (Region.ready .any ops (marks L d)).contains i)
    | none=>false) && good ops r F (L.setIfInBounds i true)
 | (1,i) :: r,F,L =>
   (match ops[i]? with
    | some o=>F.all (fun f=>o.dst != some f.slot && o.dst != some f.src) && allMasks F (fun d=>!(Region.ready .any ops (marks L d)).isEmpty && (Region.ready .any ops (marks L d)).all fun j=>j == i || F.any fun f=>f.idx == j && !d.contains j)
    | none=>false) && good ops r F (L.setIfInBounds i true)
 | (_,i) :: r,f :: F,L =>
   (ops[i]?).isSome && allMasks (f :: F) (fun d=>d.contains f.idx || (!(Region.ready .any ops (marks L d)).isEmpty && (Region.ready .any ops (marks L d)).all fun j=>(f :: F).any fun g=>g.idx == j && !d.contains j)) && good ops r F (L.setIfInBounds f.idx true)
 | (_,_) :: _,[],_=>false
def wpSg (P:Program) (ops:Array Oper) (C:World→Prop) (Q:Exit→Act→World→Prop) (n0:Nat):List (Nat×Oper)→List Fl→List (Nat×Nat)→List Nat→Act→World→Prop
 | [],_,_,_,a,w=>∀ w',Below w.heap.size w w'→C w'→Q .normal a w'
 | (0,o) :: r,F,H,L,a,w=>∀ x,wpQuiet P ops C (fun a'=>wpSg P ops C Q n0 r F H L a' w) [o] (fill F x a)
 | (1,o) :: r,F,H,L,a,w=>∀ x w',Below w.heap.size w w'→C w'→Region.wanted o (yielded ops (fill F x a).tmps)=true ∧
     o.wp P (fill F x a) w' (fun a'' w''=>C w''∧w'.heap.size≤w''.heap.size∧(∀ g,n0≤g→g < w'.heap.size→w''.heap[g]? = w'.heap[g]?)∧wpSg P ops C Q n0 r F ((w'.heap.size,w''.heap.size) :: H) L a'' w'') Q
 | (_,_) :: r,F,H,L,a,w=>match F with
   | []=>False
   | f :: F=>∀ g w',Below w.heap.size w w'→C w'→w'.heap[g]? = some (.cells f.cs f.ty (0,0))→n0≤g→(∀ p∈H,g < p.1∨p.2≤g)→g ∉ L→wpSg P ops C Q n0 r F H (g :: L) (a.put (some f.slot) (sl1 g)) w'
def picks (l:List Oper):List (Nat×Nat)→List (Nat×Oper)
 | []=>[]
 | (k,i) :: r=>match l[i]? with
   | some o=>(k,o) :: picks l r
   | none=>picks l r
structure Inv (F:List Fl) (m:Nat→Bool) (x:Nat→Value) (a:Act) (n0:Nat) (H:List (Nat×Nat)) (L:List Nat) (w:World):Prop where
 ne:∀ f∈F,∀ g∈F,f.slot≠g.src
 src:∀ f∈F,a.tmps.getD f.src undef=f.val
 old:∀ f∈F,m f.idx=false→x f.slot=a.tmps.getD f.slot undef
 new:∀ f∈F,m f.idx=true→∃ g,x f.slot=sl1 g∧w.heap[g]? = some (.cells f.cs f.ty (0,0))∧n0≤g∧(∀ p∈H,g < p.1∨p.2≤g)∧g ∉ L
 apart:∀ f∈F,∀ f'∈F,f.slot≠f'.slot→m f.idx=true→m f'.idx=true→x f.slot≠x f'.slot
 past:∀ p∈H,p.2≤w.heap.size
 met:∀ g∈L,g < w.heap.size
theorem getD_put (a:Act) (dst:Option Nat) (v:Value) (s:Nat) (h:dst≠some s):(a.put dst v).tmps.getD s undef=a.tmps.getD s undef:=by
 cases dst with
 | none=>rfl
 | some d =>
   have hd:d≠s:=fun e=>h (by rw [e]);simp only [Act.put,Array.getD_eq_getD_getElem?,Array.getElem?_setIfInBounds,if_neg hd]
theorem fill_idem (x:Nat→Value):∀ (F:List Fl) (a:Act),fill F x (fill F x a)=fill F x a
 | [],_=>rfl
 | f :: r,a=>by
   show fill r x ((fill r x (a.put (some f.slot) (x f.slot))).put (some f.slot) (x f.slot))=fill r x (a.put (some f.slot) (x f.slot))
   have e:∀ (r:List Fl) (b:Act),(fill r x (b.put (some f.slot) (x f.slot))).put (some f.slot) (x f.slot)=fill r x (b.put (some f.slot) (x f.slot)):=by
    intro r
    induction r with
    | nil=>intro b;exact put_put b _ _ _
    | cons g r ih =>
      intro b
      show (fill r x ((b.put (some f.slot) (x f.slot)).put (some g.slot) (x g.slot))).put (some f.slot) (x f.slot)=fill r x ((b.put (some f.slot) (x f.slot)).put (some g.slot) (x g.slot))
      by_cases h:f.slot=g.slot
      ·rw [← h,put_put];exact ih b
      ·rw [put_comm b h,ih]
   rw [e];exact fill_idem x r _
def withD (a:Act) (ds:List Deferred):Act:={ a with defers:=ds }
theorem fill_D (x:Nat→Value) (ds:List Deferred):∀ (F:List Fl) (a:Act),withD (fill F x a) ds=fill F x (withD a ds)
 | [],_=>rfl
 | f :: r,a=>by
   show withD (fill r x (a.put (some f.slot) (x f.slot))) ds=fill r x ((withD a ds).put (some f.slot) (x f.slot))
   rw [fill_D x ds r]
   rfl
theorem getD_fill (x:Nat→Value) (s:Nat):∀ (F:List Fl) (a:Act),(∀ f∈F,f.slot=s→x s=a.tmps.getD s undef)→(fill F x a).tmps.getD s undef=a.tmps.getD s undef
 | [],_,_=>rfl
 | f :: r,a,h=>by
   have e:(a.put (some f.slot) (x f.slot)).tmps.getD s undef=a.tmps.getD s undef:=by
    by_cases hs:f.slot=s
    ·subst hs
     have:=h f (List.mem_cons_self ..) rfl;simp only [Act.put,Array.getD_eq_getD_getElem?,Array.getElem?_setIfInBounds] at *
     by_cases hl:f.slot < a.tmps.size
     ·simp [hl] at *;exact this
     ·simp [hl]
    ·exact getD_put a _ _ s (fun k=>hs (Option.some.inj k))
   show (fill r x (a.put (some f.slot) (x f.slot))).tmps.getD s undef=_
   rw [getD_fill x s r _ fun g hg k=>by rw [e];exact h g (List.mem_cons_of_mem _ hg) k,e]
theorem wp_put {P:Program} {o:Oper} {a:Act} {w:World} {K:Act→World→Prop} {Q:Exit→Act→World→Prop} (h:o.wp P a w K Q):o.wp P a w (fun a' w'=>(∃ ds v,a'=(withD a ds).put o.dst v)∧K a' w') Q:=by
 unfold Oper.wp at *
 cases hr:(execOp a.eval o).run P w with
 | halt y w1=>rw [hr] at h;cases y <;> exact h
 | ok nx w1 =>
   rw [hr] at h
   cases nx with
   | value v=>exact ⟨⟨a.defers,v,rfl⟩,h⟩
   | skip=>exact ⟨⟨a.defers,undef,rfl⟩,h⟩
   | defer d=>exact ⟨⟨d :: a.defers,undef,rfl⟩,h⟩
   | enter f args =>
     refine Calls.mono h fun e w'' k=>?_
     cases e with
     | returned v=>exact ⟨⟨a.defers,v,rfl⟩,k⟩
     | panicked c=>exact k
     | outgrown=>exact k
   | row r args=>exact Rows.mono h fun v w'' k=>⟨⟨a.defers,v,rfl⟩,k⟩
   | _=>exact h
def left:List Fl→(Nat→Bool)→Nat
 | [],_=>0
 | f :: r,m=>left r m+(if m f.idx then 0 else 1)
theorem on_le (m:Nat→Bool) (j k:Nat):(if on m j k then 0 else 1)≤(if m k then 0 else 1):=by
 unfold on
 cases (k == j) <;> cases m k <;> simp
theorem left_mono (m:Nat→Bool) (j:Nat):∀ r:List Fl,left r (on m j)≤left r m
 | []=>Nat.le_refl _
 | g :: r=>Nat.add_le_add (left_mono m j r) (on_le m j g.idx)
theorem left_on:∀ (F:List Fl) (m:Nat→Bool) (f:Fl),f∈F→m f.idx=false→left F (on m f.idx)+1≤left F m
 | g :: r,m,f,hf,hm=>by
   have a:=left_mono m f.idx r;have b:=on_le m f.idx g.idx;unfold left
   rcases List.mem_cons.1 hf with e | k
   ·subst e
    have:on m f.idx f.idx=true:=by simp [on]
    rw [this,hm]
    simp
    exact a
   ·have ih:=left_on r m f k hm
    omega
theorem nodup_same:∀ {F:List Fl},(F.map (·.slot)).Nodup→∀ f∈F,∀ g∈F,g.slot=f.slot→g=f
 | [],_,f,hf,_,_,_=>by cases hf
 | b :: r,hn,f,hf,g,hg,e=>by
   rw [List.map_cons,List.nodup_cons] at hn
   rcases List.mem_cons.1 hg with h1 | hg'
   ·rcases List.mem_cons.1 hf with h2 | hf'
    ·rw [h1,h2]
    ·exact absurd (List.mem_map.2 ⟨f,hf',by rw [← e,h1]⟩) hn.1
   ·rcases List.mem_cons.1 hf with h2 | hf'
    ·exact absurd (List.mem_map.2 ⟨g,hg',by rw [e,h2]⟩) hn.1
    ·exact nodup_same hn.2 f hf' g hg' e
section
variable {P:Program} {l:List Oper} {C:World→Prop} {Q:Exit→Act→World→Prop} {n0:Nat}
def FlOk (P:Program) (l:List Oper) (f:Fl):Prop:=∃ o,l.toArray[f.idx]? = some o∧o.dst=some f.slot∧o.guard=none∧∀ ρ w,ρ (.tmp f.src)=f.val→(execOp ρ o).run P w = .ok (.value (sl1 w.heap.size)) (w.alloc (.cells f.cs f.ty))
theorem Inv.step {F:List Fl} {m:Nat→Bool} {x:Nat→Value} {a:Act} {H:List (Nat×Nat)} {L:List Nat} {w:World} (h:Inv F m x a n0 H L w) (hn:(F.map (·.slot)).Nodup) (hi:∀ f∈F,∀ f'∈F,f.idx=f'.idx→f.slot=f'.slot) (h0:n0≤w.heap.size) (f:Fl) (hf:f∈F) (hm:m f.idx=false) :
 Inv F (on m f.idx) (upd x f.slot (sl1 w.heap.size)) a n0 H L (w.alloc (.cells f.cs f.ty)):=by
 have same:∀ g∈F,g.slot=f.slot→g=f:=nodup_same hn f hf;have on_:∀ g∈F,g.slot≠f.slot→on m f.idx g.idx=m g.idx:=fun g hg hne=>by
  have hb:(g.idx == f.idx)=false:=by simpa using fun e=>hne (hi g hg f hf e)
  simp [on,hb]
 have onf:on m f.idx f.idx=true:=by simp [on]
 refine ⟨h.ne,h.src,fun g hg hmg=>?_,fun g hg hmg=>?_,fun g hg g' hg' hne hmg hmg'=>?_,fun p hp=>?_,fun g hg=>?_⟩
 ·by_cases e:g.slot=f.slot
  ·rw [same g hg e,onf] at hmg;cases hmg
  ·rw [on_ g hg e] at hmg
   simp only [upd,if_neg e];exact h.old g hg hmg
 ·by_cases e:g.slot=f.slot
  ·obtain rfl:=same g hg e
   exact ⟨w.heap.size,by simp [upd],heap_alloc_new w _,h0,fun p hp=>.inr (h.past p hp),fun hl=>by have:=h.met _ hl;omega⟩
  ·rw [on_ g hg e] at hmg
   obtain ⟨b,h1,h2,h3⟩:=h.new g hg hmg;exact ⟨b,by simp only [upd,if_neg e];exact h1,(Below.heap_alloc w _ b (lt_of_block h2)).trans h2,h3⟩
 ·by_cases e:g.slot=f.slot
  ·have e':g'.slot≠f.slot:=fun k=>hne (e.trans k.symm)
   rw [on_ g' hg' e'] at hmg';obtain ⟨b,h1,h2,_⟩:=h.new g' hg' hmg';have:=lt_of_block h2;simp only [upd,if_pos e,if_neg e',h1];exact fun k=>by have:=sl1_inj.1 k;omega
  ·by_cases e':g'.slot=f.slot
   ·rw [on_ g hg e] at hmg
    obtain ⟨b,h1,h2,_⟩:=h.new g hg hmg;have:=lt_of_block h2;simp only [upd,if_neg e,if_pos e',h1];exact fun k=>by have:=sl1_inj.1 k;omega
   ·rw [on_ g hg e] at hmg
    rw [on_ g' hg' e'] at hmg';simp only [upd,if_neg e,if_neg e'];exact h.apart g hg g' hg' hne hmg hmg'
 ·have:=h.past p hp
  simp
  omega
 ·have:=h.met g hg
  simp
  omega
def cnt:List (Nat×Nat)→Nat
 | []=>0
 | (0,_) :: r=>cnt r+1
 | (1,_) :: r=>cnt r+1
 | (_+2,_) :: r=>cnt r
def Holds (P:Program) (l:List Oper) (C:World→Prop) (Q:Exit→Act→World→Prop) (n0:Nat) (n:Nat):Prop :=
 ∀ (sc:List (Nat×Nat)) (F:List Fl) (H:List (Nat×Nat)) (L:List Nat) (listed:Array Bool) (fuel:Nat) (a:Act) (w:World) (m:Nat→Bool) (x:Nat→Value) (w':World),
  2 * fuel+sc.length≤n→good l.toArray sc F listed=true→(∀ f∈F,FlOk P l f)→(F.map (·.slot)).Nodup→(∀ f∈F,∀ f'∈F,f.idx=f'.idx→f.slot=f'.slot)→Inv F m x a n0 H L w'→Below w.heap.size w w'→C w' →
  cnt sc+left F m≤fuel→wpSg P l.toArray C Q n0 (picks l sc) F H L a w→wpAnyH P .any l.toArray Q C fuel (marks listed (doneOf F m)) (fill F x a) w'
theorem wanted_none {o:Oper} {y:Nat→Option Bool} (h:o.guard=none):Region.wanted o y=true:=by simp [Region.wanted,h]
theorem float {n:Nat} (ih:Holds P l C Q n0 n) (hC:∀ w,C w→n0≤w.heap.size) (hA:∀ w o,C w→C (w.alloc o)) {sc:List (Nat×Nat)} {F:List Fl} {H:List (Nat×Nat)} {L:List Nat} {listed:Array Bool} {fuel:Nat} {a:Act} {w:World} {m:Nat→Bool} {x:Nat→Value} {w':World}
 (hn:2 * (fuel+1)+sc.length≤n+1) (hg:good l.toArray sc F listed=true) (hF:∀ f∈F,FlOk P l f) (hs:(F.map (·.slot)).Nodup) (hi:∀ f∈F,∀ f'∈F,f.idx=f'.idx→f.slot=f'.slot) (hI:Inv F m x a n0 H L w') (hb:Below w.heap.size w w') (hc:C w')
 (hf:cnt sc+left F m≤fuel+1) (h:wpSg P l.toArray C Q n0 (picks l sc) F H L a w) (f:Fl) (hff:f∈F) (hm:m f.idx=false) :
 wpOp P l.toArray Q f.idx (fun a' w'=>C w'∧wpAnyH P .any l.toArray Q C fuel ((marks listed (doneOf F m)).setIfInBounds f.idx true) a' w') (fill F x a) w':=by
 obtain ⟨o,ho,hd,hgd,hrun⟩:=hF f hff;unfold wpOp;simp only [ho,wanted_none hgd,if_true];refine .inl ?_;unfold Oper.wp;rw [hrun _ _ (by show (fill F x a).tmps.getD f.src undef=f.val;rw [getD_fill x f.src F a fun g hg e=>absurd e (hI.ne g hg f hff)];exact hI.src f hff)];rw [Oper.upon_value,hd,fill_set x f.slot _ F a hs ⟨f,hff,rfl⟩,marks_on listed F m f hff];have lo:=left_on F m f hff hm;exact ⟨hA _ _ hc,ih sc F H L listed fuel a w _ _ _ (by omega) hg hF hs hi (hI.step hs hi (hC _ hc) f hff hm) (hb.trans ((Below.refl _ _).alloc hb.size _)) (hA _ _ hc) (by omega) h⟩
theorem holds (hsel:Region.noSelect l.toArray=true) (hQ:∀ c d v a w,Q (.panic c) (Act.put a d v) w→Q (.panic c) a w) (hC:∀ w,C w→n0≤w.heap.size) (hA:∀ w o,C w→C (w.alloc o)):∀ n,Holds P l C Q n0 n:=by
 intro n
 induction n with
 | zero =>
   intro sc F H L listed fuel a w m x w' hn hg hF hs hi hI hb hc hf h
   have e:sc = []:=List.length_eq_zero_iff.1 (by omega);subst e;unfold good at hg;simp only [Bool.and_eq_true,List.isEmpty_iff] at hg;obtain ⟨rfl,hr⟩:=hg;exact wpAnyH_done hr (h w' hb hc) fuel
 | succ n ih =>
   intro sc F H L listed fuel a w m x w' hn hg hF hs hi hI hb hc hf h
   match sc,hg,h,hn,hf with
   | [],hg,h,_,_ =>
     unfold good at hg;simp only [Bool.and_eq_true,List.isEmpty_iff] at hg;obtain ⟨rfl,hr⟩:=hg;exact wpAnyH_done hr (h w' hb hc) fuel
   | (0,i) :: r,hg,h,hn,hf =>
     have hg':(_ && good l.toArray r F (listed.setIfInBounds i true))=true:=hg;rw [Bool.and_eq_true] at hg';obtain ⟨hg1,hg2⟩:=hg'
     cases ho:l[i]? with
     | none=>simp [ho] at hg1
     | some o =>
       have hop:l.toArray[i]? = some o:=by simp [ho]
       rw [hop] at hg1;simp only [Bool.and_eq_true,List.all_eq_true] at hg1;obtain ⟨⟨hl,hds⟩,hm⟩:=hg1;have hds':∀ f∈F,o.dst≠some f.slot:=fun f hf=>by have:=hds f hf;simp at this;simpa using this.1
       have hdr:∀ f∈F,o.dst≠some f.src:=fun f hf=>by have:=hds f hf;simp at this;simpa using this.2
       have hm':=allMasks_spec F _ hm m;simp only [Bool.and_eq_true] at hm';rw [picks,ho] at h;obtain ⟨fuel,rfl⟩:∃ k,fuel=k+1:=⟨fuel - 1,by simp only [cnt] at hf;omega⟩;have q:=h x;unfold wpQuiet at q;have next:∀ v',wpSg P l.toArray C Q n0 (picks l r) F H L ((fill F x a).put o.dst v') w→wpAnyH P .any l.toArray Q C fuel ((marks listed (doneOf F m)).setIfInBounds i true) ((fill F x a).put o.dst v') w':=fun v' hnx=>by
        have k:=ih r F H L (listed.setIfInBounds i true) fuel ((fill F x a).put o.dst v') w m x w' (by simp at hn;omega) hg2 hF hs hi ⟨hI.ne,fun f hff=>by rw [getD_put _ o.dst v' f.src (hdr f hff),getD_fill x f.src F a fun g hg e=>absurd e (hI.ne g hg f hff)];exact hI.src f hff,fun f hff hmf=>?_,hI.new,hI.apart,hI.past,hI.met⟩ hb hc (by simp only [cnt] at hf;omega) hnx
        ·rw [fill_put x o.dst v' F a hds',fill_idem,← marks_set] at k
         rw [fill_put x o.dst v' F a hds'];exact k
        ·rw [getD_put _ o.dst v' f.slot (hds' f hff),getD_fill x f.slot F a fun g hg e=>by rw [← e];obtain rfl:=nodup_same hs f hff g hg e;exact hI.old g hg hmf]
         exact hI.old f hff hmf
       by_cases hw:Region.wanted o (yielded l.toArray (fill F x a).tmps)=true
       ·rw [if_pos hw] at q
        obtain ⟨v',hv',e⟩:=q;refine wpAnyH_take (v:=v') hop hsel hm'.1 hm'.2 (fun c a w=>hQ c _ _ a w) (.inl ⟨hw,fun w2 hw2=>?_⟩) hc (next v' e);have q2:=hv' w2 hw2;unfold Oper.quietAt at q2
        cases e2:(execOp (fill F x a).eval o).run P w2 with
        | halt y w1=>rw [e2] at q2;cases q2
        | ok nx w1 =>
          obtain ⟨u,rfl⟩:=light_value hl e2;rw [e2] at q2;obtain ⟨e3,e4⟩:=q2;rw [e3,e4]
       ·rw [if_neg hw] at q
        exact wpAnyH_take (v:=undef) hop hsel hm'.1 hm'.2 (fun c a w=>hQ c _ _ a w) (.inr ⟨by simpa using hw,rfl⟩) hc (next undef q)
   | (1,i) :: r,hg,h,hn,hf =>
     have hg0:=hg;have h0:=h;have hg':(_ && good l.toArray r F (listed.setIfInBounds i true))=true:=hg;rw [Bool.and_eq_true] at hg';obtain ⟨hg1,hg2⟩:=hg'
     cases ho:l[i]? with
     | none=>simp [ho] at hg1
     | some o =>
       have hop:l.toArray[i]? = some o:=by simp [ho]
       rw [hop] at hg1;simp only [Bool.and_eq_true,List.all_eq_true] at hg1;obtain ⟨hds,hm⟩:=hg1;have hds':∀ f∈F,o.dst≠some f.slot:=fun f hf=>by have:=hds f hf;simp at this;simpa using this.1
       have hdr:∀ f∈F,o.dst≠some f.src:=fun f hf=>by have:=hds f hf;simp at this;simpa using this.2
       have hm':=allMasks_spec F _ hm m;simp only [Bool.and_eq_true,List.all_eq_true] at hm';rw [picks,ho] at h;obtain ⟨hw,hwp⟩:=h x w' hb hc;obtain ⟨fuel,rfl⟩:∃ k,fuel=k+1:=⟨fuel - 1,by simp only [cnt] at hf;omega⟩;refine wpAnyH_all rfl (fun e=>by rw [e] at hm';simp at hm') fun j hj=>?_;have hj':=hm'.2 j hj;rw [Bool.or_eq_true] at hj'
       rcases hj' with e | hfl
       ·obtain rfl:j=i:=by simpa using e
        unfold wpOp;simp only [hop,hw,if_true];refine .inl (Oper.wp_mono (fun a'' w'' hh=>?_) (wp_put hwp));obtain ⟨⟨ds,v,rfl⟩,c2,hsz,hbel,hT⟩:=hh;refine ⟨c2,?_⟩;have k:=ih r F _ L (listed.setIfInBounds j true) fuel ((withD (fill F x a) ds).put o.dst v) w'' m x w'' (by simp at hn;omega) hg2 hF hs hi ⟨hI.ne,fun f hff=>by rw [fill_D,getD_put _ o.dst v f.src (hdr f hff),getD_fill x f.src F _ fun g hg e=>absurd e (hI.ne g hg f hff)];exact hI.src f hff,fun f hff hmf=>?_,fun f hff hmf=>?_,hI.apart,fun p hp=>?_,fun g hg=>Nat.lt_of_lt_of_le (hI.met g hg) hsz⟩ (Below.refl _ _) c2 (by simp only [cnt] at hf;omega) hT
        ·rw [fill_D,fill_put x o.dst v F _ hds',fill_idem,← marks_set] at k
         rw [fill_D,fill_put x o.dst v F _ hds'];exact k
        ·rw [fill_D,getD_put _ o.dst v f.slot (hds' f hff),getD_fill x f.slot F _ fun g hg e=>by rw [← e];obtain rfl:=nodup_same hs f hff g hg e;exact hI.old g hg hmf]
         exact hI.old f hff hmf
        ·obtain ⟨g,g1,g2,g3,g4,g5⟩:=hI.new f hff hmf
         refine ⟨g,g1,(hbel g g3 (lt_of_block g2)).trans g2,g3,fun p hp=>?_,g5⟩
         rcases List.mem_cons.1 hp with rfl | hp
         ·exact .inl (lt_of_block g2)
         ·exact g4 p hp
        ·rcases List.mem_cons.1 hp with rfl | hp
         ·exact Nat.le_refl _
         ·exact Nat.le_trans (hI.past p hp) hsz
       ·obtain ⟨f,hff,he⟩:=List.any_eq_true.1 hfl
        rw [Bool.and_eq_true] at he;obtain rfl:f.idx=j:=by simpa using he.1
        have hmf:m f.idx=false:=by
         have hd:f.idx ∉ doneOf F m:=by simpa using he.2
         rw [mem_done] at hd
         cases hmm:m f.idx with
         | false=>rfl
         | true=>exact absurd ⟨hmm,f,hff,rfl⟩ hd
        exact float ih hC hA hn hg0 hF hs hi hI hb hc hf h0 f hff hmf
   | (k+2,i) :: r,hg,h,hn,hf =>
     have hg0:=hg;have h0:=h
     match F,hg,h,hF,hs,hi,hI,hf,hg0,h0 with
     | [],hg,h,_,_,_,_,_,_,_=>simp [good] at hg
     | f :: F,hg,h,hF,hs,hi,hI,hf,hg0,h0 =>
       have hg':((l.toArray[i]?).isSome && allMasks (f :: F) _ && good l.toArray r F (listed.setIfInBounds f.idx true))=true:=hg;rw [Bool.and_eq_true,Bool.and_eq_true] at hg';obtain ⟨⟨hio,hm⟩,hg2⟩:=hg';have hm':=allMasks_spec (f :: F) _ hm m
       cases hmm:m f.idx with
       | true =>
         obtain ⟨g,g1,g2,g3,g4,g5⟩:=hI.new f (List.mem_cons_self ..) hmm;have hp:∀ {o:Oper},wpSg P l.toArray C Q n0 ((k+2,o) :: picks l r) (f :: F) H L a w→wpSg P l.toArray C Q n0 (picks l r) F H (g :: L) (a.put (some f.slot) (sl1 g)) w':=fun h=>h g w' hb hc g2 g3 g4 g5;have hT:wpSg P l.toArray C Q n0 (picks l r) F H (g :: L) (a.put (some f.slot) (sl1 g)) w':=by
          cases ho:l[i]? with
          | none=>simp [ho] at hio
          | some o =>
            rw [picks,ho] at h;exact hp h
         have hd:doneOf (f :: F) m=f.idx :: doneOf F m:=by unfold doneOf;rw [List.filter_cons,if_pos hmm];rfl
         rw [hd]
         show wpAnyH P .any l.toArray Q C fuel (marks (listed.setIfInBounds f.idx true) (doneOf F m)) (fill F x (a.put (some f.slot) (x f.slot))) w'
         rw [g1];rw [List.map_cons,List.nodup_cons] at hs;have hne:∀ f'∈F,f.slot≠f'.slot:=fun f' h' e=>hs.1 (List.mem_map.2 ⟨f',h',e.symm⟩);refine ih r F H (g :: L) _ fuel _ w' m x w' (by simp at hn;omega) hg2 (fun f' h'=>hF f' (List.mem_cons_of_mem _ h')) hs.2 (fun a ha b hb=>hi a (List.mem_cons_of_mem _ ha) b (List.mem_cons_of_mem _ hb)) ⟨fun a ha b hb=>hI.ne a (List.mem_cons_of_mem _ ha) b (List.mem_cons_of_mem _ hb),fun f' h'=>by rw [getD_put a _ _ f'.src (fun e=>hI.ne f (List.mem_cons_self ..) f' (List.mem_cons_of_mem _ h') (Option.some.inj e))];exact hI.src f' (List.mem_cons_of_mem _ h'),fun f' h' hmf=>?_,fun f' h' hmf=>?_,fun f' h' f'' h''=>hI.apart f' (List.mem_cons_of_mem _ h') f'' (List.mem_cons_of_mem _ h''),hI.past,fun b hb=>?_⟩ (Below.refl _ _) hc ?_ hT
         ·rw [getD_put a _ _ f'.slot (fun e=>hne f' h' (Option.some.inj e))]
          exact hI.old f' (List.mem_cons_of_mem _ h') hmf
         ·obtain ⟨b,b1,b2,b3,b4,b5⟩:=hI.new f' (List.mem_cons_of_mem _ h') hmf
          refine ⟨b,b1,b2,b3,b4,fun hl=>?_⟩
          rcases List.mem_cons.1 hl with e | hl
          ·exact hI.apart f' (List.mem_cons_of_mem _ h') f (List.mem_cons_self ..) (fun e=>hne f' h' e.symm) hmf hmm (by rw [b1,g1,e])
          ·exact b5 hl
         ·rcases List.mem_cons.1 hb with rfl | hb
          ·exact lt_of_block g2
          ·exact hI.met b hb
         ·simp only [cnt,left,hmm] at hf
          simpa using hf
       | false =>
         have hd:(doneOf (f :: F) m).contains f.idx=false:=by
          have:f.idx ∉ doneOf (f :: F) m:=fun h=>by rw [mem_done,hmm] at h;simp at h
          simpa using this
         rw [hd,Bool.false_or] at hm';simp only [Bool.and_eq_true,List.all_eq_true] at hm';have lf:=left_on (f :: F) m f (List.mem_cons_self ..) hmm;obtain ⟨fuel,rfl⟩:∃ k,fuel=k+1:=⟨fuel - 1,by omega⟩;refine wpAnyH_all rfl (fun e=>by rw [e] at hm';simp at hm') fun j hj=>?_;obtain ⟨f',hff,he⟩:=List.any_eq_true.1 (hm'.2 j hj);rw [Bool.and_eq_true] at he;obtain rfl:f'.idx=j:=by simpa using he.1
         have hmf:m f'.idx=false:=by
          have hd:f'.idx ∉ doneOf (f :: F) m:=by simpa using he.2
          rw [mem_done] at hd
          cases hmm:m f'.idx with
          | false=>rfl
          | true=>exact absurd ⟨hmm,f',hff,rfl⟩ hd
         exact float ih hC hA hn hg0 hF hs hi hI hb hc hf h0 f' hff hmf
theorem fill_self (a:Act):∀ F:List Fl,fill F (fun s=>a.tmps.getD s undef) a=a
 | []=>rfl
 | f :: r=>by
   have e:a.put (some f.slot) (a.tmps.getD f.slot undef)=a:=by
    simp only [Act.put];have:a.tmps.setIfInBounds f.slot (a.tmps.getD f.slot undef)=a.tmps:=by
     refine Array.ext_getElem? fun k=>?_;rw [Array.getElem?_setIfInBounds]
     by_cases hk:f.slot=k
     ·subst hk
      by_cases hl:f.slot < a.tmps.size
      ·simp [hl]
      ·simp [hl]
     ·simp [hk]
    rw [this]
   show fill r (fun s=>a.tmps.getD s undef) (a.put (some f.slot) (a.tmps.getD f.slot undef))=a
   rw [e];exact fill_self a r
theorem left_all:∀ F:List Fl,left F (fun _=>false)=F.length
 | []=>rfl
 | f :: r=>by show left r _+1=r.length+1;rw [left_all r]
def picksL (l:List Oper):List Nat→List Oper
 | []=>[]
 | i :: r=>match l[i]? with
   | some o=>o :: picksL l r
   | none=>picksL l r
def goodL (ops:Array Oper):List Nat→Array Bool→Bool
 | [],_=>true
 | i :: r,L=>(match ops[i]? with
   | some o=>light o.op && Region.free .any ops L i && (Region.ready .any ops L).contains i
   | none=>false) && goodL ops r (L.setIfInBounds i true)
def wpL (P:Program) (ops:Array Oper) (C:World→Prop) (K:Act→Prop):List Oper→Act→Prop
 | [],a=>K a
 | o :: r,a=>wpQuiet P ops C (fun a'=>wpL P ops C K r a') [o] a
theorem lights {P:Program} {l:List Oper} {C:World→Prop} {Q:Exit→Act→World→Prop} {w:World} {K:Act→Prop} {fuel:Nat} (hs:Region.noSelect l.toArray=true) (hQ:∀ c d v a w,Q (.panic c) (Act.put a d v) w→Q (.panic c) a w) (hC:C w) :
 ∀ (sc:List Nat) (listed:Array Bool) (a:Act),goodL l.toArray sc listed=true→(∀ a',K a'→wpAnyH P .any l.toArray Q C fuel (marks listed sc) a' w)→wpL P l.toArray C K (picksL l sc) a→wpAnyH P .any l.toArray Q C (fuel+sc.length) listed a w
 | [],listed,a,_,hk,h=>hk a h
 | i :: r,listed,a,hg,hk,h=>by
   unfold goodL at hg;rw [Bool.and_eq_true] at hg;obtain ⟨hg1,hg2⟩:=hg;have hll:l.toArray[i]? = l[i]?:=by rw [List.getElem?_toArray]
   cases ho:l[i]? with
   | none=>rw [hll,ho] at hg1;cases hg1
   | some o =>
     rw [hll,ho] at hg1;have hop:l.toArray[i]? = some o:=hll.trans ho;have hp:picksL l (i :: r)=o :: picksL l r:=by rw [picksL,ho]
     rw [hp] at h;simp only [Bool.and_eq_true] at hg1;obtain ⟨⟨hl,hf⟩,hr⟩:=hg1;unfold wpL at h
     show wpAnyH P .any l.toArray Q C ((fuel+r.length)+1) listed a w
     by_cases hw:Region.wanted o (yielded l.toArray a.tmps)=true
     ·unfold wpQuiet at h
      rw [if_pos hw] at h;obtain ⟨v,hv,hn⟩:=h;refine wpAnyH_take (v:=v) hop hs hf hr (fun c a w=>hQ c _ _ a w) (.inl ⟨hw,fun w' hw'=>?_⟩) hC (lights hs hQ hC r _ _ hg2 hk hn);have q:=hv w' hw';unfold Oper.quietAt at q
      cases e:(execOp a.eval o).run P w' with
      | halt x w1=>rw [e] at q;cases q
      | ok n w1 =>
        obtain ⟨u,rfl⟩:=light_value hl e;rw [e] at q;obtain ⟨e1,e2⟩:=q;rw [e1,e2]
     ·unfold wpQuiet at h
      rw [if_neg hw] at h;exact wpAnyH_take (v:=undef) hop hs hf hr (fun c a w=>hQ c _ _ a w) (.inr ⟨by simpa using hw,rfl⟩) hC (lights hs hQ hC r _ _ hg2 hk h)
theorem start {id:Nat} {l:List Oper} {Q:Exit→Act→World→Prop} {a:Act} {w:World} (C:World→Prop) (ls:List Nat) (sc:List (Nat×Nat)) (F:List Fl) (hm:P.follows .mixedOrders=true) (hs:Region.noSelect l.toArray=true)
 (hgl:goodL l.toArray ls (Array.replicate l.toArray.size false)=true) (hg:good l.toArray sc F (marks (Array.replicate l.toArray.size false) ls)=true) (hc:cnt sc+F.length+ls.length=l.toArray.size) (hn:(F.map (·.slot)).Nodup) (hi:∀ f∈F,∀ f'∈F,f.idx=f'.idx→f.slot=f'.slot) (hx:∀ f∈F,∀ g∈F,f.slot≠g.src) (hF:∀ f∈F,FlOk P l f)
 (h0:C w.drew) (hn0:∀ w',C w'→w.heap.size≤w'.heap.size) (hA:∀ w' o,C w'→C (w'.alloc o))
 (h:wpL P l.toArray (fun w'=>∃ p:In C,w'=p.world) (fun a'=>(∀ f∈F,a'.tmps.getD f.src undef=f.val)∧wpSg P l.toArray (fun w'=>∃ p:In C,w'=p.world) (NoPanic Q) w.heap.size (picks l sc) F [] [] a' w.drew) (picksL l ls) a):(Code.region id l.toArray true).wp P Q a w :=
 wp_region_noPanic (wp_region_held_drew (S:=fun w'=>∃ p:In C,w'=p.world) hm (Cl.of h0) fun _=>by
  have hfu:l.toArray.size=(cnt sc+F.length)+ls.length:=by omega
  rw [hfu];rw [← hfu];refine (show wpAnyH P .any l.toArray (NoPanic Q) (fun w'=>∃ p:In C,w'=p.world) ((cnt sc+F.length)+ls.length) (Array.replicate l.toArray.size false) a w.drew from ?_) |> fun k=>by rw [← hfu] at k;exact k
  refine lights hs (fun _ _ _ _ _ h=>h) (Cl.of h0) ls _ a hgl (fun a' ha=>?_) h;obtain ⟨hsrc,ha⟩:=ha;have hd:doneOf F (fun _=>false) = []:=by unfold doneOf;simp
  have k:=holds (P:=P) (l:=l) (C:=fun w'=>∃ p:In C,w'=p.world) (Q:=NoPanic Q) (n0:=w.heap.size) hs (fun _ _ _ _ _ h=>h) (fun w' h=>by obtain ⟨p,rfl⟩:=h;exact hn0 _ p.ok) (fun w' o h=>by obtain ⟨p,rfl⟩:=h;exact Cl.of (hA _ _ p.ok)) (2 * (cnt sc+F.length)+sc.length) sc F [] [] (marks (Array.replicate l.toArray.size false) ls) (cnt sc+F.length) a' w.drew (fun _=>false) (fun s=>a'.tmps.getD s undef) w.drew
   (Nat.le_refl _) hg hF hn hi ⟨hx,hsrc,fun _ _ _=>rfl,fun _ _ h=>(by cases h),fun _ _ _ _ _ h=>(by cases h),fun _ hp=>(by cases hp),fun _ hg=>(by cases hg)⟩ (Below.refl _ _) (Cl.of h0) (by rw [left_all];exact Nat.le_refl _) ha
  rw [hd,fill_self] at k
  exact k)
section
variable {ops:Array Oper} {a:Act} {w:World} {o:Oper} {r:List (Nat×Oper)} {F:List Fl} {H:List (Nat×Nat)} {L:List Nat}
theorem lit (h:∀ x,wpQuiet P ops C (fun a'=>wpSg P ops C Q n0 r F H L a' w) [o] (fill F x a)):wpSg P ops C Q n0 ((0,o) :: r) F H L a w:=h
theorem call (h:∀ x w',Below w.heap.size w w'→C w'→Region.wanted o (yielded ops (fill F x a).tmps)=true ∧
 ∀ K:Act→World→Prop,(∀ a'' w'',C w''→w'.heap.size≤w''.heap.size→(∀ g,n0≤g→g < w'.heap.size→w''.heap[g]? = w'.heap[g]?)→wpSg P ops C Q n0 r F ((w'.heap.size,w''.heap.size) :: H) L a'' w''→K a'' w'')→o.wp P (fill F x a) w' K Q) :
 wpSg P ops C Q n0 ((1,o) :: r) F H L a w:=fun x w' hb hc=>⟨(h x w' hb hc).1,(h x w' hb hc).2 _ fun _ _ c s b k=>⟨c,s,b,k⟩⟩
theorem meet {f:Fl} (h:∀ g w',Below w.heap.size w w'→C w'→w'.heap[g]? = some (.cells f.cs f.ty (0,0))→n0≤g→(∀ p∈H,g < p.1∨p.2≤g)→g ∉ L→wpSg P ops C Q n0 r F H (g :: L) (a.put (some f.slot) (sl1 g)) w') :
 wpSg P ops C Q n0 ((2,o) :: r) (f :: F) H L a w:=h
theorem done {Q:Exit→Act→World→Prop} (h:∀ w',Below w.heap.size w w'→C w'→Q .normal a w'):wpSg P ops C (NoPanic Q) n0 [] F H L a w:=h
end
end
end Go.Proofs.YtpkipilggkbkeaaGreatDoor.Sg
namespace Go.Proofs.YtpkipilggkbkeaaGreatDoor.Pa
open Go.RowKit Go.Maps
open Fs (Abs St Rs Rst Only Fx Lst Ent OkA addE addA put key ins ow_only put_new ins_at look_none AddPost)
open Rw (Rd Ow At Kind)
open Ro (E5 K5 okE)
open Ck (LL lat RdL KS Hd sl zh)
open Fl (R4)
set_option maxRecDepth 100000
theorem add_next {A:Abs} (h:OkA A) {k:Nat} {n p:Int} {l:List R4} (hc:A[k]? = some (n,p,l)):addE (A.take k) n p l=0∧addA (A.take k) n p l=A.take (k+1):=by
 have hk:k < A.length:=by
  by_cases hk:k < A.length
  ·exact hk
  ·rw [List.getElem?_eq_none (by omega)] at hc;cases hc
 have hm:(n,p,l)∈A:=List.mem_of_getElem? hc;have lt:∀ x∈A.take k,key x < n:=fun x hx=>by
  obtain ⟨i,hi⟩:=List.mem_iff_getElem?.1 hx;have hik:i < k:=by
   have:i < (A.take k).length:=by
    by_cases q:i < (A.take k).length
    ·exact q
    ·rw [List.getElem?_eq_none (by omega)] at hi;cases hi
   rw [List.length_take] at this
   omega
  rw [List.getElem?_take,if_pos hik] at hi;have q:=List.pairwise_iff_getElem.1 h.srt i k (by omega) hk hik;rw [List.getElem?_eq_getElem (by omega)] at hi;rw [List.getElem?_eq_getElem hk] at hc;injection hi with hi;injection hc with hc;rw [hi,hc] at q;exact q
 have hn:Fs.look key n (A.take k)=none:=look_none.2 fun x hx=>by have:=lt x hx;omega
 have e0:addE (A.take k) n p l=0:=by
  unfold addE;rw [if_pos (h.nm _ hm),if_pos (h.good _ hm),hn]
  rfl
 refine ⟨e0,?_⟩;unfold addA;rw [if_pos e0,put_new (c:=(n,p,l)) hn,ins_at (k:=(A.take k).length) (fun x hx=>lt x (List.mem_of_mem_take hx)) (fun x hx=>by rw [List.getElem?_eq_none (Nat.le_refl _)] at hx;cases hx),List.take_length,List.drop_length];rw [List.take_add_one,hc]
 rfl
structure Cel where
 files:Hd
 table:Hd
 live:Bool
 steps:Hd
 F:List Ent
 T:List E5
 S:List S2
def celD:Cel:=⟨zh,zh,false,zh,[],[],[]⟩
def KC:Rw.Kind Cel:=⟨fun c=>[sl c.files,sl c.table,.bool c.live,sl c.steps],4,by decide,fun _=>rfl,fun _ u h=>by simp [sl] at h;rcases h with rfl | rfl | rfl | rfl <;> rfl,celD⟩
def cel (L:List Cel) (i:Nat):Cel:=L.getD i celD
structure Cls (w:World) (v:Value) (L:List Cel):Prop where
 rd:Rd KC w v L
 file:∀ i,i < L.length→Fls w (sl (cel L i).files) (cel L i).F w.heap.size
 tab:∀ i,i < L.length→Rd K5 w (sl (cel L i).table) (cel L i).T
 stp:∀ i,i < L.length→Rd K2 w (sl (cel L i).steps) (cel L i).S
theorem at_cel {w:World} {b off:Nat} {L:List Cel} (h:At KC w b off L) {i:Nat} (hi:i < L.length):w.cell? ⟨b,off+i * 4,none⟩=some (sl (cel L i).files)∧w.cell? ⟨b,off+i * 4+1,none⟩=some (sl (cel L i).table)∧w.cell? ⟨b,off+i * 4+2,none⟩=some (.bool (cel L i).live) :=
 ⟨h i hi 0 _ rfl,h i hi 1 _ rfl,h i hi 2 _ rfl⟩
theorem at_cel3 {w:World} {b off:Nat} {L:List Cel} (h:At KC w b off L) {i:Nat} (hi:i < L.length):w.cell? ⟨b,off+i * 4+3,none⟩=some (sl (cel L i).steps):=h i hi 3 _ rfl
def Q4 (o1 o2 o3 o4:Value) (b:Nat):Prop:=o1.ownBlock=some b∨o2.ownBlock=some b∨o3.ownBlock=some b∨o4.ownBlock=some b
theorem ow_apart {α β:Type} {K:Kind α} {J:Kind β} {w:World} {B B' E E':Nat} {v v':Value} {l:List α} {l':List β} (h:Ow K w B E v l) (h':Ow J w B' E' v' l') (hE:E≠E'):∀ k,v.ownBlock=some k→v'.ownBlock≠some k:=fun k hk=>by
 obtain ⟨_,h⟩:=h
 rcases h with ⟨rfl,_⟩ | ⟨g,cap,cur,rfl,_,hh,_⟩
 ·simp [Value.ownBlock] at hk
 ·simp only [Value.ownBlock,Option.some.injEq] at hk
  subst hk;exact h'.apart hh hE
def St4 (w:World) (s:Nat) (A:Abs) (Q:Nat→Prop):Prop:=∃ F,St w s F A 0∧∀ b,F b→¬ Q b
theorem St4.grow {w w':World} {s:Nat} {A:Abs} {Q Q':Nat→Prop} (h:St4 w s A Q) (o:Only Q w w') (hq:∀ b,Q' b→Fx Q w w' b):St4 w' s A Q':=by
 obtain ⟨F,h,d⟩:=h;refine ⟨F,h.only d o,fun b hb g=>?_⟩
 rcases hq b g with g | ⟨g,_⟩
 ·exact d b hb g
 ·have:=h.low b hb;omega
theorem rs4_grow {w w':World} {r:Nat} {A:Abs} {d:Int} {Q Q':Nat→Prop} (h:Rs w r Q A d) (o:Only Q w w') (hq:∀ b,Q' b→Fx Q w w' b):Rs w' r Q' A d:=rs_mono (Fs.Rs.only h o) fun k _ g=>hq k g
structure B4I (w:World) (n:Nat) (P R:List Nat) (S:Sts) (o1:Value) (l1:List Nat) (o2:Value) (l2:List Nat) (o3:Value) (l3:List Hd) (o4:Value) (l4:List Bool) (wr:World):Prop where
 w1:Ow KN wr w.heap.size 39 o1 l1
 w2:Ow KN wr w.heap.size 43 o2 l2
 w3:Ow KS wr w.heap.size 58 o3 l3
 w4:Ow KB wr w.heap.size 4 o4 l4
 st:∀ i,i < n→St4 wr (P.getD i 0) (sat S i).1 (Q4 o1 o2 o3 o4)
 rf:∀ i,i < n→Rs wr (R.getD i 0) (Q4 o1 o2 o3 o4) (sat S i).1 0
 bel:Below w.heap.size w wr
section
variable {w wr w':World} {n:Nat} {P R:List Nat} {S:Sts} {o1 o2 o3 o4 o':Value} {l1 l2:List Nat} {l3:List Hd} {l4:List Bool}
theorem B4I.below (h:B4I w n P R S o1 l1 o2 l2 o3 l3 o4 l4 wr) (b:Below wr.heap.size wr w'):B4I w n P R S o1 l1 o2 l2 o3 l3 o4 l4 w' :=
 ⟨h.w1.keep b,h.w2.keep b,h.w3.keep b,h.w4.keep b,fun i hi=>by obtain ⟨F,a,d⟩:=h.st i hi;exact ⟨F,a.below b,d⟩,fun i hi=>Fs.Rs.below (h.rf i hi) b,h.bel.trans (b.mono h.bel.size)⟩
theorem B4I.low (h:B4I w n P R S o1 l1 o2 l2 o3 l3 o4 l4 wr):∀ k,Q4 o1 o2 o3 o4 k→w.heap.size≤k∧k < wr.heap.size:=fun k g=>by
 rcases g with g | g | g | g
 ·exact World.ownsRow.lt h.w1 k g
 ·exact World.ownsRow.lt h.w2 k g
 ·exact World.ownsRow.lt h.w3 k g
 ·exact World.ownsRow.lt h.w4 k g
theorem q_fx {q q':Option Nat} {Q:Nat→Prop} (hq:q'=q∨∃ g,q'=some g∧wr.heap.size≤g) (hl:∀ g,q'=some g→g < w'.heap.size) (h:∀ k,q=some k→Q k):∀ k,q'=some k→Fx Q wr w' k:=fun k e=>by
 rcases hq with rfl | ⟨g,rfl,hg⟩
 ·exact .inl (h k e)
 ·exact .inr ⟨by injection e with e;omega,hl _ e⟩
theorem B4I.grown (h:B4I w n P R S o1 l1 o2 l2 o3 l3 o4 l4 wr) {q:Option Nat} (gr:wr.grownBy w' q) (hq:∀ k,q=some k→Q4 o1 o2 o3 o4 k):Only (Q4 o1 o2 o3 o4) wr w'∧Below w.heap.size w w' :=
 ⟨(only_grown gr).mono fun k _ e=>hq k e,h.bel.grown gr h.bel.size fun j e=>(h.low j (hq j e)).1⟩
theorem B4I.push1 (h:B4I w n P R S o1 l1 o2 l2 o3 l3 o4 l4 wr) {x:Nat} (own:Ow KN w' w.heap.size 39 o' (l1 ++ [x])) (gr:wr.grownBy w' o1.ownBlock) (hq:o'.ownBlock=o1.ownBlock∨∃ g,o'.ownBlock=some g∧wr.heap.size≤g):B4I w n P R S o' (l1 ++ [x]) o2 l2 o3 l3 o4 l4 w':=by
 obtain ⟨o,b⟩:=h.grown gr fun k e=>.inl e;have fx:∀ k,Q4 o' o2 o3 o4 k→Fx (Q4 o1 o2 o3 o4) wr w' k:=fun k g=>by
  rcases g with g | g
  ·exact q_fx hq (fun g e=>(World.ownsRow.lt own g e).2) (fun k e=>.inl e) k g
  ·exact .inl (.inr g)
 exact ⟨own,ow_only h.w2 (fun k e=>ow_apart h.w2 h.w1 (by decide) k e) (only_grown gr),ow_only h.w3 (fun k e=>ow_apart h.w3 h.w1 (by decide) k e) (only_grown gr),ow_only h.w4 (fun k e=>ow_apart h.w4 h.w1 (by decide) k e) (only_grown gr),fun i hi=>(h.st i hi).grow o fx,fun i hi=>rs4_grow (h.rf i hi) o fx,b⟩
theorem B4I.push2 (h:B4I w n P R S o1 l1 o2 l2 o3 l3 o4 l4 wr) {x:Nat} (own:Ow KN w' w.heap.size 43 o' (l2 ++ [x])) (gr:wr.grownBy w' o2.ownBlock) (hq:o'.ownBlock=o2.ownBlock∨∃ g,o'.ownBlock=some g∧wr.heap.size≤g):B4I w n P R S o1 l1 o' (l2 ++ [x]) o3 l3 o4 l4 w':=by
 obtain ⟨o,b⟩:=h.grown gr fun k e=>.inr (.inl e);have fx:∀ k,Q4 o1 o' o3 o4 k→Fx (Q4 o1 o2 o3 o4) wr w' k:=fun k g=>by
  rcases g with g | g | g
  ·exact .inl (.inl g)
  ·exact q_fx hq (fun g e=>(World.ownsRow.lt own g e).2) (fun k e=>.inr (.inl e)) k g
  ·exact .inl (.inr (.inr g))
 exact ⟨ow_only h.w1 (fun k e=>ow_apart h.w1 h.w2 (by decide) k e) (only_grown gr),own,ow_only h.w3 (fun k e=>ow_apart h.w3 h.w2 (by decide) k e) (only_grown gr),ow_only h.w4 (fun k e=>ow_apart h.w4 h.w2 (by decide) k e) (only_grown gr),fun i hi=>(h.st i hi).grow o fx,fun i hi=>rs4_grow (h.rf i hi) o fx,b⟩
theorem B4I.push3 (h:B4I w n P R S o1 l1 o2 l2 o3 l3 o4 l4 wr) {x:Hd} (own:Ow KS w' w.heap.size 58 o' (l3 ++ [x])) (gr:wr.grownBy w' o3.ownBlock) (hq:o'.ownBlock=o3.ownBlock∨∃ g,o'.ownBlock=some g∧wr.heap.size≤g):B4I w n P R S o1 l1 o2 l2 o' (l3 ++ [x]) o4 l4 w':=by
 obtain ⟨o,b⟩:=h.grown gr fun k e=>.inr (.inr (.inl e));have fx:∀ k,Q4 o1 o2 o' o4 k→Fx (Q4 o1 o2 o3 o4) wr w' k:=fun k g=>by
  rcases g with g | g | g | g
  ·exact .inl (.inl g)
  ·exact .inl (.inr (.inl g))
  ·exact q_fx hq (fun g e=>(World.ownsRow.lt own g e).2) (fun k e=>.inr (.inr (.inl e))) k g
  ·exact .inl (.inr (.inr (.inr g)))
 exact ⟨ow_only h.w1 (fun k e=>ow_apart h.w1 h.w3 (by decide) k e) (only_grown gr),ow_only h.w2 (fun k e=>ow_apart h.w2 h.w3 (by decide) k e) (only_grown gr),own,ow_only h.w4 (fun k e=>ow_apart h.w4 h.w3 (by decide) k e) (only_grown gr),fun i hi=>(h.st i hi).grow o fx,fun i hi=>rs4_grow (h.rf i hi) o fx,b⟩
theorem B4I.push4 (h:B4I w n P R S o1 l1 o2 l2 o3 l3 o4 l4 wr) {x:Bool} (own:Ow KB w' w.heap.size 4 o' (l4 ++ [x])) (gr:wr.grownBy w' o4.ownBlock) (hq:o'.ownBlock=o4.ownBlock∨∃ g,o'.ownBlock=some g∧wr.heap.size≤g):B4I w n P R S o1 l1 o2 l2 o3 l3 o' (l4 ++ [x]) w':=by
 obtain ⟨o,b⟩:=h.grown gr fun k e=>.inr (.inr (.inr e));have fx:∀ k,Q4 o1 o2 o3 o' k→Fx (Q4 o1 o2 o3 o4) wr w' k:=fun k g=>by
  rcases g with g | g | g | g
  ·exact .inl (.inl g)
  ·exact .inl (.inr (.inl g))
  ·exact .inl (.inr (.inr (.inl g)))
  ·exact q_fx hq (fun g e=>(World.ownsRow.lt own g e).2) (fun k e=>.inr (.inr (.inr e))) k g
 exact ⟨ow_only h.w1 (fun k e=>ow_apart h.w1 h.w4 (by decide) k e) (only_grown gr),ow_only h.w2 (fun k e=>ow_apart h.w2 h.w4 (by decide) k e) (only_grown gr),ow_only h.w3 (fun k e=>ow_apart h.w3 h.w4 (by decide) k e) (only_grown gr),own,fun i hi=>(h.st i hi).grow o fx,fun i hi=>rs4_grow (h.rf i hi) o fx,b⟩
theorem B4I.start (w:World):B4I w 0 [] [] [] (.slice (some ⟨w.heap.size,0,none⟩) 0 0) [] (.slice (some ⟨(w.alloc (.cells #[] 39)).heap.size,0,none⟩) 0 0) [] (.slice (some ⟨((w.alloc (.cells #[] 39)).alloc (.cells #[] 43)).heap.size,0,none⟩) 0 0) [] (.slice (some ⟨(((w.alloc (.cells #[] 39)).alloc (.cells #[] 43)).alloc (.cells #[] 58)).heap.size,0,none⟩) 0 0) []
 ((((w.alloc (.cells #[] 39)).alloc (.cells #[] 43)).alloc (.cells #[] 58)).alloc (.cells #[] 4)):=by
 have b1:Below w.heap.size w (w.alloc (.cells #[] 39)):=(Below.refl _ _).alloc (Nat.le_refl _) _;have b2:=b1.alloc b1.size (.cells #[] 43);have b3:=b2.alloc b2.size (.cells #[] 58);have b4:=b3.alloc b3.size (.cells #[] 4);exact ⟨(((Rw.Ow.made _ _ _ (Nat.le_refl _)).alloc _).alloc _).alloc _,((Rw.Ow.made _ _ _ b1.size).alloc _).alloc _,(Rw.Ow.made _ _ _ b2.size).alloc _,Rw.Ow.made _ _ _ b3.size,fun i hi=>by omega,fun i hi=>by omega,b4⟩
theorem B4I.more {s r:Nat} {A:Abs} (h:B4I w n P R S o1 l1 o2 l2 o3 l3 o4 l4 wr) (hp:P.length=n) (hr:R.length=n) (hs:S.length=n) (a:St4 wr s A (Q4 o1 o2 o3 o4)) (b:Rs wr r (Q4 o1 o2 o3 o4) A 0):B4I w (n+1) (P ++ [s]) (R ++ [r]) (S ++ [(A,0)]) o1 l1 o2 l2 o3 l3 o4 l4 wr:=by
 have g:∀ (l:List Nat) x i,l.length=n→i < n+1→(l ++ [x]).getD i 0=if i < n then l.getD i 0 else x:=fun l x i hl hi=>by
  rw [List.getD_eq_getElem?_getD,List.getElem?_append,hl]
  split
  ·rw [List.getD_eq_getElem?_getD]
  ·obtain rfl:i=n:=by omega
   simp
 have gs:∀ i:Nat,i < n+1→sat (S ++ [(A,0)]) i=if i < n then sat S i else (A,0):=fun i hi=>by
  unfold sat;rw [Int.toNat_natCast,List.getD_eq_getElem?_getD,List.getElem?_append,hs]
  split
  ·rw [List.getD_eq_getElem?_getD]
  ·obtain rfl:i=n:=by omega
   simp
 refine ⟨h.w1,h.w2,h.w3,h.w4,fun i hi=>?_,fun i hi=>?_,h.bel⟩
 ·rw [g P s i hp hi,gs i hi]
  by_cases q:i < n
  ·rw [if_pos q,if_pos q];exact h.st i q
  ·rw [if_neg q,if_neg q];exact a
 ·rw [g R r i hr hi,gs i hi]
  by_cases q:i < n
  ·rw [if_pos q,if_pos q];exact h.rf i q
  ·rw [if_neg q,if_neg q];exact b
end
structure J4I (W:World) (Q:Nat→Prop) (s r:Nat) (A:Abs) (j:Nat) (F:Nat→Prop) (wr:World):Prop where
 st:St wr s F (A.take j) 0
 rs:Rs wr r (fun k=>Q k∨F k) A 0
 hi:∀ k,F k→W.heap.size≤k
 bel:Below W.heap.size W wr
section
variable {W wr w':World} {Q:Nat→Prop} {s r j:Nat} {A:Abs} {F:Nat→Prop}
theorem J4I.below (h:J4I W Q s r A j F wr) (b:Below wr.heap.size wr w'):J4I W Q s r A j F w':=⟨h.st.below b,Fs.Rs.below h.rs b,h.hi,h.bel.trans (b.mono h.bel.size)⟩
theorem J4I.step (h:J4I W Q s r A j F wr) (a:St w' s (Fx F wr w') (A.take (j+1)) 0) (o:Only F wr w'):J4I W Q s r A (j+1) (Fx F wr w') w':=by
 have hz:=h.bel.size;refine ⟨a,rs_mono (Fs.Rs.only h.rs (o.mono fun _ _ g=>.inr g)) fun k _ g=>?_,fun k g=>?_,h.bel.trans (o.below hz h.hi)⟩
 ·rcases g with g | g | g
  ·exact .inl (.inl g)
  ·exact .inl (.inr g)
  ·exact .inr g
 ·rcases g with g | g
  ·exact h.hi k g
  ·omega
theorem J4I.done (h:J4I W Q s r A A.length F wr) (hQ:∀ k,Q k→k < W.heap.size):St4 wr s A Q∧Rs wr r Q A 0:=by
 refine ⟨⟨F,by have:=h.st;rw [List.take_length] at this;exact this,fun b hb g=>?_⟩,rs_mono h.rs fun k _ g=>.inl g⟩;have:=h.hi b hb;have:=hQ b g
 omega
end
end Go.Proofs.YtpkipilggkbkeaaGreatDoor.Pa
namespace Go.Proofs.YtpkipilggkbkeaaGreatDoor.Bu
open Go.RowKit Go.Maps
open Fs (Abs St Rs Only Fx ow_only)
open Rw (Rd Ow At Kind)
open Ro (E5 K5)
open Sp (S2 fr tp)
open Ck (LL lat RdL KS Hd sl zh rdl_of)
open Pa (Sts Stl Rfl Hrf KN KB K2 St4 St4.grow rs4_grow q_fx ow_apart only_grown rs_mono sat Cel cel pat)
set_option maxRecDepth 100000
def Q5 (o1 o2 o3 o4 o5:Value) (b:Nat):Prop:=o1.ownBlock=some b∨o2.ownBlock=some b∨o3.ownBlock=some b∨o4.ownBlock=some b∨o5.ownBlock=some b
structure B5I (w:World) (n:Nat) (P R:List Nat) (S:Sts) (o1:Value) (l1:List Nat) (o2:Value) (l2:List Nat) (o3:Value) (l3:List Hd) (o4:Value) (l4:List Bool) (o5:Value) (l5:List Hd) (wr:World):Prop where
 w1:Ow KN wr w.heap.size 39 o1 l1
 w2:Ow KN wr w.heap.size 43 o2 l2
 w3:Ow KS wr w.heap.size 58 o3 l3
 w4:Ow KB wr w.heap.size 4 o4 l4
 w5:Ow KS wr w.heap.size 59 o5 l5
 st:∀ i,i < n→St4 wr (P.getD i 0) (sat S i).1 (Q5 o1 o2 o3 o4 o5)
 rf:∀ i,i < n→Rs wr (R.getD i 0) (Q5 o1 o2 o3 o4 o5) (sat S i).1 0
 bel:Below w.heap.size w wr
section
variable {w wr w':World} {n:Nat} {P R:List Nat} {S:Sts} {o1 o2 o3 o4 o5 o':Value} {l1 l2:List Nat} {l3 l5:List Hd} {l4:List Bool}
theorem B5I.below (h:B5I w n P R S o1 l1 o2 l2 o3 l3 o4 l4 o5 l5 wr) (b:Below wr.heap.size wr w'):B5I w n P R S o1 l1 o2 l2 o3 l3 o4 l4 o5 l5 w' :=
 ⟨h.w1.keep b,h.w2.keep b,h.w3.keep b,h.w4.keep b,h.w5.keep b,fun i hi=>by obtain ⟨F,a,d⟩:=h.st i hi;exact ⟨F,a.below b,d⟩,fun i hi=>Fs.Rs.below (h.rf i hi) b,h.bel.trans (b.mono h.bel.size)⟩
theorem B5I.low (h:B5I w n P R S o1 l1 o2 l2 o3 l3 o4 l4 o5 l5 wr):∀ k,Q5 o1 o2 o3 o4 o5 k→w.heap.size≤k∧k < wr.heap.size:=fun k g=>by
 rcases g with g | g | g | g | g
 ·exact World.ownsRow.lt h.w1 k g
 ·exact World.ownsRow.lt h.w2 k g
 ·exact World.ownsRow.lt h.w3 k g
 ·exact World.ownsRow.lt h.w4 k g
 ·exact World.ownsRow.lt h.w5 k g
theorem B5I.grown (h:B5I w n P R S o1 l1 o2 l2 o3 l3 o4 l4 o5 l5 wr) {q:Option Nat} (gr:wr.grownBy w' q) (hq:∀ k,q=some k→Q5 o1 o2 o3 o4 o5 k):Only (Q5 o1 o2 o3 o4 o5) wr w'∧Below w.heap.size w w' :=
 ⟨(only_grown gr).mono fun k _ e=>hq k e,h.bel.grown gr h.bel.size fun j e=>(h.low j (hq j e)).1⟩
theorem B5I.push1 (h:B5I w n P R S o1 l1 o2 l2 o3 l3 o4 l4 o5 l5 wr) {x:Nat} (own:Ow KN w' w.heap.size 39 o' (l1 ++ [x])) (gr:wr.grownBy w' o1.ownBlock) (hq:o'.ownBlock=o1.ownBlock∨∃ g,o'.ownBlock=some g∧wr.heap.size≤g):B5I w n P R S o' (l1 ++ [x]) o2 l2 o3 l3 o4 l4 o5 l5 w':=by
 obtain ⟨o,b⟩:=h.grown gr fun k e=>.inl e;have fx:∀ k,Q5 o' o2 o3 o4 o5 k→Fx (Q5 o1 o2 o3 o4 o5) wr w' k:=fun k g=>by
  rcases g with g | g | g | g | g
  ·exact q_fx hq (fun g e=>(World.ownsRow.lt own g e).2) (fun k e=>.inl e) k g
  ·exact .inl (.inr (.inl g))
  ·exact .inl (.inr (.inr (.inl g)))
  ·exact .inl (.inr (.inr (.inr (.inl g))))
  ·exact .inl (.inr (.inr (.inr (.inr g))))
 exact ⟨own,ow_only h.w2 (fun k e=>ow_apart h.w2 h.w1 (by decide) k e) (only_grown gr),ow_only h.w3 (fun k e=>ow_apart h.w3 h.w1 (by decide) k e) (only_grown gr),ow_only h.w4 (fun k e=>ow_apart h.w4 h.w1 (by decide) k e) (only_grown gr),ow_only h.w5 (fun k e=>ow_apart h.w5 h.w1 (by decide) k e) (only_grown gr),fun i hi=>(h.st i hi).grow o fx,fun i hi=>rs4_grow (h.rf i hi) o fx,b⟩
theorem B5I.push2 (h:B5I w n P R S o1 l1 o2 l2 o3 l3 o4 l4 o5 l5 wr) {x:Nat} (own:Ow KN w' w.heap.size 43 o' (l2 ++ [x])) (gr:wr.grownBy w' o2.ownBlock) (hq:o'.ownBlock=o2.ownBlock∨∃ g,o'.ownBlock=some g∧wr.heap.size≤g):B5I w n P R S o1 l1 o' (l2 ++ [x]) o3 l3 o4 l4 o5 l5 w':=by
 obtain ⟨o,b⟩:=h.grown gr fun k e=>.inr (.inl e);have fx:∀ k,Q5 o1 o' o3 o4 o5 k→Fx (Q5 o1 o2 o3 o4 o5) wr w' k:=fun k g=>by
  rcases g with g | g | g | g | g
  ·exact .inl (.inl g)
  ·exact q_fx hq (fun g e=>(World.ownsRow.lt own g e).2) (fun k e=>.inr (.inl e)) k g
  ·exact .inl (.inr (.inr (.inl g)))
  ·exact .inl (.inr (.inr (.inr (.inl g))))
  ·exact .inl (.inr (.inr (.inr (.inr g))))
 exact ⟨ow_only h.w1 (fun k e=>ow_apart h.w1 h.w2 (by decide) k e) (only_grown gr),own,ow_only h.w3 (fun k e=>ow_apart h.w3 h.w2 (by decide) k e) (only_grown gr),ow_only h.w4 (fun k e=>ow_apart h.w4 h.w2 (by decide) k e) (only_grown gr),ow_only h.w5 (fun k e=>ow_apart h.w5 h.w2 (by decide) k e) (only_grown gr),fun i hi=>(h.st i hi).grow o fx,fun i hi=>rs4_grow (h.rf i hi) o fx,b⟩
theorem B5I.push3 (h:B5I w n P R S o1 l1 o2 l2 o3 l3 o4 l4 o5 l5 wr) {x:Hd} (own:Ow KS w' w.heap.size 58 o' (l3 ++ [x])) (gr:wr.grownBy w' o3.ownBlock) (hq:o'.ownBlock=o3.ownBlock∨∃ g,o'.ownBlock=some g∧wr.heap.size≤g):B5I w n P R S o1 l1 o2 l2 o' (l3 ++ [x]) o4 l4 o5 l5 w':=by
 obtain ⟨o,b⟩:=h.grown gr fun k e=>.inr (.inr (.inl e));have fx:∀ k,Q5 o1 o2 o' o4 o5 k→Fx (Q5 o1 o2 o3 o4 o5) wr w' k:=fun k g=>by
  rcases g with g | g | g | g | g
  ·exact .inl (.inl g)
  ·exact .inl (.inr (.inl g))
  ·exact q_fx hq (fun g e=>(World.ownsRow.lt own g e).2) (fun k e=>.inr (.inr (.inl e))) k g
  ·exact .inl (.inr (.inr (.inr (.inl g))))
  ·exact .inl (.inr (.inr (.inr (.inr g))))
 exact ⟨ow_only h.w1 (fun k e=>ow_apart h.w1 h.w3 (by decide) k e) (only_grown gr),ow_only h.w2 (fun k e=>ow_apart h.w2 h.w3 (by decide) k e) (only_grown gr),own,ow_only h.w4 (fun k e=>ow_apart h.w4 h.w3 (by decide) k e) (only_grown gr),ow_only h.w5 (fun k e=>ow_apart h.w5 h.w3 (by decide) k e) (only_grown gr),fun i hi=>(h.st i hi).grow o fx,fun i hi=>rs4_grow (h.rf i hi) o fx,b⟩
theorem B5I.push4 (h:B5I w n P R S o1 l1 o2 l2 o3 l3 o4 l4 o5 l5 wr) {x:Bool} (own:Ow KB w' w.heap.size 4 o' (l4 ++ [x])) (gr:wr.grownBy w' o4.ownBlock) (hq:o'.ownBlock=o4.ownBlock∨∃ g,o'.ownBlock=some g∧wr.heap.size≤g):B5I w n P R S o1 l1 o2 l2 o3 l3 o' (l4 ++ [x]) o5 l5 w':=by
 obtain ⟨o,b⟩:=h.grown gr fun k e=>.inr (.inr (.inr (.inl e)));have fx:∀ k,Q5 o1 o2 o3 o' o5 k→Fx (Q5 o1 o2 o3 o4 o5) wr w' k:=fun k g=>by
  rcases g with g | g | g | g | g
  ·exact .inl (.inl g)
  ·exact .inl (.inr (.inl g))
  ·exact .inl (.inr (.inr (.inl g)))
  ·exact q_fx hq (fun g e=>(World.ownsRow.lt own g e).2) (fun k e=>.inr (.inr (.inr (.inl e)))) k g
  ·exact .inl (.inr (.inr (.inr (.inr g))))
 exact ⟨ow_only h.w1 (fun k e=>ow_apart h.w1 h.w4 (by decide) k e) (only_grown gr),ow_only h.w2 (fun k e=>ow_apart h.w2 h.w4 (by decide) k e) (only_grown gr),ow_only h.w3 (fun k e=>ow_apart h.w3 h.w4 (by decide) k e) (only_grown gr),own,ow_only h.w5 (fun k e=>ow_apart h.w5 h.w4 (by decide) k e) (only_grown gr),fun i hi=>(h.st i hi).grow o fx,fun i hi=>rs4_grow (h.rf i hi) o fx,b⟩
theorem B5I.push5 (h:B5I w n P R S o1 l1 o2 l2 o3 l3 o4 l4 o5 l5 wr) {x:Hd} (own:Ow KS w' w.heap.size 59 o' (l5 ++ [x])) (gr:wr.grownBy w' o5.ownBlock) (hq:o'.ownBlock=o5.ownBlock∨∃ g,o'.ownBlock=some g∧wr.heap.size≤g):B5I w n P R S o1 l1 o2 l2 o3 l3 o4 l4 o' (l5 ++ [x]) w':=by
 obtain ⟨o,b⟩:=h.grown gr fun k e=>.inr (.inr (.inr (.inr e)));have fx:∀ k,Q5 o1 o2 o3 o4 o' k→Fx (Q5 o1 o2 o3 o4 o5) wr w' k:=fun k g=>by
  rcases g with g | g | g | g | g
  ·exact .inl (.inl g)
  ·exact .inl (.inr (.inl g))
  ·exact .inl (.inr (.inr (.inl g)))
  ·exact .inl (.inr (.inr (.inr (.inl g))))
  ·exact q_fx hq (fun g e=>(World.ownsRow.lt own g e).2) (fun k e=>.inr (.inr (.inr (.inr e)))) k g
 exact ⟨ow_only h.w1 (fun k e=>ow_apart h.w1 h.w5 (by decide) k e) (only_grown gr),ow_only h.w2 (fun k e=>ow_apart h.w2 h.w5 (by decide) k e) (only_grown gr),ow_only h.w3 (fun k e=>ow_apart h.w3 h.w5 (by decide) k e) (only_grown gr),ow_only h.w4 (fun k e=>ow_apart h.w4 h.w5 (by decide) k e) (only_grown gr),own,fun i hi=>(h.st i hi).grow o fx,fun i hi=>rs4_grow (h.rf i hi) o fx,b⟩
theorem B5I.start (w:World):B5I w 0 [] [] [] (.slice (some ⟨w.heap.size,0,none⟩) 0 0) [] (.slice (some ⟨(w.alloc (.cells #[] 39)).heap.size,0,none⟩) 0 0) [] (.slice (some ⟨((w.alloc (.cells #[] 39)).alloc (.cells #[] 43)).heap.size,0,none⟩) 0 0) [] (.slice (some ⟨(((w.alloc (.cells #[] 39)).alloc (.cells #[] 43)).alloc (.cells #[] 58)).heap.size,0,none⟩) 0 0) [] (.slice (some ⟨((((w.alloc (.cells #[] 39)).alloc (.cells #[] 43)).alloc (.cells #[] 58)).alloc (.cells #[] 4)).heap.size,0,none⟩) 0 0) []
 (((((w.alloc (.cells #[] 39)).alloc (.cells #[] 43)).alloc (.cells #[] 58)).alloc (.cells #[] 4)).alloc (.cells #[] 59)):=by
 have b1:Below w.heap.size w (w.alloc (.cells #[] 39)):=(Below.refl _ _).alloc (Nat.le_refl _) _;have b2:=b1.alloc b1.size (.cells #[] 43);have b3:=b2.alloc b2.size (.cells #[] 58);have b4:=b3.alloc b3.size (.cells #[] 4);have b5:=b4.alloc b4.size (.cells #[] 59);exact ⟨((((Rw.Ow.made _ _ _ (Nat.le_refl _)).alloc _).alloc _).alloc _).alloc _,(((Rw.Ow.made _ _ _ b1.size).alloc _).alloc _).alloc _,((Rw.Ow.made _ _ _ b2.size).alloc _).alloc _,(Rw.Ow.made _ _ _ b3.size).alloc _,Rw.Ow.made _ _ _ b4.size,fun i hi=>by omega,fun i hi=>by omega,b5⟩
theorem B5I.more {s r:Nat} {A:Abs} (h:B5I w n P R S o1 l1 o2 l2 o3 l3 o4 l4 o5 l5 wr) (hp:P.length=n) (hr:R.length=n) (hs:S.length=n) (a:St4 wr s A (Q5 o1 o2 o3 o4 o5)) (b:Rs wr r (Q5 o1 o2 o3 o4 o5) A 0):B5I w (n+1) (P ++ [s]) (R ++ [r]) (S ++ [(A,0)]) o1 l1 o2 l2 o3 l3 o4 l4 o5 l5 wr:=by
 have g:∀ (l:List Nat) x i,l.length=n→i < n+1→(l ++ [x]).getD i 0=if i < n then l.getD i 0 else x:=fun l x i hl hi=>by
  rw [List.getD_eq_getElem?_getD,List.getElem?_append,hl]
  split
  ·rw [List.getD_eq_getElem?_getD]
  ·obtain rfl:i=n:=by omega
   simp
 have gs:∀ i:Nat,i < n+1→sat (S ++ [(A,0)]) i=if i < n then sat S i else (A,0):=fun i hi=>by
  unfold sat;rw [Int.toNat_natCast,List.getD_eq_getElem?_getD,List.getElem?_append,hs]
  split
  ·rw [List.getD_eq_getElem?_getD]
  ·obtain rfl:i=n:=by omega
   simp
 refine ⟨h.w1,h.w2,h.w3,h.w4,h.w5,fun i hi=>?_,fun i hi=>?_,h.bel⟩
 ·rw [g P s i hp hi,gs i hi]
  by_cases q:i < n
  ·rw [if_pos q,if_pos q];exact h.st i q
  ·rw [if_neg q,if_neg q];exact a
 ·rw [g R r i hr hi,gs i hi]
  by_cases q:i < n
  ·rw [if_pos q,if_pos q];exact h.rf i q
  ·rw [if_neg q,if_neg q];exact b
end
def ofS (s:List S2):Osc:=⟨s.length,fr s,tp s⟩
theorem steps_rd {w:World} {v:Value} {s:List S2} (h:Rd K2 w v s):Tk.Steps w v (ofS s).n (ofS s).A (ofS s).R:=by
 obtain ⟨a,cap,rfl,h1,h2,h3⟩:=h
 by_cases h0:0 < s.length
 ·obtain ⟨b,off,rfl,hA⟩:=h3 h0
  exact .inr ⟨b,off,cap,rfl,h1.1,h2,fun i hi=>⟨hA i hi 0 _ rfl,hA i hi 1 _ rfl⟩⟩
 ·have e:s.length=0:=by omega
  exact .inl ⟨a,cap,by rw [e],h2,e⟩
def osl (L:List Cel) (n:Nat):List Osc:=(List.range n).map fun i=>ofS ((cel L i).S.take 70)
theorem osl_at (L:List Cel) {n i:Nat} (hi:i < n):osc (osl L n) i=ofS ((cel L i).S.take 70):=by
 unfold osc osl;rw [Int.toNat_natCast,List.getD_eq_getElem?_getD,List.getElem?_map,List.getElem?_range hi]
 rfl
theorem osl_of {w:World} {v:Value} {hs:List Hd} {O:List Osc} (h:Rd KS w v hs) (hl:hs.length=O.length) (each:∀ i:Nat,i < O.length→Tk.Steps w (sl (hs.getD i zh)) (osc O i).n (osc O i).A (osc O i).R):OsL w v O:=by
 obtain ⟨a,cap,e,h1,h2,h3⟩:=h;rw [hl] at e h1 h3;refine ⟨a,cap,e,h1.1,h2,fun hp=>?_⟩;obtain ⟨b,off,ea,hA⟩:=h3 hp;refine ⟨b,off,ea,fun i hi=>⟨_,?_,each i hi⟩⟩;have c:=hA i (by rw [hl];exact hi) 0 _ rfl;simp only [KS,Nat.mul_one,Nat.add_zero] at c;exact c
end Go.Proofs.YtpkipilggkbkeaaGreatDoor.Bu
namespace Go.Proofs.YtpkipilggkbkeaaGreatDoor.Pa
open Go.RowKit Go.Maps
open Fs (Abs St Rs Rst Only Fx Lst Ent OkA addE addA new_any new_st below_new add_any AddPost at3 E3 ow_only)
open Rw (Rd Ow At Kind)
open Ro (E5 K5 okE)
open Ck (LL lat RdL KS Hd sl zh rdl_of infoS)
open Fl (R4 K4 okL row_cell row_frozen file)
set_option maxRecDepth 100000
attribute [local irreducible] Sd.wpSd wpQuiet Sg.wpSg
theorem flOk_of {P:Program} {l:List Oper} (f:Sg.Fl) (o:Oper) (t:TypeId) (z:Value) (bytes:Nat) (ho:l.toArray[f.idx]? = some o) (hd:o.dst=some f.slot) (hg:o.guard=none) (hop:o.op = .buildSlice t 1 #[(0,.tmp f.src)]) (hu:P.underlying t=some (.slice f.ty))
 (hi:(P.info? f.ty).map (fun i=>(i.zero,i.size,i.bytes))=some (some z,1,bytes)) (hv:f.val.cells=#[f.val]):Sg.FlOk P l f:=by
 obtain ⟨i0,hi0,hz0,hz1,hz2⟩:=info_parts hi;refine ⟨o,ho,hd,hg,fun ρ w hρ=>?_⟩;unfold execOp;have hf:Instr.fill (fun i=>some (i * i0.size,i0.size)) ((Array.range (1 * i0.size)).map (z.cells[· % z.cells.size]!)) ((#[(0,Operand.tmp f.src)]:Array (Nat×Operand)).map fun (i,x)=>(i,ρ x)).toList=some #[f.val]:=by
  rw [hz1]
  simp [Instr.fill,hρ,hv]
  rw [show Array.range 1=#[0] from rfl,show ∀ g:Nat→Value,Array.map g #[0]=#[g 0] from fun g=>by simp]
  rfl
 simp only [hop,Sem.run_bind,run_buildSlice w t f.ty 1 _ #[f.val] i0 z hu hi0 hz0 (by rw [hz1];omega) (by rw [hz1];omega) hf,Result.andThen_ok]
 rfl
theorem infoB:(Tryz.prog.info? 4).map (fun i=>(i.zero,i.size,i.bytes))=some (some (.bool false),1,1):=by kernel_rfl
theorem lit1 {P:Program} {ops:Array Oper} {C:World→Prop} {K:Act→Prop} {o:Oper} {r:List Oper} {a:Act} (h:wpQuiet P ops C (fun a'=>Sg.wpL P ops C K r a') [o] a):Sg.wpL P ops C K (o :: r) a:=h
theorem end1 {P:Program} {ops:Array Oper} {C:World→Prop} {K:Act→Prop} {a:Act} (h:K a):Sg.wpL P ops C K [] a:=h
def tbl (L:List Cel) (n:Nat):LL:=(List.range n).map fun i=>(cel L i).T.take 70
theorem tbl_at (L:List Cel) {n i:Nat} (hi:i < n):lat (tbl L n) i=(cel L i).T.take 70:=by
 unfold lat tbl;rw [List.getD_eq_getElem?_getD,List.getElem?_map,List.getElem?_range hi]
 rfl
structure Bld (B:Nat) (w':World) (vs vr vt vl:Value) (S:Sts) (T:LL) (V:List Bool) (n:Nat):Prop where
 st:Stl w' vs S
 rf:Rfl w' vr S
 tb:RdL w' vt T
 lv:Rd KB w' vl V
 s:S.length=n
 t:T.length=n
 v:V.length=n
 few:n≤8
 ok:∀ i,i < n→(lat T i).length≤70
 den:∀ i,i < n→(sat S i).2=0
 own:Ow KB w' B 4 vl V
 keep:∀ W',Only (fun k=>vl.ownBlock=some k) w' W'→Stl W' vs S∧RdL W' vt T
def BldPost (w:World) (e:Ending) (w':World):Prop:=∃ vs vr vt vl S T V n,e = .returned (.tuple #[vs,vr,vt,vl])∧Bld w.heap.size w' vs vr vt vl S T V n∧Below w.heap.size w w'
structure OI (w:World) (L:List Cel) (k:Nat) (o1 o2 o3 o4:Value) (ps rs:List Nat) (hs:List Hd) (bs:List Bool) (S:Sts) (wr:World):Prop where
 bi:B4I w k ps rs S o1 ps o2 rs o3 hs o4 bs wr
 l1:ps.length=k
 l2:rs.length=k
 l3:hs.length=k
 l4:bs.length=k
 l5:S.length=k
 tb:∀ i,i < k→Rd K5 w (sl (hs.getD i zh)) ((cel L i).T.take 70)
 dz:∀ i:Nat,i < k→(sat S i).2=0
theorem sat_more {S:Sts} {k:Nat} {x:Abs×Int} (h:S.length=k) (i:Nat) (hi:i < k+1):sat (S ++ [x]) i=if i < k then sat S i else x:=by
 unfold sat;rw [Int.toNat_natCast,List.getD_eq_getElem?_getD,List.getElem?_append,h]
 split
 ·rw [List.getD_eq_getElem?_getD]
 ·obtain rfl:i=k:=by omega
  simp
theorem OI.next {w wr:World} {L:List Cel} {k:Nat} {o1 o2 o3 o4:Value} {ps rs:List Nat} {hs:List Hd} {bs:List Bool} {S:Sts} {w0:World} {q1 q2 q3 q4:Value} {s r:Nat} {h:Hd} {b:Bool} {A:Abs} (I:OI w L k o1 o2 o3 o4 ps rs hs bs S w0)
 (bi:B4I w (k+1) (ps ++ [s]) (rs ++ [r]) (S ++ [(A,0)]) q1 (ps ++ [s]) q2 (rs ++ [r]) q3 (hs ++ [h]) q4 (bs ++ [b]) wr) (t:Rd K5 w (sl h) ((cel L k).T.take 70)):OI w L (k+1) q1 q2 q3 q4 (ps ++ [s]) (rs ++ [r]) (hs ++ [h]) (bs ++ [b]) (S ++ [(A,0)]) wr:=by
 refine ⟨bi,by simp [I.l1],by simp [I.l2],by simp [I.l3],by simp [I.l4],by simp [I.l5],fun i hi=>?_,fun i hi=>?_⟩
 ·rw [List.getD_eq_getElem?_getD,List.getElem?_append,I.l3]
  split
  ·rename_i hk
   rw [← List.getD_eq_getElem?_getD];exact I.tb i hk
  ·obtain rfl:i=k:=by omega
   simpa using t
 ·rw [sat_more I.l5 i hi]
  split
  ·rename_i hk
   exact I.dz i hk
  ·rfl
theorem OI.fin {w wr:World} {L:List Cel} {k:Nat} {o1 o2 o3 o4:Value} {ps rs:List Nat} {hs:List Hd} {bs:List Bool} {S:Sts} (I:OI w L k o1 o2 o3 o4 ps rs hs bs S wr) (h8:k≤8):BldPost w (.returned (.tuple #[o1,o2,o3,o4])) wr:=by
 have tl:(tbl L k).length=k:=by unfold tbl;simp
 refine ⟨o1,o2,o3,o4,S,tbl L k,bs,k,rfl,⟨⟨ps,I.bi.w1.rd,by rw [I.l1,I.l5],fun i hi=>?_⟩,⟨rs,I.bi.w2.rd,by rw [I.l2,I.l5],fun i hi=>?_⟩,rdl_of I.bi.w3.rd (by rw [I.l3,tl]) fun i hi=>?_,I.bi.w4.rd,I.l5,tl,I.l4,h8,fun i hi=>?_,I.dz,I.bi.w4,fun W' ho=>?_⟩,I.bi.bel⟩
 ·rw [I.l5] at hi
  obtain ⟨F,h,_⟩:=I.bi.st i hi;refine ⟨F,?_⟩;rw [I.dz i hi];exact h
 ·rw [I.l5] at hi
  have h:=I.bi.rf i hi;unfold Hrf;rw [I.dz i hi];exact rs_mono h nofun
 ·rw [tl] at hi
  rw [tbl_at L hi];exact (I.tb i hi).below I.bi.bel
 ·rw [tbl_at L hi]
  rw [List.length_take]
  omega
 ·have bb:Below w.heap.size w W':=I.bi.bel.trans (ho.below I.bi.bel.size fun k e=>(World.ownsRow.lt I.bi.w4 k e).1)
  refine ⟨⟨ps,(ow_only I.bi.w1 (fun k e=>ow_apart I.bi.w1 I.bi.w4 (by decide) k e) ho).rd,by rw [I.l1,I.l5],fun i hi=>?_⟩,rdl_of (ow_only I.bi.w3 (fun k e=>ow_apart I.bi.w3 I.bi.w4 (by decide) k e) ho).rd (by rw [I.l3,tl]) fun i hi=>?_⟩
  ·rw [I.l5] at hi
   obtain ⟨F,h,d⟩:=I.bi.st i hi;refine ⟨F,?_⟩;rw [I.dz i hi];exact h.only (fun k hk e=>d k hk (.inr (.inr (.inr e)))) ho
  ·rw [tl] at hi
   rw [tbl_at L hi];exact (I.tb i hi).below bb
structure JC (r b o:Nat) (lv:Value) (n p:Int) (u:Value) (W:World):Prop where
 r:W.cell? ⟨r,0,none⟩=some lv
 n:W.cell? ⟨b,o,none⟩=some (.int .i64 n)
 p:W.cell? ⟨b,o+1,none⟩=some (.int .i64 p)
 u:W.cell? ⟨b,o+2,none⟩=some u
end Go.Proofs.YtpkipilggkbkeaaGreatDoor.Pa
namespace Go.Proofs.YtpkipilggkbkeaaGreatDoor.Pa
open Go.RowKit Go.Maps
open Rw (Rd Ow At)
open Ro (E5 z5 K5 ent)
open Ck (sto5 sto5_row sto5_below RowE)
open Fl (row_cell row_frozen)
set_option maxRecDepth 100000
theorem cut_any {α:Type} {K:Rw.Kind α} {w:World} {v:Value} {l:List α} {a:Option Addr} {n cap k:Nat} (R:Rd K w v l) (e:v = .slice a n cap) (hk:k≤l.length) (h0:0 < k):Rd K w (.slice a k cap) (l.take k):=by
 obtain ⟨a',cap',e',⟨h1,h2⟩,h3,h4⟩:=R;rw [e] at e';injection e' with e1 e2 e3;subst e1 e3;have hl:(l.take k).length=k:=by rw [List.length_take];omega
 refine ⟨a,cap,by rw [hl],⟨by rw [hl];omega,h2⟩,h3,fun _=>?_⟩;obtain ⟨b,off,rfl,hA⟩:=h4 (by omega);refine ⟨b,off,rfl,fun i hi j u hu=>?_⟩;rw [hl] at hi;refine hA i (by omega) j u ?_;rw [← hu,List.getD,List.getD,List.getElem?_take,if_pos hi]
def FewPost (w:World) (l:List S2) (e:Ending) (w':World):Prop:=∃ u,e = .returned u∧Rd K2 w' u (l.take 30)∧Below w.heap.size w w'
theorem results_ent {fn:Func} {p:Tmp} (h:fn.results=#[.cell p 98]) (tmps:Array Value) (w:World) (g1:Nat) (x:E5) (hp:tmps.getD p undef = .pointer (some ⟨g1,0,none⟩)) (h1:RowE w g1 x):(results fn tmps).run Tryz.prog w = .ok (ent x) w:=by
 have e1:=run_loadVar_row (P:=Tryz.prog) w g1 98 98 (Ck.row5 x) (0,0) _ h1 Tryz.underlying98 rfl (by show _=some 5;kernel_rfl);have hp':tmps[p]?.getD undef = .pointer (some ⟨g1,0,none⟩):=by simpa using hp
 simp only [results,h]
 simp [hp',asAddr,e1,ent,Ck.row5]
end Go.Proofs.YtpkipilggkbkeaaGreatDoor.Pa
