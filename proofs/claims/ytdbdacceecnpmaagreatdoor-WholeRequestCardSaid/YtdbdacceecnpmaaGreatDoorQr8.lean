import Derived.Test.YtdbdacceecnpmaaGreatDoorQr7
import Derived.Shelf.SlicesE.Kit
set_option maxRecDepth 100000
set_option maxHeartbeats 4000000
namespace Go.Proofs.YtdbdacceecnpmaaGreatDoor
open Go.Proofs.Tryz
open Ck (Hd KS LL RdL lat rdl_of sE sl tE zh)
open Fl (K4 R4 okL row_cell row_frozen)
open Fs (Abs Fx OkA Only St ow_only)
open Pa (Hr K2 KB KN Stl Sts frF only_grown ow_apart ptr sat sbN sender_is snB vat)
open Ro (E5 K5)
open Rw (Kind Ow Rd)
namespace Cu
open Go.RowKit
open Rw (At)
open Fl (ret_bool)
open Pa (S2)
open Re (KI iat iat_get ints_same isS sN sL takL fileL)
attribute [local irreducible] Sd.wpSd wpQuiet
theorem equalI_any (w:World) (v v':Value) (l l':List Int) (R:Rd KI w v l) (R':Rd KI w v' l'):Calls prog 55 #[v,v'] w fun e w'=>e = .returned (.bool (decide (l=l')))/\Below w.heap.size w w':=by
 have HNO:Hid (¬ l=l'->false=decide (l=l')):=Hh (fun h=>(ak h).symm);have HYES:Hid (l=l'->true=decide (l=l')):=Hh (fun b=>(an b).symm);have HL:Hid (l.length=l'.length->(∀ i,i < l.length->iat l i=iat l' i)->l=l'):=Hh (fun a b=>ints_same a b);obtain ⟨a,cap,rfl,_,hm,hA⟩:=R;obtain ⟨a',cap',rfl,_,hm',hA'⟩:=R';have HA:=Hh hA;have HA':=Hh hA';unfold maxLen at hm hm';clear hA hA';have HNE:Hid (l.length≠l'.length->¬ (l=l')):=Hh (fun h2 h=>h2 (by rw [h]));generalize hq:decide (l=l')=q at *;clear hq;generalize hn:l.length=n at *;generalize hn':l'.length=n' at *;have HN:=Hh hn;have HN':=Hh hn';clear hn hn'
 by_cases h2:n=n'
 ·subst h2
  go_enter func55,ntmps55
  go_wp2
  go_loopw [13] (fun i wr=>∃ k:Nat,k<=n/\i = .int .i64 k/\Hid (Below w.heap.size w wr)/\Hid (∀ i,i < k->iat l i=iat l' i)) (fun i _=>n - (intOf i).toNat)
  case atStart=>exact ⟨0,aI _,rfl,Hh (aa _ _),Hh (fun i hi=>by omega)⟩
  case round =>
   obtain ⟨j,hj,rfl,bw,hs⟩:=hrel
   by_cases hlt:j < n
   ·obtain ⟨b,off,rfl,A⟩:=HA (by omega)
    obtain ⟨b',off',rfl,A'⟩:=HA' (by omega);have c0:=Re.at1 (A.below bw) j (by have:=HN.out;omega);have d0:=Re.at1 (A'.below bw) j (by have:=HN'.out;omega);have HAA:=Hh A;have HAA':=Hh A';clear A A'
    by_cases he:iat l j=iat l' j
    ·have ST:Hid (∀ i,i < j+1->iat l i=iat l' i):=Hh (fun i hi=>by
      by_cases e:i=j
      ·rw [e];exact he
      ·exact hs i (by omega))
     have es:(iat l j != iat l' j)=false:=by simp [he]
     clear he;generalize iat l j=r at *;generalize iat l' j=r' at *;go_wp2
     go_quiet (fail)
     go_wp2
     go_roundw
     case rel=>exact ⟨j+1,by omega,by go_num,Hh (cL bw.out _),ST⟩
     case measure=>simp [intOf];omega
    ·have E:=Hh (HNO (fun h=>he (by rw [h])))
     have es:(iat l j != iat l' j)=true:=by simp [he]
     clear he;generalize iat l j=r at *;generalize iat l' j=r' at *;go_wp2
     go_quiet (fail)
     go_wp2
     go_ret
     exact ⟨ret_bool E,cL bw _⟩
   ·have E:=Hh (HYES (HL (by trivial) (fun i hi=>hs.out i (by have:=HN.out;omega))))
    go_wp2
    go_ret
    exact ⟨ret_bool E,bw⟩
 ·have E:=Hh (HNO (HNE h2))
  have q1:((n:Int) != (n':Int))=true:=by simp;omega
  clear HNO HYES HL HNE HA HA'
  go_enter func55,ntmps55
  go_wp2
  go_ret
  exact ⟨ret_bool E,aa _ _⟩
def agB (A B:Abs):Bool:=sqB A && sqB B && decide (sqL A=sqL B)
section
variable {s t p:Nat} {F G:Nat->Prop} {c:Cs} {vn vq:Value} {L:List Nd} {Fs:Nat->Nat->Prop} {w w':World}
theorem cagreed_any (h:Cl w s F c t vn L p vq Fs) (hn:2<=c.S.length):Calls prog 26 #[ptr s] w fun e w'=>e = .returned (.bool (agB (sat c.S 0).1 (sat c.S 1).1))/\Below w.heap.size w w':=by
 have C1:=Hh (csequence_any h (nn:=0) (by omega));have C2:=Hh (fun w1 b=>csequence_any (h.below (w':=w1) b) (nn:=1) (by omega));have AG:Hid (agB (sat c.S 0).1 (sat c.S 1).1=(sqB (sat c.S (0:Nat)).1 && sqB (sat c.S (1:Nat)).1 && decide (sqL (sat c.S (0:Nat)).1=sqL (sat c.S (1:Nat)).1))):=Hh rfl;clear h;generalize agB (sat c.S 0).1 (sat c.S 1).1=ag at *;generalize (sat c.S (0:Nat)).1=A at *;generalize (sat c.S (1:Nat)).1=B at *;unfold SqC ptr at *
 go_enter func26,ntmps26
 go_wp2_with fail;refine C1.mono ?_;rintro e w1 ⟨b1,hc1⟩;have D2:=Hh (C2 w1 b1);have B1:=Hh b1;clear C1 C2 b1
 rcases hc1 with ⟨hs1,u1,rfl,r1⟩ | ⟨hs1,rfl⟩
 ·have R1:=Hh r1
  obtain ⟨a1,c1,rfl,_⟩:=r1.slice;clear r1;generalize hl1:(sqL A).length=n1 at *;clear hl1;go_wp2_with fail;refine D2.mono ?_;rintro e w2 ⟨b2,hc2⟩;have B2:=bTr B1 b2;have R1':=Hh (R1.below b2);clear D2 B1 R1 b2
  rcases hc2 with ⟨hs2,u2,rfl,r2⟩ | ⟨hs2,rfl⟩
  ·have R2:=Hh r2
   obtain ⟨a2,c2,rfl,_⟩:=r2.slice;clear r2;generalize hl2:(sqL B).length=n2 at *;clear hl2;rw [hs1,hs2] at AG;have BA:=Hh ((aa w2.heap.size w2).alloc (ac _) (.cells #[.nilIface,.nilIface] 107));have X0:=Hh (am w2 (.cells #[.nilIface,.nilIface] 107));have J:=Hh (join_none (w2.alloc (.cells #[.nilIface,.nilIface] 107)) w2.heap.size (row_cell X0 0) (row_cell X0 1));have B3:=bTr B2 BA;have R1a:=Hh (R1'.below BA);have R2a:=Hh (R2.below BA);clear hs1 hs2 R1' R2 B2 X0;go_wp2_with fail;refine J.mono ?_;rintro e w3 ⟨rfl,b3⟩;have EQ:=Hh (equalI_any w3 _ _ _ _ (R1a.below b3) (R2a.below b3));have B4:=bTr B3 b3;clear J b3 R1a R2a B3 BA;go_wp2_with fail;refine EQ.mono ?_;rintro e w4 ⟨rfl,b4⟩;have E:Hid (decide (sqL A=sqL B)=ag/\Below w.heap.size w w4):=Hh ⟨by rw [AG.out];rfl,bTr B4 b4⟩;clear EQ b4 B4 AG;generalize decide (sqL A=sqL B)=dd at *;go_wp2
   go_ret
   exact ⟨ret_bool E.out.1,E.out.2⟩
  ·rw [hs1,hs2] at AG
   unfold flaw flw at *;have BA:=Hh ((aa w2.heap.size w2).alloc (ac _) (.cells #[.nilIface,.iface 166 (.agg #[.int .i64 1,.iface 25 (.int .i64 2)])] 107));have X0:=Hh (am w2 (.cells #[.nilIface,.iface 166 (.agg #[.int .i64 1,.iface 25 (.int .i64 2)])] 107));have J:=Hh (join_r (w2.alloc (.cells #[.nilIface,.iface 166 (.agg #[.int .i64 1,.iface 25 (.int .i64 2)])] 107)) w2.heap.size 1 2 (row_cell X0 0) (row_cell X0 1));have B3:=bTr B2 BA;have E:=Hh (show ag=false by rw [AG.out];rfl);clear hs1 hs2 R1' B2 X0 AG;go_wp2_with fail;refine J.mono ?_;rintro e w3 ⟨⟨pp,rfl⟩,b3⟩;have B4:=bTr B3 b3;clear J b3 B3 BA;go_wp2
   go_ret
   exact ⟨ret_bool E.symm,B4⟩
 ·go_wp2_with fail
  refine D2.mono ?_;rintro e w2 ⟨b2,hc2⟩;have B2:=bTr B1 b2;clear D2 B1 b2
  rcases hc2 with ⟨hs2,u2,rfl,r2⟩ | ⟨hs2,rfl⟩
  ·obtain ⟨a2,c2,rfl,_⟩:=r2.slice
   clear r2;generalize hl2:(sqL B).length=n2 at *;clear hl2;rw [hs1,hs2] at AG;unfold flaw flw at *;have BA:=Hh ((aa w2.heap.size w2).alloc (ac _) (.cells #[.iface 166 (.agg #[.int .i64 0,.iface 25 (.int .i64 2)]),.nilIface] 107));have X0:=Hh (am w2 (.cells #[.iface 166 (.agg #[.int .i64 0,.iface 25 (.int .i64 2)]),.nilIface] 107));have J:=Hh (join_l (w2.alloc (.cells #[.iface 166 (.agg #[.int .i64 0,.iface 25 (.int .i64 2)]),.nilIface] 107)) w2.heap.size 0 2 (row_cell X0 0) (row_cell X0 1));have B3:=bTr B2 BA;have E:=Hh (show ag=false by rw [AG.out];rfl);clear hs1 hs2 B2 X0 AG;go_wp2_with fail;refine J.mono ?_;rintro e w3 ⟨⟨pp,rfl⟩,b3⟩;have B4:=bTr B3 b3;clear J b3 B3 BA;go_wp2
   go_ret
   exact ⟨ret_bool E.symm,B4⟩
  ·rw [hs1,hs2] at AG
   unfold flaw flw at *;have BA:=Hh ((aa w2.heap.size w2).alloc (ac _) (.cells #[.iface 166 (.agg #[.int .i64 0,.iface 25 (.int .i64 2)]),.iface 166 (.agg #[.int .i64 1,.iface 25 (.int .i64 2)])] 107));have X0:=Hh (am w2 (.cells #[.iface 166 (.agg #[.int .i64 0,.iface 25 (.int .i64 2)]),.iface 166 (.agg #[.int .i64 1,.iface 25 (.int .i64 2)])] 107));have J:=Hh (join_b (w2.alloc (.cells #[.iface 166 (.agg #[.int .i64 0,.iface 25 (.int .i64 2)]),.iface 166 (.agg #[.int .i64 1,.iface 25 (.int .i64 2)])] 107)) w2.heap.size 0 2 1 2 (row_cell X0 0) (row_cell X0 1));have B3:=bTr B2 BA;have E:=Hh (show ag=false by rw [AG.out];rfl);clear hs1 hs2 B2 X0 AG;go_wp2_with fail;refine J.mono ?_;rintro e w3 ⟨⟨pp,rfl⟩,b3⟩;have B4:=bTr B3 b3;clear J b3 B3 BA;go_wp2
   go_ret
   exact ⟨ret_bool E.symm,B4⟩
end
theorem ag_agree (L:List Pl) (h:2<=L.length):agB (sat (newC L).S 0).1 (sat (newC L).S 1).1=true↔agree L:=by
 have s0:(sat (newC L).S 0).1=(plat L 0).1:=by rw [show sat (newC L).S 0=_ from new_sat (L:=L) (i:=0) (by omega)]
 have s1:(sat (newC L).S 1).1=(plat L 1).1:=by rw [show sat (newC L).S 1=_ from new_sat (L:=L) (i:=1) (by omega)]
 rw [s0,s1];unfold agB agree;generalize (plat L 0).1=A;generalize (plat L 1).1=B;have F:∀ A:Abs,sqB A=true->isS (fP A 40) (fR A 40)/\sqL A=takL (fR A 40)/\fB A 40=true:=fun A h=>by
  unfold sqB at h;rw [aG,aZ] at h;obtain ⟨h1,h2⟩:=h;have i:isS (fP A 40) (fR A 40):=by
   unfold sN at h2
   split at h2
   ·assumption
   ·omega
  exact ⟨i,(Re.s_yes i).1,h1⟩
 rw [aG,aG,aZ]
 constructor
 ·rintro ⟨⟨hA,hB⟩,he⟩
  obtain ⟨iA,tA,_⟩:=F A hA;obtain ⟨iB,tB,bB⟩:=F B hB;refine ⟨hA,bB,by rw [iA.2.2.1,iB.2.2.1],?_⟩;rw [iA.2.2.2,iB.2.2.2,← tA,← tB,he]
 ·rintro ⟨hA,hB,hp,hr⟩
  obtain ⟨iA,tA,_⟩:=F A hA;have hB':sqB B=true:=by
   unfold sqB;rw [hB,← hp,← hr,(Re.s_yes iA).2]
   rfl
  refine ⟨⟨hA,hB'⟩,?_⟩;obtain ⟨_,tB,_⟩:=F B hB';rw [tA,tB,hr]
end Cu
namespace Tk
def fr (A:Nat->Int):Nat->Int
 | 0=>0
 | k+1=>A k
def rt (R:Nat->Int):Nat->Int
 | 0=>0
 | k+1=>R k
def sm (A R:Nat->Int):Nat->Int
 | 0=>0
 | k+1=>sm A R k+(A k - fr A k) * (1000000+rt R k)
def AtStop (A:Nat->Int) (n:Nat) (t:Int) (k:Nat):Prop:=k<=n/\(∀ i,i < k->A i < t)/\(k < n->t<=A k)
variable {A R:Nat->Int} {n k j:Nat} {t:Int}
theorem AtStop.uniq (h:AtStop A n t k) (g:AtStop A n t j):k=j:=by
 obtain ⟨h1,h2,h3⟩:=h;obtain ⟨g1,g2,g3⟩:=g
 rcases Nat.lt_trichotomy k j with c | c | c
 ·have a:=h3 (by omega);have b:=g2 k c;omega
 ·exact c
 ·have a:=g3 (by omega);have b:=h2 j c;omega
theorem AtStop.ex (A:Nat->Int) (n:Nat) (t:Int):∃ k,AtStop A n t k:=by
 induction n with
 | zero=>exact ⟨0,ac _,fun i h=>by omega,fun h=>by omega⟩
 | succ n ih =>
   obtain ⟨k,h1,h2,h3⟩:=ih
   by_cases hk:k < n
   ·exact ⟨k,by omega,h2,fun _=>h3 hk⟩
   ·obtain rfl:k=n:=by omega
    by_cases ha:A k < t
    ·refine ⟨k+1,by omega,fun i hi=>?_,fun h=>by omega⟩
     by_cases e:i=k
     ·subst e;exact ha
     ·exact h2 i (by omega)
    ·exact ⟨k,by omega,h2,fun _=>by omega⟩
noncomputable def stop (A:Nat->Int) (n:Nat) (t:Int):Nat:=(AtStop.ex A n t).choose
theorem stop_at (A:Nat->Int) (n:Nat) (t:Int):AtStop A n t (stop A n t):=(AtStop.ex A n t).choose_spec
theorem stop_eq (h:AtStop A n t k):stop A n t=k:=(stop_at A n t).uniq h
def pp (A R:Nat->Int) (k:Nat) (t:Int):Int:=sm A R k+(t - fr A k) * (1000000+rt R k)
noncomputable def PP (A R:Nat->Int) (n:Nat) (t:Int):Int:=pp A R (stop A n t) t
theorem PP_eq (h:AtStop A n t k):PP A R n t=pp A R k t:=by rw [PP,stop_eq h]
def clamp (t:Int):Int:=if t < 0 then 0 else if 4294967296 < t then 4294967296 else t
theorem clamp_lo (t:Int):0<=clamp t:=by unfold clamp;split <;> (try split) <;> omega
theorem clamp_hi (t:Int):clamp t<=4294967296:=by unfold clamp;split <;> (try split) <;> omega
theorem clamp_id (h:0<=t) (h':t<=4294967296):clamp t=t:=by unfold clamp;split <;> (try split) <;> omega
noncomputable def Loc (A R:Nat->Int) (n:Nat) (t:Int):Int:=PP A R n (clamp t) / 1000000
structure GoodP (n:Nat) (A R:Nat->Int):Prop where
 len:n<=64
 at_:∀ i,i < n->0<=A i/\A i<=4294967296
 rate:∀ i,i < n->-20000<=R i/\R i<=20000
 up:∀ i,i+1 < n->A i < A (i+1)
noncomputable def goodB (n:Nat) (A R:Nat->Int):Bool:=@decide (GoodP n A R) (Classical.propDecidable _)
theorem goodB_true : goodB n A R=true↔GoodP n A R:=by unfold goodB;exact @decide_eq_true_iff _ (Classical.propDecidable _)
theorem goodB_yes (h:GoodP n A R):goodB n A R=true:=goodB_true.2 h
theorem goodB_no (h:¬ GoodP n A R):goodB n A R=false:=by
 cases e:goodB n A R with
 | false=>rfl
 | true=>exact absurd (goodB_true.1 e) h
section
variable {n:Nat} {A R:Nat->Int}
theorem rt_bd (g:GoodP n A R) (k:Nat) (h:k<=n) : -20000<=rt R k/\rt R k<=20000:=by
 cases k with
 | zero=>exact ⟨by simp [rt],by simp [rt]⟩
 | succ k=>exact g.rate k (by omega)
theorem fr_bd (g:GoodP n A R) (k:Nat) (h:k<=n):0<=fr A k/\fr A k<=4294967296:=by
 cases k with
 | zero=>exact ⟨by simp [fr],by simp [fr]⟩
 | succ k=>exact g.at_ k (by omega)
theorem fr_le (g:GoodP n A R) (k:Nat) (h:k < n):fr A k<=A k:=by
 cases k with
 | zero=>exact (g.at_ 0 h).1
 | succ k=>exact Int.le_of_lt (g.up k h)
variable {d c u:Int}
theorem mul_bd (h:0<=d) (h1:980000<=c) (h2:c<=1020000):d * 980000<=d * c/\d * c<=d * 1020000 :=
 ⟨Int.mul_le_mul_of_nonneg_left h1 h,Int.mul_le_mul_of_nonneg_left h2 h⟩
theorem sm_bd (g:GoodP n A R) (k:Nat) (h:k<=n):fr A k * 980000<=sm A R k/\sm A R k<=fr A k * 1020000:=by
 induction k with
 | zero=>simp [fr,sm]
 | succ k ih =>
   have i:=ih (by omega);have b:=rt_bd g k (by omega);have f:=fr_le g k (by omega);have m:=mul_bd (d:=A k - fr A k) (c:=1000000+rt R k) (by omega) (by omega) (by omega)
   show A k * 980000<=sm A R k+(A k - fr A k) * (1000000+rt R k)/\sm A R k+(A k - fr A k) * (1000000+rt R k)<=A k * 1020000
   generalize (A k - fr A k) * (1000000+rt R k)=z at m ⊢
   omega
theorem pp_bd (g:GoodP n A R) (k:Nat) (h:k<=n) (t:Int) (ht:fr A k<=t):t * 980000<=pp A R k t/\pp A R k t<=t * 1020000:=by
 have i:=sm_bd g k h;have b:=rt_bd g k h;have m:=mul_bd (d:=t - fr A k) (c:=1000000+rt R k) (by omega) (by omega) (by omega);unfold pp;generalize (t - fr A k) * (1000000+rt R k)=z at m ⊢
 omega
theorem stop_fr (h0:0<=t) (h:AtStop A n t k):fr A k<=t:=by
 cases k with
 | zero=>exact h0
 | succ k=>exact Int.le_of_lt (h.2.1 k (by omega))
theorem PP_bd (g:GoodP n A R) (t:Int) (h0:0<=t):t * 980000<=PP A R n t/\PP A R n t<=t * 1020000:=by
 have s:=stop_at A n t;exact pp_bd g _ s.1 t (stop_fr h0 s)
theorem PP_succ (g:GoodP n A R) (t:Int):∃ c,980000<=c/\c<=1020000/\PP A R n (t+1)=PP A R n t+c:=by
 have s:=stop_at A n t;generalize hk:stop A n t=k at s;obtain ⟨s1,s2,s3⟩:=s;rw [PP_eq ⟨s1,s2,s3⟩]
 by_cases hn:k < n/\A k < t+1
 ·obtain ⟨hn,ha⟩:=hn
  have e:A k=t:=by have:=s3 hn;omega
  have st:AtStop A n (t+1) (k+1):=by
   refine ⟨hn,fun i hi=>?_,fun h=>?_⟩
   ·by_cases c:i=k
    ·subst c;exact ha
    ·have:=s2 i (by omega);omega
   ·have:=g.up k h;omega
  rw [PP_eq st];have b:=g.rate k hn;refine ⟨1000000+R k,by omega,by omega,?_⟩
  show sm A R k+(A k - fr A k) * (1000000+rt R k)+(t+1 - A k) * (1000000+R k)=sm A R k+(t - fr A k) * (1000000+rt R k)+(1000000+R k)
  rw [e,show t+1 - t=1 by omega,Int.one_mul]
 ·have st:AtStop A n (t+1) k:=by
   refine ⟨s1,fun i hi=>?_,fun h=>?_⟩
   ·have:=s2 i hi;omega
   ·have:=s3 h;omega
  rw [PP_eq st];have b:=rt_bd g k s1;refine ⟨1000000+rt R k,by omega,by omega,?_⟩;unfold pp;rw [show t+1 - fr A k=(t - fr A k)+1 by omega,Int.add_mul,Int.one_mul]
  omega
theorem PP_zero (g:GoodP n A R):PP A R n 0=0:=by have:=PP_bd g 0 (by decide);omega
theorem PP_add (g:GoodP n A R) (t:Int) (d:Nat):PP A R n t+980000 * d<=PP A R n (t+d)/\PP A R n (t+d)<=PP A R n t+1020000 * d:=by
 induction d with
 | zero=>simp
 | succ d ih =>
   obtain ⟨c,c1,c2,e⟩:=PP_succ g (t+d);rw [show t+((d+1:Nat):Int)=t+d+1 by omega,e]
   omega
theorem PP_mono (g:GoodP n A R) (h:t<=u):PP A R n t<=PP A R n u:=by
 have:=(PP_add g t (u - t).toNat).1;rw [show t+((u - t).toNat:Int)=u by omega] at this
 omega
theorem clamp_mono (h:t<=u):clamp t<=clamp u:=by unfold clamp;repeat' split <;> omega
theorem Loc_mono (g:GoodP n A R) (h:t<=u):Loc A R n t<=Loc A R n u:=by
 unfold Loc;have:=PP_mono g (clamp_mono h)
 omega
theorem Loc_bd (g:GoodP n A R) (t:Int) (h0:0<=t) (h1:t<=4294967296):Loc A R n t<=t+t / 50/\t - t / 50 - 1<=Loc A R n t:=by
 unfold Loc;rw [clamp_id h0 h1];have:=PP_bd g t h0
 omega
end
structure IsG (A R:Nat->Int) (n:Nat) (m g:Int):Prop where
 lo:0<=g
 hi:g<=4294967296
 before:∀ t,0<=t->t < g->Loc A R n t < m
 there:g < 4294967296->m<=Loc A R n g
variable {m k:Int}
theorem IsG.uniq {g:Int} (h:IsG A R n m g) (i:IsG A R n m k):g=k:=by
 have a:=h.lo;have b:=h.hi;have c:=i.lo;have d:=i.hi
 rcases Int.lt_trichotomy g k with e | e | e
 ·have x:=h.there (by omega);have y:=i.before g a e;omega
 ·exact e
 ·have x:=i.there (by omega);have y:=h.before k c e;omega
theorem first_or (f:Int->Int) (m:Int) (N:Nat):(∃ g:Int,0<=g/\g < N/\(∀ t,0<=t->t < g->f t < m)/\m<=f g)\/(∀ t:Int,0<=t->t < N->f t < m):=by
 induction N with
 | zero=>exact .inr fun t h h'=>by omega
 | succ N ih =>
   rcases ih with ⟨g,g0,g1,g2,g3⟩ | h
   ·exact .inl ⟨g,g0,by omega,g2,g3⟩
   ·by_cases c:f N < m
    ·refine .inr fun t t0 t1=>?_
     by_cases e:t=N
     ·subst e;exact c
     ·exact h t t0 (by omega)
    ·exact .inl ⟨N,by omega,by omega,h,by omega⟩
theorem IsG.ex (A R:Nat->Int) (n:Nat) (m:Int):∃ g,IsG A R n m g:=by
 generalize hN:(4294967296:Int).toNat=N;have e:(N:Int)=4294967296:=by omega
 rcases first_or (Loc A R n) m N with ⟨g,g0,g1,g2,g3⟩ | h
 ·exact ⟨g,g0,by omega,g2,fun _=>g3⟩
 ·exact ⟨4294967296,by omega,by omega,fun t t0 t1=>h t t0 (by omega),fun h=>by omega⟩
noncomputable def Glo (A R:Nat->Int) (n:Nat) (m:Int):Int:=(IsG.ex A R n m).choose
theorem Glo_is (A R:Nat->Int) (n:Nat) (m:Int):IsG A R n m (Glo A R n m):=(IsG.ex A R n m).choose_spec
theorem Glo_eq {g:Int} (h:IsG A R n m g):Glo A R n m=g:=(Glo_is A R n m).uniq h
theorem IsG.of_meet {g:Int} (h0:0<=g) (h1:g<=4294967296) (hl:∀ t,0<=t->t < g->Loc A R n t < m) (hh:g < 4294967296->m<=Loc A R n g):IsG A R n m g:=⟨h0,h1,hl,hh⟩
end Tk
namespace Sp
open Go.RowKit
abbrev S2:=Int×Int
def fr (l:List S2) (i:Nat):Int:=(l.getD i (0,0)).1
def tp (l:List S2) (i:Nat):Int:=(l.getD i (0,0)).2
def flat:List S2->List Value
 | []=>[]
 | s :: r=>.int .i64 s.1 :: .int .i64 s.2 :: flat r
theorem flat_length:∀ l:List S2,(flat l).length=l.length * 2
 | []=>rfl
 | s :: r=>by simp [flat,flat_length r];omega
theorem flat_append:∀ a b:List S2,flat (a ++ b)=flat a ++ flat b
 | [],_=>rfl
 | s :: r,b=>by simp [flat,flat_append r b]
theorem flat_get:∀ (l:List S2) (i:Nat),i < l.length->(flat l)[i * 2]? = some (.int .i64 (fr l i))/\(flat l)[i * 2+1]? = some (.int .i64 (tp l i))
 | s :: r,0,_=>⟨rfl,rfl⟩
 | s :: r,i+1,h=>by
   have ih:=flat_get r i (by simpa using h);have e:(i+1) * 2=i * 2+1+1:=by omega
   rw [e];exact ih
def At (w:World) (b off:Nat) (l:List S2):Prop:=∀ i,i < l.length->w.cell? ⟨b,off+i * 2,none⟩=some (.int .i64 (fr l i))/\w.cell? ⟨b,off+i * 2+1,none⟩=some (.int .i64 (tp l i))
def Sp (w:World) (v:Value) (l:List S2):Prop:=∃ a cap,v = .slice a l.length cap/\l.length<=cap/\cap<=maxLen/\(0 < l.length->∃ b off,a=some ⟨b,off,none⟩/\At w b off l)
def Own (w:World) (B E:Nat) (v:Value) (l:List S2):Prop:=w.ownsRow B E 2 v l.length (flat l)
variable {w w':World} {b off B E j:Nat} {l:List S2}
theorem At.below (h:At w b off l) (hb:Below w.heap.size w w'):At w' b off l:=fun i hi=>by
 obtain ⟨c1,c2⟩:=h i hi;exact ⟨bCe hb c1,bCe hb c2⟩
theorem Sp.below {w w':World} {v:Value} {l:List S2} (h:Sp w v l) (hb:Below w.heap.size w w'):Sp w' v l:=by
 obtain ⟨a,cap,e,h1,h2,h3⟩:=h;exact ⟨a,cap,e,h1,h2,fun hp=>by obtain ⟨b,off,ea,hA⟩:=h3 hp;exact ⟨b,off,ea,hA.below hb⟩⟩
theorem Sp.slice {w:World} {v:Value} {l:List S2} (h:Sp w v l):∃ a cap,v = .slice a l.length cap/\cap<=maxLen:=by
 obtain ⟨a,cap,e,_,h2,_⟩:=h;exact ⟨a,cap,e,h2⟩
theorem Own.nil (w:World) (B E:Nat):Own w B E (.slice none 0 0) []:=World.ownsRow_nil _ _ _ _
theorem Own.made (w:World) (B E:Nat) (hB:B<=w.heap.size):Own (w.alloc (.cells #[] E)) B E (.slice (some ⟨w.heap.size,0,none⟩) 0 0) [] :=
 World.ownsRow_made w #[] 0 hB (by unfold maxLen;omega) (by simp)
variable {v v':Value}
theorem Own.sp (h:Own w B E v l):Sp w v l:=by
 have hc:=fun g hg j u=>World.ownsRow.cells h (g:=g) hg j u;obtain ⟨_,h⟩:=h
 rcases h with ⟨rfl,h0⟩ | ⟨g,cap,cur,rfl,_,_,h1,h2,_⟩
 ·exact ⟨none,0,by rw [h0],by omega,by unfold maxLen;omega,fun h=>by omega⟩
 ·refine ⟨_,cap,rfl,h1,h2,fun _=>⟨g,0,rfl,fun i hi=>?_⟩⟩
  obtain ⟨g1,g2⟩:=flat_get l i hi;have c1:=hc g rfl _ _ g1;have c2:=hc g rfl _ _ g2;simp only [Addr.add_lit] at c1 c2;exact ⟨c1,by rw [← Nat.add_assoc] at c2;exact c2⟩
theorem Own.form (h:Own w B E v l) (hl:0 < l.length):∃ g cap,v = .slice (some ⟨g,0,none⟩) l.length cap/\B<=g/\g < w.heap.size/\l.length<=cap/\cap<=maxLen/\w.frozen? ⟨g,0,none⟩=false /\
 (∀ i,i < l.length->w.cell? ⟨g,i * 2,none⟩=some (.int .i64 (fr l i))/\w.cell? ⟨g,i * 2+1,none⟩=some (.int .i64 (tp l i))/\w.frozen? ⟨g,i * 2,none⟩=false/\w.frozen? ⟨g,i * 2+1,none⟩=false):=by
 have hc:=fun g hg j u=>World.ownsRow.cells h (g:=g) hg j u;obtain ⟨_,h⟩:=h
 rcases h with ⟨_,h0⟩ | ⟨g,cap,cur,rfl,hB,hh,h1,h2,_⟩
 ·omega
 ·refine ⟨g,cap,rfl,hB,ay hh,h1,h2,by simp [World.frozen?,hh],fun i hi=>?_⟩
  obtain ⟨g1,g2⟩:=flat_get l i hi;have c1:=hc g rfl _ _ g1;have c2:=hc g rfl _ _ g2;simp only [Addr.add_lit,cd] at c1 c2;exact ⟨c1,c2,by simp [World.frozen?,hh],by simp [World.frozen?,hh]⟩
theorem Own.slice {w:World} {B E:Nat} {v:Value} {l:List S2} (h:Own w B E v l):∃ a cap,v = .slice a l.length cap/\l.length<=cap/\cap<=maxLen:=by
 obtain ⟨_,h⟩:=h
 rcases h with ⟨rfl,h0⟩ | ⟨g,cap,cur,rfl,_,_,h1,h2,_⟩
 ·exact ⟨none,0,by rw [h0],by omega,by unfold maxLen;omega⟩
 ·exact ⟨_,_,rfl,h1,h2⟩
theorem Own.alloc {w:World} {B E:Nat} {v:Value} {l:List S2} (h:Own w B E v l) (o:Obj):Own (w.alloc o) B E v l:=cB h o
theorem Own.draw (h:Own w B E v l) (n:Nat):Own (w.drewN n) B E v l:=h
theorem Own.keep (h:Own w B E v l) (hb:Below w.heap.size w w'):Own w' B E v l:=by
 obtain ⟨h1,h2⟩:=h;refine ⟨h1,?_⟩
 rcases h2 with h2 | ⟨g,cap,cur,e,hB,hh,r⟩
 ·exact .inl h2
 ·exact .inr ⟨g,cap,cur,e,hB,(hb.block g (ay hh)).trans hh,r⟩
theorem heap_setCell_same {g:Nat} {cur:Array Value} {E:TypeId} (hh:w.heap[g]? = some (.cells cur E (0,0))) (u:Value):(w.setCell ⟨g,j,none⟩ u).heap[g]? = some (.cells (cur.setIfInBounds j u) E (0,0)):=by
 have hlt:=ay hh;have h':w.heap[g] = .cells cur E (0,0):=by simpa [Array.getElem?_eq_getElem hlt] using hh
 show (w.heap.modify g _)[g]? = _
 rw [cJ (by simpa using hlt),Array.getElem_modify_self,h']
 rfl
theorem flat_set:∀ (l:List S2) (i:Nat) (x:Int),i < l.length->(flat l).set (i * 2+1) (.int .i64 x)=flat (l.set i (fr l i,x))
 | s :: r,0,x,_=>rfl
 | s :: r,i+1,x,h=>by
   have ih:=flat_set r i x (by simpa using h);have e:(i+1) * 2+1=(i * 2+1)+1+1:=by omega
   rw [e]
   show Value.int .i64 s.1 :: Value.int .i64 s.2 :: (flat r).set (i * 2+1) (.int .i64 x)=_
   rw [ih]
   rfl
theorem Own.set {w:World} {B E g cap:Nat} {l:List S2} (h:Own w B E (.slice (some ⟨g,0,none⟩) l.length cap) l) (i:Nat) (hi:i < l.length) (x:Int) :
 Own (w.setCell ⟨g,i * 2+1,none⟩ (.int .i64 x)) B E (.slice (some ⟨g,0,none⟩) l.length cap) (l.set i (fr l i,x)):=by
 obtain ⟨h1,h2⟩:=h;refine ⟨by rw [flat_length],?_⟩
 rcases h2 with ⟨e,_⟩ | ⟨g',cap',cur,e,hB,hh,k1,k2,k3,k4⟩
 ·simp at e
 ·injection e with e1 e2 e3
  injection e1 with e1;injection e1 with e1;subst e1 e3;refine .inr ⟨_,_,_,by rw [aT],hB,heap_setCell_same hh _,by rw [aT];exact k1,k2,by simp [k3],?_⟩;rw [← flat_set l i x hi,← k4,aT]
  simp [List.take_set]
theorem Own.push {s:S2} (h:w'.ownsRow B E 2 v' (l.length+1) (flat l ++ [.int .i64 s.1,.int .i64 s.2])):Own w' B E v' (l ++ [s]):=by
 show w'.ownsRow B E 2 v' (l ++ [s]).length (flat (l ++ [s]))
 rw [flat_append,bj];exact h
end Sp
namespace Wi
open Sp
theorem ltge (a b:Int):a < b\/b<=a:=by omega
def Low (l:List S2) (t:Int):Prop:=∃ s∈l,s.1<=t/\t < s.2
def inB (t:Int) (s:S2):Bool:=decide (s.1<=t) && decide (t < s.2)
def lowB (l:List S2) (t:Int):Bool:=l.any (inB t)
variable {l a b r S p:List S2} {t:Int}
theorem lowB_iff : lowB l t=true↔Low l t:=by
 simp [lowB,Low,inB,List.any_eq_true]
theorem lowB_false : lowB l t=false↔¬ Low l t:=by
 rw [← lowB_iff];simp
def Plain (l:List S2):Prop:=(∀ s∈l,s.1 < s.2)/\l.Pairwise (fun a b=>a.2 < b.1)
variable {i k:Nat}
theorem mem_fr (h:i < l.length):(fr l i,tp l i)∈l:=by
 have e:l.getD i (0,0)=l[i]:=by simp [h]
 show ((l.getD i (0,0)).1,(l.getD i (0,0)).2)∈l
 rw [e];exact bC h
variable {s q:S2}
theorem mem_iff : s∈l↔∃ i,i < l.length/\fr l i=s.1/\tp l i=s.2:=by
 constructor
 ·intro h
  obtain ⟨i,hi,e⟩:=bK h;exact ⟨i,hi,by simp [fr,hi,e],by simp [tp,hi,e]⟩
 ·rintro ⟨i,hi,e1,e2⟩
  have:=mem_fr hi;rw [e1,e2] at this;exact this
theorem low_iff : Low l t↔∃ i,i < l.length/\fr l i<=t/\t < tp l i:=by
 constructor
 ·rintro ⟨s,hs,h⟩
  obtain ⟨i,hi,e1,e2⟩:=mem_iff.1 hs;exact ⟨i,hi,by omega,by omega⟩
 ·rintro ⟨i,hi,h⟩
  exact ⟨_,mem_fr hi,h⟩
theorem low_append : Low (a ++ b) t↔Low a t\/Low b t:=by
 constructor
 ·rintro ⟨s,hs,h⟩
  rcases bM.1 hs with h' | h'
  ·exact .inl ⟨s,h',h⟩
  ·exact .inr ⟨s,h',h⟩
 ·rintro (⟨s,hs,h⟩ | ⟨s,hs,h⟩)
  ·exact ⟨s,List.mem_append_left _ hs,h⟩
  ·exact ⟨s,List.mem_append_right _ hs,h⟩
theorem low_nil : ¬ Low [] t:=by rintro ⟨s,hs,_⟩;simp at hs
theorem low_cons : Low (s :: r) t↔(s.1<=t/\t < s.2)\/Low r t:=by
 constructor
 ·rintro ⟨x,hx,h⟩
  rcases aN.1 hx with rfl | h'
  ·exact .inl h
  ·exact .inr ⟨x,h',h⟩
 ·rintro (h | ⟨x,hx,h⟩)
  ·exact ⟨s,aO,h⟩
  ·exact ⟨x,aJ _ hx,h⟩
theorem low_one : Low [s] t↔s.1<=t/\t < s.2:=by
 rw [low_cons];exact ⟨fun h=>h.resolve_right low_nil,.inl⟩
theorem plain_nil:Plain []:=⟨fun s h=>by simp at h,cN⟩
theorem plain_snoc : Plain (l ++ [s])↔Plain l/\s.1 < s.2/\∀ x∈l,x.2 < s.1:=by
 unfold Plain;rw [List.pairwise_append]
 constructor
 ·rintro ⟨h1,h2,_,h3⟩
  exact ⟨⟨fun x hx=>h1 x (List.mem_append_left _ hx),h2⟩,h1 s (by simp),fun x hx=>h3 x hx s (by simp)⟩
 ·rintro ⟨⟨h1,h2⟩,h3,h4⟩
  refine ⟨fun x hx=>?_,h2,List.pairwise_singleton _ _,fun x hx y hy=>?_⟩
  ·rcases bM.1 hx with h | h
   ·exact h1 x h
   ·simp at h;subst h;exact h3
  ·simp at hy;subst hy;exact h4 x hx
theorem plain_cons : Plain (s :: l)↔Plain l/\s.1 < s.2/\∀ x∈l,s.2 < x.1:=by
 unfold Plain;rw [bs]
 constructor
 ·rintro ⟨h1,h2,h3⟩
  exact ⟨⟨fun x hx=>h1 x (aJ _ hx),h3⟩,h1 s aO,h2⟩
 ·rintro ⟨⟨h1,h2⟩,h3,h4⟩
  refine ⟨fun x hx=>?_,h4,h2⟩
  rcases aN.1 hx with rfl | h
  ·exact h3
  ·exact h1 x h
theorem plain_not_to (h:Plain l):∀ s∈l,¬ Low l s.2:=by
 induction l with
 | nil=>intro s hs;simp at hs
 | cons a r ih =>
   obtain ⟨hp,ha,hr⟩:=plain_cons.1 h
   intro s hs hl
   rw [low_cons] at hl
   rcases aN.1 hs with rfl | hs
   ·rcases hl with hl | ⟨x,hx,h1,h2⟩
    ·omega
    ·have:=hr x hx;omega
   ·rcases hl with hl | hl
    ·have:=hr s hs;have:=hp.1 s hs;omega
    ·exact ih hp s hs hl
theorem plain_one:∀ {a b:List S2},Plain a->Plain b->(∀ t,Low a t↔Low b t)->a=b
 | [],[],_,_,_=>rfl
 | [],s :: r,_,hb,h=>by
   obtain ⟨_,h1,_⟩:=plain_cons.1 hb;exact absurd ((h s.1).2 (low_cons.2 (.inl ⟨by omega,h1⟩))) low_nil
 | s :: r,[],ha,_,h=>by
   obtain ⟨_,h1,_⟩:=plain_cons.1 ha;exact absurd ((h s.1).1 (low_cons.2 (.inl ⟨by omega,h1⟩))) low_nil
 | s :: r,s' :: r',ha,hb,h=>by
   obtain ⟨hr,h1,h2⟩:=plain_cons.1 ha;obtain ⟨hr',h1',h2'⟩:=plain_cons.1 hb;have lo:s'.1<=s.1:=by
    obtain ⟨x,hx,hx1,_⟩:=(h s.1).1 (low_cons.2 (.inl ⟨by omega,h1⟩))
    rcases aN.1 hx with rfl | hx
    ·exact hx1
    ·have:=h2' x hx;omega
   have lo':s.1<=s'.1:=by
    obtain ⟨x,hx,hx1,_⟩:=(h s'.1).2 (low_cons.2 (.inl ⟨by omega,h1'⟩))
    rcases aN.1 hx with rfl | hx
    ·exact hx1
    ·have:=h2 x hx;omega
   have hi:s'.2<=s.2:=by
    rcases ltge s.2 s'.2 with c | c
    ·exact absurd ((h s.2).2 (low_cons.2 (.inl ⟨by omega,c⟩))) (plain_not_to ha s aO)
    ·exact c
   have hi':s.2<=s'.2:=by
    rcases ltge s'.2 s.2 with c | c
    ·exact absurd ((h s'.2).1 (low_cons.2 (.inl ⟨by omega,c⟩))) (plain_not_to hb s' aO)
    ·exact c
   have e:s=s':=Prod.ext (by omega) (by omega);subst e;have er:r=r':=plain_one hr hr' fun t=>by
    constructor
    ·intro ht
     obtain ⟨x,hx,hx1,_⟩:=ht;have:=h2 x hx
     rcases low_cons.1 ((h t).1 (low_cons.2 (.inr ⟨x,hx,hx1,by assumption⟩))) with c | c
     ·omega
     ·exact c
    ·intro ht
     obtain ⟨x,hx,hx1,_⟩:=ht;have:=h2' x hx
     rcases low_cons.1 ((h t).2 (low_cons.2 (.inr ⟨x,hx,hx1,by assumption⟩))) with c | c
     ·omega
     ·exact c
   rw [er]
structure JoinInv (S:List S2) (k:Nat) (l:List S2):Prop where
 plain:Plain l
 low:∀ t,Low l t↔Low (S.take k) t
 ahead:∀ x∈l,∀ i,k<=i->i < S.length->x.1<=fr S i
structure Srt (S:List S2):Prop where
 ticks:∀ i,i < S.length->fr S i < tp S i
 up:∀ i j,i<=j->j < S.length->fr S i<=fr S j
theorem take_snoc (h:k < S.length):S.take (k+1)=S.take k ++ [(fr S k,tp S k)]:=by
 rw [List.take_succ_eq_append_getElem h];have e:(fr S k,tp S k)=S[k]:=by simp [fr,tp,h]
 rw [e]
theorem JoinInv.zero (S:List S2):JoinInv S 0 []:=⟨plain_nil,fun t=>by simp,fun x hx=>by simp at hx⟩
theorem JoinInv.push (hS:Srt S) (h:JoinInv S k l) (hk:k < S.length) (hl:∀ x∈l,x.2 < fr S k):JoinInv S (k+1) (l ++ [(fr S k,tp S k)]):=by
 refine ⟨plain_snoc.2 ⟨h.plain,hS.ticks k hk,hl⟩,fun t=>?_,fun x hx i h1 h2=>?_⟩
 ·rw [take_snoc hk,low_append,low_append,h.low]
 ·rcases bM.1 hx with c | c
  ·exact h.ahead x c i (by omega) h2
  ·simp at c;subst c;exact hS.up k i (by omega) h2
theorem JoinInv.grow (h:JoinInv S k (p ++ [q])) (hk:k < S.length) (hl:fr S k<=q.2) (m:Int) (hm:(q.2<=m/\tp S k<=m)/\(m=q.2\/m=tp S k)):JoinInv S (k+1) (p ++ [(q.1,m)]):=by
 obtain ⟨hp,hq,hx⟩:=plain_snoc.1 h.plain;have ha:=h.ahead q (by simp) k (by omega) hk;refine ⟨plain_snoc.2 ⟨hp,by show q.1 < m;omega,hx⟩,fun t=>?_,fun x hx i h1 h2=>?_⟩
 ·have:=h.low t
  rw [low_append,low_one] at this;rw [take_snoc hk,low_append,low_append,low_one,low_one,← this]
  constructor
  ·rintro (c | c)
   ·exact .inl (.inl c)
   ·by_cases d:t < q.2
    ·exact .inl (.inr ⟨c.1,d⟩)
    ·exact .inr ⟨by show fr S k<=t;omega,by show t < tp S k;have:=c.2;simp at this;omega⟩
  ·rintro ((c | c) | c)
   ·exact .inl c
   ·exact .inr ⟨c.1,by show t < m;omega⟩
   ·exact .inr ⟨by show q.1<=t;have:=c.1;simp at this;omega,by show t < m;have:=c.2;simp at this;omega⟩
 ·rcases bM.1 hx with c | c
  ·exact h.ahead x (List.mem_append_left _ c) i (by omega) h2
  ·simp at c;subst c;exact h.ahead q (by simp) i (by omega) h2
theorem JoinInv.all (h:JoinInv S S.length l):Plain l/\∀ t,Low l t↔Low S t:=⟨h.plain,fun t=>by rw [h.low,br]⟩
def lastc:List S2->Int
 | []=>-1099511627777
 | [s]=>s.2
 | _ :: s :: r=>lastc (s :: r)
theorem lastc_tp:∀ (l:List S2),0 < l.length->lastc l=tp l (l.length - 1)
 | [_],_=>rfl
 | a :: b :: r,_=>by
   have:=lastc_tp (b :: r) (by simp)
   show lastc (b :: r)=_
   rw [this]
   simp [tp]
theorem lastc_le:∀ {l:List S2},Plain l->∀ x∈l,x.2<=lastc l
 | [s],_,x,hx=>by simp at hx;subst hx;exact cP _
 | a :: b :: r,h,x,hx=>by
   obtain ⟨h1,h2,h3⟩:=plain_cons.1 h
   show x.2<=lastc (b :: r)
   rcases aN.1 hx with rfl | hx
   ·have a1:=h3 b (by simp)
    have a2:=h1.1 b (by simp);have a3:=lastc_le h1 b (by simp)
    omega
   ·exact lastc_le h1 x hx
open Go.RowKit Go.Proofs.YtdbdacceecnpmaaGreatDoor.Sp
theorem ret_int {a b:Int} (h:a=b):Ending.returned (.int .i64 a) = .returned (.int .i64 b):=by rw [h]
theorem infoS:(prog.info? 295).map (fun i=>(i.zero,i.size,i.bytes))=some (some (.agg #[.int .i64 0,.int .i64 0]),2,16):=by kernel_rfl
theorem addr_zero (a:Addr):a.add 0=a:=by cases a;simp [Addr.add]
variable {w:World}
theorem push_step {ops:Array Oper} {rest:List Oper} {o:Oper} {a:Act} {Q:Exit->Act->World->Prop} (hgd:o.guard=none) (s x:Operand)
 (ho:o.op = .call { callee:=.builtin .append,args:=#[s,x],argTypes:=#[216,216] }) (B:Nat) (v:Value) (l:List S2) (hs:a.eval s=v) (hown:Sp.Own w B 295 v l)
 (ad:Addr) (p q:Int) (hx:a.eval x = .slice (some ad) 1 1) (h0:w.cell? ad=some (.int .i64 p)) (h1:w.cell? (ad.add 1)=some (.int .i64 q)) (hlen:l.length < 4398046511104) (hB:B<=w.heap.size)
 (h:∀ v' w',Sp.Own w' B 295 v' (l ++ [(p,q)])->Below B w w'->wpList prog ops Q rest (a.put o.dst v') w'):wpList prog ops Q (o :: rest) a w:=by
 obtain ⟨i0,hi,hz0,hz1,hz2⟩:=cz infoS;refine wpList_append_own _ hgd s x 216 ho B 295 i0 (.agg #[.int .i64 0,.int .i64 0]) 2 16 underlying216 hi hz0 hz1 hz2 rfl (by decide) v l.length (flat l) hs hown ad 1 1 [.int .i64 p,.int .i64 q] hx rfl ?_ ?_ ?_ ?_ hB ?_
 ·intro j u hj
  match j,hj with
  | 0,hj=>simp at hj;subst hj;rw [addr_zero];exact h0
  | 1,hj=>simp at hj;subst hj;exact h1
  | j+2,hj=>simp at hj
 ·intro u hu
  simp at hu
  rcases hu with rfl | rfl <;> rfl
 ·unfold maxLen;omega
 ·omega
 ·intro v' w' h2 h3 _
  exact h v' w' (Sp.Own.push (s:=(p,q)) h2) ((aa B w).grown h3 hB fun k hk=>(aU hown k hk).1)
theorem ticks_any (w:World) (a b:Int):Calls prog 198 #[.agg #[.int .i64 a,.int .i64 b]] w fun e w'=>e = .returned (.bool (decide (a < b)))/\Below w.heap.size w w':=by
 go_enter func198,ntmps198
 go_wp2
 go_ret
 exact ⟨rfl,(aa _ _).alloc (ac _) _⟩
theorem nan_any (w:World) (a:Int):Calls prog 181 #[.int .i64 a] w fun e w'=>e = .returned (.bool false)/\w=w':=by
 go_enter func181,ntmps181
 go_wp2
 go_ret
 exact ⟨by simp,rfl⟩
def cmpI (a b:Int):Int:=if a < b then -1 else if b < a then 1 else 0
theorem compare_any (w:World) (a b:Int):Calls prog 201 #[.int .i64 a,.int .i64 b] w fun e w'=>e = .returned (.int .i64 (cmpI a b))/\w=w':=by
 by_cases h:a < b
 ·go_enter func201,ntmps201
  go_wp2_with (go_at_call 181;refine (nan_any _ _).mono ?_;rintro e w' ⟨rfl,rfl⟩)
  go_ret
  exact ⟨ret_int (by simp [cmpI,h]),rfl⟩
 ·by_cases h2:b < a
  ·go_enter func201,ntmps201
   go_wp2_with (go_at_call 181;refine (nan_any _ _).mono ?_;rintro e w' ⟨rfl,rfl⟩)
   go_ret
   exact ⟨ret_int (by simp [cmpI,h,h2]),rfl⟩
  ·go_enter func201,ntmps201
   go_wp2_with (go_at_call 181;refine (nan_any _ _).mono ?_;rintro e w' ⟨rfl,rfl⟩)
   go_ret
   exact ⟨ret_int (by rw [cmpI,ah (by omega),ah (by omega)]),rfl⟩
def Made (w:World) (P:List S2->Prop) (e:Ending) (w':World):Prop:=∃ v x,e = .returned v/\Sp.Own w' w.heap.size 295 v x/\P x/\Below w.heap.size w w'
theorem at_bool {P:Program} {f:Nat} {args:Array Value} {B:Nat} {a b:Bool} (e:a=b) (c:Calls P f args w fun e w'=>e = .returned (.bool a)/\Below B w w'):Calls P f args w fun e w'=>e = .returned (.bool b)/\Below B w w':=by rw [← e];exact c
def PlainOf (X l:List S2):Prop:=Plain l/\∀ t,Low l t↔Low X t
theorem PlainOf.one {x:List S2} (ha:PlainOf x a) (hb:PlainOf x b):a=b:=plain_one ha.1 hb.1 fun t=>(ha.2 t).trans (hb.2 t).symm
end Wi
namespace Se
open Sp Go.Proofs.YtdbdacceecnpmaaGreatDoor.Wi
open Tk (GoodP Glo IsG Glo_is Glo_eq)
section
variable {n:Nat} {A R:Nat->Int}
theorem Glo_in (A R:Nat->Int) (n:Nat) (m:Int):0<=Glo A R n m/\Glo A R n m<=4294967296:=⟨(Glo_is A R n m).lo,(Glo_is A R n m).hi⟩
variable {a b:Int}
theorem Glo_mono (h:a<=b):Glo A R n a<=Glo A R n b:=by
 have x:=Glo_is A R n a;have y:=Glo_is A R n b;have y0:=y.lo;have x1:=x.hi
 rcases Wi.ltge (Glo A R n b) (Glo A R n a) with c | c
 ·have p:=y.there (by omega)
  have q:=x.before _ y.lo c
  omega
 ·exact c
theorem Loc_step (g:GoodP n A R) (t:Int) (h0:0<=t) (h1:t < 4294967296):Tk.Loc A R n (t+1)<=Tk.Loc A R n t+2:=by
 obtain ⟨c,_,c1,e⟩:=Tk.PP_succ g t;unfold Tk.Loc;rw [Tk.clamp_id (by omega) (by omega),Tk.clamp_id (by omega) (by omega),e]
 omega
theorem Glo_there (g:GoodP n A R) (h1:a<=4000000000):Glo A R n a < 4294967296:=by
 have x:=Glo_is A R n a;have b:=(Tk.Loc_bd g 4294967295 (by omega) (by omega)).2;have x1:=x.hi
 rcases Wi.ltge (Glo A R n a) 4294967296 with c | c
 ·exact c
 ·have:=x.before 4294967295 (by omega) (by omega)
  omega
theorem Glo_at (g:GoodP n A R) (h1:a<=4000000000):a<=Tk.Loc A R n (Glo A R n a):=(Glo_is A R n a).there (Glo_there g h1)
theorem Loc_zero (g:GoodP n A R):Tk.Loc A R n 0=0:=by
 rw [Tk.Loc,Tk.clamp_id (by omega) (by omega),Tk.PP_zero g]
 rfl
theorem Glo_no (g:GoodP n A R) (h0:0<=a):Tk.Loc A R n (Glo A R n a)<=a+1:=by
 have x:=Glo_is A R n a;have x0:=x.lo;have x1:=x.hi
 rcases Wi.ltge 0 (Glo A R n a) with c | c
 ·have p:=x.before (Glo A R n a - 1) (by omega) (by omega)
  have s:=Loc_step g (Glo A R n a - 1) (by omega) (by omega);rw [show Glo A R n a - 1+1=Glo A R n a by omega] at s
  omega
 ·have e:Glo A R n a=0:=by omega
  rw [e,Loc_zero g]
  omega
theorem Glo_lt (g:GoodP n A R) (h0:0<=a) (h:a+2<=b) (h1:b<=4000000000):Glo A R n a < Glo A R n b:=by
 have p:=Glo_no g h0;have q:=Glo_at g h1;have m:=Glo_mono (A:=A) (R:=R) (n:=n) (show a<=b by omega)
 rcases Wi.ltge (Glo A R n a) (Glo A R n b) with c | c
 ·exact c
 ·have e:Glo A R n a=Glo A R n b:=by omega
  rw [e] at p
  omega
end
def lows (g:Int->Int) (F:Nat->Bool) (m:Int):Nat->List S2
 | 0=>[]
 | k+1=>if F k then lows g F m k else lows g F m k ++ [(g (m+16 * k),g (m+16 * k+16))]
section
variable {g:Int->Int} {F:Nat->Bool} {m:Int}
variable {k:Nat}
theorem lows_hi (h:F k=true):lows g F m (k+1)=lows g F m k:=by rw [lows,aj h]
theorem lows_lo (h:F k=false):lows g F m (k+1)=lows g F m k ++ [(g (m+16 * k),g (m+16 * k+16))]:=by rw [lows,ah (by simp [h])]
theorem lows_len:∀ k,(lows g F m k).length<=k
 | 0=>ac _
 | k+1=>by
   have:=lows_len k;rw [lows]
   split
   ·omega
   ·simp;omega
theorem lows_mem {s:S2} : ∀ {k},s∈lows g F m k↔∃ i:Nat,i < k/\F i=false/\s=(g (m+16 * i),g (m+16 * i+16))
 | 0=>by simp [lows]
 | k+1=>by
   cases h:F k with
   | true =>
     rw [lows_hi h,lows_mem]
     constructor
     ·rintro ⟨i,a,b⟩
      exact ⟨i,by omega,b⟩
     ·rintro ⟨i,a,b,c⟩
      by_cases e:i=k
      ·subst e;rw [h] at b;cases b
      ·exact ⟨i,by omega,b,c⟩
   | false =>
     rw [lows_lo h,bM,lows_mem]
     constructor
     ·rintro (⟨i,a,b⟩ | c)
      ·exact ⟨i,by omega,b⟩
      ·exact ⟨k,by omega,h,by simpa using c⟩
     ·rintro ⟨i,a,b,c⟩
      by_cases e:i=k
      ·subst e;exact .inr (by simpa using c)
      ·exact .inl ⟨i,by omega,b,c⟩
end
end Se
namespace Sa
open Sp Go.Proofs.YtdbdacceecnpmaaGreatDoor.Wi Go.Proofs.YtdbdacceecnpmaaGreatDoor.Se
open Tk (GoodP Glo IsG Glo_is Glo_eq PP)
structure Calm (n:Nat) (A R:Nat->Int) (B:Int):Prop where
 good:GoodP n A R
 lo:0<=B
 bd:∀ i,i < n->-B<=R i/\R i<=B
section
variable {n:Nat} {A R:Nat->Int} {B:Int}
theorem Calm.rt (g:Calm n A R B) (k:Nat) (h:k<=n) : -B<=Tk.rt R k/\Tk.rt R k<=B:=by
 have:=g.lo
 cases k with
 | zero=>exact ⟨by simp [Tk.rt];omega,by simp [Tk.rt];omega⟩
 | succ k=>exact g.bd k (by omega)
theorem PP_one (g:Calm n A R B) (t:Int):∃ c,1000000 - B<=c/\c<=1000000+B/\PP A R n (t+1)=PP A R n t+c:=by
 have s:=Tk.stop_at A n t;generalize hk:Tk.stop A n t=k at s;obtain ⟨s1,s2,s3⟩:=s;rw [Tk.PP_eq ⟨s1,s2,s3⟩]
 by_cases hn:k < n/\A k < t+1
 ·obtain ⟨hn,ha⟩:=hn
  have e:A k=t:=by have:=s3 hn;omega
  have st:Tk.AtStop A n (t+1) (k+1):=by
   refine ⟨hn,fun i hi=>?_,fun h=>?_⟩
   ·by_cases c:i=k
    ·subst c;exact ha
    ·have:=s2 i (by omega);omega
   ·have:=g.good.up k h;omega
  rw [Tk.PP_eq st];have b:=g.bd k hn;refine ⟨1000000+R k,by omega,by omega,?_⟩
  show Tk.sm A R k+(A k - Tk.fr A k) * (1000000+Tk.rt R k)+(t+1 - A k) * (1000000+R k)=Tk.sm A R k+(t - Tk.fr A k) * (1000000+Tk.rt R k)+(1000000+R k)
  rw [e,show t+1 - t=1 by omega,Int.one_mul]
 ·have st:Tk.AtStop A n (t+1) k:=by
   refine ⟨s1,fun i hi=>?_,fun h=>?_⟩
   ·have:=s2 i hi;omega
   ·have:=s3 h;omega
  rw [Tk.PP_eq st];have b:=g.rt k s1;refine ⟨1000000+Tk.rt R k,by omega,by omega,?_⟩;unfold Tk.pp;rw [show t+1 - Tk.fr A k=(t - Tk.fr A k)+1 by omega,Int.add_mul,Int.one_mul]
  omega
theorem PP_more (g:Calm n A R B) (t:Int) (d:Nat):PP A R n t+(1000000 - B) * d<=PP A R n (t+d)/\PP A R n (t+d)<=PP A R n t+(1000000+B) * d:=by
 induction d with
 | zero=>simp
 | succ d ih =>
   obtain ⟨c,c1,c2,e⟩:=PP_one g (t+d);rw [show t+((d+1:Nat):Int)=t+d+1 by omega,e];have e1:(1000000 - B) * ((d+1:Nat):Int)=(1000000 - B) * d+(1000000 - B):=by rw [show ((d+1:Nat):Int)=d+1 by omega,Int.mul_add,Int.mul_one]
   have e2:(1000000+B) * ((d+1:Nat):Int)=(1000000+B) * d+(1000000+B):=by rw [show ((d+1:Nat):Int)=d+1 by omega,Int.mul_add,Int.mul_one]
   rw [e1,e2];generalize (1000000 - B) * (d:Int)=x at *;generalize (1000000+B) * (d:Int)=y at *
   omega
variable {t u B' a:Int}
theorem PP_span (g:Calm n A R B) (h:t<=u):PP A R n t+(1000000 - B) * (u - t)<=PP A R n u/\PP A R n u<=PP A R n t+(1000000+B) * (u - t):=by
 have:=PP_more g t (u - t).toNat;rw [show t+((u - t).toNat:Int)=u by omega,show ((u - t).toNat:Int)=u - t by omega] at this;exact this
theorem Calm.up (g:Calm n A R B) (h:B<=B'):Calm n A R B':=⟨g.good,by have:=g.lo;omega,fun i hi=>by have:=g.bd i hi;omega⟩
theorem Glo_parts (g:Calm n A R B) (h0:0<=a) (h1:a<=4000000000):1000000 * a<=PP A R n (Glo A R n a)/\PP A R n (Glo A R n a)<=1000000 * a+999999+B:=by
 have x:=Glo_is A R n a;have x0:=x.lo;have x1:=Glo_there g.good h1;have q:=Glo_at g.good h1;have b0:=g.lo;unfold Tk.Loc at q;rw [Tk.clamp_id (by omega) (by omega)] at q;refine ⟨by omega,?_⟩
 rcases Wi.ltge 0 (Glo A R n a) with c | c
 ·have p:=x.before (Glo A R n a - 1) (by omega) (by omega)
  unfold Tk.Loc at p;rw [Tk.clamp_id (by omega) (by omega)] at p;obtain ⟨d,_,d1,e⟩:=PP_one g (Glo A R n a - 1);rw [show Glo A R n a - 1+1=Glo A R n a by omega] at e
  omega
 ·have e:Glo A R n a=0:=by omega
  rw [e,Tk.PP_zero g.good]
  omega
theorem Glo_le (h0:0<=u) (h:1000000 * a<=PP A R n u):Glo A R n a<=u:=by
 have x:=Glo_is A R n a
 rcases Wi.ltge u (Glo A R n a) with c | c
 ·have p:=x.before u h0 c
  have:=x.hi;unfold Tk.Loc at p;rw [Tk.clamp_id (by omega) (by omega)] at p
  omega
 ·exact c
theorem lt_Glo (g:Calm n A R B) (h1:a<=4000000000) (h:PP A R n u < 1000000 * a):u < Glo A R n a:=by
 have q:=Glo_at g.good h1;have x0:=(Glo_is A R n a).lo;have x1:=Glo_there g.good h1;unfold Tk.Loc at q;rw [Tk.clamp_id (by omega) (by omega)] at q
 rcases Wi.ltge u (Glo A R n a) with c | c
 ·exact c
 ·have:=Tk.PP_mono g.good c
  omega
end
def maj (a b c:Bool):Bool:=a && b || a && c || b && c
def heard (low:Int->Bool) (g:Int->Int) (N:Int) (i:Nat):Bool:=maj (!low (g (N+16 * i+7))) (!low (g (N+16 * i+8))) (!low (g (N+16 * i+9)))
theorem maj_same (a:Bool):maj a a a=a:=by cases a <;> rfl
theorem look_in {n n':Nat} {A R A' R':Nat->Int} (g:Calm n A R 10000) (g':Calm n' A' R' 10000) {m:Int} (m0:0<=m) (m1:m<=1073741824) (i:Nat) (hi:i < 11) (j:Int) (j0:7<=j) (j1:j<=9) :
 Glo A R n (m+16 * i)<=Glo A' R' n' (Tk.Loc A' R' n' (Glo A R n m)+16 * i+j)/\Glo A' R' n' (Tk.Loc A' R' n' (Glo A R n m)+16 * i+j) < Glo A R n (m+16 * i+16):=by
 have t:=Glo_parts g m0 (by omega);have t0:=(Glo_is A R n m).lo;have t1:=Glo_there g.good (show m<=4000000000 by omega);have t2:Glo A R n m<=1100000000:=by
  have b:=PP_span g (show 0<=Glo A R n m from t0);rw [Tk.PP_zero g.good] at b
  omega
 have l:=Tk.Loc_bd g'.good (Glo A R n m) t0 (by omega);have lp:1000000 * Tk.Loc A' R' n' (Glo A R n m)<=PP A' R' n' (Glo A R n m)/\PP A' R' n' (Glo A R n m)<=1000000 * Tk.Loc A' R' n' (Glo A R n m)+999999:=by
  unfold Tk.Loc;rw [Tk.clamp_id (by omega) (by omega)]
  omega
 have l0:0<=Tk.Loc A' R' n' (Glo A R n m):=by
  unfold Tk.Loc;rw [Tk.clamp_id (by omega) (by omega)];have:=(Tk.PP_bd g'.good (Glo A R n m) t0).1
  omega
 generalize Tk.Loc A' R' n' (Glo A R n m)=N at *;have u:=Glo_parts g' (a:=N+16 * i+j) (by omega) (by omega);have u0:=(Glo_is A' R' n' (N+16 * i+j)).lo;generalize Glo A' R' n' (N+16 * i+j)=U at *;have tu:Glo A R n m<=U:=by
  rcases Wi.ltge U (Glo A R n m) with c | c
  ·have:=Tk.PP_mono g'.good (show U<=Glo A R n m by omega)
   omega
  ·exact c
 have b:=PP_span g tu;have b':=PP_span g' tu;generalize Glo A R n m=T at *;have lo:1000000 * (m+16 * (i:Int))<=PP A R n U:=by omega
 have hi':PP A R n U < 1000000 * (m+16 * (i:Int)+16):=by omega
 exact ⟨Glo_le u0 lo,lt_Glo g (by omega) hi'⟩
theorem Loc_all (A R:Nat->Int) (n:Nat) (g:GoodP n A R) (t:Int):0<=Tk.Loc A R n t/\Tk.Loc A R n t<=4400000000:=by
 have h0:=Tk.clamp_lo t;have h1:=Tk.clamp_hi t;have:=Tk.PP_bd g (Tk.clamp t) h0;unfold Tk.Loc
 omega
end Sa
namespace Wi
open Sp
def idx (p:S2->Bool) (l:List S2):Int:=match (List.range l.length).find? (fun i=>p (fr l i,tp l i)) with
 | some i=>i
 | none=>-1
variable {p:S2->Bool} {l x:List S2} {i:Nat}
theorem idx_hit (hi:i < l.length) (hp:p (fr l i,tp l i)=true) (hn:∀ j,j < i->p (fr l j,tp l j)=false):idx p l=i:=by
 have e:(List.range l.length).find? (fun i=>p (fr l i,tp l i))=some i:=by
  rw [List.find?_range_eq_some];exact ⟨hp,by simpa using hi,fun j hj=>by simp [hn j hj]⟩
 simp [idx,e]
theorem idx_miss (hn:∀ j,j < l.length->p (fr l j,tp l j)=false):idx p l = -1:=by
 have e:(List.range l.length).find? (fun i=>p (fr l i,tp l i))=none:=by
  rw [cZ]
  intro i hi
  simp [hn i (by simpa using hi)]
 simp [idx,e]
theorem idx_cases (p:S2->Bool) (l:List S2):(∃ i:Nat,i < l.length/\p (fr l i,tp l i)=true/\(∀ j,j < i->p (fr l j,tp l j)=false)/\idx p l=i)\/((∀ j,j < l.length->p (fr l j,tp l j)=false)/\idx p l = -1):=by
 rcases h:(List.range l.length).find? (fun i=>p (fr l i,tp l i)) with _ | i
 ·right
  rw [cZ] at h;have hn:∀ j,j < l.length->p (fr l j,tp l j)=false:=fun j hj=>by simpa using h j (by simpa using hj)
  exact ⟨hn,idx_miss hn⟩
 ·left
  rw [List.find?_range_eq_some] at h;have hi:i < l.length:=by simpa using h.2.1
  have hn:∀ j,j < i->p (fr l j,tp l j)=false:=fun j hj=>by simpa using h.2.2 j hj
  exact ⟨i,hi,h.1,hn,idx_hit hi h.1 hn⟩
def fallP (f t:Int) (s:S2):Bool:=decide (f<=s.1) && decide (s.1 < t)
def FallV (x:List S2) (f t:Int):Int×Bool:=if 0<=idx (fallP f t) x then (fr x (idx (fallP f t) x).toNat,true) else (0,false)
variable {f t:Int}
theorem fall_hit (e:idx (fallP f t) x=i):FallV x f t=(fr x i,true):=by
 unfold FallV;rw [e,aj (by omega)]
 simp
theorem fall_miss (e:idx (fallP f t) x = -1):FallV x f t=(0,false):=by
 unfold FallV;rw [e,ah (by omega)]
end Wi
namespace Bu
open Sp Go.Proofs.YtdbdacceecnpmaaGreatDoor.Wi Go.Proofs.YtdbdacceecnpmaaGreatDoor.Se Go.Proofs.YtdbdacceecnpmaaGreatDoor.Sa
open Tk (GoodP Glo IsG Glo_is Glo_eq PP)
structure Osc where
 n:Nat
 A:Nat->Int
 R:Nat->Int
noncomputable def Osc.g (o:Osc) (m:Int):Int:=Glo o.A o.R o.n m
def Osc.calm (o:Osc):Prop:=Sa.Calm o.n o.A o.R 2000
variable {a b:Int}
theorem ahead {o p:Osc} (ho:o.calm) (hp:p.calm) (a0:0<=a) (a1:a<=4000) (hab:a+18<=b) (b1:b<=5000):o.g a < p.g b:=by
 unfold Osc.calm at ho hp;unfold Osc.g;have t:=(Glo_parts ho a0 (by omega)).2;have t0:=(Glo_is o.A o.R o.n a).lo;generalize Glo o.A o.R o.n a=T at *;have s:=(PP_span ho t0).1;have s':=(PP_span hp t0).2;rw [Tk.PP_zero ho.good] at s;rw [Tk.PP_zero hp.good] at s';exact lt_Glo hp (by omega) (by omega)
theorem Osc.mono (o:Osc) (h:a<=b):o.g a<=o.g b:=Glo_mono h
abbrev Frs:=Nat->Option (Osc×(Nat->Bool))
structure Fit (f:Frs):Prop where
 calm:∀ k o F,f k=some (o,F)->o.calm
 low:∀ k o F,f k=some (o,F)->F 0=false
def LowK (f:Frs) (k:Nat) (u:Int):Prop:=∃ o F,f k=some (o,F)/\∃ i:Nat,i < 11/\F i=false/\o.g (224 * k+16 * i)<=u/\u < o.g (224 * k+16 * i+16)
def LowL (f:Frs) (u:Int):Prop:=∃ k:Nat,1<=k/\k<=16/\LowK f k u
section
variable {f:Frs}
variable {k k' i:Nat} {u:Int} {o r:Osc} {F:Nat->Bool}
theorem lowK_in (e:f k=some (o,F)) (h:LowK f k u):o.g (224 * k)<=u/\u < o.g (224 * k+176):=by
 obtain ⟨o',F',e',i,hi,_,h1,h2⟩:=h;rw [e] at e';injection e' with e';injection e' with e1 _;subst e1;have:=o.mono (show 224 * (k:Int)<=224 * k+16 * i by omega);have:=o.mono (show 224 * (k:Int)+16 * i+16<=224 * k+176 by omega)
 omega
theorem lowK_ex (h:LowK f k u):∃ o F,f k=some (o,F):=by
 obtain ⟨o,F,e,_⟩:=h;exact ⟨o,F,e⟩
theorem other (hf:Fit f) (hr:r.calm) (h1:1<=k) (h2:k<=16) (h3:1<=k') (h4:k'<=16) (hne:k'≠k) (u0:r.g (224 * k - 20)<=u+1) (u1:u < r.g (224 * k+20)):¬ LowK f k' u:=fun h=>by
 obtain ⟨o,F,e⟩:=lowK_ex h;have a:=lowK_in e h;have c:=hf.calm k' o F e
 rcases Nat.lt_or_gt_of_ne hne with q | q
 ·have:=ahead c hr (a:=224 * k'+176) (b:=224 * k - 20) (by omega) (by omega) (by omega) (by omega)
  omega
 ·have:=ahead hr c (a:=224 * k+20) (b:=224 * k') (by omega) (by omega) (by omega) (by omega)
  omega
theorem other' (hf:Fit f) (h2:k<=16) (h4:k'<=16) (hne:k'≠k) (e:f k=some (o,F)) (u0:o.g (224 * k)<=u) (u1:u < o.g (224 * k+176)):¬ LowK f k' u:=fun h=>by
 obtain ⟨o',F',e'⟩:=lowK_ex h;have b:=lowK_in e' h;have c:=hf.calm k o F e;have d:=hf.calm k' o' F' e'
 rcases Nat.lt_or_gt_of_ne hne with q | q
 ·have:=ahead d c (a:=224 * k'+176) (b:=224 * k) (by omega) (by omega) (by omega) (by omega)
  omega
 ·have:=ahead c d (a:=224 * k+176) (b:=224 * k') (by omega) (by omega) (by omega) (by omega)
  omega
theorem bit_low (hf:Fit f) (h1:1<=k) (h2:k<=16) (e:f k=some (o,F)) (hi:i < 11) (u0:o.g (224 * k+16 * i)<=u) (u1:u < o.g (224 * k+16 * i+16)):LowL f u↔F i=false:=by
 constructor
 ·rintro ⟨k',h3,h4,h⟩
  have m0:=o.mono (show 224 * (k:Int)<=224 * k+16 * i by omega);have m1:=o.mono (show 224 * (k:Int)+16 * i+16<=224 * k+176 by omega)
  by_cases q:k'=k
  ·subst q
   obtain ⟨o',F',e',i',hi',hF,a,b⟩:=h;rw [e] at e';injection e' with e';injection e' with e1 e2;subst e1 e2
   rcases Nat.lt_trichotomy i' i with c | c | c
   ·have:=o.mono (show 224 * (k':Int)+16 * i'+16<=224 * k'+16 * i by omega)
    omega
   ·subst c;exact hF
   ·have:=o.mono (show 224 * (k':Int)+16 * i+16<=224 * k'+16 * i' by omega)
    omega
  ·exact absurd h (other' hf h2 h4 q e (by omega) (by omega))
 ·exact fun hF=>⟨k,h1,h2,o,F,e,i,hi,hF,u0,u1⟩
theorem first_low (hf:Fit f) (h1:1<=k) (h2:k<=16) (e:f k=some (o,F)):LowL f (o.g (224 * k)):=by
 have c:=hf.calm k o F e;have q:=Glo_lt c.good (a:=224 * (k:Int)) (b:=224 * k+16) (by omega) (by omega) (by omega);refine (bit_low hf h1 h2 e (i:=0) (by omega) (u:=o.g (224 * k)) ?_ ?_).2 (hf.low k o F e)
 ·simp
 ·show o.g (224 * (k:Int)) < o.g (224 * (k:Int)+16 * ((0:Nat):Int)+16)
  rw [show 224 * (k:Int)+16 * ((0:Nat):Int)+16=224 * k+16 by omega];exact q
end
section
variable {f:Frs} {x l:List S2}
theorem plain_begin (hx:Plain x) {s:S2} (hs:s∈x):Low x s.1/\¬ Low x (s.1 - 1):=by
 refine ⟨⟨s,hs,cP _,hx.1 s hs⟩,?_⟩;rintro ⟨q,hq,a,b⟩;obtain ⟨i,hi,e1⟩:=bK hs;obtain ⟨j,hj,e2⟩:=bK hq;have pw:=cx.1 hx.2
 rcases Nat.lt_trichotomy i j with c | c | c
 ·have:=pw i j hi hj c
  rw [e1,e2] at this;have:=hx.1 s hs
  omega
 ·subst c
  rw [e1] at e2;subst e2
  omega
 ·have:=pw j i hj hi c
  rw [e1,e2] at this
  omega
theorem begin_plain {t:Int} (h:Low x t) (h':¬ Low x (t - 1)):∃ s∈x,s.1=t:=by
 obtain ⟨s,hs,a,b⟩:=h;refine ⟨s,hs,?_⟩
 rcases Wi.ltge s.1 t with c | c
 ·exact absurd ⟨s,hs,by omega,by omega⟩ h'
 ·omega
variable {r o:Osc} {k i:Nat} {F:Nat->Bool}
theorem not_before (hf:Fit f) (hr:r.calm) (h1:1<=k) (h2:k<=16) (e:f k=some (o,F)) {u:Int} (u0:r.g (224 * k - 20)<=u+1) (u1:u < o.g (224 * k)):¬ LowL f u:=by
 rintro ⟨k',h3,h4,h⟩;have c:=hf.calm k o F e
 by_cases q:k'=k
 ·subst q
  have:=(lowK_in e h).1
  omega
 ·have:=ahead c hr (a:=224 * k) (b:=224 * k+20) (by omega) (by omega) (by omega) (by omega)
  exact other hf hr h1 h2 h3 h4 q u0 (by omega) h
theorem fall_some (hf:Fit f) (hx:Plain x) (hl:∀ u,Low x u↔LowL f u) (hr:r.calm) (h1:1<=k) (h2:k<=16) (e:f k=some (o,F)):FallV x (r.g (224 * k - 20)) (r.g (224 * k+20))=(o.g (224 * k),true):=by
 have c:=hf.calm k o F e;have a0:=ahead hr c (a:=224 * k - 20) (b:=224 * k) (by omega) (by omega) (by omega) (by omega);have a1:=ahead c hr (a:=224 * k) (b:=224 * k+20) (by omega) (by omega) (by omega) (by omega);have b0:=(hl _).2 (first_low hf h1 h2 e);have b1:¬ Low x (o.g (224 * k) - 1):=fun h=>not_before hf hr h1 h2 e (by omega) (by omega) ((hl _).1 h);obtain ⟨s,hs,es⟩:=begin_plain b0 b1;obtain ⟨i,hi,e1,e2⟩:=mem_iff.1 hs;have hp:fallP (r.g (224 * k - 20)) (r.g (224 * k+20)) (fr x i,tp x i)=true:=by
  unfold fallP;rw [e1,es];simp only [aG,aZ]
  omega
 have hn:∀ j,j < i->fallP (r.g (224 * k - 20)) (r.g (224 * k+20)) (fr x j,tp x j)=false:=fun j hj=>by
  rcases hq:fallP (r.g (224 * k - 20)) (r.g (224 * k+20)) (fr x j,tp x j) with _ | _
  ·rfl
  ·exfalso
   unfold fallP at hq;simp only [aG,aZ] at hq;have hm:=mem_fr (l:=x) (i:=j) (by omega);have g:=(plain_begin hx hm).1;have lt:fr x j < o.g (224 * k):=by
    have pw:=cx.1 hx.2;have hmi:=mem_fr hi;have q1:=hx.1 _ hm;have:=hx.1 _ hmi;have gj:x[j]? = some (fr x j,tp x j):=by
     have:=ai (show j < x.length by omega);rw [this]
     simp [fr,tp,List.getD_eq_getElem?_getD,List.getElem?_eq_getElem (show j < x.length by omega)]
    have gi:x[i]? = some (fr x i,tp x i):=by
     rw [ai hi]
     simp [fr,tp,List.getD_eq_getElem?_getD,List.getElem?_eq_getElem hi]
    have q:=pw j i (by omega) hi hj;rw [ai (by omega)] at gj;rw [ai hi] at gi;injection gj with gj;injection gi with gi;rw [gj,gi] at q;simp only at q q1
    omega
   exact not_before hf hr h1 h2 e (by omega) lt ((hl _).1 g)
 rw [fall_hit (idx_hit hi hp hn),e1,es]
theorem fall_none (hf:Fit f) (hx:Plain x) (hl:∀ u,Low x u↔LowL f u) (hr:r.calm) (h1:1<=k) (h2:k<=16) (e:f k=none):FallV x (r.g (224 * k - 20)) (r.g (224 * k+20))=(0,false):=by
 refine fall_miss (idx_miss fun j hj=>?_)
 rcases hq:fallP (r.g (224 * k - 20)) (r.g (224 * k+20)) (fr x j,tp x j) with _ | _
 ·rfl
 ·exfalso
  unfold fallP at hq;simp only [aG,aZ] at hq;obtain ⟨k',h3,h4,h⟩:=(hl _).1 (plain_begin hx (mem_fr hj)).1
  by_cases q:k'=k
  ·subst q
   obtain ⟨o,F,e',_⟩:=h;rw [e] at e'
   cases e'
  ·exact other hf hr h1 h2 h3 h4 q (by simp only;omega) (by simp only;omega) h
theorem heard_bus (hf:Fit f) (hl:∀ u,Low l u↔LowL f u) (hr:r.calm) (h1:1<=k) (h2:k<=16) (e:f k=some (o,F)) (hi:i < 11) :
 heard (lowB l) (Glo r.A r.R r.n) (Tk.Loc r.A r.R r.n (o.g (224 * k))) i=F i:=by
 have c:Sa.Calm o.n o.A o.R 10000:=Sa.Calm.up (hf.calm k o F e) (by omega);have d:Sa.Calm r.n r.A r.R 10000:=Sa.Calm.up hr (by omega);have look:∀ j:Int,7<=j->j<=9->lowB l (Glo r.A r.R r.n (Tk.Loc r.A r.R r.n (o.g (224 * k))+16 * i+j)) = !F i:=fun j j0 j1=>by
  obtain ⟨q0,q1⟩:=look_in c d (m:=224 * (k:Int)) (by omega) (by omega) i hi j j0 j1;have b:=bit_low hf h1 h2 e hi (u:=Glo r.A r.R r.n (Tk.Loc r.A r.R r.n (o.g (224 * k))+16 * i+j)) q0 q1
  rcases hF:F i with _ | _
  ·exact lowB_iff.2 ((hl _).2 (b.2 hF))
  ·refine lowB_false.2 fun h=>?_
   have:=b.1 ((hl _).1 h);rw [hF] at this
   cases this
 unfold heard;rw [look 7 (by omega) (by omega),look 8 (by omega) (by omega),look 9 (by omega) (by omega),maj_same]
 simp
end
open Go.RowKit
open Sp (S2 fr tp)
open Wi (Plain PlainOf Low lowB FallV)
open Sa (heard)
open Ck (sN)
open Pa (snX hrB hrV hr sq sq1 tn lowF)
open Ua (frm tb te)
instance:Inhabited Osc:=⟨⟨0,fun _=>0,fun _=>0⟩⟩
def osc (O:List Osc) (i:Int):Osc:=O.getD i.toNat default
def frs (S:Sts) (T:LL) (V:List Bool) (P:List (Int×Int)) (O:List Osc):Frs:=fun k=>if snB S T V k=true then some (osc O (sN k T),frF S T V P k) else none
theorem sq_zero_bit (P:List (Int×Int)) (s:Int) (F:Nat->Bool):sq P s F P.length 0=F 0:=by
 unfold sq;rw [br]
 induction P generalizing F with
 | nil=>rfl
 | cons x r ih =>
   rw [aK,ih];unfold sq1
   split
   ·rfl
   ·rfl
theorem frF_zero (S:Sts) (T:LL) (V:List Bool) (P:List (Int×Int)) (s:Int):frF S T V P s 0=false:=by
 unfold frF
 split
 ·rw [sq_zero_bit];rfl
 ·rfl
section
variable {S:Sts} {T:LL} {V:List Bool} {P:List (Int×Int)} {O:List Osc}
variable {k i:Nat}
theorem frs_yes (h:snB S T V k=true):frs S T V P O k=some (osc O (sN k T),frF S T V P k):=aj h
theorem frs_no (h:snB S T V k=false):frs S T V P O k=none:=ah (by rw [h];exact bO)
theorem snB_is (h:snB S T V k=true):0<=sN k T:=by
 unfold snB at h;simp only [aG,aZ] at h;exact h.1.1
theorem osc_calm (hO:∀ o∈O,o.calm) (hi:i < O.length):(osc O i).calm:=by
 unfold osc;rw [a7,af,ai hi];exact hO _ (bC hi)
theorem frs_fit (ok:tE T=0) (hl:O.length=T.length) (hO:∀ o∈O,o.calm):Fit (frs S T V P O):=by
 refine ⟨fun k o F e=>?_,fun k o F e=>?_⟩
 all_goals
  cases hs:snB S T V k with
  | false=>rw [frs_no hs] at e;cases e
  | true =>
    rw [frs_yes hs] at e;injection e with e;injection e with e1 e2;subst e1 e2
    first
     | exact frF_zero S T V P k
     | (obtain ⟨n,en,hn,_⟩:=sender_is ok (snB_is hs)
        rw [en]
        exact osc_calm hO (by omega))
end
variable {F G:Nat->Bool}
theorem bad_congr (h:∀ i,i < 11->F i=G i):Ua.bad F=Ua.bad G:=by unfold Ua.bad;rw [h 0 (by omega),h 10 (by omega)]
theorem tb_congr (h:∀ i,i < 11->F i=G i):tb F=tb G:=by unfold tb;rw [bad_congr h,Ua.val_congr 8 fun i _ hi=>h i (by omega)]
theorem tp_congr (h:∀ i,i < 11->F i=G i):Ua.tp F=Ua.tp G:=by unfold Ua.tp;rw [bad_congr h,Ua.par_congr 9 fun i _ hi=>h i (by omega)]
theorem te_congr (h:∀ i,i < 11->F i=G i):te F=te G:=by unfold te;rw [bad_congr h]
noncomputable def lisV (x l:List S2) (r:Osc) (f t:Int):Int×Bool×Int :=
 if (FallV x f t).2 then (tb (heard (lowB l) (Tk.Glo r.A r.R r.n) (Tk.Loc r.A r.R r.n (FallV x f t).1)),Ua.tp (heard (lowB l) (Tk.Glo r.A r.R r.n) (Tk.Loc r.A r.R r.n (FallV x f t).1)),te (heard (lowB l) (Tk.Glo r.A r.R r.n) (Tk.Loc r.A r.R r.n (FallV x f t).1))) else (0,false,3)
noncomputable def lisS (x l:List S2) (r:Osc) (s:Int):Int×Bool×Int:=lisV x l r (r.g (224 * s - 20)) (r.g (224 * s+20))
noncomputable def lis (x l:List S2) (r:Osc):Hr:=fun s=>if 1<=s/\s<=16/\(lisS x l r s).2.2=0/\(lisS x l r s).2.1=false then some (lisS x l r s).1 else none
section
variable {S:Sts} {T:LL} {V:List Bool} {P:List (Int×Int)} {O:List Osc} {x l:List S2} {r:Osc}
theorem lis_slot (ok:tE T=0) (hl:O.length=T.length) (hO:∀ o∈O,o.calm) (hx:PlainOf l x) (hL:∀ u,Low l u↔LowL (frs S T V P O) u) (hr':r.calm) {k:Nat} (h1:1<=k) (h2:k<=16) :
 lisS x l r k=if snB S T V k=true then (tb (frF S T V P k),Ua.tp (frF S T V P k),te (frF S T V P k)) else (0,false,3):=by
 have F:=frs_fit (S:=S) (V:=V) (P:=P) ok hl hO;have hX:∀ u,Low x u↔LowL (frs S T V P O) u:=fun u=>(hx.2 u).trans (hL u)
 cases hs:snB S T V k with
 | true =>
   have e:=frs_yes (P:=P) (O:=O) hs;have q:=fall_some F hx.1 hX hr' h1 h2 e;have g:=fun i hi=>heard_bus F hL hr' h1 h2 e (i:=i) hi;unfold lisS lisV;rw [q];simp only [if_true];rw [tb_congr g,tp_congr g,te_congr g]
 | false =>
   have q:=fall_none F hx.1 hX hr' h1 h2 (frs_no (P:=P) (O:=O) hs);unfold lisS lisV;rw [q]
   rfl
theorem lis_is (ok:tE T=0) (hl:O.length=T.length) (hO:∀ o∈O,o.calm) (hx:PlainOf l x) (hL:∀ u,Low l u↔LowL (frs S T V P O) u) (hr':r.calm):lis x l r=hr S T V P:=funext fun s=>by
 unfold lis hr
 by_cases hb:1<=s/\s<=16
 ·obtain ⟨k,rfl⟩:∃ k:Nat,s=k:=⟨s.toNat,by omega⟩
  rw [lis_slot ok hl hO hx hL hr' (k:=k) (by omega) (by omega)]
  cases hs:snB S T V k with
  | false =>
    have hB:hrB S T V P k=false:=by unfold hrB;rw [hs];rfl
    rw [hB]
    simp
  | true =>
    simp only [if_true];have hB:hrB S T V P k=(decide (te (frF S T V P k)=0) && !Ua.tp (frF S T V P k)):=by unfold hrB;rw [hs];rfl
    by_cases q:te (frF S T V P k)=0/\Ua.tp (frF S T V P k)=false
    ·have hT:hrB S T V P k=true:=by rw [hB,an q.1,q.2];rfl
     rw [aj ⟨hb.1,hb.2,q.1,q.2⟩,aj ⟨hb.1,hb.2,hT⟩];unfold hrV;rw [aj hT]
    ·rw [ah fun h=>q ⟨h.2.2.1,h.2.2.2⟩,ah fun h=>by
      have:=h.2.2;rw [hB] at this;simp only [aG,aZ,Bool.not_eq_true'] at this
      exact q this]
 ·rw [ah fun h=>hb ⟨h.1,h.2.1⟩,ah fun h=>hb ⟨h.1,h.2.1⟩]
end
def LowJ (S:Sts) (T:LL) (V:List Bool) (P:List (Int×Int)) (O:List Osc) (j:Int) (u:Int):Prop:=∃ k:Nat,1<=k/\k<=16/\sbN S T V k=j/\LowK (frs S T V P O) k u
section
variable {S:Sts} {T:LL} {V:List Bool} {P:List (Int×Int)} {O:List Osc}
theorem lowL_iff (ok:tE T=0) {u:Int} : LowL (frs S T V P O) u↔∃ j:Nat,j < T.length/\LowJ S T V P O j u:=by
 constructor
 ·rintro ⟨k,h1,h2,h⟩
  obtain ⟨o,F,e⟩:=lowK_ex h;have hs:snB S T V k=true:=by
   rcases q:snB S T V k with _ | _
   ·rw [frs_no q] at e;cases e
   ·rfl
  obtain ⟨n,en,hn,_⟩:=sender_is ok (snB_is hs);exact ⟨n,hn,k,h1,h2,by unfold sbN;rw [aj hs,en],h⟩
 ·rintro ⟨j,_,k,h1,h2,_,h⟩
  exact ⟨k,h1,h2,h⟩
end
end Bu
namespace Tk
open Go.RowKit
def Steps (w:World) (v:Value) (n:Nat) (A R:Nat->Int):Prop :=
 (∃ (a:Option Addr) (cap:Nat),v = .slice a 0 cap/\cap<=maxLen/\n=0) \/
 ∃ (b off cap:Nat),v = .slice (some ⟨b,off,none⟩) n cap/\n<=cap/\cap<=maxLen /\
  ∀ i,i < n->w.cell? ⟨b,off+i * 2,none⟩=some (.int .i64 (A i))/\w.cell? ⟨b,off+i * 2+1,none⟩=some (.int .i64 (R i))
theorem Steps.below {w w':World} {v:Value} {n:Nat} {A R:Nat->Int} (h:Steps w v n A R) (b:Below w.heap.size w w'):Steps w' v n A R:=by
 rcases h with h | ⟨b0,off,cap,e,h1,h2,hc⟩
 ·exact .inl h
 ·refine .inr ⟨b0,off,cap,e,h1,h2,fun i hi=>?_⟩
  obtain ⟨c1,c2⟩:=hc i hi;exact ⟨bCe b c1,bCe b c2⟩
end Tk
namespace Bu
open Go.RowKit
open Sp (S2 fr tp Sp)
open Wi (Plain PlainOf Low low_nil)
open Ck (sN)
open Pa (hput hr rdE rdS rdL)
open Se (lows lows_mem Glo_in)
def OsL (w:World) (v:Value) (O:List Osc):Prop:=∃ a cap,v = .slice a O.length cap/\O.length<=cap/\cap<=maxLen /\
 (0 < O.length->∃ b off,a=some ⟨b,off,none⟩/\∀ i:Nat,i < O.length->∃ u,w.cell? ⟨b,off+i,none⟩=some u/\Tk.Steps w u (osc O i).n (osc O i).A (osc O i).R)
theorem OsL.below {w w':World} {v:Value} {O:List Osc} (h:OsL w v O) (hb:Below w.heap.size w w'):OsL w' v O:=by
 obtain ⟨a,cap,e,h1,h2,h3⟩:=h;refine ⟨a,cap,e,h1,h2,fun hp=>?_⟩;obtain ⟨b,off,ea,hA⟩:=h3 hp;refine ⟨b,off,ea,fun i hi=>?_⟩;obtain ⟨u,c,r⟩:=hA i hi;exact ⟨u,bCe hb c,r.below hb⟩
theorem OsL.slice {w:World} {v:Value} {O:List Osc} (h:OsL w v O):∃ a cap,v = .slice a O.length cap/\O.length<=cap/\cap<=maxLen:=by
 obtain ⟨a,cap,e,h1,h2,_⟩:=h;exact ⟨a,cap,e,h1,h2⟩
variable {w:World} {v:Value} {n m cap k:Nat} {A R:Nat->Int}
theorem steps_form (h:Tk.Steps w v n A R):∃ a cap,v = .slice a n cap/\n<=cap/\cap<=maxLen:=by
 rcases h with ⟨a,cap,rfl,h,rfl⟩ | ⟨b,off,cap,rfl,h0,h,_⟩
 ·exact ⟨a,cap,rfl,aI _,h⟩
 ·exact ⟨_,cap,rfl,h0,h⟩
theorem steps_at {a:Option Addr} (h:Tk.Steps w (.slice a n cap) m A R) (hp:0 < n):m=n/\∃ b off,a=some ⟨b,off,none⟩/\∀ i,i < n->w.cell? ⟨b,off+i * 2,none⟩=some (.int .i64 (A i))/\w.cell? ⟨b,off+i * 2+1,none⟩=some (.int .i64 (R i)):=by
 rcases h with ⟨a',cap',e,h,rfl⟩ | ⟨b,off,cap',e,_,h,hc⟩
 ·injection e with _ e _;omega
 ·injection e with e1 e2 _
  subst e1 e2;exact ⟨rfl,b,off,rfl,hc⟩
variable {O:List Osc}
theorem OsL.one (h:OsL w v O) (hk:k < O.length):∃ b off cap a' cap',v = .slice (some ⟨b,off,none⟩) O.length cap/\w.cell? ⟨b,off+k,none⟩=some (.slice a' (osc O k).n cap')/\((osc O k).n<=cap'/\cap'<=maxLen)/\Tk.Steps w (.slice a' (osc O k).n cap') (osc O k).n (osc O k).A (osc O k).R:=by
 obtain ⟨a,cap,e,h1,h2,h3⟩:=h;obtain ⟨b,off,rfl,hA⟩:=h3 (by omega);obtain ⟨u,c,s⟩:=hA k hk;obtain ⟨a',cap',rfl,h4⟩:=steps_form s;exact ⟨b,off,cap,a',cap',e,c,h4,s⟩
theorem osc_mem (hk:k < O.length):osc O k∈O:=by
 unfold osc;rw [a7,af,ai hk];exact bC hk
noncomputable def calmB (o:Osc):Bool:=@decide o.calm (Classical.propDecidable _)
variable {o:Osc}
theorem calmB_yes (h:o.calm):calmB o=true:=by unfold calmB;exact @decide_eq_true _ (Classical.propDecidable _) h
theorem calmB_no (h:¬ o.calm):calmB o=false:=by unfold calmB;exact @decide_eq_false _ (Classical.propDecidable _) h
theorem of_calmB (h:calmB o=true):o.calm:=by unfold calmB at h;exact @of_decide_eq_true _ (Classical.propDecidable _) h
def calmL (O:List Osc):Prop:=∀ o∈O,o.calm
noncomputable def calmLB (O:List Osc):Bool:=O.all calmB
theorem of_calmLB (h:calmLB O=true):calmL O:=fun o ho=>of_calmB (bQ.1 h o ho)
theorem rdE_zero {S:Sts} {T:LL} {V:List Bool} (hE:rdE S T V=0):1<=S.length/\S.length<=32/\T.length=S.length/\V.length=S.length/\tE T=0:=by
 unfold rdE at hE
 split at hE
 ·rename_i h
  exact ⟨h.1,h.2.1,h.2.2.1,h.2.2.2,hE⟩
 ·omega
noncomputable def buE (S:Sts) (T:LL) (V:List Bool) (O:List Osc):Int:=if rdE S T V=0 then (if O.length=S.length/\calmLB O=true then 0 else 1) else rdE S T V
noncomputable def buL (S:Sts) (T:LL) (V:List Bool) (P:List S2) (O:List Osc):Sts:=if buE S T V O=0 then rdS S T V (hr S T V P) else []
section
variable {S:Sts} {T:LL} {V:List Bool} {P:List S2} {O:List Osc}
theorem buE_wrong (h:rdE S T V≠0):buE S T V O=rdE S T V/\buL S T V P O = []:=by
 have e:buE S T V O=rdE S T V:=ah h;exact ⟨e,ah (by rw [e];exact h)⟩
theorem buE_wild (h:rdE S T V=0) (h':¬ (O.length=S.length/\calmLB O=true)):buE S T V O=1/\buL S T V P O = []:=by
 have e:buE S T V O=1:=by unfold buE;rw [aj h,ah h']
 exact ⟨e,ah (by rw [e];decide)⟩
theorem buE_ok (h:rdE S T V=0) (h1:O.length=S.length) (h2:calmLB O=true):buE S T V O=0/\buL S T V P O=rdS S T V (hr S T V P):=by
 have e:buE S T V O=0:=by unfold buE;rw [aj h,aj ⟨h1,h2⟩]
 exact ⟨e,aj e⟩
end
theorem plain_count:∀ (l:List S2) (a b:Int),a<=b->Plain l->(∀ s∈l,a<=s.1/\s.1 < b)->(l.length:Int)<=b - a
 | [],a,b,h,_,_=>by simp;omega
 | s :: r,a,b,h,hp,hs=>by
   have p:=Wi.plain_cons.1 hp;have q:=hs s aO;have ih:=plain_count r (s.1+1) b (by omega) p.1 fun x hx=>by
    have:=p.2.2 x hx;have:=hs x (aJ _ hx)
    omega
   simp only [cj]
   omega
variable {l:List S2}
theorem plain_few (h:Plain l) (hl:∀ u,Low l u->0<=u/\u<=4294967296):l.length<=4294967297:=by
 have:=plain_count l 0 4294967297 (by omega) h fun s hs=>by
  have:=hl s.1 (plain_begin h hs).1
  omega
 omega
variable {f:Frs}
theorem low_spans {F:Nat->Bool} (e:f k=some (o,F)) (h:PlainOf (lows (Tk.Glo o.A o.R o.n) F (224 * (k:Int)) 11) l) (u:Int):Low l u↔LowK f k u:=by
 rw [h.2 u]
 constructor
 ·rintro ⟨s,hs,a,b⟩
  obtain ⟨i,hi,hF,rfl⟩:=lows_mem.1 hs;exact ⟨o,F,e,i,hi,hF,a,b⟩
 ·rintro ⟨o',F',e',i,hi,hF,a,b⟩
  rw [e] at e';injection e' with e';injection e' with e1 e2;subst e1 e2;exact ⟨_,lows_mem.2 ⟨i,hi,hF,rfl⟩,a,b⟩
theorem lowK_at {u:Int} (h:LowK f k u):0<=u/\u<=4294967296:=by
 obtain ⟨o,F,e⟩:=lowK_ex h;have a:=lowK_in e h;have b:=Glo_in o.A o.R o.n (224 * (k:Int));have c:=Glo_in o.A o.R o.n (224 * (k:Int)+176);unfold Osc.g at a
 omega
def LowUp (S:Sts) (T:LL) (V:List Bool) (P:List S2) (O:List Osc) (j:Int) (k:Nat) (u:Int):Prop:=∃ i:Nat,1<=i/\i < k/\sbN S T V i=j/\LowK (frs S T V P O) i u
section
variable {S:Sts} {T:LL} {V:List Bool} {P:List S2} {O:List Osc} {j:Int} {k:Nat} {u:Int}
theorem lowUp_one:¬ LowUp S T V P O j 1 u:=fun ⟨i,h1,h2,_⟩=>by omega
theorem lowUp_end:LowUp S T V P O j 17 u↔LowJ S T V P O j u:=⟨fun ⟨i,h1,h2,h⟩=>⟨i,h1,by omega,h⟩,fun ⟨i,h1,h2,h⟩=>⟨i,h1,by omega,h⟩⟩
theorem lowUp_yes (h1:1<=k) (e:sbN S T V k=j):LowUp S T V P O j (k+1) u↔LowUp S T V P O j k u\/LowK (frs S T V P O) k u:=by
 constructor
 ·rintro ⟨i,a,b,c,d⟩
  by_cases q:i=k
  ·subst q;exact .inr d
  ·exact .inl ⟨i,a,by omega,c,d⟩
 ·rintro (⟨i,a,b,c,d⟩ | d)
  ·exact ⟨i,a,by omega,c,d⟩
  ·exact ⟨k,h1,by omega,e,d⟩
theorem lowUp_no (h:¬ (snB S T V k=true/\sbN S T V k=j)):LowUp S T V P O j (k+1) u↔LowUp S T V P O j k u:=by
 constructor
 ·rintro ⟨i,a,b,c,d⟩
  by_cases q:i=k
  ·subst q
   obtain ⟨o,F,e⟩:=lowK_ex d
   rcases hs:snB S T V i with _ | _
   ·rw [frs_no hs] at e;cases e
   ·exact absurd ⟨hs,c⟩ h
  ·exact ⟨i,a,by omega,c,d⟩
 ·rintro ⟨i,a,b,c,d⟩
  exact ⟨i,a,by omega,c,d⟩
theorem lowJ_at (h:LowJ S T V P O j u):0<=u/\u<=4294967296:=by obtain ⟨_,_,_,_,h⟩:=h;exact lowK_at h
theorem lowL_at (h:LowL f u):0<=u/\u<=4294967296:=by obtain ⟨_,_,_,h⟩:=h;exact lowK_at h
end
def SendP (S:Sts) (T:LL) (V:List Bool) (P:List S2) (O:List Osc) (j:Int) (l:List S2):Prop:=Plain l/\∀ u,Low l u↔LowJ S T V P O j u
def LineP (S:Sts) (T:LL) (V:List Bool) (P:List S2) (O:List Osc) (l:List S2):Prop:=Plain l/\∀ u,Low l u↔LowL (frs S T V P O) u
variable {S:Sts} {T:LL} {V:List Bool} {P a b:List S2}
theorem LineP.one (ha:LineP S T V P O a) (hb:LineP S T V P O b):a=b:=Wi.plain_one ha.1 hb.1 fun t=>(ha.2 t).trans (hb.2 t).symm
theorem who_sends (ok:tE T=0) (hl:O.length=T.length) (hO:calmL O) (h:snB S T V k=true) :
 ∃ n:Nat,sbN S T V k=n/\n < O.length/\frs S T V P O k=some (osc O n,frF S T V P k)/\(osc O n).calm:=by
 obtain ⟨n,en,hn,_⟩:=sender_is ok (snB_is h);refine ⟨n,by unfold sbN;rw [aj h,en],by omega,by rw [frs_yes h,en],osc_calm hO (by omega)⟩
theorem made_few {Q:Int->Prop} (hp:Plain l) (hl:∀ u,Low l u->Q u) (hq:∀ u,Q u->0<=u/\u<=4294967296):l.length<=4294967297:=plain_few hp fun u h=>hq u (hl u h)
def LowTo (S:Sts) (T:LL) (V:List Bool) (P:List S2) (O:List Osc) (k:Nat) (u:Int):Prop:=∃ j:Nat,j < k/\LowJ S T V P O j u
theorem lowTo_next (k:Nat) (u:Int):LowTo S T V P O (k+1) u↔LowTo S T V P O k u\/LowJ S T V P O k u:=by
 constructor
 ·rintro ⟨j,hj,h⟩
  by_cases e:j=k
  ·subst e;exact .inr h
  ·exact .inl ⟨j,by omega,h⟩
 ·rintro (⟨j,hj,h⟩ | h)
  ·exact ⟨j,by omega,h⟩
  ·exact ⟨k,by omega,h⟩
def lowH (h:Hr) (k:Nat):Hr:=fun n=>if 1<=n/\n < (k:Int) then h n else none
theorem low_one (h:Hr):lowH h 1=fun _=>none:=funext fun n=>by unfold lowH;rw [ah (by omega)]
variable {h:Hr}
theorem low_yes (h1:1<=k) {y:Int} (e:h k=some y):hput (lowH h k) k y=lowH h (k+1):=funext fun n=>by
 unfold hput lowH
 by_cases g:n=k
 ·subst g;rw [aj rfl,aj (by omega),e]
 ·rw [ah g]
  by_cases q:1<=n/\n < (k:Int)
  ·rw [aj q,aj (by omega)]
  ·rw [ah q,ah (by omega)]
theorem low_no (e:h k=none):lowH h k=lowH h (k+1):=funext fun n=>by
 unfold lowH
 by_cases g:n=k
 ·subst g;rw [ah (by omega),e,ite_self]
 ·by_cases q:1<=n/\n < (k:Int)
  ·rw [aj q,aj (by omega)]
  ·rw [ah q,ah (by omega)]
theorem low_end (o:∀ n:Int,(n < 1\/16 < n)->h n=none):lowH h 17=h:=funext fun n=>by
 unfold lowH
 split
 ·rfl
 ·exact (o n (by omega)).symm
section
variable {x l:List S2} {r:Osc}
variable {s:Int}
theorem lis_out (h:s < 1\/16 < s):lis x l r s=none:=ah fun g=>by omega
theorem lis_yes (h1:1<=s) (h2:s<=16) (e:(lisS x l r s).2.2=0) (o:(lisS x l r s).2.1=false):lis x l r s=some (lisS x l r s).1:=aj ⟨h1,h2,e,o⟩
theorem lis_no (e:¬ ((lisS x l r s).2.2=0/\(lisS x l r s).2.1=false)):lis x l r s=none:=ah fun g=>e ⟨g.2.2.1,g.2.2.2⟩
end
open Go.Maps
open Rw (At)
open Pa (Cel cel pat)
section
end
def ofS (s:List S2):Osc:=⟨s.length,fr s,tp s⟩
theorem steps_rd {s:List S2} (h:Rd K2 w v s):Tk.Steps w v (ofS s).n (ofS s).A (ofS s).R:=by
 obtain ⟨a,cap,rfl,h1,h2,h3⟩:=h
 by_cases h0:0 < s.length
 ·obtain ⟨b,off,rfl,hA⟩:=h3 h0
  exact .inr ⟨b,off,cap,rfl,h1.1,h2,fun i hi=>⟨hA i hi 0 _ rfl,hA i hi 1 _ rfl⟩⟩
 ·have e:s.length=0:=by omega
  exact .inl ⟨a,cap,by rw [e],h2,e⟩
theorem osl_of {hs:List Hd} (h:Rd KS w v hs) (hl:hs.length=O.length) (each:∀ i:Nat,i < O.length->Tk.Steps w (sl (hs.getD i zh)) (osc O i).n (osc O i).A (osc O i).R):OsL w v O:=by
 obtain ⟨a,cap,e,h1,h2,h3⟩:=h;rw [hl] at e h1 h3;refine ⟨a,cap,e,h1.1,h2,fun hp=>?_⟩;obtain ⟨b,off,ea,hA⟩:=h3 hp;refine ⟨b,off,ea,fun i hi=>⟨_,?_,each i hi⟩⟩;have c:=hA i (by rw [hl];exact hi) 0 _ rfl;simp only [KS,Nat.mul_one,Nat.add_zero] at c;exact c
end Bu
namespace Cu
open Go.RowKit Go.Maps
open Rw (At)
open Pa (S2)
open Bu (Osc osc OsL ofS steps_rd osl_of calmLB calmB_yes)
structure CI (w:World) (T:LL) (L:List Nd) (k1 k2 k3 k4:Nat) (o1:Value) (l1:List Nat) (o2:Value) (l2:List Hd) (o3:Value) (l3:List Bool) (o4:Value) (l4:List Hd) (wr:World):Prop where
 w1:Ow KN wr w.heap.size 76 o1 l1
 w2:Ow KS wr w.heap.size 175 o2 l2
 w3:Ow KB wr w.heap.size 4 o3 l3
 w4:Ow KS wr w.heap.size 179 o4 l4
 n1:l1.length=k1
 n2:l2.length=k2
 n3:l3.length=k3
 n4:l4.length=k4
 e1:∀ i,i < k1->l1.getD i 0=(nda L i).s
 e2:∀ i,i < k2->Ow K5 wr w.heap.size 244 (sl (l2.getD i zh)) (lat T i)
 e3:∀ i,i < k3->l3.getD i false=(nda L i).live
 e4:∀ i,i < k4->Ow K2 wr w.heap.size 178 (sl (l4.getD i zh)) [(0,(nda L i).rate)]
 bel:Below w.heap.size w wr
section
variable {w wr w':World} {T:LL} {L:List Nd} {k1 k2 k3 k4:Nat} {o1 o2 o3 o4 o':Value} {l1:List Nat} {l2 l4:List Hd} {l3:List Bool}
theorem CI.start (w:World) (T:LL) (L:List Nd):CI w T L 0 0 0 0 (.slice none 0 0) [] (.slice none 0 0) [] (.slice none 0 0) [] (.slice none 0 0) [] w :=
 ⟨Rw.Ow.nil _ _ _,Rw.Ow.nil _ _ _,Rw.Ow.nil _ _ _,Rw.Ow.nil _ _ _,rfl,rfl,rfl,rfl,fun i hi=>by omega,fun i hi=>by omega,fun i hi=>by omega,fun i hi=>by omega,aa _ _⟩
theorem CI.below (h:CI w T L k1 k2 k3 k4 o1 l1 o2 l2 o3 l3 o4 l4 wr) (b:Below wr.heap.size wr w'):CI w T L k1 k2 k3 k4 o1 l1 o2 l2 o3 l3 o4 l4 w' :=
 ⟨h.w1.keep b,h.w2.keep b,h.w3.keep b,h.w4.keep b,h.n1,h.n2,h.n3,h.n4,h.e1,fun i hi=>(h.e2 i hi).keep b,h.e3,fun i hi=>(h.e4 i hi).keep b,h.bel.trans (b.mono h.bel.size)⟩
theorem gd_push {α:Type} {l:List α} {k i:Nat} (x d:α) (hl:l.length=k) (hi:i < k+1):(l ++ [x]).getD i d=if i < k then l.getD i d else x:=by
 rw [af,List.getElem?_append,hl]
 split
 ·rw [af]
 ·obtain rfl:i=k:=by omega
  simp
theorem CI.push1 (h:CI w T L k1 k2 k3 k4 o1 l1 o2 l2 o3 l3 o4 l4 wr) {x:Nat} (own:Ow KN w' w.heap.size 76 o' (l1 ++ [x])) (gr:wr.grownBy w' o1.ownBlock) (hx:x=(nda L k1).s):CI w T L (k1+1) k2 k3 k4 o' (l1 ++ [x]) o2 l2 o3 l3 o4 l4 w':=by
 have o:=only_grown gr;refine ⟨own,ow_only h.w2 (fun k e=>ow_apart h.w2 h.w1 (by decide) k e) o,ow_only h.w3 (fun k e=>ow_apart h.w3 h.w1 (by decide) k e) o,ow_only h.w4 (fun k e=>ow_apart h.w4 h.w1 (by decide) k e) o,by rw [bj,h.n1];rfl,h.n2,h.n3,h.n4,fun i hi=>?_,fun i hi=>ow_only (h.e2 i hi) (fun k e=>ow_apart (h.e2 i hi) h.w1 (by decide) k e) o,h.e3,fun i hi=>ow_only (h.e4 i hi) (fun k e=>ow_apart (h.e4 i hi) h.w1 (by decide) k e) o,h.bel.grown gr h.bel.size fun j e=>(aU h.w1 j e).1⟩;rw [gd_push x 0 h.n1 hi]
 split
 ·rename_i g;exact h.e1 i g
 ·obtain rfl:i=k1:=by omega
  exact hx
variable {x:Hd}
theorem CI.push2 (h:CI w T L k1 k2 k3 k4 o1 l1 o2 l2 o3 l3 o4 l4 wr) (own:Ow KS w' w.heap.size 175 o' (l2 ++ [x])) (gr:wr.grownBy w' o2.ownBlock) (hx:Ow K5 wr w.heap.size 244 (sl x) (lat T k2)):CI w T L k1 (k2+1) k3 k4 o1 l1 o' (l2 ++ [x]) o3 l3 o4 l4 w':=by
 have o:=only_grown gr;refine ⟨ow_only h.w1 (fun k e=>ow_apart h.w1 h.w2 (by decide) k e) o,own,ow_only h.w3 (fun k e=>ow_apart h.w3 h.w2 (by decide) k e) o,ow_only h.w4 (fun k e=>ow_apart h.w4 h.w2 (by decide) k e) o,h.n1,by rw [bj,h.n2];rfl,h.n3,h.n4,h.e1,fun i hi=>?_,h.e3,fun i hi=>ow_only (h.e4 i hi) (fun k e=>ow_apart (h.e4 i hi) h.w2 (by decide) k e) o,h.bel.grown gr h.bel.size fun j e=>(aU h.w2 j e).1⟩;rw [gd_push x zh h.n2 hi]
 split
 ·rename_i g;exact ow_only (h.e2 i g) (fun k e=>ow_apart (h.e2 i g) h.w2 (by decide) k e) o
 ·obtain rfl:i=k2:=by omega
  exact ow_only hx (fun k e=>ow_apart hx h.w2 (by decide) k e) o
theorem CI.push3 (h:CI w T L k1 k2 k3 k4 o1 l1 o2 l2 o3 l3 o4 l4 wr) {x:Bool} (own:Ow KB w' w.heap.size 4 o' (l3 ++ [x])) (gr:wr.grownBy w' o3.ownBlock) (hx:x=(nda L k3).live):CI w T L k1 k2 (k3+1) k4 o1 l1 o2 l2 o' (l3 ++ [x]) o4 l4 w':=by
 have o:=only_grown gr;refine ⟨ow_only h.w1 (fun k e=>ow_apart h.w1 h.w3 (by decide) k e) o,ow_only h.w2 (fun k e=>ow_apart h.w2 h.w3 (by decide) k e) o,own,ow_only h.w4 (fun k e=>ow_apart h.w4 h.w3 (by decide) k e) o,h.n1,h.n2,by rw [bj,h.n3];rfl,h.n4,h.e1,fun i hi=>ow_only (h.e2 i hi) (fun k e=>ow_apart (h.e2 i hi) h.w3 (by decide) k e) o,fun i hi=>?_,fun i hi=>ow_only (h.e4 i hi) (fun k e=>ow_apart (h.e4 i hi) h.w3 (by decide) k e) o,h.bel.grown gr h.bel.size fun j e=>(aU h.w3 j e).1⟩;rw [gd_push x false h.n3 hi]
 split
 ·rename_i g;exact h.e3 i g
 ·obtain rfl:i=k3:=by omega
  exact hx
theorem CI.push4 (h:CI w T L k1 k2 k3 k4 o1 l1 o2 l2 o3 l3 o4 l4 wr) (own:Ow KS w' w.heap.size 179 o' (l4 ++ [x])) (gr:wr.grownBy w' o4.ownBlock) (hx:Ow K2 wr w.heap.size 178 (sl x) [(0,(nda L k4).rate)]):CI w T L k1 k2 k3 (k4+1) o1 l1 o2 l2 o3 l3 o' (l4 ++ [x]) w':=by
 have o:=only_grown gr;refine ⟨ow_only h.w1 (fun k e=>ow_apart h.w1 h.w4 (by decide) k e) o,ow_only h.w2 (fun k e=>ow_apart h.w2 h.w4 (by decide) k e) o,ow_only h.w3 (fun k e=>ow_apart h.w3 h.w4 (by decide) k e) o,own,h.n1,h.n2,h.n3,by rw [bj,h.n4];rfl,h.e1,fun i hi=>ow_only (h.e2 i hi) (fun k e=>ow_apart (h.e2 i hi) h.w4 (by decide) k e) o,h.e3,fun i hi=>?_,h.bel.grown gr h.bel.size fun j e=>(aU h.w4 j e).1⟩;rw [gd_push x zh h.n4 hi]
 split
 ·rename_i g;exact ow_only (h.e4 i g) (fun k e=>ow_apart (h.e4 i g) h.w4 (by decide) k e) o
 ·obtain rfl:i=k4:=by omega
  exact ow_only hx (fun k e=>ow_apart hx h.w4 (by decide) k e) o
end
def rosc (L:List Nd):List Osc:=L.map fun x=>ofS [(0,x.rate)]
variable {L:List Nd}
theorem rosc_at {i:Nat} (hi:i < L.length):osc (rosc L) i=ofS [(0,(nda L i).rate)]:=by
 unfold osc rosc nda;rw [a7,af,a9,ai hi,af,ai hi]
 rfl
theorem rosc_len (L:List Nd):(rosc L).length=L.length:=aL _
theorem calm_one {x:Int} (h : -2000<=x/\x<=2000):(ofS [(0,x)]).calm:=by
 have e0:∀ i,i < 1->(ofS [(0,x)]).A i=0:=fun i hi=>by
  obtain rfl:i=0:=by omega
  rfl
 have e1:∀ i,i < 1->(ofS [(0,x)]).R i=x:=fun i hi=>by
  obtain rfl:i=0:=by omega
  rfl
 refine ⟨⟨(by show 1<=64;decide),fun i hi=>?_,fun i hi=>?_,fun i hi=>?_⟩,by decide,fun i hi=>?_⟩
 ·rw [e0 i hi];decide
 ·rw [e1 i hi];omega
 ·have:i+1 < 1:=hi
  omega
 ·rw [e1 i hi];exact h
theorem rosc_calm (h:∀ i,i < L.length->-2000<=(nda L i).rate/\(nda L i).rate<=2000):calmLB (rosc L)=true:=by
 refine bQ.2 fun o ho=>calmB_yes ?_;obtain ⟨x,hx,rfl⟩:=bE.1 ho;obtain ⟨i,hi,e⟩:=bK hx;have g:=h i hi;have e':nda L i=x:=by
  unfold nda;rw [af,ai hi];exact e
 rw [e'] at g;exact calm_one g
section
variable {s t p:Nat} {F G:Nat->Prop} {c:Cs} {vn vq:Value} {L:List Nd} {Fs:Nat->Nat->Prop} {w wr w1 w2 w':World} {T:LL} {o1 o2 o3 o4:Value} {l1:List Nat} {l2 l4:List Hd} {l3:List Bool}
theorem CI.stl (h:CI w T L c.S.length c.S.length c.S.length c.S.length o1 l1 o2 l2 o3 l3 o4 l4 wr) (H:Cl w s F c t vn L p vq Fs):Stl wr o1 c.S :=
 ⟨l1,h.w1.rd,h.n1,fun i hi=>⟨Fs i,by rw [h.e1 i hi];exact (H.st i (by rw [H.len];exact hi)).below h.bel⟩⟩
variable {n k i cap:Nat}
theorem CI.tab (h:CI w T L n n n n o1 l1 o2 l2 o3 l3 o4 l4 wr) (hT:T.length=n):RdL wr o2 T:=rdl_of h.w2.rd (h.n2.trans hT.symm) fun i hi=>(h.e2 i (by rw [← hT];exact hi)).rd
theorem CI.liv (h:CI w T L c.S.length c.S.length c.S.length c.S.length o1 l1 o2 l2 o3 l3 o4 l4 wr) (H:Cl w s F c t vn L p vq Fs) (hv:c.V.length=c.S.length):Rd KB wr o3 c.V:=by
 have e:l3=c.V:=by
  refine List.ext_getElem (h.n3.trans hv.symm) fun i h1 h2=>?_;have a:=h.e3 i (by rw [← h.n3];exact h1);rw [H.lv i (by rw [H.len,← hv];exact h2)] at a;unfold vat at a;rw [a7,af,ai h1,af,ai h2] at a;exact a
 rw [← e];exact h.w3.rd
theorem CI.osl (h:CI w T L L.length L.length L.length L.length o1 l1 o2 l2 o3 l3 o4 l4 wr):OsL wr o4 (rosc L) :=
 osl_of h.w4.rd (h.n4.trans (rosc_len L).symm) fun i hi=>by
  rw [rosc_len] at hi;rw [rosc_at hi];exact steps_rd (h.e4 i hi).rd
def put1 (L:List Nd) (ps:List Nat) (k:Nat):List Nd:=(List.range L.length).map fun i=>if i < k then { nda L i with s:=ps.getD i 0 } else nda L i
theorem put1_len (L:List Nd) (ps:List Nat) (k:Nat):(put1 L ps k).length=L.length:=by unfold put1;rw [aL,List.length_range]
variable {ps:List Nat}
theorem put1_at (hi:i < L.length):nda (put1 L ps k) i=if i < k then { nda L i with s:=ps.getD i 0 } else nda L i:=by
 unfold put1
 conv=>lhs;unfold nda
 rw [af,a9,List.getElem?_range hi]
 rfl
theorem nda_ext {L':List Nd} (hl:L.length=L'.length) (h:∀ i,i < L.length->nda L i=nda L' i):L=L':=by
 refine List.ext_getElem hl fun i h1 h2=>?_;have:=h i h1
 simpa [nda,List.getD,List.getElem?_eq_getElem h1,List.getElem?_eq_getElem h2] using this
theorem put1_zero (L:List Nd) (ps:List Nat):put1 L ps 0=L:=nda_ext (put1_len L ps 0) fun i hi=>by
 rw [put1_len] at hi;rw [put1_at hi,ah (by omega)]
theorem put1_next (hk:k < L.length):(put1 L ps k).set k { nda L k with s:=ps.getD k 0 } = put1 L ps (k+1):=by
 refine nda_ext (by rw [aT,put1_len,put1_len]) fun i hi=>?_;rw [aT,put1_len] at hi;rw [nda_set (by rw [put1_len];exact hk),put1_at hi,put1_at hi]
 by_cases e:i=k
 ·subst e
  rw [aj rfl,aj (by omega)]
 ·rw [ah e]
  by_cases g:i < k
  ·rw [aj g,aj (by omega)]
  ·rw [ah g,ah (by omega)]
structure PL (w2:World) (g cap:Nat) (n:Nat) (L:List Nd) (ps:List Nat) (k:Nat) (wr:World):Prop where
 own:Ow KD wr 0 78 (.slice (some ⟨g,0,none⟩) n cap) (put1 L ps k)
 only:Only (fun j=>j=g) w2 wr
theorem PL.step {g:Nat} (h:PL w2 g cap n L ps k wr) (hn:L.length=n) (hk:k < n):PL w2 g cap n L ps (k+1) (wr.setCell ⟨g,k * 3,none⟩ (ptr (ps.getD k 0))):=by
 have hl:(put1 L ps k).length=n:=by rw [put1_len];exact hn
 have o:=h.own;rw [← hl] at o
 have e:=Rw.Ow.set o k 0 (by omega) (by decide) (ptr (ps.getD k 0)) { nda L k with s:=ps.getD k 0 } (by
  have q:(put1 L ps k).getD k ndD=nda L k:=by
   have:=put1_at (L:=L) (ps:=ps) (k:=k) (i:=k) (by omega);rw [ah (by omega)] at this;exact this
  show [ptr (ps.getD k 0),.bool (nda L k).live,.int .i64 (nda L k).rate]=(KD.enc ((put1 L ps k).getD k ndD)).set 0 _
  rw [q]
  rfl)
 rw [put1_next (by omega),hl] at e;exact ⟨e,h.only.trans (Only.set (fun j=>j=g) wr (a:=⟨g,k * 3,none⟩) rfl _) fun _ _ q=>q⟩
theorem Cl.carry (h:Cl w s F c t vn L p vq Fs) {g:Nat} (hg:vn = .slice (some ⟨g,0,none⟩) c.S.length cap) {S':Sts} {v:Value} {Gs:Nat->Nat->Prop} (hj:PJ 76 w S' S'.length v ps Gs w2) (hS:S'.length=c.S.length) (hp:PL w2 g cap c.S.length L ps c.S.length w'):Cl w' s (Fx F w w') { c with S:=S' } t vn (put1 L ps c.S.length) p vq Gs/\Only F w w':=by
 subst hg;have b:=hj.bel;have o:=hp.only;have hz:=aX b.size o.size;have gF:=h.fv g (.inl rfl);have gl:=h.low g gF;have h2:=h.below (b.mono (ac _));have hl:=h.len;have oo:Only F w w':=(Only.of_below b).trans o fun k _ e=>by rw [e];exact gF
 refine ⟨⟨(o.block s h2.slt fun e=>h2.vs.1 (by rw [e];rfl)).trans h2.row,hp.own,by rw [put1_len,hl,hS],fun i hi=>?_,fun i hi=>?_,fun i hi=>?_,h2.pr.only o (fun e=>h2.vp.1 (by rw [e];rfl)),ow_only h2.sp (fun k e q=>h2.vv g rfl (by rw [e,q])) o,.inl h.fs,.inl h.fp,fun k q=>.inl (h.fv k q),fun i hi k q=>?_,fun i j hi hj' hij k q=>?_,fun i hi k q=>?_,Fx.low h.low hz⟩,oo⟩
 ·rw [put1_len] at hi
  rw [put1_at hi,aj (by omega)];exact (hj.each i (by omega)).only (fun k q e=>by have:=(hj.lo i (by omega) k q).1;omega) o
 ·rw [put1_len] at hi
  rw [put1_at hi,aj (by omega)];exact h.lv i hi
 ·rw [put1_len] at hi
  rw [put1_at hi,aj (by omega)];exact h.rt i hi
 ·rw [put1_len] at hi
  have a:=(hj.lo i (by omega) k q).1;have c:=(hj.each i (by omega)).low k q;have d:=o.size;exact .inr ⟨a,by omega⟩
 ·rw [put1_len] at hi hj'
  exact hj.dis i j (by omega) (by omega) hij k q
 ·rw [put1_len] at hi
  have a:=(hj.lo i (by omega) k q).1;have c1:=h.slt;have c2:=h.pr.lt;exact ⟨by omega,by omega,fun e=>by have:=h.low k (h.fv k (.inl e));omega,fun e=>by have:=h.low k (h.fv k (.inr e));omega⟩
end
open Fs (Ent Fil)
open Pa (Fls wp_push_at)
attribute [local irreducible] Sd.wpSd wpQuiet Sz.wpSz
def NwF (w wr:World) (k:Nat):Prop:=w.heap.size<=k/\k < wr.heap.size
variable {i:Nat}
theorem sat_push {S:Sts} {x:Abs×Int} (hi:i < S.length+1):sat (S ++ [x]) i=if i < S.length then sat S i else x:=by
 unfold sat;rw [a7];exact gd_push x ([],0) rfl hi
theorem vat_push {V:List Bool} {b:Bool} (hi:i < V.length+1):vat (V ++ [b]) i=if i < V.length then vat V i else b:=by
 unfold vat;rw [a7];exact gd_push b false rfl hi
theorem nda_push {x:Nd} (hi:i < L.length+1):nda (L ++ [x]) i=if i < L.length then nda L i else x:=gd_push x ndD rfl hi
section
variable {s t p m q:Nat} {F G:Nat->Prop} {c:Cs} {vn vq v':Value} {L:List Nd} {Fs:Nat->Nat->Prop} {w w5 w6:World} {A:Abs} {rate:Int}
theorem Cl.push (h:Cl w5 s F c t vn L p vq Fs) (hF:∀ k,F k->w.heap.size<=k/\k < m) (hv:c.V.length=c.S.length) (st:St w5 q G A 0) (hG:∀ k,G k->m<=k) (hm:w.heap.size<=m) (hr : -2000<=rate/\rate<=2000) (ow:Ow KD w6 0 78 v' (L ++ [⟨q,true,rate⟩])) (gr:w5.grownBy w6 vn.ownBlock) (hw:w.heap.size<=w5.heap.size) (hq:v'.ownBlock=vn.ownBlock\/∃ g,v'.ownBlock=some g/\w5.heap.size<=g) :
 Cl (w6.setCell ⟨s,0,none⟩ v') s (NwF w (w6.setCell ⟨s,0,none⟩ v')) { c with S:=c.S ++ [(A,0)],V:=c.V ++ [true] } t v' (L ++ [⟨q,true,rate⟩]) p vq (fun i=>if i < L.length then Fs i else G):=by
 have oq:=only_grown gr;have hl:=h.len;have zz:=gr.size;have hzz:(w6.setCell ⟨s,0,none⟩ v').heap.size=w6.heap.size:=by simp [World.setCell]
 have lv:∀ k,v'.ownBlock=some k->k < w6.heap.size:=fun k e=>(aU ow k e).2;have sne:=h.vs.1;have row1:=(oq.block s h.slt (fun e=>sne e)).trans h.row;have row2:(w6.setCell ⟨s,0,none⟩ v').heap[s]? = some (.cells #[v',ptr p,.int .i64 c.pl,vq] 73 (0,0)):=Rw.heap_setCell_same (j:=0) row1 _;have o3:Only (fun k=>k=s) w6 (w6.setCell ⟨s,0,none⟩ v'):=Only.set (fun k=>k=s) w6 (a:=⟨s,0,none⟩) rfl _;have inN:∀ k,F k->NwF w (w6.setCell ⟨s,0,none⟩ v') k:=fun k g=>⟨(hF k g).1,by rw [hzz];have:=h.low k g;omega⟩;have offG:∀ k,G k->k≠s/\k≠p/\v'.ownBlock≠some k/\vq.ownBlock≠some k/\vn.ownBlock≠some k:=fun k g=>by
  have g0:=hG k g;have gl:=st.low k g;have a1:=(hF s h.fs).2;have a2:=(hF p h.fp).2;have a3:∀ j,vn.ownBlock=some j->j < m:=fun j e=>(hF j (h.fv j (.inl e))).2;have a4:∀ j,vq.ownBlock=some j->j < m:=fun j e=>(hF j (h.fv j (.inr e))).2;refine ⟨by omega,by omega,fun e=>?_,fun e=>by have:=a4 k e;omega,fun e=>by have:=a3 k e;omega⟩
  rcases hq with q | ⟨j,q,hj⟩
  ·have:=a3 k (by rw [← q];exact e);omega
  ·rw [q] at e;injection e with e;omega
 have offF:∀ i,i < L.length->∀ k,Fs i k->k≠s/\k≠p/\v'.ownBlock≠some k/\vq.ownBlock≠some k/\vn.ownBlock≠some k:=fun i hi k g=>by
  have q0:=h.off i hi k g;refine ⟨q0.1,q0.2.1,fun e=>?_,q0.2.2.2,q0.2.2.1⟩
  rcases hq with q | ⟨j,q,hj⟩
  ·exact q0.2.2.1 (by rw [← q];exact e)
  ·rw [q] at e;injection e with e
   have:=h.low k (h.ff i hi k g);omega
 have hlen:(L ++ [(⟨q,true,rate⟩:Nd)]).length=L.length+1:=by simp
 refine ⟨row2,ow_only ow (fun k e q=>ow.apart row1 (by decide) (by rw [e,q])) o3,by rw [hlen];simp;omega,fun i hi=>?_,fun i hi=>?_,fun i hi=>?_,(h.pr.only oq (fun e=>h.vp.1 e)).only o3 (fun e=>h.sp_ne e.symm),ow_only (ow_only h.sp (fun k e q=>h.vv k q e) oq) (fun k e q=>h.vs.2 (by rw [e,q])) o3,inN s h.fs,inN p h.fp,fun k g=>?_,fun i hi k g=>?_,fun i j hi hj hij k g=>?_,fun i hi k g=>?_,fun k g=>g.2⟩
 ·rw [hlen] at hi
  show St _ _ _ (sat (c.S ++ [(A,0)]) i).1 (sat (c.S ++ [(A,0)]) i).2
  rw [nda_push hi,sat_push (by omega)]
  by_cases e:i < L.length
  ·rw [aj e,aj e,aj (by omega)]
   exact ((h.st i e).only (fun k g q=>(offF i e k g).2.2.2.2 q) oq).only (fun k g q=>(offF i e k g).1 q) o3
  ·rw [ah e,ah e,ah (by omega)]
   exact (st.only (fun k g q=>(offG k g).2.2.2.2 q) oq).only (fun k g q=>(offG k g).1 q) o3
 ·rw [hlen] at hi
  show _=vat (c.V ++ [true]) i
  rw [nda_push hi,vat_push (by omega)]
  by_cases e:i < L.length
  ·rw [aj e,aj (by omega)];exact h.lv i e
  ·rw [ah e,ah (by omega)]
 ·rw [hlen] at hi
  rw [nda_push hi]
  by_cases e:i < L.length
  ·rw [aj e];exact h.rt i e
  ·rw [ah e];exact hr
 ·rcases g with g | g
  ·refine ⟨?_,by rw [hzz];exact lv k g⟩
   rcases hq with q | ⟨j,q,hj⟩
   ·exact (hF k (h.fv k (.inl (by rw [← q];exact g)))).1
   ·rw [q] at g;injection g with g;omega
  ·exact inN k (h.fv k (.inr g))
 ·rw [hlen] at hi
  by_cases e:i < L.length
  ·rw [aj e] at g;exact inN k (h.ff i e k g)
  ·rw [ah e] at g
   refine ⟨by have:=hG k g;omega,by rw [hzz];have:=st.low k g;omega⟩
 ·rw [hlen] at hi hj
  have sep:∀ i,i < L.length->∀ k,Fs i k->G k->False:=fun i e k g g'=>by have:=(hF k (h.ff i e k g)).2;have:=hG k g';omega
  by_cases e:i < L.length
  ·rw [aj e] at g
   by_cases e':j < L.length
   ·rw [aj e'];exact h.dis i j e e' hij k g
   ·rw [ah e'];exact fun g'=>sep i e k g g'
  ·rw [ah e] at g
   by_cases e':j < L.length
   ·rw [aj e'];exact fun g'=>sep j e' k g' g
   ·omega
 ·rw [hlen] at hi
  by_cases e:i < L.length
  ·rw [aj e] at g
   have:=offF i e k g;exact ⟨this.1,this.2.1,this.2.2.1,this.2.2.2.1⟩
  ·rw [ah e] at g
   have:=offG k g;exact ⟨this.1,this.2.1,this.2.2.1,this.2.2.2.1⟩
end
def NwCc (w:World) (L:List Pl) (e:Ending) (w':World):Prop:=Below w.heap.size w w'/\((newE L=0/\∃ s F,e = .returned (.tuple #[ptr s,.int .i64 0])/\ClE w' s F (newC L) 0/\∀ j,F j->w.heap.size<=j)\/(newE L≠0/\e = .returned (.tuple #[.pointer none,.int .i64 (newE L)])))
structure NwI (w:World) (L:List Pl) (s p k:Nat) (vn:Value) (LN:List Nd) (Fs:Nat->Nat->Prop) (wr:World):Prop where
 cl:Cl wr s (NwF w wr) (newC (L.take k)) 0 vn LN p (.slice none 0 0) Fs
 bel:Below w.heap.size w wr
 gd:Gds L k
theorem NwI.below {w wr w':World} {L:List Pl} {s p k:Nat} {vn:Value} {LN:List Nd} {Fs:Nat->Nat->Prop} (h:NwI w L s p k vn LN Fs wr) (b:Below wr.heap.size wr w'):NwI w L s p k vn LN Fs w' :=
 ⟨(h.cl.below b).wide (fun _ g=>⟨g.1,aV g.2 b.size⟩) (fun _ g=>g.2),h.bel.trans (b.mono h.bel.size),h.gd⟩
variable {L:List Pl}
theorem newC_more (h:i < L.length):newC (L.take (i+1)) = { newC (L.take i) with S:=(newC (L.take i)).S ++ [((plat L i).1,0)],V:=(newC (L.take i)).V ++ [true] }:=by
 have e:=newC_next h;have q:newC (L.take (i+1))=⟨(newC (L.take (i+1))).S,(newC (L.take (i+1))).V,Wt.new,0,[]⟩:=rfl;rw [q,e.1,e.2]
 rfl
variable {w W w5 w6 w1:World} {s p k q B:Nat}
theorem NwI.step {vn v':Value} {LN:List Nd} {Fs:Nat->Nat->Prop} {G:Nat->Prop} (h:NwI w L s p k vn LN Fs W) (b:Below W.heap.size W w5) (hk:k < L.length) (g:gdP (plat L k)) (st:St w5 q G (plat L k).1 0) (lo:∀ j,G j->W.heap.size<=j)
 (ow:Ow KD w6 0 78 v' (LN ++ [⟨q,true,(plat L k).2⟩])) (gr:w5.grownBy w6 vn.ownBlock) (hq:v'.ownBlock=vn.ownBlock\/∃ g,v'.ownBlock=some g/\w5.heap.size<=g):NwI w L s p (k+1) v' (LN ++ [⟨q,true,(plat L k).2⟩]) (fun i=>if i < LN.length then Fs i else G) (w6.setCell ⟨s,0,none⟩ v'):=by
 have hz:=b.size;have hw:=h.bel.size;have hv:(newC (L.take k)).V.length=(newC (L.take k)).S.length:=by
  show (List.map _ _).length=(List.map _ _).length
  rw [aL,aL]
 have cl5:=h.cl.below b;have z:=cl5.push (w:=w) (m:=W.heap.size) (fun k g=>g) hv st lo hw g.2 ow gr (aX hw hz) hq;refine ⟨?_,?_,gds_next h.gd g⟩
 ·rw [newC_more hk]
  exact z
 ·have b5:=h.bel.trans (b.mono hw)
  have b6:=b5.grown gr (aX hw hz) fun j e=>(h.cl.fv j (.inl e)).1;exact b6.setCell (h.cl.fs).1 _
theorem NwI.start (b:Below w.heap.size w w1) (pr:Wt.Pr w1 p Wt.new 0) (hp:w.heap.size<=p):NwI w L w1.heap.size p 0 (.slice none 0 0) [] (fun _ _=>False) (w1.alloc (.cells #[.slice none 0 0,ptr p,.int .i64 0,.slice none 0 0] 73)):=by
 have b2:=b.alloc b.size (.cells #[.slice none 0 0,ptr p,.int .i64 0,.slice none 0 0] 73);have bn:=(aa w1.heap.size w1).alloc (ac _) (.cells #[.slice none 0 0,ptr p,.int .i64 0,.slice none 0 0] 73);have z:(w1.alloc (.cells #[.slice none 0 0,ptr p,.int .i64 0,.slice none 0 0] 73)).heap.size=w1.heap.size+1:=by simp
 have hb:=b.size;have pl:=pr.lt;have no0:∀ {P:Prop} {i:Nat},i < ([]:List Nd).length->P:=fun h=>absurd h (ci _);refine ⟨⟨am w1 _,Rw.Ow.nil _ _ _,rfl,fun i hi=>no0 hi,fun i hi=>no0 hi,fun i hi=>no0 hi,?_,Rw.Ow.nil _ _ _,⟨hb,by omega⟩,⟨hp,by omega⟩,fun k g=>?_,fun i hi=>no0 hi,fun i j hi=>no0 hi,fun i hi=>no0 hi,fun k g=>g.2⟩,b2,gds_zero L⟩
 ·exact pr.only (G:=fun _=>False) (Only.of_below bn) (fun g=>g)
 ·rcases g with g | g <;> simp [Value.ownBlock] at g
theorem cnew_any {v:Value} {L:List PlD} (H:Pls w v L B):Calls prog 6 #[v] w (NwCc w (pls L)):=by
 have HH:=Hh H;obtain ⟨a,cap,rfl,_,hm,h3⟩:=H.rd;have H3:=Hh h3;have PLN:=Hh (pls_len L);clear h3 H;unfold maxLen at hm
 by_cases hs:L.length < 2\/32 < L.length
 ·have e1:newE (pls L)=1:=new_short (by rw [pls_len];exact hs)
  have E:Hid (∀ w',Below w.heap.size w w'->NwCc w (pls L) (.returned (.tuple #[.pointer none,.int .i64 1])) w'):=Hh (fun w' b=>⟨b,.inr ⟨by rw [e1];decide,by rw [e1]⟩⟩);clear HH H3 e1 PLN;generalize pls L=LL at *;generalize L.length=n at *
  by_cases h1:n < 2
  ·have p1:decide ((n:Int) < 2)=true:=an (by omega)
   clear hs
   go_enter func6,ntmps6
   go_wp2
   go_ret2
   exact E _ (aa _ _)
  ·have p1:decide ((n:Int) < 2)=false:=ak (by omega)
   have p2:decide (32 < (n:Int))=true:=an (by omega);clear hs
   go_enter func6,ntmps6
   go_wp2
   go_ret2
   exact E _ (aa _ _)
 ·have hs':¬ ((pls L).length < 2\/32 < (pls L).length):=by rw [pls_len];exact hs
  have BAD:Hid (∀ k,k < L.length->¬ gdP (plat (pls L) k)->∀ w',Below w.heap.size w w'->NwCc w (pls L) (.returned (.tuple #[.pointer none,.int .i64 2])) w'):=Hh (fun k hk g w' b=>by
   have e:=new_bad hs' (by rw [pls_len];exact hk) g
   exact ⟨b,.inr ⟨by rw [e];decide,by rw [e]⟩⟩)
  have END:Hid (∀ (s p:Nat) (vn:Value) (LN:List Nd) (Fs:Nat->Nat->Prop) (wr w':World),NwI w (pls L) s p L.length vn LN Fs wr->Below wr.heap.size wr w' ->
   (agB (sat (newC (pls L)).S 0).1 (sat (newC (pls L)).S 1).1=true->NwCc w (pls L) (.returned (.tuple #[.pointer (some ⟨s,0,none⟩),.int .i64 0])) w')/\(agB (sat (newC (pls L)).S 0).1 (sat (newC (pls L)).S 1).1=false->NwCc w (pls L) (.returned (.tuple #[.pointer none,.int .i64 10])) w')):=Hh (fun s p vn LN Fs wr w' I b=>by
   have h2:2<=(pls L).length:=by omega
   have ga:=gds_all (L:=pls L) (by rw [pls_len];exact I.gd);obtain ⟨n0,n1⟩:=new_end hs' ga;have ag:=ag_agree (pls L) h2;have bb:=I.bel.trans (b.mono I.bel.size);refine ⟨fun h=>⟨bb,.inl ⟨n0 (ag.1 h),s,NwF w wr,rfl,⟨vn,LN,p,.slice none 0 0,Fs,?_⟩,fun j g=>g.1⟩⟩,fun h=>?_⟩
   ·have c:=I.cl.below b
    have e:(pls L).take L.length=pls L:=by rw [← pls_len L];exact br
    rw [e] at c;exact c
   ·have e:=n1 (fun g=>by rw [ag.2 g] at h;cases h)
    exact ⟨bb,.inr ⟨by rw [e];decide,by rw [e]⟩⟩)
  have NEW:=Hh (Wt.new_any w);have LB:Hid (2<=L.length/\L.length<=32):=Hh (by omega);have p1:decide ((L.length:Int) < 2)=false:=ak (by omega);have p2:decide (32 < (L.length:Int))=false:=ak (by omega);clear hs hs';unfold Wt.CnewPost at NEW;generalize hn:L.length=n at *;have HN:=Hh hn;clear hn
  go_enter func6,ntmps6
  go_wp2_with fail;refine NEW.mono ?_;rintro e w1 ⟨p,rfl,pr,hp,b1⟩;have I0:=Hh (NwI.start (L:=pls L) b1 pr hp);clear NEW pr hp b1 p1 p2;unfold ptr at I0;go_upto_region 4 with fail;generalize (w1.alloc (.cells #[.slice none 0 0,.pointer (some ⟨p,0,none⟩),.int .i64 0,.slice none 0 0] 73))=wa at *;generalize w1.heap.size=s at *;go_wp2
  go_loopw [22] (fun i wr=>∃ (k:Nat) (vn:Value) (LN:List Nd) (Fs:Nat->Nat->Prop),k<=n/\i = .int .i64 k/\Hid (NwI w (pls L) s p k vn LN Fs wr)) (fun i _=>n - (intOf i).toNat)
  case atStart=>exact ⟨0,_,_,_,aI _,rfl,I0⟩
  case round =>
   clear I0;obtain ⟨k,vn,LN,Fs,hk,rfl,I⟩:=hrel
   by_cases hlt:k < n
   ·have hkL:k < L.length:=by have:=HN.out;omega
    obtain ⟨b,off,rfl,hA⟩:=H3 (by omega);obtain ⟨x0,x1⟩:=at_pl (hA.below I.bel) hkL;have HAA:=Hh hA;have PF:=Hh ((HH.file k hkL).below I.bel);have AT:=Hh (pls_at hkL);have KL:Hid (k < (pls L).length):=Hh (by rw [pls_len];exact hkL);have BADk:=Hh (fun g=>BAD k hlt g);clear hA hkL;generalize pld L k=c at *;obtain ⟨cf,cr,cF⟩:=c;unfold sl at *;simp only at x0 x1 PF;obtain ⟨fa,fl,fc,hfa⟩:∃ a b c,Hid (a=cf.1/\b=cf.2.1/\c=cf.2.2):=⟨_,_,_,rfl,rfl,rfl⟩;rw [← hfa.out.1,← hfa.out.2.1,← hfa.out.2.2] at x0 PF;have Y0:=Hh (am wr (.cells #[.slice fa fl fc,.int .i64 cr] 75));have BN:=Hh ((aa wr.heap.size wr).alloc (ac _) (.cells #[.slice fa fl fc,.int .i64 cr] 75));go_upto_region 7 with fail;clear x0 x1;generalize wr.alloc (.cells #[.slice fa fl fc,.int .i64 cr] 75)=W at *;have I2:=Hh (I.below BN);have C:=Hh (cplanned_any ⟨cf,cr,cF⟩ (w:=W) (B:=B) (by unfold sl;rw [← hfa.out.1,← hfa.out.2.1,← hfa.out.2.2];exact PF.out.below BN.out));unfold PlC sl at C;rw [← hfa.out.1,← hfa.out.2.1,← hfa.out.2.2] at C;obtain ⟨y0,y1⟩:=rc2 Y0;clear PF BN I Y0;generalize wr.heap.size=gx at *;rw [← AT.out] at C;go_wp2_with fail;refine C.mono ?_;rintro e w5 ⟨b5,hc⟩;have B5:=Hh b5;clear C b5 y0 y1
    rcases hc with ⟨g,q,G,rfl,st,lo⟩ | ⟨ng,rfl⟩
    ·have CR:Hid ((plat (pls L) k).2=cr):=Hh (by rw [AT.out];rfl)
     rw [CR.out];have GG:=Hh g;have LO:=Hh lo;have N0:=Hh (am w5 (.cells #[.pointer (some ⟨q,0,none⟩),.bool true,.int .i64 cr] 78));have BA:=Hh ((aa w5.heap.size w5).alloc (ac _) (.cells #[.pointer (some ⟨q,0,none⟩),.bool true,.int .i64 cr] 78));have ST:=Hh (st.below BA);have B6:=bTr B5 BA;have GN:=Hh B5.size;obtain ⟨av,cv,ev,-,-⟩:=I2.cl.slice;subst ev;have K0:=Hh ((I2.cl.below B6).cells.1);have NQ:Hid (∀ j,(Value.slice av (newC ((pls L).take k)).S.length cv).ownBlock=some j->j≠w5.heap.size/\j≠s):=Hh (fun j e=>⟨by have:=(I2.out.cl.fv j (.inl e)).2;have:=GN.out;omega,fun x=>I2.out.cl.vs.1 (by rw [e,x])⟩)
     have LL:Hid (LN.length<=32):=Hh (by
      have:=I2.cl.len;have q:(newC ((pls L).take k)).S.length=((pls L).take k).length:=aL _;rw [q,aW] at this;have:=LB.out
      omega)
     unfold ptr at *;go_upto_region 10 with fail;clear g lo st BA;generalize (w5.alloc (.cells #[.pointer (some ⟨q,0,none⟩),.bool true,.int .i64 cr] 78))=W6 at *;generalize w5.heap.size=gn at *;generalize hsl:(newC ((pls L).take k)).S.length=nl at *;clear hsl;have BD:=Hh (aa W6.heap.size W6).drew;have OD:Hid (Only (fun j=>(Value.slice av nl cv).ownBlock=some j) W6 W6.drew):=Hh (Only.of_below BD);have s0:=Sc.cell_in (C:=fun W'=>Only (fun j=>(Value.slice av nl cv).ownBlock=some j) W6 W') (a:=⟨s,0,none⟩) (fun W' oo=>oo.cell K0 (fun e=>(NQ _ e).2 rfl));have x0:=Sc.cell_in (C:=fun W'=>Only (fun j=>(Value.slice av nl cv).ownBlock=some j) W6 W') (a:=⟨gn,0,none⟩) (fun W' oo=>oo.cell (row_cell N0 0) (fun e=>(NQ _ e).1 rfl));have x1:=Sc.cell_in (C:=fun W'=>Only (fun j=>(Value.slice av nl cv).ownBlock=some j) W6 W') (a:=⟨gn,1,none⟩) (fun W' oo=>oo.cell (row_cell N0 1) (fun e=>(NQ _ e).1 rfl));have x2:=Sc.cell_in (C:=fun W'=>Only (fun j=>(Value.slice av nl cv).ownBlock=some j) W6 W') (a:=⟨gn,2,none⟩) (fun W' oo=>oo.cell (row_cell N0 2) (fun e=>(NQ _ e).1 rfl));have ne:Nonempty (Sc.In (fun W'=>Only (fun j=>(Value.slice av nl cv).ownBlock=some j) W6 W')):=⟨⟨_,OD⟩⟩;refine Sz.start (fun W'=>Only (fun j=>(Value.slice av nl cv).ownBlock=some j) W6 W') [(false,0),(false,1),(false,2),(false,3),(false,4),(false,5),(true,6),(true,7),(false,8),(false,9)] 10 (by kernel_rfl) (by kernel_rfl) (by kernel_rfl) rfl rfl OD ?_;dsimp only [Sd.picks,List.getElem?_cons_succ,List.getElem?_cons_zero]
     repeat (refine Sz.lit ?_;quiet_step (fail);refine az ?_)
     clear s0 x0 x1 x2;have B7:=Hh (B6.trans (BD.mono (B6.size)));have ST7:=Hh (ST.below BD);generalize W6.drew=w7 at *;refine Sz.call (by rfl) (fun K hK=>?_);go_simp;have B8:=Hh (Below.alloc (aa w7.heap.size w7) (ac _) (.cells #[.pointer (some ⟨q,0,none⟩),.bool true,.int .i64 cr] 78));have Y8:=Hh (am w7 (.cells #[.pointer (some ⟨q,0,none⟩),.bool true,.int .i64 cr] 78));have BW:=bTr B7 B8;have ST8:=Hh (ST7.below B8);have O8:=Hh (OD.trans (Only.of_below (G:=fun j=>(Value.slice av nl cv).ownBlock=some j) B8) fun _ _ g=>g);refine hK _ _ (Sc.Cl.of O8) ?_;clear hK K B7 B8 ST7;generalize (w7.alloc (.cells #[.pointer (some ⟨q,0,none⟩),.bool true,.int .i64 cr] 78))=w8 at *;generalize w7.heap.size=g7 at *;have CL8:=Hh (I2.cl.below BW);refine Sz.call (by rfl) (fun K hK=>?_);refine wp_push_at (K:=KD) underlying70 infoD rfl (by omega) _ _ rfl 0 _ _ rfl CL8.out.no ⟨g7,0,none⟩ (⟨q,true,cr⟩:Nd) rfl ?a1 ?a2 (aI _) ?_
     case a1 =>
      intro j u hu
      have c:=row_cell Y8 j
      match j,hu with
      | 0,hu=>simp [KD,ptr] at hu;subst hu;exact c
      | 1,hu=>simp [KD] at hu;subst hu;exact c
      | 2,hu=>simp [KD] at hu;subst hu;exact c
      | j+3,hu=>simp [KD] at hu
     case a2=>have:=LL.out;omega
     intro v9 w9 o9 g9 h9
     have NEW:Hid (NwI w (pls L) s p (k+1) v9 (LN ++ [⟨q,true,cr⟩]) (fun i=>if i < LN.length then Fs i else G) (w9.setCell ⟨s,0,none⟩ v9)):=Hh (by
      have z:=I2.step BW KL GG ST8 LO (by rw [CR.out];exact o9) g9 h9;rw [CR.out] at z
      exact z)
     have O9:=O8.trans (only_grown g9) fun _ _ g=>g;have c6:=O9.cell K0 (fun e=>(NQ _ e).2 rfl);have e6:=row_frozen (((only_grown g9).block s CL8.slt (fun e=>(NQ _ e).2 rfl)).trans CL8.row) 0;obtain ⟨v9a,v9c,n9,rfl⟩:∃ a c n,v9 = .slice a n c:=by obtain ⟨a,c,e,_⟩:=o9.slice;exact ⟨a,c,_,e⟩
     refine hK _ _ (Sc.Cl.of O9) ?_;clear hK K o9 g9 h9 O9 Y8 O8 BW ST8 CL8 I2 B5 B6 ST
     repeat (refine Sz.lit ?_;quiet_step (fail);refine az ?_)
     refine Sz.done ?_;go_simp;clear c6 e6;generalize (w9.setCell ⟨s,0,none⟩ (.slice v9a n9 v9c))=wz at *;refine NoPanic.normal ?_;have n32:=LB.out.2;go_wp2
     go_roundw
     case rel=>exact ⟨k+1,_,_,_,by omega,by go_num,NEW⟩
     case measure=>simp [intOf];omega
    ·have E:=Hh (fun w' (b:Below w5.heap.size w5 w')=>BADk ng w' ((I2.bel.trans (B5.mono I2.bel.size)).trans (b.mono (aX I2.bel.size B5.size))))
     have E2:=Hh (E _ ((aa w5.heap.size w5).alloc (ac _) (.cells #[.pointer none,.bool false,.int .i64 0] 78)));clear E ng I2 BADk BAD END;go_wp2
     go_ret2
     exact E2
   ·obtain rfl:k=n:=by omega
    have LC:Hid ((newC ((pls L).take k)).S.length=k):=Hh (by
     show (List.map _ _).length=k
     rw [aL,aW,pls_len,HN.out,Nat.min_self])
    have AG:=Hh (cagreed_any I.cl (by rw [LC.out];exact LB.out.1));have EE:=Hh (END s p vn LN Fs wr);have TK:Hid ((pls L).take k=pls L):=Hh (by rw [← HN.out,← pls_len L];exact br);rw [TK.out] at AG;clear BAD END;generalize agB (sat (newC (pls L)).S 0).1 (sat (newC (pls L)).S 1).1=ag at *;unfold ptr at AG;go_wp2_with fail;refine AG.mono ?_;rintro e w2 ⟨rfl,b2⟩;have E2:=Hh (EE w2 I b2);clear AG EE I b2
    cases ag with
    | true =>
      have E:=Hh (E2.out.1 rfl);clear E2;go_wp2
      go_ret2
      exact E
    | false =>
      have E:=Hh (E2.out.2 rfl);clear E2;go_wp2
      go_ret2
      exact E
end Cu
namespace Cu
open Go.RowKit Go.Maps
open Rw (At)
open Fl (okR)
open Pa (S2)
attribute [local irreducible] Sd.wpSd wpQuiet
section
variable {s t p:Nat} {F G:Nat->Prop} {c:Cs} {vn vq:Value} {L:List Nd} {Fs:Nat->Nat->Prop} {w w1 w':World}
variable {x:Ac}
theorem act_no (h1:x.k≠1) (h3:x.k≠3) (h:x.k < 2\/6 < x.k\/no c x.n):actE x c=1/\actC x c=c:=by
 have he:actE x c=1:=by
  unfold actE;rw [ah h1,ah h3,aj h]
 refine ⟨he,?_⟩;unfold actC;rw [ah h1,aj (by rw [he];decide)]
theorem cdo_none (h:Cl w s F c t vn L p vq Fs) (x:Ac) (h1:x.k≠1) (h3:x.k≠3) (hn:no c x.n):Calls prog 10 #[ptr s,actV x] w (DoC w s F (actC x c) (t+1) (actE x c)):=by
 obtain ⟨e1,e2⟩:=act_no h1 h3 (.inr (.inr hn));rw [e1,e2];have B0:=Hh ((aa w.heap.size w).alloc (ac _) (.cells (actA x) 38));have C1:=Hh (chas_out (h.below B0) hn);have E:=Hh (fun w' b=>(doc_below h (w':=w') b 1).late);clear h hn e1 e2;unfold actV actA at *;unfold ptr at *;obtain ⟨k,n,f,rr,v,s',m,tt⟩:=x;simp only at h1 h3 B0 C1 E ⊢;have q1:=aY.2 h1;have q3:=aY.2 h3
 go_enter func10,ntmps10
 go_wp2_with fail;refine C1.mono ?_;rintro e w1 ⟨rfl,b1⟩;have F:=Hh (E w1 (bTr B0 b1));clear E C1 b1;go_wp2
 go_ret
 exact F
theorem cdo_kind (h:Cl w s F c t vn L p vq Fs) (x:Ac) (h1:x.k≠1) (h3:x.k≠3) (hk:x.k < 2\/6 < x.k) (hn:¬ no c x.n):Calls prog 10 #[ptr s,actV x] w (DoC w s F (actC x c) (t+1) (actE x c)):=by
 obtain ⟨e1,e2⟩:=act_no h1 h3 (show x.k < 2\/6 < x.k\/no c x.n by rcases hk with g | g;exact .inl g;exact .inr (.inl g));rw [e1,e2];have B0:=Hh ((aa w.heap.size w).alloc (ac _) (.cells (actA x) 38));have hn':0<=x.n/\x.n < c.S.length:=by unfold no at hn;omega
 have C1:=Hh (chas_in (h.below B0) (n:=x.n.toNat) (by omega));rw [bW hn'.1] at C1;have E:=Hh (fun w' b=>(doc_below h (w':=w') b 1).late);have X0:=Hh (am w (.cells (actA x) 38));clear h hn e1 e2 hn';unfold actV actA at *;unfold ptr at *;obtain ⟨k,n,f,rr,v,s',m,tt⟩:=x;simp only at h1 h3 hk B0 C1 E X0 ⊢;have q1:=aY.2 h1;have q2:=aY.2 (by omega);have q3:=aY.2 h3;have q4:=aY.2 (by omega);have q5:=aY.2 (by omega);have q6:=aY.2 (by omega);have r2:¬ k=2:=by omega
 have r4:¬ k=4:=by omega
 have r5:¬ k=5:=by omega
 have r6:¬ k=6:=by omega
 clear hk
 go_enter func10,ntmps10
 go_wp2_with fail;refine C1.mono ?_;rintro e w1 ⟨rfl,b1⟩;have y0:=(b1.cell (ay X0.out)).trans (row_cell X0.out 0);have F:=Hh (E w1 (bTr B0 b1));clear E C1 b1 X0 B0;go_wp2
 go_ret
 exact F
theorem act_crash (hk:x.k=4) (hn:¬ no c x.n):(vat c.V x.n=true->actE x c=0/\actC x c = { c with V:=c.V.set x.n.toNat false,P:=Wt.crA c.P x.n })/\(vat c.V x.n=false->actE x c=10/\actC x c=c):=by
 have he:actE x c=if vat c.V x.n=true then 0 else 10:=by
  unfold actE;rw [ah (by omega),ah (by omega),ah (by rintro (g | g | g);omega;omega;exact hn g),ah (by omega),aj hk]
 refine ⟨fun hv=>?_,fun hv=>?_⟩
 ·rw [hv] at he
  refine ⟨he,?_⟩;unfold actC;rw [ah (by omega),ah (by rw [he];simp),ah (by omega),ah (by omega),aj hk]
 ·rw [hv] at he
  refine ⟨he,?_⟩;unfold actC;rw [ah (by omega),aj (by rw [he];decide)]
theorem cdo_crash (h:Cl w s F c t vn L p vq Fs) (ok:OkC c t) (sy:Syn c) (x:Ac) (hk:x.k=4) (hn:¬ no c x.n):Calls prog 10 #[ptr s,actV x] w (DoC w s F (actC x c) (t+1) (actE x c)):=by
 have B0:=Hh ((aa w.heap.size w).alloc (ac _) (.cells (actA x) 38));have hn':0<=x.n/\x.n < c.S.length:=by unfold no at hn;omega
 have hnn:=bW hn'.1;have C1:=Hh (chas_in (h.below B0) (n:=x.n.toNat) (by omega));rw [hnn] at C1
 have C2:Hid (∀ w1,Below (w.alloc (.cells (actA x) 38)).heap.size (w.alloc (.cells (actA x) 38)) w1->Calls prog 34 #[ptr s,.int .i64 x.n] w1 (DoC w1 s F (actC x c) t (actE x c))):=Hh (fun w1 b1=>by
  obtain ⟨a1,a2⟩:=act_crash hk hn
  cases hv:vat c.V x.n with
  | true =>
    have q:=ccrash_any ((h.below B0).below b1) ok sy (n:=x.n.toNat) (by omega) (by rw [hnn];exact hv);rw [hnn] at q;rw [(a1 hv).1,(a1 hv).2];exact q
  | false =>
    have q:=ccrash_no ((h.below B0).below b1) (n:=x.n.toNat) (by omega) (by rw [hnn];exact hv);rw [hnn] at q;rw [(a2 hv).1,(a2 hv).2]
    exact q)
 have E:=Hh (fun w1 (b:Below w.heap.size w w1) e w' (d:DoC w1 s F (actC x c) t (actE x c) e w')=>(d.pre b h.low).late);have X0:=Hh (am w (.cells (actA x) 38));clear h hn ok sy hn' hnn;generalize actC x c=c' at *;generalize actE x c=ae at *;unfold actV actA at *;unfold ptr at *;obtain ⟨k,n,f,rr,v,s',m,tt⟩:=x;simp only at hk B0 C1 C2 E X0 ⊢;subst hk
 go_enter func10,ntmps10
 go_wp2_with fail;refine C1.mono ?_;rintro e w1 ⟨rfl,b1⟩;have y0:=(b1.cell (ay X0.out)).trans (row_cell X0.out 0);have y1:=(b1.cell (ay X0.out)).trans (row_cell X0.out 1);have D:=Hh (C2 w1 b1);have B1:=bTr B0 b1;clear C1 C2 b1 X0 B0;go_wp2_with fail;refine D.mono ?_;rintro e w2 d;have G:=Hh (E w1 B1 e w2 d);obtain ⟨rfl,_,_⟩:=d;clear E D y0 y1;go_wp2
 go_ret
 exact G
theorem act_restart (hk:x.k=5) (hn:¬ no c x.n):(vat c.V x.n=false->actE x c=0/\actC x c = { c with V:=c.V.set x.n.toNat true,P:=Wt.rsA c.P x.n })/\(vat c.V x.n=true->actE x c=10/\actC x c=c):=by
 have he:actE x c=if vat c.V x.n=true then 10 else 0:=by
  unfold actE;rw [ah (by omega),ah (by omega),ah (by rintro (g | g | g);omega;omega;exact hn g),ah (by omega),ah (by omega),aj hk]
 refine ⟨fun hv=>?_,fun hv=>?_⟩
 ·rw [hv] at he
  refine ⟨he,?_⟩;unfold actC;rw [ah (by omega),ah (by rw [he];simp),ah (by omega),ah (by omega),ah (by omega),aj hk]
 ·rw [hv] at he
  refine ⟨he,?_⟩;unfold actC;rw [ah (by omega),aj (by rw [he];decide)]
theorem cdo_restart (h:Cl w s F c t vn L p vq Fs) (ok:OkC c t) (sy:Syn c) (x:Ac) (hk:x.k=5) (hn:¬ no c x.n):Calls prog 10 #[ptr s,actV x] w (DoC w s F (actC x c) (t+1) (actE x c)):=by
 have B0:=Hh ((aa w.heap.size w).alloc (ac _) (.cells (actA x) 38));have hn':0<=x.n/\x.n < c.S.length:=by unfold no at hn;omega
 have hnn:=bW hn'.1;have C1:=Hh (chas_in (h.below B0) (n:=x.n.toNat) (by omega));rw [hnn] at C1
 have C2:Hid (∀ w1,Below (w.alloc (.cells (actA x) 38)).heap.size (w.alloc (.cells (actA x) 38)) w1->Calls prog 35 #[ptr s,.int .i64 x.n] w1 (DoC w1 s F (actC x c) t (actE x c))):=Hh (fun w1 b1=>by
  obtain ⟨a1,a2⟩:=act_restart hk hn
  cases hv:vat c.V x.n with
  | false =>
    have q:=crestart_any ((h.below B0).below b1) ok sy (n:=x.n.toNat) (by omega) (by rw [hnn];exact hv);rw [hnn] at q;rw [(a1 hv).1,(a1 hv).2];exact q
  | true =>
    have q:=crestart_no ((h.below B0).below b1) (n:=x.n.toNat) (by omega) (by rw [hnn];exact hv);rw [hnn] at q;rw [(a2 hv).1,(a2 hv).2]
    exact q)
 have E:=Hh (fun w1 (b:Below w.heap.size w w1) e w' (d:DoC w1 s F (actC x c) t (actE x c) e w')=>(d.pre b h.low).late);have X0:=Hh (am w (.cells (actA x) 38));clear h hn ok sy hn' hnn;generalize actC x c=c' at *;generalize actE x c=ae at *;unfold actV actA at *;unfold ptr at *;obtain ⟨k,n,f,rr,v,s',m,tt⟩:=x;simp only at hk B0 C1 C2 E X0 ⊢;subst hk
 go_enter func10,ntmps10
 go_wp2_with fail;refine C1.mono ?_;rintro e w1 ⟨rfl,b1⟩;have y0:=(b1.cell (ay X0.out)).trans (row_cell X0.out 0);have y1:=(b1.cell (ay X0.out)).trans (row_cell X0.out 1);have D:=Hh (C2 w1 b1);have B1:=bTr B0 b1;clear C1 C2 b1 X0 B0;go_wp2_with fail;refine D.mono ?_;rintro e w2 d;have G:=Hh (E w1 B1 e w2 d);obtain ⟨rfl,_,_⟩:=d;clear E D y0 y1;go_wp2
 go_ret
 exact G
end
end Cu
