import Derived.Test.YtdbdacceecnpmaaGreatDoorQa7
import Derived.Shelf.SlicesE.Kit
set_option maxRecDepth 100000
set_option maxHeartbeats 4000000
namespace Go.Proofs.YtdbdacceecnpmaaGreatDoor
open Go.Proofs.Tryz
open Ck (Hd Jf KS LL dH lM sE sl tE zh)
open Fl (K4 R4 ah aj dG)
open Fs (Fx Only St aB aT eO)
open Pa (Hr K2 KB KN aX aY bW bX gD jQ oh ptr rU sat zZ)
open Ro (E5 K5)
open Rw (Kind Ow Rd)
namespace Cu
open Go.RowKit
open Rw (At)
open Fl (ak)
open Pa (S2)
open Re (KI fA pM qm GU sN sL gQ bE)
attribute [local irreducible] Sd.aV wpQuiet
theorem Hz (w:World) (v v':Value) (l l':List Int) (R:Rd KI w v l) (R':Rd KI w v' l'):Calls prog 55 #[v,v'] w fun e w'=>e = .returned (.bool (decide (l=l')))/\Below w.heap.size w w':=by
 have HNO:Hid (¬ l=l'->false=decide (l=l')):=Hh (fun h=>(aq h).symm);have HYES:Hid (l=l'->true=decide (l=l')):=Hh (fun b=>(az b).symm);have HL:Hid (l.length=l'.length->(∀ i,i < l.length->fA l i=fA l' i)->l=l'):=Hh (fun a b=>qm a b);obtain ⟨a,cap,rfl,_,hm,hA⟩:=R;obtain ⟨a',cap',rfl,_,hm',hA'⟩:=R';have HA:=Hh hA;have HA':=Hh hA';unfold maxLen at hm hm';clear hA hA';have HNE:Hid (l.length≠l'.length->¬ (l=l')):=Hh (fun h2 h=>h2 (by rw [h]));generalize hq:decide (l=l')=q at *;clear hq;generalize hn:l.length=n at *;generalize hn':l'.length=n' at *;have HN:=Hh hn;have HN':=Hh hn';clear hn hn'
 by_cases h2:n=n'
 ·subst h2
  go_enter func55,ntmps55
  go_wp2
  go_loopw [13] (fun i wr=>∃ k:Nat,k<=n/\i = .int .i64 k/\Hid (Below w.heap.size w wr)/\Hid (∀ i,i < k->fA l i=fA l' i)) (fun i _=>n - (intOf i).toNat)
  case atStart=>exact ⟨0,ce _,rfl,Hh (aa _ _),Hh (fun i hi=>by omega)⟩
  case round =>
   obtain ⟨j,hj,rfl,bw,hs⟩:=hrel
   by_cases hlt:j < n
   ·obtain ⟨b,off,rfl,A⟩:=HA (by omega)
    obtain ⟨b',off',rfl,A'⟩:=HA' (by omega);have c0:=Re.tq (A.below bw) j (by have:=HN.out;omega);have d0:=Re.tq (A'.below bw) j (by have:=HN'.out;omega);have HAA:=Hh A;have HAA':=Hh A';clear A A'
    by_cases he:fA l j=fA l' j
    ·have ST:Hid (∀ i,i < j+1->fA l i=fA l' i):=Hh (fun i hi=>by
      by_cases e:i=j
      ·rw [e];exact he
      ·exact hs i (by omega))
     have es:(fA l j != fA l' j)=false:=by simp [he]
     clear he;generalize fA l j=r at *;generalize fA l' j=r' at *;go_wp2
     go_quiet (fail)
     go_wp2
     go_roundw
     case rel=>exact ⟨j+1,by omega,by go_num,Hh (gC bw.out _),ST⟩
     case measure=>simp [intOf];omega
    ·have E:=Hh (HNO (fun h=>he (by rw [h])))
     have es:(fA l j != fA l' j)=true:=by simp [he]
     clear he;generalize fA l j=r at *;generalize fA l' j=r' at *;go_wp2
     go_quiet (fail)
     go_wp2
     go_ret
     exact ⟨ak E,gC bw _⟩
   ·have E:=Hh (HYES (HL (by trivial) (fun i hi=>hs.out i (by have:=HN.out;omega))))
    go_wp2
    go_ret
    exact ⟨ak E,bw⟩
 ·have E:=Hh (HNO (HNE h2))
  have q1:((n:Int) != (n':Int))=true:=by simp;omega
  clear HNO HYES HL HNE HA HA'
  go_enter func55,ntmps55
  go_wp2
  go_ret
  exact ⟨ak E,aa _ _⟩
def YL (A B:aT):Bool:=y8 A && y8 B && decide (jO A=jO B)
section
variable {s t p:Nat} {F G:Nat->Prop} {c:Cs} {vn vq:Value} {L:List Nd} {Fs:Nat->Nat->Prop} {w w':World}
theorem Dx (h:Cl w s F c t vn L p vq Fs) (hn:2<=c.S.length):Calls prog 26 #[ptr s] w fun e w'=>e = .returned (.bool (YL (sat c.S 0).1 (sat c.S 1).1))/\Below w.heap.size w w':=by
 have C1:=Hh (jM h (nn:=0) (by omega));have C2:=Hh (fun w1 b=>jM (h.below (w':=w1) b) (nn:=1) (by omega));have AG:Hid (YL (sat c.S 0).1 (sat c.S 1).1=(y8 (sat c.S (0:Nat)).1 && y8 (sat c.S (1:Nat)).1 && decide (jO (sat c.S (0:Nat)).1=jO (sat c.S (1:Nat)).1))):=Hh rfl;clear h;generalize YL (sat c.S 0).1 (sat c.S 1).1=ag at *;generalize (sat c.S (0:Nat)).1=A at *;generalize (sat c.S (1:Nat)).1=B at *;unfold SqC ptr at *
 go_enter func26,ntmps26
 go_wp2_with fail;refine C1.mono ?_;rintro e w1 ⟨b1,hc1⟩;have D2:=Hh (C2 w1 b1);have B1:=Hh b1;clear C1 C2 b1
 rcases hc1 with ⟨hs1,u1,rfl,r1⟩ | ⟨hs1,rfl⟩
 ·have R1:=Hh r1
  obtain ⟨a1,c1,rfl,_⟩:=r1.slice;clear r1;generalize hl1:(jO A).length=n1 at *;clear hl1;go_wp2_with fail;refine D2.mono ?_;rintro e w2 ⟨b2,hc2⟩;have B2:=aP B1 b2;have R1':=Hh (R1.below b2);clear D2 B1 R1 b2
  rcases hc2 with ⟨hs2,u2,rfl,r2⟩ | ⟨hs2,rfl⟩
  ·have R2:=Hh r2
   obtain ⟨a2,c2,rfl,_⟩:=r2.slice;clear r2;generalize hl2:(jO B).length=n2 at *;clear hl2;rw [hs1,hs2] at AG;have BA:=Hh ((aa w2.heap.size w2).alloc (ac _) (.cells #[.nilIface,.nilIface] 107));have X0:=Hh (aw w2 (.cells #[.nilIface,.nilIface] 107));have J:=Hh (join_none (w2.alloc (.cells #[.nilIface,.nilIface] 107)) w2.heap.size (ah X0 0) (ah X0 1));have B3:=aP B2 BA;have R1a:=Hh (R1'.below BA);have R2a:=Hh (R2.below BA);clear hs1 hs2 R1' R2 B2 X0;go_wp2_with fail;refine J.mono ?_;rintro e w3 ⟨rfl,b3⟩;have EQ:=Hh (Hz w3 _ _ _ _ (R1a.below b3) (R2a.below b3));have B4:=aP B3 b3;clear J b3 R1a R2a B3 BA;go_wp2_with fail;refine EQ.mono ?_;rintro e w4 ⟨rfl,b4⟩;have E:Hid (decide (jO A=jO B)=ag/\Below w.heap.size w w4):=Hh ⟨by rw [AG.out];rfl,aP B4 b4⟩;clear EQ b4 B4 AG;generalize decide (jO A=jO B)=dd at *;go_wp2
   go_ret
   exact ⟨ak E.out.1,E.out.2⟩
  ·rw [hs1,hs2] at AG
   unfold jm Hy at *;have BA:=Hh ((aa w2.heap.size w2).alloc (ac _) (.cells #[.nilIface,.iface 166 (.agg #[.int .i64 1,.iface 25 (.int .i64 2)])] 107));have X0:=Hh (aw w2 (.cells #[.nilIface,.iface 166 (.agg #[.int .i64 1,.iface 25 (.int .i64 2)])] 107));have J:=Hh (ZG (w2.alloc (.cells #[.nilIface,.iface 166 (.agg #[.int .i64 1,.iface 25 (.int .i64 2)])] 107)) w2.heap.size 1 2 (ah X0 0) (ah X0 1));have B3:=aP B2 BA;have E:=Hh (show ag=false by rw [AG.out];rfl);clear hs1 hs2 R1' B2 X0 AG;go_wp2_with fail;refine J.mono ?_;rintro e w3 ⟨⟨pp,rfl⟩,b3⟩;have B4:=aP B3 b3;clear J b3 B3 BA;go_wp2
   go_ret
   exact ⟨ak E.symm,B4⟩
 ·go_wp2_with fail
  refine D2.mono ?_;rintro e w2 ⟨b2,hc2⟩;have B2:=aP B1 b2;clear D2 B1 b2
  rcases hc2 with ⟨hs2,u2,rfl,r2⟩ | ⟨hs2,rfl⟩
  ·obtain ⟨a2,c2,rfl,_⟩:=r2.slice
   clear r2;generalize hl2:(jO B).length=n2 at *;clear hl2;rw [hs1,hs2] at AG;unfold jm Hy at *;have BA:=Hh ((aa w2.heap.size w2).alloc (ac _) (.cells #[.iface 166 (.agg #[.int .i64 0,.iface 25 (.int .i64 2)]),.nilIface] 107));have X0:=Hh (aw w2 (.cells #[.iface 166 (.agg #[.int .i64 0,.iface 25 (.int .i64 2)]),.nilIface] 107));have J:=Hh (aaI (w2.alloc (.cells #[.iface 166 (.agg #[.int .i64 0,.iface 25 (.int .i64 2)]),.nilIface] 107)) w2.heap.size 0 2 (ah X0 0) (ah X0 1));have B3:=aP B2 BA;have E:=Hh (show ag=false by rw [AG.out];rfl);clear hs1 hs2 B2 X0 AG;go_wp2_with fail;refine J.mono ?_;rintro e w3 ⟨⟨pp,rfl⟩,b3⟩;have B4:=aP B3 b3;clear J b3 B3 BA;go_wp2
   go_ret
   exact ⟨ak E.symm,B4⟩
  ·rw [hs1,hs2] at AG
   unfold jm Hy at *;have BA:=Hh ((aa w2.heap.size w2).alloc (ac _) (.cells #[.iface 166 (.agg #[.int .i64 0,.iface 25 (.int .i64 2)]),.iface 166 (.agg #[.int .i64 1,.iface 25 (.int .i64 2)])] 107));have X0:=Hh (aw w2 (.cells #[.iface 166 (.agg #[.int .i64 0,.iface 25 (.int .i64 2)]),.iface 166 (.agg #[.int .i64 1,.iface 25 (.int .i64 2)])] 107));have J:=Hh (Zr (w2.alloc (.cells #[.iface 166 (.agg #[.int .i64 0,.iface 25 (.int .i64 2)]),.iface 166 (.agg #[.int .i64 1,.iface 25 (.int .i64 2)])] 107)) w2.heap.size 0 2 1 2 (ah X0 0) (ah X0 1));have B3:=aP B2 BA;have E:=Hh (show ag=false by rw [AG.out];rfl);clear hs1 hs2 B2 X0 AG;go_wp2_with fail;refine J.mono ?_;rintro e w3 ⟨⟨pp,rfl⟩,b3⟩;have B4:=aP B3 b3;clear J b3 B3 BA;go_wp2
   go_ret
   exact ⟨ak E.symm,B4⟩
end
theorem TQ (L:List Pl) (h:2<=L.length):YL (sat (newC L).S 0).1 (sat (newC L).S 1).1=true↔agree L:=by
 have s0:(sat (newC L).S 0).1=(fC L 0).1:=by rw [show sat (newC L).S 0=_ from Be (L:=L) (i:=0) (by omega)]
 have s1:(sat (newC L).S 1).1=(fC L 1).1:=by rw [show sat (newC L).S 1=_ from Be (L:=L) (i:=1) (by omega)]
 rw [s0,s1];unfold YL agree;generalize (fC L 0).1=A;generalize (fC L 1).1=B;have F:∀ A:aT,y8 A=true->GU (fP A 40) (fR A 40)/\jO A=gQ (fR A 40)/\fB A 40=true:=fun A h=>by
  unfold y8 at h;rw [br,cI] at h;obtain ⟨h1,h2⟩:=h;have i:GU (fP A 40) (fR A 40):=by
   unfold sN at h2
   split at h2
   ·assumption
   ·omega
  exact ⟨i,(Re.Ll i).1,h1⟩
 rw [br,br,cI]
 constructor
 ·rintro ⟨⟨hA,hB⟩,he⟩
  obtain ⟨iA,tA,_⟩:=F A hA;obtain ⟨iB,tB,bB⟩:=F B hB;refine ⟨hA,bB,by rw [iA.2.2.1,iB.2.2.1],?_⟩;rw [iA.2.2.2,iB.2.2.2,← tA,← tB,he]
 ·rintro ⟨hA,hB,hp,hr⟩
  obtain ⟨iA,tA,_⟩:=F A hA;have hB':y8 B=true:=by
   unfold y8;rw [hB,← hp,← hr,(Re.Ll iA).2]
   rfl
  refine ⟨⟨hA,hB'⟩,?_⟩;obtain ⟨_,tB,_⟩:=F B hB';rw [tA,tB,hr]
end Cu
namespace Tk
def fr (A:Nat->Int):Nat->Int
 | 0=>0
 | k+1=>A k
def rt (R:Nat->Int):Nat->Int
 | 0=>0
 | k+1=>R k
def sm (A R:Nat->Int):Nat->Int
 | 0=>0
 | k+1=>sm A R k+(A k - fr A k) * (1000000+rt R k)
def dY (A:Nat->Int) (n:Nat) (t:Int) (k:Nat):Prop:=k<=n/\(∀ i,i < k->A i < t)/\(k < n->t<=A k)
variable {A R:Nat->Int} {n k j:Nat} {t:Int}
theorem dY.uniq (h:dY A n t k) (g:dY A n t j):k=j:=by
 obtain ⟨h1,h2,h3⟩:=h;obtain ⟨g1,g2,g3⟩:=g
 rcases Nat.lt_trichotomy k j with c | c | c
 ·have a:=h3 (by omega);have b:=g2 k c;omega
 ·exact c
 ·have a:=g3 (by omega);have b:=h2 j c;omega
theorem dY.ex (A:Nat->Int) (n:Nat) (t:Int):∃ k,dY A n t k:=by
 induction n with
 | zero=>exact ⟨0,ac _,fun i h=>by omega,fun h=>by omega⟩
 | succ n ih =>
   obtain ⟨k,h1,h2,h3⟩:=ih
   by_cases hk:k < n
   ·exact ⟨k,by omega,h2,fun _=>h3 hk⟩
   ·obtain rfl:k=n:=by omega
    by_cases ha:A k < t
    ·refine ⟨k+1,by omega,fun i hi=>?_,fun h=>by omega⟩
     by_cases e:i=k
     ·subst e;exact ha
     ·exact h2 i (by omega)
    ·exact ⟨k,by omega,h2,fun _=>by omega⟩
noncomputable def stop (A:Nat->Int) (n:Nat) (t:Int):Nat:=(dY.ex A n t).choose
theorem tX (A:Nat->Int) (n:Nat) (t:Int):dY A n t (stop A n t):=(dY.ex A n t).choose_spec
theorem VF (h:dY A n t k):stop A n t=k:=(tX A n t).uniq h
def pp (A R:Nat->Int) (k:Nat) (t:Int):Int:=sm A R k+(t - fr A k) * (1000000+rt R k)
noncomputable def PP (A R:Nat->Int) (n:Nat) (t:Int):Int:=pp A R (stop A n t) t
theorem oQ (h:dY A n t k):PP A R n t=pp A R k t:=by rw [PP,VF h]
def jr (t:Int):Int:=if t < 0 then 0 else if 4294967296 < t then 4294967296 else t
theorem OU (t:Int):0<=jr t:=by unfold jr;split <;> (try split) <;> omega
theorem Rz (t:Int):jr t<=4294967296:=by unfold jr;split <;> (try split) <;> omega
theorem ep (h:0<=t) (h':t<=4294967296):jr t=t:=by unfold jr;split <;> (try split) <;> omega
noncomputable def Loc (A R:Nat->Int) (n:Nat) (t:Int):Int:=PP A R n (jr t) / 1000000
structure bA (n:Nat) (A R:Nat->Int):Prop where
 len:n<=64
 at_:∀ i,i < n->0<=A i/\A i<=4294967296
 rate:∀ i,i < n->-20000<=R i/\R i<=20000
 up:∀ i,i+1 < n->A i < A (i+1)
noncomputable def cB (n:Nat) (A R:Nat->Int):Bool:=@decide (bA n A R) (Classical.propDecidable _)
theorem jl : cB n A R=true↔bA n A R:=by unfold cB;exact @decide_eq_true_iff _ (Classical.propDecidable _)
theorem qZ (h:bA n A R):cB n A R=true:=jl.2 h
theorem yh (h:¬ bA n A R):cB n A R=false:=by
 cases e:cB n A R with
 | false=>rfl
 | true=>exact absurd (jl.1 e) h
section
variable {n:Nat} {A R:Nat->Int}
theorem FZ (g:bA n A R) (k:Nat) (h:k<=n) : -20000<=rt R k/\rt R k<=20000:=by
 cases k with
 | zero=>exact ⟨by simp [rt],by simp [rt]⟩
 | succ k=>exact g.rate k (by omega)
theorem Yb (g:bA n A R) (k:Nat) (h:k<=n):0<=fr A k/\fr A k<=4294967296:=by
 cases k with
 | zero=>exact ⟨by simp [fr],by simp [fr]⟩
 | succ k=>exact g.at_ k (by omega)
theorem Yd (g:bA n A R) (k:Nat) (h:k < n):fr A k<=A k:=by
 cases k with
 | zero=>exact (g.at_ 0 h).1
 | succ k=>exact Int.le_of_lt (g.up k h)
variable {d c u:Int}
theorem Gx (h:0<=d) (h1:980000<=c) (h2:c<=1020000):d * 980000<=d * c/\d * c<=d * 1020000 :=
 ⟨Int.mul_le_mul_of_nonneg_left h1 h,Int.mul_le_mul_of_nonneg_left h2 h⟩
theorem XU (g:bA n A R) (k:Nat) (h:k<=n):fr A k * 980000<=sm A R k/\sm A R k<=fr A k * 1020000:=by
 induction k with
 | zero=>simp [fr,sm]
 | succ k ih =>
   have i:=ih (by omega);have b:=FZ g k (by omega);have f:=Yd g k (by omega);have m:=Gx (d:=A k - fr A k) (c:=1000000+rt R k) (by omega) (by omega) (by omega)
   show A k * 980000<=sm A R k+(A k - fr A k) * (1000000+rt R k)/\sm A R k+(A k - fr A k) * (1000000+rt R k)<=A k * 1020000
   generalize (A k - fr A k) * (1000000+rt R k)=z at m ⊢
   omega
theorem abI (g:bA n A R) (k:Nat) (h:k<=n) (t:Int) (ht:fr A k<=t):t * 980000<=pp A R k t/\pp A R k t<=t * 1020000:=by
 have i:=XU g k h;have b:=FZ g k h;have m:=Gx (d:=t - fr A k) (c:=1000000+rt R k) (by omega) (by omega) (by omega);unfold pp;generalize (t - fr A k) * (1000000+rt R k)=z at m ⊢
 omega
theorem Ca (h0:0<=t) (h:dY A n t k):fr A k<=t:=by
 cases k with
 | zero=>exact h0
 | succ k=>exact Int.le_of_lt (h.2.1 k (by omega))
theorem As (g:bA n A R) (t:Int) (h0:0<=t):t * 980000<=PP A R n t/\PP A R n t<=t * 1020000:=by
 have s:=tX A n t;exact abI g _ s.1 t (Ca h0 s)
theorem JU (g:bA n A R) (t:Int):∃ c,980000<=c/\c<=1020000/\PP A R n (t+1)=PP A R n t+c:=by
 have s:=tX A n t;generalize hk:stop A n t=k at s;obtain ⟨s1,s2,s3⟩:=s;rw [oQ ⟨s1,s2,s3⟩]
 by_cases hn:k < n/\A k < t+1
 ·obtain ⟨hn,ha⟩:=hn
  have e:A k=t:=by have:=s3 hn;omega
  have st:dY A n (t+1) (k+1):=by
   refine ⟨hn,fun i hi=>?_,fun h=>?_⟩
   ·by_cases c:i=k
    ·subst c;exact ha
    ·have:=s2 i (by omega);omega
   ·have:=g.up k h;omega
  rw [oQ st];have b:=g.rate k hn;refine ⟨1000000+R k,by omega,by omega,?_⟩
  show sm A R k+(A k - fr A k) * (1000000+rt R k)+(t+1 - A k) * (1000000+R k)=sm A R k+(t - fr A k) * (1000000+rt R k)+(1000000+R k)
  rw [e,show t+1 - t=1 by omega,Int.one_mul]
 ·have st:dY A n (t+1) k:=by
   refine ⟨s1,fun i hi=>?_,fun h=>?_⟩
   ·have:=s2 i hi;omega
   ·have:=s3 h;omega
  rw [oQ st];have b:=FZ g k s1;refine ⟨1000000+rt R k,by omega,by omega,?_⟩;unfold pp;rw [show t+1 - fr A k=(t - fr A k)+1 by omega,Int.add_mul,Int.one_mul]
  omega
theorem mH (g:bA n A R):PP A R n 0=0:=by have:=As g 0 (by decide);omega
theorem aah (g:bA n A R) (t:Int) (d:Nat):PP A R n t+980000 * d<=PP A R n (t+d)/\PP A R n (t+d)<=PP A R n t+1020000 * d:=by
 induction d with
 | zero=>simp
 | succ d ih =>
   obtain ⟨c,c1,c2,e⟩:=JU g (t+d);rw [show t+((d+1:Nat):Int)=t+d+1 by omega,e]
   omega
theorem Bz (g:bA n A R) (h:t<=u):PP A R n t<=PP A R n u:=by
 have:=(aah g t (u - t).toNat).1;rw [show t+((u - t).toNat:Int)=u by omega] at this
 omega
theorem IM (h:t<=u):jr t<=jr u:=by unfold jr;repeat' split <;> omega
theorem Qx (g:bA n A R) (h:t<=u):Loc A R n t<=Loc A R n u:=by
 unfold Loc;have:=Bz g (IM h)
 omega
theorem Uk (g:bA n A R) (t:Int) (h0:0<=t) (h1:t<=4294967296):Loc A R n t<=t+t / 50/\t - t / 50 - 1<=Loc A R n t:=by
 unfold Loc;rw [ep h0 h1];have:=As g t h0
 omega
end
structure Jr (A R:Nat->Int) (n:Nat) (m g:Int):Prop where
 lo:0<=g
 hi:g<=4294967296
 before:∀ t,0<=t->t < g->Loc A R n t < m
 there:g < 4294967296->m<=Loc A R n g
variable {m k:Int}
theorem Jr.uniq {g:Int} (h:Jr A R n m g) (i:Jr A R n m k):g=k:=by
 have a:=h.lo;have b:=h.hi;have c:=i.lo;have d:=i.hi
 rcases Int.lt_trichotomy g k with e | e | e
 ·have x:=h.there (by omega);have y:=i.before g a e;omega
 ·exact e
 ·have x:=i.there (by omega);have y:=h.before k c e;omega
theorem Tw (f:Int->Int) (m:Int) (N:Nat):(∃ g:Int,0<=g/\g < N/\(∀ t,0<=t->t < g->f t < m)/\m<=f g)\/(∀ t:Int,0<=t->t < N->f t < m):=by
 induction N with
 | zero=>exact .inr fun t h h'=>by omega
 | succ N ih =>
   rcases ih with ⟨g,g0,g1,g2,g3⟩ | h
   ·exact .inl ⟨g,g0,by omega,g2,g3⟩
   ·by_cases c:f N < m
    ·refine .inr fun t t0 t1=>?_
     by_cases e:t=N
     ·subst e;exact c
     ·exact h t t0 (by omega)
    ·exact .inl ⟨N,by omega,by omega,h,by omega⟩
theorem Jr.ex (A R:Nat->Int) (n:Nat) (m:Int):∃ g,Jr A R n m g:=by
 generalize hN:(4294967296:Int).toNat=N;have e:(N:Int)=4294967296:=by omega
 rcases Tw (Loc A R n) m N with ⟨g,g0,g1,g2,g3⟩ | h
 ·exact ⟨g,g0,by omega,g2,fun _=>g3⟩
 ·exact ⟨4294967296,by omega,by omega,fun t t0 t1=>h t t0 (by omega),fun h=>by omega⟩
noncomputable def bQ (A R:Nat->Int) (n:Nat) (m:Int):Int:=(Jr.ex A R n m).choose
theorem eD (A R:Nat->Int) (n:Nat) (m:Int):Jr A R n m (bQ A R n m):=(Jr.ex A R n m).choose_spec
theorem AB {g:Int} (h:Jr A R n m g):bQ A R n m=g:=(eD A R n m).uniq h
theorem Jr.VA {g:Int} (h0:0<=g) (h1:g<=4294967296) (hl:∀ t,0<=t->t < g->Loc A R n t < m) (hh:g < 4294967296->m<=Loc A R n g):Jr A R n m g:=⟨h0,h1,hl,hh⟩
end Tk
namespace Sp
open Go.RowKit
abbrev S2:=Int×Int
def fr (l:List S2) (i:Nat):Int:=(l.getD i (0,0)).1
def tp (l:List S2) (i:Nat):Int:=(l.getD i (0,0)).2
def flat:List S2->List Value
 | []=>[]
 | s :: r=>.int .i64 s.1 :: .int .i64 s.2 :: flat r
theorem cZ:∀ l:List S2,(flat l).length=l.length * 2
 | []=>rfl
 | s :: r=>by simp [flat,cZ r];omega
theorem fV:∀ a b:List S2,flat (a ++ b)=flat a ++ flat b
 | [],_=>rfl
 | s :: r,b=>by simp [flat,fV r b]
theorem flat_get:∀ (l:List S2) (i:Nat),i < l.length->(flat l)[i * 2]? = some (.int .i64 (fr l i))/\(flat l)[i * 2+1]? = some (.int .i64 (tp l i))
 | s :: r,0,_=>⟨rfl,rfl⟩
 | s :: r,i+1,h=>by
   have ih:=flat_get r i (by simpa using h);have e:(i+1) * 2=i * 2+1+1:=by omega
   rw [e];exact ih
def At (w:World) (b off:Nat) (l:List S2):Prop:=∀ i,i < l.length->w.cell? ⟨b,off+i * 2,none⟩=some (.int .i64 (fr l i))/\w.cell? ⟨b,off+i * 2+1,none⟩=some (.int .i64 (tp l i))
def Sp (w:World) (v:Value) (l:List S2):Prop:=∃ a cap,v = .slice a l.length cap/\l.length<=cap/\cap<=maxLen/\(0 < l.length->∃ b off,a=some ⟨b,off,none⟩/\At w b off l)
def Own (w:World) (B E:Nat) (v:Value) (l:List S2):Prop:=w.ownsRow B E 2 v l.length (flat l)
variable {w w':World} {b off B E j:Nat} {l:List S2}
theorem At.below (h:At w b off l) (hb:Below w.heap.size w w'):At w' b off l:=fun i hi=>by
 obtain ⟨c1,c2⟩:=h i hi;exact ⟨fQ hb c1,fQ hb c2⟩
theorem Sp.below {w w':World} {v:Value} {l:List S2} (h:Sp w v l) (hb:Below w.heap.size w w'):Sp w' v l:=by
 obtain ⟨a,cap,e,h1,h2,h3⟩:=h;exact ⟨a,cap,e,h1,h2,fun hp=>by obtain ⟨b,off,ea,hA⟩:=h3 hp;exact ⟨b,off,ea,hA.below hb⟩⟩
theorem Sp.slice {w:World} {v:Value} {l:List S2} (h:Sp w v l):∃ a cap,v = .slice a l.length cap/\cap<=maxLen:=by
 obtain ⟨a,cap,e,_,h2,_⟩:=h;exact ⟨a,cap,e,h2⟩
theorem Own.nil (w:World) (B E:Nat):Own w B E (.slice none 0 0) []:=World.ownsRow_nil _ _ _ _
theorem Own.made (w:World) (B E:Nat) (hB:B<=w.heap.size):Own (w.alloc (.cells #[] E)) B E (.slice (some ⟨w.heap.size,0,none⟩) 0 0) [] :=
 World.ownsRow_made w #[] 0 hB (by unfold maxLen;omega) (by simp)
variable {v v':Value}
theorem Own.sp (h:Own w B E v l):Sp w v l:=by
 have hc:=fun g hg j u=>World.ownsRow.cells h (g:=g) hg j u;obtain ⟨_,h⟩:=h
 rcases h with ⟨rfl,h0⟩ | ⟨g,cap,cur,rfl,_,_,h1,h2,_⟩
 ·exact ⟨none,0,by rw [h0],by omega,by unfold maxLen;omega,fun h=>by omega⟩
 ·refine ⟨_,cap,rfl,h1,h2,fun _=>⟨g,0,rfl,fun i hi=>?_⟩⟩
  obtain ⟨g1,g2⟩:=flat_get l i hi;have c1:=hc g rfl _ _ g1;have c2:=hc g rfl _ _ g2;simp only [Addr.add_lit] at c1 c2;exact ⟨c1,by rw [← Nat.add_assoc] at c2;exact c2⟩
theorem Own.form (h:Own w B E v l) (hl:0 < l.length):∃ g cap,v = .slice (some ⟨g,0,none⟩) l.length cap/\B<=g/\g < w.heap.size/\l.length<=cap/\cap<=maxLen/\w.frozen? ⟨g,0,none⟩=false /\
 (∀ i,i < l.length->w.cell? ⟨g,i * 2,none⟩=some (.int .i64 (fr l i))/\w.cell? ⟨g,i * 2+1,none⟩=some (.int .i64 (tp l i))/\w.frozen? ⟨g,i * 2,none⟩=false/\w.frozen? ⟨g,i * 2+1,none⟩=false):=by
 have hc:=fun g hg j u=>World.ownsRow.cells h (g:=g) hg j u;obtain ⟨_,h⟩:=h
 rcases h with ⟨_,h0⟩ | ⟨g,cap,cur,rfl,hB,hh,h1,h2,_⟩
 ·omega
 ·refine ⟨g,cap,rfl,hB,bh hh,h1,h2,by simp [World.frozen?,hh],fun i hi=>?_⟩
  obtain ⟨g1,g2⟩:=flat_get l i hi;have c1:=hc g rfl _ _ g1;have c2:=hc g rfl _ _ g2;simp only [Addr.add_lit,eI] at c1 c2;exact ⟨c1,c2,by simp [World.frozen?,hh],by simp [World.frozen?,hh]⟩
theorem Own.slice {w:World} {B E:Nat} {v:Value} {l:List S2} (h:Own w B E v l):∃ a cap,v = .slice a l.length cap/\l.length<=cap/\cap<=maxLen:=by
 obtain ⟨_,h⟩:=h
 rcases h with ⟨rfl,h0⟩ | ⟨g,cap,cur,rfl,_,_,h1,h2,_⟩
 ·exact ⟨none,0,by rw [h0],by omega,by unfold maxLen;omega⟩
 ·exact ⟨_,_,rfl,h1,h2⟩
theorem Own.alloc {w:World} {B E:Nat} {v:Value} {l:List S2} (h:Own w B E v l) (o:Obj):Own (w.alloc o) B E v l:=fS h o
theorem Own.draw (h:Own w B E v l) (n:Nat):Own (w.drewN n) B E v l:=h
theorem Own.keep (h:Own w B E v l) (hb:Below w.heap.size w w'):Own w' B E v l:=by
 obtain ⟨h1,h2⟩:=h;refine ⟨h1,?_⟩
 rcases h2 with h2 | ⟨g,cap,cur,e,hB,hh,r⟩
 ·exact .inl h2
 ·exact .inr ⟨g,cap,cur,e,hB,(hb.block g (bh hh)).trans hh,r⟩
theorem heap_setCell_same {g:Nat} {cur:Array Value} {E:TypeId} (hh:w.heap[g]? = some (.cells cur E (0,0))) (u:Value):(w.setCell ⟨g,j,none⟩ u).heap[g]? = some (.cells (cur.setIfInBounds j u) E (0,0)):=by
 have hlt:=bh hh;have h':w.heap[g] = .cells cur E (0,0):=by simpa [Array.getElem?_eq_getElem hlt] using hh
 show (w.heap.modify g _)[g]? = _
 rw [gk (by simpa using hlt),Array.getElem_modify_self,h']
 rfl
theorem mD:∀ (l:List S2) (i:Nat) (x:Int),i < l.length->(flat l).set (i * 2+1) (.int .i64 x)=flat (l.set i (fr l i,x))
 | s :: r,0,x,_=>rfl
 | s :: r,i+1,x,h=>by
   have ih:=mD r i x (by simpa using h);have e:(i+1) * 2+1=(i * 2+1)+1+1:=by omega
   rw [e]
   show Value.int .i64 s.1 :: Value.int .i64 s.2 :: (flat r).set (i * 2+1) (.int .i64 x)=_
   rw [ih]
   rfl
theorem Own.set {w:World} {B E g cap:Nat} {l:List S2} (h:Own w B E (.slice (some ⟨g,0,none⟩) l.length cap) l) (i:Nat) (hi:i < l.length) (x:Int) :
 Own (w.setCell ⟨g,i * 2+1,none⟩ (.int .i64 x)) B E (.slice (some ⟨g,0,none⟩) l.length cap) (l.set i (fr l i,x)):=by
 obtain ⟨h1,h2⟩:=h;refine ⟨by rw [cZ],?_⟩
 rcases h2 with ⟨e,_⟩ | ⟨g',cap',cur,e,hB,hh,k1,k2,k3,k4⟩
 ·simp at e
 ·injection e with e1 e2 e3
  injection e1 with e1;injection e1 with e1;subst e1 e3;refine .inr ⟨_,_,_,by rw [cA],hB,heap_setCell_same hh _,by rw [cA];exact k1,k2,by simp [k3],?_⟩;rw [← mD l i x hi,← k4,cA]
  simp [List.take_set]
theorem Own.push {s:S2} (h:w'.ownsRow B E 2 v' (l.length+1) (flat l ++ [.int .i64 s.1,.int .i64 s.2])):Own w' B E v' (l ++ [s]):=by
 show w'.ownsRow B E 2 v' (l ++ [s]).length (flat (l ++ [s]))
 rw [fV,cP];exact h
end Sp
namespace Wi
open Sp
theorem wX (a b:Int):a < b\/b<=a:=by omega
def Low (l:List S2) (t:Int):Prop:=∃ s∈l,s.1<=t/\t < s.2
def KO (t:Int) (s:S2):Bool:=decide (s.1<=t) && decide (t < s.2)
def bT (l:List S2) (t:Int):Bool:=l.any (KO t)
variable {l a b r S p:List S2} {t:Int}
theorem vO : bT l t=true↔Low l t:=by
 simp [bT,Low,KO,List.any_eq_true]
theorem vZ : bT l t=false↔¬ Low l t:=by
 rw [← vO];simp
def Plain (l:List S2):Prop:=(∀ s∈l,s.1 < s.2)/\l.Pairwise (fun a b=>a.2 < b.1)
variable {i k:Nat}
theorem qG (h:i < l.length):(fr l i,tp l i)∈l:=by
 have e:l.getD i (0,0)=l[i]:=by simp [h]
 show ((l.getD i (0,0)).1,(l.getD i (0,0)).2)∈l
 rw [e];exact dk h
variable {s q:S2}
theorem mem_iff : s∈l↔∃ i,i < l.length/\fr l i=s.1/\tp l i=s.2:=by
 constructor
 ·intro h
  obtain ⟨i,hi,e⟩:=dv h;exact ⟨i,hi,by simp [fr,hi,e],by simp [tp,hi,e]⟩
 ·rintro ⟨i,hi,e1,e2⟩
  have:=qG hi;rw [e1,e2] at this;exact this
theorem Kh : Low l t↔∃ i,i < l.length/\fr l i<=t/\t < tp l i:=by
 constructor
 ·rintro ⟨s,hs,h⟩
  obtain ⟨i,hi,e1,e2⟩:=mem_iff.1 hs;exact ⟨i,hi,by omega,by omega⟩
 ·rintro ⟨i,hi,h⟩
  exact ⟨_,qG hi,h⟩
theorem dQ : Low (a ++ b) t↔Low a t\/Low b t:=by
 constructor
 ·rintro ⟨s,hs,h⟩
  rcases dy.1 hs with h' | h'
  ·exact .inl ⟨s,h',h⟩
  ·exact .inr ⟨s,h',h⟩
 ·rintro (⟨s,hs,h⟩ | ⟨s,hs,h⟩)
  ·exact ⟨s,List.mem_append_left _ hs,h⟩
  ·exact ⟨s,List.mem_append_right _ hs,h⟩
theorem iV : ¬ Low [] t:=by rintro ⟨s,hs,_⟩;simp at hs
theorem dK : Low (s :: r) t↔(s.1<=t/\t < s.2)\/Low r t:=by
 constructor
 ·rintro ⟨x,hx,h⟩
  rcases cj.1 hx with rfl | h'
  ·exact .inl h
  ·exact .inr ⟨x,h',h⟩
 ·rintro (h | ⟨x,hx,h⟩)
  ·exact ⟨s,cy,h⟩
  ·exact ⟨x,ci _ hx,h⟩
theorem mV : Low [s] t↔s.1<=t/\t < s.2:=by
 rw [dK];exact ⟨fun h=>h.resolve_right iV,.inl⟩
theorem MO:Plain []:=⟨fun s h=>by simp at h,gO⟩
theorem nM : Plain (l ++ [s])↔Plain l/\s.1 < s.2/\∀ x∈l,x.2 < s.1:=by
 unfold Plain;rw [List.pairwise_append]
 constructor
 ·rintro ⟨h1,h2,_,h3⟩
  exact ⟨⟨fun x hx=>h1 x (List.mem_append_left _ hx),h2⟩,h1 s (by simp),fun x hx=>h3 x hx s (by simp)⟩
 ·rintro ⟨⟨h1,h2⟩,h3,h4⟩
  refine ⟨fun x hx=>?_,h2,List.pairwise_singleton _ _,fun x hx y hy=>?_⟩
  ·rcases dy.1 hx with h | h
   ·exact h1 x h
   ·simp at h;subst h;exact h3
  ·simp at hy;subst hy;exact h4 x hx
theorem fO : Plain (s :: l)↔Plain l/\s.1 < s.2/\∀ x∈l,s.2 < x.1:=by
 unfold Plain;rw [db]
 constructor
 ·rintro ⟨h1,h2,h3⟩
  exact ⟨⟨fun x hx=>h1 x (ci _ hx),h3⟩,h1 s cy,h2⟩
 ·rintro ⟨⟨h1,h2⟩,h3,h4⟩
  refine ⟨fun x hx=>?_,h4,h2⟩
  rcases cj.1 hx with rfl | h
  ·exact h3
  ·exact h1 x h
theorem oI (h:Plain l):∀ s∈l,¬ Low l s.2:=by
 induction l with
 | nil=>intro s hs;simp at hs
 | cons a r ih =>
   obtain ⟨hp,ha,hr⟩:=fO.1 h
   intro s hs hl
   rw [dK] at hl
   rcases cj.1 hs with rfl | hs
   ·rcases hl with hl | ⟨x,hx,h1,h2⟩
    ·omega
    ·have:=hr x hx;omega
   ·rcases hl with hl | hl
    ·have:=hr s hs;have:=hp.1 s hs;omega
    ·exact ih hp s hs hl
theorem rG:∀ {a b:List S2},Plain a->Plain b->(∀ t,Low a t↔Low b t)->a=b
 | [],[],_,_,_=>rfl
 | [],s :: r,_,hb,h=>by
   obtain ⟨_,h1,_⟩:=fO.1 hb;exact absurd ((h s.1).2 (dK.2 (.inl ⟨by omega,h1⟩))) iV
 | s :: r,[],ha,_,h=>by
   obtain ⟨_,h1,_⟩:=fO.1 ha;exact absurd ((h s.1).1 (dK.2 (.inl ⟨by omega,h1⟩))) iV
 | s :: r,s' :: r',ha,hb,h=>by
   obtain ⟨hr,h1,h2⟩:=fO.1 ha;obtain ⟨hr',h1',h2'⟩:=fO.1 hb;have lo:s'.1<=s.1:=by
    obtain ⟨x,hx,hx1,_⟩:=(h s.1).1 (dK.2 (.inl ⟨by omega,h1⟩))
    rcases cj.1 hx with rfl | hx
    ·exact hx1
    ·have:=h2' x hx;omega
   have lo':s.1<=s'.1:=by
    obtain ⟨x,hx,hx1,_⟩:=(h s'.1).2 (dK.2 (.inl ⟨by omega,h1'⟩))
    rcases cj.1 hx with rfl | hx
    ·exact hx1
    ·have:=h2 x hx;omega
   have hi:s'.2<=s.2:=by
    rcases wX s.2 s'.2 with c | c
    ·exact absurd ((h s.2).2 (dK.2 (.inl ⟨by omega,c⟩))) (oI ha s cy)
    ·exact c
   have hi':s.2<=s'.2:=by
    rcases wX s'.2 s.2 with c | c
    ·exact absurd ((h s'.2).1 (dK.2 (.inl ⟨by omega,c⟩))) (oI hb s' cy)
    ·exact c
   have e:s=s':=Prod.ext (by omega) (by omega);subst e;have er:r=r':=rG hr hr' fun t=>by
    constructor
    ·intro ht
     obtain ⟨x,hx,hx1,_⟩:=ht;have:=h2 x hx
     rcases dK.1 ((h t).1 (dK.2 (.inr ⟨x,hx,hx1,by assumption⟩))) with c | c
     ·omega
     ·exact c
    ·intro ht
     obtain ⟨x,hx,hx1,_⟩:=ht;have:=h2' x hx
     rcases dK.1 ((h t).2 (dK.2 (.inr ⟨x,hx,hx1,by assumption⟩))) with c | c
     ·omega
     ·exact c
   rw [er]
structure fJ (S:List S2) (k:Nat) (l:List S2):Prop where
 plain:Plain l
 low:∀ t,Low l t↔Low (S.take k) t
 ahead:∀ x∈l,∀ i,k<=i->i < S.length->x.1<=fr S i
structure pY (S:List S2):Prop where
 ticks:∀ i,i < S.length->fr S i < tp S i
 up:∀ i j,i<=j->j < S.length->fr S i<=fr S j
theorem kg (h:k < S.length):S.take (k+1)=S.take k ++ [(fr S k,tp S k)]:=by
 rw [List.take_succ_eq_append_getElem h];have e:(fr S k,tp S k)=S[k]:=by simp [fr,tp,h]
 rw [e]
theorem fJ.zero (S:List S2):fJ S 0 []:=⟨MO,fun t=>by simp,fun x hx=>by simp at hx⟩
theorem fJ.push (hS:pY S) (h:fJ S k l) (hk:k < S.length) (hl:∀ x∈l,x.2 < fr S k):fJ S (k+1) (l ++ [(fr S k,tp S k)]):=by
 refine ⟨nM.2 ⟨h.plain,hS.ticks k hk,hl⟩,fun t=>?_,fun x hx i h1 h2=>?_⟩
 ·rw [kg hk,dQ,dQ,h.low]
 ·rcases dy.1 hx with c | c
  ·exact h.ahead x c i (by omega) h2
  ·simp at c;subst c;exact hS.up k i (by omega) h2
theorem fJ.grow (h:fJ S k (p ++ [q])) (hk:k < S.length) (hl:fr S k<=q.2) (m:Int) (hm:(q.2<=m/\tp S k<=m)/\(m=q.2\/m=tp S k)):fJ S (k+1) (p ++ [(q.1,m)]):=by
 obtain ⟨hp,hq,hx⟩:=nM.1 h.plain;have ha:=h.ahead q (by simp) k (by omega) hk;refine ⟨nM.2 ⟨hp,by show q.1 < m;omega,hx⟩,fun t=>?_,fun x hx i h1 h2=>?_⟩
 ·have:=h.low t
  rw [dQ,mV] at this;rw [kg hk,dQ,dQ,mV,mV,← this]
  constructor
  ·rintro (c | c)
   ·exact .inl (.inl c)
   ·by_cases d:t < q.2
    ·exact .inl (.inr ⟨c.1,d⟩)
    ·exact .inr ⟨by show fr S k<=t;omega,by show t < tp S k;have:=c.2;simp at this;omega⟩
  ·rintro ((c | c) | c)
   ·exact .inl c
   ·exact .inr ⟨c.1,by show t < m;omega⟩
   ·exact .inr ⟨by show q.1<=t;have:=c.1;simp at this;omega,by show t < m;have:=c.2;simp at this;omega⟩
 ·rcases dy.1 hx with c | c
  ·exact h.ahead x (List.mem_append_left _ c) i (by omega) h2
  ·simp at c;subst c;exact h.ahead q (by simp) i (by omega) h2
theorem fJ.all (h:fJ S S.length l):Plain l/\∀ t,Low l t↔Low S t:=⟨h.plain,fun t=>by rw [h.low,cX]⟩
def wH:List S2->Int
 | []=>-1099511627777
 | [s]=>s.2
 | _ :: s :: r=>wH (s :: r)
theorem Dv:∀ (l:List S2),0 < l.length->wH l=tp l (l.length - 1)
 | [_],_=>rfl
 | a :: b :: r,_=>by
   have:=Dv (b :: r) (by simp)
   show wH (b :: r)=_
   rw [this]
   simp [tp]
theorem vN:∀ {l:List S2},Plain l->∀ x∈l,x.2<=wH l
 | [s],_,x,hx=>by simp at hx;subst hx;exact gR _
 | a :: b :: r,h,x,hx=>by
   obtain ⟨h1,h2,h3⟩:=fO.1 h
   show x.2<=wH (b :: r)
   rcases cj.1 hx with rfl | hx
   ·have a1:=h3 b (by simp)
    have a2:=h1.1 b (by simp);have a3:=vN h1 b (by simp)
    omega
   ·exact vN h1 x hx
open Go.RowKit Go.Proofs.YtdbdacceecnpmaaGreatDoor.Sp
theorem bM {a b:Int} (h:a=b):Ending.returned (.int .i64 a) = .returned (.int .i64 b):=by rw [h]
theorem JW:(prog.info? 295).map (fun i=>(i.zero,i.size,i.bytes))=some (some (.agg #[.int .i64 0,.int .i64 0]),2,16):=by kernel_rfl
theorem qx (a:Addr):a.add 0=a:=by cases a;simp [Addr.add]
variable {w:World}
theorem dX {ops:Array Oper} {rest:List Oper} {o:Oper} {a:Act} {Q:Exit->Act->World->Prop} (hgd:o.guard=none) (s x:Operand)
 (ho:o.op = .call { callee:=.builtin .append,args:=#[s,x],argTypes:=#[216,216] }) (B:Nat) (v:Value) (l:List S2) (hs:a.eval s=v) (hown:Sp.Own w B 295 v l)
 (ad:Addr) (p q:Int) (hx:a.eval x = .slice (some ad) 1 1) (h0:w.cell? ad=some (.int .i64 p)) (h1:w.cell? (ad.add 1)=some (.int .i64 q)) (hlen:l.length < 4398046511104) (hB:B<=w.heap.size)
 (h:∀ v' w',Sp.Own w' B 295 v' (l ++ [(p,q)])->Below B w w'->wpList prog ops Q rest (a.put o.dst v') w'):wpList prog ops Q (o :: rest) a w:=by
 obtain ⟨i0,hi,hz0,hz1,hz2⟩:=fk JW;refine wpList_append_own _ hgd s x 216 ho B 295 i0 (.agg #[.int .i64 0,.int .i64 0]) 2 16 underlying216 hi hz0 hz1 hz2 rfl (by decide) v l.length (flat l) hs hown ad 1 1 [.int .i64 p,.int .i64 q] hx rfl ?_ ?_ ?_ ?_ hB ?_
 ·intro j u hj
  match j,hj with
  | 0,hj=>simp at hj;subst hj;rw [qx];exact h0
  | 1,hj=>simp at hj;subst hj;exact h1
  | j+2,hj=>simp at hj
 ·intro u hu
  simp at hu
  rcases hu with rfl | rfl <;> rfl
 ·unfold maxLen;omega
 ·omega
 ·intro v' w' h2 h3 _
  exact h v' w' (Sp.Own.push (s:=(p,q)) h2) ((aa B w).grown h3 hB fun k hk=>(cC hown k hk).1)
theorem zO (w:World) (a b:Int):Calls prog 198 #[.agg #[.int .i64 a,.int .i64 b]] w fun e w'=>e = .returned (.bool (decide (a < b)))/\Below w.heap.size w w':=by
 go_enter func198,ntmps198
 go_wp2
 go_ret
 exact ⟨rfl,(aa _ _).alloc (ac _) _⟩
theorem AM (w:World) (a:Int):Calls prog 181 #[.int .i64 a] w fun e w'=>e = .returned (.bool false)/\w=w':=by
 go_enter func181,ntmps181
 go_wp2
 go_ret
 exact ⟨by simp,rfl⟩
def H7 (a b:Int):Int:=if a < b then -1 else if b < a then 1 else 0
theorem Gf (w:World) (a b:Int):Calls prog 201 #[.int .i64 a,.int .i64 b] w fun e w'=>e = .returned (.int .i64 (H7 a b))/\w=w':=by
 by_cases h:a < b
 ·go_enter func201,ntmps201
  go_wp2_with (go_at_call 181;refine (AM _ _).mono ?_;rintro e w' ⟨rfl,rfl⟩)
  go_ret
  exact ⟨bM (by simp [H7,h]),rfl⟩
 ·by_cases h2:b < a
  ·go_enter func201,ntmps201
   go_wp2_with (go_at_call 181;refine (AM _ _).mono ?_;rintro e w' ⟨rfl,rfl⟩)
   go_ret
   exact ⟨bM (by simp [H7,h,h2]),rfl⟩
  ·go_enter func201,ntmps201
   go_wp2_with (go_at_call 181;refine (AM _ _).mono ?_;rintro e w' ⟨rfl,rfl⟩)
   go_ret
   exact ⟨bM (by rw [H7,ai (by omega),ai (by omega)]),rfl⟩
def Made (w:World) (P:List S2->Prop) (e:Ending) (w':World):Prop:=∃ v x,e = .returned v/\Sp.Own w' w.heap.size 295 v x/\P x/\Below w.heap.size w w'
theorem aI {P:Program} {f:Nat} {args:Array Value} {B:Nat} {a b:Bool} (e:a=b) (c:Calls P f args w fun e w'=>e = .returned (.bool a)/\Below B w w'):Calls P f args w fun e w'=>e = .returned (.bool b)/\Below B w w':=by rw [← e];exact c
def bZ (X l:List S2):Prop:=Plain l/\∀ t,Low l t↔Low X t
theorem bZ.one {x:List S2} (ha:bZ x a) (hb:bZ x b):a=b:=rG ha.1 hb.1 fun t=>(ha.2 t).trans (hb.2 t).symm
end Wi
namespace Se
open Sp Go.Proofs.YtdbdacceecnpmaaGreatDoor.Wi
open Tk (bA bQ Jr eD AB)
section
variable {n:Nat} {A R:Nat->Int}
theorem Jj (A R:Nat->Int) (n:Nat) (m:Int):0<=bQ A R n m/\bQ A R n m<=4294967296:=⟨(eD A R n m).lo,(eD A R n m).hi⟩
variable {a b:Int}
theorem EW (h:a<=b):bQ A R n a<=bQ A R n b:=by
 have x:=eD A R n a;have y:=eD A R n b;have y0:=y.lo;have x1:=x.hi
 rcases Wi.wX (bQ A R n b) (bQ A R n a) with c | c
 ·have p:=y.there (by omega)
  have q:=x.before _ y.lo c
  omega
 ·exact c
theorem RI (g:bA n A R) (t:Int) (h0:0<=t) (h1:t < 4294967296):Tk.Loc A R n (t+1)<=Tk.Loc A R n t+2:=by
 obtain ⟨c,_,c1,e⟩:=Tk.JU g t;unfold Tk.Loc;rw [Tk.ep (by omega) (by omega),Tk.ep (by omega) (by omega),e]
 omega
theorem mJ (g:bA n A R) (h1:a<=4000000000):bQ A R n a < 4294967296:=by
 have x:=eD A R n a;have b:=(Tk.Uk g 4294967295 (by omega) (by omega)).2;have x1:=x.hi
 rcases Wi.wX (bQ A R n a) 4294967296 with c | c
 ·exact c
 ·have:=x.before 4294967295 (by omega) (by omega)
  omega
theorem Io (g:bA n A R) (h1:a<=4000000000):a<=Tk.Loc A R n (bQ A R n a):=(eD A R n a).there (mJ g h1)
theorem TV (g:bA n A R):Tk.Loc A R n 0=0:=by
 rw [Tk.Loc,Tk.ep (by omega) (by omega),Tk.mH g]
 rfl
theorem Zx (g:bA n A R) (h0:0<=a):Tk.Loc A R n (bQ A R n a)<=a+1:=by
 have x:=eD A R n a;have x0:=x.lo;have x1:=x.hi
 rcases Wi.wX 0 (bQ A R n a) with c | c
 ·have p:=x.before (bQ A R n a - 1) (by omega) (by omega)
  have s:=RI g (bQ A R n a - 1) (by omega) (by omega);rw [show bQ A R n a - 1+1=bQ A R n a by omega] at s
  omega
 ·have e:bQ A R n a=0:=by omega
  rw [e,TV g]
  omega
theorem aao (g:bA n A R) (h0:0<=a) (h:a+2<=b) (h1:b<=4000000000):bQ A R n a < bQ A R n b:=by
 have p:=Zx g h0;have q:=Io g h1;have m:=EW (A:=A) (R:=R) (n:=n) (show a<=b by omega)
 rcases Wi.wX (bQ A R n a) (bQ A R n b) with c | c
 ·exact c
 ·have e:bQ A R n a=bQ A R n b:=by omega
  rw [e] at p
  omega
end
def kR (g:Int->Int) (F:Nat->Bool) (m:Int):Nat->List S2
 | 0=>[]
 | k+1=>if F k then kR g F m k else kR g F m k ++ [(g (m+16 * k),g (m+16 * k+16))]
section
variable {g:Int->Int} {F:Nat->Bool} {m:Int}
variable {k:Nat}
theorem Kq (h:F k=true):kR g F m (k+1)=kR g F m k:=by rw [kR,an h]
theorem KM (h:F k=false):kR g F m (k+1)=kR g F m k ++ [(g (m+16 * k),g (m+16 * k+16))]:=by rw [kR,ai (by simp [h])]
theorem xZ:∀ k,(kR g F m k).length<=k
 | 0=>ac _
 | k+1=>by
   have:=xZ k;rw [kR]
   split
   ·omega
   ·simp;omega
theorem lN {s:S2} : ∀ {k},s∈kR g F m k↔∃ i:Nat,i < k/\F i=false/\s=(g (m+16 * i),g (m+16 * i+16))
 | 0=>by simp [kR]
 | k+1=>by
   cases h:F k with
   | true =>
     rw [Kq h,lN]
     constructor
     ·rintro ⟨i,a,b⟩
      exact ⟨i,by omega,b⟩
     ·rintro ⟨i,a,b,c⟩
      by_cases e:i=k
      ·subst e;rw [h] at b;cases b
      ·exact ⟨i,by omega,b,c⟩
   | false =>
     rw [KM h,dy,lN]
     constructor
     ·rintro (⟨i,a,b⟩ | c)
      ·exact ⟨i,by omega,b⟩
      ·exact ⟨k,by omega,h,by simpa using c⟩
     ·rintro ⟨i,a,b,c⟩
      by_cases e:i=k
      ·subst e;exact .inr (by simpa using c)
      ·exact .inl ⟨i,by omega,b,c⟩
end
end Se
namespace Sa
open Sp Go.Proofs.YtdbdacceecnpmaaGreatDoor.Wi Go.Proofs.YtdbdacceecnpmaaGreatDoor.Se
open Tk (bA bQ Jr eD AB PP)
structure Calm (n:Nat) (A R:Nat->Int) (B:Int):Prop where
 good:bA n A R
 lo:0<=B
 bd:∀ i,i < n->-B<=R i/\R i<=B
section
variable {n:Nat} {A R:Nat->Int} {B:Int}
theorem Calm.rt (g:Calm n A R B) (k:Nat) (h:k<=n) : -B<=Tk.rt R k/\Tk.rt R k<=B:=by
 have:=g.lo
 cases k with
 | zero=>exact ⟨by simp [Tk.rt];omega,by simp [Tk.rt];omega⟩
 | succ k=>exact g.bd k (by omega)
theorem Tg (g:Calm n A R B) (t:Int):∃ c,1000000 - B<=c/\c<=1000000+B/\PP A R n (t+1)=PP A R n t+c:=by
 have s:=Tk.tX A n t;generalize hk:Tk.stop A n t=k at s;obtain ⟨s1,s2,s3⟩:=s;rw [Tk.oQ ⟨s1,s2,s3⟩]
 by_cases hn:k < n/\A k < t+1
 ·obtain ⟨hn,ha⟩:=hn
  have e:A k=t:=by have:=s3 hn;omega
  have st:Tk.dY A n (t+1) (k+1):=by
   refine ⟨hn,fun i hi=>?_,fun h=>?_⟩
   ·by_cases c:i=k
    ·subst c;exact ha
    ·have:=s2 i (by omega);omega
   ·have:=g.good.up k h;omega
  rw [Tk.oQ st];have b:=g.bd k hn;refine ⟨1000000+R k,by omega,by omega,?_⟩
  show Tk.sm A R k+(A k - Tk.fr A k) * (1000000+Tk.rt R k)+(t+1 - A k) * (1000000+R k)=Tk.sm A R k+(t - Tk.fr A k) * (1000000+Tk.rt R k)+(1000000+R k)
  rw [e,show t+1 - t=1 by omega,Int.one_mul]
 ·have st:Tk.dY A n (t+1) k:=by
   refine ⟨s1,fun i hi=>?_,fun h=>?_⟩
   ·have:=s2 i hi;omega
   ·have:=s3 h;omega
  rw [Tk.oQ st];have b:=g.rt k s1;refine ⟨1000000+Tk.rt R k,by omega,by omega,?_⟩;unfold Tk.pp;rw [show t+1 - Tk.fr A k=(t - Tk.fr A k)+1 by omega,Int.add_mul,Int.one_mul]
  omega
theorem Xo (g:Calm n A R B) (t:Int) (d:Nat):PP A R n t+(1000000 - B) * d<=PP A R n (t+d)/\PP A R n (t+d)<=PP A R n t+(1000000+B) * d:=by
 induction d with
 | zero=>simp
 | succ d ih =>
   obtain ⟨c,c1,c2,e⟩:=Tg g (t+d);rw [show t+((d+1:Nat):Int)=t+d+1 by omega,e];have e1:(1000000 - B) * ((d+1:Nat):Int)=(1000000 - B) * d+(1000000 - B):=by rw [show ((d+1:Nat):Int)=d+1 by omega,Int.mul_add,Int.mul_one]
   have e2:(1000000+B) * ((d+1:Nat):Int)=(1000000+B) * d+(1000000+B):=by rw [show ((d+1:Nat):Int)=d+1 by omega,Int.mul_add,Int.mul_one]
   rw [e1,e2];generalize (1000000 - B) * (d:Int)=x at *;generalize (1000000+B) * (d:Int)=y at *
   omega
variable {t u B' a:Int}
theorem pF (g:Calm n A R B) (h:t<=u):PP A R n t+(1000000 - B) * (u - t)<=PP A R n u/\PP A R n u<=PP A R n t+(1000000+B) * (u - t):=by
 have:=Xo g t (u - t).toNat;rw [show t+((u - t).toNat:Int)=u by omega,show ((u - t).toNat:Int)=u - t by omega] at this;exact this
theorem Calm.up (g:Calm n A R B) (h:B<=B'):Calm n A R B':=⟨g.good,by have:=g.lo;omega,fun i hi=>by have:=g.bd i hi;omega⟩
theorem qQ (g:Calm n A R B) (h0:0<=a) (h1:a<=4000000000):1000000 * a<=PP A R n (bQ A R n a)/\PP A R n (bQ A R n a)<=1000000 * a+999999+B:=by
 have x:=eD A R n a;have x0:=x.lo;have x1:=mJ g.good h1;have q:=Io g.good h1;have b0:=g.lo;unfold Tk.Loc at q;rw [Tk.ep (by omega) (by omega)] at q;refine ⟨by omega,?_⟩
 rcases Wi.wX 0 (bQ A R n a) with c | c
 ·have p:=x.before (bQ A R n a - 1) (by omega) (by omega)
  unfold Tk.Loc at p;rw [Tk.ep (by omega) (by omega)] at p;obtain ⟨d,_,d1,e⟩:=Tg g (bQ A R n a - 1);rw [show bQ A R n a - 1+1=bQ A R n a by omega] at e
  omega
 ·have e:bQ A R n a=0:=by omega
  rw [e,Tk.mH g.good]
  omega
theorem YX (h0:0<=u) (h:1000000 * a<=PP A R n u):bQ A R n a<=u:=by
 have x:=eD A R n a
 rcases Wi.wX u (bQ A R n a) with c | c
 ·have p:=x.before u h0 c
  have:=x.hi;unfold Tk.Loc at p;rw [Tk.ep (by omega) (by omega)] at p
  omega
 ·exact c
theorem Qa (g:Calm n A R B) (h1:a<=4000000000) (h:PP A R n u < 1000000 * a):u < bQ A R n a:=by
 have q:=Io g.good h1;have x0:=(eD A R n a).lo;have x1:=mJ g.good h1;unfold Tk.Loc at q;rw [Tk.ep (by omega) (by omega)] at q
 rcases Wi.wX u (bQ A R n a) with c | c
 ·exact c
 ·have:=Tk.Bz g.good c
  omega
end
def maj (a b c:Bool):Bool:=a && b || a && c || b && c
def heard (low:Int->Bool) (g:Int->Int) (N:Int) (i:Nat):Bool:=maj (!low (g (N+16 * i+7))) (!low (g (N+16 * i+8))) (!low (g (N+16 * i+9)))
theorem QC (a:Bool):maj a a a=a:=by cases a <;> rfl
theorem VS {n n':Nat} {A R A' R':Nat->Int} (g:Calm n A R 10000) (g':Calm n' A' R' 10000) {m:Int} (m0:0<=m) (m1:m<=1073741824) (i:Nat) (hi:i < 11) (j:Int) (j0:7<=j) (j1:j<=9) :
 bQ A R n (m+16 * i)<=bQ A' R' n' (Tk.Loc A' R' n' (bQ A R n m)+16 * i+j)/\bQ A' R' n' (Tk.Loc A' R' n' (bQ A R n m)+16 * i+j) < bQ A R n (m+16 * i+16):=by
 have t:=qQ g m0 (by omega);have t0:=(eD A R n m).lo;have t1:=mJ g.good (show m<=4000000000 by omega);have t2:bQ A R n m<=1100000000:=by
  have b:=pF g (show 0<=bQ A R n m from t0);rw [Tk.mH g.good] at b
  omega
 have l:=Tk.Uk g'.good (bQ A R n m) t0 (by omega);have lp:1000000 * Tk.Loc A' R' n' (bQ A R n m)<=PP A' R' n' (bQ A R n m)/\PP A' R' n' (bQ A R n m)<=1000000 * Tk.Loc A' R' n' (bQ A R n m)+999999:=by
  unfold Tk.Loc;rw [Tk.ep (by omega) (by omega)]
  omega
 have l0:0<=Tk.Loc A' R' n' (bQ A R n m):=by
  unfold Tk.Loc;rw [Tk.ep (by omega) (by omega)];have:=(Tk.As g'.good (bQ A R n m) t0).1
  omega
 generalize Tk.Loc A' R' n' (bQ A R n m)=N at *;have u:=qQ g' (a:=N+16 * i+j) (by omega) (by omega);have u0:=(eD A' R' n' (N+16 * i+j)).lo;generalize bQ A' R' n' (N+16 * i+j)=U at *;have tu:bQ A R n m<=U:=by
  rcases Wi.wX U (bQ A R n m) with c | c
  ·have:=Tk.Bz g'.good (show U<=bQ A R n m by omega)
   omega
  ·exact c
 have b:=pF g tu;have b':=pF g' tu;generalize bQ A R n m=T at *;have lo:1000000 * (m+16 * (i:Int))<=PP A R n U:=by omega
 have hi':PP A R n U < 1000000 * (m+16 * (i:Int)+16):=by omega
 exact ⟨YX u0 lo,Qa g (by omega) hi'⟩
theorem Wj (A R:Nat->Int) (n:Nat) (g:bA n A R) (t:Int):0<=Tk.Loc A R n t/\Tk.Loc A R n t<=4400000000:=by
 have h0:=Tk.OU t;have h1:=Tk.Rz t;have:=Tk.As g (Tk.jr t) h0;unfold Tk.Loc
 omega
end Sa
namespace Wi
open Sp
def idx (p:S2->Bool) (l:List S2):Int:=match (List.range l.length).find? (fun i=>p (fr l i,tp l i)) with
 | some i=>i
 | none=>-1
variable {p:S2->Bool} {l x:List S2} {i:Nat}
theorem Bq (hi:i < l.length) (hp:p (fr l i,tp l i)=true) (hn:∀ j,j < i->p (fr l j,tp l j)=false):idx p l=i:=by
 have e:(List.range l.length).find? (fun i=>p (fr l i,tp l i))=some i:=by
  rw [List.find?_range_eq_some];exact ⟨hp,by simpa using hi,fun j hj=>by simp [hn j hj]⟩
 simp [idx,e]
theorem yC (hn:∀ j,j < l.length->p (fr l j,tp l j)=false):idx p l = -1:=by
 have e:(List.range l.length).find? (fun i=>p (fr l i,tp l i))=none:=by
  rw [ic]
  intro i hi
  simp [hn i (by simpa using hi)]
 simp [idx,e]
theorem Ah (p:S2->Bool) (l:List S2):(∃ i:Nat,i < l.length/\p (fr l i,tp l i)=true/\(∀ j,j < i->p (fr l j,tp l j)=false)/\idx p l=i)\/((∀ j,j < l.length->p (fr l j,tp l j)=false)/\idx p l = -1):=by
 rcases h:(List.range l.length).find? (fun i=>p (fr l i,tp l i)) with _ | i
 ·right
  rw [ic] at h;have hn:∀ j,j < l.length->p (fr l j,tp l j)=false:=fun j hj=>by simpa using h j (by simpa using hj)
  exact ⟨hn,yC hn⟩
 ·left
  rw [List.find?_range_eq_some] at h;have hi:i < l.length:=by simpa using h.2.1
  have hn:∀ j,j < i->p (fr l j,tp l j)=false:=fun j hj=>by simpa using h.2.2 j hj
  exact ⟨i,hi,h.1,hn,Bq hi h.1 hn⟩
def gM (f t:Int) (s:S2):Bool:=decide (f<=s.1) && decide (s.1 < t)
def fD (x:List S2) (f t:Int):Int×Bool:=if 0<=idx (gM f t) x then (fr x (idx (gM f t) x).toNat,true) else (0,false)
variable {f t:Int}
theorem Dr (e:idx (gM f t) x=i):fD x f t=(fr x i,true):=by
 unfold fD;rw [e,an (by omega)]
 simp
theorem Aj (e:idx (gM f t) x = -1):fD x f t=(0,false):=by
 unfold fD;rw [e,ai (by omega)]
end Wi
namespace Bu
open Sp Go.Proofs.YtdbdacceecnpmaaGreatDoor.Wi Go.Proofs.YtdbdacceecnpmaaGreatDoor.Se Go.Proofs.YtdbdacceecnpmaaGreatDoor.Sa
open Tk (bA bQ Jr eD AB PP)
structure dM where
 n:Nat
 A:Nat->Int
 R:Nat->Int
noncomputable def dM.g (o:dM) (m:Int):Int:=bQ o.A o.R o.n m
def dM.calm (o:dM):Prop:=Sa.Calm o.n o.A o.R 2000
variable {a b:Int}
theorem ahead {o p:dM} (ho:o.calm) (hp:p.calm) (a0:0<=a) (a1:a<=4000) (hab:a+18<=b) (b1:b<=5000):o.g a < p.g b:=by
 unfold dM.calm at ho hp;unfold dM.g;have t:=(qQ ho a0 (by omega)).2;have t0:=(eD o.A o.R o.n a).lo;generalize bQ o.A o.R o.n a=T at *;have s:=(pF ho t0).1;have s':=(pF hp t0).2;rw [Tk.mH ho.good] at s;rw [Tk.mH hp.good] at s';exact Qa hp (by omega) (by omega)
theorem dM.mono (o:dM) (h:a<=b):o.g a<=o.g b:=EW h
abbrev V9:=Nat->Option (dM×(Nat->Bool))
structure Fit (f:V9):Prop where
 calm:∀ k o F,f k=some (o,F)->o.calm
 low:∀ k o F,f k=some (o,F)->F 0=false
def wW (f:V9) (k:Nat) (u:Int):Prop:=∃ o F,f k=some (o,F)/\∃ i:Nat,i < 11/\F i=false/\o.g (224 * k+16 * i)<=u/\u < o.g (224 * k+16 * i+16)
def rD (f:V9) (u:Int):Prop:=∃ k:Nat,1<=k/\k<=16/\wW f k u
section
variable {f:V9}
variable {k k' i:Nat} {u:Int} {o r:dM} {F:Nat->Bool}
theorem tC (e:f k=some (o,F)) (h:wW f k u):o.g (224 * k)<=u/\u < o.g (224 * k+176):=by
 obtain ⟨o',F',e',i,hi,_,h1,h2⟩:=h;rw [e] at e';injection e' with e';injection e' with e1 _;subst e1;have:=o.mono (show 224 * (k:Int)<=224 * k+16 * i by omega);have:=o.mono (show 224 * (k:Int)+16 * i+16<=224 * k+176 by omega)
 omega
theorem pQ (h:wW f k u):∃ o F,f k=some (o,F):=by
 obtain ⟨o,F,e,_⟩:=h;exact ⟨o,F,e⟩
theorem other (hf:Fit f) (hr:r.calm) (h1:1<=k) (h2:k<=16) (h3:1<=k') (h4:k'<=16) (hne:k'≠k) (u0:r.g (224 * k - 20)<=u+1) (u1:u < r.g (224 * k+20)):¬ wW f k' u:=fun h=>by
 obtain ⟨o,F,e⟩:=pQ h;have a:=tC e h;have c:=hf.calm k' o F e
 rcases Nat.lt_or_gt_of_ne hne with q | q
 ·have:=ahead c hr (a:=224 * k'+176) (b:=224 * k - 20) (by omega) (by omega) (by omega) (by omega)
  omega
 ·have:=ahead hr c (a:=224 * k+20) (b:=224 * k') (by omega) (by omega) (by omega) (by omega)
  omega
theorem Zh (hf:Fit f) (h2:k<=16) (h4:k'<=16) (hne:k'≠k) (e:f k=some (o,F)) (u0:o.g (224 * k)<=u) (u1:u < o.g (224 * k+176)):¬ wW f k' u:=fun h=>by
 obtain ⟨o',F',e'⟩:=pQ h;have b:=tC e' h;have c:=hf.calm k o F e;have d:=hf.calm k' o' F' e'
 rcases Nat.lt_or_gt_of_ne hne with q | q
 ·have:=ahead d c (a:=224 * k'+176) (b:=224 * k) (by omega) (by omega) (by omega) (by omega)
  omega
 ·have:=ahead c d (a:=224 * k+176) (b:=224 * k') (by omega) (by omega) (by omega) (by omega)
  omega
theorem Kr (hf:Fit f) (h1:1<=k) (h2:k<=16) (e:f k=some (o,F)) (hi:i < 11) (u0:o.g (224 * k+16 * i)<=u) (u1:u < o.g (224 * k+16 * i+16)):rD f u↔F i=false:=by
 constructor
 ·rintro ⟨k',h3,h4,h⟩
  have m0:=o.mono (show 224 * (k:Int)<=224 * k+16 * i by omega);have m1:=o.mono (show 224 * (k:Int)+16 * i+16<=224 * k+176 by omega)
  by_cases q:k'=k
  ·subst q
   obtain ⟨o',F',e',i',hi',hF,a,b⟩:=h;rw [e] at e';injection e' with e';injection e' with e1 e2;subst e1 e2
   rcases Nat.lt_trichotomy i' i with c | c | c
   ·have:=o.mono (show 224 * (k':Int)+16 * i'+16<=224 * k'+16 * i by omega)
    omega
   ·subst c;exact hF
   ·have:=o.mono (show 224 * (k':Int)+16 * i+16<=224 * k'+16 * i' by omega)
    omega
  ·exact absurd h (Zh hf h2 h4 q e (by omega) (by omega))
 ·exact fun hF=>⟨k,h1,h2,o,F,e,i,hi,hF,u0,u1⟩
theorem MN (hf:Fit f) (h1:1<=k) (h2:k<=16) (e:f k=some (o,F)):rD f (o.g (224 * k)):=by
 have c:=hf.calm k o F e;have q:=aao c.good (a:=224 * (k:Int)) (b:=224 * k+16) (by omega) (by omega) (by omega);refine (Kr hf h1 h2 e (i:=0) (by omega) (u:=o.g (224 * k)) ?_ ?_).2 (hf.low k o F e)
 ·simp
 ·show o.g (224 * (k:Int)) < o.g (224 * (k:Int)+16 * ((0:Nat):Int)+16)
  rw [show 224 * (k:Int)+16 * ((0:Nat):Int)+16=224 * k+16 by omega];exact q
end
section
variable {f:V9} {x l:List S2}
theorem lY (hx:Plain x) {s:S2} (hs:s∈x):Low x s.1/\¬ Low x (s.1 - 1):=by
 refine ⟨⟨s,hs,gR _,hx.1 s hs⟩,?_⟩;rintro ⟨q,hq,a,b⟩;obtain ⟨i,hi,e1⟩:=dv hs;obtain ⟨j,hj,e2⟩:=dv hq;have pw:=fi.1 hx.2
 rcases Nat.lt_trichotomy i j with c | c | c
 ·have:=pw i j hi hj c
  rw [e1,e2] at this;have:=hx.1 s hs
  omega
 ·subst c
  rw [e1] at e2;subst e2
  omega
 ·have:=pw j i hj hi c
  rw [e1,e2] at this
  omega
theorem Db {t:Int} (h:Low x t) (h':¬ Low x (t - 1)):∃ s∈x,s.1=t:=by
 obtain ⟨s,hs,a,b⟩:=h;refine ⟨s,hs,?_⟩
 rcases Wi.wX s.1 t with c | c
 ·exact absurd ⟨s,hs,by omega,by omega⟩ h'
 ·omega
variable {r o:dM} {k i:Nat} {F:Nat->Bool}
theorem xw (hf:Fit f) (hr:r.calm) (h1:1<=k) (h2:k<=16) (e:f k=some (o,F)) {u:Int} (u0:r.g (224 * k - 20)<=u+1) (u1:u < o.g (224 * k)):¬ rD f u:=by
 rintro ⟨k',h3,h4,h⟩;have c:=hf.calm k o F e
 by_cases q:k'=k
 ·subst q
  have:=(tC e h).1
  omega
 ·have:=ahead c hr (a:=224 * k) (b:=224 * k+20) (by omega) (by omega) (by omega) (by omega)
  exact other hf hr h1 h2 h3 h4 q u0 (by omega) h
theorem NR (hf:Fit f) (hx:Plain x) (hl:∀ u,Low x u↔rD f u) (hr:r.calm) (h1:1<=k) (h2:k<=16) (e:f k=some (o,F)):fD x (r.g (224 * k - 20)) (r.g (224 * k+20))=(o.g (224 * k),true):=by
 have c:=hf.calm k o F e;have a0:=ahead hr c (a:=224 * k - 20) (b:=224 * k) (by omega) (by omega) (by omega) (by omega);have a1:=ahead c hr (a:=224 * k) (b:=224 * k+20) (by omega) (by omega) (by omega) (by omega);have b0:=(hl _).2 (MN hf h1 h2 e);have b1:¬ Low x (o.g (224 * k) - 1):=fun h=>xw hf hr h1 h2 e (by omega) (by omega) ((hl _).1 h);obtain ⟨s,hs,es⟩:=Db b0 b1;obtain ⟨i,hi,e1,e2⟩:=mem_iff.1 hs;have hp:gM (r.g (224 * k - 20)) (r.g (224 * k+20)) (fr x i,tp x i)=true:=by
  unfold gM;rw [e1,es];simp only [br,cI]
  omega
 have hn:∀ j,j < i->gM (r.g (224 * k - 20)) (r.g (224 * k+20)) (fr x j,tp x j)=false:=fun j hj=>by
  rcases hq:gM (r.g (224 * k - 20)) (r.g (224 * k+20)) (fr x j,tp x j) with _ | _
  ·rfl
  ·exfalso
   unfold gM at hq;simp only [br,cI] at hq;have hm:=qG (l:=x) (i:=j) (by omega);have g:=(lY hx hm).1;have lt:fr x j < o.g (224 * k):=by
    have pw:=fi.1 hx.2;have hmi:=qG hi;have q1:=hx.1 _ hm;have:=hx.1 _ hmi;have gj:x[j]? = some (fr x j,tp x j):=by
     have:=am (show j < x.length by omega);rw [this]
     simp [fr,tp,List.getD_eq_getElem?_getD,List.getElem?_eq_getElem (show j < x.length by omega)]
    have gi:x[i]? = some (fr x i,tp x i):=by
     rw [am hi]
     simp [fr,tp,List.getD_eq_getElem?_getD,List.getElem?_eq_getElem hi]
    have q:=pw j i (by omega) hi hj;rw [am (by omega)] at gj;rw [am hi] at gi;injection gj with gj;injection gi with gi;rw [gj,gi] at q;simp only at q q1
    omega
   exact xw hf hr h1 h2 e (by omega) lt ((hl _).1 g)
 rw [Dr (Bq hi hp hn),e1,es]
theorem L8 (hf:Fit f) (hx:Plain x) (hl:∀ u,Low x u↔rD f u) (hr:r.calm) (h1:1<=k) (h2:k<=16) (e:f k=none):fD x (r.g (224 * k - 20)) (r.g (224 * k+20))=(0,false):=by
 refine Aj (yC fun j hj=>?_)
 rcases hq:gM (r.g (224 * k - 20)) (r.g (224 * k+20)) (fr x j,tp x j) with _ | _
 ·rfl
 ·exfalso
  unfold gM at hq;simp only [br,cI] at hq;obtain ⟨k',h3,h4,h⟩:=(hl _).1 (lY hx (qG hj)).1
  by_cases q:k'=k
  ·subst q
   obtain ⟨o,F,e',_⟩:=h;rw [e] at e'
   cases e'
  ·exact other hf hr h1 h2 h3 h4 q (by simp only;omega) (by simp only;omega) h
theorem Mw (hf:Fit f) (hl:∀ u,Low l u↔rD f u) (hr:r.calm) (h1:1<=k) (h2:k<=16) (e:f k=some (o,F)) (hi:i < 11) :
 heard (bT l) (bQ r.A r.R r.n) (Tk.Loc r.A r.R r.n (o.g (224 * k))) i=F i:=by
 have c:Sa.Calm o.n o.A o.R 10000:=Sa.Calm.up (hf.calm k o F e) (by omega);have d:Sa.Calm r.n r.A r.R 10000:=Sa.Calm.up hr (by omega);have look:∀ j:Int,7<=j->j<=9->bT l (bQ r.A r.R r.n (Tk.Loc r.A r.R r.n (o.g (224 * k))+16 * i+j)) = !F i:=fun j j0 j1=>by
  obtain ⟨q0,q1⟩:=VS c d (m:=224 * (k:Int)) (by omega) (by omega) i hi j j0 j1;have b:=Kr hf h1 h2 e hi (u:=bQ r.A r.R r.n (Tk.Loc r.A r.R r.n (o.g (224 * k))+16 * i+j)) q0 q1
  rcases hF:F i with _ | _
  ·exact vO.2 ((hl _).2 (b.2 hF))
  ·refine vZ.2 fun h=>?_
   have:=b.1 ((hl _).1 h);rw [hF] at this
   cases this
 unfold heard;rw [look 7 (by omega) (by omega),look 8 (by omega) (by omega),look 9 (by omega) (by omega),QC]
 simp
end
open Go.RowKit
open Sp (S2 fr tp)
open Wi (Plain bZ Low bT fD)
open Sa (heard)
open Ck (sN)
open Pa (YE xO Iq hr sq sq1 tn wI)
open Ua (Af tb te)
instance:Inhabited dM:=⟨⟨0,fun _=>0,fun _=>0⟩⟩
def jC (O:List dM) (i:Int):dM:=O.getD i.toNat default
def Jv (S:bW) (T:LL) (V:List Bool) (P:List (Int×Int)) (O:List dM):V9:=fun k=>if jQ S T V k=true then some (jC O (sN k T),oh S T V P k) else none
theorem Fj (P:List (Int×Int)) (s:Int) (F:Nat->Bool):sq P s F P.length 0=F 0:=by
 unfold sq;rw [cX]
 induction P generalizing F with
 | nil=>rfl
 | cons x r ih =>
   rw [cd,ih];unfold sq1
   split
   ·rfl
   ·rfl
theorem Um (S:bW) (T:LL) (V:List Bool) (P:List (Int×Int)) (s:Int):oh S T V P s 0=false:=by
 unfold oh
 split
 ·rw [Fj];rfl
 ·rfl
section
variable {S:bW} {T:LL} {V:List Bool} {P:List (Int×Int)} {O:List dM}
variable {k i:Nat}
theorem AY (h:jQ S T V k=true):Jv S T V P O k=some (jC O (sN k T),oh S T V P k):=an h
theorem Cc (h:jQ S T V k=false):Jv S T V P O k=none:=ai (by rw [h];exact ef)
theorem Jn (h:jQ S T V k=true):0<=sN k T:=by
 unfold jQ at h;simp only [br,cI] at h;exact h.1.1
theorem mz (hO:∀ o∈O,o.calm) (hi:i < O.length):(jC O i).calm:=by
 unfold jC;rw [cJ,af,am hi];exact hO _ (dk hi)
theorem VK (ok:tE T=0) (hl:O.length=T.length) (hO:∀ o∈O,o.calm):Fit (Jv S T V P O):=by
 refine ⟨fun k o F e=>?_,fun k o F e=>?_⟩
 all_goals
  cases hs:jQ S T V k with
  | false=>rw [Cc hs] at e;cases e
  | true =>
    rw [AY hs] at e;injection e with e;injection e with e1 e2;subst e1 e2
    first
     | exact Um S T V P k
     | (obtain ⟨n,en,hn,_⟩:=gD ok (Jn hs)
        rw [en]
        exact mz hO (by omega))
end
variable {F G:Nat->Bool}
theorem qT (h:∀ i,i < 11->F i=G i):Ua.bad F=Ua.bad G:=by unfold Ua.bad;rw [h 0 (by omega),h 10 (by omega)]
theorem S7 (h:∀ i,i < 11->F i=G i):tb F=tb G:=by unfold tb;rw [qT h,Ua.val_congr 8 fun i _ hi=>h i (by omega)]
theorem Td (h:∀ i,i < 11->F i=G i):Ua.tp F=Ua.tp G:=by unfold Ua.tp;rw [qT h,Ua.zT 9 fun i _ hi=>h i (by omega)]
theorem Rb (h:∀ i,i < 11->F i=G i):te F=te G:=by unfold te;rw [qT h]
noncomputable def YW (x l:List S2) (r:dM) (f t:Int):Int×Bool×Int :=
 if (fD x f t).2 then (tb (heard (bT l) (Tk.bQ r.A r.R r.n) (Tk.Loc r.A r.R r.n (fD x f t).1)),Ua.tp (heard (bT l) (Tk.bQ r.A r.R r.n) (Tk.Loc r.A r.R r.n (fD x f t).1)),te (heard (bT l) (Tk.bQ r.A r.R r.n) (Tk.Loc r.A r.R r.n (fD x f t).1))) else (0,false,3)
noncomputable def ko (x l:List S2) (r:dM) (s:Int):Int×Bool×Int:=YW x l r (r.g (224 * s - 20)) (r.g (224 * s+20))
noncomputable def Gr (x l:List S2) (r:dM):Hr:=fun s=>if 1<=s/\s<=16/\(ko x l r s).2.2=0/\(ko x l r s).2.1=false then some (ko x l r s).1 else none
section
variable {S:bW} {T:LL} {V:List Bool} {P:List (Int×Int)} {O:List dM} {x l:List S2} {r:dM}
theorem Rc (ok:tE T=0) (hl:O.length=T.length) (hO:∀ o∈O,o.calm) (hx:bZ l x) (hL:∀ u,Low l u↔rD (Jv S T V P O) u) (hr':r.calm) {k:Nat} (h1:1<=k) (h2:k<=16) :
 ko x l r k=if jQ S T V k=true then (tb (oh S T V P k),Ua.tp (oh S T V P k),te (oh S T V P k)) else (0,false,3):=by
 have F:=VK (S:=S) (V:=V) (P:=P) ok hl hO;have hX:∀ u,Low x u↔rD (Jv S T V P O) u:=fun u=>(hx.2 u).trans (hL u)
 cases hs:jQ S T V k with
 | true =>
   have e:=AY (P:=P) (O:=O) hs;have q:=NR F hx.1 hX hr' h1 h2 e;have g:=fun i hi=>Mw F hL hr' h1 h2 e (i:=i) hi;unfold ko YW;rw [q];simp only [if_true];rw [S7 g,Td g,Rb g]
 | false =>
   have q:=L8 F hx.1 hX hr' h1 h2 (Cc (P:=P) (O:=O) hs);unfold ko YW;rw [q]
   rfl
theorem Qi (ok:tE T=0) (hl:O.length=T.length) (hO:∀ o∈O,o.calm) (hx:bZ l x) (hL:∀ u,Low l u↔rD (Jv S T V P O) u) (hr':r.calm):Gr x l r=hr S T V P:=funext fun s=>by
 unfold Gr hr
 by_cases hb:1<=s/\s<=16
 ·obtain ⟨k,rfl⟩:∃ k:Nat,s=k:=⟨s.toNat,by omega⟩
  rw [Rc ok hl hO hx hL hr' (k:=k) (by omega) (by omega)]
  cases hs:jQ S T V k with
  | false =>
    have hB:xO S T V P k=false:=by unfold xO;rw [hs];rfl
    rw [hB]
    simp
  | true =>
    simp only [if_true];have hB:xO S T V P k=(decide (te (oh S T V P k)=0) && !Ua.tp (oh S T V P k)):=by unfold xO;rw [hs];rfl
    by_cases q:te (oh S T V P k)=0/\Ua.tp (oh S T V P k)=false
    ·have hT:xO S T V P k=true:=by rw [hB,az q.1,q.2];rfl
     rw [an ⟨hb.1,hb.2,q.1,q.2⟩,an ⟨hb.1,hb.2,hT⟩];unfold Iq;rw [an hT]
    ·rw [ai fun h=>q ⟨h.2.2.1,h.2.2.2⟩,ai fun h=>by
      have:=h.2.2;rw [hB] at this;simp only [br,cI,Bool.not_eq_true'] at this
      exact q this]
 ·rw [ai fun h=>hb ⟨h.1,h.2.1⟩,ai fun h=>hb ⟨h.1,h.2.1⟩]
end
def Ea (S:bW) (T:LL) (V:List Bool) (P:List (Int×Int)) (O:List dM) (j:Int) (u:Int):Prop:=∃ k:Nat,1<=k/\k<=16/\rU S T V k=j/\wW (Jv S T V P O) k u
section
variable {S:bW} {T:LL} {V:List Bool} {P:List (Int×Int)} {O:List dM}
theorem TJ (ok:tE T=0) {u:Int} : rD (Jv S T V P O) u↔∃ j:Nat,j < T.length/\Ea S T V P O j u:=by
 constructor
 ·rintro ⟨k,h1,h2,h⟩
  obtain ⟨o,F,e⟩:=pQ h;have hs:jQ S T V k=true:=by
   rcases q:jQ S T V k with _ | _
   ·rw [Cc q] at e;cases e
   ·rfl
  obtain ⟨n,en,hn,_⟩:=gD ok (Jn hs);exact ⟨n,hn,k,h1,h2,by unfold rU;rw [an hs,en],h⟩
 ·rintro ⟨j,_,k,h1,h2,_,h⟩
  exact ⟨k,h1,h2,h⟩
end
end Bu
namespace Tk
open Go.RowKit
def Steps (w:World) (v:Value) (n:Nat) (A R:Nat->Int):Prop :=
 (∃ (a:Option Addr) (cap:Nat),v = .slice a 0 cap/\cap<=maxLen/\n=0) \/
 ∃ (b off cap:Nat),v = .slice (some ⟨b,off,none⟩) n cap/\n<=cap/\cap<=maxLen /\
  ∀ i,i < n->w.cell? ⟨b,off+i * 2,none⟩=some (.int .i64 (A i))/\w.cell? ⟨b,off+i * 2+1,none⟩=some (.int .i64 (R i))
theorem Steps.below {w w':World} {v:Value} {n:Nat} {A R:Nat->Int} (h:Steps w v n A R) (b:Below w.heap.size w w'):Steps w' v n A R:=by
 rcases h with h | ⟨b0,off,cap,e,h1,h2,hc⟩
 ·exact .inl h
 ·refine .inr ⟨b0,off,cap,e,h1,h2,fun i hi=>?_⟩
  obtain ⟨c1,c2⟩:=hc i hi;exact ⟨fQ b c1,fQ b c2⟩
end Tk
namespace Bu
open Go.RowKit
open Sp (S2 fr tp Sp)
open Wi (Plain bZ Low iV)
open Ck (sN)
open Pa (hput hr jP Ae p9)
open Se (kR lN Jj)
def DW (w:World) (v:Value) (O:List dM):Prop:=∃ a cap,v = .slice a O.length cap/\O.length<=cap/\cap<=maxLen /\
 (0 < O.length->∃ b off,a=some ⟨b,off,none⟩/\∀ i:Nat,i < O.length->∃ u,w.cell? ⟨b,off+i,none⟩=some u/\Tk.Steps w u (jC O i).n (jC O i).A (jC O i).R)
theorem DW.below {w w':World} {v:Value} {O:List dM} (h:DW w v O) (hb:Below w.heap.size w w'):DW w' v O:=by
 obtain ⟨a,cap,e,h1,h2,h3⟩:=h;refine ⟨a,cap,e,h1,h2,fun hp=>?_⟩;obtain ⟨b,off,ea,hA⟩:=h3 hp;refine ⟨b,off,ea,fun i hi=>?_⟩;obtain ⟨u,c,r⟩:=hA i hi;exact ⟨u,fQ hb c,r.below hb⟩
theorem DW.slice {w:World} {v:Value} {O:List dM} (h:DW w v O):∃ a cap,v = .slice a O.length cap/\O.length<=cap/\cap<=maxLen:=by
 obtain ⟨a,cap,e,h1,h2,_⟩:=h;exact ⟨a,cap,e,h1,h2⟩
variable {w:World} {v:Value} {n m cap k:Nat} {A R:Nat->Int}
theorem nU (h:Tk.Steps w v n A R):∃ a cap,v = .slice a n cap/\n<=cap/\cap<=maxLen:=by
 rcases h with ⟨a,cap,rfl,h,rfl⟩ | ⟨b,off,cap,rfl,h0,h,_⟩
 ·exact ⟨a,cap,rfl,ce _,h⟩
 ·exact ⟨_,cap,rfl,h0,h⟩
theorem T8 {a:Option Addr} (h:Tk.Steps w (.slice a n cap) m A R) (hp:0 < n):m=n/\∃ b off,a=some ⟨b,off,none⟩/\∀ i,i < n->w.cell? ⟨b,off+i * 2,none⟩=some (.int .i64 (A i))/\w.cell? ⟨b,off+i * 2+1,none⟩=some (.int .i64 (R i)):=by
 rcases h with ⟨a',cap',e,h,rfl⟩ | ⟨b,off,cap',e,_,h,hc⟩
 ·injection e with _ e _;omega
 ·injection e with e1 e2 _
  subst e1 e2;exact ⟨rfl,b,off,rfl,hc⟩
variable {O:List dM}
theorem DW.one (h:DW w v O) (hk:k < O.length):∃ b off cap a' cap',v = .slice (some ⟨b,off,none⟩) O.length cap/\w.cell? ⟨b,off+k,none⟩=some (.slice a' (jC O k).n cap')/\((jC O k).n<=cap'/\cap'<=maxLen)/\Tk.Steps w (.slice a' (jC O k).n cap') (jC O k).n (jC O k).A (jC O k).R:=by
 obtain ⟨a,cap,e,h1,h2,h3⟩:=h;obtain ⟨b,off,rfl,hA⟩:=h3 (by omega);obtain ⟨u,c,s⟩:=hA k hk;obtain ⟨a',cap',rfl,h4⟩:=nU s;exact ⟨b,off,cap,a',cap',e,c,h4,s⟩
theorem WI (hk:k < O.length):jC O k∈O:=by
 unfold jC;rw [cJ,af,am hk];exact dk hk
noncomputable def iM (o:dM):Bool:=@decide o.calm (Classical.propDecidable _)
variable {o:dM}
theorem nC (h:o.calm):iM o=true:=by unfold iM;exact @decide_eq_true _ (Classical.propDecidable _) h
theorem TS (h:¬ o.calm):iM o=false:=by unfold iM;exact @decide_eq_false _ (Classical.propDecidable _) h
theorem FM (h:iM o=true):o.calm:=by unfold iM at h;exact @of_decide_eq_true _ (Classical.propDecidable _) h
def Pp (O:List dM):Prop:=∀ o∈O,o.calm
noncomputable def gL (O:List dM):Bool:=O.all iM
theorem qw (h:gL O=true):Pp O:=fun o ho=>FM (ew.1 h o ho)
theorem ET {S:bW} {T:LL} {V:List Bool} (hE:jP S T V=0):1<=S.length/\S.length<=32/\T.length=S.length/\V.length=S.length/\tE T=0:=by
 unfold jP at hE
 split at hE
 ·rename_i h
  exact ⟨h.1,h.2.1,h.2.2.1,h.2.2.2,hE⟩
 ·omega
noncomputable def Gj (S:bW) (T:LL) (V:List Bool) (O:List dM):Int:=if jP S T V=0 then (if O.length=S.length/\gL O=true then 0 else 1) else jP S T V
noncomputable def UK (S:bW) (T:LL) (V:List Bool) (P:List S2) (O:List dM):bW:=if Gj S T V O=0 then Ae S T V (hr S T V P) else []
section
variable {S:bW} {T:LL} {V:List Bool} {P:List S2} {O:List dM}
theorem mY (h:jP S T V≠0):Gj S T V O=jP S T V/\UK S T V P O = []:=by
 have e:Gj S T V O=jP S T V:=ai h;exact ⟨e,ai (by rw [e];exact h)⟩
theorem EU (h:jP S T V=0) (h':¬ (O.length=S.length/\gL O=true)):Gj S T V O=1/\UK S T V P O = []:=by
 have e:Gj S T V O=1:=by unfold Gj;rw [an h,ai h']
 exact ⟨e,ai (by rw [e];decide)⟩
theorem Bb (h:jP S T V=0) (h1:O.length=S.length) (h2:gL O=true):Gj S T V O=0/\UK S T V P O=Ae S T V (hr S T V P):=by
 have e:Gj S T V O=0:=by unfold Gj;rw [an h,an ⟨h1,h2⟩]
 exact ⟨e,an e⟩
end
theorem rQ:∀ (l:List S2) (a b:Int),a<=b->Plain l->(∀ s∈l,a<=s.1/\s.1 < b)->(l.length:Int)<=b - a
 | [],a,b,h,_,_=>by simp;omega
 | s :: r,a,b,h,hp,hs=>by
   have p:=Wi.fO.1 hp;have q:=hs s cy;have ih:=rQ r (s.1+1) b (by omega) p.1 fun x hx=>by
    have:=p.2.2 x hx;have:=hs x (ci _ hx)
    omega
   simp only [eE]
   omega
variable {l:List S2}
theorem qC (h:Plain l) (hl:∀ u,Low l u->0<=u/\u<=4294967296):l.length<=4294967297:=by
 have:=rQ l 0 4294967297 (by omega) h fun s hs=>by
  have:=hl s.1 (lY h hs).1
  omega
 omega
variable {f:V9}
theorem L5 {F:Nat->Bool} (e:f k=some (o,F)) (h:bZ (kR (Tk.bQ o.A o.R o.n) F (224 * (k:Int)) 11) l) (u:Int):Low l u↔wW f k u:=by
 rw [h.2 u]
 constructor
 ·rintro ⟨s,hs,a,b⟩
  obtain ⟨i,hi,hF,rfl⟩:=lN.1 hs;exact ⟨o,F,e,i,hi,hF,a,b⟩
 ·rintro ⟨o',F',e',i,hi,hF,a,b⟩
  rw [e] at e';injection e' with e';injection e' with e1 e2;subst e1 e2;exact ⟨_,lN.2 ⟨i,hi,hF,rfl⟩,a,b⟩
theorem Cz {u:Int} (h:wW f k u):0<=u/\u<=4294967296:=by
 obtain ⟨o,F,e⟩:=pQ h;have a:=tC e h;have b:=Jj o.A o.R o.n (224 * (k:Int));have c:=Jj o.A o.R o.n (224 * (k:Int)+176);unfold dM.g at a
 omega
def jG (S:bW) (T:LL) (V:List Bool) (P:List S2) (O:List dM) (j:Int) (k:Nat) (u:Int):Prop:=∃ i:Nat,1<=i/\i < k/\rU S T V i=j/\wW (Jv S T V P O) i u
section
variable {S:bW} {T:LL} {V:List Bool} {P:List S2} {O:List dM} {j:Int} {k:Nat} {u:Int}
theorem Mo:¬ jG S T V P O j 1 u:=fun ⟨i,h1,h2,_⟩=>by omega
theorem Nr:jG S T V P O j 17 u↔Ea S T V P O j u:=⟨fun ⟨i,h1,h2,h⟩=>⟨i,h1,by omega,h⟩,fun ⟨i,h1,h2,h⟩=>⟨i,h1,by omega,h⟩⟩
theorem MZ (h1:1<=k) (e:rU S T V k=j):jG S T V P O j (k+1) u↔jG S T V P O j k u\/wW (Jv S T V P O) k u:=by
 constructor
 ·rintro ⟨i,a,b,c,d⟩
  by_cases q:i=k
  ·subst q;exact .inr d
  ·exact .inl ⟨i,a,by omega,c,d⟩
 ·rintro (⟨i,a,b,c,d⟩ | d)
  ·exact ⟨i,a,by omega,c,d⟩
  ·exact ⟨k,h1,by omega,e,d⟩
theorem QY (h:¬ (jQ S T V k=true/\rU S T V k=j)):jG S T V P O j (k+1) u↔jG S T V P O j k u:=by
 constructor
 ·rintro ⟨i,a,b,c,d⟩
  by_cases q:i=k
  ·subst q
   obtain ⟨o,F,e⟩:=pQ d
   rcases hs:jQ S T V i with _ | _
   ·rw [Cc hs] at e;cases e
   ·exact absurd ⟨hs,c⟩ h
  ·exact ⟨i,a,by omega,c,d⟩
 ·rintro ⟨i,a,b,c,d⟩
  exact ⟨i,a,by omega,c,d⟩
theorem U9 (h:Ea S T V P O j u):0<=u/\u<=4294967296:=by obtain ⟨_,_,_,_,h⟩:=h;exact Cz h
theorem Lc (h:rD f u):0<=u/\u<=4294967296:=by obtain ⟨_,_,_,h⟩:=h;exact Cz h
end
def Ye (S:bW) (T:LL) (V:List Bool) (P:List S2) (O:List dM) (j:Int) (l:List S2):Prop:=Plain l/\∀ u,Low l u↔Ea S T V P O j u
def rV (S:bW) (T:LL) (V:List Bool) (P:List S2) (O:List dM) (l:List S2):Prop:=Plain l/\∀ u,Low l u↔rD (Jv S T V P O) u
variable {S:bW} {T:LL} {V:List Bool} {P a b:List S2}
theorem rV.one (ha:rV S T V P O a) (hb:rV S T V P O b):a=b:=Wi.rG ha.1 hb.1 fun t=>(ha.2 t).trans (hb.2 t).symm
theorem Oi (ok:tE T=0) (hl:O.length=T.length) (hO:Pp O) (h:jQ S T V k=true) :
 ∃ n:Nat,rU S T V k=n/\n < O.length/\Jv S T V P O k=some (jC O n,oh S T V P k)/\(jC O n).calm:=by
 obtain ⟨n,en,hn,_⟩:=gD ok (Jn h);refine ⟨n,by unfold rU;rw [an h,en],by omega,by rw [AY h,en],mz hO (by omega)⟩
theorem Ef {Q:Int->Prop} (hp:Plain l) (hl:∀ u,Low l u->Q u) (hq:∀ u,Q u->0<=u/\u<=4294967296):l.length<=4294967297:=qC hp fun u h=>hq u (hl u h)
def rR (S:bW) (T:LL) (V:List Bool) (P:List S2) (O:List dM) (k:Nat) (u:Int):Prop:=∃ j:Nat,j < k/\Ea S T V P O j u
theorem Js (k:Nat) (u:Int):rR S T V P O (k+1) u↔rR S T V P O k u\/Ea S T V P O k u:=by
 constructor
 ·rintro ⟨j,hj,h⟩
  by_cases e:j=k
  ·subst e;exact .inr h
  ·exact .inl ⟨j,by omega,h⟩
 ·rintro (⟨j,hj,h⟩ | h)
  ·exact ⟨j,by omega,h⟩
  ·exact ⟨k,by omega,h⟩
def jh (h:Hr) (k:Nat):Hr:=fun n=>if 1<=n/\n < (k:Int) then h n else none
theorem mV (h:Hr):jh h 1=fun _=>none:=funext fun n=>by unfold jh;rw [ai (by omega)]
variable {h:Hr}
theorem Vx (h1:1<=k) {y:Int} (e:h k=some y):hput (jh h k) k y=jh h (k+1):=funext fun n=>by
 unfold hput jh
 by_cases g:n=k
 ·subst g;rw [an rfl,an (by omega),e]
 ·rw [ai g]
  by_cases q:1<=n/\n < (k:Int)
  ·rw [an q,an (by omega)]
  ·rw [ai q,ai (by omega)]
theorem Zc (e:h k=none):jh h k=jh h (k+1):=funext fun n=>by
 unfold jh
 by_cases g:n=k
 ·subst g;rw [ai (by omega),e,ite_self]
 ·by_cases q:1<=n/\n < (k:Int)
  ·rw [an q,an (by omega)]
  ·rw [ai q,ai (by omega)]
theorem Vj (o:∀ n:Int,(n < 1\/16 < n)->h n=none):jh h 17=h:=funext fun n=>by
 unfold jh
 split
 ·rfl
 ·exact (o n (by omega)).symm
section
variable {x l:List S2} {r:dM}
variable {s:Int}
theorem Xx (h:s < 1\/16 < s):Gr x l r s=none:=ai fun g=>by omega
theorem Xi (h1:1<=s) (h2:s<=16) (e:(ko x l r s).2.2=0) (o:(ko x l r s).2.1=false):Gr x l r s=some (ko x l r s).1:=an ⟨h1,h2,e,o⟩
theorem ZW (e:¬ ((ko x l r s).2.2=0/\(ko x l r s).2.1=false)):Gr x l r s=none:=ai fun g=>e ⟨g.2.2.1,g.2.2.2⟩
end
open Go.Maps
open Rw (At)
open Pa (Cel UO pat)
section
end
def UM (s:List S2):dM:=⟨s.length,fr s,tp s⟩
theorem DN {s:List S2} (h:Rd K2 w v s):Tk.Steps w v (UM s).n (UM s).A (UM s).R:=by
 obtain ⟨a,cap,rfl,h1,h2,h3⟩:=h
 by_cases h0:0 < s.length
 ·obtain ⟨b,off,rfl,hA⟩:=h3 h0
  exact .inr ⟨b,off,cap,rfl,h1.1,h2,fun i hi=>⟨hA i hi 0 _ rfl,hA i hi 1 _ rfl⟩⟩
 ·have e:s.length=0:=by omega
  exact .inl ⟨a,cap,by rw [e],h2,e⟩
theorem Rt {hs:List Hd} (h:Rd KS w v hs) (hl:hs.length=O.length) (each:∀ i:Nat,i < O.length->Tk.Steps w (sl (hs.getD i zh)) (jC O i).n (jC O i).A (jC O i).R):DW w v O:=by
 obtain ⟨a,cap,e,h1,h2,h3⟩:=h;rw [hl] at e h1 h3;refine ⟨a,cap,e,h1.1,h2,fun hp=>?_⟩;obtain ⟨b,off,ea,hA⟩:=h3 hp;refine ⟨b,off,ea,fun i hi=>⟨_,?_,each i hi⟩⟩;have c:=hA i (by rw [hl];exact hi) 0 _ rfl;simp only [KS,Nat.mul_one,Nat.add_zero] at c;exact c
end Bu
namespace Cu
open Go.RowKit Go.Maps
open Rw (At)
open Pa (S2)
open Bu (dM jC DW UM DN Rt gL nC)
structure CI (w:World) (T:LL) (L:List Nd) (k1 k2 k3 k4:Nat) (o1:Value) (l1:List Nat) (o2:Value) (l2:List Hd) (o3:Value) (l3:List Bool) (o4:Value) (l4:List Hd) (wr:World):Prop where
 w1:Ow KN wr w.heap.size 76 o1 l1
 w2:Ow KS wr w.heap.size 175 o2 l2
 w3:Ow KB wr w.heap.size 4 o3 l3
 w4:Ow KS wr w.heap.size 179 o4 l4
 n1:l1.length=k1
 n2:l2.length=k2
 n3:l3.length=k3
 n4:l4.length=k4
 e1:∀ i,i < k1->l1.getD i 0=(eU L i).s
 e2:∀ i,i < k2->Ow K5 wr w.heap.size 244 (sl (l2.getD i zh)) (dH T i)
 e3:∀ i,i < k3->l3.getD i false=(eU L i).live
 e4:∀ i,i < k4->Ow K2 wr w.heap.size 178 (sl (l4.getD i zh)) [(0,(eU L i).rate)]
 aD:Below w.heap.size w wr
section
variable {w wr w':World} {T:LL} {L:List Nd} {k1 k2 k3 k4:Nat} {o1 o2 o3 o4 o':Value} {l1:List Nat} {l2 l4:List Hd} {l3:List Bool}
theorem CI.start (w:World) (T:LL) (L:List Nd):CI w T L 0 0 0 0 (.slice none 0 0) [] (.slice none 0 0) [] (.slice none 0 0) [] (.slice none 0 0) [] w :=
 ⟨Rw.Ow.nil _ _ _,Rw.Ow.nil _ _ _,Rw.Ow.nil _ _ _,Rw.Ow.nil _ _ _,rfl,rfl,rfl,rfl,fun i hi=>by omega,fun i hi=>by omega,fun i hi=>by omega,fun i hi=>by omega,aa _ _⟩
theorem CI.below (h:CI w T L k1 k2 k3 k4 o1 l1 o2 l2 o3 l3 o4 l4 wr) (b:Below wr.heap.size wr w'):CI w T L k1 k2 k3 k4 o1 l1 o2 l2 o3 l3 o4 l4 w' :=
 ⟨h.w1.keep b,h.w2.keep b,h.w3.keep b,h.w4.keep b,h.n1,h.n2,h.n3,h.n4,h.e1,fun i hi=>(h.e2 i hi).keep b,h.e3,fun i hi=>(h.e4 i hi).keep b,h.aD.trans (b.mono h.aD.size)⟩
theorem kY {α:Type} {l:List α} {k i:Nat} (x d:α) (hl:l.length=k) (hi:i < k+1):(l ++ [x]).getD i d=if i < k then l.getD i d else x:=by
 rw [af,List.getElem?_append,hl]
 split
 ·rw [af]
 ·obtain rfl:i=k:=by omega
  simp
theorem CI.abB (h:CI w T L k1 k2 k3 k4 o1 l1 o2 l2 o3 l3 o4 l4 wr) {x:Nat} (own:Ow KN w' w.heap.size 76 o' (l1 ++ [x])) (gr:wr.grownBy w' o1.ownBlock) (hx:x=(eU L k1).s):CI w T L (k1+1) k2 k3 k4 o' (l1 ++ [x]) o2 l2 o3 l3 o4 l4 w':=by
 have o:=aX gr;refine ⟨own,aB h.w2 (fun k e=>aY h.w2 h.w1 (by decide) k e) o,aB h.w3 (fun k e=>aY h.w3 h.w1 (by decide) k e) o,aB h.w4 (fun k e=>aY h.w4 h.w1 (by decide) k e) o,by rw [cP,h.n1];rfl,h.n2,h.n3,h.n4,fun i hi=>?_,fun i hi=>aB (h.e2 i hi) (fun k e=>aY (h.e2 i hi) h.w1 (by decide) k e) o,h.e3,fun i hi=>aB (h.e4 i hi) (fun k e=>aY (h.e4 i hi) h.w1 (by decide) k e) o,h.aD.grown gr h.aD.size fun j e=>(cC h.w1 j e).1⟩;rw [kY x 0 h.n1 hi]
 split
 ·rename_i g;exact h.e1 i g
 ·obtain rfl:i=k1:=by omega
  exact hx
variable {x:Hd}
theorem CI.abP (h:CI w T L k1 k2 k3 k4 o1 l1 o2 l2 o3 l3 o4 l4 wr) (own:Ow KS w' w.heap.size 175 o' (l2 ++ [x])) (gr:wr.grownBy w' o2.ownBlock) (hx:Ow K5 wr w.heap.size 244 (sl x) (dH T k2)):CI w T L k1 (k2+1) k3 k4 o1 l1 o' (l2 ++ [x]) o3 l3 o4 l4 w':=by
 have o:=aX gr;refine ⟨aB h.w1 (fun k e=>aY h.w1 h.w2 (by decide) k e) o,own,aB h.w3 (fun k e=>aY h.w3 h.w2 (by decide) k e) o,aB h.w4 (fun k e=>aY h.w4 h.w2 (by decide) k e) o,h.n1,by rw [cP,h.n2];rfl,h.n3,h.n4,h.e1,fun i hi=>?_,h.e3,fun i hi=>aB (h.e4 i hi) (fun k e=>aY (h.e4 i hi) h.w2 (by decide) k e) o,h.aD.grown gr h.aD.size fun j e=>(cC h.w2 j e).1⟩;rw [kY x zh h.n2 hi]
 split
 ·rename_i g;exact aB (h.e2 i g) (fun k e=>aY (h.e2 i g) h.w2 (by decide) k e) o
 ·obtain rfl:i=k2:=by omega
  exact aB hx (fun k e=>aY hx h.w2 (by decide) k e) o
theorem CI.aa2 (h:CI w T L k1 k2 k3 k4 o1 l1 o2 l2 o3 l3 o4 l4 wr) {x:Bool} (own:Ow KB w' w.heap.size 4 o' (l3 ++ [x])) (gr:wr.grownBy w' o3.ownBlock) (hx:x=(eU L k3).live):CI w T L k1 k2 (k3+1) k4 o1 l1 o2 l2 o' (l3 ++ [x]) o4 l4 w':=by
 have o:=aX gr;refine ⟨aB h.w1 (fun k e=>aY h.w1 h.w3 (by decide) k e) o,aB h.w2 (fun k e=>aY h.w2 h.w3 (by decide) k e) o,own,aB h.w4 (fun k e=>aY h.w4 h.w3 (by decide) k e) o,h.n1,h.n2,by rw [cP,h.n3];rfl,h.n4,h.e1,fun i hi=>aB (h.e2 i hi) (fun k e=>aY (h.e2 i hi) h.w3 (by decide) k e) o,fun i hi=>?_,fun i hi=>aB (h.e4 i hi) (fun k e=>aY (h.e4 i hi) h.w3 (by decide) k e) o,h.aD.grown gr h.aD.size fun j e=>(cC h.w3 j e).1⟩;rw [kY x false h.n3 hi]
 split
 ·rename_i g;exact h.e3 i g
 ·obtain rfl:i=k3:=by omega
  exact hx
theorem CI.abW (h:CI w T L k1 k2 k3 k4 o1 l1 o2 l2 o3 l3 o4 l4 wr) (own:Ow KS w' w.heap.size 179 o' (l4 ++ [x])) (gr:wr.grownBy w' o4.ownBlock) (hx:Ow K2 wr w.heap.size 178 (sl x) [(0,(eU L k4).rate)]):CI w T L k1 k2 k3 (k4+1) o1 l1 o2 l2 o3 l3 o' (l4 ++ [x]) w':=by
 have o:=aX gr;refine ⟨aB h.w1 (fun k e=>aY h.w1 h.w4 (by decide) k e) o,aB h.w2 (fun k e=>aY h.w2 h.w4 (by decide) k e) o,aB h.w3 (fun k e=>aY h.w3 h.w4 (by decide) k e) o,own,h.n1,h.n2,h.n3,by rw [cP,h.n4];rfl,h.e1,fun i hi=>aB (h.e2 i hi) (fun k e=>aY (h.e2 i hi) h.w4 (by decide) k e) o,h.e3,fun i hi=>?_,h.aD.grown gr h.aD.size fun j e=>(cC h.w4 j e).1⟩;rw [kY x zh h.n4 hi]
 split
 ·rename_i g;exact aB (h.e4 i g) (fun k e=>aY (h.e4 i g) h.w4 (by decide) k e) o
 ·obtain rfl:i=k4:=by omega
  exact aB hx (fun k e=>aY hx h.w4 (by decide) k e) o
end
def Im (L:List Nd):List dM:=L.map fun x=>UM [(0,x.rate)]
variable {L:List Nd}
theorem Wk {i:Nat} (hi:i < L.length):jC (Im L) i=UM [(0,(eU L i).rate)]:=by
 unfold jC Im eU;rw [cJ,af,cL,am hi,af,am hi]
 rfl
theorem yM (L:List Nd):(Im L).length=L.length:=bt _
theorem QZ {x:Int} (h : -2000<=x/\x<=2000):(UM [(0,x)]).calm:=by
 have e0:∀ i,i < 1->(UM [(0,x)]).A i=0:=fun i hi=>by
  obtain rfl:i=0:=by omega
  rfl
 have e1:∀ i,i < 1->(UM [(0,x)]).R i=x:=fun i hi=>by
  obtain rfl:i=0:=by omega
  rfl
 refine ⟨⟨(by show 1<=64;decide),fun i hi=>?_,fun i hi=>?_,fun i hi=>?_⟩,by decide,fun i hi=>?_⟩
 ·rw [e0 i hi];decide
 ·rw [e1 i hi];omega
 ·have:i+1 < 1:=hi
  omega
 ·rw [e1 i hi];exact h
theorem Nv (h:∀ i,i < L.length->-2000<=(eU L i).rate/\(eU L i).rate<=2000):gL (Im L)=true:=by
 refine ew.2 fun o ho=>nC ?_;obtain ⟨x,hx,rfl⟩:=di.1 ho;obtain ⟨i,hi,e⟩:=dv hx;have g:=h i hi;have e':eU L i=x:=by
  unfold eU;rw [af,am hi];exact e
 rw [e'] at g;exact QZ g
section
variable {s t p:Nat} {F G:Nat->Prop} {c:Cs} {vn vq:Value} {L:List Nd} {Fs:Nat->Nat->Prop} {w wr w1 w2 w':World} {T:LL} {o1 o2 o3 o4:Value} {l1:List Nat} {l2 l4:List Hd} {l3:List Bool}
theorem CI.stl (h:CI w T L c.S.length c.S.length c.S.length c.S.length o1 l1 o2 l2 o3 l3 o4 l4 wr) (H:Cl w s F c t vn L p vq Fs):zZ wr o1 c.S :=
 ⟨l1,h.w1.rd,h.n1,fun i hi=>⟨Fs i,by rw [h.e1 i hi];exact (H.st i (by rw [H.len];exact hi)).below h.aD⟩⟩
variable {n k i cap:Nat}
theorem CI.tab (h:CI w T L n n n n o1 l1 o2 l2 o3 l3 o4 l4 wr) (hT:T.length=n):lM wr o2 T:=Jf h.w2.rd (h.n2.trans hT.symm) fun i hi=>(h.e2 i (by rw [← hT];exact hi)).rd
theorem CI.liv (h:CI w T L c.S.length c.S.length c.S.length c.S.length o1 l1 o2 l2 o3 l3 o4 l4 wr) (H:Cl w s F c t vn L p vq Fs) (hv:c.V.length=c.S.length):Rd KB wr o3 c.V:=by
 have e:l3=c.V:=by
  refine List.ext_getElem (h.n3.trans hv.symm) fun i h1 h2=>?_;have a:=h.e3 i (by rw [← h.n3];exact h1);rw [H.lv i (by rw [H.len,← hv];exact h2)] at a;unfold bX at a;rw [cJ,af,am h1,af,am h2] at a;exact a
 rw [← e];exact h.w3.rd
theorem CI.osl (h:CI w T L L.length L.length L.length L.length o1 l1 o2 l2 o3 l3 o4 l4 wr):DW wr o4 (Im L) :=
 Rt h.w4.rd (h.n4.trans (yM L).symm) fun i hi=>by
  rw [yM] at hi;rw [Wk hi];exact DN (h.e4 i hi).rd
def oU (L:List Nd) (ps:List Nat) (k:Nat):List Nd:=(List.range L.length).map fun i=>if i < k then { eU L i with s:=ps.getD i 0 } else eU L i
theorem dz (L:List Nd) (ps:List Nat) (k:Nat):(oU L ps k).length=L.length:=by unfold oU;rw [bt,List.length_range]
variable {ps:List Nat}
theorem kX (hi:i < L.length):eU (oU L ps k) i=if i < k then { eU L i with s:=ps.getD i 0 } else eU L i:=by
 unfold oU
 conv=>lhs;unfold eU
 rw [af,cL,List.getElem?_range hi]
 rfl
theorem Li {L':List Nd} (hl:L.length=L'.length) (h:∀ i,i < L.length->eU L i=eU L' i):L=L':=by
 refine List.ext_getElem hl fun i h1 h2=>?_;have:=h i h1
 simpa [eU,List.getD,List.getElem?_eq_getElem h1,List.getElem?_eq_getElem h2] using this
theorem Oe (L:List Nd) (ps:List Nat):oU L ps 0=L:=Li (dz L ps 0) fun i hi=>by
 rw [dz] at hi;rw [kX hi,ai (by omega)]
theorem Mx (hk:k < L.length):(oU L ps k).set k { eU L k with s:=ps.getD k 0 } = oU L ps (k+1):=by
 refine Li (by rw [cA,dz,dz]) fun i hi=>?_;rw [cA,dz] at hi;rw [kZ (by rw [dz];exact hk),kX hi,kX hi]
 by_cases e:i=k
 ·subst e
  rw [an rfl,an (by omega)]
 ·rw [ai e]
  by_cases g:i < k
  ·rw [an g,an (by omega)]
  ·rw [ai g,ai (by omega)]
structure PL (w2:World) (g cap:Nat) (n:Nat) (L:List Nd) (ps:List Nat) (k:Nat) (wr:World):Prop where
 own:Ow KD wr 0 78 (.slice (some ⟨g,0,none⟩) n cap) (oU L ps k)
 only:Only (fun j=>j=g) w2 wr
theorem PL.step {g:Nat} (h:PL w2 g cap n L ps k wr) (hn:L.length=n) (hk:k < n):PL w2 g cap n L ps (k+1) (wr.setCell ⟨g,k * 3,none⟩ (ptr (ps.getD k 0))):=by
 have hl:(oU L ps k).length=n:=by rw [dz];exact hn
 have o:=h.own;rw [← hl] at o
 have e:=Rw.Ow.set o k 0 (by omega) (by decide) (ptr (ps.getD k 0)) { eU L k with s:=ps.getD k 0 } (by
  have q:(oU L ps k).getD k ndD=eU L k:=by
   have:=kX (L:=L) (ps:=ps) (k:=k) (i:=k) (by omega);rw [ai (by omega)] at this;exact this
  show [ptr (ps.getD k 0),.bool (eU L k).live,.int .i64 (eU L k).rate]=(KD.enc ((oU L ps k).getD k ndD)).set 0 _
  rw [q]
  rfl)
 rw [Mx (by omega),hl] at e;exact ⟨e,h.only.trans (Only.set (fun j=>j=g) wr (a:=⟨g,k * 3,none⟩) rfl _) fun _ _ q=>q⟩
theorem Cl.carry (h:Cl w s F c t vn L p vq Fs) {g:Nat} (hg:vn = .slice (some ⟨g,0,none⟩) c.S.length cap) {S':bW} {v:Value} {Gs:Nat->Nat->Prop} (hj:PJ 76 w S' S'.length v ps Gs w2) (hS:S'.length=c.S.length) (hp:PL w2 g cap c.S.length L ps c.S.length w'):Cl w' s (Fx F w w') { c with S:=S' } t vn (oU L ps c.S.length) p vq Gs/\Only F w w':=by
 subst hg;have b:=hj.aD;have o:=hp.only;have hz:=cG b.size o.size;have gF:=h.fv g (.inl rfl);have gl:=h.low g gF;have h2:=h.below (b.mono (ac _));have hl:=h.len;have oo:Only F w w':=(Only.of_below b).trans o fun k _ e=>by rw [e];exact gF
 refine ⟨⟨(o.block s h2.slt fun e=>h2.vs.1 (by rw [e];rfl)).trans h2.row,hp.own,by rw [dz,hl,hS],fun i hi=>?_,fun i hi=>?_,fun i hi=>?_,h2.pr.only o (fun e=>h2.vp.1 (by rw [e];rfl)),aB h2.sp (fun k e q=>h2.vv g rfl (by rw [e,q])) o,.inl h.fs,.inl h.fp,fun k q=>.inl (h.fv k q),fun i hi k q=>?_,fun i j hi hj' hij k q=>?_,fun i hi k q=>?_,Fx.low h.low hz⟩,oo⟩
 ·rw [dz] at hi
  rw [kX hi,an (by omega)];exact (hj.each i (by omega)).only (fun k q e=>by have:=(hj.lo i (by omega) k q).1;omega) o
 ·rw [dz] at hi
  rw [kX hi,an (by omega)];exact h.lv i hi
 ·rw [dz] at hi
  rw [kX hi,an (by omega)];exact h.rt i hi
 ·rw [dz] at hi
  have a:=(hj.lo i (by omega) k q).1;have c:=(hj.each i (by omega)).low k q;have d:=o.size;exact .inr ⟨a,by omega⟩
 ·rw [dz] at hi hj'
  exact hj.kI i j (by omega) (by omega) hij k q
 ·rw [dz] at hi
  have a:=(hj.lo i (by omega) k q).1;have c1:=h.slt;have c2:=h.pr.lt;exact ⟨by omega,by omega,fun e=>by have:=h.low k (h.fv k (.inl e));omega,fun e=>by have:=h.low k (h.fv k (.inr e));omega⟩
end
open Fs (aA sD)
open Pa (Ed eH)
attribute [local irreducible] Sd.aV wpQuiet Sz.lK
def NwF (w wr:World) (k:Nat):Prop:=w.heap.size<=k/\k < wr.heap.size
variable {i:Nat}
theorem Uv {S:bW} {x:aT×Int} (hi:i < S.length+1):sat (S ++ [x]) i=if i < S.length then sat S i else x:=by
 unfold sat;rw [cJ];exact kY x ([],0) rfl hi
theorem Tq {V:List Bool} {b:Bool} (hi:i < V.length+1):bX (V ++ [b]) i=if i < V.length then bX V i else b:=by
 unfold bX;rw [cJ];exact kY b false rfl hi
theorem vC {x:Nd} (hi:i < L.length+1):eU (L ++ [x]) i=if i < L.length then eU L i else x:=kY x ndD rfl hi
section
variable {s t p m q:Nat} {F G:Nat->Prop} {c:Cs} {vn vq v':Value} {L:List Nd} {Fs:Nat->Nat->Prop} {w w5 w6:World} {A:aT} {rate:Int}
theorem Cl.push (h:Cl w5 s F c t vn L p vq Fs) (hF:∀ k,F k->w.heap.size<=k/\k < m) (hv:c.V.length=c.S.length) (st:St w5 q G A 0) (hG:∀ k,G k->m<=k) (hm:w.heap.size<=m) (hr : -2000<=rate/\rate<=2000) (ow:Ow KD w6 0 78 v' (L ++ [⟨q,true,rate⟩])) (gr:w5.grownBy w6 vn.ownBlock) (hw:w.heap.size<=w5.heap.size) (hq:v'.ownBlock=vn.ownBlock\/∃ g,v'.ownBlock=some g/\w5.heap.size<=g) :
 Cl (w6.setCell ⟨s,0,none⟩ v') s (NwF w (w6.setCell ⟨s,0,none⟩ v')) { c with S:=c.S ++ [(A,0)],V:=c.V ++ [true] } t v' (L ++ [⟨q,true,rate⟩]) p vq (fun i=>if i < L.length then Fs i else G):=by
 have oq:=aX gr;have hl:=h.len;have zz:=gr.size;have hzz:(w6.setCell ⟨s,0,none⟩ v').heap.size=w6.heap.size:=by simp [World.setCell]
 have lv:∀ k,v'.ownBlock=some k->k < w6.heap.size:=fun k e=>(cC ow k e).2;have sne:=h.vs.1;have row1:=(oq.block s h.slt (fun e=>sne e)).trans h.row;have row2:(w6.setCell ⟨s,0,none⟩ v').heap[s]? = some (.cells #[v',ptr p,.int .i64 c.pl,vq] 73 (0,0)):=Rw.heap_setCell_same (j:=0) row1 _;have o3:Only (fun k=>k=s) w6 (w6.setCell ⟨s,0,none⟩ v'):=Only.set (fun k=>k=s) w6 (a:=⟨s,0,none⟩) rfl _;have inN:∀ k,F k->NwF w (w6.setCell ⟨s,0,none⟩ v') k:=fun k g=>⟨(hF k g).1,by rw [hzz];have:=h.low k g;omega⟩;have offG:∀ k,G k->k≠s/\k≠p/\v'.ownBlock≠some k/\vq.ownBlock≠some k/\vn.ownBlock≠some k:=fun k g=>by
  have g0:=hG k g;have gl:=st.low k g;have a1:=(hF s h.fs).2;have a2:=(hF p h.fp).2;have a3:∀ j,vn.ownBlock=some j->j < m:=fun j e=>(hF j (h.fv j (.inl e))).2;have a4:∀ j,vq.ownBlock=some j->j < m:=fun j e=>(hF j (h.fv j (.inr e))).2;refine ⟨by omega,by omega,fun e=>?_,fun e=>by have:=a4 k e;omega,fun e=>by have:=a3 k e;omega⟩
  rcases hq with q | ⟨j,q,hj⟩
  ·have:=a3 k (by rw [← q];exact e);omega
  ·rw [q] at e;injection e with e;omega
 have offF:∀ i,i < L.length->∀ k,Fs i k->k≠s/\k≠p/\v'.ownBlock≠some k/\vq.ownBlock≠some k/\vn.ownBlock≠some k:=fun i hi k g=>by
  have q0:=h.off i hi k g;refine ⟨q0.1,q0.2.1,fun e=>?_,q0.2.2.2,q0.2.2.1⟩
  rcases hq with q | ⟨j,q,hj⟩
  ·exact q0.2.2.1 (by rw [← q];exact e)
  ·rw [q] at e;injection e with e
   have:=h.low k (h.ff i hi k g);omega
 have hlen:(L ++ [(⟨q,true,rate⟩:Nd)]).length=L.length+1:=by simp
 refine ⟨row2,aB ow (fun k e q=>ow.apart row1 (by decide) (by rw [e,q])) o3,by rw [hlen];simp;omega,fun i hi=>?_,fun i hi=>?_,fun i hi=>?_,(h.pr.only oq (fun e=>h.vp.1 e)).only o3 (fun e=>h.DX e.symm),aB (aB h.sp (fun k e q=>h.vv k q e) oq) (fun k e q=>h.vs.2 (by rw [e,q])) o3,inN s h.fs,inN p h.fp,fun k g=>?_,fun i hi k g=>?_,fun i j hi hj hij k g=>?_,fun i hi k g=>?_,fun k g=>g.2⟩
 ·rw [hlen] at hi
  show St _ _ _ (sat (c.S ++ [(A,0)]) i).1 (sat (c.S ++ [(A,0)]) i).2
  rw [vC hi,Uv (by omega)]
  by_cases e:i < L.length
  ·rw [an e,an e,an (by omega)]
   exact ((h.st i e).only (fun k g q=>(offF i e k g).2.2.2.2 q) oq).only (fun k g q=>(offF i e k g).1 q) o3
  ·rw [ai e,ai e,ai (by omega)]
   exact (st.only (fun k g q=>(offG k g).2.2.2.2 q) oq).only (fun k g q=>(offG k g).1 q) o3
 ·rw [hlen] at hi
  show _=bX (c.V ++ [true]) i
  rw [vC hi,Tq (by omega)]
  by_cases e:i < L.length
  ·rw [an e,an (by omega)];exact h.lv i e
  ·rw [ai e,ai (by omega)]
 ·rw [hlen] at hi
  rw [vC hi]
  by_cases e:i < L.length
  ·rw [an e];exact h.rt i e
  ·rw [ai e];exact hr
 ·rcases g with g | g
  ·refine ⟨?_,by rw [hzz];exact lv k g⟩
   rcases hq with q | ⟨j,q,hj⟩
   ·exact (hF k (h.fv k (.inl (by rw [← q];exact g)))).1
   ·rw [q] at g;injection g with g;omega
  ·exact inN k (h.fv k (.inr g))
 ·rw [hlen] at hi
  by_cases e:i < L.length
  ·rw [an e] at g;exact inN k (h.ff i e k g)
  ·rw [ai e] at g
   refine ⟨by have:=hG k g;omega,by rw [hzz];have:=st.low k g;omega⟩
 ·rw [hlen] at hi hj
  have sep:∀ i,i < L.length->∀ k,Fs i k->G k->False:=fun i e k g g'=>by have:=(hF k (h.ff i e k g)).2;have:=hG k g';omega
  by_cases e:i < L.length
  ·rw [an e] at g
   by_cases e':j < L.length
   ·rw [an e'];exact h.kI i j e e' hij k g
   ·rw [ai e'];exact fun g'=>sep i e k g g'
  ·rw [ai e] at g
   by_cases e':j < L.length
   ·rw [an e'];exact fun g'=>sep j e' k g' g
   ·omega
 ·rw [hlen] at hi
  by_cases e:i < L.length
  ·rw [an e] at g
   have:=offF i e k g;exact ⟨this.1,this.2.1,this.2.2.1,this.2.2.2.1⟩
  ·rw [ai e] at g
   have:=offG k g;exact ⟨this.1,this.2.1,this.2.2.1,this.2.2.2.1⟩
end
def Ri (w:World) (L:List Pl) (e:Ending) (w':World):Prop:=Below w.heap.size w w'/\((newE L=0/\∃ s F,e = .returned (.tuple #[ptr s,.int .i64 0])/\lJ w' s F (newC L) 0/\∀ j,F j->w.heap.size<=j)\/(newE L≠0/\e = .returned (.tuple #[.pointer none,.int .i64 (newE L)])))
structure OI (w:World) (L:List Pl) (s p k:Nat) (vn:Value) (LN:List Nd) (Fs:Nat->Nat->Prop) (wr:World):Prop where
 cl:Cl wr s (NwF w wr) (newC (L.take k)) 0 vn LN p (.slice none 0 0) Fs
 aD:Below w.heap.size w wr
 gd:Gds L k
theorem OI.below {w wr w':World} {L:List Pl} {s p k:Nat} {vn:Value} {LN:List Nd} {Fs:Nat->Nat->Prop} (h:OI w L s p k vn LN Fs wr) (b:Below wr.heap.size wr w'):OI w L s p k vn LN Fs w' :=
 ⟨(h.cl.below b).wide (fun _ g=>⟨g.1,cE g.2 b.size⟩) (fun _ g=>g.2),h.aD.trans (b.mono h.aD.size),h.gd⟩
variable {L:List Pl}
theorem MV (h:i < L.length):newC (L.take (i+1)) = { newC (L.take i) with S:=(newC (L.take i)).S ++ [((fC L i).1,0)],V:=(newC (L.take i)).V ++ [true] }:=by
 have e:=Ob h;have q:newC (L.take (i+1))=⟨(newC (L.take (i+1))).S,(newC (L.take (i+1))).V,Wt.new,0,[]⟩:=rfl;rw [q,e.1,e.2]
 rfl
variable {w W w5 w6 w1:World} {s p k q B:Nat}
theorem OI.step {vn v':Value} {LN:List Nd} {Fs:Nat->Nat->Prop} {G:Nat->Prop} (h:OI w L s p k vn LN Fs W) (b:Below W.heap.size W w5) (hk:k < L.length) (g:Nn (fC L k)) (st:St w5 q G (fC L k).1 0) (lo:∀ j,G j->W.heap.size<=j)
 (ow:Ow KD w6 0 78 v' (LN ++ [⟨q,true,(fC L k).2⟩])) (gr:w5.grownBy w6 vn.ownBlock) (hq:v'.ownBlock=vn.ownBlock\/∃ g,v'.ownBlock=some g/\w5.heap.size<=g):OI w L s p (k+1) v' (LN ++ [⟨q,true,(fC L k).2⟩]) (fun i=>if i < LN.length then Fs i else G) (w6.setCell ⟨s,0,none⟩ v'):=by
 have hz:=b.size;have hw:=h.aD.size;have hv:(newC (L.take k)).V.length=(newC (L.take k)).S.length:=by
  show (List.map _ _).length=(List.map _ _).length
  rw [bt,bt]
 have cl5:=h.cl.below b;have z:=cl5.push (w:=w) (m:=W.heap.size) (fun k g=>g) hv st lo hw g.2 ow gr (cG hw hz) hq;refine ⟨?_,?_,OT h.gd g⟩
 ·rw [MV hk]
  exact z
 ·have b5:=h.aD.trans (b.mono hw)
  have b6:=b5.grown gr (cG hw hz) fun j e=>(h.cl.fv j (.inl e)).1;exact b6.setCell (h.cl.fs).1 _
theorem OI.start (b:Below w.heap.size w w1) (pr:Wt.Pr w1 p Wt.new 0) (hp:w.heap.size<=p):OI w L w1.heap.size p 0 (.slice none 0 0) [] (fun _ _=>False) (w1.alloc (.cells #[.slice none 0 0,ptr p,.int .i64 0,.slice none 0 0] 73)):=by
 have b2:=b.alloc b.size (.cells #[.slice none 0 0,ptr p,.int .i64 0,.slice none 0 0] 73);have bn:=(aa w1.heap.size w1).alloc (ac _) (.cells #[.slice none 0 0,ptr p,.int .i64 0,.slice none 0 0] 73);have z:(w1.alloc (.cells #[.slice none 0 0,ptr p,.int .i64 0,.slice none 0 0] 73)).heap.size=w1.heap.size+1:=by simp
 have hb:=b.size;have pl:=pr.lt;have Zg:∀ {P:Prop} {i:Nat},i < ([]:List Nd).length->P:=fun h=>absurd h (eh _);refine ⟨⟨aw w1 _,Rw.Ow.nil _ _ _,rfl,fun i hi=>Zg hi,fun i hi=>Zg hi,fun i hi=>Zg hi,?_,Rw.Ow.nil _ _ _,⟨hb,by omega⟩,⟨hp,by omega⟩,fun k g=>?_,fun i hi=>Zg hi,fun i j hi=>Zg hi,fun i hi=>Zg hi,fun k g=>g.2⟩,b2,SY L⟩
 ·exact pr.only (G:=fun _=>False) (Only.of_below bn) (fun g=>g)
 ·rcases g with g | g <;> simp [Value.ownBlock] at g
theorem FW {v:Value} {L:List jS} (H:CJ w v L B):Calls prog 6 #[v] w (Ri w (gG L)):=by
 have HH:=Hh H;obtain ⟨a,cap,rfl,_,hm,h3⟩:=H.rd;have H3:=Hh h3;have PLN:=Hh (eX L);clear h3 H;unfold maxLen at hm
 by_cases hs:L.length < 2\/32 < L.length
 ·have e1:newE (gG L)=1:=Mv (by rw [eX];exact hs)
  have E:Hid (∀ w',Below w.heap.size w w'->Ri w (gG L) (.returned (.tuple #[.pointer none,.int .i64 1])) w'):=Hh (fun w' b=>⟨b,.inr ⟨by rw [e1];decide,by rw [e1]⟩⟩);clear HH H3 e1 PLN;generalize gG L=LL at *;generalize L.length=n at *
  by_cases h1:n < 2
  ·have p1:decide ((n:Int) < 2)=true:=az (by omega)
   clear hs
   go_enter func6,ntmps6
   go_wp2
   go_ret2
   exact E _ (aa _ _)
  ·have p1:decide ((n:Int) < 2)=false:=aq (by omega)
   have p2:decide (32 < (n:Int))=true:=az (by omega);clear hs
   go_enter func6,ntmps6
   go_wp2
   go_ret2
   exact E _ (aa _ _)
 ·have hs':¬ ((gG L).length < 2\/32 < (gG L).length):=by rw [eX];exact hs
  have BAD:Hid (∀ k,k < L.length->¬ Nn (fC (gG L) k)->∀ w',Below w.heap.size w w'->Ri w (gG L) (.returned (.tuple #[.pointer none,.int .i64 2])) w'):=Hh (fun k hk g w' b=>by
   have e:=Wh hs' (by rw [eX];exact hk) g
   exact ⟨b,.inr ⟨by rw [e];decide,by rw [e]⟩⟩)
  have END:Hid (∀ (s p:Nat) (vn:Value) (LN:List Nd) (Fs:Nat->Nat->Prop) (wr w':World),OI w (gG L) s p L.length vn LN Fs wr->Below wr.heap.size wr w' ->
   (YL (sat (newC (gG L)).S 0).1 (sat (newC (gG L)).S 1).1=true->Ri w (gG L) (.returned (.tuple #[.pointer (some ⟨s,0,none⟩),.int .i64 0])) w')/\(YL (sat (newC (gG L)).S 0).1 (sat (newC (gG L)).S 1).1=false->Ri w (gG L) (.returned (.tuple #[.pointer none,.int .i64 10])) w')):=Hh (fun s p vn LN Fs wr w' I b=>by
   have h2:2<=(gG L).length:=by omega
   have ga:=VM (L:=gG L) (by rw [eX];exact I.gd);obtain ⟨n0,n1⟩:=Xk hs' ga;have ag:=TQ (gG L) h2;have bb:=I.aD.trans (b.mono I.aD.size);refine ⟨fun h=>⟨bb,.inl ⟨n0 (ag.1 h),s,NwF w wr,rfl,⟨vn,LN,p,.slice none 0 0,Fs,?_⟩,fun j g=>g.1⟩⟩,fun h=>?_⟩
   ·have c:=I.cl.below b
    have e:(gG L).take L.length=gG L:=by rw [← eX L];exact cX
    rw [e] at c;exact c
   ·have e:=n1 (fun g=>by rw [ag.2 g] at h;cases h)
    exact ⟨bb,.inr ⟨by rw [e];decide,by rw [e]⟩⟩)
  have NEW:=Hh (Wt.mW w);have LB:Hid (2<=L.length/\L.length<=32):=Hh (by omega);have p1:decide ((L.length:Int) < 2)=false:=aq (by omega);have p2:decide (32 < (L.length:Int))=false:=aq (by omega);clear hs hs';unfold Wt.yg at NEW;generalize hn:L.length=n at *;have HN:=Hh hn;clear hn
  go_enter func6,ntmps6
  go_wp2_with fail;refine NEW.mono ?_;rintro e w1 ⟨p,rfl,pr,hp,b1⟩;have I0:=Hh (OI.start (L:=gG L) b1 pr hp);clear NEW pr hp b1 p1 p2;unfold ptr at I0;go_upto_region 4 with fail;generalize (w1.alloc (.cells #[.slice none 0 0,.pointer (some ⟨p,0,none⟩),.int .i64 0,.slice none 0 0] 73))=wa at *;generalize w1.heap.size=s at *;go_wp2
  go_loopw [22] (fun i wr=>∃ (k:Nat) (vn:Value) (LN:List Nd) (Fs:Nat->Nat->Prop),k<=n/\i = .int .i64 k/\Hid (OI w (gG L) s p k vn LN Fs wr)) (fun i _=>n - (intOf i).toNat)
  case atStart=>exact ⟨0,_,_,_,ce _,rfl,I0⟩
  case round =>
   clear I0;obtain ⟨k,vn,LN,Fs,hk,rfl,I⟩:=hrel
   by_cases hlt:k < n
   ·have hkL:k < L.length:=by have:=HN.out;omega
    obtain ⟨b,off,rfl,hA⟩:=H3 (by omega);obtain ⟨x0,x1⟩:=Yp (hA.below I.aD) hkL;have HAA:=Hh hA;have PF:=Hh ((HH.file k hkL).below I.aD);have AT:=Hh (ZS hkL);have KL:Hid (k < (gG L).length):=Hh (by rw [eX];exact hkL);have BADk:=Hh (fun g=>BAD k hlt g);clear hA hkL;generalize zi L k=c at *;obtain ⟨cf,cr,cF⟩:=c;unfold sl at *;simp only at x0 x1 PF;obtain ⟨fa,fl,fc,hfa⟩:∃ a b c,Hid (a=cf.1/\b=cf.2.1/\c=cf.2.2):=⟨_,_,_,rfl,rfl,rfl⟩;rw [← hfa.out.1,← hfa.out.2.1,← hfa.out.2.2] at x0 PF;have Y0:=Hh (aw wr (.cells #[.slice fa fl fc,.int .i64 cr] 75));have BN:=Hh ((aa wr.heap.size wr).alloc (ac _) (.cells #[.slice fa fl fc,.int .i64 cr] 75));go_upto_region 7 with fail;clear x0 x1;generalize wr.alloc (.cells #[.slice fa fl fc,.int .i64 cr] 75)=W at *;have I2:=Hh (I.below BN);have C:=Hh (Bw ⟨cf,cr,cF⟩ (w:=W) (B:=B) (by unfold sl;rw [← hfa.out.1,← hfa.out.2.1,← hfa.out.2.2];exact PF.out.below BN.out));unfold PlC sl at C;rw [← hfa.out.1,← hfa.out.2.1,← hfa.out.2.2] at C;obtain ⟨y0,y1⟩:=CQ Y0;clear PF BN I Y0;generalize wr.heap.size=gx at *;rw [← AT.out] at C;go_wp2_with fail;refine C.mono ?_;rintro e w5 ⟨b5,hc⟩;have B5:=Hh b5;clear C b5 y0 y1
    rcases hc with ⟨g,q,G,rfl,st,lo⟩ | ⟨ng,rfl⟩
    ·have CR:Hid ((fC (gG L) k).2=cr):=Hh (by rw [AT.out];rfl)
     rw [CR.out];have GG:=Hh g;have LO:=Hh lo;have N0:=Hh (aw w5 (.cells #[.pointer (some ⟨q,0,none⟩),.bool true,.int .i64 cr] 78));have BA:=Hh ((aa w5.heap.size w5).alloc (ac _) (.cells #[.pointer (some ⟨q,0,none⟩),.bool true,.int .i64 cr] 78));have ST:=Hh (st.below BA);have B6:=aP B5 BA;have GN:=Hh B5.size;obtain ⟨av,cv,ev,-,-⟩:=I2.cl.slice;subst ev;have K0:=Hh ((I2.cl.below B6).cells.1);have NQ:Hid (∀ j,(Value.slice av (newC ((gG L).take k)).S.length cv).ownBlock=some j->j≠w5.heap.size/\j≠s):=Hh (fun j e=>⟨by have:=(I2.out.cl.fv j (.inl e)).2;have:=GN.out;omega,fun x=>I2.out.cl.vs.1 (by rw [e,x])⟩)
     have LL:Hid (LN.length<=32):=Hh (by
      have:=I2.cl.len;have q:(newC ((gG L).take k)).S.length=((gG L).take k).length:=bt _;rw [q,cD] at this;have:=LB.out
      omega)
     unfold ptr at *;go_upto_region 10 with fail;clear g lo st BA;generalize (w5.alloc (.cells #[.pointer (some ⟨q,0,none⟩),.bool true,.int .i64 cr] 78))=W6 at *;generalize w5.heap.size=gn at *;generalize hsl:(newC ((gG L).take k)).S.length=nl at *;clear hsl;have BD:=Hh (aa W6.heap.size W6).drew;have OD:Hid (Only (fun j=>(Value.slice av nl cv).ownBlock=some j) W6 W6.drew):=Hh (Only.of_below BD);have s0:=Sc.ay (C:=fun W'=>Only (fun j=>(Value.slice av nl cv).ownBlock=some j) W6 W') (a:=⟨s,0,none⟩) (fun W' oo=>oo.cell K0 (fun e=>(NQ _ e).2 rfl));have x0:=Sc.ay (C:=fun W'=>Only (fun j=>(Value.slice av nl cv).ownBlock=some j) W6 W') (a:=⟨gn,0,none⟩) (fun W' oo=>oo.cell (ah N0 0) (fun e=>(NQ _ e).1 rfl));have x1:=Sc.ay (C:=fun W'=>Only (fun j=>(Value.slice av nl cv).ownBlock=some j) W6 W') (a:=⟨gn,1,none⟩) (fun W' oo=>oo.cell (ah N0 1) (fun e=>(NQ _ e).1 rfl));have x2:=Sc.ay (C:=fun W'=>Only (fun j=>(Value.slice av nl cv).ownBlock=some j) W6 W') (a:=⟨gn,2,none⟩) (fun W' oo=>oo.cell (ah N0 2) (fun e=>(NQ _ e).1 rfl));have ne:Nonempty (Sc.In (fun W'=>Only (fun j=>(Value.slice av nl cv).ownBlock=some j) W6 W')):=⟨⟨_,OD⟩⟩;refine Sz.start (fun W'=>Only (fun j=>(Value.slice av nl cv).ownBlock=some j) W6 W') [(false,0),(false,1),(false,2),(false,3),(false,4),(false,5),(true,6),(true,7),(false,8),(false,9)] 10 (by kernel_rfl) (by kernel_rfl) (by kernel_rfl) rfl rfl OD ?_;dsimp only [Sd.aK,List.getElem?_cons_succ,List.getElem?_cons_zero]
     repeat (refine Sz.lit ?_;quiet_step (fail);refine bi ?_)
     clear s0 x0 x1 x2;have B7:=Hh (B6.trans (BD.mono (B6.size)));have ST7:=Hh (ST.below BD);generalize W6.drew=w7 at *;refine Sz.call (by rfl) (fun K hK=>?_);go_simp;have B8:=Hh (Below.alloc (aa w7.heap.size w7) (ac _) (.cells #[.pointer (some ⟨q,0,none⟩),.bool true,.int .i64 cr] 78));have Y8:=Hh (aw w7 (.cells #[.pointer (some ⟨q,0,none⟩),.bool true,.int .i64 cr] 78));have BW:=aP B7 B8;have ST8:=Hh (ST7.below B8);have O8:=Hh (OD.trans (Only.of_below (G:=fun j=>(Value.slice av nl cv).ownBlock=some j) B8) fun _ _ g=>g);refine hK _ _ (Sc.Cl.of O8) ?_;clear hK K B7 B8 ST7;generalize (w7.alloc (.cells #[.pointer (some ⟨q,0,none⟩),.bool true,.int .i64 cr] 78))=w8 at *;generalize w7.heap.size=g7 at *;have CL8:=Hh (I2.cl.below BW);refine Sz.call (by rfl) (fun K hK=>?_);refine eH (K:=KD) underlying70 ab7 rfl (by omega) _ _ rfl 0 _ _ rfl CL8.out.no ⟨g7,0,none⟩ (⟨q,true,cr⟩:Nd) rfl ?a1 ?a2 (ce _) ?_
     case a1 =>
      intro j u hu
      have c:=ah Y8 j
      match j,hu with
      | 0,hu=>simp [KD,ptr] at hu;subst hu;exact c
      | 1,hu=>simp [KD] at hu;subst hu;exact c
      | 2,hu=>simp [KD] at hu;subst hu;exact c
      | j+3,hu=>simp [KD] at hu
     case a2=>have:=LL.out;omega
     intro v9 w9 o9 g9 h9
     have NEW:Hid (OI w (gG L) s p (k+1) v9 (LN ++ [⟨q,true,cr⟩]) (fun i=>if i < LN.length then Fs i else G) (w9.setCell ⟨s,0,none⟩ v9)):=Hh (by
      have z:=I2.step BW KL GG ST8 LO (by rw [CR.out];exact o9) g9 h9;rw [CR.out] at z
      exact z)
     have O9:=O8.trans (aX g9) fun _ _ g=>g;have c6:=O9.cell K0 (fun e=>(NQ _ e).2 rfl);have e6:=aj (((aX g9).block s CL8.slt (fun e=>(NQ _ e).2 rfl)).trans CL8.row) 0;obtain ⟨v9a,v9c,n9,rfl⟩:∃ a c n,v9 = .slice a n c:=by obtain ⟨a,c,e,_⟩:=o9.slice;exact ⟨a,c,_,e⟩
     refine hK _ _ (Sc.Cl.of O9) ?_;clear hK K o9 g9 h9 O9 Y8 O8 BW ST8 CL8 I2 B5 B6 ST
     repeat (refine Sz.lit ?_;quiet_step (fail);refine bi ?_)
     refine Sz.done ?_;go_simp;clear c6 e6;generalize (w9.setCell ⟨s,0,none⟩ (.slice v9a n9 v9c))=wz at *;refine NoPanic.normal ?_;have n32:=LB.out.2;go_wp2
     go_roundw
     case rel=>exact ⟨k+1,_,_,_,by omega,by go_num,NEW⟩
     case measure=>simp [intOf];omega
    ·have E:=Hh (fun w' (b:Below w5.heap.size w5 w')=>BADk ng w' ((I2.aD.trans (B5.mono I2.aD.size)).trans (b.mono (cG I2.aD.size B5.size))))
     have E2:=Hh (E _ ((aa w5.heap.size w5).alloc (ac _) (.cells #[.pointer none,.bool false,.int .i64 0] 78)));clear E ng I2 BADk BAD END;go_wp2
     go_ret2
     exact E2
   ·obtain rfl:k=n:=by omega
    have LC:Hid ((newC ((gG L).take k)).S.length=k):=Hh (by
     show (List.map _ _).length=k
     rw [bt,cD,eX,HN.out,Nat.min_self])
    have AG:=Hh (Dx I.cl (by rw [LC.out];exact LB.out.1));have EE:=Hh (END s p vn LN Fs wr);have TK:Hid ((gG L).take k=gG L):=Hh (by rw [← HN.out,← eX L];exact cX);rw [TK.out] at AG;clear BAD END;generalize YL (sat (newC (gG L)).S 0).1 (sat (newC (gG L)).S 1).1=ag at *;unfold ptr at AG;go_wp2_with fail;refine AG.mono ?_;rintro e w2 ⟨rfl,b2⟩;have E2:=Hh (EE w2 I b2);clear AG EE I b2
    cases ag with
    | true =>
      have E:=Hh (E2.out.1 rfl);clear E2;go_wp2
      go_ret2
      exact E
    | false =>
      have E:=Hh (E2.out.2 rfl);clear E2;go_wp2
      go_ret2
      exact E
end Cu
namespace Cu
open Go.RowKit Go.Maps
open Rw (At)
open Fl (bH)
open Pa (S2)
attribute [local irreducible] Sd.aV wpQuiet
section
variable {s t p:Nat} {F G:Nat->Prop} {c:Cs} {vn vq:Value} {L:List Nd} {Fs:Nat->Nat->Prop} {w w1 w':World}
variable {x:Ac}
theorem RJ (h1:x.k≠1) (h3:x.k≠3) (h:x.k < 2\/6 < x.k\/no c x.n):bP x c=1/\bO x c=c:=by
 have he:bP x c=1:=by
  unfold bP;rw [ai h1,ai h3,an h]
 refine ⟨he,?_⟩;unfold bO;rw [ai h1,an (by rw [he];decide)]
theorem SH (h:Cl w s F c t vn L p vq Fs) (x:Ac) (h1:x.k≠1) (h3:x.k≠3) (hn:no c x.n):Calls prog 10 #[ptr s,jD x] w (jk w s F (bO x c) (t+1) (bP x c)):=by
 obtain ⟨e1,e2⟩:=RJ h1 h3 (.inr (.inr hn));rw [e1,e2];have B0:=Hh ((aa w.heap.size w).alloc (ac _) (.cells (d9 x) 38));have C1:=Hh (wP (h.below B0) hn);have E:=Hh (fun w' b=>(gq h (w':=w') b 1).late);clear h hn e1 e2;unfold jD d9 at *;unfold ptr at *;obtain ⟨k,n,f,rr,v,s',m,tt⟩:=x;simp only at h1 h3 B0 C1 E ⊢;have q1:=cH.2 h1;have q3:=cH.2 h3
 go_enter func10,ntmps10
 go_wp2_with fail;refine C1.mono ?_;rintro e w1 ⟨rfl,b1⟩;have F:=Hh (E w1 (aP B0 b1));clear E C1 b1;go_wp2
 go_ret
 exact F
theorem TM (h:Cl w s F c t vn L p vq Fs) (x:Ac) (h1:x.k≠1) (h3:x.k≠3) (hk:x.k < 2\/6 < x.k) (hn:¬ no c x.n):Calls prog 10 #[ptr s,jD x] w (jk w s F (bO x c) (t+1) (bP x c)):=by
 obtain ⟨e1,e2⟩:=RJ h1 h3 (show x.k < 2\/6 < x.k\/no c x.n by rcases hk with g | g;exact .inl g;exact .inr (.inl g));rw [e1,e2];have B0:=Hh ((aa w.heap.size w).alloc (ac _) (.cells (d9 x) 38));have hn':0<=x.n/\x.n < c.S.length:=by unfold no at hn;omega
 have C1:=Hh (iw (h.below B0) (n:=x.n.toNat) (by omega));rw [eN hn'.1] at C1;have E:=Hh (fun w' b=>(gq h (w':=w') b 1).late);have X0:=Hh (aw w (.cells (d9 x) 38));clear h hn e1 e2 hn';unfold jD d9 at *;unfold ptr at *;obtain ⟨k,n,f,rr,v,s',m,tt⟩:=x;simp only at h1 h3 hk B0 C1 E X0 ⊢;have q1:=cH.2 h1;have q2:=cH.2 (by omega);have q3:=cH.2 h3;have q4:=cH.2 (by omega);have q5:=cH.2 (by omega);have q6:=cH.2 (by omega);have r2:¬ k=2:=by omega
 have r4:¬ k=4:=by omega
 have r5:¬ k=5:=by omega
 have r6:¬ k=6:=by omega
 clear hk
 go_enter func10,ntmps10
 go_wp2_with fail;refine C1.mono ?_;rintro e w1 ⟨rfl,b1⟩;have y0:=(b1.cell (bh X0.out)).trans (ah X0.out 0);have F:=Hh (E w1 (aP B0 b1));clear E C1 b1 X0 B0;go_wp2
 go_ret
 exact F
theorem MW (hk:x.k=4) (hn:¬ no c x.n):(bX c.V x.n=true->bP x c=0/\bO x c = { c with V:=c.V.set x.n.toNat false,P:=Wt.rP c.P x.n })/\(bX c.V x.n=false->bP x c=10/\bO x c=c):=by
 have he:bP x c=if bX c.V x.n=true then 0 else 10:=by
  unfold bP;rw [ai (by omega),ai (by omega),ai (by rintro (g | g | g);omega;omega;exact hn g),ai (by omega),an hk]
 refine ⟨fun hv=>?_,fun hv=>?_⟩
 ·rw [hv] at he
  refine ⟨he,?_⟩;unfold bO;rw [ai (by omega),ai (by rw [he];simp),ai (by omega),ai (by omega),an hk]
 ·rw [hv] at he
  refine ⟨he,?_⟩;unfold bO;rw [ai (by omega),an (by rw [he];decide)]
theorem Nz (h:Cl w s F c t vn L p vq Fs) (ok:jB c t) (sy:nL c) (x:Ac) (hk:x.k=4) (hn:¬ no c x.n):Calls prog 10 #[ptr s,jD x] w (jk w s F (bO x c) (t+1) (bP x c)):=by
 have B0:=Hh ((aa w.heap.size w).alloc (ac _) (.cells (d9 x) 38));have hn':0<=x.n/\x.n < c.S.length:=by unfold no at hn;omega
 have hnn:=eN hn'.1;have C1:=Hh (iw (h.below B0) (n:=x.n.toNat) (by omega));rw [hnn] at C1
 have C2:Hid (∀ w1,Below (w.alloc (.cells (d9 x) 38)).heap.size (w.alloc (.cells (d9 x) 38)) w1->Calls prog 34 #[ptr s,.int .i64 x.n] w1 (jk w1 s F (bO x c) t (bP x c))):=Hh (fun w1 b1=>by
  obtain ⟨a1,a2⟩:=MW hk hn
  cases hv:bX c.V x.n with
  | true =>
    have q:=I8 ((h.below B0).below b1) ok sy (n:=x.n.toNat) (by omega) (by rw [hnn];exact hv);rw [hnn] at q;rw [(a1 hv).1,(a1 hv).2];exact q
  | false =>
    have q:=Ox ((h.below B0).below b1) (n:=x.n.toNat) (by omega) (by rw [hnn];exact hv);rw [hnn] at q;rw [(a2 hv).1,(a2 hv).2]
    exact q)
 have E:=Hh (fun w1 (b:Below w.heap.size w w1) e w' (d:jk w1 s F (bO x c) t (bP x c) e w')=>(d.pre b h.low).late);have X0:=Hh (aw w (.cells (d9 x) 38));clear h hn ok sy hn' hnn;generalize bO x c=c' at *;generalize bP x c=ae at *;unfold jD d9 at *;unfold ptr at *;obtain ⟨k,n,f,rr,v,s',m,tt⟩:=x;simp only at hk B0 C1 C2 E X0 ⊢;subst hk
 go_enter func10,ntmps10
 go_wp2_with fail;refine C1.mono ?_;rintro e w1 ⟨rfl,b1⟩;have y0:=(b1.cell (bh X0.out)).trans (ah X0.out 0);have y1:=(b1.cell (bh X0.out)).trans (ah X0.out 1);have D:=Hh (C2 w1 b1);have B1:=aP B0 b1;clear C1 C2 b1 X0 B0;go_wp2_with fail;refine D.mono ?_;rintro e w2 d;have G:=Hh (E w1 B1 e w2 d);obtain ⟨rfl,_,_⟩:=d;clear E D y0 y1;go_wp2
 go_ret
 exact G
theorem El (hk:x.k=5) (hn:¬ no c x.n):(bX c.V x.n=false->bP x c=0/\bO x c = { c with V:=c.V.set x.n.toNat true,P:=Wt.rM c.P x.n })/\(bX c.V x.n=true->bP x c=10/\bO x c=c):=by
 have he:bP x c=if bX c.V x.n=true then 10 else 0:=by
  unfold bP;rw [ai (by omega),ai (by omega),ai (by rintro (g | g | g);omega;omega;exact hn g),ai (by omega),ai (by omega),an hk]
 refine ⟨fun hv=>?_,fun hv=>?_⟩
 ·rw [hv] at he
  refine ⟨he,?_⟩;unfold bO;rw [ai (by omega),ai (by rw [he];simp),ai (by omega),ai (by omega),ai (by omega),an hk]
 ·rw [hv] at he
  refine ⟨he,?_⟩;unfold bO;rw [ai (by omega),an (by rw [he];decide)]
theorem DC (h:Cl w s F c t vn L p vq Fs) (ok:jB c t) (sy:nL c) (x:Ac) (hk:x.k=5) (hn:¬ no c x.n):Calls prog 10 #[ptr s,jD x] w (jk w s F (bO x c) (t+1) (bP x c)):=by
 have B0:=Hh ((aa w.heap.size w).alloc (ac _) (.cells (d9 x) 38));have hn':0<=x.n/\x.n < c.S.length:=by unfold no at hn;omega
 have hnn:=eN hn'.1;have C1:=Hh (iw (h.below B0) (n:=x.n.toNat) (by omega));rw [hnn] at C1
 have C2:Hid (∀ w1,Below (w.alloc (.cells (d9 x) 38)).heap.size (w.alloc (.cells (d9 x) 38)) w1->Calls prog 35 #[ptr s,.int .i64 x.n] w1 (jk w1 s F (bO x c) t (bP x c))):=Hh (fun w1 b1=>by
  obtain ⟨a1,a2⟩:=El hk hn
  cases hv:bX c.V x.n with
  | false =>
    have q:=Az ((h.below B0).below b1) ok sy (n:=x.n.toNat) (by omega) (by rw [hnn];exact hv);rw [hnn] at q;rw [(a1 hv).1,(a1 hv).2];exact q
  | true =>
    have q:=Ep ((h.below B0).below b1) (n:=x.n.toNat) (by omega) (by rw [hnn];exact hv);rw [hnn] at q;rw [(a2 hv).1,(a2 hv).2]
    exact q)
 have E:=Hh (fun w1 (b:Below w.heap.size w w1) e w' (d:jk w1 s F (bO x c) t (bP x c) e w')=>(d.pre b h.low).late);have X0:=Hh (aw w (.cells (d9 x) 38));clear h hn ok sy hn' hnn;generalize bO x c=c' at *;generalize bP x c=ae at *;unfold jD d9 at *;unfold ptr at *;obtain ⟨k,n,f,rr,v,s',m,tt⟩:=x;simp only at hk B0 C1 C2 E X0 ⊢;subst hk
 go_enter func10,ntmps10
 go_wp2_with fail;refine C1.mono ?_;rintro e w1 ⟨rfl,b1⟩;have y0:=(b1.cell (bh X0.out)).trans (ah X0.out 0);have y1:=(b1.cell (bh X0.out)).trans (ah X0.out 1);have D:=Hh (C2 w1 b1);have B1:=aP B0 b1;clear C1 C2 b1 X0 B0;go_wp2_with fail;refine D.mono ?_;rintro e w2 d;have G:=Hh (E w1 B1 e w2 d);obtain ⟨rfl,_,_⟩:=d;clear E D y0 y1;go_wp2
 go_ret
 exact G
end
end Cu
