import Derived.Below
import Derived.WalkKit
import Derived.Test.YtljnkaodhfnbbaaGreatDoorChecked
import Derived.Laws.Rows
import Derived.Deep.WholeRow
import Derived.DeepKeys
import Derived.LoopTactic
import Derived.Outline
import Derived.Deep.LoopGhost
import Derived.Deep.Draws
import Derived.Lib.Hide
import Derived.Laws.AppendOwn
import Derived.OneCell
import Derived.BigQuiet
import Derived.Deep.QuietTactic
import Derived.WalkSmall
import Derived.ProofKit
import Derived.OpenShut
import Derived.ChangeOld
import Derived.Deep.SlicePairs
import Derived.Test.YtljnkaodhfnbbaaGreatDoorRows
import Derived.LaidMore
import Derived.Stop.Joined
import Derived.OwnWalk
import Derived.Laws.OwnMore
import Derived.Laws.ResultCell
import Derived.ChangeKeysEq
import Derived.Laws.StructEq
import Derived.OrdersHeld
import Derived.Deep.RegionHeld3
import Derived.Laws.MakeOwn
import Derived.Lib.BufferMore
set_option maxRecDepth 100000
namespace Go.Proofs.YtljnkaodhfnbbaaGreatDoor.Tk
def fr (A:Nat→Int):Nat→Int
 | 0=>0
 | k+1=>A k
def rt (R:Nat→Int):Nat→Int
 | 0=>0
 | k+1=>R k
def sm (A R:Nat→Int):Nat→Int
 | 0=>0
 | k+1=>sm A R k+(A k - fr A k) * (1000000+rt R k)
def AtStop (A:Nat→Int) (n:Nat) (t:Int) (k:Nat):Prop:=k≤n∧(∀ i,i < k→A i < t)∧(k < n→t≤A k)
theorem AtStop.uniq {A:Nat→Int} {n:Nat} {t:Int} {k j:Nat} (h:AtStop A n t k) (g:AtStop A n t j):k=j:=by
 obtain ⟨h1,h2,h3⟩:=h;obtain ⟨g1,g2,g3⟩:=g
 rcases Nat.lt_trichotomy k j with c | c | c
 ·have a:=h3 (by omega);have b:=g2 k c;omega
 ·exact c
 ·have a:=g3 (by omega);have b:=h2 j c;omega
theorem AtStop.ex (A:Nat→Int) (n:Nat) (t:Int):∃ k,AtStop A n t k:=by
 induction n with
 | zero=>exact ⟨0,Nat.le_refl _,fun i h=>by omega,fun h=>by omega⟩
 | succ n ih =>
   obtain ⟨k,h1,h2,h3⟩:=ih
   by_cases hk:k < n
   ·exact ⟨k,by omega,h2,fun _=>h3 hk⟩
   ·obtain rfl:k=n:=by omega
    by_cases ha:A k < t
    ·refine ⟨k+1,by omega,fun i hi=>?_,fun h=>by omega⟩
     by_cases e:i=k
     ·subst e;exact ha
     ·exact h2 i (by omega)
    ·exact ⟨k,by omega,h2,fun _=>by omega⟩
noncomputable def stop (A:Nat→Int) (n:Nat) (t:Int):Nat:=(AtStop.ex A n t).choose
theorem stop_at (A:Nat→Int) (n:Nat) (t:Int):AtStop A n t (stop A n t):=(AtStop.ex A n t).choose_spec
theorem stop_eq {A:Nat→Int} {n:Nat} {t:Int} {k:Nat} (h:AtStop A n t k):stop A n t=k:=(stop_at A n t).uniq h
def pp (A R:Nat→Int) (k:Nat) (t:Int):Int:=sm A R k+(t - fr A k) * (1000000+rt R k)
noncomputable def PP (A R:Nat→Int) (n:Nat) (t:Int):Int:=pp A R (stop A n t) t
theorem PP_eq {A R:Nat→Int} {n:Nat} {t:Int} {k:Nat} (h:AtStop A n t k):PP A R n t=pp A R k t:=by rw [PP,stop_eq h]
def clamp (t:Int):Int:=if t < 0 then 0 else if 4294967296 < t then 4294967296 else t
theorem clamp_lo (t:Int):0≤clamp t:=by unfold clamp;split <;> (try split) <;> omega
theorem clamp_hi (t:Int):clamp t≤4294967296:=by unfold clamp;split <;> (try split) <;> omega
theorem clamp_id {t:Int} (h:0≤t) (h':t≤4294967296):clamp t=t:=by unfold clamp;split <;> (try split) <;> omega
noncomputable def Loc (A R:Nat→Int) (n:Nat) (t:Int):Int:=PP A R n (clamp t) / 1000000
structure GoodP (n:Nat) (A R:Nat→Int):Prop where
 len:n≤64
 at_:∀ i,i < n→0≤A i∧A i≤4294967296
 rate:∀ i,i < n→-20000≤R i∧R i≤20000
 up:∀ i,i+1 < n→A i < A (i+1)
noncomputable def goodB (n:Nat) (A R:Nat→Int):Bool:=@decide (GoodP n A R) (Classical.propDecidable _)
theorem goodB_true {n:Nat} {A R:Nat→Int} : goodB n A R=true↔GoodP n A R:=by unfold goodB;exact @decide_eq_true_iff _ (Classical.propDecidable _)
theorem goodB_yes {n:Nat} {A R:Nat→Int} (h:GoodP n A R):goodB n A R=true:=goodB_true.2 h
theorem goodB_no {n:Nat} {A R:Nat→Int} (h:¬ GoodP n A R):goodB n A R=false:=by
 cases e:goodB n A R with
 | false=>rfl
 | true=>exact absurd (goodB_true.1 e) h
section
variable {n:Nat} {A R:Nat→Int}
theorem rt_bd (g:GoodP n A R) (k:Nat) (h:k≤n) : -20000≤rt R k∧rt R k≤20000:=by
 cases k with
 | zero=>exact ⟨by simp [rt],by simp [rt]⟩
 | succ k=>exact g.rate k (by omega)
theorem fr_bd (g:GoodP n A R) (k:Nat) (h:k≤n):0≤fr A k∧fr A k≤4294967296:=by
 cases k with
 | zero=>exact ⟨by simp [fr],by simp [fr]⟩
 | succ k=>exact g.at_ k (by omega)
theorem fr_le (g:GoodP n A R) (k:Nat) (h:k < n):fr A k≤A k:=by
 cases k with
 | zero=>exact (g.at_ 0 h).1
 | succ k=>exact Int.le_of_lt (g.up k h)
theorem mul_bd {d c:Int} (h:0≤d) (h1:980000≤c) (h2:c≤1020000):d * 980000≤d * c∧d * c≤d * 1020000 :=
 ⟨Int.mul_le_mul_of_nonneg_left h1 h,Int.mul_le_mul_of_nonneg_left h2 h⟩
theorem sm_bd (g:GoodP n A R) (k:Nat) (h:k≤n):fr A k * 980000≤sm A R k∧sm A R k≤fr A k * 1020000:=by
 induction k with
 | zero=>simp [fr,sm]
 | succ k ih =>
   have i:=ih (by omega);have b:=rt_bd g k (by omega);have f:=fr_le g k (by omega);have m:=mul_bd (d:=A k - fr A k) (c:=1000000+rt R k) (by omega) (by omega) (by omega)
   show A k * 980000≤sm A R k+(A k - fr A k) * (1000000+rt R k)∧sm A R k+(A k - fr A k) * (1000000+rt R k)≤A k * 1020000
   generalize (A k - fr A k) * (1000000+rt R k)=z at m ⊢
   omega
theorem pp_bd (g:GoodP n A R) (k:Nat) (h:k≤n) (t:Int) (ht:fr A k≤t):t * 980000≤pp A R k t∧pp A R k t≤t * 1020000:=by
 have i:=sm_bd g k h;have b:=rt_bd g k h;have m:=mul_bd (d:=t - fr A k) (c:=1000000+rt R k) (by omega) (by omega) (by omega);unfold pp;generalize (t - fr A k) * (1000000+rt R k)=z at m ⊢
 omega
theorem stop_fr {t:Int} {k:Nat} (h0:0≤t) (h:AtStop A n t k):fr A k≤t:=by
 cases k with
 | zero=>exact h0
 | succ k=>exact Int.le_of_lt (h.2.1 k (by omega))
theorem PP_bd (g:GoodP n A R) (t:Int) (h0:0≤t):t * 980000≤PP A R n t∧PP A R n t≤t * 1020000:=by
 have s:=stop_at A n t;exact pp_bd g _ s.1 t (stop_fr h0 s)
theorem PP_succ (g:GoodP n A R) (t:Int):∃ c,980000≤c∧c≤1020000∧PP A R n (t+1)=PP A R n t+c:=by
 have s:=stop_at A n t;generalize hk:stop A n t=k at s;obtain ⟨s1,s2,s3⟩:=s;rw [PP_eq ⟨s1,s2,s3⟩]
 by_cases hn:k < n∧A k < t+1
 ·obtain ⟨hn,ha⟩:=hn
  have e:A k=t:=by have:=s3 hn;omega
  have st:AtStop A n (t+1) (k+1):=by
   refine ⟨hn,fun i hi=>?_,fun h=>?_⟩
   ·by_cases c:i=k
    ·subst c;exact ha
    ·have:=s2 i (by omega);omega
   ·have:=g.up k h;omega
  rw [PP_eq st];have b:=g.rate k hn;refine ⟨1000000+R k,by omega,by omega,?_⟩
  show sm A R k+(A k - fr A k) * (1000000+rt R k)+(t+1 - A k) * (1000000+R k)=sm A R k+(t - fr A k) * (1000000+rt R k)+(1000000+R k)
  rw [e,show t+1 - t=1 by omega,Int.one_mul]
 ·have st:AtStop A n (t+1) k:=by
   refine ⟨s1,fun i hi=>?_,fun h=>?_⟩
   ·have:=s2 i hi;omega
   ·have:=s3 h;omega
  rw [PP_eq st];have b:=rt_bd g k s1;refine ⟨1000000+rt R k,by omega,by omega,?_⟩;unfold pp;rw [show t+1 - fr A k=(t - fr A k)+1 by omega,Int.add_mul,Int.one_mul]
  omega
theorem PP_zero (g:GoodP n A R):PP A R n 0=0:=by have:=PP_bd g 0 (by decide);omega
theorem PP_add (g:GoodP n A R) (t:Int) (d:Nat):PP A R n t+980000 * d≤PP A R n (t+d)∧PP A R n (t+d)≤PP A R n t+1020000 * d:=by
 induction d with
 | zero=>simp
 | succ d ih =>
   obtain ⟨c,c1,c2,e⟩:=PP_succ g (t+d);rw [show t+((d+1:Nat):Int)=t+d+1 by omega,e]
   omega
theorem PP_mono (g:GoodP n A R) {t u:Int} (h:t≤u):PP A R n t≤PP A R n u:=by
 have:=(PP_add g t (u - t).toNat).1;rw [show t+((u - t).toNat:Int)=u by omega] at this
 omega
theorem clamp_mono {t u:Int} (h:t≤u):clamp t≤clamp u:=by unfold clamp;repeat' split <;> omega
theorem Loc_mono (g:GoodP n A R) {t u:Int} (h:t≤u):Loc A R n t≤Loc A R n u:=by
 unfold Loc;have:=PP_mono g (clamp_mono h)
 omega
theorem Loc_bd (g:GoodP n A R) (t:Int) (h0:0≤t) (h1:t≤4294967296):Loc A R n t≤t+t / 50∧t - t / 50 - 1≤Loc A R n t:=by
 unfold Loc;rw [clamp_id h0 h1];have:=PP_bd g t h0
 omega
end
structure IsG (A R:Nat→Int) (n:Nat) (m g:Int):Prop where
 lo:0≤g
 hi:g≤4294967296
 before:∀ t,0≤t→t < g→Loc A R n t < m
 there:g < 4294967296→m≤Loc A R n g
theorem IsG.uniq {A R:Nat→Int} {n:Nat} {m g k:Int} (h:IsG A R n m g) (i:IsG A R n m k):g=k:=by
 have a:=h.lo;have b:=h.hi;have c:=i.lo;have d:=i.hi
 rcases Int.lt_trichotomy g k with e | e | e
 ·have x:=h.there (by omega);have y:=i.before g a e;omega
 ·exact e
 ·have x:=i.there (by omega);have y:=h.before k c e;omega
theorem first_or (f:Int→Int) (m:Int) (N:Nat):(∃ g:Int,0≤g∧g < N∧(∀ t,0≤t→t < g→f t < m)∧m≤f g)∨(∀ t:Int,0≤t→t < N→f t < m):=by
 induction N with
 | zero=>exact .inr fun t h h'=>by omega
 | succ N ih =>
   rcases ih with ⟨g,g0,g1,g2,g3⟩ | h
   ·exact .inl ⟨g,g0,by omega,g2,g3⟩
   ·by_cases c:f N < m
    ·refine .inr fun t t0 t1=>?_
     by_cases e:t=N
     ·subst e;exact c
     ·exact h t t0 (by omega)
    ·exact .inl ⟨N,by omega,by omega,h,by omega⟩
theorem IsG.ex (A R:Nat→Int) (n:Nat) (m:Int):∃ g,IsG A R n m g:=by
 generalize hN:(4294967296:Int).toNat=N;have e:(N:Int)=4294967296:=by omega
 rcases first_or (Loc A R n) m N with ⟨g,g0,g1,g2,g3⟩ | h
 ·exact ⟨g,g0,by omega,g2,fun _=>g3⟩
 ·exact ⟨4294967296,by omega,by omega,fun t t0 t1=>h t t0 (by omega),fun h=>by omega⟩
noncomputable def Glo (A R:Nat→Int) (n:Nat) (m:Int):Int:=(IsG.ex A R n m).choose
theorem Glo_is (A R:Nat→Int) (n:Nat) (m:Int):IsG A R n m (Glo A R n m):=(IsG.ex A R n m).choose_spec
theorem Glo_eq {A R:Nat→Int} {n:Nat} {m g:Int} (h:IsG A R n m g):Glo A R n m=g:=(Glo_is A R n m).uniq h
theorem IsG.of_meet {A R:Nat→Int} {n:Nat} {m g:Int} (h0:0≤g) (h1:g≤4294967296) (hl:∀ t,0≤t→t < g→Loc A R n t < m) (hh:g < 4294967296→m≤Loc A R n g):IsG A R n m g:=⟨h0,h1,hl,hh⟩
end Go.Proofs.YtljnkaodhfnbbaaGreatDoor.Tk
namespace Go.Proofs.YtljnkaodhfnbbaaGreatDoor.Tk
open Go.RowKit
def Steps (w:World) (v:Value) (n:Nat) (A R:Nat→Int):Prop :=
 (∃ (a:Option Addr) (cap:Nat),v = .slice a 0 cap∧cap≤maxLen∧n=0) ∨
 ∃ (b off cap:Nat),v = .slice (some ⟨b,off,none⟩) n cap∧n≤cap∧cap≤maxLen ∧
  ∀ i,i < n→w.cell? ⟨b,off+i * 2,none⟩=some (.int .i64 (A i))∧w.cell? ⟨b,off+i * 2+1,none⟩=some (.int .i64 (R i))
theorem Steps.below {w w':World} {v:Value} {n:Nat} {A R:Nat→Int} (h:Steps w v n A R) (b:Below w.heap.size w w'):Steps w' v n A R:=by
 rcases h with h | ⟨b0,off,cap,e,h1,h2,hc⟩
 ·exact .inl h
 ·refine .inr ⟨b0,off,cap,e,h1,h2,fun i hi=>?_⟩
  obtain ⟨c1,c2⟩:=hc i hi;exact ⟨(b.cell (World.block_lt_of_cell? _ _ c1)).trans c1,(b.cell (World.block_lt_of_cell? _ _ c2)).trans c2⟩
end Go.Proofs.YtljnkaodhfnbbaaGreatDoor.Tk
namespace Go.Proofs.YtljnkaodhfnbbaaGreatDoor.Ua
open Go.RowKit
def bit (b:Int) (j:Nat):Bool:=decide (b / 2 ^ j % 2=1)
def par (F:Nat→Bool):Nat→Bool
 | 0=>false
 | k+1=>par F k != F (k+1)
def val (F:Nat→Bool):Nat→Nat
 | 0=>0
 | k+1=>val F k+if F (k+1) then 2 ^ k else 0
def upd (F:Nat→Bool) (k:Nat) (x:Bool) (i:Nat):Bool:=if i=k then x else F i
def put (b:Int) (k:Nat) (i:Nat):Bool:=if 1≤i∧i < k then bit b (i - 1) else false
def frm (b:Int) (odd:Bool):Nat→Bool:=upd (upd (put b 9) 9 (par (put b 9) 9 != odd)) 10 true
def turn (F:Nat→Bool) (m:Int) (k:Nat) (i:Nat):Bool:=if i < k then F i != bit m i else F i
def bad (F:Nat→Bool):Bool:=F 0 || !F 10
def tb (F:Nat→Bool):Int:=if bad F then 0 else val F 8
def tp (F:Nat→Bool):Bool:=if bad F then false else par F 9
def te (F:Nat→Bool):Int:=if bad F then 2 else 0
theorem par_congr {F G:Nat→Bool} : ∀ k,(∀ i,1≤i→i≤k→F i=G i)→par F k=par G k
 | 0,_=>rfl
 | k+1,h=>by rw [par,par,par_congr k (fun i h1 h2=>h i h1 (by omega)),h (k+1) (by omega) (by omega)]
theorem val_congr {F G:Nat→Bool} : ∀ k,(∀ i,1≤i→i≤k→F i=G i)→val F k=val G k
 | 0,_=>rfl
 | k+1,h=>by rw [val,val,val_congr k (fun i h1 h2=>h i h1 (by omega)),h (k+1) (by omega) (by omega)]
theorem val_lt (F:Nat→Bool):∀ k,val F k < 2 ^ k
 | 0=>Nat.lt_succ_self 0
 | k+1=>by have:=val_lt F k;rw [val,Nat.pow_succ];split <;> omega
theorem bit_mod (b:Int) (j:Nat):b / 2 ^ j % 2=if bit b j then 1 else 0:=by
 unfold bit
 split
 ·rename_i h;simpa using h
 ·rename_i h;simp at h;omega
theorem pow_succ_int (k:Nat):(2:Int) ^ (k+1)=2 ^ k * 2:=Int.pow_succ _ _
theorem mod_step (b:Int) (k:Nat):b % 2 ^ (k+1)=b % 2 ^ k+b / 2 ^ k % 2 * 2 ^ k:=by
 have e:b / (2 ^ k * 2)=b / 2 ^ k / 2:=(Int.ediv_ediv_of_nonneg (Int.le_of_lt (Int.pow_pos (by decide)))).symm;rw [pow_succ_int,Int.emod_def b (2 ^ k * 2),Int.emod_def b (2 ^ k),Int.emod_def (b / 2 ^ k) 2,e]
 grind
theorem val_put (b:Int):∀ k,k≤8→(val (put b 9) k:Int)=b % 2 ^ k
 | 0,_=>by simp [val]
 | k+1,h=>by
   have ih:=val_put b k (by omega);rw [mod_step,← ih,val,bit_mod];have:put b 9 (k+1)=bit b k:=by unfold put;rw [if_pos (by omega)];rfl
   rw [this]
   split <;> simp
theorem frm_0 (b:Int) (odd:Bool):frm b odd 0=false:=rfl
theorem frm_10 (b:Int) (odd:Bool):frm b odd 10=true:=rfl
theorem bad_frm (b:Int) (odd:Bool):bad (frm b odd)=false:=rfl
theorem frm_put (b:Int) (odd:Bool) (i:Nat) (h:i≤8):frm b odd i=put b 9 i:=by
 unfold frm upd;rw [if_neg (by omega),if_neg (by omega)]
theorem par_put9 (b:Int):par (put b 9) 9=par (put b 9) 8:=by
 show (par (put b 9) 8 != put b 9 9)=_
 have:put b 9 9=false:=by unfold put;rw [if_neg (by omega)]
 rw [this];simp
theorem par_frm (b:Int) (odd:Bool):par (frm b odd) 9=odd:=by
 show (par (frm b odd) 8 != frm b odd 9)=_
 rw [par_congr (G:=put b 9) 8 (fun i _ h=>frm_put b odd i h)];have:frm b odd 9=(par (put b 9) 9 != odd):=rfl;rw [this,par_put9]
 cases par (put b 9) 8 <;> cases odd <;> rfl
theorem tb_frm (b:Int) (odd:Bool) (h0:0≤b) (h1:b≤255):tb (frm b odd)=b:=by
 unfold tb;rw [bad_frm,if_neg (by simp),val_congr (G:=put b 9) 8 (fun i _ h=>frm_put b odd i h),val_put b 8 (by omega)]
 omega
theorem tp_frm (b:Int) (odd:Bool):tp (frm b odd)=odd:=by unfold tp;rw [bad_frm,par_frm];simp
theorem te_frm (b:Int) (odd:Bool):te (frm b odd)=0:=rfl
theorem and_bit_all:∀ b:Fin 256,∀ j:Fin 8,(bits BinOp.and .u8 (b.val:Int) (2 ^ j.val) != 0)=decide ((b.val:Int) / 2 ^ j.val % 2=1):=by decide +kernel
theorem and_bit (b:Int) (j:Nat) (h0:0≤b) (h1:b≤255) (hj:j < 8):(bits BinOp.and .u8 b (2 ^ j) != 0)=bit b j:=by
 have:=and_bit_all ⟨b.toNat,by omega⟩ ⟨j,hj⟩;simp only at this;rw [show ((b.toNat:Nat):Int)=b by omega] at this;exact this
theorem or_bit_all:∀ b:Fin 256,∀ j:Fin 8,b.val < 2 ^ j.val→bits BinOp.or .u8 (b.val:Int) (2 ^ j.val)=((b.val+2 ^ j.val:Nat):Int):=by decide +kernel
theorem or_bit (b j:Nat) (hj:j < 8) (h:b < 2 ^ j):bits BinOp.or .u8 (b:Int) (2 ^ j)=((b+2 ^ j:Nat):Int) :=
 or_bit_all ⟨b,by have:2 ^ j≤2 ^ 7:=Nat.pow_le_pow_right (by omega) (by omega)
                  omega⟩ ⟨j,hj⟩ h
theorem and_i64 (x:Int) (c:Nat) (hc:c < 9223372036854775808):bits BinOp.and .i64 x (c:Int)=(((x % 18446744073709551616).toNat &&& c:Nat):Int):=by
 have e:(BitVec.ofInt 64 x &&& BitVec.ofInt 64 (c:Int)).toNat=(x % 18446744073709551616).toNat &&& c:=by
  rw [BitVec.toNat_and,BitVec.toNat_ofInt,BitVec.toNat_ofInt]
  congr 1
  simp
  omega
 show IntKind.i64.wrap (((BitVec.ofInt 64 x &&& BitVec.ofInt 64 (c:Int)).toNat:Nat):Int)=_
 rw [e];have l:(x % 18446744073709551616).toNat &&& c≤c:=Nat.and_le_right;exact IntWalk.i64_in _ (by omega)
theorem and_one (x:Int):bits BinOp.and .i64 x 1=x % 2:=by
 have:=and_i64 x 1 (by omega);rw [Nat.and_one_is_mod] at this;rw [show (1:Int)=((1:Nat):Int) from rfl,this]
 omega
theorem test_one (m:Int) (k:Nat):(bits BinOp.and .i64 (m / 2 ^ k) 1 == 1)=bit m k:=by rw [and_one];rfl
end Go.Proofs.YtljnkaodhfnbbaaGreatDoor.Ua
namespace Go.Proofs.YtljnkaodhfnbbaaGreatDoor.Ua
open Go.RowKit
def arr (F:Nat→Bool):Array Value:=#[.bool (F 0),.bool (F 1),.bool (F 2),.bool (F 3),.bool (F 4),.bool (F 5),.bool (F 6),.bool (F 7),.bool (F 8),.bool (F 9),.bool (F 10)]
theorem arr_size (F:Nat→Bool):(arr F).size=11:=rfl
theorem arr_one (F:Nat→Bool):(arr F).all (·.oneCell')=true:=by simp [arr,Value.oneCell']
theorem arr_get (F:Nat→Bool) (k:Nat) (h:k < 11):(arr F)[k]? = some (.bool (F k)):=by
 rcases (by omega:k=0∨k=1∨k=2∨k=3∨k=4∨k=5∨k=6∨k=7∨k=8∨k=9∨k=10) with rfl | rfl | rfl | rfl | rfl | rfl | rfl | rfl | rfl | rfl | rfl <;> rfl
theorem arr_set (F:Nat→Bool) (k:Nat) (h:k < 11) (x:Bool):(arr F).setIfInBounds k (.bool x)=arr (upd F k x):=by
 rcases (by omega:k=0∨k=1∨k=2∨k=3∨k=4∨k=5∨k=6∨k=7∨k=8∨k=9∨k=10) with rfl | rfl | rfl | rfl | rfl | rfl | rfl | rfl | rfl | rfl | rfl <;> rfl
theorem arr_congr {F G:Nat→Bool} (h:∀ i,i < 11→F i=G i):arr F=arr G:=by
 unfold arr;rw [h 0 (by omega),h 1 (by omega),h 2 (by omega),h 3 (by omega),h 4 (by omega),h 5 (by omega),h 6 (by omega),h 7 (by omega),h 8 (by omega),h 9 (by omega),h 10 (by omega)]
def Row (w:World) (g:Nat) (F:Nat→Bool):Prop:=w.heap[g]? = some (.cells (arr F) 113 (0,0))
section
variable {w w':World} {g:Nat} {F:Nat→Bool}
theorem Row.lt (h:Row w g F):g < w.heap.size:=lt_of_block h
theorem Row.cell (h:Row w g F) (k:Nat) (hk:k < 11):w.cell? ⟨g,k,none⟩=some (.bool (F k)):=by rw [cell_of_row w g k _ _ (0,0) h,arr_get F k hk]
theorem Row.frozen (h:Row w g F) (k:Nat):w.frozen? ⟨g,k,none⟩=false:=frozen_of_row w g k _ _ h
theorem Row.new (w:World) (F:Nat→Bool):Row (w.alloc (.cells (arr F) 113)) w.heap.size F:=heap_alloc_new w _
theorem Row.draw (h:Row w g F) (n:Nat):Row (w.drewN n) g F:=h
theorem Row.alloc (h:Row w g F) (o:Obj):Row (w.alloc o) g F:=(Below.heap_alloc w o g h.lt).trans h
theorem Row.set_ (h:Row w g F) (k:Nat) (hk:k < 11) (x:Bool):Row (w.setCell ⟨g,k,none⟩ (.bool x)) g (upd F k x):=by
 unfold Row at h ⊢;rw [heap_setCell_same w g k _ _ _ h,arr_set F k hk x]
theorem Row.far (h:Row w g F) {p:Addr} (hp:g≠p.block) (u:Value):Row (w.setCell p u) g F:=(Below.heap_setCell w p u g hp).trans h
theorem Row.row (h:Row w g F) (G:Nat→Bool):Row (w.setRow g (arr G)) g G:=setRow_heap w g _ _ _ _ h
theorem Row.below {B:Nat} (h:Row w g F) (hb:Below B w w') (hg:g < B):Row w' g F:=(hb.block g hg).trans h
theorem Row.to {G:Nat→Bool} (h:Row w g F) (e:∀ i,i < 11→F i=G i):Row w g G:=by unfold Row at *;rw [h,arr_congr e]
theorem Row.load (h:Row w g F):(loadVar 113 ⟨g,0,none⟩).run Tryz.prog w = .ok (.agg (arr F)) w :=
 run_loadVar_row w g _ _ (arr F) (0,0) _ h Tryz.underlying113 rfl (by rw [arr_size];kernel_rfl)
end
theorem info:(Tryz.prog.info? 113).map (·.size)=some 11:=by kernel_rfl
theorem info_of (F:Nat→Bool):(Tryz.prog.info? 113).map (·.size)=some (arr F).size:=by rw [arr_size];exact info
theorem load_frame {ops:Array Oper} {rest:List Oper} {o:Oper} {a:Act} {w:World} {Q:Exit→Act→World→Prop} (hgd:o.guard=none) (x:Operand) (ho:o.op = .load 113 x)
 (g:Nat) (F:Nat→Bool) (hx:a.eval x = .pointer (some ⟨g,0,none⟩)) (hrow:Row w g F) (h:wpList Tryz.prog ops Q rest (a.put o.dst (.agg (arr F))) w):wpList Tryz.prog ops Q (o :: rest) a w :=
 wpList_load_row hgd _ x ho g hx _ _ _ _ hrow Tryz.underlying113 rfl (info_of _) h
theorem store_frame {ops:Array Oper} {rest:List Oper} {o:Oper} {a:Act} {w:World} {Q:Exit→Act→World→Prop} (hgd:o.guard=none) (x y:Operand) (ho:o.op = .store 113 x y)
 (g:Nat) (F G:Nat→Bool) (hx:a.eval x = .pointer (some ⟨g,0,none⟩)) (hy:a.eval y = .agg (arr F)) (hrow:Row w g G) (h:wpList Tryz.prog ops Q rest (a.put o.dst undef) (w.setRow g (arr F))):wpList Tryz.prog ops Q (o :: rest) a w :=
 wpList_store_row hgd _ x y ho g _ hx hy _ _ hrow (info_of _) rfl (arr_one _) h
theorem store_new {ops:Array Oper} {rest:List Oper} {o:Oper} {a:Act} {w:World} {Q:Exit→Act→World→Prop} (hgd:o.guard=none) (x y:Operand) (ho:o.op = .store 113 x y)
 (F:Nat→Bool) (hx:a.eval x = .pointer (some ⟨w.heap.size,0,none⟩)) (hy:a.eval y = .agg (arr F)) (h:wpList Tryz.prog ops Q rest (a.put o.dst undef) (w.alloc (.cells (arr F) 113))) :
 wpList Tryz.prog ops Q (o :: rest) a (w.alloc (.cells #[.bool false,.bool false,.bool false,.bool false,.bool false,.bool false,.bool false,.bool false,.bool false,.bool false,.bool false] 113)) :=
 store_frame hgd x y ho _ F (fun _=>false) hx hy (Row.new w (fun _=>false)) (by rw [World.setRow_alloc_new];exact h)
theorem copy_frame {ops:Array Oper} {rest:List Oper} {o o':Oper} {a:Act} {w:World} {Q:Exit→Act→World→Prop} (hg:o.guard=none) (hg':o'.guard=none) (x y:Operand) (d:Tmp) (ho:o.op = .load 113 x) (hd:o.dst=some d) (ho':o'.op = .store 113 y (.tmp d))
 (g g':Nat) (F G:Nat→Bool) (hx:a.eval x = .pointer (some ⟨g,0,none⟩)) (hy:(a.put (some d) (.agg (arr F))).eval y = .pointer (some ⟨g',0,none⟩)) (hz:(a.put (some d) (.agg (arr F))).eval (.tmp d) = .agg (arr F)) (hrow:Row w g F) (hrow':Row w g' G)
 (h:wpList Tryz.prog ops Q rest ((a.put (some d) (.agg (arr F))).put o'.dst undef) (w.setRow g' (arr F))):wpList Tryz.prog ops Q (o :: o' :: rest) a w :=
 load_frame hg x ho g F hx hrow (by rw [hd];exact store_frame hg' y (.tmp d) ho' g' F G hy hz hrow' h)
theorem results_frame {fn:Func} {p:Tmp} (h:fn.results=#[.cell p 113]) (tmps:Array Value) (w:World) (g:Nat) (F:Nat→Bool) (hp:tmps.getD p undef = .pointer (some ⟨g,0,none⟩)) (hrow:Row w g F) :
 (results fn tmps).run Tryz.prog w = .ok (.agg (arr F)) w:=results_cell_row h tmps w g _ _ _ _ hp hrow Tryz.underlying113 rfl (info_of _)
theorem below_setRow {B:Nat} {a w:World} (h:Below B a w) (g:Nat) (cs:Array Value) (hg:B≤g):Below B a (w.setRow g cs) :=
 ⟨h.os,h.tape,h.output,by rw [size_setRow];exact h.size,fun k hk=>(setRow_other w g k cs (by omega)).trans (h.block k hk)⟩
theorem ret_bool {a b:Bool} (h:a=b):Ending.returned (.bool a) = .returned (.bool b):=by rw [h]
theorem ret_int {k:IntKind} {a b:Int} (h:a=b):Ending.returned (.int k a) = .returned (.int k b):=by rw [h]
theorem ret_arr {F G:Nat→Bool} (h:∀ i,i < 11→F i=G i):Ending.returned (.agg (arr F)) = .returned (.agg (arr G)):=by rw [arr_congr h]
end Go.Proofs.YtljnkaodhfnbbaaGreatDoor.Ua
namespace Go.Proofs.YtljnkaodhfnbbaaGreatDoor.Sp
open Go.RowKit
abbrev S2:=Int×Int
def fr (l:List S2) (i:Nat):Int:=(l.getD i (0,0)).1
def tp (l:List S2) (i:Nat):Int:=(l.getD i (0,0)).2
def flat:List S2→List Value
 | []=>[]
 | s :: r=>.int .i64 s.1 :: .int .i64 s.2 :: flat r
theorem flat_length:∀ l:List S2,(flat l).length=l.length * 2
 | []=>rfl
 | s :: r=>by simp [flat,flat_length r];omega
theorem flat_append:∀ a b:List S2,flat (a ++ b)=flat a ++ flat b
 | [],_=>rfl
 | s :: r,b=>by simp [flat,flat_append r b]
theorem flat_get:∀ (l:List S2) (i:Nat),i < l.length→(flat l)[i * 2]? = some (.int .i64 (fr l i))∧(flat l)[i * 2+1]? = some (.int .i64 (tp l i))
 | s :: r,0,_=>⟨rfl,rfl⟩
 | s :: r,i+1,h=>by
   have ih:=flat_get r i (by simpa using h);have e:(i+1) * 2=i * 2+1+1:=by omega
   rw [e];exact ih
def At (w:World) (b off:Nat) (l:List S2):Prop:=∀ i,i < l.length→w.cell? ⟨b,off+i * 2,none⟩=some (.int .i64 (fr l i))∧w.cell? ⟨b,off+i * 2+1,none⟩=some (.int .i64 (tp l i))
def Sp (w:World) (v:Value) (l:List S2):Prop:=∃ a cap,v = .slice a l.length cap∧l.length≤cap∧cap≤maxLen∧(0 < l.length→∃ b off,a=some ⟨b,off,none⟩∧At w b off l)
def Own (w:World) (B E:Nat) (v:Value) (l:List S2):Prop:=w.ownsRow B E 2 v l.length (flat l)
theorem At.below {w w':World} {b off:Nat} {l:List S2} (h:At w b off l) (hb:Below w.heap.size w w'):At w' b off l:=fun i hi=>by
 obtain ⟨c1,c2⟩:=h i hi;exact ⟨(hb.cell (World.block_lt_of_cell? _ _ c1)).trans c1,(hb.cell (World.block_lt_of_cell? _ _ c2)).trans c2⟩
theorem Sp.below {w w':World} {v:Value} {l:List S2} (h:Sp w v l) (hb:Below w.heap.size w w'):Sp w' v l:=by
 obtain ⟨a,cap,e,h1,h2,h3⟩:=h;exact ⟨a,cap,e,h1,h2,fun hp=>by obtain ⟨b,off,ea,hA⟩:=h3 hp;exact ⟨b,off,ea,hA.below hb⟩⟩
theorem Sp.slice {w:World} {v:Value} {l:List S2} (h:Sp w v l):∃ a cap,v = .slice a l.length cap∧cap≤maxLen:=by
 obtain ⟨a,cap,e,_,h2,_⟩:=h;exact ⟨a,cap,e,h2⟩
theorem Own.nil (w:World) (B E:Nat):Own w B E (.slice none 0 0) []:=World.ownsRow_nil _ _ _ _
theorem Own.made (w:World) (B E:Nat) (hB:B≤w.heap.size):Own (w.alloc (.cells #[] E)) B E (.slice (some ⟨w.heap.size,0,none⟩) 0 0) [] :=
 World.ownsRow_made w #[] 0 hB (by unfold maxLen;omega) (by simp)
theorem Own.sp {w:World} {B E:Nat} {v:Value} {l:List S2} (h:Own w B E v l):Sp w v l:=by
 have hc:=fun g hg j u=>World.ownsRow.cells h (g:=g) hg j u;obtain ⟨_,h⟩:=h
 rcases h with ⟨rfl,h0⟩ | ⟨g,cap,cur,rfl,_,_,h1,h2,_⟩
 ·exact ⟨none,0,by rw [h0],by omega,by unfold maxLen;omega,fun h=>by omega⟩
 ·refine ⟨_,cap,rfl,h1,h2,fun _=>⟨g,0,rfl,fun i hi=>?_⟩⟩
  obtain ⟨g1,g2⟩:=flat_get l i hi;have c1:=hc g rfl _ _ g1;have c2:=hc g rfl _ _ g2;simp only [Addr.add_lit] at c1 c2;exact ⟨c1,by rw [← Nat.add_assoc] at c2;exact c2⟩
theorem Own.form {w:World} {B E:Nat} {v:Value} {l:List S2} (h:Own w B E v l) (hl:0 < l.length):∃ g cap,v = .slice (some ⟨g,0,none⟩) l.length cap∧B≤g∧g < w.heap.size∧l.length≤cap∧cap≤maxLen∧w.frozen? ⟨g,0,none⟩=false ∧
 (∀ i,i < l.length→w.cell? ⟨g,i * 2,none⟩=some (.int .i64 (fr l i))∧w.cell? ⟨g,i * 2+1,none⟩=some (.int .i64 (tp l i))∧w.frozen? ⟨g,i * 2,none⟩=false∧w.frozen? ⟨g,i * 2+1,none⟩=false):=by
 have hc:=fun g hg j u=>World.ownsRow.cells h (g:=g) hg j u;obtain ⟨_,h⟩:=h
 rcases h with ⟨_,h0⟩ | ⟨g,cap,cur,rfl,hB,hh,h1,h2,_⟩
 ·omega
 ·refine ⟨g,cap,rfl,hB,lt_of_block hh,h1,h2,by simp [World.frozen?,hh],fun i hi=>?_⟩
  obtain ⟨g1,g2⟩:=flat_get l i hi;have c1:=hc g rfl _ _ g1;have c2:=hc g rfl _ _ g2;simp only [Addr.add_lit,Nat.zero_add] at c1 c2;exact ⟨c1,c2,by simp [World.frozen?,hh],by simp [World.frozen?,hh]⟩
theorem Own.slice {w:World} {B E:Nat} {v:Value} {l:List S2} (h:Own w B E v l):∃ a cap,v = .slice a l.length cap∧l.length≤cap∧cap≤maxLen:=by
 obtain ⟨_,h⟩:=h
 rcases h with ⟨rfl,h0⟩ | ⟨g,cap,cur,rfl,_,_,h1,h2,_⟩
 ·exact ⟨none,0,by rw [h0],by omega,by unfold maxLen;omega⟩
 ·exact ⟨_,_,rfl,h1,h2⟩
theorem Own.alloc {w:World} {B E:Nat} {v:Value} {l:List S2} (h:Own w B E v l) (o:Obj):Own (w.alloc o) B E v l:=World.ownsRow.alloc h o
theorem Own.draw {w:World} {B E:Nat} {v:Value} {l:List S2} (h:Own w B E v l) (n:Nat):Own (w.drewN n) B E v l:=h
theorem Own.keep {w w':World} {B E:Nat} {v:Value} {l:List S2} (h:Own w B E v l) (hb:Below w.heap.size w w'):Own w' B E v l:=by
 obtain ⟨h1,h2⟩:=h;refine ⟨h1,?_⟩
 rcases h2 with h2 | ⟨g,cap,cur,e,hB,hh,r⟩
 ·exact .inl h2
 ·exact .inr ⟨g,cap,cur,e,hB,(hb.block g (lt_of_block hh)).trans hh,r⟩
theorem heap_setCell_same {w:World} {g j:Nat} {cur:Array Value} {E:TypeId} (hh:w.heap[g]? = some (.cells cur E (0,0))) (u:Value):(w.setCell ⟨g,j,none⟩ u).heap[g]? = some (.cells (cur.setIfInBounds j u) E (0,0)):=by
 have hlt:=lt_of_block hh;have h':w.heap[g] = .cells cur E (0,0):=by simpa [Array.getElem?_eq_getElem hlt] using hh
 show (w.heap.modify g _)[g]? = _
 rw [Array.getElem?_eq_getElem (by simpa using hlt),Array.getElem_modify_self,h']
 rfl
theorem flat_set:∀ (l:List S2) (i:Nat) (x:Int),i < l.length→(flat l).set (i * 2+1) (.int .i64 x)=flat (l.set i (fr l i,x))
 | s :: r,0,x,_=>rfl
 | s :: r,i+1,x,h=>by
   have ih:=flat_set r i x (by simpa using h);have e:(i+1) * 2+1=(i * 2+1)+1+1:=by omega
   rw [e]
   show Value.int .i64 s.1 :: Value.int .i64 s.2 :: (flat r).set (i * 2+1) (.int .i64 x)=_
   rw [ih]
   rfl
theorem Own.set {w:World} {B E g cap:Nat} {l:List S2} (h:Own w B E (.slice (some ⟨g,0,none⟩) l.length cap) l) (i:Nat) (hi:i < l.length) (x:Int) :
 Own (w.setCell ⟨g,i * 2+1,none⟩ (.int .i64 x)) B E (.slice (some ⟨g,0,none⟩) l.length cap) (l.set i (fr l i,x)):=by
 obtain ⟨h1,h2⟩:=h;refine ⟨by rw [flat_length],?_⟩
 rcases h2 with ⟨e,_⟩ | ⟨g',cap',cur,e,hB,hh,k1,k2,k3,k4⟩
 ·simp at e
 ·injection e with e1 e2 e3
  injection e1 with e1;injection e1 with e1;subst e1 e3;refine .inr ⟨_,_,_,by rw [List.length_set],hB,heap_setCell_same hh _,by rw [List.length_set];exact k1,k2,by simp [k3],?_⟩;rw [← flat_set l i x hi,← k4,List.length_set]
  simp [List.take_set]
theorem Own.push {w':World} {B E:Nat} {v':Value} {l:List S2} {s:S2} (h:w'.ownsRow B E 2 v' (l.length+1) (flat l ++ [.int .i64 s.1,.int .i64 s.2])):Own w' B E v' (l ++ [s]):=by
 show w'.ownsRow B E 2 v' (l ++ [s]).length (flat (l ++ [s]))
 rw [flat_append,List.length_append];exact h
end Go.Proofs.YtljnkaodhfnbbaaGreatDoor.Sp
namespace Go.Proofs.YtljnkaodhfnbbaaGreatDoor.Wi
open Sp
theorem ltge (a b:Int):a < b∨b≤a:=by omega
def Low (l:List S2) (t:Int):Prop:=∃ s∈l,s.1≤t∧t < s.2
def inB (t:Int) (s:S2):Bool:=decide (s.1≤t) && decide (t < s.2)
def lowB (l:List S2) (t:Int):Bool:=l.any (inB t)
theorem lowB_iff {l:List S2} {t:Int} : lowB l t=true↔Low l t:=by
 simp [lowB,Low,inB,List.any_eq_true]
theorem lowB_false {l:List S2} {t:Int} : lowB l t=false↔¬ Low l t:=by
 rw [← lowB_iff];simp
def Plain (l:List S2):Prop:=(∀ s∈l,s.1 < s.2)∧l.Pairwise (fun a b=>a.2 < b.1)
theorem mem_fr {l:List S2} {i:Nat} (h:i < l.length):(fr l i,tp l i)∈l:=by
 have e:l.getD i (0,0)=l[i]:=by simp [h]
 show ((l.getD i (0,0)).1,(l.getD i (0,0)).2)∈l
 rw [e];exact List.getElem_mem h
theorem mem_iff {l:List S2} {s:S2} : s∈l↔∃ i,i < l.length∧fr l i=s.1∧tp l i=s.2:=by
 constructor
 ·intro h
  obtain ⟨i,hi,e⟩:=List.getElem_of_mem h;exact ⟨i,hi,by simp [fr,hi,e],by simp [tp,hi,e]⟩
 ·rintro ⟨i,hi,e1,e2⟩
  have:=mem_fr hi;rw [e1,e2] at this;exact this
theorem low_iff {l:List S2} {t:Int} : Low l t↔∃ i,i < l.length∧fr l i≤t∧t < tp l i:=by
 constructor
 ·rintro ⟨s,hs,h⟩
  obtain ⟨i,hi,e1,e2⟩:=mem_iff.1 hs;exact ⟨i,hi,by omega,by omega⟩
 ·rintro ⟨i,hi,h⟩
  exact ⟨_,mem_fr hi,h⟩
theorem low_append {a b:List S2} {t:Int} : Low (a ++ b) t↔Low a t∨Low b t:=by
 constructor
 ·rintro ⟨s,hs,h⟩
  rcases List.mem_append.1 hs with h' | h'
  ·exact .inl ⟨s,h',h⟩
  ·exact .inr ⟨s,h',h⟩
 ·rintro (⟨s,hs,h⟩ | ⟨s,hs,h⟩)
  ·exact ⟨s,List.mem_append_left _ hs,h⟩
  ·exact ⟨s,List.mem_append_right _ hs,h⟩
theorem low_nil {t:Int} : ¬ Low [] t:=by rintro ⟨s,hs,_⟩;simp at hs
theorem low_cons {s:S2} {r:List S2} {t:Int} : Low (s :: r) t↔(s.1≤t∧t < s.2)∨Low r t:=by
 constructor
 ·rintro ⟨x,hx,h⟩
  rcases List.mem_cons.1 hx with rfl | h'
  ·exact .inl h
  ·exact .inr ⟨x,h',h⟩
 ·rintro (h | ⟨x,hx,h⟩)
  ·exact ⟨s,List.mem_cons_self,h⟩
  ·exact ⟨x,List.mem_cons_of_mem _ hx,h⟩
theorem low_one {s:S2} {t:Int} : Low [s] t↔s.1≤t∧t < s.2:=by
 rw [low_cons];exact ⟨fun h=>h.resolve_right low_nil,.inl⟩
theorem plain_nil:Plain []:=⟨fun s h=>by simp at h,List.Pairwise.nil⟩
theorem plain_snoc {l:List S2} {s:S2} : Plain (l ++ [s])↔Plain l∧s.1 < s.2∧∀ x∈l,x.2 < s.1:=by
 unfold Plain;rw [List.pairwise_append]
 constructor
 ·rintro ⟨h1,h2,_,h3⟩
  exact ⟨⟨fun x hx=>h1 x (List.mem_append_left _ hx),h2⟩,h1 s (by simp),fun x hx=>h3 x hx s (by simp)⟩
 ·rintro ⟨⟨h1,h2⟩,h3,h4⟩
  refine ⟨fun x hx=>?_,h2,List.pairwise_singleton _ _,fun x hx y hy=>?_⟩
  ·rcases List.mem_append.1 hx with h | h
   ·exact h1 x h
   ·simp at h;subst h;exact h3
  ·simp at hy;subst hy;exact h4 x hx
theorem plain_cons {l:List S2} {s:S2} : Plain (s :: l)↔Plain l∧s.1 < s.2∧∀ x∈l,s.2 < x.1:=by
 unfold Plain;rw [List.pairwise_cons]
 constructor
 ·rintro ⟨h1,h2,h3⟩
  exact ⟨⟨fun x hx=>h1 x (List.mem_cons_of_mem _ hx),h3⟩,h1 s List.mem_cons_self,h2⟩
 ·rintro ⟨⟨h1,h2⟩,h3,h4⟩
  refine ⟨fun x hx=>?_,h4,h2⟩
  rcases List.mem_cons.1 hx with rfl | h
  ·exact h3
  ·exact h1 x h
theorem plain_not_to {l:List S2} (h:Plain l):∀ s∈l,¬ Low l s.2:=by
 induction l with
 | nil=>intro s hs;simp at hs
 | cons a r ih =>
   obtain ⟨hp,ha,hr⟩:=plain_cons.1 h
   intro s hs hl
   rw [low_cons] at hl
   rcases List.mem_cons.1 hs with rfl | hs
   ·rcases hl with hl | ⟨x,hx,h1,h2⟩
    ·omega
    ·have:=hr x hx;omega
   ·rcases hl with hl | hl
    ·have:=hr s hs;have:=hp.1 s hs;omega
    ·exact ih hp s hs hl
theorem plain_one:∀ {a b:List S2},Plain a→Plain b→(∀ t,Low a t↔Low b t)→a=b
 | [],[],_,_,_=>rfl
 | [],s :: r,_,hb,h=>by
   obtain ⟨_,h1,_⟩:=plain_cons.1 hb;exact absurd ((h s.1).2 (low_cons.2 (.inl ⟨by omega,h1⟩))) low_nil
 | s :: r,[],ha,_,h=>by
   obtain ⟨_,h1,_⟩:=plain_cons.1 ha;exact absurd ((h s.1).1 (low_cons.2 (.inl ⟨by omega,h1⟩))) low_nil
 | s :: r,s' :: r',ha,hb,h=>by
   obtain ⟨hr,h1,h2⟩:=plain_cons.1 ha;obtain ⟨hr',h1',h2'⟩:=plain_cons.1 hb;have lo:s'.1≤s.1:=by
    obtain ⟨x,hx,hx1,_⟩:=(h s.1).1 (low_cons.2 (.inl ⟨by omega,h1⟩))
    rcases List.mem_cons.1 hx with rfl | hx
    ·exact hx1
    ·have:=h2' x hx;omega
   have lo':s.1≤s'.1:=by
    obtain ⟨x,hx,hx1,_⟩:=(h s'.1).2 (low_cons.2 (.inl ⟨by omega,h1'⟩))
    rcases List.mem_cons.1 hx with rfl | hx
    ·exact hx1
    ·have:=h2 x hx;omega
   have hi:s'.2≤s.2:=by
    rcases ltge s.2 s'.2 with c | c
    ·exact absurd ((h s.2).2 (low_cons.2 (.inl ⟨by omega,c⟩))) (plain_not_to ha s List.mem_cons_self)
    ·exact c
   have hi':s.2≤s'.2:=by
    rcases ltge s'.2 s.2 with c | c
    ·exact absurd ((h s'.2).1 (low_cons.2 (.inl ⟨by omega,c⟩))) (plain_not_to hb s' List.mem_cons_self)
    ·exact c
   have e:s=s':=Prod.ext (by omega) (by omega);subst e;have er:r=r':=plain_one hr hr' fun t=>by
    constructor
    ·intro ht
     obtain ⟨x,hx,hx1,_⟩:=ht;have:=h2 x hx
     rcases low_cons.1 ((h t).1 (low_cons.2 (.inr ⟨x,hx,hx1,by assumption⟩))) with c | c
     ·omega
     ·exact c
    ·intro ht
     obtain ⟨x,hx,hx1,_⟩:=ht;have:=h2' x hx
     rcases low_cons.1 ((h t).2 (low_cons.2 (.inr ⟨x,hx,hx1,by assumption⟩))) with c | c
     ·omega
     ·exact c
   rw [er]
structure JoinInv (S:List S2) (k:Nat) (l:List S2):Prop where
 plain:Plain l
 low:∀ t,Low l t↔Low (S.take k) t
 ahead:∀ x∈l,∀ i,k≤i→i < S.length→x.1≤fr S i
structure Srt (S:List S2):Prop where
 ticks:∀ i,i < S.length→fr S i < tp S i
 up:∀ i j,i≤j→j < S.length→fr S i≤fr S j
theorem take_snoc {S:List S2} {k:Nat} (h:k < S.length):S.take (k+1)=S.take k ++ [(fr S k,tp S k)]:=by
 rw [List.take_succ_eq_append_getElem h];have e:(fr S k,tp S k)=S[k]:=by simp [fr,tp,h]
 rw [e]
theorem JoinInv.zero (S:List S2):JoinInv S 0 []:=⟨plain_nil,fun t=>by simp,fun x hx=>by simp at hx⟩
theorem JoinInv.push {S l:List S2} {k:Nat} (hS:Srt S) (h:JoinInv S k l) (hk:k < S.length) (hl:∀ x∈l,x.2 < fr S k):JoinInv S (k+1) (l ++ [(fr S k,tp S k)]):=by
 refine ⟨plain_snoc.2 ⟨h.plain,hS.ticks k hk,hl⟩,fun t=>?_,fun x hx i h1 h2=>?_⟩
 ·rw [take_snoc hk,low_append,low_append,h.low]
 ·rcases List.mem_append.1 hx with c | c
  ·exact h.ahead x c i (by omega) h2
  ·simp at c;subst c;exact hS.up k i (by omega) h2
theorem JoinInv.grow {S p:List S2} {q:S2} {k:Nat} (h:JoinInv S k (p ++ [q])) (hk:k < S.length) (hl:fr S k≤q.2) (m:Int) (hm:(q.2≤m∧tp S k≤m)∧(m=q.2∨m=tp S k)):JoinInv S (k+1) (p ++ [(q.1,m)]):=by
 obtain ⟨hp,hq,hx⟩:=plain_snoc.1 h.plain;have ha:=h.ahead q (by simp) k (by omega) hk;refine ⟨plain_snoc.2 ⟨hp,by show q.1 < m;omega,hx⟩,fun t=>?_,fun x hx i h1 h2=>?_⟩
 ·have:=h.low t
  rw [low_append,low_one] at this;rw [take_snoc hk,low_append,low_append,low_one,low_one,← this]
  constructor
  ·rintro (c | c)
   ·exact .inl (.inl c)
   ·by_cases d:t < q.2
    ·exact .inl (.inr ⟨c.1,d⟩)
    ·exact .inr ⟨by show fr S k≤t;omega,by show t < tp S k;have:=c.2;simp at this;omega⟩
  ·rintro ((c | c) | c)
   ·exact .inl c
   ·exact .inr ⟨c.1,by show t < m;omega⟩
   ·exact .inr ⟨by show q.1≤t;have:=c.1;simp at this;omega,by show t < m;have:=c.2;simp at this;omega⟩
 ·rcases List.mem_append.1 hx with c | c
  ·exact h.ahead x (List.mem_append_left _ c) i (by omega) h2
  ·simp at c;subst c;exact h.ahead q (by simp) i (by omega) h2
theorem JoinInv.all {S l:List S2} (h:JoinInv S S.length l):Plain l∧∀ t,Low l t↔Low S t:=⟨h.plain,fun t=>by rw [h.low,List.take_length]⟩
def lastc:List S2→Int
 | []=>-1099511627777
 | [s]=>s.2
 | _ :: s :: r=>lastc (s :: r)
theorem lastc_tp:∀ (l:List S2),0 < l.length→lastc l=tp l (l.length - 1)
 | [_],_=>rfl
 | a :: b :: r,_=>by
   have:=lastc_tp (b :: r) (by simp)
   show lastc (b :: r)=_
   rw [this]
   simp [tp]
theorem lastc_le:∀ {l:List S2},Plain l→∀ x∈l,x.2≤lastc l
 | [s],_,x,hx=>by simp at hx;subst hx;exact Int.le_refl _
 | a :: b :: r,h,x,hx=>by
   obtain ⟨h1,h2,h3⟩:=plain_cons.1 h
   show x.2≤lastc (b :: r)
   rcases List.mem_cons.1 hx with rfl | hx
   ·have a1:=h3 b (by simp)
    have a2:=h1.1 b (by simp);have a3:=lastc_le h1 b (by simp)
    omega
   ·exact lastc_le h1 x hx
end Go.Proofs.YtljnkaodhfnbbaaGreatDoor.Wi
namespace Go.Proofs.YtljnkaodhfnbbaaGreatDoor.Wi
open Go.RowKit Go.Proofs.YtljnkaodhfnbbaaGreatDoor.Sp
theorem ret_int {a b:Int} (h:a=b):Ending.returned (.int .i64 a) = .returned (.int .i64 b):=by rw [h]
theorem infoS:(Tryz.prog.info? 186).map (fun i=>(i.zero,i.size,i.bytes))=some (some (.agg #[.int .i64 0,.int .i64 0]),2,16):=by kernel_rfl
theorem addr_zero (a:Addr):a.add 0=a:=by cases a;simp [Addr.add]
theorem push_step {w:World} {ops:Array Oper} {rest:List Oper} {o:Oper} {a:Act} {Q:Exit→Act→World→Prop} (hgd:o.guard=none) (s x:Operand)
 (ho:o.op = .call { callee:=.builtin .append,args:=#[s,x],argTypes:=#[95,95] }) (B:Nat) (v:Value) (l:List S2) (hs:a.eval s=v) (hown:Sp.Own w B 186 v l)
 (ad:Addr) (p q:Int) (hx:a.eval x = .slice (some ad) 1 1) (h0:w.cell? ad=some (.int .i64 p)) (h1:w.cell? (ad.add 1)=some (.int .i64 q)) (hlen:l.length < 4398046511104) (hB:B≤w.heap.size)
 (h:∀ v' w',Sp.Own w' B 186 v' (l ++ [(p,q)])→Below B w w'→wpList Tryz.prog ops Q rest (a.put o.dst v') w'):wpList Tryz.prog ops Q (o :: rest) a w:=by
 obtain ⟨i0,hi,hz0,hz1,hz2⟩:=info_parts infoS;refine wpList_append_own _ hgd s x 95 ho B 186 i0 (.agg #[.int .i64 0,.int .i64 0]) 2 16 Tryz.underlying95 hi hz0 hz1 hz2 rfl (by decide) v l.length (flat l) hs hown ad 1 1 [.int .i64 p,.int .i64 q] hx rfl ?_ ?_ ?_ ?_ hB ?_
 ·intro j u hj
  match j,hj with
  | 0,hj=>simp at hj;subst hj;rw [addr_zero];exact h0
  | 1,hj=>simp at hj;subst hj;exact h1
  | j+2,hj=>simp at hj
 ·intro u hu
  simp at hu
  rcases hu with rfl | rfl <;> rfl
 ·unfold maxLen;omega
 ·omega
 ·intro v' w' h2 h3 _
  exact h v' w' (Sp.Own.push (s:=(p,q)) h2) ((Below.refl B w).grown h3 hB fun k hk=>(World.ownsRow.lt hown k hk).1)
theorem ticks_any (w:World) (a b:Int):Calls Tryz.prog 93 #[.agg #[.int .i64 a,.int .i64 b]] w fun e w'=>e = .returned (.bool (decide (a < b)))∧Below w.heap.size w w':=by
 go_enter Tryz.func93,Tryz.ntmps93
 go_wp2
 go_ret
 exact ⟨rfl,(Below.refl _ _).alloc (Nat.le_refl _) _⟩
theorem nan_any (w:World) (a:Int):Calls Tryz.prog 226 #[.int .i64 a] w fun e w'=>e = .returned (.bool false)∧w=w':=by
 go_enter Tryz.func226,Tryz.ntmps226
 go_wp2
 go_ret
 exact ⟨by simp,rfl⟩
def cmpI (a b:Int):Int:=if a < b then -1 else if b < a then 1 else 0
theorem compare_any (w:World) (a b:Int):Calls Tryz.prog 192 #[.int .i64 a,.int .i64 b] w fun e w'=>e = .returned (.int .i64 (cmpI a b))∧w=w':=by
 by_cases h:a < b
 ·go_enter Tryz.func192,Tryz.ntmps192
  go_wp2_with (go_at_call 226;refine (nan_any _ _).mono ?_;rintro e w' ⟨rfl,rfl⟩)
  go_ret
  exact ⟨ret_int (by simp [cmpI,h]),rfl⟩
 ·by_cases h2:b < a
  ·go_enter Tryz.func192,Tryz.ntmps192
   go_wp2_with (go_at_call 226;refine (nan_any _ _).mono ?_;rintro e w' ⟨rfl,rfl⟩)
   go_ret
   exact ⟨ret_int (by simp [cmpI,h,h2]),rfl⟩
  ·go_enter Tryz.func192,Tryz.ntmps192
   go_wp2_with (go_at_call 226;refine (nan_any _ _).mono ?_;rintro e w' ⟨rfl,rfl⟩)
   go_ret
   exact ⟨ret_int (by rw [cmpI,if_neg (by omega),if_neg (by omega)]),rfl⟩
def Made (w:World) (P:List S2→Prop) (e:Ending) (w':World):Prop:=∃ v x,e = .returned v∧Sp.Own w' w.heap.size 186 v x∧P x∧Below w.heap.size w w'
end Go.Proofs.YtljnkaodhfnbbaaGreatDoor.Wi
namespace Go.Proofs.YtljnkaodhfnbbaaGreatDoor.Tk
open Go.ChangeShapes Go.WideShapes Go.ChangeAt Go.RowKit Go.Deep
theorem own:ownKnob Tryz.prog.godebug=none:=by kernel_rfl
theorem steps_of {H:Type} {enc:TypeId×Value→H} {W:World} {v:Value} {base:Nat} {sp:Nat→Bool} {held:Bool} {d:DataW H} {p:List MemPlace} {r:Reach} {b0:Nat}
 (hv:Value.okWide Tryz.prog W r b0 103 v) (h:DataW.Trod enc Tryz.prog W base sp held 103 v d p):∃ n A R,Steps W v n A R:=by
 obtain ⟨a,len,cap,rfl⟩:=okWide_slice Tryz.underlying103 hv;obtain ⟨fuel,hf⟩:=h
 rcases open_slice_pairs Tryz.underlying103 Tryz.underlying108 (by kernel_rfl) rfl rfl (by kernel_rfl) (by kernel_rfl) hf with ⟨hcs,_⟩ | ⟨x,l,c,m,n,V0,V1,D0,D1,P0,P1,hcs,_,hl,hm,hmm,_,hi⟩
 ·simp [Value.cells] at hcs
  obtain ⟨rfl,rfl,rfl⟩:=hcs;exact ⟨0,fun _=>0,fun _=>0,.inl ⟨_,_,rfl,Nat.zero_le _,rfl⟩⟩
 ·simp [Value.cells] at hcs
  obtain ⟨rfl,rfl,rfl⟩:=hcs;have hlm:len≤m:=by rw [hmm];split <;> omega
  by_cases h0:len=0
  ·subst h0
   exact ⟨0,fun _=>0,fun _=>0,.inl ⟨_,_,rfl,hm,rfl⟩⟩
  ·obtain ⟨b,off,spot⟩:=x
   have c0:=(hi 0 (by omega)).1;have hs:spot=none:=by simpa [Addr.add] using World.cell?_spot c0
   subst hs;refine ⟨len,fun i=>intOf (V0 i),fun i=>intOf (V1 i),.inr ⟨b,off,cap,rfl,hl,hm,fun i hlt=>?_⟩⟩;obtain ⟨c1,c2,t1,t2⟩:=hi i (by omega);obtain ⟨x1,e1,_,_⟩:=DataW.trod_int Tryz.underlying3 t1;obtain ⟨x2,e2,_,_⟩:=DataW.trod_int Tryz.underlying3 t2;simp only [List.cons.injEq,and_true] at e1 e2;rw [e1] at c1;rw [e2] at c2
   show W.cell? _=some (.int .i64 (intOf (V0 i)))∧W.cell? _=some (.int .i64 (intOf (V1 i)))
   rw [e1,e2];rw [add_plain] at c1 c2;exact ⟨c1,by rw [Nat.add_assoc];exact c2⟩
end Go.Proofs.YtljnkaodhfnbbaaGreatDoor.Tk
namespace Go.Proofs.YtljnkaodhfnbbaaGreatDoor.Ua
open Go.ChangeShapes Go.WideShapes Go.ChangeAt Go.RowKit Go.Deep
end Go.Proofs.YtljnkaodhfnbbaaGreatDoor.Ua
namespace Go.Proofs.YtljnkaodhfnbbaaGreatDoor.Wi
open Go.ChangeShapes Go.WideShapes Go.ChangeAt Go.RowKit Go.Deep
open Sp
end Go.Proofs.YtljnkaodhfnbbaaGreatDoor.Wi
namespace Go.Proofs.YtljnkaodhfnbbaaGreatDoor.Fi
open Ua (bit par val upd put frm turn bad tb tp te par_congr par_put9 val_lt)
def cd (i:Nat):Int:=[85,51,15,102,90,60,105,150].getD i 0
def first (p:Nat→Bool) (n:Nat):Int:=match (List.range n).find? p with
 | some i=>i
 | none=>-1
theorem first_hit {p:Nat→Bool} {n i:Nat} (hi:i < n) (hp:p i=true) (hn:∀ j,j < i→p j=false):first p n=i:=by
 have e:(List.range n).find? p=some i:=by
  rw [List.find?_range_eq_some];exact ⟨hp,List.mem_range.2 hi,fun j hj=>by simp [hn j hj]⟩
 unfold first;rw [e]
theorem first_miss {p:Nat→Bool} {n:Nat} (hn:∀ j,j < n→p j=false):first p n = -1:=by
 have e:(List.range n).find? p=none:=by
  rw [List.find?_eq_none]
  intro j hj
  simp [hn j (List.mem_range.1 hj)]
 unfold first;rw [e]
theorem first_cases (p:Nat→Bool):∀ n:Nat,(∃ i,i < n∧p i=true∧(∀ j,j < i→p j=false)∧first p n=i)∨((∀ j,j < n→p j=false)∧first p n = -1)
 | 0=>.inr ⟨fun j hj=>by omega,first_miss fun j hj=>by omega⟩
 | n+1=>by
   rcases first_cases p n with ⟨i,hi,hp,hn,_⟩ | ⟨hn,_⟩
   ·exact .inl ⟨i,by omega,hp,hn,first_hit (by omega) hp hn⟩
   ·cases h:p n with
    | true=>exact .inl ⟨n,by omega,h,hn,first_hit (by omega) h hn⟩
    | false =>
      have hn':∀ j,j < n+1→p j=false:=fun j hj=>by
       by_cases c:j=n
       ·rw [c];exact h
       ·exact hn j (by omega)
      exact .inr ⟨hn',first_miss hn'⟩
def isC (b:Int) (i:Nat):Bool:=decide (cd i=b)
def codeV (n:Int):Int×Int:=if 0≤n∧n≤7 then (cd n.toNat,0) else (0,1)
def roundV (b:Int) (odd:Bool):Int×Int:=if odd then (if 0≤first (isC b) 8 then (first (isC b) 8,0) else (0,7)) else (0,6)
theorem code_in {n:Int} {i:Nat} (h:n=i) (hi:i < 8):codeV n=(cd i,0):=by unfold codeV;rw [if_pos (by omega),h];rfl
theorem code_out {n:Int} (h:n < 0∨7 < n):codeV n=(0,1):=by unfold codeV;rw [if_neg (by omega)]
theorem round_even (b:Int):roundV b false=(0,6):=rfl
theorem round_hit {b:Int} {i:Nat} (hi:i < 8) (hp:cd i=b) (hn:∀ j,j < i→isC b j=false):roundV b true=((i:Int),0):=by
 have e:=first_hit (p:=isC b) hi (by simp [isC,hp]) hn;unfold roundV;rw [if_pos rfl,e,if_pos (by omega)]
theorem round_miss {b:Int} (hn:∀ j,j < 8→isC b j=false):roundV b true=(0,7):=by
 have e:=first_miss hn;unfold roundV;rw [if_pos rfl,e,if_neg (by omega)]
theorem round_ok {b:Int} {odd:Bool} (h:(roundV b odd).2=0):odd=true∧∃ i:Nat,i < 8∧cd i=b∧(roundV b odd).1=i:=by
 cases odd with
 | false=>rw [round_even] at h;simp at h
 | true =>
   rcases first_cases (isC b) 8 with ⟨i,hi,hp,hn,_⟩ | ⟨hn,_⟩
   ·have hb:cd i=b:=by simpa [isC] using hp
    exact ⟨rfl,i,hi,hb,by rw [round_hit hi hb hn]⟩
   ·rw [round_miss hn] at h;simp at h
theorem cd_byte (i:Nat):0≤cd i∧cd i≤255:=by
 by_cases h:i < 8
 ·exact (show ∀ i:Fin 8,0≤cd i.val∧cd i.val≤255 by decide) ⟨i,h⟩
 ·have e:cd i=0:=by unfold cd;rw [List.getD,List.getElem?_eq_none (by simp;omega)];rfl
  omega
def dif (F G:Nat→Bool):Nat→Nat
 | 0=>0
 | k+1=>dif F G k+(if F k=G k then 0 else 1)
theorem dif_le (F G:Nat→Bool):∀ k,dif F G k≤k
 | 0=>Nat.le_refl _
 | k+1=>by have:=dif_le F G k;unfold dif;split <;> omega
theorem dif_same {F G:Nat→Bool} {k:Nat} (h:F k=G k):dif F G (k+1)=dif F G k:=by rw [dif,if_pos h,Nat.add_zero]
theorem dif_one {F G:Nat→Bool} {k:Nat} (h:F k≠G k):dif F G (k+1)=dif F G k+1:=by rw [dif,if_neg h]
theorem dif_congr {F G H:Nat→Bool} : ∀ k,(∀ i,i < k→G i=H i)→dif F G k=dif F H k
 | 0,_=>rfl
 | k+1,h=>by rw [dif,dif,dif_congr k fun i hi=>h i (by omega),h k (by omega)]
theorem bit_add (x:Int) (j k:Nat) (c:Bool) (h:j < k):bit (x+(if c then 2 ^ k else 0)) j=bit x j:=by
 cases c with
 | false=>simp
 | true =>
   obtain ⟨d,rfl⟩:∃ d,k=j+(d+1):=⟨k - j - 1,by omega⟩;have p:(0:Int) < 2 ^ j:=Int.pow_pos (by decide);have e:(2:Int) ^ (j+(d+1))=2 ^ j * (2 ^ d * 2):=by rw [Int.pow_add,Int.pow_succ]
   unfold bit;rw [if_pos rfl,e,Int.add_mul_ediv_left _ _ (by omega)]
   congr 1
   rw [eq_iff_iff];generalize (2:Int) ^ d=y
   omega
theorem bit_top (x k:Nat) (c:Bool) (h:x < 2 ^ k):bit ((x:Int)+(if c then 2 ^ k else 0)) k=c:=by
 have p:(0:Int) < 2 ^ k:=Int.pow_pos (by decide);have hx:(x:Int) < 2 ^ k:=by exact_mod_cast h
 unfold bit
 cases c with
 | false=>simp [Int.ediv_eq_zero_of_lt (show (0:Int)≤x by omega) hx]
 | true =>
   have e:((x:Int)+2 ^ k) / 2 ^ k=1:=by
    rw [Int.add_ediv_of_dvd_right (Int.dvd_refl _),Int.ediv_eq_zero_of_lt (by omega) hx,Int.ediv_self (by omega)]
    rfl
   simp [e]
theorem bit_val (G:Nat→Bool):∀ k j,j < k→bit (val G k:Nat) j=G (j+1)
 | 0,j,h=>by omega
 | k+1,j,h=>by
   have e:((val G (k+1):Nat):Int)=(val G k:Nat)+(if G (k+1) then 2 ^ k else 0):=by
    show ((val G k+(if G (k+1) then 2 ^ k else 0):Nat):Int)=_
    cases G (k+1) <;> simp
   rw [e]
   by_cases c:j=k
   ·subst c;exact bit_top _ _ _ (val_lt G j)
   ·rw [bit_add _ _ _ _ (by omega)];exact bit_val G k j (by omega)
theorem frm_of {G:Nat→Bool} (h:bad G=false) (i:Nat) (hi:i < 11):frm (tb G) (tp G) i=G i:=by
 have h0:G 0=false:=by unfold bad at h;simp at h;exact h.1
 have h10:G 10=true:=by unfold bad at h;simp at h;exact h.2
 have eb:tb G=(val G 8:Nat):=by unfold tb;rw [h];rfl
 have ep:tp G=par G 9:=by unfold tp;rw [h];rfl
 have pp:∀ k,1≤k→k≤8→put (tb G) 9 k=G k:=fun k k1 k8=>by
  unfold put;rw [if_pos (by omega),eb,bit_val G 8 (k - 1) (by omega),show k - 1+1=k by omega]
 by_cases c10:i=10
 ·subst c10;rw [h10];rfl
 ·by_cases c9:i=9
  ·subst c9
   show (par (put (tb G) 9) 9 != tp G)=G 9
   rw [ep,par_put9,par_congr 8 pp]
   show (par G 8 != (par G 8 != G 9))=G 9
   cases par G 8 <;> cases G 9 <;> rfl
  ·have e:frm (tb G) (tp G) i=put (tb G) 9 i:=by unfold frm upd;rw [if_neg c10,if_neg c9]
   rw [e]
   by_cases c0:i=0
   ·subst c0;rw [h0];unfold put;rw [if_neg (by omega)]
   ·exact pp i (by omega) (by omega)
theorem apart_codes:∀ n m:Fin 8,(n=m→dif (frm (cd n.val) true) (frm (cd m.val) true) 11=0)∧(n≠m→3 < dif (frm (cd n.val) true) (frm (cd m.val) true) 11):=by decide +kernel
theorem safe {n:Nat} (hn:n < 8) {G:Nat→Bool} (hb:bad G=false) (ho:(roundV (tb G) (tp G)).2=0) :
 ∃ m:Nat,(roundV (tb G) (tp G)).1=m∧(m=n∧dif (frm (cd n) true) G 11=0∨m≠n∧3 < dif (frm (cd n) true) G 11):=by
 obtain ⟨hodd,m,hm,hc,e⟩:=round_ok ho;refine ⟨m,e,?_⟩;have d:dif (frm (cd n) true) G 11=dif (frm (cd n) true) (frm (cd m) true) 11:=by
  refine dif_congr 11 fun i hi=>?_;have:=frm_of hb i hi;rw [hodd,← hc] at this;exact this.symm
 have a:=apart_codes ⟨n,hn⟩ ⟨m,hm⟩;rw [d]
 by_cases c:m=n
 ·exact .inl ⟨c,a.1 (by simp [c])⟩
 ·exact .inr ⟨c,a.2 (by simp;omega)⟩
end Go.Proofs.YtljnkaodhfnbbaaGreatDoor.Fi
namespace Go.Proofs.YtljnkaodhfnbbaaGreatDoor.Fi
open Go.RowKit
def Tab (w:World):Prop:=∃ b off cap,w.cell? ⟨0,0,none⟩=some (.slice (some ⟨b,off,none⟩) 8 cap)∧8≤cap∧cap≤maxLen∧∀ i:Nat,i < 8→w.cell? ⟨b,off+i,none⟩=some (.int .u8 (cd i))
theorem Tab.below {w w':World} (h:Tab w) (hb:Below w.heap.size w w'):Tab w':=by
 obtain ⟨b,off,cap,h0,h1,h2,h3⟩:=h;exact ⟨b,off,cap,(hb.cell (World.block_lt_of_cell? _ _ h0)).trans h0,h1,h2,fun i hi=>(hb.cell (World.block_lt_of_cell? _ _ (h3 i hi))).trans (h3 i hi)⟩
end Go.Proofs.YtljnkaodhfnbbaaGreatDoor.Fi
namespace Go.Proofs.YtljnkaodhfnbbaaGreatDoor.Fi
open Go.ChangeShapes Go.WideShapes Go.ChangeAt Go.RowKit
def laid : List (String × DataW Unit) := [("hayward/fire.codes", Rows.laid_hayward_fire_codes)]
theorem of_laid {W:World} (h:laidMetH Tryz.prog laid W):Tab W:=by
 rw [MakeChecks.laidMetH_plain _ _ _ (by kernel_rfl)] at h;obtain ⟨ps,⟨g,t,cs,fuel,p,q,hg,ht,hv,hd,_,_⟩,_,_⟩:=h;obtain rfl := Option.some.inj ((show Tryz.prog.globalNamed "hayward/fire.codes" = some 0 by kernel_rfl).symm.trans hg)
 obtain rfl:=Option.some.inj ((show (Tryz.prog.globals[0]?).map (·.type)=some 195 by kernel_rfl).symm.trans ht)
 rcases open_ints Tryz.underlying195 Tryz.underlying5 (by kernel_rfl) hd with ⟨_,hx⟩ | ⟨a,len,cap,zs,hcs,_,hl,hm,hlen,hx,hc,_⟩
 ·simp [Rows.laid_hayward_fire_codes] at hx
 ·have e1:=(Prod.mk.inj hx).1
  simp only [Rows.laid_hayward_fire_codes,DataW.slice.injEq] at e1;obtain ⟨e1,e2⟩:=e1;have ez:lits (H:=Unit) .u8 zs = [.lit (.int .u8 85),.lit (.int .u8 51),.lit (.int .u8 15),.lit (.int .u8 102),.lit (.int .u8 90),.lit (.int .u8 60),.lit (.int .u8 105),.lit (.int .u8 150)]:=by
   rw [← List.take_append_drop len zs,lits,List.map_append]
   show lits .u8 (zs.take len) ++ lits .u8 (zs.drop len)=_
   rw [← e1,← e2];rfl
  have zz:zs = [85,51,15,102,90,60,105,150]:=by
   match zs,ez with
   | [a,b,c,d,e,f,g,h],ez=>simpa [lits] using ez
  have h8:len=8:=by
   have l1:(lits (H:=Unit) .u8 (zs.take len)).length=8:=by rw [← e1];rfl
   have l2:zs.length=8:=by rw [zz];rfl
   simp only [lits,List.length_map,List.length_take] at l1
   split at hlen <;> omega
  subst h8;obtain ⟨b,off,spot⟩:=a;have c0:=hc 0 (by rw [zz];decide);have hs:spot=none:=by simpa [Addr.add] using World.cell?_spot c0
  subst hs;have v0:W.cell? ⟨0,0,none⟩=some (.slice (some ⟨b,off,none⟩) 8 cap):=by rw [World.var?_cell hg hv 0,Array.eq_one_of_toList hcs];rfl
  refine ⟨b,off,cap,v0,hl,hm,fun i hi=>?_⟩;have ci:=hc i (by rw [zz];exact hi);rw [add_plain] at ci;rw [ci,zz]
  rfl
end Go.Proofs.YtljnkaodhfnbbaaGreatDoor.Fi
namespace Go.Proofs.YtljnkaodhfnbbaaGreatDoor.Rw
open Go.RowKit
structure Kind (α:Type) where
 enc:α→List Value
 n:Nat
 pos:0 < n
 len:∀ a,(enc a).length=n
 one:∀ a,∀ u∈enc a,u.oneCell'=true
 dft:α
def int (k:IntKind):Kind Int:=⟨fun z=>[.int k z],1,by decide,fun _=>rfl,fun _ u h=>by simp at h;subst h;rfl,0⟩
section
variable {α:Type} (K:Kind α)
def Kind.flat (l:List α):List Value:=l.flatMap K.enc
theorem flat_length:∀ l:List α,(K.flat l).length=l.length * K.n
 | []=>by simp [Kind.flat]
 | s :: r=>by
   have ih:=flat_length r;simp only [Kind.flat,List.flatMap_cons,List.length_append,K.len,List.length_cons] at ih ⊢;rw [ih,Nat.add_mul,Nat.one_mul,Nat.add_comm]
theorem flat_append (a b:List α):K.flat (a ++ b)=K.flat a ++ K.flat b:=by simp [Kind.flat]
theorem flat_one (l:List α):∀ u∈K.flat l,u.oneCell'=true:=fun u hu=>by
 obtain ⟨a,_,h⟩:=List.mem_flatMap.1 hu;exact K.one a u h
theorem flat_get:∀ (l:List α) (i j:Nat),i < l.length→j < K.n→(K.flat l)[i * K.n+j]? = (K.enc (l.getD i K.dft))[j]?
 | s :: r,0,j,_,hj=>by
   show (K.enc s ++ K.flat r)[0 * K.n+j]? = (K.enc s)[j]?
   rw [Nat.zero_mul,Nat.zero_add,List.getElem?_append_left (by rw [K.len];exact hj)]
 | s :: r,i+1,j,h,hj=>by
   have ih:=flat_get r i j (by simpa using h) hj
   show (K.enc s ++ K.flat r)[(i+1) * K.n+j]? = (K.enc (r.getD i K.dft))[j]?
   rw [List.getElem?_append_right (by rw [K.len,Nat.add_mul];omega),K.len,show (i+1) * K.n+j - K.n=i * K.n+j by rw [Nat.add_mul];omega];exact ih
def At (w:World) (b off:Nat) (l:List α):Prop:=∀ i,i < l.length→∀ j u,(K.enc (l.getD i K.dft))[j]? = some u→w.cell? ⟨b,off+i * K.n+j,none⟩=some u
def Rd (w:World) (v:Value) (l:List α):Prop:=∃ a cap,v = .slice a l.length cap∧(l.length≤cap∧(a=none→cap=0))∧cap≤maxLen∧(0 < l.length→∃ b off,a=some ⟨b,off,none⟩∧At K w b off l)
def Ow (w:World) (B E:Nat) (v:Value) (l:List α):Prop:=w.ownsRow B E K.n v l.length (K.flat l)
variable {K}
variable {w w':World} {B E:Nat} {v:Value} {l:List α}
theorem At.below {b off:Nat} (h:At K w b off l) (hb:Below w.heap.size w w'):At K w' b off l:=fun i hi j u hu=>(hb.cell (World.block_lt_of_cell? _ _ (h i hi j u hu))).trans (h i hi j u hu)
theorem Rd.below (h:Rd K w v l) (hb:Below w.heap.size w w'):Rd K w' v l:=by
 obtain ⟨a,cap,e,h1,h2,h3⟩:=h;exact ⟨a,cap,e,h1,h2,fun hp=>by obtain ⟨b,off,ea,hA⟩:=h3 hp;exact ⟨b,off,ea,hA.below hb⟩⟩
theorem Rd.slice (h:Rd K w v l):∃ a cap,v = .slice a l.length cap∧cap≤maxLen:=by
 obtain ⟨a,cap,e,_,h2,_⟩:=h;exact ⟨a,cap,e,h2⟩
theorem Rd.nil (w:World):Rd K w (.slice none 0 0) []:=⟨none,0,rfl,⟨Nat.le_refl _,fun _=>rfl⟩,by unfold maxLen;omega,fun h=>by simp at h⟩
theorem Ow.nil (w:World) (B E:Nat):Ow K w B E (.slice none 0 0) []:=World.ownsRow_nil _ _ _ _
theorem Ow.made (w:World) (B E:Nat) (hB:B≤w.heap.size):Ow K (w.alloc (.cells #[] E)) B E (.slice (some ⟨w.heap.size,0,none⟩) 0 0) [] :=
 World.ownsRow_made w #[] 0 hB (by unfold maxLen;omega) (by simp)
theorem Ow.rd (h:Ow K w B E v l):Rd K w v l:=by
 have hc:=fun g hg j u=>World.ownsRow.cells h (g:=g) hg j u;obtain ⟨_,h⟩:=h
 rcases h with ⟨rfl,h0⟩ | ⟨g,cap,cur,rfl,_,_,h1,h2,_⟩
 ·exact ⟨none,0,by rw [h0],⟨by omega,fun _=>rfl⟩,by unfold maxLen;omega,fun h=>by omega⟩
 ·refine ⟨_,cap,rfl,⟨h1,nofun⟩,h2,fun _=>⟨g,0,rfl,fun i hi j u hu=>?_⟩⟩
  have hj:j < K.n:=by have:=(List.getElem?_eq_some_iff.1 hu).1;rw [K.len] at this;exact this
  have c:=hc g rfl _ _ ((flat_get K l i j hi hj).trans hu);simp only [Addr.add_lit] at c;rw [Nat.add_assoc];exact c
theorem Ow.form (h:Ow K w B E v l) (hl:0 < l.length):∃ g cap,v = .slice (some ⟨g,0,none⟩) l.length cap∧B≤g∧g < w.heap.size∧l.length≤cap∧cap≤maxLen∧(∀ k,w.frozen? ⟨g,k,none⟩=false)∧At K w g 0 l:=by
 have hr:=h.rd;obtain ⟨_,h⟩:=h
 rcases h with ⟨_,h0⟩ | ⟨g,cap,cur,rfl,hB,hh,h1,h2,_⟩
 ·omega
 ·refine ⟨g,cap,rfl,hB,lt_of_block hh,h1,h2,fun k=>by simp [World.frozen?,hh],?_⟩
  obtain ⟨a,cap',e,_,_,h3⟩:=hr;obtain ⟨b,off,ea,hA⟩:=h3 hl;subst ea;injection e with e1 _ _;injection e1 with e1;injection e1 with e1 e2;subst e1 e2;exact hA
theorem Ow.slice (h:Ow K w B E v l):∃ a cap,v = .slice a l.length cap∧l.length≤cap∧cap≤maxLen:=by
 obtain ⟨_,h⟩:=h
 rcases h with ⟨rfl,h0⟩ | ⟨g,cap,cur,rfl,_,_,h1,h2,_⟩
 ·exact ⟨none,0,by rw [h0],by omega,by unfold maxLen;omega⟩
 ·exact ⟨_,_,rfl,h1,h2⟩
theorem Ow.alloc (h:Ow K w B E v l) (o:Obj):Ow K (w.alloc o) B E v l:=World.ownsRow.alloc h o
theorem Ow.draw (h:Ow K w B E v l) (n:Nat):Ow K (w.drewN n) B E v l:=h
theorem Ow.keep (h:Ow K w B E v l) (hb:Below w.heap.size w w'):Ow K w' B E v l:=by
 obtain ⟨h1,h2⟩:=h;refine ⟨h1,?_⟩
 rcases h2 with h2 | ⟨g,cap,cur,e,hB,hh,r⟩
 ·exact .inl h2
 ·exact .inr ⟨g,cap,cur,e,hB,(hb.block g (lt_of_block hh)).trans hh,r⟩
theorem Ow.low {B':Nat} (h:Ow K w B E v l) (hB:B'≤B):Ow K w B' E v l:=by
 obtain ⟨h1,h2⟩:=h;refine ⟨h1,?_⟩
 rcases h2 with h2 | ⟨g,cap,cur,e,hb,hh,r⟩
 ·exact .inl h2
 ·exact .inr ⟨g,cap,cur,e,by omega,hh,r⟩
theorem heap_setCell_same {g j:Nat} {cur:Array Value} {E:TypeId} (hh:w.heap[g]? = some (.cells cur E (0,0))) (u:Value):(w.setCell ⟨g,j,none⟩ u).heap[g]? = some (.cells (cur.setIfInBounds j u) E (0,0)):=by
 have hlt:=lt_of_block hh;have h':w.heap[g] = .cells cur E (0,0):=by simpa [Array.getElem?_eq_getElem hlt] using hh
 show (w.heap.modify g _)[g]? = _
 rw [Array.getElem?_eq_getElem (by simpa using hlt),Array.getElem_modify_self,h']
 rfl
theorem flat_set:∀ (l:List α) (i j:Nat) (u:Value) (s:α),i < l.length→j < K.n→K.enc s=(K.enc (l.getD i K.dft)).set j u→(K.flat l).set (i * K.n+j) u=K.flat (l.set i s)
 | a :: r,0,j,u,s,_,hj,he=>by
   show (K.enc a ++ K.flat r).set (0 * K.n+j) u=K.enc s ++ K.flat r
   have he':K.enc s=(K.enc a).set j u:=he;rw [Nat.zero_mul,Nat.zero_add,List.set_append_left _ _ (by rw [K.len];exact hj),he']
 | a :: r,i+1,j,u,s,h,hj,he=>by
   have ih:=flat_set r i j u s (by simpa using h) hj he
   show (K.enc a ++ K.flat r).set ((i+1) * K.n+j) u=K.enc a ++ K.flat (r.set i s)
   rw [List.set_append_right _ _ (by rw [K.len,Nat.add_mul];omega),K.len,show (i+1) * K.n+j - K.n=i * K.n+j by rw [Nat.add_mul];omega,ih]
theorem Ow.set {g cap:Nat} (h:Ow K w B E (.slice (some ⟨g,0,none⟩) l.length cap) l) (i j:Nat) (hi:i < l.length) (hj:j < K.n) (u:Value) (s:α) (he:K.enc s=(K.enc (l.getD i K.dft)).set j u) :
 Ow K (w.setCell ⟨g,i * K.n+j,none⟩ u) B E (.slice (some ⟨g,0,none⟩) l.length cap) (l.set i s):=by
 obtain ⟨h1,h2⟩:=h;refine ⟨by rw [flat_length],?_⟩
 rcases h2 with ⟨e,_⟩ | ⟨g',cap',cur,e,hB,hh,k1,k2,k3,k4⟩
 ·simp at e
 ·injection e with e1 e2 e3
  injection e1 with e1;injection e1 with e1;subst e1 e3;refine .inr ⟨_,_,_,by rw [List.length_set],hB,heap_setCell_same hh _,by rw [List.length_set];exact k1,k2,by simp [k3],?_⟩;rw [← flat_set l i j u s hi hj he,← k4,List.length_set]
  simp [List.take_set]
theorem Ow.push {v':Value} {s:α} (h:w'.ownsRow B E K.n v' (l.length+1) (K.flat l ++ K.enc s)):Ow K w' B E v' (l ++ [s]):=by
 show w'.ownsRow B E K.n v' (l ++ [s]).length (K.flat (l ++ [s]))
 rw [flat_append,List.length_append];have e:K.flat [s]=K.enc s:=by simp [Kind.flat]
 rw [e];exact h
theorem push_step {P:Program} {ops:Array Oper} {rest:List Oper} {o:Oper} {a:Act} {Q:Exit→Act→World→Prop} {T:TypeId} {z:Value} {bytes:Nat} (ht:P.underlying T=some (.slice E))
 (hi:(P.info? E).map (fun i=>(i.zero,i.size,i.bytes))=some (some z,K.n,bytes)) (hz:z.cells.size=K.n) (hby:bytes≤64) (hgd:o.guard=none) (s x:Operand)
 (ho:o.op = .call { callee:=.builtin .append,args:=#[s,x],argTypes:=#[T,T] }) (B:Nat) (v:Value) (l:List α) (hs:a.eval s=v) (hown:Ow K w B E v l)
 (ad:Addr) (c:α) (hx:a.eval x = .slice (some ad) 1 1) (hc:∀ j u,(K.enc c)[j]? = some u→w.cell? (ad.add j)=some u) (hlen:l.length < 2199023255552) (hB:B≤w.heap.size)
 (h:∀ v' w',Ow K w' B E v' (l ++ [c])→Below B w w'→wpList P ops Q rest (a.put o.dst v') w'):wpList P ops Q (o :: rest) a w:=by
 obtain ⟨i0,hi0,hz0,hz1,hz2⟩:=info_parts hi;have hb:(l.length+1) * bytes≤140737488355328:=Nat.le_trans (Nat.mul_le_mul (show l.length+1≤2199023255552 by omega) hby) (by omega);refine wpList_append_own _ hgd s x T ho B E i0 z K.n bytes ht hi0 hz0 hz1 hz2 hz K.pos v l.length (K.flat l) hs hown ad 1 1 (K.enc c) hx (by rw [K.len,Nat.one_mul]) hc (K.one c) (by unfold maxLen;omega) hb hB ?_
 intro v' w' h2 h3 _
 exact h v' w' (Ow.push h2) ((Below.refl B w).grown h3 hB fun k hk=>(World.ownsRow.lt hown k hk).1)
def Far (E:TypeId) (w w':World):Prop:=∀ (g:Nat) (cs:Array Value) (t:TypeId),w.heap[g]? = some (Obj.cells cs t (0,0))→t≠E→w'.heap[g]? = some (Obj.cells cs t (0,0))
theorem Far.refl (E:TypeId) (w:World):Far E w w:=fun _ _ _ h _=>h
theorem Ow.apart (h:Ow K w B E v l) {g:Nat} {cs:Array Value} {t:TypeId} (hg:w.heap[g]? = some (.cells cs t (0,0))) (ht:t≠E):v.ownBlock≠some g:=by
 obtain ⟨_,h⟩:=h
 rcases h with ⟨rfl,_⟩ | ⟨k,cap,cur,rfl,_,hh,_⟩
 ·simp [Value.ownBlock]
 ·intro e
  simp only [Value.ownBlock,Option.some.injEq] at e;subst e;rw [hg] at hh;injection hh with hh;injection hh with _ h2 _;exact ht h2
theorem far_grown (h:Ow K w B E v l) (hg:w.grownBy w' v.ownBlock):Far E w w':=fun g cs t hh ht=>by
 rw [hg.block g (lt_of_block hh) (fun e=>h.apart hh ht e.symm)];exact hh
theorem Ow.far (h:Ow K w B E v l) {p:Addr} {cs:Array Value} {t:TypeId} (hp:w.heap[p.block]? = some (.cells cs t (0,0))) (ht:t≠E) (u:Value):Ow K (w.setCell p u) B E v l:=by
 have ha:=h.apart hp ht;obtain ⟨h1,h2⟩:=h;refine ⟨h1,?_⟩
 rcases h2 with h2 | ⟨g,cap,cur,rfl,hB,hh,r⟩
 ·exact .inl h2
 ·have hne:g≠p.block:=fun e=>ha (by simp [Value.ownBlock,e])
  exact .inr ⟨g,cap,cur,rfl,hB,(Below.heap_setCell w p u g hne).trans hh,r⟩
theorem Ow.range (h:Ow K w B E v l) {g:Nat} (hg:g < B∨w.heap.size≤g):v.ownBlock≠some g:=fun e=>by
 have:=World.ownsRow.lt h g e
 omega
theorem Ow.off (h:Ow K w B E v l) {p:Addr} (hp:v.ownBlock≠some p.block) (u:Value):Ow K (w.setCell p u) B E v l:=by
 obtain ⟨h1,h2⟩:=h;refine ⟨h1,?_⟩
 rcases h2 with h2 | ⟨g,cap,cur,rfl,hB,hh,r⟩
 ·exact .inl h2
 ·have hne:g≠p.block:=fun e=>hp (by simp [Value.ownBlock,e])
  exact .inr ⟨g,cap,cur,rfl,hB,(Below.heap_setCell w p u g hne).trans hh,r⟩
theorem Ow.lit (w:World) (B E:Nat) (l:List α) (hB:B≤w.heap.size) (hm:l.length≤maxLen):Ow K (w.alloc (.cells (K.flat l).toArray E)) B E (.slice (some ⟨w.heap.size,0,none⟩) l.length l.length) l :=
 World.ownsRow_lit w _ l.length hB hm (by rw [List.size_toArray,flat_length])
theorem push_far {P:Program} {ops:Array Oper} {rest:List Oper} {o:Oper} {a:Act} {Q:Exit→Act→World→Prop} {T:TypeId} {z:Value} {bytes:Nat} (ht:P.underlying T=some (.slice E))
 (hi:(P.info? E).map (fun i=>(i.zero,i.size,i.bytes))=some (some z,K.n,bytes)) (hz:z.cells.size=K.n) (hby:bytes≤64) (hgd:o.guard=none) (s x:Operand)
 (ho:o.op = .call { callee:=.builtin .append,args:=#[s,x],argTypes:=#[T,T] }) (B:Nat) (v:Value) (l:List α) (hs:a.eval s=v) (hown:Ow K w B E v l)
 (ad:Addr) (c:α) (hx:a.eval x = .slice (some ad) 1 1) (hc:∀ j u,(K.enc c)[j]? = some u→w.cell? (ad.add j)=some u) (hlen:l.length < 2199023255552) (hB:B≤w.heap.size)
 (h:∀ v' w',Ow K w' B E v' (l ++ [c])→Below B w w'→Far E w w'→wpList P ops Q rest (a.put o.dst v') w'):wpList P ops Q (o :: rest) a w:=by
 obtain ⟨i0,hi0,hz0,hz1,hz2⟩:=info_parts hi;have hb:(l.length+1) * bytes≤140737488355328:=Nat.le_trans (Nat.mul_le_mul (show l.length+1≤2199023255552 by omega) hby) (by omega);refine wpList_append_own _ hgd s x T ho B E i0 z K.n bytes ht hi0 hz0 hz1 hz2 hz K.pos v l.length (K.flat l) hs hown ad 1 1 (K.enc c) hx (by rw [K.len,Nat.one_mul]) hc (K.one c) (by unfold maxLen;omega) hb hB ?_
 intro v' w' h2 h3 _
 exact h v' w' (Ow.push h2) ((Below.refl B w).grown h3 hB fun k hk=>(World.ownsRow.lt hown k hk).1) (far_grown hown h3)
theorem At.flat {b off:Nat} (h:At K w b off l):∀ j u,(K.flat l)[j]? = some u→w.cell? ⟨b,off+j,none⟩=some u:=fun j u hu=>by
 have hj:j < l.length * K.n:=by have:=(List.getElem?_eq_some_iff.1 hu).1;rw [flat_length] at this;exact this
 have hi:j / K.n < l.length:=Nat.div_lt_of_lt_mul (by rw [Nat.mul_comm];exact hj);have hr:j % K.n < K.n:=Nat.mod_lt _ K.pos;have e:j / K.n * K.n+j % K.n=j:=by rw [Nat.mul_comm];exact Nat.div_add_mod _ _
 have g:=flat_get K l (j / K.n) (j % K.n) hi hr;rw [e] at g;have c:=h (j / K.n) hi (j % K.n) u (g.symm.trans hu);rw [Nat.add_assoc,e] at c;exact c
theorem all_step {P:Program} {ops:Array Oper} {rest:List Oper} {o:Oper} {a:Act} {Q:Exit→Act→World→Prop} {T:TypeId} {z:Value} {bytes:Nat} (ht:P.underlying T=some (.slice E))
 (hi:(P.info? E).map (fun i=>(i.zero,i.size,i.bytes))=some (some z,K.n,bytes)) (hz:z.cells.size=K.n) (hby:bytes≤64) (hgd:Region.wanted o (yielded ops a.tmps)=true) (s x:Operand)
 (ho:o.op = .call { callee:=.builtin .append,args:=#[s,x],argTypes:=#[T,T] }) (B:Nat) (v:Value) (l:List α) (hs:a.eval s=v) (hown:Ow K w B E v l)
 (u:Value) (y:List α) (hx:a.eval x=u) (hu:Rd K w u y) (hlen:l.length+y.length < 2199023255552) (hB:B≤w.heap.size)
 (h:∀ v' w',Ow K w' B E v' (l ++ y)→Below B w w'→wpList P ops Q rest (a.put o.dst v') w'):wpList P ops Q (o :: rest) a w:=by
 obtain ⟨i0,hi0,hz0,hz1,hz2⟩:=info_parts hi;obtain ⟨ad,cap,rfl,h1,h2,h3⟩:=hu;have hb:(l.length+y.length) * bytes≤140737488355328:=Nat.le_trans (Nat.mul_le_mul (show l.length+y.length≤2199023255552 by omega) hby) (by omega);refine BigFrame.wpList_want hgd fun K' hK=>?_
 by_cases h0:0 < y.length
 ·obtain ⟨b,off,rfl,hA⟩:=h3 h0
  refine wp_append_own _ s x T ho B E i0 z K.n bytes ht hi0 hz0 hz1 hz2 hz K.pos v l.length (K.flat l) hs hown ⟨b,off,none⟩ y.length cap (K.flat y) hx (flat_length K y) ?_ (flat_one K y) (by unfold maxLen;omega) hb hB ?_
  ·intro j u hj
   have e:(⟨b,off,none⟩:Addr).add j=⟨b,off+j,none⟩:=by simp [Addr.add]
   rw [e];exact hA.flat j u hj
  ·intro v' w' g2 g3 _
   refine hK _ _ (h v' w' ?_ ((Below.refl B w).grown g3 hB fun k hk=>(World.ownsRow.lt hown k hk).1))
   show w'.ownsRow B E K.n v' (l ++ y).length (K.flat (l ++ y))
   rw [flat_append,List.length_append];exact g2
 ·have ey:y = []:=List.length_eq_zero_iff.1 (by omega)
  subst ey
  cases ad with
  | none =>
    obtain rfl:=h1.2 rfl;have hrun:=run_append_owned_none (P:=P) (w:=w) B T o.type E i0 K.n ht hi0 v l.length (K.flat l) hown;unfold Oper.wp;have hk:=hK _ _ (h v w (by rw [List.append_nil];exact hown) (Below.refl _ _));have hx':a.eval x = .slice none 0 0:=hx
    simp [execOp,ho,resolve,invoke,builtin,hs,hx',hrun,Result.andThen]
    exact hk
  | some ad =>
    refine wp_append_own _ s x T ho B E i0 z K.n bytes ht hi0 hz0 hz1 hz2 hz K.pos v l.length (K.flat l) hs hown ad 0 cap [] hx (by simp) (by simp) (by simp) (by unfold maxLen;simp at hlen;omega) (by simpa using hb) hB ?_
    intro v' w' g2 g3 _
    refine hK _ _ (h v' w' ?_ ((Below.refl B w).grown g3 hB fun k hk=>(World.ownsRow.lt hown k hk).1))
    show w'.ownsRow B E K.n v' (l ++ []).length (K.flat (l ++ []))
    rw [List.append_nil]
    simpa using g2
end
end Go.Proofs.YtljnkaodhfnbbaaGreatDoor.Rw
namespace Go.Proofs.YtljnkaodhfnbbaaGreatDoor.Fl
open Go.RowKit
open Rw (Rd Ow At)
abbrev R4:=Int×Int×Int×Int
def z4:R4:=(0,0,0,0)
def rec4 (r:R4):Value:=.agg #[.int .u8 r.1,.int .u8 r.2.1,.int .u8 r.2.2.1,.int .u8 r.2.2.2]
def K4:Rw.Kind R4:=⟨fun r=>[.int .u8 r.1,.int .u8 r.2.1,.int .u8 r.2.2.1,.int .u8 r.2.2.2],4,by decide,fun _=>rfl,fun _ u h=>by simp at h;rcases h with rfl | rfl | rfl | rfl <;> rfl,z4⟩
def file (p:Int) (v:Value):Value:=.agg #[.int .i64 p,v]
def hdr (p n:Int):R4:=(n,p,165,bits .xor .u8 (bits .xor .u8 n p) 165)
def rat (l:List R4) (i:Nat):R4:=l.getD i z4
def goodF (p:Int) (l:List R4):Prop:=0≤p∧p≤7∧1≤l.length∧l.length≤256∧rat l 0=hdr p ((l.length:Int) - 1)
instance (p:Int) (l:List R4):Decidable (goodF p l):=by unfold goodF;infer_instance
def goodFB (p:Int) (l:List R4):Bool:=decide (goodF p l)
theorem at4 {w:World} {b off:Nat} {l:List R4} (h:At K4 w b off l) (i:Nat) (hi:i < l.length) :
 w.cell? ⟨b,off+i * 4,none⟩=some (.int .u8 (rat l i).1)∧w.cell? ⟨b,off+i * 4+1,none⟩=some (.int .u8 (rat l i).2.1)∧w.cell? ⟨b,off+i * 4+2,none⟩=some (.int .u8 (rat l i).2.2.1)∧w.cell? ⟨b,off+i * 4+3,none⟩=some (.int .u8 (rat l i).2.2.2) :=
 ⟨h i hi 0 _ rfl,h i hi 1 _ rfl,h i hi 2 _ rfl,h i hi 3 _ rfl⟩
theorem at4_0 {w:World} {b off:Nat} {l:List R4} (h:At K4 w b off l) (hi:0 < l.length) :
 w.cell? ⟨b,off,none⟩=some (.int .u8 (rat l 0).1)∧w.cell? ⟨b,off+1,none⟩=some (.int .u8 (rat l 0).2.1)∧w.cell? ⟨b,off+2,none⟩=some (.int .u8 (rat l 0).2.2.1)∧w.cell? ⟨b,off+3,none⟩=some (.int .u8 (rat l 0).2.2.2):=by
 have:=at4 h 0 hi
 simpa using this
theorem infoR:(Tryz.prog.info? 42).map (fun i=>(i.zero,i.size,i.bytes))=some (some (.agg #[.int .u8 0,.int .u8 0,.int .u8 0,.int .u8 0]),4,4):=by kernel_rfl
theorem eq_rec (r s:R4) (w:World):(Op.equalIn 10000 42 (.agg #[.int .u8 r.1,.int .u8 r.2.1,.int .u8 r.2.2.1,.int .u8 r.2.2.2]) (.agg #[.int .u8 s.1,.int .u8 s.2.1,.int .u8 s.2.2.1,.int .u8 s.2.2.2])).run Tryz.prog w = .ok (decide (r=s)) w:=by
 obtain ⟨j,hj⟩:∃ i,Tryz.prog.info? 5=some i:=Option.isSome_iff_exists.1 (by kernel_rfl);have hc:Tryz.prog.cellsOf 5=1:=by kernel_rfl
 obtain ⟨r1,r2,r3,r4⟩:=r;obtain ⟨s1,s2,s3,s4⟩:=s;rw [run_equalIn_array w 9999 _ _ Tryz.underlying42 hj,hc]
 by_cases h1:r1=s1 <;> by_cases h2:r2=s2 <;> by_cases h3:r3=s3 <;> by_cases h4:r4=s4 <;> simp [Op.eqItems,List.range,List.range.loop,part,go_sem,h1,h2,h3,h4]
theorem ret_bool {a b:Bool} (h:a=b):Ending.returned (.bool a) = .returned (.bool b):=by rw [h]
theorem at_bool {P:Program} {f:Nat} {args:Array Value} {w:World} {B:Nat} {a b:Bool} (e:a=b) (c:Calls P f args w fun e w'=>e = .returned (.bool a)∧Below B w w'):Calls P f args w fun e w'=>e = .returned (.bool b)∧Below B w w':=by rw [← e];exact c
end Go.Proofs.YtljnkaodhfnbbaaGreatDoor.Fl
namespace Go.Proofs.YtljnkaodhfnbbaaGreatDoor.Qb
open Go.RowKit
structure By (w:World) where
 world:World
 below:Below w.heap.size w world
instance (w:World):Nonempty (By w):=⟨⟨w,Below.refl _ _⟩⟩
theorem below_drew {B:Nat} {a w:World} (h:Below B a w):Below B a { w with drawn:=w.drawn+1 }:=⟨h.os,h.tape,h.output,h.size,h.block⟩
theorem wp_region_by {P:Program} {id:Nat} {Q:Exit→Act→World→Prop} {a:Act} {w:World} {l:List Oper} (hm:P.follows .mixedOrders=true) (hB:Region.lexB .any l.toArray=true)
 (h:wpQuiet P l.toArray (fun w'=>∃ p:By w,w'=p.world) (fun a'=>∀ w',(∃ p:By w,w'=p.world)→Q .normal a' w') l a):(Code.region id l.toArray true).wp P Q a w :=
 wp_region_quiet (C:=fun w'=>∃ p:By w,w'=p.world) hm hB ⟨⟨_,below_drew (Below.refl _ _)⟩,rfl⟩ (by simpa using h)
theorem of_below {P:Program} {f:FuncId} {args:Array Value} {w:World} {p:By w} {v:Value}
 (h:Calls P f args p.world fun e w'=>e = .returned v∧Below p.world.heap.size p.world w'):Calls P f args p.world fun e w''=>e = .returned v∧∃ q:By w,w''=q.world :=
 h.mono fun _ w' ⟨he,hb⟩=>⟨he,⟨w',p.below.trans (hb.mono p.below.size)⟩,rfl⟩
theorem cell_by {w:World} {a:Addr} {v:Value} (h:w.cell? a=some v) (p:By w):p.world.cell? a=some v:=(p.below.cell (World.block_lt_of_cell? _ _ h)).trans h
end Go.Proofs.YtljnkaodhfnbbaaGreatDoor.Qb
namespace Go.Proofs.YtljnkaodhfnbbaaGreatDoor.Fl
open Go.RowKit
open Rw (Rd Ow At)
set_option maxHeartbeats 400000 in
theorem rhdr_any (w:World) (p n:Int) (p0:0≤p) (p1:p≤7) (n0:0≤n) (n1:n≤255):Calls Tryz.prog 73 #[.int .i64 p,.int .i64 n] w fun e w'=>e = .returned (rec4 (hdr p n))∧Below w.heap.size w w':=by
 go_enter Tryz.func73,Tryz.ntmps73
 go_wp2
 (try simp only [Exit.inBlock,Exit.then])
 refine bodyPost_ret (v:=rec4 (hdr p n)) ?_ rfl ⟨rfl,?_⟩
 ·exact results_cell_row (p:=4) rfl _ _ w.heap.size 42 _ (0,0) _ rfl (heap_alloc_new w _) Tryz.underlying42 rfl (by show _=some 4;kernel_rfl)
 ·exact (Below.refl w.heap.size w).alloc (Nat.le_refl _) _
def sameF (p:Int) (l:List R4) (p':Int) (l':List R4):Bool:=decide (p=p'∧l=l')
theorem list_same {l l':List R4} (hl:l.length=l'.length) (h:∀ i,i < l.length→rat l i=rat l' i):l=l':=by
 refine List.ext_getElem hl fun i h1 h2=>?_;have:=h i h1
 simpa [rat,List.getD,List.getElem?_eq_getElem h1,List.getElem?_eq_getElem h2] using this
def newP (p n:Int):Prop:=0≤p∧p≤7∧0≤n∧n≤255
instance (p n:Int):Decidable (newP p n):=by unfold newP;infer_instance
def newL (p n:Int):List R4:=hdr p n :: List.replicate n.toNat z4
def NewPost (w:World) (p n:Int) (e:Ending) (w':World):Prop:=∃ v,e = .returned (.tuple #[file (if newP p n then p else 0) v,.int .i64 (if newP p n then 0 else 1)])∧Rd K4 w' v (if newP p n then newL p n else [])∧Below w.heap.size w w'
theorem row_cell {w:World} {g:Nat} {cs:Array Value} {t:TypeId} (h:w.heap[g]? = some (.cells cs t (0,0))) (k:Nat):w.cell? ⟨g,k,none⟩=cs[k]?:=cell_of_row w g k cs t (0,0) h
theorem row_frozen {w:World} {g:Nat} {cs:Array Value} {t:TypeId} (h:w.heap[g]? = some (.cells cs t (0,0))) (k:Nat):w.frozen? ⟨g,k,none⟩=false:=frozen_of_row w g k _ _ h
structure NRel (w:World) (p:Int) (h:R4) (g k:Nat) (v:Value) (wr:World):Prop where
 row:wr.heap[g]? = some (.cells #[.int .i64 p,v] 70 (0,0))
 res:wr.heap[w.heap.size]? = some (.cells #[.int .i64 0,.slice none 0 0] 70 (0,0))
 own:Ow K4 wr (w.heap.size+1) 42 v (h :: List.replicate k z4)
 bel:Below w.heap.size w wr
 lt:w.heap.size < g
set_option maxHeartbeats 1000000 in
theorem rnew_any (w:World) (p n:Int):Calls Tryz.prog 75 #[.int .i64 p,.int .i64 n] w (NewPost w p n):=by
 have B0:=Lib.hid ((Below.refl w.heap.size w).alloc (Nat.le_refl _) (.cells #[.int .i64 0,.slice none 0 0] 70))
 by_cases hp:newP p n
 ·have HPN:=Lib.hid hp
  obtain ⟨p0,p1,n0,n1⟩:=hp;obtain ⟨m,rfl⟩:∃ m:Nat,n=m:=⟨n.toNat,by omega⟩;have HH:=Lib.hid (rhdr_any (w.alloc (.cells #[.int .i64 0,.slice none 0 0] 70)) p m p0 p1 (by omega) (by omega));have NL:Hid (newL p m=hdr p m :: List.replicate m z4):=rfl;unfold rec4 at HH;generalize hdr p m=h at *
  go_enter Tryz.func75,Tryz.ntmps75
  go_wp2_with fail;refine HH.out.mono ?_;rintro e w1 ⟨rfl,b1⟩;have z1:w.heap.size < w1.heap.size:=by have:=b1.size;simp at this;omega
  have B1:=Lib.hid (B0.out.trans (b1.mono B0.out.size));have r0:w1.heap[w.heap.size]? = some (.cells #[.int .i64 0,.slice none 0 0] 70 (0,0)):=(b1.block _ (by simp)).trans (heap_alloc_new w _);have hz:(w1.alloc (.cells #[.int .u8 h.1,.int .u8 h.2.1,.int .u8 h.2.2.1,.int .u8 h.2.2.2] 42)).heap.size=w1.heap.size+1:=by simp
  have N0:NRel w p h (w1.heap.size+1) 0 (.slice (some ⟨w1.heap.size,0,none⟩) 1 1) ((w1.alloc (.cells #[.int .u8 h.1,.int .u8 h.2.1,.int .u8 h.2.2.1,.int .u8 h.2.2.2] 42)).alloc (.cells #[.int .i64 p,.slice (some ⟨w1.heap.size,0,none⟩) 1 1] 70)):=by
   refine ⟨?_,?_,(Ow.lit (K:=K4) w1 (w.heap.size+1) 42 [h] (by omega) (by unfold maxLen;simp)).alloc _,(B1.out.alloc (by omega) _).alloc (by rw [hz];omega) _,by omega⟩
   ·have:=heap_alloc_new (w1.alloc (.cells #[.int .u8 h.1,.int .u8 h.2.1,.int .u8 h.2.2.1,.int .u8 h.2.2.2] 42)) (.cells #[.int .i64 p,.slice (some ⟨w1.heap.size,0,none⟩) 1 1] 70)
    rw [hz] at this;exact this
   ·exact (Below.heap_alloc _ _ _ (by rw [hz];omega)).trans ((Below.heap_alloc _ _ _ z1).trans r0)
  have NR:=Lib.hid N0;clear b1 N0 r0 HH hz;go_wp2;generalize (w1.alloc (.cells #[.int .u8 h.1,.int .u8 h.2.1,.int .u8 h.2.2.1,.int .u8 h.2.2.2] 42)).alloc (.cells #[.int .i64 p,.slice (some ⟨w1.heap.size,0,none⟩) 1 1] 70)=W at *;generalize w1.heap.size+1=g at *;generalize Value.slice (some ⟨w1.heap.size,0,none⟩) 1 1=v0 at *
  go_loopw [7] (fun i wr=>∃ (k:Nat) (v:Value),k≤m∧i = .int .i64 k∧Hid (NRel w p h g k v wr)) (fun i _=>m - (intOf i).toNat)
  case atStart=>exact ⟨0,v0,Nat.zero_le _,rfl,NR⟩
  case round =>
   obtain ⟨k,v,hk,rfl,R⟩:=hrel;obtain ⟨av,cv,ev,_,_⟩:=R.out.own.slice;generalize hL:(h :: List.replicate k z4).length=L at ev;clear hL;have gs:=lt_of_block R.out.row;have c1:wr.cell? ⟨g,1,none⟩=some v:=row_cell R.out.row 1;subst ev
   by_cases hlt:k < m
   ·go_wp2_with (at_builtin;refine Rw.push_far Tryz.underlying68 infoR rfl (by omega) rfl _ _ rfl (w.heap.size+1) _ _ rfl (R.out.own.alloc _) _ z4 rfl ?d1 ?d2 ?d3 ?_)
    case d1 =>
     intro j u hu
     match j,hu with
     | 0,hu=>simp [K4,z4] at hu;subst hu;go_simp
     | 1,hu=>simp [K4,z4] at hu;subst hu;go_simp
     | 2,hu=>simp [K4,z4] at hu;subst hu;go_simp
     | 3,hu=>simp [K4,z4] at hu;subst hu;go_simp
     | j+4,hu=>simp [K4] at hu
    case d2=>simp;omega
    case d3=>have:=R.out.lt;simp;omega
    intro v' w2 o2 b2 f2
    have rr:=f2 g _ _ ((Below.heap_alloc wr _ g gs).trans R.out.row) (by decide);have rs:=f2 w.heap.size _ _ ((Below.heap_alloc wr _ w.heap.size (lt_of_block R.out.res)).trans R.out.res) (by decide);have d1:w2.cell? ⟨g,1,none⟩=some (.slice av L cv):=row_cell rr 1;have e1:=row_frozen rr 1;have N2:Hid (NRel w p h g (k+1) v' (w2.setCell ⟨g,1,none⟩ v')):=by
     have hB:=R.out.bel.size;refine ⟨Rw.heap_setCell_same rr _,(Below.heap_setCell w2 _ _ w.heap.size (by have:=R.out.lt;simp;omega)).trans rs,?_,?_,R.out.lt⟩
     ·have e:(h :: List.replicate k z4) ++ [z4]=h :: List.replicate (k+1) z4:=by rw [List.replicate_succ'];rfl
      rw [← e];exact o2.far (p:=⟨g,1,none⟩) rr (by decide) _
     ·exact (((R.out.bel.alloc hB _).trans (b2.mono (by omega))).setCell (by have:=R.out.lt;simp;omega) _)
    obtain ⟨av',cv',L',rfl⟩:∃ a c L,v' = .slice a L c:=by obtain ⟨a,c,e,_,_⟩:=o2.slice;exact ⟨a,c,_,e⟩
    clear rr rs o2 b2 f2;go_wp2
    go_roundw
    case rel=>exact ⟨k+1,_,by omega,by go_num,N2⟩
    case measure=>simp [intOf];omega
   ·obtain rfl:k=m:=by omega
    have c0:wr.cell? ⟨g,0,none⟩=some (.int .i64 p):=row_cell R.out.row 0;have r0:wr.cell? ⟨w.heap.size,0,none⟩=some (.int .i64 0):=row_cell R.out.res 0;have r1:wr.cell? ⟨w.heap.size,1,none⟩=some (.slice none 0 0):=row_cell R.out.res 1;have s0:=row_frozen R.out.res 0;have s1:=row_frozen R.out.res 1;have E2:Hid (NewPost w p k (.returned (.tuple #[file p (.slice av L cv),.int .i64 0])) ((wr.setCell ⟨w.heap.size,0,none⟩ (.int .i64 p)).setCell ⟨w.heap.size,1,none⟩ (.slice av L cv))):=by
     have o1:=R.out.own.far (p:=⟨w.heap.size,0,none⟩) R.out.res (by decide) (.int .i64 p);have rr:=Rw.heap_setCell_same (j:=0) R.out.res (.int .i64 p);refine ⟨_,by rw [if_pos HPN.out,if_pos HPN.out],?_,(R.out.bel.setCell (Nat.le_refl _) _).setCell (Nat.le_refl _) _⟩;rw [if_pos HPN.out,NL.out];exact (o1.far (p:=⟨w.heap.size,1,none⟩) rr (by decide) _).rd
    go_wp2
    (try simp only [Exit.inBlock,Exit.then])
    refine bodyPost_ret (v:=.tuple #[file p (.slice av L cv),.int .i64 0]) ?_ rfl E2.out;rw [results_cell_tmp rfl];go_simp;rfl
 ·have E:Hid (NewPost w p n (.returned (.tuple #[file 0 (.slice none 0 0),.int .i64 1])) (w.alloc (.cells #[.int .i64 0,.slice none 0 0] 70))):=⟨_,by rw [if_neg hp,if_neg hp],by rw [if_neg hp];exact Rw.Rd.nil _,B0.out⟩
  by_cases h1:p < 0
  ·go_enter Tryz.func75,Tryz.ntmps75
   go_wp2
   (try simp only [Exit.inBlock,Exit.then])
   refine bodyPost_ret (v:=.tuple #[file 0 (.slice none 0 0),.int .i64 1]) ?_ rfl E.out;rw [results_cell_tmp rfl];go_simp;rfl
  ·by_cases h2:7 < p
   ·go_enter Tryz.func75,Tryz.ntmps75
    go_wp2
    (try simp only [Exit.inBlock,Exit.then])
    refine bodyPost_ret (v:=.tuple #[file 0 (.slice none 0 0),.int .i64 1]) ?_ rfl E.out;rw [results_cell_tmp rfl];go_simp;rfl
   ·by_cases h3:n < 0
    ·go_enter Tryz.func75,Tryz.ntmps75
     go_wp2
     (try simp only [Exit.inBlock,Exit.then])
     refine bodyPost_ret (v:=.tuple #[file 0 (.slice none 0 0),.int .i64 1]) ?_ rfl E.out;rw [results_cell_tmp rfl];go_simp;rfl
    ·have h4:255 < n:=by
      rcases Int.lt_or_le 255 n with c | c
      ·exact c
      ·exact absurd (show newP p n from ⟨by omega,by omega,by omega,by omega⟩) hp
     go_enter Tryz.func75,Tryz.ntmps75
     go_wp2
     (try simp only [Exit.inBlock,Exit.then])
     refine bodyPost_ret (v:=.tuple #[file 0 (.slice none 0 0),.int .i64 1]) ?_ rfl E.out;rw [results_cell_tmp rfl];go_simp;rfl
end Go.Proofs.YtljnkaodhfnbbaaGreatDoor.Fl
namespace Go.Proofs.YtljnkaodhfnbbaaGreatDoor.Fl
open Go.RowKit
open Rw (Rd Ow At)
def okR (r:R4):Prop:=(0≤r.1∧r.1≤255)∧(0≤r.2.1∧r.2.1≤255)∧(0≤r.2.2.1∧r.2.2.1≤255)∧0≤r.2.2.2∧r.2.2.2≤255
def okL (l:List R4):Prop:=∀ r∈l,okR r
theorem okR_z:okR z4:=⟨⟨by decide,by decide⟩,⟨by decide,by decide⟩,⟨by decide,by decide⟩,by decide,by decide⟩
theorem okR_at {l:List R4} (h:okL l) (i:Nat):okR (rat l i):=by
 unfold rat;rw [List.getD_eq_getElem?_getD]
 rcases e:l[i]? with _ | r
 ·exact okR_z
 ·exact h r (List.mem_of_getElem? e)
def num (r:R4):Int:=r.1 * 16777216+r.2.1 * 65536+r.2.2.1 * 256+r.2.2.2
def bytes (n:Int):R4:=(n / 16777216,n / 65536 % 256,n / 256 % 256,n % 256)
def inc (r:R4):R4:=bytes ((num r+1) % 4294967296)
def need (op:Int):Int:=if op=0 then 1 else if op=1 then 2 else 4
def doE (p:Int) (l:List R4) (op rec:Int):Int :=
 if goodF p l then
  if 0≤op∧op≤2 then
   if 0≤rec∧rec < l.length then
    if rec=0∧op=0∨0 < rec∧p / need op % 2=1 then 0 else 5
   else 4
  else 1
 else 2
theorem doE_2 {p op rec:Int} {l:List R4} (h:¬ goodF p l):doE p l op rec=2:=by unfold doE;rw [if_neg h]
theorem doE_1 {p op rec:Int} {l:List R4} (h:goodF p l) (h2:¬ (0≤op∧op≤2)):doE p l op rec=1:=by unfold doE;rw [if_pos h,if_neg h2]
theorem doE_4 {p op rec:Int} {l:List R4} (h:goodF p l) (h2:0≤op∧op≤2) (h3:¬ (0≤rec∧rec < l.length)):doE p l op rec=4:=by unfold doE;rw [if_pos h,if_pos h2,if_neg h3]
theorem doE_5 {p op rec:Int} {l:List R4} (h:goodF p l) (h2:0≤op∧op≤2) (h3:0≤rec∧rec < l.length) (h4:¬ (rec=0∧op=0∨0 < rec∧p / need op % 2=1)):doE p l op rec=5:=by unfold doE;rw [if_pos h,if_pos h2,if_pos h3,if_neg h4]
theorem doE_0 {p op rec:Int} {l:List R4} (h:goodF p l) (h2:0≤op∧op≤2) (h3:0≤rec∧rec < l.length) (h4:rec=0∧op=0∨0 < rec∧p / need op % 2=1):doE p l op rec=0:=by unfold doE;rw [if_pos h,if_pos h2,if_pos h3,if_pos h4]
def newR (l:List R4) (op rec:Int) (x:R4):R4:=if op=1 then x else if op=2 then inc (rat l rec.toNat) else rat l rec.toNat
def DoPost (w:World) (p:Int) (l:List R4) (op rec:Int) (x:R4) (e:Ending) (w':World):Prop :=
 ∃ u,e = .returned (.tuple #[file (if doE p l op rec=0 then p else 0) u,rec4 (if doE p l op rec=0 then newR l op rec x else z4),.int .i64 (doE p l op rec)])∧Ow K4 w' w.heap.size 42 u (if doE p l op rec=0 then l.set rec.toNat (newR l op rec x) else [])∧Below w.heap.size w w'
set_option maxHeartbeats 400000 in
theorem hdr_any (w:World) (p n:Int) (p0:0≤p) (p1:p≤7) (n0:0≤n) (n1:n≤255):Calls Tryz.prog 182 #[.int .i64 p,.int .i64 n] w fun e w'=>e = .returned (rec4 (hdr p n))∧Below w.heap.size w w':=by
 go_enter Tryz.func182,Tryz.ntmps182
 go_wp2
 (try simp only [Exit.inBlock,Exit.then])
 refine bodyPost_ret (v:=rec4 (hdr p n)) ?_ rfl ⟨rfl,?_⟩
 ·exact results_cell_row (p:=4) rfl _ _ w.heap.size 42 _ (0,0) _ rfl (heap_alloc_new w _) Tryz.underlying42 rfl (by show _=some 4;kernel_rfl)
 ·exact (Below.refl w.heap.size w).alloc (Nat.le_refl _) _
def permB (p:Int):Bool:=decide (0≤p∧p≤7)
theorem perm_yes {p:Int} (h1:0≤p) (h2:p≤7):permB p=true:=decide_eq_true ⟨h1,h2⟩
theorem perm_no {p:Int} (h:¬ (0≤p∧p≤7)):permB p=false:=decide_eq_false h
set_option maxHeartbeats 400000 in
theorem perm_any (w:World) (p:Int):Calls Tryz.prog 181 #[.int .i64 p] w fun e w'=>e = .returned (.bool (permB p))∧Below w.heap.size w w':=by
 by_cases h1:0≤p
 ·by_cases h2:p≤7
  ·go_enter Tryz.func181,Tryz.ntmps181
   go_wp2
   go_ret
   exact ⟨ret_bool (by rw [perm_yes h1 h2]),Below.refl _ _⟩
  ·go_enter Tryz.func181,Tryz.ntmps181
   go_wp2
   go_ret
   exact ⟨ret_bool (by rw [perm_no (by omega)]),Below.refl _ _⟩
 ·go_enter Tryz.func181,Tryz.ntmps181
  go_wp2
  go_ret
  exact ⟨ret_bool (by rw [perm_no (by omega)]),Below.refl _ _⟩
def needsN (op:Int):Int:=if 0≤op∧op≤2 then need op else 0
set_option maxHeartbeats 400000 in
theorem needs_any (w:World) (op:Int):Calls Tryz.prog 248 #[.int .i64 op] w fun e w'=>e = .returned (.int .i64 (needsN op))∧Below w.heap.size w w':=by
 by_cases h0:op=0
 ·subst h0
  go_enter Tryz.func248,Tryz.ntmps248
  go_wp2
  go_ret
  exact ⟨rfl,Below.refl _ _⟩
 ·by_cases h1:op=1
  ·subst h1
   go_enter Tryz.func248,Tryz.ntmps248
   go_wp2
   go_ret
   exact ⟨rfl,Below.refl _ _⟩
  ·by_cases h2:op=2
   ·subst h2
    go_enter Tryz.func248,Tryz.ntmps248
    go_wp2
    go_ret
    exact ⟨rfl,Below.refl _ _⟩
   ·have E:Hid (0=needsN op):=by unfold needsN;rw [if_neg (by omega)];exact Lib.hid rfl
    go_enter Tryz.func248,Tryz.ntmps248
    go_wp2
    go_ret
    exact ⟨by rw [← E.out];rfl,Below.refl _ _⟩
def mayB (p op rec:Int):Bool:=decide (rec=0∧op=0∨0 < rec∧p / need op % 2=1)
theorem and_perm:∀ (p:Fin 8) (op:Fin 3),decide (bits BinOp.and .i64 (p.val:Int) (need (op.val:Int))=0)=decide (¬ ((p.val:Int) / need (op.val:Int) % 2=1)):=by decide +kernel
theorem and_perm' {p op:Int} (p0:0≤p) (p1:p≤7) (o0:0≤op) (o1:op≤2):(bits BinOp.and .i64 p (need op)=0)↔¬ (p / need op % 2=1):=by
 have:=and_perm ⟨p.toNat,by omega⟩ ⟨op.toNat,by omega⟩;simp only [Int.toNat_of_nonneg p0,Int.toNat_of_nonneg o0] at this;exact decide_eq_decide.1 this
set_option maxHeartbeats 400000 in
theorem may_any (w:World) (p op rec:Int) (p0:0≤p) (p1:p≤7) (o0:0≤op) (o1:op≤2) (r0:0≤rec):Calls Tryz.prog 249 #[.int .i64 p,.int .i64 (need op),.int .i64 rec] w fun e w'=>e = .returned (.bool (mayB p op rec))∧Below w.heap.size w w':=by
 by_cases h:rec=0
 ·subst h
  have E:Hid (decide (need op=1)=mayB p op 0):=Lib.hid (by
   unfold mayB;rw [decide_eq_decide];unfold need
   rcases (by omega:op=0∨op=1∨op=2) with rfl | rfl | rfl <;> simp)
  generalize need op=q at *
  go_enter Tryz.func249,Tryz.ntmps249
  go_wp2
  go_ret
  exact ⟨ret_bool E.out,Below.refl _ _⟩
 ·have E:Hid ((!decide (bits BinOp.and .i64 p (need op)=0))=mayB p op rec):=Lib.hid (by
   unfold mayB
   by_cases k:bits BinOp.and .i64 p (need op)=0
   ·rw [decide_eq_true k]
    have:=(and_perm' p0 p1 o0 o1).1 k;exact (decide_eq_false (by omega)).symm
   ·rw [decide_eq_false k]
    have:p / need op % 2=1:=Decidable.byContradiction fun c=>k ((and_perm' p0 p1 o0 o1).2 c)
    exact (decide_eq_true (.inr ⟨by omega,this⟩)).symm)
  generalize need op=q at *
  go_enter Tryz.func249,Tryz.ntmps249
  go_wp2
  go_ret
  exact ⟨ret_bool (by rw [← E.out];first | rfl | simp),Below.refl _ _⟩
end Go.Proofs.YtljnkaodhfnbbaaGreatDoor.Fl
namespace Go.Proofs.YtljnkaodhfnbbaaGreatDoor.Sd
open Go.RowKit
def isLen:Callee→Bool
 | .builtin .len=>true
 | _=>false
def light:Op→Bool
 | .call c=>isLen c.callee
 | .move _=>true | .assign _=>true | .pick ..=>true | .load ..=>true | .binOp ..=>true | .unOp ..=>true | .convert ..=>true
 | .fieldAddr ..=>true | .field ..=>true | .indexAddr ..=>true | .index ..=>true | .extract ..=>true | .build ..=>true
 | .nilCheck _=>true | .lookup ..=>true | .makeInterface ..=>true | .slice ..=>true
 | _=>false
theorem value_of {P:Program} {s:Sem Value} {w w':World} {n:Next} (h:(do let x ← s;pure (Next.value x):Sem Next).run P w = .ok n w'):∃ v,n = .value v:=by
 simp only [Sem.run_bind,Sem.run_pure] at h
 cases e:s.run P w with
 | ok x w1=>rw [e] at h;simp only [Result.andThen] at h;injection h with h1 h2;exact ⟨x,h1.symm⟩
 | halt x w1=>rw [e] at h;simp only [Result.andThen] at h;cases h
def OnlyV (s:Sem Next):Prop:=∀ (P:Program) (w w':World) (n:Next),s.run P w = .ok n w'→∃ v,n = .value v
theorem ov_bind {β:Type} (s:Sem β) (f:β→Sem Next) (h:∀ x,OnlyV (f x)):OnlyV (s >>= f):=fun P w w' n hr=>by
 rw [Sem.run_bind] at hr
 cases e:s.run P w with
 | ok x w1=>rw [e] at hr;exact h x P w1 w' n hr
 | halt x w1=>rw [e] at hr;cases hr
theorem ov_pure (v:Value):OnlyV (pure (Next.value v)):=fun P w w' n h=>by simp only [Sem.run_pure] at h;injection h with h1 h2;exact ⟨_,h1.symm⟩
theorem nil_value {ρ:Operand→Value} {o:Oper} {x:Operand} {P:Program} {w w':World} {n:Next} (ho:o.op = .nilCheck x) (h:(execOp ρ o).run P w = .ok n w'):∃ v,n = .value v:=by
 unfold execOp at h;rw [ho] at h;simp only at h
 split at h
 ·simp [runtimePanic] at h
 ·simp [runtimePanic] at h
 ·simp [runtimePanic] at h
 ·split at h
  ·simp [runtimePanic] at h
  ·refine ov_bind _ _ (fun p=>ov_bind _ _ fun r=>?_) P w w' n h
   split
   ·exact ov_bind _ _ fun _=>ov_pure _
   ·exact ov_pure _
  ·simp only [Sem.run_pure] at h;injection h with h1 h2;exact ⟨_,h1.symm⟩
 ·simp only [Sem.run_pure] at h;injection h with h1 h2;exact ⟨_,h1.symm⟩
theorem len_value {ρ:Operand→Value} {o:Oper} {c:Call} {P:Program} {w w':World} {n:Next} (ho:o.op = .call c) (hc:isLen c.callee=true) (h:(execOp ρ o).run P w = .ok n w'):∃ v,n = .value v:=by
 obtain ⟨f,cas,ts⟩:=c
 cases f with
 | builtin b =>
   cases b with
   | len =>
     unfold execOp at h;rw [ho] at h;simp only [resolve,Sem.run_bind,Sem.run_pure,Result.andThen,invoke,builtin] at h;exact value_of (s:=Builtin.len_ _ _ _) (by simpa only [Sem.run_bind,Sem.run_pure,Result.andThen] using h)
   | _=>cases hc
 | _=>cases hc
theorem light_value {P:Program} {ρ:Operand→Value} {o:Oper} {w w':World} {n:Next} (hl:light o.op=true) (h:(execOp ρ o).run P w = .ok n w'):∃ v,n = .value v:=by
 by_cases hc:∃ x,o.op = .nilCheck x
 ·obtain ⟨x,hx⟩:=hc
  exact nil_value hx h
 by_cases hd:∃ c,o.op = .call c
 ·obtain ⟨c,hx⟩:=hd
  rw [hx] at hl;exact len_value hx hl h
 unfold execOp at h
 cases ho:o.op <;> rw [ho] at hl h <;> first | (exact (hd ⟨_,ho⟩).elim) | (cases hl;done) | (exact (hc ⟨_,ho⟩).elim) | skip
 all_goals first
  | exact value_of h
  | (simp only [Sem.run_pure] at h;injection h with h1 h2;exact ⟨_,h1.symm⟩)
  | (simp only [Sem.run_bind,Sem.run_pure] at h
     revert h
     cases (asBool _).run P w with
     | ok x w1=>intro h;simp only [Result.andThen] at h;injection h with h1 h2;exact ⟨_,h1.symm⟩
     | halt x w1=>intro h;simp only [Result.andThen] at h;cases h)
def picks (l:List Oper):List (Bool×Nat)→List (Bool×Oper)
 | []=>[]
 | (h,i) :: r=>match l[i]? with
   | some o=>(h,o) :: picks l r
   | none=>picks l r
def good (ops:Array Oper):List (Bool×Nat)→Array Bool→Nat→Bool
 | [],listed,_=>(Region.ready .any ops listed).isEmpty
 | _ :: _,_,0=>false
 | (h,i) :: r,listed,fuel+1 =>
   (match ops[i]? with
    | some o=>if h then Region.ready .any ops listed == [i] else light o.op && Region.free .any ops listed i && (Region.ready .any ops listed).contains i
    | none=>false) && good ops r (listed.setIfInBounds i true) fuel
def wpSd (P:Program) (ops:Array Oper) (C:World→Prop) (Q:Exit→Act→World→Prop):List (Bool×Oper)→Act→World→Prop
 | [],a,w=>Q .normal a w
 | (false,o) :: r,a,w=>wpQuiet P ops C (fun a'=>wpSd P ops C Q r a' w) [o] a
 | (true,o) :: r,a,w=>if Region.wanted o (yielded ops a.tmps) then o.wp P a w (fun a' w'=>C w'∧wpSd P ops C Q r a' w') Q else wpSd P ops C Q r (a.put o.dst undef) w
theorem sound {P:Program} {l:List Oper} {C:World→Prop} {Q:Exit→Act→World→Prop} (hs:Region.noSelect l.toArray=true) (hQ:∀ c d v a w,Q (.panic c) (Act.put a d v) w→Q (.panic c) a w) :
 ∀ (sc:List (Bool×Nat)) (listed:Array Bool) (fuel:Nat) (a:Act) (w:World),good l.toArray sc listed fuel=true→C w→wpSd P l.toArray C Q (picks l sc) a w→wpAnyH P .any l.toArray Q C fuel listed a w
 | [],listed,fuel,a,w,hg,_,h=>wpAnyH_done (List.isEmpty_iff.1 hg) h fuel
 | _ :: _,_,0,_,_,hg,_,_=>by cases hg
 | (b,i) :: r,listed,fuel+1,a,w,hg,hC,h=>by
   unfold good at hg;simp only [Bool.and_eq_true] at hg;obtain ⟨hg1,hg2⟩:=hg;have hll:l.toArray[i]? = l[i]?:=by rw [List.getElem?_toArray]
   cases ho:l[i]? with
   | none=>rw [hll,ho] at hg1;cases hg1
   | some o =>
     rw [hll,ho] at hg1;have hop:l.toArray[i]? = some o:=hll.trans ho;have hp:picks l ((b,i) :: r)=(b,o) :: picks l r:=by rw [picks,ho]
     rw [hp] at h
     cases b with
     | true =>
       simp only [if_true,beq_iff_eq] at hg1;refine wpAnyH_all hg1 (by simp) fun j hj=>?_;obtain rfl:j=i:=by simpa using hj
       unfold wpOp;simp only [hop];unfold wpSd at h
       by_cases hw:Region.wanted o (yielded l.toArray a.tmps)=true
       ·rw [if_pos hw] at h ⊢
        exact .inl (Oper.wp_mono (fun a' w' ⟨c,k⟩=>⟨c,sound hs hQ r _ fuel a' w' hg2 c k⟩) h)
       ·rw [if_neg hw] at h ⊢
        exact ⟨hC,sound hs hQ r _ fuel _ w hg2 hC h⟩
     | false =>
       simp only [Bool.false_eq_true,if_false,Bool.and_eq_true] at hg1;obtain ⟨⟨hk,hf⟩,hr⟩:=hg1;unfold wpSd at h
       by_cases hw:Region.wanted o (yielded l.toArray a.tmps)=true
       ·unfold wpQuiet at h
        rw [if_pos hw] at h;obtain ⟨v,hv,hn⟩:=h;refine wpAnyH_take (v:=v) hop hs hf hr (fun c a w=>hQ c _ _ a w) (.inl ⟨hw,fun w' hw'=>?_⟩) hC (sound hs hQ r _ fuel _ w hg2 hC hn);have q:=hv w' hw';unfold Oper.quietAt at q
        cases e:(execOp a.eval o).run P w' with
        | halt x w1=>rw [e] at q;cases q
        | ok n w1 =>
          obtain ⟨u,rfl⟩:=light_value hk e;rw [e] at q;obtain ⟨e1,e2⟩:=q;rw [e1,e2]
       ·unfold wpQuiet at h
        rw [if_neg hw] at h;exact wpAnyH_take (v:=undef) hop hs hf hr (fun c a w=>hQ c _ _ a w) (.inr ⟨by simpa using hw,rfl⟩) hC (sound hs hQ r _ fuel _ w hg2 hC h)
structure By (w:World) where
 world:World
 below:Below w.heap.size w world
instance (w:World):Nonempty (By w):=⟨⟨w,Below.refl _ _⟩⟩
def Cl (w:World) (w':World):Prop:=∃ p:By w,w'=p.world
theorem Cl.of {w w':World} (h:Below w.heap.size w w'):Cl w w':=⟨⟨w',h⟩,rfl⟩
theorem Cl.bel {w w':World} (h:Cl w w'):Below w.heap.size w w':=by obtain ⟨p,rfl⟩:=h;exact p.below
theorem cell_by {w:World} {a:Addr} {v:Value} (h:w.cell? a=some v) (p:By w):p.world.cell? a=some v:=(p.below.cell (World.block_lt_of_cell? _ _ h)).trans h
theorem start {P:Program} {id:Nat} {l:List Oper} {Q:Exit→Act→World→Prop} {a:Act} {w:World} (sc:List (Bool×Nat)) (hm:P.follows .mixedOrders=true) (hs:Region.noSelect l.toArray=true)
 (hg:good l.toArray sc (Array.replicate l.toArray.size false) l.toArray.size=true) (h:wpSd P l.toArray (fun w'=>∃ p:By w,w'=p.world) (NoPanic Q) (picks l sc) a w.drew):(Code.region id l.toArray true).wp P Q a w :=
 wp_region_noPanic (wp_region_held_drew (S:=fun w'=>∃ p:By w,w'=p.world) hm ⟨⟨w.drew,(Below.refl _ _).drew⟩,rfl⟩ fun _=>sound hs (fun _ _ _ _ _ h=>h) sc _ _ a _ hg ⟨⟨w.drew,(Below.refl _ _).drew⟩,rfl⟩ h)
section
variable {P:Program} {ops:Array Oper} {C:World→Prop} {Q:Exit→Act→World→Prop} {a:Act} {w:World} {o:Oper} {r:List (Bool×Oper)}
theorem done (h:Q .normal a w):wpSd P ops C (NoPanic Q) [] a w:=h
theorem lit (h:wpQuiet P ops C (fun a'=>wpSd P ops C Q r a' w) [o] a):wpSd P ops C Q ((false,o) :: r) a w:=h
theorem call (hw:Region.wanted o (yielded ops a.tmps)=true) (h:∀ K:Act→World→Prop,(∀ a w,C w→wpSd P ops C Q r a w→K a w)→o.wp P a w K Q):wpSd P ops C Q ((true,o) :: r) a w:=by
 unfold wpSd;rw [if_pos hw];exact h _ fun a w c k=>⟨c,k⟩
theorem past (hw:Region.wanted o (yielded ops a.tmps)=false) (h:wpSd P ops C Q r (a.put o.dst undef) w):wpSd P ops C Q ((true,o) :: r) a w:=by
 unfold wpSd;rw [if_neg (by rw [hw];exact Bool.false_ne_true)];exact h
end
end Go.Proofs.YtljnkaodhfnbbaaGreatDoor.Sd
namespace Go.Proofs.YtljnkaodhfnbbaaGreatDoor.Qk
open Go.RowKit
theorem skip {P:Program} {ops:Array Oper} {C:World→Prop} {Q:Act→Prop} {a:Act} {o:Oper} {rest:List Oper} (hw:Region.wanted o (yielded ops a.tmps)=false) (ha:a.put o.dst undef=a) (h:wpQuiet P ops C Q rest a):wpQuiet P ops C Q (o :: rest) a:=by
 unfold wpQuiet;rw [if_neg (by rw [hw];exact Bool.false_ne_true),ha];exact h
theorem past {P:Program} {ops:Array Oper} {C:World→Prop} {Q:Exit→Act→World→Prop} {a:Act} {w:World} {o:Oper} {r:List (Bool×Oper)} (hw:Region.wanted o (yielded ops a.tmps)=false) (ha:a.put o.dst undef=a) (h:Sd.wpSd P ops C Q r a w):Sd.wpSd P ops C Q ((true,o) :: r) a w :=
 Sd.past hw (by rw [ha];exact h)
end Go.Proofs.YtljnkaodhfnbbaaGreatDoor.Qk
namespace Go.Proofs.YtljnkaodhfnbbaaGreatDoor.Fl
open Go.RowKit
open Rw (Rd Ow At)
attribute [local irreducible] Sd.wpSd wpQuiet
set_option maxHeartbeats 400000 in
theorem good_perm (w:World) (p:Int) (a:Option Addr) (n cap:Nat) (h:¬ (0≤p∧p≤7)):Calls Tryz.prog 138 #[.agg #[.int .i64 p,.slice a n cap]] w fun e w'=>e = .returned (.bool false)∧Below w.heap.size w w':=by
 have B0:=Lib.hid ((Below.refl w.heap.size w).alloc (Nat.le_refl _) (.cells #[.int .i64 p,.slice a n cap] 70));have HP:=Lib.hid (fun w=>at_bool (perm_no h) (perm_any w p));clear h;have k0:=Sd.cell_by (show (w.alloc (.cells #[.int .i64 p,.slice a n cap] 70)).cell? ⟨w.heap.size,0,none⟩=some (.int .i64 p) by go_simp)
 go_enter Tryz.func138,Tryz.ntmps138
 go_wp2_with fail;generalize w.alloc (.cells #[.int .i64 p,.slice a n cap] 70)=W at *;refine Sd.start [(false,0),(false,1),(true,2),(false,3),(false,4),(false,5),(false,6),(false,7),(false,8),(false,9),(false,10),(false,11),(false,12),(false,13),(false,14),(false,15),(false,16),(false,17),(false,18),(false,19),(true,20),(false,21),(false,22),(false,23)] (by kernel_rfl) (by kernel_rfl) (by kernel_rfl) ?_;dsimp only [Sd.picks,List.getElem?_cons_succ,List.getElem?_cons_zero]
 iterate 2 (refine Sd.lit ?_;quiet_step (fail);refine wpQuiet_nil ?_)
 refine Sd.call (by rfl) (fun K hK=>?_);go_simp;refine (HP.out _).mono ?_;rintro e w1 ⟨rfl,b1⟩;have C1:=Lib.hid (Below.trans ((Below.refl W.heap.size W).drew) b1);refine hK _ _ (Sd.Cl.of C1.out) ?_;clear hK K b1
 iterate 17 (refine Sd.lit ?_;(first | (refine Qk.skip (by rfl) (by rfl) ?_) | quiet_step (fail));refine wpQuiet_nil ?_)
 refine Qk.past (by rfl) (by rfl) ?_
 iterate 3 (refine Sd.lit ?_;(first | (refine Qk.skip (by rfl) (by rfl) ?_) | quiet_step (fail));refine wpQuiet_nil ?_)
 refine Sd.done ?_;go_wp2
 go_ret
 exact ⟨rfl,B0.out.trans (C1.out.mono B0.out.size)⟩
set_option maxHeartbeats 400000 in
theorem good_none (w:World) (p:Int) (a:Option Addr) (n cap:Nat) (h:0≤p∧p≤7) (hn:n < 1):Calls Tryz.prog 138 #[.agg #[.int .i64 p,.slice a n cap]] w fun e w'=>e = .returned (.bool false)∧Below w.heap.size w w':=by
 have B0:=Lib.hid ((Below.refl w.heap.size w).alloc (Nat.le_refl _) (.cells #[.int .i64 p,.slice a n cap] 70));have HP:=Lib.hid (fun w=>at_bool (perm_yes h.1 h.2) (perm_any w p));have hn2:decide ((1:Int)≤n)=false:=decide_eq_false (by omega);clear h hn;have k0:=Sd.cell_by (show (w.alloc (.cells #[.int .i64 p,.slice a n cap] 70)).cell? ⟨w.heap.size,0,none⟩=some (.int .i64 p) by go_simp)
 go_enter Tryz.func138,Tryz.ntmps138
 go_wp2_with fail;generalize w.alloc (.cells #[.int .i64 p,.slice a n cap] 70)=W at *;refine Sd.start [(false,0),(false,1),(true,2),(false,3),(false,4),(false,5),(false,6),(false,7),(false,8),(false,9),(false,10),(false,11),(false,12),(false,13),(false,14),(false,15),(false,16),(false,17),(false,18),(false,19),(true,20),(false,21),(false,22),(false,23)] (by kernel_rfl) (by kernel_rfl) (by kernel_rfl) ?_;dsimp only [Sd.picks,List.getElem?_cons_succ,List.getElem?_cons_zero]
 iterate 2 (refine Sd.lit ?_;quiet_step (fail);refine wpQuiet_nil ?_)
 refine Sd.call (by rfl) (fun K hK=>?_);go_simp;refine (HP.out _).mono ?_;rintro e w1 ⟨rfl,b1⟩;have C1:=Lib.hid (Below.trans ((Below.refl W.heap.size W).drew) b1);refine hK _ _ (Sd.Cl.of C1.out) ?_;clear hK K b1
 iterate 17 (refine Sd.lit ?_;(first | (refine Qk.skip (by rfl) (by rfl) ?_) | quiet_step (fail));refine wpQuiet_nil ?_)
 refine Qk.past (by rfl) (by rfl) ?_
 iterate 3 (refine Sd.lit ?_;(first | (refine Qk.skip (by rfl) (by rfl) ?_) | quiet_step (fail));refine wpQuiet_nil ?_)
 refine Sd.done ?_;go_wp2
 go_ret
 exact ⟨rfl,B0.out.trans (C1.out.mono B0.out.size)⟩
set_option maxHeartbeats 400000 in
theorem good_many (w:World) (p:Int) (a:Option Addr) (n cap:Nat) (h:0≤p∧p≤7) (hn:256 < n):Calls Tryz.prog 138 #[.agg #[.int .i64 p,.slice a n cap]] w fun e w'=>e = .returned (.bool false)∧Below w.heap.size w w':=by
 have B0:=Lib.hid ((Below.refl w.heap.size w).alloc (Nat.le_refl _) (.cells #[.int .i64 p,.slice a n cap] 70));have HP:=Lib.hid (fun w=>at_bool (perm_yes h.1 h.2) (perm_any w p));have hn2:decide ((1:Int)≤n)=true:=decide_eq_true (by omega);have hn3:decide ((n:Int)≤256)=false:=decide_eq_false (by omega);clear h hn;have k0:=Sd.cell_by (show (w.alloc (.cells #[.int .i64 p,.slice a n cap] 70)).cell? ⟨w.heap.size,0,none⟩=some (.int .i64 p) by go_simp)
 go_enter Tryz.func138,Tryz.ntmps138
 go_wp2_with fail;generalize w.alloc (.cells #[.int .i64 p,.slice a n cap] 70)=W at *;refine Sd.start [(false,0),(false,1),(true,2),(false,3),(false,4),(false,5),(false,6),(false,7),(false,8),(false,9),(false,10),(false,11),(false,12),(false,13),(false,14),(false,15),(false,16),(false,17),(false,18),(false,19),(true,20),(false,21),(false,22),(false,23)] (by kernel_rfl) (by kernel_rfl) (by kernel_rfl) ?_;dsimp only [Sd.picks,List.getElem?_cons_succ,List.getElem?_cons_zero]
 iterate 2 (refine Sd.lit ?_;quiet_step (fail);refine wpQuiet_nil ?_)
 refine Sd.call (by rfl) (fun K hK=>?_);go_simp;refine (HP.out _).mono ?_;rintro e w1 ⟨rfl,b1⟩;have C1:=Lib.hid (Below.trans ((Below.refl W.heap.size W).drew) b1);refine hK _ _ (Sd.Cl.of C1.out) ?_;clear hK K b1
 iterate 17 (refine Sd.lit ?_;(first | (refine Qk.skip (by rfl) (by rfl) ?_) | quiet_step (fail));refine wpQuiet_nil ?_)
 refine Qk.past (by rfl) (by rfl) ?_
 iterate 3 (refine Sd.lit ?_;(first | (refine Qk.skip (by rfl) (by rfl) ?_) | quiet_step (fail));refine wpQuiet_nil ?_)
 refine Sd.done ?_;go_wp2
 go_ret
 exact ⟨rfl,B0.out.trans (C1.out.mono B0.out.size)⟩
set_option maxHeartbeats 1000000 in
theorem good_any (w:World) (p:Int) (v:Value) (l:List R4) (R:Rd K4 w v l):Calls Tryz.prog 138 #[file p v] w fun e w'=>e = .returned (.bool (goodFB p l))∧Below w.heap.size w w':=by
 have B0:=Lib.hid ((Below.refl w.heap.size w).alloc (Nat.le_refl _) (.cells #[.int .i64 p,v] 70));have R0:=Lib.hid (R.below B0.out);have HNO:Hid (¬ goodF p l→false=goodFB p l):=fun h=>(decide_eq_false h).symm;have HD:Hid (0≤p→p≤7→1≤l.length→l.length≤256→decide (rat l 0=hdr p ((l.length:Int) - 1))=goodFB p l):=fun a b c d=>by
  unfold goodFB;rw [decide_eq_decide];exact ⟨fun h=>⟨a,b,c,d,h⟩,fun h=>h.2.2.2.2⟩
 clear R;unfold file;obtain ⟨a,cap,rfl,_,hm,hA⟩:=R0.out;have HA:=Lib.hid hA;unfold maxLen at hm;clear hA R0
 by_cases h1:0≤p∧p≤7
 ·have hp:=fun w=>at_bool (perm_yes h1.1 h1.2) (perm_any w p)
  have HP:=Lib.hid hp;clear hp;obtain ⟨h1,h2⟩:=h1
  by_cases h3:1≤l.length
  ·by_cases h4:l.length≤256
   ·have E:=Lib.hid (HD.out h1 h2 h3 h4)
    have hh:=fun w=>hdr_any w p ((l.length:Int) - 1) h1 h2 (by omega) (by omega);obtain ⟨b,off,rfl,hA⟩:=HA.out (by omega);obtain ⟨c0,c1,c2,c3⟩:=at4_0 hA (by omega);have q0:=Qb.cell_by c0;have q1:=Qb.cell_by c1;have q2:=Qb.cell_by c2;have q3:=Qb.cell_by c3;clear hA HA HD HNO c0 c1 c2 c3;generalize rat l 0=r at *;generalize l.length=n at *;generalize hdr p ((n:Int) - 1)=q at *;unfold rec4 at hh;have HH:=Lib.hid hh;clear hh;have es:=eq_rec r q;have W0:IntKind.i64.wrap ((n:Int) - 1)=(n:Int) - 1:=IntWalk.i64_in _ (by omega);have hn1:0 < n:=by omega
    have hn2:(1:Int)≤n:=by omega
    have hn3:(n:Int)≤256:=by omega
    have k0:=Qb.cell_by (show (w.alloc (.cells #[.int .i64 p,.slice (some ⟨b,off,none⟩) n cap] 70)).cell? ⟨w.heap.size,0,none⟩=some (.int .i64 p) by go_simp);have k1:=Qb.cell_by (show (w.alloc (.cells #[.int .i64 p,.slice (some ⟨b,off,none⟩) n cap] 70)).cell? ⟨w.heap.size,1,none⟩=some (.slice (some ⟨b,off,none⟩) n cap) by go_simp)
    go_enter Tryz.func138,Tryz.ntmps138
    go_wp2_with fail;refine Qb.wp_region_by (by kernel_rfl) (by kernel_rfl) ?_
    repeat (quiet_step ((first | (go_at_call 181;with_reducible exact Qb.of_below (HP.out _)) | (go_at_call 182;with_reducible exact Qb.of_below (HH.out _)))))
    refine wpQuiet_nil ?_
    intro _ hw'
    obtain ⟨pp,rfl⟩:=hw';go_wp2
    go_ret
    exact ⟨ret_bool E.out,B0.out.trans (pp.below.mono B0.out.size)⟩
   ·exact at_bool (HNO.out (fun h=>by obtain ⟨_,_,_,_,_⟩:=h;omega)) (good_many w p a _ cap ⟨h1,h2⟩ (by omega))
  ·exact at_bool (HNO.out (fun h=>by obtain ⟨_,_,_,_,_⟩:=h;omega)) (good_none w p a _ cap ⟨h1,h2⟩ (by omega))
 ·exact at_bool (HNO.out (fun h=>by obtain ⟨_,_,_,_,_⟩:=h;omega)) (good_perm w p a _ cap h1)
end Go.Proofs.YtljnkaodhfnbbaaGreatDoor.Fl
namespace Go.Proofs.YtljnkaodhfnbbaaGreatDoor.Fl
open Go.RowKit
open Rw (Rd Ow At)
theorem at_int {P:Program} {f:Nat} {args:Array Value} {w:World} {B:Nat} {k:IntKind} {a b:Int} (e:a=b) (c:Calls P f args w fun e w'=>e = .returned (.int k a)∧Below B w w'):Calls P f args w fun e w'=>e = .returned (.int k b)∧Below B w w':=by rw [← e];exact c
theorem ret_int {k:IntKind} {a b:Int} (h:a=b):Ending.returned (.int k a) = .returned (.int k b):=by rw [h]
theorem needsN_of {op:Int} (h:0≤op∧op≤2):needsN op=need op:=by unfold needsN;rw [if_pos h]
theorem needsN_no {op:Int} (h:¬ (0≤op∧op≤2)):needsN op=0:=by unfold needsN;rw [if_neg h]
theorem need_pos (op:Int):0 < need op:=by unfold need;split <;> (try split) <;> omega
set_option maxHeartbeats 1000000 in
theorem wrong_any (w:World) (p:Int) (v:Value) (l:List R4) (R:Rd K4 w v l) (op rec:Int):Calls Tryz.prog 213 #[file p v,.int .i64 op,.int .i64 rec] w fun e w'=>e = .returned (.int .i64 (doE p l op rec))∧Below w.heap.size w w':=by
 have bb:=(Below.refl w.heap.size w).alloc (Nat.le_refl _) (.cells #[.int .i64 p,v] 70);have B0:=Lib.hid bb;have G0:=Lib.hid (good_any _ p v l (R.below bb));obtain ⟨a,cap,rfl,_,hm,_⟩:=R;unfold maxLen at hm;clear bb
 by_cases hg:goodF p l
 ·have G:=Lib.hid (at_bool (show goodFB p l=true from decide_eq_true hg) G0.out)
  have hp:0≤p∧p≤7:=⟨hg.1,hg.2.1⟩
  by_cases ho:0≤op∧op≤2
  ·have N:=Lib.hid (fun w=>at_int (needsN_of ho) (needs_any w op))
   have hq:=need_pos op
   by_cases hr:0≤rec∧rec < l.length
   ·obtain ⟨hr0,hr1⟩:=hr
    have M:=Lib.hid (fun w=>may_any w p op rec hp.1 hp.2 ho.1 ho.2 hr0)
    by_cases hk:rec=0∧op=0∨0 < rec∧p / need op % 2=1
    ·have E:=Lib.hid (doE_0 hg ho ⟨hr0,hr1⟩ hk)
     have M1:=Lib.hid (fun w=>at_bool (show mayB p op rec=true from decide_eq_true hk) (M.out w));clear hk hg G0 M;generalize doE p l op rec=d at *;generalize need op=q at *;generalize l.length=n at *;unfold file at *
     go_enter Tryz.func213,Tryz.ntmps213
     go_wp2_with fail;refine G.out.mono ?_;rintro e w1 ⟨rfl,b1⟩;have B1:=Lib.hid (B0.out.trans (b1.mono B0.out.size));have c0:w1.cell? ⟨w.heap.size,0,none⟩=some (.int .i64 p):=(b1.cell (by simp)).trans (by go_simp);have c1:w1.cell? ⟨w.heap.size,1,none⟩=some (.slice a n cap):=(b1.cell (by simp)).trans (by go_simp);clear b1 B0 G;go_wp2_with fail;refine (N.out _).mono ?_;rintro e w2 ⟨rfl,b2⟩;have lt:w.heap.size < w1.heap.size:=World.block_lt_of_cell? _ _ c0;have B2:=Lib.hid (B1.out.trans (b2.mono B1.out.size));have d0:w2.cell? ⟨w.heap.size,0,none⟩=some (.int .i64 p):=(b2.cell lt).trans c0;have d1:w2.cell? ⟨w.heap.size,1,none⟩=some (.slice a n cap):=(b2.cell lt).trans c1;clear b2 B1 N c0 c1 lt;go_wp2_with fail;refine (M1.out _).mono ?_;rintro e w3 ⟨rfl,b3⟩;have B3:=Lib.hid (B2.out.trans (b3.mono B2.out.size));clear b3 B2 M1;go_wp2
     go_ret
     exact ⟨ret_int E.out.symm,B3.out⟩
    ·have E:=Lib.hid (doE_5 hg ho ⟨hr0,hr1⟩ hk)
     have M1:=Lib.hid (fun w=>at_bool (show mayB p op rec=false from decide_eq_false hk) (M.out w));clear hk hg G0 M;generalize doE p l op rec=d at *;generalize need op=q at *;generalize l.length=n at *;unfold file at *
     go_enter Tryz.func213,Tryz.ntmps213
     go_wp2_with fail;refine G.out.mono ?_;rintro e w1 ⟨rfl,b1⟩;have B1:=Lib.hid (B0.out.trans (b1.mono B0.out.size));have c0:w1.cell? ⟨w.heap.size,0,none⟩=some (.int .i64 p):=(b1.cell (by simp)).trans (by go_simp);have c1:w1.cell? ⟨w.heap.size,1,none⟩=some (.slice a n cap):=(b1.cell (by simp)).trans (by go_simp);clear b1 B0 G;go_wp2_with fail;refine (N.out _).mono ?_;rintro e w2 ⟨rfl,b2⟩;have lt:w.heap.size < w1.heap.size:=World.block_lt_of_cell? _ _ c0;have B2:=Lib.hid (B1.out.trans (b2.mono B1.out.size));have d0:w2.cell? ⟨w.heap.size,0,none⟩=some (.int .i64 p):=(b2.cell lt).trans c0;have d1:w2.cell? ⟨w.heap.size,1,none⟩=some (.slice a n cap):=(b2.cell lt).trans c1;clear b2 B1 N c0 c1 lt;go_wp2_with fail;refine (M1.out _).mono ?_;rintro e w3 ⟨rfl,b3⟩;have B3:=Lib.hid (B2.out.trans (b3.mono B2.out.size));clear b3 B2 M1;go_wp2
     go_ret
     exact ⟨ret_int E.out.symm,B3.out⟩
   ·have E:=Lib.hid (doE_4 hg ho hr)
    clear hg G0;have hr':rec < 0∨(0≤rec∧(l.length:Int)≤rec):=by omega
    clear hr;generalize doE p l op rec=d at *;generalize need op=q at *;generalize l.length=n at *;unfold file at *
    rcases hr' with hr | ⟨hr,hr2⟩
    all_goals
     go_enter Tryz.func213,Tryz.ntmps213
     go_wp2_with fail;refine G.out.mono ?_;rintro e w1 ⟨rfl,b1⟩;have B1:=Lib.hid (B0.out.trans (b1.mono B0.out.size));have c0:w1.cell? ⟨w.heap.size,0,none⟩=some (.int .i64 p):=(b1.cell (by simp)).trans (by go_simp);have c1:w1.cell? ⟨w.heap.size,1,none⟩=some (.slice a n cap):=(b1.cell (by simp)).trans (by go_simp);clear b1 B0 G;go_wp2_with fail;refine (N.out _).mono ?_;rintro e w2 ⟨rfl,b2⟩;have lt:w.heap.size < w1.heap.size:=World.block_lt_of_cell? _ _ c0;have B2:=Lib.hid (B1.out.trans (b2.mono B1.out.size));have d0:w2.cell? ⟨w.heap.size,0,none⟩=some (.int .i64 p):=(b2.cell lt).trans c0;have d1:w2.cell? ⟨w.heap.size,1,none⟩=some (.slice a n cap):=(b2.cell lt).trans c1;clear b2 B1 N c0 c1 lt;go_wp2
     go_ret
     exact ⟨ret_int E.out.symm,B2.out⟩
  ·have E:=Lib.hid (doE_1 (rec:=rec) hg ho)
   have N:=Lib.hid (fun w=>at_int (needsN_no ho) (needs_any w op));clear hg G0 ho;generalize doE p l op rec=d at *;generalize l.length=n at *;unfold file at *
   go_enter Tryz.func213,Tryz.ntmps213
   go_wp2_with fail;refine G.out.mono ?_;rintro e w1 ⟨rfl,b1⟩;have B1:=Lib.hid (B0.out.trans (b1.mono B0.out.size));clear b1 B0 G;go_wp2_with fail;refine (N.out _).mono ?_;rintro e w2 ⟨rfl,b2⟩;have B2:=Lib.hid (B1.out.trans (b2.mono B1.out.size));clear b2 B1 N;go_wp2
   go_ret
   exact ⟨ret_int E.out.symm,B2.out⟩
 ·have E:=Lib.hid (doE_2 (op:=op) (rec:=rec) hg)
  have G:=Lib.hid (at_bool (show goodFB p l=false from decide_eq_false hg) G0.out);clear hg G0;generalize doE p l op rec=d at *;generalize l.length=n at *;unfold file at *
  go_enter Tryz.func213,Tryz.ntmps213
  go_wp2_with fail;refine G.out.mono ?_;rintro e w1 ⟨rfl,b1⟩;have B1:=Lib.hid (B0.out.trans (b1.mono B0.out.size));clear b1 B0 G;go_wp2
  go_ret
  exact ⟨ret_int E.out.symm,B1.out⟩
end Go.Proofs.YtljnkaodhfnbbaaGreatDoor.Fl
namespace Go.Proofs.YtljnkaodhfnbbaaGreatDoor.Fl
open Go.RowKit
open Rw (Rd Ow At)
def arr4 (r:R4):Array Value:=#[.int .u8 r.1,.int .u8 r.2.1,.int .u8 r.2.2.1,.int .u8 r.2.2.2]
def sto4 (w:World) (g o:Nat) (r:R4):World:=(((w.setCell ⟨g,o,none⟩ (.int .u8 r.1)).setCell ⟨g,o+1,none⟩ (.int .u8 r.2.1)).setCell ⟨g,o+2,none⟩ (.int .u8 r.2.2.1)).setCell ⟨g,o+3,none⟩ (.int .u8 r.2.2.2)
theorem sto4_own {w:World} {B:Nat} {l:List R4} {g n cap:Nat} (h:Ow K4 w B 42 (.slice (some ⟨g,0,none⟩) n cap) l) (hn:n=l.length) (i:Nat) (hi:i < l.length) (r:R4) :
 Ow K4 (sto4 w g (i * 4) r) B 42 (.slice (some ⟨g,0,none⟩) n cap) (l.set i r):=by
 subst hn;have get:∀ (m:List R4) (s:R4),i < m.length→(m.set i s).getD i z4=s:=fun m s hm=>by simp [List.getD,hm]
 have h1:=h.set i 0 hi (by decide) (.int .u8 r.1) (r.1,(l.getD i z4).2.1,(l.getD i z4).2.2.1,(l.getD i z4).2.2.2) rfl;have l1:i < (l.set i (r.1,(l.getD i z4).2.1,(l.getD i z4).2.2.1,(l.getD i z4).2.2.2)).length:=by rw [List.length_set];exact hi
 rw [show l.length=(l.set i (r.1,(l.getD i z4).2.1,(l.getD i z4).2.2.1,(l.getD i z4).2.2.2)).length by rw [List.length_set]] at h1;have h2:=h1.set i 1 l1 (by decide) (.int .u8 r.2.1) (r.1,r.2.1,(l.getD i z4).2.2.1,(l.getD i z4).2.2.2) (by show _=((K4.enc ((l.set i _).getD i z4))).set 1 _;rw [get _ _ hi];rfl);rw [List.set_set] at h2;have l2:i < (l.set i (r.1,r.2.1,(l.getD i z4).2.2.1,(l.getD i z4).2.2.2)).length:=by rw [List.length_set];exact hi
 rw [List.length_set,show l.length=(l.set i (r.1,r.2.1,(l.getD i z4).2.2.1,(l.getD i z4).2.2.2)).length by rw [List.length_set]] at h2;have h3:=h2.set i 2 l2 (by decide) (.int .u8 r.2.2.1) (r.1,r.2.1,r.2.2.1,(l.getD i z4).2.2.2) (by show _=((K4.enc ((l.set i _).getD i z4))).set 2 _;rw [get _ _ hi];rfl);rw [List.set_set] at h3;have l3:i < (l.set i (r.1,r.2.1,r.2.2.1,(l.getD i z4).2.2.2)).length:=by rw [List.length_set];exact hi
 rw [List.length_set,show l.length=(l.set i (r.1,r.2.1,r.2.2.1,(l.getD i z4).2.2.2)).length by rw [List.length_set]] at h3;have h4:=h3.set i 3 l3 (by decide) (.int .u8 r.2.2.2) r (by show _=((K4.enc ((l.set i _).getD i z4))).set 3 _;rw [get _ _ hi];rfl);rw [List.set_set] at h4;rw [List.length_set] at h4;exact h4
theorem sto4_row {w:World} {g:Nat} {q:R4} (h:w.heap[g]? = some (.cells (arr4 q) 42 (0,0))) (r:R4):(sto4 w g 0 r).heap[g]? = some (.cells (arr4 r) 42 (0,0)) :=
 Rw.heap_setCell_same (Rw.heap_setCell_same (Rw.heap_setCell_same (Rw.heap_setCell_same h _) _) _) _
theorem sto4_other {w:World} {g k o:Nat} {r:R4} {x:Option Obj} (h:w.heap[k]? = x) (hne:k≠g):(sto4 w g o r).heap[k]? = x :=
 (Below.heap_setCell _ _ _ _ hne).trans ((Below.heap_setCell _ _ _ _ hne).trans ((Below.heap_setCell _ _ _ _ hne).trans ((Below.heap_setCell _ _ _ _ hne).trans h)))
theorem sto4_below {w W:World} {B g o:Nat} {r:R4} (h:Below B w W) (hb:B≤g):Below B w (sto4 W g o r) :=
 (((h.setCell (p:=⟨g,o,none⟩) hb _).setCell (p:=⟨g,o+1,none⟩) hb _).setCell (p:=⟨g,o+2,none⟩) hb _).setCell (p:=⟨g,o+3,none⟩) hb _
theorem sto4_size (w:World) (g o:Nat) (r:R4):(sto4 w g o r).heap.size=w.heap.size:=by simp [sto4]
theorem sto4_off {w:World} {B g o:Nat} {v:Value} {l:List R4} (h:Ow K4 w B 42 v l) (hne:v.ownBlock≠some g) (r:R4):Ow K4 (sto4 w g o r) B 42 v l :=
 (((h.off (p:=⟨g,o,none⟩) hne _).off (p:=⟨g,o+1,none⟩) hne _).off (p:=⟨g,o+2,none⟩) hne _).off (p:=⟨g,o+3,none⟩) hne _
def sto2 (w:World) (g:Nat) (p:Int) (v:Value):World:=(w.setCell ⟨g,0,none⟩ (.int .i64 p)).setCell ⟨g,1,none⟩ v
theorem sto2_row {w:World} {g:Nat} {q:Int} {u:Value} (h:w.heap[g]? = some (.cells #[.int .i64 q,u] 70 (0,0))) (p:Int) (v:Value):(sto2 w g p v).heap[g]? = some (.cells #[.int .i64 p,v] 70 (0,0)) :=
 Rw.heap_setCell_same (Rw.heap_setCell_same h _) _
theorem sto2_other {w:World} {g k:Nat} {p:Int} {v:Value} {x:Option Obj} (h:w.heap[k]? = x) (hne:k≠g):(sto2 w g p v).heap[k]? = x :=
 (Below.heap_setCell _ _ _ _ hne).trans ((Below.heap_setCell _ _ _ _ hne).trans h)
theorem sto2_below {w W:World} {B g:Nat} {p:Int} {v:Value} (h:Below B w W) (hb:B≤g):Below B w (sto2 W g p v):=(h.setCell (p:=⟨g,0,none⟩) hb _).setCell (p:=⟨g,1,none⟩) hb _
theorem sto2_size (w:World) (g:Nat) (p:Int) (v:Value):(sto2 w g p v).heap.size=w.heap.size:=by simp [sto2]
theorem sto2_off {w:World} {B g:Nat} {v u:Value} {l:List R4} (h:Ow K4 w B 42 v l) (hne:v.ownBlock≠some g) (p:Int):Ow K4 (sto2 w g p u) B 42 v l :=
 (h.off (p:=⟨g,0,none⟩) hne _).off (p:=⟨g,1,none⟩) hne _
theorem results_do {fn:Func} {p q r:Tmp} (h:fn.results=#[.cell p 70,.cell q 42,.tmp r]) (tmps:Array Value) (w:World) (g1 g2:Nat) (k:Int) (u:Value) (y:R4) (e:Int)
 (hp:tmps.getD p undef = .pointer (some ⟨g1,0,none⟩)) (hq:tmps.getD q undef = .pointer (some ⟨g2,0,none⟩)) (hr:tmps.getD r undef = .int .i64 e)
 (h1:w.heap[g1]? = some (.cells #[.int .i64 k,u] 70 (0,0))) (h2:w.heap[g2]? = some (.cells (arr4 y) 42 (0,0))) :
 (results fn tmps).run Tryz.prog w = .ok (.tuple #[file k u,rec4 y,.int .i64 e]) w:=by
 have e1:=run_loadVar_row (P:=Tryz.prog) w g1 70 70 #[.int .i64 k,u] (0,0) _ h1 Tryz.underlying70 rfl (by show _=some 2;kernel_rfl);have e2:=run_loadVar_row (P:=Tryz.prog) w g2 42 42 (arr4 y) (0,0) _ h2 Tryz.underlying42 rfl (by show _=some 4;kernel_rfl);have hp':tmps[p]?.getD undef = .pointer (some ⟨g1,0,none⟩):=by simpa using hp
 have hq':tmps[q]?.getD undef = .pointer (some ⟨g2,0,none⟩):=by simpa using hq
 have hr':tmps[r]?.getD undef = .int .i64 e:=by simpa using hr
 simp only [results,h]
 simp [Sem.run_bind,Result.andThen,hp',hq',hr',asAddr,e1,e2,file,rec4,arr4]
structure Start (w:World) (p:Int) (v:Value) (x:R4) (W:World):Prop where
 box:W.heap[w.heap.size]? = some (.cells #[.int .i64 p,v] 70 (0,0))
 arg:W.heap[w.heap.size+1]? = some (.cells (arr4 x) 42 (0,0))
 res1:W.heap[w.heap.size+2]? = some (.cells #[.int .i64 0,.slice none 0 0] 70 (0,0))
 res2:W.heap[w.heap.size+3]? = some (.cells (arr4 z4) 42 (0,0))
 siz:w.heap.size+4≤W.heap.size
 bel:Below w.heap.size w W
theorem Start.mono {w W W':World} {p:Int} {v:Value} {x:R4} (h:Start w p v x W) (b:Below W.heap.size W W'):Start w p v x W' :=
 have s:=h.siz
 ⟨(b.block _ (by omega)).trans h.box,(b.block _ (by omega)).trans h.arg,(b.block _ (by omega)).trans h.res1,(b.block _ (by omega)).trans h.res2,Nat.le_trans h.siz b.size,h.bel.trans (b.mono (by omega))⟩
theorem Start.of (w:World) (p:Int) (v:Value) (x:R4):Start w p v x ((((w.alloc (.cells #[.int .i64 p,v] 70)).alloc (.cells (arr4 x) 42)).alloc (.cells #[.int .i64 0,.slice none 0 0] 70)).alloc (.cells (arr4 z4) 42)):=by
 have z1:∀ a,(w.alloc a).heap.size=w.heap.size+1:=fun a=>by simp
 have z2:∀ a b,((w.alloc a).alloc b).heap.size=w.heap.size+2:=fun a b=>by simp
 have z3:∀ a b c,(((w.alloc a).alloc b).alloc c).heap.size=w.heap.size+3:=fun a b c=>by simp
 refine ⟨?_,?_,?_,?_,by simp,((((Below.refl w.heap.size w).alloc (Nat.le_refl _) _).alloc (by simp) _).alloc (by simp;omega) _).alloc (by simp;omega) _⟩
 ·exact (Below.heap_alloc _ _ _ (by rw [z3];omega)).trans ((Below.heap_alloc _ _ _ (by rw [z2];omega)).trans ((Below.heap_alloc _ _ _ (by rw [z1];omega)).trans (heap_alloc_new w _)))
 ·have:=heap_alloc_new (w.alloc (.cells #[.int .i64 p,v] 70)) (.cells (arr4 x) 42)
  rw [z1] at this;exact (Below.heap_alloc _ _ _ (by rw [z3];omega)).trans ((Below.heap_alloc _ _ _ (by rw [z2];omega)).trans this)
 ·have:=heap_alloc_new ((w.alloc (.cells #[.int .i64 p,v] 70)).alloc (.cells (arr4 x) 42)) (.cells #[.int .i64 0,.slice none 0 0] 70)
  rw [z2] at this;exact (Below.heap_alloc _ _ _ (by rw [z3];omega)).trans this
 ·have:=heap_alloc_new (((w.alloc (.cells #[.int .i64 p,v] 70)).alloc (.cells (arr4 x) 42)).alloc (.cells #[.int .i64 0,.slice none 0 0] 70)) (.cells (arr4 z4) 42)
  rw [z3] at this;exact this
theorem flat_zero (n:Nat):(madeCells #[.int .u8 0,.int .u8 0,.int .u8 0,.int .u8 0] (n * 4)).toList=K4.flat (List.replicate n z4):=by
 refine List.ext_getElem? fun k=>?_;have hl:(K4.flat (List.replicate n z4)).length=n * 4:=by rw [Rw.flat_length,List.length_replicate];rfl
 have hs:(madeCells #[.int .u8 0,.int .u8 0,.int .u8 0,.int .u8 0] (n * 4)).toList.length=n * 4:=by simp [madeCells]
 by_cases hk:k < n * 4
 ·have e:=Rw.flat_get K4 (List.replicate n z4) (k / 4) (k % 4) (by rw [List.length_replicate];omega) (Nat.mod_lt _ (by decide))
  have e4:k / 4 * K4.n+k % 4=k:=by show k / 4 * 4+k % 4=k;omega
  rw [e4] at e;rw [e];have ez:(List.replicate n z4).getD (k / 4) K4.dft=z4:=by
   rw [List.getD_eq_getElem?_getD,List.getElem?_replicate]
   split <;> rfl
  rw [ez];have hm:k % 4 < 4:=Nat.mod_lt _ (by decide);simp only [madeCells,Array.getElem?_toList,Array.getElem?_map,Array.getElem?_range,hk,if_true,Option.map_some,List.size_toArray,List.length_cons,List.length_nil,Nat.zero_add,Nat.reduceAdd]
  rcases (by omega:k % 4=0∨k % 4=1∨k % 4=2∨k % 4=3) with h | h | h | h <;> rw [h] <;> rfl
 ·rw [List.getElem?_eq_none (by omega),List.getElem?_eq_none (by omega)]
def ClonePost (w:World) (l:List R4) (e:Ending) (w':World):Prop:=∃ u,e = .returned u∧Ow K4 w' w.heap.size 42 u l∧Below w.heap.size w w'
set_option maxHeartbeats 400000 in
theorem clone_any (w:World) (v:Value) (l:List R4) (R:Rd K4 w v l) (hl:l.length≤260):Calls Tryz.prog 176 #[v] w (ClonePost w l):=by
 have R0:=Lib.hid R;obtain ⟨a,cap,rfl,⟨h1,h2⟩,hm,_⟩:=R
 cases a with
 | none =>
   have hc:=h2 rfl;have e:l = []:=List.length_eq_zero_iff.1 (by omega);subst e hc;clear h1 h2 hm R0;have hnil:∀ W,(binOp .eql 68 (.slice none 0 0) (.slice none 0 0)).run Tryz.prog W = .ok (.bool true) W:=fun W=>Lib.run_eql_slice_nil_nil W _ _ Tryz.underlying68
   go_enter Tryz.func176,Tryz.ntmps176
   go_wp2
   go_ret
   exact ⟨_,rfl,Ow.nil _ _ _,Below.refl _ _⟩
 | some a =>
   have O:=Lib.hid (Ow.made (K:=K4) w w.heap.size 42 (Nat.le_refl _));have BB:=Lib.hid ((Below.refl w.heap.size w).alloc (Nat.le_refl _) (.cells #[] 42));have RB:=Lib.hid (R0.out.below BB.out);have HL:=Lib.hid hl;have HA:Hid (∀ (v':Value) (w':World),Ow K4 w' w.heap.size 42 v' ([] ++ l)→Ow K4 w' w.heap.size 42 v' l):=fun v' w' h=>by rw [List.nil_append] at h;exact h
   clear h1 h2 R0 hl;have hnil:∀ n W,(binOp .eql 68 (.slice (some a) n cap) (.slice none 0 0)).run Tryz.prog W = .ok (.bool false) W:=fun n W=>Lib.run_eql_slice_some_nil W _ _ _ Tryz.underlying68
   go_enter Tryz.func176,Tryz.ntmps176
   go_wp2_with (at_builtin;refine Rw.all_step Tryz.underlying68 infoR rfl (by omega) rfl _ _ rfl w.heap.size _ _ rfl O.out _ _ rfl RB.out ?c1 ?c2 ?_)
   case c1=>have:=HL.out;simp;omega
   case c2=>simp
   intro v' w' o2 b2
   have E:Hid (ClonePost w l (.returned v') w'):=⟨v',rfl,HA.out _ _ o2,BB.out.trans b2⟩;obtain ⟨a',c',L',rfl⟩:∃ a c L,v' = .slice a L c:=by obtain ⟨a,c,e,_,_⟩:=o2.slice;exact ⟨a,c,_,e⟩
   clear o2 b2 HA RB O;go_wp2
   go_ret
   exact E.out
end Go.Proofs.YtljnkaodhfnbbaaGreatDoor.Fl
namespace Go.Proofs.YtljnkaodhfnbbaaGreatDoor.Sc
open Go.RowKit
structure In (C:World→Prop) where
 world:World
 ok:C world
def Cl (C:World→Prop) (w':World):Prop:=∃ p:In C,w'=p.world
theorem Cl.of {C:World→Prop} {w':World} (h:C w'):∃ p:In C,w'=p.world:=⟨⟨w',h⟩,rfl⟩
theorem cell_in {C:World→Prop} {a:Addr} {v:Value} (h:∀ w',C w'→w'.cell? a=some v) (p:In C):p.world.cell? a=some v:=h _ p.ok
theorem start {P:Program} {id:Nat} {l:List Oper} {Q:Exit→Act→World→Prop} {a:Act} {w:World} (C:World→Prop) (sc:List (Bool×Nat)) (hm:P.follows .mixedOrders=true) (hs:Region.noSelect l.toArray=true)
 (hg:Sd.good l.toArray sc (Array.replicate l.toArray.size false) l.toArray.size=true) (h0:C w.drew) (h:Sd.wpSd P l.toArray (fun w'=>∃ p:In C,w'=p.world) (NoPanic Q) (Sd.picks l sc) a w.drew):(Code.region id l.toArray true).wp P Q a w :=
 wp_region_noPanic (wp_region_held_drew (S:=fun w'=>∃ p:In C,w'=p.world) hm (Cl.of h0) fun _=>Sd.sound hs (fun _ _ _ _ _ h=>h) sc _ _ a _ hg (Cl.of h0) h)
end Go.Proofs.YtljnkaodhfnbbaaGreatDoor.Sc
