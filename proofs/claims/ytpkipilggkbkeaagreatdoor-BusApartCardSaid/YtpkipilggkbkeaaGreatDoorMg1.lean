import Derived.Below
import Derived.WalkKit
import Derived.Laws.AppendOwn
import Derived.OneCell
import Derived.Deep.Draws
import Derived.Lib.Hide
import Derived.Test.YtpkipilggkbkeaaGreatDoorChecked
import Derived.LoopTactic
import Derived.Outline
import Derived.Deep.LoopGhost
import Derived.BigQuiet
import Derived.Deep.QuietTactic
import Derived.WalkSmall
import Derived.Laws.StructEq
import Derived.Shelf.SlicesE.Kit
import Derived.OwnWalk
import Derived.Laws.OwnMore
import Derived.Laws.ResultCell
import Derived.ChangeKeysEq
namespace Go.Proofs.YtpkipilggkbkeaaGreatDoor.Tk
def fr (A:Nat→Int):Nat→Int
 | 0=>0
 | k+1=>A k
def rt (R:Nat→Int):Nat→Int
 | 0=>0
 | k+1=>R k
def sm (A R:Nat→Int):Nat→Int
 | 0=>0
 | k+1=>sm A R k+(A k - fr A k) * (1000000+rt R k)
def AtStop (A:Nat→Int) (n:Nat) (t:Int) (k:Nat):Prop:=k≤n∧(∀ i,i < k→A i < t)∧(k < n→t≤A k)
theorem AtStop.uniq {A:Nat→Int} {n:Nat} {t:Int} {k j:Nat} (h:AtStop A n t k) (g:AtStop A n t j):k=j:=by
 obtain ⟨h1,h2,h3⟩:=h;obtain ⟨g1,g2,g3⟩:=g
 rcases Nat.lt_trichotomy k j with c | c | c
 ·have a:=h3 (by omega);have b:=g2 k c;omega
 ·exact c
 ·have a:=g3 (by omega);have b:=h2 j c;omega
theorem AtStop.ex (A:Nat→Int) (n:Nat) (t:Int):∃ k,AtStop A n t k:=by
 induction n with
 | zero=>exact ⟨0,Nat.le_refl _,fun i h=>by omega,fun h=>by omega⟩
 | succ n ih =>
   obtain ⟨k,h1,h2,h3⟩:=ih
   by_cases hk:k < n
   ·exact ⟨k,by omega,h2,fun _=>h3 hk⟩
   ·obtain rfl:k=n:=by omega
    by_cases ha:A k < t
    ·refine ⟨k+1,by omega,fun i hi=>?_,fun h=>by omega⟩
     by_cases e:i=k
     ·subst e;exact ha
     ·exact h2 i (by omega)
    ·exact ⟨k,by omega,h2,fun _=>by omega⟩
noncomputable def stop (A:Nat→Int) (n:Nat) (t:Int):Nat:=(AtStop.ex A n t).choose
theorem stop_at (A:Nat→Int) (n:Nat) (t:Int):AtStop A n t (stop A n t):=(AtStop.ex A n t).choose_spec
theorem stop_eq {A:Nat→Int} {n:Nat} {t:Int} {k:Nat} (h:AtStop A n t k):stop A n t=k:=(stop_at A n t).uniq h
def pp (A R:Nat→Int) (k:Nat) (t:Int):Int:=sm A R k+(t - fr A k) * (1000000+rt R k)
noncomputable def PP (A R:Nat→Int) (n:Nat) (t:Int):Int:=pp A R (stop A n t) t
theorem PP_eq {A R:Nat→Int} {n:Nat} {t:Int} {k:Nat} (h:AtStop A n t k):PP A R n t=pp A R k t:=by rw [PP,stop_eq h]
def clamp (t:Int):Int:=if t < 0 then 0 else if 4294967296 < t then 4294967296 else t
theorem clamp_lo (t:Int):0≤clamp t:=by unfold clamp;split <;> (try split) <;> omega
theorem clamp_hi (t:Int):clamp t≤4294967296:=by unfold clamp;split <;> (try split) <;> omega
theorem clamp_id {t:Int} (h:0≤t) (h':t≤4294967296):clamp t=t:=by unfold clamp;split <;> (try split) <;> omega
noncomputable def Loc (A R:Nat→Int) (n:Nat) (t:Int):Int:=PP A R n (clamp t) / 1000000
structure GoodP (n:Nat) (A R:Nat→Int):Prop where
 len:n≤64
 at_:∀ i,i < n→0≤A i∧A i≤4294967296
 rate:∀ i,i < n→-20000≤R i∧R i≤20000
 up:∀ i,i+1 < n→A i < A (i+1)
noncomputable def goodB (n:Nat) (A R:Nat→Int):Bool:=@decide (GoodP n A R) (Classical.propDecidable _)
theorem goodB_true {n:Nat} {A R:Nat→Int} : goodB n A R=true↔GoodP n A R:=by unfold goodB;exact @decide_eq_true_iff _ (Classical.propDecidable _)
theorem goodB_yes {n:Nat} {A R:Nat→Int} (h:GoodP n A R):goodB n A R=true:=goodB_true.2 h
theorem goodB_no {n:Nat} {A R:Nat→Int} (h:¬ GoodP n A R):goodB n A R=false:=by
 cases e:goodB n A R with
 | false=>rfl
 | true=>exact absurd (goodB_true.1 e) h
section
variable {n:Nat} {A R:Nat→Int}
theorem rt_bd (g:GoodP n A R) (k:Nat) (h:k≤n) : -20000≤rt R k∧rt R k≤20000:=by
 cases k with
 | zero=>exact ⟨by simp [rt],by simp [rt]⟩
 | succ k=>exact g.rate k (by omega)
theorem fr_bd (g:GoodP n A R) (k:Nat) (h:k≤n):0≤fr A k∧fr A k≤4294967296:=by
 cases k with
 | zero=>exact ⟨by simp [fr],by simp [fr]⟩
 | succ k=>exact g.at_ k (by omega)
theorem fr_le (g:GoodP n A R) (k:Nat) (h:k < n):fr A k≤A k:=by
 cases k with
 | zero=>exact (g.at_ 0 h).1
 | succ k=>exact Int.le_of_lt (g.up k h)
theorem mul_bd {d c:Int} (h:0≤d) (h1:980000≤c) (h2:c≤1020000):d * 980000≤d * c∧d * c≤d * 1020000 :=
 ⟨Int.mul_le_mul_of_nonneg_left h1 h,Int.mul_le_mul_of_nonneg_left h2 h⟩
theorem sm_bd (g:GoodP n A R) (k:Nat) (h:k≤n):fr A k * 980000≤sm A R k∧sm A R k≤fr A k * 1020000:=by
 induction k with
 | zero=>simp [fr,sm]
 | succ k ih =>
   have i:=ih (by omega);have b:=rt_bd g k (by omega);have f:=fr_le g k (by omega);have m:=mul_bd (d:=A k - fr A k) (c:=1000000+rt R k) (by omega) (by omega) (by omega)
   show A k * 980000≤sm A R k+(A k - fr A k) * (1000000+rt R k)∧sm A R k+(A k - fr A k) * (1000000+rt R k)≤A k * 1020000
   generalize (A k - fr A k) * (1000000+rt R k)=z at m ⊢
   omega
theorem pp_bd (g:GoodP n A R) (k:Nat) (h:k≤n) (t:Int) (ht:fr A k≤t):t * 980000≤pp A R k t∧pp A R k t≤t * 1020000:=by
 have i:=sm_bd g k h;have b:=rt_bd g k h;have m:=mul_bd (d:=t - fr A k) (c:=1000000+rt R k) (by omega) (by omega) (by omega);unfold pp;generalize (t - fr A k) * (1000000+rt R k)=z at m ⊢
 omega
theorem stop_fr {t:Int} {k:Nat} (h0:0≤t) (h:AtStop A n t k):fr A k≤t:=by
 cases k with
 | zero=>exact h0
 | succ k=>exact Int.le_of_lt (h.2.1 k (by omega))
theorem PP_bd (g:GoodP n A R) (t:Int) (h0:0≤t):t * 980000≤PP A R n t∧PP A R n t≤t * 1020000:=by
 have s:=stop_at A n t;exact pp_bd g _ s.1 t (stop_fr h0 s)
theorem PP_succ (g:GoodP n A R) (t:Int):∃ c,980000≤c∧c≤1020000∧PP A R n (t+1)=PP A R n t+c:=by
 have s:=stop_at A n t;generalize hk:stop A n t=k at s;obtain ⟨s1,s2,s3⟩:=s;rw [PP_eq ⟨s1,s2,s3⟩]
 by_cases hn:k < n∧A k < t+1
 ·obtain ⟨hn,ha⟩:=hn
  have e:A k=t:=by have:=s3 hn;omega
  have st:AtStop A n (t+1) (k+1):=by
   refine ⟨hn,fun i hi=>?_,fun h=>?_⟩
   ·by_cases c:i=k
    ·subst c;exact ha
    ·have:=s2 i (by omega);omega
   ·have:=g.up k h;omega
  rw [PP_eq st];have b:=g.rate k hn;refine ⟨1000000+R k,by omega,by omega,?_⟩
  show sm A R k+(A k - fr A k) * (1000000+rt R k)+(t+1 - A k) * (1000000+R k)=sm A R k+(t - fr A k) * (1000000+rt R k)+(1000000+R k)
  rw [e,show t+1 - t=1 by omega,Int.one_mul]
 ·have st:AtStop A n (t+1) k:=by
   refine ⟨s1,fun i hi=>?_,fun h=>?_⟩
   ·have:=s2 i hi;omega
   ·have:=s3 h;omega
  rw [PP_eq st];have b:=rt_bd g k s1;refine ⟨1000000+rt R k,by omega,by omega,?_⟩;unfold pp;rw [show t+1 - fr A k=(t - fr A k)+1 by omega,Int.add_mul,Int.one_mul]
  omega
theorem PP_zero (g:GoodP n A R):PP A R n 0=0:=by have:=PP_bd g 0 (by decide);omega
theorem PP_add (g:GoodP n A R) (t:Int) (d:Nat):PP A R n t+980000 * d≤PP A R n (t+d)∧PP A R n (t+d)≤PP A R n t+1020000 * d:=by
 induction d with
 | zero=>simp
 | succ d ih =>
   obtain ⟨c,c1,c2,e⟩:=PP_succ g (t+d);rw [show t+((d+1:Nat):Int)=t+d+1 by omega,e]
   omega
theorem PP_mono (g:GoodP n A R) {t u:Int} (h:t≤u):PP A R n t≤PP A R n u:=by
 have:=(PP_add g t (u - t).toNat).1;rw [show t+((u - t).toNat:Int)=u by omega] at this
 omega
theorem clamp_mono {t u:Int} (h:t≤u):clamp t≤clamp u:=by unfold clamp;repeat' split <;> omega
theorem Loc_mono (g:GoodP n A R) {t u:Int} (h:t≤u):Loc A R n t≤Loc A R n u:=by
 unfold Loc;have:=PP_mono g (clamp_mono h)
 omega
theorem Loc_bd (g:GoodP n A R) (t:Int) (h0:0≤t) (h1:t≤4294967296):Loc A R n t≤t+t / 50∧t - t / 50 - 1≤Loc A R n t:=by
 unfold Loc;rw [clamp_id h0 h1];have:=PP_bd g t h0
 omega
end
structure IsG (A R:Nat→Int) (n:Nat) (m g:Int):Prop where
 lo:0≤g
 hi:g≤4294967296
 before:∀ t,0≤t→t < g→Loc A R n t < m
 there:g < 4294967296→m≤Loc A R n g
theorem IsG.uniq {A R:Nat→Int} {n:Nat} {m g k:Int} (h:IsG A R n m g) (i:IsG A R n m k):g=k:=by
 have a:=h.lo;have b:=h.hi;have c:=i.lo;have d:=i.hi
 rcases Int.lt_trichotomy g k with e | e | e
 ·have x:=h.there (by omega);have y:=i.before g a e;omega
 ·exact e
 ·have x:=i.there (by omega);have y:=h.before k c e;omega
theorem first_or (f:Int→Int) (m:Int) (N:Nat):(∃ g:Int,0≤g∧g < N∧(∀ t,0≤t→t < g→f t < m)∧m≤f g)∨(∀ t:Int,0≤t→t < N→f t < m):=by
 induction N with
 | zero=>exact .inr fun t h h'=>by omega
 | succ N ih =>
   rcases ih with ⟨g,g0,g1,g2,g3⟩ | h
   ·exact .inl ⟨g,g0,by omega,g2,g3⟩
   ·by_cases c:f N < m
    ·refine .inr fun t t0 t1=>?_
     by_cases e:t=N
     ·subst e;exact c
     ·exact h t t0 (by omega)
    ·exact .inl ⟨N,by omega,by omega,h,by omega⟩
theorem IsG.ex (A R:Nat→Int) (n:Nat) (m:Int):∃ g,IsG A R n m g:=by
 generalize hN:(4294967296:Int).toNat=N;have e:(N:Int)=4294967296:=by omega
 rcases first_or (Loc A R n) m N with ⟨g,g0,g1,g2,g3⟩ | h
 ·exact ⟨g,g0,by omega,g2,fun _=>g3⟩
 ·exact ⟨4294967296,by omega,by omega,fun t t0 t1=>h t t0 (by omega),fun h=>by omega⟩
noncomputable def Glo (A R:Nat→Int) (n:Nat) (m:Int):Int:=(IsG.ex A R n m).choose
theorem Glo_is (A R:Nat→Int) (n:Nat) (m:Int):IsG A R n m (Glo A R n m):=(IsG.ex A R n m).choose_spec
theorem Glo_eq {A R:Nat→Int} {n:Nat} {m g:Int} (h:IsG A R n m g):Glo A R n m=g:=(Glo_is A R n m).uniq h
theorem IsG.of_meet {A R:Nat→Int} {n:Nat} {m g:Int} (h0:0≤g) (h1:g≤4294967296) (hl:∀ t,0≤t→t < g→Loc A R n t < m) (hh:g < 4294967296→m≤Loc A R n g):IsG A R n m g:=⟨h0,h1,hl,hh⟩
end Go.Proofs.YtpkipilggkbkeaaGreatDoor.Tk
namespace Go.Proofs.YtpkipilggkbkeaaGreatDoor.Sp
open Go.RowKit
abbrev S2:=Int×Int
def fr (l:List S2) (i:Nat):Int:=(l.getD i (0,0)).1
def tp (l:List S2) (i:Nat):Int:=(l.getD i (0,0)).2
def flat:List S2→List Value
 | []=>[]
 | s :: r=>.int .i64 s.1 :: .int .i64 s.2 :: flat r
theorem flat_length:∀ l:List S2,(flat l).length=l.length * 2
 | []=>rfl
 | s :: r=>by simp [flat,flat_length r];omega
theorem flat_append:∀ a b:List S2,flat (a ++ b)=flat a ++ flat b
 | [],_=>rfl
 | s :: r,b=>by simp [flat,flat_append r b]
theorem flat_one (l:List S2):∀ u∈flat l,u.oneCell'=true:=by
 induction l with
 | nil=>simp [flat]
 | cons s r ih =>
   intro u hu
   simp [flat] at hu
   rcases hu with rfl | rfl | hu
   ·rfl
   ·rfl
   ·exact ih u hu
theorem flat_get:∀ (l:List S2) (i:Nat),i < l.length→(flat l)[i * 2]? = some (.int .i64 (fr l i))∧(flat l)[i * 2+1]? = some (.int .i64 (tp l i))
 | s :: r,0,_=>⟨rfl,rfl⟩
 | s :: r,i+1,h=>by
   have ih:=flat_get r i (by simpa using h);have e:(i+1) * 2=i * 2+1+1:=by omega
   rw [e];exact ih
def At (w:World) (b off:Nat) (l:List S2):Prop:=∀ i,i < l.length→w.cell? ⟨b,off+i * 2,none⟩=some (.int .i64 (fr l i))∧w.cell? ⟨b,off+i * 2+1,none⟩=some (.int .i64 (tp l i))
def Sp (w:World) (v:Value) (l:List S2):Prop:=∃ a cap,v = .slice a l.length cap∧l.length≤cap∧cap≤maxLen∧(0 < l.length→∃ b off,a=some ⟨b,off,none⟩∧At w b off l)
def Own (w:World) (B E:Nat) (v:Value) (l:List S2):Prop:=w.ownsRow B E 2 v l.length (flat l)
theorem At.below {w w':World} {b off:Nat} {l:List S2} (h:At w b off l) (hb:Below w.heap.size w w'):At w' b off l:=fun i hi=>by
 obtain ⟨c1,c2⟩:=h i hi;exact ⟨(hb.cell (World.block_lt_of_cell? _ _ c1)).trans c1,(hb.cell (World.block_lt_of_cell? _ _ c2)).trans c2⟩
theorem Sp.below {w w':World} {v:Value} {l:List S2} (h:Sp w v l) (hb:Below w.heap.size w w'):Sp w' v l:=by
 obtain ⟨a,cap,e,h1,h2,h3⟩:=h;exact ⟨a,cap,e,h1,h2,fun hp=>by obtain ⟨b,off,ea,hA⟩:=h3 hp;exact ⟨b,off,ea,hA.below hb⟩⟩
theorem Sp.slice {w:World} {v:Value} {l:List S2} (h:Sp w v l):∃ a cap,v = .slice a l.length cap∧cap≤maxLen:=by
 obtain ⟨a,cap,e,_,h2,_⟩:=h;exact ⟨a,cap,e,h2⟩
theorem Own.nil (w:World) (B E:Nat):Own w B E (.slice none 0 0) []:=World.ownsRow_nil _ _ _ _
theorem Own.made (w:World) (B E:Nat) (hB:B≤w.heap.size):Own (w.alloc (.cells #[] E)) B E (.slice (some ⟨w.heap.size,0,none⟩) 0 0) [] :=
 World.ownsRow_made w #[] 0 hB (by unfold maxLen;omega) (by simp)
theorem Own.sp {w:World} {B E:Nat} {v:Value} {l:List S2} (h:Own w B E v l):Sp w v l:=by
 have hc:=fun g hg j u=>World.ownsRow.cells h (g:=g) hg j u;obtain ⟨_,h⟩:=h
 rcases h with ⟨rfl,h0⟩ | ⟨g,cap,cur,rfl,_,_,h1,h2,_⟩
 ·exact ⟨none,0,by rw [h0],by omega,by unfold maxLen;omega,fun h=>by omega⟩
 ·refine ⟨_,cap,rfl,h1,h2,fun _=>⟨g,0,rfl,fun i hi=>?_⟩⟩
  obtain ⟨g1,g2⟩:=flat_get l i hi;have c1:=hc g rfl _ _ g1;have c2:=hc g rfl _ _ g2;simp only [Addr.add_lit] at c1 c2;exact ⟨c1,by rw [← Nat.add_assoc] at c2;exact c2⟩
theorem Own.form {w:World} {B E:Nat} {v:Value} {l:List S2} (h:Own w B E v l) (hl:0 < l.length):∃ g cap,v = .slice (some ⟨g,0,none⟩) l.length cap∧B≤g∧g < w.heap.size∧l.length≤cap∧cap≤maxLen∧w.frozen? ⟨g,0,none⟩=false ∧
 (∀ i,i < l.length→w.cell? ⟨g,i * 2,none⟩=some (.int .i64 (fr l i))∧w.cell? ⟨g,i * 2+1,none⟩=some (.int .i64 (tp l i))∧w.frozen? ⟨g,i * 2,none⟩=false∧w.frozen? ⟨g,i * 2+1,none⟩=false):=by
 have hc:=fun g hg j u=>World.ownsRow.cells h (g:=g) hg j u;obtain ⟨_,h⟩:=h
 rcases h with ⟨_,h0⟩ | ⟨g,cap,cur,rfl,hB,hh,h1,h2,_⟩
 ·omega
 ·refine ⟨g,cap,rfl,hB,lt_of_block hh,h1,h2,by simp [World.frozen?,hh],fun i hi=>?_⟩
  obtain ⟨g1,g2⟩:=flat_get l i hi;have c1:=hc g rfl _ _ g1;have c2:=hc g rfl _ _ g2;simp only [Addr.add_lit,Nat.zero_add] at c1 c2;exact ⟨c1,c2,by simp [World.frozen?,hh],by simp [World.frozen?,hh]⟩
theorem Own.slice {w:World} {B E:Nat} {v:Value} {l:List S2} (h:Own w B E v l):∃ a cap,v = .slice a l.length cap∧l.length≤cap∧cap≤maxLen:=by
 obtain ⟨_,h⟩:=h
 rcases h with ⟨rfl,h0⟩ | ⟨g,cap,cur,rfl,_,_,h1,h2,_⟩
 ·exact ⟨none,0,by rw [h0],by omega,by unfold maxLen;omega⟩
 ·exact ⟨_,_,rfl,h1,h2⟩
theorem Own.alloc {w:World} {B E:Nat} {v:Value} {l:List S2} (h:Own w B E v l) (o:Obj):Own (w.alloc o) B E v l:=World.ownsRow.alloc h o
theorem Own.draw {w:World} {B E:Nat} {v:Value} {l:List S2} (h:Own w B E v l) (n:Nat):Own (w.drewN n) B E v l:=h
theorem Own.keep {w w':World} {B E:Nat} {v:Value} {l:List S2} (h:Own w B E v l) (hb:Below w.heap.size w w'):Own w' B E v l:=by
 obtain ⟨h1,h2⟩:=h;refine ⟨h1,?_⟩
 rcases h2 with h2 | ⟨g,cap,cur,e,hB,hh,r⟩
 ·exact .inl h2
 ·exact .inr ⟨g,cap,cur,e,hB,(hb.block g (lt_of_block hh)).trans hh,r⟩
theorem heap_setCell_same {w:World} {g j:Nat} {cur:Array Value} {E:TypeId} (hh:w.heap[g]? = some (.cells cur E (0,0))) (u:Value):(w.setCell ⟨g,j,none⟩ u).heap[g]? = some (.cells (cur.setIfInBounds j u) E (0,0)):=by
 have hlt:=lt_of_block hh;have h':w.heap[g] = .cells cur E (0,0):=by simpa [Array.getElem?_eq_getElem hlt] using hh
 show (w.heap.modify g _)[g]? = _
 rw [Array.getElem?_eq_getElem (by simpa using hlt),Array.getElem_modify_self,h']
 rfl
theorem flat_set:∀ (l:List S2) (i:Nat) (x:Int),i < l.length→(flat l).set (i * 2+1) (.int .i64 x)=flat (l.set i (fr l i,x))
 | s :: r,0,x,_=>rfl
 | s :: r,i+1,x,h=>by
   have ih:=flat_set r i x (by simpa using h);have e:(i+1) * 2+1=(i * 2+1)+1+1:=by omega
   rw [e]
   show Value.int .i64 s.1 :: Value.int .i64 s.2 :: (flat r).set (i * 2+1) (.int .i64 x)=_
   rw [ih]
   rfl
theorem Own.set {w:World} {B E g cap:Nat} {l:List S2} (h:Own w B E (.slice (some ⟨g,0,none⟩) l.length cap) l) (i:Nat) (hi:i < l.length) (x:Int) :
 Own (w.setCell ⟨g,i * 2+1,none⟩ (.int .i64 x)) B E (.slice (some ⟨g,0,none⟩) l.length cap) (l.set i (fr l i,x)):=by
 obtain ⟨h1,h2⟩:=h;refine ⟨by rw [flat_length],?_⟩
 rcases h2 with ⟨e,_⟩ | ⟨g',cap',cur,e,hB,hh,k1,k2,k3,k4⟩
 ·simp at e
 ·injection e with e1 e2 e3
  injection e1 with e1;injection e1 with e1;subst e1 e3;refine .inr ⟨_,_,_,by rw [List.length_set],hB,heap_setCell_same hh _,by rw [List.length_set];exact k1,k2,by simp [k3],?_⟩;rw [← flat_set l i x hi,← k4,List.length_set]
  simp [List.take_set]
theorem Own.push {w':World} {B E:Nat} {v':Value} {l:List S2} {s:S2} (h:w'.ownsRow B E 2 v' (l.length+1) (flat l ++ [.int .i64 s.1,.int .i64 s.2])):Own w' B E v' (l ++ [s]):=by
 show w'.ownsRow B E 2 v' (l ++ [s]).length (flat (l ++ [s]))
 rw [flat_append,List.length_append];exact h
end Go.Proofs.YtpkipilggkbkeaaGreatDoor.Sp
namespace Go.Proofs.YtpkipilggkbkeaaGreatDoor.Wi
open Sp
theorem ltge (a b:Int):a < b∨b≤a:=by omega
def Low (l:List S2) (t:Int):Prop:=∃ s∈l,s.1≤t∧t < s.2
def inB (t:Int) (s:S2):Bool:=decide (s.1≤t) && decide (t < s.2)
def lowB (l:List S2) (t:Int):Bool:=l.any (inB t)
theorem lowB_iff {l:List S2} {t:Int} : lowB l t=true↔Low l t:=by
 simp [lowB,Low,inB,List.any_eq_true]
theorem lowB_false {l:List S2} {t:Int} : lowB l t=false↔¬ Low l t:=by
 rw [← lowB_iff];simp
def Plain (l:List S2):Prop:=(∀ s∈l,s.1 < s.2)∧l.Pairwise (fun a b=>a.2 < b.1)
theorem mem_fr {l:List S2} {i:Nat} (h:i < l.length):(fr l i,tp l i)∈l:=by
 have e:l.getD i (0,0)=l[i]:=by simp [h]
 show ((l.getD i (0,0)).1,(l.getD i (0,0)).2)∈l
 rw [e];exact List.getElem_mem h
theorem mem_iff {l:List S2} {s:S2} : s∈l↔∃ i,i < l.length∧fr l i=s.1∧tp l i=s.2:=by
 constructor
 ·intro h
  obtain ⟨i,hi,e⟩:=List.getElem_of_mem h;exact ⟨i,hi,by simp [fr,hi,e],by simp [tp,hi,e]⟩
 ·rintro ⟨i,hi,e1,e2⟩
  have:=mem_fr hi;rw [e1,e2] at this;exact this
theorem low_iff {l:List S2} {t:Int} : Low l t↔∃ i,i < l.length∧fr l i≤t∧t < tp l i:=by
 constructor
 ·rintro ⟨s,hs,h⟩
  obtain ⟨i,hi,e1,e2⟩:=mem_iff.1 hs;exact ⟨i,hi,by omega,by omega⟩
 ·rintro ⟨i,hi,h⟩
  exact ⟨_,mem_fr hi,h⟩
theorem low_append {a b:List S2} {t:Int} : Low (a ++ b) t↔Low a t∨Low b t:=by
 constructor
 ·rintro ⟨s,hs,h⟩
  rcases List.mem_append.1 hs with h' | h'
  ·exact .inl ⟨s,h',h⟩
  ·exact .inr ⟨s,h',h⟩
 ·rintro (⟨s,hs,h⟩ | ⟨s,hs,h⟩)
  ·exact ⟨s,List.mem_append_left _ hs,h⟩
  ·exact ⟨s,List.mem_append_right _ hs,h⟩
theorem low_nil {t:Int} : ¬ Low [] t:=by rintro ⟨s,hs,_⟩;simp at hs
theorem low_cons {s:S2} {r:List S2} {t:Int} : Low (s :: r) t↔(s.1≤t∧t < s.2)∨Low r t:=by
 constructor
 ·rintro ⟨x,hx,h⟩
  rcases List.mem_cons.1 hx with rfl | h'
  ·exact .inl h
  ·exact .inr ⟨x,h',h⟩
 ·rintro (h | ⟨x,hx,h⟩)
  ·exact ⟨s,List.mem_cons_self,h⟩
  ·exact ⟨x,List.mem_cons_of_mem _ hx,h⟩
theorem low_one {s:S2} {t:Int} : Low [s] t↔s.1≤t∧t < s.2:=by
 rw [low_cons];exact ⟨fun h=>h.resolve_right low_nil,.inl⟩
theorem plain_nil:Plain []:=⟨fun s h=>by simp at h,List.Pairwise.nil⟩
theorem plain_snoc {l:List S2} {s:S2} : Plain (l ++ [s])↔Plain l∧s.1 < s.2∧∀ x∈l,x.2 < s.1:=by
 unfold Plain;rw [List.pairwise_append]
 constructor
 ·rintro ⟨h1,h2,_,h3⟩
  exact ⟨⟨fun x hx=>h1 x (List.mem_append_left _ hx),h2⟩,h1 s (by simp),fun x hx=>h3 x hx s (by simp)⟩
 ·rintro ⟨⟨h1,h2⟩,h3,h4⟩
  refine ⟨fun x hx=>?_,h2,List.pairwise_singleton _ _,fun x hx y hy=>?_⟩
  ·rcases List.mem_append.1 hx with h | h
   ·exact h1 x h
   ·simp at h;subst h;exact h3
  ·simp at hy;subst hy;exact h4 x hx
theorem plain_cons {l:List S2} {s:S2} : Plain (s :: l)↔Plain l∧s.1 < s.2∧∀ x∈l,s.2 < x.1:=by
 unfold Plain;rw [List.pairwise_cons]
 constructor
 ·rintro ⟨h1,h2,h3⟩
  exact ⟨⟨fun x hx=>h1 x (List.mem_cons_of_mem _ hx),h3⟩,h1 s List.mem_cons_self,h2⟩
 ·rintro ⟨⟨h1,h2⟩,h3,h4⟩
  refine ⟨fun x hx=>?_,h4,h2⟩
  rcases List.mem_cons.1 hx with rfl | h
  ·exact h3
  ·exact h1 x h
theorem plain_not_to {l:List S2} (h:Plain l):∀ s∈l,¬ Low l s.2:=by
 induction l with
 | nil=>intro s hs;simp at hs
 | cons a r ih =>
   obtain ⟨hp,ha,hr⟩:=plain_cons.1 h
   intro s hs hl
   rw [low_cons] at hl
   rcases List.mem_cons.1 hs with rfl | hs
   ·rcases hl with hl | ⟨x,hx,h1,h2⟩
    ·omega
    ·have:=hr x hx;omega
   ·rcases hl with hl | hl
    ·have:=hr s hs;have:=hp.1 s hs;omega
    ·exact ih hp s hs hl
theorem plain_one:∀ {a b:List S2},Plain a→Plain b→(∀ t,Low a t↔Low b t)→a=b
 | [],[],_,_,_=>rfl
 | [],s :: r,_,hb,h=>by
   obtain ⟨_,h1,_⟩:=plain_cons.1 hb;exact absurd ((h s.1).2 (low_cons.2 (.inl ⟨by omega,h1⟩))) low_nil
 | s :: r,[],ha,_,h=>by
   obtain ⟨_,h1,_⟩:=plain_cons.1 ha;exact absurd ((h s.1).1 (low_cons.2 (.inl ⟨by omega,h1⟩))) low_nil
 | s :: r,s' :: r',ha,hb,h=>by
   obtain ⟨hr,h1,h2⟩:=plain_cons.1 ha;obtain ⟨hr',h1',h2'⟩:=plain_cons.1 hb;have lo:s'.1≤s.1:=by
    obtain ⟨x,hx,hx1,_⟩:=(h s.1).1 (low_cons.2 (.inl ⟨by omega,h1⟩))
    rcases List.mem_cons.1 hx with rfl | hx
    ·exact hx1
    ·have:=h2' x hx;omega
   have lo':s.1≤s'.1:=by
    obtain ⟨x,hx,hx1,_⟩:=(h s'.1).2 (low_cons.2 (.inl ⟨by omega,h1'⟩))
    rcases List.mem_cons.1 hx with rfl | hx
    ·exact hx1
    ·have:=h2 x hx;omega
   have hi:s'.2≤s.2:=by
    rcases ltge s.2 s'.2 with c | c
    ·exact absurd ((h s.2).2 (low_cons.2 (.inl ⟨by omega,c⟩))) (plain_not_to ha s List.mem_cons_self)
    ·exact c
   have hi':s.2≤s'.2:=by
    rcases ltge s'.2 s.2 with c | c
    ·exact absurd ((h s'.2).1 (low_cons.2 (.inl ⟨by omega,c⟩))) (plain_not_to hb s' List.mem_cons_self)
    ·exact c
   have e:s=s':=Prod.ext (by omega) (by omega);subst e;have er:r=r':=plain_one hr hr' fun t=>by
    constructor
    ·intro ht
     obtain ⟨x,hx,hx1,_⟩:=ht;have:=h2 x hx
     rcases low_cons.1 ((h t).1 (low_cons.2 (.inr ⟨x,hx,hx1,by assumption⟩))) with c | c
     ·omega
     ·exact c
    ·intro ht
     obtain ⟨x,hx,hx1,_⟩:=ht;have:=h2' x hx
     rcases low_cons.1 ((h t).2 (low_cons.2 (.inr ⟨x,hx,hx1,by assumption⟩))) with c | c
     ·omega
     ·exact c
   rw [er]
structure JoinInv (S:List S2) (k:Nat) (l:List S2):Prop where
 plain:Plain l
 low:∀ t,Low l t↔Low (S.take k) t
 ahead:∀ x∈l,∀ i,k≤i→i < S.length→x.1≤fr S i
structure Srt (S:List S2):Prop where
 ticks:∀ i,i < S.length→fr S i < tp S i
 up:∀ i j,i≤j→j < S.length→fr S i≤fr S j
theorem take_snoc {S:List S2} {k:Nat} (h:k < S.length):S.take (k+1)=S.take k ++ [(fr S k,tp S k)]:=by
 rw [List.take_succ_eq_append_getElem h];have e:(fr S k,tp S k)=S[k]:=by simp [fr,tp,h]
 rw [e]
theorem JoinInv.zero (S:List S2):JoinInv S 0 []:=⟨plain_nil,fun t=>by simp,fun x hx=>by simp at hx⟩
theorem JoinInv.push {S l:List S2} {k:Nat} (hS:Srt S) (h:JoinInv S k l) (hk:k < S.length) (hl:∀ x∈l,x.2 < fr S k):JoinInv S (k+1) (l ++ [(fr S k,tp S k)]):=by
 refine ⟨plain_snoc.2 ⟨h.plain,hS.ticks k hk,hl⟩,fun t=>?_,fun x hx i h1 h2=>?_⟩
 ·rw [take_snoc hk,low_append,low_append,h.low]
 ·rcases List.mem_append.1 hx with c | c
  ·exact h.ahead x c i (by omega) h2
  ·simp at c;subst c;exact hS.up k i (by omega) h2
theorem JoinInv.grow {S p:List S2} {q:S2} {k:Nat} (h:JoinInv S k (p ++ [q])) (hk:k < S.length) (hl:fr S k≤q.2) (m:Int) (hm:(q.2≤m∧tp S k≤m)∧(m=q.2∨m=tp S k)):JoinInv S (k+1) (p ++ [(q.1,m)]):=by
 obtain ⟨hp,hq,hx⟩:=plain_snoc.1 h.plain;have ha:=h.ahead q (by simp) k (by omega) hk;refine ⟨plain_snoc.2 ⟨hp,by show q.1 < m;omega,hx⟩,fun t=>?_,fun x hx i h1 h2=>?_⟩
 ·have:=h.low t
  rw [low_append,low_one] at this;rw [take_snoc hk,low_append,low_append,low_one,low_one,← this]
  constructor
  ·rintro (c | c)
   ·exact .inl (.inl c)
   ·by_cases d:t < q.2
    ·exact .inl (.inr ⟨c.1,d⟩)
    ·exact .inr ⟨by show fr S k≤t;omega,by show t < tp S k;have:=c.2;simp at this;omega⟩
  ·rintro ((c | c) | c)
   ·exact .inl c
   ·exact .inr ⟨c.1,by show t < m;omega⟩
   ·exact .inr ⟨by show q.1≤t;have:=c.1;simp at this;omega,by show t < m;have:=c.2;simp at this;omega⟩
 ·rcases List.mem_append.1 hx with c | c
  ·exact h.ahead x (List.mem_append_left _ c) i (by omega) h2
  ·simp at c;subst c;exact h.ahead q (by simp) i (by omega) h2
theorem JoinInv.all {S l:List S2} (h:JoinInv S S.length l):Plain l∧∀ t,Low l t↔Low S t:=⟨h.plain,fun t=>by rw [h.low,List.take_length]⟩
structure Up (X l:List S2):Prop where
 plain:Plain l
 low:∀ t,Low l t→Low X t
 rest:∀ t,Low X t→Low l t∨∀ x∈l,x.2 < t
def lastc:List S2→Int
 | []=>-1099511627777
 | [s]=>s.2
 | _ :: s :: r=>lastc (s :: r)
theorem lastc_snoc:∀ (l:List S2) (s:S2),lastc (l ++ [s])=s.2
 | [],_=>rfl
 | [_],_=>rfl
 | _ :: a :: r,s=>lastc_snoc (a :: r) s
theorem lastc_tp:∀ (l:List S2),0 < l.length→lastc l=tp l (l.length - 1)
 | [_],_=>rfl
 | a :: b :: r,_=>by
   have:=lastc_tp (b :: r) (by simp)
   show lastc (b :: r)=_
   rw [this]
   simp [tp]
theorem lastc_le:∀ {l:List S2},Plain l→∀ x∈l,x.2≤lastc l
 | [s],_,x,hx=>by simp at hx;subst hx;exact Int.le_refl _
 | a :: b :: r,h,x,hx=>by
   obtain ⟨h1,h2,h3⟩:=plain_cons.1 h
   show x.2≤lastc (b :: r)
   rcases List.mem_cons.1 hx with rfl | hx
   ·have a1:=h3 b (by simp)
    have a2:=h1.1 b (by simp);have a3:=lastc_le h1 b (by simp)
    omega
   ·exact lastc_le h1 x hx
theorem lastc_mem:∀ {l:List S2},0 < l.length→∃ x∈l,lastc l=x.2
 | [s],_=>⟨s,by simp,rfl⟩
 | a :: b :: r,_=>by
   obtain ⟨x,hx,e⟩:=lastc_mem (l:=b :: r) (by simp);exact ⟨x,List.mem_cons_of_mem _ hx,e⟩
def Cand (X l:List S2) (i:Nat):Prop:=fr X i < tp X i∧¬ Low X (fr X i - 1)∧lastc l < fr X i
structure Near (X:List S2):Prop where
 f0:∀ i,i < X.length→-1099511627776≤fr X i
 f1:∀ i,i < X.length→fr X i≤1099511627776
 t0:∀ i,i < X.length→-1099511627776≤tp X i
 t1:∀ i,i < X.length→tp X i≤1099511627776
theorem Near.low {X:List S2} (h:Near X) {t:Int} (ht:Low X t) : -1099511627776≤t∧t < 1099511627776:=by
 obtain ⟨i,hi,h1,h2⟩:=low_iff.1 ht;have:=h.f0 i hi;have:=h.t1 i hi
 omega
theorem run_begin {X:List S2} (hN:Near X):∀ (n:Nat) (t:Int),(t+1099511627776).toNat≤n→Low X t→∃ c,c≤t∧Low X c∧¬ Low X (c - 1)∧∀ u,c≤u→u≤t→Low X u
 | 0,t,hn,ht=>by
   have:=hN.low ht;refine ⟨t,Int.le_refl _,ht,fun h=>?_,fun u h1 h2=>by rw [show u=t by omega];exact ht⟩;have:=hN.low h
   omega
 | n+1,t,hn,ht=>by
   by_cases h:Low X (t - 1)
   ·have:=hN.low h
    obtain ⟨c,h1,h2,h3,h4⟩:=run_begin hN n (t - 1) (by omega) h;refine ⟨c,by omega,h2,h3,fun u a b=>?_⟩
    by_cases e:u=t
    ·rw [e];exact ht
    ·exact h4 u a (by omega)
   ·exact ⟨t,Int.le_refl _,ht,h,fun u h1 h2=>by rw [show u=t by omega];exact ht⟩
theorem Up.cand {X l:List S2} (hN:Near X) (h:Up X l) {t:Int} (ht:Low X t) (hb:¬ Low l t):∃ i,i < X.length∧Cand X l i∧fr X i≤t:=by
 have beh:=(h.rest t ht).resolve_left hb;obtain ⟨c,h1,h2,h3,h4⟩:=run_begin hN _ t (Nat.le_refl _) ht;obtain ⟨i,hi,a,b⟩:=low_iff.1 h2;have e:fr X i=c:=by
  rcases ltge (fr X i) c with k | k
  ·exact absurd (low_iff.2 ⟨i,hi,by omega,by omega⟩) h3
  ·omega
 refine ⟨i,hi,⟨by omega,by rw [e];exact h3,?_⟩,by omega⟩;rw [e]
 rcases Nat.eq_zero_or_pos l.length with z | z
 ·have:=hN.low h2
  have:l = []:=List.length_eq_zero_iff.1 z;subst this
  show (-1099511627777:Int) < c
  omega
 ·obtain ⟨x,hx,e⟩:=lastc_mem z
  rw [e]
  rcases ltge x.2 c with k | k
  ·exact k
  ·exfalso
   have lx:=h4 x.2 k (by have:=beh x hx;omega)
   rcases h.rest _ lx with q | q
   ·exact plain_not_to h.plain x hx q
   ·have:=q x hx;omega
theorem Up.done {X l:List S2} (hN:Near X) (h:Up X l) (no:∀ i,i < X.length→¬ Cand X l i):∀ t,Low l t↔Low X t:=fun t=>by
 refine ⟨h.low t,fun ht=>Classical.byContradiction fun hb=>?_⟩;obtain ⟨i,hi,c,_⟩:=h.cand hN ht hb;exact no i hi c
theorem Up.push {X l:List S2} (hN:Near X) (h:Up X l) {i:Nat} (hi:i < X.length) (hc:Cand X l i) (least:∀ j,j < X.length→Cand X l j→fr X i≤fr X j) {to:Int} (h1:fr X i≤to) (run:∀ u,fr X i≤u→u < to→Low X u) (hto:¬ Low X to) :
 Up X (l ++ [(fr X i,to)])∧lastc l < to∧lastc (l ++ [(fr X i,to)])=to:=by
 obtain ⟨c1,c2,c3⟩:=hc;have lb:Low X (fr X i):=low_iff.2 ⟨i,hi,by omega,c1⟩;have lt:fr X i < to:=by
  rcases ltge (fr X i) to with k | k
  ·exact k
  ·rw [show to=fr X i by omega] at hto;exact absurd lb hto
 have all:∀ x∈l,x.2 < fr X i:=fun x hx=>by have:=lastc_le h.plain x hx;omega
 refine ⟨⟨plain_snoc.2 ⟨h.plain,lt,all⟩,fun t ht=>?_,fun t ht=>?_⟩,by omega,lastc_snoc _ _⟩
 ·rcases low_append.1 ht with k | k
  ·exact h.low t k
  ·rw [low_one] at k;exact run t k.1 k.2
 ·by_cases hl:Low l t
  ·exact .inl (low_append.2 (.inl hl))
  ·obtain ⟨j,hj,cj,le⟩:=h.cand hN ht hl
   have:=least j hj cj
   by_cases k:t < to
   ·exact .inl (low_append.2 (.inr (low_one.2 ⟨by show fr X i≤t;omega,k⟩)))
   ·right
    intro x hx
    have ne:t≠to:=fun e=>hto (e ▸ ht)
    rcases List.mem_append.1 hx with q | q
    ·have:=all x q;omega
    ·simp at q;subst q;show to < t;omega
def Meets (a b:List S2):Prop:=∃ t,Low a t∧Low b t
end Go.Proofs.YtpkipilggkbkeaaGreatDoor.Wi
namespace Go.Proofs.YtpkipilggkbkeaaGreatDoor.Wi
open Go.RowKit Go.Proofs.YtpkipilggkbkeaaGreatDoor.Sp
theorem ret_bool {a b:Bool} (h:a=b):Ending.returned (.bool a) = .returned (.bool b):=by rw [h]
theorem ret_int {a b:Int} (h:a=b):Ending.returned (.int .i64 a) = .returned (.int .i64 b):=by rw [h]
theorem infoS:(Tryz.prog.info? 105).map (fun i=>(i.zero,i.size,i.bytes))=some (some (.agg #[.int .i64 0,.int .i64 0]),2,16):=by kernel_rfl
theorem addr_zero (a:Addr):a.add 0=a:=by cases a;simp [Addr.add]
theorem push_step {w:World} {ops:Array Oper} {rest:List Oper} {o:Oper} {a:Act} {Q:Exit→Act→World→Prop} (hgd:o.guard=none) (s x:Operand)
 (ho:o.op = .call { callee:=.builtin .append,args:=#[s,x],argTypes:=#[47,47] }) (B:Nat) (v:Value) (l:List S2) (hs:a.eval s=v) (hown:Own w B 105 v l)
 (ad:Addr) (p q:Int) (hx:a.eval x = .slice (some ad) 1 1) (h0:w.cell? ad=some (.int .i64 p)) (h1:w.cell? (ad.add 1)=some (.int .i64 q)) (hlen:l.length < 4398046511104) (hB:B≤w.heap.size)
 (h:∀ v' w',Own w' B 105 v' (l ++ [(p,q)])→Below B w w'→wpList Tryz.prog ops Q rest (a.put o.dst v') w'):wpList Tryz.prog ops Q (o :: rest) a w:=by
 obtain ⟨i0,hi,hz0,hz1,hz2⟩:=info_parts infoS;refine wpList_append_own _ hgd s x 47 ho B 105 i0 (.agg #[.int .i64 0,.int .i64 0]) 2 16 Tryz.underlying47 hi hz0 hz1 hz2 rfl (by decide) v l.length (flat l) hs hown ad 1 1 [.int .i64 p,.int .i64 q] hx rfl ?_ ?_ ?_ ?_ hB ?_
 ·intro j u hj
  match j,hj with
  | 0,hj=>simp at hj;subst hj;rw [addr_zero];exact h0
  | 1,hj=>simp at hj;subst hj;exact h1
  | j+2,hj=>simp at hj
 ·intro u hu
  simp at hu
  rcases hu with rfl | rfl <;> rfl
 ·unfold maxLen;omega
 ·omega
 ·intro v' w' h2 h3 _
  exact h v' w' (Own.push (s:=(p,q)) h2) ((Below.refl B w).grown h3 hB fun k hk=>(World.ownsRow.lt hown k hk).1)
theorem ticks_any (w:World) (a b:Int):Calls Tryz.prog 53 #[.agg #[.int .i64 a,.int .i64 b]] w fun e w'=>e = .returned (.bool (decide (a < b)))∧Below w.heap.size w w':=by
 go_enter Tryz.func53,Tryz.ntmps53
 go_wp2
 go_ret
 exact ⟨rfl,(Below.refl _ _).alloc (Nat.le_refl _) _⟩
theorem nan_any (w:World) (a:Int):Calls Tryz.prog 155 #[.int .i64 a] w fun e w'=>e = .returned (.bool false)∧w=w':=by
 go_enter Tryz.func155,Tryz.ntmps155
 go_wp2
 go_ret
 exact ⟨by simp,rfl⟩
def cmpI (a b:Int):Int:=if a < b then -1 else if b < a then 1 else 0
theorem compare_any (w:World) (a b:Int):Calls Tryz.prog 119 #[.int .i64 a,.int .i64 b] w fun e w'=>e = .returned (.int .i64 (cmpI a b))∧w=w':=by
 by_cases h:a < b
 ·go_enter Tryz.func119,Tryz.ntmps119
  go_wp2_with (go_at_call 155;refine (nan_any _ _).mono ?_;rintro e w' ⟨rfl,rfl⟩)
  go_ret
  exact ⟨ret_int (by simp [cmpI,h]),rfl⟩
 ·by_cases h2:b < a
  ·go_enter Tryz.func119,Tryz.ntmps119
   go_wp2_with (go_at_call 155;refine (nan_any _ _).mono ?_;rintro e w' ⟨rfl,rfl⟩)
   go_ret
   exact ⟨ret_int (by simp [cmpI,h,h2]),rfl⟩
  ·go_enter Tryz.func119,Tryz.ntmps119
   go_wp2_with (go_at_call 155;refine (nan_any _ _).mono ?_;rintro e w' ⟨rfl,rfl⟩)
   go_ret
   exact ⟨ret_int (by rw [cmpI,if_neg (by omega),if_neg (by omega)]),rfl⟩
def Made (w:World) (P:List S2→Prop) (e:Ending) (w':World):Prop:=∃ v x,e = .returned v∧Own w' w.heap.size 105 v x∧P x∧Below w.heap.size w w'
end Go.Proofs.YtpkipilggkbkeaaGreatDoor.Wi
namespace Go.Proofs.YtpkipilggkbkeaaGreatDoor.Wi
open Go.RowKit Go.Proofs.YtpkipilggkbkeaaGreatDoor.Sp
theorem rlow_any (w:World) (v:Value) (l:List S2) (h:Sp w v l) (t:Int):Calls Tryz.prog 86 #[v,.int .i64 t] w fun e w'=>e = .returned (.bool (lowB l t))∧w=w':=by
 obtain ⟨a,cap,rfl,h1,h2,h3⟩:=h;have H3:=Lib.hid h3;clear h3;have hy:∀ i,i < l.length→(fr l i≤t∧t < tp l i)→lowB l t=true:=fun i hi hh=>lowB_iff.2 (low_iff.2 ⟨i,hi,hh⟩);have hno:(∀ i,i < l.length→¬ (fr l i≤t∧t < tp l i))→lowB l t=false:=fun hh=>lowB_false.2 fun hl=>by
  obtain ⟨i,hi,k⟩:=low_iff.1 hl;exact hh i hi k
 have HY:=Lib.hid hy;have HO:=Lib.hid hno;clear hy hno;generalize hr:lowB l t=r at *;clear hr;generalize hn:l.length=n at *;have HN:=Lib.hid hn;clear hn;unfold maxLen at h2
 go_enter Tryz.func86,Tryz.ntmps86
 go_wp2
 go_loop [5] (fun i=>∃ k:Nat,k≤n∧i = .int .i64 k∧Hid (∀ j,j < k→¬ (fr l j≤t∧t < tp l j))) (fun i=>n - (intOf i).toNat)
 case atStart=>exact ⟨0,Nat.zero_le _,rfl,fun j hj=>by omega⟩
 case round =>
  obtain ⟨k,hk,rfl,hs⟩:=hrel
  by_cases hlt:k < n
  ·obtain ⟨b,off,rfl,hA⟩:=H3.out (by omega)
   obtain ⟨c1,c2⟩:=hA k (by have:=HN.out;omega);have HA:=Lib.hid hA;clear hA;have step:¬ (fr l k≤t∧t < tp l k)→Hid (∀ j,j < k+1→¬ (fr l j≤t∧t < tp l j)):=fun hx j hj=>by
    by_cases e:j=k
    ·rw [e];exact hx
    ·exact hs.out j (by omega)
   have ST:=Lib.hid step;clear step
   by_cases p1:fr l k≤t
   ·by_cases p2:t < tp l k
    ·have hr:=HY.out k hlt ⟨p1,p2⟩
     have HR:=Lib.hid hr;clear hr;go_wp2
     go_ret
     exact ⟨ret_bool HR.out.symm,rfl⟩
    ·go_wp2
     go_round
     case rel=>exact ⟨k+1,by omega,by go_num,ST.out (by omega)⟩
     case measure=>simp [intOf];omega
   ·go_wp2
    go_round
    case rel=>exact ⟨k+1,by omega,by go_num,ST.out (by omega)⟩
    case measure=>simp [intOf];omega
  ·obtain rfl:k=n:=by omega
   have hr:=HO.out hs.out;have HR:=Lib.hid hr;clear hr;go_wp2
   go_ret
   exact ⟨ret_bool HR.out.symm,rfl⟩
theorem neqS (a b c d:Int) (w:World):(binOp .neq 105 (.agg #[.int .i64 a,.int .i64 b]) (.agg #[.int .i64 c,.int .i64 d])).run Tryz.prog w = .ok (.bool (!(a == c && b == d))) w:=by
 have u3:=Tryz.underlying3;have a3:=Tryz.isAgg3;have z3:=Tryz.sizeOf3;have hS:Tryz.prog.underlying 105=some (.struct (Tryz.prog.fieldsOf 105)):=by kernel_rfl
 have hp:Tryz.prog.stoodInHeld 105=false:=by kernel_rfl
 rw [run_neq_struct,show (10000:Nat)=9999+1 from rfl,run_equalIn_agg w 9999 105 _ _ hS hp];simp only [Program.fieldsOf,Tryz.underlying105];go_simp
 by_cases h1:a=c <;> by_cases h2:b=d <;> simp [h1,h2]
def sameB (a b:List S2):Bool:=decide (a=b)
theorem same_yes {a b:List S2} (h:a.length=b.length) (hh:∀ i,i < a.length→fr a i=fr b i∧tp a i=tp b i):a=b:=by
 refine List.ext_getElem h fun i h1 h2=>?_;have:=hh i h1;simp only [fr,tp,List.getD_eq_getElem?_getD,List.getElem?_eq_getElem h1,List.getElem?_eq_getElem h2,Option.getD_some] at this;exact Prod.ext this.1 this.2
theorem fr_of_eq {x y:List S2} (h:x=y) (i:Nat):fr x i=fr y i∧tp x i=tp y i:=by rw [h];exact ⟨rfl,rfl⟩
set_option maxHeartbeats 400000 in
theorem same_any (w:World) (v u:Value) (x y:List S2) (hx:Sp w v x) (hy:Sp w u y):Calls Tryz.prog 14 #[v,u] w fun e w'=>e = .returned (.bool (sameB x y))∧Below w.heap.size w w':=by
 obtain ⟨a,cap,rfl,h1,h2,h3⟩:=hx;obtain ⟨a',cap',rfl,h1',h2',h3'⟩:=hy;have H3:=Lib.hid h3;have H3':=Lib.hid h3';clear h3 h3';have hyes:x.length=y.length→(∀ i,i < x.length→fr x i=fr y i∧tp x i=tp y i)→sameB x y=true:=fun h hh=>decide_eq_true (same_yes h hh);have hno:∀ i,¬ (fr x i=fr y i∧tp x i=tp y i)→sameB x y=false:=fun i hh=>decide_eq_false fun e=>hh (fr_of_eq e i);have hlen:x.length≠y.length→sameB x y=false:=fun hh=>decide_eq_false fun e=>hh (by rw [e]);have HY:=Lib.hid hyes;have HO:=Lib.hid hno;have HL:=Lib.hid hlen;have NEQ:=Lib.hid neqS;clear hyes hno hlen;generalize hr:sameB x y=r at *;clear hr;generalize hn:x.length=n at *;generalize hm:y.length=m at *;have HN:=Lib.hid hn;have HM:=Lib.hid hm;clear hn hm;unfold maxLen at h2 h2'
 by_cases hnm:n=m
 ·subst hnm
  go_enter Tryz.func14,Tryz.ntmps14
  go_wp2
  go_loopw [5] (fun i wr=>∃ k:Nat,k≤n∧i = .int .i64 k∧Hid (∀ j,j < k→fr x j=fr y j∧tp x j=tp y j)∧Below w.heap.size w wr) (fun i _=>n - (intOf i).toNat)
  case atStart=>exact ⟨0,Nat.zero_le _,rfl,fun j hj=>by omega,Below.refl _ _⟩
  case round =>
   obtain ⟨k,hk,rfl,hs,hb⟩:=hrel
   by_cases hlt:k < n
   ·obtain ⟨b,off,rfl,hA⟩:=H3.out (by omega)
    obtain ⟨b',off',rfl,hA'⟩:=H3'.out (by omega);obtain ⟨c1,c2⟩:=hA k (by have:=HN.out;omega);obtain ⟨c1',c2'⟩:=hA' k (by have:=HM.out;omega);have HA:=Lib.hid hA;have HA':=Lib.hid hA';clear hA hA';have d1:=(hb.cell (World.block_lt_of_cell? _ _ c1)).trans c1;have d2:=(hb.cell (World.block_lt_of_cell? _ _ c2)).trans c2;have d1':=(hb.cell (World.block_lt_of_cell? _ _ c1')).trans c1';have d2':=(hb.cell (World.block_lt_of_cell? _ _ c2')).trans c2';clear c1 c2 c1' c2';have nq:=fun w=>NEQ.out (fr x k) (tp x k) (fr y k) (tp y k) w
    by_cases he:fr x k=fr y k∧tp x k=tp y k
    ·have hv:(!(fr x k == fr y k && tp x k == tp y k))=false:=by simp [he.1,he.2]
     rw [hv] at nq;have HE:=Lib.hid he;clear hv he;have hlti:(k:Int) < (n:Int):=by omega
     go_wp2
     go_quiet (fail)
     go_wp2
     go_roundw
     case rel=>exact ⟨k+1,by omega,by go_num,(fun j hj=>by
      by_cases e:j=k
      ·rw [e];exact HE.out
      ·exact hs.out j (by omega)),below_drewN hb _⟩
     case measure=>simp [intOf];omega
    ·have hv:(!(fr x k == fr y k && tp x k == tp y k))=true:=by
      by_cases q:fr x k=fr y k
      ·have:¬ tp x k=tp y k:=fun q'=>he ⟨q,q'⟩
       simp [this]
      ·simp [q]
     rw [hv] at nq;have hr:=HO.out k he;have HR:=Lib.hid hr;clear hv he hr;go_wp2
     go_quiet (fail)
     go_wp2
     go_ret
     exact ⟨ret_bool HR.out.symm,below_drewN hb _⟩
   ·obtain rfl:k=n:=by omega
    have hr:=HY.out (by trivial) hs.out;have HR:=Lib.hid hr;clear hr;go_wp2
    go_ret
    exact ⟨ret_bool HR.out.symm,hb⟩
 ·have hr:=HL.out hnm
  have HR:=Lib.hid hr;clear hr;have hnm':((n:Int) == (m:Int))=false:=by simp;omega
  go_enter Tryz.func14,Tryz.ntmps14
  go_wp2
  go_ret
  exact ⟨ret_bool HR.out.symm,Below.refl _ _⟩
noncomputable def meetB (a b:List S2):Bool:=@decide (Meets a b) (Classical.propDecidable _)
theorem meetB_true {a b:List S2} (h:Meets a b):meetB a b=true:=by unfold meetB;exact @decide_eq_true _ (Classical.propDecidable _) h
theorem meetB_false {a b:List S2} (h:¬ Meets a b):meetB a b=false:=by unfold meetB;exact @decide_eq_false _ (Classical.propDecidable _) h
theorem at_bool' {P:Program} {f:Nat} {args:Array Value} {w:World} {a b:Bool} (e:a=b) (c:Calls P f args w fun e w'=>e = .returned (.bool a)∧w=w'):Calls P f args w fun e w'=>e = .returned (.bool b)∧w=w':=by rw [← e];exact c
theorem at_bool {P:Program} {f:Nat} {args:Array Value} {w:World} {B:Nat} {a b:Bool} (e:a=b) (c:Calls P f args w fun e w'=>e = .returned (.bool a)∧Below B w w'):Calls P f args w fun e w'=>e = .returned (.bool b)∧Below B w w':=by rw [← e];exact c
end Go.Proofs.YtpkipilggkbkeaaGreatDoor.Wi
namespace Go.Proofs.YtpkipilggkbkeaaGreatDoor.Wi
open Go.RowKit Go.Proofs.YtpkipilggkbkeaaGreatDoor.Sp
def PlainOf (X l:List S2):Prop:=Plain l∧∀ t,Low l t↔Low X t
structure Scan (X l:List S2) (k:Nat) (any:Bool) (best:Int):Prop where
 no:any=false→∀ i,i < k→¬ Cand X l i
 yes:any=true→(∃ i,i < k∧Cand X l i∧fr X i=best)∧∀ i,i < k→Cand X l i→best≤fr X i
theorem Scan.zero (X l:List S2):Scan X l 0 false 0:=⟨fun _ i h=>by omega,fun h=>by simp at h⟩
theorem Scan.skip {X l:List S2} {k:Nat} {any:Bool} {best:Int} (h:Scan X l k any best) (hc:¬ Cand X l k):Scan X l (k+1) any best:=by
 refine ⟨fun a i hi=>?_,fun a=>?_⟩
 ·by_cases e:i=k
  ·rw [e];exact hc
  ·exact h.no a i (by omega)
 ·obtain ⟨⟨i,h1,h2,h3⟩,h4⟩:=h.yes a
  refine ⟨⟨i,by omega,h2,h3⟩,fun j hj cj=>?_⟩
  by_cases e:j=k
  ·rw [e] at cj;exact absurd cj hc
  ·exact h4 j (by omega) cj
theorem Scan.over {X l:List S2} {k:Nat} {best:Int} (h:Scan X l k true best) (hle:best≤fr X k):Scan X l (k+1) true best:=by
 refine ⟨fun a=>by simp at a,fun a=>?_⟩;obtain ⟨⟨i,h1,h2,h3⟩,h4⟩:=h.yes a;refine ⟨⟨i,by omega,h2,h3⟩,fun j hj cj=>?_⟩
 by_cases e:j=k
 ·rw [e];exact hle
 ·exact h4 j (by omega) cj
theorem Scan.first {X l:List S2} {k:Nat} {best:Int} (h:Scan X l k false best) (hc:Cand X l k):Scan X l (k+1) true (fr X k):=by
 refine ⟨fun a=>by simp at a,fun _=>⟨⟨k,by omega,hc,rfl⟩,fun j hj cj=>?_⟩⟩
 by_cases e:j=k
 ·rw [e];exact Int.le_refl _
 ·exact absurd cj (h.no rfl j (by omega))
theorem Scan.less {X l:List S2} {k:Nat} {best:Int} (h:Scan X l k true best) (hc:Cand X l k) (hlt:fr X k < best):Scan X l (k+1) true (fr X k):=by
 refine ⟨fun a=>by simp at a,fun _=>⟨⟨k,by omega,hc,rfl⟩,fun j hj cj=>?_⟩⟩
 by_cases e:j=k
 ·rw [e];exact Int.le_refl _
 ·have:=(h.yes rfl).2 j (by omega) cj;omega
structure RRel (w:World) (X:List S2) (v:Value) (l:List S2) (wr:World):Prop where
 own:Own wr w.heap.size 105 v l
 up:Up X l
 len:(l.length:Int)≤lastc l+1099511627777
 top:lastc l≤1099511627776
 bel:Below w.heap.size w wr
theorem RRel.out {w wr:World} {X l:List S2} {v:Value} (h:RRel w X v l wr):∃ a cap,v = .slice a l.length cap∧l.length≤cap∧cap≤maxLen∧((l.length=0∧lastc l = -1099511627777)∨∃ m g,l.length=m+1∧a=some ⟨g,0,none⟩∧wr.cell? ⟨g,m * 2+1,none⟩=some (.int .i64 (lastc l))):=by
 rcases Nat.eq_zero_or_pos l.length with z | z
 ·obtain ⟨a,cap,e,h1,h2⟩:=h.own.slice
  have:l = []:=List.length_eq_zero_iff.1 z;exact ⟨a,cap,e,h1,h2,.inl ⟨z,by rw [this];rfl⟩⟩
 ·obtain ⟨g,cap,e,_,_,h1,h2,_,hc⟩:=h.own.form z
  refine ⟨_,cap,e,h1,h2,.inr ⟨l.length - 1,g,by omega,rfl,?_⟩⟩;rw [lastc_tp l z];exact (hc (l.length - 1) (by omega)).2.1
theorem rrel_push {w wr w1:World} {X l:List S2} {v v':Value} {any:Bool} {best to:Int} (hN:Near X) (h:RRel w X v l wr) (hs:Scan X l X.length any best) (ha:any=true) (h1:best≤to) (h2:to≤1099511627776) (run:∀ u,best≤u→u < to→Low X u) (hto:¬ Low X to)
 (hown:Own w1 w.heap.size 105 v' (l ++ [(best,to)])) (hb:Below w.heap.size w w1):RRel w X v' (l ++ [(best,to)]) w1∧lastc l < to∧lastc (l ++ [(best,to)])=to:=by
 obtain ⟨⟨i,hi,ci,e⟩,least⟩:=hs.yes ha;subst e;obtain ⟨u1,u2,u3⟩:=h.up.push hN hi ci least h1 run hto;have:=h.len;exact ⟨⟨hown,u1,by rw [u3];simp;omega,by rw [u3];exact h2,hb⟩,u2,u3⟩
set_option maxHeartbeats 2000000 in
set_option maxRecDepth 100000 in
theorem rjoin_any (w:World) (v:Value) (X:List S2) (h:Sp w v X) (hN:Near X):Calls Tryz.prog 43 #[v] w (Made w (PlainOf X)):=by
 have LX:Hid (∀ W t,Below w.heap.size w W→Calls Tryz.prog 86 #[v,.int .i64 t] W fun e w'=>e = .returned (.bool (lowB X t))∧W=w'):=fun W t hW=>rlow_any W v X (h.below hW) t;obtain ⟨a,cap,rfl,h1,h2,h3⟩:=h;have H3:=Lib.hid h3;have HNR:=Lib.hid hN;clear h3 hN;obtain ⟨F,hF⟩:∃ F:Nat,((1099511627776:Int) - (-1099511627777)).toNat≤F:=⟨_,Nat.le_refl _⟩;generalize hn:X.length=n at *;have HN:=Lib.hid hn;clear hn;unfold maxLen at h2
 go_enter Tryz.func43,Tryz.ntmps43
 go_wp2
 go_loopg [3] F (fun gg v wr=>∃ l,RRel w X v l wr∧(1099511627776 - lastc l).toNat≤gg)
 case atStart=>exact ⟨[],⟨Own.made _ _ _ (Nat.le_refl _),⟨plain_nil,fun t ht=>absurd ht low_nil,fun t _=>.inr fun x hx=>by simp at hx⟩,by simp [lastc],by simp [lastc],(Below.refl _ _).alloc (Nat.le_refl _) _⟩,hF⟩
 case round =>
  obtain ⟨l,hR,hg⟩:=hrel;obtain ⟨a3,cap3,rfl,k1,k2,hout⟩:=hR.out;have OUT:=Lib.hid hout;have RR:=Lib.hid hR;have hb:=hR.bel;have htop:=hR.top;have hlen:=hR.len;clear hout hR;generalize hm:l.length=len at *;have HM:=Lib.hid hm;clear hm;unfold maxLen at k2;go_wp2
  go_loop [4,5,6] (fun b y i=>∃ (k:Nat) (an:Bool) (best:Int),k≤n∧b = .int .i64 best∧y = .bool an∧i = .int .i64 k∧Scan X l k an best) (fun _ _ i=>n - (intOf i).toNat)
  case atStart=>exact ⟨0,false,0,Nat.zero_le _,rfl,rfl,rfl,Scan.zero X l⟩
  case round =>
   obtain ⟨k,an,best,hk,rfl,rfl,rfl,hs⟩:=hrel
   by_cases hlt:k < n
   ·obtain ⟨b,off,rfl,hA⟩:=H3.out (by omega)
    obtain ⟨c1,c2⟩:=hA k (by have:=HN.out;omega);have HA:=Lib.hid hA;clear hA;have d1:=(hb.cell (World.block_lt_of_cell? _ _ c1)).trans c1;have d2:=(hb.cell (World.block_lt_of_cell? _ _ c2)).trans c2;clear c1 c2;have n0:=HNR.out.f0 k (by have:=HN.out;omega);have n1:=HNR.out.f1 k (by have:=HN.out;omega);have HS:=Lib.hid hs;clear hs
    by_cases p1:fr X k < tp X k
    ·have lc:=LX.out wr (fr X k - 1) hb
     have LC:=Lib.hid lc;clear lc
     cases p2:lowB X (fr X k - 1) with
     | true =>
       have ns:=HS.out.skip fun c=>c.2.1 (lowB_iff.1 p2);have P2:=Lib.hid p2;have NS:=Lib.hid ns;clear p2 ns
       go_wp2_with (go_at_call 86;refine (at_bool' P2.out LC.out).mono ?_;rintro e w' ⟨rfl,rfl⟩)
       go_round
       case rel=>exact ⟨k+1,an,best,by omega,rfl,rfl,by go_num,NS.out⟩
       case measure=>simp [intOf];omega
     | false =>
       have P2:=Lib.hid p2;clear p2;have key:∀ (ok:Bool),(ok=true→lastc l < fr X k)→(ok=true→Cand X l k):=fun ok h1 h2=>⟨p1,lowB_false.1 P2.out,h1 h2⟩;have KEY:=Lib.hid key;clear key
       rcases OUT.out with ⟨rfl,hl⟩ | ⟨m,g,rfl,rfl,hcell⟩
       ·have cd:Cand X l k:=KEY.out true (fun _=>by omega) rfl
        have CD:=Lib.hid cd;clear cd
        cases an with
        | false =>
          have NS:=Lib.hid (HS.out.first CD.out)
          go_wp2_with (go_at_call 86;refine (at_bool' P2.out LC.out).mono ?_;rintro e w' ⟨rfl,rfl⟩)
          go_round
          case rel=>exact ⟨k+1,true,fr X k,by omega,rfl,rfl,by go_num,NS.out⟩
          case measure=>simp [intOf];omega
        | true =>
          by_cases p4:fr X k < best
          ·have NS:=Lib.hid (HS.out.less CD.out p4)
           go_wp2_with (go_at_call 86;refine (at_bool' P2.out LC.out).mono ?_;rintro e w' ⟨rfl,rfl⟩)
           go_round
           case rel=>exact ⟨k+1,true,fr X k,by omega,rfl,rfl,by go_num,NS.out⟩
           case measure=>simp [intOf];omega
          ·have NS:=Lib.hid (HS.out.over (by omega))
           go_wp2_with (go_at_call 86;refine (at_bool' P2.out LC.out).mono ?_;rintro e w' ⟨rfl,rfl⟩)
           go_round
           case rel=>exact ⟨k+1,true,best,by omega,rfl,rfl,by go_num,NS.out⟩
           case measure=>simp [intOf];omega
       ·by_cases p3:lastc l < fr X k
        ·have cd:Cand X l k:=KEY.out true (fun _=>p3) rfl
         have CD:=Lib.hid cd;clear cd
         cases an with
         | false =>
           have NS:=Lib.hid (HS.out.first CD.out)
           go_wp2_with (go_at_call 86;refine (at_bool' P2.out LC.out).mono ?_;rintro e w' ⟨rfl,rfl⟩)
           go_round
           case rel=>exact ⟨k+1,true,fr X k,by omega,rfl,rfl,by go_num,NS.out⟩
           case measure=>simp [intOf];omega
         | true =>
           by_cases p4:fr X k < best
           ·have NS:=Lib.hid (HS.out.less CD.out p4)
            go_wp2_with (go_at_call 86;refine (at_bool' P2.out LC.out).mono ?_;rintro e w' ⟨rfl,rfl⟩)
            go_round
            case rel=>exact ⟨k+1,true,fr X k,by omega,rfl,rfl,by go_num,NS.out⟩
            case measure=>simp [intOf];omega
           ·have NS:=Lib.hid (HS.out.over (by omega))
            go_wp2_with (go_at_call 86;refine (at_bool' P2.out LC.out).mono ?_;rintro e w' ⟨rfl,rfl⟩)
            go_round
            case rel=>exact ⟨k+1,true,best,by omega,rfl,rfl,by go_num,NS.out⟩
            case measure=>simp [intOf];omega
        ·have NS:=Lib.hid (HS.out.skip fun c=>p3 c.2.2)
         go_wp2_with (go_at_call 86;refine (at_bool' P2.out LC.out).mono ?_;rintro e w' ⟨rfl,rfl⟩)
         go_round
         case rel=>exact ⟨k+1,an,best,by omega,rfl,rfl,by go_num,NS.out⟩
         case measure=>simp [intOf];omega
    ·have NS:=Lib.hid (HS.out.skip fun c=>p1 c.1)
     go_wp2
     go_round
     case rel=>exact ⟨k+1,an,best,by omega,rfl,rfl,by go_num,NS.out⟩
     case measure=>simp [intOf];omega
   ·obtain rfl:k=n:=by omega
    have HS:=Lib.hid hs;clear hs
    cases an with
    | false =>
      have dn:=RR.out.up.done HNR.out (fun i hi=>HS.out.no rfl i (by have:=HN.out;omega));have DN:=Lib.hid dn;clear dn;go_wp2
      go_ret
      exact ⟨_,l,rfl,RR.out.own,⟨RR.out.up.plain,DN.out⟩,hb⟩
    | true =>
      obtain ⟨wo,rfl⟩:∃ wo:World,wo=wr:=⟨_,rfl⟩;have ⟨b0,b1⟩:best≤1099511627776∧-1099511627776≤best:=by
       obtain ⟨⟨i,hi,_,e⟩,_⟩:=HS.out.yes rfl;have:=HNR.out.f1 i (by have:=HN.out;omega);have:=HNR.out.f0 i (by have:=HN.out;omega)
       omega
      go_wp2
      go_loop [8] (fun t=>∃ to:Int,t = .int .i64 to∧best≤to∧to≤1099511627776∧Hid (∀ u,best≤u→u < to→Low X u)) (fun t=>(1099511627776 - intOf t).toNat)
      case atStart=>exact ⟨best,rfl,Int.le_refl _,b0,fun u a b=>by omega⟩
      case round =>
       obtain ⟨to,rfl,t0,t1,hrun⟩:=hrel;have lc:=LX.out wo to hb;have LC:=Lib.hid lc;clear lc
       cases p2:lowB X to with
       | true =>
         have P2:=Lib.hid p2;clear p2
         go_wp2_with (go_at_call 86;refine (at_bool' P2.out LC.out).mono ?_;rintro e w' ⟨rfl,rfl⟩)
         go_loop [8,9] (fun t i=>∃ (j:Nat) (to':Int),j≤k∧t = .int .i64 to'∧i = .int .i64 j∧to≤to'∧to'≤1099511627776∧Hid (∀ u,best≤u→u < to'→Low X u)∧Hid (∀ i,i < j→fr X i≤to→to < tp X i→to < to')) (fun _ i=>k - (intOf i).toNat)
         case atStart=>exact ⟨0,to,Nat.zero_le _,rfl,rfl,Int.le_refl _,t1,hrun,fun i h=>by omega⟩
         case round =>
          obtain ⟨j,to',hj,rfl,rfl,q0,q1,hrun',hall⟩:=hrel
          by_cases hlt:j < k
          ·obtain ⟨b,off,rfl,hA⟩:=H3.out (by omega)
           obtain ⟨c1,c2⟩:=hA j (by have:=HN.out;omega);have HA:=Lib.hid hA;clear hA;have d1:=(hb.cell (World.block_lt_of_cell? _ _ c1)).trans c1;have d2:=(hb.cell (World.block_lt_of_cell? _ _ c2)).trans c2;clear c1 c2;have n2:=HNR.out.t1 j (by have:=HN.out;omega)
           by_cases p3:fr X j≤to'∧to' < tp X j
           ·obtain ⟨p3,p4⟩:=p3
            have R1:Hid (∀ u,best≤u→u < tp X j→Low X u):=fun u e1 e2=>by
             by_cases c:u < to'
             ·exact hrun'.out u e1 c
             ·exact low_iff.2 ⟨j,by have:=HN.out;omega,by omega,e2⟩
            have R2:Hid (∀ i,i < j+1→fr X i≤to→to < tp X i→to < tp X j):=fun i _ _ _=>by omega
            go_wp2
            go_round
            case rel=>exact ⟨j+1,tp X j,by omega,rfl,by go_num,by omega,n2,R1,R2⟩
            case measure=>simp [intOf];omega
           ·have R2:Hid (∀ i,i < j+1→fr X i≤to→to < tp X i→to < to'):=fun i e1 e2 e3=>by
             by_cases c:i=j
             ·subst c;omega
             ·exact hall.out i (by omega) e2 e3
            by_cases p5:fr X j≤to'
            ·have p6:tp X j≤to':=by omega
             clear p3;go_wp2
             go_round
             case rel=>exact ⟨j+1,to',by omega,rfl,by go_num,q0,q1,hrun',R2⟩
             case measure=>simp [intOf];omega
            ·clear p3
             go_wp2
             go_round
             case rel=>exact ⟨j+1,to',by omega,rfl,by go_num,q0,q1,hrun',R2⟩
             case measure=>simp [intOf];omega
          ·obtain rfl:j=k:=by omega
           have up:to < to':=by
            obtain ⟨i,hi,e1,e2⟩:=low_iff.1 (lowB_iff.1 P2.out);exact hall.out i (by have:=HN.out;omega) e1 e2
           go_wp2
           go_round
           case rel=>exact ⟨to',rfl,by omega,q1,hrun'⟩
           case measure=>simp [intOf];omega
       | false =>
         have P2:=Lib.hid p2;clear p2
         go_wp2_with (first
          | (go_at_call 86;refine (at_bool' P2.out LC.out).mono ?_;rintro e w' ⟨rfl,rfl⟩)
          | (at_builtin;refine push_step rfl _ _ rfl w.heap.size _ _ rfl (RR.out.own.alloc _) _ best to rfl ?c1 ?c2 ?c3 ?c4 ?_))
         case c1=>go_simp
         case c2=>go_simp
         case c3=>have:=HM.out;omega
         case c4=>have:=hb.size;simp;omega
         intro v' w1 hown1 hb1
         have hR':=rrel_push HNR.out RR.out (by rw [HN.out];exact HS.out) rfl t0 t1 hrun.out (lowB_false.1 P2.out) hown1 ((hb.alloc hb.size _).trans hb1);have R':=Lib.hid hR';clear hR' hown1 hb1;have g1:=R'.out.2.1;have g2:=R'.out.2.2;have G2:=Lib.hid g2;clear g2;go_wp2
         go_roundg ((1099511627776 - to).toNat)
         case rel=>exact ⟨_,R'.out.1,by rw [G2.out];omega⟩
         case measure=>omega
theorem PlainOf.one {x a b:List S2} (ha:PlainOf x a) (hb:PlainOf x b):a=b:=plain_one ha.1 hb.1 fun t=>(ha.2 t).trans (hb.2 t).symm
end Go.Proofs.YtpkipilggkbkeaaGreatDoor.Wi
namespace Go.Proofs.YtpkipilggkbkeaaGreatDoor.Se
open Sp Go.Proofs.YtpkipilggkbkeaaGreatDoor.Wi
open Tk (GoodP Glo IsG Glo_is Glo_eq)
section
variable {n:Nat} {A R:Nat→Int}
theorem Glo_in (A R:Nat→Int) (n:Nat) (m:Int):0≤Glo A R n m∧Glo A R n m≤4294967296:=⟨(Glo_is A R n m).lo,(Glo_is A R n m).hi⟩
theorem Glo_mono {a b:Int} (h:a≤b):Glo A R n a≤Glo A R n b:=by
 have x:=Glo_is A R n a;have y:=Glo_is A R n b;have y0:=y.lo;have x1:=x.hi
 rcases Wi.ltge (Glo A R n b) (Glo A R n a) with c | c
 ·have p:=y.there (by omega)
  have q:=x.before _ y.lo c
  omega
 ·exact c
theorem Loc_step (g:GoodP n A R) (t:Int) (h0:0≤t) (h1:t < 4294967296):Tk.Loc A R n (t+1)≤Tk.Loc A R n t+2:=by
 obtain ⟨c,_,c1,e⟩:=Tk.PP_succ g t;unfold Tk.Loc;rw [Tk.clamp_id (by omega) (by omega),Tk.clamp_id (by omega) (by omega),e]
 omega
theorem Glo_there (g:GoodP n A R) {a:Int} (h1:a≤4000000000):Glo A R n a < 4294967296:=by
 have x:=Glo_is A R n a;have b:=(Tk.Loc_bd g 4294967295 (by omega) (by omega)).2;have x1:=x.hi
 rcases Wi.ltge (Glo A R n a) 4294967296 with c | c
 ·exact c
 ·have:=x.before 4294967295 (by omega) (by omega)
  omega
theorem Glo_at (g:GoodP n A R) {a:Int} (h1:a≤4000000000):a≤Tk.Loc A R n (Glo A R n a):=(Glo_is A R n a).there (Glo_there g h1)
theorem Loc_zero (g:GoodP n A R):Tk.Loc A R n 0=0:=by
 rw [Tk.Loc,Tk.clamp_id (by omega) (by omega),Tk.PP_zero g]
 rfl
theorem Glo_no (g:GoodP n A R) {a:Int} (h0:0≤a):Tk.Loc A R n (Glo A R n a)≤a+1:=by
 have x:=Glo_is A R n a;have x0:=x.lo;have x1:=x.hi
 rcases Wi.ltge 0 (Glo A R n a) with c | c
 ·have p:=x.before (Glo A R n a - 1) (by omega) (by omega)
  have s:=Loc_step g (Glo A R n a - 1) (by omega) (by omega);rw [show Glo A R n a - 1+1=Glo A R n a by omega] at s
  omega
 ·have e:Glo A R n a=0:=by omega
  rw [e,Loc_zero g]
  omega
theorem Glo_lt (g:GoodP n A R) {a b:Int} (h0:0≤a) (h:a+2≤b) (h1:b≤4000000000):Glo A R n a < Glo A R n b:=by
 have p:=Glo_no g h0;have q:=Glo_at g h1;have m:=Glo_mono (A:=A) (R:=R) (n:=n) (show a≤b by omega)
 rcases Wi.ltge (Glo A R n a) (Glo A R n b) with c | c
 ·exact c
 ·have e:Glo A R n a=Glo A R n b:=by omega
  rw [e] at p
  omega
end
def lows (g:Int→Int) (F:Nat→Bool) (m:Int):Nat→List S2
 | 0=>[]
 | k+1=>if F k then lows g F m k else lows g F m k ++ [(g (m+16 * k),g (m+16 * k+16))]
section
variable {g:Int→Int} {F:Nat→Bool} {m:Int}
theorem lows_hi {k:Nat} (h:F k=true):lows g F m (k+1)=lows g F m k:=by rw [lows,if_pos h]
theorem lows_lo {k:Nat} (h:F k=false):lows g F m (k+1)=lows g F m k ++ [(g (m+16 * k),g (m+16 * k+16))]:=by rw [lows,if_neg (by simp [h])]
theorem lows_len:∀ k,(lows g F m k).length≤k
 | 0=>Nat.le_refl _
 | k+1=>by
   have:=lows_len k;rw [lows]
   split
   ·omega
   ·simp;omega
theorem lows_mem {s:S2} : ∀ {k},s∈lows g F m k↔∃ i:Nat,i < k∧F i=false∧s=(g (m+16 * i),g (m+16 * i+16))
 | 0=>by simp [lows]
 | k+1=>by
   cases h:F k with
   | true =>
     rw [lows_hi h,lows_mem]
     constructor
     ·rintro ⟨i,a,b⟩
      exact ⟨i,by omega,b⟩
     ·rintro ⟨i,a,b,c⟩
      by_cases e:i=k
      ·subst e;rw [h] at b;cases b
      ·exact ⟨i,by omega,b,c⟩
   | false =>
     rw [lows_lo h,List.mem_append,lows_mem]
     constructor
     ·rintro (⟨i,a,b⟩ | c)
      ·exact ⟨i,by omega,b⟩
      ·exact ⟨k,by omega,h,by simpa using c⟩
     ·rintro ⟨i,a,b,c⟩
      by_cases e:i=k
      ·subst e;exact .inr (by simpa using c)
      ·exact .inl ⟨i,by omega,b,c⟩
theorem lows_near (h:∀ x,0≤g x∧g x≤4294967296) (k:Nat):Near (lows g F m k):=by
 have key:∀ i,i < (lows g F m k).length→(0≤fr (lows g F m k) i∧fr (lows g F m k) i≤4294967296)∧(0≤tp (lows g F m k) i∧tp (lows g F m k) i≤4294967296):=fun i hi=>by
  obtain ⟨j,_,_,e⟩:=lows_mem.1 (mem_fr hi);injection e with e1 e2;rw [e1,e2];exact ⟨h _,h _⟩
 exact ⟨fun i hi=>by have:=(key i hi).1;omega,fun i hi=>by have:=(key i hi).1;omega,fun i hi=>by have:=(key i hi).2;omega,fun i hi=>by have:=(key i hi).2;omega⟩
end
end Go.Proofs.YtpkipilggkbkeaaGreatDoor.Se
namespace Go.Proofs.YtpkipilggkbkeaaGreatDoor.Sa
open Sp Go.Proofs.YtpkipilggkbkeaaGreatDoor.Wi Go.Proofs.YtpkipilggkbkeaaGreatDoor.Se
open Tk (GoodP Glo IsG Glo_is Glo_eq PP)
structure Calm (n:Nat) (A R:Nat→Int) (B:Int):Prop where
 good:GoodP n A R
 lo:0≤B
 bd:∀ i,i < n→-B≤R i∧R i≤B
section
variable {n:Nat} {A R:Nat→Int} {B:Int}
theorem Calm.rt (g:Calm n A R B) (k:Nat) (h:k≤n) : -B≤Tk.rt R k∧Tk.rt R k≤B:=by
 have:=g.lo
 cases k with
 | zero=>exact ⟨by simp [Tk.rt];omega,by simp [Tk.rt];omega⟩
 | succ k=>exact g.bd k (by omega)
theorem PP_one (g:Calm n A R B) (t:Int):∃ c,1000000 - B≤c∧c≤1000000+B∧PP A R n (t+1)=PP A R n t+c:=by
 have s:=Tk.stop_at A n t;generalize hk:Tk.stop A n t=k at s;obtain ⟨s1,s2,s3⟩:=s;rw [Tk.PP_eq ⟨s1,s2,s3⟩]
 by_cases hn:k < n∧A k < t+1
 ·obtain ⟨hn,ha⟩:=hn
  have e:A k=t:=by have:=s3 hn;omega
  have st:Tk.AtStop A n (t+1) (k+1):=by
   refine ⟨hn,fun i hi=>?_,fun h=>?_⟩
   ·by_cases c:i=k
    ·subst c;exact ha
    ·have:=s2 i (by omega);omega
   ·have:=g.good.up k h;omega
  rw [Tk.PP_eq st];have b:=g.bd k hn;refine ⟨1000000+R k,by omega,by omega,?_⟩
  show Tk.sm A R k+(A k - Tk.fr A k) * (1000000+Tk.rt R k)+(t+1 - A k) * (1000000+R k)=Tk.sm A R k+(t - Tk.fr A k) * (1000000+Tk.rt R k)+(1000000+R k)
  rw [e,show t+1 - t=1 by omega,Int.one_mul]
 ·have st:Tk.AtStop A n (t+1) k:=by
   refine ⟨s1,fun i hi=>?_,fun h=>?_⟩
   ·have:=s2 i hi;omega
   ·have:=s3 h;omega
  rw [Tk.PP_eq st];have b:=g.rt k s1;refine ⟨1000000+Tk.rt R k,by omega,by omega,?_⟩;unfold Tk.pp;rw [show t+1 - Tk.fr A k=(t - Tk.fr A k)+1 by omega,Int.add_mul,Int.one_mul]
  omega
theorem PP_more (g:Calm n A R B) (t:Int) (d:Nat):PP A R n t+(1000000 - B) * d≤PP A R n (t+d)∧PP A R n (t+d)≤PP A R n t+(1000000+B) * d:=by
 induction d with
 | zero=>simp
 | succ d ih =>
   obtain ⟨c,c1,c2,e⟩:=PP_one g (t+d);rw [show t+((d+1:Nat):Int)=t+d+1 by omega,e];have e1:(1000000 - B) * ((d+1:Nat):Int)=(1000000 - B) * d+(1000000 - B):=by rw [show ((d+1:Nat):Int)=d+1 by omega,Int.mul_add,Int.mul_one]
   have e2:(1000000+B) * ((d+1:Nat):Int)=(1000000+B) * d+(1000000+B):=by rw [show ((d+1:Nat):Int)=d+1 by omega,Int.mul_add,Int.mul_one]
   rw [e1,e2];generalize (1000000 - B) * (d:Int)=x at *;generalize (1000000+B) * (d:Int)=y at *
   omega
theorem PP_span (g:Calm n A R B) {t u:Int} (h:t≤u):PP A R n t+(1000000 - B) * (u - t)≤PP A R n u∧PP A R n u≤PP A R n t+(1000000+B) * (u - t):=by
 have:=PP_more g t (u - t).toNat;rw [show t+((u - t).toNat:Int)=u by omega,show ((u - t).toNat:Int)=u - t by omega] at this;exact this
theorem Calm.up {B':Int} (g:Calm n A R B) (h:B≤B'):Calm n A R B':=⟨g.good,by have:=g.lo;omega,fun i hi=>by have:=g.bd i hi;omega⟩
theorem Glo_parts (g:Calm n A R B) {a:Int} (h0:0≤a) (h1:a≤4000000000):1000000 * a≤PP A R n (Glo A R n a)∧PP A R n (Glo A R n a)≤1000000 * a+999999+B:=by
 have x:=Glo_is A R n a;have x0:=x.lo;have x1:=Glo_there g.good h1;have q:=Glo_at g.good h1;have b0:=g.lo;unfold Tk.Loc at q;rw [Tk.clamp_id (by omega) (by omega)] at q;refine ⟨by omega,?_⟩
 rcases Wi.ltge 0 (Glo A R n a) with c | c
 ·have p:=x.before (Glo A R n a - 1) (by omega) (by omega)
  unfold Tk.Loc at p;rw [Tk.clamp_id (by omega) (by omega)] at p;obtain ⟨d,_,d1,e⟩:=PP_one g (Glo A R n a - 1);rw [show Glo A R n a - 1+1=Glo A R n a by omega] at e
  omega
 ·have e:Glo A R n a=0:=by omega
  rw [e,Tk.PP_zero g.good]
  omega
theorem Glo_le {a u:Int} (h0:0≤u) (h:1000000 * a≤PP A R n u):Glo A R n a≤u:=by
 have x:=Glo_is A R n a
 rcases Wi.ltge u (Glo A R n a) with c | c
 ·have p:=x.before u h0 c
  have:=x.hi;unfold Tk.Loc at p;rw [Tk.clamp_id (by omega) (by omega)] at p
  omega
 ·exact c
theorem lt_Glo (g:Calm n A R B) {a u:Int} (h1:a≤4000000000) (h:PP A R n u < 1000000 * a):u < Glo A R n a:=by
 have q:=Glo_at g.good h1;have x0:=(Glo_is A R n a).lo;have x1:=Glo_there g.good h1;unfold Tk.Loc at q;rw [Tk.clamp_id (by omega) (by omega)] at q
 rcases Wi.ltge u (Glo A R n a) with c | c
 ·exact c
 ·have:=Tk.PP_mono g.good c
  omega
end
def maj (a b c:Bool):Bool:=a && b || a && c || b && c
def heard (low:Int→Bool) (g:Int→Int) (N:Int) (i:Nat):Bool:=maj (!low (g (N+16 * i+7))) (!low (g (N+16 * i+8))) (!low (g (N+16 * i+9)))
theorem maj_same (a:Bool):maj a a a=a:=by cases a <;> rfl
theorem look_in {n n':Nat} {A R A' R':Nat→Int} (g:Calm n A R 10000) (g':Calm n' A' R' 10000) {m:Int} (m0:0≤m) (m1:m≤1073741824) (i:Nat) (hi:i < 11) (j:Int) (j0:7≤j) (j1:j≤9) :
 Glo A R n (m+16 * i)≤Glo A' R' n' (Tk.Loc A' R' n' (Glo A R n m)+16 * i+j)∧Glo A' R' n' (Tk.Loc A' R' n' (Glo A R n m)+16 * i+j) < Glo A R n (m+16 * i+16):=by
 have t:=Glo_parts g m0 (by omega);have t0:=(Glo_is A R n m).lo;have t1:=Glo_there g.good (show m≤4000000000 by omega);have t2:Glo A R n m≤1100000000:=by
  have b:=PP_span g (show 0≤Glo A R n m from t0);rw [Tk.PP_zero g.good] at b
  omega
 have l:=Tk.Loc_bd g'.good (Glo A R n m) t0 (by omega);have lp:1000000 * Tk.Loc A' R' n' (Glo A R n m)≤PP A' R' n' (Glo A R n m)∧PP A' R' n' (Glo A R n m)≤1000000 * Tk.Loc A' R' n' (Glo A R n m)+999999:=by
  unfold Tk.Loc;rw [Tk.clamp_id (by omega) (by omega)]
  omega
 have l0:0≤Tk.Loc A' R' n' (Glo A R n m):=by
  unfold Tk.Loc;rw [Tk.clamp_id (by omega) (by omega)];have:=(Tk.PP_bd g'.good (Glo A R n m) t0).1
  omega
 generalize Tk.Loc A' R' n' (Glo A R n m)=N at *;have u:=Glo_parts g' (a:=N+16 * i+j) (by omega) (by omega);have u0:=(Glo_is A' R' n' (N+16 * i+j)).lo;generalize Glo A' R' n' (N+16 * i+j)=U at *;have tu:Glo A R n m≤U:=by
  rcases Wi.ltge U (Glo A R n m) with c | c
  ·have:=Tk.PP_mono g'.good (show U≤Glo A R n m by omega)
   omega
  ·exact c
 have b:=PP_span g tu;have b':=PP_span g' tu;generalize Glo A R n m=T at *;have lo:1000000 * (m+16 * (i:Int))≤PP A R n U:=by omega
 have hi':PP A R n U < 1000000 * (m+16 * (i:Int)+16):=by omega
 exact ⟨Glo_le u0 lo,lt_Glo g (by omega) hi'⟩
theorem Loc_all (A R:Nat→Int) (n:Nat) (g:GoodP n A R) (t:Int):0≤Tk.Loc A R n t∧Tk.Loc A R n t≤4400000000:=by
 have h0:=Tk.clamp_lo t;have h1:=Tk.clamp_hi t;have:=Tk.PP_bd g (Tk.clamp t) h0;unfold Tk.Loc
 omega
end Go.Proofs.YtpkipilggkbkeaaGreatDoor.Sa
namespace Go.Proofs.YtpkipilggkbkeaaGreatDoor.Wi
open Sp
def idx (p:S2→Bool) (l:List S2):Int:=match (List.range l.length).find? (fun i=>p (fr l i,tp l i)) with
 | some i=>i
 | none=>-1
theorem idx_hit {p:S2→Bool} {l:List S2} {i:Nat} (hi:i < l.length) (hp:p (fr l i,tp l i)=true) (hn:∀ j,j < i→p (fr l j,tp l j)=false):idx p l=i:=by
 have e:(List.range l.length).find? (fun i=>p (fr l i,tp l i))=some i:=by
  rw [List.find?_range_eq_some];exact ⟨hp,by simpa using hi,fun j hj=>by simp [hn j hj]⟩
 simp [idx,e]
theorem idx_miss {p:S2→Bool} {l:List S2} (hn:∀ j,j < l.length→p (fr l j,tp l j)=false):idx p l = -1:=by
 have e:(List.range l.length).find? (fun i=>p (fr l i,tp l i))=none:=by
  rw [List.find?_eq_none]
  intro i hi
  simp [hn i (by simpa using hi)]
 simp [idx,e]
theorem idx_cases (p:S2→Bool) (l:List S2):(∃ i:Nat,i < l.length∧p (fr l i,tp l i)=true∧(∀ j,j < i→p (fr l j,tp l j)=false)∧idx p l=i)∨((∀ j,j < l.length→p (fr l j,tp l j)=false)∧idx p l = -1):=by
 rcases h:(List.range l.length).find? (fun i=>p (fr l i,tp l i)) with _ | i
 ·right
  rw [List.find?_eq_none] at h;have hn:∀ j,j < l.length→p (fr l j,tp l j)=false:=fun j hj=>by simpa using h j (by simpa using hj)
  exact ⟨hn,idx_miss hn⟩
 ·left
  rw [List.find?_range_eq_some] at h;have hi:i < l.length:=by simpa using h.2.1
  have hn:∀ j,j < i→p (fr l j,tp l j)=false:=fun j hj=>by simpa using h.2.2 j hj
  exact ⟨i,hi,h.1,hn,idx_hit hi h.1 hn⟩
def fallP (f t:Int) (s:S2):Bool:=decide (f≤s.1) && decide (s.1 < t)
def FallV (x:List S2) (f t:Int):Int×Bool:=if 0≤idx (fallP f t) x then (fr x (idx (fallP f t) x).toNat,true) else (0,false)
theorem fall_hit {x:List S2} {f t:Int} {i:Nat} (e:idx (fallP f t) x=i):FallV x f t=(fr x i,true):=by
 unfold FallV;rw [e,if_pos (by omega)]
 simp
theorem fall_miss {x:List S2} {f t:Int} (e:idx (fallP f t) x = -1):FallV x f t=(0,false):=by
 unfold FallV;rw [e,if_neg (by omega)]
end Go.Proofs.YtpkipilggkbkeaaGreatDoor.Wi
namespace Go.Proofs.YtpkipilggkbkeaaGreatDoor.Bu
open Sp Go.Proofs.YtpkipilggkbkeaaGreatDoor.Wi Go.Proofs.YtpkipilggkbkeaaGreatDoor.Se Go.Proofs.YtpkipilggkbkeaaGreatDoor.Sa
open Tk (GoodP Glo IsG Glo_is Glo_eq PP)
structure Osc where
 n:Nat
 A:Nat→Int
 R:Nat→Int
noncomputable def Osc.g (o:Osc) (m:Int):Int:=Glo o.A o.R o.n m
def Osc.calm (o:Osc):Prop:=Sa.Calm o.n o.A o.R 2000
theorem ahead {o p:Osc} (ho:o.calm) (hp:p.calm) {a b:Int} (a0:0≤a) (a1:a≤4000) (hab:a+18≤b) (b1:b≤5000):o.g a < p.g b:=by
 unfold Osc.calm at ho hp;unfold Osc.g;have t:=(Glo_parts ho a0 (by omega)).2;have t0:=(Glo_is o.A o.R o.n a).lo;generalize Glo o.A o.R o.n a=T at *;have s:=(PP_span ho t0).1;have s':=(PP_span hp t0).2;rw [Tk.PP_zero ho.good] at s;rw [Tk.PP_zero hp.good] at s';exact lt_Glo hp (by omega) (by omega)
theorem Osc.mono (o:Osc) {a b:Int} (h:a≤b):o.g a≤o.g b:=Glo_mono h
abbrev Frs:=Nat→Option (Osc×(Nat→Bool))
structure Fit (f:Frs):Prop where
 calm:∀ k o F,f k=some (o,F)→o.calm
 low:∀ k o F,f k=some (o,F)→F 0=false
def LowK (f:Frs) (k:Nat) (u:Int):Prop:=∃ o F,f k=some (o,F)∧∃ i:Nat,i < 11∧F i=false∧o.g (224 * k+16 * i)≤u∧u < o.g (224 * k+16 * i+16)
def LowL (f:Frs) (u:Int):Prop:=∃ k:Nat,1≤k∧k≤16∧LowK f k u
section
variable {f:Frs}
theorem lowK_in {k:Nat} {u:Int} {o:Osc} {F:Nat→Bool} (e:f k=some (o,F)) (h:LowK f k u):o.g (224 * k)≤u∧u < o.g (224 * k+176):=by
 obtain ⟨o',F',e',i,hi,_,h1,h2⟩:=h;rw [e] at e';injection e' with e';injection e' with e1 _;subst e1;have:=o.mono (show 224 * (k:Int)≤224 * k+16 * i by omega);have:=o.mono (show 224 * (k:Int)+16 * i+16≤224 * k+176 by omega)
 omega
theorem lowK_ex {k:Nat} {u:Int} (h:LowK f k u):∃ o F,f k=some (o,F):=by
 obtain ⟨o,F,e,_⟩:=h;exact ⟨o,F,e⟩
theorem apart (hf:Fit f) {k k':Nat} (h2:k≤16) (h4:k'≤16) {u:Int} (h:LowK f k u) (h':LowK f k' u):k=k':=by
 obtain ⟨o,F,e⟩:=lowK_ex h;obtain ⟨o',F',e'⟩:=lowK_ex h';have a:=lowK_in e h;have b:=lowK_in e' h';have c:=hf.calm k o F e;have d:=hf.calm k' o' F' e'
 rcases Nat.lt_trichotomy k k' with q | q | q
 ·have:=ahead c d (a:=224 * k+176) (b:=224 * k') (by omega) (by omega) (by omega) (by omega)
  omega
 ·exact q
 ·have:=ahead d c (a:=224 * k'+176) (b:=224 * k) (by omega) (by omega) (by omega) (by omega)
  omega
theorem other (hf:Fit f) {r:Osc} (hr:r.calm) {k k':Nat} (h1:1≤k) (h2:k≤16) (h3:1≤k') (h4:k'≤16) (hne:k'≠k) {u:Int} (u0:r.g (224 * k - 20)≤u+1) (u1:u < r.g (224 * k+20)):¬ LowK f k' u:=fun h=>by
 obtain ⟨o,F,e⟩:=lowK_ex h;have a:=lowK_in e h;have c:=hf.calm k' o F e
 rcases Nat.lt_or_gt_of_ne hne with q | q
 ·have:=ahead c hr (a:=224 * k'+176) (b:=224 * k - 20) (by omega) (by omega) (by omega) (by omega)
  omega
 ·have:=ahead hr c (a:=224 * k+20) (b:=224 * k') (by omega) (by omega) (by omega) (by omega)
  omega
theorem other' (hf:Fit f) {k k':Nat} (h2:k≤16) (h4:k'≤16) (hne:k'≠k) {o:Osc} {F:Nat→Bool} (e:f k=some (o,F)) {u:Int} (u0:o.g (224 * k)≤u) (u1:u < o.g (224 * k+176)):¬ LowK f k' u:=fun h=>by
 obtain ⟨o',F',e'⟩:=lowK_ex h;have b:=lowK_in e' h;have c:=hf.calm k o F e;have d:=hf.calm k' o' F' e'
 rcases Nat.lt_or_gt_of_ne hne with q | q
 ·have:=ahead d c (a:=224 * k'+176) (b:=224 * k) (by omega) (by omega) (by omega) (by omega)
  omega
 ·have:=ahead c d (a:=224 * k+176) (b:=224 * k') (by omega) (by omega) (by omega) (by omega)
  omega
theorem bit_low (hf:Fit f) {k:Nat} (h1:1≤k) (h2:k≤16) {o:Osc} {F:Nat→Bool} (e:f k=some (o,F)) {i:Nat} (hi:i < 11) {u:Int} (u0:o.g (224 * k+16 * i)≤u) (u1:u < o.g (224 * k+16 * i+16)):LowL f u↔F i=false:=by
 constructor
 ·rintro ⟨k',h3,h4,h⟩
  have m0:=o.mono (show 224 * (k:Int)≤224 * k+16 * i by omega);have m1:=o.mono (show 224 * (k:Int)+16 * i+16≤224 * k+176 by omega)
  by_cases q:k'=k
  ·subst q
   obtain ⟨o',F',e',i',hi',hF,a,b⟩:=h;rw [e] at e';injection e' with e';injection e' with e1 e2;subst e1 e2
   rcases Nat.lt_trichotomy i' i with c | c | c
   ·have:=o.mono (show 224 * (k':Int)+16 * i'+16≤224 * k'+16 * i by omega)
    omega
   ·subst c;exact hF
   ·have:=o.mono (show 224 * (k':Int)+16 * i+16≤224 * k'+16 * i' by omega)
    omega
  ·exact absurd h (other' hf h2 h4 q e (by omega) (by omega))
 ·exact fun hF=>⟨k,h1,h2,o,F,e,i,hi,hF,u0,u1⟩
theorem first_low (hf:Fit f) {k:Nat} (h1:1≤k) (h2:k≤16) {o:Osc} {F:Nat→Bool} (e:f k=some (o,F)):LowL f (o.g (224 * k)):=by
 have c:Sa.Calm o.n o.A o.R 2000:=hf.calm k o F e;have q:=Glo_lt c.good (a:=224 * (k:Int)) (b:=224 * k+16) (by omega) (by omega) (by omega);refine (bit_low hf h1 h2 e (i:=0) (by omega) (u:=o.g (224 * k)) ?_ ?_).2 (hf.low k o F e)
 ·simp
 ·show o.g (224 * (k:Int)) < o.g (224 * (k:Int)+16 * ((0:Nat):Int)+16)
  rw [show 224 * (k:Int)+16 * ((0:Nat):Int)+16=224 * k+16 by omega];exact q
end
section
variable {f:Frs} {x l:List S2}
theorem plain_begin (hx:Plain x) {s:S2} (hs:s∈x):Low x s.1∧¬ Low x (s.1 - 1):=by
 refine ⟨⟨s,hs,Int.le_refl _,hx.1 s hs⟩,?_⟩;rintro ⟨q,hq,a,b⟩;obtain ⟨i,hi,e1⟩:=List.getElem_of_mem hs;obtain ⟨j,hj,e2⟩:=List.getElem_of_mem hq;have pw:=List.pairwise_iff_getElem.1 hx.2
 rcases Nat.lt_trichotomy i j with c | c | c
 ·have:=pw i j hi hj c
  rw [e1,e2] at this;have:=hx.1 s hs
  omega
 ·subst c
  rw [e1] at e2;subst e2
  omega
 ·have:=pw j i hj hi c
  rw [e1,e2] at this
  omega
theorem begin_plain {t:Int} (h:Low x t) (h':¬ Low x (t - 1)):∃ s∈x,s.1=t:=by
 obtain ⟨s,hs,a,b⟩:=h;refine ⟨s,hs,?_⟩
 rcases Wi.ltge s.1 t with c | c
 ·exact absurd ⟨s,hs,by omega,by omega⟩ h'
 ·omega
theorem not_before (hf:Fit f) {r:Osc} (hr:r.calm) {k:Nat} (h1:1≤k) (h2:k≤16) {o:Osc} {F:Nat→Bool} (e:f k=some (o,F)) {u:Int} (u0:r.g (224 * k - 20)≤u+1) (u1:u < o.g (224 * k)):¬ LowL f u:=by
 rintro ⟨k',h3,h4,h⟩;have c:=hf.calm k o F e
 by_cases q:k'=k
 ·subst q
  have:=(lowK_in e h).1
  omega
 ·have:=ahead c hr (a:=224 * k) (b:=224 * k+20) (by omega) (by omega) (by omega) (by omega)
  exact other hf hr h1 h2 h3 h4 q u0 (by omega) h
theorem fall_some (hf:Fit f) (hx:Plain x) (hl:∀ u,Low x u↔LowL f u) {r:Osc} (hr:r.calm) {k:Nat} (h1:1≤k) (h2:k≤16) {o:Osc} {F:Nat→Bool} (e:f k=some (o,F)):FallV x (r.g (224 * k - 20)) (r.g (224 * k+20))=(o.g (224 * k),true):=by
 have c:=hf.calm k o F e;have a0:=ahead hr c (a:=224 * k - 20) (b:=224 * k) (by omega) (by omega) (by omega) (by omega);have a1:=ahead c hr (a:=224 * k) (b:=224 * k+20) (by omega) (by omega) (by omega) (by omega);have b0:Low x (o.g (224 * k)):=(hl _).2 (first_low hf h1 h2 e);have b1:¬ Low x (o.g (224 * k) - 1):=fun h=>not_before hf hr h1 h2 e (by omega) (by omega) ((hl _).1 h);obtain ⟨s,hs,es⟩:=begin_plain b0 b1;obtain ⟨i,hi,e1,e2⟩:=mem_iff.1 hs;have hp:fallP (r.g (224 * k - 20)) (r.g (224 * k+20)) (fr x i,tp x i)=true:=by
  unfold fallP;rw [e1,es];simp only [Bool.and_eq_true,decide_eq_true_eq]
  omega
 have hn:∀ j,j < i→fallP (r.g (224 * k - 20)) (r.g (224 * k+20)) (fr x j,tp x j)=false:=fun j hj=>by
  rcases hq:fallP (r.g (224 * k - 20)) (r.g (224 * k+20)) (fr x j,tp x j) with _ | _
  ·rfl
  ·exfalso
   unfold fallP at hq;simp only [Bool.and_eq_true,decide_eq_true_eq] at hq;have hm:=mem_fr (l:=x) (i:=j) (by omega);have g:=(plain_begin hx hm).1;have lt:fr x j < o.g (224 * k):=by
    have pw:=List.pairwise_iff_getElem.1 hx.2;have hmi:=mem_fr hi;have q1:=hx.1 _ hm;have:=hx.1 _ hmi;have gj:x[j]? = some (fr x j,tp x j):=by
     have:=List.getElem?_eq_getElem (show j < x.length by omega);rw [this]
     simp [fr,tp,List.getD_eq_getElem?_getD,List.getElem?_eq_getElem (show j < x.length by omega)]
    have gi:x[i]? = some (fr x i,tp x i):=by
     rw [List.getElem?_eq_getElem hi]
     simp [fr,tp,List.getD_eq_getElem?_getD,List.getElem?_eq_getElem hi]
    have q:=pw j i (by omega) hi hj;rw [List.getElem?_eq_getElem (by omega)] at gj;rw [List.getElem?_eq_getElem hi] at gi;injection gj with gj;injection gi with gi;rw [gj,gi] at q;simp only at q q1
    omega
   exact not_before hf hr h1 h2 e (by omega) lt ((hl _).1 g)
 rw [fall_hit (idx_hit hi hp hn),e1,es]
theorem fall_none (hf:Fit f) (hx:Plain x) (hl:∀ u,Low x u↔LowL f u) {r:Osc} (hr:r.calm) {k:Nat} (h1:1≤k) (h2:k≤16) (e:f k=none):FallV x (r.g (224 * k - 20)) (r.g (224 * k+20))=(0,false):=by
 refine fall_miss (idx_miss fun j hj=>?_)
 rcases hq:fallP (r.g (224 * k - 20)) (r.g (224 * k+20)) (fr x j,tp x j) with _ | _
 ·rfl
 ·exfalso
  unfold fallP at hq;simp only [Bool.and_eq_true,decide_eq_true_eq] at hq;obtain ⟨k',h3,h4,h⟩:=(hl _).1 (plain_begin hx (mem_fr hj)).1
  by_cases q:k'=k
  ·subst q
   obtain ⟨o,F,e',_⟩:=h;rw [e] at e'
   cases e'
  ·exact other hf hr h1 h2 h3 h4 q (by simp only;omega) (by simp only;omega) h
theorem heard_bus (hf:Fit f) (hl:∀ u,Low l u↔LowL f u) {r:Osc} (hr:r.calm) {k:Nat} (h1:1≤k) (h2:k≤16) {o:Osc} {F:Nat→Bool} (e:f k=some (o,F)) {i:Nat} (hi:i < 11) :
 heard (lowB l) (Glo r.A r.R r.n) (Tk.Loc r.A r.R r.n (o.g (224 * k))) i=F i:=by
 have c:Sa.Calm o.n o.A o.R 10000:=Sa.Calm.up (hf.calm k o F e) (by omega);have d:Sa.Calm r.n r.A r.R 10000:=Sa.Calm.up hr (by omega);have look:∀ j:Int,7≤j→j≤9→lowB l (Glo r.A r.R r.n (Tk.Loc r.A r.R r.n (o.g (224 * k))+16 * i+j)) = !F i:=fun j j0 j1=>by
  obtain ⟨q0,q1⟩:=look_in c d (m:=224 * (k:Int)) (by omega) (by omega) i hi j j0 j1;have b:=bit_low hf h1 h2 e hi (u:=Glo r.A r.R r.n (Tk.Loc r.A r.R r.n (o.g (224 * k))+16 * i+j)) q0 q1
  rcases hF:F i with _ | _
  ·exact lowB_iff.2 ((hl _).2 (b.2 hF))
  ·refine lowB_false.2 fun h=>?_
   have:=b.1 ((hl _).1 h);rw [hF] at this
   cases this
 unfold heard;rw [look 7 (by omega) (by omega),look 8 (by omega) (by omega),look 9 (by omega) (by omega),maj_same]
 simp
end
end Go.Proofs.YtpkipilggkbkeaaGreatDoor.Bu
namespace Go.Proofs.YtpkipilggkbkeaaGreatDoor.Rw
open Go.RowKit
structure Kind (α:Type) where
 enc:α→List Value
 n:Nat
 pos:0 < n
 len:∀ a,(enc a).length=n
 one:∀ a,∀ u∈enc a,u.oneCell'=true
 dft:α
def int (k:IntKind):Kind Int:=⟨fun z=>[.int k z],1,by decide,fun _=>rfl,fun _ u h=>by simp at h;subst h;rfl,0⟩
section
variable {α:Type} (K:Kind α)
def Kind.flat (l:List α):List Value:=l.flatMap K.enc
theorem flat_length:∀ l:List α,(K.flat l).length=l.length * K.n
 | []=>by simp [Kind.flat]
 | s :: r=>by
   have ih:=flat_length r;simp only [Kind.flat,List.flatMap_cons,List.length_append,K.len,List.length_cons] at ih ⊢;rw [ih,Nat.add_mul,Nat.one_mul,Nat.add_comm]
theorem flat_append (a b:List α):K.flat (a ++ b)=K.flat a ++ K.flat b:=by simp [Kind.flat]
theorem flat_one (l:List α):∀ u∈K.flat l,u.oneCell'=true:=fun u hu=>by
 obtain ⟨a,_,h⟩:=List.mem_flatMap.1 hu;exact K.one a u h
theorem flat_get:∀ (l:List α) (i j:Nat),i < l.length→j < K.n→(K.flat l)[i * K.n+j]? = (K.enc (l.getD i K.dft))[j]?
 | s :: r,0,j,_,hj=>by
   show (K.enc s ++ K.flat r)[0 * K.n+j]? = (K.enc s)[j]?
   rw [Nat.zero_mul,Nat.zero_add,List.getElem?_append_left (by rw [K.len];exact hj)]
 | s :: r,i+1,j,h,hj=>by
   have ih:=flat_get r i j (by simpa using h) hj
   show (K.enc s ++ K.flat r)[(i+1) * K.n+j]? = (K.enc (r.getD i K.dft))[j]?
   rw [List.getElem?_append_right (by rw [K.len,Nat.add_mul];omega),K.len,show (i+1) * K.n+j - K.n=i * K.n+j by rw [Nat.add_mul];omega];exact ih
def At (w:World) (b off:Nat) (l:List α):Prop:=∀ i,i < l.length→∀ j u,(K.enc (l.getD i K.dft))[j]? = some u→w.cell? ⟨b,off+i * K.n+j,none⟩=some u
def Rd (w:World) (v:Value) (l:List α):Prop:=∃ a cap,v = .slice a l.length cap∧(l.length≤cap∧(a=none→cap=0))∧cap≤maxLen∧(0 < l.length→∃ b off,a=some ⟨b,off,none⟩∧At K w b off l)
def Ow (w:World) (B E:Nat) (v:Value) (l:List α):Prop:=w.ownsRow B E K.n v l.length (K.flat l)
variable {K}
variable {w w':World} {B E:Nat} {v:Value} {l:List α}
theorem At.below {b off:Nat} (h:At K w b off l) (hb:Below w.heap.size w w'):At K w' b off l:=fun i hi j u hu=>(hb.cell (World.block_lt_of_cell? _ _ (h i hi j u hu))).trans (h i hi j u hu)
theorem Rd.below (h:Rd K w v l) (hb:Below w.heap.size w w'):Rd K w' v l:=by
 obtain ⟨a,cap,e,h1,h2,h3⟩:=h;exact ⟨a,cap,e,h1,h2,fun hp=>by obtain ⟨b,off,ea,hA⟩:=h3 hp;exact ⟨b,off,ea,hA.below hb⟩⟩
theorem Rd.slice (h:Rd K w v l):∃ a cap,v = .slice a l.length cap∧cap≤maxLen:=by
 obtain ⟨a,cap,e,_,h2,_⟩:=h;exact ⟨a,cap,e,h2⟩
theorem Rd.nil (w:World):Rd K w (.slice none 0 0) []:=⟨none,0,rfl,⟨Nat.le_refl _,fun _=>rfl⟩,by unfold maxLen;omega,fun h=>by simp at h⟩
theorem Ow.nil (w:World) (B E:Nat):Ow K w B E (.slice none 0 0) []:=World.ownsRow_nil _ _ _ _
theorem Ow.made (w:World) (B E:Nat) (hB:B≤w.heap.size):Ow K (w.alloc (.cells #[] E)) B E (.slice (some ⟨w.heap.size,0,none⟩) 0 0) [] :=
 World.ownsRow_made w #[] 0 hB (by unfold maxLen;omega) (by simp)
theorem Ow.rd (h:Ow K w B E v l):Rd K w v l:=by
 have hc:=fun g hg j u=>World.ownsRow.cells h (g:=g) hg j u;obtain ⟨_,h⟩:=h
 rcases h with ⟨rfl,h0⟩ | ⟨g,cap,cur,rfl,_,_,h1,h2,_⟩
 ·exact ⟨none,0,by rw [h0],⟨by omega,fun _=>rfl⟩,by unfold maxLen;omega,fun h=>by omega⟩
 ·refine ⟨_,cap,rfl,⟨h1,nofun⟩,h2,fun _=>⟨g,0,rfl,fun i hi j u hu=>?_⟩⟩
  have hj:j < K.n:=by have:=(List.getElem?_eq_some_iff.1 hu).1;rw [K.len] at this;exact this
  have c:=hc g rfl _ _ ((flat_get K l i j hi hj).trans hu);simp only [Addr.add_lit] at c;rw [Nat.add_assoc];exact c
theorem Ow.form (h:Ow K w B E v l) (hl:0 < l.length):∃ g cap,v = .slice (some ⟨g,0,none⟩) l.length cap∧B≤g∧g < w.heap.size∧l.length≤cap∧cap≤maxLen∧(∀ k,w.frozen? ⟨g,k,none⟩=false)∧At K w g 0 l:=by
 have hr:=h.rd;obtain ⟨_,h⟩:=h
 rcases h with ⟨_,h0⟩ | ⟨g,cap,cur,rfl,hB,hh,h1,h2,_⟩
 ·omega
 ·refine ⟨g,cap,rfl,hB,lt_of_block hh,h1,h2,fun k=>by simp [World.frozen?,hh],?_⟩
  obtain ⟨a,cap',e,_,_,h3⟩:=hr;obtain ⟨b,off,ea,hA⟩:=h3 hl;subst ea;injection e with e1 _ _;injection e1 with e1;injection e1 with e1 e2;subst e1 e2;exact hA
theorem Ow.slice (h:Ow K w B E v l):∃ a cap,v = .slice a l.length cap∧l.length≤cap∧cap≤maxLen:=by
 obtain ⟨_,h⟩:=h
 rcases h with ⟨rfl,h0⟩ | ⟨g,cap,cur,rfl,_,_,h1,h2,_⟩
 ·exact ⟨none,0,by rw [h0],by omega,by unfold maxLen;omega⟩
 ·exact ⟨_,_,rfl,h1,h2⟩
theorem Ow.alloc (h:Ow K w B E v l) (o:Obj):Ow K (w.alloc o) B E v l:=World.ownsRow.alloc h o
theorem Ow.draw (h:Ow K w B E v l) (n:Nat):Ow K (w.drewN n) B E v l:=h
theorem Ow.keep (h:Ow K w B E v l) (hb:Below w.heap.size w w'):Ow K w' B E v l:=by
 obtain ⟨h1,h2⟩:=h;refine ⟨h1,?_⟩
 rcases h2 with h2 | ⟨g,cap,cur,e,hB,hh,r⟩
 ·exact .inl h2
 ·exact .inr ⟨g,cap,cur,e,hB,(hb.block g (lt_of_block hh)).trans hh,r⟩
theorem Ow.low {B':Nat} (h:Ow K w B E v l) (hB:B'≤B):Ow K w B' E v l:=by
 obtain ⟨h1,h2⟩:=h;refine ⟨h1,?_⟩
 rcases h2 with h2 | ⟨g,cap,cur,e,hb,hh,r⟩
 ·exact .inl h2
 ·exact .inr ⟨g,cap,cur,e,by omega,hh,r⟩
theorem heap_setCell_same {g j:Nat} {cur:Array Value} {E:TypeId} (hh:w.heap[g]? = some (.cells cur E (0,0))) (u:Value):(w.setCell ⟨g,j,none⟩ u).heap[g]? = some (.cells (cur.setIfInBounds j u) E (0,0)):=by
 have hlt:=lt_of_block hh;have h':w.heap[g] = .cells cur E (0,0):=by simpa [Array.getElem?_eq_getElem hlt] using hh
 show (w.heap.modify g _)[g]? = _
 rw [Array.getElem?_eq_getElem (by simpa using hlt),Array.getElem_modify_self,h']
 rfl
theorem flat_set:∀ (l:List α) (i j:Nat) (u:Value) (s:α),i < l.length→j < K.n→K.enc s=(K.enc (l.getD i K.dft)).set j u→(K.flat l).set (i * K.n+j) u=K.flat (l.set i s)
 | a :: r,0,j,u,s,_,hj,he=>by
   show (K.enc a ++ K.flat r).set (0 * K.n+j) u=K.enc s ++ K.flat r
   have he':K.enc s=(K.enc a).set j u:=he;rw [Nat.zero_mul,Nat.zero_add,List.set_append_left _ _ (by rw [K.len];exact hj),he']
 | a :: r,i+1,j,u,s,h,hj,he=>by
   have ih:=flat_set r i j u s (by simpa using h) hj he
   show (K.enc a ++ K.flat r).set ((i+1) * K.n+j) u=K.enc a ++ K.flat (r.set i s)
   rw [List.set_append_right _ _ (by rw [K.len,Nat.add_mul];omega),K.len,show (i+1) * K.n+j - K.n=i * K.n+j by rw [Nat.add_mul];omega,ih]
theorem Ow.set {g cap:Nat} (h:Ow K w B E (.slice (some ⟨g,0,none⟩) l.length cap) l) (i j:Nat) (hi:i < l.length) (hj:j < K.n) (u:Value) (s:α) (he:K.enc s=(K.enc (l.getD i K.dft)).set j u) :
 Ow K (w.setCell ⟨g,i * K.n+j,none⟩ u) B E (.slice (some ⟨g,0,none⟩) l.length cap) (l.set i s):=by
 obtain ⟨h1,h2⟩:=h;refine ⟨by rw [flat_length],?_⟩
 rcases h2 with ⟨e,_⟩ | ⟨g',cap',cur,e,hB,hh,k1,k2,k3,k4⟩
 ·simp at e
 ·injection e with e1 e2 e3
  injection e1 with e1;injection e1 with e1;subst e1 e3;refine .inr ⟨_,_,_,by rw [List.length_set],hB,heap_setCell_same hh _,by rw [List.length_set];exact k1,k2,by simp [k3],?_⟩;rw [← flat_set l i j u s hi hj he,← k4,List.length_set]
  simp [List.take_set]
theorem Ow.push {v':Value} {s:α} (h:w'.ownsRow B E K.n v' (l.length+1) (K.flat l ++ K.enc s)):Ow K w' B E v' (l ++ [s]):=by
 show w'.ownsRow B E K.n v' (l ++ [s]).length (K.flat (l ++ [s]))
 rw [flat_append,List.length_append];have e:K.flat [s]=K.enc s:=by simp [Kind.flat]
 rw [e];exact h
theorem push_step {P:Program} {ops:Array Oper} {rest:List Oper} {o:Oper} {a:Act} {Q:Exit→Act→World→Prop} {T:TypeId} {z:Value} {bytes:Nat} (ht:P.underlying T=some (.slice E))
 (hi:(P.info? E).map (fun i=>(i.zero,i.size,i.bytes))=some (some z,K.n,bytes)) (hz:z.cells.size=K.n) (hby:bytes≤64) (hgd:o.guard=none) (s x:Operand)
 (ho:o.op = .call { callee:=.builtin .append,args:=#[s,x],argTypes:=#[T,T] }) (B:Nat) (v:Value) (l:List α) (hs:a.eval s=v) (hown:Ow K w B E v l)
 (ad:Addr) (c:α) (hx:a.eval x = .slice (some ad) 1 1) (hc:∀ j u,(K.enc c)[j]? = some u→w.cell? (ad.add j)=some u) (hlen:l.length < 2199023255552) (hB:B≤w.heap.size)
 (h:∀ v' w',Ow K w' B E v' (l ++ [c])→Below B w w'→wpList P ops Q rest (a.put o.dst v') w'):wpList P ops Q (o :: rest) a w:=by
 obtain ⟨i0,hi0,hz0,hz1,hz2⟩:=info_parts hi;have hb:(l.length+1) * bytes≤140737488355328:=Nat.le_trans (Nat.mul_le_mul (show l.length+1≤2199023255552 by omega) hby) (by omega);refine wpList_append_own _ hgd s x T ho B E i0 z K.n bytes ht hi0 hz0 hz1 hz2 hz K.pos v l.length (K.flat l) hs hown ad 1 1 (K.enc c) hx (by rw [K.len,Nat.one_mul]) hc (K.one c) (by unfold maxLen;omega) hb hB ?_
 intro v' w' h2 h3 _
 exact h v' w' (Ow.push h2) ((Below.refl B w).grown h3 hB fun k hk=>(World.ownsRow.lt hown k hk).1)
def Far (E:TypeId) (w w':World):Prop:=∀ (g:Nat) (cs:Array Value) (t:TypeId),w.heap[g]? = some (Obj.cells cs t (0,0))→t≠E→w'.heap[g]? = some (Obj.cells cs t (0,0))
theorem Far.refl (E:TypeId) (w:World):Far E w w:=fun _ _ _ h _=>h
theorem Ow.apart (h:Ow K w B E v l) {g:Nat} {cs:Array Value} {t:TypeId} (hg:w.heap[g]? = some (.cells cs t (0,0))) (ht:t≠E):v.ownBlock≠some g:=by
 obtain ⟨_,h⟩:=h
 rcases h with ⟨rfl,_⟩ | ⟨k,cap,cur,rfl,_,hh,_⟩
 ·simp [Value.ownBlock]
 ·intro e
  simp only [Value.ownBlock,Option.some.injEq] at e;subst e;rw [hg] at hh;injection hh with hh;injection hh with _ h2 _;exact ht h2
theorem far_grown (h:Ow K w B E v l) (hg:w.grownBy w' v.ownBlock):Far E w w':=fun g cs t hh ht=>by
 rw [hg.block g (lt_of_block hh) (fun e=>h.apart hh ht e.symm)];exact hh
theorem Ow.far (h:Ow K w B E v l) {p:Addr} {cs:Array Value} {t:TypeId} (hp:w.heap[p.block]? = some (.cells cs t (0,0))) (ht:t≠E) (u:Value):Ow K (w.setCell p u) B E v l:=by
 have ha:=h.apart hp ht;obtain ⟨h1,h2⟩:=h;refine ⟨h1,?_⟩
 rcases h2 with h2 | ⟨g,cap,cur,rfl,hB,hh,r⟩
 ·exact .inl h2
 ·have hne:g≠p.block:=fun e=>ha (by simp [Value.ownBlock,e])
  exact .inr ⟨g,cap,cur,rfl,hB,(Below.heap_setCell w p u g hne).trans hh,r⟩
theorem Ow.range (h:Ow K w B E v l) {g:Nat} (hg:g < B∨w.heap.size≤g):v.ownBlock≠some g:=fun e=>by
 have:=World.ownsRow.lt h g e
 omega
theorem Ow.off (h:Ow K w B E v l) {p:Addr} (hp:v.ownBlock≠some p.block) (u:Value):Ow K (w.setCell p u) B E v l:=by
 obtain ⟨h1,h2⟩:=h;refine ⟨h1,?_⟩
 rcases h2 with h2 | ⟨g,cap,cur,rfl,hB,hh,r⟩
 ·exact .inl h2
 ·have hne:g≠p.block:=fun e=>hp (by simp [Value.ownBlock,e])
  exact .inr ⟨g,cap,cur,rfl,hB,(Below.heap_setCell w p u g hne).trans hh,r⟩
theorem Ow.lit (w:World) (B E:Nat) (l:List α) (hB:B≤w.heap.size) (hm:l.length≤maxLen):Ow K (w.alloc (.cells (K.flat l).toArray E)) B E (.slice (some ⟨w.heap.size,0,none⟩) l.length l.length) l :=
 World.ownsRow_lit w _ l.length hB hm (by rw [List.size_toArray,flat_length])
theorem push_far {P:Program} {ops:Array Oper} {rest:List Oper} {o:Oper} {a:Act} {Q:Exit→Act→World→Prop} {T:TypeId} {z:Value} {bytes:Nat} (ht:P.underlying T=some (.slice E))
 (hi:(P.info? E).map (fun i=>(i.zero,i.size,i.bytes))=some (some z,K.n,bytes)) (hz:z.cells.size=K.n) (hby:bytes≤64) (hgd:o.guard=none) (s x:Operand)
 (ho:o.op = .call { callee:=.builtin .append,args:=#[s,x],argTypes:=#[T,T] }) (B:Nat) (v:Value) (l:List α) (hs:a.eval s=v) (hown:Ow K w B E v l)
 (ad:Addr) (c:α) (hx:a.eval x = .slice (some ad) 1 1) (hc:∀ j u,(K.enc c)[j]? = some u→w.cell? (ad.add j)=some u) (hlen:l.length < 2199023255552) (hB:B≤w.heap.size)
 (h:∀ v' w',Ow K w' B E v' (l ++ [c])→Below B w w'→Far E w w'→wpList P ops Q rest (a.put o.dst v') w'):wpList P ops Q (o :: rest) a w:=by
 obtain ⟨i0,hi0,hz0,hz1,hz2⟩:=info_parts hi;have hb:(l.length+1) * bytes≤140737488355328:=Nat.le_trans (Nat.mul_le_mul (show l.length+1≤2199023255552 by omega) hby) (by omega);refine wpList_append_own _ hgd s x T ho B E i0 z K.n bytes ht hi0 hz0 hz1 hz2 hz K.pos v l.length (K.flat l) hs hown ad 1 1 (K.enc c) hx (by rw [K.len,Nat.one_mul]) hc (K.one c) (by unfold maxLen;omega) hb hB ?_
 intro v' w' h2 h3 _
 exact h v' w' (Ow.push h2) ((Below.refl B w).grown h3 hB fun k hk=>(World.ownsRow.lt hown k hk).1) (far_grown hown h3)
theorem At.flat {b off:Nat} (h:At K w b off l):∀ j u,(K.flat l)[j]? = some u→w.cell? ⟨b,off+j,none⟩=some u:=fun j u hu=>by
 have hj:j < l.length * K.n:=by have:=(List.getElem?_eq_some_iff.1 hu).1;rw [flat_length] at this;exact this
 have hi:j / K.n < l.length:=Nat.div_lt_of_lt_mul (by rw [Nat.mul_comm];exact hj);have hr:j % K.n < K.n:=Nat.mod_lt _ K.pos;have e:j / K.n * K.n+j % K.n=j:=by rw [Nat.mul_comm];exact Nat.div_add_mod _ _
 have g:=flat_get K l (j / K.n) (j % K.n) hi hr;rw [e] at g;have c:=h (j / K.n) hi (j % K.n) u (g.symm.trans hu);rw [Nat.add_assoc,e] at c;exact c
theorem all_step {P:Program} {ops:Array Oper} {rest:List Oper} {o:Oper} {a:Act} {Q:Exit→Act→World→Prop} {T:TypeId} {z:Value} {bytes:Nat} (ht:P.underlying T=some (.slice E))
 (hi:(P.info? E).map (fun i=>(i.zero,i.size,i.bytes))=some (some z,K.n,bytes)) (hz:z.cells.size=K.n) (hby:bytes≤64) (hgd:Region.wanted o (yielded ops a.tmps)=true) (s x:Operand)
 (ho:o.op = .call { callee:=.builtin .append,args:=#[s,x],argTypes:=#[T,T] }) (B:Nat) (v:Value) (l:List α) (hs:a.eval s=v) (hown:Ow K w B E v l)
 (u:Value) (y:List α) (hx:a.eval x=u) (hu:Rd K w u y) (hlen:l.length+y.length < 2199023255552) (hB:B≤w.heap.size)
 (h:∀ v' w',Ow K w' B E v' (l ++ y)→Below B w w'→wpList P ops Q rest (a.put o.dst v') w'):wpList P ops Q (o :: rest) a w:=by
 obtain ⟨i0,hi0,hz0,hz1,hz2⟩:=info_parts hi;obtain ⟨ad,cap,rfl,h1,h2,h3⟩:=hu;have hb:(l.length+y.length) * bytes≤140737488355328:=Nat.le_trans (Nat.mul_le_mul (show l.length+y.length≤2199023255552 by omega) hby) (by omega);refine BigFrame.wpList_want hgd fun K' hK=>?_
 by_cases h0:0 < y.length
 ·obtain ⟨b,off,rfl,hA⟩:=h3 h0
  refine wp_append_own _ s x T ho B E i0 z K.n bytes ht hi0 hz0 hz1 hz2 hz K.pos v l.length (K.flat l) hs hown ⟨b,off,none⟩ y.length cap (K.flat y) hx (flat_length K y) ?_ (flat_one K y) (by unfold maxLen;omega) hb hB ?_
  ·intro j u hj
   have e:(⟨b,off,none⟩:Addr).add j=⟨b,off+j,none⟩:=by simp [Addr.add]
   rw [e];exact hA.flat j u hj
  ·intro v' w' g2 g3 _
   refine hK _ _ (h v' w' ?_ ((Below.refl B w).grown g3 hB fun k hk=>(World.ownsRow.lt hown k hk).1))
   show w'.ownsRow B E K.n v' (l ++ y).length (K.flat (l ++ y))
   rw [flat_append,List.length_append];exact g2
 ·have ey:y = []:=List.length_eq_zero_iff.1 (by omega)
  subst ey
  cases ad with
  | none =>
    obtain rfl:=h1.2 rfl;have hrun:=run_append_owned_none (P:=P) (w:=w) B T o.type E i0 K.n ht hi0 v l.length (K.flat l) hown;unfold Oper.wp;have hk:=hK _ _ (h v w (by rw [List.append_nil];exact hown) (Below.refl _ _));have hx':a.eval x = .slice none 0 0:=hx
    simp [execOp,ho,resolve,invoke,builtin,hs,hx',hrun,Result.andThen]
    exact hk
  | some ad =>
    refine wp_append_own _ s x T ho B E i0 z K.n bytes ht hi0 hz0 hz1 hz2 hz K.pos v l.length (K.flat l) hs hown ad 0 cap [] hx (by simp) (by simp) (by simp) (by unfold maxLen;simp at hlen;omega) (by simpa using hb) hB ?_
    intro v' w' g2 g3 _
    refine hK _ _ (h v' w' ?_ ((Below.refl B w).grown g3 hB fun k hk=>(World.ownsRow.lt hown k hk).1))
    show w'.ownsRow B E K.n v' (l ++ []).length (K.flat (l ++ []))
    rw [List.append_nil]
    simpa using g2
end
end Go.Proofs.YtpkipilggkbkeaaGreatDoor.Rw
namespace Go.Proofs.YtpkipilggkbkeaaGreatDoor.Fl
open Go.RowKit
open Rw (Rd Ow At)
abbrev R4:=Int×Int×Int×Int
def z4:R4:=(0,0,0,0)
def rec4 (r:R4):Value:=.agg #[.int .u8 r.1,.int .u8 r.2.1,.int .u8 r.2.2.1,.int .u8 r.2.2.2]
def K4:Rw.Kind R4:=⟨fun r=>[.int .u8 r.1,.int .u8 r.2.1,.int .u8 r.2.2.1,.int .u8 r.2.2.2],4,by decide,fun _=>rfl,fun _ u h=>by simp at h;rcases h with rfl | rfl | rfl | rfl <;> rfl,z4⟩
def file (p:Int) (v:Value):Value:=.agg #[.int .i64 p,v]
def hdr (p n:Int):R4:=(n,p,165,bits .xor .u8 (bits .xor .u8 n p) 165)
def rat (l:List R4) (i:Nat):R4:=l.getD i z4
def goodF (p:Int) (l:List R4):Prop:=0≤p∧p≤7∧1≤l.length∧l.length≤256∧rat l 0=hdr p ((l.length:Int) - 1)
instance (p:Int) (l:List R4):Decidable (goodF p l):=by unfold goodF;infer_instance
def goodFB (p:Int) (l:List R4):Bool:=decide (goodF p l)
theorem at4 {w:World} {b off:Nat} {l:List R4} (h:At K4 w b off l) (i:Nat) (hi:i < l.length) :
 w.cell? ⟨b,off+i * 4,none⟩=some (.int .u8 (rat l i).1)∧w.cell? ⟨b,off+i * 4+1,none⟩=some (.int .u8 (rat l i).2.1)∧w.cell? ⟨b,off+i * 4+2,none⟩=some (.int .u8 (rat l i).2.2.1)∧w.cell? ⟨b,off+i * 4+3,none⟩=some (.int .u8 (rat l i).2.2.2) :=
 ⟨h i hi 0 _ rfl,h i hi 1 _ rfl,h i hi 2 _ rfl,h i hi 3 _ rfl⟩
theorem at4_0 {w:World} {b off:Nat} {l:List R4} (h:At K4 w b off l) (hi:0 < l.length) :
 w.cell? ⟨b,off,none⟩=some (.int .u8 (rat l 0).1)∧w.cell? ⟨b,off+1,none⟩=some (.int .u8 (rat l 0).2.1)∧w.cell? ⟨b,off+2,none⟩=some (.int .u8 (rat l 0).2.2.1)∧w.cell? ⟨b,off+3,none⟩=some (.int .u8 (rat l 0).2.2.2):=by
 have:=at4 h 0 hi
 simpa using this
theorem infoR:(Tryz.prog.info? 96).map (fun i=>(i.zero,i.size,i.bytes))=some (some (.agg #[.int .u8 0,.int .u8 0,.int .u8 0,.int .u8 0]),4,4):=by kernel_rfl
theorem eq_rec (r s:R4) (w:World):(Op.equalIn 10000 96 (.agg #[.int .u8 r.1,.int .u8 r.2.1,.int .u8 r.2.2.1,.int .u8 r.2.2.2]) (.agg #[.int .u8 s.1,.int .u8 s.2.1,.int .u8 s.2.2.1,.int .u8 s.2.2.2])).run Tryz.prog w = .ok (decide (r=s)) w:=by
 obtain ⟨j,hj⟩:∃ i,Tryz.prog.info? 5=some i:=Option.isSome_iff_exists.1 (by kernel_rfl);have hc:Tryz.prog.cellsOf 5=1:=by kernel_rfl
 obtain ⟨r1,r2,r3,r4⟩:=r;obtain ⟨s1,s2,s3,s4⟩:=s;rw [run_equalIn_array w 9999 _ _ Tryz.underlying96 hj,hc]
 by_cases h1:r1=s1 <;> by_cases h2:r2=s2 <;> by_cases h3:r3=s3 <;> by_cases h4:r4=s4 <;> simp [Op.eqItems,List.range,List.range.loop,part,go_sem,h1,h2,h3,h4]
theorem ret_bool {a b:Bool} (h:a=b):Ending.returned (.bool a) = .returned (.bool b):=by rw [h]
theorem at_bool {P:Program} {f:Nat} {args:Array Value} {w:World} {B:Nat} {a b:Bool} (e:a=b) (c:Calls P f args w fun e w'=>e = .returned (.bool a)∧Below B w w'):Calls P f args w fun e w'=>e = .returned (.bool b)∧Below B w w':=by rw [← e];exact c
end Go.Proofs.YtpkipilggkbkeaaGreatDoor.Fl
namespace Go.Proofs.YtpkipilggkbkeaaGreatDoor.Qb
open Go.RowKit
structure By (w:World) where
 world:World
 below:Below w.heap.size w world
instance (w:World):Nonempty (By w):=⟨⟨w,Below.refl _ _⟩⟩
theorem below_drew {B:Nat} {a w:World} (h:Below B a w):Below B a { w with drawn:=w.drawn+1 }:=⟨h.os,h.tape,h.output,h.size,h.block⟩
theorem wp_region_by {P:Program} {id:Nat} {Q:Exit→Act→World→Prop} {a:Act} {w:World} {l:List Oper} (hm:P.follows .mixedOrders=true) (hB:Region.lexB .any l.toArray=true)
 (h:wpQuiet P l.toArray (fun w'=>∃ p:By w,w'=p.world) (fun a'=>∀ w',(∃ p:By w,w'=p.world)→Q .normal a' w') l a):(Code.region id l.toArray true).wp P Q a w :=
 wp_region_quiet (C:=fun w'=>∃ p:By w,w'=p.world) hm hB ⟨⟨_,below_drew (Below.refl _ _)⟩,rfl⟩ (by simpa using h)
theorem of_below {P:Program} {f:FuncId} {args:Array Value} {w:World} {p:By w} {v:Value}
 (h:Calls P f args p.world fun e w'=>e = .returned v∧Below p.world.heap.size p.world w'):Calls P f args p.world fun e w''=>e = .returned v∧∃ q:By w,w''=q.world :=
 h.mono fun _ w' ⟨he,hb⟩=>⟨he,⟨w',p.below.trans (hb.mono p.below.size)⟩,rfl⟩
theorem cell_by {w:World} {a:Addr} {v:Value} (h:w.cell? a=some v) (p:By w):p.world.cell? a=some v:=(p.below.cell (World.block_lt_of_cell? _ _ h)).trans h
end Go.Proofs.YtpkipilggkbkeaaGreatDoor.Qb
