import Derived.Test.YtljnkaodhfnbbaaGreatDoorPd3
import Derived.WalkKit
import Derived.Test.YtljnkaodhfnbbaaGreatDoorPd2
import Derived.Maps.Range
import Derived.Maps.RangeWalk
import Derived.Maps.RangeRun
import Derived.Deep.Cut
import Derived.Test.YtljnkaodhfnbbaaGreatDoorPd1
import Derived.Test.YtljnkaodhfnbbaaGreatDoorChecked
import Derived.Laws.Rows
import Derived.Deep.WholeRow
import Derived.DeepKeys
import Derived.LoopTactic
import Derived.Outline
import Derived.Deep.LoopGhost
import Derived.Deep.Draws
import Derived.Lib.Hide
import Derived.ArgAppend
set_option maxRecDepth 100000
namespace Go.Proofs.YtljnkaodhfnbbaaGreatDoor.Ck
open Ro (E5 z5 eat mayP mayB okE okAt eat_get eat_mem prevS prev_next okE_bounds)
abbrev LL:=List (List E5)
def lat (L:LL) (n:Nat):List E5:=L.getD n []
theorem drop_lat {L:LL} {k:Nat} (h:k < L.length):L.drop k=lat L k :: L.drop (k+1):=by
 rw [List.drop_eq_getElem_cons h]
 congr 1
 unfold lat;rw [List.getD_eq_getElem?_getD,List.getElem?_eq_getElem h]
 rfl
theorem drop_eat {t:List E5} {i:Nat} (h:i < t.length):t.drop i=eat t i :: t.drop (i+1):=by
 rw [List.drop_eq_getElem_cons h]
 congr 1
 have:=eat_get h;rw [List.getElem?_eq_getElem h] at this;exact Option.some.inj this
theorem lat_take {L:LL} {n j:Nat} (h:j < n):lat (L.take n) j=lat L j:=by
 unfold lat;rw [List.getD_eq_getElem?_getD,List.getD_eq_getElem?_getD,List.getElem?_take,if_pos h]
def scn (p:Nat→E5→Bool):Nat→LL→Option (Nat×E5)
 | _,[]=>none
 | n,t :: r=>match t.find? (p n) with
   | some x=>some (n,x)
   | none=>scn p (n+1) r
def whoN (p:Nat→E5→Bool) (L:LL):Int:=match scn p 0 L with
 | some y=>y.1
 | none=>-1
def whoE (p:Nat→E5→Bool) (L:LL):E5:=match scn p 0 L with
 | some y=>y.2
 | none=>z5
def Ahead (p:Nat→E5→Bool) (L:LL) (k:Nat):Prop:=scn p 0 L=scn p k (L.drop k)
def Within (p:Nat→E5→Bool) (L:LL) (k i:Nat):Prop:=Ahead p L k∧(lat L k).find? (p k)=((lat L k).drop i).find? (p k)
section
variable {p:Nat→E5→Bool} {L:LL} {k i:Nat}
theorem ahead_zero:Ahead p L 0:=rfl
theorem within_zero (h:Ahead p L k):Within p L k 0:=⟨h,rfl⟩
theorem within_hit (h:Within p L k i) (hk:k < L.length) (hi:i < (lat L k).length) (hp:p k (eat (lat L k) i)=true):whoN p L=k∧whoE p L=eat (lat L k) i:=by
 have e:scn p 0 L=some (k,eat (lat L k) i):=by
  rw [h.1,drop_lat hk];simp only [scn,h.2,drop_eat hi,List.find?_cons,hp]
 unfold whoN whoE;rw [e];exact ⟨rfl,rfl⟩
theorem within_next (h:Within p L k i) (hi:i < (lat L k).length) (hp:p k (eat (lat L k) i)=false):Within p L k (i+1):=by
 refine ⟨h.1,?_⟩;rw [h.2,drop_eat hi,List.find?_cons,hp]
theorem within_end (h:Within p L k (lat L k).length) (hk:k < L.length):Ahead p L (k+1):=by
 unfold Ahead;have e:=h.2;rw [List.drop_length] at e;rw [h.1,drop_lat hk];simp only [scn,e,List.find?_nil]
theorem ahead_end (h:Ahead p L L.length):whoN p L = -1∧whoE p L=z5:=by
 have e:scn p 0 L=none:=by rw [h,List.drop_length];rfl
 unfold whoN whoE;rw [e];exact ⟨rfl,rfl⟩
end
theorem scn_some {p:Nat→E5→Bool} : ∀ {L:LL} {n0 n:Nat} {x:E5},scn p n0 L=some (n,x)→∃ k,n=n0+k∧k < L.length∧x∈lat L k∧p n x=true∧∀ j,j < k→∀ y∈lat L j,p (n0+j) y=false
 | [],_,_,_,h=>by cases h
 | t :: r,n0,n,x,h=>by
   rcases e:t.find? (p n0) with _ | y
   ·simp only [scn,e] at h
    obtain ⟨k,e1,h1,h2,h3,h4⟩:=scn_some h;refine ⟨k+1,by omega,by simp;omega,h2,h3,fun j hj y hy=>?_⟩
    rcases j with _ | j
    ·rw [List.find?_eq_none] at e
     simpa using e y hy
    ·have:=h4 j (by omega) y hy
     rw [show n0+(j+1)=n0+1+j by omega];exact this
   ·simp only [scn,e,Option.some.injEq,Prod.mk.injEq] at h
    obtain ⟨rfl,rfl⟩:=h;exact ⟨0,rfl,by simp,List.mem_of_find?_eq_some e,List.find?_some e,fun j hj=>absurd hj (Nat.not_lt_zero _)⟩
theorem scn_none {p:Nat→E5→Bool} : ∀ {L:LL} {n0:Nat},scn p n0 L=none→∀ k,k < L.length→∀ x∈lat L k,p (n0+k) x=false
 | [],_,_,k,hk=>by cases hk
 | t :: r,n0,h,k,hk=>by
   rcases e:t.find? (p n0) with _ | y
   ·simp only [scn,e] at h
    intro x hx
    rcases k with _ | k
    ·rw [List.find?_eq_none] at e
     simpa using e x hx
    ·have:=scn_none h k (by simpa using hk) x hx
     rw [show n0+(k+1)=n0+1+k by omega];exact this
   ·simp only [scn,e] at h
    cases h
theorem find_congr {p q:E5→Bool} : ∀ {t:List E5},(∀ x∈t,p x=q x)→t.find? p=t.find? q
 | [],_=>rfl
 | x :: r,h=>by rw [List.find?_cons,List.find?_cons,h x (List.mem_cons_self ..),find_congr fun y hy=>h y (List.mem_cons_of_mem _ hy)]
theorem scn_congr {p q:Nat→E5→Bool} : ∀ {L:LL} {n0:Nat},(∀ k,k < L.length→∀ x∈lat L k,p (n0+k) x=q (n0+k) x)→scn p n0 L=scn q n0 L
 | [],_,_=>rfl
 | t :: r,n0,h=>by
   have e:t.find? (p n0)=t.find? (q n0):=find_congr fun x hx=>h 0 (by simp) x hx;have ih:=scn_congr (p:=p) (q:=q) (L:=r) (n0:=n0+1) fun k hk x hx=>by
    have:=h (k+1) (by simp;omega) x hx;rw [show n0+1+k=n0+(k+1) by omega];exact this
   simp only [scn,e,ih]
theorem who_cases (p:Nat→E5→Bool) (L:LL):(∃ n x,n < L.length∧x∈lat L n∧p n x=true∧(∀ m,m < n→∀ y∈lat L m,p m y=false)∧whoN p L=n∧whoE p L=x)∨((∀ n,n < L.length→∀ x∈lat L n,p n x=false)∧whoN p L = -1∧whoE p L=z5):=by
 rcases e:scn p 0 L with _ | ⟨n,x⟩
 ·right
  refine ⟨fun n hn x hx=>by simpa using scn_none e n hn x hx,?_,?_⟩
  ·unfold whoN;rw [e]
  ·unfold whoE;rw [e]
 ·left
  obtain ⟨k,e1,h1,h2,h3,h4⟩:=scn_some e;obtain rfl:n=k:=by omega
  refine ⟨n,x,h1,h2,h3,fun m hm y hy=>by simpa using h4 m hm y hy,?_,?_⟩
  ·unfold whoN;rw [e]
  ·unfold whoE;rw [e]
theorem who_congr {p q:Nat→E5→Bool} {L:LL} (h:∀ k,k < L.length→∀ x∈lat L k,p k x=q k x):whoN p L=whoN q L∧whoE p L=whoE q L:=by
 have e:scn p 0 L=scn q 0 L:=scn_congr fun k hk x hx=>by simpa using h k hk x hx
 unfold whoN whoE;rw [e];exact ⟨rfl,rfl⟩
theorem who_hit {p:Nat→E5→Bool} {L:LL} {n:Nat} {x:E5} (hn:n < L.length) (hx:x∈lat L n) (hp:p n x=true):0≤whoN p L∧whoN p L≤n:=by
 rcases who_cases p L with ⟨m,y,h1,h2,h3,h4,e,_⟩ | ⟨h,e,_⟩
 ·rw [e]
  refine ⟨by omega,?_⟩
  by_cases g:n < m
  ·have:=h4 n g x hx
   rw [hp] at this
   cases this
  ·omega
 ·have:=h n hn x hx
  rw [hp] at this
  cases this
def idx (q:List E5→Bool):Nat→LL→Int
 | _,[]=>-1
 | n,t :: r=>if q t then n else idx q (n+1) r
def IAhead (q:List E5→Bool) (L:LL) (k:Nat):Prop:=idx q 0 L=idx q k (L.drop k)
section
variable {q:List E5→Bool} {L:LL} {k:Nat}
theorem iahead_zero:IAhead q L 0:=rfl
theorem iahead_hit (h:IAhead q L k) (hk:k < L.length) (hq:q (lat L k)=true):idx q 0 L=k:=by
 rw [h,drop_lat hk];simp only [idx,hq,if_true]
theorem iahead_next (h:IAhead q L k) (hk:k < L.length) (hq:q (lat L k)=false):IAhead q L (k+1):=by
 unfold IAhead;rw [h,drop_lat hk];simp only [idx,hq,Bool.false_eq_true,if_false]
theorem iahead_end (h:IAhead q L L.length):idx q 0 L = -1:=by rw [h,List.drop_length];rfl
end
theorem idx_all {q:List E5→Bool} : ∀ {L:LL} {n:Nat},idx q n L < 0→∀ k,k < L.length→q (lat L k)=false
 | [],_,_,k,hk=>by cases hk
 | t :: r,n,h,k,hk=>by
   by_cases e:q t=true
   ·simp only [idx,e,if_true] at h
    omega
   ·simp only [idx,e,Bool.false_eq_true,if_false] at h
    rcases k with _ | k
    ·show q t=false
     simpa using e
    ·exact idx_all h k (by simpa using hk)
def snd (s:Int) (_:Nat) (x:E5):Bool:=decide (x.1=1∧x.2.1=s)
def sN (s:Int) (L:LL):Int:=whoN (snd s) L
def sE (s:Int) (L:LL):E5:=whoE (snd s) L
theorem snd_yes {s:Int} {n:Nat} {x:E5} (h1:x.1=1) (h2:x.2.1=s):snd s n x=true:=decide_eq_true ⟨h1,h2⟩
theorem snd_no {s:Int} {n:Nat} {x:E5} (h:¬ (x.1=1∧x.2.1=s)):snd s n x=false:=decide_eq_false h
theorem snd_is {s:Int} {n:Nat} {x:E5} (h:snd s n x=true):x.1=1∧x.2.1=s:=of_decide_eq_true h
theorem sN_take {L:LL} {n:Nat} (hn:n≤L.length) (s:Int):0≤sN s (L.take n)↔0≤sN s L∧sN s L < n:=by
 unfold sN;have hl:(L.take n).length=n:=by rw [List.length_take];omega
 rcases who_cases (snd s) (L.take n) with ⟨m,y,h1,h2,h3,h4,e,_⟩ | ⟨h,e,_⟩
 ·rw [hl] at h1
  rw [lat_take h1] at h2;have g:=who_hit (p:=snd s) (L:=L) (by omega) h2 h3
  constructor
  ·intro _;omega
  ·intro _;omega
 ·constructor
  ·intro g;omega
  ·intro ⟨g1,g2⟩
   rcases who_cases (snd s) L with ⟨m,y,h1,h2,h3,h4,e',_⟩ | ⟨_,e',_⟩
   ·have hm:m < n:=by omega
    have:=h m (by omega) y (by rw [lat_take hm];exact h2);rw [h3] at this
    cases this
   ·omega
def bad (t:List E5):Bool:=!mayB t
def bI (L:LL):Int:=idx bad 0 L
def pc (L:LL) (n:Nat) (x:E5):Bool:=decide (x.1=1∧0≤sN x.2.1 (L.take n))
def pg (L:LL) (_:Nat) (x:E5):Bool:=decide (x.1=2∧sN x.2.1 L < 0)
def qc (F:Nat→Int) (n:Nat) (x:E5):Bool:=decide (x.1=1∧¬ F x.2.1.toNat=n)
def qg (F:Nat→Int) (_:Nat) (x:E5):Bool:=decide (x.1=2∧F x.2.1.toNat < 0)
def clN (L:LL):Int:=whoN (pc L) L
def gaN (L:LL):Int:=whoN (pg L) L
def sF (L:LL) (s:Nat):Int:=sN s L
def tN (L:LL):Int:=if 0≤bI L then bI L else if 0≤clN L then clN L else if 0≤gaN L then gaN L else -1
def tE (L:LL):Int:=if 0≤bI L then 2 else if 0≤clN L then 8 else if 0≤gaN L then 9 else 0
theorem t_form {L:LL} (h:0≤bI L):tN L=bI L∧tE L=2:=by unfold tN tE;rw [if_pos h,if_pos h];exact ⟨rfl,rfl⟩
theorem t_clash {L:LL} (h:¬ 0≤bI L) (h2:0≤clN L):tN L=clN L∧tE L=8:=by unfold tN tE;rw [if_neg h,if_neg h,if_pos h2,if_pos h2];exact ⟨rfl,rfl⟩
theorem t_gap {L:LL} (h:¬ 0≤bI L) (h2:¬ 0≤clN L) (h3:0≤gaN L):tN L=gaN L∧tE L=9:=by unfold tN tE;rw [if_neg h,if_neg h,if_neg h2,if_neg h2,if_pos h3,if_pos h3];exact ⟨rfl,rfl⟩
theorem t_ok {L:LL} (h:¬ 0≤bI L) (h2:¬ 0≤clN L) (h3:¬ 0≤gaN L):tN L = -1∧tE L=0:=by unfold tN tE;rw [if_neg h,if_neg h,if_neg h2,if_neg h2,if_neg h3,if_neg h3];exact ⟨rfl,rfl⟩
theorem may_all {L:LL} (h:¬ 0≤bI L):∀ k,k < L.length→mayP (lat L k):=fun k hk=>by
 have:=idx_all (q:=bad) (L:=L) (n:=0) (by unfold bI at h;omega) k hk;unfold bad mayB at this
 simpa using this
theorem may_slot {t:List E5} (h:mayP t) {x:E5} (hx:x∈t):0≤x.2.1∧x.2.1≤16:=(okE_bounds (Ro.may_each h x hx).1).2.1
theorem clash_same {L:LL} (h:¬ 0≤bI L):whoN (qc (sF L)) L=clN L:=by
 refine (who_congr fun k hk x hx=>?_).1;have b:=may_slot (may_all h k hk) hx;unfold qc pc sF;rw [show ((x.2.1.toNat:Nat):Int)=x.2.1 by omega]
 by_cases h1:x.1=1
 ·have g:=who_hit (p:=snd x.2.1) hk hx (snd_yes h1 rfl)
  have t:=sN_take (L:=L) (n:=k) (by omega) x.2.1;unfold sN at t ⊢
  apply decide_eq_decide.2
  constructor
  ·intro ⟨_,a⟩;exact ⟨h1,t.2 ⟨g.1,by omega⟩⟩
  ·intro ⟨_,a⟩;have:=t.1 a;exact ⟨h1,by omega⟩
 ·simp [h1]
theorem gap_same {L:LL} (h:¬ 0≤bI L):whoN (qg (sF L)) L=gaN L:=by
 refine (who_congr fun k hk x hx=>?_).1;have b:=may_slot (may_all h k hk) hx;unfold qg pg sF;rw [show ((x.2.1.toNat:Nat):Int)=x.2.1 by omega]
def all (p:E5→Bool) (L:LL):Nat:=L.flatten.countP p
section
end
end Go.Proofs.YtljnkaodhfnbbaaGreatDoor.Ck
namespace Go.Proofs.YtljnkaodhfnbbaaGreatDoor.Ua
open Go.RowKit
def bit (b:Int) (j:Nat):Bool:=decide (b / 2 ^ j % 2=1)
def par (F:Nat→Bool):Nat→Bool
 | 0=>false
 | k+1=>par F k != F (k+1)
def val (F:Nat→Bool):Nat→Nat
 | 0=>0
 | k+1=>val F k+if F (k+1) then 2 ^ k else 0
def upd (F:Nat→Bool) (k:Nat) (x:Bool) (i:Nat):Bool:=if i=k then x else F i
def put (b:Int) (k:Nat) (i:Nat):Bool:=if 1≤i∧i < k then bit b (i - 1) else false
def frm (b:Int) (odd:Bool):Nat→Bool:=upd (upd (put b 9) 9 (par (put b 9) 9 != odd)) 10 true
def turn (F:Nat→Bool) (m:Int) (k:Nat) (i:Nat):Bool:=if i < k then F i != bit m i else F i
def bad (F:Nat→Bool):Bool:=F 0 || !F 10
def tb (F:Nat→Bool):Int:=if bad F then 0 else val F 8
def tp (F:Nat→Bool):Bool:=if bad F then false else par F 9
def te (F:Nat→Bool):Int:=if bad F then 2 else 0
theorem par_congr {F G:Nat→Bool} : ∀ k,(∀ i,1≤i→i≤k→F i=G i)→par F k=par G k
 | 0,_=>rfl
 | k+1,h=>by rw [par,par,par_congr k (fun i h1 h2=>h i h1 (by omega)),h (k+1) (by omega) (by omega)]
theorem val_congr {F G:Nat→Bool} : ∀ k,(∀ i,1≤i→i≤k→F i=G i)→val F k=val G k
 | 0,_=>rfl
 | k+1,h=>by rw [val,val,val_congr k (fun i h1 h2=>h i h1 (by omega)),h (k+1) (by omega) (by omega)]
theorem val_lt (F:Nat→Bool):∀ k,val F k < 2 ^ k
 | 0=>Nat.lt_succ_self 0
 | k+1=>by have:=val_lt F k;rw [val,Nat.pow_succ];split <;> omega
theorem and_bit_all:∀ b:Fin 256,∀ j:Fin 8,(bits BinOp.and .u8 (b.val:Int) (2 ^ j.val) != 0)=decide ((b.val:Int) / 2 ^ j.val % 2=1):=by decide +kernel
theorem and_bit (b:Int) (j:Nat) (h0:0≤b) (h1:b≤255) (hj:j < 8):(bits BinOp.and .u8 b (2 ^ j) != 0)=bit b j:=by
 have:=and_bit_all ⟨b.toNat,by omega⟩ ⟨j,hj⟩;simp only at this;rw [show ((b.toNat:Nat):Int)=b by omega] at this;exact this
theorem or_bit_all:∀ b:Fin 256,∀ j:Fin 8,b.val < 2 ^ j.val→bits BinOp.or .u8 (b.val:Int) (2 ^ j.val)=((b.val+2 ^ j.val:Nat):Int):=by decide +kernel
theorem or_bit (b j:Nat) (hj:j < 8) (h:b < 2 ^ j):bits BinOp.or .u8 (b:Int) (2 ^ j)=((b+2 ^ j:Nat):Int) :=
 or_bit_all ⟨b,by have:2 ^ j≤2 ^ 7:=Nat.pow_le_pow_right (by omega) (by omega)
                  omega⟩ ⟨j,hj⟩ h
theorem and_i64 (x:Int) (c:Nat) (hc:c < 9223372036854775808):bits BinOp.and .i64 x (c:Int)=(((x % 18446744073709551616).toNat &&& c:Nat):Int):=by
 have e:(BitVec.ofInt 64 x &&& BitVec.ofInt 64 (c:Int)).toNat=(x % 18446744073709551616).toNat &&& c:=by
  rw [BitVec.toNat_and,BitVec.toNat_ofInt,BitVec.toNat_ofInt]
  congr 1
  simp
  omega
 show IntKind.i64.wrap (((BitVec.ofInt 64 x &&& BitVec.ofInt 64 (c:Int)).toNat:Nat):Int)=_
 rw [e];have l:(x % 18446744073709551616).toNat &&& c≤c:=Nat.and_le_right;exact IntWalk.i64_in _ (by omega)
theorem and_one (x:Int):bits BinOp.and .i64 x 1=x % 2:=by
 have:=and_i64 x 1 (by omega);rw [Nat.and_one_is_mod] at this;rw [show (1:Int)=((1:Nat):Int) from rfl,this]
 omega
theorem test_one (m:Int) (k:Nat):(bits BinOp.and .i64 (m / 2 ^ k) 1 == 1)=bit m k:=by rw [and_one];rfl
end Go.Proofs.YtljnkaodhfnbbaaGreatDoor.Ua
namespace Go.Proofs.YtljnkaodhfnbbaaGreatDoor.Pa
open Go.RowKit
open Fl (R4 z4 rat goodF okR okL)
open Fs (Fil Abs key Srt OkA gB gV sB sA dA dE dD dV addE addA look_some look_none look_at map_look put_set)
open Ro (E5 z5 okE eat mayP)
open Ck (LL lat sN sE tE)
open Ua (bit frm te tp tb upd)
def rb (v:R4) (b:Int):Int:=if b=0 then v.1 else if b=1 then v.2.1 else if b=2 then v.2.2.1 else v.2.2.2
def rs (v:R4) (b x:Int):R4:=if b=0 then (x,v.2.1,v.2.2.1,v.2.2.2) else if b=1 then (v.1,x,v.2.2.1,v.2.2.2) else if b=2 then (v.1,v.2.1,x,v.2.2.2) else (v.1,v.2.1,v.2.2.1,x)
def byt (x:Int):Prop:=0≤x∧x≤255
theorem rb_ok {v:R4} (h:okR v) (b:Int):byt (rb v b):=by
 obtain ⟨h1,h2,h3,h4⟩:=h;unfold rb byt
 split
 ·exact h1
 ·split
  ·exact h2
  ·split
   ·exact h3
   ·exact h4
theorem rs_ok {v:R4} (h:okR v) (b:Int) {x:Int} (hx:byt x):okR (rs v b x):=by
 obtain ⟨h1,h2,h3,h4⟩:=h;unfold rs
 split
 ·exact ⟨hx,h2,h3,h4⟩
 ·split
  ·exact ⟨h1,hx,h3,h4⟩
  ·split
   ·exact ⟨h1,h2,hx,h4⟩
   ·exact ⟨h1,h2,h3,hx⟩
theorem rs_swap (v:R4) {a b:Int} (h:a≠b) (ha:0≤a∧a≤3) (hb:0≤b∧b≤3) (x y:Int):rs (rs v a x) b y=rs (rs v b y) a x:=by
 obtain rfl | rfl | rfl | rfl:a=0∨a=1∨a=2∨a=3:=by omega
 all_goals
  obtain rfl | rfl | rfl | rfl:b=0∨b=1∨b=2∨b=3:=by omega
  all_goals first | (exact absurd rfl h) | rfl
theorem rs_twice (v:R4) (a x y:Int):rs (rs v a x) a y=rs v a y:=by
 unfold rs
 by_cases h0:a=0
 ·simp [h0]
 ·by_cases h1:a=1
  ·simp [h1]
  ·by_cases h2:a=2
   ·simp [h2]
   ·simp [h0,h1,h2]
abbrev Hr:=Int→Option Int
def mt (f r:Int) (x:E5):Bool:=decide (x.1=2∧x.2.2.1=f∧x.2.2.2.1=r)
def grp (t:List E5) (f r:Int):List E5:=t.filter (mt f r)
def allH (h:Hr) (l:List E5):Bool:=l.all fun x=>(h x.2.1).isSome
def mix (h:Hr) (l:List E5) (v:R4):R4:=l.foldl (fun v x=>rs v x.2.2.2.2 ((h x.2.1).getD 0)) v
def newV (h:Hr) (l:List E5) (v:R4):R4:=if allH h l=true then mix h l v else v
def okH (h:Hr):Prop:=∀ n y,h n=some y→byt y
def okY (l:List E5):Prop:=∀ x∈l,0≤x.2.2.2.2∧x.2.2.2.2≤3
theorem getD_ok {h:Hr} (hh:okH h) (n:Int):byt ((h n).getD 0):=by
 rcases e:h n with _ | y
 ·exact ⟨Int.le_refl _,by show (0:Int)≤255;omega⟩
 ·exact hh n y e
theorem mix_ok {h:Hr} (hh:okH h):∀ (l:List E5) {v:R4},okR v→okR (mix h l v)
 | [],_,hv=>hv
 | _ :: r,_,hv=>mix_ok hh r (rs_ok hv _ (getD_ok hh _))
theorem newV_ok {h:Hr} (hh:okH h) (l:List E5) {v:R4} (hv:okR v):okR (newV h l v):=by
 unfold newV
 split
 ·exact mix_ok hh l hv
 ·exact hv
theorem newV_nil (h:Hr) (v:R4):newV h [] v=v:=rfl
theorem mix_cons (h:Hr) (x:E5) (r:List E5) (v:R4):mix h (x :: r) v=mix h r (rs v x.2.2.2.2 ((h x.2.1).getD 0)):=rfl
theorem mix_rs {h:Hr} (a x:Int) (ha:0≤a∧a≤3):∀ (l:List E5) (v:R4),okY l→mix h l (rs v a x)=if l.any (fun y=>decide (y.2.2.2.2=a))=true then mix h l v else rs (mix h l v) a x
 | [],_,_=>rfl
 | y :: r,v,hy=>by
   have hr:okY r:=fun z hz=>hy z (List.mem_cons_of_mem _ hz);have hy0:=hy y (List.mem_cons_self ..);rw [mix_cons,mix_cons,List.any_cons]
   by_cases e:y.2.2.2.2=a
   ·rw [e,rs_twice,decide_eq_true (rfl:a=a),Bool.true_or,if_pos rfl]
   ·rw [decide_eq_false e,Bool.false_or,rs_swap _ (fun h=>e h.symm) ha hy0,mix_rs a x ha r _ hr]
theorem mix_mix {h:Hr} : ∀ (l:List E5) (v:R4),okY l→mix h l (mix h l v)=mix h l v
 | [],_,_=>rfl
 | x :: r,v,hy=>by
   have hr:okY r:=fun z hz=>hy z (List.mem_cons_of_mem _ hz);have hx:=hy x (List.mem_cons_self ..);have ih:=mix_mix (h:=h) r v hr;rw [mix_cons,mix_cons,mix_rs _ _ hx r v hr]
   split
   ·rename_i hany
    rw [mix_rs _ _ hx r _ hr,if_pos hany,ih]
   ·rename_i hany
    rw [rs_twice,mix_rs _ _ hx r _ hr,if_neg hany,ih]
theorem newV_newV {h:Hr} {l:List E5} (hy:okY l) (v:R4):newV h l (newV h l v)=newV h l v:=by
 unfold newV
 by_cases e:allH h l=true
 ·simp only [e,if_true]
  exact mix_mix l v hy
 ·simp only [e,if_false,Bool.false_eq_true]
def recF (h:Hr) (t:List E5) (V:Int→Int→Bool) (e:Fil):Fil:=(e.1,e.2.1,e.2.2.mapIdx fun k v=>if V e.1 k=true then newV h (grp t e.1 k) v else v)
def recV (h:Hr) (t:List E5) (V:Int→Int→Bool) (A:Abs):Abs:=A.map (recF h t V)
def recA (h:Hr) (t:List E5) (A:Abs):Abs:=recV h t (fun _ _=>true) A
section
variable {h:Hr} {t:List E5} {V:Int→Int→Bool} {A:Abs}
theorem recF_len (e:Fil):(recF h t V e).2.2.length=e.2.2.length:=by simp [recF]
theorem recF_get (e:Fil) (k:Nat):(recF h t V e).2.2[k]? = (e.2.2[k]?).map fun v=>if V e.1 k=true then newV h (grp t e.1 k) v else v:=by simp [recF]
theorem recF_rat (e:Fil) {k:Nat} (hk:k < e.2.2.length):rat (recF h t V e).2.2 k=if V e.1 k=true then newV h (grp t e.1 k) (rat e.2.2 k) else rat e.2.2 k:=by
 unfold rat;rw [List.getD_eq_getElem?_getD,List.getD_eq_getElem?_getD,recF_get,List.getElem?_eq_getElem hk]
 rfl
theorem rec_look (n:Int):Fs.look key n (recV h t V A)=(Fs.look key n A).map (recF h t V):=map_look (κ:=key) (κ':=key) (f:=recF h t V) (fun _=>rfl) n A
theorem rec_gB (n k:Int):gB (recV h t V A) n k=gB A n k:=by
 unfold gB;rw [rec_look]
 cases Fs.look key n A with
 | none=>rfl
 | some e=>simp [recF_len]
theorem rec_gV (n k:Int) (hg:gB A n k=true):gV (recV h t V A) n k=if V n k=true then newV h (grp t n k) (gV A n k) else gV A n k:=by
 unfold gB at hg;unfold gV;rw [rec_look]
 rcases e:Fs.look key n A with _ | c
 ·rw [e] at hg
  cases hg
 ·rw [e] at hg
  simp only [decide_eq_true_eq] at hg;obtain ⟨_,hk⟩:=look_some e;have hn:c.1=n:=hk;simp only [Option.map_some];rw [if_pos (by rw [recF_len];exact hg),if_pos hg,recF_rat c (by omega)];have ek:((k.toNat:Nat):Int)=k:=by omega
  rw [ek,hn]
theorem rec_none (hV:∀ n k,V n k=false):recV h t V A=A:=by
 unfold recV;rw [List.map_congr_left (g:=id) (fun e _=>?_),List.map_id];obtain ⟨n,p,l⟩:=e;simp only [recF,hV,id]
 congr 2
 exact List.ext_getElem? fun k=>by simp
theorem rec_congr {V':Int→Int→Bool} (hV:∀ n k,grp t n k≠[]→V n k=V' n k):recV h t V A=recV h t V' A:=by
 unfold recV;refine List.map_congr_left fun e _=>?_;unfold recF
 congr 2
 refine List.ext_getElem? fun k=>?_;simp only [List.getElem?_mapIdx]
 cases e.2.2[k]? with
 | none=>rfl
 | some v =>
   by_cases hg:grp t e.1 k = []
   ·simp [hg,newV_nil]
   ·simp [hV _ _ hg]
theorem rec_all (hV:∀ n k,grp t n k≠[]→V n k=true):recV h t V A=recA h t A:=rec_congr hV
def also (V:Int→Int→Bool) (n k:Int) (a b:Int):Bool:=V a b || decide (a=n∧b=k)
theorem rec_set (hA:OkA A) {n k:Int} (hg:gB A n k=true) (h0:k≠0) (hy:okY (grp t n k)):sA (recV h t V A) n k (newV h (grp t n k) (gV (recV h t V A) n k))=recV h t (also V n k) A:=by
 have hgr:gB (recV h t V A) n k=true:=(rec_gB n k).trans hg;have hsb:sB (recV h t V A) n k=true:=by unfold sB;rw [hgr,decide_eq_true h0];rfl
 have hv:=rec_gV (h:=h) (t:=t) (V:=V) n k hg;have hval:newV h (grp t n k) (gV (recV h t V A) n k)=newV h (grp t n k) (gV A n k):=by
  rw [hv]
  split
  ·exact newV_newV hy _
  ·rfl
 rw [hval];unfold gB at hg
 rcases e:Fs.look key n A with _ | c
 ·rw [e] at hg
  cases hg
 rw [e] at hg;simp only [decide_eq_true_eq] at hg;obtain ⟨hm,hk⟩:=look_some e;have hn:c.1=n:=hk;have hvA:gV A n k=rat c.2.2 k.toNat:=by unfold gV;rw [e];exact if_pos hg
 rw [hvA];unfold sA;rw [rec_look,e];simp only [Option.map_some];rw [if_pos hsb];obtain ⟨i,hi⟩:=List.getElem?_of_mem hm;have hsr:Srt key (recV h t V A):=(Fs.map_srt (κ:=key) (κ':=key) (f:=recF h t V) (fun _=>rfl)).2 hA.srt;have hir:(recV h t V A)[i]? = some (recF h t V c):=by unfold recV;rw [List.getElem?_map,hi];rfl
 rw [put_set (κ:=key) (c:=(n,(recF h t V c).2.1,(recF h t V c).2.2.set k.toNat (newV h (grp t n k) (rat c.2.2 k.toNat)))) hsr hir (show c.1=n from hn)];refine List.ext_getElem? fun j=>?_;rw [List.getElem?_set];have hlen:i < (recV h t V A).length:=(List.getElem?_eq_some_iff.1 hir).1
 by_cases hj:i=j
 ·subst hj
  rw [if_pos rfl,if_pos hlen];unfold recV;rw [List.getElem?_map,hi];simp only [Option.map_some,Option.some.injEq];unfold recF;refine Prod.ext hn.symm (Prod.ext rfl ?_);refine List.ext_getElem? fun q=>?_;simp only [List.getElem?_set,List.length_mapIdx,List.getElem?_mapIdx]
  by_cases hq:k.toNat=q
  ·subst hq
   have hql:k.toNat < c.2.2.length:=by omega
   rw [if_pos rfl,if_pos hql,List.getElem?_eq_getElem hql];have ek:((k.toNat:Nat):Int)=k:=by omega
   simp only [Option.map_some,ek,also,hn,and_self,decide_true,Bool.or_true,if_true]
   congr 2
   unfold rat;rw [List.getD_eq_getElem?_getD,List.getElem?_eq_getElem hql]
   rfl
  ·rw [if_neg hq]
   have hne:¬ (q:Int)=k:=by omega
   cases c.2.2[q]? with
   | none=>rfl
   | some v=>simp [also,hne]
 ·rw [if_neg hj]
  unfold recV;rw [List.getElem?_map,List.getElem?_map]
  rcases ej:A[j]? with _ | x
  ·rfl
  ·have hne:x.1≠n:=fun hx=>by
    have hxm:x∈A:=List.mem_of_getElem? ej;have q1:=look_at hA.srt hxm;rw [show key x=n from hx,e] at q1;injection q1 with q1;subst q1;have hi':=(List.getElem?_eq_some_iff.1 hi).1;have hj':=(List.getElem?_eq_some_iff.1 ej).1;have pw:=List.pairwise_iff_getElem.1 hA.srt;have g1:A[i]=c:=by have:=hi;rw [List.getElem?_eq_getElem hi'] at this;simpa using this
    have g2:A[j]=c:=by have:=ej;rw [List.getElem?_eq_getElem hj'] at this;simpa using this
    rcases Nat.lt_or_gt_of_ne hj with hlt | hlt
    ·have:=pw i j hi' hj' hlt
     rw [g1,g2] at this
     omega
    ·have:=pw j i hj' hi' hlt
     rw [g1,g2] at this
     omega
   simp only [Option.map_some,Option.some.injEq];unfold recF
   congr 2
   refine List.ext_getElem? fun q=>?_
   simp [also,hne]
theorem rec_out (hA:OkA A) {n k:Int} (hg:gB A n k=false):recV h t (also V n k) A=recV h t V A:=by
 unfold recV;refine List.map_congr_left fun e he=>?_;unfold recF
 congr 2
 refine List.ext_getElem? fun q=>?_;simp only [List.getElem?_mapIdx]
 by_cases hx:e.1=n∧(q:Int)=k
 ·obtain ⟨h1,h2⟩:=hx
  have q1:=look_at hA.srt he;rw [show key e=n from h1] at q1;unfold gB at hg;rw [q1] at hg;simp only [decide_eq_false_iff_not] at hg;rw [List.getElem?_eq_none (by omega)]
  rfl
 ·simp [also,hx]
end
end Go.Proofs.YtljnkaodhfnbbaaGreatDoor.Pa
namespace Go.Proofs.YtljnkaodhfnbbaaGreatDoor.Pa
open Go.RowKit
open Fl (R4 z4 rat goodF okR okL)
open Fs (Fil Abs key Srt OkA gB gV sB sA dA dE dD dV addE addA look_some look_none look_at map_look put_set)
open Ro (E5 z5 okE eat mayP eat_get)
open Ck (LL lat sN sE tE)
open Ua (bit frm te tp tb upd)
section
variable {h:Hr} {t:List E5} {V:Int→Int→Bool} {A:Abs}
def rcv1 (h:Hr) (l:List E5) (f r:Int) (A:Abs):Abs:=if (gB A f r && allH h l)=true then sA A f r (mix h l (gV A f r)) else A
theorem rcv1_next (hA:OkA A) {f r:Int} (h0:r≠0) (hy:okY (grp t f r)):rcv1 h (grp t f r) f r (recV h t V A)=recV h t (also V f r) A:=by
 unfold rcv1;rw [rec_gB]
 by_cases hg:gB A f r=true
 ·by_cases ha:allH h (grp t f r)=true
  ·rw [hg,ha,show (true && true)=true from rfl,if_pos rfl,← rec_set hA hg h0 hy]
   congr 1
   unfold newV;rw [if_pos ha]
  ·rw [if_neg (by simp [ha])]
   unfold recV;refine List.map_congr_left fun e _=>?_;unfold recF
   congr 2
   refine List.ext_getElem? fun q=>?_;simp only [List.getElem?_mapIdx]
   by_cases hx:e.1=f∧(q:Int)=r
   ·obtain ⟨h1,h2⟩:=hx
    rw [h1,h2];have:∀ v,newV h (grp t f r) v=v:=fun v=>by unfold newV;rw [if_neg ha]
    simp only [this,ite_self]
   ·simp [also,hx]
 ·rw [if_neg (by simp [hg]),rec_out hA (by simpa using hg)]
def seen (t:List E5) (j:Nat) (n k:Int):Bool:=(t.take j).any (mt n k)
theorem take_eat {j:Nat} (hj:j < t.length):t.take (j+1)=t.take j ++ [eat t j]:=by rw [List.take_add_one,eat_get hj];rfl
def ex1 (s:Abs×Int) (x:E5):Abs×Int:=if x.1=3 then (dA s.1 2 x.2.2.1 x.2.2.2.1 z4,dD s.1 2 x.2.2.1 x.2.2.2.1 s.2) else s
def exU (t:List E5) (s:Abs×Int) (j:Nat):Abs×Int:=(t.take j).foldl ex1 s
def apS (h:Hr) (t:List E5) (s:Abs×Int):Abs×Int:=t.foldl ex1 (recA h t s.1,s.2)
theorem exU_zero (s:Abs×Int):exU t s 0=s:=rfl
theorem exU_next (s:Abs×Int) {j:Nat} (hj:j < t.length):exU t s (j+1)=ex1 (exU t s j) (eat t j):=by unfold exU;rw [take_eat hj,List.foldl_append];rfl
theorem exU_yes (s:Abs×Int) {j:Nat} (hj:j < t.length) (h3:(eat t j).1=3):exU t s (j+1)=(dA (exU t s j).1 2 (eat t j).2.2.1 (eat t j).2.2.2.1 z4,dD (exU t s j).1 2 (eat t j).2.2.1 (eat t j).2.2.2.1 (exU t s j).2):=by
 rw [exU_next s hj];unfold ex1;rw [if_pos h3]
theorem exU_no (s:Abs×Int) {j:Nat} (hj:j < t.length) (h3:(eat t j).1≠3):exU t s (j+1)=exU t s j:=by
 rw [exU_next s hj];unfold ex1;rw [if_neg h3]
theorem exU_end (h:Hr) (s:Abs×Int):exU t (recA h t s.1,s.2) t.length=apS h t s:=by unfold exU apS;rw [List.take_length]
theorem dD_le {A:Abs} {o f r d:Int} : d≤dD A o f r d∧dD A o f r d≤d+1:=by unfold dD;split <;> omega
theorem exU_d (s:Abs×Int):∀ j,s.2≤(exU t s j).2∧(exU t s j).2≤s.2+j
 | 0=>by rw [exU_zero];omega
 | j+1=>by
   have ih:=exU_d s j
   by_cases hj:j < t.length
   ·rw [exU_next s hj]
    unfold ex1
    split
    ·have:=dD_le (A:=(exU t s j).1) (o:=2) (f:=(eat t j).2.2.1) (r:=(eat t j).2.2.2.1) (d:=(exU t s j).2)
     simp only
     omega
    ·omega
   ·have:exU t s (j+1)=exU t s j:=by unfold exU;rw [List.take_of_length_le (by omega),List.take_of_length_le (by omega)]
    rw [this]
    omega
end
def tn (F:Nat→Bool) (m:Int) (i:Nat):Bool:=if 1≤i∧i < 11 then F i != bit m i else F i
abbrev S2:=Int×Int
def z2:S2:=(0,0)
def pat (P:List S2) (i:Nat):S2:=P.getD i z2
def sq1 (s:Int) (F:Nat→Bool) (x:S2):Nat→Bool:=if x.1=s then tn F x.2 else F
def sq (P:List S2) (s:Int) (F:Nat→Bool) (j:Nat):Nat→Bool:=(P.take j).foldl (sq1 s) F
theorem sq_next (P:List S2) (s:Int) (F:Nat→Bool) {j:Nat} (hj:j < P.length):sq P s F (j+1)=sq1 s (sq P s F j) (pat P j):=by
 unfold sq;have:P.take (j+1)=P.take j ++ [pat P j]:=by
  rw [List.take_add_one,List.getElem?_eq_getElem hj];unfold pat;rw [List.getD_eq_getElem?_getD,List.getElem?_eq_getElem hj]
  rfl
 rw [this,List.foldl_append]
 rfl
theorem sq_yes (P:List S2) (s:Int) (F:Nat→Bool) {j:Nat} (hj:j < P.length) (h:(pat P j).1=s):sq P s F (j+1)=tn (sq P s F j) (pat P j).2:=by rw [sq_next P s F hj];unfold sq1;rw [if_pos h]
theorem sq_no (P:List S2) (s:Int) (F:Nat→Bool) {j:Nat} (hj:j < P.length) (h:(pat P j).1≠s):sq P s F (j+1)=sq P s F j:=by rw [sq_next P s F hj];unfold sq1;rw [if_neg h]
theorem and_2046_all:∀ r:Fin 2048,r.val &&& 2046=r.val / 2 * 2:=by decide +kernel
theorem and_2046 (x:Int):bits BinOp.and .i64 x 2046=x / 2 % 1024 * 2:=by
 have h:=Ua.and_i64 x 2046 (by decide);have h2:((x % 18446744073709551616).toNat &&& 2046:Nat)=(x % 18446744073709551616).toNat % 2048 / 2 * 2:=by
  have a:=and_2046_all ⟨(x % 18446744073709551616).toNat % 2048,Nat.mod_lt _ (by omega)⟩;simp only at a;rw [← a];have e:(x % 18446744073709551616).toNat % 2048=(x % 18446744073709551616).toNat &&& (2 ^ 11 - 1):=by rw [Nat.and_two_pow_sub_one_eq_mod]
  rw [e,Nat.and_assoc]
  rfl
 rw [show ((2046:Int))=((2046:Nat):Int) from rfl,h,h2]
 omega
theorem bit_2046 (x:Int) {i:Nat} (hi:i < 11):bit (x / 2 % 1024 * 2) i=(decide (1≤i) && bit x i):=by
 unfold bit
 rcases Nat.lt_or_ge i 1 with h | h
 ·obtain rfl:i=0:=by omega
  simp
 ·rw [decide_eq_true h,Bool.true_and,decide_eq_decide]
  obtain rfl | rfl | rfl | rfl | rfl | rfl | rfl | rfl | rfl | rfl:i=1∨i=2∨i=3∨i=4∨i=5∨i=6∨i=7∨i=8∨i=9∨i=10:=by omega
  all_goals simp only [Int.reducePow];omega
theorem tn_code (F:Nat→Bool) (m:Int) (i:Nat) (hi:i < 11):Ua.turn F (bits BinOp.and .i64 m 2046) 11 i=tn F m i:=by
 rw [and_2046];unfold Ua.turn tn;rw [if_pos hi,bit_2046 m hi]
 by_cases h:1≤i
 ·simp [h,hi]
 ·simp [h]
abbrev Sts:=List (Abs×Int)
def sat (S:Sts) (n:Int):Abs×Int:=S.getD n.toNat ([],0)
def vat (V:List Bool) (n:Int):Bool:=V.getD n.toNat false
def snB (S:Sts) (T:LL) (V:List Bool) (s:Int):Bool:=decide (0≤sN s T) && vat V (sN s T) && gB (sat S (sN s T)).1 (sE s T).2.2.1 (sE s T).2.2.2.1
def snX (S:Sts) (T:LL) (s:Int):Int:=rb (gV (sat S (sN s T)).1 (sE s T).2.2.1 (sE s T).2.2.2.1) (sE s T).2.2.2.2
def sbN (S:Sts) (T:LL) (V:List Bool) (s:Int):Int:=if snB S T V s=true then sN s T else -1
def sbX (S:Sts) (T:LL) (V:List Bool) (s:Int):Int:=if snB S T V s=true then snX S T s else 0
def lowF (_:Nat):Bool:=false
def frF (S:Sts) (T:LL) (V:List Bool) (P:List S2) (s:Int):Nat→Bool:=if snB S T V s=true then sq P s (frm (snX S T s) false) P.length else lowF
def hrB (S:Sts) (T:LL) (V:List Bool) (P:List S2) (s:Int):Bool:=snB S T V s && decide (te (frF S T V P s)=0) && !tp (frF S T V P s)
def hrV (S:Sts) (T:LL) (V:List Bool) (P:List S2) (s:Int):Int:=if hrB S T V P s=true then tb (frF S T V P s) else 0
def hr (S:Sts) (T:LL) (V:List Bool) (P:List S2):Hr:=fun s=>if 1≤s∧s≤16∧hrB S T V P s=true then some (hrV S T V P s) else none
theorem tb_byt (F:Nat→Bool):byt (tb F):=by
 unfold tb byt
 split
 ·omega
 ·have:=Ua.val_lt F 8
  omega
theorem hrV_byt (S:Sts) (T:LL) (V:List Bool) (P:List S2) (s:Int):byt (hrV S T V P s):=by
 unfold hrV
 split
 ·exact tb_byt _
 ·unfold byt;omega
theorem hr_ok (S:Sts) (T:LL) (V:List Bool) (P:List S2):okH (hr S T V P):=fun n y h=>by
 unfold hr at h
 split at h
 ·injection h with h;subst h;exact hrV_byt S T V P n
 ·cases h
def rdE (S:Sts) (T:LL) (V:List Bool):Int:=if 1≤S.length∧S.length≤32∧T.length=S.length∧V.length=S.length then tE T else 1
def rdS (S:Sts) (T:LL) (V:List Bool) (h:Hr):Sts:=(List.range S.length).map fun (i:Nat)=>if vat V i=true then apS h (lat T i) (sat S i) else sat S i
theorem rdS_len (S:Sts) (T:LL) (V:List Bool) (h:Hr):(rdS S T V h).length=S.length:=by simp [rdS]
theorem rdS_at (S:Sts) (T:LL) (V:List Bool) (h:Hr) {i:Nat} (hi:i < S.length):sat (rdS S T V h) i=if vat V i=true then apS h (lat T i) (sat S i) else sat S i:=by
 show (rdS S T V h).getD ((i:Int)).toNat _=_
 rw [Int.toNat_natCast,List.getD_eq_getElem?_getD];unfold rdS;rw [List.getElem?_map,List.getElem?_range hi]
 rfl
end Go.Proofs.YtljnkaodhfnbbaaGreatDoor.Pa
namespace Go.Proofs.YtljnkaodhfnbbaaGreatDoor.Fs
open Go.RowKit Go.Maps
open Fl (R4 z4 K4 rec4 rat goodF goodFB okR okL file arr4 row_cell row_frozen)
open Rw (Rd Ow At)
attribute [local irreducible] Sd.wpSd wpQuiet
theorem grown_of {w w':World} (h:Below w.heap.size w w'):w.grownBy w' none:=⟨h.os,h.tape,h.output,h.size,fun k hk _=>h.block k hk⟩
theorem srt_eq:∀ {A B:Abs},Srt key A→Srt key B→(∀ e,e∈A↔e∈B)→A=B
 | [],[],_,_,_=>rfl
 | [],b :: B,_,_,h=>by have:=(h b).2 (List.mem_cons_self ..);cases this
 | a :: A,[],_,_,h=>by have:=(h a).1 (List.mem_cons_self ..);cases this
 | a :: A,b :: B,ha,hb,h=>by
   obtain ⟨ha1,ha2⟩:=List.pairwise_cons.1 ha;obtain ⟨hb1,hb2⟩:=List.pairwise_cons.1 hb;have e:a=b:=by
    rcases List.mem_cons.1 ((h a).1 (List.mem_cons_self ..)) with e | e
    ·exact e
    ·rcases List.mem_cons.1 ((h b).2 (List.mem_cons_self ..)) with e2 | e2
     ·exact e2.symm
     ·have:=ha1 b e2;have:=hb1 a e;omega
   subst e
   congr 1
   refine srt_eq ha2 hb2 fun e=>⟨fun he=>?_,fun he=>?_⟩
   ·rcases List.mem_cons.1 ((h e).1 (List.mem_cons_of_mem _ he)) with rfl | h2
    ·have:=ha1 e he;omega
    ·exact h2
   ·rcases List.mem_cons.1 ((h e).2 (List.mem_cons_of_mem _ he)) with rfl | h2
    ·have:=hb1 e he;omega
    ·exact h2
theorem St.as {w:World} {s:Nat} {F:Nat→Prop} {A:Abs} {d d':Int} {m:Value} {T:TypeId} (h:St w s F A d) (row:w.heap[s]? = some (.cells #[m,.int .i64 d'] T (0,0))):∃ C,Sto w s F m C d∧C.map Ent.abs=A:=by
 obtain ⟨m',C,h,e⟩:=h;have r:=h.row.symm.trans row;injection r with r;injection r with r _ _;have e4:=congrArg (fun t:Array Value=>t[0]?) r
 simp at e4
 subst e4;exact ⟨C,h,e⟩
theorem below_new1 (W:World) (o:Obj):Below W.heap.size W (W.alloc o):=(Below.refl _ W).alloc (Nat.le_refl _) o
def CopySt (w:World) (A:Abs) (d:Int) (e:Ending) (w':World):Prop:=∃ g F,e = .returned (.pointer (some ⟨g,0,none⟩))∧St w' g F A d∧(∀ k,F k→w.heap.size≤k)∧Below w.heap.size w w'
structure CI (w:World) (b:Nat) (C:List Ent) (d:Int) (wr:World) (left:Lit→Bool) (cnt:Nat) (F:Nat→Prop) (C2:List Ent):Prop where
 rg:wr.ranges Tryz.prog 3 Rh b (w.heap.size+2) C.length (dat C) left cnt
 has:∀ kl,left kl=true→Maps.has (dat C) kl=true
 st:Sto wr (w.heap.size+1) F (.map (some w.heap.size)) C2 d
 mem:∀ e,e∈C2.map Ent.abs↔e∈C.map Ent.abs∧left (.int .i64 e.1)=false
 lo:∀ k,F k→w.heap.size≤k
 off:¬ F (w.heap.size+2)
 bel:Below w.heap.size w wr
theorem copy0 (w:World) (d:Int):Sto ((w.alloc (.map #[] 0)).alloc (.cells #[.map (some w.heap.size),.int .i64 d] 178)) (w.heap.size+1) (fun k=>k=w.heap.size∨k=w.heap.size+1) (.map (some w.heap.size)) [] d:=by
 have hz:(w.alloc (.map #[] 0)).heap.size=w.heap.size+1:=by simp
 have hr:=heap_alloc_new (w.alloc (.map #[] 0)) (.cells #[.map (some w.heap.size),.int .i64 d] 178);rw [hz] at hr;have mp:Mp (w.alloc (.map #[] 0)) (fun k=>k=w.heap.size∨k=w.heap.size+1) (.map (some w.heap.size)) []:=.inr ⟨w.heap.size,rfl,.inl rfl,World.ownsMap_made _ _ _ _⟩;refine ⟨hr,.inr rfl,mp.kept fun b hb=>?_,nofun,nofun,List.Pairwise.nil,OkA.nil,fun k hk=>?_⟩
 ·injection hb with hb
  injection hb with hb;subst hb;exact Below.heap_alloc _ _ _ (by omega)
 ·simp
  omega
set_option maxHeartbeats 4000000 in
theorem copy_some {w:World} {s b:Nat} {F:Nat→Prop} {C:List Ent} {d:Int} (S:Sto w s F (.map (some b)) C d):Calls Tryz.prog 84 #[.pointer (some ⟨s,0,none⟩)] w (CopySt w (C.map Ent.abs) d):=by
 have SS:=Lib.hid S;have hsl:=S.low s S.foot;obtain ⟨hFb,_⟩:=S.mp.isMap;have hbl:=S.low b hFb;have hown:w.ownsMap Tryz.prog 3 Rh b C.length (dat C):=by
  rcases S.mp with ⟨e,_⟩ | ⟨b',e,_,h⟩
  ·cases e
  ·injection e with e
   injection e with e;subst e;exact h
 have hmm:=@run_makeMap Tryz.prog;have e1:(w.alloc (.map #[] 0)).heap.size=w.heap.size+1:=by simp
 have B1:Below w.heap.size w (w.alloc (.map #[] 0)):=(Below.refl w.heap.size w).alloc (Nat.le_refl _) _;have c1:(w.alloc (.map #[] 0)).cell? ⟨s,1,none⟩=some (.int .i64 d):=row_cell (S.below B1).row 1;have S2:=Lib.hid (copy0 w d);have e2:((w.alloc (.map #[] 0)).alloc (.cells #[.map (some w.heap.size),.int .i64 d] 178)).heap.size=w.heap.size+2:=by simp
 have B2:Below w.heap.size w ((w.alloc (.map #[] 0)).alloc (.cells #[.map (some w.heap.size),.int .i64 d] 178)):=B1.alloc B1.size _;have c0:((w.alloc (.map #[] 0)).alloc (.cells #[.map (some w.heap.size),.int .i64 d] 178)).cell? ⟨s,0,none⟩=some (.map (some b)):=row_cell (S.below B2).row 0;have own2:((w.alloc (.map #[] 0)).alloc (.cells #[.map (some w.heap.size),.int .i64 d] 178)).ownsMap Tryz.prog 3 Rh b C.length (dat C):=hown.kept (grown_of B2) (by simp);clear S hown
 go_enter Tryz.func84,Tryz.ntmps84
 go_wp2_with (first
  | (at_range;refine wpList_range_own _ rfl _ 176 rfl 3 70 law Tryz.underlying176 _ b C.length _ rfl own2 ?_;intro w0 hrg0 hg0 hs0)
  | fail)
 go_frame
 clear c0 c1 hmm;rw [e2] at hrg0 hs0 ⊢
 go_loopw [4] (fun _ wr=>∃ left cnt F2 C2,Hid (CI w b C d wr left cnt F2 C2)) (fun _ wr=>wr.rangeLeft b (w.heap.size+2))
 case atStart =>
  have B3:Below ((w.alloc (.map #[] 0)).alloc (.cells #[.map (some w.heap.size),.int .i64 d] 178)).heap.size ((w.alloc (.map #[] 0)).alloc (.cells #[.map (some w.heap.size),.int .i64 d] 178)) w0:=(Below.refl _ _).grown hg0 (Nat.le_refl _) (fun j hj=>by cases hj);refine ⟨_,_,_,[],⟨hrg0,fun kl h=>h,S2.out.below B3,fun e=>⟨nofun,fun ⟨h1,h2⟩=>?_⟩,fun k hk=>by rcases hk with rfl | rfl <;> omega,fun hk=>by rcases hk with hk | hk <;> omega,B2.trans (B3.mono (by omega))⟩⟩;obtain ⟨c,hc,rfl⟩:=List.mem_map.1 h1;rw [dat_has,lb,Option.isSome_eq_false_iff,Option.isNone_iff_eq_none] at h2;exact absurd rfl (look_none.1 h2 c hc)
 case round =>
  obtain ⟨left,cnt,F2,C2,I⟩:=hrel;have hrg:=I.out.rg;clear hrg0 hg0 hs0 own2 B1 B2 e1 e2 S2
  go_wp2_with (first
   | (at_next;refine wpList_next_ranges _ rfl _ rfl 3 law Rh (Value.int .i64) id (fun key kl hkey=>by obtain ⟨x,rfl,_⟩:=Maps.keyOf_int_inv Tryz.underlying3 hkey;exact ⟨x,rfl⟩) (fun v y _=>⟨v,rfl⟩) b (w.heap.size+2) C.length _ _ _ rfl hrg ?_ ?_)
   | fail)
  ·intro hc0 hl0
   clear hrg;have RES:Hid (CopySt w (C.map Ent.abs) d (.returned (.pointer (some ⟨w.heap.size+1,0,none⟩))) wr):=by
    have e:C2.map Ent.abs=C.map Ent.abs:=srt_eq I.out.st.ok.srt SS.out.ok.srt fun e=>(I.out.mem e).trans ⟨fun h=>h.1,fun h=>⟨h,hl0 _⟩⟩;exact ⟨_,F2,rfl,⟨_,C2,I.out.st,e⟩,I.out.lo,I.out.bel⟩
   go_wp2
   go_ret
   exact RES.out
  ·intro x v kl y y2 w1 cnt1 hkey hlk hv hat hrg1 hlt hg1 hs1 hen
   obtain ⟨x',ex,rfl,hwx⟩:=Maps.keyOf_int_inv Tryz.underlying3 hkey
   cases ex
   have hh:=I.out.has _ hlk;rw [dat_has] at hh;obtain ⟨c,hc⟩:∃ c,look Ent.n x C=some c:=Option.isSome_iff_exists.1 hh;have hv':v=c.file:=by
    have h1:=hat (.held (file 0 (.slice none 0 0)));rw [dat_at,lv_some hc] at h1;obtain ⟨h2,_⟩:DataW.held v=y∧[]=y2:=by simpa [Rh] using hv
    have h3:=h1.trans h2.symm;injection h3 with h3;exact h3.symm
   subst hv';obtain ⟨fo,fg,fl,fn,fr,fm⟩:=SS.out.find hc;have hsb:w.heap.size+2 < w1.heap.size:=by have:=hrg.lt;omega
   have B1:Below w.heap.size w w1:=I.out.bel.grown hg1 I.out.bel.size (fun j hj=>by cases hj;omega);have O1:Only (fun k=>k=w.heap.size+2) wr w1:=Only.grown rfl hg1;have S1:=Lib.hid (I.out.st.only (G:=fun k=>k=w.heap.size+2) (fun k hk (e:k=w.heap.size+2)=>I.out.off (e ▸ hk)) O1);have R1:=Lib.hid (((SS.out.below B1).own c fm).rd);have BB:=Lib.hid B1;have RG:=Lib.hid hrg1;have RG0:=Lib.hid hrg;have FF:=Lib.hid (And.intro fo (And.intro fg (And.intro fl (And.intro fr hlt))));have HM:=Lib.hid (And.intro hlk hwx);clear hkey hh hat hv hc fo fg fl hrg1 hg1 hs1 B1 O1 fr hrg hlt hlk;obtain ⟨cn,cp,ca,cc,cl⟩:=c;simp only at fn;subst fn;unfold Ent.sl at R1;simp only at R1;have hq:cl.length≤260:=by have:cl.length≤256:=FF.out.2.1.2.2.2.1;omega
   unfold Ent.file Fl.file Ent.sl at hen ⊢;simp only at hen ⊢;go_upto_region 7 with fail;have H1:=heap_alloc_new w1 (.cells #[.int .i64 cp,.slice ca cl.length cc] 70);have hb1:=below_new1 w1 (.cells #[.int .i64 cp,.slice ca cl.length cc] 70);have hz2:(w1.alloc (.cells #[.int .i64 cp,.slice ca cl.length cc] 70)).heap.size=w1.heap.size+1:=by simp
   have W2g:Below w1.heap.size w1 (w1.alloc (.cells #[.int .i64 cp,.slice ca cl.length cc] 70)).drew:=hb1.trans ((Below.refl w1.heap.size _).drew);have S2:=Lib.hid (S1.out.below W2g);have C0:AddC (w.heap.size+1) (.map (some w.heap.size)) d w1.heap.size cp (.slice ca cl.length cc) (w1.alloc (.cells #[.int .i64 cp,.slice ca cl.length cc] 70)).drew:=⟨S2.out.row,H1⟩;have WB:=Lib.hid W2g;have hsz:w1.heap.size+1=(w1.alloc (.cells #[.int .i64 cp,.slice ca cl.length cc] 70)).drew.heap.size:=hz2.symm;clear H1 hb1 hz2 W2g hen;generalize (w1.alloc (.cells #[.int .i64 cp,.slice ca cl.length cc] 70))=W2 at *;have k0:=Sc.cell_in (C:=AddC (w.heap.size+1) (.map (some w.heap.size)) d w1.heap.size cp (.slice ca cl.length cc)) (a:=⟨w.heap.size+1,0,none⟩) (fun W' h=>row_cell h.row 0);have r0:=Sc.cell_in (C:=AddC (w.heap.size+1) (.map (some w.heap.size)) d w1.heap.size cp (.slice ca cl.length cc)) (a:=⟨w1.heap.size,0,none⟩) (fun W' h=>row_cell h.box 0);have r1:=Sc.cell_in (C:=AddC (w.heap.size+1) (.map (some w.heap.size)) d w1.heap.size cp (.slice ca cl.length cc)) (a:=⟨w1.heap.size,1,none⟩) (fun W' h=>row_cell h.box 1);have ne:Nonempty (Sc.In (AddC (w.heap.size+1) (.map (some w.heap.size)) d w1.heap.size cp (.slice ca cl.length cc))):=⟨⟨_,C0⟩⟩;refine Sc.start (AddC (w.heap.size+1) (.map (some w.heap.size)) d w1.heap.size cp (.slice ca cl.length cc)) [(false,0),(false,1),(false,2),(false,3),(false,4),(false,5),(true,6),(true,7)] (by kernel_rfl) (by kernel_rfl) (by kernel_rfl) C0 ?_;dsimp only [Sd.picks,List.getElem?_cons_succ,List.getElem?_cons_zero]
   repeat (refine Sd.lit ?_;quiet_step (fail);refine wpQuiet_nil ?_)
   clear k0 r0 r1;generalize W2.drew=Wd at *;refine Sd.call (by rfl) (fun K hK=>?_);have CA:=copied_any Wd cp (.slice ca cl.length cc) cl (R1.out.below WB.out) hq;unfold file at CA;go_simp;refine CA.mono ?_;rintro e w3 ⟨u,rfl,o3,b3⟩;have S3:=S2.out.below b3;have W3:=Lib.hid (WB.out.trans (b3.mono (by omega)));have G3:w3.heap[w1.heap.size]? = _:=(b3.block _ (by omega)).trans C0.box;refine hK _ _ (Sc.Cl.of ⟨S3.row,G3⟩) ?_;have O3:=Lib.hid o3;have M3:=Lib.hid S3.mp;have T3:=Lib.hid S3;have RR3:=Lib.hid S3.row;have GG3:=Lib.hid G3;have BD:=Lib.hid b3;clear hK K CA b3 o3 S3 G3 C0;obtain ⟨au,cu,rfl,_⟩:=O3.out.slice;refine Sd.call (by rfl) (fun K hK=>?_);have hl2:=T3.out.len;refine wp_put _ _ _ rfl rfl M3.out ⟨cn,cp,au,cu,cl⟩ rfl rfl HM.out.2 (by unfold maxLen;omega) (fun w4 m4 g4=>?_);have hws:=lt_of_block RR3.out;have hwg:=lt_of_block GG3.out;have row4:=(g4.block (w.heap.size+1) hws (by intro e;injection e with e;omega)).trans RR3.out;refine hK _ _ (Sc.Cl.of ⟨row4,(g4.block w1.heap.size hwg (by intro e;injection e with e;omega)).trans GG3.out⟩) ?_;have NEW:∃ F4 C4,Hid (CI w b C d w4 (fun z=>left z && !z.sameKey (.int .i64 cn)) cnt1 F4 C4):=by
    obtain ⟨P1,P2⟩:=S2.out.place (c:=⟨cn,cp,au,cu,cl⟩) BD.out g4 m4 O3.out FF.out.2.2.2.1 FF.out.2.1 FF.out.2.2.1;obtain ⟨C4,P3,P4⟩:=P1.as row4;have rg3:=RG.out.kept (grown_of W3.out) (by simp) (by simp);have rg4:=rg3.kept g4 (fun e=>by have:=Option.some.inj e;omega) (fun e=>by have:=Option.some.inj e;omega);have hB1:=hsb;have hb3:=W3.out.size;refine ⟨_,C4,⟨rg4,fun kl h=>I.out.has kl (by simp at h;exact h.1),P3,fun e=>?_,fun k hk=>?_,fun hk=>?_,(BB.out.trans (W3.out.mono (by omega))).grown g4 (by omega) (fun j hj=>by cases hj;exact Nat.le_refl _)⟩⟩
    ·rw [P4,abs_put,mem_put,I.out.mem]
     show _↔_∧(left (.int .i64 e.1) && !(Lit.int .i64 e.1).sameKey (.int .i64 cn))=false
     have hin:(cn,cp,cl)∈C.map Ent.abs:=List.mem_map.2 ⟨_,fm,rfl⟩;have hsk:(Lit.int .i64 e.1).sameKey (.int .i64 cn)=decide (e.1=cn):=by simp [Lit.sameKey]
     rw [hsk]
     constructor
     ·rintro (rfl | ⟨⟨h1,h2⟩,h3⟩)
      ·exact ⟨hin,by simp [Ent.abs]⟩
      ·exact ⟨h1,by rw [h2];rfl⟩
     ·rintro ⟨h1,h2⟩
      by_cases he:e.1=cn
      ·left
       have q1:=look_at SS.out.ok.srt h1;have q2:=look_at SS.out.ok.srt hin;have:look key (key e) (C.map Ent.abs)=look key (key (cn,cp,cl)) (C.map Ent.abs):=by rw [show key e=key (cn,cp,cl) from he]
       exact Option.some.inj (q1.symm.trans (this.trans q2))
      ·right
       simp [he] at h2
       exact ⟨⟨h1,h2⟩,he⟩
    ·rcases hk with hk | ⟨hk,_⟩
     ·exact I.out.lo k hk
     ·omega
    ·rcases hk with hk | ⟨hk,_⟩
     ·exact I.out.off hk
     ·omega
   clear hK K m4 g4 row4;refine Sd.done ?_;obtain ⟨F4,C4,NEW⟩:=NEW;have MS:Hid (w4.rangeLeft b (w.heap.size+2) < wr.rangeLeft b (w.heap.size+2)):=by
    show _ < _
    rw [NEW.out.rg.left_eq,RG0.out.left_eq];exact FF.out.2.2.2.2
   go_wp2
   go_roundw
   case rel=>exact ⟨_,_,_,_,NEW⟩
   case measure=>exact MS.out
set_option maxHeartbeats 1000000 in
theorem copy_none {w:World} {s:Nat} {F:Nat→Prop} {C:List Ent} {d:Int} (S:Sto w s F (.map none) C d):Calls Tryz.prog 84 #[.pointer (some ⟨s,0,none⟩)] w (CopySt w (C.map Ent.abs) d):=by
 obtain rfl:C = []:=by
  rcases S.mp with ⟨_,e⟩ | ⟨b,e,_⟩
  ·exact e
  ·cases e
 have hmm:=@run_makeMap Tryz.prog;have e1:(w.alloc (.map #[] 0)).heap.size=w.heap.size+1:=by simp
 have B1:Below w.heap.size w (w.alloc (.map #[] 0)):=(Below.refl w.heap.size w).alloc (Nat.le_refl _) _;have c1:(w.alloc (.map #[] 0)).cell? ⟨s,1,none⟩=some (.int .i64 d):=row_cell (S.below B1).row 1;have S2:=copy0 w d;have e2:((w.alloc (.map #[] 0)).alloc (.cells #[.map (some w.heap.size),.int .i64 d] 178)).heap.size=w.heap.size+2:=by simp
 have B2:Below w.heap.size w ((w.alloc (.map #[] 0)).alloc (.cells #[.map (some w.heap.size),.int .i64 d] 178)):=B1.alloc B1.size _;have c0:((w.alloc (.map #[] 0)).alloc (.cells #[.map (some w.heap.size),.int .i64 d] 178)).cell? ⟨s,0,none⟩=some (.map none):=row_cell (S.below B2).row 0;have hrg:=run_range_nilMap (P:=Tryz.prog) ((w.alloc (.map #[] 0)).alloc (.cells #[.map (some w.heap.size),.int .i64 d] 178)) 176 3 70 Tryz.underlying176;have hnx:∀ ty,(Instr.next (.pointer (some ⟨((w.alloc (.map #[] 0)).alloc (.cells #[.map (some w.heap.size),.int .i64 d] 178)).heap.size,0,none⟩)) false ty).run Tryz.prog (((w.alloc (.map #[] 0)).alloc (.cells #[.map (some w.heap.size),.int .i64 d] 178)).alloc (.mapIter none 0 #[] 0))=_:=fun ty=>run_next_nilMap _ ty 0 0 #[];have RES:Hid (CopySt w (([]:List Ent).map Ent.abs) d (.returned (.pointer (some ⟨w.heap.size+1,0,none⟩))) (((w.alloc (.map #[] 0)).alloc (.cells #[.map (some w.heap.size),.int .i64 d] 178)).alloc (.mapIter none 0 #[] 0))) :=
  ⟨_,_,rfl,⟨_,[],S2.below ((Below.refl _ _).alloc (Nat.le_refl _) _),rfl⟩,fun k hk=>by rcases hk with rfl | rfl <;> omega,B2.alloc B2.size _⟩
 rw [e2] at hrg hnx;clear S S2 B1 B2
 go_enter Tryz.func84,Tryz.ntmps84
 go_wp2;refine wp_loop_rounds 1 ?_;rw [rounds_succ];go_wp2
 go_ret
 exact RES.out
theorem copy_any {w:World} {s:Nat} {F:Nat→Prop} {A:Abs} {d:Int} (S:St w s F A d):Calls Tryz.prog 84 #[.pointer (some ⟨s,0,none⟩)] w (CopySt w A d):=by
 obtain ⟨m,C,h,rfl⟩:=S
 rcases h.mp with ⟨rfl,_⟩ | ⟨b,rfl,_⟩
 ·exact copy_none h
 ·exact copy_some h
end Go.Proofs.YtljnkaodhfnbbaaGreatDoor.Fs
namespace Go.Proofs.YtljnkaodhfnbbaaGreatDoor.Fs
open Go.RowKit Go.Maps
open Fl (R4 z4 K4 rec4 rat goodF goodFB okR okL file arr4 sto4 sto4_row sto4_below row_cell row_frozen at4)
open Rw (Rd Ow At)
theorem ret_i {a b:Int} (h:a=b):Ending.returned (.int .i64 a) = .returned (.int .i64 b):=by rw [h]
theorem at3 {w:World} {b off:Nat} {L:List Ent} (h:At E3 w b off L) {i:Nat} {c:Ent} (hc:L[i]? = some c) :
 w.cell? ⟨b,off+i * 3,none⟩=some (.int .i64 c.n)∧w.cell? ⟨b,off+i * 3+1,none⟩=some (.int .i64 c.p)∧w.cell? ⟨b,off+i * 3+2,none⟩=some c.sl:=by
 have hi:=(List.getElem?_eq_some_iff.1 hc).1;have e:L.getD i E3.dft=c:=by rw [List.getD_eq_getElem?_getD,hc];rfl
 exact ⟨h i hi 0 _ (by rw [e];rfl),h i hi 1 _ (by rw [e];rfl),h i hi 2 _ (by rw [e];rfl)⟩
def Ix (L:List Ent) (n q:Int):Prop:=(q = -1∧∀ x∈L,x.n≠n)∨∃ i:Nat,∃ c,q=i∧L[i]? = some c∧c.n=n∧∀ j,j < i→∀ e,L[j]? = some e→e.n≠n
theorem ix_none {L:List Ent} {n:Int} (h:look Ent.n n L=none):Ix L n (-1):=.inl ⟨rfl,look_none.1 h⟩
theorem ix_some {L:List Ent} {n:Int} {c:Ent} (hs:Srt Ent.n L) (h:look Ent.n n L=some c):∃ i:Nat,L[i]? = some c∧Ix L n i:=by
 obtain ⟨hm,hn⟩:=look_some h;obtain ⟨i,hi⟩:=List.getElem?_of_mem hm;refine ⟨i,hi,.inr ⟨i,c,rfl,hi,hn,fun j hj e he=>?_⟩⟩;obtain ⟨hi1,hi2⟩:=List.getElem?_eq_some_iff.1 hi;obtain ⟨hj1,hj2⟩:=List.getElem?_eq_some_iff.1 he;have:=List.pairwise_iff_getElem.1 hs j i hj1 hi1 hj;rw [hi2,hj2] at this
 omega
set_option maxHeartbeats 1000000 in
theorem rix_any {w:World} {r:Nat} {F:Nat→Prop} {v:Value} {L:List Ent} {d:Int} (R:Rst w r F v L d) {n q:Int} (hq:Ix L n q) :
 Calls Tryz.prog 114 #[.pointer (some ⟨r,0,none⟩),.int .i64 n] w fun e w'=>e = .returned (.int .i64 q)∧Below w.heap.size w w':=by
 have c0:w.cell? ⟨r,0,none⟩=some v:=row_cell R.row 0;have hlen:=R.len;obtain ⟨a,cap,rfl,_,_,h3⟩:=R.list.rd;have H3:=Lib.hid h3;have HQ:=Lib.hid hq;clear R h3 hq;generalize hn:L.length=N at *;have HN:=Lib.hid hn;have C0:=Lib.hid c0;clear hn c0
 go_enter Tryz.func114,Tryz.ntmps114
 go_wp2
 go_loopw [5] (fun i wr=>∃ k:Nat,k≤N∧i = .int .i64 k∧Hid (∀ j,j < k→∀ e,L[j]? = some e→e.n≠n)∧Hid (Below w.heap.size w wr)) (fun i _=>N - (intOf i).toNat)
 case atStart=>exact ⟨0,Nat.zero_le _,rfl,fun j hj=>by omega,Below.refl _ _⟩
 case round =>
  obtain ⟨k,hk,rfl,hb,B⟩:=hrel;have c0:=(B.out.cell (World.block_lt_of_cell? _ _ C0.out)).trans C0.out
  by_cases hlt:k < N
  ·have hkL:k < L.length:=by have:=HN.out;omega
   obtain ⟨c,hc⟩:∃ c,L[k]? = some c:=⟨_,List.getElem?_eq_getElem hkL⟩;obtain ⟨b,off,rfl,hA⟩:=H3.out (by omega);obtain ⟨x0,_,_⟩:=at3 (hA.below B.out) hc
   by_cases he:c.n=n
   ·have E:Hid (q=k):=by
     rcases HQ.out with ⟨_,h⟩ | ⟨i,c',e1,h1,h2,h3⟩
     ·exact absurd he (h c (List.mem_of_getElem? hc))
     ·have:i=k:=by
       rcases Nat.lt_trichotomy i k with h | h | h
       ·exact absurd h2 (hb.out i h c' h1)
       ·exact h
       ·exact absurd he (h3 k h c hc)
      show q=k
      rw [e1,this]
    clear hc hkL hA;generalize c.n=cn at *;subst he;go_wp2
    go_ret
    exact ⟨ret_i E.out.symm,B.out⟩
   ·have NB:Hid (∀ j,j < k+1→∀ e,L[j]? = some e→e.n≠n):=fun j hj e hje=>by
     by_cases ej:j=k
     ·subst ej
      rw [hc] at hje;obtain rfl:=Option.some.inj hje;exact he
     ·exact hb.out j (by omega) e hje
    clear hc hkL hA;generalize c.n=cn at *;go_wp2
    go_roundw
    case rel=>exact ⟨k+1,by omega,by go_num,NB,B⟩
    case measure=>simp [intOf];omega
  ·obtain rfl:k=N:=by omega
   have E:Hid (q = -1):=by
    rcases HQ.out with ⟨h,_⟩ | ⟨i,c',e1,h1,h2,h3⟩
    ·exact h
    ·have:=(List.getElem?_eq_some_iff.1 h1).1
     exact absurd h2 (hb.out i (by have:=HN.out;omega) c' h1)
   go_wp2
   go_ret
   exact ⟨ret_i E.out.symm,B.out⟩
theorem srtL {L:List Ent} (h:OkA (L.map Ent.abs)):Srt Ent.n L:=(map_srt (κ:=Ent.n) (κ':=key) abs_key).1 h.srt
end Go.Proofs.YtljnkaodhfnbbaaGreatDoor.Fs
namespace Go.Proofs.YtljnkaodhfnbbaaGreatDoor.Fs
open Go.RowKit Go.Maps
open Fl (R4 z4 K4 rec4 rat goodF goodFB okR okL file arr4 sto4 sto4_row sto4_below sto4_own sto4_other sto4_off own4 row_cell row_frozen at4 infoR)
open Rw (Rd Ow At)
attribute [local irreducible] Sd.wpSd wpQuiet Sf.wpSf
def Gd (F:Nat→Prop) (r:Nat) (W:World) (c:Ent):Prop:=Rd K4 W c.sl c.l∧(0 < c.l.length→∀ k,c.sl.ownBlock=some k→¬ (F k∨k=r))
theorem Rst.next {w W:World} {r:Nat} {F:Nat→Prop} {v v':Value} {L L':List Ent} {d d':Int} (R:Rst w r F v L d) (hF:∀ k,F k→k < w.heap.size) (O:Only (fun k=>k=r) w W) (row:W.heap[r]? = some (.cells #[v',.int .i64 d'] 50 (0,0)))
 (own:Ow E3 W w.heap.size 72 v' L') (mem:∀ c∈L',c∈L∨Gd F r W c) (ok:OkA (L'.map Ent.abs)):Rst W r F v' L' d':=by
 have hr:=lt_of_block R.row;refine ⟨row,R.off,⟨own.rd,fun _ k hk g=>?_,fun c hc=>?_,fun c hc=>?_⟩,ok⟩
 ·have:=(ow_new own k hk).1
  rcases g with g | g
  ·have:=hF k g;omega
  ·omega
 ·rcases mem c hc with h | h
  ·exact rd_only (G:=fun k=>k=r) (R.list.file c h) (fun h0 k hk e=>R.list.foff c h h0 k hk (.inr e)) O
  ·exact h.1
 ·rcases mem c hc with h | h
  ·exact R.list.foff c h
  ·exact h.2
structure RC (r:Nat) (v:Value) (d:Int) (g:Nat) (p:Int) (u:Value) (W:World):Prop where
 row:W.heap[r]? = some (.cells #[v,.int .i64 d] 50 (0,0))
 box:W.heap[g]? = some (.cells #[.int .i64 p,u] 70 (0,0))
end Go.Proofs.YtljnkaodhfnbbaaGreatDoor.Fs
namespace Go.Proofs.YtljnkaodhfnbbaaGreatDoor.Sz
open Go.RowKit
open Sd (light light_value picks)
open Sc (In)
def wpAnyZ (P:Program) (md:Region.Mode) (ops:Array Oper) (Q:Exit→Act→World→Prop) (S:World→Prop) (z:Nat):Nat→Array Bool→Act→World→Prop
 | 0,listed,a,w=>Region.ready md ops listed = []∧Q .normal a w
 | fuel+1,listed,a,w =>
   (Region.ready md ops listed = []→Q .normal a w) ∧
   ∀ i∈Region.ready md ops listed,wpOp P ops Q i (fun a' w'=>(i=z∨S w')∧wpAnyZ P md ops Q S z fuel (listed.setIfInBounds i true) a' w') a w
section
variable {P:Program} {md:Region.Mode} {ops:Array Oper} {Q:Exit→Act→World→Prop} {S:World→Prop} {z:Nat}
theorem any_of:∀ (fuel:Nat) (listed:Array Bool) (a:Act) (w:World),wpAnyZ P md ops Q S z fuel listed a w→wpAny P md ops Q fuel listed a w
 | 0,_,_,_,h=>h
 | fuel+1,_,_,_,h=>⟨h.1,fun i hi=>wpOp_mono (fun a' w' h'=>any_of fuel _ a' w' h'.2) (h.2 i hi)⟩
def Blocks (md:Region.Mode) (ops:Array Oper) (z i:Nat) (listed:Array Bool):Prop:=∃ oz e,ops[z]? = some oz∧e∈oz.after∧Region.binds md e=true∧listed.getD e.on true=false∧(e.on=i∨∃ ok,ops[e.on]? = some ok∧∃ e'∈ok.after,Region.binds md e'=true∧e'.on=i)
theorem first {i:Nat} {oi:Oper} {v:Value} (hi:ops[i]? = some oi) (hsel:∀ (j:Nat) (o:Oper) cs b,ops[j]? = some o→o.op≠.select cs b)
 (hQ:∀ c a w,Q (.panic c) (a.put oi.dst v) w→Q (.panic c) a w) :
 ∀ (fuel:Nat) (listed:Array Bool) (a:Act) (w:World),Blocks md ops z i listed →
  (∀ j oj,ops[j]? = some oj→j≠i→listed.getD j true=false→(∀ e∈oj.after,Region.binds md e=true→e.on≠i)→oi.apart ops oj=true) →
  i∈Region.ready md ops listed→YieldsIf P ops S oi v a→S w →
  wpAnyZ P md ops Q S z fuel (listed.setIfInBounds i true) (a.put oi.dst v) w→wpAnyZ P md ops Q S z (fuel+1) listed a w:=by
 intro fuel
 induction fuel with
 | zero =>
   intro listed a w _ _ hr hy hS H
   refine ⟨fun h=>(by rw [h] at hr;cases hr),fun j hj=>?_⟩
   by_cases hji:j=i
   ·subst hji;exact hy.wpOp hi hS ⟨.inr hS,H⟩
   ·have:=ready_mono hj hji
    rw [H.1] at this
    cases this
 | succ fuel ih =>
   intro listed a w hz hfree hr hy hS H
   refine ⟨fun h=>(by rw [h] at hr;cases hr),fun j hj=>?_⟩
   by_cases hji:j=i
   ·subst hji;exact hy.wpOp hi hS ⟨.inr hS,H⟩
   ·have h1:=H.2 j (ready_mono hj hji)
    obtain ⟨hjun,oj,hoj,hall⟩:=mem_ready.1 hj;have hnot:∀ e∈oj.after,Region.binds md e=true→e.on≠i:=fun e he hb heq=>by
     have h1:=hall e he hb;have h0:=(mem_ready.1 hr).1;rw [heq] at h1
     rcases Nat.lt_or_ge i listed.size with h' | h'
     ·simp [h'] at h0 h1;rw [h0] at h1;cases h1
     ·simp [Array.getElem?_eq_none h'] at h1
    obtain ⟨oz,ez,hoz,hez,hbz,hnl,hor⟩:=hz;have low:∀ {k:Nat},listed.getD k true=false→listed.getD k false=false:=fun {k} h=>by
     rcases Nat.lt_or_ge k listed.size with h' | h'
     ·simp [h'] at h ⊢;exact h
     ·simp [Array.getElem?_eq_none h'] at h
    have hjz:j≠z:=fun e=>by
     subst e;rw [hoj] at hoz;obtain rfl:=Option.some.inj hoz;have:=hall ez hez hbz;rw [low hnl] at this
     cases this
    have hje:j≠ez.on:=fun e=>by
     rcases hor with h | ⟨ok,hok,e',he',hb',hon⟩
     ·exact hji (e.trans h)
     ·rw [← e,hoj] at hok
      obtain rfl:=Option.some.inj hok;exact hnot e' he' hb' hon
    have hz':Blocks md ops z i (listed.setIfInBounds j true):=⟨oz,ez,hoz,hez,hbz,by rw [getD_set_ne true hje];exact hnl,hor⟩;have h2:=wpOp_putIf hoj (hfree j oj hoj hji hjun hnot) (fun cs b=>hsel i oi cs b hi) (fun cs b=>hsel j oj cs b hoj) hQ hy h1;have hfree':∀ k ok,ops[k]? = some ok→k≠i→(listed.setIfInBounds j true).getD k true=false →
     (∀ e∈ok.after,Region.binds md e=true→e.on≠i)→oi.apart ops ok=true:=fun k ok hk hki hun hno=>by
     refine hfree k ok hk hki ?_ hno
     by_cases hjk:j=k
     ·subst hjk;exact hjun
     ·rw [getD_set_ne true hjk] at hun;exact hun
    refine wpOp_mono (fun a' w' h3=>?_) h2;have hS':S w':=h3.2.1.resolve_left hjz;refine ⟨.inr hS',ih (listed.setIfInBounds j true) a' w' hz' hfree' (ready_mono hr (Ne.symm hji)) h3.1 hS' ?_⟩;rw [Array.setIfInBounds_comm _ _ hji];exact h3.2.2
theorem fin {listed:Array Bool} {a:Act} {w:World} (hr:Region.ready md ops listed = []) (h:Q .normal a w) :
 ∀ fuel,wpAnyZ P md ops Q S z fuel listed a w
 | 0=>⟨hr,h⟩
 | _+1=>⟨fun _=>h,by rw [hr];simp⟩
theorem all {rs:List Nat} {fuel:Nat} {listed:Array Bool} {a:Act} {w:World} (hr:Region.ready md ops listed=rs) (hne:rs≠[])
 (h:∀ i∈rs,wpOp P ops Q i (fun a' w'=>(i=z∨S w')∧wpAnyZ P md ops Q S z fuel (listed.setIfInBounds i true) a' w') a w):wpAnyZ P md ops Q S z (fuel+1) listed a w :=
 ⟨fun h0=>absurd (hr ▸ h0) hne,hr ▸ h⟩
end
def blocksB (ops:Array Oper) (z i:Nat) (listed:Array Bool):Bool:=match ops[z]? with
 | some oz=>oz.after.any fun e=>Region.binds .any e && !listed.getD e.on true && (e.on == i || match ops[e.on]? with
   | some ok=>ok.after.any fun e'=>Region.binds .any e' && e'.on == i
   | none=>false)
 | none=>false
theorem blocks_of {ops:Array Oper} {z i:Nat} {listed:Array Bool} (h:blocksB ops z i listed=true):Blocks .any ops z i listed:=by
 unfold blocksB at h
 cases ho:ops[z]? with
 | none=>rw [ho] at h;cases h
 | some oz =>
   rw [ho] at h;obtain ⟨e,he,hb⟩:=Array.any_eq_true'.1 h;simp only [Bool.and_eq_true,Bool.not_eq_true',Bool.or_eq_true,beq_iff_eq] at hb;obtain ⟨⟨hb1,hb2⟩,hb3⟩:=hb;refine ⟨oz,e,ho,he,hb1,hb2,?_⟩
   rcases hb3 with h3 | h3
   ·exact .inl h3
   ·cases hk:ops[e.on]? with
    | none=>rw [hk] at h3;cases h3
    | some ok =>
      rw [hk] at h3;obtain ⟨e',he',hb'⟩:=Array.any_eq_true'.1 h3;simp only [Bool.and_eq_true,beq_iff_eq] at hb';exact .inr ⟨ok,rfl,e',he',hb'.1,hb'.2⟩
def good (ops:Array Oper) (z:Nat):List (Bool×Nat)→Array Bool→Nat→Bool
 | _,_,0=>false
 | [],listed,_+1=>Region.ready .any ops listed == [z] && (Region.ready .any ops (listed.setIfInBounds z true)).isEmpty
 | (h,i) :: r,listed,fuel+1 =>
   (match ops[i]? with
    | some o=>i != z && (if h then Region.ready .any ops listed == [i] else light o.op && Region.free .any ops listed i && (Region.ready .any ops listed).contains i && blocksB ops z i listed)
    | none=>false) && good ops z r (listed.setIfInBounds i true) fuel
def wpSz (P:Program) (ops:Array Oper) (C:World→Prop) (Q:Exit→Act→World→Prop) (E:Act→World→Prop):List (Bool×Oper)→Act→World→Prop
 | [],a,w=>E a w
 | (false,o) :: r,a,w=>wpQuiet P ops C (fun a'=>wpSz P ops C Q E r a' w) [o] a
 | (true,o) :: r,a,w=>if Region.wanted o (yielded ops a.tmps) then o.wp P a w (fun a' w'=>C w'∧wpSz P ops C Q E r a' w') Q else wpSz P ops C Q E r (a.put o.dst undef) w
theorem sound {P:Program} {l:List Oper} {C:World→Prop} {Q:Exit→Act→World→Prop} {z:Nat} {oz:Oper} (hs:Region.noSelect l.toArray=true) (hQ:∀ c d v a w,Q (.panic c) (Act.put a d v) w→Q (.panic c) a w)
 (hoz:l[z]? = some oz) (hgd:oz.guard=none) :
 ∀ (sc:List (Bool×Nat)) (listed:Array Bool) (fuel:Nat) (a:Act) (w:World),good l.toArray z sc listed fuel=true→C w→wpSz P l.toArray C Q (fun a w=>oz.wp P a w (fun a' w'=>Q .normal a' w') Q) (picks l sc) a w→wpAnyZ P .any l.toArray Q C z fuel listed a w
 | [],listed,0,a,w,hg,_,h=>by cases hg
 | [],listed,fuel+1,a,w,hg,_,h=>by
   unfold good at hg;simp only [Bool.and_eq_true,beq_iff_eq,List.isEmpty_iff] at hg;refine all hg.1 (by simp) fun j hj=>?_;obtain rfl:j=z:=by simpa using hj
   have hop:l.toArray[j]? = some oz:=by rw [List.getElem?_toArray];exact hoz
   unfold wpOp;simp only [hop];rw [if_pos (by simp [Region.wanted,hgd])];exact .inl (Oper.wp_mono (fun a' w' k=>⟨by simp,fin hg.2 k fuel⟩) h)
 | _ :: _,_,0,_,_,hg,_,_=>by cases hg
 | (b,i) :: r,listed,fuel+1,a,w,hg,hC,h=>by
   unfold good at hg;simp only [Bool.and_eq_true] at hg;obtain ⟨hg1,hg2⟩:=hg;have hll:l.toArray[i]? = l[i]?:=by rw [List.getElem?_toArray]
   cases ho:l[i]? with
   | none=>rw [hll,ho] at hg1;cases hg1
   | some o =>
     rw [hll,ho] at hg1;simp only [Bool.and_eq_true,bne_iff_ne,ne_eq] at hg1;obtain ⟨_,hg1⟩:=hg1;have hop:l.toArray[i]? = some o:=hll.trans ho;have hp:picks l ((b,i) :: r)=(b,o) :: picks l r:=by rw [picks,ho]
     rw [hp] at h
     cases b with
     | true =>
       simp only [if_true,beq_iff_eq] at hg1;refine all hg1 (by simp) fun j hj=>?_;obtain rfl:j=i:=by simpa using hj
       unfold wpOp;simp only [hop];unfold wpSz at h
       by_cases hw:Region.wanted o (yielded l.toArray a.tmps)=true
       ·rw [if_pos hw] at h ⊢
        exact .inl (Oper.wp_mono (fun a' w' ⟨c,k⟩=>⟨.inr c,sound hs hQ hoz hgd r _ fuel a' w' hg2 c k⟩) h)
       ·rw [if_neg hw] at h ⊢
        exact ⟨.inr hC,sound hs hQ hoz hgd r _ fuel _ w hg2 hC h⟩
     | false =>
       simp only [Bool.false_eq_true,if_false,Bool.and_eq_true] at hg1;obtain ⟨⟨⟨hk,hf⟩,hr⟩,hbl⟩:=hg1;have hr':i∈Region.ready .any l.toArray listed:=by simpa using hr
       unfold wpSz at h
       by_cases hw:Region.wanted o (yielded l.toArray a.tmps)=true
       ·unfold wpQuiet at h
        rw [if_pos hw] at h;obtain ⟨v,hv,hn⟩:=h;refine first (v:=v) hop (Region.noSelect_spec hs) (fun c a w=>hQ c _ _ a w) fuel listed a w (blocks_of hbl) (Region.free_spec hop hf) hr' (.inl ⟨hw,fun w' hw'=>?_⟩) hC (sound hs hQ hoz hgd r _ fuel _ w hg2 hC hn)
        have q:=hv w' hw';unfold Oper.quietAt at q
        cases e:(execOp a.eval o).run P w' with
        | halt x w1=>rw [e] at q;cases q
        | ok n w1 =>
          obtain ⟨u,rfl⟩:=light_value hk e;rw [e] at q;obtain ⟨e1,e2⟩:=q;rw [e1,e2]
       ·unfold wpQuiet at h
        rw [if_neg hw] at h;exact first (v:=undef) hop (Region.noSelect_spec hs) (fun c a w=>hQ c _ _ a w) fuel listed a w (blocks_of hbl) (Region.free_spec hop hf) hr' (.inr ⟨by simpa using hw,rfl⟩) hC (sound hs hQ hoz hgd r _ fuel _ w hg2 hC h)
theorem start {P:Program} {id:Nat} {l:List Oper} {Q:Exit→Act→World→Prop} {a:Act} {w:World} {oz:Oper} (C:World→Prop) (sc:List (Bool×Nat)) (z:Nat) (hm:P.follows .mixedOrders=true) (hs:Region.noSelect l.toArray=true)
 (hg:good l.toArray z sc (Array.replicate l.toArray.size false) l.toArray.size=true) (hoz:l[z]? = some oz) (hgd:oz.guard=none) (h0:C w.drew)
 (h:wpSz P l.toArray (fun w'=>∃ p:In C,w'=p.world) (NoPanic Q) (fun a w=>oz.wp P a w (fun a' w'=>NoPanic Q .normal a' w') (NoPanic Q)) (picks l sc) a w.drew):(Code.region id l.toArray true).wp P Q a w :=
 wp_region_noPanic (wp_region_any hm (any_of _ _ _ _ (sound hs (fun _ _ _ _ _ h=>h) hoz hgd sc _ _ a _ hg (Sc.Cl.of h0) h)))
section
variable {P:Program} {ops:Array Oper} {C:World→Prop} {Q:Exit→Act→World→Prop} {E:Act→World→Prop} {a:Act} {w:World} {o:Oper} {r:List (Bool×Oper)}
theorem done (h:E a w):wpSz P ops C Q E [] a w:=h
theorem lit (h:wpQuiet P ops C (fun a'=>wpSz P ops C Q E r a' w) [o] a):wpSz P ops C Q E ((false,o) :: r) a w:=h
theorem call (hw:Region.wanted o (yielded ops a.tmps)=true) (h:∀ K:Act→World→Prop,(∀ a w,C w→wpSz P ops C Q E r a w→K a w)→o.wp P a w K Q):wpSz P ops C Q E ((true,o) :: r) a w:=by
 unfold wpSz;rw [if_pos hw];exact h _ fun a w c k=>⟨c,k⟩
end
end Go.Proofs.YtljnkaodhfnbbaaGreatDoor.Sz
namespace Go.Proofs.YtljnkaodhfnbbaaGreatDoor.Fs
open Go.RowKit Go.Maps
open Fl (R4 z4 K4 rec4 rat goodF goodFB okR okL file arr4 row_cell row_frozen rgood_any)
open Rw (Rd Ow At)
attribute [local irreducible] Sd.wpSd wpQuiet Sf.wpSf Sz.wpSz
theorem wp_all {α:Type} {Kd:Rw.Kind α} {P:Program} {K:Act→World→Prop} {w:World} {E:TypeId} {o:Oper} {a:Act} {Q:Exit→Act→World→Prop} {T:TypeId} {z:Value} {bytes:Nat} (ht:P.underlying T=some (.slice E))
 (hi:(P.info? E).map (fun i=>(i.zero,i.size,i.bytes))=some (some z,Kd.n,bytes)) (hz:z.cells.size=Kd.n) (hby:bytes≤64) (s x:Operand)
 (ho:o.op = .call { callee:=.builtin .append,args:=#[s,x],argTypes:=#[T,T] }) (B:Nat) (v:Value) (l:List α) (hs:a.eval s=v) (hown:Ow Kd w B E v l)
 (u:Value) (y:List α) (hx:a.eval x=u) (hu:Rd Kd w u y) (hlen:l.length+y.length < 2199023255552) (hB:B≤w.heap.size)
 (h:∀ v' w',Ow Kd w' B E v' (l ++ y)→Below B w w'→K (a.put o.dst v') w'):o.wp P a w K Q:=by
 obtain ⟨i0,hi0,hz0,hz1,hz2⟩:=info_parts hi;obtain ⟨ad,cap,rfl,h1,h2,h3⟩:=hu;have hb:(l.length+y.length) * bytes≤140737488355328:=Nat.le_trans (Nat.mul_le_mul (show l.length+y.length≤2199023255552 by omega) hby) (by omega)
 by_cases h0:0 < y.length
 ·obtain ⟨b,off,rfl,hA⟩:=h3 h0
  refine wp_append_own _ s x T ho B E i0 z Kd.n bytes ht hi0 hz0 hz1 hz2 hz Kd.pos v l.length (Kd.flat l) hs hown ⟨b,off,none⟩ y.length cap (Kd.flat y) hx (Rw.flat_length Kd y) ?_ (Rw.flat_one Kd y) (by unfold maxLen;omega) hb hB ?_
  ·intro j u hj
   have e:(⟨b,off,none⟩:Addr).add j=⟨b,off+j,none⟩:=by simp [Addr.add]
   rw [e];exact hA.flat j u hj
  ·intro v' w' g2 g3 _
   refine h v' w' ?_ ((Below.refl B w).grown g3 hB fun k hk=>(World.ownsRow.lt hown k hk).1)
   show w'.ownsRow B E Kd.n v' (l ++ y).length (Kd.flat (l ++ y))
   rw [Rw.flat_append,List.length_append];exact g2
 ·have ey:y = []:=List.length_eq_zero_iff.1 (by omega)
  subst ey
  cases ad with
  | none =>
    obtain rfl:=h1.2 rfl;have hrun:=run_append_owned_none (P:=P) (w:=w) B T o.type E i0 Kd.n ht hi0 v l.length (Kd.flat l) hown;unfold Oper.wp;have hk:=h v w (by rw [List.append_nil];exact hown) (Below.refl _ _);have hx':a.eval x = .slice none 0 0:=hx
    simp [execOp,ho,resolve,invoke,builtin,hs,hx',hrun,Result.andThen]
    exact hk
  | some ad =>
    refine wp_append_own _ s x T ho B E i0 z Kd.n bytes ht hi0 hz0 hz1 hz2 hz Kd.pos v l.length (Kd.flat l) hs hown ad 0 cap [] hx (by simp) (by simp) (by simp) (by unfold maxLen;simp at hlen;omega) (by simpa using hb) hB ?_
    intro v' w' g2 g3 _
    refine h v' w' ?_ ((Below.refl B w).grown g3 hB fun k hk=>(World.ownsRow.lt hown k hk).1)
    show w'.ownsRow B E Kd.n v' (l ++ []).length (Kd.flat (l ++ []))
    rw [List.append_nil]
    simpa using g2
theorem run_tail {w:World} {v:Value} {L:List Ent} (R:Rd E3 w v L) (k:Nat) (hk:k≤L.length):∃ ua uc,(∀ W,(Instr.sliceAt 47 v (some (.int .i64 (k:Int))) none none).run Tryz.prog W = .ok (.slice ua (L.length - k) uc) W)∧Rd E3 w (.slice ua (L.length - k) uc) (L.drop k):=by
 obtain ⟨a,cap,rfl,⟨h1,h2⟩,h3,h4⟩:=R;have hl:(L.drop k).length=L.length - k:=List.length_drop
 cases a with
 | none =>
   obtain rfl:=h2 rfl;have hL:L.length=0:=by omega
   obtain rfl:k=0:=by omega
   refine ⟨none,0,fun W=>?_,none,0,by rw [hl],⟨by rw [hl];omega,fun _=>rfl⟩,by unfold maxLen;omega,fun h=>by rw [hl] at h;omega⟩;rw [hL];go_simp
 | some a =>
   by_cases hc:cap=k
   ·refine ⟨some a,0,fun W=>?_,some a,0,by rw [hl],⟨by rw [hl];omega,nofun⟩,by unfold maxLen;omega,fun h=>by rw [hl] at h;omega⟩
    subst hc;have:L.length - cap=0:=by omega
    obtain ⟨b,off,sp⟩:=a;go_simp
   ·by_cases h0:0 < L.length
    ·obtain ⟨b,off,e,hA⟩:=h4 h0
     obtain rfl:a=⟨b,off,none⟩:=by injection e
     refine ⟨some ⟨b,off+k * 3,none⟩,cap - k,fun W=>?_,some ⟨b,off+k * 3,none⟩,cap - k,by rw [hl],⟨by rw [hl];omega,nofun⟩,by omega,fun h=>⟨b,off+k * 3,rfl,fun i hi j u hu=>?_⟩⟩
     ·go_simp
     ·rw [hl] at hi
      have hu':(E3.enc (L.getD (k+i) E3.dft))[j]? = some u:=by rw [← hu,List.getD_eq_getElem?_getD,List.getD_eq_getElem?_getD,List.getElem?_drop]
      have c:=hA (k+i) (by omega) j u hu';have e:off+(k+i) * E3.n+j=off+k * 3+i * E3.n+j:=by show off+(k+i) * 3+j=off+k * 3+i * 3+j;omega
      rw [e] at c;exact c
    ·obtain rfl:k=0:=by omega
     have hL:L.length=0:=by omega
     obtain ⟨b,off,sp⟩:=a;refine ⟨some (Addr.add ⟨b,off,sp⟩ (0 * 3)),cap,fun W=>?_,some (Addr.add ⟨b,off,sp⟩ (0 * 3)),cap,by rw [hl],⟨by rw [hl];omega,nofun⟩,h3,fun h=>by rw [hl] at h;omega⟩;go_simp
def RAPost (w:World) (r:Nat) (F:Nat→Prop) (d z:Int) (A':Abs) (e:Ending) (w':World):Prop:=e = .returned (.int .i64 z)∧Rs w' r F A' d∧Only (fun k=>k=r) w w'
theorem radd_1 (w:World) (r:Nat) (n p:Int) (a:Option Addr) (q cap:Nat) (hn:¬ (0≤n∧n≤63)):Calls Tryz.prog 54 #[.pointer (some ⟨r,0,none⟩),.int .i64 n,.agg #[.int .i64 p,.slice a q cap]] w fun e w'=>e = .returned (.int .i64 1)∧Below w.heap.size w w':=by
 by_cases h:n < 0
 ·go_enter Tryz.func54,Tryz.ntmps54
  go_wp2
  go_ret
  exact ⟨rfl,(Below.refl w.heap.size w).alloc (Nat.le_refl _) _⟩
 ·have h2:63 < n:=by omega
  go_enter Tryz.func54,Tryz.ntmps54
  go_wp2
  go_ret
  exact ⟨rfl,(Below.refl w.heap.size w).alloc (Nat.le_refl _) _⟩
theorem radd_2 (w:World) (r:Nat) (n p:Int) (a:Option Addr) (q cap:Nat) (l:List R4) (R:Rd K4 w (.slice a q cap) l) (hn:0≤n∧n≤63) (hg:¬ goodF p l):Calls Tryz.prog 54 #[.pointer (some ⟨r,0,none⟩),.int .i64 n,.agg #[.int .i64 p,.slice a q cap]] w fun e w'=>e = .returned (.int .i64 2)∧Below w.heap.size w w':=by
 obtain ⟨h1,hB,hz⟩:=box_file w p (.slice a q cap);have HB:=Lib.hid hB;have GA:=rgood_any _ p (.slice a q cap) l (R.below hB);rw [show goodFB p l=false from decide_eq_false hg] at GA;have HG:=Lib.hid GA;have n1:0≤n:=hn.1;have n2:n≤63:=hn.2;clear h1 hB hz R GA hg hn;unfold file at HG
 go_enter Tryz.func54,Tryz.ntmps54
 go_wp2_with fail;refine HG.out.mono ?_;rintro e w1 ⟨rfl,b1⟩;have B1:=Lib.hid (HB.out.trans (b1.mono HB.out.size));clear b1 HG HB;go_wp2
 go_ret
 exact ⟨rfl,B1.out⟩
theorem radd_10 {w:World} {r:Nat} {F:Nat→Prop} {v:Value} {L:List Ent} {d:Int} (RS:Rst w r F v L d) (n p:Int) (a:Option Addr) (q cap:Nat) (l:List R4) (R:Rd K4 w (.slice a q cap) l) (hn:0≤n∧n≤63) (hg:goodF p l) {i:Nat} (hq:Ix L n i):Calls Tryz.prog 54 #[.pointer (some ⟨r,0,none⟩),.int .i64 n,.agg #[.int .i64 p,.slice a q cap]] w fun e w'=>e = .returned (.int .i64 10)∧Below w.heap.size w w':=by
 obtain ⟨h1,hB,hz⟩:=box_file w p (.slice a q cap);have HB:=Lib.hid hB;have GA:=rgood_any _ p (.slice a q cap) l (R.below hB);rw [show goodFB p l=true from decide_eq_true hg] at GA;have HG:=Lib.hid GA;have IX:=Lib.hid (fun W (hb:Below w.heap.size w W)=>rix_any (RS.below hb) hq);have n1:0≤n:=hn.1;have n2:n≤63:=hn.2;have hi0:¬ ((i:Int) < 0):=by omega
 clear h1 hB hz R GA hg hn RS hq;unfold file at HG
 go_enter Tryz.func54,Tryz.ntmps54
 go_wp2_with fail;refine HG.out.mono ?_;rintro e w1 ⟨rfl,b1⟩;have B1:=Lib.hid (HB.out.trans (b1.mono HB.out.size));clear b1 HG HB;go_wp2_with fail;refine (IX.out _ B1.out).mono ?_;rintro e w2 ⟨rfl,b2⟩;have B2:=Lib.hid (B1.out.trans (b2.mono B1.out.size));clear b2 B1 IX;go_wp2
 go_ret
 exact ⟨rfl,B2.out⟩
def ARel (w:World) (L:List Ent) (n:Int) (v:Value) (k:Nat) (wr:World):Prop:=Ow E3 wr w.heap.size 72 v (L.take k)∧(∀ x∈L.take k,x.n < n)∧Below w.heap.size w wr
structure AC (r:Nat) (v:Value) (d:Int) (g:Nat) (p:Int) (u:Value) (W:World):Prop where
 row:W.heap[r]? = some (.cells #[v,.int .i64 d] 50 (0,0))
 box:W.heap[g]? = some (.cells #[.int .i64 p,u] 70 (0,0))
set_option maxHeartbeats 4000000 in
theorem radd_0 {w:World} {r:Nat} {F:Nat→Prop} {v:Value} {L:List Ent} {d:Int} (RS:Rst w r F v L d) (hF:∀ k,F k→k < w.heap.size) (n p:Int) (a:Option Addr) (q cap:Nat) (l:List R4) (R:Rd K4 w (.slice a q cap) l) (ho:0 < l.length→∀ k,(Value.slice a q cap).ownBlock=some k→¬ (F k∨k=r)) (hn:0≤n∧n≤63) (hg:goodF p l) (hl:okL l) (hc:look Ent.n n L=none) :
 Calls Tryz.prog 54 #[.pointer (some ⟨r,0,none⟩),.int .i64 n,.agg #[.int .i64 p,.slice a q cap]] w (RAPost w r F d 0 (put key (n,p,l) (L.map Ent.abs))):=by
 have hql:q=l.length:=by
  obtain ⟨_,_,e,_⟩:=R;injection e
 subst hql;obtain ⟨h1,hB,hz⟩:=box_file w p (.slice a l.length cap);have HB:=Lib.hid hB;have H1:=Lib.hid h1;have GA:=rgood_any _ p (.slice a l.length cap) l (R.below hB);rw [show goodFB p l=true from decide_eq_true hg] at GA;have HG:=Lib.hid GA;have IX:=Lib.hid (fun W (hb:Below w.heap.size w W)=>rix_any (RS.below hb) (ix_none hc));have RR:=Lib.hid RS;have hrl:r < w.heap.size:=lt_of_block RS.row;have hlen:=RS.len;have HS:=Lib.hid (srtL RS.ok);have HC:=Lib.hid (look_none.1 hc);have n1:0≤n:=hn.1;have n2:n≤63:=hn.2;have FIN:Hid (∀ (k:Nat) (v':Value) (W:World),(∀ x∈L.take k,x.n < n)→(∀ x,L[k]? = some x→n < x.n)→Only (fun k=>k=r) w W→W.heap[r]? = some (.cells #[v',.int .i64 d] 50 (0,0))→Ow E3 W w.heap.size 72 v' (L.take k ++ [(⟨n,p,a,cap,l⟩:Ent)] ++ L.drop k)→RAPost w r F d 0 (put key (n,p,l) (L.map Ent.abs)) (.returned (.int .i64 0)) W):=fun k v' W P1 P2 O row own=>by
  have e:put Ent.n (⟨n,p,a,cap,l⟩:Ent) L=L.take k ++ [(⟨n,p,a,cap,l⟩:Ent)] ++ L.drop k:=by
   rw [put_new hc,ins_at (k:=k) P1 P2]
   simp
  have e2:(L.take k ++ [(⟨n,p,a,cap,l⟩:Ent)] ++ L.drop k).map Ent.abs=put key (n,p,l) (L.map Ent.abs):=by rw [← e,abs_put];rfl
  refine ⟨rfl,⟨v',_,RS.next hF O row own (fun c hc'=>?_) (by rw [e2];exact RS.ok.put hn hg hl),e2⟩,O⟩;rw [← e] at hc'
  rcases mem_put.1 hc' with rfl | ⟨h,_⟩
  ·exact .inr ⟨rd_only (G:=fun k=>k=r) R (fun h0 k hk e=>ho h0 k hk (.inr e)) O,ho⟩
  ·exact .inl h
 have RV:=Lib.hid R;obtain ⟨va,vcap,rfl,_⟩:=RS.list.rd.slice;clear h1 hB hz R GA hg hn RS hc hF ho hl;generalize hN:L.length=N at *;have HN:=Lib.hid hN;generalize hQ:l.length=q at *;have HQ:=Lib.hid hQ;clear hN hQ;unfold file at HG;have hBN:=run_buildN
 go_enter Tryz.func54,Tryz.ntmps54
 go_wp2_with fail;generalize (w.alloc (.cells #[.int .i64 p,.slice a q cap] 70))=W0 at *;refine HG.out.mono ?_;rintro e w1 ⟨rfl,b1⟩;have B1:=Lib.hid (HB.out.trans (b1.mono HB.out.size));have X1:=Lib.hid ((b1.block _ (lt_of_block H1.out)).trans H1.out);clear b1 HG HB H1;go_wp2_with fail;refine (IX.out _ B1.out).mono ?_;rintro e w2 ⟨rfl,b2⟩;have B2:=Lib.hid (B1.out.trans (b2.mono B1.out.size));have X2:=Lib.hid ((b2.block _ (lt_of_block X1.out)).trans X1.out);clear b2 B1 IX X1;have OM:=Lib.hid (Rw.Ow.made (K:=E3) w2 w2.heap.size 72 (Nat.le_refl _));have B3:=Lib.hid ((Below.refl w2.heap.size w2).alloc (Nat.le_refl _) (.cells #[] 72));go_wp2;generalize (w2.alloc (.cells #[] 72))=W3 at *;generalize (Value.slice (some ⟨w2.heap.size,0,none⟩) 0 0)=v3 at *
 go_loopw [7,8] (fun v i wr=>∃ k:Nat,k≤N∧i = .int .i64 k∧Hid (ARel w2 L n v k wr)) (fun _ i _=>N - (intOf i).toNat)
 case atStart=>exact ⟨0,Nat.zero_le _,rfl,OM.out,by simp,B3.out⟩
 case round =>
  obtain ⟨k,hk,rfl,R⟩:=hrel;obtain ⟨oW,P1',bW⟩:=R.out;obtain ⟨va',vc',ev,_⟩:=oW.slice;have htk:(L.take k).length=k:=by rw [List.length_take];have:=HN.out;omega
  rw [htk] at ev;subst ev;have OW:=Lib.hid oW;have P1:=Lib.hid P1';have B:=Lib.hid bW;have R4':=RR.out.below (B2.out.trans (bW.mono B2.out.size));have c0:wr.cell? ⟨r,0,none⟩=some (.slice va N vcap):=row_cell R4'.row 0;have RL:=Lib.hid R4'.list.rd;have HX2:Hid (w.heap.size < w2.heap.size):=lt_of_block X2.out;clear R oW P1' bW R4' htk
  by_cases hlt:k < N
  ·have hkL:k < L.length:=by have:=HN.out;omega
   obtain ⟨⟨cn,cp,ca,cc,cl⟩,hc⟩:∃ c:Ent,L[k]? = some c:=⟨_,List.getElem?_eq_getElem hkL⟩;obtain ⟨b,off,eb,hA⟩:∃ b off,va=some ⟨b,off,none⟩∧At E3 wr b off L:=by
    obtain ⟨a',c',e,_,_,h⟩:=RL.out;obtain ⟨b,off,e2,hA⟩:=h (by omega);injection e with e1;exact ⟨b,off,e1.trans e2,hA⟩
   subst eb;obtain ⟨x0,x1,x2⟩:=at3 hA hc;unfold Ent.sl at x2;simp only at x0 x1 x2;have hcn:cn≠n:=HC.out _ (List.mem_of_getElem? hc)
   by_cases hcl:cn < n
   ·have TK:Hid (L.take (k+1)=L.take k ++ [(⟨cn,cp,ca,cc,cl⟩:Ent)]):=by rw [List.take_add_one,hc];rfl
    have P1n:Hid (∀ x∈L.take (k+1),x.n < n):=fun x hx=>by
     rw [TK.out] at hx
     rcases List.mem_append.1 hx with hx | hx
     ·exact P1.out x hx
     ·obtain rfl:=List.mem_singleton.1 hx
      exact hcl
    clear hc hA hkL;generalize hcq:cl.length=cq at *;have HCQ:=Lib.hid hcq;clear hcq
    go_wp2_with (at_builtin;refine Rw.push_step (K:=E3) Tryz.underlying47 infoE3 rfl (by omega) rfl _ _ rfl w2.heap.size _ (L.take k) rfl (OW.out.alloc _) _ (⟨cn,cp,ca,cc,cl⟩:Ent) rfl ?d1 ?d2 ?d3 ?_)
    case d1 =>
     intro j u hu
     unfold E3 Ent.sl at hu;simp only [HCQ.out] at hu
     match j,hu with
     | 0,hu=>simp at hu;subst hu;go_simp
     | 1,hu=>simp at hu;subst hu;go_simp
     | 2,hu=>simp at hu;subst hu;go_simp
     | j+3,hu=>simp at hu
    case d2=>rw [List.length_take];omega
    case d3=>have:=B.out.size;simp;omega
    intro v' w4 o4 b4
    rw [← TK.out] at o4;have N2:Hid (ARel w2 L n v' (k+1) w4):=⟨o4,P1n.out,(B.out.alloc B.out.size _).trans b4⟩;clear o4 b4;go_wp2
    go_roundw
    case rel=>exact ⟨k+1,by omega,by go_num,N2⟩
    case measure=>simp [intOf];omega
   ·have P2:Hid (∀ x,L[k]? = some x→n < x.n):=fun x hx=>by
     rw [hc] at hx;obtain rfl:=Option.some.inj hx
     show n < cn
     omega
    clear hc hA hkL hcn RL;go_wp2_with fail;clear x0 x1 x2;clear c0;have X4:=Lib.hid ((B.out.block _ (lt_of_block X2.out)).trans X2.out);have hw2:Hid (w.heap.size≤w2.heap.size):=B2.out.size;have BR:=Lib.hid (B2.out.trans (B.out.mono B2.out.size));have Row4:=Lib.hid ((BR.out.block r hrl).trans RR.out.row);have C0:AC r (.slice (some ⟨b,off,none⟩) N vcap) d w.heap.size p (.slice a q cap) wr.drew:=⟨Row4.out,X4.out⟩;have c0:=Sc.cell_in (C:=AC r (.slice (some ⟨b,off,none⟩) N vcap) d w.heap.size p (.slice a q cap)) (a:=⟨r,0,none⟩) (fun W' h=>row_cell h.row 0);have r0:=Sc.cell_in (C:=AC r (.slice (some ⟨b,off,none⟩) N vcap) d w.heap.size p (.slice a q cap)) (a:=⟨w.heap.size,0,none⟩) (fun W' h=>row_cell h.box 0);have r1:=Sc.cell_in (C:=AC r (.slice (some ⟨b,off,none⟩) N vcap) d w.heap.size p (.slice a q cap)) (a:=⟨w.heap.size,1,none⟩) (fun W' h=>row_cell h.box 1);have ne:Nonempty (Sc.In (AC r (.slice (some ⟨b,off,none⟩) N vcap) d w.heap.size p (.slice a q cap))):=⟨⟨_,C0⟩⟩;obtain ⟨ta,tc,htl,TR⟩:=run_tail RR.out.list.rd k (by have:=HN.out;omega);have TRD:=Lib.hid TR;rw [HN.out] at htl TRD;generalize N - k=mt at htl TRD;have OWR:Hid (Ow E3 wr.drew w2.heap.size 72 (.slice va' k vc') (L.take k)):=OW.out;have BRD:Hid (Below w2.heap.size w2 wr.drew):=B.out.drew;clear TR OW B BR Row4 X4 X2;refine Sz.start (AC r (.slice (some ⟨b,off,none⟩) N vcap) d w.heap.size p (.slice a q cap)) [(false,0),(false,1),(false,2),(false,3),(false,4),(false,7),(false,8),(false,9),(false,10),(false,11),(false,12),(true,5),(true,6),(true,13),(false,14),(false,15)] 16 (by kernel_rfl) (by kernel_rfl) (by kernel_rfl) rfl rfl C0 ?_;dsimp only [Sd.picks,List.getElem?_cons_succ,List.getElem?_cons_zero]
    repeat (refine Sz.lit ?_;quiet_step (fail);refine wpQuiet_nil ?_)
    clear c0 r0 r1 htl;have C1:=Lib.hid C0;clear C0;generalize wr.drew=w4 at *;refine Sz.call (by rfl) (fun K hK=>?_);go_simp;have ba:=Below.heap_alloc w4 (.cells #[.int .i64 n,.int .i64 p,.slice a q cap] 72);have B5:=Lib.hid (BRD.out.alloc BRD.out.size (.cells #[.int .i64 n,.int .i64 p,.slice a q cap] 72));have C5:AC r (.slice (some ⟨b,off,none⟩) N vcap) d w.heap.size p (.slice a q cap) (w4.alloc (.cells #[.int .i64 n,.int .i64 p,.slice a q cap] 72)):=⟨(ba r (lt_of_block C1.out.row)).trans C1.out.row,(ba _ (lt_of_block C1.out.box)).trans C1.out.box⟩;have O5:=Lib.hid (OWR.out.alloc (.cells #[.int .i64 n,.int .i64 p,.slice a q cap] 72));have R5:Hid (Rd E3 (w4.alloc (.cells #[.int .i64 n,.int .i64 p,.slice a q cap] 72)) (.slice (some ⟨w4.heap.size,0,none⟩) 1 1) [(⟨n,p,a,cap,l⟩:Ent)]):=by
     have:=(Rw.Ow.lit (K:=E3) w4 0 72 [(⟨n,p,a,cap,l⟩:Ent)] (Nat.zero_le _) (by unfold maxLen;simp)).rd;have e:(E3.flat [(⟨n,p,a,cap,l⟩:Ent)]).toArray=#[.int .i64 n,.int .i64 p,.slice a q cap]:=by unfold Rw.Kind.flat E3 Ent.sl;rw [← HQ.out];rfl
     rw [e] at this;exact this
    refine hK _ _ (Sc.Cl.of C5) ?_;clear hK K ba;have hz5:Hid (w2.heap.size≤(w4.alloc (.cells #[.int .i64 n,.int .i64 p,.slice a q cap] 72)).heap.size):=B5.out.size;have C5':=Lib.hid C5;clear C5 C1 OWR BRD;generalize (w4.alloc (.cells #[.int .i64 n,.int .i64 p,.slice a q cap] 72))=w5 at *;refine Sz.call (by rfl) (fun K hK=>?_);refine wp_all (Kd:=E3) Tryz.underlying47 infoE3 rfl (by omega) _ _ rfl w2.heap.size _ _ rfl O5.out _ _ rfl R5.out ?a1 hz5.out ?_
    case a1=>rw [List.length_take];simp;omega
    intro v6 w6 o6 b6
    have hrw2:r < w2.heap.size:=by have:=hw2.out;omega
    have hxw2:w.heap.size < w2.heap.size:=HX2.out;have C6:AC r (.slice (some ⟨b,off,none⟩) N vcap) d w.heap.size p (.slice a q cap) w6:=⟨(b6.block r hrw2).trans C5'.out.row,(b6.block _ hxw2).trans C5'.out.box⟩;have B6:=Lib.hid (B5.out.trans b6);have O6:=Lib.hid o6;obtain ⟨v6a,v6c,e6,_⟩:=o6.slice;refine hK _ _ (Sc.Cl.of C6) ?_;clear hK K o6 b6 B5 O5 R5 C5' hz5;have C6':=Lib.hid C6;clear C6;have T6:=Lib.hid (TRD.out.below (B2.out.trans (B6.out.mono B2.out.size)));refine Sz.call (by rfl) (fun K hK=>?_);refine wp_all (Kd:=E3) Tryz.underlying47 infoE3 rfl (by omega) _ _ rfl w2.heap.size _ _ rfl O6.out _ _ rfl T6.out ?a2 B6.out.size ?_
    case a2=>rw [List.length_append,List.length_take,List.length_drop];have:=HN.out;simp only [List.length_cons,List.length_nil];omega
    intro v7 w7 o7 b7
    obtain ⟨v7a,v7c,e7,_⟩:=o7.slice;obtain ⟨n7,rfl⟩:∃ n7,v7 = .slice v7a n7 v7c:=⟨_,e7⟩;clear e7;have C7:AC r (.slice (some ⟨b,off,none⟩) N vcap) d w.heap.size p (.slice a q cap) w7:=⟨(b7.block r hrw2).trans C6'.out.row,(b7.block _ hxw2).trans C6'.out.box⟩;have B7:=Lib.hid (B6.out.trans b7);refine hK _ _ (Sc.Cl.of C7) ?_;clear hK K b7 B6 O6 T6 C6' e6;have c7:w7.cell? ⟨r,0,none⟩=some (.slice (some ⟨b,off,none⟩) N vcap):=row_cell C7.row 0;have f7:=row_frozen C7.row 0;have BW:Below w.heap.size w w7:=B2.out.trans (B7.out.mono B2.out.size);have RES:Hid (RAPost w r F d 0 (put key (n,p,l) (L.map Ent.abs)) (.returned (.int .i64 0)) (w7.setCell ⟨r,0,none⟩ (.slice v7a n7 v7c))):=by
     refine FIN.out k (.slice v7a n7 v7c) _ P1.out P2.out ((Only.of_below BW).trans (Only.set (fun k=>k=r) w7 (a:=⟨r,0,none⟩) rfl _) fun _ _ g=>g) ?_ ?_
     ·have:=Rw.heap_setCell_same (j:=0) C7.row (.slice v7a n7 v7c)
      rw [this]
      simp
     ·exact (o7.off (p:=⟨r,0,none⟩) (o7.range (.inl hrw2)) (.slice v7a n7 v7c)).low hw2.out
    clear C7 BW o7 B7 FIN
    repeat (refine Sz.lit ?_;quiet_step (fail);refine wpQuiet_nil ?_)
    refine Sz.done ?_;go_simp;clear c7 f7;generalize (w7.setCell ⟨r,0,none⟩ (.slice v7a n7 v7c))=w8 at *;refine NoPanic.normal ?_;go_wp2
    go_ret
    exact RES.out
  ·obtain rfl:k=N:=by omega
   have P2:Hid (∀ x,L[k]? = some x→n < x.n):=fun x hx=>by
    have:=(List.getElem?_eq_some_iff.1 hx).1;have:=HN.out
    omega
   clear RL;go_wp2_with fail;clear c0;have X4:=Lib.hid ((B.out.block _ (lt_of_block X2.out)).trans X2.out);have hw2:Hid (w.heap.size≤w2.heap.size):=B2.out.size;have BR:=Lib.hid (B2.out.trans (B.out.mono B2.out.size));have Row4:=Lib.hid ((BR.out.block r hrl).trans RR.out.row);have C0:AC r (.slice va k vcap) d w.heap.size p (.slice a q cap) wr.drew:=⟨Row4.out,X4.out⟩;have c0:=Sc.cell_in (C:=AC r (.slice va k vcap) d w.heap.size p (.slice a q cap)) (a:=⟨r,0,none⟩) (fun W' h=>row_cell h.row 0);have r0:=Sc.cell_in (C:=AC r (.slice va k vcap) d w.heap.size p (.slice a q cap)) (a:=⟨w.heap.size,0,none⟩) (fun W' h=>row_cell h.box 0);have r1:=Sc.cell_in (C:=AC r (.slice va k vcap) d w.heap.size p (.slice a q cap)) (a:=⟨w.heap.size,1,none⟩) (fun W' h=>row_cell h.box 1);have ne:Nonempty (Sc.In (AC r (.slice va k vcap) d w.heap.size p (.slice a q cap))):=⟨⟨_,C0⟩⟩;obtain ⟨ta,tc,htl,TR⟩:=run_tail RR.out.list.rd k (by have:=HN.out;omega);have TRD:=Lib.hid TR;rw [HN.out] at htl TRD;generalize k - k=mt at htl TRD;have OWR:Hid (Ow E3 wr.drew w2.heap.size 72 (.slice va' k vc') (L.take k)):=OW.out;have BRD:Hid (Below w2.heap.size w2 wr.drew):=B.out.drew;clear TR OW B BR Row4 X4 X2;refine Sz.start (AC r (.slice va k vcap) d w.heap.size p (.slice a q cap)) [(false,0),(false,1),(false,2),(false,3),(false,4),(false,7),(false,8),(false,9),(false,10),(false,11),(false,12),(true,5),(true,6),(true,13),(false,14),(false,15)] 16 (by kernel_rfl) (by kernel_rfl) (by kernel_rfl) rfl rfl C0 ?_;dsimp only [Sd.picks,List.getElem?_cons_succ,List.getElem?_cons_zero]
   repeat (refine Sz.lit ?_;quiet_step (fail);refine wpQuiet_nil ?_)
   clear c0 r0 r1 htl;have C1:=Lib.hid C0;clear C0;generalize wr.drew=w4 at *;refine Sz.call (by rfl) (fun K hK=>?_);go_simp;have ba:=Below.heap_alloc w4 (.cells #[.int .i64 n,.int .i64 p,.slice a q cap] 72);have B5:=Lib.hid (BRD.out.alloc BRD.out.size (.cells #[.int .i64 n,.int .i64 p,.slice a q cap] 72));have C5:AC r (.slice va k vcap) d w.heap.size p (.slice a q cap) (w4.alloc (.cells #[.int .i64 n,.int .i64 p,.slice a q cap] 72)):=⟨(ba r (lt_of_block C1.out.row)).trans C1.out.row,(ba _ (lt_of_block C1.out.box)).trans C1.out.box⟩;have O5:=Lib.hid (OWR.out.alloc (.cells #[.int .i64 n,.int .i64 p,.slice a q cap] 72));have R5:Hid (Rd E3 (w4.alloc (.cells #[.int .i64 n,.int .i64 p,.slice a q cap] 72)) (.slice (some ⟨w4.heap.size,0,none⟩) 1 1) [(⟨n,p,a,cap,l⟩:Ent)]):=by
    have:=(Rw.Ow.lit (K:=E3) w4 0 72 [(⟨n,p,a,cap,l⟩:Ent)] (Nat.zero_le _) (by unfold maxLen;simp)).rd;have e:(E3.flat [(⟨n,p,a,cap,l⟩:Ent)]).toArray=#[.int .i64 n,.int .i64 p,.slice a q cap]:=by unfold Rw.Kind.flat E3 Ent.sl;rw [← HQ.out];rfl
    rw [e] at this;exact this
   refine hK _ _ (Sc.Cl.of C5) ?_;clear hK K ba;have hz5:Hid (w2.heap.size≤(w4.alloc (.cells #[.int .i64 n,.int .i64 p,.slice a q cap] 72)).heap.size):=B5.out.size;have C5':=Lib.hid C5;clear C5 C1 OWR BRD;generalize (w4.alloc (.cells #[.int .i64 n,.int .i64 p,.slice a q cap] 72))=w5 at *;refine Sz.call (by rfl) (fun K hK=>?_);refine wp_all (Kd:=E3) Tryz.underlying47 infoE3 rfl (by omega) _ _ rfl w2.heap.size _ _ rfl O5.out _ _ rfl R5.out ?a1 hz5.out ?_
   case a1=>rw [List.length_take];simp;omega
   intro v6 w6 o6 b6
   have hrw2:r < w2.heap.size:=by have:=hw2.out;omega
   have hxw2:w.heap.size < w2.heap.size:=HX2.out;have C6:AC r (.slice va k vcap) d w.heap.size p (.slice a q cap) w6:=⟨(b6.block r hrw2).trans C5'.out.row,(b6.block _ hxw2).trans C5'.out.box⟩;have B6:=Lib.hid (B5.out.trans b6);have O6:=Lib.hid o6;obtain ⟨v6a,v6c,e6,_⟩:=o6.slice;refine hK _ _ (Sc.Cl.of C6) ?_;clear hK K o6 b6 B5 O5 R5 C5' hz5;have C6':=Lib.hid C6;clear C6;have T6:=Lib.hid (TRD.out.below (B2.out.trans (B6.out.mono B2.out.size)));refine Sz.call (by rfl) (fun K hK=>?_);refine wp_all (Kd:=E3) Tryz.underlying47 infoE3 rfl (by omega) _ _ rfl w2.heap.size _ _ rfl O6.out _ _ rfl T6.out ?a2 B6.out.size ?_
   case a2=>rw [List.length_append,List.length_take,List.length_drop];have:=HN.out;simp only [List.length_cons,List.length_nil];omega
   intro v7 w7 o7 b7
   obtain ⟨v7a,v7c,e7,_⟩:=o7.slice;obtain ⟨n7,rfl⟩:∃ n7,v7 = .slice v7a n7 v7c:=⟨_,e7⟩;clear e7;have C7:AC r (.slice va k vcap) d w.heap.size p (.slice a q cap) w7:=⟨(b7.block r hrw2).trans C6'.out.row,(b7.block _ hxw2).trans C6'.out.box⟩;have B7:=Lib.hid (B6.out.trans b7);refine hK _ _ (Sc.Cl.of C7) ?_;clear hK K b7 B6 O6 T6 C6' e6;have c7:w7.cell? ⟨r,0,none⟩=some (.slice va k vcap):=row_cell C7.row 0;have f7:=row_frozen C7.row 0;have BW:Below w.heap.size w w7:=B2.out.trans (B7.out.mono B2.out.size);have RES:Hid (RAPost w r F d 0 (put key (n,p,l) (L.map Ent.abs)) (.returned (.int .i64 0)) (w7.setCell ⟨r,0,none⟩ (.slice v7a n7 v7c))):=by
    refine FIN.out k (.slice v7a n7 v7c) _ P1.out P2.out ((Only.of_below BW).trans (Only.set (fun k=>k=r) w7 (a:=⟨r,0,none⟩) rfl _) fun _ _ g=>g) ?_ ?_
    ·have:=Rw.heap_setCell_same (j:=0) C7.row (.slice v7a n7 v7c)
     rw [this]
     simp
    ·exact (o7.off (p:=⟨r,0,none⟩) (o7.range (.inl hrw2)) (.slice v7a n7 v7c)).low hw2.out
   clear C7 BW o7 B7 FIN
   repeat (refine Sz.lit ?_;quiet_step (fail);refine wpQuiet_nil ?_)
   refine Sz.done ?_;go_simp;clear c7 f7;generalize (w7.setCell ⟨r,0,none⟩ (.slice v7a n7 v7c))=w8 at *;refine NoPanic.normal ?_;go_wp2
   go_ret
   exact RES.out
theorem radd_any {w:World} {r:Nat} {F:Nat→Prop} {A:Abs} {d:Int} (RS:Rs w r F A d) (hF:∀ k,F k→k < w.heap.size) (n p:Int) (v:Value) (l:List R4) (R:Rd K4 w v l) (ho:0 < l.length→∀ k,v.ownBlock=some k→¬ (F k∨k=r)) (hl:okL l) :
 Calls Tryz.prog 54 #[.pointer (some ⟨r,0,none⟩),.int .i64 n,file p v] w (RAPost w r F d (addE A n p l) (addA A n p l)):=by
 obtain ⟨u,L,h,rfl⟩:=RS;obtain ⟨a,cap,rfl,_⟩:=R.slice;have no:∀ z e w',addE (L.map Ent.abs) n p l=z→z≠0→(e = .returned (.int .i64 z)∧Below w.heap.size w w')→RAPost w r F d (addE (L.map Ent.abs) n p l) (addA (L.map Ent.abs) n p l) e w':=fun z e w' hz h0 ⟨he,b⟩=>by
  unfold RAPost addA;rw [hz,if_neg h0];exact ⟨he,⟨u,L,h.below b,rfl⟩,Only.of_below b⟩
 by_cases hn:0≤n∧n≤63
 ·by_cases hg:goodF p l
  ·cases hc:look Ent.n n L with
   | some c =>
     obtain ⟨i,_,hq⟩:=ix_some (srtL h.ok) hc;exact (radd_10 h n p a _ cap l R hn hg hq).mono fun e w'=>no 10 e w' (by unfold addE;rw [if_pos hn,if_pos hg,abs_look,hc];rfl) (by decide)
   | none =>
     have e0:addE (L.map Ent.abs) n p l=0:=by unfold addE;rw [if_pos hn,if_pos hg,abs_look,hc];rfl
     unfold addA;rw [e0,if_pos rfl];exact radd_0 h hF n p a _ cap l R ho hn hg hl hc
  ·exact (radd_2 w r n p a _ cap l R hn hg).mono fun e w'=>no 2 e w' (by unfold addE;rw [if_pos hn,if_neg hg]) (by decide)
 ·exact (radd_1 w r n p a _ cap hn).mono fun e w'=>no 1 e w' (by unfold addE;rw [if_neg hn]) (by decide)
end Go.Proofs.YtljnkaodhfnbbaaGreatDoor.Fs
namespace Go.Proofs.YtljnkaodhfnbbaaGreatDoor.Fs
open Go.RowKit Go.Maps
open Fl (R4 z4 K4 rec4 rat file sameF ret_bool)
open Rw (Rd Ow At)
attribute [local irreducible] wpQuiet
instance decR4:DecidableEq R4:=@instDecidableEqProd _ _ _ (@instDecidableEqProd _ _ _ (@instDecidableEqProd _ _ _ _))
instance decFil:DecidableEq Fil:=@instDecidableEqProd _ _ _ (@instDecidableEqProd _ _ _ (@instDecidableEqList _ decR4))
instance decAbs (A B:Abs):Decidable (A=B):=@instDecidableEqList _ decFil A B
end Go.Proofs.YtljnkaodhfnbbaaGreatDoor.Fs
namespace Go.Proofs.YtljnkaodhfnbbaaGreatDoor.Ua
open Go.RowKit
def arr (F:Nat→Bool):Array Value:=#[.bool (F 0),.bool (F 1),.bool (F 2),.bool (F 3),.bool (F 4),.bool (F 5),.bool (F 6),.bool (F 7),.bool (F 8),.bool (F 9),.bool (F 10)]
theorem arr_size (F:Nat→Bool):(arr F).size=11:=rfl
theorem arr_one (F:Nat→Bool):(arr F).all (·.oneCell')=true:=by simp [arr,Value.oneCell']
theorem arr_get (F:Nat→Bool) (k:Nat) (h:k < 11):(arr F)[k]? = some (.bool (F k)):=by
 rcases (by omega:k=0∨k=1∨k=2∨k=3∨k=4∨k=5∨k=6∨k=7∨k=8∨k=9∨k=10) with rfl | rfl | rfl | rfl | rfl | rfl | rfl | rfl | rfl | rfl | rfl <;> rfl
theorem arr_set (F:Nat→Bool) (k:Nat) (h:k < 11) (x:Bool):(arr F).setIfInBounds k (.bool x)=arr (upd F k x):=by
 rcases (by omega:k=0∨k=1∨k=2∨k=3∨k=4∨k=5∨k=6∨k=7∨k=8∨k=9∨k=10) with rfl | rfl | rfl | rfl | rfl | rfl | rfl | rfl | rfl | rfl | rfl <;> rfl
theorem arr_congr {F G:Nat→Bool} (h:∀ i,i < 11→F i=G i):arr F=arr G:=by
 unfold arr;rw [h 0 (by omega),h 1 (by omega),h 2 (by omega),h 3 (by omega),h 4 (by omega),h 5 (by omega),h 6 (by omega),h 7 (by omega),h 8 (by omega),h 9 (by omega),h 10 (by omega)]
def Row (w:World) (g:Nat) (F:Nat→Bool):Prop:=w.heap[g]? = some (.cells (arr F) 113 (0,0))
section
variable {w w':World} {g:Nat} {F:Nat→Bool}
theorem Row.lt (h:Row w g F):g < w.heap.size:=lt_of_block h
theorem Row.cell (h:Row w g F) (k:Nat) (hk:k < 11):w.cell? ⟨g,k,none⟩=some (.bool (F k)):=by rw [cell_of_row w g k _ _ (0,0) h,arr_get F k hk]
theorem Row.frozen (h:Row w g F) (k:Nat):w.frozen? ⟨g,k,none⟩=false:=frozen_of_row w g k _ _ h
theorem Row.new (w:World) (F:Nat→Bool):Row (w.alloc (.cells (arr F) 113)) w.heap.size F:=heap_alloc_new w _
theorem Row.draw (h:Row w g F) (n:Nat):Row (w.drewN n) g F:=h
theorem Row.alloc (h:Row w g F) (o:Obj):Row (w.alloc o) g F:=(Below.heap_alloc w o g h.lt).trans h
theorem Row.set_ (h:Row w g F) (k:Nat) (hk:k < 11) (x:Bool):Row (w.setCell ⟨g,k,none⟩ (.bool x)) g (upd F k x):=by
 unfold Row at h ⊢;rw [heap_setCell_same w g k _ _ _ h,arr_set F k hk x]
theorem Row.far (h:Row w g F) {p:Addr} (hp:g≠p.block) (u:Value):Row (w.setCell p u) g F:=(Below.heap_setCell w p u g hp).trans h
theorem Row.row (h:Row w g F) (G:Nat→Bool):Row (w.setRow g (arr G)) g G:=setRow_heap w g _ _ _ _ h
theorem Row.below {B:Nat} (h:Row w g F) (hb:Below B w w') (hg:g < B):Row w' g F:=(hb.block g hg).trans h
theorem Row.to {G:Nat→Bool} (h:Row w g F) (e:∀ i,i < 11→F i=G i):Row w g G:=by unfold Row at *;rw [h,arr_congr e]
theorem Row.load (h:Row w g F):(loadVar 113 ⟨g,0,none⟩).run Tryz.prog w = .ok (.agg (arr F)) w :=
 run_loadVar_row w g _ _ (arr F) (0,0) _ h Tryz.underlying113 rfl (by rw [arr_size];kernel_rfl)
end
theorem info:(Tryz.prog.info? 113).map (·.size)=some 11:=by kernel_rfl
theorem info_of (F:Nat→Bool):(Tryz.prog.info? 113).map (·.size)=some (arr F).size:=by rw [arr_size];exact info
theorem load_frame {ops:Array Oper} {rest:List Oper} {o:Oper} {a:Act} {w:World} {Q:Exit→Act→World→Prop} (hgd:o.guard=none) (x:Operand) (ho:o.op = .load 113 x)
 (g:Nat) (F:Nat→Bool) (hx:a.eval x = .pointer (some ⟨g,0,none⟩)) (hrow:Row w g F) (h:wpList Tryz.prog ops Q rest (a.put o.dst (.agg (arr F))) w):wpList Tryz.prog ops Q (o :: rest) a w :=
 wpList_load_row hgd _ x ho g hx _ _ _ _ hrow Tryz.underlying113 rfl (info_of _) h
theorem store_frame {ops:Array Oper} {rest:List Oper} {o:Oper} {a:Act} {w:World} {Q:Exit→Act→World→Prop} (hgd:o.guard=none) (x y:Operand) (ho:o.op = .store 113 x y)
 (g:Nat) (F G:Nat→Bool) (hx:a.eval x = .pointer (some ⟨g,0,none⟩)) (hy:a.eval y = .agg (arr F)) (hrow:Row w g G) (h:wpList Tryz.prog ops Q rest (a.put o.dst undef) (w.setRow g (arr F))):wpList Tryz.prog ops Q (o :: rest) a w :=
 wpList_store_row hgd _ x y ho g _ hx hy _ _ hrow (info_of _) rfl (arr_one _) h
theorem store_new {ops:Array Oper} {rest:List Oper} {o:Oper} {a:Act} {w:World} {Q:Exit→Act→World→Prop} (hgd:o.guard=none) (x y:Operand) (ho:o.op = .store 113 x y)
 (F:Nat→Bool) (hx:a.eval x = .pointer (some ⟨w.heap.size,0,none⟩)) (hy:a.eval y = .agg (arr F)) (h:wpList Tryz.prog ops Q rest (a.put o.dst undef) (w.alloc (.cells (arr F) 113))) :
 wpList Tryz.prog ops Q (o :: rest) a (w.alloc (.cells #[.bool false,.bool false,.bool false,.bool false,.bool false,.bool false,.bool false,.bool false,.bool false,.bool false,.bool false] 113)) :=
 store_frame hgd x y ho _ F (fun _=>false) hx hy (Row.new w (fun _=>false)) (by rw [World.setRow_alloc_new];exact h)
theorem copy_frame {ops:Array Oper} {rest:List Oper} {o o':Oper} {a:Act} {w:World} {Q:Exit→Act→World→Prop} (hg:o.guard=none) (hg':o'.guard=none) (x y:Operand) (d:Tmp) (ho:o.op = .load 113 x) (hd:o.dst=some d) (ho':o'.op = .store 113 y (.tmp d))
 (g g':Nat) (F G:Nat→Bool) (hx:a.eval x = .pointer (some ⟨g,0,none⟩)) (hy:(a.put (some d) (.agg (arr F))).eval y = .pointer (some ⟨g',0,none⟩)) (hz:(a.put (some d) (.agg (arr F))).eval (.tmp d) = .agg (arr F)) (hrow:Row w g F) (hrow':Row w g' G)
 (h:wpList Tryz.prog ops Q rest ((a.put (some d) (.agg (arr F))).put o'.dst undef) (w.setRow g' (arr F))):wpList Tryz.prog ops Q (o :: o' :: rest) a w :=
 load_frame hg x ho g F hx hrow (by rw [hd];exact store_frame hg' y (.tmp d) ho' g' F G hy hz hrow' h)
theorem results_frame {fn:Func} {p:Tmp} (h:fn.results=#[.cell p 113]) (tmps:Array Value) (w:World) (g:Nat) (F:Nat→Bool) (hp:tmps.getD p undef = .pointer (some ⟨g,0,none⟩)) (hrow:Row w g F) :
 (results fn tmps).run Tryz.prog w = .ok (.agg (arr F)) w:=results_cell_row h tmps w g _ _ _ _ hp hrow Tryz.underlying113 rfl (info_of _)
theorem below_setRow {B:Nat} {a w:World} (h:Below B a w) (g:Nat) (cs:Array Value) (hg:B≤g):Below B a (w.setRow g cs) :=
 ⟨h.os,h.tape,h.output,by rw [size_setRow];exact h.size,fun k hk=>(setRow_other w g k cs (by omega)).trans (h.block k hk)⟩
theorem ret_bool {a b:Bool} (h:a=b):Ending.returned (.bool a) = .returned (.bool b):=by rw [h]
theorem ret_int {k:IntKind} {a b:Int} (h:a=b):Ending.returned (.int k a) = .returned (.int k b):=by rw [h]
theorem ret_arr {F G:Nat→Bool} (h:∀ i,i < 11→F i=G i):Ending.returned (.agg (arr F)) = .returned (.agg (arr G)):=by rw [arr_congr h]
end Go.Proofs.YtljnkaodhfnbbaaGreatDoor.Ua
namespace Go.Proofs.YtljnkaodhfnbbaaGreatDoor.Ck
open Go.RowKit
open Ro (E5 z5 eat ent K5 at5)
open Rw (Rd Ow At)
abbrev Hd:=Option Addr×Nat×Nat
def zh:Hd:=(none,0,0)
def sl (h:Hd):Value:=.slice h.1 h.2.1 h.2.2
def KS:Rw.Kind Hd:=⟨fun h=>[sl h],1,by decide,fun _=>rfl,fun _ u h=>by simp at h;subst h;rfl,zh⟩
def RdL (w:World) (v:Value) (L:LL):Prop:=∃ a cap,v = .slice a L.length cap∧(L.length≤cap∧(a=none→cap=0))∧cap≤maxLen ∧
 (0 < L.length→∃ b off,a=some ⟨b,off,none⟩∧∀ i,i < L.length→∃ u,w.cell? ⟨b,off+i,none⟩=some u∧Rd K5 w u (lat L i))
section
variable {w w':World} {v:Value} {L:LL}
theorem RdL.below (h:RdL w v L) (hb:Below w.heap.size w w'):RdL w' v L:=by
 obtain ⟨a,cap,e,h1,h2,h3⟩:=h;refine ⟨a,cap,e,h1,h2,fun hp=>?_⟩;obtain ⟨b,off,ea,hA⟩:=h3 hp;refine ⟨b,off,ea,fun i hi=>?_⟩;obtain ⟨u,c,r⟩:=hA i hi;exact ⟨u,(hb.cell (World.block_lt_of_cell? _ _ c)).trans c,r.below hb⟩
theorem RdL.slice (h:RdL w v L):∃ a cap,v = .slice a L.length cap∧cap≤maxLen:=by
 obtain ⟨a,cap,e,_,h2,_⟩:=h;exact ⟨a,cap,e,h2⟩
theorem RdL.one (h:RdL w v L) {k:Nat} (hk:k < L.length):∃ b off cap a' cap',v = .slice (some ⟨b,off,none⟩) L.length cap∧w.cell? ⟨b,off+k,none⟩=some (.slice a' (lat L k).length cap')∧cap'≤maxLen ∧
 (0 < (lat L k).length→∃ b' off',a'=some ⟨b',off',none⟩∧At K5 w b' off' (lat L k)):=by
 obtain ⟨a,cap,e,h1,h2,h3⟩:=h;obtain ⟨b,off,rfl,hA⟩:=h3 (by omega);obtain ⟨u,c,a',cap',rfl,g1,g2,g3⟩:=hA k hk;exact ⟨b,off,cap,a',cap',e,c,g2,g3⟩
theorem RdL.rd (h:RdL w v L) {k:Nat} (hk:k < L.length) {b off cap:Nat} (e:v = .slice (some ⟨b,off,none⟩) L.length cap) {u:Value} (c:w.cell? ⟨b,off+k,none⟩=some u):Rd K5 w u (lat L k):=by
 obtain ⟨a,cap',e',h1,h2,h3⟩:=h;obtain ⟨b',off',rfl,hA⟩:=h3 (by omega);rw [e] at e';injection e' with e1 _ _;injection e1 with e1;injection e1 with e1 e2 _;subst e1 e2;obtain ⟨u',c',r⟩:=hA k hk;rw [c] at c';injection c' with c';subst c';exact r
theorem RdL.take {a:Option Addr} {n cap:Nat} (h:RdL w (.slice a n cap) L) {k:Nat} (hk:k≤L.length):RdL w (.slice a k cap) (L.take k):=by
 obtain ⟨a',cap',e,h1,h2,h3⟩:=h;injection e with e1 e2 e3;subst e1 e2 e3;have hl:(L.take k).length=k:=by rw [List.length_take];omega
 refine ⟨a,cap,by rw [hl],⟨by omega,h1.2⟩,h2,fun hp=>?_⟩;rw [hl] at hp;obtain ⟨b,off,rfl,hA⟩:=h3 (by omega);refine ⟨b,off,rfl,fun i hi=>?_⟩;rw [hl] at hi;rw [lat_take hi];exact hA i (by omega)
theorem rdl_of {hs:List Hd} (h:Rd KS w v hs) (hl:hs.length=L.length) (each:∀ i,i < L.length→Rd K5 w (sl (hs.getD i zh)) (lat L i)):RdL w v L:=by
 obtain ⟨a,cap,e,h1,h2,h3⟩:=h;rw [hl] at e h1 h3;refine ⟨a,cap,e,h1,h2,fun hp=>?_⟩;obtain ⟨b,off,ea,hA⟩:=h3 hp;refine ⟨b,off,ea,fun i hi=>⟨_,?_,each i hi⟩⟩;have c:=hA i (by rw [hl];exact hi) 0 _ rfl;simp only [KS,Nat.mul_one,Nat.add_zero] at c;exact c
end
def ar (F:Nat→Int):Array Value:=#[.int .i64 (F 0),.int .i64 (F 1),.int .i64 (F 2),.int .i64 (F 3),.int .i64 (F 4),.int .i64 (F 5),.int .i64 (F 6),.int .i64 (F 7),.int .i64 (F 8),.int .i64 (F 9),.int .i64 (F 10),.int .i64 (F 11),.int .i64 (F 12),.int .i64 (F 13),.int .i64 (F 14),.int .i64 (F 15),.int .i64 (F 16)]
def upI (F:Nat→Int) (k:Nat) (x:Int) (i:Nat):Int:=if i=k then x else F i
theorem ar_size (F:Nat→Int):(ar F).size=17:=rfl
theorem ar_one (F:Nat→Int):(ar F).all (·.oneCell')=true:=by simp [ar,Value.oneCell']
theorem lt17 {k:Nat} (h:k < 17):k=0∨k=1∨k=2∨k=3∨k=4∨k=5∨k=6∨k=7∨k=8∨k=9∨k=10∨k=11∨k=12∨k=13∨k=14∨k=15∨k=16:=by omega
theorem ar_get (F:Nat→Int) (k:Nat) (h:k < 17):(ar F)[k]? = some (.int .i64 (F k)):=by
 rcases lt17 h with rfl | rfl | rfl | rfl | rfl | rfl | rfl | rfl | rfl | rfl | rfl | rfl | rfl | rfl | rfl | rfl | rfl <;> rfl
theorem ar_set (F:Nat→Int) (k:Nat) (h:k < 17) (x:Int):(ar F).setIfInBounds k (.int .i64 x)=ar (upI F k x):=by
 rcases lt17 h with rfl | rfl | rfl | rfl | rfl | rfl | rfl | rfl | rfl | rfl | rfl | rfl | rfl | rfl | rfl | rfl | rfl <;> rfl
theorem ar_congr {F G:Nat→Int} (h:∀ i,i < 17→F i=G i):ar F=ar G:=by
 unfold ar;rw [h 0 (by omega),h 1 (by omega),h 2 (by omega),h 3 (by omega),h 4 (by omega),h 5 (by omega),h 6 (by omega),h 7 (by omega),h 8 (by omega),h 9 (by omega),h 10 (by omega),h 11 (by omega),h 12 (by omega),h 13 (by omega),h 14 (by omega),h 15 (by omega),h 16 (by omega)]
def RowI (w:World) (g:Nat) (F:Nat→Int):Prop:=w.heap[g]? = some (.cells (ar F) 348 (0,0))
section
variable {w w':World} {g:Nat} {F:Nat→Int}
theorem RowI.lt (h:RowI w g F):g < w.heap.size:=lt_of_block h
theorem RowI.cell (h:RowI w g F) (k:Nat) (hk:k < 17):w.cell? ⟨g,k,none⟩=some (.int .i64 (F k)):=by rw [cell_of_row w g k _ _ (0,0) h,ar_get F k hk]
theorem RowI.frozen (h:RowI w g F) (k:Nat):w.frozen? ⟨g,k,none⟩=false:=frozen_of_row w g k _ _ h
theorem RowI.new (w:World) (F:Nat→Int):RowI (w.alloc (.cells (ar F) 348)) w.heap.size F:=heap_alloc_new w _
theorem RowI.set_ (h:RowI w g F) (k:Nat) (hk:k < 17) (x:Int):RowI (w.setCell ⟨g,k,none⟩ (.int .i64 x)) g (upI F k x):=by
 unfold RowI at h ⊢;rw [heap_setCell_same w g k _ _ _ h,ar_set F k hk x]
theorem RowI.far (h:RowI w g F) {p:Addr} (hp:g≠p.block) (u:Value):RowI (w.setCell p u) g F:=(Below.heap_setCell w p u g hp).trans h
theorem RowI.row (h:RowI w g F) (G:Nat→Int):RowI (w.setRow g (ar G)) g G:=setRow_heap w g _ _ _ _ h
theorem RowI.below {B:Nat} (h:RowI w g F) (hb:Below B w w') (hg:g < B):RowI w' g F:=(hb.block g hg).trans h
theorem RowI.to {G:Nat→Int} (h:RowI w g F) (e:∀ i,i < 17→F i=G i):RowI w g G:=by unfold RowI at *;rw [h,ar_congr e]
end
theorem infoI (F:Nat→Int):(Tryz.prog.info? 348).map (·.size)=some (ar F).size:=by rw [ar_size];kernel_rfl
theorem load_ar {ops:Array Oper} {rest:List Oper} {o:Oper} {a:Act} {w:World} {Q:Exit→Act→World→Prop} (hgd:o.guard=none) (x:Operand) (ho:o.op = .load 348 x)
 (g:Nat) (F:Nat→Int) (hx:a.eval x = .pointer (some ⟨g,0,none⟩)) (hrow:RowI w g F) (h:wpList Tryz.prog ops Q rest (a.put o.dst (.agg (ar F))) w):wpList Tryz.prog ops Q (o :: rest) a w :=
 wpList_load_row hgd _ x ho g hx _ _ _ _ hrow Tryz.underlying348 rfl (infoI _) h
theorem store_ar {ops:Array Oper} {rest:List Oper} {o:Oper} {a:Act} {w:World} {Q:Exit→Act→World→Prop} (hgd:o.guard=none) (x y:Operand) (ho:o.op = .store 348 x y)
 (g:Nat) (F G:Nat→Int) (hx:a.eval x = .pointer (some ⟨g,0,none⟩)) (hy:a.eval y = .agg (ar F)) (hrow:RowI w g G) (h:wpList Tryz.prog ops Q rest (a.put o.dst undef) (w.setRow g (ar F))):wpList Tryz.prog ops Q (o :: rest) a w :=
 wpList_store_row hgd _ x y ho g _ hx hy _ _ hrow (infoI _) rfl (ar_one _) h
theorem store_ar_new {ops:Array Oper} {rest:List Oper} {o:Oper} {a:Act} {w:World} {Q:Exit→Act→World→Prop} (hgd:o.guard=none) (x y:Operand) (ho:o.op = .store 348 x y)
 (F:Nat→Int) (hx:a.eval x = .pointer (some ⟨w.heap.size,0,none⟩)) (hy:a.eval y = .agg (ar F)) (h:wpList Tryz.prog ops Q rest (a.put o.dst undef) (w.alloc (.cells (ar F) 348))) :
 wpList Tryz.prog ops Q (o :: rest) a (w.alloc (.cells #[.int .i64 0,.int .i64 0,.int .i64 0,.int .i64 0,.int .i64 0,.int .i64 0,.int .i64 0,.int .i64 0,.int .i64 0,.int .i64 0,.int .i64 0,.int .i64 0,.int .i64 0,.int .i64 0,.int .i64 0,.int .i64 0,.int .i64 0] 348)) :=
 store_ar hgd x y ho _ F (fun _=>0) hx hy (RowI.new w (fun _=>0)) (by rw [World.setRow_alloc_new];exact h)
theorem results_ar {fn:Func} {p:Tmp} (h:fn.results=#[.cell p 348]) (tmps:Array Value) (w:World) (g:Nat) (F:Nat→Int) (hp:tmps.getD p undef = .pointer (some ⟨g,0,none⟩)) (hrow:RowI w g F) :
 (results fn tmps).run Tryz.prog w = .ok (.agg (ar F)) w:=results_cell_row h tmps w g _ _ _ _ hp hrow Tryz.underlying348 rfl (infoI _)
def row5 (x:E5):Array Value:=#[.int .i64 x.1,.int .i64 x.2.1,.int .i64 x.2.2.1,.int .i64 x.2.2.2.1,.int .i64 x.2.2.2.2]
def RowE (w:World) (g:Nat) (x:E5):Prop:=w.heap[g]? = some (.cells (row5 x) 87 (0,0))
theorem RowE.lt {w:World} {g:Nat} {x:E5} (h:RowE w g x):g < w.heap.size:=lt_of_block h
theorem RowE.below {B:Nat} {w w':World} {g:Nat} {x:E5} (h:RowE w g x) (hb:Below B w w') (hg:g < B):RowE w' g x:=(hb.block g hg).trans h
theorem results_who {fn:Func} {p r:Tmp} (h:fn.results=#[.tmp r,.cell p 87]) (tmps:Array Value) (w:World) (g1:Nat) (n:Int) (x:E5)
 (hp:tmps.getD p undef = .pointer (some ⟨g1,0,none⟩)) (hr:tmps.getD r undef = .int .i64 n) (h1:RowE w g1 x) :
 (results fn tmps).run Tryz.prog w = .ok (.tuple #[.int .i64 n,ent x]) w:=by
 have e1:=run_loadVar_row (P:=Tryz.prog) w g1 87 87 (row5 x) (0,0) _ h1 Tryz.underlying87 rfl (by show _=some 5;kernel_rfl);have hp':tmps[p]?.getD undef = .pointer (some ⟨g1,0,none⟩):=by simpa using hp
 have hr':tmps[r]?.getD undef = .int .i64 n:=by simpa using hr
 simp only [results,h]
 simp [Result.andThen,hp',hr',asAddr,e1,ent,row5]
end Go.Proofs.YtljnkaodhfnbbaaGreatDoor.Ck
namespace Go.Proofs.YtljnkaodhfnbbaaGreatDoor.Pa
open Go.RowKit Go.Maps
open Fl (R4 z4 K4 rec4 rat okR okL arr4 row_cell row_frozen)
open Fs (Abs St Rs Only Fx gB gV sB sA dA dE dD Wf OkA law keyI Rh)
open Rw (Rd Ow At)
open Ro (E5 z5 okE eat K5 at5 ent may_each okE_bounds)
open Ck (LL lat sN sE tE bI RdL who_cases may_all)
def ptr (s:Nat):Value:=.pointer (some ⟨s,0,none⟩)
def KN:Rw.Kind Nat:=⟨fun s=>[ptr s],1,by decide,fun _=>rfl,fun _ u h=>by simp at h;subst h;rfl,0⟩
def pv (p:Option Nat):Value:=.pointer (p.map fun s=>⟨s,0,none⟩)
def KP:Rw.Kind (Option Nat):=⟨fun p=>[pv p],1,by decide,fun _=>rfl,fun p u h=>by simp at h;subst h;cases p <;> rfl,none⟩
def KB:Rw.Kind Bool:=⟨fun b=>[.bool b],1,by decide,fun _=>rfl,fun _ u h=>by simp at h;subst h;rfl,false⟩
def K2:Rw.Kind S2:=⟨fun x=>[.int .i64 x.1,.int .i64 x.2],2,by decide,fun _=>rfl,fun _ u h=>by simp at h;rcases h with rfl | rfl <;> rfl,z2⟩
section
variable {w:World} {b off:Nat}
theorem atN {l:List Nat} (h:At KN w b off l) {i:Nat} (hi:i < l.length):w.cell? ⟨b,off+i,none⟩=some (ptr (l.getD i 0)):=by
 have c:=h i hi 0 _ rfl
 simpa [KN] using c
theorem atP {l:List (Option Nat)} (h:At KP w b off l) {i:Nat} (hi:i < l.length):w.cell? ⟨b,off+i,none⟩=some (pv (l.getD i none)):=by
 have c:=h i hi 0 _ rfl
 simpa [KP] using c
theorem atB {l:List Bool} (h:At KB w b off l) {i:Nat} (hi:i < l.length):w.cell? ⟨b,off+i,none⟩=some (.bool (l.getD i false)):=by
 have c:=h i hi 0 _ rfl
 simpa [KB] using c
theorem at2 {l:List S2} (h:At K2 w b off l) {i:Nat} (hi:i < l.length):w.cell? ⟨b,off+i * 2,none⟩=some (.int .i64 (pat l i).1)∧w.cell? ⟨b,off+i * 2+1,none⟩=some (.int .i64 (pat l i).2) :=
 ⟨h i hi 0 _ rfl,h i hi 1 _ rfl⟩
theorem rd_some {v:Value} {l:List Nat} (h:Rd KN w v l):Rd KP w v (l.map some):=by
 obtain ⟨a,cap,e,h1,h2,h3⟩:=h;refine ⟨a,cap,by rw [List.length_map];exact e,by rw [List.length_map];exact h1,h2,fun h0=>?_⟩;rw [List.length_map] at h0;obtain ⟨b,off,ea,hA⟩:=h3 h0;refine ⟨b,off,ea,fun i hi j u hu=>?_⟩;rw [List.length_map] at hi;have:KP.enc ((l.map some).getD i KP.dft)=KN.enc (l.getD i KN.dft):=by
  rw [List.getD_eq_getElem?_getD,List.getElem?_map,List.getElem?_eq_getElem hi,List.getD_eq_getElem?_getD,List.getElem?_eq_getElem hi]
  rfl
 rw [this] at hu;exact hA i hi j u hu
end
def Has (w:World) (s:Nat) (x:Abs×Int):Prop:=∃ F,St w s F x.1 x.2
def Hrf (w:World) (r:Nat) (x:Abs×Int):Prop:=Rs w r (fun _=>False) x.1 x.2
def Stl (w:World) (v:Value) (S:Sts):Prop:=∃ ps:List Nat,Rd KN w v ps∧ps.length=S.length∧∀ i,i < S.length→Has w (ps.getD i 0) (sat S i)
def Rfl (w:World) (v:Value) (S:Sts):Prop:=∃ ps:List Nat,Rd KN w v ps∧ps.length=S.length∧∀ i,i < S.length→Hrf w (ps.getD i 0) (sat S i)
section
variable {w w':World} {s:Nat} {x:Abs×Int} {v:Value} {S:Sts}
theorem Has.below (h:Has w s x) (b:Below w.heap.size w w'):Has w' s x:=by obtain ⟨F,h⟩:=h;exact ⟨F,h.below b⟩
theorem Hrf.below (h:Hrf w s x) (b:Below w.heap.size w w'):Hrf w' s x:=Fs.Rs.below h b
theorem Has.okA (h:Has w s x):OkA x.1:=by obtain ⟨F,h⟩:=h;exact h.okA
theorem Hrf.okA (h:Hrf w s x):OkA x.1:=by obtain ⟨v,L,h,e⟩:=h;rw [← e];exact h.ok
theorem Stl.below (h:Stl w v S) (b:Below w.heap.size w w'):Stl w' v S:=by obtain ⟨ps,h1,h2,h3⟩:=h;exact ⟨ps,h1.below b,h2,fun i hi=>(h3 i hi).below b⟩
theorem Rfl.below (h:Rfl w v S) (b:Below w.heap.size w w'):Rfl w' v S:=by obtain ⟨ps,h1,h2,h3⟩:=h;exact ⟨ps,h1.below b,h2,fun i hi=>(h3 i hi).below b⟩
theorem Stl.slice (h:Stl w v S):∃ a cap,v = .slice a S.length cap∧cap≤maxLen:=by obtain ⟨ps,h1,h2,_⟩:=h;rw [← h2];exact h1.slice
theorem Rfl.slice (h:Rfl w v S):∃ a cap,v = .slice a S.length cap∧cap≤maxLen:=by obtain ⟨ps,h1,h2,_⟩:=h;rw [← h2];exact h1.slice
theorem Stl.one (h:Stl w v S) {k:Nat} (hk:k < S.length):∃ b off cap s,v = .slice (some ⟨b,off,none⟩) S.length cap∧w.cell? ⟨b,off+k,none⟩=some (ptr s)∧Has w s (sat S k):=by
 obtain ⟨ps,h1,h2,h3⟩:=h;obtain ⟨a,cap,e,_,_,g⟩:=h1;obtain ⟨b,off,rfl,hA⟩:=g (by omega);exact ⟨b,off,cap,_,by rw [← h2];exact e,atN hA (by omega),h3 k hk⟩
theorem Rfl.one (h:Rfl w v S) {k:Nat} (hk:k < S.length):∃ b off cap s,v = .slice (some ⟨b,off,none⟩) S.length cap∧w.cell? ⟨b,off+k,none⟩=some (ptr s)∧Hrf w s (sat S k):=by
 obtain ⟨ps,h1,h2,h3⟩:=h;obtain ⟨a,cap,e,_,_,g⟩:=h1;obtain ⟨b,off,rfl,hA⟩:=g (by omega);exact ⟨b,off,cap,_,by rw [← h2];exact e,atN hA (by omega),h3 k hk⟩
end
structure Ns (w:World) (vs vt vl:Value) (S:Sts) (T:LL) (V:List Bool):Prop where
 st:Stl w vs S
 tb:RdL w vt T
 lv:Rd KB w vl V
 lt:T.length=S.length
 ll:V.length=S.length
 ok:tE T=0
section
variable {w w':World} {vs vt vl:Value} {S:Sts} {T:LL} {V:List Bool}
theorem Ns.below (h:Ns w vs vt vl S T V) (b:Below w.heap.size w w'):Ns w' vs vt vl S T V:=⟨h.st.below b,h.tb.below b,h.lv.below b,h.lt,h.ll,h.ok⟩
theorem wf_of {n:Int} (h:0≤n∧n≤1000):Wf n:=by
 have e1:IntKind.i64.min = -9223372036854775808:=rfl;have e2:IntKind.i64.max=9223372036854775807:=rfl
 show (decide (IntKind.i64.min≤n) && decide (n≤IntKind.i64.max))=true
 rw [e1,e2,Bool.and_eq_true,decide_eq_true_eq,decide_eq_true_eq]
 omega
theorem not_bad (h:tE T=0):¬ 0≤bI T:=fun g=>by
 have:=(Ck.t_form g).2
 omega
theorem tab_each (h:tE T=0) {k:Nat} (hk:k < T.length):∀ x∈lat T k,okE x∧x.1≠4:=may_each (may_all (not_bad h) k hk)
end
end Go.Proofs.YtljnkaodhfnbbaaGreatDoor.Pa
