import Derived.WalkKit
import Derived.Test.YtpkipilggkbkeaaGreatDoorMg3
import Derived.Test.YtpkipilggkbkeaaGreatDoorMg2
import Derived.LoopTactic
import Derived.Outline
import Derived.Maps.OwnOps
import Derived.WalkSpells
namespace Go.Proofs.YtpkipilggkbkeaaGreatDoor.Ua
open Go.RowKit
def bit (b:Int) (j:Nat):Bool:=decide (b / 2 ^ j % 2=1)
def par (F:Nat→Bool):Nat→Bool
 | 0=>false
 | k+1=>par F k != F (k+1)
def val (F:Nat→Bool):Nat→Nat
 | 0=>0
 | k+1=>val F k+if F (k+1) then 2 ^ k else 0
def cnt (F:Nat→Bool):Nat→Nat
 | 0=>0
 | k+1=>cnt F k+if F (k+1) then 1 else 0
def upd (F:Nat→Bool) (k:Nat) (x:Bool) (i:Nat):Bool:=if i=k then x else F i
def put (b:Int) (k:Nat) (i:Nat):Bool:=if 1≤i∧i < k then bit b (i - 1) else false
def frm (b:Int) (odd:Bool):Nat→Bool:=upd (upd (put b 9) 9 (par (put b 9) 9 != odd)) 10 true
def turn (F:Nat→Bool) (m:Int) (k:Nat) (i:Nat):Bool:=if i < k then F i != bit m i else F i
def bad (F:Nat→Bool):Bool:=F 0 || !F 10
def tb (F:Nat→Bool):Int:=if bad F then 0 else val F 8
def tp (F:Nat→Bool):Bool:=if bad F then false else par F 9
def te (F:Nat→Bool):Int:=if bad F then 2 else 0
theorem par_congr {F G:Nat→Bool} : ∀ k,(∀ i,1≤i→i≤k→F i=G i)→par F k=par G k
 | 0,_=>rfl
 | k+1,h=>by rw [par,par,par_congr k (fun i h1 h2=>h i h1 (by omega)),h (k+1) (by omega) (by omega)]
theorem val_congr {F G:Nat→Bool} : ∀ k,(∀ i,1≤i→i≤k→F i=G i)→val F k=val G k
 | 0,_=>rfl
 | k+1,h=>by rw [val,val,val_congr k (fun i h1 h2=>h i h1 (by omega)),h (k+1) (by omega) (by omega)]
theorem val_lt (F:Nat→Bool):∀ k,val F k < 2 ^ k
 | 0=>Nat.lt_succ_self 0
 | k+1=>by have:=val_lt F k;rw [val,Nat.pow_succ];split <;> omega
theorem cnt_le (F:Nat→Bool):∀ k,cnt F k≤k
 | 0=>Nat.le_refl _
 | k+1=>by have:=cnt_le F k;rw [cnt];split <;> omega
theorem cnt_par (F:Nat→Bool):∀ k,decide (cnt F k % 2=1)=par F k
 | 0=>rfl
 | k+1=>by
   have ih:=cnt_par F k;rw [cnt,par,← ih]
   by_cases h:F (k+1)=true <;> by_cases c:cnt F k % 2=1 <;> simp [h,c] <;> omega
theorem bit_mod (b:Int) (j:Nat):b / 2 ^ j % 2=if bit b j then 1 else 0:=by
 unfold bit
 split
 ·rename_i h;simpa using h
 ·rename_i h;simp at h;omega
theorem pow_succ_int (k:Nat):(2:Int) ^ (k+1)=2 ^ k * 2:=Int.pow_succ _ _
theorem par_put9 (b:Int):par (put b 9) 9=par (put b 9) 8:=by
 show (par (put b 9) 8 != put b 9 9)=_
 have:put b 9 9=false:=by unfold put;rw [if_neg (by omega)]
 rw [this];simp
def ones (m:Int):Nat→Nat
 | 0=>0
 | k+1=>ones m k+if bit m k then 1 else 0
theorem and_bit_all:∀ b:Fin 256,∀ j:Fin 8,(bits BinOp.and .u8 (b.val:Int) (2 ^ j.val) != 0)=decide ((b.val:Int) / 2 ^ j.val % 2=1):=by decide +kernel
theorem and_bit (b:Int) (j:Nat) (h0:0≤b) (h1:b≤255) (hj:j < 8):(bits BinOp.and .u8 b (2 ^ j) != 0)=bit b j:=by
 have:=and_bit_all ⟨b.toNat,by omega⟩ ⟨j,hj⟩;simp only at this;rw [show ((b.toNat:Nat):Int)=b by omega] at this;exact this
theorem or_bit_all:∀ b:Fin 256,∀ j:Fin 8,b.val < 2 ^ j.val→bits BinOp.or .u8 (b.val:Int) (2 ^ j.val)=((b.val+2 ^ j.val:Nat):Int):=by decide +kernel
theorem or_bit (b j:Nat) (hj:j < 8) (h:b < 2 ^ j):bits BinOp.or .u8 (b:Int) (2 ^ j)=((b+2 ^ j:Nat):Int) :=
 or_bit_all ⟨b,by have:2 ^ j≤2 ^ 7:=Nat.pow_le_pow_right (by omega) (by omega)
                  omega⟩ ⟨j,hj⟩ h
theorem and_i64 (x:Int) (c:Nat) (hc:c < 9223372036854775808):bits BinOp.and .i64 x (c:Int)=(((x % 18446744073709551616).toNat &&& c:Nat):Int):=by
 have e:(BitVec.ofInt 64 x &&& BitVec.ofInt 64 (c:Int)).toNat=(x % 18446744073709551616).toNat &&& c:=by
  rw [BitVec.toNat_and,BitVec.toNat_ofInt,BitVec.toNat_ofInt]
  congr 1
  simp
  omega
 show IntKind.i64.wrap (((BitVec.ofInt 64 x &&& BitVec.ofInt 64 (c:Int)).toNat:Nat):Int)=_
 rw [e];have l:(x % 18446744073709551616).toNat &&& c≤c:=Nat.and_le_right;exact IntWalk.i64_in _ (by omega)
theorem and_one (x:Int):bits BinOp.and .i64 x 1=x % 2:=by
 have:=and_i64 x 1 (by omega);rw [Nat.and_one_is_mod] at this;rw [show (1:Int)=((1:Nat):Int) from rfl,this]
 omega
theorem test_one (m:Int) (k:Nat):(bits BinOp.and .i64 (m / 2 ^ k) 1 == 1)=bit m k:=by rw [and_one];rfl
end Go.Proofs.YtpkipilggkbkeaaGreatDoor.Ua
namespace Go.Proofs.YtpkipilggkbkeaaGreatDoor.Pa
open Go.RowKit
open Fl (R4 z4 rat goodF okR okL)
open Fs (Fil Abs key Srt OkA gB gV sB sA dA dE dD dV addE addA look_some look_none look_at map_look put_set)
open Ro (E5 z5 okE eat mayP)
open Ck (LL lat sN sE tE)
open Ua (bit frm te tp tb upd)
def rb (v:R4) (b:Int):Int:=if b=0 then v.1 else if b=1 then v.2.1 else if b=2 then v.2.2.1 else v.2.2.2
def rs (v:R4) (b x:Int):R4:=if b=0 then (x,v.2.1,v.2.2.1,v.2.2.2) else if b=1 then (v.1,x,v.2.2.1,v.2.2.2) else if b=2 then (v.1,v.2.1,x,v.2.2.2) else (v.1,v.2.1,v.2.2.1,x)
def byt (x:Int):Prop:=0≤x∧x≤255
theorem rb_ok {v:R4} (h:okR v) (b:Int):byt (rb v b):=by
 obtain ⟨h1,h2,h3,h4⟩:=h;unfold rb byt
 split
 ·exact h1
 ·split
  ·exact h2
  ·split
   ·exact h3
   ·exact h4
theorem rs_ok {v:R4} (h:okR v) (b:Int) {x:Int} (hx:byt x):okR (rs v b x):=by
 obtain ⟨h1,h2,h3,h4⟩:=h;unfold rs
 split
 ·exact ⟨hx,h2,h3,h4⟩
 ·split
  ·exact ⟨h1,hx,h3,h4⟩
  ·split
   ·exact ⟨h1,h2,hx,h4⟩
   ·exact ⟨h1,h2,h3,hx⟩
theorem rs_swap (v:R4) {a b:Int} (h:a≠b) (ha:0≤a∧a≤3) (hb:0≤b∧b≤3) (x y:Int):rs (rs v a x) b y=rs (rs v b y) a x:=by
 obtain rfl | rfl | rfl | rfl:a=0∨a=1∨a=2∨a=3:=by omega
 all_goals
  obtain rfl | rfl | rfl | rfl:b=0∨b=1∨b=2∨b=3:=by omega
  all_goals first | (exact absurd rfl h) | rfl
theorem rs_twice (v:R4) (a x y:Int):rs (rs v a x) a y=rs v a y:=by
 unfold rs
 by_cases h0:a=0
 ·simp [h0]
 ·by_cases h1:a=1
  ·simp [h1]
  ·by_cases h2:a=2
   ·simp [h2]
   ·simp [h0,h1,h2]
abbrev Hr:=Int→Option Int
def mt (f r:Int) (x:E5):Bool:=decide (x.1=2∧x.2.2.1=f∧x.2.2.2.1=r)
def grp (t:List E5) (f r:Int):List E5:=t.filter (mt f r)
def allH (h:Hr) (l:List E5):Bool:=l.all fun x=>(h x.2.1).isSome
def mix (h:Hr) (l:List E5) (v:R4):R4:=l.foldl (fun v x=>rs v x.2.2.2.2 ((h x.2.1).getD 0)) v
def newV (h:Hr) (l:List E5) (v:R4):R4:=if allH h l=true then mix h l v else v
def okH (h:Hr):Prop:=∀ n y,h n=some y→byt y
def okY (l:List E5):Prop:=∀ x∈l,0≤x.2.2.2.2∧x.2.2.2.2≤3
theorem getD_ok {h:Hr} (hh:okH h) (n:Int):byt ((h n).getD 0):=by
 rcases e:h n with _ | y
 ·exact ⟨Int.le_refl _,by show (0:Int)≤255;omega⟩
 ·exact hh n y e
theorem mix_ok {h:Hr} (hh:okH h):∀ (l:List E5) {v:R4},okR v→okR (mix h l v)
 | [],_,hv=>hv
 | _ :: r,_,hv=>mix_ok hh r (rs_ok hv _ (getD_ok hh _))
theorem newV_nil (h:Hr) (v:R4):newV h [] v=v:=rfl
theorem mix_cons (h:Hr) (x:E5) (r:List E5) (v:R4):mix h (x :: r) v=mix h r (rs v x.2.2.2.2 ((h x.2.1).getD 0)):=rfl
theorem mix_rs {h:Hr} (a x:Int) (ha:0≤a∧a≤3):∀ (l:List E5) (v:R4),okY l→mix h l (rs v a x)=if l.any (fun y=>decide (y.2.2.2.2=a))=true then mix h l v else rs (mix h l v) a x
 | [],_,_=>rfl
 | y :: r,v,hy=>by
   have hr:okY r:=fun z hz=>hy z (List.mem_cons_of_mem _ hz);have hy0:=hy y (List.mem_cons_self ..);rw [mix_cons,mix_cons,List.any_cons]
   by_cases e:y.2.2.2.2=a
   ·rw [e,rs_twice,decide_eq_true (rfl:a=a),Bool.true_or,if_pos rfl]
   ·rw [decide_eq_false e,Bool.false_or,rs_swap _ (fun h=>e h.symm) ha hy0,mix_rs a x ha r _ hr]
theorem mix_mix {h:Hr} : ∀ (l:List E5) (v:R4),okY l→mix h l (mix h l v)=mix h l v
 | [],_,_=>rfl
 | x :: r,v,hy=>by
   have hr:okY r:=fun z hz=>hy z (List.mem_cons_of_mem _ hz);have hx:=hy x (List.mem_cons_self ..);have ih:=mix_mix (h:=h) r v hr;rw [mix_cons,mix_cons,mix_rs _ _ hx r v hr]
   split
   ·rename_i hany
    rw [mix_rs _ _ hx r _ hr,if_pos hany,ih]
   ·rename_i hany
    rw [rs_twice,mix_rs _ _ hx r _ hr,if_neg hany,ih]
theorem newV_newV {h:Hr} {l:List E5} (hy:okY l) (v:R4):newV h l (newV h l v)=newV h l v:=by
 unfold newV
 by_cases e:allH h l=true
 ·simp only [e,if_true]
  exact mix_mix l v hy
 ·simp only [e,if_false,Bool.false_eq_true]
def recF (h:Hr) (t:List E5) (V:Int→Int→Bool) (e:Fil):Fil:=(e.1,e.2.1,e.2.2.mapIdx fun k v=>if V e.1 k=true then newV h (grp t e.1 k) v else v)
def recV (h:Hr) (t:List E5) (V:Int→Int→Bool) (A:Abs):Abs:=A.map (recF h t V)
def recA (h:Hr) (t:List E5) (A:Abs):Abs:=recV h t (fun _ _=>true) A
section
variable {h:Hr} {t:List E5} {V:Int→Int→Bool} {A:Abs}
theorem recF_len (e:Fil):(recF h t V e).2.2.length=e.2.2.length:=by simp [recF]
theorem recF_get (e:Fil) (k:Nat):(recF h t V e).2.2[k]? = (e.2.2[k]?).map fun v=>if V e.1 k=true then newV h (grp t e.1 k) v else v:=by simp [recF]
theorem recF_rat (e:Fil) {k:Nat} (hk:k < e.2.2.length):rat (recF h t V e).2.2 k=if V e.1 k=true then newV h (grp t e.1 k) (rat e.2.2 k) else rat e.2.2 k:=by
 unfold rat;rw [List.getD_eq_getElem?_getD,List.getD_eq_getElem?_getD,recF_get,List.getElem?_eq_getElem hk]
 rfl
theorem rec_look (n:Int):Fs.look key n (recV h t V A)=(Fs.look key n A).map (recF h t V):=map_look (κ:=key) (κ':=key) (f:=recF h t V) (fun _=>rfl) n A
theorem rec_gB (n k:Int):gB (recV h t V A) n k=gB A n k:=by
 unfold gB;rw [rec_look]
 cases Fs.look key n A with
 | none=>rfl
 | some e=>simp [recF_len]
theorem rec_gV (n k:Int) (hg:gB A n k=true):gV (recV h t V A) n k=if V n k=true then newV h (grp t n k) (gV A n k) else gV A n k:=by
 unfold gB at hg;unfold gV;rw [rec_look]
 rcases e:Fs.look key n A with _ | c
 ·rw [e] at hg
  cases hg
 ·rw [e] at hg
  simp only [decide_eq_true_eq] at hg;obtain ⟨_,hk⟩:=look_some e;have hn:c.1=n:=hk;simp only [Option.map_some];rw [if_pos (by rw [recF_len];exact hg),if_pos hg,recF_rat c (by omega)];have ek:((k.toNat:Nat):Int)=k:=by omega
  rw [ek,hn]
theorem rec_none (hV:∀ n k,V n k=false):recV h t V A=A:=by
 unfold recV;rw [List.map_congr_left (g:=id) (fun e _=>?_),List.map_id];obtain ⟨n,p,l⟩:=e;simp only [recF,hV,id]
 congr 2
 exact List.ext_getElem? fun k=>by simp
theorem rec_congr {V':Int→Int→Bool} (hV:∀ n k,grp t n k≠[]→V n k=V' n k):recV h t V A=recV h t V' A:=by
 unfold recV;refine List.map_congr_left fun e _=>?_;unfold recF
 congr 2
 refine List.ext_getElem? fun k=>?_;simp only [List.getElem?_mapIdx]
 cases e.2.2[k]? with
 | none=>rfl
 | some v =>
   by_cases hg:grp t e.1 k = []
   ·simp [hg,newV_nil]
   ·simp [hV _ _ hg]
theorem rec_all (hV:∀ n k,grp t n k≠[]→V n k=true):recV h t V A=recA h t A:=rec_congr hV
def also (V:Int→Int→Bool) (n k:Int) (a b:Int):Bool:=V a b || decide (a=n∧b=k)
theorem rec_set (hA:OkA A) {n k:Int} (hg:gB A n k=true) (h0:k≠0) (hy:okY (grp t n k)):sA (recV h t V A) n k (newV h (grp t n k) (gV (recV h t V A) n k))=recV h t (also V n k) A:=by
 have hgr:gB (recV h t V A) n k=true:=(rec_gB n k).trans hg;have hsb:sB (recV h t V A) n k=true:=by unfold sB;rw [hgr,decide_eq_true h0];rfl
 have hv:=rec_gV (h:=h) (t:=t) (V:=V) n k hg;have hval:newV h (grp t n k) (gV (recV h t V A) n k)=newV h (grp t n k) (gV A n k):=by
  rw [hv]
  split
  ·exact newV_newV hy _
  ·rfl
 rw [hval];unfold gB at hg
 rcases e:Fs.look key n A with _ | c
 ·rw [e] at hg
  cases hg
 rw [e] at hg;simp only [decide_eq_true_eq] at hg;obtain ⟨hm,hk⟩:=look_some e;have hn:c.1=n:=hk;have hvA:gV A n k=rat c.2.2 k.toNat:=by unfold gV;rw [e];exact if_pos hg
 rw [hvA];unfold sA;rw [rec_look,e];simp only [Option.map_some];rw [if_pos hsb];obtain ⟨i,hi⟩:=List.getElem?_of_mem hm;have hsr:Srt key (recV h t V A):=(Fs.map_srt (κ:=key) (κ':=key) (f:=recF h t V) (fun _=>rfl)).2 hA.srt;have hir:(recV h t V A)[i]? = some (recF h t V c):=by unfold recV;rw [List.getElem?_map,hi];rfl
 rw [put_set (κ:=key) (c:=(n,(recF h t V c).2.1,(recF h t V c).2.2.set k.toNat (newV h (grp t n k) (rat c.2.2 k.toNat)))) hsr hir (show c.1=n from hn)];refine List.ext_getElem? fun j=>?_;rw [List.getElem?_set];have hlen:i < (recV h t V A).length:=(List.getElem?_eq_some_iff.1 hir).1
 by_cases hj:i=j
 ·subst hj
  rw [if_pos rfl,if_pos hlen];unfold recV;rw [List.getElem?_map,hi];simp only [Option.map_some,Option.some.injEq];unfold recF;refine Prod.ext hn.symm (Prod.ext rfl ?_);refine List.ext_getElem? fun q=>?_;simp only [List.getElem?_set,List.length_mapIdx,List.getElem?_mapIdx]
  by_cases hq:k.toNat=q
  ·subst hq
   have hql:k.toNat < c.2.2.length:=by omega
   rw [if_pos rfl,if_pos hql,List.getElem?_eq_getElem hql];have ek:((k.toNat:Nat):Int)=k:=by omega
   simp only [Option.map_some,ek,also,hn,and_self,decide_true,Bool.or_true,if_true]
   congr 2
   unfold rat;rw [List.getD_eq_getElem?_getD,List.getElem?_eq_getElem hql]
   rfl
  ·rw [if_neg hq]
   have hne:¬ (q:Int)=k:=by omega
   cases c.2.2[q]? with
   | none=>rfl
   | some v=>simp [also,hne]
 ·rw [if_neg hj]
  unfold recV;rw [List.getElem?_map,List.getElem?_map]
  rcases ej:A[j]? with _ | x
  ·rfl
  ·have hne:x.1≠n:=fun hx=>by
    have hxm:x∈A:=List.mem_of_getElem? ej;have q1:=look_at hA.srt hxm;rw [show key x=n from hx,e] at q1;injection q1 with q1;subst q1;have hi':=(List.getElem?_eq_some_iff.1 hi).1;have hj':=(List.getElem?_eq_some_iff.1 ej).1;have pw:=List.pairwise_iff_getElem.1 hA.srt;have g1:A[i]=c:=by have:=hi;rw [List.getElem?_eq_getElem hi'] at this;simpa using this
    have g2:A[j]=c:=by have:=ej;rw [List.getElem?_eq_getElem hj'] at this;simpa using this
    rcases Nat.lt_or_gt_of_ne hj with hlt | hlt
    ·have:=pw i j hi' hj' hlt
     rw [g1,g2] at this
     omega
    ·have:=pw j i hj' hi' hlt
     rw [g1,g2] at this
     omega
   simp only [Option.map_some,Option.some.injEq];unfold recF
   congr 2
   refine List.ext_getElem? fun q=>?_
   simp [also,hne]
theorem rec_out (hA:OkA A) {n k:Int} (hg:gB A n k=false):recV h t (also V n k) A=recV h t V A:=by
 unfold recV;refine List.map_congr_left fun e he=>?_;unfold recF
 congr 2
 refine List.ext_getElem? fun q=>?_;simp only [List.getElem?_mapIdx]
 by_cases hx:e.1=n∧(q:Int)=k
 ·obtain ⟨h1,h2⟩:=hx
  have q1:=look_at hA.srt he;rw [show key e=n from h1] at q1;unfold gB at hg;rw [q1] at hg;simp only [decide_eq_false_iff_not] at hg;rw [List.getElem?_eq_none (by omega)]
  rfl
 ·simp [also,hx]
end
end Go.Proofs.YtpkipilggkbkeaaGreatDoor.Pa
namespace Go.Proofs.YtpkipilggkbkeaaGreatDoor.Pa
open Go.RowKit
open Fl (R4 z4 rat goodF okR okL)
open Fs (Fil Abs key Srt OkA gB gV sB sA dA dE dD dV addE addA look_some look_none look_at map_look put_set)
open Ro (E5 z5 okE eat mayP eat_get)
open Ck (LL lat sN sE tE)
open Ua (bit frm te tp tb upd)
section
variable {h:Hr} {t:List E5} {V:Int→Int→Bool} {A:Abs}
def rcv1 (h:Hr) (l:List E5) (f r:Int) (A:Abs):Abs:=if (gB A f r && allH h l)=true then sA A f r (mix h l (gV A f r)) else A
theorem rcv1_next (hA:OkA A) {f r:Int} (h0:r≠0) (hy:okY (grp t f r)):rcv1 h (grp t f r) f r (recV h t V A)=recV h t (also V f r) A:=by
 unfold rcv1;rw [rec_gB]
 by_cases hg:gB A f r=true
 ·by_cases ha:allH h (grp t f r)=true
  ·rw [hg,ha,show (true && true)=true from rfl,if_pos rfl,← rec_set hA hg h0 hy]
   congr 1
   unfold newV;rw [if_pos ha]
  ·rw [if_neg (by simp [ha])]
   unfold recV;refine List.map_congr_left fun e _=>?_;unfold recF
   congr 2
   refine List.ext_getElem? fun q=>?_;simp only [List.getElem?_mapIdx]
   by_cases hx:e.1=f∧(q:Int)=r
   ·obtain ⟨h1,h2⟩:=hx
    rw [h1,h2];have:∀ v,newV h (grp t f r) v=v:=fun v=>by unfold newV;rw [if_neg ha]
    simp only [this,ite_self]
   ·simp [also,hx]
 ·rw [if_neg (by simp [hg]),rec_out hA (by simpa using hg)]
def seen (t:List E5) (j:Nat) (n k:Int):Bool:=(t.take j).any (mt n k)
theorem seen_zero (n k:Int):seen t 0 n k=false:=by simp [seen]
theorem take_eat {j:Nat} (hj:j < t.length):t.take (j+1)=t.take j ++ [eat t j]:=by rw [List.take_add_one,eat_get hj];rfl
theorem seen_yes {j:Nat} (hj:j < t.length) (h2:(eat t j).1=2) (n k:Int):seen t (j+1) n k=also (seen t j) (eat t j).2.2.1 (eat t j).2.2.2.1 n k:=by
 unfold seen also;rw [take_eat hj,List.any_append]
 congr 1
 simp only [List.any_cons,List.any_nil,Bool.or_false,mt,h2,true_and];rw [decide_eq_decide]
 constructor <;> rintro ⟨a,b⟩ <;> exact ⟨a.symm,b.symm⟩
theorem seen_no {j:Nat} (hj:j < t.length) (h2:(eat t j).1≠2) (n k:Int):seen t (j+1) n k=seen t j n k:=by
 unfold seen;rw [take_eat hj,List.any_append]
 simp [mt,h2]
theorem seen_all (n k:Int) (hg:grp t n k≠[]):seen t t.length n k=true:=by
 unfold seen;rw [List.take_length,List.any_eq_true];obtain ⟨x,hx⟩:=List.exists_mem_of_ne_nil _ hg;obtain ⟨h1,h2⟩:=List.mem_filter.1 hx;exact ⟨x,h1,h2⟩
theorem rec_none':recV h t (seen t 0) A=A:=rec_none fun n k=>seen_zero n k
theorem rec_yes (hA:OkA A) {j:Nat} (hj:j < t.length) (h2:(eat t j).1=2) (h0:(eat t j).2.2.2.1≠0) (hy:okY (grp t (eat t j).2.2.1 (eat t j).2.2.2.1)) :
 rcv1 h (grp t (eat t j).2.2.1 (eat t j).2.2.2.1) (eat t j).2.2.1 (eat t j).2.2.2.1 (recV h t (seen t j) A)=recV h t (seen t (j+1)) A:=by
 rw [rcv1_next hA h0 hy];exact rec_congr fun n k _=>(seen_yes hj h2 n k).symm
theorem rec_no {j:Nat} (hj:j < t.length) (h2:(eat t j).1≠2):recV h t (seen t j) A=recV h t (seen t (j+1)) A:=rec_congr fun n k _=>(seen_no hj h2 n k).symm
theorem rec_end:recV h t (seen t t.length) A=recA h t A:=rec_all fun n k hg=>seen_all n k hg
def ex1 (s:Abs×Int) (x:E5):Abs×Int:=if x.1=3 then (dA s.1 2 x.2.2.1 x.2.2.2.1 z4,dD s.1 2 x.2.2.1 x.2.2.2.1 s.2) else s
def exU (t:List E5) (s:Abs×Int) (j:Nat):Abs×Int:=(t.take j).foldl ex1 s
def apS (h:Hr) (t:List E5) (s:Abs×Int):Abs×Int:=t.foldl ex1 (recA h t s.1,s.2)
theorem exU_zero (s:Abs×Int):exU t s 0=s:=rfl
theorem exU_next (s:Abs×Int) {j:Nat} (hj:j < t.length):exU t s (j+1)=ex1 (exU t s j) (eat t j):=by unfold exU;rw [take_eat hj,List.foldl_append];rfl
theorem exU_yes (s:Abs×Int) {j:Nat} (hj:j < t.length) (h3:(eat t j).1=3):exU t s (j+1)=(dA (exU t s j).1 2 (eat t j).2.2.1 (eat t j).2.2.2.1 z4,dD (exU t s j).1 2 (eat t j).2.2.1 (eat t j).2.2.2.1 (exU t s j).2):=by
 rw [exU_next s hj];unfold ex1;rw [if_pos h3]
theorem exU_no (s:Abs×Int) {j:Nat} (hj:j < t.length) (h3:(eat t j).1≠3):exU t s (j+1)=exU t s j:=by
 rw [exU_next s hj];unfold ex1;rw [if_neg h3]
theorem exU_end (h:Hr) (s:Abs×Int):exU t (recA h t s.1,s.2) t.length=apS h t s:=by unfold exU apS;rw [List.take_length]
theorem dD_le {A:Abs} {o f r d:Int} : d≤dD A o f r d∧dD A o f r d≤d+1:=by unfold dD;split <;> omega
theorem exU_d (s:Abs×Int):∀ j,s.2≤(exU t s j).2∧(exU t s j).2≤s.2+j
 | 0=>by rw [exU_zero];omega
 | j+1=>by
   have ih:=exU_d s j
   by_cases hj:j < t.length
   ·rw [exU_next s hj]
    unfold ex1
    split
    ·have:=dD_le (A:=(exU t s j).1) (o:=2) (f:=(eat t j).2.2.1) (r:=(eat t j).2.2.2.1) (d:=(exU t s j).2)
     simp only
     omega
    ·omega
   ·have:exU t s (j+1)=exU t s j:=by unfold exU;rw [List.take_of_length_le (by omega),List.take_of_length_le (by omega)]
    rw [this]
    omega
end
def tn (F:Nat→Bool) (m:Int) (i:Nat):Bool:=if 1≤i∧i < 11 then F i != bit m i else F i
abbrev S2:=Int×Int
def z2:S2:=(0,0)
def pat (P:List S2) (i:Nat):S2:=P.getD i z2
def sq1 (s:Int) (F:Nat→Bool) (x:S2):Nat→Bool:=if x.1=s then tn F x.2 else F
def sq (P:List S2) (s:Int) (F:Nat→Bool) (j:Nat):Nat→Bool:=(P.take j).foldl (sq1 s) F
theorem sq_next (P:List S2) (s:Int) (F:Nat→Bool) {j:Nat} (hj:j < P.length):sq P s F (j+1)=sq1 s (sq P s F j) (pat P j):=by
 unfold sq;have:P.take (j+1)=P.take j ++ [pat P j]:=by
  rw [List.take_add_one,List.getElem?_eq_getElem hj];unfold pat;rw [List.getD_eq_getElem?_getD,List.getElem?_eq_getElem hj]
  rfl
 rw [this,List.foldl_append]
 rfl
theorem sq_yes (P:List S2) (s:Int) (F:Nat→Bool) {j:Nat} (hj:j < P.length) (h:(pat P j).1=s):sq P s F (j+1)=tn (sq P s F j) (pat P j).2:=by rw [sq_next P s F hj];unfold sq1;rw [if_pos h]
theorem sq_no (P:List S2) (s:Int) (F:Nat→Bool) {j:Nat} (hj:j < P.length) (h:(pat P j).1≠s):sq P s F (j+1)=sq P s F j:=by rw [sq_next P s F hj];unfold sq1;rw [if_neg h]
theorem and_2046_all:∀ r:Fin 2048,r.val &&& 2046=r.val / 2 * 2:=by decide +kernel
theorem and_2046 (x:Int):bits BinOp.and .i64 x 2046=x / 2 % 1024 * 2:=by
 have h:=Ua.and_i64 x 2046 (by decide);have h2:((x % 18446744073709551616).toNat &&& 2046:Nat)=(x % 18446744073709551616).toNat % 2048 / 2 * 2:=by
  have a:=and_2046_all ⟨(x % 18446744073709551616).toNat % 2048,Nat.mod_lt _ (by omega)⟩;simp only at a;rw [← a];have e:(x % 18446744073709551616).toNat % 2048=(x % 18446744073709551616).toNat &&& (2 ^ 11 - 1):=by rw [Nat.and_two_pow_sub_one_eq_mod]
  rw [e,Nat.and_assoc]
  rfl
 rw [show ((2046:Int))=((2046:Nat):Int) from rfl,h,h2]
 omega
theorem bit_2046 (x:Int) {i:Nat} (hi:i < 11):bit (x / 2 % 1024 * 2) i=(decide (1≤i) && bit x i):=by
 unfold bit
 rcases Nat.lt_or_ge i 1 with h | h
 ·obtain rfl:i=0:=by omega
  simp
 ·rw [decide_eq_true h,Bool.true_and,decide_eq_decide]
  obtain rfl | rfl | rfl | rfl | rfl | rfl | rfl | rfl | rfl | rfl:i=1∨i=2∨i=3∨i=4∨i=5∨i=6∨i=7∨i=8∨i=9∨i=10:=by omega
  all_goals simp only [Int.reducePow];omega
theorem tn_code (F:Nat→Bool) (m:Int) (i:Nat) (hi:i < 11):Ua.turn F (bits BinOp.and .i64 m 2046) 11 i=tn F m i:=by
 rw [and_2046];unfold Ua.turn tn;rw [if_pos hi,bit_2046 m hi]
 by_cases h:1≤i
 ·simp [h,hi]
 ·simp [h]
theorem tn_ref (F:Nat→Bool) (m:Int) (i:Nat) (hi:i < 11):upd (Ua.turn F m 11) 0 (F 0) i=tn F m i:=by
 unfold upd Ua.turn tn
 by_cases h:i=0
 ·subst h;simp
 ·rw [if_neg h,if_pos hi,if_pos ⟨by omega,hi⟩]
abbrev Sts:=List (Abs×Int)
def sat (S:Sts) (n:Int):Abs×Int:=S.getD n.toNat ([],0)
def vat (V:List Bool) (n:Int):Bool:=V.getD n.toNat false
def snB (S:Sts) (T:LL) (V:List Bool) (s:Int):Bool:=decide (0≤sN s T) && vat V (sN s T) && gB (sat S (sN s T)).1 (sE s T).2.2.1 (sE s T).2.2.2.1
def snX (S:Sts) (T:LL) (s:Int):Int:=rb (gV (sat S (sN s T)).1 (sE s T).2.2.1 (sE s T).2.2.2.1) (sE s T).2.2.2.2
def sbN (S:Sts) (T:LL) (V:List Bool) (s:Int):Int:=if snB S T V s=true then sN s T else -1
def sbX (S:Sts) (T:LL) (V:List Bool) (s:Int):Int:=if snB S T V s=true then snX S T s else 0
def lowF (_:Nat):Bool:=false
def frF (S:Sts) (T:LL) (V:List Bool) (P:List S2) (s:Int):Nat→Bool:=if snB S T V s=true then sq P s (frm (snX S T s) false) P.length else lowF
def hrB (S:Sts) (T:LL) (V:List Bool) (P:List S2) (s:Int):Bool:=snB S T V s && decide (te (frF S T V P s)=0) && !tp (frF S T V P s)
def hrV (S:Sts) (T:LL) (V:List Bool) (P:List S2) (s:Int):Int:=if hrB S T V P s=true then tb (frF S T V P s) else 0
def hr (S:Sts) (T:LL) (V:List Bool) (P:List S2):Hr:=fun s=>if 1≤s∧s≤16∧hrB S T V P s=true then some (hrV S T V P s) else none
theorem tb_byt (F:Nat→Bool):byt (tb F):=by
 unfold tb byt
 split
 ·omega
 ·have:=Ua.val_lt F 8
  omega
theorem hrV_byt (S:Sts) (T:LL) (V:List Bool) (P:List S2) (s:Int):byt (hrV S T V P s):=by
 unfold hrV
 split
 ·exact tb_byt _
 ·unfold byt;omega
theorem hr_ok (S:Sts) (T:LL) (V:List Bool) (P:List S2):okH (hr S T V P):=fun n y h=>by
 unfold hr at h
 split at h
 ·injection h with h;subst h;exact hrV_byt S T V P n
 ·cases h
def rdE (S:Sts) (T:LL) (V:List Bool):Int:=if 1≤S.length∧S.length≤32∧T.length=S.length∧V.length=S.length then tE T else 1
def rdS (S:Sts) (T:LL) (V:List Bool) (h:Hr):Sts:=(List.range S.length).map fun (i:Nat)=>if vat V i=true then apS h (lat T i) (sat S i) else sat S i
theorem rdS_len (S:Sts) (T:LL) (V:List Bool) (h:Hr):(rdS S T V h).length=S.length:=by simp [rdS]
theorem rdS_at (S:Sts) (T:LL) (V:List Bool) (h:Hr) {i:Nat} (hi:i < S.length):sat (rdS S T V h) i=if vat V i=true then apS h (lat T i) (sat S i) else sat S i:=by
 show (rdS S T V h).getD ((i:Int)).toNat _=_
 rw [Int.toNat_natCast,List.getD_eq_getElem?_getD];unfold rdS;rw [List.getElem?_map,List.getElem?_range hi]
 rfl
end Go.Proofs.YtpkipilggkbkeaaGreatDoor.Pa
namespace Go.Proofs.YtpkipilggkbkeaaGreatDoor.Fs
open Go.RowKit Go.Maps
open Fl (R4 z4 K4 rec4 rat goodF goodFB okR okL doE newR file)
open Rw (Rd Ow At)
set_option maxRecDepth 100000
structure Ent where
 n:Int
 p:Int
 a:Option Addr
 cap:Nat
 l:List R4
def Ent.sl (c:Ent):Value:=.slice c.a c.l.length c.cap
def Ent.file (c:Ent):Value:=Fl.file c.p c.sl
def Ent.abs (c:Ent):Fil:=(c.n,c.p,c.l)
def E3:Rw.Kind Ent:=⟨fun c=>[.int .i64 c.n,.int .i64 c.p,c.sl],3,by decide,fun _=>rfl,fun _ u h=>by simp [Ent.sl] at h;rcases h with rfl | rfl | rfl <;> rfl,⟨0,0,none,0,[]⟩⟩
theorem abs_key (c:Ent):key c.abs=c.n:=rfl
structure Only (G:Nat→Prop) (w w':World):Prop where
 os:w'.os=w.os
 tape:w'.tape=w.tape
 output:w'.output=w.output
 size:w.heap.size≤w'.heap.size
 block:∀ k,k < w.heap.size→¬ G k→w'.heap[k]? = w.heap[k]?
def Fx (G:Nat→Prop) (w w':World) (k:Nat):Prop:=G k∨(w.heap.size≤k∧k < w'.heap.size)
section
variable {G:Nat→Prop} {w w' w'':World}
theorem Only.refl (G:Nat→Prop) (w:World):Only G w w:=⟨rfl,rfl,rfl,Nat.le_refl _,fun _ _ _=>rfl⟩
theorem Only.of_below (h:Below w.heap.size w w'):Only G w w':=⟨h.os,h.tape,h.output,h.size,fun k hk _=>h.block k hk⟩
theorem Only.mono {G':Nat→Prop} (h:Only G w w') (hg:∀ k,k < w.heap.size→G k→G' k):Only G' w w':=⟨h.os,h.tape,h.output,h.size,fun k hk hn=>h.block k hk fun g=>hn (hg k hk g)⟩
theorem Only.trans {G':Nat→Prop} (h:Only G w w') (k:Only G' w' w'') (hg:∀ k,k < w.heap.size→G' k→G k):Only G w w'' :=
 ⟨k.os.trans h.os,k.tape.trans h.tape,k.output.trans h.output,Nat.le_trans h.size k.size,fun i hi hn=>(k.block i (Nat.lt_of_lt_of_le hi h.size) fun g=>hn (hg i hi g)).trans (h.block i hi hn)⟩
theorem Only.then (h:Only G w w') (b:Below w'.heap.size w' w''):Only G w w'':=h.trans (Only.of_below (G:=fun _=>False) b) fun _ _ g=>g.elim
theorem Only.set (G:Nat→Prop) (w:World) {a:Addr} (ha:G a.block) (u:Value):Only G w (w.setCell a u) :=
 ⟨rfl,rfl,rfl,by simp [World.setCell],fun k _ hn=>Below.heap_setCell w a u k fun e=>hn (e ▸ ha)⟩
theorem Only.grown {b:Nat} (hb:G b) (h:w.grownBy w' (some b)):Only G w w':=⟨h.os,h.tape,h.output,h.size,fun k hk hn=>h.block k hk fun e=>hn (by injection e with e;exact e ▸ hb)⟩
theorem Only.below {B:Nat} (h:Only G w w') (hB:B≤w.heap.size) (hG:∀ k,G k→B≤k):Below B w w' :=
 ⟨h.os,h.tape,h.output,h.size,fun k hk=>h.block k (by omega) fun g=>by have:=hG k g;omega⟩
theorem Only.cell (h:Only G w w') {a:Addr} {v:Value} (hc:w.cell? a=some v) (hn:¬ G a.block):w'.cell? a=some v :=
 (World.cell?_of_block (h.block a.block (World.block_lt_of_cell? _ _ hc) hn)).trans hc
theorem Fx.of {k:Nat} (h:G k):Fx G w w' k:=.inl h
theorem Fx.not {k:Nat} (h:¬ G k) (hk:k < w.heap.size):¬ Fx G w w' k:=by rintro (g | ⟨g,_⟩);exact h g;omega
theorem Fx.low (h:∀ k,G k→k < w.heap.size) (hs:w.heap.size≤w'.heap.size):∀ k,Fx G w w' k→k < w'.heap.size:=by
 rintro k (g | ⟨_,g⟩)
 ·have:=h k g;omega
 ·exact g
end
section
variable {α:Type} {K:Rw.Kind α} {G:Nat→Prop} {w w':World} {v:Value} {l:List α}
theorem rd_only (h:Rd K w v l) (hn:0 < l.length→∀ k,v.ownBlock=some k→¬ G k) (ho:Only G w w'):Rd K w' v l:=by
 obtain ⟨a,cap,rfl,h1,h2,h3⟩:=h;refine ⟨a,cap,rfl,h1,h2,fun h0=>?_⟩;obtain ⟨b,off,rfl,hA⟩:=h3 h0;exact ⟨b,off,rfl,fun i hi j u hu=>ho.cell (hA i hi j u hu) (hn h0 b rfl)⟩
theorem rd_low (h:Rd K w v l) (h0:0 < l.length):∀ k,v.ownBlock=some k→k < w.heap.size:=by
 obtain ⟨a,cap,rfl,h1,h2,h3⟩:=h;obtain ⟨b,off,rfl,hA⟩:=h3 h0
 intro k hk
 obtain rfl:b=k:=by simpa [Value.ownBlock] using hk
 obtain ⟨j,hj⟩:∃ u,(K.enc (l.getD 0 K.dft))[0]? = some u:=⟨_,List.getElem?_eq_getElem (by rw [K.len];exact K.pos)⟩;exact World.block_lt_of_cell? _ _ (hA 0 h0 0 _ hj)
theorem rd_fx (h:Rd K w v l) (hn:0 < l.length→∀ k,v.ownBlock=some k→¬ G k):0 < l.length→∀ k,v.ownBlock=some k→¬ Fx G w w' k :=
 fun h0 k hk=>Fx.not (hn h0 k hk) (rd_low h h0 k hk)
theorem ow_only {B E:Nat} (h:Ow K w B E v l) (hn:∀ k,v.ownBlock=some k→¬ G k) (ho:Only G w w'):Ow K w' B E v l:=by
 obtain ⟨h1,h2⟩:=h;refine ⟨h1,?_⟩
 rcases h2 with h2 | ⟨g,cap,cur,rfl,hB,hh,r⟩
 ·exact .inl h2
 ·exact .inr ⟨g,cap,cur,rfl,hB,(ho.block g (lt_of_block hh) (hn g rfl)).trans hh,r⟩
theorem ow_new {B E:Nat} (h:Ow K w B E v l):∀ k,v.ownBlock=some k→B≤k∧k < w.heap.size:=fun k hk=>World.ownsRow.lt h k hk
end
def Rh (v:Value):Option (DataW Value×List MemPlace):=some (.held v,[])
def ent (c:Ent):Lit×DataW Value:=(.int .i64 c.n,.held c.file)
def dat (C:List Ent):DataW Value:=.map (C.map ent)
theorem law:Keyed Tryz.prog 3:=int_keyed Tryz.underlying3
theorem zeroF (w:World):(zeroValue 65).run Tryz.prog w = .ok (file 0 (.slice none 0 0)) w:=by kernel_rfl
def Wf (n:Int):Prop:=(Lit.int .i64 n).wf=true
theorem keyI {n:Int} (h:Wf n):keyOf Tryz.prog 3 (.int .i64 n)=some (.int .i64 n):=keyOf_int_mk Tryz.underlying3 h
theorem insert_ent (c:Ent):∀ l:List Ent,DataW.insert (ent c) (l.map ent)=(ins Ent.n c l).map ent
 | []=>rfl
 | y :: r=>by
   simp only [List.map_cons,DataW.insert,ins,ent,Lit.before,decide_eq_true_eq]
   split
   ·rfl
   ·have:=insert_ent c r
    simp only [ent] at this;rw [this]
    rfl
theorem filter_ent (c:Ent) (l:List Ent):(l.map ent).filter (fun p=>!p.1.sameKey (ent c).1)=(l.filter fun y=>decide (¬ y.n=c.n)).map ent:=by
 rw [List.filter_map]
 congr 1
 exact congrArg (fun q=>List.filter q l) (funext fun x=>by simp [ent,Lit.sameKey])
theorem dat_put (c:Ent) (l:List Ent):(dat l).put (.int .i64 c.n) (.held c.file)=dat (put Ent.n c l):=by
 unfold dat DataW.put put;simp only;rw [← insert_ent,← filter_ent]
 rfl
theorem find_ent (n:Int):∀ l:List Ent,(l.map ent).find? (fun p=>p.1.sameKey (.int .i64 n))=(look Ent.n n l).map ent:=fun l=>by
 unfold look;rw [List.find?_map]
 congr 1
 exact congrArg (fun q=>List.find? q l) (funext fun x=>by simp [ent,Lit.sameKey])
def lv (C:List Ent) (n:Int):Value:=match look Ent.n n C with | none=>file 0 (.slice none 0 0) | some c=>c.file
def lb (C:List Ent) (n:Int):Bool:=(look Ent.n n C).isSome
theorem dat_at (n:Int) (l:List Ent):(dat l).atKey (.int .i64 n) (.held (file 0 (.slice none 0 0))) = .held (lv l n):=by
 unfold dat DataW.atKey lv;simp only [find_ent]
 cases look Ent.n n l <;> rfl
theorem dat_has (n:Int) (l:List Ent):Maps.has (dat l) (.int .i64 n)=lb l n:=by
 have e:∀ q:Lit×DataW Value→Bool,(l.map ent).any q=((l.map ent).find? q).isSome:=fun q=>by
  rw [Bool.eq_iff_iff,List.any_eq_true,List.find?_isSome]
 show (l.map ent).any (fun p=>p.1.sameKey (.int .i64 n))=_
 rw [e,find_ent,Option.isSome_map]
 rfl
theorem tight {w:World} {b n:Nat} {C:List Ent} (h:w.ownsMap Tryz.prog 3 Rh b n (dat C)):w.ownsMap Tryz.prog 3 Rh b C.length (dat C):=by
 obtain ⟨es,clock,hb,F,hs,hD⟩:=h;refine ⟨es,clock,hb,F,?_,hD⟩;have e:C.map ent=(es.toList.map (Go.WideElems.rg Tryz.prog 3 Rh)).foldr DataW.insert []:=by unfold dat at hD;injection hD
 have:=congrArg List.length e;rw [length_read,List.length_map] at this
 omega
def Mp (w:World) (F:Nat→Prop) (m:Value) (C:List Ent):Prop:=(m = .map none∧C = [])∨∃ b,m = .map (some b)∧F b∧w.ownsMap Tryz.prog 3 Rh b C.length (dat C)
theorem run_look {w:World} {F:Nat→Prop} {m:Value} {C:List Ent} (M:Mp w F m C) {n:Int} (hn:Wf n) (c:Bool) :
 (Instr.lookup 89 m (.int .i64 n) c).run Tryz.prog w = .ok (if c then .tuple #[lv C n,.bool (lb C n)] else lv C n) w:=by
 rcases M with ⟨rfl,rfl⟩ | ⟨b,rfl,_,h⟩
 ·exact Maps.look_nil c law Tryz.underlying89 (zeroF w) (keyI hn)
 ·cases c with
  | false =>
    obtain ⟨v,ps,hr,hv⟩:=h.lookup law Tryz.underlying89 (zeroF w) (zd:=.held (file 0 (.slice none 0 0))) (zp:=[]) rfl (keyI hn);rw [dat_at] at hv;have:v=lv C n:=by simp [Rh] at hv;exact hv.1
    rw [hr,this]
    rfl
  | true =>
    obtain ⟨v,ps,hr,hv⟩:=h.look_ok law Tryz.underlying89 (zeroF w) (zd:=.held (file 0 (.slice none 0 0))) (zp:=[]) rfl (keyI hn);rw [dat_at] at hv;have:v=lv C n:=by simp [Rh] at hv;exact hv.1
    rw [hr,this,dat_has]
    rfl
theorem run_put {w:World} {F:Nat→Prop} {b:Nat} {C:List Ent} (M:Mp w F (.map (some b)) C) (c:Ent) (hn:Wf c.n) (hl:C.length < maxLen) :
 ∃ w',(Instr.mapUpdate 89 (.map (some b)) (.int .i64 c.n) c.file).run Tryz.prog w = .ok () w'∧Mp w' F (.map (some b)) (put Ent.n c C)∧w.grownBy w' (some b):=by
 rcases M with ⟨h,_⟩ | ⟨b',e,hF,h⟩
 ·cases h
 ·obtain rfl:b=b':=by injection e with e;injection e
  obtain ⟨w',hr,h',hg⟩:=h.update law Tryz.underlying89 hl (keyI hn) (d:=.held c.file) (ps:=[]) rfl;rw [dat_put] at h';exact ⟨w',hr,.inr ⟨b,rfl,hF,tight h'⟩,hg⟩
section
variable {ops:Array Oper} {rest:List Oper} {o:Oper} {a:Act} {Q:Exit→Act→World→Prop} {K:Act→World→Prop} {w:World} {F:Nat→Prop}
theorem at_look {m:Value} {C:List Ent} (hgd:Region.wanted o (yielded ops a.tmps)=true) (p x:Operand) (c:Bool) (hop:o.op = .lookup 89 p x c) (hm:a.eval p=m) (M:Mp w F m C) (n:Int) (hx:a.eval x = .int .i64 n) (hn:Wf n)
 (h:wpList Tryz.prog ops Q rest (a.put o.dst (if c then .tuple #[lv C n,.bool (lb C n)] else lv C n)) w):wpList Tryz.prog ops Q (o :: rest) a w:=by
 refine BigFrame.wpList_want hgd fun K' hK=>?_;have hr:=run_look M hn c;unfold Oper.wp
 simp [execOp,hop,hm,hx,hr,Result.andThen]
 exact hK _ _ (by simpa using h)
theorem wp_put {b:Nat} {C:List Ent} (p x v:Operand) (hop:o.op = .mapUpdate 89 p x v) (hm:a.eval p = .map (some b)) (M:Mp w F (.map (some b)) C) (c:Ent) (hx:a.eval x = .int .i64 c.n) (hv:a.eval v=c.file) (hn:Wf c.n) (hl:C.length < maxLen)
 (h:∀ w',Mp w' F (.map (some b)) (put Ent.n c C)→w.grownBy w' (some b)→K (a.put o.dst undef) w'):o.wp Tryz.prog a w K Q:=by
 obtain ⟨w',hr,h1,h2⟩:=run_put M c hn hl;unfold Oper.wp
 simp [execOp,hop,hm,hx,hv,hr,Result.andThen]
 exact h w' h1 h2
end
section
variable {w w':World} {F G:Nat→Prop} {m:Value} {C:List Ent}
theorem Mp.only (h:Mp w F m C) (hn:∀ k,F k→¬ G k) (ho:Only G w w'):Mp w' F m C:=by
 rcases h with h | ⟨b,rfl,hF,h⟩
 ·exact .inl h
 ·have hlt:=h.lt
  obtain ⟨es,clock,hb,Ft,hs,hD⟩:=h;exact .inr ⟨b,rfl,hF,es,clock,(ho.block b hlt (hn b hF)).trans hb,Ft,hs,hD⟩
theorem Mp.wide (h:Mp w F m C) (hF:∀ k,F k→G k):Mp w G m C:=by
 rcases h with h | ⟨b,rfl,hb,h⟩
 ·exact .inl h
 ·exact .inr ⟨b,rfl,hF b hb,h⟩
theorem Mp.kept (h:Mp w F m C) (hb:∀ b,m = .map (some b)→w'.heap[b]? = w.heap[b]?):Mp w' F m C:=by
 rcases h with h | ⟨b,rfl,hF,h⟩
 ·exact .inl h
 ·obtain ⟨es,clock,h1,Ft,hs,hD⟩:=h
  exact .inr ⟨b,rfl,hF,es,clock,(hb b rfl).trans h1,Ft,hs,hD⟩
theorem Mp.isMap {b:Nat} (h:Mp w F (.map (some b)) C):F b∧∃ es clock,w.heap[b]? = some (.map es clock):=by
 rcases h with ⟨h,_⟩ | ⟨b',e,hF,h⟩
 ·cases h
 ·obtain rfl:b=b':=by injection e with e;injection e
  obtain ⟨es,clock,hb,_⟩:=h;exact ⟨hF,es,clock,hb⟩
end
def apart (c c':Ent):Prop:=∀ k,c.sl.ownBlock=some k→c'.sl.ownBlock≠some k
structure Sto (w:World) (s:Nat) (F:Nat→Prop) (m:Value) (C:List Ent) (d:Int):Prop where
 row:w.heap[s]? = some (.cells #[m,.int .i64 d] 91 (0,0))
 foot:F s
 mp:Mp w F m C
 own:∀ c∈C,Ow K4 w 0 96 c.sl c.l
 mine:∀ c∈C,∀ k,c.sl.ownBlock=some k→F k
 apart:C.Pairwise apart
 ok:OkA (C.map Ent.abs)
 low:∀ k,F k→k < w.heap.size
def St (w:World) (s:Nat) (F:Nat→Prop) (A:Abs) (d:Int):Prop:=∃ m C,Sto w s F m C d∧C.map Ent.abs=A
section
variable {w w':World} {s:Nat} {F G:Nat→Prop} {m:Value} {C:List Ent} {A:Abs} {d:Int}
theorem Sto.only (h:Sto w s F m C d) (hn:∀ k,F k→¬ G k) (ho:Only G w w'):Sto w' s F m C d :=
 ⟨(ho.block s (lt_of_block h.row) (hn s h.foot)).trans h.row,h.foot,h.mp.only hn ho,fun c hc=>ow_only (h.own c hc) (fun k hk=>hn k (h.mine c hc k hk)) ho,h.mine,h.apart,h.ok,fun k hk=>Nat.lt_of_lt_of_le (h.low k hk) ho.size⟩
theorem Sto.wide (h:Sto w s F m C d) (hF:∀ k,F k→G k) (hl:∀ k,G k→k < w.heap.size):Sto w s G m C d :=
 ⟨h.row,hF s h.foot,h.mp.wide hF,h.own,fun c hc k hk=>hF k (h.mine c hc k hk),h.apart,h.ok,hl⟩
theorem Sto.below (h:Sto w s F m C d) (hb:Below w.heap.size w w'):Sto w' s F m C d:=h.only (G:=fun _=>False) (fun _ _ g=>g) (Only.of_below hb)
theorem St.only (h:St w s F A d) (hn:∀ k,F k→¬ G k) (ho:Only G w w'):St w' s F A d:=by
 obtain ⟨m,C,h,e⟩:=h;exact ⟨m,C,h.only hn ho,e⟩
theorem St.wide (h:St w s F A d) (hF:∀ k,F k→G k) (hl:∀ k,G k→k < w.heap.size):St w s G A d:=by
 obtain ⟨m,C,h,e⟩:=h;exact ⟨m,C,h.wide hF hl,e⟩
theorem St.below (h:St w s F A d) (hb:Below w.heap.size w w'):St w' s F A d:=by
 obtain ⟨m,C,h,e⟩:=h;exact ⟨m,C,h.below hb,e⟩
theorem St.fx (h:St w s F A d) (hb:Below w.heap.size w w'):St w' s (Fx F w w') A d:=by
 have hl:∀ k,F k→k < w.heap.size:=by obtain ⟨m,C,h,_⟩:=h;exact h.low
 exact (h.below hb).wide (fun k hk=>.inl hk) (Fx.low hl hb.size)
theorem St.low (h:St w s F A d):∀ k,F k→k < w.heap.size:=by obtain ⟨m,C,h,_⟩:=h;exact h.low
theorem St.foot (h:St w s F A d):F s:=by obtain ⟨m,C,h,_⟩:=h;exact h.foot
theorem St.okA (h:St w s F A d):OkA A:=by obtain ⟨m,C,h,e⟩:=h;rw [← e];exact h.ok
theorem Sto.len (h:Sto w s F m C d):C.length≤64:=by have:=h.ok.len;rwa [List.length_map] at this
theorem abs_look (n:Int) (C:List Ent):look key n (C.map Ent.abs)=(look Ent.n n C).map Ent.abs:=map_look (κ:=Ent.n) (κ':=key) abs_key n C
theorem abs_put (c:Ent) (C:List Ent):(put Ent.n c C).map Ent.abs=put key c.abs (C.map Ent.abs):=map_put (κ:=Ent.n) (κ':=key) abs_key c C
theorem Sto.find (h:Sto w s F m C d) {n:Int} {c:Ent} (hc:look Ent.n n C=some c):Ow K4 w 0 96 c.sl c.l∧goodF c.p c.l∧okL c.l∧c.n=n∧(0≤n∧n≤63)∧c∈C:=by
 obtain ⟨hm,hk⟩:=look_some hc;have hma:c.abs∈C.map Ent.abs:=List.mem_map_of_mem hm;have:=h.ok.nm _ hma;exact ⟨h.own c hm,h.ok.good _ hma,h.ok.ok _ hma,hk,hk ▸ this,hm⟩
theorem Sto.off (h:Sto w s F m C d) {c:Ent} (hc:c∈C):c.sl.ownBlock≠some s∧∀ b,m = .map (some b)→c.sl.ownBlock≠some b:=by
 refine ⟨(h.own c hc).apart h.row (by decide),fun b hb e=>?_⟩;subst hb;obtain ⟨_,es,clock,hm⟩:=h.mp.isMap;obtain ⟨_,h2⟩:=h.own c hc
 rcases h2 with ⟨e2,_⟩ | ⟨g,cap,cur,e2,_,hh,_⟩
 ·rw [e2] at e;cases e
 ·rw [e2] at e
  obtain rfl:g=b:=by simpa [Value.ownBlock] using e
  rw [hh] at hm
  cases hm
theorem Sto.map_ne {b:Nat} (h:Sto w s F (.map (some b)) C d):b≠s:=fun e=>by
 subst e;obtain ⟨_,es,clock,hm⟩:=h.mp.isMap;rw [h.row] at hm
 cases hm
end
structure Lst (F:Nat→Prop) (w:World) (v:Value) (L:List Ent):Prop where
 rd:Rd E3 w v L
 off:0 < L.length→∀ k,v.ownBlock=some k→¬ F k
 file:∀ c∈L,Rd K4 w c.sl c.l
 foff:∀ c∈L,0 < c.l.length→∀ k,c.sl.ownBlock=some k→¬ F k
def Ls (F:Nat→Prop) (w:World) (v:Value) (A:Abs):Prop:=∃ L,Lst F w v L∧L.map Ent.abs=A
section
variable {w w':World} {F G:Nat→Prop} {v:Value} {L:List Ent} {A:Abs}
theorem Lst.only (h:Lst F w v L) (ho:Only F w w'):Lst (Fx F w w') w' v L :=
 ⟨rd_only h.rd h.off ho,rd_fx h.rd h.off,fun c hc=>rd_only (h.file c hc) (h.foff c hc) ho,fun c hc=>rd_fx (h.file c hc) (h.foff c hc)⟩
theorem Lst.mono (h:Lst F w v L) (hg:∀ k,k < w.heap.size→G k→F k):Lst G w v L :=
 ⟨h.rd,fun h0 k hk g=>h.off h0 k hk (hg k (rd_low h.rd h0 k hk) g),h.file,fun c hc h0 k hk g=>h.foff c hc h0 k hk (hg k (rd_low (h.file c hc) h0 k hk) g)⟩
theorem Lst.below (h:Lst F w v L) (hb:Below w.heap.size w w'):Lst F w' v L :=
 ⟨h.rd.below hb,h.off,fun c hc=>(h.file c hc).below hb,h.foff⟩
theorem Ls.only (h:Ls F w v A) (ho:Only F w w'):Ls (Fx F w w') w' v A:=by obtain ⟨L,h,e⟩:=h;exact ⟨L,h.only ho,e⟩
theorem Ls.mono (h:Ls F w v A) (hg:∀ k,k < w.heap.size→G k→F k):Ls G w v A:=by obtain ⟨L,h,e⟩:=h;exact ⟨L,h.mono hg,e⟩
theorem Ls.below (h:Ls F w v A) (hb:Below w.heap.size w w'):Ls F w' v A:=by obtain ⟨L,h,e⟩:=h;exact ⟨L,h.below hb,e⟩
end
structure Rst (w:World) (r:Nat) (F:Nat→Prop) (v:Value) (L:List Ent) (d:Int):Prop where
 row:w.heap[r]? = some (.cells #[v,.int .i64 d] 42 (0,0))
 off:¬ F r
 list:Lst (fun k=>F k∨k=r) w v L
 ok:OkA (L.map Ent.abs)
def Rs (w:World) (r:Nat) (F:Nat→Prop) (A:Abs) (d:Int):Prop:=∃ v L,Rst w r F v L d∧L.map Ent.abs=A
section
variable {w w':World} {r:Nat} {F G:Nat→Prop} {v:Value} {L:List Ent} {A:Abs} {d:Int}
theorem Rst.only (h:Rst w r F v L d) (ho:Only F w w'):Rst w' r (Fx F w w') v L d :=
 ⟨(ho.block r (lt_of_block h.row) h.off).trans h.row,Fx.not h.off (lt_of_block h.row),
   (h.list.only (ho.mono fun _ _ g=>.inl g)).mono fun k _ g=>by
     rcases g with (g | g) | g
     ·exact .inl (.inl g)
     ·exact .inr g
     ·exact .inl (.inr g),h.ok⟩
theorem Rst.below (h:Rst w r F v L d) (hb:Below w.heap.size w w'):Rst w' r F v L d:=⟨(hb.block r (lt_of_block h.row)).trans h.row,h.off,h.list.below hb,h.ok⟩
theorem Rs.only (h:Rs w r F A d) (ho:Only F w w'):Rs w' r (Fx F w w') A d:=by obtain ⟨v,L,h,e⟩:=h;exact ⟨v,L,h.only ho,e⟩
theorem Rs.below (h:Rs w r F A d) (hb:Below w.heap.size w w'):Rs w' r F A d:=by obtain ⟨v,L,h,e⟩:=h;exact ⟨v,L,h.below hb,e⟩
theorem Rst.len (h:Rst w r F v L d):L.length≤64:=by have:=h.ok.len;rwa [List.length_map] at this
end
end Go.Proofs.YtpkipilggkbkeaaGreatDoor.Fs
namespace Go.Proofs.YtpkipilggkbkeaaGreatDoor.Fs
open Go.RowKit Go.Maps
open Fl (R4 z4 K4 rec4 rat goodF goodFB okR okL doE newR file arr4 sto2 sto4 sto2_row sto2_other sto2_below sto2_size sto2_off sto4_row sto4_other sto4_below sto4_size row_cell row_frozen clone_any own_form ret_bool at4)
open Rw (Rd Ow At)
set_option maxRecDepth 100000
theorem results_rec {fn:Func} {p r:Tmp} (h:fn.results=#[.cell p 96,.tmp r]) (tmps:Array Value) (w:World) (g:Nat) (y:R4) (v:Value)
 (hp:tmps.getD p undef = .pointer (some ⟨g,0,none⟩)) (hr:tmps.getD r undef=v) (h1:w.heap[g]? = some (.cells (arr4 y) 96 (0,0))) :
 (results fn tmps).run Tryz.prog w = .ok (.tuple #[rec4 y,v]) w:=by
 have e2:=run_loadVar_row (P:=Tryz.prog) w g 96 96 (arr4 y) (0,0) _ h1 Tryz.underlying96 rfl (by show _=some 4;kernel_rfl);have hp':tmps[p]?.getD undef = .pointer (some ⟨g,0,none⟩):=by simpa using hp
 have hr':tmps[r]?.getD undef=v:=by simpa using hr
 simp only [results,h]
 simp [Result.andThen,hp',hr',asAddr,e2,rec4,arr4]
section
variable {ops:Array Oper} {rest:List Oper} {o:Oper} {a:Act} {Q:Exit→Act→World→Prop} {w:World} {F:Nat→Prop} {m:Value} {C:List Ent}
theorem at_look0 (hgd:Region.wanted o (yielded ops a.tmps)=true) (p x:Operand) (hop:o.op = .lookup 89 p x false) (M:Mp w F m C) (hm:a.eval p=m) (n:Int) (hx:a.eval x = .int .i64 n) (hn:Wf n) (v:Value) (hv:lv C n=v)
 (h:wpList Tryz.prog ops Q rest (a.put o.dst v) w):wpList Tryz.prog ops Q (o :: rest) a w:=at_look hgd p x false hop hm M n hx hn (by rw [hv];exact h)
theorem at_look1 (hgd:Region.wanted o (yielded ops a.tmps)=true) (p x:Operand) (hop:o.op = .lookup 89 p x true) (M:Mp w F m C) (hm:a.eval p=m) (n:Int) (hx:a.eval x = .int .i64 n) (hn:Wf n) (v:Value) (hv:lv C n=v) (b:Bool) (hb:lb C n=b)
 (h:wpList Tryz.prog ops Q rest (a.put o.dst (.tuple #[v,.bool b])) w):wpList Tryz.prog ops Q (o :: rest) a w:=at_look hgd p x true hop hm M n hx hn (by rw [hv,hb];exact h)
end
theorem lv_none {C:List Ent} {n:Int} (h:look Ent.n n C=none):lv C n = .agg #[.int .i64 0,.slice none 0 0]:=by unfold lv;rw [h];rfl
theorem lv_some {C:List Ent} {n:Int} {c:Ent} (h:look Ent.n n C=some c):lv C n = .agg #[.int .i64 c.p,.slice c.a c.l.length c.cap]:=by unfold lv;rw [h];rfl
theorem lb_none {C:List Ent} {n:Int} (h:look Ent.n n C=none):lb C n=false:=by unfold lb;rw [h];rfl
theorem lb_some {C:List Ent} {n:Int} {c:Ent} (h:look Ent.n n C=some c):lb C n=true:=by unfold lb;rw [h];rfl
theorem run_fieldF (p:Int) (a:Option Addr) (n cap:Nat) (w:World):(Instr.field 65 (.agg #[.int .i64 p,.slice a n cap]) 1).run Tryz.prog w = .ok (.slice a n cap) w:=by kernel_rfl
def CopyPost (w:World) (p:Int) (l:List R4) (e:Ending) (w':World):Prop:=∃ u,e = .returned (file p u)∧Ow K4 w' w.heap.size 96 u l∧Below w.heap.size w w'
theorem two_files (w:World) (p:Int) (v:Value) (q:Int) (u:Value):((w.alloc (.cells #[.int .i64 p,v] 65)).alloc (.cells #[.int .i64 q,u] 65)).heap[w.heap.size]? = some (.cells #[.int .i64 p,v] 65 (0,0))∧((w.alloc (.cells #[.int .i64 p,v] 65)).alloc (.cells #[.int .i64 q,u] 65)).heap[w.heap.size+1]? = some (.cells #[.int .i64 q,u] 65 (0,0))∧Below w.heap.size w ((w.alloc (.cells #[.int .i64 p,v] 65)).alloc (.cells #[.int .i64 q,u] 65))∧((w.alloc (.cells #[.int .i64 p,v] 65)).alloc (.cells #[.int .i64 q,u] 65)).heap.size=w.heap.size+2:=by
 refine ⟨(Below.heap_alloc _ _ _ (by simp)).trans (heap_alloc_new w _),?_,((Below.refl w.heap.size w).alloc (Nat.le_refl _) _).alloc (by simp) _,by simp⟩;have:=heap_alloc_new (w.alloc (.cells #[.int .i64 p,v] 65)) (.cells #[.int .i64 q,u] 65)
 simpa using this
def Bx (g:Nat) (p:Int) (v:Value) (W:World):Prop:=W.heap[g]? = some (.cells #[.int .i64 p,v] 65 (0,0))
set_option maxHeartbeats 1000000 in
theorem copied_any (w:World) (p:Int) (v:Value) (l:List R4) (R:Rd K4 w v l) (hl:l.length≤260):Calls Tryz.prog 37 #[file p v] w (CopyPost w p l):=by
 obtain ⟨h1,h2,hB,hz⟩:=two_files w p v 0 (.slice none 0 0);have H1:=Lib.hid h1;have H2:=Lib.hid h2;have HB:=Lib.hid hB;have HZ:=Lib.hid hz;have RR:=Lib.hid R;have HL:=Lib.hid hl;obtain ⟨a,cap,rfl,_⟩:=R.slice;clear h1 h2 hB hz R hl;generalize hn:l.length=n at *;have HN:=Lib.hid hn;clear hn;unfold file at *
 go_enter Tryz.func37,Tryz.ntmps37
 go_wp2_with fail;generalize ((w.alloc (.cells #[.int .i64 p,.slice a n cap] 65)).alloc (.cells #[.int .i64 0,.slice none 0 0] 65))=W at *;have r0:=Sc.cell_in (C:=Bx w.heap.size p (.slice a n cap)) (a:=⟨w.heap.size,0,none⟩) (fun W' h=>row_cell h 0);have r1:=Sc.cell_in (C:=Bx w.heap.size p (.slice a n cap)) (a:=⟨w.heap.size,1,none⟩) (fun W' h=>row_cell h 1);have C0:Bx w.heap.size p (.slice a n cap) W.drew:=H1.out;have ne:Nonempty (Sc.In (Bx w.heap.size p (.slice a n cap))):=⟨⟨_,C0⟩⟩;refine Sc.start (Bx w.heap.size p (.slice a n cap)) [(false,0),(false,1),(false,2),(false,3),(true,4),(false,5),(true,6)] (by kernel_rfl) (by kernel_rfl) (by kernel_rfl) C0 ?_;dsimp only [Sd.picks,List.getElem?_cons_succ,List.getElem?_cons_zero]
 repeat (refine Sd.lit ?_;quiet_step (fail);refine wpQuiet_nil ?_)
 refine Sd.call (by rfl) (fun K hK=>?_);go_simp;have B0:=Lib.hid (HB.out.trans (((Below.refl W.heap.size W).drew).mono HB.out.size));refine (clone_any _ _ l (RR.out.below B0.out) (by rw [HN.out];exact HL.out)).mono ?_;rintro e w2 ⟨u,rfl,o2,b2⟩;have hzz:=HZ.out;have O2:=Lib.hid o2;have B2:=Lib.hid (B0.out.trans (b2.mono (by show w.heap.size≤W.heap.size;omega)));have G1:w2.heap[w.heap.size]? = _:=(b2.block _ (by show w.heap.size < W.heap.size;omega)).trans C0;have G2:=(b2.block (w.heap.size+1) (by show w.heap.size+1 < W.heap.size;omega)).trans H2.out;have N2:u.ownBlock≠some (w.heap.size+1):=o2.range (.inl (by show _ < W.heap.size;omega));have hWz:w.heap.size+2≤W.drew.heap.size:=by show _≤W.heap.size;omega
 obtain ⟨au,cu,rfl,_⟩:=o2.slice;refine hK _ _ (Sc.Cl.of G1) ?_;clear hK K b2 o2 B0 C0 HB H1 H2 r0 r1 RR
 repeat (refine Sd.lit ?_;quiet_step (fail);refine wpQuiet_nil ?_)
 refine Sd.call (by rfl) (fun K hK=>?_);have c0:w2.cell? ⟨w.heap.size+1,0,none⟩=some (.int .i64 0):=row_cell G2 0;have c1:w2.cell? ⟨w.heap.size+1,1,none⟩=some (.slice none 0 0):=row_cell G2 1;have f0:=row_frozen G2 0;have f1:=row_frozen G2 1;have RA:=Lib.hid (sto2_row G2 p (.slice au l.length cu));have OA:=Lib.hid (sto2_off (u:=.slice au l.length cu) O2.out N2 p);have BA:=Lib.hid (sto2_below (p:=p) (v:=.slice au l.length cu) B2.out (show w.heap.size≤w.heap.size+1 by omega));have L1:Bx w.heap.size p (.slice a n cap) (sto2 w2 (w.heap.size+1) p (.slice au l.length cu)):=sto2_other G1 (by omega);have hWy:=Lib.hid hWz;clear G1 G2 O2 B2 N2 hWz hzz HZ;go_simp;refine hK _ _ (Sc.Cl.of L1) ?_;clear hK K c0 c1 f0 f1
 show Sd.wpSd _ _ _ _ _ _ (sto2 w2 (w.heap.size+1) p (.slice au l.length cu))
 generalize sto2 w2 (w.heap.size+1) p (.slice au l.length cu)=w3 at *;refine Sd.done ?_;go_wp2
 (try simp only [Exit.inBlock,Exit.then])
 refine bodyPost_ret (v:=file p (.slice au l.length cu)) ?_ rfl ⟨_,rfl,OA.out.low (by have:=hWy.out;omega),BA.out⟩;exact results_cell_row (p:=2) rfl _ _ (w.heap.size+1) 65 _ (0,0) _ rfl RA.out Tryz.underlying65 rfl (by show _=some 2;kernel_rfl)
theorem new_any (w:World):Calls Tryz.prog 21 #[] w fun e w'=>e = .returned (.pointer (some ⟨w.heap.size,0,none⟩))∧w'=w.alloc (.cells #[.map none,.int .i64 0] 91):=by
 go_enter Tryz.func21,Tryz.ntmps21
 go_wp2
 go_ret
 exact ⟨rfl,rfl⟩
theorem denied_any {w:World} {s:Nat} {F:Nat→Prop} {m:Value} {C:List Ent} {d:Int} (S:Sto w s F m C d) :
 Calls Tryz.prog 12 #[.pointer (some ⟨s,0,none⟩)] w fun e w'=>e = .returned (.int .i64 d)∧Below w.heap.size w w':=by
 have c1:w.cell? ⟨s,1,none⟩=some (.int .i64 d):=row_cell S.row 1;clear S
 go_enter Tryz.func12,Tryz.ntmps12
 go_wp2
 go_ret
 exact ⟨rfl,Below.refl _ _⟩
end Go.Proofs.YtpkipilggkbkeaaGreatDoor.Fs
namespace Go.Proofs.YtpkipilggkbkeaaGreatDoor.Fs
open Go.RowKit Go.Maps
open Fl (R4 z4 K4 rec4 rat goodF goodFB okR okL doE newR file arr4 sto2 sto4 sto2_row sto2_other sto2_below sto2_size sto2_off sto4_row sto4_other sto4_below sto4_size row_cell row_frozen own_form ret_bool at4)
open Rw (Rd Ow At)
set_option maxRecDepth 100000
theorem gB_none {C:List Ent} {n r:Int} (h:look Ent.n n C=none):gB (C.map Ent.abs) n r=false:=by unfold gB;rw [abs_look,h];rfl
theorem gB_some {C:List Ent} {n r:Int} {c:Ent} (h:look Ent.n n C=some c):gB (C.map Ent.abs) n r=decide (0≤r∧r < c.l.length):=by unfold gB;rw [abs_look,h];rfl
theorem gV_none {C:List Ent} {n r:Int} (h:look Ent.n n C=none):gV (C.map Ent.abs) n r=z4:=by unfold gV;rw [abs_look,h];rfl
theorem gV_some {C:List Ent} {n r:Int} {c:Ent} (h:look Ent.n n C=some c):gV (C.map Ent.abs) n r=if 0≤r∧r < c.l.length then rat c.l r.toNat else z4:=by unfold gV;rw [abs_look,h];rfl
set_option maxHeartbeats 400000 in
theorem has_any {w:World} {s:Nat} {F:Nat→Prop} {m:Value} {C:List Ent} {d:Int} (S:Sto w s F m C d) {n:Int} (hn:Wf n) (r:Int) :
 Calls Tryz.prog 82 #[.pointer (some ⟨s,0,none⟩),.int .i64 n,.int .i64 r] w fun e w'=>e = .returned (.bool (gB (C.map Ent.abs) n r))∧Below w.heap.size w w':=by
 have hF:=run_fieldF;have c0:w.cell? ⟨s,0,none⟩=some m:=row_cell S.row 0;have M:=Lib.hid S.mp;have HN:=Lib.hid hn;clear S hn
 cases hk:look Ent.n n C with
 | none =>
   have E:=Lib.hid (gB_none (r:=r) hk);have L:=Lib.hid (lv_none hk);clear hk
   by_cases hr:0≤r
   ·go_enter Tryz.func82,Tryz.ntmps82
    go_wp2_with (at_lookup;refine at_look0 rfl _ _ rfl M.out rfl _ rfl HN.out _ L.out ?_)
    go_ret
    exact ⟨ret_bool (by rw [E.out];exact decide_eq_false (by omega)),Below.refl _ _⟩
   ·go_enter Tryz.func82,Tryz.ntmps82
    go_wp2_with (at_lookup;refine at_look0 rfl _ _ rfl M.out rfl _ rfl HN.out _ L.out ?_)
    go_ret
    exact ⟨ret_bool E.out.symm,Below.refl _ _⟩
 | some c =>
   have E:=Lib.hid (gB_some (r:=r) hk);have L:=Lib.hid (lv_some hk);clear hk;generalize c.l.length=k at *
   by_cases hr:0≤r
   ·by_cases h2:r < (k:Int)
    ·go_enter Tryz.func82,Tryz.ntmps82
     go_wp2_with (at_lookup;refine at_look0 rfl _ _ rfl M.out rfl _ rfl HN.out _ L.out ?_)
     go_ret
     exact ⟨ret_bool (by rw [E.out,decide_eq_true ⟨hr,h2⟩]),Below.refl _ _⟩
    ·go_enter Tryz.func82,Tryz.ntmps82
     go_wp2_with (at_lookup;refine at_look0 rfl _ _ rfl M.out rfl _ rfl HN.out _ L.out ?_)
     go_ret
     exact ⟨ret_bool (by rw [E.out,decide_eq_false (fun h=>by omega)]),Below.refl _ _⟩
   ·go_enter Tryz.func82,Tryz.ntmps82
    go_wp2_with (at_lookup;refine at_look0 rfl _ _ rfl M.out rfl _ rfl HN.out _ L.out ?_)
    go_ret
    exact ⟨ret_bool (by rw [E.out,decide_eq_false (fun h=>by omega)]),Below.refl _ _⟩
def GetPost (w:World) (y:R4) (b:Bool) (e:Ending) (w':World):Prop:=e = .returned (.tuple #[rec4 y,.bool b])∧Below w.heap.size w w'
theorem one_rec (w:World):(w.alloc (.cells (arr4 z4) 96)).heap[w.heap.size]? = some (.cells (arr4 z4) 96 (0,0))∧Below w.heap.size w (w.alloc (.cells (arr4 z4) 96))∧(w.alloc (.cells (arr4 z4) 96)).heap.size=w.heap.size+1:=⟨heap_alloc_new w _,(Below.refl w.heap.size w).alloc (Nat.le_refl _) _,by simp⟩
set_option maxHeartbeats 400000 in
theorem get_no (w:World) (s:Value) (n r:Int) (hh:∀ W,Below w.heap.size w W→Calls Tryz.prog 82 #[s,.int .i64 n,.int .i64 r] W fun e w'=>e = .returned (.bool false)∧Below W.heap.size W w') :
 Calls Tryz.prog 40 #[s,.int .i64 n,.int .i64 r] w (GetPost w z4 false):=by
 obtain ⟨h1,hB,hz⟩:=one_rec w;have H1:=Lib.hid h1;have HB:=Lib.hid hB;have HH:=Lib.hid (hh _ hB);have HZ:=Lib.hid hz;clear h1 hB hz hh;unfold arr4 z4 at *
 go_enter Tryz.func40,Tryz.ntmps40
 go_wp2_with fail;generalize (w.alloc (.cells #[.int .u8 0,.int .u8 0,.int .u8 0,.int .u8 0] 96))=W at *;refine HH.out.mono ?_;rintro e w1 ⟨rfl,b1⟩;have hz:=HZ.out;have G:w1.heap[w.heap.size]? = some (.cells (arr4 z4) 96 (0,0)):=(b1.block _ (by omega)).trans H1.out;have B1:=Lib.hid (HB.out.trans (b1.mono HB.out.size));have d0:w1.cell? ⟨w.heap.size,0,none⟩=some (.int .u8 0):=row_cell G 0;have d1:w1.cell? ⟨w.heap.size,1,none⟩=some (.int .u8 0):=row_cell G 1;have d2:w1.cell? ⟨w.heap.size,2,none⟩=some (.int .u8 0):=row_cell G 2;have d3:w1.cell? ⟨w.heap.size,3,none⟩=some (.int .u8 0):=row_cell G 3;have k0:=row_frozen G 0;have k1:=row_frozen G 1;have k2:=row_frozen G 2;have k3:=row_frozen G 3;have R2:=Lib.hid (sto4_row G z4);have B2:=Lib.hid (sto4_below (o:=0) (r:=z4) B1.out (show w.heap.size≤w.heap.size by omega));clear b1 HH HB H1 HZ hz G B1;go_wp2
 (try simp only [Exit.inBlock,Exit.then])
 exact bodyPost_ret (results_rec (p:=6) (r:=7) rfl _ _ w.heap.size z4 (.bool false) rfl rfl R2.out) rfl ⟨rfl,B2.out⟩
set_option maxHeartbeats 400000 in
theorem get_yes {w:World} {s:Nat} {F:Nat→Prop} {m:Value} {C:List Ent} {d:Int} (S:Sto w s F m C d) {n:Int} (hn:Wf n) (k:Nat) {c:Ent} (hc:look Ent.n n C=some c) (hk:k < c.l.length) :
 Calls Tryz.prog 40 #[.pointer (some ⟨s,0,none⟩),.int .i64 n,.int .i64 (k:Int)] w (GetPost w (rat c.l k) true):=by
 obtain ⟨h1,hB,hz⟩:=one_rec w;have H1:=Lib.hid h1;have HB:=Lib.hid hB;have HZ:=Lib.hid hz;have hh:=has_any (S.below hB) hn (k:Int);rw [gB_some hc,decide_eq_true (⟨by omega,by omega⟩:0≤(k:Int)∧(k:Int) < c.l.length)] at hh;have HH:=Lib.hid hh;have SS:=Lib.hid S;have HN:=Lib.hid hn;have L:=Lib.hid (lv_some hc);obtain ⟨ho,_⟩:=S.find hc;obtain ⟨g,cap,e1,_,_,_,_,_,hA⟩:=ho.form (by omega);obtain ⟨cn,cp,ca,ccap,cl⟩:=c;obtain ⟨rfl,rfl⟩:ca=some ⟨g,0,none⟩∧ccap=cap:=by
  unfold Ent.sl at e1;injection e1 with e1 e2 e3;exact ⟨e1,e3⟩
 have A4':=at4 hA k hk;rw [Nat.zero_add] at A4';have A4:=Lib.hid A4';clear A4';have hk':k < cl.length:=hk;clear h1 hB hz hh ho e1 hA hc S hn hk;simp only at *;generalize rat cl k=y at *;generalize cl.length=q at *;have y4:Hid (arr4 y=#[.int .u8 y.1,.int .u8 y.2.1,.int .u8 y.2.2.1,.int .u8 y.2.2.2]):=rfl;unfold arr4 z4 at H1 HB HZ HH
 go_enter Tryz.func40,Tryz.ntmps40
 go_wp2_with fail;generalize (w.alloc (.cells #[.int .u8 0,.int .u8 0,.int .u8 0,.int .u8 0] 96))=W at *;refine HH.out.mono ?_;rintro e w1 ⟨rfl,b1⟩;have hz:=HZ.out;have G:w1.heap[w.heap.size]? = some (.cells (arr4 z4) 96 (0,0)):=(b1.block _ (by omega)).trans H1.out;have B1:=Lib.hid (HB.out.trans (b1.mono HB.out.size));have S1:=SS.out.below B1.out;have M1:=Lib.hid S1.mp;have c0:w1.cell? ⟨s,0,none⟩=some m:=row_cell S1.row 0;have hF:=run_fieldF;have q0:=(B1.out.cell (World.block_lt_of_cell? _ _ A4.out.1)).trans A4.out.1;have q1:=(B1.out.cell (World.block_lt_of_cell? _ _ A4.out.2.1)).trans A4.out.2.1;have q2:=(B1.out.cell (World.block_lt_of_cell? _ _ A4.out.2.2.1)).trans A4.out.2.2.1;have q3:=(B1.out.cell (World.block_lt_of_cell? _ _ A4.out.2.2.2)).trans A4.out.2.2.2;have d0:w1.cell? ⟨w.heap.size,0,none⟩=some (.int .u8 0):=row_cell G 0;have d1:w1.cell? ⟨w.heap.size,1,none⟩=some (.int .u8 0):=row_cell G 1;have d2:w1.cell? ⟨w.heap.size,2,none⟩=some (.int .u8 0):=row_cell G 2;have d3:w1.cell? ⟨w.heap.size,3,none⟩=some (.int .u8 0):=row_cell G 3;have k0:=row_frozen G 0;have k1:=row_frozen G 1;have k2:=row_frozen G 2;have k3:=row_frozen G 3;have R2:=Lib.hid (sto4_row G y);have B2:=Lib.hid (sto4_below (o:=0) (r:=y) B1.out (show w.heap.size≤w.heap.size by omega));clear b1 HH HB H1 HZ hz G B1 S1 SS A4
 go_wp2_with (at_lookup;refine at_look0 rfl _ _ rfl M1.out rfl _ rfl HN.out _ L.out ?_)
 (try simp only [Exit.inBlock,Exit.then])
 exact bodyPost_ret (results_rec (p:=6) (r:=7) rfl _ _ w.heap.size y (.bool true) rfl rfl R2.out) rfl ⟨rfl,B2.out⟩
theorem get_any {w:World} {s:Nat} {F:Nat→Prop} {m:Value} {C:List Ent} {d:Int} (S:Sto w s F m C d) {n:Int} (hn:Wf n) (r:Int) :
 Calls Tryz.prog 40 #[.pointer (some ⟨s,0,none⟩),.int .i64 n,.int .i64 r] w (GetPost w (gV (C.map Ent.abs) n r) (gB (C.map Ent.abs) n r)):=by
 cases hk:look Ent.n n C with
 | none =>
   rw [gV_none hk,gB_none hk];refine get_no w _ n r fun W hb=>?_;have:=has_any (S.below hb) hn r
   rwa [gB_none hk] at this
 | some c =>
   by_cases hr:0≤r∧r < c.l.length
   ·obtain ⟨k,rfl⟩:∃ k:Nat,r=k:=⟨r.toNat,by omega⟩
    rw [gV_some hk,gB_some hk,if_pos hr,decide_eq_true hr,Int.toNat_natCast];exact get_yes S hn k hk (by omega)
   ·rw [gV_some hk,gB_some hk,if_neg hr,decide_eq_false hr]
    refine get_no w _ n r fun W hb=>?_;have:=has_any (S.below hb) hn r
    rwa [gB_some hk,decide_eq_false hr] at this
end Go.Proofs.YtpkipilggkbkeaaGreatDoor.Fs
namespace Go.Proofs.YtpkipilggkbkeaaGreatDoor.Fs
open Go.RowKit Go.Maps
open Fl (R4 z4 K4 rec4 rat goodF goodFB okR okL doE newR file arr4 sto4 sto4_own sto4_other sto4_size sto4_below own4 row_cell)
open Rw (Rd Ow At)
set_option maxRecDepth 100000
theorem apart_symm {c e:Ent} (h:apart c e):apart e c:=fun k hk hc=>h k hc hk
theorem pw_mem {α:Type} {R:α→α→Prop} (sy:∀ {x y},R x y→R y x):∀ {l:List α},l.Pairwise R→∀ {x y},x∈l→y∈l→x≠y→R x y
 | [],_,_,_,hx,_,_=>by cases hx
 | a :: r,h,x,y,hx,hy,hne=>by
   obtain ⟨h1,h2⟩:=List.pairwise_cons.1 h
   rcases List.mem_cons.1 hx with ex | hx <;> rcases List.mem_cons.1 hy with ey | hy
   ·exact (hne (ex.trans ey.symm)).elim
   ·rw [ex];exact h1 _ hy
   ·rw [ey];exact sy (h1 _ hx)
   ·exact pw_mem sy h2 hx hy hne
theorem pw_ins {α:Type} {κ:α→Int} {R:α→α→Prop} (sy:∀ {x y},R x y→R y x) {c:α} : ∀ {l:List α},l.Pairwise R→(∀ x∈l,R c x)→(ins κ c l).Pairwise R
 | [],_,_=>by simp [ins]
 | y :: r,h,hc=>by
   obtain ⟨h1,h2⟩:=List.pairwise_cons.1 h;unfold ins
   split
   ·exact List.pairwise_cons.2 ⟨hc,h⟩
   ·refine List.pairwise_cons.2 ⟨fun z hz=>?_,pw_ins sy h2 fun x hx=>hc x (List.mem_cons_of_mem _ hx)⟩
    rcases mem_ins.1 hz with rfl | hz
    ·exact sy (hc y List.mem_cons_self)
    ·exact h1 z hz
theorem pw_put {c:Ent} {C:List Ent} (h:C.Pairwise apart) (hc:∀ e∈C,e.n≠c.n→apart c e):(put Ent.n c C).Pairwise apart:=by
 unfold put;refine pw_ins apart_symm (h.filter _) fun e he=>?_;obtain ⟨h1,h2⟩:=List.mem_filter.1 he;exact hc e h1 (by simpa using h2)
section
variable {w w':World} {s:Nat} {F F':Nat→Prop} {m m':Value} {C:List Ent} {d d':Int} {c:Ent}
theorem Sto.put (h:Sto w s F m C d) (row:w'.heap[s]? = some (.cells #[m',.int .i64 d'] 91 (0,0))) (hF:∀ k,F k→F' k) (mp:Mp w' F' m' (put Ent.n c C)) (old:∀ e∈C,e.n≠c.n→Ow K4 w' 0 96 e.sl e.l)
 (new:Ow K4 w' 0 96 c.sl c.l) (mine:∀ k,c.sl.ownBlock=some k→F' k) (far:∀ e∈C,e.n≠c.n→Fs.apart c e) (hn:0≤c.n∧c.n≤63) (hg:goodF c.p c.l) (hl:okL c.l) (low:∀ k,F' k→k < w'.heap.size):Sto w' s F' m' (Fs.put Ent.n c C) d':=by
 refine ⟨row,hF s h.foot,mp,fun e he=>?_,fun e he k hk=>?_,pw_put h.apart far,?_,low⟩
 ·rcases mem_put.1 he with rfl | ⟨he,hne⟩
  ·exact new
  ·exact old e he hne
 ·rcases mem_put.1 he with rfl | ⟨he,hne⟩
  ·exact mine k hk
  ·exact hF k (h.mine e he k hk)
 ·rw [abs_put]
  exact h.ok.put hn hg hl
def Ent.recs (c:Ent) (l:List R4):Ent:=⟨c.n,c.p,c.a,c.cap,l⟩
theorem recs_sl (c:Ent) {l:List R4} (h:l.length=c.l.length):(c.recs l).sl=c.sl:=by unfold Ent.recs Ent.sl;rw [h]
theorem dat_recs {i:Nat} (hi:C[i]? = some c) {l:List R4} (h:l.length=c.l.length):dat (C.set i (c.recs l))=dat C:=by
 unfold dat;rw [List.map_set];have:ent (c.recs l)=ent c:=by unfold ent Ent.file;rw [recs_sl c h];rfl
 rw [this]
 congr 1
 refine List.ext_getElem? fun j=>?_;rw [List.getElem?_set]
 split
 ·rename_i hij
  subst hij;rw [List.getElem?_map,hi];have:=(List.getElem?_eq_some_iff.1 hi).1
  simp [this]
 ·rfl
theorem Sto.write {g n cap:Nat} {k:Nat} {x:R4} (h:Sto w s F m C d) (hc:c∈C) (hs:c.sl = .slice (some ⟨g,0,none⟩) n cap) (hk:k < c.l.length) (h0:k≠0) (hx:okR x) :
 Sto (sto4 w g (k * 4) x) s F m (Fs.put Ent.n (c.recs (c.l.set k x)) C) d∧Only F w (sto4 w g (k * 4) x):=by
 have hg:F g:=h.mine c hc g (by rw [hs];rfl);obtain ⟨n1,n2⟩:=h.off hc;rw [hs] at n1 n2;have ng:s≠g:=fun e=>n1 (by rw [e];rfl);have hsl:(c.recs (c.l.set k x)).sl=c.sl:=recs_sl c (by rw [List.length_set]);have own:=h.own c hc;rw [hs] at own;have hn:n=c.l.length:=by unfold Ent.sl at hs;injection hs with _ hs _;exact hs.symm
 have hcm:c.abs∈C.map Ent.abs:=List.mem_map_of_mem hc;obtain ⟨i,hi⟩:=List.getElem?_of_mem hc;have srt:Srt Ent.n C:=(map_srt (κ:=Ent.n) (κ':=key) abs_key).1 h.ok.srt;have hput:Fs.put Ent.n (c.recs (c.l.set k x)) C=C.set i (c.recs (c.l.set k x)):=put_set srt hi rfl;have hdat:dat (Fs.put Ent.n (c.recs (c.l.set k x)) C)=dat C:=by rw [hput];exact dat_recs hi (by rw [List.length_set])
 have off:∀ e∈C,e.n≠c.n→Fs.apart c e:=fun e he hne=>pw_mem apart_symm h.apart hc he fun e'=>hne (by rw [e']);have hGood:goodF c.p (c.l.set k x):=good_set (h.ok.good _ hcm) h0;have hOk:okL (c.l.set k x):=okL_set (h.ok.ok _ hcm) hx;have hMp:Mp (sto4 w g (k * 4) x) F m (Fs.put Ent.n (c.recs (c.l.set k x)) C):=by
  have M:Mp (sto4 w g (k * 4) x) F m C:=h.mp.kept fun b hb=>sto4_other rfl fun e=>n2 b hb (by rw [e];rfl)
  rcases M with ⟨rfl,rfl⟩ | ⟨b,rfl,hF,hm⟩
  ·cases hc
  ·refine .inr ⟨b,rfl,hF,?_⟩
   rw [hdat,hput,List.length_set];exact hm
 have hRow:=sto4_other (g:=g) (o:=k * 4) (r:=x) h.row ng;have hOld:∀ e∈C,e.n≠(c.recs (c.l.set k x)).n→Ow K4 (sto4 w g (k * 4) x) 0 96 e.sl e.l:=fun e he hne=>by
  have o:=h.own e he;have a:=off e he hne g (by rw [hs];rfl);exact Fl.sto4_off o a x
 have hNew:Ow K4 (sto4 w g (k * 4) x) 0 96 (c.recs (c.l.set k x)).sl (c.l.set k x):=by
  rw [hsl,hs];exact sto4_own own hn k hk x
 refine ⟨h.put hRow (fun k hk=>hk) hMp hOld hNew (fun j hj=>h.mine c hc j (by rw [← hsl];exact hj)) (fun e he hne j hj=>off e he hne j (by rw [← hsl];exact hj)) (h.ok.nm _ hcm) hGood hOk (by rw [sto4_size];exact h.low),?_⟩;have O1:∀ W:World,∀ o v,Only F W (W.setCell ⟨g,o,none⟩ v):=fun W o v=>Only.set F W hg v;unfold sto4;exact (((O1 _ _ _).trans (O1 _ _ _) fun _ _ g=>g).trans (O1 _ _ _) fun _ _ g=>g).trans (O1 _ _ _) fun _ _ g=>g
end
end Go.Proofs.YtpkipilggkbkeaaGreatDoor.Fs
namespace Go.Proofs.YtpkipilggkbkeaaGreatDoor.Fs
open Go.RowKit Go.Maps
open Fl (R4 z4 K4 rec4 rat goodF goodFB okR okL doE newR file arr4 sto4 sto4_own sto4_other sto4_size sto4_below own4 row_cell row_frozen ret_bool)
open Rw (Rd Ow At)
set_option maxRecDepth 100000
attribute [local irreducible] Sd.wpSd wpQuiet Sf.wpSf
def SetPost (w:World) (s:Nat) (F:Nat→Prop) (d:Int) (b:Bool) (A':Abs) (e:Ending) (w':World):Prop:=e = .returned (.bool b)∧St w' s (Fx F w w') A' d∧Only F w w'
theorem sB_some {C:List Ent} {n r:Int} {c:Ent} (h:look Ent.n n C=some c) (h0:0≤r) (h1:r < c.l.length) (h2:r≠0):sB (C.map Ent.abs) n r=true:=by
 unfold sB;rw [gB_some h,decide_eq_true ⟨h0,h1⟩,decide_eq_true h2]
 rfl
theorem sA_some {C:List Ent} {n r:Int} {c:Ent} (h:look Ent.n n C=some c) (h0:0≤r) (h1:r < c.l.length) (h2:r≠0) (x:R4):sA (C.map Ent.abs) n r x=(put Ent.n (c.recs (c.l.set r.toNat x)) C).map Ent.abs:=by
 have hb:=sB_some h h0 h1 h2;have he:look key n (C.map Ent.abs)=some c.abs:=by rw [abs_look,h];rfl
 unfold sA;rw [he];simp only [hb,if_true];rw [abs_put];obtain ⟨_,rfl⟩:=look_some h
 rfl
theorem sA_no {A:Abs} {n r:Int} (h:sB A n r=false) (x:R4):sA A n r x=A:=by
 unfold sA
 split
 ·rfl
 ·rw [h];rfl
theorem box_rec (w:World) (x:R4):(w.alloc (.cells (arr4 x) 96)).heap[w.heap.size]? = some (.cells (arr4 x) 96 (0,0))∧Below w.heap.size w (w.alloc (.cells (arr4 x) 96))∧(w.alloc (.cells (arr4 x) 96)).heap.size=w.heap.size+1:=⟨heap_alloc_new w _,(Below.refl w.heap.size w).alloc (Nat.le_refl _) _,by simp⟩
set_option maxHeartbeats 400000 in
theorem set_zero (w:World) (s:Value) (n:Int) (x:R4):Calls Tryz.prog 101 #[s,.int .i64 n,.int .i64 0,rec4 x] w fun e w'=>e = .returned (.bool false)∧Below w.heap.size w w':=by
 unfold rec4
 go_enter Tryz.func101,Tryz.ntmps101
 go_wp2
 go_ret
 exact ⟨rfl,(Below.refl w.heap.size w).alloc (Nat.le_refl _) _⟩
set_option maxHeartbeats 400000 in
theorem set_none (w:World) (s:Value) (n r:Int) (x:R4) (hr:r≠0) (hh:∀ W,Below w.heap.size w W→Calls Tryz.prog 82 #[s,.int .i64 n,.int .i64 r] W fun e w'=>e = .returned (.bool false)∧Below W.heap.size W w') :
 Calls Tryz.prog 101 #[s,.int .i64 n,.int .i64 r,rec4 x] w fun e w'=>e = .returned (.bool false)∧Below w.heap.size w w':=by
 obtain ⟨h1,hB,hz⟩:=box_rec w x;have HB:=Lib.hid hB;have HH:=Lib.hid (hh _ hB);clear h1 hB hz hh;have hr0:(r == 0)=false:=by simpa using hr
 unfold rec4;unfold arr4 at *
 go_enter Tryz.func101,Tryz.ntmps101
 go_wp2_with fail;refine HH.out.mono ?_;rintro e w1 ⟨rfl,b1⟩;have B1:=Lib.hid (HB.out.trans (b1.mono HB.out.size));clear b1 HH HB;go_wp2
 go_ret
 exact ⟨rfl,B1.out⟩
structure SetC (s:Nat) (F:Nat→Prop) (m:Value) (C:List Ent) (d:Int) (g:Nat) (x:R4) (W:World):Prop where
 row:W.heap[s]? = some (.cells #[m,.int .i64 d] 91 (0,0))
 mp:Mp W F m C
 box:W.heap[g]? = some (.cells (arr4 x) 96 (0,0))
set_option maxHeartbeats 1000000 in
theorem set_yes {w:World} {s:Nat} {F:Nat→Prop} {m:Value} {C:List Ent} {d:Int} (S:Sto w s F m C d) {n:Int} (hn:Wf n) (k:Nat) (x:R4) (hx:okR x) {c:Ent} (hc:look Ent.n n C=some c) (hk:k < c.l.length) (hk0:k≠0) :
 Calls Tryz.prog 101 #[.pointer (some ⟨s,0,none⟩),.int .i64 n,.int .i64 (k:Int),rec4 x] w (SetPost w s F d true ((put Ent.n (c.recs (c.l.set k x)) C).map Ent.abs)):=by
 obtain ⟨h1,hB,hz⟩:=box_rec w x;have H1:=Lib.hid h1;have HB:=Lib.hid hB;have HZ:=Lib.hid hz;have hh:=has_any (S.below hB) hn (k:Int);rw [gB_some hc,decide_eq_true (⟨by omega,by omega⟩:0≤(k:Int)∧(k:Int) < c.l.length)] at hh;have HH:=Lib.hid hh;have SS:=Lib.hid S;have HN:=Lib.hid hn;have L:=Lib.hid (lv_some hc);obtain ⟨ho,_,_,_,_,hm⟩:=S.find hc;obtain ⟨g,cap,e1,_,_,_,_,_,_⟩:=ho.form (by omega);have ea:c.a=some ⟨g,0,none⟩:=by unfold Ent.sl at e1;injection e1
 rw [ea] at L;have FIN:Hid (∀ W,Below w.heap.size w W→SetPost w s F d true ((put Ent.n (c.recs (c.l.set k x)) C).map Ent.abs) (.returned (.bool true)) (sto4 W g (k * 4) x)):=fun W hb=>by
  obtain ⟨S1,O1⟩:=(S.below hb).write hm e1 hk hk0 hx;have O2:=(Only.of_below (G:=F) hb).trans O1 fun _ _ g=>g;exact ⟨rfl,⟨_,_,S1.wide (fun j hj=>.inl hj) (Fx.low S.low O2.size),rfl⟩,O2⟩
 have OW:=Lib.hid (And.intro ho (And.intro e1 hk));have CB:Hid (∀ W,SetC s F m C d w.heap.size x W→∀ g',g=g'→((sto4 W g' (k * 4) x).heap[s]? = some (.cells #[m,.int .i64 d] 91 (0,0))∧Mp (sto4 W g' (k * 4) x) F m C∧(sto4 W g' (k * 4) x).heap[w.heap.size]? = some (.cells (arr4 x) 96 (0,0)))):=fun W h g' eg=>by
  subst eg;obtain ⟨n1,n2⟩:=S.off hm;rw [e1] at n1 n2;have hgl:=S.low g (S.mine c hm g (by rw [e1];rfl));exact ⟨sto4_other h.row fun e=>n1 (by rw [e];rfl),h.mp.kept fun b hb=>sto4_other rfl fun e=>n2 b hb (by rw [e];rfl),sto4_other h.box (by omega)⟩
 have hq:k < c.l.length:=hk;clear h1 hB hz hh ho e1 hc S hn hk hm ea;generalize put Ent.n (c.recs (c.l.set k x)) C=C' at *;have hr0:((k:Int) == 0)=false:=by simpa using hk0
 have OW2:Hid (∀ W,Below w.heap.size w W→(W.cell? ⟨g,k * 4,none⟩=some (.int .u8 (rat c.l k).1)∧W.cell? ⟨g,k * 4+1,none⟩=some (.int .u8 (rat c.l k).2.1)∧W.cell? ⟨g,k * 4+2,none⟩=some (.int .u8 (rat c.l k).2.2.1)∧W.cell? ⟨g,k * 4+3,none⟩=some (.int .u8 (rat c.l k).2.2.2))∧(∀ j,W.frozen? ⟨g,j,none⟩=false)):=fun W hb=>by
  have o:=OW.out.1.keep hb;rw [OW.out.2.1] at o;have:=own4 o k OW.out.2.2;exact ⟨this.1,this.2.1⟩
 clear OW;generalize rat c.l k=y0 at *;generalize c.l.length=q at *;generalize c.p=p at *;generalize c.cap=ccap at *;unfold rec4;have X4:Hid (arr4 x=#[.int .u8 x.1,.int .u8 x.2.1,.int .u8 x.2.2.1,.int .u8 x.2.2.2]):=rfl;unfold arr4 at H1 HB HZ HH
 go_enter Tryz.func101,Tryz.ntmps101
 go_wp2_with fail;generalize (w.alloc (.cells #[.int .u8 x.1,.int .u8 x.2.1,.int .u8 x.2.2.1,.int .u8 x.2.2.2] 96))=W at *;refine HH.out.mono ?_;rintro e w1 ⟨rfl,b1⟩;have hz:=HZ.out;have G:w1.heap[w.heap.size]? = some (.cells (arr4 x) 96 (0,0)):=(b1.block _ (by omega)).trans H1.out;have B1:=Lib.hid (HB.out.trans (b1.mono HB.out.size));have S1:=SS.out.below B1.out;have C0:SetC s F m C d w.heap.size x w1.drew:=⟨S1.row,S1.mp,G⟩;clear b1 HH HB H1 HZ hz G S1 SS;go_wp2_with fail;have hF:=run_fieldF;have c0:=Sc.cell_in (C:=SetC s F m C d w.heap.size x) (a:=⟨s,0,none⟩) (fun W' h=>row_cell h.row 0);have x0:=Sc.cell_in (C:=SetC s F m C d w.heap.size x) (a:=⟨w.heap.size,0,none⟩) (v:=.int .u8 x.1) (fun W' h=>row_cell h.box 0);have x1:=Sc.cell_in (C:=SetC s F m C d w.heap.size x) (a:=⟨w.heap.size,1,none⟩) (v:=.int .u8 x.2.1) (fun W' h=>row_cell h.box 1);have x2:=Sc.cell_in (C:=SetC s F m C d w.heap.size x) (a:=⟨w.heap.size,2,none⟩) (v:=.int .u8 x.2.2.1) (fun W' h=>row_cell h.box 2);have x3:=Sc.cell_in (C:=SetC s F m C d w.heap.size x) (a:=⟨w.heap.size,3,none⟩) (v:=.int .u8 x.2.2.2) (fun W' h=>row_cell h.box 3);have hlk:∀ P:Sc.In (SetC s F m C d w.heap.size x),(Instr.lookup 89 m (.int .i64 n) false).run Tryz.prog P.world = .ok (.agg #[.int .i64 p,.slice (some ⟨g,0,none⟩) q ccap]) P.world:=fun P=>by
  have:=run_look P.ok.mp HN.out false;rw [L.out] at this;exact this
 have ne:Nonempty (Sc.In (SetC s F m C d w.heap.size x)):=⟨⟨_,C0⟩⟩;refine Sc.start (SetC s F m C d w.heap.size x) [(false,0),(false,1),(false,2),(false,3),(false,4),(false,5),(false,6),(false,7),(false,8),(false,9),(true,10)] (by kernel_rfl) (by kernel_rfl) (by kernel_rfl) C0 ?_;dsimp only [Sd.picks,List.getElem?_cons_succ,List.getElem?_cons_zero]
 repeat (refine Sd.lit ?_;quiet_step (fail);refine wpQuiet_nil ?_)
 have BW:Below w.heap.size w w1.drew:=B1.out.trans ((Below.refl _ _).drew);obtain ⟨⟨d0,d1,d2,d3⟩,hfr⟩:=OW2.out w1.drew BW;have f0:=hfr (k * 4);have f1:=hfr (k * 4+1);have f2:=hfr (k * 4+2);have f3:=hfr (k * 4+3);have L1:SetC s F m C d w.heap.size x (sto4 w1.drew g (k * 4) x):=by
  obtain ⟨a1,a2,a3⟩:=CB.out _ C0 _ rfl;exact ⟨a1,a2,a3⟩
 have RES:=Lib.hid (FIN.out w1.drew BW);clear hfr OW2 CB FIN C0 B1 BW;generalize w1.drew=W1 at *;refine Sd.call (by rfl) (fun K hK=>?_);go_simp;refine hK _ _ (Sc.Cl.of L1) ?_;clear hK K d0 d1 d2 d3 f0 f1 f2 f3 c0 x0 x1 x2 x3 hlk
 show Sd.wpSd _ _ _ _ _ _ (sto4 W1 g (k * 4) x)
 generalize sto4 W1 g (k * 4) x=W2 at *;refine Sd.done ?_;go_wp2
 go_ret
 exact RES.out
theorem set_any {w:World} {s:Nat} {F:Nat→Prop} {A:Abs} {d:Int} (S:St w s F A d) {n:Int} (hn:Wf n) (r:Int) (x:R4) (hx:okR x) :
 Calls Tryz.prog 101 #[.pointer (some ⟨s,0,none⟩),.int .i64 n,.int .i64 r,rec4 x] w (SetPost w s F d (sB A n r) (sA A n r x)):=by
 obtain ⟨m,C,h,rfl⟩:=S;have no:∀ e w',sB (C.map Ent.abs) n r=false→(e = .returned (.bool false)∧Below w.heap.size w w')→SetPost w s F d (sB (C.map Ent.abs) n r) (sA (C.map Ent.abs) n r x) e w':=fun e w' hb ⟨he,b⟩=>by
  unfold SetPost;rw [hb,sA_no hb x];exact ⟨he,St.fx ⟨m,C,h,rfl⟩ b,Only.of_below b⟩
 by_cases hr:r=0
 ·subst hr
  exact (set_zero w _ n x).mono fun e w'=>no e w' (by unfold sB;simp)
 ·have none:gB (C.map Ent.abs) n r=false→Calls Tryz.prog 101 #[.pointer (some ⟨s,0,none⟩),.int .i64 n,.int .i64 r,rec4 x] w (SetPost w s F d (sB (C.map Ent.abs) n r) (sA (C.map Ent.abs) n r x)):=fun hg =>
   (set_none w _ n r x hr fun W hb=>by
     have:=has_any (h.below hb) hn r
     rwa [hg] at this).mono fun e w'=>no e w' (by unfold sB;rw [hg];rfl)
  cases hk:look Ent.n n C with
  | none=>exact none (gB_none hk)
  | some c =>
    by_cases h2:0≤r∧r < c.l.length
    ·rw [sB_some hk h2.1 h2.2 hr,sA_some hk h2.1 h2.2 hr]
     obtain ⟨k,rfl⟩:∃ k:Nat,r=k:=⟨r.toNat,by omega⟩;rw [Int.toNat_natCast];exact set_yes h hn k x hx hk (by omega) (by omega)
    ·exact none (by rw [gB_some hk,decide_eq_false h2])
end Go.Proofs.YtpkipilggkbkeaaGreatDoor.Fs
namespace Go.Proofs.YtpkipilggkbkeaaGreatDoor.Fs
open Go.RowKit Go.Maps
open Fl (R4 z4 K4 rec4 rat goodF goodFB okR okL doE newR file arr4 sto4 sto2 sto2_row sto2_other sto2_below sto2_size row_cell row_frozen good_any)
open Rw (Rd Ow At)
set_option maxRecDepth 100000
attribute [local irreducible] Sd.wpSd wpQuiet Sf.wpSf
section
variable {w W W':World} {s b:Nat} {F:Nat→Prop} {C:List Ent} {d:Int} {c:Ent}
theorem Sto.place (h:Sto w s F (.map (some b)) C d) (hb:Below w.heap.size w W) (hg:W.grownBy W' (some b)) (mp:Mp W' F (.map (some b)) (Fs.put Ent.n c C)) (ow:Ow K4 W w.heap.size 96 c.sl c.l) (hn:0≤c.n∧c.n≤63) (hgd:goodF c.p c.l) (hl:okL c.l) :
 St W' s (Fx F w W') ((Fs.put Ent.n c C).map Ent.abs) d∧Only F w W':=by
 have hne:=h.map_ne;have hFb:=h.mp.isMap.1;have hbl:=h.low b hFb;have hsl:=h.low s h.foot;have O:Only F w W':=(Only.of_below hb).trans (Only.grown (G:=fun k=>k=b) rfl hg) fun k _ e=>e ▸ hFb;have off:∀ k,c.sl.ownBlock=some k→w.heap.size≤k∧k < W.heap.size:=ow_new ow;refine ⟨⟨_,_,h.put (w':=W') (d':=d) (F':=Fx F w W') ?_ (fun k hk=>.inl hk) (mp.wide fun k hk=>.inl hk) (fun e he hne=>?_) ?_ (fun k hk=>.inr ⟨(off k hk).1,Nat.lt_of_lt_of_le (off k hk).2 hg.size⟩) (fun e he hne k hk hk'=>?_) hn hgd hl (Fx.low h.low O.size),rfl⟩,O⟩
 ·rw [hg.block s (Nat.lt_of_lt_of_le hsl hb.size) (by intro e;injection e with e;exact hne e.symm),hb.block s hsl]
  exact h.row
 ·exact ow_only (G:=fun k=>k=b) ((h.own e he).keep hb) (fun k hk e'=>(h.off he).2 b rfl (by rw [hk,e'])) (Only.grown rfl hg)
 ·exact ow_only (G:=fun k=>k=b) (ow.low (Nat.zero_le _)) (fun k hk e'=>by have:=(off k hk).1;omega) (Only.grown rfl hg)
 ·have:=(off k hk).1
  have:=h.low k (h.mine e he k hk')
  omega
theorem Sto.make (h:Sto w s F (.map none) C d) (hb:Below w.heap.size w W):Sto ((W.alloc (.map #[] 0)).setCell ⟨s,0,none⟩ (.map (some W.heap.size))) s (Fx F w ((W.alloc (.map #[] 0)).setCell ⟨s,0,none⟩ (.map (some W.heap.size)))) (.map (some W.heap.size)) C d∧Only F w ((W.alloc (.map #[] 0)).setCell ⟨s,0,none⟩ (.map (some W.heap.size))):=by
 have hC:C = []:=by
  rcases h.mp with ⟨_,e⟩ | ⟨b,e,_⟩
  ·exact e
  ·cases e
 subst hC;have hsl:=h.low s h.foot;have B2:Below w.heap.size w (W.alloc (.map #[] 0)):=hb.alloc hb.size _;have O:Only F w ((W.alloc (.map #[] 0)).setCell ⟨s,0,none⟩ (.map (some W.heap.size))):=(Only.of_below B2).trans (Only.set F _ (a:=⟨s,0,none⟩) h.foot _) fun _ _ g=>g;refine ⟨⟨?_,.inl h.foot,.inr ⟨W.heap.size,rfl,.inr ⟨hb.size,by simp [World.setCell]⟩,?_⟩,nofun,nofun,List.Pairwise.nil,h.ok,Fx.low h.low O.size⟩,O⟩
 ·have:=Rw.heap_setCell_same (w:=W.alloc (.map #[] 0)) (g:=s) (j:=0) ((B2.block s hsl).trans h.row) (.map (some W.heap.size))
  rw [this]
  simp
 ·have:=World.ownsMap_made (H:=Value) W Tryz.prog 3 Rh
  exact this.setCell (a:=⟨s,0,none⟩) (fun e=>by have:=hb.size;simp only at e;omega) _
theorem Fx.trans {w1 w2:World} (h1:Only F w w1) (h2:w1.heap.size≤w2.heap.size):∀ k,Fx (Fx F w w1) w1 w2 k→Fx F w w2 k:=by
 have:=h1.size;rintro k ((g | ⟨a,b⟩) | ⟨a,b⟩)
 ·exact .inl g
 ·exact .inr ⟨a,by omega⟩
 ·exact .inr ⟨by omega,b⟩
theorem Only.trans' {w1 w2:World} (h1:Only F w w1) (h2:Only (Fx F w w1) w1 w2):Only F w w2:=h1.trans h2 fun k hk g=>by
 rcases g with g | ⟨a,_⟩
 ·exact g
 ·omega
end
def AddPost (w:World) (s:Nat) (F:Nat→Prop) (d:Int) (z:Int) (A':Abs) (e:Ending) (w':World):Prop:=e = .returned (.int .i64 z)∧St w' s (Fx F w w') A' d∧Only F w w'
theorem box_file (w:World) (p:Int) (v:Value):(w.alloc (.cells #[.int .i64 p,v] 65)).heap[w.heap.size]? = some (.cells #[.int .i64 p,v] 65 (0,0))∧Below w.heap.size w (w.alloc (.cells #[.int .i64 p,v] 65))∧(w.alloc (.cells #[.int .i64 p,v] 65)).heap.size=w.heap.size+1:=⟨heap_alloc_new w _,(Below.refl w.heap.size w).alloc (Nat.le_refl _) _,by simp⟩
theorem add_1 (w:World) (s:Nat) (n p:Int) (a:Option Addr) (q cap:Nat) (hn:¬ (0≤n∧n≤63)):Calls Tryz.prog 23 #[.pointer (some ⟨s,0,none⟩),.int .i64 n,.agg #[.int .i64 p,.slice a q cap]] w fun e w'=>e = .returned (.int .i64 1)∧Below w.heap.size w w':=by
 by_cases h:n < 0
 ·go_enter Tryz.func23,Tryz.ntmps23
  go_wp2
  go_ret
  exact ⟨rfl,(Below.refl w.heap.size w).alloc (Nat.le_refl _) _⟩
 ·have h2:64≤n:=by omega
  go_enter Tryz.func23,Tryz.ntmps23
  go_wp2
  go_ret
  exact ⟨rfl,(Below.refl w.heap.size w).alloc (Nat.le_refl _) _⟩
theorem add_2 (w:World) (s:Nat) (n p:Int) (a:Option Addr) (q cap:Nat) (l:List R4) (R:Rd K4 w (.slice a q cap) l) (hn:0≤n∧n≤63) (hg:¬ goodF p l):Calls Tryz.prog 23 #[.pointer (some ⟨s,0,none⟩),.int .i64 n,.agg #[.int .i64 p,.slice a q cap]] w fun e w'=>e = .returned (.int .i64 2)∧Below w.heap.size w w':=by
 obtain ⟨h1,hB,hz⟩:=box_file w p (.slice a q cap);have HB:=Lib.hid hB;have GA:=good_any _ p (.slice a q cap) l (R.below hB);rw [show goodFB p l=false from decide_eq_false hg] at GA;have HG:=Lib.hid GA;have n1:0≤n:=hn.1;have n2:n < 64:=by omega
 clear h1 hB hz R GA hg hn;unfold file at HG
 go_enter Tryz.func23,Tryz.ntmps23
 go_wp2_with fail;refine HG.out.mono ?_;rintro e w1 ⟨rfl,b1⟩;have B1:=Lib.hid (HB.out.trans (b1.mono HB.out.size));clear b1 HG HB;go_wp2
 go_ret
 exact ⟨rfl,B1.out⟩
set_option maxHeartbeats 1000000 in
theorem add_10 {w:World} {s:Nat} {F:Nat→Prop} {m:Value} {C:List Ent} {d:Int} (S:Sto w s F m C d) (n p:Int) (a:Option Addr) (q cap:Nat) (l:List R4) (R:Rd K4 w (.slice a q cap) l) (hn:0≤n∧n≤63) (hg:goodF p l) {c:Ent} (hc:look Ent.n n C=some c) :
 Calls Tryz.prog 23 #[.pointer (some ⟨s,0,none⟩),.int .i64 n,.agg #[.int .i64 p,.slice a q cap]] w fun e w'=>e = .returned (.int .i64 10)∧Below w.heap.size w w':=by
 obtain ⟨h1,hB,hz⟩:=box_file w p (.slice a q cap);have HB:=Lib.hid hB;have GA:=good_any _ p (.slice a q cap) l (R.below hB);rw [show goodFB p l=true from decide_eq_true hg] at GA;have HG:=Lib.hid GA;have SS:=Lib.hid S;have n1:0≤n:=hn.1;have n2:n < 64:=by omega
 have HN:Hid (Wf n):=WalkArith.wf_i64 (by omega);have L:=Lib.hid (lv_some hc);have LB:=Lib.hid (lb_some hc);clear h1 hB hz R GA hg hn S hc;unfold file at HG
 go_enter Tryz.func23,Tryz.ntmps23
 go_wp2_with fail;refine HG.out.mono ?_;rintro e w1 ⟨rfl,b1⟩;have B1:=Lib.hid (HB.out.trans (b1.mono HB.out.size));have S1:=SS.out.below B1.out;have c0:w1.cell? ⟨s,0,none⟩=some m:=row_cell S1.row 0;have M:=Lib.hid S1.mp;clear b1 HG HB S1 SS
 go_wp2_with (at_lookup;refine at_look1 rfl _ _ rfl M.out rfl _ rfl HN.out _ L.out _ LB.out ?_)
 go_ret
 exact ⟨rfl,B1.out.alloc B1.out.size _⟩
end Go.Proofs.YtpkipilggkbkeaaGreatDoor.Fs
namespace Go.Proofs.YtpkipilggkbkeaaGreatDoor.Fs
open Go.RowKit Go.Maps
open Fl (R4 z4 K4 rec4 rat goodF goodFB okR okL doE newR file arr4 row_cell row_frozen good_any)
open Rw (Rd Ow At)
set_option maxRecDepth 100000
attribute [local irreducible] Sd.wpSd wpQuiet Sf.wpSf
structure AddC (s:Nat) (m:Value) (d:Int) (g:Nat) (p:Int) (v:Value) (W:World):Prop where
 row:W.heap[s]? = some (.cells #[m,.int .i64 d] 91 (0,0))
 box:W.heap[g]? = some (.cells #[.int .i64 p,v] 65 (0,0))
theorem mk_eql (b:Option Nat) (W:World):(binOp .eql 89 (.map b) (.map none)).run Tryz.prog W = .ok (.bool b.isNone) W:=run_eql_map_nil W _ _ _ b Tryz.underlying89
theorem off_s {w:World} {v:Value} {l:List R4} {s:Nat} {o:Option Nat} {d:Int} {T:TypeId} (R:Rd K4 w v l) (h0:0 < l.length) (row:w.heap[s]? = some (.cells #[.map o,.int .i64 d] T (0,0))):∀ k,v.ownBlock=some k→k=s→False:=fun k hk e=>by
 obtain ⟨a,cap,rfl,_,_,h3⟩:=R;obtain ⟨b,off,rfl,hA⟩:=h3 h0;obtain rfl:b=k:=by simpa [Value.ownBlock] using hk
 subst e;have c:=hA 0 h0 0 _ rfl;have r:=row_cell row (off+0 * 4+0);have:w.cell? ⟨b,off+0 * 4+0,none⟩=some (.int .u8 (l.getD 0 z4).1):=c;rw [r] at this
 match off,this with
 | 0,h=>simp at h
 | 1,h=>simp at h
 | k+2,h=>simp at h
set_option maxHeartbeats 2000000 in
theorem add_some {w:World} {s b:Nat} {F:Nat→Prop} {C:List Ent} {d:Int} (S:Sto w s F (.map (some b)) C d) (n p:Int) (a:Option Addr) (q cap:Nat) (l:List R4) (R:Rd K4 w (.slice a q cap) l) (hn:0≤n∧n≤63) (hg:goodF p l) (hl:okL l) (hc:look Ent.n n C=none) :
 Calls Tryz.prog 23 #[.pointer (some ⟨s,0,none⟩),.int .i64 n,.agg #[.int .i64 p,.slice a q cap]] w (AddPost w s F d 0 (put key (n,p,l) (C.map Ent.abs))):=by
 obtain ⟨h1,hB,hz⟩:=box_file w p (.slice a q cap);have HB:=Lib.hid hB;have H1:=Lib.hid h1;have HZ:=Lib.hid hz;have RR:=Lib.hid R;have HL:=Lib.hid hl;have HGD:=Lib.hid hg;have GA:=good_any _ p (.slice a q cap) l (R.below hB);rw [show goodFB p l=true from decide_eq_true hg] at GA;have HG:=Lib.hid GA;have SS:=Lib.hid S;have n1:0≤n:=hn.1;have n2:n < 64:=by omega
 have HN:Hid (Wf n):=WalkArith.wf_i64 (by omega);have L:=Lib.hid (lv_none hc);have LB:=Lib.hid (lb_none hc);have FIN:Hid (∀ (u:Value) W W',Below w.heap.size w W→W.grownBy W' (some b)→Ow K4 W w.heap.size 96 u l→(∀ c:Ent,c.n=n→c.file=file p u→c.l=l→Mp W' F (.map (some b)) (put Ent.n c C))→AddPost w s F d 0 (put key (n,p,l) (C.map Ent.abs)) (.returned (.int .i64 0)) W'):=fun u W W' hb hgr ow mp=>by
  obtain ⟨au,cu,rfl,_⟩:=ow.slice;obtain ⟨S1,O1⟩:=S.place (c:=⟨n,p,au,cu,l⟩) hb hgr (mp _ rfl rfl rfl) ow hn hg hl;rw [abs_put] at S1;exact ⟨rfl,S1,O1⟩
 have hne:b≠s:=S.map_ne;have hbl:=S.low b S.mp.isMap.1;have hlen:=S.len;clear h1 hB hz R GA hg hn S hc hl;unfold file at HG
 go_enter Tryz.func23,Tryz.ntmps23
 go_wp2_with fail;generalize (w.alloc (.cells #[.int .i64 p,.slice a q cap] 65))=W at *;refine HG.out.mono ?_;rintro e w1 ⟨rfl,b1⟩;have B1:=Lib.hid (HB.out.trans (b1.mono HB.out.size));have S1:=SS.out.below B1.out;have c0:w1.cell? ⟨s,0,none⟩=some (.map (some b)):=row_cell S1.row 0;have M:=Lib.hid S1.mp;have hz:=HZ.out;have G1:=Lib.hid ((b1.block w.heap.size (by omega)).trans H1.out);have hE:=mk_eql (some b);have B2:=Lib.hid (B1.out.alloc B1.out.size (.cells #[.int .i64 0,.slice none 0 0] 65));have G2:=Lib.hid ((Below.heap_alloc w1 (.cells #[.int .i64 0,.slice none 0 0] 65) w.heap.size (by have:=b1.size;omega)).trans G1.out);have c2:(w1.alloc (.cells #[.int .i64 0,.slice none 0 0] 65)).cell? ⟨s,0,none⟩=some (.map (some b)):=row_cell (SS.out.below B2.out).row 0;clear b1 HG HB S1 G1 H1 hz
 go_wp2_with (at_lookup;refine at_look1 rfl _ _ rfl M.out rfl _ rfl HN.out _ L.out _ LB.out ?_)
 clear c0 c2 M hE B1;generalize (w1.alloc (.cells #[.int .i64 0,.slice none 0 0] 65))=W2 at *;have S2:=Lib.hid (SS.out.below B2.out);have C0:AddC s (.map (some b)) d w.heap.size p (.slice a q cap) W2.drew:=⟨S2.out.row,G2.out⟩;have c0:=Sc.cell_in (C:=AddC s (.map (some b)) d w.heap.size p (.slice a q cap)) (a:=⟨s,0,none⟩) (fun W' h=>row_cell h.row 0);have r0:=Sc.cell_in (C:=AddC s (.map (some b)) d w.heap.size p (.slice a q cap)) (a:=⟨w.heap.size,0,none⟩) (fun W' h=>row_cell h.box 0);have r1:=Sc.cell_in (C:=AddC s (.map (some b)) d w.heap.size p (.slice a q cap)) (a:=⟨w.heap.size,1,none⟩) (fun W' h=>row_cell h.box 1);have ne:Nonempty (Sc.In (AddC s (.map (some b)) d w.heap.size p (.slice a q cap))):=⟨⟨_,C0⟩⟩;have BW:=Lib.hid (B2.out.trans ((Below.refl W2.heap.size W2).drew.mono B2.out.size));refine Sc.start (AddC s (.map (some b)) d w.heap.size p (.slice a q cap)) [(false,0),(false,1),(false,2),(false,3),(false,4),(false,5),(true,6),(true,7)] (by kernel_rfl) (by kernel_rfl) (by kernel_rfl) C0 ?_;dsimp only [Sd.picks,List.getElem?_cons_succ,List.getElem?_cons_zero]
 repeat (refine Sd.lit ?_;quiet_step (fail);refine wpQuiet_nil ?_)
 refine Sd.call (by rfl) (fun K hK=>?_);have CA:=copied_any W2.drew p (.slice a q cap) l (RR.out.below BW.out) (by have:=HGD.out.2.2.2.1;omega);unfold file at CA;go_simp;refine CA.mono ?_;rintro e w3 ⟨u,rfl,o3,b3⟩;have hszz:w.heap.size≤W2.drew.heap.size:=B2.out.size;have B3:=Lib.hid (BW.out.trans (b3.mono hszz));have O3:=Lib.hid (o3.low hszz);have S3:=SS.out.below B3.out;have G3:w3.heap[w.heap.size]? = _:=(b3.block _ (by have:=HZ.out;have:=lt_of_block G2.out;exact this)).trans C0.box;refine hK _ _ (Sc.Cl.of ⟨S3.row,G3⟩) ?_;clear hK K b3 o3 CA C0 G2 B2 BW c0 r0 r1 S2;have M3:=Lib.hid S3.mp;have R3:=Lib.hid S3.row;have G3':=Lib.hid G3;clear S3 G3;obtain ⟨au,cu,rfl,_⟩:=O3.out.slice;refine Sd.call (by rfl) (fun K hK=>?_);refine wp_put _ _ _ rfl rfl M3.out ⟨n,p,au,cu,l⟩ rfl rfl HN.out (by unfold maxLen;omega) (fun w4 m4 g4=>?_)
 have RES:=Lib.hid (FIN.out _ w3 w4 B3.out g4 O3.out (fun c e1 e2 e3=>by
  obtain ⟨cn,cp,ca,cc,cl⟩:=c;simp only at e1 e3;subst e1 e3;unfold Ent.file Fl.file Ent.sl at e2;injection e2 with e2;have e4:=congrArg (fun t:Array Value=>t[0]?) e2;have e5:=congrArg (fun t:Array Value=>t[1]?) e2
  simp at e4 e5
  obtain ⟨rfl,rfl⟩:=e5;subst e4
  exact m4))
 have hws:=lt_of_block R3.out;have hwg:=lt_of_block G3'.out;refine hK _ _ (Sc.Cl.of ⟨(g4.block s hws (by intro e;injection e with e;exact hne e.symm)).trans R3.out,(g4.block w.heap.size hwg (by intro e;injection e with e;omega)).trans G3'.out⟩) ?_;clear hK K m4 g4 FIN;refine Sd.done ?_;go_wp2
 go_ret
 exact RES.out
set_option maxHeartbeats 2000000 in
theorem add_make {w:World} {s:Nat} {F:Nat→Prop} {C:List Ent} {d:Int} (S:Sto w s F (.map none) C d) (n p:Int) (a:Option Addr) (q cap:Nat) (l:List R4) (R:Rd K4 w (.slice a q cap) l) (hn:0≤n∧n≤63) (hg:goodF p l) (hl:okL l) (hc:look Ent.n n C=none) :
 Calls Tryz.prog 23 #[.pointer (some ⟨s,0,none⟩),.int .i64 n,.agg #[.int .i64 p,.slice a q cap]] w (AddPost w s F d 0 (put key (n,p,l) (C.map Ent.abs))):=by
 obtain ⟨h1,hB,hz⟩:=box_file w p (.slice a q cap);have HB:=Lib.hid hB;have H1:=Lib.hid h1;have HZ:=Lib.hid hz;have RR:=Lib.hid R;have HL:=Lib.hid hl;have HGD:=Lib.hid hg;have GA:=good_any _ p (.slice a q cap) l (R.below hB);rw [show goodFB p l=true from decide_eq_true hg] at GA;have HG:=Lib.hid GA;have SS:=Lib.hid S;have n1:0≤n:=hn.1;have n2:n < 64:=by omega
 have HN:Hid (Wf n):=WalkArith.wf_i64 (by omega);have L:=Lib.hid (lv_none hc);have LB:=Lib.hid (lb_none hc);have HNG:=Lib.hid (And.intro hn (And.intro hg hl));have hlen:=S.len;have hsl:=S.low s S.foot;clear h1 hB hz R GA hg hn S hc hl;unfold file at HG;have hmm:=@run_makeMap Tryz.prog
 go_enter Tryz.func23,Tryz.ntmps23
 go_wp2_with fail;generalize (w.alloc (.cells #[.int .i64 p,.slice a q cap] 65))=W at *;refine HG.out.mono ?_;rintro e w1 ⟨rfl,b1⟩;have B1:=Lib.hid (HB.out.trans (b1.mono HB.out.size));have S1:=SS.out.below B1.out;have c0:w1.cell? ⟨s,0,none⟩=some (.map none):=row_cell S1.row 0;have M:=Lib.hid S1.mp;have hz:=HZ.out;have G1:=Lib.hid ((b1.block w.heap.size (by omega)).trans H1.out);have hE:=mk_eql none;have B2:=Lib.hid (B1.out.alloc B1.out.size (.cells #[.int .i64 0,.slice none 0 0] 65));have G2:=Lib.hid ((Below.heap_alloc w1 (.cells #[.int .i64 0,.slice none 0 0] 65) w.heap.size (by have:=b1.size;omega)).trans G1.out);have S2:=SS.out.below B2.out;have c2:(w1.alloc (.cells #[.int .i64 0,.slice none 0 0] 65)).cell? ⟨s,0,none⟩=some (.map none):=row_cell S2.row 0;have hz2:(w1.alloc (.cells #[.int .i64 0,.slice none 0 0] 65)).heap.size=w1.heap.size+1:=by simp
 have MK:=SS.out.make B2.out;have S3:=(S2.below ((Below.refl _ _).alloc (Nat.le_refl _) (.map #[] 0)));have c3:((w1.alloc (.cells #[.int .i64 0,.slice none 0 0] 65)).alloc (.map #[] 0)).cell? ⟨s,0,none⟩=some (.map none):=row_cell S3.row 0;have f3:((w1.alloc (.cells #[.int .i64 0,.slice none 0 0] 65)).alloc (.map #[] 0)).frozen? ⟨s,0,none⟩=false:=row_frozen S3.row 0;have hgs:w.heap.size≠s:=by omega
 have G3:=Lib.hid ((Below.heap_setCell ((w1.alloc (.cells #[.int .i64 0,.slice none 0 0] 65)).alloc (.map #[] 0)) ⟨s,0,none⟩ (.map (some (w1.heap.size+1))) w.heap.size hgs).trans ((Below.heap_alloc (w1.alloc (.cells #[.int .i64 0,.slice none 0 0] 65)) (.map #[] 0) w.heap.size (by have:=B2.out.size;have:=b1.size;omega)).trans G2.out));rw [hz2] at MK;have S3':=Lib.hid MK.1;have O3':=Lib.hid MK.2;have OS:Only (fun k=>k=s) w ((((w1.alloc (.cells #[.int .i64 0,.slice none 0 0] 65)).alloc (.map #[] 0)).setCell ⟨s,0,none⟩ (.map (some (w1.heap.size+1))))):=(Only.of_below (B2.out.alloc B2.out.size _)).trans (Only.set (fun k=>k=s) _ (a:=⟨s,0,none⟩) rfl _) fun _ _ g=>g;have R3:=Lib.hid (rd_only RR.out (fun h0 k hk e=>off_s RR.out h0 SS.out.row k hk e) OS);clear b1 HG HB S1 G1 H1 hz G2 S2 S3 MK hz2 OS
 go_wp2_with (at_lookup;refine at_look1 rfl _ _ rfl M.out rfl _ rfl HN.out _ L.out _ LB.out ?_)
 clear c0 c2 c3 f3 M hE hmm B2 B1;generalize hb:w1.heap.size+1=b at *;clear hb;generalize (((w1.alloc (.cells #[.int .i64 0,.slice none 0 0] 65)).alloc (.map #[] 0)).setCell ⟨s,0,none⟩ (.map (some b)))=W2 at *;have hne:b≠s:=S3'.out.map_ne;have hcl:C.length < maxLen:=by unfold maxLen;omega
 have hws2:w.heap.size < W2.heap.size:=lt_of_block G3.out;have C0:AddC s (.map (some b)) d w.heap.size p (.slice a q cap) W2.drew:=⟨S3'.out.row,G3.out⟩;have c0:=Sc.cell_in (C:=AddC s (.map (some b)) d w.heap.size p (.slice a q cap)) (a:=⟨s,0,none⟩) (fun W' h=>row_cell h.row 0);have r0:=Sc.cell_in (C:=AddC s (.map (some b)) d w.heap.size p (.slice a q cap)) (a:=⟨w.heap.size,0,none⟩) (fun W' h=>row_cell h.box 0);have r1:=Sc.cell_in (C:=AddC s (.map (some b)) d w.heap.size p (.slice a q cap)) (a:=⟨w.heap.size,1,none⟩) (fun W' h=>row_cell h.box 1);have ne:Nonempty (Sc.In (AddC s (.map (some b)) d w.heap.size p (.slice a q cap))):=⟨⟨_,C0⟩⟩;have BW:Hid (Below W2.heap.size W2 W2.drew):=Lib.hid ((Below.refl W2.heap.size W2).drew);have hFb:=S3'.out.mp.isMap.1;have hbl:=S3'.out.low b hFb;have hbg:w.heap.size≠b:=fun e=>by
  obtain ⟨_,es,cl,hm⟩:=S3'.out.mp.isMap;rw [← e] at hm;have:=G3.out.symm.trans hm
  cases this
 refine Sc.start (AddC s (.map (some b)) d w.heap.size p (.slice a q cap)) [(false,0),(false,1),(false,2),(false,3),(false,4),(false,5),(true,6),(true,7)] (by kernel_rfl) (by kernel_rfl) (by kernel_rfl) C0 ?_;dsimp only [Sd.picks,List.getElem?_cons_succ,List.getElem?_cons_zero]
 repeat (refine Sd.lit ?_;quiet_step (fail);refine wpQuiet_nil ?_)
 refine Sd.call (by rfl) (fun K hK=>?_);have CA:=copied_any W2.drew p (.slice a q cap) l (R3.out.below BW.out) (by have:=HGD.out.2.2.2.1;omega);unfold file at CA;go_simp;refine CA.mono ?_;rintro e w3 ⟨u,rfl,o3,b3⟩;have B3:=Lib.hid (BW.out.trans (b3.mono (Nat.le_refl W2.heap.size)));have O3:Hid (Ow K4 w3 W2.heap.size 96 u l):=o3;have S4:=S3'.out.below B3.out;have G4:w3.heap[w.heap.size]? = _:=(b3.block _ hws2).trans C0.box;refine hK _ _ (Sc.Cl.of ⟨S4.row,G4⟩) ?_;clear hK K b3 o3 CA C0 G3 BW c0 r0 r1 R3;have M3:=Lib.hid S4.mp;have R4':=Lib.hid S4.row;have G3':=Lib.hid G4;clear S4 G4;obtain ⟨au,cu,rfl,_⟩:=O3.out.slice;refine Sd.call (by rfl) (fun K hK=>?_);refine wp_put _ _ _ rfl rfl M3.out ⟨n,p,au,cu,l⟩ rfl rfl HN.out hcl (fun w4 m4 g4=>?_);have RES:Hid (AddPost w s F d 0 (put key (n,p,l) (C.map Ent.abs)) (.returned (.int .i64 0)) w4):=by
  obtain ⟨P1,P2⟩:=S3'.out.place (c:=⟨n,p,au,cu,l⟩) B3.out g4 m4 O3.out HNG.out.1 HNG.out.2.1 HNG.out.2.2;rw [abs_put] at P1;exact ⟨rfl,P1.wide (Fx.trans O3'.out P2.size) (Fx.low SS.out.low (O3'.out.trans' P2).size),O3'.out.trans' P2⟩
 have hws:=lt_of_block R4'.out;have hwg:=lt_of_block G3'.out;refine hK _ _ (Sc.Cl.of ⟨(g4.block s hws (by intro e;injection e with e;exact hne e.symm)).trans R4'.out,(g4.block w.heap.size hwg (by intro e;injection e with e;exact hbg e)).trans G3'.out⟩) ?_;clear hK K m4 g4;refine Sd.done ?_;go_wp2
 go_ret
 exact RES.out
theorem look_abs {C:List Ent} {n:Int} : look key n (C.map Ent.abs)=(look Ent.n n C).map Ent.abs:=abs_look n C
theorem add_any {w:World} {s:Nat} {F:Nat→Prop} {A:Abs} {d:Int} (S:St w s F A d) (n p:Int) (v:Value) (l:List R4) (R:Rd K4 w v l) (hl:okL l) :
 Calls Tryz.prog 23 #[.pointer (some ⟨s,0,none⟩),.int .i64 n,file p v] w (AddPost w s F d (addE A n p l) (addA A n p l)):=by
 obtain ⟨m,C,h,rfl⟩:=S;obtain ⟨a,cap,rfl,_⟩:=R.slice;have no:∀ z e w',addE (C.map Ent.abs) n p l=z→z≠0→(e = .returned (.int .i64 z)∧Below w.heap.size w w')→AddPost w s F d (addE (C.map Ent.abs) n p l) (addA (C.map Ent.abs) n p l) e w':=fun z e w' hz h0 ⟨he,b⟩=>by
  unfold AddPost addA;rw [hz,if_neg h0];exact ⟨he,St.fx ⟨m,C,h,rfl⟩ b,Only.of_below b⟩
 by_cases hn:0≤n∧n≤63
 ·by_cases hg:goodF p l
  ·cases hc:look Ent.n n C with
   | some c=>exact (add_10 h n p a _ cap l R hn hg hc).mono fun e w'=>no 10 e w' (by unfold addE;rw [if_pos hn,if_pos hg,look_abs,hc];rfl) (by decide)
   | none =>
     have e0:addE (C.map Ent.abs) n p l=0:=by unfold addE;rw [if_pos hn,if_pos hg,look_abs,hc];rfl
     unfold addA;rw [e0,if_pos rfl]
     rcases h.mp with ⟨rfl,_⟩ | ⟨b,rfl,_,_⟩
     ·exact add_make h n p a _ cap l R hn hg hl hc
     ·exact add_some h n p a _ cap l R hn hg hl hc
  ·exact (add_2 w s n p a _ cap l R hn hg).mono fun e w'=>no 2 e w' (by unfold addE;rw [if_pos hn,if_neg hg]) (by decide)
 ·exact (add_1 w s n p a _ cap hn).mono fun e w'=>no 1 e w' (by unfold addE;rw [if_neg hn]) (by decide)
end Go.Proofs.YtpkipilggkbkeaaGreatDoor.Fs
