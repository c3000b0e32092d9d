import Derived.Test.YtljnkaodhfnbbaaGreatDoorPa2
import Derived.Test.YtljnkaodhfnbbaaGreatDoorPa4
import Derived.Test.YtljnkaodhfnbbaaGreatDoorPa3
import Derived.Maps.Range
import Derived.Maps.RangeWalk
import Derived.Maps.RangeRun
import Derived.Deep.Cut
import Derived.Test.YtljnkaodhfnbbaaGreatDoorPa1
import Derived.Test.YtljnkaodhfnbbaaGreatDoorChecked
import Derived.Laws.Rows
import Derived.Deep.WholeRow
import Derived.DeepKeys
import Derived.LoopTactic
import Derived.Outline
import Derived.Deep.LoopGhost
import Derived.Deep.Draws
import Derived.Lib.Hide
import Derived.ArgAppend
import Derived.WideKeyEntry
import Derived.DeepKeys5
import Derived.Maps.AppendAt
import Derived.Maps.OwnOps
set_option maxRecDepth 100000
namespace Go.Proofs.YtljnkaodhfnbbaaGreatDoor.Pa
open Go.RowKit
open Fl (R4 z4 rat goodF okR okL)
open Fs (Fil Abs key Srt OkA gB gV sB sA dA dE dD dV addE addA look_some look_none look_at map_look put_set)
open Ro (E5 z5 okE eat mayP)
open Ck (LL lat sN sE tE)
open Ua (bit frm te tp tb upd)
def rb (v:R4) (b:Int):Int:=if b=0 then v.1 else if b=1 then v.2.1 else if b=2 then v.2.2.1 else v.2.2.2
def rs (v:R4) (b x:Int):R4:=if b=0 then (x,v.2.1,v.2.2.1,v.2.2.2) else if b=1 then (v.1,x,v.2.2.1,v.2.2.2) else if b=2 then (v.1,v.2.1,x,v.2.2.2) else (v.1,v.2.1,v.2.2.1,x)
def byt (x:Int):Prop:=0≤x∧x≤255
theorem rb_ok {v:R4} (h:okR v) (b:Int):byt (rb v b):=by
 obtain ⟨h1,h2,h3,h4⟩:=h;unfold rb byt
 split
 ·exact h1
 ·split
  ·exact h2
  ·split
   ·exact h3
   ·exact h4
theorem rs_ok {v:R4} (h:okR v) (b:Int) {x:Int} (hx:byt x):okR (rs v b x):=by
 obtain ⟨h1,h2,h3,h4⟩:=h;unfold rs
 split
 ·exact ⟨hx,h2,h3,h4⟩
 ·split
  ·exact ⟨h1,hx,h3,h4⟩
  ·split
   ·exact ⟨h1,h2,hx,h4⟩
   ·exact ⟨h1,h2,h3,hx⟩
theorem rs_swap (v:R4) {a b:Int} (h:a≠b) (ha:0≤a∧a≤3) (hb:0≤b∧b≤3) (x y:Int):rs (rs v a x) b y=rs (rs v b y) a x:=by
 obtain rfl | rfl | rfl | rfl:a=0∨a=1∨a=2∨a=3:=by omega
 all_goals
  obtain rfl | rfl | rfl | rfl:b=0∨b=1∨b=2∨b=3:=by omega
  all_goals first | (exact absurd rfl h) | rfl
theorem rs_twice (v:R4) (a x y:Int):rs (rs v a x) a y=rs v a y:=by
 unfold rs
 by_cases h0:a=0
 ·simp [h0]
 ·by_cases h1:a=1
  ·simp [h1]
  ·by_cases h2:a=2
   ·simp [h2]
   ·simp [h0,h1,h2]
abbrev Hr:=Int→Option Int
def mt (f r:Int) (x:E5):Bool:=decide (x.1=2∧x.2.2.1=f∧x.2.2.2.1=r)
def grp (t:List E5) (f r:Int):List E5:=t.filter (mt f r)
def allH (h:Hr) (l:List E5):Bool:=l.all fun x=>(h x.2.1).isSome
def mix (h:Hr) (l:List E5) (v:R4):R4:=l.foldl (fun v x=>rs v x.2.2.2.2 ((h x.2.1).getD 0)) v
def newV (h:Hr) (l:List E5) (v:R4):R4:=if allH h l=true then mix h l v else v
def okH (h:Hr):Prop:=∀ n y,h n=some y→byt y
def okY (l:List E5):Prop:=∀ x∈l,0≤x.2.2.2.2∧x.2.2.2.2≤3
theorem getD_ok {h:Hr} (hh:okH h) (n:Int):byt ((h n).getD 0):=by
 rcases e:h n with _ | y
 ·exact ⟨Int.le_refl _,by show (0:Int)≤255;omega⟩
 ·exact hh n y e
theorem mix_ok {h:Hr} (hh:okH h):∀ (l:List E5) {v:R4},okR v→okR (mix h l v)
 | [],_,hv=>hv
 | _ :: r,_,hv=>mix_ok hh r (rs_ok hv _ (getD_ok hh _))
theorem newV_ok {h:Hr} (hh:okH h) (l:List E5) {v:R4} (hv:okR v):okR (newV h l v):=by
 unfold newV
 split
 ·exact mix_ok hh l hv
 ·exact hv
theorem newV_nil (h:Hr) (v:R4):newV h [] v=v:=rfl
theorem mix_cons (h:Hr) (x:E5) (r:List E5) (v:R4):mix h (x :: r) v=mix h r (rs v x.2.2.2.2 ((h x.2.1).getD 0)):=rfl
theorem mix_rs {h:Hr} (a x:Int) (ha:0≤a∧a≤3):∀ (l:List E5) (v:R4),okY l→mix h l (rs v a x)=if l.any (fun y=>decide (y.2.2.2.2=a))=true then mix h l v else rs (mix h l v) a x
 | [],_,_=>rfl
 | y :: r,v,hy=>by
   have hr:okY r:=fun z hz=>hy z (List.mem_cons_of_mem _ hz);have hy0:=hy y (List.mem_cons_self ..);rw [mix_cons,mix_cons,List.any_cons]
   by_cases e:y.2.2.2.2=a
   ·rw [e,rs_twice,decide_eq_true (rfl:a=a),Bool.true_or,if_pos rfl]
   ·rw [decide_eq_false e,Bool.false_or,rs_swap _ (fun h=>e h.symm) ha hy0,mix_rs a x ha r _ hr]
theorem mix_mix {h:Hr} : ∀ (l:List E5) (v:R4),okY l→mix h l (mix h l v)=mix h l v
 | [],_,_=>rfl
 | x :: r,v,hy=>by
   have hr:okY r:=fun z hz=>hy z (List.mem_cons_of_mem _ hz);have hx:=hy x (List.mem_cons_self ..);have ih:=mix_mix (h:=h) r v hr;rw [mix_cons,mix_cons,mix_rs _ _ hx r v hr]
   split
   ·rename_i hany
    rw [mix_rs _ _ hx r _ hr,if_pos hany,ih]
   ·rename_i hany
    rw [rs_twice,mix_rs _ _ hx r _ hr,if_neg hany,ih]
theorem newV_newV {h:Hr} {l:List E5} (hy:okY l) (v:R4):newV h l (newV h l v)=newV h l v:=by
 unfold newV
 by_cases e:allH h l=true
 ·simp only [e,if_true]
  exact mix_mix l v hy
 ·simp only [e,if_false,Bool.false_eq_true]
def recF (h:Hr) (t:List E5) (V:Int→Int→Bool) (e:Fil):Fil:=(e.1,e.2.1,e.2.2.mapIdx fun k v=>if V e.1 k=true then newV h (grp t e.1 k) v else v)
def recV (h:Hr) (t:List E5) (V:Int→Int→Bool) (A:Abs):Abs:=A.map (recF h t V)
def recA (h:Hr) (t:List E5) (A:Abs):Abs:=recV h t (fun _ _=>true) A
section
variable {h:Hr} {t:List E5} {V:Int→Int→Bool} {A:Abs}
theorem recF_len (e:Fil):(recF h t V e).2.2.length=e.2.2.length:=by simp [recF]
theorem recF_get (e:Fil) (k:Nat):(recF h t V e).2.2[k]? = (e.2.2[k]?).map fun v=>if V e.1 k=true then newV h (grp t e.1 k) v else v:=by simp [recF]
theorem recF_rat (e:Fil) {k:Nat} (hk:k < e.2.2.length):rat (recF h t V e).2.2 k=if V e.1 k=true then newV h (grp t e.1 k) (rat e.2.2 k) else rat e.2.2 k:=by
 unfold rat;rw [List.getD_eq_getElem?_getD,List.getD_eq_getElem?_getD,recF_get,List.getElem?_eq_getElem hk]
 rfl
theorem rec_look (n:Int):Fs.look key n (recV h t V A)=(Fs.look key n A).map (recF h t V):=map_look (κ:=key) (κ':=key) (f:=recF h t V) (fun _=>rfl) n A
theorem rec_gB (n k:Int):gB (recV h t V A) n k=gB A n k:=by
 unfold gB;rw [rec_look]
 cases Fs.look key n A with
 | none=>rfl
 | some e=>simp [recF_len]
theorem rec_gV (n k:Int) (hg:gB A n k=true):gV (recV h t V A) n k=if V n k=true then newV h (grp t n k) (gV A n k) else gV A n k:=by
 unfold gB at hg;unfold gV;rw [rec_look]
 rcases e:Fs.look key n A with _ | c
 ·rw [e] at hg
  cases hg
 ·rw [e] at hg
  simp only [decide_eq_true_eq] at hg;obtain ⟨_,hk⟩:=look_some e;have hn:c.1=n:=hk;simp only [Option.map_some];rw [if_pos (by rw [recF_len];exact hg),if_pos hg,recF_rat c (by omega)];have ek:((k.toNat:Nat):Int)=k:=by omega
  rw [ek,hn]
theorem rec_none (hV:∀ n k,V n k=false):recV h t V A=A:=by
 unfold recV;rw [List.map_congr_left (g:=id) (fun e _=>?_),List.map_id];obtain ⟨n,p,l⟩:=e;simp only [recF,hV,id]
 congr 2
 exact List.ext_getElem? fun k=>by simp
theorem rec_congr {V':Int→Int→Bool} (hV:∀ n k,grp t n k≠[]→V n k=V' n k):recV h t V A=recV h t V' A:=by
 unfold recV;refine List.map_congr_left fun e _=>?_;unfold recF
 congr 2
 refine List.ext_getElem? fun k=>?_;simp only [List.getElem?_mapIdx]
 cases e.2.2[k]? with
 | none=>rfl
 | some v =>
   by_cases hg:grp t e.1 k = []
   ·simp [hg,newV_nil]
   ·simp [hV _ _ hg]
theorem rec_all (hV:∀ n k,grp t n k≠[]→V n k=true):recV h t V A=recA h t A:=rec_congr hV
def also (V:Int→Int→Bool) (n k:Int) (a b:Int):Bool:=V a b || decide (a=n∧b=k)
theorem rec_set (hA:OkA A) {n k:Int} (hg:gB A n k=true) (h0:k≠0) (hy:okY (grp t n k)):sA (recV h t V A) n k (newV h (grp t n k) (gV (recV h t V A) n k))=recV h t (also V n k) A:=by
 have hgr:gB (recV h t V A) n k=true:=(rec_gB n k).trans hg;have hsb:sB (recV h t V A) n k=true:=by unfold sB;rw [hgr,decide_eq_true h0];rfl
 have hv:=rec_gV (h:=h) (t:=t) (V:=V) n k hg;have hval:newV h (grp t n k) (gV (recV h t V A) n k)=newV h (grp t n k) (gV A n k):=by
  rw [hv]
  split
  ·exact newV_newV hy _
  ·rfl
 rw [hval];unfold gB at hg
 rcases e:Fs.look key n A with _ | c
 ·rw [e] at hg
  cases hg
 rw [e] at hg;simp only [decide_eq_true_eq] at hg;obtain ⟨hm,hk⟩:=look_some e;have hn:c.1=n:=hk;have hvA:gV A n k=rat c.2.2 k.toNat:=by unfold gV;rw [e];exact if_pos hg
 rw [hvA];unfold sA;rw [rec_look,e];simp only [Option.map_some];rw [if_pos hsb];obtain ⟨i,hi⟩:=List.getElem?_of_mem hm;have hsr:Srt key (recV h t V A):=(Fs.map_srt (κ:=key) (κ':=key) (f:=recF h t V) (fun _=>rfl)).2 hA.srt;have hir:(recV h t V A)[i]? = some (recF h t V c):=by unfold recV;rw [List.getElem?_map,hi];rfl
 rw [put_set (κ:=key) (c:=(n,(recF h t V c).2.1,(recF h t V c).2.2.set k.toNat (newV h (grp t n k) (rat c.2.2 k.toNat)))) hsr hir (show c.1=n from hn)];refine List.ext_getElem? fun j=>?_;rw [List.getElem?_set];have hlen:i < (recV h t V A).length:=(List.getElem?_eq_some_iff.1 hir).1
 by_cases hj:i=j
 ·subst hj
  rw [if_pos rfl,if_pos hlen];unfold recV;rw [List.getElem?_map,hi];simp only [Option.map_some,Option.some.injEq];unfold recF;refine Prod.ext hn.symm (Prod.ext rfl ?_);refine List.ext_getElem? fun q=>?_;simp only [List.getElem?_set,List.length_mapIdx,List.getElem?_mapIdx]
  by_cases hq:k.toNat=q
  ·subst hq
   have hql:k.toNat < c.2.2.length:=by omega
   rw [if_pos rfl,if_pos hql,List.getElem?_eq_getElem hql];have ek:((k.toNat:Nat):Int)=k:=by omega
   simp only [Option.map_some,ek,also,hn,and_self,decide_true,Bool.or_true,if_true]
   congr 2
   unfold rat;rw [List.getD_eq_getElem?_getD,List.getElem?_eq_getElem hql]
   rfl
  ·rw [if_neg hq]
   have hne:¬ (q:Int)=k:=by omega
   cases c.2.2[q]? with
   | none=>rfl
   | some v=>simp [also,hne]
 ·rw [if_neg hj]
  unfold recV;rw [List.getElem?_map,List.getElem?_map]
  rcases ej:A[j]? with _ | x
  ·rfl
  ·have hne:x.1≠n:=fun hx=>by
    have hxm:x∈A:=List.mem_of_getElem? ej;have q1:=look_at hA.srt hxm;rw [show key x=n from hx,e] at q1;injection q1 with q1;subst q1;have hi':=(List.getElem?_eq_some_iff.1 hi).1;have hj':=(List.getElem?_eq_some_iff.1 ej).1;have pw:=List.pairwise_iff_getElem.1 hA.srt;have g1:A[i]=c:=by have:=hi;rw [List.getElem?_eq_getElem hi'] at this;simpa using this
    have g2:A[j]=c:=by have:=ej;rw [List.getElem?_eq_getElem hj'] at this;simpa using this
    rcases Nat.lt_or_gt_of_ne hj with hlt | hlt
    ·have:=pw i j hi' hj' hlt
     rw [g1,g2] at this
     omega
    ·have:=pw j i hj' hi' hlt
     rw [g1,g2] at this
     omega
   simp only [Option.map_some,Option.some.injEq];unfold recF
   congr 2
   refine List.ext_getElem? fun q=>?_
   simp [also,hne]
theorem rec_out (hA:OkA A) {n k:Int} (hg:gB A n k=false):recV h t (also V n k) A=recV h t V A:=by
 unfold recV;refine List.map_congr_left fun e he=>?_;unfold recF
 congr 2
 refine List.ext_getElem? fun q=>?_;simp only [List.getElem?_mapIdx]
 by_cases hx:e.1=n∧(q:Int)=k
 ·obtain ⟨h1,h2⟩:=hx
  have q1:=look_at hA.srt he;rw [show key e=n from h1] at q1;unfold gB at hg;rw [q1] at hg;simp only [decide_eq_false_iff_not] at hg;rw [List.getElem?_eq_none (by omega)]
  rfl
 ·simp [also,hx]
end
end Go.Proofs.YtljnkaodhfnbbaaGreatDoor.Pa
namespace Go.Proofs.YtljnkaodhfnbbaaGreatDoor.Pa
open Go.RowKit
open Fl (R4 z4 rat goodF okR okL)
open Fs (Fil Abs key Srt OkA gB gV sB sA dA dE dD dV addE addA look_some look_none look_at map_look put_set)
open Ro (E5 z5 okE eat mayP eat_get)
open Ck (LL lat sN sE tE)
open Ua (bit frm te tp tb upd)
section
variable {h:Hr} {t:List E5} {V:Int→Int→Bool} {A:Abs}
def rcv1 (h:Hr) (l:List E5) (f r:Int) (A:Abs):Abs:=if (gB A f r && allH h l)=true then sA A f r (mix h l (gV A f r)) else A
theorem rcv1_next (hA:OkA A) {f r:Int} (h0:r≠0) (hy:okY (grp t f r)):rcv1 h (grp t f r) f r (recV h t V A)=recV h t (also V f r) A:=by
 unfold rcv1;rw [rec_gB]
 by_cases hg:gB A f r=true
 ·by_cases ha:allH h (grp t f r)=true
  ·rw [hg,ha,show (true && true)=true from rfl,if_pos rfl,← rec_set hA hg h0 hy]
   congr 1
   unfold newV;rw [if_pos ha]
  ·rw [if_neg (by simp [ha])]
   unfold recV;refine List.map_congr_left fun e _=>?_;unfold recF
   congr 2
   refine List.ext_getElem? fun q=>?_;simp only [List.getElem?_mapIdx]
   by_cases hx:e.1=f∧(q:Int)=r
   ·obtain ⟨h1,h2⟩:=hx
    rw [h1,h2];have:∀ v,newV h (grp t f r) v=v:=fun v=>by unfold newV;rw [if_neg ha]
    simp only [this,ite_self]
   ·simp [also,hx]
 ·rw [if_neg (by simp [hg]),rec_out hA (by simpa using hg)]
def seen (t:List E5) (j:Nat) (n k:Int):Bool:=(t.take j).any (mt n k)
theorem take_eat {j:Nat} (hj:j < t.length):t.take (j+1)=t.take j ++ [eat t j]:=by rw [List.take_add_one,eat_get hj];rfl
def ex1 (s:Abs×Int) (x:E5):Abs×Int:=if x.1=3 then (dA s.1 2 x.2.2.1 x.2.2.2.1 z4,dD s.1 2 x.2.2.1 x.2.2.2.1 s.2) else s
def exU (t:List E5) (s:Abs×Int) (j:Nat):Abs×Int:=(t.take j).foldl ex1 s
def apS (h:Hr) (t:List E5) (s:Abs×Int):Abs×Int:=t.foldl ex1 (recA h t s.1,s.2)
theorem exU_zero (s:Abs×Int):exU t s 0=s:=rfl
theorem exU_next (s:Abs×Int) {j:Nat} (hj:j < t.length):exU t s (j+1)=ex1 (exU t s j) (eat t j):=by unfold exU;rw [take_eat hj,List.foldl_append];rfl
theorem exU_yes (s:Abs×Int) {j:Nat} (hj:j < t.length) (h3:(eat t j).1=3):exU t s (j+1)=(dA (exU t s j).1 2 (eat t j).2.2.1 (eat t j).2.2.2.1 z4,dD (exU t s j).1 2 (eat t j).2.2.1 (eat t j).2.2.2.1 (exU t s j).2):=by
 rw [exU_next s hj];unfold ex1;rw [if_pos h3]
theorem exU_no (s:Abs×Int) {j:Nat} (hj:j < t.length) (h3:(eat t j).1≠3):exU t s (j+1)=exU t s j:=by
 rw [exU_next s hj];unfold ex1;rw [if_neg h3]
theorem exU_end (h:Hr) (s:Abs×Int):exU t (recA h t s.1,s.2) t.length=apS h t s:=by unfold exU apS;rw [List.take_length]
theorem dD_le {A:Abs} {o f r d:Int} : d≤dD A o f r d∧dD A o f r d≤d+1:=by unfold dD;split <;> omega
theorem exU_d (s:Abs×Int):∀ j,s.2≤(exU t s j).2∧(exU t s j).2≤s.2+j
 | 0=>by rw [exU_zero];omega
 | j+1=>by
   have ih:=exU_d s j
   by_cases hj:j < t.length
   ·rw [exU_next s hj]
    unfold ex1
    split
    ·have:=dD_le (A:=(exU t s j).1) (o:=2) (f:=(eat t j).2.2.1) (r:=(eat t j).2.2.2.1) (d:=(exU t s j).2)
     simp only
     omega
    ·omega
   ·have:exU t s (j+1)=exU t s j:=by unfold exU;rw [List.take_of_length_le (by omega),List.take_of_length_le (by omega)]
    rw [this]
    omega
end
def tn (F:Nat→Bool) (m:Int) (i:Nat):Bool:=if 1≤i∧i < 11 then F i != bit m i else F i
abbrev S2:=Int×Int
def z2:S2:=(0,0)
def pat (P:List S2) (i:Nat):S2:=P.getD i z2
def sq1 (s:Int) (F:Nat→Bool) (x:S2):Nat→Bool:=if x.1=s then tn F x.2 else F
def sq (P:List S2) (s:Int) (F:Nat→Bool) (j:Nat):Nat→Bool:=(P.take j).foldl (sq1 s) F
theorem sq_next (P:List S2) (s:Int) (F:Nat→Bool) {j:Nat} (hj:j < P.length):sq P s F (j+1)=sq1 s (sq P s F j) (pat P j):=by
 unfold sq;have:P.take (j+1)=P.take j ++ [pat P j]:=by
  rw [List.take_add_one,List.getElem?_eq_getElem hj];unfold pat;rw [List.getD_eq_getElem?_getD,List.getElem?_eq_getElem hj]
  rfl
 rw [this,List.foldl_append]
 rfl
theorem sq_yes (P:List S2) (s:Int) (F:Nat→Bool) {j:Nat} (hj:j < P.length) (h:(pat P j).1=s):sq P s F (j+1)=tn (sq P s F j) (pat P j).2:=by rw [sq_next P s F hj];unfold sq1;rw [if_pos h]
theorem sq_no (P:List S2) (s:Int) (F:Nat→Bool) {j:Nat} (hj:j < P.length) (h:(pat P j).1≠s):sq P s F (j+1)=sq P s F j:=by rw [sq_next P s F hj];unfold sq1;rw [if_neg h]
theorem and_2046_all:∀ r:Fin 2048,r.val &&& 2046=r.val / 2 * 2:=by decide +kernel
theorem and_2046 (x:Int):bits BinOp.and .i64 x 2046=x / 2 % 1024 * 2:=by
 have h:=Ua.and_i64 x 2046 (by decide);have h2:((x % 18446744073709551616).toNat &&& 2046:Nat)=(x % 18446744073709551616).toNat % 2048 / 2 * 2:=by
  have a:=and_2046_all ⟨(x % 18446744073709551616).toNat % 2048,Nat.mod_lt _ (by omega)⟩;simp only at a;rw [← a];have e:(x % 18446744073709551616).toNat % 2048=(x % 18446744073709551616).toNat &&& (2 ^ 11 - 1):=by rw [Nat.and_two_pow_sub_one_eq_mod]
  rw [e,Nat.and_assoc]
  rfl
 rw [show ((2046:Int))=((2046:Nat):Int) from rfl,h,h2]
 omega
theorem bit_2046 (x:Int) {i:Nat} (hi:i < 11):bit (x / 2 % 1024 * 2) i=(decide (1≤i) && bit x i):=by
 unfold bit
 rcases Nat.lt_or_ge i 1 with h | h
 ·obtain rfl:i=0:=by omega
  simp
 ·rw [decide_eq_true h,Bool.true_and,decide_eq_decide]
  obtain rfl | rfl | rfl | rfl | rfl | rfl | rfl | rfl | rfl | rfl:i=1∨i=2∨i=3∨i=4∨i=5∨i=6∨i=7∨i=8∨i=9∨i=10:=by omega
  all_goals simp only [Int.reducePow];omega
theorem tn_code (F:Nat→Bool) (m:Int) (i:Nat) (hi:i < 11):Ua.turn F (bits BinOp.and .i64 m 2046) 11 i=tn F m i:=by
 rw [and_2046];unfold Ua.turn tn;rw [if_pos hi,bit_2046 m hi]
 by_cases h:1≤i
 ·simp [h,hi]
 ·simp [h]
abbrev Sts:=List (Abs×Int)
def sat (S:Sts) (n:Int):Abs×Int:=S.getD n.toNat ([],0)
def vat (V:List Bool) (n:Int):Bool:=V.getD n.toNat false
def snB (S:Sts) (T:LL) (V:List Bool) (s:Int):Bool:=decide (0≤sN s T) && vat V (sN s T) && gB (sat S (sN s T)).1 (sE s T).2.2.1 (sE s T).2.2.2.1
def snX (S:Sts) (T:LL) (s:Int):Int:=rb (gV (sat S (sN s T)).1 (sE s T).2.2.1 (sE s T).2.2.2.1) (sE s T).2.2.2.2
def sbN (S:Sts) (T:LL) (V:List Bool) (s:Int):Int:=if snB S T V s=true then sN s T else -1
def sbX (S:Sts) (T:LL) (V:List Bool) (s:Int):Int:=if snB S T V s=true then snX S T s else 0
def lowF (_:Nat):Bool:=false
def frF (S:Sts) (T:LL) (V:List Bool) (P:List S2) (s:Int):Nat→Bool:=if snB S T V s=true then sq P s (frm (snX S T s) false) P.length else lowF
def hrB (S:Sts) (T:LL) (V:List Bool) (P:List S2) (s:Int):Bool:=snB S T V s && decide (te (frF S T V P s)=0) && !tp (frF S T V P s)
def hrV (S:Sts) (T:LL) (V:List Bool) (P:List S2) (s:Int):Int:=if hrB S T V P s=true then tb (frF S T V P s) else 0
def hr (S:Sts) (T:LL) (V:List Bool) (P:List S2):Hr:=fun s=>if 1≤s∧s≤16∧hrB S T V P s=true then some (hrV S T V P s) else none
theorem tb_byt (F:Nat→Bool):byt (tb F):=by
 unfold tb byt
 split
 ·omega
 ·have:=Ua.val_lt F 8
  omega
theorem hrV_byt (S:Sts) (T:LL) (V:List Bool) (P:List S2) (s:Int):byt (hrV S T V P s):=by
 unfold hrV
 split
 ·exact tb_byt _
 ·unfold byt;omega
theorem hr_ok (S:Sts) (T:LL) (V:List Bool) (P:List S2):okH (hr S T V P):=fun n y h=>by
 unfold hr at h
 split at h
 ·injection h with h;subst h;exact hrV_byt S T V P n
 ·cases h
def rdE (S:Sts) (T:LL) (V:List Bool):Int:=if 1≤S.length∧S.length≤32∧T.length=S.length∧V.length=S.length then tE T else 1
def rdS (S:Sts) (T:LL) (V:List Bool) (h:Hr):Sts:=(List.range S.length).map fun (i:Nat)=>if vat V i=true then apS h (lat T i) (sat S i) else sat S i
theorem rdS_len (S:Sts) (T:LL) (V:List Bool) (h:Hr):(rdS S T V h).length=S.length:=by simp [rdS]
theorem rdS_at (S:Sts) (T:LL) (V:List Bool) (h:Hr) {i:Nat} (hi:i < S.length):sat (rdS S T V h) i=if vat V i=true then apS h (lat T i) (sat S i) else sat S i:=by
 show (rdS S T V h).getD ((i:Int)).toNat _=_
 rw [Int.toNat_natCast,List.getD_eq_getElem?_getD];unfold rdS;rw [List.getElem?_map,List.getElem?_range hi]
 rfl
end Go.Proofs.YtljnkaodhfnbbaaGreatDoor.Pa
namespace Go.Proofs.YtljnkaodhfnbbaaGreatDoor.Fs
open Go.RowKit Go.Maps
open Fl (R4 z4 K4 rec4 rat goodF goodFB okR okL file arr4 row_cell row_frozen)
open Rw (Rd Ow At)
attribute [local irreducible] Sd.wpSd wpQuiet
theorem grown_of {w w':World} (h:Below w.heap.size w w'):w.grownBy w' none:=⟨h.os,h.tape,h.output,h.size,fun k hk _=>h.block k hk⟩
theorem srt_eq:∀ {A B:Abs},Srt key A→Srt key B→(∀ e,e∈A↔e∈B)→A=B
 | [],[],_,_,_=>rfl
 | [],b :: B,_,_,h=>by have:=(h b).2 (List.mem_cons_self ..);cases this
 | a :: A,[],_,_,h=>by have:=(h a).1 (List.mem_cons_self ..);cases this
 | a :: A,b :: B,ha,hb,h=>by
   obtain ⟨ha1,ha2⟩:=List.pairwise_cons.1 ha;obtain ⟨hb1,hb2⟩:=List.pairwise_cons.1 hb;have e:a=b:=by
    rcases List.mem_cons.1 ((h a).1 (List.mem_cons_self ..)) with e | e
    ·exact e
    ·rcases List.mem_cons.1 ((h b).2 (List.mem_cons_self ..)) with e2 | e2
     ·exact e2.symm
     ·have:=ha1 b e2;have:=hb1 a e;omega
   subst e
   congr 1
   refine srt_eq ha2 hb2 fun e=>⟨fun he=>?_,fun he=>?_⟩
   ·rcases List.mem_cons.1 ((h e).1 (List.mem_cons_of_mem _ he)) with rfl | h2
    ·have:=ha1 e he;omega
    ·exact h2
   ·rcases List.mem_cons.1 ((h e).2 (List.mem_cons_of_mem _ he)) with rfl | h2
    ·have:=hb1 e he;omega
    ·exact h2
theorem St.as {w:World} {s:Nat} {F:Nat→Prop} {A:Abs} {d d':Int} {m:Value} {T:TypeId} (h:St w s F A d) (row:w.heap[s]? = some (.cells #[m,.int .i64 d'] T (0,0))):∃ C,Sto w s F m C d∧C.map Ent.abs=A:=by
 obtain ⟨m',C,h,e⟩:=h;have r:=h.row.symm.trans row;injection r with r;injection r with r _ _;have e4:=congrArg (fun t:Array Value=>t[0]?) r
 simp at e4
 subst e4;exact ⟨C,h,e⟩
theorem below_new1 (W:World) (o:Obj):Below W.heap.size W (W.alloc o):=(Below.refl _ W).alloc (Nat.le_refl _) o
def CopySt (w:World) (A:Abs) (d:Int) (e:Ending) (w':World):Prop:=∃ g F,e = .returned (.pointer (some ⟨g,0,none⟩))∧St w' g F A d∧(∀ k,F k→w.heap.size≤k)∧Below w.heap.size w w'
structure CI (w:World) (b:Nat) (C:List Ent) (d:Int) (wr:World) (left:Lit→Bool) (cnt:Nat) (F:Nat→Prop) (C2:List Ent):Prop where
 rg:wr.ranges Tryz.prog 3 Rh b (w.heap.size+2) C.length (dat C) left cnt
 has:∀ kl,left kl=true→Maps.has (dat C) kl=true
 st:Sto wr (w.heap.size+1) F (.map (some w.heap.size)) C2 d
 mem:∀ e,e∈C2.map Ent.abs↔e∈C.map Ent.abs∧left (.int .i64 e.1)=false
 lo:∀ k,F k→w.heap.size≤k
 off:¬ F (w.heap.size+2)
 bel:Below w.heap.size w wr
theorem copy0 (w:World) (d:Int):Sto ((w.alloc (.map #[] 0)).alloc (.cells #[.map (some w.heap.size),.int .i64 d] 178)) (w.heap.size+1) (fun k=>k=w.heap.size∨k=w.heap.size+1) (.map (some w.heap.size)) [] d:=by
 have hz:(w.alloc (.map #[] 0)).heap.size=w.heap.size+1:=by simp
 have hr:=heap_alloc_new (w.alloc (.map #[] 0)) (.cells #[.map (some w.heap.size),.int .i64 d] 178);rw [hz] at hr;have mp:Mp (w.alloc (.map #[] 0)) (fun k=>k=w.heap.size∨k=w.heap.size+1) (.map (some w.heap.size)) []:=.inr ⟨w.heap.size,rfl,.inl rfl,World.ownsMap_made _ _ _ _⟩;refine ⟨hr,.inr rfl,mp.kept fun b hb=>?_,nofun,nofun,List.Pairwise.nil,OkA.nil,fun k hk=>?_⟩
 ·injection hb with hb
  injection hb with hb;subst hb;exact Below.heap_alloc _ _ _ (by omega)
 ·simp
  omega
set_option maxHeartbeats 4000000 in
theorem copy_some {w:World} {s b:Nat} {F:Nat→Prop} {C:List Ent} {d:Int} (S:Sto w s F (.map (some b)) C d):Calls Tryz.prog 84 #[.pointer (some ⟨s,0,none⟩)] w (CopySt w (C.map Ent.abs) d):=by
 have SS:=Lib.hid S;have hsl:=S.low s S.foot;obtain ⟨hFb,_⟩:=S.mp.isMap;have hbl:=S.low b hFb;have hown:w.ownsMap Tryz.prog 3 Rh b C.length (dat C):=by
  rcases S.mp with ⟨e,_⟩ | ⟨b',e,_,h⟩
  ·cases e
  ·injection e with e
   injection e with e;subst e;exact h
 have hmm:=@run_makeMap Tryz.prog;have e1:(w.alloc (.map #[] 0)).heap.size=w.heap.size+1:=by simp
 have B1:Below w.heap.size w (w.alloc (.map #[] 0)):=(Below.refl w.heap.size w).alloc (Nat.le_refl _) _;have c1:(w.alloc (.map #[] 0)).cell? ⟨s,1,none⟩=some (.int .i64 d):=row_cell (S.below B1).row 1;have S2:=Lib.hid (copy0 w d);have e2:((w.alloc (.map #[] 0)).alloc (.cells #[.map (some w.heap.size),.int .i64 d] 178)).heap.size=w.heap.size+2:=by simp
 have B2:Below w.heap.size w ((w.alloc (.map #[] 0)).alloc (.cells #[.map (some w.heap.size),.int .i64 d] 178)):=B1.alloc B1.size _;have c0:((w.alloc (.map #[] 0)).alloc (.cells #[.map (some w.heap.size),.int .i64 d] 178)).cell? ⟨s,0,none⟩=some (.map (some b)):=row_cell (S.below B2).row 0;have own2:((w.alloc (.map #[] 0)).alloc (.cells #[.map (some w.heap.size),.int .i64 d] 178)).ownsMap Tryz.prog 3 Rh b C.length (dat C):=hown.kept (grown_of B2) (by simp);clear S hown
 go_enter Tryz.func84,Tryz.ntmps84
 go_wp2_with (first
  | (at_range;refine wpList_range_own _ rfl _ 176 rfl 3 70 law Tryz.underlying176 _ b C.length _ rfl own2 ?_;intro w0 hrg0 hg0 hs0)
  | fail)
 go_frame
 clear c0 c1 hmm;rw [e2] at hrg0 hs0 ⊢
 go_loopw [4] (fun _ wr=>∃ left cnt F2 C2,Hid (CI w b C d wr left cnt F2 C2)) (fun _ wr=>wr.rangeLeft b (w.heap.size+2))
 case atStart =>
  have B3:Below ((w.alloc (.map #[] 0)).alloc (.cells #[.map (some w.heap.size),.int .i64 d] 178)).heap.size ((w.alloc (.map #[] 0)).alloc (.cells #[.map (some w.heap.size),.int .i64 d] 178)) w0:=(Below.refl _ _).grown hg0 (Nat.le_refl _) (fun j hj=>by cases hj);refine ⟨_,_,_,[],⟨hrg0,fun kl h=>h,S2.out.below B3,fun e=>⟨nofun,fun ⟨h1,h2⟩=>?_⟩,fun k hk=>by rcases hk with rfl | rfl <;> omega,fun hk=>by rcases hk with hk | hk <;> omega,B2.trans (B3.mono (by omega))⟩⟩;obtain ⟨c,hc,rfl⟩:=List.mem_map.1 h1;rw [dat_has,lb,Option.isSome_eq_false_iff,Option.isNone_iff_eq_none] at h2;exact absurd rfl (look_none.1 h2 c hc)
 case round =>
  obtain ⟨left,cnt,F2,C2,I⟩:=hrel;have hrg:=I.out.rg;clear hrg0 hg0 hs0 own2 B1 B2 e1 e2 S2
  go_wp2_with (first
   | (at_next;refine wpList_next_ranges _ rfl _ rfl 3 law Rh (Value.int .i64) id (fun key kl hkey=>by obtain ⟨x,rfl,_⟩:=Maps.keyOf_int_inv Tryz.underlying3 hkey;exact ⟨x,rfl⟩) (fun v y _=>⟨v,rfl⟩) b (w.heap.size+2) C.length _ _ _ rfl hrg ?_ ?_)
   | fail)
  ·intro hc0 hl0
   clear hrg;have RES:Hid (CopySt w (C.map Ent.abs) d (.returned (.pointer (some ⟨w.heap.size+1,0,none⟩))) wr):=by
    have e:C2.map Ent.abs=C.map Ent.abs:=srt_eq I.out.st.ok.srt SS.out.ok.srt fun e=>(I.out.mem e).trans ⟨fun h=>h.1,fun h=>⟨h,hl0 _⟩⟩;exact ⟨_,F2,rfl,⟨_,C2,I.out.st,e⟩,I.out.lo,I.out.bel⟩
   go_wp2
   go_ret
   exact RES.out
  ·intro x v kl y y2 w1 cnt1 hkey hlk hv hat hrg1 hlt hg1 hs1 hen
   obtain ⟨x',ex,rfl,hwx⟩:=Maps.keyOf_int_inv Tryz.underlying3 hkey
   cases ex
   have hh:=I.out.has _ hlk;rw [dat_has] at hh;obtain ⟨c,hc⟩:∃ c,look Ent.n x C=some c:=Option.isSome_iff_exists.1 hh;have hv':v=c.file:=by
    have h1:=hat (.held (file 0 (.slice none 0 0)));rw [dat_at,lv_some hc] at h1;obtain ⟨h2,_⟩:DataW.held v=y∧[]=y2:=by simpa [Rh] using hv
    have h3:=h1.trans h2.symm;injection h3 with h3;exact h3.symm
   subst hv';obtain ⟨fo,fg,fl,fn,fr,fm⟩:=SS.out.find hc;have hsb:w.heap.size+2 < w1.heap.size:=by have:=hrg.lt;omega
   have B1:Below w.heap.size w w1:=I.out.bel.grown hg1 I.out.bel.size (fun j hj=>by cases hj;omega);have O1:Only (fun k=>k=w.heap.size+2) wr w1:=Only.grown rfl hg1;have S1:=Lib.hid (I.out.st.only (G:=fun k=>k=w.heap.size+2) (fun k hk (e:k=w.heap.size+2)=>I.out.off (e ▸ hk)) O1);have R1:=Lib.hid (((SS.out.below B1).own c fm).rd);have BB:=Lib.hid B1;have RG:=Lib.hid hrg1;have RG0:=Lib.hid hrg;have FF:=Lib.hid (And.intro fo (And.intro fg (And.intro fl (And.intro fr hlt))));have HM:=Lib.hid (And.intro hlk hwx);clear hkey hh hat hv hc fo fg fl hrg1 hg1 hs1 B1 O1 fr hrg hlt hlk;obtain ⟨cn,cp,ca,cc,cl⟩:=c;simp only at fn;subst fn;unfold Ent.sl at R1;simp only at R1;have hq:cl.length≤260:=by have:cl.length≤256:=FF.out.2.1.2.2.2.1;omega
   unfold Ent.file Fl.file Ent.sl at hen ⊢;simp only at hen ⊢;go_upto_region 7 with fail;have H1:=heap_alloc_new w1 (.cells #[.int .i64 cp,.slice ca cl.length cc] 70);have hb1:=below_new1 w1 (.cells #[.int .i64 cp,.slice ca cl.length cc] 70);have hz2:(w1.alloc (.cells #[.int .i64 cp,.slice ca cl.length cc] 70)).heap.size=w1.heap.size+1:=by simp
   have W2g:Below w1.heap.size w1 (w1.alloc (.cells #[.int .i64 cp,.slice ca cl.length cc] 70)).drew:=hb1.trans ((Below.refl w1.heap.size _).drew);have S2:=Lib.hid (S1.out.below W2g);have C0:AddC (w.heap.size+1) (.map (some w.heap.size)) d w1.heap.size cp (.slice ca cl.length cc) (w1.alloc (.cells #[.int .i64 cp,.slice ca cl.length cc] 70)).drew:=⟨S2.out.row,H1⟩;have WB:=Lib.hid W2g;have hsz:w1.heap.size+1=(w1.alloc (.cells #[.int .i64 cp,.slice ca cl.length cc] 70)).drew.heap.size:=hz2.symm;clear H1 hb1 hz2 W2g hen;generalize (w1.alloc (.cells #[.int .i64 cp,.slice ca cl.length cc] 70))=W2 at *;have k0:=Sc.cell_in (C:=AddC (w.heap.size+1) (.map (some w.heap.size)) d w1.heap.size cp (.slice ca cl.length cc)) (a:=⟨w.heap.size+1,0,none⟩) (fun W' h=>row_cell h.row 0);have r0:=Sc.cell_in (C:=AddC (w.heap.size+1) (.map (some w.heap.size)) d w1.heap.size cp (.slice ca cl.length cc)) (a:=⟨w1.heap.size,0,none⟩) (fun W' h=>row_cell h.box 0);have r1:=Sc.cell_in (C:=AddC (w.heap.size+1) (.map (some w.heap.size)) d w1.heap.size cp (.slice ca cl.length cc)) (a:=⟨w1.heap.size,1,none⟩) (fun W' h=>row_cell h.box 1);have ne:Nonempty (Sc.In (AddC (w.heap.size+1) (.map (some w.heap.size)) d w1.heap.size cp (.slice ca cl.length cc))):=⟨⟨_,C0⟩⟩;refine Sc.start (AddC (w.heap.size+1) (.map (some w.heap.size)) d w1.heap.size cp (.slice ca cl.length cc)) [(false,0),(false,1),(false,2),(false,3),(false,4),(false,5),(true,6),(true,7)] (by kernel_rfl) (by kernel_rfl) (by kernel_rfl) C0 ?_;dsimp only [Sd.picks,List.getElem?_cons_succ,List.getElem?_cons_zero]
   repeat (refine Sd.lit ?_;quiet_step (fail);refine wpQuiet_nil ?_)
   clear k0 r0 r1;generalize W2.drew=Wd at *;refine Sd.call (by rfl) (fun K hK=>?_);have CA:=copied_any Wd cp (.slice ca cl.length cc) cl (R1.out.below WB.out) hq;unfold file at CA;go_simp;refine CA.mono ?_;rintro e w3 ⟨u,rfl,o3,b3⟩;have S3:=S2.out.below b3;have W3:=Lib.hid (WB.out.trans (b3.mono (by omega)));have G3:w3.heap[w1.heap.size]? = _:=(b3.block _ (by omega)).trans C0.box;refine hK _ _ (Sc.Cl.of ⟨S3.row,G3⟩) ?_;have O3:=Lib.hid o3;have M3:=Lib.hid S3.mp;have T3:=Lib.hid S3;have RR3:=Lib.hid S3.row;have GG3:=Lib.hid G3;have BD:=Lib.hid b3;clear hK K CA b3 o3 S3 G3 C0;obtain ⟨au,cu,rfl,_⟩:=O3.out.slice;refine Sd.call (by rfl) (fun K hK=>?_);have hl2:=T3.out.len;refine wp_put _ _ _ rfl rfl M3.out ⟨cn,cp,au,cu,cl⟩ rfl rfl HM.out.2 (by unfold maxLen;omega) (fun w4 m4 g4=>?_);have hws:=lt_of_block RR3.out;have hwg:=lt_of_block GG3.out;have row4:=(g4.block (w.heap.size+1) hws (by intro e;injection e with e;omega)).trans RR3.out;refine hK _ _ (Sc.Cl.of ⟨row4,(g4.block w1.heap.size hwg (by intro e;injection e with e;omega)).trans GG3.out⟩) ?_;have NEW:∃ F4 C4,Hid (CI w b C d w4 (fun z=>left z && !z.sameKey (.int .i64 cn)) cnt1 F4 C4):=by
    obtain ⟨P1,P2⟩:=S2.out.place (c:=⟨cn,cp,au,cu,cl⟩) BD.out g4 m4 O3.out FF.out.2.2.2.1 FF.out.2.1 FF.out.2.2.1;obtain ⟨C4,P3,P4⟩:=P1.as row4;have rg3:=RG.out.kept (grown_of W3.out) (by simp) (by simp);have rg4:=rg3.kept g4 (fun e=>by have:=Option.some.inj e;omega) (fun e=>by have:=Option.some.inj e;omega);have hB1:=hsb;have hb3:=W3.out.size;refine ⟨_,C4,⟨rg4,fun kl h=>I.out.has kl (by simp at h;exact h.1),P3,fun e=>?_,fun k hk=>?_,fun hk=>?_,(BB.out.trans (W3.out.mono (by omega))).grown g4 (by omega) (fun j hj=>by cases hj;exact Nat.le_refl _)⟩⟩
    ·rw [P4,abs_put,mem_put,I.out.mem]
     show _↔_∧(left (.int .i64 e.1) && !(Lit.int .i64 e.1).sameKey (.int .i64 cn))=false
     have hin:(cn,cp,cl)∈C.map Ent.abs:=List.mem_map.2 ⟨_,fm,rfl⟩;have hsk:(Lit.int .i64 e.1).sameKey (.int .i64 cn)=decide (e.1=cn):=by simp [Lit.sameKey]
     rw [hsk]
     constructor
     ·rintro (rfl | ⟨⟨h1,h2⟩,h3⟩)
      ·exact ⟨hin,by simp [Ent.abs]⟩
      ·exact ⟨h1,by rw [h2];rfl⟩
     ·rintro ⟨h1,h2⟩
      by_cases he:e.1=cn
      ·left
       have q1:=look_at SS.out.ok.srt h1;have q2:=look_at SS.out.ok.srt hin;have:look key (key e) (C.map Ent.abs)=look key (key (cn,cp,cl)) (C.map Ent.abs):=by rw [show key e=key (cn,cp,cl) from he]
       exact Option.some.inj (q1.symm.trans (this.trans q2))
      ·right
       simp [he] at h2
       exact ⟨⟨h1,h2⟩,he⟩
    ·rcases hk with hk | ⟨hk,_⟩
     ·exact I.out.lo k hk
     ·omega
    ·rcases hk with hk | ⟨hk,_⟩
     ·exact I.out.off hk
     ·omega
   clear hK K m4 g4 row4;refine Sd.done ?_;obtain ⟨F4,C4,NEW⟩:=NEW;have MS:Hid (w4.rangeLeft b (w.heap.size+2) < wr.rangeLeft b (w.heap.size+2)):=by
    show _ < _
    rw [NEW.out.rg.left_eq,RG0.out.left_eq];exact FF.out.2.2.2.2
   go_wp2
   go_roundw
   case rel=>exact ⟨_,_,_,_,NEW⟩
   case measure=>exact MS.out
set_option maxHeartbeats 1000000 in
theorem copy_none {w:World} {s:Nat} {F:Nat→Prop} {C:List Ent} {d:Int} (S:Sto w s F (.map none) C d):Calls Tryz.prog 84 #[.pointer (some ⟨s,0,none⟩)] w (CopySt w (C.map Ent.abs) d):=by
 obtain rfl:C = []:=by
  rcases S.mp with ⟨_,e⟩ | ⟨b,e,_⟩
  ·exact e
  ·cases e
 have hmm:=@run_makeMap Tryz.prog;have e1:(w.alloc (.map #[] 0)).heap.size=w.heap.size+1:=by simp
 have B1:Below w.heap.size w (w.alloc (.map #[] 0)):=(Below.refl w.heap.size w).alloc (Nat.le_refl _) _;have c1:(w.alloc (.map #[] 0)).cell? ⟨s,1,none⟩=some (.int .i64 d):=row_cell (S.below B1).row 1;have S2:=copy0 w d;have e2:((w.alloc (.map #[] 0)).alloc (.cells #[.map (some w.heap.size),.int .i64 d] 178)).heap.size=w.heap.size+2:=by simp
 have B2:Below w.heap.size w ((w.alloc (.map #[] 0)).alloc (.cells #[.map (some w.heap.size),.int .i64 d] 178)):=B1.alloc B1.size _;have c0:((w.alloc (.map #[] 0)).alloc (.cells #[.map (some w.heap.size),.int .i64 d] 178)).cell? ⟨s,0,none⟩=some (.map none):=row_cell (S.below B2).row 0;have hrg:=run_range_nilMap (P:=Tryz.prog) ((w.alloc (.map #[] 0)).alloc (.cells #[.map (some w.heap.size),.int .i64 d] 178)) 176 3 70 Tryz.underlying176;have hnx:∀ ty,(Instr.next (.pointer (some ⟨((w.alloc (.map #[] 0)).alloc (.cells #[.map (some w.heap.size),.int .i64 d] 178)).heap.size,0,none⟩)) false ty).run Tryz.prog (((w.alloc (.map #[] 0)).alloc (.cells #[.map (some w.heap.size),.int .i64 d] 178)).alloc (.mapIter none 0 #[] 0))=_:=fun ty=>run_next_nilMap _ ty 0 0 #[];have RES:Hid (CopySt w (([]:List Ent).map Ent.abs) d (.returned (.pointer (some ⟨w.heap.size+1,0,none⟩))) (((w.alloc (.map #[] 0)).alloc (.cells #[.map (some w.heap.size),.int .i64 d] 178)).alloc (.mapIter none 0 #[] 0))) :=
  ⟨_,_,rfl,⟨_,[],S2.below ((Below.refl _ _).alloc (Nat.le_refl _) _),rfl⟩,fun k hk=>by rcases hk with rfl | rfl <;> omega,B2.alloc B2.size _⟩
 rw [e2] at hrg hnx;clear S S2 B1 B2
 go_enter Tryz.func84,Tryz.ntmps84
 go_wp2;refine wp_loop_rounds 1 ?_;rw [rounds_succ];go_wp2
 go_ret
 exact RES.out
theorem copy_any {w:World} {s:Nat} {F:Nat→Prop} {A:Abs} {d:Int} (S:St w s F A d):Calls Tryz.prog 84 #[.pointer (some ⟨s,0,none⟩)] w (CopySt w A d):=by
 obtain ⟨m,C,h,rfl⟩:=S
 rcases h.mp with ⟨rfl,_⟩ | ⟨b,rfl,_⟩
 ·exact copy_none h
 ·exact copy_some h
end Go.Proofs.YtljnkaodhfnbbaaGreatDoor.Fs
namespace Go.Proofs.YtljnkaodhfnbbaaGreatDoor.Fs
open Go.RowKit Go.Maps
open Fl (R4 z4 K4 rec4 rat goodF goodFB okR okL file arr4 sto4 sto4_row sto4_below row_cell row_frozen at4)
open Rw (Rd Ow At)
theorem at3 {w:World} {b off:Nat} {L:List Ent} (h:At E3 w b off L) {i:Nat} {c:Ent} (hc:L[i]? = some c) :
 w.cell? ⟨b,off+i * 3,none⟩=some (.int .i64 c.n)∧w.cell? ⟨b,off+i * 3+1,none⟩=some (.int .i64 c.p)∧w.cell? ⟨b,off+i * 3+2,none⟩=some c.sl:=by
 have hi:=(List.getElem?_eq_some_iff.1 hc).1;have e:L.getD i E3.dft=c:=by rw [List.getD_eq_getElem?_getD,hc];rfl
 exact ⟨h i hi 0 _ (by rw [e];rfl),h i hi 1 _ (by rw [e];rfl),h i hi 2 _ (by rw [e];rfl)⟩
end Go.Proofs.YtljnkaodhfnbbaaGreatDoor.Fs
namespace Go.Proofs.YtljnkaodhfnbbaaGreatDoor.Fs
open Go.RowKit Go.Maps
open Fl (R4 z4 K4 rec4 rat goodF goodFB okR okL file arr4 sto4 sto4_row sto4_below sto4_own sto4_other sto4_off own4 row_cell row_frozen at4 infoR)
open Rw (Rd Ow At)
attribute [local irreducible] Sd.wpSd wpQuiet Sf.wpSf
structure RC (r:Nat) (v:Value) (d:Int) (g:Nat) (p:Int) (u:Value) (W:World):Prop where
 row:W.heap[r]? = some (.cells #[v,.int .i64 d] 50 (0,0))
 box:W.heap[g]? = some (.cells #[.int .i64 p,u] 70 (0,0))
end Go.Proofs.YtljnkaodhfnbbaaGreatDoor.Fs
namespace Go.Proofs.YtljnkaodhfnbbaaGreatDoor.Fs
open Go.RowKit Go.Maps
open Fl (R4 z4 K4 rec4 rat goodF goodFB okR okL file arr4 row_cell row_frozen)
open Rw (Rd Ow At)
attribute [local irreducible] Sd.wpSd wpQuiet Sf.wpSf Sz.wpSz
structure AC (r:Nat) (v:Value) (d:Int) (g:Nat) (p:Int) (u:Value) (W:World):Prop where
 row:W.heap[r]? = some (.cells #[v,.int .i64 d] 50 (0,0))
 box:W.heap[g]? = some (.cells #[.int .i64 p,u] 70 (0,0))
end Go.Proofs.YtljnkaodhfnbbaaGreatDoor.Fs
namespace Go.Proofs.YtljnkaodhfnbbaaGreatDoor.Fs
open Go.RowKit Go.Maps
open Fl (R4 z4 K4 rec4 rat file sameF ret_bool)
open Rw (Rd Ow At)
attribute [local irreducible] wpQuiet
instance decR4:DecidableEq R4:=@instDecidableEqProd _ _ _ (@instDecidableEqProd _ _ _ (@instDecidableEqProd _ _ _ _))
instance decFil:DecidableEq Fil:=@instDecidableEqProd _ _ _ (@instDecidableEqProd _ _ _ (@instDecidableEqList _ decR4))
instance decAbs (A B:Abs):Decidable (A=B):=@instDecidableEqList _ decFil A B
end Go.Proofs.YtljnkaodhfnbbaaGreatDoor.Fs
namespace Go.Proofs.YtljnkaodhfnbbaaGreatDoor.Ua
open Go.RowKit
def arr (F:Nat→Bool):Array Value:=#[.bool (F 0),.bool (F 1),.bool (F 2),.bool (F 3),.bool (F 4),.bool (F 5),.bool (F 6),.bool (F 7),.bool (F 8),.bool (F 9),.bool (F 10)]
theorem arr_size (F:Nat→Bool):(arr F).size=11:=rfl
theorem arr_one (F:Nat→Bool):(arr F).all (·.oneCell')=true:=by simp [arr,Value.oneCell']
theorem arr_get (F:Nat→Bool) (k:Nat) (h:k < 11):(arr F)[k]? = some (.bool (F k)):=by
 rcases (by omega:k=0∨k=1∨k=2∨k=3∨k=4∨k=5∨k=6∨k=7∨k=8∨k=9∨k=10) with rfl | rfl | rfl | rfl | rfl | rfl | rfl | rfl | rfl | rfl | rfl <;> rfl
theorem arr_set (F:Nat→Bool) (k:Nat) (h:k < 11) (x:Bool):(arr F).setIfInBounds k (.bool x)=arr (upd F k x):=by
 rcases (by omega:k=0∨k=1∨k=2∨k=3∨k=4∨k=5∨k=6∨k=7∨k=8∨k=9∨k=10) with rfl | rfl | rfl | rfl | rfl | rfl | rfl | rfl | rfl | rfl | rfl <;> rfl
theorem arr_congr {F G:Nat→Bool} (h:∀ i,i < 11→F i=G i):arr F=arr G:=by
 unfold arr;rw [h 0 (by omega),h 1 (by omega),h 2 (by omega),h 3 (by omega),h 4 (by omega),h 5 (by omega),h 6 (by omega),h 7 (by omega),h 8 (by omega),h 9 (by omega),h 10 (by omega)]
def Row (w:World) (g:Nat) (F:Nat→Bool):Prop:=w.heap[g]? = some (.cells (arr F) 113 (0,0))
section
variable {w w':World} {g:Nat} {F:Nat→Bool}
theorem Row.lt (h:Row w g F):g < w.heap.size:=lt_of_block h
theorem Row.cell (h:Row w g F) (k:Nat) (hk:k < 11):w.cell? ⟨g,k,none⟩=some (.bool (F k)):=by rw [cell_of_row w g k _ _ (0,0) h,arr_get F k hk]
theorem Row.frozen (h:Row w g F) (k:Nat):w.frozen? ⟨g,k,none⟩=false:=frozen_of_row w g k _ _ h
theorem Row.new (w:World) (F:Nat→Bool):Row (w.alloc (.cells (arr F) 113)) w.heap.size F:=heap_alloc_new w _
theorem Row.draw (h:Row w g F) (n:Nat):Row (w.drewN n) g F:=h
theorem Row.alloc (h:Row w g F) (o:Obj):Row (w.alloc o) g F:=(Below.heap_alloc w o g h.lt).trans h
theorem Row.set_ (h:Row w g F) (k:Nat) (hk:k < 11) (x:Bool):Row (w.setCell ⟨g,k,none⟩ (.bool x)) g (upd F k x):=by
 unfold Row at h ⊢;rw [heap_setCell_same w g k _ _ _ h,arr_set F k hk x]
theorem Row.far (h:Row w g F) {p:Addr} (hp:g≠p.block) (u:Value):Row (w.setCell p u) g F:=(Below.heap_setCell w p u g hp).trans h
theorem Row.row (h:Row w g F) (G:Nat→Bool):Row (w.setRow g (arr G)) g G:=setRow_heap w g _ _ _ _ h
theorem Row.below {B:Nat} (h:Row w g F) (hb:Below B w w') (hg:g < B):Row w' g F:=(hb.block g hg).trans h
theorem Row.to {G:Nat→Bool} (h:Row w g F) (e:∀ i,i < 11→F i=G i):Row w g G:=by unfold Row at *;rw [h,arr_congr e]
theorem Row.load (h:Row w g F):(loadVar 113 ⟨g,0,none⟩).run Tryz.prog w = .ok (.agg (arr F)) w :=
 run_loadVar_row w g _ _ (arr F) (0,0) _ h Tryz.underlying113 rfl (by rw [arr_size];kernel_rfl)
end
theorem info:(Tryz.prog.info? 113).map (·.size)=some 11:=by kernel_rfl
theorem info_of (F:Nat→Bool):(Tryz.prog.info? 113).map (·.size)=some (arr F).size:=by rw [arr_size];exact info
theorem load_frame {ops:Array Oper} {rest:List Oper} {o:Oper} {a:Act} {w:World} {Q:Exit→Act→World→Prop} (hgd:o.guard=none) (x:Operand) (ho:o.op = .load 113 x)
 (g:Nat) (F:Nat→Bool) (hx:a.eval x = .pointer (some ⟨g,0,none⟩)) (hrow:Row w g F) (h:wpList Tryz.prog ops Q rest (a.put o.dst (.agg (arr F))) w):wpList Tryz.prog ops Q (o :: rest) a w :=
 wpList_load_row hgd _ x ho g hx _ _ _ _ hrow Tryz.underlying113 rfl (info_of _) h
theorem store_frame {ops:Array Oper} {rest:List Oper} {o:Oper} {a:Act} {w:World} {Q:Exit→Act→World→Prop} (hgd:o.guard=none) (x y:Operand) (ho:o.op = .store 113 x y)
 (g:Nat) (F G:Nat→Bool) (hx:a.eval x = .pointer (some ⟨g,0,none⟩)) (hy:a.eval y = .agg (arr F)) (hrow:Row w g G) (h:wpList Tryz.prog ops Q rest (a.put o.dst undef) (w.setRow g (arr F))):wpList Tryz.prog ops Q (o :: rest) a w :=
 wpList_store_row hgd _ x y ho g _ hx hy _ _ hrow (info_of _) rfl (arr_one _) h
theorem store_new {ops:Array Oper} {rest:List Oper} {o:Oper} {a:Act} {w:World} {Q:Exit→Act→World→Prop} (hgd:o.guard=none) (x y:Operand) (ho:o.op = .store 113 x y)
 (F:Nat→Bool) (hx:a.eval x = .pointer (some ⟨w.heap.size,0,none⟩)) (hy:a.eval y = .agg (arr F)) (h:wpList Tryz.prog ops Q rest (a.put o.dst undef) (w.alloc (.cells (arr F) 113))) :
 wpList Tryz.prog ops Q (o :: rest) a (w.alloc (.cells #[.bool false,.bool false,.bool false,.bool false,.bool false,.bool false,.bool false,.bool false,.bool false,.bool false,.bool false] 113)) :=
 store_frame hgd x y ho _ F (fun _=>false) hx hy (Row.new w (fun _=>false)) (by rw [World.setRow_alloc_new];exact h)
theorem copy_frame {ops:Array Oper} {rest:List Oper} {o o':Oper} {a:Act} {w:World} {Q:Exit→Act→World→Prop} (hg:o.guard=none) (hg':o'.guard=none) (x y:Operand) (d:Tmp) (ho:o.op = .load 113 x) (hd:o.dst=some d) (ho':o'.op = .store 113 y (.tmp d))
 (g g':Nat) (F G:Nat→Bool) (hx:a.eval x = .pointer (some ⟨g,0,none⟩)) (hy:(a.put (some d) (.agg (arr F))).eval y = .pointer (some ⟨g',0,none⟩)) (hz:(a.put (some d) (.agg (arr F))).eval (.tmp d) = .agg (arr F)) (hrow:Row w g F) (hrow':Row w g' G)
 (h:wpList Tryz.prog ops Q rest ((a.put (some d) (.agg (arr F))).put o'.dst undef) (w.setRow g' (arr F))):wpList Tryz.prog ops Q (o :: o' :: rest) a w :=
 load_frame hg x ho g F hx hrow (by rw [hd];exact store_frame hg' y (.tmp d) ho' g' F G hy hz hrow' h)
theorem results_frame {fn:Func} {p:Tmp} (h:fn.results=#[.cell p 113]) (tmps:Array Value) (w:World) (g:Nat) (F:Nat→Bool) (hp:tmps.getD p undef = .pointer (some ⟨g,0,none⟩)) (hrow:Row w g F) :
 (results fn tmps).run Tryz.prog w = .ok (.agg (arr F)) w:=results_cell_row h tmps w g _ _ _ _ hp hrow Tryz.underlying113 rfl (info_of _)
theorem below_setRow {B:Nat} {a w:World} (h:Below B a w) (g:Nat) (cs:Array Value) (hg:B≤g):Below B a (w.setRow g cs) :=
 ⟨h.os,h.tape,h.output,by rw [size_setRow];exact h.size,fun k hk=>(setRow_other w g k cs (by omega)).trans (h.block k hk)⟩
theorem ret_bool {a b:Bool} (h:a=b):Ending.returned (.bool a) = .returned (.bool b):=by rw [h]
theorem ret_int {k:IntKind} {a b:Int} (h:a=b):Ending.returned (.int k a) = .returned (.int k b):=by rw [h]
theorem ret_arr {F G:Nat→Bool} (h:∀ i,i < 11→F i=G i):Ending.returned (.agg (arr F)) = .returned (.agg (arr G)):=by rw [arr_congr h]
end Go.Proofs.YtljnkaodhfnbbaaGreatDoor.Ua
namespace Go.Proofs.YtljnkaodhfnbbaaGreatDoor.Ck
open Go.RowKit
open Ro (E5 z5 eat ent K5 at5)
open Rw (Rd Ow At)
abbrev Hd:=Option Addr×Nat×Nat
def zh:Hd:=(none,0,0)
def sl (h:Hd):Value:=.slice h.1 h.2.1 h.2.2
def KS:Rw.Kind Hd:=⟨fun h=>[sl h],1,by decide,fun _=>rfl,fun _ u h=>by simp at h;subst h;rfl,zh⟩
def RdL (w:World) (v:Value) (L:LL):Prop:=∃ a cap,v = .slice a L.length cap∧(L.length≤cap∧(a=none→cap=0))∧cap≤maxLen ∧
 (0 < L.length→∃ b off,a=some ⟨b,off,none⟩∧∀ i,i < L.length→∃ u,w.cell? ⟨b,off+i,none⟩=some u∧Rd K5 w u (lat L i))
section
variable {w w':World} {v:Value} {L:LL}
theorem RdL.below (h:RdL w v L) (hb:Below w.heap.size w w'):RdL w' v L:=by
 obtain ⟨a,cap,e,h1,h2,h3⟩:=h;refine ⟨a,cap,e,h1,h2,fun hp=>?_⟩;obtain ⟨b,off,ea,hA⟩:=h3 hp;refine ⟨b,off,ea,fun i hi=>?_⟩;obtain ⟨u,c,r⟩:=hA i hi;exact ⟨u,(hb.cell (World.block_lt_of_cell? _ _ c)).trans c,r.below hb⟩
theorem RdL.slice (h:RdL w v L):∃ a cap,v = .slice a L.length cap∧cap≤maxLen:=by
 obtain ⟨a,cap,e,_,h2,_⟩:=h;exact ⟨a,cap,e,h2⟩
theorem RdL.one (h:RdL w v L) {k:Nat} (hk:k < L.length):∃ b off cap a' cap',v = .slice (some ⟨b,off,none⟩) L.length cap∧w.cell? ⟨b,off+k,none⟩=some (.slice a' (lat L k).length cap')∧cap'≤maxLen ∧
 (0 < (lat L k).length→∃ b' off',a'=some ⟨b',off',none⟩∧At K5 w b' off' (lat L k)):=by
 obtain ⟨a,cap,e,h1,h2,h3⟩:=h;obtain ⟨b,off,rfl,hA⟩:=h3 (by omega);obtain ⟨u,c,a',cap',rfl,g1,g2,g3⟩:=hA k hk;exact ⟨b,off,cap,a',cap',e,c,g2,g3⟩
theorem RdL.rd (h:RdL w v L) {k:Nat} (hk:k < L.length) {b off cap:Nat} (e:v = .slice (some ⟨b,off,none⟩) L.length cap) {u:Value} (c:w.cell? ⟨b,off+k,none⟩=some u):Rd K5 w u (lat L k):=by
 obtain ⟨a,cap',e',h1,h2,h3⟩:=h;obtain ⟨b',off',rfl,hA⟩:=h3 (by omega);rw [e] at e';injection e' with e1 _ _;injection e1 with e1;injection e1 with e1 e2 _;subst e1 e2;obtain ⟨u',c',r⟩:=hA k hk;rw [c] at c';injection c' with c';subst c';exact r
theorem RdL.take {a:Option Addr} {n cap:Nat} (h:RdL w (.slice a n cap) L) {k:Nat} (hk:k≤L.length):RdL w (.slice a k cap) (L.take k):=by
 obtain ⟨a',cap',e,h1,h2,h3⟩:=h;injection e with e1 e2 e3;subst e1 e2 e3;have hl:(L.take k).length=k:=by rw [List.length_take];omega
 refine ⟨a,cap,by rw [hl],⟨by omega,h1.2⟩,h2,fun hp=>?_⟩;rw [hl] at hp;obtain ⟨b,off,rfl,hA⟩:=h3 (by omega);refine ⟨b,off,rfl,fun i hi=>?_⟩;rw [hl] at hi;rw [lat_take hi];exact hA i (by omega)
theorem rdl_of {hs:List Hd} (h:Rd KS w v hs) (hl:hs.length=L.length) (each:∀ i,i < L.length→Rd K5 w (sl (hs.getD i zh)) (lat L i)):RdL w v L:=by
 obtain ⟨a,cap,e,h1,h2,h3⟩:=h;rw [hl] at e h1 h3;refine ⟨a,cap,e,h1,h2,fun hp=>?_⟩;obtain ⟨b,off,ea,hA⟩:=h3 hp;refine ⟨b,off,ea,fun i hi=>⟨_,?_,each i hi⟩⟩;have c:=hA i (by rw [hl];exact hi) 0 _ rfl;simp only [KS,Nat.mul_one,Nat.add_zero] at c;exact c
end
def ar (F:Nat→Int):Array Value:=#[.int .i64 (F 0),.int .i64 (F 1),.int .i64 (F 2),.int .i64 (F 3),.int .i64 (F 4),.int .i64 (F 5),.int .i64 (F 6),.int .i64 (F 7),.int .i64 (F 8),.int .i64 (F 9),.int .i64 (F 10),.int .i64 (F 11),.int .i64 (F 12),.int .i64 (F 13),.int .i64 (F 14),.int .i64 (F 15),.int .i64 (F 16)]
def upI (F:Nat→Int) (k:Nat) (x:Int) (i:Nat):Int:=if i=k then x else F i
theorem ar_size (F:Nat→Int):(ar F).size=17:=rfl
theorem ar_one (F:Nat→Int):(ar F).all (·.oneCell')=true:=by simp [ar,Value.oneCell']
theorem lt17 {k:Nat} (h:k < 17):k=0∨k=1∨k=2∨k=3∨k=4∨k=5∨k=6∨k=7∨k=8∨k=9∨k=10∨k=11∨k=12∨k=13∨k=14∨k=15∨k=16:=by omega
theorem ar_get (F:Nat→Int) (k:Nat) (h:k < 17):(ar F)[k]? = some (.int .i64 (F k)):=by
 rcases lt17 h with rfl | rfl | rfl | rfl | rfl | rfl | rfl | rfl | rfl | rfl | rfl | rfl | rfl | rfl | rfl | rfl | rfl <;> rfl
theorem ar_set (F:Nat→Int) (k:Nat) (h:k < 17) (x:Int):(ar F).setIfInBounds k (.int .i64 x)=ar (upI F k x):=by
 rcases lt17 h with rfl | rfl | rfl | rfl | rfl | rfl | rfl | rfl | rfl | rfl | rfl | rfl | rfl | rfl | rfl | rfl | rfl <;> rfl
theorem ar_congr {F G:Nat→Int} (h:∀ i,i < 17→F i=G i):ar F=ar G:=by
 unfold ar;rw [h 0 (by omega),h 1 (by omega),h 2 (by omega),h 3 (by omega),h 4 (by omega),h 5 (by omega),h 6 (by omega),h 7 (by omega),h 8 (by omega),h 9 (by omega),h 10 (by omega),h 11 (by omega),h 12 (by omega),h 13 (by omega),h 14 (by omega),h 15 (by omega),h 16 (by omega)]
def RowI (w:World) (g:Nat) (F:Nat→Int):Prop:=w.heap[g]? = some (.cells (ar F) 348 (0,0))
section
variable {w w':World} {g:Nat} {F:Nat→Int}
theorem RowI.lt (h:RowI w g F):g < w.heap.size:=lt_of_block h
theorem RowI.cell (h:RowI w g F) (k:Nat) (hk:k < 17):w.cell? ⟨g,k,none⟩=some (.int .i64 (F k)):=by rw [cell_of_row w g k _ _ (0,0) h,ar_get F k hk]
theorem RowI.frozen (h:RowI w g F) (k:Nat):w.frozen? ⟨g,k,none⟩=false:=frozen_of_row w g k _ _ h
theorem RowI.new (w:World) (F:Nat→Int):RowI (w.alloc (.cells (ar F) 348)) w.heap.size F:=heap_alloc_new w _
theorem RowI.set_ (h:RowI w g F) (k:Nat) (hk:k < 17) (x:Int):RowI (w.setCell ⟨g,k,none⟩ (.int .i64 x)) g (upI F k x):=by
 unfold RowI at h ⊢;rw [heap_setCell_same w g k _ _ _ h,ar_set F k hk x]
theorem RowI.far (h:RowI w g F) {p:Addr} (hp:g≠p.block) (u:Value):RowI (w.setCell p u) g F:=(Below.heap_setCell w p u g hp).trans h
theorem RowI.row (h:RowI w g F) (G:Nat→Int):RowI (w.setRow g (ar G)) g G:=setRow_heap w g _ _ _ _ h
theorem RowI.below {B:Nat} (h:RowI w g F) (hb:Below B w w') (hg:g < B):RowI w' g F:=(hb.block g hg).trans h
theorem RowI.to {G:Nat→Int} (h:RowI w g F) (e:∀ i,i < 17→F i=G i):RowI w g G:=by unfold RowI at *;rw [h,ar_congr e]
end
theorem infoI (F:Nat→Int):(Tryz.prog.info? 348).map (·.size)=some (ar F).size:=by rw [ar_size];kernel_rfl
theorem load_ar {ops:Array Oper} {rest:List Oper} {o:Oper} {a:Act} {w:World} {Q:Exit→Act→World→Prop} (hgd:o.guard=none) (x:Operand) (ho:o.op = .load 348 x)
 (g:Nat) (F:Nat→Int) (hx:a.eval x = .pointer (some ⟨g,0,none⟩)) (hrow:RowI w g F) (h:wpList Tryz.prog ops Q rest (a.put o.dst (.agg (ar F))) w):wpList Tryz.prog ops Q (o :: rest) a w :=
 wpList_load_row hgd _ x ho g hx _ _ _ _ hrow Tryz.underlying348 rfl (infoI _) h
theorem store_ar {ops:Array Oper} {rest:List Oper} {o:Oper} {a:Act} {w:World} {Q:Exit→Act→World→Prop} (hgd:o.guard=none) (x y:Operand) (ho:o.op = .store 348 x y)
 (g:Nat) (F G:Nat→Int) (hx:a.eval x = .pointer (some ⟨g,0,none⟩)) (hy:a.eval y = .agg (ar F)) (hrow:RowI w g G) (h:wpList Tryz.prog ops Q rest (a.put o.dst undef) (w.setRow g (ar F))):wpList Tryz.prog ops Q (o :: rest) a w :=
 wpList_store_row hgd _ x y ho g _ hx hy _ _ hrow (infoI _) rfl (ar_one _) h
theorem store_ar_new {ops:Array Oper} {rest:List Oper} {o:Oper} {a:Act} {w:World} {Q:Exit→Act→World→Prop} (hgd:o.guard=none) (x y:Operand) (ho:o.op = .store 348 x y)
 (F:Nat→Int) (hx:a.eval x = .pointer (some ⟨w.heap.size,0,none⟩)) (hy:a.eval y = .agg (ar F)) (h:wpList Tryz.prog ops Q rest (a.put o.dst undef) (w.alloc (.cells (ar F) 348))) :
 wpList Tryz.prog ops Q (o :: rest) a (w.alloc (.cells #[.int .i64 0,.int .i64 0,.int .i64 0,.int .i64 0,.int .i64 0,.int .i64 0,.int .i64 0,.int .i64 0,.int .i64 0,.int .i64 0,.int .i64 0,.int .i64 0,.int .i64 0,.int .i64 0,.int .i64 0,.int .i64 0,.int .i64 0] 348)) :=
 store_ar hgd x y ho _ F (fun _=>0) hx hy (RowI.new w (fun _=>0)) (by rw [World.setRow_alloc_new];exact h)
theorem results_ar {fn:Func} {p:Tmp} (h:fn.results=#[.cell p 348]) (tmps:Array Value) (w:World) (g:Nat) (F:Nat→Int) (hp:tmps.getD p undef = .pointer (some ⟨g,0,none⟩)) (hrow:RowI w g F) :
 (results fn tmps).run Tryz.prog w = .ok (.agg (ar F)) w:=results_cell_row h tmps w g _ _ _ _ hp hrow Tryz.underlying348 rfl (infoI _)
def row5 (x:E5):Array Value:=#[.int .i64 x.1,.int .i64 x.2.1,.int .i64 x.2.2.1,.int .i64 x.2.2.2.1,.int .i64 x.2.2.2.2]
def RowE (w:World) (g:Nat) (x:E5):Prop:=w.heap[g]? = some (.cells (row5 x) 87 (0,0))
theorem RowE.lt {w:World} {g:Nat} {x:E5} (h:RowE w g x):g < w.heap.size:=lt_of_block h
theorem RowE.below {B:Nat} {w w':World} {g:Nat} {x:E5} (h:RowE w g x) (hb:Below B w w') (hg:g < B):RowE w' g x:=(hb.block g hg).trans h
theorem results_who {fn:Func} {p r:Tmp} (h:fn.results=#[.tmp r,.cell p 87]) (tmps:Array Value) (w:World) (g1:Nat) (n:Int) (x:E5)
 (hp:tmps.getD p undef = .pointer (some ⟨g1,0,none⟩)) (hr:tmps.getD r undef = .int .i64 n) (h1:RowE w g1 x) :
 (results fn tmps).run Tryz.prog w = .ok (.tuple #[.int .i64 n,ent x]) w:=by
 have e1:=run_loadVar_row (P:=Tryz.prog) w g1 87 87 (row5 x) (0,0) _ h1 Tryz.underlying87 rfl (by show _=some 5;kernel_rfl);have hp':tmps[p]?.getD undef = .pointer (some ⟨g1,0,none⟩):=by simpa using hp
 have hr':tmps[r]?.getD undef = .int .i64 n:=by simpa using hr
 simp only [results,h]
 simp [Result.andThen,hp',hr',asAddr,e1,ent,row5]
end Go.Proofs.YtljnkaodhfnbbaaGreatDoor.Ck
namespace Go.Proofs.YtljnkaodhfnbbaaGreatDoor.Pa
open Go.RowKit Go.Maps
open Fl (R4 z4 K4 rec4 rat okR okL arr4 row_cell row_frozen)
open Fs (Abs St Only Fx gB gV sB sA dA dE dD Wf OkA law keyI Rh)
open Rw (Rd Ow At)
open Ro (E5 z5 okE eat K5 at5 ent may_each okE_bounds)
open Ck (LL lat sN sE tE bI RdL who_cases may_all)
def ptr (s:Nat):Value:=.pointer (some ⟨s,0,none⟩)
def KN:Rw.Kind Nat:=⟨fun s=>[ptr s],1,by decide,fun _=>rfl,fun _ u h=>by simp at h;subst h;rfl,0⟩
def pv (p:Option Nat):Value:=.pointer (p.map fun s=>⟨s,0,none⟩)
def KP:Rw.Kind (Option Nat):=⟨fun p=>[pv p],1,by decide,fun _=>rfl,fun p u h=>by simp at h;subst h;cases p <;> rfl,none⟩
def KB:Rw.Kind Bool:=⟨fun b=>[.bool b],1,by decide,fun _=>rfl,fun _ u h=>by simp at h;subst h;rfl,false⟩
def K2:Rw.Kind S2:=⟨fun x=>[.int .i64 x.1,.int .i64 x.2],2,by decide,fun _=>rfl,fun _ u h=>by simp at h;rcases h with rfl | rfl <;> rfl,z2⟩
section
variable {w:World} {b off:Nat}
theorem atN {l:List Nat} (h:At KN w b off l) {i:Nat} (hi:i < l.length):w.cell? ⟨b,off+i,none⟩=some (ptr (l.getD i 0)):=by
 have c:=h i hi 0 _ rfl
 simpa [KN] using c
theorem atP {l:List (Option Nat)} (h:At KP w b off l) {i:Nat} (hi:i < l.length):w.cell? ⟨b,off+i,none⟩=some (pv (l.getD i none)):=by
 have c:=h i hi 0 _ rfl
 simpa [KP] using c
theorem atB {l:List Bool} (h:At KB w b off l) {i:Nat} (hi:i < l.length):w.cell? ⟨b,off+i,none⟩=some (.bool (l.getD i false)):=by
 have c:=h i hi 0 _ rfl
 simpa [KB] using c
theorem at2 {l:List S2} (h:At K2 w b off l) {i:Nat} (hi:i < l.length):w.cell? ⟨b,off+i * 2,none⟩=some (.int .i64 (pat l i).1)∧w.cell? ⟨b,off+i * 2+1,none⟩=some (.int .i64 (pat l i).2) :=
 ⟨h i hi 0 _ rfl,h i hi 1 _ rfl⟩
theorem rd_some {v:Value} {l:List Nat} (h:Rd KN w v l):Rd KP w v (l.map some):=by
 obtain ⟨a,cap,e,h1,h2,h3⟩:=h;refine ⟨a,cap,by rw [List.length_map];exact e,by rw [List.length_map];exact h1,h2,fun h0=>?_⟩;rw [List.length_map] at h0;obtain ⟨b,off,ea,hA⟩:=h3 h0;refine ⟨b,off,ea,fun i hi j u hu=>?_⟩;rw [List.length_map] at hi;have:KP.enc ((l.map some).getD i KP.dft)=KN.enc (l.getD i KN.dft):=by
  rw [List.getD_eq_getElem?_getD,List.getElem?_map,List.getElem?_eq_getElem hi,List.getD_eq_getElem?_getD,List.getElem?_eq_getElem hi]
  rfl
 rw [this] at hu;exact hA i hi j u hu
end
def Has (w:World) (s:Nat) (x:Abs×Int):Prop:=∃ F,St w s F x.1 x.2
def Stl (w:World) (v:Value) (S:Sts):Prop:=∃ ps:List Nat,Rd KN w v ps∧ps.length=S.length∧∀ i,i < S.length→Has w (ps.getD i 0) (sat S i)
section
variable {w w':World} {s:Nat} {x:Abs×Int} {v:Value} {S:Sts}
theorem Has.below (h:Has w s x) (b:Below w.heap.size w w'):Has w' s x:=by obtain ⟨F,h⟩:=h;exact ⟨F,h.below b⟩
theorem Has.okA (h:Has w s x):OkA x.1:=by obtain ⟨F,h⟩:=h;exact h.okA
theorem Stl.below (h:Stl w v S) (b:Below w.heap.size w w'):Stl w' v S:=by obtain ⟨ps,h1,h2,h3⟩:=h;exact ⟨ps,h1.below b,h2,fun i hi=>(h3 i hi).below b⟩
theorem Stl.slice (h:Stl w v S):∃ a cap,v = .slice a S.length cap∧cap≤maxLen:=by obtain ⟨ps,h1,h2,_⟩:=h;rw [← h2];exact h1.slice
theorem Stl.one (h:Stl w v S) {k:Nat} (hk:k < S.length):∃ b off cap s,v = .slice (some ⟨b,off,none⟩) S.length cap∧w.cell? ⟨b,off+k,none⟩=some (ptr s)∧Has w s (sat S k):=by
 obtain ⟨ps,h1,h2,h3⟩:=h;obtain ⟨a,cap,e,_,_,g⟩:=h1;obtain ⟨b,off,rfl,hA⟩:=g (by omega);exact ⟨b,off,cap,_,by rw [← h2];exact e,atN hA (by omega),h3 k hk⟩
end
structure Ns (w:World) (vs vt vl:Value) (S:Sts) (T:LL) (V:List Bool):Prop where
 st:Stl w vs S
 tb:RdL w vt T
 lv:Rd KB w vl V
 lt:T.length=S.length
 ll:V.length=S.length
 ok:tE T=0
section
variable {w w':World} {vs vt vl:Value} {S:Sts} {T:LL} {V:List Bool}
theorem Ns.below (h:Ns w vs vt vl S T V) (b:Below w.heap.size w w'):Ns w' vs vt vl S T V:=⟨h.st.below b,h.tb.below b,h.lv.below b,h.lt,h.ll,h.ok⟩
theorem wf_of {n:Int} (h:0≤n∧n≤1000):Wf n:=by
 have e1:IntKind.i64.min = -9223372036854775808:=rfl;have e2:IntKind.i64.max=9223372036854775807:=rfl
 show (decide (IntKind.i64.min≤n) && decide (n≤IntKind.i64.max))=true
 rw [e1,e2,Bool.and_eq_true,decide_eq_true_eq,decide_eq_true_eq]
 omega
theorem not_bad (h:tE T=0):¬ 0≤bI T:=fun g=>by
 have:=(Ck.t_form g).2
 omega
theorem tab_each (h:tE T=0) {k:Nat} (hk:k < T.length):∀ x∈lat T k,okE x∧x.1≠4:=may_each (may_all (not_bad h) k hk)
end
end Go.Proofs.YtljnkaodhfnbbaaGreatDoor.Pa
namespace Go.Proofs.YtljnkaodhfnbbaaGreatDoor.Pa
open Go.RowKit Go.Maps
open Fs (Wf law keyI Rh)
open Rw (Rd Ow At)
open Ro (E5 z5 eat K5)
def bv (y:Int):Value:=.int .u8 y
structure HIs (D:DataW Value) (h:Hr):Prop where
 has:∀ n,Wf n→Maps.has D (.int .i64 n)=(h n).isSome
 val:∀ n y,Wf n→h n=some y→∀ z,D.atKey (.int .i64 n) z = .held (bv y)
def HBl (w:World) (b N:Nat) (h:Hr):Prop:=∃ D,w.ownsMap Tryz.prog 3 Rh b N D∧HIs D h
def HMap (w:World) (v:Value) (h:Hr):Prop:=∃ b N,v = .map (some b)∧HBl w b N h
theorem zeroB (w:World):(zeroValue 5).run Tryz.prog w = .ok (.int .u8 0) w:=by kernel_rfl
section
variable {w w':World} {v:Value} {h:Hr} {b N:Nat}
theorem HBl.lt (M:HBl w b N h):b < w.heap.size:=by obtain ⟨D,o,_⟩:=M;exact o.lt
theorem HBl.kept (M:HBl w b N h) (e:w'.heap[b]? = w.heap[b]?):HBl w' b N h:=by
 obtain ⟨D,⟨es,clock,hb,F,hs,hD⟩,I⟩:=M;exact ⟨D,⟨es,clock,e.trans hb,F,hs,hD⟩,I⟩
theorem HBl.below (M:HBl w b N h) (hb:Below w.heap.size w w'):HBl w' b N h:=M.kept (hb.block b M.lt)
theorem HMap.below (M:HMap w v h) (hb:Below w.heap.size w w'):HMap w' v h:=by
 obtain ⟨b,N,e,M⟩:=M;exact ⟨b,N,e,M.below hb⟩
theorem HMap.only {G:Nat→Prop} (M:HMap w v h) (ho:Fs.Only G w w') (hn:∀ b,v = .map (some b)→¬ G b):HMap w' v h:=by
 obtain ⟨b,N,e,M⟩:=M;exact ⟨b,N,e,M.kept (ho.block b M.lt (hn b e))⟩
theorem run_heard (M:HMap w v h) {n:Int} (hn:Wf n):(Instr.lookup 173 v (.int .i64 n) true).run Tryz.prog w = .ok (.tuple #[bv ((h n).getD 0),.bool (h n).isSome]) w:=by
 obtain ⟨b,N,rfl,D,o,I⟩:=M;obtain ⟨u,ps,hr,hu⟩:=o.look_ok law Tryz.underlying173 (zeroB w) (zd:=.held (bv 0)) (zp:=[]) rfl (keyI hn);rw [hr,I.has n hn];have:u=bv ((h n).getD 0):=by
  have e:DataW.held u=D.atKey (.int .i64 n) (.held (bv 0)):=by simp [Rh] at hu;exact hu.1
  rcases ey:h n with _ | y
  ·have:=I.has n hn
   rw [ey] at this;rw [atKey_of_not_has this] at e;injection e
  ·rw [I.val n y hn ey] at e
   injection e
 rw [this]
theorem at_heard {ops:Array Oper} {rest:List Oper} {o:Oper} {a:Act} {Q:Exit→Act→World→Prop} (hgd:Region.wanted o (yielded ops a.tmps)=true) (p x:Operand) (hop:o.op = .lookup 173 p x true) (hm:a.eval p=v) (M:HMap w v h) (n:Int) (hx:a.eval x = .int .i64 n) (hn:Wf n) (y:Int) (q:Bool) (hy:(h n).getD 0=y) (hq:(h n).isSome=q)
 (hK:wpList Tryz.prog ops Q rest (a.put o.dst (.tuple #[.int .u8 y,.bool q])) w):wpList Tryz.prog ops Q (o :: rest) a w:=by
 refine BigFrame.wpList_want hgd fun K' hK'=>?_;have hr:=run_heard M hn;rw [hy,hq] at hr;unfold Oper.wp
 simp [execOp,hop,hm,hx,hr,Result.andThen]
 exact hK' _ _ (by simpa [bv] using hK)
def hput (h:Hr) (n y:Int):Hr:=fun m=>if m=n then some y else h m
theorem HIs.put {D:DataW Value} (I:HIs D h) (hD:IsMap D) {n y:Int} (hn:Wf n):HIs (D.put (.int .i64 n) (.held (bv y))) (hput h n y) where
 has m hm:=by
  unfold hput
  by_cases e:m=n
  ·subst e
   rw [has_put_same hD (law.key (keyI hn)),if_pos rfl]
   rfl
  ·rw [has_put_other (fun e2=>e (by injection e2)),if_neg e]
   exact I.has m hm
 val m z hm hz u:=by
  unfold hput at hz
  by_cases e:m=n
  ·subst e
   rw [if_pos rfl] at hz;injection hz with hz;subst hz;exact atKey_put_same hD (law.key (keyI hn)) _ _
  ·rw [if_neg e] at hz
   rw [atKey_put_other (fun e2=>e (by injection e2))];exact I.val m z hm hz u
theorem run_hput (M:HBl w b N h) (hN:N < maxLen) {n y:Int} (hn:Wf n):∃ w',(Instr.mapUpdate 173 (.map (some b)) (.int .i64 n) (bv y)).run Tryz.prog w = .ok () w'∧HBl w' b (N+1) (hput h n y)∧w.grownBy w' (some b):=by
 obtain ⟨D,o,I⟩:=M;obtain ⟨w',hr,h',hg⟩:=o.update law Tryz.underlying173 hN (keyI hn) (val:=bv y) (d:=.held (bv y)) (ps:=[]) rfl;exact ⟨w',hr,⟨_,h',I.put o.isMap hn⟩,hg⟩
theorem at_hput {ops:Array Oper} {rest:List Oper} {o:Oper} {a:Act} {Q:Exit→Act→World→Prop} (hgd:Region.wanted o (yielded ops a.tmps)=true) (p x u:Operand) (hop:o.op = .mapUpdate 173 p x u) (hm:a.eval p = .map (some b)) (M:HBl w b N h) (hN:N < maxLen) (n y:Int) (hx:a.eval x = .int .i64 n) (hu:a.eval u = .int .u8 y) (hn:Wf n)
 (hK:∀ w',HBl w' b (N+1) (hput h n y)→w.grownBy w' (some b)→wpList Tryz.prog ops Q rest (a.put o.dst undef) w'):wpList Tryz.prog ops Q (o :: rest) a w:=by
 refine BigFrame.wpList_want hgd fun K' hK'=>?_;obtain ⟨w',hr,h1,h2⟩:=run_hput M hN (y:=y) hn;unfold bv at hr;unfold Oper.wp
 simp [execOp,hop,hm,hx,hu,hr,Result.andThen]
 exact hK' _ _ (hK w' h1 h2)
theorem hbl_new (w:World):HBl (w.alloc (.map #[] 0)) w.heap.size 0 (fun _=>none):=⟨_,World.ownsMap_made _ _ _ _,fun _ _=>rfl,fun _ _ _ h=>by cases h⟩
end
def plc (f r:Int):Value:=.agg #[.int .i64 f,.int .i64 r]
theorem laidOutP:laidOutB Tryz.prog=true:=by kernel_rfl
theorem lawP:WideMaps.KeyLaw Tryz.prog 248:=deep_law_laid laidOutP (m:=2) (by omega) (of_decide_eq_true (by kernel_rfl)) (by kernel_rfl) (by kernel_rfl)
theorem keyedP:Keyed Tryz.prog 248:=Keyed.of_law lawP
theorem cellsP:Tryz.prog.cellsOf 248=2:=by kernel_rfl
theorem cellsI:Tryz.prog.cellsOf 3=1:=by kernel_rfl
theorem sizeP:∃ m,Tryz.prog.types.size=m+1:=by
 have:0 < Tryz.prog.types.size:=of_decide_eq_true (by kernel_rfl);exact ⟨Tryz.prog.types.size - 1,(Nat.succ_pred_eq_of_pos this).symm⟩
theorem litsI (d:Nat) (f:Int):Tryz.prog.keyLits (d+1) 3 [.int .i64 f]=if (Lit.int .i64 f).wf=true then some [.int .i64 f] else none:=by
 unfold Program.keyLits
 simp [Tryz.underlying3]
theorem keyP {f r:Int} (hf:Wf f) (hr:Wf r):keyOf Tryz.prog 248 (plc f r)=some (.string (keyBytes [.int .i64 f,.int .i64 r])):=by
 have h1:Tryz.prog.keyType 248=true:=by kernel_rfl
 have h2:(plc f r).formed Tryz.prog 248=true:=by simp [plc,Value.formed,Tryz.underlying248,cellsP]
 obtain ⟨m,hm⟩:=sizeP;have h4:Tryz.prog.keyLits (Tryz.prog.types.size+1) 248 (plc f r).cells.toList=some [.int .i64 f,.int .i64 r]:=by
  have e:(plc f r).cells.toList = [.int .i64 f,.int .i64 r]:=rfl;have f1:(Lit.int .i64 f).wf=true:=hf;have f2:(Lit.int .i64 r).wf=true:=hr;have g1:=litsI m f;have g2:=litsI m r;rw [if_pos f1] at g1;rw [if_pos f2] at g2;rw [e,hm];unfold Program.keyLits
  simp [Tryz.underlying248,cellsP,cellsI,g1,g2]
 unfold keyOf;simp only [Tryz.underlying248,h1,h2,h4,Bool.and_self,if_true,Option.map_some]
theorem keyP_inv {v:Value} {kl:Lit} (h:keyOf Tryz.prog 248 v=some kl):∃ f r,v=plc f r∧Wf f∧Wf r:=by
 unfold keyOf at h;simp only [Tryz.underlying248] at h
 split at h
 ·rename_i hc
  rw [Bool.and_eq_true] at hc;obtain ⟨_,hfm⟩:=hc;obtain ⟨xs,rfl,hs⟩:∃ xs,v = .agg xs∧xs.size=2:=by
   cases v <;> simp [Value.formed,Tryz.underlying248,cellsP] at hfm
   exact ⟨_,rfl,hfm⟩
  obtain ⟨m,hm⟩:=sizeP;obtain ⟨l⟩:=xs
  match l,hs with
  | [a,b],_ =>
    have e:(Value.agg (Array.mk [a,b])).cells.toList = [a,b]:=rfl;rw [e,hm] at h;unfold Program.keyLits at h
    simp [Tryz.underlying248,cellsP,cellsI] at h
    rcases e1:Tryz.prog.keyLits (m+1) 3 [a] with _ | x
    ·rw [e1] at h
     simp at h
    ·rcases e2:Tryz.prog.keyLits (m+1) 3 [b] with _ | y
     ·rw [e1,e2] at h
      simp at h
     ·obtain ⟨n,h5,_⟩:=keyLits_int' Tryz.underlying3 e1
      obtain ⟨m',h8,_⟩:=keyLits_int' Tryz.underlying3 e2;obtain rfl:a = .int .i64 n:=by simpa using h5
      obtain rfl:b = .int .i64 m':=by simpa using h8
      refine ⟨n,m',rfl,?_,?_⟩
      ·rw [litsI] at e1
       by_cases g:(Lit.int .i64 n).wf=true
       ·exact g
       ·rw [if_neg g] at e1;cases e1
      ·rw [litsI] at e2
       by_cases g:(Lit.int .i64 m').wf=true
       ·exact g
       ·rw [if_neg g] at e2;cases e2
 ·cases h
def pk (f r:Int):Lit:=.string (keyBytes [.int .i64 f,.int .i64 r])
theorem pk_inj {f r f' r':Int} (h1:Wf f) (h2:Wf r) (h3:Wf f') (h4:Wf r') (e:pk f r=pk f' r'):f=f'∧r=r':=by
 have k1:=keyP h1 h2;have k2:=keyP h3 h4;rw [show Lit.string (keyBytes [.int .i64 f',.int .i64 r'])=pk f r from e.symm] at k2;have:=keyedP.inj k1 k2;unfold plc at this;injection this with this;have e1:=congrArg (fun t:Array Value=>t[0]?) this;have e2:=congrArg (fun t:Array Value=>t[1]?) this
 simp at e1 e2
 exact ⟨e1,e2⟩
structure Gm (w:World) (b N:Nat) (t:List E5) (vs:Int→Int→Value) (D:DataW Value):Prop where
 own:w.ownsMap Tryz.prog 248 Rh b N D
 has:∀ f r,Wf f→Wf r→Maps.has D (pk f r)=decide (grp t f r≠[])
 val:∀ f r,Wf f→Wf r→grp t f r≠[]→∀ z,D.atKey (pk f r) z = .held (vs f r)
 nil:∀ f r,grp t f r = []→vs f r = .slice none 0 0
 row:∀ f r,Ow K5 w (b+1) 87 (vs f r) (grp t f r)
 far:∀ f r f' r',¬ (f=f'∧r=r')→∀ k,(vs f r).ownBlock=some k→(vs f' r').ownBlock≠some k
theorem zeroS (w:World):(zeroValue 85).run Tryz.prog w = .ok (.slice none 0 0) w:=by kernel_rfl
section
variable {w w':World} {b N:Nat} {t:List E5} {vs:Int→Int→Value} {D:DataW Value}
theorem grp_nil (f r:Int):grp [] f r = []:=rfl
theorem gm_new (w:World):Gm (w.alloc (.map #[] 0)) w.heap.size 0 [] (fun _ _=>.slice none 0 0) (.map []) :=
 ⟨World.ownsMap_made _ _ _ _,fun _ _ _ _=>by simp [grp_nil,Maps.has],fun _ _ _ _ h=>absurd rfl h,fun _ _ _=>rfl,fun _ _=>Ow.nil _ _ _,fun _ _ _ _ _ k h=>by simp [Value.ownBlock] at h⟩
theorem Gm.below (G:Gm w b N t vs D) (hb:Below w.heap.size w w'):Gm w' b N t vs D :=
 ⟨G.own.kept (Fs.grown_of hb) (fun h=>by cases h),G.has,G.val,G.nil,fun f r=>(G.row f r).keep hb,G.far⟩
theorem grp_snoc (t:List E5) (x:E5) (f r:Int):grp (t ++ [x]) f r=if mt f r x=true then grp t f r ++ [x] else grp t f r:=by
 unfold grp;rw [List.filter_append]
 by_cases h:mt f r x=true
 ·simp [h]
 ·simp [h]
def upP (vs:Int→Int→Value) (f r:Int) (u:Value) (a c:Int):Value:=if a=f∧c=r then u else vs a c
theorem Gm.step (G:Gm w b N t vs D) (hN:N < maxLen) {x:E5} (h2:x.1=2) (hf:Wf x.2.2.1) (hr:Wf x.2.2.2.1) :
 ∃ st w1,(Instr.mapEntry 245 (.map (some b)) (plc x.2.2.1 x.2.2.2.1)).run Tryz.prog w = .ok (.tuple #[vs x.2.2.1 x.2.2.2.1,.int .i64 ((st:Nat):Int)]) w1∧w.grownBy w1 (some b)∧w1.heap.size=w.heap.size ∧
  ∀ w2 u,w1.grownBy w2 (vs x.2.2.1 x.2.2.2.1).ownBlock→Ow K5 w2 (b+1) 87 u (grp t x.2.2.1 x.2.2.2.1 ++ [x])→(u.ownBlock=(vs x.2.2.1 x.2.2.2.1).ownBlock∨∃ g,u.ownBlock=some g∧w1.heap.size≤g) →
   ∃ w3 D',(Instr.entryStore 245 (.map (some b)) (.int .i64 ((st:Nat):Int)) u).run Tryz.prog w2 = .ok () w3∧w2.grownBy w3 (some b)∧Gm w3 b (N+1) (t ++ [x]) (upP vs x.2.2.1 x.2.2.2.1 u) D':=by
 obtain ⟨k,s,f,r,y⟩:=x;simp only at h2 hf hr ⊢;subst h2;have hkey:=keyP hf hr;obtain ⟨es,clock,hb,F,hs,hD⟩:=G.own;obtain ⟨v0,st,es1,clock1,hE,hcase,hS⟩:=WideElems.entry_then_store (w:=w) lawP Tryz.underlying245 zeroS hb F hkey;have hv0:v0=vs f r:=by
  have hl:=Maps.fit_look false keyedP Tryz.underlying245 (zeroS w) hb F hkey;rw [← hD] at hl
  rcases hl with ⟨_,hno,hat⟩ | ⟨e1,y1,hm1,hk1,_,hR,hat,_⟩
  ·have h1:Maps.has D (pk f r)=false:=has_false_of_atKey hat
   rw [G.has f r hf hr,decide_eq_false_iff_not,Classical.not_not] at h1;rw [G.nil f r h1]
   rcases hcase with ⟨e0,hm0,hk0,_⟩ | ⟨_,hz⟩
   ·exact absurd hk0 (hno e0 hm0)
   ·exact hz
  ·have h1:Maps.has D (pk f r)=true:=has_true_of_atKey hat
   rw [G.has f r hf hr,decide_eq_true_eq] at h1;have h3:=(hat .nil).symm.trans (G.val f r hf hr h1 .nil);have h4:y1=(.held e1.val,[]):=by simp [Rh] at hR;exact hR.symm
   rw [h4] at h3;injection h3 with h3
   rcases hcase with ⟨e0,hm0,hk0,hv⟩ | ⟨hno,_⟩
   ·have he:=entry_eq_of_key ((MapKept.stamped_iff es clock).1 F.stamped).2.2 hm0 hm1 (hk0.trans hk1.symm)
    rw [hv,he,h3]
   ·exact absurd hk1 (hno e1 hm1)
 subst hv0;have hg1:w.grownBy (ChangeMaps.setBlock w b (.map es1 clock1)) (some b):=⟨rfl,rfl,rfl,by simp [ChangeMaps.setBlock],fun i _ hi=>ChangeMaps.heap_setBlock_other hb _ (fun e=>hi (by rw [e]))⟩;have hb1:(ChangeMaps.setBlock w b (.map es1 clock1)).heap[b]? = some (.map es1 clock1):=ChangeMaps.heap_setBlock_same hb _;have hz1:(ChangeMaps.setBlock w b (.map es1 clock1)).heap.size=w.heap.size:=by simp [ChangeMaps.setBlock]
 have hbl:b < w.heap.size:=G.own.lt;have ownb:∀ a c,(vs a c).ownBlock≠some b:=fun a c e=>by have:=World.ownsRow.lt (G.row a c) b e;omega
 refine ⟨st,_,hE,hg1,hz1,fun w2 u hg2 hu hub=>?_⟩;have hb2:w2.heap[b]? = some (.map es1 clock1):=(hg2.block b (by rw [hz1];exact hbl) (fun e=>ownb f r e.symm)).trans hb1;obtain ⟨es',clock',hS1,hS2⟩:=hS w2 u hb2;obtain ⟨w',hU,hO,_⟩:=G.own.update keyedP Tryz.underlying245 hN hkey (val:=u) (d:=.held u) (ps:=[]) rfl;have hw':w'=ChangeMaps.setBlock w b (.map es' clock'):=by
  rw [hU] at hS2;injection hS2
 subst hw';have hg3:w2.grownBy (ChangeMaps.setBlock w2 b (.map es' clock')) (some b):=⟨rfl,rfl,rfl,by simp [ChangeMaps.setBlock],fun i _ hi=>ChangeMaps.heap_setBlock_other hb2 _ (fun e=>hi (by rw [e]))⟩;have hO3:(ChangeMaps.setBlock w2 b (.map es' clock')).ownsMap Tryz.prog 248 Rh b (N+1) (D.put (pk f r) (.held u)):=by
  obtain ⟨es3,clock3,q1,q2,q3,q4⟩:=hO;rw [ChangeMaps.heap_setBlock_same hb] at q1;exact ⟨es3,clock3,(ChangeMaps.heap_setBlock_same hb2 _).trans q1,q2,q3,q4⟩
 have hself:mt f r (2,s,f,r,y)=true:=by simp [mt]
 have hoth:∀ a c,¬ (a=f∧c=r)→mt a c (2,s,f,r,y)=false:=fun a c h=>by
  unfold mt;rw [decide_eq_false];rintro ⟨_,h1,h2⟩;exact h ⟨h1.symm,h2.symm⟩
 have ownu:∀ k,u.ownBlock=some k→b+1≤k∧k < w2.heap.size:=fun k e=>World.ownsRow.lt hu k e;have hdiff:∀ a c,¬ (a=f∧c=r)→∀ k,(vs a c).ownBlock=some k→u.ownBlock≠some k:=fun a c h k hk e=>by
  rcases hub with e2 | ⟨g,e2,hg⟩
  ·exact G.far a c f r h k hk (e2.symm.trans e)
  ·rw [e2] at e
   injection e with e;have:=(World.ownsRow.lt (G.row a c) k hk).2
   omega
 refine ⟨_,_,hS1,hg3,hO3,fun a c ha hc=>?_,fun a c ha hc hne z=>?_,fun a c hn=>?_,fun a c=>?_,fun a c a' c' hne k hk=>?_⟩
 ·rw [grp_snoc]
  by_cases e:a=f∧c=r
  ·obtain ⟨rfl,rfl⟩:=e
   rw [show Maps.has (D.put (pk a c) (.held u)) (pk a c)=true from has_put_same G.own.isMap (keyedP.key hkey) _,hself,if_pos rfl]
   simp
  ·rw [has_put_other (fun e2=>e (pk_inj ha hc hf hr e2)),hoth a c e,if_neg (by simp)]
   exact G.has a c ha hc
 ·rw [grp_snoc] at hne
  unfold upP
  by_cases e:a=f∧c=r
  ·obtain ⟨rfl,rfl⟩:=e
   rw [if_pos ⟨rfl,rfl⟩];exact atKey_put_same G.own.isMap (keyedP.key hkey) _ _
  ·rw [hoth a c e,if_neg (by simp)] at hne
   rw [atKey_put_other (fun e2=>e (pk_inj ha hc hf hr e2)),if_neg e];exact G.val a c ha hc hne z
 ·rw [grp_snoc] at hn
  unfold upP
  by_cases e:a=f∧c=r
  ·obtain ⟨rfl,rfl⟩:=e
   rw [hself,if_pos rfl] at hn
   simp at hn
  ·rw [hoth a c e,if_neg (by simp)] at hn
   rw [if_neg e];exact G.nil a c hn
 ·rw [grp_snoc]
  unfold upP
  by_cases e:a=f∧c=r
  ·obtain ⟨rfl,rfl⟩:=e
   rw [hself,if_pos rfl,if_pos ⟨rfl,rfl⟩];exact World.ownsRow.kept hu hg3 (.inr fun e2=>by have:=(ownu b e2).1;omega)
  ·rw [hoth a c e,if_neg e,if_neg Bool.false_ne_true]
   have r1:=World.ownsRow.kept (G.row a c) hg1 (.inr (ownb a c))
   have r2:=World.ownsRow.kept r1 hg2 (by
    rcases e3:(vs a c).ownBlock with _ | k
    ·exact .inl rfl
    ·exact .inr fun e4=>G.far a c f r e k e3 e4.symm)
   exact World.ownsRow.kept r2 hg3 (.inr (ownb a c))
 ·unfold upP at hk ⊢
  by_cases e:a=f∧c=r
  ·rw [if_pos e] at hk
   by_cases e':a'=f∧c'=r
   ·exact absurd ⟨e.1.trans e'.1.symm,e.2.trans e'.2.symm⟩ hne
   ·rw [if_neg e']
    exact fun e4=>hdiff a' c' e' k e4 hk
  ·rw [if_neg e] at hk
   by_cases e':a'=f∧c'=r
   ·rw [if_pos e']
    exact hdiff a c e k hk
   ·rw [if_neg e']
    exact G.far a c a' c' hne k hk
end
theorem push_group {ops:Array Oper} {rest:List Oper} {o:Oper} {a:Act} {w:World} {Q:Exit→Act→World→Prop} (hgd:o.guard=none) (s x:Operand)
 (ho:o.op = .call { callee:=.builtin .append,args:=#[s,x],argTypes:=#[85,85] }) (B:Nat) (v:Value) (l:List E5) (hs:a.eval s=v) (hown:Ow K5 w B 87 v l)
 (ad:Addr) (c:E5) (hx:a.eval x = .slice (some ad) 1 1) (hc:∀ j u,(K5.enc c)[j]? = some u→w.cell? (ad.add j)=some u) (hlen:l.length < 100000) (hB:B≤w.heap.size)
 (h:∀ v' w',Ow K5 w' B 87 v' (l ++ [c])→w.grownBy w' v.ownBlock→(v'.ownBlock=v.ownBlock∨∃ g,v'.ownBlock=some g∧w.heap.size≤g)→wpList Tryz.prog ops Q rest (a.put o.dst v') w'):wpList Tryz.prog ops Q (o :: rest) a w:=by
 obtain ⟨i0,hi0,hz0,hz1,hz2⟩:=info_parts Ro.infoE;refine wpList_append_own_at _ hgd s x 85 ho B 87 i0 _ 5 40 Tryz.underlying85 hi0 hz0 hz1 hz2 rfl (by omega) v l.length (K5.flat l) hs hown ad 1 1 (K5.enc c) hx (by rw [K5.len];rfl) hc (K5.one c) (by unfold maxLen;omega) (by omega) hB ?_
 intro v' w' h2 h3 _ h5
 exact h v' w' (Rw.Ow.push h2) h3 (h5.imp id fun e=>⟨_,e,Nat.le_refl _⟩)
end Go.Proofs.YtljnkaodhfnbbaaGreatDoor.Pa
namespace Go.Proofs.YtljnkaodhfnbbaaGreatDoor.Ro
open Go.RowKit
open Rw (Rd Ow At)
open Fl (R4 z4 rec4 K4 okR hdr rat goodF ret_bool at_bool)
attribute [local irreducible] wpQuiet
def row5 (x:E5):Array Value:=#[.int .i64 x.1,.int .i64 x.2.1,.int .i64 x.2.2.1,.int .i64 x.2.2.2.1,.int .i64 x.2.2.2.2]
set_option maxHeartbeats 400000 in
theorem end_any (w:World):Calls Tryz.prog 223 #[] w fun e w'=>e = .returned (ent endE)∧Below w.heap.size w w':=by
 go_enter Tryz.func223,Tryz.ntmps223
 go_wp2
 (try simp only [Exit.inBlock,Exit.then])
 refine bodyPost_ret (v:=ent endE) ?_ rfl ⟨rfl,?_⟩
 ·exact results_cell_row (p:=0) rfl _ _ w.heap.size 87 _ (0,0) _ rfl (heap_alloc_new w _) Tryz.underlying87 rfl (by show _=some 5;kernel_rfl)
 ·exact (Below.refl w.heap.size w).alloc (Nat.le_refl _) _
set_option maxHeartbeats 1000000 in
theorem place_any (w:World) (k s f r b:Int):Calls Tryz.prog 222 #[.agg #[.int .i64 k,.int .i64 s,.int .i64 f,.int .i64 r,.int .i64 b]] w fun e w'=>e = .returned (.bool (placeB s f r))∧Below w.heap.size w w':=by
 have B0:=Lib.hid ((Below.refl w.heap.size w).alloc (Nat.le_refl _) (.cells #[.int .i64 k,.int .i64 s,.int .i64 f,.int .i64 r,.int .i64 b] 87))
 by_cases h1:1≤s
 ·by_cases h2:s≤16
  ·by_cases h3:0≤f
   ·by_cases h4:f < 64
    ·by_cases h5:1≤r
     ·by_cases h6:r < 256
      ·have E:Hid (true=placeB s f r):=Lib.hid (decide_eq_true (show place s f r by unfold place;omega)).symm
       go_enter Tryz.func222,Tryz.ntmps222
       go_wp2
       go_ret
       exact ⟨ret_bool E.out,B0.out⟩
      ·have E:Hid (false=placeB s f r):=Lib.hid (decide_eq_false (show ¬ place s f r by unfold place;omega)).symm
       go_enter Tryz.func222,Tryz.ntmps222
       go_wp2
       go_ret
       exact ⟨ret_bool E.out,B0.out⟩
     ·have E:Hid (false=placeB s f r):=Lib.hid (decide_eq_false (show ¬ place s f r by unfold place;omega)).symm
      go_enter Tryz.func222,Tryz.ntmps222
      go_wp2
      go_ret
      exact ⟨ret_bool E.out,B0.out⟩
    ·have E:Hid (false=placeB s f r):=Lib.hid (decide_eq_false (show ¬ place s f r by unfold place;omega)).symm
     go_enter Tryz.func222,Tryz.ntmps222
     go_wp2
     go_ret
     exact ⟨ret_bool E.out,B0.out⟩
   ·have E:Hid (false=placeB s f r):=Lib.hid (decide_eq_false (show ¬ place s f r by unfold place;omega)).symm
    go_enter Tryz.func222,Tryz.ntmps222
    go_wp2
    go_ret
    exact ⟨ret_bool E.out,B0.out⟩
  ·have E:Hid (false=placeB s f r):=Lib.hid (decide_eq_false (show ¬ place s f r by unfold place;omega)).symm
   go_enter Tryz.func222,Tryz.ntmps222
   go_wp2
   go_ret
   exact ⟨ret_bool E.out,B0.out⟩
 ·have E:Hid (false=placeB s f r):=Lib.hid (decide_eq_false (show ¬ place s f r by unfold place;omega)).symm
  go_enter Tryz.func222,Tryz.ntmps222
  go_wp2
  go_ret
  exact ⟨ret_bool E.out,B0.out⟩
set_option maxHeartbeats 1000000 in
theorem good_act (w:World) (k s f r b L:Int) (hk:(k=1∨k=2)∧L=3∨k=3∧L=0):Calls Tryz.prog 187 #[.agg #[.int .i64 k,.int .i64 s,.int .i64 f,.int .i64 r,.int .i64 b]] w fun e w'=>e = .returned (.bool (okB (k,s,f,r,b)))∧Below w.heap.size w w':=by
 have B0:=Lib.hid ((Below.refl w.heap.size w).alloc (Nat.le_refl _) (.cells #[.int .i64 k,.int .i64 s,.int .i64 f,.int .i64 r,.int .i64 b] 87))
 have EQ:Hid (okE (k,s,f,r,b)↔place s f r∧0≤b∧b≤L):=Lib.hid (by
  unfold okE place;simp only
  omega)
 have PA:=Lib.hid (fun w=>place_any w k s f r b)
 by_cases hp:place s f r
 ·have PP:=Lib.hid (decide_eq_true hp)
  unfold placeB at PA;rw [PP.out] at PA;have HP:=Lib.hid hp;clear hp PP
  by_cases h1:0≤b
  ·have E:Hid (decide (b≤L)=okB (k,s,f,r,b)):=Lib.hid (decide_eq_decide.2 ⟨fun h=>EQ.out.2 ⟨HP.out,h1,h⟩,fun h=>(EQ.out.1 h).2.2⟩)
   clear EQ HP
   rcases hk with ⟨rfl | rfl,rfl⟩ | ⟨rfl,rfl⟩
   all_goals
    go_enter Tryz.func187,Tryz.ntmps187
    go_wp2_with fail;refine (PA.out _).mono ?_;rintro e w1 ⟨rfl,b1⟩;have c4:w1.cell? ⟨w.heap.size,4,none⟩=some (.int .i64 b):=(b1.cell (by simp)).trans (by go_simp);have B1:=Lib.hid (B0.out.trans (b1.mono B0.out.size));clear b1;go_wp2
    go_ret
    exact ⟨ret_bool E.out,B1.out⟩
  ·have E:Hid (false=okB (k,s,f,r,b)):=Lib.hid (decide_eq_false (fun h=>h1 (EQ.out.1 h).2.1)).symm
   clear EQ HP
   rcases hk with ⟨rfl | rfl,rfl⟩ | ⟨rfl,rfl⟩
   all_goals
    go_enter Tryz.func187,Tryz.ntmps187
    go_wp2_with fail;refine (PA.out _).mono ?_;rintro e w1 ⟨rfl,b1⟩;have c4:w1.cell? ⟨w.heap.size,4,none⟩=some (.int .i64 b):=(b1.cell (by simp)).trans (by go_simp);have B1:=Lib.hid (B0.out.trans (b1.mono B0.out.size));clear b1;go_wp2
    go_ret
    exact ⟨ret_bool E.out,B1.out⟩
 ·have E:Hid (false=okB (k,s,f,r,b)):=Lib.hid (decide_eq_false (fun h=>hp (EQ.out.1 h).1)).symm
  have PP:=Lib.hid (decide_eq_false hp);unfold placeB at PA;rw [PP.out] at PA;clear hp PP EQ
  rcases hk with ⟨rfl | rfl,rfl⟩ | ⟨rfl,rfl⟩
  all_goals
   go_enter Tryz.func187,Tryz.ntmps187
   go_wp2_with fail;refine (PA.out _).mono ?_;rintro e w1 ⟨rfl,b1⟩;have c4:w1.cell? ⟨w.heap.size,4,none⟩=some (.int .i64 b):=(b1.cell (by simp)).trans (by go_simp);have B1:=Lib.hid (B0.out.trans (b1.mono B0.out.size));clear b1;go_wp2
   go_ret
   exact ⟨ret_bool E.out,B1.out⟩
set_option maxHeartbeats 1000000 in
theorem good_end (w:World) (s f r b:Int):Calls Tryz.prog 187 #[.agg #[.int .i64 4,.int .i64 s,.int .i64 f,.int .i64 r,.int .i64 b]] w fun e w'=>e = .returned (.bool (okB (4,s,f,r,b)))∧Below w.heap.size w w':=by
 have B0:=Lib.hid ((Below.refl w.heap.size w).alloc (Nat.le_refl _) (.cells #[.int .i64 4,.int .i64 s,.int .i64 f,.int .i64 r,.int .i64 b] 87))
 have EQ:okE (4,s,f,r,b)↔(s=0∧f=0∧r=0∧b=0):=⟨fun h=>by
  rcases h with h | h
  ·exact absurd h.2.1 (show ¬ (4:Int)≤3 by decide)
  ·exact h.2,fun h=>.inr ⟨rfl,h⟩⟩
 have E:Hid ((decide (s=0) && (decide (f=0) && (decide (r=0) && decide (b=0))))=okB (4,s,f,r,b)):=Lib.hid (by
  rw [show okB (4,s,f,r,b)=decide (s=0∧f=0∧r=0∧b=0) from decide_eq_decide.2 EQ]
  simp only [Bool.decide_and])
 clear EQ;have es:=eq_ent ((4:Int),s,f,r,b) endE;simp only [endE] at es;have EE:=Lib.hid (fun w=>end_any w);unfold ent at EE;simp only [endE] at EE;have k0:=Qb.cell_by (show (w.alloc (.cells #[.int .i64 4,.int .i64 s,.int .i64 f,.int .i64 r,.int .i64 b] 87)).cell? ⟨w.heap.size,0,none⟩=some (.int .i64 4) by go_simp);have k1:=Qb.cell_by (show (w.alloc (.cells #[.int .i64 4,.int .i64 s,.int .i64 f,.int .i64 r,.int .i64 b] 87)).cell? ⟨w.heap.size,1,none⟩=some (.int .i64 s) by go_simp);have k2:=Qb.cell_by (show (w.alloc (.cells #[.int .i64 4,.int .i64 s,.int .i64 f,.int .i64 r,.int .i64 b] 87)).cell? ⟨w.heap.size,2,none⟩=some (.int .i64 f) by go_simp);have k3:=Qb.cell_by (show (w.alloc (.cells #[.int .i64 4,.int .i64 s,.int .i64 f,.int .i64 r,.int .i64 b] 87)).cell? ⟨w.heap.size,3,none⟩=some (.int .i64 r) by go_simp);have k4:=Qb.cell_by (show (w.alloc (.cells #[.int .i64 4,.int .i64 s,.int .i64 f,.int .i64 r,.int .i64 b] 87)).cell? ⟨w.heap.size,4,none⟩=some (.int .i64 b) by go_simp)
 go_enter Tryz.func187,Tryz.ntmps187
 go_wp2_with fail;refine Qb.wp_region_by (by kernel_rfl) (by kernel_rfl) ?_
 repeat (quiet_step ((go_at_call 223;with_reducible exact Qb.of_below (EE.out _))))
 refine wpQuiet_nil ?_
 intro _ hw'
 obtain ⟨pp,rfl⟩:=hw';go_wp2
 go_ret
 exact ⟨ret_bool E.out,B0.out.trans (pp.below.mono B0.out.size)⟩
set_option maxHeartbeats 400000 in
theorem good_else (w:World) (k s f r b:Int) (h1:k≠1) (h2:k≠2) (h3:k≠3) (h4:k≠4):Calls Tryz.prog 187 #[.agg #[.int .i64 k,.int .i64 s,.int .i64 f,.int .i64 r,.int .i64 b]] w fun e w'=>e = .returned (.bool (okB (k,s,f,r,b)))∧Below w.heap.size w w':=by
 have B0:=Lib.hid ((Below.refl w.heap.size w).alloc (Nat.le_refl _) (.cells #[.int .i64 k,.int .i64 s,.int .i64 f,.int .i64 r,.int .i64 b] 87));have E:Hid (false=okB (k,s,f,r,b)):=Lib.hid (decide_eq_false (show ¬ okE (k,s,f,r,b) by unfold okE;simp only;omega)).symm
 go_enter Tryz.func187,Tryz.ntmps187
 go_wp2
 go_ret
 exact ⟨ret_bool E.out,B0.out⟩
theorem good_any (w:World) (x:E5):Calls Tryz.prog 187 #[ent x] w fun e w'=>e = .returned (.bool (okB x))∧Below w.heap.size w w':=by
 obtain ⟨k,s,f,r,b⟩:=x
 show Calls Tryz.prog 187 #[.agg #[.int .i64 k,.int .i64 s,.int .i64 f,.int .i64 r,.int .i64 b]] w _
 by_cases h1:k=1
 ·exact good_act w k s f r b 3 (.inl ⟨.inl h1,rfl⟩)
 ·by_cases h2:k=2
  ·exact good_act w k s f r b 3 (.inl ⟨.inr h2,rfl⟩)
  ·by_cases h3:k=3
   ·exact good_act w k s f r b 0 (.inr ⟨h3,rfl⟩)
   ·by_cases h4:k=4
    ·subst h4;exact good_end w s f r b
    ·exact good_else w k s f r b h1 h2 h3 h4
end Go.Proofs.YtljnkaodhfnbbaaGreatDoor.Ro
namespace Go.Proofs.YtljnkaodhfnbbaaGreatDoor.Pa
open Go.RowKit Go.Maps
open Fs (Wf law keyI Rh)
open Rw (Rd Ow At)
open Fl (row_cell row_frozen)
open Ro (E5 z5 eat K5 at5 okE okB ok_yes ent good_any okE_bounds)
attribute [local irreducible] Sd.wpSd wpQuiet
structure RcI (w:World) (t:List E5) (k:Nat) (N:Nat) (vs:Int→Int→Value) (D:DataW Value) (wr:World):Prop where
 gm:Gm wr w.heap.size N (t.take k) vs D
 le:N≤k
 bel:Below w.heap.size w wr
theorem RcI.below {w:World} {t:List E5} {k N:Nat} {vs:Int→Int→Value} {D:DataW Value} {wr wr':World} (h:Hid (RcI w t k N vs D wr)) (b:Below wr.heap.size wr wr'):Hid (RcI w t k N vs D wr'):=⟨h.out.gm.below b,h.out.le,h.out.bel.trans (b.mono h.out.bel.size)⟩
def RecdPost (w:World) (t:List E5) (e:Ending) (w':World):Prop:=∃ b N vs D,e = .returned (.map (some b))∧Gm w' b N t vs D∧w.heap.size≤b∧N≤t.length∧Below w.heap.size w w'
theorem Gm.to {w:World} {b N:Nat} {t t':List E5} {vs:Int→Int→Value} {D:DataW Value} (h:Gm w b N t vs D) (e:∀ f r,grp t f r=grp t' f r):Gm w b N t' vs D :=
 ⟨h.own,fun f r hf hr=>by rw [← e f r];exact h.has f r hf hr,fun f r hf hr hg=>h.val f r hf hr (by rw [e f r];exact hg),fun f r hg=>h.nil f r (by rw [e f r];exact hg),fun f r=>by rw [← e f r];exact h.row f r,h.far⟩
set_option maxHeartbeats 400000 in
theorem received_any (w:World) (v:Value) (t:List E5) (R:Rd K5 w v t) (ok:∀ x∈t,okE x) (hl:t.length≤1000):Calls Tryz.prog 144 #[v] w (RecdPost w t):=by
 have OK:Hid (∀ k,k < t.length→okE (eat t k)):=fun k hk=>ok _ (Ro.eat_mem hk);have hmm:=@run_makeMap Tryz.prog;have G0:Hid (RcI w t 0 0 (fun _ _=>.slice none 0 0) (.map []) (w.alloc (.map #[] 0))):=⟨gm_new w,Nat.le_refl _,(Below.refl w.heap.size w).alloc (Nat.le_refl _) _⟩;obtain ⟨a,cap,rfl,_,hm,hA⟩:=R;have HA:=Lib.hid hA;clear hA ok;generalize hn:t.length=n at *;have HN:=Lib.hid hn;clear hn
 go_enter Tryz.func144,Tryz.ntmps144
 go_wp2;clear hmm
 go_loopw [10] (fun i wr=>∃ (k:Nat) (N:Nat) (vs:Int→Int→Value) (D:DataW Value),k≤n∧i = .int .i64 k∧Hid (RcI w t k N vs D wr)) (fun i _=>n - (intOf i).toNat)
 case atStart=>exact ⟨0,0,_,_,Nat.zero_le _,rfl,G0⟩
 case round =>
  obtain ⟨k,N,vs,D,hk,rfl,I⟩:=hrel;clear G0
  by_cases hlt:k < n
  ·obtain ⟨b,off,rfl,A⟩:=HA.out (by omega)
   obtain ⟨c0,c1,c2,c3,c4⟩:=at5 (A.below I.out.bel) k (by have:=HN.out;omega);rw [show t.getD k z5=eat t k from rfl] at c0 c1 c2 c3 c4;have oke:=OK.out k (by have:=HN.out;omega);have TK:=Lib.hid (take_eat (t:=t) (j:=k) (by have:=HN.out;omega));have NO:Hid ((eat t k).1≠2→Hid (RcI w t (k+1) N vs D wr)):=fun h=>⟨I.out.gm.to (fun f r=>by rw [TK.out,grp_snoc,if_neg];simp [mt,h]),by have:=I.out.le;omega,I.out.bel⟩;clear A OK;generalize eat t k=x at *;obtain ⟨q,s,f,r,y⟩:=x;simp only at c0 c1 c2 c3 c4 NO;have GA:=Lib.hid (fun w=>good_any w (q,s,f,r,y));rw [ok_yes oke] at GA;unfold ent at GA;simp only at GA;have OKE:=Lib.hid oke;clear oke
   by_cases h2:q=2
   ·clear NO
    subst h2;obtain ⟨_,_,⟨f0,f1⟩,⟨r0,r1⟩,_⟩:=okE_bounds OKE.out;simp only at f0 f1 r0 r1;have WF:=Lib.hid (wf_of (n:=f) ⟨f0,by omega⟩);have WR:=Lib.hid (wf_of (n:=r) ⟨r0,by omega⟩);clear f0 f1 r0 r1;go_wp2_with fail;refine (GA.out _).mono ?_;rintro e w1 ⟨rfl,b1⟩;have X1:Hid (w1.heap[wr.heap.size]? = some (.cells #[.int .i64 2,.int .i64 s,.int .i64 f,.int .i64 r,.int .i64 y] 87 (0,0))):=Lib.hid ((b1.block _ (by simp)).trans (heap_alloc_new wr _));have B1:Hid (Below wr.heap.size wr w1):=Lib.hid (((Below.refl wr.heap.size wr).alloc (Nat.le_refl _) _).trans (b1.mono (by simp)));have x2:w1.cell? ⟨wr.heap.size,2,none⟩=some (.int .i64 f):=row_cell X1.out 2;have x3:w1.cell? ⟨wr.heap.size,3,none⟩=some (.int .i64 r):=row_cell X1.out 3;clear b1 c0 c1 c2 c3 c4 GA;go_upto_region 7 with fail;have P2:Hid ((w1.alloc (.cells #[.int .i64 f,.int .i64 r] 248)).heap[w1.heap.size]? = some (.cells #[.int .i64 f,.int .i64 r] 248 (0,0))):=Lib.hid (heap_alloc_new w1 _);have B2:Hid (Below w1.heap.size w1 (w1.alloc (.cells #[.int .i64 f,.int .i64 r] 248))):=Lib.hid ((Below.refl w1.heap.size w1).alloc (Nat.le_refl _) _);clear x2 x3;generalize (w1.alloc (.cells #[.int .i64 f,.int .i64 r] 248))=W at *;have X2:=Lib.hid ((B2.out.block _ (lt_of_block X1.out)).trans X1.out);have GB:=Lib.hid (B1.out.trans (B2.out.mono B1.out.size));have hgw:w1.heap.size < W.heap.size:=lt_of_block P2.out;generalize w1.heap.size=g2 at *;clear B1 B2 X1;have p0:W.cell? ⟨g2,0,none⟩=some (.int .i64 f):=row_cell P2.out 0;have p1:W.cell? ⟨g2,1,none⟩=some (.int .i64 r):=row_cell P2.out 1;have x0:W.cell? ⟨wr.heap.size,0,none⟩=some (.int .i64 2):=row_cell X2.out 0;have x1:W.cell? ⟨wr.heap.size,1,none⟩=some (.int .i64 s):=row_cell X2.out 1;have x2:W.cell? ⟨wr.heap.size,2,none⟩=some (.int .i64 f):=row_cell X2.out 2;have x3:W.cell? ⟨wr.heap.size,3,none⟩=some (.int .i64 r):=row_cell X2.out 3;have x4:W.cell? ⟨wr.heap.size,4,none⟩=some (.int .i64 y):=row_cell X2.out 4;have bL:=(Below.refl W.heap.size W).alloc (Nat.le_refl _) (.cells #[.int .i64 2,.int .i64 s,.int .i64 f,.int .i64 r,.int .i64 y] 87);have GM:=(I.out.gm.below (GB.out.trans (bL.mono (GB.out.size)))).step (x:=(2,s,f,r,y)) (by have:=I.out.le;unfold maxLen;omega) rfl WF.out WR.out;obtain ⟨st,w2,hE,hg2,hz2,hS⟩:=GM;simp only at hE hS;have hwb:w.heap.size < wr.heap.size:=I.out.gm.own.lt;have hr2:=World.ownsRow.kept (World.ownsRow.alloc ((I.out.gm.row f r).keep GB.out) (.cells #[.int .i64 2,.int .i64 s,.int .i64 f,.int .i64 r,.int .i64 y] 87)) hg2 (.inr fun e=>by have:=World.ownsRow.lt (I.out.gm.row f r) _ e;omega);have L2:Hid (w2.heap[W.heap.size]? = some (.cells #[.int .i64 2,.int .i64 s,.int .i64 f,.int .i64 r,.int .i64 y] 87 (0,0))):=Lib.hid ((hg2.block _ (by simp) (fun e=>by have:=Option.some.inj e;have:=GB.out.size;omega)).trans (heap_alloc_new W _));have hz3:W.heap.size+1=w2.heap.size:=by rw [hz2];simp
    have BW:Hid (Below w.heap.size w w2):=Lib.hid (((I.out.bel.trans (GB.out.mono I.out.bel.size)).alloc (by have:=GB.out.size;omega) (.cells #[.int .i64 2,.int .i64 s,.int .i64 f,.int .i64 r,.int .i64 y] 87)).grown hg2 (by have:=GB.out.size;simp;omega) (fun k e=>by injection e with e;omega));have O2:Hid (Ow K5 w2 (w.heap.size+1) 87 (vs f r) (grp (t.take k) f r)):=Lib.hid hr2;have gw:=GB.out.size;have HX:=Lib.hid (And.intro hwb (And.intro hz3 gw));have GX:=Lib.hid hS;obtain ⟨av,cv,ev,_⟩:=O2.out.slice;generalize hgl:(grp (t.take k) f r).length=gl at ev;have HGL:=Lib.hid hgl;have EV:=Lib.hid ev;unfold plc at hE;rw [ev] at hE O2;clear hg2 hz2 hS bL hr2 hwb hz3 gw ev hgl
    go_wp2_with (at_builtin;refine push_group rfl _ _ rfl (w.heap.size+1) _ _ rfl O2.out _ ((2,s,f,r,y):E5) rfl ?d1 ?d2 ?d3 ?_)
    case d1 =>
     intro j u hu
     match j,hu with
     | 0,hu=>simp [K5] at hu;subst hu;exact row_cell L2.out 0
     | 1,hu=>simp [K5] at hu;subst hu;exact row_cell L2.out 1
     | 2,hu=>simp [K5] at hu;subst hu;exact row_cell L2.out 2
     | 3,hu=>simp [K5] at hu;subst hu;exact row_cell L2.out 3
     | 4,hu=>simp [K5] at hu;subst hu;exact row_cell L2.out 4
     | j+5,hu=>simp [K5] at hu
    case d2 =>
     have:=List.length_filter_le (mt f r) (t.take k);have h2:(t.take k).length≤1000:=by rw [List.length_take];have:=HN.out;omega
     unfold grp
     omega
    case d3=>have:=HX.out;omega
    intro v' w3 o3 g3 h3
    have hS:=GX.out;rw [EV.out] at hS;obtain ⟨w4,D',hS4,g4,G4⟩:=hS w3 v' g3 o3 (h3.imp id fun ⟨g,e,h⟩=>⟨g,e,h⟩);obtain ⟨av',cv',ev',_⟩:=o3.slice;generalize (grp (t.take k) f r ++ [((2,s,f,r,y):E5)]).length=gl' at ev';subst ev';have NEW:Hid (RcI w t (k+1) (N+1) (upP vs f r (.slice av' gl' cv')) D' w4):=Lib.hid ⟨by rw [TK.out];exact G4,by have:=I.out.le;omega,(BW.out.grown g3 (by have:=HX.out;omega) (fun k e=>by have:=World.ownsRow.lt O2.out k e;omega)).grown g4 (by have:=HX.out;have:=g3.size;omega) (fun k e=>by injection e with e;omega)⟩;clear hS o3 g3 h3 g4 G4 hE;go_wp2
    go_roundw
    case rel=>exact ⟨k+1,N+1,_,D',by omega,by go_num,NEW⟩
    case measure=>simp [intOf];omega
   ·have NN:=NO.out h2
    clear NO;have d2:(q == 2)=false:=by simpa using h2
    clear h2;go_wp2
    go_roundw
    case rel=>exact ⟨k+1,N,vs,D,by omega,by go_num,RcI.below NN ((Below.refl wr.heap.size wr).alloc (Nat.le_refl _) _)⟩
    case measure=>simp [intOf];omega
  ·obtain rfl:k=n:=by omega
   have E:Hid (RecdPost w t (.returned (.map (some w.heap.size))) wr):=⟨_,N,vs,D,rfl,by have h:=I.out.gm;rw [← HN.out,List.take_length] at h;exact h,Nat.le_refl _,by have:=I.out.le;have:=HN.out;omega,I.out.bel⟩;go_wp2
   go_ret
   exact E.out
end Go.Proofs.YtljnkaodhfnbbaaGreatDoor.Pa
namespace Go.Proofs.YtljnkaodhfnbbaaGreatDoor.Pa
open Go.RowKit Go.Maps
open Fs (Abs St Only Fx Wf Rh gB gV sA sB set_any SetPost get_st GetPost)
open Rw (Rd Ow At)
open Ro (E5 z5 eat K5 at5 okE ent)
open Fl (R4 z4 rec4 okR arr4 row_cell row_frozen)
attribute [local irreducible] Sd.wpSd wpQuiet
theorem arr4_set (v:R4) (x:Int) {j:Nat} (hj:j < 4):(arr4 v).setIfInBounds j (.int .u8 x)=arr4 (rs v j x):=by
 obtain rfl | rfl | rfl | rfl:j=0∨j=1∨j=2∨j=3:=by omega
 all_goals rfl
theorem arr4_get (v:R4) {j:Nat} (hj:j < 4):(arr4 v)[j]? = some (.int .u8 (rb v j)):=by
 obtain rfl | rfl | rfl | rfl:j=0∨j=1∨j=2∨j=3:=by omega
 all_goals rfl
structure RvI (w:World) (f r:Int) (gv:Nat) (v:R4) (wr:World):Prop where
 bel:Below w.heap.size w wr
 box:wr.heap[w.heap.size]? = some (.cells #[.int .i64 f,.int .i64 r] 248 (0,0))
 cel:wr.heap[gv]? = some (.cells (arr4 v) 42 (0,0))
 gt:w.heap.size < gv
theorem RvI.below {w wr wr':World} {f r:Int} {gv:Nat} {v:R4} (h:RvI w f r gv v wr) (b:Below wr.heap.size wr wr'):RvI w f r gv v wr' :=
 ⟨h.bel.trans (b.mono h.bel.size),(b.block _ (lt_of_block h.box)).trans h.box,(b.block _ (lt_of_block h.cel)).trans h.cel,h.gt⟩
theorem RvI.put {w wr:World} {f r:Int} {gv:Nat} {v:R4} (h:RvI w f r gv v wr) {j:Nat} (hj:j < 4) (x:Int):RvI w f r gv (rs v j x) (wr.setCell ⟨gv,j,none⟩ (.int .u8 x)) :=
 ⟨h.bel.setCell (by have:=h.gt;simp;omega) _,(Below.heap_setCell _ _ _ _ (by have:=h.gt;simp;omega)).trans h.box,by rw [Rw.heap_setCell_same h.cel,arr4_set v x hj],h.gt⟩
def RcvPost (w:World) (s:Nat) (F:Nat→Prop) (d:Int) (A':Abs) (e:Ending) (w':World):Prop:=e = .returned (.tuple #[])∧St w' s (Fx F w w') A' d∧Only F w w'
theorem mix_next {h:Hr} {l:List E5} {k:Nat} (hk:k < l.length) (v:R4):mix h (l.take (k+1)) v=rs (mix h (l.take k) v) (eat l k).2.2.2.2 ((h (eat l k).2.1).getD 0):=by
 unfold mix;rw [take_eat hk,List.foldl_append]
 rfl
set_option maxHeartbeats 400000 in
theorem receive_any {w:World} {s:Nat} {F:Nat→Prop} {A:Abs} {d:Int} (S:St w s F A d) {f r:Int} (hf:Wf f) {v hv:Value} {l:List E5} (R:Rd K5 w v l) {h:Hr} (M:HMap w hv h) (hh:okH h) (hl:∀ x∈l,Wf x.2.1∧0≤x.2.2.2.2∧x.2.2.2.2≤3) :
 Calls Tryz.prog 145 #[.pointer (some ⟨s,0,none⟩),.agg #[.int .i64 f,.int .i64 r],v,hv] w (RcvPost w s F d (rcv1 h l f r A)):=by
 have HL:Hid (∀ k,k < l.length→Wf (eat l k).2.1∧0≤(eat l k).2.2.2.2∧(eat l k).2.2.2.2≤3):=fun k hk=>hl _ (Ro.eat_mem hk);have G1:=Lib.hid (fun W (b:Below w.heap.size w W)=>get_st (S.below b) hf r);have ok0:okR (gV A f r):=by
  have hA:=S.okA;unfold gV
  split
  ·exact Fl.okR_z
  ·rename_i e he
   split
   ·exact Fl.okR_at (hA.find he).2.2.1 _
   ·exact Fl.okR_z
 have FIN:Hid (gB A f r=true→(∀ k,k < l.length→(h (eat l k).2.1).isSome=true)→rcv1 h l f r A=sA A f r (mix h l (gV A f r))):=fun hg ha=>by
  unfold rcv1;rw [if_pos];rw [hg,Bool.true_and];unfold allH;rw [List.all_eq_true]
  intro x hx
  obtain ⟨k,hk,e⟩:=List.getElem_of_mem hx;have e':eat l k=x:=by rw [← e];unfold eat;rw [List.getD_eq_getElem?_getD,List.getElem?_eq_getElem hk];rfl
  rw [← e'];exact ha k hk
 have NOG:Hid (gB A f r=false→rcv1 h l f r A=A):=fun hg=>by unfold rcv1;rw [if_neg (by simp [hg])]
 have NOH:Hid (∀ k,k < l.length→h (eat l k).2.1=none→rcv1 h l f r A=A):=fun k hk e=>by
  unfold rcv1;rw [if_neg]
  intro ha
  rw [Bool.and_eq_true] at ha;have:=List.all_eq_true.1 ha.2 _ (Ro.eat_mem hk);rw [e] at this
  cases this
 have SET:=Lib.hid (fun W (b:Below w.heap.size w W)=>set_any (S.below b) hf r (mix h l (gV A f r)) (mix_ok hh l ok0));have SAME:Hid (∀ W,Below w.heap.size w W→rcv1 h l f r A=A→RcvPost w s F d (rcv1 h l f r A) (.returned (.tuple #[])) W):=fun W b e=>⟨rfl,by rw [e];exact S.fx b,Only.of_below b⟩;have END:Hid (∀ W W' x b,Below w.heap.size w W→rcv1 h l f r A=sA A f r x→SetPost W s F d b (sA A f r x) (.returned (.bool b)) W'→RcvPost w s F d (rcv1 h l f r A) (.returned (.tuple #[])) W'):=fun W W' x b hb e ⟨_,q1,q2⟩=>by
  have o:=(Only.of_below (G:=F) hb).trans q2 fun _ _ g=>g
  exact ⟨rfl,by rw [e];exact q1.wide (fun k hk=>by
   rcases hk with hk | ⟨hk,hk2⟩
   ·exact .inl hk
   ·exact .inr ⟨Nat.le_trans hb.size hk,hk2⟩) (Fx.low S.low o.size),o⟩
 have MM:=Lib.hid M;obtain ⟨a,cap,rfl,_,hm,hA⟩:=R;have HA:=Lib.hid hA;unfold maxLen at hm;clear hA hl S M hh ok0;generalize hn:l.length=n at *;have HN:=Lib.hid hn;clear hn;generalize gV A f r=v0 at *;have P0:Hid ((w.alloc (.cells #[.int .i64 f,.int .i64 r] 248)).heap[w.heap.size]? = some (.cells #[.int .i64 f,.int .i64 r] 248 (0,0))):=heap_alloc_new w _;have B0:Hid (Below w.heap.size w (w.alloc (.cells #[.int .i64 f,.int .i64 r] 248))):=(Below.refl w.heap.size w).alloc (Nat.le_refl _) _
 go_enter Tryz.func145,Tryz.ntmps145
 go_wp2_with fail;generalize (w.alloc (.cells #[.int .i64 f,.int .i64 r] 248))=W at *;unfold GetPost at G1;unfold rec4 at G1;refine (G1.out W B0.out).mono ?_;rintro e w1 ⟨rfl,b1⟩;have I0:Hid (RvI w f r w1.heap.size v0 (w1.alloc (.cells #[.int .u8 v0.1,.int .u8 v0.2.1,.int .u8 v0.2.2.1,.int .u8 v0.2.2.2] 42))):=by
  have b2:=B0.out.trans (b1.mono B0.out.size);have p1:=(b1.block _ (lt_of_block P0.out)).trans P0.out;exact ⟨b2.alloc b2.size _,((Below.refl w1.heap.size w1).alloc (Nat.le_refl _) _ |>.block _ (lt_of_block p1)).trans p1,heap_alloc_new w1 _,lt_of_block p1⟩
 clear P0 B0 b1 G1
 cases hg:gB A f r with
 | false =>
   have RES:=Lib.hid (fun W b=>SAME.out W b (NOG.out hg));clear SAME NOG FIN NOH END SET hg;go_wp2;refine bodyPost_ret (results_none rfl _ _ _) rfl ?_;exact RES.out _ I0.out.bel
 | true =>
   have FN:=Lib.hid (FIN.out hg);clear NOG FIN hg;go_upto_region 3 with fail;have hgv:=I0.out.gt;generalize (w1.alloc (.cells #[.int .u8 v0.1,.int .u8 v0.2.1,.int .u8 v0.2.2.1,.int .u8 v0.2.2.2] 42))=W0 at *;generalize w1.heap.size=gv at *;go_wp2
   go_loopw [27] (fun i wr=>∃ k:Nat,k≤n∧i = .int .i64 k∧Hid (RvI w f r gv (mix h (l.take k) v0) wr)∧Hid (∀ j,j < k→(h (eat l j).2.1).isSome=true)) (fun i _=>n - (intOf i).toNat)
   case atStart=>exact ⟨0,Nat.zero_le _,rfl,I0,fun j hj=>by omega⟩
   case round =>
    obtain ⟨k,hk,rfl,I,HS⟩:=hrel;clear I0
    by_cases hlt:k < n
    ·obtain ⟨b,off,rfl,A1⟩:=HA.out (by omega)
     obtain ⟨c0,c1,c2,c3,c4⟩:=at5 (A1.below I.out.bel) k (by have:=HN.out;omega);rw [show l.getD k z5=eat l k from rfl] at c0 c1 c2 c3 c4;obtain ⟨ws,y0,y3⟩:=HL.out k (by have:=HN.out;omega);have MX:=Lib.hid (mix_next (h:=h) (l:=l) (k:=k) (by have:=HN.out;omega) v0);have NH:Hid (h (eat l k).2.1=none→rcv1 h l f r A=A):=fun e=>NOH.out k (by have:=HN.out;omega) e;have SN:Hid ((h (eat l k).2.1).isSome=true→∀ j,j < k+1→(h (eat l j).2.1).isSome=true):=fun g j hj=>by
      by_cases e:j=k
      ·rw [e];exact g
      ·exact HS.out j (by omega)
     clear A1 HS;generalize eat l k=x at *;obtain ⟨q,s',f',r',y⟩:=x;simp only at c0 c1 c2 c3 c4 ws y0 y3 MX NH SN;obtain ⟨j,rfl⟩:∃ j:Nat,y=j:=⟨y.toNat,by omega⟩;have hj:j < 4:=by omega
     have WS:=Lib.hid ws;generalize mix h (l.take k) v0=vv at *;have I1:Hid (RvI w f r gv vv (wr.alloc (.cells #[.int .i64 q,.int .i64 s',.int .i64 f',.int .i64 r',.int .i64 (j:Int)] 87))):=I.out.below ((Below.refl wr.heap.size wr).alloc (Nat.le_refl _) _);have M1:=Lib.hid (MM.out.below I1.out.bel);have hfz:=row_frozen I1.out.cel j;have hcj:=(row_cell I1.out.cel j).trans (arr4_get vv hj);clear ws y0 y3
     cases hs:h s' with
     | none =>
       have RES:=Lib.hid (SAME.out _ I1.out.bel (NH.out hs));clear SAME NH NOH SN MX FN SET END
       go_wp2_with (at_lookup;refine at_heard rfl _ _ rfl rfl M1.out s' rfl WS.out 0 false (by rw [hs];rfl) (by rw [hs];rfl) ?_)
       refine bodyPost_ret (results_none rfl _ _ _) rfl ?_;exact RES.out
     | some y =>
       have SS:=Lib.hid (SN.out (by rw [hs];rfl));have MY:Hid (mix h (l.take (k+1)) v0=rs vv j y):=by rw [MX.out,hs];exact Lib.hid rfl
       have I2:=Lib.hid (I1.out.put hj y);clear NH NOH SN MX
       go_wp2_with (at_lookup;refine at_heard rfl _ _ rfl rfl M1.out s' rfl WS.out y true (by rw [hs];rfl) (by rw [hs];rfl) ?_)
       go_roundw
       case rel=>exact ⟨k+1,by omega,by go_num,by rw [MY.out];exact I2,SS⟩
       case measure=>simp [intOf];omega
    ·obtain rfl:k=n:=by omega
     have TK:l.take k=l:=by rw [← HN.out,List.take_length]
     rw [TK] at I;have EQ:=Lib.hid (FN.out (fun j hj=>HS.out j (by have:=HN.out;omega)));have ED:=Lib.hid (fun W' b q=>END.out wr W' (mix h l v0) b I.out.bel EQ.out q);have ST:=Lib.hid (SET.out wr I.out.bel);have p0:wr.cell? ⟨w.heap.size,0,none⟩=some (.int .i64 f):=row_cell I.out.box 0;have p1:wr.cell? ⟨w.heap.size,1,none⟩=some (.int .i64 r):=row_cell I.out.box 1;have q0:=row_cell I.out.cel 0;have q1:=row_cell I.out.cel 1;have q2:=row_cell I.out.cel 2;have q3:=row_cell I.out.cel 3;unfold arr4 at q0 q1 q2 q3;unfold rec4 at ST;clear HS FN NOH SAME SET END EQ TK;generalize mix h l v0=vv at *;go_wp2_with fail;refine ST.out.mono ?_;rintro e w2 ⟨rfl,q1,q2⟩;have RES:=Lib.hid (ED.out w2 false ⟨rfl,q1,q2⟩);clear q1 q2 ED;go_wp2
     go_end0
     exact RES.out
end Go.Proofs.YtljnkaodhfnbbaaGreatDoor.Pa
namespace Go.Proofs.YtljnkaodhfnbbaaGreatDoor.Pa
open Go.RowKit Go.Maps
open Fs (Abs St Only Fx Wf Rh gB gV sA sB dA dD dE OkA copy_any CopySt dos_any DoSPost Glob rd_only)
open Rw (Rd Ow At)
open Ro (E5 z5 eat K5 at5 okE ent okE_bounds)
open Fl (R4 z4 rec4 okR arr4 row_cell row_frozen)
attribute [local irreducible] Sd.wpSd wpQuiet
theorem ranges_kept {w w':World} {b r n:Nat} {D:DataW Value} {left:Lit→Bool} {cnt:Nat} (h:w.ranges Tryz.prog 248 Rh b r n D left cnt) (hb:w'.heap[b]? = w.heap[b]?) (hr:w'.heap[r]? = w.heap[r]?):w'.ranges Tryz.prog 248 Rh b r n D left cnt:=by
 obtain ⟨es,clock,since,seen,c0,q1,q2,q3,q4,q5,q6⟩:=h;exact ⟨es,clock,since,seen,c0,hb.trans q1,q2,q3,q4,hr.trans q5,q6⟩
def Vis (t:List E5) (left:Lit→Bool) (n k:Int):Bool:=decide (grp t n k≠[]) && !left (pk n k)
structure Fixed (w:World) (t:List E5) (b r N B0 B1:Nat) (vs:Int→Int→Value) (D:DataW Value):Prop where
 has:∀ f r,Wf f→Wf r→Maps.has D (pk f r)=decide (grp t f r≠[])
 val:∀ f r,Wf f→Wf r→grp t f r≠[]→∀ z,D.atKey (pk f r) z = .held (vs f r)
 in_:∀ f r k,(vs f r).ownBlock=some k→B0≤k∧k < B1
 inb:B0≤b∧b < B1
 inr:B0≤r∧r < B1
 le:w.heap.size≤B0
structure AI (w:World) (t:List E5) (h:Hr) (A:Abs) (d:Int) (b r N B0 B1:Nat) (vs:Int→Int→Value) (D:DataW Value) (g:Nat) (wr:World) (left:Lit→Bool) (cnt:Nat) (F:Nat→Prop):Prop where
 rg:wr.ranges Tryz.prog 248 Rh b r N D left cnt
 has:∀ kl,left kl=true→Maps.has D kl=true
 st:St wr g F (recV h t (Vis t left) A) d
 row:∀ f r,Rd K5 wr (vs f r) (grp t f r)
 lo:∀ k,F k→w.heap.size≤k
 off:∀ k,F k→k < B0∨B1≤k
 sz:B1≤wr.heap.size
 bel:Below w.heap.size w wr
def ApPost (w:World) (x:Abs×Int) (e:Ending) (w':World):Prop:=∃ g F,e = .returned (ptr g)∧St w' g F x.1 x.2∧(∀ k,F k→w.heap.size≤k)∧Below w.heap.size w w'
theorem grp_wf {t:List E5} (ok:∀ x∈t,okE x) {n k:Int} (h:grp t n k≠[]):Wf n∧Wf k:=by
 obtain ⟨x,hx⟩:=List.exists_mem_of_ne_nil _ h;obtain ⟨h1,h2⟩:=List.mem_filter.1 hx;obtain ⟨_,_,q1,q2,_⟩:=okE_bounds (ok x h1);simp only [mt,decide_eq_true_eq] at h2;rw [← h2.2.1,← h2.2.2];exact ⟨wf_of (by omega),wf_of (by omega)⟩
theorem grp_y {t:List E5} (ok:∀ x∈t,okE x) (n k:Int):okY (grp t n k):=fun x hx=>by
 obtain ⟨_,_,_,_,q⟩:=okE_bounds (ok x (List.mem_filter.1 hx).1);exact q
theorem grp_r {t:List E5} (ok:∀ x∈t,okE x) {n k:Int} (h:grp t n k≠[]):k≠0:=by
 obtain ⟨x,hx⟩:=List.exists_mem_of_ne_nil _ h;obtain ⟨h1,h2⟩:=List.mem_filter.1 hx;simp only [mt,decide_eq_true_eq] at h2;have:=ok x h1;unfold okE Ro.place at this
 omega
theorem grp_h {t:List E5} (ok:∀ x∈t,okE x) (n k:Int):∀ x∈grp t n k,Wf x.2.1∧0≤x.2.2.2.2∧x.2.2.2.2≤3:=fun x hx=>by
 obtain ⟨_,q1,_,_,q⟩:=okE_bounds (ok x (List.mem_filter.1 hx).1);exact ⟨wf_of (by omega),q⟩
theorem vis_next {t:List E5} (ok:∀ x∈t,okE x) {left:Lit→Bool} {f r:Int} (hf:Wf f) (hr:Wf r) (hl:left (pk f r)=true) (hg:grp t f r≠[]) {h:Hr} {A:Abs} (hA:OkA A) :
 rcv1 h (grp t f r) f r (recV h t (Vis t left) A)=recV h t (Vis t fun z=>left z && !z.sameKey (pk f r)) A:=by
 rw [rcv1_next hA (grp_r ok hg) (grp_y ok f r)];refine rec_congr fun n k hnk=>?_;obtain ⟨hn,hk⟩:=grp_wf ok hnk;unfold also Vis
 by_cases e:n=f∧k=r
 ·obtain ⟨rfl,rfl⟩:=e
  have:(pk n k).sameKey (pk n k)=true:=by simp [pk,Lit.sameKey]
  simp [hnk,this]
 ·have:(pk n k).sameKey (pk f r)=false:=sameKey_ne fun e2=>e (pk_inj hn hk hf hr e2)
  simp [this,e]
theorem vis_start {t:List E5} (ok:∀ x∈t,okE x) {D:DataW Value} (hD:∀ f r,Wf f→Wf r→Maps.has D (pk f r)=decide (grp t f r≠[])) (h:Hr) (A:Abs):recV h t (Vis t (Maps.has D)) A=A:=by
 rw [rec_congr (V':=fun _ _=>false) fun n k hnk=>?_]
 ·exact rec_none fun _ _=>rfl
 ·obtain ⟨hn,hk⟩:=grp_wf ok hnk
  unfold Vis;rw [hD n k hn hk]
  simp [hnk]
theorem vis_end {t:List E5} {left:Lit→Bool} (hl:∀ kl,left kl=false) (h:Hr) (A:Abs):recV h t (Vis t left) A=recA h t A:=rec_all fun n k hnk=>by
 unfold Vis;rw [hl]
 simp [hnk]
theorem copy_has {w:World} {s:Nat} {x:Abs×Int} (H:Has w s x):Calls Tryz.prog 84 #[.pointer (some ⟨s,0,none⟩)] w (CopySt w x.1 x.2):=by
 obtain ⟨F,S⟩:=H;exact copy_any S
theorem glob_lt {w:World} (hg:Glob w):1 < w.heap.size:=World.block_lt_of_cell? _ _ hg
structure XI (w:World) (g:Nat) (x:Abs×Int) (wr:World) (F:Nat→Prop):Prop where
 st:St wr g F x.1 x.2
 lo:∀ k,F k→w.heap.size≤k
 bel:Below w.heap.size w wr
theorem XI.below {w:World} {g:Nat} {x:Abs×Int} {wr wr':World} {F:Nat→Prop} (h:XI w g x wr F) (b:Below wr.heap.size wr wr'):XI w g x wr' F:=⟨h.st.below b,h.lo,h.bel.trans (b.mono h.bel.size)⟩
theorem XI.step {w:World} {g:Nat} {x:Abs×Int} {wr wr':World} {F:Nat→Prop} (h:XI w g x wr F) {x':Abs×Int} (st:St wr' g (Fx F wr wr') x'.1 x'.2) (o:Only F wr wr'):XI w g x' wr' (Fx F wr wr') :=
 ⟨st,fun k hk=>by
  rcases hk with hk | ⟨hk,_⟩
  ·exact h.lo k hk
  ·exact Nat.le_trans h.bel.size hk,h.bel.trans (o.below h.bel.size h.lo)⟩
theorem AI.step {w:World} {t:List E5} {h:Hr} {A A':Abs} {d:Int} {b r N B0 B1:Nat} {vs:Int→Int→Value} {D:DataW Value} {g:Nat} {wr w1 w2:World} {left left':Lit→Bool} {cnt cnt':Nat} {F:Nat→Prop}
 (I:AI w t h A d b r N B0 B1 vs D g wr left cnt F) (X:Fixed w t b r N B0 B1 vs D) (rg:w1.ranges Tryz.prog 248 Rh b r N D left' cnt') (has:∀ kl,left' kl=true→left kl=true) (g1:wr.grownBy w1 (some r)) (st:St w2 g (Fx F w1 w2) A' d) (o:Only F w1 w2) (e:A'=recV h t (Vis t left') A) :
 AI w t h A d b r N B0 B1 vs D g w2 left' cnt' (Fx F w1 w2):=by
 have off:∀ k,B0≤k→k < B1→¬ F k:=fun k h0 h1 hk=>by rcases I.off k hk with h | h <;> omega
 have z1:=g1.size;have hs:=I.sz;have ib:=X.inb;have ir:=X.inr;have le:=X.le;have eb:=o.block b (by omega) (off b ib.1 ib.2);have er:=o.block r (by omega) (off r ir.1 ir.2);have bw1:Below w.heap.size w w1:=I.bel.grown g1 I.bel.size (fun j hj=>by injection hj with hj;omega);refine ⟨ranges_kept rg eb er,fun kl hl=>I.has kl (has kl hl),by rw [← e];exact st,fun f r'=>?_,fun k hk=>?_,fun k hk=>?_,Nat.le_trans (Nat.le_trans hs z1) o.size,bw1.trans (o.below bw1.size I.lo)⟩
 ·have R:=I.row f r'
  obtain ⟨es,clock,since,seen,c0,_,_,_,_,hr,_⟩:=I.rg
  have R1:=rd_only R (G:=fun k=>k=r) (fun h0 k hk e=>by
   subst e;obtain ⟨a,cap,ea,_,_,h3⟩:=R;obtain ⟨b',off',rfl,hA⟩:=h3 h0;rw [ea] at hk;obtain rfl:b'=k:=by simpa [Value.ownBlock] using hk
   have c:=hA 0 h0 0 _ rfl
   simp [World.cell?,hr] at c) (Only.grown rfl g1)
  exact rd_only R1 (fun h0 k hk=>off k (X.in_ f r' k hk).1 (X.in_ f r' k hk).2) o
 ·rcases hk with hk | ⟨hk,_⟩
  ·exact I.lo k hk
  ·exact Nat.le_trans bw1.size hk
 ·rcases hk with hk | ⟨hk,_⟩
  ·exact I.off k hk
  ·exact .inr (by omega)
set_option maxHeartbeats 400000 in
theorem apply_any {w:World} {s:Nat} {x:Abs×Int} (H:Has w s x) (hg:Glob w) (hd:0≤x.2∧x.2 < 900000) {v hv:Value} {t:List E5} (R:Rd K5 w v t) (ok:∀ y∈t,okE y) (hl:t.length≤100) {h:Hr} (M:HMap w hv h) (hh:okH h) :
 Calls Tryz.prog 82 #[.pointer (some ⟨s,0,none⟩),v,hv] w (ApPost w (apS h t x)):=by
 have HG:=Lib.hid hg;have C0:=Lib.hid (copy_has H);have RR:=Lib.hid R;have MM:=Lib.hid M;have hA:=Lib.hid H.okA;obtain ⟨A,d⟩:=x;unfold CopySt at C0;simp only at C0 hd hA;obtain ⟨a,cap,rfl,_,hm,hA0⟩:=R;have HA0:=Lib.hid hA0;clear hA0;unfold maxLen at hm;clear H M hg;generalize hn:t.length=n at *;have HN:=Lib.hid hn;have OKT:=Lib.hid ok;have HH:=Lib.hid hh;clear hn ok hh
 go_enter Tryz.func82,Tryz.ntmps82
 go_wp2_with fail;refine C0.out.mono ?_;rintro e w1 ⟨g,F1,rfl,s1,lo1,b1⟩;have S1:=Lib.hid s1;have LO1:=Lib.hid lo1;have B1:=Lib.hid b1;clear s1 lo1 b1 C0;have RC:=Lib.hid (received_any w1 _ t (RR.out.below B1.out) OKT.out (by have:=HN.out;omega));go_wp2_with fail;refine RC.out.mono ?_;rintro e w2 ⟨b,N,vs,D,rfl,gm,hb,hN,b2⟩;have GM:=Lib.hid gm;have B2:=Lib.hid b2;have own2:=gm.own;have HB:=Lib.hid (And.intro hb hN);clear gm b2 RC hb hN
 go_wp2_with (first
  | (at_range;refine wpList_range_own _ rfl _ 245 rfl 248 85 keyedP Tryz.underlying245 _ b N _ rfl own2 ?_;intro w0 hrg0 hg0 hs0)
  | fail)
 go_frame
 have hz1:=B1.out.size;have hz2:=B2.out.size;have FX:Hid (Fixed w t b w2.heap.size N w1.heap.size w0.heap.size vs D):=Lib.hid ⟨GM.out.has,GM.out.val,fun f r k hk=>by have:=World.ownsRow.lt (GM.out.row f r) k hk;have:=HB.out.1;omega,⟨HB.out.1,by have:=GM.out.own.lt;omega⟩,⟨hz2,by omega⟩,hz1⟩;have G0:Hid (Below w2.heap.size w2 w0):=Lib.hid ((Below.refl _ _).grown hg0 (Nat.le_refl _) (fun j hj=>by cases hj));have I0:Hid (AI w t h A d b w2.heap.size N w1.heap.size w0.heap.size vs D g w0 (Maps.has D) (Maps.size D) F1):=Lib.hid
  ⟨hrg0,fun kl hk=>hk,by rw [vis_start OKT.out GM.out.has];exact (S1.out.below B2.out).below G0.out,fun f r=>((GM.out.row f r).rd).below G0.out,LO1.out,fun k hk=>.inl (S1.out.low k hk),Nat.le_refl _,(B1.out.trans (B2.out.mono hz1)).trans (G0.out.mono (by omega))⟩
 clear hrg0 hg0 hs0 own2 G0 GM B1 B2 S1 LO1 hz1 hz2 HB;generalize w2.heap.size=r0 at *;generalize w1.heap.size=B0 at *;generalize w0.heap.size=B1 at *
 go_loopw [9] (fun _ wr=>∃ left cnt F,Hid (AI w t h A d b r0 N B0 B1 vs D g wr left cnt F)) (fun _ wr=>wr.rangeLeft b r0)
 case atStart=>exact ⟨_,_,_,I0⟩
 case round =>
  obtain ⟨left,cnt,F,I⟩:=hrel;clear I0;have hrg:=I.out.rg
  go_wp2_with (first
   | (at_next;refine wpList_next_ranges _ rfl _ rfl 248 keyedP Rh (fun p:Int×Int=>plc p.1 p.2) id (fun key kl hkey=>by obtain ⟨f,r,e,_⟩:=keyP_inv hkey;exact ⟨(f,r),e⟩) (fun v y _=>⟨v,rfl⟩) b r0 N _ _ _ rfl hrg ?_ ?_)
   | fail)
  ·intro hc0 hl0
   have SA:Hid (Has wr g (recA h t A,d)):=Lib.hid ⟨F,by have:=I.out.st;rwa [vis_end hl0] at this⟩;have XI0:Hid (XI w g (exU t (recA h t A,d) 0) wr F):=Lib.hid ⟨by have:=I.out.st;rwa [vis_end hl0] at this,I.out.lo,I.out.bel⟩;have XD:=Lib.hid (fun k=>exU_d (t:=t) (recA h t A,d) k);have XE:=Lib.hid (exU_end (t:=t) h (A,d));have XY:=Lib.hid (fun k hk h3=>exU_yes (t:=t) (recA h t A,d) (j:=k) hk h3);have XN:=Lib.hid (fun k hk h3=>exU_no (t:=t) (recA h t A,d) (j:=k) hk h3);clear SA hl0 hrg FX I;generalize recA h t A=RA at *;go_wp2;clear hc0 cnt left
   go_loopw [29] (fun i wr=>∃ (k:Nat) (F:Nat→Prop),k≤n∧i = .int .i64 k∧Hid (XI w g (exU t (RA,d) k) wr F)) (fun i _=>n - (intOf i).toNat)
   case atStart=>exact ⟨0,F,Nat.zero_le _,rfl,XI0⟩
   case round =>
    rename_i wr0 wr
    obtain ⟨k,F',hk,rfl,I⟩:=hrel;clear XI0
    by_cases hlt:k < n
    ·obtain ⟨b1,off,rfl,A1⟩:=HA0.out (by omega)
     obtain ⟨c0,c1,c2,c3,c4⟩:=at5 (A1.below I.out.bel) k (by have:=HN.out;omega);rw [show t.getD k z5=eat t k from rfl] at c0 c1 c2 c3 c4;have okx:=OKT.out _ (Ro.eat_mem (l:=t) (i:=k) (by have:=HN.out;omega));have Y3:=Lib.hid (XY.out k (by have:=HN.out;omega));have N3:=Lib.hid (XN.out k (by have:=HN.out;omega));have DD:=XD.out k;generalize eat t k=x at *;obtain ⟨q,s',f',r',y⟩:=x;simp only at c0 c1 c2 c3 c4 Y3 N3;have I1:=Lib.hid (I.out.below ((Below.refl wr.heap.size wr).alloc (Nat.le_refl _) (.cells #[.int .i64 q,.int .i64 s',.int .i64 f',.int .i64 r',.int .i64 y] 87)));clear A1 I
     by_cases h3:q=3
     ·subst h3
      have Y4:=Lib.hid (Y3.out rfl);have DO:=Lib.hid (dos_any I1.out.st (HG.out.below I1.out.bel) (fun hk=>by have:=I1.out.lo _ hk;have:=glob_lt HG.out;omega) (by have:=HN.out;omega) 2 f' r' z4 Fl.okR_z);unfold Ad.addr rec4 z4 at DO;clear Y3 N3 okx DD;go_wp2_with fail;refine DO.out.mono ?_;rintro e w5 ⟨rfl,q1,q2⟩;have I2:=Lib.hid (I1.out.step (x':=exU t (RA,d) (k+1)) (by rw [Y4.out];exact q1) q2);clear q1 q2 DO I1;go_wp2
      go_roundw
      case rel=>exact ⟨k+1,_,by omega,by go_num,I2⟩
      case measure=>simp [intOf];omega
     ·have d3:(q == 3)=false:=by simpa using h3
      have N4:=N3.out h3;have I2:Hid (XI w g (exU t (RA,d) (k+1)) (wr.alloc (.cells #[.int .i64 q,.int .i64 s',.int .i64 f',.int .i64 r',.int .i64 y] 87)) F'):=by rw [N4];exact I1
      clear Y3 N3 okx DD N4 I1;go_wp2
      go_roundw
      case rel=>exact ⟨k+1,_,by omega,by go_num,I2⟩
      case measure=>simp [intOf];omega
    ·obtain rfl:k=n:=by omega
     have RES:Hid (ApPost w (apS h t (A,d)) (.returned (ptr g)) wr):=Lib.hid ⟨g,F',rfl,by have:=I.out.st;rw [← HN.out] at this;rw [← XE.out];exact this,I.out.lo,I.out.bel⟩;go_wp2
     go_ret
     exact RES.out
  ·intro f r u kl y y2 w1 cnt1 hkey hlk hv hat hrg1 hlt hg1 hs1 hen
   obtain ⟨f',r',e1,hf,hr⟩:=keyP_inv hkey;obtain ⟨rfl,rfl⟩:f=f'∧r=r':=by
    unfold plc at e1;injection e1 with e1;have h1:=congrArg (fun t:Array Value=>t[0]?) e1;have h2:=congrArg (fun t:Array Value=>t[1]?) e1
    simp at h1 h2
    exact ⟨h1,h2⟩
   obtain rfl:kl=pk f r:=by
    have:=keyP hf hr;rw [hkey] at this;exact Option.some.inj this
   have hg:=I.out.has _ hlk;rw [FX.out.has f r hf hr,decide_eq_true_eq] at hg;have hv':u=vs f r:=by
    obtain ⟨h2,_⟩:DataW.held u=y∧[]=y2:=by simpa [Rh] using hv
    have h1:=hat .nil;rw [FX.out.val f r hf hr hg,← h2] at h1;injection h1 with h1;exact h1.symm
   subst hv';have hsz:=I.out.sz;have g1:=hg1;have bw1:Below w.heap.size w w1:=I.out.bel.grown hg1 I.out.bel.size (fun j hj=>by injection hj with hj;have:=FX.out.inr.1;have:=FX.out.le;omega);have off:∀ k,B0≤k→k < B1→¬ F k:=fun k h0 h1 hk=>by rcases I.out.off k hk with h | h <;> omega
   have st1:St w1 g F (recV h t (Vis t left) A) d:=I.out.st.only (G:=fun k=>k=r0) (fun k hk e=>by subst e;exact off k FX.out.inr.1 FX.out.inr.2 hk) (Only.grown rfl hg1)
   have R1:Rd K5 w1 (vs f r) (grp t f r):=rd_only (I.out.row f r) (G:=fun k=>k=r0) (fun h0 k hk e=>by
    subst e;obtain ⟨es,clock,since,seen,c0,_,_,_,_,hr0,_⟩:=I.out.rg;obtain ⟨a',cap',ea,_,_,h3⟩:=I.out.row f r;obtain ⟨b',off',rfl,hA'⟩:=h3 h0;rw [ea] at hk;obtain rfl:b'=k:=by simpa [Value.ownBlock] using hk
    have c:=hA' 0 h0 0 _ rfl
    simp [World.cell?,hr0] at c) (Only.grown rfl hg1)
   have bx:Below w1.heap.size w1 (w1.alloc (.cells #[.int .i64 f,.int .i64 r] 248)):=(Below.refl _ _).alloc (Nat.le_refl _) _;have RV:=Lib.hid (receive_any (st1.below bx) hf (r:=r) (R1.below bx) ((MM.out.below bw1).below bx) HH.out (grp_h OKT.out f r));have EQ:Hid (rcv1 h (grp t f r) f r (recV h t (Vis t left) A)=recV h t (Vis t fun z=>left z && !z.sameKey (pk f r)) A):=Lib.hid (vis_next OKT.out hf hr hlk hg hA.out);have STEP:Hid (∀ w3 A',St w3 g (Fx F w1 w3) A' d→Only F w1 w3→A'=recV h t (Vis t fun z=>left z && !z.sameKey (pk f r)) A→AI w t h A d b r0 N B0 B1 vs D g w3 (fun z=>left z && !z.sameKey (pk f r)) cnt1 (Fx F w1 w3)):=Lib.hid (fun w3 A' st o e=>I.out.step FX.out hrg1 (fun kl hl=>by simp at hl;exact hl.1) hg1 st o e);have BX:=Lib.hid bx;have LT:=Lib.hid hlt;have RG:=Lib.hid I.out.rg;obtain ⟨au,cu,ev,_⟩:=R1.slice;rw [ev] at hen RV ⊢;generalize (grp t f r).length=gl at *;unfold plc at hen ⊢;clear st1 R1 bx off bw1 hrg1 hlt hg1 g1 hs1 hat hv hlk hkey hg hrg hsz I e1 ev;go_wp2_with fail;refine RV.out.mono ?_;rintro e w3 ⟨rfl,q1,q2⟩;have o3:=(Only.of_below (G:=F) BX.out).trans q2 fun _ _ g=>g
   have NEW:=Lib.hid (STEP.out w3 _ (by
    refine q1.wide (fun k hk=>?_) (fun k hk=>?_)
    ·rcases hk with hk | ⟨hk,hk2⟩
     ·exact .inl hk
     ·exact .inr ⟨Nat.le_trans BX.out.size hk,hk2⟩
    ·rcases hk with hk | ⟨_,hk⟩
     ·exact q1.low k (.inl hk)
     ·exact hk) o3 EQ.out)
   have MS:Hid (w3.rangeLeft b r0 < wr.rangeLeft b r0):=by
    show _ < _
    rw [NEW.out.rg.left_eq,RG.out.left_eq];exact LT.out
   clear q1 q2 o3 STEP EQ RG LT RV hen;go_wp2
   go_roundw
   case rel=>exact ⟨_,_,_,NEW⟩
   case measure=>exact MS.out
end Go.Proofs.YtljnkaodhfnbbaaGreatDoor.Pa
