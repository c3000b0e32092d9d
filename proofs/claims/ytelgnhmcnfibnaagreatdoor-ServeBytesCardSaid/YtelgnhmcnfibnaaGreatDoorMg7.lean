import Derived.Test.YtelgnhmcnfibnaaGreatDoorMg6
import Derived.WalkKit
import Derived.Test.YtelgnhmcnfibnaaGreatDoorMg2
import Derived.Test.YtelgnhmcnfibnaaGreatDoorMg4
import Derived.Maps.Range
import Derived.Maps.RangeWalk
import Derived.Maps.RangeRun
import Derived.Deep.Cut
import Derived.Test.YtelgnhmcnfibnaaGreatDoorMg1
import Derived.Test.YtelgnhmcnfibnaaGreatDoorMg5
import Derived.Test.YtelgnhmcnfibnaaGreatDoorMg3
import Derived.Test.YtelgnhmcnfibnaaGreatDoorChecked
import Derived.Laws.Rows
import Derived.Deep.WholeRow
import Derived.DeepKeys
import Derived.LoopTactic
import Derived.Outline
import Derived.Deep.LoopGhost
import Derived.Deep.Draws
import Derived.Lib.Hide
set_option maxRecDepth 100000
namespace Go.Proofs.YtelgnhmcnfibnaaGreatDoor.Ck
open Ro (E5 z5 eat mayP mayB okE okAt prevS)
abbrev LL:=List (List E5)
def lat (L:LL) (n:Nat):List E5:=L.getD n []
theorem lat_take {L:LL} {n j:Nat} (h:j < n):lat (L.take n) j=lat L j:=by
 unfold lat;rw [List.getD_eq_getElem?_getD,List.getD_eq_getElem?_getD,List.getElem?_take,if_pos h]
def scn (p:Nat→E5→Bool):Nat→LL→Option (Nat×E5)
 | _,[]=>none
 | n,t :: r=>match t.find? (p n) with
   | some x=>some (n,x)
   | none=>scn p (n+1) r
def whoN (p:Nat→E5→Bool) (L:LL):Int:=match scn p 0 L with
 | some y=>y.1
 | none=>-1
def whoE (p:Nat→E5→Bool) (L:LL):E5:=match scn p 0 L with
 | some y=>y.2
 | none=>z5
section
variable {p:Nat→E5→Bool} {L:LL} {k i:Nat}
end
def idx (q:List E5→Bool):Nat→LL→Int
 | _,[]=>-1
 | n,t :: r=>if q t then n else idx q (n+1) r
section
variable {q:List E5→Bool} {L:LL} {k:Nat}
end
def snd (s:Int) (_:Nat) (x:E5):Bool:=decide (x.1=1∧x.2.1=s)
def sN (s:Int) (L:LL):Int:=whoN (snd s) L
def sE (s:Int) (L:LL):E5:=whoE (snd s) L
def bad (t:List E5):Bool:=!mayB t
def bI (L:LL):Int:=idx bad 0 L
def pc (L:LL) (n:Nat) (x:E5):Bool:=decide (x.1=1∧0≤sN x.2.1 (L.take n))
def pg (L:LL) (_:Nat) (x:E5):Bool:=decide (x.1=2∧sN x.2.1 L < 0)
def clN (L:LL):Int:=whoN (pc L) L
def gaN (L:LL):Int:=whoN (pg L) L
def tE (L:LL):Int:=if 0≤bI L then 2 else if 0≤clN L then 8 else if 0≤gaN L then 9 else 0
def cnt (p:E5→Bool) (L:LL) (k i:Nat):Nat:=((L.take k).flatten).countP p+((lat L k).take i).countP p
def all (p:E5→Bool) (L:LL):Nat:=L.flatten.countP p
section
variable {p:E5→Bool} {L:LL} {k i:Nat}
end
end Go.Proofs.YtelgnhmcnfibnaaGreatDoor.Ck
namespace Go.Proofs.YtelgnhmcnfibnaaGreatDoor.Ua
open Go.RowKit
def bit (b:Int) (j:Nat):Bool:=decide (b / 2 ^ j % 2=1)
def par (F:Nat→Bool):Nat→Bool
 | 0=>false
 | k+1=>par F k != F (k+1)
def val (F:Nat→Bool):Nat→Nat
 | 0=>0
 | k+1=>val F k+if F (k+1) then 2 ^ k else 0
def cnt (F:Nat→Bool):Nat→Nat
 | 0=>0
 | k+1=>cnt F k+if F (k+1) then 1 else 0
def upd (F:Nat→Bool) (k:Nat) (x:Bool) (i:Nat):Bool:=if i=k then x else F i
def put (b:Int) (k:Nat) (i:Nat):Bool:=if 1≤i∧i < k then bit b (i - 1) else false
def frm (b:Int) (odd:Bool):Nat→Bool:=upd (upd (put b 9) 9 (par (put b 9) 9 != odd)) 10 true
def bad (F:Nat→Bool):Bool:=F 0 || !F 10
def tb (F:Nat→Bool):Int:=if bad F then 0 else val F 8
def tp (F:Nat→Bool):Bool:=if bad F then false else par F 9
def te (F:Nat→Bool):Int:=if bad F then 2 else 0
def ones (m:Int):Nat→Nat
 | 0=>0
 | k+1=>ones m k+if bit m k then 1 else 0
end Go.Proofs.YtelgnhmcnfibnaaGreatDoor.Ua
namespace Go.Proofs.YtelgnhmcnfibnaaGreatDoor.Pa
open Go.RowKit
open Fl (R4 z4 rat goodF okR okL)
open Fs (Fil Abs key Srt OkA gB gV sB sA dA dE dD dV addE addA look_some look_none look_at map_look put_set)
open Ro (E5 z5 okE eat mayP)
open Ck (LL lat sN sE tE)
open Ua (bit frm te tp tb upd)
def rb (v:R4) (b:Int):Int:=if b=0 then v.1 else if b=1 then v.2.1 else if b=2 then v.2.2.1 else v.2.2.2
def rs (v:R4) (b x:Int):R4:=if b=0 then (x,v.2.1,v.2.2.1,v.2.2.2) else if b=1 then (v.1,x,v.2.2.1,v.2.2.2) else if b=2 then (v.1,v.2.1,x,v.2.2.2) else (v.1,v.2.1,v.2.2.1,x)
def byt (x:Int):Prop:=0≤x∧x≤255
abbrev Hr:=Int→Option Int
def mt (f r:Int) (x:E5):Bool:=decide (x.1=2∧x.2.2.1=f∧x.2.2.2.1=r)
section
variable {h:Hr} {t:List E5} {V:Int→Int→Bool} {A:Abs}
end
end Go.Proofs.YtelgnhmcnfibnaaGreatDoor.Pa
namespace Go.Proofs.YtelgnhmcnfibnaaGreatDoor.Pa
open Go.RowKit
open Fl (R4 z4 rat goodF okR okL)
open Fs (Fil Abs key Srt OkA gB gV sB sA dA dE dD dV addE addA look_some look_none look_at map_look put_set)
open Ro (E5 z5 okE eat mayP)
open Ck (LL lat sN sE tE)
open Ua (bit frm te tp tb upd)
section
variable {h:Hr} {t:List E5} {V:Int→Int→Bool} {A:Abs}
end
def tn (F:Nat→Bool) (m:Int) (i:Nat):Bool:=if 1≤i∧i < 11 then F i != bit m i else F i
abbrev S2:=Int×Int
def z2:S2:=(0,0)
def sq1 (s:Int) (F:Nat→Bool) (x:S2):Nat→Bool:=if x.1=s then tn F x.2 else F
def sq (P:List S2) (s:Int) (F:Nat→Bool) (j:Nat):Nat→Bool:=(P.take j).foldl (sq1 s) F
abbrev Sts:=List (Abs×Int)
def sat (S:Sts) (n:Int):Abs×Int:=S.getD n.toNat ([],0)
def vat (V:List Bool) (n:Int):Bool:=V.getD n.toNat false
def snB (S:Sts) (T:LL) (V:List Bool) (s:Int):Bool:=decide (0≤sN s T) && vat V (sN s T) && gB (sat S (sN s T)).1 (sE s T).2.2.1 (sE s T).2.2.2.1
def snX (S:Sts) (T:LL) (s:Int):Int:=rb (gV (sat S (sN s T)).1 (sE s T).2.2.1 (sE s T).2.2.2.1) (sE s T).2.2.2.2
def lowF (_:Nat):Bool:=false
def frF (S:Sts) (T:LL) (V:List Bool) (P:List S2) (s:Int):Nat→Bool:=if snB S T V s=true then sq P s (frm (snX S T s) false) P.length else lowF
def hrB (S:Sts) (T:LL) (V:List Bool) (P:List S2) (s:Int):Bool:=snB S T V s && decide (te (frF S T V P s)=0) && !tp (frF S T V P s)
def hrV (S:Sts) (T:LL) (V:List Bool) (P:List S2) (s:Int):Int:=if hrB S T V P s=true then tb (frF S T V P s) else 0
def hr (S:Sts) (T:LL) (V:List Bool) (P:List S2):Hr:=fun s=>if 1≤s∧s≤16∧hrB S T V P s=true then some (hrV S T V P s) else none
end Go.Proofs.YtelgnhmcnfibnaaGreatDoor.Pa
namespace Go.Proofs.YtelgnhmcnfibnaaGreatDoor.Fs
open Go.RowKit Go.Maps
open Fl (R4 z4 K4 rec4 rat goodF goodFB okR okL file arr4 row_cell row_frozen)
open Rw (Rd Ow At)
attribute [local irreducible] Sd.wpSd wpQuiet
theorem St.as {w:World} {s:Nat} {F:Nat→Prop} {A:Abs} {d d':Int} {m:Value} {T:TypeId} (h:St w s F A d) (row:w.heap[s]? = some (.cells #[m,.int .i64 d'] T (0,0))):∃ C,Sto w s F m C d∧C.map Ent.abs=A:=by
 obtain ⟨m',C,h,e⟩:=h;have r:=h.row.symm.trans row;injection r with r;injection r with r _ _;have e4:=congrArg (fun t:Array Value=>t[0]?) r
 simp at e4
 subst e4;exact ⟨C,h,e⟩
end Go.Proofs.YtelgnhmcnfibnaaGreatDoor.Fs
namespace Go.Proofs.YtelgnhmcnfibnaaGreatDoor.Fl
open Go.RowKit
open Rw (Rd Ow At)
end Go.Proofs.YtelgnhmcnfibnaaGreatDoor.Fl
namespace Go.Proofs.YtelgnhmcnfibnaaGreatDoor.Fs
open Go.RowKit Go.Maps
open Fl (R4 z4 K4 rec4 rat goodF goodFB okR okL file arr4 hdr newL newP row_cell row_frozen ret_bool eq_rec)
open Rw (Rd Ow At)
def L0:List R4:=[(3,2,165,164),z4,z4,z4]
def L1:List R4:=[(3,2,165,164),z4,(9,0,0,0),z4]
def A0:Abs:=[(7,2,L0)]
def A1:Abs:=[(7,2,L1)]
theorem new_st (w:World):St (w.alloc (.cells #[.map none,.int .i64 0] 93)) w.heap.size (fun k=>k=w.heap.size) [] 0 :=
 ⟨.map none,[],⟨heap_alloc_new w _,rfl,.inl ⟨rfl,rfl⟩,nofun,nofun,List.Pairwise.nil,OkA.nil,fun k hk=>by subst hk;simp⟩,rfl⟩
structure Aw (w:World) (s:Nat) (F:Nat→Prop) (A:Abs) (d:Int) (W:World):Prop where
 st:St W s F A d
 lo:∀ k,F k→w.heap.size≤k
 bel:Below w.heap.size w W
theorem Aw.next {w W W':World} {s:Nat} {F:Nat→Prop} {A A':Abs} {d d':Int} (h:Aw w s F A d W) (st:St W' s (Fx F W W') A' d') (o:Only F W W'):Aw w s (Fx F W W') A' d' W' :=
 ⟨st,fun k hk=>by
  rcases hk with hk | ⟨hk,_⟩
  ·exact h.lo k hk
  ·have:=h.bel.size;omega,h.bel.trans (o.below h.bel.size h.lo)⟩
theorem Aw.below {w W W':World} {s:Nat} {F:Nat→Prop} {A:Abs} {d:Int} (h:Aw w s F A d W) (b:Below W.heap.size W W'):Aw w s F A d W':=⟨h.st.below b,h.lo,h.bel.trans (b.mono h.bel.size)⟩
theorem Aw.glob {w W:World} {s:Nat} {F:Nat→Prop} {A:Abs} {d:Int} (h:Aw w s F A d W) (g:Glob w):Glob W∧¬ F 0:=⟨g.below h.bel,fun hk=>by have:=h.lo _ hk;have:_ < w.heap.size:=World.block_lt_of_cell? _ _ g;simp only at this;omega⟩
def Loc (F:Nat→Prop) (W:World) (g:Nat) (cs:Array Value) (t:TypeId):Prop:=W.heap[g]? = some (.cells cs t (0,0))∧¬ F g
theorem Loc.only {F:Nat→Prop} {W W':World} {g:Nat} {cs:Array Value} {t:TypeId} (h:Loc F W g cs t) (o:Only F W W'):Loc (Fx F W W') W' g cs t:=⟨(o.block g (lt_of_block h.1) h.2).trans h.1,Fx.not h.2 (lt_of_block h.1)⟩
theorem Loc.below {F:Nat→Prop} {W W':World} {g:Nat} {cs:Array Value} {t:TypeId} (h:Loc F W g cs t) (b:Below W.heap.size W W'):Loc F W' g cs t:=⟨(b.block g (lt_of_block h.1)).trans h.1,h.2⟩
theorem Loc.new {F:Nat→Prop} {W:World} (hF:∀ k,F k→k < W.heap.size) (cs:Array Value) (t:TypeId):Loc F (W.alloc (.cells cs t)) W.heap.size cs t:=⟨heap_alloc_new W _,fun h=>by have:=hF _ h;omega⟩
theorem get_st {w:World} {s:Nat} {F:Nat→Prop} {A:Abs} {d:Int} (S:St w s F A d) {n:Int} (hn:Wf n) (r:Int):Calls Tryz.prog 32 #[.pointer (some ⟨s,0,none⟩),.int .i64 n,.int .i64 r] w (GetPost w (gV A n r) (gB A n r)):=by
 obtain ⟨m,C,h,rfl⟩:=S;exact get_any h hn r
theorem denied_st {w:World} {s:Nat} {F:Nat→Prop} {A:Abs} {d:Int} (S:St w s F A d):Calls Tryz.prog 17 #[.pointer (some ⟨s,0,none⟩)] w fun e w'=>e = .returned (.int .i64 d)∧Below w.heap.size w w':=by
 obtain ⟨m,C,h,_⟩:=S;exact denied_any h
theorem below_new (W:World) (o:Obj):Below W.heap.size W (W.alloc o):=(Below.refl _ W).alloc (Nat.le_refl _) o
end Go.Proofs.YtelgnhmcnfibnaaGreatDoor.Fs
namespace Go.Proofs.YtelgnhmcnfibnaaGreatDoor.Fs
open Go.RowKit Go.Maps
open Fl (R4 z4 K4 rec4 rat goodF goodFB okR okL file arr4 row_cell row_frozen)
open Rw (Rd Ow At)
structure De where
 k:Int
 o:Int
 f:Int
 r:Int
 x:R4
 p:Int
 a:Option Addr
 cap:Nat
 l:List R4
def De.cells (D:De):List Value:=[.int .u8 D.k,.int .i64 D.o,.int .i64 D.f,.int .i64 D.r,.int .u8 D.x.1,.int .u8 D.x.2.1,.int .u8 D.x.2.2.1,.int .u8 D.x.2.2.2,.int .i64 D.p,.slice D.a D.l.length D.cap]
def De.sl (D:De):Value:=.slice D.a D.l.length D.cap
end Go.Proofs.YtelgnhmcnfibnaaGreatDoor.Fs
namespace Go.Proofs.YtelgnhmcnfibnaaGreatDoor.Sz
open Go.RowKit
open Sd (light light_value picks)
open Sc (In)
def wpAnyZ (P:Program) (md:Region.Mode) (ops:Array Oper) (Q:Exit→Act→World→Prop) (S:World→Prop) (z:Nat):Nat→Array Bool→Act→World→Prop
 | 0,listed,a,w=>Region.ready md ops listed = []∧Q .normal a w
 | fuel+1,listed,a,w =>
   (Region.ready md ops listed = []→Q .normal a w) ∧
   ∀ i∈Region.ready md ops listed,wpOp P ops Q i (fun a' w'=>(i=z∨S w')∧wpAnyZ P md ops Q S z fuel (listed.setIfInBounds i true) a' w') a w
section
variable {P:Program} {md:Region.Mode} {ops:Array Oper} {Q:Exit→Act→World→Prop} {S:World→Prop} {z:Nat}
theorem any_of:∀ (fuel:Nat) (listed:Array Bool) (a:Act) (w:World),wpAnyZ P md ops Q S z fuel listed a w→wpAny P md ops Q fuel listed a w
 | 0,_,_,_,h=>h
 | fuel+1,_,_,_,h=>⟨h.1,fun i hi=>wpOp_mono (fun a' w' h'=>any_of fuel _ a' w' h'.2) (h.2 i hi)⟩
def Blocks (md:Region.Mode) (ops:Array Oper) (z i:Nat) (listed:Array Bool):Prop:=∃ oz e,ops[z]? = some oz∧e∈oz.after∧Region.binds md e=true∧listed.getD e.on true=false∧(e.on=i∨∃ ok,ops[e.on]? = some ok∧∃ e'∈ok.after,Region.binds md e'=true∧e'.on=i)
theorem first {i:Nat} {oi:Oper} {v:Value} (hi:ops[i]? = some oi) (hsel:∀ (j:Nat) (o:Oper) cs b,ops[j]? = some o→o.op≠.select cs b)
 (hQ:∀ c a w,Q (.panic c) (a.put oi.dst v) w→Q (.panic c) a w) :
 ∀ (fuel:Nat) (listed:Array Bool) (a:Act) (w:World),Blocks md ops z i listed →
  (∀ j oj,ops[j]? = some oj→j≠i→listed.getD j true=false→(∀ e∈oj.after,Region.binds md e=true→e.on≠i)→oi.apart ops oj=true) →
  i∈Region.ready md ops listed→YieldsIf P ops S oi v a→S w →
  wpAnyZ P md ops Q S z fuel (listed.setIfInBounds i true) (a.put oi.dst v) w→wpAnyZ P md ops Q S z (fuel+1) listed a w:=by
 intro fuel
 induction fuel with
 | zero =>
   intro listed a w _ _ hr hy hS H
   refine ⟨fun h=>(by rw [h] at hr;cases hr),fun j hj=>?_⟩
   by_cases hji:j=i
   ·subst hji;exact hy.wpOp hi hS ⟨.inr hS,H⟩
   ·have:=ready_mono hj hji
    rw [H.1] at this
    cases this
 | succ fuel ih =>
   intro listed a w hz hfree hr hy hS H
   refine ⟨fun h=>(by rw [h] at hr;cases hr),fun j hj=>?_⟩
   by_cases hji:j=i
   ·subst hji;exact hy.wpOp hi hS ⟨.inr hS,H⟩
   ·have h1:=H.2 j (ready_mono hj hji)
    obtain ⟨hjun,oj,hoj,hall⟩:=mem_ready.1 hj;have hnot:∀ e∈oj.after,Region.binds md e=true→e.on≠i:=fun e he hb heq=>by
     have h1:=hall e he hb;have h0:=(mem_ready.1 hr).1;rw [heq] at h1
     rcases Nat.lt_or_ge i listed.size with h' | h'
     ·simp [h'] at h0 h1;rw [h0] at h1;cases h1
     ·simp [Array.getElem?_eq_none h'] at h1
    obtain ⟨oz,ez,hoz,hez,hbz,hnl,hor⟩:=hz;have low:∀ {k:Nat},listed.getD k true=false→listed.getD k false=false:=fun {k} h=>by
     rcases Nat.lt_or_ge k listed.size with h' | h'
     ·simp [h'] at h ⊢;exact h
     ·simp [Array.getElem?_eq_none h'] at h
    have hjz:j≠z:=fun e=>by
     subst e;rw [hoj] at hoz;obtain rfl:=Option.some.inj hoz;have:=hall ez hez hbz;rw [low hnl] at this
     cases this
    have hje:j≠ez.on:=fun e=>by
     rcases hor with h | ⟨ok,hok,e',he',hb',hon⟩
     ·exact hji (e.trans h)
     ·rw [← e,hoj] at hok
      obtain rfl:=Option.some.inj hok;exact hnot e' he' hb' hon
    have hz':Blocks md ops z i (listed.setIfInBounds j true):=⟨oz,ez,hoz,hez,hbz,by rw [getD_set_ne true hje];exact hnl,hor⟩;have h2:=wpOp_putIf hoj (hfree j oj hoj hji hjun hnot) (fun cs b=>hsel i oi cs b hi) (fun cs b=>hsel j oj cs b hoj) hQ hy h1;have hfree':∀ k ok,ops[k]? = some ok→k≠i→(listed.setIfInBounds j true).getD k true=false →
     (∀ e∈ok.after,Region.binds md e=true→e.on≠i)→oi.apart ops ok=true:=fun k ok hk hki hun hno=>by
     refine hfree k ok hk hki ?_ hno
     by_cases hjk:j=k
     ·subst hjk;exact hjun
     ·rw [getD_set_ne true hjk] at hun;exact hun
    refine wpOp_mono (fun a' w' h3=>?_) h2;have hS':S w':=h3.2.1.resolve_left hjz;refine ⟨.inr hS',ih (listed.setIfInBounds j true) a' w' hz' hfree' (ready_mono hr (Ne.symm hji)) h3.1 hS' ?_⟩;rw [Array.setIfInBounds_comm _ _ hji];exact h3.2.2
theorem fin {listed:Array Bool} {a:Act} {w:World} (hr:Region.ready md ops listed = []) (h:Q .normal a w) :
 ∀ fuel,wpAnyZ P md ops Q S z fuel listed a w
 | 0=>⟨hr,h⟩
 | _+1=>⟨fun _=>h,by rw [hr];simp⟩
theorem all {rs:List Nat} {fuel:Nat} {listed:Array Bool} {a:Act} {w:World} (hr:Region.ready md ops listed=rs) (hne:rs≠[])
 (h:∀ i∈rs,wpOp P ops Q i (fun a' w'=>(i=z∨S w')∧wpAnyZ P md ops Q S z fuel (listed.setIfInBounds i true) a' w') a w):wpAnyZ P md ops Q S z (fuel+1) listed a w :=
 ⟨fun h0=>absurd (hr ▸ h0) hne,hr ▸ h⟩
end
def blocksB (ops:Array Oper) (z i:Nat) (listed:Array Bool):Bool:=match ops[z]? with
 | some oz=>oz.after.any fun e=>Region.binds .any e && !listed.getD e.on true && (e.on == i || match ops[e.on]? with
   | some ok=>ok.after.any fun e'=>Region.binds .any e' && e'.on == i
   | none=>false)
 | none=>false
theorem blocks_of {ops:Array Oper} {z i:Nat} {listed:Array Bool} (h:blocksB ops z i listed=true):Blocks .any ops z i listed:=by
 unfold blocksB at h
 cases ho:ops[z]? with
 | none=>rw [ho] at h;cases h
 | some oz =>
   rw [ho] at h;obtain ⟨e,he,hb⟩:=Array.any_eq_true'.1 h;simp only [Bool.and_eq_true,Bool.not_eq_true',Bool.or_eq_true,beq_iff_eq] at hb;obtain ⟨⟨hb1,hb2⟩,hb3⟩:=hb;refine ⟨oz,e,ho,he,hb1,hb2,?_⟩
   rcases hb3 with h3 | h3
   ·exact .inl h3
   ·cases hk:ops[e.on]? with
    | none=>rw [hk] at h3;cases h3
    | some ok =>
      rw [hk] at h3;obtain ⟨e',he',hb'⟩:=Array.any_eq_true'.1 h3;simp only [Bool.and_eq_true,beq_iff_eq] at hb';exact .inr ⟨ok,rfl,e',he',hb'.1,hb'.2⟩
def good (ops:Array Oper) (z:Nat):List (Bool×Nat)→Array Bool→Nat→Bool
 | _,_,0=>false
 | [],listed,_+1=>Region.ready .any ops listed == [z] && (Region.ready .any ops (listed.setIfInBounds z true)).isEmpty
 | (h,i) :: r,listed,fuel+1 =>
   (match ops[i]? with
    | some o=>i != z && (if h then Region.ready .any ops listed == [i] else light o.op && Region.free .any ops listed i && (Region.ready .any ops listed).contains i && blocksB ops z i listed)
    | none=>false) && good ops z r (listed.setIfInBounds i true) fuel
def wpSz (P:Program) (ops:Array Oper) (C:World→Prop) (Q:Exit→Act→World→Prop) (E:Act→World→Prop):List (Bool×Oper)→Act→World→Prop
 | [],a,w=>E a w
 | (false,o) :: r,a,w=>wpQuiet P ops C (fun a'=>wpSz P ops C Q E r a' w) [o] a
 | (true,o) :: r,a,w=>if Region.wanted o (yielded ops a.tmps) then o.wp P a w (fun a' w'=>C w'∧wpSz P ops C Q E r a' w') Q else wpSz P ops C Q E r (a.put o.dst undef) w
theorem sound {P:Program} {l:List Oper} {C:World→Prop} {Q:Exit→Act→World→Prop} {z:Nat} {oz:Oper} (hs:Region.noSelect l.toArray=true) (hQ:∀ c d v a w,Q (.panic c) (Act.put a d v) w→Q (.panic c) a w)
 (hoz:l[z]? = some oz) (hgd:oz.guard=none) :
 ∀ (sc:List (Bool×Nat)) (listed:Array Bool) (fuel:Nat) (a:Act) (w:World),good l.toArray z sc listed fuel=true→C w→wpSz P l.toArray C Q (fun a w=>oz.wp P a w (fun a' w'=>Q .normal a' w') Q) (picks l sc) a w→wpAnyZ P .any l.toArray Q C z fuel listed a w
 | [],listed,0,a,w,hg,_,h=>by cases hg
 | [],listed,fuel+1,a,w,hg,_,h=>by
   unfold good at hg;simp only [Bool.and_eq_true,beq_iff_eq,List.isEmpty_iff] at hg;refine all hg.1 (by simp) fun j hj=>?_;obtain rfl:j=z:=by simpa using hj
   have hop:l.toArray[j]? = some oz:=by rw [List.getElem?_toArray];exact hoz
   unfold wpOp;simp only [hop];rw [if_pos (by simp [Region.wanted,hgd])];exact .inl (Oper.wp_mono (fun a' w' k=>⟨by simp,fin hg.2 k fuel⟩) h)
 | _ :: _,_,0,_,_,hg,_,_=>by cases hg
 | (b,i) :: r,listed,fuel+1,a,w,hg,hC,h=>by
   unfold good at hg;simp only [Bool.and_eq_true] at hg;obtain ⟨hg1,hg2⟩:=hg;have hll:l.toArray[i]? = l[i]?:=by rw [List.getElem?_toArray]
   cases ho:l[i]? with
   | none=>rw [hll,ho] at hg1;cases hg1
   | some o =>
     rw [hll,ho] at hg1;simp only [Bool.and_eq_true,bne_iff_ne,ne_eq] at hg1;obtain ⟨_,hg1⟩:=hg1;have hop:l.toArray[i]? = some o:=hll.trans ho;have hp:picks l ((b,i) :: r)=(b,o) :: picks l r:=by rw [picks,ho]
     rw [hp] at h
     cases b with
     | true =>
       simp only [if_true,beq_iff_eq] at hg1;refine all hg1 (by simp) fun j hj=>?_;obtain rfl:j=i:=by simpa using hj
       unfold wpOp;simp only [hop];unfold wpSz at h
       by_cases hw:Region.wanted o (yielded l.toArray a.tmps)=true
       ·rw [if_pos hw] at h ⊢
        exact .inl (Oper.wp_mono (fun a' w' ⟨c,k⟩=>⟨.inr c,sound hs hQ hoz hgd r _ fuel a' w' hg2 c k⟩) h)
       ·rw [if_neg hw] at h ⊢
        exact ⟨.inr hC,sound hs hQ hoz hgd r _ fuel _ w hg2 hC h⟩
     | false =>
       simp only [Bool.false_eq_true,if_false,Bool.and_eq_true] at hg1;obtain ⟨⟨⟨hk,hf⟩,hr⟩,hbl⟩:=hg1;have hr':i∈Region.ready .any l.toArray listed:=by simpa using hr
       unfold wpSz at h
       by_cases hw:Region.wanted o (yielded l.toArray a.tmps)=true
       ·unfold wpQuiet at h
        rw [if_pos hw] at h;obtain ⟨v,hv,hn⟩:=h;refine first (v:=v) hop (Region.noSelect_spec hs) (fun c a w=>hQ c _ _ a w) fuel listed a w (blocks_of hbl) (Region.free_spec hop hf) hr' (.inl ⟨hw,fun w' hw'=>?_⟩) hC (sound hs hQ hoz hgd r _ fuel _ w hg2 hC hn)
        have q:=hv w' hw';unfold Oper.quietAt at q
        cases e:(execOp a.eval o).run P w' with
        | halt x w1=>rw [e] at q;cases q
        | ok n w1 =>
          obtain ⟨u,rfl⟩:=light_value hk e;rw [e] at q;obtain ⟨e1,e2⟩:=q;rw [e1,e2]
       ·unfold wpQuiet at h
        rw [if_neg hw] at h;exact first (v:=undef) hop (Region.noSelect_spec hs) (fun c a w=>hQ c _ _ a w) fuel listed a w (blocks_of hbl) (Region.free_spec hop hf) hr' (.inr ⟨by simpa using hw,rfl⟩) hC (sound hs hQ hoz hgd r _ fuel _ w hg2 hC h)
theorem start {P:Program} {id:Nat} {l:List Oper} {Q:Exit→Act→World→Prop} {a:Act} {w:World} {oz:Oper} (C:World→Prop) (sc:List (Bool×Nat)) (z:Nat) (hm:P.follows .mixedOrders=true) (hs:Region.noSelect l.toArray=true)
 (hg:good l.toArray z sc (Array.replicate l.toArray.size false) l.toArray.size=true) (hoz:l[z]? = some oz) (hgd:oz.guard=none) (h0:C w.drew)
 (h:wpSz P l.toArray (fun w'=>∃ p:In C,w'=p.world) (NoPanic Q) (fun a w=>oz.wp P a w (fun a' w'=>NoPanic Q .normal a' w') (NoPanic Q)) (picks l sc) a w.drew):(Code.region id l.toArray true).wp P Q a w :=
 wp_region_noPanic (wp_region_any hm (any_of _ _ _ _ (sound hs (fun _ _ _ _ _ h=>h) hoz hgd sc _ _ a _ hg (Sc.Cl.of h0) h)))
section
variable {P:Program} {ops:Array Oper} {C:World→Prop} {Q:Exit→Act→World→Prop} {E:Act→World→Prop} {a:Act} {w:World} {o:Oper} {r:List (Bool×Oper)}
theorem done (h:E a w):wpSz P ops C Q E [] a w:=h
theorem lit (h:wpQuiet P ops C (fun a'=>wpSz P ops C Q E r a' w) [o] a):wpSz P ops C Q E ((false,o) :: r) a w:=h
theorem call (hw:Region.wanted o (yielded ops a.tmps)=true) (h:∀ K:Act→World→Prop,(∀ a w,C w→wpSz P ops C Q E r a w→K a w)→o.wp P a w K Q):wpSz P ops C Q E ((true,o) :: r) a w:=by
 unfold wpSz;rw [if_pos hw];exact h _ fun a w c k=>⟨c,k⟩
end
end Go.Proofs.YtelgnhmcnfibnaaGreatDoor.Sz
namespace Go.Proofs.YtelgnhmcnfibnaaGreatDoor.Fs
open Go.RowKit Go.Maps
open Fl (R4 z4 K4 rec4 rat goodF goodFB okR okL file arr4 row_cell row_frozen rgood_any)
open Rw (Rd Ow At)
attribute [local irreducible] Sd.wpSd wpQuiet Sf.wpSf Sz.wpSz
theorem wp_all {α:Type} {Kd:Rw.Kind α} {P:Program} {K:Act→World→Prop} {w:World} {E:TypeId} {o:Oper} {a:Act} {Q:Exit→Act→World→Prop} {T:TypeId} {z:Value} {bytes:Nat} (ht:P.underlying T=some (.slice E))
 (hi:(P.info? E).map (fun i=>(i.zero,i.size,i.bytes))=some (some z,Kd.n,bytes)) (hz:z.cells.size=Kd.n) (hby:bytes≤64) (s x:Operand)
 (ho:o.op = .call { callee:=.builtin .append,args:=#[s,x],argTypes:=#[T,T] }) (B:Nat) (v:Value) (l:List α) (hs:a.eval s=v) (hown:Ow Kd w B E v l)
 (u:Value) (y:List α) (hx:a.eval x=u) (hu:Rd Kd w u y) (hlen:l.length+y.length < 2199023255552) (hB:B≤w.heap.size)
 (h:∀ v' w',Ow Kd w' B E v' (l ++ y)→Below B w w'→K (a.put o.dst v') w'):o.wp P a w K Q:=by
 obtain ⟨i0,hi0,hz0,hz1,hz2⟩:=info_parts hi;obtain ⟨ad,cap,rfl,h1,h2,h3⟩:=hu;have hb:(l.length+y.length) * bytes≤140737488355328:=Nat.le_trans (Nat.mul_le_mul (show l.length+y.length≤2199023255552 by omega) hby) (by omega)
 by_cases h0:0 < y.length
 ·obtain ⟨b,off,rfl,hA⟩:=h3 h0
  refine wp_append_own _ s x T ho B E i0 z Kd.n bytes ht hi0 hz0 hz1 hz2 hz Kd.pos v l.length (Kd.flat l) hs hown ⟨b,off,none⟩ y.length cap (Kd.flat y) hx (Rw.flat_length Kd y) ?_ (Rw.flat_one Kd y) (by unfold maxLen;omega) hb hB ?_
  ·intro j u hj
   have e:(⟨b,off,none⟩:Addr).add j=⟨b,off+j,none⟩:=by simp [Addr.add]
   rw [e];exact hA.flat j u hj
  ·intro v' w' g2 g3 _
   refine h v' w' ?_ ((Below.refl B w).grown g3 hB fun k hk=>(World.ownsRow.lt hown k hk).1)
   show w'.ownsRow B E Kd.n v' (l ++ y).length (Kd.flat (l ++ y))
   rw [Rw.flat_append,List.length_append];exact g2
 ·have ey:y = []:=List.length_eq_zero_iff.1 (by omega)
  subst ey
  cases ad with
  | none =>
    obtain rfl:=h1.2 rfl;have hrun:=run_append_owned_none (P:=P) (w:=w) B T o.type E i0 Kd.n ht hi0 v l.length (Kd.flat l) hown;unfold Oper.wp;have hk:=h v w (by rw [List.append_nil];exact hown) (Below.refl _ _);have hx':a.eval x = .slice none 0 0:=hx
    simp [execOp,ho,resolve,invoke,builtin,hs,hx',hrun,Result.andThen]
    exact hk
  | some ad =>
    refine wp_append_own _ s x T ho B E i0 z Kd.n bytes ht hi0 hz0 hz1 hz2 hz Kd.pos v l.length (Kd.flat l) hs hown ad 0 cap [] hx (by simp) (by simp) (by simp) (by unfold maxLen;simp at hlen;omega) (by simpa using hb) hB ?_
    intro v' w' g2 g3 _
    refine h v' w' ?_ ((Below.refl B w).grown g3 hB fun k hk=>(World.ownsRow.lt hown k hk).1)
    show w'.ownsRow B E Kd.n v' (l ++ []).length (Kd.flat (l ++ []))
    rw [List.append_nil]
    simpa using g2
theorem run_tail {w:World} {v:Value} {L:List Ent} (R:Rd E3 w v L) (k:Nat) (hk:k≤L.length):∃ ua uc,(∀ W,(Instr.sliceAt 22 v (some (.int .i64 (k:Int))) none none).run Tryz.prog W = .ok (.slice ua (L.length - k) uc) W)∧Rd E3 w (.slice ua (L.length - k) uc) (L.drop k):=by
 obtain ⟨a,cap,rfl,⟨h1,h2⟩,h3,h4⟩:=R;have hl:(L.drop k).length=L.length - k:=List.length_drop
 cases a with
 | none =>
   obtain rfl:=h2 rfl;have hL:L.length=0:=by omega
   obtain rfl:k=0:=by omega
   refine ⟨none,0,fun W=>?_,none,0,by rw [hl],⟨by rw [hl];omega,fun _=>rfl⟩,by unfold maxLen;omega,fun h=>by rw [hl] at h;omega⟩;rw [hL];go_simp
 | some a =>
   by_cases hc:cap=k
   ·refine ⟨some a,0,fun W=>?_,some a,0,by rw [hl],⟨by rw [hl];omega,nofun⟩,by unfold maxLen;omega,fun h=>by rw [hl] at h;omega⟩
    subst hc;have:L.length - cap=0:=by omega
    obtain ⟨b,off,sp⟩:=a;go_simp
   ·by_cases h0:0 < L.length
    ·obtain ⟨b,off,e,hA⟩:=h4 h0
     obtain rfl:a=⟨b,off,none⟩:=by injection e
     refine ⟨some ⟨b,off+k * 3,none⟩,cap - k,fun W=>?_,some ⟨b,off+k * 3,none⟩,cap - k,by rw [hl],⟨by rw [hl];omega,nofun⟩,by omega,fun h=>⟨b,off+k * 3,rfl,fun i hi j u hu=>?_⟩⟩
     ·go_simp
     ·rw [hl] at hi
      have hu':(E3.enc (L.getD (k+i) E3.dft))[j]? = some u:=by rw [← hu,List.getD_eq_getElem?_getD,List.getD_eq_getElem?_getD,List.getElem?_drop]
      have c:=hA (k+i) (by omega) j u hu';have e:off+(k+i) * E3.n+j=off+k * 3+i * E3.n+j:=by show off+(k+i) * 3+j=off+k * 3+i * 3+j;omega
      rw [e] at c;exact c
    ·obtain rfl:k=0:=by omega
     have hL:L.length=0:=by omega
     obtain ⟨b,off,sp⟩:=a;refine ⟨some (Addr.add ⟨b,off,sp⟩ (0 * 3)),cap,fun W=>?_,some (Addr.add ⟨b,off,sp⟩ (0 * 3)),cap,by rw [hl],⟨by rw [hl];omega,nofun⟩,h3,fun h=>by rw [hl] at h;omega⟩;go_simp
def RAPost (w:World) (r:Nat) (F:Nat→Prop) (d z:Int) (A':Abs) (e:Ending) (w':World):Prop:=e = .returned (.int .i64 z)∧Rs w' r F A' d∧Only (fun k=>k=r) w w'
theorem radd_1 (w:World) (r:Nat) (n p:Int) (a:Option Addr) (q cap:Nat) (hn:¬ (0≤n∧n≤63)):Calls Tryz.prog 42 #[.pointer (some ⟨r,0,none⟩),.int .i64 n,.agg #[.int .i64 p,.slice a q cap]] w fun e w'=>e = .returned (.int .i64 1)∧Below w.heap.size w w':=by
 by_cases h:n < 0
 ·go_enter Tryz.func42,Tryz.ntmps42
  go_wp2
  go_ret
  exact ⟨rfl,(Below.refl w.heap.size w).alloc (Nat.le_refl _) _⟩
 ·have h2:63 < n:=by omega
  go_enter Tryz.func42,Tryz.ntmps42
  go_wp2
  go_ret
  exact ⟨rfl,(Below.refl w.heap.size w).alloc (Nat.le_refl _) _⟩
theorem radd_2 (w:World) (r:Nat) (n p:Int) (a:Option Addr) (q cap:Nat) (l:List R4) (R:Rd K4 w (.slice a q cap) l) (hn:0≤n∧n≤63) (hg:¬ goodF p l):Calls Tryz.prog 42 #[.pointer (some ⟨r,0,none⟩),.int .i64 n,.agg #[.int .i64 p,.slice a q cap]] w fun e w'=>e = .returned (.int .i64 2)∧Below w.heap.size w w':=by
 obtain ⟨h1,hB,hz⟩:=box_file w p (.slice a q cap);have HB:=Lib.hid hB;have GA:=rgood_any _ p (.slice a q cap) l (R.below hB);rw [show goodFB p l=false from decide_eq_false hg] at GA;have HG:=Lib.hid GA;have n1:0≤n:=hn.1;have n2:n≤63:=hn.2;clear h1 hB hz R GA hg hn;unfold file at HG
 go_enter Tryz.func42,Tryz.ntmps42
 go_wp2_with fail;refine HG.out.mono ?_;rintro e w1 ⟨rfl,b1⟩;have B1:=Lib.hid (HB.out.trans (b1.mono HB.out.size));clear b1 HG HB;go_wp2
 go_ret
 exact ⟨rfl,B1.out⟩
theorem radd_10 {w:World} {r:Nat} {F:Nat→Prop} {v:Value} {L:List Ent} {d:Int} (RS:Rst w r F v L d) (n p:Int) (a:Option Addr) (q cap:Nat) (l:List R4) (R:Rd K4 w (.slice a q cap) l) (hn:0≤n∧n≤63) (hg:goodF p l) {i:Nat} (hq:Ix L n i):Calls Tryz.prog 42 #[.pointer (some ⟨r,0,none⟩),.int .i64 n,.agg #[.int .i64 p,.slice a q cap]] w fun e w'=>e = .returned (.int .i64 10)∧Below w.heap.size w w':=by
 obtain ⟨h1,hB,hz⟩:=box_file w p (.slice a q cap);have HB:=Lib.hid hB;have GA:=rgood_any _ p (.slice a q cap) l (R.below hB);rw [show goodFB p l=true from decide_eq_true hg] at GA;have HG:=Lib.hid GA;have IX:=Lib.hid (fun W (hb:Below w.heap.size w W)=>rix_any (RS.below hb) hq);have n1:0≤n:=hn.1;have n2:n≤63:=hn.2;have hi0:¬ ((i:Int) < 0):=by omega
 clear h1 hB hz R GA hg hn RS hq;unfold file at HG
 go_enter Tryz.func42,Tryz.ntmps42
 go_wp2_with fail;refine HG.out.mono ?_;rintro e w1 ⟨rfl,b1⟩;have B1:=Lib.hid (HB.out.trans (b1.mono HB.out.size));clear b1 HG HB;go_wp2_with fail;refine (IX.out _ B1.out).mono ?_;rintro e w2 ⟨rfl,b2⟩;have B2:=Lib.hid (B1.out.trans (b2.mono B1.out.size));clear b2 B1 IX;go_wp2
 go_ret
 exact ⟨rfl,B2.out⟩
def ARel (w:World) (L:List Ent) (n:Int) (v:Value) (k:Nat) (wr:World):Prop:=Ow E3 wr w.heap.size 73 v (L.take k)∧(∀ x∈L.take k,x.n < n)∧Below w.heap.size w wr
structure AC (r:Nat) (v:Value) (d:Int) (g:Nat) (p:Int) (u:Value) (W:World):Prop where
 row:W.heap[r]? = some (.cells #[v,.int .i64 d] 49 (0,0))
 box:W.heap[g]? = some (.cells #[.int .i64 p,u] 71 (0,0))
set_option maxHeartbeats 4000000 in
theorem radd_0 {w:World} {r:Nat} {F:Nat→Prop} {v:Value} {L:List Ent} {d:Int} (RS:Rst w r F v L d) (hF:∀ k,F k→k < w.heap.size) (n p:Int) (a:Option Addr) (q cap:Nat) (l:List R4) (R:Rd K4 w (.slice a q cap) l) (ho:0 < l.length→∀ k,(Value.slice a q cap).ownBlock=some k→¬ (F k∨k=r)) (hn:0≤n∧n≤63) (hg:goodF p l) (hl:okL l) (hc:look Ent.n n L=none) :
 Calls Tryz.prog 42 #[.pointer (some ⟨r,0,none⟩),.int .i64 n,.agg #[.int .i64 p,.slice a q cap]] w (RAPost w r F d 0 (put key (n,p,l) (L.map Ent.abs))):=by
 have hql:q=l.length:=by
  obtain ⟨_,_,e,_⟩:=R;injection e
 subst hql;obtain ⟨h1,hB,hz⟩:=box_file w p (.slice a l.length cap);have HB:=Lib.hid hB;have H1:=Lib.hid h1;have GA:=rgood_any _ p (.slice a l.length cap) l (R.below hB);rw [show goodFB p l=true from decide_eq_true hg] at GA;have HG:=Lib.hid GA;have IX:=Lib.hid (fun W (hb:Below w.heap.size w W)=>rix_any (RS.below hb) (ix_none hc));have RR:=Lib.hid RS;have hrl:r < w.heap.size:=lt_of_block RS.row;have hlen:=RS.len;have HS:=Lib.hid (srtL RS.ok);have HC:=Lib.hid (look_none.1 hc);have n1:0≤n:=hn.1;have n2:n≤63:=hn.2;have FIN:Hid (∀ (k:Nat) (v':Value) (W:World),(∀ x∈L.take k,x.n < n)→(∀ x,L[k]? = some x→n < x.n)→Only (fun k=>k=r) w W→W.heap[r]? = some (.cells #[v',.int .i64 d] 49 (0,0))→Ow E3 W w.heap.size 73 v' (L.take k ++ [(⟨n,p,a,cap,l⟩:Ent)] ++ L.drop k)→RAPost w r F d 0 (put key (n,p,l) (L.map Ent.abs)) (.returned (.int .i64 0)) W):=fun k v' W P1 P2 O row own=>by
  have e:put Ent.n (⟨n,p,a,cap,l⟩:Ent) L=L.take k ++ [(⟨n,p,a,cap,l⟩:Ent)] ++ L.drop k:=by
   rw [put_new hc,ins_at (k:=k) P1 P2]
   simp
  have e2:(L.take k ++ [(⟨n,p,a,cap,l⟩:Ent)] ++ L.drop k).map Ent.abs=put key (n,p,l) (L.map Ent.abs):=by rw [← e,abs_put];rfl
  refine ⟨rfl,⟨v',_,RS.next hF O row own (fun c hc'=>?_) (by rw [e2];exact RS.ok.put hn hg hl),e2⟩,O⟩;rw [← e] at hc'
  rcases mem_put.1 hc' with rfl | ⟨h,_⟩
  ·exact .inr ⟨rd_only (G:=fun k=>k=r) R (fun h0 k hk e=>ho h0 k hk (.inr e)) O,ho⟩
  ·exact .inl h
 have RV:=Lib.hid R;obtain ⟨va,vcap,rfl,_⟩:=RS.list.rd.slice;clear h1 hB hz R GA hg hn RS hc hF ho hl;generalize hN:L.length=N at *;have HN:=Lib.hid hN;generalize hQ:l.length=q at *;have HQ:=Lib.hid hQ;clear hN hQ;unfold file at HG;have hBN:=run_buildN
 go_enter Tryz.func42,Tryz.ntmps42
 go_wp2_with fail;generalize (w.alloc (.cells #[.int .i64 p,.slice a q cap] 71))=W0 at *;refine HG.out.mono ?_;rintro e w1 ⟨rfl,b1⟩;have B1:=Lib.hid (HB.out.trans (b1.mono HB.out.size));have X1:=Lib.hid ((b1.block _ (lt_of_block H1.out)).trans H1.out);clear b1 HG HB H1;go_wp2_with fail;refine (IX.out _ B1.out).mono ?_;rintro e w2 ⟨rfl,b2⟩;have B2:=Lib.hid (B1.out.trans (b2.mono B1.out.size));have X2:=Lib.hid ((b2.block _ (lt_of_block X1.out)).trans X1.out);clear b2 B1 IX X1;have OM:=Lib.hid (Rw.Ow.made (K:=E3) w2 w2.heap.size 73 (Nat.le_refl _));have B3:=Lib.hid ((Below.refl w2.heap.size w2).alloc (Nat.le_refl _) (.cells #[] 73));go_wp2;generalize (w2.alloc (.cells #[] 73))=W3 at *;generalize (Value.slice (some ⟨w2.heap.size,0,none⟩) 0 0)=v3 at *
 go_loopw [7,8] (fun v i wr=>∃ k:Nat,k≤N∧i = .int .i64 k∧Hid (ARel w2 L n v k wr)) (fun _ i _=>N - (intOf i).toNat)
 case atStart=>exact ⟨0,Nat.zero_le _,rfl,OM.out,by simp,B3.out⟩
 case round =>
  obtain ⟨k,hk,rfl,R⟩:=hrel;obtain ⟨oW,P1',bW⟩:=R.out;obtain ⟨va',vc',ev,_⟩:=oW.slice;have htk:(L.take k).length=k:=by rw [List.length_take];have:=HN.out;omega
  rw [htk] at ev;subst ev;have OW:=Lib.hid oW;have P1:=Lib.hid P1';have B:=Lib.hid bW;have R4':=RR.out.below (B2.out.trans (bW.mono B2.out.size));have c0:wr.cell? ⟨r,0,none⟩=some (.slice va N vcap):=row_cell R4'.row 0;have RL:=Lib.hid R4'.list.rd;have HX2:Hid (w.heap.size < w2.heap.size):=lt_of_block X2.out;clear R oW P1' bW R4' htk
  by_cases hlt:k < N
  ·have hkL:k < L.length:=by have:=HN.out;omega
   obtain ⟨⟨cn,cp,ca,cc,cl⟩,hc⟩:∃ c:Ent,L[k]? = some c:=⟨_,List.getElem?_eq_getElem hkL⟩;obtain ⟨b,off,eb,hA⟩:∃ b off,va=some ⟨b,off,none⟩∧At E3 wr b off L:=by
    obtain ⟨a',c',e,_,_,h⟩:=RL.out;obtain ⟨b,off,e2,hA⟩:=h (by omega);injection e with e1;exact ⟨b,off,e1.trans e2,hA⟩
   subst eb;obtain ⟨x0,x1,x2⟩:=at3 hA hc;unfold Ent.sl at x2;simp only at x0 x1 x2;have hcn:cn≠n:=HC.out _ (List.mem_of_getElem? hc)
   by_cases hcl:cn < n
   ·have TK:Hid (L.take (k+1)=L.take k ++ [(⟨cn,cp,ca,cc,cl⟩:Ent)]):=by rw [List.take_add_one,hc];rfl
    have P1n:Hid (∀ x∈L.take (k+1),x.n < n):=fun x hx=>by
     rw [TK.out] at hx
     rcases List.mem_append.1 hx with hx | hx
     ·exact P1.out x hx
     ·obtain rfl:=List.mem_singleton.1 hx
      exact hcl
    clear hc hA hkL;generalize hcq:cl.length=cq at *;have HCQ:=Lib.hid hcq;clear hcq
    go_wp2_with (at_builtin;refine Rw.push_step (K:=E3) Tryz.underlying22 infoE3 rfl (by omega) rfl _ _ rfl w2.heap.size _ (L.take k) rfl (OW.out.alloc _) _ (⟨cn,cp,ca,cc,cl⟩:Ent) rfl ?d1 ?d2 ?d3 ?_)
    case d1 =>
     intro j u hu
     unfold E3 Ent.sl at hu;simp only [HCQ.out] at hu
     match j,hu with
     | 0,hu=>simp at hu;subst hu;go_simp
     | 1,hu=>simp at hu;subst hu;go_simp
     | 2,hu=>simp at hu;subst hu;go_simp
     | j+3,hu=>simp at hu
    case d2=>rw [List.length_take];omega
    case d3=>have:=B.out.size;simp;omega
    intro v' w4 o4 b4
    rw [← TK.out] at o4;have N2:Hid (ARel w2 L n v' (k+1) w4):=⟨o4,P1n.out,(B.out.alloc B.out.size _).trans b4⟩;clear o4 b4;go_wp2
    go_roundw
    case rel=>exact ⟨k+1,by omega,by go_num,N2⟩
    case measure=>simp [intOf];omega
   ·have P2:Hid (∀ x,L[k]? = some x→n < x.n):=fun x hx=>by
     rw [hc] at hx;obtain rfl:=Option.some.inj hx
     show n < cn
     omega
    clear hc hA hkL hcn RL;go_wp2_with fail;clear x0 x1 x2;clear c0;have X4:=Lib.hid ((B.out.block _ (lt_of_block X2.out)).trans X2.out);have hw2:Hid (w.heap.size≤w2.heap.size):=B2.out.size;have BR:=Lib.hid (B2.out.trans (B.out.mono B2.out.size));have Row4:=Lib.hid ((BR.out.block r hrl).trans RR.out.row);have C0:AC r (.slice (some ⟨b,off,none⟩) N vcap) d w.heap.size p (.slice a q cap) wr.drew:=⟨Row4.out,X4.out⟩;have c0:=Sc.cell_in (C:=AC r (.slice (some ⟨b,off,none⟩) N vcap) d w.heap.size p (.slice a q cap)) (a:=⟨r,0,none⟩) (fun W' h=>row_cell h.row 0);have r0:=Sc.cell_in (C:=AC r (.slice (some ⟨b,off,none⟩) N vcap) d w.heap.size p (.slice a q cap)) (a:=⟨w.heap.size,0,none⟩) (fun W' h=>row_cell h.box 0);have r1:=Sc.cell_in (C:=AC r (.slice (some ⟨b,off,none⟩) N vcap) d w.heap.size p (.slice a q cap)) (a:=⟨w.heap.size,1,none⟩) (fun W' h=>row_cell h.box 1);have ne:Nonempty (Sc.In (AC r (.slice (some ⟨b,off,none⟩) N vcap) d w.heap.size p (.slice a q cap))):=⟨⟨_,C0⟩⟩;obtain ⟨ta,tc,htl,TR⟩:=run_tail RR.out.list.rd k (by have:=HN.out;omega);have TRD:=Lib.hid TR;rw [HN.out] at htl TRD;generalize N - k=mt at htl TRD;have OWR:Hid (Ow E3 wr.drew w2.heap.size 73 (.slice va' k vc') (L.take k)):=OW.out;have BRD:Hid (Below w2.heap.size w2 wr.drew):=B.out.drew;clear TR OW B BR Row4 X4 X2;refine Sz.start (AC r (.slice (some ⟨b,off,none⟩) N vcap) d w.heap.size p (.slice a q cap)) [(false,0),(false,1),(false,2),(false,3),(false,4),(false,7),(false,8),(false,9),(false,10),(false,11),(false,12),(true,5),(true,6),(true,13),(false,14),(false,15)] 16 (by kernel_rfl) (by kernel_rfl) (by kernel_rfl) rfl rfl C0 ?_;dsimp only [Sd.picks,List.getElem?_cons_succ,List.getElem?_cons_zero]
    repeat (refine Sz.lit ?_;quiet_step (fail);refine wpQuiet_nil ?_)
    clear c0 r0 r1 htl;have C1:=Lib.hid C0;clear C0;generalize wr.drew=w4 at *;refine Sz.call (by rfl) (fun K hK=>?_);go_simp;have ba:=Below.heap_alloc w4 (.cells #[.int .i64 n,.int .i64 p,.slice a q cap] 73);have B5:=Lib.hid (BRD.out.alloc BRD.out.size (.cells #[.int .i64 n,.int .i64 p,.slice a q cap] 73));have C5:AC r (.slice (some ⟨b,off,none⟩) N vcap) d w.heap.size p (.slice a q cap) (w4.alloc (.cells #[.int .i64 n,.int .i64 p,.slice a q cap] 73)):=⟨(ba r (lt_of_block C1.out.row)).trans C1.out.row,(ba _ (lt_of_block C1.out.box)).trans C1.out.box⟩;have O5:=Lib.hid (OWR.out.alloc (.cells #[.int .i64 n,.int .i64 p,.slice a q cap] 73));have R5:Hid (Rd E3 (w4.alloc (.cells #[.int .i64 n,.int .i64 p,.slice a q cap] 73)) (.slice (some ⟨w4.heap.size,0,none⟩) 1 1) [(⟨n,p,a,cap,l⟩:Ent)]):=by
     have:=(Rw.Ow.lit (K:=E3) w4 0 73 [(⟨n,p,a,cap,l⟩:Ent)] (Nat.zero_le _) (by unfold maxLen;simp)).rd;have e:(E3.flat [(⟨n,p,a,cap,l⟩:Ent)]).toArray=#[.int .i64 n,.int .i64 p,.slice a q cap]:=by unfold Rw.Kind.flat E3 Ent.sl;rw [← HQ.out];rfl
     rw [e] at this;exact this
    refine hK _ _ (Sc.Cl.of C5) ?_;clear hK K ba;have hz5:Hid (w2.heap.size≤(w4.alloc (.cells #[.int .i64 n,.int .i64 p,.slice a q cap] 73)).heap.size):=B5.out.size;have C5':=Lib.hid C5;clear C5 C1 OWR BRD;generalize (w4.alloc (.cells #[.int .i64 n,.int .i64 p,.slice a q cap] 73))=w5 at *;refine Sz.call (by rfl) (fun K hK=>?_);refine wp_all (Kd:=E3) Tryz.underlying22 infoE3 rfl (by omega) _ _ rfl w2.heap.size _ _ rfl O5.out _ _ rfl R5.out ?a1 hz5.out ?_
    case a1=>rw [List.length_take];simp;omega
    intro v6 w6 o6 b6
    have hrw2:r < w2.heap.size:=by have:=hw2.out;omega
    have hxw2:w.heap.size < w2.heap.size:=HX2.out;have C6:AC r (.slice (some ⟨b,off,none⟩) N vcap) d w.heap.size p (.slice a q cap) w6:=⟨(b6.block r hrw2).trans C5'.out.row,(b6.block _ hxw2).trans C5'.out.box⟩;have B6:=Lib.hid (B5.out.trans b6);have O6:=Lib.hid o6;obtain ⟨v6a,v6c,e6,_⟩:=o6.slice;refine hK _ _ (Sc.Cl.of C6) ?_;clear hK K o6 b6 B5 O5 R5 C5' hz5;have C6':=Lib.hid C6;clear C6;have T6:=Lib.hid (TRD.out.below (B2.out.trans (B6.out.mono B2.out.size)));refine Sz.call (by rfl) (fun K hK=>?_);refine wp_all (Kd:=E3) Tryz.underlying22 infoE3 rfl (by omega) _ _ rfl w2.heap.size _ _ rfl O6.out _ _ rfl T6.out ?a2 B6.out.size ?_
    case a2=>rw [List.length_append,List.length_take,List.length_drop];have:=HN.out;simp only [List.length_cons,List.length_nil];omega
    intro v7 w7 o7 b7
    obtain ⟨v7a,v7c,e7,_⟩:=o7.slice;obtain ⟨n7,rfl⟩:∃ n7,v7 = .slice v7a n7 v7c:=⟨_,e7⟩;clear e7;have C7:AC r (.slice (some ⟨b,off,none⟩) N vcap) d w.heap.size p (.slice a q cap) w7:=⟨(b7.block r hrw2).trans C6'.out.row,(b7.block _ hxw2).trans C6'.out.box⟩;have B7:=Lib.hid (B6.out.trans b7);refine hK _ _ (Sc.Cl.of C7) ?_;clear hK K b7 B6 O6 T6 C6' e6;have c7:w7.cell? ⟨r,0,none⟩=some (.slice (some ⟨b,off,none⟩) N vcap):=row_cell C7.row 0;have f7:=row_frozen C7.row 0;have BW:Below w.heap.size w w7:=B2.out.trans (B7.out.mono B2.out.size);have RES:Hid (RAPost w r F d 0 (put key (n,p,l) (L.map Ent.abs)) (.returned (.int .i64 0)) (w7.setCell ⟨r,0,none⟩ (.slice v7a n7 v7c))):=by
     refine FIN.out k (.slice v7a n7 v7c) _ P1.out P2.out ((Only.of_below BW).trans (Only.set (fun k=>k=r) w7 (a:=⟨r,0,none⟩) rfl _) fun _ _ g=>g) ?_ ?_
     ·have:=Rw.heap_setCell_same (j:=0) C7.row (.slice v7a n7 v7c)
      rw [this]
      simp
     ·exact (o7.off (p:=⟨r,0,none⟩) (o7.range (.inl hrw2)) (.slice v7a n7 v7c)).low hw2.out
    clear C7 BW o7 B7 FIN
    repeat (refine Sz.lit ?_;quiet_step (fail);refine wpQuiet_nil ?_)
    refine Sz.done ?_;go_simp;clear c7 f7;generalize (w7.setCell ⟨r,0,none⟩ (.slice v7a n7 v7c))=w8 at *;refine NoPanic.normal ?_;go_wp2
    go_ret
    exact RES.out
  ·obtain rfl:k=N:=by omega
   have P2:Hid (∀ x,L[k]? = some x→n < x.n):=fun x hx=>by
    have:=(List.getElem?_eq_some_iff.1 hx).1;have:=HN.out
    omega
   clear RL;go_wp2_with fail;clear c0;have X4:=Lib.hid ((B.out.block _ (lt_of_block X2.out)).trans X2.out);have hw2:Hid (w.heap.size≤w2.heap.size):=B2.out.size;have BR:=Lib.hid (B2.out.trans (B.out.mono B2.out.size));have Row4:=Lib.hid ((BR.out.block r hrl).trans RR.out.row);have C0:AC r (.slice va k vcap) d w.heap.size p (.slice a q cap) wr.drew:=⟨Row4.out,X4.out⟩;have c0:=Sc.cell_in (C:=AC r (.slice va k vcap) d w.heap.size p (.slice a q cap)) (a:=⟨r,0,none⟩) (fun W' h=>row_cell h.row 0);have r0:=Sc.cell_in (C:=AC r (.slice va k vcap) d w.heap.size p (.slice a q cap)) (a:=⟨w.heap.size,0,none⟩) (fun W' h=>row_cell h.box 0);have r1:=Sc.cell_in (C:=AC r (.slice va k vcap) d w.heap.size p (.slice a q cap)) (a:=⟨w.heap.size,1,none⟩) (fun W' h=>row_cell h.box 1);have ne:Nonempty (Sc.In (AC r (.slice va k vcap) d w.heap.size p (.slice a q cap))):=⟨⟨_,C0⟩⟩;obtain ⟨ta,tc,htl,TR⟩:=run_tail RR.out.list.rd k (by have:=HN.out;omega);have TRD:=Lib.hid TR;rw [HN.out] at htl TRD;generalize k - k=mt at htl TRD;have OWR:Hid (Ow E3 wr.drew w2.heap.size 73 (.slice va' k vc') (L.take k)):=OW.out;have BRD:Hid (Below w2.heap.size w2 wr.drew):=B.out.drew;clear TR OW B BR Row4 X4 X2;refine Sz.start (AC r (.slice va k vcap) d w.heap.size p (.slice a q cap)) [(false,0),(false,1),(false,2),(false,3),(false,4),(false,7),(false,8),(false,9),(false,10),(false,11),(false,12),(true,5),(true,6),(true,13),(false,14),(false,15)] 16 (by kernel_rfl) (by kernel_rfl) (by kernel_rfl) rfl rfl C0 ?_;dsimp only [Sd.picks,List.getElem?_cons_succ,List.getElem?_cons_zero]
   repeat (refine Sz.lit ?_;quiet_step (fail);refine wpQuiet_nil ?_)
   clear c0 r0 r1 htl;have C1:=Lib.hid C0;clear C0;generalize wr.drew=w4 at *;refine Sz.call (by rfl) (fun K hK=>?_);go_simp;have ba:=Below.heap_alloc w4 (.cells #[.int .i64 n,.int .i64 p,.slice a q cap] 73);have B5:=Lib.hid (BRD.out.alloc BRD.out.size (.cells #[.int .i64 n,.int .i64 p,.slice a q cap] 73));have C5:AC r (.slice va k vcap) d w.heap.size p (.slice a q cap) (w4.alloc (.cells #[.int .i64 n,.int .i64 p,.slice a q cap] 73)):=⟨(ba r (lt_of_block C1.out.row)).trans C1.out.row,(ba _ (lt_of_block C1.out.box)).trans C1.out.box⟩;have O5:=Lib.hid (OWR.out.alloc (.cells #[.int .i64 n,.int .i64 p,.slice a q cap] 73));have R5:Hid (Rd E3 (w4.alloc (.cells #[.int .i64 n,.int .i64 p,.slice a q cap] 73)) (.slice (some ⟨w4.heap.size,0,none⟩) 1 1) [(⟨n,p,a,cap,l⟩:Ent)]):=by
    have:=(Rw.Ow.lit (K:=E3) w4 0 73 [(⟨n,p,a,cap,l⟩:Ent)] (Nat.zero_le _) (by unfold maxLen;simp)).rd;have e:(E3.flat [(⟨n,p,a,cap,l⟩:Ent)]).toArray=#[.int .i64 n,.int .i64 p,.slice a q cap]:=by unfold Rw.Kind.flat E3 Ent.sl;rw [← HQ.out];rfl
    rw [e] at this;exact this
   refine hK _ _ (Sc.Cl.of C5) ?_;clear hK K ba;have hz5:Hid (w2.heap.size≤(w4.alloc (.cells #[.int .i64 n,.int .i64 p,.slice a q cap] 73)).heap.size):=B5.out.size;have C5':=Lib.hid C5;clear C5 C1 OWR BRD;generalize (w4.alloc (.cells #[.int .i64 n,.int .i64 p,.slice a q cap] 73))=w5 at *;refine Sz.call (by rfl) (fun K hK=>?_);refine wp_all (Kd:=E3) Tryz.underlying22 infoE3 rfl (by omega) _ _ rfl w2.heap.size _ _ rfl O5.out _ _ rfl R5.out ?a1 hz5.out ?_
   case a1=>rw [List.length_take];simp;omega
   intro v6 w6 o6 b6
   have hrw2:r < w2.heap.size:=by have:=hw2.out;omega
   have hxw2:w.heap.size < w2.heap.size:=HX2.out;have C6:AC r (.slice va k vcap) d w.heap.size p (.slice a q cap) w6:=⟨(b6.block r hrw2).trans C5'.out.row,(b6.block _ hxw2).trans C5'.out.box⟩;have B6:=Lib.hid (B5.out.trans b6);have O6:=Lib.hid o6;obtain ⟨v6a,v6c,e6,_⟩:=o6.slice;refine hK _ _ (Sc.Cl.of C6) ?_;clear hK K o6 b6 B5 O5 R5 C5' hz5;have C6':=Lib.hid C6;clear C6;have T6:=Lib.hid (TRD.out.below (B2.out.trans (B6.out.mono B2.out.size)));refine Sz.call (by rfl) (fun K hK=>?_);refine wp_all (Kd:=E3) Tryz.underlying22 infoE3 rfl (by omega) _ _ rfl w2.heap.size _ _ rfl O6.out _ _ rfl T6.out ?a2 B6.out.size ?_
   case a2=>rw [List.length_append,List.length_take,List.length_drop];have:=HN.out;simp only [List.length_cons,List.length_nil];omega
   intro v7 w7 o7 b7
   obtain ⟨v7a,v7c,e7,_⟩:=o7.slice;obtain ⟨n7,rfl⟩:∃ n7,v7 = .slice v7a n7 v7c:=⟨_,e7⟩;clear e7;have C7:AC r (.slice va k vcap) d w.heap.size p (.slice a q cap) w7:=⟨(b7.block r hrw2).trans C6'.out.row,(b7.block _ hxw2).trans C6'.out.box⟩;have B7:=Lib.hid (B6.out.trans b7);refine hK _ _ (Sc.Cl.of C7) ?_;clear hK K b7 B6 O6 T6 C6' e6;have c7:w7.cell? ⟨r,0,none⟩=some (.slice va k vcap):=row_cell C7.row 0;have f7:=row_frozen C7.row 0;have BW:Below w.heap.size w w7:=B2.out.trans (B7.out.mono B2.out.size);have RES:Hid (RAPost w r F d 0 (put key (n,p,l) (L.map Ent.abs)) (.returned (.int .i64 0)) (w7.setCell ⟨r,0,none⟩ (.slice v7a n7 v7c))):=by
    refine FIN.out k (.slice v7a n7 v7c) _ P1.out P2.out ((Only.of_below BW).trans (Only.set (fun k=>k=r) w7 (a:=⟨r,0,none⟩) rfl _) fun _ _ g=>g) ?_ ?_
    ·have:=Rw.heap_setCell_same (j:=0) C7.row (.slice v7a n7 v7c)
     rw [this]
     simp
    ·exact (o7.off (p:=⟨r,0,none⟩) (o7.range (.inl hrw2)) (.slice v7a n7 v7c)).low hw2.out
   clear C7 BW o7 B7 FIN
   repeat (refine Sz.lit ?_;quiet_step (fail);refine wpQuiet_nil ?_)
   refine Sz.done ?_;go_simp;clear c7 f7;generalize (w7.setCell ⟨r,0,none⟩ (.slice v7a n7 v7c))=w8 at *;refine NoPanic.normal ?_;go_wp2
   go_ret
   exact RES.out
theorem radd_any {w:World} {r:Nat} {F:Nat→Prop} {A:Abs} {d:Int} (RS:Rs w r F A d) (hF:∀ k,F k→k < w.heap.size) (n p:Int) (v:Value) (l:List R4) (R:Rd K4 w v l) (ho:0 < l.length→∀ k,v.ownBlock=some k→¬ (F k∨k=r)) (hl:okL l) :
 Calls Tryz.prog 42 #[.pointer (some ⟨r,0,none⟩),.int .i64 n,file p v] w (RAPost w r F d (addE A n p l) (addA A n p l)):=by
 obtain ⟨u,L,h,rfl⟩:=RS;obtain ⟨a,cap,rfl,_⟩:=R.slice;have no:∀ z e w',addE (L.map Ent.abs) n p l=z→z≠0→(e = .returned (.int .i64 z)∧Below w.heap.size w w')→RAPost w r F d (addE (L.map Ent.abs) n p l) (addA (L.map Ent.abs) n p l) e w':=fun z e w' hz h0 ⟨he,b⟩=>by
  unfold RAPost addA;rw [hz,if_neg h0];exact ⟨he,⟨u,L,h.below b,rfl⟩,Only.of_below b⟩
 by_cases hn:0≤n∧n≤63
 ·by_cases hg:goodF p l
  ·cases hc:look Ent.n n L with
   | some c =>
     obtain ⟨i,_,hq⟩:=ix_some (srtL h.ok) hc;exact (radd_10 h n p a _ cap l R hn hg hq).mono fun e w'=>no 10 e w' (by unfold addE;rw [if_pos hn,if_pos hg,abs_look,hc];rfl) (by decide)
   | none =>
     have e0:addE (L.map Ent.abs) n p l=0:=by unfold addE;rw [if_pos hn,if_pos hg,abs_look,hc];rfl
     unfold addA;rw [e0,if_pos rfl];exact radd_0 h hF n p a _ cap l R ho hn hg hl hc
  ·exact (radd_2 w r n p a _ cap l R hn hg).mono fun e w'=>no 2 e w' (by unfold addE;rw [if_pos hn,if_neg hg]) (by decide)
 ·exact (radd_1 w r n p a _ cap hn).mono fun e w'=>no 1 e w' (by unfold addE;rw [if_neg hn]) (by decide)
end Go.Proofs.YtelgnhmcnfibnaaGreatDoor.Fs
namespace Go.Proofs.YtelgnhmcnfibnaaGreatDoor.Fs
open Go.RowKit Go.Maps
open Fl (R4 z4 K4 rec4 rat file rsame_any sameF ret_bool)
open Rw (Rd Ow At)
attribute [local irreducible] wpQuiet
instance decR4:DecidableEq R4:=@instDecidableEqProd _ _ _ (@instDecidableEqProd _ _ _ (@instDecidableEqProd _ _ _ _))
instance decFil:DecidableEq Fil:=@instDecidableEqProd _ _ _ (@instDecidableEqProd _ _ _ (@instDecidableEqList _ decR4))
instance decAbs (A B:Abs):Decidable (A=B):=@instDecidableEqList _ decFil A B
theorem below_drew {B:Nat} {w w':World} (h:Below B w w') (n:Nat):Below B w (w'.drewN n):=⟨h.os,h.tape,h.output,h.size,h.block⟩
set_option maxHeartbeats 2000000 in
theorem same_any {w:World} {F F':Nat→Prop} {v v':Value} {L L':List Ent} (h:Lst F w v L) (h':Lst F' w v' L') (hlen:L.length≤64) :
 Calls Tryz.prog 15 #[v,v'] w fun e w'=>e = .returned (.bool (decide (L.map Ent.abs=L'.map Ent.abs)))∧Below w.heap.size w w':=by
 obtain ⟨a,cap,rfl,_,_,h3⟩:=h.rd;obtain ⟨a',cap',rfl,_,_,h3'⟩:=h'.rd;have H3:=Lib.hid h3;have H3':=Lib.hid h3';have FL:=Lib.hid h.file;have FL':=Lib.hid h'.file;clear h h' h3 h3'
 by_cases hl:L.length=L'.length
 ·have HL:=Lib.hid hl
  rw [← hl];rw [← hl] at H3';clear hl;generalize hn:L.length=N at *;have HN:=Lib.hid hn;clear hn
  go_enter Tryz.func15,Tryz.ntmps15
  go_wp2
  go_loopw [5] (fun i wr=>∃ k:Nat,k≤N∧i = .int .i64 k∧Hid ((L.take k).map Ent.abs=(L'.take k).map Ent.abs)∧Hid (Below w.heap.size w wr)) (fun i _=>N - (intOf i).toNat)
  case atStart=>exact ⟨0,Nat.zero_le _,rfl,rfl,Below.refl _ _⟩
  case round =>
   obtain ⟨k,hk,rfl,E,B⟩:=hrel
   by_cases hlt:k < N
   ·have hkL:k < L.length:=by have:=HN.out;omega
    have hkL':k < L'.length:=by have:=HL.out;have:=HN.out;omega
    obtain ⟨⟨cn,cp,ca,cc,cl⟩,hc⟩:∃ c:Ent,L[k]? = some c:=⟨_,List.getElem?_eq_getElem hkL⟩;obtain ⟨⟨dn,dp,da,dc,dl⟩,hd⟩:∃ c:Ent,L'[k]? = some c:=⟨_,List.getElem?_eq_getElem hkL'⟩;obtain ⟨b,off,rfl,hA⟩:=H3.out (by omega);obtain ⟨b',off',rfl,hA'⟩:=H3'.out (by omega);obtain ⟨x0,x1,x2⟩:=at3 (hA.below B.out) hc;obtain ⟨y0,y1,y2⟩:=at3 (hA'.below B.out) hd;unfold Ent.sl at x2 y2;simp only at x0 x1 x2 y0 y1 y2;have RC:Hid (Rd K4 w (.slice ca cl.length cc) cl):=FL.out _ (List.mem_of_getElem? hc);have RD:Hid (Rd K4 w (.slice da dl.length dc) dl):=FL'.out _ (List.mem_of_getElem? hd);have NO:Hid (¬ (cn=dn∧cp=dp∧cl=dl)→¬ (L.map Ent.abs=L'.map Ent.abs)):=fun hne e=>by
     have e1:=congrArg (fun l:List Fil=>l[k]?) e;simp only [List.getElem?_map,hc,hd,Option.map_some,Ent.abs] at e1;injection e1 with e1;injection e1 with e1 e2;injection e2 with e2 e3;exact hne ⟨e1,e2,e3⟩
    have YES:Hid (cn=dn→cp=dp→cl=dl→(L.take (k+1)).map Ent.abs=(L'.take (k+1)).map Ent.abs):=fun e1 e2 e3=>by
     rw [List.take_add_one,List.take_add_one,hc,hd,List.map_append,List.map_append,E.out]
     simp [Ent.abs,e1,e2,e3]
    have SA:=Lib.hid (fun W (hb:Below w.heap.size w W)=>rsame_any W cp dp (.slice ca cl.length cc) (.slice da dl.length dc) cl dl (RC.out.below hb) (RD.out.below hb));clear hc hd hA hA' hkL hkL'
    by_cases he:cn=dn
    ·subst he
     cases hs:sameF cp cl dp dl with
     | false =>
       rw [hs] at SA;have RES:Hid (decide (L.map Ent.abs=L'.map Ent.abs)=false):=decide_eq_false (NO.out fun ⟨_,e2,e3⟩=>by unfold sameF at hs;rw [decide_eq_true ⟨e2,e3⟩] at hs;cases hs);clear NO YES RC RD hs;generalize cl.length=q at *;generalize dl.length=q' at *;unfold file at SA;go_wp2_with fail;have s0:=Qb.cell_by x0;have s1:=Qb.cell_by x1;have s2:=Qb.cell_by x2;have t0:=Qb.cell_by y0;have t1:=Qb.cell_by y1;have t2:=Qb.cell_by y2;clear x0 x1 x2 y0 y1 y2;have SB:=Lib.hid (fun (P:Qb.By wr)=>SA.out P.world (B.out.trans (P.below.mono B.out.size)));refine Qb.wp_region_by (by kernel_rfl) (by kernel_rfl) ?_
       repeat (quiet_step ((go_at_call 33;exact Qb.of_below (SB.out _))))
       refine wpQuiet_nil ?_
       intro _ hw'
       obtain ⟨pp,rfl⟩:=hw';go_wp2
       go_ret
       exact ⟨ret_bool RES.out.symm,B.out.trans (pp.below.mono B.out.size)⟩
     | true =>
       rw [hs] at SA;have ST:Hid ((L.take (k+1)).map Ent.abs=(L'.take (k+1)).map Ent.abs):=by
        have:=of_decide_eq_true hs;exact YES.out rfl this.1 this.2
       clear NO YES RC RD hs;generalize cl.length=q at *;generalize dl.length=q' at *;unfold file at SA;go_wp2_with fail;have s0:=Qb.cell_by x0;have s1:=Qb.cell_by x1;have s2:=Qb.cell_by x2;have t0:=Qb.cell_by y0;have t1:=Qb.cell_by y1;have t2:=Qb.cell_by y2;clear x0 x1 x2 y0 y1 y2;have SB:=Lib.hid (fun (P:Qb.By wr)=>SA.out P.world (B.out.trans (P.below.mono B.out.size)));refine Qb.wp_region_by (by kernel_rfl) (by kernel_rfl) ?_
       repeat (quiet_step ((go_at_call 33;exact Qb.of_below (SB.out _))))
       refine wpQuiet_nil ?_
       intro _ hw'
       obtain ⟨pp,rfl⟩:=hw';clear s0 s1 s2 t0 t1 t2 SB SA;have BP:=Lib.hid (B.out.trans (pp.below.mono B.out.size));generalize pp.world=wp at *;go_wp2
       go_roundw
       case rel=>exact ⟨k+1,by omega,by go_num,ST,BP⟩
       case measure=>simp [intOf];omega
    ·have RES:Hid (decide (L.map Ent.abs=L'.map Ent.abs)=false):=decide_eq_false (NO.out fun h=>he h.1)
     clear NO YES RC RD SA;generalize cl.length=q at *;generalize dl.length=q' at *;go_wp2_with fail;have s0:=Qb.cell_by x0;have s1:=Qb.cell_by x1;have s2:=Qb.cell_by x2;have t0:=Qb.cell_by y0;have t1:=Qb.cell_by y1;have t2:=Qb.cell_by y2;clear x0 x1 x2 y0 y1 y2;refine Qb.wp_region_by (by kernel_rfl) (by kernel_rfl) ?_
     repeat (quiet_step (fail))
     refine wpQuiet_nil ?_
     intro _ hw'
     obtain ⟨pp,rfl⟩:=hw';go_wp2
     go_ret
     exact ⟨ret_bool RES.out.symm,B.out.trans (pp.below.mono B.out.size)⟩
   ·obtain rfl:k=N:=by omega
    have RES:Hid (decide (L.map Ent.abs=L'.map Ent.abs)=true):=by
     have e:=E.out;rw [List.take_of_length_le (by have:=HN.out;omega),List.take_of_length_le (by have:=HN.out;have:=HL.out;omega)] at e;exact decide_eq_true e
    go_wp2
    go_ret
    exact ⟨ret_bool RES.out.symm,B.out⟩
 ·have RES:Hid (decide (L.map Ent.abs=L'.map Ent.abs)=false):=decide_eq_false fun e=>hl (by have:=congrArg List.length e;rwa [List.length_map,List.length_map] at this)
  have h3:¬ ((L.length:Int)=L'.length):=by omega
  clear hl H3 H3' FL FL';generalize L.length=N at *;generalize L'.length=N' at *
  go_enter Tryz.func15,Tryz.ntmps15
  go_wp2
  go_ret
  exact ⟨ret_bool RES.out.symm,Below.refl _ _⟩
theorem same_is {w:World} {F F':Nat→Prop} {v v':Value} {A:Abs} (h:Ls F w v A) (h':Ls F' w v' A) (hlen:A.length≤64) :
 Calls Tryz.prog 15 #[v,v'] w fun e w'=>e = .returned (.bool true)∧Below w.heap.size w w':=by
 obtain ⟨L,hL,rfl⟩:=h;obtain ⟨L',hL',e⟩:=h';have:=same_any hL hL' (by rwa [List.length_map] at hlen)
 rwa [decide_eq_true e.symm] at this
end Go.Proofs.YtelgnhmcnfibnaaGreatDoor.Fs
namespace Go.Proofs.YtelgnhmcnfibnaaGreatDoor.Fs
open Go.RowKit Go.Maps
open Fl (R4 z4 K4 rec4 rat goodF goodFB okR okL file arr4 row_cell row_frozen)
open Rw (Rd Ow At)
def KD:Rw.Kind De:=⟨De.cells,10,by decide,fun _=>rfl,fun D u h=>by simp [De.cells] at h;rcases h with rfl | rfl | rfl | rfl | rfl | rfl | rfl | rfl | rfl | rfl <;> rfl,⟨0,0,0,0,z4,0,none,0,[]⟩⟩
structure Dd (w:World) (s r:Nat) (F:Nat→Prop) (A:Abs) (d:Int) (A':Abs) (d':Int) (W:World):Prop where
 st:St W s F A d
 rs:Rs W r F A' d'
 lo:∀ k,F k→w.heap.size≤k
 rlo:w.heap.size≤r
 bel:Below w.heap.size w W
section
variable {w W W':World} {s r:Nat} {F:Nat→Prop} {A A' A2:Abs} {d d' d2:Int}
theorem Dd.off (h:Dd w s r F A d A' d' W):¬ F r:=by obtain ⟨v,L,hh,_⟩:=h.rs;exact hh.off
theorem Dd.inS (h:Dd w s r F A d A' d' W) (st:St W' s (Fx F W W') A2 d2) (o:Only F W W'):Dd w s r (Fx F W W') A2 d2 A' d' W' :=
 ⟨st,h.rs.only o,fun k hk=>by
  rcases hk with hk | ⟨hk,_⟩
  ·exact h.lo k hk
  ·have:=h.bel.size;omega,h.rlo,h.bel.trans (o.below h.bel.size h.lo)⟩
theorem Dd.inR (h:Dd w s r F A d A' d' W) (rs:Rs W' r F A2 d2) (o:Only (fun k=>k=r) W W'):Dd w s r F A d A2 d2 W' :=
 ⟨h.st.only (G:=fun k=>k=r) (fun k hk (e:k=r)=>h.off (e ▸ hk)) o,rs,h.lo,h.rlo,h.bel.trans (o.below h.bel.size fun k hk=>by subst hk;exact h.rlo)⟩
theorem Dd.below (h:Dd w s r F A d A' d' W) (b:Below W.heap.size W W'):Dd w s r F A d A' d' W':=⟨h.st.below b,h.rs.below b,h.lo,h.rlo,h.bel.trans (b.mono h.bel.size)⟩
theorem Dd.glob (h:Dd w s r F A d A' d' W) (g:Glob w):Glob W∧¬ F 0:=⟨g.below h.bel,fun hk=>by have:=h.lo _ hk;have:_ < w.heap.size:=World.block_lt_of_cell? _ _ g;simp only at this;omega⟩
structure Cb (F:Nat→Prop) (r:Nat) (W:World) (g:Nat) (cs:Array Value) (t:TypeId):Prop where
 row:W.heap[g]? = some (.cells cs t (0,0))
 off:¬ F g
 ne:g≠r
theorem Cb.inS {g:Nat} {cs:Array Value} {t:TypeId} (h:Cb F r W g cs t) (o:Only F W W'):Cb (Fx F W W') r W' g cs t:=⟨(o.block g (lt_of_block h.row) h.off).trans h.row,Fx.not h.off (lt_of_block h.row),h.ne⟩
theorem Cb.inR {g:Nat} {cs:Array Value} {t:TypeId} (h:Cb F r W g cs t) (o:Only (fun k=>k=r) W W'):Cb F r W' g cs t:=⟨(o.block g (lt_of_block h.row) h.ne).trans h.row,h.off,h.ne⟩
theorem Cb.below {g:Nat} {cs:Array Value} {t:TypeId} (h:Cb F r W g cs t) (b:Below W.heap.size W W'):Cb F r W' g cs t:=⟨(b.block g (lt_of_block h.row)).trans h.row,h.off,h.ne⟩
theorem Dd.box (h:Dd w s r F A d A' d' W) (cs:Array Value) (t:TypeId):Cb F r (W.alloc (.cells cs t)) W.heap.size cs t:=⟨heap_alloc_new W _,fun hk=>by have:=h.st.low _ hk;omega,fun e=>by obtain ⟨v,L,hh,_⟩:=h.rs;have:=lt_of_block hh.row;omega⟩
end
end Go.Proofs.YtelgnhmcnfibnaaGreatDoor.Fs
namespace Go.Proofs.YtelgnhmcnfibnaaGreatDoor.Ua
open Go.RowKit
def arr (F:Nat→Bool):Array Value:=#[.bool (F 0),.bool (F 1),.bool (F 2),.bool (F 3),.bool (F 4),.bool (F 5),.bool (F 6),.bool (F 7),.bool (F 8),.bool (F 9),.bool (F 10)]
section
variable {w w':World} {g:Nat} {F:Nat→Bool}
end
theorem ret_bool {a b:Bool} (h:a=b):Ending.returned (.bool a) = .returned (.bool b):=by rw [h]
theorem ret_int {k:IntKind} {a b:Int} (h:a=b):Ending.returned (.int k a) = .returned (.int k b):=by rw [h]
end Go.Proofs.YtelgnhmcnfibnaaGreatDoor.Ua
