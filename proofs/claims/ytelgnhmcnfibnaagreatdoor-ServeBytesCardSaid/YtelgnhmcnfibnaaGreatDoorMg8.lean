import Derived.Test.YtelgnhmcnfibnaaGreatDoorMg7
import Derived.Test.YtelgnhmcnfibnaaGreatDoorMg1
import Derived.Laws.Rows
import Derived.Deep.WholeRow
import Derived.WideKeyEntry
import Derived.DeepKeys5
import Derived.Maps.AppendAt
import Derived.Test.YtelgnhmcnfibnaaGreatDoorMg3
import Derived.Test.YtelgnhmcnfibnaaGreatDoorMg5
import Derived.Test.YtelgnhmcnfibnaaGreatDoorMg6
import Derived.Test.YtelgnhmcnfibnaaGreatDoorMg4
import Derived.Deep.Cut
set_option maxRecDepth 100000
namespace Go.Proofs.YtelgnhmcnfibnaaGreatDoor.Ck
open Go.RowKit
open Ro (E5 z5 eat ent K5)
open Rw (Rd Ow At)
abbrev Hd:=Option Addr×Nat×Nat
def zh:Hd:=(none,0,0)
def sl (h:Hd):Value:=.slice h.1 h.2.1 h.2.2
def RdL (w:World) (v:Value) (L:LL):Prop:=∃ a cap,v = .slice a L.length cap∧(L.length≤cap∧(a=none→cap=0))∧cap≤maxLen ∧
 (0 < L.length→∃ b off,a=some ⟨b,off,none⟩∧∀ i,i < L.length→∃ u,w.cell? ⟨b,off+i,none⟩=some u∧Rd K5 w u (lat L i))
section
variable {w w':World} {v:Value} {L:LL}
theorem RdL.below (h:RdL w v L) (hb:Below w.heap.size w w'):RdL w' v L:=by
 obtain ⟨a,cap,e,h1,h2,h3⟩:=h;refine ⟨a,cap,e,h1,h2,fun hp=>?_⟩;obtain ⟨b,off,ea,hA⟩:=h3 hp;refine ⟨b,off,ea,fun i hi=>?_⟩;obtain ⟨u,c,r⟩:=hA i hi;exact ⟨u,(hb.cell (World.block_lt_of_cell? _ _ c)).trans c,r.below hb⟩
theorem RdL.slice (h:RdL w v L):∃ a cap,v = .slice a L.length cap∧cap≤maxLen:=by
 obtain ⟨a,cap,e,_,h2,_⟩:=h;exact ⟨a,cap,e,h2⟩
theorem RdL.one (h:RdL w v L) {k:Nat} (hk:k < L.length):∃ b off cap a' cap',v = .slice (some ⟨b,off,none⟩) L.length cap∧w.cell? ⟨b,off+k,none⟩=some (.slice a' (lat L k).length cap')∧cap'≤maxLen ∧
 (0 < (lat L k).length→∃ b' off',a'=some ⟨b',off',none⟩∧At K5 w b' off' (lat L k)):=by
 obtain ⟨a,cap,e,h1,h2,h3⟩:=h;obtain ⟨b,off,rfl,hA⟩:=h3 (by omega);obtain ⟨u,c,a',cap',rfl,g1,g2,g3⟩:=hA k hk;exact ⟨b,off,cap,a',cap',e,c,g2,g3⟩
theorem RdL.rd (h:RdL w v L) {k:Nat} (hk:k < L.length) {b off cap:Nat} (e:v = .slice (some ⟨b,off,none⟩) L.length cap) {u:Value} (c:w.cell? ⟨b,off+k,none⟩=some u):Rd K5 w u (lat L k):=by
 obtain ⟨a,cap',e',h1,h2,h3⟩:=h;obtain ⟨b',off',rfl,hA⟩:=h3 (by omega);rw [e] at e';injection e' with e1 _ _;injection e1 with e1;injection e1 with e1 e2 _;subst e1 e2;obtain ⟨u',c',r⟩:=hA k hk;rw [c] at c';injection c' with c';subst c';exact r
theorem RdL.take {a:Option Addr} {n cap:Nat} (h:RdL w (.slice a n cap) L) {k:Nat} (hk:k≤L.length):RdL w (.slice a k cap) (L.take k):=by
 obtain ⟨a',cap',e,h1,h2,h3⟩:=h;injection e with e1 e2 e3;subst e1 e2 e3;have hl:(L.take k).length=k:=by rw [List.length_take];omega
 refine ⟨a,cap,by rw [hl],⟨by omega,h1.2⟩,h2,fun hp=>?_⟩;rw [hl] at hp;obtain ⟨b,off,rfl,hA⟩:=h3 (by omega);refine ⟨b,off,rfl,fun i hi=>?_⟩;rw [hl] at hi;rw [lat_take hi];exact hA i (by omega)
end
section
variable {w w':World} {g:Nat} {F:Nat→Int}
end
end Go.Proofs.YtelgnhmcnfibnaaGreatDoor.Ck
namespace Go.Proofs.YtelgnhmcnfibnaaGreatDoor.Pa
open Go.RowKit Go.Maps
open Fl (R4 z4 K4 rec4 rat okR okL arr4 row_cell row_frozen)
open Fs (Abs St Rs Only Fx gB gV sB sA dA dE dD Wf OkA law keyI Rh)
open Rw (Rd Ow At)
open Ro (E5 z5 okE eat K5 ent)
open Ck (LL lat sN sE tE bI RdL)
def ptr (s:Nat):Value:=.pointer (some ⟨s,0,none⟩)
def KN:Rw.Kind Nat:=⟨fun s=>[ptr s],1,by decide,fun _=>rfl,fun _ u h=>by simp at h;subst h;rfl,0⟩
def pv (p:Option Nat):Value:=.pointer (p.map fun s=>⟨s,0,none⟩)
def KP:Rw.Kind (Option Nat):=⟨fun p=>[pv p],1,by decide,fun _=>rfl,fun p u h=>by simp at h;subst h;cases p <;> rfl,none⟩
def KB:Rw.Kind Bool:=⟨fun b=>[.bool b],1,by decide,fun _=>rfl,fun _ u h=>by simp at h;subst h;rfl,false⟩
section
variable {w:World} {b off:Nat}
theorem atN {l:List Nat} (h:At KN w b off l) {i:Nat} (hi:i < l.length):w.cell? ⟨b,off+i,none⟩=some (ptr (l.getD i 0)):=by
 have c:=h i hi 0 _ rfl
 simpa [KN] using c
end
def Has (w:World) (s:Nat) (x:Abs×Int):Prop:=∃ F,St w s F x.1 x.2
def Hrf (w:World) (r:Nat) (x:Abs×Int):Prop:=Rs w r (fun _=>False) x.1 x.2
def Stl (w:World) (v:Value) (S:Sts):Prop:=∃ ps:List Nat,Rd KN w v ps∧ps.length=S.length∧∀ i,i < S.length→Has w (ps.getD i 0) (sat S i)
def Rfl (w:World) (v:Value) (S:Sts):Prop:=∃ ps:List Nat,Rd KN w v ps∧ps.length=S.length∧∀ i,i < S.length→Hrf w (ps.getD i 0) (sat S i)
section
variable {w w':World} {s:Nat} {x:Abs×Int} {v:Value} {S:Sts}
theorem Has.below (h:Has w s x) (b:Below w.heap.size w w'):Has w' s x:=by obtain ⟨F,h⟩:=h;exact ⟨F,h.below b⟩
theorem Hrf.below (h:Hrf w s x) (b:Below w.heap.size w w'):Hrf w' s x:=Fs.Rs.below h b
theorem Has.okA (h:Has w s x):OkA x.1:=by obtain ⟨F,h⟩:=h;exact h.okA
theorem Hrf.okA (h:Hrf w s x):OkA x.1:=by obtain ⟨v,L,h,e⟩:=h;rw [← e];exact h.ok
theorem Stl.below (h:Stl w v S) (b:Below w.heap.size w w'):Stl w' v S:=by obtain ⟨ps,h1,h2,h3⟩:=h;exact ⟨ps,h1.below b,h2,fun i hi=>(h3 i hi).below b⟩
theorem Rfl.below (h:Rfl w v S) (b:Below w.heap.size w w'):Rfl w' v S:=by obtain ⟨ps,h1,h2,h3⟩:=h;exact ⟨ps,h1.below b,h2,fun i hi=>(h3 i hi).below b⟩
theorem Stl.slice (h:Stl w v S):∃ a cap,v = .slice a S.length cap∧cap≤maxLen:=by obtain ⟨ps,h1,h2,_⟩:=h;rw [← h2];exact h1.slice
theorem Rfl.slice (h:Rfl w v S):∃ a cap,v = .slice a S.length cap∧cap≤maxLen:=by obtain ⟨ps,h1,h2,_⟩:=h;rw [← h2];exact h1.slice
theorem Stl.one (h:Stl w v S) {k:Nat} (hk:k < S.length):∃ b off cap s,v = .slice (some ⟨b,off,none⟩) S.length cap∧w.cell? ⟨b,off+k,none⟩=some (ptr s)∧Has w s (sat S k):=by
 obtain ⟨ps,h1,h2,h3⟩:=h;obtain ⟨a,cap,e,_,_,g⟩:=h1;obtain ⟨b,off,rfl,hA⟩:=g (by omega);exact ⟨b,off,cap,_,by rw [← h2];exact e,atN hA (by omega),h3 k hk⟩
theorem Rfl.one (h:Rfl w v S) {k:Nat} (hk:k < S.length):∃ b off cap s,v = .slice (some ⟨b,off,none⟩) S.length cap∧w.cell? ⟨b,off+k,none⟩=some (ptr s)∧Hrf w s (sat S k):=by
 obtain ⟨ps,h1,h2,h3⟩:=h;obtain ⟨a,cap,e,_,_,g⟩:=h1;obtain ⟨b,off,rfl,hA⟩:=g (by omega);exact ⟨b,off,cap,_,by rw [← h2];exact e,atN hA (by omega),h3 k hk⟩
end
structure Ns (w:World) (vs vt vl:Value) (S:Sts) (T:LL) (V:List Bool):Prop where
 st:Stl w vs S
 tb:RdL w vt T
 lv:Rd KB w vl V
 lt:T.length=S.length
 ll:V.length=S.length
 ok:tE T=0
structure Nr (w:World) (vs vt vl:Value) (S:Sts) (T:LL) (V:List Bool):Prop where
 st:Rfl w vs S
 tb:RdL w vt T
 lv:Rd KB w vl V
 lt:T.length=S.length
 ll:V.length=S.length
 ok:tE T=0
section
variable {w w':World} {vs vt vl:Value} {S:Sts} {T:LL} {V:List Bool}
theorem Ns.below (h:Ns w vs vt vl S T V) (b:Below w.heap.size w w'):Ns w' vs vt vl S T V:=⟨h.st.below b,h.tb.below b,h.lv.below b,h.lt,h.ll,h.ok⟩
theorem Nr.below (h:Nr w vs vt vl S T V) (b:Below w.heap.size w w'):Nr w' vs vt vl S T V:=⟨h.st.below b,h.tb.below b,h.lv.below b,h.lt,h.ll,h.ok⟩
end
end Go.Proofs.YtelgnhmcnfibnaaGreatDoor.Pa
namespace Go.Proofs.YtelgnhmcnfibnaaGreatDoor.Pa
open Go.RowKit Go.Maps
open Fs (Wf law keyI Rh)
open Rw (Rd Ow At)
open Ro (E5 z5 eat K5)
def bv (y:Int):Value:=.int .u8 y
structure HIs (D:DataW Value) (h:Hr):Prop where
 has:∀ n,Wf n→Maps.has D (.int .i64 n)=(h n).isSome
 val:∀ n y,Wf n→h n=some y→∀ z,D.atKey (.int .i64 n) z = .held (bv y)
def HBl (w:World) (b N:Nat) (h:Hr):Prop:=∃ D,w.ownsMap Tryz.prog 3 Rh b N D∧HIs D h
def HMap (w:World) (v:Value) (h:Hr):Prop:=∃ b N,v = .map (some b)∧HBl w b N h
theorem zeroB (w:World):(zeroValue 5).run Tryz.prog w = .ok (.int .u8 0) w:=by kernel_rfl
section
variable {w w':World} {v:Value} {h:Hr} {b N:Nat}
theorem HBl.lt (M:HBl w b N h):b < w.heap.size:=by obtain ⟨D,o,_⟩:=M;exact o.lt
theorem HBl.kept (M:HBl w b N h) (e:w'.heap[b]? = w.heap[b]?):HBl w' b N h:=by
 obtain ⟨D,⟨es,clock,hb,F,hs,hD⟩,I⟩:=M;exact ⟨D,⟨es,clock,e.trans hb,F,hs,hD⟩,I⟩
theorem HBl.below (M:HBl w b N h) (hb:Below w.heap.size w w'):HBl w' b N h:=M.kept (hb.block b M.lt)
theorem HMap.below (M:HMap w v h) (hb:Below w.heap.size w w'):HMap w' v h:=by
 obtain ⟨b,N,e,M⟩:=M;exact ⟨b,N,e,M.below hb⟩
theorem HMap.only {G:Nat→Prop} (M:HMap w v h) (ho:Fs.Only G w w') (hn:∀ b,v = .map (some b)→¬ G b):HMap w' v h:=by
 obtain ⟨b,N,e,M⟩:=M;exact ⟨b,N,e,M.kept (ho.block b M.lt (hn b e))⟩
def hput (h:Hr) (n y:Int):Hr:=fun m=>if m=n then some y else h m
theorem HIs.put {D:DataW Value} (I:HIs D h) (hD:IsMap D) {n y:Int} (hn:Wf n):HIs (D.put (.int .i64 n) (.held (bv y))) (hput h n y) where
 has m hm:=by
  unfold hput
  by_cases e:m=n
  ·subst e
   rw [has_put_same hD (law.key (keyI hn)),if_pos rfl]
   rfl
  ·rw [has_put_other (fun e2=>e (by injection e2)),if_neg e]
   exact I.has m hm
 val m z hm hz u:=by
  unfold hput at hz
  by_cases e:m=n
  ·subst e
   rw [if_pos rfl] at hz;injection hz with hz;subst hz;exact atKey_put_same hD (law.key (keyI hn)) _ _
  ·rw [if_neg e] at hz
   rw [atKey_put_other (fun e2=>e (by injection e2))];exact I.val m z hm hz u
theorem run_hput (M:HBl w b N h) (hN:N < maxLen) {n y:Int} (hn:Wf n):∃ w',(Instr.mapUpdate 53 (.map (some b)) (.int .i64 n) (bv y)).run Tryz.prog w = .ok () w'∧HBl w' b (N+1) (hput h n y)∧w.grownBy w' (some b):=by
 obtain ⟨D,o,I⟩:=M;obtain ⟨w',hr,h',hg⟩:=o.update law Tryz.underlying53 hN (keyI hn) (val:=bv y) (d:=.held (bv y)) (ps:=[]) rfl;exact ⟨w',hr,⟨_,h',I.put o.isMap hn⟩,hg⟩
theorem at_hput {ops:Array Oper} {rest:List Oper} {o:Oper} {a:Act} {Q:Exit→Act→World→Prop} (hgd:Region.wanted o (yielded ops a.tmps)=true) (p x u:Operand) (hop:o.op = .mapUpdate 53 p x u) (hm:a.eval p = .map (some b)) (M:HBl w b N h) (hN:N < maxLen) (n y:Int) (hx:a.eval x = .int .i64 n) (hu:a.eval u = .int .u8 y) (hn:Wf n)
 (hK:∀ w',HBl w' b (N+1) (hput h n y)→w.grownBy w' (some b)→wpList Tryz.prog ops Q rest (a.put o.dst undef) w'):wpList Tryz.prog ops Q (o :: rest) a w:=by
 refine BigFrame.wpList_want hgd fun K' hK'=>?_;obtain ⟨w',hr,h1,h2⟩:=run_hput M hN (y:=y) hn;unfold bv at hr;unfold Oper.wp
 simp [execOp,hop,hm,hx,hu,hr,Result.andThen]
 exact hK' _ _ (hK w' h1 h2)
theorem hbl_new (w:World):HBl (w.alloc (.map #[] 0)) w.heap.size 0 (fun _=>none):=⟨_,World.ownsMap_made _ _ _ _,fun _ _=>rfl,fun _ _ _ h=>by cases h⟩
end
section
variable {w w':World} {b N:Nat} {t:List E5} {vs:Int→Int→Value} {D:DataW Value}
end
end Go.Proofs.YtelgnhmcnfibnaaGreatDoor.Pa
namespace Go.Proofs.YtelgnhmcnfibnaaGreatDoor.Pa
open Go.RowKit Go.Maps
open Fs (Abs St Rs Rst Only Fx Lst)
open Rw (Rd Ow At Kind)
def SAp (w:World) (s:Nat) (x:Abs×Int) (q:Option Nat):Prop:=∃ F,St w s F x.1 x.2∧∀ k,F k→q≠some k
structure Good (Ap:World→Nat→Abs×Int→Option Nat→Prop):Prop where
 below:∀ {w w' s x q},Ap w s x q→Below w.heap.size w w'→Ap w' s x q
 grow:∀ {w w' s x q q'},Ap w s x q→w.grownBy w' q→(q'=q∨∃ g,q'=some g∧w.heap.size≤g)→(∀ g,q'=some g→g < w'.heap.size)→Ap w' s x q'
theorem rs_mono {w:World} {r:Nat} {F G:Nat→Prop} {A:Abs} {d:Int} (h:Rs w r F A d) (hg:∀ k,k < w.heap.size→G k→F k):Rs w r G A d:=by
 obtain ⟨v,L,h,e⟩:=h;refine ⟨v,L,⟨h.row,fun g=>h.off (hg r (lt_of_block h.row) g),h.list.mono fun k hk g=>?_,h.ok⟩,e⟩
 rcases g with g | g
 ·exact .inl (hg k hk g)
 ·exact .inr g
theorem SAp.has {w:World} {s:Nat} {x:Abs×Int} {q:Option Nat} (h:SAp w s x q):Has w s x:=by obtain ⟨F,h,_⟩:=h;exact ⟨F,h⟩
section
variable {Ap:World→Nat→Abs×Int→Option Nat→Prop} {E:TypeId} {w wr w1 w2:World} {S:Sts} {k:Nat} {o o':Value} {ps:List Nat} {g:Nat}
structure PI (Ap:World→Nat→Abs×Int→Option Nat→Prop) (E:TypeId) (w:World) (S:Sts) (k:Nat) (o:Value) (ps:List Nat) (wr:World):Prop where
 own:Ow KN wr w.heap.size E o ps
 len:ps.length=k
 each:∀ i,i < k→Ap wr (ps.getD i 0) (sat S i) o.ownBlock
 bel:Below w.heap.size w wr
theorem PI.start (w:World) (hb:Below w.heap.size w wr):PI Ap E w S 0 (.slice none 0 0) [] wr:=⟨Rw.Ow.nil _ _ _,rfl,fun i hi=>by omega,hb⟩
theorem PI.made (hb:Below w.heap.size w wr):PI Ap E w S 0 (.slice (some ⟨wr.heap.size,0,none⟩) 0 0) [] (wr.alloc (.cells #[] E)):=⟨Rw.Ow.made _ _ _ hb.size,rfl,fun i hi=>by omega,hb.alloc hb.size _⟩
theorem PI.below (G:Good Ap) (h:PI Ap E w S k o ps wr) (b:Below wr.heap.size wr w1):PI Ap E w S k o ps w1:=⟨h.own.keep b,h.len,fun i hi=>G.below (h.each i hi) b,h.bel.trans (b.mono h.bel.size)⟩
theorem PI.lt (h:PI Ap E w S k o ps wr):∀ k,o.ownBlock=some k→k < wr.heap.size:=fun k e=>(World.ownsRow.lt h.own k e).2
theorem PI.push (G:Good Ap) (h:PI Ap E w S k o ps wr) (own:Ow KN w1 w.heap.size E o' (ps ++ [g])) (gr:wr.grownBy w1 o.ownBlock) (hq:o'.ownBlock=o.ownBlock∨∃ g,o'.ownBlock=some g∧wr.heap.size≤g) (hg:Ap wr g (sat S k) o.ownBlock):PI Ap E w S (k+1) o' (ps ++ [g]) w1:=by
 have hl:∀ j,o'.ownBlock=some j→j < w1.heap.size:=fun j e=>(World.ownsRow.lt own j e).2;refine ⟨own,by rw [List.length_append,h.len];rfl,fun i hi=>?_,h.bel.grown gr h.bel.size fun j e=>(World.ownsRow.lt h.own j e).1⟩
 by_cases e:i=k
 ·subst e
  have:(ps ++ [g]).getD i 0=g:=by rw [List.getD_eq_getElem?_getD,List.getElem?_append_right (by rw [h.len];exact Nat.le_refl _),h.len];simp
  rw [this];exact G.grow hg gr hq hl
 ·have:(ps ++ [g]).getD i 0=ps.getD i 0:=by rw [List.getD_eq_getElem?_getD,List.getElem?_append_left (by rw [h.len];omega),List.getD_eq_getElem?_getD]
  rw [this];exact G.grow (h.each i (by omega)) gr hq hl
theorem PI.congr {S':Sts} (h:PI Ap E w S k o ps wr) (e:∀ i,i < k→sat S i=sat S' i):PI Ap E w S' k o ps wr:=⟨h.own,h.len,fun i hi=>by rw [← e i hi];exact h.each i hi,h.bel⟩
end
end Go.Proofs.YtelgnhmcnfibnaaGreatDoor.Pa
namespace Go.Proofs.YtelgnhmcnfibnaaGreatDoor.Sv
open Go.RowKit Go.Maps
open Fl (R4 z4 rec4 arr4 okR row_cell row_frozen sto4 sto4_below okR_z)
open Fs (Abs Only Fx Rs RDPost rdos_any dE dV dA dD)
open Rw (Rd)
open Ad (TakePost rtake_any pair addr)
attribute [local irreducible] Sd.wpSd wpQuiet
def RsvPost (w:World) (r:Nat) (F:Nat→Prop) (A:Abs) (d:Int) (n:Int) (q:R4) (b:B5) (e:Ending) (w':World):Prop :=
 e = .returned (.tuple #[val5 (rpB false A n q b),.bool (rpO false A n q b)])∧Rs w' r F (obA false A n q b) (obD false A n q b d)∧Only (fun k=>k=r) w w'
section
variable {w W w2 w':World} {r:Nat} {F:Nat→Prop} {A A':Abs} {d d' n:Int} {q:R4} {b:B5}
theorem rs_fin (bl:Below w.heap.size w W) (rs:Rs w2 r (Fx F w W) A' d') (o:Only (fun k=>k=r) W w2) (k:Only (fun j=>w.heap.size≤j∧j < W.heap.size) w2 w'):Rs w' r F A' d'∧Only (fun k=>k=r) w w':=by
 have hsz:=bl.size;have hsz2:=o.size;exact ⟨Pa.rs_mono (Fs.Rs.only rs (k.mono fun j _ g=>.inr g)) fun j _ g=>.inl (.inl g),((Only.of_below bl).trans o fun _ _ g=>g).trans k fun j hj g=>by have:=g.1;omega⟩
theorem rv_no (R:Rs w r F A d) (h:¬ Goes n q b) (bl:Below w.heap.size w w'):RsvPost w r F A d n q b (.returned (.tuple #[val5 z5,.bool false])) w':=by
 have e0:obE false A n q b≠0:=by
  unfold obE;rw [if_neg h]
  split
  ·decide
  ·split
   ·decide
   ·split <;> decide
 unfold RsvPost rpB rpO obA obD;rw [if_neg e0,decide_eq_false e0,if_neg h,if_neg h];exact ⟨rfl,Fs.Rs.below R bl,Only.of_below bl⟩
theorem rv_yes (h:Goes n q b) (hr:Rs w' r F (dA A (q.2.1 / 64) (q.2.1 % 64) q.2.2.1 (svX q b)) (dD A (q.2.1 / 64) (q.2.1 % 64) q.2.2.1 d)∧Only (fun k=>k=r) w w') :
 RsvPost w r F A d n q b (.returned (.tuple #[val5 (if dE A (q.2.1 / 64) (q.2.1 % 64) q.2.2.1=0 then datB (dV A (q.2.1 / 64) (q.2.1 % 64) q.2.2.1 (svX q b)) else z5),.bool (decide (dE A (q.2.1 / 64) (q.2.1 % 64) q.2.2.1=0))])) w':=by
 unfold RsvPost rpB rpO obA obD obE obV;rw [if_pos h,if_pos h,if_pos h,if_pos h];exact ⟨rfl,hr⟩
end
set_option maxHeartbeats 4000000 in
theorem rserve_any {w:World} {r:Nat} {F:Nat→Prop} {A:Abs} {d:Int} (R:Rs w r F A d) (hF:∀ k,F k→k < w.heap.size) (hd:0≤d∧d < 1000000) (n:Int) (q:R4) (hq:okR q) (b:B5) (hb:is5 b) :
 Calls Tryz.prog 11 #[.pointer (some ⟨r,0,none⟩),.int .i64 n,rec4 q,val5 b] w (RsvPost w r F A d n q b):=by
 obtain ⟨⟨a1,a2⟩,⟨b1,b2⟩,⟨c1,c2⟩,_⟩:=hq;have S0:Hid (Rp0 w q b (((w.alloc (.cells #[.int .u8 q.1,.int .u8 q.2.1,.int .u8 q.2.2.1,.int .u8 q.2.2.2] 25)).alloc (.cells #[.int .u8 b.1,.int .u8 b.2.1,.int .u8 b.2.2.1,.int .u8 b.2.2.2.1,.int .u8 b.2.2.2.2] 27)).alloc (.cells #[.int .u8 0,.int .u8 0,.int .u8 0,.int .u8 0,.int .u8 0] 27))):=Lib.hid (rp0_of w q b);have RR:=Lib.hid R;have HF:=Lib.hid hF;have HD:=Lib.hid hd;have HB:=Lib.hid hb;have NO:=Lib.hid (fun w'=>rv_no (w':=w') (n:=n) (q:=q) (b:=b) R);have YES:=Lib.hid (fun w'=>rv_yes (w:=w) (w':=w') (r:=r) (F:=F) (A:=A) (d:=d) (n:=n) (q:=q) (b:=b));have CK:Hid (∀ W s,Rd (Rw.int .u8) W s [q.1,q.2.1,q.2.2.1]→Calls Tryz.prog 24 #[s] W fun e w'=>e = .returned (.int .u8 (ck3 q.1 q.2.1 q.2.2.1))∧Below W.heap.size W w'):=Lib.hid fun W s h=>rcheck_any h (by simp);have W0:IntKind.i64.wrap q.1=q.1:=IntWalk.i64_in _ (by omega);have TA:=Lib.hid (fun W=>rtake_any W q.2.1 q.2.2.1 b1 b2 c1 c2);have YB:Hid (0≤q.2.1 / 64):=Lib.hid (by omega);clear R hF hd hb a1 a2 b1 b2 c1 c2;have HGO:Hid (Goes n q b↔ck3 q.1 q.2.1 q.2.2.1=q.2.2.2∧q.1=n∧q.2.1 < 192∧(q.2.1 / 64=1→opnE b=0)):=Lib.hid Iff.rfl;generalize ck3 q.1 q.2.1 q.2.2.1=c at *;unfold rec4 val5
 go_enter Tryz.func11,Tryz.ntmps11
 go_upto_region 1 with fail;generalize ((w.alloc (.cells #[.int .u8 q.1,.int .u8 q.2.1,.int .u8 q.2.2.1,.int .u8 q.2.2.2] 25)).alloc (.cells #[.int .u8 b.1,.int .u8 b.2.1,.int .u8 b.2.2.1,.int .u8 b.2.2.2.1,.int .u8 b.2.2.2.2] 27)).alloc (.cells #[.int .u8 0,.int .u8 0,.int .u8 0,.int .u8 0,.int .u8 0] 27)=W at *;have x0:=Sc.cell_in (C:=Bx w.heap.size (arr4 q) 25) (a:=⟨w.heap.size,0,none⟩) (v:=.int .u8 q.1) (fun W' h=>row_cell h 0);have x1:=Sc.cell_in (C:=Bx w.heap.size (arr4 q) 25) (a:=⟨w.heap.size,1,none⟩) (v:=.int .u8 q.2.1) (fun W' h=>row_cell h 1);have x2:=Sc.cell_in (C:=Bx w.heap.size (arr4 q) 25) (a:=⟨w.heap.size,2,none⟩) (v:=.int .u8 q.2.2.1) (fun W' h=>row_cell h 2);have x3:=Sc.cell_in (C:=Bx w.heap.size (arr4 q) 25) (a:=⟨w.heap.size,3,none⟩) (v:=.int .u8 q.2.2.2) (fun W' h=>row_cell h 3);have ne:Nonempty (Sc.In (Bx w.heap.size (arr4 q) 25)):=⟨⟨W,S0.out.a⟩⟩;refine Sc.start (Bx w.heap.size (arr4 q) 25) [(false,0),(false,1),(false,2),(false,3),(false,4),(false,5),(false,8),(false,9),(true,6),(true,7),(false,10),(false,11),(false,12),(false,13),(false,14),(false,15),(false,16),(false,17)] (by kernel_rfl) (by kernel_rfl) (by kernel_rfl) S0.out.a ?_;dsimp only [Sd.picks,List.getElem?_cons_succ,List.getElem?_cons_zero]
 repeat (refine Sd.lit ?_;quiet_step (fail);refine wpQuiet_nil ?_)
 have S1:=Lib.hid (S0.out.mono (Below.refl W.heap.size W).drew);clear S0;generalize W.drew=W1 at *;refine Sd.call (by rfl) (fun K hK=>?_);go_simp;have b2:Below W1.heap.size W1 (W1.alloc (.cells #[.int .u8 q.1,.int .u8 q.2.1,.int .u8 q.2.2.1] 5)):=(Below.refl _ _).alloc (Nat.le_refl _) _;have RD:Hid (Rd (Rw.int .u8) (W1.alloc (.cells #[.int .u8 q.1,.int .u8 q.2.1,.int .u8 q.2.2.1] 5)) (.slice (some ⟨W1.heap.size,0,none⟩) 3 3) [q.1,q.2.1,q.2.2.1]):=Lib.hid (Rw.Ow.lit (K:=Rw.int .u8) W1 0 5 [q.1,q.2.1,q.2.2.1] (Nat.zero_le _) (by unfold maxLen;simp)).rd;have S2:=Lib.hid (S1.out.mono b2);refine hK _ _ (Sc.Cl.of S2.out.a) ?_;clear hK K b2 S1;generalize W1.alloc (.cells #[.int .u8 q.1,.int .u8 q.2.1,.int .u8 q.2.2.1] 5)=W2 at *;generalize W1.heap.size=g2 at *;refine Sd.call (by rfl) (fun K hK=>?_);go_simp;refine (CK.out _ _ RD.out).mono ?_;rintro e w3 ⟨rfl,b3⟩;have S3:=Lib.hid (S2.out.mono b3);refine hK _ _ (Sc.Cl.of S3.out.a) ?_;clear hK K b3 S2 RD CK
 by_cases h1:c=q.2.2.2
 ·by_cases h2:q.1=n
  ·subst h2
   have TST1:(c != q.2.2.2)=false:=by simpa using h1
   have TST2:(q.1 != q.1)=false:=by simp
   repeat (refine Sd.lit ?_;(first | (refine Qk.skip (by rfl) (by rfl) ?_) | quiet_step (fail));refine wpQuiet_nil ?_)
   clear x0 x1 x2 x3 ne TST1 TST2;refine Sd.done ?_;have p1:w3.cell? ⟨w.heap.size,1,none⟩=some (.int .u8 q.2.1):=row_cell S3.out.a 1;have p2:w3.cell? ⟨w.heap.size,2,none⟩=some (.int .u8 q.2.2.1):=row_cell S3.out.a 2;have H1:=Lib.hid h1;clear h1 W0
   by_cases h3:q.2.1 < 192
   ·have TK:Hid (∀ W,Calls Tryz.prog 29 #[.agg #[.int .u8 q.2.1,.int .u8 q.2.2.1]] W fun e w'=>e = .returned (.tuple #[.agg #[.int .i64 (q.2.1 / 64),.int .i64 (q.2.1 % 64),.int .i64 q.2.2.1],.int .i64 0])∧Below W.heap.size W w'):=Lib.hid fun W=>(TA.out W).mono fun e w' ⟨h,hb⟩=>⟨by rcases h with ⟨_,h⟩ | ⟨h,_⟩;exact h;omega,hb⟩
    have H3:=Lib.hid h3;clear h3 TA;go_wp2_with fail;clear p1 p2;refine (TK.out _).mono ?_;rintro e w4 ⟨rfl,bw⟩;have S4:=Lib.hid ((S3.out.mono bw).mono ((Below.refl w4.heap.size w4).alloc (Nat.le_refl _) (.cells #[.int .i64 (q.2.1 / 64),.int .i64 (q.2.1 % 64),.int .i64 q.2.2.1] 24)));have AR:=Lib.hid (heap_alloc_new w4 (.cells #[.int .i64 (q.2.1 / 64),.int .i64 (q.2.1 % 64),.int .i64 q.2.2.1] 24));clear bw S3 TK;generalize hy1:q.2.1 / 64=y1 at *;generalize hy2:q.2.1 % 64=y2 at *;have HY1:=Lib.hid hy1;have YB':=YB.out;clear hy1 hy2 YB;go_upto_region 4 with fail;generalize w4.alloc (.cells #[.int .i64 y1,.int .i64 y2,.int .i64 q.2.2.1] 24)=W4 at *;generalize hg3:w4.heap.size=g3 at *;clear hg3;have e0:W4.cell? ⟨w.heap.size+1,0,none⟩=some (.int .u8 b.1):=row_cell S4.out.b 0;have e1:W4.cell? ⟨w.heap.size+1,1,none⟩=some (.int .u8 b.2.1):=row_cell S4.out.b 1;have e2:W4.cell? ⟨w.heap.size+1,2,none⟩=some (.int .u8 b.2.2.1):=row_cell S4.out.b 2;have e3:W4.cell? ⟨w.heap.size+1,3,none⟩=some (.int .u8 b.2.2.2.1):=row_cell S4.out.b 3;have e4:W4.cell? ⟨w.heap.size+1,4,none⟩=some (.int .u8 b.2.2.2.2):=row_cell S4.out.b 4;have OP:=ropen_any W4 b;unfold OpnPost val5 rec4 at OP;have OXV:Hid (okR (opnV b)):=Lib.hid (okR_opn HB.out);have SV:Hid (svX q b=if y1=1 then opnV b else z4):=Lib.hid (by unfold svX;rw [HY1.out]);have GOI:Hid ((y1=1→opnE b=0)→Goes q.1 q b):=Lib.hid fun h=>HGO.out.2 ⟨H1.out,(by first | rfl | trivial),H3.out,h⟩;have GON:Hid (y1=1→opnE b≠0→¬ Goes q.1 q b):=Lib.hid fun h0 h g=>h ((HGO.out.1 g).2.2.2 h0);generalize opnV b=OV at *;generalize opnE b=OE at *;have HOP:=Lib.hid OP;clear OP HGO;go_wp2_with fail;clear e0 e1 e2 e3 e4;refine HOP.out.mono ?_;rintro e w5 ⟨rfl,bw⟩;have S5:=Lib.hid ((S4.out.mono bw).mono ((Below.refl w5.heap.size w5).alloc (Nat.le_refl _) (.cells #[.int .u8 OV.1,.int .u8 OV.2.1,.int .u8 OV.2.2.1,.int .u8 OV.2.2.2] 26)));have AR5:=Lib.hid ((Below.heap_alloc w5 (.cells #[.int .u8 OV.1,.int .u8 OV.2.1,.int .u8 OV.2.2.1,.int .u8 OV.2.2.2] 26) g3 (Nat.lt_of_lt_of_le (lt_of_block AR.out) bw.size)).trans ((bw.block _ (lt_of_block AR.out)).trans AR.out));have XR:Hid ((w5.alloc (.cells #[.int .u8 OV.1,.int .u8 OV.2.1,.int .u8 OV.2.2.1,.int .u8 OV.2.2.2] 26)).heap[w5.heap.size]? = some (.cells (arr4 OV) 26 (0,0))):=Lib.hid (heap_alloc_new w5 _);have G4:Hid (w.heap.size+3≤w5.heap.size∧g3 < w5.heap.size):=Lib.hid ⟨Nat.le_trans S4.out.siz bw.size,Nat.lt_of_lt_of_le (lt_of_block AR.out) bw.size⟩;clear bw S4 AR HOP;go_upto_region 7 with fail;generalize w5.alloc (.cells #[.int .u8 OV.1,.int .u8 OV.2.1,.int .u8 OV.2.2.1,.int .u8 OV.2.2.2] 26)=W3 at *;generalize hg4:w5.heap.size=g4 at *;clear hg4;have m0:W3.cell? ⟨g3,0,none⟩=some (.int .i64 y1):=row_cell AR5.out 0
    by_cases ho:y1=1
    ·by_cases h4:OE=0
     ·have GO:Hid (Goes q.1 q b):=Lib.hid (GOI.out fun _=>h4)
      have SX:Hid (svX q b=OV):=Lib.hid (by rw [SV.out,if_pos ho]);have OX:=OXV;subst ho h4;clear NO SV OXV GOI GON;have S4:=S5;have AR4:=AR5;have XR4:=XR;clear S5 AR5 XR;generalize OV=x at *;go_upto_region 11 with fail;clear m0;generalize W3=W4 at *;generalize (1:Int)=y1 at HY1 YES AR4;have m0:W4.cell? ⟨g3,0,none⟩=some (.int .i64 y1):=row_cell AR4.out 0;have m1:W4.cell? ⟨g3,1,none⟩=some (.int .i64 y2):=row_cell AR4.out 1;have m2:W4.cell? ⟨g3,2,none⟩=some (.int .i64 q.2.2.1):=row_cell AR4.out 2;have v0:W4.cell? ⟨g4,0,none⟩=some (.int .u8 x.1):=row_cell XR4.out 0;have v1:W4.cell? ⟨g4,1,none⟩=some (.int .u8 x.2.1):=row_cell XR4.out 1;have v2:W4.cell? ⟨g4,2,none⟩=some (.int .u8 x.2.2.1):=row_cell XR4.out 2;have v3:W4.cell? ⟨g4,3,none⟩=some (.int .u8 x.2.2.2):=row_cell XR4.out 3;have DO:=rdos_any (Fs.Rs.only RR.out (Only.of_below S4.out.bel)) (Fx.low HF.out S4.out.bel.size) HD.out y1 y2 q.2.2.1 x OX.out;have YS:=YES.out;rw [SX.out] at YS;have YY:=Lib.hid YS;unfold RDPost at DO;generalize dV A y1 y2 q.2.2.1 x=V at DO YY;generalize dE A y1 y2 q.2.2.1=E at DO YY;generalize dA A y1 y2 q.2.2.1 x=A' at DO YY;generalize dD A y1 y2 q.2.2.1 d=D' at DO YY;unfold rec4 addr at DO;have HDO:=Lib.hid DO;have RLT:Hid (r < w.heap.size):=Lib.hid (by obtain ⟨_,_,h,_⟩:=RR.out;exact lt_of_block h.row);clear DO YS YES AR4 XR4 OX SX;go_wp2_with fail;clear m0 m1 m2 v0 v1 v2 v3;refine HDO.out.mono ?_;rintro e w5 ⟨rfl,rs,on⟩;have R5:=(on.block _ (lt_of_block S4.out.r) (fun g=>by have:=RLT.out;omega)).trans S4.out.r;have DONE:Hid (∀ w',Only (fun j=>w.heap.size≤j∧j < W4.heap.size) w5 w'→Rs w' r F A' D'∧Only (fun k=>k=r) w w'):=Lib.hid fun w' k=>rs_fin S4.out.bel rs on k;have L5:Hid (w.heap.size+2 < W4.heap.size):=Lib.hid S4.out.siz;have R6:=Lib.hid ((Below.heap_alloc w5 (.cells #[.int .u8 V.1,.int .u8 V.2.1,.int .u8 V.2.2.1,.int .u8 V.2.2.2] 26) _ (lt_of_block R5)).trans R5);have V6:Hid ((w5.alloc (.cells #[.int .u8 V.1,.int .u8 V.2.1,.int .u8 V.2.2.1,.int .u8 V.2.2.2] 26)).heap[w5.heap.size]? = some (.cells (arr4 V) 26 (0,0))):=Lib.hid (heap_alloc_new w5 _);have K6:Hid (Only (fun j=>w.heap.size≤j∧j < W4.heap.size) w5 (w5.alloc (.cells #[.int .u8 V.1,.int .u8 V.2.1,.int .u8 V.2.2.1,.int .u8 V.2.2.2] 26))):=Lib.hid (Only.of_below ((Below.refl w5.heap.size w5).alloc (Nat.le_refl _) _));clear HDO rs on S4 R5 RLT;go_upto_region 12 with fail;generalize w5.alloc (.cells #[.int .u8 V.1,.int .u8 V.2.1,.int .u8 V.2.2.1,.int .u8 V.2.2.2] 26)=W6 at *;generalize hg6:w5.heap.size=g6 at *;clear hg6
      by_cases hE:E=0
      ·have YZ:=YY.out
       rw [if_pos hE,decide_eq_true hE] at YZ;have YW:=Lib.hid YZ;subst hE;clear YZ YY;have u0:W6.cell? ⟨g6,0,none⟩=some (.int .u8 V.1):=row_cell V6.out 0;have u1:W6.cell? ⟨g6,1,none⟩=some (.int .u8 V.2.1):=row_cell V6.out 1;have u2:W6.cell? ⟨g6,2,none⟩=some (.int .u8 V.2.2.1):=row_cell V6.out 2;have u3:W6.cell? ⟨g6,3,none⟩=some (.int .u8 V.2.2.2):=row_cell V6.out 3;have DA:=rdata_any W6 V;generalize datB V=B at *;unfold rec4 val5 at DA;have HDA:=Lib.hid DA;clear DA;go_wp2_with fail;clear u0 u1 u2 u3;refine HDA.out.mono ?_;rintro e w7 ⟨rfl,b7⟩;have R7:=(b7.block _ (lt_of_block R6.out)).trans R6.out;have K7:=Lib.hid (DONE.out _ ((K6.out.then b7).trans (st5_only w7 (w.heap.size+2) B) fun j _ e=>by have:=L5.out;subst e;exact ⟨by omega,by omega⟩));have R3:=Lib.hid (st5_row R7 B);have d0:w7.cell? ⟨w.heap.size+2,0,none⟩=some (.int .u8 0):=row_cell R7 0;have d1:w7.cell? ⟨w.heap.size+2,1,none⟩=some (.int .u8 0):=row_cell R7 1;have d2:w7.cell? ⟨w.heap.size+2,2,none⟩=some (.int .u8 0):=row_cell R7 2;have d3:w7.cell? ⟨w.heap.size+2,3,none⟩=some (.int .u8 0):=row_cell R7 3;have d4:w7.cell? ⟨w.heap.size+2,4,none⟩=some (.int .u8 0):=row_cell R7 4;have k0:=row_frozen R7 0;have k1:=row_frozen R7 1;have k2:=row_frozen R7 2;have k3:=row_frozen R7 3;have k4:=row_frozen R7 4;clear b7 R6 V6 K6 DONE R7 HDA;go_wp2
       (try simp only [Exit.inBlock,Exit.then])
       exact bodyPost_ret (results_b5 (p:=8) (r:=9) rfl _ _ (w.heap.size+2) B (.bool true) rfl rfl R3.out) rfl (YW.out _ GO.out K7.out)
      ·have YZ:=YY.out
       rw [if_neg hE,decide_eq_false hE] at YZ;have YW:=Lib.hid YZ;clear YZ YY;have K7:=Lib.hid (DONE.out _ (K6.out.trans (st5_only W6 (w.heap.size+2) z5) fun j _ e=>by have:=L5.out;subst e;exact ⟨by omega,by omega⟩));have R3:=Lib.hid (st5_row R6.out z5);have d0:W6.cell? ⟨w.heap.size+2,0,none⟩=some (.int .u8 0):=row_cell R6.out 0;have d1:W6.cell? ⟨w.heap.size+2,1,none⟩=some (.int .u8 0):=row_cell R6.out 1;have d2:W6.cell? ⟨w.heap.size+2,2,none⟩=some (.int .u8 0):=row_cell R6.out 2;have d3:W6.cell? ⟨w.heap.size+2,3,none⟩=some (.int .u8 0):=row_cell R6.out 3;have d4:W6.cell? ⟨w.heap.size+2,4,none⟩=some (.int .u8 0):=row_cell R6.out 4;have k0:=row_frozen R6.out 0;have k1:=row_frozen R6.out 1;have k2:=row_frozen R6.out 2;have k3:=row_frozen R6.out 3;have k4:=row_frozen R6.out 4;clear R6 V6 K6 DONE;go_wp2
       (try simp only [Exit.inBlock,Exit.then])
       exact bodyPost_ret (results_b5 (p:=8) (r:=9) rfl _ _ (w.heap.size+2) z5 (.bool false) rfl rfl R3.out) rfl (YW.out _ GO.out K7.out)
     ·have NG:Hid (¬ Goes q.1 q b):=Lib.hid (GON.out ho h4)
      subst ho;have H4:(OE != 0)=true:=by simpa using h4
      clear YES SV OXV GOI GON AR5 XR;have d0:W3.cell? ⟨w.heap.size+2,0,none⟩=some (.int .u8 0):=row_cell S5.out.r 0;have d1:W3.cell? ⟨w.heap.size+2,1,none⟩=some (.int .u8 0):=row_cell S5.out.r 1;have d2:W3.cell? ⟨w.heap.size+2,2,none⟩=some (.int .u8 0):=row_cell S5.out.r 2;have d3:W3.cell? ⟨w.heap.size+2,3,none⟩=some (.int .u8 0):=row_cell S5.out.r 3;have d4:W3.cell? ⟨w.heap.size+2,4,none⟩=some (.int .u8 0):=row_cell S5.out.r 4;have k0:=row_frozen S5.out.r 0;have k1:=row_frozen S5.out.r 1;have k2:=row_frozen S5.out.r 2;have k3:=row_frozen S5.out.r 3;have k4:=row_frozen S5.out.r 4;have R3:=Lib.hid (st5_row S5.out.r z5);have B3:=Lib.hid (st5_below (r:=z5) S5.out.bel (show w.heap.size≤w.heap.size+2 by omega));clear S5;go_wp2
      (try simp only [Exit.inBlock,Exit.then])
      exact bodyPost_ret (results_b5 (p:=8) (r:=9) rfl _ _ (w.heap.size+2) z5 (.bool false) rfl rfl R3.out) rfl (NO.out _ NG.out B3.out)
    ·have SX:Hid (svX q b=z4):=Lib.hid (by rw [SV.out,if_neg ho])
     have OX:Hid (okR z4):=Lib.hid okR_z;have GO:Hid (Goes q.1 q b):=Lib.hid (GOI.out fun g=>absurd g ho);have HO1:(y1 == 1)=false:=by simpa using ho
     have HO2:(y1 != 1)=true:=by simpa using ho
     have S4:Hid (Rp0 w q b (sto4 W3 g4 0 z4)):=Lib.hid ⟨Fl.sto4_other S5.out.a (by have:=G4.out;omega),Fl.sto4_other S5.out.b (by have:=G4.out;omega),Fl.sto4_other S5.out.r (by have:=G4.out;omega),sto4_below S5.out.bel (by have:=G4.out;omega),by rw [Fl.sto4_size];exact S5.out.siz⟩;have AR4:=Lib.hid (Fl.sto4_other (o:=0) (r:=z4) (g:=g4) AR5.out (by have:=G4.out;omega));have XR4:=Lib.hid (st4_row XR.out z4);have d0:W3.cell? ⟨g4,0,none⟩=some (.int .u8 OV.1):=row_cell XR.out 0;have d1:W3.cell? ⟨g4,1,none⟩=some (.int .u8 OV.2.1):=row_cell XR.out 1;have d2:W3.cell? ⟨g4,2,none⟩=some (.int .u8 OV.2.2.1):=row_cell XR.out 2;have d3:W3.cell? ⟨g4,3,none⟩=some (.int .u8 OV.2.2.2):=row_cell XR.out 3;have k0:=row_frozen XR.out 0;have k1:=row_frozen XR.out 1;have k2:=row_frozen XR.out 2;have k3:=row_frozen XR.out 3;clear NO SV OXV GOI GON S5 AR5 XR;go_upto_region 11 with fail;clear d0 d1 d2 d3 k0 k1 k2 k3 m0 HO1 HO2 ho
     show Code.wp _ _ _ _ (sto4 W3 g4 0 z4)
     generalize sto4 W3 g4 0 z4=W4 at *;generalize z4=x at SX OX XR4;have m0:W4.cell? ⟨g3,0,none⟩=some (.int .i64 y1):=row_cell AR4.out 0;have m1:W4.cell? ⟨g3,1,none⟩=some (.int .i64 y2):=row_cell AR4.out 1;have m2:W4.cell? ⟨g3,2,none⟩=some (.int .i64 q.2.2.1):=row_cell AR4.out 2;have v0:W4.cell? ⟨g4,0,none⟩=some (.int .u8 x.1):=row_cell XR4.out 0;have v1:W4.cell? ⟨g4,1,none⟩=some (.int .u8 x.2.1):=row_cell XR4.out 1;have v2:W4.cell? ⟨g4,2,none⟩=some (.int .u8 x.2.2.1):=row_cell XR4.out 2;have v3:W4.cell? ⟨g4,3,none⟩=some (.int .u8 x.2.2.2):=row_cell XR4.out 3;have DO:=rdos_any (Fs.Rs.only RR.out (Only.of_below S4.out.bel)) (Fx.low HF.out S4.out.bel.size) HD.out y1 y2 q.2.2.1 x OX.out;have YS:=YES.out;rw [SX.out] at YS;have YY:=Lib.hid YS;unfold RDPost at DO;generalize dV A y1 y2 q.2.2.1 x=V at DO YY;generalize dE A y1 y2 q.2.2.1=E at DO YY;generalize dA A y1 y2 q.2.2.1 x=A' at DO YY;generalize dD A y1 y2 q.2.2.1 d=D' at DO YY;unfold rec4 addr at DO;have HDO:=Lib.hid DO;have RLT:Hid (r < w.heap.size):=Lib.hid (by obtain ⟨_,_,h,_⟩:=RR.out;exact lt_of_block h.row);clear DO YS YES AR4 XR4 OX SX;go_wp2_with fail;clear m0 m1 m2 v0 v1 v2 v3;refine HDO.out.mono ?_;rintro e w5 ⟨rfl,rs,on⟩;have R5:=(on.block _ (lt_of_block S4.out.r) (fun g=>by have:=RLT.out;omega)).trans S4.out.r;have DONE:Hid (∀ w',Only (fun j=>w.heap.size≤j∧j < W4.heap.size) w5 w'→Rs w' r F A' D'∧Only (fun k=>k=r) w w'):=Lib.hid fun w' k=>rs_fin S4.out.bel rs on k;have L5:Hid (w.heap.size+2 < W4.heap.size):=Lib.hid S4.out.siz;have R6:=Lib.hid ((Below.heap_alloc w5 (.cells #[.int .u8 V.1,.int .u8 V.2.1,.int .u8 V.2.2.1,.int .u8 V.2.2.2] 26) _ (lt_of_block R5)).trans R5);have V6:Hid ((w5.alloc (.cells #[.int .u8 V.1,.int .u8 V.2.1,.int .u8 V.2.2.1,.int .u8 V.2.2.2] 26)).heap[w5.heap.size]? = some (.cells (arr4 V) 26 (0,0))):=Lib.hid (heap_alloc_new w5 _);have K6:Hid (Only (fun j=>w.heap.size≤j∧j < W4.heap.size) w5 (w5.alloc (.cells #[.int .u8 V.1,.int .u8 V.2.1,.int .u8 V.2.2.1,.int .u8 V.2.2.2] 26))):=Lib.hid (Only.of_below ((Below.refl w5.heap.size w5).alloc (Nat.le_refl _) _));clear HDO rs on S4 R5 RLT;go_upto_region 12 with fail;generalize w5.alloc (.cells #[.int .u8 V.1,.int .u8 V.2.1,.int .u8 V.2.2.1,.int .u8 V.2.2.2] 26)=W6 at *;generalize hg6:w5.heap.size=g6 at *;clear hg6
     by_cases hE:E=0
     ·have YZ:=YY.out
      rw [if_pos hE,decide_eq_true hE] at YZ;have YW:=Lib.hid YZ;subst hE;clear YZ YY;have u0:W6.cell? ⟨g6,0,none⟩=some (.int .u8 V.1):=row_cell V6.out 0;have u1:W6.cell? ⟨g6,1,none⟩=some (.int .u8 V.2.1):=row_cell V6.out 1;have u2:W6.cell? ⟨g6,2,none⟩=some (.int .u8 V.2.2.1):=row_cell V6.out 2;have u3:W6.cell? ⟨g6,3,none⟩=some (.int .u8 V.2.2.2):=row_cell V6.out 3;have DA:=rdata_any W6 V;generalize datB V=B at *;unfold rec4 val5 at DA;have HDA:=Lib.hid DA;clear DA;go_wp2_with fail;clear u0 u1 u2 u3;refine HDA.out.mono ?_;rintro e w7 ⟨rfl,b7⟩;have R7:=(b7.block _ (lt_of_block R6.out)).trans R6.out;have K7:=Lib.hid (DONE.out _ ((K6.out.then b7).trans (st5_only w7 (w.heap.size+2) B) fun j _ e=>by have:=L5.out;subst e;exact ⟨by omega,by omega⟩));have R3:=Lib.hid (st5_row R7 B);have d0:w7.cell? ⟨w.heap.size+2,0,none⟩=some (.int .u8 0):=row_cell R7 0;have d1:w7.cell? ⟨w.heap.size+2,1,none⟩=some (.int .u8 0):=row_cell R7 1;have d2:w7.cell? ⟨w.heap.size+2,2,none⟩=some (.int .u8 0):=row_cell R7 2;have d3:w7.cell? ⟨w.heap.size+2,3,none⟩=some (.int .u8 0):=row_cell R7 3;have d4:w7.cell? ⟨w.heap.size+2,4,none⟩=some (.int .u8 0):=row_cell R7 4;have k0:=row_frozen R7 0;have k1:=row_frozen R7 1;have k2:=row_frozen R7 2;have k3:=row_frozen R7 3;have k4:=row_frozen R7 4;clear b7 R6 V6 K6 DONE R7 HDA;go_wp2
      (try simp only [Exit.inBlock,Exit.then])
      exact bodyPost_ret (results_b5 (p:=8) (r:=9) rfl _ _ (w.heap.size+2) B (.bool true) rfl rfl R3.out) rfl (YW.out _ GO.out K7.out)
     ·have YZ:=YY.out
      rw [if_neg hE,decide_eq_false hE] at YZ;have YW:=Lib.hid YZ;clear YZ YY;have K7:=Lib.hid (DONE.out _ (K6.out.trans (st5_only W6 (w.heap.size+2) z5) fun j _ e=>by have:=L5.out;subst e;exact ⟨by omega,by omega⟩));have R3:=Lib.hid (st5_row R6.out z5);have d0:W6.cell? ⟨w.heap.size+2,0,none⟩=some (.int .u8 0):=row_cell R6.out 0;have d1:W6.cell? ⟨w.heap.size+2,1,none⟩=some (.int .u8 0):=row_cell R6.out 1;have d2:W6.cell? ⟨w.heap.size+2,2,none⟩=some (.int .u8 0):=row_cell R6.out 2;have d3:W6.cell? ⟨w.heap.size+2,3,none⟩=some (.int .u8 0):=row_cell R6.out 3;have d4:W6.cell? ⟨w.heap.size+2,4,none⟩=some (.int .u8 0):=row_cell R6.out 4;have k0:=row_frozen R6.out 0;have k1:=row_frozen R6.out 1;have k2:=row_frozen R6.out 2;have k3:=row_frozen R6.out 3;have k4:=row_frozen R6.out 4;clear R6 V6 K6 DONE;go_wp2
      (try simp only [Exit.inBlock,Exit.then])
      exact bodyPost_ret (results_b5 (p:=8) (r:=9) rfl _ _ (w.heap.size+2) z5 (.bool false) rfl rfl R3.out) rfl (YW.out _ GO.out K7.out)
   ·have TK:Hid (∀ W,Calls Tryz.prog 29 #[.agg #[.int .u8 q.2.1,.int .u8 q.2.2.1]] W fun e w'=>e = .returned (.tuple #[.agg #[.int .i64 0,.int .i64 0,.int .i64 0],.int .i64 2])∧Below W.heap.size W w'):=Lib.hid fun W=>(TA.out W).mono fun e w' ⟨h,hb⟩=>⟨by rcases h with ⟨h,_⟩ | ⟨_,h⟩;omega;exact h,hb⟩
    have NG:Hid (¬ Goes q.1 q b):=Lib.hid fun g=>h3 (HGO.out.1 g).2.2.1;clear h3 TA YES HGO;go_wp2_with fail;clear p1 p2;refine (TK.out _).mono ?_;rintro e w4 ⟨rfl,bw⟩;have S4:=Lib.hid ((S3.out.mono bw).mono ((Below.refl w4.heap.size w4).alloc (Nat.le_refl _) (.cells #[.int .i64 0,.int .i64 0,.int .i64 0] 24)));clear bw S3 TK;go_upto_region 4 with fail;generalize w4.alloc (.cells #[.int .i64 0,.int .i64 0,.int .i64 0] 24)=W4 at *;generalize hg3:w4.heap.size=g3 at *;clear hg3;have d0:W4.cell? ⟨w.heap.size+2,0,none⟩=some (.int .u8 0):=row_cell S4.out.r 0;have d1:W4.cell? ⟨w.heap.size+2,1,none⟩=some (.int .u8 0):=row_cell S4.out.r 1;have d2:W4.cell? ⟨w.heap.size+2,2,none⟩=some (.int .u8 0):=row_cell S4.out.r 2;have d3:W4.cell? ⟨w.heap.size+2,3,none⟩=some (.int .u8 0):=row_cell S4.out.r 3;have d4:W4.cell? ⟨w.heap.size+2,4,none⟩=some (.int .u8 0):=row_cell S4.out.r 4;have k0:=row_frozen S4.out.r 0;have k1:=row_frozen S4.out.r 1;have k2:=row_frozen S4.out.r 2;have k3:=row_frozen S4.out.r 3;have k4:=row_frozen S4.out.r 4;have R3:=Lib.hid (st5_row S4.out.r z5);have B3:=Lib.hid (st5_below (r:=z5) S4.out.bel (show w.heap.size≤w.heap.size+2 by omega));clear S4;go_wp2
    (try simp only [Exit.inBlock,Exit.then])
    exact bodyPost_ret (results_b5 (p:=8) (r:=9) rfl _ _ (w.heap.size+2) z5 (.bool false) rfl rfl R3.out) rfl (NO.out _ NG.out B3.out)
  ·have TST1:(c != q.2.2.2)=false:=by simpa using h1
   have TST2:(q.1 != n)=true:=by simpa using h2
   have NG:Hid (¬ Goes n q b):=Lib.hid fun g=>h2 (HGO.out.1 g).2.1
   repeat (refine Sd.lit ?_;(first | (refine Qk.skip (by rfl) (by rfl) ?_) | quiet_step (fail));refine wpQuiet_nil ?_)
   clear x0 x1 x2 x3 ne TST1 TST2 h1 h2;refine Sd.done ?_;have d0:w3.cell? ⟨w.heap.size+2,0,none⟩=some (.int .u8 0):=row_cell S3.out.r 0;have d1:w3.cell? ⟨w.heap.size+2,1,none⟩=some (.int .u8 0):=row_cell S3.out.r 1;have d2:w3.cell? ⟨w.heap.size+2,2,none⟩=some (.int .u8 0):=row_cell S3.out.r 2;have d3:w3.cell? ⟨w.heap.size+2,3,none⟩=some (.int .u8 0):=row_cell S3.out.r 3;have d4:w3.cell? ⟨w.heap.size+2,4,none⟩=some (.int .u8 0):=row_cell S3.out.r 4;have k0:=row_frozen S3.out.r 0;have k1:=row_frozen S3.out.r 1;have k2:=row_frozen S3.out.r 2;have k3:=row_frozen S3.out.r 3;have k4:=row_frozen S3.out.r 4;have R3:=Lib.hid (st5_row S3.out.r z5);have B3:=Lib.hid (st5_below (r:=z5) S3.out.bel (show w.heap.size≤w.heap.size+2 by omega));clear S3;go_wp2
   (try simp only [Exit.inBlock,Exit.then])
   exact bodyPost_ret (results_b5 (p:=8) (r:=9) rfl _ _ (w.heap.size+2) z5 (.bool false) rfl rfl R3.out) rfl (NO.out _ NG.out B3.out)
 ·have TST1:(c != q.2.2.2)=true:=by simpa using h1
  have NG:Hid (¬ Goes n q b):=Lib.hid fun g=>h1 (HGO.out.1 g).1
  repeat (refine Sd.lit ?_;(first | (refine Qk.skip (by rfl) (by rfl) ?_) | quiet_step (fail));refine wpQuiet_nil ?_)
  clear x0 x1 x2 x3 ne TST1 h1;refine Sd.done ?_;have d0:w3.cell? ⟨w.heap.size+2,0,none⟩=some (.int .u8 0):=row_cell S3.out.r 0;have d1:w3.cell? ⟨w.heap.size+2,1,none⟩=some (.int .u8 0):=row_cell S3.out.r 1;have d2:w3.cell? ⟨w.heap.size+2,2,none⟩=some (.int .u8 0):=row_cell S3.out.r 2;have d3:w3.cell? ⟨w.heap.size+2,3,none⟩=some (.int .u8 0):=row_cell S3.out.r 3;have d4:w3.cell? ⟨w.heap.size+2,4,none⟩=some (.int .u8 0):=row_cell S3.out.r 4;have k0:=row_frozen S3.out.r 0;have k1:=row_frozen S3.out.r 1;have k2:=row_frozen S3.out.r 2;have k3:=row_frozen S3.out.r 3;have k4:=row_frozen S3.out.r 4;have R3:=Lib.hid (st5_row S3.out.r z5);have B3:=Lib.hid (st5_below (r:=z5) S3.out.bel (show w.heap.size≤w.heap.size+2 by omega));clear S3;go_wp2
  (try simp only [Exit.inBlock,Exit.then])
  exact bodyPost_ret (results_b5 (p:=8) (r:=9) rfl _ _ (w.heap.size+2) z5 (.bool false) rfl rfl R3.out) rfl (NO.out _ NG.out B3.out)
end Go.Proofs.YtelgnhmcnfibnaaGreatDoor.Sv
namespace Go.Proofs.YtelgnhmcnfibnaaGreatDoor.Sv
open Go.RowKit Go.Maps
open Fl (R4 z4 rec4 arr4 row_cell row_frozen)
open Fs (Wf law keyI Rh Only)
open Pa (HMap HIs bv zeroB Hr)
attribute [local irreducible] Sd.wpSd wpQuiet Sz.wpSz
def Tm (w:World) (v:Value) (t:Nat→Int):Prop:=∃ h:Hr,(∀ i:Nat,(h i).getD 0=t i)∧(v = .map none∧(∀ n,h n=none)∨HMap w v h)
theorem Tm.below {w w':World} {v:Value} {t:Nat→Int} (M:Tm w v t) (hb:Below w.heap.size w w'):Tm w' v t:=by
 obtain ⟨h,e,m⟩:=M;exact ⟨h,e,m.imp id fun m=>m.below hb⟩
theorem Tm.only {w w':World} {v:Value} {t:Nat→Int} {G:Nat→Prop} (M:Tm w v t) (ho:Only G w w') (hn:∀ b,v = .map (some b)→¬ G b):Tm w' v t:=by
 obtain ⟨h,e,m⟩:=M;exact ⟨h,e,m.imp id fun m=>m.only ho hn⟩
theorem Tm.lt {w:World} {v:Value} {t:Nat→Int} (M:Tm w v t):∀ b,v = .map (some b)→b < w.heap.size:=by
 obtain ⟨h,e,⟨rfl,_⟩ | ⟨b,N,rfl,m⟩⟩:=M
 ·exact nofun
 ·intro b' e
  injection e with e;injection e with e;subst e;exact m.lt
theorem Tm.nil (w:World):Tm w (.map none) (fun _=>0):=⟨fun _=>none,fun _=>rfl,.inl ⟨rfl,fun _=>rfl⟩⟩
theorem run_turned {w:World} {v:Value} {t:Nat→Int} (M:Tm w v t) (i:Nat) (hi:i < 1000):(Instr.lookup 53 v (.int .i64 i) false).run Tryz.prog w = .ok (.int .u8 (t i)) w:=by
 have hn:Wf (i:Int):=WalkArith.wf_i64 (by omega);obtain ⟨h,e,⟨rfl,hz⟩ | M⟩:=M
 ·have:t i=0:=by rw [← e i,hz];rfl
  rw [this];exact Maps.look_nil false law Tryz.underlying53 (zeroB w) (keyI hn)
 ·obtain ⟨b,N,rfl,D,o,I⟩:=M
  obtain ⟨u,ps,hr,hu⟩:=o.lookup law Tryz.underlying53 (zeroB w) (zd:=.held (bv 0)) (zp:=[]) rfl (keyI hn);have:u = .int .u8 (t i):=by
   have e2:DataW.held u=D.atKey (.int .i64 (i:Int)) (.held (bv 0)):=by simp [Rh] at hu;exact hu.1
   rw [← e i]
   rcases ey:h (i:Int) with _ | y
   ·have:=I.has (i:Int) hn
    rw [ey] at this;rw [atKey_of_not_has this] at e2;injection e2
   ·rw [I.val (i:Int) y hn ey] at e2
    injection e2
  rw [hr,this]
def TurnPost (w:World) (g:Nat) (T:TypeId) (m:Nat) (F:Nat→Int) (e:Ending) (w':World):Prop:=e = .returned (.tuple #[])∧RowF w' g T m F∧Only (fun k=>k=g) w w'
set_option maxHeartbeats 1000000 in
theorem turn_any {w:World} {g m j:Nat} {T:TypeId} {F:Nat→Int} {v:Value} {t:Nat→Int} (R:RowF w g T m F) (M:Tm w v t) (hg:∀ b,v = .map (some b)→b≠g) (hm:m≤5) (hj:j≤9) :
 Calls Tryz.prog 37 #[.slice (some ⟨g,0,none⟩) m m,.int .i64 j,v] w (TurnPost w g T m (tF F t j m)):=by
 have R0:Hid (RowF w g T m (tF F t j 0)):=Lib.hid (R.to fun i _=>by unfold tF;rw [if_neg (by omega)]);have MM:=Lib.hid M;have HG:=Lib.hid hg;clear R M hg
 go_enter Tryz.func37,Tryz.ntmps37
 go_wp2
 go_loopw [9] (fun i wr=>∃ k:Nat,k≤m∧i = .int .i64 k∧Hid (RowF wr g T m (tF F t j k))∧Hid (Only (fun k=>k=g) w wr)) (fun i _=>m - (intOf i).toNat)
 case atStart=>exact ⟨0,Nat.zero_le _,rfl,R0,Lib.hid (Only.refl _ _)⟩
 case round =>
  obtain ⟨k,hk,rfl,RR,OO⟩:=hrel;clear R0
  by_cases hlt:k < m
  ·have hkm:(k:Int) < m:=by omega
   have TT:=Lib.hid (MM.out.only OO.out fun b e h=>HG.out b e h);have wk:IntKind.i64.wrap ((j:Int)+k)=(j:Int)+k:=IntWalk.i64_in _ (by omega);go_upto_region 3 with fail;have c0:=RR.out.cell hlt;rw [tF_at] at c0;have lt:=RR.out.lt;have x0:=Sc.cell_in (C:=Below wr.heap.size wr) (a:=⟨g,k,none⟩) (v:=.int .u8 (F k)) (fun W' h=>(h.cell lt).trans c0);have ne:Nonempty (Sc.In (Below wr.heap.size wr)):=⟨⟨_,Below.refl _ _⟩⟩;have rl:∀ p:Sc.In (Below wr.heap.size wr),(Instr.lookup 53 v (.int .i64 ((j:Int)+k)) false).run Tryz.prog p.world = .ok (.int .u8 (t (j+k))) p.world:=fun p=>run_turned (TT.out.below p.ok) (j+k) (by omega);have NX:=Lib.hid (fun W (h:RowF W g T m (tF F t j k))=>(h.set_ k (bx (F k) (t (j+k)))).to fun i _=>tF_next F t j k i);generalize t (j+k)=tk at *;refine Sz.start (Below wr.heap.size wr) [(false,0),(false,1),(false,2),(false,3),(false,4),(false,5),(false,6),(false,7),(false,8),(false,9),(false,10)] 11 (by kernel_rfl) (by kernel_rfl) (by kernel_rfl) rfl rfl (Below.refl _ _).drew ?_;dsimp only [Sd.picks,List.getElem?_cons_succ,List.getElem?_cons_zero]
   repeat (refine Sz.lit ?_;quiet_step (fail);refine wpQuiet_nil ?_)
   refine Sz.done ?_;clear x0 rl ne;have R1:Hid (RowF wr.drew g T m (tF F t j k)):=RR.out;have O1:Hid (Only (fun k=>k=g) w wr.drew):=Lib.hid (OO.out.then (Below.refl _ _).drew);have c1:wr.drew.cell? ⟨g,k,none⟩=some (.int .u8 (F k)):=c0;clear c0 RR OO;generalize wr.drew=W at *;have f1:=R1.out.frozen k;have R2:=Lib.hid (NX.out _ R1.out);have O2:=Lib.hid (O1.out.trans (Only.set (fun k=>k=g) W (a:=⟨g,k,none⟩) rfl (.int .u8 (bx (F k) tk))) fun _ _ h=>h);unfold bx at R2 O2;clear R1 O1 NX;go_simp;refine NoPanic.normal ?_;go_wp2
   go_roundw
   case rel=>exact ⟨k+1,by omega,by go_num,R2,O2⟩
   case measure=>simp [intOf];omega
  ·obtain rfl:k=m:=by omega
   go_wp2
   (try simp only [Exit.inBlock,Exit.then])
   exact bodyPost_ret (v:=.tuple #[]) (by simp [results,Tryz.f37]) rfl ⟨rfl,RR.out,OO.out⟩
end Go.Proofs.YtelgnhmcnfibnaaGreatDoor.Sv
namespace Go.Proofs.YtelgnhmcnfibnaaGreatDoor.Sv
open Go.RowKit Go.Maps
open Fl (R4 z4 rec4 arr4 okR row_cell row_frozen sto4 sto4_below okR_z)
open Fs (Abs Only Fx results_rec Glob)
open Ad (addr)
attribute [local irreducible] Sd.wpSd wpQuiet
theorem okR_tn4 (q:R4) (t:Nat→Int):okR (tn4 q t):=⟨bx_is _ _,bx_is _ _,bx_is _ _,bx_is _ _⟩
theorem is5_tn5 (b:B5) (t:Nat→Int) (k:Nat):is5 (tn5 b t k):=⟨bx_is _ _,bx_is _ _,bx_is _ _,bx_is _ _,bx_is _ _⟩
section
variable (z:Bool) (A:Abs) (n m o f r:Int) (v:R4) (t:Nat→Int)
def tyE:Int:=if askE m o f r=0 then (if obE z A n (trQ m o f r t) (trB v t)=0 then opnE (tn5 (datB (obV z A n (trQ m o f r t) (trB v t))) t 9) else 13) else askE m o f r
def tyV:R4:=if askE m o f r=0 then (if obE z A n (trQ m o f r t) (trB v t)=0 then opnV (tn5 (datB (obV z A n (trQ m o f r t) (trB v t))) t 9) else z4) else z4
def tyA:Abs:=if askE m o f r=0 then obA z A n (trQ m o f r t) (trB v t) else A
def tyD (d:Int):Int:=if askE m o f r=0 then obD z A n (trQ m o f r t) (trB v t) d else d
end
def TyPost (w:World) (p:Value) (F:Nat→Prop) (A:Abs) (d:Int) (z:Bool) (n m o f r:Int) (v:R4) (t:Nat→Int) (e:Ending) (w':World):Prop :=
 e = .returned (.tuple #[rec4 (tyV z A n m o f r v t),.int .i64 (tyE z A n m o f r v t)])∧Nd w' p (Fx F w w') (tyA z A n m o f r v t) (tyD z A n m o f r v t d) z∧Only F w w'
structure Ty0 (w:World) (o f r:Int) (v:R4) (W:World):Prop where
 a:W.heap[w.heap.size]? = some (.cells #[.int .i64 o,.int .i64 f,.int .i64 r] 24 (0,0))
 v:W.heap[w.heap.size+1]? = some (.cells (arr4 v) 26 (0,0))
 r:W.heap[w.heap.size+2]? = some (.cells (arr4 z4) 26 (0,0))
 bel:Below w.heap.size w W
 siz:w.heap.size+3≤W.heap.size
section
variable {w W W':World} {o f r:Int} {v:R4}
theorem Ty0.only (h:Ty0 w o f r v W) {G:Nat→Prop} (k:Only G W W') (hG:∀ j,G j→w.heap.size+3≤j):Ty0 w o f r v W' :=
 have s:=h.siz
 ⟨(k.block _ (by omega) (fun g=>by have:=hG _ g;omega)).trans h.a,(k.block _ (by omega) (fun g=>by have:=hG _ g;omega)).trans h.v,(k.block _ (by omega) (fun g=>by have:=hG _ g;omega)).trans h.r,h.bel.trans (k.below h.bel.size fun j g=>by have:=hG _ g;omega),Nat.le_trans h.siz k.size⟩
theorem Ty0.mono (h:Ty0 w o f r v W) (k:Below W.heap.size W W'):Ty0 w o f r v W':=h.only (G:=fun _=>False) (Only.of_below k) nofun
end
theorem ty0_of (w:World) (o f r:Int) (v:R4):Ty0 w o f r v (((w.alloc (.cells #[.int .i64 o,.int .i64 f,.int .i64 r] 24)).alloc (.cells (arr4 v) 26)).alloc (.cells (arr4 z4) 26)):=by
 have h1:∀ o,(w.alloc o).heap.size=w.heap.size+1:=fun o=>by simp
 have h2:∀ o o',((w.alloc o).alloc o').heap.size=w.heap.size+2:=fun o o'=>by simp
 have r1:=heap_alloc_new w (.cells #[.int .i64 o,.int .i64 f,.int .i64 r] 24);have r2:=heap_alloc_new (w.alloc (.cells #[.int .i64 o,.int .i64 f,.int .i64 r] 24)) (.cells (arr4 v) 26);have r3:=heap_alloc_new ((w.alloc (.cells #[.int .i64 o,.int .i64 f,.int .i64 r] 24)).alloc (.cells (arr4 v) 26)) (.cells (arr4 z4) 26);rw [h1] at r2;rw [h2] at r3
 exact ⟨(Below.heap_alloc _ _ _ (by rw [h2];omega)).trans ((Below.heap_alloc _ _ _ (by rw [h1];omega)).trans r1),(Below.heap_alloc _ _ _ (by rw [h2];omega)).trans r2,r3,
  (((Below.refl w.heap.size w).alloc (Nat.le_refl _) _).alloc (by rw [h1];omega) _).alloc (by rw [h2];omega) _,by simp⟩
set_option maxHeartbeats 4000000 in
theorem try_any {w:World} {p:Value} {F:Nat→Prop} {A:Abs} {d:Int} {z:Bool} (N:Nd w p F A d z) (hd:0≤d∧d < 1000000) (n m o f r:Int) (v:R4) {mv:Value} {t:Nat→Int} (M:Tm w mv t) (hM:∀ b,mv = .map (some b)→¬ F b) :
 Calls Tryz.prog 18 #[p,.int .i64 n,.int .i64 m,addr o f r,rec4 v,mv] w (TyPost w p F A d z n m o f r v t):=by
 have S0:Hid (Ty0 w o f r v (((w.alloc (.cells #[.int .i64 o,.int .i64 f,.int .i64 r] 24)).alloc (.cells #[.int .u8 v.1,.int .u8 v.2.1,.int .u8 v.2.2.1,.int .u8 v.2.2.2] 26)).alloc (.cells #[.int .u8 0,.int .u8 0,.int .u8 0,.int .u8 0] 26))):=Lib.hid (ty0_of w o f r v);have NN:=Lib.hid N;have HM:=Lib.hid hM;have MM:=Lib.hid M;have HLT:=Lib.hid M.lt;have AK:Hid (∀ W,Calls Tryz.prog 5 #[.int .i64 m,.agg #[.int .i64 o,.int .i64 f,.int .i64 r]] W (AskPost W m o f r)):=Lib.hid fun W=>sask_any W m o f r;have DA:Hid (∀ W,Calls Tryz.prog 13 #[.agg #[.int .u8 v.1,.int .u8 v.2.1,.int .u8 v.2.2.1,.int .u8 v.2.2.2]] W fun e w'=>e = .returned (val5 (datB v))∧Below W.heap.size W w'):=Lib.hid fun W=>data_any W v;have RP:=Lib.hid (fun W (h:Nd W p F A d z)=>reply_any h hd n (trQ m o f r t) (okR_tn4 _ _) (trB v t) (is5_tn5 _ _ _));have FIN:Hid (∀ e u w',e=tyE z A n m o f r v t→u=tyV z A n m o f r v t→(Nd w' p (Fx F w w') (tyA z A n m o f r v t) (tyD z A n m o f r v t d) z∧Only F w w')→TyPost w p F A d z n m o f r v t (.returned (.tuple #[rec4 u,.int .i64 e])) w'):=Lib.hid fun e u w' h1 h2 h=>by subst h1 h2;exact ⟨rfl,h⟩
 unfold tyE tyV tyA tyD at FIN;unfold AskPost at AK;unfold RpPost rpB rpX at RP;have TQ:Hid (trQ m o f r t=tn4 (askB m o f r) t):=Lib.hid rfl;have TB:Hid (trB v t=tn5 (datB v) t 4):=Lib.hid rfl;clear N hM M hd;generalize hq:trQ m o f r t=Q2 at *;generalize hb:trB v t=B2 at *;generalize askB m o f r=Q1 at *;generalize askE m o f r=E1 at *;generalize datB v=B1 at *;generalize obV z A n Q2 B2=V at *;generalize obE z A n Q2 B2=E at *;generalize obA z A n Q2 B2=A' at *;generalize obD z A n Q2 B2 d=D' at *;clear hq hb;unfold rec4 addr at *
 go_enter Tryz.func18,Tryz.ntmps18
 go_wp2_with fail;generalize ((w.alloc (.cells #[.int .i64 o,.int .i64 f,.int .i64 r] 24)).alloc (.cells #[.int .u8 v.1,.int .u8 v.2.1,.int .u8 v.2.2.1,.int .u8 v.2.2.2] 26)).alloc (.cells #[.int .u8 0,.int .u8 0,.int .u8 0,.int .u8 0] 26)=W at *;refine (AK.out W).mono ?_;rintro e w1 ⟨rfl,bw⟩;have S1:=Lib.hid ((S0.out.mono bw).mono ((Below.refl w1.heap.size w1).alloc (Nat.le_refl _) (.cells #[.int .u8 Q1.1,.int .u8 Q1.2.1,.int .u8 Q1.2.2.1,.int .u8 Q1.2.2.2] 25)));have QR1:Hid (RowF (w1.alloc (.cells #[.int .u8 Q1.1,.int .u8 Q1.2.1,.int .u8 Q1.2.2.1,.int .u8 Q1.2.2.2] 25)) w1.heap.size 25 4 (f4 Q1)):=Lib.hid (heap_alloc_new w1 _);have GQ:Hid (w.heap.size+3≤w1.heap.size):=Lib.hid (S0.out.mono bw).siz;clear bw S0 AK;go_upto_region 2 with fail;generalize w1.alloc (.cells #[.int .u8 Q1.1,.int .u8 Q1.2.1,.int .u8 Q1.2.2.1,.int .u8 Q1.2.2.2] 25)=W1 at *;generalize w1.heap.size=gq at *
 by_cases hE:E1=0
 ·subst hE
  simp only [if_true] at FIN;have v0:W1.cell? ⟨w.heap.size+1,0,none⟩=some (.int .u8 v.1):=row_cell S1.out.v 0;have v1:W1.cell? ⟨w.heap.size+1,1,none⟩=some (.int .u8 v.2.1):=row_cell S1.out.v 1;have v2:W1.cell? ⟨w.heap.size+1,2,none⟩=some (.int .u8 v.2.2.1):=row_cell S1.out.v 2;have v3:W1.cell? ⟨w.heap.size+1,3,none⟩=some (.int .u8 v.2.2.2):=row_cell S1.out.v 3;unfold val5 at DA;go_wp2_with fail;clear v0 v1 v2 v3;refine (DA.out W1).mono ?_;rintro e w2 ⟨rfl,bw⟩;have S2:=Lib.hid ((S1.out.mono bw).mono ((Below.refl w2.heap.size w2).alloc (Nat.le_refl _) (.cells #[.int .u8 B1.1,.int .u8 B1.2.1,.int .u8 B1.2.2.1,.int .u8 B1.2.2.2.1,.int .u8 B1.2.2.2.2] 27)));have QR2:=Lib.hid (QR1.out.kept ((Below.heap_alloc w2 (.cells #[.int .u8 B1.1,.int .u8 B1.2.1,.int .u8 B1.2.2.1,.int .u8 B1.2.2.2.1,.int .u8 B1.2.2.2.2] 27) gq (Nat.lt_of_lt_of_le QR1.out.lt bw.size)).trans (bw.block gq QR1.out.lt)));have BR2:Hid (RowF (w2.alloc (.cells #[.int .u8 B1.1,.int .u8 B1.2.1,.int .u8 B1.2.2.1,.int .u8 B1.2.2.2.1,.int .u8 B1.2.2.2.2] 27)) w2.heap.size 27 5 (f5 B1)):=Lib.hid (heap_alloc_new w2 _);have GB:Hid (gq < w2.heap.size):=Lib.hid (Nat.lt_of_lt_of_le QR1.out.lt bw.size);clear bw S1 DA QR1;go_upto_region 5 with fail;generalize w2.alloc (.cells #[.int .u8 B1.1,.int .u8 B1.2.1,.int .u8 B1.2.2.1,.int .u8 B1.2.2.2.1,.int .u8 B1.2.2.2.2] 27)=W2 at *;generalize w2.heap.size=gb at *;have T1:Calls Tryz.prog 37 #[.slice (some ⟨gq,0,none⟩) 4 4,.int .i64 0,mv] W2 (TurnPost W2 gq 25 4 (tF (f4 Q1) t 0 4)):=turn_any (j:=0) QR2.out (MM.out.below S2.out.bel) (fun b e=>by have:=HLT.out b e;have:=GQ.out;omega) (by omega) (by omega);have HT1:=Lib.hid T1;clear T1;go_wp2_with fail;refine HT1.out.mono ?_;rintro e w3 ⟨rfl,rw3,on3⟩;have QR3:Hid (RowF w3 gq 25 4 (f4 Q2)):=Lib.hid (by rw [TQ.out];exact rw3.to fun i hi=>tF_4 Q1 t i hi);have S3:=Lib.hid (S2.out.only on3 fun j e=>by have:=GQ.out;omega);have BR3:=Lib.hid (BR2.out.kept (on3.block gb BR2.out.lt (fun e=>by have:=GB.out;omega)));clear rw3 on3 S2 QR2 BR2 HT1 TQ;have T2:Calls Tryz.prog 37 #[.slice (some ⟨gb,0,none⟩) 5 5,.int .i64 4,mv] w3 (TurnPost w3 gb 27 5 (tF (f5 B1) t 4 5)):=turn_any (j:=4) BR3.out (MM.out.below S3.out.bel) (fun b e=>by have:=HLT.out b e;have:=GQ.out;have:=GB.out;omega) (by omega) (by omega);have HT2:=Lib.hid T2;clear T2;go_wp2_with fail;refine HT2.out.mono ?_;rintro e w4 ⟨rfl,rw4,on4⟩;have BR4:Hid (RowF w4 gb 27 5 (f5 B2)):=Lib.hid (by rw [TB.out];exact rw4.to fun i hi=>tF_5 B1 t 4 i hi);have S4:=Lib.hid (S3.out.only on4 fun j e=>by have:=GQ.out;have:=GB.out;omega);have QR4:=Lib.hid (QR3.out.kept (on4.block gq QR3.out.lt (fun e=>by have:=GB.out;omega)));clear rw4 on4 S3 QR3 BR3 HT2 TB;have q0:w4.cell? ⟨gq,0,none⟩=some (.int .u8 Q2.1):=QR4.out.cell (by decide);have q1:w4.cell? ⟨gq,1,none⟩=some (.int .u8 Q2.2.1):=QR4.out.cell (by decide);have q2:w4.cell? ⟨gq,2,none⟩=some (.int .u8 Q2.2.2.1):=QR4.out.cell (by decide);have q3:w4.cell? ⟨gq,3,none⟩=some (.int .u8 Q2.2.2.2):=QR4.out.cell (by decide);have b0:w4.cell? ⟨gb,0,none⟩=some (.int .u8 B2.1):=BR4.out.cell (by decide);have b1:w4.cell? ⟨gb,1,none⟩=some (.int .u8 B2.2.1):=BR4.out.cell (by decide);have b2:w4.cell? ⟨gb,2,none⟩=some (.int .u8 B2.2.2.1):=BR4.out.cell (by decide);have b3:w4.cell? ⟨gb,3,none⟩=some (.int .u8 B2.2.2.2.1):=BR4.out.cell (by decide);have b4:w4.cell? ⟨gb,4,none⟩=some (.int .u8 B2.2.2.2.2):=BR4.out.cell (by decide);unfold val5 at RP;go_wp2_with fail;clear q0 q1 q2 q3 b0 b1 b2 b3 b4
  by_cases h0:E=0
  ·have HRP:=Lib.hid (fun W h=>(RP.out W h))
   subst h0;simp only [if_true] at FIN HRP;generalize datB V=D at *;clear RP;clear QR4 BR4;refine (HRP.out w4 (NN.out.below S4.out.bel)).mono ?_;rintro e w5 ⟨rfl,nd,on⟩;have R5:=(on.block _ (lt_of_block S4.out.r) (fun g=>by have:=NN.out.low _ g;omega)).trans S4.out.r;have DONE:Hid (∀ w',Only (fun j=>w.heap.size≤j∧j < w4.heap.size) w5 w'→Nd w' p (Fx F w w') A' D' z∧Only F w w'):=Lib.hid fun w' k=>NN.out.fin S4.out.bel nd on k;have G5:Hid (Glob w5):=Lib.hid nd.glob;have M5:=Lib.hid ((MM.out.below S4.out.bel).only on HM.out);have L5:Hid (w.heap.size+3≤w4.heap.size∧w4.heap.size≤w5.heap.size):=Lib.hid ⟨S4.out.siz,on.size⟩;have B6:=Lib.hid ((Below.refl w5.heap.size w5).alloc (Nat.le_refl _) (.cells #[.int .u8 D.1,.int .u8 D.2.1,.int .u8 D.2.2.1,.int .u8 D.2.2.2.1,.int .u8 D.2.2.2.2] 27));have DR6:Hid (RowF (w5.alloc (.cells #[.int .u8 D.1,.int .u8 D.2.1,.int .u8 D.2.2.1,.int .u8 D.2.2.2.1,.int .u8 D.2.2.2.2] 27)) w5.heap.size 27 5 (f5 D)):=Lib.hid (heap_alloc_new w5 _);have R5':=Lib.hid R5;clear nd on S4 NN R5 HRP MM HM;go_upto_region 8 with fail;generalize w5.alloc (.cells #[.int .u8 D.1,.int .u8 D.2.1,.int .u8 D.2.2.1,.int .u8 D.2.2.2.1,.int .u8 D.2.2.2.2] 27)=W6 at *;have B7:=Lib.hid (B6.out.trans (((Below.refl W6.heap.size W6).alloc (Nat.le_refl _) (.cells #[.int .i64 0,.nilIface] 97)).mono B6.out.size));have H7:Hid ((W6.alloc (.cells #[.int .i64 0,.nilIface] 97)).heap[W6.heap.size]? = some (.cells #[.int .i64 0,.nilIface] 97 (0,0))):=Lib.hid (heap_alloc_new W6 _);have L6:Hid (w5.heap.size < W6.heap.size):=Lib.hid DR6.out.lt;have DR7:=Lib.hid (DR6.out.kept (Below.heap_alloc W6 (.cells #[.int .i64 0,.nilIface] 97) _ DR6.out.lt));clear B6 DR6;go_upto_region 9 with fail;generalize W6.alloc (.cells #[.int .i64 0,.nilIface] 97)=W7 at *;generalize hg6:W6.heap.size=g6 at *;clear hg6;generalize hg5:w5.heap.size=g5 at *;have HG5:=Lib.hid hg5;clear hg5;go_wp2_with fail;refine (as_none _ W7).mono ?_;rintro e w8 ⟨rfl,b8⟩;have B8:=Lib.hid (B7.out.trans (b8.mono (by rw [← HG5.out];exact B7.out.size)));have DR8:=Lib.hid (DR7.out.kept (b8.block _ DR7.out.lt));have T3:Calls Tryz.prog 37 #[.slice (some ⟨g5,0,none⟩) 5 5,.int .i64 9,mv] w8 (TurnPost w8 g5 27 5 (tF (f5 D) t 9 5)):=turn_any (j:=9) DR8.out (M5.out.below (by rw [HG5.out];exact B8.out)) (fun b e=>by have:=HLT.out b e;have:=L5.out;omega) (by omega) (by omega);have HT3:=Lib.hid T3;have R8:=Lib.hid ((B8.out.block _ (by have:=lt_of_block R5'.out;have:=HG5.out;omega)).trans R5'.out);clear T3 b8 B7 DR7 H7 G5 M5;go_wp2_with fail;refine HT3.out.mono ?_;rintro e w9 ⟨rfl,rw9,on9⟩;generalize hb3:tn5 D t 9=B3 at *;have DR9:Hid (RowF w9 g5 27 5 (f5 B3)):=Lib.hid (by rw [← hb3];exact rw9.to fun i hi=>tF_5 D t 9 i hi);clear hb3;have K9:Hid (Only (fun j=>w.heap.size≤j∧j < w4.heap.size) w5 w9):=Lib.hid ((Only.of_below (by rw [HG5.out];exact B8.out)).trans on9 fun j hj e=>by have:=HG5.out;omega);have R9:=Lib.hid ((on9.block _ (lt_of_block R8.out) (fun e=>by have:=HG5.out;have:=L5.out;omega)).trans R8.out);clear rw9 on9 HT3 DR8 B8 R8;have OP:=open_any w9 B3;unfold OpnPost val5 rec4 at OP;have b0:w9.cell? ⟨g5,0,none⟩=some (.int .u8 B3.1):=DR9.out.cell (by decide);have b1:w9.cell? ⟨g5,1,none⟩=some (.int .u8 B3.2.1):=DR9.out.cell (by decide);have b2:w9.cell? ⟨g5,2,none⟩=some (.int .u8 B3.2.2.1):=DR9.out.cell (by decide);have b3:w9.cell? ⟨g5,3,none⟩=some (.int .u8 B3.2.2.2.1):=DR9.out.cell (by decide);have b4:w9.cell? ⟨g5,4,none⟩=some (.int .u8 B3.2.2.2.2):=DR9.out.cell (by decide);generalize opnE B3=OE at *;generalize opnV B3=OV at *;have HOP:=Lib.hid OP;clear OP;go_wp2_with fail;clear b0 b1 b2 b3 b4;refine HOP.out.mono ?_;rintro e w10 ⟨rfl,b10⟩;have RA:=(b10.block _ (lt_of_block R9.out)).trans R9.out;have K10:=Lib.hid (DONE.out _ ((K9.out.then b10).trans (st4_only w10 (w.heap.size+2) OV) fun j _ e=>by have:=L5.out;subst e;exact ⟨by omega,by omega⟩));have R3:=Lib.hid (Fl.sto4_row RA OV);have d0:w10.cell? ⟨w.heap.size+2,0,none⟩=some (.int .u8 0):=row_cell RA 0;have d1:w10.cell? ⟨w.heap.size+2,1,none⟩=some (.int .u8 0):=row_cell RA 1;have d2:w10.cell? ⟨w.heap.size+2,2,none⟩=some (.int .u8 0):=row_cell RA 2;have d3:w10.cell? ⟨w.heap.size+2,3,none⟩=some (.int .u8 0):=row_cell RA 3;have k0:=row_frozen RA 0;have k1:=row_frozen RA 1;have k2:=row_frozen RA 2;have k3:=row_frozen RA 3;clear b10 K9 DONE HOP DR9 RA R5' R9;go_wp2
   (try simp only [Exit.inBlock,Exit.then])
   exact bodyPost_ret (results_rec (p:=12) (r:=13) rfl _ _ (w.heap.size+2) OV (.int .i64 OE) rfl rfl R3.out) rfl (FIN.out OE OV _ rfl rfl K10.out)
  ·have HRP:=Lib.hid (fun W h=>(RP.out W h))
   rw [if_neg h0,if_neg h0] at FIN;simp only [if_neg h0] at HRP;clear RP;generalize z5=D at HRP;clear QR4 BR4;refine (HRP.out w4 (NN.out.below S4.out.bel)).mono ?_;rintro e w5 ⟨rfl,nd,on⟩;have R5:=(on.block _ (lt_of_block S4.out.r) (fun g=>by have:=NN.out.low _ g;omega)).trans S4.out.r;have DONE:Hid (∀ w',Only (fun j=>w.heap.size≤j∧j < w4.heap.size) w5 w'→Nd w' p (Fx F w w') A' D' z∧Only F w w'):=Lib.hid fun w' k=>NN.out.fin S4.out.bel nd on k;have G5:Hid (Glob w5):=Lib.hid nd.glob;have M5:=Lib.hid ((MM.out.below S4.out.bel).only on HM.out);have L5:Hid (w.heap.size+3≤w4.heap.size∧w4.heap.size≤w5.heap.size):=Lib.hid ⟨S4.out.siz,on.size⟩;have B6:=Lib.hid ((Below.refl w5.heap.size w5).alloc (Nat.le_refl _) (.cells #[.int .u8 D.1,.int .u8 D.2.1,.int .u8 D.2.2.1,.int .u8 D.2.2.2.1,.int .u8 D.2.2.2.2] 27));have DR6:Hid (RowF (w5.alloc (.cells #[.int .u8 D.1,.int .u8 D.2.1,.int .u8 D.2.2.1,.int .u8 D.2.2.2.1,.int .u8 D.2.2.2.2] 27)) w5.heap.size 27 5 (f5 D)):=Lib.hid (heap_alloc_new w5 _);have R5':=Lib.hid R5;clear nd on S4 NN R5 HRP MM HM;go_upto_region 8 with fail;generalize w5.alloc (.cells #[.int .u8 D.1,.int .u8 D.2.1,.int .u8 D.2.2.1,.int .u8 D.2.2.2.1,.int .u8 D.2.2.2.2] 27)=W6 at *;have B7:=Lib.hid (B6.out.trans (((Below.refl W6.heap.size W6).alloc (Nat.le_refl _) (.cells #[.int .i64 0,.nilIface] 97)).mono B6.out.size));have H7:Hid ((W6.alloc (.cells #[.int .i64 0,.nilIface] 97)).heap[W6.heap.size]? = some (.cells #[.int .i64 0,.nilIface] 97 (0,0))):=Lib.hid (heap_alloc_new W6 _);have L6:Hid (w5.heap.size < W6.heap.size):=Lib.hid DR6.out.lt;have DR7:=Lib.hid (DR6.out.kept (Below.heap_alloc W6 (.cells #[.int .i64 0,.nilIface] 97) _ DR6.out.lt));clear B6 DR6;go_upto_region 9 with fail;generalize W6.alloc (.cells #[.int .i64 0,.nilIface] 97)=W7 at *;generalize hg6:W6.heap.size=g6 at *;clear hg6;generalize hg5:w5.heap.size=g5 at *;have HG5:=Lib.hid hg5;clear hg5;have AS:=Lib.hid (as_silent n E g6 W7 (G5.out.below (by rw [HG5.out];exact B7.out)) H7.out);have H7':=H7;clear h0 H7 M5 DR7;go_wp2_with fail;refine AS.out.mono ?_;rintro e w8 ⟨rfl,on8⟩;have K8:Hid (Only (fun j=>w.heap.size≤j∧j < w4.heap.size) w5 w8):=Lib.hid ((Only.of_below (by rw [HG5.out];exact B7.out)).trans on8 fun j hj e=>by have:=HG5.out;have:=L6.out;omega);have RA:=(on8.block _ (by have:=lt_of_block R5'.out;have:=HG5.out;have:=B7.out.size;have:=L6.out;have:=lt_of_block H7'.out;omega) (fun e=>by have:=HG5.out;have:=L5.out;have:=L6.out;omega)).trans ((B7.out.block _ (by have:=lt_of_block R5'.out;have:=HG5.out;omega)).trans R5'.out);have K10:=Lib.hid (DONE.out _ (K8.out.trans (st4_only w8 (w.heap.size+2) z4) fun j _ e=>by have:=L5.out;subst e;exact ⟨by omega,by omega⟩));have R3:=Lib.hid (Fl.sto4_row RA z4);have d0:w8.cell? ⟨w.heap.size+2,0,none⟩=some (.int .u8 0):=row_cell RA 0;have d1:w8.cell? ⟨w.heap.size+2,1,none⟩=some (.int .u8 0):=row_cell RA 1;have d2:w8.cell? ⟨w.heap.size+2,2,none⟩=some (.int .u8 0):=row_cell RA 2;have d3:w8.cell? ⟨w.heap.size+2,3,none⟩=some (.int .u8 0):=row_cell RA 3;have k0:=row_frozen RA 0;have k1:=row_frozen RA 1;have k2:=row_frozen RA 2;have k3:=row_frozen RA 3;clear on8 K8 DONE AS RA R5' B7 G5;go_wp2
   (try simp only [Exit.inBlock,Exit.then])
   exact bodyPost_ret (results_rec (p:=12) (r:=13) rfl _ _ (w.heap.size+2) z4 (.int .i64 13) rfl rfl R3.out) rfl (FIN.out 13 z4 _ rfl rfl K10.out)
 ·have R3:=Lib.hid (Fl.sto4_row S1.out.r z4)
  have B3:=Lib.hid (sto4_below (o:=0) (r:=z4) S1.out.bel (show w.heap.size≤w.heap.size+2 by omega));have d0:W1.cell? ⟨w.heap.size+2,0,none⟩=some (.int .u8 0):=row_cell S1.out.r 0;have d1:W1.cell? ⟨w.heap.size+2,1,none⟩=some (.int .u8 0):=row_cell S1.out.r 1;have d2:W1.cell? ⟨w.heap.size+2,2,none⟩=some (.int .u8 0):=row_cell S1.out.r 2;have d3:W1.cell? ⟨w.heap.size+2,3,none⟩=some (.int .u8 0):=row_cell S1.out.r 3;have k0:=row_frozen S1.out.r 0;have k1:=row_frozen S1.out.r 1;have k2:=row_frozen S1.out.r 2;have k3:=row_frozen S1.out.r 3;rw [if_neg hE,if_neg hE,if_neg hE,if_neg hE] at FIN;clear S1 QR1 DA RP;go_wp2
  (try simp only [Exit.inBlock,Exit.then])
  exact bodyPost_ret (results_rec (p:=12) (r:=13) rfl _ _ (w.heap.size+2) z4 (.int .i64 E1) rfl rfl R3.out) rfl (FIN.out E1 z4 _ rfl rfl (NN.out.stay B3.out))
end Go.Proofs.YtelgnhmcnfibnaaGreatDoor.Sv
namespace Go.Proofs.YtelgnhmcnfibnaaGreatDoor.Sv
open Fl (R4 z4 newL okR okL)
open Fs (Abs addE addA gV gB)
def h0:R4:=(1,7,165,163)
theorem new71:newL 7 (1:Nat) = [h0,z4]:=by decide +kernel
def A0:Abs:=[(2,7,[h0,z4])]
def A1:Abs:=[(2,7,[h0,(1,2,0,0)])]
theorem okL_0:okL [h0,z4]:=fun r hr=>by
 simp only [List.mem_cons,List.not_mem_nil,or_false] at hr
 rcases hr with rfl | rfl
 ·exact ⟨⟨by decide,by decide⟩,⟨by decide,by decide⟩,⟨by decide,by decide⟩,by decide,by decide⟩
 ·exact Fl.okR_z
theorem add_0:addE [] 2 7 [h0,z4]=0∧addA [] 2 7 [h0,z4]=A0:=⟨by kernel_rfl,by kernel_rfl⟩
theorem ask_0:askE 5 0 2 1=0∧askB 5 0 2 1=(5,2,1,92):=⟨by kernel_rfl,by kernel_rfl⟩
def o4:Nat→Int:=fun i=>if i=4 then 1 else 0
theorem try_1:tyE false A0 5 5 1 2 1 (1,2,0,0) (fun _=>0)=0∧tyV false A0 5 5 1 2 1 (1,2,0,0) (fun _=>0)=(1,2,0,0)∧tyA false A0 5 5 1 2 1 (1,2,0,0) (fun _=>0)=A1∧tyD false A0 5 5 1 2 1 (1,2,0,0) (fun _=>0) 0=0:=⟨by kernel_rfl,by kernel_rfl,by kernel_rfl,by kernel_rfl⟩
theorem try_2:tyE false A1 5 5 1 2 1 (3,0,0,0) o4=13∧tyV false A1 5 5 1 2 1 (3,0,0,0) o4=z4∧tyA false A1 5 5 1 2 1 (3,0,0,0) o4=A1∧tyD false A1 5 5 1 2 1 (3,0,0,0) o4 0=0:=⟨by kernel_rfl,by kernel_rfl,by kernel_rfl,by kernel_rfl⟩
theorem try_3:tyE false A1 5 6 0 2 1 z4 (fun _=>0)=13∧tyV false A1 5 6 0 2 1 z4 (fun _=>0)=z4∧tyA false A1 5 6 0 2 1 z4 (fun _=>0)=A1∧tyD false A1 5 6 0 2 1 z4 (fun _=>0) 0=0:=⟨by kernel_rfl,by kernel_rfl,by kernel_rfl,by kernel_rfl⟩
theorem get_1:gV A1 2 1=(1,2,0,0)∧gB A1 2 1=true:=⟨by kernel_rfl,by kernel_rfl⟩
end Go.Proofs.YtelgnhmcnfibnaaGreatDoor.Sv
namespace Go.Proofs.YtelgnhmcnfibnaaGreatDoor.Fl
open Go.RowKit
open Rw (Rd Ow At)
def RnewOwn (w:World) (p n:Int) (e:Ending) (w':World):Prop:=∃ v,e = .returned (.tuple #[file p v,.int .i64 0])∧Ow K4 w' w.heap.size 26 v (newL p n)∧Below w.heap.size w w'
set_option maxHeartbeats 1000000 in
theorem rnew_own (w:World) (p:Int) (m:Nat) (hp:newP p m):Calls Tryz.prog 31 #[.int .i64 p,.int .i64 m] w (RnewOwn w p m):=by
 have B0:=Lib.hid ((Below.refl w.heap.size w).alloc (Nat.le_refl _) (.cells #[.int .i64 0,.slice none 0 0] 71));have HPN:=Lib.hid hp;obtain ⟨p0,p1,n0,n1⟩:=hp;have HH:=Lib.hid (rhdr_any (w.alloc (.cells #[.int .i64 0,.slice none 0 0] 71)) p m p0 p1 (by omega) (by omega));have NL:Hid (newL p m=hdr p m :: List.replicate m z4):=rfl;unfold rec4 at HH;generalize hdr p m=h at *
 go_enter Tryz.func31,Tryz.ntmps31
 go_wp2_with fail;refine HH.out.mono ?_;rintro e w1 ⟨rfl,b1⟩;have z1:w.heap.size < w1.heap.size:=by have:=b1.size;simp at this;omega
 have B1:=Lib.hid (B0.out.trans (b1.mono B0.out.size));have r0:w1.heap[w.heap.size]? = some (.cells #[.int .i64 0,.slice none 0 0] 71 (0,0)):=(b1.block _ (by simp)).trans (heap_alloc_new w _);have hz:(w1.alloc (.cells #[.int .u8 h.1,.int .u8 h.2.1,.int .u8 h.2.2.1,.int .u8 h.2.2.2] 26)).heap.size=w1.heap.size+1:=by simp
 have N0:NRel w p h (w1.heap.size+1) 0 (.slice (some ⟨w1.heap.size,0,none⟩) 1 1) ((w1.alloc (.cells #[.int .u8 h.1,.int .u8 h.2.1,.int .u8 h.2.2.1,.int .u8 h.2.2.2] 26)).alloc (.cells #[.int .i64 p,.slice (some ⟨w1.heap.size,0,none⟩) 1 1] 71)):=by
  refine ⟨?_,?_,(Ow.lit (K:=K4) w1 (w.heap.size+1) 26 [h] (by omega) (by unfold maxLen;simp)).alloc _,(B1.out.alloc (by omega) _).alloc (by rw [hz];omega) _,by omega⟩
  ·have:=heap_alloc_new (w1.alloc (.cells #[.int .u8 h.1,.int .u8 h.2.1,.int .u8 h.2.2.1,.int .u8 h.2.2.2] 26)) (.cells #[.int .i64 p,.slice (some ⟨w1.heap.size,0,none⟩) 1 1] 71)
   rw [hz] at this;exact this
  ·exact (Below.heap_alloc _ _ _ (by rw [hz];omega)).trans ((Below.heap_alloc _ _ _ z1).trans r0)
 have NR:=Lib.hid N0;clear b1 N0 r0 HH hz;go_wp2;generalize (w1.alloc (.cells #[.int .u8 h.1,.int .u8 h.2.1,.int .u8 h.2.2.1,.int .u8 h.2.2.2] 26)).alloc (.cells #[.int .i64 p,.slice (some ⟨w1.heap.size,0,none⟩) 1 1] 71)=W at *;generalize w1.heap.size+1=g at *;generalize Value.slice (some ⟨w1.heap.size,0,none⟩) 1 1=v0 at *
 go_loopw [7] (fun i wr=>∃ (k:Nat) (v:Value),k≤m∧i = .int .i64 k∧Hid (NRel w p h g k v wr)) (fun i _=>m - (intOf i).toNat)
 case atStart=>exact ⟨0,v0,Nat.zero_le _,rfl,NR⟩
 case round =>
  obtain ⟨k,v,hk,rfl,R⟩:=hrel;obtain ⟨av,cv,ev,_,_⟩:=R.out.own.slice;generalize hL:(h :: List.replicate k z4).length=L at ev;clear hL;have gs:=lt_of_block R.out.row;have c1:wr.cell? ⟨g,1,none⟩=some v:=row_cell R.out.row 1;subst ev
  by_cases hlt:k < m
  ·go_wp2_with (at_builtin;refine Rw.push_far Tryz.underlying69 infoR rfl (by omega) rfl _ _ rfl (w.heap.size+1) _ _ rfl (R.out.own.alloc _) _ z4 rfl ?d1 ?d2 ?d3 ?_)
   case d1 =>
    intro j u hu
    match j,hu with
    | 0,hu=>simp [K4,z4] at hu;subst hu;go_simp
    | 1,hu=>simp [K4,z4] at hu;subst hu;go_simp
    | 2,hu=>simp [K4,z4] at hu;subst hu;go_simp
    | 3,hu=>simp [K4,z4] at hu;subst hu;go_simp
    | j+4,hu=>simp [K4] at hu
   case d2=>simp;omega
   case d3=>have:=R.out.lt;simp;omega
   intro v' w2 o2 b2 f2
   have rr:=f2 g _ _ ((Below.heap_alloc wr _ g gs).trans R.out.row) (by decide);have rs:=f2 w.heap.size _ _ ((Below.heap_alloc wr _ w.heap.size (lt_of_block R.out.res)).trans R.out.res) (by decide);have d1:w2.cell? ⟨g,1,none⟩=some (.slice av L cv):=row_cell rr 1;have e1:=row_frozen rr 1;have N2:Hid (NRel w p h g (k+1) v' (w2.setCell ⟨g,1,none⟩ v')):=by
    have hB:=R.out.bel.size;refine ⟨Rw.heap_setCell_same rr _,(Below.heap_setCell w2 _ _ w.heap.size (by have:=R.out.lt;simp;omega)).trans rs,?_,?_,R.out.lt⟩
    ·have e:(h :: List.replicate k z4) ++ [z4]=h :: List.replicate (k+1) z4:=by rw [List.replicate_succ'];rfl
     rw [← e];exact o2.far (p:=⟨g,1,none⟩) rr (by decide) _
    ·exact (((R.out.bel.alloc hB _).trans (b2.mono (by omega))).setCell (by have:=R.out.lt;simp;omega) _)
   obtain ⟨av',cv',L',rfl⟩:∃ a c L,v' = .slice a L c:=by obtain ⟨a,c,e,_,_⟩:=o2.slice;exact ⟨a,c,_,e⟩
   clear rr rs o2 b2 f2;go_wp2
   go_roundw
   case rel=>exact ⟨k+1,_,by omega,by go_num,N2⟩
   case measure=>simp [intOf];omega
  ·obtain rfl:k=m:=by omega
   have c0:wr.cell? ⟨g,0,none⟩=some (.int .i64 p):=row_cell R.out.row 0;have r0:wr.cell? ⟨w.heap.size,0,none⟩=some (.int .i64 0):=row_cell R.out.res 0;have r1:wr.cell? ⟨w.heap.size,1,none⟩=some (.slice none 0 0):=row_cell R.out.res 1;have s0:=row_frozen R.out.res 0;have s1:=row_frozen R.out.res 1;have E2:Hid (RnewOwn w p k (.returned (.tuple #[file p (.slice av L cv),.int .i64 0])) ((wr.setCell ⟨w.heap.size,0,none⟩ (.int .i64 p)).setCell ⟨w.heap.size,1,none⟩ (.slice av L cv))):=by
    have o1:=R.out.own.far (p:=⟨w.heap.size,0,none⟩) R.out.res (by decide) (.int .i64 p);have rr:=Rw.heap_setCell_same (j:=0) R.out.res (.int .i64 p);refine ⟨_,rfl,?_,(R.out.bel.setCell (Nat.le_refl _) _).setCell (Nat.le_refl _) _⟩;rw [NL.out];exact ((o1.far (p:=⟨w.heap.size,1,none⟩) rr (by decide) _)).low (by omega)
   go_wp2
   (try simp only [Exit.inBlock,Exit.then])
   refine bodyPost_ret (v:=.tuple #[file p (.slice av L cv),.int .i64 0]) ?_ rfl E2.out;rw [results_cell_tmp rfl];go_simp;rfl
end Go.Proofs.YtelgnhmcnfibnaaGreatDoor.Fl
namespace Go.Proofs.YtelgnhmcnfibnaaGreatDoor.Sv
open Go.RowKit Go.Maps
open Fs (Abs St Only Fx Wf Glob Aw addE addA gV gB get_st GetPost new_st below_new add_any AddPost Loc)
open Pa (hput HBl HMap hbl_new run_hput bv)
open Rw (Rd Ow At)
open Fl (R4 z4 K4 rec4 arr4 okR okL file newL newP row_cell row_frozen rnew_own RnewOwn eq_rec ret_bool)
theorem nd_of {w:World} {s:Nat} {F:Nat→Prop} {A:Abs} {d:Int} (S:St w s F A d) (hg:Glob w) (h0:¬ F 0):Nd w (.pointer (some ⟨s,0,none⟩)) F A d false:=⟨S.low,hg,h0,fun _=>⟨s,rfl,S⟩,nofun⟩
theorem Nd.store {w:World} {s:Nat} {F:Nat→Prop} {A:Abs} {d:Int} (h:Nd w (.pointer (some ⟨s,0,none⟩)) F A d false):St w s F A d:=by
 obtain ⟨s',e,S⟩:=h.st rfl;injection e with e;injection e with e;injection e with e;subst e;exact S
theorem one_map (W:World) (k:Nat) (hk:k < 1000) (y:Int):∃ w',(Instr.mapUpdate 53 (.map (some W.heap.size)) (.int .i64 (k:Int)) (.int .u8 y)).run Tryz.prog (W.alloc (.map #[] 0)) = .ok () w'∧Tm w' (.map (some W.heap.size)) (fun i=>if i=k then y else 0)∧Below W.heap.size W w':=by
 obtain ⟨w',hr,hb,gr⟩:=run_hput (hbl_new W) (by unfold maxLen;omega) (n:=(k:Int)) (y:=y) (WalkArith.wf_i64 (by omega));refine ⟨w',hr,⟨_,fun i=>?_,.inr ⟨_,_,rfl,hb⟩⟩,(below_new W _).grown gr (by simp) fun j e=>by injection e with e;omega⟩;unfold hput
 by_cases h:i=k
 ·subst h
  show (if (i:Int)=(i:Int) then some y else none).getD 0=if i=i then y else 0
  rw [if_pos rfl,if_pos rfl]
  rfl
 ·show (if (i:Int)=(k:Int) then some y else none).getD 0=if i=k then y else 0
  rw [if_neg (by omega),if_neg h]
  rfl
theorem try_st {w:World} {s:Nat} {F:Nat→Prop} {A:Abs} {d:Int} (S:St w s F A d) (hg:Glob w) (h0:¬ F 0) (hd:0≤d∧d < 1000000) (n m o f r:Int) (v:R4) {mv:Value} {t:Nat→Int} (M:Tm w mv t) (hM:∀ b,mv = .map (some b)→¬ F b) :
 Calls Tryz.prog 18 #[.pointer (some ⟨s,0,none⟩),.int .i64 n,.int .i64 m,Ad.addr o f r,rec4 v,mv] w fun e w' =>
  e = .returned (.tuple #[rec4 (tyV false A n m o f r v t),.int .i64 (tyE false A n m o f r v t)])∧St w' s (Fx F w w') (tyA false A n m o f r v t) (tyD false A n m o f r v t d)∧Only F w w' :=
 (try_any (nd_of S hg h0) hd n m o f r v M hM).mono fun _ _ ⟨h1,h2,h3⟩=>⟨h1,h2.store,h3⟩
set_option maxHeartbeats 4000000 in
theorem awake_any (w:World) (hg:Glob w):Calls Tryz.prog 12 #[] w fun e w'=>e = .returned (.bool true)∧Below w.heap.size w w':=by
 have HG:=Lib.hid hg;clear hg;have S0:Hid (Aw w w.heap.size (fun k=>k=w.heap.size) [] 0 (w.alloc (.cells #[.map none,.int .i64 0] 93))):=⟨new_st w,fun k hk=>by subst hk;exact Nat.le_refl _,below_new w _⟩;have NW:=Lib.hid (fun W=>rnew_own W 7 1 (by decide));unfold RnewOwn at NW;rw [new71] at NW;unfold file at NW
 go_enter Tryz.func12,Tryz.ntmps12
 go_wp2_with (go_at_call 25;refine (Fs.new_any _).mono ?_;rintro e w1 ⟨rfl,rfl⟩)
 go_wp2_with fail;refine (NW.out _).mono ?_;rintro e w2 ⟨fv,rfl,r2,b2⟩;obtain ⟨fa,fc,rfl,_⟩:=r2.slice;have S2:=Lib.hid ((S0.out.below b2).below (below_new w2 (.cells #[.int .i64 7,.slice fa 2 fc] 71)));have R2:=Lib.hid (r2.rd.below (below_new w2 (.cells #[.int .i64 7,.slice fa 2 fc] 71)));clear r2 b2 S0 NW;generalize hs:w.heap.size=s at *;go_wp2_with fail;generalize (w2.alloc (.cells #[.int .i64 7,.slice fa 2 fc] 71))=W2 at *;have AD:=add_any S2.out.st 2 7 (.slice fa 2 fc) [h0,z4] R2.out okL_0;rw [add_0.1,add_0.2] at AD;unfold file at AD;refine AD.mono ?_;rintro e w3 ⟨rfl,s3,o3⟩;have S3:=Lib.hid (S2.out.next s3 o3);clear AD s3 o3 S2 R2;generalize Fx (fun k=>k=s) W2 w3=F3 at *;go_wp2_with fail;have AK:=sask_any w3 5 0 2 1;unfold AskPost at AK;rw [ask_0.1,ask_0.2] at AK;unfold Ad.addr rec4 at AK;refine AK.mono ?_;rintro e w4 ⟨rfl,b4⟩;have S4:=Lib.hid ((S3.out.below b4).below (below_new w4 (.cells #[.int .u8 5,.int .u8 2,.int .u8 1,.int .u8 92] 25)));have L4:=Lib.hid (Loc.new (S3.out.below b4).st.low #[.int .u8 5,.int .u8 2,.int .u8 1,.int .u8 92] 25);clear AK b4 S3;go_wp2_with fail;generalize (w4.alloc (.cells #[.int .u8 5,.int .u8 2,.int .u8 1,.int .u8 92] 25))=W4 at *;generalize w4.heap.size=g4 at *;have TR:=try_st S4.out.st (S4.out.glob HG.out).1 (S4.out.glob HG.out).2 (by decide) 5 5 1 2 1 (1,2,0,0) (Tm.nil W4) nofun;rw [try_1.1,try_1.2.1,try_1.2.2.1,try_1.2.2.2] at TR;unfold Ad.addr rec4 at TR;refine TR.mono ?_;rintro e w5 ⟨rfl,st,on⟩;have T:=Lib.hid (S4.out.next st on);have S5:=Lib.hid (T.out.below (below_new w5 (.cells #[.int .u8 1,.int .u8 2,.int .u8 0,.int .u8 0] 26)));have L5:=Lib.hid ((L4.out.only on).below (below_new w5 (.cells #[.int .u8 1,.int .u8 2,.int .u8 0,.int .u8 0] 26)));have M5:=Lib.hid (Loc.new T.out.st.low #[.int .u8 1,.int .u8 2,.int .u8 0,.int .u8 0] 26);clear TR st on S4 T L4;generalize Fx F3 W4 w5=F5 at *;go_upto_region 6 with fail;generalize (w5.alloc (.cells #[.int .u8 1,.int .u8 2,.int .u8 0,.int .u8 0] 26))=W5 at *;generalize w5.heap.size=g5 at *;obtain ⟨W6,hr,tm,b6⟩:=one_map W5 4 (by decide) 1;have TM:Hid (Tm W6 (.map (some W5.heap.size)) o4):=Lib.hid tm;have HL6:Hid (∀ b,Value.map (some W5.heap.size) = .map (some b)→¬ F5 b):=Lib.hid fun b e g=>by
  injection e with e;injection e with e;subst e;have:=S5.out.st.low _ g
  omega
 have S6:=Lib.hid (S5.out.below b6);have L6:=Lib.hid (L5.out.below b6);have M6:=Lib.hid (M5.out.below b6);have hr':(Instr.mapUpdate 53 (.map (some W5.heap.size)) (.int .i64 4) (.int .u8 1)).run Tryz.prog (W5.alloc (.map #[] 0)) = .ok () W6:=hr;have hmm:=@run_makeMap Tryz.prog;clear hr tm b6 S5 L5 M5;go_wp2_with fail;clear hr' hmm;have TR:=try_st S6.out.st (S6.out.glob HG.out).1 (S6.out.glob HG.out).2 (by decide) 5 5 1 2 1 (3,0,0,0) TM.out HL6.out;rw [try_2.1,try_2.2.1,try_2.2.2.1,try_2.2.2.2] at TR;unfold Ad.addr rec4 z4 at TR;refine TR.mono ?_;rintro e w7 ⟨rfl,st,on⟩;have T:=Lib.hid (S6.out.next st on);have S7:=Lib.hid (T.out.below (below_new w7 (.cells #[.int .u8 0,.int .u8 0,.int .u8 0,.int .u8 0] 26)));have L7:=Lib.hid ((L6.out.only on).below (below_new w7 (.cells #[.int .u8 0,.int .u8 0,.int .u8 0,.int .u8 0] 26)));have M7:=Lib.hid ((M6.out.only on).below (below_new w7 (.cells #[.int .u8 0,.int .u8 0,.int .u8 0,.int .u8 0] 26)));clear TR st on S6 T L6 M6 TM HL6;generalize Fx F5 W6 w7=F7 at *;go_upto_region 7 with fail;generalize (w7.alloc (.cells #[.int .u8 0,.int .u8 0,.int .u8 0,.int .u8 0] 26))=W7 at *;generalize w7.heap.size=g7 at *;go_wp2_with fail;have TR:=try_st S7.out.st (S7.out.glob HG.out).1 (S7.out.glob HG.out).2 (by decide) 5 6 0 2 1 z4 (Tm.nil W7) nofun;rw [try_3.1,try_3.2.1,try_3.2.2.1,try_3.2.2.2] at TR;unfold Ad.addr rec4 z4 at TR;refine TR.mono ?_;rintro e w8 ⟨rfl,st,on⟩;have T:=Lib.hid (S7.out.next st on);have S8:=Lib.hid (T.out.below (below_new w8 (.cells #[.int .u8 0,.int .u8 0,.int .u8 0,.int .u8 0] 26)));have L8:=Lib.hid ((L7.out.only on).below (below_new w8 (.cells #[.int .u8 0,.int .u8 0,.int .u8 0,.int .u8 0] 26)));have M8:=Lib.hid ((M7.out.only on).below (below_new w8 (.cells #[.int .u8 0,.int .u8 0,.int .u8 0,.int .u8 0] 26)));clear TR st on S7 T L7 M7;generalize Fx F7 W7 w8=F8 at *;go_upto_region 8 with fail;generalize (w8.alloc (.cells #[.int .u8 0,.int .u8 0,.int .u8 0,.int .u8 0] 26))=W8 at *;generalize w8.heap.size=g8 at *;go_wp2_with fail;have GE:=get_st S8.out.st (n:=2) (WalkArith.wf_i64 (by decide)) 1;rw [get_1.1,get_1.2] at GE;unfold GetPost rec4 at GE;refine GE.mono ?_;rintro e w9 ⟨rfl,b9⟩;have S9:=Lib.hid ((S8.out.below b9).below (below_new w9 (.cells #[.int .u8 1,.int .u8 2,.int .u8 0,.int .u8 0] 26)));have L9:=Lib.hid ((L8.out.below b9).below (below_new w9 (.cells #[.int .u8 1,.int .u8 2,.int .u8 0,.int .u8 0] 26)));have M9:=Lib.hid ((M8.out.below b9).below (below_new w9 (.cells #[.int .u8 1,.int .u8 2,.int .u8 0,.int .u8 0] 26)));have N9:=Lib.hid (heap_alloc_new w9 (.cells #[.int .u8 1,.int .u8 2,.int .u8 0,.int .u8 0] 26));clear GE b9 S8 L8 M8;go_upto_region 9 with fail;generalize (w9.alloc (.cells #[.int .u8 1,.int .u8 2,.int .u8 0,.int .u8 0] 26))=W9 at *;generalize w9.heap.size=g9 at *;have x0:W9.cell? ⟨g4,0,none⟩=some (.int .u8 5):=row_cell L9.out.1 0;have x1:W9.cell? ⟨g4,1,none⟩=some (.int .u8 2):=row_cell L9.out.1 1;have x2:W9.cell? ⟨g4,2,none⟩=some (.int .u8 1):=row_cell L9.out.1 2;have x3:W9.cell? ⟨g4,3,none⟩=some (.int .u8 92):=row_cell L9.out.1 3;have y0:W9.cell? ⟨g5,0,none⟩=some (.int .u8 1):=row_cell M9.out.1 0;have y1:W9.cell? ⟨g5,1,none⟩=some (.int .u8 2):=row_cell M9.out.1 1;have y2:W9.cell? ⟨g5,2,none⟩=some (.int .u8 0):=row_cell M9.out.1 2;have y3:W9.cell? ⟨g5,3,none⟩=some (.int .u8 0):=row_cell M9.out.1 3;have z0:W9.cell? ⟨g9,0,none⟩=some (.int .u8 1):=row_cell N9.out 0;have z1:W9.cell? ⟨g9,1,none⟩=some (.int .u8 2):=row_cell N9.out 1;have z2:W9.cell? ⟨g9,2,none⟩=some (.int .u8 0):=row_cell N9.out 2;have z3:W9.cell? ⟨g9,3,none⟩=some (.int .u8 0):=row_cell N9.out 3;have ea:∀ w,(Op.equalIn 10000 25 (.agg #[.int .u8 5,.int .u8 2,.int .u8 1,.int .u8 92]) (.agg #[.int .u8 5,.int .u8 2,.int .u8 1,.int .u8 92])).run Tryz.prog w = .ok true w:=fun w=>by
  have:=eq_a4 (5,2,1,92) (5,2,1,92) w
  simpa using this
 have er:∀ w,(Op.equalIn 10000 26 (.agg #[.int .u8 1,.int .u8 2,.int .u8 0,.int .u8 0]) (.agg #[.int .u8 1,.int .u8 2,.int .u8 0,.int .u8 0])).run Tryz.prog w = .ok true w:=fun w=>by
  have:=eq_rec (1,2,0,0) (1,2,0,0) w
  simpa using this
 have BB:=Lib.hid S9.out.bel;clear S9 L9 M9 N9;go_wp2
 go_ret
 exact ⟨rfl,by have:=BB.out;rw [hs] at this ⊢;exact this⟩
end Go.Proofs.YtelgnhmcnfibnaaGreatDoor.Sv
namespace Go.Proofs.YtelgnhmcnfibnaaGreatDoor.Pa
open Go.RowKit Go.Maps
open Fs (Abs St Rs Rst Only Fx Lst E3 infoE3 rd_low wp_all Ent OkA)
open Rw (Rd Ow At Kind)
open Fl (row_cell row_frozen)
attribute [local irreducible] Sd.wpSd wpQuiet
end Go.Proofs.YtelgnhmcnfibnaaGreatDoor.Pa
namespace Go.Proofs.YtelgnhmcnfibnaaGreatDoor.Pa
open Go.RowKit Go.Maps
open Fs (Abs St Rs Rst Only Fx Lst E3 infoE3 rd_low Ent OkA radd_any RAPost at3)
open Rw (Rd Ow At Kind)
open Fl (row_cell row_frozen K4 R4 okL goodF goodFB rgood_any file)
attribute [local irreducible] Sd.wpSd wpQuiet
def entD:Ent:=⟨0,0,none,0,[]⟩
def eatF (L:List Ent) (i:Nat):Ent:=L.getD i entD
structure Fls (w:World) (v:Value) (L:List Ent) (B:Nat):Prop where
 rd:Rd E3 w v L
 file:∀ i,i < L.length→Rd K4 w (eatF L i).sl (eatF L i).l∧okL (eatF L i).l
 low:∀ i,i < L.length→0 < (eatF L i).l.length→∀ k,(eatF L i).sl.ownBlock=some k→k < B
theorem Fls.below {w w':World} {v:Value} {L:List Ent} {B:Nat} (h:Fls w v L B) (b:Below w.heap.size w w'):Fls w' v L B:=⟨h.rd.below b,fun i hi=>⟨(h.file i hi).1.below b,(h.file i hi).2⟩,h.low⟩
structure RSI (w:World) (r:Nat) (F:Nat→Prop) (A:Abs) (wr:World):Prop where
 rs:Rs wr r F A 0
 bel:Below w.heap.size w wr
theorem RSI.below {w wr wr':World} {r:Nat} {F:Nat→Prop} {A:Abs} (h:RSI w r F A wr) (b:Below wr.heap.size wr wr'):RSI w r F A wr':=⟨Fs.Rs.below h.rs b,h.bel.trans (b.mono h.bel.size)⟩
theorem RSI.step {w wr wr':World} {r:Nat} {F:Nat→Prop} {A A':Abs} (h:RSI w r F A wr) (hr:w.heap.size≤r) (rs:Rs wr' r F A' 0) (o:Only (fun k=>k=r) wr wr'):RSI w r F A' wr':=⟨rs,h.bel.trans (o.below h.bel.size fun k e=>by subst e;exact hr)⟩
theorem rsi_new (w:World) (F:Nat→Prop) (hF:∀ k,F k→k < w.heap.size):RSI w w.heap.size F [] (w.alloc (.cells #[.slice none 0 0,.int .i64 0] 49)) :=
 ⟨⟨_,[],⟨heap_alloc_new w _,fun g=>by have:=hF _ g;omega,⟨Rw.Rd.nil _,(fun h=>by simp at h),(fun c hc=>by cases hc),(fun c hc=>by cases hc)⟩,OkA.nil⟩,rfl⟩,(Below.refl w.heap.size w).alloc (Nat.le_refl _) _⟩
structure RsC (b o:Nat) (cn:Int) (g:Nat) (p:Int) (u:Value) (W:World):Prop where
 n:W.cell? ⟨b,o,none⟩=some (.int .i64 cn)
 box:W.heap[g]? = some (.cells #[.int .i64 p,u] 71 (0,0))
def stA (l:List Ent):Abs:=l.foldl (fun A c=>Fs.addA A c.n c.p c.l) []
def stL (L:List Ent):Abs:=stA (L.take 8)
theorem stA_next {L:List Ent} {k:Nat} (h:k < L.length):stA (L.take (k+1))=Fs.addA (stA (L.take k)) (eatF L k).n (eatF L k).p (eatF L k).l:=by
 unfold stA eatF;rw [List.take_add_one,List.getElem?_eq_getElem h,List.foldl_append]
 simp [List.getD,h]
theorem add_bad {A:Abs} {n p:Int} {l:List R4} (h:goodFB p l=false):Fs.addA A n p l=A:=by
 have hg:¬ goodF p l:=fun g=>by
  have:=decide_eq_true g;unfold goodFB at h;rw [this] at h
  cases h
 unfold Fs.addA Fs.addE
 by_cases hn:0≤n∧n≤63
 ·rw [if_pos hn,if_neg hg,if_neg (by decide)]
 ·rw [if_neg hn,if_neg (by decide)]
def RstIs (w:World) (F:Nat→Prop) (A:Abs) (e:Ending) (w':World):Prop:=e = .returned (ptr w.heap.size)∧Rs w' w.heap.size F A 0∧Below w.heap.size w w'
set_option maxHeartbeats 1000000 in
theorem rstore_is {w:World} {v:Value} {L:List Ent} {B:Nat} (H:Fls w v L B) (hB:B≤w.heap.size):Calls Tryz.prog 26 #[v] w (RstIs w (fun k=>B≤k∧k < w.heap.size) (stL L)):=by
 have I0:=Lib.hid (rsi_new w (fun k=>B≤k∧k < w.heap.size) (fun k h=>h.2));have HH:=Lib.hid H;obtain ⟨a,cap,rfl,_,hm,hA⟩:=H.rd;have HA:=Lib.hid hA;unfold maxLen at hm;clear hA H;have SN:=Lib.hid (fun k=>stA_next (L:=L) (k:=k));have SE:Hid (∀ k,k=L.length∨k=8→k≤L.length→k≤8→stA (L.take k)=stL L):=Lib.hid fun k h h1 h2=>by
  unfold stL
  rcases h with h | h
  ·rw [List.take_of_length_le (by omega),List.take_of_length_le (by omega)]
  ·rw [h]
 generalize hn:L.length=n at *;have HN:=Lib.hid hn;clear hn
 go_enter Tryz.func26,Tryz.ntmps26
 go_wp2;generalize (w.alloc (.cells #[.slice none 0 0,.int .i64 0] 49))=W0 at *
 go_loopw [4] (fun i wr=>∃ k:Nat,k≤n∧k≤8∧i = .int .i64 k∧Hid (RSI w w.heap.size (fun k=>B≤k∧k < w.heap.size) (stA (L.take k)) wr)) (fun i _=>n - (intOf i).toNat)
 case atStart=>exact ⟨0,Nat.zero_le _,Nat.zero_le _,rfl,I0⟩
 case round =>
  obtain ⟨k,hk,hk8,rfl,I⟩:=hrel;clear I0;have hrl:w.heap.size < wr.heap.size:=by obtain ⟨_,_,h,_⟩:=I.out.rs;exact lt_of_block h.row
  have FIN:Hid (k=n∨k=8→RstIs w (fun k=>B≤k∧k < w.heap.size) (stL L) (.returned (ptr w.heap.size)) wr):=Lib.hid fun h=>⟨rfl,by rw [← SE.out k h hk hk8];exact I.out.rs,I.out.bel⟩;have NX:=Lib.hid (SN.out k);generalize hAk:stA (L.take k)=A at *;clear hAk
  by_cases hlt:k < n
  ·by_cases h8:k < 8
   ·obtain ⟨b,off,rfl,A1⟩:=HA.out (by omega)
    obtain ⟨c0,c1,c2⟩:=at3 (A1.below I.out.bel) (i:=k) (c:=eatF L k) (by rw [List.getElem?_eq_getElem (by have:=HN.out;omega)];unfold eatF;rw [List.getD_eq_getElem?_getD,List.getElem?_eq_getElem (by have:=HN.out;omega)];rfl);have L0:=Lib.hid (at3 A1 (i:=k) (c:=eatF L k) (by rw [List.getElem?_eq_getElem (by have:=HN.out;omega)];unfold eatF;rw [List.getD_eq_getElem?_getD,List.getElem?_eq_getElem (by have:=HN.out;omega)];rfl)).1;obtain ⟨rd,okl⟩:=HH.out.file k (by have:=HN.out;omega);have LOW:=Lib.hid (HH.out.low k (by have:=HN.out;omega));have RD:=Lib.hid rd;have OKL:=Lib.hid okl;have NY:=Lib.hid (NX.out hlt);clear A1 rd okl FIN NX SN SE;generalize eatF L k=c at *;obtain ⟨cn,cp,ca,cc,cl⟩:=c;unfold Ent.sl at c2 RD LOW;simp only at c0 c1 c2 RD LOW OKL NY;generalize hcl:cl.length=q at *;have I1:=Lib.hid (I.out.below ((Below.refl wr.heap.size wr).alloc (Nat.le_refl _) (.cells #[.int .i64 cp,.slice ca q cc] 71)));have GD:=Lib.hid (rgood_any (wr.alloc (.cells #[.int .i64 cp,.slice ca q cc] 71)) cp (.slice ca q cc) cl (RD.out.below I1.out.bel));unfold file at GD;clear I
    cases hg:goodFB cp cl with
    | false =>
      rw [hg] at GD;have NZ:=Lib.hid (NY.out.trans (add_bad hg));go_wp2_with fail;refine GD.out.mono ?_;rintro e w2 ⟨rfl,b2⟩;have I2:=Lib.hid (I1.out.below b2);clear b2 GD I1;go_wp2
      go_roundw
      case rel=>exact ⟨k+1,by omega,by omega,by go_num,Lib.hid (by rw [NZ.out];exact I2.out)⟩
      case measure=>simp [intOf];omega
    | true =>
      rw [hg] at GD;have FB:Hid ((wr.alloc (.cells #[.int .i64 cp,.slice ca q cc] 71)).heap[wr.heap.size]? = some (.cells #[.int .i64 cp,.slice ca q cc] 71 (0,0))):=Lib.hid (heap_alloc_new wr _);have lc:b < w.heap.size:=World.block_lt_of_cell? _ _ L0.out;have C00:=Lib.hid c0;go_wp2_with fail;generalize (wr.alloc (.cells #[.int .i64 cp,.slice ca q cc] 71))=W2 at *;refine GD.out.mono ?_;rintro e w2 ⟨rfl,b2⟩;have I2:=Lib.hid (I1.out.below b2);have F2:=Lib.hid ((b2.block _ (lt_of_block FB.out)).trans FB.out);clear b2 GD I1 FB;go_upto_region 7 with fail;have N2:=Lib.hid ((I2.out.bel.cell lc).trans L0.out);have C0:RsC b (off+k * 3) cn wr.heap.size cp (.slice ca q cc) w2.drew:=⟨N2.out,F2.out⟩;have x0:=Sc.cell_in (C:=RsC b (off+k * 3) cn wr.heap.size cp (.slice ca q cc)) (a:=⟨b,off+k * 3,none⟩) (fun W' h=>h.n);have x1:=Sc.cell_in (C:=RsC b (off+k * 3) cn wr.heap.size cp (.slice ca q cc)) (a:=⟨wr.heap.size,0,none⟩) (fun W' h=>row_cell h.box 0);have x2:=Sc.cell_in (C:=RsC b (off+k * 3) cn wr.heap.size cp (.slice ca q cc)) (a:=⟨wr.heap.size,1,none⟩) (fun W' h=>row_cell h.box 1);have ne:Nonempty (Sc.In (RsC b (off+k * 3) cn wr.heap.size cp (.slice ca q cc))):=⟨⟨_,C0⟩⟩;have I3:Hid (RSI w w.heap.size (fun k=>B≤k∧k < w.heap.size) A w2.drew):=Lib.hid (I2.out.below ((Below.refl _ _).drew));have RD3:=Lib.hid (RD.out.below I3.out.bel)
      have RA:=Lib.hid (radd_any I3.out.rs (fun k h=>by have:=I3.out.bel.size;omega) cn cp (.slice ca q cc) cl RD3.out (fun h0 j hj hh=>by
       have:=LOW.out (by omega) j hj
       rcases hh with hh | hh
       ·omega
       ·omega) OKL.out)
      unfold file RAPost at RA;refine Sc.start (RsC b (off+k * 3) cn wr.heap.size cp (.slice ca q cc)) [(false,0),(false,1),(false,2),(false,3),(false,4),(false,5),(false,6),(true,7)] (by kernel_rfl) (by kernel_rfl) (by kernel_rfl) C0 ?_;dsimp only [Sd.picks,List.getElem?_cons_succ,List.getElem?_cons_zero]
      repeat (refine Sd.lit ?_;quiet_step (fail);refine wpQuiet_nil ?_)
      clear x0 x1 x2;generalize w2.drew=Wd at *;refine Sd.call (by rfl) (fun K hK=>?_);go_simp;refine RA.out.mono ?_;rintro e w5 ⟨rfl,rs5,o5⟩;have hgr:wr.heap.size≠w.heap.size:=by omega
      refine hK _ _ (Sc.Cl.of ⟨o5.cell C0.n (by show ¬ b=w.heap.size;omega),(o5.block _ (lt_of_block C0.box) hgr).trans C0.box⟩) ?_;have I5:=Lib.hid (I3.out.step (Nat.le_refl _) rs5 o5);clear hK K rs5 o5 RA C0 I2 I3;refine Sd.done ?_;go_wp2
      go_roundw
      case rel=>exact ⟨k+1,by omega,by omega,by go_num,Lib.hid (by rw [NY.out];exact I5.out)⟩
      case measure=>simp [intOf];omega
   ·have E:=Lib.hid (FIN.out (.inr (by omega)))
    clear FIN;go_wp2
    go_ret
    exact E.out
  ·have E:=Lib.hid (FIN.out (.inl (by omega)))
   clear FIN;go_wp2
   go_ret
   exact E.out
end Go.Proofs.YtelgnhmcnfibnaaGreatDoor.Pa
namespace Go.Proofs.YtelgnhmcnfibnaaGreatDoor.Ck
open Go.RowKit
open Ro (E5 z5 eat ent K5)
open Rw (Rd Ow At)
open Fl (ret_bool at_bool row_cell row_frozen)
attribute [local irreducible] Sd.wpSd wpQuiet
def sto5 (w:World) (g:Nat) (x:E5):World:=((((w.setCell ⟨g,0,none⟩ (.int .i64 x.1)).setCell ⟨g,1,none⟩ (.int .i64 x.2.1)).setCell ⟨g,2,none⟩ (.int .i64 x.2.2.1)).setCell ⟨g,3,none⟩ (.int .i64 x.2.2.2.1)).setCell ⟨g,4,none⟩ (.int .i64 x.2.2.2.2)
end Go.Proofs.YtelgnhmcnfibnaaGreatDoor.Ck
namespace Go.Proofs.YtelgnhmcnfibnaaGreatDoor.Ro
open Go.RowKit
open Rw (Rd Ow At)
open Fl (R4 z4 rec4 K4 okR hdr rat goodF ret_bool at_bool)
attribute [local irreducible] wpQuiet
def sto5 (w:World) (g:Nat) (x:E5):World:=((((w.setCell ⟨g,0,none⟩ (.int .i64 x.1)).setCell ⟨g,1,none⟩ (.int .i64 x.2.1)).setCell ⟨g,2,none⟩ (.int .i64 x.2.2.1)).setCell ⟨g,3,none⟩ (.int .i64 x.2.2.2.1)).setCell ⟨g,4,none⟩ (.int .i64 x.2.2.2.2)
end Go.Proofs.YtelgnhmcnfibnaaGreatDoor.Ro
namespace Go.Proofs.YtelgnhmcnfibnaaGreatDoor.Ro
open Go.RowKit
open Rw (Rd Ow At)
open Fl (R4 z4 rec4 K4 okR hdr rat goodF ret_bool at_bool)
end Go.Proofs.YtelgnhmcnfibnaaGreatDoor.Ro
namespace Go.Proofs.YtelgnhmcnfibnaaGreatDoor.Ro
open Go.RowKit
open Rw (Rd Ow At)
open Fl (R4 z4 rec4 K4 okR hdr rat goodF ret_bool at_bool)
attribute [local irreducible] wpQuiet
end Go.Proofs.YtelgnhmcnfibnaaGreatDoor.Ro
namespace Go.Proofs.YtelgnhmcnfibnaaGreatDoor.Ro
open Go.RowKit
open Rw (Rd Ow At)
open Fl (R4 z4 rec4 K4 okR hdr rat goodF ret_bool at_bool)
end Go.Proofs.YtelgnhmcnfibnaaGreatDoor.Ro
