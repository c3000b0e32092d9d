import Derived.Test.YtelgnhmcnfibnaaDoorMg6
import Derived.Deep.Cut
import Derived.Test.YtelgnhmcnfibnaaDoorMg1
import Derived.Test.YtelgnhmcnfibnaaDoorMg4
import Derived.Shelf.Abstract
import Derived.Great.BuildSlice
import Derived.Test.YtelgnhmcnfibnaaDoorMg5
import Derived.Test.YtelgnhmcnfibnaaDoorRows
import Derived.LaidHandle
import Derived.LaidLaws
import Derived.LaidMore
import Derived.Stop.Joined
import Derived.ProofKit
import Derived.OpenShut
import Derived.ChangeOld
import Derived.Deep.Slices
import Derived.WideShapes
import Derived.Test.YtelgnhmcnfibnaaDoorMg2
import Derived.Deep.SlicePairs
import Derived.Test.YtelgnhmcnfibnaaDoorMg3
set_option maxRecDepth 100000
namespace Go.Proofs.YtelgnhmcnfibnaaDoor.Pa
open Go.RowKit Go.Maps
open Fs (Abs St Rs Rst Only Fx Lst)
open Rw (Rd Ow At Kind)
def SAp (w:World) (s:Nat) (x:Abs×Int) (q:Option Nat):Prop:=∃ F,St w s F x.1 x.2∧∀ k,F k→q≠some k
structure Good (Ap:World→Nat→Abs×Int→Option Nat→Prop):Prop where
 below:∀ {w w' s x q},Ap w s x q→Below w.heap.size w w'→Ap w' s x q
 grow:∀ {w w' s x q q'},Ap w s x q→w.grownBy w' q→(q'=q∨∃ g,q'=some g∧w.heap.size≤g)→(∀ g,q'=some g→g < w'.heap.size)→Ap w' s x q'
theorem rs_mono {w:World} {r:Nat} {F G:Nat→Prop} {A:Abs} {d:Int} (h:Rs w r F A d) (hg:∀ k,k < w.heap.size→G k→F k):Rs w r G A d:=by
 obtain ⟨v,L,h,e⟩:=h;refine ⟨v,L,⟨h.row,fun g=>h.off (hg r (lt_of_block h.row) g),h.list.mono fun k hk g=>?_,h.ok⟩,e⟩
 rcases g with g | g
 ·exact .inl (hg k hk g)
 ·exact .inr g
theorem SAp.has {w:World} {s:Nat} {x:Abs×Int} {q:Option Nat} (h:SAp w s x q):Has w s x:=by obtain ⟨F,h,_⟩:=h;exact ⟨F,h⟩
section
variable {Ap:World→Nat→Abs×Int→Option Nat→Prop} {E:TypeId} {w wr w1 w2:World} {S:Sts} {k:Nat} {o o':Value} {ps:List Nat} {g:Nat}
structure PI (Ap:World→Nat→Abs×Int→Option Nat→Prop) (E:TypeId) (w:World) (S:Sts) (k:Nat) (o:Value) (ps:List Nat) (wr:World):Prop where
 own:Ow KN wr w.heap.size E o ps
 len:ps.length=k
 each:∀ i,i < k→Ap wr (ps.getD i 0) (sat S i) o.ownBlock
 bel:Below w.heap.size w wr
theorem PI.start (w:World) (hb:Below w.heap.size w wr):PI Ap E w S 0 (.slice none 0 0) [] wr:=⟨Rw.Ow.nil _ _ _,rfl,fun i hi=>by omega,hb⟩
theorem PI.made (hb:Below w.heap.size w wr):PI Ap E w S 0 (.slice (some ⟨wr.heap.size,0,none⟩) 0 0) [] (wr.alloc (.cells #[] E)):=⟨Rw.Ow.made _ _ _ hb.size,rfl,fun i hi=>by omega,hb.alloc hb.size _⟩
theorem PI.below (G:Good Ap) (h:PI Ap E w S k o ps wr) (b:Below wr.heap.size wr w1):PI Ap E w S k o ps w1:=⟨h.own.keep b,h.len,fun i hi=>G.below (h.each i hi) b,h.bel.trans (b.mono h.bel.size)⟩
theorem PI.lt (h:PI Ap E w S k o ps wr):∀ k,o.ownBlock=some k→k < wr.heap.size:=fun k e=>(World.ownsRow.lt h.own k e).2
theorem PI.push (G:Good Ap) (h:PI Ap E w S k o ps wr) (own:Ow KN w1 w.heap.size E o' (ps ++ [g])) (gr:wr.grownBy w1 o.ownBlock) (hq:o'.ownBlock=o.ownBlock∨∃ g,o'.ownBlock=some g∧wr.heap.size≤g) (hg:Ap wr g (sat S k) o.ownBlock):PI Ap E w S (k+1) o' (ps ++ [g]) w1:=by
 have hl:∀ j,o'.ownBlock=some j→j < w1.heap.size:=fun j e=>(World.ownsRow.lt own j e).2;refine ⟨own,by rw [List.length_append,h.len];rfl,fun i hi=>?_,h.bel.grown gr h.bel.size fun j e=>(World.ownsRow.lt h.own j e).1⟩
 by_cases e:i=k
 ·subst e
  have:(ps ++ [g]).getD i 0=g:=by rw [List.getD_eq_getElem?_getD,List.getElem?_append_right (by rw [h.len];exact Nat.le_refl _),h.len];simp
  rw [this];exact G.grow hg gr hq hl
 ·have:(ps ++ [g]).getD i 0=ps.getD i 0:=by rw [List.getD_eq_getElem?_getD,List.getElem?_append_left (by rw [h.len];omega),List.getD_eq_getElem?_getD]
  rw [this];exact G.grow (h.each i (by omega)) gr hq hl
theorem PI.congr {S':Sts} (h:PI Ap E w S k o ps wr) (e:∀ i,i < k→sat S i=sat S' i):PI Ap E w S' k o ps wr:=⟨h.own,h.len,fun i hi=>by rw [← e i hi];exact h.each i hi,h.bel⟩
end
end Go.Proofs.YtelgnhmcnfibnaaDoor.Pa
namespace Go.Proofs.YtelgnhmcnfibnaaDoor.Pa
open Go.RowKit Go.Maps
open Fs (Abs St Rs Rst Only Fx Lst E3 infoE3 rd_low wp_all Ent OkA)
open Rw (Rd Ow At Kind)
open Fl (row_cell row_frozen)
attribute [local irreducible] Sd.wpSd wpQuiet
end Go.Proofs.YtelgnhmcnfibnaaDoor.Pa
namespace Go.Proofs.YtelgnhmcnfibnaaDoor.Pa
open Go.RowKit Go.Maps
open Fs (Abs St Rs Rst Only Fx Lst E3 infoE3 rd_low Ent OkA radd_any RAPost at3)
open Rw (Rd Ow At Kind)
open Fl (row_cell row_frozen K4 R4 okL goodF goodFB rgood_any file)
attribute [local irreducible] Sd.wpSd wpQuiet
def entD:Ent:=⟨0,0,none,0,[]⟩
def eatF (L:List Ent) (i:Nat):Ent:=L.getD i entD
structure Fls (w:World) (v:Value) (L:List Ent) (B:Nat):Prop where
 rd:Rd E3 w v L
 file:∀ i,i < L.length→Rd K4 w (eatF L i).sl (eatF L i).l∧okL (eatF L i).l
 low:∀ i,i < L.length→0 < (eatF L i).l.length→∀ k,(eatF L i).sl.ownBlock=some k→k < B
theorem Fls.below {w w':World} {v:Value} {L:List Ent} {B:Nat} (h:Fls w v L B) (b:Below w.heap.size w w'):Fls w' v L B:=⟨h.rd.below b,fun i hi=>⟨(h.file i hi).1.below b,(h.file i hi).2⟩,h.low⟩
structure RSI (w:World) (r:Nat) (F:Nat→Prop) (A:Abs) (wr:World):Prop where
 rs:Rs wr r F A 0
 bel:Below w.heap.size w wr
theorem RSI.below {w wr wr':World} {r:Nat} {F:Nat→Prop} {A:Abs} (h:RSI w r F A wr) (b:Below wr.heap.size wr wr'):RSI w r F A wr':=⟨Fs.Rs.below h.rs b,h.bel.trans (b.mono h.bel.size)⟩
theorem RSI.step {w wr wr':World} {r:Nat} {F:Nat→Prop} {A A':Abs} (h:RSI w r F A wr) (hr:w.heap.size≤r) (rs:Rs wr' r F A' 0) (o:Only (fun k=>k=r) wr wr'):RSI w r F A' wr':=⟨rs,h.bel.trans (o.below h.bel.size fun k e=>by subst e;exact hr)⟩
theorem rsi_new (w:World) (F:Nat→Prop) (hF:∀ k,F k→k < w.heap.size):RSI w w.heap.size F [] (w.alloc (.cells #[.slice none 0 0,.int .i64 0] 42)) :=
 ⟨⟨_,[],⟨heap_alloc_new w _,fun g=>by have:=hF _ g;omega,⟨Rw.Rd.nil _,(fun h=>by simp at h),(fun c hc=>by cases hc),(fun c hc=>by cases hc)⟩,OkA.nil⟩,rfl⟩,(Below.refl w.heap.size w).alloc (Nat.le_refl _) _⟩
structure RsC (b o:Nat) (cn:Int) (g:Nat) (p:Int) (u:Value) (W:World):Prop where
 n:W.cell? ⟨b,o,none⟩=some (.int .i64 cn)
 box:W.heap[g]? = some (.cells #[.int .i64 p,u] 46 (0,0))
def stA (l:List Ent):Abs:=l.foldl (fun A c=>Fs.addA A c.n c.p c.l) []
def stL (L:List Ent):Abs:=stA (L.take 8)
theorem stA_next {L:List Ent} {k:Nat} (h:k < L.length):stA (L.take (k+1))=Fs.addA (stA (L.take k)) (eatF L k).n (eatF L k).p (eatF L k).l:=by
 unfold stA eatF;rw [List.take_add_one,List.getElem?_eq_getElem h,List.foldl_append]
 simp [List.getD,h]
theorem add_bad {A:Abs} {n p:Int} {l:List R4} (h:goodFB p l=false):Fs.addA A n p l=A:=by
 have hg:¬ goodF p l:=fun g=>by
  have:=decide_eq_true g;unfold goodFB at h;rw [this] at h
  cases h
 unfold Fs.addA Fs.addE
 by_cases hn:0≤n∧n≤63
 ·rw [if_pos hn,if_neg hg,if_neg (by decide)]
 ·rw [if_neg hn,if_neg (by decide)]
def RstIs (w:World) (F:Nat→Prop) (A:Abs) (e:Ending) (w':World):Prop:=e = .returned (ptr w.heap.size)∧Rs w' w.heap.size F A 0∧Below w.heap.size w w'
set_option maxHeartbeats 1000000 in
theorem rstore_is {w:World} {v:Value} {L:List Ent} {B:Nat} (H:Fls w v L B) (hB:B≤w.heap.size):Calls Tryd.prog 10 #[v] w (RstIs w (fun k=>B≤k∧k < w.heap.size) (stL L)):=by
 have I0:=Lib.hid (rsi_new w (fun k=>B≤k∧k < w.heap.size) (fun k h=>h.2));have HH:=Lib.hid H;obtain ⟨a,cap,rfl,_,hm,hA⟩:=H.rd;have HA:=Lib.hid hA;unfold maxLen at hm;clear hA H;have SN:=Lib.hid (fun k=>stA_next (L:=L) (k:=k));have SE:Hid (∀ k,k=L.length∨k=8→k≤L.length→k≤8→stA (L.take k)=stL L):=Lib.hid fun k h h1 h2=>by
  unfold stL
  rcases h with h | h
  ·rw [List.take_of_length_le (by omega),List.take_of_length_le (by omega)]
  ·rw [h]
 generalize hn:L.length=n at *;have HN:=Lib.hid hn;clear hn
 go_enter Tryd.func10,Tryd.ntmps10
 go_wp2;generalize (w.alloc (.cells #[.slice none 0 0,.int .i64 0] 42))=W0 at *
 go_loopw [4] (fun i wr=>∃ k:Nat,k≤n∧k≤8∧i = .int .i64 k∧Hid (RSI w w.heap.size (fun k=>B≤k∧k < w.heap.size) (stA (L.take k)) wr)) (fun i _=>n - (intOf i).toNat)
 case atStart=>exact ⟨0,Nat.zero_le _,Nat.zero_le _,rfl,I0⟩
 case round =>
  obtain ⟨k,hk,hk8,rfl,I⟩:=hrel;clear I0;have hrl:w.heap.size < wr.heap.size:=by obtain ⟨_,_,h,_⟩:=I.out.rs;exact lt_of_block h.row
  have FIN:Hid (k=n∨k=8→RstIs w (fun k=>B≤k∧k < w.heap.size) (stL L) (.returned (ptr w.heap.size)) wr):=Lib.hid fun h=>⟨rfl,by rw [← SE.out k h hk hk8];exact I.out.rs,I.out.bel⟩;have NX:=Lib.hid (SN.out k);generalize hAk:stA (L.take k)=A at *;clear hAk
  by_cases hlt:k < n
  ·by_cases h8:k < 8
   ·obtain ⟨b,off,rfl,A1⟩:=HA.out (by omega)
    obtain ⟨c0,c1,c2⟩:=at3 (A1.below I.out.bel) (i:=k) (c:=eatF L k) (by rw [List.getElem?_eq_getElem (by have:=HN.out;omega)];unfold eatF;rw [List.getD_eq_getElem?_getD,List.getElem?_eq_getElem (by have:=HN.out;omega)];rfl);have L0:=Lib.hid (at3 A1 (i:=k) (c:=eatF L k) (by rw [List.getElem?_eq_getElem (by have:=HN.out;omega)];unfold eatF;rw [List.getD_eq_getElem?_getD,List.getElem?_eq_getElem (by have:=HN.out;omega)];rfl)).1;obtain ⟨rd,okl⟩:=HH.out.file k (by have:=HN.out;omega);have LOW:=Lib.hid (HH.out.low k (by have:=HN.out;omega));have RD:=Lib.hid rd;have OKL:=Lib.hid okl;have NY:=Lib.hid (NX.out hlt);clear A1 rd okl FIN NX SN SE;generalize eatF L k=c at *;obtain ⟨cn,cp,ca,cc,cl⟩:=c;unfold Ent.sl at c2 RD LOW;simp only at c0 c1 c2 RD LOW OKL NY;generalize hcl:cl.length=q at *;have I1:=Lib.hid (I.out.below ((Below.refl wr.heap.size wr).alloc (Nat.le_refl _) (.cells #[.int .i64 cp,.slice ca q cc] 46)));have GD:=Lib.hid (rgood_any (wr.alloc (.cells #[.int .i64 cp,.slice ca q cc] 46)) cp (.slice ca q cc) cl (RD.out.below I1.out.bel));unfold file at GD;clear I
    cases hg:goodFB cp cl with
    | false =>
      rw [hg] at GD;have NZ:=Lib.hid (NY.out.trans (add_bad hg));go_wp2_with fail;refine GD.out.mono ?_;rintro e w2 ⟨rfl,b2⟩;have I2:=Lib.hid (I1.out.below b2);clear b2 GD I1;go_wp2
      go_roundw
      case rel=>exact ⟨k+1,by omega,by omega,by go_num,Lib.hid (by rw [NZ.out];exact I2.out)⟩
      case measure=>simp [intOf];omega
    | true =>
      rw [hg] at GD;have FB:Hid ((wr.alloc (.cells #[.int .i64 cp,.slice ca q cc] 46)).heap[wr.heap.size]? = some (.cells #[.int .i64 cp,.slice ca q cc] 46 (0,0))):=Lib.hid (heap_alloc_new wr _);have lc:b < w.heap.size:=World.block_lt_of_cell? _ _ L0.out;have C00:=Lib.hid c0;go_wp2_with fail;generalize (wr.alloc (.cells #[.int .i64 cp,.slice ca q cc] 46))=W2 at *;refine GD.out.mono ?_;rintro e w2 ⟨rfl,b2⟩;have I2:=Lib.hid (I1.out.below b2);have F2:=Lib.hid ((b2.block _ (lt_of_block FB.out)).trans FB.out);clear b2 GD I1 FB;go_upto_region 7 with fail;have N2:=Lib.hid ((I2.out.bel.cell lc).trans L0.out);have C0:RsC b (off+k * 3) cn wr.heap.size cp (.slice ca q cc) w2.drew:=⟨N2.out,F2.out⟩;have x0:=Sc.cell_in (C:=RsC b (off+k * 3) cn wr.heap.size cp (.slice ca q cc)) (a:=⟨b,off+k * 3,none⟩) (fun W' h=>h.n);have x1:=Sc.cell_in (C:=RsC b (off+k * 3) cn wr.heap.size cp (.slice ca q cc)) (a:=⟨wr.heap.size,0,none⟩) (fun W' h=>row_cell h.box 0);have x2:=Sc.cell_in (C:=RsC b (off+k * 3) cn wr.heap.size cp (.slice ca q cc)) (a:=⟨wr.heap.size,1,none⟩) (fun W' h=>row_cell h.box 1);have ne:Nonempty (Sc.In (RsC b (off+k * 3) cn wr.heap.size cp (.slice ca q cc))):=⟨⟨_,C0⟩⟩;have I3:Hid (RSI w w.heap.size (fun k=>B≤k∧k < w.heap.size) A w2.drew):=Lib.hid (I2.out.below ((Below.refl _ _).drew));have RD3:=Lib.hid (RD.out.below I3.out.bel)
      have RA:=Lib.hid (radd_any I3.out.rs (fun k h=>by have:=I3.out.bel.size;omega) cn cp (.slice ca q cc) cl RD3.out (fun h0 j hj hh=>by
       have:=LOW.out (by omega) j hj
       rcases hh with hh | hh
       ·omega
       ·omega) OKL.out)
      unfold file RAPost at RA;refine Sc.start (RsC b (off+k * 3) cn wr.heap.size cp (.slice ca q cc)) [(false,0),(false,1),(false,2),(false,3),(false,4),(false,5),(false,6),(true,7)] (by kernel_rfl) (by kernel_rfl) (by kernel_rfl) C0 ?_;dsimp only [Sd.picks,List.getElem?_cons_succ,List.getElem?_cons_zero]
      repeat (refine Sd.lit ?_;quiet_step (fail);refine wpQuiet_nil ?_)
      clear x0 x1 x2;generalize w2.drew=Wd at *;refine Sd.call (by rfl) (fun K hK=>?_);go_simp;refine RA.out.mono ?_;rintro e w5 ⟨rfl,rs5,o5⟩;have hgr:wr.heap.size≠w.heap.size:=by omega
      refine hK _ _ (Sc.Cl.of ⟨o5.cell C0.n (by show ¬ b=w.heap.size;omega),(o5.block _ (lt_of_block C0.box) hgr).trans C0.box⟩) ?_;have I5:=Lib.hid (I3.out.step (Nat.le_refl _) rs5 o5);clear hK K rs5 o5 RA C0 I2 I3;refine Sd.done ?_;go_wp2
      go_roundw
      case rel=>exact ⟨k+1,by omega,by omega,by go_num,Lib.hid (by rw [NY.out];exact I5.out)⟩
      case measure=>simp [intOf];omega
   ·have E:=Lib.hid (FIN.out (.inr (by omega)))
    clear FIN;go_wp2
    go_ret
    exact E.out
  ·have E:=Lib.hid (FIN.out (.inl (by omega)))
   clear FIN;go_wp2
   go_ret
   exact E.out
end Go.Proofs.YtelgnhmcnfibnaaDoor.Pa
namespace Go.Proofs.YtelgnhmcnfibnaaDoor.Ck
open Go.RowKit
open Ro (E5 z5 eat ent K5)
open Rw (Rd Ow At)
open Fl (ret_bool at_bool row_cell row_frozen)
attribute [local irreducible] Sd.wpSd wpQuiet
def sto5 (w:World) (g:Nat) (x:E5):World:=((((w.setCell ⟨g,0,none⟩ (.int .i64 x.1)).setCell ⟨g,1,none⟩ (.int .i64 x.2.1)).setCell ⟨g,2,none⟩ (.int .i64 x.2.2.1)).setCell ⟨g,3,none⟩ (.int .i64 x.2.2.2.1)).setCell ⟨g,4,none⟩ (.int .i64 x.2.2.2.2)
end Go.Proofs.YtelgnhmcnfibnaaDoor.Ck
namespace Go.Proofs.YtelgnhmcnfibnaaDoor.Ro
open Go.RowKit
open Rw (Rd Ow At)
open Fl (R4 z4 rec4 K4 okR hdr rat goodF ret_bool at_bool)
attribute [local irreducible] wpQuiet
def sto5 (w:World) (g:Nat) (x:E5):World:=((((w.setCell ⟨g,0,none⟩ (.int .i64 x.1)).setCell ⟨g,1,none⟩ (.int .i64 x.2.1)).setCell ⟨g,2,none⟩ (.int .i64 x.2.2.1)).setCell ⟨g,3,none⟩ (.int .i64 x.2.2.2.1)).setCell ⟨g,4,none⟩ (.int .i64 x.2.2.2.2)
end Go.Proofs.YtelgnhmcnfibnaaDoor.Ro
namespace Go.Proofs.YtelgnhmcnfibnaaDoor.Ro
open Go.RowKit
open Rw (Rd Ow At)
open Fl (R4 z4 rec4 K4 okR hdr rat goodF ret_bool at_bool)
end Go.Proofs.YtelgnhmcnfibnaaDoor.Ro
namespace Go.Proofs.YtelgnhmcnfibnaaDoor.Ro
open Go.RowKit
open Rw (Rd Ow At)
open Fl (R4 z4 rec4 K4 okR hdr rat goodF ret_bool at_bool)
attribute [local irreducible] wpQuiet
end Go.Proofs.YtelgnhmcnfibnaaDoor.Ro
namespace Go.Proofs.YtelgnhmcnfibnaaDoor.Ro
open Go.RowKit
open Rw (Rd Ow At)
open Fl (R4 z4 rec4 K4 okR hdr rat goodF ret_bool at_bool)
end Go.Proofs.YtelgnhmcnfibnaaDoor.Ro
namespace Go.Proofs.YtelgnhmcnfibnaaDoor.Ro
open Go.RowKit
open Rw (Rd Ow At)
open Fl (R4 z4 rec4 K4 okR hdr rat file ret_bool at_bool at4 row_cell row_frozen newP newL sto4 sto4_own sto4_other sto4_below sto2 sto2_row sto2_below sto2_off)
attribute [local irreducible] Sd.wpSd wpQuiet
structure FRel (w:World) (h:R4) (l:List E5) (g gF N cap k:Nat) (wr:World):Prop where
 row:wr.heap[gF]? = some (.cells #[.int .i64 3,.slice (some ⟨g,0,none⟩) N cap] 46 (0,0))
 res:wr.heap[w.heap.size]? = some (.cells #[.int .i64 0,.slice none 0 0] 46 (0,0))
 own:Ow K4 wr (w.heap.size+1) 26 (.slice (some ⟨g,0,none⟩) N cap) (part h l k)
 bel:Below w.heap.size w wr
end Go.Proofs.YtelgnhmcnfibnaaDoor.Ro
namespace Go.Proofs.YtelgnhmcnfibnaaDoor.Ck
open Go.RowKit
open Ro (E5 z5 eat ent K5 mayB mayP)
open Rw (Rd Ow At)
open Fl (ret_bool at_bool row_cell row_frozen file)
attribute [local irreducible] Sd.wpSd wpQuiet
def no (_:Nat):Int:=0
end Go.Proofs.YtelgnhmcnfibnaaDoor.Ck
namespace Go.Proofs.YtelgnhmcnfibnaaDoor.Ck
open Go.RowKit
open Ro (E5 z5 eat ent K5 mayB mayP)
open Rw (Rd Ow At)
open Fl (ret_bool at_bool row_cell row_frozen file)
attribute [local irreducible] Sd.wpSd wpQuiet
end Go.Proofs.YtelgnhmcnfibnaaDoor.Ck
namespace Go.Proofs.YtelgnhmcnfibnaaDoor.Ck
open Go.RowKit
open Ro (E5 z5 eat ent K5)
open Rw (Rd Ow At)
open Fl (ret_bool at_bool row_cell row_frozen)
end Go.Proofs.YtelgnhmcnfibnaaDoor.Ck
namespace Go.Proofs.YtelgnhmcnfibnaaDoor.Sg
open Go.RowKit
open Sd (light light_value)
open Sc (In Cl)
structure Fl where
 idx:Nat
 slot:Nat
 src:Nat
 val:Value
 ty:TypeId
def Fl.cs (f:Fl):Array Value:=#[f.val]
def sl1 (g:Nat):Value:=.slice (some ⟨g,0,none⟩) 1 1
theorem sl1_inj {g h:Nat} : sl1 g=sl1 h↔g=h:=⟨fun e=>by unfold sl1 at e;injection e with e;injection e with e;injection e,fun e=>by rw [e]⟩
def fill (F:List Fl) (x:Nat→Value) (a:Act):Act:=F.foldl (fun a f=>a.put (some f.slot) (x f.slot)) a
theorem put_comm (a:Act) {d e:Nat} (h:d≠e) (u v:Value):(a.put (some d) u).put (some e) v=(a.put (some e) v).put (some d) u:=by
 simp only [Act.put];rw [Array.setIfInBounds_comm _ _ h]
theorem put_put (a:Act) (d:Nat) (u v:Value):(a.put (some d) u).put (some d) v=a.put (some d) v:=by
 simp only [Act.put,Array.setIfInBounds_setIfInBounds]
theorem fill_put (x:Nat→Value) (dst:Option Nat) (v:Value):∀ (F:List Fl) (a:Act),(∀ f∈F,dst≠some f.slot)→(fill F x a).put dst v=fill F x (a.put dst v)
 | [],a,_=>rfl
 | f :: r,a,h=>by
   have ih:=fill_put x dst v r (a.put (some f.slot) (x f.slot)) fun g hg=>h g (List.mem_cons_of_mem _ hg)
   show (fill r x (a.put (some f.slot) (x f.slot))).put dst v=fill r x ((a.put dst v).put (some f.slot) (x f.slot))
   rw [ih]
   cases dst with
   | none=>rfl
   | some d=>rw [put_comm a (fun e=>h f (List.mem_cons_self ..) (by rw [e])) (x f.slot) v]
theorem fill_congr {x y:Nat→Value} : ∀ (F:List Fl) (a:Act),(∀ f∈F,x f.slot=y f.slot)→fill F x a=fill F y a
 | [],_,_=>rfl
 | f :: r,a,h=>by
   show fill r x (a.put (some f.slot) (x f.slot))=fill r y (a.put (some f.slot) (y f.slot))
   rw [h f (List.mem_cons_self ..),fill_congr r _ fun g hg=>h g (List.mem_cons_of_mem _ hg)]
def upd (x:Nat→Value) (s:Nat) (v:Value) (k:Nat):Value:=if k=s then v else x k
theorem fill_set (x:Nat→Value) (s:Nat) (v:Value):∀ (F:List Fl) (a:Act),(F.map (·.slot)).Nodup→(∃ f∈F,f.slot=s)→(fill F x a).put (some s) v=fill F (upd x s v) a
 | [],a,_,h=>by obtain ⟨_,h,_⟩:=h;cases h
 | f :: r,a,hn,h=>by
   rw [List.map_cons,List.nodup_cons] at hn
   show (fill r x (a.put (some f.slot) (x f.slot))).put (some s) v=fill r (upd x s v) (a.put (some f.slot) (upd x s v f.slot))
   by_cases e:f.slot=s
   ·have hne:∀ g∈r,g.slot≠s:=fun g hg e'=>hn.1 (List.mem_map.2 ⟨g,hg,by rw [e,e']⟩)
    rw [fill_put x (some s) v r _ fun g hg e'=>hne g hg (Option.some.inj e').symm,e,put_put];rw [show upd x s v s=v by simp [upd]];exact fill_congr r _ fun g hg=>by simp [upd,hne g hg]
   ·obtain ⟨g,hg,hs⟩:=h
    have hg':g∈r:=by
     rcases List.mem_cons.1 hg with rfl | k
     ·exact absurd hs e
     ·exact k
    rw [show upd x s v f.slot=x f.slot by simp [upd,e]];exact fill_set x s v r _ hn.2 ⟨g,hg',hs⟩
def marks (L:Array Bool) (d:List Nat):Array Bool:=d.foldl (fun L i=>L.setIfInBounds i true) L
theorem marks_get:∀ (d:List Nat) (L:Array Bool) (k:Nat),(marks L d)[k]? = if k∈d then (L[k]?).map (fun _=>true) else L[k]?
 | [],L,k=>by simp [marks]
 | i :: r,L,k=>by
   show (marks (L.setIfInBounds i true) r)[k]? = _
   rw [marks_get r,Array.getElem?_setIfInBounds]
   by_cases hi:i=k
   ·subst hi
    by_cases hl:i < L.size
    ·simp [hl]
    ·simp [hl]
   ·have hk:k≠i:=fun e=>hi e.symm
    simp [hi,hk]
theorem marks_size:∀ (d:List Nat) (L:Array Bool),(marks L d).size=L.size
 | [],_=>rfl
 | j :: r,L=>by show (marks (L.setIfInBounds j true) r).size=_;rw [marks_size r,Array.size_setIfInBounds]
theorem marks_set (L:Array Bool) (d:List Nat) (i:Nat):(marks L d).setIfInBounds i true=marks (L.setIfInBounds i true) d:=by
 refine Array.ext_getElem? fun k=>?_;rw [Array.getElem?_setIfInBounds,marks_get,marks_get,Array.getElem?_setIfInBounds];rw [marks_size]
 by_cases hi:i=k
 ·subst hi
  by_cases hl:i < L.size <;> by_cases hd:i∈d <;> simp [hl,hd]
 ·simp [hi]
def doneOf (F:List Fl) (m:Nat→Bool):List Nat:=(F.filter fun f=>m f.idx).map (·.idx)
theorem mem_done {F:List Fl} {m:Nat→Bool} {k:Nat} : k∈doneOf F m↔m k=true∧∃ f∈F,f.idx=k:=by
 unfold doneOf;rw [List.mem_map]
 constructor
 ·rintro ⟨f,hf,rfl⟩
  rw [List.mem_filter] at hf;exact ⟨hf.2,f,hf.1,rfl⟩
 ·rintro ⟨hm,f,hf,rfl⟩
  exact ⟨f,List.mem_filter.2 ⟨hf,hm⟩,rfl⟩
def on (m:Nat→Bool) (j k:Nat):Bool:=k == j || m k
theorem marks_on (L:Array Bool) (F:List Fl) (m:Nat→Bool) (f:Fl) (hf:f∈F):(marks L (doneOf F m)).setIfInBounds f.idx true=marks L (doneOf F (on m f.idx)):=by
 rw [marks_set];refine Array.ext_getElem? fun k=>?_;rw [marks_get,marks_get,Array.getElem?_setIfInBounds]
 by_cases e:f.idx=k
 ·subst e
  have h2:f.idx∈doneOf F (on m f.idx):=mem_done.2 ⟨by simp [on],f,hf,rfl⟩;rw [if_pos h2]
  by_cases hl:f.idx < L.size <;> by_cases hd:f.idx∈doneOf F m <;> simp [hl,hd]
 ·have hiff:(k∈doneOf F (on m f.idx))↔(k∈doneOf F m):=by
   have hb:(k == f.idx)=false:=by simpa using fun h=>e h.symm
   rw [mem_done,mem_done]
   simp [on,hb]
  by_cases hd:k∈doneOf F m
  ·rw [if_pos hd,if_pos (hiff.2 hd)];simp [e]
  ·rw [if_neg hd,if_neg (fun h=>hd (hiff.1 h))];simp [e]
def allMasks:List Fl→(List Nat→Bool)→Bool
 | [],k=>k []
 | f :: r,k=>allMasks r k && allMasks r (fun d=>k (f.idx :: d))
theorem allMasks_spec:∀ (F:List Fl) (k:List Nat→Bool),allMasks F k=true→∀ m,k (doneOf F m)=true
 | [],k,h,m=>h
 | f :: r,k,h,m=>by
   unfold allMasks at h;rw [Bool.and_eq_true] at h;unfold doneOf;rw [List.filter_cons]
   cases hm:m f.idx with
   | true=>rw [if_pos rfl];exact allMasks_spec r _ h.2 m
   | false=>rw [if_neg (by simp)];exact allMasks_spec r _ h.1 m
def good (ops:Array Oper):List (Nat×Nat)→List Fl→Array Bool→Bool
 | [],F,L=>F.isEmpty && (Region.ready .any ops L).isEmpty
 | (0,i) :: r,F,L =>
   (match ops[i]? with
    | some o=>light o.op && F.all (fun f=>o.dst != some f.slot && o.dst != some f.src) && allMasks F (fun d=>Region.free .any ops (marks L d) i && (Region.ready .any ops (marks L d)).contains i)
    | none=>false) && good ops r F (L.setIfInBounds i true)
 | (1,i) :: r,F,L =>
   (match ops[i]? with
    | some o=>F.all (fun f=>o.dst != some f.slot && o.dst != some f.src) && allMasks F (fun d=>!(Region.ready .any ops (marks L d)).isEmpty && (Region.ready .any ops (marks L d)).all fun j=>j == i || F.any fun f=>f.idx == j && !d.contains j)
    | none=>false) && good ops r F (L.setIfInBounds i true)
 | (_,i) :: r,f :: F,L =>
   (ops[i]?).isSome && allMasks (f :: F) (fun d=>d.contains f.idx || (!(Region.ready .any ops (marks L d)).isEmpty && (Region.ready .any ops (marks L d)).all fun j=>(f :: F).any fun g=>g.idx == j && !d.contains j)) && good ops r F (L.setIfInBounds f.idx true)
 | (_,_) :: _,[],_=>false
def wpSg (P:Program) (ops:Array Oper) (C:World→Prop) (Q:Exit→Act→World→Prop) (n0:Nat):List (Nat×Oper)→List Fl→List (Nat×Nat)→List Nat→Act→World→Prop
 | [],_,_,_,a,w=>∀ w',Below w.heap.size w w'→C w'→Q .normal a w'
 | (0,o) :: r,F,H,L,a,w=>∀ x,wpQuiet P ops C (fun a'=>wpSg P ops C Q n0 r F H L a' w) [o] (fill F x a)
 | (1,o) :: r,F,H,L,a,w=>∀ x w',Below w.heap.size w w'→C w'→Region.wanted o (yielded ops (fill F x a).tmps)=true ∧
     o.wp P (fill F x a) w' (fun a'' w''=>C w''∧w'.heap.size≤w''.heap.size∧(∀ g,n0≤g→g < w'.heap.size→w''.heap[g]? = w'.heap[g]?)∧wpSg P ops C Q n0 r F ((w'.heap.size,w''.heap.size) :: H) L a'' w'') Q
 | (_,_) :: r,F,H,L,a,w=>match F with
   | []=>False
   | f :: F=>∀ g w',Below w.heap.size w w'→C w'→w'.heap[g]? = some (.cells f.cs f.ty (0,0))→n0≤g→(∀ p∈H,g < p.1∨p.2≤g)→g ∉ L→wpSg P ops C Q n0 r F H (g :: L) (a.put (some f.slot) (sl1 g)) w'
def picks (l:List Oper):List (Nat×Nat)→List (Nat×Oper)
 | []=>[]
 | (k,i) :: r=>match l[i]? with
   | some o=>(k,o) :: picks l r
   | none=>picks l r
structure Inv (F:List Fl) (m:Nat→Bool) (x:Nat→Value) (a:Act) (n0:Nat) (H:List (Nat×Nat)) (L:List Nat) (w:World):Prop where
 ne:∀ f∈F,∀ g∈F,f.slot≠g.src
 src:∀ f∈F,a.tmps.getD f.src undef=f.val
 old:∀ f∈F,m f.idx=false→x f.slot=a.tmps.getD f.slot undef
 new:∀ f∈F,m f.idx=true→∃ g,x f.slot=sl1 g∧w.heap[g]? = some (.cells f.cs f.ty (0,0))∧n0≤g∧(∀ p∈H,g < p.1∨p.2≤g)∧g ∉ L
 apart:∀ f∈F,∀ f'∈F,f.slot≠f'.slot→m f.idx=true→m f'.idx=true→x f.slot≠x f'.slot
 past:∀ p∈H,p.2≤w.heap.size
 met:∀ g∈L,g < w.heap.size
theorem getD_put (a:Act) (dst:Option Nat) (v:Value) (s:Nat) (h:dst≠some s):(a.put dst v).tmps.getD s undef=a.tmps.getD s undef:=by
 cases dst with
 | none=>rfl
 | some d =>
   have hd:d≠s:=fun e=>h (by rw [e]);simp only [Act.put,Array.getD_eq_getD_getElem?,Array.getElem?_setIfInBounds,if_neg hd]
theorem fill_idem (x:Nat→Value):∀ (F:List Fl) (a:Act),fill F x (fill F x a)=fill F x a
 | [],_=>rfl
 | f :: r,a=>by
   show fill r x ((fill r x (a.put (some f.slot) (x f.slot))).put (some f.slot) (x f.slot))=fill r x (a.put (some f.slot) (x f.slot))
   have e:∀ (r:List Fl) (b:Act),(fill r x (b.put (some f.slot) (x f.slot))).put (some f.slot) (x f.slot)=fill r x (b.put (some f.slot) (x f.slot)):=by
    intro r
    induction r with
    | nil=>intro b;exact put_put b _ _ _
    | cons g r ih =>
      intro b
      show (fill r x ((b.put (some f.slot) (x f.slot)).put (some g.slot) (x g.slot))).put (some f.slot) (x f.slot)=fill r x ((b.put (some f.slot) (x f.slot)).put (some g.slot) (x g.slot))
      by_cases h:f.slot=g.slot
      ·rw [← h,put_put];exact ih b
      ·rw [put_comm b h,ih]
   rw [e];exact fill_idem x r _
def withD (a:Act) (ds:List Deferred):Act:={ a with defers:=ds }
theorem fill_D (x:Nat→Value) (ds:List Deferred):∀ (F:List Fl) (a:Act),withD (fill F x a) ds=fill F x (withD a ds)
 | [],_=>rfl
 | f :: r,a=>by
   show withD (fill r x (a.put (some f.slot) (x f.slot))) ds=fill r x ((withD a ds).put (some f.slot) (x f.slot))
   rw [fill_D x ds r]
   rfl
theorem getD_fill (x:Nat→Value) (s:Nat):∀ (F:List Fl) (a:Act),(∀ f∈F,f.slot=s→x s=a.tmps.getD s undef)→(fill F x a).tmps.getD s undef=a.tmps.getD s undef
 | [],_,_=>rfl
 | f :: r,a,h=>by
   have e:(a.put (some f.slot) (x f.slot)).tmps.getD s undef=a.tmps.getD s undef:=by
    by_cases hs:f.slot=s
    ·subst hs
     have:=h f (List.mem_cons_self ..) rfl;simp only [Act.put,Array.getD_eq_getD_getElem?,Array.getElem?_setIfInBounds] at *
     by_cases hl:f.slot < a.tmps.size
     ·simp [hl] at *;exact this
     ·simp [hl]
    ·exact getD_put a _ _ s (fun k=>hs (Option.some.inj k))
   show (fill r x (a.put (some f.slot) (x f.slot))).tmps.getD s undef=_
   rw [getD_fill x s r _ fun g hg k=>by rw [e];exact h g (List.mem_cons_of_mem _ hg) k,e]
theorem wp_put {P:Program} {o:Oper} {a:Act} {w:World} {K:Act→World→Prop} {Q:Exit→Act→World→Prop} (h:o.wp P a w K Q):o.wp P a w (fun a' w'=>(∃ ds v,a'=(withD a ds).put o.dst v)∧K a' w') Q:=by
 unfold Oper.wp at *
 cases hr:(execOp a.eval o).run P w with
 | halt y w1=>rw [hr] at h;cases y <;> exact h
 | ok nx w1 =>
   rw [hr] at h
   cases nx with
   | value v=>exact ⟨⟨a.defers,v,rfl⟩,h⟩
   | skip=>exact ⟨⟨a.defers,undef,rfl⟩,h⟩
   | defer d=>exact ⟨⟨d :: a.defers,undef,rfl⟩,h⟩
   | enter f args =>
     refine Calls.mono h fun e w'' k=>?_
     cases e with
     | returned v=>exact ⟨⟨a.defers,v,rfl⟩,k⟩
     | panicked c=>exact k
     | outgrown=>exact k
   | row r args=>exact Rows.mono h fun v w'' k=>⟨⟨a.defers,v,rfl⟩,k⟩
   | _=>exact h
def left:List Fl→(Nat→Bool)→Nat
 | [],_=>0
 | f :: r,m=>left r m+(if m f.idx then 0 else 1)
theorem on_le (m:Nat→Bool) (j k:Nat):(if on m j k then 0 else 1)≤(if m k then 0 else 1):=by
 unfold on
 cases (k == j) <;> cases m k <;> simp
theorem left_mono (m:Nat→Bool) (j:Nat):∀ r:List Fl,left r (on m j)≤left r m
 | []=>Nat.le_refl _
 | g :: r=>Nat.add_le_add (left_mono m j r) (on_le m j g.idx)
theorem left_on:∀ (F:List Fl) (m:Nat→Bool) (f:Fl),f∈F→m f.idx=false→left F (on m f.idx)+1≤left F m
 | g :: r,m,f,hf,hm=>by
   have a:=left_mono m f.idx r;have b:=on_le m f.idx g.idx;unfold left
   rcases List.mem_cons.1 hf with e | k
   ·subst e
    have:on m f.idx f.idx=true:=by simp [on]
    rw [this,hm]
    simp
    exact a
   ·have ih:=left_on r m f k hm
    omega
theorem nodup_same:∀ {F:List Fl},(F.map (·.slot)).Nodup→∀ f∈F,∀ g∈F,g.slot=f.slot→g=f
 | [],_,f,hf,_,_,_=>by cases hf
 | b :: r,hn,f,hf,g,hg,e=>by
   rw [List.map_cons,List.nodup_cons] at hn
   rcases List.mem_cons.1 hg with h1 | hg'
   ·rcases List.mem_cons.1 hf with h2 | hf'
    ·rw [h1,h2]
    ·exact absurd (List.mem_map.2 ⟨f,hf',by rw [← e,h1]⟩) hn.1
   ·rcases List.mem_cons.1 hf with h2 | hf'
    ·exact absurd (List.mem_map.2 ⟨g,hg',by rw [e,h2]⟩) hn.1
    ·exact nodup_same hn.2 f hf' g hg' e
section
variable {P:Program} {l:List Oper} {C:World→Prop} {Q:Exit→Act→World→Prop} {n0:Nat}
def FlOk (P:Program) (l:List Oper) (f:Fl):Prop:=∃ o,l.toArray[f.idx]? = some o∧o.dst=some f.slot∧o.guard=none∧∀ ρ w,ρ (.tmp f.src)=f.val→(execOp ρ o).run P w = .ok (.value (sl1 w.heap.size)) (w.alloc (.cells f.cs f.ty))
theorem Inv.step {F:List Fl} {m:Nat→Bool} {x:Nat→Value} {a:Act} {H:List (Nat×Nat)} {L:List Nat} {w:World} (h:Inv F m x a n0 H L w) (hn:(F.map (·.slot)).Nodup) (hi:∀ f∈F,∀ f'∈F,f.idx=f'.idx→f.slot=f'.slot) (h0:n0≤w.heap.size) (f:Fl) (hf:f∈F) (hm:m f.idx=false) :
 Inv F (on m f.idx) (upd x f.slot (sl1 w.heap.size)) a n0 H L (w.alloc (.cells f.cs f.ty)):=by
 have same:∀ g∈F,g.slot=f.slot→g=f:=nodup_same hn f hf;have on_:∀ g∈F,g.slot≠f.slot→on m f.idx g.idx=m g.idx:=fun g hg hne=>by
  have hb:(g.idx == f.idx)=false:=by simpa using fun e=>hne (hi g hg f hf e)
  simp [on,hb]
 have onf:on m f.idx f.idx=true:=by simp [on]
 refine ⟨h.ne,h.src,fun g hg hmg=>?_,fun g hg hmg=>?_,fun g hg g' hg' hne hmg hmg'=>?_,fun p hp=>?_,fun g hg=>?_⟩
 ·by_cases e:g.slot=f.slot
  ·rw [same g hg e,onf] at hmg;cases hmg
  ·rw [on_ g hg e] at hmg
   simp only [upd,if_neg e];exact h.old g hg hmg
 ·by_cases e:g.slot=f.slot
  ·obtain rfl:=same g hg e
   exact ⟨w.heap.size,by simp [upd],heap_alloc_new w _,h0,fun p hp=>.inr (h.past p hp),fun hl=>by have:=h.met _ hl;omega⟩
  ·rw [on_ g hg e] at hmg
   obtain ⟨b,h1,h2,h3⟩:=h.new g hg hmg;exact ⟨b,by simp only [upd,if_neg e];exact h1,(Below.heap_alloc w _ b (lt_of_block h2)).trans h2,h3⟩
 ·by_cases e:g.slot=f.slot
  ·have e':g'.slot≠f.slot:=fun k=>hne (e.trans k.symm)
   rw [on_ g' hg' e'] at hmg';obtain ⟨b,h1,h2,_⟩:=h.new g' hg' hmg';have:=lt_of_block h2;simp only [upd,if_pos e,if_neg e',h1];exact fun k=>by have:=sl1_inj.1 k;omega
  ·by_cases e':g'.slot=f.slot
   ·rw [on_ g hg e] at hmg
    obtain ⟨b,h1,h2,_⟩:=h.new g hg hmg;have:=lt_of_block h2;simp only [upd,if_neg e,if_pos e',h1];exact fun k=>by have:=sl1_inj.1 k;omega
   ·rw [on_ g hg e] at hmg
    rw [on_ g' hg' e'] at hmg';simp only [upd,if_neg e,if_neg e'];exact h.apart g hg g' hg' hne hmg hmg'
 ·have:=h.past p hp
  simp
  omega
 ·have:=h.met g hg
  simp
  omega
def cnt:List (Nat×Nat)→Nat
 | []=>0
 | (0,_) :: r=>cnt r+1
 | (1,_) :: r=>cnt r+1
 | (_+2,_) :: r=>cnt r
def Holds (P:Program) (l:List Oper) (C:World→Prop) (Q:Exit→Act→World→Prop) (n0:Nat) (n:Nat):Prop :=
 ∀ (sc:List (Nat×Nat)) (F:List Fl) (H:List (Nat×Nat)) (L:List Nat) (listed:Array Bool) (fuel:Nat) (a:Act) (w:World) (m:Nat→Bool) (x:Nat→Value) (w':World),
  2 * fuel+sc.length≤n→good l.toArray sc F listed=true→(∀ f∈F,FlOk P l f)→(F.map (·.slot)).Nodup→(∀ f∈F,∀ f'∈F,f.idx=f'.idx→f.slot=f'.slot)→Inv F m x a n0 H L w'→Below w.heap.size w w'→C w' →
  cnt sc+left F m≤fuel→wpSg P l.toArray C Q n0 (picks l sc) F H L a w→wpAnyH P .any l.toArray Q C fuel (marks listed (doneOf F m)) (fill F x a) w'
theorem wanted_none {o:Oper} {y:Nat→Option Bool} (h:o.guard=none):Region.wanted o y=true:=by simp [Region.wanted,h]
theorem float {n:Nat} (ih:Holds P l C Q n0 n) (hC:∀ w,C w→n0≤w.heap.size) (hA:∀ w o,C w→C (w.alloc o)) {sc:List (Nat×Nat)} {F:List Fl} {H:List (Nat×Nat)} {L:List Nat} {listed:Array Bool} {fuel:Nat} {a:Act} {w:World} {m:Nat→Bool} {x:Nat→Value} {w':World}
 (hn:2 * (fuel+1)+sc.length≤n+1) (hg:good l.toArray sc F listed=true) (hF:∀ f∈F,FlOk P l f) (hs:(F.map (·.slot)).Nodup) (hi:∀ f∈F,∀ f'∈F,f.idx=f'.idx→f.slot=f'.slot) (hI:Inv F m x a n0 H L w') (hb:Below w.heap.size w w') (hc:C w')
 (hf:cnt sc+left F m≤fuel+1) (h:wpSg P l.toArray C Q n0 (picks l sc) F H L a w) (f:Fl) (hff:f∈F) (hm:m f.idx=false) :
 wpOp P l.toArray Q f.idx (fun a' w'=>C w'∧wpAnyH P .any l.toArray Q C fuel ((marks listed (doneOf F m)).setIfInBounds f.idx true) a' w') (fill F x a) w':=by
 obtain ⟨o,ho,hd,hgd,hrun⟩:=hF f hff;unfold wpOp;simp only [ho,wanted_none hgd,if_true];refine .inl ?_;unfold Oper.wp;rw [hrun _ _ (by show (fill F x a).tmps.getD f.src undef=f.val;rw [getD_fill x f.src F a fun g hg e=>absurd e (hI.ne g hg f hff)];exact hI.src f hff)];rw [Oper.upon_value,hd,fill_set x f.slot _ F a hs ⟨f,hff,rfl⟩,marks_on listed F m f hff];have lo:=left_on F m f hff hm;exact ⟨hA _ _ hc,ih sc F H L listed fuel a w _ _ _ (by omega) hg hF hs hi (hI.step hs hi (hC _ hc) f hff hm) (hb.trans ((Below.refl _ _).alloc hb.size _)) (hA _ _ hc) (by omega) h⟩
theorem holds (hsel:Region.noSelect l.toArray=true) (hQ:∀ c d v a w,Q (.panic c) (Act.put a d v) w→Q (.panic c) a w) (hC:∀ w,C w→n0≤w.heap.size) (hA:∀ w o,C w→C (w.alloc o)):∀ n,Holds P l C Q n0 n:=by
 intro n
 induction n with
 | zero =>
   intro sc F H L listed fuel a w m x w' hn hg hF hs hi hI hb hc hf h
   have e:sc = []:=List.length_eq_zero_iff.1 (by omega);subst e;unfold good at hg;simp only [Bool.and_eq_true,List.isEmpty_iff] at hg;obtain ⟨rfl,hr⟩:=hg;exact wpAnyH_done hr (h w' hb hc) fuel
 | succ n ih =>
   intro sc F H L listed fuel a w m x w' hn hg hF hs hi hI hb hc hf h
   match sc,hg,h,hn,hf with
   | [],hg,h,_,_ =>
     unfold good at hg;simp only [Bool.and_eq_true,List.isEmpty_iff] at hg;obtain ⟨rfl,hr⟩:=hg;exact wpAnyH_done hr (h w' hb hc) fuel
   | (0,i) :: r,hg,h,hn,hf =>
     have hg':(_ && good l.toArray r F (listed.setIfInBounds i true))=true:=hg;rw [Bool.and_eq_true] at hg';obtain ⟨hg1,hg2⟩:=hg'
     cases ho:l[i]? with
     | none=>simp [ho] at hg1
     | some o =>
       have hop:l.toArray[i]? = some o:=by simp [ho]
       rw [hop] at hg1;simp only [Bool.and_eq_true,List.all_eq_true] at hg1;obtain ⟨⟨hl,hds⟩,hm⟩:=hg1;have hds':∀ f∈F,o.dst≠some f.slot:=fun f hf=>by have:=hds f hf;simp at this;simpa using this.1
       have hdr:∀ f∈F,o.dst≠some f.src:=fun f hf=>by have:=hds f hf;simp at this;simpa using this.2
       have hm':=allMasks_spec F _ hm m;simp only [Bool.and_eq_true] at hm';rw [picks,ho] at h;obtain ⟨fuel,rfl⟩:∃ k,fuel=k+1:=⟨fuel - 1,by simp only [cnt] at hf;omega⟩;have q:=h x;unfold wpQuiet at q;have next:∀ v',wpSg P l.toArray C Q n0 (picks l r) F H L ((fill F x a).put o.dst v') w→wpAnyH P .any l.toArray Q C fuel ((marks listed (doneOf F m)).setIfInBounds i true) ((fill F x a).put o.dst v') w':=fun v' hnx=>by
        have k:=ih r F H L (listed.setIfInBounds i true) fuel ((fill F x a).put o.dst v') w m x w' (by simp at hn;omega) hg2 hF hs hi ⟨hI.ne,fun f hff=>by rw [getD_put _ o.dst v' f.src (hdr f hff),getD_fill x f.src F a fun g hg e=>absurd e (hI.ne g hg f hff)];exact hI.src f hff,fun f hff hmf=>?_,hI.new,hI.apart,hI.past,hI.met⟩ hb hc (by simp only [cnt] at hf;omega) hnx
        ·rw [fill_put x o.dst v' F a hds',fill_idem,← marks_set] at k
         rw [fill_put x o.dst v' F a hds'];exact k
        ·rw [getD_put _ o.dst v' f.slot (hds' f hff),getD_fill x f.slot F a fun g hg e=>by rw [← e];obtain rfl:=nodup_same hs f hff g hg e;exact hI.old g hg hmf]
         exact hI.old f hff hmf
       by_cases hw:Region.wanted o (yielded l.toArray (fill F x a).tmps)=true
       ·rw [if_pos hw] at q
        obtain ⟨v',hv',e⟩:=q;refine wpAnyH_take (v:=v') hop hsel hm'.1 hm'.2 (fun c a w=>hQ c _ _ a w) (.inl ⟨hw,fun w2 hw2=>?_⟩) hc (next v' e);have q2:=hv' w2 hw2;unfold Oper.quietAt at q2
        cases e2:(execOp (fill F x a).eval o).run P w2 with
        | halt y w1=>rw [e2] at q2;cases q2
        | ok nx w1 =>
          obtain ⟨u,rfl⟩:=light_value hl e2;rw [e2] at q2;obtain ⟨e3,e4⟩:=q2;rw [e3,e4]
       ·rw [if_neg hw] at q
        exact wpAnyH_take (v:=undef) hop hsel hm'.1 hm'.2 (fun c a w=>hQ c _ _ a w) (.inr ⟨by simpa using hw,rfl⟩) hc (next undef q)
   | (1,i) :: r,hg,h,hn,hf =>
     have hg0:=hg;have h0:=h;have hg':(_ && good l.toArray r F (listed.setIfInBounds i true))=true:=hg;rw [Bool.and_eq_true] at hg';obtain ⟨hg1,hg2⟩:=hg'
     cases ho:l[i]? with
     | none=>simp [ho] at hg1
     | some o =>
       have hop:l.toArray[i]? = some o:=by simp [ho]
       rw [hop] at hg1;simp only [Bool.and_eq_true,List.all_eq_true] at hg1;obtain ⟨hds,hm⟩:=hg1;have hds':∀ f∈F,o.dst≠some f.slot:=fun f hf=>by have:=hds f hf;simp at this;simpa using this.1
       have hdr:∀ f∈F,o.dst≠some f.src:=fun f hf=>by have:=hds f hf;simp at this;simpa using this.2
       have hm':=allMasks_spec F _ hm m;simp only [Bool.and_eq_true,List.all_eq_true] at hm';rw [picks,ho] at h;obtain ⟨hw,hwp⟩:=h x w' hb hc;obtain ⟨fuel,rfl⟩:∃ k,fuel=k+1:=⟨fuel - 1,by simp only [cnt] at hf;omega⟩;refine wpAnyH_all rfl (fun e=>by rw [e] at hm';simp at hm') fun j hj=>?_;have hj':=hm'.2 j hj;rw [Bool.or_eq_true] at hj'
       rcases hj' with e | hfl
       ·obtain rfl:j=i:=by simpa using e
        unfold wpOp;simp only [hop,hw,if_true];refine .inl (Oper.wp_mono (fun a'' w'' hh=>?_) (wp_put hwp));obtain ⟨⟨ds,v,rfl⟩,c2,hsz,hbel,hT⟩:=hh;refine ⟨c2,?_⟩;have k:=ih r F _ L (listed.setIfInBounds j true) fuel ((withD (fill F x a) ds).put o.dst v) w'' m x w'' (by simp at hn;omega) hg2 hF hs hi ⟨hI.ne,fun f hff=>by rw [fill_D,getD_put _ o.dst v f.src (hdr f hff),getD_fill x f.src F _ fun g hg e=>absurd e (hI.ne g hg f hff)];exact hI.src f hff,fun f hff hmf=>?_,fun f hff hmf=>?_,hI.apart,fun p hp=>?_,fun g hg=>Nat.lt_of_lt_of_le (hI.met g hg) hsz⟩ (Below.refl _ _) c2 (by simp only [cnt] at hf;omega) hT
        ·rw [fill_D,fill_put x o.dst v F _ hds',fill_idem,← marks_set] at k
         rw [fill_D,fill_put x o.dst v F _ hds'];exact k
        ·rw [fill_D,getD_put _ o.dst v f.slot (hds' f hff),getD_fill x f.slot F _ fun g hg e=>by rw [← e];obtain rfl:=nodup_same hs f hff g hg e;exact hI.old g hg hmf]
         exact hI.old f hff hmf
        ·obtain ⟨g,g1,g2,g3,g4,g5⟩:=hI.new f hff hmf
         refine ⟨g,g1,(hbel g g3 (lt_of_block g2)).trans g2,g3,fun p hp=>?_,g5⟩
         rcases List.mem_cons.1 hp with rfl | hp
         ·exact .inl (lt_of_block g2)
         ·exact g4 p hp
        ·rcases List.mem_cons.1 hp with rfl | hp
         ·exact Nat.le_refl _
         ·exact Nat.le_trans (hI.past p hp) hsz
       ·obtain ⟨f,hff,he⟩:=List.any_eq_true.1 hfl
        rw [Bool.and_eq_true] at he;obtain rfl:f.idx=j:=by simpa using he.1
        have hmf:m f.idx=false:=by
         have hd:f.idx ∉ doneOf F m:=by simpa using he.2
         rw [mem_done] at hd
         cases hmm:m f.idx with
         | false=>rfl
         | true=>exact absurd ⟨hmm,f,hff,rfl⟩ hd
        exact float ih hC hA hn hg0 hF hs hi hI hb hc hf h0 f hff hmf
   | (k+2,i) :: r,hg,h,hn,hf =>
     have hg0:=hg;have h0:=h
     match F,hg,h,hF,hs,hi,hI,hf,hg0,h0 with
     | [],hg,h,_,_,_,_,_,_,_=>simp [good] at hg
     | f :: F,hg,h,hF,hs,hi,hI,hf,hg0,h0 =>
       have hg':((l.toArray[i]?).isSome && allMasks (f :: F) _ && good l.toArray r F (listed.setIfInBounds f.idx true))=true:=hg;rw [Bool.and_eq_true,Bool.and_eq_true] at hg';obtain ⟨⟨hio,hm⟩,hg2⟩:=hg';have hm':=allMasks_spec (f :: F) _ hm m
       cases hmm:m f.idx with
       | true =>
         obtain ⟨g,g1,g2,g3,g4,g5⟩:=hI.new f (List.mem_cons_self ..) hmm;have hp:∀ {o:Oper},wpSg P l.toArray C Q n0 ((k+2,o) :: picks l r) (f :: F) H L a w→wpSg P l.toArray C Q n0 (picks l r) F H (g :: L) (a.put (some f.slot) (sl1 g)) w':=fun h=>h g w' hb hc g2 g3 g4 g5;have hT:wpSg P l.toArray C Q n0 (picks l r) F H (g :: L) (a.put (some f.slot) (sl1 g)) w':=by
          cases ho:l[i]? with
          | none=>simp [ho] at hio
          | some o =>
            rw [picks,ho] at h;exact hp h
         have hd:doneOf (f :: F) m=f.idx :: doneOf F m:=by unfold doneOf;rw [List.filter_cons,if_pos hmm];rfl
         rw [hd]
         show wpAnyH P .any l.toArray Q C fuel (marks (listed.setIfInBounds f.idx true) (doneOf F m)) (fill F x (a.put (some f.slot) (x f.slot))) w'
         rw [g1];rw [List.map_cons,List.nodup_cons] at hs;have hne:∀ f'∈F,f.slot≠f'.slot:=fun f' h' e=>hs.1 (List.mem_map.2 ⟨f',h',e.symm⟩);refine ih r F H (g :: L) _ fuel _ w' m x w' (by simp at hn;omega) hg2 (fun f' h'=>hF f' (List.mem_cons_of_mem _ h')) hs.2 (fun a ha b hb=>hi a (List.mem_cons_of_mem _ ha) b (List.mem_cons_of_mem _ hb)) ⟨fun a ha b hb=>hI.ne a (List.mem_cons_of_mem _ ha) b (List.mem_cons_of_mem _ hb),fun f' h'=>by rw [getD_put a _ _ f'.src (fun e=>hI.ne f (List.mem_cons_self ..) f' (List.mem_cons_of_mem _ h') (Option.some.inj e))];exact hI.src f' (List.mem_cons_of_mem _ h'),fun f' h' hmf=>?_,fun f' h' hmf=>?_,fun f' h' f'' h''=>hI.apart f' (List.mem_cons_of_mem _ h') f'' (List.mem_cons_of_mem _ h''),hI.past,fun b hb=>?_⟩ (Below.refl _ _) hc ?_ hT
         ·rw [getD_put a _ _ f'.slot (fun e=>hne f' h' (Option.some.inj e))]
          exact hI.old f' (List.mem_cons_of_mem _ h') hmf
         ·obtain ⟨b,b1,b2,b3,b4,b5⟩:=hI.new f' (List.mem_cons_of_mem _ h') hmf
          refine ⟨b,b1,b2,b3,b4,fun hl=>?_⟩
          rcases List.mem_cons.1 hl with e | hl
          ·exact hI.apart f' (List.mem_cons_of_mem _ h') f (List.mem_cons_self ..) (fun e=>hne f' h' e.symm) hmf hmm (by rw [b1,g1,e])
          ·exact b5 hl
         ·rcases List.mem_cons.1 hb with rfl | hb
          ·exact lt_of_block g2
          ·exact hI.met b hb
         ·simp only [cnt,left,hmm] at hf
          simpa using hf
       | false =>
         have hd:(doneOf (f :: F) m).contains f.idx=false:=by
          have:f.idx ∉ doneOf (f :: F) m:=fun h=>by rw [mem_done,hmm] at h;simp at h
          simpa using this
         rw [hd,Bool.false_or] at hm';simp only [Bool.and_eq_true,List.all_eq_true] at hm';have lf:=left_on (f :: F) m f (List.mem_cons_self ..) hmm;obtain ⟨fuel,rfl⟩:∃ k,fuel=k+1:=⟨fuel - 1,by omega⟩;refine wpAnyH_all rfl (fun e=>by rw [e] at hm';simp at hm') fun j hj=>?_;obtain ⟨f',hff,he⟩:=List.any_eq_true.1 (hm'.2 j hj);rw [Bool.and_eq_true] at he;obtain rfl:f'.idx=j:=by simpa using he.1
         have hmf:m f'.idx=false:=by
          have hd:f'.idx ∉ doneOf (f :: F) m:=by simpa using he.2
          rw [mem_done] at hd
          cases hmm:m f'.idx with
          | false=>rfl
          | true=>exact absurd ⟨hmm,f',hff,rfl⟩ hd
         exact float ih hC hA hn hg0 hF hs hi hI hb hc hf h0 f' hff hmf
theorem fill_self (a:Act):∀ F:List Fl,fill F (fun s=>a.tmps.getD s undef) a=a
 | []=>rfl
 | f :: r=>by
   have e:a.put (some f.slot) (a.tmps.getD f.slot undef)=a:=by
    simp only [Act.put];have:a.tmps.setIfInBounds f.slot (a.tmps.getD f.slot undef)=a.tmps:=by
     refine Array.ext_getElem? fun k=>?_;rw [Array.getElem?_setIfInBounds]
     by_cases hk:f.slot=k
     ·subst hk
      by_cases hl:f.slot < a.tmps.size
      ·simp [hl]
      ·simp [hl]
     ·simp [hk]
    rw [this]
   show fill r (fun s=>a.tmps.getD s undef) (a.put (some f.slot) (a.tmps.getD f.slot undef))=a
   rw [e];exact fill_self a r
theorem left_all:∀ F:List Fl,left F (fun _=>false)=F.length
 | []=>rfl
 | f :: r=>by show left r _+1=r.length+1;rw [left_all r]
def picksL (l:List Oper):List Nat→List Oper
 | []=>[]
 | i :: r=>match l[i]? with
   | some o=>o :: picksL l r
   | none=>picksL l r
def goodL (ops:Array Oper):List Nat→Array Bool→Bool
 | [],_=>true
 | i :: r,L=>(match ops[i]? with
   | some o=>light o.op && Region.free .any ops L i && (Region.ready .any ops L).contains i
   | none=>false) && goodL ops r (L.setIfInBounds i true)
def wpL (P:Program) (ops:Array Oper) (C:World→Prop) (K:Act→Prop):List Oper→Act→Prop
 | [],a=>K a
 | o :: r,a=>wpQuiet P ops C (fun a'=>wpL P ops C K r a') [o] a
theorem lights {P:Program} {l:List Oper} {C:World→Prop} {Q:Exit→Act→World→Prop} {w:World} {K:Act→Prop} {fuel:Nat} (hs:Region.noSelect l.toArray=true) (hQ:∀ c d v a w,Q (.panic c) (Act.put a d v) w→Q (.panic c) a w) (hC:C w) :
 ∀ (sc:List Nat) (listed:Array Bool) (a:Act),goodL l.toArray sc listed=true→(∀ a',K a'→wpAnyH P .any l.toArray Q C fuel (marks listed sc) a' w)→wpL P l.toArray C K (picksL l sc) a→wpAnyH P .any l.toArray Q C (fuel+sc.length) listed a w
 | [],listed,a,_,hk,h=>hk a h
 | i :: r,listed,a,hg,hk,h=>by
   unfold goodL at hg;rw [Bool.and_eq_true] at hg;obtain ⟨hg1,hg2⟩:=hg;have hll:l.toArray[i]? = l[i]?:=by rw [List.getElem?_toArray]
   cases ho:l[i]? with
   | none=>rw [hll,ho] at hg1;cases hg1
   | some o =>
     rw [hll,ho] at hg1;have hop:l.toArray[i]? = some o:=hll.trans ho;have hp:picksL l (i :: r)=o :: picksL l r:=by rw [picksL,ho]
     rw [hp] at h;simp only [Bool.and_eq_true] at hg1;obtain ⟨⟨hl,hf⟩,hr⟩:=hg1;unfold wpL at h
     show wpAnyH P .any l.toArray Q C ((fuel+r.length)+1) listed a w
     by_cases hw:Region.wanted o (yielded l.toArray a.tmps)=true
     ·unfold wpQuiet at h
      rw [if_pos hw] at h;obtain ⟨v,hv,hn⟩:=h;refine wpAnyH_take (v:=v) hop hs hf hr (fun c a w=>hQ c _ _ a w) (.inl ⟨hw,fun w' hw'=>?_⟩) hC (lights hs hQ hC r _ _ hg2 hk hn);have q:=hv w' hw';unfold Oper.quietAt at q
      cases e:(execOp a.eval o).run P w' with
      | halt x w1=>rw [e] at q;cases q
      | ok n w1 =>
        obtain ⟨u,rfl⟩:=light_value hl e;rw [e] at q;obtain ⟨e1,e2⟩:=q;rw [e1,e2]
     ·unfold wpQuiet at h
      rw [if_neg hw] at h;exact wpAnyH_take (v:=undef) hop hs hf hr (fun c a w=>hQ c _ _ a w) (.inr ⟨by simpa using hw,rfl⟩) hC (lights hs hQ hC r _ _ hg2 hk h)
theorem start {id:Nat} {l:List Oper} {Q:Exit→Act→World→Prop} {a:Act} {w:World} (C:World→Prop) (ls:List Nat) (sc:List (Nat×Nat)) (F:List Fl) (hm:P.follows .mixedOrders=true) (hs:Region.noSelect l.toArray=true)
 (hgl:goodL l.toArray ls (Array.replicate l.toArray.size false)=true) (hg:good l.toArray sc F (marks (Array.replicate l.toArray.size false) ls)=true) (hc:cnt sc+F.length+ls.length=l.toArray.size) (hn:(F.map (·.slot)).Nodup) (hi:∀ f∈F,∀ f'∈F,f.idx=f'.idx→f.slot=f'.slot) (hx:∀ f∈F,∀ g∈F,f.slot≠g.src) (hF:∀ f∈F,FlOk P l f)
 (h0:C w.drew) (hn0:∀ w',C w'→w.heap.size≤w'.heap.size) (hA:∀ w' o,C w'→C (w'.alloc o))
 (h:wpL P l.toArray (fun w'=>∃ p:In C,w'=p.world) (fun a'=>(∀ f∈F,a'.tmps.getD f.src undef=f.val)∧wpSg P l.toArray (fun w'=>∃ p:In C,w'=p.world) (NoPanic Q) w.heap.size (picks l sc) F [] [] a' w.drew) (picksL l ls) a):(Code.region id l.toArray true).wp P Q a w :=
 wp_region_noPanic (wp_region_held_drew (S:=fun w'=>∃ p:In C,w'=p.world) hm (Cl.of h0) fun _=>by
  have hfu:l.toArray.size=(cnt sc+F.length)+ls.length:=by omega
  rw [hfu];rw [← hfu];refine (show wpAnyH P .any l.toArray (NoPanic Q) (fun w'=>∃ p:In C,w'=p.world) ((cnt sc+F.length)+ls.length) (Array.replicate l.toArray.size false) a w.drew from ?_) |> fun k=>by rw [← hfu] at k;exact k
  refine lights hs (fun _ _ _ _ _ h=>h) (Cl.of h0) ls _ a hgl (fun a' ha=>?_) h;obtain ⟨hsrc,ha⟩:=ha;have hd:doneOf F (fun _=>false) = []:=by unfold doneOf;simp
  have k:=holds (P:=P) (l:=l) (C:=fun w'=>∃ p:In C,w'=p.world) (Q:=NoPanic Q) (n0:=w.heap.size) hs (fun _ _ _ _ _ h=>h) (fun w' h=>by obtain ⟨p,rfl⟩:=h;exact hn0 _ p.ok) (fun w' o h=>by obtain ⟨p,rfl⟩:=h;exact Cl.of (hA _ _ p.ok)) (2 * (cnt sc+F.length)+sc.length) sc F [] [] (marks (Array.replicate l.toArray.size false) ls) (cnt sc+F.length) a' w.drew (fun _=>false) (fun s=>a'.tmps.getD s undef) w.drew
   (Nat.le_refl _) hg hF hn hi ⟨hx,hsrc,fun _ _ _=>rfl,fun _ _ h=>(by cases h),fun _ _ _ _ _ h=>(by cases h),fun _ hp=>(by cases hp),fun _ hg=>(by cases hg)⟩ (Below.refl _ _) (Cl.of h0) (by rw [left_all];exact Nat.le_refl _) ha
  rw [hd,fill_self] at k
  exact k)
section
variable {ops:Array Oper} {a:Act} {w:World} {o:Oper} {r:List (Nat×Oper)} {F:List Fl} {H:List (Nat×Nat)} {L:List Nat}
theorem lit (h:∀ x,wpQuiet P ops C (fun a'=>wpSg P ops C Q n0 r F H L a' w) [o] (fill F x a)):wpSg P ops C Q n0 ((0,o) :: r) F H L a w:=h
theorem call (h:∀ x w',Below w.heap.size w w'→C w'→Region.wanted o (yielded ops (fill F x a).tmps)=true ∧
 ∀ K:Act→World→Prop,(∀ a'' w'',C w''→w'.heap.size≤w''.heap.size→(∀ g,n0≤g→g < w'.heap.size→w''.heap[g]? = w'.heap[g]?)→wpSg P ops C Q n0 r F ((w'.heap.size,w''.heap.size) :: H) L a'' w''→K a'' w'')→o.wp P (fill F x a) w' K Q) :
 wpSg P ops C Q n0 ((1,o) :: r) F H L a w:=fun x w' hb hc=>⟨(h x w' hb hc).1,(h x w' hb hc).2 _ fun _ _ c s b k=>⟨c,s,b,k⟩⟩
theorem meet {f:Fl} (h:∀ g w',Below w.heap.size w w'→C w'→w'.heap[g]? = some (.cells f.cs f.ty (0,0))→n0≤g→(∀ p∈H,g < p.1∨p.2≤g)→g ∉ L→wpSg P ops C Q n0 r F H (g :: L) (a.put (some f.slot) (sl1 g)) w') :
 wpSg P ops C Q n0 ((2,o) :: r) (f :: F) H L a w:=h
theorem done {Q:Exit→Act→World→Prop} (h:∀ w',Below w.heap.size w w'→C w'→Q .normal a w'):wpSg P ops C (NoPanic Q) n0 [] F H L a w:=h
end
end
end Go.Proofs.YtelgnhmcnfibnaaDoor.Sg
namespace Go.Proofs.YtelgnhmcnfibnaaDoor.Pa
open Go.RowKit Go.Maps
open Fs (Abs St Rs Rst Only Fx Lst Ent OkA addE addA put key ins ow_only put_new ins_at look_none AddPost)
open Rw (Rd Ow At Kind)
open Ro (E5 K5 okE)
open Ck (LL lat RdL Hd sl)
open Fl (R4)
theorem add_next {A:Abs} (h:OkA A) {k:Nat} {n p:Int} {l:List R4} (hc:A[k]? = some (n,p,l)):addE (A.take k) n p l=0∧addA (A.take k) n p l=A.take (k+1):=by
 have hk:k < A.length:=by
  by_cases hk:k < A.length
  ·exact hk
  ·rw [List.getElem?_eq_none (by omega)] at hc;cases hc
 have hm:(n,p,l)∈A:=List.mem_of_getElem? hc;have lt:∀ x∈A.take k,key x < n:=fun x hx=>by
  obtain ⟨i,hi⟩:=List.mem_iff_getElem?.1 hx;have hik:i < k:=by
   have:i < (A.take k).length:=by
    by_cases q:i < (A.take k).length
    ·exact q
    ·rw [List.getElem?_eq_none (by omega)] at hi;cases hi
   rw [List.length_take] at this
   omega
  rw [List.getElem?_take,if_pos hik] at hi;have q:=List.pairwise_iff_getElem.1 h.srt i k (by omega) hk hik;rw [List.getElem?_eq_getElem (by omega)] at hi;rw [List.getElem?_eq_getElem hk] at hc;injection hi with hi;injection hc with hc;rw [hi,hc] at q;exact q
 have hn:Fs.look key n (A.take k)=none:=look_none.2 fun x hx=>by have:=lt x hx;omega
 have e0:addE (A.take k) n p l=0:=by
  unfold addE;rw [if_pos (h.nm _ hm),if_pos (h.good _ hm),hn]
  rfl
 refine ⟨e0,?_⟩;unfold addA;rw [if_pos e0,put_new (c:=(n,p,l)) hn,ins_at (k:=(A.take k).length) (fun x hx=>lt x (List.mem_of_mem_take hx)) (fun x hx=>by rw [List.getElem?_eq_none (Nat.le_refl _)] at hx;cases hx),List.take_length,List.drop_length];rw [List.take_add_one,hc]
 rfl
def St4 (w:World) (s:Nat) (A:Abs) (Q:Nat→Prop):Prop:=∃ F,St w s F A 0∧∀ b,F b→¬ Q b
theorem St4.grow {w w':World} {s:Nat} {A:Abs} {Q Q':Nat→Prop} (h:St4 w s A Q) (o:Only Q w w') (hq:∀ b,Q' b→Fx Q w w' b):St4 w' s A Q':=by
 obtain ⟨F,h,d⟩:=h;refine ⟨F,h.only d o,fun b hb g=>?_⟩
 rcases hq b g with g | ⟨g,_⟩
 ·exact d b hb g
 ·have:=h.low b hb;omega
section
variable {w wr w':World} {n:Nat} {P R:List Nat} {S:Sts} {o1 o2 o3 o4 o':Value} {l1 l2:List Nat} {l3:List Hd} {l4:List Bool}
end
structure J4I (W:World) (Q:Nat→Prop) (s r:Nat) (A:Abs) (j:Nat) (F:Nat→Prop) (wr:World):Prop where
 st:St wr s F (A.take j) 0
 rs:Rs wr r (fun k=>Q k∨F k) A 0
 hi:∀ k,F k→W.heap.size≤k
 bel:Below W.heap.size W wr
section
variable {W wr w':World} {Q:Nat→Prop} {s r j:Nat} {A:Abs} {F:Nat→Prop}
theorem J4I.below (h:J4I W Q s r A j F wr) (b:Below wr.heap.size wr w'):J4I W Q s r A j F w':=⟨h.st.below b,Fs.Rs.below h.rs b,h.hi,h.bel.trans (b.mono h.bel.size)⟩
theorem J4I.step (h:J4I W Q s r A j F wr) (a:St w' s (Fx F wr w') (A.take (j+1)) 0) (o:Only F wr w'):J4I W Q s r A (j+1) (Fx F wr w') w':=by
 have hz:=h.bel.size;refine ⟨a,rs_mono (Fs.Rs.only h.rs (o.mono fun _ _ g=>.inr g)) fun k _ g=>?_,fun k g=>?_,h.bel.trans (o.below hz h.hi)⟩
 ·rcases g with g | g | g
  ·exact .inl (.inl g)
  ·exact .inl (.inr g)
  ·exact .inr g
 ·rcases g with g | g
  ·exact h.hi k g
  ·omega
theorem J4I.done (h:J4I W Q s r A A.length F wr) (hQ:∀ k,Q k→k < W.heap.size):St4 wr s A Q∧Rs wr r Q A 0:=by
 refine ⟨⟨F,by have:=h.st;rw [List.take_length] at this;exact this,fun b hb g=>?_⟩,rs_mono h.rs fun k _ g=>.inl g⟩;have:=h.hi b hb;have:=hQ b g
 omega
end
end Go.Proofs.YtelgnhmcnfibnaaDoor.Pa
namespace Go.Proofs.YtelgnhmcnfibnaaDoor.Pa
open Go.RowKit Go.Maps
open Fs (Abs St Rs Rst Only Fx Lst Ent OkA addE addA new_any new_st below_new add_any AddPost at3 E3 ow_only)
open Rw (Rd Ow At Kind)
open Ro (E5 K5 okE)
open Ck (LL lat RdL Hd sl)
open Fl (R4 K4 okL row_cell row_frozen file)
attribute [local irreducible] Sd.wpSd wpQuiet Sg.wpSg
structure JC (r b o:Nat) (lv:Value) (n p:Int) (u:Value) (W:World):Prop where
 r:W.cell? ⟨r,0,none⟩=some lv
 n:W.cell? ⟨b,o,none⟩=some (.int .i64 n)
 p:W.cell? ⟨b,o+1,none⟩=some (.int .i64 p)
 u:W.cell? ⟨b,o+2,none⟩=some u
end Go.Proofs.YtelgnhmcnfibnaaDoor.Pa
namespace Go.Proofs.YtelgnhmcnfibnaaDoor.Sv
open Go.RowKit Go.Maps
open Fs (Abs St Rs Rst Only Fx Lst Ent OkA addE addA new_st below_new add_any AddPost at3 E3 ow_only)
open Pa (Fls stL rstore_is RstIs J4I JC add_next rs_mono ptr)
open Rw (Rd Ow At Kind)
open Fl (R4 K4 okL row_cell row_frozen file)
attribute [local irreducible] Sd.wpSd wpQuiet
def Ows (B:Nat) (w:World) (k:Nat):Prop:=B≤k∧k < w.heap.size
def BdPost (w:World) (B:Nat) (A:Abs) (e:Ending) (w':World):Prop:=∃ s r F,e = .returned (.tuple #[ptr s,ptr r])∧J4I w (Ows B w) s r A A.length F w'∧w.heap.size≤r
theorem results_tmp2 {fn:Func} {t u:Tmp} (h:fn.results=#[.tmp t,.tmp u]) (tmps:Array Value) (P:Program) (w:World):(results fn tmps).run P w = .ok (.tuple #[tmps.getD t undef,tmps.getD u undef]) w:=by
 simp [results,h]
set_option maxHeartbeats 1000000 in
theorem build_any {w:World} {v:Value} {L:List Ent} {B:Nat} (H:Fls w v L B) (hB:B≤w.heap.size):Calls Tryd.prog 4 #[v] w (BdPost w B (stL L)):=by
 have b1:=below_new w (.cells #[.map none,.int .i64 0] 56);have hz:(w.alloc (.cells #[.map none,.int .i64 0] 56)).heap.size=w.heap.size+1:=by simp
 have N1:=Lib.hid (new_st w);have B1:=Lib.hid b1;have HB:=Lib.hid hB;have RS:=Lib.hid (rstore_is (w:=w.alloc (.cells #[.map none,.int .i64 0] 56)) (B:=B) (H.below b1) (by omega));have HZ:=Lib.hid hz;unfold RstIs ptr at RS;rw [hz] at RS;generalize stL L=A at *;clear b1 hz H hB
 go_enter Tryd.func4,Tryd.ntmps4
 go_wp2_with (go_at_call 9;refine (Fs.new_any _).mono ?_;rintro e w1 ⟨rfl,rfl⟩)
 go_wp2_with fail;refine RS.out.mono ?_;rintro e w2 ⟨rfl,rs2,b2⟩
 have J0:Hid (J4I w (Ows B w) w.heap.size (w.heap.size+1) A 0 (fun x=>x=w.heap.size) w2):=Lib.hid ⟨by rw [List.take_zero];exact N1.out.below (by rw [HZ.out];exact b2),rs_mono rs2 (fun x _ g=>by
  have:=HB.out
  rcases g with g | g
  ·exact ⟨g.1,by have:=g.2;omega⟩
  ·subst g;exact ⟨by omega,by omega⟩),fun x hx=>by subst hx;exact Nat.le_refl _,B1.out.trans (b2.mono (by omega))⟩
 clear RS N1 rs2 b2 B1 HZ HB;generalize hgs:w.heap.size=gs at J0;have HR:Hid (w.heap.size≤gs+1):=Lib.hid (by omega);clear hgs;generalize gs+1=r at *;go_wp2
 go_loopw [6] (fun i wr'=>∃ (j:Nat) (G:Nat→Prop),j≤A.length∧i = .int .i64 j∧Hid (J4I w (Ows B w) gs r A j G wr')) (fun i _=>A.length - (intOf i).toNat)
 case atStart=>exact ⟨0,_,Nat.zero_le _,rfl,J0⟩
 case round =>
  obtain ⟨j,G,hj,rfl,J⟩:=hrel;clear J0;obtain ⟨vL,Ln,⟨row,off1,list,ok1⟩,eL⟩:=J.out.rs;obtain ⟨la,lc,rfl,_,hmL,hL⟩:=list.rd;have lenL:Ln.length=A.length:=by rw [← eL,List.length_map]
  have ROW:=Lib.hid row;have c3:=row_cell row 0;have OKA:Hid (OkA A):=Lib.hid (by rw [← eL];exact ok1);unfold maxLen at hmL;clear row ok1
  by_cases hjl:j < A.length
  ·obtain ⟨b1,of1,rfl,A2⟩:=hL (by omega)
   have LI:=Lib.hid list;obtain ⟨e,he⟩:∃ e:Ent,Ln[j]? = some e:=⟨_,List.getElem?_eq_getElem (by omega)⟩;obtain ⟨d0,d1,d2⟩:=at3 A2 he;have he':A[j]? = some (e.n,e.p,e.l):=by rw [← eL,List.getElem?_map,he];rfl
   have AN:=Lib.hid (add_next OKA.out he');have RE:=Lib.hid (list.file e (List.mem_of_getElem? he));have OE:=Lib.hid (OKA.out.ok _ (List.mem_of_getElem? he'));have NB:Hid (¬ G b1):=Lib.hid (fun g=>list.off (by omega) b1 rfl (.inl (.inr g)));have NR:Hid (¬ G r):=Lib.hid (fun g=>off1 (.inr g));clear list hL A2 he he' off1 eL;obtain ⟨en,ep,ea,ec,el⟩:=e;unfold Ent.sl at d2 RE;simp only at d0 d1 d2 RE OE AN;rw [lenL] at c3;generalize hq:A.length=q at *;generalize hel:el.length=eq at *;have D0:=Lib.hid d0;have D1:=Lib.hid d1;have D2:=Lib.hid d2;go_upto_region 5 with fail;have CC:JC r b1 (of1+j * 3) (.slice (some ⟨b1,of1,none⟩) q lc) en ep (.slice ea eq ec) wr.drew:=⟨c3,D0.out,D1.out,D2.out⟩;have x0:=Sc.cell_in (C:=JC r b1 (of1+j * 3) (.slice (some ⟨b1,of1,none⟩) q lc) en ep (.slice ea eq ec)) (a:=⟨r,0,none⟩) (fun W' h=>h.r);have x1:=Sc.cell_in (C:=JC r b1 (of1+j * 3) (.slice (some ⟨b1,of1,none⟩) q lc) en ep (.slice ea eq ec)) (a:=⟨b1,of1+j * 3,none⟩) (fun W' h=>h.n);have x2:=Sc.cell_in (C:=JC r b1 (of1+j * 3) (.slice (some ⟨b1,of1,none⟩) q lc) en ep (.slice ea eq ec)) (a:=⟨b1,of1+j * 3+1,none⟩) (fun W' h=>h.p);have x3:=Sc.cell_in (C:=JC r b1 (of1+j * 3) (.slice (some ⟨b1,of1,none⟩) q lc) en ep (.slice ea eq ec)) (a:=⟨b1,of1+j * 3+2,none⟩) (fun W' h=>h.u);have x4:=Sc.cell_in (C:=JC r b1 (of1+j * 3) (.slice (some ⟨b1,of1,none⟩) q lc) en ep (.slice ea eq ec)) (a:=⟨b1,of1+j * 3+1+1,none⟩) (fun W' h=>h.u);have ne:Nonempty (Sc.In (JC r b1 (of1+j * 3) (.slice (some ⟨b1,of1,none⟩) q lc) en ep (.slice ea eq ec))):=⟨⟨_,CC⟩⟩;have J1:=Lib.hid (J.out.below (Below.refl wr.heap.size wr).drew);have AD:=Lib.hid (add_any J1.out.st en ep (.slice ea eq ec) el RE.out OE.out);unfold file AddPost at AD;rw [AN.out.1,AN.out.2] at AD;refine Sc.start (JC r b1 (of1+j * 3) (.slice (some ⟨b1,of1,none⟩) q lc) en ep (.slice ea eq ec)) [(false,0),(false,1),(false,2),(false,3),(false,4),(false,5),(false,6),(false,7),(false,8),(false,9),(false,10),(false,11),(false,12),(false,13),(false,14),(false,15),(false,16),(true,17)] (by kernel_rfl) (by kernel_rfl) (by kernel_rfl) CC ?_;dsimp only [Sd.picks,List.getElem?_cons_succ,List.getElem?_cons_zero]
   repeat (refine Sd.lit ?_;quiet_step (fail);refine wpQuiet_nil ?_)
   clear x0 x1 x2 x3 x4 c3 D0 D1 D2 d0 d1 d2 J;generalize wr.drew=Wd at *;refine Sd.call (by rfl) (fun K hK=>?_);go_simp;refine AD.out.mono ?_;rintro e w5 ⟨rfl,st5,o5⟩;refine hK _ _ (Sc.Cl.of ⟨o5.cell CC.r NR.out,o5.cell CC.n NB.out,o5.cell CC.p NB.out,o5.cell CC.u NB.out⟩) ?_;have J5:=Lib.hid (J1.out.step st5 o5);clear hK K st5 o5 AD CC J1 ROW;refine Sd.done ?_;go_wp2
   go_roundw
   case rel=>exact ⟨j+1,_,by omega,by go_num,J5⟩
   case measure=>simp [intOf];omega
  ·obtain rfl:j=A.length:=by omega
   rw [lenL] at c3;have JJ:=Lib.hid J.out;clear J list ROW;generalize hm:A.length=m at *;have HM:=Lib.hid hm;clear hm;go_wp2
   (try simp only [Exit.inBlock,Exit.then])
   exact bodyPost_ret (v:=.tuple #[ptr gs,ptr r]) (results_tmp2 (t:=2) (u:=3) rfl _ _ _) rfl ⟨gs,r,G,rfl,by rw [HM.out];exact JJ.out,HR.out⟩
end Go.Proofs.YtelgnhmcnfibnaaDoor.Sv
namespace Go.Proofs.YtelgnhmcnfibnaaDoor.Fs
open Go.ChangeShapes Go.WideShapes Go.ChangeAt Go.RowKit Go.Deep
open Rw (Rd Ow At)
open Fl (R4 z4 K4 rec4 okR okL rec_cells recs_of)
section
variable {H:Type} {enc:TypeId×Value→H} {W:World} {base fuel:Nat} {sp:Nat→Bool} {held:Bool} {cs:List Value} {x:DataW H×List MemPlace}
theorem file_cells (h:DataW.trod enc Tryd.prog W base sp held fuel 46 cs=some x):∃ q u l,cs = [.int .i64 q,u]∧Rd K4 W u l∧okL l:=by
 have c2:Tryd.prog.cellsOf 46=2:=by kernel_rfl
 have c1:Tryd.prog.cellsOf 3=1:=by kernel_rfl
 have c3:Tryd.prog.cellsOf 44=1:=by kernel_rfl
 obtain ⟨xs,m,_,_,hs,hx,hi⟩:=DataW.trod_struct Tryd.underlying46 h;rw [c2] at hs
 match cs,hs,xs,hx,hi with
 | [u,v],_,[x0,x1],_,hi =>
   have e0:DataW.trod enc Tryd.prog W base sp held m 3 (([u,v].drop 0).take (Tryd.prog.cellsOf 3))=some x0:=hi 0 _ rfl;have e1:DataW.trod enc Tryd.prog W base sp held m 44 (([u,v].drop 1).take (Tryd.prog.cellsOf 44))=some x1:=hi 1 _ rfl;rw [c1] at e0;rw [c3] at e1;obtain ⟨a,ha,_⟩:=DataW.trod_int Tryd.underlying3 (x:=x0) e0
   simp at ha
   subst ha;obtain ⟨l,R,ok⟩:=recs_of (u:=v) e1;exact ⟨a,v,l,rfl,R,ok⟩
end
def laid : List (String × DataW Unit) := [("errors.errorType", Rows.laid_errors_errorType)]
theorem et : Tryd.prog.globalNamed "errors.errorType" = some 0 := by kernel_rfl
theorem rt : (Tryd.prog.cutTypes.find? (·.1 == "internal/reflectlite.rtype")).map (·.2) = some 115 := by kernel_rfl
theorem oneRow:((List.range 197).filter fun t=>Tryd.prog.rowNamed t [101,114,114,111,114]) = [65]:=by kernel_rfl
theorem tsize:Tryd.prog.types.size=197:=by kernel_rfl
theorem glob_of {W:World} (h:laidMetH Tryd.prog laid W):Glob W:=by
 have h':laidMet Tryd.prog [] W∧handlesMet Tryd.prog laid W:=h;obtain ⟨name,u,ty,e1,e2,e3,e4,e5⟩:=h'.2 _ (List.mem_singleton.2 rfl);have en:name = [101,114,114,111,114]:=(Option.some.inj e1).symm;subst en;obtain rfl:=Option.some.inj (rt.symm.trans e2);have hm:ty∈(List.range 197).filter fun t=>Tryd.prog.rowNamed t [101,114,114,111,114]:=List.mem_filter.2 ⟨List.mem_range.2 (by rw [← tsize];exact e3),e4⟩;rw [oneRow] at hm;obtain rfl:=List.mem_singleton.1 hm;have hh:typeHandle Tryd.prog 65 = .pointer (some ⟨1,65,none⟩):=by kernel_rfl
 rw [hh] at e5;have:=World.var?_cell et e5 0;unfold Glob
 simpa using this
noncomputable def laidWorld (os:Os):World :=
 let w0:=World.holding Tryd.prog os ⟨#[],#[],[]⟩
 { w0 with heap:=w0.heap.modify 0 fun
  | .cells _ t frozen=>.cells #[.iface 115 (.agg #[.pointer (some ⟨1,65,none⟩)])] t frozen
  | o=>o }
theorem laidWorld_met (os:Os) (args:Array Value):laidMetH Tryd.prog laid ((laidWorld os).forCall (fun _ _=>0) ⟨#[],args,[]⟩).memory :=
 laidMetH_of_parts (laidMet_nil _ _) (by kernel_rfl)
end Go.Proofs.YtelgnhmcnfibnaaDoor.Fs
namespace Go.Proofs.YtelgnhmcnfibnaaDoor.Ro
open Go.ChangeShapes Go.WideShapes Go.ChangeAt Go.RowKit Go.Deep
open Rw (Rd Ow At)
end Go.Proofs.YtelgnhmcnfibnaaDoor.Ro
namespace Go.Proofs.YtelgnhmcnfibnaaDoor.Pa
open Go.ChangeShapes Go.WideShapes Go.ChangeAt Go.RowKit Go.Deep
open Rw (Rd Ow At)
open Fl (R4 z4 K4 okR okL)
open Fs (Ent E3 file_cells)
open Ro (E5 K5)
open Ck (Hd sl)
theorem open_rd {α:Type} {K:Rw.Kind α} (Q:α→Prop) {H:Type} {enc:TypeId×Value→H} {W:World} {u:Value} {base fuel:Nat} {sp:Nat→Bool} {held:Bool} {x:DataW H×List MemPlace} {T E:TypeId}
 (hu:Tryd.prog.underlying T=some (.slice E)) (hc:Tryd.prog.cellsOf E=K.n) (el:∀ {n:Nat} {cs:List Value} {y:DataW H×List MemPlace},DataW.trod enc Tryd.prog W base sp held n E cs=some y→∃ r:α,cs=K.enc r∧Q r)
 (h:DataW.trod enc Tryd.prog W base sp held fuel T [u]=some x):∃ l,Rd K W u l∧∀ r∈l,Q r:=by
 rcases open_slice hu h with ⟨e,_⟩ | ⟨a,len,cap,m,n,D,Pl,e,_,hl,hm,hmm,_,hx⟩
 ·simp at e
  subst e;exact ⟨[],Rw.Rd.nil _,fun r hr=>by cases hr⟩
 ·simp at e
  subst e;have hlm:len≤m:=by rw [hmm];split <;> omega
  have each:∀ i,i < m→∃ r:α,Q r∧∀ j u,(K.enc r)[j]? = some u→W.cell? (a.add (i * K.n+j))=some u:=fun i hi=>by
   obtain ⟨cs',h1,h2⟩:=hx i hi;rw [hc] at h1;obtain ⟨_,hlen,hcell⟩:=World.cells?_some h1;obtain ⟨r,rfl,ok⟩:=el h2;refine ⟨r,ok,fun j u hu=>?_⟩;have hj:j < K.n:=by have:=(List.getElem?_eq_some_iff.1 hu).1;rw [hlen] at this;exact this
   have e:=hcell j hj;rw [add_add] at e;exact e.trans hu
  haveI:Inhabited α:=⟨K.dft⟩
  obtain ⟨q,hq⟩:=choose_lt each;have hlen:((List.range len).map q).length=len:=by simp
  have get:∀ i,i < len→((List.range len).map q).getD i K.dft=q i:=fun i hi=>by simp [List.getD,hi]
  refine ⟨(List.range len).map q,⟨some a,cap,by rw [hlen],⟨by rw [hlen];exact hl,nofun⟩,hm,fun h0=>?_⟩,fun r hr=>?_⟩
  ·rw [hlen] at h0
   obtain ⟨b,off,spot⟩:=a;have hp:0 < (K.enc (q 0)).length:=by rw [K.len];exact K.pos
   have c0:=(hq 0 (by omega)).2 0 _ (List.getElem?_eq_getElem hp);have hs:spot=none:=by simpa [Addr.add] using World.cell?_spot c0
   subst hs;refine ⟨b,off,rfl,fun i hi j u hu=>?_⟩;rw [hlen] at hi;have hu':(K.enc (q i))[j]? = some u:=by rw [← get i hi];exact hu
   have c:=(hq i (by omega)).2 j u hu';rw [add_plain] at c
   show W.cell? ⟨b,off+i * K.n+j,none⟩=some u
   rw [Nat.add_assoc];exact c
  ·obtain ⟨i,hi,rfl⟩:=List.mem_map.1 hr
   exact (hq i (by have:=List.mem_range.1 hi;omega)).1
section
variable {H:Type} {enc:TypeId×Value→H} {W:World} {base fuel:Nat} {sp:Nat→Bool} {held:Bool} {cs:List Value} {x:DataW H×List MemPlace}
theorem named_cells (h:DataW.trod enc Tryd.prog W base sp held fuel 48 cs=some x):∃ c:Ent,cs=E3.enc c∧Rd K4 W c.sl c.l∧okL c.l:=by
 have c3:Tryd.prog.cellsOf 48=3:=by kernel_rfl
 have c1:Tryd.prog.cellsOf 3=1:=by kernel_rfl
 have c2:Tryd.prog.cellsOf 46=2:=by kernel_rfl
 obtain ⟨xs,m,_,_,hs,hx,hi⟩:=DataW.trod_struct Tryd.underlying48 h;rw [c3] at hs
 match cs,hs,xs,hx,hi with
 | [u0,u1,u2],_,[x0,x1],_,hi =>
   have e0:DataW.trod enc Tryd.prog W base sp held m 3 (([u0,u1,u2].drop 0).take (Tryd.prog.cellsOf 3))=some x0:=hi 0 _ rfl;have e1:DataW.trod enc Tryd.prog W base sp held m 46 (([u0,u1,u2].drop 1).take (Tryd.prog.cellsOf 46))=some x1:=hi 1 _ rfl;rw [c1] at e0;rw [c2] at e1;obtain ⟨k,hk,_,wk⟩:=DataW.trod_int Tryd.underlying3 (x:=x0) e0;obtain ⟨p,u,l,h3,R,okl⟩:=file_cells e1;obtain ⟨a,cap,rfl,_⟩:=R.slice;have k' : [u0] = [.int .i64 k]:=hk;have h3' : [u1,u2] = [.int .i64 p,.slice a l.length cap]:=h3;simp only [List.cons.injEq,and_true] at k' h3';obtain rfl:=k';obtain ⟨rfl,rfl⟩:=h3';exact ⟨⟨k,p,a,cap,l⟩,rfl,R,okl⟩
end
end Go.Proofs.YtelgnhmcnfibnaaDoor.Pa
namespace Go.Proofs.YtelgnhmcnfibnaaDoor.Ad
open Go.ChangeShapes Go.WideShapes Go.ChangeAt Go.RowKit Go.Deep
theorem okWide_array {P:Program} {w:World} {r:Reach} {base n:Nat} {t e:TypeId} {v:Value} (ht:P.underlying t=some (.array n e)) (h:Value.okWide P w r base t v):∃ cs,v = .agg cs∧cs.size=P.cellsOf t:=by
 simp only [Value.okWide,ht] at h;obtain ⟨cs,h1,h2,_⟩:=h;exact ⟨cs,h1,h2⟩
theorem addr_of {H:Type} {enc:TypeId×Value→H} {W:World} {v:Value} {base:Nat} {sp:Nat→Bool} {held:Bool} {d:DataW H} {p:List MemPlace} {r:Reach} {b0:Nat}
 (hv:Value.okWide Tryd.prog W r b0 24 v) (h:DataW.Trod enc Tryd.prog W base sp held 24 v d p):∃ o f r,v=addr o f r:=by
 obtain ⟨⟨l⟩,rfl,hs⟩:=WideShapes.okWide_struct Tryd.underlying24 hv;have c3:Tryd.prog.cellsOf 24=3:=by kernel_rfl
 have c1:Tryd.prog.cellsOf 3=1:=by kernel_rfl
 rw [c3] at hs;obtain ⟨fuel,hf⟩:=h;obtain ⟨xs,m,_,_,_,hx,hi⟩:=DataW.trod_struct Tryd.underlying24 hf
 match l,hs,xs,hx,hi with
 | [u,v,w],_,[x0,x1,x2],_,hi =>
   have e0:DataW.trod enc Tryd.prog W base sp held m 3 (([u,v,w].drop 0).take (Tryd.prog.cellsOf 3))=some x0:=hi 0 _ rfl;have e1:DataW.trod enc Tryd.prog W base sp held m 3 (([u,v,w].drop 1).take (Tryd.prog.cellsOf 3))=some x1:=hi 1 _ rfl;have e2:DataW.trod enc Tryd.prog W base sp held m 3 (([u,v,w].drop 2).take (Tryd.prog.cellsOf 3))=some x2:=hi 2 _ rfl;rw [c1] at e0 e1 e2;obtain ⟨a,ha,_⟩:=DataW.trod_int Tryd.underlying3 (x:=x0) e0;obtain ⟨b,hb,_⟩:=DataW.trod_int Tryd.underlying3 (x:=x1) e1;obtain ⟨c,hc,_⟩:=DataW.trod_int Tryd.underlying3 (x:=x2) e2
   simp at ha hb hc
   subst ha hb hc;exact ⟨a,b,c,rfl⟩
end Go.Proofs.YtelgnhmcnfibnaaDoor.Ad
namespace Go.Proofs.YtelgnhmcnfibnaaDoor.Sv
open Go.ChangeShapes Go.WideShapes Go.ChangeAt Go.RowKit Go.Deep
open Fs (E3)
open Pa (Fls eatF open_rd named_cells)
open Rw (Rd)
open Fl (K4 okL R4 okR rec4)
section
variable {H:Type} {enc:TypeId×Value→H} {W:World} {v:Value} {base:Nat} {sp:Nat→Bool} {held:Bool} {d:DataW H} {p:List MemPlace} {r:Reach} {b0:Nat}
theorem named_of (hv:Value.okWide Tryd.prog W r b0 22 v) (h:DataW.Trod enc Tryd.prog W base sp held 22 v d p):∃ L,Fls W v L W.heap.size:=by
 obtain ⟨a,len,cap,rfl⟩:=okWide_slice Tryd.underlying22 hv;obtain ⟨fuel,hf⟩:=h;obtain ⟨L,R,Q⟩:=open_rd (K:=E3) (fun e=>Rd K4 W e.sl e.l∧okL e.l) Tryd.underlying22 (by kernel_rfl) (fun h=>named_cells h) (u:=.slice a len cap) hf;have mem:∀ j,j < L.length→eatF L j∈L:=fun j hj=>by
  unfold eatF;rw [List.getD_eq_getElem?_getD,List.getElem?_eq_getElem hj];exact List.getElem_mem hj
 exact ⟨L,R,fun j hj=>Q _ (mem j hj),fun j hj h0 k hk=>Fs.rd_low (Q _ (mem j hj)).1 h0 k hk⟩
theorem rec_of (hv:Value.okWide Tryd.prog W r b0 26 v) (h:DataW.Trod enc Tryd.prog W base sp held 26 v d p):∃ x:R4,v=rec4 x∧okR x:=b4_of Tryd.underlying26 (by kernel_rfl) hv h
end
end Go.Proofs.YtelgnhmcnfibnaaDoor.Sv
