import Derived.Test.YtljnkaodhfnbbaaGreatDoorPi4
import Derived.Deep.Cut
import Derived.Test.YtljnkaodhfnbbaaGreatDoorPi3
import Derived.Maps.OwnOps
import Derived.Maps.RangeWalk
import Derived.Test.YtljnkaodhfnbbaaGreatDoorPi1
import Derived.Test.YtljnkaodhfnbbaaGreatDoorPi2
import Derived.Shelf.Abstract
set_option maxRecDepth 100000
namespace Go.Proofs.YtljnkaodhfnbbaaGreatDoor.Pa
open Go.RowKit Go.Maps
open Fs (Wf law keyI Rh)
open Rw (Rd Ow At)
open Fl (row_cell row_frozen)
open Ro (E5 z5 eat K5 at5 okE okB ok_yes ent good_any okE_bounds)
attribute [local irreducible] Sd.wpSd wpQuiet
structure RcI (w:World) (t:List E5) (k:Nat) (N:Nat) (vs:Int→Int→Value) (D:DataW Value) (wr:World):Prop where
 gm:Gm wr w.heap.size N (t.take k) vs D
 le:N≤k
 bel:Below w.heap.size w wr
theorem RcI.below {w:World} {t:List E5} {k N:Nat} {vs:Int→Int→Value} {D:DataW Value} {wr wr':World} (h:Hid (RcI w t k N vs D wr)) (b:Below wr.heap.size wr wr'):Hid (RcI w t k N vs D wr'):=⟨h.out.gm.below b,h.out.le,h.out.bel.trans (b.mono h.out.bel.size)⟩
def RecdPost (w:World) (t:List E5) (e:Ending) (w':World):Prop:=∃ b N vs D,e = .returned (.map (some b))∧Gm w' b N t vs D∧w.heap.size≤b∧N≤t.length∧Below w.heap.size w w'
theorem Gm.to {w:World} {b N:Nat} {t t':List E5} {vs:Int→Int→Value} {D:DataW Value} (h:Gm w b N t vs D) (e:∀ f r,grp t f r=grp t' f r):Gm w b N t' vs D :=
 ⟨h.own,fun f r hf hr=>by rw [← e f r];exact h.has f r hf hr,fun f r hf hr hg=>h.val f r hf hr (by rw [e f r];exact hg),fun f r hg=>h.nil f r (by rw [e f r];exact hg),fun f r=>by rw [← e f r];exact h.row f r,h.far⟩
set_option maxHeartbeats 400000 in
theorem received_any (w:World) (v:Value) (t:List E5) (R:Rd K5 w v t) (ok:∀ x∈t,okE x) (hl:t.length≤1000):Calls Tryz.prog 144 #[v] w (RecdPost w t):=by
 have OK:Hid (∀ k,k < t.length→okE (eat t k)):=fun k hk=>ok _ (Ro.eat_mem hk);have hmm:=@run_makeMap Tryz.prog;have G0:Hid (RcI w t 0 0 (fun _ _=>.slice none 0 0) (.map []) (w.alloc (.map #[] 0))):=⟨gm_new w,Nat.le_refl _,(Below.refl w.heap.size w).alloc (Nat.le_refl _) _⟩;obtain ⟨a,cap,rfl,_,hm,hA⟩:=R;have HA:=Lib.hid hA;clear hA ok;generalize hn:t.length=n at *;have HN:=Lib.hid hn;clear hn
 go_enter Tryz.func144,Tryz.ntmps144
 go_wp2;clear hmm
 go_loopw [10] (fun i wr=>∃ (k:Nat) (N:Nat) (vs:Int→Int→Value) (D:DataW Value),k≤n∧i = .int .i64 k∧Hid (RcI w t k N vs D wr)) (fun i _=>n - (intOf i).toNat)
 case atStart=>exact ⟨0,0,_,_,Nat.zero_le _,rfl,G0⟩
 case round =>
  obtain ⟨k,N,vs,D,hk,rfl,I⟩:=hrel;clear G0
  by_cases hlt:k < n
  ·obtain ⟨b,off,rfl,A⟩:=HA.out (by omega)
   obtain ⟨c0,c1,c2,c3,c4⟩:=at5 (A.below I.out.bel) k (by have:=HN.out;omega);rw [show t.getD k z5=eat t k from rfl] at c0 c1 c2 c3 c4;have oke:=OK.out k (by have:=HN.out;omega);have TK:=Lib.hid (take_eat (t:=t) (j:=k) (by have:=HN.out;omega));have NO:Hid ((eat t k).1≠2→Hid (RcI w t (k+1) N vs D wr)):=fun h=>⟨I.out.gm.to (fun f r=>by rw [TK.out,grp_snoc,if_neg];simp [mt,h]),by have:=I.out.le;omega,I.out.bel⟩;clear A OK;generalize eat t k=x at *;obtain ⟨q,s,f,r,y⟩:=x;simp only at c0 c1 c2 c3 c4 NO;have GA:=Lib.hid (fun w=>good_any w (q,s,f,r,y));rw [ok_yes oke] at GA;unfold ent at GA;simp only at GA;have OKE:=Lib.hid oke;clear oke
   by_cases h2:q=2
   ·clear NO
    subst h2;obtain ⟨_,_,⟨f0,f1⟩,⟨r0,r1⟩,_⟩:=okE_bounds OKE.out;simp only at f0 f1 r0 r1;have WF:=Lib.hid (wf_of (n:=f) ⟨f0,by omega⟩);have WR:=Lib.hid (wf_of (n:=r) ⟨r0,by omega⟩);clear f0 f1 r0 r1;go_wp2_with fail;refine (GA.out _).mono ?_;rintro e w1 ⟨rfl,b1⟩;have X1:Hid (w1.heap[wr.heap.size]? = some (.cells #[.int .i64 2,.int .i64 s,.int .i64 f,.int .i64 r,.int .i64 y] 87 (0,0))):=Lib.hid ((b1.block _ (by simp)).trans (heap_alloc_new wr _));have B1:Hid (Below wr.heap.size wr w1):=Lib.hid (((Below.refl wr.heap.size wr).alloc (Nat.le_refl _) _).trans (b1.mono (by simp)));have x2:w1.cell? ⟨wr.heap.size,2,none⟩=some (.int .i64 f):=row_cell X1.out 2;have x3:w1.cell? ⟨wr.heap.size,3,none⟩=some (.int .i64 r):=row_cell X1.out 3;clear b1 c0 c1 c2 c3 c4 GA;go_upto_region 7 with fail;have P2:Hid ((w1.alloc (.cells #[.int .i64 f,.int .i64 r] 248)).heap[w1.heap.size]? = some (.cells #[.int .i64 f,.int .i64 r] 248 (0,0))):=Lib.hid (heap_alloc_new w1 _);have B2:Hid (Below w1.heap.size w1 (w1.alloc (.cells #[.int .i64 f,.int .i64 r] 248))):=Lib.hid ((Below.refl w1.heap.size w1).alloc (Nat.le_refl _) _);clear x2 x3;generalize (w1.alloc (.cells #[.int .i64 f,.int .i64 r] 248))=W at *;have X2:=Lib.hid ((B2.out.block _ (lt_of_block X1.out)).trans X1.out);have GB:=Lib.hid (B1.out.trans (B2.out.mono B1.out.size));have hgw:w1.heap.size < W.heap.size:=lt_of_block P2.out;generalize w1.heap.size=g2 at *;clear B1 B2 X1;have p0:W.cell? ⟨g2,0,none⟩=some (.int .i64 f):=row_cell P2.out 0;have p1:W.cell? ⟨g2,1,none⟩=some (.int .i64 r):=row_cell P2.out 1;have x0:W.cell? ⟨wr.heap.size,0,none⟩=some (.int .i64 2):=row_cell X2.out 0;have x1:W.cell? ⟨wr.heap.size,1,none⟩=some (.int .i64 s):=row_cell X2.out 1;have x2:W.cell? ⟨wr.heap.size,2,none⟩=some (.int .i64 f):=row_cell X2.out 2;have x3:W.cell? ⟨wr.heap.size,3,none⟩=some (.int .i64 r):=row_cell X2.out 3;have x4:W.cell? ⟨wr.heap.size,4,none⟩=some (.int .i64 y):=row_cell X2.out 4;have bL:=(Below.refl W.heap.size W).alloc (Nat.le_refl _) (.cells #[.int .i64 2,.int .i64 s,.int .i64 f,.int .i64 r,.int .i64 y] 87);have GM:=(I.out.gm.below (GB.out.trans (bL.mono (GB.out.size)))).step (x:=(2,s,f,r,y)) (by have:=I.out.le;unfold maxLen;omega) rfl WF.out WR.out;obtain ⟨st,w2,hE,hg2,hz2,hS⟩:=GM;simp only at hE hS;have hwb:w.heap.size < wr.heap.size:=I.out.gm.own.lt;have hr2:=World.ownsRow.kept (World.ownsRow.alloc ((I.out.gm.row f r).keep GB.out) (.cells #[.int .i64 2,.int .i64 s,.int .i64 f,.int .i64 r,.int .i64 y] 87)) hg2 (.inr fun e=>by have:=World.ownsRow.lt (I.out.gm.row f r) _ e;omega);have L2:Hid (w2.heap[W.heap.size]? = some (.cells #[.int .i64 2,.int .i64 s,.int .i64 f,.int .i64 r,.int .i64 y] 87 (0,0))):=Lib.hid ((hg2.block _ (by simp) (fun e=>by have:=Option.some.inj e;have:=GB.out.size;omega)).trans (heap_alloc_new W _));have hz3:W.heap.size+1=w2.heap.size:=by rw [hz2];simp
    have BW:Hid (Below w.heap.size w w2):=Lib.hid (((I.out.bel.trans (GB.out.mono I.out.bel.size)).alloc (by have:=GB.out.size;omega) (.cells #[.int .i64 2,.int .i64 s,.int .i64 f,.int .i64 r,.int .i64 y] 87)).grown hg2 (by have:=GB.out.size;simp;omega) (fun k e=>by injection e with e;omega));have O2:Hid (Ow K5 w2 (w.heap.size+1) 87 (vs f r) (grp (t.take k) f r)):=Lib.hid hr2;have gw:=GB.out.size;have HX:=Lib.hid (And.intro hwb (And.intro hz3 gw));have GX:=Lib.hid hS;obtain ⟨av,cv,ev,_⟩:=O2.out.slice;generalize hgl:(grp (t.take k) f r).length=gl at ev;have HGL:=Lib.hid hgl;have EV:=Lib.hid ev;unfold plc at hE;rw [ev] at hE O2;clear hg2 hz2 hS bL hr2 hwb hz3 gw ev hgl
    go_wp2_with (at_builtin;refine push_group rfl _ _ rfl (w.heap.size+1) _ _ rfl O2.out _ ((2,s,f,r,y):E5) rfl ?d1 ?d2 ?d3 ?_)
    case d1 =>
     intro j u hu
     match j,hu with
     | 0,hu=>simp [K5] at hu;subst hu;exact row_cell L2.out 0
     | 1,hu=>simp [K5] at hu;subst hu;exact row_cell L2.out 1
     | 2,hu=>simp [K5] at hu;subst hu;exact row_cell L2.out 2
     | 3,hu=>simp [K5] at hu;subst hu;exact row_cell L2.out 3
     | 4,hu=>simp [K5] at hu;subst hu;exact row_cell L2.out 4
     | j+5,hu=>simp [K5] at hu
    case d2 =>
     have:=List.length_filter_le (mt f r) (t.take k);have h2:(t.take k).length≤1000:=by rw [List.length_take];have:=HN.out;omega
     unfold grp
     omega
    case d3=>have:=HX.out;omega
    intro v' w3 o3 g3 h3
    have hS:=GX.out;rw [EV.out] at hS;obtain ⟨w4,D',hS4,g4,G4⟩:=hS w3 v' g3 o3 (h3.imp id fun ⟨g,e,h⟩=>⟨g,e,h⟩);obtain ⟨av',cv',ev',_⟩:=o3.slice;generalize (grp (t.take k) f r ++ [((2,s,f,r,y):E5)]).length=gl' at ev';subst ev';have NEW:Hid (RcI w t (k+1) (N+1) (upP vs f r (.slice av' gl' cv')) D' w4):=Lib.hid ⟨by rw [TK.out];exact G4,by have:=I.out.le;omega,(BW.out.grown g3 (by have:=HX.out;omega) (fun k e=>by have:=World.ownsRow.lt O2.out k e;omega)).grown g4 (by have:=HX.out;have:=g3.size;omega) (fun k e=>by injection e with e;omega)⟩;clear hS o3 g3 h3 g4 G4 hE;go_wp2
    go_roundw
    case rel=>exact ⟨k+1,N+1,_,D',by omega,by go_num,NEW⟩
    case measure=>simp [intOf];omega
   ·have NN:=NO.out h2
    clear NO;have d2:(q == 2)=false:=by simpa using h2
    clear h2;go_wp2
    go_roundw
    case rel=>exact ⟨k+1,N,vs,D,by omega,by go_num,RcI.below NN ((Below.refl wr.heap.size wr).alloc (Nat.le_refl _) _)⟩
    case measure=>simp [intOf];omega
  ·obtain rfl:k=n:=by omega
   have E:Hid (RecdPost w t (.returned (.map (some w.heap.size))) wr):=⟨_,N,vs,D,rfl,by have h:=I.out.gm;rw [← HN.out,List.take_length] at h;exact h,Nat.le_refl _,by have:=I.out.le;have:=HN.out;omega,I.out.bel⟩;go_wp2
   go_ret
   exact E.out
end Go.Proofs.YtljnkaodhfnbbaaGreatDoor.Pa
namespace Go.Proofs.YtljnkaodhfnbbaaGreatDoor.Pa
open Go.RowKit Go.Maps
open Fs (Abs St Only Fx Wf Rh gB gV sA sB set_any SetPost get_st GetPost)
open Rw (Rd Ow At)
open Ro (E5 z5 eat K5 at5 okE ent)
open Fl (R4 z4 rec4 okR arr4 row_cell row_frozen)
attribute [local irreducible] Sd.wpSd wpQuiet
theorem arr4_set (v:R4) (x:Int) {j:Nat} (hj:j < 4):(arr4 v).setIfInBounds j (.int .u8 x)=arr4 (rs v j x):=by
 obtain rfl | rfl | rfl | rfl:j=0∨j=1∨j=2∨j=3:=by omega
 all_goals rfl
theorem arr4_get (v:R4) {j:Nat} (hj:j < 4):(arr4 v)[j]? = some (.int .u8 (rb v j)):=by
 obtain rfl | rfl | rfl | rfl:j=0∨j=1∨j=2∨j=3:=by omega
 all_goals rfl
structure RvI (w:World) (f r:Int) (gv:Nat) (v:R4) (wr:World):Prop where
 bel:Below w.heap.size w wr
 box:wr.heap[w.heap.size]? = some (.cells #[.int .i64 f,.int .i64 r] 248 (0,0))
 cel:wr.heap[gv]? = some (.cells (arr4 v) 42 (0,0))
 gt:w.heap.size < gv
theorem RvI.below {w wr wr':World} {f r:Int} {gv:Nat} {v:R4} (h:RvI w f r gv v wr) (b:Below wr.heap.size wr wr'):RvI w f r gv v wr' :=
 ⟨h.bel.trans (b.mono h.bel.size),(b.block _ (lt_of_block h.box)).trans h.box,(b.block _ (lt_of_block h.cel)).trans h.cel,h.gt⟩
theorem RvI.put {w wr:World} {f r:Int} {gv:Nat} {v:R4} (h:RvI w f r gv v wr) {j:Nat} (hj:j < 4) (x:Int):RvI w f r gv (rs v j x) (wr.setCell ⟨gv,j,none⟩ (.int .u8 x)) :=
 ⟨h.bel.setCell (by have:=h.gt;simp;omega) _,(Below.heap_setCell _ _ _ _ (by have:=h.gt;simp;omega)).trans h.box,by rw [Rw.heap_setCell_same h.cel,arr4_set v x hj],h.gt⟩
def RcvPost (w:World) (s:Nat) (F:Nat→Prop) (d:Int) (A':Abs) (e:Ending) (w':World):Prop:=e = .returned (.tuple #[])∧St w' s (Fx F w w') A' d∧Only F w w'
theorem mix_next {h:Hr} {l:List E5} {k:Nat} (hk:k < l.length) (v:R4):mix h (l.take (k+1)) v=rs (mix h (l.take k) v) (eat l k).2.2.2.2 ((h (eat l k).2.1).getD 0):=by
 unfold mix;rw [take_eat hk,List.foldl_append]
 rfl
set_option maxHeartbeats 400000 in
theorem receive_any {w:World} {s:Nat} {F:Nat→Prop} {A:Abs} {d:Int} (S:St w s F A d) {f r:Int} (hf:Wf f) {v hv:Value} {l:List E5} (R:Rd K5 w v l) {h:Hr} (M:HMap w hv h) (hh:okH h) (hl:∀ x∈l,Wf x.2.1∧0≤x.2.2.2.2∧x.2.2.2.2≤3) :
 Calls Tryz.prog 145 #[.pointer (some ⟨s,0,none⟩),.agg #[.int .i64 f,.int .i64 r],v,hv] w (RcvPost w s F d (rcv1 h l f r A)):=by
 have HL:Hid (∀ k,k < l.length→Wf (eat l k).2.1∧0≤(eat l k).2.2.2.2∧(eat l k).2.2.2.2≤3):=fun k hk=>hl _ (Ro.eat_mem hk);have G1:=Lib.hid (fun W (b:Below w.heap.size w W)=>get_st (S.below b) hf r);have ok0:okR (gV A f r):=by
  have hA:=S.okA;unfold gV
  split
  ·exact Fl.okR_z
  ·rename_i e he
   split
   ·exact Fl.okR_at (hA.find he).2.2.1 _
   ·exact Fl.okR_z
 have FIN:Hid (gB A f r=true→(∀ k,k < l.length→(h (eat l k).2.1).isSome=true)→rcv1 h l f r A=sA A f r (mix h l (gV A f r))):=fun hg ha=>by
  unfold rcv1;rw [if_pos];rw [hg,Bool.true_and];unfold allH;rw [List.all_eq_true]
  intro x hx
  obtain ⟨k,hk,e⟩:=List.getElem_of_mem hx;have e':eat l k=x:=by rw [← e];unfold eat;rw [List.getD_eq_getElem?_getD,List.getElem?_eq_getElem hk];rfl
  rw [← e'];exact ha k hk
 have NOG:Hid (gB A f r=false→rcv1 h l f r A=A):=fun hg=>by unfold rcv1;rw [if_neg (by simp [hg])]
 have NOH:Hid (∀ k,k < l.length→h (eat l k).2.1=none→rcv1 h l f r A=A):=fun k hk e=>by
  unfold rcv1;rw [if_neg]
  intro ha
  rw [Bool.and_eq_true] at ha;have:=List.all_eq_true.1 ha.2 _ (Ro.eat_mem hk);rw [e] at this
  cases this
 have SET:=Lib.hid (fun W (b:Below w.heap.size w W)=>set_any (S.below b) hf r (mix h l (gV A f r)) (mix_ok hh l ok0));have SAME:Hid (∀ W,Below w.heap.size w W→rcv1 h l f r A=A→RcvPost w s F d (rcv1 h l f r A) (.returned (.tuple #[])) W):=fun W b e=>⟨rfl,by rw [e];exact S.fx b,Only.of_below b⟩;have END:Hid (∀ W W' x b,Below w.heap.size w W→rcv1 h l f r A=sA A f r x→SetPost W s F d b (sA A f r x) (.returned (.bool b)) W'→RcvPost w s F d (rcv1 h l f r A) (.returned (.tuple #[])) W'):=fun W W' x b hb e ⟨_,q1,q2⟩=>by
  have o:=(Only.of_below (G:=F) hb).trans q2 fun _ _ g=>g
  exact ⟨rfl,by rw [e];exact q1.wide (fun k hk=>by
   rcases hk with hk | ⟨hk,hk2⟩
   ·exact .inl hk
   ·exact .inr ⟨Nat.le_trans hb.size hk,hk2⟩) (Fx.low S.low o.size),o⟩
 have MM:=Lib.hid M;obtain ⟨a,cap,rfl,_,hm,hA⟩:=R;have HA:=Lib.hid hA;unfold maxLen at hm;clear hA hl S M hh ok0;generalize hn:l.length=n at *;have HN:=Lib.hid hn;clear hn;generalize gV A f r=v0 at *;have P0:Hid ((w.alloc (.cells #[.int .i64 f,.int .i64 r] 248)).heap[w.heap.size]? = some (.cells #[.int .i64 f,.int .i64 r] 248 (0,0))):=heap_alloc_new w _;have B0:Hid (Below w.heap.size w (w.alloc (.cells #[.int .i64 f,.int .i64 r] 248))):=(Below.refl w.heap.size w).alloc (Nat.le_refl _) _
 go_enter Tryz.func145,Tryz.ntmps145
 go_wp2_with fail;generalize (w.alloc (.cells #[.int .i64 f,.int .i64 r] 248))=W at *;unfold GetPost at G1;unfold rec4 at G1;refine (G1.out W B0.out).mono ?_;rintro e w1 ⟨rfl,b1⟩;have I0:Hid (RvI w f r w1.heap.size v0 (w1.alloc (.cells #[.int .u8 v0.1,.int .u8 v0.2.1,.int .u8 v0.2.2.1,.int .u8 v0.2.2.2] 42))):=by
  have b2:=B0.out.trans (b1.mono B0.out.size);have p1:=(b1.block _ (lt_of_block P0.out)).trans P0.out;exact ⟨b2.alloc b2.size _,((Below.refl w1.heap.size w1).alloc (Nat.le_refl _) _ |>.block _ (lt_of_block p1)).trans p1,heap_alloc_new w1 _,lt_of_block p1⟩
 clear P0 B0 b1 G1
 cases hg:gB A f r with
 | false =>
   have RES:=Lib.hid (fun W b=>SAME.out W b (NOG.out hg));clear SAME NOG FIN NOH END SET hg;go_wp2;refine bodyPost_ret (results_none rfl _ _ _) rfl ?_;exact RES.out _ I0.out.bel
 | true =>
   have FN:=Lib.hid (FIN.out hg);clear NOG FIN hg;go_upto_region 3 with fail;have hgv:=I0.out.gt;generalize (w1.alloc (.cells #[.int .u8 v0.1,.int .u8 v0.2.1,.int .u8 v0.2.2.1,.int .u8 v0.2.2.2] 42))=W0 at *;generalize w1.heap.size=gv at *;go_wp2
   go_loopw [27] (fun i wr=>∃ k:Nat,k≤n∧i = .int .i64 k∧Hid (RvI w f r gv (mix h (l.take k) v0) wr)∧Hid (∀ j,j < k→(h (eat l j).2.1).isSome=true)) (fun i _=>n - (intOf i).toNat)
   case atStart=>exact ⟨0,Nat.zero_le _,rfl,I0,fun j hj=>by omega⟩
   case round =>
    obtain ⟨k,hk,rfl,I,HS⟩:=hrel;clear I0
    by_cases hlt:k < n
    ·obtain ⟨b,off,rfl,A1⟩:=HA.out (by omega)
     obtain ⟨c0,c1,c2,c3,c4⟩:=at5 (A1.below I.out.bel) k (by have:=HN.out;omega);rw [show l.getD k z5=eat l k from rfl] at c0 c1 c2 c3 c4;obtain ⟨ws,y0,y3⟩:=HL.out k (by have:=HN.out;omega);have MX:=Lib.hid (mix_next (h:=h) (l:=l) (k:=k) (by have:=HN.out;omega) v0);have NH:Hid (h (eat l k).2.1=none→rcv1 h l f r A=A):=fun e=>NOH.out k (by have:=HN.out;omega) e;have SN:Hid ((h (eat l k).2.1).isSome=true→∀ j,j < k+1→(h (eat l j).2.1).isSome=true):=fun g j hj=>by
      by_cases e:j=k
      ·rw [e];exact g
      ·exact HS.out j (by omega)
     clear A1 HS;generalize eat l k=x at *;obtain ⟨q,s',f',r',y⟩:=x;simp only at c0 c1 c2 c3 c4 ws y0 y3 MX NH SN;obtain ⟨j,rfl⟩:∃ j:Nat,y=j:=⟨y.toNat,by omega⟩;have hj:j < 4:=by omega
     have WS:=Lib.hid ws;generalize mix h (l.take k) v0=vv at *;have I1:Hid (RvI w f r gv vv (wr.alloc (.cells #[.int .i64 q,.int .i64 s',.int .i64 f',.int .i64 r',.int .i64 (j:Int)] 87))):=I.out.below ((Below.refl wr.heap.size wr).alloc (Nat.le_refl _) _);have M1:=Lib.hid (MM.out.below I1.out.bel);have hfz:=row_frozen I1.out.cel j;have hcj:=(row_cell I1.out.cel j).trans (arr4_get vv hj);clear ws y0 y3
     cases hs:h s' with
     | none =>
       have RES:=Lib.hid (SAME.out _ I1.out.bel (NH.out hs));clear SAME NH NOH SN MX FN SET END
       go_wp2_with (at_lookup;refine at_heard rfl _ _ rfl rfl M1.out s' rfl WS.out 0 false (by rw [hs];rfl) (by rw [hs];rfl) ?_)
       refine bodyPost_ret (results_none rfl _ _ _) rfl ?_;exact RES.out
     | some y =>
       have SS:=Lib.hid (SN.out (by rw [hs];rfl));have MY:Hid (mix h (l.take (k+1)) v0=rs vv j y):=by rw [MX.out,hs];exact Lib.hid rfl
       have I2:=Lib.hid (I1.out.put hj y);clear NH NOH SN MX
       go_wp2_with (at_lookup;refine at_heard rfl _ _ rfl rfl M1.out s' rfl WS.out y true (by rw [hs];rfl) (by rw [hs];rfl) ?_)
       go_roundw
       case rel=>exact ⟨k+1,by omega,by go_num,by rw [MY.out];exact I2,SS⟩
       case measure=>simp [intOf];omega
    ·obtain rfl:k=n:=by omega
     have TK:l.take k=l:=by rw [← HN.out,List.take_length]
     rw [TK] at I;have EQ:=Lib.hid (FN.out (fun j hj=>HS.out j (by have:=HN.out;omega)));have ED:=Lib.hid (fun W' b q=>END.out wr W' (mix h l v0) b I.out.bel EQ.out q);have ST:=Lib.hid (SET.out wr I.out.bel);have p0:wr.cell? ⟨w.heap.size,0,none⟩=some (.int .i64 f):=row_cell I.out.box 0;have p1:wr.cell? ⟨w.heap.size,1,none⟩=some (.int .i64 r):=row_cell I.out.box 1;have q0:=row_cell I.out.cel 0;have q1:=row_cell I.out.cel 1;have q2:=row_cell I.out.cel 2;have q3:=row_cell I.out.cel 3;unfold arr4 at q0 q1 q2 q3;unfold rec4 at ST;clear HS FN NOH SAME SET END EQ TK;generalize mix h l v0=vv at *;go_wp2_with fail;refine ST.out.mono ?_;rintro e w2 ⟨rfl,q1,q2⟩;have RES:=Lib.hid (ED.out w2 false ⟨rfl,q1,q2⟩);clear q1 q2 ED;go_wp2
     go_end0
     exact RES.out
end Go.Proofs.YtljnkaodhfnbbaaGreatDoor.Pa
namespace Go.Proofs.YtljnkaodhfnbbaaGreatDoor.Pa
open Go.RowKit Go.Maps
open Fs (Abs St Only Fx Wf Rh gB gV sA sB dA dD dE OkA copy_any CopySt dos_any DoSPost Glob rd_only)
open Rw (Rd Ow At)
open Ro (E5 z5 eat K5 at5 okE ent okE_bounds)
open Fl (R4 z4 rec4 okR arr4 row_cell row_frozen)
attribute [local irreducible] Sd.wpSd wpQuiet
theorem ranges_kept {w w':World} {b r n:Nat} {D:DataW Value} {left:Lit→Bool} {cnt:Nat} (h:w.ranges Tryz.prog 248 Rh b r n D left cnt) (hb:w'.heap[b]? = w.heap[b]?) (hr:w'.heap[r]? = w.heap[r]?):w'.ranges Tryz.prog 248 Rh b r n D left cnt:=by
 obtain ⟨es,clock,since,seen,c0,q1,q2,q3,q4,q5,q6⟩:=h;exact ⟨es,clock,since,seen,c0,hb.trans q1,q2,q3,q4,hr.trans q5,q6⟩
def Vis (t:List E5) (left:Lit→Bool) (n k:Int):Bool:=decide (grp t n k≠[]) && !left (pk n k)
structure Fixed (w:World) (t:List E5) (b r N B0 B1:Nat) (vs:Int→Int→Value) (D:DataW Value):Prop where
 has:∀ f r,Wf f→Wf r→Maps.has D (pk f r)=decide (grp t f r≠[])
 val:∀ f r,Wf f→Wf r→grp t f r≠[]→∀ z,D.atKey (pk f r) z = .held (vs f r)
 in_:∀ f r k,(vs f r).ownBlock=some k→B0≤k∧k < B1
 inb:B0≤b∧b < B1
 inr:B0≤r∧r < B1
 le:w.heap.size≤B0
structure AI (w:World) (t:List E5) (h:Hr) (A:Abs) (d:Int) (b r N B0 B1:Nat) (vs:Int→Int→Value) (D:DataW Value) (g:Nat) (wr:World) (left:Lit→Bool) (cnt:Nat) (F:Nat→Prop):Prop where
 rg:wr.ranges Tryz.prog 248 Rh b r N D left cnt
 has:∀ kl,left kl=true→Maps.has D kl=true
 st:St wr g F (recV h t (Vis t left) A) d
 row:∀ f r,Rd K5 wr (vs f r) (grp t f r)
 lo:∀ k,F k→w.heap.size≤k
 off:∀ k,F k→k < B0∨B1≤k
 sz:B1≤wr.heap.size
 bel:Below w.heap.size w wr
def ApPost (w:World) (x:Abs×Int) (e:Ending) (w':World):Prop:=∃ g F,e = .returned (ptr g)∧St w' g F x.1 x.2∧(∀ k,F k→w.heap.size≤k)∧Below w.heap.size w w'
theorem grp_wf {t:List E5} (ok:∀ x∈t,okE x) {n k:Int} (h:grp t n k≠[]):Wf n∧Wf k:=by
 obtain ⟨x,hx⟩:=List.exists_mem_of_ne_nil _ h;obtain ⟨h1,h2⟩:=List.mem_filter.1 hx;obtain ⟨_,_,q1,q2,_⟩:=okE_bounds (ok x h1);simp only [mt,decide_eq_true_eq] at h2;rw [← h2.2.1,← h2.2.2];exact ⟨wf_of (by omega),wf_of (by omega)⟩
theorem grp_y {t:List E5} (ok:∀ x∈t,okE x) (n k:Int):okY (grp t n k):=fun x hx=>by
 obtain ⟨_,_,_,_,q⟩:=okE_bounds (ok x (List.mem_filter.1 hx).1);exact q
theorem grp_r {t:List E5} (ok:∀ x∈t,okE x) {n k:Int} (h:grp t n k≠[]):k≠0:=by
 obtain ⟨x,hx⟩:=List.exists_mem_of_ne_nil _ h;obtain ⟨h1,h2⟩:=List.mem_filter.1 hx;simp only [mt,decide_eq_true_eq] at h2;have:=ok x h1;unfold okE Ro.place at this
 omega
theorem grp_h {t:List E5} (ok:∀ x∈t,okE x) (n k:Int):∀ x∈grp t n k,Wf x.2.1∧0≤x.2.2.2.2∧x.2.2.2.2≤3:=fun x hx=>by
 obtain ⟨_,q1,_,_,q⟩:=okE_bounds (ok x (List.mem_filter.1 hx).1);exact ⟨wf_of (by omega),q⟩
theorem vis_next {t:List E5} (ok:∀ x∈t,okE x) {left:Lit→Bool} {f r:Int} (hf:Wf f) (hr:Wf r) (hl:left (pk f r)=true) (hg:grp t f r≠[]) {h:Hr} {A:Abs} (hA:OkA A) :
 rcv1 h (grp t f r) f r (recV h t (Vis t left) A)=recV h t (Vis t fun z=>left z && !z.sameKey (pk f r)) A:=by
 rw [rcv1_next hA (grp_r ok hg) (grp_y ok f r)];refine rec_congr fun n k hnk=>?_;obtain ⟨hn,hk⟩:=grp_wf ok hnk;unfold also Vis
 by_cases e:n=f∧k=r
 ·obtain ⟨rfl,rfl⟩:=e
  have:(pk n k).sameKey (pk n k)=true:=by simp [pk,Lit.sameKey]
  simp [hnk,this]
 ·have:(pk n k).sameKey (pk f r)=false:=sameKey_ne fun e2=>e (pk_inj hn hk hf hr e2)
  simp [this,e]
theorem vis_start {t:List E5} (ok:∀ x∈t,okE x) {D:DataW Value} (hD:∀ f r,Wf f→Wf r→Maps.has D (pk f r)=decide (grp t f r≠[])) (h:Hr) (A:Abs):recV h t (Vis t (Maps.has D)) A=A:=by
 rw [rec_congr (V':=fun _ _=>false) fun n k hnk=>?_]
 ·exact rec_none fun _ _=>rfl
 ·obtain ⟨hn,hk⟩:=grp_wf ok hnk
  unfold Vis;rw [hD n k hn hk]
  simp [hnk]
theorem vis_end {t:List E5} {left:Lit→Bool} (hl:∀ kl,left kl=false) (h:Hr) (A:Abs):recV h t (Vis t left) A=recA h t A:=rec_all fun n k hnk=>by
 unfold Vis;rw [hl]
 simp [hnk]
theorem copy_has {w:World} {s:Nat} {x:Abs×Int} (H:Has w s x):Calls Tryz.prog 84 #[.pointer (some ⟨s,0,none⟩)] w (CopySt w x.1 x.2):=by
 obtain ⟨F,S⟩:=H;exact copy_any S
theorem glob_lt {w:World} (hg:Glob w):1 < w.heap.size:=World.block_lt_of_cell? _ _ hg
structure XI (w:World) (g:Nat) (x:Abs×Int) (wr:World) (F:Nat→Prop):Prop where
 st:St wr g F x.1 x.2
 lo:∀ k,F k→w.heap.size≤k
 bel:Below w.heap.size w wr
theorem XI.below {w:World} {g:Nat} {x:Abs×Int} {wr wr':World} {F:Nat→Prop} (h:XI w g x wr F) (b:Below wr.heap.size wr wr'):XI w g x wr' F:=⟨h.st.below b,h.lo,h.bel.trans (b.mono h.bel.size)⟩
theorem XI.step {w:World} {g:Nat} {x:Abs×Int} {wr wr':World} {F:Nat→Prop} (h:XI w g x wr F) {x':Abs×Int} (st:St wr' g (Fx F wr wr') x'.1 x'.2) (o:Only F wr wr'):XI w g x' wr' (Fx F wr wr') :=
 ⟨st,fun k hk=>by
  rcases hk with hk | ⟨hk,_⟩
  ·exact h.lo k hk
  ·exact Nat.le_trans h.bel.size hk,h.bel.trans (o.below h.bel.size h.lo)⟩
theorem AI.step {w:World} {t:List E5} {h:Hr} {A A':Abs} {d:Int} {b r N B0 B1:Nat} {vs:Int→Int→Value} {D:DataW Value} {g:Nat} {wr w1 w2:World} {left left':Lit→Bool} {cnt cnt':Nat} {F:Nat→Prop}
 (I:AI w t h A d b r N B0 B1 vs D g wr left cnt F) (X:Fixed w t b r N B0 B1 vs D) (rg:w1.ranges Tryz.prog 248 Rh b r N D left' cnt') (has:∀ kl,left' kl=true→left kl=true) (g1:wr.grownBy w1 (some r)) (st:St w2 g (Fx F w1 w2) A' d) (o:Only F w1 w2) (e:A'=recV h t (Vis t left') A) :
 AI w t h A d b r N B0 B1 vs D g w2 left' cnt' (Fx F w1 w2):=by
 have off:∀ k,B0≤k→k < B1→¬ F k:=fun k h0 h1 hk=>by rcases I.off k hk with h | h <;> omega
 have z1:=g1.size;have hs:=I.sz;have ib:=X.inb;have ir:=X.inr;have le:=X.le;have eb:=o.block b (by omega) (off b ib.1 ib.2);have er:=o.block r (by omega) (off r ir.1 ir.2);have bw1:Below w.heap.size w w1:=I.bel.grown g1 I.bel.size (fun j hj=>by injection hj with hj;omega);refine ⟨ranges_kept rg eb er,fun kl hl=>I.has kl (has kl hl),by rw [← e];exact st,fun f r'=>?_,fun k hk=>?_,fun k hk=>?_,Nat.le_trans (Nat.le_trans hs z1) o.size,bw1.trans (o.below bw1.size I.lo)⟩
 ·have R:=I.row f r'
  obtain ⟨es,clock,since,seen,c0,_,_,_,_,hr,_⟩:=I.rg
  have R1:=rd_only R (G:=fun k=>k=r) (fun h0 k hk e=>by
   subst e;obtain ⟨a,cap,ea,_,_,h3⟩:=R;obtain ⟨b',off',rfl,hA⟩:=h3 h0;rw [ea] at hk;obtain rfl:b'=k:=by simpa [Value.ownBlock] using hk
   have c:=hA 0 h0 0 _ rfl
   simp [World.cell?,hr] at c) (Only.grown rfl g1)
  exact rd_only R1 (fun h0 k hk=>off k (X.in_ f r' k hk).1 (X.in_ f r' k hk).2) o
 ·rcases hk with hk | ⟨hk,_⟩
  ·exact I.lo k hk
  ·exact Nat.le_trans bw1.size hk
 ·rcases hk with hk | ⟨hk,_⟩
  ·exact I.off k hk
  ·exact .inr (by omega)
set_option maxHeartbeats 400000 in
theorem apply_any {w:World} {s:Nat} {x:Abs×Int} (H:Has w s x) (hg:Glob w) (hd:0≤x.2∧x.2 < 900000) {v hv:Value} {t:List E5} (R:Rd K5 w v t) (ok:∀ y∈t,okE y) (hl:t.length≤100) {h:Hr} (M:HMap w hv h) (hh:okH h) :
 Calls Tryz.prog 82 #[.pointer (some ⟨s,0,none⟩),v,hv] w (ApPost w (apS h t x)):=by
 have HG:=Lib.hid hg;have C0:=Lib.hid (copy_has H);have RR:=Lib.hid R;have MM:=Lib.hid M;have hA:=Lib.hid H.okA;obtain ⟨A,d⟩:=x;unfold CopySt at C0;simp only at C0 hd hA;obtain ⟨a,cap,rfl,_,hm,hA0⟩:=R;have HA0:=Lib.hid hA0;clear hA0;unfold maxLen at hm;clear H M hg;generalize hn:t.length=n at *;have HN:=Lib.hid hn;have OKT:=Lib.hid ok;have HH:=Lib.hid hh;clear hn ok hh
 go_enter Tryz.func82,Tryz.ntmps82
 go_wp2_with fail;refine C0.out.mono ?_;rintro e w1 ⟨g,F1,rfl,s1,lo1,b1⟩;have S1:=Lib.hid s1;have LO1:=Lib.hid lo1;have B1:=Lib.hid b1;clear s1 lo1 b1 C0;have RC:=Lib.hid (received_any w1 _ t (RR.out.below B1.out) OKT.out (by have:=HN.out;omega));go_wp2_with fail;refine RC.out.mono ?_;rintro e w2 ⟨b,N,vs,D,rfl,gm,hb,hN,b2⟩;have GM:=Lib.hid gm;have B2:=Lib.hid b2;have own2:=gm.own;have HB:=Lib.hid (And.intro hb hN);clear gm b2 RC hb hN
 go_wp2_with (first
  | (at_range;refine wpList_range_own _ rfl _ 245 rfl 248 85 keyedP Tryz.underlying245 _ b N _ rfl own2 ?_;intro w0 hrg0 hg0 hs0)
  | fail)
 go_frame
 have hz1:=B1.out.size;have hz2:=B2.out.size;have FX:Hid (Fixed w t b w2.heap.size N w1.heap.size w0.heap.size vs D):=Lib.hid ⟨GM.out.has,GM.out.val,fun f r k hk=>by have:=World.ownsRow.lt (GM.out.row f r) k hk;have:=HB.out.1;omega,⟨HB.out.1,by have:=GM.out.own.lt;omega⟩,⟨hz2,by omega⟩,hz1⟩;have G0:Hid (Below w2.heap.size w2 w0):=Lib.hid ((Below.refl _ _).grown hg0 (Nat.le_refl _) (fun j hj=>by cases hj));have I0:Hid (AI w t h A d b w2.heap.size N w1.heap.size w0.heap.size vs D g w0 (Maps.has D) (Maps.size D) F1):=Lib.hid
  ⟨hrg0,fun kl hk=>hk,by rw [vis_start OKT.out GM.out.has];exact (S1.out.below B2.out).below G0.out,fun f r=>((GM.out.row f r).rd).below G0.out,LO1.out,fun k hk=>.inl (S1.out.low k hk),Nat.le_refl _,(B1.out.trans (B2.out.mono hz1)).trans (G0.out.mono (by omega))⟩
 clear hrg0 hg0 hs0 own2 G0 GM B1 B2 S1 LO1 hz1 hz2 HB;generalize w2.heap.size=r0 at *;generalize w1.heap.size=B0 at *;generalize w0.heap.size=B1 at *
 go_loopw [9] (fun _ wr=>∃ left cnt F,Hid (AI w t h A d b r0 N B0 B1 vs D g wr left cnt F)) (fun _ wr=>wr.rangeLeft b r0)
 case atStart=>exact ⟨_,_,_,I0⟩
 case round =>
  obtain ⟨left,cnt,F,I⟩:=hrel;clear I0;have hrg:=I.out.rg
  go_wp2_with (first
   | (at_next;refine wpList_next_ranges _ rfl _ rfl 248 keyedP Rh (fun p:Int×Int=>plc p.1 p.2) id (fun key kl hkey=>by obtain ⟨f,r,e,_⟩:=keyP_inv hkey;exact ⟨(f,r),e⟩) (fun v y _=>⟨v,rfl⟩) b r0 N _ _ _ rfl hrg ?_ ?_)
   | fail)
  ·intro hc0 hl0
   have SA:Hid (Has wr g (recA h t A,d)):=Lib.hid ⟨F,by have:=I.out.st;rwa [vis_end hl0] at this⟩;have XI0:Hid (XI w g (exU t (recA h t A,d) 0) wr F):=Lib.hid ⟨by have:=I.out.st;rwa [vis_end hl0] at this,I.out.lo,I.out.bel⟩;have XD:=Lib.hid (fun k=>exU_d (t:=t) (recA h t A,d) k);have XE:=Lib.hid (exU_end (t:=t) h (A,d));have XY:=Lib.hid (fun k hk h3=>exU_yes (t:=t) (recA h t A,d) (j:=k) hk h3);have XN:=Lib.hid (fun k hk h3=>exU_no (t:=t) (recA h t A,d) (j:=k) hk h3);clear SA hl0 hrg FX I;generalize recA h t A=RA at *;go_wp2;clear hc0 cnt left
   go_loopw [29] (fun i wr=>∃ (k:Nat) (F:Nat→Prop),k≤n∧i = .int .i64 k∧Hid (XI w g (exU t (RA,d) k) wr F)) (fun i _=>n - (intOf i).toNat)
   case atStart=>exact ⟨0,F,Nat.zero_le _,rfl,XI0⟩
   case round =>
    rename_i wr0 wr
    obtain ⟨k,F',hk,rfl,I⟩:=hrel;clear XI0
    by_cases hlt:k < n
    ·obtain ⟨b1,off,rfl,A1⟩:=HA0.out (by omega)
     obtain ⟨c0,c1,c2,c3,c4⟩:=at5 (A1.below I.out.bel) k (by have:=HN.out;omega);rw [show t.getD k z5=eat t k from rfl] at c0 c1 c2 c3 c4;have okx:=OKT.out _ (Ro.eat_mem (l:=t) (i:=k) (by have:=HN.out;omega));have Y3:=Lib.hid (XY.out k (by have:=HN.out;omega));have N3:=Lib.hid (XN.out k (by have:=HN.out;omega));have DD:=XD.out k;generalize eat t k=x at *;obtain ⟨q,s',f',r',y⟩:=x;simp only at c0 c1 c2 c3 c4 Y3 N3;have I1:=Lib.hid (I.out.below ((Below.refl wr.heap.size wr).alloc (Nat.le_refl _) (.cells #[.int .i64 q,.int .i64 s',.int .i64 f',.int .i64 r',.int .i64 y] 87)));clear A1 I
     by_cases h3:q=3
     ·subst h3
      have Y4:=Lib.hid (Y3.out rfl);have DO:=Lib.hid (dos_any I1.out.st (HG.out.below I1.out.bel) (fun hk=>by have:=I1.out.lo _ hk;have:=glob_lt HG.out;omega) (by have:=HN.out;omega) 2 f' r' z4 Fl.okR_z);unfold Ad.addr rec4 z4 at DO;clear Y3 N3 okx DD;go_wp2_with fail;refine DO.out.mono ?_;rintro e w5 ⟨rfl,q1,q2⟩;have I2:=Lib.hid (I1.out.step (x':=exU t (RA,d) (k+1)) (by rw [Y4.out];exact q1) q2);clear q1 q2 DO I1;go_wp2
      go_roundw
      case rel=>exact ⟨k+1,_,by omega,by go_num,I2⟩
      case measure=>simp [intOf];omega
     ·have d3:(q == 3)=false:=by simpa using h3
      have N4:=N3.out h3;have I2:Hid (XI w g (exU t (RA,d) (k+1)) (wr.alloc (.cells #[.int .i64 q,.int .i64 s',.int .i64 f',.int .i64 r',.int .i64 y] 87)) F'):=by rw [N4];exact I1
      clear Y3 N3 okx DD N4 I1;go_wp2
      go_roundw
      case rel=>exact ⟨k+1,_,by omega,by go_num,I2⟩
      case measure=>simp [intOf];omega
    ·obtain rfl:k=n:=by omega
     have RES:Hid (ApPost w (apS h t (A,d)) (.returned (ptr g)) wr):=Lib.hid ⟨g,F',rfl,by have:=I.out.st;rw [← HN.out] at this;rw [← XE.out];exact this,I.out.lo,I.out.bel⟩;go_wp2
     go_ret
     exact RES.out
  ·intro f r u kl y y2 w1 cnt1 hkey hlk hv hat hrg1 hlt hg1 hs1 hen
   obtain ⟨f',r',e1,hf,hr⟩:=keyP_inv hkey;obtain ⟨rfl,rfl⟩:f=f'∧r=r':=by
    unfold plc at e1;injection e1 with e1;have h1:=congrArg (fun t:Array Value=>t[0]?) e1;have h2:=congrArg (fun t:Array Value=>t[1]?) e1
    simp at h1 h2
    exact ⟨h1,h2⟩
   obtain rfl:kl=pk f r:=by
    have:=keyP hf hr;rw [hkey] at this;exact Option.some.inj this
   have hg:=I.out.has _ hlk;rw [FX.out.has f r hf hr,decide_eq_true_eq] at hg;have hv':u=vs f r:=by
    obtain ⟨h2,_⟩:DataW.held u=y∧[]=y2:=by simpa [Rh] using hv
    have h1:=hat .nil;rw [FX.out.val f r hf hr hg,← h2] at h1;injection h1 with h1;exact h1.symm
   subst hv';have hsz:=I.out.sz;have g1:=hg1;have bw1:Below w.heap.size w w1:=I.out.bel.grown hg1 I.out.bel.size (fun j hj=>by injection hj with hj;have:=FX.out.inr.1;have:=FX.out.le;omega);have off:∀ k,B0≤k→k < B1→¬ F k:=fun k h0 h1 hk=>by rcases I.out.off k hk with h | h <;> omega
   have st1:St w1 g F (recV h t (Vis t left) A) d:=I.out.st.only (G:=fun k=>k=r0) (fun k hk e=>by subst e;exact off k FX.out.inr.1 FX.out.inr.2 hk) (Only.grown rfl hg1)
   have R1:Rd K5 w1 (vs f r) (grp t f r):=rd_only (I.out.row f r) (G:=fun k=>k=r0) (fun h0 k hk e=>by
    subst e;obtain ⟨es,clock,since,seen,c0,_,_,_,_,hr0,_⟩:=I.out.rg;obtain ⟨a',cap',ea,_,_,h3⟩:=I.out.row f r;obtain ⟨b',off',rfl,hA'⟩:=h3 h0;rw [ea] at hk;obtain rfl:b'=k:=by simpa [Value.ownBlock] using hk
    have c:=hA' 0 h0 0 _ rfl
    simp [World.cell?,hr0] at c) (Only.grown rfl hg1)
   have bx:Below w1.heap.size w1 (w1.alloc (.cells #[.int .i64 f,.int .i64 r] 248)):=(Below.refl _ _).alloc (Nat.le_refl _) _;have RV:=Lib.hid (receive_any (st1.below bx) hf (r:=r) (R1.below bx) ((MM.out.below bw1).below bx) HH.out (grp_h OKT.out f r));have EQ:Hid (rcv1 h (grp t f r) f r (recV h t (Vis t left) A)=recV h t (Vis t fun z=>left z && !z.sameKey (pk f r)) A):=Lib.hid (vis_next OKT.out hf hr hlk hg hA.out);have STEP:Hid (∀ w3 A',St w3 g (Fx F w1 w3) A' d→Only F w1 w3→A'=recV h t (Vis t fun z=>left z && !z.sameKey (pk f r)) A→AI w t h A d b r0 N B0 B1 vs D g w3 (fun z=>left z && !z.sameKey (pk f r)) cnt1 (Fx F w1 w3)):=Lib.hid (fun w3 A' st o e=>I.out.step FX.out hrg1 (fun kl hl=>by simp at hl;exact hl.1) hg1 st o e);have BX:=Lib.hid bx;have LT:=Lib.hid hlt;have RG:=Lib.hid I.out.rg;obtain ⟨au,cu,ev,_⟩:=R1.slice;rw [ev] at hen RV ⊢;generalize (grp t f r).length=gl at *;unfold plc at hen ⊢;clear st1 R1 bx off bw1 hrg1 hlt hg1 g1 hs1 hat hv hlk hkey hg hrg hsz I e1 ev;go_wp2_with fail;refine RV.out.mono ?_;rintro e w3 ⟨rfl,q1,q2⟩;have o3:=(Only.of_below (G:=F) BX.out).trans q2 fun _ _ g=>g
   have NEW:=Lib.hid (STEP.out w3 _ (by
    refine q1.wide (fun k hk=>?_) (fun k hk=>?_)
    ·rcases hk with hk | ⟨hk,hk2⟩
     ·exact .inl hk
     ·exact .inr ⟨Nat.le_trans BX.out.size hk,hk2⟩
    ·rcases hk with hk | ⟨_,hk⟩
     ·exact q1.low k (.inl hk)
     ·exact hk) o3 EQ.out)
   have MS:Hid (w3.rangeLeft b r0 < wr.rangeLeft b r0):=by
    show _ < _
    rw [NEW.out.rg.left_eq,RG.out.left_eq];exact LT.out
   clear q1 q2 o3 STEP EQ RG LT RV hen;go_wp2
   go_roundw
   case rel=>exact ⟨_,_,_,NEW⟩
   case measure=>exact MS.out
end Go.Proofs.YtljnkaodhfnbbaaGreatDoor.Pa
namespace Go.Proofs.YtljnkaodhfnbbaaGreatDoor.Ck
open Go.RowKit
open Ro (E5 z5 eat ent K5 at5 eat_mem)
open Rw (Rd Ow At)
open Fl (ret_bool at_bool row_cell row_frozen)
attribute [local irreducible] Sd.wpSd wpQuiet
def sto5 (w:World) (g:Nat) (x:E5):World:=((((w.setCell ⟨g,0,none⟩ (.int .i64 x.1)).setCell ⟨g,1,none⟩ (.int .i64 x.2.1)).setCell ⟨g,2,none⟩ (.int .i64 x.2.2.1)).setCell ⟨g,3,none⟩ (.int .i64 x.2.2.2.1)).setCell ⟨g,4,none⟩ (.int .i64 x.2.2.2.2)
theorem sto5_row {w:World} {g:Nat} {y:E5} (h:RowE w g y) (x:E5):RowE (sto5 w g x) g x :=
 Rw.heap_setCell_same (Rw.heap_setCell_same (Rw.heap_setCell_same (Rw.heap_setCell_same (Rw.heap_setCell_same h _) _) _) _) _
theorem sto5_other {w:World} {g k:Nat} {x:E5} {o:Option Obj} (h:w.heap[k]? = o) (hne:k≠g):(sto5 w g x).heap[k]? = o :=
 (Below.heap_setCell _ _ _ _ hne).trans ((Below.heap_setCell _ _ _ _ hne).trans ((Below.heap_setCell _ _ _ _ hne).trans ((Below.heap_setCell _ _ _ _ hne).trans ((Below.heap_setCell _ _ _ _ hne).trans h))))
theorem sto5_below {w W:World} {B g:Nat} {x:E5} (h:Below B w W) (hb:B≤g):Below B w (sto5 W g x) :=
 ((((h.setCell (p:=⟨g,0,none⟩) hb _).setCell (p:=⟨g,1,none⟩) hb _).setCell (p:=⟨g,2,none⟩) hb _).setCell (p:=⟨g,3,none⟩) hb _).setCell (p:=⟨g,4,none⟩) hb _
def PredS (g:Nat) (lb:Array Value) (p:Nat→E5→Bool) (L:LL) (w:World):Prop :=
 ∀ (W:World) (n:Nat) (x:E5),n < L.length→x∈lat L n→Below w.heap.size w W→Calls Tryz.prog g (#[.int .i64 n,.agg #[.int .i64 x.1,.int .i64 x.2.1,.int .i64 x.2.2.1,.int .i64 x.2.2.2.1,.int .i64 x.2.2.2.2]] ++ lb) W fun e w'=>e = .returned (.bool (p n x))∧Below W.heap.size W w'
def WhoPost (w:World) (n:Int) (x:E5) (e:Ending) (w':World):Prop:=e = .returned (.tuple #[.int .i64 n,ent x])∧Below w.heap.size w w'
set_option maxHeartbeats 2000000 in
theorem find_any (w:World) (v:Value) (L:LL) (g:Nat) (lb:Array Value) (p:Nat→E5→Bool) (eg:∀ args w,(callFunc g args).run Tryz.prog w = .ok (.enter g args) w) (R:RdL w v L) (hp:PredS g lb p L w) :
 Calls Tryz.prog 219 #[v,.func (.func g) #[] lb] w (WhoPost w (whoN p L) (whoE p L)):=by
 obtain ⟨a,cap,rfl,_,hm,hA⟩:=R;have HA:=Lib.hid hA;have HP:=Lib.hid hp;have HH:Hid (∀ k i w',Within p L k i→k < L.length→i < (lat L k).length→p k (eat (lat L k) i)=true→Below w.heap.size w w'→WhoPost w (whoN p L) (whoE p L) (.returned (.tuple #[.int .i64 (k:Int),ent (eat (lat L k) i)])) w'):=fun k i w' h hk hi hq b=>by
  obtain ⟨e1,e2⟩:=within_hit h hk hi hq;rw [e1,e2];exact ⟨rfl,b⟩
 have HM:Hid (∀ w',Ahead p L L.length→Below w.heap.size w w'→WhoPost w (whoN p L) (whoE p L) (.returned (.tuple #[.int .i64 (-1),ent z5])) w'):=fun w' h b=>by
  obtain ⟨e1,e2⟩:=ahead_end h;rw [e1,e2];exact ⟨rfl,b⟩
 clear hA hp;generalize whoN p L=rn at *;generalize whoE p L=re at *;unfold maxLen at hm;generalize hn:L.length=n at *;have HN:=Lib.hid hn;clear hn;have R0:Hid (RowE (w.alloc (.cells #[.int .i64 0,.int .i64 0,.int .i64 0,.int .i64 0,.int .i64 0] 87)) w.heap.size z5):=heap_alloc_new w _;have B0:=Lib.hid ((Below.refl w.heap.size w).alloc (Nat.le_refl _) (.cells #[.int .i64 0,.int .i64 0,.int .i64 0,.int .i64 0,.int .i64 0] 87))
 go_enter Tryz.func219,Tryz.ntmps219
 go_wp2;generalize w.alloc (.cells #[.int .i64 0,.int .i64 0,.int .i64 0,.int .i64 0,.int .i64 0] 87)=w0 at *
 go_loopw [12] (fun i wr=>∃ k:Nat,k≤n∧i = .int .i64 k∧Hid (RowE wr w.heap.size z5)∧Hid (Below w.heap.size w wr)∧Hid (Ahead p L k)) (fun i _=>n - (intOf i).toNat)
 case atStart=>exact ⟨0,Nat.zero_le _,rfl,R0,B0,ahead_zero⟩
 case round =>
  obtain ⟨k,hk,rfl,rr,bw,hs⟩:=hrel
  by_cases hlt:k < n
  ·obtain ⟨b,off,rfl,A⟩:=HA.out (by omega)
   obtain ⟨u,c,a',cap',rfl,_,hm',hA'⟩:=A k hlt;have c':=(bw.out.cell (World.block_lt_of_cell? _ _ c)).trans c;have HA':=Lib.hid hA';have HX:=Lib.hid (fun i (h:i < (lat L k).length)=>eat_mem h);have HAA:=Lib.hid A;have HK:=Lib.hid (show k < L.length by rw [HN.out];exact hlt);clear hA' c A;unfold maxLen at hm';generalize hl:(lat L k).length=m at *;have HL:=Lib.hid hl;clear hl;have W0:=Lib.hid (within_zero hs.out);clear hs;go_wp2
   go_loopw [19] (fun i wr=>∃ j:Nat,j≤m∧i = .int .i64 j∧Hid (RowE wr w.heap.size z5)∧Hid (Below w.heap.size w wr)∧Hid (Within p L k j)) (fun i _=>m - (intOf i).toNat)
   case atStart=>exact ⟨0,Nat.zero_le _,rfl,rr,bw,W0⟩
   case round =>
    clear c' rr bw W0;obtain ⟨j,hj,rfl,rr,bw,hs⟩:=hrel
    by_cases hjt:j < m
    ·obtain ⟨b',off',rfl,A'⟩:=HA'.out (by omega)
     obtain ⟨c0,c1,c2,c3,c4⟩:=at5 (A'.below bw.out) j (by rw [HL.out];exact hjt);rw [show (lat L k).getD j z5=eat (lat L k) j from rfl] at c0 c1 c2 c3 c4;have hc:=fun W hb=>HP.out W k (eat (lat L k) j) HK.out (HX.out j hjt) hb;have YES:=Lib.hid (fun w' h hb=>HH.out k j w' hs.out (by have:=HK.out;rw [HN.out] at this;exact this) (by rw [HL.out];exact hjt) h hb);have NO:=Lib.hid (fun h=>within_next hs.out (by rw [HL.out];exact hjt) h);clear A' hs;generalize eat (lat L k) j=x at *;have bx:=(Below.refl wr.heap.size wr).alloc (Nat.le_refl _) (.cells #[.int .i64 x.1,.int .i64 x.2.1,.int .i64 x.2.2.1,.int .i64 x.2.2.2.1,.int .i64 x.2.2.2.2] 87);have gr:=rr.out.lt;have B1:=Lib.hid (bw.out.trans (bx.mono bw.out.size));have R1:=Lib.hid (rr.out.below bx gr);have X1:RowE (wr.alloc (.cells #[.int .i64 x.1,.int .i64 x.2.1,.int .i64 x.2.2.1,.int .i64 x.2.2.2.1,.int .i64 x.2.2.2.2] 87)) wr.heap.size x:=heap_alloc_new wr _;clear bx;go_upto_region 7 with fail;clear c0 c1 c2 c3 c4;generalize wr.alloc (.cells #[.int .i64 x.1,.int .i64 x.2.1,.int .i64 x.2.2.1,.int .i64 x.2.2.2.1,.int .i64 x.2.2.2.2] 87)=V at *;generalize wr.heap.size=gx at *;have x0:V.cell? ⟨gx,0,none⟩=some (.int .i64 x.1):=row_cell X1 0;have x1:V.cell? ⟨gx,1,none⟩=some (.int .i64 x.2.1):=row_cell X1 1;have x2:V.cell? ⟨gx,2,none⟩=some (.int .i64 x.2.2.1):=row_cell X1 2;have x3:V.cell? ⟨gx,3,none⟩=some (.int .i64 x.2.2.2.1):=row_cell X1 3;have x4:V.cell? ⟨gx,4,none⟩=some (.int .i64 x.2.2.2.2):=row_cell X1 4;have C:=Lib.hid (hc V B1.out);have XX:=Lib.hid X1;clear hc X1;generalize hq:p k x=q at *
     cases q with
     | true =>
       have Y:=Lib.hid (fun w' hb=>YES.out w' rfl hb);clear hq YES NO;go_wp2_with fail;refine C.out.mono ?_;rintro e w1 ⟨rfl,b1⟩;have B2:=Lib.hid (B1.out.trans (b1.mono B1.out.size));have X2:=XX.out.below b1 XX.out.lt;have R2:=Lib.hid (R1.out.below b1 R1.out.lt);clear b1 x0 x1 x2 x3 x4 C XX B1 R1;go_upto_region 8 with fail;have C0:RowE w1.drew gx x:=X2;have ne:Nonempty (Sc.In (fun W=>RowE W gx x)):=⟨⟨_,C0⟩⟩;have x0:=Sc.cell_in (C:=fun W=>RowE W gx x) (a:=⟨gx,0,none⟩) (v:=.int .i64 x.1) (fun W h=>row_cell h 0);have x1:=Sc.cell_in (C:=fun W=>RowE W gx x) (a:=⟨gx,1,none⟩) (v:=.int .i64 x.2.1) (fun W h=>row_cell h 1);have x2:=Sc.cell_in (C:=fun W=>RowE W gx x) (a:=⟨gx,2,none⟩) (v:=.int .i64 x.2.2.1) (fun W h=>row_cell h 2);have x3:=Sc.cell_in (C:=fun W=>RowE W gx x) (a:=⟨gx,3,none⟩) (v:=.int .i64 x.2.2.2.1) (fun W h=>row_cell h 3);have x4:=Sc.cell_in (C:=fun W=>RowE W gx x) (a:=⟨gx,4,none⟩) (v:=.int .i64 x.2.2.2.2) (fun W h=>row_cell h 4);refine Sc.start (fun W=>RowE W gx x) [(false,0),(false,1),(false,2),(true,3)] (by kernel_rfl) (by kernel_rfl) (by kernel_rfl) C0 ?_;dsimp only [Sd.picks,List.getElem?_cons_succ,List.getElem?_cons_zero]
       iterate 3 (refine Sd.lit ?_;quiet_step (fail);refine wpQuiet_nil ?_)
       refine Sd.call (by rfl) (fun K hK=>?_);clear x0 x1 x2 x3 x4 ne;have R2d:Hid (RowE w1.drew w.heap.size z5):=Lib.hid R2.out;have B2d:=Lib.hid (B2.out.drew);clear R2 B2 X2;generalize w1.drew=W2 at *;have d0:W2.cell? ⟨w.heap.size,0,none⟩=some (.int .i64 0):=row_cell R2d.out 0;have d1:W2.cell? ⟨w.heap.size,1,none⟩=some (.int .i64 0):=row_cell R2d.out 1;have d2:W2.cell? ⟨w.heap.size,2,none⟩=some (.int .i64 0):=row_cell R2d.out 2;have d3:W2.cell? ⟨w.heap.size,3,none⟩=some (.int .i64 0):=row_cell R2d.out 3;have d4:W2.cell? ⟨w.heap.size,4,none⟩=some (.int .i64 0):=row_cell R2d.out 4;have f0:W2.frozen? ⟨w.heap.size,0,none⟩=false:=row_frozen R2d.out 0;have f1:W2.frozen? ⟨w.heap.size,1,none⟩=false:=row_frozen R2d.out 1;have f2:W2.frozen? ⟨w.heap.size,2,none⟩=false:=row_frozen R2d.out 2;have f3:W2.frozen? ⟨w.heap.size,3,none⟩=false:=row_frozen R2d.out 3;have f4:W2.frozen? ⟨w.heap.size,4,none⟩=false:=row_frozen R2d.out 4;have hne:gx≠w.heap.size:=by have:=gr;omega
       have X3:RowE (sto5 W2 w.heap.size x) gx x:=sto5_other C0 hne;have R3:Hid (RowE (sto5 W2 w.heap.size x) w.heap.size x):=Lib.hid (sto5_row (y:=z5) R2d.out x);have B3:=Lib.hid (sto5_below (g:=w.heap.size) (x:=x) B2d.out (Nat.le_refl _));go_simp;refine hK _ _ (Sc.Cl.of X3) ?_;clear hK K d0 d1 d2 d3 d4 f0 f1 f2 f3 f4;refine Sd.done ?_
       show Exit.then _ _ _ _ (sto5 W2 w.heap.size x)
       generalize sto5 W2 w.heap.size x=wS at *;go_wp2
       (try simp only [Exit.inBlock,Exit.then])
       exact bodyPost_ret (v:=.tuple #[.int .i64 (k:Int),ent x]) (results_who (p:=5) (r:=4) rfl _ _ w.heap.size k x rfl rfl R3.out) rfl (Y.out _ B3.out)
     | false =>
       have ST:=Lib.hid (NO.out rfl);clear hq YES NO;go_wp2_with fail;refine C.out.mono ?_;rintro e w1 ⟨rfl,b1⟩;have B2:=Lib.hid (B1.out.trans (b1.mono B1.out.size));have R2:=Lib.hid (R1.out.below b1 R1.out.lt);clear b1 x0 x1 x2 x3 x4 C XX B1 R1;go_wp2
       go_roundw
       case rel=>exact ⟨j+1,by omega,by go_num,R2,B2,ST⟩
       case measure=>simp [intOf];omega
    ·obtain rfl:j=m:=by omega
     have ST:=Lib.hid (within_end (by rw [HL.out];exact hs.out) HK.out);clear hs;go_wp2
     go_roundw
     case rel=>exact ⟨k+1,by omega,by go_num,rr,bw,ST⟩
     case measure=>simp [intOf];omega
  ·obtain rfl:k=n:=by omega
   have d0:wr.cell? ⟨w.heap.size,0,none⟩=some (.int .i64 0):=row_cell rr.out 0;have d1:wr.cell? ⟨w.heap.size,1,none⟩=some (.int .i64 0):=row_cell rr.out 1;have d2:wr.cell? ⟨w.heap.size,2,none⟩=some (.int .i64 0):=row_cell rr.out 2;have d3:wr.cell? ⟨w.heap.size,3,none⟩=some (.int .i64 0):=row_cell rr.out 3;have d4:wr.cell? ⟨w.heap.size,4,none⟩=some (.int .i64 0):=row_cell rr.out 4;have f0:wr.frozen? ⟨w.heap.size,0,none⟩=false:=row_frozen rr.out 0;have f1:wr.frozen? ⟨w.heap.size,1,none⟩=false:=row_frozen rr.out 1;have f2:wr.frozen? ⟨w.heap.size,2,none⟩=false:=row_frozen rr.out 2;have f3:wr.frozen? ⟨w.heap.size,3,none⟩=false:=row_frozen rr.out 3;have f4:wr.frozen? ⟨w.heap.size,4,none⟩=false:=row_frozen rr.out 4;have R3:Hid (RowE (sto5 wr w.heap.size z5) w.heap.size z5):=Lib.hid (sto5_row (y:=z5) rr.out z5);have B3:=Lib.hid (sto5_below (g:=w.heap.size) (x:=z5) bw.out (Nat.le_refl _));have E:=Lib.hid (HM.out _ hs.out B3.out);go_wp2
   (try simp only [Exit.inBlock,Exit.then])
   exact bodyPost_ret (v:=.tuple #[.int .i64 (-1),ent z5]) (results_who (p:=5) (r:=4) rfl _ _ w.heap.size (-1) z5 rfl rfl R3.out) rfl E.out
theorem makeF (fn:Fn) (first cap:Array Value) (w:World):(Instr.makeFunc fn first cap).run Tryz.prog w = .ok (.func fn first cap) w:=rfl
theorem sclos_any (w:World) (B:Nat) (s:Int) (L:LL) (hc:w.cell? ⟨B,0,none⟩=some (.int .i64 s)):PredS 254 #[.pointer (some ⟨B,0,none⟩)] (snd s) L w:=fun W n x _ _ hb=>by
 have hlt:=World.block_lt_of_cell? _ _ hc;have d:=(hb.cell hlt).trans hc;have hBW:B < W.heap.size:=Nat.lt_of_lt_of_le hlt hb.size;clear hc hlt hb
 show Calls Tryz.prog 254 #[.int .i64 n,.agg #[.int .i64 x.1,.int .i64 x.2.1,.int .i64 x.2.2.1,.int .i64 x.2.2.2.1,.int .i64 x.2.2.2.2],.pointer (some ⟨B,0,none⟩)] W _
 have HB:=Lib.hid (fun o=>(Below.refl W.heap.size W).alloc (Nat.le_refl _) o);obtain ⟨x1,x2,x3,x4,x5⟩:=x;have Y:=fun h1 h2=>snd_yes (s:=s) (n:=n) (x:=(x1,x2,x3,x4,x5)) h1 h2;have N:=fun h=>snd_no (s:=s) (n:=n) (x:=(x1,x2,x3,x4,x5)) h;simp only at Y N ⊢
 by_cases h1:x1=1
 ·by_cases h2:x2=s
  ·rw [Y h1 h2]
   clear Y N
   go_enter Tryz.func254,Tryz.ntmps254
   go_wp2
   go_ret
   exact ⟨ret_bool (by first | rfl | simpa using h2),HB.out _⟩
  ·rw [N (fun h=>h2 h.2)]
   clear Y N
   go_enter Tryz.func254,Tryz.ntmps254
   go_wp2
   go_ret
   exact ⟨ret_bool (by first | rfl | simpa using h2),HB.out _⟩
 ·rw [N (fun h=>h1 h.1)]
  clear Y N
  go_enter Tryz.func254,Tryz.ntmps254
  go_wp2
  go_ret
  exact ⟨ret_bool (by first | rfl | simpa using h2),HB.out _⟩
def InSlots (L:LL):Prop:=∀ n,n < L.length→∀ x∈lat L n,0≤x.2.1∧x.2.1≤16
theorem cclos_any (w:World) (B:Nat) (F:Nat→Int) (L:LL) (hi:InSlots L) (hr:RowI w B F):PredS 252 #[.pointer (some ⟨B,0,none⟩)] (qc F) L w:=fun W n x hn hx hb=>by
 have R:=hr.below hb hr.lt;have hBW:=R.lt;obtain ⟨g1,g2⟩:=hi n hn x hx;clear hr hb hi hn hx
 show Calls Tryz.prog 252 #[.int .i64 n,.agg #[.int .i64 x.1,.int .i64 x.2.1,.int .i64 x.2.2.1,.int .i64 x.2.2.2.1,.int .i64 x.2.2.2.2],.pointer (some ⟨B,0,none⟩)] W _
 have HB:=Lib.hid (fun o=>(Below.refl W.heap.size W).alloc (Nat.le_refl _) o);obtain ⟨x1,x2,x3,x4,x5⟩:=x;simp only at g1 g2 ⊢;obtain ⟨k,rfl⟩:∃ k:Nat,x2=k:=⟨x2.toNat,by omega⟩;have hk:k < 17:=by omega
 have d:=R.cell k hk;have Y:=fun h=>show qc F n (x1,(k:Int),x3,x4,x5)=true from decide_eq_true h;have N:=fun h=>show qc F n (x1,(k:Int),x3,x4,x5)=false from decide_eq_false h;simp only [Int.toNat_natCast] at Y N;clear R g1 g2;generalize F k=z at *
 by_cases h1:x1=1
 ·by_cases h2:z=n
  ·rw [N (fun h=>h.2 h2)]
   clear Y N
   go_enter Tryz.func252,Tryz.ntmps252
   go_wp2
   go_ret
   exact ⟨ret_bool (by first | rfl | simpa using h2),HB.out _⟩
  ·rw [Y ⟨h1,h2⟩]
   clear Y N
   go_enter Tryz.func252,Tryz.ntmps252
   go_wp2
   go_ret
   exact ⟨ret_bool (by first | rfl | simpa using h2),HB.out _⟩
 ·rw [N (fun h=>h1 h.1)]
  clear Y N
  go_enter Tryz.func252,Tryz.ntmps252
  go_wp2
  go_ret
  exact ⟨ret_bool (by first | rfl | simpa using h2),HB.out _⟩
theorem gclos_any (w:World) (B:Nat) (F:Nat→Int) (L:LL) (hi:InSlots L) (hr:RowI w B F):PredS 253 #[.pointer (some ⟨B,0,none⟩)] (qg F) L w:=fun W n x hn hx hb=>by
 have R:=hr.below hb hr.lt;have hBW:=R.lt;obtain ⟨g1,g2⟩:=hi n hn x hx;clear hr hb hi hn hx
 show Calls Tryz.prog 253 #[.int .i64 n,.agg #[.int .i64 x.1,.int .i64 x.2.1,.int .i64 x.2.2.1,.int .i64 x.2.2.2.1,.int .i64 x.2.2.2.2],.pointer (some ⟨B,0,none⟩)] W _
 have HB:=Lib.hid (fun o=>(Below.refl W.heap.size W).alloc (Nat.le_refl _) o);obtain ⟨x1,x2,x3,x4,x5⟩:=x;simp only at g1 g2 ⊢;obtain ⟨k,rfl⟩:∃ k:Nat,x2=k:=⟨x2.toNat,by omega⟩;have hk:k < 17:=by omega
 have d:=R.cell k hk;have Y:=fun h=>show qg F n (x1,(k:Int),x3,x4,x5)=true from decide_eq_true h;have N:=fun h=>show qg F n (x1,(k:Int),x3,x4,x5)=false from decide_eq_false h;simp only [Int.toNat_natCast] at Y N;clear R g1 g2;generalize F k=z at *
 by_cases h1:x1=2
 ·by_cases h2:z < 0
  ·rw [Y ⟨h1,h2⟩]
   clear Y N
   go_enter Tryz.func253,Tryz.ntmps253
   go_wp2
   go_ret
   exact ⟨ret_bool (by first | rfl | simpa using h2),HB.out _⟩
  ·rw [N (fun h=>h2 h.2)]
   clear Y N
   go_enter Tryz.func253,Tryz.ntmps253
   go_wp2
   go_ret
   exact ⟨ret_bool (by first | rfl | simpa using h2),HB.out _⟩
 ·rw [N (fun h=>h1 h.1)]
  clear Y N
  go_enter Tryz.func253,Tryz.ntmps253
  go_wp2
  go_ret
  exact ⟨ret_bool (by first | rfl | simpa using h2),HB.out _⟩
theorem sending_any (w:World) (s:Int):Calls Tryz.prog 224 #[.int .i64 s] w fun e w'=>e = .returned (.func (.func 254) #[] #[.pointer (some ⟨w.heap.size,0,none⟩)])∧w'=w.alloc (.cells #[.int .i64 s] 3):=by
 have hmf:=makeF
 go_enter Tryz.func224,Tryz.ntmps224
 go_wp2
 go_ret
 exact ⟨rfl,rfl⟩
theorem clash_any (w:World) (F:Nat→Int):Calls Tryz.prog 220 #[.agg (ar F)] w fun e w'=>e = .returned (.func (.func 252) #[] #[.pointer (some ⟨w.heap.size,0,none⟩)])∧w'=w.alloc (.cells (ar F) 348):=by
 have hmf:=makeF
 go_enter Tryz.func220,Tryz.ntmps220
 go_wp2
 go_ret
 exact ⟨rfl,rfl⟩
theorem gap_any (w:World) (F:Nat→Int):Calls Tryz.prog 221 #[.agg (ar F)] w fun e w'=>e = .returned (.func (.func 253) #[] #[.pointer (some ⟨w.heap.size,0,none⟩)])∧w'=w.alloc (.cells (ar F) 348):=by
 have hmf:=makeF
 go_enter Tryz.func221,Tryz.ntmps221
 go_wp2
 go_ret
 exact ⟨rfl,rfl⟩
end Go.Proofs.YtljnkaodhfnbbaaGreatDoor.Ck
namespace Go.Proofs.YtljnkaodhfnbbaaGreatDoor.Ro
open Go.RowKit
open Rw (Rd Ow At)
open Fl (R4 z4 rec4 K4 okR hdr rat goodF ret_bool at_bool)
attribute [local irreducible] wpQuiet
set_option maxHeartbeats 1000000 in
theorem istable_any (w:World) (v:Value) (l:List E5) (R:Rd K5 w v l):Calls Tryz.prog 234 #[v] w fun e w'=>e = .returned (.bool (mayB l))∧Below w.heap.size w w':=by
 have HNO:Hid (∀ k,k < l.length→¬ okAt l k→false=mayB l):=fun k hk h=>(decide_eq_false (fun g=>h (g k hk))).symm;have HYES:Hid ((∀ i,i < l.length→okAt l i)→true=mayB l):=fun h=>(decide_eq_true h).symm;obtain ⟨a,cap,rfl,_,hm,hA⟩:=R;have HA:=Lib.hid hA;unfold maxLen at hm;clear hA;generalize hn:l.length=n at *;have HN:=Lib.hid hn;clear hn
 go_enter Tryz.func234,Tryz.ntmps234
 go_wp2
 go_loopw [8,3] (fun i s wr=>∃ k:Nat,k≤n∧i = .int .i64 k∧s = .int .i64 (prevS l k)∧Hid (Below w.heap.size w wr)∧Hid (∀ i,i < k→okAt l i)) (fun i _ _=>n - (intOf i).toNat)
 case atStart=>exact ⟨0,Nat.zero_le _,rfl,rfl,Below.refl _ _,fun i hi=>by omega⟩
 case round =>
  obtain ⟨k,hk,rfl,rfl,bw,hs⟩:=hrel
  by_cases hlt:k < n
  ·obtain ⟨b,off,rfl,A⟩:=HA.out (by omega)
   obtain ⟨c0,c1,c2,c3,c4⟩:=at5 (A.below bw.out) k (by have:=HN.out;omega);have HAA:=Lib.hid A;have GA:=Lib.hid (fun w=>good_any w (eat l k));have hno:=HNO.out k hlt;have hok:okAt l k↔okE (eat l k)∧prevS l k < (eat l k).2.1:=Iff.rfl;have hst:okAt l k→∀ i,i < k+1→okAt l i:=fun g i hi=>by
    by_cases e:i=k
    ·rw [e];exact g
    ·exact hs.out i (by omega)
   have hpn:=prev_next l k;rw [show l.getD k z5=eat l k from rfl] at c0 c1 c2 c3 c4;clear A;unfold ent at GA;have P1:=Lib.hid hno;have P2:=Lib.hid hok;have P3:=Lib.hid hst;have P4:=Lib.hid hpn;clear hno hok hst hpn
   by_cases h1:okE (eat l k)
   ·rw [ok_yes h1] at GA
    have H1:=Lib.hid h1;clear h1
    by_cases h2:(eat l k).2.1≤prevS l k
    ·have E:=Lib.hid (P1.out (fun g=>by have:=(P2.out.1 g).2;omega))
     clear P1 P2 P3 P4;generalize prevS l k=ps at *;generalize eat l k=x at *;go_wp2_with fail;refine (GA.out _).mono ?_;rintro e w1 ⟨rfl,b1⟩;have e1:w1.cell? ⟨wr.heap.size,1,none⟩=some (.int .i64 x.2.1):=(b1.cell (by simp)).trans (by go_simp);have B1:=Lib.hid ((bw.out.alloc bw.out.size _).trans (b1.mono (Nat.le_trans bw.out.size (by simp))));clear b1;go_wp2
     go_ret
     exact ⟨ret_bool E.out,B1.out⟩
    ·have ST:=Lib.hid (P3.out (P2.out.2 ⟨H1.out,by omega⟩))
     have PN:=Lib.hid P4.out;clear P1 P2 P3 P4;generalize prevS l k=ps at *;generalize eat l k=x at *;have h3:ps < x.2.1:=by omega
     go_wp2_with fail;refine (GA.out _).mono ?_;rintro e w1 ⟨rfl,b1⟩;have e1:w1.cell? ⟨wr.heap.size,1,none⟩=some (.int .i64 x.2.1):=(b1.cell (by simp)).trans (by go_simp);have B1:=Lib.hid ((bw.out.alloc bw.out.size _).trans (b1.mono (Nat.le_trans bw.out.size (by simp))));clear b1;go_wp2
     go_roundw
     case rel=>exact ⟨k+1,by omega,by go_num,by rw [PN.out],B1,ST⟩
     case measure=>simp [intOf];omega
   ·have E:=Lib.hid (P1.out (fun g=>h1 (P2.out.1 g).1))
    rw [ok_no h1] at GA;clear P1 P2 P3 P4 h1;generalize prevS l k=ps at *;generalize eat l k=x at *;go_wp2_with fail;refine (GA.out _).mono ?_;rintro e w1 ⟨rfl,b1⟩;have B1:=Lib.hid ((bw.out.alloc bw.out.size _).trans (b1.mono (Nat.le_trans bw.out.size (by simp))));clear b1;go_wp2
    go_ret
    exact ⟨ret_bool E.out,B1.out⟩
  ·obtain rfl:k=n:=by omega
   have E:=Lib.hid (HYES.out (fun i hi=>hs.out i hi));generalize prevS l k=ps at *;go_wp2
   go_ret
   exact ⟨ret_bool E.out,bw.out⟩
end Go.Proofs.YtljnkaodhfnbbaaGreatDoor.Ro
namespace Go.Proofs.YtljnkaodhfnbbaaGreatDoor.Ro
open Go.RowKit
open Rw (Rd Ow At)
open Fl (R4 z4 rec4 K4 okR hdr rat goodF ret_bool at_bool)
set_option maxHeartbeats 1000000 in
theorem put_any (w:World) (x:E5):Calls Tryz.prog 269 #[ent x] w fun e w'=>e = .returned (.tuple #[rec4 (putR x),.int .i64 (putN x)])∧Below w.heap.size w w':=by
 obtain ⟨k,s,f,r,b⟩:=x;have B0:=Lib.hid (((Below.refl w.heap.size w).alloc (Nat.le_refl _) (.cells #[.int .i64 k,.int .i64 s,.int .i64 f,.int .i64 r,.int .i64 b] 87)).alloc (by simp) (.cells #[.int .u8 0,.int .u8 0,.int .u8 0,.int .u8 0] 42));have GA:=Lib.hid (good_any ((w.alloc (.cells #[.int .i64 k,.int .i64 s,.int .i64 f,.int .i64 r,.int .i64 b] 87)).alloc (.cells #[.int .u8 0,.int .u8 0,.int .u8 0,.int .u8 0] 42)) (k,s,f,r,b));unfold ent at GA
 by_cases hg:okE (k,s,f,r,b)
 ·rw [ok_yes hg] at GA
  have EP:Hid (putR (k,s,f,r,b)=(64 * b+k,s,f,r)):=Lib.hid (if_pos hg);have EN:Hid (putN (k,s,f,r,b)=0):=Lib.hid (if_pos hg);obtain ⟨⟨g1,g2⟩,⟨g3,g4⟩,⟨g5,g6⟩,⟨g7,g8⟩,g9,g10⟩:=okE_bounds hg;clear hg;simp only at g1 g2 g3 g4 g5 g6 g7 g8 g9 g10 GA;unfold ent
  go_enter Tryz.func269,Tryz.ntmps269
  go_wp2_with fail;refine GA.out.mono ?_;rintro e w1 ⟨rfl,b1⟩;have B1:=Lib.hid (B0.out.trans (b1.mono B0.out.size));have c0:w1.cell? ⟨w.heap.size,0,none⟩=some (.int .i64 k):=(b1.cell (by simp;omega)).trans (by go_simp);have c1:w1.cell? ⟨w.heap.size,1,none⟩=some (.int .i64 s):=(b1.cell (by simp;omega)).trans (by go_simp);have c2:w1.cell? ⟨w.heap.size,2,none⟩=some (.int .i64 f):=(b1.cell (by simp;omega)).trans (by go_simp);have c3:w1.cell? ⟨w.heap.size,3,none⟩=some (.int .i64 r):=(b1.cell (by simp;omega)).trans (by go_simp);have c4:w1.cell? ⟨w.heap.size,4,none⟩=some (.int .i64 b):=(b1.cell (by simp;omega)).trans (by go_simp);have k0:w1.cell? ⟨w.heap.size+1,0,none⟩=some (.int .u8 0):=(b1.cell (by simp)).trans (by go_simp);have k1:w1.cell? ⟨w.heap.size+1,1,none⟩=some (.int .u8 0):=(b1.cell (by simp)).trans (by go_simp);have k2:w1.cell? ⟨w.heap.size+1,2,none⟩=some (.int .u8 0):=(b1.cell (by simp)).trans (by go_simp);have k3:w1.cell? ⟨w.heap.size+1,3,none⟩=some (.int .u8 0):=(b1.cell (by simp)).trans (by go_simp);have m0:w1.frozen? ⟨w.heap.size+1,0,none⟩=false:=(b1.frozen (by simp)).trans (by go_simp);have m1:w1.frozen? ⟨w.heap.size+1,1,none⟩=false:=(b1.frozen (by simp)).trans (by go_simp);have m2:w1.frozen? ⟨w.heap.size+1,2,none⟩=false:=(b1.frozen (by simp)).trans (by go_simp);have m3:w1.frozen? ⟨w.heap.size+1,3,none⟩=false:=(b1.frozen (by simp)).trans (by go_simp);have hz:w.heap.size+2≤w1.heap.size:=by have:=b1.size;simp at this;omega
  clear b1 GA B0;go_wp2
  (try simp only [Exit.inBlock,Exit.then])
  refine bodyPost_ret (v:=.tuple #[rec4 (64 * b+k,s,f,r),.int .i64 0]) ?_ rfl ⟨by rw [EP.out,EN.out],?_⟩
  ·rw [results_cell_tmp rfl];go_simp;rfl
  ·exact (((B1.out.setCell (by simp) _).setCell (by simp) _).setCell (by simp) _).setCell (by simp) _
 ·rw [ok_no hg] at GA
  have EP:Hid (putR (k,s,f,r,b)=z4):=Lib.hid (if_neg hg);have EN:Hid (putN (k,s,f,r,b)=1):=Lib.hid (if_neg hg);clear hg;simp only at GA;unfold ent
  go_enter Tryz.func269,Tryz.ntmps269
  go_wp2_with fail;refine GA.out.mono ?_;rintro e w1 ⟨rfl,b1⟩;have B1:=Lib.hid (B0.out.trans (b1.mono B0.out.size));have k0:w1.cell? ⟨w.heap.size+1,0,none⟩=some (.int .u8 0):=(b1.cell (by simp)).trans (by go_simp);have k1:w1.cell? ⟨w.heap.size+1,1,none⟩=some (.int .u8 0):=(b1.cell (by simp)).trans (by go_simp);have k2:w1.cell? ⟨w.heap.size+1,2,none⟩=some (.int .u8 0):=(b1.cell (by simp)).trans (by go_simp);have k3:w1.cell? ⟨w.heap.size+1,3,none⟩=some (.int .u8 0):=(b1.cell (by simp)).trans (by go_simp);have m0:w1.frozen? ⟨w.heap.size+1,0,none⟩=false:=(b1.frozen (by simp)).trans (by go_simp);have m1:w1.frozen? ⟨w.heap.size+1,1,none⟩=false:=(b1.frozen (by simp)).trans (by go_simp);have m2:w1.frozen? ⟨w.heap.size+1,2,none⟩=false:=(b1.frozen (by simp)).trans (by go_simp);have m3:w1.frozen? ⟨w.heap.size+1,3,none⟩=false:=(b1.frozen (by simp)).trans (by go_simp);have hz:w.heap.size+2≤w1.heap.size:=by have:=b1.size;simp at this;omega
  clear b1 GA B0;go_wp2
  (try simp only [Exit.inBlock,Exit.then])
  refine bodyPost_ret (v:=.tuple #[rec4 z4,.int .i64 1]) ?_ rfl ⟨by rw [EP.out,EN.out],?_⟩
  ·rw [results_cell_tmp rfl];go_simp;rfl
  ·exact (((B1.out.setCell (by simp) _).setCell (by simp) _).setCell (by simp) _).setCell (by simp) _
set_option maxHeartbeats 1000000 in
theorem take_any (w:World) (v:R4) (hv:okR v):Calls Tryz.prog 233 #[rec4 v] w fun e w'=>e = .returned (.tuple #[ent (takeE v),.int .i64 (takeN v)])∧Below w.heap.size w w':=by
 obtain ⟨a,s,f,r⟩:=v;obtain ⟨⟨a0,a1⟩,⟨s0,s1⟩,⟨f0,f1⟩,r0,r1⟩:=hv;simp only at a0 a1 s0 s1 f0 f1 r0 r1;have q1:a.tdiv 64=a / 64:=Int.tdiv_eq_ediv_of_nonneg a0;have q2:a.tmod 64=a % 64:=Int.tmod_eq_emod_of_nonneg a0;have B0:=Lib.hid ((((Below.refl w.heap.size w).alloc (Nat.le_refl _) (.cells #[.int .u8 a,.int .u8 s,.int .u8 f,.int .u8 r] 42)).alloc (by simp) (.cells #[.int .i64 0,.int .i64 0,.int .i64 0,.int .i64 0,.int .i64 0] 87)).alloc (by simp;omega) (.cells #[.int .i64 (a % 64),.int .i64 s,.int .i64 f,.int .i64 r,.int .i64 (a / 64)] 87));have GA:=Lib.hid (good_any (((w.alloc (.cells #[.int .u8 a,.int .u8 s,.int .u8 f,.int .u8 r] 42)).alloc (.cells #[.int .i64 0,.int .i64 0,.int .i64 0,.int .i64 0,.int .i64 0] 87)).alloc (.cells #[.int .i64 (a % 64),.int .i64 s,.int .i64 f,.int .i64 r,.int .i64 (a / 64)] 87)) (takeX (a,s,f,r)));have g0:0≤a / 64:=by omega
 have g1:a / 64≤3:=by omega
 have g2:0≤a % 64:=by omega
 have g3:a % 64≤63:=by omega
 unfold ent at GA
 by_cases hg:okE (takeX (a,s,f,r))
 ·rw [ok_yes hg] at GA
  have EP:Hid (takeE (a,s,f,r)=(a % 64,s,f,r,a / 64)):=Lib.hid (if_pos hg);have EN:Hid (takeN (a,s,f,r)=0):=Lib.hid (if_pos hg);clear hg;simp only [takeX] at GA;generalize a / 64=y1 at *;generalize a % 64=y2 at *;unfold rec4
  go_enter Tryz.func233,Tryz.ntmps233
  go_wp2_with fail;refine GA.out.mono ?_;rintro e w1 ⟨rfl,b1⟩;have B1:=Lib.hid (B0.out.trans (b1.mono B0.out.size));have c0:w1.cell? ⟨w.heap.size+2,0,none⟩=some (.int .i64 y2):=(b1.cell (by simp)).trans (by go_simp);have c1:w1.cell? ⟨w.heap.size+2,1,none⟩=some (.int .i64 s):=(b1.cell (by simp)).trans (by go_simp);have c2:w1.cell? ⟨w.heap.size+2,2,none⟩=some (.int .i64 f):=(b1.cell (by simp)).trans (by go_simp);have c3:w1.cell? ⟨w.heap.size+2,3,none⟩=some (.int .i64 r):=(b1.cell (by simp)).trans (by go_simp);have c4:w1.cell? ⟨w.heap.size+2,4,none⟩=some (.int .i64 y1):=(b1.cell (by simp)).trans (by go_simp);have k0:w1.cell? ⟨w.heap.size+1,0,none⟩=some (.int .i64 0):=(b1.cell (by simp)).trans (by go_simp);have k1:w1.cell? ⟨w.heap.size+1,1,none⟩=some (.int .i64 0):=(b1.cell (by simp)).trans (by go_simp);have k2:w1.cell? ⟨w.heap.size+1,2,none⟩=some (.int .i64 0):=(b1.cell (by simp)).trans (by go_simp);have k3:w1.cell? ⟨w.heap.size+1,3,none⟩=some (.int .i64 0):=(b1.cell (by simp)).trans (by go_simp);have k4:w1.cell? ⟨w.heap.size+1,4,none⟩=some (.int .i64 0):=(b1.cell (by simp)).trans (by go_simp);have m0:w1.frozen? ⟨w.heap.size+1,0,none⟩=false:=(b1.frozen (by simp)).trans (by go_simp);have m1:w1.frozen? ⟨w.heap.size+1,1,none⟩=false:=(b1.frozen (by simp)).trans (by go_simp);have m2:w1.frozen? ⟨w.heap.size+1,2,none⟩=false:=(b1.frozen (by simp)).trans (by go_simp);have m3:w1.frozen? ⟨w.heap.size+1,3,none⟩=false:=(b1.frozen (by simp)).trans (by go_simp);have m4:w1.frozen? ⟨w.heap.size+1,4,none⟩=false:=(b1.frozen (by simp)).trans (by go_simp);clear b1 GA B0;go_wp2
  (try simp only [Exit.inBlock,Exit.then])
  refine bodyPost_ret (v:=.tuple #[.agg #[.int .i64 y2,.int .i64 s,.int .i64 f,.int .i64 r,.int .i64 y1],.int .i64 0]) ?_ rfl ⟨by rw [EP.out,EN.out];rfl,?_⟩
  ·rw [results_cell_tmp rfl];go_simp;try rfl
  ·exact ((((B1.out.setCell (by simp) _).setCell (by simp) _).setCell (by simp) _).setCell (by simp) _).setCell (by simp) _
 ·rw [ok_no hg] at GA
  have EP:Hid (takeE (a,s,f,r)=z5):=Lib.hid (if_neg hg);have EN:Hid (takeN (a,s,f,r)=2):=Lib.hid (if_neg hg);clear hg;simp only [takeX] at GA;generalize a / 64=y1 at *;generalize a % 64=y2 at *;unfold rec4
  go_enter Tryz.func233,Tryz.ntmps233
  go_wp2_with fail;refine GA.out.mono ?_;rintro e w1 ⟨rfl,b1⟩;have B1:=Lib.hid (B0.out.trans (b1.mono B0.out.size));have k0:w1.cell? ⟨w.heap.size+1,0,none⟩=some (.int .i64 0):=(b1.cell (by simp)).trans (by go_simp);have k1:w1.cell? ⟨w.heap.size+1,1,none⟩=some (.int .i64 0):=(b1.cell (by simp)).trans (by go_simp);have k2:w1.cell? ⟨w.heap.size+1,2,none⟩=some (.int .i64 0):=(b1.cell (by simp)).trans (by go_simp);have k3:w1.cell? ⟨w.heap.size+1,3,none⟩=some (.int .i64 0):=(b1.cell (by simp)).trans (by go_simp);have k4:w1.cell? ⟨w.heap.size+1,4,none⟩=some (.int .i64 0):=(b1.cell (by simp)).trans (by go_simp);have m0:w1.frozen? ⟨w.heap.size+1,0,none⟩=false:=(b1.frozen (by simp)).trans (by go_simp);have m1:w1.frozen? ⟨w.heap.size+1,1,none⟩=false:=(b1.frozen (by simp)).trans (by go_simp);have m2:w1.frozen? ⟨w.heap.size+1,2,none⟩=false:=(b1.frozen (by simp)).trans (by go_simp);have m3:w1.frozen? ⟨w.heap.size+1,3,none⟩=false:=(b1.frozen (by simp)).trans (by go_simp);have m4:w1.frozen? ⟨w.heap.size+1,4,none⟩=false:=(b1.frozen (by simp)).trans (by go_simp);clear b1 GA B0;go_wp2
  (try simp only [Exit.inBlock,Exit.then])
  refine bodyPost_ret (v:=.tuple #[.agg #[.int .i64 0,.int .i64 0,.int .i64 0,.int .i64 0,.int .i64 0],.int .i64 2]) ?_ rfl ⟨by rw [EP.out,EN.out];rfl,?_⟩
  ·rw [results_cell_tmp rfl];go_simp;try rfl
  ·exact ((((B1.out.setCell (by simp) _).setCell (by simp) _).setCell (by simp) _).setCell (by simp) _).setCell (by simp) _
end Go.Proofs.YtljnkaodhfnbbaaGreatDoor.Ro
namespace Go.Proofs.YtljnkaodhfnbbaaGreatDoor.Ro
open Go.RowKit
open Rw (Rd Ow At)
open Fl (R4 z4 rec4 K4 okR hdr rat file ret_bool at_bool at4 row_cell row_frozen newP newL NewOwn new_own sto4 sto4_own sto4_other sto4_below sto2 sto2_row sto2_below sto2_off results_new)
attribute [local irreducible] Sd.wpSd wpQuiet
def FilePost (w:World) (l:List E5) (e:Ending) (w':World):Prop:=∃ u,e = .returned (.tuple #[file (fP l) u,.int .i64 (fN l)])∧Rd K4 w' u (fL l)∧Below w.heap.size w w'
theorem file_no {w:World} {l:List E5} (h:¬ mayP l) (w':World) (hb:Below w.heap.size w w'):FilePost w l (.returned (.tuple #[file 0 (.slice none 0 0),.int .i64 1])) w' :=
 ⟨_,by unfold fP fN;rw [if_neg h,if_neg h],by unfold fL;rw [if_neg h];exact Rw.Rd.nil _,hb⟩
theorem file_yes {w:World} {l:List E5} (h:mayP l) (u:Value) (w':World) (hr:Rd K4 w' u (fileL l)) (hb:Below w.heap.size w w'):FilePost w l (.returned (.tuple #[file 3 u,.int .i64 0])) w' :=
 ⟨u,by unfold fP fN;rw [if_pos h,if_pos h],by unfold fL;rw [if_pos h];exact hr,hb⟩
structure FRel (w:World) (h:R4) (l:List E5) (g gF N cap k:Nat) (wr:World):Prop where
 row:wr.heap[gF]? = some (.cells #[.int .i64 3,.slice (some ⟨g,0,none⟩) N cap] 70 (0,0))
 res:wr.heap[w.heap.size]? = some (.cells #[.int .i64 0,.slice none 0 0] 70 (0,0))
 own:Ow K4 wr (w.heap.size+1) 42 (.slice (some ⟨g,0,none⟩) N cap) (part h l k)
 bel:Below w.heap.size w wr
def FC (g gF N cap gX:Nat) (x:E5) (W:World):Prop:=W.heap[gF]? = some (.cells #[.int .i64 3,.slice (some ⟨g,0,none⟩) N cap] 70 (0,0))∧W.heap[gX]? = some (.cells (row5 x) 87 (0,0))
set_option maxHeartbeats 2000000 in
theorem file_any (w:World) (v:Value) (l:List E5) (R:Rd K5 w v l):Calls Tryz.prog 251 #[v] w (FilePost w l):=by
 have B0:=Lib.hid ((Below.refl w.heap.size w).alloc (Nat.le_refl _) (.cells #[.int .i64 0,.slice none 0 0] 70));have R0:=Lib.hid (R.below B0.out)
 by_cases hm:mayP l
 ·have GA:=Lib.hid (at_bool (show mayB l=true from decide_eq_true hm) (istable_any _ v l R0.out))
  have HE:=Lib.hid (fun u w'=>file_yes (w:=w) hm u w');have hl:=may_len hm;clear hm R0;obtain ⟨a,cap0,rfl,_,hm,hA⟩:=R;have HA:=Lib.hid hA;unfold maxLen at hm;clear hA;have HF:Hid (fileL l=hdr 3 ((l.length:Int)+1) :: (l.map putR ++ [endR])):=rfl;have PS:=Lib.hid (fun h k=>part_set (k:=k) h (l:=l));have PE:=Lib.hid (fun h=>part_end h l);have PL:=Lib.hid (fun h k=>part_len h l k);have NL:Hid (newL 3 ((l.length:Int)+1)=part (hdr 3 ((l.length:Int)+1)) l 0):=Lib.hid (by rw [part_start];rfl);have NO:=Lib.hid (fun w=>new_own w 3 ((l.length:Int)+1) ⟨by omega,by omega,by omega,by omega⟩);unfold NewOwn at NO;rw [NL.out] at NO;clear NL;generalize hdr 3 ((l.length:Int)+1)=h at *;generalize hn:l.length=n at *;have HN:=Lib.hid hn;clear hn;have W0:IntKind.i64.wrap ((n:Int)+1)=(n:Int)+1:=IntWalk.i64_in _ (by omega);unfold file at NO
  go_enter Tryz.func251,Tryz.ntmps251
  go_wp2_with fail;refine GA.out.mono ?_;rintro e w1 ⟨rfl,b1⟩;have z1:w.heap.size+1≤w1.heap.size:=by have:=b1.size;simp at this;omega
  have B1:=Lib.hid (B0.out.trans (b1.mono B0.out.size));have r1:w1.heap[w.heap.size]? = some (.cells #[.int .i64 0,.slice none 0 0] 70 (0,0)):=(b1.block _ (by simp)).trans (heap_alloc_new w _);have S1:=Lib.hid r1;clear b1 GA B0 r1;go_wp2_with fail;refine (NO.out _).mono ?_;rintro e w2 ⟨u,rfl,o2,b2⟩;obtain ⟨g,cap,rfl,hg1,hg2,hcc,hcm,_,_⟩:=o2.form (by rw [PL.out _ _ (Nat.zero_le _)];omega);rw [PL.out _ _ (Nat.zero_le _)] at o2 hcc ⊢;have hz:∀ o,(w2.alloc o).heap.size=w2.heap.size+1:=fun o=>by simp
  have F0:Hid (FRel w h l g w2.heap.size (n+2) cap 0 (w2.alloc (.cells #[.int .i64 3,.slice (some ⟨g,0,none⟩) (n+2) cap] 70))):=Lib.hid
   ⟨heap_alloc_new w2 _,(Below.heap_alloc _ _ _ (by have:=b2.size;omega)).trans ((b2.block _ (by omega)).trans S1.out),(o2.alloc _).low (by omega),(B1.out.trans (b2.mono (by omega))).alloc (by have:=b2.size;omega) _⟩
  have hgF:w.heap.size < w2.heap.size:=by have:=b2.size;omega
  have hg0:w.heap.size < g:=by omega
  clear b2 o2 S1 B1 NO hz;go_wp2;generalize w2.alloc (.cells #[.int .i64 3,.slice (some ⟨g,0,none⟩) (n+2) cap] 70)=W at *;generalize w2.heap.size=gF at *;generalize hN2:n+2=N at *;have HN2:=Lib.hid hN2;clear hN2
  go_loopw [21] (fun i wr=>∃ k:Nat,k≤n∧i = .int .i64 k∧Hid (FRel w h l g gF N cap k wr)) (fun i _=>n - (intOf i).toNat)
  case atStart=>exact ⟨0,Nat.zero_le _,rfl,F0⟩
  case round =>
   obtain ⟨k,hk,rfl,RR⟩:=hrel
   by_cases hlt:k < n
   ·obtain ⟨b,off,rfl,A⟩:=HA.out (by omega)
    obtain ⟨c0,c1,c2,c3,c4⟩:=at5 (A.below RR.out.bel) k (by rw [HN.out];exact hlt);rw [show l.getD k z5=eat l k from rfl] at c0 c1 c2 c3 c4;have PT:=Lib.hid (fun w=>put_any w (eat l k));have PK:=Lib.hid (PS.out h k hlt);have PLK:=Lib.hid (PL.out h k hk);have AA:=Lib.hid A;clear A;unfold ent rec4 at PT;generalize putR (eat l k)=q at *;generalize putN (eat l k)=qn at *;generalize eat l k=x at *;obtain ⟨K1,hK1⟩:∃ K1,K1=k+1:=⟨_,rfl⟩;have W1:IntKind.i64.wrap (1+(k:Int))=(K1:Int):=by rw [IntWalk.i64_in _ (by omega)];omega
    have hkN:K1 < N:=by have:=HN2.out;omega
    have HK:=Lib.hid hK1;clear hK1;go_upto_region 7 with fail;have gx:gF < wr.heap.size:=lt_of_block RR.out.row;have zx:(wr.alloc (.cells (row5 x) 87)).heap.size=wr.heap.size+1:=by simp
    have BX:=Lib.hid ((Below.refl wr.heap.size wr).alloc (Nat.le_refl _) (.cells (row5 x) 87));have rowV:=(BX.out.block _ gx).trans RR.out.row;have resV:=Lib.hid ((BX.out.block _ (by omega)).trans RR.out.res);have rowX:=heap_alloc_new wr (.cells (row5 x) 87);have ownV:=Lib.hid (RR.out.own.alloc (.cells (row5 x) 87));have belV:=Lib.hid (RR.out.bel.trans (BX.out.mono RR.out.bel.size));clear BX RR c0 c1 c2 c3 c4;unfold row5 at zx rowV resV rowX ownV belV;generalize wr.alloc (.cells #[.int .i64 x.1,.int .i64 x.2.1,.int .i64 x.2.2.1,.int .i64 x.2.2.2.1,.int .i64 x.2.2.2.2] 87)=V at *;have C0:FC g gF N cap wr.heap.size x V.drew:=⟨rowV,rowX⟩;have ne:Nonempty (Sc.In (FC g gF N cap wr.heap.size x)):=⟨⟨_,C0⟩⟩;have k1:=Sc.cell_in (C:=FC g gF N cap wr.heap.size x) (a:=⟨gF,1,none⟩) (v:=.slice (some ⟨g,0,none⟩) N cap) (fun W' h=>row_cell h.1 1);have x0:=Sc.cell_in (C:=FC g gF N cap wr.heap.size x) (a:=⟨wr.heap.size,0,none⟩) (v:=.int .i64 x.1) (fun W' h=>row_cell h.2 0);have x1:=Sc.cell_in (C:=FC g gF N cap wr.heap.size x) (a:=⟨wr.heap.size,1,none⟩) (v:=.int .i64 x.2.1) (fun W' h=>row_cell h.2 1);have x2:=Sc.cell_in (C:=FC g gF N cap wr.heap.size x) (a:=⟨wr.heap.size,2,none⟩) (v:=.int .i64 x.2.2.1) (fun W' h=>row_cell h.2 2);have x3:=Sc.cell_in (C:=FC g gF N cap wr.heap.size x) (a:=⟨wr.heap.size,3,none⟩) (v:=.int .i64 x.2.2.2.1) (fun W' h=>row_cell h.2 3);have x4:=Sc.cell_in (C:=FC g gF N cap wr.heap.size x) (a:=⟨wr.heap.size,4,none⟩) (v:=.int .i64 x.2.2.2.2) (fun W' h=>row_cell h.2 4);refine Sc.start (FC g gF N cap wr.heap.size x) [(false,0),(false,1),(false,2),(false,3),(false,4),(true,5),(false,6),(false,7),(false,8),(false,9),(true,10)] (by kernel_rfl) (by kernel_rfl) (by kernel_rfl) C0 ?_;dsimp only [Sd.picks,List.getElem?_cons_succ,List.getElem?_cons_zero]
    iterate 5 (refine Sd.lit ?_;quiet_step (fail);refine wpQuiet_nil ?_)
    refine Sd.call (by rfl) (fun K hK=>?_);go_simp;refine (PT.out _).mono ?_;rintro e w4 ⟨rfl,b4⟩;have b4':Below V.heap.size V w4:=Below.trans ((Below.refl V.heap.size V).drew) b4;have B4:=Lib.hid (belV.out.trans (b4'.mono belV.out.size));have row4:=(b4'.block _ (by omega)).trans rowV;have rowX4:=(b4'.block _ (by omega)).trans rowX;have r4:=(b4'.block _ (by omega)).trans resV.out;have O4:=Lib.hid (ownV.out.keep b4');refine hK _ _ (Sc.Cl.of ⟨row4,rowX4⟩) ?_;clear hK K b4 b4' belV ownV resV rowV rowX PT
    iterate 4 (refine Sd.lit ?_;quiet_step (fail);refine wpQuiet_nil ?_)
    refine Sd.call (by rfl) (fun K hK=>?_);obtain ⟨g',cap',eg,_,_,_,_,hfr,hat⟩:=O4.out.form (by rw [PLK.out];omega);have eg':g'=g:=by
     injection eg with e1;injection e1 with e1;injection e1 with e1 _ _;exact e1.symm
    subst eg';have hKL:K1 < (part h l k).length:=by rw [PLK.out];have:=HN2.out;omega
    have eK:K1=1+k:=by rw [HK.out];omega
    have O5:=Lib.hid (sto4_own (i:=K1) O4.out (by rw [PLK.out]) hKL q);rw [show (part h l k).set K1 q=part h l (k+1) by rw [eK];exact PK.out] at O5;clear eK;obtain ⟨d0,d1,d2,d3⟩:=at4 hat K1 hKL;rw [Nat.zero_add] at d0 d1 d2 d3;have f0:=hfr (K1 * 4);have f1:=hfr (K1 * 4+1);have f2:=hfr (K1 * 4+2);have f3:=hfr (K1 * 4+3);have row5:=sto4_other (g:=g') (o:=K1 * 4) (r:=q) row4 (by omega);have rowX5:=sto4_other (g:=g') (o:=K1 * 4) (r:=q) rowX4 (by omega);have r5:=sto4_other (g:=g') (o:=K1 * 4) (r:=q) r4 (by omega);have B5:=Lib.hid (sto4_below (o:=K1 * 4) (r:=q) B4.out (show w.heap.size≤g' by omega));have N5:Hid (FRel w h l g' gF N cap (k+1) (sto4 w4 g' (K1 * 4) q)):=Lib.hid ⟨row5,r5,O5.out,B5.out⟩;clear hfr hat O4 B4 eg O5 B5;go_simp;refine hK _ _ (Sc.Cl.of ⟨row5,rowX5⟩) ?_;clear hK K d0 d1 d2 d3 f0 f1 f2 f3 row4 r4 rowX4 k1 ne C0 x0 x1 x2 x3 x4;refine Sd.done ?_
    show Exit.inBlock _ _ _ _ (sto4 w4 g' (K1 * 4) q)
    generalize sto4 w4 g' (K1 * 4) q=wS at *;go_wp2
    go_roundw
    case rel=>exact ⟨k+1,by omega,by go_num,N5⟩
    case measure=>simp [intOf];omega
   ·obtain rfl:k=n:=by omega
    have PK:=Lib.hid (PE.out h);have PLK:=Lib.hid (PL.out h k (Nat.le_refl _));have e1:putR endE=endR:=by decide
    have e2:putN endE=0:=by decide
    have PT:=Lib.hid (fun w=>put_any w endE);have EE:=Lib.hid (fun w=>end_any w);rw [e1,e2] at PT;clear e1 e2;unfold ent at PT EE;unfold rec4 at PT;simp only [endE,endR] at PT EE;obtain ⟨K1,hK1⟩:∃ K1,K1=k+1:=⟨_,rfl⟩;have W1:IntKind.i64.wrap (1+(k:Int))=(K1:Int):=by rw [IntWalk.i64_in _ (by omega)];omega
    have hkN:K1 < N:=by have:=HN2.out;omega
    have HK:=Lib.hid hK1;clear hK1 PS PE PL;go_upto_region 9 with fail;have gx:gF < wr.heap.size:=lt_of_block RR.out.row;have rowV:=RR.out.row;have resV:=Lib.hid RR.out.res;have ownV:=Lib.hid RR.out.own;have belV:=Lib.hid RR.out.bel;clear RR;have C0:(fun W':World=>W'.heap[gF]? = some (.cells #[.int .i64 3,.slice (some ⟨g,0,none⟩) N cap] 70 (0,0))) wr.drew:=rowV;have ne:Nonempty (Sc.In (fun W':World=>W'.heap[gF]? = some (.cells #[.int .i64 3,.slice (some ⟨g,0,none⟩) N cap] 70 (0,0)))):=⟨⟨_,C0⟩⟩;have k1:=Sc.cell_in (C:=fun W':World=>W'.heap[gF]? = some (.cells #[.int .i64 3,.slice (some ⟨g,0,none⟩) N cap] 70 (0,0))) (a:=⟨gF,1,none⟩) (v:=.slice (some ⟨g,0,none⟩) N cap) (fun W' h=>row_cell h 1);refine Sc.start (fun W':World=>W'.heap[gF]? = some (.cells #[.int .i64 3,.slice (some ⟨g,0,none⟩) N cap] 70 (0,0))) [(false,0),(false,1),(false,2),(false,3),(false,4),(true,5),(true,6),(false,7),(false,8),(false,9),(false,10),(true,11)] (by kernel_rfl) (by kernel_rfl) (by kernel_rfl) C0 ?_;dsimp only [Sd.picks,List.getElem?_cons_succ,List.getElem?_cons_zero]
    iterate 5 (refine Sd.lit ?_;quiet_step (fail);refine wpQuiet_nil ?_)
    refine Sd.call (by rfl) (fun K hK=>?_);go_simp;refine (EE.out _).mono ?_;rintro e w3 ⟨rfl,b3⟩;have b3':Below wr.heap.size wr w3:=Below.trans ((Below.refl wr.heap.size wr).drew) b3;have row3:=(b3'.block _ (by omega)).trans rowV;refine hK _ _ (Sc.Cl.of row3) ?_;clear hK K b3;refine Sd.call (by rfl) (fun K hK=>?_);go_simp;refine (PT.out _).mono ?_;rintro e w4 ⟨rfl,b4⟩;have b4':Below wr.heap.size wr w4:=b3'.trans (b4.mono b3'.size);have B4:=Lib.hid (belV.out.trans (b4'.mono belV.out.size));have row4:=(b4'.block _ (by omega)).trans rowV;have r4:=(b4'.block _ (by omega)).trans resV.out;have O4:=Lib.hid (ownV.out.keep b4');refine hK _ _ (Sc.Cl.of row4) ?_;clear hK K b4 b3' b4' belV ownV resV rowV row3 PT EE
    iterate 4 (refine Sd.lit ?_;quiet_step (fail);refine wpQuiet_nil ?_)
    refine Sd.call (by rfl) (fun K hK=>?_);obtain ⟨g',cap',eg,_,_,_,_,hfr,hat⟩:=O4.out.form (by rw [PLK.out];omega);have eg':g'=g:=by
     injection eg with e1;injection e1 with e1;injection e1 with e1 _ _;exact e1.symm
    subst eg';have hKL:K1 < (part h l k).length:=by rw [PLK.out];have:=HN2.out;omega
    have eK:K1=1+k:=by rw [HK.out];omega
    have O5:=Lib.hid (sto4_own (i:=K1) O4.out (by rw [PLK.out]) hKL endR);rw [show (part h l k).set K1 endR=fileL l by rw [eK,HF.out];exact PK.out] at O5;clear eK;obtain ⟨d0,d1,d2,d3⟩:=at4 hat K1 hKL;rw [Nat.zero_add] at d0 d1 d2 d3;have f0:=hfr (K1 * 4);have f1:=hfr (K1 * 4+1);have f2:=hfr (K1 * 4+2);have f3:=hfr (K1 * 4+3);have row5:=sto4_other (g:=g') (o:=K1 * 4) (r:=endR) row4 (by omega);have r5:=sto4_other (g:=g') (o:=K1 * 4) (r:=endR) r4 (by omega);have B5:=Lib.hid (sto4_below (o:=K1 * 4) (r:=endR) B4.out (show w.heap.size≤g' by omega));clear hfr hat O4 B4 eg;go_simp;refine hK _ _ (Sc.Cl.of row5) ?_;clear hK K d0 d1 d2 d3 f0 f1 f2 f3 row4 r4 k1 ne C0;refine Sd.done ?_;have d0:(sto4 w4 g' (K1 * 4) endR).cell? ⟨gF,0,none⟩=some (.int .i64 3):=row_cell row5 0;have d1:(sto4 w4 g' (K1 * 4) endR).cell? ⟨gF,1,none⟩=some (.slice (some ⟨g',0,none⟩) N cap):=row_cell row5 1;have e0:(sto4 w4 g' (K1 * 4) endR).cell? ⟨w.heap.size,0,none⟩=some (.int .i64 0):=row_cell r5 0;have e1:(sto4 w4 g' (K1 * 4) endR).cell? ⟨w.heap.size,1,none⟩=some (.slice none 0 0):=row_cell r5 1;have f0:=row_frozen r5 0;have f1:=row_frozen r5 1;have hne:(Value.slice (some ⟨g',0,none⟩) N cap).ownBlock≠some w.heap.size:=O5.out.range (.inl (by omega));have RR:=Lib.hid (sto2_row r5 3 (.slice (some ⟨g',0,none⟩) N cap));have O6:=Lib.hid (sto2_off (u:=.slice (some ⟨g',0,none⟩) N cap) O5.out hne 3);have B6:=Lib.hid (sto2_below (p:=3) (v:=.slice (some ⟨g',0,none⟩) N cap) B5.out (Nat.le_refl _));clear row5 r5 O5 B5 hne
    show Exit.then _ _ _ _ (sto4 w4 g' (K1 * 4) endR)
    generalize sto4 w4 g' (K1 * 4) endR=wS at *;go_wp2
    (try simp only [Exit.inBlock,Exit.then])
    exact bodyPost_ret (v:=.tuple #[file 3 _,.int .i64 0]) (results_new (p:=2) (r:=3) rfl _ _ w.heap.size 3 _ 0 rfl rfl RR.out) rfl (HE.out _ _ O6.out.rd B6.out)
 ·have GA:=Lib.hid (at_bool (show mayB l=false from decide_eq_false hm) (istable_any _ v l R0.out))
  have E:=Lib.hid (file_no (w:=w) hm);clear hm;obtain ⟨a,cap,rfl,_,hm,_⟩:=R;clear R0;generalize l.length=n at *
  go_enter Tryz.func251,Tryz.ntmps251
  go_wp2_with fail;refine GA.out.mono ?_;rintro e w1 ⟨rfl,b1⟩;have z1:w.heap.size < w1.heap.size:=by have:=b1.size;simp at this;omega
  have B1:=Lib.hid (B0.out.trans (b1.mono B0.out.size));have r0:w1.heap[w.heap.size]? = some (.cells #[.int .i64 0,.slice none 0 0] 70 (0,0)):=(b1.block _ (by simp)).trans (heap_alloc_new w _);have c0:w1.cell? ⟨w.heap.size,0,none⟩=some (.int .i64 0):=row_cell r0 0;have c1:w1.cell? ⟨w.heap.size,1,none⟩=some (.slice none 0 0):=row_cell r0 1;have f0:=row_frozen r0 0;have f1:=row_frozen r0 1;have RR:=Lib.hid (sto2_row r0 0 (.slice none 0 0));clear b1 B0 r0 GA;go_wp2
  (try simp only [Exit.inBlock,Exit.then])
  exact bodyPost_ret (v:=.tuple #[file 0 (.slice none 0 0),.int .i64 1]) (results_new (p:=2) (r:=3) rfl _ _ w.heap.size 0 _ 1 rfl rfl RR.out) rfl (E.out _ (sto2_below B1.out (Nat.le_refl _)))
end Go.Proofs.YtljnkaodhfnbbaaGreatDoor.Ro
namespace Go.Proofs.YtljnkaodhfnbbaaGreatDoor.Ck
open Go.RowKit
open Ro (E5 z5 eat ent K5 at5 eat_mem mayB mayP)
open Rw (Rd Ow At)
open Fl (ret_bool at_bool row_cell row_frozen file)
attribute [local irreducible] Sd.wpSd wpQuiet
set_option maxHeartbeats 1000000 in
theorem sender_any (w:World) (v:Value) (L:LL) (s:Int) (R:RdL w v L):Calls Tryz.prog 189 #[v,.int .i64 s] w (WhoPost w (sN s L) (sE s L)):=by
 have eg:∀ args w,(callFunc 254 args).run Tryz.prog w = .ok (.enter 254 args) w:=enters_of Tryz.func254 (by kernel_rfl) rfl;have R0:RowE (w.alloc (.cells #[.int .i64 0,.int .i64 0,.int .i64 0,.int .i64 0,.int .i64 0] 87)) w.heap.size z5:=heap_alloc_new w _;have b0:=(Below.refl w.heap.size w).alloc (Nat.le_refl _) (.cells #[.int .i64 0,.int .i64 0,.int .i64 0,.int .i64 0,.int .i64 0] 87);have RV:=R.below b0;obtain ⟨a,cap,rfl,_⟩:=R.slice;clear R;have FA:=Lib.hid (fun (W:World) (B:Nat) (hr:RdL W (.slice a L.length cap) L) (hc:W.cell? ⟨B,0,none⟩=some (.int .i64 s))=>find_any W _ L 254 #[.pointer (some ⟨B,0,none⟩)] (snd s) eg hr (sclos_any W B s L hc));clear eg;have RR:=Lib.hid R0;have BB:=Lib.hid b0;have RL:=Lib.hid RV;clear R0 b0 RV;have E:Hid (∀ w',Below w.heap.size w w'→WhoPost w (sN s L) (sE s L) (.returned (.tuple #[.int .i64 (sN s L),ent (sE s L)])) w'):=fun w' b=>⟨rfl,b⟩;rw [show whoN (snd s) L=sN s L from rfl,show whoE (snd s) L=sE s L from rfl] at FA;generalize sN s L=rn at *;generalize sE s L=re at *;generalize L.length=n at *
 go_enter Tryz.func189,Tryz.ntmps189
 go_upto_region 1 with fail;generalize w.alloc (.cells #[.int .i64 0,.int .i64 0,.int .i64 0,.int .i64 0,.int .i64 0] 87)=w0 at *;go_wp2_with fail;refine (sending_any w0 s).mono ?_;rintro e w1 ⟨rfl,rfl⟩;have b1:=(Below.refl w0.heap.size w0).alloc (Nat.le_refl _) (.cells #[.int .i64 s] 3);have F:=FA.out (w0.alloc (.cells #[.int .i64 s] 3)) w0.heap.size (RL.out.below b1) (by go_simp);have FB:=Lib.hid F;have R1:=Lib.hid (RR.out.below b1 RR.out.lt);have B1:=Lib.hid (BB.out.trans (b1.mono BB.out.size));clear FA RL RR BB b1 F;generalize w0.heap.size=g0 at *;generalize w0.alloc (.cells #[.int .i64 s] 3)=V at *;go_wp2_with fail;refine FB.out.mono ?_;rintro e w2 ⟨rfl,b2⟩;have R2:=Lib.hid (R1.out.below b2 R1.out.lt);have B2:=Lib.hid (B1.out.trans (b2.mono B1.out.size));clear FB R1 B1 b2;have d0:w2.cell? ⟨w.heap.size,0,none⟩=some (.int .i64 0):=row_cell R2.out 0;have d1:w2.cell? ⟨w.heap.size,1,none⟩=some (.int .i64 0):=row_cell R2.out 1;have d2:w2.cell? ⟨w.heap.size,2,none⟩=some (.int .i64 0):=row_cell R2.out 2;have d3:w2.cell? ⟨w.heap.size,3,none⟩=some (.int .i64 0):=row_cell R2.out 3;have d4:w2.cell? ⟨w.heap.size,4,none⟩=some (.int .i64 0):=row_cell R2.out 4;have f0:w2.frozen? ⟨w.heap.size,0,none⟩=false:=row_frozen R2.out 0;have f1:w2.frozen? ⟨w.heap.size,1,none⟩=false:=row_frozen R2.out 1;have f2:w2.frozen? ⟨w.heap.size,2,none⟩=false:=row_frozen R2.out 2;have f3:w2.frozen? ⟨w.heap.size,3,none⟩=false:=row_frozen R2.out 3;have f4:w2.frozen? ⟨w.heap.size,4,none⟩=false:=row_frozen R2.out 4;have R3:Hid (RowE (sto5 w2 w.heap.size re) w.heap.size re):=Lib.hid (sto5_row (y:=z5) R2.out re);have B3:=Lib.hid (sto5_below (g:=w.heap.size) (x:=re) B2.out (Nat.le_refl _));unfold ent;go_wp2
 (try simp only [Exit.inBlock,Exit.then])
 exact bodyPost_ret (v:=.tuple #[.int .i64 rn,ent re]) (results_who (p:=5) (r:=4) rfl _ _ w.heap.size rn re rfl rfl R3.out) rfl (E.out _ B3.out)
def no (_:Nat):Int:=0
def upto (L:LL) (k:Nat) (i:Nat):Int:=if i < k then sF L i else 0
theorem upto_zero (L:LL) (i:Nat):no i=upto L 0 i:=by unfold upto;rw [if_neg (Nat.not_lt_zero _)];rfl
theorem upto_step (L:LL) (k i:Nat):upI (upto L k) k (sN k L) i=upto L (k+1) i:=by
 unfold upI upto
 by_cases e:i=k
 ·subst e;rw [if_pos rfl,if_pos (by omega)];rfl
 ·rw [if_neg e]
  by_cases c:i < k
  ·rw [if_pos c,if_pos (by omega)]
  ·rw [if_neg c,if_neg (by omega)]
structure TwoI (w wr:World) (F:Nat→Int):Prop where
 res:RowI wr w.heap.size no
 out_:RowI wr (w.heap.size+1) F
 bel:Below w.heap.size w wr
theorem twoI_new (w:World) (F:Nat→Int) (h:∀ i,i < 17→no i=F i):TwoI w ((w.alloc (.cells (ar no) 348)).alloc (.cells (ar no) 348)) F:=by
 have e:(w.alloc (.cells (ar no) 348)).heap.size=w.heap.size+1:=by simp
 have n2:=RowI.new (w.alloc (.cells (ar no) 348)) no;rw [e] at n2;exact ⟨(Below.heap_alloc _ _ _ (by simp)).trans (RowI.new w no),n2.to h,((Below.refl _ _).alloc (Nat.le_refl _) _).alloc (by simp) _⟩
theorem TwoI.set_ {w wr:World} {F:Nat→Int} (h:TwoI w wr F) (k:Nat) (hk:k < 17) (x:Int):TwoI w (wr.setCell ⟨w.heap.size+1,k,none⟩ (.int .i64 x)) (upI F k x) :=
 ⟨h.1.far (by simp) _,h.2.set_ k hk x,h.3.setCell (by simp) _⟩
theorem TwoI.below {w wr w1:World} {F:Nat→Int} (h:TwoI w wr F) (hb:Below wr.heap.size wr w1):TwoI w w1 F :=
 ⟨h.1.below hb h.1.lt,h.2.below hb h.2.lt,h.3.trans (hb.mono h.3.size)⟩
theorem TwoI.to {w wr:World} {F G:Nat→Int} (h:TwoI w wr F) (e:∀ i,i < 17→F i=G i):TwoI w wr G:=⟨h.1,h.2.to e,h.3⟩
theorem below_setRow {B:Nat} {a w:World} (h:Below B a w) (g:Nat) (cs:Array Value) (hg:B≤g):Below B a (w.setRow g cs) :=
 ⟨h.os,h.tape,h.output,by rw [size_setRow];exact h.size,fun k hk=>(setRow_other w g k cs (by omega)).trans (h.block k hk)⟩
set_option maxHeartbeats 1000000 in
theorem senders_any (w:World) (v:Value) (L:LL) (R:RdL w v L):Calls Tryz.prog 218 #[v] w fun e w'=>e = .returned (.agg (ar (sF L)))∧Below w.heap.size w w':=by
 have T0:=Lib.hid (twoI_new w (upto L 0) (fun i _=>upto_zero L i));have SA:=Lib.hid (fun (W:World) (s:Int) (hb:Below w.heap.size w W)=>sender_any W v L s (R.below hb));have E:Hid (ar (upto L 17)=ar (sF L)):=Lib.hid (ar_congr fun i hi=>if_pos hi);have ST:=Lib.hid (upto_step L);obtain ⟨a,cap,rfl,_⟩:=R.slice;clear R;generalize L.length=n at *
 go_enter Tryz.func218,Tryz.ntmps218
 go_wp2
 go_loopw [5] (fun i wr=>∃ k:Nat,k≤17∧i = .int .i64 k∧Hid (TwoI w wr (upto L k))) (fun i _=>17 - (intOf i).toNat)
 case atStart=>exact ⟨0,Nat.zero_le _,rfl,T0⟩
 case round =>
  obtain ⟨k,hk,rfl,T⟩:=hrel
  by_cases hlt:k < 17
  ·have C:=Lib.hid (SA.out wr k T.out.bel)
   have UP:=Lib.hid (ST.out k);generalize sN (k:Int) L=sn at *;generalize sE (k:Int) L=se at *;unfold WhoPost ent at C;go_wp2_with fail;refine C.out.mono ?_;rintro e w1 ⟨rfl,b1⟩;have T1:=Lib.hid (T.out.below b1);have c:=T1.out.out_.cell k hlt;have f:=T1.out.out_.frozen k;have T2:=Lib.hid ((T1.out.set_ k hlt sn).to (fun i _=>UP.out i));clear b1 T1 C;go_wp2
   go_roundw
   case rel=>exact ⟨k+1,by omega,by go_num,T2⟩
   case measure=>simp [intOf];omega
  ·obtain rfl:k=17:=by omega
   go_wp2_with (first
    | (refine wpList_load_row rfl 348 _ rfl _ rfl _ _ _ _ T.out.out_ Tryz.underlying348 rfl (infoI _) ?_)
    | (refine wpList_store_row rfl 348 _ _ rfl _ _ rfl rfl _ _ T.out.res (infoI _) rfl (ar_one _) ?_))
   refine bodyPost_ret (results_ar rfl _ _ _ _ rfl (T.out.res.row _)) rfl ⟨by rw [E.out],?_⟩;exact below_setRow T.out.bel _ _ (Nat.le_refl _)
theorem isno_any (w:World) (v:Value) (l:List E5) (R:Rd K5 w v l):Calls Tryz.prog 217 #[v] w fun e w'=>e = .returned (.bool (bad l))∧Below w.heap.size w w':=by
 have FA:=Lib.hid (Ro.file_any w v l R);have hb:bad l = !mayB l:=rfl;obtain ⟨a,cap,rfl,_⟩:=R;unfold Ro.FilePost file at FA
 by_cases h:mayP l
 ·have e1:Ro.fN l=0:=if_pos h
  have e2:bad l=false:=by rw [hb,show mayB l=true from decide_eq_true h];rfl
  rw [e1] at FA;rw [e2];generalize Ro.fP l=p at *;generalize Ro.fL l=fl at *;clear e1 e2 hb h;generalize l.length=n at *
  go_enter Tryz.func217,Tryz.ntmps217
  go_wp2_with fail;refine FA.out.mono ?_;rintro e w1 ⟨u,rfl,r1,b1⟩;obtain ⟨a1,c1,rfl,_⟩:=r1;have HB:=Lib.hid (fun o=>b1.alloc b1.size o);clear b1;go_wp2
  go_ret
  exact ⟨rfl,HB.out _⟩
 ·have e1:Ro.fN l=1:=if_neg h
  have e2:bad l=true:=by rw [hb,show mayB l=false from decide_eq_false h];rfl
  rw [e1] at FA;rw [e2];generalize Ro.fP l=p at *;generalize Ro.fL l=fl at *;clear e1 e2 hb h;generalize l.length=n at *
  go_enter Tryz.func217,Tryz.ntmps217
  go_wp2_with fail;refine FA.out.mono ?_;rintro e w1 ⟨u,rfl,r1,b1⟩;obtain ⟨a1,c1,rfl,_⟩:=r1;have HB:=Lib.hid (fun o=>b1.alloc b1.size o);clear b1;go_wp2
  go_ret
  exact ⟨rfl,HB.out _⟩
set_option maxHeartbeats 1000000 in
theorem index_any (w:World) (v:Value) (L:LL) (g:Nat) (q:List E5→Bool) (eg:∀ args w,(callFunc g args).run Tryz.prog w = .ok (.enter g args) w) (R:RdL w v L)
 (hp:∀ (W:World) (u:Value) (l:List E5),Rd K5 W u l→Calls Tryz.prog g #[u] W fun e w'=>e = .returned (.bool (q l))∧Below W.heap.size W w') :
 Calls Tryz.prog 216 #[v,.func (.func g) #[] #[]] w fun e w'=>e = .returned (.int .i64 (idx q 0 L))∧Below w.heap.size w w':=by
 obtain ⟨a,cap,rfl,_,hm,hA⟩:=R;have HA:=Lib.hid hA;have HP:=Lib.hid hp;have HH:Hid (∀ k,IAhead q L k→k < L.length→q (lat L k)=true→idx q 0 L=k):=fun k=>iahead_hit;have HE:Hid (IAhead q L L.length→idx q 0 L = -1):=iahead_end;have HX:Hid (∀ k,IAhead q L k→k < L.length→q (lat L k)=false→IAhead q L (k+1)):=fun k=>iahead_next;clear hA hp;generalize hr:idx q 0 L=r at *;clear hr;unfold maxLen at hm;generalize hn:L.length=n at *;have HN:=Lib.hid hn;clear hn
 go_enter Tryz.func216,Tryz.ntmps216
 go_wp2
 go_loopw [8] (fun i wr=>∃ k:Nat,k≤n∧i = .int .i64 k∧Hid (IAhead q L k)∧Hid (Below w.heap.size w wr)) (fun i _=>n - (intOf i).toNat)
 case atStart=>exact ⟨0,Nat.zero_le _,rfl,iahead_zero,Below.refl _ _⟩
 case round =>
  obtain ⟨k,hk,rfl,hs,bw⟩:=hrel
  by_cases hlt:k < n
  ·obtain ⟨b,off,rfl,A⟩:=HA.out (by omega)
   obtain ⟨u,c,ru⟩:=A k hlt;have ru':=ru.below bw.out;have c':=(bw.out.cell (World.block_lt_of_cell? _ _ c)).trans c;have AA:=Lib.hid A;clear A;have hc:=HP.out wr u (lat L k) (ru.below bw.out);obtain ⟨a',cap',rfl,_⟩:=ru;have C:=Lib.hid hc;have YES:=fun h=>HH.out k hs.out hlt h;have NO:=fun h=>HX.out k hs.out hlt h;clear hc ru' c;generalize q (lat L k)=qq at *;generalize (lat L k).length=m at *
   cases qq with
   | true =>
     have Y:=Lib.hid (YES rfl);clear YES NO;go_wp2_with fail;refine C.out.mono ?_;rintro e w1 ⟨rfl,b1⟩;have B1:=Lib.hid (bw.out.trans (b1.mono bw.out.size));clear b1;go_wp2
     go_ret
     exact ⟨Ua.ret_int Y.out.symm,B1.out⟩
   | false =>
     have N:=Lib.hid (NO rfl);clear YES NO;go_wp2_with fail;refine C.out.mono ?_;rintro e w1 ⟨rfl,b1⟩;have B1:=Lib.hid (bw.out.trans (b1.mono bw.out.size));clear b1;go_wp2
     go_roundw
     case rel=>exact ⟨k+1,by omega,by go_num,N,B1⟩
     case measure=>simp [intOf];omega
  ·obtain rfl:k=n:=by omega
   have E:=Lib.hid (HE.out hs.out);go_wp2
   go_ret
   exact ⟨Ua.ret_int E.out.symm,bw.out⟩
end Go.Proofs.YtljnkaodhfnbbaaGreatDoor.Ck
namespace Go.Proofs.YtljnkaodhfnbbaaGreatDoor.Pa
open Go.RowKit Go.Maps
open Fs (Abs St Only Fx Wf gB gV GetPost get_st OkA)
open Rw (Rd Ow At)
open Ro (E5 z5 eat K5 at5 okE okB ok_yes ent good_any okE_bounds)
open Ck (LL lat sN sE tE RdL who_cases sender_any WhoPost snd snd_is)
open Fl (R4 z4 rec4 okR arr4 row_cell row_frozen sto4 sto4_row sto4_other sto4_below sto4_size)
attribute [local irreducible] Sd.wpSd wpQuiet Sf.wpSf
theorem sender_is {T:LL} (ok:tE T=0) {s:Int} (h:0≤sN s T):∃ n:Nat,sN s T=n∧n < T.length∧sE s T∈lat T n∧okE (sE s T)∧(sE s T).1=1∧(sE s T).2.1=s:=by
 rcases who_cases (snd s) T with ⟨n,x,hn,hx,hp,_,e1,e2⟩ | ⟨_,e1,_⟩
 ·have e1':sN s T=n:=e1
  have e2':sE s T=x:=e2;obtain ⟨k1,k2⟩:=snd_is hp;exact ⟨n,e1',hn,by rw [e2'];exact hx,by rw [e2'];exact (tab_each ok hn x hx).1,by rw [e2'];exact k1,by rw [e2'];exact k2⟩
 ·have e1':sN s T = -1:=e1
  omega
theorem gV_ok {A:Abs} (hA:OkA A) (f r:Int):okR (gV A f r):=by
 unfold gV
 split
 ·exact Fl.okR_z
 ·rename_i e he
  split
  ·exact Fl.okR_at (hA.find he).2.2.1 _
  ·exact Fl.okR_z
theorem gV_no {A:Abs} {f r:Int} (h:gB A f r=false):gV A f r=z4:=by
 unfold gB at h;unfold gV
 split
 ·rfl
 ·rename_i e he
  rw [he] at h;simp only [decide_eq_false_iff_not] at h;rw [if_neg h]
theorem get_has {w:World} {s:Nat} {x:Abs×Int} (H:Has w s x) {n:Int} (hn:Wf n) (r:Int):Calls Tryz.prog 31 #[.pointer (some ⟨s,0,none⟩),.int .i64 n,.int .i64 r] w (GetPost w (gV x.1 n r) (gB x.1 n r)):=by
 obtain ⟨F,S⟩:=H;exact get_st S hn r
theorem arr4_at (v:R4) {j:Nat} (hj:j < 4):(arr4 v)[j]? = some (.int .u8 (rb v j)):=by
 obtain rfl | rfl | rfl | rfl:j=0∨j=1∨j=2∨j=3:=by omega
 all_goals rfl
def SentPost (w:World) (n x:Int) (b:Bool) (e:Ending) (w':World):Prop:=e = .returned (.tuple #[.int .i64 n,.int .u8 x,.bool b])∧Below w.heap.size w w'
theorem sent_no {S:Sts} {T:LL} {V:List Bool} {s:Int} {w w':World} (h:snB S T V s=false) (b:Below w.heap.size w w'):SentPost w (sbN S T V s) (sbX S T V s) (snB S T V s) (.returned (.tuple #[.int .i64 (-1),.int .u8 0,.bool false])) w':=by
 refine ⟨?_,b⟩;unfold sbN sbX;rw [h]
 rfl
theorem sent_yes {S:Sts} {T:LL} {V:List Bool} {s:Int} {w w':World} (h:snB S T V s=true) (b:Below w.heap.size w w'):SentPost w (sbN S T V s) (sbX S T V s) (snB S T V s) (.returned (.tuple #[.int .i64 (sN s T),.int .u8 (snX S T s),.bool true])) w':=by
 refine ⟨?_,b⟩;unfold sbN sbX;rw [h]
 rfl
set_option maxHeartbeats 400000 in
theorem sent_any {w:World} {vs vt vl:Value} {S:Sts} {T:LL} {V:List Bool} (H:Ns w vs vt vl S T V) (s:Int):Calls Tryz.prog 147 #[vs,vt,vl,.int .i64 s] w (SentPost w (sbN S T V s) (sbX S T V s) (snB S T V s)):=by
 have SA:=Lib.hid (sender_any w vt T s H.tb);unfold WhoPost at SA;have NO:=Lib.hid (fun h w' b=>sent_no (S:=S) (T:=T) (V:=V) (s:=s) (w:=w) (w':=w') h b);have YES:=Lib.hid (fun h w' b=>sent_yes (S:=S) (T:=T) (V:=V) (s:=s) (w:=w) (w':=w') h b);have HH:=Lib.hid H;obtain ⟨sa,cs,rfl,_⟩:=H.st.slice;obtain ⟨al,cl,el,_⟩:=H.lv.slice;rw [H.ll] at el;subst el
 by_cases h0:0≤sN s T
 ·obtain ⟨n,hn,hlt,hmem,oke,hk1,hk2⟩:=sender_is H.ok h0
  have GA:=Lib.hid (fun w=>good_any w (sE s T));rw [ok_yes oke] at GA;obtain ⟨f0,r0,y0⟩:=(okE_bounds oke).2.2;have hnS:n < S.length:=by rw [← H.lt];exact hlt
  have hnV:n < V.length:=by rw [H.ll];exact hnS
  obtain ⟨b,off,cap,sp,e1,cS,hS⟩:=H.st.one hnS;injection e1 with e1 _ e2;subst e1 e2;obtain ⟨bl,ol,el2,AL⟩:∃ bl ol,al=some ⟨bl,ol,none⟩∧At KB w bl ol V:=by
   obtain ⟨a',c',e',_,_,h3⟩:=H.lv;injection e' with q1 _ q2;subst q1;exact h3 (by omega)
  subst el2;have cV:=atB AL hnV
  have SB:Hid (snB S T V s=(vat V n && gB (sat S n).1 (sE s T).2.2.1 (sE s T).2.2.2.1)):=Lib.hid (by
   unfold snB
   rw [hn,decide_eq_true (Int.natCast_nonneg n),Bool.true_and])
  have SX:Hid (snX S T s=rb (gV (sat S n).1 (sE s T).2.2.1 (sE s T).2.2.2.1) (sE s T).2.2.2.2):=Lib.hid (by
   unfold snX
   rw [hn])
  have ev:V.getD n false=vat V n:=rfl;rw [ev] at cV;rw [hn] at YES SA;have WF:=Lib.hid (wf_of (n:=(sE s T).2.2.1) (by omega));have SG:Hid (∀ W,Below w.heap.size w W→Calls Tryz.prog 31 #[.pointer (some ⟨sp,0,none⟩),.int .i64 (sE s T).2.2.1,.int .i64 (sE s T).2.2.2.1] W (GetPost W (gV (sat S n).1 (sE s T).2.2.1 (sE s T).2.2.2.1) (gB (sat S n).1 (sE s T).2.2.1 (sE s T).2.2.2.1))):=Lib.hid (fun W b=>get_has (hS.below b) WF.out _);have GN:Hid (gB (sat S n).1 (sE s T).2.2.1 (sE s T).2.2.2.1=false→gV (sat S n).1 (sE s T).2.2.1 (sE s T).2.2.2.1=z4):=Lib.hid gV_no;clear hmem hS HH H h0 hk1 hk2 hlt oke hn;unfold GetPost at SG;generalize gV (sat S n).1 (sE s T).2.2.1 (sE s T).2.2.2.1=gv at *;generalize gB (sat S n).1 (sE s T).2.2.1 (sE s T).2.2.2.1=gb at *;unfold ent at SA GA;generalize snX S T s=X at *;generalize sE s T=x at *;obtain ⟨q,s',f,r,y⟩:=x;simp only at y0 SX SA GA SG WF GN;obtain ⟨j,rfl⟩:∃ j:Nat,y=j:=⟨y.toNat,by omega⟩;have hj:j < 4:=by omega
  clear f0 r0 y0;generalize snB S T V s=a3 at *;generalize sbN S T V s=a1 at *;generalize sbX S T V s=a2 at *;generalize S.length=N at *;have lS:b < w.heap.size:=World.block_lt_of_cell? _ _ cS;have lV:bl < w.heap.size:=World.block_lt_of_cell? _ _ cV;have CS:=Lib.hid cS;have CV:=Lib.hid cV;clear cS AL hnV
  go_enter Tryz.func147,Tryz.ntmps147
  go_wp2_with fail;refine SA.out.mono ?_;rintro e w1 ⟨rfl,b1⟩;have X1:Hid ((w1.alloc (.cells #[.int .i64 q,.int .i64 s',.int .i64 f,.int .i64 r,.int .i64 (j:Int)] 87)).heap[w1.heap.size]? = some (.cells #[.int .i64 q,.int .i64 s',.int .i64 f,.int .i64 r,.int .i64 (j:Int)] 87 (0,0))):=Lib.hid (heap_alloc_new w1 _);have B1:=Lib.hid (b1.alloc b1.size (.cells #[.int .i64 q,.int .i64 s',.int .i64 f,.int .i64 r,.int .i64 (j:Int)] 87));have G1:=b1.size;go_upto_region 2 with fail;generalize (w1.alloc (.cells #[.int .i64 q,.int .i64 s',.int .i64 f,.int .i64 r,.int .i64 (j:Int)] 87))=W at *;clear b1 SA;generalize w1.heap.size=g at *;have cV:=(B1.out.cell lV).trans CV.out;have x0:W.cell? ⟨g,0,none⟩=some (.int .i64 q):=row_cell X1.out 0;have x1:W.cell? ⟨g,1,none⟩=some (.int .i64 s'):=row_cell X1.out 1;have x2:W.cell? ⟨g,2,none⟩=some (.int .i64 f):=row_cell X1.out 2;have x3:W.cell? ⟨g,3,none⟩=some (.int .i64 r):=row_cell X1.out 3;have x4:W.cell? ⟨g,4,none⟩=some (.int .i64 (j:Int)):=row_cell X1.out 4
  cases hv:vat V n with
  | false =>
    rw [hv] at cV;have N2:=Lib.hid (NO.out (by rw [SB.out,hv];rfl) W B1.out);clear NO YES SB SX;go_wp2
    go_ret3
    exact N2.out
  | true =>
    rw [hv] at cV;go_wp2_with fail;refine (GA.out _).mono ?_;rintro e w2 ⟨rfl,b2⟩;have X2:=Lib.hid ((b2.block _ (lt_of_block X1.out)).trans X1.out);have B2:=Lib.hid (B1.out.trans (b2.mono B1.out.size));clear b2 GA X1 B1 cV x0 x1 x2 x3 x4;go_upto_region 4 with fail;have cS:=Sd.cell_by ((B2.out.cell lS).trans CS.out);have x2:=Sd.cell_by (show w2.cell? ⟨g,2,none⟩=some (.int .i64 f) from row_cell X2.out 2);have x3:=Sd.cell_by (show w2.cell? ⟨g,3,none⟩=some (.int .i64 r) from row_cell X2.out 3);refine Sf.start [(0,0),(0,1),(0,2),(0,3),(0,4),(0,5),(0,6),(0,7),(1,8),(0,9),(0,10),(0,11),(2,12),(1,13),(0,14)] [⟨12,12,#[.int .u8 0,.int .u8 0,.int .u8 0,.int .u8 0],42⟩] (by kernel_rfl) (by kernel_rfl) (by kernel_rfl) (by decide) (by decide) ?_ ?_ ?_
    ·simp
    ·intro f hf
     simp only [List.mem_cons,List.not_mem_nil,or_false] at hf;subst hf;exact ⟨_,rfl,rfl,rfl,fun ρ w=>by go_simp⟩
    dsimp only [Sf.picks,List.getElem?_cons_succ,List.getElem?_cons_zero];have BW:=Lib.hid ((Below.refl w2.heap.size w2).drew);unfold ptr at cS
    repeat (refine Sf.lit (fun xs=>?_);simp only [Sf.fill,List.foldl_cons,List.foldl_nil];quiet_step (fail);refine wpQuiet_nil ?_)
    refine Sf.call (fun xs w3 hb hc=>⟨by rfl,fun K hK=>?_⟩);have B3:=Lib.hid (BW.out.trans (hb.mono BW.out.size));clear hb hc BW;simp only [Sf.fill,List.foldl_cons,List.foldl_nil];go_simp;refine (SG.out w3 (B2.out.trans (B3.out.mono B2.out.size))).mono ?_;rintro e4 w4 ⟨rfl,b4⟩;have B4:=Lib.hid (B3.out.trans (b4.mono B3.out.size));refine hK _ _ (Sd.Cl.of B4.out) b4.size (fun _=>b4) ?_;clear hK K b4 B3 SG;unfold rec4
    repeat (refine Sf.lit (fun xs=>?_);simp only [Sf.fill,List.foldl_cons,List.foldl_nil];quiet_step (fail);refine wpQuiet_nil ?_)
    refine Sf.meet (fun g7 w7 hb hc row n7 hH hL=>?_);have B7:=Lib.hid (B4.out.trans (hb.mono B4.out.size));have R7:Hid (w7.heap[g7]? = some (.cells (arr4 z4) 42 (0,0))):=Lib.hid row;clear hb hc row hH hL B4
    repeat (refine Sf.lit (fun xs=>?_);simp only [Sf.fill,List.foldl_nil];quiet_step (fail);refine wpQuiet_nil ?_)
    refine Sf.call (fun xs w9 hb hc=>⟨by rfl,fun K hK=>?_⟩);have B9:=Lib.hid (B7.out.trans (hb.mono B7.out.size));have R9:=(hb.block _ (lt_of_block R7.out)).trans R7.out;have d0:w9.cell? ⟨g7,0,none⟩=some (.int .u8 0):=row_cell R9 0;have d1:w9.cell? ⟨g7,1,none⟩=some (.int .u8 0):=row_cell R9 1;have d2:w9.cell? ⟨g7,2,none⟩=some (.int .u8 0):=row_cell R9 2;have d3:w9.cell? ⟨g7,3,none⟩=some (.int .u8 0):=row_cell R9 3;have f0:w9.frozen? ⟨g7,0,none⟩=false:=row_frozen R9 0;have f1:w9.frozen? ⟨g7,1,none⟩=false:=row_frozen R9 1;have f2:w9.frozen? ⟨g7,2,none⟩=false:=row_frozen R9 2;have f3:w9.frozen? ⟨g7,3,none⟩=false:=row_frozen R9 3;have RA:=sto4_row R9 gv;have BA:=sto4_below (o:=0) (r:=gv) B9.out n7;have hsz:=sto4_size w9 g7 0 gv;clear hb hc B7 R7 R9;simp only [Sf.fill,List.foldl_nil];go_simp;refine hK _ _ (Sd.Cl.of BA) (by rw [← hsz];exact Nat.le_refl _) (fun h=>absurd rfl h) ?_;clear hK K d0 d1 d2 d3 f0 f1 f2 f3 hsz
    show Sf.wpSf _ _ _ _ _ _ _ _ _ _ (sto4 w9 g7 0 gv)
    have B10:=Lib.hid (B2.out.trans (BA.mono B2.out.size));have X10:=Lib.hid ((BA.block _ (lt_of_block X2.out)).trans X2.out);have R10:=Lib.hid RA;clear BA RA cS x2 x3 B9 B2 X2 CS CV n7;generalize sto4 w9 g7 0 gv=wA at *
    repeat (refine Sf.lit (fun xs=>?_);simp only [Sf.fill,List.foldl_nil];quiet_step (fail);refine wpQuiet_nil ?_)
    refine Sf.done (fun wB hb hc=>?_);have BB:=Lib.hid (B10.out.trans (hb.mono B10.out.size));have XB:=Lib.hid ((hb.block _ (lt_of_block X10.out)).trans X10.out);have RB:=Lib.hid ((hb.block _ (lt_of_block R10.out)).trans R10.out);clear hb hc B10 X10 R10
    cases hb:gb with
    | false =>
      have N2:=Lib.hid (NO.out (by rw [SB.out,hv,hb];rfl) wB BB.out);clear NO YES SB SX;go_wp2
      go_ret3
      exact N2.out
    | true =>
      have N2:=Lib.hid (YES.out (by rw [SB.out,hv,hb];rfl) wB.drew (BB.out.trans ((Below.refl _ _).drew)));rw [SX.out] at N2;clear NO YES SB SX GN;go_upto_region 7 with fail;have x4:=Sd.cell_by (show wB.cell? ⟨g,4,none⟩=some (.int .i64 (j:Int)) from row_cell XB.out 4);have rj:=Sd.cell_by ((row_cell RB.out j).trans (arr4_at gv hj));obtain rfl | rfl | rfl | rfl:j=0∨j=1∨j=2∨j=3:=by omega
      all_goals
       refine Sd.start [(false,0),(false,1),(false,2),(false,3),(false,4),(false,5),(false,6),(false,7)] (by kernel_rfl) (by kernel_rfl) (by kernel_rfl) ?_;dsimp only [Sd.picks,List.getElem?_cons_succ,List.getElem?_cons_zero]
       repeat (refine Sd.lit ?_;quiet_step (fail);refine wpQuiet_nil ?_)
       refine Sd.done ?_;clear x4 rj;go_wp2
       go_ret3
       exact N2.out
 ·have SBF:snB S T V s=false:=by unfold snB;rw [decide_eq_false h0];rfl
  have N2:=Lib.hid (NO.out SBF);clear NO YES SBF HH H;generalize sbN S T V s=a1 at *;generalize sbX S T V s=a2 at *;generalize snB S T V s=a3 at *;have d0:decide (sN s T < 0)=true:=decide_eq_true (by omega);generalize sN s T=m at *;generalize sE s T=x at *;unfold ent at SA
  go_enter Tryz.func147,Tryz.ntmps147
  go_wp2_with fail;refine SA.out.mono ?_;rintro e w1 ⟨rfl,b1⟩;have B1:=Lib.hid (b1.alloc b1.size (.cells #[.int .i64 x.1,.int .i64 x.2.1,.int .i64 x.2.2.1,.int .i64 x.2.2.2.1,.int .i64 x.2.2.2.2] 87));have hm0:m < 0:=by omega
  clear b1 SA;go_wp2
  go_ret3
  exact N2.out _ B1.out
end Go.Proofs.YtljnkaodhfnbbaaGreatDoor.Pa
namespace Go.Proofs.YtljnkaodhfnbbaaGreatDoor.Ua
open Go.RowKit
theorem place_any (w:World) (k:Nat) (h:k < 8):Calls Tryz.prog 98 #[.int .i64 (k+1:Nat)] w fun e w'=>e = .returned (.int .u8 (2 ^ k))∧w=w':=by
 rcases (by omega:k=0∨k=1∨k=2∨k=3∨k=4∨k=5∨k=6∨k=7) with rfl | rfl | rfl | rfl | rfl | rfl | rfl | rfl
 all_goals
  go_enter Tryz.func98,Tryz.ntmps98
  go_wp2
  go_ret
  exact ⟨ret_int (by decide),rfl⟩
theorem isOdd_any (w:World) (F:Nat→Bool):Calls Tryz.prog 99 #[.agg (arr F)] w fun e w'=>e = .returned (.bool (par F 9))∧Below w.heap.size w w':=by
 have R0:=Lib.hid (Row.new w F);have B0:=Lib.hid ((Below.refl w.heap.size w).alloc (Nat.le_refl _) (.cells (arr F) 113))
 go_enter Tryz.func99,Tryz.ntmps99
 go_wp2
 go_loop [3,8] (fun o i=>∃ k:Nat,k≤9∧i = .int .i64 k∧o = .bool (par F k)) (fun _ i=>9 - (intOf i).toNat)
 case atStart=>exact ⟨0,by omega,rfl,rfl⟩
 case round =>
  obtain ⟨k,hk,rfl,rfl⟩:=hrel
  by_cases hlt:k < 9
  ·have c:=R0.out.cell (1+k) (by omega)
   have e:par F (k+1)=(par F k != F (1+k)):=by rw [par,Nat.add_comm 1 k]
   have E:=Lib.hid e;clear e;go_wp2
   go_round
   case rel=>exact ⟨k+1,by omega,by go_num,by rw [E.out];cases par F k <;> cases F (1+k) <;> rfl⟩
   case measure=>simp [intOf];omega
  ·obtain rfl:k=9:=by omega
   go_wp2
   go_ret
   exact ⟨rfl,B0.out⟩
end Go.Proofs.YtljnkaodhfnbbaaGreatDoor.Ua
namespace Go.Proofs.YtljnkaodhfnbbaaGreatDoor.Ua
open Go.RowKit
theorem put_1 (b:Int) (i:Nat):put b 1 i=false:=by unfold put;rw [if_neg (by omega)]
theorem put_step (b:Int) (k:Nat) (h:1≤k) (i:Nat):upd (put b k) k (bit b (k - 1)) i=put b (k+1) i:=by
 unfold upd put
 by_cases e:i=k
 ·subst e;rw [if_pos rfl,if_pos (by omega)]
 ·rw [if_neg e]
  by_cases c:1≤i∧i < k
  ·rw [if_pos c,if_pos (by omega)]
  ·rw [if_neg c,if_neg (by omega)]
def no (_:Nat):Bool:=false
def Two (w wr:World) (F:Nat→Bool):Prop:=Row wr w.heap.size no∧Row wr (w.heap.size+1) F∧Below w.heap.size w wr
theorem Two.frame {w wr:World} {F:Nat→Bool} (h:Two w wr F):Row wr (w.heap.size+1) F:=h.2.1
theorem Two.res {w wr:World} {F:Nat→Bool} (h:Two w wr F):Row wr w.heap.size no:=h.1
theorem two_new (w:World) (F:Nat→Bool) (h:∀ i,i < 11→false=F i):Two w ((w.alloc (.cells (arr no) 113)).alloc (.cells (arr no) 113)) F:=by
 refine ⟨(Row.new w no).alloc _,?_,((Below.refl _ _).alloc (Nat.le_refl _) _).alloc (by simp) _⟩;have:=Row.new (w.alloc (.cells (arr no) 113)) no;have e:(w.alloc (.cells (arr no) 113)).heap.size=w.heap.size+1:=by simp
 rw [e] at this;exact this.to h
theorem Two.set_ {w wr:World} {F:Nat→Bool} (h:Two w wr F) (k:Nat) (hk:k < 11) (x:Bool):Two w (wr.setCell ⟨w.heap.size+1,k,none⟩ (.bool x)) (upd F k x) :=
 ⟨h.1.far (by simp) _,h.2.1.set_ k hk x,h.2.2.setCell (by simp) _⟩
theorem Two.below {w wr w1:World} {F:Nat→Bool} (h:Two w wr F) (hb:Below wr.heap.size wr w1):Two w w1 F :=
 ⟨h.1.below hb h.1.lt,h.2.1.below hb h.2.1.lt,h.2.2.trans (hb.mono h.2.2.size)⟩
theorem Two.to {w wr:World} {F G:Nat→Bool} (h:Two w wr F) (e:∀ i,i < 11→F i=G i):Two w wr G:=⟨h.1,h.2.1.to e,h.2.2⟩
set_option maxHeartbeats 400000 in
theorem put_any (w:World) (b:Int) (odd:Bool) (h0:0≤b) (h1:b≤255):Calls Tryz.prog 41 #[.int .u8 b,.bool odd] w fun e w'=>e = .returned (.agg (arr (frm b odd)))∧Below w.heap.size w w':=by
 have T0:=Lib.hid (two_new w (put b 1) (fun i _=>(put_1 b i).symm))
 go_enter Tryz.func41,Tryz.ntmps41
 go_wp2
 go_loopw [6] (fun i wr=>∃ k:Nat,1≤k∧k≤9∧i = .int .i64 k∧Hid (Two w wr (put b k))) (fun i _=>9 - (intOf i).toNat)
 case atStart=>exact ⟨1,by omega,by omega,rfl,T0⟩
 case round =>
  obtain ⟨k,k1,k9,rfl,T⟩:=hrel
  by_cases hlt:k < 9
  ·obtain ⟨j,rfl⟩:∃ j,k=j+1:=⟨k - 1,by omega⟩
   have c:=T.out.2.1.cell (j+1) (by omega);have f:=T.out.2.1.frozen (j+1);go_wp2_with fail;refine (place_any _ j (by omega)).mono ?_;rintro e w' ⟨rfl,rfl⟩;go_wp2
   go_roundw
   case rel=>exact ⟨j+1+1,by omega,by omega,by go_num,by rw [and_bit b j h0 h1 (by omega)];exact (T.out.set_ (j+1) (by omega) _).to (fun i _=>put_step b (j+1) (by omega) i)⟩
   case measure=>simp [intOf];omega
  ·obtain rfl:k=9:=by omega
   go_wp2_with (refine wpList_load_row rfl 113 _ rfl _ rfl _ _ _ _ T.out.2.1 Tryz.underlying113 rfl (info_of _) ?_)
   refine (isOdd_any _ _).mono ?_;rintro e w1 ⟨rfl,b1⟩;have T1:=Lib.hid (T.out.below b1);have c9:=T1.out.2.1.cell 9 (by omega);have c10:=T1.out.2.1.cell 10 (by omega);have f9:=T1.out.2.1.frozen 9;have f10:=T1.out.2.1.frozen 10;clear b1;have T2:=Lib.hid ((T1.out.set_ 9 (by omega) (par (put b 9) 9 != odd)).set_ 10 (by omega) true)
   go_wp2_with (first
    | (refine wpList_load_row rfl 113 _ rfl _ rfl _ _ _ _ T2.out.2.1 Tryz.underlying113 rfl (info_of _) ?_)
    | (refine wpList_store_row rfl 113 _ _ rfl _ _ rfl rfl _ _ T2.out.1 (info_of _) rfl (arr_one _) ?_))
   refine bodyPost_ret (results_cell_row rfl _ _ _ _ _ _ _ rfl (T2.out.1.row _) Tryz.underlying113 rfl (info_of _)) rfl ⟨rfl,?_⟩;exact below_setRow T2.out.2.2 _ _ (Nat.le_refl _)
end Go.Proofs.YtljnkaodhfnbbaaGreatDoor.Ua
namespace Go.Proofs.YtljnkaodhfnbbaaGreatDoor.Ua
open Go.RowKit
theorem ret_three {a b:Int} {p q:Bool} {c d:Int} {k:IntKind} (h1:a=b) (h2:p=q) (h3:c=d):Ending.returned (.tuple #[.int k a,.bool p,.int .i64 c]) = .returned (.tuple #[.int k b,.bool q,.int .i64 d]):=by rw [h1,h2,h3]
theorem of_bad {F:Nat→Bool} (h:bad F=true):0=tb F∧false=tp F∧2=te F:=by unfold tb tp te;rw [h];exact ⟨rfl,rfl,rfl⟩
theorem of_good {F:Nat→Bool} (h:bad F=false):(val F 8:Int)=tb F∧par F 9=tp F∧0=te F:=by unfold tb tp te;rw [h];exact ⟨rfl,rfl,rfl⟩
set_option maxHeartbeats 400000 in
theorem take_bad (w:World) (F:Nat→Bool) (hb:bad F=true):Calls Tryz.prog 87 #[.agg (arr F)] w fun e w'=>e = .returned (.tuple #[.int .u8 (tb F),.bool (tp F),.int .i64 (te F)])∧Below w.heap.size w w':=by
 have R0:=Lib.hid (Row.new w F);have B0:=Lib.hid ((Below.refl w.heap.size w).alloc (Nat.le_refl _) (.cells (arr F) 113));have c0:=R0.out.cell 0 (by omega);have c10:=R0.out.cell 10 (by omega);have OB:=Lib.hid (of_bad hb);unfold bad at hb
 cases h0:F 0 with
 | true =>
   rw [h0] at c0;clear hb
   go_enter Tryz.func87,Tryz.ntmps87
   go_wp2
   go_ret3
   exact ⟨ret_three OB.out.1 OB.out.2.1 OB.out.2.2,B0.out⟩
 | false =>
   have h10:F 10=false:=by rw [h0] at hb;simpa using hb
   rw [h0] at c0;rw [h10] at c10;clear hb
   go_enter Tryz.func87,Tryz.ntmps87
   go_wp2
   go_ret3
   exact ⟨ret_three OB.out.1 OB.out.2.1 OB.out.2.2,B0.out⟩
set_option maxHeartbeats 400000 in
theorem take_good (w:World) (F:Nat→Bool) (hb:bad F=false):Calls Tryz.prog 87 #[.agg (arr F)] w fun e w'=>e = .returned (.tuple #[.int .u8 (tb F),.bool (tp F),.int .i64 (te F)])∧Below w.heap.size w w':=by
 have R0:=Lib.hid (Row.new w F);have B0:=Lib.hid ((Below.refl w.heap.size w).alloc (Nat.le_refl _) (.cells (arr F) 113));have c0:=R0.out.cell 0 (by omega);have c10:=R0.out.cell 10 (by omega);have OB:=Lib.hid (of_good hb);unfold bad at hb
 simp at hb
 obtain ⟨h0,h10⟩:=hb;rw [h0] at c0;rw [h10] at c10;clear h0 h10
 go_enter Tryz.func87,Tryz.ntmps87
 go_wp2
 go_loop [2,5] (fun x i=>∃ k:Nat,k≤8∧i = .int .i64 (k+1:Nat)∧x = .int .u8 (val F k:Nat)) (fun _ i=>9 - (intOf i).toNat)
 case atStart=>exact ⟨0,by omega,rfl,rfl⟩
 case round =>
  obtain ⟨k,hk,rfl,rfl⟩:=hrel
  by_cases hlt:k < 8
  ·have c:=R0.out.cell (k+1) (by omega)
   have hv:=val_lt F k
   cases hF:F (k+1) with
   | true =>
     rw [hF] at c;have E:=Lib.hid (or_bit (val F k) k hlt hv);have V:Hid (val F (k+1)=val F k+2 ^ k):=by show val F (k+1)=_;rw [val,hF];rfl
     clear hF hv;go_wp2_with fail;refine (place_any _ k hlt).mono ?_;rintro e w' ⟨rfl,rfl⟩;go_wp2
     go_round
     case rel=>exact ⟨k+1,by omega,by go_num,by rw [V.out,E.out]⟩
     case measure=>simp [intOf];omega
   | false =>
     rw [hF] at c;have V:Hid (val F (k+1)=val F k):=by show val F (k+1)=_;rw [val,hF];rfl
     clear hF hv;go_wp2
     go_round
     case rel=>exact ⟨k+1,by omega,by go_num,by rw [V.out]⟩
     case measure=>simp [intOf];omega
  ·obtain rfl:k=8:=by omega
   go_wp2_with (refine wpList_load_row rfl 113 _ rfl _ rfl _ _ _ _ R0.out Tryz.underlying113 rfl (info_of _) ?_)
   refine (isOdd_any _ _).mono ?_;rintro e w1 ⟨rfl,b1⟩;have B1:=Lib.hid (B0.out.trans (b1.mono B0.out.size));clear b1;go_wp2
   go_ret3
   exact ⟨ret_three OB.out.1 OB.out.2.1 OB.out.2.2,B1.out⟩
theorem take_any (w:World) (F:Nat→Bool):Calls Tryz.prog 87 #[.agg (arr F)] w fun e w'=>e = .returned (.tuple #[.int .u8 (tb F),.bool (tp F),.int .i64 (te F)])∧Below w.heap.size w w':=by
 cases h:bad F with
 | true=>exact take_bad w F h
 | false=>exact take_good w F h
end Go.Proofs.YtljnkaodhfnbbaaGreatDoor.Ua
namespace Go.Proofs.YtljnkaodhfnbbaaGreatDoor.Ua
open Go.RowKit
theorem turn_0 (F:Nat→Bool) (m:Int) (i:Nat):turn F m 0 i=F i:=by unfold turn;rw [if_neg (by omega)]
theorem turn_yes {F:Nat→Bool} {m:Int} {k:Nat} (h:bit m k=true) (i:Nat):upd (turn F m k) k (!turn F m k k) i=turn F m (k+1) i:=by
 unfold upd turn
 by_cases e:i=k
 ·subst e;rw [if_pos rfl,if_neg (by omega),if_pos (by omega),h];simp
 ·rw [if_neg e]
  by_cases c:i < k
  ·rw [if_pos c,if_pos (by omega)]
  ·rw [if_neg c,if_neg (by omega)]
theorem turn_no {F:Nat→Bool} {m:Int} {k:Nat} (h:bit m k=false) (i:Nat):turn F m k i=turn F m (k+1) i:=by
 unfold turn
 by_cases e:i=k
 ·subst e;rw [if_neg (by omega),if_pos (by omega),h];simp
 ·by_cases c:i < k
  ·rw [if_pos c,if_pos (by omega)]
  ·rw [if_neg c,if_neg (by omega)]
def Own2 (w wr:World) (F:Nat→Bool):Prop:=Row wr w.heap.size F∧Row wr (w.heap.size+1) no∧Below w.heap.size w wr
theorem own2_new (w:World) (F:Nat→Bool):Own2 w ((w.alloc (.cells (arr F) 113)).alloc (.cells (arr no) 113)) F:=by
 refine ⟨(Row.new w F).alloc _,?_,((Below.refl _ _).alloc (Nat.le_refl _) _).alloc (by simp) _⟩;have:=Row.new (w.alloc (.cells (arr F) 113)) no;have e:(w.alloc (.cells (arr F) 113)).heap.size=w.heap.size+1:=by simp
 rw [e] at this;exact this
theorem Own2.set_ {w wr:World} {F:Nat→Bool} (h:Own2 w wr F) (k:Nat) (hk:k < 11) (x:Bool):Own2 w (wr.setCell ⟨w.heap.size,k,none⟩ (.bool x)) (upd F k x) :=
 ⟨h.1.set_ k hk x,h.2.1.far (by simp) _,h.2.2.setCell (by simp) _⟩
theorem Own2.to {w wr:World} {F G:Nat→Bool} (h:Own2 w wr F) (e:∀ i,i < 11→F i=G i):Own2 w wr G:=⟨h.1.to e,h.2.1,h.2.2⟩
set_option maxHeartbeats 400000 in
theorem turn_any (w:World) (F:Nat→Bool) (m:Int):Calls Tryz.prog 43 #[.agg (arr F),.int .i64 m] w fun e w'=>e = .returned (.agg (arr (turn F m 11)))∧Below w.heap.size w w':=by
 have T0:=Lib.hid ((own2_new w F).to (fun i _=>(turn_0 F m i).symm))
 go_enter Tryz.func43,Tryz.ntmps43
 go_wp2
 go_loopw [6] (fun i wr=>∃ k:Nat,k≤11∧i = .int .i64 k∧Hid (Own2 w wr (turn F m k))) (fun i _=>11 - (intOf i).toNat)
 case atStart=>exact ⟨0,by omega,rfl,T0⟩
 case round =>
  obtain ⟨k,hk,rfl,T⟩:=hrel
  by_cases hlt:k < 11
  ·have c:=T.out.1.cell k hlt
   have f:=T.out.1.frozen k
   cases hb:bit m k with
   | true =>
     have TY:=Lib.hid (turn_yes (F:=F) hb);have tt:=(test_one m k).trans hb;clear hb;go_wp2
     go_roundw
     case rel=>exact ⟨k+1,by omega,by go_num,(T.out.set_ k hlt _).to (fun i _=>TY.out i)⟩
     case measure=>simp [intOf];omega
   | false =>
     have TN:=Lib.hid (turn_no (F:=F) hb);have tt:=(test_one m k).trans hb;clear hb;go_wp2
     go_roundw
     case rel=>exact ⟨k+1,by omega,by go_num,T.out.to (fun i _=>TN.out i)⟩
     case measure=>simp [intOf];omega
  ·obtain rfl:k=11:=by omega
   go_wp2_with (first
    | (refine wpList_load_row rfl 113 _ rfl _ rfl _ _ _ _ T.out.1 Tryz.underlying113 rfl (info_of _) ?_)
    | (refine wpList_store_row rfl 113 _ _ rfl _ _ rfl rfl _ _ T.out.2.1 (info_of _) rfl (arr_one _) ?_))
   refine bodyPost_ret (results_cell_row rfl _ _ _ _ _ _ _ rfl (T.out.2.1.row _) Tryz.underlying113 rfl (info_of _)) rfl ⟨rfl,?_⟩;exact below_setRow T.out.2.2 _ _ (by omega)
end Go.Proofs.YtljnkaodhfnbbaaGreatDoor.Ua
namespace Go.Proofs.YtljnkaodhfnbbaaGreatDoor.Pa
open Go.RowKit Go.Maps
open Rw (Rd Ow At)
open Fl (row_cell row_frozen)
open Ck (LL lat sN sE tE RdL)
open Ua (arr Row frm tb tp te put_any take_any turn_any info_of arr_one arr_congr below_setRow load_frame store_frame)
attribute [local irreducible] Sd.wpSd wpQuiet Sf.wpSf
def FramePost (w:World) (n:Int) (F:Nat→Bool) (b:Bool) (e:Ending) (w':World):Prop:=e = .returned (.tuple #[.int .i64 n,.agg (arr F),.bool b])∧Below w.heap.size w w'
theorem results_fr {fn:Func} {a p c:Tmp} (h:fn.results=#[.tmp a,.cell p 113,.tmp c]) (tmps:Array Value) (w:World) (g:Nat) (n:Value) (F:Nat→Bool) (b:Value)
 (ha:tmps.getD a undef=n) (hp:tmps.getD p undef = .pointer (some ⟨g,0,none⟩)) (hc:tmps.getD c undef=b) (h1:Row w g F) :
 (results fn tmps).run Tryz.prog w = .ok (.tuple #[n,.agg (arr F),b]) w:=by
 have e1:=h1.load;have hp':tmps[p]?.getD undef = .pointer (some ⟨g,0,none⟩):=by simpa using hp
 have ha':tmps[a]?.getD undef=n:=by simpa using ha
 have hc':tmps[c]?.getD undef=b:=by simpa using hc
 simp only [results,h]
 simp [Result.andThen,hp',ha',hc',asAddr,e1]
structure FrI (w wr:World) (F:Nat→Bool):Prop where
 row:Row wr w.heap.size F
 bel:Below w.heap.size w wr
theorem FrI.below {w wr wr':World} {F:Nat→Bool} (h:FrI w wr F) (b:Below wr.heap.size wr wr'):FrI w wr' F:=⟨h.row.below b h.row.lt,h.bel.trans (b.mono h.bel.size)⟩
theorem FrI.set {w wr:World} {F:Nat→Bool} (h:FrI w wr F) (G:Nat→Bool):FrI w (wr.setRow w.heap.size (arr G)) G:=⟨h.row.row G,below_setRow h.bel _ _ (Nat.le_refl _)⟩
theorem FrI.to {w wr:World} {F G:Nat→Bool} (h:FrI w wr F) (e:∀ i,i < 11→F i=G i):FrI w wr G:=⟨h.row.to e,h.bel⟩
theorem fr_new (w:World):FrI w (w.alloc (.cells (arr lowF) 113)) lowF:=⟨Row.new w lowF,(Below.refl w.heap.size w).alloc (Nat.le_refl _) _⟩
theorem sbX_byt {w:World} {vs vt vl:Value} {S:Sts} {T:LL} {V:List Bool} (H:Ns w vs vt vl S T V) (s:Int):byt (sbX S T V s):=by
 unfold sbX
 split
 ·rename_i h
  have h0:0≤sN s T:=by
   unfold snB at h;simp only [Bool.and_eq_true,decide_eq_true_eq] at h;exact h.1.1
  obtain ⟨n,hn,hlt,_⟩:=sender_is H.ok h0;obtain ⟨_,_,_,_,_,_,hS⟩:=H.st.one (k:=n) (by rw [← H.lt];exact hlt);unfold snX;rw [hn];exact rb_ok (gV_ok hS.okA _ _) _
 ·unfold byt;omega
set_option maxHeartbeats 1000000 in
theorem frame_any {w:World} {vs vt vl vp:Value} {S:Sts} {T:LL} {V:List Bool} {P:List S2} (H:Ns w vs vt vl S T V) (RP:Rd K2 w vp P) (s:Int):Calls Tryz.prog 86 #[vs,vt,vl,vp,.int .i64 s] w (FramePost w (sbN S T V s) (frF S T V P s) (snB S T V s)):=by
 have SA:=Lib.hid (fun W b=>sent_any (H.below (w':=W) b) s);unfold SentPost at SA;have F0:=Lib.hid (fr_new w);have RR:=Lib.hid RP;obtain ⟨ap,cp,rfl,_,hm,hA⟩:=RP;have HA:=Lib.hid hA;unfold maxLen at hm
 have XB:Hid (snB S T V s=true→byt (sbX S T V s)∧frF S T V P s=sq P s (frm (sbX S T V s) false) P.length):=Lib.hid (fun h=>⟨sbX_byt H s,by
  unfold frF sbX
  rw [if_pos h,if_pos h]⟩)
 have LO:Hid (snB S T V s=false→frF S T V P s=lowF∧sbN S T V s = -1):=Lib.hid (fun h=>by unfold frF sbN;rw [h];exact ⟨rfl,rfl⟩);clear hA H;generalize hn:P.length=n at *;have HN:=Lib.hid hn;clear hn;generalize frF S T V P s=FF at *;generalize sbN S T V s=m at *;generalize sbX S T V s=x at *;generalize snB S T V s=bb at *
 go_enter Tryz.func86,Tryz.ntmps86
 go_wp2_with fail;have F1:Hid (FrI w (w.alloc (.cells #[.bool false,.bool false,.bool false,.bool false,.bool false,.bool false,.bool false,.bool false,.bool false,.bool false,.bool false] 113)) lowF):=F0;clear F0;generalize (w.alloc (.cells #[.bool false,.bool false,.bool false,.bool false,.bool false,.bool false,.bool false,.bool false,.bool false,.bool false,.bool false] 113))=W at *;refine (SA.out W F1.out.bel).mono ?_;rintro e w1 ⟨rfl,b1⟩;have F2:=Lib.hid (F1.out.below b1);clear b1 F1 SA
 cases hb:bb with
 | false =>
   have EF:=Lib.hid (LO.out hb);clear LO XB;have F3:=Lib.hid (F2.out.set lowF)
   go_wp2_with ((with_reducible refine store_frame (o:=⟨none,_,_,_,_,_⟩) rfl _ _ rfl w.heap.size lowF lowF ?_ ?_ F2.out.row ?_);(exact rfl);(exact rfl))
   (try simp only [Exit.inBlock,Exit.then])
   refine bodyPost_ret (results_fr rfl _ _ _ _ lowF _ rfl rfl rfl F3.out.row) rfl ?_;exact ⟨by rw [EF.out.1,EF.out.2,hb];exact rfl,F3.out.bel⟩
 | true =>
   have EF:=Lib.hid (XB.out hb);clear LO XB;obtain ⟨x0,x1⟩:=EF.out.1;go_wp2_with fail;refine (put_any w1 x false x0 x1).mono ?_;rintro e w2 ⟨rfl,b2⟩;have F3:=Lib.hid ((F2.out.below b2).set (frm x false));have F4:=Lib.hid (F2.out.below b2);clear b2 F2 x0 x1
   go_wp2_with (refine wpList_store_row rfl 113 _ _ rfl _ _ rfl rfl _ _ F4.out.row (info_of (frm x false)) rfl (arr_one _) ?_)
   clear F4;generalize w2.setRow w.heap.size (arr (frm x false))=W2 at *
   go_loopw [32] (fun i wr=>∃ k:Nat,k≤n∧i = .int .i64 k∧Hid (FrI w wr (sq P s (frm x false) k))) (fun i _=>n - (intOf i).toNat)
   case atStart=>exact ⟨0,Nat.zero_le _,rfl,F3⟩
   case round =>
    obtain ⟨k,hk,rfl,I⟩:=hrel;clear F3
    by_cases hlt:k < n
    ·obtain ⟨b,off,rfl,A1⟩:=HA.out (by omega)
     obtain ⟨c0,c1⟩:=at2 (A1.below I.out.bel) (i:=k) (by have:=HN.out;omega);have Y:=Lib.hid (sq_yes P s (frm x false) (j:=k) (by have:=HN.out;omega));have N:=Lib.hid (sq_no P s (frm x false) (j:=k) (by have:=HN.out;omega));generalize pat P k=z at *;obtain ⟨z1,z2⟩:=z;simp only at c0 c1 Y N;generalize hG:sq P s (frm x false) (k+1)=G' at *;have EG:=Lib.hid hG;clear hG;generalize sq P s (frm x false) k=G at *;have I1:=Lib.hid (I.out.below ((Below.refl wr.heap.size wr).alloc (Nat.le_refl _) (.cells #[.int .i64 z1,.int .i64 z2] 155)));clear A1 I
     by_cases h1:z1=s
     ·subst h1
      have YY:=Y.out rfl;have TA:=Lib.hid (turn_any (wr.alloc (.cells #[.int .i64 z1,.int .i64 z2] 155)) G (bits BinOp.and .i64 z2 2046));have TE:Hid (∀ i,i < 11→Ua.turn G (bits BinOp.and .i64 z2 2046) 11 i=G' i):=Lib.hid (fun i hi=>by rw [YY];exact tn_code G z2 i hi);clear Y N YY;have SP:Hid ((wr.alloc (.cells #[.int .i64 z1,.int .i64 z2] 155)).heap[wr.heap.size]? = some (.cells #[.int .i64 z1,.int .i64 z2] 155 (0,0))):=Lib.hid (heap_alloc_new wr _);go_upto_region 9 with fail;generalize (wr.alloc (.cells #[.int .i64 z1,.int .i64 z2] 155))=W4 at *;have s1:W4.cell? ⟨wr.heap.size,1,none⟩=some (.int .i64 z2):=row_cell SP.out 1
      go_wp2_with (with_reducible refine load_frame (o:=⟨some 40,_,_,_,_,_⟩) rfl _ rfl w.heap.size G ?_ I1.out.row ?_);(exact rfl)
      refine TA.out.mono ?_;rintro e w5 ⟨rfl,b5⟩;have I5:=Lib.hid (I1.out.below b5);have I6:=Lib.hid ((I5.out.set (Ua.turn G (bits BinOp.and .i64 z2 2046) 11)).to TE.out);clear b5 I1 TA TE SP s1
      go_wp2_with ((with_reducible refine store_frame (o:=⟨none,_,_,_,_,_⟩) rfl _ _ rfl w.heap.size (Ua.turn G (bits BinOp.and .i64 z2 2046) 11) G ?_ ?_ I5.out.row ?_);(exact rfl);(exact rfl))
      go_roundw
      case rel=>exact ⟨k+1,by omega,by go_num,by rw [EG.out];exact I6⟩
      case measure=>simp [intOf];omega
     ·have I2:Hid (FrI w (wr.alloc (.cells #[.int .i64 z1,.int .i64 z2] 155)) (sq P s (frm x false) (k+1))):=by rw [EG.out,N.out h1];exact I1
      have d1:(z1 == s)=false:=by simpa using h1
      clear Y N I1;go_wp2
      go_roundw
      case rel=>exact ⟨k+1,by omega,by go_num,I2⟩
      case measure=>simp [intOf];omega
    ·obtain rfl:k=n:=by omega
     have EE:=Lib.hid EF.out.2;have FE:Hid (arr FF=arr (sq P s (frm x false) k)):=Lib.hid (by rw [EE.out]);go_upto_region 11 with fail;clear EF EE;generalize sq P s (frm x false) k=G at *;have C0:FrI w wr.drew G:=⟨I.out.row,I.out.bel.trans ((Below.refl wr.heap.size wr).drew.mono I.out.bel.size)⟩;have k0:=Sc.cell_in (C:=fun W=>FrI w W G) (a:=⟨w.heap.size,0,none⟩) (fun W' h=>h.row.cell 0 (by omega));have k1:=Sc.cell_in (C:=fun W=>FrI w W G) (a:=⟨w.heap.size,1,none⟩) (fun W' h=>h.row.cell 1 (by omega));have k2:=Sc.cell_in (C:=fun W=>FrI w W G) (a:=⟨w.heap.size,2,none⟩) (fun W' h=>h.row.cell 2 (by omega));have k3:=Sc.cell_in (C:=fun W=>FrI w W G) (a:=⟨w.heap.size,3,none⟩) (fun W' h=>h.row.cell 3 (by omega));have k4:=Sc.cell_in (C:=fun W=>FrI w W G) (a:=⟨w.heap.size,4,none⟩) (fun W' h=>h.row.cell 4 (by omega));have k5:=Sc.cell_in (C:=fun W=>FrI w W G) (a:=⟨w.heap.size,5,none⟩) (fun W' h=>h.row.cell 5 (by omega));have k6:=Sc.cell_in (C:=fun W=>FrI w W G) (a:=⟨w.heap.size,6,none⟩) (fun W' h=>h.row.cell 6 (by omega));have k7:=Sc.cell_in (C:=fun W=>FrI w W G) (a:=⟨w.heap.size,7,none⟩) (fun W' h=>h.row.cell 7 (by omega));have k8:=Sc.cell_in (C:=fun W=>FrI w W G) (a:=⟨w.heap.size,8,none⟩) (fun W' h=>h.row.cell 8 (by omega));have k9:=Sc.cell_in (C:=fun W=>FrI w W G) (a:=⟨w.heap.size,9,none⟩) (fun W' h=>h.row.cell 9 (by omega));have k10:=Sc.cell_in (C:=fun W=>FrI w W G) (a:=⟨w.heap.size,10,none⟩) (fun W' h=>h.row.cell 10 (by omega));have ne:Nonempty (Sc.In (fun W=>FrI w W G)):=⟨⟨_,C0⟩⟩;refine Sc.start (fun W=>FrI w W G) [(false,0),(false,1),(false,2),(true,3),(false,4)] (by kernel_rfl) (by kernel_rfl) (by kernel_rfl) C0 ?_;dsimp only [Sd.picks,List.getElem?_cons_succ,List.getElem?_cons_zero]
     repeat (refine Sd.lit ?_;quiet_step (fail);refine wpQuiet_nil ?_)
     refine Sd.call (by rfl) (fun K hK=>?_);refine wp_store_row 113 _ _ rfl w.heap.size (arr G) rfl rfl 113 _ C0.row (info_of G) rfl (arr_one G) ?_;have C1:=C0.set G;refine hK _ _ (Sc.Cl.of C1) ?_;clear hK K k0 k1 k2 k3 k4 k5 k6 k7 k8 k9 k10 C0 I;generalize wr.drew.setRow w.heap.size (arr G)=W9 at *;refine Sd.lit ?_
     quiet_step (fail)
     refine wpQuiet_nil ?_;refine Sd.done ?_;have C2:=Lib.hid C1;clear C1;go_wp2
     (try simp only [Exit.inBlock,Exit.then])
     refine bodyPost_ret (results_fr rfl _ _ _ _ G _ rfl rfl rfl C2.out.row) rfl ?_;exact ⟨by rw [FE.out,hb];exact rfl,C2.out.bel⟩
end Go.Proofs.YtljnkaodhfnbbaaGreatDoor.Pa
